import PyProof.Rows.All
import Wide.All
import OpenK.AllK
import Wide.FinOn
import Lean
import PyProof.EqAt
import PyProof.EqKinds
import PyProof.TupleCall
import PyProof.CompFree
import KE.KSortAsk
import KE.KSortTup
import KE.KRevSl
import PyProof.ZipIter
import PyProof.Draws
import PyProof.TupleIter
import PyProof.Rows.ZipGen
import PyProof.WalksMore
import PyProof.Rows.InDataRows
import PyProof.AttrMissSeq
import KE.KDictOf
import KE.KSortKey
import KE.KLam
import KE.KxText
import PyProof.Rows.Range3
import KE.KDictList
import PyProof.StationsW
import PyProof.Rows.Catch
import PyProof.ExcClass3
import PyProof.ExcBaseAll.ValueError
import OpenK.KOwn
import KE.KIsAll
import PyProof.ExcAttrAll.ValueError
import PyProof.Rows.SetFrom
import PyProof.ListMulRoad
import PyProof.StrOps2
import PyProof.FactsAll.tuple_2
import PyProof.ListStr
import PyProof.FitsBits
import PySem.Challenge.RW_kinnames_k62_whole_given
open PySem.Heap renaming get?_push_of_some→ae,get?_push_size→aC,lt_size→aD,size_push→br,get?_update_other→bt,get?_update_self→eR,SameBut→e7,IsTuple→mS,size_update→qe
open PySem renaming wpAny_bind→af,Value→ai,Addr→ao,Shared→aq,wpAny_pure→ar,Program→aH,sizeLine_eq→aL,World→aW,FuncData→aZ,Heap→bB,Expr→bF,Around→bK,boot_len→bM,wpAny_callSpecial?_slot→bU,wpAny_setField_rec→bX,wpAny_call_entry→cf,wpAny_newObj_type→cg,wpAny_field→cC,Builtin→cJ,wpAny_mono→cK,Stmt→cT,wpAny_holding→cV,wpAny_Call_Name_kw→c9,wpAny_seqItems→da,wpAny_truthy_bool→dt,PyData→dE,Spec→dF,wpAny_pyIter_tuple→dG,IsPair→dQ,codeAny_builtin→dW,mem_of_lookup→eA,codeAny_mono→eE,SetTable→eP,wpAny_passesOwn→eW,wpAny_loadPart'→eX,wpAny_pyIter_list→e8,wpAny_setState_of→fu,isSubtype_type→fL,tupleKind_room_in1→fQ,wpAny_rule→fR,Scope→fS,wpAny_attempt→fZ,plainId_quiet→f6,strKind→f7,wpAny_typeOf→gq,wpAny_pyIter_zip→gv,wpAny_setEntries_of→ig,wpAny_ite_split→ix,call_meetsIn→iI,wpAny_pyIter_enum→iM,IsZip→iN,fits_of_scanBound→iQ,builtinLookup_eq_fast→iV,call_meets→iX,wpAny_isInstance→iZ,wpAny_onRaise→i8,wpAny_loadName_local→jb,wpAny_newFunctionEnv→jd,wpAny_updateSeq_pair→je,wpAny_execs_nil→ji,wpAny_Constant_int→jx,NameKind→kg,wpAny_newTuple→ko,wpAny_letOwnedTupleGo_enum→ku,wpAny_letOwnedTupleGo_zip→lx,list_append→lF,wpAny_pyIter_slot→lM,wpAny_comprehension_free→lO,wpAny_newList→lQ,noFill_tuple_add→lW,wpAny_Call_method0_late→lX,wpAny_pyNext_enum_itemD→ma,wpAny_askSetting→mr,wpAny_Name→my,wpAny_call→mC,IsPart→mE,codeAny_compStart_list→mO,wpAny_pyNext_enum_endD→mR,codeAny_of_tree→nh,typeLookup_type→ni,wpAny_isTrue_Compare1→nj,weight_type_call_type→nv,Draws→nI,wpAny_letGo→nJ,isSubtype_stop→nK,entryFor_alias→nO,wpAny_runValue→nS,codeAny_call_builtin→nU,wpAny_fieldsOf→nV,wpAny_Tuple_spliced→nY,evalArgs_none→oa,wpAny_dictSet_pairs→og,wpAny_standAt→oq,seq_tuple_add→ot,evalPart_none→ou,Paired→oF,Result→oH,Within→oT,wpAny_assign_Name→oV,BindsTo→o4,concat_meets→o5,wpAny_sequenceKey→o6,seqIndex_neg→o7,slot_list_getitem→o8,meets_dict_values→pq,callType_new→pD,wpAny_storeSet_of→pL,wpAny_setEpoch_of→pQ,Params→pS,wpAny_pyHash_str→pT,wpAny_eqBool_str→pW,wpAny_execs_cons→pX,Fin→qb,entryFor_of_tree→qd,check_set_init_1→qk,seqIndex_of→ql,wpAny_of_eq→qm,wpAny_specialOf→qr,wpAny_updateSeq→rh,Keyword→rl,GenState→rA,CmpOp→rB,typeIs_int→rF,PlainAttrs→rG,call→rJ,wpAny_setField→rL,KeyKind→sr,intBits_le_64→su,call_list_seq→sS,wpAny_handled→sU,signature?_of→tw,Arguments→tH
open PySem.W renaming Frag→ag,nsIn→aY,mg_none_of→bC,mg_of→bT,keepIn→cy,findIn→cM,fnOf→c8,kia_one→dh,emptyDict→du,kas_place→dH,codeIn→ef,instObj→eh,kas_desc→fE,looks_pair→gd,kas_asc→iK,plainGet→iW,plainGet_of→jr,kas_descPart→jt,lookIn→ka,kitOne→ke,callWith_K→kf,methodObj→lC,hasDictIn→lE,isFn→mz,cellsFrom_some→mD,kas_rev→mP,takerIn→mX,makesIn→mY,OpenLaw→m9,methodCall_KW→nk,plainOver→oW,kitx_list→oX,kitx_dict→oY,kas_bin→ph,kas_sort→pj,handedIn→pY,kas_count→qa,SharedT→rk,CodeHd→rN,WalkO→sX,kla_obj→tU,kat_cons→ux
open List renaming length_map→ah,mem_cons_of_mem→aj,getElem?_eq_some_iff→ak,mem_cons_self→au,mem_map→av,length_append→aw,getElem?_eq_getElem→ay,getElem?_map→az,mem_cons→aE,take_succ_eq_append_getElem→aF,size_toArray→aG,mem_filter→aI,length_cons→aJ,mem_singleton→aM,length_take→aO,getElem?_append_right→aP,map_cons→aQ,replicate→aR,getElem?_append_left→aS,map_append→aU,mem_append_right→aX,map_map→bc,mem_flatMap→bf,mem_of_getElem?→bg,nodup_cons→bp,range→bu,take_length→bw,mem_append→bz,pairwise_map→bD,length_range→bE,mem_singleton_self→bJ,getD_eq_getElem?_getD→bL,mem_of_mem_take→bN,mem_range→bP,lookup_cons→bV,length_singleton→bW,mem_append_left→b0,length_drop→cc,pairwise_cons→cj,replicate_succ→cn,sum_cons→cp,cons_append→cu,length_filter_le→cI,length_eq_zero_iff→cS,getElem_mem→c6,getElem_of_mem→c7,not_mem_nil→dj,Nodup→dq,take_append_drop→dw,append_nil→dC,range_succ→dD,filter_cons_of_pos→dJ,filter_cons_of_neg→dM,append_assoc→dP,take_of_length_le→dR,drop_of_length_le→dS,nil_append→dU,length_replicate→dX,pairwise_flatMap→dZ,getElem_inj→d5,count_pos_iff→d9,getElem?_range→eC,flatMap_append→eD,drop_zero→eM,filter_append→eO,getElem?_eq_none→eS,drop_eq_getElem_cons→eV,foldl_cons→eY,forIn_cons→eZ,length→fc,take_sublist→fg,flatten_cons→fh,nodup_append→fi,foldl_append→fj,flatMap_cons→ft,forIn_nil→fD,getElem_map→fH,take_append_of_le_length→fM,find?_cons→fU,any_cons→fX,take_eq_take_min→f9,mem_erase_of_ne→gh,mem_of_mem_drop→gp,toArray→gs,getElem?_zip_eq_some→gz,map_congr_left→ie,length_erase_of_mem→iq,map_take→iu,lookup→iC,getElem?_replicate→iD,lt_irrefl→iL,length_pos_of_mem→iP,lookup_cons_self→iT,eq_nil_or_concat→iU,all_eq_true→iY,ext_getElem→i0,replicate_succ'→jf,count_eq_zero_of_not_mem→jh,length_zip→jn,filterMap_cons→jq,count→kx,map_replicate→ky,map→kz,length_eraseIdx_of_lt→lh,pairwise_iff_getElem→lr,count_append→lK,zipIdx_cons→md,getElem?_set_self→mx,map_nil→mK,drop_eq_nil_of_le→mW,of_mem_zip→mZ,zipIdx_nil→m8,count_cons_of_ne→nq,getElem?_toArray→ny,getElem?_set_ne→nF,take_zero→nM,pairwise_append→nR,mem_map_of_mem→oh,filter_sublist→oo,all_cons→oy,lt_trans→oz,map_drop→oA,mem_filterMap→oG,reverse_cons→o9,count_filter→pG,all_map→pI,nodup_range→p9,drop_append→qh,length_nil→qq,sum_append→qv,count_cons→qz,foldl→rH,take_add→sY,not_lt→uv
open Nat renaming le_refl→aA,ne_of_lt→aV,zero_le→bo,lt_of_lt_of_le→bq,lt_succ_of_lt→bH,lt_irrefl→bI,le_trans→bS,ne_of_gt→cw,lt_succ_self→cQ,le_succ→fb,le_of_eq→fN,sub_zero→gu,sub_self→iO,succ_mul→mJ,lt_trans→mM,gcd_comm→mT,not_lt_zero→ng,pow_le_pow_right→nP,mul_le_mul_left→om,le_of_lt→oU,add_zero→pE,mul_succ→pK,dvd_mul_left→qf,min_eq_left→rj,mod_lt→rP,mul_comm→tP,gcd→tV,Coprime→uy,not_lt→vw
open Option.some renaming inj→aB
open Bool renaming false_ne_true→aT,and_eq_true→bA,false_eq_true→eJ,eq_iff_iff→fT,or_eq_true→jj,false_or→lN,and_self→lP,false_and→nG,and_true→tF,true_or→tQ
open Array renaming length_toList→bh,getElem?_eq_getElem→dm,getElem?_toList→dY,getElem?_eq_some_iff→lq,toList_push→lB,getElem?_eq_none→mV,toArray_toList→nQ,forIn_toList→oP,toList_inj→pR,toList→tO,ext→wq
open PySem.Challenge renaming pw_kinnames_k62_whole_given→bj
open PySem.Obj renaming mapSeq→bG,data_mapFields→oO,putSet→rS
open Int renaming eq_ofNat_of_zero_le→bO,toNat_natCast→cX,le_of_lt→cY,mul_le_mul_of_nonneg_right→d8,gcd_dvd_right→fk,mul_comm→fm,mul_lt_mul_of_pos_right→gc,pow_pos→gj,lt_of_mul_lt_mul_right→gm,mul_assoc→ip,mul_right_comm→iz,gcd→i9,dvd_trans→ja,fdiv_eq_ediv_of_nonneg→jz,emod_lt_of_pos→lg,mul_pos→lL,gcd_dvd_left→mm,emod_nonneg→nc,mul_ediv_cancel'→nN,ediv_mul_cancel→oj,lt_trichotomy→pF,pow_succ→pH,ediv_le_self→qg,ediv_nonneg→rf,mul_nonneg→rQ,mul_le_mul→rR,le_of_dvd→tj,zero_add→tW,dvd_refl→tY,ofNat_le→t9,pow_add→uz,le_refl→va
open PyProof.Rows renaming callWith_type1→bQ,boot_isinstance→cq,slot_tuple_getitem→cz,boot_list→eG,boot_all→eT,callWith_builtin1→fC,boot_tuple→fI,subscriptTail_builtinR→fO,listUpdate_at→fY,get?_update_seq→iw,Subscript_→kj,slot_tuple_getitem→kl,AllBare→lD,seqEpoch_at→lH,boot_bool→mU,boot_sum→nr,boot_max→nB,entry_tuple_getitem→nZ,getItem_tuple→ox,args_tuple_getitem→oJ,listItems_at→pk,entry_list_sort→qy,IntsAre→rm,IsTup→rq,slicePart_none→rC,boot_enumerate→rK,slot_list_sort→rM,tupleItemsOf_→sR,boot_sorted→tG,StrsAre→tR,boot_dict→tZ,boot_str→ua,boot_int→ub,boot_min→ud,boot_set→ue,Call_→uh,tail_any→um,SortKind→uw,lt_str→vm,envOfC→vn
open PySem.PassesOwn renaming never→bR
open Prod.mk renaming inj→bY
open PySem.Builtin.SmallTypes renaming nextOf→bZ,ownedTupleIsFree→b8,ownedTupleHandOut→ic
open List.Pairwise renaming imp_of_mem→cb,map→pJ,imp→wj
open PySem.F renaming plainAttrs_dict→ck,called_set→cZ,plainAttrs_list→dN,slot_dict_values→ee,slot_dict_items→eg,slot_tuple_iterator_next→eN,slot_list_extend→fA,type_list_extend→fB,slot_list_getattribute→fG,type_dict_items→fJ,slot_dict_setdefault→fV,slot_zip_next→fW,args_tuple_add_2→ik,type_dict_values→ir,entry_tuple_add→iE,slot_tuple_add→iH,slot_dict_get→iS,args_list_append_2→jc,slot_dict_itemiterator_iter→jg,args_tuple_iterator_next_1→jk,type_dict_setdefault→jl,entry_list_append→js,entry_tuple_iterator_next→ju,slot_list_append→km,args_dict_values_1→kr,entry_dict_values→lu,plain_extend_loop→lA,args_zip_next_1→lI,slot_list_append→lU,type_list_append→lV,args_dict_get_3→lZ,entry_zip_next→me,plain_list_iadd→mw,entry_dict_get→mN,slot_set_iter→nz,args_object_init_3→nL,entry_type_call→pM,typeCall_zip_2→qc,typeCall_set_1→qi,entry_set_init→qj,slot_int_rmul→qp,newCall_zip_2→qw,entry_zip_new→qx,plain_set_new→rg,called_zip→tS
open PySem.Value renaming isStrOf→cU,isStrOf_shape→eu,isInt→uf
open PySem.Paired renaming length→de,snoc→uu
open PySem.Str renaming ofString→di,length→rE,empty→wo
open PySem.PyData renaming canLayAll0→dv,canLay0→eK,depth→gx,eqv→iy,depthAll→jm,eqvAll→sT,strOk→tX
open List.Perm renaming refl→dy,append_left→uc,length_eq→vh,nodup_iff→vk,cons_inv→vz,mem_iff→wc
open Ne renaming symm→dz
open PySem.Around renaming under_plainId→dI,under_plain→oR,under→oZ
open PySem.Builtin.Str renaming strSliceIndices→dO,occurrences→iB
open False renaming elim→d6
open PySem.Calls renaming spliced_cons→d7,callWith_builtin→fP,spliced_nil→gb,Name_function_global→jy,evalArgs_plain→nH
open Prod renaming ext→eI,snd→rO,fst→wA
open PySem.SetTable renaming below→eQ,grown→fK,laid→tm,fits→tD
open PySem.Builtin.Slice renaming slicePlaces→eU,sliceAdjust→gy,sliceApplied→kh,slicePartIndex→qo,sliceFields→sq
open PySem.Builtin.Tuple renaming tupleExact→fw,tupleItemsOf→ki,tupleIsExact→rW
open PySem.Builtin.List renaming listTooLong→fz,listLengthHint→jv,listExtendWith→jw,listSameRef→lR
open PySem.Heap.SameBut renaming update→ia,refl→we
open Option renaming isSome_iff_exists→ij,bind_eq_some_iff→iA,map_eq_some_iff→iG,isSome_map→lG,getD_none→pZ
open PySem.Shared renaming TypeIs→il,heap→lJ
open PyProof.Rows.F renaming plain_set_update_loop→iF,entry_set_update_loop→mq
open PySem.SeqAt renaming shaped→iJ,EqAt→vo
open Nat.Coprime renaming dvd_of_dvd_mul_left→iR
open PySem.Builtin.Frozenset renaming updateFrom→jo,newClass→rT,sizeOf→tE,slot0→tL
open Classical renaming byContradiction→lz,choose_spec→nu
open PySem.IsL renaming update→lY
open PySem.Builtin.Dict renaming updateFrom→mj,addKeywords→sV,selfAndRest→sW,pairItems→tT
open PySem.Draws renaming list→mQ
open Sum.inr renaming inj→nC
open PySem.SeqAt.EqAt renaming bool_bool→nE,str_bool→nW,bool_str→nX,int_str→oB,str_int→oE,int_int→oK,str_str→oM,none_bool→uo,bool_none→ur,none_int→vb,none_str→vc,bool_int→vd,int_none→ve,int_bool→vf,str_none→vg,same→wu
open PySem.Walks renaming list→oN
open PySem.Code renaming quiet_builtin→oQ,isFrame→o2,frames→uk
open PySem.AutoListH renaming list___mul___list_int_3→oS
open PySem.Txt renaming join→pA,slice→tK
open PySem.Heap.IsTuple renaming push→pB
open String renaming splitOnAux→pN,splitOn→rV
open PySem.pickOrder renaming go→pO
open PySem.SetTable.below renaming go→pP
open PySem.Heap.DictOf renaming new→qt
open StateT renaming run_pure→qu
open PySem.EqNone renaming eq_none_none→rX,eq_none_bool→rY,eq_bool_none→rZ,ne_none_none→se,ne_none_bool→sf,ne_bool_none→sg,eq_none_int→sy,eq_none_str→sA,eq_int_none→sC,eq_str_none→sI,ne_none_int→sL,ne_none_str→sM,ne_int_none→sN,ne_str_none→sP
open PySem.EqMixed renaming eq_bool_str→r9,eq_str_bool→sd,ne_bool_str→si,ne_str_bool→so,eq_int_str→sF,eq_str_int→sJ,ne_int_str→sO,ne_str_int→sQ
open PySem.Moved renaming eq_with→sZ
open PySem.Builtin.Range renaming rangeSize→tI
open PyProof.Rows.IsTup renaming new→tJ
open Sum.inl renaming inj→ug
open PySem.W.Looks renaming here→vp
open PySem.Heap.IsSliceOf renaming new→vq
open PySem.W.WShape renaming has→vt
open PySem.Within renaming cons→wa
open Iff renaming rfl→wb
open List.Sublist renaming refl→wg
open PySem.DictEntry renaming refKey→wm
open PySem.W.Frag renaming In→wz
open List.cons renaming inj→wB
set_option Elab.async false
set_option linter.all false
set_option maxRecDepth 100000
set_option maxHeartbeats 4000000
section
namespace L2
open PySem
noncomputable def inClass (s:cT)(j:Nat):cT:=match s with
 | .ClassDef _ _ _ body _ _ _ _ _ _ _=>body.getD j (.Pass ⟨0,0,0,0⟩)
 |_=>.Pass ⟨0,0,0,0⟩
noncomputable def defArgs (s:cT):tH:=match s with
 | .FunctionDef _ a _ _ _ _ _ _ _ _=>a
 |_=>{posonlyargs:=[],args:=[],vararg:=none,kwonlyargs:=[],kw_defaults:=[],kwarg:=none,defaults:=[]}
noncomputable def defBody (s:cT):List cT:=match s with
 | .FunctionDef _ _ b _ _ _ _ _ _ _=>b
 |_=>[]
noncomputable def defScope (s:cT):fS:=match s with
 | .FunctionDef _ _ _ _ _ _ sc _ _ _=>sc
 |_=>{kind:=.function,names:=[],isGenerator:=false,isCoroutine:=false}
end L2
namespace Kn
open PySem
noncomputable def top (i:Nat):cT:=bj.main.body.getD i (.Pass ⟨0,0,0,0⟩)
end Kn
namespace Kn
open PySem PySem.W PyProof.Rows
noncomputable def topRunT (tb:String->Option cJ)(p:aH)(w:aW)(n₀:Nat)(ann:Option ai):Nat->rk->Thread->Option rk
 |0,_,_=>none
 |n+1,s,t=>match through t with
  |true=>some s
  |false=>match stepOk n₀ ann t with
   |false=>none
   |true=>match stepT (denote tb) p w s t with
    |some (s',t')=>topRunT tb p w n₀ ann n s' t'
    |none=>none
theorem topRun_of {tb:String->Option cJ}{p:aH}{w:aW}{n₀:Nat}{ann:Option ai}:∀{n:Nat}{s s':rk}{t:Thread},topRunT tb p w n₀ ann n s t=some s'->topRun tb p w n₀ ann n s.abs t=some s'.abs
 |0,_,_,_,h=>by cases h
 |n+1,s,s',t,h=>by
  unfold topRunT at h
  unfold topRun
  cases he:through t with
  |true=>rw[he]at h;cases h;rfl
  |false=>
   rw[he]at h
   cases hk:stepOk n₀ ann t with
   |false=>rw[hk]at h;cases h
   |true=>
    rw[hk]at h
    cases hs:stepT (denote tb) p w s t with
    |none=>rw[hs]at h;cases h
    |some r=>obtain⟨s₂,t₂⟩:=r;rw[hs]at h;rw[stepT_spec hs];exact topRun_of h
noncomputable def insAll:List Obj->Nat->BT->Option BT
 | [],_,T=>some T
 |o::os,n,T=>match((T.ins n o).get n).isSome with
  |true=>insAll os (n+1) (T.ins n o)
  |false=>none
theorem insAll_abs {life:Life}:∀{os:List Obj}{n:Nat}{T T':BT},insAll os n T=some T'->(absHeap T' (n+os.length) life).objs.toList=(absHeap T n life).objs.toList++os
 | [],n,T,T',h=>by cases h;simp
 |o::os,n,T,T',h=>by
  unfold insAll at h
  cases hi:((T.ins n o).get n).isSome with
  |false=>rw[hi]at h;cases h
  |true=>
   rw[hi]at h
   have h1:=insAll_abs (life:=life) h
   have h2:=absHeap_ins (life:=life) hi
   have e:n+1+os.length=n+(o::os).length:=by rw[aJ];omega
   rw[<-e,h1,h2]
   show((absHeap T n life).objs.push o).toList++os=_
   rw[lB,dP];rfl
theorem insAll_of {s:aq}{T:BT}(h:insAll s.heap.objs.toList 0 .nil=some T):(SharedT.mk T s.heap.objs.size s.heap.life s.gens s.drawn s.toks s.os).abs=s:=by
 have h1:=insAll_abs (life:=s.heap.life) h
 have e0:(absHeap .nil 0 s.heap.life).objs.toList=[]:=rfl
 have e1:0+s.heap.objs.toList.length=s.heap.objs.size:=by rw[Nat.zero_add];rfl
 rw[e0,dU,e1]at h1
 have h2:absHeap T s.heap.objs.size s.heap.life=s.heap:=by
  have h3:(absHeap T s.heap.objs.size s.heap.life).objs=s.heap.objs:=pR.mp h1
  have h4:(absHeap T s.heap.objs.size s.heap.life).life=s.heap.life:=rfl
  generalize absHeap T s.heap.objs.size s.heap.life=A at h3 h4
  cases A
  obtain⟨⟨o,l⟩,_,_,_,_⟩:=s
  subst h3 h4
  rfl
 unfold SharedT.abs
 dsimp only
 rw[h2]
noncomputable def topFromT (tb:String->Option cJ)(p:aH)(w:aW)(N:Nat)(s₀:aq)(T₀:rk):Option aq :=
 match s₀.heap.isNs mainGlobals&&s₀.gens.size==0 with
 |true=>(topRunT tb p w s₀.heap.objs.size (s₀.heap.nsMap mainGlobals "__annotations__") N T₀ (topStub p)).bind fun t₁=>match staticsOk (importedModules p.main.body) s₀.heap t₁.abs.heap&&namesBound p t₁.abs.heap&&gensDone t₁.abs&&laidKept s₀.heap t₁.abs.heap with
   |true=>some t₁.abs
   |false=>none
 |false=>none
theorem topFrom_of {tb:String->Option cJ}{p:aH}{w:aW}{N:Nat}{s₀:aq}{T₀:rk}{s₁:aq}(e:T₀.abs=s₀)(h:topFromT tb p w N s₀ T₀=some s₁):topFrom tb p w N s₀=some s₁:=by
 unfold topFromT at h
 unfold topFrom
 cases hb:s₀.heap.isNs mainGlobals&&s₀.gens.size==0 with
 |false=>rw[hb]at h;cases h
 |true=>
  rw[hb]at h
  dsimp only at h⊢
  obtain⟨t₁,h1,h2⟩:=iA.mp h
  have h3:=topRun_of h1
  rw[e]at h3
  rw[h3]
  exact h2
noncomputable def openEndsT (tb:String->Option cJ)(p:aH)(w:aW)(N:Nat):Option aq:=(fencedOpening tb p w N).bind fun s₀=>(insAll s₀.heap.objs.toList 0 .nil).bind fun T=>topFromT tb p w N s₀ ⟨T,s₀.heap.objs.size,s₀.heap.life,s₀.gens,s₀.drawn,s₀.toks,s₀.os⟩
theorem openEnds_of {tb:String->Option cJ}{p:aH}{w:aW}{N:Nat}{s₁:aq}(h:openEndsT tb p w N=some s₁):openEnds tb p w N=some s₁:=by
 obtain⟨s₀,h1,h2⟩:=iA.mp h
 obtain⟨T,h3,h4⟩:=iA.mp h2
 unfold openEnds
 rw[h1]
 exact topFrom_of (insAll_of h3) h4
theorem openMap_of {tb:String->Option cJ}{p:aH}{w:aW}{N:Nat}{α:Type}{F:aq->α}{r:α}(h:(openEndsT tb p w N).map F=some r):(openEnds tb p w N).map F=some r:=by
 obtain⟨s₁,h1,h2⟩:=iG.mp h
 rw[openEnds_of h1,Option.map_some,h2]
end Kn
open PySem PySem.W PyProof.Rows
namespace Kn
open L2
noncomputable def kE (P:pS)(x:Str)(t:Nat)(v:ai):DictEntry:=⟨PyData.keyHash P x,.str x t,v⟩
noncomputable def kF (s:cT)(nm qn:Str)(df kd doc pm:ai)(an:Option ao)(cd ct:ai)(c:ai)(d:Option ao)(sl:Array (Option ai)):Obj :=
 ⟨c,d,.func (c8 nm qn (defArgs s) (defBody s) (defScope s) df kd doc pm an cd ct),sl⟩
noncomputable def kC (n:Str)(a b c:Nat)(i3 i4 i5 i6 i7:Int)(r8:ao)(b9:Bool)(i10:Int)(r11 r13 r14 r15:ao)(i16 i17:Int)(e:Nat):Obj :=
 ⟨.type "code",none,.fields #[.str n a,.str n b,.str (.ofString "/claim/cut.py") c,.int i3 0,.int i4 0,.int i5 0,.int i6 0,.int i7 0,.ref r8,.bool b9,.int i10 0,.ref r11,.none,.ref r13,.ref r14,.ref r15,.int i16 0,.int i17 0,.str (.ofString "/claim/cut.py") e],#[]⟩
noncomputable def kD (s:cT)(n m:Str)(t:Nat)(c:ao):Obj:=kF s n n .none .none .none (.str m t) none (.ref c) .none (.type "function") none #[]
noncomputable def kfr0:pS->Frag:=fun P=>(nat_lit 2,⟨.none,none,.dict #[] 0,#[]⟩)::
 (nat_lit 3,⟨(.type "dict"),none,.dict #[kE P (.ofString "__name__") 165 (.str (.ofString "law_kinnames_k62_whole_given") 695),kE P (.ofString "__doc__") 166 .none,kE P (.ofString "__package__") 167 .none,kE P (.ofString "__loader__") 168 (.builtin "__main__.__loader__#opaque"),kE P (.ofString "__spec__") 169 .none,kE P (.ofString "__annotations__") 170 (.ref 6),kE P (.ofString "__builtins__") 171 (.ref 4),kE P (.ofString "__file__") 173 (.str (.ofString "/claim/cut.py") 172),kE P (.ofString "__cached__") 174 .none,kE P (.ofString "_wall") 193 (.ref 21),kE P (.ofString "LikeError") 213 (.ref 31),kE P (.ofString "NoBook") 229 (.ref 44),kE P (.ofString "NoOrder") 245 (.ref 56),kE P (.ofString "NoName") 261 (.ref 68),kE P (.ofString "NoWish") 277 (.ref 80),kE P (.ofString "NoNumber") 293 (.ref 92),kE P (.ofString "Nothing") 309 (.ref 104),kE P (.ofString "LETTERS") 313 (.str (.ofString "abcdefghijklmnopqrstuvwxyz") 312),kE P (.ofString "MOST_LETTERS") 315 (.int (8) 314),kE P (.ofString "MOST_NAMES") 317 (.int (8) 316),kE P (.ofString "MOST_ORDER") 319 (.int (3) 318),kE P (.ofString "is_name") 325 (.ref 111),kE P (.ofString "is_book") 331 (.ref 116),kE P (.ofString "is_whole") 340 (.ref 123),kE P (.ofString "is_order") 347 (.ref 130),kE P (.ofString "is_rising") 353 (.ref 135),kE P (.ofString "need_book") 360 (.ref 142),kE P (.ofString "need_order") 367 (.ref 149),kE P (.ofString "need_whole") 376 (.ref 156),kE P (.ofString "need_name") 383 (.ref 163),kE P (.ofString "end_of") 391 (.ref 170),kE P (.ofString "ends_and_letters") 397 (.ref 175),kE P (.ofString "counted_rows") 410 (.ref 182),kE P (.ofString "NOUGHT") 415 (.ref 183),kE P (.ofString "greatest_divisor") 424 (.ref 190),kE P (.ofString "lowest") 433 (.ref 197),kE P (.ofString "part_in") 441 (.ref 204),kE P (.ofString "ANY") 445 (.str (.ofString "") 444),kE P (.ofString "common_multiple") 453 (.ref 211),kE P (.ofString "whole_weight") 462 (.ref 218),kE P (.ofString "parts_by_rows") 468 (.ref 223),kE P (.ofString "left_of") 476 (.ref 230),kE P (.ofString "may_follow") 484 (.ref 237),kE P (.ofString "heaviest") 492 (.ref 244),kE P (.ofString "next_heaviest") 498 (.ref 249),kE P (.ofString "heaviest_along") 504 (.ref 254),kE P (.ofString "LEAST") 508 (.int (0) 507),kE P (.ofString "MOST") 510 (.int (1) 509),kE P (.ofString "HEAD") 512 (.int (2) 511),kE P (.ofString "TAIL") 514 (.int (3) 513),kE P (.ofString "BARRED") 516 (.int (4) 515),kE P (.ofString "TOLD") 518 (.int (5) 517),kE P (.ofString "MANY_PARTS") 520 (.int (6) 519),kE P (.ofString "MOST_EDGE") 522 (.int (3) 521),kE P (.ofString "MOST_BARRED") 524 (.int (6) 523),kE P (.ofString "is_edge") 531 (.ref 261),kE P (.ofString "is_barred") 537 (.ref 266),kE P (.ofString "is_wish") 544 (.ref 273),kE P (.ofString "need_wish") 551 (.ref 280),kE P (.ofString "left_out") 559 (.ref 287),kE P (.ofString "go_together") 567 (.ref 294),kE P (.ofString "patterns_of_length") 573 (.ref 299),kE P (.ofString "patterns") 582 (.ref 306),kE P (.ofString "MOST_LIKELIEST") 586 (.int (20) 585),kE P (.ofString "heaviest_fitting") 592 (.ref 311),kE P (.ofString "heaviest_name") 603 (.ref 318),kE P (.ofString "likeliest") 613 (.ref 325),kE P (.ofString "Keeper") 694 (.ref 382),kE P (.ofString "_law_cell") 704 (.ref 393),kE P (.ofString "_law_drawn") 714 (.ref 400),kE P (.ofString "_law_name") 720 (.ref 405),kE P (.ofString "_law_book") 732 (.ref 412),kE P (.ofString "_law_wish") 747 (.ref 419),kE P (.ofString "law") 753 (.ref 424)] 74,#[]⟩)::
 (nat_lit 20,kC "_wall" 187 188 189 1 1 0 0 3 15 true 181 16 17 18 19 191 1 192)::
 (nat_lit 21,kD (top 0) "_wall" "__main__" 164 20)::
 (nat_lit 32,⟨(.type "getset_descriptor"),none,.fields #[(.str (.ofString "__weakref__") 209),(.ref 31),(.builtin "ExceptionGroup.__weakref__"),.none],#[]⟩)::
 (nat_lit 110,⟨(.type "code"),none,.fields #[(.str (.ofString "is_name") 320),(.str (.ofString "is_name") 321),(.str (.ofString "/claim/cut.py") 322),(.int (24) 0),(.int (1) 0),(.int (0) 0),(.int (0) 0),(.int (3) 0),(.ref 107),(.bool true),(.int (181) 0),(.ref 108),.none,.none,.none,(.ref 109),(.int (323) 0),(.int (24) 0),(.str (.ofString "/claim/cut.py") 324)],#[]⟩)::
 (nat_lit 111,kD (top 14) "is_name" "kinnames.books" 310 110)::
 (nat_lit 115,⟨(.type "code"),none,.fields #[(.str (.ofString "is_book") 326),(.str (.ofString "is_book") 327),(.str (.ofString "/claim/cut.py") 328),(.int (28) 0),(.int (1) 0),(.int (0) 0),(.int (0) 0),(.int (3) 0),(.ref 112),(.bool true),(.int (181) 0),(.ref 113),.none,.none,.none,(.ref 114),(.int (329) 0),(.int (28) 0),(.str (.ofString "/claim/cut.py") 330)],#[]⟩)::
 (nat_lit 116,kD (top 15) "is_book" "kinnames.books" 310 115)::
 (nat_lit 122,kC "is_whole" 332 333 334 32 3 0 0 3 117 true 181 118 119 120 121 338 32 339)::
 (nat_lit 123,kD (top 16) "is_whole" "kinnames.books" 310 122)::
 (nat_lit 129,kC "is_order" 341 342 343 36 1 0 0 3 124 true 181 125 126 127 128 345 36 346)::
 (nat_lit 130,kD (top 17) "is_order" "kinnames.books" 310 129)::
 (nat_lit 134,⟨(.type "code"),none,.fields #[(.str (.ofString "is_rising") 348),(.str (.ofString "is_rising") 349),(.str (.ofString "/claim/cut.py") 350),(.int (38) 0),(.int (1) 0),(.int (0) 0),(.int (0) 0),(.int (3) 0),(.ref 131),(.bool true),(.int (181) 0),(.ref 132),.none,.none,.none,(.ref 133),(.int (351) 0),(.int (38) 0),(.str (.ofString "/claim/cut.py") 352)],#[]⟩)::
 (nat_lit 135,kD (top 18) "is_rising" "kinnames.books" 310 134)::
 (nat_lit 141,kC "need_book" 354 355 356 40 1 0 0 3 136 true 181 137 138 139 140 358 40 359)::
 (nat_lit 142,kD (top 19) "need_book" "kinnames.books" 310 141)::
 (nat_lit 148,kC "need_order" 361 362 363 43 1 0 0 3 143 true 181 144 145 146 147 365 43 366)::
 (nat_lit 149,kD (top 20) "need_order" "kinnames.books" 310 148)::
 (nat_lit 155,kC "need_whole" 368 369 370 46 3 0 0 3 150 true 181 151 152 153 154 374 46 375)::
 (nat_lit 156,kD (top 21) "need_whole" "kinnames.books" 310 155)::
 (nat_lit 162,kC "need_name" 377 378 379 49 1 0 0 3 157 true 181 158 159 160 161 381 49 382)::
 (nat_lit 163,kD (top 22) "need_name" "kinnames.books" 310 162)::
 (nat_lit 169,kC "end_of" 384 385 386 52 2 0 0 3 164 true 181 165 166 167 168 389 52 390)::
 (nat_lit 170,kD (top 23) "end_of" "kinnames.books" 310 169)::
 (nat_lit 174,⟨(.type "code"),none,.fields #[(.str (.ofString "ends_and_letters") 392),(.str (.ofString "ends_and_letters") 393),(.str (.ofString "/claim/cut.py") 394),(.int (54) 0),(.int (2) 0),(.int (0) 0),(.int (0) 0),(.int (3) 0),(.ref 171),(.bool true),(.int (181) 0),(.ref 172),.none,.none,.none,(.ref 173),(.int (395) 0),(.int (54) 0),(.str (.ofString "/claim/cut.py") 396)],#[]⟩)::
 (nat_lit 175,kD (top 24) "ends_and_letters" "kinnames.books" 310 174)::
 (nat_lit 181,kC "counted_rows" 398 399 400 56 2 0 0 3 176 true 181 177 178 179 180 408 56 409)::
 (nat_lit 182,kD (top 25) "counted_rows" "kinnames.books" 310 181)::
 (nat_lit 183,⟨(.type "tuple"),none,.seq #[(.int (0) 413),(.int (1) 414)] 0,#[]⟩)::
 (nat_lit 189,kC "greatest_divisor" 416 417 418 65 2 0 0 3 184 true 181 185 186 187 188 422 65 423)::
 (nat_lit 190,kD (top 28) "greatest_divisor" "kinnames.shares" 411 189)::
 (nat_lit 196,kC "lowest" 425 426 427 71 2 0 0 3 191 true 181 192 193 194 195 431 71 432)::
 (nat_lit 197,kD (top 29) "lowest" "kinnames.shares" 411 196)::
 (nat_lit 203,kC "part_in" 434 435 436 74 2 0 0 3 198 true 181 199 200 201 202 439 74 440)::
 (nat_lit 204,kD (top 30) "part_in" "kinnames.shares" 411 203)::
 (nat_lit 210,kC "common_multiple" 446 447 448 80 2 0 0 3 205 true 181 206 207 208 209 451 80 452)::
 (nat_lit 211,kD (top 33) "common_multiple" "kinnames.ways" 442 210)::
 (nat_lit 217,kC "whole_weight" 454 455 456 82 1 0 0 3 212 true 181 213 214 215 216 460 82 461)::
 (nat_lit 218,kD (top 34) "whole_weight" "kinnames.ways" 442 217)::
 (nat_lit 222,⟨(.type "code"),none,.fields #[(.str (.ofString "parts_by_rows") 463),(.str (.ofString "parts_by_rows") 464),(.str (.ofString "/claim/cut.py") 465),(.int (87) 0),(.int (1) 0),(.int (0) 0),(.int (0) 0),(.int (3) 0),(.ref 219),(.bool true),(.int (181) 0),(.ref 220),.none,.none,.none,(.ref 221),(.int (466) 0),(.int (87) 0),(.str (.ofString "/claim/cut.py") 467)],#[]⟩)::
 (nat_lit 223,kD (top 35) "parts_by_rows" "kinnames.ways" 442 222)::
 (nat_lit 229,kC "left_of" 469 470 471 92 2 0 0 3 224 true 181 225 226 227 228 474 92 475)::
 (nat_lit 230,kD (top 36) "left_of" "kinnames.ways" 442 229)::
 (nat_lit 236,kC "may_follow" 477 478 479 94 2 0 0 3 231 true 181 232 233 234 235 482 94 483)::
 (nat_lit 237,kD (top 37) "may_follow" "kinnames.ways" 442 236)::
 (nat_lit 243,kC "heaviest" 485 486 487 96 2 0 0 3 238 true 181 239 240 241 242 490 96 491)::
 (nat_lit 244,kD (top 38) "heaviest" "kinnames.ways" 442 243)::
 (nat_lit 248,⟨(.type "code"),none,.fields #[(.str (.ofString "next_heaviest") 493),(.str (.ofString "next_heaviest") 494),(.str (.ofString "/claim/cut.py") 495),(.int (98) 0),(.int (5) 0),(.int (0) 0),(.int (0) 0),(.int (3) 0),(.ref 245),(.bool true),(.int (181) 0),(.ref 246),.none,.none,.none,(.ref 247),(.int (496) 0),(.int (98) 0),(.str (.ofString "/claim/cut.py") 497)],#[]⟩)::
 (nat_lit 249,kD (top 39) "next_heaviest" "kinnames.ways" 442 248)::
 (nat_lit 253,⟨(.type "code"),none,.fields #[(.str (.ofString "heaviest_along") 499),(.str (.ofString "heaviest_along") 500),(.str (.ofString "/claim/cut.py") 501),(.int (108) 0),(.int (5) 0),(.int (0) 0),(.int (0) 0),(.int (3) 0),(.ref 250),(.bool true),(.int (181) 0),(.ref 251),.none,.none,.none,(.ref 252),(.int (502) 0),(.int (108) 0),(.str (.ofString "/claim/cut.py") 503)],#[]⟩)::
 (nat_lit 254,kD (top 40) "heaviest_along" "kinnames.ways" 442 253)::
 (nat_lit 260,kC "is_edge" 525 526 527 127 1 0 0 3 255 true 181 256 257 258 259 529 127 530)::
 (nat_lit 261,kD (top 51) "is_edge" "kinnames.wishes" 505 260)::
 (nat_lit 265,⟨(.type "code"),none,.fields #[(.str (.ofString "is_barred") 532),(.str (.ofString "is_barred") 533),(.str (.ofString "/claim/cut.py") 534),(.int (129) 0),(.int (1) 0),(.int (0) 0),(.int (0) 0),(.int (3) 0),(.ref 262),(.bool true),(.int (181) 0),(.ref 263),.none,.none,.none,(.ref 264),(.int (535) 0),(.int (129) 0),(.str (.ofString "/claim/cut.py") 536)],#[]⟩)::
 (nat_lit 266,kD (top 52) "is_barred" "kinnames.wishes" 505 265)::
 (nat_lit 272,kC "is_wish" 538 539 540 133 1 0 0 3 267 true 181 268 269 270 271 542 133 543)::
 (nat_lit 273,kD (top 53) "is_wish" "kinnames.wishes" 505 272)::
 (nat_lit 279,kC "need_wish" 545 546 547 141 1 0 0 3 274 true 181 275 276 277 278 549 141 550)::
 (nat_lit 280,kD (top 54) "need_wish" "kinnames.wishes" 505 279)::
 (nat_lit 286,kC "left_out" 552 553 554 144 2 0 0 3 281 true 181 282 283 284 285 557 144 558)::
 (nat_lit 287,kD (top 55) "left_out" "kinnames.wishes" 505 286)::
 (nat_lit 293,kC "go_together" 560 561 562 148 2 0 0 3 288 true 181 289 290 291 292 565 148 566)::
 (nat_lit 294,kD (top 56) "go_together" "kinnames.wishes" 505 293)::
 (nat_lit 298,⟨(.type "code"),none,.fields #[(.str (.ofString "patterns_of_length") 568),(.str (.ofString "patterns_of_length") 569),(.str (.ofString "/claim/cut.py") 570),(.int (150) 0),(.int (3) 0),(.int (0) 0),(.int (0) 0),(.int (3) 0),(.ref 295),(.bool true),(.int (181) 0),(.ref 296),.none,.none,.none,(.ref 297),(.int (571) 0),(.int (150) 0),(.str (.ofString "/claim/cut.py") 572)],#[]⟩)::
 (nat_lit 299,kD (top 57) "patterns_of_length" "kinnames.wishes" 505 298)::
 (nat_lit 305,kC "patterns" 574 575 576 158 1 0 0 3 300 true 181 301 302 303 304 580 158 581)::
 (nat_lit 306,kD (top 58) "patterns" "kinnames.wishes" 505 305)::
 (nat_lit 310,⟨(.type "code"),none,.fields #[(.str (.ofString "heaviest_fitting") 587),(.str (.ofString "heaviest_fitting") 588),(.str (.ofString "/claim/cut.py") 589),(.int (165) 0),(.int (5) 0),(.int (0) 0),(.int (0) 0),(.int (3) 0),(.ref 307),(.bool true),(.int (181) 0),(.ref 308),.none,.none,.none,(.ref 309),(.int (590) 0),(.int (165) 0),(.str (.ofString "/claim/cut.py") 591)],#[]⟩)::
 (nat_lit 311,kD (top 61) "heaviest_fitting" "kinnames.likely" 583 310)::
 (nat_lit 317,kC "heaviest_name" 593 594 595 173 4 0 0 3 312 true 181 313 314 315 316 601 173 602)::
 (nat_lit 318,kD (top 62) "heaviest_name" "kinnames.likely" 583 317)::
 (nat_lit 324,kC "likeliest" 604 605 606 176 4 0 0 3 319 true 181 320 321 322 323 611 176 612)::
 (nat_lit 325,kD (top 63) "likeliest" "kinnames.likely" 583 324)::
 (nat_lit 338,⟨(.type "code"),none,.fields #[(.str (.ofString "__init__") 628),(.str (.ofString "Keeper.__init__") 629),(.str (.ofString "/claim/cut.py") 630),(.int (185) 0),(.int (2) 0),(.int (0) 0),(.int (0) 0),(.int (3) 0),(.ref 333),(.bool true),(.int (181) 0),(.ref 334),.none,(.ref 335),(.ref 336),(.ref 337),(.int (633) 0),(.int (185) 0),(.str (.ofString "/claim/cut.py") 634)],#[]⟩)::
 (nat_lit 339,kF (inClass (top 65) 0) (.ofString "__init__") (.ofString "Keeper.__init__") .none .none .none (.str (.ofString "kinnames.keepers") 614) none (.ref 338) .none (.type "function") none #[])::
 (nat_lit 345,⟨(.type "code"),none,.fields #[(.str (.ofString "book") 636),(.str (.ofString "Keeper.book") 637),(.str (.ofString "/claim/cut.py") 638),(.int (191) 0),(.int (1) 0),(.int (0) 0),(.int (0) 0),(.int (3) 0),(.ref 340),(.bool true),(.int (181) 0),(.ref 341),.none,(.ref 342),(.ref 343),(.ref 344),(.int (640) 0),(.int (191) 0),(.str (.ofString "/claim/cut.py") 641)],#[]⟩)::
 (nat_lit 346,kF (inClass (top 65) 1) (.ofString "book") (.ofString "Keeper.book") .none .none .none (.str (.ofString "kinnames.keepers") 614) none (.ref 345) .none (.type "function") none #[])::
 (nat_lit 352,⟨(.type "code"),none,.fields #[(.str (.ofString "given") 643),(.str (.ofString "Keeper.given") 644),(.str (.ofString "/claim/cut.py") 645),(.int (194) 0),(.int (1) 0),(.int (0) 0),(.int (0) 0),(.int (3) 0),(.ref 347),(.bool true),(.int (181) 0),(.ref 348),.none,(.ref 349),(.ref 350),(.ref 351),(.int (647) 0),(.int (194) 0),(.str (.ofString "/claim/cut.py") 648)],#[]⟩)::
 (nat_lit 353,kF (inClass (top 65) 2) (.ofString "given") (.ofString "Keeper.given") .none .none .none (.str (.ofString "kinnames.keepers") 614) none (.ref 352) .none (.type "function") none #[])::
 (nat_lit 359,⟨(.type "code"),none,.fields #[(.str (.ofString "hear") 650),(.str (.ofString "Keeper.hear") 651),(.str (.ofString "/claim/cut.py") 652),(.int (197) 0),(.int (2) 0),(.int (0) 0),(.int (0) 0),(.int (3) 0),(.ref 354),(.bool true),(.int (181) 0),(.ref 355),.none,(.ref 356),(.ref 357),(.ref 358),(.int (656) 0),(.int (197) 0),(.str (.ofString "/claim/cut.py") 657)],#[]⟩)::
 (nat_lit 360,kF (inClass (top 65) 3) (.ofString "hear") (.ofString "Keeper.hear") .none .none .none (.str (.ofString "kinnames.keepers") 614) none (.ref 359) .none (.type "function") none #[])::
 (nat_lit 364,⟨(.type "code"),none,.fields #[(.str (.ofString "forget") 659),(.str (.ofString "Keeper.forget") 660),(.str (.ofString "/claim/cut.py") 661),(.int (204) 0),(.int (2) 0),(.int (0) 0),(.int (0) 0),(.int (3) 0),(.ref 361),(.bool true),(.int (181) 0),(.ref 362),.none,.none,.none,(.ref 363),(.int (662) 0),(.int (204) 0),(.str (.ofString "/claim/cut.py") 663)],#[]⟩)::
 (nat_lit 365,kF (inClass (top 65) 4) (.ofString "forget") (.ofString "Keeper.forget") .none .none .none (.str (.ofString "kinnames.keepers") 614) none (.ref 364) .none (.type "function") none #[])::
 (nat_lit 371,⟨(.type "code"),none,.fields #[(.str (.ofString "give") 665),(.str (.ofString "Keeper.give") 666),(.str (.ofString "/claim/cut.py") 667),(.int (211) 0),(.int (3) 0),(.int (0) 0),(.int (0) 0),(.int (3) 0),(.ref 366),(.bool true),(.int (181) 0),(.ref 367),.none,(.ref 368),(.ref 369),(.ref 370),(.int (671) 0),(.int (211) 0),(.str (.ofString "/claim/cut.py") 672)],#[]⟩)::
 (nat_lit 372,kF (inClass (top 65) 5) (.ofString "give") (.ofString "Keeper.give") .none .none .none (.str (.ofString "kinnames.keepers") 614) none (.ref 371) .none (.type "function") none #[])::
 (nat_lit 378,⟨(.type "code"),none,.fields #[(.str (.ofString "give_likeliest") 674),(.str (.ofString "Keeper.give_likeliest") 675),(.str (.ofString "/claim/cut.py") 676),(.int (214) 0),(.int (2) 0),(.int (0) 0),(.int (0) 0),(.int (3) 0),(.ref 373),(.bool true),(.int (181) 0),(.ref 374),.none,(.ref 375),(.ref 376),(.ref 377),(.int (681) 0),(.int (214) 0),(.str (.ofString "/claim/cut.py") 682)],#[]⟩)::
 (nat_lit 379,kF (inClass (top 65) 6) (.ofString "give_likeliest") (.ofString "Keeper.give_likeliest") .none .none .none (.str (.ofString "kinnames.keepers") 614) none (.ref 378) .none (.type "function") none #[])::
 (nat_lit 381,⟨(.type "dict"),none,.dict #[kE P (.ofString "__module__") 623 (.str (.ofString "kinnames.keepers") 614),kE P (.ofString "__firstlineno__") 627 (.int (183) 626),kE P (.ofString "__init__") 635 (.ref 339),kE P (.ofString "book") 642 (.ref 346),kE P (.ofString "given") 649 (.ref 353),kE P (.ofString "hear") 658 (.ref 360),kE P (.ofString "forget") 664 (.ref 365),kE P (.ofString "give") 673 (.ref 372),kE P (.ofString "give_likeliest") 683 (.ref 379),kE P (.ofString "__static_attributes__") 687 (.ref 380),kE P (.ofString "__dict__") 689 (.ref 383),kE P (.ofString "__weakref__") 691 (.ref 384),kE P (.ofString "__doc__") 692 .none] 4,#[]⟩)::
 (nat_lit 382,⟨(.type "type"),none,.cls ⟨(.ofString "Keeper"),[(.type "object")],[(.ref 382),(.type "object")],381,(.ofString "Keeper"),true,[],[],false,none,false⟩,#[none,none,(some (.str (.ofString "Keeper") 616)),(some (.str (.ofString "Keeper") 624)),(some (.builtin "object.__new__")),(some (.bool true))]⟩)::
 (nat_lit 383,⟨(.type "getset_descriptor"),none,.fields #[(.str (.ofString "__dict__") 688),(.ref 382),(.builtin "function.__dict__"),(.builtin "function.__dict__#set")],#[]⟩)::
 (nat_lit 384,⟨(.type "getset_descriptor"),none,.fields #[(.str (.ofString "__weakref__") 690),(.ref 382),(.builtin "ExceptionGroup.__weakref__"),.none],#[]⟩)::
 (nat_lit 392,kC "_law_cell" 697 698 699 223 2 0 0 3 387 true 181 388 389 390 391 702 223 703)::
 (nat_lit 393,kD (top 67) "_law_cell" "law_kinnames_k62_whole_given" 695 392)::
 (nat_lit 399,kC "_law_drawn" 705 706 707 227 3 0 0 3 394 true 181 395 396 397 398 712 227 713)::
 (nat_lit 400,kD (top 68) "_law_drawn" "law_kinnames_k62_whole_given" 695 399)::
 (nat_lit 404,⟨(.type "code"),none,.fields #[(.str (.ofString "_law_name") 715),(.str (.ofString "_law_name") 716),(.str (.ofString "/claim/cut.py") 717),(.int (231) 0),(.int (3) 0),(.int (0) 0),(.int (0) 0),(.int (3) 0),(.ref 401),(.bool true),(.int (181) 0),(.ref 402),.none,.none,.none,(.ref 403),(.int (718) 0),(.int (231) 0),(.str (.ofString "/claim/cut.py") 719)],#[]⟩)::
 (nat_lit 405,kD (top 69) "_law_name" "law_kinnames_k62_whole_given" 695 404)::
 (nat_lit 411,kC "_law_book" 721 722 723 235 4 0 0 3 406 true 181 407 408 409 410 730 235 731)::
 (nat_lit 412,kD (top 70) "_law_book" "law_kinnames_k62_whole_given" 695 411)::
 (nat_lit 418,kC "_law_wish" 733 734 735 240 2 0 0 3 413 true 181 414 415 416 417 745 240 746)::
 (nat_lit 419,kD (top 71) "_law_wish" "law_kinnames_k62_whole_given" 695 418)::
 (nat_lit 423,⟨(.type "code"),none,.fields #[(.str (.ofString "law") 748),(.str (.ofString "law") 749),(.str (.ofString "/claim/cut.py") 750),(.int (250) 0),(.int (1) 0),(.int (0) 0),(.int (0) 0),(.int (3) 0),(.ref 420),(.bool true),(.int (181) 0),(.ref 421),.none,.none,.none,(.ref 422),(.int (751) 0),(.int (250) 0),(.str (.ofString "/claim/cut.py") 752)],#[]⟩)::
 (nat_lit 424,kD (top 72) "law" "law_kinnames_k62_whole_given" 695 423)::[]
noncomputable def kfr:pS->Frag:=fun P=>(nat_lit 239,⟨.none,none,.fields #[],#[]⟩)::kfr0 P
noncomputable def kas:List ao:=[239,2,3,20,21,32,110,111,115,116,122,123,129,130,134,135,141,142,148,149,155,156,162,163,169,170,174,175,181,182,183,189,190,196,197,203,204,210,211,217,218,222,223,229,230,236,237,243,244,248,249,253,254,260,261,265,266,272,273,279,280,286,287,293,294,298,299,305,306,310,311,317,318,324,325,338,339,345,346,352,353,359,360,364,365,371,372,378,379,381,382,383,384,392,393,399,400,404,405,411,412,418,419,423,424]
noncomputable def kq:aH:=view bj [0,2,3,4,5,6,7,8,10,11,12,13,14,15,16,17,18,19,20,21,22,23,24,25,27,28,29,30,32,33,34,35,36,37,38,39,40,42,43,44,45,46,47,48,49,50,51,52,53,54,55,56,57,58,60,61,62,63,65,67,68,69,70,71,72]
noncomputable def klo:List Str:=[]
theorem kas_e:∀P,kas=(kfr P).map (·.1):=fun _=>by kernel_rfl
noncomputable def hl0 (w:aW):=(openEndsT treeTable bj w 6726).map (fun s=>(seen ((recsOf kq).map (·.name)) (ownsOf kq) [] {s with gens:=#[]},s.heap.bltView))
noncomputable def hr0 (w:aW):=some (expectedOf kq,bltViewBooted)
theorem hl0_e:hl0=hl0:=rfl
theorem hr0_e:hr0=hr0:=rfl
noncomputable def hl1 (w:aW):=(openEndsT treeTable bj w 6726).map (fun s=>((s.heap.keysOk (looseW kq klo) ((recsOf kq).map (·.name)) ((litsOf kq).map (·.1)) ((clssOf kq (looseW kq klo)).map (·.name))&&s.heap.accountedOkI (importedModules bj.main.body)&&s.heap.isNs mainGlobals&&s.heap.isNs builtinsNs&&tablesOk kq s.heap&& (xlAt kq [] s&&recOk [] s)&& (if true=true then s.gens.size==0 else !leftWithCleanup s.gens))))
noncomputable def hr1 (w:aW):=some (true)
theorem hl1_e:hl1=hl1:=rfl
noncomputable def hl2 (w:aW):=(openEndsT treeTable bj w 6726).map (fun s=>(tabsOk kq s,pinSeenD kq (drecsOf kq) s,plainSeenE kq (looseW kq klo) s,plainSeenD kq klo s))
noncomputable def hr2 (w:aW):=some (true,pinGoodD (drecsOf kq),plainGoodE kq (looseW kq klo),plainGoodD kq klo)
theorem hl2_e:hl2=hl2:=rfl
theorem hr2_e:hr2=hr2:=rfl
noncomputable def hl3 (w:aW):=(openEndsT treeTable bj w 6726).map (fun s=>(wideSeen kq s,clsSeenW kq klo s))
noncomputable def hr3 (w:aW):=some (wideGood kq,clsGoodW kq klo)
theorem hl3_e:hl3=hl3:=rfl
theorem hr3_e:hr3=hr3:=rfl
noncomputable def hl4 (w:aW):=(openEndsT treeTable bj w 6726).map (fun s=>(kas.map s.heap.get?))
noncomputable def hr4 (w:aW):=some ((kfr w.params).map fun p=>some p.2)
theorem hl4_e:hl4=hl4:=rfl
theorem hr4_e:hr4=hr4:=rfl
end Kn
name_quick hl0Q for Kn.hl0 by Kn.hl0_e
name_quick hr0Q for Kn.hr0 by Kn.hr0_e
theorem Kn.hq0 (w:aW):PySem.W.Fast.hl0Q w=PySem.W.Fast.hr0Q w:=by kernel_rfl
theorem Kn.hx0 (w:aW):Kn.hl0 w=Kn.hr0 w:=((congrFun PySem.W.Fast.hl0Q_eq w).trans (Kn.hq0 w)).trans (congrFun PySem.W.Fast.hr0Q_eq w).symm
name_quick hl1Q for Kn.hl1 by Kn.hl1_e
theorem Kn.hq1 (w:aW):PySem.W.Fast.hl1Q w=Kn.hr1 w:=by kernel_rfl
theorem Kn.hx1 (w:aW):Kn.hl1 w=Kn.hr1 w:=(congrFun PySem.W.Fast.hl1Q_eq w).trans (Kn.hq1 w)
name_quick hl2Q for Kn.hl2 by Kn.hl2_e
name_quick hr2Q for Kn.hr2 by Kn.hr2_e
theorem Kn.hq2 (w:aW):PySem.W.Fast.hl2Q w=PySem.W.Fast.hr2Q w:=by kernel_rfl
theorem Kn.hx2 (w:aW):Kn.hl2 w=Kn.hr2 w:=((congrFun PySem.W.Fast.hl2Q_eq w).trans (Kn.hq2 w)).trans (congrFun PySem.W.Fast.hr2Q_eq w).symm
name_quick hl3Q for Kn.hl3 by Kn.hl3_e
name_quick hr3Q for Kn.hr3 by Kn.hr3_e
theorem Kn.hq3 (w:aW):PySem.W.Fast.hl3Q w=PySem.W.Fast.hr3Q w:=by kernel_rfl
theorem Kn.hx3 (w:aW):Kn.hl3 w=Kn.hr3 w:=((congrFun PySem.W.Fast.hl3Q_eq w).trans (Kn.hq3 w)).trans (congrFun PySem.W.Fast.hr3Q_eq w).symm
name_quick hl4Q for Kn.hl4 by Kn.hl4_e
name_quick hr4Q for Kn.hr4 by Kn.hr4_e
theorem Kn.hq4 (w:aW):PySem.W.Fast.hl4Q w=PySem.W.Fast.hr4Q w:=by kernel_rfl
theorem Kn.hx4 (w:aW):Kn.hl4 w=Kn.hr4 w:=((congrFun PySem.W.Fast.hl4Q_eq w).trans (Kn.hq4 w)).trans (congrFun PySem.W.Fast.hr4Q_eq w).symm
theorem Kn.hl:LeftO bj Kn.kq Kn.klo (fun s=>xlAt Kn.kq [] s&&recOk [] s) (Hook.obs (kHook Kn.kfr Kn.kas Kn.kas_e)) (Hook.val (kHook Kn.kfr Kn.kas Kn.kas_e)) 6726:=fun w=>by
 refine Kn.openMap_of ?_
 obtain⟨s,e,x0⟩:=iG.mp (Kn.hx0 w)
 have y1:=Kn.hx1 w
 unfold Kn.hl1 at y1
 rw[e]at y1
 have x1:=aB y1
 have y2:=Kn.hx2 w
 unfold Kn.hl2 at y2
 rw[e]at y2
 have x2:=aB y2
 have y3:=Kn.hx3 w
 unfold Kn.hl3 at y3
 rw[e]at y3
 have x3:=aB y3
 have y4:=Kn.hx4 w
 unfold Kn.hl4 at y4
 rw[e]at y4
 have x4:=aB y4
 obtain⟨a1,z0_0⟩:=bY x0
 have a2:=z0_0
 have a3:=x1
 obtain⟨a4,z2_0⟩:=bY x2
 obtain⟨a5,z2_1⟩:=bY z2_0
 obtain⟨a6,z2_2⟩:=bY z2_1
 have a7:=z2_2
 obtain⟨a8,z3_0⟩:=bY x3
 have a9:=z3_0
 have aK:=x4
 rw[e]
 exact congrArg some (gd (gd a1 (gd a2 (gd a3 (gd a4 (gd a5 (gd a6 (gd a7 (gd a8 a9)))))))) aK)
end
section
namespace L2
open PySem PySem.Spec PyProof.Rows
noncomputable abbrev zL:=Sum Int Str
noncomputable def k8:zL->ai->Bool
 | .inl k,v=>uf k v
 | .inr x,v=>cU x v
noncomputable def zJp (w:aW):zL->Int
 | .inl k=>hashInt k
 | .inr x=>hashStr w x
theorem jA:∀{k:zL}{v:ai},k8 k v=true->(∃i t,k=Sum.inl i/\v=Value.int i t)\/(∃x t,k=Sum.inr x/\v=Value.str x t)
 | .inl i,v,h=>by
  obtain⟨t,e⟩:=Value.isInt_shape (k:=i) (v:=v) h
  exact .inl ⟨i,t,rfl,e⟩
 | .inr x,v,h=>by
  obtain⟨t,e⟩:=eu (x:=x) (v:=v) h
  exact .inr ⟨x,t,rfl,e⟩
theorem zJq (i:Int)(t:Tok):k8 (.inl i) (.int i t)=true:=by simp[k8,uf]
theorem zJr (x:Str)(t:Tok):k8 (.inr x) (.str x t)=true:=by simp[k8,cU]
theorem zJs (a b:Int):decide ((Sum.inl a:zL)=Sum.inl b)=(a==b):=by
 by_cases e:a=b
 ·subst e;simp
 ·have h:¬(Sum.inl a:zL)=Sum.inl b:=fun q=>e (ug q)
  rw[decide_eq_false h]
  exact(beq_eq_false_iff_ne.mpr e).symm
theorem zJt (a b:Str):decide ((Sum.inr a:zL)=Sum.inr b)=decide (a=b):=by
 by_cases e:a=b
 ·subst e;simp
 ·have h:¬(Sum.inr a:zL)=Sum.inr b:=fun q=>e (nC q)
  rw[decide_eq_false h,decide_eq_false e]
theorem zJu (a:Int)(b:Str):decide ((Sum.inl a:zL)=Sum.inr b)=false:=decide_eq_false (fun q=>nomatch q)
theorem zJv (a:Str)(b:Int):decide ((Sum.inr a:zL)=Sum.inl b)=false:=decide_eq_false (fun q=>nomatch q)
noncomputable def vJ (prog:aH)(w:aW):sr prog w zL where
 is:=k8
 hash:=zJp w
 inj:=fun v a b ha hb=>by
  rcases jA ha with⟨i,t,rfl,rfl⟩|⟨x,t,rfl,rfl⟩
  ·rcases jA hb with⟨j,u,rfl,e⟩|⟨y,u,rfl,e⟩
   ·injection e with e1 _;rw[e1]
   ·exact nomatch e
  ·rcases jA hb with⟨j,u,rfl,e⟩|⟨y,u,rfl,e⟩
   ·exact nomatch e
   ·injection e with e1 _;rw[e1]
 byValue:=fun k v h=>by
  rcases jA h with⟨i,t,rfl,rfl⟩|⟨x,t,rfl,rfl⟩<;>rfl
 pyHash:=fun hv h=>by
  rcases jA hv with⟨i,t,rfl,rfl⟩|⟨x,t,rfl,rfl⟩
  ·exact wpAny_pyHash_int h
  ·exact pT h
 eqBool:=fun hu hv h=>by
  rcases jA hu with⟨i,t,rfl,rfl⟩|⟨x,t,rfl,rfl⟩
  ·rcases jA hv with⟨j,u,rfl,rfl⟩|⟨y,u,rfl,rfl⟩
   ·rw[zJs]at h;exact wpAny_eqBool_int h
   ·rw[zJu]at h;exact oB i t y u _ _ _ _ h
  ·rcases jA hv with⟨j,u,rfl,rfl⟩|⟨y,u,rfl,rfl⟩
   ·rw[zJv]at h;exact oE x t j u _ _ _ _ h
   ·rw[zJt]at h;exact pW h
 «strs»:=fun k x t v h=>by
  rcases jA h with⟨i,u,rfl,e⟩|⟨y,u,rfl,e⟩
  ·exact nomatch e
  ·injection e with e1 _
   subst e1
   cases v<;>rfl
noncomputable abbrev yO:=Sum Str Bool
noncomputable def zFR:yO->ai->Bool
 | .inl x,v=>cU x v
 | .inr b,v=>v==Value.bool b
theorem j7:∀{k:yO}{v:ai},zFR k v=true->(∃x t,k=Sum.inl x/\v=Value.str x t)\/(∃b,k=Sum.inr b/\v=Value.bool b)
 | .inl x,v,h=>by
  obtain⟨t,e⟩:=eu (x:=x) (v:=v) h
  exact .inl ⟨x,t,rfl,e⟩
 | .inr b,v,h=>.inr ⟨b,rfl,eq_of_beq h⟩
noncomputable def tkH (w:aW):yO->Int
 | .inl x=>hashStr w x
 | .inr b=>reduceHash (if b then 1 else 0)
theorem zJw {prog:aH}{w:aW}{A:bK}{E:ai->aq->Prop}{s:aq}{b:Bool}{Q:Int->aq->Prop}(h:Q (reduceHash (if b then 1 else 0)) {s with toks:=s.toks+1}) :
  wpAny (model prog w) A (pyHash (.bool b)) Q E s:=by
 refine PySem.W.pyHash_slot (T :="bool") rfl F.slot_bool_hash F.entry_int_hash (F.args_int_hash_1 _) (by decide) (.inl (by cases b<;>rfl)) ?_
 unfold cJ.«int.__hash__»
 cases b
 ·wp_walk
  exact⟨_,_,rfl,h⟩
 ·wp_walk
  exact⟨_,_,rfl,h⟩
noncomputable def k9 (prog:aH)(w:aW):sr prog w yO where
 is:=zFR
 hash:=tkH w
 inj:=fun v a b ha hb=>by
  rcases j7 ha with⟨x,t,rfl,rfl⟩|⟨c,rfl,rfl⟩
  ·rcases j7 hb with⟨y,u,rfl,e⟩|⟨d,rfl,e⟩
   ·injection e with e1 _;rw[e1]
   ·exact nomatch e
  ·rcases j7 hb with⟨y,u,rfl,e⟩|⟨d,rfl,e⟩
   ·exact nomatch e
   ·injection e with e1;rw[e1]
 byValue:=fun k v h=>by
  rcases j7 h with⟨x,t,rfl,rfl⟩|⟨c,rfl,rfl⟩<;>rfl
 pyHash:=fun hv h=>by
  rcases j7 hv with⟨x,t,rfl,rfl⟩|⟨c,rfl,rfl⟩
  ·exact pT h
  ·exact zJw h
 eqBool:=fun hu hv h=>by
  rcases j7 hu with⟨x,t,rfl,rfl⟩|⟨c,rfl,rfl⟩
  ·rcases j7 hv with⟨y,u,rfl,rfl⟩|⟨d,rfl,rfl⟩
   ·have e:decide ((Sum.inl x:yO)=Sum.inl y)=decide (x=y):=by
     by_cases q:x=y
     ·subst q;simp
     ·rw[decide_eq_false q,decide_eq_false fun z=>q (ug z)]
    rw[e]at h;exact pW h
   ·rw[decide_eq_false (fun q=>nomatch q)]at h;exact nW x t d _ _ _ _ h
  ·rcases j7 hv with⟨y,u,rfl,rfl⟩|⟨d,rfl,rfl⟩
   ·rw[decide_eq_false (fun q=>nomatch q)]at h;exact nX c y u _ _ _ _ h
   ·refine nE c d _ _ _ _ ?_
    have e:decide ((Sum.inr c:yO)=Sum.inr d)=(c==d):=by cases c<;>cases d<;>rfl
    rw[<-e];exact h
 «strs»:=fun k x t v h=>by
  rcases j7 h with⟨y,u,rfl,e⟩|⟨d,rfl,e⟩
  ·injection e with e1 _
   subst e1
   cases v<;>rfl
  ·exact nomatch e
theorem zJx (prog:aH)(w:aW)(k:zL)(v:ai):(vJ prog w).is k v=k8 k v:=rfl
theorem zJy (prog:aH)(w:aW)(i:Int)(t:Tok):(vJ prog w).is (.inl i) (.int i t)=true:=zJq i t
theorem zFS (prog:aH)(w:aW)(x:Str)(t:Tok):(vJ prog w).is (.inr x) (.str x t)=true:=zJr x t
inductive V where
 |non|bl (b:Bool)|int (i:Int)|str (x:Str)|byt (b:Array UInt8)|flt (b:UInt64)|ref (a:ao)|ty (n:String)
 deriving DecidableEq
noncomputable def zQ:V->ai->Prop
 | .non,u=>u=Value.none
 | .bl b,u=>u=Value.bool b
 | .int i,u=>∃t,u=Value.int i t
 | .str x,u=>∃t,u=Value.str x t
 | .byt b,u=>∃t,u=Value.bytes b t
 | .flt b,u=>∃t,u=Value.float b t
 | .ref a,u=>u=Value.ref a
 | .ty n,u=>u=Value.type n
noncomputable abbrev zJ:List V->List ai->Prop:=oF zQ
theorem zJ.length {xs:List V}{us:List ai}(r:zJ xs us):xs.length=us.length:=de r
theorem zJ.get:∀{xs:List V}{us:List ai}{i:Nat}{x:V},zJ xs us->xs[i]?=some x->∃u,us[i]?=some u/\zQ x u
 |_,_,_,_,.nil,e=>by simp at e
 |_,_,0,_,.cons r _,e=>by simp at e;subst e;exact⟨_,rfl,r⟩
 |_,_,i+1,x,.cons _ t,e=>by
  obtain⟨u,a,b⟩:=zJ.get (i:=i) (x:=x) t (by simpa using e)
  exact⟨u,by simpa using a,b⟩
theorem zJ.set {x:V}{u:ai}(r:zQ x u):∀{xs:List V}{us:List ai} (i:Nat),zJ xs us->zJ (xs.set i x) (us.set i u)
 |_,_,_,.nil=>.nil
 |_,_,0,.cons _ t=>.cons r t
 |_,_,i+1,.cons q t=>.cons q (zJ.set r i t)
theorem zJ.append:∀{xs ys:List V}{us ws:List ai},zJ xs us->zJ ys ws->zJ (xs++ys) (us++ws)
 |_,_,_,_,.nil,s=>s
 |_,_,_,_,.cons r t,s=>.cons r (zJ.append t s)
theorem zJ.take:∀{xs:List V}{us:List ai} (n:Nat),zJ xs us->zJ (xs.take n) (us.take n)
 |_,_,0,_=>.nil
 |_,_,_+1,.nil=>.nil
 |_,_,n+1,.cons r t=>.cons r (zJ.take n t)
theorem zJ.drop:∀{xs:List V}{us:List ai} (n:Nat),zJ xs us->zJ (xs.drop n) (us.drop n)
 |_,_,0,r=>r
 |_,_,_+1,.nil=>.nil
 |_,_,n+1,.cons _ t=>zJ.drop n t
noncomputable def v3:Option V->Option ai->Prop
 |some v,some u=>zQ v u
 |none,none=>True
 |_,_=>False
noncomputable def KV {κ:Type}:List (κ×V)->List (κ×ai)->Prop:=oF fun(p:κ×V) (q:κ×ai)=>p.1=q.1/\zQ p.2 q.2
noncomputable def kV:zL->V
 | .inl i=>.int i
 | .inr x=>.str x
noncomputable def j8:yO->V
 | .inl x=>.str x
 | .inr b=>.bl b
inductive HO where
 |lst (xs:List V)
 |tup (xs:List V)
 |dK (kvs:List (zL×V))|dT (kvs:List (List yO×V))
 |set (S:Int->Bool) (n:Nat)
 |ins (C dx:ao) (fs:List (Str×V))
 |own (x:ao)
 |xd (fs:List (Str×V))
 |met (f x:ao)
 |rng (lo hi:Int)
 |frz (o:Obj) (u:HO)
 |tbl (ps:Array ai)
 |ext (φ:bB->Prop)
noncomputable abbrev Hp:=ao->Option HO
noncomputable def upd (H:Hp)(a:ao)(o:HO):Hp:=fun b=>if b=a then some o else H b
theorem zF {H:Hp}{a:ao}{o:HO}:upd H a o a=some o:=by unfold upd;rw[if_pos rfl]
theorem zG {H:Hp}{a b:ao}{o:HO}(h:b≠a):upd H a o b=H b:=by unfold upd;rw[if_neg h]
theorem zBg {H:Hp}{a b:ao}{o u:HO}(h:H a=some o)(h':H b=some u)(d:o≠u):a≠b:=by
 intro e;subst e;rw[h]at h';exact d (aB h')
theorem yF {H:Hp}{a b:ao}{o:HO}(h:H a=some o)(h':H b=none):a≠b:=by
 intro e;subst e;rw[h]at h';cases h'
section
variable(P:aH)(w:aW)
noncomputable def yP (H:Hp)(h:bB)(a:ao):HO->Prop
 | .lst xs=>xs.length<=sizeLine/\∃(its:List ai) (n:Nat),zJ xs its/\h.get? a=some {cls:=.type "list",data:=.seq its.toArray n}
 | .tup xs=>xs.length<=sizeLine/\∃its:List ai,zJ xs its/\rq h a its.toArray
 | .dK kvs=>kvs.length<=sizeLine/\(a==sysModules)=false/\∃vs,KV kvs vs/\h.DictOf (vJ P w) a vs
 | .dT kvs=>kvs.length<=sizeLine/\(a==sysModules)=false/\∃xs:List (List yO×ao×ai),
   oF (fun(p:List yO×V) (q:List yO×ao×ai)=>p.1=q.1/\H q.2.1=some (.tup (p.1.map j8))/\zQ p.2 q.2.2) kvs xs/\
   ∃o es ep,h.get? a=some o/\o.ExactDict/\o.data=.dict es ep/\es.toList=xs.map (entryOfKey (tupleKind (k9 P w)))/\(xs.map (·.1)).Nodup
 | .set S n=>h.SetOf (intKind P w) a S n
 | .ins C dx fs=>H dx=some (.own a)/\fs.length<=1000/\dx≠a/\h.get? a=some (eh C dx)/\
   ∃mA,h.Ns1 dx mA/\(∀f,v3 (fs.lookup f) (mA f))/\oT mA (fs.map (·.1))
 | .own _=>∃o,h.get? a=some o
 | .xd fs=>∃mA,h.Ns1 a mA/\∀f,v3 (fs.lookup f) (mA f)
 | .rng lo hi=>∃t u v,h.get? a=some {cls:=.type "range",data:=.fields #[.int lo t,.int hi u,.int 1 v]}
 | .frz o u=>h.get? a=some o/\yP H h a u
 | .tbl ps=>h.get? a=some {cls:=.none,data:=.fields ps}
 | .met f x=>h.get? a=some (lC (.ref f) (.ref x))
 | .ext φ=>φ h/\(∃o,h.get? a=some o)/\∀h1 h2:bB,φ h1->(∀o,h1.get? a=some o->h2.get? a=some o)->φ h2
noncomputable def z8 (H:Hp)(h:bB):Prop:=∀a o,H a=some o->yP P w H h a o
end
section
variable{P:aH}{w:aW}{H H':Hp}{h h':bB}{a:ao}{o:HO}
theorem yP.lt (x:yP P w H h a o):a<h.objs.size:=by
 cases o with
 |lst xs=>obtain⟨_,_,_,_,e⟩:=x;exact aD e
 |tup xs=>obtain⟨_,_,_,p⟩:=x;exact p.lt
 |dK kvs=>obtain⟨_,_,_,_,o,_,_,e,_⟩:=x;exact aD e
 |dT kvs=>obtain⟨_,_,_,_,o,_,_,e,_⟩:=x;exact aD e
 |set S n=>obtain⟨o,_,_,_,e,_⟩:=x;exact aD e
 |ins C b fs=>obtain⟨_,_,_,e,_⟩:=x;exact aD e
 |own y=>obtain⟨_,e⟩:=x;exact aD e
 |xd fs=>obtain⟨_,⟨_,_,_,e,_⟩,_⟩:=x;exact aD e
 |rng lo hi=>obtain⟨_,_,_,e⟩:=x;exact aD e
 |frz c u=>obtain⟨e,_⟩:=x;exact aD e
 |tbl ps=>exact aD (show h.get? a=some _ from x)
 |met f y=>exact aD (show h.get? a=some _ from x)
 |ext φ=>obtain⟨_,⟨_,e⟩,_⟩:=x;exact aD e
theorem Paired.mapP {α β:Type}{F G:α->β->Prop}:∀{c:List α}{d:List β},oF F c d->(∀a b,F a b->G a b)->oF G c d
 |_,_,.nil,_=>.nil
 |_,_,.cons r t,f=>.cons (f _ _ r) (Paired.mapP t f)
theorem yP.stay (x:yP P w H h a o)(k:∀b u,(b=a\/H b=some (.own a))->h.get? b=some u->h'.get? b=some u)
  (l:∀b,H b=some (.own a)->H' b=some (.own a)) (m:∀b xs,H b=some (.tup xs)->H' b=some (.tup xs)):yP P w H' h' a o:=by
 induction o with
 |lst xs=>obtain⟨z,its,n,r,e⟩:=x;exact⟨z,its,n,r,k _ _ (.inl rfl) e⟩
 |tup xs=>obtain⟨z,its,r,g,e,c⟩:=x;exact⟨z,its,r,g,k _ _ (.inl rfl) e,c⟩
 |dK kvs=>obtain⟨z,y,vs,r,g,i,ep,e,c⟩:=x;exact⟨z,y,vs,r,g,i,ep,k _ _ (.inl rfl) e,c⟩
 |dT kvs=>
  obtain⟨z,y,xs,r,g,i,ep,e,c⟩:=x
  exact⟨z,y,xs,Paired.mapP r fun p q z=>⟨z.1,m _ _ z.2.1,z.2.2⟩,g,i,ep,k _ _ (.inl rfl) e,c⟩
 |set S n=>obtain⟨g,i,ep,t,e,c⟩:=x;exact⟨g,i,ep,t,k _ _ (.inl rfl) e,c⟩
 |ins C A fs=>
  obtain⟨d,z,ne,e,j,⟨od,i,ep,s,c⟩,r⟩:=x
  exact⟨l _ d,z,ne,k _ _ (.inl rfl) e,j,⟨od,i,ep,k _ _ (.inr d) s,c⟩,r⟩
 |own y=>obtain⟨g,e⟩:=x;exact⟨g,k _ _ (.inl rfl) e⟩
 |xd fs=>obtain⟨j,⟨od,i,ep,e,c⟩,r⟩:=x;exact⟨j,⟨od,i,ep,k _ _ (.inl rfl) e,c⟩,r⟩
 |rng lo hi=>obtain⟨t,u,v,e⟩:=x;exact⟨t,u,v,k _ _ (.inl rfl) e⟩
 |frz g u ih=>obtain⟨e,q⟩:=x;exact⟨k _ _ (.inl rfl) e,ih q⟩
 |tbl ps=>
  have e:h.get? a=some {cls:=.none,data:=.fields ps}:=x
  show h'.get? a=some {cls:=.none,data:=.fields ps}
  exact k a _ (.inl rfl) e
 |met f y=>
  have e:h.get? a=some (lC (.ref f) (.ref y)):=x
  show h'.get? a=some (lC (.ref f) (.ref y))
  exact k a _ (.inl rfl) e
 |ext φ=>obtain⟨p,⟨o,e⟩,st⟩:=x;exact⟨st _ _ p fun o q=>k _ _ (.inl rfl) q,⟨o,k _ _ (.inl rfl) e⟩,st⟩
theorem z8.lt (x:z8 P w H h)(e:H a=some o):a<h.objs.size:=(x a o e).lt
theorem z8.fresh (x:z8 P w H h)(e:h.objs.size<=a):H a=none:=by
 cases q:H a with
 |none=>rfl
 |some u=>exact absurd (bq (x.lt q) e) (bI _)
theorem z8.kept (x:z8 P w H h)(k:∀b u,h.get? b=some u->h'.get? b=some u):z8 P w H h':=fun a o e=>
 (x a o e).stay (fun b u _ q=>k b u q) (fun _ q=>q) fun _ _ q=>q
theorem z8.laid (x:z8 P w H h)(k:∀b u,h.get? b=some u->h'.get? b=some u)(f:h.objs.size<=a)(new:yP P w (upd H a o) h' a o):z8 P w (upd H a o) h':=fun b u e=>by
 have hn:=x.fresh f
 by_cases d:b=a
 ·subst d;rw[zF]at e;cases e;exact new
 ·rw[zG d]at e
  exact(x b u e).stay (fun c v _ q=>k c v q) (fun c q=>by rw[zG (yF q hn)];exact q) fun c xs q=>by rw[zG (yF q hn)];exact q
end
noncomputable def Rd (H:Hp)(a:ao)(u:HO):Prop:=H a=some u\/∃o,H a=some (.frz o u)
theorem Rd.of {H:Hp}{a:ao}{u:HO}(h:H a=some u):Rd H a u:=.inl h
theorem Rd.ok {P:aH}{w:aW}{H:Hp}{h:bB}{a:ao}{u:HO}(r:Rd H a u)(x:z8 P w H h):yP P w H h a u:=by
 rcases r with r|⟨o,r⟩
 ·exact x a u r
 ·obtain⟨_,q⟩:=x a _ r
  exact q
noncomputable def Mut:Option HO->Prop
 |some (.lst _)=>True
 |some (.dK _)=>True
 |some (.dT _)=>True
 |some (.set _ _)=>True
 |some (.ins _ _ _)=>True
 |some (.ext _)=>True
 |_=>False
section
variable{P:aH}{w:aW}{H:Hp}{h h':bB}{x e:ao}{o':HO}
theorem z8.write (ok:z8 P w H h)(g:Mut (H x))(he:e=x\/H e=some (.own x))(k:∀b u,b≠e->h.get? b=some u->h'.get? b=some u)(l:∃u,h'.get? e=some u)
  (new:yP P w (upd H x o') h' x o'):z8 P w (upd H x o') h':=fun b u q=>by
 have d:∀c y,H c=some (.own y)->c≠x:=fun c y r z=>by subst z;rw[r]at g;exact g
 have f:∀c xs,H c=some (.tup xs)->c≠x:=fun c xs r z=>by subst z;rw[r]at g;exact g
 by_cases i:b=x
 ·subst i;rw[zF]at q;cases q;exact new
 ·rw[zG i]at q
  by_cases a:b=e
  ·have m:H b=some (.own x):=by
    rcases he with z|z
    ·exact absurd (a.trans z) i
    ·rw[a];exact z
   rw[q]at m;cases m
   obtain⟨v,hv⟩:=l
   exact⟨v,by rw[a];exact hv⟩
  ·refine(ok b u q).stay (fun c v j r=>k c v ?_ r) (fun c r=>by rw[zG (d c b r)];exact r) fun c xs r=>by rw[zG (f c xs r)];exact r
   rcases j with rfl|j
   ·exact a
   ·rintro rfl
    rcases he with z|z
    ·exact d c b j z
    ·rw[j]at z;cases z;exact i rfl
end
structure Un (fs ex:List ao) (H H':Hp) (h h':bB):Prop where
 keep:∀b o,h.get? b=some o->H b=none->b∉fs->b∉ex->h'.get? b=some o
 slot:∀b o,h.get? b=some o->H b=none->b∈fs->b∉ex->∃sl,h'.get? b=some {o with slots:=sl}
 free:∀b o,h.get? b=some o->H b=none->b∉ex->H' b=none
 there:∀b o,h.get? b=some o->b∉ex->∃o',h'.get? b=some o'
 tups:∀b xs,H b=some (.tup xs)->H' b=some (.tup xs)
 frzs:∀b o u,H b=some (.frz o u)->H' b=some (.frz o u)
 tbls:∀b ps,H b=some (.tbl ps)->∃more,H' b=some (.tbl (ps++more))
section
variable{fs fs' ex ex':List ao}{H H1 H2:Hp}{h h1 h2 h':bB}{a x e:ao}{o:HO}
theorem Un.any (u:Un fs ex H H1 h h1){b:ao}{c:Obj}(q:h.get? b=some c)(n:H b=none)(d:b∉ex):∃g,h1.get? b=some {c with slots:=g}:=by
 by_cases f:b∈fs
 ·exact u.slot b c q n f d
 ·exact⟨c.slots,u.keep b c q n f d⟩
theorem Un.kept (k:∀b u,h.get? b=some u->h'.get? b=some u):Un fs ex H H h h' :=
 ⟨fun b c q _ _ _=>k b c q,fun b c q _ _ _=>⟨c.slots,k b c q⟩,fun _ _ _ n _=>n,fun b c q _=>⟨c,k b c q⟩,fun _ _ q=>q,fun _ _ _ q=>q,fun _ ps q=>⟨#[],by rw[q];simp⟩⟩
theorem Un.refl:Un fs ex H H h h:=Un.kept fun _ _ q=>q
theorem Un.laid (k:∀b u,h.get? b=some u->h'.get? b=some u)(c:h.objs.size<=a)(hn:H a=none):Un fs ex H (upd H a o) h h' where
 keep:=fun b u q _ _ _=>k b u q
 slot:=fun b u q _ _ _=>⟨u.slots,k b u q⟩
 free:=fun b u q n _=>by rw[zG (aV (bq (aD q) c))];exact n
 there:=fun b u q _=>⟨u,k b u q⟩
 tups:=fun b xs q=>by rw[zG (yF q hn)];exact q
 frzs:=fun b u xs q=>by rw[zG (yF q hn)];exact q
 tbls:=fun b ps q=>⟨#[],by rw[zG (yF q hn),q];simp⟩
theorem Un.write (d:Mut (H x))(he:e=x\/H e=some (.own x))(k:∀b u,b≠e->h.get? b=some u->h'.get? b=some u)(f:∃u,h'.get? e=some u):Un fs ex H (upd H x o) h h':=by
 have i:∀b,H b=none->b≠x:=fun b n z=>by subst z;rw[n]at d;exact d
 have j:∀b,H b=none->b≠e:=fun b n z=>by
  subst z
  rcases he with r|r
  ·exact i b n r
  ·rw[n]at r;cases r
 have g:∀b u,H b=some u->¬Mut (some u)->b≠x:=fun b u q nm z=>by subst z;rw[q]at d;exact nm d
 refine⟨fun b u q n _ _=>k b u (j b n) q,fun b u q n _ _=>⟨u.slots,k b u (j b n) q⟩,fun b u q n _=>by rw[zG (i b n)];exact n,fun b u q _=>?_,
  fun b xs q=>by rw[zG (g b _ q fun z=>z)];exact q,fun b u xs q=>by rw[zG (g b _ q fun z=>z)];exact q,fun b ps q=>⟨#[],by rw[zG (g b _ q fun z=>z),q];simp⟩⟩
 by_cases c:b=e
 ·subst c;exact f
 ·exact⟨u,k b u c q⟩
end
noncomputable def trk (h:bB)(H:Hp):List ao:=(bu h.objs.size).filter fun a=>(H a).isSome
noncomputable def jS (h:bB)(H:Hp):bB:=PySem.W.hideAll h (trk h H)
theorem zJz (h:bB)(H:Hp):(jS h H).objs.size=h.objs.size:=PySem.W.hideAll_size _ _
theorem zKA {h:bB}{H:Hp}{b:ao}{o:Obj}(e:h.get? b=some o)(n:H b=none):(jS h H).get? b=some o :=
 PySem.W.hideAll_get _ e fun a=>by
  have q:(H b).isSome=true:=(aI.mp a).2
  rw[n]at q;simp at q
theorem zKB {h:bB}{H:Hp}{b:ao}{o:Obj}(e:(jS h H).get? b=some o):h.get? b=some o/\H b=none:=by
 have a:h.get? b=some o:=PySem.W.of_hideAll (trk h H) e
 refine⟨a,?_⟩
 cases q:H b with
 |none=>rfl
 |some x=>
  have c:b∈trk h H:=aI.mpr ⟨bP.mpr (aD a),by simp[q]⟩
  have z:(jS h H).get? b=none:=PySem.W.hideAll_none (trk h H) c
  rw[z]at e;cases e
noncomputable def zKC (g h:bB)(L:ao):List (ao×Obj):=(bu h.objs.size).filterMap fun a=>if a=L\/(g.get? a).isSome=true then none else(h.get? a).map fun o=>(a,o)
noncomputable def vK (g h:bB)(L d:ao):List (ao×Obj):=(zKC g h L).filter fun p=>decide (p.1≠d)
structure Mod (K:ag) (mg:Str->Option ai) (base:bB):Prop where
 kin:K.In base
 glob:base.Ns mainGlobals mg
 blt:∃mb,base.Ns builtinsNs mb/\∀x:Str,x≠"__name__"->mb x=bootBuiltins x
 nolimit:base.NoLimit
structure Cx where
 prog:aH
 w:aW
 K:ag
 mg:Str->Option ai
 base:bB
 A:bK
 N:List Str
 s₀:aq
 H₀:Hp
 env:Env
 outer:List Env
 stack:List Env
 ex:List ao
 fn:Str->Bool
 calm:Bool
 pn:List (ao×Obj)
 xe:ai->aq->Prop
noncomputable def uJ (l:List Env):List ao:=l.filterMap (·.frame)
noncomputable abbrev Cx.fs (X:Cx):List ao:=uJ X.outer
noncomputable def Vis (sc:fS)(x:Str):Prop:=sc.names.lookup x=some .local\/sc.names.lookup x=some .cell\/sc.names.lookup x=some .free
noncomputable def Loc (sc:fS)(x:Str):Prop:=sc.names.lookup x=some .local\/sc.names.lookup x=some .cell
noncomputable def zKD (env:Env)(h:bB)(m:Str->Option ai)(x:Str)(u:ai):Prop :=
 (env.kindOf x=some .local/\m x=some u)\/((env.kindOf x=some .cell\/env.kindOf x=some .free)/\∃c,env.cells.lookup x=some c/\h.IsCell c (some u))
structure Cx.Ok (X:Cx):Prop where
 mod:Mod X.K X.mg X.base
 kind:X.env.scope.kind=.function
 glob:X.env.globals=mainGlobals
 blt:X.env.builtins=builtinsNs
 above:X.s₀.heap.objs.size<=X.env.locals
 inj:∀x y c,X.env.cells.lookup x=some c->X.env.cells.lookup y=some c->x=y
 has:∀x,(X.env.kindOf x=some .cell\/X.env.kindOf x=some .free)->∃c,X.env.cells.lookup x=some c
 cab:∀x c,X.fn x=true->X.env.cells.lookup x=some c->X.s₀.heap.objs.size<=c
 hd:X.calm=true->X.A.handled=none
 frames:X.A.frames=some X.stack
 stk:X.stack=X.outer\/(X.stack=X.env::X.outer/\X.env.frame=some X.env.locals)
 exf:∀b∈X.ex,b≠X.env.locals/\∀x c,X.env.cells.lookup x=some c->c≠b
 bs:∀b o,X.base.get? b=some o->X.s₀.heap.get? b=some o/\X.H₀ b=none
 bsz:X.base.objs.size<=X.s₀.heap.objs.size
 noex:∀b o,X.base.get? b=some o->b∉X.ex
 exfs:∀b∈X.ex,b∉X.fs
 funs:X.s₀.heap.FunFrames X.base X.outer
 frf:∀b∈X.fs,X.H₀ b=none
structure Inv (X:Cx) (pins:List (ao×Obj)) (σ:List (Option V)) (H:Hp) (s:aq):Prop where
 ok:X.Ok
 os:s.os=X.s₀.os
 bare:lD s.gens
 base:Un X.fs X.ex X.H₀ H X.s₀.heap s.heap
 loc:∃m,s.heap.Ns X.env.locals m/\∀(i:Nat) (x:Str) (v:V),X.N[i]?=some x->σ[i]?=some (some v)->Vis X.env.scope x->∃u,zQ v u/\zKD X.env s.heap m x u
 cell:∀x c,X.env.cells.lookup x=some c->∃v,s.heap.IsCell c v
 free:H X.env.locals=none
 freeC:∀x c,X.env.cells.lookup x=some c->H c=none
 pin:∀p∈X.pn++pins,s.heap.get? p.1=some p.2/\H p.1=none/\p.1≠X.env.locals/\p.1∉X.fs/\∀v,p.2.data≠.cell v
 hok:z8 X.prog X.w H s.heap
 len:σ.length=X.N.length
section
variable{X:Cx}{pins:List (ao×Obj)}{σ:List (Option V)}{H H':Hp}{s:aq}{h':bB}
theorem Cx.Ok.nofr (ok:X.Ok){b:ao}{o:Obj}(e:X.base.get? b=some o):b∉X.fs:=fun a=>by
 have:=(ok.funs.mem a).1
 rw[e]at this;cases this
theorem Inv.bs (I:Inv X pins σ H s):∀b o,X.base.get? b=some o->s.heap.get? b=some o/\H b=none:=fun b o e=>
 ⟨I.base.keep b o (I.ok.bs b o e).1 (I.ok.bs b o e).2 (I.ok.nofr e) (I.ok.noex b o e),I.base.free b o (I.ok.bs b o e).1 (I.ok.bs b o e).2 (I.ok.noex b o e)⟩
theorem Inv.bk (I:Inv X pins σ H s):∀b o,X.base.get? b=some o->s.heap.get? b=some o:=fun b o e=>(I.bs b o e).1
theorem Inv.mod (I:Inv X pins σ H s):Mod X.K X.mg X.base:=I.ok.mod
theorem Inv.kIn (I:Inv X pins σ H s):X.K.In s.heap:=I.ok.mod.kin.keeps I.bk
theorem Inv.nolimit (I:Inv X pins σ H s):s.heap.NoLimit:=I.ok.mod.nolimit.keeps I.bk
theorem Inv.lt (I:Inv X pins σ H s):X.env.locals<s.heap.objs.size:=let⟨_,hn,_⟩:=I.loc;hn.lt
theorem Inv.sz (I:Inv X pins σ H s):X.s₀.heap.objs.size<=s.heap.objs.size:=bS I.ok.above (oU I.lt)
theorem Inv.nofs (I:Inv X pins σ H s){a:ao}(h:s.heap.objs.size<=a):a∉X.fs:=fun b=>by
 obtain⟨_,o,c,_⟩:=I.ok.funs.mem b
 exact absurd (bq (aD c) (bS I.sz h)) (bI _)
theorem Inv.cne (I:Inv X pins σ H s):∀x c,X.env.cells.lookup x=some c->c≠X.env.locals:=fun x c e z=>by
 obtain⟨v,o,d,hd⟩:=I.cell x c e
 obtain⟨m,⟨f,g,ep,a,b,_⟩,_⟩:=I.loc
 rw[z,a]at d;cases d;rw[b]at hd;cases hd
theorem Inv.funs (I:Inv X pins σ H s):s.heap.FunFrames X.base X.outer:=by
 have all:∀(l:List Env),(∀b∈uJ l,b∈X.fs)->X.s₀.heap.FunFrames X.base l->s.heap.FunFrames X.base l:=by
  intro l
  induction l with
  |nil=>intro _ _;trivial
  |cons env r ih=>
   intro d hl
   obtain⟨f,⟨L,o,hf,hn,g,hd⟩,h⟩:=hl
   have a:L∈X.fs:=d L (by unfold uJ;rw[jq,hf];exact au)
   obtain⟨i,e⟩:=I.base.slot L o g (I.ok.frf L a) a fun z=>I.ok.exfs L z a
   exact⟨f,⟨L,_,hf,hn,e,hd⟩,ih (fun b c=>d b (by unfold uJ;rw[jq,hf];exact aj _ c)) h⟩
 exact all X.outer (fun _ c=>c) I.ok.funs
theorem Inv.stack (I:Inv X pins σ H s):s.heap.FunFrames X.base X.stack:=by
 rcases I.ok.stk with e|⟨e,hf⟩
 ·rw[e];exact I.funs
 ·rw[e]
  obtain⟨m,hn,_⟩:=I.loc
  refine .cons (by rw[I.ok.kind];decide) hf hn ?_ I.funs
  exact Heap.get?_none_of_le (bS I.ok.bsz I.ok.above)
theorem Inv.stkSub (I:Inv X pins σ H s):∀b∈uJ X.stack,b∈X.env.locals::X.fs:=fun b a=>by
 rcases I.ok.stk with e|⟨e,hf⟩
 ·rw[e]at a;exact aj _ a
 ·rw[e]at a
  unfold uJ at a
  rw[jq,hf]at a
  exact a
theorem Inv.stkFree (I:Inv X pins σ H s):∀b∈uJ X.stack,H b=none:=fun b a=>by
 rcases aE.mp (I.stkSub b a)with e|a
 ·rw[e];exact I.free
 ·obtain⟨_,o,c,_⟩:=I.ok.funs.mem a
  exact I.base.free b o c (I.ok.frf b a) fun z=>I.ok.exfs b z a
theorem Inv.step {g':Array rA}{t':Nat}{d':Drawn}{ch:List ao}(I:Inv X pins σ H s)
  (f:∀b∈ch,(b∈X.ex\/X.s₀.heap.objs.size<=b)/\b≠X.env.locals/\(∀x c,X.env.cells.lookup x=some c->c≠b)/\∀p∈X.pn++pins,p.1≠b)
  (keep:∀b o,b≠X.env.locals->b∉X.fs->b∉ch->s.heap.get? b=some o->H b=none->h'.get? b=some o)
  (slot:∀b o,b≠X.env.locals->b∈X.fs->b∉ch->s.heap.get? b=some o->H b=none->∃D,h'.get? b=some {o with slots:=D}) (free:∀b o,b∉ch->s.heap.get? b=some o->H b=none->H' b=none)
  (there:∀b o,b∉ch->s.heap.get? b=some o->∃A,h'.get? b=some A)
  (tups:∀b xs,H b=some (.tup xs)->H' b=some (.tup xs)) (frzs:∀b o u,H b=some (.frz o u)->H' b=some (.frz o u)) (tbls:∀b ps,H b=some (.tbl ps)->∃more,H' b=some (.tbl (ps++more)))
  (ns:∀m,s.heap.Ns X.env.locals m->h'.Ns X.env.locals m) (hok:z8 X.prog X.w H' h') (L:lD g') :
  Inv X pins σ H' {s with heap:=h',gens:=g',drawn:=d',toks:=t'}:=by
 have B:∀b o,X.s₀.heap.get? b=some o->b≠X.env.locals:=fun b o e=>aV (bq (aD e) I.ok.above)
 have j:∀b o,X.s₀.heap.get? b=some o->b∉X.ex->b∉ch:=fun b o e a t=>by
  rcases(f b t).1 with z|z
  ·exact a z
  ·exact absurd (bq (aD e) z) (bI _)
 have g:∀x c,X.env.cells.lookup x=some c->∀v,s.heap.IsCell c v->h'.IsCell c v:=fun x c e v zq=>by
  obtain⟨o,y,hd⟩:=zq
  have h:c∉ch:=fun z=>(f c z).2.2.1 x c e rfl
  by_cases F:c∈X.fs
  ·obtain⟨D,q⟩:=slot c o (I.cne x c e) F h y (I.freeC x c e)
   exact⟨_,q,hd⟩
  ·exact⟨o,keep c o (I.cne x c e) F h y (I.freeC x c e),hd⟩
 refine⟨I.ok,I.os,L,⟨fun b o e n t a=>?_,fun b o e n t a=>?_,fun b o e n a=>?_,fun b o e a=>?_,fun b xs e=>tups b xs (I.base.tups b xs e),fun b o xs e=>frzs b o xs (I.base.frzs b o xs e),fun b ps e=>?_⟩,?_,fun x c e=>?_,?_,fun x c e=>?_,fun p G=>?_,hok,I.len⟩
 ·exact keep b o (B b o e) t (j b o e a) (I.base.keep b o e n t a) (I.base.free b o e n a)
 ·obtain⟨D,e1⟩:=I.base.slot b o e n t a
  obtain⟨E,C⟩:=slot b _ (B b o e) t (j b o e a) e1 (I.base.free b o e n a)
  exact⟨E,C⟩
 ·obtain⟨A,e1⟩:=I.base.there b o e a
  exact free b A (j b o e a) e1 (I.base.free b o e n a)
 ·obtain⟨A,e1⟩:=I.base.there b o e a
  exact there b A (j b o e a) e1
 ·obtain⟨M,e1⟩:=I.base.tbls b ps e
  obtain⟨N,C⟩:=tbls b _ e1
  exact⟨M++N,by rw[C,Array.append_assoc]⟩
 ·obtain⟨m,hn,hl⟩:=I.loc
  refine⟨m,ns m hn,fun i x v e1 C O=>?_⟩
  obtain⟨u,r,l⟩:=hl i x v e1 C O
  refine⟨u,r,?_⟩
  rcases l with l|⟨k,c,e,z⟩
  ·exact .inl l
  ·exact .inr ⟨k,c,e,g x c e _ z⟩
 ·obtain⟨v,z⟩:=I.cell x c e
  exact⟨v,g x c e v z⟩
 ·obtain⟨m,⟨o,_,_,y,_⟩,_⟩:=I.loc
  exact free _ o (fun z=>(f _ z).2.1 rfl) y I.free
 ·obtain⟨v,o,y,hd⟩:=I.cell x c e
  exact free c o (fun z=>(f c z).2.2.1 x c e rfl) y (I.freeC x c e)
 ·obtain⟨e,n,ne,J,d⟩:=I.pin p G
  have h:p.1∉ch:=fun z=>(f p.1 z).2.2.2 p G rfl
  exact⟨keep p.1 p.2 ne J h e n,free p.1 p.2 h e n,ne,J,d⟩
theorem Inv.un {t':Nat}(I:Inv X pins σ H s)(u:Un X.fs [] H H' s.heap h')(hok:z8 X.prog X.w H' h'):Inv X pins σ H' {s with heap:=h',toks:=t'}:=by
 obtain⟨m,⟨o,j,ep,f,r⟩,_⟩:=id I.loc
 obtain⟨l,g⟩:=u.any f I.free (by simp)
 exact I.step (g':=s.gens) (d':=s.drawn) (ch:=[]) (fun _ z=>nomatch z) (fun b o _ c _ e n=>u.keep b o e n c (by simp)) (fun b o _ c _ e n=>u.slot b o e n c (by simp)) (fun b o _ e n=>u.free b o e n (by simp)) (fun b o _ e=>u.there b o e (by simp)) u.tups u.frzs u.tbls (fun p h=>by
  obtain⟨q,es',d,a,i⟩:=h
  rw[f]at a;cases a
  exact⟨_,es',d,g,i⟩) hok I.bare
theorem Inv.call {g':Array rA}{t':Nat}{d':Drawn}{ch:List ao}(I:Inv X pins σ H s)(u:Un (uJ X.stack) ch H H' s.heap h')(hok:z8 X.prog X.w H' h')(j:lD g')
  (d:∀b∈ch,(b∈X.ex\/X.s₀.heap.objs.size<=b)/\b≠X.env.locals/\(∀x c,X.env.cells.lookup x=some c->c≠b)/\∀p∈X.pn++pins,p.1≠b) :
  Inv X pins σ H' {s with heap:=h',gens:=g',drawn:=d',toks:=t'}:=by
 obtain⟨m,⟨o,v,ep,i,r⟩,_⟩:=id I.loc
 obtain⟨y,g⟩:=u.any i I.free fun z=>(d _ z).2.1 rfl
 exact I.step (ch:=ch) d (fun b o g l a e n=>u.keep b o e n (fun z=>(aE.mp (I.stkSub b z)).elim g l) a) (fun b o _ _ a e n=>u.any e n a) (fun b o a e n=>u.free b o e n a) (fun b o a e=>u.there b o e a) u.tups u.frzs u.tbls (fun A q=>by
  obtain⟨B,es',h,f,t⟩:=q
  rw[i]at f;cases f
  exact⟨_,es',h,g,t⟩) hok j
theorem Inv.turned {t':Nat}{a:ao}(I:Inv X pins σ H s)(k:∀b o,b≠a->s.heap.get? b=some o->h'.get? b=some o)(hn:H a=none)(g:a≠X.env.locals)
  (h:a∈X.ex\/X.s₀.heap.objs.size<=a) (i:∀x c,X.env.cells.lookup x=some c->c≠a) (j:∀p∈X.pn++pins,p.1≠a):Inv X pins σ H {s with heap:=h',toks:=t'}:=by
 have f:∀b u,H b=some u->b≠a:=fun b u e z=>by rw[z,hn]at e;cases e
 refine I.step (g':=s.gens) (d':=s.drawn) (ch:=[a]) (fun b l=>?_) (fun b o _ _ d e _=>k b o (fun z=>d (by simp[z])) e) (fun b o _ _ d e _=>⟨o.slots,k b o (fun z=>d (by simp[z])) e⟩) (fun _ _ _ _ n=>n)
  (fun b o d e=>⟨o,k b o (fun z=>d (by simp[z])) e⟩) (fun _ _ e=>e) (fun _ _ _ e=>e) (fun b ps e=>⟨#[],by rw[e];simp⟩) (fun m t=>?_) (fun b u e=>?_) I.bare
 ·have e:b=a:=by simpa using l
  subst e
  exact⟨h,g,i,j⟩
 ·obtain⟨o,w,ep,y,r⟩:=t
  exact⟨o,w,ep,k _ o (dz g) y,r⟩
 ·refine(I.hok b u e).stay (fun c v d q=>k c v ?_ q) (fun _ q=>q) fun _ _ q=>q
  rcases d with z|z
  ·rw[z];exact f b u e
  ·exact f c _ z
theorem Inv.tok (I:Inv X pins σ H s)(t:Nat):Inv X pins σ H {s with toks:=t}:=I.un (h':=s.heap) (t':=t) Un.refl I.hok
theorem Inv.kept {t':Nat}(I:Inv X pins σ H s)(k:∀b u,s.heap.get? b=some u->h'.get? b=some u):Inv X pins σ H {s with heap:=h',toks:=t'}:=I.un (Un.kept k) (I.hok.kept k)
theorem Inv.laid {a:ao}{o:HO}{t':Nat}(I:Inv X pins σ H s)(k:∀b u,s.heap.get? b=some u->h'.get? b=some u)(c:s.heap.objs.size<=a)(new:yP X.prog X.w (upd H a o) h' a o) :
  Inv X pins σ (upd H a o) {s with heap:=h',toks:=t'}:=I.un (Un.laid k c (I.hok.fresh c)) (I.hok.laid k c new)
theorem Inv.write {x e:ao}{o:HO}{t':Nat}(I:Inv X pins σ H s)(c:Mut (H x))(he:e=x\/H e=some (.own x))(k:∀b u,b≠e->s.heap.get? b=some u->h'.get? b=some u)(a:∃u,h'.get? e=some u)
  (new:yP X.prog X.w (upd H x o) h' x o):Inv X pins σ (upd H x o) {s with heap:=h',toks:=t'}:=I.un (Un.write c he k a) (I.hok.write c he k a new)
theorem Inv.pins_of {pins':List (ao×Obj)}(I:Inv X pins σ H s)(h:∀p∈pins',s.heap.get? p.1=some p.2/\H p.1=none/\p.1≠X.env.locals/\p.1∉X.fs/\∀v,p.2.data≠.cell v):Inv X pins' σ H s :=
 ⟨I.ok,I.os,I.bare,I.base,I.loc,I.cell,I.free,I.freeC,fun p a=>(bz.mp a).elim (fun z=>I.pin p (b0 _ z)) (h p),I.hok,I.len⟩
theorem zFT {N:List Str}(c:N.Nodup){i j:Nat}{x:Str}(a:N[i]?=some x)(b:N[j]?=some x):i=j:=by
 obtain⟨e,e1⟩:=ak.mp a
 obtain⟨f,d⟩:=ak.mp b
 exact(d5 c).mp (e1.trans d.symm)
theorem zKE {M:Model}{A:bK}{E:ai->aq->Prop}{i:Nat}{x:Str}{v:V}{u:ai}{Q:Unit->aq->Prop}(I:Inv X pins σ H s)(hN:X.N.Nodup)(hi:X.N[i]?=some x)(t:Loc X.env.scope x)(r:zQ v u)
  (h:∀s',Inv X pins (σ.set i (some v)) H s'->(∃a,e7 a s.heap s'.heap/\(a=X.env.locals\/X.env.cells.lookup x=some a))->Q () s') (hf:X.fn x=true\/X.env.scope.names.lookup x=some .local:=by first|exact .inl rfl|exact .inr rfl|assumption):wpAny M A (storeName X.env x u) Q E s:=by
 obtain⟨m,hn,hl⟩:=id I.loc
 have L:(X.env.scope.kind== .class||(X.env.scope.kind== .module&&X.env.locals !=X.env.globals))=false:=by rw[I.ok.kind];rfl
 have O:i<σ.length:=by rw[I.len];exact(ak.mp hi).1
 have cne:=I.cne
 have g:∀{a:ao} {h':bB},(∃o,s.heap.get? a=some o/\H a=none)->e7 a s.heap h'->z8 X.prog X.w H h':=fun{a h'} ha f b ob e=>by
  obtain⟨_,_,B⟩:=ha
  refine(I.hok b ob e).stay (fun c W l q=>(f.2 c ?_).trans q) (fun _ q=>q) fun _ _ q=>q
  rintro rfl
  rcases l with rfl|l
  ·rw[B]at e;cases e
  ·rw[B]at l;cases l
 rcases t with D|D
 ·refine wpAny_storeName_local D hn (fun h' Z f=>?_) L
  obtain⟨oL,_,_,aa,_⟩:=id hn
  refine h _ ⟨I.ok,I.os,I.bare,⟨fun b o e n F t=>?_,fun b o e n F t=>?_,I.base.free,fun b o e t=>?_,I.base.tups,I.base.frzs,I.base.tbls⟩,⟨_,Z,fun j y v' e1 C e3=>?_⟩,fun y c e=>?_,I.free,I.freeC,fun p hp=>?_,g ⟨oL,aa,I.free⟩ f,by simpa using I.len⟩ ⟨_,f,.inl rfl⟩
  ·exact(f.2 b (aV (bq (aD e) I.ok.above))).trans (I.base.keep b o e n F t)
  ·obtain⟨sl,e1⟩:=I.base.slot b o e n F t
   exact⟨sl,(f.2 b (aV (bq (aD e) I.ok.above))).trans e1⟩
  ·obtain⟨o',e1⟩:=I.base.there b o e t
   exact⟨o',(f.2 b (aV (bq (aD e) I.ok.above))).trans e1⟩
  ·by_cases G:j=i
   ·subst G
    rw[hi]at e1;cases e1
    rw[mx O]at C
    cases C
    exact⟨u,r,.inl ⟨D,by simp⟩⟩
   ·rw[nF (dz G)]at C
    obtain⟨u',r',q⟩:=hl j y v' e1 C e3
    refine⟨u',r',?_⟩
    rcases q with⟨k,e⟩|⟨k,c,e,z⟩
    ·refine .inl ⟨k,?_⟩
     have:y≠x:=fun e=>G (zFT hN e1 (e▸hi))
     simp[this,e]
    ·exact .inr ⟨k,c,e,z.sameBut f (cne y c e)⟩
  ·obtain⟨W,z⟩:=I.cell y c e
   exact⟨W,z.sameBut f (cne y c e)⟩
  ·obtain⟨e,n,ne,nf,d⟩:=I.pin p hp
   exact⟨(f.2 p.1 ne).trans e,n,ne,nf,d⟩
 ·have J:X.fn x=true:=by
   rcases hf with z|z
   ·exact z
   ·rw[z]at D;cases D
  obtain⟨c,l⟩:=I.ok.has x (.inl D)
  obtain⟨W,z⟩:=I.cell x c l
  refine wpAny_storeName_cell I.ok.kind D l z (fun h' P f=>?_)
  obtain⟨oc,R,T⟩:=id z
  refine h {s with heap:=h'} ⟨I.ok,I.os,I.bare,⟨fun b o e n F t=>?_,fun b o e n F t=>?_,I.base.free,fun b o e t=>?_,I.base.tups,I.base.frzs,I.base.tbls⟩,⟨m,hn.sameBut f (dz (cne x c l)),fun j y v' e1 C e3=>?_⟩,fun y Y e=>?_,I.free,I.freeC,fun p hp=>?_,g ⟨oc,R,I.freeC x c l⟩ f,by simpa using I.len⟩ ⟨c,f,.inr l⟩
  ·exact(f.2 b (aV (bq (aD e) (I.ok.cab x c J l)))).trans (I.base.keep b o e n F t)
  ·obtain⟨sl,e1⟩:=I.base.slot b o e n F t
   exact⟨sl,(f.2 b (aV (bq (aD e) (I.ok.cab x c J l)))).trans e1⟩
  ·obtain⟨o',e1⟩:=I.base.there b o e t
   exact⟨o',(f.2 b (aV (bq (aD e) (I.ok.cab x c J l)))).trans e1⟩
  ·by_cases G:j=i
   ·subst G
    rw[hi]at e1;cases e1
    rw[mx O]at C
    cases C
    exact⟨u,r,.inr ⟨.inl D,c,l,P⟩⟩
   ·rw[nF (dz G)]at C
    obtain⟨u',r',q⟩:=hl j y v' e1 C e3
    refine⟨u',r',?_⟩
    rcases q with q|⟨k,Y,e,z'⟩
    ·exact .inl q
    ·refine .inr ⟨k,Y,e,z'.sameBut f ?_⟩
     rintro rfl
     exact G (zFT hN e1 (I.ok.inj _ _ _ e l▸hi))
  ·by_cases U:Y=c
   ·subst U;exact⟨_,P⟩
   ·obtain⟨w2,z2⟩:=I.cell y Y e
    exact⟨w2,z2.sameBut f U⟩
  ·obtain⟨e,n,ne,nf,d⟩:=I.pin p hp
   refine⟨(f.2 p.1 ?_).trans e,n,ne,nf,d⟩
   intro q
   rw[q,R]at e
   have q':oc=p.2:=aB e
   exact d W (by rw[<-q'];exact T)
theorem zCm {M:Model}{A:bK}{E:ai->aq->Prop}{i:Nat}{x:Str}{v:V}{u:ai}{Q:Unit->aq->Prop}(I:Inv X pins σ H s)(a:X.N.Nodup)(hi:X.N[i]?=some x)(b:Loc X.env.scope x)(r:zQ v u)
  (h:∀s',Inv X pins (σ.set i (some v)) H s'->Q () s') (hf:X.fn x=true\/X.env.scope.names.lookup x=some .local:=by first|exact .inl rfl|exact .inr rfl|assumption):wpAny M A (storeName X.env x u) Q E s :=
 zKE I a hi b r (fun s' c _=>h s' c) hf
theorem Inv.call' {s':aq}{ch:List ao}(I:Inv X pins σ H s)(d:s'.os=s.os)(u:Un (uJ X.stack) ch H H' s.heap s'.heap)(hok:z8 X.prog X.w H' s'.heap)(f:lD s'.gens)
  (a:∀b∈ch,(b∈X.ex\/X.s₀.heap.objs.size<=b)/\b≠X.env.locals/\(∀x c,X.env.cells.lookup x=some c->c≠b)/\∀p∈X.pn++pins,p.1≠b):Inv X pins σ H' s':=by
 obtain⟨h',g',d',t',g⟩:=s'
 have e:g=s.os:=d
 subst e
 exact I.call (g':=g') (t':=t') (d':=d') u hok f a
end
noncomputable abbrev XK:=ai->Option ao->Hp->Prop
noncomputable abbrev St:=List (Option V)
noncomputable abbrev VK:=V->Hp->Prop
noncomputable abbrev TE:=St->Hp->VK->Prop
noncomputable abbrev TT:=St->Hp->(Bool->Hp->Prop)->Prop
noncomputable abbrev TA:=St->Hp->(List V->Hp->Prop)->Prop
structure Ends where
 nx:St->Hp->Prop
 rt:VK
 bk:St->Hp->Prop:=fun _ _=>False
 ct:St->Hp->Prop:=fun _ _=>False
noncomputable abbrev TS:=Ends->St->Hp->Prop
noncomputable def EP (X:Cx)(pins:List (ao×Obj))(σ:St)(Q:VK)(u:ai)(s':aq):Prop:=∃v H',Inv X pins σ H' s'/\zQ v u/\Q v H'
noncomputable def TP (X:Cx)(pins:List (ao×Obj))(σ:St)(Q:Bool->Hp->Prop)(b:Bool)(s':aq):Prop:=∃H',Inv X pins σ H' s'/\Q b H'
noncomputable def AP (X:Cx)(pins:List (ao×Obj))(σ:St)(Q:List V->Hp->Prop)(us:List ai)(s':aq):Prop:=∃vs H',Inv X pins σ H' s'/\zJ vs us/\Q vs H'
noncomputable def SP (X:Cx)(pins:List (ao×Obj))(D:Ends)(f:Flow)(s':aq):Prop :=
 match f with
 | .next=>∃σ' H',Inv X pins σ' H' s'/\D.nx σ' H'
 | .brk=>∃σ' H',Inv X pins σ' H' s'/\D.bk σ' H'
 | .cont=>∃σ' H',Inv X pins σ' H' s'/\D.ct σ' H'
 | .ret u=>∃v σ' H',Inv X pins σ' H' s'/\zQ v u/\D.rt v H'
noncomputable def PE (X:Cx)(e:bF)(t:TE):Prop :=
 ∀(pins:List (ao×Obj)) (s:aq) (σ:St) (H:Hp) (Q:VK),Inv X pins σ H s->t σ H Q->wpAny (model X.prog X.w) X.A (eval e X.env) (EP X pins σ Q) X.xe s
noncomputable def PT (X:Cx)(e:bF)(t:TT):Prop :=
 ∀(pins:List (ao×Obj)) (s:aq) (σ:St) (H:Hp) (Q:Bool->Hp->Prop),Inv X pins σ H s->t σ H Q->wpAny (model X.prog X.w) X.A (isTrue e X.env (eval e X.env)) (TP X pins σ Q) X.xe s
noncomputable def PW (X:Cx)(e:bF)(t:TT):Prop :=
 ∀(whole:Sem ai) (pins:List (ao×Obj)) (s:aq) (σ:St) (H:Hp) (Q:Bool->Hp->Prop),Inv X pins σ H s->t σ H Q->wpAny (model X.prog X.w) X.A (isTrue e X.env whole) (TP X pins σ Q) X.xe s
theorem PW.pt {X:Cx}{e:bF}{t:TT}(h:PW X e t):PT X e t:=h _
noncomputable def PA (X:Cx)(es:List bF)(t:TA):Prop :=
 ∀(pos:Pos) (pins:List (ao×Obj)) (s:aq) (σ:St) (H:Hp) (Q:List V->Hp->Prop),Inv X pins σ H s->t σ H Q->wpAny (model X.prog X.w) X.A (spliced (backTo pos (starEach es X.env))) (AP X pins σ Q) X.xe s
noncomputable def PS (X:Cx)(st:cT)(t:TS):Prop :=
 ∀(pins:List (ao×Obj)) (s:aq) (σ:St) (H:Hp) (D:Ends),Inv X pins σ H s->t D σ H->wpAny (model X.prog X.w) X.A (exec st X.env) (SP X pins D) X.xe s
noncomputable def qA (X:Cx)(st:List cT)(t:TS):Prop :=
 ∀(pins:List (ao×Obj)) (s:aq) (σ:St) (H:Hp) (D:Ends),Inv X pins σ H s->t D σ H->wpAny (model X.prog X.w) X.A (execs st X.env) (SP X pins D) X.xe s
theorem zH {α:Type}{t:Sem α}{Q b:α->aq->Prop}{M:Model}{A:bK}{E:ai->aq->Prop}{s:aq}(h:wpAny M A t Q E s)(c:∀a s,Q a s->b a s):wpAny M A t b E s:=cK h c fun _ _ x=>x
section
variable{X:Cx}
noncomputable def gQ (i:Nat):TE:=fun σ H Q=>∃v,σ[i]?=some (some v)/\Q v H
noncomputable def tC (v:V):TE:=fun _ H Q=>Q v H
theorem zKF {i:Nat}{x:Str}{pos:Pos}(j:X.N[i]?=some x)(hv:Vis X.env.scope x)(hd:(x==("__debug__" : Str))=false:=by decide)(f:(x==("__classdict__" : Str))=false:=by decide):PE X (.Name x pos) (gQ i):=by
 intro d s σ H Q I h
 obtain⟨v,e,h⟩:=h
 obtain⟨m,hn,hl⟩:=I.loc
 obtain⟨u,r,l⟩:=hl i x v j e hv
 have fin:EP X d σ Q u s:=⟨v,H,I,r,h⟩
 rcases l with⟨b,n⟩|⟨b,c,g,a⟩
 ·exact my (jb I.ok.kind b hn n fin) hd
 ·rcases b with b|b
  ·exact my (wpAny_loadName_cell I.ok.kind b g a fin) hd
  ·exact my (wpAny_loadName_free I.ok.kind b g a fin f) hd
theorem zN {i j pos}:PE X (.Constant (.int i) j pos) (tC (.int i)):=fun _ _ _ H _ I h=>jx ⟨.int i,H,I.tok _,⟨_,rfl⟩,h⟩
theorem uK {b j pos}:PE X (.Constant (.bool b) j pos) (tC (.bl b)):=fun _ _ _ H _ I h=>Constant_bool ⟨.bl b,H,I,rfl,h⟩
theorem zCn {j pos}:PE X (.Constant .none j pos) (tC .non):=fun _ _ _ H _ I h=>Constant_none ⟨.non,H,I,rfl,h⟩
theorem vL {x j pos}:PE X (.Constant (.str x) j pos) (tC (.str x)):=fun _ _ _ H _ I h=>Calls.Constant_str ⟨.str x,H,I.tok _,⟨_,rfl⟩,h⟩
noncomputable def Gl (X:Cx)(x:Str):Prop:=X.env.kindOf x=some .globalImplicit
theorem zCo {E:ai->aq->Prop}{a:List (ao×Obj)}{s:aq}{σ:St}{H:Hp}{x:Str}{u:ai}{pos:Pos}{Q:ai->aq->Prop}(I:Inv X a σ H s)(b:Gl X x)(c:X.mg x=some u)(h:Q u s)
  (hd:(x==("__debug__" : Str))=false:=by decide):wpAny (model X.prog X.w) X.A (eval (.Name x pos) X.env) Q E s :=
 jy I.ok.kind b (Calls.loadGlobal_global (by rw[I.ok.glob];exact I.mod.glob.keeps I.bk) c h) hd
theorem qB {E:ai->aq->Prop}{a:List (ao×Obj)}{s:aq}{σ:St}{H:Hp}{x:Str}{u:ai}{pos:Pos}{Q:ai->aq->Prop}(I:Inv X a σ H s)(b:Gl X x)(c:X.mg x=none)(hv:bootBuiltins x=some u)(h:Q u s)
  (hn:x≠"__name__" :=by decide) (hd:(x==("__debug__" : Str))=false:=by decide):wpAny (model X.prog X.w) X.A (eval (.Name x pos) X.env) Q E s:=by
 obtain⟨mb,d,e⟩:=I.mod.blt
 exact jy I.ok.kind b (Calls.loadGlobal_builtin (by rw[I.ok.glob];exact I.mod.glob.keeps I.bk) c (by rw[I.ok.blt];exact d.keeps I.bk) ((e x hn).trans hv) h) hd
theorem yT {x:Str}{v:V}{u:ai}{pos:Pos}(a:Gl X x)(b:X.mg x=some u)(r:zQ v u)(hd:(x==("__debug__" : Str))=false:=by decide):PE X (.Name x pos) (tC v) :=
 fun _ _ _ H _ I h=>zCo I a b ⟨v,H,I,r,h⟩ hd
theorem gR {x:Str}{v:V}{u:ai}{pos:Pos}(a:Gl X x)(b:X.mg x=none)(hv:bootBuiltins x=some u)(r:zQ v u)(hn:x≠"__name__" :=by decide)(hd:(x==("__debug__" : Str))=false:=by decide):PE X (.Name x pos) (tC v) :=
 fun _ _ _ H _ I h=>qB I a b hv ⟨v,H,I,r,h⟩ hn hd
variable{a b:bF}{ta tb:TE}{pos:Pos}
noncomputable def PC (X:Cx)(op:rB)(a b:bF)(t:TE):Prop :=
 ∀(pins:List (ao×Obj)) (s:aq) (σ:St) (H:Hp) (Q:VK),Inv X pins σ H s->t σ H Q->
  wpAny (model X.prog X.w) X.A (eval a X.env) (fun v s₁=>wpAny (model X.prog X.w) X.A (eval b X.env) (fun u s₂=>wpAny (model X.prog X.w) X.A (compareOp op v u) (EP X pins σ Q) X.xe s₂) X.xe s₁) X.xe s
theorem zKG (b:bF){op:rB}(h:op≠.In)(c:op≠.NotIn):behindInMarks op b=false:=by
 have e1:(op==CmpOp.In)=false:=by cases op<;>first|rfl|exact absurd rfl h
 have d:(op==CmpOp.NotIn)=false:=by cases op<;>first|rfl|exact absurd rfl c
 cases b<;>simp[behindInMarks,e1,d]
noncomputable def tB (t:TE):TT:=fun σ H Q=>t σ H fun x H1=>∃c,x=.bl c/\Q c H1
theorem zFU {op:rB}{t:TE}(h:PC X op a b t)(f:behindInMarks op b=false:=by first|exact zKG _ (by decide) (by decide)|rfl):PT X (.Compare a [op] [b] pos) (tB t):=by
 intro e s σ H Q I g
 refine nj (zH (h e s σ H _ I g) fun v o f=>zH f fun u p i=>zH i fun c r zq=>?_) f
 obtain⟨x,j,l,m,n⟩:=zq
 obtain⟨d,rfl,q⟩:=n
 cases m
 exact dt ⟨j,l,q⟩
theorem v4 {e:bF}{t:TE}(h:PE X e t)(he:∀whole,isTrue e X.env whole=(do let v<-whole;standAt e.pos;holding [v] (truthy v)):=by intro _;rfl):PT X e (tB t):=by
 intro c s σ H Q I f
 refine isTrue_plain (zH (h c s σ H _ I f) fun v m zq=>?_) (he _)
 obtain⟨x,g,i,j,l⟩:=zq
 obtain⟨d,rfl,q⟩:=l
 cases j
 exact dt ⟨g,i,q⟩
variable{tA tB':TT}{vK:List bF}
noncomputable def zKH (t u:TT):TT:=fun σ H Q=>t σ H fun c H1=>if c=true then u σ H1 Q else Q false H1
noncomputable def tOr (t u:TT):TT:=fun σ H Q=>t σ H fun c H1=>if c=true then Q true H1 else u σ H1 Q
noncomputable def zKI (t:TT):TT:=fun σ H Q=>t σ H fun c H1=>Q (!c) H1
theorem zKJ (ha:PT X a tA):PW X (.BoolOp .And [a] pos) tA:=by
 intro f d s σ H Q I h
 refine isTrue_and (zH (ha d s σ H Q I h) fun c g e=>?_)
 cases c with
 |true=>exact isTrue_and_nil e
 |false=>exact e
theorem j9 (ha:PT X a tA):PW X (.BoolOp .Or [a] pos) tA:=by
 intro f d s σ H Q I h
 refine isTrue_or (zH (ha d s σ H Q I h) fun c g e=>?_)
 cases c with
 |false=>exact isTrue_or_nil e
 |true=>exact e
theorem zKK (ha:PT X a tA)(i:PW X (.BoolOp .And (b::vK) pos) tB'):PW X (.BoolOp .And (a::b::vK) pos) (zKH tA tB'):=by
 intro j d s σ H Q I h
 refine isTrue_and (zH (ha d s σ H _ I h) fun c l zq=>?_)
 obtain⟨e,f,g⟩:=zq
 cases c with
 |true=>exact i j d l σ e Q f g
 |false=>exact⟨e,f,g⟩
theorem kA (ha:PT X a tA)(i:PW X (.BoolOp .Or (b::vK) pos) tB'):PW X (.BoolOp .Or (a::b::vK) pos) (tOr tA tB'):=by
 intro j d s σ H Q I h
 refine isTrue_or (zH (ha d s σ H _ I h) fun c l zq=>?_)
 obtain⟨e,f,g⟩:=zq
 cases c with
 |true=>exact⟨e,f,g⟩
 |false=>exact i j d l σ e Q f g
theorem uC (ha:PT X a tA):PT X (.UnaryOp .Not a pos) (zKI tA):=by
 intro d s σ H Q I h
 exact isTrue_not (ha d s σ H (fun c e=>Q (!c) e) I h)
noncomputable def zKL (ta tb:TE):TE:=fun σ H Q=>ta σ H fun x H1=>∃c,x=.bl c/\if c=true then tb σ H1 Q else Q (.bl false) H1
noncomputable def zKM (ta tb:TE):TE:=fun σ H Q=>ta σ H fun x H1=>∃c,x=.bl c/\if c=true then Q (.bl true) H1 else tb σ H1 Q
theorem zAW {op}{t:TE}(h:PE X a t):PE X (.BoolOp op [a] pos) t:=fun c s σ H Q I d=>BoolOp_one (h c s σ H Q I d)
theorem zBh (ha:PE X a ta)(i:PE X (.BoolOp .And (b::vK) pos) tb):PE X (.BoolOp .And (a::b::vK) pos) (zKL ta tb):=by
 intro d s σ H Q I h
 refine BoolOp_and (zH (ha d s σ H _ I h) fun v j zq=>?_)
 obtain⟨x,f,g,l,e⟩:=zq
 obtain⟨c,rfl,e⟩:=e
 cases l
 refine dt ?_
 cases c with
 |true=>exact i d j σ f Q g e
 |false=>exact⟨.bl false,f,g,rfl,e⟩
theorem zFV (ha:PE X a ta)(i:PE X (.BoolOp .Or (b::vK) pos) tb):PE X (.BoolOp .Or (a::b::vK) pos) (zKM ta tb):=by
 intro d s σ H Q I h
 refine BoolOp_or (zH (ha d s σ H _ I h) fun v j zq=>?_)
 obtain⟨x,f,g,l,e⟩:=zq
 obtain⟨c,rfl,e⟩:=e
 cases l
 refine dt ?_
 cases c with
 |false=>exact i d j σ f Q g e
 |true=>exact⟨.bl true,f,g,rfl,e⟩
noncomputable def tIf (t:TT)(ta tb:TE):TE:=fun σ H Q=>t σ H fun c H1=>if c=true then ta σ H1 Q else tb σ H1 Q
theorem zCp {c:bF}(l:PT X c tA)(ha:PE X a ta)(m:PE X b tb):PE X (.IfExp c a b pos) (tIf tA ta tb):=by
 intro e s σ H Q I h
 refine wpAny_IfExp (zH (l e s σ H _ I h) fun d f zq=>?_)
 obtain⟨g,i,j⟩:=zq
 cases d with
 |true=>exact ha e f σ g Q i j
 |false=>exact m e f σ g Q i j
end
noncomputable def z6 (K:ag)(H:Hp)(a:ao)(xs:List V):Prop :=
 Rd H a (.lst xs)\/
  ∃(o:Obj) (its:Array ai) (n:Nat),K.lookup a=some o/\o.cls=.type "list"/\o.dict=none/\o.data=.seq its n/\its.size<=sizeLine/\zJ xs its.toList
noncomputable def zX (K:ag)(H:Hp)(a:ao)(xs:List V):Prop :=
 Rd H a (.tup xs)\/
  ∃(o:Obj) (its:Array ai) (n:Nat),K.lookup a=some o/\o.cls=.type "tuple"/\o.data=.seq its n/\its.size<=sizeLine/\zJ xs its.toList
noncomputable def zKN:ai->Option V
 | .none=>some .non
 | .bool b=>some (.bl b)
 | .int i _=>some (.int i)
 | .str x _=>some (.str x)
 | .bytes b _=>some (.byt b)
 | .float b _=>some (.flt b)
 | .ref a=>some (.ref a)
 | .type n=>some (.ty n)
 |_=>none
theorem zQ.abs {x:V}{u:ai}(r:zQ x u):zKN u=some x:=by
 cases x with
 |non=>cases r;rfl
 |bl _=>cases r;rfl
 |int _=>obtain⟨t,rfl⟩:=r;rfl
 |str _=>obtain⟨t,rfl⟩:=r;rfl
 |byt _=>obtain⟨t,rfl⟩:=r;rfl
 |flt _=>obtain⟨t,rfl⟩:=r;rfl
 |ref _=>cases r;rfl
 |ty _=>cases r;rfl
theorem zQ.inj {x y:V}{u:ai}(r:zQ x u)(q:zQ y u):x=y:=aB (r.abs.symm.trans q.abs)
theorem zJ.inj:∀{xs ys:List V}{us:List ai},zJ xs us->zJ ys us->xs=ys
 |_,_,_,.nil,.nil=>rfl
 |_,_,_,.cons r t,.cons a t'=>by rw[r.inj a,zJ.inj t t']
section
variable{X:Cx}{pins:List (ao×Obj)}{σ:St}{H:Hp}{s:aq}{a:ao}{xs ys:List V}
theorem z6.of {K:ag}(h:H a=some (.lst xs)):z6 K H a xs:=.inl (.inl h)
theorem zX.of {K:ag}(h:H a=some (.tup xs)):zX K H a xs:=.inl (.inl h)
theorem Inv.list (I:Inv X pins σ H s)(h:z6 X.K H a xs):∃its:List ai,zJ xs its/\PlainL s.heap a its.toArray/\xs.length<=sizeLine:=by
 rcases h with h|⟨o,its,n,b,c,hd,d,hz,r⟩
 ·obtain⟨z,its,n,r,e⟩:=h.ok I.hok
  exact⟨its,r,⟨_,n,e,rfl,rfl,rfl⟩,z⟩
 ·refine⟨its.toList,r,⟨o,n,I.kIn a o b,c,hd,by simpa using d⟩,?_⟩
  have e:=r.length
  simp only[bh]at e
  omega
theorem Inv.tuple (I:Inv X pins σ H s)(h:zX X.K H a xs):∃its:List ai,zJ xs its/\rq s.heap a its.toArray/\xs.length<=sizeLine:=by
 rcases h with h|⟨o,its,n,b,c,d,hz,r⟩
 ·obtain⟨z,its,r,p⟩:=h.ok I.hok
  exact⟨its,r,p,z⟩
 ·refine⟨its.toList,r,⟨o,I.kIn a o b,c,n,by simpa using d⟩,?_⟩
  have e:=r.length
  simp only[bh]at e
  omega
theorem Inv.list_inj (I:Inv X pins σ H s)(h:z6 X.K H a xs)(h':z6 X.K H a ys):xs=ys:=by
 obtain⟨its,r,⟨o,n,e,_,_,d⟩,_⟩:=I.list h
 obtain⟨its',c,⟨g,i,b,_,_,d'⟩,_⟩:=I.list h'
 rw[e]at b;cases b
 rw[d]at d'
 injection d' with f _
 have:its=its':=by simpa using congrArg tO f
 subst this
 exact r.inj c
theorem Inv.tuple_inj (I:Inv X pins σ H s)(h:zX X.K H a xs)(h':zX X.K H a ys):xs=ys:=by
 obtain⟨its,r,⟨o,e,_,n,d⟩,_⟩:=I.tuple h
 obtain⟨its',c,⟨g,b,_,i,d'⟩,_⟩:=I.tuple h'
 rw[e]at b;cases b
 rw[d]at d'
 injection d' with f _
 have:its=its':=by simpa using congrArg tO f
 subst this
 exact r.inj c
end
noncomputable abbrev Cx.wish (X:Cx)(E:ai->aq->Prop):Cx:={X with xe:=E}
noncomputable abbrev Cx.nox (X:Cx):Cx:=X.wish fun _ _=>False
theorem Cx.Ok.wish {X:Cx}(ok:X.Ok)(E:ai->aq->Prop):(X.wish E).Ok :=
 ⟨ok.mod,ok.kind,ok.glob,ok.blt,ok.above,ok.inj,ok.has,ok.cab,ok.hd,ok.frames,ok.stk,ok.exf,ok.bs,ok.bsz,ok.noex,ok.exfs,ok.funs,ok.frf⟩
theorem Cx.Ok.unwish {X:Cx}{E:ai->aq->Prop}(ok:(X.wish E).Ok):X.Ok :=
 ⟨ok.mod,ok.kind,ok.glob,ok.blt,ok.above,ok.inj,ok.has,ok.cab,ok.hd,ok.frames,ok.stk,ok.exf,ok.bs,ok.bsz,ok.noex,ok.exfs,ok.funs,ok.frf⟩
section
variable{X:Cx}{pins:List (ao×Obj)}{σ:St}{H:Hp}{s:aq}{E:ai->aq->Prop}
theorem Inv.wish (I:Inv X pins σ H s)(E:ai->aq->Prop):Inv (X.wish E) pins σ H s:=⟨I.ok.wish E,I.os,I.bare,I.base,I.loc,I.cell,I.free,I.freeC,I.pin,I.hok,I.len⟩
theorem Inv.unwish (I:Inv (X.wish E) pins σ H s):Inv X pins σ H s:=⟨I.ok.unwish,I.os,I.bare,I.base,I.loc,I.cell,I.free,I.freeC,I.pin,I.hok,I.len⟩
theorem SP.unwish {D:Ends}{f:Flow}{s':aq}(h:SP (X.wish E) pins D f s'):SP X pins D f s':=by
 cases f with
 |next=>obtain⟨a,b,I,q⟩:=h;exact⟨a,b,I.unwish,q⟩
 |brk=>obtain⟨a,b,I,q⟩:=h;exact⟨a,b,I.unwish,q⟩
 |cont=>obtain⟨a,b,I,q⟩:=h;exact⟨a,b,I.unwish,q⟩
 |ret u=>obtain⟨v,a,b,I,r,q⟩:=h;exact⟨v,a,b,I.unwish,r,q⟩
theorem qA.nox {st:List cT}{t:TS}(h:qA X.nox st t):qA X st t:=fun pins s σ H D I a=>
 cK (h pins s σ H D (I.wish _) a) (fun _ _ q=>q.unwish) fun _ _ z=>d6 z
end
section
variable{X:Cx}{st:cT}{vK:List cT}{t u:TS}{e:bF}{te:TE}{pos:Pos}
noncomputable def zFW:TS:=fun D σ H=>D.nx σ H
noncomputable def zAX (t u:TS):TS:=fun D σ H=>t {D with nx:=u D} σ H
theorem yQ:qA X [] zFW:=fun _ _ σ H _ I h=>ji ⟨σ,H,I,h⟩
theorem zM (b:PS X st t)(c:qA X vK u):qA X (st::vK) (zAX t u):=by
 intro a s σ H D I h
 refine pX (zH (b a s σ H {D with nx:=u D} I h) fun f d q=>?_)
 cases f with
 |next=>
  obtain⟨g,i,j,q⟩:=q
  exact c a d g i D j q
 |ret v=>exact q
 |brk=>exact q
 |cont=>exact q
theorem zK (b:PS X st t):qA X [st] t:=by
 intro a s σ H D I h
 refine pX (zH (b a s σ H D I h) fun f c q=>?_)
 cases f with
 |next=>exact ji q
 |ret v=>exact q
 |brk=>exact q
 |cont=>exact q
theorem Inv.quiet {a:List (ao×Obj)}{σ:St}{H:Hp}{s:aq}(I:Inv X a σ H s):interactive X.env=false:=by simp[interactive,I.ok.kind]
noncomputable def zKO (te:TE):TS:=fun D σ H=>te σ H fun _ H1=>D.nx σ H1
theorem v5 (he:PE X e te)(b:swapsWith e none pos.line X.env=pure false:=by rfl):PS X (.Expr e pos) (zKO te):=by
 intro a s σ H D I h
 exact wpAny_Expr_any (zH (he a s σ H _ I h) fun v g ⟨x,c,d,i,f⟩=>⟨σ,c,d,f⟩) I.quiet b
noncomputable def zKP (te:TE):TS:=fun D σ H=>te σ H D.rt
theorem z0 (he:PE X e te):PS X (.Return (some e) pos) (zKP te):=by
 intro a s σ H D I h
 exact wpAny_Return_some (zH (he a s σ H _ I h) fun v g ⟨x,b,c,d,f⟩=>⟨x,σ,b,c,d,f⟩)
noncomputable def zKQ (c:TT)(t u:TS):TS:=fun D σ H=>c σ H fun b H1=>if b=true then t D σ H1 else u D σ H1
theorem yR {c:bF}{a b:List cT}{g:TT}(n:PT X c g)(ha:qA X a t)(o:qA X b u):PS X (.If c a b pos) (zKQ g t u):=by
 intro f s σ H D I h
 refine wpAny_If (zH (n f s σ H _ I h) fun d i zq=>?_)
 obtain⟨j,l,m⟩:=zq
 cases d with
 |true=>exact ha f i σ j D l m
 |false=>exact o f i σ j D l m
noncomputable def zKR:TS:=fun _ _ _=>False
theorem zAY:PS X st zKR:=fun _ _ _ _ _ _ h=>h.elim
end
noncomputable abbrev TG:=V->St->Hp->(St->Hp->Prop)->Prop
noncomputable abbrev gA:=List V->St->Hp->(St->Hp->Prop)->Prop
noncomputable def PG (X:Cx)(target:bF)(t:TG):Prop :=
 ∀(pins:List (ao×Obj)) (s:aq) (σ:St) (H:Hp) (v:V) (u:ai) (Q:St->Hp->Prop),Inv X pins σ H s->zQ v u->t v σ H Q->
  wpAny (model X.prog X.w) X.A (assign target X.env u) (fun _ s'=>∃σ' H',Inv X pins σ' H' s'/\Q σ' H') X.xe s
noncomputable def PGs (X:Cx)(ts:List bF)(t:gA):Prop :=
 ∀(pins:List (ao×Obj)) (s:aq) (σ:St) (H:Hp) (vs:List V) (us:List ai) (Q:St->Hp->Prop),Inv X pins σ H s->zJ vs us->t vs σ H Q->
  wpAny (model X.prog X.w) X.A (assignInOrder ((assignEach ts X.env).map (·.2)) us) (fun _ s'=>∃σ' H',Inv X pins σ' H' s'/\Q σ' H') X.xe s
noncomputable abbrev zCq:=V->V->V->Hp->(Hp->Prop)->Prop
noncomputable def zFX (X:Cx)(t:zCq):Prop :=
 ∀(pins:List (ao×Obj)) (s:aq) (σ:St) (H:Hp) (o i v:V) (ov iv u:ai) (Q:Hp->Prop),Inv X pins σ H s->zQ o ov->zQ i iv->zQ v u->t o i v H Q->
  wpAny (model X.prog X.w) X.A (setItem ov iv u) (fun _ s'=>∃H',Inv X pins σ H' s'/\Q H') X.xe s
section
variable{X:Cx}{pos:Pos}
noncomputable def zBi (i:Nat):TG:=fun v σ H Q=>Q (σ.set i (some v)) H
theorem z7 {i:Nat}{x:Str}(b:X.N.Nodup)(hi:X.N[i]?=some x)(c:Loc X.env.scope x)(hf:X.fn x=true\/X.env.scope.names.lookup x=some .local:=by first|exact .inl rfl|exact .inr rfl|assumption):PG X (.Name x pos) (zBi i):=by
 intro a s σ H v u Q I r h
 exact oV (zCm I b hi c r (fun s' d=>⟨_,H,d,h⟩) hf)
noncomputable def zKS:gA:=fun vs σ H Q=>vs=[]/\Q σ H
noncomputable def zKT (t:TG)(u:gA):gA:=fun vs σ H Q=>∃v r,vs=v::r/\t v σ H fun σ' H'=>u r σ' H' Q
theorem qC:PGs X [] zKS:=by
 intro a s σ H vs us Q I r h
 obtain⟨e,h⟩:=h
 subst e
 cases r
 exact assignInOrder_nil ⟨σ,H,I,h⟩
theorem yY {e:bF}{b:List bF}{t:TG}{u:gA}(c:PG X e t)(d:PGs X b u)
  (f:(assignEach (e::b) X.env).map (·.2)=assign e X.env::(assignEach b X.env).map (·.2):=by rfl):PGs X (e::b) (zKT t u):=by
 intro a s σ H vs us Q I r h
 obtain⟨v,o,e1,h⟩:=h
 subst e1
 cases r with
 |cons r g=>
  rw[f]
  refine assignInOrder_cons (zH (c a s σ H _ _ _ I r h) fun _ i zq=>?_)
  obtain⟨j,l,m,n⟩:=zq
  exact d a i j l _ _ Q m g n
noncomputable def zFY (K:ag)(n:Nat)(t:gA):TG:=fun v σ H Q=>∃a xs,v=.ref a/\zX K H a xs/\xs.length=n/\t xs σ H Q
theorem gU {d:List bF}{k:Nat}{t:gA}{n:Nat}(j:X.calm=true)(h:PGs X d t)
  (hn:(assignEach d X.env).length=n:=by rfl) (f:(assignEach d X.env).findIdx? (·.1)=none:=by rfl):PG X (.Tuple d k pos) (zFY X.K n t):=by
 intro c s σ H v u Q I r g
 obtain⟨a,xs,e1,l,hl,g⟩:=g
 subst e1
 cases r
 obtain⟨its,i,m,hz⟩:=I.tuple l
 refine assign_Tuple_tuple (I.ok.hd j) m (by simp[hn,<-hl,i.length]) f fun h' p=>?_
 have q:Inv X c σ H {s with heap:=h'}:=I.kept (t':=s.toks) fun b o e=>p b o (aV (aD e)) e
 exact h c _ σ H xs _ Q q (by simpa using i) g
noncomputable def zKU (to ti:TE)(t:zCq):TG:=fun v σ H Q=>to σ H fun o H1=>ti σ H1 fun i H2=>t o i v H2 fun H3=>Q σ H3
theorem zKV {o i:bF}{to ti:TE}{t:zCq}(d:PE X o to)(hi:PE X i ti)(e:zFX X t)
  (ha:∀v,assign (.Subscript o i pos) X.env v=(do
   let b<-holding [v] (eval o X.env)
   let c<-holding [v,b] (eval i X.env)
   standAt pos
   holding [v,b,c] (setItem b c v)
   release [v,b,c] []):=by intro _;rfl):PG X (.Subscript o i pos) (zKU to ti t):=by
 intro a s σ H v u Q I r h
 rw[ha]
 refine af (cV (zH (d a s σ H _ I h) fun b f zq=>?_))
 obtain⟨x,g,j,l,m⟩:=zq
 refine af (cV (zH (hi a f σ g _ j m) fun c n zq=>?_))
 obtain⟨y,p,q,w,z⟩:=zq
 refine af (oq (af (cV (zH (e a n σ p x y v b c u _ q l w r z) fun _ D zq=>?_))))
 obtain⟨A,B,C⟩:=zq
 exact wpAny_release ⟨σ,A,B,C⟩
noncomputable def zBG (te:TE)(g:TG):TS:=fun D σ H=>te σ H fun x H1=>g x σ H1 D.nx
theorem zKW {b e:bF}{c:TE}{g:TG}(he:PE X e c)(d:PG X b g)(f:swapsWithSole [b] e pos.line X.env=pure false:=by rfl)(i:swappedStores [b] e X.env=pure none:=by rfl)
  (j:(assignEach [b] X.env).map (·.2)=[assign b X.env]:=by rfl):PS X (.Assign [b] e pos) (zBG c g):=by
 intro a s σ H D I h
 refine wpAny_Assign_stores (zH (he a s σ H _ I h) fun v l zq=>?_) f i
 obtain⟨x,m,n,o,p⟩:=zq
 rw[j]
 exact zH (d a l σ m x v _ n o p) fun _ r q=>q
theorem yA {i:Nat}{x:Str}{e:bF}{c:TE}{a:Pos}(d:X.N.Nodup)(hi:X.N[i]?=some x)(f:Loc X.env.scope x)(he:PE X e c)(g:swapsWith e (some (.Name x a)) pos.line X.env=pure false:=by rfl)(hf:X.fn x=true\/X.env.scope.names.lookup x=some .local:=by first|exact .inl rfl|exact .inr rfl|assumption) :
  PS X (.Assign [.Name x a] e pos) (zBG c (zBi i)):=by
 intro b s σ H D I h
 refine wpAny_Assign_Name (zH (he b s σ H _ I h) fun v p zq=>?_) g
 obtain⟨y,j,l,m,n⟩:=zq
 exact zCm l d hi f m (fun q o=>⟨_,j,o,n⟩) hf
noncomputable def zKX (c:TT)(tb:TS):TS:=fun D σ H=>∃W:Nat->St->Hp->Prop,(∃m,W m σ H)/\∀m σ H,W m σ H->
 c σ H fun b H1=>if b=true then∃N:St->Hp->Prop,(∀σ' H',N σ' H'->∃m',m'<m/\W m' σ' H')/\tb {D with nx:=N,ct:=N,bk:=D.nx} σ H1 else D.nx σ H1
theorem zKY {c:bF}{body:List cT}{r:TT}{tb:TS}(t:PassesOwn (model X.prog X.w) X.A X.env X.xe)(E:PT X c r)(F:qA X body tb):PS X (.While c body [] pos) (zKX r tb):=by
 intro a s σ H D I h
 obtain⟨W,⟨G,w0⟩,d⟩:=h
 refine wpAny_While (codeAny_whileLoop (fun n s'=>∃u x,Inv X a u x s'/\W n u x) ?_ G ⟨σ,H,I,w0⟩)
 rintro n J ⟨i,y,L,w1⟩
 refine eW t (zH (E a J i y _ L (d n i y w1)) fun b M zq=>?_)
 obtain⟨z,B,j⟩:=zq
 cases b with
 |true=>
  obtain⟨N,C,j⟩:=j
  rw[if_pos rfl]
  refine eW t (zH (F a M i z _ B j) fun f O l=>?_)
  cases f with
  |next=>
   obtain⟨e,g,m,o⟩:=l
   obtain⟨p,q,w3⟩:=C e g o
   exact⟨p,q,e,g,m,w3⟩
  |cont=>
   obtain⟨e,g,m,o⟩:=l
   obtain⟨p,q,w3⟩:=C e g o
   exact⟨p,q,e,g,m,w3⟩
  |brk=>exact l
  |ret v=>exact l
 |false=>
  rw[if_neg aT]
  exact ji ⟨i,z,B,j⟩
end
structure It where
 go:Nat->Hp->Prop
 yld:Nat->Hp->V->Hp->Prop
 stop:Nat->Hp->Prop
noncomputable def uT (X:Cx)(pins:List (ao×Obj))(H:Hp)(b:ao):Prop :=
 H b=none/\b≠X.env.locals/\b∉X.fs/\(b∈X.ex\/X.s₀.heap.objs.size<=b)/\(∀x c,X.env.cells.lookup x=some c->c≠b)/\∀p∈X.pn++pins,p.1≠b
theorem Inv.fpOk {X:Cx}{a:List (ao×Obj)}{σ:St}{H f:Hp}{s:aq}{b:ao}(I:Inv X a σ H s)(d:s.heap.objs.size<=b)(hn:f b=none):uT X a f b:=by
 refine⟨hn,cw (bq I.lt d),I.nofs d,.inr (bS I.sz d),fun x c e z=>?_,fun p g z=>?_⟩
 ·obtain⟨v,q⟩:=I.cell x c e
  exact absurd (bq q.lt (by rw[z];exact d)) (bI _)
 ·exact absurd (bq (aD (I.pin p g).1) (by rw[z];exact d)) (bI _)
structure Turn (P:aH) (w:aW) (K:ag) (tg:bF) (J:It) (fp:List ao) (it:ao) (tn:Nat->bB->Prop):Prop where
 mem:it∈fp
 obj:∀i h,tn i h->∀b∈fp,∃o,h.get? b=some o/\∀v,o.data≠.cell v
 keep:∀i h h',tn i h->(∀b∈fp,∀o,h.get? b=some o->h'.get? b=some o)->tn i h'
 item:∀(X:Cx),X.prog=P->X.w=w->X.K=K->X.calm=true->∀(i:Nat) (pins:List (ao×Obj)) (s:aq) (σ:St) (H:Hp) (E:ai->aq->Prop),Inv X pins σ H s->(∀b∈fp,uT X pins H b)->tn i s.heap->J.go i H->
  wpAny (model P w) X.A (pyNext (.ref it)) (fun r s1=>∃u,r=some u/\
   wpAny (model P w) X.A (letOwnedTupleGo tg (.ref it) u) (fun _ s2=>∃x H',Inv X pins σ H' s2/\zQ x u/\J.yld i H x H'/\tn (i+1) s2.heap/\∀b∈fp,H' b=none) E s1) E s
 done:∀(X:Cx),X.prog=P->X.w=w->X.K=K->X.calm=true->∀(i:Nat) (pins:List (ao×Obj)) (s:aq) (σ:St) (H:Hp) (E:ai->aq->Prop),Inv X pins σ H s->(∀b∈fp,uT X pins H b)->tn i s.heap->J.stop i H->
  wpAny (model P w) X.A (pyNext (.ref it)) (fun r s1=>r=none/\Inv X pins σ H s1) E s
 self:∀(A:bK) (i:Nat) (s:aq) (Q:ai->aq->Prop) (E:ai->aq->Prop),tn i s.heap->Q (.ref it) s->wpAny (model P w) A (pyIter (.ref it)) Q E s
noncomputable abbrev TI:=St->Hp->(It->Hp->Prop)->Prop
noncomputable def PIE (X:Cx)(pins:List (ao×Obj))(σ:St)(tg:bF)(R:It->Hp->Prop)(itv:ai)(s2:aq):Prop :=
 ∃(it:ao) (fp:List ao) (tn:Nat->bB->Prop) (J:It) (H':Hp),itv=.ref it/\Inv X pins σ H' s2/\Turn X.prog X.w X.K tg J fp it tn/\tn 0 s2.heap/\(∀b∈fp,uT X pins H' b)/\R J H'
noncomputable def PI (X:Cx)(tg iter:bF)(wi:TI):Prop :=
 ∀(pins:List (ao×Obj)) (s:aq) (σ:St) (H:Hp) (R:It->Hp->Prop),Inv X pins σ H s->wi σ H R->
  wpAny (model X.prog X.w) X.A (eval iter X.env) (fun v s1=>wpAny (model X.prog X.w) X.A (pyIter v) (PIE X pins σ tg R) X.xe s1) X.xe s
theorem zAZ {M:Model}{A:bK}{E:ai->aq->Prop}{s:aq}{b:bF}{c:ao}{u:ai}{o:Obj}{n:String}{vs:Array ai}{Q:Unit->aq->Prop}(d:s.heap.get? c=some o)(e:o.cls=.type n)(hd:o.data=.fields vs)
  (hn:["enumerate","zip","dict_itemiterator","dict_reverseitemiterator","odict_iterator","itertools.zip_longest","itertools.pairwise"].contains n=false) (a:Q () s):wpAny M A (letOwnedTupleGo b (.ref c) u) Q E s:=by
 unfold letOwnedTupleGo
 cases b<;>first
  |exact ar a
  |(cases u<;>first
    |exact ar a
    |(refine af (wpAny_load d ?_)
      rw[e,hd]
      show wpAny M A (if(["enumerate","zip","dict_itemiterator","dict_reverseitemiterator","odict_iterator","itertools.zip_longest","itertools.pairwise"].contains n&&vs[0]? ==some (rawInt _))=true then _ else _) Q E s
      rw[if_neg (by intro h;rw[hn,nG]at h;cases h)]
      exact ar a))
noncomputable def Itl (K:ag)(a:ao):It :=
 ⟨fun i H=>∃xs x,z6 K H a xs/\xs[i]?=some x,fun i H x H'=>H'=H/\∀xs,z6 K H a xs->xs[i]?=some x,fun i H=>∃xs,z6 K H a xs/\xs.length<=i⟩
noncomputable def Itt (K:ag)(a:ao):It :=
 ⟨fun i H=>∃xs x,zX K H a xs/\xs[i]?=some x,fun i H x H'=>H'=H/\∀xs,zX K H a xs->xs[i]?=some x,fun i H=>∃xs,zX K H a xs/\xs.length<=i⟩
noncomputable def Itr (lo:Int)(n:Nat):It:=⟨fun i _=>i<n,fun i H x H'=>H'=H/\x=.int (lo+i),fun i _=>n<=i⟩
theorem zKZ {P:aH}{w:aW}{K:ag}{J:bF}(a g:ao):Turn P w K J (Itl K a) [g] g (fun i h=>h.IsListIter g a i) where
 mem:=by simp
 obj:=fun i h st b j=>by
  have e:b=g:=by simpa using j
  subst e
  obtain⟨o,e,c,d⟩:=st
  exact⟨o,e,fun v z=>by rw[d]at z;cases z⟩
 keep:=fun i h h' st k=>st.at fun o e=>k g (by simp) o e
 item:=by
  intro X n q r G i f s σ H E I hf st t
  subst n q r
  obtain⟨xs,x,m,y⟩:=t
  obtain⟨its,A,p,hz⟩:=I.list m
  obtain⟨u,L,M⟩:=A.get y
  obtain⟨B,f1,f2,C,D,F⟩:=hf g (by simp)
  refine wpAny_pyNext_list_item st p.isList (x:=u) (by simpa using L) fun h' l N=>?_
  have O:Inv X f σ H {s with heap:=h'}:=I.turned (t':=s.toks) (fun b o j e=>(N.2 b j).trans e) B f1 C D F
  obtain⟨o,e,c,d⟩:=id l
  exact⟨u,rfl,zAZ (s:={s with heap:=h'}) e c d (by decide) ⟨x,H,O,M,⟨rfl,fun ys Q=>by rw[I.list_inj Q m];exact y⟩,l,fun b j=>(hf b j).1⟩⟩
 done:=by
  intro X n q r G i f s σ H E I hf st t
  subst n q r
  obtain⟨xs,m,y⟩:=t
  obtain⟨its,A,p,hz⟩:=I.list m
  obtain⟨B,f1,f2,C,D,F⟩:=hf g (by simp)
  have hl:=A.length
  exact wpAny_pyNext_list_end (I.ok.hd G) st p.isList (by simp;omega) fun h' R=>⟨rfl,I.turned (t':=s.toks) (fun b o j e=>R b o j e) B f1 C D F⟩
 self:=fun _ _ _ _ _ st h=>wpAny_pyIter_listiter st h
theorem zKa {P:aH}{w:aW}{K:ag}{J:bF}(a g:ao):Turn P w K J (Itt K a) [g] g (fun i h=>h.IsTupleIter g a i) where
 mem:=by simp
 obj:=fun i h st b j=>by
  have e:b=g:=by simpa using j
  subst e
  obtain⟨o,e,c,d⟩:=st
  exact⟨o,e,fun v z=>by rw[d]at z;cases z⟩
 keep:=fun i h h' st k=>st.at fun o e=>k g (by simp) o e
 item:=by
  intro X n q r G i f s σ H E I hf st t
  subst n q r
  obtain⟨xs,x,m,y⟩:=t
  obtain⟨its,A,p,hz⟩:=I.tuple m
  obtain⟨u,L,M⟩:=A.get y
  obtain⟨B,f1,f2,C,D,F⟩:=hf g (by simp)
  refine wpAny_pyNext_tuple_item st (show s.heap.IsTuple a its.toArray from p) (x:=u) (by simpa using L) fun h' l N=>?_
  have O:Inv X f σ H {s with heap:=h'}:=I.turned (t':=s.toks) (fun b o j e=>(N.2 b j).trans e) B f1 C D F
  obtain⟨o,e,c,d⟩:=id l
  exact⟨u,rfl,zAZ (s:={s with heap:=h'}) e c d (by decide) ⟨x,H,O,M,⟨rfl,fun ys Q=>by rw[I.tuple_inj Q m];exact y⟩,l,fun b j=>(hf b j).1⟩⟩
 done:=by
  intro X n q r G i f s σ H E I hf st t
  subst n q r
  obtain⟨xs,m,y⟩:=t
  obtain⟨its,A,p,hz⟩:=I.tuple m
  obtain⟨B,f1,f2,C,D,F⟩:=hf g (by simp)
  have hl:=A.length
  exact wpAny_pyNext_tuple_end (I.ok.hd G) st (show s.heap.IsTuple a its.toArray from p) (by simp;omega) fun h' R=>⟨rfl,I.turned (t':=s.toks) (fun b o j e=>R b o j e) B f1 C D F⟩
 self:=fun _ _ _ _ _ st h=>wpAny_pyIter_tupleiter st h
theorem zKb {P:aH}{w:aW}{K:ag}{y:bF}(a:ao)(lo:Int)(n:Nat):Turn P w K y (Itr lo n) [a] a (fun i h=>IsRangeIter h a (lo+(i:Nat)*1) ((n:Int)- (i:Nat)) 1) where
 mem:=by simp
 obj:=fun i h st b d=>by
  have e:b=a:=by simpa using d
  subst e
  exact⟨_,st,fun v z=>by
   have A:Data.fields _=Data.cell v:=z
   cases A⟩
 keep:=fun i h h' st k=>k a (by simp) _ st
 item:=by
  intro X g j l m i c s σ H E I hf st p
  subst g j l
  obtain⟨q,f1,f2,r,u,x⟩:=hf a (by simp)
  have W:=Walks.range (prog:=X.prog) (w:=X.w) (I.ok.hd m) a lo 1 n
  refine W.item i s _ _ p st fun v h' tk hv f kk=>?_
  obtain⟨t,rfl⟩:=hv
  have B:Inv X c σ H {s with heap:=h',toks:=tk}:=I.turned (fun b o d e=>kk b o (by simpa using d) e) q f1 r u x
  refine⟨_,rfl,zAZ (s:={s with heap:=h',toks:=tk}) (n :="range_iterator") f rfl rfl (by decide) ⟨.int (lo+i),H,B,⟨t,?_⟩,⟨rfl,rfl⟩,f,fun b d=>(hf b d).1⟩⟩
  rw[Int.mul_one]
 done:=by
  intro X g j l m i c s σ H E I hf st p
  subst g j l
  obtain⟨q,f1,f2,r,u,x⟩:=hf a (by simp)
  exact wpAny_pyNext_range_end (I.ok.hd m) st (by have:n<=i:=p;omega) fun h' C=>⟨rfl,I.turned (t':=s.toks) (fun b o d e=>C b o d e) q f1 r u x⟩
 self:=fun _ _ _ _ _ st h=>wpAny_pyIter_rangeiter st h
section
variable{X:Cx}{tg:bF}
noncomputable def zKc (K:ag)(tl:TE):TI:=fun σ H R=>tl σ H fun x H1=>∃a,x=.ref a/\(∃xs,z6 K H1 a xs)/\R (Itl K a) H1
noncomputable def zKd (K:ag)(tl:TE):TI:=fun σ H R=>tl σ H fun x H1=>∃a,x=.ref a/\(∃xs,zX K H1 a xs)/\R (Itt K a) H1
theorem jB {l:bF}{tl:TE}(hl:PE X l tl):PI X tg l (zKc X.K tl):=by
 intro c s σ H R I h
 refine zH (hl c s σ H _ I h) fun v d zq=>?_
 obtain⟨x,g,f,i,j⟩:=zq
 obtain⟨a,e,⟨xs,m⟩,q⟩:=j
 subst e
 cases i
 obtain⟨its,r,p,hz⟩:=f.list m
 refine e8 p.isList ?_
 refine⟨d.heap.objs.size,[d.heap.objs.size],_,_,g,rfl,f.kept (t':=d.toks) fun b o e=>ae _ e,zKZ a _,⟨_,aC _ rfl,rfl,rfl⟩,fun b n=>?_,q⟩
 have e:b=d.heap.objs.size:=by simpa using n
 subst e
 exact f.fpOk (aA _) (f.hok.fresh (aA _))
theorem zBH {l:bF}{tl:TE}(hl:PE X l tl):PI X tg l (zKd X.K tl):=by
 intro c s σ H R I h
 refine zH (hl c s σ H _ I h) fun v d zq=>?_
 obtain⟨x,g,f,i,j⟩:=zq
 obtain⟨a,e,⟨xs,m⟩,q⟩:=j
 subst e
 cases i
 obtain⟨its,r,p,hz⟩:=f.tuple m
 refine dG (show d.heap.IsTuple a its.toArray from p) ?_
 refine⟨d.heap.objs.size,[d.heap.objs.size],_,_,g,rfl,f.kept (t':=d.toks) fun b o e=>ae _ e,zKa a _,⟨_,aC _ rfl,rfl,rfl⟩,fun b n=>?_,q⟩
 have e:b=d.heap.objs.size:=by simpa using n
 subst e
 exact f.fpOk (aA _) (f.hok.fresh (aA _))
theorem zFZ {a:List (ao×Obj)}{σ:St}{H:Hp}{s:aq}{R:It->Hp->Prop}{E:ai->aq->Prop}{lo hi:Int}{t u v:Tok}{tk:Nat}(I:Inv X a σ H s)(d:-(2^62)<=lo)(f:lo<2^62)(g:-(2^62)<=hi)(h:hi<2^62)
  (q:R (Itr lo (hi-lo).toNat) H):wpAny (model X.prog X.w) X.A (pyIter (.ref s.heap.objs.size)) (PIE X a σ tg R) E {s with heap:=s.heap.push {cls:=.type "range",data:=.fields #[.int lo t,.int hi u,.int 1 v]},toks:=tk}:=by
 refine wpAny_pyIter_range (IsRange.new ..) (small_one d f g h) ?_
 have c:Inv X a σ H {s with heap:=s.heap.push {cls:=.type "range",data:=.fields #[.int lo t,.int hi u,.int 1 v]},toks:=tk}:=I.kept fun b o e=>ae _ e
 refine⟨(s.heap.push {cls:=.type "range",data:=.fields #[.int lo t,.int hi u,.int 1 v]}).objs.size,[(s.heap.push {cls:=.type "range",data:=.fields #[.int lo t,.int hi u,.int 1 v]}).objs.size],_,_,H,rfl,
  c.kept (t':=tk) fun b o e=>ae _ e,zKb _ lo (hi-lo).toNat,?_,fun b i=>?_,q⟩
 ·have e1:lo+((0:Nat):Int)*1=lo:=by simp
  have j:(((hi-lo).toNat:Nat):Int)- ((0:Nat):Int)=tI lo hi 1:=by rw[rangeSize_one];split<;>omega
  show IsRangeIter _ _ (lo+((0:Nat):Int)*1) ((((hi-lo).toNat:Nat):Int)- ((0:Nat):Int)) 1
  rw[e1,j]
  exact aC _ rfl
 ·have e:b=(s.heap.push {cls:=.type "range",data:=.fields #[.int lo t,.int hi u,.int 1 v]}).objs.size:=by simpa using i
  subst e
  exact c.fpOk (aA _) (c.hok.fresh (aA _))
noncomputable def zKe (ta:TA):TI:=fun σ H R=>ta σ H fun vs H1=>∃j:Int,vs=[.int j]/\-(2^62)<=j/\j<2^62/\R (Itr 0 j.toNat) H1
noncomputable def zKf (ta:TA):TI:=fun σ H R=>ta σ H fun vs H1=>∃i j:Int,vs=[.int i,.int j]/\(-(2^62)<=i/\i<2^62/\-(2^62)<=j/\j<2^62)/\R (Itr i (j-i).toNat) H1
theorem zBI {a:bF}{d:TA}{p pos:Pos}(f:Gl X "range")(g:X.mg "range"=none)(ha:PA X [a] d)(i:starEach [a] X.env=[(false,eval a X.env)]:=by rfl):PI X tg (.Call (.Name "range" p) [a] [] pos) (zKe d):=by
 intro b s σ H R I h
 refine uh (qB I f g boot_range (bQ (zH (ha pos b s σ H _ I h) fun us u zq=>?_) i rfl))
 obtain⟨vs,v,l,m,c⟩:=zq
 obtain⟨j,e,c,n,q⟩:=c
 subst e
 cases m with
 |cons r o=>
  cases o
  obtain⟨t,rfl⟩:=r
  exact call_range_1 (zFZ l (by omega) (by omega) c n (by simpa using q))
theorem zKg {a b:bF}{l:TA}{p pos:Pos}(m:Gl X "range")(n:X.mg "range"=none)(ha:PA X [a,b] l)(o:starEach [a,b] X.env=[(false,eval a X.env),(false,eval b X.env)]:=by rfl)(c:starEach [b] X.env=[(false,eval b X.env)]:=by rfl) :
  PI X tg (.Call (.Name "range" p) [a,b] [] pos) (zKf l):=by
 intro d s σ H R I h
 refine uh (qB I m n boot_range (bQ (zH (ha pos d s σ H _ I h) fun us A ⟨vs,B,u,v,f⟩=>?_) (by rw[o,c]) (by rw[c];rfl)))
 obtain⟨i,j,e,⟨f,w,x,y⟩,q⟩:=f
 subst e
 cases v with
 |cons r g=>
  cases g with
  |cons z g=>
   cases g
   obtain⟨t,rfl⟩:=r
   obtain⟨t',rfl⟩:=z
   exact call_range_2 (zFZ u f w x y q)
noncomputable def zKh (wi:TI)(g:TG)(tb:TS):TS:=fun D σ H=>wi σ H fun J H1=>∃W:Nat->Nat->St->Hp->Prop,(∃m,W 0 m σ H1)/\∀i m σ H,W i m σ H->
 (J.stop i H/\D.nx σ H)\/(J.go i H/\∃N:St->Hp->Prop,(∀σ' H',N σ' H'->∃m',m'<m/\W (i+1) m' σ' H')/\∀x H',J.yld i H x H'->g x σ H' fun σ2 H2=>tb {D with nx:=N,ct:=N,bk:=D.nx} σ2 H2)
noncomputable def zAa (fp:List ao)(h:bB):List (ao×Obj):=fp.filterMap fun b=>(h.get? b).map fun o=>(b,o)
theorem gX {fp:List ao}{h:bB}{b:ao}{o:Obj}(a:b∈fp)(e:h.get? b=some o):(b,o)∈zAa fp h:=oG.mpr ⟨b,a,by rw[e];rfl⟩
theorem zKi {fp:List ao}{h:bB}{p:ao×Obj}(a:p∈zAa fp h):p.1∈fp/\h.get? p.1=some p.2:=by
 obtain⟨b,c,e⟩:=oG.mp a
 cases q:h.get? b with
 |none=>rw[q]at e;cases e
 |some o=>
  rw[q]at e
  have d:(b,o)=p:=aB e
  subst d
  exact⟨c,q⟩
theorem Inv.pinned {a:List (ao×Obj)}{σ:St}{H:Hp}{s:aq}{fp:List ao}(I:Inv X a σ H s)(hf:∀b∈fp,uT X a H b)(g:∀b∈fp,∃o,s.heap.get? b=some o/\∀v,o.data≠.cell v):Inv X (a++zAa fp s.heap) σ H s :=
 I.pins_of fun p h=>(bz.mp h).elim (fun z=>I.pin p (aX _ z)) fun z=>by
  obtain⟨c,e⟩:=zKi z
  obtain⟨i,f1,f2,_⟩:=hf p.1 c
  obtain⟨o,f,d⟩:=g p.1 c
  rw[e]at f;cases f
  exact⟨e,i,f1,f2,d⟩
theorem Inv.unpinned {a pl:List (ao×Obj)}{σ:St}{H:Hp}{s:aq}(I:Inv X (a++pl) σ H s):Inv X a σ H s:=I.pins_of fun p b=>I.pin p (aX _ (b0 _ b))
theorem uL {iter:bF}{body:List cT}{Z:TI}{g:TG}{tb:TS}{pos:Pos}(B:PassesOwn (model X.prog X.w) X.A X.env X.xe)(hc:X.calm=true)(hi:PI X tg iter Z)(hg:PG X tg g)(c:qA X body tb)
  (hs:∀x,foldedSetIterable iter X.env x=pure x:=by intro _;rfl):PS X (.For tg iter body [] pos) (zKh Z g tb):=by
 intro a s σ H D I h
 refine wpAny_For (zH (hi a s σ H _ I h) fun v s1 h1=>zH h1 fun aa s2 h2=>?_) hs
 obtain⟨it,fp,tn,J,H2,e,I2,T,P,f2,W,⟨m0,w0⟩,C⟩:=h2
 subst e
 have j:∀{t:Hp},(∀b∈fp,t b=none)->∀b∈fp,uT X a t b:=fun hn b c=>⟨hn b c,(f2 b c).2⟩
 refine codeAny_forLoop_any (fun n s'=>∃i E t,Inv X a E t s'/\tn i s'.heap/\(∀b∈fp,t b=none)/\W i n E t) ?_ m0 ⟨0,σ,H2,I2,P,fun b c=>(f2 b c).1,w0⟩
 rintro n s3 ⟨i,F,O,I3,G,L,w3⟩
 rcases C i n F O w3 with⟨stop,qn⟩|⟨go,N,hN,step⟩
 ·refine eW B (zH (T.done X rfl rfl rfl hc i a s3 F O X.xe I3 (j L) G stop) fun r s4 zq=>?_)
  obtain⟨Q,I4⟩:=zq
  subst Q
  exact ji ⟨F,O,I4,qn⟩
 ·refine eW B (zH (T.item X rfl rfl rfl hc i a s3 F O X.xe I3 (j L) G go) fun r s4 zq=>?_)
  obtain⟨u,Q,h4⟩:=zq
  subst Q
  refine eW B (zH h4 fun _ s5 zq=>?_)
  obtain⟨x,H5,I5,r5,y5,z,R⟩:=zq
  have U:=I5.pinned (j R) (T.obj _ _ z)
  refine eW B (zH (hg _ s5 F H5 x u _ U r5 (step x H5 y5)) fun _ s6 ⟨σ6,H6,I6,q6⟩=>?_)
  refine eW B (zH (c _ s6 σ6 H6 _ I6 q6) fun f Y y=>?_)
  have again:∀{l:St} {p:Hp},Inv X (a++zAa fp s5.heap) l p Y->N l p->∃m,m<n/\∃i E t,Inv X a E t Y/\tn i Y.heap/\(∀b∈fp,t b=none)/\W i m E t:=fun{l p} q M=>by
   obtain⟨m',hm,w7⟩:=hN l p M
   refine⟨m',hm,i+1,l,p,q.unpinned,T.keep _ _ _ z fun b c o e=>(q.pin (b,o) (aX _ (aX _ (gX c e)))).1,fun b c=>?_,w7⟩
   obtain⟨o,e,d⟩:=T.obj _ _ z b c
   exact(q.pin (b,o) (aX _ (aX _ (gX c e)))).2.1
  cases f with
  |next=>obtain⟨l,p,q,M⟩:=y;exact again q M
  |cont=>obtain⟨l,p,q,M⟩:=y;exact again q M
  |brk=>obtain⟨l,p,q,y⟩:=y;exact⟨l,p,q.unpinned,y⟩
  |ret v=>obtain⟨x7,l,p,q,r7,y⟩:=y;exact⟨x7,l,p,q.unpinned,r7,y⟩
end
noncomputable abbrev R2:=V->V->Hp->VK->Prop
noncomputable def yG (X:Cx)(f:ai->ai->Sem ai)(r:R2):Prop :=
 ∀(pins:List (ao×Obj)) (s:aq) (σ:St) (H:Hp) (x y:V) (v u:ai) (Q:VK),Inv X pins σ H s->zQ x v->zQ y u->r x y H Q->
  wpAny (model X.prog X.w) X.A (f v u) (EP X pins σ Q) X.xe s
noncomputable def UnR (X:Cx)(f:ai->Sem ai)(r:V->Hp->VK->Prop):Prop :=
 ∀(pins:List (ao×Obj)) (s:aq) (σ:St) (H:Hp) (x:V) (v:ai) (Q:VK),Inv X pins σ H s->zQ x v->r x H Q->
  wpAny (model X.prog X.w) X.A (f v) (EP X pins σ Q) X.xe s
noncomputable def uU (X:Cx)(f:ai)(r:List V->Hp->VK->Prop):Prop :=
 ∀(pins:List (ao×Obj)) (s:aq) (σ:St) (H:Hp) (xs:List V) (us:List ai) (Q:VK),Inv X pins σ H s->zJ xs us->r xs H Q->
  wpAny (model X.prog X.w) X.A (call f us) (EP X pins σ Q) X.xe s
noncomputable def tOp (r:R2)(ta tb:TE):TE:=fun σ H Q=>ta σ H fun x H1=>tb σ H1 fun y H2=>r x y H2 Q
noncomputable def tUn (r:V->Hp->VK->Prop)(ta:TE):TE:=fun σ H Q=>ta σ H fun x H1=>r x H1 Q
noncomputable def rI (C:Int->Int->Prop)(g:Int->Int->V):R2:=fun x y H Q=>∃i j,x=.int i/\y=.int j/\C i j/\Q (g i j) H
noncomputable def gC (g:Int->Int->V):R2:=fun x y H Q=>∃i j,x=.int i/\y=.int j/\Q (g i j) H
noncomputable def rU (g:Int->V):V->Hp->VK->Prop:=fun x H Q=>∃i,x=.int i/\Q (g i) H
section
variable{X:Cx}{a b c:bF}{ta tb tc:TE}{pos:Pos}
theorem zCr (ha:PE X a ta)(j:PE X b tb){d:List (ao×Obj)}{s:aq}{σ:St}{H:Hp}{R:V->V->Hp->Prop}(I:Inv X d σ H s)
  (h:ta σ H fun x i=>tb σ i fun y e=>R x y e) {Q:ai->aq->Prop} {f:ai->ai->Sem ai}
  (hf:∀v u g x y e,Inv X d σ e g->zQ x v->zQ y u->R x y e->wpAny (model X.prog X.w) X.A (f v u) Q X.xe g) :
  wpAny (model X.prog X.w) X.A (eval a X.env) (fun v l=>wpAny (model X.prog X.w) X.A (eval b X.env) (fun u m=>wpAny (model X.prog X.w) X.A (f v u) Q X.xe m) X.xe l) X.xe s:=by
 refine zH (ha d s σ H _ I h) fun v n zq=>?_
 obtain⟨x,i,o,p,q⟩:=zq
 refine zH (j d n σ i _ o q) fun u g zq=>?_
 obtain⟨y,e,r,t,z⟩:=zq
 exact hf v u g x y e r p t z
theorem zT {op:Operator}{r:R2}(e:yG X (binaryOp op) r)(ha:PE X a ta)(f:PE X b tb):PE X (.BinOp a op b pos) (tOp r ta tb):=by
 intro d s σ H Q I h
 exact wpAny_BinOp (zCr ha f I h fun v u g x y i j l m q=>e d g σ i x y v u Q j l m q)
theorem zKj {op:UnaryOp}{r:V->Hp->VK->Prop}(e:UnR X (unaryOp op) r)(ha:PE X a ta):PE X (.UnaryOp op a pos) (tUn r ta):=by
 intro d s σ H Q I h
 exact UnaryOp_ (zH (ha d s σ H _ I h) fun v f ⟨x,g,i,j,l⟩=>e d f σ g x v Q i j l)
theorem opI {f:ai->ai->Sem ai}{C:Int->Int->Prop}{g:Int->Int->Int}
  (rule:∀(i j:Int) (t u:Tok) (s:aq) (Q:ai->aq->Prop) (E:ai->aq->Prop),C i j->Q (.int (g i j) s.toks) {s with toks:=s.toks+1}->wpAny (model X.prog X.w) X.A (f (.int i t) (.int j u)) Q E s) :
  yG X f (rI C fun i j=>.int (g i j)):=by
 intro d s σ H x y v u Q I e l h
 obtain⟨i,j,rfl,rfl,m,q⟩:=h
 obtain⟨t,rfl⟩:=e
 obtain⟨t',rfl⟩:=l
 exact rule i j t t' s _ _ m ⟨.int (g i j),H,I.tok _,⟨_,rfl⟩,q⟩
theorem zFa {f:ai->ai->Sem ai}{g:Int->Int->Int}
  (rule:∀(i j:Int) (t u:Tok) (s:aq) (Q:ai->aq->Prop) (E:ai->aq->Prop),Q (.int (g i j) s.toks) {s with toks:=s.toks+1}->wpAny (model X.prog X.w) X.A (f (.int i t) (.int j u)) Q E s) :
  yG X f (gC fun i j=>.int (g i j)):=by
 intro d s σ H x y v u Q I e l h
 obtain⟨i,j,rfl,rfl,q⟩:=h
 obtain⟨t,rfl⟩:=e
 obtain⟨t',rfl⟩:=l
 exact rule i j t t' s _ _ ⟨.int (g i j),H,I.tok _,⟨_,rfl⟩,q⟩
theorem zCs {f:ai->ai->Sem ai}{g:Int->Int->Bool}
  (rule:∀(i j:Int) (t u:Tok) (s:aq) (Q:ai->aq->Prop) (E:ai->aq->Prop),Q (.bool (g i j)) s->wpAny (model X.prog X.w) X.A (f (.int i t) (.int j u)) Q E s) :
  yG X f (gC fun i j=>.bl (g i j)):=by
 intro d s σ H x y v u Q I e l h
 obtain⟨i,j,rfl,rfl,q⟩:=h
 obtain⟨t,rfl⟩:=e
 obtain⟨t',rfl⟩:=l
 exact rule i j t t' s _ _ ⟨.bl (g i j),H,I,rfl,q⟩
noncomputable def zKk (i j:Int):Prop:=0<j/\j<1073741824
noncomputable def zKl (i j:Int):Prop:=0<=j/\j<=1000000/\i.natAbs<2^64
noncomputable def zBJ (i j:Int):Prop:=(-(2^64)<i/\i<2^64)\/(-(2^64)<j/\j<2^64)
theorem zBJ.ok {i j:Int}(h:zBJ i j):IntMulOk i j:=by
 rcases h with⟨d,e⟩|⟨d,e⟩
 ·exact .of_left (su d e)
 ·exact .of_right (su d e)
theorem yS:yG X (binaryOp .Add) (gC fun i j=>.int (i+j)):=zFa fun _ _ _ _ _ _ _ q=>add_int q
theorem zCt:yG X (binaryOp .Sub) (gC fun i j=>.int (i-j)):=zFa fun _ _ _ _ _ _ _ q=>sub_int q
theorem jT:yG X (binaryOp .Mult) (rI zBJ fun i j=>.int (i*j)):=opI fun _ _ _ _ _ _ _ d q=>mul_int q d.ok
theorem zAb:yG X (binaryOp .FloorDiv) (rI zKk fun i j=>.int (i/j)):=opI fun i j _ _ _ _ _ d q=>by
 have e:(0:Int)<j:=d.1
 have f:j<1073741824:=d.2
 exact floordiv_int (by omega) (by rw[jz i (by omega)];exact q) (.inl (PyProof.noPylong_small (by omega)))
theorem gY:yG X (binaryOp .Mod) (rI (fun _ j=>0<j) fun i j=>.int (i%j)):=opI fun i j _ _ _ _ _ d q=>by
 have e:(0:Int)<j:=d
 exact mod_int' (by omega) (by rw[Int.fmod_eq_emod_of_nonneg i (by omega)];exact q)
theorem zKm:yG X (binaryOp .Pow) (rI zKl fun i j=>.int (i^j.toNat)):=opI fun _ _ _ _ _ _ _ d q=>pow_int_small d.1 d.2.1 d.2.2 q
theorem unI {f:ai->Sem ai}{g:Int->Int}
  (rule:∀(i:Int) (t:Tok) (s:aq) (Q:ai->aq->Prop) (E:ai->aq->Prop),Q (.int (g i) s.toks) {s with toks:=s.toks+1}->wpAny (model X.prog X.w) X.A (f (.int i t)) Q E s) :
  UnR X f (rU fun i=>.int (g i)):=by
 intro d s σ H x v Q I e h
 obtain⟨i,rfl,q⟩:=h
 obtain⟨t,rfl⟩:=e
 exact rule i t s _ _ ⟨.int (g i),H,I.tok _,⟨_,rfl⟩,q⟩
theorem zKn:UnR X (unaryOp .USub) (rU fun i=>.int (-i)):=unI fun _ _ _ _ _ q=>neg_int q
end
noncomputable def zCu:V->V->Bool
 | .non,.non=>true| .non,.int _=>true| .int _,.non=>true| .non,.bl _=>true| .bl _,.non=>true| .non,.str _=>true| .str _,.non=>true
 | .int _,.int _=>true| .bl _,.bl _=>true| .str _,.str _=>true| .byt _,.byt _=>true
 | .int _,.str _=>true| .str _,.int _=>true| .bl _,.str _=>true| .str _,.bl _=>true
 |_,_=>false
noncomputable def rEq:R2:=fun x y H Q=>zCu x y=true/\Q (.bl (decide (x=y))) H
noncomputable def rNe:R2:=fun x y H Q=>zCu x y=true/\Q (.bl (!decide (x=y))) H
theorem zFb {i j:Int}:decide (V.int i=V.int j)=(i==j):=by
 rw[fT]
 simp
theorem zFc {i j:Bool}:decide (V.bl i=V.bl j)=(i==j):=by
 rw[fT]
 simp
theorem zFd {i j:Str}:decide (V.str i=V.str j)=(i==j):=by
 rw[fT]
 simp
theorem zFe {i j:Array UInt8}:decide (V.byt i=V.byt j)=(i.toList==j.toList):=by
 rw[fT]
 cases i
 cases j
 simp
section
variable{X:Cx}{a b c:bF}{ta tb tc:TE}{pos:Pos}
theorem yN {d:List (ao×Obj)}{σ:St}{H:Hp}{s:aq}{Q:VK}{k f:Bool}(I:Inv X d σ H s)(q:Q (.bl k) H)(e:k=f):EP X d σ Q (.bool f) s:=by
 subst e
 exact⟨.bl k,H,I,rfl,q⟩
theorem zAc:yG X (compareOp .Eq) rEq:=by
 intro g s σ H x y v u Q I f d h
 obtain⟨e,q⟩:=h
 cases x with
 |non=>
  cases f
  cases y with
  |non=>cases d;exact rX (yN I q (by simp))
  |bl j=>cases d;exact rY (yN I q (by simp))
  |int j=>obtain⟨t',rfl⟩:=d;exact sy (yN I q (by simp))
  |str j=>obtain⟨t',rfl⟩:=d;exact sA (yN I q (by simp))
  |_=>exact absurd (show false=true from e) aT
 |bl i=>
  cases f
  cases y with
  |non=>cases d;exact rZ (yN I q (by simp))
  |bl j=>cases d;exact eq_bool (yN I q zFc)
  |str j=>obtain⟨t',rfl⟩:=d;exact r9 (yN I q (by simp))
  |_=>exact absurd (show false=true from e) aT
 |int i=>
  obtain⟨t,rfl⟩:=f
  cases y with
  |non=>cases d;exact sC (yN I q (by simp))
  |int j=>obtain⟨t',rfl⟩:=d;exact eq_int (yN I q zFb)
  |str j=>obtain⟨t',rfl⟩:=d;exact sF (yN I q (by simp))
  |_=>exact absurd (show false=true from e) aT
 |str i=>
  obtain⟨t,rfl⟩:=f
  cases y with
  |non=>cases d;exact sI (yN I q (by simp))
  |bl j=>cases d;exact sd (yN I q (by simp))
  |int j=>obtain⟨t',rfl⟩:=d;exact sJ (yN I q (by simp))
  |str j=>obtain⟨t',rfl⟩:=d;exact eq_str (yN I q zFd)
  |_=>exact absurd (show false=true from e) aT
 |byt i=>
  obtain⟨t,rfl⟩:=f
  cases y with
  |byt j=>obtain⟨t',rfl⟩:=d;exact PySem.W.eq_bytes (yN I q zFe)
  |_=>exact absurd (show false=true from e) aT
 |_=>cases y<;>exact absurd (show false=true from e) aT
theorem gZ:yG X (compareOp .NotEq) rNe:=by
 intro g s σ H x y v u Q I f d h
 obtain⟨e,q⟩:=h
 cases x with
 |non=>
  cases f
  cases y with
  |non=>cases d;exact se (yN I q (by simp))
  |bl j=>cases d;exact sf (yN I q (by simp))
  |int j=>obtain⟨t',rfl⟩:=d;exact sL (yN I q (by simp))
  |str j=>obtain⟨t',rfl⟩:=d;exact sM (yN I q (by simp))
  |_=>exact absurd (show false=true from e) aT
 |bl i=>
  cases f
  cases y with
  |non=>cases d;exact sg (yN I q (by simp))
  |bl j=>cases d;exact ne_bool (yN I q (congrArg not zFc))
  |str j=>obtain⟨t',rfl⟩:=d;exact si (yN I q (by simp))
  |_=>exact absurd (show false=true from e) aT
 |int i=>
  obtain⟨t,rfl⟩:=f
  cases y with
  |non=>cases d;exact sN (yN I q (by simp))
  |int j=>obtain⟨t',rfl⟩:=d;exact ne_int (yN I q (congrArg not zFb))
  |str j=>obtain⟨t',rfl⟩:=d;exact sO (yN I q (by simp))
  |_=>exact absurd (show false=true from e) aT
 |str i=>
  obtain⟨t,rfl⟩:=f
  cases y with
  |non=>cases d;exact sP (yN I q (by simp))
  |bl j=>cases d;exact so (yN I q (by simp))
  |int j=>obtain⟨t',rfl⟩:=d;exact sQ (yN I q (by simp))
  |str j=>obtain⟨t',rfl⟩:=d;exact ne_str (yN I q (congrArg not zFd))
  |_=>exact absurd (show false=true from e) aT
 |byt i=>
  obtain⟨t,rfl⟩:=f
  cases y with
  |byt j=>obtain⟨t',rfl⟩:=d;exact PySem.W.ne_bytes (yN I q (congrArg not zFe))
  |_=>exact absurd (show false=true from e) aT
 |_=>cases y<;>exact absurd (show false=true from e) aT
theorem zFf:yG X (compareOp .Lt) (gC fun i j=>.bl (decide (i<j))):=zCs fun _ _ _ _ _ _ _ q=>lt_int q
theorem g7:yG X (compareOp .LtE) (gC fun i j=>.bl (decide (i<=j))):=zCs fun _ _ _ _ _ _ _ q=>le_int q
theorem zKo:yG X (compareOp .Gt) (gC fun i j=>.bl (decide (j<i))):=zCs fun _ _ _ _ _ _ _ q=>gt_int q
theorem zKp:yG X (compareOp .Lt) (fun x y H Q=>∃i j,x=.str i/\y=.str j/\Q (.bl (decide (i.cps.toList<j.cps.toList))) H):=by
 intro d s σ H x y v u Q I e f h
 obtain⟨i,j,rfl,rfl,q⟩:=h
 obtain⟨t,rfl⟩:=e
 obtain⟨t',rfl⟩:=f
 exact lt_str (yN I q rfl)
theorem zKq:yG X (compareOp .In) (fun x y H Q=>∃i j,x=.str i/\y=.str j/\Q (.bl (!(iB j i 0 j.length 1).isEmpty)) H):=by
 intro d s σ H x y v u Q I e f h
 obtain⟨i,j,rfl,rfl,q⟩:=h
 obtain⟨t,rfl⟩:=e
 obtain⟨t',rfl⟩:=f
 exact in_str (yN I q rfl)
theorem zKr:yG X (compareOp .IsNot) (fun x y H Q=>y=.non/\Q (.bl (!decide (x=.non))) H):=by
 intro d s σ H x y v u Q I e f h
 obtain⟨rfl,q⟩:=h
 cases f
 refine isnot_none_gen (yN I q ?_)
 cases x<;>first
  |(cases e;rfl)
  |(obtain⟨t,rfl⟩:=e;rfl)
theorem yG.or {f:ai->ai->Sem ai}{r e:R2}(h:yG X f r)(h':yG X f e):yG X f (fun x y H Q=>r x y H Q\/e x y H Q):=by
 intro d s σ H x y v u Q I g i q
 rcases q with q|q
 ·exact h d s σ H x y v u Q I g i q
 ·exact h' d s σ H x y v u Q I g i q
theorem yU (b:bF){op:rB}(h:op≠.In:=by decide)(d:op≠.NotIn:=by decide):behindInMarks op b=false:=by
 have e1:(op==CmpOp.In)=false:=by cases op<;>first|rfl|exact absurd rfl h
 have e:(op==CmpOp.NotIn)=false:=by cases op<;>first|rfl|exact absurd rfl d
 cases b<;>simp[behindInMarks,e1,e]
theorem jU {op:rB}{r:R2}(e:yG X (compareOp op) r)(ha:PE X a ta)(f:PE X b tb)(g:behindInMarks op b=false):PE X (.Compare a [op] [b] pos) (tOp r ta tb):=by
 intro d s σ H Q I h
 exact wpAny_Compare1 (zCr ha f I h fun v u i x y j l m n q=>e d i σ j x y v u Q l m n q) g
noncomputable def zFg (t:TE):TT:=fun σ H Q=>t σ H fun x H'=>∃k,x=.bl k/\Q k H'
theorem vA {op:rB}{r:R2}(f:yG X (compareOp op) r)(ha:PE X a ta)(g:PE X b tb)(i:behindInMarks op b=false):PT X (.Compare a [op] [b] pos) (zFg (tOp r ta tb)):=by
 intro d s σ H Q I h
 refine nj (zH (ha d s σ H _ I h) fun v j ⟨x,l,m,n,o⟩=>zH (g d j σ l _ m o) fun u p ⟨y,q,t,w,A⟩=>
  zH (f d p σ q x y v u _ t n w A) fun c F ⟨z,B,C,D,k,e,E⟩=>?_) i
 subst e
 cases D
 exact dt ⟨B,C,E⟩
noncomputable def zFh (r r':R2)(ta tb tc:TE):TE:=fun σ H Q=>ta σ H fun x H1=>tb σ H1 fun y H2=>r x y H2 fun z H3=>∃k,z=.bl k/\
 (if k=true then tc σ H3 fun w' H4=>r' y w' H4 Q else Q (.bl false) H3)
theorem zKs {op g:rB}{r j:R2}(p:yG X (compareOp op) r)(i:yG X (compareOp g) j)(ha:PE X a ta)(q:PE X b tb)(t:PE X c tc)
  (w:lastMarks [op,g] [b,c]=false:=by with_unfolding_all rfl):PE X (.Compare a [op,g] [b,c] pos) (zFh r j ta tb tc):=by
 intro f s σ H Q I h
 refine Compare_chain (zH (ha f s σ H _ I h) fun v A ⟨x,B,C,D,E⟩=>chain_link (zH (q f A σ B _ C E) fun u F ⟨y,G,J,l,L⟩=>
  zH (p f F σ G x y v u _ J D l L) fun d M ⟨z,m,n,N,k,e,o⟩=>?_)) w
 subst e
 cases N
 refine dt ?_
 cases k with
 |false=>exact ite_ff ⟨.bl false,m,n,rfl,o⟩
 |true=>exact ite_tt (chain_last (zH (t f M σ m _ n o) fun O P ⟨R,T,U,W,Y⟩=>i f P σ T y R u O Q U l W Y))
theorem zFi {op g:rB}{r j:R2}(p:yG X (compareOp op) r)(i:yG X (compareOp g) j)(ha:PE X a ta)(q:PE X b tb)(t:PE X c tc)
  (w:lastMarks [op,g] [b,c]=false:=by with_unfolding_all rfl):PT X (.Compare a [op,g] [b,c] pos) (zFg (zFh r j ta tb tc)):=by
 intro f s σ H Q I h
 refine isTrue_chain (zH (ha f s σ H _ I h) fun v A ⟨x,B,C,D,E⟩=>test_link (zH (q f A σ B _ C E) fun u F ⟨y,G,J,l,L⟩=>
  zH (p f F σ G x y v u _ J D l L) fun d M ⟨z,m,n,N,k,e,o⟩=>?_)) w
 subst e
 cases N
 refine dt ?_
 cases k with
 |false=>
  obtain⟨k',O,P⟩:=o
  cases O
  exact ite_ff ⟨m,n,P⟩
 |true=>
  refine ite_tt (test_last (zH (t f M σ m _ n o) fun R T ⟨U,W,Y,Z,q4⟩=>zH (i f T σ W y U u R _ Y l Z q4) fun d' s5 zq=>?_))
  obtain⟨z2,H5,I5,r5,k2,e2,q5⟩:=zq
  subst e2
  cases r5
  exact dt ⟨H5,I5,q5⟩
theorem zAd:(sizeLine:Nat)<2^63:=by rw[aL];decide
theorem zFj:yG X (binaryOp .Add) (fun x y H Q=>∃i j,x=.str i/\y=.str j/\i.length+j.length<=sizeLine/\Q (.str (i++j)) H):=by
 intro d s σ H x y v u Q I e f h
 obtain⟨i,j,rfl,rfl,hz,q⟩:=h
 obtain⟨t,rfl⟩:=e
 obtain⟨t',rfl⟩:=f
 exact add_str (fun t' tk=>⟨.str (i++j),H,I.tok _,⟨_,rfl⟩,q⟩) hz
theorem uM {x:V}{us:List ai}(r:zJ [x] us):∃u,us=[u]/\zQ x u:=by
 cases r with
 |cons d e=>cases e;exact⟨_,rfl,d⟩
theorem zAe {x y:V}{us:List ai}(r:zJ [x,y] us):∃u d,us=[u,d]/\zQ x u/\zQ y d:=by
 cases r with
 |cons e f=>
  cases f with
  |cons g h=>cases h;exact⟨_,_,rfl,e,g⟩
theorem zKt (f:X.calm=true):uU X (.builtin "max") (fun xs H Q=>∃i j,xs=[.int i,.int j]/\Q (.int (if j>i then j else i)) H):=by
 intro e s σ H xs us Q I r h
 obtain⟨i,j,rfl,q⟩:=h
 obtain⟨u,g,rfl,⟨t,rfl⟩,⟨t',rfl⟩⟩:=zAe r
 refine max_two_ints (I.ok.hd f) fun h' tk k=>⟨_,H,I.kept k,?_,q⟩
 by_cases d:j>i
 ·rw[if_pos d,if_pos d];exact⟨_,rfl⟩
 ·rw[if_neg d,if_neg d];exact⟨_,rfl⟩
theorem zKu (f:X.calm=true):uU X (.builtin "min") (fun xs H Q=>∃i j,xs=[.int i,.int j]/\Q (.int (if j<i then j else i)) H):=by
 intro e s σ H xs us Q I r h
 obtain⟨i,j,rfl,q⟩:=h
 obtain⟨u,g,rfl,⟨t,rfl⟩,⟨t',rfl⟩⟩:=zAe r
 refine min_two_ints (I.ok.hd f) fun h' tk k=>⟨_,H,I.kept k,?_,q⟩
 by_cases d:j<i
 ·rw[if_pos d,if_pos d];exact⟨_,rfl⟩
 ·rw[if_neg d,if_neg d];exact⟨_,rfl⟩
end
structure ObjM (h:bB) (x dx C:ao) (mA:Str->Option ai):Prop where
 obj:h.get? x=some (eh C dx)
 ns:h.Ns1 dx mA
 ne:dx≠x
theorem zKv {h:bB}{c:ao}{d:Str->Option ai}(n:h.Ns1 c d):∃od,h.get? c=some od/\∀name,ka name od=some (d name):=by
 obtain⟨o,f,ep,g,hd,i,_,j⟩:=n
 refine⟨o,g,fun name=>?_⟩
 have e:=j name
 unfold nsFind findBy at e
 rw[<-Array.find?_toList]at e
 unfold ka
 rw[hd]
 dsimp only
 split
 ·rename_i y q
  rw[q]at e
  exact congrArg some e
 ·rename_i q
  rw[q]at e
  have a:f.toList.any (·.refKey)=false:=by
   rw[List.any_eq_false]
   intro y l
   obtain⟨z,t,b⟩:=i y (Array.mem_toList_iff.mp l)
   simp[wm,b]
  have m:¬f.toList.any (·.refKey)=true:=by rw[a];exact aT
  rw[if_neg m]
  exact congrArg some e
theorem ObjM.look {h:bB}{x a C:ao}{b:Str->Option ai}(I:ObjM h x a C b):∃od,PySem.W.InstAt h x (eh C a) C (some od)/\∀name,ka name od=some (b name) :=
 let⟨od,c,hl⟩:=zKv I.ns
 ⟨od,⟨I.obj,rfl,rfl,c⟩,hl⟩
section
variable{prog:aH}{w:aW}{A:bK}{E:ai->aq->Prop}{s:aq}{K:ag}{x dx C f:ao}{mA:Str->Option ai}{name:Str}{v:ai}
theorem zKw {expr:Bool}{Q:ai->aq->Prop}(X:K.In s.heap)(I:ObjM s.heap x dx C mA)(b:iW K C name=true)(c:lE K C=true)
  (ha:cM K (.ref C) name=some none) (hv:mA name=some v) (a:pY v=true) (h:Q v {s with toks:=s.toks+1}) :
  wpAny (model prog w) A (getAttr (.ref x) name expr) Q E s:=by
 obtain⟨od,J,hl⟩:=I.look
 exact PySem.W.get_value X J (jr b).1 (PySem.W.findObj_own c ha rfl (by rw[hl,hv])) a h
theorem zKx {pl:Sem Bool}{Q:ai×List ai->aq->Prop}(X:K.In s.heap)(I:ObjM s.heap x dx C mA)(a:iW K C name=true)
  (hf:cM K (.ref C) name=some (some (.ref f))) (b:mz K (.ref f)=true) (hv:mA name=none) (h:Q (.ref f,[.ref x]) s) :
  wpAny (model prog w) A (getMethod (.ref x) name pl) Q E s:=by
 obtain⟨od,J,hl⟩:=I.look
 exact PySem.W.method_fn X J (jr a).1 (jr a).2 hf (beq_iff_eq.mp b) (by show(ka name od).map (·.isSome)=some false;rw[hl,hv];rfl) h
theorem zKy {ns:List Str}{Q:Unit->aq->Prop}(X:K.In s.heap)(I:ObjM s.heap x dx C mA)
  (l:cM K (.ref C) "__setattr__"=some (some (.builtin "object.__setattr__"))) (m:oW K C=true) (n:mX K C name=some none) (o:lE K C=true)
  (p:oT mA ns) (hsz:ns.length<=sizeLine)
  (h:∀h',ObjM h' x dx C (fun y=>if y=name then some v else mA y)->e7 dx s.heap h'->Q () {s with heap:=h',toks:=s.toks+2}) :
  wpAny (model prog w) A (setAttr (.ref x) name v) Q E s:=by
 obtain⟨od,J,hl⟩:=I.look
 refine PySem.W.set_plain X J l (PySem.W.osa_open (s:={s with toks:=s.toks+1}) (r:=none) X J m n fun b=>?_)
 obtain⟨B,q,e⟩:=PySem.W.any_some o
 have t:s.heap.get? x=some ⟨.ref C,some dx,.plain,#[]⟩:=I.obj
 refine af (ar (af (af (wpAny_loadPart t (af (vp (s:={s with toks:=s.toks+1}) (PySem.W.looks_clsIn X q) ?_))))))
 rw[e]
 refine ar (a:=some dx) (af (ar (af ?_)))
 refine wpAny_nsSet1 (s:={s with toks:=s.toks+1}) I.ns fun h' c d=>?_
 obtain⟨D,u,z,g,i,j⟩:=c.count (wa name v p)
 refine af (wpAny_lookBehind g (by rw[i];exact pastItsLine_dict (bS j (by rw[aJ];omega))) ?_)
 exact ar (h _ ⟨(d.2 _ (dz I.ne)).trans I.obj,c,I.ne⟩ d)
theorem zKz {R:oH->aq->Prop}{vs:List ai}{a:List (Str×ai)}(X:K.In s.heap)(b:mY K C=true)
  (hi:cM K (.ref C) "__init__"=some (some (.ref f))) (hf:PySem.W.typeIn K (.ref f)=some (.type "function"))
  (h:codeAny (model prog w) (A.under (.builtin "type.__call__" ⟨.ref C::vs,a⟩)) (.call (.ref f) ⟨.ref (s.heap.objs.size+1)::vs,a⟩) (PySem.W.InitBack (s.heap.objs.size+1) R)
   {s with heap:=(s.heap.push du).push (eh C s.heap.objs.size)}) :
  codeAny (model prog w) A (.call (.ref C) ⟨vs,a⟩) R s:=by
 obtain⟨c,g,d,t,os⟩:=s
 exact PySem.W.make_core (PySem.W.makes_of X b) (PySem.W.looks_findIn X hi) (fun self=>PySem.W.bind_fn X self hf) (.inl rfl) h
end
noncomputable def vM (f:Str)(v:V):List (Str×V)->List (Str×V)
 | []=>[(f,v)]
 |(g,x)::r=>if g=f then(g,v)::r else(g,x)::vM f v r
theorem zFk (f g:Str)(v:V):∀fs:List (Str×V),(vM f v fs).lookup g=if g=f then some v else fs.lookup g
 | []=>by
  show iC g [(f,v)]=_
  by_cases h:g=f
  ·have a:(g==f)=true:=beq_iff_eq.mpr h
   simp only[iC,a,if_pos h]
  ·have a:(g==f)=false:=beq_eq_false_iff_ne.mpr h
   simp only[iC,a,if_neg h]
 |(k,x)::r=>by
  have ih:=zFk f g v r
  rw[show vM f v ((k,x)::r)=(if k=f then(k,v)::r else(k,x)::vM f v r)from rfl]
  by_cases b:k=f
  ·rw[if_pos b]
   by_cases h:g=k
   ·have a:(g==k)=true:=beq_iff_eq.mpr h
    simp only[iC,a,if_pos (h.trans b)]
   ·have a:(g==k)=false:=beq_eq_false_iff_ne.mpr h
    simp only[iC,a,if_neg (fun e:g=f=>h (e.trans b.symm))]
  ·rw[if_neg b]
   by_cases h:g=k
   ·have a:(g==k)=true:=beq_iff_eq.mpr h
    simp only[iC,a,if_neg (fun e:g=f=>b (h.symm.trans e))]
   ·have a:(g==k)=false:=beq_eq_false_iff_ne.mpr h
    simp only[iC,a]
    exact ih
theorem zCv (f:Str)(v:V):∀fs:List (Str×V),f∈(vM f v fs).map (·.1)/\∀g,g∈fs.map (·.1)->g∈(vM f v fs).map (·.1)
 | []=>⟨by simp[vM],fun g h=>by simp at h⟩
 |(k,x)::r=>by
  obtain⟨i1,i2⟩:=zCv f v r
  rw[show vM f v ((k,x)::r)=(if k=f then(k,v)::r else(k,x)::vM f v r)from rfl]
  by_cases a:k=f
  ·rw[if_pos a]
   subst a
   exact⟨by simp,fun g h=>by simpa using h⟩
  ·rw[if_neg a]
   refine⟨?_,fun g h=>?_⟩
   ·rw[aQ]
    exact aj _ i1
   ·rw[aQ]at h⊢
    rcases aE.mp h with e|e
    ·exact aE.mpr (.inl e)
    ·exact aj _ (i2 g e)
theorem zFl (f:Str)(v:V):∀fs:List (Str×V),(vM f v fs).length<=fs.length+1
 | []=>by simp[vM]
 |(k,x)::r=>by
  have ih:=zFl f v r
  rw[show vM f v ((k,x)::r)=(if k=f then(k,v)::r else(k,x)::vM f v r)from rfl]
  by_cases a:k=f
  ·rw[if_pos a,aJ,aJ];omega
  ·rw[if_neg a,aJ,aJ];omega
theorem v3.some_of {v:V}{o:Option ai}(r:v3 (some v) o):∃u,o=some u/\zQ v u:=by
 cases o with
 |none=>exact(show False from r).elim
 |some u=>exact⟨u,rfl,r⟩
theorem v3.none_of {o:Option ai}(r:v3 none o):o=none:=by
 cases o with
 |none=>rfl
 |some u=>exact(show False from r).elim
theorem zLA {v:V}{u:ai}(r:zQ v u):pY u=true:=by
 cases v with
 |non=>cases(show u=Value.none from r);rfl
 |bl b=>cases(show u=Value.bool b from r);rfl
 |int i=>obtain⟨t,e⟩:=(show∃t,u=Value.int i t from r);cases e;rfl
 |str x=>obtain⟨t,e⟩:=(show∃t,u=Value.str x t from r);cases e;rfl
 |byt b=>obtain⟨t,e⟩:=(show∃t,u=Value.bytes b t from r);cases e;rfl
 |flt b=>obtain⟨t,e⟩:=(show∃t,u=Value.float b t from r);cases e;rfl
 |ref a=>cases(show u=Value.ref a from r);rfl
 |ty n=>cases(show u=Value.type n from r);rfl
section
variable{P:aH}{w:aW}{H H':Hp}{h h':bB}{a C dx:ao}{fs fs':List (Str×V)}
theorem zBj (hok:z8 P w H h)(e:H a=some (.ins C dx fs)):∃b,ObjM h a dx C b/\(∀f,v3 (fs.lookup f) (b f))/\oT b (fs.map (·.1))/\fs.length<=1000/\H dx=some (.own a):=by
 obtain⟨d,z,ne,c,b,n,r,q⟩:=(show yP P w H h a (.ins C dx fs)from hok a _ e)
 exact⟨b,⟨c,n,ne⟩,r,q,z,d⟩
end
structure Cls (K:ag) (C:ao):Prop where
 pg:iW K C wo=true
 hd:lE K C=true
 po:oW K C=true
 sa:cM K (.ref C) "__setattr__"=some (some (.builtin "object.__setattr__"))
theorem Cls.get {K:ag}{C:ao}(c:Cls K C)(f:Str):iW K C f=true:=c.pg
noncomputable def kB (K:ag)(C:ao)(f:Str):Prop:=cM K (.ref C) f=some none
theorem kB.taker {K:ag}{C:ao}{f:Str}(n:kB K C f):mX K C f=some none:=by
 unfold mX
 rw[show cM K (.ref C) f=some none from n]
 rfl
structure Meth (K:ag) (C:ao) (m:Str) (f:ao):Prop where
 at_:cM K (.ref C) m=some (some (.ref f))
 fn:mz K (.ref f)=true
 kp:cy K (.ref f)=true
section
variable{X:Cx}{pins:List (ao×Obj)}{σ:St}{H:Hp}{s:aq}{a C dx:ao}{fs:List (Str×V)}{f:Str}{v:V}{A:bK}{E:ai->aq->Prop}
theorem zLB {b:Bool}{Q:ai->aq->Prop}(I:Inv X pins σ H s)(e:H a=some (.ins C dx fs))(c:Cls X.K C)(n:kB X.K C f)(l:fs.lookup f=some v)
  (h:∀u s',Inv X pins σ H s'->zQ v u->Q u s'):wpAny (model X.prog X.w) A (getAttr (.ref a) f b) Q E s:=by
 obtain⟨g,O,r,_,_,_⟩:=zBj I.hok e
 obtain⟨u,i,d⟩:=v3.some_of (v:=v) (o:=g f) (by rw[<-l];exact r f)
 exact zKw I.kIn O (c.get f) c.hd n i (zLA d) (h u _ (I.tok _) d)
theorem zFm {m:Str}{g:ao}{pl:Sem Bool}{Q:ai×List ai->aq->Prop}(I:Inv X pins σ H s)(e:H a=some (.ins C dx fs))(c:Cls X.K C)(k:Meth X.K C m g)(l:fs.lookup m=none)
  (h:Q (.ref g,[.ref a]) s):wpAny (model X.prog X.w) A (getMethod (.ref a) m pl) Q E s:=by
 obtain⟨b,O,r,_,_,_⟩:=zBj I.hok e
 have hn:b m=none:=v3.none_of (by rw[<-l];exact r m)
 exact zKx I.kIn O (c.get m) k.at_ k.fn hn h
theorem zLC {y:V}{u:ai}{Q:Unit->aq->Prop}(I:Inv X pins σ H s)(e:H a=some (.ins C dx fs))(c:Cls X.K C)(n:kB X.K C f)(hl:fs.length<1000)(m:zQ y u)
  (h:∀s',Inv X pins σ (upd H a (.ins C dx (vM f y fs))) s'->Q () s'):wpAny (model X.prog X.w) A (setAttr (.ref a) f u) Q E s:=by
 obtain⟨i,O,r,j,_,l⟩:=zBj I.hok e
 have hz:(fs.map (·.1)).length<=sizeLine:=by rw[ah,aL];omega
 refine zKy I.kIn O c.sa c.po n.taker c.hd j hz fun h' d p=>h _ ?_
 have hd:∃o,h'.get? dx=some o:=let⟨o,_,_,t,_⟩:=d.ns;⟨o,t⟩
 refine I.write (x:=a) (e:=dx) (by rw[e];exact True.intro) (.inr l) (fun b q B z=>(p.2 b B).trans z) hd ?_
 refine⟨by rw[zG O.ne];exact l,?_,O.ne,d.obj,_,d.ns,fun g=>?_,fun g D=>?_⟩
 ·have:=zFl f y fs;omega
 ·show v3 ((vM f y fs).lookup g) (if g=f then some u else i g)
  rw[zFk]
  by_cases q:g=f
  ·rw[if_pos q,if_pos q];exact m
  ·rw[if_neg q,if_neg q];exact r g
 ·by_cases q:g=f
  ·rw[q];exact(zCv f y fs).1
  ·refine(zCv f y fs).2 g (j g fun z=>D ?_)
   show(if g=f then some u else i g)=none
   rw[if_neg q];exact z
theorem Inv.made (I:Inv X pins σ H s):Inv X pins σ (upd (upd H s.heap.objs.size (.own (s.heap.objs.size+1))) (s.heap.objs.size+1) (.ins C s.heap.objs.size []))
  {s with heap:=(s.heap.push du).push (eh C s.heap.objs.size)}:=by
 have e1:(s.heap.push du).get? s.heap.objs.size=some du:=aC s.heap rfl
 have c:((s.heap.push du).push (eh C s.heap.objs.size)).get? (s.heap.objs.size+1)=some (eh C s.heap.objs.size):=by
  have:=aC (s.heap.push du) (o:=eh C s.heap.objs.size) rfl
  rwa [br]at this
 have d:(s.heap.push du).Ns s.heap.objs.size (fun _=>none):=⟨du,#[],_,e1,rfl,(fun e he=>absurd he (by simp)),fun _=>rfl⟩
 have g:=I.laid (a:=s.heap.objs.size) (o:=.own (s.heap.objs.size+1)) (h':=s.heap.push du) (t':=s.toks) (fun b u q=>ae _ q) (aA _) ⟨_,e1⟩
 refine g.laid (a:=s.heap.objs.size+1) (o:=.ins C s.heap.objs.size []) (t':=s.toks) (fun b u q=>ae _ q) (fN (br _ _)) ?_
 have ne:s.heap.objs.size≠s.heap.objs.size+1:=aV (cQ _)
 refine⟨by rw[zG ne,zF],bo _,ne,c,fun _=>none,(Heap.Ns1.of_empty d).at fun o q=>ae _ q,fun _=>True.intro,fun y h=>absurd rfl h⟩
theorem zLD {prog:aH}{w:aW}{env:Env}{e:bF}{f:Str}{pos:Pos}{s:aq}{Q:ai->aq->Prop}(b:attributeBase e f env (eval e env)=eval e env)
  (h:wpAny (model prog w) A (eval e env) (fun o c=>wpAny (model prog w) A (getAttr o f true) Q E c) E s):wpAny (model prog w) A (eval (.Attribute e f pos) env) Q E s :=
 Attribute_any_ h (by rw[arm_eval_Attribute,b])
end
noncomputable def zLE (K:ag)(ta:TE)(f:Str):TE:=fun σ H Q=>ta σ H fun x H1=>∃a C dx fs v,x=.ref a/\H1 a=some (.ins C dx fs)/\Cls K C/\kB K C f/\fs.lookup f=some v/\Q v H1
noncomputable def zLF (K:ag)(ta tv:TE)(f:Str):TS:=fun D σ H=>tv σ H fun y H1=>ta σ H1 fun x H2=>∃a C dx fs,x=.ref a/\H2 a=some (.ins C dx fs)/\Cls K C/\kB K C f/\fs.length<1000/\
 D.nx σ (upd H2 a (.ins C dx (vM f y fs)))
section
variable{X:Cx}{o e value:bF}{f:Str}{pos pos' tpos:Pos}{ta tv:TE}
theorem qD (he:PE X e ta)(d:attributeBase e f X.env (eval e X.env)=eval e X.env):PE X (.Attribute e f pos) (zLE X.K ta f):=by
 intro b s σ H Q I h
 refine zLD d (zH (he b s σ H _ I h) fun u t zq=>?_)
 obtain⟨x,g,i,j,a,C,w,fs,v,ex,m,c,n,l,q⟩:=zq
 subst ex
 obtain rfl:u=Value.ref a:=j
 exact zLB i m c n l fun y z p r=>⟨v,g,p,r,q⟩
theorem zBK (ha:PE X o ta)(hv:PE X value tv)(d:swapsWith value (some (.Attribute o f pos')) pos.line X.env=pure false):PS X (.Assign [.Attribute o f pos'] value pos) (zLF X.K ta tv f):=by
 intro b s σ H D I h
 refine plainObj_wpAny_Assign_Attribute (zH (hv b s σ H _ I h) fun u g ⟨y,i,j,m,q⟩=>zH (ha b g σ i _ j q) fun p A zq=>?_) d
 obtain⟨x,B,r,t,a,C,E,fs,ex,v,c,n,l,w⟩:=zq
 subst ex
 obtain rfl:p=Value.ref a:=t
 exact zLC r v c n l m fun F z=>⟨σ,_,z,w⟩
end
section
variable{X:Cx}{pins:List (ao×Obj)}{σ:St}{H:Hp}{s:aq}{A:bK}{E:ai->aq->Prop}{Q:ai->aq->Prop}{c:ai}{b:Bool}
inductive TyOf (K:ag) (H:Hp):V->ai->Prop where
 |non:TyOf K H .non (.type "NoneType")
 |bl (x:Bool):TyOf K H (.bl x) (.type "bool")
 |int (i:Int):TyOf K H (.int i) (.type "int")
 |str (x:Str):TyOf K H (.str x) (.type "str")
 |flt (x:UInt64):TyOf K H (.flt x) (.type "float")
 |lst {a:ao} {xs:List V} (e:H a=some (.lst xs)):TyOf K H (.ref a) (.type "list")
 |frz {a:ao} {o:Obj} {xs:List V} (e:H a=some (.frz o (.lst xs))):TyOf K H (.ref a) (.type "list")
 |tup {a:ao} {xs:List V} (e:H a=some (.tup xs)):TyOf K H (.ref a) (.type "tuple")
 |dK {a:ao} {kvs:List (zL×V)} (e:H a=some (.dK kvs)):TyOf K H (.ref a) (.type "dict")
 |dT {a:ao} {kvs:List (List yO×V)} (e:H a=some (.dT kvs)):TyOf K H (.ref a) (.type "dict")
 |ins {a C dx:ao} {fs:List (Str×V)} (e:H a=some (.ins C dx fs)) (cl:Cls K C) (ha:cM K (.ref C) "__class__"=some (some (.builtin "object.__class__")))
   (hn:PySem.W.specialIn K (.builtin "object.__class__") "__get__"=some (some (.builtin "getset_descriptor.__get__"))) (htk:PySem.W.takesIn K (.builtin "object.__class__")=some true)
   (hm:PySem.W.mroIn K C (.type "object")=some true):TyOf K H (.ref a) (.ref C)
theorem zLG {x:V}{u t:ai}(I:Inv X pins σ H s)(d:zQ x u)(ty:TyOf X.K H x t)(e:ke X.K t c=some b)(h:∀tk,Q (.bool b) {s with toks:=tk}) :
  wpAny (model X.prog X.w) A (call (.builtin "isinstance") [u,c]) Q E s:=by
 cases ty with
 |non=>cases(show u=Value.none from d);exact dh PySem.W.kitx_none I.kIn True.intro e (fun z=>nomatch z) h
 |bl y=>cases(show u=Value.bool y from d);exact dh PySem.W.kitx_bool I.kIn True.intro e (fun z=>nomatch z) h
 |int i=>obtain⟨t,q⟩:=(show∃t,u=Value.int i t from d);cases q;exact dh PySem.W.kitx_int I.kIn True.intro e (fun z=>nomatch z) h
 |str y=>obtain⟨t,q⟩:=(show∃t,u=Value.str y t from d);cases q;exact dh PySem.W.kitx_str I.kIn True.intro e (fun z=>nomatch z) h
 |flt y=>obtain⟨t,q⟩:=(show∃t,u=Value.float y t from d);cases q;exact dh PySem.W.kitx_float I.kIn True.intro e (fun z=>nomatch z) h
 | @lst a xs f=>
  cases(show u=Value.ref a from d)
  obtain⟨_,_,n,_,g⟩:=(show yP X.prog X.w H s.heap a (.lst xs)from I.hok a _ f)
  exact dh oX I.kIn ⟨_,g,rfl⟩ e (fun z=>nomatch z) h
 | @frz a r xs f=>
  cases(show u=Value.ref a from d)
  obtain⟨_,_,_,n,_,g⟩:=(show yP X.prog X.w H s.heap a (.frz r (.lst xs))from I.hok a _ f)
  exact dh oX I.kIn ⟨_,g,rfl⟩ e (fun z=>nomatch z) h
 | @tup a xs f=>
  cases(show u=Value.ref a from d)
  obtain⟨_,_,_,p⟩:=(show yP X.prog X.w H s.heap a (.tup xs)from I.hok a _ f)
  obtain⟨o,g,j,_⟩:=p
  exact dh PySem.W.kitx_tuple I.kIn ⟨o,g,j⟩ e (fun z=>nomatch z) h
 | @dK a kvs f=>
  cases(show u=Value.ref a from d)
  obtain⟨_,_,vs,_,p⟩:=(show yP X.prog X.w H s.heap a (.dK kvs)from I.hok a _ f)
  obtain⟨o,v,ep,g,j,_⟩:=p
  exact dh oY I.kIn ⟨o,g,j.1⟩ e (fun z=>nomatch z) h
 | @dT a kvs f=>
  cases(show u=Value.ref a from d)
  obtain⟨_,_,xs,_,o,v,ep,g,j,_⟩:=(show yP X.prog X.w H s.heap a (.dT kvs)from I.hok a _ f)
  exact dh oY I.kIn ⟨o,g,j.1⟩ e (fun z=>nomatch z) h
 | @ins a C D fs f m ha hn l B=>
  cases(show u=Value.ref a from d)
  obtain⟨F,O,_⟩:=zBj I.hok f
  obtain⟨od,J,_⟩:=O.look
  exact dh (PySem.W.kitx_own (m.get _) m.hd ha hn l B) I.kIn J e (fun z=>nomatch z) h
end
structure Room (k:Nat) (A:bK):Prop where
 hd:A.handled=none
 dp:A.depth+3*k+5<recursionLimit
 un:A.units+16*k+200<cLine
theorem Room.mono {j k:Nat}{A:bK}(r:Room k A)(h:j<=k):Room j A:=⟨r.hd,by have:=r.dp;omega,by have:=r.un;omega⟩
theorem Room.deeper {k:Nat}{A:bK}(r:Room (k+1) A)(env:Env):Room k (A.deeper env) :=
 ⟨r.hd,by have:=r.dp;show A.depth+1+3*k+5<_;omega,by have:=r.un;show A.units+3+16*k+200<_;omega⟩
theorem Room.in1 {k:Nat}{A:bK}(r:Room (k+1) A):Room k A.in1 :=
 ⟨r.hd,by have:=r.dp;show A.depth+3*k+5<_;omega,by have:=r.un;show A.units+1+16*k+200<_;omega⟩
theorem zLH {A:bK}{C:ao}{us:List ai}{a:List (Str×ai)}:(A.under (.builtin "type.__call__" ⟨.ref C::us,a⟩)).depth=A.depth+1:=by
 first|rfl|simp[oZ,Code.weight,Code.isCreation,Code.isGuard,Code.isCaller,uk,o2,guardIds]
theorem zLI {A:bK}{C:ao}{us:List ai}{a:List (Str×ai)}:(A.under (.builtin "type.__call__" ⟨.ref C::us,a⟩)).units=A.units+1:=by
 first|rfl|simp[oZ,Code.cUnits,uk,o2]
theorem Room.make {k:Nat}{A:bK}(r:Room (k+1) A)(C:ao)(us:List ai)(a:List (Str×ai)):Room k (A.under (.builtin "type.__call__" ⟨.ref C::us,a⟩)) :=
 ⟨r.hd,by have:=r.dp;rw[zLH];omega,by have:=r.un;rw[zLI];omega⟩
theorem Room.depth {k:Nat}{A:bK}(r:Room k A):A.depth<recursionLimit:=by have:=r.dp;omega
theorem Room.units {k:Nat}{A:bK}(r:Room k A):A.units+64<cLine:=by have:=r.un;omega
noncomputable def kG:TA:=fun _ H Q=>Q [] H
noncomputable def zAf (ta:TE)(tr:TA):TA:=fun σ H Q=>ta σ H fun x H1=>tr σ H1 fun xs H2=>Q (x::xs) H2
section
variable{X:Cx}{e:bF}{es:List bF}{te:TE}{t:TA}{pos:Pos}
theorem zE:PA X [] kG:=fun _ _ _ _ H Q I h=>gb ⟨[],H,I,.nil,h⟩
theorem zC (ha:PE X e te)(b:PA X es t)(c:starEach (e::es) X.env=(false,eval e X.env)::starEach es X.env:=by rfl):PA X (e::es) (zAf te t):=by
 intro pos a s σ H Q I h
 rw[c]
 show wpAny _ _ (spliced ((false,eval e X.env)::backTo pos (starEach es X.env))) _ _ s
 refine d7 (zH (ha a s σ H _ I h) fun u d zq=>?_)
 obtain⟨x,f,g,i,j⟩:=zq
 exact zH (b pos a d σ f _ g j) fun us p ⟨xs,l,m,n,o⟩=>⟨x::xs,l,m,.cons i n,o⟩
noncomputable def zLJ (t:TA):TE:=fun σ H Q=>t σ H fun xs H1=>xs.length<=sizeLine/\∀p,H1 p=none->Q (.ref p) (upd H1 p (.tup xs))
noncomputable def zFn (t:TA):TE:=fun σ H Q=>t σ H fun xs H1=>xs.length<=sizeLine/\∀p,H1 p=none->Q (.ref p) (upd H1 p (.lst xs))
theorem uN {g}(h:PA X es t):PE X (.Tuple es g pos) (zLJ t):=by
 intro a s σ H Q I i
 refine nY (zH (h pos a s σ H _ I i) fun us c ⟨xs,d,f,r,z,q⟩=>⟨by rw[<-r.length];exact z,?_⟩)
 have hf:d c.heap.objs.size=none:=f.hok.fresh (aA _)
 refine⟨.ref c.heap.objs.size,upd d c.heap.objs.size (.tup xs),f.laid (t':=c.toks) (fun b u e=>ae _ e) (aA _) ?_,rfl,q _ hf⟩
 exact⟨z,us,r,⟨_,aC _ rfl,rfl,_,rfl⟩⟩
theorem v6 (h:PA X es t):PE X (.List es pos) (zFn t):=by
 intro a s σ H Q I g
 refine wpAny_List_spliced (zH (h pos a s σ H _ I g) fun us c ⟨xs,d,f,r,z,q⟩=>⟨by rw[<-r.length];exact z,?_⟩)
 have hf:d c.heap.objs.size=none:=f.hok.fresh (aA _)
 refine⟨.ref c.heap.objs.size,upd d c.heap.objs.size (.lst xs),f.laid (t':=c.toks) (fun b u e=>ae _ e) (aA _) ?_,rfl,q _ hf⟩
 exact⟨z,us,0,r,aC _ rfl⟩
end
noncomputable abbrev Sp:=List V->Hp->VK->XK->Prop
noncomputable abbrev jV:=List Env->Hp->aq->XK->ai->aq->Prop
structure Env0 (P:aH) (w:aW) (K:ag) (mg:Str->Option ai) (base:bB) (A:bK) (outer:List Env) (s:aq) (H:Hp):Prop where
 frames:A.frames=some outer
 mod:Mod K mg base
 bs:∀b o,base.get? b=some o->s.heap.get? b=some o/\H b=none
 bsz:base.objs.size<=s.heap.objs.size
 funs:s.heap.FunFrames base outer
 frf:∀b∈uJ outer,H b=none
 hok:z8 P w H s.heap
 bare:lD s.gens
noncomputable def CE (outer:List Env)(P:aH)(w:aW)(H:Hp)(s:aq)(Q:VK)(u:ai)(s':aq):Prop :=
 ∃v H',s'.os=s.os/\lD s'.gens/\Un (uJ outer) [] H H' s.heap s'.heap/\z8 P w H' s'.heap/\zQ v u/\Q v H'
noncomputable def CR (CX:jV)(outer:List Env)(P:aH)(w:aW)(H:Hp)(s:aq)(Q:VK)(E:XK)(r:oH)(s':aq):Prop :=
 match r with
 | .ok (.ret u)=>CE outer P w H s Q u s'
 | .ok _=>False
 | .error e=>CX outer H s E e s'
structure FnOk (P:aH) (w:aW) (K:ag) (mg:Str->Option ai) (base:bB) (CX:jV) (k:Nat) (f:ao) (fd:aZ) (ps:List Str) (sp:Sp):Prop where
 len:∀vs H Q E,sp vs H Q E->vs.length=ps.length
 run:∀(A:bK) (outer:List Env) (s:aq) (H:Hp) (args:Args) (us:List ai) (vs:List V) (Q:VK) (E:XK),Room k A->Env0 P w K mg base A outer s H->o4 s fd args (ps.zip us)->zJ vs us->sp vs H Q E->
  codeAny (model P w) A (.call (.ref f) args) (CR CX outer P w H s Q E) s
theorem FnOk.imp {P:aH}{w:aW}{K:ag}{mg:Str->Option ai}{base:bB}{a:jV}{k:Nat}{f:ao}{fd:aZ}{ps:List Str}{sp sp':Sp}(F:FnOk P w K mg base a k f fd ps sp)
  (h:∀vs H Q E,sp' vs H Q E->sp vs H Q E):FnOk P w K mg base a k f fd ps sp' :=
 ⟨fun vs H Q E q=>F.len vs H Q E (h _ _ _ _ q),fun A outer s H args us vs Q E b he c hv d=>F.run A outer s H args us vs Q E b he c hv (h _ _ _ _ d)⟩
theorem Env0.make {P:aH}{w:aW}{K:ag}{mg:Str->Option ai}{base:bB}{A:bK}{outer:List Env}{s:aq}{H:Hp}(e:Env0 P w K mg base A outer s H)(C:ao)(us:List ai)(a:List (Str×ai)) :
  Env0 P w K mg base (A.under (.builtin "type.__call__" ⟨.ref C::us,a⟩)) outer s H:=⟨by first|exact e.frames|(simpa [oZ,Code.envs,o2,pushEnvs]using e.frames),e.mod,e.bs,e.bsz,e.funs,e.frf,e.hok,e.bare⟩
theorem Env0.in1 {P:aH}{w:aW}{K:ag}{mg:Str->Option ai}{base:bB}{A:bK}{outer:List Env}{s:aq}{H:Hp}(e:Env0 P w K mg base A outer s H) :
  Env0 P w K mg base A.in1 outer s H:=⟨e.frames,e.mod,e.bs,e.bsz,e.funs,e.frf,e.hok,e.bare⟩
section
variable{X:Cx}{pins:List (ao×Obj)}{σ:St}{H:Hp}{s s':aq}
theorem Inv.env0 (I:Inv X pins σ H s):Env0 X.prog X.w X.K X.mg X.base X.A X.stack s H :=
 ⟨I.ok.frames,I.ok.mod,I.bs,bS I.ok.bsz I.sz,I.stack,I.stkFree,I.hok,I.bare⟩
theorem Inv.after {Q:VK}{u:ai}(I:Inv X pins σ H s)(h:CE X.stack X.prog X.w H s Q u s'):EP X pins σ Q u s':=by
 obtain⟨v,c,os,bare,un,hok,r,q⟩:=h
 obtain⟨e,g,d,t,a⟩:=s'
 obtain rfl:a=s.os:=os
 exact⟨v,c,I.call (h':=e) (g':=g) (d':=d) (t':=t) (ch:=[]) un hok bare (fun b z=>absurd z (by simp)),r,q⟩
end
noncomputable def zCw (sp:Sp)(dvs:List V)(E:XK)(t:TA):TE:=fun σ H Q=>t σ H fun vs H1=>sp (vs++dvs) H1 Q E
noncomputable def zBk (C:ao)(m:Str)(sp:Sp)(dvs:List V)(E:XK)(ta:TE)(t:TA):TE:=fun σ H Q=>ta σ H fun x H1=>∃a dx fs,x=.ref a/\H1 a=some (.ins C dx fs)/\fs.lookup m=none/\
 t σ H1 fun vs H2=>sp (x::(vs++dvs)) H2 Q E
noncomputable def zCx (C:ao)(sp:Sp)(dvs:List V)(E:XK)(t:TA):TE:=fun σ H Q=>t σ H fun vs H1=>∀x dx,H1 x=none->H1 dx=none->dx≠x->
 sp (.ref x::(vs++dvs)) (upd (upd H1 dx (.own x)) x (.ins C dx [])) (fun v H2=>v=.non/\Q (.ref x) H2) E
noncomputable def v7 (K:ag)(fd:aZ)(ps:List Str)(ds:List ai):Prop :=
 ∀(s:aq) (us:List ai),K.In s.heap->(us++ds).length=ps.length->o4 s fd ⟨us,[]⟩ (ps.zip (us++ds))
theorem v7.all {K:ag}{fd:aZ}{ps:List Str}(h:∀us:List ai,us.length=ps.length->bindArgs fd ⟨us,[]⟩=pure (ps.zip us)):v7 K fd ps []:=fun s us _ hl=>by
 rw[dC]at hl⊢
 exact .of_eq (h us hl)
noncomputable def g8 (CX:jV)(X:Cx)(E:XK):Prop:=∀(pins:List (ao×Obj)) (σ:St) (H:Hp) (s:aq) (e:ai) (s':aq),Inv X pins σ H s->CX X.stack H s E e s'->X.xe e s'
section
variable{X:Cx}{CX:jV}{k:Nat}{f C:ao}{fd:aZ}{ps:List Str}{sp:Sp}{dvs:List V}{ds:List ai}{E:XK}{x m:Str}{p pos apos:Pos}{e o:bF}{es:List bF}{ta:TE}{t:TA}
theorem zCy {a:List (ao×Obj)}{σ:St}{H:Hp}{s:aq}{Q:VK}{us:List ai}{vs:List V}(F:FnOk X.prog X.w X.K X.mg X.base CX k f fd ps sp)(d:Room k X.A)(g:v7 X.K fd ps ds)(hd:zJ dvs ds)(i:g8 CX X E)
  (I:Inv X a σ H s) (r:zJ vs us) (h:sp (vs++dvs) H Q E):wpAny (model X.prog X.w) X.A (call (.ref f) us) (EP X a σ Q) X.xe s:=by
 have c:zJ (vs++dvs) (us++ds):=r.append hd
 have hl:(us++ds).length=ps.length:=by rw[<-c.length];exact F.len _ _ _ _ h
 refine mC (eE (F.run X.A X.stack s H ⟨us,[]⟩ (us++ds) (vs++dvs) Q E d I.env0 (g s us I.kIn hl) c h) fun r s' b=>?_)
 cases r with
 |error e=>exact i a σ H s e s' I b
 |ok j=>
  cases j with
  |ret u=>exact I.after b
  |next=>exact d6 b
  |brk=>exact d6 b
  |cont=>exact d6 b
theorem zLK (F:FnOk X.prog X.w X.K X.mg X.base CX k f fd ps sp)(g:Room k X.A)(i:Gl X x)(j:X.mg x=some (.ref f))(l:cy X.K (.ref f)=true)(n:v7 X.K fd ps ds)(hd:zJ dvs ds)(u:g8 CX X E)
  (ha:PA X (e::es) t) (b:(x==("__debug__" : Str))=false:=by decide) (he:starEach (e::es) X.env=(false,eval e X.env)::starEach es X.env:=by rfl) (c:(backTo pos (starEach es X.env)).any (·.1)=false:=by rfl) :
  PE X (.Call (.Name x p) (e::es) [] pos) (zCw sp dvs E t):=by
 intro a s σ H Q I h
 refine c9 (zCo I i j ?_ b)
 refine kf (h₀:=X.base) I.ok.mod.kin l (zH (ha pos a s σ H _ I h) fun us v ⟨vs,y,d,r,q⟩=>⟨d.kIn,?_⟩) he c
 exact zCy F g n hd u d r q
theorem zLL {pl:Sem Bool}(he:PE X o ta)(c:Cls X.K C)(i:Meth X.K C m f)(F:FnOk X.prog X.w X.K X.mg X.base CX k f fd ps sp)(y:Room k X.A)(z:v7 X.K fd ps ds)(hd:zJ dvs ds)(B:g8 CX X E)(ha:PA X (e::es) t)
  (d:starEach (e::es) X.env=(false,eval e X.env)::starEach es X.env:=by rfl) (g:(backTo pos (starEach es X.env)).any (·.1)=false:=by rfl)
  (D:eval (.Call (.Attribute o m apos) (e::es) [] pos) X.env=(do
   let j<-eval o X.env
   standAt apos.atName
   let(f,first)<-holding [j] (getMethod j m pl)
   callWith pos f first (backTo pos (starEach (e::es) X.env)) (backToKw pos (keywordEach [] X.env))):=by rfl) :
  PE X (.Call (.Attribute o m apos) (e::es) [] pos) (zBk C m sp dvs E ta t):=by
 intro b s σ H Q I h
 refine nk (pl:=pl) (zH (he b s σ H _ I h) fun u G zq=>?_) D
 obtain⟨x,J,n,L,a,O,fs,ex,M,l,q⟩:=zq
 subst ex
 obtain rfl:u=Value.ref a:=L
 refine zFm n M c i l ?_
 refine kf (first:=[.ref a]) (h₀:=X.base) I.ok.mod.kin i.kp (zH (ha pos b G σ J _ n q) fun us P ⟨vs,R,v,r,N⟩=>⟨v.kIn,?_⟩) d g
 exact zCy (us:=.ref a::us) (vs:=.ref a::vs) F y z hd B v (.cons rfl r) N
theorem zLM {pl:Sem Bool}(he:PE X o ta)(c:Cls X.K C)(g:Meth X.K C m f)(F:FnOk X.prog X.w X.K X.mg X.base CX k f fd ps sp)(j:Room k X.A)(n:v7 X.K fd ps ds)(hd:zJ dvs ds)(r:g8 CX X E)
  (v:eval (.Call (.Attribute o m apos) [] [] pos) X.env=(do
   let i<-eval o X.env
   standAt apos.atName
   let(f,first)<-holding [i] (getMethod i m pl)
   callWith pos f first (backTo pos (starEach [] X.env)) (backToKw pos (keywordEach [] X.env))):=by rfl) :
  PE X (.Call (.Attribute o m apos) [] [] pos) (zBk C m sp dvs E ta kG):=by
 intro b s σ H Q I h
 refine nk (pl:=pl) (zH (he b s σ H _ I h) fun u B zq=>?_) v
 obtain⟨x,D,d,y,a,G,fs,ex,z,l,q⟩:=zq
 subst ex
 obtain rfl:u=Value.ref a:=y
 refine zFm d z c g l ?_
 exact PySem.W.callWith_K0 (first:=[.ref a]) d.kIn g.kp (zCy (us:=[.ref a]) (vs:=[.ref a]) F j n hd r d (.cons rfl .nil) q)
structure Mk (K:ag) (C f:ao):Prop where
 makes:mY K C=true
 init:cM K (.ref C) "__init__"=some (some (.ref f))
 fn:mz K (.ref f)=true
 kp:cy K (.ref C)=true
theorem zLN {a:List (ao×Obj)}{σ:St}{H:Hp}{s:aq}{Q:VK}{us:List ai}{vs:List V}(M:Mk X.K C f)(F:FnOk X.prog X.w X.K X.mg X.base CX k f fd ps sp)(j:Room (k+1) X.A)(l:v7 X.K fd ps ds)(hd:zJ dvs ds)
  (n:g8 CX X E) (I:Inv X a σ H s) (r:zJ vs us)
  (h:∀x c,H x=none->H c=none->c≠x->sp (.ref x::(vs++dvs)) (upd (upd H c (.own x)) x (.ins C c [])) (fun v q=>v=.non/\Q (.ref x) q) E) :
  wpAny (model X.prog X.w) X.A (call (.ref C) us) (EP X a σ Q) X.xe s:=by
 have g:=h (s.heap.objs.size+1) s.heap.objs.size (I.hok.fresh (fb _)) (I.hok.fresh (aA _)) (aV (cQ _))
 have d:=Inv.made (C:=C) I
 have i:zJ (V.ref (s.heap.objs.size+1)::(vs++dvs)) (Value.ref (s.heap.objs.size+1)::(us++ds)):=.cons rfl (r.append hd)
 have hl:(Value.ref (s.heap.objs.size+1)::us++ds).length=ps.length:=by
  have e:=i.length
  rw[F.len _ _ _ _ g]at e
  exact e.symm
 refine mC (zKz (f:=f) I.kIn M.makes M.init (beq_iff_eq.mp M.fn) (eE (F.run _ X.stack _ _ ⟨Value.ref (s.heap.objs.size+1)::us,[]⟩ (Value.ref (s.heap.objs.size+1)::(us++ds)) _ _ E (j.make C us [])
  (d.env0.make C us []) (l _ (Value.ref (s.heap.objs.size+1)::us) d.kIn hl) i g) fun r s' b=>?_))
 cases r with
 |error e=>exact n a σ _ _ e s' d b
 |ok y=>
  cases y with
  |ret u=>
   obtain⟨v,z,B,D,ev,G⟩:=d.after b
   subst ev
   exact⟨D,⟨V.ref (s.heap.objs.size+1),z,B,rfl,G⟩⟩
  |next=>exact d6 b
  |brk=>exact d6 b
  |cont=>exact d6 b
theorem zLO (M:Mk X.K C f)(F:FnOk X.prog X.w X.K X.mg X.base CX k f fd ps sp)(g:Room (k+1) X.A)(i:Gl X x)(j:X.mg x=some (.ref C))(l:v7 X.K fd ps ds)(hd:zJ dvs ds)(n:g8 CX X E)
  (ha:PA X (e::es) t) (b:(x==("__debug__" : Str))=false:=by decide) (he:starEach (e::es) X.env=(false,eval e X.env)::starEach es X.env:=by rfl) (c:(backTo pos (starEach es X.env)).any (·.1)=false:=by rfl) :
  PE X (.Call (.Name x p) (e::es) [] pos) (zCx C sp dvs E t):=by
 intro a s σ H Q I h
 refine c9 (zCo I i j ?_ b)
 refine kf (h₀:=X.base) I.ok.mod.kin M.kp (zH (ha pos a s σ H _ I h) fun us u ⟨vs,v,d,r,q⟩=>⟨d.kIn,?_⟩) he c
 exact zLN M F g l hd n d r q
end
section
variable{X:Cx}{CX:jV}{k:Nat}{f C:ao}{fd:aZ}{ps ks:List Str}{sp:Sp}{E:XK}{x m:Str}{p pos apos kpos:Pos}{e o:bF}{es:List bF}{kws:List rl}{te ta:TE}{t tk:TA}{nm:Option Str}
variable{g:List ai->List ai->List ai}{gV:List V->List V->List V}
end
structure FnScope (N P:List Str) (sc:fS):Prop where
 kind:sc.kind=.function
 co:sc.isCoroutine=false
 gen:sc.isGenerator=false
 nd:N.Nodup
 pre:N.take P.length=P
 par:∀x∈P,sc.names.lookup x=some .local\/sc.names.lookup x=some .cell
 nofree:∀y∈sc.names,y.2≠.free
theorem zFo {kindOf:Str->Option kg}{x:Str}:∀{binds:List (Str×ai)}{m:Str->Option ai},(∀v,(x,v)∉binds)->bindL kindOf binds m x=m x
 | [],_,_=>rfl
 |(n,v)::r,m,h=>by
  unfold bindL
  rw[zFo fun w a=>h w (aj _ a)]
  split
  ·have:x≠n:=by rintro rfl;exact h v au
   simp[this]
  ·rfl
theorem zFp {kindOf:Str->Option kg}{x:Str}:∀{binds:List (Str×ai)}{m:Str->Option ai},(∀v,(x,v)∉binds)->bindC kindOf binds m x=m x
 | [],_,_=>rfl
 |(n,v)::r,m,h=>by
  unfold bindC
  rw[zFp fun w a=>h w (aj _ a)]
  split
  ·rfl
  ·have:x≠n:=by rintro rfl;exact h v au
   simp[this]
theorem zFq {kindOf:Str->Option kg}{x:Str}{v:ai}:∀{P:List Str}{vs:List ai}{i:Nat}{m:Str->Option ai},P.Nodup->P[i]?=some x->vs[i]?=some v->kindOf x=some .local->
  bindL kindOf (P.zip vs) m x=some v
 | [],_,_,_,_,h,_,_=>by simp at h
 |_::_,[],_,_,_,_,h,_=>by simp at h
 |p::P,w::vs,0,m,nd,a,b,c=>by
  simp at a b;subst a;subst b
  show bindL kindOf ((p,w)::P.zip vs) m p=_
  unfold bindL
  rw[zFo fun v hv=>(bp.mp nd).1 (mZ hv).1,if_pos c]
  simp
 |p::P,w::vs,i+1,m,nd,a,b,c=>by
  show bindL kindOf ((p,w)::P.zip vs) m x=_
  unfold bindL
  exact zFq (i:=i) (bp.mp nd).2 (by simpa using a) (by simpa using b) c
theorem zFr {kindOf:Str->Option kg}{x:Str}{v:ai}:∀{P:List Str}{vs:List ai}{i:Nat}{m:Str->Option ai},P.Nodup->P[i]?=some x->vs[i]?=some v->kindOf x≠some .local->
  bindC kindOf (P.zip vs) m x=some v
 | [],_,_,_,_,h,_,_=>by simp at h
 |_::_,[],_,_,_,_,h,_=>by simp at h
 |p::P,w::vs,0,m,nd,a,b,c=>by
  simp at a b;subst a;subst b
  show bindC kindOf ((p,w)::P.zip vs) m p=_
  unfold bindC
  rw[zFp fun v hv=>(bp.mp nd).1 (mZ hv).1,if_neg c]
  simp
 |p::P,w::vs,i+1,m,nd,a,b,c=>by
  show bindC kindOf ((p,w)::P.zip vs) m x=_
  unfold bindC
  exact zFr (i:=i) (bp.mp nd).2 (by simpa using a) (by simpa using b) c
noncomputable def start (N:List Str)(vs:List V):St:=vs.map some++aR (N.length-vs.length) none
noncomputable def g9 (CX:jV)(P:aH)(w:aW)(K:ag)(mg:Str->Option ai)(base:bB)(N:List Str)(qual:Str)(scope:fS)(f:ao)(cd:ai)(A:bK)(outer:List Env)(s:aq)(H:Hp)(E:XK):Cx where
 prog:=P
 w:=w
 K:=K
 mg:=mg
 base:=base
 A:=A.deeper (envOfC qual scope s.heap.objs.size f cd)
 N:=N
 s₀:=s
 H₀:=H
 env:=envOfC qual scope s.heap.objs.size f cd
 outer:=outer
 stack:=envOfC qual scope s.heap.objs.size f cd::outer
 ex:=[]
 calm:=true
 fn:=fun _=>true
 pn:=[]
 xe:=fun e s'=>wpAny (model P w) (A.deeper (envOfC qual scope s.heap.objs.size f cd)) (leaving (envOfC qual scope s.heap.objs.size f cd) e) (fun _ s''=>CX outer H s E e s'') (fun e' s''=>CX outer H s E e' s'') s'
theorem zFs {a:fS}{n:Nat}{x:Str}(h:a.names.lookup x=some .cell):∃c,(cellsFrom n a.names []).lookup x=some c:=by
 have q:=mD a.names n [] (.inl h)
 exact ij.mp q
theorem zLP {D:jV}{P:aH}{w:aW}{K:ag}{mg:Str->Option ai}{base:bB}{N ps:List Str}{d:Str}{scope:fS}{f:ao}{B:ai}{A:bK}{outer:List Env}{s F:aq}{H:Hp}{E:XK}{us:List ai}{vs:List V}
  (S:FnScope N ps scope) (hd:A.handled=none) (j:Env0 P w K mg base A outer s H) (hl:vs.length=ps.length) (r:zJ vs us)
  (x:InCallC s s.heap.objs.size (bindL (envOfC d scope s.heap.objs.size f B).kindOf (ps.zip us) fun _=>none) (cellsFrom (s.heap.objs.size+1) scope.names []) (bindC (envOfC d scope s.heap.objs.size f B).kindOf (ps.zip us) fun _=>none) F) :
  Inv (g9 D P w K mg base N d scope f B A outer s H E) [] (start N vs) H F:=by
 have J:ps.length<=N.length:=by have:=congrArg fc S.pre;rw[aO]at this;omega
 obtain⟨C,tk,rfl,G⟩:=x.done
 have l:∀b:ao,b∉(g9 D P w K mg base N d scope f B A outer s H E).ex:=fun b z=>absurd (show b∈([]:List ao)from z) (by simp)
 refine⟨⟨j.mod,S.kind,rfl,rfl,aA _,fun y z c C g=>?_,fun y m=>?_,fun y c _ h=>?_,fun _=>hd,Around.frames_deeper j.frames,.inr ⟨rfl,rfl⟩,fun b z=>absurd z (l b),j.bs,j.bsz,fun b _ _=>l b,fun b z=>absurd z (l b),j.funs,j.frf⟩,
  rfl,j.bare,Un.kept G,⟨_,x.toInCall.ns,fun i y v C g M=>?_⟩,fun y c h=>⟨_,x.cell y c h⟩,j.hok.fresh (aA _),fun y c h=>?_,fun p o=>absurd (show p∈([]:List (ao×Obj))from o) (by simp),j.hok.kept G,?_⟩
 ·exact name_of_addr x.apart (eA C) (eA g)
 ·have m:scope.names.lookup y=some .cell\/scope.names.lookup y=some .free:=m
  rcases m with m|m
  ·exact zFs m
  ·exact absurd rfl (S.nofree _ (eA m))
 ·exact oU (x.above y c (eA h))
 ·have hi:i<vs.length:=by
   unfold start at g
   by_cases hi:i<vs.length
   ·exact hi
   ·rw[aP (by simpa using hi)]at g
    rw[iD]at g
    split at g<;>cases g
  have ha:vs[i]?=some v:=by
   unfold start at g
   rw[aS (by simpa using hi),az]at g
   cases e:vs[i]? with
   |none=>rw[e]at g;cases g
   |some a=>rw[e]at g;cases g;rfl
  obtain⟨u,I,L⟩:=r.get ha
  have o:ps[i]?=some y:=by
   rw[<-S.pre,List.getElem?_take_of_lt (by omega)];exact C
  have t:ps.Nodup:=by rw[<-S.pre];exact S.nd.sublist (fg _ _)
  refine⟨u,L,?_⟩
  rcases S.par y (bg o)with k|k
  ·exact .inl ⟨k,zFq t o I k⟩
  ·obtain⟨c,e⟩:=zFs (n:=s.heap.objs.size+1) k
   refine .inr ⟨.inl k,c,e,?_⟩
   have q:=x.cell y c e
   rw[zFr t o I (by show scope.names.lookup y≠_;rw[k];decide)]at q
   exact q
 ·exact j.hok.fresh (oU (x.above y c (eA h)))
 ·unfold start
  show _=N.length
  rw[aw,ah,dX]
  omega
theorem zFt {z:jV}{P:aH}{w:aW}{K:ag}{mg:Str->Option ai}{base:bB}{k:Nat}{f:ao}{name a:Str}{d:tH}{body:List cT}{scope:fS}{M kV l pm c ct oc:ai}{O od:Option ao}
  {C:Array (Option ai)} {N ps:List Str} {sp:Sp} (lk:K.lookup f=some ⟨oc,od,.func (c8 name a d body scope M kV l pm O c ct),C⟩) (D:ef K c a=true) (S:FnScope N ps scope)
  (len:∀vs H Q E,sp vs H Q E->vs.length=ps.length)
  (h:∀(A:bK) (outer:List Env) (s:aq) (H:Hp) (vs:List V) (Q:VK) (E:XK),Room k (A.deeper (envOfC a scope s.heap.objs.size f c))->sp vs H Q E->
   ∃t,qA (g9 z P w K mg base N a scope f c A outer s H E) body t/\t {nx:=fun _ g=>Q .non g,rt:=Q} (start N vs) H) :
  FnOk P w K mg base z (k+1) f (c8 name a d body scope M kV l pm O c ct) ps sp:=by
 refine⟨len,fun A outer s H args us vs Q E F m U r p=>?_⟩
 have hl:=len _ _ _ _ p
 have R:K.In s.heap:=m.mod.kin.keeps fun b o e=>(m.bs b o e).1
 have G:s.heap.NoLimit:=m.mod.nolimit.keeps fun b o e=>(m.bs b o e).1
 have i:∀y∈ps.zip us,scope.names.lookup y.1=some .local\/(scope.names.lookup y.1=some .cell/\((cellsFrom (s.heap.objs.size+1) scope.names []).lookup y.1).isSome=true):=fun⟨n,v⟩ X=>by
  rcases S.par n (mZ X).1 with q|q
  ·exact .inl q
  ·exact .inr ⟨q,mD _ _ _ (.inl q)⟩
 refine codeAny_call_function F.depth (R _ _ lk) rfl S.co S.gen rfl (PySem.W.codeRec_of R D) (U _ _ _ _ ?_)
 refine wpAny_newFunctionEnv_cells S.kind i fun env he T x=>?_
 subst he
 refine⟨G.keeps x.toInCall.keep,codeAny_func ?_⟩
 obtain⟨t,Y,Z⟩:=h A outer s H vs Q E (F.deeper _) p
 have I:Inv (g9 z P w K mg base N a scope f c A outer s H E) [] (start N vs) H T:=zLP S F.hd m hl r x
 refine cK (Y [] T (start N vs) H _ I Z) (fun fl s' j=>?_) fun e s' j=>j
 have fin:∀{B:St} {g:Hp} {v:V} {u:ai},Inv (g9 z P w K mg base N a scope f c A outer s H E) [] B g s'->zQ v u->Q v g->CE outer P w H s Q u s' :=
  fun{B g v u} J L q=>⟨v,g,J.os,J.bare,J.base,J.hok,L,q⟩
 cases fl with
 |ret u=>
  obtain⟨v,B,g,J,L,q⟩:=j
  exact fin J L q
 |next=>
  obtain⟨B,g,J,q⟩:=j
  exact fin (v:=V.non) (u:=Value.none) J rfl q
 |brk=>
  obtain⟨_,_,_,q⟩:=j
  exact d6 q
 |cont=>
  obtain⟨_,_,_,q⟩:=j
  exact d6 q
section
variable{X:Cx}{x:Str}{p pos:Pos}{e:bF}{es:List bF}{t:TA}{id T:String}{r:List V->Hp->VK->Prop}
noncomputable def tCB (r:List V->Hp->VK->Prop)(t:TA):TE:=fun σ H Q=>t σ H fun vs H1=>r vs H1 Q
theorem yL (d:uU X (.builtin id) r)(f:Gl X x)(g:X.mg x=none)(hv:bootBuiltins x=some (.builtin id))(ha:PA X (e::es) t)(hn:x≠"__name__" :=by decide)(b:(x==("__debug__" : Str))=false:=by decide)
  (he:starEach (e::es) X.env=(false,eval e X.env)::starEach es X.env:=by rfl) (c:(backTo pos (starEach es X.env)).any (·.1)=false:=by rfl):PE X (.Call (.Name x p) (e::es) [] pos) (tCB r t):=by
 intro a s σ H Q I h
 refine c9 (qB I f g hv ?_ hn b)
 exact fC (zH (ha pos a s σ H _ I h) fun us i ⟨vs,j,l,m,n⟩=>d a i σ j vs us Q l m n) he c
theorem zAA (d:uU X (.type T) r)(f:Gl X x)(g:X.mg x=none)(hv:bootBuiltins x=some (.type T))(ha:PA X (e::es) t)(hn:x≠"__name__" :=by decide)(b:(x==("__debug__" : Str))=false:=by decide)
  (he:starEach (e::es) X.env=(false,eval e X.env)::starEach es X.env:=by rfl) (c:(backTo pos (starEach es X.env)).any (·.1)=false:=by rfl):PE X (.Call (.Name x p) (e::es) [] pos) (tCB r t):=by
 intro a s σ H Q I h
 refine c9 (qB I f g hv ?_ hn b)
 exact bQ (zH (ha pos a s σ H _ I h) fun us i ⟨vs,j,l,m,n⟩=>d a i σ j vs us Q l m n) he c
end
end L2
namespace HT
open PySem PyProof.Rows
section
open PySem.SeqAt
open PySem.AutoSeq1 (wpAny_loadPart')
open PySem.MeetsSeq PySem.MeetsSeq2 PySem.MeetsSeq3
end
section
variable{prog:aH}{w:aW}{A:bK}{E:ai->aq->Prop}{s:aq}
theorem cat_tup {t b:ao}{vs ws:List ai}{Q:ai->aq->Prop}(q:rq s.heap t vs.toArray)(r:rq s.heap b ws.toArray)(hv:vs≠[])
  (u:ws=[]->Q (.ref t) s) (v:ws≠[]->Q (.ref s.heap.objs.size) {s with heap:=s.heap.push {cls:=.type "tuple",data:=.seq (vs++ws).toArray}})
  (hsz:vs.length+ws.length<=sizeLine):wpAny (model prog w) A (binaryOp .Add (.ref t) (.ref b)) Q E s:=by
 obtain⟨⟨cls,j,data,l⟩,h,m,n,hd⟩:=id q
 obtain⟨⟨o,c,data2,d⟩,a,f,p,g⟩:=id r
 simp only at m hd f g
 subst m hd f g
 have e:vs.toArray++ws.toArray=(vs++ws).toArray:=by simp
 by_cases i:ws=[]
 ·exact o5 ⟨_,h,rfl⟩ ⟨_,a,rfl⟩ lW ot iH iE (ik _ _)
   (tuple_addW1 t b vs.toArray ws.toArray n p j c l d (by simpa using hv) (by simp[i])) ⟨h,a,u i⟩
 ·refine o5 ⟨_,h,rfl⟩ ⟨_,a,rfl⟩ lW ot iH iE (ik _ _)
   (tuple_addW2 t b vs.toArray ws.toArray n p j c l d (by simpa using hv) (by simpa using i) (by rw[aG,aG];exact hsz)) ⟨h,a,?_⟩
  rw[e]
  exact v i
noncomputable def sIx (n d:Nat):Option Int->Nat
 |none=>d
 |some v=>if v<0 then(v+(n:Int)).toNat else min v.toNat n
theorem sIx_nat (n d k:Nat):sIx n d (some (k:Int))=min k n:=by
 show(if(k:Int)<0 then((k:Int)+(n:Int)).toNat else min (k:Int).toNat n)=min k n
 rw[if_neg (by omega),cX]
theorem sIx_le (n d:Nat)(hd:d<=n)(o:Option Int):sIx n d o<=n:=by
 cases o with
 |none=>exact hd
 |some v=>
  show(if v<0 then(v+(n:Int)).toNat else min v.toNat n)<=n
  by_cases hv:v<0
  ·rw[if_pos hv];omega
  ·rw[if_neg hv];exact Nat.min_le_right _ _
theorem zFu (v:Int)(n d:Nat):(if v<0 then max (v+(n:Int)) 0 else min v (n:Int))=((sIx n d (some v):Nat):Int):=by
 show(if v<0 then max (v+(n:Int)) 0 else min v (n:Int))=(((if v<0 then(v+(n:Int)).toNat else min v.toNat n):Nat):Int)
 by_cases hv:v<0
 ·simp only[if_pos hv];omega
 ·simp only[if_neg hv];omega
theorem zLQ (lo hi:Option Int)(n:Nat):gy lo hi 1 (n:Int)=(((sIx n 0 lo:Nat):Int),((sIx n n hi:Nat):Int)):=by
 have a:¬((1:Int)<0):=by omega
 unfold gy
 simp only[a,if_false]
 refine eI ?_ ?_
 ·cases lo with
  |none=>rfl
  |some v=>exact zFu v n 0
 ·cases hi with
  |none=>rfl
  |some v=>exact zFu v n n
theorem zLR (i j:Nat):eU (i:Int) (j:Int) 1=j-i:=by
 unfold eU
 have a:(1:Int)>0:=by omega
 simp only[a,if_true,Int.ediv_one]
 split<;>omega
theorem zFv {v:ai}{o:Option Int}{Q:Option Int->aq->Prop}(p:mE v o)(h:Q o s):wpAny (model prog w) A (qo v) Q E s:=by
 cases p with
 |none=>exact rC h
 |int i t=>exact slicePart_int h
theorem sliceApplied_gen {e:ao}{c d:ai}{lo hi:Option Int}{n:Nat}{Q:Int×Int×Nat->aq->Prop}(f:s.heap.IsSliceOf e c d .none)(pl:mE c lo)(g:mE d hi)
  (h:Q (((sIx n 0 lo:Nat):Int),1,sIx n n hi-sIx n 0 lo) s):wpAny (model prog w) A (kh (.ref e) (pure (n:Int))) Q E s:=by
 obtain⟨os,a,i,b⟩:=id f
 unfold kh sq
 refine af (af (cC a b (x:=c) rfl (af (cC a b (x:=d) rfl (af (cC a b (x:=.none) rfl (ar ?_)))))))
 refine af (rC ?_)
 show wpAny _ _ (if((1:Int)==0)=true then _ else _) _ _ s
 rw[if_neg (by decide)]
 refine af (zFv pl (af (zFv g (af (ar ?_)))))
 show wpAny _ _ (match gy lo hi 1 (n:Int)with|(lo,hi)=>pure (lo,(1:Int),eU lo hi 1)) _ _ s
 rw[zLQ lo hi n]
 show wpAny _ _ (pure (((sIx n 0 lo:Nat):Int),(1:Int),eU ((sIx n 0 lo:Nat):Int) ((sIx n n hi:Nat):Int) 1)) _ _ s
 rw[zLR]
 exact ar h
theorem zLS (xs:Array ai)(i k:Nat):((bu k).filterMap fun(m:Nat)=>xs[((i:Int)+(m:Int)*1).toNat]?).toArray=((xs.toList.drop i).take k).toArray:=by
 have e:(fun(m:Nat)=>xs[((i:Int)+(m:Int)*1).toNat]?)=fun m=>xs[i+m]?:=by
  funext m
  have:((i:Int)+(m:Int)*1).toNat=i+m:=by omega
  rw[this]
 rw[e]
 have:=pick_run xs i k
 rw[List.filterMap_map]at this
 have a:((fun x=>xs[x]?) ∘ fun x=>i+x)=fun m=>xs[i+m]?:=rfl
 rw[a]at this
 rw[this]
theorem getItem_tuple_cut {t c:ao}{items:Array ai}{i j:ai}{lo hi:Option Int}{Q:ai->aq->Prop}(b:rq s.heap t items)(l:s.heap.IsSliceOf c i j .none)(pl:mE i lo)(n:mE j hi)
  (o:¬(sIx items.size 0 lo=0/\sIx items.size items.size hi=items.size))
  (h:Q (.ref s.heap.objs.size) {s with heap:=s.heap.push {cls:=.type "tuple",data:=.seq ((items.toList.drop (sIx items.size 0 lo)).take (sIx items.size items.size hi-sIx items.size 0 lo)).toArray}})
  (hsz:items.size<=sizeLine):wpAny (model prog w) A (getItem (.ref t) (.ref c)) Q E s:=by
 have a:sizeOk (.seq ((items.toList.drop (sIx items.size 0 lo)).take (sIx items.size items.size hi-sIx items.size 0 lo)).toArray):=by
  show((items.toList.drop (sIx items.size 0 lo)).take (sIx items.size items.size hi-sIx items.size 0 lo)).toArray.size<=sizeLine
  rw[aG,aO,cc,bh]
  omega
 have r:sIx items.size items.size hi<=items.size:=sIx_le _ _ (aA _) hi
 obtain⟨os,d,e,p⟩:=id l
 have f:s.TypeIs (.ref c) "slice" :=⟨os,d,e⟩
 unfold getItem
 try with_reducible refine cV ?_
 first|refine af (ar ?_)|skip
 refine af (o6 b.typeIs (by decide) ?_)
 refine af (bU (name:=di "__getitem__") b.typeIs cz
  (cf cz b.typeIs nZ ?_ (oJ _ _)))
 show wpAny _ _ (ki (.ref t)>>=_) _ _ s
 refine af (sR b ?_)
 refine af (gq f ?_)
 rw[if_pos (by decide)]
 refine af (sliceApplied_gen l pl n ?_)
 have g:¬((((sIx items.size 0 lo:Nat):Int)==0&& (1:Int)==1&& (sIx items.size items.size hi-sIx items.size 0 lo)==items.size)=true):=by
  intro q
  rw[bA,bA]at q
  have u:((sIx items.size 0 lo:Nat):Int)=0:=eq_of_beq q.1.1
  have v:sIx items.size items.size hi-sIx items.size 0 lo=items.size:=eq_of_beq q.2
  exact o ⟨by omega,by omega⟩
 show wpAny _ _ (if(((sIx items.size 0 lo:Nat):Int)==0&& (1:Int)==1&& (sIx items.size items.size hi-sIx items.size 0 lo)==items.size)=true then _ else _) _ _ s
 rw[if_neg g,zLS]
 first
  |exact af (m:=fw _) (cg (ar ⟨_,rfl,ar h⟩) a)
  |exact af (m:=fw _) (cg (af (ar (ar ⟨_,rfl,ar h⟩))) a)
  |exact af (af (m:=fw _) (cg (ar (ar ⟨_,rfl,ar h⟩)) a))
  |exact af (af (m:=fw _) (cg (ar ⟨_,rfl,ar h⟩) a))
end
end HT
namespace L2
open PySem PySem.Spec PyProof.Rows
noncomputable abbrev TO:=St->Hp->(Option Int->Hp->Prop)->Prop
noncomputable def PO (X:Cx)(e:Option bF)(t:TO):Prop :=
 ∀(pins:List (ao×Obj)) (s:aq) (σ:St) (H:Hp) (Q:Option Int->Hp->Prop),Inv X pins σ H s->t σ H Q->
  wpAny (model X.prog X.w) X.A (evalPart e X.env) (fun u s'=>∃o H',Inv X pins σ H' s'/\mE u o/\Q o H') X.xe s
noncomputable def zLT:TO:=fun _ H Q=>Q none H
noncomputable def zLU (t:TE):TO:=fun σ H Q=>t σ H fun x H1=>∃i,x=.int i/\Q (some i) H1
section
variable{X:Cx}{e:bF}{te:TE}{lo hi:Option bF}{tl th:TO}{pos p2:Pos}
theorem jC:PO X none zLT:=by
 intro a s σ H Q I h
 rw[ou]
 exact ar ⟨none,H,I,.none,h⟩
theorem qJ (h:PE X e te):PO X (some e) (zLU te):=by
 intro a s σ H Q I b
 rw[evalPart_some]
 refine zH (h a s σ H _ I b) fun u j zq=>?_
 obtain⟨x,c,d,f,g⟩:=zq
 obtain⟨i,rfl,q⟩:=g
 obtain⟨t,rfl⟩:=f
 exact⟨some i,c,d,.int i t,q⟩
noncomputable def SlR (X:Cx)(r:V->Option Int->Option Int->Hp->VK->Prop):Prop :=
 ∀(pins:List (ao×Obj)) (s:aq) (σ:St) (H:Hp) (x:V) (v vl vu:ai) (lo hi:Option Int) (sl:ao) (Q:VK),Inv X pins σ H s->zQ x v->s.heap.IsSliceOf sl vl vu .none->mE vl lo->mE vu hi->r x lo hi H Q->
  ∃T id,typeLookup (.type T) "__getitem__"=pure (some (.builtin id))/\s.TypeIs v T/\wpAny (model X.prog X.w) X.A (getItem v (.ref sl)) (EP X pins σ Q) X.xe s
noncomputable def tSl (r:V->Option Int->Option Int->Hp->VK->Prop)(te:TE)(tl th:TO):TE:=fun σ H Q=>te σ H fun x H1=>tl σ H1 fun l H2=>th σ H2 fun u H3=>r x l u H3 Q
theorem kH {r:V->Option Int->Option Int->Hp->VK->Prop}(i:SlR X r)(he:PE X e te)(hl:PO X lo tl)(j:PO X hi th):PE X (.Subscript e (.Slice lo hi none p2) pos) (tSl r te tl th):=by
 intro a s σ H Q I h
 refine kj (zH (he a s σ H _ I h) fun v m zq=>?_)
 obtain⟨x,n,o,p,t⟩:=zq
 refine wpAny_Slice (zH (hl a m σ n _ o t) fun d y ⟨l,z,B,pl,C⟩=>zH (j a y σ z _ B C) fun f c zq=>?_)
 obtain⟨u,g,D,E,F⟩:=zq
 rw[ou]
 refine ar ?_
 have G:Inv X a σ g {c with heap:=c.heap.push {cls:=.type "slice",data:=.fields #[d,f,.none]}}:=D.kept (t':=c.toks) fun b N q=>ae _ q
 obtain⟨T,id,J,L,M⟩:=i a {c with heap:=c.heap.push {cls:=.type "slice",data:=.fields #[d,f,.none]}} σ g x v d f l u c.heap.objs.size Q G p (vq ..) pl E F
 show wpAny (model X.prog X.w) X.A (subscriptTail e (.Slice lo hi none p2) v (.ref c.heap.objs.size)) (EP X a σ Q) X.xe {c with heap:=c.heap.push {cls:=.type "slice",data:=.fields #[d,f,.none]}}
 exact um (ops:=[.ref c.heap.objs.size,v]) L J M (by with_unfolding_all rfl)
noncomputable def vN (xs:List V)(lo hi:Option Int):List V:=(xs.drop (HT.sIx xs.length 0 lo)).take (HT.sIx xs.length xs.length hi-HT.sIx xs.length 0 lo)
theorem zFw (xs:List V)(lo hi:Option Int):(vN xs lo hi).length<=xs.length:=by
 unfold vN
 rw[aO,cc]
 omega
noncomputable def zLV (K:ag):V->Option Int->Option Int->Hp->VK->Prop:=fun x lo hi H Q=>∃a xs,x=.ref a/\zX K H a xs/\
 ¬(HT.sIx xs.length 0 lo=0/\HT.sIx xs.length xs.length hi=xs.length)/\∀p,H p=none->Q (.ref p) (upd H p (.tup (vN xs lo hi)))
theorem zLW:SlR X (zLV X.K):=by
 intro d s σ H x v n p lo hi t Q I g i pl j h
 obtain⟨a,xs,rfl,l,m,q⟩:=h
 cases g
 obtain⟨its,r,f,hz⟩:=I.tuple l
 have c:its.toArray.size=xs.length:=by rw[aG];exact r.length.symm
 refine⟨"tuple",_,cz.lookup,f.typeIs,?_⟩
 refine HT.getItem_tuple_cut f i pl j (by rw[c];exact m) ?_ (by rw[c];exact hz)
 rw[c]
 refine⟨.ref s.heap.objs.size,_,I.laid (t':=s.toks) (o:=.tup (vN xs lo hi)) (fun b u q=>ae _ q) (aA _) ?_,rfl,q _ (I.hok.fresh (aA _))⟩
 exact⟨bS (zFw xs lo hi) hz,_,(r.drop (HT.sIx xs.length 0 lo)).take (HT.sIx xs.length xs.length hi-HT.sIx xs.length 0 lo),tJ _ _⟩
noncomputable def zLX (K:ag):R2:=fun x y H Q=>∃a b xs ys,x=.ref a/\y=.ref b/\zX K H a xs/\zX K H b ys/\xs≠[]/\xs.length+ys.length<=sizeLine/\
 (ys=[]->Q (.ref a) H)/\(ys≠[]->∀p,H p=none->Q (.ref p) (upd H p (.tup (xs++ys))))
theorem zJ.nil_iff {xs:List V}{us:List ai}(r:zJ xs us):us=[]↔xs=[]:=by
 cases r with
 |nil=>simp
 |cons _ _=>simp
theorem zFx:yG X (binaryOp .Add) (zLX X.K):=by
 intro f s σ H x y v u Q I i j h
 obtain⟨a,b,xs,ys,rfl,rfl,ha,l,m,hz,n,p⟩:=h
 cases i
 cases j
 obtain⟨its,d,r,_⟩:=I.tuple ha
 obtain⟨g,c,p2,_⟩:=I.tuple l
 refine HT.cat_tup r p2 (fun z=>m (d.nil_iff.mp z)) (fun z=>⟨.ref a,H,I,rfl,n (c.nil_iff.mp z)⟩) (fun z=>?_) (by rw[<-d.length,<-c.length];exact hz)
 refine⟨.ref s.heap.objs.size,_,I.laid (t':=s.toks) (o:=.tup (xs++ys)) (fun b t q=>ae _ q) (aA _) ?_,rfl,p (fun w=>z (c.nil_iff.mpr w)) _ (I.hok.fresh (aA _))⟩
 exact⟨by rw[aw];exact hz,_,d.append c,tJ _ _⟩
end
noncomputable def ixN (n:Nat)(i:Int):Option Nat:=if 0<=i then(if i<n then some i.toNat else none)else if-(n:Int)<=i then some (i+n).toNat else none
noncomputable def gD {α:Type}(xs:List α)(i:Int):Option α:=(ixN xs.length i).bind fun j=>xs[j]?
theorem zFy {n:Nat}{i:Int}{j:Nat}(h:ixN n i=some j):seqIndex? i n=some j/\j<n/\-(n:Int)<=i/\i<n:=by
 unfold ixN at h
 by_cases b:0<=i
 ·rw[if_pos b]at h
  by_cases a:i<n
  ·rw[if_pos a]at h
   have e:i.toNat=j:=aB h
   exact⟨by rw[ql b a,e],by omega,by omega,a⟩
  ·rw[if_neg a]at h;cases h
 ·rw[if_neg b]at h
  by_cases a:-(n:Int)<=i
  ·rw[if_pos a]at h
   have e:(i+n).toNat=j:=aB h
   exact⟨by rw[o7 (by omega) a,e],by omega,a,by omega⟩
  ·rw[if_neg a]at h;cases h
theorem zCz {α:Type}{xs:List α}{i:Int}{v:α}(h:gD xs i=some v):∃j,seqIndex? i xs.length=some j/\xs[j]?=some v/\j<xs.length/\-(xs.length:Int)<=i/\i<xs.length:=by
 unfold gD at h
 cases e:ixN xs.length i with
 |none=>rw[e]at h;cases h
 |some j=>
  rw[e]at h
  obtain⟨a,b,c,d⟩:=zFy e
  exact⟨j,a,h,b,c,d⟩
theorem zAB {α:Type}{xs:List α}{j:Nat}{v:α}(h:xs[j]?=some v):gD xs (j:Int)=some v:=by
 have a:j<xs.length:=(ak.mp h).1
 have e:ixN xs.length (j:Int)=some j:=by
  unfold ixN
  rw[if_pos (by omega),if_pos (by omega)];simp
 unfold gD;rw[e];exact h
noncomputable def zLY (b:bF):Prop:=∀o i,subscripted b false o i=operate [o,i] (getItem o i)
noncomputable def IxR (X:Cx)(r:R2):Prop :=
 ∀(value slice:bF) (pins:List (ao×Obj)) (s:aq) (σ:St) (H:Hp) (x y:V) (v u:ai) (Q:VK),Inv X pins σ H s->zQ x v->zQ y u->r x y H Q->
  subscripted slice false v u=operate [v,u] (getItem v u)->wpAny (model X.prog X.w) X.A (subscriptTail value slice v u) (EP X pins σ Q) X.xe s
noncomputable def MtR (X:Cx)(id:String)(r:V->List V->Hp->VK->Prop):Prop :=
 ∀(pins:List (ao×Obj)) (s:aq) (σ:St) (H:Hp) (x:V) (xs:List V) (v:ai) (us:List ai) (Q:VK),Inv X pins σ H s->zQ x v->zJ xs us->r x xs H Q->
  wpAny (model X.prog X.w) X.A (call (.builtin id) (v::us)) (EP X pins σ Q) X.xe s
section
variable{X:Cx}{a b:bF}{ta tb:TE}{pos:Pos}
theorem yH {r:R2}(d:IxR X r)(ha:PE X a ta)(e:PE X b tb)(f:zLY b):PE X (.Subscript a b pos) (tOp r ta tb):=by
 intro c s σ H Q I h
 exact kj (zCr ha e I h fun v u g x y i j l m q=>d a b c g σ i x y v u Q j l m q (f _ _))
noncomputable def zFz (K:ag):R2:=fun x y H Q=>∃p xs i v,x=.ref p/\y=.int i/\z6 K H p xs/\gD xs i=some v/\Q v H
noncomputable def zGA (K:ag):R2:=fun x y H Q=>∃p xs i v,x=.ref p/\y=.int i/\zX K H p xs/\gD xs i=some v/\Q v H
noncomputable def zLZ:R2:=fun x y H Q=>∃z i c,x=.str z/\y=.int i/\z.length<=sizeLine/\gD z.cps.toList i=some c/\Q (.str ⟨#[c]⟩) H
theorem vT:IxR X (zFz X.K):=by
 intro value slice c s σ H x y v u Q I n o h g
 obtain⟨p,xs,i,z,rfl,rfl,A,he,q⟩:=h
 cases n
 obtain⟨t,rfl⟩:=o
 obtain⟨its,r,pl,hz⟩:=I.list A
 obtain⟨j,d,B,E,C,D⟩:=zCz he
 obtain⟨w,l,e⟩:=r.get B
 have hl:=r.length
 have hn:=zAd
 have fin:EP X c σ Q w s:=⟨z,H,I,e,q⟩
 by_cases m:0<=i
 ·have f:i.toNat=j:=by
   rw[ql m D]at d
   exact aB d
  exact item_listR pl.isList m (by omega) (by rw[f];simpa using l) fin g
 ·have f:(i+(its.toArray.size:Int)).toNat=j:=by
   rw[o7 (by omega) C]at d
   rw[aG,<-hl]
   exact aB d
  exact fO (x:=w) pl.isList.typeIs o8.lookup
   (wpAny_getItem_list_neg (Q:=fun r s'=>r=w/\EP X c σ Q r s') pl.isList (by omega) (by rw[aG]<;>omega) (by omega) (by rw[f];simpa using l) ⟨rfl,fin⟩) g
theorem vX:IxR X (zGA X.K):=by
 intro value slice c s σ H x y v u Q I e f h g
 obtain⟨p,xs,i,z,rfl,rfl,l,he,q⟩:=h
 cases e
 obtain⟨t,rfl⟩:=f
 obtain⟨its,r,pl,hz⟩:=I.tuple l
 obtain⟨j,m,n,A,B,C⟩:=zCz he
 obtain⟨w,o,d⟩:=r.get n
 have hl:=r.length
 have hn:=zAd
 have fin:EP X c σ Q w s:=⟨z,H,I,d,q⟩
 exact fO (x:=w) pl.typeIs kl.lookup
  (ox (j:=j) (Q:=fun r s'=>r=w/\EP X c σ Q r s') pl (by omega) (by omega) (by rw[aG,<-hl];exact m) (by simpa using o) ⟨rfl,fin⟩) g
theorem zLa:IxR X zLZ:=by
 intro value slice d s σ H x y v u Q I f g h l
 obtain⟨z,i,c,rfl,rfl,hz,he,q⟩:=h
 obtain⟨t,rfl⟩:=f
 obtain⟨t',rfl⟩:=g
 obtain⟨j,e,m,r,n,o⟩:=zCz he
 have hl:z.cps.toList.length=z.length:=by simp[rE]
 rw[hl]at e n o
 have hn:=zAd
 exact um (typeIs_str s z t) slot_str_getitem.lookup (getItem_str (c:=c) (by
  have e1:decide (i< -(2^63:Int))=false:=decide_eq_false (by omega)
  have p:decide (i>=2^63)=false:=decide_eq_false (by omega)
  rw[e1,p,Bool.or_false]) (by rw[e];simpa using m) ⟨.str ⟨#[c]⟩,H,I.tok _,⟨_,rfl⟩,q⟩) l
theorem zLb (its:List ai)(n j:Nat)(u:ai):bG (·.setIfInBounds j u) {cls:=.type "list",data:=.seq its.toArray n}={cls:=.type "list",data:=.seq (its.set j u).toArray n}:=by
 simp[bG]
theorem Inv.lst {c:List (ao×Obj)}{σ:St}{H:Hp}{s:aq}{p:ao}{xs:List V}(I:Inv X c σ H s)(h:H p=some (.lst xs)) :
  ∃(its:List ai) (n:Nat),zJ xs its/\s.heap.get? p=some {cls:=.type "list",data:=.seq its.toArray n}/\xs.length<=sizeLine:=by
 obtain⟨z,its,n,r,e⟩:=I.hok p _ h
 exact⟨its,n,r,e,z⟩
theorem Inv.lstUpd {c:List (ao×Obj)}{σ:St}{H:Hp}{s:aq}{p:ao}{xs ys:List V}{its its':List ai}{n d:Nat}{f:Obj->Obj}(I:Inv X c σ H s)(h:H p=some (.lst xs))
  (g:s.heap.get? p=some {cls:=.type "list",data:=.seq its.toArray n}) (hf:f {cls:=.type "list",data:=.seq its.toArray n}={cls:=.type "list",data:=.seq its'.toArray d}) (r:zJ ys its') (hz:ys.length<=sizeLine) (t:Nat) :
  Inv X c σ (upd H p (.lst ys)) {s with heap:=s.heap.update p f,toks:=t}:=by
 have e:(s.heap.update p f).get? p=some {cls:=.type "list",data:=.seq its'.toArray d}:=by
  rw[eR f g (by rw[hf]<;>rfl),hf]
 refine I.write (x:=p) (e:=p) (by rw[h];trivial) (.inl rfl) (fun b u i q=>(bt _ _ (dz i)).trans q) ⟨_,e⟩ ?_
 exact⟨hz,its',d,r,e⟩
noncomputable def zLc:V->V->V->Hp->(Hp->Prop)->Prop:=fun o i v H Q=>∃p xs k j,o=.ref p/\i=.int k/\H p=some (.lst xs)/\ixN xs.length k=some j/\Q (upd H p (.lst (xs.set j v)))
theorem zLd:zFX X zLc:=by
 intro c s σ H o i v C D u Q I y z A h
 obtain⟨p,xs,k,j,rfl,rfl,g,B,q⟩:=h
 cases y
 obtain⟨t,rfl⟩:=z
 obtain⟨its,n,r,e,hz⟩:=I.lst g
 obtain⟨d,E,l,m⟩:=zFy B
 have hl:=r.length
 have hn:=zAd
 have w:Inv X c σ (upd H p (.lst (xs.set j v))) {s with heap:=s.heap.update p (bG (·.setIfInBounds j u))} :=
  I.lstUpd g e (zLb its n j u) (r.set A j) (by rw[List.length_set];exact hz) s.toks
 by_cases x:0<=k
 ·have f:k.toNat=j:=by
   rw[ql x m]at d
   exact aB d
  exact PySem.W.ki_setAt e x (by omega) (by rw[aG,<-hl];exact m) (by rw[f];exact⟨_,w,q⟩)
 ·have f:(k+(its.toArray.size:Int)).toNat=j:=by
   rw[o7 (by omega) l]at d
   rw[aG,<-hl]
   exact aB d
  exact PySem.W.ki_setBack e (by omega) (by rw[aG,<-hl];exact l) (by omega) (by rw[f];exact⟨_,w,q⟩)
theorem zLe (lo hi:Option Int)(n:Nat):(sliceBounds lo hi none n).1=((HT.sIx n 0 lo:Nat):Int)/\(sliceBounds lo hi none n).2.1=((HT.sIx n n hi:Nat):Int)/\(sliceBounds lo hi none n).2.2=1:=by
 refine⟨?_,?_,rfl⟩
 ·cases lo with
  |none=>simp[sliceBounds,HT.sIx]
  |some i=>
   simp only[sliceBounds,HT.sIx,pZ,show(1:Int)>0 by decide,if_true]
   by_cases h:i<0
   ·simp only[h,if_true]<;>omega
   ·simp only[h,if_false]<;>omega
 ·cases hi with
  |none=>simp[sliceBounds,HT.sIx]
  |some i=>
   simp only[sliceBounds,HT.sIx,pZ,show(1:Int)>0 by decide,if_true]
   by_cases h:i<0
   ·simp only[h,if_true]<;>omega
   ·simp only[h,if_false]<;>omega
theorem zLf (its:List ai)(lo hi:Option Int):slicePick its.toArray lo hi none=((its.drop (HT.sIx its.length 0 lo)).take (HT.sIx its.length its.length hi-HT.sIx its.length 0 lo)).toArray:=by
 obtain⟨c,d,e⟩:=zLe lo hi its.toArray.size
 unfold slicePick
 rw[c,d,e]
 simp only[sliceRange_one,pick_run,aG]<;>rfl
noncomputable def zLg (K:ag):V->Option Int->Option Int->Hp->VK->Prop:=fun x lo hi H Q=>∃a xs,x=.ref a/\z6 K H a xs/\∀p,H p=none->Q (.ref p) (upd H p (.lst (vN xs lo hi)))
theorem zBl:SlR X (zLg X.K):=by
 intro d s σ H x v l m lo hi n Q I f g pl i h
 obtain⟨a,xs,rfl,j,q⟩:=h
 cases f
 obtain⟨its,r,e,hz⟩:=I.list j
 have c:=r.length
 refine⟨"list",_,o8.lookup,e.isList.typeIs,?_⟩
 refine wpAny_getItem_list_slice e.isList g pl i .none (by simp) ?_ (by rw[aG]<;>omega)
 rw[zLf,<-c]
 refine⟨.ref s.heap.objs.size,_,I.laid (t':=s.toks) (o:=.lst (vN xs lo hi)) (fun b p q=>ae _ q) (aA _) ?_,rfl,q _ (I.hok.fresh (aA _))⟩
 exact⟨bS (zFw xs lo hi) hz,_,0,(r.drop (HT.sIx xs.length 0 lo)).take (HT.sIx xs.length xs.length hi-HT.sIx xs.length 0 lo),aC _ rfl⟩
noncomputable def kI:V->Bool
 | .non=>true
 | .bl _=>true
 | .int _=>true
 | .str _=>true
 |_=>false
noncomputable def jW:V->V->Bool
 | .non,.non=>true
 | .bl a,.bl b=>a==b
 | .bl a,.int b=>(if a then 1 else 0)==b
 | .int a,.bl b=>a==(if b then 1 else 0)
 | .int a,.int b=>a==b
 | .str a,.str b=>a==b
 |_,_=>false
theorem zLh {A:bK}{s:aq}{y x:V}{u v:ai}(d:zQ y u)(c:zQ x v)(e:kI y=true)(fx:kI x=true):vo A s u v (jW y x):=by
 cases y with
 |non=>
  cases d
  cases x with
  |non=>cases c;exact wu _
  |bl b=>cases c;exact uo b
  |int b=>obtain⟨t,rfl⟩:=c;exact vb b t
  |str b=>obtain⟨t,rfl⟩:=c;exact vc b t
  |_=>exact absurd (show false=true from fx) aT
 |bl a=>
  cases d
  cases x with
  |non=>cases c;exact ur a
  |bl b=>cases c;exact nE a b
  |int b=>obtain⟨t,rfl⟩:=c;exact vd a b t
  |str b=>obtain⟨t,rfl⟩:=c;exact nX a b t
  |_=>exact absurd (show false=true from fx) aT
 |int a=>
  obtain⟨t',rfl⟩:=d
  cases x with
  |non=>cases c;exact ve a t'
  |bl b=>cases c;exact vf a t' b
  |int b=>obtain⟨t,rfl⟩:=c;exact oK a t' b t
  |str b=>obtain⟨t,rfl⟩:=c;exact oB a t' b t
  |_=>exact absurd (show false=true from fx) aT
 |str a=>
  obtain⟨t',rfl⟩:=d
  cases x with
  |non=>cases c;exact vg a t'
  |bl b=>cases c;exact nW a t' b
  |int b=>obtain⟨t,rfl⟩:=c;exact oE a t' b t
  |str b=>obtain⟨t,rfl⟩:=c;exact oM a t' b t
  |_=>exact absurd (show false=true from fx) aT
 |_=>exact absurd (show false=true from e) aT
noncomputable def uV (x:V)(u:ai):Bool:=match u with
 | .none=>jW .non x
 | .bool b=>jW (.bl b) x
 | .int i _=>jW (.int i) x
 | .str z _=>jW (.str z) x
 |_=>false
theorem zGB {x y:V}{u:ai}(r:zQ y u)(f:kI y=true):uV x u=jW y x:=by
 cases y with
 |non=>cases r;rfl
 |bl b=>cases r;rfl
 |int i=>obtain⟨t,rfl⟩:=r;rfl
 |str z=>obtain⟨t,rfl⟩:=r;rfl
 |_=>exact absurd (show false=true from f) aT
theorem zBL {x:V}:∀{xs:List V}{us:List ai},zJ xs us->xs.all kI=true->us.any (uV x)=xs.any fun y=>jW y x
 |_,_,.nil,_=>rfl
 |y::xs,u::us,.cons r t,f=>by
  rw[oy,bA]at f
  rw[fX,fX,zGB r f.1,zBL t f.2]
theorem zBM {A:bK}{s:aq}{x:V}{v:ai}(d:zQ x v)(fx:kI x=true):∀{xs:List V}{us:List ai},zJ xs us->xs.all kI=true->∀u∈us,vo A s u v (uV x u)
 |_,_,.nil,_=>fun u c=>by cases c
 |y::xs,u::us,.cons r t,f=>fun e c=>by
  rw[oy,bA]at f
  rcases aE.mp c with rfl|c
  ·rw[zGB r f.1];exact zLh r d f.1 fx
  ·exact zBM d fx t f.2 e c
noncomputable def qS (x:V)(xs:List V):Bool:=xs.any fun y=>jW y x
noncomputable def rIn (K:ag)(neg:Bool):R2:=fun x y H Q=>∃p xs,y=.ref p/\(z6 K H p xs\/zX K H p xs)/\kI x=true/\xs.all kI=true/\Q (.bl (if neg then !qS x xs else qS x xs)) H
theorem zDA:yG X (compareOp .In) (rIn X.K false):=by
 intro e s σ H x y v u Q I f g h
 obtain⟨p,xs,rfl,c,fx,fs,q⟩:=h
 cases g
 rcases c with c|c
 ·obtain⟨its,r,pl,hz⟩:=I.list c
  refine SeqAt.in_listAt (uV x) pl.isList (fun w d=>zBM f fx r fs w (by simpa using d)) ⟨.bl _,H,I,rfl,?_⟩
  rw[show its.toArray.any (uV x)=its.any (uV x) by simp,zBL r fs]
  exact q
 ·obtain⟨its,r,pl,hz⟩:=I.tuple c
  refine SeqAt.in_tupleAt (uV x) pl (fun w d=>zBM f fx r fs w (by simpa using d)) ⟨.bl _,H,I,rfl,?_⟩
  rw[show its.toArray.any (uV x)=its.any (uV x) by simp,zBL r fs]
  exact q
theorem zDB:yG X (compareOp .NotIn) (rIn X.K true):=by
 intro e s σ H x y v u Q I f g h
 obtain⟨p,xs,rfl,c,fx,fs,q⟩:=h
 cases g
 rcases c with c|c
 ·obtain⟨its,r,pl,hz⟩:=I.list c
  refine SeqAt.notIn_listAt (uV x) pl.isList (fun w d=>zBM f fx r fs w (by simpa using d)) ⟨.bl _,H,I,rfl,?_⟩
  rw[show its.toArray.any (uV x)=its.any (uV x) by simp,zBL r fs]
  exact q
 ·obtain⟨its,r,pl,hz⟩:=I.tuple c
  refine SeqAt.notIn_tupleAt (uV x) pl (fun w d=>zBM f fx r fs w (by simpa using d)) ⟨.bl _,H,I,rfl,?_⟩
  rw[show its.toArray.any (uV x)=its.any (uV x) by simp,zBL r fs]
  exact q
theorem jD:uU X (.builtin "len") (fun xs H Q=>∃p ys,xs=[.ref p]/\(z6 X.K H p ys\/zX X.K H p ys)/\Q (.int ys.length) H):=by
 intro f s σ H xs us Q I r h
 obtain⟨p,ys,rfl,d,q⟩:=h
 obtain⟨u,rfl,g⟩:=uM r
 cases g
 have hn:=zAd
 rcases d with d|d
 ·obtain⟨its,e,pl,hz⟩:=I.list d
  have c:=e.length
  exact Calls.call_len_list pl.isList (by simp only[aG]<;>omega) ⟨.int ys.length,H,I.tok _,⟨s.toks+1,by rw[aG,c]⟩,q⟩
 ·obtain⟨its,e,pl,hz⟩:=I.tuple d
  have c:=e.length
  exact len_tuple pl (by simp only[aG]<;>omega) ⟨.int ys.length,H,I.tok _,⟨s.toks+1,by rw[aG,c]⟩,q⟩
theorem gE:uU X (.builtin "len") (fun xs H Q=>∃z,xs=[.str z]/\z.length<=sizeLine/\Q (.int z.length) H):=by
 intro c s σ H xs us Q I r h
 obtain⟨z,rfl,hz,q⟩:=h
 obtain⟨u,rfl,t,rfl⟩:=uM r
 have hn:=zAd
 exact len_str (by omega) ⟨.int z.length,H,I.tok _,⟨_,rfl⟩,q⟩
theorem zGC:uU X (.type "list") (fun xs H Q=>∃p ys,xs=[.ref p]/\(z6 X.K H p ys\/zX X.K H p ys)/\∀l,H l=none->Q (.ref l) (upd H l (.lst ys))):=by
 intro f s σ H xs us Q I r h
 obtain⟨p,ys,rfl,g,q⟩:=h
 obtain⟨u,rfl,v⟩:=uM r
 cases v
 have fin:∀(its:List ai),zJ ys its->ys.length<=sizeLine->∀(h':bB) (c:Nat),(∀b t,s.heap.get? b=some t->h'.get? b=some t)->
   h'.get? s.heap.objs.size=some {cls:=.type "list",dict:=none,data:=.seq its.toArray c,slots:=#[]}->EP X f σ Q (.ref s.heap.objs.size) {s with heap:=h'}:=fun its d hz h' c kp e=>
  ⟨.ref s.heap.objs.size,_,I.laid (t':=s.toks) kp (aA _) (show yP X.prog X.w _ h' _ (.lst ys)from⟨hz,its,c,d,e⟩),rfl,q _ (I.hok.fresh (aA _))⟩
 rcases g with g|g
 ·obtain⟨its,d,pl,hz⟩:=I.list g
  have i:=d.length
  obtain⟨o,j,m,n,hd⟩:=pl.isList
  exact sS p (.inl rfl) j m hd (fun h' c kp e=>fin its d hz h' c kp e) (by simp only[aG]<;>omega)
 ·obtain⟨its,d,pl,hz⟩:=I.tuple g
  have i:=d.length
  obtain⟨o,j,m,n,hd⟩:=pl
  exact sS p (.inr rfl) j m hd (fun h' c kp e=>fin its d hz h' c kp e) (by simp only[aG]<;>omega)
theorem zLi:uU X (.type "tuple") (fun xs H Q=>∃p ys,xs=[.ref p]/\((z6 X.K H p ys/\∀l,H l=none->Q (.ref l) (upd H l (.tup ys)))\/(zX X.K H p ys/\Q (.ref p) H))):=by
 intro c s σ H xs us Q I r h
 obtain⟨p,ys,rfl,h⟩:=h
 obtain⟨u,rfl,j⟩:=uM r
 cases j
 rcases h with⟨d,q⟩|⟨d,q⟩
 ·obtain⟨its,f,pl,hz⟩:=I.list d
  have g:=f.length
  refine call_tuple_list pl.isList (fun h' kp=>?_) (by simp only[aG]<;>omega)
  have i:Inv X c σ H {s with heap:=h'}:=I.kept (t':=s.toks) kp
  have m:Inv X c σ (upd H h'.objs.size (.tup ys)) {s with heap:=h'.push {cls:=.type "tuple",data:=.seq its.toArray}} :=
   i.laid (t':=s.toks) (fun b o e=>ae _ e) (aA _) (show yP X.prog X.w _ _ _ (.tup ys)from⟨hz,its,f,tJ _ _⟩)
  exact⟨.ref h'.objs.size,_,m,rfl,q _ (i.hok.fresh (aA _))⟩
 ·obtain⟨its,f,pl,hz⟩:=I.tuple d
  exact call_tuple_same pl ⟨.ref p,H,I,rfl,q⟩
noncomputable def tyV (K:ag)(T:String)(x:V)(H:Hp):Prop:=match x with
 | .str _=>T="str"
 | .int _=>T="int"
 | .ref p=>(T="list"/\ ∃xs,z6 K H p xs)\/(T="tuple"/\ ∃o,K.lookup p=some o/\o.cls=.type "tuple"/\o.dict=none)\/
   (T="dict"/\ ((∃kvs,H p=some (.dK kvs))\/∃kvs,H p=some (.dT kvs)))\/(T="set"/\ ∃S n,H p=some (.set S n))
 |_=>False
theorem zGD {f:List (ao×Obj)}{σ:St}{H:Hp}{s:aq}{T:String}{x:V}{v:ai}(I:Inv X f σ H s)(r:zQ x v)(ty:tyV X.K T x H) :
  s.TypeIs v T/\∀a,v=.ref a->∃h,s.heap.get? a=some h/\h.dict=none:=by
 cases x with
 |str z=>
  obtain⟨t,rfl⟩:=r
  cases(show T="str"from ty)
  exact⟨typeIs_str s z t,fun _ e=>nomatch e⟩
 |int i=>
  obtain⟨t,rfl⟩:=r
  cases(show T="int"from ty)
  exact⟨rF s i t,fun _ e=>nomatch e⟩
 |ref p=>
  cases r
  rcases ty with⟨rfl,xs,j⟩|⟨rfl,o,d,l,hd⟩|⟨rfl,d⟩|⟨rfl,S,n,d⟩
  ·obtain⟨its,_,pl,_⟩:=I.list j
   refine⟨pl.isList.typeIs,fun a e=>?_⟩
   cases e
   obtain⟨o,n,e,c,hd,_⟩:=pl
   exact⟨o,e,hd⟩
  ·refine⟨⟨o,I.kIn p o d,l⟩,fun a e=>?_⟩
   cases e
   exact⟨o,I.kIn _ o d,hd⟩
  ·have z:∃o,s.heap.get? p=some o/\o.ExactDict:=by
    rcases d with⟨kvs,d⟩|⟨kvs,d⟩
    ·obtain⟨_,_,_,_,o,_,_,e,ex,_⟩:=I.hok p _ d
     exact⟨o,e,ex⟩
    ·obtain⟨_,_,_,_,o,_,_,e,ex,_⟩:=I.hok p _ d
     exact⟨o,e,ex⟩
   obtain⟨o,e,ex⟩:=z
   refine⟨⟨o,e,ex.1⟩,fun a g=>?_⟩
   cases g
   exact⟨o,e,ex.2.1⟩
  ·obtain⟨o,_,_,_,e,ex,_⟩:=I.hok p _ d
   refine⟨⟨o,e,ex.1⟩,fun a g=>?_⟩
   cases g
   exact⟨o,e,ex.2.1⟩
 |_=>exact d6 ty
noncomputable def zGE (K:ag)(T:String)(r:V->List V->Hp->VK->Prop)(to:TE):TE:=fun σ H Q=>to σ H fun x H1=>tyV K T x H1/\r x [] H1 Q
noncomputable def tBM (K:ag)(T:String)(r:V->List V->Hp->VK->Prop)(to:TE)(t:TA):TE:=fun σ H Q=>to σ H fun x H1=>tyV K T x H1/\t σ H1 fun xs H2=>r x xs H2 Q
variable{o e:bF}{es:List bF}{to:TE}{t:TA}{name:Str}{apos cpos:Pos}{T id:String}{r:V->List V->Hp->VK->Prop}
theorem zLj (l:rG T)(slot:Slot T name id)(g:typeOf (.builtin id)=pure (.type "method_descriptor"))(m:MtR X id r)(n:PE X o to)
  (d:attributeBase o name X.env (eval o X.env)=eval o X.env:=by rfl) (f:(apos.endLine==cpos.line)=true:=by rfl):PE X (.Call (.Attribute o name apos) [] [] cpos) (zGE X.K T r to):=by
 intro c s σ H Q I h
 refine lX d f (zH (n c s σ H _ I h) fun v p zq=>?_)
 obtain⟨x,q,i,j,ty,u⟩:=zq
 obtain⟨w,y⟩:=zGD i j ty
 exact⟨T,id,l,slot,g,w,y,fP rfl (oa (m c p σ q x [] v [] Q i j .nil u))⟩
theorem kJ (p:rG T)(slot:Slot T name id)(j:typeOf (.builtin id)=pure (.type "method_descriptor"))(q:MtR X id r)(u:PE X o to)(ha:PA X (e::es) t)
  (f:attributeBase o name X.env (eval o X.env)=eval o X.env:=by rfl)
  (i:((backTo cpos (starEach (e::es) X.env)).all (fun x=>!x.1)&& (backToKw cpos (keywordEach [] X.env)).all (fun x=>x.1.isSome)
   &&decide ((e::es).length+([]:List rl).length+(if([]:List rl).isEmpty then 0 else 1)<30))=true:=by rfl)
  (g:(apos.endLine==cpos.line)=true:=by rfl) (w:starEach (e::es) X.env=(false,eval e X.env)::starEach es X.env:=by rfl) (d:(backTo cpos (starEach es X.env)).any (·.1)=false:=by rfl) :
  PE X (.Call (.Attribute o name apos) (e::es) [] cpos) (tBM X.K T r to t):=by
 intro c s σ H Q I h
 refine wpAny_Call_method_late f i g rfl (zH (u c s σ H _ I h) fun v y zq=>?_)
 obtain⟨x,z,l,m,ty,A⟩:=zq
 obtain⟨B,C⟩:=zGD l m ty
 refine⟨T,id,p,slot,j,B,C,?_⟩
 have n:=ha cpos c y σ z _ l A
 rw[w]at n⊢
 refine fP (by show(false||(backTo cpos (starEach es X.env)).any (·.1))=false;rw[d]<;>rfl) (nH ?_)
 exact zH n fun us D ⟨vs,E,F,G,J⟩=>q c D σ E x vs v us Q F m G J
end
noncomputable def MtM (X:Cx)(id:String)(r:V->List V->Hp->VK->Prop):Prop :=
 ∀(pins:List (ao×Obj)) (s:aq) (σ:St) (H:Hp) (x:V) (xs:List V) (v:ai) (us:List ai) (Q:VK),Inv X pins σ H s->zQ x v->zJ xs us->r x xs H Q->
  wpAny (model X.prog X.w) X.A (call (.builtin id) (v::us)) (EP X pins σ Q) X.xe s
theorem zJ.one:∀{x:V}{us:List ai},zJ [x] us->∃u,us=[u]/\zQ x u:=fun h=>by
 cases h with
 | cons r t=>cases t;exact⟨_,rfl,r⟩
theorem zJ.zero:∀{us:List ai},zJ [] us->us=[]
 |_,.nil=>rfl
theorem zJ.dropLast {xs:List V}{us:List ai}(h:zJ xs us):zJ xs.dropLast us.dropLast:=by
 induction h with
 |nil=>exact .nil
 |cons r t ih=>
  cases t with
  |nil=>exact .nil
  |cons q t'=>exact .cons r ih
theorem zJ.eraseIdx:∀{xs:List V}{us:List ai} (i:Nat),zJ xs us->zJ (xs.eraseIdx i) (us.eraseIdx i)
 |_,_,_,.nil=>.nil
 |_,_,0,.cons _ t=>t
 |_,_,i+1,.cons r t=>.cons r (zJ.eraseIdx i t)
theorem zJ.reverse {xs:List V}{us:List ai}(h:zJ xs us):zJ xs.reverse us.reverse:=by
 induction h with
 |nil=>exact .nil
 |cons r t ih=>rw[o9,o9];exact zJ.append ih (.cons r .nil)
theorem zJ.rep {xs:List V}{us:List ai}(h:zJ xs us):∀k:Nat,zJ (aR k xs).flatten (aR k us).flatten
 |0=>.nil
 |k+1=>by
  rw[cn,cn,fh,fh]
  exact zJ.append h (zJ.rep h k)
theorem zGF (its:List ai):∀(k:Nat) (a:List ai),
  rH (fun b c=>b++c) a.toArray (aR k its.toArray)=(a++(aR k its).flatten).toArray
 |0,a=>by simp
 |k+1,a=>by
  have e:a.toArray++its.toArray=(a++its).toArray:=by simp
  have d:(a++its)++(aR k its).flatten=a++(aR (k+1) its).flatten:=by
   rw[cn,fh,dP]
  rw[<-d,<-zGF its k (a++its),<-e,cn,eY]
section
variable{X:Cx}{pins:List (ao×Obj)}{σ:St}{H:Hp}{s:aq}{l b:ao}{xs ys zs:List V}
theorem Inv.lset {its its':List ai}{n:Nat}{f:Array ai->Array ai}{t':Nat}(I:Inv X pins σ H s)(a:H l=some (.lst xs))
  (e:s.heap.get? l=some {cls:=.type "list",data:=.seq its.toArray n}) (hf:f its.toArray=its'.toArray) (hv:zJ ys its') (hz:ys.length<=sizeLine) :
  Inv X pins σ (upd H l (.lst ys)) {s with heap:=s.heap.update l (bG f),toks:=t'}:=by
 have q:=lY e f
 rw[hf]at q
 refine I.write (x:=l) (e:=l) (by rw[a];exact trivial) (.inl rfl) (fun g u c d=>(bt s.heap (bG f) (dz c)).trans d) ⟨_,q⟩ ?_
 exact⟨hz,its',_,hv,q⟩
theorem Inv.lnew {its:List ai}{t':Nat}(I:Inv X pins σ H s)(hv:zJ ys its)(hz:ys.length<=sizeLine) :
  Inv X pins σ (upd H s.heap.objs.size (.lst ys)) {s with heap:=s.heap.push {cls:=.type "list",data:=.seq its.toArray},toks:=t'} :=
 I.laid (fun _ _ q=>ae _ q) (aA _) ⟨hz,its,0,hv,aC _ rfl⟩
theorem Inv.fresh (I:Inv X pins σ H s):H s.heap.objs.size=none:=I.hok.fresh (aA _)
theorem Inv.lstM (I:Inv X pins σ H s)(a:H l=some (.lst xs)):xs.length<=sizeLine/\∃(its:List ai) (n:Nat),zJ xs its/\xs.length=its.length/\s.heap.get? l=some {cls:=.type "list",data:=.seq its.toArray n}:=by
 obtain⟨z,its,n,r,e⟩:=I.hok l _ a
 exact⟨z,its,n,r,r.length,e⟩
theorem zGG {n:Nat}(h:n<=sizeLine):fz n=false:=by
 unfold fz
 exact decide_eq_false (by omega)
end
section
variable{X:Cx}
noncomputable def zLk:V->List V->Hp->VK->Prop:=fun x vs H Q=>∃l xs y,x=.ref l/\vs=[y]/\H l=some (.lst xs)/\xs.length<sizeLine/\Q .non (upd H l (.lst (xs++[y])))
theorem zGH:MtM X "list.append" zLk:=by
 intro a s σ H x vs v us Q I c d h
 obtain⟨l,xs,y,rfl,rfl,b,hz,q⟩:=h
 cases c
 obtain⟨u,rfl,f⟩:=d.one
 obtain⟨z,its,n,r,hl,e⟩:=I.lstM b
 refine iX km ⟨_,e,rfl⟩ js (jc _ _) (lF l its.toArray n u (by rw[aG];omega)) ⟨e,?_⟩
 refine⟨.non,_,I.lset (its':=its++[u]) b e (by simp) (r.append (.cons f .nil)) ?_,rfl,q⟩
 rw[aw,bW]
 omega
noncomputable def zLl:V->List V->Hp->VK->Prop:=fun x vs H Q=>∃l b xs zs,x=.ref l/\vs=[.ref b]/\H l=some (.lst xs)/\H b=some (.lst zs)/\xs.length+zs.length<=sizeLine/\Q .non (upd H l (.lst (xs++zs)))
theorem zBm:MtM X "list.extend" zLl:=by
 intro d s σ H x vs v us Q I g i h
 obtain⟨l,b,xs,w,rfl,rfl,f,j,hz,q⟩:=h
 cases g
 obtain⟨u,rfl,m⟩:=i.one
 cases m
 obtain⟨z,its,n,r,hl,e⟩:=I.lstM f
 obtain⟨y,a,o,p,hl2,t⟩:=I.lstM j
 have hsz:its.toArray.size+a.toArray.size<=sizeLine:=by rw[aG,aG];omega
 have c:¬(!its.toArray.isEmpty&&fz (its.toArray.size+a.toArray.size))=true:=by
  rw[zGG hsz,Bool.and_false]
  exact aT
 refine iX F.slot_list_extend ⟨_,e,rfl⟩ F.entry_list_extend (F.args_list_extend_2 _ _)
  (AutoSeq1.list_extend_list_list_0 l its.toArray n b a.toArray o c (by rw[aG];omega) (by omega)) ⟨e,t,?_⟩
 refine⟨.non,_,I.lset (its':=its++a) f e (by simp) (r.append p) ?_,rfl,q⟩
 rw[aw]
 omega
noncomputable def zLm:R2:=fun x y H Q=>∃l b xs zs,x=.ref l/\y=.ref b/\H l=some (.lst xs)/\H b=some (.lst zs)/\xs.length+zs.length<=sizeLine/\∀p,H p=none->Q (.ref p) (upd H p (.lst (xs++zs)))
theorem zDC:yG X (binaryOp .Add) zLm:=by
 intro c s σ H x y v u Q I d f h
 obtain⟨l,b,xs,p,rfl,rfl,g,i,hz,q⟩:=h
 cases d
 cases f
 obtain⟨z,its,n,r,hl,e⟩:=I.lstM g
 obtain⟨t,a,w,j,hl2,m⟩:=I.lstM i
 refine PySem.P.add_list e m ?_ (by rw[aG,aG];omega)
 have o:its.toArray++a.toArray=(its++a).toArray:=by simp
 rw[o]
 exact⟨.ref _,_,I.lnew (t':=s.toks) (r.append j) (by rw[aw];omega),rfl,q _ I.fresh⟩
noncomputable def zLn:R2:=fun x y H Q=>∃l k xs,x=.ref l/\y=.int k/\H l=some (.lst xs)/\-(2^63)<=k/\k<2^63/\xs.length*k.toNat<=sizeLine/\
 ∀p,H p=none->Q (.ref p) (upd H p (.lst (aR k.toNat xs).flatten))
theorem zLo {α:Type}(xs:List α)(k:Nat):(aR k xs).flatten.length=k*xs.length:=by
 induction k with
 |zero=>simp
 |succ k ih=>rw[cn,fh,aw,ih,mJ,Nat.add_comm]
theorem zGI:yG X (binaryOp .Mult) zLn:=by
 intro o s σ H x y v u Q I p w h
 obtain⟨l,k,xs,rfl,rfl,A,B,C,hz,q⟩:=h
 cases p
 obtain⟨t,rfl⟩:=w
 obtain⟨z,its,n,r,hl,e⟩:=I.lstM A
 have c:its.toArray.size*k.toNat<=sizeLine:=by rw[aG,<-hl];exact hz
 have d:¬its.toArray.size*k.toNat> (2^63-1)/8:=by
  have:(sizeLine:Nat)<=(2^63-1)/8:=by decide
  omega
 have f:¬(!Builtin.List.listFitsIndex k)=true:=by
  rw[fitsIndex_both B C]
  exact aT
 have b:¬fz (its.toArray.size*k.toNat)=true:=by
  rw[zGG c]
  exact aT
 have g:rH (fun i j=>i++j) #[] (aR (if its.toArray.isEmpty=true then 0 else k.toNat) its.toArray)=(aR k.toNat its).flatten.toArray:=by
  have D:∀m:Nat,rH (fun i j=>i++j) #[] (aR m its.toArray)=(aR m its).flatten.toArray:=fun m=>by
   have:=zGF its m []
   rw[dU]at this
   exact this
  rw[D]
  cases its with
  |nil=>simp
  |cons a E=>rw[if_neg (by simp)]
 refine wpAny_binaryOp_repeat_ref (T :="list") (U :="int") (by decide) ⟨_,e,rfl⟩ (fun s'=>rF s' k t) noFill_list_mul F.fills_int_mul qp repeat_list F.slot_int_index.lookup
  (iX qp (rF s k t) F.entry_int_rmul (F.args_int_rmul_2 _ _) (int___rmul___int_list k t l its.toArray n)
   ⟨e,rfl,⟨_,e,rfl⟩,iX F.slot_list_mul ⟨_,e,rfl⟩ F.entry_list_mul (F.args_list_mul_2 _ _) (oS l its.toArray n k t f d b) ⟨e,?_⟩⟩)
 rw[g]
 exact⟨.ref _,_,I.lnew (t':=s.toks) (r.rep k.toNat) (by rw[zLo,tP];exact hz),rfl,q _ I.fresh⟩
end
section
variable{κ:Type} [DecidableEq κ]
noncomputable def vY (kvs:List (κ×V))(k:κ):Option V:=(kvs.find? fun kv=>decide (kv.1=k)).map (·.2)
noncomputable def v8 (kvs:List (κ×V))(k:κ)(v:V):List (κ×V) :=
 if(kvs.any fun kv=>decide (kv.1=k))=true then kvs.map (fun kv=>if kv.1=k then(kv.1,v)else kv)else kvs++[(k,v)]
theorem zBn {p:κ×V}{r:List (κ×V)}{k:κ}(e:p.1=k):vY (p::r) k=some p.2:=by simp[vY,fU,e]
theorem zBo {p:κ×V}{r:List (κ×V)}{k:κ}(e:¬p.1=k):vY (p::r) k=vY r k:=by simp[vY,fU,e]
theorem zGJ (k:κ):∀kvs:List (κ×V),(kvs.any fun a=>decide (a.1=k))=(vY kvs k).isSome
 | []=>rfl
 |p::r=>by
  rw[fX]
  by_cases e:p.1=k
  ·simp only[zBn e,decide_eq_true e,tQ,Option.isSome_some]
  ·rw[zBo e,decide_eq_false e,lN];exact zGJ k r
theorem zDD (kvs:List (κ×V))(k:κ)(v:V):(v8 kvs k v).length<=kvs.length+1:=by
 unfold v8
 split
 ·rw[ah];omega
 ·rw[aw,aJ,qq];omega
theorem v3.isSome_eq {o:Option V}{u:Option ai}(r:v3 o u):o.isSome=u.isSome:=by
 cases o with
 |none=>cases u with
  |none=>rfl
  |some _=>exact(show False from r).elim
 |some _=>cases u with
  |none=>exact(show False from r).elim
  |some _=>rfl
theorem v3.getD {o:Option V}{u:Option ai}{d:V}{d':ai}(r:v3 o u)(rd:zQ d d'):zQ (o.getD d) (u.getD d'):=by
 cases o with
 |none=>cases u with
  |none=>exact rd
  |some _=>exact(show False from r).elim
 |some _=>cases u with
  |none=>exact(show False from r).elim
  |some _=>exact r
theorem KV.val {kvs:List (κ×V)}{vs:List (κ×ai)}(r:KV kvs vs)(k:κ):v3 (vY kvs k) (valueAt vs k):=by
 unfold KV at r
 induction r with
 |nil=>exact True.intro
 | @cons p q ps a h t ih=>
  obtain⟨d,f⟩:=h
  by_cases e:p.1=k
  ·have c:q.1=k:=d.symm.trans e
   have b:valueAt (q::a) k=some q.2:=by simp[valueAt,fU,c]
   rw[zBn e,b];exact f
  ·have c:¬q.1=k:=fun z=>e (d.trans z)
   have b:valueAt (q::a) k=valueAt a k:=by simp[valueAt,fU,c]
   rw[zBo e,b];exact ih
theorem KV.any {kvs:List (κ×V)}{vs:List (κ×ai)}(r:KV kvs vs)(k:κ):(kvs.any fun a=>decide (a.1=k))=vs.any fun a=>decide (a.1=k):=by
 unfold KV at r
 induction r with
 |nil=>rfl
 |cons h t ih=>rw[fX,fX,ih,h.1]
theorem KV.repl {kvs:List (κ×V)}{vs:List (κ×ai)}(r:KV kvs vs)(k:κ){y:V}{u:ai}(c:zQ y u) :
  KV (kvs.map fun a=>if a.1=k then(a.1,y)else a) (vs.map fun a=>if a.1=k then(a.1,u)else a):=by
 unfold KV at r⊢
 induction r with
 |nil=>exact .nil
 | @cons p q ps f h t ih=>
  rw[aQ,aQ]
  refine .cons ?_ ih
  obtain⟨b,d⟩:=h
  by_cases e:p.1=k
  ·rw[if_pos e,if_pos (b.symm.trans e)];exact⟨b,c⟩
  ·rw[if_neg e,if_neg (fun z=>e (b.trans z))];exact⟨b,d⟩
theorem KV.put {kvs:List (κ×V)}{vs:List (κ×ai)}(r:KV kvs vs)(k:κ){y:V}{u:ai}(a:zQ y u):KV (v8 kvs k y) (stored vs k u):=by
 unfold v8 stored
 rw[r.any k]
 by_cases e:(vs.any fun b=>decide (b.1=k))=true
 ·rw[if_pos e,if_pos e];exact r.repl k a
 ·rw[if_neg e,if_neg e];exact uu r ⟨rfl,a⟩
theorem KV.keys {kvs:List (κ×V)}{vs:List (κ×ai)}(r:KV kvs vs):kvs.map (·.1)=vs.map (·.1):=by
 unfold KV at r
 induction r with
 |nil=>rfl
 |cons h t ih=>rw[aQ,aQ,ih,h.1]
theorem KV.length {kvs:List (κ×V)}{vs:List (κ×ai)}(r:KV kvs vs):kvs.length=vs.length:=de r
end
theorem zAC {P:aH}{w:aW}{k:zL}{u:ai}(r:zQ (kV k) u):(vJ P w).is k u=true:=by
 cases k with
 |inl i=>obtain⟨t,e⟩:=(show∃t,u=Value.int i t from r);subst e;exact zJy P w i t
 |inr x=>obtain⟨t,e⟩:=(show∃t,u=Value.str x t from r);subst e;exact zFS P w x t
theorem zLp {P:aH}{w:aW}{k:yO}{u:ai}(r:zQ (j8 k) u):(k9 P w).is k u=true:=by
 cases k with
 |inl x=>obtain⟨t,e⟩:=(show∃t,u=Value.str x t from r);subst e;show cU x (.str x t)=true;simp[cU]
 |inr b=>have e:u=Value.bool b:=r;subst e;exact beq_self_eq_true _
theorem zGK {P:aH}{w:aW}:∀{ks:List yO}{us:List ai},zJ (ks.map j8) us->ItemsAre (k9 P w) ks us
 | [],_,r=>by rw[mK]at r;cases r;exact .nil
 |k::ks,_,r=>by
  rw[aQ]at r
  cases r with
  |cons h t=>exact .cons (zLp h) (zGK t)
noncomputable abbrev KT (H:Hp):List (List yO×V)->List (List yO×ao×ai)->Prop:=oF fun p q=>p.1=q.1/\H q.2.1=some (.tup (p.1.map j8))/\zQ p.2 q.2.2
theorem KT.val {H:Hp}{kvs:List (List yO×V)}{xs:List (List yO×ao×ai)}(r:KT H kvs xs)(k:List yO):v3 (vY kvs k) ((atKey xs k).map (·.2)):=by
 induction r with
 |nil=>exact True.intro
 | @cons p q ps a h t ih=>
  obtain⟨d,_,f⟩:=h
  by_cases e:p.1=k
  ·have c:q.1=k:=d.symm.trans e
   have b:atKey (q::a) k=some q.2:=by simp[atKey,fU,c]
   rw[zBn e,b];exact f
  ·have c:¬q.1=k:=fun z=>e (d.trans z)
   have b:atKey (q::a) k=atKey a k:=by simp[atKey,fU,c]
   rw[zBo e,b];exact ih
theorem KT.repl {H:Hp}{kvs:List (List yO×V)}{xs:List (List yO×ao×ai)}(r:KT H kvs xs)(k:List yO){y:V}{u:ai}(d:zQ y u) :
  KT H (kvs.map fun b=>if b.1=k then(b.1,y)else b) (xs.map (putAt k u)):=by
 induction r with
 |nil=>exact .nil
 | @cons p q ps g h t ih=>
  rw[aQ,aQ]
  refine .cons ?_ ih
  obtain⟨a,c,f⟩:=h
  unfold putAt
  by_cases e:p.1=k
  ·rw[if_pos e,if_pos (a.symm.trans e)];exact⟨a,c,d⟩
  ·rw[if_neg e,if_neg (fun z=>e (a.trans z))];exact⟨a,c,f⟩
theorem KT.put {H:Hp}{kvs:List (List yO×V)}{xs:List (List yO×ao×ai)}(r:KT H kvs xs)(k:List yO){b:ao}{y:V}{u:ai}(c:H b=some (.tup (k.map j8)))(a:zQ y u) :
  KT H (v8 kvs k y) (storedH xs k b u):=by
 have e:(kvs.any fun d=>decide (d.1=k))=(atKey xs k).isSome:=by
  rw[zGJ,(r.val k).isSome_eq,lG]
 unfold v8 storedH
 rw[e]
 by_cases q:(atKey xs k).isSome=true
 ·rw[if_pos q,if_pos q];exact r.repl k a
 ·rw[if_neg q,if_neg q];exact uu r ⟨rfl,c,a⟩
theorem KT.keeps {H a:Hp}{kvs:List (List yO×V)}{xs:List (List yO×ao×ai)}(r:KT H kvs xs)(c:∀b ys,H b=some (.tup ys)->a b=some (.tup ys)):KT a kvs xs :=
 Paired.mapP r fun _ _ z=>⟨z.1,c _ _ z.2.1,z.2.2⟩
section
variable{P:aH}{w:aW}{H:Hp}{h:bB}{a:ao}
theorem zGL {u:HO}(ok:z8 P w H h)(e:Rd H a u):yP P w H h a u:=e.ok ok
theorem uW {kvs:List (zL×V)}(ok:z8 P w H h)(e:Rd H a (.dK kvs)):kvs.length<=sizeLine/\(a==sysModules)=false/\∃vs,KV kvs vs/\h.DictOf (vJ P w) a vs :=
 show yP P w H h a (.dK kvs)from zGL ok e
theorem kK {kvs:List (zL×V)}(ok:z8 P w H h)(e:H a=some (.dK kvs)):kvs.length<=sizeLine/\(a==sysModules)=false/\∃vs,KV kvs vs/\h.DictOf (vJ P w) a vs:=uW ok (.inl e)
theorem zAg {ks:List yO}(ok:z8 P w H h)(e:H a=some (.tup (ks.map j8))):(tupleKind (k9 P w)).is h ks a:=by
 obtain⟨_,its,r,o,b,c,n,d⟩:=(show yP P w H h a (.tup (ks.map j8))from ok a _ e)
 exact⟨o,its.toArray,n,b,c,d,by simpa using zGK r⟩
theorem zAD {kvs:List (List yO×V)}(ok:z8 P w H h)(e:Rd H a (.dT kvs)):kvs.length<=sizeLine/\(a==sysModules)=false/\
  ∃xs,KT H kvs xs/\h.DictOfH (tupleKind (k9 P w)) a xs:=by
 obtain⟨z,y,xs,r,o,d,ep,f,g,i,j,n⟩:=(show yP P w H h a (.dT kvs)from zGL ok e)
 refine⟨z,y,xs,r,o,d,ep,f,g,i,j,fun x b=>?_,n⟩
 have all:∀{l:List (List yO×V)} {m:List (List yO×ao×ai)},KT H l m->∀x∈m,(tupleKind (k9 P w)).is h x.1 x.2.1:=by
  intro l m q
  induction q with
  |nil=>intro x b;exact nomatch b
  | @cons p q ps s c t ih=>
   intro x b
   rcases aE.mp b with e|b
   ·subst e
    exact zAg ok (by rw[<-c.1];exact c.2.1)
   ·exact ih x b
 exact all r x b
theorem zLq {kvs:List (List yO×V)}(ok:z8 P w H h)(e:H a=some (.dT kvs)):kvs.length<=sizeLine/\(a==sysModules)=false/\
  ∃xs,KT H kvs xs/\h.DictOfH (tupleKind (k9 P w)) a xs:=zAD ok (.inl e)
end
noncomputable def vR (H:Hp)(a:ao)(y:V)(r:Option V):Prop :=
 (∃kvs k,Rd H a (.dK kvs)/\y=kV k/\r=vY kvs k)\/∃kvs k b,Rd H a (.dT kvs)/\y=.ref b/\H b=some (.tup (k.map j8))/\r=vY kvs k
noncomputable def zAE (H:Hp)(a:ao)(y v:V)(H':Hp):Prop :=
 (∃kvs k,H a=some (.dK kvs)/\y=kV k/\kvs.length<sizeLine/\H'=upd H a (.dK (v8 kvs k v)))\/
 ∃kvs k b,H a=some (.dT kvs)/\y=.ref b/\H b=some (.tup (k.map j8))/\kvs.length<sizeLine/\H'=upd H a (.dT (v8 kvs k v))
theorem vR.k {H:Hp}{a:ao}{kvs:List (zL×V)}{k:zL}(e:H a=some (.dK kvs)):vR H a (kV k) (vY kvs k):=.inl ⟨kvs,k,.inl e,rfl,rfl⟩
theorem zAE.k {H:Hp}{a:ao}{kvs:List (zL×V)}{k:zL}{v:V}(e:H a=some (.dK kvs))(hl:kvs.length<sizeLine):zAE H a (kV k) v (upd H a (.dK (v8 kvs k v))):=.inl ⟨kvs,k,e,rfl,hl,rfl⟩
section
variable{X:Cx}{pins:List (ao×Obj)}{σ:St}{H:Hp}{s:aq}{a:ao}{y v:V}{u r:ai}{o:Option V}{A:bK}{E:ai->aq->Prop}
theorem Inv.big (I:Inv X pins σ H s):sysModules<s.heap.objs.size:=by
 have h:mainGlobals<s.heap.objs.size:=(I.mod.glob.keeps I.bk).lt
 exact mM (by decide) h
theorem zLr {Q:ai->aq->Prop}(q:A.units+1<cLine)(I:Inv X pins σ H s)(g:vR H a y (some v))(n:zQ y u)(h:∀d s',Inv X pins σ H s'->zQ v d->Q d s') :
  wpAny (model X.prog X.w) A (getItem (.ref a) u) Q E s:=by
 rcases g with⟨kvs,k,e,f,l⟩|⟨kvs,k,b,e,f,t,l⟩
 ·subst f
  obtain⟨z,hd,vs,rel,i⟩:=uW I.hok e
  obtain⟨d,j,c⟩:=v3.some_of (v:=v) (o:=valueAt vs k) (by rw[l];exact rel.val k)
  exact wpAny_getItem_of (zAC n) i.mapOf j (h d _ (I.tok _) c)
 ·subst f
  cases(show u=Value.ref b from n)
  obtain⟨z,hd,xs,rel,i⟩:=zAD I.hok e
  obtain⟨d,j,c⟩:=v3.some_of (v:=v) (o:=(atKey xs k).map (·.2)) (by rw[l];exact rel.val k)
  obtain⟨p,x,m⟩:=iG.mp j
  refine wpAny_getItem_heap (fQ q) (zAg I.hok t) i x ?_
  rw[m]
  exact h d _ (I.tok _) c
theorem zLs {Q:ai->aq->Prop}(i:A.units+1<cLine)(I:Inv X pins σ H s)(g:vR H a y o)(f:zQ y u)(h:∀s',Inv X pins σ H s'->Q (.bool o.isSome) s') :
  wpAny (model X.prog X.w) A (compareOp .In u (.ref a)) Q E s:=by
 rcases g with⟨kvs,k,e,c,l⟩|⟨kvs,k,b,e,c,j,l⟩
 ·subst c
  obtain⟨z,hd,vs,rel,d⟩:=uW I.hok e
  refine wpAny_in_of (zAC f) hd d.mapOf ?_
  rw[<- (rel.val k).isSome_eq,<-l]
  exact h _ (I.tok _)
 ·subst c
  cases(show u=Value.ref b from f)
  obtain⟨z,hd,xs,rel,d⟩:=zAD I.hok e
  refine wpAny_in_heap (fQ i) (zAg I.hok j) hd d ?_
  have q:=(rel.val k).isSome_eq
  rw[lG]at q
  rw[<-q,<-l]
  exact h _ (I.tok _)
theorem zLt {Q:ai->aq->Prop}(i:A.units+1<cLine)(I:Inv X pins σ H s)(g:vR H a y o)(f:zQ y u)(h:∀s',Inv X pins σ H s'->Q (.bool (!o.isSome)) s') :
  wpAny (model X.prog X.w) A (compareOp .NotIn u (.ref a)) Q E s:=by
 rcases g with⟨kvs,k,e,c,l⟩|⟨kvs,k,b,e,c,j,l⟩
 ·subst c
  obtain⟨z,hd,vs,rel,d⟩:=uW I.hok e
  refine wpAny_notIn_of (zAC f) hd d.mapOf ?_
  rw[<- (rel.val k).isSome_eq,<-l]
  exact h _ (I.tok _)
 ·subst c
  cases(show u=Value.ref b from f)
  obtain⟨z,hd,xs,rel,d⟩:=zAD I.hok e
  refine wpAny_notIn_heap (fQ i) (zAg I.hok j) hd d ?_
  have q:=(rel.val k).isSome_eq
  rw[lG]at q
  rw[<-q,<-l]
  exact h _ (I.tok _)
theorem zBp {h':bB}{t':Nat}{c:HO}(I:Inv X pins σ H s)(d:Mut (H a))(f:e7 a s.heap h')(he:∃q,h'.get? a=some q)(new:yP X.prog X.w (upd H a c) h' a c) :
  Inv X pins σ (upd H a c) {s with heap:=h',toks:=t'} :=
 I.write (x:=a) (e:=a) d (.inl rfl) (fun b q g z=>(f.2 b g).trans z) he new
theorem zBq {P:aH}{w:aW}{b:Hp}{h':bB}{kvs:List (zL×V)}{vs:List (zL×ai)}(z:kvs.length<=sizeLine)(hd:(a==sysModules)=false)(rel:KV kvs vs)(c:h'.DictOf (vJ P w) a vs) :
  yP P w b h' a (.dK kvs):=⟨z,hd,vs,rel,c⟩
theorem zLu {p:Hp}{Q:Unit->aq->Prop}(D:A.units+1<cLine)(I:Inv X pins σ H s)(g:zAE H a y v p)(t:zQ y u)(x:zQ v r)(h:∀s',Inv X pins σ p s'->Q () s') :
  wpAny (model X.prog X.w) A (setItem (.ref a) u r) Q E s:=by
 rcases g with⟨kvs,k,e,i,l,j⟩|⟨kvs,k,b,e,i,B,l,j⟩
 ·subst i j
  obtain⟨z,hd,vs,rel,m⟩:=kK I.hok e
  have hz:vs.length<=sizeLine:=by rw[<-rel.length];exact z
  have hl:(v8 kvs k v).length<=sizeLine:=by have:=zDD kvs k v;omega
  refine wpAny_setItem_pairs (hsz:=hz) (zAC t) m fun h' d n=>h _ ?_
  have he:∃q,h'.get? a=some q:=let⟨q,_,_,f,_⟩:=d;⟨q,f⟩
  exact zBp I (by rw[e];exact True.intro) n he (zBq hl hd (rel.put k x) d)
 ·subst i j
  cases(show u=Value.ref b from t)
  obtain⟨z,hd,xs,rel,m⟩:=zLq I.hok e
  have hz:xs.length<=sizeLine:=by rw[<-de rel];exact z
  have hl:(v8 kvs k v).length<=sizeLine:=by have:=zDD kvs k v;omega
  refine wpAny_setItem_heap (hsz:=hz) (fQ D) (zAg I.hok B) m fun h' d n=>h _ ?_
  obtain⟨q,F,ep,f,G,J,L,_,M⟩:=d
  refine zBp I (by rw[e];exact True.intro) n ⟨q,f⟩ ⟨hl,hd,_,(rel.put k B x).keeps fun c ys C=>?_,q,F,ep,f,G,J,L,M⟩
  rw[zG (zBg C e (fun z=>nomatch z))]
  exact C
end
noncomputable def zGM (i:bF):Prop:=∀ov iv,subscripted i false ov iv=operate [ov,iv] (getItem ov iv)
theorem zLv {prog:aH}{w:aW}{A:bK}{E:ai->aq->Prop}{s:aq}{env:Env}{value slice:bF}{pos:Pos}{T id:String}{Q:ai->aq->Prop}
  (hl:typeLookup (.type T) "__getitem__"=pure (some (.builtin id))) (f:zGM slice)
  (h:wpAny (model prog w) A (eval value env) (fun o c=>wpAny (model prog w) A (eval slice env) (fun i a=>a.TypeIs o T/\wpAny (model prog w) A (getItem o i) Q E a) E c) E s) :
  wpAny (model prog w) A (eval (.Subscript value slice pos) env) Q E s:=by
 refine kj (cK h (fun o c h₁=>cK h₁ (fun i a b=>?_) fun _ _ x=>x) fun _ _ x=>x)
 obtain⟨d,b⟩:=b
 unfold subscriptTail
 refine af ?_
 rw[getitemInPython_of_ne d.not_modules]
 refine af (qr d hl ?_)
 have fin:wpAny (model prog w) A (subscripted slice false o i) (fun r e=>wpAny (model prog w) A (letTemporaryGo value o r>>=fun _=>pure r) Q E e) E a:=by
  rw[f o i]
  exact wpAny_operating (cK b (fun r e g=>af (wpAny_letTemporaryGo (ar g))) fun _ _ x=>x)
 first
  |exact ar (af fin)
  |exact af (ar (af fin))
  |exact af fin
theorem zLw {X:Cx}{c:List (ao×Obj)}{σ:St}{H:Hp}{s:aq}{a:ao}{y:V}{o:Option V}(I:Inv X c σ H s)(g:vR H a y o):s.TypeIs (.ref a) "dict" :=by
 rcases g with⟨kvs,k,e,_,_⟩|⟨kvs,k,b,e,_,_,_⟩
 ·obtain⟨_,_,vs,_,d⟩:=uW I.hok e
  exact d.typeIs
 ·obtain⟨_,_,xs,_,d⟩:=zAD I.hok e
  exact d.typeIs
noncomputable def zLx (td ty:TE):TE:=fun σ H Q=>td σ H fun x H1=>ty σ H1 fun y H2=>∃a v,x=.ref a/\vR H2 a y (some v)/\Q v H2
noncomputable def zLy (ty td:TE):TE:=fun σ H Q=>ty σ H fun y H1=>td σ H1 fun x H2=>∃a o,x=.ref a/\vR H2 a y o/\Q (.bl o.isSome) H2
noncomputable def zLz (ty td:TE):TE:=fun σ H Q=>ty σ H fun y H1=>td σ H1 fun x H2=>∃a o,x=.ref a/\vR H2 a y o/\Q (.bl (!o.isSome)) H2
noncomputable def zGN (td ty tv:TE):TS:=fun D σ H=>tv σ H fun v H1=>td σ H1 fun x H2=>ty σ H2 fun y H3=>∃a H4,x=.ref a/\zAE H3 a y v H4/\D.nx σ H4
section
variable{X:Cx}{o i e value:bF}{pos pos' tpos:Pos}{td ty tv:TE}
theorem zAh (f:X.A.units+1<cLine)(j:PE X o td)(hi:PE X i ty)(l:zGM i):PE X (.Subscript o i pos) (zLx td ty):=by
 intro b s σ H Q I h
 refine zLv PySem.F.slot_dict_getitem.lookup l (zH (j b s σ H _ I h) fun u m ⟨x,n,p,q,r⟩=>zH (hi b m σ n _ p r) fun C D zq=>?_)
 obtain⟨y,t,d,w,a,v,ex,g,z⟩:=zq
 subst ex
 obtain rfl:u=Value.ref a:=q
 exact⟨zLw d g,zLr f d g w fun E G B c=>⟨v,t,B,c,z⟩⟩
theorem zMA (c:X.A.units+1<cLine)(hi:PE X i ty)(d:PE X o td):PC X .In i o (zLy ty td):=by
 intro b s σ H Q I h
 refine zH (hi b s σ H _ I h) fun z f ⟨y,j,l,m,n⟩=>zH (d b f σ j _ l n) fun u B zq=>?_
 obtain⟨x,p,q,r,a,t,ex,g,v⟩:=zq
 subst ex
 obtain rfl:u=Value.ref a:=r
 exact zLs c q g m fun C w=>⟨.bl t.isSome,p,w,rfl,v⟩
theorem zMB (c:X.A.units+1<cLine)(hi:PE X i ty)(d:PE X o td):PC X .NotIn i o (zLz ty td):=by
 intro b s σ H Q I h
 refine zH (hi b s σ H _ I h) fun z f ⟨y,j,l,m,n⟩=>zH (d b f σ j _ l n) fun u B zq=>?_
 obtain⟨x,p,q,r,a,t,ex,g,v⟩:=zq
 subst ex
 obtain rfl:u=Value.ref a:=r
 exact zLt c q g m fun C w=>⟨.bl (!t.isSome),p,w,rfl,v⟩
theorem zDE (c:X.A.units+1<cLine)(d:PE X o td)(hi:PE X i ty)(hv:PE X value tv)(f:swapsWith value (some (.Subscript o i pos')) pos.line X.env=pure false) :
  PS X (.Assign [.Subscript o i pos'] value pos) (zGN td ty tv):=by
 intro b s σ H D I h
 refine wpAny_Assign_Subscript (zH (hv b s σ H _ I h) fun r j ⟨v,l,m,n,p⟩=>zH (d b j σ l _ m p) fun u q ⟨x,t,w,z,B⟩=>zH (hi b q σ t _ w B) fun L M zq=>?_) f
 obtain⟨y,N,C,E,a,F,ex,g,G⟩:=zq
 subst ex
 obtain rfl:u=Value.ref a:=z
 exact zLu c C g E n fun O J=>⟨σ,F,J,G⟩
end
theorem zGO {P:aH}{w:aW}{H:Hp}(h:bB)(a:sysModules<h.objs.size):yP P w H (h.push {cls:=.type "dict",data:=.dict #[]}) h.objs.size (.dK []) :=
 ⟨bo _,beq_eq_false_iff_ne.mpr (dz (aV a)),[],.nil,qt h⟩
noncomputable def zMC:TE:=fun _ H Q=>∀p,H p=none->Q (.ref p) (upd H p (.dK []))
section
variable{X:Cx}{pos:Pos}
theorem zBr:PE X (.Dict [] [] pos) zMC:=fun b s σ H Q I h=>
 wpAny_Dict_empty ⟨.ref s.heap.objs.size,_,I.laid (a:=s.heap.objs.size) (o:=.dK []) (t':=s.toks) (fun _ _ q=>ae _ q) (aA _) (zGO s.heap I.big),rfl,h _ (I.hok.fresh (aA _))⟩
end
noncomputable def zGP:List (TE×TE)->St->Hp->(List (V×V)->Hp->Prop)->Prop
 | [],_,H,Q=>Q [] H
 |(tk,tv)::r,σ,H,Q=>tk σ H fun x H1=>tv σ H1 fun y H2=>zGP r σ H2 fun ps H3=>Q ((x,y)::ps) H3
noncomputable abbrev VV:List (V×V)->List (ai×ai)->Prop:=oF fun p q=>zQ p.1 q.1/\zQ p.2 q.2
noncomputable def PPs (X:Cx)(pos:Pos)(keys:List (Option bF))(values:List bF)(trs:List (TE×TE)):Prop :=
 ∀(pins:List (ao×Obj)) (s:aq) (σ:St) (H:Hp) (Q:List (V×V)->Hp->Prop),Inv X pins σ H s->zGP trs σ H Q->
  wpAny (model X.prog X.w) X.A (evalPairs (pairTrees keys values X.env pos)) (fun vs s'=>∃ps H',Inv X pins σ H' s'/\VV ps vs/\Q ps H') X.xe s
theorem zMD {X:Cx}{pos:Pos}:PPs X pos [] [] []:=fun a s σ H Q I h=>pairTrees_nil_walk ⟨[],H,I,.nil,h⟩
theorem zME {X:Cx}{pos:Pos}{k v:bF}{ks:List (Option bF)}{vs:List bF}{tk c:TE}{b:List (TE×TE)}(d:PE X k tk)(hv:PE X v c)(e:PPs X pos ks vs b) :
  PPs X pos (some k::ks) (v::vs) ((tk,c)::b):=fun a s σ H Q I h=>
 pairTrees_cons_walk (zH (d a s σ H _ I h) fun u f ⟨x,g,i,j,l⟩=>zH (hv a f σ g _ i l) fun w2 m ⟨y,n,o,p,q⟩=>
  zH (e a m σ n _ o q) fun ws z ⟨ps,r,t,rel,w⟩=>⟨(x,y)::ps,r,t,.cons ⟨j,p⟩ rel,w⟩)
structure M2 (X:Cx) (o:bF) (m:Str) (apos:Pos) (e f:bF) (cpos:Pos):Prop where
 base:attributeBase o m X.env (eval o X.env)=eval o X.env
 few:((backTo cpos (starEach [e,f] X.env)).all (fun x=>!x.1)&& (backToKw cpos (keywordEach [] X.env)).all (fun x=>x.1.isSome)
  &&decide (([e,f]:List bF).length+([]:List rl).length+(if([]:List rl).isEmpty then 0 else 1)<30))=true
 line:(apos.endLine==cpos.line)=true
 trees:backTo cpos (starEach [e,f] X.env)=[(false,eval e X.env),(false,eval f X.env)]
noncomputable def IsD (H:Hp)(a:ao):Prop:=(∃kvs,Rd H a (.dK kvs))\/∃kvs,Rd H a (.dT kvs)
theorem zGQ {X:Cx}{f:List (ao×Obj)}{σ:St}{H:Hp}{s:aq}{a:ao}(I:Inv X f σ H s)(d:IsD H a) :
  s.TypeIs (.ref a) "dict"/\ (∀b,Value.ref a=.ref b->∃c,s.heap.get? b=some c/\c.dict=none)/\(a==sysModules)=false:=by
 rcases d with⟨kvs,e⟩|⟨kvs,e⟩
 ·obtain⟨_,hd,vs,_,g⟩:=uW I.hok e
  refine⟨g.typeIs,fun b q=>?_,hd⟩
  cases q
  obtain⟨c,_,_,h,i,_⟩:=g
  exact⟨c,h,i.2.1⟩
 ·obtain⟨_,hd,xs,_,g⟩:=zAD I.hok e
  refine⟨g.typeIs,fun b q=>?_,hd⟩
  cases q
  obtain⟨c,_,_,h,i,_⟩:=g
  exact⟨c,h,i.2.1⟩
section
variable{X:Cx}{pins:List (ao×Obj)}{σ:St}{H:Hp}{s:aq}{a:ao}{y d:V}{u r:ai}{o:Option V}{A:bK}{E:ai->aq->Prop}
theorem zMF {Q:ai->aq->Prop}(m:A.units+1<cLine)(I:Inv X pins σ H s)(g:vR H a y o)(i:zQ y u)(rd:zQ d r)(h:∀j s',Inv X pins σ H s'->zQ (o.getD d) j->Q j s') :
  wpAny (model X.prog X.w) A (call (.builtin "dict.get") [.ref a,u,r]) Q E s:=by
 rcases g with⟨kvs,k,e,f,l⟩|⟨kvs,k,b,e,f,n,l⟩
 ·subst f
  obtain⟨z,hd,vs,rel,c⟩:=uW I.hok e
  refine iI iS c.typeIs mN (lZ _ _ _) (meets_dict_get_default (vJ X.prog X.w) a (zAC i) hd r) ⟨_,c.mapOf,h _ _ (I.tok _) ?_⟩
  rw[l]
  exact(rel.val k).getD rd
 ·subst f
  cases(show u=Value.ref b from i)
  obtain⟨z,hd,xs,rel,c⟩:=zAD I.hok e
  refine iI iS c.typeIs mN (lZ _ _ _) (meetsH_dict_get_default (tupleKind (k9 X.prog X.w)) a b hd r) ⟨fQ m,k,xs,zAg I.hok n,c,h _ _ (I.tok _) ?_⟩
  rw[l]
  exact(rel.val k).getD rd
end
noncomputable def zGR (td ty tx:TE):TE:=fun σ H Q=>td σ H fun x H1=>∃a,x=.ref a/\IsD H1 a/\ty σ H1 fun y H2=>tx σ H2 fun z H3=>∃o,vR H3 a y o/\Q (o.getD z) H3
section
variable{X:Cx}{o e f:bF}{apos cpos:Pos}{td ty tx:TE}
theorem zMG (j:X.A.units+1<cLine)(l:PE X o td)(he:PE X e ty)(hf:PE X f tx)(m:M2 X o "get" apos e f cpos):PE X (.Call (.Attribute o "get" apos) [e,f] [] cpos) (zGR td ty tx):=by
 intro b s σ H Q I h
 refine wpAny_Call_method m.base m.few m.line ck iS PySem.F.type_dict_get (zH (l b s σ H _ I h) fun u n zq=>?_)
 obtain⟨x,p,i,q,a,ex,d,r⟩:=zq
 subst ex
 obtain rfl:u=Value.ref a:=q
 obtain⟨t,v,_⟩:=zGQ i d
 refine⟨t,v,?_⟩
 rw[m.trees]
 refine fP rfl (nH (d7 (zH (he b n σ p _ i r) fun O w ⟨y,B,C,D,E⟩=>
  d7 (zH (hf b w σ B _ C E) fun P R ⟨z,G,J,L,T,g,M⟩=>gb ?_))))
 exact zMF j J g D L fun U W N c=>⟨_,G,N,c,M⟩
end
end L2
namespace Att
open PySem PySem.W PySem.Calls PyProof.Rows
theorem zMH {P:pS}{h:bB}:∀(ns:List Int) (vs:List ai),WellAll P h vs (ns.map WData.int)->rm vs ns:=by
 intro ns
 induction ns with
 |nil=>
  intro vs w
  rw[mK]at w
  cases w
  exact .nil
 |cons n ns ih=>
  intro vs w
  rw[aQ]at w
  cases w with
  |cons a b=>
   cases a
   exact .cons _ _ (ih _ b)
theorem zMI {l:OpenLaw}{n:Nat}(hn:l.most=some n){P:pS}{h:bB}{args:List WData}{b:List ai}
  (c:l.row.toRowW.claim.pre args=true) (j:WellAll P h b args) :
  ∃a vs ns,b=[Value.ref a]/\args=[WData.list (ns.map WData.int)]/\h.get? a=some {cls:=.type "list",data:=.seq vs.toArray}/\rm vs ns/\ns.length<=n:=by
 have m:WShape.hasAll [] args [.list .int]=true:=(pre_splitW c).1
 have o:l.pre.holds [] {args:=args}=true:=(pre_splitW c).2
 obtain⟨d,r,rfl,p,s⟩:=hasAllW_cons m
 obtain rfl:=hasAllW_nil s
 obtain⟨xs,rfl,t⟩:=hasW_list p
 obtain⟨ns,rfl⟩:=items_int t
 have e:ns.length<=n:=by
  unfold OpenLaw.pre at o
  have g:(WTm.not (.lt (.lit (.int (n:Int))) (.len (.arg 0)))).holds [] {args:=[.list (ns.map .int)]}=true:=by
   have g:=(holds_andW o).1
   rw[hn]at g
   exact g
  have i:=condW_of g (w_not (w_lt w_lit (w_len_list (w_arg rfl))))
  rw[ah]at i
  refine Nat.le_of_not_lt fun q=>?_
  have u:(n:Int)<((ns.length:Nat):Int):=by omega
  first
   |(rw[decide_eq_true u]at i;exact absurd i (by decide))
   |(simp at i;omega)
 cases j with
 |cons w1 w2=>
  cases w2
  cases w1 with
  |list v f=>exact⟨_,_,ns,rfl,rfl,v,zMH ns _ f,e⟩
theorem zMJ (l:OpenLaw)(args:List WData):l.row.toRowW.claim.post args (.bool true) args=true :=
 postW_of (r:=l.row.toRowW) (X:=(true==true))
  (show vt [] (.bool true) .bool=true by first|rfl|decide|simp[vt,WShape.arms,WShape.armsAll])
  (show(WTm.eq .res (.lit (.bool true))).value [] {args:=args,res:=some (.bool true),after:=args}=some (.bool (true==true))from w_eq_bool (w_res rfl) w_lit) rfl
theorem attach_call {l:OpenLaw}{n:Nat}{q:aH}{loose:List Str}{XP:(Str->Option ai)->bB->Prop}{YP:aW->bB->Prop}{d:DefRec}
  (hn:l.most=some n) (p:d.params.defaults=[])
  (call:∀(w:aW) (s₀ b:aq) (mg mb:Str->Option ai) (g:ao) (o:Obj) (pm m c:ai) (a:ao) (vs:List ai) (ns:List Int),
   Ground q loose [] XP w s₀ mg mb b.heap->YP w b.heap->
   b.heap.get? g=some o->o.data=.func (docDef d.name d.params d.body d.scope pm m c)->b.heap.CodeRec m d.name->mg d.name=some (.ref g)->
   b.heap.get? a=some {cls:=.type "list",data:=.seq vs.toArray}->rm vs ns->ns.length<=n->b.gens=#[]->
   codeAny (model l.prog w) callerA (.call (.ref g) ⟨[.ref a],[]⟩) (fun r s'=>r=.ok (.ret (.bool true))/\OldK b.heap s'.heap/\s'.os=b.os/\lD s'.gens) b) :
  WalkO q loose XP YP l.row.toRowW d [] (fun f vs=>rJ f vs):=by
 intro w s₀ b mg mb G Y g o pm m c z kV A hd s v t B args x as h y C u D
 obtain rfl:z=.none:=Dflts.none v p
 obtain rfl:kV=.none:=Dflts.noKw v
 obtain⟨a,vs,ns,rfl,rfl,i,e,j⟩:=zMI hn h u
 refine enter_call (eE (call w s₀ b mg mb g o pm m c a vs ns G Y A (fd_plain hd) s t i e j B) fun r s' E=>?_)
 obtain⟨rfl,F,H,I⟩:=E
 exact⟨.inl ⟨.bool true,.bool true,[],rfl,fun _=>rfl,.bool true,zMJ l _,fun _=>⟨List.Pairwise.nil,fun _ J=>(nomatch J)⟩⟩,F,H,I⟩
end Att
namespace L2
open PySem PySem.Spec PyProof.Rows
theorem zGS:∀{vs:List ai}{ns:List Int},rm vs ns->zJ (ns.map V.int) vs
 |_,_,.nil=>.nil
 |_,_,.cons n t h=>.cons ⟨t,rfl⟩ (zGS h)
noncomputable abbrev zZ:jV:=fun _ _ _ _ _ _=>False
noncomputable abbrev E0:XK:=fun _ _ _=>False
theorem zBs {X:Cx}:g8 zZ X E0:=fun _ _ _ _ _ _ _ h=>h.elim
structure Fun (K:ag) (x qual:Str) (st:cT) (f:ao) (fd:aZ):Prop where
 ex:∃(oc:ai) (od:Option ao) (kV doc pm:ai) (an:Option ao) (cdv ct:ai) (osl:Array (Option ai)),
  fd=c8 x qual (defArgs st) (defBody st) (defScope st) .none kV doc pm an cdv ct/\K.lookup f=some ⟨oc,od,.func fd,osl⟩/\ef K cdv qual=true
 kp:cy K (.ref f)=true
section
variable{P:aH}{w:aW}{K:ag}{mg:Str->Option ai}{base:bB}
theorem Fun.ok {x a:Str}{st:cT}{f:ao}{fd:aZ}{N ps:List Str}{k:Nat}{sp:Sp}(F:Fun K x a st f fd)(S:FnScope N ps (defScope st))(len:∀vs H Q E,sp vs H Q E->vs.length=ps.length)
  (c:∀(b:ai) (A:bK) (outer:List Env) (s:aq) (H:Hp) (vs:List V) (Q:VK) (E:XK),Room k (A.deeper (envOfC a (defScope st) s.heap.objs.size f b))->sp vs H Q E->
   ∃t,qA (g9 zZ P w K mg base N a (defScope st) f b A outer s H E).nox (defBody st) t/\t {nx:=fun _ g=>Q .non g,rt:=Q} (start N vs) H):FnOk P w K mg base zZ (k+1) f fd ps sp:=by
 obtain⟨oc,od,kV,i,pm,m,b,ct,j,rfl,lk,d⟩:=F.ex
 refine zFt lk d S len fun A outer s H vs Q E l e=>?_
 obtain⟨t,h,q⟩:=c b A outer s H vs Q E l e
 exact⟨t,h.nox,q⟩
theorem Fun.binds {x a:Str}{st:cT}{f:ao}{fd:aZ}{ps:List Str}(F:Fun K x a st f fd)
  (h:∀(kV b pm:ai) (d:Option ao) (c ct:ai) (us:List ai),us.length=ps.length->bindArgs (c8 x a (defArgs st) (defBody st) (defScope st) .none kV b pm d c ct) ⟨us,[]⟩=pure (ps.zip us)):v7 K fd ps []:=by
 obtain⟨oc,od,kV,b,pm,d,c,ct,e,rfl,lk,g⟩:=F.ex
 exact .all (h kV b pm d c ct)
theorem zBN {x a:Str}{st:cT}{f:ao}{oc:ai}{od g:Option ao}{e:Array (Option ai)}{kV d pm b ct:ai}(l:K.lookup f=some ⟨oc,od,.func (c8 x a (defArgs st) (defBody st) (defScope st) .none kV d pm g b ct),e⟩)
  (c:ef K b a=true) (k:cy K (.ref f)=true):Fun K x a st f (c8 x a (defArgs st) (defBody st) (defScope st) .none kV d pm g b ct):=⟨⟨oc,od,kV,d,pm,g,b,ct,e,rfl,l,c⟩,k⟩
end
theorem zAi {A:bK}{k:Nat}(a:Room k A):A.units+1<cLine:=Nat.lt_of_le_of_lt (Nat.add_le_add_left (by decide:1<=64) _) a.units
section
variable{X:Cx}
theorem pv (i:Nat){x:Str}{pos:Pos}(b:X.N[i]?=some x:=by rfl)(hv:Vis X.env.scope x:=by first|exact Or.inl rfl|exact Or.inr (Or.inl rfl)|exact Or.inr (Or.inr rfl))(hd:(x==("__debug__" : Str))=false:=by decide)
  (a:(x==("__classdict__" : Str))=false:=by decide):PE X (.Name x pos) (gQ i):=zKF b hv hd a
end
theorem vB {A B:Prop}(h:B):if false=true then A else B:=by
 rw[if_neg aT]
 exact h
theorem qT {A B:Prop}(h:A):if true=true then A else B:=by
 rw[if_pos rfl]
 exact h
theorem zGT {c A B:Prop} [Decidable c] (a:c->A)(b:¬c->B):if c then A else B:=by
 by_cases h:c
 ·rw[if_pos h]
  exact a h
 ·rw[if_neg h]
  exact b h
theorem jX {c A B:Prop} [Decidable c] (a:c)(h:B):if(!decide c)=true then A else B:=by
 rw[decide_eq_true a]
 exact vB h
noncomputable def zA (H H':Hp):Prop:=∀b o,H b=some o->H' b=some o
theorem zA.refl (H:Hp):zA H H:=fun _ _ h=>h
theorem zA.trans {H d e:Hp}(a:zA H d)(b:zA d e):zA H e:=fun c o h=>b c o (a c o h)
theorem zA.free {H a:Hp}(e:zA H a){l:ao}(h:a l=Option.none):H l=Option.none:=by
 cases q:H l with
 |none=>rfl
 |some o=>
  rw[e l o q]at h
  cases h
theorem zA.seq {K:ag}{H b:Hp}{a:ao}{xs:List V}(e:zA H b)(h:z6 K H a xs):z6 K b a xs:=by
 rcases h with(h|⟨o,h⟩)|h
 ·exact .inl (.inl (e _ _ h))
 ·exact .inl (.inr ⟨o,e _ _ h⟩)
 ·exact .inr h
end L2
end
section
namespace L2
open PySem
section
variable{env:Env}
theorem zDF:∀(l:List (Str×kg)) (d:List (Str×ao)),(∀x∈l,x.2=.free->∃c,env.cells.lookup x.1=some c)->(∀x c,d.lookup x=some c->env.cells.lookup x=some c)->
  ∃f,(forIn l d (fun x r=>if(x.2==NameKind.free)=true then do let a<-cellOf env x.1;pure (ForInStep.yield ((x.1,a)::r))else pure (ForInStep.yield r)):Sem (List (Str×ao)))=pure f/\
   (∀x c,f.lookup x=some c->env.cells.lookup x=some c)/\∀x,((x,NameKind.free)∈l\/∃c,d.lookup x=some c)->∃c,f.lookup x=some c
 | [],d,_,j=>⟨d,rfl,j,fun x h=>h.elim (fun z=>by cases z) id⟩
 |(n,k)::l,d,h,j=>by
  have hl:∀x∈l,x.2=.free->∃c,env.cells.lookup x.1=some c:=fun x b=>h x (aj _ b)
  rw[eZ]
  by_cases m:k=.free
  ·subst m
   obtain⟨c,s⟩:=h (n,.free) (au ..) rfl
   obtain⟨f,e,o,p⟩:=zDF l ((n,c)::d) hl fun x q z=>by
    by_cases b:x=n
    ·subst b
     rw[iT]at z
     cases z;exact s
    ·have g:(x==n)=false:=by simpa using b
     rw[bV,g]at z
     exact j x q z
   refine⟨f,?_,o,fun x b=>p x ?_⟩
   ·have t:cellOf env n=pure c:=by unfold cellOf;rw[s]
    simp only[beq_self_eq_true,if_true,t,pure_bind]
    exact e
   ·rcases b with b|⟨q,b⟩
    ·rcases aE.mp b with b|b
     ·have:x=n:=(bY b).1
      subst this
      exact .inr ⟨c,iT⟩
     ·exact .inl b
    ·by_cases i:x=n
     ·subst i;exact .inr ⟨c,iT⟩
     ·have g:(x==n)=false:=by simpa using i
      exact .inr ⟨q,by rw[bV,g];exact b⟩
  ·obtain⟨f,e,o,p⟩:=zDF l d hl j
   have u:(k==NameKind.free)=false:=by simpa using m
   refine⟨f,?_,o,fun x b=>p x ?_⟩
   ·simp only[u,eJ,if_false,pure_bind]
    exact e
   ·rcases b with b|b
    ·rcases aE.mp b with b|b
     ·exact absurd (bY b).2.symm m
     ·exact .inl b
    ·exact .inr b
theorem zGU {scope:fS}(h:∀x∈scope.names,x.2=.free->∃c,env.cells.lookup x.1=some c) :
  ∃a,closureFor scope env=pure a/\(∀x c,a.lookup x=some c->env.cells.lookup x=some c)/\∀x,(x,NameKind.free)∈scope.names->∃c,a.lookup x=some c:=by
 obtain⟨a,e,b,d⟩:=zDF scope.names [] h (fun x c z=>by simp at z)
 refine⟨a,?_,b,fun x f=>d x (.inl f)⟩
 unfold closureFor
 dsimp only
 refine Eq.trans (congrArg (· >>=pure) ?_) (Eq.trans (congrArg (· >>=pure) e) (by simp))
 rfl
end
section
variable{prog:aH}{w:aW}{A:bK}{R:oH->aq->Prop}{s:aq}
theorem zGV {a target iter:bF}{b:List bF}{scope:fS}{pos:Pos}{g d:ai}{env:Env}(J:Nat->aq->Prop)
  (e:∀n s,J n s->wpAny (model prog w) A (pyNext g) (fun r i=>match r with
   |none=>R (.ok .next) i
   |some v=>wpAny (model prog w) A (letOwnedTupleGo target g v) (fun _ l=>wpAny (model prog w) A (assign target env v) (fun _ o=>
     wpAny (model prog w) A (forIn b true fun c r=>if r=true then do let ok<-isTrue c env (eval c env);pure (ForInStep.yield ok)else pure (ForInStep.yield r)) (fun ok j=>
      if ok=true then wpAny (model prog w) A (eval a env) (fun x p=>wpAny (model prog w) A (call (.builtin "list.append") [d,x]) (fun _ u=>∃m,m<n/\J m u) (fun _ _=>False) p) (fun _ _=>False) j
      else∃m,m<n/\J m j) (fun _ _=>False) o) (fun _ _=>False) l) (fun _ _=>False) i) (fun _ _=>False) s)
  (n:Nat) (h:J n s):codeAny (model prog w) A (.compLoop (.ListComp a [⟨target,iter,b,0⟩] scope pos) 0 g d env) R s:=by
 refine codeAny_loop rfl J (fun n s B=>?_) n h
 show wpAny _ A ((compTurn (.ListComp a [⟨target,iter,b,0⟩] scope pos) 0 g d env).onRaise (fun x=>noteFrame x env>>=fun _=>theTreesLotGoes x)) _ _ s
 refine wpAny_noted ?_
 have no:∀{α:Type} {t:Sem α} {Q:α->aq->Prop} {E:ai->aq->Prop} {s:aq},wpAny (model prog w) A t Q (fun _ _=>False) s->wpAny (model prog w) A t Q E s:=fun h=>cK h (fun _ _ q=>q) fun _ _ f=>f.elim
 rw[compTurn_list]
 refine af (oq (af (no (cK (e n s B) (fun r i y=>?_) fun _ _ f=>f))))
 cases r with
 |none=>exact ar y
 |some v=>
  refine af (no (cK y (fun _ l C=>?_) fun _ _ f=>f))
  refine af (no (cK C (fun _ o D=>?_) fun _ _ f=>f))
  refine af (no (cK D (fun ok j z=>?_) fun _ _ f=>f))
  cases ok with
  |false=>exact ar ⟨rfl,z⟩
  |true=>
   refine af (af (no (cK z (fun x p F=>?_) fun _ _ f=>f)))
   exact af (no (cK F (fun _ u G=>ar (ar ⟨rfl,G⟩)) fun _ _ f=>f))
end
end L2
end
section
namespace L2
open PySem PySem.Spec PyProof.Rows
theorem z8.track {P:aH}{w:aW}{H:Hp}{h:bB}{a:ao}{o:HO}(x:z8 P w H h)(hn:H a=none)(new:yP P w (upd H a o) h a o):z8 P w (upd H a o) h:=fun b u e=>by
 by_cases d:b=a
 ·subst d;rw[zF]at e;cases e;exact new
 ·rw[zG d]at e
  refine(x b u e).stay (fun c v _ q=>q) (fun c q=>?_) fun c xs q=>?_
  ·rw[zG (yF q hn)];exact q
  ·rw[zG (yF q hn)];exact q
theorem z8.but {P:aH}{w:aW}{H:Hp}{h h':bB}{C:ao}(x:z8 P w H h)(hn:H C=none)(k:∀b u,b≠C->h.get? b=some u->h'.get? b=some u):z8 P w H h':=fun b u e=>by
 refine(x b u e).stay (fun c v a q=>k c v ?_ q) (fun _ q=>q) fun _ _ q=>q
 rintro rfl
 rcases a with z|z
 ·rw[z,e]at hn;cases hn
 ·rw[z]at hn;cases hn
theorem zGW {env:Env}:∀{names:List (Str×kg)}{x:Str},names.lookup x=some .free->
  (names.map fun(n,k)=>if(k==NameKind.free&&env.scope.kind== .function&&env.kindOf n==some .cell)then(n,NameKind.cell)else(n,k)).lookup x=some .cell\/
  (names.map fun(n,k)=>if(k==NameKind.free&&env.scope.kind== .function&&env.kindOf n==some .cell)then(n,NameKind.cell)else(n,k)).lookup x=some .free
 | [],_,h=>by simp at h
 |(n,k)::r,x,h=>by
  rw[aQ]
  cases a:x==n with
  |true=>
   rw[bV,a]at h
   cases h
   dsimp only
   split
   ·left;rw[bV,a]
   ·right;rw[bV,a]
  |false=>
   rw[bV,a]at h
   have ih:=zGW (env:=env) h
   dsimp only
   split
   ·rw[bV,a];exact ih
   ·rw[bV,a];exact ih
theorem zGX {env:Env}:∀{names:List (Str×kg)}{x:Str}{a:kg},(a=.cell\/a=.free)->
  (names.map fun(n,k)=>if(k==NameKind.free&&env.scope.kind== .function&&env.kindOf n==some .cell)then(n,NameKind.cell)else(n,k)).lookup x=some a->∃k,(x,k)∈names/\(k=.cell\/k=.free)
 | [],_,_,_,h=>by simp at h
 |(n,k)::r,x,a,c,h=>by
  rw[aQ]at h
  cases b:x==n with
  |true=>
   have e:x=n:=by simpa using b
   subst e
   dsimp only at h
   split at h
   ·rename_i d
    have:k=.free:=by
     rw[bA,bA]at d
     simpa using d.1.1
    exact⟨k,au ..,.inr this⟩
   ·rw[bV,b]at h
    cases h
    exact⟨k,au ..,c⟩
  |false=>
   have h':(r.map fun(n,k)=>if(k==NameKind.free&&env.scope.kind== .function&&env.kindOf n==some .cell)then(n,NameKind.cell)else(n,k)).lookup x=some a:=by
    dsimp only at h
    split at h
    ·rw[bV,b]at h;exact h
    ·rw[bV,b]at h;exact h
   obtain⟨f,g,i⟩:=zGX (env:=env) c h'
   exact⟨f,aj _ g,i⟩
noncomputable def y7 (X:Cx)(N:List Str)(scope:fS)(cl:List (Str×ao))(C:ao)(s:aq)(H:Hp)(ex:List ao):Cx where
 prog:=X.prog
 w:=X.w
 K:=X.K
 mg:=X.mg
 base:=X.base
 A:=X.A
 N:=N
 s₀:=s
 H₀:=H
 env:=compEnvC scope cl C X.env
 outer:=X.stack
 stack:=X.stack
 ex:=ex
 fn:=fun _=>false
 calm:=X.calm
 pn:=[]
 xe:=fun _ _=>False
structure CompScope (sc:fS) (XN N:List Str) (scope:fS) (caps:List Nat):Prop where
 kind:scope.kind=.function
 nd:N.Nodup
 nocell:∀y∈scope.names,y.2≠.cell
 names:∀y∈scope.names,y.2=.local->scope.names.lookup y.1=some .local
 free:∀y∈scope.names,y.2=.free->sc.names.lookup y.1=some .cell\/sc.names.lookup y.1=some .free
 cap:∀(i:Nat),i<caps.length->∃x,N[i]?=some x/\XN[caps.getD i 0]?=some x/\scope.names.lookup x=some .free/\(sc.names.lookup x=some .cell\/sc.names.lookup x=some .free)
 len:caps.length<=N.length
noncomputable def uX (caps:List Nat)(n:Nat)(σ:St):St:=caps.map (fun j=>(σ[j]?).join)++aR (n-caps.length) none
noncomputable def PF (X:Cx)(ifs:List bF)(tc:TT):Prop :=
 ∀(pins:List (ao×Obj)) (s:aq) (σ:St) (H:Hp) (Q:Bool->Hp->Prop),Inv X pins σ H s->tc σ H Q->
  wpAny (model X.prog X.w) X.A (forIn ifs true fun c r=>if r=true then do let ok<-isTrue c X.env (eval c X.env);pure (ForInStep.yield ok)else pure (ForInStep.yield r)) (TP X pins σ Q) X.xe s
noncomputable def zAF:TT:=fun _ H Q=>Q true H
theorem uO {X:Cx}:PF X [] zAF:=fun a s σ H Q I h=>by
 rw[fD]
 exact ar ⟨H,I,h⟩
theorem zGY {X:Cx}{c:bF}{b:TT}(d:PT X c b):PF X [c] b:=fun a s σ H Q I h=>by
 rw[eZ]
 refine af ?_
 rw[if_pos rfl]
 refine af (zH (d a s σ H Q I h) fun ok e q=>ar ?_)
 show wpAny _ _ (forIn [] ok _) _ _ _
 rw[fD]
 exact ar q
noncomputable def zGZ (wi:TI)(g:TG)(tc:TT)(te:TE)(caps:List Nat)(n:Nat):TE:=fun σ H Q=>wi σ H fun J H1=>∃W:Nat->Nat->List V->St->Hp->Prop,(∃m,W 0 m [] (uX caps n σ) H1)/\∀i m acc σ' H',W i m acc σ' H'->
 (J.stop i H'/\∀D,H' D=none->Q (.ref D) (upd H' D (.lst acc)))\/
 (J.go i H'/\acc.length<sizeLine/\∀x H2,J.yld i H' x H2->g x σ' H2 fun σ2 H3=>tc σ2 H3 fun b H4=>if b=true then te σ2 H4 fun y H5=>∃m',m'<m/\W (i+1) m' (acc++[y]) σ2 H5 else∃m',m'<m/\W (i+1) m' acc σ2 H4)
section
variable{X:Cx}{pins:List (ao×Obj)}{σ:St}{H:Hp}{s:aq}{N:List Str}{scope:fS}{cl:List (Str×ao)}{C:ao}{fp:List ao}{caps:List Nat}
theorem zGa (I:Inv X pins σ H s)(S:CompScope X.env.scope X.N N scope caps)(g:∀x c,cl.lookup x=some c->X.env.cells.lookup x=some c)(l:∀x,(x,NameKind.free)∈scope.names->∃c,cl.lookup x=some c)
  (j:s.heap.objs.size<=C) (hf:∀b∈fp,uT X pins H b) (h:∀b∈fp,b<s.heap.objs.size):(y7 X N scope cl C s H fp).Ok where
 mod:=I.ok.mod
 kind:=S.kind
 glob:=I.ok.glob
 blt:=I.ok.blt
 above:=j
 inj:=fun x y c a b=>I.ok.inj x y c (g x c a) (g y c b)
 has:=fun x n=>by
  have i:∃f,(f=NameKind.cell\/f=.free)/\(relabel scope X.env).names.lookup x=some f:=by
   rcases n with z|z
   ·exact⟨_,.inl rfl,z⟩
   ·exact⟨_,.inr rfl,z⟩
  obtain⟨f,p,z⟩:=i
  obtain⟨k,m,e⟩:=zGX p z
  rcases e with e|e
  ·exact absurd e (S.nocell _ m)
  ·subst e;exact l x m
 cab:=fun x c z=>by cases z
 hd:=I.ok.hd
 frames:=I.ok.frames
 stk:=.inl rfl
 exf:=fun b d=>by
  obtain⟨_,_,_,_,q,_⟩:=hf b d
  exact⟨aV (bq (h b d) j),fun x c e=>q x c (g x c e)⟩
 bs:=I.bs
 bsz:=bS I.ok.bsz I.sz
 noex:=fun b o e d=>by
  obtain⟨_,_,_,r,_⟩:=hf b d
  rcases r with z|z
  ·exact I.ok.noex b o e z
  ·exact absurd (bq (aD e) (bS I.ok.bsz z)) (bI _)
 exfs:=fun b d z=>by
  obtain⟨_,f1,f2,_⟩:=hf b d
  rcases aE.mp (I.stkSub b z)with e|e
  ·exact f1 e
  ·exact f2 e
 funs:=I.stack
 frf:=I.stkFree
theorem zGb {j:bB}{D:ao}{od:Obj}{t:Nat}{m:Str->Option ai}(I:Inv X pins σ H s)(ok:(y7 X N scope cl C s H fp).Ok)(S:CompScope X.env.scope X.N N scope caps)
  (g:∀x c,cl.lookup x=some c->X.env.cells.lookup x=some c) (n:∀x,(x,NameKind.free)∈scope.names->∃c,cl.lookup x=some c)
  (keep:∀b o,s.heap.get? b=some o->j.get? b=some o) (hn:j.Ns C m) (P:s.heap.objs.size<=C) (Q:j.get? D=some od) (w:s.heap.objs.size<=D) (B:D≠C) (E:∀v,od.data≠.cell v) :
  Inv (y7 X N scope cl C s H fp) [(D,od)] (uX caps N.length σ) H {s with heap:=j,toks:=t}:=by
 have a:∀x c,cl.lookup x=some c->∀v,s.heap.IsCell c v->j.IsCell c v:=fun x c e v ⟨o,F,hd⟩=>⟨o,keep c o F,hd⟩
 refine⟨ok,rfl,I.bare,Un.kept keep,⟨m,hn,fun i x v e1 f e3=>?_⟩,fun x c e=>?_,I.hok.fresh P,fun x c e=>I.freeC x c (g x c e),fun p R=>?_,I.hok.kept keep,?_⟩
 ·have hi:i<caps.length:=by
   by_cases hi:i<caps.length
   ·exact hi
   ·exfalso
    unfold uX at f
    rw[aP (by simpa using hi),iD]at f
    split at f<;>cases f
  obtain⟨y,T,U,L,M⟩:=S.cap i hi
  have G:x=y:=by
   have A:N[i]?=some x:=e1
   rw[T]at A;exact(aB A).symm
  subst G
  have W:σ[caps.getD i 0]?=some (some v):=by
   unfold uX at f
   rw[aS (by simpa using hi),az]at f
   have:caps[i]?=some (caps.getD i 0):=by rw[bL];simp[hi]
   rw[this]at f
   have d:(σ[caps.getD i 0]?).join=some v:=by simpa using f
   cases q:σ[caps.getD i 0]? with
   |none=>rw[q]at d;cases d
   |some z=>rw[q]at d;have:z=some v:=d;rw[this]
  obtain⟨m',_,hl⟩:=I.loc
  obtain⟨u,r,l⟩:=hl _ x v U W (M.elim (fun z=>.inr (.inl z)) fun z=>.inr (.inr z))
  refine⟨u,r,?_⟩
  have nl:X.env.kindOf x≠some .local:=by
   rcases M with z|z
   ·show X.env.scope.names.lookup x≠_;rw[z];decide
   ·show X.env.scope.names.lookup x≠_;rw[z];decide
  rcases l with⟨k,_⟩|⟨_,c,Y,z⟩
  ·exact absurd k nl
  ·obtain⟨O,h⟩:=n x (eA L)
   have:c=O:=aB (Y.symm.trans (g x O h))
   subst this
   refine .inr ⟨?_,c,h,a x c h _ z⟩
   exact zGW (env:=X.env) L
 ·obtain⟨v,z⟩:=I.cell x c (g x c e)
  exact⟨v,a x c e v z⟩
 ·have:p=(D,od):=by
   have J:p∈[(D,od)]:=R
   simpa using J
  subst this
  refine⟨Q,I.hok.fresh w,B,fun z=>?_,E⟩
  have Z:D∈uJ X.stack:=z
  obtain⟨_,o,F,_⟩:=I.stack.mem Z
  exact absurd (bq (aD F) w) (bI _)
 ·unfold uX
  show _=N.length
  rw[aw,ah,dX]
  have:=S.len
  omega
end
section
variable{X:Cx}
theorem uD {tg iter elt:bF}{ifs:List bF}{scope:fS}{pos:Pos}{wi:TI}{g:TG}{tc:TT}{te:TE}{N:List Str}{caps:List Nat}(hc:X.calm=true)(S:CompScope X.env.scope X.N N scope caps)
  (hi:PI X tg iter wi) (hg:∀cl C s H ex,PG (y7 X N scope cl C s H ex) tg g) (hf:∀cl C s H ex,PF (y7 X N scope cl C s H ex) ifs tc) (he:∀cl C s H ex,PE (y7 X N scope cl C s H ex) elt te)
  (hs:∀x,foldedSetIterable iter X.env x=pure x:=by intro _;rfl):PE X (.ListComp elt [⟨tg,iter,ifs,0⟩] scope pos) (zGZ wi g tc te caps N.length):=by
 intro pins s σ H Q I h
 obtain⟨cl,hcl,hcl1,hcl2⟩:=zGU (env:=X.env) (scope:=scope) fun y hy e=>I.ok.has y.1 (S.free y hy e)
 rw[eval_ListComp]
 refine lO (use:=none) rfl hs hcl S.kind S.names (zH (hi pins s σ H _ I h) fun v s1 h1=>zH h1 fun itv s2 h2=>?_)
 obtain⟨it,fp,tn,J,H2,e,I2,T,st2,f2,W,⟨m0,w0⟩,turn⟩:=h2
 subst e
 refine cg (jd S.nocell (by intro y hy;simp at hy) (fun h₁ hns hsb=>?_) S.kind)
 dsimp only at hns hsb⊢
 generalize hG:s2.heap.push {cls:=.type "list",dict:=none,data:=.seq ([]:List ai).toArray}=G at hns hsb⊢
 have hCs:G.objs.size=s2.heap.objs.size+1:=by rw[<-hG,br]
 have hDC:s2.heap.objs.size≠G.objs.size:=by rw[hCs];exact aV (cQ _)
 have old:∀b o,s2.heap.get? b=some o->h₁.get? b=some o:=fun b o e=>by
  have hb:=aD e
  refine hsb.extBut b o (by rw[hCs];exact aV (bH hb)) (ae _ ?_)
  rw[<-hG]
  exact ae _ e
 have hD:h₁.get? s2.heap.objs.size=some {cls:=.type "list",dict:=none,data:=.seq ([]:List ai).toArray}:=by
  refine hsb.extBut _ _ hDC (ae _ ?_)
  rw[<-hG]
  exact aC _ rfl
 have hfo:∀b∈fp,b<s2.heap.objs.size:=fun b hb=>let⟨o,e,_⟩:=T.obj 0 _ st2 b hb;aD e
 have hCle:s2.heap.objs.size<=G.objs.size:=by omega
 have ok:=zGa (C:=G.objs.size) I2 S hcl1 hcl2 hCle f2 hfo
 have I0:Inv (y7 X N scope cl G.objs.size s2 H2 fp) [(s2.heap.objs.size,{cls:=.type "list",dict:=none,data:=.seq ([]:List ai).toArray})] (uX caps N.length σ) H2 {s2 with heap:=h₁,toks:=s2.toks+([]:List (Str×ai)).length} :=
  zGb I2 ok S hcl1 hcl2 old hns hCle hD (aA _) hDC (fun v z=>by cases z)
 have st1:tn 0 h₁:=T.keep 0 _ _ st2 fun b _ o e=>old b o e
 generalize hX:y7 X N scope cl G.objs.size s2 H2 fp=X' at I0
 generalize hDa:s2.heap.objs.size=D at I0 hD hDC
 have loop:codeAny (model X.prog X.w) X.A (.compLoop (.ListComp elt [⟨tg,iter,ifs,0⟩] scope pos) 0 (.ref it) (.ref D) (compEnvC scope cl G.objs.size X.env)) (compPost (model X.prog X.w) X.A X.xe none (EP X pins σ Q) (.ref D) G.objs.size)
   {s2 with heap:=h₁,toks:=s2.toks+([]:List (Str×ai)).length}:=by
  subst hX
  refine zGV (J:=fun n s'=>∃i σ' H' acc its e,Inv (y7 X N scope cl G.objs.size s2 H2 fp) [(D,{cls:=.type "list",data:=.seq (gs its) e})] σ' H' s'/\zJ acc its/\acc.length<=sizeLine/\tn i s'.heap/\(∀b∈fp,H' b=none)/\W i n acc σ' H')
   ?_ m0 ⟨0,_,H2,[],[],0,I0,.nil,bo _,st1,fun b hb=>(f2 b hb).1,w0⟩
  rintro n s3 ⟨i,σ3,H3,acc,its,ep,I3,rv,hz,st3,fr3,w3⟩
  have stat:∀{H':Hp} {pl:List (ao×Obj)},(∀b∈fp,H' b=none)->(∀p∈pl,p.1=D)->∀b∈fp,uT (y7 X N scope cl G.objs.size s2 H2 fp) pl H' b:=fun{H' pl} hn hpl b hb=>by
   obtain⟨a1,a2⟩:=ok.exf b hb
   exact⟨hn b hb,a1,ok.exfs b hb,.inl hb,fun x c e=>a2 x c e,fun p hp=>by
    have hp':p∈pl:=hp
    rw[hpl p hp',<-hDa]
    exact cw (hfo b hb)⟩
  have one:∀p∈[(D,({cls:=.type "list",data:=.seq (gs its) ep}:Obj))],p.1=D:=fun p hp=>by
   rcases aE.mp hp with e|e
   ·rw[e]
   ·cases e
  have pinD:∀{pl:List (ao×Obj)} {σ':St} {H':Hp} {s':aq} {o:Obj},Inv (y7 X N scope cl G.objs.size s2 H2 fp) pl σ' H' s'->(D,o)∈pl->s'.heap.get? D=some o/\H' D=none:=fun{pl σ' H' s' o} I' hm=>by
   obtain⟨a,b,_⟩:=I'.pin (D,o) (aX _ hm)
   exact⟨a,b⟩
  rcases turn i n acc σ3 H3 w3 with⟨stop,q⟩|⟨go,hlt,step⟩
  ·refine cK (T.done (y7 X N scope cl G.objs.size s2 H2 fp) rfl rfl rfl hc i _ s3 σ3 H3 (fun _ _=>False) I3 (stat fr3 one) st3 stop) (fun r s4 zq=>?_) fun _ _ f=>f
   obtain⟨hr,I4⟩:=zq
   subst hr
   obtain⟨hDo,hDn⟩:=pinD I4 (au ..)
   obtain⟨m4,hm4,_⟩:=I4.loc
   refine⟨m4,hm4,fun h' hsb'=>?_⟩
   have keepC:∀b u,b≠G.objs.size->s4.heap.get? b=some u->h'.get? b=some u:=fun b u hb e=>hsb'.extBut b u hb e
   have un:Un (uJ X.stack) fp H2 H3 s2.heap s4.heap:=I4.base
   have hDo':h'.get? D=some {cls:=.type "list",data:=.seq (gs its) ep}:=keepC D _ hDC hDo
   have hlow:∀b (o:Obj),s2.heap.get? b=some o->b≠G.objs.size/\b≠D:=fun b o e=>by
    have h0:=aD e
    exact⟨by rw[hCs];exact aV (bH h0),by rw[<-hDa];exact aV h0⟩
   have un':Un (uJ X.stack) fp H2 (upd H3 D (.lst acc)) s2.heap h' :=
    ⟨fun b o e n' hb hx=>keepC b o (hlow b o e).1 (un.keep b o e n' hb hx),
     fun b o e n' hb hx=>let⟨sl,q⟩:=un.slot b o e n' hb hx;⟨sl,keepC b _ (hlow b o e).1 q⟩,
     fun b o e n' hx=>by rw[zG (hlow b o e).2];exact un.free b o e n' hx,
     fun b o e hx=>let⟨o',q⟩:=un.there b o e hx;⟨o',keepC b _ (hlow b o e).1 q⟩,
     fun b xs e=>by rw[zG (yF (un.tups b xs e) hDn)];exact un.tups b xs e,
     fun b o u e=>by rw[zG (yF (un.frzs b o u e) hDn)];exact un.frzs b o u e,
     fun b ps e=>let⟨mo,q⟩:=un.tbls b ps e;⟨mo,by rw[zG (yF q hDn)];exact q⟩⟩
   have hok:z8 X.prog X.w (upd H3 D (.lst acc)) h':=(I4.hok.but I4.free keepC).track hDn ⟨hz,its,ep,rv,hDo'⟩
   refine⟨.ref D,upd H3 D (.lst acc),I2.call' (s':={s4 with heap:=h'}) I4.os un' hok I4.bare (fun b hb=>?_),rfl,q D hDn⟩
   obtain⟨_,f1,_,f3,f4,f5⟩:=f2 b hb
   exact⟨f3,f1,f4,f5⟩
  ·refine cK (T.item (y7 X N scope cl G.objs.size s2 H2 fp) rfl rfl rfl hc i _ s3 σ3 H3 (fun _ _=>False) I3 (stat fr3 one) st3 go) (fun r s4 zq=>?_) fun _ _ f=>f
   obtain⟨u,hr,h4⟩:=zq
   subst hr
   refine zH h4 fun _ s5 zq=>?_
   obtain⟨x,H5,I5,r5,y5,st5,fr5⟩:=zq
   have I5':=I5.pinned (stat fr5 one) (T.obj _ _ st5)
   refine zH (hg cl G.objs.size s2 H2 fp _ s5 σ3 H5 x u _ I5' r5 (step x H5 y5)) fun _ s6 ⟨σ6,H6,I6,q6⟩=>?_
   refine zH (hf cl G.objs.size s2 H2 fp _ s6 σ6 H6 _ I6 q6) fun b s7 zq=>?_
   obtain⟨H7,I7,q7⟩:=zq
   have fin:∀{pl:List (ao×Obj)} {σ':St} {H':Hp} {s':aq},Inv (y7 X N scope cl G.objs.size s2 H2 fp) (pl++zAa fp s5.heap) σ' H' s'->tn (i+1) s'.heap/\∀b∈fp,H' b=none:=fun{pl σ' H' s'} I'=>by
    refine⟨T.keep _ _ _ st5 fun b hb o e=>(I'.pin (b,o) (aX _ (aX _ (gX hb e)))).1,fun b hb=>?_⟩
    obtain⟨o,e,_⟩:=T.obj _ _ st5 b hb
    exact(I'.pin (b,o) (aX _ (aX _ (gX hb e)))).2.1
   cases b with
   |false=>
    rw[if_neg aT]at q7⊢
    obtain⟨m',hm,w7⟩:=q7
    obtain⟨a1,a2⟩:=fin I7
    exact⟨m',hm,i+1,σ6,H7,acc,its,ep,I7.unpinned,rv,hz,a1,a2,w7⟩
   |true=>
    rw[if_pos rfl]at q7⊢
    refine zH (he cl G.objs.size s2 H2 fp _ s7 σ6 H7 _ I7 q7) fun y s8 zq=>?_
    obtain⟨yv,H8,I8,r8,m',hm,w8⟩:=zq
    obtain⟨a1,a2⟩:=fin I8
    obtain⟨b1,b2⟩:=pinD I8 (b0 _ (au ..))
    have hl:=rv.length
    refine iX km ⟨_,b1,rfl⟩ js (jc _ _) (lF D its.toArray ep y (by rw[aG];omega)) ⟨b1,?_⟩
    have q9:=lY b1 (·.push y)
    have kp:∀b o,b≠D->s8.heap.get? b=some o->(s8.heap.update D (bG (·.push y))).get? b=some o:=fun b o hb e=>(bt s8.heap (bG (·.push y)) (dz hb)).trans e
    have I9:Inv (y7 X N scope cl G.objs.size s2 H2 fp) [] σ6 H8 {s8 with heap:=s8.heap.update D (bG (·.push y))} :=
     (I8.pins_of (pins':=[]) fun p hp=>by cases hp).turned (t':=s8.toks) kp b2 hDC (.inr (by rw[<-hDa];exact aA _)) (fun x c e z=>by
      have e':X.env.cells.lookup x=some c:=hcl1 x c e
      obtain⟨v',hv'⟩:=I2.cell x c e'
      have h0:=hv'.lt
      rw[z,<-hDa]at h0
      exact bI _ h0) fun p hp=>by
       have:p∈([]:List (ao×Obj)):=hp
       cases this
    have hpu:its.toArray.push y=(its++[y]).toArray:=by simp
    rw[hpu]at q9
    obtain⟨e9,q9⟩:∃e9,(s8.heap.update D (bG (·.push y))).get? D=some {cls:=.type "list",data:=.seq (its++[y]).toArray e9}:=⟨_,q9⟩
    refine⟨m',hm,i+1,σ6,H8,acc++[yv],its++[y],e9,I9.pins_of fun p hp=>?_,rv.append (.cons r8 .nil),?_,T.keep _ _ _ a1 fun b hb o e=>kp b o ?_ e,a2,w8⟩
    ·obtain rfl:p=(D,{cls:=.type "list",data:=.seq (its++[y]).toArray e9}):=by
      rcases aE.mp hp with e|e
      ·exact e
      ·cases e
     obtain⟨_,_,c3,c4,_⟩:=I8.pin (D,_) (aX _ (b0 _ (au ..)))
     exact⟨q9,b2,c3,c4,fun v z=>by cases z⟩
    ·rw[aw,bW];omega
    ·rintro rfl
     have h0:=hfo b hb
     rw[hDa]at h0
     exact bI _ h0
 exact mO loop (T.self X.A 0 _ _ _ st1 loop)
end
theorem zA.seqT {K:ag}{H b:Hp}{a:ao}{xs:List V}(e:zA H b)(h:zX K H a xs):zX K b a xs:=by
 rcases h with(h|⟨o,h⟩)|h
 ·exact .inl (.inl (e _ _ h))
 ·exact .inl (.inr ⟨o,e _ _ h⟩)
 ·exact .inr h
mutual
noncomputable def vE (K:ag)(H:Hp):dE->V->Prop
 | .none,v=>v=.non
 | .bool b,v=>v=.bl b
 | .int i,v=>v=.int i
 | .str x,v=>v=.str x
 | .list ds,v=>∃a xs,v=.ref a/\z6 K H a xs/\Reps K H ds xs
 | .tuple ds,v=>∃a xs,v=.ref a/\zX K H a xs/\Reps K H ds xs
 | .dict _,_=>False
noncomputable def Reps (K:ag)(H:Hp):List dE->List V->Prop
 | [],xs=>xs=[]
 |d::ds,xs=>∃y ys,xs=y::ys/\vE K H d y/\Reps K H ds ys
end
mutual
theorem vE.same {K:ag}{H l:Hp}(e:zA H l):∀(d:dE) (v:V),vE K H d v->vE K l d v
 | .none,v,h=>h
 | .bool b,v,h=>h
 | .int i,v,h=>h
 | .str x,v,h=>h
 | .list c,v,h=>by
  obtain⟨a,xs,f,g,j⟩:=h
  exact⟨a,xs,f,e.seq g,Reps.same e c xs j⟩
 | .tuple c,v,h=>by
  obtain⟨a,xs,f,g,j⟩:=h
  exact⟨a,xs,f,e.seqT g,Reps.same e c xs j⟩
 | .dict _,v,h=>h
theorem Reps.same {K:ag}{H b:Hp}(e:zA H b):∀(a:List dE) (xs:List V),Reps K H a xs->Reps K b a xs
 | [],xs,h=>h
 |d::a,xs,h=>by
  obtain⟨y,ys,c,f,g⟩:=h
  exact⟨y,ys,c,vE.same e d y f,Reps.same e a ys g⟩
end
theorem Reps.length {K:ag}{H:Hp}:∀{a:List dE}{xs:List V},Reps K H a xs->a.length=xs.length
 | [],xs,h=>by rw[show xs=[]from h];rfl
 |d::a,xs,h=>by
  obtain⟨y,ys,b,_,c⟩:=h
  rw[b,aJ,aJ,Reps.length c]
theorem Reps.get {K:ag}{H:Hp}:∀{a:List dE}{xs:List V}{i:Nat}{y:V},Reps K H a xs->xs[i]?=some y->∃d,a[i]?=some d/\vE K H d y
 | [],xs,i,y,h,e=>by rw[show xs=[]from h]at e;simp at e
 |d::a,xs,i,y,h,e=>by
  obtain⟨z,j,b,c,f⟩:=h
  subst b
  cases i with
  |zero=>
   have:z=y:=by simpa using e
   subst this
   exact⟨d,rfl,c⟩
  |succ i=>
   obtain⟨d',e1,g⟩:=Reps.get (i:=i) f (by simpa using e)
   exact⟨d',by simpa using e1,g⟩
theorem Reps.append {K:ag}{H:Hp}:∀{b a:List dE}{xs ys:List V},Reps K H b xs->Reps K H a ys->Reps K H (b++a) (xs++ys)
 | [],a,xs,ys,h,h'=>by rw[show xs=[]from h];exact h'
 |d::b,a,xs,ys,h,h'=>by
  obtain⟨z,c,e,f,g⟩:=h
  subst e
  exact⟨z,c++ys,rfl,f,Reps.append g h'⟩
theorem Reps.one {K:ag}{H:Hp}{d:dE}{v:V}(h:vE K H d v):Reps K H [d] [v]:=⟨v,[],rfl,h,rfl⟩
theorem Reps.strs {K:ag}{H:Hp}:∀{a:List Str}{xs:List V},Reps K H (a.map PyData.str) xs↔xs=a.map V.str
 | [],xs=>wb
 |s::a,xs=>by
  constructor
  ·rintro⟨y,ys,c,d,f⟩
   have b:y=.str s:=d
   rw[c,b,Reps.strs.mp f];rfl
  ·intro e
   exact⟨.str s,a.map V.str,e,rfl,Reps.strs.mpr rfl⟩
section
variable{X:Cx}{pins:List (ao×Obj)}{σ:St}{H:Hp}{s:aq}
mutual
theorem vE.reads (I:Inv X pins σ H s):∀(d:dE) (v:V) (u:ai),vE X.K H d v->zQ v u->∃as,Reads s.heap u d as
 | .none,v,u,h,r=>by
  have h':v=.non:=h
  subst h'
  cases r
  exact⟨_,.none⟩
 | .bool b,v,u,h,r=>by
  have h':v=.bl b:=h
  subst h'
  cases r
  exact⟨_,.bool b⟩
 | .int i,v,u,h,r=>by
  have h':v=.int i:=h
  subst h'
  obtain⟨t,rfl⟩:=r
  exact⟨_,.int i t⟩
 | .str x,v,u,h,r=>by
  have h':v=.str x:=h
  subst h'
  obtain⟨t,rfl⟩:=r
  exact⟨_,.str x t⟩
 | .list c,v,u,h,r=>by
  obtain⟨a,xs,f,g,j⟩:=h
  subst f
  cases r
  obtain⟨its,l,⟨o,n,e,m,_,hd⟩,_⟩:=I.list g
  obtain⟨as,p⟩:=Reps.reads I c xs its j l
  exact⟨_,.list e m hd (by simpa using p)⟩
 | .tuple c,v,u,h,r=>by
  obtain⟨a,xs,f,g,j⟩:=h
  subst f
  cases r
  obtain⟨its,l,⟨o,e,m,n,hd⟩,_⟩:=I.tuple g
  obtain⟨as,p⟩:=Reps.reads I c xs its j l
  exact⟨_,.tuple e m hd (by simpa using p)⟩
 | .dict _,v,u,h,r=>h.elim
theorem Reps.reads (I:Inv X pins σ H s):∀(a:List dE) (xs:List V) (us:List ai),Reps X.K H a xs->zJ xs us->∃as,ReadsAll s.heap us a as
 | [],xs,us,h,r=>by
  have h':xs=[]:=h
  subst h'
  cases r
  exact⟨_,.nil⟩
 |d::a,xs,us,h,r=>by
  obtain⟨y,ys,b,c,e⟩:=h
  subst b
  cases r with
  |cons f g=>
   obtain⟨as,i⟩:=vE.reads I d y _ c f
   obtain⟨bs,j⟩:=Reps.reads I a ys _ e g
   exact⟨_,.cons i j⟩
end
noncomputable def zGc (K:ag)(neg:Bool):R2:=fun x y H Q=>∃d e,vE K H d x/\vE K H e y/\iJ d=true/\iJ e=true/\Q (.bl (if neg=true then !PyData.eqv d e else iy d e)) H
theorem zDG (a:X.A.units+64<cLine):yG X (compareOp .Eq) (zGc X.K false):=by
 intro pins s σ H x y v u Q I b c h
 obtain⟨d,e,f,g,i,j,q⟩:=h
 obtain⟨as,l⟩:=vE.reads I d x v f b
 obtain⟨bs,m⟩:=vE.reads I e y u g c
 exact eq_dataH l m i j a ⟨.bl _,H,I,rfl,q⟩
theorem zAG (a:X.A.units+64<cLine):yG X (compareOp .NotEq) (zGc X.K true):=by
 intro pins s σ H x y v u Q I b c h
 obtain⟨d,e,f,g,i,j,q⟩:=h
 obtain⟨as,l⟩:=vE.reads I d x v f b
 obtain⟨bs,m⟩:=vE.reads I e y u g c
 exact ne_dataH l m i j a ⟨.bl _,H,I,rfl,q⟩
end
mutual
theorem zDH:∀d:dE,d.canLay0=true->iy d d=true
 | .none,_=>rfl
 | .bool b,_=>by simp[iy]
 | .int i,_=>by simp[iy]
 | .str x,_=>by simp[iy]
 | .list a,h=>by
  have h':dv a=true:=by simpa [eK]using h
  simp only[iy];exact eqvAll_refl a h'
 | .tuple a,h=>by
  have h':dv a=true:=by simpa [eK]using h
  simp only[iy];exact eqvAll_refl a h'
 | .dict _,h=>by simp[eK]at h
theorem eqvAll_refl:∀a:List dE,dv a=true->sT a a=true
 | [],_=>rfl
 |d::a,h=>by
  have h':d.canLay0=true/\dv a=true:=by simpa [dv]using h
  simp only[sT,zDH d h'.1,eqvAll_refl a h'.2,lP]
end
end L2
end
section
open PySem PySem.W PyProof.Rows
namespace MyS
noncomputable def ev {α:Type}(lt:Nat->Nat->Bool):KasT α->α
 | .ret a=>a
 | .ask i j k=>ev lt (k (lt i j))
theorem zAj {α β:Type}(lt:Nat->Nat->Bool)(f:α->KasT β):∀t:KasT α,ev lt (t.bind f)=ev lt (f (ev lt t))
 | .ret _=>rfl
 | .ask i j k=>zAj lt f (k (lt i j))
noncomputable def vO {α:Type}(lt:Nat->Nat->Bool)(N:Nat):KasT α->Prop
 | .ret _=>True
 | .ask i j k=>i<N/\j<N/\i≠j/\vO lt N (k (lt i j))
theorem zAk {α β:Type}{lt:Nat->Nat->Bool}{N:Nat}{f:α->KasT β}:∀(t:KasT α),vO lt N t->vO lt N (f (ev lt t))->vO lt N (t.bind f)
 | .ret _,_,h=>h
 | .ask i j k,h,h'=>⟨h.1,h.2.1,h.2.2.1,zAk (k (lt i j)) h.2.2.2 h'⟩
structure TotalOn (lt:Nat->Nat->Bool) (n:Nat):Prop where
 irr:∀i,i<n->lt i i=false
 tr:∀i j k,i<n->j<n->k<n->lt i j=true->lt j k=true->lt i k=true
 tot:∀i j,i<n->j<n->i≠j->lt i j=true\/lt j i=true
noncomputable abbrev gg (p:Array Nat)(i:Nat):Nat:=p.getD i 0
noncomputable def Pm (p:Array Nat)(n:Nat):Prop:=p.toList.Perm (bu n)
theorem Pm.size {p:Array Nat}{n:Nat}(h:Pm p n):p.size=n:=by
 have:=vh h
 simpa using this
theorem zAH {p:Array Nat}{i:Nat}(h:i<p.size):gg p i=p[i]:=by simp[gg,Array.getD,h]
theorem Pm.lt {p:Array Nat}{n i:Nat}(h:Pm p n)(hi:i<n):gg p i<n:=by
 have a:i<p.size:=by rw[h.size];exact hi
 have b:p[i]∈bu n:=(wc h).mp (by simp)
 rw[zAH a]
 exact bP.mp b
theorem Pm.ne {p:Array Nat}{n i j:Nat}(h:Pm p n)(hi:i<n)(d:j<n)(c:i≠j):gg p i≠gg p j:=by
 have a:i<p.size:=by rw[h.size];exact hi
 have b:j<p.size:=by rw[h.size];exact d
 have nd:p.toList.Nodup:=(vk h).mpr p9
 rw[zAH a,zAH b]
 intro e
 apply c
 have f:p.toList[i]'(by simpa using a)=p.toList[j]'(by simpa using b):=by simpa using e
 exact(d5 nd).mp f
theorem Pm.perm {p q:Array Nat}{n:Nat}(h:Pm p n)(e:q.Perm p):Pm q n:=(Array.perm_iff_toList_perm.mp e).trans h
noncomputable def Up (lt:Nat->Nat->Bool)(p:Array Nat)(k:Nat):Prop:=∀i j,i<j->j<k->lt (gg p i) (gg p j)=true
noncomputable def Dn (lt:Nat->Nat->Bool)(p:Array Nat)(k:Nat):Prop:=∀i j,i<j->j<k->lt (gg p j) (gg p i)=true
section
variable{lt:Nat->Nat->Bool}{N:Nat}{p:Array Nat}
theorem TotalOn.flip (O:TotalOn lt N){i j:Nat}(hi:i<N)(b:j<N)(a:i≠j)(h:lt i j=false):lt j i=true:=by
 rcases O.tot i j hi b a with h'|h'
 ·rw[h]at h';cases h'
 ·exact h'
theorem Up.more (O:TotalOn lt N)(P:Pm p N){n:Nat}(c:1<=n)(hn:n<N)(u:Up lt p n)(h:lt (gg p (n-1)) (gg p n)=true):Up lt p (n+1):=by
 intro i j a d
 by_cases e:j=n
 ·subst e
  by_cases b:i=j-1
  ·subst b;exact h
  ·exact O.tr _ _ _ (P.lt (by omega)) (P.lt (by omega)) (P.lt hn) (u i (j-1) (by omega) (by omega)) h
 ·exact u i j a (by omega)
theorem Dn.more (O:TotalOn lt N)(P:Pm p N){n:Nat}(c:1<=n)(hn:n<N)(u:Dn lt p n)(h:lt (gg p n) (gg p (n-1))=true):Dn lt p (n+1):=by
 intro i j a d
 by_cases e:j=n
 ·subst e
  by_cases b:i=j-1
  ·subst b;exact h
  ·exact O.tr _ _ _ (P.lt hn) (P.lt (by omega)) (P.lt (by omega)) h (u i (j-1) (by omega) (by omega))
 ·exact u i j a (by omega)
theorem zGd:Up lt p 1:=fun i j a b=>by omega
theorem zBt (O:TotalOn lt N)(P:Pm p N):∀(f n:Nat),1<=n->n+f<=N->Up lt p n->
  n<=ev lt (iK p f n)/\ev lt (iK p f n)<=n+f/\Up lt p (ev lt (iK p f n))/\(ev lt (iK p f n)<n+f->lt (gg p (ev lt (iK p f n))) (gg p (ev lt (iK p f n)-1))=true)
 |0,n,_,_,u=>⟨aA _,aA _,u,fun h=>absurd h (bI _)⟩
 |f+1,n,a,hn,u=>by
  have e:ev lt (iK p (f+1) n)=ev lt (if lt (gg p n) (gg p (n-1))=true then KasT.ret n else iK p f (n+1)):=rfl
  rw[e]
  cases c:lt (gg p n) (gg p (n-1))with
  |true=>
   rw[if_pos rfl]
   exact⟨aA _,Nat.le_add_right _ _,u,fun _=>c⟩
  |false=>
   rw[if_neg (by simp)]
   have b:=O.flip (P.lt (by omega)) (P.lt (by omega)) (P.ne (by omega) (by omega) (by omega)) c
   obtain⟨i,j,d,g⟩:=zBt O P f (n+1) (by omega) (by omega) (u.more O P a (by omega) b)
   exact⟨by omega,by omega,d,fun h=>g (by omega)⟩
theorem zDI (P:Pm p N):∀(f n:Nat),1<=n->n+f<=N->vO lt N (iK p f n)
 |0,n,_,_=>trivial
 |f+1,n,a,hn=>by
  refine⟨P.lt (by omega),P.lt (by omega),P.ne (by omega) (by omega) (by omega),?_⟩
  show vO lt N (if lt (gg p n) (gg p (n-1))=true then KasT.ret n else iK p f (n+1))
  split
  ·trivial
  ·exact zDI P f (n+1) (by omega) (by omega)
theorem zGe (O:TotalOn lt N)(P:Pm p N):∀(f n:Nat),1<=n->n+f<=N->vO lt N (fE f p n 0)
 |0,n,_,_=>trivial
 |f+1,n,b,hn=>by
  refine⟨P.lt (by omega),P.lt (by omega),P.ne (by omega) (by omega) (by omega),?_⟩
  show vO lt N (if lt (gg p n) (gg p (n-1))=true then(if 0>0 then fE f (mP p (n- (0+1)) n) (n+1) 0 else fE f p (n+1) 0)
   else .ask (gg p (n-1)) (gg p n) fun d=>if d=true then .ret (p,n,0)else fE f p (n+1) (0+1))
  cases c:lt (gg p n) (gg p (n-1))with
  |true=>
   rw[if_pos rfl,if_neg (by omega)]
   exact zGe O P f (n+1) (by omega) (by omega)
  |false=>
   rw[if_neg (by simp)]
   have a:=O.flip (P.lt (by omega)) (P.lt (by omega)) (P.ne (by omega) (by omega) (by omega)) c
   refine⟨P.lt (by omega),P.lt (by omega),P.ne (by omega) (by omega) (by omega),?_⟩
   show vO lt N (if lt (gg p (n-1)) (gg p n)=true then KasT.ret (p,n,0)else fE f p (n+1) (0+1))
   rw[a,if_pos rfl]
   trivial
theorem zDJ (O:TotalOn lt N)(P:Pm p N):∀(f n:Nat),1<=n->n+f<=N->Dn lt p n->
  ∃m,ev lt (fE f p n 0)=(p,m,0)/\n<=m/\m<=n+f/\Dn lt p m
 |0,n,_,_,u=>⟨n,rfl,aA _,aA _,u⟩
 |f+1,n,a,hn,u=>by
  have e:ev lt (fE (f+1) p n 0)=ev lt (if lt (gg p n) (gg p (n-1))=true then(if 0>0 then fE f (mP p (n- (0+1)) n) (n+1) 0 else fE f p (n+1) 0)
   else .ask (gg p (n-1)) (gg p n) fun d=>if d=true then .ret (p,n,0)else fE f p (n+1) (0+1)):=rfl
  rw[e]
  cases c:lt (gg p n) (gg p (n-1))with
  |true=>
   rw[if_pos rfl,if_neg (by omega)]
   obtain⟨m,b,j,l,g⟩:=zDJ O P f (n+1) (by omega) (by omega) (u.more O P a (by omega) c)
   exact⟨m,b,by omega,by omega,g⟩
  |false=>
   rw[if_neg (by simp)]
   have h:=O.flip (P.lt (by omega)) (P.lt (by omega)) (P.ne (by omega) (by omega) (by omega)) c
   have i:ev lt (.ask (gg p (n-1)) (gg p n) fun d=>if d=true then KasT.ret (p,n,0)else fE f p (n+1) (0+1))=ev lt (if lt (gg p (n-1)) (gg p n)=true then KasT.ret (p,n,0)else fE f p (n+1) (0+1)):=rfl
   rw[i,h,if_pos rfl]
   exact⟨n,rfl,aA _,by omega,u⟩
theorem zGf {m k:Nat}(b:m<=p.size):gg (mP p 0 m) k=if k<m then gg p (m-1-k)else gg p k:=by
 have e:=getElem?_mirror_all (i:=0) b k
 have a:∀(q:Array Nat) (x:Nat),gg q x=(q[x]?).getD 0:=fun q x=>by simp[gg]
 rw[a,a,a]
 show((mirror p 0 m ((m-0)/2))[k]?).getD 0=_
 rw[e]
 by_cases h:k<m
 ·rw[if_pos ⟨bo _,h⟩,if_pos h]
  simp
 ·rw[if_neg (fun z=>h z.2),if_neg h]
theorem zMK (P:Pm p N){m:Nat}(b:m<=N)(d:Dn lt p m):Up lt (mP p 0 m) m:=by
 intro i j c e
 have a:m<=p.size:=by rw[P.size];exact b
 rw[zGf a,zGf a,if_pos (by omega),if_pos e]
 exact d _ _ (by omega) (by omega)
theorem zDK (P:Pm p N)(i j:Nat):Pm (mP p i j) N:=P.perm (mirror_perm p i j _)
theorem zGg (O:TotalOn lt N)(P:Pm p N)(w:2<=N):∃m q,ev lt (qa N p)=(m,q)/\1<=m/\m<=N/\Pm q N/\Up lt q m:=by
 obtain⟨b,h,a,f⟩:=zBt O P (N-1) 1 (aA _) (by omega) zGd
 unfold qa
 rw[zAj]
 generalize hn:ev lt (iK p (N-1) 1)=n at b h a f
 by_cases e1:(n==N)=true
 ·rw[if_pos e1]
  exact⟨n,p,rfl,b,by omega,P,a⟩
 ·rw[if_neg e1]
  have l:n≠N:=by simpa using e1
  by_cases g:n>1
  ·rw[if_pos g]
   have c:lt (gg p 0) (gg p (n-1))=true:=a 0 (n-1) (by omega) (by omega)
   have o:ev lt (KasT.ask (p.getD 0 0) (p.getD (n-1) 0) fun c=>if c=true then KasT.ret (n,p)else jt n N (mP p 0 n))=ev lt (if lt (gg p 0) (gg p (n-1))=true then KasT.ret (n,p)else jt n N (mP p 0 n)):=rfl
   rw[o,c,if_pos rfl]
   exact⟨n,p,rfl,b,by omega,P,a⟩
  ·rw[if_neg g]
   have e:n=1:=by omega
   subst e
   have c:=f (by omega)
   have r:Dn lt p 2:=fun i j s x=>by
    have:i=0:=by omega
    have:j=1:=by omega
    subst i;subst j;exact c
   obtain⟨m,t,y,z,u⟩:=zDJ O P (N-2) 2 (by omega) (by omega) r
   unfold jt
   rw[zAj]
   have d:ev lt (fE (N- (1+1)) p (1+1) 0)=(p,m,0):=t
   rw[d]
   dsimp only
   rw[if_neg (by omega)]
   unfold kas_tail3
   rw[zAj]
   obtain⟨A,B,v,_⟩:=zBt O (zDK P 0 m) (N-m) m (by omega) (by omega) (zMK P (by omega) u)
   exact⟨_,_,rfl,by omega,by omega,zDK P 0 m,v⟩
theorem zML (O:TotalOn lt N)(P:Pm p N)(s:2<=N):vO lt N (qa N p):=by
 obtain⟨g,h,b,d⟩:=zBt O P (N-1) 1 (aA _) (by omega) zGd
 unfold qa
 refine zAk _ (zDI P _ _ (aA _) (by omega)) ?_
 generalize hn:ev lt (iK p (N-1) 1)=n at g h b d
 by_cases e1:(n==N)=true
 ·rw[if_pos e1];trivial
 ·rw[if_neg e1]
  have l:n≠N:=by simpa using e1
  by_cases f:n>1
  ·rw[if_pos f]
   have c:lt (gg p 0) (gg p (n-1))=true:=b 0 (n-1) (by omega) (by omega)
   refine⟨P.lt (by omega),P.lt (by omega),P.ne (by omega) (by omega) (by omega),?_⟩
   show vO lt N (if lt (gg p 0) (gg p (n-1))=true then KasT.ret (n,p)else jt n N (mP p 0 n))
   rw[c,if_pos rfl]
   trivial
  ·rw[if_neg f]
   have e:n=1:=by omega
   subst e
   have c:=d (by omega)
   have o:Dn lt p 2:=fun i j q t=>by
    have:i=0:=by omega
    have:j=1:=by omega
    subst i;subst j;exact c
   obtain⟨m,r,u,v,w⟩:=zDJ O P (N-2) 2 (by omega) (by omega) o
   unfold jt
   refine zAk _ (zGe O P _ _ (by omega) (by omega)) ?_
   have a:ev lt (fE (N- (1+1)) p (1+1) 0)=(p,m,0):=r
   rw[a]
   dsimp only
   rw[if_neg (by omega)]
   unfold kas_tail3
   exact zAk _ (zDI (zDK P 0 m) _ _ (by omega) (by omega)) trivial
theorem zDL (P:Pm p N){k:Nat}(b:k<N):∀(f l r:Nat),r<=k->vO lt N (dH p k f l r)
 |0,l,r,_=>trivial
 |f+1,l,r,h=>by
  show vO lt N (if l>=r then KasT.ret l else .ask (p.getD k 0) (p.getD ((l+r)/2) 0) fun c=>if c=true then dH p k f l ((l+r)/2)else dH p k f ((l+r)/2+1) r)
  by_cases a:l>=r
  ·rw[if_pos a];trivial
  ·rw[if_neg a]
   refine⟨P.lt b,P.lt (by omega),P.ne b (by omega) (by omega),?_⟩
   show vO lt N (if lt (gg p k) (gg p ((l+r)/2))=true then dH p k f l ((l+r)/2)else dH p k f ((l+r)/2+1) r)
   split
   ·exact zDL P b f l _ (by omega)
   ·exact zDL P b f _ r h
theorem zDM (O:TotalOn lt N)(P:Pm p N){k:Nat}(d:k<N)(u:Up lt p k):∀(f l r:Nat),l<=r->r<=k->r-l<=f->(∀i,i<l->lt (gg p i) (gg p k)=true)->(∀i,r<=i->i<k->lt (gg p k) (gg p i)=true)->
  ev lt (dH p k f l r)<=k/\(∀i,i<ev lt (dH p k f l r)->lt (gg p i) (gg p k)=true)/\∀i,ev lt (dH p k f l r)<=i->i<k->lt (gg p k) (gg p i)=true
 |0,l,r,q,h,s,a,b=>by
  have:l=r:=by omega
  subst this
  exact⟨h,a,b⟩
 |f+1,l,r,q,h,s,a,b=>by
  have e:ev lt (dH p k (f+1) l r)=ev lt (if l>=r then KasT.ret l else .ask (p.getD k 0) (p.getD ((l+r)/2) 0) fun c=>if c=true then dH p k f l ((l+r)/2)else dH p k f ((l+r)/2+1) r):=rfl
  rw[e]
  by_cases g:l>=r
  ·rw[if_pos g]
   have:l=r:=by omega
   subst this
   exact⟨h,a,b⟩
  ·rw[if_neg g]
   have t:ev lt (KasT.ask (p.getD k 0) (p.getD ((l+r)/2) 0) fun c=>if c=true then dH p k f l ((l+r)/2)else dH p k f ((l+r)/2+1) r)=ev lt (if lt (gg p k) (gg p ((l+r)/2))=true then dH p k f l ((l+r)/2)else dH p k f ((l+r)/2+1) r):=rfl
   rw[t]
   generalize w:(l+r)/2=m
   have v:l<=m:=by omega
   have x:m<r:=by omega
   cases c:lt (gg p k) (gg p m)with
   |true=>
    rw[if_pos rfl]
    refine zDM O P d u f l m v (by omega) (by omega) a fun i hi j=>?_
    by_cases n:i=m
    ·subst n;exact c
    ·exact O.tr _ _ _ (P.lt d) (P.lt (by omega)) (P.lt (by omega)) c (u m i (by omega) j)
   |false=>
    rw[if_neg (by simp)]
    have o:=O.flip (P.lt d) (P.lt (by omega)) (P.ne d (by omega) (by omega)) c
    refine zDM O P d u f (m+1) r (by omega) h (by omega) (fun i hi=>?_) b
    by_cases n:i=m
    ·subst n;exact o
    ·exact O.tr _ _ _ (P.lt (by omega)) (P.lt (by omega)) (P.lt d) (u i m (by omega) (by omega)) o
theorem zGh {k d x:Nat}(b:k<p.size)(hd:d<=k):gg (bubble p k d) x=if x=k-d then gg p k else if k-d<x/\x<=k then gg p (x-1)else gg p x:=by
 have e:=getElem?_bubble b d hd x
 have a:∀(q:Array Nat) (x:Nat),gg q x=(q[x]?).getD 0:=fun q x=>by simp[gg]
 rw[a,a,a,a,e]
 split
 ·rfl
 ·split<;>rfl
theorem zGi (O:TotalOn lt N):∀(f:Nat) (p:Array Nat) (k:Nat),Pm p N->k+f=N->Up lt p k->Pm (ev lt (ph f p k)) N/\Up lt (ev lt (ph f p k)) N
 |0,p,k,P,e,u=>by
  have:k=N:=by omega
  subst this
  exact⟨P,u⟩
 |f+1,p,k,P,e,u=>by
  have e1:ph (f+1) p k=(dH p k k 0 k).bind fun l=>ph f (bubble p k (k-l)) (k+1):=rfl
  rw[e1,zAj]
  have g:k<N:=by omega
  obtain⟨r,h,m⟩:=zDM O P g u k 0 k (bo _) (aA _) (by omega) (fun i hi=>by omega) (fun i a b=>by omega)
  generalize ev lt (dH p k k 0 k)=l at r h m
  have n:k<p.size:=by rw[P.size];exact g
  refine zGi O f _ (k+1) (P.perm (bubble_perm p k _)) (by omega) fun i j c s=>?_
  rw[zGh n (by omega),zGh n (by omega)]
  have d:k- (k-l)=l:=by omega
  rw[d]
  by_cases a:i=l
  ·rw[if_pos a,if_neg (by omega),if_pos (by omega)]
   exact m _ (by omega) (by omega)
  ·rw[if_neg a]
   by_cases b:l<i/\i<=k
   ·rw[if_pos b,if_neg (by omega),if_pos (by omega)]
    exact u _ _ (by omega) (by omega)
   ·rw[if_neg b]
    by_cases o:j=l
    ·rw[if_pos o]
     exact h i (by omega)
    ·rw[if_neg o]
     by_cases q:l<j/\j<=k
     ·rw[if_pos q]
      by_cases t:i=j-1
      ·omega
      ·exact u _ _ (by omega) (by omega)
     ·rw[if_neg q]
      exact u _ _ c (by omega)
theorem zGj (O:TotalOn lt N):∀(f:Nat) (p:Array Nat) (k:Nat),Pm p N->k+f=N->vO lt N (ph f p k)
 |0,p,k,P,e=>trivial
 |f+1,p,k,P,e=>by
  show vO lt N ((dH p k k 0 k).bind fun l=>ph f (bubble p k (k-l)) (k+1))
  exact zAk _ (zDL P (by omega) _ _ _ (aA _)) (zGj O f _ (k+1) (P.perm (bubble_perm p k _)) (by omega))
theorem zGk (O:TotalOn lt N)(a:2<=N):vO lt N (pj N):=by
 have b:Pm (gs (bu N)) N:=dy _
 obtain⟨m,q,e,g,h,d,i⟩:=zGg O b a
 unfold pj
 refine zAk _ (zML O b a) ?_
 rw[e]
 dsimp only
 by_cases c:m<N
 ·rw[if_pos c]
  have f:max m 1=m:=by omega
  rw[f]
  exact zGj O (N-m) q m d (by omega)
 ·rw[if_neg c];trivial
theorem zGl (O:TotalOn lt N)(d:2<=N):Pm (ev lt (pj N)) N/\Up lt (ev lt (pj N)) N:=by
 have f:Pm (gs (bu N)) N:=dy _
 obtain⟨m,q,e,h,i,a,b⟩:=zGg O f d
 unfold pj
 rw[zAj,e]
 dsimp only
 by_cases c:m<N
 ·rw[if_pos c]
  have g:max m 1=m:=by omega
  rw[g]
  exact zGi O (N-m) q m a (by omega) b
 ·rw[if_neg c]
  have:m=N:=by omega
  subst this
  exact⟨a,b⟩
end
end MyS
end
section
namespace MyS
open PySem PySem.W PyProof.Rows PySem.Spec
theorem zDN {α:Type}{N:Nat}{cmp:Nat->Nat->(Bool->aq->Prop)->aq->Prop}{lt:Nat->Nat->Bool}{s:aq}(b:∀i j,i<N->j<N->i≠j->∀C,C (lt i j) s->cmp i j C s) :
  ∀(t:KasT α) (Q:α->aq->Prop),vO lt N t->Q (ev lt t) s->t.kasWp cmp Q s
 | .ret a,Q,_,h=>h
 | .ask i j k,Q,o,h=>b i j o.1 o.2.1 o.2.2.1 _ (zDN b (k (lt i j)) Q o.2.2.2 h)
noncomputable def jY (ks:List Str)(i:Nat):List Nat:=(ks.getD i ⟨#[]⟩).cps.toList
noncomputable def kL (ks:List Str)(i j:Nat):Bool:=decide (jY ks i<jY ks j)
theorem Str_ext {a b:Str}(h:a.cps.toList=b.cps.toList):a=b:=by
 cases a;cases b
 congr 1
 exact pR.mp h
theorem zGm (a b:List Nat)(e:¬a<b)(f:¬b<a):a=b:=by
 have c:b<=a:=uv.mp e
 have d:a<=b:=uv.mp f
 exact List.le_antisymm d c
theorem zMM {ks:List Str}(nd:ks.Nodup):TotalOn (kL ks) ks.length where
 irr:=fun i _=>by simp[kL,iL]
 tr:=fun i j k _ _ _ a b=>by
  simp only[kL,decide_eq_true_eq]at*
  exact oz a b
 tot:=fun i j hi f c=>by
  simp only[kL,decide_eq_true_eq]
  by_cases a:jY ks i<jY ks j
  ·exact .inl a
  ·by_cases b:jY ks j<jY ks i
   ·exact .inr b
   ·exfalso
    have e:=zGm _ _ a b
    unfold jY at e
    have d:=Str_ext e
    have e1:ks.getD i ⟨#[]⟩=ks[i]:=by simp[hi]
    have g:ks.getD j ⟨#[]⟩=ks[j]:=by simp[f]
    rw[e1,g]at d
    exact c ((d5 nd).mp d)
section
variable{prog:aH}{w:aW}{A:bK}{E:ai->aq->Prop}{s:aq}
theorem zMN {κ:uw}{a:ao}{vs:List ai}{ks:List Str}{n:Nat}{P:qb->aq->Prop}(y:s.heap.get? a=some (seqObj "list" vs.toArray n))(hl:ks.length=vs.length)(nd:ks.Nodup)(B:vs.length<64)
  (R:∀G,(∀b o,b≠a->s.heap.get? b=some o->G.get? b=some o)->2<=vs.length->∀(Q:uw->aq->Prop) (T:ai->aq->Prop),Q κ {s with heap:=G}->wpAny (model prog w) A (keyKind' vs.toArray) Q T {s with heap:=G})
  (U:∀G,(∀b o,b≠a->s.heap.get? b=some o->G.get? b=some o)->∀i j,i<vs.length->j<vs.length->i≠j->∀C,C (kL ks i j) {s with heap:=G}->kas_ask prog w A κ vs i j C {s with heap:=G})
  (h:∀(p:List Nat) (h':bB) (e:Nat),p.Perm (bu vs.length)->(p.map (jY ks)).Pairwise (· < ·)->(∀b o,b≠a->s.heap.get? b=some o->h'.get? b=some o)->
   h'.get? a=some (seqObj "list" (p.map fun i=>vs.getD i Value.none).toArray e)->P (.done (.ret .none)) {s with heap:=h'}) :
  wpAny (model prog w) A (cJ.«list.sort» ⟨[.ref a],[]⟩) P E s:=by
 have ha:a<s.heap.objs.size:=aD y
 rw[list_sort_plain]
 refine af (pk y rfl ?_)
 refine af (fY y rfl ?_ (by rw[aG,aL];omega) (bo _))
 obtain⟨e1,r⟩:∃e1,(s.heap.update a (bG fun _=>(#[]:Array ai))).get? a=some (seqObj "list" #[] e1):=⟨_,iw y fun _=>#[]⟩
 refine af (lH r rfl ?_)
 refine af (ko ?_ (by rw[aL];simp;omega))
 refine af (lQ ?_ (by simp))
 refine cV ?_
 show wpAny (model prog w) A _ P E {s with heap:=((s.heap.update a (bG fun _=>#[])).push (seqObj "tuple" vs.toArray 0)).push (seqObj "list" #[] 0)}
 generalize M:((s.heap.update a (bG fun _=>(#[]:Array ai))).push (seqObj "tuple" vs.toArray 0)).push (seqObj "list" #[] 0)=G
 have d:G.get? a=some (seqObj "list" #[] e1):=by
  rw[<-M]
  exact ae _ (ae _ r)
 have m:∀b o,b≠a->s.heap.get? b=some o->G.get? b=some o:=fun b o z e=>by
  rw[<-M]
  exact ae _ (ae _ ((bt _ _ (dz z)).trans e))
 have hsz:vs.toArray.size=vs.length:=by simp
 have fin:∀(p:List Nat) (out:Array ai) (c:out=(p.map fun i=>vs.getD i Value.none).toArray),p.Perm (bu vs.length)->(p.map (jY ks)).Pairwise (· < ·)->
   P (.done (.ret .none)) {s with heap:=G.update a (bG fun _=>out)}:=fun p out c W f=>by
  subst c
  have X:=iw d fun _=>(p.map fun i=>vs.getD i Value.none).toArray
  exact h p _ _ W f (fun b o z e=>(bt _ _ (dz z)).trans (m b o z e)) X
 dsimp only
 by_cases f:vs.toArray.size<2
 ·rw[if_pos f,if_pos f]
  refine af (ar ?_)
  rw[qu]
  refine af (ar ?_)
  dsimp only
  refine af (lH d rfl ?_)
  refine af (fY d rfl ?_ (by simp) (by
   show((vs.toArray.zip vs.toArray).map (·.2)).size<=sizeLine+1
   rw[aL];simp;omega))
  simp only[bne_self_eq_false,eJ,if_false]
  refine ar (fin (bu vs.length) _ ?_ (dy _) ?_)
  ·show(vs.toArray.zip vs.toArray).map (·.2)=_
   match vs,f with
   | [],_=>simp
   | [v],_=>simp[dD]
   |_::_::_,f=>simp at f;omega
  ·have:vs.length<2:=by simpa using f
   match hv:vs.length,this with
   |0,_=>simp
   |1,_=>simp[dD]
 ·rw[if_neg f,if_neg f]
  have g:2<=vs.length:=by simpa using f
  refine af (R G m g _ _ ?_)
  show wpAny _ _ (StateT.run sortRuns' (SortSt.mk' κ (vs.toArray.zip vs.toArray) #[] 7 none)>>=_) _ _ _
  have O:=zMM nd
  rw[hl]at O
  obtain⟨D,F⟩:=zGl O g
  refine af (cK (kat_run (ks:=vs) (vs:=vs) (Q:=fun l s'=>s'={s with heap:=G}/\failedOf l=none/\∃p:Array Nat,Pm p vs.length/\Up (kL ks) p vs.length/\arrOf l=p.map (kas_item (vs.toArray.zip vs.toArray)))
   (G:=fun p s'=>s'={s with heap:=G}/\Pm p vs.length/\Up (kL ks) p vs.length) rfl g B (fun p l s' _ t H u=>⟨u.1,H,p,u.2.1,u.2.2,t⟩) ?_) ?_ fun _ _ e=>e)
  ·refine zDN (N:=vs.length) (lt:=kL ks) (fun i j hi I q C J=>?_) _ _ (zGk O g) ⟨rfl,D,F⟩
   exact U G m i j hi I q C J
  ·rintro⟨⟨⟩,l⟩ s' ⟨rfl,hf,p,t,H,u⟩
   dsimp only
   have c:=kat_snds (ks:=vs) (vs:=vs) rfl u
   refine af (lH d rfl ?_)
   refine af (fY d rfl ?_ (by simp) (by
    rw[c,aG,ah,aL]
    have:=t.size
    simp
    omega))
   rw[hf]
   simp only[bne_self_eq_false,eJ,if_false]
   refine ar (fin p.toList _ c t ?_)
   rw[bD,lr]
   intro i j hi I q
   have L:i<p.size:=by simpa using hi
   have x:j<p.size:=by simpa using I
   have:=H i j q (by rw[<-t.size];exact x)
   rw[zAH L,zAH x]at this
   simpa [kL]using this
theorem zMO {a:ao}{vs:List ai}{ks:List Str}{n:Nat}{P:qb->aq->Prop}(q:s.heap.get? a=some (seqObj "list" vs.toArray n))(f:tR vs ks)(nd:ks.Nodup)(m:vs.length<64)
  (h:∀(p:List Nat) (h':bB) (e:Nat),p.Perm (bu vs.length)->(p.map (jY ks)).Pairwise (· < ·)->(∀b o,b≠a->s.heap.get? b=some o->h'.get? b=some o)->
   h'.get? a=some (seqObj "list" (p.map fun i=>vs.getD i Value.none).toArray e)->P (.done (.ret .none)) {s with heap:=h'}) :
  wpAny (model prog w) A (cJ.«list.sort» ⟨[.ref a],[]⟩) P E s:=by
 have d:ks.length=vs.length:=by rw[<-f.strs];simp
 have c:∀i,i<vs.length->∃t,vs.getD i Value.none=.str (ks.getD i ⟨#[]⟩) t:=fun i hi=>by
  obtain⟨x,t,e⟩:=f.all vs[i] (c6 hi)
  refine⟨t,?_⟩
  have e1:vs.getD i Value.none=vs[i]:=by simp[hi]
  have r:ks.getD i ⟨#[]⟩=x:=by
   rw[<-f.strs,bL,az,ay hi,e];rfl
  rw[e1,r,e]
 refine zMN (κ:=oneType') q d nd m (fun G u v Q H y=>?_) (fun G u i j hi z B C D=>?_) h
 ·obtain⟨g,l,vK,rfl⟩:∃g l vK,vs=g::l::vK:=by
   match vs,v with
   |g::l::vK,_=>exact⟨g,l,vK,rfl⟩
  rw[keyKind_strs f]
  exact ar y
 ·obtain⟨t,e⟩:=c i hi
  obtain⟨t',F⟩:=c j z
  unfold kas_ask
  rw[e,F,keyLt'_oneType]
  exact strKind_oneLt prog w A _ _ _ _ _ _ rfl rfl D
end
end MyS
end
section
namespace L2
open PySem PySem.Spec PyProof.Rows
theorem yP.obj {P:aH}{w:aW}{H:Hp}{h:bB}{a:ao}{o:HO}(x:yP P w H h a o):∃u,h.get? a=some u:=by
 cases o with
 |lst xs=>obtain⟨_,_,_,_,e⟩:=x;exact⟨_,e⟩
 |tup xs=>obtain⟨_,_,_,_,e,_⟩:=x;exact⟨_,e⟩
 |dK kvs=>obtain⟨_,_,_,_,o,_,_,e,_⟩:=x;exact⟨_,e⟩
 |dT kvs=>obtain⟨_,_,_,_,o,_,_,e,_⟩:=x;exact⟨_,e⟩
 |set S n=>obtain⟨o,_,_,_,e,_⟩:=x;exact⟨_,e⟩
 |ins C b fs=>obtain⟨_,_,_,e,_⟩:=x;exact⟨_,e⟩
 |own y=>exact x
 |xd fs=>obtain⟨_,⟨_,_,_,e,_⟩,_⟩:=x;exact⟨_,e⟩
 |rng lo hi=>obtain⟨_,_,_,e⟩:=x;exact⟨_,e⟩
 |frz c u=>obtain⟨e,_⟩:=x;exact⟨_,e⟩
 |tbl ps=>exact⟨_,(show h.get? a=some _ from x)⟩
 |met f y=>exact⟨_,(show h.get? a=some _ from x)⟩
 |ext φ=>obtain⟨_,e,_⟩:=x;exact e
theorem z8.free {P:aH}{w:aW}{H:Hp}{h:bB}{a:ao}(x:z8 P w H h)(e:h.get? a=none):H a=none:=by
 cases q:H a with
 |none=>rfl
 |some u=>
  obtain⟨v,hv⟩:=(x a u q).obj
  rw[hv]at e;cases e
noncomputable def zGn (d:ao):Obj:={cls:=.type "dict_items",data:=.fields #[.ref d]}
noncomputable def VW (p d:ao):HO:=.ext fun h=>h.get? p=some (zGn d)
section
variable{X:Cx}
noncomputable def zMP:V->List V->Hp->VK->Prop:=fun x vs H Q=>∃d kvs,x=.ref d/\vs=[]/\H d=some (.dK kvs)/\∀p,H p=none->Q (.ref p) (upd H p (VW p d))
theorem zBu:MtM X "dict.items" zMP:=by
 intro c s σ H x vs v us Q I g i h
 obtain⟨d,kvs,rfl,rfl,hd,q⟩:=h
 cases g
 have a:=i.zero
 subst a
 obtain⟨z,j,ws,rel,f⟩:=kK I.hok hd
 refine iI eg f.typeIs PySem.F.entry_dict_items (PySem.F.args_dict_items_1 _) (meets_dict_items (vJ X.prog X.w) d j) ⟨⟨_,f⟩,?_⟩
 refine⟨.ref s.heap.objs.size,_,I.laid (t':=s.toks) (o:=VW s.heap.objs.size d) (fun b o e=>ae _ e) (aA _) ?_,rfl,q _ (I.hok.fresh (aA _))⟩
 exact⟨aC _ rfl,⟨_,aC _ rfl⟩,fun l m e k=>k _ e⟩
noncomputable abbrev vP (kvs:List (Str×V)):List (zL×V):=kvs.map fun q=>(Sum.inr q.1,q.2)
theorem KV.get {kvs:List (zL×V)}{vs:List (zL×ai)}:∀{i:Nat}{k:zL}{x:ai},KV kvs vs->vs[i]?=some (k,x)->∃v,kvs[i]?=some (k,v)/\zQ v x:=by
 intro i k x r
 induction r generalizing i with
 |nil=>intro e;simp at e
 |cons h t ih=>
  intro e
  cases i with
  |zero=>
   have a:=aB (by simpa using e)
   rename_i p q _ _
   obtain⟨b,c⟩:=p
   subst a
   have d:b=k:=h.1
   subst d
   exact⟨c,rfl,h.2⟩
  |succ i=>
   obtain⟨v,e1,f⟩:=ih (by simpa using e)
   exact⟨v,by simpa using e1,f⟩
end
noncomputable def Its (z:Str):It:=⟨fun i _=>i<z.cps.size,fun i H x H'=>H'=H/\∃c,z.cps[i]?=some c/\x=.str ⟨#[c]⟩,fun i _=>i=z.cps.size⟩
theorem zGo {P:aH}{w:aW}{K:ag}{J:bF}(a:ao)(z:Str)(t:Tok)(ty:String)(l:["enumerate","zip","dict_itemiterator","dict_reverseitemiterator","odict_iterator","itertools.zip_longest","itertools.pairwise"].contains ty=false)
  (G:∀A:bK,A.handled=none->Walks P w A a [a] [a] z.cps.size (SignAt z) (fun i h=>h.IsStrIter a ty z t i))
  (L:∀(A:bK) (i:Nat) (s:aq) (Q:ai->aq->Prop) (E:ai->aq->Prop),s.heap.IsStrIter a ty z t i->Q (.ref a) s->wpAny (model P w) A (pyIter (.ref a)) Q E s):Turn P w K J (Its z) [a] a (fun i h=>h.IsStrIter a ty z t i) where
 mem:=by simp
 obj:=fun i h st b g=>by
  have e:b=a:=by simpa using g
  subst e
  obtain⟨o,e,c,d⟩:=st
  exact⟨o,e,fun v z=>by rw[d]at z;cases z⟩
 keep:=fun i h h' st k=>let⟨o,e,r⟩:=st;⟨o,k a (by simp) o e,r⟩
 item:=by
  intro X m n p q i f s σ H E I hf st x
  subst m n p
  obtain⟨y,f1,f2,B,C,D⟩:=hf a (by simp)
  refine(G X.A (I.ok.hd q)).item i s _ _ x st fun v h' tk hv j kk=>?_
  obtain⟨c,u,F,rfl⟩:=hv
  have M:Inv X f σ H {s with heap:=h',toks:=tk}:=I.turned (fun b o g e=>kk b o (by simpa using g) e) y f1 B C D
  obtain⟨o,e,oc,od⟩:=id j
  exact⟨_,rfl,zAZ (s:={s with heap:=h',toks:=tk}) e oc od l ⟨.str ⟨#[c]⟩,H,M,⟨u,rfl⟩,⟨rfl,c,F,rfl⟩,j,fun b g=>(hf b g).1⟩⟩
 done:=by
  intro X m n p q i f s σ H E I hf st x
  subst m n p
  obtain⟨y,f1,f2,B,C,D⟩:=hf a (by simp)
  have hi:i=z.cps.size:=x
  subst hi
  exact(G X.A (I.ok.hd q)).done s _ _ st fun h' tk kk=>⟨rfl,I.turned (fun b o g e=>kk b o (by simpa using g) e) y f1 B C D⟩
 self:=L
section
variable{X:Cx}{tg:bF}
noncomputable def zMQ (tl:TE):TI:=fun σ H R=>tl σ H fun x H1=>∃z,x=.str z/\R (Its z) H1
theorem zMR {l:bF}{tl:TE}(hl:PE X l tl):PI X tg l (zMQ tl):=by
 intro a s σ H R I h
 refine zH (hl a s σ H _ I h) fun v c zq=>?_
 obtain⟨x,f,d,j,z,m,q⟩:=zq
 subst m
 obtain⟨t,rfl⟩:=j
 have hn:∀b∈[c.heap.objs.size],uT X a f b:=fun b n=>by
  have e:b=c.heap.objs.size:=by simpa using n
  subst e
  exact d.fpOk (aA _) (d.hok.fresh (aA _))
 cases ha:z.cps.all (· <128)with
 |false=>
  refine wpAny_pyIter_wide ha ⟨c.heap.objs.size,[c.heap.objs.size],_,_,f,rfl,d.kept (t':=c.toks) fun b o e=>ae _ e,zGo _ z t "str_iterator" (by decide) (fun A g=>Walks.strWide g _ z t) (fun A i s Q E st h=>wpAny_pyIter_striter_wide st h),⟨_,aC _ rfl,rfl,rfl⟩,hn,q⟩
 |true=>
  refine wpAny_pyIter_ascii ha ⟨c.heap.objs.size,[c.heap.objs.size],_,_,f,rfl,d.kept (t':=c.toks) fun b o e=>ae _ e,zGo _ z t "str_ascii_iterator" (by decide) (fun A g=>Walks.strAscii g _ z t) (fun A i s Q E st h=>wpAny_pyIter_striter_ascii st h),⟨_,aC _ rfl,rfl,rfl⟩,hn,q⟩
end
theorem zMS (lo hi:Option Int)(n:Nat):dO lo hi 1 n=dO (some ((HT.sIx n 0 lo:Nat):Int)) (some ((HT.sIx n n hi:Nat):Int)) 1 n:=by
 have hl:=HT.sIx_le n 0 (bo _) lo
 have l:=HT.sIx_le n n (aA _) hi
 have key:∀(o:Option Int) (d:Nat),d<=n->(match o with|none=>(d:Int)|some i=>(let i:=if i<0 then i+(n:Int)else i;max 0 (min i (n:Int))))=((HT.sIx n d o:Nat):Int):=by
  intro o d hd
  cases o with
  |none=>rfl
  |some i=>
   show max 0 (min (if i<0 then i+(n:Int)else i) (n:Int))=(((if i<0 then(i+(n:Int)).toNat else min i.toNat n):Nat):Int)
   by_cases h:i<0
   ·rw[if_pos h,if_pos h];omega
   ·rw[if_neg h,if_neg h];omega
 have e1:=key lo 0 (bo _)
 have m:=key hi n (aA _)
 have c:max (0:Int) (min ((HT.sIx n 0 lo:Nat):Int) (n:Int))=((HT.sIx n 0 lo:Nat):Int):=by omega
 have e:max (0:Int) (min ((HT.sIx n n hi:Nat):Int) (n:Int))=((HT.sIx n n hi:Nat):Int):=by omega
 have f:¬(((HT.sIx n 0 lo:Nat):Int)<0):=by omega
 have g:¬(((HT.sIx n n hi:Nat):Int)<0):=by omega
 unfold dO
 simp only[show((1:Int)>0)=True from by simp,if_true,f,g,if_false,c,e]
 have a:∀i:Int,(max 0 (min (if i<0 then i+(n:Int)else i) (n:Int)))=((HT.sIx n 0 (some i):Nat):Int):=fun i=>key (some i) 0 (bo _)
 have b:∀i:Int,(max 0 (min (if i<0 then i+(n:Int)else i) (n:Int)))=((HT.sIx n n (some i):Nat):Int):=fun i=>key (some i) n (aA _)
 have w1:((HT.sIx n 0 none:Nat):Int)=0:=rfl
 have w2:((HT.sIx n n none:Nat):Int)=n:=rfl
 cases lo with
 |none=>
  cases hi with
  |none=>rfl
  |some j=>dsimp only;rw[b,w1]
 |some i=>
  cases hi with
  |none=>dsimp only;rw[a,w2]
  |some j=>
   dsimp only
   have zz:=a i
   rw[zz]
   rw[b]
theorem zMT (x:Str)(lo hi:Option Int):tK x lo hi=⟨((x.cps.toList.drop (HT.sIx x.length 0 lo)).take (HT.sIx x.length x.length hi-HT.sIx x.length 0 lo)).toArray⟩:=by
 have hl:=HT.sIx_le x.length 0 (bo _) lo
 have f:=HT.sIx_le x.length x.length (aA _) hi
 unfold tK
 rw[zMS lo hi]
 generalize HT.sIx x.length 0 lo=a at*
 generalize HT.sIx x.length x.length hi=b at*
 have g:x.cps.toList.length=x.length:=by simp[rE]
 by_cases c:a<=b
 ·have sp:=StrLaws.sliced_plain x c f
  split
  ·rename_i h
   rw[StrLaws.strSliceIndices_plain c f]at h
   have h':b-a=x.length:=by simpa using h
   have ha:a=0:=by omega
   have d:b=x.cps.toList.length:=by omega
   subst ha
   apply MyS.Str_ext
   show x.cps.toList=((x.cps.toList.drop 0).take (b-0)).toArray.toList
   rw[eM,gu,d,bw]
  ·rw[sp]
 ·have d:b-a=0:=by omega
  have e:dO (some (a:Int)) (some (b:Int)) 1 x.length=[]:=by
   have i:¬((a:Int)<0):=by omega
   have j:¬((b:Int)<0):=by omega
   have e1:max (0:Int) (min (a:Int) (x.length:Int))=a:=by omega
   have l:max (0:Int) (min (b:Int) (x.length:Int))=b:=by omega
   simp only[dO,sliceRange,i,j,if_false,e1,l,show((1:Int)>0)=True from by simp,if_true]
   rw[if_neg (by omega)]
   rfl
  rw[e,d]
  split
  ·rename_i h
   have h':0=x.length:=by simpa using h
   omega
  ·simp
section
variable{X:Cx}{e:bF}{te:TE}{lo hi:Option bF}{tl th:TO}{pos p2:Pos}
noncomputable def gF (z:Str)(lo hi:Option Int):Str:=⟨((z.cps.toList.drop (HT.sIx z.length 0 lo)).take (HT.sIx z.length z.length hi-HT.sIx z.length 0 lo)).toArray⟩
noncomputable def zMU (te:TE)(tl th:TO):TE:=fun σ H Q=>te σ H fun x H1=>tl σ H1 fun l H2=>th σ H2 fun u H3=>∃z,x=.str z/\z.length<=sizeLine/\Q (.str (gF z l u)) H3
theorem zDO (he:PE X e te)(hl:PO X lo tl)(m:PO X hi th):PE X (.Subscript e (.Slice lo hi none p2) pos) (zMU te tl th):=by
 intro a s σ H Q I h
 refine kj (zH (he a s σ H _ I h) fun v n zq=>?_)
 obtain⟨x,p,r,y,B⟩:=zq
 refine wpAny_Slice (zH (hl a n σ p _ r B) fun C D ⟨l,E,F,pl,G⟩=>zH (m a D σ E _ F G) fun J c zq=>?_)
 obtain⟨u,L,M,g,N⟩:=zq
 rw[ou]
 refine ar ?_
 obtain⟨z,rfl,hz,q⟩:=N
 obtain⟨t,rfl⟩:=y
 have d:KeptH (fun h=>∀b o,c.heap.get? b=some o->h.get? b=some o):=fun h W f b o q=>ae _ (f b o q)
 have fin:∀h' t' k,(∀b o,c.heap.get? b=some o->h'.get? b=some o)->EP X a σ Q (.str (tK z l u) t') {c with heap:=h',toks:=k}:=fun h' t' k f=>by
  refine⟨.str (gF z l u),L,M.kept f,⟨t',?_⟩,q⟩
  rw[zMT];rfl
 have go:ItemOn (model X.prog X.w) X.A X.xe (.str z t) (.ref c.heap.objs.size) (EP X a σ Q) {c with heap:=c.heap.push {cls:=.type "slice",data:=.fields #[C,J,.none]}}:=by
  cases pl with
  |none=>
   cases g with
   |none=>exact SBH.sliceItem_nn d (fun _ _ q=>q) fin hz
   |int j O=>exact SBH.sliceItem_ns d (fun _ _ q=>q) fin hz
  |int i Y=>
   cases g with
   |none=>exact SBH.sliceItem_sn d (fun _ _ q=>q) fin hz
   |int j O=>exact SBH.sliceItem_ss d (fun _ _ q=>q) fin hz
 obtain⟨T,id,P,R,U⟩:=go
 exact um (ops:=[.ref c.heap.objs.size,.str z t]) R P U (by with_unfolding_all rfl)
end
section
variable{X:Cx}
theorem zBO (g:X.calm=true):uU X (.builtin "all") (fun xs H Q=>∃(p:ao) (bs:List Bool),xs=[.ref p]/\z6 X.K H p (bs.map V.bl)/\Q (.bl (bs.all id)) H):=by
 intro d s σ H xs us Q I r h
 obtain⟨p,bs,rfl,j,q⟩:=h
 obtain⟨u,rfl,l⟩:=uM r
 cases l
 obtain⟨its,c,pl,hz⟩:=I.list j
 have m:p≠s.heap.objs.size:=by
  obtain⟨o,n,e,_⟩:=pl
  exact aV (aD e)
 have a:∀(i:Nat) (v:ai),its.toArray[i]?=some v->v=.bool (bs.getD i false):=fun i v e=>by
  have f:its[i]?=some v:=by simpa using e
  have hl:=c.length
  have hi:i<bs.length:=by
   have:=(ak.mp f).1
   simp at hl;omega
  obtain⟨u,e1,t⟩:=c.get (i:=i) (x:=.bl (bs.getD i false)) (by rw[az];simp[hi])
  rw[f]at e1
  cases e1
  exact t
 refine call_all_walk (e8 pl.isList ?_)
 refine⟨s.heap.objs.size,_,_,its.toArray.size,_,_,fun i=>bs.getD i false,rfl,oN (A:=X.A.in1) (I.ok.hd g) _ p m its.toArray,⟨⟨_,aC _ rfl,rfl,rfl⟩,?_⟩,fun i v s' C D hv w=>?_,fun h' tk y=>?_⟩
 ·exact pl.isList.at fun o e=>ae _ e
 ·rw[a i v hv];exact dt w
 ·refine⟨.bl (bs.all id),H,I.kept (t':=tk) (h':=h') fun b o e=>y b o (fun z=>?_) (ae _ e),?_,q⟩
  ·have:b=s.heap.objs.size:=by simpa using z
   exact absurd (aD e) (by rw[this];exact bI _)
  ·have hl:=c.length
   have hsz:its.toArray.size=bs.length:=by simp at hl;simp[hl]
   have:(bu its.toArray.size).all (fun i=>bs.getD i false)=bs.all id:=by
    rw[hsz]
    rw[fT]
    simp only[iY,bP,id]
    constructor
    ·intro h b B
     obtain⟨i,hi,e⟩:=c7 B
     have:=h i hi
     simpa [hi,e]using this
    ·intro h i hi
     have:=h bs[i] (c6 hi)
     simpa [hi]using this
   rw[this];rfl
theorem zGp (ns:List Int):∀k,k<=ns.length->preSum (fun i=>ns.getD i 0) k=(ns.take k).sum
 |0,_=>by simp[preSum]
 |k+1,h=>by
  show preSum (fun i=>ns.getD i 0) k+ns.getD k 0=_
  have a:k<ns.length:=h
  rw[zGp ns k (by omega),aF a,qv]
  simp[a]
noncomputable def zGq (d:ao):Obj:={cls:=.type "dict_values",data:=.fields #[.ref d]}
noncomputable def jE (p d:ao):HO:=.ext fun h=>h.get? p=some (zGq d)
noncomputable def zMV:V->List V->Hp->VK->Prop:=fun x vs H Q=>∃d kvs,x=.ref d/\vs=[]/\H d=some (.dK kvs)/\∀p,H p=none->Q (.ref p) (upd H p (jE p d))
theorem zMW:MtM X "dict.values" zMV:=by
 intro c s σ H x vs v us Q I g i h
 obtain⟨d,kvs,rfl,rfl,hd,q⟩:=h
 cases g
 have a:=i.zero
 subst a
 obtain⟨z,j,ws,rel,f⟩:=kK I.hok hd
 refine iI ee f.typeIs lu (kr _) (pq (vJ X.prog X.w) d j) ⟨⟨_,f⟩,?_⟩
 refine⟨.ref s.heap.objs.size,_,I.laid (t':=s.toks) (o:=jE s.heap.objs.size d) (fun b o e=>ae _ e) (aA _) ?_,rfl,q _ (I.hok.fresh (aA _))⟩
 exact⟨aC _ rfl,⟨_,aC _ rfl⟩,fun l m e k=>k _ e⟩
theorem zAI:uU X (.builtin "isinstance") (fun xs H Q=>∃x c t b,xs=[x,.ty c]/\TyOf X.K H x t/\ke X.K t (.type c)=some b/\Q (.bl b) H):=by
 intro a s σ H xs us Q I r h
 obtain⟨x,c,t,b,rfl,ty,e,q⟩:=h
 obtain⟨u,g,rfl,d,f⟩:=zAe r
 cases f
 exact zLG I d ty e fun tk=>⟨.bl b,H,I.tok tk,rfl,q⟩
theorem zMX {a:List Str}:∀{us:List ai},zJ (a.map V.str) us->tR us a:=by
 induction a with
 |nil=>intro us r;rw[mK]at r;cases r;exact .nil
 |cons x a ih=>
  intro us r
  rw[aQ]at r
  cases r with
  |cons b c=>
   obtain⟨t,e⟩:=b
   subst e
   exact .cons x t (ih c)
noncomputable def zMY (K:ag):V->List V->Hp->VK->Prop:=fun x vs H Q=>∃(sep:Str) (l:ao) (ss:List Str),x=.str sep/\vs=[.ref l]/\z6 K H l (ss.map V.str)/\(ss.map (·.length)).sum+ss.length*sep.length<=16777216/\Q (.str (pA sep ss)) H
theorem zMZ:MtR X "str.join" (zMY X.K):=by
 intro a s σ H x vs v us Q I b c h
 obtain⟨sep,l,d,rfl,rfl,e,hz,q⟩:=h
 obtain⟨t,rfl⟩:=b
 obtain⟨u,rfl,f⟩:=uM c
 cases f
 obtain⟨its,g,pl,_⟩:=I.list e
 exact join_list pl.isList (by simpa using zMX g) hz fun t' k=>⟨.str (pA sep d),H,I.tok k,⟨t',rfl⟩,q⟩
theorem zMa (l:List Str):∀a:Array Nat,(l.foldl (fun b p=>b++(⟨#[]⟩:Str).cps++p.cps) a).toList=a.toList++(l.map (·.cps.toList)).flatten:=by
 induction l with
 |nil=>intro a;simp
 |cons x r ih=>intro a;rw[eY,ih];simp
theorem zMb (a:List Str):pA ⟨#[]⟩ a=⟨(a.map (·.cps.toList)).flatten.toArray⟩:=by
 apply MyS.Str_ext
 show((a.drop 1).foldl (fun b p=>b++(⟨#[]⟩:Str).cps++p.cps) (a.headD wo).cps).toList=(a.map (·.cps.toList)).flatten.toArray.toList
 rw[zMa]
 cases a with
 |nil=>rfl
 |cons x r=>simp
noncomputable def zMc:V->List V->Hp->VK->Prop:=fun x vs H Q=>∃d kvs k v,x=.ref d/\vs=[kV k,v]/\H d=some (.dK kvs)/\kvs.length<sizeLine/\(∀y,vY kvs k=some y->Q y H)/\(vY kvs k=none->Q v (upd H d (.dK (v8 kvs k v))))
theorem zGr:MtM X "dict.setdefault" zMc:=by
 intro i s σ H x vs v us Q I m n h
 obtain⟨d,kvs,k,y,rfl,rfl,hd,hz,o,p⟩:=h
 cases m
 obtain⟨u,r,rfl,t,b⟩:=zAe n
 obtain⟨z,j,ws,rel,l⟩:=kK I.hok hd
 have f:ws.length<=sizeLine:=by rw[<-rel.length];exact z
 refine iI fV l.typeIs PySem.F.entry_dict_setdefault (PySem.F.args_dict_setdefault_3 _ _ _) (kt_meets_setdefault (vJ X.prog X.w) d (zAC t) j r) ⟨ws,l,f,fun C hv=>?_,fun hn h' c A=>?_⟩
 ·have a:=rel.val k
  rw[hv]at a
  cases e:vY kvs k with
  |none=>rw[e]at a;exact a.elim
  |some g=>
   rw[e]at a
   exact⟨g,H,I.tok _,a,o g e⟩
 ·have a:=rel.val k
  rw[hn]at a
  cases e:vY kvs k with
  |some g=>rw[e]at a;exact a.elim
  |none=>
   have he:∃q,h'.get? d=some q:=let⟨q,_,_,B,_⟩:=c;⟨q,B⟩
   have hl:(v8 kvs k y).length<=sizeLine:=by have:=zDD kvs k y;omega
   exact⟨y,_,zBp I (by rw[hd];exact True.intro) A he (zBq hl j (rel.put k b) c),b,p e⟩
theorem zGs:yG X (binaryOp .Add) (fun x y H Q=>∃a b ys,x=.ref a/\y=.ref b/\zX X.K H a []/\zX X.K H b ys/\Q (.ref b) H):=by
 intro j s σ H x y v u Q I p r h
 obtain⟨a,b,ys,rfl,rfl,ha,t,q⟩:=h
 cases p
 cases r
 obtain⟨its,w,z,_⟩:=I.tuple ha
 obtain⟨c,F,A,_⟩:=I.tuple t
 have B:its=[]:=by cases w;rfl
 subst B
 obtain⟨⟨cls,C,data,D⟩,l,m,n,hd⟩:=id z
 obtain⟨⟨o,g,data2,i⟩,d,e,E,f⟩:=id A
 simp only at m hd e f
 subst m hd e f
 exact o5 ⟨_,l,rfl⟩ ⟨_,d,rfl⟩ lW ot iH iE (ik _ _)
  (tuple_addW0 a b _ c.toArray n E C g D i (by simp)) ⟨l,d,⟨.ref b,H,I,rfl,q⟩⟩
end
structure Known (J:It) (items:List V) (Hk:Hp->Prop):Prop where
 go:∀i H,Hk H->i<items.length->J.go i H
 yld:∀i H x H',Hk H->J.yld i H x H'->H'=H/\(i<items.length->items[i]?=some x)
 stop:∀H,Hk H->J.stop items.length H
theorem zAl (lo:Int)(n:Nat):Known (Itr lo n) ((bu n).map fun(i:Nat)=>V.int (lo+(i:Int))) (fun _=>True) :=
 ⟨fun i H _ h=>by show i<n;simpa using h,fun i H x b _ h=>⟨h.1,fun hi=>by
  have a:i<n:=by simpa using hi
  rw[az,eC a,h.2];rfl⟩,fun H _=>by show n<=_;simp⟩
theorem jF (K:ag)(a:ao)(xs:List V):Known (Itl K a) xs (fun H=>z6 K H a xs) :=
 ⟨fun i H h hi=>⟨xs,xs[i],h,ay hi⟩,fun i H x b h y=>⟨y.1,fun _=>y.2 xs h⟩,fun H h=>⟨xs,h,aA _⟩⟩
theorem zBP (K:ag)(a:ao)(xs:List V):Known (Itt K a) xs (fun H=>zX K H a xs) :=
 ⟨fun i H h hi=>⟨xs,xs[i],h,ay hi⟩,fun i H x b h y=>⟨y.1,fun _=>y.2 xs h⟩,fun H h=>⟨xs,h,aA _⟩⟩
theorem zMd (z:Str):Known (Its z) (z.cps.toList.map fun c=>V.str ⟨#[c]⟩) (fun _=>True) :=
 ⟨fun i H _ h=>by show i<z.cps.size;simpa using h,fun i H x b _ h=>⟨h.1,fun _=>by
  obtain⟨c,e1,a⟩:=h.2
  rw[az,dY,e1,a];rfl⟩,fun H _=>by show _=z.cps.size;simp⟩
theorem zGt {J:It}{items:List V}{Hk:Hp->Prop}(u:Known J items Hk){caps:List Nat}{n:Nat}{σ:St}{g:TG}{C:TT}{D:TE}{F:List V->Hp->Prop}{E:Hp}(cv:St)(k:Nat)(hn:items.length<1000)
  (Pv:Nat->List V->Hp->Prop) (G:Pv 0 [] E) (I:∀i a H,i<=items.length->Pv i a H->Hk H/\a.length<=i)
  (l:∀(i:Nat) (x:V) (a:List V) (H:Hp) (ys:St) (v:List V->St->Hp->Prop),(∀c d t,t.length=k->Pv (i+1) c d->v c (cv++t) d)->items[i]?=some x->ys.length=k->Pv i a H->
   g x (cv++ys) H fun f w=>C f w fun b o=>if b=true then D f o fun y j=>v (a++[y]) f j else v a f o)
  (fin:∀a H,Pv items.length a H->F a H) (z:uX caps n σ=cv++aR k none:=by rfl) :
  ∃W:Nat->Nat->List V->St->Hp->Prop,(∃m,W 0 m [] (uX caps n σ) E)/\∀i m a q d,W i m a q d->
   (J.stop i d/\F a d)\/
   (J.go i d/\a.length<sizeLine/\∀x r,J.yld i d x r->g x q r fun f w=>C f w fun b o=>if b=true then D f o fun y j=>∃h,h<m/\W (i+1) h (a++[y]) f j else∃h,h<m/\W (i+1) h a f o):=by
 refine⟨fun i m a q d=>i<=items.length/\m=items.length-i/\(∃ys,ys.length=k/\q=cv++ys)/\Pv i a d,⟨items.length,bo _,rfl,⟨_,by simp,z⟩,G⟩,?_⟩
 rintro i m a q d ⟨hi,rfl,⟨ys,L,rfl⟩,pv⟩
 obtain⟨A,ha⟩:=I i a d hi pv
 by_cases e:i=items.length
 ·subst e
  exact .inl ⟨u.stop d A,fin a d pv⟩
 ·have s:i<items.length:=by omega
  refine .inr ⟨u.go i d A s,by rw[aL];omega,fun x r B=>?_⟩
  obtain⟨M,N⟩:=u.yld i d x r A B
  subst M
  exact l i x a r ys (fun c f j=>∃h,h<items.length-i/\(i+1<=items.length/\h=items.length- (i+1)/\(∃ys,ys.length=k/\f=cv++ys)/\Pv (i+1) c j)) (fun c j t hz p=>⟨items.length- (i+1),by omega,by omega,rfl,⟨t,hz,rfl⟩,p⟩) (N s) L pv
theorem qK {J:It}{items:List V}{Hk:Hp->Prop}(A:Known J items Hk){caps:List Nat}{n:Nat}{σ:St}{g:TG}{s:TE}{F:List V->Hp->Prop}{u:Hp}(cv:St)(k:Nat)(hn:items.length<1000)
  (Pv:Nat->List V->Hp->Prop) (B:Pv 0 [] u) (C:∀i a H,i<=items.length->Pv i a H->Hk H/\a.length<=i)
  (o:∀(i:Nat) (x:V) (a:List V) (H:Hp) (ys:St) (j:List V->St->Hp->Prop),(∀d f v,v.length=k->Pv (i+1) d f->j d (cv++v) f)->items[i]?=some x->ys.length=k->Pv i a H->
   g x (cv++ys) H fun c h=>s c h fun y l=>j (a++[y]) c l)
  (fin:∀a H,Pv items.length a H->F a H) (t:uX caps n σ=cv++aR k none:=by rfl) :
  ∃W:Nat->Nat->List V->St->Hp->Prop,(∃m,W 0 m [] (uX caps n σ) u)/\∀i m a w f,W i m a w f->
   (J.stop i f/\F a f)\/
   (J.go i f/\a.length<sizeLine/\∀x z,J.yld i f x z->g x w z fun c h=>zAF c h fun b q=>if b=true then s c q fun y l=>∃r,r<m/\W (i+1) r (a++[y]) c l else∃r,r<m/\W (i+1) r a c q):=by
 refine zGt A cv k hn Pv B C (fun i x a H ys j D E G p=>?_) fin t
 have:=o i x a H ys j D E G p
 have e:(fun(c:St) (h:Hp)=>zAF c h fun b q=>if b=true then s c q fun y l=>j (a++[y]) c l else j a c q)=fun c h=>s c h fun y l=>j (a++[y]) c l:=by
  funext c h
  unfold zAF
  exact if_pos rfl
 rw[e]
 exact this
theorem jG {J:It}{items:List V}{Hk:Hp->Prop}(h:Known J items Hk){g:TG}{tb:TS}{D:Ends}{σ:St}{H:Hp}(Pv:Nat->St->Hp->Prop)(r:Pv 0 σ H)(s:∀i σ H,i<=items.length->Pv i σ H->Hk H)
  (d:∀(i:Nat) (x:V) (σ:St) (H:Hp) (j:St->Hp->Prop),(∀b a,Pv (i+1) b a->j b a)->items[i]?=some x->Pv i σ H->g x σ H fun l c=>tb {D with nx:=j,ct:=j,bk:=D.nx} l c)
  (fin:∀σ H,Pv items.length σ H->D.nx σ H) :
  ∃W:Nat->Nat->St->Hp->Prop,(∃m,W 0 m σ H)/\∀i m σ H,W i m σ H->
   (J.stop i H/\D.nx σ H)\/(J.go i H/\∃N:St->Hp->Prop,(∀b a,N b a->∃q,q<m/\W (i+1) q b a)/\∀x a,J.yld i H x a->g x σ a fun l c=>tb {D with nx:=N,ct:=N,bk:=D.nx} l c):=by
 refine⟨fun i m σ H=>i<=items.length/\m=items.length-i/\Pv i σ H,⟨items.length,bo _,rfl,r⟩,?_⟩
 rintro i m σ H ⟨hi,rfl,pv⟩
 have n:=s i σ H hi pv
 by_cases e:i=items.length
 ·subst e
  exact .inl ⟨h.stop H n,fin σ H pv⟩
 ·have f:i<items.length:=by omega
  refine .inr ⟨h.go i H n f,Pv (i+1),fun b a p=>⟨items.length- (i+1),by omega,by omega,rfl,p⟩,fun x c o=>?_⟩
  obtain⟨t,u⟩:=h.yld i H x c n o
  subst t
  exact d i x σ c (Pv (i+1)) (fun _ _ p=>p) (u f) pv
theorem zAm {c A B:Prop} [Decidable c] (a:c)(h:A):if decide c=true then A else B:=by
 rw[if_pos (decide_eq_true a)];exact h
theorem zAJ {c A B:Prop} [Decidable c] (a:¬c)(h:B):if decide c=true then A else B:=by
 rw[if_neg (fun z=>a (of_decide_eq_true z))];exact h
theorem zA.upd_new {H c:Hp}{a:ao}{o:HO}(e:zA H c)(h:H a=none):zA H (upd c a o):=fun b u q=>by
 rw[zG (yF q h)];exact e b u q
theorem zA.upd1 {H:Hp}{a:ao}{o:HO}(h:H a=none):zA H (upd H a o):=(zA.refl H).upd_new h
noncomputable def zBv (sc:fS)(XN N:List Str)(scope:fS):Nat->List Nat->Bool
 |_,[]=>true
 |i,c::cs=>(match N[i]? with
  |some x=>decide (XN[c]?=some x)&&decide (scope.names.lookup x=some .free)&& (decide (sc.names.lookup x=some .cell)||decide (sc.names.lookup x=some .free))
  |none=>false)&&zBv sc XN N scope (i+1) cs
noncomputable def zGu (sc:fS)(XN N:List Str)(scope:fS)(caps:List Nat):Bool :=
 decide (scope.kind=.function)&&decide N.Nodup&&scope.names.all (fun y=>decide (y.2≠.cell))&&scope.names.all (fun y=>decide (y.2=.local->scope.names.lookup y.1=some .local))&&
 scope.names.all (fun y=>decide (y.2=.free->sc.names.lookup y.1=some .cell\/sc.names.lookup y.1=some .free))&&zBv sc XN N scope 0 caps&&decide (caps.length<=N.length)
theorem zGv {g:fS}{l N:List Str}{scope:fS}:∀{caps:List Nat}{j:Nat},zBv g l N scope j caps=true->∀i,i<caps.length->
  ∃x,N[j+i]?=some x/\l[caps.getD i 0]?=some x/\scope.names.lookup x=some .free/\(g.names.lookup x=some .cell\/g.names.lookup x=some .free)
 | [],_,_,i,hi=>by simp at hi
 |c::o,j,h,i,hi=>by
  unfold zBv at h
  rw[bA]at h
  obtain⟨f,m⟩:=h
  cases i with
  |zero=>
   cases e:N[j]? with
   |none=>rw[e]at f;cases f
   |some x=>
    rw[e]at f
    simp only[bA,jj,decide_eq_true_eq]at f
    exact⟨x,by simpa using e,by simpa using f.1.1,f.1.2,f.2⟩
  |succ i=>
   obtain⟨x,a,b,n,d⟩:=zGv m i (by simpa using hi)
   exact⟨x,by rw[<-a];congr 1;omega,by simpa using b,n,d⟩
theorem v9 {j:fS}{l N:List Str}{scope:fS}{caps:List Nat}(h:zGu j l N scope caps=true):CompScope j l N scope caps:=by
 unfold zGu at h
 simp only[bA,decide_eq_true_eq,iY]at h
 obtain⟨⟨⟨⟨⟨⟨a,b⟩,c⟩,d⟩,e⟩,f⟩,g⟩:=h
 exact⟨a,b,c,d,e,fun i hi=>by simpa using zGv f i hi,g⟩
section
variable{X:Cx}{pins:List (ao×Obj)}{σ:St}{H:Hp}{s:aq}
theorem Inv.turnedT {fp:List ao}{h':bB}{t':Nat}{T:ao}{o:HO}(I:Inv X pins σ H s)(k:∀b u,b∉fp->s.heap.get? b=some u->h'.get? b=some u)(hf:∀b∈fp,uT X pins H b)(h:s.heap.get? T=none)
  (new:yP X.prog X.w (upd H T o) h' T o):Inv X pins σ (upd H T o) {s with heap:=h',toks:=t'}:=by
 have hn:H T=none:=I.hok.free h
 have d:∀b u,H b=some u->b∉fp:=fun b u e z=>by rw[(hf b z).1]at e;cases e
 have f:zA H (upd H T o):=zA.upd1 hn
 have old:∀b (u:Obj),s.heap.get? b=some u->upd H T o b=H b:=fun b u e=>by
  rw[zG]
  rintro rfl
  rw[h]at e;cases e
 refine I.step (g':=s.gens) (d':=s.drawn) (ch:=fp) (fun b g=>?_) (fun b o _ _ a e _=>k b o a e) (fun b o _ _ a e _=>⟨o.slots,k b o a e⟩) (fun b u _ e n=>by rw[old b u e];exact n)
  (fun b o a e=>⟨o,k b o a e⟩) (fun b xs e=>f _ _ e) (fun b u v e=>f _ _ e) (fun b ps e=>⟨#[],by rw[f _ _ e];simp⟩) (fun m i=>?_) (fun b u e=>?_) I.bare
 ·obtain⟨y,f1,f2,j,l,p⟩:=hf b g
  exact⟨j,f1,l,p⟩
 ·obtain⟨o,t,ep,x,r⟩:=i
  exact⟨o,t,ep,k _ o (fun z=>(hf _ z).2.1 rfl) x,r⟩
 ·by_cases g:b=T
  ·subst g;rw[zF]at e;cases e;exact new
  ·rw[zG g]at e
   refine(I.hok b u e).stay (fun c v a q=>k c v ?_ q) (fun c q=>?_) fun c xs q=>?_
   ·rcases a with z|z
    ·rw[z];exact d b u e
    ·exact d c _ z
   ·exact f _ _ q
   ·exact f _ _ q
end
noncomputable def Ite (K:ag)(a:ao):It :=
 ⟨fun i H=>∃xs x,z6 K H a xs/\xs[i]?=some x,fun i H x H'=>∃T y,x=.ref T/\H T=none/\H'=upd H T (.tup [.int i,y])/\∀xs,z6 K H a xs->xs[i]?=some y,fun i H=>∃xs,z6 K H a xs/\xs.length=i⟩
theorem zMe {P:aH}{w:aW}{K:ag}{C:List bF}{k:Nat}{pos:Pos}(a e f:ao)(n:e≠f):Turn P w K (.Tuple C k pos) (Ite K a) [e,f] e (fun i h=>(∃old,IsEnum h e f i old)/\h.IsListIter f a i) where
 mem:=by simp
 obj:=fun i h st b j=>by
  obtain⟨⟨old,he⟩,hit⟩:=st
  rcases aE.mp j with z|z
  ·subst z;exact⟨_,he,fun v z=>by cases z⟩
  ·have R:b=f:=by simpa using z
   subst R
   obtain⟨o,e,c,d⟩:=hit
   exact⟨o,e,fun v z=>by rw[d]at z;cases z⟩
 keep:=fun i h h' st kk=>⟨let⟨old,he⟩:=st.1;⟨old,kk e (by simp) _ he⟩,st.2.at fun o x=>kk f (by simp) o x⟩
 item:=by
  intro X F T U W i G s σ H E I hf st Y
  subst F T U
  obtain⟨xs,x,N,Z⟩:=Y
  obtain⟨its,rv,p,hz⟩:=I.list N
  obtain⟨u,hu,ru⟩:=rv.get Z
  obtain⟨⟨old,he⟩,hit⟩:=id st
  have aa:e≠a:=fun z=>by
   subst z
   obtain⟨o,B,l,_⟩:=p.isList
   rw[he]at B;cases B
   have ab:Value.type "enumerate"=Value.type "list" :=l
   exact absurd ab (by decide)
  have r:a≠f:=fun z=>by
   subst z
   obtain⟨o,B,l,_⟩:=p.isList
   obtain⟨o',m,J,_⟩:=hit
   rw[B]at m;cases m;rw[l]at J;exact absurd J (by decide)
  have D:=mQ (prog:=X.prog) (w:=X.w) (A:=X.A.in1) (show X.A.in1.handled=none from I.ok.hd W) f a r its.toArray
  have ac:i<its.toArray.size:=by
   have:=(ak.mp hu).1
   simpa using this
  refine ma D he ⟨hit,p.isList⟩ ac n (by simp[n,aa]) fun O h' tk F ho al hT hsz hk=>?_
  have am:O=u:=by
   have:its[i]?=some O:=by simpa using F
   rw[hu]at this;exact(aB this).symm
  subst am
  refine⟨_,rfl,ku ho fun l an t=>?_⟩
  have y:s.heap.get? s.heap.objs.size=none:=by
   cases g:s.heap.get? s.heap.objs.size with
   |none=>rfl
   |some o=>exact absurd (aD g) (bI _)
  have L:e<s.heap.objs.size:=aD he
  have ap:l.get? s.heap.objs.size=some {cls:=.type "tuple",data:=.seq #[.int i tk,O]}:=(t.2 _ (cw L)).trans hT
  refine⟨.ref s.heap.objs.size,upd H s.heap.objs.size (.tup [.int i,x]),I.turnedT (fp:=[e,f]) (h':=l) (t':=tk+1) (fun b o j q=>?_) hf y ⟨by show 2<=sizeLine;decide,[.int i tk,O],.cons ⟨tk,rfl⟩ (.cons ru .nil),⟨_,ap,rfl,_,rfl⟩⟩,rfl,
   ⟨_,x,rfl,I.hok.free y,rfl,fun ys hy=>by rw[I.list_inj hy N];exact Z⟩,⟨⟨_,by simpa using an⟩,al.1.at fun o q=>(t.2 f (dz n)).trans q⟩,fun b j=>?_⟩
  ·have M:b≠e:=fun z=>j (by simp[z])
   have as:b≠f:=fun z=>j (by simp[z])
   exact(t.2 b M).trans (hk b o M as q)
  ·rw[zG]
   ·exact(hf b j).1
   ·rintro rfl
    rcases aE.mp j with z|z
    ·exact absurd L (by rw[z];exact bI _)
    ·have R:s.heap.objs.size=f:=by simpa using z
     obtain⟨o,m,_⟩:=hit
     rw[<-R,y]at m;cases m
 done:=by
  intro X F T U W i G s σ H E I hf st Y
  subst F T U
  obtain⟨xs,N,Z⟩:=Y
  obtain⟨its,rv,p,hz⟩:=I.list N
  obtain⟨⟨old,he⟩,hit⟩:=id st
  have hl:=rv.length
  have r:a≠f:=fun z=>by
   subst z
   obtain⟨o,B,l,_⟩:=p.isList
   obtain⟨o',m,J,_⟩:=hit
   rw[B]at m;cases m;rw[l]at J;exact absurd J (by decide)
  have D:=mQ (prog:=X.prog) (w:=X.w) (A:=X.A.in1) (show X.A.in1.handled=none from I.ok.hd W) f a r its.toArray
  obtain⟨f0,f1,f2,f3,f4,f5⟩:=hf f (by simp)
  have hi:its.toArray.size=i:=by rw[aG];omega
  refine mR D he ⟨by rw[hi];exact hit,p.isList⟩ fun h' eb=>⟨rfl,I.turned (t':=s.toks) (fun b o j e=>eb b o j e) f0 f1 f3 f4 f5⟩
 self:=fun A i s Q E st h=>let⟨old,he⟩:=st.1;iM he h
section
variable{X:Cx}{elts:List bF}{k:Nat}{tpos:Pos}
noncomputable def zMf (K:ag)(ta:TA):TI:=fun σ H R=>ta σ H fun vs H1=>∃a xs,vs=[.ref a]/\H1 a=some (.lst xs)/\R (Ite K a) H1
theorem zMg {e:bF}{i:TA}{p pos:Pos}(l:Gl X "enumerate")(m:X.mg "enumerate"=none)(ha:PA X [e] i)(o:starEach [e] X.env=[(false,eval e X.env)]:=by rfl):PI X (.Tuple elts k tpos) (.Call (.Name "enumerate" p) [e] [] pos) (zMf X.K i):=by
 intro c s σ H R I h
 refine uh (qB I l m rK (bQ (zH (ha pos c s σ H _ I h) fun us d zq=>?_) o rfl))
 obtain⟨vs,j,g,t,v⟩:=zq
 obtain⟨a,xs,rfl,hl,q⟩:=v
 obtain⟨u,rfl,w⟩:=uM t
 cases w
 obtain⟨z,its,n,r,x⟩:=g.hok a _ hl
 refine call_enumerate_1 x fun h' he hit hsz y=>?_
 have A:Inv X c σ j {d with heap:=h'}:=g.kept (t':=d.toks) y
 refine iM he ⟨_,[d.heap.objs.size+1,d.heap.objs.size],_,_,j,rfl,A,zMe a _ _ (Nat.succ_ne_self _),⟨⟨_,he⟩,hit⟩,fun b B=>?_,q⟩
 have f:d.heap.objs.size<=b:=by
  rcases aE.mp B with z|z
  ·rw[z];exact fb _
  ·have:b=d.heap.objs.size:=by simpa using z
   rw[this];exact aA _
 exact g.fpOk f (g.hok.fresh f)
theorem zMh {K:ag}{a:ao}{xs:List V}{g:TG}{tb:TS}{D:Ends}{σ:St}{H:Hp}(Pv:Nat->St->Hp->Prop)(r:Pv 0 σ H)(s:∀i σ H,i<=xs.length->Pv i σ H->z6 K H a xs)
  (d:∀(i:Nat) (x:V) (T:ao) (σ:St) (H:Hp) (h:St->Hp->Prop),(∀c b,Pv (i+1) c b->h c b)->xs[i]?=some x->Pv i σ H->H T=none->g (.ref T) σ (upd H T (.tup [.int i,x])) fun j f=>tb {D with nx:=h,ct:=h,bk:=D.nx} j f)
  (fin:∀σ H,Pv xs.length σ H->D.nx σ H) :
  ∃W:Nat->Nat->St->Hp->Prop,(∃m,W 0 m σ H)/\∀i m σ H,W i m σ H->
   ((Ite K a).stop i H/\D.nx σ H)\/((Ite K a).go i H/\∃N:St->Hp->Prop,(∀c b,N c b->∃q,q<m/\W (i+1) q c b)/\∀x b,(Ite K a).yld i H x b->g x σ b fun j f=>tb {D with nx:=N,ct:=N,bk:=D.nx} j f):=by
 refine⟨fun i m σ H=>i<=xs.length/\m=xs.length-i/\Pv i σ H,⟨xs.length,bo _,rfl,r⟩,?_⟩
 rintro i m σ H ⟨hi,rfl,pv⟩
 have l:=s i σ H hi pv
 by_cases e:i=xs.length
 ·subst e
  exact .inl ⟨⟨xs,l,rfl⟩,fin σ H pv⟩
 ·have n:i<xs.length:=by omega
  refine .inr ⟨⟨xs,xs[i],l,ay n⟩,Pv (i+1),fun c b p=>⟨xs.length- (i+1),by omega,by omega,rfl,p⟩,fun x f o=>?_⟩
  obtain⟨T,y,rfl,t,rfl,u⟩:=o
  exact d i y T σ H (Pv (i+1)) (fun _ _ p=>p) (u xs l) pv t
end
section
variable{prog:aH}{w:aW}{A:bK}{E:ai->aq->Prop}{s:aq}
theorem zMi {a t:ao}{i:Nat}{items}{x:ai}{Q:ai->aq->Prop}(hit:s.heap.IsTupleIter a t i)(e:s.heap.IsTuple t items)(f:items[i]?=some x)
  (g:∀h',h'.IsTupleIter a t (i+1)->e7 a s.heap h'->Q x {s with heap:=h'}):wpAny (model prog w) A (bZ (.ref a)) Q E s:=by
 obtain⟨o,b,h,hd⟩:=id hit
 obtain⟨ol,c,_,nl,d⟩:=e
 unfold bZ
 refine af (bU (name:=di "__next__") hit.typeIs eN (cf eN hit.typeIs ju ?_ (jk _)))
 show wpAny _ _ (field (.ref a) 0>>=_) _ _ s
 refine af (cC b hd (x:=.ref t) rfl ?_)
 show wpAny _ _ (if(Value.ref t==Value.none)=true then _ else _) _ _ s
 rw[if_neg (show ¬((Value.ref t==Value.none)=true)from aT)]
 show wpAny _ _ (field (.ref a) 1>>=_) _ _ s
 refine af (cC b hd (x:=.int i 0) rfl ?_)
 show wpAny _ _ (seqItems? (.ref t)>>=_) _ _ s
 refine af (da c d ?_)
 simp only[cX,f]
 refine af (rL b hd (by simp) (ar ⟨x,rfl,ar (g _ ?_ (ia ..))⟩))
 exact⟨_,eR _ b (Obj.isFreed_of_fields (oO hd _)),(Obj.cls_mapFields ..).trans h,by rw[oO hd];simp[rawInt]⟩
theorem zMj {b t:ao}{i:Nat}{items}{Q:ai->aq->Prop}(g:A.handled=none)(hit:s.heap.IsTupleIter b t i)(h:s.heap.IsTuple t items)(j:items[i]?=none)
  (l:∀h' e,Heap.ExtBut b s.heap h'->(∃o,h'.get? e=some o/\o.cls=.type "StopIteration")->E (.ref e) {s with heap:=h'}):wpAny (model prog w) A (bZ (.ref b)) Q E s:=by
 obtain⟨o,c,n,hd⟩:=id hit
 obtain⟨ol,d,_,nl,f⟩:=h
 unfold bZ
 refine af (bU (name:=di "__next__") hit.typeIs eN (cf eN hit.typeIs ju ?_ (jk _)))
 show wpAny _ _ (field (.ref b) 0>>=_) _ _ s
 refine af (cC c hd (x:=.ref t) rfl ?_)
 show wpAny _ _ (if(Value.ref t==Value.none)=true then _ else _) _ _ s
 rw[if_neg (show ¬((Value.ref t==Value.none)=true)from aT)]
 show wpAny _ _ (field (.ref b) 1>>=_) _ _ s
 refine af (cC c hd (x:=.int i 0) rfl ?_)
 show wpAny _ _ (seqItems? (.ref t)>>=_) _ _ s
 refine af (da d f ?_)
 simp only[cX,j]
 refine af (fR (af (rL c hd (by simp) ?_)))
 show wpAny _ _ (newExc (.type "StopIteration") []>>=_) _ _ _
 refine af ?_
 simp only[newExc,newTuple]
 refine af (cg ?_ (by size_fits))
 refine af (m:=firstArgMember _ _) (qm (a:=Value.none) (by first|rfl|(simp only[firstArgMember];rfl)) ?_)
 refine cg ?_ (by size_fits)
 simp only[raiseNew]
 refine af (sU ?_)
 first|rw[show A.in1.handled=none from g]|rw[g]
 refine af (ar (wpAny_throw ?_))
 exact l _ _ (((ia ..).extBut.push _).push _) ⟨_,aC _ rfl,rfl⟩
end
theorem zBQ {prog:aH}{w:aW}{A:bK}(g:A.handled=none)(a l:ao)(d:l≠a)(items:Array ai) :
  nI prog w A a [a,l] items.size (fun i v=>items[i]?=some v) (fun i h=>h.IsTupleIter a l i/\h.IsTuple l items) where
 live:=fun _ _ st=>let⟨o,j,_⟩:=st.1;⟨o,j⟩
 frame:=fun _ _ _ st f=>⟨st.1.at fun o e=>f a (by simp) o e,let⟨o,e,r⟩:=st.2;⟨o,f l (by simp) o e,r⟩⟩
 item:=fun i s Q E hi st m=>zMi st.1 st.2 (x:=items[i]) (by simp[hi]) fun h' b c=>m _ h' s.toks (by simp[hi]) ⟨b,st.2.extBut c.extBut d⟩ c
 done:=fun s Q E st n=>zMj g st.1 st.2 (by simp) n
structure Side (z TI TO i1 i2:ao) (fp1 fp2:List ao):Prop where
 TIz:TI≠z
 TOz:TO≠z
 i1z:i1≠z
 i2z:i2≠z
 TITO:TI≠TO
 TIi1:TI≠i1
 TIi2:TI≠i2
 TOi1:TO≠i1
 TOi2:TO≠i2
 i12:i1≠i2
 f1:∀c∈fp1,c≠z/\c≠TO/\c≠i2
 f2:∀c∈fp2,c≠z/\c≠TO/\c≠i1
section
variable{prog:aH}{w:aW}{A:bK}{E:ai->aq->Prop}{s:aq}{z TI TO i1 i2:ao}{fp1 fp2:List ao}{n1 n2:Nat}{P1 P2:Nat->ai->Prop}{T1 T2:Nat->bB->Prop}{k:Nat}{a b:ai}
theorem zMk {Q:ai->aq->Prop}(N:nI prog w A i1 fp1 n1 P1 T1)(H:nI prog w A i2 fp2 n2 P2 T2)(D:Side z TI TO i1 i2 fp1 fp2)
  (hz:iN s.heap z TI TO .none) (P:dQ s.heap TI (.ref i1) (.ref i2)) (R:dQ s.heap TO a b) (t1:T1 k s.heap) (t2:T2 k s.heap) (l1:k<n1) (l2:k<n2)
  (hQ:∀x y h' tk,P1 k x->P2 k y->iN h' z TI TO (rawInt s.heap.objs.size)->dQ h' TO x y->T1 (k+1) h'->T2 (k+1) h'->dQ h' s.heap.objs.size x y->h'.objs.size=s.heap.objs.size+1->
   (∀c o,c≠z->c≠TO->c≠i1->c≠i2->s.heap.get? c=some o->h'.get? c=some o)->Q (.ref s.heap.objs.size) {s with heap:=h',toks:=tk}) :
  wpAny (model prog w) A (cJ.«zip.__next__» ⟨[.ref z],[]⟩) (fun fin s'=>∃v,fin=.done (.ret v)/\Q v s') E s:=by
 show wpAny _ _ (field (.ref z) 2>>=_) _ _ _
 refine af (cC hz rfl (x:=.bool false) rfl ?_)
 show wpAny _ _ (field (.ref z) 3>>=_) _ _ _
 refine af (cC hz rfl (x:=.ref TI) rfl ?_)
 refine af (da P rfl ?_)
 show wpAny _ _ (b8 (.ref z)>>=_) _ _ _
 refine af ?_
 unfold b8
 refine af (cC hz rfl (x:=.none) rfl (ar ?_))
 simp only[if_true]
 refine af (fR ?_)
 refine af (cC hz rfl (x:=.ref TO) rfl ?_)
 refine af (bX hz (by simp) fun h₁ u h=>?_)
 replace u:iN h₁ z TI TO .ellipsis:=u
 refine af ?_
 simp only[md,m8,eZ,fD]
 refine af (af (i8 ?_))
 show wpAny _ _ (bZ (.ref i1)>>=_) _ _ _
 have T:T1 k h₁:=N.frame _ _ _ t1 fun c d o e=>h.extBut _ _ (D.f1 c d).1 e
 have U:T2 k h₁:=H.frame _ _ _ t2 fun c d o e=>h.extBut _ _ (D.f2 c d).1 e
 refine af (N.item k _ _ _ l1 T fun x h₂ al px W i=>ar ?_)
 have q:dQ h₂ TO a b:=i.extBut _ _ D.TOi1 (h.extBut _ _ D.TOz R)
 refine af (da q rfl ?_)
 refine af (je q fun h₃ j l=>?_)
 replace j:dQ h₃ TO x b:=j
 refine af (nJ (ar ?_))
 refine af (af (i8 ?_))
 show wpAny _ _ (bZ (.ref i2)>>=_) _ _ _
 have X:T2 k h₃:=H.frame _ _ _ U fun c d o e=>l.extBut _ _ (D.f2 c d).2.1 (i.extBut _ _ (D.f2 c d).2.2 e)
 refine af (H.item k _ _ _ l2 X fun y h₄ am py Y m=>ar ?_)
 have r:dQ h₄ TO x b:=m.extBut _ _ D.TOi2 j
 refine af (da r rfl ?_)
 refine af (je r fun f g n=>?_)
 replace g:dQ f TO x y:=g
 refine af (nJ (ar (ar ?_)))
 refine af (da g rfl ?_)
 refine af (ko ?_)
 have hsz:f.objs.size=s.heap.objs.size:=by rw[n.1,m.1,l.1,i.1,h.1]
 have I:iN f z TI TO .ellipsis:=n.extBut _ _ D.TOz.symm (m.extBut _ _ D.i2z.symm (l.extBut _ _ D.TOz.symm (i.extBut _ _ D.i1z.symm u)))
 have Z:∀c o,c≠z->c≠TO->c≠i1->c≠i2->s.heap.get? c=some o->f.get? c=some o:=fun c o B O c3 c4 e=>
  n.extBut _ _ O (m.extBut _ _ c4 (l.extBut _ _ O (i.extBut _ _ c3 (h.extBut _ _ B e))))
 have aa:T1 (k+1) f:=N.frame _ _ _ W fun c d o e=>n.extBut _ _ (D.f1 c d).2.1 (m.extBut _ _ (D.f1 c d).2.2 (l.extBut _ _ (D.f1 c d).2.1 e))
 have ab:T2 (k+1) f:=H.frame _ _ _ Y fun c d o e=>n.extBut _ _ (D.f2 c d).2.1 e
 have t:z<f.objs.size:=aD I
 show wpAny _ _ (ic (.ref z) (.ref f.objs.size)>>=_) _ _ _
 refine af ?_
 unfold ic
 have ac:iN (f.push {cls:=.type "tuple",data:=.seq #[x,y]}) z TI TO .ellipsis:=ae _ I
 refine af (bX ac (by simp) fun h₇ C F=>?_)
 replace C:iN h₇ z TI TO (rawInt f.objs.size):=C
 refine bX C (by simp) fun J p G=>?_
 replace p:iN J z TI TO (rawInt f.objs.size):=p
 have up:∀c o,c≠z->f.get? c=some o->J.get? c=some o:=fun c o B e=>G.extBut _ _ B (F.extBut _ _ B (ae _ e))
 have L:dQ J f.objs.size x y:=G.extBut _ _ (cw t) (F.extBut _ _ (cw t) (aC _ rfl))
 have M:J.objs.size=f.objs.size+1:=by rw[G.1,F.1,br]
 rw[hsz]at p L M
 refine ar ⟨_,rfl,?_⟩
 show Q (.ref f.objs.size) _
 rw[hsz]
 exact hQ x y J _ px py p (up _ _ D.TOz g) (N.frame _ _ _ aa fun c d o e=>up c o (D.f1 c d).1 e) (H.frame _ _ _ ab fun c d o e=>up c o (D.f2 c d).1 e) L M fun c o B O c3 c4 e=>up c o B (Z c o B O c3 c4 e)
theorem zMl {Q:Fin->aq->Prop}(q:nI prog w A i1 fp1 n1 P1 T1)(H:nI prog w A i2 fp2 n2 P2 T2)(D:Side z TI TO i1 i2 fp1 fp2)
  (hz:iN s.heap z TI TO .none) (m:dQ s.heap TI (.ref i1) (.ref i2)) (t:dQ s.heap TO a b) (u:T1 n1 s.heap)
  (v:∀h' e,(∀c o,c≠z->c≠TO->c≠i1->c≠i2->s.heap.get? c=some o->h'.get? c=some o)->(∃o,h'.get? e=some o/\o.cls=.type "StopIteration")->E (.ref e) {s with heap:=h'}) :
  wpAny (model prog w) A (cJ.«zip.__next__» ⟨[.ref z],[]⟩) Q E s:=by
 show wpAny _ _ (field (.ref z) 2>>=_) _ _ _
 refine af (cC hz rfl (x:=.bool false) rfl ?_)
 show wpAny _ _ (field (.ref z) 3>>=_) _ _ _
 refine af (cC hz rfl (x:=.ref TI) rfl ?_)
 refine af (da m rfl ?_)
 show wpAny _ _ (b8 (.ref z)>>=_) _ _ _
 refine af ?_
 unfold b8
 refine af (cC hz rfl (x:=.none) rfl (ar ?_))
 simp only[if_true]
 refine af (fR ?_)
 refine af (cC hz rfl (x:=.ref TO) rfl ?_)
 refine af (bX hz (by simp) fun h₁ d g=>?_)
 replace d:iN h₁ z TI TO .ellipsis:=d
 refine af ?_
 simp only[md,m8,eZ,fD]
 refine af (af (i8 ?_))
 show wpAny _ _ (bZ (.ref i1)>>=_) _ _ _
 have n:T1 n1 h₁:=q.frame _ _ _ u fun c y o e=>g.extBut _ _ (D.f1 c y).1 e
 refine af (q.done _ _ _ n fun B e h he=>?_)
 obtain⟨C,f,i⟩:=he
 have j:iN B z TI TO .ellipsis:=h _ _ D.i1z.symm d
 have p:e≠z:=fun x=>by subst x;rw[j]at f;cases f;simp at i
 refine bX j (by simp) fun F _ l=>v F e (fun c o r _ G _ x=>l.extBut _ _ r (h _ _ G (g.extBut _ _ r x))) ⟨C,l.extBut _ _ p f,i⟩
theorem zMm {Q:Fin->aq->Prop}(F:nI prog w A i1 fp1 n1 P1 T1)(r:nI prog w A i2 fp2 n2 P2 T2)(D:Side z TI TO i1 i2 fp1 fp2)
  (hz:iN s.heap z TI TO .none) (t:dQ s.heap TI (.ref i1) (.ref i2)) (u:dQ s.heap TO a b) (I:T1 n2 s.heap) (J:n2<n1) (L:T2 n2 s.heap)
  (M:∀h' e tk,(∀c o,c≠z->c≠TO->c≠i1->c≠i2->s.heap.get? c=some o->h'.get? c=some o)->(∃o,h'.get? e=some o/\o.cls=.type "StopIteration")->E (.ref e) {s with heap:=h',toks:=tk}) :
  wpAny (model prog w) A (cJ.«zip.__next__» ⟨[.ref z],[]⟩) Q E s:=by
 show wpAny _ _ (field (.ref z) 2>>=_) _ _ _
 refine af (cC hz rfl (x:=.bool false) rfl ?_)
 show wpAny _ _ (field (.ref z) 3>>=_) _ _ _
 refine af (cC hz rfl (x:=.ref TI) rfl ?_)
 refine af (da t rfl ?_)
 show wpAny _ _ (b8 (.ref z)>>=_) _ _ _
 refine af ?_
 unfold b8
 refine af (cC hz rfl (x:=.none) rfl (ar ?_))
 simp only[if_true]
 refine af (fR ?_)
 refine af (cC hz rfl (x:=.ref TO) rfl ?_)
 refine af (bX hz (by simp) fun h₁ h d=>?_)
 replace h:iN h₁ z TI TO .ellipsis:=h
 refine af ?_
 simp only[md,m8,eZ,fD]
 refine af (af (i8 ?_))
 show wpAny _ _ (bZ (.ref i1)>>=_) _ _ _
 have v:T1 n2 h₁:=F.frame _ _ _ I fun c l o e=>d.extBut _ _ (D.f1 c l).1 e
 have y:T2 n2 h₁:=r.frame _ _ _ L fun c l o e=>d.extBut _ _ (D.f2 c l).1 e
 refine af (F.item n2 _ _ _ J v fun x N O px P f=>ar ?_)
 have g:dQ N TO a b:=f.extBut _ _ D.TOi1 (d.extBut _ _ D.TOz u)
 refine af (da g rfl ?_)
 refine af (je g fun R G i=>?_)
 refine af (nJ (ar ?_))
 refine af (af (i8 ?_))
 show wpAny _ _ (bZ (.ref i2)>>=_) _ _ _
 have B:T2 n2 R:=r.frame _ _ _ y fun c l o e=>i.extBut _ _ (D.f2 c l).2.1 (f.extBut _ _ (D.f2 c l).2.2 e)
 refine af (r.done _ _ _ B fun T e m he=>?_)
 obtain⟨U,j,n⟩:=he
 have p:iN T z TI TO .ellipsis:=m _ _ D.i2z.symm (i.extBut _ _ D.TOz.symm (f.extBut _ _ D.i1z.symm h))
 have C:e≠z:=fun x=>by subst x;rw[p]at j;cases j;simp at n
 refine bX p (by simp) fun W _ q=>M W e _ (fun c o H X Y Z x=>q.extBut _ _ H (m _ _ Z (i.extBut _ _ X (f.extBut _ _ Y (d.extBut _ _ H x))))) ⟨U,q.extBut _ _ C j,n⟩
theorem zGw {Q:Option ai->aq->Prop}(g:nI prog w A.in1 i1 fp1 n1 P1 T1)(h:nI prog w A.in1 i2 fp2 n2 P2 T2)(D:Side z TI TO i1 i2 fp1 fp2)
  (hz:iN s.heap z TI TO .none) (d:dQ s.heap TI (.ref i1) (.ref i2)) (e:dQ s.heap TO a b) (i:T1 k s.heap) (j:T2 k s.heap) (l:k<n1) (m:k<n2)
  (n:∀x y h' tk,P1 k x->P2 k y->iN h' z TI TO (rawInt s.heap.objs.size)->dQ h' TO x y->T1 (k+1) h'->T2 (k+1) h'->dQ h' s.heap.objs.size x y->h'.objs.size=s.heap.objs.size+1->
   (∀c o,c≠z->c≠TO->c≠i1->c≠i2->s.heap.get? c=some o->h'.get? c=some o)->Q (some (.ref s.heap.objs.size)) {s with heap:=h',toks:=tk}):wpAny (model prog w) A (pyNext (.ref z)) Q E s:=by
 have f:s.TypeIs (.ref z) "zip" :=⟨_,hz,rfl⟩
 unfold pyNext
 exact af (fZ (bU (name:=di "__next__") f fW
  (cf fW f me (zMk g h D hz d e i j l m fun x y h' tk p q r t u v B C F=>ar (n x y h' tk p q r t u v B C F)) (lI _))))
theorem zGx {Q:Option ai->aq->Prop}(l:nI prog w A.in1 i1 fp1 n1 P1 T1)(m:nI prog w A.in1 i2 fp2 n2 P2 T2)(D:Side z TI TO i1 i2 fp1 fp2)
  (hz:iN s.heap z TI TO .none) (d:dQ s.heap TI (.ref i1) (.ref i2)) (f:dQ s.heap TO a b) (n:T1 k s.heap) (q:T2 k s.heap) (g:k=n1\/k<n1/\k=n2)
  (p:∀h' tk,(∀c o,c≠z->c≠TO->c≠i1->c≠i2->s.heap.get? c=some o->h'.get? c=some o)->Q none {s with heap:=h',toks:=tk}):wpAny (model prog w) A (pyNext (.ref z)) Q E s:=by
 have h:s.TypeIs (.ref z) "zip" :=⟨_,hz,rfl⟩
 unfold pyNext
 rcases g with rfl|⟨r,rfl⟩
 ·refine af (fZ (bU (name:=di "__next__") h fW
   (cf fW h me (zMl l m D hz d f n fun h' e g he=>?_) (lI _))))
  obtain⟨o,i,j⟩:=he
  refine af (iZ (T :="StopIteration") (b:=true) ⟨o,i,j⟩ nK ?_)
  exact ar (p _ s.toks g)
 ·refine af (fZ (bU (name:=di "__next__") h fW
   (cf fW h me (zMm l m D hz d f n r q fun h' e tk g he=>?_) (lI _))))
  obtain⟨o,i,j⟩:=he
  refine af (iZ (T :="StopIteration") (b:=true) ⟨o,i,j⟩ nK ?_)
  exact ar (p _ tk g)
end
theorem zMn (a b:ao)(xs ys:Array ai) :
  Meets (cJ.«zip.__new__» ⟨[.type "zip",.ref a,.ref b],[]⟩) (fun _ R s=>s.heap.IsList a xs/\s.heap.IsTuple b ys/\
   R (.ok (.ret (.ref (s.heap.objs.size+4)))) {s with heap:=((((s.heap.push {cls:=.type "list_iterator",data:=.fields #[.ref a,.int 0 0]}).push {cls:=.type "tuple_iterator",data:=.fields #[.ref b,.int 0 0]}).push {cls:=.type "tuple",data:=.seq #[.ref s.heap.objs.size,.ref (s.heap.objs.size+1)]}).push {cls:=.type "tuple",data:=.seq #[.none,.none]}).push {cls:=.type "zip",data:=.fields #[.none,.bool false,.bool false,.ref (s.heap.objs.size+2),.ref (s.heap.objs.size+3)]}}) :=
 .of_wp fun prog w A R s h=>by
  obtain⟨f,g,d,tk,os⟩:=s;obtain⟨hl1,hl2,h⟩:=h
  have i:=sub_zip
  have c:Heap.IsList (lJ ⟨f,g,d,tk,os⟩) a xs:=hl1
  have e:mS (lJ ⟨f.push {cls:=.type "list_iterator",data:=.fields #[.ref a,.int 0 0]},g,d,tk,os⟩) b ys:=pB hl2 _
  wp_walk using e8 c,dG e
  refine⟨_,rfl,?_⟩
  simp only[br]at*
  exact h
section
variable{prog:aH}{w:aW}{A:bK}{E:ai->aq->Prop}{s:aq}
theorem zMo {a b:ao}{xs ys:Array ai}{Q:ai->aq->Prop}(hl1:s.heap.IsList a xs)(hl2:s.heap.IsTuple b ys)
  (h:∀h',iN h' (s.heap.objs.size+4) (s.heap.objs.size+2) (s.heap.objs.size+3) .none->dQ h' (s.heap.objs.size+2) (.ref s.heap.objs.size) (.ref (s.heap.objs.size+1))->
   dQ h' (s.heap.objs.size+3) .none .none->h'.IsListIter s.heap.objs.size a 0->h'.IsTupleIter (s.heap.objs.size+1) b 0->
   (∀c o,s.heap.get? c=some o->h'.get? c=some o)->Q (.ref (s.heap.objs.size+4)) {s with heap:=h'}) :
  wpAny (model prog w) A (call (.type "zip") [.ref a,.ref b]) Q E s:=by
 refine pD tS (by decide) (qc _ _) (qw _ _) (fun obj=>nL obj _ _) qx (zMn a b xs ys) ⟨hl1,hl2,?_⟩
 have d:∀(h:bB) (o:Obj) (n:Nat),h.objs.size=n->o.isFreed=false->(h.push o).get? n=some o:=fun h o n e f=>by subst e;exact aC _ f
 have g:∀(h:bB) (o:Obj) (n:Nat),h.objs.size=n->(h.push o).objs.size=n+1:=fun h o n e=>by rw[br,e]
 have i:=g s.heap {cls:=.type "list_iterator",data:=.fields #[.ref a,.int 0 0]} _ rfl
 have j:=g _ {cls:=.type "tuple_iterator",data:=.fields #[.ref b,.int 0 0]} _ i
 have l:=g _ {cls:=.type "tuple",data:=.seq #[.ref s.heap.objs.size,.ref (s.heap.objs.size+1)]} _ j
 have p:=g _ {cls:=.type "tuple",data:=.seq #[.none,.none]} _ l
 have m:=d _ {cls:=.type "zip",data:=.fields #[.none,.bool false,.bool false,.ref (s.heap.objs.size+2),.ref (s.heap.objs.size+3)]} _ p rfl
 show _/\_
 exact⟨⟨_,m,rfl⟩,h _ m (ae _ (ae _ (d _ _ _ j rfl))) (ae _ (d _ _ _ l rfl))
  ⟨_,ae _ (ae _ (ae _ (ae _ (d _ _ _ rfl rfl)))),rfl,rfl⟩
  ⟨_,ae _ (ae _ (ae _ (d _ _ _ i rfl))),rfl,rfl⟩
  fun c o x=>ae _ (ae _ (ae _ (ae _ (ae _ x))))⟩
end
theorem Inv.turnedF {X:Cx}{a:List (ao×Obj)}{σ:St}{H:Hp}{s:aq}{fp:List ao}{h':bB}{t':Nat}(I:Inv X a σ H s)(k:∀b u,b∉fp->s.heap.get? b=some u->h'.get? b=some u)(hf:∀b∈fp,uT X a H b):Inv X a σ H {s with heap:=h',toks:=t'}:=by
 have f:∀b u,H b=some u->b∉fp:=fun b u e z=>by rw[(hf b z).1]at e;cases e
 refine I.step (g':=s.gens) (d':=s.drawn) (ch:=fp) (fun b g=>?_) (fun b o _ _ d e _=>k b o d e) (fun b o _ _ d e _=>⟨o.slots,k b o d e⟩) (fun _ _ _ _ n=>n)
  (fun b o d e=>⟨o,k b o d e⟩) (fun _ _ e=>e) (fun _ _ _ e=>e) (fun b ps e=>⟨#[],by rw[e];simp⟩) (fun m h=>?_) (fun b u e=>?_) I.bare
 ·obtain⟨w,f1,f2,i,j,l⟩:=hf b g
  exact⟨i,f1,j,l⟩
 ·obtain⟨o,p,ep,t,r⟩:=h
  exact⟨o,p,ep,k _ o (fun z=>(hf _ z).2.1 rfl) t,r⟩
 ·refine(I.hok b u e).stay (fun c v d q=>k c v ?_ q) (fun c q=>q) fun c xs q=>q
  rcases d with z|z
  ·rw[z];exact f b u e
  ·exact f c _ z
noncomputable def qL (tp:Bool)(K:ag)(H:Hp)(b:ao)(ys:List V):Prop:=if tp=true then zX K H b ys else z6 K H b ys
noncomputable def kM (tp:Bool)(h:bB)(it b:ao)(i:Nat):Prop:=if tp=true then h.IsTupleIter it b i else h.IsListIter it b i
noncomputable def Itz (K:ag)(tp:Bool)(a b:ao):It :=
 ⟨fun i H=>∃xs ys x y,z6 K H a xs/\qL tp K H b ys/\xs[i]?=some x/\ys[i]?=some y,
  fun i H x H'=>∃T x1 y1,x=.ref T/\H T=none/\H'=upd H T (.tup [x1,y1])/\(∀xs,z6 K H a xs->xs[i]?=some x1)/\(∀ys,qL tp K H b ys->ys[i]?=some y1),
  fun i H=>∃xs ys,z6 K H a xs/\qL tp K H b ys/\(i=xs.length\/i<xs.length/\i=ys.length)⟩
theorem uP {n i j:Nat}(h:i≠j):n+i≠n+j:=by omega
theorem uQ {a n:Nat}(i:Nat)(h:a<n):a≠n+i:=by omega
theorem zAn {n a b:Nat}(ha:a<n)(d:b<n):Side (n+4) (n+2) (n+3) n (n+1) [n,a] [n+1,b] where
 TIz:=uP (by decide)
 TOz:=uP (by decide)
 i1z:=uP (n:=n) (i:=0) (by decide)
 i2z:=uP (by decide)
 TITO:=uP (by decide)
 TIi1:=uP (n:=n) (j:=0) (by decide)
 TIi2:=uP (by decide)
 TOi1:=uP (n:=n) (j:=0) (by decide)
 TOi2:=uP (by decide)
 i12:=uP (n:=n) (i:=0) (by decide)
 f1:=fun c e=>by
  rcases aE.mp e with z|z
  ·subst z;exact⟨uP (i:=0) (by decide),uP (i:=0) (by decide),uP (i:=0) (by decide)⟩
  ·have f:c=a:=by simpa using z
   subst f;exact⟨uQ 4 ha,uQ 3 ha,uQ 1 ha⟩
 f2:=fun c e=>by
  rcases aE.mp e with z|z
  ·subst z;exact⟨uP (by decide),uP (by decide),uP (j:=0) (by decide)⟩
  ·have f:c=b:=by simpa using z
   subst f;exact⟨uQ 4 d,uQ 3 d,uQ 0 d⟩
theorem zBw {X:Cx}{c:List (ao×Obj)}{σ:St}{H:Hp}{s:aq}(I:Inv X c σ H s)(m:X.calm=true){tp:Bool}{b a:ao}{ys:List V}(n:qL tp X.K H b ys)(d:b≠a) :
  ∃(its:List ai) (f:Nat->bB->Prop),zJ ys its/\nI X.prog X.w X.A.in1 a [a,b] its.length (fun i v=>its[i]?=some v) f/\(∀i,kM tp s.heap a b i->f i s.heap)/\∀i h,f i h->kM tp h a b i:=by
 cases tp with
 |true=>
  obtain⟨its,g,p,hz⟩:=I.tuple (show zX X.K H b ys from n)
  have D:=zBQ (prog:=X.prog) (w:=X.w) (A:=X.A.in1) (show X.A.in1.handled=none from I.ok.hd m) a b d its.toArray
  refine⟨its,fun i h=>h.IsTupleIter a b i/\h.IsTuple b its.toArray,g,?_,fun i h=>⟨h,(show s.heap.IsTuple b its.toArray from p)⟩,fun i h t=>t.1⟩
  have e:its.toArray.size=its.length:=aG
  rw[e]at D
  exact⟨D.live,D.frame,fun i s Q E hi st j=>D.item i s Q E hi st fun x h' tk l=>j x h' tk (by simpa using l),D.done⟩
 |false=>
  obtain⟨its,g,p,hz⟩:=I.list (show z6 X.K H b ys from n)
  have D:=mQ (prog:=X.prog) (w:=X.w) (A:=X.A.in1) (show X.A.in1.handled=none from I.ok.hd m) a b d its.toArray
  refine⟨its,fun i h=>h.IsListIter a b i/\h.IsList b its.toArray,g,?_,fun i h=>⟨h,p.isList⟩,fun i h t=>t.1⟩
  have e:its.toArray.size=its.length:=aG
  rw[e]at D
  exact⟨D.live,D.frame,fun i s Q E hi st j=>D.item i s Q E hi st fun x h' tk l=>j x h' tk (by simpa using l),D.done⟩
theorem qL.inj {X:Cx}{a:List (ao×Obj)}{σ:St}{H:Hp}{s:aq}(I:Inv X a σ H s){tp:Bool}{b:ao}{ys c:List V}(d:qL tp X.K H b ys)(e:qL tp X.K H b c):ys=c:=by
 cases tp with
 |true=>exact I.tuple_inj (show zX X.K H b ys from d) (show zX X.K H b c from e)
 |false=>exact I.list_inj (show z6 X.K H b ys from d) (show z6 X.K H b c from e)
theorem kM.keep {tp:Bool}{h h':bB}{a b:ao}{i:Nat}(x:kM tp h a b i)(e:∀o,h.get? a=some o->h'.get? a=some o):kM tp h' a b i:=by
 cases tp with
 |true=>exact(show h.IsTupleIter a b i from x).at e
 |false=>exact(show h.IsListIter a b i from x).at e
theorem kM.obj {tp:Bool}{h:bB}{a b:ao}{i:Nat}(x:kM tp h a b i):∃o,h.get? a=some o/\∀v,o.data≠.cell v:=by
 cases tp with
 |true=>obtain⟨o,e,c,d⟩:=(show h.IsTupleIter a b i from x);exact⟨o,e,fun v z=>by rw[d]at z;cases z⟩
 |false=>obtain⟨o,e,c,d⟩:=(show h.IsListIter a b i from x);exact⟨o,e,fun v z=>by rw[d]at z;cases z⟩
structure Zn (n a b:Nat) (tp:Bool) (i:Nat) (h:bB):Prop where
 zz:iN h (n+4) (n+2) (n+3) .none
 ti:dQ h (n+2) (.ref n) (.ref (n+1))
 to:∃u v,dQ h (n+3) u v
 i1:h.IsListIter n a i
 i2:kM tp h (n+1) b i
theorem zGy {P:aH}{w:aW}{K:ag}{D:List bF}{kk:Nat}{pos:Pos}{n a b:Nat}(tp:Bool)(ha:a<n)(F:b<n):Turn P w K (.Tuple D kk pos) (Itz K tp a b) [n+4,n+2,n+3,n,n+1] (n+4) (Zn n a b tp) where
 mem:=by simp
 obj:=fun i h st c l=>by
  have G:c=n+4\/c=n+2\/c=n+3\/c=n\/c=n+1:=by simpa using l
  rcases G with z|z|z|z|z
  ·rw[z];exact⟨_,st.zz,fun v z=>by cases z⟩
  ·rw[z];exact⟨_,st.ti,fun v z=>by cases z⟩
  ·rw[z];obtain⟨u,v,e⟩:=st.to;exact⟨_,e,fun v z=>by cases z⟩
  ·rw[z];obtain⟨o,e,c,d⟩:=st.i1;exact⟨o,e,fun v z=>by rw[d]at z;cases z⟩
  ·rw[z];exact st.i2.obj
 keep:=fun i h h' st k=>⟨k _ (by simp) _ st.zz,k _ (by simp) _ st.ti,let⟨u,v,e⟩:=st.to;⟨u,v,k _ (by simp) _ e⟩,st.i1.at fun o e=>k _ (by simp) o e,st.i2.keep fun o e=>k _ (by simp) o e⟩
 item:=by
  intro X T U W l i J s σ H E I hf st Y
  subst T U W
  obtain⟨xs,ys,x,y,hq1,hq2,Z,hy⟩:=Y
  obtain⟨its,rv,p,hz⟩:=I.list hq1
  obtain⟨u,hu,ru⟩:=rv.get Z
  obtain⟨m,T2,r,D2,t,L⟩:=zBw I l hq2 (uQ 1 F)
  obtain⟨v,hv,aa⟩:=r.get hy
  have D1:=mQ (prog:=X.prog) (w:=X.w) (A:=X.A.in1) (show X.A.in1.handled=none from I.ok.hd l) n a (uQ 0 ha) its.toArray
  obtain⟨t0,ab,B⟩:=st.to
  have l1:i<its.toArray.size:=by have:=(ak.mp hu).1;simpa using this
  have l2:i<m.length:=(ak.mp hv).1
  refine zGw D1 D2 (zAn ha F) st.zz st.ti B ⟨st.i1,p.isList⟩ (t _ st.i2) l1 l2 fun N O h' tk px py a1 a2 a3 a4 a5 a6 R=>?_
  have ac:N=u:=by
   have:its[i]?=some N:=by simpa using px
   rw[hu]at this;exact(aB this).symm
  have al:O=v:=by
   have:m[i]?=some O:=py
   rw[hv]at this;exact(aB this).symm
  subst ac al
  refine⟨_,rfl,lx a1 fun h2 am j=>?_⟩
  have M:s.heap.get? s.heap.objs.size=none:=by
   cases g:s.heap.get? s.heap.objs.size with
   |none=>rfl
   |some o=>exact absurd (aD g) (bI _)
  have an:n+4<s.heap.objs.size:=aD st.zz
  have ap:dQ h2 s.heap.objs.size N O:=(j.2 _ (cw an)).trans a5
  have S:=zAn ha F
  refine⟨.ref s.heap.objs.size,upd H s.heap.objs.size (.tup [x,y]),I.turnedT (fp:=[n+4,n+2,n+3,n,n+1]) (h':=h2) (t':=tk) (fun c o f q=>?_) hf M ⟨by show 2<=sizeLine;decide,[N,O],.cons ru (.cons aa .nil),⟨_,ap,rfl,_,rfl⟩⟩,rfl,
   ⟨_,x,y,rfl,I.hok.free M,rfl,(fun zs C=>by rw[I.list_inj C hq1];exact Z),(fun zs C=>by rw[qL.inj I C hq2];exact hy)⟩,
   ⟨am,(j.2 _ S.TIz).trans (R _ _ S.TIz S.TITO S.TIi1 S.TIi2 st.ti),⟨_,_,(j.2 _ S.TOz).trans a2⟩,a3.1.at fun o q=>(j.2 n S.i1z).trans q,(L _ _ a4).keep fun o q=>(j.2 (n+1) S.i2z).trans q⟩,fun c f=>?_⟩
  ·have c1:c≠n+4:=fun z=>f (by simp[z])
   have c2:c≠n+3:=fun z=>f (by simp[z])
   have c3:c≠n:=fun z=>f (by simp[z])
   have c4:c≠n+1:=fun z=>f (by simp[z])
   exact(j.2 c c1).trans (R c o c1 c2 c3 c4 q)
  ·rw[zG]
   ·exact(hf c f).1
   ·rintro rfl
    have G:s.heap.objs.size=n+4\/s.heap.objs.size=n+2\/s.heap.objs.size=n+3\/s.heap.objs.size=n\/s.heap.objs.size=n+1:=by simpa using f
    omega
 done:=by
  intro X T U W l i J s σ H E I hf st Y
  subst T U W
  obtain⟨xs,ys,hq1,hq2,Z⟩:=Y
  obtain⟨its,rv,p,hz⟩:=I.list hq1
  obtain⟨m,T2,r,D2,t,L⟩:=zBw I l hq2 (uQ 1 F)
  have e1:=rv.length
  have e2:=r.length
  have D1:=mQ (prog:=X.prog) (w:=X.w) (A:=X.A.in1) (show X.A.in1.handled=none from I.ok.hd l) n a (uQ 0 ha) its.toArray
  obtain⟨t0,ab,B⟩:=st.to
  refine zGx D1 D2 (zAn ha F) st.zz st.ti B ⟨st.i1,p.isList⟩ (t _ st.i2) (by rw[aG];omega) fun h' tk R=>⟨rfl,I.turnedF (fp:=[n+4,n+2,n+3,n,n+1]) (fun c o f q=>?_) hf⟩
  exact R c o (fun z=>f (by simp[z])) (fun z=>f (by simp[z])) (fun z=>f (by simp[z])) (fun z=>f (by simp[z])) q
 self:=fun A i s Q E st h=>gv st.zz h
section
variable{X:Cx}{elts:List bF}{k:Nat}{tpos:Pos}
noncomputable def zMp (K:ag)(tp:Bool)(ta:TA):TI:=fun σ H R=>ta σ H fun vs H1=>∃a b xs ys,vs=[.ref a,.ref b]/\z6 K H1 a xs/\qL tp K H1 b ys/\R (Itz K tp a b) H1
theorem zGz {e f:bF}{E:TA}{p pos:Pos}(tp:Bool)(J:Gl X "zip")(L:X.mg "zip"=none)(ha:PA X [e,f] E)(M:starEach [e,f] X.env=[(false,eval e X.env),(false,eval f X.env)]:=by rfl)(l:starEach [f] X.env=[(false,eval f X.env)]:=by rfl) :
  PI X (.Tuple elts k tpos) (.Call (.Name "zip" p) [e,f] [] pos) (zMp X.K tp E):=by
 intro g s σ H R I h
 refine uh (qB I J L boot_zip (bQ (zH (ha pos g s σ H _ I h) fun us d ⟨vs,m,i,N,O⟩=>?_) (by rw[M,l]) (by rw[l];rfl)))
 obtain⟨a,b,xs,ys,rfl,hl,F,q⟩:=O
 cases N with
 |cons P Q=>
 cases Q with
 |cons T U=>
 cases U
 cases P
 cases T
 obtain⟨its,Y,w,hz⟩:=i.list hl
 have fresh:∀(h':bB),(∀c o,d.heap.get? c=some o->h'.get? c=some o)->∀c∈[d.heap.objs.size+4,d.heap.objs.size+2,d.heap.objs.size+3,d.heap.objs.size,d.heap.objs.size+1],uT X g m c:=fun h' j c W=>by
  have n:d.heap.objs.size<=c:=by
   have:c=d.heap.objs.size+4\/c=d.heap.objs.size+2\/c=d.heap.objs.size+3\/c=d.heap.objs.size\/c=d.heap.objs.size+1:=by simpa using W
   omega
  exact i.fpOk n (i.hok.fresh n)
 have G:a<d.heap.objs.size:=let⟨o,e,_⟩:=w.isList;aD e
 cases tp with
 |true=>
  obtain⟨r,x,v,y⟩:=i.tuple (show zX X.K m b ys from F)
  have t:d.heap.IsTuple b r.toArray:=v
  have z:b<d.heap.objs.size:=let⟨o,e,_⟩:=t;aD e
  refine zMo w.isList t fun h' u A B C D j=>?_
  exact gv u ⟨_,[d.heap.objs.size+4,d.heap.objs.size+2,d.heap.objs.size+3,d.heap.objs.size,d.heap.objs.size+1],_,_,m,rfl,i.kept (t':=d.toks) j,zGy true G z,⟨u,A,⟨_,_,B⟩,C,D⟩,fresh h' j,q⟩
 |false=>
  obtain⟨r,x,v,y⟩:=i.list (show z6 X.K m b ys from F)
  have z:b<d.heap.objs.size:=let⟨o,e,_⟩:=v.isList;aD e
  refine call_zip_2 w.isList v.isList fun h' u A B C D _ j=>?_
  exact gv u ⟨_,[d.heap.objs.size+4,d.heap.objs.size+2,d.heap.objs.size+3,d.heap.objs.size,d.heap.objs.size+1],_,_,m,rfl,i.kept (t':=d.toks) j,zGy false G z,⟨u,A,⟨_,_,B⟩,C,D⟩,fresh h' j,q⟩
end
open AutoSeq1 (wpAny_loadPart')
theorem zMq (l:ao)(items:Array ai)(n:Nat)(e:Option ao)(f:Array (Option ai)) :
  Meets (cJ.«enumerate.__new__» ⟨[.type "enumerate",.ref l],[]⟩) (fun _ R s=>s.heap.get? l=some {cls:=.type "tuple",dict:=e,data:=.seq items n,slots:=f}/\
   R (.ok (.ret (.ref (s.heap.push {cls:=.type "tuple_iterator",data:=.fields #[.ref l,.int 0 0]}).objs.size)))
    {s with heap:=(s.heap.push {cls:=.type "tuple_iterator",data:=.fields #[.ref l,.int 0 0]}).push {cls:=.type "enumerate",data:=.fields #[.none,.bool false,.ref s.heap.objs.size,rawInt 0,.none,.none]}}) :=
 .of_wp fun prog w A R s h=>by
  obtain⟨i,g,d,tk,os⟩:=s;obtain⟨hl,h⟩:=h
  have b:=sub_enumerate
  have a:mS (lJ ⟨i,g,d,tk,os⟩) l items:=⟨_,hl,rfl,n,rfl⟩
  wp_walk using eX hl
  refine wpAny_stack_any fun st=>ar ?_
  split
  ·rename_i c _ _ _ _ _
   cases(c==Value.type "enumerate")
   ·wp_walk using eX hl,dG a
    exact⟨_,rfl,h⟩
   ·wp_walk using eX hl,dG a
    exact⟨_,rfl,h⟩
  ·wp_walk using eX hl,dG a
   exact⟨_,rfl,h⟩
section
variable{prog:aH}{w:aW}{A:bK}{E:ai->aq->Prop}{s:aq}
theorem zMr {l:ao}{items:Array ai}{Q:ai->aq->Prop}(hl:s.heap.IsTuple l items)
  (h:∀h',IsEnum h' (s.heap.objs.size+1) s.heap.objs.size 0 .none->h'.IsTupleIter s.heap.objs.size l 0->(∀b o,s.heap.get? b=some o->h'.get? b=some o)->Q (.ref (s.heap.objs.size+1)) {s with heap:=h'}) :
  wpAny (model prog w) A (call (.type "enumerate") [.ref l]) Q E s:=by
 obtain⟨⟨cls,d,data,e⟩,f,g,n,hd⟩:=hl
 have a:cls=.type "tuple" :=g
 have c:data=.seq items n:=hd
 subst a c
 refine pD F.called_enumerate (by decide) (F.typeCall_enumerate_1 _) (F.newCall_enumerate_1 _) (fun obj=>F.args_object_init_2 obj _) F.entry_enumerate_new (zMq l items n d e) ⟨f,?_⟩
 have hz:(s.heap.push {cls:=.type "tuple_iterator",data:=.fields #[.ref l,.int 0 0]}).objs.size=s.heap.objs.size+1:=br ..
 show _/\_
 rw[hz]
 have he:IsEnum ((s.heap.push {cls:=.type "tuple_iterator",data:=.fields #[.ref l,.int 0 0]}).push {cls:=.type "enumerate",data:=.fields #[.none,.bool false,.ref s.heap.objs.size,rawInt 0,.none,.none]}) (s.heap.objs.size+1) s.heap.objs.size 0 .none:=by
  have:=aC (s.heap.push {cls:=.type "tuple_iterator",data:=.fields #[.ref l,.int 0 0]}) (o:={cls:=.type "enumerate",data:=.fields #[.none,.bool false,.ref s.heap.objs.size,rawInt 0,.none,.none]}) rfl
  rw[hz]at this;exact this
 exact⟨⟨_,he,rfl⟩,h _ he ⟨_,ae _ (aC _ rfl),rfl,rfl⟩ fun b o x=>ae _ (ae _ x)⟩
end
noncomputable def zDP (K:ag)(a:ao):It :=
 ⟨fun i H=>∃xs x,zX K H a xs/\xs[i]?=some x,fun i H x H'=>∃T y,x=.ref T/\H T=none/\H'=upd H T (.tup [.int i,y])/\∀xs,zX K H a xs->xs[i]?=some y,fun i H=>∃xs,zX K H a xs/\xs.length=i⟩
theorem zMs {P:aH}{w:aW}{K:ag}{m:List bF}{k:Nat}{pos:Pos}{n a:Nat}(ha:a<n):Turn P w K (.Tuple m k pos) (zDP K a) [n+1,n] (n+1) (fun i h=>(∃old,IsEnum h (n+1) n i old)/\h.IsTupleIter n a i) where
 mem:=by simp
 obj:=fun i h st b f=>by
  obtain⟨⟨old,he⟩,hit⟩:=st
  rcases aE.mp f with z|z
  ·subst z;exact⟨_,he,fun v z=>by cases z⟩
  ·have z':b=n:=by simpa using z
   subst z'
   obtain⟨o,e,c,d⟩:=hit
   exact⟨o,e,fun v z=>by rw[d]at z;cases z⟩
 keep:=fun i h h' st kk=>⟨let⟨old,he⟩:=st.1;⟨old,kk _ (by simp) _ he⟩,st.2.at fun o x=>kk n (by simp) o x⟩
 item:=by
  intro X r J L M i t s σ H E I hf st N
  subst r J L
  obtain⟨xs,x,F,O⟩:=N
  obtain⟨its,R,p,hz⟩:=I.tuple F
  obtain⟨u,hu,ru⟩:=R.get O
  obtain⟨⟨old,he⟩,hit⟩:=id st
  have j:n+1≠n:=by omega
  have D:=zBQ (prog:=X.prog) (w:=X.w) (A:=X.A.in1) (show X.A.in1.handled=none from I.ok.hd M) n a (uQ 0 ha) its.toArray
  have T:i<its.toArray.size:=by
   have:=(ak.mp hu).1
   simpa using this
  refine ma D he ⟨hit,(show s.heap.IsTuple a its.toArray from p)⟩ T j (fun z=>by
   rcases aE.mp z with y|y
   ·exact j y
   ·have y':n+1=a:=by simpa using y
    exact absurd ha (by rw[<-y'];exact vw.mpr (fb n))) fun G h' tk r ho U hT hsz hk=>?_
  have W:G=u:=by
   have:its[i]?=some G:=by simpa using r
   rw[hu]at this;exact(aB this).symm
  subst W
  refine⟨_,rfl,ku ho fun h2 Y l=>?_⟩
  have B:s.heap.get? s.heap.objs.size=none:=by
   cases g:s.heap.get? s.heap.objs.size with
   |none=>rfl
   |some o=>exact absurd (aD g) (bI _)
  have Z:n+1<s.heap.objs.size:=aD he
  have aa:h2.get? s.heap.objs.size=some {cls:=.type "tuple",data:=.seq #[.int i tk,G]}:=(l.2 _ (cw Z)).trans hT
  refine⟨.ref s.heap.objs.size,upd H s.heap.objs.size (.tup [.int i,x]),I.turnedT (fp:=[n+1,n]) (h':=h2) (t':=tk+1) (fun b o f q=>?_) hf B ⟨by show 2<=sizeLine;decide,[.int i tk,G],.cons ⟨tk,rfl⟩ (.cons ru .nil),⟨_,aa,rfl,_,rfl⟩⟩,rfl,
   ⟨_,x,rfl,I.hok.free B,rfl,fun ys hy=>by rw[I.tuple_inj hy F];exact O⟩,⟨⟨_,by simpa using Y⟩,U.1.at fun o q=>(l.2 n (dz j)).trans q⟩,fun b f=>?_⟩
  ·have C:b≠n+1:=fun z=>f (by simp[z])
   have ab:b≠n:=fun z=>f (by simp[z])
   exact(l.2 b C).trans (hk b o C ab q)
  ·rw[zG]
   ·exact(hf b f).1
   ·rintro rfl
    have ac:s.heap.objs.size=n+1\/s.heap.objs.size=n:=by simpa using f
    omega
 done:=by
  intro X r J L M i t s σ H E I hf st N
  subst r J L
  obtain⟨xs,F,O⟩:=N
  obtain⟨its,R,p,hz⟩:=I.tuple F
  obtain⟨⟨old,he⟩,hit⟩:=id st
  have hl:=R.length
  have D:=zBQ (prog:=X.prog) (w:=X.w) (A:=X.A.in1) (show X.A.in1.handled=none from I.ok.hd M) n a (uQ 0 ha) its.toArray
  obtain⟨f0,f1,f2,f3,f4,f5⟩:=hf n (by simp)
  have hi:its.toArray.size=i:=by rw[aG];omega
  refine mR D he ⟨by rw[hi];exact hit,(show s.heap.IsTuple a its.toArray from p)⟩ fun h' eb=>⟨rfl,I.turned (t':=s.toks) (fun b o f e=>eb b o f e) f0 f1 f3 f4 f5⟩
 self:=fun A i s Q E st h=>let⟨old,he⟩:=st.1;iM he h
section
variable{X:Cx}{elts:List bF}{k:Nat}{tpos:Pos}
noncomputable def zMt (K:ag)(ta:TA):TI:=fun σ H R=>ta σ H fun vs H1=>∃a xs,vs=[.ref a]/\zX K H1 a xs/\R (zDP K a) H1
theorem zMu {e:bF}{i:TA}{p pos:Pos}(m:Gl X "enumerate")(n:X.mg "enumerate"=none)(ha:PA X [e] i)(r:starEach [e] X.env=[(false,eval e X.env)]:=by rfl):PI X (.Tuple elts k tpos) (.Call (.Name "enumerate" p) [e] [] pos) (zMt X.K i):=by
 intro d s σ H R I h
 refine uh (qB I m n rK (bQ (zH (ha pos d s σ H _ I h) fun us c zq=>?_) r rfl))
 obtain⟨vs,j,g,t,v⟩:=zq
 obtain⟨a,xs,rfl,hl,q⟩:=v
 obtain⟨u,rfl,w⟩:=uM t
 cases w
 obtain⟨its,D,x,hz⟩:=g.tuple hl
 have l:c.heap.IsTuple a its.toArray:=x
 have y:a<c.heap.objs.size:=let⟨o,e,_⟩:=l;aD e
 refine zMr l fun h' he hit A=>?_
 have B:Inv X d σ j {c with heap:=h'}:=g.kept (t':=c.toks) A
 refine iM he ⟨_,[c.heap.objs.size+1,c.heap.objs.size],_,_,j,rfl,B,zMs y,⟨⟨_,he⟩,hit⟩,fun b C=>?_,q⟩
 have f:c.heap.objs.size<=b:=by
  have:b=c.heap.objs.size+1\/b=c.heap.objs.size:=by simpa using C
  rcases this with z|z
  ·rw[z];exact fb _
  ·rw[z];exact aA _
 exact g.fpOk f (g.hok.fresh f)
end
theorem zDQ {J:It}{xs ys:List V}{len:Nat}{Hk:Hp->Prop}(u:∀i H,Hk H->i<len->J.go i H)(v:∀i H,Hk H->i=len->J.stop i H)(w:∀i H x c,Hk H->J.yld i H x c->∃T s t,x=.ref T/\H T=none/\c=upd H T (.tup [s,t])/\xs[i]?=some s/\ys[i]?=some t)
  {caps:List Nat} {n:Nat} {σ:St} {g:TG} {I:TT} {L:TE} {F:List V->Hp->Prop} {M:Hp} (cv:St) (k:Nat) (hn:len<1000)
  (Pv:Nat->List V->Hp->Prop) (N:Pv 0 [] M) (O:∀i a H,i<=len->Pv i a H->Hk H/\a.length<=i)
  (o:∀(i:Nat) (x y:V) (T:ao) (a:List V) (H:Hp) (h:St) (z:List V->St->Hp->Prop),(∀d c h,h.length=k->Pv (i+1) d c->z d (cv++h) c)->xs[i]?=some x->ys[i]?=some y->h.length=k->Pv i a H->H T=none->
   g (.ref T) (cv++h) (upd H T (.tup [x,y])) fun f A=>I f A fun b q=>if b=true then L f q fun y l=>z (a++[y]) f l else z a f q)
  (fin:∀a H,Pv len a H->F a H) (B:uX caps n σ=cv++aR k none:=by rfl) :
  ∃W:Nat->Nat->List V->St->Hp->Prop,(∃m,W 0 m [] (uX caps n σ) M)/\∀i m a r c,W i m a r c->
   (J.stop i c/\F a c)\/
   (J.go i c/\a.length<sizeLine/\∀x C,J.yld i c x C->g x r C fun f A=>I f A fun b q=>if b=true then L f q fun y l=>∃j,j<m/\W (i+1) j (a++[y]) f l else∃j,j<m/\W (i+1) j a f q):=by
 refine⟨fun i m a r c=>i<=len/\m=len-i/\(∃ys,ys.length=k/\r=cv++ys)/\Pv i a c,⟨len,bo _,rfl,⟨_,by simp,B⟩,N⟩,?_⟩
 rintro i m a r c ⟨hi,rfl,⟨h,P,rfl⟩,pv⟩
 obtain⟨D,ha⟩:=O i a c hi pv
 by_cases e:i=len
 ·subst e
  exact .inl ⟨v _ _ D rfl,fin a c pv⟩
 ·have E:i<len:=by omega
  refine .inr ⟨u _ _ D E,by rw[aL];omega,fun x C G=>?_⟩
  obtain⟨T,s,t,rfl,Q,rfl,e1,R⟩:=w _ _ _ _ D G
  exact o i s t T a c h (fun d f l=>∃j,j<len-i/\(i+1<=len/\j=len- (i+1)/\(∃ys,ys.length=k/\f=cv++ys)/\Pv (i+1) d l)) (fun d l h hz p=>⟨len- (i+1),by omega,by omega,rfl,⟨h,hz,rfl⟩,p⟩) e1 R P pv Q
theorem zMv:typeLookup (.type "list") "keys"=pure none:=am_miss_of_fast (by kernel_rfl)
theorem zMw {prog:aH}{w:aW}{A:bK}{E:ai->aq->Prop}{s:aq}{a:ao}{o:Obj}{xs:Array ai}{k:Nat}{name:Str}{Q:Option ai->aq->Prop}
  (n:s.heap.get? a=some o) (p:o.cls=.type "list") (f:o.data=.seq xs k) (hd:o.dict=none) (i:typeLookup (.type "list") name=pure none) (j:(["__module__","__name__","__qualname__","__doc__","__annotations__"]:List Str).contains name=false) (t:A.handled=none)
  (h:∀h' tk,(∀b q,s.heap.get? b=some q->h'.get? b=some q)->Q none {s with heap:=h',toks:=tk}) (hsz:name.length+100<=sizeLine:=by size_fits) :
  wpAny (model prog w) A (getAttr? (.ref a) name) Q E s:=by
 obtain⟨c,u,v,x⟩:=o
 simp only at p f hd
 subst p f hd
 obtain⟨y,g,d,tk,os⟩:=s
 have r:∀l,(⟨y,g,d,l,os⟩:aq).TypeIs (.ref a) "list" :=fun _=>⟨_,n,rfl⟩
 have f1:=sub_AttributeError
 have z:=fG.lookup
 have B:=fG.bind (.ref a)
 have C:=am_list_getattr_none
 unfold getAttr? getAttrBy? getAttrBy
 repeat(any_goals (first|assumption|exact r _|((with_reducible show wpAny _ _ (call (Value.builtin "list.__getattribute__") _ _) _ _ _);refine iX fG (r _) am_entry_list_getattribute (PySem.F.args_list_getattribute_2 _ _) (meets_getattribute_miss_list a xs k x name _ i j hsz) ⟨n,t,fun h' l e m=>?_⟩)|wp_step))
 obtain⟨t',D,he⟩:=m.there
 show wpAny _ _ (getattributeRaised _ _ _ _ _ _ _) _ _ _
 unfold getattributeRaised
 repeat(any_goals (first|assumption|wp_step))
 exact h _ _ m.of.keeps
theorem zHA:entryFor table "dict.update.loop"=some cJ.«dict.update.loop»:=qd (by kernel_rfl)
theorem zBx:plainId "dict.update.loop"=true:=by decide+kernel
theorem zMx {κ:Type} [DecidableEq κ] {kvs:List (κ×ai)}{k:κ}{v:ai}(h:k∉kvs.map (·.1)):stored kvs k v=kvs++[(k,v)]:=by
 unfold stored
 rw[if_neg]
 rw[List.any_eq_true]
 rintro⟨b,a,he⟩
 exact h (av.mpr ⟨b,a,of_decide_eq_true he⟩)
section
variable{prog:aH}{w:aW}{A:bK}{R:oH->aq->Prop}
theorem zMy {I ax D:ao}{items:Array ai}{kvs:List (Str×ai)}(hh:A.in1.handled=none)(G:ax≠I)(a:D≠I)(H:D≠ax)(h:kvs.length=items.size)(hz:kvs.length<=1000)(nd:(kvs.map (·.1)).Nodup) :
  ∀(m i:Nat) (s:aq),items.size-i=m->i<=items.size->(s.heap.IsListIter I ax i/\s.heap.IsList ax items)->
   (∀(j:Nat) (v:ai),items[j]?=some v->∃q,kvs[j]?=some q/\∃b o t n,v=Value.ref b/\b≠D/\b≠I/\s.heap.get? b=some o/\o.cls=.type "tuple"/\o.data=.seq #[.str q.1 t,q.2] n)->
   s.heap.DictOf (vJ prog w) D ((kvs.take i).map fun q=>((Sum.inr q.1:zL),q.2))->
   (∀h' tk,(∀b o,b≠D->b≠I->s.heap.get? b=some o->h'.get? b=some o)->h'.DictOf (vJ prog w) D (kvs.map fun q=>((Sum.inr q.1:zL),q.2))->R (.ok (.ret .none)) {s with heap:=h',toks:=tk})->
   ∀n:Tok,codeAny (model prog w) A (.builtin "dict.update.loop" ⟨[.ref D,.ref I,.int (i:Int) n,.none],[]⟩) R s:=by
 have W:=oN (prog:=prog) (w:=w) (A:=A.in1) hh I ax G items
 intro m
 induction m with
 |zero=>
  intro i s J hi st L hd M n
  have N:i=items.size:=by omega
  subst N
  refine dW zHA ?_
  rw[dI zBx _]
  show wpAny _ A.in1 (pyNext (.ref I)>>=_) _ _ s
  refine af (W.done s _ _ st fun h' tk f=>?_)
  show wpAny _ A.in1 (sV D []>>=_) _ _ _
  refine af (ar (ar (M h' tk (fun b o g l e=>f b o (by simpa using l) e) ?_)))
  rw[<-h,bw]at hd
  obtain⟨o,O,ep,P,vK⟩:=hd
  exact⟨o,O,ep,f D o (by simpa using a) P,vK⟩
 |succ m ih=>
  intro i s J hi st L hd M n
  have r:i<items.size:=by omega
  refine dW zHA ?_
  rw[dI zBx _]
  show wpAny _ A.in1 (pyNext (.ref I)>>=_) _ _ s
  refine af (W.item i s _ _ r st fun v g tk hv Q f=>?_)
  obtain⟨q,hq,b,o,t,nn,rfl,ap,T,P,U,X⟩:=L i v hv
  have u:g.get? b=some o:=f b o (by simpa using T) P
  have Y:g.DictOf (vJ prog w) D ((kvs.take i).map fun q=>((Sum.inr q.1:zL),q.2)):=by
   obtain⟨x,O,ep,Z,vK⟩:=hd
   exact⟨x,O,ep,f D x (by simpa using a) Z,vK⟩
  show wpAny _ A.in1 (holding [Value.ref b] _>>=_) _ _ _
  refine af (cV ?_)
  have hT:il {s with heap:=g,toks:=tk} (.ref b) "tuple" :=⟨o,u,U⟩
  refine af (wpAny_tryCatch ?_)
  unfold tT
  refine af (gq hT ?_)
  rw[if_pos (by decide)]
  refine af (da u X (ar ?_))
  show wpAny _ A.in1 (holding [Value.str q.1 t,q.2] (dictSet D (.str q.1 t) q.2)) _ _ _
  have y:kvs[i]?=some q:=hq
  have B:i<kvs.length:=(ak.mp y).1
  have C:kvs[i]=q:=(ak.mp y).2
  refine cV (og (knd:=vJ prog w) (k:=Sum.inr q.1) (s:={s with heap:=g,toks:=tk}) (zFS prog w q.1 t) Y (fun l c E=>?_) (by rw[ah,aO,aL];omega))
  have F:(Sum.inr q.1:zL)∉(((kvs.take i).map fun q=>((Sum.inr q.1:zL),q.2)).map (·.1)):=by
   rw[bc]
   intro J
   obtain⟨p,aa,e⟩:=av.mp J
   have e':p.1=q.1:=nC e
   obtain⟨j,hj,ej⟩:=c7 aa
   have as:j<i:=by rw[aO]at hj;omega
   have ab:j<kvs.length:=by omega
   rw[List.getElem_take]at ej
   have:=(d5 (xs:=kvs.map (·.1)) (h₀:=by simpa using ab) (h₁:=by simpa using B) nd).mp (by rw[fH,fH,ej,C];exact e')
   omega
  rw[zMx F]at c
  have ed:((kvs.take i).map fun q=>((Sum.inr q.1:zL),q.2))++[((Sum.inr q.1:zL),q.2)]=(kvs.take (i+1)).map fun q=>((Sum.inr q.1:zL),q.2):=by
   rw[aF B,C,aU];rfl
  rw[ed]at c
  show wpAny _ A.in1 (again _) _ _ _
  refine ar ⟨f6 zBx _,?_⟩
  have keep:∀b o,b≠D->b≠I->s.heap.get? b=some o->l.get? b=some o:=fun b o e1 d e=>by
   rw[E.2 b e1];exact f b o (by simpa using d) e
  refine ih (i+1) {s with heap:=l,toks:=tk+1} (by omega) r (W.frame _ g l Q fun b hb o e=>?_) (fun j v hv=>?_) c (fun h' ac al am=>M h' ac (fun b o e1 d e=>al b o e1 d (keep b o e1 d e)) am) _
  ·rw[E.2 b]
   ·exact e
   ·rintro rfl
    rcases aE.mp hb with z|z
    ·exact a z
    ·exact H (by simpa using z)
  ·obtain⟨q',an,b',x,t',n',e1,d,e3,e4,e5⟩:=L j v hv
   exact⟨q',an,b',x,t',n',e1,d,e3,keep b' x d e3 e4,e5⟩
theorem zMz {E:ai->aq->Prop}{s:aq}{l:ao}{items:Array ai}{kvs:List (Str×ai)}{Q:ai->aq->Prop}(H:A.handled=none)(hl:PlainL s.heap l items)(m:kvs.length=items.size)(hz:kvs.length<=1000)(nd:(kvs.map (·.1)).Nodup)
  (O:∀(j:Nat) (v:ai),items[j]?=some v->∃q,kvs[j]?=some q/\∃b o t n,v=Value.ref b/\s.heap.get? b=some o/\o.cls=.type "tuple"/\o.data=.seq #[.str q.1 t,q.2] n)
  (h:∀h' tk,(∀b o,s.heap.get? b=some o->h'.get? b=some o)->h'.DictOf (vJ prog w) s.heap.objs.size (kvs.map fun q=>((Sum.inr q.1:zL),q.2))->Q (.ref s.heap.objs.size) {s with heap:=h',toks:=tk}) :
  wpAny (model prog w) A (call (.type "dict") [.ref l]) Q E s:=by
 refine callType_codes (Q₁:=fun obj J=>obj=.ref s.heap.objs.size/\J={s with heap:=s.heap.push {cls:=.type "dict",data:=.dict #[]}}) PySem.F.kt_called_dict (PySem.F.kt_typeCall_dict_1 _) PySem.F.entry_dict_init (kt_code_dict_new _ ⟨rfl,rfl⟩) ?_
 rintro obj J ⟨rfl,rfl⟩
 have a:(s.heap.push {cls:=.type "dict",data:=.dict #[]}).DictOf (vJ prog w) s.heap.objs.size []:=qt s.heap
 obtain⟨o,n,L,u,x,hd⟩:=id hl
 have p:l<s.heap.objs.size:=aD L
 have f:(s.heap.push {cls:=.type "dict",data:=.dict #[]}).get? l=some o:=ae _ L
 refine⟨a.typeIs,PySem.F.args_dict_init_2 _ _,?_⟩
 unfold cJ.«dict.__init__»
 refine af ?_
 unfold sW
 refine af (wpAny_notOrdered_dict a.typeIs ?_)
 show wpAny _ _ (pure (s.heap.objs.size,[Value.ref l])) _ _ _
 refine ar ?_
 show wpAny _ _ (mj "dict.__init__" s.heap.objs.size (.ref l) [] .none) _ _ _
 unfold mj
 have P:il {s with heap:=s.heap.push {cls:=.type "dict",data:=.dict #[]}} (.ref l) "list" :=⟨o,f,u⟩
 refine af (gq P ?_)
 rw[if_pos (by decide)]
 refine af (zMw f u hd x zMv (by decide) (by simp[H]) (fun i y d=>?_))
 rw[if_pos (show(none:Option ai).isNone=true from rfl)]
 refine af (fR (af ?_))
 have hl2:i.IsList l items:=⟨o,d _ _ f,u,n,hd⟩
 refine e8 (s:={s with heap:=i,toks:=y}) hl2 ?_
 have c:s.heap.objs.size<i.objs.size:=by
  obtain⟨M,N,ep,g,_⟩:=a
  exact aD (d _ _ g)
 have r:l<i.objs.size:=mM p c
 refine ar ⟨f6 zBx _,?_⟩
 have old:∀b o,s.heap.get? b=some o->i.get? b=some o:=fun b o e=>d b o (ae _ e)
 refine zMy (I:=i.objs.size) (ax:=l) (D:=s.heap.objs.size) (items:=items) (kvs:=kvs) (by simp[H]) (aV r) (aV c) (cw p) m hz nd items.size 0 _ rfl (bo _)
  ⟨⟨_,aC _ rfl,rfl,rfl⟩,hl2.push _⟩ (fun j v hv=>?_) ?_ (fun h' z B C=>⟨rfl,h h' z (fun b o e=>?_) C⟩) _
 ·obtain⟨q,T,b,U,t,W,e1,G,X,Y⟩:=O j v hv
  exact⟨q,T,b,U,t,W,e1,aV (aD G),aV (mM (aD G) c),ae _ (old _ _ G),X,Y⟩
 ·rw[nM]
  obtain⟨M,N,ep,g,vK⟩:=a
  exact⟨M,N,ep,ae _ (d _ _ g),vK⟩
 ·exact B b o (aV (aD e)) (aV (mM (aD e) c)) (ae _ (old _ _ e))
end
section
variable{X:Cx}
noncomputable def zDR (K:ag)(H:Hp)(ts:List V)(kvs:List (Str×V)):Prop:=ts.length=kvs.length/\∀(i:Nat) (q:Str×V),kvs[i]?=some q->∃a,ts[i]?=some (.ref a)/\zX K H a [.str q.1,q.2]
theorem zNA {c:List (ao×Obj)}{σ:St}{H:Hp}{s:aq}(I:Inv X c σ H s){p:List V}{kvs:List (Str×V)}{its:List ai}(d:zDR X.K H p kvs)(e:zJ p its) :
  ∃ws:List (Str×ai),KV kvs ws/\∀(j:Nat) (v:ai),its[j]?=some v->∃q,ws[j]?=some q/\∃b o t n,v=Value.ref b/\s.heap.get? b=some o/\o.cls=.type "tuple"/\o.data=.seq #[.str q.1 t,q.2] n:=by
 have one:∀(i:Nat) (q:Str×V) (u:ai),kvs[i]?=some q->its[i]?=some u->∃x,zQ q.2 x/\∃b o t n,u=Value.ref b/\s.heap.get? b=some o/\o.cls=.type "tuple"/\o.data=.seq #[.str q.1 t,x] n:=fun i q u y z=>by
  obtain⟨a,ha,A⟩:=d.2 i q y
  obtain⟨r,e1,f⟩:=e.get ha
  rw[z]at e1
  cases e1
  cases f
  obtain⟨w,B,⟨o,C,D,n,hd⟩,_⟩:=I.tuple A
  obtain⟨N,E,rfl,g,h⟩:=zAe B
  obtain⟨t,rfl⟩:=g
  exact⟨E,h,a,o,t,n,rfl,C,D,hd⟩
 have hl:its.length=kvs.length:=by rw[<-e.length];exact d.1
 clear d e
 induction kvs generalizing its with
 |nil=>
  refine⟨[],.nil,fun j v hv=>?_⟩
  have:its=[]:=by simpa using hl
  rw[this]at hv;simp at hv
 |cons q kvs ih=>
  cases its with
  |nil=>simp at hl
  |cons u its=>
   obtain⟨x,F,G⟩:=one 0 q u rfl rfl
   obtain⟨ws,J,l⟩:=ih (its:=its) (fun i m r L M=>one (i+1) m r (by simpa using L) (by simpa using M)) (by simpa using hl)
   refine⟨(q.1,x)::ws,.cons ⟨rfl,F⟩ J,fun j v hv=>?_⟩
   cases j with
   |zero=>
    have:u=v:=by simpa using hv
    subst this
    exact⟨_,rfl,G⟩
   |succ j=>
    obtain⟨m,e1,f⟩:=l j v (by simpa using hv)
    exact⟨m,by simpa using e1,f⟩
theorem KV.enc {kvs:List (Str×V)}{ws:List (Str×ai)}(h:KV kvs ws):KV (vP kvs) (ws.map fun q=>((Sum.inr q.1:zL),q.2)):=by
 induction h with
 |nil=>exact .nil
 |cons h t ih=>exact .cons ⟨congrArg Sum.inr h.1,h.2⟩ ih
noncomputable def zNB (K:ag):List V->Hp->VK->Prop:=fun xs H Q=>∃p ts kvs,xs=[.ref p]/\z6 K H p ts/\zDR K H ts kvs/\(kvs.map (·.1)).Nodup/\kvs.length<=1000/\∀d,H d=none->Q (.ref d) (upd H d (.dK (vP kvs)))
theorem zNC (i:X.calm=true):uU X (.type "dict") (zNB X.K):=by
 intro f s σ H xs us Q I l h
 obtain⟨p,x,kvs,rfl,m,a,nd,hz,q⟩:=h
 obtain⟨u,rfl,n⟩:=uM l
 cases n
 obtain⟨its,g,pl,_⟩:=I.list m
 obtain⟨ws,c,d⟩:=zNA I a g
 have hl:ws.length=kvs.length:=(de c).symm
 have b:its.length=kvs.length:=by rw[<-g.length];exact a.1
 refine zMz (kvs:=ws) (I.ok.hd i) pl (by rw[hl];simp[b]) (by omega) (by rw[<-c.keys];exact nd) (fun j v hv=>d j v (by simpa using hv)) fun h' tk r hd=>?_
 have e:(s.heap.objs.size==sysModules)=false:=by
  have t:=I.big
  have w:s.heap.objs.size≠sysModules:=cw t
  simpa using w
 exact⟨.ref s.heap.objs.size,_,I.laid (t':=tk) (o:=.dK (vP kvs)) r (aA _) (zBq (by simp[vP];rw[aL];omega) e c.enc hd),rfl,q _ (I.hok.fresh (aA _))⟩
end
open PySem.AutoSeq1 (wpAny_loadPart')
open PySem.MeetsSeq PySem.MeetsSeq2 PySem.MeetsSeq3 PySem.SeqAt
section
open MyS PySem.W
variable{prog:aH}{w:aW}{A:bK}{E:ai->aq->Prop}{s:aq}
end
section
open MyS PySem.W
variable{prog:aH}{w:aW}{A:bK}{E:ai->aq->Prop}{s:aq}
end
open MyS PySem.W
noncomputable def uY (a b:Int×Str):Bool:=if a.1=b.1 then decide (a.2.cps.toList<b.2.cps.toList)else decide (a.1<b.1)
noncomputable def jH (ks:List (Int×Str))(i j:Nat):Bool:=uY (ks.getD i (0,⟨#[]⟩)) (ks.getD j (0,⟨#[]⟩))
theorem zHB (a:Int×Str):uY a a=false:=by unfold uY;rw[if_pos rfl];simp[iL]
theorem zHC {a b c:Int×Str}(d:uY a b=true)(e:uY b c=true):uY a c=true:=by
 unfold uY at*
 by_cases e1:a.1=b.1<;>by_cases f:b.1=c.1
 ·rw[if_pos e1]at d;rw[if_pos f]at e;rw[if_pos (e1.trans f)]
  simp only[decide_eq_true_eq]at*
  exact oz d e
 ·rw[if_neg f]at e;rw[e1,if_neg f];exact e
 ·rw[if_neg e1]at d;rw[<-f,if_neg e1];exact d
 ·rw[if_neg e1]at d;rw[if_neg f]at e
  have:=of_decide_eq_true d
  have:=of_decide_eq_true e
  rw[if_neg (by omega)];exact decide_eq_true (by omega)
theorem zHD {a b:Int×Str}(h:a≠b):uY a b=true\/uY b a=true:=by
 unfold uY
 by_cases e:a.1=b.1
 ·rw[if_pos e,if_pos e.symm]
  simp only[decide_eq_true_eq]
  by_cases c:a.2.cps.toList<b.2.cps.toList
  ·exact .inl c
  ·by_cases d:b.2.cps.toList<a.2.cps.toList
   ·exact .inr d
   ·exact absurd (eI e (Str_ext (zGm _ _ c d))) h
 ·rw[if_neg e,if_neg (dz e)]
  rcases Int.lt_or_gt_of_ne e with z|z
  ·exact .inl (decide_eq_true z)
  ·exact .inr (decide_eq_true z)
theorem zND {ks:List (Int×Str)}(nd:ks.Nodup):TotalOn (jH ks) ks.length where
 irr:=fun i _=>zHB _
 tr:=fun i j k _ _ _ b c=>zHC b c
 tot:=fun i j hi d a=>by
  have e1:ks.getD i (0,⟨#[]⟩)=ks[i]:=by simp[hi]
  have e:ks.getD j (0,⟨#[]⟩)=ks[j]:=by simp[d]
  unfold jH
  rw[e1,e]
  exact zHD fun z=>a ((d5 nd).mp z)
noncomputable def qM (h:bB)(v:ai)(k:Int×Str):Prop:=∃b o t u n,v=Value.ref b/\h.get? b=some o/\o.cls=.type "tuple"/\o.data=.seq #[.int k.1 t,.str k.2 u] n
theorem qM.keep {h h':bB}{v:ai}{k:Int×Str}(p:qM h v k)(e:∀b o,h.get? b=some o->o.cls=.type "tuple"->h'.get? b=some o):qM h' v k:=by
 obtain⟨b,o,t,u,n,c,d,a,f⟩:=p
 exact⟨b,o,t,u,n,c,e b o d a,a,f⟩
section
variable{prog:aH}{w:aW}{A:bK}{E:ai->aq->Prop}{s:aq}
theorem zNE {v u:ai}{k l:Int×Str}{C:Bool->aq->Prop}(hv:qM s.heap v k)(m:qM s.heap u l)(e:k≠l)(h:C (uY k l) s) :
  wpAny (model prog w) A (keyLt' (tuples' true) v u) C E s:=by
 obtain⟨b,o,t,p,n,r,x,D,y⟩:=hv
 obtain⟨F,G,t',a,H,c,d,B,f⟩:=m
 subst r;subst c
 refine kat_lt x y d f ?_
 unfold uY at h
 have q:=oK (A:=A) (s:=s) k.1 t l.1 t'
 by_cases hl:k.1=l.1
 ·rw[if_pos hl]at h
  have g:(k.1==l.1)=true:=by rw[hl];simp
  rw[g]at q
  refine ux (q prog w _ _ (kat_yes ?_))
  have hn:k.2≠l.2:=fun z=>e (eI hl z)
  have i:(k.2==l.2)=false:=by simpa using hn
  have j:=oM (A:=A) (s:=s) k.2 p l.2 a
  rw[i]at j
  refine ux (j prog w _ _ (kat_no ?_))
  exact kat_one _ _ (vm h)
 ·rw[if_neg hl]at h
  have g:(k.1==l.1)=false:=beq_eq_false_iff_ne.mpr hl
  rw[g]at q
  refine ux (q prog w _ _ (kat_no ?_))
  exact oneLt_int h
theorem zNF {kvs:List ai}{ks:List (Int×Str)}(h:∀(i:Nat) (v:ai),kvs[i]?=some v->∃k,ks[i]?=some k/\qM s.heap v k)(p:2<=kvs.length){Q:uw->aq->Prop}(d:Q (tuples' true) s) :
  wpAny (model prog w) A (keyKind' kvs.toArray) Q E s:=by
 have go:∀l:List ai,(∀v∈l,∃k,qM s.heap v k)->∃fs,KatTups s.heap l fs/\(∀v∈fs,∃k t,v=Value.int k t)/\fs.length=l.length:=by
  intro l
  induction l with
  |nil=>intro _;exact⟨[],.nil,by simp,rfl⟩
  |cons v l ih=>
   intro hl
   obtain⟨k,b,o,t,u,n,f,g,j,m⟩:=hl v (au ..)
   obtain⟨fs,f1,f2,c⟩:=ih fun u a=>hl u (aj _ a)
   subst f
   refine⟨.int k.1 t::fs,.cons g j m rfl f1,fun u a=>?_,by simp[c]⟩
   rcases aE.mp a with rfl|a
   ·exact⟨_,t,rfl⟩
   ·exact f2 u a
 obtain⟨fs,f1,f2,c⟩:=go kvs fun v hv=>by
  obtain⟨i,hi,e⟩:=c7 hv
  obtain⟨k,_,q⟩:=h i v (by rw[ay hi,e])
  exact⟨k,q⟩
 refine kat_kind (T:=.type "int") f1 (by omega) (fun v hv=>?_) rfl d
 obtain⟨k,t,rfl⟩:=f2 v hv
 exact .now
noncomputable def zHE (prog:aH)(w:aW)(A:bK)(s:aq)(a:ao)(f v:ai)(k:Int×Str):Prop :=
 ∀(G:bB) (tk:Nat) (R:ai->aq->Prop) (E:ai->aq->Prop),(∀b o,b≠a->s.heap.get? b=some o->G.get? b=some o)->
  (∀kv G' tk',qM G' kv k->(∀b o,G.get? b=some o->G'.get? b=some o)->R kv {s with heap:=G',toks:=tk'})->wpAny (model prog w) A (call f [v]) R E {s with heap:=G,toks:=tk}
theorem zHF {a kS:ao}{f:ai}{e1:Nat}{body:ai->PUnit->Sem (ForInStep PUnit)}(y:s.heap.objs.size<=kS)(B:a≠kS)
  (M:∀x (s':aq) (R:ForInStep PUnit->aq->Prop),wpAny (model prog w) A (call f [x]) (fun k j=>∃its e,j.heap.get? kS=some (seqObj "list" its e)/\its.size<64/\R (.yield ⟨⟩) {j with heap:=j.heap.update kS (bG (·.push k))}) (fun _ _=>False) s'->wpAny (model prog w) A (body x ⟨⟩) R E s') :
  ∀(r:List ai) (ks:List (Int×Str)) (done:List ai) (l:List (Int×Str)) (G:bB) (tk:Nat) (e:Nat) (Q:PUnit->aq->Prop),r.length=ks.length->done.length=l.length->done.length+r.length<64->
   (∀(i:Nat) (v:ai),r[i]?=some v->∃k,ks[i]?=some k/\zHE prog w A s a f v k)->
   (∀b o,b≠a->s.heap.get? b=some o->G.get? b=some o)->G.get? a=some (seqObj "list" #[] e1)->G.get? kS=some (seqObj "list" done.toArray e)->(∀(i:Nat) (v:ai),done[i]?=some v->∃k,l[i]?=some k/\qM G v k)->
   (∀(kvs:List ai) (d:bB) (m O:Nat),kvs.length=(l++ks).length->(∀b o,b≠a->s.heap.get? b=some o->d.get? b=some o)->d.get? a=some (seqObj "list" #[] e1)->d.get? kS=some (seqObj "list" kvs.toArray O)->
    (∀(i:Nat) (v:ai),kvs[i]?=some v->∃k,(l++ks)[i]?=some k/\qM d v k)->Q ⟨⟩ {s with heap:=d,toks:=m})->
   wpAny (model prog w) A (forIn r PUnit.unit body) Q E {s with heap:=G,toks:=tk}
 | [],[],done,l,G,tk,e,Q,_,hd,_,_,H,ha,C,n,h=>by
  rw[fD]
  exact ar (h done G tk e (by simpa using hd) H ha C (by simpa using n))
 | [],_::_,_,_,_,_,_,_,hl,_,_,_,_,_,_,_,_=>by cases hl
 |_::_,[],_,_,_,_,_,_,hl,_,_,_,_,_,_,_,_=>by cases hl
 |x::r,k::ks,done,l,G,tk,e,Q,hl,hd,D,N,H,ha,C,n,h=>by
  rw[eZ]
  obtain⟨Z,P,T⟩:=N 0 x rfl
  cases P
  refine af (M x _ _ (T G tk _ _ H fun g d m I c=>⟨done.toArray,e,c _ _ C,by rw[aG];simp only[aJ]at D;omega,?_⟩))
  dsimp only
  have U:done.toArray.push g=(done++[g]).toArray:=by simp
  obtain⟨J,L⟩:∃J,(d.update kS (bG (·.push g))).get? kS=some (seqObj "list" (done++[g]).toArray J):=⟨_,by rw[<-U];exact iw (c _ _ C) (·.push g)⟩
  have p:∀b o,b≠kS->d.get? b=some o->(d.update kS (bG (·.push g))).get? b=some o:=fun b o t q=>(bt _ _ (dz t)).trans q
  have tup:∀b o,d.get? b=some o->o.cls=.type "tuple"->(d.update kS (bG (·.push g))).get? b=some o:=fun b o q u=>p b o (by
   rintro rfl
   rw[c _ _ C]at q
   cases q
   have F:Value.type "list"=Value.type "tuple" :=u
   exact absurd F (by decide)) q
  refine zHF y B M r ks (done++[g]) (l++[k]) _ m J Q (by simpa using hl) (by simp[hd]) (by simp only[aw,aJ,qq]at D⊢;omega)
   (fun i v q=>by simpa using N (i+1) v (by simpa using q)) (fun b o t q=>p b o (aV (bq (aD q) y)) (c _ _ (H b o t q))) (p a _ B (c _ _ ha)) L (fun i v q=>?_) ?_
  ·rcases Nat.lt_trichotomy i done.length with z|z|z
   ·rw[aS z]at q
    obtain⟨W,X,Y⟩:=n i v q
    exact⟨W,by rw[aS (by omega)];exact X,Y.keep fun b o q u=>tup b o (c _ _ q) u⟩
   ·subst z
    rw[aP (aA _),iO]at q
    cases q
    exact⟨k,by rw[aP (by omega),hd,iO];rfl,I.keep tup⟩
   ·rw[eS (by simp;omega)]at q;cases q
  ·rw[dP,List.singleton_append];exact h
theorem zNG {a q:ao}{vs:List ai}{ks:List (Int×Str)}{n:Nat}{P:qb->aq->Prop}(X:s.heap.get? a=some (seqObj "list" vs.toArray n))(hl:ks.length=vs.length)(nd:ks.Nodup)(H:vs.length<64)
  (hc:∀(i:Nat) (v:ai),vs[i]?=some v->∃k,ks[i]?=some k/\zHE prog w A s a (.ref q) v k)
  (h:∀(p:List Nat) (h':bB) (tk e:Nat),p.Perm (bu vs.length)->p.Pairwise (fun i j=>jH ks i j=true)->(∀b o,b≠a->s.heap.get? b=some o->h'.get? b=some o)->
   h'.get? a=some (seqObj "list" (p.map fun i=>vs.getD i Value.none).toArray e)->P (.done (.ret .none)) {s with heap:=h',toks:=tk}) :
  wpAny (model prog w) A (ksk_tree a (.ref q) false) P E s:=by
 have ha:a<s.heap.objs.size:=aD X
 unfold ksk_tree
 refine af (pk X rfl ?_)
 refine af (fY X rfl ?_ (by rw[aG,aL];omega) (bo _))
 obtain⟨e1,I⟩:∃e1,(s.heap.update a (bG fun _=>(#[]:Array ai))).get? a=some (seqObj "list" #[] e1):=⟨_,iw X fun _=>#[]⟩
 refine af (lH I rfl ?_)
 refine af (ko ?_ (by rw[aL];simp;omega))
 refine af (lQ ?_ (by simp))
 refine cV ?_
 have d:((s.heap.update a (bG fun _=>(#[]:Array ai))).push (seqObj "tuple" vs.toArray 0)).objs.size=s.heap.objs.size+1:=by rw[size_push',qe]
 show wpAny (model prog w) A (ksk_rest a (.ref q) false vs.toArray _ (.ref ((s.heap.update a (bG fun _=>(#[]:Array ai))).push (seqObj "tuple" vs.toArray 0)).objs.size)) P E {s with heap:=((s.heap.update a (bG fun _=>#[])).push (seqObj "tuple" vs.toArray 0)).push (seqObj "list" #[] 0)}
 have l:(((s.heap.update a (bG fun _=>(#[]:Array ai))).push (seqObj "tuple" vs.toArray 0)).push (seqObj "list" #[] 0)).get? ((s.heap.update a (bG fun _=>(#[]:Array ai))).push (seqObj "tuple" vs.toArray 0)).objs.size=some (seqObj "list" #[] 0):=aC _ rfl
 rw[d]at l⊢
 generalize hG:((s.heap.update a (bG fun _=>(#[]:Array ai))).push (seqObj "tuple" vs.toArray 0)).push (seqObj "list" #[] 0)=G at l⊢
 have aa:G.get? a=some (seqObj "list" #[] e1):=by
  rw[<-hG]
  exact ae _ (ae _ I)
 have ab:∀b o,b≠a->s.heap.get? b=some o->G.get? b=some o:=fun b o Y e=>by
  rw[<-hG]
  exact ae _ (ae _ ((bt _ _ (dz Y)).trans e))
 have y:a≠s.heap.objs.size+1:=aV (bH ha)
 clear hG d
 generalize d:s.heap.objs.size+1=kS at l y⊢
 unfold ksk_rest
 refine af (fR ?_)
 first
  |rw[List.forIn_toArray]
  |(rw[<-oP];simp only[List.toList_toArray])
  |rw[<-oP]
 refine af (zHF (kS:=kS) (e1:=e1) (by rw[<-d];exact fb _) y (fun x s' R hx=>?_) vs ks [] [] G s.toks 0 _ hl.symm rfl (by simpa using H) hc ab aa l (fun i v z=>by simp at z) fun kvs r c e' ac al am J an=>?_)
 ·refine af (fZ (cK hx (fun k a0 zq=>?_) fun _ _ hF=>hF.elim))
  obtain⟨its,e,hk,hz,hR⟩:=zq
  try dsimp only
  refine af (fY hk rfl ?_ (by rw[aL];omega) (bS (fN (Array.size_push ..)) (by rw[aL];omega)))
  exact ar hR
 ·try dsimp only
  rw[dU]at ac
  have u:∀(i:Nat) (v:ai),kvs[i]?=some v->∃k,ks[i]?=some k/\qM r v k:=fun i v z=>by simpa using an i v z
  refine af (pk J rfl ?_)
  have fin:∀(p:List Nat) (st:SortSt),failedOf st=none->(arrOf st).map (·.2)=(p.map fun i=>vs.getD i Value.none).toArray->p.Perm (bu vs.length)->p.Pairwise (fun i j=>jH ks i j=true)->
    wpAny (model prog w) A (ksk_tail a false e1 (.ref kS) st) P E {s with heap:=r,toks:=c}:=fun p st hf L M ap=>by
   unfold ksk_tail
   try dsimp only
   rw[L]
   have hz:(p.map fun i=>vs.getD i Value.none).toArray.size=vs.length:=by rw[aG,ah,M.length_eq,bE]
   refine af (fY J rfl ?_ (by rw[aG,aL];omega) (bo _))
   refine af (nJ ?_)
   have B:(r.update kS (bG fun _=>(#[]:Array ai))).get? a=some (seqObj "list" #[] e1):=(bt _ _ (dz y)).trans am
   refine af (lH B rfl ?_)
   refine af (fY B rfl ?_ (bo _) (by
    simp only[eJ,if_false]
    rw[hz,aL];omega))
   rw[hf]
   simp only[bne_self_eq_false,eJ,if_false]
   refine ar ?_
   have e3:=iw B fun _=>(p.map fun i=>vs.getD i Value.none).toArray
   exact h p _ c _ M ap (fun b o Y e=>(bt _ _ (dz Y)).trans ((bt _ _ (by
    rw[<-d];exact cw (bH (aD e)))).trans (al b o Y e))) e3
  unfold ksk_end
  try dsimp only
  simp only[eJ,if_false]
  have D:kvs.length=vs.length:=by omega
  by_cases m:vs.toArray.size<2
  ·rw[if_pos m,if_pos m]
   refine af (ar ?_)
   rw[qu]
   refine af (ar ?_)
   try dsimp only
   refine fin (bu vs.length) _ rfl ?_ (dy _) ?_
   ·show((kvs.toArray.zip vs.toArray).map (·.2))=_
    match vs,kvs,m,D with
    | [],[],_,_=>simp
    | [v],[k],_,_=>simp[dD]
    |_::_::_,_,m,_=>simp at m;omega
   ·have:vs.length<2:=by simpa using m
    match hv:vs.length,this with
    |0,_=>simp
    |1,_=>simp[dD]
  ·rw[if_neg m,if_neg m]
   have F:2<=vs.length:=by simpa using m
   refine af (zNF (s:={s with heap:=r,toks:=c}) u (by omega) ?_)
   have O:=zND nd
   rw[hl]at O
   obtain⟨as,ax⟩:=zGl O F
   have kt:∀i,i<vs.length->qM r (kvs.getD i Value.none) (ks.getD i (0,⟨#[]⟩)):=fun i hi=>by
    obtain⟨k,e,t⟩:=u i kvs[i] (ay (by omega))
    have e1:kvs.getD i Value.none=kvs[i]:=by simp[show i<kvs.length by omega]
    have e2:ks.getD i (0,⟨#[]⟩)=k:=by rw[bL,e];rfl
    rw[e1,e2];exact t
   have ne:∀i j,i<vs.length->j<vs.length->i≠j->ks.getD i (0,(⟨#[]⟩:Str))≠ks.getD j (0,⟨#[]⟩):=fun i j hi T f e=>by
    have e1:ks.getD i (0,(⟨#[]⟩:Str))=ks[i]:=by simp[show i<ks.length by omega]
    have e2:ks.getD j (0,(⟨#[]⟩:Str))=ks[j]:=by simp[show j<ks.length by omega]
    rw[e1,e2]at e
    exact f ((d5 nd).mp e)
   refine af (cK (kat_run (ks:=kvs) (vs:=vs) (Q:=fun g s'=>s'={s with heap:=r,toks:=c}/\failedOf g=none/\∃p:Array Nat,Pm p vs.length/\Up (jH ks) p vs.length/\arrOf g=p.map (kas_item (kvs.toArray.zip vs.toArray)))
    (G:=fun p s'=>s'={s with heap:=r,toks:=c}/\Pm p vs.length/\Up (jH ks) p vs.length) D F H (fun p g s' _ Z q2 U=>⟨U.1,q2,p,U.2.1,U.2.2,Z⟩) ?_) ?_ fun _ _ e=>e)
   ·refine zDN (N:=vs.length) (lt:=jH ks) (fun i j hi T f C aK=>?_) _ _ (zGk O F) ⟨rfl,as,ax⟩
    exact zNE (s:={s with heap:=r,toks:=c}) (kt i hi) (kt j T) (ne i j hi T f) aK
   ·rintro⟨⟨⟩,g⟩ s' ⟨rfl,hf,p,Z,q2,U⟩
    try dsimp only
    refine fin p.toList g hf (kat_snds D U) Z ?_
    rw[lr]
    intro i j hi T f
    have aN:i<p.size:=by simpa using hi
    have W:j<p.size:=by simpa using T
    have:=q2 i j f (by rw[<-Z.size];exact W)
    rw[zAH aN,zAH W]at this
    simpa using this
end
open MyS PySem.W
noncomputable def gG (x:Str)(p:Pos):tH:={posonlyargs:=[],args:=[{arg:=x,annotation:=none,pos:=p}],vararg:=none,kwonlyargs:=[],kw_defaults:=[],kwarg:=none,defaults:=[]}
noncomputable def qN (x:Str):fS:={kind:=.function,names:=[(x,.local)],isGenerator:=false,isCoroutine:=false,more:=[]}
noncomputable def jZ (x:Str)(p1 p2 p3 p4 p5 p6 p7 p8:Pos):bF :=
 .Tuple [.UnaryOp .USub (.Subscript (.Name x p1) (.Constant (.int 0) 0 p2) p3) p4,.Subscript (.Name x p5) (.Constant (.int 1) 0 p6) p7] 0 p8
section
variable{prog:aH}{w:aW}{A:bK}{E:ai->aq->Prop}{s:aq}
theorem zNH {x nm a:Str}{P F G H I v B C g:Pos}{f b l:ao}{pm ctv:ai}{i:Int}{z:Str}{t u:Tok}{R:ai->aq->Prop}(Q:(x==("__debug__" : Str))=false)
  (Z:bindArgs (kla_fn nm a (gG x P) (jZ x F G H I v B C g) (qN x) [] pm (.ref l) ctv) ⟨[.ref b],[]⟩=pure [(x,.ref b)])
  (hf:s.heap.get? f=some (tU nm a (gG x P) (jZ x F G H I v B C g) (qN x) [] pm l ctv)) (J:s.heap.CodeRec (.ref l) a) (m:s.heap.NoLimit) (c:A.depth<recursionLimit)
  (hv:rq s.heap b #[.int i t,.str z u])
  (h:∀T L M,qM L T (-i,z)->(∀b o,s.heap.get? b=some o->L.get? b=some o)->R T {s with heap:=L,toks:=M}):wpAny (model prog w) A (call (.ref f) [.ref b]) R E s:=by
 refine mC (kla_callFunE c hf rfl rfl rfl rfl J ?_)
 have n:(x==x)=true:=by simp
 rw[Z]
 have p:(qN x).names.lookup x=some .local:=by unfold qN;rw[bV,n]
 refine ar (jd (fun y N=>?_) (fun y N=>?_) (fun h₁ O q=>⟨m.fresh _ q,?_⟩) rfl)
 ·rw[aM.mp N];exact fun z=>by cases z
 ·rw[aM.mp N];exact p
 show codeAny _ _ (.expr (jZ x F G H I v B C g) (envX a (qN x) s.heap.objs.size f (.ref l) [])) _ _
 have old:∀b o,s.heap.get? b=some o->h₁.get? b=some o:=fun b o e=>q.extBut b o (aV (aD e)) (ae _ e)
 have U:(fun y=>[(x,Value.ref b)].reverse.lookup y) x=some (.ref b):=by
  show [(x,Value.ref b)].lookup x=_
  rw[bV,n]
 generalize d:envX a (qN x) s.heap.objs.size f (.ref l) []=env
 have W:env.scope.kind=.function:=by rw[<-d];rfl
 have X:env.kindOf x=some .local:=by rw[<-d];exact p
 have Y:h₁.Ns env.locals (fun y=>[(x,Value.ref b)].reverse.lookup y):=by rw[<-d];exact O
 have D:∀tk:Nat,rq ({s with heap:=h₁,toks:=tk}:aq).heap b #[.int i t,.str z u]:=fun _=>let⟨o,e,r⟩:=hv;⟨o,old b o e,r⟩
 refine kla_codeExpr ?_
 unfold jZ
 refine nY ?_
 show wpAny _ _ (spliced ((false,eval _ env)::backTo g (starEach [.Subscript (.Name x v) (.Constant (.int 1) 0 B) C] env))) _ _ _
 refine d7 (UnaryOp_ (kj (my (jb W X Y U ?_) Q)))
 refine jx ?_
 refine fO (x:=.int i t) (D _).typeIs kl.lookup (ox (j:=0) (D _) (by decide) (by decide) rfl rfl ⟨rfl,?_⟩)
 refine neg_int ?_
 show wpAny _ _ (spliced ((false,eval _ env)::backTo g (starEach [] env))) _ _ _
 refine d7 (kj (my (jb W X Y U ?_) Q))
 refine jx ?_
 refine fO (x:=.str z u) (D _).typeIs kl.lookup (ox (j:=1) (D _) (by decide) (by decide) rfl rfl ⟨rfl,?_⟩)
 refine gb ⟨by show 2<=_;rw[aL];omega,?_⟩
 dsimp only
 refine h _ _ _ ⟨_,_,_,_,_,rfl,aC _ rfl,rfl,rfl⟩ fun b o e=>ae _ (old b o e)
end
open MyS PySem.W
noncomputable def jI (ps:List (Int×Str)):List (Int×Str):=ps.map fun p=>(-p.1,p.2)
theorem zNI {ps:List (Int×Str)}(h:ps.Nodup):(jI ps).Nodup:=by
 unfold jI
 rw[dq,bD]
 refine h.imp fun{a b} n e=>n ?_
 obtain⟨e1,c⟩:=bY e
 exact eI (by omega) c
section
variable{X:Cx}{pins:List (ao×Obj)}{σ:St}{H:Hp}{s:aq}
theorem zHG {x nm d:Str}{p0 p1 p2 p3 p4 p5 p6 p7 p8:Pos}{f O l:ao}{pm ctv:ai}{g:List V}{ps:List (Int×Str)}{Q:VK}(hx:(x==("__debug__" : Str))=false)
  (hb:∀b:ao,bindArgs (kla_fn nm d (gG x p0) (jZ x p1 p2 p3 p4 p5 p6 p7 p8) (qN x) [] pm (.ref O) ctv) ⟨[.ref b],[]⟩=pure [(x,.ref b)])
  (I:Inv X pins σ H s) (n:X.A.depth<recursionLimit) (hf:s.heap.get? f=some (tU nm d (gG x p0) (jZ x p1 p2 p3 p4 p5 p6 p7 p8) (qN x) [] pm O ctv)) (P:s.heap.CodeRec (.ref O) d)
  (hl:z6 X.K H l g) (hn:g.length=ps.length) (hp:∀(i:Nat) (p:Int×Str),ps[i]?=some p->∃a,g[i]?=some (.ref a)/\zX X.K H a [.int p.1,.str p.2]) (nd:ps.Nodup) (aK:ps.length<64)
  (q:∀(pm:List Nat) (D:ao),pm.Perm (bu ps.length)->pm.Pairwise (fun i j=>jH (jI ps) i j=true)->H D=none->Q (.ref D) (upd H D (.lst (pm.map fun i=>g.getD i .non)))) :
  wpAny (model X.prog X.w) X.A (call (.builtin "sorted") [.ref l] [(di "key",.ref f)]) (EP X pins σ Q) X.xe s:=by
 obtain⟨its,T,pl,_⟩:=I.list hl
 have c:its.length=ps.length:=by rw[<-T.length];exact hn
 have U:(jI ps).length=ps.length:=by unfold jI;rw[ah]
 refine call_function_entry_kw kind_sorted plain_sorted entry_sorted (ksk_s1 _ _) ?_
 unfold cJ.«sorted»
 refine af (m:=checkCount "sorted" 1 1 _) (ar ?_)
 refine af (collect_list pl.isList ?_ (by rw[c,aL];omega))
 obtain⟨G,C,hG,W⟩:∃G,G=(s.heap.push (seqObj "list" #[] 0)).update s.heap.objs.size (bG (·++its.toArray))/\(∀b o,s.heap.get? b=some o->G.get? b=some o)/\s.heap.objs.size<=G.objs.size :=
  ⟨_,rfl,fun b o e=>(bt _ _ (cw (aD e))).trans (ae _ e),by rw[qe,br];exact fb _⟩
 rw[<-C]
 clear C
 refine af (lQ ?_ (by rw[c,aL];omega))
 dsimp only
 generalize Y:G.objs.size=B
 have E:(G.push {cls:=.type "list",data:=.seq its.toArray}).get? B=some (seqObj "list" its.toArray 0):=by
  rw[<-Y];exact aC _ rfl
 have F:s.heap.objs.size<=B:=by rw[<-Y];exact W
 have old:∀b o,s.heap.get? b=some o->(G.push {cls:=.type "list",data:=.seq its.toArray}).get? b=some o/\b≠B:=fun b o e=>⟨ae _ (hG _ _ e),by rw[<-Y];exact aV (aD (hG _ _ e))⟩
 refine af (cV (wpAny_call_entry_kw rM ⟨_,E,rfl⟩ qy ?body (ksk_l1 _ _)))
 case body=>
  show wpAny _ _ (cJ.«list.sort» ⟨[.ref B],[(di "key",.ref f)]⟩) _ _ _
  rw[ksk_t1]
  refine zNG (ks:=jI ps) E (by rw[U];exact c.symm) (zNI nd) (by omega) (fun i v e=>?_) fun h h2 Z e2 aa ab ac al=>⟨_,rfl,?_⟩
  ·have hi:i<ps.length:=by rw[<-c];exact(ak.mp e).1
   obtain⟨a1,f1,f2⟩:=hp i ps[i] (ay hi)
   obtain⟨u',g1,g2⟩:=T.get f1
   rw[e]at g1
   cases g1
   cases g2
   obtain⟨ax,r2,tp,_⟩:=I.tuple f2
   obtain⟨y1,y2,rfl,am,an⟩:=zAe r2
   obtain⟨t,rfl⟩:=am
   obtain⟨u,rfl⟩:=an
   refine⟨(-ps[i].1,ps[i].2),by unfold jI;rw[az,ay hi];rfl,?_⟩
   intro G' tk R E' ap hR
   have kp:∀b o,s.heap.get? b=some o->G'.get? b=some o:=fun b o z=>ap b o (old b o z).2 (old b o z).1
   refine zNH (s:={s with heap:=G',toks:=tk}) hx (hb _) (kp _ _ hf) (by
    obtain⟨c2,oc,vs,tq,z1,z2,z3,z4⟩:=P
    exact⟨c2,oc,vs,tq,z1,kp _ _ z2,z3,z4⟩) (I.nolimit.keeps kp) n (let⟨o,z,r⟩:=tp;⟨o,kp _ _ z,r⟩) fun kv as J k1 k2=>hR kv as J k1 k2
  ·refine ar ⟨_,rfl,?_⟩
   have y:h.Perm (bu ps.length):=by rw[<-c];exact aa
   have L:∀b o,s.heap.get? b=some o->h2.get? b=some o:=fun b o e=>ac b o (old _ _ e).2 (old _ _ e).1
   refine⟨.ref B,_,I.laid (t':=Z) (o:=.lst (h.map fun i=>g.getD i .non)) L F ⟨?_,_,_,?_,al⟩,rfl,q h B y ab (I.hok.fresh F)⟩
   ·rw[ah,y.length_eq,bE,aL];omega
   ·have go:∀l:List Nat,(∀i∈l,i<ps.length)->zJ (l.map fun i=>g.getD i .non) (l.map fun i=>its.getD i Value.none):=by
     intro l
     induction l with
     |nil=>intro _;exact .nil
     |cons i l ih=>
      intro M
      have hi:i<ps.length:=M i (au ..)
      have N:i<g.length:=by rw[hn];exact hi
      refine .cons ?_ (ih fun j hj=>M j (aj _ hj))
      obtain⟨u,e1,e2⟩:=T.get (ay N)
      have a1:g.getD i .non=g[i]:=by simp[N]
      have a2:its.getD i Value.none=u:=by rw[bL,e1];rfl
      show zQ (g.getD i .non) (its.getD i Value.none)
      rw[a1,a2]
      exact e2
    exact go h fun i hi=>bP.mp (y.mem_iff.mp hi)
end
open MyS PySem.W
noncomputable def gH (P:ao)(pos:Pos)(qual:Str)(H:Hp):Prop :=
 H P=some (.tbl #[])\/∃c' oc u vs t,H P=some (.tbl #[rawInt pos.line,rawInt pos.col,.ref c'])/\H c'=some (.frz oc u)/\oc.data=.fields vs/\vs[1]?=some (.str qual t)
noncomputable def j0 (P:ao)(H H':Hp):Prop:=∀b o,b≠P->H b=some o->H' b=some o
theorem j0.refl {P:ao}{H:Hp}:j0 P H H:=fun _ _ _ e=>e
structure LamBase (mg:Str->Option ai) (base:bB) (c P:ao):Prop where
 code:rN base c P
 blt:∃bm o,mg "__builtins__"=some (.ref bm)/\bm≠builtinsNs/\bm≠mainGlobals/\base.get? bm=some o/\o.cls=.type "module"/\o.dict=some builtinsNs/\o.data=.plain
theorem j0.rd {P a:ao}{H b:Hp}{o:HO}(d:j0 P H b)(hn:∀ps,o≠.tbl ps){ps:Array ai}(f:H P=some (.tbl ps))(r:Rd H a o):Rd b a o:=by
 have ne:∀u,H a=some u->(∀c,u≠.tbl c)->b a=some u:=fun u e n=>d a u (fun z=>by rw[z,f]at e;exact n ps (aB e).symm) e
 rcases r with r|⟨g,r⟩
 ·exact .inl (ne _ r hn)
 ·exact .inr ⟨g,ne _ r fun c z=>by cases z⟩
theorem j0.sqL {K:ag}{P a:ao}{H b:Hp}{xs:List V}(c:j0 P H b){ps:Array ai}(d:H P=some (.tbl ps))(r:z6 K H a xs):z6 K b a xs:=r.imp (fun z=>c.rd (fun _ y=>by cases y) d z) id
theorem j0.sqT {K:ag}{P a:ao}{H b:Hp}{xs:List V}(c:j0 P H b){ps:Array ai}(d:H P=some (.tbl ps))(r:zX K H a xs):zX K b a xs:=r.imp (fun z=>c.rd (fun _ y=>by cases y) d z) id
section
variable{X:Cx}{pins:List (ao×Obj)}{σ:St}{H:Hp}{s:aq}
theorem zNJ {P a:ao}{ps:Array ai}{more:Array ai}{oc:Obj}{h':bB}{tk:Nat}(I:Inv X pins σ H s)(f:H P=some (.tbl ps))(r:∀b o,b≠P->s.heap.get? b=some o->h'.get? b=some o)
  (x:s.heap.objs.size<=a) (g:h'.get? a=some oc) (l:h'.get? P=some {cls:=.none,data:=.fields (ps++more)}) :
  Inv X pins σ (upd (upd H P (.tbl (ps++more))) a (.frz oc (.ext fun h=>h.get? a=some oc))) {s with heap:=h',toks:=tk}:=by
 have c:H a=none:=I.hok.fresh x
 have w:P≠a:=yF f c
 have i:∀b,b≠P->b≠a->upd (upd H P (.tbl (ps++more))) a (.frz oc (.ext fun h=>h.get? a=some oc)) b=H b:=fun b m j=>by rw[zG j,zG m]
 have p:upd (upd H P (.tbl (ps++more))) a (.frz oc (.ext fun h=>h.get? a=some oc)) P=some (.tbl (ps++more)):=by rw[zG w,zF]
 have low:∀b o,s.heap.get? b=some o->b≠a:=fun b o e=>aV (bq (aD e) x)
 refine I.un ⟨fun b o e n _ _=>r b o (fun z=>by rw[z,f]at n;cases n) e,fun b o e n _ _=>⟨o.slots,r b o (fun z=>by rw[z,f]at n;cases n) e⟩,
  fun b o e n _=>(i b (fun z=>by rw[z,f]at n;cases n) (low b o e)).trans n,fun b o e _=>?_,fun b xs e=>?_,fun b o u e=>?_,fun b A e=>?_⟩ fun b u e=>?_
 ·by_cases q:b=P
  ·exact⟨_,by rw[q];exact l⟩
  ·exact⟨o,r b o q e⟩
 ·exact(i b (fun z=>by rw[z,f]at e;cases e) (yF e c)).trans e
 ·exact(i b (fun z=>by rw[z,f]at e;cases e) (yF e c)).trans e
 ·by_cases q:b=P
  ·subst q
   rw[f]at e
   cases e
   exact⟨more,p⟩
  ·exact⟨#[],by rw[i b q (yF e c),Array.append_empty];exact e⟩
 ·by_cases m:b=a
  ·subst m
   rw[zF]at e
   cases e
   exact⟨g,g,⟨oc,g⟩,fun m j z k=>k _ z⟩
  ·by_cases j:b=P
   ·subst j
    rw[p]at e
    cases e
    exact l
   ·rw[i b j m]at e
    refine(I.hok b u e).stay (fun d v hd z=>r d v ?_ z) (fun d z=>?_) fun d xs z=>?_
    ·rintro rfl
     rcases hd with t|t
     ·exact j t.symm
     ·rw[f]at t;cases t
    ·exact(i d (fun y=>by rw[y,f]at z;cases z) (yF z c)).trans z
    ·exact(i d (fun y=>by rw[y,f]at z;cases z) (yF z c)).trans z
noncomputable def zNK (K:ag)(P:ao)(lp:Pos)(qual:Str)(t:TA):TE:=fun σ H Q=>t σ H fun vs H1=>∃l ts ps,vs=[V.ref l]/\z6 K H1 l ts/\ts.length=ps.length/\
 (∀(i:Nat) (p:Int×Str),ps[i]?=some p->∃a,ts[i]?=some (.ref a)/\zX K H1 a [.int p.1,.str p.2])/\ps.Nodup/\ps.length<64/\gH P lp qual H1/\
 ∀(pm:List Nat) (D:ao) (H2:Hp),pm.Perm (bu ps.length)->pm.Pairwise (fun i j=>jH (jI ps) i j=true)->j0 P H1 H2->gH P lp qual H2->H2 D=none->H1 D=none->D≠P->Q (.ref D) (upd H2 D (.lst (pm.map fun i=>ts.getD i .non)))
theorem zNL {x:Str}{p Y Z p2 p3 p4 p5 p6 p7 p8 j kp pos:Pos}{c P:ao}{e:bF}{t:TA}(hg:Gl X "sorted")(hm:X.mg "sorted"=none)(m:X.A.depth<recursionLimit)(r:X.env.code=.ref c)(B:LamBase X.mg X.base c P)(ha:PA X [e] t)
  (hx:(x==("__debug__" : Str))=false)
  (hb:∀(J:Str) (pm ctv:ai) (d b:ao),bindArgs (kla_fn "<lambda>" J (gG x Y) (jZ x Z p2 p3 p4 p5 p6 p7 p8) (qN x) [] pm (.ref d) ctv) ⟨[.ref b],[]⟩=pure [(x,.ref b)])
  (aa:backTo pos (starEach [e] X.env)=(false,eval e X.env)::backTo pos (starEach [] X.env):=by rfl)
  (ab:(backTo pos (starEach [e] X.env)).any (·.1)=false:=by rfl) :
  PE X (.Call (.Name "sorted" p) [e] [⟨some "key",.Lambda (gG x Y) (jZ x Z p2 p3 p4 p5 p6 p7 p8) (qN x) j,kp⟩] pos) (zNK X.K P j (X.env.qual++ "<lambda>") t):=by
 intro pins s σ H Q I h
 refine c9 (qB I hg hm (by rfl) ?_ (by decide) (by decide))
 refine callWith_kw (zH (ha pos pins s σ H _ I h) fun us L h1=>kws_cons ?_) aa ab
 obtain⟨vs,G,f,r1,l,ts,ps,rfl,hl,hn,hp,nd,M,tab,q⟩:=h1
 obtain⟨u,rfl,ru⟩:=uM r1
 cases ru
 have C:L.heap.Ns mainGlobals X.mg:=f.mod.glob.keeps f.bk
 have N:closureFor (qN x) X.env=pure []:=rfl
 refine kla_eval rfl ?_
 obtain⟨bm,ob,b1,b2,b3,b4,b5,b6,b7⟩:=B.blt
 rcases tab with v|⟨d,oc,u,vs,t,v,O,hd,hv⟩
 ·have w:L.heap.get? P=some (tabObj #[]):=f.hok P _ v
  have ac:mainGlobals≠P:=fun z=>by
   obtain⟨o,es,ep,e',al,_⟩:=C
   rw[z,w]at e';cases e';cases al
  have E:bm≠P:=fun z=>by
   have:=(f.bs _ _ b4).2
   rw[z,v]at this;cases this
  refine kla_makeFunction (mg:=X.mg) N f.ok.glob C r (B.code.keeps f.bk) w trivial rfl ac ⟨bm,ob,b1,b2,b3,E,f.bk _ _ b4,b5,b6,b7⟩ fun d ctv h' tk am R ap T an=>?_
  refine kws_nil ?_
  obtain⟨c₂,oc,vs,t,e2,y,hd,hv⟩:=id T
  cases e2
  have I2:=zNJ (tk:=tk) (oc:=oc) (more:=#[rawInt j.line,rawInt j.col,.ref d]) (h':=h'.push (tU "<lambda>" (X.env.qual++ "<lambda>") (gG x Y) (jZ x Z p2 p3 p4 p5 p6 p7 p8) (qN x) [] ((X.mg "__name__").getD .none) d ctv)) f v
   (fun b o n e=>ae _ (am b o n e)) R (ae _ y) (ae _ an)
  have U:G d=none:=f.hok.fresh R
  have F:P≠d:=yF v U
  have sb:j0 P G (upd (upd G P (.tbl (#[]++#[rawInt j.line,rawInt j.col,.ref d]))) d (.frz oc (.ext fun h=>h.get? d=some oc))):=fun b o n e=>by rw[zG (yF e U),zG n];exact e
  have tb:gH P j (X.env.qual++ "<lambda>") (upd (upd G P (.tbl (#[]++#[rawInt j.line,rawInt j.col,.ref d]))) d (.frz oc (.ext fun h=>h.get? d=some oc))) :=
   .inr ⟨d,oc,_,vs,t,by rw[zG F,zF];rfl,zF,hd,hv⟩
  refine zHG (pm:=(X.mg "__name__").getD .none) (ctv:=ctv) hx (hb _ _ _ _) I2 m (aC _ rfl) ⟨d,oc,vs,t,rfl,ae _ y,hd,hv⟩ (sb.sqL v hl) hn (fun i p z=>let⟨a,z1,z2⟩:=hp i p z;⟨a,z1,sb.sqT v z2⟩) nd M
   fun pm D m1 m2 g=>q pm D _ m1 m2 sb tb g ?_ ?_
  ·cases z:G D with
   |none=>rfl
   |some o=>
    exfalso
    by_cases W:D=P
    ·rw[W,zG F,zF]at g;cases g
    ·rw[sb D o W z]at g;cases g
  ·rintro rfl
   rw[zG F,zF]at g;cases g
 ·have w:L.heap.get? P=some (tabObj #[rawInt j.line,rawInt j.col,.ref d]):=f.hok P _ v
  have E:bm≠P:=fun z=>by
   have:=(f.bs _ _ b4).2
   rw[z,v]at this;cases this
  have y:L.heap.get? d=some oc:=(f.hok d _ O).1
  refine kla_makeFunctionHit (mg:=X.mg) (cv:=.ref d) N f.ok.glob C r (B.code.keeps f.bk) w trivial (by simp[codeAmong,rawInt]) ⟨bm,ob,b1,b2,b3,E,f.bk _ _ b4,b5,b6,b7⟩ fun ctv h' tk hk hsz=>?_
  refine kws_nil ?_
  have I2:Inv X pins σ G {L with heap:=h'.push (tU "<lambda>" (X.env.qual++ "<lambda>") (gG x Y) (jZ x Z p2 p3 p4 p5 p6 p7 p8) (qN x) [] ((X.mg "__name__").getD .none) d ctv),toks:=tk}:=f.kept fun b o e=>ae _ (hk b o e)
  refine zHG (pm:=(X.mg "__name__").getD .none) (ctv:=ctv) hx (hb _ _ _ _) I2 m (aC _ rfl) ⟨d,oc,vs,t,rfl,ae _ (hk _ _ y),hd,hv⟩ hl hn hp nd M
   fun pm D m1 m2 g=>q pm D _ m1 m2 .refl (.inr ⟨d,oc,u,vs,t,v,O,hd,hv⟩) g g fun z=>by rw[z,v]at g;cases g
end
open PySem.W (tabObj CodeHd)
theorem zNM {h:bB}{c T:ao}(C:rN h c T):isCodeTable h T:=by
 obtain⟨o,vs,file,g,flags,i,a,text,j,b,d,e,f,_⟩:=C
 exact⟨c,o,vs,b,d,e,f⟩
theorem zNN {P:aH}{w:aW}{K:ag}{mg mb:Str->Option ai}{k:Nat}{O a c T:ao}{fd:aZ}{x:Str}{sp:Sp}{f:aq}{vs:List ai}{ns:List Int}
  (KX:K.In f.heap) (A:f.heap.Ns mainGlobals mg) (i:f.heap.Ns builtinsNs mb) (Q:∀x:Str,x≠"__name__"->mb x=bootBuiltins x) (B:f.heap.NoLimit) (hg:f.gens=#[])
  (ha:f.heap.get? a=some {cls:=.type "list",data:=.seq vs.toArray}) (hi:rm vs ns) (hl:ns.length<=sizeLine) (hr:Room k callerA)
  (C:f.heap.get? T=some (tabObj #[])) (R:K.lookup T=none) (hC:rN f.heap c T)
  (U:∃y o,mg "__builtins__"=some (.ref y)/\y≠builtinsNs/\y≠mainGlobals/\f.heap.get? y=some o/\o.cls=.type "module"/\o.dict=some builtinsNs/\o.data=.plain)
  (F:∀base:bB,K.In base->base.Ns mainGlobals mg->LamBase mg base c T->FnOk P w K mg base zZ k O fd [x] sp) (t:∀(s:aq) (u:ai),o4 s fd ⟨[u],[]⟩ [(x,u)])
  (W:∀H:Hp,H T=some (.tbl #[])->z6 K H a (ns.map V.int)->sp [.ref a] H (fun v _=>v=.bl true) fun _ _ _=>False) :
  codeAny (model P w) callerA (.call (.ref O) ⟨[.ref a],[]⟩) (fun r s'=>r=.ok (.ret (.bool true))/\OldK f.heap s'.heap/\s'.os=f.os/\lD s'.gens) f:=by
 have rv:=zGS hi
 have D:=hi.length
 have E:a≠T:=fun z=>by rw[z,C]at ha;cases ha
 have core:∀H:Hp,H T=some (.tbl #[])->(∀b,H b=none\/b=T\/∃o xs,H b=some (.frz o (.lst xs)))->z6 K H a (ns.map V.int)->z8 P w H f.heap->(∀b,H b≠none->b=a\/b=T)->(H a≠none->K.lookup a=none)->
   codeAny (model P w) callerA (.call (.ref O) ⟨[.ref a],[]⟩) (fun r s'=>r=.ok (.ret (.bool true))/\OldK f.heap s'.heap/\s'.os=f.os/\lD s'.gens) f:=by
  intro H G hO hS hok X hK
  have base_of:∀{b:ao} {o:Obj},f.heap.get? b=some o->H b=none->(jS f.heap H).get? b=some o:=fun e n=>zKA e n
  have I:∀{b:ao} {o:Obj},f.heap.get? b=some o->(∀xs n,o.data≠.seq xs n)->(∀xs,o.data≠.fields xs)->H b=none:=fun{b o} e d1 d2=>by
   cases q:H b with
   |none=>rfl
   |some u=>
    rcases X b (by rw[q];simp)with z|z
    ·subst z;rw[ha]at e;cases e;exact absurd rfl (d1 _ _)
    ·subst z;rw[C]at e;cases e;exact absurd rfl (d2 _)
  have j:∀{b:ao} {m:Str->Option ai},f.heap.Ns b m->(jS f.heap H).Ns b m:=fun{b m} ⟨o,es,ep,e,d,r⟩=>⟨o,es,ep,base_of e (I e (fun _ _ z=>by rw[d]at z;cases z) fun _ z=>by rw[d]at z;cases z),d,r⟩
  have J:K.In (jS f.heap H):=fun b o e=>base_of (KX b o e) (by
   cases q:H b with
   |none=>rfl
   |some u=>
    rcases X b (by rw[q];simp)with z|z
    ·subst z;rw[hK (by rw[q];simp)]at e;cases e
    ·subst z;rw[R]at e;cases e)
  have hM:Mod K mg (jS f.heap H):=⟨J,j A,⟨mb,j i,Q⟩,let⟨mc,L,Y⟩:=B;⟨mc,j L,Y⟩⟩
  have e0:Env0 P w K mg (jS f.heap H) callerA [] f H:=⟨rfl,hM,fun b o e=>zKB e,fN (zJz _ _),trivial,fun b i=>absurd (show b∈([]:List ao)from i) (by simp),hok,.of_eq hg⟩
  have Z:LamBase mg (jS f.heap H) c T:=by
   refine⟨?_,?_⟩
   ·obtain⟨o,aa,file,tf,flags,tg,ab,text,tt,L,Y,h3,h4,h5,h6,h7,h8,h9,M⟩:=id hC
    refine⟨o,aa,file,tf,flags,tg,ab,text,tt,base_of L ?_,Y,h3,h4,h5,h6,h7,h8,h9,M⟩
    cases q:H c with
    |none=>rfl
    |some u=>
     rcases X c (by rw[q];simp)with z|z
     ·rw[z,ha]at L;cases L;cases h3
     ·exact absurd z M
   ·obtain⟨y,o,b1,b2,b3,b4,b5,b6,b7⟩:=U
    exact⟨y,o,b1,b2,b3,base_of b4 (I b4 (fun _ _ z=>by rw[b7]at z;cases z) fun _ z=>by rw[b7]at z;cases z),b5,b6,b7⟩
  refine eE ((F _ J (j A) Z).run callerA [] f H ⟨[.ref a],[]⟩ [.ref a] [.ref a] _ _ hr e0 (t f (.ref a)) (.cons rfl .nil) (W H G hS)) fun r s' h=>?_
  cases r with
  |error e=>exact d6 h
  |ok fl=>
   cases fl with
   |next=>exact d6 h
   |brk=>exact d6 h
   |cont=>exact d6 h
   |ret u=>
    obtain⟨v,H',os,bare,un,p,r',q⟩:=h
    have q':v=.bl true:=q
    subst q'
    obtain rfl:u=Value.bool true:=r'
    obtain⟨more,ac⟩:=un.tbls T _ G
    have N:s'.heap.get? T=some {cls:=.none,data:=.fields (#[]++more)}:=p T _ ac
    have kp:∀b o,b≠T->f.heap.get? b=some o->s'.heap.get? b=some o:=fun b o g e=>by
     cases q:H b with
     |none=>exact un.keep b o e q (by intro z;exact absurd (show b∈([]:List ao)from z) (by simp)) (by simp)
     |some u=>
      rcases hO b with z|z|⟨ob,xs,z⟩
      ·rw[q]at z;cases z
      ·exact absurd z g
      ·have z2:=un.frzs b ob _ z
       obtain⟨e1,_⟩:=hok b _ z
       obtain⟨e2,_⟩:=p b _ z2
       rw[e]at e1;cases e1
       exact e2
    refine⟨rfl,⟨fun b o e=>?_,fun b o e=>?_⟩,os,bare⟩
    ·by_cases g:b=T
     ·subst g
      rw[C]at e;cases e
      exact .inr (.inl ⟨zNM hC,rfl,#[],more,rfl,N⟩)
     ·exact .inl (kp b o g e)
    ·by_cases g:b=T
     ·subst g;exact⟨_,N⟩
     ·exact⟨o,kp b o g e⟩
 cases hk:K.lookup a with
 |some o=>
  have e:=KX a o hk
  rw[ha]at e
  cases e
  refine core (fun b=>if b=T then some (.tbl #[])else none) (if_pos rfl) (fun b=>?_) (.inr ⟨_,vs.toArray,_,hk,rfl,rfl,rfl,by rw[aG,D];exact hl,by simpa using rv⟩) (fun b u z=>?_) (fun b z=>?_) fun z=>absurd (if_neg E) z
  ·by_cases h:b=T
   ·exact .inr (.inl h)
   ·exact .inl (if_neg h)
  ·by_cases h:b=T
   ·have l:=(if_pos h).symm.trans z
    cases l
    subst h
    exact C
   ·have l:=(if_neg h).symm.trans z
    cases l
  ·by_cases h:b=T
   ·exact .inr h
   ·exact absurd (if_neg h) z
 |none=>
  refine core (fun b=>if b=a then some (.frz {cls:=.type "list",data:=.seq vs.toArray} (.lst (ns.map V.int)))else if b=T then some (.tbl #[])else none) (by show(if T=a then _ else _)=_;rw[if_neg E.symm,if_pos rfl]) (fun b=>?_)
   (.inl (.inr ⟨{cls:=.type "list",data:=.seq vs.toArray},if_pos rfl⟩)) (fun b u z=>?_) (fun b z=>?_) fun _=>hk
  ·by_cases i:b=a
   ·exact .inr (.inr ⟨_,_,if_pos i⟩)
   ·by_cases h:b=T
    ·exact .inr (.inl h)
    ·exact .inl ((if_neg i).trans (if_neg h))
  ·by_cases i:b=a
   ·have l:=(if_pos i).symm.trans z
    cases l
    subst i
    exact⟨ha,by rw[ah];exact hl,vs,_,rv,ha⟩
   ·by_cases h:b=T
    ·have l:=((if_neg i).trans (if_pos h)).symm.trans z
     cases l
     subst h
     exact C
    ·have l:=((if_neg i).trans (if_neg h)).symm.trans z
     cases l
  ·by_cases i:b=a
   ·exact .inl i
   ·by_cases h:b=T
    ·exact .inr h
    ·exact absurd ((if_neg i).trans (if_neg h)) z
theorem zNO {l:m9}{n k:Nat}{q:aH}{loose:List Str}{XP:(Str->Option ai)->bB->Prop}{YP:aW->bB->Prop}{d:DefRec}{K:pS->ag}{sp:aW->Sp}{x:Str}{c T:ao}
  (hn:l.most=some n) (r:n<=sizeLine) (t:d.params.defaults=[]) (I:Room k callerA)
  (J:∀(w:aW) (h:bB),YP w h->(K w.params).In h/\h.get? T=some (tabObj #[])) (y:∀w:aW,(K w.params).lookup T=none) (L:∀(w:aW) (h:bB),(K w.params).In h->rN h c T)
  (F:∀(w:aW) (mg:Str->Option ai) (p:ao) (h:bB),(K w.params).In h->h.Ns mainGlobals mg->mg d.name=some (.ref p)->
   ∃fd:aZ,(∀(s:aq) (u:ai),o4 s fd ⟨[u],[]⟩ [(x,u)])/\
    ∀base:bB,(K w.params).In base->base.Ns mainGlobals mg->LamBase mg base c T->FnOk l.prog w (K w.params) mg base zZ k p fd [x] (sp w))
  (A:∀(w:aW) (H:Hp) (a:ao) (ns:List Int),ns.length<=n->H T=some (.tbl #[])->z6 (K w.params) H a (ns.map V.int)->sp w [.ref a] H (fun v _=>v=.bl true) fun _ _ _=>False) :
  sX q loose XP YP l.row.toRowW d [] (fun f vs=>rJ f vs):=by
 refine Att.attach_call hn t fun w s₀ s₁ mg mb p o pm cd M a vs ns G Y ho hd N B m j i O=>?_
 obtain⟨C,P⟩:=J w _ Y
 obtain⟨fd,Q,R⟩:=F w mg p _ C G.T.g B
 obtain⟨U,W,X,Z,D,b4,b5,E⟩:=G.T.bmain
 refine zNN C G.T.g G.T.b G.T.builtins G.T.nolimit O m j (bS i r) I P (y w) (L w _ C) ⟨U,W,X,Z,fun z=>?_,D,b4,b5,E⟩ R Q (fun H hO hS=>A w H a ns i hO hS)
 obtain⟨o',es,ep,e,d',_⟩:=G.T.g
 rw[z,e]at D
 cases D
 rw[d']at E;cases E
noncomputable def zBy (K:ag)(c T:ao):Prop:=∃od vs sl file tf flags tg inF text tt,K.lookup c=some ⟨.type "code",od,.fields vs,sl⟩/\vs[11]?=some (.ref T)/\vs.getD 11 .none=.ref T/\vs.getD 18 .none=.str file tf/\
 vs.getD 7 .none=.int flags tg/\vs.getD 9 .none=.bool inF/\vs.getD 10 .none=.int text tt/\c≠T
theorem zBy.hd {K:ag}{c T:ao}{h:bB}(X:K.In h)(C:zBy K c T):rN h c T:=by
 obtain⟨od,vs,p,file,b,flags,d,a,text,e,l,f,g,i,j,m,n,o⟩:=C
 exact⟨_,vs,file,b,flags,d,a,text,e,X _ _ l,rfl,rfl,f,g,i,j,m,n,o⟩
theorem zNP {K:ag}{T:ao}{o:Obj}{h:bB}(X:wz ((T,o)::K) h)(c:K.lookup T=none):K.In h/\h.get? T=some o:=by
 refine⟨fun b u e=>X b u ?_,X T o ?_⟩
 ·rw[bV]
  by_cases a:b=T
  ·rw[a,c]at e;cases e
  ·rw[beq_eq_false_iff_ne.mpr a];exact e
 ·rw[bV];simp
end L2
end
section
set_option autoImplicit false
namespace Kn
noncomputable abbrev S:=List Nat
section
variable{κ α:Type} [DecidableEq κ]
noncomputable def zR:List (κ×α)->κ->α->List (κ×α)
 | [],k,v=>[(k,v)]
 |(k',v')::r,k,v=>if k'=k then(k',v)::r else(k',v')::zR r k v
noncomputable def zO:List (κ×α)->κ->Option α
 | [],_=>none
 |(k',v')::r,k=>if k'=k then some v' else zO r k
theorem zAo (l:List (κ×α))(k a:κ)(v:α):zO (zR l k v) a=if k=a then some v else zO l a:=by
 induction l with
 |nil=>simp[zR,zO]
 |cons p r ih=>
  obtain⟨b,v0⟩:=p
  by_cases h:b=k
  ·subst h
   by_cases h':b=a<;>simp[zR,zO,h']
  ·simp only[zR,if_neg h,zO,ih]
   by_cases c:b=a
   ·subst c
    rw[if_pos rfl,if_pos rfl,if_neg (fun e=>h e.symm)]
   ·rw[if_neg c,if_neg c]
theorem zHH (l:List (κ×α))(k:κ)(v:α):(zR l k v).map (·.1)=if k∈l.map (·.1)then l.map (·.1)else l.map (·.1)++[k]:=by
 induction l with
 |nil=>simp[zR]
 |cons p r ih=>
  obtain⟨a,v0⟩:=p
  by_cases h:a=k
  ·subst h;simp[zR]
  ·have h':¬k=a:=fun e=>h e.symm
   simp only[zR,if_neg h,aQ,ih,aE,h',false_or]
   split<;>simp
theorem gI {l:List (κ×α)}{k:κ}{v:α}(h:(l.map (·.1)).Nodup):((zR l k v).map (·.1)).Nodup:=by
 rw[zHH]
 split
 ·exact h
 ·rename_i c
  exact fi.mpr ⟨h,by simp,fun a ha b d e=>by
   have:b=k:=by simpa using d
   subst this;subst e;exact c ha⟩
theorem vF {l:List (κ×α)}(h:(l.map (·.1)).Nodup)(k:κ)(v:α):(k,v)∈l↔zO l k=some v:=by
 induction l with
 |nil=>simp[zO]
 |cons p r ih=>
  obtain⟨a,v0⟩:=p
  have b:a∉r.map (·.1):=(bp.mp h).1
  have c:=ih (bp.mp h).2
  by_cases e:a=k
  ·subst e
   have g:zO ((a,v0)::r) a=some v0:=by simp[zO]
   rw[g,aE]
   constructor
   ·rintro(z|z)
    ·rw[(bY z).2]
    ·exact absurd (oh (f:=(·.1)) z) b
   ·intro z;rw[aB z];exact .inl rfl
  ·simp only[zO,if_neg e,aE,Prod.mk.injEq]
   rw[<-c]
   constructor
   ·rintro(z|z)
    ·exact absurd z.1.symm e
    ·exact z
   ·intro z;exact .inr z
theorem zHI {l:List (κ×α)}{k:κ}:zO l k=none↔k∉l.map (·.1):=by
 induction l with
 |nil=>simp[zO]
 |cons p r ih=>
  obtain⟨a,v0⟩:=p
  by_cases e:a=k
  ·subst e;simp[zO]
  ·have b:¬k=a:=fun z=>e z.symm
   simp only[zO,if_neg e,ih,aQ,aE,b,false_or]
end
noncomputable def uE (row:List (S×Int))(l:S):List (S×Int):=zR row l ((zO row l).getD 0+1)
noncomputable def yV (rows:List (S×List (S×Int)))(p:S×S):List (S×List (S×Int)):=zR rows p.1 (uE ((zO rows p.1).getD []) p.2)
noncomputable def uA (ps:List (S×S)):List (S×List (S×Int)):=ps.foldl yV []
theorem zNQ (ps:List (S×S))(p:S×S):uA (ps++[p])=yV (uA ps) p:=by
 unfold uA;rw[fj];rfl
noncomputable def zY (t:S)(o:Nat):S:=t.drop (t.length-o)
noncomputable def vQ (o:Nat)(nm:S):List (S×S):=(bu (nm.length+1)).map fun p=>(zY (nm.take p) o,(nm.drop p).take 1)
noncomputable def zB (o:Nat)(bk:List S):List (S×S):=bk.flatMap (vQ o)
structure RowsOk (ps:List (S×S)) (rows:List (S×List (S×Int))):Prop where
 nd:(rows.map (·.1)).Nodup
 ndr:∀e row,(e,row)∈rows->(row.map (·.1)).Nodup
 val:∀e l,zO ((zO rows e).getD []) l=if 0<ps.count (e,l)then some (ps.count (e,l):Int)else none
 has:∀e,(∃row,zO rows e=some row)↔∃l,(e,l)∈ps
theorem vZ (ps:List (S×S)):RowsOk ps (uA ps):=by
 suffices h:∀(d ps:List (S×S)) rows,RowsOk ps rows->RowsOk (ps++d) (d.foldl yV rows) by
  have:=h ps [] [] ⟨by simp,by simp,by simp[zO],by simp[zO]⟩
  simpa [uA]using this
 intro d
 induction d with
 |nil=>intro ps rows h;simpa using h
 |cons q d ih=>
  intro ps rows h
  obtain⟨a,b⟩:=q
  have step:RowsOk (ps++[(a,b)]) (yV rows (a,b)):=by
   have f:((((zO rows a).getD []).map (·.1))).Nodup:=by
    cases g:zO rows a with
    |none=>simp
    |some row=>exact h.ndr a row ((vF h.nd a row).mpr g)
   refine⟨gI h.nd,fun e row i=>?_,fun e l=>?_,fun e=>?_⟩
   ·have c:=(vF (gI h.nd) e row).mp i
    unfold yV at c
    rw[zAo]at c
    split at c
    ·have:=aB c
     rw[<-this]
     exact gI f
    ·exact h.ndr e row ((vF h.nd e row).mpr c)
   ·unfold yV
    rw[zAo]
    by_cases he:a=e
    ·subst he
     rw[if_pos rfl]
     show zO (uE ((zO rows a).getD []) b) l=_
     unfold uE
     rw[zAo,h.val a b]
     by_cases hl:b=l
     ·subst hl
      rw[if_pos rfl,lK]
      have e1:kx (a,b) [(a,b)]=1:=by simp
      rw[e1]
      by_cases j:0<kx (a,b) ps
      ·simp[j]
      ·have:kx (a,b) ps=0:=by omega
       simp[this]
     ·rw[if_neg hl,h.val a l,lK]
      have e1:kx (a,l) [(a,b)]=0:=by
       simp[qz,hl]
      rw[e1,pE]
    ·rw[if_neg he]
     rw[h.val e l,lK]
     have e1:kx (e,l) [(a,b)]=0:=by
      simp[qz,he]
     rw[e1,pE]
   ·unfold yV
    rw[zAo]
    by_cases he:a=e
    ·subst he
     rw[if_pos rfl]
     exact⟨fun _=>⟨b,by simp⟩,fun _=>⟨_,rfl⟩⟩
    ·rw[if_neg he,h.has e]
     constructor
     ·rintro⟨l,hl⟩;exact⟨l,b0 _ hl⟩
     ·rintro⟨l,hl⟩
      rcases bz.mp hl with z|z
      ·exact⟨l,z⟩
      ·have:(e,l)=(a,b):=by simpa using z
       exact absurd (congrArg wA this).symm he
  have:=ih (ps++[(a,b)]) (yV rows (a,b)) step
  simpa using this
noncomputable def Ris {α:Type}(xs:List (S×α)):Prop:=xs.Pairwise fun a b=>a.1<b.1
theorem zNR (a:S):¬a<a:=iL a
theorem Ris.keys {α:Type}{xs:List (S×α)}(h:Ris xs):(xs.map (·.1)).Nodup:=by
 unfold Ris at h
 rw[dq,bD]
 exact h.imp fun{a b} c (e:a.1=b.1)=>zNR b.1 (e▸c)
theorem zHJ {β:Type} [BEq β] [LawfulBEq β]:∀(ps ks:List β),ks.Nodup->(∀x∈ps,x∈ks)->(ks.map fun k=>(ps.count k:Int)).sum=(ps.length:Int)
 | [],ks,_,_=>by
  have:(ks.map fun k=>(([]:List β).count k:Int))=ks.map fun _=>(0:Int):=by simp
  rw[this]
  induction ks with
  |nil=>rfl
  |cons k r ih=>simp_all
 |x::ps,ks,nd,h=>by
  have ih:=zHJ ps ks nd fun y c=>h y (aj _ c)
  have no:∀(ks:List β),x∉ks->(ks.map fun k=>((x::ps).count k:Int)).sum=(ks.map fun k=>(ps.count k:Int)).sum:=by
   intro ks
   induction ks with
   |nil=>intro _;rfl
   |cons k r ih=>
    intro a
    have hx1:¬x=k:=fun e=>a (e▸au ..)
    have hx2:x∉r:=fun e=>a (aj _ e)
    simp only[aQ,cp,ih hx2,nq hx1]
  have one:∀(ks:List β),ks.Nodup->x∈ks->(ks.map fun k=>((x::ps).count k:Int)).sum=(ks.map fun k=>(ps.count k:Int)).sum+1:=by
   intro ks
   induction ks with
   |nil=>intro _ a;cases a
   |cons k r ih=>
    intro nd a
    have d:=(bp.mp nd).1
    by_cases e:x=k
    ·subst e
     simp only[aQ,cp,no r d,List.count_cons_self]
     omega
    ·have b:x∈r:=(aE.mp a).elim (fun z=>absurd z e) id
     simp only[aQ,cp,ih (bp.mp nd).2 b,nq e]
     omega
  rw[one ks nd (h x (au ..)),ih,aJ]
  omega
theorem zNS (o:Nat)(a b:List S):zB o (a++b)=zB o a++zB o b:=by
 unfold zB;rw[eD]
theorem zBz (o:Nat)(a:List S):((zB o a).length:Int)=(a.map fun x=>(x.length:Int)+1).sum:=by
 induction a with
 |nil=>rfl
 |cons x r ih=>
  have e1:zB o (x::r)=vQ o x++zB o r:=rfl
  rw[e1,aw,aQ,cp,<-ih]
  simp[vQ]
theorem zNT (t:S)(o:Nat):(zY t o).length<=o:=by unfold zY;rw[cc];omega
end Kn
end
section
set_option autoImplicit false
namespace Kn
noncomputable def yC (a b:Int):Int:=(i9 a b:Int)
noncomputable def low (u d:Int):Int×Int:=(u/yC u d,d/yC u d)
structure Fq (q:Int×Int):Prop where
 up:0<=q.1
 dn:0<q.2
 co:i9 q.1 q.2=1
theorem zBR {u d:Int}(hd:0<d):0<yC u d:=by
 have:0<i9 u d:=Int.gcd_pos_iff.mpr (.inr (by omega))
 unfold yC;omega
theorem zNU (u d:Int):u=yC u d*(u/yC u d):=(nN (by unfold yC;exact mm ..)).symm
theorem zHK (u d:Int):d=yC u d*(d/yC u d):=(nN (by unfold yC;exact fk ..)).symm
theorem zAK {u d:Int}(hd:0<d):(low u d).1*d=u*(low u d).2:=by
 have c:=zNU u d
 have e:=zHK u d
 show u/yC u d*d=u*(d/yC u d)
 generalize yC u d=g at*
 generalize u/g=a at*
 generalize d/g=b at*
 rw[c,e,<-ip,fm a g]
theorem gJ {u d:Int}(c:0<=u)(hd:0<d):Fq (low u d):=by
 have b:=zBR (u:=u) hd
 refine⟨rf c (cY b),?_,?_⟩
 ·have e:=zHK u d
  show 0<d/yC u d
  rcases pF (d/yC u d) 0 with h|h|h
  ·have:=Int.mul_neg_of_pos_of_neg b h
   omega
  ·rw[h,Int.mul_zero]at e;omega
  ·exact h
 ·show i9 (u/yC u d) (d/yC u d)=1
  unfold yC at*
  have a:0<i9 u d:=by omega
  rw[Int.gcd_ediv (mm ..) (fk ..)]
  simp
  exact Nat.div_self a
theorem Fq.ext {p q:Int×Int}(a:Fq p)(b:Fq q)(h:p.1*q.2=q.1*p.2):p=q:=by
 obtain⟨t,u⟩:=p
 obtain⟨v,A⟩:=q
 obtain⟨f,g,i⟩:=a
 obtain⟨j,l,n⟩:=b
 dsimp only at*
 obtain⟨x,rfl⟩:=bO f
 obtain⟨y,rfl⟩:=bO (cY g)
 obtain⟨z,rfl⟩:=bO j
 obtain⟨w,rfl⟩:=bO (cY l)
 have h':x*w=z*y:=by exact_mod_cast h
 have c:tV x y=1:=by simpa [i9]using i
 have d:tV z w=1:=by simpa [i9]using n
 have o:0<y:=by omega
 have B:0<w:=by omega
 have r:y∣w:=iR (m:=x) (by rw[uy,mT];exact c) (by rw[h'];exact qf ..)
 have s:w∣y:=iR (m:=z) (by rw[uy,mT];exact d) (by rw[<-h'];exact qf ..)
 have e:y=w:=Nat.dvd_antisymm r s
 subst e
 have:x=z:=Nat.eq_of_mul_eq_mul_right o h'
 rw[this]
theorem zNV {u d a d':Int}(e:0<=u)(hd:0<d)(c:0<=a)(b:0<d')(h:u*d'=a*d):low u d=low a d':=by
 refine Fq.ext (gJ e hd) (gJ c b) ?_
 have f:=zAK (u:=u) hd
 have g:=zAK (u:=a) b
 generalize low u d=p at*
 generalize low a d'=q at*
 have:(p.1*q.2)*(d*d')=(q.1*p.2)*(d*d'):=by
  calc (p.1*q.2)*(d*d')=(p.1*d)*(q.2*d'):=by ac_rfl
   _=(u*p.2)*(q.2*d'):=by rw[f]
   _=(u*d')*(p.2*q.2):=by ac_rfl
   _=(a*d)*(p.2*q.2):=by rw[h]
   _=(a*q.2)*(p.2*d):=by ac_rfl
   _=(q.1*d')*(p.2*d):=by rw[g]
   _=(q.1*p.2)*(d*d'):=by ac_rfl
 exact Int.eq_of_mul_eq_mul_right (by have:=lL hd b;omega) this
theorem zNW {u d:Int}(a:0<=u)(hd:0<d):(low u d).2<=d/\(low u d).1<=u:=by
 have b:=zBR (u:=u) hd
 exact⟨qg _ (by omega),qg _ a⟩
noncomputable def tms (p q:Int×Int):Int×Int:=low (p.1*q.1) (p.2*q.2)
theorem zNX:Fq (0,1):=⟨by decide,by decide,by decide⟩
theorem zNY:Fq (1,1):=⟨by decide,by decide,by decide⟩
theorem zNZ {d:Int}(hd:0<d):low d d=(1,1):=by
 refine Fq.ext (gJ (cY hd) hd) zNY ?_
 have:=zAK (u:=d) hd
 rw[fm]at this
 have:=Int.eq_of_mul_eq_mul_left (by omega) this
 rw[this]
 exact fm _ _
theorem zNa {u d:Int}(a:0<=u)(hd:0<d)(h:u<=d):(low u d).1<=(low u d).2:=by
 have f:=gJ a hd
 have c:=zAK (u:=u) hd
 by_cases b:(low u d).1<=(low u d).2
 ·exact b
 ·exfalso
  have e:(low u d).2+1<=(low u d).1:=by omega
  have g:((low u d).2+1)*d<=(low u d).1*d:=d8 e (cY hd)
  have i:u*(low u d).2<=d*(low u d).2:=d8 h (cY f.dn)
  rw[Int.add_mul,Int.one_mul,fm (low u d).2 d]at g
  omega
end Kn
end
section
set_option autoImplicit false
namespace Kn
noncomputable def tot (ps:List (S×S))(e:S):Nat:=(ps.filter fun p=>p.1=e).length
noncomputable def zP (ps:List (S×S))(e l:S):Int×Int:=if ps.count (e,l)=0 then(0,1)else low (ps.count (e,l):Int) (tot ps e:Int)
noncomputable def zCA (ps:List (S×S))(qs:List (S×S)):Int×Int:=qs.foldl (fun w p=>tms w (zP ps p.1 p.2)) (1,1)
noncomputable def qE (ps:List (S×S))(o:Nat)(nm:S):Int×Int:=zCA ps (vQ o nm)
theorem zAp (ps:List (S×S))(e l:S):ps.count (e,l)<=tot ps e:=by
 unfold tot
 rw[<-pG (l:=ps) (p:=fun p=>decide (p.1=e)) (a:=(e,l)) (by simp)]
 exact List.count_le_length
theorem zAq (ps:List (S×S))(e l:S):Fq (zP ps e l):=by
 unfold zP
 split
 ·exact zNX
 ·have:=zAp ps e l
  exact gJ (by omega) (by omega)
theorem zNb {ps:List (S×S)}(e l:S)(h:1<=ps.length):(zP ps e l).2<=(ps.length:Int):=by
 unfold zP
 split
 ·show(1:Int)<=_;omega
 ·have a:=zAp ps e l
  have b:tot ps e<=ps.length:=cI _ _
  have:=(zNW (u:=(ps.count (e,l):Int)) (d:=(tot ps e:Int)) (by omega) (by omega)).1
  omega
end Kn
end
section
namespace Kn
open PySem L2
theorem z9 {N P:List Str}{h:fS}(a:h.kind=.function:=by rfl)(b:h.isCoroutine=false:=by rfl)(c:h.isGenerator=false:=by rfl)(d:N.Nodup:=by decide+kernel)(e:N.take P.length=P:=by rfl)(f:∀x∈P,h.names.lookup x=some .local\/h.names.lookup x=some .cell:=by decide+kernel)(g:∀y∈h.names,y.2≠.free:=by decide+kernel):FnScope N P h:=⟨a,b,c,d,e,f,g⟩
noncomputable def zV (P:aH)(w:aW)(K:ag)(mg:Str->Option ai)(base:bB)(k:Nat)(x:Str)(ps:List Str)(sp:Sp):Prop :=
 ∃(f:ao) (fd:aZ),FnOk P w K mg base zZ k f fd ps sp/\mg x=some (.ref f)/\cy K (.ref f)=true/\v7 K fd ps []
theorem zW {X:Cx}{k:Nat}{x:Str}{ps:List Str}{sp:Sp}{p pos:Pos}{e:bF}{c:List bF}{t:TA}(C:zV X.prog X.w X.K X.mg X.base k x ps sp)(g:Room k X.A)(h:Gl X x)(ha:PA X (e::c) t)
  (i:starEach (e::c) X.env=(false,eval e X.env)::starEach c X.env:=by rfl) (a:(backTo pos (starEach c X.env)).any (·.1)=false:=by rfl)
  (d:(x==("__debug__" : Str))=false:=by decide):PE X (.Call (.Name x p) (e::c) [] pos) (zCw sp [] E0 t):=by
 obtain⟨f,fd,G,j,kp,b⟩:=C
 exact zLK G g h j kp b .nil zBs ha d i a
noncomputable abbrev tx (x:S):Str:=⟨x.toArray⟩
noncomputable abbrev sv (x:S):V:=.str (tx x)
theorem qO (x:S):(tx x).cps.toList=x:=by simp[tx]
theorem yJ (x:S):(tx x).length=x.length:=by simp[tx,rE]
theorem zDS {n i:Nat}{x:V}(h:((bu n).map fun(i:Nat)=>V.int (0+(i:Int)))[i]?=some x):i<n/\x=.int i:=by
 have hi:i<n:=by
  have:=(ak.mp h).1
  simpa using this
 refine⟨hi,?_⟩
 rw[az,eC hi]at h
 have:=aB h
 rw[<-this]
 show V.int (0+(i:Int))=V.int i
 rw[tW]
theorem ys1 {ys:St}(h:ys.length=1):∃y,ys=[y]:=by
 cases ys with
 | nil=>simp at h
 | cons q0 q1=>cases q1 with
  | nil=>exact⟨q0,rfl⟩
  | cons=>simp at h
theorem ys2 {ys:St}(h:ys.length=2):∃y z,ys=[y,z]:=by
 cases ys with
 | nil=>simp at h
 | cons q0 q1=>cases q1 with
  | nil=>simp at h
  | cons q2 q3=>cases q3 with
   | nil=>exact⟨q0,q2,rfl⟩
   | cons=>simp at h
structure Blt (mg:Str->Option ai):Prop where
 len:mg "len"=none
 range:mg "range"=none
 all:mg "all"=none
 isinstance:mg "isinstance"=none
 str:mg "str"=none
 tuple:mg "tuple"=none
 int:mg "int"=none
 bool:mg "bool"=none
 sorted:mg "sorted"=none
 sum:mg "sum"=none
 min:mg "min"=none
section
variable{P:aH}{w:aW}{K:ag}{mg:Str->Option ai}{base:bB}
theorem zNc (t:S)(o:Nat)(b:1<=o):gF (tx t) (some (-(o:Int))) none=tx (zY t o):=by
 unfold gF
 rw[yJ,qO]
 have e1:HT.sIx t.length 0 (some (-(o:Int)))=t.length-o:=by
  show(if-(o:Int)<0 then(-(o:Int)+(t.length:Int)).toNat else _)=_
  rw[if_pos (by omega)];omega
 have a:HT.sIx t.length t.length none=t.length:=rfl
 rw[e1,a]
 unfold zY
 rw[dR (by rw[cc];omega)]
theorem zDT (t:S)(p:Nat):gF (tx t) none (some (p:Int))=tx (t.take p):=by
 unfold gF
 rw[yJ,qO,HT.sIx_nat]
 show tx ((t.drop 0).take (min p t.length-0))=_
 rw[eM,gu,<-f9]
theorem zNd (t:S)(p:Nat):gF (tx t) (some (p:Int)) (some ((p:Int)+1))=tx ((t.drop p).take 1):=by
 unfold gF
 rw[yJ,qO,HT.sIx_nat,show((p:Int)+1)=((p+1:Nat):Int)from rfl,HT.sIx_nat]
 congr 1
 by_cases h:p<t.length
 ·have e1:min p t.length=p:=by omega
  have a:min (p+1) t.length-p=1:=by omega
  rw[e1,a]
 ·have e1:min p t.length=t.length:=by omega
  rw[e1,dS (aA _),dS (by omega)]
  simp
noncomputable def zDU:Sp:=fun vs H Q _=>∃(t:S) (o:Nat),vs=[sv t,.int o]/\1<=o/\t.length<=64/\Q (sv (zY t o)) H
noncomputable abbrev zDV:cT:=top 23
theorem zNe:FnScope ["text","order"] ["text","order"] (defScope zDV):=z9
theorem zNf {f:ao}{fd:aZ}(F:Fun K "end_of" "end_of" zDV f fd):FnOk P w K mg base zZ 1 f fd ["text","order"] zDU:=by
 refine F.ok zNe (fun vs H Q E h=>?_) (fun a A outer s H vs Q E c h=>?_)
 ·obtain⟨t,o,rfl,_⟩:=h;rfl
 ·obtain⟨t,o,rfl,b,hl,k⟩:=h
  refine⟨_,zK (z0 (zDO (pv 0) (qJ (zKj zKn (pv 1))) jC)),?_⟩
  refine⟨_,rfl,_,rfl,_,rfl,_,rfl,_,rfl,?_,?_⟩
  ·rw[yJ,aL];omega
  ·rw[zNc t o b];exact k
noncomputable def pr (o:Nat)(t:S)(p:Nat):S×S:=(zY (t.take p) o,(t.drop p).take 1)
noncomputable def elD (p:S×S):dE:=.tuple [.str (tx p.1),.str (tx p.2)]
noncomputable def zHL (K:ag):Sp:=fun vs H Q _=>∃(t:S) (o:Nat),vs=[sv t,.int o]/\1<=o/\t.length<=64/\∀a xs H',zA H H'->H a=none->H' a=some (.lst xs)->Reps K H' ((vQ o t).map elD) xs->Q (.ref a) H'
noncomputable abbrev zDW:cT:=top 24
theorem zNg:FnScope ["name","order"] ["name","order"] (defScope zDW):=z9
theorem zNh:(["name","order","place"]:List Str).Nodup:=by decide+kernel
theorem zNi {f:ao}{fd:aZ}(F:Fun K "ends_and_letters" "ends_and_letters" zDW f fd)(B:Blt mg)(d:zV P w K mg base 1 "end_of" ["text","order"] zDU):FnOk P w K mg base zZ 2 f fd ["name","order"] (zHL K):=by
 refine F.ok zNg (fun vs H Q E h=>?_) (fun r A outer s H vs Q E u h=>?_)
 ·obtain⟨t,o,rfl,_⟩:=h;rfl
 ·obtain⟨t,o,rfl,v,hl,k⟩:=h
  refine⟨_,zK (z0 (uD (N:=["name","order","place"]) (caps:=[0,1]) rfl (v9 (by kernel_rfl))
   (zBI rfl B.range (zC (zT yS (yL gE (by rfl) B.len bM (zC (pv 0) zE)) zN) zE))
   (fun m C s H ex=>z7 (i:=2) zNh rfl (Or.inl rfl))
   (fun m C s H ex=>uO)
   (fun m C s H ex=>uN (zC (zW d u rfl (zC (zDO (pv 0) jC (qJ (pv 2))) (zC (pv 1) zE)))
    (zC (zDO (pv 0) (qJ (pv 2)) (qJ (zT yS (pv 2) zN))) zE))))),?_⟩
  refine⟨_,rfl,_,rfl,?_,_,_,rfl,rfl,_,rfl,?_,?_,?_⟩
  ·rw[yJ,aL];omega
  ·rw[yJ];omega
  ·rw[yJ];omega
  have hn:((tx t).length:Int)+1=((t.length+1:Nat):Int):=by rw[yJ];rfl
  have b:(((tx t).length:Int)+1).toNat=t.length+1:=by rw[hn];rfl
  refine qK (zAl 0 _) [some (sv t),some (.int o)] 1 (by rw[ah,bE,b];omega) (fun i a e=>zA H e/\a.length=i/\Reps K e (((bu i).map (pr o t)).map elD) a)
   ⟨zA.refl H,rfl,rfl⟩ (fun i a e _ h=>⟨trivial,fN h.2.1⟩) ?_ ?_
  ·rintro i x a e ys I z n G ⟨c,g,j⟩
   obtain⟨y,rfl⟩:=ys1 G
   rw[b]at n
   obtain⟨hi,rfl⟩:=zDS n
   refine⟨_,rfl,_,rfl,_,rfl,_,rfl,(by rw[yJ,aL];omega),_,rfl,t.take i,o,(by rw[zDT];rfl),v,(by rw[aO];omega),?_⟩
   refine⟨_,rfl,_,rfl,_,rfl,_,rfl,_,_,rfl,rfl,_,rfl,_,rfl,(by rw[yJ,aL];omega),?_⟩
   refine⟨by show 2<=sizeLine;decide,fun p q=>z _ _ [some (.int i)] rfl ⟨c.upd_new (c.free q),by rw[aw,g];rfl,?_⟩⟩
   rw[dD,aU,aU]
   refine Reps.append (Reps.same (zA.upd1 q) _ _ j) (Reps.one ⟨p,_,rfl,.of zF,?_⟩)
   rw[zNd]
   exact⟨_,_,rfl,rfl,_,_,rfl,rfl,rfl⟩
  ·rintro a e ⟨c,g,j⟩ D l
   refine k D a _ (c.upd_new (c.free l)) (c.free l) zF (Reps.same (zA.upd1 l) _ _ ?_)
   rw[ah,bE,b]at j
   exact j
noncomputable def v1 (x:S):Prop:=1<=x.length/\x.length<=8/\∀c∈x,97<=c/\c<=122
noncomputable def letters:Str:=⟨#[97,98,99,100,101,102,103,104,105,106,107,108,109,110,111,112,113,114,115,116,117,118,119,120,121,122]⟩
theorem zNj {c:Nat}(h:97<=c/\c<=122):(iB letters ⟨#[c]⟩ 0 letters.length 1).isEmpty=false:=by
 have all:∀d:_root_.Fin 26,(iB letters ⟨#[97+d.val]⟩ 0 letters.length 1).isEmpty=false:=by decide+kernel
 have:=all ⟨c-97,by omega⟩
 have e:97+(c-97)=c:=by omega
 simpa [e]using this
structure Cst (K:ag) (mg:Str->Option ai):Prop where
 letters:∃t,mg "LETTERS"=some (.str letters t)
 ml:∃t,mg "MOST_LETTERS"=some (.int 8 t)
 mn:∃t,mg "MOST_NAMES"=some (.int 8 t)
 mo:∃t,mg "MOST_ORDER"=some (.int 3 t)
 ib:ke K (.type "int") (.type "bool")=some false
noncomputable def zBS:Sp:=fun vs H Q _=>∃x:S,vs=[sv x]/\v1 x/\∀H',zA H H'->Q (.bl true) H'
noncomputable abbrev zDX:cT:=top 14
theorem zNk:FnScope ["thing"] ["thing"] (defScope zDX):=z9
theorem nd1:(["letter"]:List Str).Nodup:=by decide+kernel
theorem zNl {f:ao}{fd:aZ}(F:Fun K "is_name" "is_name" zDX f fd)(B:Blt mg)(C:Cst K mg):FnOk P w K mg base zZ 1 f fd ["thing"] zBS:=by
 obtain⟨tl,hl⟩:=C.letters
 obtain⟨u,m⟩:=C.ml
 refine F.ok zNk (fun vs H Q E h=>?_) (fun n A outer s H vs Q E z h=>?_)
 ·obtain⟨t,rfl,_⟩:=h;rfl
 ·obtain⟨x,rfl,⟨G,I,o⟩,k⟩:=h
  refine⟨_,zM (yR (PW.pt (kA (uC (v4 (yL zAI (by rfl) B.isinstance cq (zC (pv 0) (zC (gR (v:=.ty "str") (by rfl) B.str ua rfl) zE)))))
    (j9 (uC (zFi g7 g7 zN (yL gE (by rfl) B.len bM (zC (pv 0) zE)) (yT (v:=.int 8) (by rfl) m ⟨_,rfl⟩))))))
    (zK (z0 uK)) yQ)
   (zK (z0 (yL (zBO rfl) (by rfl) B.all eT (zC (uD (N:=["letter"]) (caps:=[]) rfl (v9 (by kernel_rfl)) (zMR (pv 0))
    (fun l C s H ex=>z7 (i:=0) nd1 rfl (Or.inl rfl)) (fun l C s H ex=>uO)
    (fun l C s H ex=>jU zKq (pv 0) (yT (v:=.str letters) (by rfl) hl ⟨_,rfl⟩) (by with_unfolding_all rfl))) zE)))),?_⟩
  refine⟨_,rfl,_,_,_,true,rfl,.str _,(by rfl),_,rfl,?_⟩
  refine vB ?_
  refine⟨_,rfl,_,rfl,(by rw[yJ,aL];omega),_,_,rfl,rfl,_,rfl,?_⟩
  refine zAm (by rw[yJ];omega) ⟨_,_,rfl,rfl,_,rfl,jX (by rw[yJ];omega) ?_⟩
  refine⟨_,rfl,_,rfl,?_⟩
  refine qK (zMd (tx x)) [] 1 (by rw[ah,qO];omega) (fun i a d=>zA H d/\a=aR i (.bl true)) ⟨zA.refl H,rfl⟩ (fun i a d _ h=>⟨trivial,by rw[h.2];simp⟩) ?_ ?_
  ·rintro i y a d ys J p b q ⟨g,rfl⟩
   obtain⟨L,rfl⟩:=ys1 q
   rw[az,qO]at b
   cases e:x[i]? with
   |none=>rw[e]at b;cases b
   |some c=>
    rw[e]at b
    have j:y=.str ⟨#[c]⟩:=(aB b).symm
    subst j
    refine⟨_,rfl,_,_,rfl,rfl,?_⟩
    rw[zNj (o c (bg e))]
    exact p _ _ [some (.str ⟨#[c]⟩)] rfl ⟨g,by rw[jf];rfl⟩
  ·rintro a d ⟨g,rfl⟩ D r
   refine⟨D,aR _ true,rfl,.of (by rw[zF,ky]),?_⟩
   have:(aR ((tx x).cps.toList.map fun c=>V.str ⟨#[c]⟩).length true).all id=true:=by simp
   rw[this]
   exact k _ (g.upd_new (g.free r))
noncomputable def zD (bk:List S):List V:=bk.map sv
structure isBk (bk:List S):Prop where
 lo:1<=bk.length
 hi:bk.length<=8
 nm:∀x∈bk,v1 x
noncomputable def zHM:Sp:=fun vs H Q _=>∃(a:ao) (bk:List S),vs=[.ref a]/\H a=some (.tup (zD bk))/\isBk bk/\∀H',zA H H'->Q (.bl true) H'
noncomputable abbrev zDY:cT:=top 15
theorem zNm:FnScope ["thing"] ["thing"] (defScope zDY):=z9
theorem nd2:(["name"]:List Str).Nodup:=by decide+kernel
theorem zNn {f:ao}{fd:aZ}(F:Fun K "is_book" "is_book" zDY f fd)(B:Blt mg)(C:Cst K mg)(d:zV P w K mg base 1 "is_name" ["thing"] zBS):FnOk P w K mg base zZ 2 f fd ["thing"] zHM:=by
 obtain⟨G,p⟩:=C.mn
 refine F.ok zNm (fun vs H Q E h=>?_) (fun q A outer s H vs Q E r h=>?_)
 ·obtain⟨a,bk,rfl,_⟩:=h;rfl
 ·obtain⟨a,bk,rfl,ha,⟨I,J,t⟩,k⟩:=h
  refine⟨_,zM (yR (PW.pt (kA (uC (v4 (yL zAI (by rfl) B.isinstance cq (zC (pv 0) (zC (gR (v:=.ty "tuple") (by rfl) B.tuple fI rfl) zE)))))
    (j9 (uC (zFi g7 g7 zN (yL jD (by rfl) B.len bM (zC (pv 0) zE)) (yT (v:=.int 8) (by rfl) p ⟨_,rfl⟩))))))
    (zK (z0 uK)) yQ)
   (zK (z0 (yL (zBO rfl) (by rfl) B.all eT (zC (uD (N:=["name"]) (caps:=[]) rfl (v9 (by kernel_rfl)) (zBH (pv 0))
    (fun o C s H ex=>z7 (i:=0) nd2 rfl (Or.inl rfl)) (fun o C s H ex=>uO)
    (fun o C s H ex=>zW d r rfl (zC (pv 0) zE))) zE)))),?_⟩
  refine⟨_,rfl,_,_,_,true,rfl,.tup ha,(by rfl),_,rfl,?_⟩
  refine vB ?_
  refine⟨_,rfl,_,_,rfl,.inr (.of ha),_,_,rfl,rfl,_,rfl,?_⟩
  have hl:(zD bk).length=bk.length:=by simp[zD]
  refine zAm (by rw[hl];omega) ⟨_,_,rfl,rfl,_,rfl,jX (by rw[hl];omega) ?_⟩
  refine⟨_,rfl,_,rfl,⟨_,.of ha⟩,?_⟩
  refine qK (zBP _ a (zD bk)) [] 1 (by rw[hl];omega) (fun i b j=>zA H j/\b=aR i (.bl true)) ⟨zA.refl H,rfl⟩ (fun i b j _ h=>⟨.of (h.1 _ _ ha),by rw[h.2];simp⟩) ?_ ?_
  ·rintro i y b j ys L u g x ⟨l,rfl⟩
   obtain⟨M,rfl⟩:=ys1 x
   rw[zD,az]at g
   cases e:bk[i]? with
   |none=>rw[e]at g;cases g
   |some c=>
    rw[e]at g
    have m:y=sv c:=(aB g).symm
    subst m
    exact⟨_,rfl,c,rfl,t c (bg e),fun O n=>u _ _ [some (sv c)] rfl ⟨l.trans n,by rw[jf]⟩⟩
  ·rintro b j ⟨l,rfl⟩ D z
   refine⟨D,aR _ true,rfl,.of (by rw[zF,ky]),?_⟩
   have:(aR (zD bk).length true).all id=true:=by simp
   rw[this]
   exact k _ (l.upd_new (l.free z))
noncomputable def zCB:Sp:=fun vs H Q _=>∃o a b:Nat,vs=[.int o,.int a,.int b]/\a<=o/\o<=b/\Q (.bl true) H
noncomputable abbrev zDZ:cT:=top 16
theorem zNo:FnScope ["thing","least","most"] ["thing","least","most"] (defScope zDZ):=z9
theorem zNp {f:ao}{fd:aZ}(F:Fun K "is_whole" "is_whole" zDZ f fd)(B:Blt mg)(C:Cst K mg):FnOk P w K mg base zZ 1 f fd ["thing","least","most"] zCB:=by
 refine F.ok zNo (fun vs H Q E h=>?_) (fun c A outer s H vs Q E d h=>?_)
 ·obtain⟨o,a,b,rfl,_⟩:=h;rfl
 ·obtain⟨o,a,b,rfl,g,i,k⟩:=h
  refine⟨_,zM (yR (PW.pt (kA (uC (v4 (yL zAI (by rfl) B.isinstance cq (zC (pv 0) (zC (gR (v:=.ty "int") (by rfl) B.int ub rfl) zE)))))
    (j9 (v4 (yL zAI (by rfl) B.isinstance cq (zC (pv 0) (zC (gR (v:=.ty "bool") (by rfl) B.bool mU rfl) zE)))))))
    (zK (z0 uK)) yQ)
   (zK (z0 (zKs g7 g7 (pv 1) (pv 0) (pv 2)))),?_⟩
  refine⟨_,rfl,_,_,_,true,rfl,.int _,(by rfl),_,rfl,?_⟩
  refine vB ?_
  refine⟨_,rfl,_,_,_,false,rfl,.int _,C.ib,_,rfl,?_⟩
  refine vB ?_
  refine⟨_,rfl,_,rfl,_,_,rfl,rfl,_,rfl,?_⟩
  refine zAm (by omega) ⟨_,rfl,_,_,rfl,rfl,?_⟩
  have e:decide ((o:Int)<=b)=true:=decide_eq_true (by omega)
  show Q (.bl (decide ((o:Int)<=b))) H
  rw[e]
  exact k
noncomputable def zHN:Sp:=fun vs H Q _=>∃o:Nat,vs=[.int o]/\1<=o/\o<=3/\Q (.bl true) H
noncomputable abbrev zDa:cT:=top 17
theorem zNq:FnScope ["thing"] ["thing"] (defScope zDa):=z9
theorem zNr {f:ao}{fd:aZ}(F:Fun K "is_order" "is_order" zDa f fd)(C:Cst K mg)(a:zV P w K mg base 1 "is_whole" ["thing","least","most"] zCB):FnOk P w K mg base zZ 2 f fd ["thing"] zHN:=by
 obtain⟨i,b⟩:=C.mo
 refine F.ok zNq (fun vs H Q E h=>?_) (fun c A outer s H vs Q E d h=>?_)
 ·obtain⟨o,rfl,_⟩:=h;rfl
 ·obtain⟨o,rfl,e,g,k⟩:=h
  refine⟨_,zK (z0 (zW a d rfl (zC (pv 0) (zC zN (zC (yT (v:=.int 3) (by rfl) b ⟨_,rfl⟩) zE))))),?_⟩
  exact⟨_,rfl,o,1,3,rfl,e,g,k⟩
noncomputable def zCC:Sp:=fun vs H Q _=>∃(a:ao) (bk:List S),vs=[.ref a]/\H a=some (.tup (zD bk))/\isBk bk/\∀H',zA H H'->Q .non H'
noncomputable abbrev zDb:cT:=top 19
theorem zNs:FnScope ["thing"] ["thing"] (defScope zDb):=z9
theorem zNt {f:ao}{fd:aZ}(F:Fun K "need_book" "need_book" zDb f fd)(b:zV P w K mg base 2 "is_book" ["thing"] zHM):FnOk P w K mg base zZ 3 f fd ["thing"] zCC:=by
 refine F.ok zNs (fun vs H Q E h=>?_) (fun c A outer s H vs Q E d h=>?_)
 ·obtain⟨a,bk,rfl,_⟩:=h;rfl
 ·obtain⟨a,bk,rfl,ha,e,k⟩:=h
  refine⟨_,zK (yR (uC (v4 (zW b d rfl (zC (pv 0) zE)))) (zK zAY) yQ),?_⟩
  exact⟨_,rfl,a,bk,rfl,ha,e,fun g i=>⟨true,rfl,vB (k g i)⟩⟩
noncomputable def zDc:Sp:=fun vs H Q _=>∃o:Nat,vs=[.int o]/\1<=o/\o<=3/\Q .non H
noncomputable abbrev zDd:cT:=top 20
theorem zNu:FnScope ["thing"] ["thing"] (defScope zDd):=z9
theorem zNv {f:ao}{fd:aZ}(F:Fun K "need_order" "need_order" zDd f fd)(a:zV P w K mg base 2 "is_order" ["thing"] zHN):FnOk P w K mg base zZ 3 f fd ["thing"] zDc:=by
 refine F.ok zNu (fun vs H Q E h=>?_) (fun b A outer s H vs Q E c h=>?_)
 ·obtain⟨o,rfl,_⟩:=h;rfl
 ·obtain⟨o,rfl,d,e,k⟩:=h
  refine⟨_,zK (yR (uC (v4 (zW a c rfl (zC (pv 0) zE)))) (zK zAY) yQ),?_⟩
  exact⟨_,rfl,o,rfl,d,e,true,rfl,vB k⟩
noncomputable def zCD:Sp:=fun vs H Q _=>∃x:S,vs=[sv x]/\v1 x/\∀H',zA H H'->Q .non H'
noncomputable abbrev zDe:cT:=top 22
theorem zNw:FnScope ["thing"] ["thing"] (defScope zDe):=z9
theorem zNx {f:ao}{fd:aZ}(F:Fun K "need_name" "need_name" zDe f fd)(a:zV P w K mg base 1 "is_name" ["thing"] zBS):FnOk P w K mg base zZ 2 f fd ["thing"] zCD:=by
 refine F.ok zNw (fun vs H Q E h=>?_) (fun b A outer s H vs Q E c h=>?_)
 ·obtain⟨x,rfl,_⟩:=h;rfl
 ·obtain⟨x,rfl,d,k⟩:=h
  refine⟨_,zK (yR (uC (v4 (zW a c rfl (zC (pv 0) zE)))) (zK zAY) yQ),?_⟩
  exact⟨_,rfl,x,rfl,d,fun e g=>⟨true,rfl,vB (k e g)⟩⟩
end
theorem jJ {a b:S}(h:tx a=tx b):a=b:=by
 have:=congrArg (fun z:Str=>z.cps.toList) h
 simpa [tx]using this
section
variable{α:Type}
noncomputable def z5 (f:α->V)(l:List (S×α)):List (zL×V):=vP (l.map fun p=>(tx p.1,f p.2))
theorem zAL (f:α->V)(p:S×α)(l:List (S×α)):z5 f (p::l)=((Sum.inr (tx p.1):zL),f p.2)::z5 f l:=rfl
theorem jK (f:α->V)(l:List (S×α)):(z5 f l).length=l.length:=by simp[z5,vP]
theorem zAr {a b:S}:((Sum.inr (tx a):zL)=Sum.inr (tx b))↔a=b:=⟨fun h=>jJ (nC h),fun h=>by rw[h]⟩
theorem kN (f:α->V)(l:List (S×α))(k:S):vY (z5 f l) (Sum.inr (tx k))=(zO l k).map f:=by
 induction l with
 |nil=>rfl
 |cons p r ih=>
  rw[zAL]
  by_cases e:p.1=k
  ·rw[zBn (zAr.mpr e)]
   obtain⟨a,b⟩:=p
   have c:a=k:=e
   subst c
   simp[zO]
  ·rw[zBo (fun z=>e (zAr.mp z)),ih]
   obtain⟨a,b⟩:=p
   have c:¬a=k:=e
   simp[zO,c]
theorem zNy (f:α->V)(l:List (S×α))(k:S):((z5 f l).any fun a=>decide (a.1=(Sum.inr (tx k):zL)))=decide (k∈l.map (·.1)):=by
 induction l with
 |nil=>rfl
 |cons p r ih=>
  rw[zAL,fX,ih]
  by_cases e:p.1=k
  ·have:decide ((Sum.inr (tx p.1):zL)=Sum.inr (tx k))=true:=decide_eq_true (zAr.mpr e)
   rw[this,tQ]
   exact(decide_eq_true (by rw[<-e];exact au ..)).symm
  ·have:decide ((Sum.inr (tx p.1):zL)=Sum.inr (tx k))=false:=decide_eq_false (fun z=>e (zAr.mp z))
   rw[this,lN]
   congr 1
   have b:¬k=p.1:=fun z=>e z.symm
   simp[b]
theorem zCE (f:α->V)(l:List (S×α))(k:S)(v:α)(nd:(l.map (·.1)).Nodup):v8 (z5 f l) (Sum.inr (tx k)) (f v)=z5 f (zR l k v):=by
 unfold v8
 rw[zNy]
 by_cases c:k∈l.map (·.1)
 ·rw[if_pos (decide_eq_true c)]
  induction l with
  |nil=>cases c
  |cons p r ih=>
   obtain⟨a,b⟩:=p
   have d:=bp.mp nd
   rw[zAL,aQ]
   by_cases e:a=k
   ·subst e
    have e1:zR ((a,b)::r) a v=(a,v)::r:=by simp[zR]
    rw[e1,zAL]
    congr 1
    ·simp
    ·have:∀q∈z5 f r,(if q.1=(Sum.inr (tx a):zL)then(q.1,f v)else q)=q:=fun q h=>by
      rw[if_neg]
      intro z
      obtain⟨s,i,j⟩:=av.mp h
      obtain⟨s',g,m⟩:=av.mp i
      have:s.1=tx s'.1:=by rw[<-m]
      have n:q.1=(Sum.inr (tx s'.1):zL):=by rw[<-j,this]
      rw[n]at z
      exact d.1 (av.mpr ⟨s',g,zAr.mp z⟩)
     have o:=ie this
     rw[o];simp
   ·have e1:zR ((a,b)::r) k v=(a,b)::zR r k v:=by simp[zR,e]
    rw[e1,zAL]
    congr 1
    ·rw[if_neg (fun z=>e (zAr.mp z))]
    ·exact ih d.2 (by
      rcases aE.mp c with z|z
      ·exact absurd z.symm e
      ·exact z)
 ·rw[if_neg (by simpa using c)]
  clear nd
  induction l with
  |nil=>rfl
  |cons p r ih=>
   obtain⟨a,b⟩:=p
   have e:¬a=k:=fun z=>c (by rw[<-z];exact au ..)
   have e1:zR ((a,b)::r) k v=(a,b)::zR r k v:=by simp[zR,e]
   rw[e1,zAL,zAL,cu,ih fun z=>c (aj _ z)]
theorem zDf {β:Type}(l:List (S×β))(k:S)(v:β):(zR l k v).length<=l.length+1:=by
 induction l with
 |nil=>simp[zR]
 |cons p r ih=>
  obtain⟨a,b⟩:=p
  by_cases e:a=k
  ·simp[zR,e]
  ·simp[zR,e];omega
theorem zDg {β γ:Type}(g:β->γ)(l:List (S×β))(k:S)(v:β):(zR l k v).map (fun p=>(p.1,g p.2))=zR (l.map fun p=>(p.1,g p.2)) k (g v):=by
 induction l with
 |nil=>rfl
 |cons p r ih=>
  obtain⟨a,b⟩:=p
  by_cases e:a=k
  ·simp[zR,e]
  ·simp[zR,e,ih]
theorem zNz {β γ:Type}(g:β->γ)(l:List (S×β))(k:S):zO (l.map fun p=>(p.1,g p.2)) k=(zO l k).map g:=by
 induction l with
 |nil=>rfl
 |cons p r ih=>
  obtain⟨a,b⟩:=p
  by_cases e:a=k
  ·simp[zO,e]
  ·simp[zO,e,ih]
theorem j1 {β:Type}{l:List (S×β)}{k:S}{v:β}{q:S×β}(h:q∈zR l k v):q=(k,v)\/(q∈l/\(q.1≠k\/(l.map (·.1)).Nodup->q.1≠k)):=by
 induction l with
 |nil=>simp[zR]at h;exact .inl h
 |cons p r ih=>
  obtain⟨a,b⟩:=p
  by_cases e:a=k
  ·subst e
   have e1:zR ((a,b)::r) a v=(a,v)::r:=by simp[zR]
   rw[e1]at h
   rcases aE.mp h with z|z
   ·exact .inl z
   ·refine .inr ⟨aj _ z,?_⟩
    rintro(w|w)
    ·exact w
    ·intro c
     exact(bp.mp w).1 (by rw[<-c];exact oh (f:=(·.1)) z)
  ·have e1:zR ((a,b)::r) k v=(a,b)::zR r k v:=by simp[zR,e]
   rw[e1]at h
   rcases aE.mp h with z|z
   ·subst z
    exact .inr ⟨au ..,fun _=>e⟩
   ·rcases ih z with w|⟨w1,w2⟩
    ·exact .inl w
    ·refine .inr ⟨aj _ w1,?_⟩
     rintro(u|u)
     ·exact u
     ·exact w2 (.inr (bp.mp u).2)
theorem zCF {β:Type}(l:List (S×β))(k:S)(v:β)(h:k∉l.map (·.1)):zR l k v=l++[(k,v)]:=by
 induction l with
 |nil=>rfl
 |cons q r ih=>
  obtain⟨a,b⟩:=q
  have e:¬a=k:=fun z=>h (by rw[<-z];exact au ..)
  have e1:zR ((a,b)::r) k v=(a,b)::zR r k v:=by simp[zR,e]
  rw[e1,ih fun z=>h (aj _ z)];rfl
theorem zDh {β γ:Type}(g:β->γ)(l:List (S×β))(k:S)(v u:β)(h:zO l k=some u)(e:g v=g u):(zR l k v).map (fun p=>(p.1,g p.2))=l.map fun p=>(p.1,g p.2):=by
 induction l with
 |nil=>cases h
 |cons p r ih=>
  obtain⟨a,b⟩:=p
  by_cases c:a=k
  ·have:b=u:=by simpa [zO,c]using h
   subst this
   simp[zR,c,e]
  ·have h':zO r k=some u:=by simpa [zO,c]using h
   simp[zR,c,ih h']
theorem zHO (ps:List (S×S)):(uA ps).length<=ps.length/\∀r∈uA ps,r.2.length<=ps.length:=by
 have key:∀(c:List (S×S)) (rows:List (S×List (S×Int))) (n:Nat),(rows.length<=n/\∀r∈rows,r.2.length<=n)->(c.foldl yV rows).length<=n+c.length/\∀r∈c.foldl yV rows,r.2.length<=n+c.length:=by
  intro c
  induction c with
  |nil=>intro rows n h;simpa using h
  |cons q c ih=>
   intro rows n h
   have:=ih (yV rows q) (n+1) ⟨?_,fun r i=>?_⟩
   ·rw[eY,aJ]
    have e:n+(c.length+1)=n+1+c.length:=by omega
    rw[e];exact this
   ·have:=zDf rows q.1 (uE ((zO rows q.1).getD []) q.2)
    unfold yV;omega
   ·rcases j1 i with e|⟨e,_⟩
    ·rw[e]
     have j:=zDf ((zO rows q.1).getD []) q.2 ((zO ((zO rows q.1).getD []) q.2).getD 0+1)
     have m:((zO rows q.1).getD []).length<=n:=by
      cases g:zO rows q.1 with
      |none=>simp
      |some row=>
       have l:(q.1,row)∈rows:=by
        clear h i e j
        induction rows with
        |nil=>cases g
        |cons p r d=>
         obtain⟨a,b⟩:=p
         by_cases f:a=q.1
         ·have:b=row:=by simpa [zO,f]using g
          subst this;subst f
          exact au ..
         ·exact aj _ (d (by simpa [zO,f]using g))
       exact h.2 _ l
     show(uE _ _).length<=_
     unfold uE;omega
    ·have:=h.2 r e;omega
 have:=key ps [] 0 ⟨aA _,by simp⟩
 simpa [uA]using this
end
noncomputable abbrev yM (row:List (S×Int)):List (zL×V):=z5 V.int row
structure RA (H0 H:Hp) (d:ao) (ps:List (S×S)) (ra:List (S×ao×List (S×Int))):Prop where
 rows:ra.map (fun r=>(r.1,r.2.2))=uA ps
 top:H d=some (.dK (z5 (fun v:ao×List (S×Int)=>V.ref v.1) ra))
 row:∀r∈ra,H r.2.1=some (.dK (yM r.2.2))
 new:∀r∈ra,H0 r.2.1=none/\r.2.1≠d
 nda:(ra.map fun r=>r.2.1).Nodup
noncomputable def gK (H:Hp)(d:ao)(ps:List (S×S)):Prop:=∃ra:List (S×ao×List (S×Int)),ra.map (fun r=>(r.1,r.2.2))=uA ps/\H d=some (.dK (z5 (fun v:ao×List (S×Int)=>V.ref v.1) ra))/\∀r∈ra,H r.2.1=some (.dK (yM r.2.2))
theorem gK.same {H a:Hp}{d:ao}{ps:List (S×S)}(h:gK H d ps)(e:zA H a):gK a d ps:=by
 obtain⟨b,c,f,g⟩:=h
 exact⟨b,c,e _ _ f,fun r i=>e _ _ (g r i)⟩
section
variable{P:aH}{w:aW}{K:ag}{mg:Str->Option ai}{base:bB}
noncomputable def zCG:Sp:=fun vs H Q _=>∃(a:ao) (bk:List S) (o:Nat),vs=[.ref a,.int o]/\H a=some (.tup (zD bk))/\bk.length<=8/\(∀x∈bk,x.length<=8)/\1<=o/\∀d H',zA H H'->H d=none->gK H' d (zB o bk)->Q (.ref d) H'
noncomputable abbrev zDi:cT:=top 25
theorem zHP:FnScope ["book","order","rows","name","end","letter","row"] ["book","order"] (defScope zDi):=z9
theorem zDj {b H:Hp}{d:ao}{ps:List (S×S)}{a:List (S×ao×List (S×Int))}(R:RA b H d ps a):(a.map (·.1)).Nodup:=by
 have h:=(vZ ps).nd
 rw[<-R.rows,bc]at h
 exact h
theorem RA.step {s H q:Hp}{d ad:ao}{ps:List (S×S)}{c:List (S×ao×List (S×Int))}(R:RA s H d ps c)(p:S×S)(row:List (S×Int))(n:row=((zO c p.1).map (·.2)).getD [])
  (l:∀v,zO c p.1=some v->v.1=ad) (f:zO c p.1=none->s ad=none/\ad≠d/\ad∉c.map fun r=>r.2.1)
  (A:q ad=some (.dK (yM (uE row p.2)))) (B:q d=some (.dK (z5 (fun v:ao×List (S×Int)=>V.ref v.1) (zR c p.1 (ad,uE row p.2))))) (C:∀r∈c,r.2.1≠ad->q r.2.1=some (.dK (yM r.2.2))) :
  RA s q d (ps++[p]) (zR c p.1 (ad,uE row p.2)):=by
 have nd:=zDj R
 have h:∀v,zO c p.1=some v->(p.1,v)∈c:=fun v hv=>(vF nd p.1 v).mpr hv
 have t:∀r∈c,r.1≠p.1->r.2.1≠ad:=fun r m u e=>by
  cases g:zO c p.1 with
  |none=>exact(f g).2.2 (av.mpr ⟨r,m,e⟩)
  |some v=>
   have hv:=h v g
   have ev:=l v g
   have:r=(p.1,v):=by
    obtain⟨i,hi,y⟩:=c7 m
    obtain⟨j,D,z⟩:=c7 hv
    have x:i=j:=by
     refine(d5 (xs:=c.map fun r=>r.2.1) (h₀:=by simpa using hi) (h₁:=by simpa using D) R.nda).mp ?_
     rw[fH,fH,y,z]
     show r.2.1=v.1
     rw[e,ev]
    subst x
    rw[<-y,<-z]
   exact u (by rw[this])
 refine⟨?_,B,fun r m=>?_,fun r m=>?_,?_⟩
 ·rw[zNQ,<-R.rows]
  unfold yV
  have e:=zDg (fun v:ao×List (S×Int)=>v.2) c p.1 (ad,uE row p.2)
  rw[e]
  have o:=zNz (fun v:ao×List (S×Int)=>v.2) c p.1
  rw[o,<-n]
 ·rcases j1 m with e|⟨e,E⟩
  ·rw[e];exact A
  ·exact C r e (t r e (E (.inr nd)))
 ·rcases j1 m with e|⟨e,_⟩
  ·rw[e]
   cases g:zO c p.1 with
   |none=>exact⟨(f g).1,(f g).2.1⟩
   |some v=>
    have:=R.new _ (h v g)
    rw[<-l v g];exact this
  ·exact R.new r e
 ·cases g:zO c p.1 with
  |none=>
   have F:p.1∉c.map (·.1):=zHI.mp g
   have e:=zCF c p.1 (ad,uE row p.2) F
   rw[e,aU]
   refine fi.mpr ⟨R.nda,by simp,fun a ha b G o=>?_⟩
   have:b=ad:=by simpa using G
   exact(f g).2.2 (by rw[<-this,<-o];exact ha)
  |some v=>
   have e:=zDh (fun v:ao×List (S×Int)=>v.1) c p.1 (ad,uE row p.2) v g (l v g).symm
   have o:(zR c p.1 (ad,uE row p.2)).map (fun r=>r.2.1)=c.map fun r=>r.2.1:=by
    have:=congrArg (kz rO) e
    rw[bc,bc]at this
    exact this
   rw[o];exact R.nda
noncomputable def j2 (H H':Hp):Prop:=∀b o,H b=some o->(∀kvs,o≠.dK kvs)->H' b=some o
theorem j2.upd {H:Hp}{a:ao}{kvs:List (zL×V)}{u:HO}(h:H a=some (.dK kvs)):j2 H (upd H a u):=fun b o e hn=>by
 rw[zG]
 ·exact e
 ·rintro rfl;rw[h]at e;exact hn kvs (aB e).symm
theorem j2.sqL {H b:Hp}(e:j2 H b){a:ao}{xs:List V}(h:z6 K H a xs):z6 K b a xs:=by
 rcases h with(h|⟨o,h⟩)|h
 ·exact .inl (.inl (e _ _ h (by intro z w;cases w)))
 ·exact .inl (.inr ⟨o,e _ _ h (by intro z w;cases w)⟩)
 ·exact .inr h
theorem j2.sqT {H b:Hp}(e:j2 H b){a:ao}{xs:List V}(h:zX K H a xs):zX K b a xs:=by
 rcases h with(h|⟨o,h⟩)|h
 ·exact .inl (.inl (e _ _ h (by intro z w;cases w)))
 ·exact .inl (.inr ⟨o,e _ _ h (by intro z w;cases w)⟩)
 ·exact .inr h
mutual
theorem vE.sameQ {H l:Hp}(e:j2 H l):∀(d:dE) (v:V),vE K H d v->vE K l d v
 | .none,v,h=>h
 | .bool b,v,h=>h
 | .int i,v,h=>h
 | .str x,v,h=>h
 | .list c,v,h=>by
  obtain⟨a,xs,f,g,j⟩:=h
  exact⟨a,xs,f,e.sqL g,Reps.sameQ e c xs j⟩
 | .tuple c,v,h=>by
  obtain⟨a,xs,f,g,j⟩:=h
  exact⟨a,xs,f,e.sqT g,Reps.sameQ e c xs j⟩
 | .dict _,v,h=>h
theorem Reps.sameQ {H b:Hp}(e:j2 H b):∀(a:List dE) (xs:List V),Reps K H a xs->Reps K b a xs
 | [],xs,h=>h
 |d::a,xs,h=>by
  obtain⟨y,ys,c,f,g⟩:=h
  exact⟨y,ys,c,vE.sameQ e d y f,Reps.sameQ e a ys g⟩
end
theorem zDk {β:Type}(g:β->V)(l:List (S×β))(k:S)(v u:β)(h:zO l k=some u)(e:g v=g u):z5 g (zR l k v)=z5 g l:=by
 have:=zDh g l k v u h e
 unfold z5
 have a:∀m:List (S×β),m.map (fun p=>(tx p.1,g p.2))=(m.map fun p=>(p.1,g p.2)).map fun q=>(tx q.1,q.2):=fun m=>by rw[bc];rfl
 rw[a,a,this]
theorem zOA {c H:Hp}{d:ao}{ps:List (S×S)}{f:List (S×ao×List (S×Int))}(R:RA c H d ps f){e:S}{v:ao×List (S×Int)}(h:zO f e=some v) :
  H v.1=some (.dK (yM v.2))/\(v.2.map (·.1)).Nodup/\v.2.length<=ps.length/\c v.1=none/\v.1≠d:=by
 have b:=(vF (zDj R) e v).mpr h
 have a:(e,v.2)∈uA ps:=by rw[<-R.rows];exact av.mpr ⟨(e,v),b,rfl⟩
 exact⟨R.row _ b,(vZ ps).ndr e v.2 a,(zHO ps).2 _ a,(R.new _ b).1,(R.new _ b).2⟩
theorem zOB {f:ao}{fd:aZ}(F:Fun K "counted_rows" "counted_rows" zDi f fd)(ab:zV P w K mg base 2 "ends_and_letters" ["name","order"] (zHL K)):FnOk P w K mg base zZ 3 f fd ["book","order"] zCG:=by
 refine F.ok zHP (fun vs H Q E h=>?_) (fun b2 A outer s H vs Q E m h=>?_)
 ·obtain⟨a,bk,o,rfl,_⟩:=h;rfl
 ·obtain⟨a,bk,o,rfl,ha,b3,ap,ho,k⟩:=h
  have hu:=zAi m
  have nd:=zHP.nd
  refine⟨_,zM (yA (i:=2) nd rfl (Or.inl rfl) zBr)
   (zM (uL bR rfl (zBH (pv 0)) (z7 (i:=3) nd rfl (Or.inl rfl))
    (zK (uL bR rfl (jB (zW ab m rfl (zC (pv 3) (zC (pv 1) zE))))
     (gU rfl (yY (z7 (i:=4) nd rfl (Or.inl rfl)) (yY (z7 (i:=5) nd rfl (Or.inl rfl)) qC)))
     (zM (yA (i:=6) nd rfl (Or.inl rfl) (kJ ck fV jl zGr (pv 2) (zC (pv 4) (zC zBr zE))))
      (zK (zDE hu (pv 6) (pv 5) (zT yS (zMG hu (pv 6) (pv 5) zN ⟨rfl,rfl,rfl,rfl⟩) zN) rfl))))))
   (zK (z0 (pv 2)))),?_⟩
  intro d hd
  have s1:zA H (upd H d (.dK [])):=zA.upd1 hd
  refine⟨_,rfl,a,rfl,⟨_,.of (s1 _ _ ha)⟩,?_⟩
  refine jG (zBP K a (zD bk)) (fun i σ H'=>(∃x y z u:Option V,σ=[some (.ref a),some (.int o),some (.ref d),x,y,z,u])/\zA H H'/\∃T,RA H H' d (zB o (bk.take i)) T)
   ⟨⟨_,_,_,_,rfl⟩,s1,[],⟨rfl,zF,by simp,by simp,by simp⟩⟩ (fun i σ H' _ h=>.of (h.2.1 _ _ ha)) ?_ ?_
  ·rintro i x σ H' Nx hN hx ⟨⟨x1,x2,x3,x4,rfl⟩,sm,T,R⟩
   rw[zD,az]at hx
   cases e:bk[i]? with
   |none=>rw[e]at hx;cases hx
   |some nm=>
   rw[e]at hx
   have a0:x=sv nm:=(aB hx).symm
   subst a0
   have b4:=ap nm (bg e)
   have hi:i<bk.length:=(ak.mp e).1
   have ac:bk.take (i+1)=bk.take i++[nm]:=by
    rw[aF hi]
    have:=(ak.mp e).2
    rw[this]
   have n:zB o (bk.take (i+1))=zB o (bk.take i)++vQ o nm:=by
    rw[ac,zNS];simp[zB]
   have a1:((zB o (bk.take (i+1))).length:Int)<=100:=by
    rw[zBz]
    have go:∀l:List S,(∀x∈l,x.length<=8)->(l.map fun x=>(x.length:Int)+1).sum<=9*(l.length:Int):=by
     intro l
     induction l with
     |nil=>intro _;simp
     |cons x r ih=>
      intro hl
      have h1:=hl x (au ..)
      have h2:=ih fun y hy=>hl y (aj _ hy)
      rw[aQ,cp,aJ]
      have:((r.length+1:Nat):Int)=(r.length:Int)+1:=rfl
      omega
    have:=go (bk.take (i+1)) fun x hx=>ap x (bN hx)
    have h3:(bk.take (i+1)).length<=8:=by rw[aO];omega
    omega
   refine⟨_,rfl,_,rfl,nm,o,rfl,ho,by omega,fun l xs Hl sml a2 U rp=>?_⟩
   refine⟨l,rfl,⟨_,.of U⟩,?_⟩
   have R1:RA H Hl d (zB o (bk.take i)) T:=⟨R.rows,sml _ _ R.top,fun r m=>sml _ _ (R.row r m),R.new,R.nda⟩
   have b5:H l=none:=sm.free a2
   have a3:l≠d:=zBg U (sml _ _ R.top) (by intro z;cases z)
   refine jG (jF K l xs) (fun j σ q=>(∃y z u:Option V,σ=[some (.ref a),some (.int o),some (.ref d),some (sv nm),y,z,u])/\zA H q/\q l=some (.lst xs)/\Reps K q ((vQ o nm).map elD) xs/\∃T,RA H q d (zB o (bk.take i)++(vQ o nm).take j) T/\∀r∈T,r.2.1≠l)
    ⟨⟨_,_,_,rfl⟩,sm.trans sml,U,rp,T,by simpa using R1,fun r m=>zBg (R1.row r m) U (by intro z;cases z)⟩ (fun j σ q _ h=>.of h.2.2.1) ?_ ?_
   ·rintro j x σ q al a4 hx2 ⟨⟨y,z,u,rfl⟩,C,hl2,D,b,R2,a5⟩
    obtain⟨dd,G,rx⟩:=D.get hx2
    rw[az]at G
    cases ep:(vQ o nm)[j]? with
    |none=>rw[ep]at G;cases G
    |some p=>
    rw[ep]at G
    have a6:dd=elD p:=(aB G).symm
    subst a6
    obtain⟨a7,b6,rfl,a8,y1,bx,rfl,a9,y2,as,rfl,ba,ax⟩:=rx
    have bb:y1=sv p.1:=a9
    have bd:y2=sv p.2:=ba
    have en:as=[]:=ax
    subst bb bd en
    have hj:j<(vQ o nm).length:=(ak.mp ep).1
    have aK:zB o (bk.take i)++(vQ o nm).take (j+1)=(zB o (bk.take i)++(vQ o nm).take j)++[p]:=by
     rw[aF hj,(ak.mp ep).2,dP]
    generalize be:zB o (bk.take i)++(vQ o nm).take j=ps at R2 aK
    have b7:ps.length<=100:=by
     have h1:ps.length<=(zB o (bk.take (i+1))).length:=by
      rw[<-be,n,aw,aw,aO];omega
     omega
    have b1:b.length<=100:=by
     have h1:=(zHO ps).1
     rw[<-R2.rows,ah]at h1
     omega
    refine⟨a7,[sv p.1,sv p.2],rfl,a8,rfl,_,_,rfl,_,_,rfl,rfl,?_⟩
    refine⟨_,rfl,.inr (.inr (.inl ⟨rfl,.inl ⟨_,R2.top⟩⟩)),_,rfl,fun t W=>?_⟩
    have Z:H t=none:=C.free W
    have X:d≠t:=yF R2.top W
    have s3:zA q (upd q t (.dK [])):=zA.upd1 W
    have fin:∀(ad:ao) (row:List (S×Int)) (I:Hp),I ad=some (.dK (yM row))->(row.map (·.1)).Nodup->row.length<=100->(∀J,J=upd I ad (.dK (yM (uE row p.2)))->al [some (.ref a),some (.int o),some (.ref d),some (sv nm),some (sv p.1),some (sv p.2),some (.ref ad)] J)->
      zGN (gQ 6) (gQ 5) (tOp (gC fun i j=>V.int (i+j)) (zGR (gQ 6) (gQ 5) (tC (.int 0))) (tC (.int 1))) {nx:=al,rt:=Q,bk:=fun _ _=>False,ct:=fun _ _=>False} [some (.ref a),some (.int o),some (.ref d),some (sv nm),some (sv p.1),some (sv p.2),some (.ref ad)] I:=by
     intro ad row I c bi b9 hq
     refine⟨_,rfl,ad,rfl,.inl ⟨_,.inl c⟩,_,rfl,_,vR.k (k:=Sum.inr (tx p.2)) c,(zO row p.2).getD 0,1,?_,rfl,?_⟩
     ·rw[kN]
      cases zO row p.2<;>rfl
     ·refine⟨_,rfl,_,rfl,ad,_,rfl,zAE.k (k:=Sum.inr (tx p.2)) c (by rw[jK,aL];omega),hq _ ?_⟩
      rw[zCE V.int row p.2 _ bi]
      rfl
    have B:∀(ad:ao) (row:List (S×Int)) (I J:Hp),zA H I->H ad=none->I l=some (.lst xs)->Reps K I ((vQ o nm).map elD) xs->J=upd I ad (.dK (yM (uE row p.2)))->I ad=some (.dK (yM row))->RA H J d (ps++[p]) (zR b p.1 (ad,uE row p.2))->
      al [some (.ref a),some (.int o),some (.ref d),some (sv nm),some (sv p.1),some (sv p.2),some (.ref ad)] J:=by
     intro ad row I J sx bl Y bm L c RR
     have aa:ad≠l:=zBg c Y (by intro z;cases z)
     subst L
     refine a4 _ _ ⟨⟨_,_,_,rfl⟩,sx.upd_new bl,by rw[zG aa.symm];exact Y,Reps.sameQ (j2.upd c) _ _ bm,_,by rw[aK];exact RR,fun r m=>?_⟩
     rcases j1 m with e|⟨e,_⟩
     ·rw[e];exact aa
     ·exact a5 r e
    have hx3:upd q t (.dK []) d=some (.dK (z5 (fun v:ao×List (S×Int)=>V.ref v.1) b)):=by rw[zG X];exact R2.top
    have hl3:upd q t (.dK []) l=some (.lst xs):=s3 _ _ hl2
    have hr3:∀r∈b,upd q t (.dK []) r.2.1=some (.dK (yM r.2.2)):=fun r m=>s3 _ _ (R2.row r m)
    have bn:∀r∈b,r.2.1≠t:=fun r m=>yF (R2.row r m) W
    refine⟨d,_,Sum.inr (tx p.1),_,rfl,rfl,hx3,by rw[jK,aL];omega,fun yv M=>?_,fun am=>?_⟩
    ·
     rw[kN]at M
     cases g:zO b p.1 with
     |none=>rw[g]at M;cases M
     |some v=>
     rw[g]at M
     have ev:yv=.ref v.1:=(aB M).symm
     subst ev
     obtain⟨r1,r2,r3,r4,r5⟩:=zOA R2 g
     have N:upd q t (.dK []) v.1=some (.dK (yM v.2)):=s3 _ _ r1
     refine fin v.1 v.2 _ N r2 (by omega) fun J L=>B v.1 v.2 _ J (C.trans s3) r4 hl3 (Reps.same s3 _ _ D) L N ?_
     refine R2.step p v.2 (by rw[g];rfl) (fun v' O=>by rw[g]at O;rw[aB O]) (fun hn=>by rw[g]at hn;cases hn) (by rw[L,zF]) ?_ fun r m an=>?_
     ·rw[L,zG r5.symm,hx3]
      have:=zDk (fun v:ao×List (S×Int)=>V.ref v.1) b p.1 (v.1,uE v.2 p.2) v g rfl
      rw[this]
     ·rw[L,zG an];exact hr3 r m
    ·
     rw[kN]at am
     have g:zO b p.1=none:=by
      cases g:zO b p.1 with
      |none=>rfl
      |some v=>rw[g]at am;cases am
     have bv:=zCE (fun v:ao×List (S×Int)=>V.ref v.1) b p.1 (t,[]) (zDj R2)
     have aN:upd (upd q t (.dK [])) d (.dK (v8 (z5 (fun v:ao×List (S×Int)=>V.ref v.1) b) (Sum.inr (tx p.1)) (.ref t))) t=some (.dK (yM [])):=by
      rw[zG X.symm,zF];rfl
     refine fin t [] _ aN (by simp) (by simp) fun J L=>B t [] _ J ((C.trans s3).upd_new hd) Z (by rw[zG a3];exact hl3) (Reps.sameQ (j2.upd hx3) _ _ (Reps.same s3 _ _ D)) L aN ?_
     refine R2.step p [] (by rw[g];rfl) (fun v' O=>by rw[g]at O;cases O) (fun _=>⟨Z,X.symm,fun hm=>?_⟩) (by rw[L,zF]) ?_ fun r m an=>?_
     ·obtain⟨r,m,e⟩:=av.mp hm
      exact bn r m e
     ·rw[L,zG X,zF,bv]
      congr 2
      have hk:p.1∉b.map (·.1):=zHI.mp g
      rw[zCF _ _ _ hk,zCF _ _ _ hk]
      unfold z5 vP
      rw[aU,aU,aU,aU]
      rfl
     ·rw[L,zG an,zG (R2.new r m).2];exact hr3 r m
   ·rintro σ q ⟨⟨y,z,u,rfl⟩,C,hl2,D,b,R2,_⟩
    refine hN _ _ ⟨⟨_,_,_,_,rfl⟩,C,b,?_⟩
    rw[n]
    have Y:xs.length=(vQ o nm).length:=by have:=D.length;simpa using this.symm
    rw[Y,bw]at R2
    exact R2
  ·rintro σ H' ⟨⟨x1,x2,x3,x4,rfl⟩,sm,T,R⟩
   refine⟨_,rfl,k d H' sm hd ⟨T,?_,R.top,R.row⟩⟩
   rw[R.rows]
   have:(zD bk).length=bk.length:=by simp[zD]
   rw[this,bw]
theorem zOC {a b:Int}(ha:0<=a)(c:0<b):i9 b (a%b)=i9 a b:=by
 obtain⟨x,rfl⟩:=bO ha
 obtain⟨y,rfl⟩:=bO (cY c)
 have e:((x:Int)%(y:Int))=((x%y:Nat):Int):=rfl
 rw[e]
 show tV y (x%y)=tV x y
 rw[mT y (x%y),<-Nat.gcd_rec,mT]
noncomputable def zDl:Sp:=fun vs H Q _=>∃u d:Int,vs=[.int u,.int d]/\0<=u/\0<d/\d<1073741824/\Q (.int (yC u d)) H
noncomputable abbrev zDm:cT:=top 28
theorem zHQ:FnScope ["one","other","rest"] ["one","other"] (defScope zDm):=z9
noncomputable abbrev frO (q:Int×Int):HO:=.tup [.int q.1,.int q.2]
noncomputable def zDn:Sp:=fun vs H Q _=>∃u d:Int,vs=[.int u,.int d]/\0<=u/\0<d/\d<1073741824/\∀p,H p=none->Q (.ref p) (upd H p (frO (low u d)))
noncomputable abbrev zDo:cT:=top 29
theorem zHR:FnScope ["up","down","divisor"] ["up","down"] (defScope zDo):=z9
noncomputable def yZ (K:ag)(H:Hp)(v:V)(q:Int×Int):Prop:=∃a,v=.ref a/\zX K H a [.int q.1,.int q.2]
theorem yZ.same {H b:Hp}{v:V}{q:Int×Int}(h:yZ K H v q)(e:zA H b):yZ K b v q:=by
 obtain⟨a,c,d⟩:=h
 exact⟨a,c,e.seqT d⟩
theorem yZ.new {H:Hp}{p:ao}{q:Int×Int}:yZ K (upd H p (frO q)) (.ref p) q:=⟨p,rfl,.of zF⟩
theorem yZ.rep {H:Hp}{v:V}{q:Int×Int}(h:yZ K H v q):vE K H (.tuple [.int q.1,.int q.2]) v:=by
 obtain⟨a,b,c⟩:=h
 exact⟨a,_,b,c,_,_,rfl,rfl,_,_,rfl,rfl,rfl⟩
theorem cm {p:Int}(a:0<=p)(b:p<1073741824)(q:Int):zBJ p q:=.inl ⟨by omega,by omega⟩
end
theorem zOD {ps:List (S×S)}{e:S}{xs:List (S×Int)}(nd:(xs.map (·.1)).Nodup)(mem:∀l n,(l,n)∈xs↔n=(ps.count (e,l):Int)/\0<n):(xs.map (·.2)).sum=(tot ps e:Int):=by
 have h:=zHJ (ps.filter fun p=>decide (p.1=e)) (xs.map fun p=>(e,p.1)) ?_ ?_
 ·unfold tot
  rw[<-h,bc]
  congr 1
  apply ie
  rintro⟨l,n⟩ a
  have:=((mem l n).mp a).1
  show n=(kx (e,l) (ps.filter fun p=>decide (p.1=e)):Int)
  rw[pG (by simp)]
  exact this
 ·have:=nd
  rw[dq,bD]at this⊢
  exact this.imp fun{p q} b z=>b (congrArg rO z)
 ·rintro⟨d,l⟩ a
  obtain⟨f,g⟩:=aI.mp a
  have c:d=e:=by simpa using g
  subst c
  exact av.mpr ⟨(l,(ps.count (d,l):Int)),(mem l _).mpr ⟨rfl,by
   have:=d9.mpr f
   omega⟩,rfl⟩
noncomputable def uB (ps:List (S×S))(e:S):List (S×Int):=(zO (uA ps) e).getD []
theorem zAs (ps:List (S×S))(e:S):((uB ps e).map (·.1)).Nodup:=by
 unfold uB
 cases g:zO (uA ps) e with
 |none=>simp
 |some row=>exact(vZ ps).ndr e row ((vF (vZ ps).nd e row).mpr g)
theorem zDp (ps:List (S×S))(e l:S):zO (uB ps e) l=if 0<ps.count (e,l)then some (ps.count (e,l):Int)else none:=(vZ ps).val e l
theorem zDq (ps:List (S×S))(e l:S)(n:Int):(l,n)∈uB ps e↔n=(ps.count (e,l):Int)/\0<n:=by
 rw[vF (zAs ps e),zDp]
 by_cases c:0<ps.count (e,l)
 ·rw[if_pos c]
  constructor
  ·intro z
   have:=aB z
   omega
  ·rintro⟨z,_⟩;rw[z]
 ·rw[if_neg c]
  constructor
  ·intro z;cases z
  ·rintro⟨a,b⟩;omega
theorem zHS (ps:List (S×S))(e:S):((uB ps e).map (·.2)).sum=(tot ps e:Int):=zOD (zAs ps e) (zDq ps e)
theorem tot_le (ps:List (S×S))(e:S):tot ps e<=ps.length:=cI ..
structure Cst2 (K:ag) (mg:Str->Option ai):Prop where
 nought:∃a,mg "NOUGHT"=some (.ref a)/\∀H,zX K H a [.int 0,.int 1]
section
variable{P:aH}{w:aW}{K:ag}{mg:Str->Option ai}{base:bB}
noncomputable abbrev zDr:cT:=top 30
theorem zOE:FnScope ["row","letter"] ["row","letter"] (defScope zDr):=z9
theorem gL {X:Cx}(c:ag){pos:Pos}{a:List bF}{k:Nat}{t:gA}(n:Nat)(d:X.K=c)(e:X.calm=true)(h:PGs X a t)
  (hn:(assignEach a X.env).length=n) (b:(assignEach a X.env).findIdx? (·.1)=none):PG X (.Tuple a k pos) (zFY c n t):=by
 subst d
 exact gU e h hn b
theorem nd3:(["rows","end","letter"]:List Str).Nodup:=by decide+kernel
structure Bk (bk:List S) (o:Nat):Prop extends isBk bk where
 o1:1<=o
 o3:o<=3
theorem Bk.l8 {bk:List S}{o:Nat}(h:Bk bk o):∀x∈bk,x.length<=8:=fun x a=>(h.nm x a).2.1
theorem zOF {bk:List S}{o:Nat}(h:Bk bk o):1<=(zB o bk).length/\(zB o bk).length<1000:=by
 have e:=zBz o bk
 have go:∀l:List S,(∀x∈l,x.length<=8)->(l.length:Int)<=(l.map fun x=>(x.length:Int)+1).sum/\(l.map fun x=>(x.length:Int)+1).sum<=9*(l.length:Int):=by
  intro l
  induction l with
  |nil=>intro _;simp
  |cons x r ih=>
   intro hl
   have a:=hl x (au ..)
   have b:=ih fun y c=>hl y (aj _ c)
   rw[aQ,cp,aJ]
   have:((r.length+1:Nat):Int)=(r.length:Int)+1:=rfl
   omega
 have:=go bk h.l8
 have a:=h.lo
 have b:=h.hi
 omega
structure Needs (P:aH) (w:aW) (K:ag) (mg:Str->Option ai) (base:bB):Prop where
 bk:zV P w K mg base 3 "need_book" ["thing"] zCC
 od:zV P w K mg base 3 "need_order" ["thing"] zDc
 nm:zV P w K mg base 2 "need_name" ["thing"] zCD
 rows:zV P w K mg base 3 "counted_rows" ["book","order"] zCG
end
theorem zOG (x:Str):tx x.cps.toList=x:=by
 apply MyS.Str_ext
 simp[tx]
section
variable{P:aH}{w:aW}{K:ag}{mg:Str->Option ai}{base:bB}
theorem zBT {X:Cx}(e:ag)(f:X.K=e){o:bF}{to:TE}{name:Str}{apos a:Pos}{T id:String}{r:V->List V->Hp->VK->Prop}(g:rG T)(slot:Slot T name id)(d:typeOf (.builtin id)=pure (.type "method_descriptor"))(h:MtR X id r)(i:PE X o to)
  (b:attributeBase o name X.env (eval o X.env)=eval o X.env:=by rfl) (c:(apos.endLine==a.line)=true:=by rfl):PE X (.Call (.Attribute o name apos) [] [] a) (zGE e T r to):=by
 subst f
 exact zLj g slot d h i b c
end
theorem zHT {c A B:Prop} [Decidable c] (a:¬c)(h:A):if(!decide c)=true then A else B:=by
 rw[decide_eq_false a];exact h
section
variable{P:aH}{w:aW}{K:ag}{mg:Str->Option ai}{base:bB}
theorem zHU {H:Hp}:∀ns:List Int,Reps K H (ns.map PyData.int) (ns.map V.int)
 | []=>rfl
 |n::ns=>⟨_,_,rfl,rfl,zHU ns⟩
theorem zHV:∀ns:List Int,dv (ns.map PyData.int)=true
 | []=>rfl
 |n::ns=>by rw[aQ];simp only[dv,eK,zHV ns,lP]
noncomputable def zHW (K:ag):Sp:=fun vs H Q _=>∃(a:ao) (ns:List Int) (k:Nat),vs=[.ref a,.int k]/\z6 K H a (ns.map V.int)/\ns.length<=63/\∀(i:Int) H',zA H H'->Q (.int i) H'
noncomputable abbrev zDs:cT:=top 67
theorem zOH:FnScope ["_law_script","_law_k"] ["_law_script","_law_k"] (defScope zDs):=z9
theorem zOI (ns:List Int):iJ (.list (ns.map PyData.int))=true:=by
 unfold iJ
 have a:(PyData.list (ns.map PyData.int)).canLay0=true:=by simp only[eK];exact zHV ns
 have b:(PyData.list (ns.map PyData.int)).depth<=64:=by
  have go:∀ns:List Int,jm (ns.map PyData.int)<=1:=by
   intro ns
   induction ns with
   |nil=>decide
   |cons n ns ih=>rw[aQ];simp only[jm,gx];omega
  have:=go ns
  simp only[gx];omega
 rw[a,decide_eq_true b];rfl
theorem zOJ {f:ao}{fd:aZ}(F:Fun K "_law_cell" "_law_cell" zDs f fd)(B:Blt mg):FnOk P w K mg base zZ 1 f fd ["_law_script","_law_k"] (zHW K):=by
 refine F.ok zOH (fun vs H Q E h=>?_) (fun e A outer s H vs Q E g h=>?_)
 ·obtain⟨a,ns,k,rfl,_⟩:=h;rfl
 ·obtain⟨a,ns,n,rfl,ha,hl,k⟩:=h
  have i:=g.units
  refine⟨_,zM (yR (vA (zDG i) (pv 0) (v6 zE) (yU _)) (zK (z0 (zT jT zN (pv 1)))) yQ)
   (zK (z0 (zT yS (yH vT (pv 0) (zT gY (pv 1) (yL jD (by rfl) B.len bM (zC (pv 0) zE))) (fun _ _=>rfl))
    (zT jT zN (zT zAb (pv 1) (yL jD (by rfl) B.len bM (zC (pv 0) zE))))))),?_⟩
  refine⟨_,rfl,by show 0<=sizeLine;decide,fun p j=>?_⟩
  have c:zA H (upd H p (.lst [])):=zA.upd1 j
  refine⟨.list (ns.map PyData.int),.list [],⟨a,_,rfl,c.seq ha,zHU ns⟩,⟨p,[],rfl,.of zF,rfl⟩,zOI ns,rfl,_,rfl,?_⟩
  cases ns with
  |nil=>exact qT ⟨_,rfl,7,n,rfl,rfl,.inl ⟨by decide,by decide⟩,k _ _ c⟩
  |cons m ns=>
   refine vB ?_
   have b:((m::ns).map V.int).length=ns.length+1:=by simp
   have l:ns.length+1<=63:=by simpa using hl
   have o:((n:Int)%(((m::ns).map V.int).length:Int))=((n%(ns.length+1):Nat):Int):=by rw[b];rfl
   have d:n%(ns.length+1)<((m::ns).map V.int).length:=by rw[b];exact rP _ (Nat.succ_pos _)
   refine⟨_,rfl,_,rfl,_,rfl,a,_,rfl,.inl (c.seq ha),_,_,rfl,rfl,by rw[b];omega,?_⟩
   refine⟨a,_,_,.int ((m::ns)[n%(ns.length+1)]'(by simpa using d)),rfl,rfl,c.seq ha,?_,?_⟩
   ·rw[o]
    refine zAB ?_
    rw[az,ay (by simpa using d)];rfl
   ·exact⟨_,rfl,_,rfl,a,_,rfl,.inl (c.seq ha),_,_,rfl,rfl,⟨by rw[b];omega,by rw[b];omega⟩,_,_,rfl,rfl,.inl ⟨by decide,by decide⟩,_,_,rfl,rfl,k _ _ c⟩
theorem lt0 {d:Int}(h:0<d):0<d:=h
theorem cmE {t d q:Int}(h:0<d)(a:d<18446744073709551616):zBJ (t%d) q:=by
 have b:=nc t (show d≠0 by omega)
 have c:=lg t h
 exact .inl ⟨by omega,by omega⟩
noncomputable def zCH (K:ag):Sp:=fun vs H Q _=>∃(a:ao) (ns:List Int) (k m:Nat),vs=[.ref a,.int k,.int m]/\z6 K H a (ns.map V.int)/\ns.length<=63/\1<=m/\m<100000/\∀(i:Nat) H',i<m->zA H H'->Q (.int i) H'
noncomputable abbrev zDt:cT:=top 68
theorem zHX:FnScope ["_law_script","_law_k","_law_many","_law_cell_here"] ["_law_script","_law_k","_law_many"] (defScope zDt):=z9
theorem zOK {f:ao}{fd:aZ}(F:Fun K "_law_drawn" "_law_drawn" zDt f fd)(b:zV P w K mg base 1 "_law_cell" ["_law_script","_law_k"] (zHW K)):FnOk P w K mg base zZ 2 f fd ["_law_script","_law_k","_law_many"] (zCH K):=by
 refine F.ok zHX (fun vs H Q E h=>?_) (fun c A outer s H vs Q E d h=>?_)
 ·obtain⟨a,ns,k,m,rfl,_⟩:=h;rfl
 ·obtain⟨a,ns,n,m,rfl,ha,hl,g,j,k⟩:=h
  have nd:=zHX.nd
  refine⟨_,zM (yA (i:=3) nd rfl (Or.inl rfl) (zT gY (zT yS (zT jT (zT gY (zW b d rfl (zC (pv 0) (zC (pv 1) zE))) zN) zN) (zT jT zN (zT yS (pv 1) zN))) zN))
   (zM (yA (i:=3) nd rfl (Or.inl rfl) (zT gY (zT yS (zT jT (pv 3) (pv 3)) (zT zAb (pv 3) zN)) zN))
   (zK (z0 (zT gY (zT zAb (zT gY (zT yS (zT jT (pv 3) (pv 3)) (zT zAb (pv 3) zN)) zN) zN) (pv 2))))),?_⟩
  refine⟨_,rfl,_,rfl,a,ns,n,rfl,ha,hl,fun i l o=>?_⟩
  have fin:∀z:Int,Q (.int (z%(m:Int))) l:=fun z=>by
   have p:0<=z%(m:Int):=nc _ (by omega)
   have q:z%(m:Int)<m:=lg _ (by omega)
   have e:z%(m:Int)=((z%(m:Int)).toNat:Int):=(Int.toNat_of_nonneg p).symm
   rw[e]
   exact k _ _ (by omega) o
  refine⟨_,_,rfl,rfl,lt0 (by decide),_,_,rfl,rfl,.inr ⟨by decide,by decide⟩,?_⟩
  refine⟨_,rfl,_,_,rfl,rfl,_,_,rfl,rfl,.inl ⟨by decide,by decide⟩,_,_,rfl,rfl,_,_,rfl,rfl,lt0 (by decide),?_⟩
  refine⟨_,rfl,_,rfl,_,_,rfl,rfl,cmE (by decide) (by decide),_,rfl,_,_,rfl,rfl,⟨by decide,by decide⟩,_,_,rfl,rfl,_,_,rfl,rfl,lt0 (by decide),?_⟩
  refine⟨_,rfl,_,rfl,_,_,rfl,rfl,cmE (by decide) (by decide),_,rfl,_,_,rfl,rfl,⟨by decide,by decide⟩,_,_,rfl,rfl,_,_,rfl,rfl,lt0 (by decide),_,_,rfl,rfl,⟨by decide,by decide⟩,_,rfl,_,_,rfl,rfl,?_,fin _⟩
  show(0:Int)<(m:Int)
  omega
noncomputable def zDu (K:ag):Sp:=fun vs H Q _=>∃(a:ao) (ns:List Int) (at' most:Nat),vs=[.ref a,.int at',.int most]/\z6 K H a (ns.map V.int)/\ns.length<=63/\1<=most/\most<=8/\
 ∀(x:S) H',zA H H'->v1 x->(x.length<=most/\∀c∈x,(c=97\/c=98\/c=122))->Q (sv x) H'
noncomputable abbrev zDv:cT:=top 69
theorem zHY:FnScope ["_law_script","_law_at","_law_most","_law_size","_law_letters"] ["_law_script","_law_at","_law_most"] (defScope zDv):=z9
theorem ndN:(["_law_letters","_law_script","_law_at","_law_k"]:List Str).Nodup:=by decide+kernel
noncomputable abbrev cDr (P:aH)(w:aW)(K:ag)(mg:Str->Option ai)(base:bB):Prop:=zV P w K mg base 2 "_law_drawn" ["_law_script","_law_k","_law_many"] (zCH K)
theorem zOL {f:ao}{fd:aZ}(F:Fun K "_law_name" "_law_name" zDv f fd)(B:Blt mg)(I:cDr P w K mg base):FnOk P w K mg base zZ 3 f fd ["_law_script","_law_at","_law_most"] (zDu K):=by
 refine F.ok zHY (fun vs H Q E h=>?_) (fun aa A outer s H vs Q E J h=>?_)
 ·obtain⟨a,ns,k,m,rfl,_⟩:=h;rfl
 ·obtain⟨a,ns,n,m,rfl,ha,hl,M,ac,k⟩:=h
  have nd:=zHY.nd
  refine⟨_,zM (yA (i:=3) nd rfl (Or.inl rfl) (zT yS zN (zW I J rfl (zC (pv 0) (zC (pv 1) (zC (pv 2) zE))))))
   (zM (yA (i:=4) nd rfl (Or.inr rfl) (yH vT (v6 (zC vL (zC vL (zC vL zE)))) (zW I J rfl (zC (pv 0) (zC (zT yS (pv 1) zN) (zC zN zE)))) (fun _ _=>rfl)))
   (zK (z0 (kJ PySem.F.plainAttrs_str PySem.F.slot_str_join PySem.F.type_str_join zMZ vL (zC
    (uD (N:=["_law_letters","_law_script","_law_at","_law_k"]) (caps:=[4,0,1]) rfl (v9 (by kernel_rfl)) (zBI rfl B.range (zC (pv 3) zE))
     (fun T C s H ex=>z7 (i:=3) ndN rfl (Or.inl rfl)) (fun T C s H ex=>uO)
     (fun T C s H ex=>yH zLa (pv 0) (zW I J rfl (zC (pv 1) (zC (zT yS (zT yS (pv 2) zN) (pv 3)) (zC (yL gE (by rfl) B.len bM (zC (pv 0) zE)) zE)))) (fun _ _=>rfl))) zE))))),?_⟩
  refine⟨_,rfl,_,rfl,_,rfl,a,ns,n,m,rfl,ha,hl,M,by omega,fun sz U hsz W=>?_⟩
  refine⟨_,_,rfl,rfl,?_⟩
  refine⟨by show 3<=sizeLine;decide,fun p hp=>?_⟩
  have X:zA U (upd U p (.lst [.str "ab",.str "ab",.str "abz"])):=zA.upd1 hp
  refine⟨_,rfl,_,rfl,_,_,rfl,rfl,a,ns,n+9,3,rfl,X.seq (W.seq ha),hl,by decide,by decide,fun Y H3 O Z=>?_⟩
  have o:=(W.trans X).trans Z
  obtain⟨L,hL,e⟩:∃L:S,(L=[97,98]\/L=[97,98,122])/\([.str "ab",.str "ab",.str "abz"]:List V)[Y]?=some (sv L):=by
   match Y,O with
   |0,_=>exact⟨[97,98],.inl rfl,rfl⟩
   |1,_=>exact⟨[97,98],.inl rfl,rfl⟩
   |2,_=>exact⟨[97,98,122],.inr rfl,rfl⟩
  refine⟨p,_,_,sv L,rfl,rfl,.of (Z _ _ zF),zAB e,?_⟩
  refine⟨rfl,_,rfl,_,rfl,by omega,by omega,?_⟩
  have al:L.length=2\/L.length=3:=by rcases hL with h|h<;>subst h<;>simp
  have R:∀c∈L,(97<=c/\c<=122)/\(c=97\/c=98\/c=122):=by rcases hL with h|h<;>subst h<;>decide
  have r:(1+(sz:Int)).toNat=sz+1:=by omega
  refine qK (zAl 0 _) [some (sv L),some (.ref a),some (.int n)] 1 (by rw[ah,bE,r];omega) (fun i l u=>zA H3 u/\∃b:S,l=b.map (fun c=>V.str (tx [c]))/\b.length=i/\∀c∈b,(97<=c/\c<=122)/\(c=97\/c=98\/c=122))
   ⟨zA.refl _,[],rfl,rfl,by simp⟩ (fun i l u _ h=>⟨trivial,by obtain⟨_,b,rfl,h,_⟩:=h;rw[ah];omega⟩) ?_ ?_
  ·rintro i x l u ys Nx hN hx hy ⟨v,b,rfl,g,d⟩
   obtain⟨y,rfl⟩:=ys1 hy
   rw[r]at hx
   obtain⟨hi,rfl⟩:=zDS hx
   refine⟨_,rfl,_,rfl,_,rfl,_,_,rfl,rfl,_,rfl,_,_,rfl,rfl,_,rfl,tx L,rfl,by rw[yJ,aL];omega,?_⟩
   rw[yJ]
   refine⟨a,ns,n+1+i,L.length,rfl,(o.trans v).seq ha,hl,by omega,by omega,fun j H5 hj s5=>?_⟩
   refine⟨tx L,_,L[j],rfl,rfl,by rw[yJ,aL];omega,?_,?_⟩
   ·rw[qO]
    exact zAB (ay hj)
   ·refine hN _ _ [some (.int i)] rfl ⟨v.trans s5,b++[L[j]],by rw[aU];rfl,by rw[aw,g];rfl,fun c t=>?_⟩
    rcases bz.mp t with z|z
    ·exact d c z
    ·have:c=L[j]:=by simpa using z
     rw[this]
     exact R _ (c6 hj)
  ·rintro l u ⟨v,b,rfl,g,d⟩ D hD
   rw[ah,bE,r]at g
   have q:((b.map fun c=>tx [c]).map (·.length)).sum=b.length:=by
    clear g d
    induction b with
    |nil=>rfl
    |cons c b ih=>rw[aQ,aQ,cp,ih,aJ,yJ];show 1+_=_;omega
   refine⟨_,D,b.map (fun c=>tx [c]),rfl,rfl,.of (by rw[zF,bc];rfl),?_,?_⟩
   ·rw[q]
    show _+_*0<=_
    omega
   ·have ej:pA ⟨#[]⟩ (b.map fun c=>tx [c])=tx b:=by
     rw[zMb,bc]
     congr 1
     clear g d q
     congr 1
     induction b with
     |nil=>rfl
     |cons c b ih=>rw[aQ,fh,ih];rfl
    have kk:∀G,zA H G->Q (.str (pA ⟨#[]⟩ (b.map fun c=>tx [c]))) G:=fun G sx=>by
     rw[ej]
     exact k b G sx ⟨by omega,by omega,fun c t=>(d c t).1⟩ ⟨by omega,fun c t=>(d c t).2⟩
    exact kk _ ((o.trans v).trans (zA.upd1 hD))
noncomputable def zHZ (K:ag):Sp:=fun vs H Q _=>∃(a:ao) (ns:List Int) (at' many most:Nat),vs=[.ref a,.int at',.int many,.int most]/\z6 K H a (ns.map V.int)/\ns.length<=63/\1<=many/\many<=8/\1<=most/\most<=8/\
 ∀(p:ao) (bk:List S) H',zA H H'->H' p=some (.tup (zD bk))->1<=bk.length->bk.length<=many->(∀x∈bk,v1 x/\x.length<=most/\∀c∈x,c=97\/c=98\/c=122)->Q (.ref p) H'
noncomputable abbrev zDw:cT:=top 70
theorem zHa:FnScope ["_law_script","_law_at","_law_many","_law_most","_law_found","_law_k"] ["_law_script","_law_at","_law_many","_law_most"] (defScope zDw):=z9
theorem zOM {f:ao}{fd:aZ}(F:Fun K "_law_book" "_law_book" zDw f fd)(B:Blt mg)(Y:cDr P w K mg base)(Z:zV P w K mg base 3 "_law_name" ["_law_script","_law_at","_law_most"] (zDu K)):FnOk P w K mg base zZ 4 f fd ["_law_script","_law_at","_law_many","_law_most"] (zHZ K):=by
 refine F.ok zHa (fun vs H Q E h=>?_) (fun aa A outer s H vs Q E M h=>?_)
 ·obtain⟨a,ns,k,m,l,rfl,_⟩:=h;rfl
 ·obtain⟨a,ns,n,many,most,rfl,ha,hl,D,ab,G,I,k⟩:=h
  have nd:=zHa.nd
  have hr2:=M.mono (j:=2) (by decide)
  refine⟨_,zM (yA (i:=4) nd rfl (Or.inl rfl) (uN zE))
   (zM (uL bR rfl (zBI rfl B.range (zC (zT yS zN (zW Y hr2 rfl (zC (pv 0) (zC (pv 1) (zC (pv 2) zE))))) zE)) (z7 (i:=5) nd rfl (Or.inl rfl))
    (zK (yA (i:=4) nd rfl (Or.inl rfl) (zT (zGs.or zFx) (pv 4) (uN (zC (zW Z M rfl (zC (pv 0) (zC (zT yS (zT yS (pv 1) zN) (zT jT zN (pv 5))) (zC (pv 3) zE)))) zE))))))
   (zK (z0 (pv 4)))),?_⟩
  refine⟨by show 0<=sizeLine;decide,fun N J=>?_⟩
  have O:zA H (upd H N (.tup [])):=zA.upd1 J
  refine⟨_,rfl,_,rfl,_,rfl,a,ns,n,many,rfl,O.seq ha,hl,D,by omega,fun sz H1 hsz R=>?_⟩
  refine⟨_,_,rfl,rfl,_,rfl,by omega,by omega,?_⟩
  have g:(1+(sz:Int)).toNat=sz+1:=by omega
  refine jG (zAl 0 _) (fun i σ o=>∃(p:ao) (bk:List S) (y:Option V),σ=[some (.ref a),some (.int n),some (.int many),some (.int most),some (.ref p),y]/\zA H o/\o p=some (.tup (zD bk))/\bk.length=i/\∀x∈bk,v1 x/\x.length<=most/\∀c∈x,c=97\/c=98\/c=122)
   ⟨N,[],_,rfl,O.trans R,R _ _ zF,rfl,by simp⟩ (fun _ _ _ _ _=>trivial) ?_ ?_
  ·rintro i x σ o Nx T U ⟨p,bk,y,rfl,t,u,d,e⟩
   rw[g]at U
   obtain⟨hi,rfl⟩:=zDS U
   refine⟨_,rfl,_,rfl,_,rfl,_,_,rfl,rfl,_,rfl,_,_,rfl,rfl,.inl ⟨by decide,by decide⟩,_,_,rfl,rfl,_,rfl,a,ns,n+1+10*i,most,rfl,t.seq ha,hl,G,I,fun x W v hx1 hx2=>?_⟩
   refine⟨by show 1<=sizeLine;decide,fun q hq=>?_⟩
   have C:zA W (upd W q (.tup [sv x])):=zA.upd1 hq
   have nx:∀b∈bk++[x],v1 b/\b.length<=most/\∀c∈b,c=97\/c=98\/c=122:=fun b hb=>by
    rcases bz.mp hb with z|z
    ·exact e b z
    ·have:b=x:=by simpa using z
     rw[this];exact⟨hx1,hx2⟩
   cases bk with
   |nil=>exact .inl ⟨p,q,_,rfl,rfl,.of (C _ _ (v _ _ u)),.of zF,T _ _ ⟨q,[x],_,rfl,(t.trans v).trans C,zF,by rw[<-d];rfl,nx⟩⟩
   |cons c X=>
    refine .inr ⟨p,q,_,_,rfl,rfl,.of (C _ _ (v _ _ u)),.of zF,by simp[zD],?_,fun z=>by simp at z,fun _ r L=>T _ _ ⟨r,(c::X)++[x],_,rfl,((t.trans v).trans C).trans (zA.upd1 L),?_,by rw[aw,d];rfl,nx⟩⟩
    ·have:(zD (c::X)).length=i:=by rw[<-d];simp[zD]
     rw[this,aL]
     show i+1<=_
     omega
    ·rw[zF]
     unfold zD
     rw[aU];rfl
  ·rintro σ o ⟨p,bk,y,rfl,t,u,d,e⟩
   rw[ah,bE,g]at d
   exact⟨_,rfl,k p bk o t u (by omega) (by omega) e⟩
end
theorem zHb (a b:S):tx a++tx b=tx (a++b):=by
 apply MyS.Str_ext
 show((tx a).cps++(tx b).cps).toList=_
 simp[tx]
theorem zAM {d:dE}{A B:Prop}(hd:d.canLay0=true)(h:B):if(if true=true then !PyData.eqv d d else iy d d)=true then A else B:=by
 rw[zDH d hd];exact h
theorem zON {t:S}(h:∀c∈t,c<=122):tX (tx t)=true:=by
 unfold tX
 rw[Array.all_eq_true']
 intro c b
 have a:c∈t:=by simpa [tx]using b
 have:=h c a
 exact decide_eq_true (by omega)
end Kn
end
section
namespace L2
open PySem PySem.Spec PyProof.Rows
theorem z8.freeze {P:aH}{w:aW}{H:Hp}{h:bB}{a:ao}{o:Obj}{kvs:List (zL×V)}(x:z8 P w H h)(e:H a=some (.dK kvs))(g:h.get? a=some o):z8 P w (upd H a (.frz o (.dK kvs))) h:=fun b u d=>by
 by_cases f:b=a
 ·subst f;rw[zF]at d;cases d
  exact⟨g,x b _ e⟩
 ·rw[zG f]at d
  refine(x b u d).stay (fun c v _ q=>q) (fun c q=>?_) fun c xs q=>?_
  ·rw[zG (by rintro rfl;rw[e]at q;cases q)];exact q
  ·rw[zG (by rintro rfl;rw[e]at q;cases q)];exact q
theorem zHc {P:aH}{w:aW}{k:zL}{u:ai}(h:(vJ P w).is k u=true):zQ (kV k) u:=by
 rw[zJx]at h
 rcases jA h with⟨i,t,rfl,rfl⟩|⟨x,t,rfl,rfl⟩
 ·exact⟨_,rfl⟩
 ·exact⟨_,rfl⟩
theorem zCI {α β:Type}{F:α->β->Prop}:∀{c:List α}{d:List β}{i:Nat}{x:α},oF F c d->c[i]?=some x->∃y,d[i]?=some y/\F x y
 | [],_,i,x,_,h=>by simp at h
 |a::l,[],i,x,p,_=>by cases p
 |a::l,b::m,0,x,p,h=>by
  cases p with
  |cons e f=>cases h;exact⟨b,rfl,e⟩
 |a::l,b::m,i+1,x,p,h=>by
  cases p with
  |cons e f=>
   obtain⟨y,e1,g⟩:=zCI (i:=i) (x:=x) f (by simpa using h)
   exact⟨y,by simpa using e1,g⟩
noncomputable def Itd (a:ao)(o:Obj)(kvs:List (zL×V)):It where
 go:=fun i H=>H a=some (.frz o (.dK kvs))/\i<kvs.length
 yld:=fun i H x H'=>H'=H/\(kvs.map fun p=>kV p.1)[i]?=some x
 stop:=fun i H=>H a=some (.frz o (.dK kvs))/\kvs.length<=i
theorem zOO (a:ao)(o:Obj)(kvs:List (zL×V)):Known (Itd a o kvs) (kvs.map fun p=>kV p.1) (fun H=>H a=some (.frz o (.dK kvs))) :=
 ⟨fun i H h hi=>⟨h,by simpa using hi⟩,fun i H x b h y=>⟨y.1,fun _=>y.2⟩,fun H h=>⟨h,by simp⟩⟩
theorem zOP {P:aH}{w:aW}{K:ag}{tg:bF}(a r:ao)(o:Obj)(kvs:List (zL×V))(n ep:Nat)(hn:n=kvs.length)(C:∃M,o.data=.dict M ep):Turn P w K tg (Itd a o kvs) [r] r (fun i h=>h.IsKeyIter r a i n ep) where
 mem:=by simp
 obj:=fun i h st b t=>by
  have e:b=r:=by simpa using t
  subst e
  obtain⟨o,e,c,d⟩:=st
  exact⟨o,e,fun v z=>by rw[d]at z;cases z⟩
 keep:=fun i h h' st k=>st.at fun o e=>k r (by simp) o e
 item:=by
  intro X N O R hc i m s σ H E I hf st T
  subst N O R
  obtain⟨g,hi⟩:=T
  obtain⟨z,hS,vs,rel,U⟩:=uW I.hok (.inr ⟨o,g⟩)
  obtain⟨j,_⟩:=(show s.heap.get? a=some o/\_ from I.hok a _ g)
  obtain⟨u,l⟩:=U.dictAt
  have x:u=ep:=by
   obtain⟨o',M,D,_,W,_⟩:=id l
   obtain⟨es',F⟩:=C
   rw[j]at D;cases D
   rw[W]at F;injection F
  subst x
  have f:vs.length=n:=by rw[hn];exact(de rel).symm
  rw[<-f]at st
  obtain⟨Y,f1,f2,Z,f4,f5⟩:=hf r (by simp)
  obtain⟨q,L⟩:∃q,vs[i]?=some q:=⟨_,ay (by omega)⟩
  obtain⟨k,v⟩:=q
  refine wpAny_pyNext_dict_item st l L fun key h' G B sb=>?_
  have I1:Inv X m σ H {s with heap:=h'}:=I.turned (t':=s.toks) (fun b o t e=>(sb.2 b t).trans e) Y f1 Z f4 f5
  obtain⟨oi,e,c,d⟩:=id B
  rw[f]at B
  obtain⟨p,hp,e1,e2⟩:∃p,kvs[i]?=some p/\p.1=k/\zQ p.2 v:=by
   have J:i<kvs.length:=hi
   obtain⟨y,hy,hr⟩:=zCI rel (ay J)
   rw[L]at hy;cases hy
   exact⟨_,ay J,hr.1,hr.2⟩
  refine⟨key,rfl,zAZ (s:={s with heap:=h'}) e c d (by decide) ⟨kV k,H,I1,zHc G,⟨rfl,?_⟩,B,fun b t=>(hf b t).1⟩⟩
  rw[az,hp,<-e1];rfl
 done:=by
  intro X N O R hc i m s σ H E I hf st T
  subst N O R
  obtain⟨g,hi⟩:=T
  obtain⟨z,hS,vs,rel,U⟩:=uW I.hok (.inr ⟨o,g⟩)
  obtain⟨j,_⟩:=(show s.heap.get? a=some o/\_ from I.hok a _ g)
  obtain⟨u,l⟩:=U.dictAt
  have x:u=ep:=by
   obtain⟨o',M,D,_,W,_⟩:=id l
   obtain⟨es',F⟩:=C
   rw[j]at D;cases D
   rw[W]at F;injection F
  subst x
  have f:vs.length=n:=by rw[hn];exact(de rel).symm
  rw[<-f]at st
  obtain⟨Y,f1,f2,Z,f4,f5⟩:=hf r (by simp)
  refine wpAny_pyNext_dict_end (I.ok.hd hc) st l (by rw[eS];omega) fun h' he=>⟨rfl,?_⟩
  exact I.turned (t':=s.toks) (fun b o t e=>he b o t e) Y f1 Z f4 f5
 self:=fun A i s Q E st L=>wpAny_pyIter_keyiter st L
section
variable{X:Cx}{pins:List (ao×Obj)}{σ:St}{H:Hp}{s:aq}{tg:bF}
theorem Inv.freeze {a:ao}{o:Obj}{kvs:List (zL×V)}(I:Inv X pins σ H s)(e:H a=some (.dK kvs))(g:s.heap.get? a=some o):Inv X pins σ (upd H a (.frz o (.dK kvs))) s:=by
 have ne:∀{b:ao} {u:Option HO},H b=u->u≠some (.dK kvs)->b≠a:=fun{b u} q n z=>n (by rw[<-q,z,e])
 refine⟨I.ok,I.os,I.bare,⟨I.base.keep,I.base.slot,fun b d q n h=>?_,I.base.there,fun b xs q=>?_,fun b d u q=>?_,fun b ps q=>?_⟩,I.loc,I.cell,?_,fun x c q=>?_,fun p q=>?_,I.hok.freeze e g,I.len⟩
 ·have:=I.base.free b d q n h
  rw[zG (ne this (by simp))];exact this
 ·have:=I.base.tups b xs q
  rw[zG (ne this (by simp))];exact this
 ·have:=I.base.frzs b d u q
  rw[zG (ne this (by simp))];exact this
 ·obtain⟨m,z⟩:=I.base.tbls b ps q
  exact⟨m,by rw[zG (ne z (by simp))];exact z⟩
 ·have:=I.free
  rw[zG (ne this (by simp))];exact this
 ·have:=I.freeC x c q
  rw[zG (ne this (by simp))];exact this
 ·obtain⟨i,f,j⟩:=I.pin p q
  exact⟨i,by rw[zG (ne f (by simp))];exact f,j⟩
noncomputable def zOQ (tl:TE):TI:=fun σ H R=>tl σ H fun x H1=>∃a kvs,x=.ref a/\H1 a=some (.dK kvs)/\∀o,R (Itd a o kvs) (upd H1 a (.frz o (.dK kvs)))
theorem zOR {l:bF}{tl:TE}(hl:PE X l tl):PI X tg l (zOQ tl):=by
 intro pins s σ H R I h
 refine zH (hl pins s σ H _ I h) fun v c zq=>?_
 obtain⟨x,m,f,n,p⟩:=zq
 obtain⟨a,kvs,e,g,q⟩:=p
 subst e
 cases n
 obtain⟨z,r,vs,rel,t⟩:=kK f.hok g
 obtain⟨ep,d⟩:=t.dictAt
 obtain⟨o,u,i,_,j,_⟩:=id d
 refine wpAny_pyIter_dict r d ?_
 have w:=(f.freeze g i).kept (t':=c.toks) (h':=c.heap.push {cls:=.type "dict_keyiterator",data:=.fields #[.ref a,.int 0 0,.int vs.length 0,.int ep 0]}) fun b o e=>ae _ e
 refine⟨c.heap.objs.size,[c.heap.objs.size],_,_,upd m a (.frz o (.dK kvs)),rfl,w,zOP a _ o kvs vs.length ep (de rel).symm ⟨u,j⟩,⟨_,aC _ rfl,rfl,rfl⟩,fun b y=>?_,q o⟩
 have e:b=c.heap.objs.size:=by simpa using y
 subst e
 exact(f.freeze g i).fpOk (aA _) ((f.freeze g i).hok.fresh (aA _))
theorem z8.thaw {P:aH}{w:aW}{H:Hp}{h:bB}{a:ao}{o:Obj}{kvs:List (zL×V)}(x:z8 P w H h)(e:H a=some (.frz o (.dK kvs))):z8 P w (upd H a (.dK kvs)) h:=fun b u d=>by
 by_cases f:b=a
 ·subst f;rw[zF]at d;cases d
  exact(show h.get? b=some o/\yP P w H h b (.dK kvs)from x b _ e).2
 ·rw[zG f]at d
  refine(x b u d).stay (fun c v _ q=>q) (fun c q=>?_) fun c xs q=>?_
  ·rw[zG (by rintro rfl;rw[e]at q;cases q)];exact q
  ·rw[zG (by rintro rfl;rw[e]at q;cases q)];exact q
theorem Inv.thaw {a:ao}{o:Obj}{kvs:List (zL×V)}{pins':List (ao×Obj)}{h:St}{f:Hp}{s':aq}(I:Inv X pins σ H s)(i:Inv X pins' h f s')(j:f a=some (.dK kvs))(e:H a=some (.frz o (.dK kvs))):Inv X pins σ (upd H a (.dK kvs)) s:=by
 have ne:∀{b:ao} {u:Option HO},H b=u->u≠some (.frz o (.dK kvs))->b≠a:=fun{b u} q n z=>n (by rw[<-q,z,e])
 refine⟨I.ok,I.os,I.bare,⟨I.base.keep,I.base.slot,fun b d q n l=>?_,I.base.there,fun b xs q=>?_,fun b d u q=>?_,fun b ps q=>?_⟩,I.loc,I.cell,?_,fun x c q=>?_,fun p q=>?_,I.hok.thaw e,I.len⟩
 ·have:=I.base.free b d q n l
  rw[zG (ne this (by simp))];exact this
 ·have:=I.base.tups b xs q
  rw[zG (ne this (by simp))];exact this
 ·have:=I.base.frzs b d u q
  rw[zG (by rintro rfl;have:=i.base.frzs _ d u q;rw[j]at this;cases this)];exact this
 ·obtain⟨m,z⟩:=I.base.tbls b ps q
  exact⟨m,by rw[zG (ne z (by simp))];exact z⟩
 ·have:=I.free
  rw[zG (ne this (by simp))];exact this
 ·have:=I.freeC x c q
  rw[zG (ne this (by simp))];exact this
 ·obtain⟨r,g,t⟩:=I.pin p q
  exact⟨r,by rw[zG (ne g (by simp))];exact g,t⟩
noncomputable def zOS (t:TE):TE:=fun σ H Q=>∃a kvs,H a=some (.dK kvs)/\t σ H fun y H'=>∃o,H' a=some (.frz o (.dK kvs))/\Q y (upd H' a (.dK kvs))
theorem zOT {e:bF}{t:TE}(he:PE X e t):PE X e (zOS t):=by
 intro pins s σ H Q I h
 obtain⟨a,kvs,b,h⟩:=h
 exact zH (he pins s σ H _ I h) fun u d ⟨y,f,c,r,o,hf,q⟩=>⟨y,_,c.thaw I b hf,r,q⟩
end
theorem zOU:entryFor table "dict_itemiterator.__iter__"=some cJ.«dict_keyiterator.__iter__» :=
 nO (id' :="dict_keyiterator.__iter__") (by kernel_rfl) rfl (by decide+kernel) (by kernel_rfl)
noncomputable def Iti (a:ao)(o:Obj)(kvs:List (zL×V)):It where
 go:=fun i H=>H a=some (.frz o (.dK kvs))/\i<kvs.length
 yld:=fun i H x H'=>∃T q,x=.ref T/\H T=none/\H'=upd H T (.tup [kV q.1,q.2])/\kvs[i]?=some q
 stop:=fun i H=>H a=some (.frz o (.dK kvs))/\kvs.length<=i
theorem zOV {P:aH}{w:aW}{K:ag}{B:List bF}{k:Nat}{pos:Pos}(a d:ao)(o:Obj)(kvs:List (zL×V))(n ep:Nat)(hn:n=kvs.length)(C:∃es,o.data=.dict es ep) :
  Turn P w K (.Tuple B k pos) (Iti a o kvs) [d] d (fun i h=>∃ok r,IsItemIter h d a i n ep ok r) where
 mem:=by simp
 obj:=fun i h st b m=>by
  have e:b=d:=by simpa using m
  subst e
  obtain⟨ok,r,st⟩:=st
  exact⟨_,st,fun v z=>by
   have z':Data.fields _=Data.cell v:=z
   cases z'⟩
 keep:=fun i h h' st kk=>let⟨ok,r,st⟩:=st;⟨ok,r,kk d (by simp) _ st⟩
 item:=by
  intro X hP hw hK hc i D s σ H E I hf st hg
  subst hP hw hK
  obtain⟨f,hi⟩:=hg
  obtain⟨ok,r,st⟩:=st
  obtain⟨z,hS,vs,rel,dd⟩:=uW I.hok (.inr ⟨o,f⟩)
  obtain⟨j,_⟩:=(show s.heap.get? a=some o/\_ from I.hok a _ f)
  obtain⟨t,l⟩:=dd.dictAt
  have u:t=ep:=by
   obtain⟨o',es,G,_,x,_⟩:=id l
   obtain⟨es',J⟩:=C
   rw[j]at G;cases G
   rw[x]at J;injection J
  subst u
  have c:vs.length=n:=by rw[hn];exact(de rel).symm
  rw[<-c]at st
  obtain⟨q,Z⟩:∃q,vs[i]?=some q:=⟨_,ay (by omega)⟩
  obtain⟨k,v⟩:=q
  obtain⟨p,hp,e1,e2⟩:∃p,kvs[i]?=some p/\p.1=k/\zQ p.2 v:=by
   have L:i<kvs.length:=hi
   obtain⟨y,hy,hr⟩:=zCI rel (ay L)
   rw[Z]at hy;cases hy
   exact⟨_,ay L,hr.1,hr.2⟩
  refine wpAny_pyNext_items_item st l Z fun key h' M N O hsz hk=>?_
  refine⟨_,rfl,wpAny_letOwnedTupleGo_items N fun x R T=>?_⟩
  have U:s.heap.get? s.heap.objs.size=none:=by
   cases g:s.heap.get? s.heap.objs.size with
   |none=>rfl
   |some o=>exact absurd (aD g) (bI _)
  have W:d<s.heap.objs.size:=aD st
  have aa:x.get? s.heap.objs.size=some {cls:=.type "tuple",data:=.seq #[key,v]}:=(T.2 _ (cw W)).trans O
  refine⟨.ref s.heap.objs.size,upd H s.heap.objs.size (.tup [kV p.1,p.2]),I.turnedT (fp:=[d]) (h':=x) (t':=s.toks) (fun b ob m q=>?_) hf U ⟨by show 2<=sizeLine;decide,[key,v],.cons (by rw[e1];exact zHc M) (.cons e2 .nil),⟨_,aa,rfl,_,rfl⟩⟩,rfl,
   ⟨_,p,rfl,I.hok.free U,rfl,hp⟩,⟨_,_,by rw[c]at R;exact R⟩,fun b m=>?_⟩
  ·have Y:b≠d:=fun z=>m (by simp[z])
   exact(T.2 b Y).trans (hk b ob Y q)
  ·rw[zG]
   ·exact(hf b m).1
   ·rintro rfl
    have z':s.heap.objs.size=d:=by simpa using m
    exact absurd W (by rw[z'];exact bI _)
 done:=by
  intro X hP hw hK hc i D s σ H E I hf st hg
  subst hP hw hK
  obtain⟨f,hi⟩:=hg
  obtain⟨ok,r,st⟩:=st
  obtain⟨z,hS,vs,rel,dd⟩:=uW I.hok (.inr ⟨o,f⟩)
  obtain⟨j,_⟩:=(show s.heap.get? a=some o/\_ from I.hok a _ f)
  obtain⟨t,l⟩:=dd.dictAt
  have u:t=ep:=by
   obtain⟨o',es,G,_,x,_⟩:=id l
   obtain⟨es',J⟩:=C
   rw[j]at G;cases G
   rw[x]at J;injection J
  subst u
  have c:vs.length=n:=by rw[hn];exact(de rel).symm
  rw[<-c]at st
  obtain⟨f0,f1,f2,f3,f4,f5⟩:=hf d (by simp)
  refine wpAny_pyNext_items_end (I.ok.hd hc) st l (by rw[eS];omega) fun h' he=>⟨rfl,?_⟩
  exact I.turned (t':=s.toks) (fun b o m e=>he b o m e) f0 f1 f3 f4 f5
 self:=fun A i s Q E st Z=>by
  obtain⟨ok,r,st⟩:=st
  have O:s.TypeIs (.ref d) "dict_itemiterator" :=⟨_,st,rfl⟩
  refine lM O jg (cf jg O zOU ?_ (F.args_dict_itemiterator_iter_1 _))
  show wpAny _ _ (ret (.ref d)) _ _ s
  exact ar ⟨_,rfl,"dict_itemiterator",_,O,F.slot_dict_itemiterator_next.lookup,Z⟩
section
variable{X:Cx}{elts:List bF}{kk:Nat}{tpos:Pos}{tg:bF}
noncomputable def zOW (tl:TE):TI:=fun σ H R=>tl σ H fun x H1=>∃p a kvs,x=.ref p/\H1 p=some (VW p a)/\H1 a=some (.dK kvs)/\∀o,R (Iti a o kvs) (upd H1 a (.frz o (.dK kvs)))
theorem zCJ {l:bF}{tl:TE}(hl:PE X l tl):PI X (.Tuple elts kk tpos) l (zOW tl):=by
 intro d s σ H R I h
 refine zH (hl d s σ H _ I h) fun v c zq=>?_
 obtain⟨x,r,f,t,u⟩:=zq
 obtain⟨p,a,kvs,e,w,i,q⟩:=u
 subst e
 cases t
 obtain⟨z,D,vs,rel,y⟩:=kK f.hok i
 obtain⟨ep,g⟩:=y.dictAt
 obtain⟨o,A,j,_,m,_⟩:=id g
 have n:c.heap.get? p=some (zGn a):=(f.hok p _ w).1
 refine wpAny_pyIter_items (v:=p) ⟨_,n,rfl,rfl⟩ g ?_
 have B:=(f.freeze i j).kept (t':=c.toks) (h':=c.heap.push {cls:=.type "dict_itemiterator",data:=.fields #[.none,.bool false,.ref a,.int 0 0,.int vs.length 0,.int ep 0,.none,.none]}) fun b o e=>ae _ e
 refine⟨c.heap.objs.size,[c.heap.objs.size],_,_,upd r a (.frz o (.dK kvs)),rfl,B,zOV a _ o kvs vs.length ep (de rel).symm ⟨A,m⟩,⟨_,_,aC _ rfl⟩,fun b C=>?_,q o⟩
 have e:b=c.heap.objs.size:=by simpa using C
 subst e
 exact(f.freeze i j).fpOk (aA _) ((f.freeze i j).hok.fresh (aA _))
theorem zCK {a:ao}{o:Obj}{kvs:List (zL×V)}{g:TG}{tb:TS}{D:Ends}{σ:St}{H:Hp}(Pv:Nat->St->Hp->Prop)(t:Pv 0 σ H)(u:∀i σ H,i<=kvs.length->Pv i σ H->H a=some (.frz o (.dK kvs)))
  (d:∀(i:Nat) (q:zL×V) (T:ao) (σ:St) (H:Hp) (h:St->Hp->Prop),(∀c b,Pv (i+1) c b->h c b)->kvs[i]?=some q->Pv i σ H->H T=none->g (.ref T) σ (upd H T (.tup [kV q.1,q.2])) fun j f=>tb {D with nx:=h,ct:=h,bk:=D.nx} j f)
  (fin:∀σ H,Pv kvs.length σ H->D.nx σ H) :
  ∃W:Nat->Nat->St->Hp->Prop,(∃m,W 0 m σ H)/\∀i m σ H,W i m σ H->
   ((Iti a o kvs).stop i H/\D.nx σ H)\/((Iti a o kvs).go i H/\∃N:St->Hp->Prop,(∀c b,N c b->∃r,r<m/\W (i+1) r c b)/\∀x b,(Iti a o kvs).yld i H x b->g x σ b fun j f=>tb {D with nx:=N,ct:=N,bk:=D.nx} j f):=by
 refine⟨fun i m σ H=>i<=kvs.length/\m=kvs.length-i/\Pv i σ H,⟨kvs.length,bo _,rfl,t⟩,?_⟩
 rintro i m σ H ⟨hi,rfl,pv⟩
 have s:=u i σ H hi pv
 by_cases e:i=kvs.length
 ·subst e
  exact .inl ⟨⟨s,aA _⟩,fin σ H pv⟩
 ·have l:i<kvs.length:=by omega
  refine .inr ⟨⟨s,l⟩,Pv (i+1),fun c b p=>⟨kvs.length- (i+1),by omega,by omega,rfl,p⟩,fun x f n=>?_⟩
  obtain⟨T,q,rfl,v,rfl,w⟩:=n
  exact d i q T σ H (Pv (i+1)) (fun _ _ p=>p) w pv v
noncomputable def Itv (a:ao)(o:Obj)(kvs:List (zL×V)):It where
 go:=fun i H=>H a=some (.frz o (.dK kvs))/\i<kvs.length
 yld:=fun i H x H'=>H'=H/\(kvs.map fun p=>p.2)[i]?=some x
 stop:=fun i H=>H a=some (.frz o (.dK kvs))/\kvs.length<=i
theorem zOX (a:ao)(o:Obj)(kvs:List (zL×V)):Known (Itv a o kvs) (kvs.map fun p=>p.2) (fun H=>H a=some (.frz o (.dK kvs))) :=
 ⟨fun i H h hi=>⟨h,by simpa using hi⟩,fun i H x b h y=>⟨y.1,fun _=>y.2⟩,fun H h=>⟨h,by simp⟩⟩
theorem zOY {P:aH}{w:aW}{K:ag}{tg:bF}(a r:ao)(o:Obj)(kvs:List (zL×V))(n ep:Nat)(hn:n=kvs.length)(C:∃L,o.data=.dict L ep):Turn P w K tg (Itv a o kvs) [r] r (fun i h=>h.IsValIter r a i n ep) where
 mem:=by simp
 obj:=fun i h st b t=>by
  have e:b=r:=by simpa using t
  subst e
  obtain⟨o,e,c,d⟩:=st
  exact⟨o,e,fun v z=>by rw[d]at z;cases z⟩
 keep:=fun i h h' st k=>st.at fun o e=>k r (by simp) o e
 item:=by
  intro X M N O hc i m s σ H E I hf st R
  subst M N O
  obtain⟨g,hi⟩:=R
  obtain⟨z,hS,vs,rel,T⟩:=uW I.hok (.inr ⟨o,g⟩)
  obtain⟨j,_⟩:=(show s.heap.get? a=some o/\_ from I.hok a _ g)
  obtain⟨u,l⟩:=T.dictAt
  have x:u=ep:=by
   obtain⟨o',L,D,_,U,_⟩:=id l
   obtain⟨es',F⟩:=C
   rw[j]at D;cases D
   rw[U]at F;injection F
  subst x
  have f:vs.length=n:=by rw[hn];exact(de rel).symm
  rw[<-f]at st
  obtain⟨W,f1,f2,Y,Z,f5⟩:=hf r (by simp)
  obtain⟨q,J⟩:∃q,vs[i]?=some q:=⟨_,ay (by omega)⟩
  obtain⟨k,v⟩:=q
  refine wpAny_pyNext_values_item st l J fun h' B sb=>?_
  have I1:Inv X m σ H {s with heap:=h'}:=I.turned (t':=s.toks) (fun b o t e=>(sb.2 b t).trans e) W f1 Y Z f5
  obtain⟨oi,e,c,d⟩:=id B
  rw[f]at B
  obtain⟨p,hp,e1,e2⟩:∃p,kvs[i]?=some p/\p.1=k/\zQ p.2 v:=by
   have G:i<kvs.length:=hi
   obtain⟨y,hy,hr⟩:=zCI rel (ay G)
   rw[J]at hy;cases hy
   exact⟨_,ay G,hr.1,hr.2⟩
  refine⟨v,rfl,zAZ (s:={s with heap:=h'}) e c d (by decide) ⟨p.2,H,I1,e2,⟨rfl,?_⟩,B,fun b t=>(hf b t).1⟩⟩
  rw[az,hp];rfl
 done:=by
  intro X M N O hc i m s σ H E I hf st R
  subst M N O
  obtain⟨g,hi⟩:=R
  obtain⟨z,hS,vs,rel,T⟩:=uW I.hok (.inr ⟨o,g⟩)
  obtain⟨j,_⟩:=(show s.heap.get? a=some o/\_ from I.hok a _ g)
  obtain⟨u,l⟩:=T.dictAt
  have x:u=ep:=by
   obtain⟨o',L,D,_,U,_⟩:=id l
   obtain⟨es',F⟩:=C
   rw[j]at D;cases D
   rw[U]at F;injection F
  subst x
  have f:vs.length=n:=by rw[hn];exact(de rel).symm
  rw[<-f]at st
  obtain⟨W,f1,f2,Y,Z,f5⟩:=hf r (by simp)
  refine wpAny_pyNext_values_end (I.ok.hd hc) st l (by rw[eS];omega) fun h' he=>⟨rfl,?_⟩
  exact I.turned (t':=s.toks) (fun b o t e=>he b o t e) W f1 Y Z f5
 self:=fun A i s Q E st J=>wpAny_pyIter_valiter st J
noncomputable def zOZ (tl:TE):TI:=fun σ H R=>tl σ H fun x H1=>∃p a kvs,x=.ref p/\H1 p=some (jE p a)/\H1 a=some (.dK kvs)/\∀o,R (Itv a o kvs) (upd H1 a (.frz o (.dK kvs)))
theorem zOa {l:bF}{tl:TE}(hl:PE X l tl):PI X tg l (zOZ tl):=by
 intro d s σ H R I h
 refine zH (hl d s σ H _ I h) fun v c zq=>?_
 obtain⟨x,r,f,t,u⟩:=zq
 obtain⟨p,a,kvs,e,w,i,q⟩:=u
 subst e
 cases t
 obtain⟨z,D,vs,rel,y⟩:=kK f.hok i
 obtain⟨ep,g⟩:=y.dictAt
 obtain⟨o,A,j,_,m,_⟩:=id g
 have n:c.heap.get? p=some (zGq a):=(f.hok p _ w).1
 refine wpAny_pyIter_values (v:=p) ⟨_,n,rfl,rfl⟩ g ?_
 have B:=(f.freeze i j).kept (t':=c.toks) (h':=c.heap.push {cls:=.type "dict_valueiterator",data:=.fields #[.ref a,.int 0 0,.int vs.length 0,.int ep 0]}) fun b o e=>ae _ e
 refine⟨c.heap.objs.size,[c.heap.objs.size],_,_,upd r a (.frz o (.dK kvs)),rfl,B,zOY a _ o kvs vs.length ep (de rel).symm ⟨A,m⟩,⟨_,aC _ rfl,rfl,rfl⟩,fun b C=>?_,q o⟩
 have e:b=c.heap.objs.size:=by simpa using C
 subst e
 exact(f.freeze i j).fpOk (aA _) ((f.freeze i j).hok.fresh (aA _))
noncomputable def zOb (t:TS):TS:=fun D σ H=>∃a kvs,H a=some (.dK kvs)/\t {D with nx:=fun σ' H'=>∃o,H' a=some (.frz o (.dK kvs))/\D.nx σ' (upd H' a (.dK kvs))} σ H
theorem zBU {st:cT}{t:TS}(h:PS X st t):PS X st (zOb t):=by
 intro b s σ H D I q
 obtain⟨a,kvs,d,q⟩:=q
 refine zH (h b s σ H _ I q) fun f j c=>?_
 cases f with
 |next=>
  obtain⟨e,l,g,o,hf,i⟩:=c
  exact⟨e,_,g.thaw I d hf,i⟩
 |brk=>exact c
 |cont=>exact c
 |ret u=>exact c
theorem zA.thaw {H d:Hp}{a:ao}{o:Obj}{kvs:List (zL×V)}(e:zA (upd H a (.frz o (.dK kvs))) d)(h:H a=some (.dK kvs)):zA H (upd d a (.dK kvs)):=fun b u q=>by
 by_cases c:b=a
 ·subst c;rw[zF,<-q,h]
 ·rw[zG c];exact e b u (by rw[zG c];exact q)
end
end L2
end
section
namespace Kn
theorem zBV (t l:S)(o:Nat):zY (zY t o++l) o=zY (t++l) o:=by
 unfold zY
 rw[aw,aw,cc]
 by_cases h:t.length<=o
 ·rw[show t.length-o=0 by omega,eM,gu]
 ·rw[qh,qh,List.drop_drop,cc]
  congr 1
  ·congr 1;omega
  ·congr 1;omega
noncomputable def pp (o:Nat)(t:S):List (S×S):=(bu t.length).map fun p=>(zY (t.take p) o,(t.drop p).take 1)
theorem zCL (o:Nat)(t:S):vQ o t=pp o t++[(zY t o,[])]:=by
 unfold vQ pp
 rw[dD,aU]
 simp
theorem zDx (o:Nat)(t:S)(c:Nat):pp o (t++[c])=pp o t++[(zY t o,[c])]:=by
 unfold pp
 rw[aw,bW,dD,aU]
 congr 1
 ·refine ie fun p a=>?_
  have b:p<t.length:=bP.mp a
  rw[fM (by omega),List.drop_append_of_le_length (by omega)]
  congr 1
  have:1<=(t.drop p).length:=by rw[cc];omega
  rw[fM this]
 ·simp
theorem zOc (o:Nat):pp o []=[]:=rfl
theorem zOd {o:Nat}{nm e:S}{c:Nat}(h:(e,[c])∈vQ o nm):∃l,(zY (e++[c]) o,l)∈vQ o nm:=by
 unfold vQ at h
 obtain⟨p,b,e1⟩:=av.mp h
 have d:p<nm.length+1:=bP.mp b
 have f:zY (nm.take p) o=e:=congrArg wA e1
 have a:(nm.drop p).take 1=[c]:=congrArg rO e1
 have hl:p<nm.length:=by
  by_cases h:p<nm.length
  ·exact h
  ·rw[dS (by omega)]at a;cases a
 have g:nm.take (p+1)=nm.take p++[c]:=by
  rw[<-a,<-sY]
 refine⟨(nm.drop (p+1)).take 1,?_⟩
 rw[<-f,zBV,<-g]
 exact av.mpr ⟨p+1,bP.mpr (by omega),rfl⟩
theorem zOe {o:Nat}{bk:List S}{e:S}{c:Nat}(h:(e,[c])∈zB o bk):∃l,(zY (e++[c]) o,l)∈zB o bk:=by
 obtain⟨nm,hn,a⟩:=bf.mp h
 obtain⟨l,hl⟩:=zOd a
 exact⟨l,bf.mpr ⟨nm,hn,hl⟩⟩
theorem zOf {o:Nat}{nm e l:S}(h:(e,l)∈vQ o nm):l.length<=1:=by
 unfold vQ at h
 obtain⟨p,_,e1⟩:=av.mp h
 have a:(nm.drop p).take 1=l:=congrArg rO e1
 rw[<-a,aO];omega
theorem gM {o:Nat}{bk:List S}{e l:S}(h:(e,l)∈zB o bk):l.length<=1:=by
 obtain⟨nm,hn,a⟩:=bf.mp h
 exact zOf a
theorem zAN {l:S}(h:l.length<=1)(hn:l≠[]):∃c,l=[c]:=by
 match l,h,hn with
 | [c],_,_=>exact⟨c,rfl⟩
noncomputable def mf (w l:S):Bool:=decide (l≠[])&& (decide (w=[])||decide (w=l))
noncomputable def zCM (nx:S->List S)(o:Nat)(ts:List S)(w:S):List S:=ts.flatMap fun t=>((nx (zY t o)).filter (mf w)).map (t++·)
noncomputable def Tx (nx:S->List S)(o:Nat)(pat:List S):List S:=pat.foldl (zCM nx o) [[]]
noncomputable def yB (w:Int)(q:Int×Int):Int:=w*q.1/q.2
theorem zOg {U a:Int}{m:Nat}{q:Int×Int}(b:q.2∣U)(e:0<q.2)(ha:U^(m+1)∣a):U^m∣yB a q:=by
 obtain⟨c,rfl⟩:=ha
 obtain⟨d,hd⟩:=b
 unfold yB
 refine⟨d*c*q.1,?_⟩
 refine Int.ediv_eq_of_eq_mul_right (by omega) ?_
 rw[pH]
 conv=>lhs;rw[hd]
 conv=>rhs;rw[hd]
 grind
theorem zOh {α:Type}{a:List (S×α)}{e:S}{v:α}{k:S}(h:k∈(zR a e v).map (·.1)):k∈a.map (·.1)\/k=e:=by
 rw[zHH]at h
 split at h
 ·exact .inl h
 ·rcases bz.mp h with z|z
  ·exact .inl z
  ·exact .inr (by simpa using z)
end Kn
end
section
namespace Kn
theorem uZ {α:Type} [DecidableEq α]:∀(l L:List α),l.Nodup->(∀x∈l,x∈L)->l.length<=L.length
 | [],L,_,_=>bo _
 |x::l,L,hn,b=>by
  have c:=b x (au ..)
  have e:=uZ l (L.erase x) (bp.mp hn).2 fun y d=>by
   have a:y≠x:=fun z=>(bp.mp hn).1 (by rw[<-z];exact d)
   exact(gh a).mpr (b y (aj _ d))
  rw[iq c]at e
  have f:0<L.length:=iP c
  rw[aJ];omega
theorem zOi {t:S}(h:t≠[]):∃u c,t=u++[c]:=by
 rcases iU t with z|⟨u,c,z⟩
 ·exact absurd z h
 ·exact⟨u,c,by simpa using z⟩
theorem zAt (nx:S->List S)(o:Nat)(pat:List S)(w:S):Tx nx o (pat++[w])=zCM nx o (Tx nx o pat) w:=by
 unfold Tx;rw[fj];rfl
structure Lts (ps:List (S×S)) (nx:S->List S):Prop where
 nd:∀e,(nx e).Nodup
 mem:∀e l,l∈nx e↔(e,l)∈ps
noncomputable def zAO (ps:List (S×S)):Prop:=∀e l,(e,l)∈ps->l.length<=1
theorem zHd {α β:Type}(g:α->List β):∀(L:List α),L.Nodup->(∀a∈L,(g a).Nodup)->(∀a∈L,∀b∈L,∀x,x∈g a->x∈g b->a=b)->(L.flatMap g).Nodup
 | [],_,_,_=>by simp
 |a::L,hn,h,i=>by
  rw[ft]
  refine fi.mpr ⟨h a (au ..),zHd g L (bp.mp hn).2 (fun b d=>h b (aj _ d)) (fun b d c j=>i b (aj _ d) c (aj _ j)),fun x l y m e=>?_⟩
  subst e
  obtain⟨b,d,f⟩:=bf.mp m
  have:=i a (au ..) b (aj _ d) x l f
  rw[this]at hn
  exact(bp.mp hn).1 d
theorem zDy {u v:S}{c d:Nat}(h:u++[c]=v++[d]):u=v/\c=d:=by
 have:=List.append_inj' h rfl
 exact⟨this.1,by simpa using this.2⟩
noncomputable def Wt (f:S->S->Int×Int)(o:Nat)(wt:Int)(t:S):Int:=(pp o t).foldl (fun w q=>yB w (f q.1 q.2)) wt
theorem zDz {U w:Int}{m:Nat}{q:Int×Int}(a:q.2∣U)(h:U^(m+1)∣w):yB w q*q.2=w*q.1:=by
 unfold yB
 refine oj (ja (ja a ?_) (ja h (Int.dvd_mul_right ..)))
 exact⟨U^m,by rw[pH,fm]⟩
theorem zHe {U w T:Int}{m:Nat}{q:Int×Int}(d:0<T)(g:0<=w)(c:Fq q)(j:q.2∣U)(h:U^(m+1)∣w):0<=yB w q/\low (yB w q) T=tms (low w T) q:=by
 have e:=zDz j h
 have f:=gJ g d
 have cr:=zAK (u:=w) d
 have i:0<=yB w q:=rf (rQ g c.up) (cY c.dn)
 refine⟨i,?_⟩
 unfold tms
 refine zNV i d (rQ f.up c.up) (lL f.dn c.dn) ?_
 generalize yB w q=a at e
 generalize low w T=b at cr
 grind
theorem zOj (ps a:List (S×S))(p:S×S):zCA ps (a++[p])=tms (zCA ps a) (zP ps p.1 p.2):=by
 unfold zCA;rw[fj];rfl
theorem zEA {ps:List (S×S)}{U T:Int}(i:0<T)(g:∀e l,(zP ps e l).2∣U):∀(d:List (S×S)) (m:Nat) (w:Int),0<=w->U^(m+d.length)∣w->0<=d.foldl (fun w q=>yB w (zP ps q.1 q.2)) w/\U^m∣d.foldl (fun w q=>yB w (zP ps q.1 q.2)) w/\
  low (d.foldl (fun w q=>yB w (zP ps q.1 q.2)) w) T=d.foldl (fun w p=>tms w (zP ps p.1 p.2)) (low w T)
 | [],m,w,h,hd=>⟨h,hd,rfl⟩
 |q::d,m,w,h,hd=>by
  have f:U^(m+d.length+1)∣w:=hd
  obtain⟨j,n⟩:=zHe i h (zAq ps q.1 q.2) (g q.1 q.2) f
  have o:=zOg (g q.1 q.2) (zAq ps q.1 q.2).dn f
  obtain⟨a,b,c⟩:=zEA i g d m (yB w (zP ps q.1 q.2)) j o
  refine⟨a,b,?_⟩
  rw[eY,eY,c,n]
noncomputable def Wn (ps:List (S×S))(o:Nat)(T:Int)(x:S):Int:=yB (Wt (zP ps) o T x) (zP ps (zY x o) [])
theorem zEB {ps:List (S×S)}{o:Nat}{U:Int}(f:0<U)(g:∀e l,(zP ps e l).2∣U){x:S}(j:x.length<=8):0<=Wn ps o (U^9) x/\low (Wn ps o (U^9) x) (U^9)=qE ps o x:=by
 have d:0<U^9:=gj f
 have hl:(pp o x).length=x.length:=by unfold pp;simp
 have hd:U^((8-x.length)+1+(pp o x).length)∣U^9:=by rw[hl,show(8-x.length)+1+x.length=9 by omega];exact tY _
 obtain⟨a,b,c⟩:=zEA d g (pp o x) (8-x.length+1) (U^9) (cY d) hd
 obtain⟨h,i⟩:=zHe d a (zAq ps (zY x o) []) (g _ _) b
 refine⟨h,?_⟩
 show low (yB _ _) _=_
 unfold qE
 rw[zCL,zOj]
 unfold Wt
 rw[i,c,zNZ d];rfl
theorem zHf {α:Type} [DecidableEq α] {l:List α}{a:α}(h:l.Nodup)(ha:a∈l):l.count a=1:=by
 have b:=List.nodup_iff_count.mp h a
 have c:=d9.mpr ha
 omega
theorem zOk {α:Type} [DecidableEq α] {l m:List α}(b:l.Nodup)(c:m.Nodup)(h:∀x,x∈l↔x∈m):l.Perm m:=by
 refine(List.perm_iff_count).mpr fun a=>?_
 by_cases ha:a∈l
 ·rw[zHf b ha,zHf c ((h a).mp ha)]
 ·rw[jh ha,jh fun z=>ha ((h a).mpr z)]
theorem zHg:∀{a b:S} (x y:S),a.length=b.length->a<b->a++x<b++y
 | [],[],x,y,_,h=>absurd h (iL _)
 |c::a,d::b,x,y,hl,h=>by
  rw[cu,cu]
  rw[List.cons_lt_cons_iff]at h⊢
  rcases h with h|⟨e,f⟩
  ·exact .inl h
  ·exact .inr ⟨e,zHg x y (by simpa using hl) f⟩
end Kn
end
section
namespace Kn.Ln
open PySem L2 Kn
theorem zOl {K:ag}{x z:Str}{t:Tok}(h:aY K mainGlobals x=some (some (.str z t))):∃t,aY K mainGlobals x=some (some (.str z t)):=⟨t,h⟩
noncomputable def zS (f:ao)(H H':Hp):Prop:=∀b u,b≠f->H b=some u->H' b=some u
theorem zS.refl {f:ao}(H:Hp):zS f H H:=fun b u _ h=>h
theorem zS.updf {f:ao}{H a:Hp}{u:HO}(s:zS f H a):zS f H (upd a f u):=fun b v c e=>by rw[zG c];exact s b v c e
theorem zS.trans {f:ao}{H c a:Hp}(s:zS f H c)(t:zS f c a):zS f H a:=fun b v d e=>t b v d (s b v d e)
theorem zS.of {f:ao}{H a:Hp}(s:zA H a):zS f H a:=fun b v _ e=>s b v e
theorem zS.seqT {K:ag}{f:ao}{H b:Hp}{a:ao}{xs:List V}(s:zS f H b)(hf:∀ys,¬Rd H f (.tup ys))(h:zX K H a xs):zX K b a xs:=by
 rcases h with h|h
 ·have c:a≠f:=fun z=>by subst z;exact hf _ h
  rcases h with h|⟨o,h⟩
  ·exact .inl (.inl (s _ _ c h))
  ·exact .inl (.inr ⟨o,s _ _ c h⟩)
 ·exact .inr h
theorem zS.frA {K:ag}{f:ao}{H b:Hp}{v:V}{q:Int×Int}(s:zS f H b)(hf:∀ys,¬Rd H f (.tup ys))(h:yZ K H v q):yZ K b v q:=by
 obtain⟨a,rfl,h⟩:=h
 exact⟨a,rfl,s.seqT hf h⟩
theorem zHh {H:Hp}{f:ao}{kvs:List (zL×V)}(h:H f=some (.dK kvs)):∀ys,¬Rd H f (.tup ys):=fun ys z=>by
 rcases z with z|⟨o,z⟩<;>rw[h]at z<;>cases z
noncomputable abbrev zU (ps:List (S×S))(e:S):List S:=(uB ps e).map (·.1)
theorem qP (ps:List (S×S))(e l:S):l∈zU ps e↔(e,l)∈ps:=by
 constructor
 ·intro h
  obtain⟨⟨a,n⟩,b,rfl⟩:=av.mp h
  obtain⟨c,d⟩:=(zDq ps e a n).mp b
  have f:0<ps.count (e,a):=by rw[c]at d;omega
  exact d9.mp f
 ·intro h
  exact av.mpr ⟨(l,(ps.count (e,l):Int)),(zDq ps e l _).mpr ⟨rfl,by have:=d9.mpr h;omega⟩,rfl⟩
theorem lts (ps:List (S×S)):Lts ps (zU ps):=⟨fun e=>zAs ps e,fun e l=>qP ps e l⟩
theorem j3 (o:Nat)(bk:List S):zAO (zB o bk):=fun e l h=>gM h
theorem zEC (ps:List (S×S))(e:S):(uB ps e).length<=ps.length:=by
 have a:=uZ (zU ps e) (ps.map (·.2)) (zAs _ _) fun l hl=>av.mpr ⟨_,(qP _ _ _).mp hl,rfl⟩
 rw[ah,ah]at a
 exact a
theorem zAu (x:S)(l:List S):qS (sv x) (zD l)=decide (x∈l):=by
 unfold qS zD
 rw[List.any_map]
 induction l with
 |nil=>simp
 |cons y l ih=>
  rw[fX,ih]
  have e:jW (sv y) (sv x)=decide (x=y):=by
   show((tx y)==(tx x))=_
   by_cases z:x=y
   ·subst z;simp
   ·rw[decide_eq_false z,beq_eq_false_iff_ne]
    exact fun q=>z (jJ q).symm
  show(jW (sv y) (sv x)||_)=_
  rw[e]
  by_cases z:x=y
  ·subst z;simp
  ·simp[z]
theorem zAv (l:List S):(zD l).all kI=true:=by
 unfold zD
 rw[pI]
 exact iY.mpr fun _ _=>rfl
theorem zBW {ys:St}(h:ys.length=1):∃y,ys=[y]:=by
 cases ys with
 | nil=>simp at h
 | cons q0 q1=>cases q1 with
  | nil=>exact⟨q0,rfl⟩
  | cons=>simp at h
noncomputable def kO (K:ag)(H:Hp)(pd:ao)(ps:List (S×S))(f:S->S->Int×Int)(r:S×ao×List (S×V)):Prop :=
 r.2.1≠pd/\H r.2.1=some (.dK (z5 id r.2.2))/\r.2.2.map (·.1)=zU ps r.1/\∀q∈r.2.2,yZ K H q.2 (f r.1 q.1)
noncomputable def kP (K:ag)(H:Hp)(pd:ao)(ps:List (S×S))(f:S->S->Int×Int):Prop:=∃pa:List (S×ao×List (S×V)),pa.map (·.1)=(uA ps).map (·.1)/\H pd=some (.dK (z5 (fun v:ao×List (S×V)=>V.ref v.1) pa))/\∀r∈pa,kO K H pd ps f r
theorem kO.same {K:ag}{H a:Hp}{b:ao}{ps:List (S×S)}{f:S->S->Int×Int}{r:S×ao×List (S×V)}(h:kO K H b ps f r)(e:zA H a):kO K a b ps f r :=
 ⟨h.1,e _ _ h.2.1,h.2.2.1,fun q c=>(h.2.2.2 q c).same e⟩
theorem kP.same {K:ag}{H a:Hp}{b:ao}{ps:List (S×S)}{f:S->S->Int×Int}(h:kP K H b ps f)(e:zA H a):kP K a b ps f:=by
 obtain⟨c,d,g,i⟩:=h
 exact⟨c,d,e _ _ g,fun r j=>(i r j).same e⟩
theorem kO.sameX {K:ag}{H b:Hp}{a:ao}{ps:List (S×S)}{f:S->S->Int×Int}{r:S×ao×List (S×V)}(h:kO K H a ps f r)(hd:∀ys,¬Rd H a (.tup ys))(e:zS a H b):kO K b a ps f r :=
 ⟨h.1,e _ _ h.1 h.2.1,h.2.2.1,fun q c=>e.frA hd (h.2.2.2 q c)⟩
theorem zHi {ps:List (S×S)}{a:List (S×ao×List (S×Int))}(h:a.map (fun r=>(r.1,r.2.2))=uA ps){r:S×ao×List (S×Int)}(b:r∈a):r.2.2=uB ps r.1:=by
 have c:(r.1,r.2.2)∈uA ps:=by rw[<-h];exact av.mpr ⟨r,b,rfl⟩
 have d:=(vF (vZ ps).nd _ _).mp c
 unfold uB
 rw[d];rfl
theorem zOm {ps:List (S×S)}:(uA ps).length<=ps.length:=by
 have a:=uZ ((uA ps).map (·.1)) (ps.map (·.1)) (vZ ps).nd fun e he=>by
  obtain⟨⟨b,row⟩,c,rfl⟩:=av.mp he
  obtain⟨l,hl⟩:=((vZ ps).has b).mp ⟨row,(vF (vZ ps).nd _ _).mp c⟩
  exact av.mpr ⟨_,hl,rfl⟩
 rw[ah,ah]at a
 exact a
theorem zOn {a:List (S×ao×List (S×Int))}{row:List (S×Int)}(h:z5 (fun v:ao×List (S×Int)=>V.ref v.1) a=yM row):a=[]:=by
 cases a with
 |nil=>rfl
 |cons r a=>
  cases row with
  |nil=>cases h
  |cons q row=>
   have b:=(wB h).1
   have c:V.ref r.2.1=V.int q.2:=(bY b).2
   cases c
theorem zHj {H:Hp}{d:ao}{a:List (S×ao×List (S×Int))}(hd:H d=some (.dK (z5 (fun v:ao×List (S×Int)=>V.ref v.1) a)))(c:∀r∈a,H r.2.1=some (.dK (yM r.2.2))):∀r∈a,r.2.1≠d:=fun r b z=>by
 have h:=c r b
 rw[z,hd]at h
 have:=zOn (HO.dK.inj (aB h))
 rw[this]at b;cases b
section
variable{P:aH}{w:aW}{K:ag}{mg:Str->Option ai}{base:bB}
noncomputable abbrev zED:cT:=top 36
theorem zOo:FnScope ["weight","part"] ["weight","part"] (defScope zED):=z9
noncomputable def zEE (K:ag):Sp:=fun vs H Q _=>∃(x:Int) (v:V) (q:Int×Int),vs=[.int x,v]/\yZ K H v q/\0<=q.1/\q.1<1000000/\0<q.2/\q.2<1000000/\Q (.int (yB x q)) H
theorem zOp {f:ao}{fd:aZ}(F:Fun K "left_of" "left_of" zED f fd):FnOk P w K mg base zZ 1 f fd ["weight","part"] (zEE K):=by
 refine F.ok zOo (fun vs H Q E h=>?_) (fun b A outer s H vs Q E d h=>?_)
 ·obtain⟨x,v,q,rfl,_⟩:=h;rfl
 ·obtain⟨x,v,q,rfl,⟨a,rfl,ha⟩,e,g,c,i,k⟩:=h
  refine⟨_,zK (z0 (zT zAb (zT jT (pv 0) (yH vX (pv 1) zN (fun _ _=>rfl))) (yH vX (pv 1) zN (fun _ _=>rfl)))),?_⟩
  exact⟨_,rfl,_,rfl,a,_,0,_,rfl,rfl,ha,rfl,_,_,rfl,rfl,.inr ⟨by omega,by omega⟩,_,rfl,a,_,1,_,rfl,rfl,ha,rfl,_,_,rfl,rfl,⟨c,by omega⟩,k⟩
noncomputable abbrev zEF:cT:=top 37
theorem zOq:FnScope ["letter","wanted"] ["letter","wanted"] (defScope zEF):=z9
noncomputable def zHk:Sp:=fun vs H Q _=>∃(l x:S),vs=[sv l,sv x]/\∀H',zA H H'->Q (.bl (mf x l)) H'
theorem zOr {f:ao}{fd:aZ}(F:Fun K "may_follow" "may_follow" zEF f fd)(a:∃t,mg "ANY"=some (.str "" t)):FnOk P w K mg base zZ 1 f fd ["letter","wanted"] zHk:=by
 obtain⟨u,a⟩:=a
 refine F.ok zOq (fun vs H Q E h=>?_) (fun g A outer s H vs Q E j h=>?_)
 ·obtain⟨x,v,rfl,_⟩:=h;rfl
 ·obtain⟨l,x,rfl,k⟩:=h
  refine⟨_,zK (z0 (zBh (jU gZ (pv 0) vL (yU _)) (zAW (jU zDA (pv 1) (uN (zC (yT (v:=.str "") (by rfl) a ⟨_,rfl⟩) (zC (pv 0) zE))) (by with_unfolding_all rfl))))),?_⟩
  refine⟨_,rfl,rfl,_,rfl,?_⟩
  by_cases hl:l=[]
  ·subst hl
   refine jX rfl ?_
   have e:mf x []=false:=by unfold mf;simp
   have:=k H (zA.refl H)
   rw[e]at this
   exact this
  ·have b:¬V.str (tx l)=V.str "" :=fun z=>hl (jJ (V.str.inj z))
   refine zHT b ⟨_,rfl,_,rfl,by show 2<=sizeLine;decide,fun p i=>⟨p,zD [[],l],rfl,.inr (.of zF),rfl,zAv _,?_⟩⟩
   have e:(if false=true then !qS (sv x) (zD [[],l])else qS (sv x) (zD [[],l]))=mf x l:=by
    rw[if_neg (by simp),zAu]
    unfold mf
    rw[decide_eq_true hl,Bool.true_and]
    by_cases c:x=[]
    ·subst c;simp
    ·by_cases d:x=l
     ·subst d;simp
     ·simp[c,d]
   show Q (.bl (if false=true then !qS (sv x) (zD [[],l])else qS (sv x) (zD [[],l]))) _
   rw[e]
   exact k _ (zA.upd1 i)
theorem zOs {row:List (S×Int)}{i:Nat}{x:V}(h:((yM row).map fun p=>kV p.1)[i]?=some x):∃(hi:i<row.length),x=sv row[i].1:=by
 unfold yM z5 vP at h
 rw[az,az,az]at h
 cases e:row[i]? with
 |none=>rw[e]at h;cases h
 |some q=>
  rw[e]at h
  obtain⟨hi,a⟩:=ak.mp e
  refine⟨hi,?_⟩
  rw[a]
  exact(aB h).symm
theorem zOt (a:List (S×V)):vP (a.map fun q=>(tx q.1,q.2))=z5 id a:=rfl
end
end Kn.Ln
end
section
namespace L2
open PySem PySem.Spec PyProof.Rows
section
variable{X:Cx}
noncomputable def zOu:V->List V->Hp->VK->Prop:=fun x vs H Q=>∃d kvs,x=.ref d/\vs=[]/\Rd H d (.dK kvs)/\∀p,H p=none->Q (.ref p) (upd H p (jE p d))
theorem zHl:MtM X "dict.values" zOu:=by
 intro c s σ H x vs v us Q I g i h
 obtain⟨d,kvs,rfl,rfl,hd,q⟩:=h
 cases g
 have a:=i.zero
 subst a
 obtain⟨z,j,ws,rel,f⟩:=uW I.hok hd
 refine iI ee f.typeIs lu (kr _) (pq (vJ X.prog X.w) d j) ⟨⟨_,f⟩,?_⟩
 refine⟨.ref s.heap.objs.size,_,I.laid (t':=s.toks) (o:=jE s.heap.objs.size d) (fun b o e=>ae _ e) (aA _) ?_,rfl,q _ (I.hok.fresh (aA _))⟩
 exact⟨aC _ rfl,⟨_,aC _ rfl⟩,fun l m e k=>k _ e⟩
theorem zHm (F:X.calm=true):uU X (.builtin "sum") (fun xs H Q=>∃(p d:ao) (a:List (zL×Int)),xs=[.ref p]/\H p=some (jE p d)/\Rd H d (.dK (a.map fun q=>(q.1,V.int q.2)))/\Q (.int (a.map (·.2)).sum) H):=by
 intro D s σ H xs us Q I r h
 obtain⟨p,d,a,rfl,G,hd,q⟩:=h
 obtain⟨u,rfl,J⟩:=uM r
 cases J
 obtain⟨z,m,ws,rel,L⟩:=uW I.hok hd
 obtain⟨hv,_,_⟩:=I.hok p _ G
 obtain⟨ep,c⟩:=L.dictAt
 have j:ws.length=a.length:=by have:=rel.length;simpa using this.symm
 have n:∀(i:Nat) (v:ai),(∃k,ws[i]?=some (k,v))->∃t,v=Value.int ((a.map (·.2)).getD i 0) t:=fun i v zq=>by
  obtain⟨k,e⟩:=zq
  obtain⟨x,e1,M⟩:=KV.get rel e
  rw[az]at e1
  cases g:a[i]? with
  |none=>rw[g]at e1;cases e1
  |some l=>
   rw[g]at e1
   have y:(l.1,V.int l.2)=(k,x):=aB e1
   have:x=V.int l.2:=(bY y).2.symm
   subst this
   obtain⟨t,rfl⟩:=M
   refine⟨t,?_⟩
   have:(a.map (·.2)).getD i 0=l.2:=by rw[bL,az,g];rfl
   rw[this]
 have E:=PySem.W.kdl_values (knd:=vJ X.prog X.w) (kvs:=ws) (ep:=ep) (r:=p) (d:=d)
 obtain⟨N,St,hit,W,st⟩:=E.iter X.A.in1 s (I.ok.hd F) ⟨⟨_,hv,rfl,rfl⟩,c⟩
 have B:=E.there s.heap ⟨⟨_,hv,rfl,rfl⟩,c⟩
 refine call_sum_walkAnyS (hit _ _ ⟨s.heap.objs.size,_,_,_,ws.length,_,_,fun i=>(a.map (·.2)).getD i 0,rfl,W.toS,st,fun b C=>?_,n,fun s' t' m=>?_⟩)
 ·show b<(s.heap.push N).objs.size
  rw[size_push']
  rcases aE.mp C with e|C
  ·rw[e];exact cQ _
  ·rw[aM.mp C];exact bH B.2
 have O:∀b o,s.heap.get? b=some o->s'.heap.get? b=some o:=fun b o e=>
  m.heap b o (fun P=>absurd (aD e) (by rw[aM.mp P];exact bI _)) (ae _ e)
 rw[sZ m]
 refine⟨.int (a.map (·.2)).sum,H,I.kept (h':=s'.heap) (t':=s'.toks) O,⟨t',?_⟩,q⟩
 rw[j,<-ah (f:=(·.2)) (as:=a),zGp _ _ (aA _),bw]
noncomputable def zOv (r:V->List V->Hp->VK->Prop)(to:TE):TE:=fun σ H Q=>to σ H fun x H1=>∃a,x=.ref a/\IsD H1 a/\r x [] H1 Q
theorem zHn {o:bF}{to:TE}{name:Str}{apos b:Pos}{id:String}{r:V->List V->Hp->VK->Prop}(slot:Slot "dict" name id)(g:typeOf (.builtin id)=pure (.type "method_descriptor"))(j:MtR X id r)(l:PE X o to)
  (e:attributeBase o name X.env (eval o X.env)=eval o X.env:=by rfl) (f:(apos.endLine==b.line)=true:=by rfl):PE X (.Call (.Attribute o name apos) [] [] b) (zOv r to):=by
 intro c s σ H Q I h
 refine lX e f (zH (l c s σ H _ I h) fun v m zq=>?_)
 obtain⟨x,n,i,p,a,ex,d,q⟩:=zq
 subst ex
 cases p
 obtain⟨t,u,_⟩:=zGQ i d
 exact⟨"dict",id,ck,slot,g,t,u,fP rfl (oa (j c m σ n (.ref a) [] _ [] Q i (show zQ (.ref a) (.ref a)from rfl) .nil q))⟩
noncomputable def zOw (tk tv:TE):TE:=fun σ H Q=>∀p,H p=none->tk σ (upd H p (.dK [])) fun x H1=>tv σ H1 fun y H2=>H2 p=some (.dK [])/\∃k:zL,x=kV k/\Q (.ref p) (upd H2 p (.dK [(k,y)]))
theorem zOx {k v:bF}{pos:Pos}{tk e:TE}(l:PE X k tk)(hv:PE X v e):PE X (.Dict [some k] [v] pos) (zOw tk e):=by
 intro b s σ H Q I q
 have hn:=I.hok.fresh (aA s.heap.objs.size)
 have m:=I.laid (a:=s.heap.objs.size) (o:=.dK []) (h':=s.heap.push {cls:=.type "dict",data:=.dict #[]}) (t':=s.toks) (fun _ _ q=>ae _ q) (aA _) (zGO s.heap I.big)
 have n:PPs X pos [some k] [v] [(tk,e)]:=zME l hv zMD
 refine wpAny_Dict_any rfl rfl (by simp) (by simp) (zH (n b _ σ _ (fun ps f=>match ps with| [(x,y)]=>f s.heap.objs.size=some (.dK [])/\∃kk:zL,x=kV kk/\Q (.ref s.heap.objs.size) (upd f s.heap.objs.size (.dK [(kk,y)]))|_=>False) m (q _ hn)) fun ws C zq=>?_)
 obtain⟨ps,f,h,rel,c⟩:=zq
 cases ps with
 | nil=>exact False.elim c
 | cons q0 q1=>
 cases q1 with
 | cons=>exact False.elim c
 | nil=>
  obtain⟨x,y⟩:=q0
  obtain⟨i,kk,ex,c⟩:=c
  cases rel with
  | @cons _ j _ p g r=>
  cases r
  obtain⟨D,j⟩:=j
  obtain⟨g,t⟩:=g
  subst ex
  obtain⟨z,hd,vs,rel,u⟩:=kK h.hok i
  cases rel
  unfold storeAll
  rw[eZ]
  refine af (af (og (knd:=vJ X.prog X.w) (hsz:=bo _) (zAC g) u (fun h' d A=>ar ?_)))
  show wpAny _ _ (forIn [] _ _) _ _ _
  rw[fD]
  refine ar ⟨.ref s.heap.objs.size,_,?_,rfl,c⟩
  have he:∃q,h'.get? s.heap.objs.size=some q:=let⟨q,_,_,B,_⟩:=d;⟨q,B⟩
  exact zBp h (by rw[i];exact True.intro) A he (zBq (by show 1<=sizeLine;decide) hd (KV.put .nil kk t) d)
end
end L2
end
section
namespace Kn.Ln
open PySem L2 Kn
noncomputable def uR (row:List (S×Int))(vv:List V):List (S×V):=(row.map (·.1)).zip vv
noncomputable def qU (row:List (S×Int))(vv:List V):List (Str×V):=(uR row vv).map fun q=>(tx q.1,q.2)
theorem zHo {row:List (S×Int)}{a:List V}(h:row.length=a.length):(uR row a).map (·.1)=row.map (·.1):=by
 unfold uR
 exact List.map_fst_zip (by rw[ah];omega)
theorem zOy {row:List (S×Int)}{a:List V}(h:row.length=a.length):(qU row a).map (·.1)=(row.map (·.1)).map tx:=by
 unfold qU
 rw[<-zHo h,bc,bc];rfl
theorem zHp {row:List (S×Int)}{a:List V}(h:row.length=a.length):(qU row a).length=row.length:=by
 unfold qU uR
 rw[ah,jn,ah];omega
theorem zHq {row:List (S×Int)}{b:List V}{m:Nat}{q:S×V}(h:(uR row b)[m]?=some q):∃(x:S×Int) (v:V),row[m]?=some x/\b[m]?=some v/\q=(x.1,v):=by
 unfold uR at h
 rw[gz]at h
 obtain⟨a,c⟩:=h
 rw[az]at a
 cases e:row[m]? with
 |none=>rw[e]at a;cases a
 |some x=>
  rw[e]at a
  exact⟨x,q.2,rfl,c,eI (aB a).symm rfl⟩
theorem zOz {row:List (S×Int)}{a:List V}{m:Nat}{q:Str×V}(h:(qU row a)[m]?=some q):∃(x:S×Int) (v:V),row[m]?=some x/\a[m]?=some v/\q=(tx x.1,v):=by
 unfold qU at h
 rw[az]at h
 cases e:(uR row a)[m]? with
 |none=>rw[e]at h;cases h
 |some r=>
  rw[e]at h
  obtain⟨x,v,b,c,rfl⟩:=zHq e
  exact⟨x,v,b,c,(aB h).symm⟩
theorem zPA {row:List (S×Int)}{a:List V}{q:S×V}(h:q∈uR row a):∃(m:Nat) (x:S×Int) (v:V),row[m]?=some x/\a[m]?=some v/\q=(x.1,v):=by
 obtain⟨m,b,e⟩:=c7 h
 obtain⟨x,v,c,d,f⟩:=zHq (ak.mpr ⟨b,e⟩)
 exact⟨m,x,v,c,d,f⟩
theorem zPB (row:List (S×Int))(a:List V):vP (qU row a)=vP ((uR row a).map fun q=>(tx q.1,q.2)):=rfl
section
variable{P:aH}{w:aW}{K:ag}{mg:Str->Option ai}{base:bB}
theorem zV.imp {k:Nat}{x:Str}{ps:List Str}{sp sp':Sp}(C:zV P w K mg base k x ps sp)(h:∀{vs H Q E},sp' vs H Q E->sp vs H Q E):zV P w K mg base k x ps sp' :=
 let⟨f,fd,F,r⟩:=C;⟨f,fd,F.imp fun _ _ _ _=>h,r⟩
noncomputable def zHr (K:ag):Sp:=fun vs H Q _=>∃(d:ao) (ps:List (S×S)) (e l:S),vs=[.ref d,sv l]/\Rd H d (.dK (yM (uB ps e)))/\ps.length<1000/\∀v H',zA H H'->yZ K H' v (zP ps e l)->Q v H'
theorem zPC {f:ao}{fd:aZ}(F:Fun K "part_in" "part_in" zDr f fd)(B:Blt mg)(C:Cst2 K mg)(r:zV P w K mg base 2 "lowest" ["up","down"] zDn):FnOk P w K mg base zZ 3 f fd ["row","letter"] (zHr K):=by
 obtain⟨j,t,u⟩:=C.nought
 refine F.ok zOE (fun vs H Q E h=>?_) (fun x A outer s H vs Q E m h=>?_)
 ·obtain⟨d,ps,e,l,rfl,_⟩:=h;rfl
 ·obtain⟨d,ps,e,l,rfl,hd,hl,k⟩:=h
  have n:=zAi m
  refine⟨_,zM (yR (zFU (zMB n (pv 1) (pv 0))) (zK (z0 (yT (v:=.ref j) (by rfl) t rfl))) yQ)
   (zK (z0 (zW r m rfl (zC (zAh n (pv 0) (pv 1) (fun _ _=>rfl)) (zC (yL (zHm rfl) (by rfl) B.sum nr (zC (zHn ee ir zHl (pv 0)) zE)) zE))))),?_⟩
  have a:vR H d (sv l) (vY (yM (uB ps e)) (Sum.inr (tx l))):=.inl ⟨_,Sum.inr (tx l),hd,rfl,rfl⟩
  refine⟨_,rfl,_,rfl,d,_,rfl,a,_,rfl,?_⟩
  rw[kN,zDp]
  by_cases c:0<ps.count (e,l)
  ·rw[if_pos c]
   refine vB ?_
   rw[kN,zDp,if_pos c]at a
   refine⟨_,rfl,_,rfl,d,.int (ps.count (e,l):Int),rfl,a,?_⟩
   refine⟨_,rfl,d,rfl,.inl ⟨_,hd⟩,d,_,rfl,rfl,hd,fun p y=>?_⟩
   have b:zA H (upd H p (jE p d)):=zA.upd1 y
   have g:Rd (upd H p (jE p d)) d (.dK (yM (uB ps e))):=by
    rcases hd with z|⟨o,z⟩
    ·exact .inl (b _ _ z)
    ·exact .inr ⟨o,b _ _ z⟩
   refine⟨p,d,(uB ps e).map (fun q=>((Sum.inr (tx q.1):zL),q.2)),rfl,zF,?_,?_⟩
   ·have e1:((uB ps e).map (fun q=>((Sum.inr (tx q.1):zL),q.2))).map (fun q=>(q.1,V.int q.2))=yM (uB ps e):=by
     unfold yM z5 vP
     rw[bc,bc];rfl
    rw[e1];exact g
   ·have e1:(((uB ps e).map fun q=>((Sum.inr (tx q.1):zL),q.2)).map (·.2)).sum=(tot ps e:Int):=by
     rw[bc];exact zHS ps e
    rw[e1]
    have D:=zAp ps e l
    have G:=tot_le ps e
    refine⟨_,_,rfl,by omega,by omega,by omega,fun I i=>k _ _ (b.trans (zA.upd1 i)) ?_⟩
    have:zP ps e l=low (ps.count (e,l):Int) (tot ps e:Int):=by unfold zP;rw[if_neg (by omega)]
    rw[this]
    exact yZ.new
  ·rw[if_neg c]
   refine qT ?_
   have:zP ps e l=(0,1):=by unfold zP;rw[if_pos (by omega)]
   exact k _ _ (zA.refl H) (by rw[this];exact⟨j,rfl,u _⟩)
noncomputable abbrev zEG:cT:=top 35
theorem zHs:FnScope ["rows","parts","end","row"] ["rows"] (defScope zEG):=z9
theorem zPD:(["row","letter"]:List Str).Nodup:=by decide+kernel
noncomputable def zHt (K:ag):Sp:=fun vs H Q _=>∃(d:ao) (ps:List (S×S)),vs=[.ref d]/\gK H d ps/\ps.length<900/\∀pd H',zA H H'->H pd=none->kP K H' pd ps (zP ps)->Q (.ref pd) H'
theorem zPE {f:ao}{fd:aZ}(F:Fun K "parts_by_rows" "parts_by_rows" zEG f fd)(cP:zV P w K mg base 3 "part_in" ["row","letter"] (zHr K))(hdi:mg "dict"=none):FnOk P w K mg base zZ 4 f fd ["rows"] (zHt K):=by
 refine F.ok zHs (fun vs H Q E h=>?_) (fun cdv A outer s H vs Q E hr h=>?_)
 ·obtain⟨d,ps,rfl,_⟩:=h;rfl
 ·obtain⟨d,ps,rfl,⟨ra,r1,r2,r3⟩,hps,k⟩:=h
  have hu:=zAi hr
  have nd:=zHs.nd
  refine⟨_,zM (yA (i:=1) nd rfl (Or.inl rfl) zBr)
   (zM (zBU (uL bR rfl (zCJ (zBT K rfl ck eg fJ zBu (pv 0)))
     (gU rfl (yY (z7 (i:=2) nd rfl (Or.inl rfl)) (yY (z7 (i:=3) nd rfl (Or.inr rfl)) qC)))
     (zK (zDE hu (pv 1) (pv 2) (zAA (zNC rfl) (by rfl) hdi tZ (zC
      (zOT (uD (N:=["row","letter"]) (caps:=[3]) rfl (v9 (by kernel_rfl)) (zOR (pv 3)) (fun cl X s H ex=>z7 (i:=1) zPD rfl (Or.inl rfl)) (fun cl X s H ex=>uO) (fun cl X s H ex=>uN (zC (pv 1) (zC (zW cP hr rfl (zC (pv 0) (zC (pv 1) zE))) zE))))) zE)) rfl))))
   (zK (z0 (pv 1)))),?_⟩
  intro pd hpd
  have sH1:zA H (upd H pd (.dK [])):=zA.upd1 hpd
  have hd1:=sH1 _ _ r2
  have hdpd:pd≠d:=(yF r2 hpd).symm
  refine⟨d,_,hd1,?_⟩
  refine⟨_,rfl,.inr (.inr (.inl ⟨rfl,.inl ⟨_,hd1⟩⟩)),d,_,rfl,rfl,hd1,fun p hp=>?_⟩
  have hp0:H p=none:=sH1.free hp
  have hppd:p≠pd:=fun z=>by subst z;rw[zF]at hp;cases hp
  have sH2:zA (upd H pd (.dK [])) (upd (upd H pd (.dK [])) p (VW p d)):=zA.upd1 hp
  refine⟨p,d,_,rfl,zF,sH2 _ _ hd1,fun ob=>?_⟩
  generalize hkv:z5 (fun v:ao×List (S×Int)=>V.ref v.1) ra=kvs at r2 hd1
  generalize hH3:upd (upd (upd H pd (.dK [])) p (VW p d)) d (.frz ob (.dK kvs))=H3
  have s3:zA (upd H d (.frz ob (.dK kvs))) H3:=fun b u e=>by
   rw[<-hH3]
   by_cases hb:b=d
   ·subst hb;rw[zF]at e⊢;exact e
   ·rw[zG hb]at e⊢
    exact sH2 _ _ (sH1 _ _ e)
  have hpd3:H3 pd=some (.dK (z5 (fun v:ao×List (S×V)=>V.ref v.1) [])):=by
   rw[<-hH3,zG hdpd,zG hppd.symm,zF];rfl
  have hpd0:upd H d (.frz ob (.dK kvs)) pd=none:=by rw[zG hdpd];exact hpd
  have rne:=zHj (by rw[hkv];exact r2) r3
  have ral:ra.length<=ps.length:=by
   have h1:=zOm (ps:=ps)
   rw[<-r1,ah]at h1;exact h1
  refine zCK (fun i σ H'=>(∃x2 x3:Option V,σ=[some (.ref d),some (.ref pd),x2,x3])/\zA (upd H d (.frz ob (.dK kvs))) H'/\∃pa:List (S×ao×List (S×V)),H' pd=some (.dK (z5 (fun v:ao×List (S×V)=>V.ref v.1) pa))/\pa.map (·.1)=(ra.take i).map (·.1)/\∀r∈pa,kO K H' pd ps (zP ps) r)
   ⟨⟨_,_,rfl⟩,s3,[],hpd3,rfl,fun r hr=>by cases hr⟩ (fun i σ H' _ h=>h.2.1 _ _ zF) ?_ ?_
  ·rintro i q T σ H' Nx hN hq ⟨⟨x2,x3,rfl⟩,sm,pa,hpa,hpk,hpr⟩ hT
   rw[<-hkv]at hq
   unfold z5 vP at hq
   rw[az,az]at hq
   cases ei:ra[i]? with
   |none=>rw[ei]at hq;cases hq
   |some r0=>
   rw[ei]at hq
   have hq2:q=(Sum.inr (tx r0.1),V.ref r0.2.1):=(aB hq).symm
   subst hq2
   have hmem:r0∈ra:=bg ei
   have hi:i<ra.length:=(ak.mp ei).1
   have etk:ra.take (i+1)=ra.take i++[r0]:=by rw[aF hi,(ak.mp ei).2]
   have hrow:=zHi r1 hmem
   have h0r:upd H d (.frz ob (.dK kvs)) r0.2.1=some (.dK (yM r0.2.2)):=by rw[zG (rne r0 hmem)];exact r3 r0 hmem
   refine⟨T,[sv r0.1,.ref r0.2.1],rfl,.of zF,rfl,_,_,rfl,_,_,rfl,rfl,?_⟩
   generalize hH4:upd H' T (HO.tup [kV ((Sum.inr (tx r0.1):zL),V.ref r0.2.1).1,((Sum.inr (tx r0.1):zL),V.ref r0.2.1).2])=H4
   have s4:zA H' H4:=by rw[<-hH4];exact zA.upd1 hT
   have hr4:H4 r0.2.1=some (.dK (yM r0.2.2)):=s4 _ _ (sm _ _ h0r)
   have sm4:=sm.trans s4
   have hpa4:=s4 _ _ hpa
   have hpr4:∀r∈pa,kO K H4 pd ps (zP ps) r:=fun r hr=>(hpr r hr).same s4
   have nrp:r0.2.1≠pd:=fun z=>by rw[z]at h0r;rw[hpd0]at h0r;cases h0r
   refine⟨r0.2.1,yM r0.2.2,hr4,_,rfl,r0.2.1,_,rfl,hr4,fun ob2=>?_⟩
   have hlen:((yM r0.2.2).map fun p=>kV p.1).length=r0.2.2.length:=by rw[ah];exact jK _ _
   have hl2:r0.2.2.length<=ps.length:=by rw[hrow];exact zEC ps r0.1
   have nh5:∀{H5:Hp} {ys:List V},zA (upd H4 r0.2.1 (.frz ob2 (.dK (yM r0.2.2)))) H5->Rd H5 r0.2.1 (.dK (yM (uB ps r0.1))):=fun{H5 ys} sj=>.inr ⟨ob2,by rw[<-hrow];exact sj _ _ zF⟩
   refine qK (zOO r0.2.1 ob2 (yM r0.2.2)) [some (.ref r0.2.1)] 1 (by rw[hlen];omega) (fun j acc H5=>zA (upd H4 r0.2.1 (.frz ob2 (.dK (yM r0.2.2)))) H5/\acc.length=j/\∃vv:List V,vv.length=j/\∀(m:Nat) (x:S×Int),(r0.2.2.take j)[m]?=some x->∃a v,acc[m]?=some (.ref a)/\vv[m]?=some v/\H5 a=some (.tup [sv x.1,v])/\yZ K H5 v (zP ps r0.1 x.1))
    ⟨zA.refl _,rfl,[],rfl,fun m x hm=>by simp at hm⟩ (fun j acc H5 _ h=>⟨h.1 _ _ zF,fN h.2.1⟩) ?_ ?_
   ·rintro j x acc H5 ys Nx2 hN2 hx hy ⟨sj,hal,vv,hvl,hac⟩
    obtain⟨y',rfl⟩:=zBW hy
    obtain⟨hj,rfl⟩:=zOs hx
    refine⟨_,rfl,_,rfl,_,rfl,r0.2.1,ps,r0.1,r0.2.2[j].1,rfl,nh5 (ys:=[]) sj,by omega,fun v H5b s5 hv=>?_⟩
    refine⟨by show 2<=sizeLine;decide,fun t ht=>?_⟩
    have s6:zA H5b (upd H5b t (.tup [sv r0.2.2[j].1,v])):=zA.upd1 ht
    refine hN2 _ _ [some (sv r0.2.2[j].1)] rfl ⟨(sj.trans s5).trans s6,by rw[aw,hal];rfl,vv++[v],by rw[aw,hvl];rfl,fun m x hm=>?_⟩
    rw[aF hj]at hm
    have hjl:(r0.2.2.take j).length=j:=by rw[aO];omega
    by_cases hmj:m<j
    ·rw[aS (by omega)]at hm
     obtain⟨a,u,h1,h2,h3,h4⟩:=hac m x hm
     exact⟨a,u,by rw[aS (by omega)];exact h1,by rw[aS (by omega)];exact h2,(s5.trans s6) _ _ h3,h4.same (s5.trans s6)⟩
    ·rw[aP (by omega),hjl]at hm
     have hm0:m-j=0:=by
      have:=(ak.mp hm).1
      simp at this;omega
     rw[hm0]at hm
     have hx2:r0.2.2[j]=x:=aB hm
     subst hx2
     exact⟨t,v,by rw[aP (by omega),hal,hm0];rfl,by rw[aP (by omega),hvl,hm0];rfl,zF,hv.same s6⟩
   ·rintro acc H5 ⟨sj,hal,vv,hvl,hac⟩ D hD
    rw[hlen,bw]at hac
    rw[hlen]at hal hvl
    have tfz5:∀ys,¬Rd H5 r0.2.1 (.tup ys):=fun ys z=>by
     have:=sj _ _ zF
     rcases z with z|⟨o,z⟩<;>rw[this]at z<;>cases z
    have hfz:H5 r0.2.1=some (.frz ob2 (.dK (yM r0.2.2))):=sj _ _ zF
    have hneD:r0.2.1≠D:=yF hfz hD
    have sD:zA H5 (upd H5 D (.lst acc)):=zA.upd1 hD
    refine⟨ob2,by rw[zG hneD];exact hfz,?_⟩
    have s7:zA H4 (upd (upd H5 D (.lst acc)) r0.2.1 (.dK (yM r0.2.2))):=zA.thaw (sj.trans sD) hr4
    generalize hH7:upd (upd H5 D (.lst acc)) r0.2.1 (.dK (yM r0.2.2))=H7 at s7
    have hD7:H7 D=some (.lst acc):=by rw[<-hH7,zG hneD.symm,zF]
    have sx7:zS r0.2.1 H5 H7:=by
     rw[<-hH7]
     exact(zS.of sD).trans (zS.refl _).updf
    have hac7:zDR K H7 acc (qU r0.2.2 vv):=by
     refine⟨by rw[zHp hvl.symm];exact hal,fun m x hm=>?_⟩
     obtain⟨x0,v0,em,ev,rfl⟩:=zOz hm
     obtain⟨a,v,h1,h2,h3,h4⟩:=hac m x0 em
     rw[ev]at h2
     cases h2
     have hna:a≠r0.2.1:=fun z=>by rw[z,hfz]at h3;cases h3
     exact⟨a,h1,.of (sx7 _ _ hna h3)⟩
    have hfr7:∀q∈uR r0.2.2 vv,yZ K H7 q.2 (zP ps r0.1 q.1):=fun q hq=>by
     obtain⟨m,x0,v0,em,ev,rfl⟩:=zPA hq
     obtain⟨a,v,h1,h2,h3,h4⟩:=hac m x0 em
     rw[ev]at h2
     cases h2
     exact sx7.frA tfz5 h4
    refine⟨D,acc,_,rfl,.of hD7,hac7,?_,by rw[zHp hvl.symm];omega,fun rd hrd=>?_⟩
    ·have hnd:(r0.2.2.map (·.1)).Nodup:=by rw[hrow];exact zAs ps r0.1
     have e:kz (·.1) (qU r0.2.2 vv)=(r0.2.2.map (·.1)).map tx:=zOy hvl.symm
     rw[e]
     exact pJ tx (fun a b hab z=>hab (jJ z)) hnd
    have s8:zA H7 (upd H7 rd (.dK (vP (qU r0.2.2 vv)))):=zA.upd1 hrd
    have hpa7:=s8 _ _ (s7 _ _ hpa4)
    refine⟨_,rfl,_,rfl,pd,_,rfl,zAE.k (k:=Sum.inr (tx r0.1)) hpa7 (by rw[jK,<-ah (f:=(·.1)),hpk,ah,aO,aL];omega),?_⟩
    have hnrd:pd≠rd:=yF (s7 _ _ hpa4) hrd
    have knd:(pa.map (·.1)).Nodup:=by
     rw[hpk,iu]
     have h:=(vZ ps).nd
     rw[<-r1,bc]at h
     exact h.sublist (fg _ _)
    have fresh:r0.1∉pa.map (·.1):=fun h1=>by
     rw[hpk]at h1
     have h:=(vZ ps).nd
     rw[<-r1,bc]at h
     have h2:((ra.take (i+1)).map (·.1)).Nodup:=by rw[iu];exact h.sublist (fg _ _)
     rw[etk,aU]at h2
     exact(fi.mp h2).2.2 _ h1 _ (by simp) rfl
    have eput:=zCE (fun v:ao×List (S×V)=>V.ref v.1) pa r0.1 (rd,uR r0.2.2 vv) knd
    have eputA:zR pa r0.1 (rd,uR r0.2.2 vv)=pa++[(r0.1,rd,uR r0.2.2 vv)]:=zCF pa _ _ fresh
    rw[eputA]at eput
    have sx:zS pd (upd H7 rd (.dK (vP (qU r0.2.2 vv)))) (upd (upd H7 rd (.dK (vP (qU r0.2.2 vv)))) pd (.dK (v8 (z5 (fun v:ao×List (S×V)=>V.ref v.1) pa) (Sum.inr (tx r0.1)) (V.ref rd)))):=(zS.refl _).updf
    refine hN _ _ ⟨⟨_,_,rfl⟩,fun b u e=>?_,pa++[(r0.1,rd,uR r0.2.2 vv)],?_,?_,fun r hr=>?_⟩
    ·have hb:b≠pd:=fun z=>by rw[z,hpd0]at e;cases e
     exact sx _ _ hb (s8 _ _ (s7 _ _ (sm4 _ _ e)))
    ·rw[zF]
     exact congrArg (fun z=>some (HO.dK z)) eput
    ·rw[aU,hpk,etk,aU];rfl
    ·rcases bz.mp hr with z|z
     ·exact(((hpr4 r z).same s7).same s8).sameX (zHh hpa7) sx
     ·have hr2:r=(r0.1,rd,uR r0.2.2 vv):=aM.mp z
      subst hr2
      refine⟨hnrd.symm,?_,?_,fun q hq=>?_⟩
      ·refine sx _ _ hnrd.symm ?_
       rw[zF,<-zOt,zPB]
      ·show kz (·.1) (uR r0.2.2 vv)=_
       rw[zHo hvl.symm,hrow]
      ·exact sx.frA (zHh hpa7) ((hfr7 q hq).same s8)
  ·rintro σ H' ⟨⟨x2,x3,rfl⟩,sm,pa,hpa,hpk,hpr⟩
   refine⟨ob,sm _ _ zF,_,rfl,?_⟩
   have sfin:zA H (upd H' d (.dK kvs)):=zA.thaw sm r2
   have hel:(z5 (fun v:ao×List (S×Int)=>V.ref v.1) ra).length=ra.length:=jK _ _
   rw[<-hkv,hel,bw]at hpk
   have tfz:∀ys,¬Rd H' d (.tup ys):=fun ys z=>by
    have:=sm _ _ zF
    rcases z with z|⟨o,z⟩<;>rw[this]at z<;>cases z
   refine k pd _ sfin hpd ⟨pa,?_,?_,fun r hr=>?_⟩
   ·rw[hpk,<-r1,bc];rfl
   ·rw[zG hdpd];exact hpa
   ·obtain⟨h1,h2,h3,h4⟩:=hpr r hr
    have hrd:r.2.1≠d:=fun z=>by
     rw[z]at h2
     rw[sm _ _ zF]at h2;cases h2
    have sx:zS d H' (upd H' d (.dK kvs)):=(zS.refl _).updf
    exact⟨h1,by rw[zG hrd];exact h2,h3,fun q hq=>sx.frA tfz (h4 q hq)⟩
end
theorem tots_le (ps:List (S×S)):∀a:List S,a.Nodup->(a.map (tot ps)).sum<=ps.length:=by
 induction ps with
 |nil=>
  intro a _
  have:∀a:List S,(a.map (tot [])).sum=0:=by
   intro a
   induction a with
   |nil=>rfl
   |cons e a ih=>rw[aQ,cp,ih];rfl
  rw[this];exact bo _
 |cons p ps ih=>
  intro a b
  have l:=ih a b
  have go:∀a:List S,a.Nodup->(a.map (tot (p::ps))).sum=(a.map (tot ps)).sum+(if p.1∈a then 1 else 0):=by
   intro a
   induction a with
   |nil=>intro _;rfl
   |cons e a d=>
    intro hn
    obtain⟨f,g⟩:=bp.mp hn
    rw[aQ,cp,d g,aQ,cp]
    have j:tot (p::ps) e=tot ps e+(if p.1=e then 1 else 0):=by
     unfold tot
     by_cases c:p.1=e
     ·rw[dJ (by simpa using c),if_pos c,aJ]
     ·rw[dM (by simpa using c),if_neg c,pE]
    rw[j]
    by_cases c:p.1=e
    ·have h:p.1∉a:=fun z=>f (c▸z)
     rw[if_pos c,if_neg h,if_pos (by rw[c];exact au ..)]
     omega
    ·rw[if_neg c]
     by_cases i:p.1∈a
     ·rw[if_pos i,if_pos (aj _ i)];omega
     ·rw[if_neg i,if_neg (fun z=>by rcases aE.mp z with z|z<;>contradiction)];omega
  rw[go a b,aJ]
  split<;>omega
theorem zPF {ps:List (S×S)}{U:Int}(h:∀e,(∃l,(e,l)∈ps)->(tot ps e:Int)∣U)(e l:S):(zP ps e l).2∣U:=by
 unfold zP
 by_cases c:ps.count (e,l)=0
 ·rw[if_pos c];exact Int.one_dvd _
 ·rw[if_neg c]
  have a:(e,l)∈ps:=d9.mp (by omega)
  refine ja ?_ (h e ⟨l,a⟩)
  show(tot ps e:Int)/yC (ps.count (e,l):Int) (tot ps e:Int)∣_
  have b:yC (ps.count (e,l):Int) (tot ps e:Int)∣ (tot ps e:Int):=fk ..
  exact⟨yC (ps.count (e,l):Int) (tot ps e:Int),(oj b).symm⟩
section
variable{P:aH}{w:aW}{K:ag}{mg:Str->Option ai}{base:bB}
noncomputable abbrev sCM:cT:=top 33
theorem zPG:FnScope ["one","other"] ["one","other"] (defScope sCM):=z9
noncomputable def zHu:Sp:=fun vs H Q _=>∃u d:Int,vs=[.int u,.int d]/\0<=u/\0<d/\d<1073741824/\Q (.int (u/yC u d*d)) H
theorem zPH {f:ao}{fd:aZ}(F:Fun K "common_multiple" "common_multiple" sCM f fd)(b:zV P w K mg base 1 "greatest_divisor" ["one","other"] zDl):FnOk P w K mg base zZ 2 f fd ["one","other"] zHu:=by
 refine F.ok zPG (fun vs H Q E h=>?_) (fun c A outer s H vs Q E e h=>?_)
 ·obtain⟨u,d,rfl,_⟩:=h;rfl
 ·obtain⟨u,d,rfl,g,a,i,k⟩:=h
  refine⟨_,zK (z0 (zT jT (zT zAb (pv 0) (zW b e rfl (zC (pv 0) (zC (pv 1) zE)))) (pv 1))),?_⟩
  have g1:=zBR (u:=u) a
  have g2:yC u d<=d:=tj a (fk ..)
  exact⟨_,rfl,_,rfl,_,rfl,u,d,rfl,g,a,i,_,_,rfl,rfl,⟨g1,by omega⟩,_,rfl,_,_,rfl,rfl,.inr ⟨by omega,by omega⟩,k⟩
theorem zPI {u d:Int}(g:0<u)(hd:0<d):0<u/yC u d*d/\u∣u/yC u d*d/\d∣u/yC u d*d/\u/yC u d*d<=u*d:=by
 have g1:=zBR (u:=u) hd
 obtain⟨a,ha⟩:yC u d∣u:=mm ..
 obtain⟨b,f⟩:yC u d∣d:=fk ..
 have e1:u/yC u d=a:=by
  have:u/yC u d=(yC u d*a)/yC u d:=by rw[<-ha]
  rw[this];exact Int.mul_ediv_cancel_left _ (by omega)
 rw[e1]
 have e:0<a:=by
  by_cases c:0<a
  ·exact c
  ·have:yC u d*a<=0:=Int.mul_nonpos_of_nonneg_of_nonpos (by omega) (by omega)
   omega
 refine⟨lL e hd,⟨b,?_⟩,⟨a,fm ..⟩,?_⟩
 ·calc a*d=a*(yC u d*b):=by rw[<-f]
   _=(yC u d*a)*b:=by rw[<-ip,fm a]
   _=u*b:=by rw[<-ha]
 ·refine d8 ?_ (by omega)
  have:1*a<=yC u d*a:=d8 (by omega) (by omega)
  omega
noncomputable abbrev sWW:cT:=top 34
theorem zHv:FnScope ["rows","unit","row"] ["rows"] (defScope sWW):=z9
noncomputable def zHw:Sp:=fun vs H Q _=>∃(d:ao) (ps:List (S×S)),vs=[.ref d]/\gK H d ps/\ps.length<=60/\∀U H',zA H H'->0<U->(∀e l,(zP ps e l).2∣U)->U<=2^60->Q (.int (U^9)) H'
theorem zPJ (t:Nat)(h:0<t):(t:Int)<=2^t:=by
 have a:t<2^t:=Nat.lt_two_pow_self
 have b:((2^t:Nat):Int)=(2:Int)^t:=by simp
 omega
theorem zPK {f:ao}{fd:aZ}(F:Fun K "whole_weight" "whole_weight" sWW f fd)(B:Blt mg)(c1:zV P w K mg base 2 "common_multiple" ["one","other"] zHu):FnOk P w K mg base zZ 3 f fd ["rows"] zHw:=by
 refine F.ok zHv (fun vs H Q E h=>?_) (fun am A outer s H vs Q E m h=>?_)
 ·obtain⟨d,ps,rfl,_⟩:=h;rfl
 ·obtain⟨d,ps,rfl,⟨c,R,n,r3⟩,an,k⟩:=h
  have hu:=zAi m
  have nd:=zHv.nd
  refine⟨_,zM (yA (i:=1) nd rfl (Or.inl rfl) zN)
   (zM (zBU (uL bR rfl (zOa (zBT K rfl ck ee ir zMW (pv 0))) (z7 (i:=2) nd rfl (Or.inl rfl))
     (zK (yA (i:=1) nd rfl (Or.inl rfl) (zW c1 m rfl (zC (pv 1) (zC (yL (zHm rfl) (by rfl) B.sum nr (zC (zHn ee ir zHl (pv 2)) zE)) zE)))))))
   (zK (z0 (zT zKm (pv 1) zN)))),?_⟩
  refine⟨d,_,n,?_⟩
  refine⟨_,rfl,.inr (.inr (.inl ⟨rfl,.inl ⟨_,n⟩⟩)),d,_,rfl,rfl,n,fun p hp=>?_⟩
  have G:zA H (upd H p (jE p d)):=zA.upd1 hp
  refine⟨p,d,_,rfl,zF,G _ _ n,fun I=>?_⟩
  have X:=zHj n r3
  generalize J:z5 (fun v:ao×List (S×Int)=>V.ref v.1) c=kvs at n
  have s3:zA (upd H d (.frz I (.dK kvs))) (upd (upd H p (jE p d)) d (.frz I (.dK kvs))):=fun b u e=>by
   by_cases T:b=d
   ·subst T;rw[zF]at e⊢;exact e
   ·rw[zG T]at e⊢
    exact G _ _ e
  have knd:(c.map (·.1)).Nodup:=by
   have h:=(vZ ps).nd
   rw[<-R,bc]at h
   exact h
  refine jG (zOX d I kvs) (fun i σ o=>(∃(U:Int) (Y:Option V),σ=[some (.ref d),some (.int U),Y]/\0<U/\(∀r∈c.take i,(tot ps r.1:Int)∣U)/\U<=2^(((c.take i).map (·.1)).map (tot ps)).sum)/\zA (upd H d (.frz I (.dK kvs))) o)
   ⟨⟨1,_,rfl,by decide,fun r m=>(by cases m),by simp⟩,s3⟩ (fun i σ o _ h=>h.2 _ _ zF) ?_ ?_
  ·rintro i x σ o Nx hN t ⟨⟨U,Y,rfl,y,j,C⟩,L⟩
   rw[<-J]at t
   unfold z5 vP at t
   rw[az,az,az]at t
   cases M:c[i]? with
   |none=>rw[M]at t;cases t
   |some a=>
   rw[M]at t
   have hx2:x=V.ref a.2.1:=(aB t).symm
   subst hx2
   have g:a∈c:=bg M
   have hi:i<c.length:=(ak.mp M).1
   have N:c.take (i+1)=c.take i++[a]:=by rw[aF hi,(ak.mp M).2]
   have O:=zHi R g
   have D:o a.2.1=some (.dK (yM a.2.2)):=L _ _ (by rw[zG (X a g)];exact r3 a g)
   refine⟨_,rfl,_,rfl,a.2.1,rfl,.inl ⟨_,.inl D⟩,a.2.1,_,rfl,rfl,.inl D,fun Z aa=>?_⟩
   have s5:zA o (upd o Z (jE Z a.2.1)):=zA.upd1 aa
   refine⟨Z,a.2.1,a.2.2.map (fun q=>((Sum.inr (tx q.1):zL),q.2)),rfl,zF,.inl ?_,?_⟩
   ·rw[s5 _ _ D]
    unfold yM z5 vP
    rw[bc,bc];rfl
   ·have e1:((a.2.2.map fun q=>((Sum.inr (tx q.1):zL),q.2)).map (·.2)).sum=(tot ps a.1:Int):=by
     rw[bc,O];exact zHS ps a.1
    rw[e1]
    have ab:0<tot ps a.1:=by
     obtain⟨l,hl⟩:=((vZ ps).has a.1).mp ⟨a.2.2,(vF (vZ ps).nd _ _).mp (by rw[<-R];exact av.mpr ⟨a,g,rfl⟩)⟩
     have h1:=zAp ps a.1 l
     have h2:=d9.mpr hl
     omega
    have ap:tot ps a.1<=ps.length:=cI ..
    obtain⟨q1,q2,q3,q4⟩:=zPI y (d:=(tot ps a.1:Int)) (by omega)
    refine⟨U,(tot ps a.1:Int),rfl,by omega,by omega,by omega,hN _ _ ⟨⟨_,_,rfl,q1,fun r m=>?_,?_⟩,L.trans s5⟩⟩
    ·rw[N]at m
     rcases bz.mp m with z|z
     ·exact ja (j r z) q2
     ·rw[aM.mp z];exact q3
    ·rw[N,aU,aU,qv,uz]
     refine Int.le_trans q4 ?_
     have h2:=zPJ (tot ps a.1) ab
     have e2:(kz (tot ps) (kz (·.1) [a])).sum=tot ps a.1:=by simp
     rw[e2]
     exact rR C h2 (by omega) (Int.pow_nonneg (by decide))
  ·rintro σ o ⟨⟨U,Y,rfl,y,j,C⟩,L⟩
   have ac:(kvs.map fun p=>p.2).length=c.length:=by rw[ah,<-J];exact jK _ _
   rw[ac,bw]at j C
   have T:U<=2^60:=by
    have h1:=tots_le ps (c.map (·.1)) knd
    have W:2^((c.map (·.1)).map (tot ps)).sum<=2^60:=nP (by decide) (by omega)
    have h4:((2^((c.map (·.1)).map (tot ps)).sum:Nat):Int)=(2:Int)^((c.map (·.1)).map (tot ps)).sum:=by simp
    have h5:((2^60:Nat):Int)=(2:Int)^60:=by simp
    have h2:(2:Int)^((c.map (·.1)).map (tot ps)).sum<=2^60:=by rw[<-h4,<-h5];exact t9.mpr W
    omega
   refine⟨I,L _ _ zF,_,rfl,_,_,rfl,rfl,⟨by decide,by decide,by omega⟩,?_⟩
   refine k U _ (zA.thaw L n) y (zPF fun e zq=>?_) T
   obtain⟨l,hl⟩:=zq
   obtain⟨row,al⟩:=((vZ ps).has e).mpr ⟨l,hl⟩
   have W:=(vF (vZ ps).nd _ _).mpr al
   rw[<-R]at W
   obtain⟨r,hr1,hr2⟩:=av.mp W
   have he:r.1=e:=(bY hr2).1
   rw[<-he]
   exact j r hr1
end
theorem zHx {bk:List S}{o:Nat}(a:Bk bk o):(zB o bk).length<=72:=by
 have b:((zB o bk).length:Int)<=72:=by
  rw[zBz]
  have go:∀l:List S,(∀x∈l,x.length<=8)->(l.map fun x=>(x.length:Int)+1).sum<=9*(l.length:Int):=by
   intro l
   induction l with
   |nil=>intro _;simp
   |cons x r ih=>
    intro hl
    have d:=hl x (au ..)
    have b:=ih fun y c=>hl y (aj _ c)
    rw[aQ,cp,aJ]
    have:((r.length+1:Nat):Int)=(r.length:Int)+1:=rfl
    omega
  have:=go bk a.l8
  have:=a.hi
  omega
 omega
theorem zPL {o:Nat}{bk:List S}{e l:S}(h:(e,l)∈zB o bk):e.length<=o:=by
 obtain⟨x,_,h⟩:=bf.mp h
 obtain⟨p,_,h⟩:=av.mp h
 rw[<- (bY h).1]
 exact zNT _ _
noncomputable def Smf (f:S->S->Int×Int):Prop:=∀e l,0<=(f e l).1/\(f e l).1<1000000/\0<(f e l).2/\(f e l).2<1000000
theorem kP.row {K:ag}{H:Hp}{a:ao}{ps:List (S×S)}{f:S->S->Int×Int}(h:kP K H a ps f){e l:S}(hl:(e,l)∈ps) :
  ∃(b:ao) (c:List (S×V)),vR H a (sv e) (some (.ref b))/\b≠a/\H b=some (.dK (z5 id c))/\c.map (·.1)=zU ps e/\∀q∈c,yZ K H q.2 (f e q.1):=by
 obtain⟨g,i,m,n⟩:=h
 have knd:(g.map (·.1)).Nodup:=by rw[i];exact(vZ ps).nd
 obtain⟨row,d⟩:=((vZ ps).has e).mpr ⟨l,hl⟩
 have o:e∈g.map (·.1):=by rw[i];exact av.mpr ⟨_,(vF (vZ ps).nd _ _).mpr d,rfl⟩
 obtain⟨r,j,rfl⟩:=av.mp o
 obtain⟨g1,g2,g3,p⟩:=n r j
 refine⟨r.2.1,r.2.2,?_,g1,g2,g3,p⟩
 have:=vR.k (k:=Sum.inr (tx r.1)) m
 rw[kN,(vF knd r.1 r.2).mp j]at this
 exact this
theorem zBX {ys:St}(h:ys.length=2):∃y z,ys=[y,z]:=by
 cases ys with
 | nil=>simp at h
 | cons q0 q1=>cases q1 with
  | nil=>simp at h
  | cons q2 q3=>cases q3 with
   | nil=>exact⟨q0,q2,rfl⟩
   | cons=>simp at h
theorem zPM {o:Nat}{bk:List S}(a:Bk bk o):∃l,(([]:S),l)∈zB o bk:=by
 have b:=a.lo
 match bk,b with
 |x::bk,_=>
  refine⟨(x.drop 0).take 1,bf.mpr ⟨x,au ..,av.mpr ⟨0,bP.mpr (by omega),?_⟩⟩⟩
  rw[nM]
  have:zY ([]:S) o=[]:=by unfold zY;simp
  rw[this]
structure FunC (K:ag) (x qual:Str) (st:cT) (f:ao) (fd:aZ) (c:ao):Prop where
 ex:∃(oc:ai) (od:Option ao) (kV doc pm:ai) (an:Option ao) (ct:ai) (osl:Array (Option ai)),
  fd=c8 x qual (defArgs st) (defBody st) (defScope st) .none kV doc pm an (.ref c) ct/\K.lookup f=some ⟨oc,od,.func fd,osl⟩/\ef K (.ref c) qual=true
 kp:cy K (.ref f)=true
theorem FunC.fn {K:ag}{x a:Str}{st:cT}{f c:ao}{fd:aZ}(F:FunC K x a st f fd c):Fun K x a st f fd:=by
 obtain⟨oc,od,kV,b,pm,g,ct,d,e,l,h⟩:=F.ex
 exact⟨⟨oc,od,kV,b,pm,g,.ref c,ct,d,e,l,h⟩,F.kp⟩
theorem zHy {K:ag}{x a:Str}{st:cT}{f c:ao}{oc:ai}{od e:Option ao}{d:Array (Option ai)}{kV b pm ct:ai}(l:K.lookup f=some ⟨oc,od,.func (c8 x a (defArgs st) (defBody st) (defScope st) .none kV b pm e (.ref c) ct),d⟩)
  (h:ef K (.ref c) a=true) (k:cy K (.ref f)=true):FunC K x a st f (c8 x a (defArgs st) (defBody st) (defScope st) .none kV b pm e (.ref c) ct) c:=⟨⟨oc,od,kV,b,pm,e,ct,d,rfl,l,h⟩,k⟩
noncomputable def v2 (K:ag)(H:Hp)(l:ao)(ps:List (Int×S)):Prop:=∃ts:List V,H l=some (.lst ts)/\ts.length=ps.length/\∀(i:Nat) (p:Int×S),ps[i]?=some p->∃a,ts[i]?=some (.ref a)/\zX K H a [.int p.1,sv p.2]
noncomputable def yW (p q:Int×S):Prop:=uY (-p.1,tx p.2) (-q.1,tx q.2)=true
noncomputable def zAw (ps rs:List (Int×S)):Prop:=rs.Perm ps/\rs.Pairwise yW
noncomputable def jL (ps:List (Int×S)):List (Int×Str):=ps.map fun p=>(p.1,tx p.2)
theorem zPN {ps:List (Int×S)}(h:ps.Nodup):(jL ps).Nodup:=by
 unfold jL
 rw[dq,bD]
 refine h.imp fun{a b} n e=>n ?_
 obtain⟨e1,c⟩:=bY e
 exact eI e1 (jJ c)
theorem zPO {ps:List (Int×S)}{pm:List Nat}(a:pm.Perm (bu ps.length))(c:pm.Pairwise (fun i j=>jH (jI (jL ps)) i j=true)):zAw ps (pm.map fun i=>ps.getD i (0,[])):=by
 have d:(bu ps.length).map (fun i=>ps.getD i (0,[]))=ps:=by
  apply i0
  ·simp
  ·intro i h _
   simp at h
   simp[h]
 refine⟨by have:=a.map (fun i=>ps.getD i (0,[]));rw[d]at this;exact this,?_⟩
 rw[bD]
 have b:∀i∈pm,i<ps.length:=fun i hi=>bP.mp (a.mem_iff.mp hi)
 have key:∀i,i<ps.length->(jI (jL ps)).getD i (0,⟨#[]⟩)=(-(ps.getD i (0,[])).1,tx (ps.getD i (0,[])).2):=fun i hi=>by
  have e1:ps[i]?=some ps[i]:=ay hi
  unfold jI jL
  rw[bL,bL,az,az,e1]
  rfl
 refine cb ?_ c
 intro i j hi e h
 unfold jH at h
 rw[key i (b i hi),key j (b j e)]at h
 exact h
theorem zPP (xs:List V)(n:Nat):vN xs none (some (n:Int))=xs.take n:=by
 unfold vN
 rw[HT.sIx_nat]
 show(xs.drop 0).take (min n xs.length-0)=_
 rw[eM,gu,<-f9]
theorem vU {T:ao}{a:Pos}{q:Str}{H b:Hp}(h:gH T a q H)(e:zA H b):gH T a q b:=by
 rcases h with h|⟨c,oc,u,vs,t,d,f,g⟩
 ·exact .inl (e _ _ h)
 ·exact .inr ⟨c,oc,u,vs,t,e _ _ d,e _ _ f,g⟩
theorem kR {T:ao}{a:Pos}{q:Str}{H:Hp}(h:gH T a q H):∃ps,H T=some (.tbl ps):=by
 rcases h with h|⟨c,oc,u,vs,t,b,d,e⟩
 ·exact⟨_,h⟩
 ·exact⟨_,b⟩
theorem zBY {T:ao}{a:Pos}{q:Str}{H:Hp}(h:gH T a q H):∀ys,¬Rd H T (.tup ys):=by
 obtain⟨ps,h⟩:=kR h
 rintro ys (z|⟨o,z⟩)
 ·rw[h]at z;cases z
 ·rw[h]at z;cases z
section
variable{P:aH}{w:aW}{K:ag}{mg:Str->Option ai}{base:bB}
theorem FunC.ok {x a:Str}{st:cT}{f c:ao}{fd:aZ}{N ps:List Str}{k:Nat}{sp:Sp}(F:FunC K x a st f fd c)(S:FnScope N ps (defScope st))(len:∀vs H Q E,sp vs H Q E->vs.length=ps.length)
  (b:∀(A:bK) (outer:List Env) (s:aq) (H:Hp) (vs:List V) (Q:VK) (E:XK),Room k (A.deeper (vn a (defScope st) s.heap.objs.size f (.ref c)))->sp vs H Q E->
   ∃t,qA (g9 zZ P w K mg base N a (defScope st) f (.ref c) A outer s H E).nox (defBody st) t/\t {nx:=fun _ g=>Q .non g,rt:=Q} (start N vs) H):FnOk P w K mg base zZ (k+1) f fd ps sp:=by
 obtain⟨oc,od,kV,i,pm,m,ct,j,rfl,lk,d⟩:=F.ex
 refine zFt lk d S len fun A outer s H vs Q E l e=>?_
 obtain⟨t,h,q⟩:=b A outer s H vs Q E l e
 exact⟨t,h.nox,q⟩
noncomputable abbrev sHv:cT:=top 38
theorem zPQ:FnScope ["pairs","many"] ["pairs","many"] (defScope sHv):=z9
noncomputable def zPR (st:cT):Pos:=match defBody st with
 | [.Return (some (.Subscript (.Call _ _ [⟨_,.Lambda _ _ _ p,_⟩] _) _ _)) _]=>p
 |_=>⟨0,0,0,0⟩
noncomputable def zPS:Str:=("heaviest" : Str)++(".<locals>." : Str)++("<lambda>" : Str)
noncomputable abbrev y0 (T:ao)(H:Hp):Prop:=gH T (zPR sHv) zPS H
noncomputable def zCN (K:ag)(T:ao):Sp:=fun vs H Q _=>∃(l:ao) (ps:List (Int×S)) (n:Nat),vs=[.ref l,.int n]/\v2 K H l ps/\ps.Nodup/\ps.length<64/\n<=1000/\y0 T H/\
 ∀D H' rs,zS T H H'->y0 T H'->H D=none->zAw ps rs->v2 K H' D (rs.take n)->Q (.ref D) H'
theorem zPT {f c T:ao}{fd:aZ}(F:FunC K "heaviest" "heaviest" sHv f fd c)(B:Blt mg)(L:LamBase mg base c T)(t:mg "sorted"=none) :
  FnOk P w K mg base zZ 1 f fd ["pairs","many"] (zCN K T):=by
 refine F.ok zPQ (fun vs H Q E h=>?_) (fun A outer s H vs Q E hr h=>?_)
 ·obtain⟨l,ps,n,rfl,_⟩:=h;rfl
 ·obtain⟨l,ps,n,rfl,⟨g,hl,hn,R⟩,nd,v,aa,tab,k⟩:=h
  refine⟨_,zK (z0 (kH zBl (zNL (x :="pair") (c:=c) (P:=T) (by rfl) t hr.depth rfl L (zC (pv 0) zE) (by decide) (fun _ _ _ _ _=>rfl)) jC (qJ (pv 1)))),?_⟩
  refine⟨_,rfl,l,g,jL ps,rfl,.inl (.of hl),by unfold jL;rw[ah];exact hn,fun i p hi=>?_,zPN nd,by unfold jL;rw[ah];exact v,tab,fun pm D y C h2 U tb hD ab ac=>?_⟩
  ·unfold jL at hi
   rw[az]at hi
   cases G:ps[i]? with
   |none=>rw[G]at hi;cases hi
   |some m=>
    rw[G]at hi
    have:p=(m.1,tx m.2):=(aB hi).symm
    subst this
    exact R i m G
  have I:(jL ps).length=ps.length:=by unfold jL;rw[ah]
  rw[I]at C
  refine⟨_,rfl,n,rfl,D,_,rfl,.inl (.of zF),fun p d=>?_⟩
  have o:zA y (upd y D (.lst (pm.map fun i=>g.getD i .non))):=zA.upd1 hD
  generalize upd y D (.lst (pm.map fun i=>g.getD i .non))=r at d o
  have J:zA r (upd r p (.lst (vN (pm.map fun i=>g.getD i .non) none (some (n:Int))))):=zA.upd1 d
  have W:upd r p (.lst (vN (pm.map fun i=>g.getD i .non) none (some (n:Int)))) p=some (.lst ((pm.map fun i=>g.getD i .non).take n)):=by rw[zF,zPP]
  generalize upd r p (.lst (vN (pm.map fun i=>g.getD i .non) none (some (n:Int))))=X at J W
  have Y:zS T H X:=zS.trans (fun b u hb e=>U b u hb e) (zS.of (o.trans J))
  have M:H p=none:=by
   cases z:H p with
   |none=>rfl
   |some u=>
    exfalso
    by_cases q:p=T
    ·obtain⟨qs,hq⟩:=kR (vU tb o)
     rw[q,hq]at d;cases d
    ·rw[o _ _ (U p u q z)]at d;cases d
  refine k p X _ Y (vU tb (o.trans J)) M (zPO C h2) ⟨_,W,by rw[aO,aO,ah,ah],fun i m hi=>?_⟩
  rw[List.getElem?_take]at hi⊢
  split at hi
  ·rename_i N
   rw[if_pos N]
   rw[az]at hi⊢
   cases O:pm[i]? with
   |none=>rw[O]at hi;cases hi
   |some j=>
    rw[O]at hi
    have Z:j<ps.length:=bP.mp (C.mem_iff.mp (bg O))
    have e0:m=ps[j]:=by
     have:ps.getD j (0,[])=m:=aB hi
     rw[<-this];simp[Z]
    obtain⟨a,a1,a2⟩:=R j m (by rw[e0];exact ay Z)
    refine⟨a,?_,Y.seqT (zBY tab) a2⟩
    show some (g.getD j V.non)=_
    rw[bL,a1];rfl
  ·cases hi
end
end Kn.Ln
end
section
namespace L2
open PySem PySem.Spec PyProof.Rows
section
variable{X:Cx}
noncomputable def zPU:List V->Hp->VK->Prop:=fun xs H Q=>∃d kvs,xs=[.ref d]/\H d=some (.dK (vP kvs))/\∀l:ao,H l=none->Q (.ref l) (upd H l (.lst (kvs.map fun p=>V.str p.1)))
theorem zPV (E:X.calm=true):uU X (.type "list") zPU:=by
 intro B s σ H xs us Q I F h
 obtain⟨d,kvs,rfl,hd,q⟩:=h
 obtain⟨u,rfl,G⟩:=uM F
 cases G
 obtain⟨z,J,ws,rel,L⟩:=kK I.hok hd
 have c:ws.length=kvs.length:=by have:=rel.length;simpa using this.symm
 have C:kvs.length<=sizeLine:=by simpa using z
 obtain⟨ep,m⟩:=L.dictAt
 refine PySem.W.kdl_call (PySem.W.kdl_dict (knd:=vJ X.prog X.w) (kvs:=ws) (ep:=ep) J) (I.ok.hd E) m (by rw[c];exact C) fun h' tk b M N O f=>?_
 have n:b.toList.length=kvs.length:=by rw[bh];exact f.1.trans c
 have hv:zJ (kvs.map fun p=>V.str p.1) b.toList:=by
  have go:∀(l:List (Str×V)) (a:List ai),a.length=l.length->(∀(i:Nat) (v:ai),a[i]?=some v->∃p,l[i]?=some p/\∃t,v=Value.str p.1 t)->zJ (l.map fun p=>V.str p.1) a:=by
   intro l
   induction l with
   |nil=>intro a ha _;rw[cS.mp ha];exact .nil
   |cons p l ih=>
    intro a ha D
    cases a with
    |nil=>cases ha
    |cons v a=>
     obtain⟨U,e,t,ev⟩:=D 0 v rfl
     cases e
     exact .cons ⟨t,ev⟩ (ih a (by simpa using ha) fun i u P=>by simpa using D (i+1) u (by simpa using P))
  refine go kvs b.toList n fun i v e=>?_
  obtain⟨k,x,e1,R⟩:=f.2 i v (by rw[<-dY];exact e)
  obtain⟨y,f1,_⟩:=KV.get rel e1
  rw[az]at f1
  cases g:kvs[i]? with
  |none=>rw[g]at f1;cases f1
  |some p=>
   rw[g]at f1
   have:(Sum.inr p.1:zL)=k:=(bY (aB f1)).1
   subst this
   have r:k8 (Sum.inr p.1) v=true:=R
   rcases jA r with⟨j,t,A,_⟩|⟨w,t,A,T⟩
   ·cases A
   ·exact⟨p,rfl,t,by rw[T,nC A]⟩
 refine⟨.ref s.heap.objs.size,_,I.laid (t':=tk) (o:=.lst (kvs.map fun p=>V.str p.1)) N (aA _) ⟨by rw[ah];exact C,b.toList,M,hv,?_⟩,rfl,q _ (I.hok.fresh (aA _))⟩
 rw[nQ];exact O
end
end L2
end
section
namespace Kn.Ln
open PySem L2 Kn
noncomputable abbrev zI:=List (Int×S)
theorem zCO (p:Int×S):¬yW p p:=by unfold yW;rw[zHB];exact aT
theorem zCP {p q r:Int×S}(a:yW p q)(b:yW q r):yW p r:=zHC a b
theorem zEH:∀{a b:zI},a.Perm b->a.Pairwise yW->b.Pairwise yW->a=b
 | [],b,h,_,_=>(List.nil_perm.mp h).symm
 |x::a,[],h,_,_=>absurd h.length_eq (by simp)
 |x::a,y::b,h,d,f=>by
  have e:x=y:=by
   have g:x∈y::b:=h.mem_iff.mp (au ..)
   have i:y∈x::a:=h.mem_iff.mpr (au ..)
   rcases aE.mp g with z|z
   ·exact z
   ·rcases aE.mp i with c|c
    ·exact c.symm
    ·exact absurd (zCP ((cj.mp d).1 y c) ((cj.mp f).1 x z)) (zCO x)
  subst e
  rw[zEH (vz h) (cj.mp d).2 (cj.mp f).2]
open Classical in
noncomputable def y8 (n:Nat) (ps:zI):zI:=if h:∃rs,zAw ps rs then(choose h).take n else []
theorem zCQ {n:Nat}{ps a:zI}(h:zAw ps a):a.take n=y8 n ps:=by
 have b:∃a,zAw ps a:=⟨a,h⟩
 unfold y8
 rw[dif_pos b]
 have c:=nu b
 rw[zEH (h.1.trans c.1.symm) h.2 c.2]
noncomputable def yX (nx:S->List S)(f:S->S->Int×Int)(o:Nat)(x:S)(p:S×zI):List (S×zI):=((nx p.1).filter (mf x)).map fun l=>(zY (p.1++l) o,p.2.map fun q=>(yB q.1 (f p.1 l),q.2++l))
noncomputable def yV (acc:List (S×zI))(r:S×zI):List (S×zI):=zR acc r.1 ((zO acc r.1).getD []++r.2)
noncomputable def y6 (L:List (S×zI)):List (S×zI):=L.foldl yV []
theorem zHz:∀(L c:List (S×zI)),(c.map (·.1)).Nodup->((L.foldl yV c).map (·.1)).Nodup/\∀k∈(L.foldl yV c).map (·.1),k∈c.map (·.1)\/k∈L.map (·.1)
 | [],c,h=>⟨h,fun k d=>.inl d⟩
 |p::L,c,h=>by
  obtain⟨a,b⟩:=zHz L (yV c p) (gI h)
  refine⟨a,fun k d=>?_⟩
  rcases b k d with z|z
  ·rcases zOh z with y|y
   ·exact .inl y
   ·exact .inr (by rw[aQ,y];exact au ..)
  ·exact .inr (by rw[aQ];exact aj _ z)
theorem zAx (L:List (S×zI)):((y6 L).map (·.1)).Nodup/\∀k∈(y6 L).map (·.1),k∈L.map (·.1):=by
 obtain⟨a,b⟩:=zHz L [] (by simp)
 exact⟨a,fun k c=>(b k c).elim (fun z=>by cases z) id⟩
theorem v2.same {K:ag}{H b:Hp}{l:ao}{ps:zI}(h:v2 K H l ps)(e:zA H b):v2 K b l ps:=by
 obtain⟨c,d,f,g⟩:=h
 exact⟨c,e _ _ d,f,fun i p hi=>let⟨a,j,m⟩:=g i p hi;⟨a,j,e.seqT m⟩⟩
theorem v2.sameX {K:ag}{H b:Hp}{l d:ao}{ps:zI}(h:v2 K H l ps)(e:zS d H b)(hd:∀ys,¬Rd H d (.tup ys))(hl:l≠d):v2 K b l ps:=by
 obtain⟨c,f,g,j⟩:=h
 exact⟨c,e _ _ hl f,g,fun i p hi=>let⟨a,m,n⟩:=j i p hi;⟨a,m,e.seqT hd n⟩⟩
structure FA (K:ag) (H0 H:Hp) (d:ao) (g:List (S×zI)) (fa:List (S×ao×zI)):Prop where
 rows:fa.map (fun r=>(r.1,r.2.2))=g
 top:H d=some (.dK (z5 (fun v:ao×zI=>V.ref v.1) fa))
 row:∀r∈fa,v2 K H r.2.1 r.2.2
 new:∀r∈fa,H0 r.2.1=none/\r.2.1≠d
 nda:(fa.map fun r=>r.2.1).Nodup
theorem FA.same {K:ag}{a H b:Hp}{d:ao}{g:List (S×zI)}{c:List (S×ao×zI)}(h:FA K a H d g c)(e:zA H b):FA K a b d g c :=
 ⟨h.rows,e _ _ h.top,fun r f=>(h.row r f).same e,h.new,h.nda⟩
theorem FA.keys {K:ag}{b H:Hp}{d:ao}{g:List (S×zI)}{a:List (S×ao×zI)}(h:FA K b H d g a):a.map (·.1)=g.map (·.1):=by
 rw[<-h.rows,bc];rfl
theorem FA.get {K:ag}{b H:Hp}{d:ao}{g:List (S×zI)}{a:List (S×ao×zI)}(h:FA K b H d g a)(e:S):zO g e=(zO a e).map (·.2):=by
 rw[<-h.rows]
 clear h
 induction a with
 |nil=>rfl
 |cons r a ih=>
  rw[aQ]
  unfold zO
  split
  ·rfl
  ·exact ih
theorem zDk {α:Type}(f:α->V){l a:List (S×α)}(h:l.map (fun p=>(p.1,f p.2))=a.map fun p=>(p.1,f p.2)):z5 f l=z5 f a:=by
 have b:=congrArg (kz fun p:S×V=>(tx p.1,p.2)) h
 rw[bc,bc]at b
 unfold z5
 exact congrArg vP b
theorem FA.ext {K:ag}{D H t:Hp}{d c:ao}{g:List (S×zI)}{b:List (S×ao×zI)}{e:S}{l a:zI}(h:FA K D H d g b)(nd:(g.map (·.1)).Nodup)(E:zO b e=some (c,l))(F:zS c H t)(J:v2 K t c a) :
  FA K D t d (zR g e a) (zR b e (c,a)):=by
 have n:(b.map (·.1)).Nodup:=by rw[h.keys];exact nd
 have f:(e,c,l)∈b:=(vF n _ _).mpr E
 have u:∀ys,¬Rd H c (.tup ys):=by
  obtain⟨O,G,_⟩:=h.row _ f
  rintro ys (z|⟨o,z⟩)
  ·rw[G]at z;cases z
  ·rw[G]at z;cases z
 have I:(zR b e (c,a)).map (fun p=>(p.1,p.2.1))=b.map fun p=>(p.1,p.2.1):=zDh (fun v:ao×zI=>v.1) b e (c,a) (c,l) E rfl
 have q:(zR b e (c,a)).map (fun r=>r.2.1)=b.map fun r=>r.2.1:=by
  have:=congrArg (kz fun p:S×ao=>p.2) I
  rw[bc,bc]at this
  exact this
 refine⟨?_,?_,fun r w=>?_,fun r w=>?_,by rw[q];exact h.nda⟩
 ·rw[zDg (fun v:ao×zI=>v.2),h.rows]
 ·have e1:z5 (fun v:ao×zI=>V.ref v.1) (zR b e (c,a))=z5 (fun v:ao×zI=>V.ref v.1) b:=by
   refine zDk _ ?_
   have:=congrArg (kz fun p:S×ao=>(p.1,V.ref p.2)) I
   rw[bc,bc]at this
   exact this
  rw[e1]
  exact F _ _ (h.new _ f).2.symm h.top
 ·rcases j1 w with z|⟨z,L⟩
  ·rw[z];exact J
  ·have x:r.1≠e:=L (.inr n)
   refine(h.row r z).sameX F u fun y=>x ?_
   have hi:=h.nda
   obtain⟨i,A,s⟩:=c7 z
   obtain⟨j,B,m⟩:=c7 f
   have:i=j:=by
    have e1:(b.map fun r=>r.2.1)[i]'(by simpa using A)=(b.map fun r=>r.2.1)[j]'(by simpa using B):=by
     rw[fH,fH,s,m];exact y
    exact(d5 hi).mp e1
   subst this
   rw[s]at m
   rw[m]
 ·have:r.2.1∈(zR b e (c,a)).map fun r=>r.2.1:=av.mpr ⟨r,w,rfl⟩
  rw[q]at this
  obtain⟨M,C,N⟩:=av.mp this
  rw[<-N];exact h.new M C
theorem FA.put {K:ag}{q H s:Hp}{d c:ao}{g:List (S×zI)}{f:List (S×ao×zI)}{e:S}{a:zI}(h:FA K q H d g f)(nd:(g.map (·.1)).Nodup)(B:v2 K H c a)(hn:q c=none)(t:∀r∈f,r.2.1≠c)(i:c≠d)
  (A:zS d H s) (C:s d=some (.dK (v8 (z5 (fun v:ao×zI=>V.ref v.1) f) (Sum.inr (tx e)) (.ref c)))):FA K q s d (zR g e a) (zR f e (c,a)):=by
 have u:(f.map (·.1)).Nodup:=by rw[h.keys];exact nd
 have j:∀ys,¬Rd H d (.tup ys):=by
  rintro ys (z|⟨o,z⟩)
  ·rw[h.top]at z;cases z
  ·rw[h.top]at z;cases z
 refine⟨?_,?_,fun r w=>?_,fun r w=>?_,?_⟩
 ·rw[zDg (fun v:ao×zI=>v.2),h.rows]
 ·rw[C];exact congrArg (fun z=>some (HO.dK z)) (zCE (fun v:ao×zI=>V.ref v.1) f e (c,a) u)
 ·rcases j1 w with z|⟨z,_⟩
  ·rw[z];exact B.sameX A j i
  ·exact(h.row r z).sameX A j (h.new r z).2
 ·rcases j1 w with z|⟨z,_⟩
  ·rw[z];exact⟨hn,i⟩
  ·exact h.new r z
 ·have go:∀l:List (S×ao×zI),(l.map fun r=>r.2.1).Nodup->(∀r∈l,r.2.1≠c)->((zR l e (c,a)).map fun r=>r.2.1).Nodup:=by
   intro l
   induction l with
   |nil=>intro _ _;simp[zR]
   |cons r l ih=>
    intro p x
    rw[aQ,bp]at p
    unfold zR
    split
    ·rw[aQ,bp]
     refine⟨fun z=>?_,p.2⟩
     obtain⟨m,b,n⟩:=av.mp z
     exact x m (aj _ b) n
    ·rw[aQ,bp]
     refine⟨fun z=>?_,ih p.2 fun m b=>x m (aj _ b)⟩
     obtain⟨m,b,n⟩:=av.mp z
     rcases j1 b with y|⟨y,_⟩
     ·rw[y]at n
      exact x r (au ..) n.symm
     ·exact p.1 (av.mpr ⟨m,y,n⟩)
  exact go f h.nda t
noncomputable def zBZ (K:ag)(H:Hp)(d:ao)(ly:List (S×zI)):Prop:=∃fa:List (S×ao×zI),fa.map (fun r=>(r.1,r.2.2))=ly/\H d=some (.dK (z5 (fun v:ao×zI=>V.ref v.1) fa))/\∀r∈fa,r.2.1≠d/\v2 K H r.2.1 r.2.2
theorem zAP {H:Hp}{a:ao}{kvs:List (zL×V)}(h:H a=some (.dK kvs)):∀ys,¬Rd H a (.tup ys):=by
 rintro ys (z|⟨o,z⟩)
 ·rw[h]at z;cases z
 ·rw[h]at z;cases z
theorem zEI {H:Hp}{a:ao}{o:Obj}{kvs:List (zL×V)}(h:H a=some (.frz o (.dK kvs))):∀ys,¬Rd H a (.tup ys):=by
 rintro ys (z|⟨b,z⟩)
 ·rw[h]at z;cases z
 ·rw[h]at z;cases z
theorem vS {H:Hp}{a:ao}{u:HO}:zS a H (upd H a u):=fun b v c e=>by rw[zG c];exact e
theorem FA.other {K:ag}{b H c:Hp}{d a:ao}{g:List (S×zI)}{e:List (S×ao×zI)}(h:FA K b H d g e)(f:zS a H c)(ha:∀ys,¬Rd H a (.tup ys))(hd:d≠a)(j:b a≠none):FA K b c d g e :=
 ⟨h.rows,f _ _ hd h.top,fun r i=>(h.row r i).sameX f ha fun z=>j (by rw[<-z];exact(h.new r i).1),h.new,h.nda⟩
structure PartsT (K:ag) (T:ao) (H:Hp) (pd ld:ao) (ps:List (S×S)) (f:S->S->Int×Int):Prop where
 ex:∃Hb,kP K Hb pd ps f/\zS T Hb H/\y0 T Hb/\Hb ld=none
theorem PartsT.row {K:ag}{T:ao}{H:Hp}{a ld:ao}{ps:List (S×S)}{f:S->S->Int×Int}(h:PartsT K T H a ld ps f){e l:S}(hl:(e,l)∈ps) :
  ∃(c:ao) (d:List (S×V)) (kvs:List (zL×V)),Rd H a (.dK kvs)/\vY kvs (Sum.inr (tx e))=some (.ref c)/\c≠a/\H c=some (.dK (z5 id d))/\d.map (·.1)=zU ps e/\(∀q∈d,yZ K H q.2 (f e q.1))/\c≠ld/\a≠ld/\H a≠none:=by
 obtain⟨C,u,m,tb,hn⟩:=h.ex
 obtain⟨D,p⟩:=kR tb
 obtain⟨c,d,g1,g2,g3,v,w⟩:=u.row hl
 have r:c≠T:=fun z=>by rw[z,p]at g3;cases g3
 have s:c≠ld:=fun z=>by rw[z,hn]at g3;cases g3
 rcases g1 with⟨kvs,kk,e1,n,x⟩|⟨kvs,kk,b,e1,n,_⟩
 ·have A:(Sum.inr (tx e):zL)=kk:=by
   cases kk with
   |inl i=>cases n
   |inr y=>
    have:V.str (tx e)=V.str y:=n
    rw[V.str.inj this]
  subst A
  have g:a≠T:=fun z=>by
   rcases e1 with e1|⟨o,e1⟩
   ·rw[z,p]at e1;cases e1
   ·rw[z,p]at e1;cases e1
  have t:a≠ld:=fun z=>by
   rcases e1 with e1|⟨o,e1⟩
   ·rw[z,hn]at e1;cases e1
   ·rw[z,hn]at e1;cases e1
  have j:Rd H a (.dK kvs):=by
   rcases e1 with e1|⟨o,e1⟩
   ·exact .inl (m _ _ g e1)
   ·exact .inr ⟨o,m _ _ g e1⟩
  refine⟨c,d,kvs,j,x.symm,g2,m _ _ r g3,v,fun q B=>m.frA (zBY tb) (w q B),s,t,?_⟩
  rcases j with z|⟨o,z⟩<;>rw[z]<;>simp
 ·cases n
theorem zEJ {t u:TS}{D:Ends}{σ:St}{H:Hp}(R:St->Hp->Prop)(c:∀a b,R a b->u D a b)(d:∀N:St->Hp->Prop,(∀a b,R a b->N a b)->t {D with nx:=N} σ H):zAX t u D σ H:=d (u D) c
theorem zIA (L:List (S×zI))(r:S×zI):y6 (L++[r])=zR (y6 L) r.1 ((zO (y6 L) r.1).getD []++r.2):=by
 unfold y6
 rw[fj];rfl
theorem zPW {β:Type}(l:List (S×β))(e:S)(u v:β):zR (zR l e u) e v=zR l e v:=by
 induction l with
 |nil=>simp[zR]
 |cons p r ih=>
  obtain⟨a,b⟩:=p
  by_cases c:a=e
  ·simp[zR,c]
  ·simp[zR,c,ih]
theorem zIB:∀(L a:List (S×zI)),(L.foldl yV a).length<=a.length+L.length
 | [],a=>by simp
 |r::L,a=>by
  have b:=zIB L (yV a r)
  have c:(yV a r).length<=a.length+1:=zDf _ _ _
  rw[eY,aJ];omega
theorem zIC (L:List (S×zI)):(y6 L).length<=L.length:=by
 have:=zIB L []
 unfold y6
 simpa using this
theorem zID (m:Nat):∀(L a:List (S×zI)) (k:Nat),(a.map (·.1)).Nodup->(∀r∈L,r.2.length<=m)->(∀r∈a,r.2.length<=m*k)->∀r∈L.foldl yV a,r.2.length<=m*(k+L.length)
 | [],a,k,_,_,h,r,b=>by simpa using h r b
 |p::L,a,k,nd,c,h,r,b=>by
  have:=zID m L (yV a p) (k+1) (gI nd) (fun r b=>c r (aj _ b)) (fun q d=>?_) r b
  ·rw[aJ,show k+(L.length+1)=k+1+L.length by omega];exact this
  ·have f:=c p (au ..)
   rcases j1 d with z|⟨z,_⟩
   ·rw[z]
    show((zO a p.1).getD []++p.2).length<=_
    rw[aw,pK]
    cases e:zO a p.1 with
    |none=>simp;omega
    |some u=>
     have:=h _ ((vF nd _ _).mpr e)
     have g:u.length<=m*k:=this
     simp;omega
   ·have:=h q z
    rw[pK];omega
theorem zPX {m:Nat}{L:List (S×zI)}(h:∀r∈L,r.2.length<=m):∀r∈y6 L,r.2.length<=m*L.length:=fun r a=>by
 have:=zID m L [] 0 (by simp) h (by simp) r a
 simpa using this
theorem zIE {nx:S->List S}{f:S->S->Int×Int}{o:Nat}{x:S}{p:S×zI}{m:Nat}(h:(nx p.1).length<=m):(yX nx f o x p).length<=m:=by
 unfold yX
 rw[ah]
 exact bS (cI ..) h
theorem zPY {nx:S->List S}{f:S->S->Int×Int}{o:Nat}{x:S}{p:S×zI}{m:Nat}(h:p.2.length<=m):∀r∈yX nx f o x p,r.2.length<=m:=fun r a=>by
 obtain⟨l,_,rfl⟩:=av.mp a
 rw[ah];exact h
theorem zAy {α β:Type}(g:α->List β)(m:Nat):∀l:List α,(∀a∈l,(g a).length<=m)->(l.flatMap g).length<=l.length*m
 | [],_=>by simp
 |a::l,h=>by
  have:=zAy g m l fun b c=>h b (aj _ c)
  have:=h a (au ..)
  rw[ft,aw,aJ,mJ];omega
theorem zEK {ps:List (S×S)}(e:S):(zU ps e).length<=ps.length:=by
 have a:=zEC ps e
 unfold zU
 first
  |(rw[ah];exact a)
  |omega
theorem zIF {β:Type}:∀(c:List (S×β)) (e:S) (v d:β) (f:List (S×β)),e∉c.map (·.1)->zR (c++(e,v)::f) e d=c++(e,d)::f
 | [],e,v,d,f,_=>by simp[zR]
 |(a,b)::c,e,v,d,f,h=>by
  have ha:a≠e:=fun z=>h (by rw[z];exact au ..)
  have g:e∉c.map (·.1):=fun z=>h (aj _ z)
  have:=zIF c e v d f g
  simp[zR,ha,this]
noncomputable def kU (f:S->S->Int×Int)(e l:S)(ps:zI):zI:=ps.map fun q=>(yB q.1 (f e l),q.2++l)
section
variable{P:aH}{w:aW}{K:ag}{mg:Str->Option ai}{base:bB}
noncomputable abbrev zEL:cT:=top 39
theorem zIG:FnScope ["parts","order","layer","wanted","many","found","end","pairs","letter","part","longer"] ["parts","order","layer","wanted","many"] (defScope zEL):=z9
theorem zIH:(["letter","part","weight","text"]:List Str).Nodup:=by decide+kernel
noncomputable def zAQ (ps:List (S×S)) (f:S->S->Int×Int) (o n:Nat) (ly:List (S×zI)) (x:S):List (S×zI):=(y6 (ly.flatMap (yX (zU ps) f o x))).map fun r=>(r.1,y8 n r.2)
noncomputable def zII (K:ag)(T:ao):Sp:=fun vs H Q _=>∃(pd ld:ao) (o n:Nat) (bk:List S) (f:S->S->Int×Int) (ly:List (S×zI)) (x:S),vs=[.ref pd,.int o,.ref ld,sv x,.int n]/\Bk bk o/\PartsT K T H pd ld (zB o bk) f/\Smf f/\zBZ K H ld ly/\ly.length<=72/\
 (∀r∈ly,(∃l,(r.1,l)∈zB o bk)/\r.2.length<=900/\∀q∈r.2,q.2.length<=60)/\n<=1000/\y0 T H/\(∀r∈y6 (ly.flatMap (yX (zU (zB o bk)) f o x)),r.2.Nodup/\r.2.length<64)/\
 ∀fo H',zS T H H'->y0 T H'->H fo=none->zBZ K H' fo (zAQ (zB o bk) f o n ly x)->Q (.ref fo) H'
theorem zPZ {f T:ao}{fd:aZ}(F:Fun K "next_heaviest" "next_heaviest" zEL f fd)(hli:mg "list"=none)(cF:zV P w K mg base 1 "may_follow" ["letter","wanted"] zHk)(cEnd:zV P w K mg base 1 "end_of" ["text","order"] zDU)(cL:zV P w K mg base 1 "left_of" ["weight","part"] (zEE K))
  (cH:zV P w K mg base 1 "heaviest" ["pairs","many"] (zCN K T)):FnOk P w K mg base zZ 2 f fd ["parts","order","layer","wanted","many"] (zII K T):=by
 refine F.ok zIG (fun vs H Q E h=>?_) (fun cdv A outer s H vs Q E hr h=>?_)
 ·obtain⟨pd,ld,o,n,bk,f,ly,x,rfl,_⟩:=h;rfl
 ·obtain⟨pd,ld,o,n,bk,ff,ly,x,rfl,hb,hP,hS,⟨la,l1,l2,l3⟩,hl72,hly,hn,tab,hgo,k⟩:=h
  have hu:=zAi hr
  have nd:=zIG.nd
  refine⟨_,zM (yA (i:=5) nd rfl (Or.inl rfl) zBr)
   (zM (zBU (uL bR rfl (zCJ (zBT K rfl ck eg fJ zBu (pv 2)))
     (gU rfl (yY (z7 (i:=6) nd rfl (Or.inl rfl)) (yY (z7 (i:=7) nd rfl (Or.inl rfl)) qC)))
     (zK (zBU (uL bR rfl (zCJ (zBT K rfl ck eg fJ zBu (zAh hu (pv 0) (pv 6) (fun _ _=>rfl))))
      (gU rfl (yY (z7 (i:=8) nd rfl (Or.inr rfl)) (yY (z7 (i:=9) nd rfl (Or.inr rfl)) qC)))
      (zK (yR (v4 (zW cF hr rfl (zC (pv 8) (zC (pv 3) zE))))
       (zM (yA (i:=10) nd rfl (Or.inl rfl) (kJ ck fV jl zGr (pv 5) (zC (zW cEnd hr rfl (zC (zT zFj (pv 6) (pv 8)) (zC (pv 1) zE))) (zC (v6 zE) zE))))
       (zK (v5 (kJ dN fA fB zBm (pv 10) (zC
        (uD (N:=["letter","part","weight","text"]) (caps:=[8,9]) rfl (v9 (by kernel_rfl)) (jB (pv 7))
         (fun cl X s H ex=>gL K 2 rfl rfl (yY (z7 (i:=2) zIH rfl (Or.inl rfl)) (yY (z7 (i:=3) zIH rfl (Or.inl rfl)) qC)) rfl rfl) (fun cl X s H ex=>uO)
         (fun cl X s H ex=>uN (zC (zW cL hr rfl (zC (pv 2) (zC (pv 1) zE))) (zC (zT zFj (pv 3) (pv 0)) zE)))) zE)))))
       yQ)))))))
   (zM (uL bR rfl (jB (zAA (zPV rfl) (by rfl) hli eG (zC (pv 5) zE))) (z7 (i:=6) nd rfl (Or.inl rfl))
     (zK (zDE hu (pv 5) (pv 6) (zW cH hr rfl (zC (zAh hu (pv 5) (pv 6) (fun _ _=>rfl)) (zC (pv 4) zE))) rfl)))
   (zK (z0 (pv 5))))),?_⟩
  intro fo hfo
  have sH1:zA H (upd H fo (.dK [])):=zA.upd1 hfo
  have hd1:=sH1 _ _ l2
  have hlfo:fo≠ld:=(yF l2 hfo).symm
  refine⟨ld,_,hd1,?_⟩
  refine⟨_,rfl,.inr (.inr (.inl ⟨rfl,.inl ⟨_,hd1⟩⟩)),ld,_,rfl,rfl,hd1,fun p hp=>?_⟩
  have hpfo:p≠fo:=fun z=>by subst z;rw[zF]at hp;cases hp
  have sH2:zA (upd H fo (.dK [])) (upd (upd H fo (.dK [])) p (VW p ld)):=zA.upd1 hp
  refine⟨p,ld,_,rfl,zF,sH2 _ _ hd1,fun ob=>?_⟩
  have lal:la.length<=72:=by rw[<-l1,ah]at hl72;exact hl72
  have l2':=l2
  generalize hkv:z5 (fun v:ao×zI=>V.ref v.1) la=kvs at l2 hd1
  generalize hH3:upd (upd (upd H fo (.dK [])) p (VW p ld)) ld (.frz ob (.dK kvs))=H3
  generalize hHA:upd H ld (.frz ob (.dK kvs))=HA
  have hAld:HA ld=some (.frz ob (.dK kvs)):=by rw[<-hHA,zF]
  have hAx:zS ld H HA:=by rw[<-hHA];exact vS
  have s3:zA HA H3:=fun b u e=>by
   rw[<-hH3]
   by_cases hb':b=ld
   ·subst hb';rw[hAld]at e;rw[zF];exact e
   ·rw[<-hHA,zG hb']at e
    rw[zG hb']
    exact sH2 _ _ (sH1 _ _ e)
  have hfo3:H3 fo=some (.dK (z5 (fun v:ao×zI=>V.ref v.1) [])):=by
   rw[<-hH3,zG hlfo,zG hpfo.symm,zF];rfl
  have h72:=zHx hb
  refine zCK (fun i σ H'=>(∃x6 x7 x8 x9 x10:Option V,σ=[some (.ref pd),some (.int o),some (.ref ld),some (sv x),some (.int n),some (.ref fo),x6,x7,x8,x9,x10])/\zA HA H'/\∃fa,FA K H H' fo (y6 ((ly.take i).flatMap (yX (zU (zB o bk)) ff o x))) fa)
   ⟨⟨_,_,_,_,_,rfl⟩,s3,[],⟨rfl,hfo3,by simp,by simp,by simp⟩⟩ (fun i σ H' _ h=>h.2.1 _ _ hAld) ?_ ?_
  ·rintro i q T0 σ H' Nx hN hq ⟨⟨x6,x7,x8,x9,x10,rfl⟩,sm,fa,FH⟩ hT0
   rw[<-hkv]at hq
   unfold z5 vP at hq
   rw[az,az]at hq
   cases ei:la[i]? with
   |none=>rw[ei]at hq;cases hq
   |some r0=>
   rw[ei]at hq
   have hq2:q=(Sum.inr (tx r0.1),V.ref r0.2.1):=(aB hq).symm
   subst hq2
   have hmem:r0∈la:=bg ei
   have eli:ly[i]?=some (r0.1,r0.2.2):=by rw[<-l1,az,ei];rfl
   have hi:i<ly.length:=(ak.mp eli).1
   have hlym:(r0.1,r0.2.2)∈ly:=bg eli
   obtain⟨⟨l0,hl0⟩,hl900,hl60⟩:=hly _ hlym
   have hl900:r0.2.2.length<=900:=hl900
   have hl60:∀q∈r0.2.2,q.2.length<=60:=hl60
   have etk:(ly.take (i+1)).flatMap (yX (zU (zB o bk)) ff o x)=(ly.take i).flatMap (yX (zU (zB o bk)) ff o x)++yX (zU (zB o bk)) ff o x (r0.1,r0.2.2):=by
    rw[aF hi,(ak.mp eli).2,eD];simp
   have hC0:((ly.take i).flatMap (yX (zU (zB o bk)) ff o x)).length<=5184:=by
    have h1:=zAy (yX (zU (zB o bk)) ff o x) 72 (ly.take i) fun a _=>zIE (bS (zEK a.1) h72)
    have h2:(ly.take i).length<=72:=by rw[aO];omega
    omega
   have hC9:∀r∈(ly.take i).flatMap (yX (zU (zB o bk)) ff o x),r.2.length<=900:=fun r hr=>by
    obtain⟨a,ha,hr⟩:=bf.mp hr
    exact zPY (hly a (bN ha)).2.1 r hr
   generalize(ly.take i).flatMap (yX (zU (zB o bk)) ff o x)=C0 at FH etk hC0 hC9
   have hel:r0.1.length<=3:=by
    have h1:r0.1.length<=o:=zPL hl0
    have:=hb.o3
    omega
   obtain⟨ra,kv,kvs2,e1,e2,g2,g3,g4,g5,rne,pdl,pdn⟩:=hP.row hl0
   refine⟨T0,[sv r0.1,.ref r0.2.1],rfl,.of zF,rfl,_,_,rfl,_,_,rfl,rfl,?_⟩
   generalize hH4:upd H' T0 (HO.tup [kV ((Sum.inr (tx r0.1):zL),V.ref r0.2.1).1,((Sum.inr (tx r0.1):zL),V.ref r0.2.1).2])=H4
   have s4:zA H' H4:=by rw[<-hH4];exact zA.upd1 hT0
   have sm4:=sm.trans s4
   have F4:=FH.same s4
   have hAra:HA ra=some (.dK (z5 id kv)):=hAx _ _ rne g3
   have hra4:=sm4 _ _ hAra
   have e14:Rd H4 pd (.dK kvs2):=by
    rcases e1 with e1|⟨o',e1⟩
    ·exact .inl (sm4 _ _ (hAx _ _ pdl e1))
    ·exact .inr ⟨o',sm4 _ _ (hAx _ _ pdl e1)⟩
   have dg4:vR H4 pd (sv r0.1) (some (.ref ra)):=.inl ⟨kvs2,Sum.inr (tx r0.1),e14,rfl,e2.symm⟩
   refine⟨ra,_,hra4,?_⟩
   refine⟨_,rfl,_,rfl,pd,.ref ra,rfl,dg4,.inr (.inr (.inl ⟨rfl,.inl ⟨_,hra4⟩⟩)),ra,_,rfl,rfl,hra4,fun p2 hp2=>?_⟩
   have s5:zA H4 (upd H4 p2 (VW p2 ra)):=zA.upd1 hp2
   refine⟨p2,ra,_,rfl,zF,s5 _ _ hra4,fun ob2=>?_⟩
   have rafo:fo≠ra:=fun z=>by rw[<-z,hfo]at g3;cases g3
   have hra0:H ra≠none:=by rw[g3];simp
   have F5:FA K H (upd (upd H4 p2 (VW p2 ra)) ra (.frz ob2 (.dK (z5 id kv)))) fo (y6 C0) fa:=(F4.same s5).other vS (zAP (s5 _ _ hra4)) rafo hra0
   generalize hHB:upd HA ra (.frz ob2 (.dK (z5 id kv)))=HB
   have hBra:HB ra=some (.frz ob2 (.dK (z5 id kv))):=by rw[<-hHB,zF]
   have hBx:zS ra HA HB:=by rw[<-hHB];exact vS
   have s5B:zA HB (upd (upd H4 p2 (VW p2 ra)) ra (.frz ob2 (.dK (z5 id kv)))):=fun b u e=>by
    by_cases hb':b=ra
    ·subst hb';rw[hBra]at e;rw[zF];exact e
    ·rw[<-hHB,zG hb']at e
     rw[zG hb']
     exact s5 _ _ (sm4 _ _ e)
   generalize upd (upd H4 p2 (VW p2 ra)) ra (.frz ob2 (.dK (z5 id kv)))=H5 at F5 s5B
   have hkl:kv.length<=(zB o bk).length:=by
    have h1:=zEC (zB o bk) r0.1
    have h2:(kv.map (·.1)).length=((uB (zB o bk) r0.1).map (·.1)).length:=by rw[g4]
    rw[ah,ah]at h2
    omega
   have prB:v2 K HB r0.2.1 r0.2.2:=((l3 r0 hmem).2.sameX hAx (zAP l2) (l3 r0 hmem).1).sameX hBx (zAP hAra) fun z=>by
    obtain⟨ts,h1,_⟩:=(l3 r0 hmem).2
    rw[z,g3]at h1;cases h1
   have frB:∀q∈kv,yZ K HB q.2 (ff r0.1 q.1):=fun q hq=>hBx.frA (zAP hAra) (hAx.frA (zAP l2) (g5 q hq))
   refine zCK (fun j σ H6=>(∃x8 x9 x10:Option V,σ=[some (.ref pd),some (.int o),some (.ref ld),some (sv x),some (.int n),some (.ref fo),some (sv r0.1),some (.ref r0.2.1),x8,x9,x10])/\zA HB H6/\
     ∃fa,FA K H H6 fo (y6 (C0++(((zU (zB o bk) r0.1).take j).filter (mf x)).map fun l=>(zY (r0.1++l) o,kU ff r0.1 l r0.2.2))) fa)
    ⟨⟨_,_,_,rfl⟩,s5B,fa,by simpa using F5⟩ (fun j σ H6 _ h=>h.2.1 _ _ hBra) ?_ ?_
   ·rintro j q T2 σ H6 Nx2 hN2 hq ⟨⟨x8,x9,x10,rfl⟩,sm6,fa6,FA6⟩ hT2
    unfold z5 vP at hq
    rw[az,az]at hq
    cases el:kv[j]? with
    |none=>rw[el]at hq;cases hq
    |some q0=>
    rw[el]at hq
    have hq2:q=(Sum.inr (tx q0.1),q0.2):=(aB hq).symm
    subst hq2
    have hqm:q0∈kv:=bg el
    have hnx:(zU (zB o bk) r0.1)[j]?=some q0.1:=by rw[<-g4,az,el];rfl
    have hj:j<(zU (zB o bk) r0.1).length:=(ak.mp hnx).1
    have hlm:q0.1∈zU (zB o bk) r0.1:=bg hnx
    have hl1:q0.1.length<=1:=gM ((qP _ _ _).mp hlm)
    have etk2:(zU (zB o bk) r0.1).take (j+1)=(zU (zB o bk) r0.1).take j++[q0.1]:=by
     rw[aF hj,(ak.mp hnx).2]
    refine⟨T2,[sv q0.1,q0.2],rfl,.of zF,rfl,_,_,rfl,_,_,rfl,rfl,?_⟩
    generalize hH7:upd H6 T2 (HO.tup [kV ((Sum.inr (tx q0.1):zL),q0.2).1,((Sum.inr (tx q0.1):zL),q0.2).2])=H7
    have s7:zA H6 H7:=by rw[<-hH7];exact zA.upd1 hT2
    refine⟨_,rfl,_,rfl,q0.1,x,rfl,fun H8 s8=>⟨mf x q0.1,rfl,?_⟩⟩
    have s78:=s7.trans s8
    have FA8:=FA6.same s78
    have sm8:=sm6.trans s78
    refine zGT (fun hm=>?_) (fun hm=>?_)
    ·generalize hLL:C0++(((zU (zB o bk) r0.1).take j).filter (mf x)).map (fun l=>(zY (r0.1++l) o,kU ff r0.1 l r0.2.2))=LL at FA8
     have etk3:C0++(((zU (zB o bk) r0.1).take (j+1)).filter (mf x)).map (fun l=>(zY (r0.1++l) o,kU ff r0.1 l r0.2.2))=LL++[(zY (r0.1++q0.1) o,kU ff r0.1 q0.1 r0.2.2)]:=by
      rw[etk2,eO,aU,<-dP,hLL]
      simp[hm]
     have hLn:LL.length<=5256:=by
      rw[<-hLL,aw,ah]
      have h1:=cI (mf x) ((zU (zB o bk) r0.1).take j)
      have h2:=zEK (ps:=zB o bk) r0.1
      rw[aO]at h1
      omega
     have hL9:∀r∈LL,r.2.length<=900:=fun r hr=>by
      rw[<-hLL]at hr
      rcases bz.mp hr with z|z
      ·exact hC9 r z
      ·obtain⟨l,_,rfl⟩:=av.mp z
       show(kU ff r0.1 l r0.2.2).length<=900
       unfold kU;rw[ah];exact hl900
     have ndL:=(zAx LL).1
     generalize he:zY (r0.1++q0.1) o=e at etk3
     generalize hqs:kU ff r0.1 q0.1 r0.2.2=qs at etk3
     have hBn:∀b,H b=none->HB b=none:=fun b hb0=>by
      rw[<-hHB,zG (fun z=>by rw[z]at hb0;exact hra0 hb0),<-hHA,zG (fun z=>by rw[z,l2]at hb0;cases hb0)];exact hb0
     refine zEJ (fun σ' H9=>∃(la2:ao) (prs:zI) (g:List (S×zI)) (fa9:List (S×ao×zI)),σ'=[some (.ref pd),some (.int o),some (.ref ld),some (sv x),some (.int n),some (.ref fo),some (sv r0.1),some (.ref r0.2.1),some (sv q0.1),some q0.2,some (.ref la2)]/\zA HB H9/\FA K H H9 fo g fa9/\(g.map (·.1)).Nodup/\zO fa9 e=some (la2,prs)/\prs.length<=900*5256/\y6 (LL++[(e,qs)])=zR g e (prs++qs)) ?_ ?_
     ·rintro σ' H9 ⟨la2,prs,g,fa9,rfl,sm9,F9,nd9,hg9,hpl,hag⟩
      have ndf:(fa9.map (·.1)).Nodup:=by rw[F9.keys];exact nd9
      have hmm:(e,la2,prs)∈fa9:=(vF ndf _ _).mpr hg9
      obtain⟨ts,t1,t2,t3⟩:=F9.row _ hmm
      have t2:ts.length=prs.length:=t2
      obtain⟨tl,p1,p2,p3⟩:=prB.same sm9
      refine⟨_,rfl,.inl ⟨rfl,_,.of t1⟩,_,rfl,r0.2.1,rfl,⟨_,.of p1⟩,?_⟩
      refine qK (jF K r0.2.1 tl) [some (sv q0.1),some q0.2] 2 (by rw[p2];omega) (fun m acc H10=>zA H9 H10/\acc.length=m/\∀(m':Nat) (p:Int×S),m'<m->qs[m']?=some p->∃a,acc[m']?=some (.ref a)/\zX K H10 a [.int p.1,sv p.2])
       ⟨zA.refl _,rfl,fun m' p h=>absurd h (ng _)⟩ (fun m acc H10 _ h=>⟨.of (h.1 _ _ p1),by rw[h.2.1];exact aA _⟩) ?_ ?_
      ·rintro m y acc H10 ys Nx3 hN3 hy hys ⟨s10,al,hacc⟩
       obtain⟨y1,y2,rfl⟩:=zBX hys
       have hm1:m<r0.2.2.length:=by rw[<-p2];exact(ak.mp hy).1
       obtain⟨a,a1,a2⟩:=p3 m r0.2.2[m] (ay hm1)
       rw[hy]at a1
       cases a1
       generalize hpm:r0.2.2[m]=pm at a2
       have hpl60:pm.2.length<=60:=by rw[<-hpm];exact hl60 _ (c6 hm1)
       have hqm2:qs[m]?=some (yB pm.1 (ff r0.1 q0.1),pm.2++q0.1):=by
        rw[<-hqs];unfold kU
        rw[az,ay hm1,hpm];rfl
       obtain⟨b1,b2,b3,b4⟩:=hS r0.1 q0.1
       have fr10:yZ K H10 q0.2 (ff r0.1 q0.1):=((frB q0 hqm).same sm9).same s10
       refine⟨a,[.int pm.1,sv pm.2],rfl,s10.seqT a2,rfl,_,_,rfl,_,_,rfl,rfl,?_⟩
       refine⟨_,rfl,_,rfl,pm.1,q0.2,ff r0.1 q0.1,rfl,fr10,b1,b2,b3,b4,?_⟩
       refine⟨_,rfl,_,rfl,tx pm.2,tx q0.1,rfl,rfl,by rw[yJ,yJ,aL];omega,?_⟩
       refine⟨by show 2<=_;rw[aL];omega,fun a9 ha9=>hN3 _ _ [some (.int pm.1),some (sv pm.2)] rfl ⟨s10.trans (zA.upd1 ha9),by rw[aw,al];rfl,fun m' p hm' hp'=>?_⟩⟩
       by_cases hmm2:m'=m
       ·subst hmm2
        rw[hqm2]at hp'
        cases hp'
        refine⟨a9,by rw[aP (by omega),al,iO];rfl,.inl (.of ?_)⟩
        rw[zF,zHb]
       ·obtain⟨a',z1,z2⟩:=hacc m' p (by omega) hp'
        exact⟨a',by rw[aS (by omega)];exact z1,(zA.upd1 ha9).seqT z2⟩
      ·rintro acc H10 ⟨s10,al,hacc⟩ D hD
       have sD:zA H10 (upd H10 D (.lst acc)):=zA.upd1 hD
       have hqn:qs.length=r0.2.2.length:=by rw[<-hqs];unfold kU;rw[ah]
       have s11:=s10.trans sD
       refine⟨la2,D,ts,acc,rfl,rfl,s11 _ _ t1,zF,by rw[t2,al,p2,aL];omega,hN2 _ _ ⟨⟨_,_,_,rfl⟩,(sm9.trans s11).upd_new (hBn _ (F9.new _ hmm).1),zR fa9 e (la2,prs++qs),?_⟩⟩
       rw[etk3,hag]
       refine(F9.same s11).ext nd9 hg9 vS ⟨ts++acc,zF,by rw[aw,aw,t2,al,p2,hqn],fun i' p hi'=>?_⟩
       have nt:∀ys,¬Rd (upd H10 D (.lst acc)) la2 (.tup ys):=by
        have h1:=s11 _ _ t1
        rintro ys (z|⟨o',z⟩)
        ·rw[h1]at z;cases z
        ·rw[h1]at z;cases z
       by_cases hlt:i'<prs.length
       ·rw[aS hlt]at hi'
        obtain⟨a,z1,z2⟩:=t3 i' p hi'
        exact⟨a,by rw[aS (by omega)];exact z1,(vS (u:=.lst (ts++acc))).seqT nt (s11.seqT z2)⟩
       ·rw[aP (by omega)]at hi'
        have hb2:=(ak.mp hi').1
        obtain⟨a,z1,z2⟩:=hacc (i'-prs.length) p (by omega) hi'
        exact⟨a,by rw[aP (by omega),t2];exact z1,(vS (u:=.lst (ts++acc))).seqT nt (sD.seqT z2)⟩
     ·intro N hN'
      have hcl:(tx r0.1).length+(tx q0.1).length<=sizeLine:=by rw[yJ,yJ,aL];omega
      have hll:(r0.1++q0.1).length<=64:=by rw[aw];omega
      have hfl:fa6.length<=5256:=by
       have h1:=zIC LL
       rw[<-FA8.rows,ah]at h1;omega
      refine⟨_,rfl,.inr (.inr (.inl ⟨rfl,.inl ⟨_,FA8.top⟩⟩)),_,rfl,_,rfl,tx r0.1,tx q0.1,rfl,rfl,hcl,_,rfl,r0.1++q0.1,o,by rw[zHb];rfl,hb.o1,hll,bo _,fun l9 hl9=>?_⟩
      have s9:zA H8 (upd H8 l9 (.lst [])):=zA.upd1 hl9
      have hl9s:upd H8 l9 (.lst []) l9=some (.lst []):=zF
      generalize upd H8 l9 (.lst [])=H9 at s9 hl9s
      have F9:=FA8.same s9
      have hval:vY (z5 (fun v:ao×zI=>V.ref v.1) fa6) (Sum.inr (tx e))=(zO fa6 e).map fun v=>V.ref v.1:=kN _ _ _
      rw[he]
      refine⟨fo,_,Sum.inr (tx e),_,rfl,rfl,F9.top,by rw[jK,aL];omega,fun yv hyv=>?_,fun hnv=>?_⟩
      ·rw[hval]at hyv
       cases hg:zO fa6 e with
       |none=>rw[hg]at hyv;cases hyv
       |some u=>
        rw[hg]at hyv
        have:yv=.ref u.1:=(aB hyv).symm
        subst this
        have hgg:zO (y6 LL) e=some u.2:=by rw[F9.get,hg];rfl
        refine hN' _ _ ⟨u.1,u.2,_,fa6,rfl,sm8.trans s9,F9,ndL,hg,?_,by rw[zIA,hgg];rfl⟩
        have h1:=zPX hL9 _ ((vF ndL _ _).mpr hgg)
        exact bS h1 (om _ hLn)
      ·rw[hval]at hnv
       have hg:zO fa6 e=none:=by
        cases hg:zO fa6 e with
        |none=>rfl
        |some u=>rw[hg]at hnv;cases hnv
       have hgg:zO (y6 LL) e=none:=by rw[F9.get,hg];rfl
       have hl9H:H l9=none:=by
        cases z:H l9 with
        |none=>rfl
        |some u=>
         exfalso
         have:HB l9≠none:=by
          rw[<-hHB,<-hHA]
          by_cases y1:l9=ra
          ·rw[y1,zF];simp
          ·rw[zG y1]
           by_cases y2:l9=ld
           ·rw[y2,zF];simp
           ·rw[zG y2,z];simp
         cases y:HB l9 with
         |none=>exact this y
         |some u'=>rw[sm8 _ _ y]at hl9;cases hl9
       have hl9f:l9≠fo:=fun z=>by rw[z,FA8.top]at hl9;cases hl9
       refine hN' _ _ ⟨l9,[],zR (y6 LL) e [],zR fa6 e (l9,[]),rfl,(sm8.trans s9).upd_new (hBn _ hfo),F9.put ndL ⟨[],hl9s,rfl,fun i' p hi'=>by cases hi'⟩ hl9H (fun r hr z=>?_) hl9f vS zF,gI ndL,by rw[zAo,if_pos rfl],by simp,by rw[zIA,hgg,zPW];rfl⟩
       obtain⟨ts,t1,_⟩:=FA8.row r hr
       rw[z,hl9]at t1;cases t1
    ·have hm':mf x q0.1=false:=by simpa using hm
     refine hN2 _ _ ⟨⟨_,_,_,rfl⟩,sm8,fa6,?_⟩
     rw[etk2,eO]
     simpa [hm']using FA8
   ·rintro σ H6 ⟨⟨x8,x9,x10,rfl⟩,sm6,fa6,FA6⟩
    refine⟨ob2,sm6 _ _ hBra,hN _ _ ⟨⟨_,_,_,_,_,rfl⟩,zA.thaw (by rw[hHB];exact sm6) hAra,fa6,?_⟩⟩
    have e1:(z5 id kv).length=(zU (zB o bk) r0.1).length:=by
     rw[jK,<-g4,ah]
    rw[e1,bw]at FA6
    rw[etk]
    exact FA6.other vS (zEI (sm6 _ _ hBra)) rafo hra0
  ·rintro σ H' ⟨⟨x6,x7,x8,x9,x10,rfl⟩,sm,fa,FH⟩
   refine⟨ob,sm _ _ hAld,?_⟩
   have ekl:kvs.length=ly.length:=by rw[<-hkv,jK,<-l1,ah]
   rw[ekl,bw]at FH
   have hgo':=hgo
   have ndg:=(zAx (ly.flatMap (yX (zU (zB o bk)) ff o x))).1
   have hgl:(y6 (ly.flatMap (yX (zU (zB o bk)) ff o x))).length<=5184:=by
    have h1:=zIC (ly.flatMap (yX (zU (zB o bk)) ff o x))
    have h2:=zAy (yX (zU (zB o bk)) ff o x) 72 ly fun a _=>zIE (bS (zEK a.1) h72)
    omega
   have k':∀fo H',zS T H H'->y0 T H'->H fo=none->zBZ K H' fo ((y6 (ly.flatMap (yX (zU (zB o bk)) ff o x))).map fun r=>(r.1,y8 n r.2))->Q (.ref fo) H':=k
   generalize y6 (ly.flatMap (yX (zU (zB o bk)) ff o x))=g at FH hgo' k' ndg hgl
   have hld0:H ld≠none:=by rw[l2];simp
   have F1:FA K H (upd H' ld (.dK kvs)) fo g fa:=FH.other vS (zEI (sm _ _ hAld)) hlfo hld0
   have s1:zA H (upd H' ld (.dK kvs)):=zA.thaw (by rw[hHA];exact sm) l2
   generalize upd H' ld (.dK kvs)=H1 at F1 s1
   have efa:fa.map (fun p:S×ao×zI=>V.str (tx p.1))=(g.map (·.1)).map sv:=by
    rw[<-F1.rows,bc,bc];rfl
   obtain⟨qs,hT⟩:=kR tab
   have hT0:H T≠none:=by rw[hT];simp
   have hTfo:fo≠T:=(yF hT hfo).symm
   refine⟨_,rfl,fo,fa.map (fun p:S×ao×zI=>(tx p.1,V.ref p.2.1)),rfl,F1.top,fun L hL=>?_⟩
   refine⟨L,rfl,⟨_,.of zF⟩,?_⟩
   have eL:(fa.map (fun p:S×ao×zI=>(tx p.1,V.ref p.2.1))).map (fun p:Str×V=>V.str p.1)=(g.map (·.1)).map sv:=by rw[bc];exact efa
   rw[eL]
   have s2:zA H1 (upd H1 L (.lst ((g.map (·.1)).map sv))):=zA.upd1 hL
   have hLs:upd H1 L (.lst ((g.map (·.1)).map sv)) L=some (.lst ((g.map (·.1)).map sv)):=zF
   have hLH:H L=none:=s1.free hL
   have hLT:L≠T:=fun z=>by rw[z,hT]at hLH;cases hLH
   have hLf:L≠fo:=fun z=>by rw[z,F1.top]at hL;cases hL
   generalize upd H1 L (.lst ((g.map (·.1)).map sv))=H2 at s2 hLs
   have F2:=F1.same s2
   refine jG (jF K L ((g.map (·.1)).map sv)) (fun i σ H3=>(∃x6 x7 x8 x9 x10:Option V,σ=[some (.ref pd),some (.int o),some (.ref ld),some (sv x),some (.int n),some (.ref fo),x6,x7,x8,x9,x10])/\zS T H H3/\y0 T H3/\H3 L=some (.lst ((g.map (·.1)).map sv))/\
     ∃fa,FA K H H3 fo ((g.take i).map (fun r=>(r.1,y8 n r.2))++g.drop i) fa)
    ⟨⟨_,_,_,_,_,rfl⟩,zS.of (s1.trans s2),vU tab (s1.trans s2),hLs,fa,by simpa using F2⟩ (fun i σ H3 _ h=>.of h.2.2.2.1) ?_ ?_
   ·rintro i y σ H3 Nx hNx hy ⟨⟨x6,x7,x8,x9,x10,rfl⟩,sx,tb,hL3,fa3,F3⟩
    rw[az,az]at hy
    cases ei:g[i]? with
    |none=>rw[ei]at hy;cases hy
    |some r0=>
    rw[ei]at hy
    have hy2:y=sv r0.1:=(aB hy).symm
    subst hy2
    have hi:i<g.length:=(ak.mp ei).1
    have er:g[i]=r0:=(ak.mp ei).2
    have hdr:g.drop i=r0::g.drop (i+1):=by rw[eV hi,er]
    have hkeys:((g.take i).map (fun r=>(r.1,y8 n r.2))++g.drop i).map (·.1)=g.map (·.1):=by
     rw[aU,bc]
     show(g.take i).map (·.1)++(g.drop i).map (·.1)=_
     rw[<-aU,dw]
    have nd3:(((g.take i).map (fun r=>(r.1,y8 n r.2))++g.drop i).map (·.1)).Nodup:=by rw[hkeys];exact ndg
    have hnot:r0.1∉((g.take i).map (fun r=>(r.1,y8 n r.2))).map (·.1):=by
     rw[hdr,aU,aQ]at nd3
     exact fun z=>(fi.mp nd3).2.2 _ z _ (au ..) rfl
    have hm3:(r0.1,r0.2)∈(g.take i).map (fun r=>(r.1,y8 n r.2))++g.drop i:=by
     rw[hdr];exact aX _ (au ..)
    have hget:(zO fa3 r0.1).map (·.2)=some r0.2:=by rw[<-F3.get];exact(vF nd3 _ _).mp hm3
    cases hg:zO fa3 r0.1 with
    |none=>rw[hg]at hget;cases hget
    |some u=>
    rw[hg]at hget
    have hu2:u.2=r0.2:=aB hget
    have ndf:(fa3.map (·.1)).Nodup:=by rw[F3.keys];exact nd3
    have hmm:(r0.1,u.1,u.2)∈fa3:=(vF ndf _ _).mpr hg
    have hpa:=F3.row _ hmm
    have hpa':v2 K H3 u.1 r0.2:=by rw[<-hu2];exact hpa
    obtain⟨hnd,h64⟩:=hgo' r0 (bg ei)
    have dg:vR H3 fo (sv r0.1) (some (.ref u.1)):=by
     have:=vR.k (k:=Sum.inr (tx r0.1)) F3.top
     rw[kN,hg]at this
     exact this
    refine⟨_,rfl,_,rfl,fo,.ref u.1,rfl,dg,_,rfl,u.1,r0.2,n,rfl,hpa',hnd,h64,hn,tb,fun D H4 rs sx4 tb4 hD4 srt pa4=>?_⟩
    rw[zCQ srt]at pa4
    have F4:FA K H H4 fo ((g.take i).map (fun r=>(r.1,y8 n r.2))++g.drop i) fa3:=F3.other sx4 (zBY tb) hTfo hT0
    have hDH:H D=none:=by
     cases z:H D with
     |none=>rfl
     |some v=>
      exfalso
      by_cases hDT:D=T
      ·obtain⟨qs',hT'⟩:=kR tb
       rw[hDT,hT']at hD4;cases hD4
      ·rw[sx _ _ hDT z]at hD4;cases hD4
    have hDf:D≠fo:=fun z=>by rw[z,F3.top]at hD4;cases hD4
    have hDL:D≠L:=fun z=>by rw[z,hL3]at hD4;cases hD4
    have hfl:fa3.length<=5184:=by
     have h1:=congrArg fc F3.keys
     rw[hkeys,ah,ah]at h1;omega
    refine⟨_,rfl,_,rfl,fo,_,rfl,zAE.k (k:=Sum.inr (tx r0.1)) F4.top (by rw[jK,aL];omega),hNx _ _ ⟨⟨_,_,_,_,_,rfl⟩,?_,?_,?_,zR fa3 r0.1 (D,y8 n r0.2),?_⟩⟩
    ·intro b v hb' e
     rw[zG (yF e hfo)]
     exact sx4 _ _ hb' (sx _ _ hb' e)
    ·rcases tb4 with z|⟨c',oc,u',vs',t',z1,z2,z3⟩
     ·exact .inl (by rw[zG hTfo.symm];exact z)
     ·refine .inr ⟨c',oc,u',vs',t',by rw[zG hTfo.symm];exact z1,?_,z3⟩
      rw[zG (fun y=>by rw[y,F4.top]at z2;cases z2)];exact z2
    ·rw[zG hLf];exact sx4 _ _ hLT hL3
    ·have e3:(g.take (i+1)).map (fun r=>(r.1,y8 n r.2))++g.drop (i+1)=zR ((g.take i).map (fun r=>(r.1,y8 n r.2))++g.drop i) r0.1 (y8 n r0.2):=by
      rw[hdr,show r0=(r0.1,r0.2)from rfl,zIF _ _ _ _ _ hnot,aF hi,er,aU,dP];rfl
     rw[e3]
     refine F4.put nd3 pa4 hDH (fun r hr z=>?_) hDf vS zF
     obtain⟨ts,t1,_⟩:=F3.row r hr
     rw[z,hD4]at t1;cases t1
   ·rintro σ H3 ⟨⟨x6,x7,x8,x9,x10,rfl⟩,sx,tb,hL3,fa3,F3⟩
    rw[ah,ah,bw,List.drop_length,dC]at F3
    exact⟨_,rfl,k' fo H3 sx tb hfo ⟨fa3,F3.rows,F3.top,fun r hr=>⟨(F3.new r hr).2,F3.row r hr⟩⟩⟩
end
theorem zPa (n:Nat)(ps:zI):(y8 n ps).length<=n:=by
 unfold y8
 split
 ·rw[aO];omega
 ·simp
theorem zPb {n:Nat}{ps:zI}{q:Int×S}(h:q∈y8 n ps):q∈ps:=by
 unfold y8 at h
 split at h
 ·rename_i a
  exact(nu a).1.mem_iff.mp (bN h)
 ·cases h
theorem zIJ:∀(L a:List (S×zI)),(a.map (·.1)).Nodup->∀r∈L.foldl yV a,∀q∈r.2,(∃s∈a,s.1=r.1/\q∈s.2)\/∃s∈L,s.1=r.1/\q∈s.2
 | [],a,_,r,c,q,d=>.inl ⟨r,c,rfl,d⟩
 |p::L,a,nd,r,c,q,d=>by
  rcases zIJ L (yV a p) (gI nd) r c q d with⟨s,e,e1,b⟩|⟨s,e,e1,b⟩
  ·rcases j1 e with z|⟨z,_⟩
   ·rw[z]at e1 b
    rcases bz.mp b with y|y
    ·cases f:zO a p.1 with
     |none=>rw[f]at y;cases y
     |some u=>
      rw[f]at y
      exact .inl ⟨(p.1,u),(vF nd _ _).mpr f,e1,y⟩
    ·exact .inr ⟨p,au ..,e1,y⟩
   ·exact .inl ⟨s,z,e1,b⟩
  ·exact .inr ⟨s,aj _ e,e1,b⟩
theorem zPc {L:List (S×zI)}{r:S×zI}(a:r∈y6 L){q:Int×S}(b:q∈r.2):∃s∈L,s.1=r.1/\q∈s.2:=by
 rcases zIJ L [] (by simp) r a q b with⟨s,c,_⟩|h
 ·cases c
 ·exact h
theorem zPd {o:Nat}{bk:List S}{f:S->S->Int×Int}{x:S}{p q:S×zI}(d:q∈yX (zU (zB o bk)) f o x p):∃l,(q.1,l)∈zB o bk:=by
 obtain⟨l,hl,rfl⟩:=av.mp d
 obtain⟨e,a⟩:=aI.mp hl
 have b:=(qP _ _ _).mp e
 have hn:l≠[]:=fun z=>by
  unfold mf at a
  rw[z]at a;simp at a
 obtain⟨c,rfl⟩:=zAN (gM b) hn
 exact zOe b
theorem zEM (ps:List (S×S))(e:S):(zU ps e).Nodup:=zAs ps e
structure LyOk (ps:List (S×S)) (i:Nat) (ly:List (S×zI)):Prop where
 nd:(ly.map (·.1)).Nodup
 row:∀r∈ly,(∃l,(r.1,l)∈ps)/\r.2.length<=900/\∀q∈r.2,q.2.length<=i
theorem LyOk.len {ps:List (S×S)}{i:Nat}{a:List (S×zI)}(h:LyOk ps i a):a.length<=ps.length:=by
 have b:=uZ (a.map (·.1)) (ps.map (·.1)) h.nd fun e he=>by
  obtain⟨p,c,rfl⟩:=av.mp he
  obtain⟨⟨l,hl⟩,_⟩:=h.row p c
  exact av.mpr ⟨_,hl,rfl⟩
 rw[ah,ah]at b
 exact b
theorem LyOk.step {o n i:Nat}{bk:List S}{f:S->S->Int×Int}{c:List (S×zI)}{x:S}(h:LyOk (zB o bk) i c)(hn:n<=900):LyOk (zB o bk) (i+1) (zAQ (zB o bk) f o n c x):=by
 have g:=zAx (c.flatMap (yX (zU (zB o bk)) f o x))
 refine⟨?_,fun r t=>?_⟩
 ·unfold zAQ
  rw[bc]
  exact g.1
 ·obtain⟨j,b,rfl⟩:=av.mp t
  refine⟨?_,bS (zPa _ _) hn,fun q u=>?_⟩
  ·obtain⟨s,a,e⟩:=av.mp (g.2 j.1 (av.mpr ⟨j,b,rfl⟩))
   obtain⟨p,_,a⟩:=bf.mp a
   obtain⟨l,hl⟩:=zPd a
   exact⟨l,by rw[<-e];exact hl⟩
  ·obtain⟨s,a,_,hq2⟩:=zPc b (zPb u)
   obtain⟨p,v,a⟩:=bf.mp a
   obtain⟨l,hl,rfl⟩:=av.mp a
   obtain⟨m,d,rfl⟩:=av.mp hq2
   have w:=(h.row p v).2.2 m d
   have y:=gM ((qP _ _ _).mp (aI.mp hl).1)
   show(m.2++l).length<=i+1
   rw[aw];omega
noncomputable def qF (ps:List (S×S)) (f:S->S->Int×Int) (o n:Nat) (wt:Int) (pat:List S):List (S×zI):=pat.foldl (fun ly x=>zAQ ps f o n ly x) [([],[(wt,[])])]
theorem zEN (ps:List (S×S))(f:S->S->Int×Int)(o n:Nat)(a:Int)(pat:List S)(x:S):qF ps f o n a (pat++[x])=zAQ ps f o n (qF ps f o n a pat) x:=by
 unfold qF;rw[fj];rfl
noncomputable def jM (ps:List (S×S))(f:S->S->Int×Int)(r:S×zI):zI:=if(r.1,[])∈ps then r.2.map fun q=>(yB q.1 (f r.1 []),q.2)else []
noncomputable def vV (ps:List (S×S))(f:S->S->Int×Int)(ly:List (S×zI)):zI:=ly.flatMap (jM ps f)
structure HvOk (ps:List (S×S)) (f:S->S->Int×Int) (o n:Nat) (wt:Int) (pat:List S):Prop where
 step:∀i,i<pat.length->∀r∈y6 ((qF ps f o n wt (pat.take i)).flatMap (yX (zU ps) f o (pat.getD i []))),r.2.Nodup/\r.2.length<64
 fin:(vV ps f (qF ps f o n wt pat)).Nodup/\(vV ps f (qF ps f o n wt pat)).length<64
section
variable{P:aH}{w:aW}{K:ag}{mg:Str->Option ai}{base:bB}
noncomputable abbrev sHA:cT:=top 40
theorem zIK:FnScope ["parts","order","weight","pattern","many","layer","wanted","ended","end","pairs"] ["parts","order","weight","pattern","many"] (defScope sHA):=z9
theorem zIL:(["end","parts","heavy","text"]:List Str).Nodup:=by decide+kernel
noncomputable def zIM (K:ag)(T:ao):Sp:=fun vs H Q _=>∃(pd pl:ao) (o n:Nat) (bk:List S) (f:S->S->Int×Int) (wt:Int) (pat:List S),vs=[.ref pd,.int o,.int wt,.ref pl,.int n]/\Bk bk o/\kP K H pd (zB o bk) f/\Smf f/\H pl=some (.lst (pat.map sv))/\pat.length<=50/\n<=900/\y0 T H/\
 HvOk (zB o bk) f o n wt pat/\∀D H',zS T H H'->y0 T H'->H D=none->v2 K H' D (y8 n (vV (zB o bk) f (qF (zB o bk) f o n wt pat)))->Q (.ref D) H'
theorem zPe {f T:ao}{fd:aZ}(F:Fun K "heaviest_along" "heaviest_along" sHA f fd)(cN:zV P w K mg base 2 "next_heaviest" ["parts","order","layer","wanted","many"] (zII K T))(cL:zV P w K mg base 1 "left_of" ["weight","part"] (zEE K))
  (cH:zV P w K mg base 1 "heaviest" ["pairs","many"] (zCN K T)):FnOk P w K mg base zZ 3 f fd ["parts","order","weight","pattern","many"] (zIM K T):=by
 refine F.ok zIK (fun vs H Q E h=>?_) (fun cdv A outer s H vs Q E hr h=>?_)
 ·obtain⟨pd,pl,o,n,bk,f,wt,pat,rfl,_⟩:=h;rfl
 ·obtain⟨pd,pl,o,n,bk,ff,wt,pat,rfl,hb,hP,hS,hpl,hpn,hn,tab,hv,k⟩:=h
  have hu:=zAi hr
  have nd:=zIK.nd
  have r1:=hr.mono (j:=1) (by decide)
  refine⟨_,zM (yA (i:=5) nd rfl (Or.inl rfl) (zOx vL (v6 (zC (uN (zC (pv 2) (zC vL zE))) zE))))
   (zM (uL bR rfl (jB (pv 3)) (z7 (i:=6) nd rfl (Or.inl rfl))
     (zK (yA (i:=5) nd rfl (Or.inl rfl) (zW cN hr rfl (zC (pv 0) (zC (pv 1) (zC (pv 5) (zC (pv 6) (zC (pv 4) zE)))))))))
   (zM (yA (i:=7) nd rfl (Or.inl rfl) (v6 zE))
   (zM (zBU (uL bR rfl (zCJ (zBT K rfl ck eg fJ zBu (pv 5)))
     (gU rfl (yY (z7 (i:=8) nd rfl (Or.inr rfl)) (yY (z7 (i:=9) nd rfl (Or.inl rfl)) qC)))
     (zK (yR (zFU (zMA hu vL (zAh hu (pv 0) (pv 8) (fun _ _=>rfl))))
      (zK (v5 (kJ dN fA fB zBm (pv 7) (zC
       (uD (N:=["end","parts","heavy","text"]) (caps:=[8,0]) rfl (v9 (by kernel_rfl)) (jB (pv 9))
        (fun cl X s H ex=>gL K 2 rfl rfl (yY (z7 (i:=2) zIL rfl (Or.inl rfl)) (yY (z7 (i:=3) zIL rfl (Or.inl rfl)) qC)) rfl rfl) (fun cl X s H ex=>uO)
        (fun cl X s H ex=>uN (zC (zW cL r1 rfl (zC (pv 2) (zC (zAh hu (zAh hu (pv 1) (pv 0) (fun _ _=>rfl)) vL (fun _ _=>rfl)) zE))) (zC (pv 3) zE)))) zE))))
      yQ))))
   (zK (z0 (zW cH r1 rfl (zC (pv 7) (zC (pv 4) zE)))))))),?_⟩
  obtain⟨qs0,hT⟩:=kR tab
  have hT0:H T≠none:=by rw[hT];simp
  have fresh:∀{H':Hp} {b:ao},zS T H H'->y0 T H'->H' b=none->H b=none:=fun{H' b} sx tb hb0=>by
   cases z:H b with
   |none=>rfl
   |some u=>
    exfalso
    by_cases hbT:b=T
    ·obtain⟨qs',hT'⟩:=kR tb
     rw[hbT,hT']at hb0;cases hb0
    ·rw[sx _ _ hbT z]at hb0;cases hb0
  have hplT:pl≠T:=fun z=>by rw[z,hT]at hpl;cases hpl
  have h72:=zHx hb
  intro ld0 hld0
  refine⟨_,rfl,by show 2<=_;rw[aL];omega,fun ta hta=>⟨by show 1<=_;rw[aL];omega,fun la0 hla0=>⟨?_,Sum.inr (tx []),rfl,?_⟩⟩⟩
  ·rw[zG (fun z=>by subst z;rw[zG (fun y=>by subst y;rw[zF]at hta;cases hta),zF]at hla0;cases hla0),zG (fun y=>by subst y;rw[zF]at hta;cases hta),zF]
  have sa:zA H (upd H ld0 (.dK [])):=zA.upd1 hld0
  have ltne:ld0≠ta:=fun y=>by rw[<-y,zF]at hta;cases hta
  have sb:zA (upd H ld0 (.dK [])) (upd (upd H ld0 (.dK [])) ta (.tup [.int wt,.str ""])):=zA.upd1 hta
  have hta1:upd (upd H ld0 (.dK [])) ta (.tup [.int wt,.str ""]) ta=some (.tup [.int wt,.str ""]):=zF
  have hld1:upd (upd H ld0 (.dK [])) ta (.tup [.int wt,.str ""]) ld0=some (.dK []):=sb _ _ zF
  generalize upd (upd H ld0 (.dK [])) ta (.tup [.int wt,.str ""])=Ht at hla0 sb hta1 hld1
  have lne:ld0≠la0:=fun z=>by rw[<-z,hld1]at hla0;cases hla0
  have hldH:H ld0=none:=hld0
  have s1:zA H (upd (upd Ht la0 (.lst [.ref ta])) ld0 (.dK [((Sum.inr (tx []):zL),V.ref la0)])):=fun b u e=>by
   rw[zG (yF e hld0),zG (yF (sb _ _ (sa _ _ e)) hla0)];exact sb _ _ (sa _ _ e)
  have ly1:zBZ K (upd (upd Ht la0 (.lst [.ref ta])) ld0 (.dK [((Sum.inr (tx []):zL),V.ref la0)])) ld0 [([],[(wt,[])])]:=by
   refine⟨[([],la0,[(wt,[])])],rfl,zF,fun r hr=>?_⟩
   rw[aM.mp hr]
   refine⟨lne.symm,[.ref ta],by rw[zG lne.symm,zF],rfl,fun i p hi=>?_⟩
   cases i with
   |succ i=>cases hi
   |zero=>
    cases hi
    refine⟨ta,rfl,.inl (.of ?_)⟩
    rw[zG ltne.symm,zG (yF hta1 hla0)];exact hta1
  generalize upd (upd Ht la0 (.lst [.ref ta])) ld0 (.dK [((Sum.inr (tx []):zL),V.ref la0)])=H1 at s1 ly1
  refine⟨_,rfl,pl,rfl,⟨_,.of (s1 _ _ hpl)⟩,?_⟩
  refine jG (jF K pl (pat.map sv)) (fun i σ H'=>∃(ld:ao) (x6 x7 x8 x9:Option V),σ=[some (.ref pd),some (.int o),some (.int wt),some (.ref pl),some (.int n),some (.ref ld),x6,x7,x8,x9]/\zS T H H'/\y0 T H'/\H ld=none/\zBZ K H' ld (qF (zB o bk) ff o n wt (pat.take i))/\LyOk (zB o bk) i (qF (zB o bk) ff o n wt (pat.take i)))
   ⟨ld0,_,_,_,_,rfl,zS.of s1,vU tab s1,hld0,ly1,⟨by simp[qF],fun r hr=>?_⟩⟩ (fun i σ H' _ h=>.of (h.choose_spec.choose_spec.choose_spec.choose_spec.choose_spec.2.1 _ _ hplT hpl)) ?_ ?_
  ·have hr':r∈[(([]:S),[(wt,([]:S))])]:=hr
   rw[aM.mp hr']
   refine⟨zPM hb,by simp,fun q hq=>?_⟩
   rw[aM.mp hq];simp
  ·rintro i y σ H' Nx hNx hy ⟨ld,x6,x7,x8,x9,rfl,sx,tb,hldn,hla,hok⟩
   rw[az]at hy
   cases ei:pat[i]? with
   |none=>rw[ei]at hy;cases hy
   |some wd=>
   rw[ei]at hy
   have hy2:y=sv wd:=(aB hy).symm
   subst hy2
   have hi:i<pat.length:=(ak.mp ei).1
   have etk:pat.take (i+1)=pat.take i++[wd]:=by rw[aF hi,(ak.mp ei).2]
   have hst:=hv.step i hi
   have egd:pat.getD i []=wd:=by rw[bL,ei];rfl
   rw[egd]at hst
   refine⟨_,rfl,_,rfl,_,rfl,_,rfl,_,rfl,pd,ld,o,n,bk,ff,_,wd,rfl,hb,⟨H,hP,sx,tab,hldn⟩,hS,hla,bS hok.len h72,fun r hr=>?_,by omega,tb,hst,fun fo H2 sx2 tb2 hfo l2=>hNx _ _ ⟨fo,_,_,_,_,rfl,sx.trans sx2,tb2,fresh sx tb hfo,?_,?_⟩⟩
   ·obtain⟨a1,a2,a3⟩:=hok.row r hr
    exact⟨a1,a2,fun q hq=>bS (a3 q hq) (by omega)⟩
   ·rw[etk,zEN];exact l2
   ·rw[etk,zEN];exact hok.step hn
  ·rintro σ Hm ⟨ld,x6,x7,x8,x9,rfl,sx,tb,hldn,⟨la,l1,l2,l3⟩,hok⟩
   rw[ah,bw]at l1 hok
   have hv2:=hv.fin
   have k':=k
   generalize qF (zB o bk) ff o n wt pat=ly at l1 hok hv2 k'
   have hPt:PartsT K T Hm pd ld (zB o bk) ff:=⟨H,hP,sx,tab,hldn⟩
   refine⟨bo _,fun ea hea=>?_⟩
   have sE:zA Hm (upd Hm ea (.lst [])):=zA.upd1 hea
   have hE1:upd Hm ea (.lst []) ea=some (.lst []):=zF
   generalize upd Hm ea (.lst [])=H2 at sE hE1
   have hd1:=sE _ _ l2
   refine⟨ld,_,hd1,?_⟩
   refine⟨_,rfl,.inr (.inr (.inl ⟨rfl,.inl ⟨_,hd1⟩⟩)),ld,_,rfl,rfl,hd1,fun p hp=>?_⟩
   have sH2:zA H2 (upd H2 p (VW p ld)):=zA.upd1 hp
   refine⟨p,ld,_,rfl,zF,sH2 _ _ hd1,fun ob=>?_⟩
   have lel:ea≠ld:=(yF l2 hea).symm
   generalize hkv:z5 (fun v:ao×zI=>V.ref v.1) la=kvs at l2 hd1
   generalize hH3:upd (upd H2 p (VW p ld)) ld (.frz ob (.dK kvs))=H3
   generalize hHA:upd Hm ld (.frz ob (.dK kvs))=HA
   have hAld:HA ld=some (.frz ob (.dK kvs)):=by rw[<-hHA,zF]
   have hAx:zS ld Hm HA:=by rw[<-hHA];exact vS
   have hAea:HA ea=none:=by rw[<-hHA,zG lel];exact hea
   have s3:zA HA H3:=fun b u e=>by
    rw[<-hH3]
    by_cases hb':b=ld
    ·subst hb';rw[hAld]at e;rw[zF];exact e
    ·rw[<-hHA,zG hb']at e
     rw[zG hb']
     exact sH2 _ _ (sE _ _ e)
   have hea3:H3 ea=some (.lst []):=by rw[<-hH3,zG lel];exact sH2 _ _ hE1
   refine zCK (fun i σ H'=>(∃x8 x9:Option V,σ=[some (.ref pd),some (.int o),some (.int wt),some (.ref pl),some (.int n),some (.ref ld),x6,some (.ref ea),x8,x9])/\zA HA H'/\v2 K H' ea (vV (zB o bk) ff (ly.take i)))
    ⟨⟨_,_,rfl⟩,s3,[],hea3,rfl,fun i p hi=>by cases hi⟩ (fun i σ H' _ h=>h.2.1 _ _ hAld) ?_ ?_
   ·rintro i q T0 σ H' Nx hN hq ⟨⟨x8',x9',rfl⟩,sm,hpe⟩ hT0'
    rw[<-hkv]at hq
    unfold z5 vP at hq
    rw[az,az]at hq
    cases ei:la[i]? with
    |none=>rw[ei]at hq;cases hq
    |some r0=>
    rw[ei]at hq
    have hq2:q=(Sum.inr (tx r0.1),V.ref r0.2.1):=(aB hq).symm
    subst hq2
    have hmem:r0∈la:=bg ei
    have eli:ly[i]?=some (r0.1,r0.2.2):=by rw[<-l1,az,ei];rfl
    have hi:i<ly.length:=(ak.mp eli).1
    obtain⟨⟨l0,hl0⟩,hl900,hl60⟩:=hok.row _ (bg eli)
    have hl0:(r0.1,l0)∈zB o bk:=hl0
    have hl900:r0.2.2.length<=900:=hl900
    have etk:vV (zB o bk) ff (ly.take (i+1))=vV (zB o bk) ff (ly.take i)++jM (zB o bk) ff (r0.1,r0.2.2):=by
     unfold vV
     rw[aF hi,(ak.mp eli).2,eD];simp
    have hel:(vV (zB o bk) ff (ly.take i)).length<=900*72:=by
     have h1:=zAy (jM (zB o bk) ff) 900 (ly.take i) fun a ha=>by
      have h2:=(hok.row a (bN ha)).2.1
      unfold jM
      split
      ·rw[ah];exact h2
      ·simp
     have h2:=hok.len
     have h3:(ly.take i).length<=72:=by rw[aO];omega
     unfold vV
     exact bS h1 (by rw[tP];exact om _ h3)
    obtain⟨ra,kv,kvs2,e1,e2,g2,g3,g4,g5,rne,pdl,pdn⟩:=hPt.row hl0
    refine⟨T0,[sv r0.1,.ref r0.2.1],rfl,.of zF,rfl,_,_,rfl,_,_,rfl,rfl,?_⟩
    generalize hH4:upd H' T0 (HO.tup [kV ((Sum.inr (tx r0.1):zL),V.ref r0.2.1).1,((Sum.inr (tx r0.1):zL),V.ref r0.2.1).2])=H4
    have s4:zA H' H4:=by rw[<-hH4];exact zA.upd1 hT0'
    have sm4:=sm.trans s4
    have pe4:=hpe.same s4
    have hAra:HA ra=some (.dK (z5 id kv)):=hAx _ _ rne g3
    have rdA:Rd HA pd (.dK kvs2):=by
     rcases e1 with e1|⟨o',e1⟩
     ·exact .inl (hAx _ _ pdl e1)
     ·exact .inr ⟨o',hAx _ _ pdl e1⟩
    have dg:∀{G:Hp},zA HA G->vR G pd (sv r0.1) (some (.ref ra)):=fun{G} sG=>.inl ⟨kvs2,Sum.inr (tx r0.1),(by
     rcases rdA with z|⟨o',z⟩
     ·exact .inl (sG _ _ z)
     ·exact .inr ⟨o',sG _ _ z⟩),rfl,e2.symm⟩
    have ndk:(kv.map (·.1)).Nodup:=by
     rw[g4]
     exact zEM _ _
    have dgv:∀{G:Hp},zA HA G->vR G ra (sv []) (zO kv []):=fun{G} sG=>by
     have:=vR.k (k:=Sum.inr (tx [])) (sG _ _ hAra)
     rw[kN,Option.map_id]at this
     exact this
    have hin:(zO kv []).isSome=true↔(r0.1,([]:S))∈zB o bk:=by
     rw[<-qP,<-g4]
     constructor
     ·intro h
      obtain⟨v,hv'⟩:=ij.mp h
      exact av.mpr ⟨_,(vF ndk _ _).mpr hv',rfl⟩
     ·intro h
      obtain⟨q',hq',e'⟩:=av.mp h
      have:(([]:S),q'.2)∈kv:=by rw[<-e'];exact hq'
      rw[(vF ndk _ _).mp this];rfl
    refine⟨_,rfl,_,rfl,pd,.ref ra,rfl,dg sm4,ra,_,rfl,dgv sm4,_,rfl,?_⟩
    refine zGT (fun hm=>?_) (fun hm=>?_)
    ·have hyes:(r0.1,([]:S))∈zB o bk:=hin.mp hm
     obtain⟨v,hgv⟩:=ij.mp (hin.mpr hyes)
     have hvm:(([]:S),v)∈kv:=(vF ndk _ _).mpr hgv
     have frA0:yZ K HA v (ff r0.1 []):=hAx.frA (zAP l2) (g5 _ hvm)
     have e0:jM (zB o bk) ff (r0.1,r0.2.2)=r0.2.2.map fun q=>(yB q.1 (ff r0.1 []),q.2):=by unfold jM;rw[if_pos hyes]
     generalize hqs:r0.2.2.map (fun q=>(yB q.1 (ff r0.1 []),q.2))=qs at e0
     obtain⟨ts,t1,t2,t3⟩:=pe4
     have prA:v2 K HA r0.2.1 r0.2.2:=(l3 r0 hmem).2.sameX hAx (zAP l2) (l3 r0 hmem).1
     obtain⟨tl,p1,p2,p3⟩:=prA.same sm4
     refine⟨_,rfl,.inl ⟨rfl,_,.of t1⟩,_,rfl,r0.2.1,rfl,⟨_,.of p1⟩,?_⟩
     refine qK (jF K r0.2.1 tl) [some (sv r0.1),some (.ref pd)] 2 (by rw[p2];omega) (fun m acc H10=>zA H4 H10/\acc.length=m/\∀(m':Nat) (p:Int×S),m'<m->qs[m']?=some p->∃a,acc[m']?=some (.ref a)/\zX K H10 a [.int p.1,sv p.2])
      ⟨zA.refl _,rfl,fun m' p h=>absurd h (ng _)⟩ (fun m acc H10 _ h=>⟨.of (h.1 _ _ p1),by rw[h.2.1];exact aA _⟩) ?_ ?_
     ·rintro m y acc H10 ys Nx3 hN3 hy hys ⟨s10,al,hacc⟩
      obtain⟨y1,y2,rfl⟩:=zBX hys
      have hm1:m<r0.2.2.length:=by rw[<-p2];exact(ak.mp hy).1
      obtain⟨a,a1,a2⟩:=p3 m r0.2.2[m] (ay hm1)
      rw[hy]at a1
      cases a1
      generalize hpm:r0.2.2[m]=pm at a2
      have hqm2:qs[m]?=some (yB pm.1 (ff r0.1 []),pm.2):=by
       rw[<-hqs,az,ay hm1,hpm];rfl
      obtain⟨b1,b2,b3,b4⟩:=hS r0.1 []
      have s10A:=sm4.trans s10
      refine⟨a,[.int pm.1,sv pm.2],rfl,s10.seqT a2,rfl,_,_,rfl,_,_,rfl,rfl,?_⟩
      refine⟨_,rfl,_,rfl,_,rfl,pd,.ref ra,rfl,dg s10A,ra,v,rfl,by have:=dgv s10A;rw[hgv]at this;exact this,pm.1,v,ff r0.1 [],rfl,frA0.same s10A,b1,b2,b3,b4,?_⟩
      refine⟨_,rfl,by show 2<=_;rw[aL];omega,fun a9 ha9=>hN3 _ _ [some (.int pm.1),some (sv pm.2)] rfl ⟨s10.trans (zA.upd1 ha9),by rw[aw,al];rfl,fun m' p hm' hp'=>?_⟩⟩
      by_cases hmm2:m'=m
      ·subst hmm2
       rw[hqm2]at hp'
       cases hp'
       refine⟨a9,by rw[aP (by omega),al,iO];rfl,.inl (.of ?_)⟩
       rw[zF]
      ·obtain⟨a',z1,z2⟩:=hacc m' p (by omega) hp'
       exact⟨a',by rw[aS (by omega)];exact z1,(zA.upd1 ha9).seqT z2⟩
     ·rintro acc H10 ⟨s10,al,hacc⟩ D hD
      have sD:zA H10 (upd H10 D (.lst acc)):=zA.upd1 hD
      have hqn:qs.length=r0.2.2.length:=by rw[<-hqs,ah]
      have s11:=s10.trans sD
      refine⟨ea,D,ts,acc,rfl,rfl,s11 _ _ t1,zF,by rw[t2,al,p2,aL];omega,hN _ _ ⟨⟨_,_,rfl⟩,(sm4.trans s11).upd_new hAea,?_⟩⟩
      rw[etk,e0]
      refine⟨ts++acc,zF,by rw[aw,aw,t2,al,p2,hqn],fun i' p hi'=>?_⟩
      have nt:∀ys,¬Rd (upd H10 D (.lst acc)) ea (.tup ys):=by
       have h1:=s11 _ _ t1
       rintro ys (z|⟨o',z⟩)
       ·rw[h1]at z;cases z
       ·rw[h1]at z;cases z
      by_cases hlt:i'<(vV (zB o bk) ff (ly.take i)).length
      ·rw[aS hlt]at hi'
       obtain⟨a,z1,z2⟩:=t3 i' p hi'
       exact⟨a,by rw[aS (by omega)];exact z1,(vS (u:=.lst (ts++acc))).seqT nt (s11.seqT z2)⟩
      ·rw[aP (by omega)]at hi'
       have hb2:=(ak.mp hi').1
       obtain⟨a,z1,z2⟩:=hacc (i'- (vV (zB o bk) ff (ly.take i)).length) p (by omega) hi'
       exact⟨a,by rw[aP (by omega),t2];exact z1,(vS (u:=.lst (ts++acc))).seqT nt (sD.seqT z2)⟩
    ·have hno:(r0.1,([]:S))∉zB o bk:=fun z=>hm (hin.mpr z)
     refine hN _ _ ⟨⟨_,_,rfl⟩,sm4,?_⟩
     have e0:jM (zB o bk) ff (r0.1,r0.2.2)=[]:=by unfold jM;rw[if_neg hno]
     rw[etk,e0,dC]
     exact pe4
   ·rintro σ H' ⟨⟨x8',x9',rfl⟩,sm,hpe⟩
    refine⟨ob,sm _ _ hAld,?_⟩
    have ekl:kvs.length=ly.length:=by rw[<-hkv,jK,<-l1,ah]
    rw[ekl,bw]at hpe
    have s5:zA Hm (upd H' ld (.dK kvs)):=zA.thaw (by rw[hHA];exact sm) l2
    have pe5:v2 K (upd H' ld (.dK kvs)) ea (vV (zB o bk) ff ly):=hpe.sameX vS (zEI (sm _ _ hAld)) lel
    generalize upd H' ld (.dK kvs)=H5 at s5 pe5
    refine⟨_,rfl,_,rfl,ea,_,n,rfl,pe5,hv2.1,hv2.2,by omega,vU tb s5,fun D H6 rs sx6 tb6 hD srt pa=>?_⟩
    rw[zCQ srt]at pa
    exact k' D H6 ((sx.trans (zS.of s5)).trans sx6) tb6 (fresh (sx.trans (zS.of s5)) (vU tb s5) hD) pa
end
theorem zPf {p q:Int×S}(h:p≠q):yW p q\/yW q p:=by
 refine zHD fun z=>h ?_
 obtain⟨e1,a⟩:=bY z
 exact eI (by omega) (jJ a)
theorem zIN:∀(c:zI) (x:Int×S),c.Pairwise yW->x∉c->∃a:zI,a.Perm (x::c)/\a.Pairwise yW
 | [],x,_,_=>⟨[x],dy _,by simp⟩
 |r::c,x,h,e=>by
  obtain⟨f,g⟩:=cj.mp h
  have d:x≠r:=fun z=>e (by rw[z];exact au ..)
  rcases zPf d with z|z
  ·refine⟨x::r::c,dy _,cj.mpr ⟨fun y b=>?_,h⟩⟩
   rcases aE.mp b with rfl|b
   ·exact z
   ·exact zCP z (f y b)
  ·obtain⟨a,p,s⟩:=zIN c x g fun z=>e (aj _ z)
   refine⟨r::a,(p.cons r).trans (List.Perm.swap ..),cj.mpr ⟨fun y b=>?_,s⟩⟩
   rcases aE.mp (p.mem_iff.mp b)with rfl|b
   ·exact z
   ·exact f y b
theorem zIO:∀(ps:zI),ps.Nodup->∃a,zAw ps a
 | [],_=>⟨[],dy _,by simp⟩
 |x::ps,h=>by
  obtain⟨c,d⟩:=bp.mp h
  obtain⟨a,p,s⟩:=zIO ps d
  obtain⟨b,e,s'⟩:=zIN a x s fun z=>c (p.mem_iff.mp z)
  exact⟨b,e.trans (p.cons x),s'⟩
structure TopN (n:Nat) (A B:zI):Prop where
 srt:B.Pairwise yW
 len:B.length<=n
 sub:∀q∈B,q∈A
 cmp:∀a∈A,a∈B\/(n<=B.length/\∀b∈B,yW b a)
theorem kW {B:zI}(h:B.Pairwise yW):B.Nodup:=h.imp fun{a b} z e=>by rw[e]at z;exact zCO _ z
theorem top_best {n:Nat}{ps:zI}(h:ps.Nodup):TopN n ps (y8 n ps):=by
 obtain⟨f,d⟩:=zIO ps h
 rw[<-zCQ d]
 refine⟨d.2.sublist (fg _ _),by rw[aO];omega,fun q i=>d.1.mem_iff.mp (bN i),fun a ha=>?_⟩
 have e:=d.1.mem_iff.mpr ha
 rw[<-dw n f]at e
 rcases bz.mp e with z|z
 ·exact .inl z
 ·right
  have hl:n<=f.length:=by
   by_cases c:n<=f.length
   ·exact c
   ·rw[dS (by omega)]at z;cases z
  have g:=d.2
  rw[<-dw n f,nR]at g
  exact⟨by rw[aO];omega,fun b j=>g.2.2 b j a z⟩
theorem zPg {n:Nat}{G B L:zI}{x:Int×S}(T:TopN n G B)(nd:L.Nodup)(hl:n<=L.length)(f:∀l∈L,l∈G/\yW l x):n<=B.length/\∀b∈B,yW b x:=by
 by_cases c:∀l∈L,l∈B
 ·have g:=uZ L B nd c
  refine⟨by omega,fun b d=>?_⟩
  by_cases a:b∈L
  ·exact(f b a).2
  ·exfalso
   have e:=uZ L (B.erase b) nd fun l h=>(gh (fun z=>a (by rw[<-z];exact h))).mpr (c l h)
   rw[iq d]at e
   have m:0<B.length:=iP d
   have o:=T.len
   omega
 ·obtain⟨l,hl1,hl2⟩:∃l∈L,l∉B:=by
   apply lz
   intro hn
   exact c fun l h=>lz fun z=>hn ⟨l,h,z⟩
  obtain⟨g,e⟩:=f l hl1
  rcases T.cmp l g with z|⟨i,j⟩
  ·exact absurd z hl2
  ·exact⟨i,fun b d=>zCP (j b d) e⟩
theorem top_of {n:Nat}{A G:zI}(nd:G.Nodup)(b:∀q∈G,q∈A)(c:∀a∈A,a∈G\/∃L:zI,L.Nodup/\n<=L.length/\∀l∈L,l∈G/\yW l a):TopN n A (y8 n G):=by
 have T:=top_best (n:=n) nd
 refine⟨T.srt,T.len,fun q d=>b q (T.sub q d),fun a ha=>?_⟩
 rcases c a ha with z|⟨L,e,f,g⟩
 ·exact T.cmp a z
 ·exact .inr (zPg T e f g)
theorem TopN.unique {n:Nat}{A B C:zI}(l:A.Nodup)(h:TopN n A B)(a:TopN n A C):B=C:=by
 have key:∀{B C:zI},TopN n A B->TopN n A C->∀x∈B,x∈C:=by
  intro B C h a x d
  rcases a.cmp x (h.sub x d)with z|⟨m,f⟩
  ·exact z
  ·exfalso
   have g:=fun c (b:c∈C)=>h.cmp c (a.sub c b)
   have i:∀c∈C,c∈B:=fun c b=>by
    rcases g c b with y|⟨_,y⟩
    ·exact y
    ·exact absurd (zCP (y x d) (f c b)) (zCO x)
   have e:x∉C:=fun y=>zCO x (f x y)
   have j:=uZ (x::C) B (bp.mpr ⟨e,kW a.srt⟩) fun c b=>by
    rcases aE.mp b with rfl|b
    ·exact d
    ·exact i c b
   rw[aJ]at j
   have:=h.len
   omega
 exact zEH (zOk (kW h.srt) (kW a.srt) fun x=>⟨key h a x,key a h x⟩) h.srt a.srt
theorem zEO:∀(L a:List (S×zI)),(a.map (·.1)).Nodup->∀k:S,zO (L.foldl yV a) k=if(∃s∈L,s.1=k)then some ((zO a k).getD []++(L.filter fun s=>decide (s.1=k)).flatMap (·.2))else zO a k
 | [],a,_,k=>by rw[if_neg (by rintro⟨s,b,_⟩;cases b)];rfl
 |p::L,a,nd,k=>by
  rw[eY,zEO L (yV a p) (gI nd) k]
  have e:zO (yV a p) k=if p.1=k then some ((zO a p.1).getD []++p.2)else zO a k:=by
   unfold yV
   rw[zAo]
  rw[e]
  by_cases c:p.1=k
  ·rw[if_pos c,if_pos (⟨p,au ..,c⟩:∃s∈p::L,s.1=k),dJ (by simpa using c),ft,<-dP,c]
   split
   ·rfl
   ·rename_i hn
    have:L.filter (fun s=>decide (s.1=k))=[]:=List.filter_eq_nil_iff.mpr fun s b z=>hn ⟨s,b,of_decide_eq_true z⟩
    rw[this];simp
  ·rw[if_neg c,dM (by simpa using c)]
   by_cases f:∃s∈L,s.1=k
   ·obtain⟨s,b,d⟩:=f
    rw[if_pos ⟨s,b,d⟩,if_pos ⟨s,aj _ b,d⟩]
   ·rw[if_neg f,if_neg]
    rintro⟨s,b,d⟩
    rcases aE.mp b with rfl|b
    ·exact c d
    ·exact f ⟨s,b,d⟩
theorem zCR {L:List (S×zI)}{r:S×zI}(b:r∈y6 L):r.2=(L.filter fun s=>decide (s.1=r.1)).flatMap (·.2):=by
 have nd:=(zAx L).1
 have a:=(vF nd r.1 r.2).mp b
 unfold y6 at a
 rw[zEO L [] (by simp)]at a
 split at a
 ·have:=aB a
  rw[<-this];rfl
 ·cases a
theorem zPh {L:List (S×zI)}{s:S×zI}(a:s∈L):∃r∈y6 L,r.1=s.1:=by
 have nd:=(zAx L).1
 have h:=zEO L [] (by simp) s.1
 rw[if_pos ⟨s,a,rfl⟩]at h
 exact⟨_,(vF nd _ _).mpr h,rfl⟩
noncomputable def yD:List S->S->Bool
 | [],[]=>true
 |w::p,c::t=>(decide (w=[])||decide (w=[c]))&&yD p t
 |_,_=>false
theorem qV:∀{p:List S}{t:S},yD p t=true->t.length=p.length
 | [],[],_=>rfl
 |w::p,c::t,h=>by
  unfold yD at h
  rw[bA]at h
  rw[aJ,aJ,qV h.2]
 | [],c::t,h=>by cases h
 |w::p,[],h=>by cases h
theorem zEP:∀(p:List S) (t:S) (w:S) (c:Nat),yD (p++[w]) (t++[c])=(yD p t&& (decide (w=[])||decide (w=[c])))
 | [],[],w,c=>by unfold yD;simp[yD]
 |v::p,d::t,w,c=>by
  rw[cu,cu]
  unfold yD
  rw[zEP p t w c,Bool.and_assoc]
 | [],d::t,w,c=>by
  have:yD [] (d::t)=false:=rfl
  rw[this,nG]
  cases h:yD ([]++[w]) (d::t++[c])with
  |false=>rfl
  |true=>
   have:=qV h
   simp at this
 |v::p,[],w,c=>by
  have:yD (v::p) []=false:=rfl
  rw[this,nG]
  cases h:yD (v::p++[w]) ([]++[c])with
  |false=>rfl
  |true=>
   have:=qV h
   simp at this
theorem zIP (w:S)(c:Nat):mf w [c]=(decide (w=[])||decide (w=[c])):=by unfold mf;simp
theorem zCS {ps:List (S×S)}{nx:S->List S}(N:Lts ps nx)(h:zAO ps)(o:Nat):∀(pat:List S) (t:S),t∈Tx nx o pat↔yD pat t=true/\∀q∈pp o t,q∈ps:=by
 intro pat
 induction hn:pat.length generalizing pat with
 |zero=>
  intro t
  have:pat=[]:=cS.mp hn
  subst this
  show t∈[[]]↔_
  cases t with
  |nil=>simp[yD,zOc]
  |cons c t=>simp[yD]
 |succ n ih=>
  intro t
  obtain⟨p,w,rfl⟩:∃p w,pat=p++[w]:=by
   rcases iU pat with z|⟨u,c,z⟩
   ·rw[z]at hn;cases hn
   ·exact⟨u,c,by simpa using z⟩
  have f:p.length=n:=by simpa using hn
  rw[zAt]
  unfold zCM
  rw[bf]
  constructor
  ·rintro⟨u,i,j⟩
   obtain⟨l,hl,rfl⟩:=av.mp j
   obtain⟨hl1,hl2⟩:=aI.mp hl
   have g:=(N.mem _ _).mp hl1
   have a:l≠[]:=fun z=>by rw[z]at hl2;simp[mf]at hl2
   obtain⟨c,rfl⟩:=zAN (h _ _ g) a
   obtain⟨b,d⟩:=(ih p f u).mp i
   rw[zIP]at hl2
   refine⟨by rw[zEP,b,hl2];rfl,fun q e=>?_⟩
   rw[zDx]at e
   rcases bz.mp e with z|z
   ·exact d q z
   ·rw[aM.mp z];exact g
  ·rintro⟨b,d⟩
   have a:t≠[]:=fun z=>by
    have:=qV b
    rw[z]at this;simp at this
   obtain⟨u,c,rfl⟩:=zOi a
   rw[zEP,bA]at b
   rw[zDx]at d
   refine⟨u,(ih p f u).mpr ⟨b.1,fun q e=>d q (b0 _ e)⟩,av.mpr ⟨[c],aI.mpr ⟨(N.mem _ _).mpr (d _ (aX _ (by simp))),?_⟩,rfl⟩⟩
   rw[zIP];exact b.2
theorem zIQ {ps:List (S×S)}{nx:S->List S}(N:Lts ps nx)(h:zAO ps)(o:Nat):∀(pat:List S),(Tx nx o pat).Nodup:=by
 intro pat
 induction hn:pat.length generalizing pat with
 |zero=>
  have:pat=[]:=cS.mp hn
  subst this
  show([[]]:List S).Nodup
  simp
 |succ n ih=>
  obtain⟨p,w,rfl⟩:∃p w,pat=p++[w]:=by
   rcases iU pat with z|⟨u,c,z⟩
   ·rw[z]at hn;cases hn
   ·exact⟨u,c,by simpa using z⟩
  have i:p.length=n:=by simpa using hn
  rw[zAt]
  unfold zCM
  have one:∀u l,l∈(nx (zY u o)).filter (mf w)->∃c,l=[c]:=fun u l hl=>by
   obtain⟨hl1,hl2⟩:=aI.mp hl
   have d:l≠[]:=fun z=>by rw[z]at hl2;simp[mf]at hl2
   exact zAN (h _ _ ((N.mem _ _).mp hl1)) d
  refine zHd _ _ (ih p i) (fun u _=>?_) fun u _ v _ x j m=>?_
  ·refine pJ _ (fun a b f z=>f (List.append_cancel_left z)) ((N.nd _).filter _)
  ·obtain⟨l,hl,rfl⟩:=av.mp j
   obtain⟨q,g,e⟩:=av.mp m
   obtain⟨c,rfl⟩:=one _ _ hl
   obtain⟨r,rfl⟩:=one _ _ g
   exact(zDy e).1.symm
theorem zEQ (f:S->S->Int×Int)(o:Nat)(a:Int)(t:S)(c:Nat):Wt f o a (t++[c])=yB (Wt f o a t) (f (zY t o) [c]):=by
 unfold Wt;rw[zDx,fj];rfl
theorem zCT {ps:List (S×S)}{o:Nat}{U:Int}(c:0<U)(d:∀e l,(zP ps e l).2∣U){t:S}{m:Nat}(h:m+t.length=9):0<=Wt (zP ps) o (U^9) t/\U^m∣Wt (zP ps) o (U^9) t:=by
 have hl:(pp o t).length=t.length:=by unfold pp;simp
 obtain⟨a,b,_⟩:=zEA (T:=1) (by decide) d (pp o t) m (U^9) (cY (gj c)) (by rw[hl,h];exact tY _)
 exact⟨a,b⟩
theorem zPi {U w1 w2:Int}{m:Nat}{q:Int×Int}(a:q.2∣U)(c:0<q.2)(d:0<q.1)(e:U^(m+1)∣w1)(f:U^(m+1)∣w2)(h:w1<w2):yB w1 q<yB w2 q:=by
 have e1:=zDz a e
 have g:=zDz a f
 have b:w1*q.1<w2*q.1:=gc h d
 rw[<-e1,<-g]at b
 exact gm b (cY c)
theorem zIR {U w1 w2:Int}{m:Nat}{q:Int×Int}{a b:S}(d:q.2∣U)(f:0<q.2)(g:0<q.1)(i:U^(m+1)∣w1)(j:U^(m+1)∣w2)(hl:a.length=b.length)(l:S)(h:yW (w1,a) (w2,b)):yW (yB w1 q,a++l) (yB w2 q,b++l):=by
 unfold yW uY at h⊢
 dsimp only at h⊢
 by_cases e:-w1=-w2
 ·rw[if_pos e]at h
  have n:w1=w2:=by omega
  subst n
  rw[if_pos rfl]
  have c:=of_decide_eq_true h
  exact decide_eq_true (zHg l l hl c)
 ·rw[if_neg e]at h
  have c:=of_decide_eq_true h
  have o:=zPi d f g j i (by omega:w2<w1)
  rw[if_neg (by omega)]
  exact decide_eq_true (by omega)
theorem zPj {U w1 w2:Int}{m:Nat}{q:Int×Int}{a b:S}(c:q.2∣U)(d:0<q.2)(e:0<q.1)(f:U^(m+1)∣w1)(g:U^(m+1)∣w2)(hl:a.length=b.length)(h:yW (w1,a) (w2,b)):yW (yB w1 q,a) (yB w2 q,b):=by
 have:=zIR c d e f g hl [] h
 rw[dC,dC]at this
 exact this
noncomputable def zAR (ps:List (S×S))(o:Nat)(U:Int)(Tt:List S)(e:S):zI:=(Tt.filter fun t=>decide (zY t o=e)).map fun t=>(Wt (zP ps) o (U^9) t,t)
theorem uF {ps:List (S×S)}{o:Nat}{U:Int}{Tt:List S}{e:S}{q:Int×S}:q∈zAR ps o U Tt e↔q.2∈Tt/\zY q.2 o=e/\q.1=Wt (zP ps) o (U^9) q.2:=by
 unfold zAR
 rw[av]
 constructor
 ·rintro⟨t,c,rfl⟩
  obtain⟨a,b⟩:=aI.mp c
  exact⟨a,of_decide_eq_true b,rfl⟩
 ·rintro⟨a,b,d⟩
  exact⟨q.2,aI.mpr ⟨a,decide_eq_true b⟩,eI d.symm rfl⟩
structure LInv (ps:List (S×S)) (o n:Nat) (U:Int) (Tt:List S) (ly:List (S×zI)):Prop where
 nd:(ly.map (·.1)).Nodup
 top:∀r∈ly,TopN n (zAR ps o U Tt r.1) r.2
 has:∀t∈Tt,∃r∈ly,r.1=zY t o
 key:∀r∈ly,∃t∈Tt,r.1=zY t o
theorem zPk {U:Int}{ps:List (S×S)}{o n:Nat}{Tt:List S}{e:S}{B:zI}(T:TopN n (zAR ps o U Tt e) B){a b:Int×S}(ha:a∈B)(c:b∈B)(h:a.2=b.2):a=b:=by
 obtain⟨_,_,d⟩:=uF.mp (T.sub a ha)
 obtain⟨_,_,f⟩:=uF.mp (T.sub b c)
 exact eI (by rw[d,f,h]) h
theorem zCU {U:Int}{ps:List (S×S)}{o n:Nat}{Tt:List S}{e:S}{B:zI}(T:TopN n (zAR ps o U Tt e) B)(g:Int->Int)(l:S):(B.map fun q=>(g q.1,q.2++l)).Nodup:=by
 rw[dq,bD]
 refine cb ?_ (kW T.srt)
 intro a b ha d c z
 exact c (zPk T ha d (List.append_cancel_right (bY z).2))
section
variable{o n:Nat}{bk:List S}{U:Int}{ly:List (S×zI)}{pat:List S}{w:S}
theorem zCV {s:S×zI}(a:s∈ly.flatMap (yX (zU (zB o bk)) (zP (zB o bk)) o w)):∃r∈ly,∃c,(r.1,[c])∈zB o bk/\mf w [c]=true/\s=(zY (r.1++[c]) o,r.2.map fun q=>(yB q.1 (zP (zB o bk) r.1 [c]),q.2++[c])):=by
 obtain⟨r,e,a⟩:=bf.mp a
 obtain⟨l,hl,rfl⟩:=av.mp a
 obtain⟨f,b⟩:=aI.mp hl
 have d:=(qP _ _ _).mp f
 have hn:l≠[]:=fun z=>by rw[z]at b;simp[mf]at b
 obtain⟨c,rfl⟩:=zAN (gM d) hn
 exact⟨r,e,c,d,b,rfl⟩
theorem zIS {r:S×zI}{c:Nat}(a:r∈ly)(b:(r.1,[c])∈zB o bk)(hf:mf w [c]=true):(zY (r.1++[c]) o,r.2.map fun q=>(yB q.1 (zP (zB o bk) r.1 [c]),q.2++[c]))∈ly.flatMap (yX (zU (zB o bk)) (zP (zB o bk)) o w) :=
 bf.mpr ⟨r,a,av.mpr ⟨[c],aI.mpr ⟨(qP _ _ _).mpr b,hf⟩,rfl⟩⟩
theorem zPl (h:LInv (zB o bk) o n U (Tx (zU (zB o bk)) o pat) ly):(ly.flatMap (yX (zU (zB o bk)) (zP (zB o bk)) o w)).Pairwise fun a b=>∀x∈a.2,∀y∈b.2,x≠y:=by
 rw[dZ]
 have one:∀{e l},l∈(zU (zB o bk) e).filter (mf w)->∃c,l=[c]:=fun{e l} hl=>by
  obtain⟨g,u⟩:=aI.mp hl
  have hn:l≠[]:=fun z=>by rw[z]at u;simp[mf]at u
  exact zAN (gM ((qP _ _ _).mp g)) hn
 refine⟨fun r v=>?_,?_⟩
 ·unfold yX
  rw[bD]
  refine cb ?_ ((zEM _ r.1).filter (mf w))
  intro a b ha i f x j y m z
  obtain⟨c,rfl⟩:=one ha
  obtain⟨d,rfl⟩:=one i
  obtain⟨q,_,rfl⟩:=av.mp j
  obtain⟨A,_,rfl⟩:=av.mp m
  have:=(zDy (bY z).2).2
  exact f (by rw[this])
 ·have g:=h.nd
  rw[dq,bD]at g
  refine cb ?_ g
  intro r B v p f a ha b i x j y m z
  obtain⟨l,hl,rfl⟩:=av.mp ha
  obtain⟨E,s,rfl⟩:=av.mp i
  obtain⟨c,rfl⟩:=one hl
  obtain⟨d,rfl⟩:=one s
  obtain⟨q,C,rfl⟩:=av.mp j
  obtain⟨A,t,rfl⟩:=av.mp m
  have e:=(zDy (bY z).2).1
  have e1:=(uF.mp ((h.top r v).sub q C)).2.1
  have D:=(uF.mp ((h.top B p).sub A t)).2.1
  exact f (by rw[<-e1,<-D,e])
theorem zER (h:LInv (zB o bk) o n U (Tx (zU (zB o bk)) o pat) ly){r:S×zI}(b:r∈y6 (ly.flatMap (yX (zU (zB o bk)) (zP (zB o bk)) o w))):r.2.Nodup:=by
 rw[zCR b,dq,dZ]
 refine⟨fun s d=>?_,(zPl h).sublist oo⟩
 obtain⟨a,hr0,c,e,f,rfl⟩:=zCV (aI.mp d).1
 exact zCU (h.top a hr0) (fun x=>yB x (zP (zB o bk) a.1 [c])) [c]
theorem zIT {ps:List (S×S)}{e l:S}(h:(e,l)∈ps):0<(zP ps e l).1:=by
 have b:=d9.mpr h
 have c:=zAp ps e l
 unfold zP
 rw[if_neg (by omega)]
 have f:=gJ (u:=(ps.count (e,l):Int)) (d:=(tot ps e:Int)) (by omega) (by omega)
 have cr:=zAK (u:=(ps.count (e,l):Int)) (d:=(tot ps e:Int)) (by omega)
 show 0<(low (ps.count (e,l):Int) (tot ps e:Int)).1
 have a:0<(ps.count (e,l):Int)*(low (ps.count (e,l):Int) (tot ps e:Int)).2:=lL (by omega) f.dn
 rw[<-cr]at a
 exact Int.pos_of_mul_pos_left a (by omega)
theorem LInv.step (D:0<U)(I:∀e l,(zP (zB o bk) e l).2∣U)(h:LInv (zB o bk) o n U (Tx (zU (zB o bk)) o pat) ly)(hp:pat.length<=8):LInv (zB o bk) o n U (Tx (zU (zB o bk)) o (pat++[w])) (zAQ (zB o bk) (zP (zB o bk)) o n ly w):=by
 have P:=zAx (ly.flatMap (yX (zU (zB o bk)) (zP (zB o bk)) o w))
 have tl:∀t∈Tx (zU (zB o bk)) o pat,t.length=pat.length:=fun t i=>qV ((zCS (lts _) (j3 o bk) o pat t).mp i).1
 have snoc:∀{t:S} {c:Nat},t∈Tx (zU (zB o bk)) o pat->(zY t o,[c])∈zB o bk->mf w [c]=true->t++[c]∈Tx (zU (zB o bk)) o (pat++[w]):=fun{t c} i u hf=>by
  rw[zAt]
  exact bf.mpr ⟨t,i,av.mpr ⟨[c],aI.mpr ⟨(qP _ _ _).mpr u,hf⟩,rfl⟩⟩
 have j:∀{t':S},t'∈Tx (zU (zB o bk)) o (pat++[w])->∃t c,t'=t++[c]/\t∈Tx (zU (zB o bk)) o pat/\(zY t o,[c])∈zB o bk/\mf w [c]=true:=fun{t'} i=>by
  rw[zAt]at i
  obtain⟨t,J,v⟩:=bf.mp i
  obtain⟨l,hl,rfl⟩:=av.mp v
  obtain⟨A,v⟩:=aI.mp hl
  have u:=(qP _ _ _).mp A
  have hn:l≠[]:=fun z=>by rw[z]at v;simp[mf]at v
  obtain⟨c,rfl⟩:=zAN (gM u) hn
  exact⟨t,c,rfl,J,u,v⟩
 refine⟨?_,fun r L=>?_,fun t' M=>?_,fun r L=>?_⟩
 ·unfold zAQ
  rw[bc]
  exact P.1
 ·obtain⟨p,d,rfl⟩:=av.mp L
  show TopN n (zAR _ o U _ p.1) (y8 n p.2)
  have E:∀{b:S×zI} {c:Nat} {q:Int×S},b∈ly->(b.1,[c])∈zB o bk->mf w [c]=true->zY (b.1++[c]) o=p.1->q∈b.2->(yB q.1 (zP (zB o bk) b.1 [c]),q.2++[c])∈p.2:=fun{b c q} A v T W X=>by
   rw[zCR d]
   exact bf.mpr ⟨_,aI.mpr ⟨zIS A v T,decide_eq_true W⟩,av.mpr ⟨q,X,rfl⟩⟩
  refine top_of (zER h d) (fun q y=>?_) fun a ha=>?_
  ·rw[zCR d]at y
   obtain⟨s,N,y⟩:=bf.mp y
   obtain⟨O,B⟩:=aI.mp N
   obtain⟨b,hr0,c,A,v,rfl⟩:=zCV O
   have B:zY (b.1++[c]) o=p.1:=of_decide_eq_true B
   obtain⟨G,hq0,rfl⟩:=av.mp y
   obtain⟨e1,C,H⟩:=uF.mp ((h.top b hr0).sub G hq0)
   refine uF.mpr ⟨snoc e1 (by rw[C];exact A) v,?_,?_⟩
   ·show zY (G.2++[c]) o=p.1
    rw[<-zBV,C,B]
   ·show yB G.1 _=Wt _ _ _ (G.2++[c])
    rw[zEQ,C,H]
  ·obtain⟨Y,a2⟩:=a
   obtain⟨e1,C,H⟩:=uF.mp ha
   dsimp only at e1 C H
   obtain⟨t,c,rfl,i,u,hf⟩:=j e1
   obtain⟨b,hr0,g⟩:=h.has t i
   rw[<-g]at u
   have F:zY (b.1++[c]) o=p.1:=by rw[g,zBV,C]
   have Q:Y=yB (Wt (zP (zB o bk)) o (U^9) t) (zP (zB o bk) b.1 [c]):=by rw[H,zEQ,g]
   rcases(h.top b hr0).cmp (Wt (zP (zB o bk)) o (U^9) t,t) (uF.mpr ⟨i,g.symm,rfl⟩)with z|⟨Z,z2⟩
   ·left
    rw[Q]
    exact E hr0 u hf F z
   ·right
    refine⟨b.2.map fun q=>(yB q.1 (zP (zB o bk) b.1 [c]),q.2++[c]),zCU (h.top b hr0) (fun x=>yB x (zP (zB o bk) b.1 [c])) [c],by rw[ah];exact Z,fun l hl=>?_⟩
    obtain⟨q,y,rfl⟩:=av.mp hl
    refine⟨E hr0 u hf F y,?_⟩
    rw[Q]
    obtain⟨b1,b2,b3⟩:=uF.mp ((h.top b hr0).sub q y)
    have l1:=tl q.2 b1
    have l2:=tl t i
    have f:=zAq (zB o bk) b.1 [c]
    refine zIR (m:=8-pat.length) (I _ _) f.dn (zIT u) ?_ ?_ (by rw[l1,l2]) [c] (z2 q y)
    ·rw[b3];exact(zCT D I (by omega)).2
    ·exact(zCT D I (by omega)).2
 ·obtain⟨t,c,rfl,i,u,hf⟩:=j M
  obtain⟨b,hr0,g⟩:=h.has t i
  rw[<-g]at u
  obtain⟨p,d,e⟩:=zPh (zIS hr0 u hf)
  refine⟨_,av.mpr ⟨p,d,rfl⟩,?_⟩
  show p.1=_
  rw[e]
  show zY (b.1++[c]) o=_
  rw[g,zBV]
 ·obtain⟨p,d,rfl⟩:=av.mp L
  obtain⟨s,N,e⟩:=av.mp (P.2 p.1 (av.mpr ⟨p,d,rfl⟩))
  obtain⟨b,hr0,c,A,v,rfl⟩:=zCV N
  obtain⟨t,i,R⟩:=h.key b hr0
  refine⟨t++[c],snoc i (by rw[<-R];exact A) v,?_⟩
  show p.1=_
  rw[<-e]
  show zY (b.1++[c]) o=_
  rw[R,zBV]
theorem LInv.start (hn:1<=n):LInv (zB o bk) o n U (Tx (zU (zB o bk)) o []) [([],[(U^9,[])])]:=by
 have c:zY ([]:S) o=[]:=by unfold zY;simp
 refine⟨by simp,fun r d=>?_,fun t e=>?_,fun r d=>?_⟩
 ·rw[aM.mp d]
  have ha:∀q:Int×S,q∈zAR (zB o bk) o U (Tx (zU (zB o bk)) o []) []↔q=(U^9,[]):=fun q=>by
   rw[uF]
   constructor
   ·rintro⟨b,i,f⟩
    have b:q.2∈[([]:S)]:=b
    have b:=aM.mp b
    rw[b]at f
    exact eI f b
   ·rintro rfl
    exact⟨bJ _,c,rfl⟩
  exact⟨by simp,hn,fun q g=>(ha q).mpr (aM.mp g),fun a h=>.inl (by rw[(ha a).mp h];exact bJ _)⟩
 ·have e:t∈[([]:S)]:=e
  rw[aM.mp e]
  exact⟨_,bJ _,c.symm⟩
 ·rw[aM.mp d]
  exact⟨[],bJ _,c.symm⟩
theorem zCW (a:0<U)(b:∀e l,(zP (zB o bk) e l).2∣U)(hn:1<=n)(pat:List S):∀i,i<=pat.length->i<=9->LInv (zB o bk) o n U (Tx (zU (zB o bk)) o (pat.take i)) (qF (zB o bk) (zP (zB o bk)) o n (U^9) (pat.take i))
 |0,_,_=>by rw[nM];exact LInv.start hn
 |i+1,c,d=>by
  have ih:=zCW a b hn pat i (by omega) (by omega)
  rw[aF (by omega),zEN]
  exact ih.step a b (by rw[aO];omega)
noncomputable def zES (ps:List (S×S))(o:Nat)(U:Int)(Tt:List S):zI:=(Tt.filter fun t=>decide ((zY t o,[])∈ps)).map fun t=>(Wn ps o (U^9) t,t)
theorem zIU {ps:List (S×S)}{o:Nat}{U:Int}{Tt:List S}{q:Int×S}:q∈zES ps o U Tt↔q.2∈Tt/\(zY q.2 o,[])∈ps/\q.1=Wn ps o (U^9) q.2:=by
 unfold zES
 rw[av]
 constructor
 ·rintro⟨t,c,rfl⟩
  obtain⟨a,b⟩:=aI.mp c
  exact⟨a,of_decide_eq_true b,rfl⟩
 ·rintro⟨a,b,d⟩
  exact⟨q.2,aI.mpr ⟨a,decide_eq_true b⟩,eI d.symm rfl⟩
theorem zCX {f:S->S->Int×Int}{ps:List (S×S)}{q:Int×S}:q∈vV ps f ly↔∃r∈ly,(r.1,[])∈ps/\∃p∈r.2,q=(yB p.1 (f r.1 []),p.2):=by
 unfold vV jM
 rw[bf]
 constructor
 ·rintro⟨r,a,h⟩
  split at h
  ·rename_i b
   obtain⟨p,c,rfl⟩:=av.mp h
   exact⟨r,a,b,p,c,rfl⟩
  ·cases h
 ·rintro⟨r,a,b,p,c,rfl⟩
  refine⟨r,a,?_⟩
  rw[if_pos b]
  exact av.mpr ⟨p,c,rfl⟩
theorem zET (h:LInv (zB o bk) o n U (Tx (zU (zB o bk)) o pat) ly):(vV (zB o bk) (zP (zB o bk)) ly).Nodup:=by
 unfold vV
 rw[dq,dZ]
 refine⟨fun r c=>?_,?_⟩
 ·unfold jM
  split
  ·have:=zCU (h.top r c) (fun x=>yB x (zP (zB o bk) r.1 [])) []
   simp only[dC]at this
   exact this
  ·simp
 ·have i:=h.nd
  rw[dq,bD]at i
  refine cb ?_ i
  intro r j c d f x a y b z
  unfold jM at a b
  split at a
  ·split at b
   ·obtain⟨q,l,rfl⟩:=av.mp a
    obtain⟨m,g,rfl⟩:=av.mp b
    have e:=(bY z).2
    have e1:=(uF.mp ((h.top r c).sub q l)).2.1
    have p:=(uF.mp ((h.top j d).sub m g)).2.1
    exact f (by rw[<-e1,<-p,e])
   ·cases b
  ·cases a
theorem LInv.fin (i:0<U)(u:∀e l,(zP (zB o bk) e l).2∣U)(h:LInv (zB o bk) o n U (Tx (zU (zB o bk)) o pat) ly)(v:pat.length<=8):TopN n (zES (zB o bk) o U (Tx (zU (zB o bk)) o pat)) (y8 n (vV (zB o bk) (zP (zB o bk)) ly)):=by
 have tl:∀t∈Tx (zU (zB o bk)) o pat,t.length=pat.length:=fun t g=>qV ((zCS (lts _) (j3 o bk) o pat t).mp g).1
 refine top_of (zET h) (fun q j=>?_) fun a ha=>?_
 ·obtain⟨r,B,c,p,v,rfl⟩:=zCX.mp j
  obtain⟨e1,y,s⟩:=uF.mp ((h.top r B).sub p v)
  refine zIU.mpr ⟨e1,by show(zY p.2 o,[])∈_;rw[y];exact c,?_⟩
  show yB p.1 _=Wn _ _ _ p.2
  unfold Wn
  rw[y,s]
 ·obtain⟨C,t⟩:=a
  obtain⟨g,c,s⟩:=zIU.mp ha
  dsimp only at g c s
  obtain⟨b,hr0,d⟩:=h.has t g
  rw[<-d]at c
  have A:C=yB (Wt (zP (zB o bk)) o (U^9) t) (zP (zB o bk) b.1 []):=by rw[s,d];rfl
  rcases(h.top b hr0).cmp (Wt (zP (zB o bk)) o (U^9) t,t) (uF.mpr ⟨g,d.symm,rfl⟩)with z|⟨D,E⟩
  ·left
   rw[A]
   exact zCX.mpr ⟨b,hr0,c,_,z,rfl⟩
  ·right
   refine⟨b.2.map fun q=>(yB q.1 (zP (zB o bk) b.1 []),q.2),by simpa using zCU (h.top b hr0) (fun x=>yB x (zP (zB o bk) b.1 [])) [],by rw[ah];exact D,fun l hl=>?_⟩
   obtain⟨q,j,rfl⟩:=av.mp hl
   refine⟨zCX.mpr ⟨b,hr0,c,q,j,rfl⟩,?_⟩
   rw[A]
   obtain⟨F,J,G⟩:=uF.mp ((h.top b hr0).sub q j)
   have H:=tl q.2 F
   have I:=tl t g
   have f:=zAq (zB o bk) b.1 []
   refine zPj (m:=8-pat.length) (u _ _) f.dn (zIT c) ?_ ?_ (by rw[H,I]) (E q j)
   ·rw[G];exact(zCT i u (by omega)).2
   ·exact(zCT i u (by omega)).2
noncomputable def gN (bk:List S):Prop:=∀nm∈bk,∀c∈nm,c=97\/c=98\/c=122
end
end Kn.Ln
end
section
namespace L2
open PySem PySem.Spec PyProof.Rows
section
variable{X:Cx}{pins:List (ao×Obj)}{σ:St}{H:Hp}{s:aq}{e:ao}
theorem Inv.forget {h':bB}{u:Str->Option ai}{t':Nat}(I:Inv X pins σ H s)(j:h'.Ns X.env.locals u)(g:e7 X.env.locals s.heap h'):Inv X pins (aR X.N.length none) H {s with heap:=h',toks:=t'}:=by
 obtain⟨m,hn,_⟩:=id I.loc
 obtain⟨L,_,_,B,_⟩:=id hn
 have cne:=I.cne
 have a:z8 X.prog X.w H h':=fun b C q=>by
  refine(I.hok b C q).stay (fun c A D r=>(g.2 c ?_).trans r) (fun _ z=>z) fun _ _ z=>z
  rintro rfl
  rcases D with z|z
  ·have:=I.free
   rw[z,q]at this;cases this
  ·rw[I.free]at z;cases z
 have f:∀b o,X.s₀.heap.get? b=some o->b≠X.env.locals:=fun b o e=>aV (bq (aD e) I.ok.above)
 refine⟨I.ok,I.os,I.bare,⟨fun b o e n l h=>?_,fun b o e n l h=>?_,I.base.free,fun b o e h=>?_,I.base.tups,I.base.frzs,I.base.tbls⟩,⟨u,j,fun i x v e1 t M=>?_⟩,fun y c e=>?_,I.free,I.freeC,fun p E=>?_,a,by simp⟩
 ·exact(g.2 b (f b o e)).trans (I.base.keep b o e n l h)
 ·obtain⟨F,e1⟩:=I.base.slot b o e n l h
  exact⟨F,(g.2 b (f b o e)).trans e1⟩
 ·obtain⟨G,e1⟩:=I.base.there b o e h
  exact⟨G,(g.2 b (f b o e)).trans e1⟩
 ·rw[iD]at t
  split at t<;>cases t
 ·obtain⟨A,z⟩:=I.cell y c e
  exact⟨A,z.sameBut g (cne y c e)⟩
 ·obtain⟨e,n,ne,J,d⟩:=I.pin p E
  exact⟨(g.2 p.1 ne).trans e,n,ne,J,d⟩
end
end L2
end
section
namespace Kn
open PySem L2
mutual
noncomputable def Thg (H:Hp):dE->V->Prop
 | .none,v=>v=.non
 | .bool b,v=>v=.bl b
 | .int i,v=>v=.int i
 | .str x,v=>v=.str x
 | .list ds,v=>∃a xs,v=.ref a/\H a=some (.lst xs)/\Thgs H ds xs
 | .tuple ds,v=>∃a xs,v=.ref a/\H a=some (.tup xs)/\Thgs H ds xs
 | .dict _,_=>False
noncomputable def Thgs (H:Hp):List dE->List V->Prop
 | [],xs=>xs=[]
 |d::ds,xs=>∃y ys,xs=y::ys/\Thg H d y/\Thgs H ds ys
end
theorem Thgs.strs {H:Hp}:∀(l:List S),Thgs H (l.map fun x=>PyData.str (tx x)) (l.map sv)
 | []=>rfl
 |x::l=>⟨_,_,rfl,rfl,Thgs.strs l⟩
mutual
noncomputable def sml:dE->Bool
 | .str x=>decide (x.length<=900)&&x.cps.toList.all fun c=>decide (c<128)
 | .list ds=>decide (ds.length<=900)&&smls ds
 | .tuple ds=>decide (ds.length<=900)&&smls ds
 | .dict _=>false
 |_=>true
noncomputable def smls:List dE->Bool
 | []=>true
 |d::ds=>sml d&&smls ds
end
section
variable{P:aH}{w:aW}{K:ag}{mg:Str->Option ai}{base:bB}
noncomputable def flags (j:Nat):List Bool:=[decide (0=j),decide (1=j),decide (2=j),decide (3=j),decide (4=j),decide (5=j),decide (6=j),decide (7=j)]
end
end Kn
end
section
namespace L2
open PySem PySem.Spec PyProof.Rows
section
open MyS PySem.W
variable{prog:aH}{w:aW}{A:bK}{E:ai->aq->Prop}{s:aq}
end
theorem zIV (lt:Nat->Nat->Bool):∀n,argBest lt n<=n
 |0=>aA _
 |n+1=>by
  have:=zIV lt n
  show(if lt (n+1) (argBest lt n)=true then n+1 else argBest lt n)<=n+1
  split<;>omega
section
open MyS PySem.W
variable{X:Cx}
end
theorem zPm (t:eP)(a:Array (Int×ai))(h:Int)(x:ai):(layNew t a h x).2.1.led=t.led/\(t.plain=false->(layNew t a h x).2.1.plain=false):=by
 unfold layNew
 split
 ·dsimp only
  unfold SetTable.orStandIn
  split
  ·exact⟨rfl,fun e=>e⟩
  ·exact⟨rfl,fun _=>rfl⟩
 ·exact⟨rfl,fun _=>rfl⟩
theorem zPn {mask a b:Nat}{c plain:Bool}{d:Array Int}{t:eP}{o:Array Nat}(e:tm mask a b c plain d=some (t,o)):t.led=c/\t.plain=plain:=by
 unfold tm at e
 cases q:SetTable.layClean mask d with
 |none=>rw[q]at e;cases e
 |some f=>
  rw[q]at e
  injection e with e
  injection e with e1 g
  subst e1
  exact⟨rfl,rfl⟩
theorem zPo (t:eP)(a:Array (Int×ai))(n:Nat):(relayAll t a n).2.1.led=t.led/\(t.plain=false->(relayAll t a n).2.1.plain=false):=by
 unfold relayAll
 split
 ·rename_i t' o e
  dsimp only
  have k:=zPn e
  split
  ·exact⟨k.1,fun q=>k.2.trans q⟩
  ·exact⟨rfl,fun _=>rfl⟩
 ·exact⟨rfl,fun _=>rfl⟩
noncomputable abbrev u7 (es:Array (Int×ai))(ep:Nat)(t:eP):Obj:={cls:=.type "set",dict:=none,data:=.set es ep t}
noncomputable def zPp (w:aW)(es:Array (Int×ai))(t:eP):Prop:=t.fits es.size=true/\t.led=!w.params.followText "set-order"/\ (es.size=0\/t.plain=false)
noncomputable def zAz (prog:aH)(w:aW)(h:bB)(a:ao)(es:Array (Int×ai)):Prop :=
 ∃ep t,h.get? a=some (u7 es ep t)/\ElemsOf (f7 prog w) es.toList/\es.size<scanBound/\zPp w es t
noncomputable def uG:ai->Str
 | .str x _=>x
 |_=>⟨#[]⟩
noncomputable abbrev u9 (es:Array (Int×ai)):List Str:=es.toList.map fun e=>uG e.2
theorem zEU {k:Str}{x:ai}(h:cU k x=true):uG x=k:=by
 obtain⟨t,rfl⟩:=eu h;rfl
theorem zPq {k:Str}{x:ai}(h:cU k x=true):x.scannable=true:=by
 obtain⟨t,rfl⟩:=eu h;rfl
section
variable{prog:aH}{w:aW}{A:bK}{E:ai->aq->Prop}{s:aq}
theorem zIW {h:bB}{a:ao}{b es':Array (Int×ai)}{ep:Nat}{t t':eP}(c:h.get? a=some (u7 b ep t)):(h.update a (rS es' t')).get? a=some (u7 es' (ep+1) t'):=by
 have:=eR (rS es' t') c rfl
 exact this
theorem zPr {a:ao}{l:Array (Int×ai)}{k:Str}{x:ai}{Q:Bool->aq->Prop}(m:cU k x=true)(hS:zAz prog w s.heap a l)(z:l.size+1<scanBound)
  (h:∀b h' es',e7 a s.heap h'->zAz prog w h' a es'->(k∈u9 l/\es'.toList.Perm l.toList\/k∉u9 l/\(u9 es').Perm (k::u9 l))->Q b {s with heap:=h'}) :
  wpAny (model prog w) A (setAddHashed a x (hashStr w k)) Q E s:=by
 obtain⟨ep,t,U,o,hb,hf,u,ac⟩:=id hS
 have B:=zPq m
 have e:s={s with heap:=s.heap}:=by cases s;rfl
 unfold setAddHashed setAddHashedIn
 refine cV (af (fu U rfl hf ?_))
 dsimp only
 rw[byScan_of (knd:=f7 prog w) B hb o]
 simp only[↓reduceIte]
 unfold setAddByScan
 refine af ?_
 refine af (fR ?_)
 refine af (wpAny_setScan_of (knd:=f7 prog w) (k:=k) m U rfl hf o ?_)
 cases hr:List.findIdx? (fun e=>(f7 prog w).is k e.2) l.toList with
 |some j=>
  dsimp only
  obtain⟨hj,W,_⟩:=List.findIdx?_eq_some_iff_getElem.mp hr
  refine ar (ar ?_)
  rw[e]
  exact h _ s.heap l (we a s.heap) hS (.inl ⟨av.mpr ⟨l.toList[j],c6 hj,zEU W⟩,dy _⟩)
 |none=>
  dsimp only
  have J:k∉u9 l:=fun q=>by
   obtain⟨y,hy,q⟩:=av.mp q
   obtain⟨⟨k',M,_⟩,_⟩:=o y hy
   have e1:k'=k:=(zEU M).symm.trans q
   have:=List.findIdx?_eq_none_iff.mp hr y hy
   rw[<-e1,M]at this
   cases this
  have d:=layNew_perm t l (hashStr w k) x
  have g:=layNew_fits t l (hashStr w k) x
  have i:=zPm t l (hashStr w k) x
  show wpAny _ _ _ _ _ _
  change wpAny _ _ (match layNew t l (hashStr w k) x with|(l,t,f,gave)=>_) _ _ _
  generalize hL:layNew t l (hashStr w k) x=L at d g i⊢
  obtain⟨c,X,f,gave⟩:=L
  dsimp only at d g i⊢
  rw[lB]at d
  have v:ElemsOf (f7 prog w) c.toList:=(ElemsOf.push (knd:=f7 prog w) o m B).perm d
  have hsz:c.size=l.size+1:=by rw[<-bh,d.length_eq,aw,bh];rfl
  have C:c.size<scanBound:=by rw[hsz];exact z
  have N:(u9 c).Perm (k::u9 l):=by
   have:=d.map fun e:Int×ai=>uG e.2
   rw[aU]at this
   refine this.trans ?_
   rw[List.map_singleton,zEU m]
   exact List.perm_append_singleton _ _
  have O:∀(b:Bool) {Y:aq} {Z:Unit->aq->Prop},Z () Y->wpAny (model prog w) A (match b with|true=>rule "set.scan.the-table-gave-way"|false=>pure ()) Z E Y :=
   fun b Y Z hq=>by cases b<;>first|exact ar hq|exact fR hq
  refine af (O _ ?_)
  have tail:∀n:eP,n.fits c.size=true->n.led=t.led->n.plain=false->∀wd:Bool,wpAny (model prog w) A (do
    storeSet a c n
    if(!wd&&n.tooFull)=true then do
      (match(relayAll n c (fK c.size)).2.2 with|true=>rule "set.scan.the-table-gave-way"|false=>pure ())
      storeSet a (relayAll n c (fK c.size)).1 (relayAll n c (fK c.size)).2.1
      pure (some true)
     else pure (some true)) (fun r s'=>wpAny (model prog w) A (match r with|some D=>pure D|none=>setAddHashedIn a x (hashStr w k) 99999) Q E s') E s:=by
   intro n f2 l2 p2 wd
   refine af (pL U rfl ?_ (iQ C))
   have F:=zIW (es':=c) (t':=n) U
   have P:=ia s.heap a (rS c n)
   split
   ·have R:=relayAll_perm n c (fK c.size)
    have G:=relayAll_fits n c (fK c.size)
    have p:=zPo n c (fK c.size)
    generalize al:relayAll n c (fK c.size)=Rl at R G p⊢
    obtain⟨H,t3,aa⟩:=Rl
    dsimp only at R G p⊢
    have ab:H.size=c.size:=by rw[<-bh,R.length_eq,bh]
    have T:H.size<scanBound:=by rw[ab];exact C
    refine af (O _ ?_)
    refine af (pL F rfl ?_ (iQ T))
    refine ar (ar ?_)
    exact h _ _ H (P.trans (ia _ a _)) ⟨_,t3,zIW F,v.perm R,T,G,(p.1.trans l2).trans u,.inr (p.2 p2)⟩ (.inr ⟨J,(R.map _).trans N⟩)
   ·exact ar (ar (h _ _ c P ⟨_,n,F,v,C,f2,l2.trans u,.inr p2⟩ (.inr ⟨J,N⟩)))
  obtain⟨tk,rfl⟩:=eu m
  by_cases I:X.plain=true
  ·rw[if_pos I]
   refine af ?_
   rw[hashByValue_scannable 8 B]
   refine ar ?_
   exact tail {X with plain:=false} g i.1 rfl f
  ·rw[if_neg I]
   refine af (ar ?_)
   simp only[↓reduceIte]
   exact tail X g i.1 (by simpa using I) f
end
noncomputable def qG (prog:aH)(w:aW)(h:bB)(a:ao)(ks:List Str):Prop:=∃es,zAz prog w h a es/\(u9 es).Nodup/\(∀x,x∈u9 es↔x∈ks)/\es.size<=ks.length
theorem qG.stay {prog:aH}{w:aW}{h h':bB}{S:ao}{ks:List Str}(x:qG prog w h S ks)(e:∀o,h.get? S=some o->h'.get? S=some o):qG prog w h' S ks:=by
 obtain⟨a,⟨ep,t,b,r⟩,q⟩:=x
 exact⟨a,⟨ep,t,e _ b,r⟩,q⟩
section
variable{prog:aH}{w:aW}{A:bK}{R:oH->aq->Prop}{I:ao}{fp wr:List ao}{G:Array rA->Array rA->Prop}{P:Nat->ai->Prop}{St:Nat->aq->Prop}
theorem zIX {ks:List Str}(W:WalksS prog w A.in1 I fp wr G ks.length P St)(S:ao)(u:S∉fp)(hv:∀i v,P i v->cU (ks.getD i ⟨#[]⟩) v=true)(hn:ks.length+1<scanBound) :
  ∀(m i:Nat) (s:aq),ks.length-i=m->i<=ks.length->St i s->qG prog w s.heap S (ks.take i)->
   (∀s',Moved (S::wr) G s s'->qG prog w s'.heap S ks->R (.ok (.ret .none)) s')->
   codeAny (model prog w) A (.builtin "set.update.loop" ⟨[.ref S,.ref I],[]⟩) R s:=by
 have B:S∉wr:=fun z=>u (W.sub _ z)
 have more:∀b∈wr,b∈S::wr:=fun b z=>aj _ z
 intro m
 induction m with
 |zero=>
  intro i s e1 E st x g
  obtain rfl:i=ks.length:=by omega
  refine dW mq ?_
  rw[dI iF _]
  refine af (m:=pyNext (.ref I)) (W.done s _ _ st fun s' a=>?_)
  rw[bw]at x
  exact ar (g s' (a.mono more) (x.stay fun o h=>a.heap S _ B h))
 |succ m ih=>
  intro i s e1 E st x g
  have lt:i<ks.length:=by omega
  refine dW mq ?_
  rw[dI iF _]
  refine af (m:=pyNext (.ref I)) (W.item i s _ _ lt st fun v s' F j a=>?_)
  have C:=hv i v F
  obtain⟨l,H,nd,mem,sz⟩:=x.stay fun o h=>a.heap S _ B h
  have c:l.size+1<scanBound:=by rw[aO]at sz;omega
  refine af (m:=holding [v] (setAdd S v)) (cV ?_)
  unfold setAdd
  refine cV (af ((f7 prog w).pyHash (k:=ks.getD i ⟨#[]⟩) C ?_))
  refine zPr (s:={s' with toks:=s'.toks+1}) C H c fun b h' es' D y J=>?_
  have f:ks.take (i+1)=ks.take i++[ks.getD i ⟨#[]⟩]:=by
   rw[aF lt];simp[lt]
  have L:qG prog w h' S (ks.take (i+1)):=by
   rcases J with⟨n,pm⟩|⟨p,pm⟩
   ·have pt:(u9 es').Perm (u9 l):=pm.map _
    refine⟨es',y,pt.nodup_iff.mpr nd,fun z=>?_,?_⟩
    ·rw[pt.mem_iff,mem z,f,bz,aM]
     exact⟨.inl,fun q=>q.elim id fun q=>q▸ (mem _).mp n⟩
    ·have:es'.size=l.size:=by rw[<-bh,pm.length_eq,bh]
     rw[this,f,aw];omega
   ·refine⟨es',y,pm.nodup_iff.mpr (bp.mpr ⟨p,nd⟩),fun z=>?_,?_⟩
    ·rw[pm.mem_iff,aE,mem z,f,bz,aM]
     exact Or.comm
    ·have:=pm.length_eq
     simp only[ah,bh,aJ]at this
     rw[this,f,aw,bW];omega
  refine ar ⟨f6 iF _,ih (i+1) _ (by omega) lt (W.frame _ s' _ _ j (fb _) fun b r o e=>?_) L fun t d z=>?_⟩
  ·exact(D.2 b (fun q=>u (by rw[<-q];exact r))).trans e
  ·refine g t (Moved.trans W.gtrans ((a.mono more).then_heap (fb _) fun b o r e=>?_) d) z
   exact(D.2 b (fun q=>r (by rw[q];exact au))).trans e
end
section
variable{prog:aH}{w:aW}{A:bK}{E:ai->aq->Prop}{s:aq}
theorem zPs:isSubtype (.type "tuple") (.type "set")=pure false:=by
 rw[fL];kernel_rfl
theorem zPt:isSubtype (.type "tuple") (.type "frozenset")=pure false:=by
 rw[fL];kernel_rfl
noncomputable abbrev vH (w:aW):Obj:=u7 #[] 0 (.fresh 0 0 (!w.params.followText "set-order"))
theorem zIY (prog:aH)(w:aW){h:bB}{a:ao}(e:h.get? a=some (vH w)):qG prog w h a [] :=
 ⟨#[],⟨0,_,e,(fun _ q=>nomatch q),(by unfold scanBound;decide),rfl,rfl,.inl rfl⟩,List.nodup_nil,(fun _=>wb),aA _⟩
theorem zIZ (a:ai){Q₁:ai->aq->Prop}(h:Q₁ (.ref s.heap.objs.size) {s with heap:=s.heap.push (vH w)}) :
  codeAny (model prog w) A (.call (.builtin "set.__new__") ⟨[.type "set",a],[]⟩) (wants Q₁ E) s:=by
 refine nh ?_
 show wpAny _ A.in1 (do checkBuiltinCall "set.__new__" ⟨[.type "set",a],[]⟩;again (.builtin "set.__new__" ⟨[.type "set",a],[]⟩)) _ _ s
 refine af (qm (F.newCall_set_1 a) (ar ⟨f6 rg _,dW F.entry_set_new ?_⟩))
 rw[dI rg _]
 unfold cJ.«set.__new__» rT
 have b:=sub_set_self
 obtain⟨c,g,d,tk,os⟩:=s
 dsimp only
 wp_walk
 refine mr (ar ?_)
 dsimp only
 simp only[newObj]
 refine af (wpAny_alloc (ar ?_))
 exact ar h
theorem zPu {C:bK}{R:oH->aq->Prop}{l:ao}{items:Array ai}{ks:List Str}(D:A.handled=none)(hl:s.heap.IsTuple l items)(d:items.size=ks.length)(hv:∀i v,items[i]?=some v->cU (ks.getD i ⟨#[]⟩) v=true)(m:ks.length+1<scanBound)
  (F:∀h' tk,qG prog w h' s.heap.objs.size ks->(∀b o,b<s.heap.objs.size->s.heap.get? b=some o->h'.get? b=some o)->R (.ok (.ret .none)) {s with heap:=h',toks:=tk}) :
  wpAny (model prog w) A (cJ.«set.__init__» ⟨[.ref s.heap.objs.size,.ref l],[]⟩) (fun fin s'=>match fin with| .done f=>R (.ok f) s'| .again u=>u.quiet=true/\codeAny (model prog w) C u R s') (fun e s'=>R (.error e) s') {s with heap:=s.heap.push (vH w)}:=by
 have new:(s.heap.push (vH w)).get? s.heap.objs.size=some (vH w):=aC _ rfl
 have ty:il {s with heap:=s.heap.push (vH w)} (.ref s.heap.objs.size) "set" :=⟨_,new,rfl⟩
 obtain⟨ol,g,h,nl,j⟩:=id hl
 obtain⟨y,c,p,a⟩:=ol
 simp only at h j
 subst h;subst j
 have old:(s.heap.push (vH w)).get? l=some {cls:=.type "tuple",dict:=c,data:=.seq items nl,slots:=a}:=ae _ g
 have L:=zPs
 have M:=zPt
 have N:(Value.type "tuple"==Value.type "dict")=false:=by decide
 have tl:(s.heap.push (vH w)).IsTuple l items:=⟨_,old,rfl,nl,rfl⟩
 unfold cJ.«set.__init__» noKeywords jo
 generalize q:pyIter=PI
 wp_walk
 subst q
 refine dG tl (af (nS ?_))
 have z:l<s.heap.objs.size:=aD g
 have G:A.in1.handled=none:=by simp[D]
 have ne:l≠(s.heap.push (vH w)).objs.size:=by
  rw[br]
  exact aV (bH z)
 have H:s.heap.objs.size∉ [(s.heap.push (vH w)).objs.size,l]:=by
  rw[br]
  simp only[aE,aM,dj,or_false,not_or]
  exact⟨aV (cQ _),cw z⟩
 have B:=(Walks.tuple (prog:=prog) (w:=w) (A:=A.in1) G _ l ne items).toS
 rw[d]at B
 refine zIX B s.heap.objs.size H hv m (ks.length-0) 0 _ (by omega) (bo _) ?st0 ?x0 fun s' n x=>?_
 case st0=>exact⟨⟨_,aC _ rfl,rfl,rfl⟩,tl.push _⟩
 case x0=>exact zIY prog w (ae _ new)
 obtain⟨h',g',d',r,t⟩:=s'
 obtain rfl:g'=s.gens:=n.gens
 obtain rfl:d'=s.drawn:=n.drawn
 obtain rfl:t=s.os:=n.os
 refine ar ?_
 refine ar (F h' r x fun b o m e=>?_)
 have I:b≠s.heap.objs.size:=aV m
 have J:b≠(s.heap.push (vH w)).objs.size:=by
  rw[br]
  exact aV (bH m)
 refine n.heap b o ?_ (ae _ (ae _ e))
 simp only[aE,aM,dj,or_false,not_or]
 exact⟨I,J⟩
theorem zPv {l:ao}{items:Array ai}{ks:List Str}{Q:ai->aq->Prop}(j:A.handled=none)(hl:s.heap.IsTuple l items)(d:items.size=ks.length)(hv:∀i v,items[i]?=some v->cU (ks.getD i ⟨#[]⟩) v=true)(m:ks.length+1<scanBound)
  (h:∀h' tk,qG prog w h' s.heap.objs.size ks->(∀b o,b<s.heap.objs.size->s.heap.get? b=some o->h'.get? b=some o)->Q (.ref s.heap.objs.size) {s with heap:=h',toks:=tk}) :
  wpAny (model prog w) A (call (.type "set") [.ref l]) Q E s:=by
 obtain⟨t,n,u⟩:=cZ.mro
 have y:=cZ.made
 have z:=cZ.sub
 refine mC (nh (?_:wpAny _ _ (callAny (.type "set") _) _ _ _))
 refine ar (And.intro (oQ _ (by decide+kernel)) (dW pM ?_))
 rw[oR (nv "set" [Value.ref l] []) rfl]
 have B:=cZ.notType
 have C:=cZ.canCreate
 have D:=qi (.ref l)
 all_goals (repeat(any_goals (first|assumption|wp_step)))
 refine eE (zIZ (w:=w) (.ref l) (E:=E) (Q₁:=fun v f=>v=.ref s.heap.objs.size/\f={s with heap:=s.heap.push (vH w)}) ⟨rfl,rfl⟩) fun r f c=>?_
 match r,c with
 | .error e,c=>exact c
 | .ok (.ret v),c=>
  obtain⟨rfl,rfl⟩:=c
  have ty:il {s with heap:=s.heap.push (vH w)} (.ref s.heap.objs.size) "set" :=⟨_,aC _ rfl,rfl⟩
  have F:=cZ.init.lookup
  have G:=cZ.init.bind (.ref s.heap.objs.size)
  all_goals (repeat(any_goals (first|assumption|wp_step)))
  refine eE (nU (R:=wants (fun q g=>q=.none/\∃h' tk,g={s with heap:=h',toks:=tk}/\qG prog w h' s.heap.objs.size ks/\∀b o,b<s.heap.objs.size->s.heap.get? b=some o->h'.get? b=some o) E)
   cZ.init.plain qj (qk ty (zPu (by simp[j]) hl d hv m fun h' tk x k=>⟨rfl,h',tk,rfl,x,k⟩))) fun p g a=>?_
  match p,a with
  | .error e,a=>exact a
  | .ok (.ret q),a=>
   obtain⟨rfl,h',tk,rfl,x,k⟩:=a
   all_goals (repeat(any_goals (first|assumption|wp_step)))
   exact h _ _ x k
  | .ok .next,a=>exact a.elim
  | .ok .brk,a=>exact a.elim
  | .ok .cont,a=>exact a.elim
 | .ok .next,c=>exact c.elim
 | .ok .brk,c=>exact c.elim
 | .ok .cont,c=>exact c.elim
end
theorem zIa:Manifest.owners.lookup (String.ofList ['r','o','t','a','r','e','t','i','_','t','e','s'].reverse)=some Manifest.sig_set_iterator:=by kernel_rfl
theorem kX:Slot "set_iterator" "__next__" "set_iterator.__next__" :=
 .of (owner :="set_iterator") (n :="__next__") (by rw[ni,iV];kernel_rfl) (by decide+kernel) (by decide+kernel) (by decide+kernel)
  (by first|exact .inl (by decide+kernel)|exact .inr (by decide+kernel)) (by rw[fL];kernel_rfl)
theorem zEV:entryFor table "set_iterator.__next__"=some cJ.«set_iterator.__next__»:=qd (by kernel_rfl)
theorem zEW (a:ai):argsOk "set_iterator.__next__" ⟨[a],[]⟩:=by
 unfold argsOk;rw[tw (id :="set_iterator.__next__") (n:=['_','_','t','x','e','n','_','_']) (o:=['r','o','t','a','r','e','t','i','_','t','e','s']) (by kernel_rfl) zIa];kernel_rfl
theorem zIb:Slot "set_iterator" "__iter__" "set_iterator.__iter__" :=
 .of (owner :="set_iterator") (n :="__iter__") (by rw[ni,iV];kernel_rfl) (by decide+kernel) (by decide+kernel) (by decide+kernel)
  (by first|exact .inl (by decide+kernel)|exact .inr (by decide+kernel)) (by rw[fL];kernel_rfl)
theorem zPw:entryFor table "set_iterator.__iter__"=some cJ.«dict_keyiterator.__iter__» :=
 nO (id' :="dict_keyiterator.__iter__") (by kernel_rfl) (by first|rfl|decide+kernel|(unfold rV;simp+decide [pN])) (by decide+kernel) (by kernel_rfl)
theorem zPx (a:ai):argsOk "set_iterator.__iter__" ⟨[a],[]⟩:=by
 unfold argsOk;rw[tw (id :="set_iterator.__iter__") (n:=['_','_','r','e','t','i','_','_']) (o:=['r','o','t','a','r','e','t','i','_','t','e','s']) (by kernel_rfl) zIa];kernel_rfl
theorem zPy:entryFor table "set.__iter__"=some cJ.«frozenset.__iter__» :=
 nO (id' :="frozenset.__iter__") (by kernel_rfl) (by first|rfl|decide+kernel|(unfold rV;simp+decide [pN])) (by decide+kernel) (by kernel_rfl)
noncomputable abbrev kY (f:ai)(i:Nat)(a:ao)(n ep:Nat):Obj:={cls:=.type "set_iterator",dict:=none,data:=.fields #[f,.int i 0,.ref a,.int n 0,.int ep 0]}
section
variable{prog:aH}{w:aW}{A:bK}{E:ai->aq->Prop}{s:aq}
theorem zPz {I a T:ao}{i ep:Nat}{b:Array (Int×ai)}{t:eP}{pl:List Nat}{e1 j:Nat}{x:Int×ai}{Q:Option ai->aq->Prop}
  (hi:s.heap.get? I=some (kY (.ref T) i a b.size ep)) (ha:s.heap.get? a=some (u7 b ep t)) (hf:t.fits b.size=true) (c:s.heap.get? T=some (seqObj "tuple" (pl.map fun(i:Nat)=>rawInt i).toArray e1)) (d:pl[i]?=some j) (e:b[j]?=some x)
  (f:∀h',h'.get? I=some (kY (.ref T) (i+1) a b.size ep)->e7 I s.heap h'->Q (some x.2) {s with heap:=h'}) :
  wpAny (model prog w) A (pyNext (.ref I)) Q E s:=by
 have ty:s.TypeIs (.ref I) "set_iterator" :=⟨_,hi,rfl⟩
 unfold pyNext
 refine af (fZ (bU (name:=di "__next__") ty kX (cf kX ty zEV ?_ (zEW _))))
 unfold cJ.«set_iterator.__next__»
 refine af (m:=slotArgs "__next__" 0 _) (ar ?_)
 refine af (nV hi rfl ?_)
 dsimp only
 refine af (ig ha rfl hf ?_)
 rw[if_neg (by simp)]
 refine af (da c rfl ?_)
 have g:((pl.map fun(i:Nat)=>rawInt i).toArray)[((i:Nat):Int).toNat]?=some (.int (j:Int) 0):=by
  rw[cX,ny,az,d];rfl
 dsimp only
 rw[g]
 dsimp only
 unfold setNextDrawn
 refine af (af (fu ha rfl hf ?_))
 dsimp only
 rw[cX,cX,if_neg (by simp),e]
 refine ar ?_
 refine af (bX hi (by simp) fun h' h l=>?_)
 exact ar ⟨_,rfl,ar (f h' (by rw[h];rfl) l)⟩
theorem zIc {Q:Option ai->aq->Prop}{R:qb->aq->Prop}(c:A.handled=none)(d:∀h',(∀b o,s.heap.get? b=some o->h'.get? b=some o)->Q none {s with heap:=h'}) :
  wpAny (model prog w) A.in1 (do let e<-newExc (.type "StopIteration") [];raiseNew e) R (fun e s'=>wpAny (model prog w) A (do let b<-isInstance e (.type "StopIteration");if b=true then pure none else throw e) Q E s') s:=by
 refine af ?_
 simp only[newExc,newTuple]
 refine af (cg ?_ (by size_fits))
 refine af (m:=firstArgMember _ _) (qm (a:=Value.none) (by first|rfl|(simp only[firstArgMember];rfl)) ?_)
 refine cg ?_ (by size_fits)
 simp only[raiseNew]
 refine af (sU ?_)
 rw[show A.in1.handled=none from c]
 refine af (ar (wpAny_throw ?_))
 refine af (iZ (T :="StopIteration") (b:=true) ⟨_,aC _ rfl,rfl⟩ nK ?_)
 exact ar (d _ fun b o e=>ae _ (ae _ e))
theorem zQA {I a T:ao}{i ep:Nat}{c:Array (Int×ai)}{t:eP}{pl:List Nat}{e1:Nat}{Q:Option ai->aq->Prop}(h:A.handled=none)
  (hi:s.heap.get? I=some (kY (.ref T) i a c.size ep)) (ha:s.heap.get? a=some (u7 c ep t)) (hf:t.fits c.size=true) (j:s.heap.get? T=some (seqObj "tuple" (pl.map fun(i:Nat)=>rawInt i).toArray e1)) (l:pl[i]?=none)
  (n:∀h',(∀b o,b≠I->s.heap.get? b=some o->h'.get? b=some o)->Q none {s with heap:=h'}) :
  wpAny (model prog w) A (pyNext (.ref I)) Q E s:=by
 have ty:s.TypeIs (.ref I) "set_iterator" :=⟨_,hi,rfl⟩
 unfold pyNext
 refine af (fZ (bU (name:=di "__next__") ty kX (cf kX ty zEV ?_ (zEW _))))
 unfold cJ.«set_iterator.__next__»
 refine af (m:=slotArgs "__next__" 0 _) (ar ?_)
 refine af (nV hi rfl ?_)
 dsimp only
 refine af (ig ha rfl hf ?_)
 rw[if_neg (by simp)]
 refine af (da j rfl ?_)
 have p:((pl.map fun(i:Nat)=>rawInt i).toArray)[((i:Nat):Int).toNat]?=none:=by
  rw[cX,ny,az,l];rfl
 dsimp only
 rw[p]
 dsimp only
 refine af (bX hi (by simp) fun q r d=>?_)
 refine af (bX (s:={s with heap:=q}) r (by simp) fun u x f=>?_)
 refine zIc (s:={s with heap:=u}) h fun v ex=>n v fun b o g e=>ex b o ?_
 exact(f.2 b g).trans ((d.2 b g).trans e)
theorem zCY {Q:Bool->aq->Prop}(h:Q (w.params.followText "set-order") s):wpAny (model prog w) A setsByText Q E s:=by
 unfold setsByText
 exact af (mr (ar h))
theorem zQB {a:ao}{ep:Nat}{b:Array (Int×ai)}{t:eP}{Q:Array (Int×ai)->aq->Prop}(ha:s.heap.get? a=some (u7 b ep t))(hf:t.fits b.size=true)(c:w.params.followText "set-order"=true)(h:Q (pickOrder (w.params.setOrder a ep) b) s) :
  wpAny (model prog w) A (setWalk a) Q E s:=by
 unfold setWalk
 refine af (fu ha rfl hf ?_)
 dsimp only
 refine af (zCY ?_)
 rw[c]
 exact af (mr (ar h))
theorem zCZ {I a:ao}{f i ep:Nat}{d:Array (Int×ai)}{t:eP}{r:Option (ai×Nat)}{Q:Option ai->aq->Prop}(q:A.handled=none)
  (hi:s.heap.get? I=some (kY (.int f 0) i a d.size ep)) (ha:s.heap.get? a=some (u7 d ep t)) (hf:t.fits d.size=true)
  (u:∀(A:bK) (E:ai->aq->Prop) (Q:Option (ai×Nat)->aq->Prop),Q r s->wpAny (model prog w) A (setNext a f i ep) Q E s)
  (g:∀x j,r=some (x,j)->∀h',h'.get? I=some (kY (.int j 0) (i+1) a d.size ep)->e7 I s.heap h'->Q (some x) {s with heap:=h'})
  (h:r=none->∀h',(∀b o,b≠I->s.heap.get? b=some o->h'.get? b=some o)->Q none {s with heap:=h'}) :
  wpAny (model prog w) A (pyNext (.ref I)) Q E s:=by
 have ty:s.TypeIs (.ref I) "set_iterator" :=⟨_,hi,rfl⟩
 unfold pyNext
 refine af (fZ (bU (name:=di "__next__") ty kX (cf kX ty zEV ?_ (zEW _))))
 unfold cJ.«set_iterator.__next__»
 refine af (m:=slotArgs "__next__" 0 _) (ar ?_)
 refine af (nV hi rfl ?_)
 dsimp only
 refine af (ig ha rfl hf ?_)
 rw[if_neg (by simp)]
 rw[cX,cX,cX]
 refine af (u _ _ _ ?_)
 match r,g,h with
 |none,_,h=>
  dsimp only
  refine af (bX hi (by simp) fun l p c=>?_)
  exact zIc (s:={s with heap:=l}) q fun v ex=>h rfl v fun b o y e=>ex b o ((c.2 b y).trans e)
 |some (x,j),g,_=>
  dsimp only
  refine af (bX hi (by simp) fun l p c=>?_)
  refine af (bX (s:={s with heap:=l}) p (by simp) fun z B n=>?_)
  exact ar ⟨_,rfl,ar (g x j rfl z (by rw[B];rfl) (c.trans n))⟩
theorem zId {a:ao}{f i ep:Nat}{b:Array (Int×ai)}{t:eP}{Q:Option (ai×Nat)->aq->Prop}(ha:s.heap.get? a=some (u7 b ep t))(hf:t.fits b.size=true)(c:w.params.followText "set-order"=true)
  (h:Q (((pickOrder (w.params.setOrder a ep) b)[i]?).map fun e=>(e.2,f)) s):wpAny (model prog w) A (setNext a f i ep) Q E s:=by
 unfold setNext
 refine af (fu ha rfl hf ?_)
 dsimp only
 refine af (zCY ?_)
 rw[c,if_pos rfl,if_neg (by simp)]
 refine af (zQB ha hf c ?_)
 exact ar h
theorem zIe {a:ao}{f i ep:Nat}{b:Array (Int×ai)}{t:eP}{Q:Option (ai×Nat)->aq->Prop}(ha:s.heap.get? a=some (u7 b ep t))(hf:t.fits b.size=true)(d:w.params.followText "set-order"=false)(hl:t.led=true)(e:b.size<=1)
  (h:Q (match b[eQ t.place f]?,t.place[eQ t.place f]? with|some (_,x),some j=>some (x,j+1)|_,_=>none) s):wpAny (model prog w) A (setNext a f i ep) Q E s:=by
 unfold setNext
 refine af (fu ha rfl hf ?_)
 dsimp only
 refine af (zCY ?_)
 rw[d,if_neg (by decide)]
 refine ix (fun hd=>?_) (fun _=>?_)
 ·have c:(!t.plain&&decide (b.size>1))=true:=hd
  simp only[bA,decide_eq_true_eq]at c
  omega
 ·show wpAny _ _ ((if(!t.led&&!b.isEmpty)=true then unsupported "set:maker-not-led"else pure ())>>=_) _ _ _
  rw[hl,if_neg (by simp)]
  exact af (ar (ar h))
theorem zEX {α:Type}:∀{l:List α}{i:Nat} (h:i<l.length),(l[i]::l.eraseIdx i).Perm l
 |x::l,0,h=>dy _
 |x::l,i+1,h=>by
  have q:=zEX (l:=l) (i:=i) (by simpa using h)
  exact(List.Perm.swap ..).trans (q.cons x)
theorem zEY {α:Type}(next:Nat->Nat)(xs:Array α):(pickOrder next xs).toList.Perm xs.toList:=by
 have go:∀(a k:Nat) (left:List α) (out:Array α),left.length=a->(pO next a k left out).toList.Perm (out.toList++left):=by
  intro a
  induction a with
  |zero=>
   intro k left out e
   rw[cS.mp e]
   simp[pO]
  |succ a ih=>
   intro k left out e
   have lt:next k%left.length<left.length:=rP _ (by omega)
   unfold pO
   rw[ay lt]
   dsimp only
   refine(ih _ _ _ (by rw[lh lt,e];rfl)).trans ?_
   rw[lB,dP]
   refine uc _ ?_
   exact zEX lt
 have:=go xs.size 0 xs.toList #[] rfl
 simpa [pickOrder]using this
theorem zQC {a:Source}{n:Nat}{Q:Nat->aq->Prop}(hn:0<n)(h:∀d r,r<n->Q r {s with drawn:=d}):wpAny (model prog w) A (choose a n) Q E s :=
 fun Γ p b=>⟨cw hn,h _ _ (rP _ hn)⟩
theorem zIf {α:Type}:∀(n:Nat) (xs:List α) {s:aq}{Q:List α->aq->Prop},xs.length=n->(∀d ord,ord.Perm xs->Q ord {s with drawn:=d})->wpAny (model prog w) A (drawOrder n xs) Q E s
 |0,xs,s,Q,e,h=>by
  rw[cS.mp e]at h
  unfold drawOrder
  have:s={s with drawn:=s.drawn}:=rfl
  exact ar (h s.drawn [] (dy _))
 |n+1,[],s,Q,e,h=>by cases e
 |n+1,x::xs,s,Q,e,h=>by
  unfold drawOrder
  refine af (zQC (by rw[e];omega) fun d r a=>?_)
  rw[ay a]
  dsimp only
  refine af (zIf n _ (by rw[lh a,e];rfl) fun b ord pm=>?_)
  refine ar (h b _ ?_)
  exact(pm.cons _).trans (zEX a)
theorem zEZ {I:ao}{f:ai}{i:Nat}{a:ao}{n ep:Nat}{Q:ai->aq->Prop}(hi:s.heap.get? I=some (kY f i a n ep))(h:Q (.ref I) s):wpAny (model prog w) A (pyIter (.ref I)) Q E s:=by
 have ty:s.TypeIs (.ref I) "set_iterator" :=⟨_,hi,rfl⟩
 refine lM ty zIb (cf zIb ty zPw ?_ (zPx _))
 show wpAny _ _ (ret (.ref I)) _ _ s
 exact ar ⟨_,rfl,"set_iterator",_,ty,kX.lookup,h⟩
theorem zQD {I a:ao}{ep:Nat}{c:Array (Int×ai)}{t:eP}(m:A.handled=none)(ne:a≠I)(hf:t.fits c.size=true)(d:w.params.followText "set-order"=true) :
  Walks prog w A I [I,a] [I] c.size (fun i v=>((pickOrder (w.params.setOrder a ep) c).toList.map (·.2))[i]?=some v) (fun i h=>h.get? I=some (kY (.int 0 0) i a c.size ep)/\h.get? a=some (u7 c ep t)) where
 sub:=fun b d=>by simp at d;simp[d]
 frame:=fun _ _ _ st n=>⟨n I (by simp) _ st.1,n a (by simp) _ st.2⟩
 item:=fun i s Q E lt st g=>by
  have l:(pickOrder (w.params.setOrder a ep) c).size=c.size:=by rw[<-bh,(zEY _ c).length_eq,bh]
  have p:i<(pickOrder (w.params.setOrder a ep) c).size:=by rw[l];exact lt
  refine zCZ (f:=0) (r:=some ((pickOrder (w.params.setOrder a ep) c)[i].2,0)) m st.1 st.2 hf (fun A E Q q=>zId st.2 hf d (by rw[dm p];exact q)) (fun x j e h' e1 u=>?_) (fun e=>nomatch e)
  injection e with e
  injection e with y z
  subst y z
  refine g _ h' s.toks ?_ ⟨e1,(u.2 a ne).trans st.2⟩ fun b o d e=>(u.2 b (by simpa using d)).trans e
  rw[az,dY,dm p];rfl
 done:=fun s Q E st g=>by
  have l:(pickOrder (w.params.setOrder a ep) c).size=c.size:=by rw[<-bh,(zEY _ c).length_eq,bh]
  refine zCZ (f:=0) (r:=none) m st.1 st.2 hf (fun A E Q q=>zId st.2 hf d (by rw[mV (by rw[l];exact aA _)];exact q)) (fun _ _ e=>nomatch e) (fun _ h' k=>?_)
  exact g h' s.toks fun b o d e=>k b o (by simpa using d) e
 self:=fun _ _ _ _ st g=>zEZ st.1 g
theorem zQE {I a T:ao}{ep e1:Nat}{c:Array (Int×ai)}{t:eP}{pl:List Nat}(p:A.handled=none)(ne:a≠I)(nt:T≠I)(hf:t.fits c.size=true)(hl:pl.length=c.size)(q:∀j∈pl,j<c.size) :
  Walks prog w A I [I,a,T] [I] c.size (fun i v=>(pl.map fun j=>(c.getD j (0,.none)).2)[i]?=some v) (fun i h=>h.get? I=some (kY (.ref T) i a c.size ep)/\h.get? a=some (u7 c ep t)/\h.get? T=some (seqObj "tuple" (pl.map fun(i:Nat)=>rawInt i).toArray e1)) where
 sub:=fun b d=>by simp at d;simp[d]
 frame:=fun _ _ _ st g=>⟨g I (by simp) _ st.1,g a (by simp) _ st.2.1,g T (by simp) _ st.2.2⟩
 item:=fun i s Q E lt st f=>by
  have l:i<pl.length:=by rw[hl];exact lt
  have n:pl[i]<c.size:=q _ (c6 l)
  refine zPz (j:=pl[i]) (x:=c[pl[i]]) st.1 st.2.1 hf st.2.2 (ay l) (dm n) fun h' r m=>?_
  refine f _ h' s.toks ?_ ⟨r,(m.2 a ne).trans st.2.1,(m.2 T nt).trans st.2.2⟩ fun b o d e=>(m.2 b (by simpa using d)).trans e
  rw[az,ay l]
  simp[n]
 done:=fun s Q E st f=>zQA p st.1 st.2.1 hf st.2.2 (eS (by rw[hl];exact aA _)) fun h' k=>f h' s.toks fun b o d e=>k b o (by simpa using d) e
 self:=fun _ _ _ _ st f=>zEZ st.1 f
theorem zQF (j:Nat):eQ #[j] (j+1)=1:=by
 unfold eQ
 simp[pP]
theorem zQG (j:Nat):eQ #[j] 0=0:=by
 unfold eQ
 simp[pP]
theorem zQH {I a:ao}{ep:Nat}{es:Array (Int×ai)}{t:eP}(hh:A.handled=none)(ne:a≠I)(hf:t.fits es.size=true)(hb:w.params.followText "set-order"=false)(hl:t.led=true)(h1:es.size<=1) :
  Walks prog w A I [I,a] [I] es.size (fun i v=>(es.toList.map (·.2))[i]?=some v) (fun i h=>h.get? I=some (kY (.int ((if i=0 then 0 else t.place.getD 0 0+1:Nat):Int) 0) i a es.size ep)/\h.get? a=some (u7 es ep t)) where
 sub:=fun b hb=>by simp at hb;simp[hb]
 frame:=fun _ _ _ st hk=>⟨hk I (by simp) _ st.1,hk a (by simp) _ st.2⟩
 item:=fun i s Q E lt st hQ=>by
  obtain rfl:i=0:=by omega
  have z1:es.size=1:=by omega
  have pz:t.place.size=1:=by
   simp only[tD,bA,beq_iff_eq]at hf
   rw[hf.1,z1]
  obtain⟨j,hj⟩ : ∃j,t.place= #[j] :=⟨t.place[0],by apply Array.ext<;>simp[pz];intro i hi;have : i=0 :=by omega
                                                   subst this;rfl⟩
  have li:0<es.size:=by omega
  refine zCZ (f:=0) (r:=some (es[0].2,j+1)) hh st.1 st.2 hf (fun A E Q q=>zIe st.2 hf hb hl h1 (by rw[hj,zQG,dm li];exact q)) (fun x j' e h' e1 sb=>?_) (fun e=>nomatch e)
  injection e with e
  injection e with e2 e3
  subst e2 e3
  refine hQ _ h' s.toks ?_ ⟨?_,(sb.2 a ne).trans st.2⟩ fun b o hb e=>(sb.2 b (by simpa using hb)).trans e
  ·rw[az,dY,dm li];rfl
  ·rw[e1,hj];rfl
 done:=fun s Q E st hQ=>by
  have nx:(match es[eQ t.place (if es.size=0 then 0 else t.place.getD 0 0+1)]?,t.place[eQ t.place (if es.size=0 then 0 else t.place.getD 0 0+1)]? with|some (_,x),some j=>some (x,j+1)|_,_=>(none:Option (ai×Nat)))=none:=by
   have hz:t.place.size=es.size:=by
    simp only[tD,bA,beq_iff_eq]at hf
    exact hf.1
   by_cases z:es.size=0
   ·have:es=#[]:=Array.size_eq_zero_iff.mp z
    subst this
    simp
   ·have z1:es.size=1:=by omega
    obtain⟨j,hj⟩ : ∃j,t.place= #[j] :=⟨t.place[0],by apply Array.ext<;>simp[hz,z1];intro i hi;have : i=0 :=by omega
                                                     subst this;rfl⟩
    rw[if_neg z,hj]
    have e4:(#[j]:Array Nat).getD 0 0=j:=rfl
    rw[e4,zQF,mV (by rw[z1];exact aA _)]
  refine zCZ (r:=none) hh st.1 st.2 hf (fun A E Q q=>zIe st.2 hf hb hl h1 (by rw[nx];exact q)) (fun _ _ e=>nomatch e) (fun _ h' k=>?_)
  exact hQ h' s.toks fun b o hb e=>k b o (by simpa using hb) e
 self:=fun _ _ _ _ st hQ=>zEZ st.1 hQ
theorem zQI {a:ao}{c:Array (Int×ai)}{Q:ai->aq->Prop}(x:A.handled=none)(G:zAz prog w s.heap a c)
  (y:∀(I:ao) (g:bB) (d:Drawn) (ord:List ai) (fp:List ao) (St:Nat->bB->Prop),ord.Perm (c.toList.map (·.2))->Walks prog w A I fp [I] c.size (fun i v=>ord[i]?=some v) St->St 0 g->s.heap.objs.size<=I->(∀b∈fp,b=a\/s.heap.objs.size<=b)->
   (∀b∈fp,b<g.objs.size)->(∀b o,s.heap.get? b=some o->g.get? b=some o)->Q (.ref I) {s with heap:=g,drawn:=d}) :
  wpAny (model prog w) A (pyIter (.ref a)) Q E s:=by
 obtain⟨ep,t,h,H,B,hf,p,C⟩:=id G
 have ty:s.TypeIs (.ref a) "set" :=⟨_,h,rfl⟩
 have u:a<s.heap.objs.size:=aD h
 refine lM ty nz (cf nz ty zPy ?_ (PySem.F.args_set_iter_1 _))
 unfold cJ.«frozenset.__iter__» tL tE
 refine af (af (m:=slotArgs "__iter__" 0 _) (ar (ar ?_)))
 refine af (af (ig h rfl hf (ar ?_)))
 unfold setDrawn
 refine af (af (fu h rfl hf ?_))
 dsimp only
 refine af (zCY (ar ?_))
 have D:c.size<=sizeLine:=iQ B
 refine ix (fun hd=>?_) (fun hd=>?_)
 ·refine af (zIf c.size (bu c.size) (by simp) fun d pl pm=>?_)
  have pl_len:pl.length=c.size:=by rw[pm.length_eq,bE]
  refine af (ko ?_ (by rw[ah,pl_len];exact D))
  have q:(s.heap.push (seqObj "tuple" (pl.map fun(i:Nat)=>rawInt i).toArray 0)).get? a=some (u7 c ep t):=ae _ h
  refine af (pQ q rfl hf ?_)
  refine af (cg (ar ⟨_,rfl,"set_iterator",_,⟨_,aC _ rfl,rfl⟩,kX.lookup,y _ _ d _ _ _ ?pm (zQE (a:=a) (T:=s.heap.objs.size) (t:=t) (ep:=ep) (e1:=0) (pl:=pl) x ?ne ?nt hf pl_len fun j J=>bP.mp (pm.mem_iff.mp J)) ?st ?ge ?fp ?lt ?kp⟩))
  case pm=>
   refine(pm.map _).trans ?_
   rw[show(bu c.size).map (fun j=>(c.getD j (0,Value.none)).2)=c.toList.map (·.2)from ?_]
   apply i0
   ·simp
   ·intro i g L
    have hi:i<c.size:=by simpa using g
    simp[hi]
  case ne=>show a≠(s.heap.push _).objs.size;rw[br];exact aV (bH u)
  case nt=>show s.heap.objs.size≠(s.heap.push _).objs.size;rw[br];exact aV (cQ _)
  case st=>exact⟨aC _ rfl,ae _ q,ae _ (aC _ rfl)⟩
  case ge=>show s.heap.objs.size<=(s.heap.push _).objs.size;rw[br];exact fb _
  case fp=>
   intro b f
   simp only[aE,dj,or_false]at f
   rcases f with rfl|rfl|rfl
   ·right;show s.heap.objs.size<=(s.heap.push _).objs.size;rw[br];exact fb _
   ·exact .inl rfl
   ·exact .inr (aA _)
  case lt=>
   intro b f
   simp only[aE,dj,or_false]at f
   rw[br]
   rcases f with rfl|rfl|rfl
   ·exact cQ _
   ·rw[br];exact bH (bH u)
   ·rw[br];exact bH (cQ _)
  case kp=>exact fun b o e=>ae _ (ae _ e)
 ·refine af (ar ?_)
  refine af (pQ h rfl hf ?_)
  refine af (cg (ar ⟨_,rfl,"set_iterator",_,⟨_,aC _ rfl,rfl⟩,kX.lookup,?_⟩))
  have ne:a≠s.heap.objs.size:=aV u
  have r:∀b∈[s.heap.objs.size,a],b=a\/s.heap.objs.size<=b:=fun b f=>by
   simp only[aE,dj,or_false]at f
   rcases f with rfl|rfl
   ·exact .inr (aA _)
   ·exact .inl rfl
  have flt:∀(o:Obj),∀b∈[s.heap.objs.size,a],b<(s.heap.push o).objs.size:=fun o b f=>by
   simp only[aE,dj,or_false]at f
   rw[br]
   rcases f with rfl|rfl
   ·exact cQ _
   ·exact bH u
  by_cases f:w.params.followText "set-order"=true
  ·exact y _ _ s.drawn _ _ _ ((zEY _ c).map _) (zQD (a:=a) (ep:=ep) (t:=t) x ne hf f) ⟨aC _ rfl,ae _ h⟩ (aA _) r (flt _) fun b o e=>ae _ e
  ·have l:w.params.followText "set-order"=false:=by simpa using f
   have g:c.size<=1:=by
    have n:¬(!w.params.followText "set-order"&& (!t.plain&&decide (c.size>1)))=true:=hd
    rw[l]at n
    rcases C with z|z
    ·omega
    ·rw[z]at n
     simpa using n
   have hl:t.led=true:=by rw[p,l];rfl
   exact y _ _ s.drawn _ _ _ (dy _) (zQH (a:=a) (ep:=ep) (t:=t) x ne hf l hl g) ⟨aC _ rfl,ae _ h⟩ (aA _) r (flt _) fun b o e=>ae _ e
theorem zQJ:typeLookup (.type "set") "__len__"=pure (some (.builtin "set.__len__")):=by rw[ni,iV];kernel_rfl
theorem zQK {r:ao}{Q:Bool->aq->Prop}(d:s.TypeIs (.ref r) "set")(h:Q false s):wpAny (model prog w) A (jv (.ref r)) Q E s:=by
 unfold jv
 refine af (qr d zQJ ?_)
 generalize c:("set.__len__" : String)=e
 wp_delta
 rw[show splitId e=some ("set","__len__")from by subst c;decide+kernel]
 subst c
 refine af (iZ (T :="set") (b:=true) d (by rw[fL];kernel_rfl) ?_)
 refine ix (fun a=>absurd a (by decide)) (fun _=>?_)
 refine ix (fun _=>?_) (fun a=>absurd (by decide+kernel) a)
 refine af (gq d ?_)
 exact ar h
theorem zQL {a:ao}{es:Array (Int×ai)}{R:List ai->aq->Prop}(hh:A.handled=none)(hS:zAz prog w s.heap a es)
  (h:∀h' tk d ord,ord.Perm (es.toList.map (·.2))->(∀b o,s.heap.get? b=some o->h'.get? b=some o)->R ord {s with heap:=h',toks:=tk,drawn:=d}) :
  wpAny (model prog w) A (collect (.ref a)) R E s:=by
 obtain⟨ep,t,ho,hel,hbd,hf,hled,hpl⟩:=id hS
 have la:a<s.heap.objs.size:=aD ho
 unfold collect
 refine af (nS (dW PySem.F.entry_proto_collect ?_))
 rw[dI PySem.F.plain_proto_collect _]
 show wpAny _ A.in1 (newList []>>=fun l=>again (.builtin "list.__iadd__" ⟨[l,.ref a],[]⟩)) _ _ s
 refine af (cg ?_)
 refine ar ⟨f6 mw _,dW PySem.F.entry_list_iadd ?_⟩
 rw[dI mw _]
 show wpAny _ A.in1 (jw (.ref s.heap.objs.size) (.ref a) (.ref s.heap.objs.size)) _ _ _
 have ho1:(s.heap.push {cls:=.type "list",data:=.seq ([]:List ai).toArray}).get? a=some (u7 es ep t):=ae _ ho
 have hS1:zAz prog w (s.heap.push {cls:=.type "list",data:=.seq ([]:List ai).toArray}) a es:=⟨ep,t,ho1,hel,hbd,hf,hled,hpl⟩
 have hL:(s.heap.push {cls:=.type "list",data:=.seq ([]:List ai).toArray}).get? s.heap.objs.size=some {cls:=.type "list",data:=.seq #[]}:=aC _ rfl
 unfold jw
 refine af (gq (T :="set") ⟨_,ho1,rfl⟩ ?_)
 have ne:s.heap.objs.size≠a:=cw la
 have q1:lR (.ref s.heap.objs.size) (.ref a)=false:=by simp[lR,ne]
 rw[if_neg (by rw[q1];decide)]
 refine af (zQI (A:=A.in1) (s:={s with heap:=s.heap.push {cls:=.type "list",data:=.seq ([]:List ai).toArray}}) hh hS1 fun I h1 d ord fp St pm W st ge fpo flt kp=>?_)
 dsimp only at ge fpo kp
 rw[br]at ge fpo
 have nf:s.heap.objs.size∉fp:=fun z=>by
  rcases fpo _ z with e|e
  ·exact ne e
  ·exact bI _ e
 have hn:es.size<=sizeLine:=iQ hbd
 have ol:ord.length=es.size:=by rw[pm.length_eq,ah,bh]
 have key:∀(g:bB) (c₁:Nat),St 0 g->(∀b o,b≠s.heap.objs.size->h1.get? b=some o->g.get? b=some o)->g.get? s.heap.objs.size=some {cls:=.type "list",data:=.seq #[] c₁}->
   codeAny (model prog w) A (.builtin "list.extend.loop" ⟨[.ref s.heap.objs.size,.ref I,.ref s.heap.objs.size],[]⟩) (fun q s'=>∃(h':bB) (tk:Nat) (acc:Array ai) (c':Nat),q=.ok (.ret (.ref s.heap.objs.size))/\s'={s with heap:=h',toks:=tk,drawn:=d}/\
    (∀b o,s.heap.get? b=some o->h'.get? b=some o)/\h'.get? s.heap.objs.size=some {cls:=.type "list",dict:=none,data:=.seq acc c',slots:=#[]}/\acc.toList=ord) {s with heap:=g,drawn:=d}:=by
  intro g c₁ hst hk hg
  refine codeAny_extend_loopS W.toS hn _ nf _ es.size 0 _ #[] c₁ rfl (bo _) hst hg (ItemsOf.nil _) fun s' acc' c' hm hS' hacc=>?_
  have e1:acc'.toList=ord:=by
   apply i0
   ·rw[bh,hacc.1,ol]
   ·intro i i1 i2
    have:ord[i]?=some (acc'[i]'(by simpa using i1)):=hacc.2 i _ (dm (by simpa using i1))
    rw[ay i2]at this
    injection this with this
    simpa using this.symm
  refine⟨s'.heap,s'.toks,acc',c',rfl,sZ hm,fun b o e=>?_,hS',e1⟩
  have nb:b≠s.heap.objs.size:=aV (aD e)
  refine hm.heap b o (fun z=>?_) (hk b o nb (kp b o (ae _ e)))
  rcases aE.mp z with e'|z
  ·exact nb e'
  ·rw[aM.mp z]at e
   exact absurd (aD e) (vw.mpr (Nat.le_of_succ_le ge))
 have fin : ∀(q : Result) (s' : Shared),(∃(h' : Heap) (tk : Nat) (acc : Array Value) (c' : Nat),q= .ok (.ret (.ref s.heap.objs.size))/\s'={s with heap :=h',toks :=tk,drawn :=d}/\
       (∀b o,s.heap.get? b=some o->h'.get? b=some o)/\h'.get? s.heap.objs.size=some {cls:=.type "list",dict:=none,data:=.seq acc c',slots:=#[]}/\acc.toList=ord)->
   q=.ok (.ret (.ref s.heap.objs.size))/\wpAny (model prog w) A (load s.heap.objs.size>>=fun o=>match o.data with| .seq xs _=>pure xs.toList|_=>unsupported "internal:collect") R E s':=by
  rintro q s' ⟨h',tk,acc,c',rfl,rfl,kk,hg,e1⟩
  refine⟨rfl,af (wpAny_load hg ?_)⟩
  show wpAny _ _ (pure acc.toList) _ _ _
  rw[e1]
  exact ar (h h' tk d ord pm kk)
 have hL1:=kp _ _ hL
 have hoa:=kp _ _ ho1
 refine af (cV (zQK (s:={s with heap:=h1,drawn:=d}) ⟨_,hoa,rfl⟩ ?_))
 refine ix (fun _=>?_) (fun _=>ar ⟨f6 lA _,eE (key h1 _ st (fun b o _ e=>e) hL1) fun q s' y=>?_⟩)
 ·refine af (fR ?_)
  refine af ?_
  show wpAny _ _ (updateSeq s.heap.objs.size (·.push .none)>>=fun _=>updateSeq s.heap.objs.size (·.pop)) _ _ _
  refine af (rh hL1 rfl ?_)
  have hL2:=eR (bG (·.push Value.none)) hL1 rfl
  refine rh (hz:=by seq_fits) hL2 rfl ?_
  have hL3:=eR (bG (·.pop)) hL2 rfl
  refine ar ⟨f6 lA _,eE (key _ _ ?_ (fun b o hb e=>?_) hL3) fun q s' y=>?_⟩
  ·refine W.frame 0 _ _ st fun b hb o e=>?_
   have hbS:b≠s.heap.objs.size:=fun z=>nf (z▸hb)
   exact(bt _ _ (dz hbS)).trans ((bt _ _ (dz hbS)).trans e)
  ·exact(bt _ _ (dz hb)).trans ((bt _ _ (dz hb)).trans e)
  ·obtain⟨rfl,y2⟩:=fin q s' y
   exact y2
 ·obtain⟨rfl,y2⟩:=fin q s' y
  exact y2
end
section
open MyS PySem.W
variable{X:Cx}{pins:List (ao×Obj)}{σ:List (Option V)}{H:Hp}{s:aq}
theorem Inv.draw {h':bB}{tk:Nat}{d:Drawn}(I:Inv X pins σ H {s with heap:=h',toks:=tk}):Inv X pins σ H {s with heap:=h',toks:=tk,drawn:=d} :=
 ⟨I.ok,I.os,I.bare,I.base,I.loc,I.cell,I.free,I.freeC,I.pin,I.hok,I.len⟩
theorem Inv.grown {h':bB}{tk:Nat}(I:Inv X pins σ H s)(k:∀b u,s.heap.get? b=some u->h'.get? b=some u):Inv X pins σ H {s with heap:=h',toks:=tk} :=
 I.un (Un.kept k) (I.hok.kept k)
theorem zQM (T:X.calm=true){a:ao}{ks:List Str}{Q:VK}(I:Inv X pins σ H s)(C:qG X.prog X.w s.heap a ks)(U:ks.length<64)
  (q:∀(out:List Str) (l:ao),(∀x,x∈out↔x∈ks)->out.Pairwise (fun a b=>a.cps.toList<b.cps.toList)->H l=none->Q (.ref l) (upd H l (.lst (out.map V.str)))) :
  wpAny (model X.prog X.w) X.A (call (.builtin "sorted") [.ref a]) (EP X pins σ Q) X.xe s:=by
 obtain⟨L,M,nd,mem,sz⟩:=C
 refine Calls.call_function_entry kind_sorted plain_sorted entry_sorted (args_sorted1 _) ?_
 unfold cJ.«sorted»
 refine af (m:=checkCount "sorted" 1 1 _) (ar ?_)
 refine af (zQL (A:=X.A.in1) (I.ok.hd T) M fun h' tk d ord pm W=>?_)
 have N:Inv X pins σ H {s with heap:=h',toks:=tk,drawn:=d}:=(I.grown W).draw
 obtain⟨ep,t,ho,D,_⟩:=M
 have c:∀v∈ord,∃x u,v=Value.str x u:=fun v hv=>by
  obtain⟨e,he,rfl⟩:=av.mp (pm.mem_iff.mp hv)
  obtain⟨⟨k,E,_⟩,_⟩:=D e he
  obtain⟨u,O⟩:=eu E
  exact⟨k,u,O⟩
 have C:tR ord (ord.map uG):=by
  have go:∀l:List ai,(∀v∈l,∃x u,v=Value.str x u)->tR l (l.map uG):=by
   intro l
   induction l with
   |nil=>intro _;exact .nil
   |cons v l ih=>
    intro hl
    obtain⟨x,u,rfl⟩:=hl v (au ..)
    exact .cons _ _ (ih fun v hv=>hl v (aj _ hv))
  exact go ord c
 have pt:(ord.map uG).Perm (u9 L):=by
  have:=pm.map uG
  rw[bc]at this
  exact this
 have F:(ord.map uG).Nodup:=pt.nodup_iff.mpr nd
 have ol:ord.length=L.size:=by rw[pm.length_eq,ah,bh]
 have g:ord.length<64:=by omega
 refine af (lQ ?_ (by rw[aL];omega))
 dsimp only
 generalize z:h'.objs.size=B
 have h:(h'.push {cls:=.type "list",data:=.seq ord.toArray}).get? B=some (seqObj "list" ord.toArray 0):=by
  rw[<-z];exact aC _ rfl
 have old:∀b o,h'.get? b=some o->(h'.push {cls:=.type "list",data:=.seq ord.toArray}).get? b=some o/\b≠B:=fun b o e=>⟨ae _ e,by rw[<-z];exact aV (aD e)⟩
 refine af (cV (cf rM ⟨_,h,rfl⟩ qy (zMO (ks:=ord.map uG) h C F g fun p P O f n G J=>⟨_,rfl,?_⟩) (args_list_sort _)))
 refine ar ⟨_,rfl,?_⟩
 have r:∀b o,h'.get? b=some o->P.get? b=some o:=fun b o e=>G b o (old _ _ e).2 (old _ _ e).1
 refine⟨.ref B,_,N.laid (t':=tk) (o:=.lst ((p.map fun i=>(ord.map uG).getD i ⟨#[]⟩).map V.str)) r (fN z) ⟨?_,_,_,?_,J⟩,rfl,q _ B ?_ ?_ (N.hok.fresh (fN z))⟩
 ·rw[ah,ah,f.length_eq,bE,aL];omega
 ·have go:∀l:List Nat,(∀i∈l,i<ord.length)->zJ ((l.map fun i=>(ord.map uG).getD i ⟨#[]⟩).map V.str) (l.map fun i=>ord.getD i Value.none):=by
   intro l
   induction l with
   |nil=>intro _;exact .nil
   |cons i l ih=>
    intro y
    have hi:i<ord.length:=y i (au ..)
    refine .cons ?_ (ih fun j Y=>y j (aj _ Y))
    obtain⟨x,u,e⟩:=c ord[i] (c6 hi)
    have Z:ord.getD i Value.none=Value.str x u:=by simp[hi,e]
    have a2:(ord.map uG).getD i ⟨#[]⟩=x:=by simp[hi,e,uG]
    show zQ (V.str ((ord.map uG).getD i ⟨#[]⟩)) (ord.getD i Value.none)
    rw[Z,a2]
    exact⟨_,rfl⟩
  exact go p fun i hi=>bP.mp (f.mem_iff.mp hi)
 ·intro x
  have e1:(bu ord.length).map (fun i=>(ord.map uG).getD i (⟨#[]⟩:Str))=ord.map uG:=by
   apply i0
   ·simp
   ·intro i h1 P
    have hi:i<ord.length:=by simpa using h1
    simp[hi]
  have R:=f.map (fun i=>(ord.map uG).getD i (⟨#[]⟩:Str))
  rw[e1]at R
  rw[R.mem_iff,pt.mem_iff]
  exact mem x
 ·rw[bD]
  rw[bD]at n
  exact n
noncomputable def zEa (K:ag)(x:V)(H:Hp)(Q:VK):Prop:=∃(p:ao) (ks:List Str),x=.ref p/\zX K H p (ks.map V.str)/\ks.length<64/\
 ∀(out:List Str) (l:ao),(∀x,x∈out↔x∈ks)->out.Pairwise (fun a b=>a.cps.toList<b.cps.toList)->H l=none->Q (.ref l) (upd H l (.lst (out.map V.str)))
noncomputable def zQN (K:ag)(t:TE):TE:=fun σ H Q=>t σ H fun x H1=>zEa K x H1 Q
theorem zQO {x y:Str}{e:bF}{E:TE}{p l pos c:Pos}(F:X.calm=true)(he:PE X e E)(M:Gl X x)(N:X.mg x=none)(hv:bootBuiltins x=some (.builtin "sorted"))(n:Gl X y)(o:X.mg y=none)(r:bootBuiltins y=some (.type "set"))
  (hn:x≠"__name__" :=by decide) (w:(x==("__debug__" : Str))=false:=by decide) (z:y≠"__name__" :=by decide) (g:(y==("__debug__" : Str))=false:=by decide)
  (G:starEach [e] X.env=(false,eval e X.env)::starEach [] X.env:=by rfl)
  (j:starEach [Expr.Call (.Name y l) [e] [] c] X.env=(false,eval (Expr.Call (.Name y l) [e] [] c) X.env)::starEach [] X.env:=by rfl) :
  PE X (.Call (.Name x p) [.Call (.Name y l) [e] [] c] [] pos) (zQN X.K E):=by
 intro pins s σ H Q I h
 refine c9 (qB I M N hv ?_ hn w)
 refine fC ?_ j rfl
 rw[j]
 show wpAny _ _ (spliced ((false,eval (Expr.Call (.Name y l) [e] [] c) X.env)::backTo pos (starEach [] X.env))) _ _ s
 refine d7 ?_
 refine c9 (qB I n o r ?_ z g)
 refine bQ (zH (zC he zE G c pins s σ H (fun xs B=>match xs with| [x]=>zEa X.K x B Q|_=>False) I ?_) fun us U ⟨vs,B,J,O,d⟩=>?_) G rfl
 ·exact h
 ·obtain⟨x,rfl,d⟩:∃x,vs=[x]/\zEa X.K x B Q:=by
   match vs,d with
   | [x],d=>exact⟨x,rfl,d⟩
   | [],d=>exact d.elim
   |_::_::_,d=>exact d.elim
  obtain⟨a,ks,rfl,C,D,q⟩:=d
  obtain⟨u,rfl,P⟩:=uM O
  cases P
  obtain⟨its,L,tp,_⟩:=J.tuple C
  have f:its.toArray.size=ks.length:=by have:=L.length;simp at this;simp[this]
  refine zPv (A:=X.A) (I.ok.hd F) tp f (fun i v hv=>?_) (by unfold scanBound;omega) fun h' tk R k=>?_
  ·have hi:i<ks.length:=by
    rw[<-f]
    exact(lq.mp hv).1
   obtain⟨u,e1,T⟩:=L.get (i:=i) (x:=.str (ks.getD i ⟨#[]⟩)) (by rw[az];simp[hi])
   have m:its[i]?=some v:=by simpa using hv
   rw[e1]at m
   injection m with m
   subst m
   obtain⟨t,rfl⟩:=T
   simp[cU]
  ·refine gb ?_
   exact zQM F (J.grown (tk:=tk) fun b u e=>k b u (aD e) e) R D q
end
theorem zQP (a b:ao)(xs ys:Array ai) :
  Meets (cJ.«zip.__new__» ⟨[.type "zip",.ref a,.ref b],[]⟩) (fun _ R s=>s.heap.IsTuple a xs/\s.heap.IsTuple b ys/\
   R (.ok (.ret (.ref (s.heap.objs.size+4)))) {s with heap:=((((s.heap.push {cls:=.type "tuple_iterator",data:=.fields #[.ref a,.int 0 0]}).push {cls:=.type "tuple_iterator",data:=.fields #[.ref b,.int 0 0]}).push {cls:=.type "tuple",data:=.seq #[.ref s.heap.objs.size,.ref (s.heap.objs.size+1)]}).push {cls:=.type "tuple",data:=.seq #[.none,.none]}).push {cls:=.type "zip",data:=.fields #[.none,.bool false,.bool false,.ref (s.heap.objs.size+2),.ref (s.heap.objs.size+3)]}}) :=
 .of_wp fun prog w A R s h=>by
  obtain⟨f,g,d,tk,os⟩:=s;obtain⟨hl1,hl2,h⟩:=h
  have i:=sub_zip
  have c:mS (lJ ⟨f,g,d,tk,os⟩) a xs:=hl1
  have e:mS (lJ ⟨f.push {cls:=.type "tuple_iterator",data:=.fields #[.ref a,.int 0 0]},g,d,tk,os⟩) b ys:=pB hl2 _
  wp_walk using dG c,dG e
  refine⟨_,rfl,?_⟩
  simp only[br]at*
  exact h
section
variable{prog:aH}{w:aW}{A:bK}{E:ai->aq->Prop}{s:aq}
theorem zQQ {a b:ao}{xs ys:Array ai}{Q:ai->aq->Prop}(hl1:s.heap.IsTuple a xs)(hl2:s.heap.IsTuple b ys)
  (h:∀h',iN h' (s.heap.objs.size+4) (s.heap.objs.size+2) (s.heap.objs.size+3) .none->dQ h' (s.heap.objs.size+2) (.ref s.heap.objs.size) (.ref (s.heap.objs.size+1))->
   dQ h' (s.heap.objs.size+3) .none .none->h'.IsTupleIter s.heap.objs.size a 0->h'.IsTupleIter (s.heap.objs.size+1) b 0->
   (∀c o,s.heap.get? c=some o->h'.get? c=some o)->Q (.ref (s.heap.objs.size+4)) {s with heap:=h'}) :
  wpAny (model prog w) A (call (.type "zip") [.ref a,.ref b]) Q E s:=by
 refine pD tS (by decide) (qc _ _) (qw _ _) (fun obj=>nL obj _ _) qx (zQP a b xs ys) ⟨hl1,hl2,?_⟩
 have d:∀(h:bB) (o:Obj) (n:Nat),h.objs.size=n->o.isFreed=false->(h.push o).get? n=some o:=fun h o n e f=>by subst e;exact aC _ f
 have g:∀(h:bB) (o:Obj) (n:Nat),h.objs.size=n->(h.push o).objs.size=n+1:=fun h o n e=>by rw[br,e]
 have i:=g s.heap {cls:=.type "tuple_iterator",data:=.fields #[.ref a,.int 0 0]} _ rfl
 have j:=g _ {cls:=.type "tuple_iterator",data:=.fields #[.ref b,.int 0 0]} _ i
 have l:=g _ {cls:=.type "tuple",data:=.seq #[.ref s.heap.objs.size,.ref (s.heap.objs.size+1)]} _ j
 have p:=g _ {cls:=.type "tuple",data:=.seq #[.none,.none]} _ l
 have m:=d _ {cls:=.type "zip",data:=.fields #[.none,.bool false,.bool false,.ref (s.heap.objs.size+2),.ref (s.heap.objs.size+3)]} _ p rfl
 show _/\_
 exact⟨⟨_,m,rfl⟩,h _ m (ae _ (ae _ (d _ _ _ j rfl))) (ae _ (d _ _ _ l rfl))
  ⟨_,ae _ (ae _ (ae _ (ae _ (d _ _ _ rfl rfl)))),rfl,rfl⟩
  ⟨_,ae _ (ae _ (ae _ (d _ _ _ i rfl))),rfl,rfl⟩
  fun c o x=>ae _ (ae _ (ae _ (ae _ (ae _ x))))⟩
end
noncomputable def zEb (K:ag)(a b:ao):It :=
 ⟨fun i H=>∃xs ys x y,zX K H a xs/\zX K H b ys/\xs[i]?=some x/\ys[i]?=some y,
  fun i H x H'=>∃T x1 y1,x=.ref T/\H T=none/\H'=upd H T (.tup [x1,y1])/\(∀xs,zX K H a xs->xs[i]?=some x1)/\(∀ys,zX K H b ys->ys[i]?=some y1),
  fun i H=>∃xs ys,zX K H a xs/\zX K H b ys/\(i=xs.length\/i<xs.length/\i=ys.length)⟩
structure Znt (n a b:Nat) (i:Nat) (h:bB):Prop where
 zz:iN h (n+4) (n+2) (n+3) .none
 ti:dQ h (n+2) (.ref n) (.ref (n+1))
 to:∃u v,dQ h (n+3) u v
 i1:h.IsTupleIter n a i
 i2:kM true h (n+1) b i
theorem zQR {P:aH}{w:aW}{K:ag}{D:List bF}{kk:Nat}{pos:Pos}{n a b:Nat}(ha:a<n)(F:b<n):Turn P w K (.Tuple D kk pos) (zEb K a b) [n+4,n+2,n+3,n,n+1] (n+4) (Znt n a b) where
 mem:=by simp
 obj:=fun i h st c l=>by
  have G:c=n+4\/c=n+2\/c=n+3\/c=n\/c=n+1:=by simpa using l
  rcases G with z|z|z|z|z
  ·rw[z];exact⟨_,st.zz,fun v z=>by cases z⟩
  ·rw[z];exact⟨_,st.ti,fun v z=>by cases z⟩
  ·rw[z];obtain⟨u,v,e⟩:=st.to;exact⟨_,e,fun v z=>by cases z⟩
  ·rw[z];obtain⟨o,e,c,d⟩:=st.i1;exact⟨o,e,fun v z=>by rw[d]at z;cases z⟩
  ·rw[z];exact st.i2.obj
 keep:=fun i h h' st k=>⟨k _ (by simp) _ st.zz,k _ (by simp) _ st.ti,let⟨u,v,e⟩:=st.to;⟨u,v,k _ (by simp) _ e⟩,st.i1.at fun o e=>k _ (by simp) o e,st.i2.keep fun o e=>k _ (by simp) o e⟩
 item:=by
  intro X T U W l i J s σ H E I hf st Y
  subst T U W
  obtain⟨xs,ys,x,y,hq1,hq2,Z,hy⟩:=Y
  obtain⟨its,rv,p,hz⟩:=I.tuple hq1
  obtain⟨u,hu,ru⟩:=rv.get Z
  obtain⟨m,T2,r,D2,t,L⟩:=zBw (tp:=true) I l hq2 (uQ 1 F)
  obtain⟨v,hv,aa⟩:=r.get hy
  have D1:=zBQ (prog:=X.prog) (w:=X.w) (A:=X.A.in1) (show X.A.in1.handled=none from I.ok.hd l) n a (uQ 0 ha) its.toArray
  obtain⟨t0,ab,B⟩:=st.to
  have l1:i<its.toArray.size:=by have:=(ak.mp hu).1;simpa using this
  have l2:i<m.length:=(ak.mp hv).1
  refine zGw D1 D2 (zAn ha F) st.zz st.ti B ⟨st.i1,p⟩ (t _ st.i2) l1 l2 fun N O h' tk px py a1 a2 a3 a4 a5 a6 R=>?_
  have ac:N=u:=by
   have:its[i]?=some N:=by simpa using px
   rw[hu]at this;exact(aB this).symm
  have al:O=v:=by
   have:m[i]?=some O:=py
   rw[hv]at this;exact(aB this).symm
  subst ac al
  refine⟨_,rfl,lx a1 fun h2 am j=>?_⟩
  have M:s.heap.get? s.heap.objs.size=none:=by
   cases g:s.heap.get? s.heap.objs.size with
   |none=>rfl
   |some o=>exact absurd (aD g) (bI _)
  have an:n+4<s.heap.objs.size:=aD st.zz
  have ap:dQ h2 s.heap.objs.size N O:=(j.2 _ (cw an)).trans a5
  have S:=zAn ha F
  refine⟨.ref s.heap.objs.size,upd H s.heap.objs.size (.tup [x,y]),I.turnedT (fp:=[n+4,n+2,n+3,n,n+1]) (h':=h2) (t':=tk) (fun c o f q=>?_) hf M ⟨by show 2<=sizeLine;decide,[N,O],.cons ru (.cons aa .nil),⟨_,ap,rfl,_,rfl⟩⟩,rfl,
   ⟨_,x,y,rfl,I.hok.free M,rfl,(fun zs C=>by rw[I.tuple_inj C hq1];exact Z),(fun zs C=>by rw[I.tuple_inj C hq2];exact hy)⟩,
   ⟨am,(j.2 _ S.TIz).trans (R _ _ S.TIz S.TITO S.TIi1 S.TIi2 st.ti),⟨_,_,(j.2 _ S.TOz).trans a2⟩,a3.1.at fun o q=>(j.2 n S.i1z).trans q,(L _ _ a4).keep fun o q=>(j.2 (n+1) S.i2z).trans q⟩,fun c f=>?_⟩
  ·have c1:c≠n+4:=fun z=>f (by simp[z])
   have c2:c≠n+3:=fun z=>f (by simp[z])
   have c3:c≠n:=fun z=>f (by simp[z])
   have c4:c≠n+1:=fun z=>f (by simp[z])
   exact(j.2 c c1).trans (R c o c1 c2 c3 c4 q)
  ·rw[zG]
   ·exact(hf c f).1
   ·rintro rfl
    have G:s.heap.objs.size=n+4\/s.heap.objs.size=n+2\/s.heap.objs.size=n+3\/s.heap.objs.size=n\/s.heap.objs.size=n+1:=by simpa using f
    omega
 done:=by
  intro X T U W l i J s σ H E I hf st Y
  subst T U W
  obtain⟨xs,ys,hq1,hq2,Z⟩:=Y
  obtain⟨its,rv,p,hz⟩:=I.tuple hq1
  obtain⟨m,T2,r,D2,t,L⟩:=zBw (tp:=true) I l hq2 (uQ 1 F)
  have e1:=rv.length
  have e2:=r.length
  have D1:=zBQ (prog:=X.prog) (w:=X.w) (A:=X.A.in1) (show X.A.in1.handled=none from I.ok.hd l) n a (uQ 0 ha) its.toArray
  obtain⟨t0,ab,B⟩:=st.to
  refine zGx D1 D2 (zAn ha F) st.zz st.ti B ⟨st.i1,p⟩ (t _ st.i2) (by rw[aG];omega) fun h' tk R=>⟨rfl,I.turnedF (fp:=[n+4,n+2,n+3,n,n+1]) (fun c o f q=>?_) hf⟩
  exact R c o (fun z=>f (by simp[z])) (fun z=>f (by simp[z])) (fun z=>f (by simp[z])) (fun z=>f (by simp[z])) q
 self:=fun A i s Q E st h=>gv st.zz h
section
variable{X:Cx}{elts:List bF}{k:Nat}{tpos:Pos}
noncomputable def zQS (K:ag)(ta:TA):TI:=fun σ H R=>ta σ H fun vs H1=>∃a b xs ys,vs=[.ref a,.ref b]/\zX K H1 a xs/\zX K H1 b ys/\R (zEb K a b) H1
theorem zQT {e f:bF}{u:TA}{p pos:Pos}(x:Gl X "zip")(y:X.mg "zip"=none)(ha:PA X [e,f] u)(z:starEach [e,f] X.env=[(false,eval e X.env),(false,eval f X.env)]:=by rfl)(i:starEach [f] X.env=[(false,eval f X.env)]:=by rfl) :
  PI X (.Tuple elts k tpos) (.Call (.Name "zip" p) [e,f] [] pos) (zQS X.K u):=by
 intro g s σ H R I h
 refine uh (qB I x y boot_zip (bQ (zH (ha pos g s σ H _ I h) fun us d ⟨vs,v,j,A,B⟩=>?_) (by rw[z,i]) (by rw[i];rfl)))
 obtain⟨a,b,xs,ys,rfl,hl,C,q⟩:=B
 cases A with
 |cons D E=>
 cases E with
 |cons F G=>
 cases G
 cases D
 cases F
 obtain⟨its,Z,J,hz⟩:=j.tuple hl
 have fresh:∀(h':bB),(∀c o,d.heap.get? c=some o->h'.get? c=some o)->∀c∈[d.heap.objs.size+4,d.heap.objs.size+2,d.heap.objs.size+3,d.heap.objs.size,d.heap.objs.size+1],uT X g v c:=fun h' r c L=>by
  have l:d.heap.objs.size<=c:=by
   have:c=d.heap.objs.size+4\/c=d.heap.objs.size+2\/c=d.heap.objs.size+3\/c=d.heap.objs.size\/c=d.heap.objs.size+1:=by simpa using L
   omega
  exact j.fpOk l (j.hok.fresh l)
 have m:d.heap.IsTuple a its.toArray:=J
 have M:a<d.heap.objs.size:=let⟨o,e,_⟩:=m;aD e
 obtain⟨t,N,O,P⟩:=j.tuple C
 have n:d.heap.IsTuple b t.toArray:=O
 have Q:b<d.heap.objs.size:=let⟨o,e,_⟩:=n;aD e
 refine zQQ m n fun h' w T U W Y r=>?_
 exact gv w ⟨_,[d.heap.objs.size+4,d.heap.objs.size+2,d.heap.objs.size+3,d.heap.objs.size,d.heap.objs.size+1],_,_,v,rfl,j.kept (t':=d.toks) r,zQR M Q,⟨w,T,⟨_,_,U⟩,W,Y⟩,fresh h' r,q⟩
end
section
variable{prog:aH}{w:aW}{A:bK}{E:ai->aq->Prop}{s:aq}
theorem zQU {t b:ao}{items:Array ai}{f g:ai}{lo hi:Option Int}{Q:ai->aq->Prop}(a:rq s.heap t items)(i:s.heap.IsSliceOf b f g .none)(pl:mE f lo)(l:mE g hi)
  (j:HT.sIx items.size 0 lo=0/\HT.sIx items.size items.size hi=items.size)
  (h:Q (.ref t) s)
  (hsz:items.size<=sizeLine):wpAny (model prog w) A (getItem (.ref t) (.ref b)) Q E s:=by
 obtain⟨os,c,d,m⟩:=id i
 have e:s.TypeIs (.ref b) "slice" :=⟨os,c,d⟩
 unfold getItem
 try with_reducible refine cV ?_
 first|refine af (ar ?_)|skip
 refine af (o6 a.typeIs (by decide) ?_)
 refine af (bU (name:=di "__getitem__") a.typeIs cz
  (cf cz a.typeIs nZ ?_ (oJ _ _)))
 show wpAny _ _ (ki (.ref t)>>=_) _ _ s
 refine af (sR a ?_)
 refine af (gq e ?_)
 rw[if_pos (by decide)]
 refine af (HT.sliceApplied_gen i pl l ?_)
 rw[j.1,j.2]
 show wpAny _ _ (if(((0:Nat):Int)==0&& (1:Int)==1&& (items.size-0)==items.size)=true then _ else _) _ _ s
 rw[if_pos (by simp)]
 unfold rW
 refine af (af (gq a.typeIs (ar ?_)))
 rw[if_pos (by decide)]
 exact af (fR (ar ⟨_,rfl,ar h⟩))
end
section
variable{X:Cx}
noncomputable def zQV (K:ag):V->Option Int->Option Int->Hp->VK->Prop:=fun x lo hi H Q=>∃a xs,x=.ref a/\zX K H a xs/\(HT.sIx xs.length 0 lo=0/\HT.sIx xs.length xs.length hi=xs.length)/\Q (.ref a) H
theorem zQW:SlR X (zQV X.K):=by
 intro c s σ H x v l m lo hi n Q I e f pl g h
 obtain⟨a,xs,rfl,i,j,q⟩:=h
 cases e
 obtain⟨its,r,d,hz⟩:=I.tuple i
 have b:its.toArray.size=xs.length:=by rw[aG];exact r.length.symm
 refine⟨"tuple",_,cz.lookup,d.typeIs,?_⟩
 exact zQU d f pl g (by rw[b];exact j) ⟨.ref a,H,I,rfl,q⟩ (by rw[b];exact hz)
theorem zBA:yG X (binaryOp .Add) (fun x y H Q=>∃a b xs ys,x=.ref a/\y=.ref b/\H a=some (.tup xs)/\H b=some (.tup ys)/\xs.length+ys.length<=sizeLine/\∀p d,zA H d->d p=some (.tup (xs++ys))->Q (.ref p) d):=by
 intro c s σ H x y v u Q I f g h
 obtain⟨a,b,xs,ys,rfl,rfl,ha,e,hz,q⟩:=h
 by_cases i:xs=[]
 ·subst i
  exact zGs c s σ H _ _ v u Q I f g ⟨a,b,ys,rfl,rfl,.of ha,.of e,q b H (zA.refl H) e⟩
 ·refine zFx c s σ H _ _ v u Q I f g ⟨a,b,xs,ys,rfl,rfl,.of ha,.of e,i,hz,fun j=>q a H (zA.refl H) (by rw[j,dC];exact ha),fun _ p l=>q p _ (zA.upd1 l) zF⟩
theorem zQX {xs:List V}{lo hi:Option Int}(h:HT.sIx xs.length 0 lo=0/\HT.sIx xs.length xs.length hi=xs.length):vN xs lo hi=xs:=by
 unfold vN
 rw[h.1,h.2,eM,gu,bw]
theorem zBa:SlR X (fun x lo hi H Q=>∃a xs,x=.ref a/\H a=some (.tup xs)/\∀p c,zA H c->c p=some (.tup (vN xs lo hi))->Q (.ref p) c):=by
 intro b s σ H x v e f lo hi g Q I i j pl l h
 obtain⟨a,xs,rfl,ha,q⟩:=h
 by_cases d:HT.sIx xs.length 0 lo=0/\HT.sIx xs.length xs.length hi=xs.length
 ·exact zQW b s σ H _ v e f lo hi g Q I i j pl l ⟨a,xs,rfl,.of ha,d,q a H (zA.refl H) (by rw[zQX d];exact ha)⟩
 ·exact zLW b s σ H _ v e f lo hi g Q I i j pl l ⟨a,xs,rfl,.of ha,d,fun p m=>q p _ (zA.upd1 m) zF⟩
end
end L2
end
section
namespace Kn
open PySem L2
noncomputable def qW (l:List S):Bool:=(l.zip (l.drop 1)).all fun p=>decide (p.1<p.2)
section
variable{P:aH}{w:aW}{K:ag}{mg:Str->Option ai}{base:bB}
structure CstW (mg:Str->Option ai):Prop where
 least:∃t,mg "LEAST"=some (.int 0 t)
 most:∃t,mg "MOST"=some (.int 1 t)
 head:∃t,mg "HEAD"=some (.int 2 t)
 tail:∃t,mg "TAIL"=some (.int 3 t)
 barred:∃t,mg "BARRED"=some (.int 4 t)
 told:∃t,mg "TOLD"=some (.int 5 t)
 parts:∃t,mg "MANY_PARTS"=some (.int 6 t)
 edge:∃t,mg "MOST_EDGE"=some (.int 3 t)
 mb:∃t,mg "MOST_BARRED"=some (.int 6 t)
noncomputable def zIg:Sp:=fun vs H Q _=>∃(a:ao) (l:List S),vs=[.ref a]/\H a=some (.tup (zD l))/\l.length<=100/\∀H',zA H H'->Q (.bl (qW l)) H'
noncomputable abbrev zEc:cT:=top 18
theorem zQY:FnScope ["things"] ["things"] (defScope zEc):=z9
theorem zIh:(["one","other"]:List Str).Nodup:=by decide+kernel
theorem zQZ (l:List S):vN (zD l) (some 1) none=zD (l.drop 1):=by
 unfold vN
 have e:HT.sIx (zD l).length 0 (some 1)=min 1 (zD l).length:=HT.sIx_nat _ _ 1
 have a:HT.sIx (zD l).length (zD l).length none=(zD l).length:=rfl
 rw[e,a]
 unfold zD
 rw[oA,ah]
 cases l with
 |nil=>rfl
 |cons x l=>
  rw[aJ,rj (by omega)]
  rw[dR (by rw[cc,ah,aJ];omega)]
theorem zAS {l:List S}{i:Nat}{v:V}(h:(zD l)[i]?=some v):∃x,l[i]?=some x/\v=sv x:=by
 unfold zD at h
 rw[az]at h
 cases e:l[i]? with
 |none=>rw[e]at h;cases h
 |some x=>rw[e]at h;exact⟨x,rfl,(aB h).symm⟩
theorem zQa {f:ao}{fd:aZ}(F:Fun K "is_rising" "is_rising" zEc f fd)(B:Blt mg)(hz:mg "zip"=none):FnOk P w K mg base zZ 1 f fd ["things"] zIg:=by
 refine F.ok zQY (fun vs H Q E h=>?_) (fun L A outer s H vs Q E hr h=>?_)
 ·obtain⟨a,l,rfl,_⟩:=h;rfl
 ·obtain⟨a,l,rfl,ha,u,k⟩:=h
  refine⟨_,zK (z0 (yL (zBO rfl) (by rfl) B.all eT (zC (uD (N:=["one","other"]) (caps:=[]) rfl (v9 (by kernel_rfl)) (zQT rfl hz (zC (pv 0) (zC (kH zBa (pv 0) (qJ zN) jC) zE)))
    (fun v C s H ex=>gL K 2 rfl rfl (yY (z7 (i:=0) zIh rfl (Or.inl rfl)) (yY (z7 (i:=1) zIh rfl (Or.inl rfl)) qC)) rfl rfl)
    (fun v C s H ex=>uO)
    (fun v C s H ex=>jU zKp (pv 0) (pv 1) (yU _))) zE))),?_⟩
  refine⟨_,rfl,_,rfl,_,rfl,a,_,rfl,ha,fun b M o j=>?_⟩
  rw[zQZ]at j
  have m:=o _ _ ha
  refine⟨a,b,_,_,rfl,.of m,.of j,?_⟩
  have dl:(l.drop 1).length=l.length-1:=by rw[cc]
  have bl:∀l:List S,(zD l).length=l.length:=fun l=>by unfold zD;rw[ah]
  refine zDQ (J:=zEb K a b) (xs:=zD l) (ys:=zD (l.drop 1)) (len:=(l.drop 1).length) (Hk:=fun c=>zX K c a (zD l)/\zX K c b (zD (l.drop 1)))
   (fun i c g hi=>⟨zD l,zD (l.drop 1),(zD l)[i]'(by rw[bl];omega),(zD (l.drop 1))[i]'(by rw[bl];exact hi),g.1,g.2,ay _,ay _⟩)
   (fun i c g e=>⟨zD l,zD (l.drop 1),g.1,g.2,by rw[bl,bl];omega⟩)
   (fun i c x O g ⟨T,R,U,e1,q,r,W,X⟩=>⟨T,R,U,e1,q,r,W _ g.1,X _ g.2⟩)
   [] 2 (by omega) (fun i d c=>zA M c/\d=(((l.zip (l.drop 1)).take i).map fun p=>decide (p.1<p.2)).map V.bl)
   ⟨zA.refl _,rfl⟩ (fun i d c hi h=>⟨⟨.of (h.1 _ _ m),.of (h.1 _ _ j)⟩,by rw[h.2,ah,ah,aO];omega⟩) ?_ ?_
  ·rintro i x y T d c zs Nx Y Z hy t ⟨n,rfl⟩ hT
   obtain⟨z1,z2,rfl⟩:=ys2 t
   obtain⟨z,e1,rfl⟩:=zAS Z
   obtain⟨G,q,rfl⟩:=zAS hy
   have t2:zA c (upd c T (.tup [sv z,sv G])):=zA.upd1 hT
   refine⟨T,_,rfl,.of zF,rfl,_,_,rfl,_,_,rfl,rfl,?_⟩
   unfold zAF
   dsimp only
   rw[if_pos rfl]
   refine⟨_,rfl,_,rfl,_,_,rfl,rfl,Y _ _ [_,_] rfl ⟨n.trans t2,?_⟩⟩
   have I:(l.zip (l.drop 1))[i]?=some (z,G):=by
    rw[gz];exact⟨e1,q⟩
   rw[aF (ak.mp I).1,(ak.mp I).2,aU,aU]
   rfl
  ·rintro d c ⟨n,rfl⟩ D hD
   have e:(l.zip (l.drop 1)).take (l.drop 1).length=l.zip (l.drop 1):=dR (by rw[jn];omega)
   rw[e]
   refine⟨D,(l.zip (l.drop 1)).map fun p=>decide (p.1<p.2),rfl,.of zF,?_⟩
   have r:((l.zip (l.drop 1)).map fun p=>decide (p.1<p.2)).all id=qW l:=by unfold qW;rw[pI];rfl
   rw[r]
   exact k _ ((o.trans n).upd_new ((o.trans n).free hD))
noncomputable abbrev zEd:cT:=top 51
theorem zQb:FnScope ["thing"] ["thing"] (defScope zEd):=z9
noncomputable abbrev zEe:cT:=top 52
theorem zQc:FnScope ["thing"] ["thing"] (defScope zEe):=z9
theorem zQd:(["name"]:List Str).Nodup:=by decide+kernel
noncomputable abbrev zEf:cT:=top 53
theorem zQe:FnScope ["thing"] ["thing"] (defScope zEf):=z9
end
structure GW (lo hi:Int) (hd tl:S) (ba:List S):Prop where
 glo:1<=lo
 gle:lo<=hi
 ghi:hi<=8
 ghd:hd=[]\/(v1 hd/\hd.length<=3)
 gtl:tl=[]\/(v1 tl/\tl.length<=3)
 len:ba.length<=6
 nm:∀x∈ba,v1 x
 ris:qW ba=true
noncomputable def qQ (H:Hp)(a:ao)(lo hi:Int)(hd tl:S)(ba:List S)(to:Bool):Prop:=∃b,H a=some (.tup [.int lo,.int hi,sv hd,sv tl,.ref b,.bl to])/\H b=some (.tup (zD ba))
theorem qQ.same {H c:Hp}{a:ao}{lo hi:Int}{hd tl:S}{d:List S}{to:Bool}(h:qQ H a lo hi hd tl d to)(e:zA H c):qQ c a lo hi hd tl d to :=
 let⟨b,f,g⟩:=h;⟨b,e _ _ f,e _ _ g⟩
noncomputable def zBb (bk ba:List S)(to:Bool)(x:S):Bool:=decide (x∈ba)||(!to&&decide (x∈bk))
section
variable{P:aH}{w:aW}{K:ag}{mg:Str->Option ai}{base:bB}
noncomputable abbrev zEg:cT:=top 54
theorem zQf:FnScope ["thing"] ["thing"] (defScope zEg):=z9
noncomputable abbrev zEh:cT:=top 55
theorem zQg:FnScope ["book","wish"] ["book","wish"] (defScope zEh):=z9
theorem zQh (l:List S):zD l=(l.map tx).map V.str:=by
 unfold zD
 rw[bc];rfl
end
end Kn
end
section
namespace L2
open PySem PySem.Spec PyProof.Rows
section
variable{X:Cx}
noncomputable def zQi:List V->Hp->VK->Prop:=fun xs H Q=>∃z:Str,xs=[.str z]/\z.cps.size<=1000/\∀l:ao,H l=none->Q (.ref l) (upd H l (.lst (z.cps.toList.map fun c=>V.str ⟨#[c]⟩)))
theorem zIi (m:X.calm=true):uU X (.type "list") zQi:=by
 intro g s σ H xs us Q I n h
 obtain⟨z,rfl,hz,q⟩:=h
 obtain⟨u,rfl,t,rfl⟩:=uM n
 have hn:(1000:Nat)<=sizeLine:=by rw[aL];decide
 refine call_list_str (I.ok.hd m) z t (fun h' tk b r w x d=>?_) (by omega)
 have f:b.toList.length=z.cps.toList.length:=by rw[bh,bh];exact d.1
 have hv:zJ (z.cps.toList.map fun c=>V.str ⟨#[c]⟩) b.toList:=by
  have go:∀(l:List Nat) (a:List ai),a.length=l.length->(∀(i:Nat) (v:ai),a[i]?=some v->∃p,l[i]?=some p/\∃t,v=Value.str ⟨#[p]⟩ t)->zJ (l.map fun c=>V.str ⟨#[c]⟩) a:=by
   intro l
   induction l with
   |nil=>intro a ha _;rw[cS.mp ha];exact .nil
   |cons p l ih=>
    intro a ha j
    cases a with
    |nil=>cases ha
    |cons v a=>
     obtain⟨B,e,t,ev⟩:=j 0 v rfl
     cases e
     exact .cons ⟨t,ev⟩ (ih a (by simpa using ha) fun i u y=>by simpa using j (i+1) u (by simpa using y))
  refine go z.cps.toList b.toList f fun i v e=>?_
  obtain⟨c,u,e1,A⟩:=d.2 i v (by rw[<-dY];exact e)
  exact⟨c,by rw[dY];exact e1,u,A⟩
 refine⟨.ref s.heap.objs.size,_,I.laid (t':=tk) (o:=.lst (z.cps.toList.map fun c=>V.str ⟨#[c]⟩)) w (aA _) ⟨by rw[ah,bh];omega,b.toList,r,hv,?_⟩,rfl,q _ (I.hok.fresh (aA _))⟩
 rw[nQ];exact x
end
end L2
end
section
namespace Kn.Ln
open PySem L2 Kn
noncomputable def vG (hd:S)(n:Nat):List S:=hd.map (fun c=>[c])++aR (n-hd.length) []
noncomputable def vC (tl:S)(n:Nat):List S:=aR (n-tl.length) []++tl.map fun c=>[c]
noncomputable def uH (x y:S):Bool:=decide (x=y)||(decide (x=[])||decide (y=[]))
noncomputable def jN (x y:S):S:=if x=[]then y else x
noncomputable def qH (hd tl:S)(n:Nat):List (List S):=if n<max hd.length tl.length then []else if((vG hd n).zip (vC tl n)).all (fun p=>uH p.1 p.2)=true then [((vG hd n).zip (vC tl n)).map fun p=>jN p.1 p.2]else []
noncomputable def yI (lo hi:Nat)(hd tl:S):List (List S):=(bu (hi+1-lo)).flatMap fun i=>qH hd tl (lo+i)
theorem zCa {hd:S}{n:Nat}(h:hd.length<=n):(vG hd n).length=n:=by
 unfold vG;rw[aw,ah,dX];omega
theorem zEi {tl:S}{n:Nat}(h:tl.length<=n):(vC tl n).length=n:=by
 unfold vC;rw[aw,ah,dX];omega
theorem zIj:∀(k:Nat) (t:S),yD (aR k []) t=true↔t.length=k
 |0,[]=>by simp[yD]
 |0,c::t=>by simp[yD]
 |k+1,[]=>by simp[cn,yD]
 |k+1,c::t=>by
  rw[cn]
  unfold yD
  rw[bA,zIj k t,aJ]
  simp
theorem zIk:∀(hd:S) (k:Nat) (t:S),yD (hd.map (fun c=>[c])++aR k []) t=true↔t.length=hd.length+k/\t.take hd.length=hd
 | [],k,t=>by
  rw[mK,dU,zIj];simp
 |c::hd,k,[]=>by
  rw[aQ,cu]
  simp[yD]
 |c::hd,k,d::t=>by
  rw[aQ,cu]
  unfold yD
  rw[bA,zIk hd k t,aJ,aJ,List.take_succ_cons]
  simp
  constructor
  ·rintro⟨e,b,a⟩;exact⟨by omega,e.symm,a⟩
  ·rintro⟨b,e,a⟩;exact⟨e.symm,by omega,a⟩
theorem zIl:∀(tl t:S),yD (tl.map fun c=>[c]) t=true↔t=tl
 | [],[]=>by simp[yD]
 | [],c::t=>by simp[yD]
 |c::tl,[]=>by simp[yD]
 |c::tl,d::t=>by
  rw[aQ]
  unfold yD
  rw[bA,zIl tl t]
  simp
  exact fun _=>eq_comm
theorem zIm:∀(k:Nat) (tl t:S),yD (aR k []++tl.map fun c=>[c]) t=true↔t.length=k+tl.length/\t.drop k=tl
 |0,tl,t=>by
  rw[List.replicate_zero,dU,zIl,eM]
  constructor
  ·rintro rfl;exact⟨by omega,rfl⟩
  ·exact fun h=>h.2
 |k+1,tl,[]=>by
  rw[cn,cu]
  simp[yD];omega
 |k+1,tl,d::t=>by
  rw[cn,cu]
  unfold yD
  rw[bA,zIm k tl t,aJ,List.drop_succ_cons]
  simp
  exact fun _=>by omega
theorem zQj (w v:S)(c:Nat):((w=[]\/w=[c])/\(v=[]\/v=[c]))↔uH w v=true/\(jN w v=[]\/jN w v=[c]):=by
 unfold uH jN
 by_cases h:w=[]
 ·subst h;simp
 ·rw[if_neg h]
  simp only[h,false_or,decide_false,lN,jj,decide_eq_true_eq]
  constructor
  ·rintro⟨rfl,rfl|rfl⟩
   ·exact⟨.inr rfl,rfl⟩
   ·exact⟨.inl rfl,rfl⟩
  ·rintro⟨rfl|rfl,e⟩
   ·exact⟨e,.inr e⟩
   ·exact⟨e,.inl rfl⟩
theorem zIn:∀(a b:List S) (t:S),a.length=b.length->((yD a t=true/\yD b t=true)↔((a.zip b).all (fun p=>uH p.1 p.2)=true/\yD ((a.zip b).map fun p=>jN p.1 p.2) t=true))
 | [],[],t,_=>by simp
 | [],_::_,t,h=>by cases h
 |_::_,[],t,h=>by cases h
 |w::a,v::b,[],h=>by simp[yD]
 |w::a,v::b,c::t,h=>by
  have ih:=zIn a b t (by simpa using h)
  have g:=zQj w v c
  rw[List.zip_cons_cons,aQ,oy]
  unfold yD
  simp only[bA,jj,decide_eq_true_eq]
  constructor
  ·rintro⟨⟨d,e⟩,f,i⟩
   obtain⟨g1,g2⟩:=g.mp ⟨d,f⟩
   obtain⟨i1,i2⟩:=ih.mp ⟨e,i⟩
   exact⟨⟨g1,i1⟩,g2,i2⟩
  ·rintro⟨⟨g1,i1⟩,g2,i2⟩
   obtain⟨d,f⟩:=g.mpr ⟨g1,g2⟩
   obtain⟨e,i⟩:=ih.mpr ⟨i1,i2⟩
   exact⟨⟨d,e⟩,f,i⟩
noncomputable def zCb (lo hi:Nat)(hd tl t:S):Prop:=lo<=t.length/\t.length<=hi/\t.take hd.length=hd/\zY t tl.length=tl
theorem zQk {t h:S}(e:t.take h.length=h):h.length<=t.length:=by
 have:=congrArg fc e
 rw[aO]at this;omega
theorem zQl {t l:S}(e:zY t l.length=l):l.length<=t.length:=by
 have:=congrArg fc e
 unfold zY at this
 rw[cc]at this;omega
theorem zEj {hd tl:S}{n:Nat}{p:List S}(h:p∈qH hd tl n):p.length=n:=by
 unfold qH at h
 split at h
 ·cases h
 ·rename_i a
  split at h
  ·rw[aM.mp h,ah,jn,zCa (by omega),zEi (by omega)];omega
  ·cases h
theorem zIo {hd tl:S}{n:Nat}{t:S}:(∃p∈qH hd tl n,yD p t=true)↔t.length=n/\t.take hd.length=hd/\zY t tl.length=tl:=by
 unfold qH
 by_cases f:n<max hd.length tl.length
 ·rw[if_pos f]
  constructor
  ·rintro⟨p,c,_⟩;cases c
  ·rintro⟨a,b,e⟩
   have:=zQk b
   have:=zQl e
   omega
 ·rw[if_neg f]
  have g:hd.length<=n:=by omega
  have h:tl.length<=n:=by omega
  have e1:=zIk hd (n-hd.length) t
  have i:=zIm (n-tl.length) tl t
  have key:=zIn (vG hd n) (vC tl n) t (by rw[zCa g,zEi h])
  have f1:yD (vG hd n) t=true↔t.length=n/\t.take hd.length=hd:=by
   unfold vG;rw[e1,show hd.length+(n-hd.length)=n by omega]
  have f2:yD (vC tl n) t=true↔t.length=n/\zY t tl.length=tl:=by
   unfold vC
   rw[i,show n-tl.length+tl.length=n by omega]
   unfold zY
   constructor
   ·rintro⟨a,b⟩;exact⟨a,by rw[a];exact b⟩
   ·rintro⟨a,b⟩;exact⟨a,by rw[a]at b;exact b⟩
  constructor
  ·rintro⟨p,c,hf⟩
   split at c
   ·rename_i d
    rw[aM.mp c]at hf
    obtain⟨a,b⟩:=key.mpr ⟨d,hf⟩
    exact⟨(f1.mp a).1,(f1.mp a).2,(f2.mp b).2⟩
   ·cases c
  ·rintro⟨a,b,e⟩
   obtain⟨j,l⟩:=key.mp ⟨f1.mpr ⟨a,b⟩,f2.mpr ⟨a,e⟩⟩
   rw[if_pos j]
   exact⟨_,bJ _,l⟩
theorem zQm {lo hi:Nat}{hd tl t:S}:(∃p∈yI lo hi hd tl,yD p t=true)↔zCb lo hi hd tl t:=by
 unfold yI zCb
 constructor
 ·rintro⟨p,a,hf⟩
  obtain⟨i,b,a⟩:=bf.mp a
  have b:=bP.mp b
  obtain⟨e,d,c⟩:=zIo.mp ⟨p,a,hf⟩
  exact⟨by omega,by omega,d,c⟩
 ·rintro⟨e,d,c,f⟩
  obtain⟨p,a,hf⟩:=zIo.mpr ⟨rfl,c,f⟩
  exact⟨p,bf.mpr ⟨t.length-lo,bP.mpr (by omega),by rw[show lo+(t.length-lo)=t.length by omega];exact a⟩,hf⟩
theorem zCc {lo hi:Nat}{hd tl:S}{p:List S}(h:p∈yI lo hi hd tl):lo<=p.length/\p.length<=hi:=by
 obtain⟨i,a,b⟩:=bf.mp h
 have a:=bP.mp a
 have:=zEj b
 omega
theorem zCd (hd tl:S)(n:Nat):(qH hd tl n).length<=1:=by
 unfold qH
 split
 ·simp
 ·split<;>simp
theorem zCe (lo hi:Nat)(hd tl:S):(yI lo hi hd tl).Pairwise fun p q=>p.length≠q.length:=by
 unfold yI
 rw[dZ]
 refine⟨fun i _=>?_,?_⟩
 ·have:=zCd hd tl (lo+i)
  match qH hd tl (lo+i),this with
  | [],_=>simp
  | [p],_=>simp
 ·refine(p9).imp fun{i j} a p b q c e=>?_
  rw[zEj b,zEj c]at e
  omega
theorem zQn (lo hi:Nat)(hd tl:S):(yI lo hi hd tl).length<=hi+1-lo:=by
 unfold yI
 have h:=zAy (fun i=>qH hd tl (lo+i)) 1 (bu (hi+1-lo)) fun i _=>zCd _ _ _
 rw[bE]at h
 omega
noncomputable def zCf (H0 H:Hp)(l:ao)(pats:List (List S)):Prop:=∃as:List ao,H l=some (.lst (as.map V.ref))/\as.length=pats.length/\(∀a∈as,H0 a=none/\a≠l)/\∀(i:Nat) (a:ao) (p:List S),as[i]?=some a->pats[i]?=some p->H a=some (.lst (p.map sv))
theorem zIp (x:S):(tx x).cps.toList.map (fun c=>V.str ⟨#[c]⟩)=(x.map fun c=>[c]).map sv:=by
 rw[qO,bc];rfl
theorem zIq (n:Nat):(aR n [V.str ""]).flatten=(aR n ([]:S)).map sv:=by
 induction n with
 |zero=>rfl
 |succ n ih=>rw[cn,fh,ih,cn,aQ];rfl
section
variable{P:aH}{w:aW}{K:ag}{mg:Str->Option ai}{base:bB}
noncomputable abbrev zEk:cT:=top 56
theorem zQo:FnScope ["one","other"] ["one","other"] (defScope zEk):=z9
noncomputable def zIr:Sp:=fun vs H Q _=>∃(x y:S),vs=[sv x,sv y]/\∀H',zA H H'->Q (.bl (uH x y)) H'
theorem zQp {f:ao}{fd:aZ}(F:Fun K "go_together" "go_together" zEk f fd)(a:∃t,mg "ANY"=some (.str "" t)):FnOk P w K mg base zZ 1 f fd ["one","other"] zIr:=by
 obtain⟨u,a⟩:=a
 refine F.ok zQo (fun vs H Q E h=>?_) (fun j A outer s H vs Q E m h=>?_)
 ·obtain⟨x,v,rfl,_⟩:=h;rfl
 ·obtain⟨x,y,rfl,k⟩:=h
  refine⟨_,zK (z0 (zFV (jU zAc (pv 0) (pv 1) (yU _)) (zAW (jU zDA (yT (v:=.str "") (by rfl) a ⟨_,rfl⟩) (uN (zC (pv 0) (zC (pv 1) zE))) (by with_unfolding_all rfl))))),?_⟩
  refine⟨_,rfl,_,rfl,rfl,_,rfl,?_⟩
  by_cases hl:x=y
  ·subst hl
   have e:uH x x=true:=by unfold uH;simp
   have:=k H (zA.refl H)
   rw[e]at this
   exact zAm rfl this
  ·have b:¬V.str (tx x)=V.str (tx y):=fun z=>hl (jJ (V.str.inj z))
   refine zAJ b ⟨_,rfl,_,rfl,by show 2<=sizeLine;decide,fun p l=>⟨p,zD [x,y],rfl,.inr (.of zF),rfl,zAv _,?_⟩⟩
   have e:(if false=true then !qS (sv []) (zD [x,y])else qS (sv []) (zD [x,y]))=uH x y:=by
    rw[if_neg (by simp),zAu]
    unfold uH
    rw[decide_eq_false hl,lN]
    by_cases c:x=[]
    ·subst c;simp
    ·by_cases d:y=[]
     ·subst d;simp
     ·have g:¬ []=x:=fun z=>c z.symm
      have i:¬ []=y:=fun z=>d z.symm
      simp[c,d,g,i]
   show Q (.bl (if false=true then !qS (sv []) (zD [x,y])else qS (sv []) (zD [x,y]))) _
   rw[e]
   exact k _ (zA.upd1 l)
end
theorem zIs {l:List S}{i:Nat}{x:V}(h:(l.map sv)[i]?=some x):∃y,l[i]?=some y/\x=sv y:=by
 rw[az]at h
 cases e:l[i]? with
 |none=>rw[e]at h;cases h
 |some y=>rw[e]at h;exact⟨y,rfl,(aB h).symm⟩
section
variable{P:aH}{w:aW}{K:ag}{mg:Str->Option ai}{base:bB}
theorem zIt {a b:ao}{xs ys:List S}(hl:xs.length=ys.length)(G:xs.length<900){caps:List Nat}{n:Nat}{σ:St}{g:TG}{I:TT}{L:TE}{F:List V->Hp->Prop}{o:Hp}(ha:o a=some (.lst (xs.map sv)))(R:o b=some (.lst (ys.map sv)))(cv:St)(k:Nat)(r:S×S->V)
  (p:∀(x y:S) (T:ao) (H:Hp) (l:St) (c:List V) (q:List V->St->Hp->Prop),(∀d l,l.length=k->zA H d->q (c++[r (x,y)]) (cv++l) d)->l.length=k->zA o H->H T=none->
   g (.ref T) (cv++l) (upd H T (.tup [sv x,sv y])) fun f v=>I f v fun b s=>if b=true then L f s fun y z=>q (c++[y]) f z else q c f s)
  (fin:∀H,zA o H->F ((xs.zip ys).map r) H) (A:uX caps n σ=cv++aR k none:=by rfl) :
  ∃W:Nat->Nat->List V->St->Hp->Prop,(∃m,W 0 m [] (uX caps n σ) o)/\∀i m c M d,W i m c M d->
   ((Itz K false a b).stop i d/\F c d)\/
   ((Itz K false a b).go i d/\c.length<sizeLine/\∀x B,(Itz K false a b).yld i d x B->g x M B fun f v=>I f v fun b s=>if b=true then L f s fun y z=>∃t,t<m/\W (i+1) t (c++[y]) f z else∃t,t<m/\W (i+1) t c f s):=by
 refine zDQ (J:=Itz K false a b) (xs:=xs.map sv) (ys:=ys.map sv) (len:=xs.length) (Hk:=fun d=>z6 K d a (xs.map sv)/\qL false K d b (ys.map sv))
   (fun i d j hi=>⟨xs.map sv,ys.map sv,(xs.map sv)[i]'(by rw[ah];exact hi),(ys.map sv)[i]'(by rw[ah];omega),j.1,j.2,ay _,ay _⟩)
   (fun i d j e=>⟨xs.map sv,ys.map sv,j.1,j.2,by rw[ah,ah];omega⟩)
   (fun i d x U j ⟨T,X,Y,e1,C,Z,e4,e5⟩=>⟨T,X,Y,e1,C,Z,e4 _ j.1,e5 _ j.2⟩)
   cv k (by omega) (fun i c d=>zA o d/\c=((xs.zip ys).take i).map r)
   ⟨zA.refl _,rfl⟩ (fun i c d hi h=>⟨⟨.of (h.1 _ _ ha),(show qL false K d b (ys.map sv)from .of (h.1 _ _ R))⟩,by rw[h.2,ah,aO];omega⟩) ?_ ?_ A
 ·rintro i x y T c d l q hN hx hy D ⟨u,rfl⟩ hT
  obtain⟨N,e1,rfl⟩:=zIs hx
  obtain⟨O,C,rfl⟩:=zIs hy
  refine p N O T d l _ q (fun B E h2 s2=>hN _ _ E h2 ⟨u.trans s2,?_⟩) D u hT
  have Q:(xs.zip ys)[i]?=some (N,O):=by rw[gz];exact⟨e1,C⟩
  rw[aF (ak.mp Q).1,(ak.mp Q).2,aU];rfl
 ·rintro c d ⟨u,rfl⟩
  have e:(xs.zip ys).take xs.length=xs.zip ys:=dR (by rw[jn];omega)
  rw[e]
  exact fin d u
noncomputable abbrev sPL:cT:=top 57
theorem zIu:FnScope ["head","tail","length","by_head","by_tail"] ["head","tail","length"] (defScope sPL):=z9
theorem zCg:(["one","other"]:List Str).Nodup:=by decide+kernel
noncomputable def zIv:Sp:=fun vs H Q _=>∃(hd tl:S) (n:Nat),vs=[sv hd,sv tl,.int n]/\hd.length<=8/\tl.length<=8/\n<=8/\∀l H',zA H H'->H l=none->zCf H H' l (qH hd tl n)->Q (.ref l) H'
theorem zEl {H b:Hp}{l:ao}(h:b l=some (.lst [])):zCf H b l []:=⟨[],h,rfl,(fun a ha=>by cases ha),fun i a p ha=>by cases ha⟩
theorem zQq {f:ao}{fd:aZ}(F:Fun K "patterns_of_length" "patterns_of_length" sPL f fd)(B:Blt mg)(as:mg "max"=none)(M:mg "list"=none)(hz:mg "zip"=none)(O:∃t,mg "ANY"=some (.str "" t))(cG:zV P w K mg base 1 "go_together" ["one","other"] zIr):FnOk P w K mg base zZ 2 f fd ["head","tail","length"] zIv:=by
 obtain⟨u,O⟩:=O
 refine F.ok zIu (fun vs H Q E h=>?_) (fun a7 A outer s H vs Q E hr h=>?_)
 ·obtain⟨x,y,n,rfl,_⟩:=h;rfl
 ·obtain⟨hd,tl,n,rfl,hh,ht,hn,k⟩:=h
  have nd:=zIu.nd
  refine⟨_,zM (yR (vA zFf (pv 2) (yL (zKt rfl) (by rfl) as nB (zC (yL gE (by rfl) B.len bM (zC (pv 0) zE)) (zC (yL gE (by rfl) B.len bM (zC (pv 1) zE)) zE))) (yU _)) (zK (z0 (v6 zE))) yQ)
   (zM (yA (i:=3) nd rfl (Or.inl rfl) (zT zDC (zAA (zIi rfl) (by rfl) M eG (zC (pv 0) zE)) (zT zGI (v6 (zC (yT (v:=.str "") (by rfl) O ⟨_,rfl⟩) zE)) (zT zCt (pv 2) (yL gE (by rfl) B.len bM (zC (pv 0) zE))))))
   (zM (yA (i:=4) nd rfl (Or.inl rfl) (zT zDC (zT zGI (v6 (zC (yT (v:=.str "") (by rfl) O ⟨_,rfl⟩) zE)) (zT zCt (pv 2) (yL gE (by rfl) B.len bM (zC (pv 1) zE)))) (zAA (zIi rfl) (by rfl) M eG (zC (pv 1) zE))))
   (zM (yR (uC (v4 (yL (zBO rfl) (by rfl) B.all eT (zC (uD (N:=["one","other"]) (caps:=[]) rfl (v9 (by kernel_rfl)) (zGz false rfl hz (zC (pv 3) (zC (pv 4) zE)))
     (fun R C s H ex=>gL K 2 rfl rfl (yY (z7 (i:=0) zCg rfl (Or.inl rfl)) (yY (z7 (i:=1) zCg rfl (Or.inl rfl)) qC)) rfl rfl)
     (fun R C s H ex=>uO)
     (fun R C s H ex=>zW cG hr rfl (zC (pv 0) (zC (pv 1) zE)))) zE)))) (zK (z0 (v6 zE))) yQ)
   (zK (z0 (v6 (zC (uD (N:=["one","other"]) (caps:=[]) rfl (v9 (by kernel_rfl)) (zGz false rfl hz (zC (pv 3) (zC (pv 4) zE)))
     (fun R C s H ex=>gL K 2 rfl rfl (yY (z7 (i:=0) zCg rfl (Or.inl rfl)) (yY (z7 (i:=1) zCg rfl (Or.inl rfl)) qC)) rfl rfl)
     (fun R C s H ex=>uO)
     (fun R C s H ex=>zCp (vA zAc (pv 0) (yT (v:=.str "") (by rfl) O ⟨_,rfl⟩) (yU _)) (pv 1) (pv 0))) zE))))))),?_⟩
  have g:=k
  unfold qH at g
  refine⟨_,rfl,_,rfl,tx hd,rfl,by rw[yJ,aL];omega,_,rfl,tx tl,rfl,by rw[yJ,aL];omega,_,_,rfl,_,_,rfl,rfl,_,rfl,?_⟩
  rw[yJ,yJ]
  have ax:(if((tl.length:Nat):Int)> ((hd.length:Nat):Int)then((tl.length:Nat):Int)else((hd.length:Nat):Int))=((max hd.length tl.length:Nat):Int):=by
   split<;>omega
  rw[ax]
  by_cases hm:n<max hd.length tl.length
  ·rw[if_pos hm]at g
   refine zAm (by omega) ⟨by show 0<=sizeLine;exact bo _,fun l hl=>?_⟩
   exact g l _ (zA.upd1 hl) hl (zEl zF)
  ·rw[if_neg hm]at g
   refine zAJ (by omega) ?_
   refine⟨_,rfl,tx hd,rfl,by rw[<-bh,qO];omega,fun U hl1=>?_⟩
   rw[zIp]
   have s1:zA H (upd H U (.lst ((hd.map fun c=>[c]).map sv))):=zA.upd1 hl1
   have h1:upd H U (.lst ((hd.map fun c=>[c]).map sv)) U=some (.lst ((hd.map fun c=>[c]).map sv)):=zF
   generalize upd H U (.lst ((hd.map fun c=>[c]).map sv))=H1 at s1 h1
   refine⟨by show 1<=sizeLine;decide,fun W hl2=>?_⟩
   have s2:zA H1 (upd H1 W (.lst [V.str ""])):=zA.upd1 hl2
   have h2:upd H1 W (.lst [V.str ""]) W=some (.lst [V.str ""]):=zF
   generalize upd H1 W (.lst [V.str ""])=X at s2 h2
   refine⟨_,rfl,_,rfl,tx hd,rfl,by rw[yJ,aL];omega,_,_,rfl,rfl,W,_,[V.str ""],rfl,rfl,h2,by rw[yJ];omega,by rw[yJ];omega,by rw[yJ,aL];show 1*_<=_;omega,fun Y hl3=>?_⟩
   rw[yJ,show((n:Int)- ((hd.length:Nat):Int)).toNat=n-hd.length by omega,zIq]
   have s3:zA X (upd X Y (.lst ((aR (n-hd.length) ([]:S)).map sv))):=zA.upd1 hl3
   have h3:upd X Y (.lst ((aR (n-hd.length) ([]:S)).map sv)) Y=some (.lst ((aR (n-hd.length) ([]:S)).map sv)):=zF
   generalize upd X Y (.lst ((aR (n-hd.length) ([]:S)).map sv))=Z at s3 h3
   refine⟨U,Y,_,_,rfl,rfl,s3 _ _ (s2 _ _ h1),h3,by rw[ah,ah,ah,dX,aL];omega,fun G hl4=>?_⟩
   rw[<-aU]
   have s4:zA Z (upd Z G (.lst ((vG hd n).map sv))):=zA.upd1 hl4
   have h4:upd Z G (.lst ((vG hd n).map sv)) G=some (.lst ((vG hd n).map sv)):=zF
   show zAX _ _ _ _ (upd Z G (.lst ((vG hd n).map sv)))
   generalize upd Z G (.lst ((vG hd n).map sv))=H4 at s4 h4
   have aK:=(s1.trans s2).trans (s3.trans s4)
   refine⟨by show 1<=sizeLine;decide,fun l5 aN=>?_⟩
   have s5:zA H4 (upd H4 l5 (.lst [V.str ""])):=zA.upd1 aN
   have h5:upd H4 l5 (.lst [V.str ""]) l5=some (.lst [V.str ""]):=zF
   generalize upd H4 l5 (.lst [V.str ""])=H5 at s5 h5
   refine⟨_,rfl,_,rfl,tx tl,rfl,by rw[yJ,aL];omega,_,_,rfl,rfl,l5,_,[V.str ""],rfl,rfl,h5,by rw[yJ];omega,by rw[yJ];omega,by rw[yJ,aL];show 1*_<=_;omega,fun l6 a0=>?_⟩
   rw[yJ,show((n:Int)- ((tl.length:Nat):Int)).toNat=n-tl.length by omega,zIq]
   have s6:zA H5 (upd H5 l6 (.lst ((aR (n-tl.length) ([]:S)).map sv))):=zA.upd1 a0
   have h6:upd H5 l6 (.lst ((aR (n-tl.length) ([]:S)).map sv)) l6=some (.lst ((aR (n-tl.length) ([]:S)).map sv)):=zF
   generalize upd H5 l6 (.lst ((aR (n-tl.length) ([]:S)).map sv))=H6 at s6 h6
   refine⟨_,rfl,tx tl,rfl,by rw[<-bh,qO];omega,fun l7 a1=>?_⟩
   rw[zIp]
   have s7:zA H6 (upd H6 l7 (.lst ((tl.map fun c=>[c]).map sv))):=zA.upd1 a1
   have h7:upd H6 l7 (.lst ((tl.map fun c=>[c]).map sv)) l7=some (.lst ((tl.map fun c=>[c]).map sv)):=zF
   generalize upd H6 l7 (.lst ((tl.map fun c=>[c]).map sv))=H7 at s7 h7
   refine⟨l6,l7,_,_,rfl,rfl,s7 _ _ h6,h7,by rw[ah,ah,ah,dX,aL];omega,fun l8 a2=>?_⟩
   rw[<-aU]
   have s8:zA H7 (upd H7 l8 (.lst ((vC tl n).map sv))):=zA.upd1 a2
   have h8:upd H7 l8 (.lst ((vC tl n).map sv)) l8=some (.lst ((vC tl n).map sv)):=zF
   show zAX _ _ _ _ (upd H7 l8 (.lst ((vC tl n).map sv)))
   generalize upd H7 l8 (.lst ((vC tl n).map sv))=H8 at s8 h8
   have aa:=(s5.trans s6).trans (s7.trans s8)
   have I:=aa _ _ h4
   have a3:=aK.trans aa
   have ab:(vG hd n).length=(vC tl n).length:=by rw[zCa (by omega),zEi (by omega)]
   have j:(vG hd n).length<900:=by rw[zCa (by omega)];omega
   refine⟨_,rfl,_,rfl,G,l8,_,_,rfl,.of I,(show qL false K H8 l8 ((vC tl n).map sv)from .of h8),?_⟩
   refine zIt ab j I h8 [] 2 (fun p=>V.bl (uH p.1 p.2)) (fun x y T H' zs a4 Nx hN J sm hT=>?_) (fun H9 s9 D hD=>?_)
   ·obtain⟨z1,z2,rfl⟩:=zBX J
    refine⟨T,_,rfl,.of zF,rfl,_,_,rfl,_,_,rfl,rfl,?_⟩
    unfold zAF
    dsimp only
    rw[if_pos rfl]
    exact⟨_,rfl,_,rfl,x,y,rfl,fun X a5=>hN _ [some (sv x),some (sv y)] rfl ((zA.upd1 hT).trans a5)⟩
   ·have sD:zA H9 (upd H9 D (.lst (((vG hd n).zip (vC tl n)).map fun p=>V.bl (uH p.1 p.2)))):=zA.upd1 hD
    have ac:upd H9 D (.lst (((vG hd n).zip (vC tl n)).map fun p=>V.bl (uH p.1 p.2))) D=some (.lst ((((vG hd n).zip (vC tl n)).map fun p=>uH p.1 p.2).map V.bl)):=by rw[zF,bc];rfl
    generalize upd H9 D (.lst (((vG hd n).zip (vC tl n)).map fun p=>V.bl (uH p.1 p.2)))=a6 at sD ac
    refine⟨D,_,rfl,.of ac,_,rfl,?_⟩
    have al:(((vG hd n).zip (vC tl n)).map fun p=>uH p.1 p.2).all id=((vG hd n).zip (vC tl n)).all (fun p=>uH p.1 p.2):=by rw[pI];rfl
    rw[al]
    have d:=(a3.trans s9).trans sD
    have m:=sD _ _ (s9 _ _ I)
    have q:=sD _ _ (s9 _ _ h8)
    cases r:((vG hd n).zip (vC tl n)).all (fun p=>uH p.1 p.2)with
    |false=>
     rw[r,if_neg (by simp)]at g
     refine qT ⟨bo _,fun l hl=>?_⟩
     exact g l _ (d.trans (zA.upd1 hl)) (d.free hl) (zEl zF)
    |true=>
     rw[r,if_pos rfl]at g
     refine vB ?_
     refine⟨_,rfl,_,rfl,G,l8,_,_,rfl,.of m,(show qL false K a6 l8 ((vC tl n).map sv)from .of q),?_⟩
     refine zIt ab j m q [] 2 (fun p=>sv (jN p.1 p.2)) (fun x y T H' zs a4 Nx hN J sm hT=>?_) (fun e am D2 an=>?_)
     ·obtain⟨z1,z2,rfl⟩:=zBX J
      refine⟨T,_,rfl,.of zF,rfl,_,_,rfl,_,_,rfl,rfl,?_⟩
      unfold zAF
      dsimp only
      rw[if_pos rfl]
      refine⟨_,rfl,rfl,_,rfl,?_⟩
      have b:=hN _ [some (sv x),some (sv y)] rfl (zA.upd1 (o:=.tup [sv x,sv y]) hT)
      unfold jN at b
      by_cases hx:x=[]
      ·rw[if_pos hx]at b
       exact zAm (by rw[hx];rfl) ⟨_,rfl,b⟩
      ·rw[if_neg hx]at b
       exact zAJ (fun z=>hx (jJ (V.str.inj z))) ⟨_,rfl,b⟩
     ·have sE:zA e (upd e D2 (.lst (((vG hd n).zip (vC tl n)).map fun p=>sv (jN p.1 p.2)))):=zA.upd1 an
      have L:upd e D2 (.lst (((vG hd n).zip (vC tl n)).map fun p=>sv (jN p.1 p.2))) D2=some (.lst ((((vG hd n).zip (vC tl n)).map fun p=>jN p.1 p.2).map sv)):=by rw[zF,bc];rfl
      generalize upd e D2 (.lst (((vG hd n).zip (vC tl n)).map fun p=>sv (jN p.1 p.2)))=a8 at sE L
      refine⟨by show 1<=sizeLine;decide,fun l hl=>?_⟩
      have ap:=d.trans (am.trans sE)
      refine g l _ (ap.trans (zA.upd1 hl)) (ap.free hl) ⟨[D2],zF,rfl,fun a ha=>?_,fun i a p ha hp=>?_⟩
      ·rw[aM.mp ha]
       exact⟨(d.trans am).free an,yF L hl⟩
      ·cases i with
       |zero=>
        cases ha;cases hp
        exact(zA.upd1 hl) _ _ L
       |succ i=>cases ha
noncomputable abbrev zEm:cT:=top 58
theorem zIw:FnScope ["wish","found","length"] ["wish"] (defScope zEm):=z9
noncomputable def zIx:Sp:=fun vs H Q _=>∃(a:ao) (lo hi:Nat) (hd tl:S) (ba:List S) (to:Bool),vs=[.ref a]/\qQ H a lo hi hd tl ba to/\lo<=hi/\hi<=8/\hd.length<=8/\tl.length<=8/\∀l H',zA H H'->H l=none->zCf H H' l (yI lo hi hd tl)->Q (.ref l) H'
theorem zQr {f:ao}{fd:aZ}(F:Fun K "patterns" "patterns" zEm f fd)(B:Blt mg)(W:CstW mg)(cP:zV P w K mg base 2 "patterns_of_length" ["head","tail","length"] zIv):FnOk P w K mg base zZ 3 f fd ["wish"] zIx:=by
 obtain⟨u0,g0⟩:=W.least
 obtain⟨u1,g1⟩:=W.most
 obtain⟨u2,g2⟩:=W.head
 obtain⟨u3,g3⟩:=W.tail
 refine F.ok zIw (fun vs H Q E h=>?_) (fun ab A outer s H vs Q E hr h=>?_)
 ·obtain⟨a,lo,hi,hd,tl,ba,to,rfl,_⟩:=h;rfl
 ·obtain⟨a,lo,hi,hd,tl,ba,to,rfl,⟨b,ha,hb⟩,ac,al,hh,ht,k⟩:=h
  have nd:=zIw.nd
  refine⟨_,zM (yA (i:=1) nd rfl (Or.inl rfl) (v6 zE))
   (zM (uL bR rfl (zKg rfl B.range (zC (yH vX (pv 0) (yT (v:=.int 0) (by rfl) g0 ⟨_,rfl⟩) (fun _ _=>rfl)) (zC (zT yS (yH vX (pv 0) (yT (v:=.int 1) (by rfl) g1 ⟨_,rfl⟩) (fun _ _=>rfl)) zN) zE))) (z7 (i:=2) nd rfl (Or.inl rfl))
    (zK (v5 (kJ dN fA fB zBm (pv 1) (zC (zW cP hr rfl (zC (yH vX (pv 0) (yT (v:=.int 2) (by rfl) g2 ⟨_,rfl⟩) (fun _ _=>rfl)) (zC (yH vX (pv 0) (yT (v:=.int 3) (by rfl) g3 ⟨_,rfl⟩) (fun _ _=>rfl)) (zC (pv 2) zE)))) zE)))))
   (zK (z0 (pv 1)))),?_⟩
  refine⟨bo _,fun l hl=>?_⟩
  have C:zA H (upd H l (.lst [])):=zA.upd1 hl
  have U:upd H l (.lst []) l=some (.lst []):=zF
  generalize upd H l (.lst [])=H1 at C U
  have g:=C _ _ ha
  have I:l≠a:=(yF ha hl).symm
  refine⟨_,rfl,a,_,0,.int lo,rfl,rfl,.of g,rfl,_,rfl,a,_,1,.int hi,rfl,rfl,.of g,rfl,_,_,rfl,rfl,lo,(hi:Int)+1,rfl,⟨by omega,by omega,by omega,by omega⟩,?_⟩
  have m:((hi:Int)+1- (lo:Int)).toNat=hi+1-lo:=by omega
  refine jG (zAl (lo:Int) _) (fun i σ n=>∃J:Option V,σ=[some (.ref a),some (.ref l),J]/\zS l H1 n/\zCf H n l ((bu i).flatMap fun i=>qH hd tl (lo+i)))
   ⟨_,rfl,zS.refl _,zEl U⟩ (fun _ _ _ _ _=>trivial) ?_ ?_
  ·rintro i x σ n Nx hN D ⟨J,rfl,o,as,q,L,X,p4⟩
   rw[m]at D
   have M:i<hi+1-lo:=by
    have:=(ak.mp D).1
    simpa using this
   rw[az,eC M]at D
   have hx2:x=V.int ((lo+i:Nat):Int):=(aB D).symm
   subst hx2
   have r:=o _ _ I.symm g
   refine⟨_,rfl,.inl ⟨rfl,_,.of q⟩,_,rfl,a,_,2,sv hd,rfl,rfl,.of r,rfl,_,rfl,a,_,3,sv tl,rfl,rfl,.of r,rfl,_,rfl,hd,tl,lo+i,rfl,hh,ht,by omega,fun l2 H2 N hl2 zq=>?_⟩
   obtain⟨bs,q1,Y,Z,q4⟩:=zq
   have O:=N _ _ q
   have am:(bu i).length=i:=bE
   have aa:((bu i).flatMap fun i=>qH hd tl (lo+i)).length<=i*1:=by
    have:=zAy (fun i=>qH hd tl (lo+i)) 1 (bu i) fun i _=>zCd _ _ _
    rw[bE]at this;exact this
   have an:=zCd hd tl (lo+i)
   refine⟨l,l2,_,_,rfl,rfl,O,q1,by rw[ah,ah,L,Y,aL];omega,hN _ _ ⟨_,rfl,?_,as++bs,?_,?_,?_,?_⟩⟩
   ·exact fun b u t e=>by rw[zG t];exact N _ _ (o _ _ t e)
   ·rw[zF,aU]
   ·rw[aw,L,Y,dD,eD,aw];simp
   ·intro c d
    rcases bz.mp d with z|z
    ·exact X c z
    ·obtain⟨G,z2⟩:=Z c z
     refine⟨?_,(yF q G).symm⟩
     cases e:H c with
     |none=>rfl
     |some u=>
      have R:c≠l:=(yF q G).symm
      have:=o _ _ R (C _ _ e)
      rw[this]at G;cases G
   ·intro j c p d y
    rw[dD,eD]at y
    by_cases hj:j<as.length
    ·rw[aS hj]at d
     rw[aS (by omega)]at y
     have T:=(X c (bg d)).2
     rw[zG T]
     exact N _ _ (p4 j c p d y)
    ·rw[aP (by omega)]at d
     rw[aP (by omega),<-L]at y
     have T:=yF q (Z c (bg d)).1
     rw[zG T.symm]
     exact q4 _ c p d (by simpa using y)
  ·rintro σ n ⟨J,rfl,o,pa⟩
   rw[ah,bE,m]at pa
   refine⟨_,rfl,k l n (fun b u e=>o _ _ (yF e hl) (C _ _ e)) hl pa⟩
end
theorem zQs {X:Cx}(a:ag)(b:X.K=a):yG X (compareOp .NotIn) (rIn a true):=by
 subst b
 exact zDB
end Kn.Ln
end
section
namespace L2
open PySem PySem.Spec PyProof.Rows
section
variable{X:Cx}{E:XK}{fe e:bF}{es:List bF}{tf:TE}{t:TA}{pos:Pos}
theorem zQt (a:ag)(b:X.K=a):IxR X (zFz a):=by
 subst b;exact vT
end
theorem zQu {i:Int}{n:Nat}(a:0<i)(h:i<2^n):i.natAbs.log2<n:=by
 refine(Nat.log2_lt (by omega)).mpr ?_
 have e:((2^n:Nat):Int)=(2:Int)^n:=by simp
 have:(i.natAbs:Int)<((2^n:Nat):Int):=by rw[e];omega
 omega
theorem zIy {X:Cx}:yG X (binaryOp .FloorDiv) (rI (fun _ j=>0<j/\j<2^8000) fun i j=>.int (i/j)):=opI fun i j _ _ _ _ _ a q=>by
 have b:(0:Int)<j:=a.1
 exact floordiv_int (by omega) (by rw[jz i (by omega)];exact q) (.inl (PyProof.noPylong_of_log2 (bq (zQu b a.2) (by decide))))
section
variable{X:Cx}
theorem zQv {j:Nat}{y:Str}{py spos:Pos}{tg iter elt:bF}{ifs:List bF}{scope:fS}{pos:Pos}{wi:TI}{g:TG}{tc:TT}{te:TE}{N:List Str}{caps:List Nat}(hN:X.N.Nodup)(hj:X.N[j]?=some y)(hy:Loc X.env.scope y)(hc:X.calm=true)(S:CompScope X.env.scope X.N N scope caps)
  (hi:PI X tg iter wi) (hg:∀cl C s H ex,PG (y7 X N scope cl C s H ex) tg g) (hf:∀cl C s H ex,PF (y7 X N scope cl C s H ex) ifs tc) (he:∀cl C s H ex,PE (y7 X N scope cl C s H ex) elt te)
  (hs:∀x,foldedSetIterable iter X.env x=pure x:=by intro _;rfl) (hsw:swapsWith (.ListComp elt [⟨tg,iter,ifs,0⟩] scope pos) (some (.Name y py)) spos.line X.env=pure true:=by rfl)
  (hfn:X.fn y=true\/X.env.scope.names.lookup y=some .local:=by first|exact .inl rfl|exact .inr rfl|assumption):PS X (.Assign [.Name y py] (.ListComp elt [⟨tg,iter,ifs,0⟩] scope pos) spos) (zBG (zGZ wi g tc te caps N.length) (zBi j)):=by
 intro pins s σ H D0 I h
 obtain⟨cl,hcl,hcl1,hcl2⟩:=zGU (env:=X.env) (scope:=scope) fun y hy e=>I.ok.has y.1 (S.free y hy e)
 rw[exec_Assign_Name_used _ _ _ _ hsw]
 refine af (oq (af ?_))
 show wpAny _ X.A (do let _<-comprehension (.ListComp elt [⟨tg,iter,ifs,0⟩] scope pos) scope X.env _ (newList []) false (eval iter X.env) (some (assign (.Name y py) X.env))) _ _ s
 refine af (cK (lO (use:=some (assign (.Name y py) X.env)) (Q:=fun _ s'=>SP X pins D0 .next s') rfl hs hcl S.kind S.names (zH (hi pins s σ H _ I h) fun v s1 h1=>zH h1 fun itv s2 h2=>?_))
  (fun _ s' hq=>ar (ar hq)) fun _ _ e=>e)
 obtain⟨it,fp,tn,J,H2,e,I2,T,st2,f2,W,⟨m0,w0⟩,turn⟩:=h2
 subst e
 refine cg (jd S.nocell (by intro y hy;simp at hy) (fun h₁ hns hsb=>?_) S.kind)
 dsimp only at hns hsb⊢
 generalize hG:s2.heap.push {cls:=.type "list",dict:=none,data:=.seq ([]:List ai).toArray}=G at hns hsb⊢
 have hCs:G.objs.size=s2.heap.objs.size+1:=by rw[<-hG,br]
 have hDC:s2.heap.objs.size≠G.objs.size:=by rw[hCs];exact aV (cQ _)
 have old:∀b o,s2.heap.get? b=some o->h₁.get? b=some o:=fun b o e=>by
  have hb:=aD e
  refine hsb.extBut b o (by rw[hCs];exact aV (bH hb)) (ae _ ?_)
  rw[<-hG]
  exact ae _ e
 have hD:h₁.get? s2.heap.objs.size=some {cls:=.type "list",dict:=none,data:=.seq ([]:List ai).toArray}:=by
  refine hsb.extBut _ _ hDC (ae _ ?_)
  rw[<-hG]
  exact aC _ rfl
 have hfo:∀b∈fp,b<s2.heap.objs.size:=fun b hb=>let⟨o,e,_⟩:=T.obj 0 _ st2 b hb;aD e
 have hCle:s2.heap.objs.size<=G.objs.size:=by omega
 have ok:=zGa (C:=G.objs.size) I2 S hcl1 hcl2 hCle f2 hfo
 have I0:Inv (y7 X N scope cl G.objs.size s2 H2 fp) [(s2.heap.objs.size,{cls:=.type "list",dict:=none,data:=.seq ([]:List ai).toArray})] (uX caps N.length σ) H2 {s2 with heap:=h₁,toks:=s2.toks+([]:List (Str×ai)).length} :=
  zGb I2 ok S hcl1 hcl2 old hns hCle hD (aA _) hDC (fun v z=>by cases z)
 have st1:tn 0 h₁:=T.keep 0 _ _ st2 fun b _ o e=>old b o e
 generalize hX:y7 X N scope cl G.objs.size s2 H2 fp=X' at I0
 generalize hDa:s2.heap.objs.size=D at I0 hD hDC
 have loop:codeAny (model X.prog X.w) X.A (.compLoop (.ListComp elt [⟨tg,iter,ifs,0⟩] scope pos) 0 (.ref it) (.ref D) (compEnvC scope cl G.objs.size X.env)) (compPost (model X.prog X.w) X.A X.xe (some (assign (.Name y py) X.env)) (fun _ s'=>SP X pins D0 .next s') (.ref D) G.objs.size)
   {s2 with heap:=h₁,toks:=s2.toks+([]:List (Str×ai)).length}:=by
  subst hX
  refine zGV (J:=fun n s'=>∃i σ' H' acc its e,Inv (y7 X N scope cl G.objs.size s2 H2 fp) [(D,{cls:=.type "list",data:=.seq (gs its) e})] σ' H' s'/\zJ acc its/\acc.length<=sizeLine/\tn i s'.heap/\(∀b∈fp,H' b=none)/\W i n acc σ' H')
   ?_ m0 ⟨0,_,H2,[],[],0,I0,.nil,bo _,st1,fun b hb=>(f2 b hb).1,w0⟩
  rintro n s3 ⟨i,σ3,H3,acc,its,ep,I3,rv,hz,st3,fr3,w3⟩
  have stat:∀{H':Hp} {pl:List (ao×Obj)},(∀b∈fp,H' b=none)->(∀p∈pl,p.1=D)->∀b∈fp,uT (y7 X N scope cl G.objs.size s2 H2 fp) pl H' b:=fun{H' pl} hn hpl b hb=>by
   obtain⟨a1,a2⟩:=ok.exf b hb
   exact⟨hn b hb,a1,ok.exfs b hb,.inl hb,fun x c e=>a2 x c e,fun p hp=>by
    have hp':p∈pl:=hp
    rw[hpl p hp',<-hDa]
    exact cw (hfo b hb)⟩
  have one:∀p∈[(D,({cls:=.type "list",data:=.seq (gs its) ep}:Obj))],p.1=D:=fun p hp=>by
   rcases aE.mp hp with e|e
   ·rw[e]
   ·cases e
  have pinD:∀{pl:List (ao×Obj)} {σ':St} {H':Hp} {s':aq} {o:Obj},Inv (y7 X N scope cl G.objs.size s2 H2 fp) pl σ' H' s'->(D,o)∈pl->s'.heap.get? D=some o/\H' D=none:=fun{pl σ' H' s' o} I' hm=>by
   obtain⟨a,b,_⟩:=I'.pin (D,o) (aX _ hm)
   exact⟨a,b⟩
  rcases turn i n acc σ3 H3 w3 with⟨stop,q⟩|⟨go,hlt,step⟩
  ·refine cK (T.done (y7 X N scope cl G.objs.size s2 H2 fp) rfl rfl rfl hc i _ s3 σ3 H3 (fun _ _=>False) I3 (stat fr3 one) st3 stop) (fun r s4 zq=>?_) fun _ _ f=>f
   obtain⟨hr,I4⟩:=zq
   subst hr
   obtain⟨hDo,hDn⟩:=pinD I4 (au ..)
   obtain⟨m4,hm4,_⟩:=I4.loc
   have keepC:∀b (u:Obj),b≠G.objs.size->s4.heap.get? b=some u->s4.heap.get? b=some u:=fun b u _ e=>e
   have un:Un (uJ X.stack) fp H2 H3 s2.heap s4.heap:=I4.base
   have hDo':=hDo
   have hlow:∀b (o:Obj),s2.heap.get? b=some o->b≠G.objs.size/\b≠D:=fun b o e=>by
    have h0:=aD e
    exact⟨by rw[hCs];exact aV (bH h0),by rw[<-hDa];exact aV h0⟩
   have un':Un (uJ X.stack) fp H2 (upd H3 D (.lst acc)) s2.heap s4.heap :=
    ⟨fun b o e n' hb hx=>keepC b o (hlow b o e).1 (un.keep b o e n' hb hx),
     fun b o e n' hb hx=>let⟨sl,q⟩:=un.slot b o e n' hb hx;⟨sl,keepC b _ (hlow b o e).1 q⟩,
     fun b o e n' hx=>by rw[zG (hlow b o e).2];exact un.free b o e n' hx,
     fun b o e hx=>let⟨o',q⟩:=un.there b o e hx;⟨o',keepC b _ (hlow b o e).1 q⟩,
     fun b xs e=>by rw[zG (yF (un.tups b xs e) hDn)];exact un.tups b xs e,
     fun b o u e=>by rw[zG (yF (un.frzs b o u e) hDn)];exact un.frzs b o u e,
     fun b ps e=>let⟨mo,q⟩:=un.tbls b ps e;⟨mo,by rw[zG (yF q hDn)];exact q⟩⟩
   have hok:z8 X.prog X.w (upd H3 D (.lst acc)) s4.heap:=I4.hok.track hDn ⟨hz,its,ep,rv,hDo'⟩
   have IX:Inv X pins σ (upd H3 D (.lst acc)) s4:=I2.call' I4.os un' hok I4.bare (fun b hb=>by
    obtain⟨_,f1,_,f3,f4,f5⟩:=f2 b hb
    exact⟨f3,f1,f4,f5⟩)
   have hCn:upd H3 D (.lst acc) G.objs.size=none:=by
    rw[zG (dz hDC)];exact I4.free
   have fpC:uT X pins (upd H3 D (.lst acc)) G.objs.size:=I2.fpOk hCle hCn
   obtain⟨oC,es,epC,hoC,hdC,hsk,hnf⟩:=hm4
   have IXp:=IX.pinned (fp:=[G.objs.size]) (fun b hb=>by
    have:b=G.objs.size:=by simpa using hb
    rw[this];exact fpC) (fun b hb=>by
    have:b=G.objs.size:=by simpa using hb
    rw[this];exact⟨oC,hoC,fun v z=>by rw[hdC]at z;cases z⟩)
   refine oV (zCm IXp hN hj hy (v:=.ref D) rfl (fun s5 I5=>?_) hfn)
   have pC:=(I5.pin (G.objs.size,oC) (aX _ (aX _ (gX (au ..) hoC)))).1
   refine⟨m4,⟨oC,es,epC,pC,hdC,hsk,hnf⟩,fun h' hsb'=>?_⟩
   obtain⟨c0,c1,c2,c3,c4,c5⟩:=fpC
   exact⟨_,_,I5.unpinned.turned (t':=s5.toks) (fun b o hb e=>hsb'.extBut b o hb e) c0 c1 c3 c4 c5,q D hDn⟩
  ·refine cK (T.item (y7 X N scope cl G.objs.size s2 H2 fp) rfl rfl rfl hc i _ s3 σ3 H3 (fun _ _=>False) I3 (stat fr3 one) st3 go) (fun r s4 zq=>?_) fun _ _ f=>f
   obtain⟨u,hr,h4⟩:=zq
   subst hr
   refine zH h4 fun _ s5 zq=>?_
   obtain⟨x,H5,I5,r5,y5,st5,fr5⟩:=zq
   have I5':=I5.pinned (stat fr5 one) (T.obj _ _ st5)
   refine zH (hg cl G.objs.size s2 H2 fp _ s5 σ3 H5 x u _ I5' r5 (step x H5 y5)) fun _ s6 ⟨σ6,H6,I6,q6⟩=>?_
   refine zH (hf cl G.objs.size s2 H2 fp _ s6 σ6 H6 _ I6 q6) fun b s7 zq=>?_
   obtain⟨H7,I7,q7⟩:=zq
   have fin:∀{pl:List (ao×Obj)} {σ':St} {H':Hp} {s':aq},Inv (y7 X N scope cl G.objs.size s2 H2 fp) (pl++zAa fp s5.heap) σ' H' s'->tn (i+1) s'.heap/\∀b∈fp,H' b=none:=fun{pl σ' H' s'} I'=>by
    refine⟨T.keep _ _ _ st5 fun b hb o e=>(I'.pin (b,o) (aX _ (aX _ (gX hb e)))).1,fun b hb=>?_⟩
    obtain⟨o,e,_⟩:=T.obj _ _ st5 b hb
    exact(I'.pin (b,o) (aX _ (aX _ (gX hb e)))).2.1
   cases b with
   |false=>
    rw[if_neg aT]at q7⊢
    obtain⟨m',hm,w7⟩:=q7
    obtain⟨a1,a2⟩:=fin I7
    exact⟨m',hm,i+1,σ6,H7,acc,its,ep,I7.unpinned,rv,hz,a1,a2,w7⟩
   |true=>
    rw[if_pos rfl]at q7⊢
    refine zH (he cl G.objs.size s2 H2 fp _ s7 σ6 H7 _ I7 q7) fun y s8 zq=>?_
    obtain⟨yv,H8,I8,r8,m',hm,w8⟩:=zq
    obtain⟨a1,a2⟩:=fin I8
    obtain⟨b1,b2⟩:=pinD I8 (b0 _ (au ..))
    have hl:=rv.length
    refine iX km ⟨_,b1,rfl⟩ js (jc _ _) (lF D its.toArray ep y (by rw[aG];omega)) ⟨b1,?_⟩
    have q9:=lY b1 (·.push y)
    have kp:∀b o,b≠D->s8.heap.get? b=some o->(s8.heap.update D (bG (·.push y))).get? b=some o:=fun b o hb e=>(bt s8.heap (bG (·.push y)) (dz hb)).trans e
    have I9:Inv (y7 X N scope cl G.objs.size s2 H2 fp) [] σ6 H8 {s8 with heap:=s8.heap.update D (bG (·.push y))} :=
     (I8.pins_of (pins':=[]) fun p hp=>by cases hp).turned (t':=s8.toks) kp b2 hDC (.inr (by rw[<-hDa];exact aA _)) (fun x c e z=>by
      have e':X.env.cells.lookup x=some c:=hcl1 x c e
      obtain⟨v',hv'⟩:=I2.cell x c e'
      have h0:=hv'.lt
      rw[z,<-hDa]at h0
      exact bI _ h0) fun p hp=>by
       have:p∈([]:List (ao×Obj)):=hp
       cases this
    have hpu:its.toArray.push y=(its++[y]).toArray:=by simp
    rw[hpu]at q9
    obtain⟨e9,q9⟩:∃e9,(s8.heap.update D (bG (·.push y))).get? D=some {cls:=.type "list",data:=.seq (its++[y]).toArray e9}:=⟨_,q9⟩
    refine⟨m',hm,i+1,σ6,H8,acc++[yv],its++[y],e9,I9.pins_of fun p hp=>?_,rv.append (.cons r8 .nil),?_,T.keep _ _ _ a1 fun b hb o e=>kp b o ?_ e,a2,w8⟩
    ·obtain rfl:p=(D,{cls:=.type "list",data:=.seq (its++[y]).toArray e9}):=by
      rcases aE.mp hp with e|e
      ·exact e
      ·cases e
     obtain⟨_,_,c3,c4,_⟩:=I8.pin (D,_) (aX _ (b0 _ (au ..)))
     exact⟨q9,b2,c3,c4,fun v z=>by cases z⟩
    ·rw[aw,bW];omega
    ·rintro rfl
     have h0:=hfo b hb
     rw[hDa]at h0
     exact bI _ h0
 exact mO loop (T.self X.A 0 _ _ _ st1 loop)
end
end L2
end
section
namespace Kn.Ln
open PySem L2 Kn
theorem zQw (n:Nat):(0:Int)<2^n:=gj (by decide)
theorem zQx {a b:Nat}(h:a<=b):(2:Int)^a<=2^b:=by
 have c:2^a<=2^b:=nP (by decide) h
 have d:((2^a:Nat):Int)=(2:Int)^a:=by simp
 have e:((2^b:Nat):Int)=(2:Int)^b:=by simp
 rw[<-d,<-e];exact t9.mpr c
theorem zQy {U:Int}{n:Nat}(a:0<U)(h:U<=2^n):U^9<=2^(n*9):=by
 have go:∀k:Nat,U^k<=2^(n*k):=by
  intro k
  induction k with
  |zero=>simp
  |succ k ih=>
   rw[pH,pK,uz]
   exact rR ih h (cY a) (cY (zQw _))
 exact go 9
section
variable{P:aH}{w:aW}{K:ag}{mg:Str->Option ai}{base:bB}
noncomputable def zEn:Sp:=fun vs H Q _=>∃u d:Int,vs=[.int u,.int d]/\0<=u/\0<d/\Q (.int (yC u d)) H
noncomputable def zEo:Sp:=fun vs H Q _=>∃u d:Int,vs=[.int u,.int d]/\0<=u/\0<d/\d<2^8000/\∀p,H p=none->Q (.ref p) (upd H p (frO (low u d)))
theorem zQz {vs:List V}{H:Hp}{Q:VK}{E:XK}(h:zDl vs H Q E):zEn vs H Q E:=by
 obtain⟨u,d,rfl,a,b,c,k⟩:=h
 exact⟨u,d,rfl,a,b,k⟩
theorem zRA {vs:List V}{H:Hp}{Q:VK}{E:XK}(h:zDn vs H Q E):zEo vs H Q E:=by
 obtain⟨u,d,rfl,c,e,f,k⟩:=h
 refine⟨u,d,rfl,c,e,?_,k⟩
 have g:=zQx (a:=30) (b:=8000) (by decide)
 have i:(2:Int)^30=1073741824:=by decide
 omega
theorem zRB {f:ao}{fd:aZ}(F:Fun K "greatest_divisor" "greatest_divisor" zDm f fd):FnOk P w K mg base zZ 1 f fd ["one","other"] zEn:=by
 refine F.ok zHQ (fun vs H Q E h=>?_) (fun t A outer s H vs Q E C h=>?_)
 ·obtain⟨a,b,rfl,_⟩:=h;rfl
 ·obtain⟨u,d,rfl,l,n,k⟩:=h
  have nd:=zHQ.nd
  refine⟨_,zM (zKY bR (vA gZ (pv 1) zN (yU _))
    (zM (yA (i:=2) nd rfl (Or.inl rfl) (zT gY (pv 0) (pv 1))) (zM (yA (i:=0) nd rfl (Or.inl rfl) (pv 1)) (zK (yA (i:=1) nd rfl (Or.inl rfl) (pv 2))))))
   (zK (z0 (pv 0))),?_⟩
  refine⟨fun m σ j=>j=H/\∃(a b:Int) (r:Option V),σ=[some (.int a),some (.int b),r]/\m=b.toNat/\0<=a/\0<=b/\i9 a b=i9 u d,⟨_,rfl,u,d,none,rfl,rfl,l,cY n,rfl⟩,?_⟩
  rintro m σ j ⟨rfl,a,b,r,rfl,rfl,ha,v,p⟩
  refine⟨_,rfl,rfl,_,rfl,?_⟩
  by_cases hz:b=0
  ·subst hz
   refine jX rfl ⟨_,rfl,?_⟩
   have e:a=yC u d:=by
    unfold yC
    rw[<-p]
    obtain⟨x,rfl⟩:=bO ha
    simp
   show Q (.int a) j
   rw[e]
   exact k
  ·have c:0<b:=by omega
   have o:¬(V.int b=V.int 0):=fun z=>hz (V.int.inj z)
   have y:(!decide (V.int b=V.int 0))=true:=by rw[decide_eq_false o];rfl
   show if(!decide (V.int b=V.int 0))=true then _ else _
   rw[if_pos y]
   refine⟨fun q g=>g=j/\q=[some (.int b),some (.int (a%b)),some (.int (a%b))],?_,?_⟩
   ·rintro q g ⟨rfl,rfl⟩
    have B:=nc a hz
    have D:=lg a c
    exact⟨(a%b).toNat,by omega,rfl,b,a%b,_,rfl,rfl,v,B,by rw[zOC ha c];exact p⟩
   ·exact⟨_,rfl,_,rfl,_,_,rfl,rfl,c,_,rfl,_,rfl,rfl,rfl⟩
theorem zRC {f:ao}{fd:aZ}(F:Fun K "lowest" "lowest" zDo f fd)(g:zV P w K mg base 1 "greatest_divisor" ["one","other"] zEn):FnOk P w K mg base zZ 2 f fd ["up","down"] zEo:=by
 refine F.ok zHR (fun vs H Q E h=>?_) (fun j A outer s H vs Q E l h=>?_)
 ·obtain⟨a,b,rfl,_⟩:=h;rfl
 ·obtain⟨u,d,rfl,e,c,m,k⟩:=h
  have nd:=zHR.nd
  refine⟨_,zM (yA (i:=2) nd rfl (Or.inl rfl) (zW g l rfl (zC (pv 0) (zC (pv 1) zE))))
   (zK (z0 (uN (zC (zT zIy (pv 0) (pv 2)) (zC (zT zIy (pv 1) (pv 2)) zE))))),?_⟩
  have g1:=zBR (u:=u) c
  have g2:yC u d<=d:=tj c (fk ..)
  refine⟨_,rfl,_,rfl,u,d,rfl,e,c,?_⟩
  exact⟨_,rfl,_,rfl,_,_,rfl,rfl,⟨g1,by omega⟩,_,rfl,_,rfl,_,_,rfl,rfl,⟨g1,by omega⟩,by show 2<=sizeLine;decide,k⟩
noncomputable def zIz:Sp:=fun vs H Q _=>∃o a b:Nat,vs=[.int o,.int a,.int b]/\a<=o/\o<=b/\Q .non H
noncomputable abbrev zEp:cT:=top 21
theorem zRD:FnScope ["thing","least","most"] ["thing","least","most"] (defScope zEp):=z9
theorem zRE {f:ao}{fd:aZ}(F:Fun K "need_whole" "need_whole" zEp f fd)(c:zV P w K mg base 1 "is_whole" ["thing","least","most"] zCB):FnOk P w K mg base zZ 2 f fd ["thing","least","most"] zIz:=by
 refine F.ok zRD (fun vs H Q E h=>?_) (fun d A outer s H vs Q E e h=>?_)
 ·obtain⟨o,a,b,rfl,_⟩:=h;rfl
 ·obtain⟨o,a,b,rfl,g,i,k⟩:=h
  refine⟨_,zK (yR (uC (v4 (zW c e rfl (zC (pv 0) (zC (pv 1) (zC (pv 2) zE)))))) (zK zAY) yQ),?_⟩
  exact⟨_,rfl,_,rfl,_,rfl,o,a,b,rfl,g,i,true,rfl,vB k⟩
end
structure Unit9 (ps:List (S×S)) (U:Int):Prop where
 pos:0<U
 dvd:∀e l,(zP ps e l).2∣U
 le:U<=2^60
theorem zRF {ps:List (S×S)}(a:1<=ps.length)(b:ps.length<900):Smf (zP ps):=fun e l=>by
 have f:=zAq ps e l
 have d:=zNb (ps:=ps) e l a
 refine⟨f.up,?_,f.dn,by omega⟩
 have c:(zP ps e l).1<=(zP ps e l).2:=by
  unfold zP
  split
  ·decide
  ·have g:=zAp ps e l
   exact zNa (by omega) (by omega) (by omega)
 omega
theorem zRG {a b:Nat}(h:a<b):(2:Int)^a<2^b:=by
 have c:2^a<2^b:=Nat.pow_lt_pow_right (by decide) h
 have d:((2^a:Nat):Int)=(2:Int)^a:=by simp
 have e:((2^b:Nat):Int)=(2:Int)^b:=by simp
 rw[<-d,<-e];exact Int.ofNat_lt.mpr c
noncomputable def qX (ps:List (S×S))(o:Nat)(pat:List S):List S:=(Tx (zU ps) o pat).filter fun t=>decide ((zY t o,[])∈ps)
noncomputable def zBB (ps:List (S×S))(o:Nat)(x:S):Prop:=∀q∈vQ o x,q∈ps
theorem zBC {ps:List (S×S)}(d:zAO ps){o:Nat}{pat:List S}{x:S}:x∈qX ps o pat↔yD pat x=true/\zBB ps o x:=by
 unfold qX zBB
 rw[aI,zCS (lts ps) d,zCL]
 constructor
 ·rintro⟨⟨b,a⟩,e⟩
  refine⟨b,fun q c=>?_⟩
  rcases bz.mp c with z|z
  ·exact a q z
  ·rw[aM.mp z];exact of_decide_eq_true e
 ·rintro⟨b,a⟩
  exact⟨⟨b,fun q c=>a q (b0 _ c)⟩,decide_eq_true (a _ (aX _ (by simp)))⟩
theorem zRH {ps:List (S×S)}(a:zAO ps)(o:Nat)(pat:List S):(qX ps o pat).Nodup:=(zIQ (lts ps) a o pat).filter _
noncomputable def j4 (ps:List (S×S))(o lo hi:Nat)(hd tl:S):List S:=(yI lo hi hd tl).flatMap (qX ps o)
theorem zEq {ps:List (S×S)}(d:zAO ps){o lo hi:Nat}{hd tl x:S}:x∈j4 ps o lo hi hd tl↔zCb lo hi hd tl x/\zBB ps o x:=by
 unfold j4
 rw[bf,<-zQm]
 constructor
 ·rintro⟨p,a,e⟩
  obtain⟨b,c⟩:=(zBC d).mp e
  exact⟨⟨p,a,b⟩,c⟩
 ·rintro⟨⟨p,a,b⟩,c⟩
  exact⟨p,a,(zBC d).mpr ⟨b,c⟩⟩
theorem zRI {ps:List (S×S)}(a:zAO ps)(o lo hi:Nat)(hd tl:S):(j4 ps o lo hi hd tl).Nodup:=by
 unfold j4
 rw[dq,dZ]
 refine⟨fun p _=>zRH a o p,(zCe lo hi hd tl).imp fun{p q} b x c y d e=>?_⟩
 have f:=qV ((zBC a).mp c).1
 have g:=qV ((zBC a).mp d).1
 rw[e]at f
 exact b (by omega)
end Kn.Ln
end
section
namespace Kn
open PySem L2
theorem zEr:∀l:List S,qW l=true↔l.Pairwise (· < ·)
 | []=>by simp[qW]
 | [x]=>by simp[qW]
 |x::y::l=>by
  have ih:=zEr (y::l)
  have e:qW (x::y::l)=(decide (x<y)&&qW (y::l)):=by simp[qW]
  rw[e,bA,decide_eq_true_eq,ih]
  constructor
  ·rintro⟨a,b⟩
   refine cj.mpr ⟨fun z hz=>?_,b⟩
   rcases aE.mp hz with rfl|hz
   ·exact a
   ·exact oz a ((cj.mp b).1 z hz)
  ·intro h
   exact⟨(cj.mp h).1 y (au ..),(cj.mp h).2⟩
noncomputable def jO:List S:=[[97],[97,97],[97,98],[98],[98,97],[122]]
noncomputable def j5:List S:=[[],[],[97],[98],[97,98],[97,98,97],[122]]
theorem zRJ:[V.str "a",V.str "aa",V.str "ab",V.str "b",V.str "ba",V.str "z"]=zD jO:=by
 have e1:("a" : Str)=tx [97]:=by decide+kernel
 have c:("aa" : Str)=tx [97,97]:=by decide+kernel
 have d:("ab" : Str)=tx [97,98]:=by decide+kernel
 have e:("b" : Str)=tx [98]:=by decide+kernel
 have f:("ba" : Str)=tx [98,97]:=by decide+kernel
 have g:("z" : Str)=tx [122]:=by decide+kernel
 rw[e1,c,d,e,f,g];rfl
theorem zRK:[V.str "",V.str "",V.str "a",V.str "b",V.str "ab",V.str "aba",V.str "z"]=zD j5:=by
 have c:("" : Str)=tx []:=by decide+kernel
 have e1:("a" : Str)=tx [97]:=by decide+kernel
 have d:("ab" : Str)=tx [97,98]:=by decide+kernel
 have e:("b" : Str)=tx [98]:=by decide+kernel
 have f:("aba" : Str)=tx [97,98,97]:=by decide+kernel
 have g:("z" : Str)=tx [122]:=by decide+kernel
 rw[c,e1,d,e,f,g];rfl
theorem zJA:jO.Pairwise (· < ·)/\∀x∈jO,v1 x:=by
 refine⟨(zEr _).mp (by decide),fun x a=>?_⟩
 unfold jO at a
 simp only[aE,dj,or_false]at a
 rcases a with rfl|rfl|rfl|rfl|rfl|rfl<;>(refine⟨by decide,by decide,?_⟩;decide)
theorem zRL:∀x∈j5,x=[]\/(v1 x/\x.length<=3):=fun x a=>by
 unfold j5 at a
 simp only[aE,dj,or_false]at a
 rcases a with rfl|rfl|rfl|rfl|rfl|rfl|rfl
 ·exact .inl rfl
 ·exact .inl rfl
 all_goals (refine .inr ⟨⟨by decide,by decide,?_⟩,by decide⟩;decide)
theorem zRM {l:List S}(h:l.Sublist jO):l.length<=6/\(∀x∈l,v1 x)/\qW l=true :=
 ⟨h.length_le,fun x a=>zJA.2 x (h.subset a),(zEr _).mpr (zJA.1.sublist h)⟩
section
variable{P:aH}{w:aW}{K:ag}{mg:Str->Option ai}{base:bB}
noncomputable def zJB (K:ag):Sp:=fun vs H Q _=>∃(a:ao) (ns:List Int) (at':Nat),vs=[.ref a,.int at']/\z6 K H a (ns.map V.int)/\ns.length<=63/\
 ∀(p:ao) (lo hi:Int) (hd tl:S) (ba:List S) (to:Bool) (H':Hp),zA H H'->GW lo hi hd tl ba->(lo<=3/\hi<=4/\hd∈j5/\tl∈j5/\ba.Sublist jO)->qQ H' p lo hi hd tl ba to->Q (.ref p) H'
noncomputable abbrev sLW:cT:=top 71
theorem zJC:FnScope ["_law_script","_law_at","_law_least","_law_most","_law_ends","_law_barred","_law_k","_law_name_here","_law_head"] ["_law_script","_law_at"] (defScope sLW):=z9
theorem zRN {f:ao}{fd:aZ}(F:Fun K "_law_wish" "_law_wish" sLW f fd)(B:Blt mg)(ap:mg "enumerate"=none)(N:zV P w K mg base 2 "_law_drawn" ["_law_script","_law_k","_law_many"] (zCH K)):FnOk P w K mg base zZ 3 f fd ["_law_script","_law_at"] (zJB K):=by
 refine F.ok zJC (fun vs H Q E h=>?_) (fun a9 A outer s H vs Q E O h=>?_)
 ·obtain⟨a,ns,c,rfl,_⟩:=h;rfl
 ·obtain⟨a,ns,c,rfl,l,m,k⟩:=h
  have nd:=zJC.nd
  refine⟨_,zM (yA (i:=2) nd rfl (Or.inl rfl) (zT yS zN (zW N O rfl (zC (pv 0) (zC (pv 1) (zC zN zE))))))
   (zM (yA (i:=3) nd rfl (Or.inl rfl) (zT yS (pv 2) (zW N O rfl (zC (pv 0) (zC (zT yS (pv 1) zN) (zC (zT zCt zN (pv 2)) zE))))))
   (zM (yA (i:=4) nd rfl (Or.inl rfl) (v6 (zC vL (zC vL (zC vL (zC vL (zC vL (zC vL (zC vL zE)))))))))
   (zM (yA (i:=5) nd rfl (Or.inl rfl) (v6 zE))
   (zM (uL bR rfl (zMg rfl ap (zC (v6 (zC vL (zC vL (zC vL (zC vL (zC vL (zC vL zE))))))) zE)) (gU rfl (yY (z7 (i:=6) nd rfl (Or.inl rfl)) (yY (z7 (i:=7) nd rfl (Or.inl rfl)) qC)))
    (zK (yR (vA zAc (zW N O rfl (zC (pv 0) (zC (zT yS (zT yS (pv 1) zN) (pv 6)) (zC zN zE)))) zN (yU _))
     (zK (v5 (kJ dN lU lV zGH (pv 5) (zC (pv 7) zE)))) yQ)))
   (zM (yA (i:=8) nd rfl (Or.inl rfl) (yH vT (pv 4) (zW N O rfl (zC (pv 0) (zC (zT yS (pv 1) zN) (zC zN zE)))) (fun _ _=>rfl)))
   (zK (z0 (uN (zC (pv 2) (zC (pv 3) (zC (pv 8) (zC (yH vT (pv 4) (zW N O rfl (zC (pv 0) (zC (zT yS (pv 1) zN) (zC zN zE)))) (fun _ _=>rfl))
    (zC (zAA zLi (by rfl) B.tuple fI (zC (pv 5) zE)) (zC (jU zAc (zW N O rfl (zC (pv 0) (zC (zT yS (pv 1) zN) (zC zN zE)))) zN (yU _)) zE)))))))))))))),?_⟩
  refine⟨_,rfl,_,rfl,a,ns,c,3,rfl,l,m,by decide,by decide,fun t H1 bb s1=>?_⟩
  refine⟨_,_,rfl,rfl,_,rfl,_,rfl,_,rfl,_,_,rfl,rfl,_,rfl,_,_,rfl,rfl,a,ns,c+1,4-t,?_,s1.seq l,m,by omega,by omega,fun d1 H2 bd as=>?_⟩
  ·have e1:((c+1:Nat):Int)=(c:Int)+1:=by omega
   have e2:((4-t:Nat):Int)=5- (1+(t:Int)):=by omega
   rw[e1,e2];rfl
  have s2:=s1.trans as
  refine⟨_,_,rfl,rfl,?_⟩
  refine⟨by show 7<=sizeLine;decide,fun R ax=>?_⟩
  have u:(upd H2 R (.lst [V.str "",V.str "",V.str "a",V.str "b",V.str "ab",V.str "aba",V.str "z"])) R=some (.lst (zD j5)):=by rw[zF,zRK]
  have s3:=s2.trans (zA.upd1 (o:=.lst [V.str "",V.str "",V.str "a",V.str "b",V.str "ab",V.str "aba",V.str "z"]) ax)
  generalize upd H2 R (.lst [V.str "",V.str "",V.str "a",V.str "b",V.str "ab",V.str "aba",V.str "z"])=HA at s3 u⊢
  refine⟨by show 0<=sizeLine;decide,fun g hg=>?_⟩
  refine⟨by show 6<=sizeLine;decide,fun en j=>⟨en,_,rfl,zF,?_⟩⟩
  have neg:en≠g:=fun z=>by subst z;rw[zF]at j;cases j
  refine zMh (K:=K) (xs:=[V.str "a",V.str "aa",V.str "ab",V.str "b",V.str "ba",V.str "z"]) (fun i σ v=>∃(y z:Option V) (r:List S),σ=[some (.ref a),some (.int (c:Int)),some (.int (1+(t:Int))),some (.int (1+(t:Int)+(d1:Int))),some (.ref R),some (.ref g),y,z,none]/\zA HA v/\v g=some (.lst (zD r))/\
    v en=some (.lst [V.str "a",V.str "aa",V.str "ab",V.str "b",V.str "ba",V.str "z"])/\r.Sublist (jO.take i))
   ⟨_,_,[],rfl,(zA.upd1 hg).trans (zA.upd1 j),(zA.upd1 j) _ _ zF,zF,List.nil_sublist _⟩ (fun i σ v _ h=>by obtain⟨_,_,_,_,_,_,h,_⟩:=h;exact .of h) ?_ ?_
  ·rintro i x T σ v Nx hN U ⟨y,z,r,rfl,sm,G,C,e⟩ hT
   have t1:zA v (upd v T (.tup [.int i,x])):=zA.upd1 hT
   refine⟨T,_,rfl,.of zF,rfl,_,_,rfl,_,_,rfl,rfl,?_⟩
   have W:=sm.trans t1
   have aK:=t1 _ _ G
   have aN:=t1 _ _ C
   rw[zRJ]at U
   obtain⟨nm,X,rfl⟩:=zAS U
   have hi:i<jO.length:=(ak.mp X).1
   have be:i<6:=hi
   have Y:jO.take (i+1)=jO.take i++[nm]:=by rw[aF hi,(ak.mp X).2]
   refine⟨_,rfl,_,rfl,_,_,rfl,rfl,_,rfl,_,_,rfl,rfl,a,ns,c+4+i,3,?_,(s3.trans W).seq l,m,by decide,by decide,fun d H3 hd I=>?_⟩
   ·have e1:((c+4+i:Nat):Int)=(c:Int)+4+(i:Int):=by omega
    rw[e1];rfl
   have Z:=W.trans I
   have J:=I _ _ aK
   have ac:=I _ _ aN
   refine⟨rfl,_,rfl,?_⟩
   by_cases hz:(d:Int)=0
   ·have e0:decide (V.int (d:Int)=V.int 0)=true:=decide_eq_true (by rw[hz])
    rw[e0]
    refine qT ?_
    have bi:r.length<=6:=bS e.length_le (by rw[aO];omega)
    refine⟨_,rfl,.inl ⟨rfl,_,.of J⟩,_,rfl,g,_,_,rfl,rfl,J,by unfold zD;rw[ah,aL];omega,hN _ _ ⟨_,_,r++[nm],rfl,Z.upd_new hg,by rw[zF];unfold zD;rw[aU];rfl,by rw[zG neg];exact ac,?_⟩⟩
    rw[Y]
    exact e.append (wg _)
   ·have e0:decide (V.int (d:Int)=V.int 0)=false:=decide_eq_false (fun q=>hz (by injection q))
    rw[e0]
    refine vB (hN _ _ ⟨_,_,r,rfl,Z,J,ac,?_⟩)
    rw[Y]
    exact e.trans (List.sublist_append_left _ _)
  ·rintro σ v ⟨y,z,r,rfl,sm,G,C,e⟩
   have n:r.Sublist jO:=e
   obtain⟨b1,b2,b3⟩:=zRM n
   have sH:=s3.trans sm
   refine⟨_,rfl,_,rfl,_,rfl,_,_,rfl,rfl,a,ns,c+2,7,?_,sH.seq l,m,by decide,by decide,fun d2 H4 a0 I=>?_⟩
   ·have e1:((c+2:Nat):Int)=(c:Int)+2:=by omega
    rw[e1];rfl
   have al:=sH.trans I
   have D:=I _ _ (sm _ _ u)
   have a1:=I _ _ G
   have am:∀{d:Nat},d<7->∃x,j5[d]?=some x/\(zD j5)[d]?=some (sv x)/\(x=[]\/(v1 x/\x.length<=3)):=fun{d} hd=>by
    have L:d<j5.length:=hd
    refine⟨j5[d],ay L,?_,zRL _ (c6 L)⟩
    unfold zD
    rw[az,ay L];rfl
   obtain⟨U,hx1,hx2,hx3⟩:=am a0
   refine⟨R,_,(d2:Int),sv U,rfl,rfl,.of D,zAB hx2,?_⟩
   refine⟨_,rfl,_,rfl,_,rfl,_,rfl,_,rfl,_,rfl,_,_,rfl,rfl,a,ns,c+3,7,?_,al.seq l,m,by decide,by decide,fun d3 H5 a2 s5=>?_⟩
   ·have e1:((c+3:Nat):Int)=(c:Int)+3:=by omega
    rw[e1];rfl
   obtain⟨M,a3,a4,a5⟩:=am a2
   have a6:=al.trans s5
   have a7:=s5 _ _ a1
   refine⟨R,_,(d3:Int),sv M,rfl,rfl,.of (s5 _ _ D),zAB a4,?_⟩
   refine⟨_,rfl,g,_,rfl,.inl ⟨.of a7,fun pt a8=>?_⟩⟩
   have t6:=zA.upd1 (o:=.tup (zD r)) a8
   have an:=a6.trans t6
   refine⟨_,rfl,_,rfl,_,_,rfl,rfl,a,ns,c+10,2,?_,an.seq l,m,by decide,by decide,fun d4 H7 bm s7=>?_⟩
   ·have e1:((c+10:Nat):Int)=(c:Int)+10:=by omega
    rw[e1];rfl
   refine⟨rfl,by show 6<=sizeLine;decide,fun p hp=>?_⟩
   have t8:=zA.upd1 (o:=.tup [.int (1+(t:Int)),.int (1+(t:Int)+(d1:Int)),sv U,sv M,.ref pt,.bl (decide (V.int (d4:Int)=V.int 0))]) hp
   refine k p (1+(t:Int)) (1+(t:Int)+(d1:Int)) U M r (decide (V.int (d4:Int)=V.int 0)) _ ((an.trans s7).trans t8) ⟨by omega,by omega,by omega,hx3,a5,b1,b2,b3⟩ ⟨by omega,by omega,bg hx1,bg a3,n⟩ ⟨pt,zF,t8 _ _ (s7 _ _ zF)⟩
end
noncomputable def zEs (f:bF->Option dE):List bF->Option (List dE)
 | []=>some []
 |e::es=>(f e).bind fun d=>(zEs f es).map fun ds=>d::ds
noncomputable def lit:Nat->bF->Option dE
 |0,_=>none
 |n+1,e=>match e with
  | .Constant (.int i) _ _=>some (.int i)
  | .Constant (.bool b) _ _=>some (.bool b)
  | .Constant .none _ _=>some .none
  | .Constant (.str x) _ _=>some (.str x)
  | .Tuple es _ _=>if es.length<=900 then(zEs (lit n) es).map .tuple else none
  | .List es _=>if es.length<=900 then(zEs (lit n) es).map .list else none
  |_=>none
noncomputable def zJD:bF->Bool
 | .Starred ..=>false
 |_=>true
theorem zRO {e:bF}{a:List bF}(h:zJD e=true)(env):starEach (e::a) env=(false,eval e env)::starEach a env:=by
 cases e<;>first|rfl|(cases h)
section
variable{X:Cx}{e:bF}{es:List bF}{te:TE}{t:TA}{pos:Pos}
theorem yK (ha:PE X e te)(a:PA X es t)(b:zJD e=true:=by rfl):PA X (e::es) (zAf te t):=zC ha a (zRO b _)
end
noncomputable def vW (n:Nat)(d:dE):Prop:=sml d=true/\d.canLay0=true/\d.depth<=n
theorem vW.sh {n:Nat}{d:dE}(h:vW n d)(hn:n<=64):iJ d=true:=by
 unfold iJ
 rw[h.2.1,decide_eq_true (show d.depth<=64 by have:=h.2.2;omega)];rfl
theorem vW.mono {n m:Nat}{d:dE}(h:vW n d)(a:n<=m):vW m d:=⟨h.1,h.2.1,bS h.2.2 a⟩
theorem zJE {a:List dE}{n:Nat}(h:∀d∈a,vW n d):smls a=true/\dv a=true/\jm a<=n:=by
 induction a with
 |nil=>exact⟨rfl,rfl,bo _⟩
 |cons d a ih=>
  obtain⟨b,c,i⟩:=h d (au ..)
  obtain⟨f,g,j⟩:=ih fun e he=>h e (aj _ he)
  refine⟨by simp only[smls,b,f,lP],by simp only[dv,c,g,lP],?_⟩
  simp only[jm];omega
theorem vO {e:List dE}{n:Nat}(h:∀d∈e,vW n d)(hl:e.length<=900):vW (n+1) (.tuple e):=by
 obtain⟨a,b,c⟩:=zJE h
 refine⟨by simp only[sml,a,tF];exact decide_eq_true hl,by simp only[eK];exact b,?_⟩
 simp only[gx];omega
theorem okL {e:List dE}{n:Nat}(h:∀d∈e,vW n d)(hl:e.length<=900):vW (n+1) (.list e):=by
 obtain⟨a,b,c⟩:=zJE h
 refine⟨by simp only[sml,a,tF];exact decide_eq_true hl,by simp only[eK];exact b,?_⟩
 simp only[gx];omega
theorem zJF {x:S}(h:∀c∈x,c<=122)(hl:x.length<=900):vW 5 (.str (tx x)):=by
 refine⟨?_,by simp only[eK];exact zON h,by simp only[gx];decide⟩
 simp only[sml,yJ,qO,bA,decide_eq_true_eq,iY]
 exact⟨hl,fun c a=>by have:=h c a;omega⟩
theorem zRP (xs:List V)(n:Nat):vN xs none (some (n:Int))=xs.take n:=by
 unfold vN
 rw[HT.sIx_nat]
 show(xs.drop 0).take (min n xs.length-0)=_
 rw[eM,gu,<-f9]
theorem zRQ (xs:List V)(n:Nat):vN xs (some (n:Int)) none=xs.drop n:=by
 unfold vN
 rw[HT.sIx_nat]
 show(xs.drop (min n xs.length)).take (xs.length-min n xs.length)=_
 by_cases h:n<=xs.length
 ·rw[rj h,dR (by rw[cc];omega)]
 ·rw[Nat.min_eq_right (by omega),dS (aA _),dS (by omega)]
  simp
end Kn
end
section
namespace Kn.Ln
open PySem L2 Kn
noncomputable def qY (o:Nat)(bk:List S)(lo hi:Nat)(hd tl:S)(ba:List S)(to:Bool):List S:=(j4 (zB o bk) o lo hi hd tl).filter fun x=>!zBb bk ba to x
theorem zJG {o:Nat}{bk:List S}{lo hi:Nat}{hd tl:S}{a:List S}{to:Bool}{x:S}:x∈qY o bk lo hi hd tl a to↔zCb lo hi hd tl x/\zBB (zB o bk) o x/\zBb bk a to x=false:=by
 unfold qY
 rw[aI,zEq (j3 o bk)]
 simp[and_assoc]
theorem zRR (o:Nat)(bk:List S)(lo hi:Nat)(hd tl:S)(a:List S)(to:Bool):(qY o bk lo hi hd tl a to).Nodup:=(zRI (j3 o bk) ..).filter _
section
variable{P:aH}{w:aW}{K:ag}{mg:Str->Option ai}{base:bB}
noncomputable def zEt:Sp:=fun vs H Q _=>∃(c a:ao) (bk:List S) (lo hi:Int) (hd tl:S) (ba:List S) (to:Bool),vs=[.ref c,.ref a]/\H c=some (.tup (zD bk))/\bk.length<=8/\qQ H a lo hi hd tl ba to/\ba.length<=6/\
 ∀(l:ao) (out:List S) (H':Hp),zA H H'->H l=none->H' l=some (.lst (zD out))->(∀x,decide (x∈out)=zBb bk ba to x)->out.length<=ba.length+bk.length->(ba.Nodup->out.Nodup)->Q (.ref l) H'
theorem zRS {f:ao}{fd:aZ}(F:Fun K "left_out" "left_out" zEh f fd)(B:Blt mg)(W:CstW mg)(o:mg "list"=none)(q:mg "set"=none):FnOk P w K mg base zZ 1 f fd ["book","wish"] zEt:=by
 obtain⟨O,u⟩:=W.barred
 obtain⟨R,G⟩:=W.told
 refine F.ok zQg (fun vs H Q E h=>?_) (fun I A outer s H vs Q E T h=>?_)
 ·obtain⟨c,a,bk,lo,hi,hd,tl,g,to,rfl,_⟩:=h;rfl
 ·obtain⟨c,a,bk,lo,hi,hd,tl,g,to,rfl,J,U,⟨b,ha,C⟩,X,k⟩:=h
  refine⟨_,zM (yR (v4 (yH vX (pv 1) (yT (v:=.int 5) (by rfl) G ⟨_,rfl⟩) (fun _ _=>rfl)))
    (zK (z0 (zAA zGC (by rfl) o eG (zC (yH vX (pv 1) (yT (v:=.int 4) (by rfl) u ⟨_,rfl⟩) (fun _ _=>rfl)) zE)))) yQ)
   (zK (z0 (zQO rfl (zT zBA (yH vX (pv 1) (yT (v:=.int 4) (by rfl) u ⟨_,rfl⟩) (fun _ _=>rfl)) (pv 0)) (by rfl) B.sorted tG (by rfl) q (by decide+kernel)))),?_⟩
  refine⟨_,rfl,a,_,5,.bl to,rfl,rfl,.of ha,rfl,_,rfl,?_⟩
  cases to with
  |true=>
   refine qT ?_
   refine⟨_,rfl,a,_,4,.ref b,rfl,rfl,.of ha,rfl,b,_,rfl,.inr (.of C),fun l hl=>?_⟩
   refine k l g _ (zA.upd1 hl) hl zF (fun x=>?_) (by omega) id
   unfold zBb;simp
  |false=>
   refine vB ?_
   refine⟨_,rfl,a,_,4,.ref b,rfl,rfl,.of ha,rfl,_,rfl,?_⟩
   have bl:∀l:List S,(zD l).length=l.length:=fun l=>by unfold zD;rw[ah]
   refine⟨b,c,_,_,rfl,rfl,C,J,by rw[bl,bl,aL];omega,fun p Y r D=>?_⟩
   have ep:zD g++zD bk=((g++bk).map tx).map V.str:=by rw[<-zQh];unfold zD;rw[aU]
   rw[ep]at D
   refine⟨p,(g++bk).map tx,rfl,.of D,by rw[ah,aw];omega,fun out l d i hl=>?_⟩
   have L:out.map V.str=zD (out.map fun x=>x.cps.toList):=by
    unfold zD
    rw[bc]
    refine ie fun x _=>?_
    show V.str x=V.str (tx x.cps.toList)
    rw[zOG]
   rw[L]
   have j:(out.map fun x=>x.cps.toList).Nodup:=by
    rw[dq,bD]
    exact i.imp fun{a b} z e=>by rw[e]at z;exact iL _ z
   have m:∀x∈(out.map fun x=>x.cps.toList),x∈g++bk:=fun x M=>by
    obtain⟨y,t,rfl⟩:=av.mp M
    obtain⟨z,hz,e⟩:=av.mp ((d y).mp t)
    have:z=y.cps.toList:=by rw[<-e,qO]
    rw[<-this];exact hz
   have n:=uZ _ _ j m
   rw[aw]at n
   refine k l _ _ (r.upd_new (r.free hl)) (r.free hl) zF (fun x=>?_) n (fun _=>j)
   have e1:x∈(out.map fun x=>x.cps.toList)↔x∈g\/x∈bk:=by
    rw[av]
    constructor
    ·rintro⟨y,t,rfl⟩
     obtain⟨z,hz,e⟩:=av.mp ((d y).mp t)
     have:z=y.cps.toList:=by rw[<-e,qO]
     rw[<-this]
     exact bz.mp hz
    ·intro h
     refine⟨tx x,(d _).mpr (av.mpr ⟨x,bz.mpr h,rfl⟩),qO x⟩
   unfold zBb
   have N:decide (x∈(out.map fun x=>x.cps.toList))=(decide (x∈g)||decide (x∈bk)):=by
    rw[fT,jj,decide_eq_true_eq,decide_eq_true_eq,decide_eq_true_eq]
    exact e1
   rw[N]
   rfl
end
theorem zRT {X:Cx}(a:ag)(b:X.K=a):IxR X (zGA a):=by
 subst b
 exact vX
noncomputable def jP (ps:List (S×S)) (o n:Nat) (U:Int) (p:List S):zI:=y8 n (vV ps (zP ps) (qF ps (zP ps) o n (U^9) p))
noncomputable def qI (ps:List (S×S)) (o n:Nat) (U:Int) (out:List S) (pats:List (List S)):zI:=pats.flatMap fun p=>(jP ps o n U p).filter fun q=>decide (q.2∉out)
noncomputable def qR (ps:List (S×S))(o:Nat)(U:Int)(N:List S):zI:=N.map fun x=>(Wn ps o (U^9) x,x)
theorem y9 {ps:List (S×S)}{o:Nat}{U:Int}{N:List S}{q:Int×S}:q∈qR ps o U N↔q.2∈N/\q.1=Wn ps o (U^9) q.2:=by
 unfold qR
 rw[av]
 constructor
 ·rintro⟨x,a,rfl⟩;exact⟨a,rfl⟩
 ·rintro⟨b,c⟩;exact⟨q.2,b,eI c.symm rfl⟩
section
variable{o n:Nat}{bk:List S}{U:Int}
theorem zBD (a:0<U)(b:∀e l,(zP (zB o bk) e l).2∣U)(hn:1<=n){p:List S}(c:p.length<=8):TopN n (qR (zB o bk) o U (qX (zB o bk) o p)) (jP (zB o bk) o n U p):=by
 have hf:=zCW a b hn p p.length (aA _) (by omega)
 rw[bw]at hf
 exact hf.fin a b c
theorem zJH (a:0<U)(c:∀e l,(zP (zB o bk) e l).2∣U)(hn:1<=n){p:List S}(d:p.length<=8):(jP (zB o bk) o n U p).length<=min n (qX (zB o bk) o p).length:=by
 have T:=zBD (o:=o) (bk:=bk) a c hn d
 have f:=T.len
 have b:=uZ _ _ (kW T.srt) T.sub
 unfold qR at b
 rw[ah]at b
 omega
theorem zEu (a:0<U)(b:∀e l,(zP (zB o bk) e l).2∣U)(hn:1<=n)(out:List S):∀(pats:List (List S)),(∀p∈pats,p.length<=8)->(qI (zB o bk) o n U out pats).length<=(pats.map fun p=>min n (qX (zB o bk) o p).length).sum
 | [],_=>by simp[qI]
 |p::pats,h=>by
  have ih:=zEu a b hn out pats fun q c=>h q (aj _ c)
  unfold qI at ih⊢
  rw[ft,aw,aQ,cp]
  have d:=zJH (o:=o) (bk:=bk) a b hn (h p (au ..))
  have f:=cI (fun q:Int×S=>decide (q.2∉out)) (jP (zB o bk) o n U p)
  omega
theorem zJI (c:0<U)(d:∀e l,(zP (zB o bk) e l).2∣U)(hn:1<=n)(out:List S){pats:List (List S)}(f:∀p∈pats,p.length<=8)(g:pats.Pairwise fun p q=>p.length≠q.length):(qI (zB o bk) o n U out pats).Nodup:=by
 unfold qI
 rw[dq,dZ]
 refine⟨fun p h=>(kW (zBD c d hn (f p h)).srt).filter _,cb ?_ g⟩
 intro p q h j i x m y r e
 have a:=(y9.mp ((zBD c d hn (f p h)).sub x (aI.mp m).1)).1
 have b:=(y9.mp ((zBD c d hn (f q j)).sub y (aI.mp r).1)).1
 have s:=qV ((zBC (j3 o bk)).mp a).1
 have t:=qV ((zBC (j3 o bk)).mp b).1
 rw[e]at s
 exact i (by omega)
theorem zJJ {α:Type}(f:α->Bool):∀l:List α,l.length=(l.filter f).length+(l.filter fun a=>!f a).length
 | []=>rfl
 |a::l=>by
  have ih:=zJJ f l
  cases h:f a with
  |true=>rw[dJ h,dM (by simp[h]),aJ,aJ];omega
  |false=>rw[dM (by simp[h]),dJ (by simp[h]),aJ,aJ];omega
theorem zRU {m lo hi:Nat}{hd tl:S}{out:List S}(c:0<U)(f:∀e l,(zP (zB o bk) e l).2∣U)(C:1<=m)(D:hi<=8) :
  TopN m (qR (zB o bk) o U ((j4 (zB o bk) o lo hi hd tl).filter fun x=>decide (x∉out))) (y8 m (qI (zB o bk) o (m+out.length) U out (yI lo hi hd tl))):=by
 have hn:1<=m+out.length:=by omega
 have l8:∀p∈yI lo hi hd tl,p.length<=8:=fun p b=>by have:=(zCc b).2;omega
 refine top_of (zJI c f hn out l8 (zCe ..)) (fun q d=>?_) fun a ha=>?_
 ·obtain⟨p,b,d⟩:=bf.mp d
  obtain⟨hq1,hq2⟩:=aI.mp d
  obtain⟨g,h⟩:=y9.mp ((zBD c f hn (l8 p b)).sub q hq1)
  exact y9.mpr ⟨aI.mpr ⟨bf.mpr ⟨p,b,g⟩,hq2⟩,h⟩
 ·obtain⟨g,h⟩:=y9.mp ha
  obtain⟨s,t⟩:=aI.mp g
  obtain⟨p,b,u⟩:=bf.mp s
  have T:=zBD (o:=o) (bk:=bk) c f hn (l8 p b)
  rcases T.cmp a (y9.mpr ⟨u,h⟩)with z|⟨E,v⟩
  ·exact .inl (bf.mpr ⟨p,b,aI.mpr ⟨z,t⟩⟩)
  ·right
   refine⟨(jP (zB o bk) o (m+out.length) U p).filter fun q=>decide (q.2∉out),(kW T.srt).filter _,?_,fun l hl=>⟨bf.mpr ⟨p,b,hl⟩,v l (aI.mp hl).1⟩⟩
   have F:=zJJ (fun q:Int×S=>decide (q.2∉out)) (jP (zB o bk) o (m+out.length) U p)
   have w:((jP (zB o bk) o (m+out.length) U p).filter fun a=>!decide (a.2∉out)).length<=out.length:=by
    have r:=uZ (((jP (zB o bk) o (m+out.length) U p).filter fun a=>!decide (a.2∉out)).map (·.2)) out (by
     rw[dq,bD]
     refine cb ?_ ((kW T.srt).filter _)
     intro x y i A j e
     obtain⟨_,e1⟩:=y9.mp (T.sub x (aI.mp i).1)
     obtain⟨_,B⟩:=y9.mp (T.sub y (aI.mp A).1)
     exact j (eI (by rw[e1,B,e]) e)) fun x i=>by
      obtain⟨q,d,rfl⟩:=av.mp i
      have:=(aI.mp d).2
      simpa using this
    rw[ah]at r
    exact r
   omega
end
noncomputable def zAT (K:ag)(H:Hp)(D:ao)(ps:List (S×S))(o:Nat)(ns:List S):Prop:=∃ts:List V,H D=some (.lst ts)/\ts.length=ns.length/\∀(i:Nat) (x:S),ns[i]?=some x->∃a v,ts[i]?=some (.ref a)/\zX K H a [v,sv x]/\yZ K H v (qE ps o x)
theorem jQ {T:ao}{H:Hp}(h:y0 T H){a:ao}{u:HO}(e:H a=some u)(b:∀ps,u≠.tbl ps):a≠T:=fun z=>by
 obtain⟨ps,c⟩:=kR h
 rw[z,c]at e
 exact b ps (aB e).symm
theorem zS.freeT {T:ao}{H d:Hp}(e:zS T H d)(tb:y0 T d){b:ao}(c:d b=none):H b=none:=by
 cases z:H b with
 |none=>rfl
 |some u=>
  by_cases a:b=T
  ·obtain⟨g,f⟩:=kR tb
   rw[a,f]at c;cases c
  ·rw[e _ _ a z]at c;cases c
section
variable{P:aH}{w:aW}{K:ag}{mg:Str->Option ai}{base:bB}
noncomputable abbrev sHF:cT:=top 61
theorem zJK:FnScope ["rows","order","wish","many","barred","parts","whole","found","pattern","pairs"] ["rows","order","wish","many","barred"] (defScope sHF):=z9
theorem zRV:(["barred","pair"]:List Str).Nodup:=by decide+kernel
theorem zJL:(["whole","weight","name"]:List Str).Nodup:=by decide+kernel
noncomputable def zEv (K:ag)(T:ao):Sp:=fun vs H Q _=>∃(d a l:ao) (o m:Nat) (bk:List S) (lo hi:Nat) (hd tl:S) (ba:List S) (to:Bool) (out:List S),vs=[.ref d,.int o,.ref a,.int m,.ref l]/\Bk bk o/\(zB o bk).length<=60/\gK H d (zB o bk)/\qQ H a lo hi hd tl ba to/\lo<=hi/\hi<=8/\hd.length<=8/\tl.length<=8/\H l=some (.lst (zD out))/\1<=m/\m+out.length<=900/\y0 T H/\
 (∀U,Unit9 (zB o bk) U->∀p∈yI lo hi hd tl,HvOk (zB o bk) (zP (zB o bk)) o (m+out.length) (U^9) p)/\((yI lo hi hd tl).map fun p=>min (m+out.length) (qX (zB o bk) o p).length).sum<64/\
 ∀D H' U B,zS T H H'->y0 T H'->H D=none->Unit9 (zB o bk) U->TopN m (qR (zB o bk) o U ((j4 (zB o bk) o lo hi hd tl).filter fun x=>decide (x∉out))) B->zAT K H' D (zB o bk) o (B.map (·.2))->Q (.ref D) H'
theorem zRW {f T:ao}{fd:aZ}(F:Fun K "heaviest_fitting" "heaviest_fitting" sHF f fd)(B:Blt mg)(cPa:zV P w K mg base 4 "parts_by_rows" ["rows"] (zHt K))(cW:zV P w K mg base 3 "whole_weight" ["rows"] zHw)(cP:zV P w K mg base 3 "patterns" ["wish"] zIx)(cA:zV P w K mg base 3 "heaviest_along" ["parts","order","weight","pattern","many"] (zIM K T))(cH:zV P w K mg base 1 "heaviest" ["pairs","many"] (zCN K T))(cL:zV P w K mg base 2 "lowest" ["up","down"] zEo) :
  FnOk P w K mg base zZ 5 f fd ["rows","order","wish","many","barred"] (zEv K T):=by
 refine F.ok zJK (fun vs H Q E h=>?_) (fun cdv A outer s H vs Q E hr h=>?_)
 ·obtain⟨d,a,l,o,m,bk,lo,hi,hd,tl,ba,to,out,rfl,_⟩:=h;rfl
 ·obtain⟨d,a,l,o,m,bk,lo,hi,hd,tl,ba,to,out,rfl,hb,h60,R,hw,hle,h8,hh,ht,hl,hm,hn,tab,hv,h64,k⟩:=h
  have nd:=zJK.nd
  have r3:=hr.mono (j:=3) (by decide)
  have r2:=hr.mono (j:=2) (by decide)
  have r1:=hr.mono (j:=1) (by decide)
  refine⟨_,zM (yA (i:=5) nd rfl (Or.inl rfl) (zW cPa hr rfl (zC (pv 0) zE)))
   (zM (yA (i:=6) nd rfl (Or.inr rfl) (zW cW r3 rfl (zC (pv 0) zE)))
   (zM (yA (i:=7) nd rfl (Or.inl rfl) (v6 zE))
   (zM (uL bR rfl (jB (zW cP r3 rfl (zC (pv 2) zE))) (z7 (i:=8) nd rfl (Or.inl rfl))
    (zM (yA (i:=9) nd rfl (Or.inl rfl) (zW cA r3 rfl (zC (pv 5) (zC (pv 1) (zC (pv 6) (zC (pv 8) (zC (zT yS (pv 3) (yL jD (by rfl) B.len bM (zC (pv 4) zE))) zE)))))))
    (zK (v5 (kJ dN fA fB zBm (pv 7) (zC
     (uD (N:=["barred","pair"]) (caps:=[4]) rfl (v9 (by kernel_rfl)) (jB (pv 9)) (fun cl X s H ex=>z7 (i:=1) zRV rfl (Or.inl rfl))
      (fun cl X s H ex=>zGY (vA (zQs K rfl) (yH (zRT K rfl) (pv 1) zN (fun _ _=>rfl)) (pv 0) (by with_unfolding_all rfl))) (fun cl X s H ex=>pv 1)) zE))))))
   (zK (z0 (uD (N:=["whole","weight","name"]) (caps:=[6]) rfl (v9 (by kernel_rfl)) (jB (zW cH r1 rfl (zC (pv 7) (zC (pv 3) zE))))
     (fun cl X s H ex=>gL K 2 rfl rfl (yY (z7 (i:=1) zJL rfl (Or.inl rfl)) (yY (z7 (i:=2) zJL rfl (Or.inl rfl)) qC)) rfl rfl) (fun cl X s H ex=>uO)
     (fun cl X s H ex=>uN (zC (zW cL r2 rfl (zC (pv 1) (zC (pv 0) zE))) (zC (pv 2) zE))))))))),?_⟩
  refine⟨_,rfl,d,zB o bk,rfl,R,by omega,fun pd H1 s1 hpd hP=>?_⟩
  refine⟨_,rfl,d,zB o bk,rfl,R.same s1,h60,fun U H2 s2 hU0 hUd hUl=>?_⟩
  have hU:Unit9 (zB o bk) U:=⟨hU0,hUd,hUl⟩
  have hP2:=hP.same s2
  have hsm:Smf (zP (zB o bk)):=zRF (zOF hb).1 (by omega)
  have s12:=s1.trans s2
  refine⟨bo _,fun fo hfo=>?_⟩
  have s3:zA H2 (upd H2 fo (.lst [])):=zA.upd1 hfo
  have hf3:upd H2 fo (.lst []) fo=some (.lst []):=zF
  generalize upd H2 fo (.lst [])=H3 at s3 hf3
  have s13:=s12.trans s3
  refine⟨_,rfl,a,lo,hi,hd,tl,ba,to,rfl,hw.same s13,hle,h8,hh,ht,fun pl H4 s4 hpl zq=>?_⟩
  obtain⟨as,p1,p2,p3,p4⟩:=zq
  have hP4:=(hP2.same s3).same s4
  have s14:=s13.trans s4
  have hf4:=s4 _ _ hf3
  have hl4:=s14 _ _ hl
  have tab4:=vU tab s14
  have h8':∀p∈yI lo hi hd tl,p.length<=8:=fun p hp=>by have:=(zCc hp).2;omega
  have hn1:1<=m+out.length:=by omega
  have plT:=jQ tab4 p1 fun _=>nofun
  have plf:pl≠fo:=fun z=>by rw[z,hf3]at hpl;cases hpl
  have flT:=jQ tab4 hf4 fun _=>nofun
  have lT:=jQ tab4 hl4 fun _=>nofun
  have lf:l≠fo:=fun z=>by rw[z]at hl;rw[s12 _ _ hl]at hfo;cases hfo
  refine⟨pl,rfl,⟨_,.of p1⟩,?_⟩
  refine jG (jF K pl (as.map V.ref)) (fun i σ H'=>(∃x8 x9:Option V,σ=[some (.ref d),some (.int o),some (.ref a),some (.int m),some (.ref l),some (.ref pd),some (.int (U^9)),some (.ref fo),x8,x9])/\y0 T H'/\(∀b u,b≠T->b≠fo->H4 b=some u->H' b=some u)/\v2 K H' fo (qI (zB o bk) o (m+out.length) U out ((yI lo hi hd tl).take i)))
   ⟨⟨_,_,rfl⟩,tab4,fun b u _ _ e=>e,[],hf4,rfl,fun i p hi=>by cases hi⟩ (fun i σ H' _ h=>.of (h.2.2.1 _ _ plT plf p1)) ?_ ?_
  ·rintro i x σ H' Nx hN hx ⟨⟨x8,x9,rfl⟩,tb,sx,hpf⟩
   rw[az]at hx
   cases ei:as[i]? with
   |none=>rw[ei]at hx;cases hx
   |some pa=>
   rw[ei]at hx
   have hx2:x=V.ref pa:=(aB hx).symm
   subst hx2
   have hi':i<(yI lo hi hd tl).length:=by rw[<-p2];exact(ak.mp ei).1
   have ep:(yI lo hi hd tl)[i]?=some (yI lo hi hd tl)[i]:=ay hi'
   have hpm:=c6 hi'
   have etk:(yI lo hi hd tl).take (i+1)=(yI lo hi hd tl).take i++[(yI lo hi hd tl)[i]]:=aF hi'
   have hpa4:=p4 i pa _ ei ep
   generalize(yI lo hi hd tl)[i]=pat at*
   have paf:pa≠fo:=fun z=>by
    have:=(p3 pa (bg ei)).1
    rw[z,hf3]at this;cases this
   have paT:=jQ tab4 hpa4 fun _=>nofun
   have hpa:=sx _ _ paT paf hpa4
   have hl':=sx _ _ lT lf hl4
   have hfoT:∀ys,¬Rd H4 fo (.tup ys):=by
    rintro ys (z|⟨o',z⟩)
    ·rw[hf4]at z;cases z
    ·rw[hf4]at z;cases z
   have hP':kP K H' pd (zB o bk) (zP (zB o bk)):=by
    obtain⟨pa0,g1,g2,g3⟩:=hP4
    have ndk:∀{c:ao} {kvs:List (zL×V)},H4 c=some (.dK kvs)->H' c=some (.dK kvs):=fun{c kvs} e=>sx _ _ (jQ tab4 e fun _=>nofun) (fun z=>by rw[z,hf4]at e;cases e) e
    have nfr:∀{v:V} {q:Int×Int},yZ K H4 v q->yZ K H' v q:=fun{v q} ⟨c,e1,e2⟩=>by
     refine⟨c,e1,?_⟩
     rcases e2 with e2|e2
     ·left
      have hcf:c≠fo:=fun z=>hfoT _ (by rw[<-z];exact e2)
      have hcT:c≠T:=fun z=>zBY tab4 _ (by rw[<-z];exact e2)
      rcases e2 with e2|⟨o',e2⟩
      ·exact .inl (sx _ _ hcT hcf e2)
      ·exact .inr ⟨o',sx _ _ hcT hcf e2⟩
     ·exact .inr e2
    exact⟨pa0,g1,ndk g2,fun r hr=>⟨(g3 r hr).1,ndk (g3 r hr).2.1,(g3 r hr).2.2.1,fun q hq=>nfr ((g3 r hr).2.2.2 q hq)⟩⟩
   refine⟨_,rfl,_,rfl,_,rfl,_,rfl,_,rfl,_,rfl,l,_,rfl,.inl (.of hl'),_,_,rfl,rfl,?_⟩
   have eln:((zD out).length:Int)=(out.length:Int):=by unfold zD;rw[ah]
   refine⟨pd,pa,o,m+out.length,bk,zP (zB o bk),U^9,pat,by rw[eln];rfl,hb,hP',hsm,hpa,by have:=h8' pat hpm;omega,by omega,tb,hv U hU pat hpm,fun D H5 sx5 tb5 hD hpD=>?_⟩
   have eB:y8 (m+out.length) (vV (zB o bk) (zP (zB o bk)) (qF (zB o bk) (zP (zB o bk)) o (m+out.length) (U^9) pat))=jP (zB o bk) o (m+out.length) U pat:=rfl
   rw[eB]at hpD
   have hl5:=sx5 _ _ lT hl'
   have hpf5:=hpf.sameX sx5 (zBY tb) flT
   have hBl:=zJH (o:=o) (bk:=bk) (n:=m+out.length) hU0 hUd hn1 (h8' pat hpm)
   have eF:qI (zB o bk) o (m+out.length) U out ((yI lo hi hd tl).take (i+1))=qI (zB o bk) o (m+out.length) U out ((yI lo hi hd tl).take i)++(jP (zB o bk) o (m+out.length) U pat).filter fun q=>decide (q.2∉out):=by
    rw[etk];unfold qI;rw[eD];simp
   have hfl:=zEu (o:=o) (bk:=bk) (n:=m+out.length) hU0 hUd hn1 out ((yI lo hi hd tl).take i) fun p hp=>h8' p (bN hp)
   have hfl2:(qI (zB o bk) o (m+out.length) U out ((yI lo hi hd tl).take i)).length<=9000:=by
    have go:∀L:List (List S),(L.map fun p=>min (m+out.length) (qX (zB o bk) o p).length).sum<=L.length*(m+out.length):=by
     intro L
     induction L with
     |nil=>simp
     |cons p L ih=>rw[aQ,cp,aJ,mJ];omega
    have h1:=go ((yI lo hi hd tl).take i)
    have h2:=zQn lo hi hd tl
    have h3:((yI lo hi hd tl).take i).length<=9:=by rw[aO];omega
    have h4:((yI lo hi hd tl).take i).length*(m+out.length)<=9*900:=Nat.mul_le_mul h3 hn
    omega
   generalize jP (zB o bk) o (m+out.length) U pat=BP at hpD hBl eF
   obtain⟨td,d1,d2,d3⟩:=hpD
   obtain⟨tf,f1,f2,f3⟩:=hpf5
   have hfoD:fo≠D:=fun z=>by
    obtain⟨ts,e,_⟩:=hpf
    rw[z]at e
    rw[e]at hD;cases hD
   refine⟨_,rfl,.inl ⟨rfl,_,.of f1⟩,_,rfl,D,rfl,⟨_,.of d1⟩,?_⟩
   refine zGt (jF K D td) [some (.ref l)] 1 (by rw[d2];omega) (fun j acc H6=>H6=H5/\acc.length<=j/\acc.length=((BP.take j).filter fun q=>decide (q.2∉out)).length/\∀(i':Nat) (p:Int×S),((BP.take j).filter fun q=>decide (q.2∉out))[i']?=some p->∃c,acc[i']?=some (.ref c)/\zX K H5 c [.int p.1,sv p.2])
    ⟨rfl,aA _,rfl,fun i' p h=>by cases h⟩ (fun j acc H6 _ h=>⟨.of (by rw[h.1];exact d1),h.2.1⟩) ?_ ?_
   ·rintro j y acc H6 ys Nx2 hN2 hy hys ⟨rfl,haj,hal,hac⟩
    obtain⟨y',rfl⟩:=zBW hys
    have hj:j<BP.length:=by rw[<-d2];exact(ak.mp hy).1
    obtain⟨c,c1,c2⟩:=d3 j BP[j] (ay hj)
    rw[hy]at c1
    cases c1
    have etj:BP.take (j+1)=BP.take j++[BP[j]]:=aF hj
    generalize BP[j]=q at c2 etj
    refine⟨_,rfl,c,_,1,sv q.2,rfl,rfl,c2,rfl,_,rfl,l,zD out,rfl,.inl (.of hl5),rfl,zAv _,_,rfl,?_⟩
    rw[zAu]
    by_cases hq:q.2∈out
    ·rw[decide_eq_true hq]
     refine vB (hN2 _ _ [_] rfl ⟨rfl,by omega,?_,?_⟩)
     ·rw[etj,eO,dM (by simpa using hq)];simpa using hal
     ·rw[etj,eO,dM (by simpa using hq)]
      simpa using hac
    ·rw[decide_eq_false hq]
     refine qT ⟨_,rfl,hN2 _ _ [_] rfl ⟨rfl,by rw[aw,bW];omega,?_,?_⟩⟩
     ·rw[etj,eO,dJ (by simpa using hq),aw,aw,hal];rfl
     ·rw[etj,eO,dJ (by simpa using hq)]
      intro i' p hp
      by_cases hi2:i'<((BP.take j).filter fun q=>decide (q.2∉out)).length
      ·rw[aS hi2]at hp
       obtain⟨c',e1,e2⟩:=hac i' p hp
       exact⟨c',by rw[aS (by omega)];exact e1,e2⟩
      ·rw[aP (by omega)]at hp
       have h0:i'- ((BP.take j).filter fun q=>decide (q.2∉out)).length=0:=by
        have h9:i'- ((BP.take j).filter fun q=>decide (q.2∉out)).length<1:=(ak.mp hp).1
        omega
       rw[h0]at hp
       have:p=q:=(aB hp).symm
       subst this
       exact⟨c,by rw[aP (by omega),hal,h0];rfl,c2⟩
   ·rintro acc H6 ⟨rfl,_,hal,hac⟩ D2 hD2
    rw[d2,bw]at hal hac
    have sD:zA H6 (upd H6 D2 (.lst acc)):=zA.upd1 hD2
    have f1':=sD _ _ f1
    have hac0:=cI (fun q:Int×S=>decide (q.2∉out)) BP
    refine⟨fo,D2,tf,acc,rfl,rfl,f1',zF,by rw[f2,hal,aL];omega,hN _ _ ⟨⟨_,_,rfl⟩,?_,fun b u hbT hbf e=>?_,?_⟩⟩
    ·have tb6:=vU tb5 sD
     rcases tb6 with z|⟨c',oc,u',vs,t,z1,z2,z3⟩
     ·exact .inl (by rw[zG flT.symm];exact z)
     ·refine .inr ⟨c',oc,u',vs,t,by rw[zG flT.symm];exact z1,?_,z3⟩
      have:c'≠fo:=fun z=>by rw[z,f1']at z2;cases z2
      rw[zG this];exact z2
    ·rw[zG hbf]
     exact sD _ _ (sx5 _ _ hbT (sx _ _ hbT hbf e))
    ·rw[eF]
     refine⟨tf++acc,zF,by rw[aw,aw,f2,hal],fun i' p hp=>?_⟩
     have nt:∀ys,¬Rd (upd H6 D2 (.lst acc)) fo (.tup ys):=by
      rintro ys (z|⟨o',z⟩)
      ·rw[f1']at z;cases z
      ·rw[f1']at z;cases z
     by_cases hlt:i'<(qI (zB o bk) o (m+out.length) U out ((yI lo hi hd tl).take i)).length
     ·rw[aS hlt]at hp
      obtain⟨c,z1,z2⟩:=f3 i' p hp
      exact⟨c,by rw[aS (by omega)];exact z1,(vS (u:=.lst (tf++acc))).seqT nt (sD.seqT z2)⟩
     ·rw[aP (by omega)]at hp
      obtain⟨c,z1,z2⟩:=hac (i'- (qI (zB o bk) o (m+out.length) U out ((yI lo hi hd tl).take i)).length) p hp
      exact⟨c,by rw[aP (by omega),f2];exact z1,(vS (u:=.lst (tf++acc))).seqT nt (sD.seqT z2)⟩
  ·rintro σ H' ⟨⟨x8,x9,rfl⟩,tb,sx,hpf⟩
   rw[ah,p2,bw]at hpf
   have fnd:=zJI (o:=o) (bk:=bk) (n:=m+out.length) hU0 hUd hn1 out h8' (zCe lo hi hd tl)
   have fln:=zEu (o:=o) (bk:=bk) (n:=m+out.length) hU0 hUd hn1 out (yI lo hi hd tl) h8'
   have ftop:=zRU (o:=o) (bk:=bk) (m:=m) (lo:=lo) (hi:=hi) (hd:=hd) (tl:=tl) (out:=out) hU0 hUd hm h8
   have sxT:zS T H H':=fun b u hbT e=>sx _ _ hbT (fun z=>by rw[z]at e;rw[s12 _ _ e]at hfo;cases hfo) (s14 _ _ e)
   generalize qI (zB o bk) o (m+out.length) U out (yI lo hi hd tl)=FL at hpf fnd fln ftop
   refine⟨_,rfl,_,rfl,fo,FL,m,rfl,hpf,fnd,by omega,by omega,tb,fun D H5 rs sx5 tb5 hD srt hpD=>?_⟩
   rw[zCQ srt]at hpD
   have hBm:=ftop.len
   have hBs:=ftop.sub
   have k':=k
   generalize y8 m FL=BB at hpD ftop hBm hBs
   obtain⟨td,d1,d2,d3⟩:=hpD
   refine⟨D,rfl,⟨_,.of d1⟩,?_⟩
   have sxT5:=sxT.trans sx5
   refine qK (jF K D td) [some (.int (U^9))] 2 (by rw[d2];omega) (fun j acc H6=>zA H5 H6/\acc.length=j/\∀(i':Nat) (x:S),i'<j->(BB.map (·.2))[i']?=some x->∃c v,acc[i']?=some (.ref c)/\zX K H6 c [v,sv x]/\yZ K H6 v (qE (zB o bk) o x))
    ⟨zA.refl _,rfl,fun i' p h=>absurd h (ng _)⟩ (fun j acc H6 _ h=>⟨.of (h.1 _ _ d1),fN h.2.1⟩) ?_ ?_
   ·rintro j y acc H6 ys Nx2 hN2 hy hys ⟨s6,hal,hac⟩
    obtain⟨y1,y2,rfl⟩:=zBX hys
    have hj:j<BB.length:=by rw[<-d2];exact(ak.mp hy).1
    obtain⟨c,c1,c2⟩:=d3 j BB[j] (ay hj)
    rw[hy]at c1
    cases c1
    have hqm:=c6 hj
    have hq?:(BB.map (·.2))[j]?=some BB[j].2:=by rw[az,ay hj];rfl
    generalize BB[j]=q at c2 hqm hq?
    obtain⟨g1,g2⟩:=y9.mp (hBs q hqm)
    have gf:=((zEq (j3 o bk)).mp (aI.mp g1).1).1
    obtain⟨n1,e1⟩:=zEB (o:=o) hU0 hUd (x:=q.2) (by have:=gf.2.1;omega)
    have hw1:=zQy hU0 hUl
    have hw2:=zRG (a:=60*9) (b:=8000) (by decide)
    refine⟨c,[.int q.1,sv q.2],rfl,s6.seqT c2,rfl,_,_,rfl,_,_,rfl,rfl,?_⟩
    refine⟨_,rfl,_,rfl,q.1,U^9,rfl,by rw[g2];exact n1,gj hU0,by omega,fun pf hpf=>?_⟩
    have s7:zA H6 (upd H6 pf (frO (low q.1 (U^9)))):=zA.upd1 hpf
    have hfr:yZ K (upd H6 pf (frO (low q.1 (U^9)))) (.ref pf) (qE (zB o bk) o q.2):=by rw[<-e1,g2];exact yZ.new
    generalize upd H6 pf (frO (low q.1 (U^9)))=H7 at s7 hfr
    refine⟨_,rfl,by show 2<=sizeLine;decide,fun t ht=>hN2 _ _ [some (.int q.1),some (sv q.2)] rfl ⟨(s6.trans s7).trans (zA.upd1 ht),by rw[aw,hal];rfl,fun i' x hi2 hx=>?_⟩⟩
    by_cases hij:i'=j
    ·subst hij
     rw[hq?]at hx
     cases hx
     exact⟨t,.ref pf,by rw[aP (by omega),hal,iO];rfl,.inl (.of zF),hfr.same (zA.upd1 ht)⟩
    ·obtain⟨c',v',z1,z2,z3⟩:=hac i' x (by omega) hx
     have s8:=s7.trans (zA.upd1 (o:=.tup [.ref pf,sv q.2]) ht)
     exact⟨c',v',by rw[aS (by omega)];exact z1,s8.seqT z2,z3.same s8⟩
   ·rintro acc H6 ⟨s6,hal,hac⟩ D2 hD2
    have sD:zA H6 (upd H6 D2 (.lst acc)):=zA.upd1 hD2
    have sx6:zS T H5 (upd H6 D2 (.lst acc)):=zS.of (s6.trans sD)
    refine k' D2 _ U BB (sxT5.trans sx6) (vU tb5 (s6.trans sD)) ((sxT5.trans (zS.of s6)).freeT (vU tb5 s6) hD2) hU ftop ⟨acc,zF,by rw[ah,hal,d2],fun i' x hx=>?_⟩
    have hi2:i'<td.length:=by
     have:=(ak.mp hx).1
     rw[ah]at this;omega
    obtain⟨c',v',z1,z2,z3⟩:=hac i' x hi2 hx
    exact⟨c',v',z1,sD.seqT z2,z3.same sD⟩
end
end Kn.Ln
end
section
namespace Kn
open PySem L2
section
variable{P:aH}{w:aW}{K:ag}{mg:Str->Option ai}{base:bB}
noncomputable def zJM:Sp:=fun vs H Q _=>∃x:S,vs=[sv x]/\(x=[]\/(v1 x/\x.length<=3))/\∀H',zA H H'->Q (.bl true) H'
theorem zRX {f:ao}{fd:aZ}(F:Fun K "is_edge" "is_edge" zEd f fd)(B:Blt mg)(W:CstW mg)(b:zV P w K mg base 1 "is_name" ["thing"] zBS):FnOk P w K mg base zZ 2 f fd ["thing"] zJM:=by
 obtain⟨l,c⟩:=W.edge
 refine F.ok zQb (fun vs H Q E h=>?_) (fun d A outer s H vs Q E g h=>?_)
 ·obtain⟨x,rfl,_⟩:=h;rfl
 ·obtain⟨x,rfl,i,k⟩:=h
  refine⟨_,zK (z0 (zFV (jU zAc (pv 0) vL (yU _)) (zAW (zBh (zW b g rfl (zC (pv 0) zE)) (zAW (jU g7 (yL gE (by rfl) B.len bM (zC (pv 0) zE)) (yT (v:=.int 3) (by rfl) c ⟨_,rfl⟩) (yU _))))))),?_⟩
  refine⟨_,rfl,rfl,_,rfl,?_⟩
  rcases i with rfl|⟨hn,m⟩
  ·exact qT (k _ (zA.refl _))
  ·have a:¬sv x=V.str "" :=fun e=>by
    have e1:tx x=tx []:=V.str.inj e
    have:=jJ e1
    rw[this]at hn
    have:=hn.1
    simp at this
   refine zAJ a ⟨_,rfl,x,rfl,hn,fun n j=>⟨_,rfl,qT ⟨_,rfl,tx x,rfl,by rw[yJ,aL];omega,_,_,rfl,rfl,?_⟩⟩⟩
   have e:decide (((tx x).length:Int)<=3)=true:=decide_eq_true (by rw[yJ];omega)
   dsimp only
   rw[e]
   exact k _ j
noncomputable def zJN:Sp:=fun vs H Q _=>∃(a:ao) (ba:List S),vs=[.ref a]/\H a=some (.tup (zD ba))/\ba.length<=6/\(∀x∈ba,v1 x)/\qW ba=true/\∀H',zA H H'->Q (.bl true) H'
theorem zRY {f:ao}{fd:aZ}(F:Fun K "is_barred" "is_barred" zEe f fd)(B:Blt mg)(W:CstW mg)(t:zV P w K mg base 1 "is_name" ["thing"] zBS)(u:zV P w K mg base 1 "is_rising" ["things"] zIg):FnOk P w K mg base zZ 2 f fd ["thing"] zJN:=by
 obtain⟨R,x⟩:=W.mb
 refine F.ok zQc (fun vs H Q E h=>?_) (fun z A outer s H vs Q E n h=>?_)
 ·obtain⟨a,d,rfl,_⟩:=h;rfl
 ·obtain⟨a,d,rfl,ha,hl,hn,l,k⟩:=h
  refine⟨_,zM (yR (PW.pt (kA (uC (v4 (yL zAI (by rfl) B.isinstance cq (zC (pv 0) (zC (gR (v:=.ty "tuple") (by rfl) B.tuple fI rfl) zE)))))
    (j9 (vA zKo (yL jD (by rfl) B.len bM (zC (pv 0) zE)) (yT (v:=.int 6) (by rfl) x ⟨_,rfl⟩) (yU _)))))
    (zK (z0 uK)) yQ)
   (zK (z0 (zBh (yL (zBO rfl) (by rfl) B.all eT (zC (uD (N:=["name"]) (caps:=[]) rfl (v9 (by kernel_rfl)) (zBH (pv 0))
    (fun p C s H ex=>z7 (i:=0) zQd rfl (Or.inl rfl)) (fun p C s H ex=>uO)
    (fun p C s H ex=>zW t n rfl (zC (pv 0) zE))) zE)) (zAW (zW u n rfl (zC (pv 0) zE)))))),?_⟩
  have q:(zD d).length=d.length:=by unfold zD;rw[ah]
  refine⟨_,rfl,_,_,_,true,rfl,.tup ha,(by rfl),_,rfl,vB ?_⟩
  refine⟨_,rfl,a,_,rfl,.inr (.of ha),_,_,rfl,rfl,_,rfl,zAJ (by rw[q];omega) ?_⟩
  refine⟨_,rfl,_,rfl,⟨_,.of ha⟩,?_⟩
  refine qK (zBP _ a (zD d)) [] 1 (by rw[q];omega) (fun i b g=>zA H g/\b=aR i (.bl true)) ⟨zA.refl H,rfl⟩ (fun i b g _ h=>⟨.of (h.1 _ _ ha),by rw[h.2];simp⟩) ?_ ?_
  ·rintro i y b g ys T G I J ⟨j,rfl⟩
   obtain⟨U,rfl⟩:=ys1 J
   obtain⟨c,e,rfl⟩:=zAS I
   exact⟨_,rfl,c,rfl,hn c (bg e),fun L m=>G _ _ [some (sv c)] rfl ⟨j.trans m,by rw[jf]⟩⟩
  ·rintro b g ⟨j,rfl⟩ D M
   refine⟨D,aR _ true,rfl,.of (by rw[zF,ky]),?_⟩
   have:(aR (zD d).length true).all id=true:=by simp
   rw[this]
   have r:=j.upd_new (o:=.lst (aR (zD d).length (V.bl true))) (j.free M)
   refine⟨_,rfl,qT ⟨_,rfl,a,d,rfl,r _ _ ha,by omega,fun L O=>?_⟩⟩
   rw[l]
   exact k _ (r.trans O)
noncomputable def zJO:Sp:=fun vs H Q _=>∃(a:ao) (lo hi:Int) (hd tl:S) (ba:List S) (to:Bool),vs=[.ref a]/\qQ H a lo hi hd tl ba to/\GW lo hi hd tl ba/\∀H',zA H H'->Q (.bl true) H'
theorem zRZ {f:ao}{fd:aZ}(F:Fun K "is_wish" "is_wish" zEf f fd)(B:Blt mg)(C:Cst K mg)(W:CstW mg)(n:zV P w K mg base 1 "is_whole" ["thing","least","most"] zCB)(o:zV P w K mg base 2 "is_edge" ["thing"] zJM)(z:zV P w K mg base 2 "is_barred" ["thing"] zJN):FnOk P w K mg base zZ 3 f fd ["thing"] zJO:=by
 obtain⟨O,p⟩:=W.least
 obtain⟨R,D⟩:=W.most
 obtain⟨T,G⟩:=W.head
 obtain⟨U,I⟩:=W.tail
 obtain⟨X,J⟩:=W.barred
 obtain⟨Y,L⟩:=W.told
 obtain⟨Z,M⟩:=W.parts
 obtain⟨u8,q⟩:=C.ml
 refine F.ok zQe (fun vs H Q E h=>?_) (fun N A outer s H vs Q E c h=>?_)
 ·obtain⟨a,lo,hi,hd,tl,r,to,rfl,_⟩:=h;rfl
 ·obtain⟨a,lo,hi,hd,tl,r,to,rfl,⟨t,ha,d⟩,b,k⟩:=h
  have u:=c.mono (j:=1) (by decide)
  refine⟨_,zM (yR (PW.pt (kA (uC (v4 (yL zAI (by rfl) B.isinstance cq (zC (pv 0) (zC (gR (v:=.ty "tuple") (by rfl) B.tuple fI rfl) zE)))))
    (j9 (vA gZ (yL jD (by rfl) B.len bM (zC (pv 0) zE)) (yT (v:=.int 6) (by rfl) M ⟨_,rfl⟩) (yU _)))))
    (zK (z0 uK)) yQ)
   (zM (yR (PW.pt (kA (uC (v4 (zW n u rfl (zC (yH vX (pv 0) (yT (v:=.int 0) (by rfl) p ⟨_,rfl⟩) (fun _ _=>rfl)) (zC zN (zC (yT (v:=.int 8) (by rfl) q ⟨_,rfl⟩) zE))))))
     (j9 (uC (v4 (zW n u rfl (zC (yH vX (pv 0) (yT (v:=.int 1) (by rfl) D ⟨_,rfl⟩) (fun _ _=>rfl)) (zC (yH vX (pv 0) (yT (v:=.int 0) (by rfl) p ⟨_,rfl⟩) (fun _ _=>rfl)) (zC (yT (v:=.int 8) (by rfl) q ⟨_,rfl⟩) zE)))))))))
    (zK (z0 uK)) yQ)
   (zM (yR (PW.pt (kA (uC (v4 (zW o c rfl (zC (yH vX (pv 0) (yT (v:=.int 2) (by rfl) G ⟨_,rfl⟩) (fun _ _=>rfl)) zE))))
     (j9 (uC (v4 (zW o c rfl (zC (yH vX (pv 0) (yT (v:=.int 3) (by rfl) I ⟨_,rfl⟩) (fun _ _=>rfl)) zE)))))))
    (zK (z0 uK)) yQ)
   (zK (z0 (zBh (zW z c rfl (zC (yH vX (pv 0) (yT (v:=.int 4) (by rfl) J ⟨_,rfl⟩) (fun _ _=>rfl)) zE))
    (zAW (yL zAI (by rfl) B.isinstance cq (zC (yH vX (pv 0) (yT (v:=.int 5) (by rfl) L ⟨_,rfl⟩) (fun _ _=>rfl)) (zC (gR (v:=.ty "bool") (by rfl) B.bool mU rfl) zE))))))))),?_⟩
  have g1:=b.glo
  have g2:=b.gle
  have g3:=b.ghi
  obtain⟨l,rfl⟩:=bO (show 0<=lo by omega)
  obtain⟨m,rfl⟩:=bO (show 0<=hi by omega)
  refine⟨_,rfl,_,_,_,true,rfl,.tup ha,(by rfl),_,rfl,vB ?_⟩
  refine⟨_,rfl,a,_,rfl,.inr (.of ha),rfl,_,rfl,jX rfl ?_⟩
  refine⟨_,rfl,a,_,0,.int l,rfl,rfl,.of ha,rfl,l,1,8,rfl,by omega,by omega,_,rfl,vB ?_⟩
  refine⟨_,rfl,a,_,1,.int m,rfl,rfl,.of ha,rfl,_,rfl,a,_,0,.int l,rfl,rfl,.of ha,rfl,m,l,8,rfl,by omega,by omega,_,rfl,vB ?_⟩
  refine⟨_,rfl,a,_,2,sv hd,rfl,rfl,.of ha,rfl,hd,rfl,b.ghd,fun H1 x=>⟨_,rfl,vB ?_⟩⟩
  refine⟨_,rfl,a,_,3,sv tl,rfl,rfl,.of (x _ _ ha),rfl,tl,rfl,b.gtl,fun H2 e=>⟨_,rfl,vB ?_⟩⟩
  have g:=x.trans e
  refine⟨_,rfl,a,_,4,.ref t,rfl,rfl,.of (g _ _ ha),rfl,t,r,rfl,g _ _ d,b.len,b.nm,b.ris,fun H3 i=>⟨_,rfl,qT ?_⟩⟩
  have y:=g.trans i
  exact⟨_,rfl,a,_,5,.bl to,rfl,rfl,.of (y _ _ ha),rfl,_,_,_,true,rfl,.bl _,rfl,k _ y⟩
noncomputable def zEw:Sp:=fun vs H Q _=>∃(a:ao) (lo hi:Int) (hd tl:S) (ba:List S) (to:Bool),vs=[.ref a]/\qQ H a lo hi hd tl ba to/\GW lo hi hd tl ba/\∀H',zA H H'->Q .non H'
theorem zRa {f:ao}{fd:aZ}(F:Fun K "need_wish" "need_wish" zEg f fd)(c:zV P w K mg base 3 "is_wish" ["thing"] zJO):FnOk P w K mg base zZ 4 f fd ["thing"] zEw:=by
 refine F.ok zQf (fun vs H Q E h=>?_) (fun d A outer s H vs Q E e h=>?_)
 ·obtain⟨a,lo,hi,hd,tl,b,to,rfl,_⟩:=h;rfl
 ·obtain⟨a,lo,hi,hd,tl,b,to,rfl,g,i,k⟩:=h
  refine⟨_,zK (yR (uC (v4 (zW c e rfl (zC (pv 0) zE)))) (zK zAY) yQ),?_⟩
  exact⟨_,rfl,a,lo,hi,hd,tl,b,to,rfl,g,i,fun j l=>⟨_,rfl,vB (k j l)⟩⟩
end
end Kn
end
section
namespace Kn.Ln
open PySem L2 Kn
structure LkOk (bk:List S) (o lo hi:Nat) (hd tl:S) (n:Nat):Prop where
 hv:∀U,Unit9 (zB o bk) U->∀p∈yI lo hi hd tl,HvOk (zB o bk) (zP (zB o bk)) o n (U^9) p
 sum:((yI lo hi hd tl).map fun p=>min n (qX (zB o bk) o p).length).sum<64
theorem _root_.Kn.GW.nats {lo hi:Int}{hd tl:S}{a:List S}(g:GW lo hi hd tl a):∃l h:Nat,lo=(l:Int)/\hi=(h:Int)/\1<=l/\l<=h/\h<=8/\hd.length<=3/\tl.length<=3:=by
 have b:=g.glo
 have c:=g.gle
 have d:=g.ghi
 obtain⟨l,rfl⟩:=bO (show 0<=lo by omega)
 obtain⟨h,rfl⟩:=bO (show 0<=hi by omega)
 refine⟨l,h,rfl,rfl,by omega,by omega,by omega,?_,?_⟩
 ·rcases g.ghd with z|z
  ·rw[z];simp
  ·exact z.2
 ·rcases g.gtl with z|z
  ·rw[z];simp
  ·exact z.2
theorem zRb {o:Nat}{bk:List S}{lo hi:Nat}{hd tl:S}{a:List S}{to:Bool}(h:hi<=8):∀x∈qY o bk lo hi hd tl a to,x.length<=8:=fun x b=>by
 have:=(zJG.mp b).1.2.1;omega
section
variable{P:aH}{w:aW}{K:ag}{mg:Str->Option ai}{base:bB}
structure NeedsW (P:aH) (w:aW) (K:ag) (mg:Str->Option ai) (base:bB):Prop extends Needs P w K mg base where
 ws:zV P w K mg base 4 "need_wish" ["thing"] zEw
noncomputable abbrev sLk:cT:=top 63
theorem zRc:FnScope ["book","order","wish","many"] ["book","order","wish","many"] (defScope sLk):=z9
noncomputable def zJP (K:ag)(T:ao):Sp:=fun vs H Q _=>∃(c a:ao) (bk:List S) (o lo hi:Nat) (hd tl:S) (ba:List S) (to:Bool) (m:Nat),vs=[.ref c,.int o,.ref a,.int m]/\H c=some (.tup (zD bk))/\Bk bk o/\qQ H a lo hi hd tl ba to/\GW lo hi hd tl ba/\(zB o bk).length<=60/\1<=m/\m<=20/\y0 T H/\(∀j,j<=ba.length+bk.length->LkOk bk o lo hi hd tl (m+j))/\
 ∀D H' U B,zS T H H'->y0 T H'->H D=none->Unit9 (zB o bk) U->TopN m (qR (zB o bk) o U (qY o bk lo hi hd tl ba to)) B->zAT K H' D (zB o bk) o (B.map (·.2))->Q (.ref D) H'
theorem zRd {f T:ao}{fd:aZ}(F:Fun K "likeliest" "likeliest" sLk f fd)(C:∃t,mg "MOST_LIKELIEST"=some (.int 20 t))(N:NeedsW P w K mg base)(G:zV P w K mg base 2 "need_whole" ["thing","least","most"] zIz)
  (cR:zV P w K mg base 3 "counted_rows" ["book","order"] zCG) (cO:zV P w K mg base 1 "left_out" ["book","wish"] zEt) (I:zV P w K mg base 5 "heaviest_fitting" ["rows","order","wish","many","barred"] (zEv K T)) :
  FnOk P w K mg base zZ 6 f fd ["book","order","wish","many"] (zJP K T):=by
 obtain⟨tM,C⟩:=C
 refine F.ok zRc (fun vs H Q E h=>?_) (fun ab A outer s H vs Q E g h=>?_)
 ·obtain⟨c,a,bk,o,lo,hi,hd,tl,i,to,m,rfl,_⟩:=h;rfl
 ·obtain⟨c,a,bk,o,lo,hi,hd,tl,i,to,m,rfl,J,b,L,y,M,m1,O,tab,W,kQ⟩:=h
  have r1:=g.mono (j:=1) (by decide)
  have r2:=g.mono (j:=2) (by decide)
  have X:=g.mono (j:=3) (by decide)
  have r4:=g.mono (j:=4) (by decide)
  refine⟨_,zM (v5 (zW N.bk X rfl (zC (pv 0) zE))) (zM (v5 (zW N.od X rfl (zC (pv 1) zE))) (zM (v5 (zW N.ws r4 rfl (zC (pv 2) zE))) (zM (v5 (zW G r2 rfl (zC (pv 3) (zC zN (zC (yT (v:=.int 20) (by rfl) C ⟨_,rfl⟩) zE)))))
   (zK (z0 (zW I g rfl (zC (zW cR X rfl (zC (pv 0) (zC (pv 1) zE))) (zC (pv 1) (zC (pv 2) (zC (pv 3) (zC (zW cO r1 rfl (zC (pv 0) (zC (pv 2) zE))) zE))))))))))),?_⟩
  refine⟨_,rfl,c,bk,rfl,J,b.toisBk,fun H1 s1=>?_⟩
  refine⟨_,rfl,o,rfl,b.o1,b.o3,?_⟩
  refine⟨_,rfl,a,lo,hi,hd,tl,i,to,rfl,L.same s1,y,fun H3 Y=>?_⟩
  have s3:=s1.trans Y
  refine⟨_,rfl,m,1,20,rfl,m1,O,?_⟩
  obtain⟨l',h',e1,e2,hl1,n,p,ac,al⟩:=y.nats
  have p:hi<=8:=by omega
  have n:lo<=hi:=by omega
  refine⟨_,rfl,_,rfl,c,bk,o,rfl,s3 _ _ J,b.hi,b.l8,b.o1,fun dr H4 Z am R=>?_⟩
  have s4:=s3.trans Z
  refine⟨_,rfl,_,rfl,_,rfl,_,rfl,_,rfl,c,a,bk,lo,hi,hd,tl,i,to,rfl,s4 _ _ J,b.hi,L.same s4,y.len,fun l out H6 q an hl r e aa=>?_⟩
  have z:=s4.trans q
  have u:(j4 (zB o bk) o lo hi hd tl).filter (fun x=>decide (x∉out))=qY o bk lo hi hd tl i to:=by
   unfold qY
   refine List.filter_congr fun x _=>?_
   rw[<-r x];simp
  have d:=W out.length e
  refine⟨dr,a,l,o,m,bk,lo,hi,hd,tl,i,to,out,rfl,b,M,R.same q,L.same z,n,p,by omega,by omega,hl,by omega,by have:=y.len;have:=b.hi;omega,vU tab z,d.hv,d.sum,fun D H7 U B sx tb hD hU hT hL=>?_⟩
  rw[u]at hT
  exact kQ D H7 U B ((zS.of z).trans sx) tb (z.free hD) hU hT hL
end
section
variable{o n:Nat}{bk:List S}{U:Int}{ly:List (S×zI)}{pat:List S}{w:S}
theorem zRe (h:LInv (zB o bk) o n U (Tx (zU (zB o bk)) o pat) ly){r:S×zI}(e:r∈y6 (ly.flatMap (yX (zU (zB o bk)) (zP (zB o bk)) o w))){q:Int×S}(a:q∈r.2):q∈(Tx (zU (zB o bk)) o (pat++[w])).map fun t=>(Wt (zP (zB o bk)) o (U^9) t,t):=by
 rw[zCR e]at a
 obtain⟨s,f,a⟩:=bf.mp a
 obtain⟨g,hr0,c,i,j,rfl⟩:=zCV (aI.mp f).1
 obtain⟨b,hq0,rfl⟩:=av.mp a
 obtain⟨e1,d,l⟩:=uF.mp ((h.top g hr0).sub b hq0)
 refine av.mpr ⟨b.2++[c],?_,?_⟩
 ·rw[zAt]
  exact bf.mpr ⟨b.2,e1,av.mpr ⟨[c],aI.mpr ⟨(qP _ _ _).mpr (by rw[d];exact i),j⟩,rfl⟩⟩
 ·rw[zEQ,d,l]
theorem zRf (h:LInv (zB o bk) o n U (Tx (zU (zB o bk)) o pat) ly){q:Int×S}(a:q∈vV (zB o bk) (zP (zB o bk)) ly):q∈(Tx (zU (zB o bk)) o pat).map fun t=>(Wn (zB o bk) o (U^9) t,t):=by
 obtain⟨r,b,f,p,c,rfl⟩:=zCX.mp a
 obtain⟨e1,d,e⟩:=uF.mp ((h.top r b).sub p c)
 refine av.mpr ⟨p.2,e1,?_⟩
 unfold Wn
 rw[d,e]
noncomputable def Sh3 (bk:List S):Prop:=∀nm∈bk,nm.length<=3
theorem zCh {e:S}{c:Nat}(h:(e,[c])∈zB o bk):∃nm∈bk,∃p,p<nm.length/\zY (nm.take p) o=e/\(nm.drop p).take 1=[c]:=by
 obtain⟨nm,hn,a⟩:=bf.mp h
 rw[zCL]at a
 rcases bz.mp a with z|z
 ·unfold pp at z
  obtain⟨p,a,z⟩:=av.mp z
  obtain⟨b,d⟩:=bY z
  exact⟨nm,hn,p,bP.mp a,b,d⟩
 ·have z:=aM.mp z
  have:=congrArg fc (bY z).2
  simp at this
theorem zRg (d:1<=o){c:Nat}(h:([],[c])∈zB o bk):[c]∈bk.map fun nm=>nm.take 1:=by
 obtain⟨nm,hn,p,e,e1,a⟩:=zCh h
 have b:p=0:=by
  have:=congrArg fc e1
  unfold zY at this
  rw[cc,aO]at this
  simp at this
  omega
 subst b
 exact av.mpr ⟨nm,hn,a⟩
theorem zRh (i:1<=o)(f:Sh3 bk){c d:Nat}(h:([c],[d])∈zB o bk):[c,d]∈bk.flatMap fun nm=>[nm.take 2,(nm.drop 1).take 2]:=by
 obtain⟨nm,hn,p,b,e1,a⟩:=zCh h
 have hl:=f nm hn
 refine bf.mpr ⟨nm,hn,?_⟩
 unfold zY at e1
 cases nm with
 |nil=>simp at b
 |cons x nm=>
  cases nm with
  |nil=>
   have:p=0:=by simp at b;omega
   subst this
   simp at e1
  |cons y nm=>
   have e:p=0\/p=1\/p=2:=by
    have:p<3:=by omega
    omega
   rcases e with rfl|rfl|rfl
   ·simp at e1
   ·simp at e1 a
    have hd:List.drop (1-o) [x]=[x]:=by rw[show 1-o=0 by omega];rfl
    rw[hd]at e1
    simp at e1
    simp[e1,a]
   ·cases nm with
    |nil=>simp at b
    |cons z nm=>
     have g:o=1:=by
      have:=congrArg fc e1
      rw[cc,aO]at this
      simp at this
      omega
     subst g
     simp at e1 a
     simp[e1,a]
theorem zJQ (ha:gN bk):(Tx (zU (zB o bk)) o (pat++[w])).length<=(Tx (zU (zB o bk)) o pat).length*3:=by
 rw[zAt]
 have go:∀L:List S,(L.flatMap fun t=>((zU (zB o bk) (zY t o)).filter (mf w)).map fun l=>t++l).length<=L.length*3:=by
  intro L
  induction L with
  |nil=>simp
  |cons t L ih=>
   rw[ft,aw,ah,aJ,mJ]
   have a:=uZ ((zU (zB o bk) (zY t o)).filter (mf w)) [[97],[98],[122]] ((zEM _ _).filter _) fun l hl=>by
    obtain⟨a,b⟩:=aI.mp hl
    have d:=(qP _ _ _).mp a
    have hn:l≠[]:=fun z=>by rw[z]at b;simp[mf]at b
    obtain⟨c,rfl⟩:=zAN (gM d) hn
    obtain⟨nm,hn,p,f,_,e⟩:=zCh d
    have:c∈nm:=gp (bN (by rw[e];exact bJ _))
    rcases ha nm hn c this with z|z|z<;>simp[z]
   simp at a
   omega
 exact go _
theorem zRi {c:Nat}{t:S}(a:1<=o):([],[c])∈pp o (c::t):=by
 unfold pp
 refine av.mpr ⟨0,bP.mpr (by simp),?_⟩
 simp[zY]
theorem zRj {c d:Nat}(a:1<=o):([c],[d])∈pp o [c,d]:=by
 unfold pp
 refine av.mpr ⟨1,bP.mpr (by simp),?_⟩
 have:1-o=0:=by omega
 simp[zY,this]
noncomputable def cap:Nat->Nat
 |0=>1
 |1=>3
 |2=>6
 |3=>18
 |_=>54
theorem zJR {k:Nat}(h:pat.length=k+1):∃p w,pat=p++[w]/\p.length=k:=by
 have hn:pat≠[]:=fun z=>by rw[z]at h;cases h
 refine⟨pat.dropLast,pat.getLast hn,(List.dropLast_concat_getLast hn).symm,?_⟩
 rw[List.length_dropLast,h];rfl
theorem zEx (f:1<=o)(ha:gN bk)(q:Sh3 bk)(s:bk.length<=3):∀{pat:List S},pat.length<=4->(Tx (zU (zB o bk)) o pat).length<=cap pat.length:=by
 have nd:=zIQ (lts (zB o bk)) (j3 o bk) o
 have mem:=zCS (lts (zB o bk)) (j3 o bk) o
 have l:∀{pat:List S},pat.length=2->(Tx (zU (zB o bk)) o pat).length<=6:=fun{pat} h=>by
  have a:=uZ _ (bk.flatMap fun nm=>[nm.take 2,(nm.drop 1).take 2]) (nd pat) fun t i=>by
   obtain⟨a,g⟩:=(mem pat t).mp i
   have b:=qV a
   rw[h]at b
   match t,b with
   | [c,d],_=>exact zRh f q (g _ (zRj f))
  have r:∀B:List S,(B.flatMap fun nm=>[nm.take 2,(nm.drop 1).take 2]).length=2*B.length:=by
   intro B
   induction B with
   |nil=>rfl
   |cons x B ih=>rw[ft,aw,ih,aJ];simp;omega
  rw[r]at a
  omega
 have m:∀{pat:List S},pat.length=3->(Tx (zU (zB o bk)) o pat).length<=18:=fun{pat} h=>by
  obtain⟨p,w,rfl,j⟩:=zJR h
  have:=zJQ (o:=o) (pat:=p) (w:=w) ha
  have:=l j
  omega
 intro pat h
 match e:pat.length,h with
 |0,_=>
  have:pat=[]:=cS.mp e
  subst this
  show 1<=1
  exact aA _
 |1,_=>
  have a:=uZ _ (bk.map fun nm=>nm.take 1) (nd pat) fun t i=>by
   obtain⟨a,g⟩:=(mem pat t).mp i
   have b:=qV a
   rw[e]at b
   match t,b with
   | [c],_=>exact zRg f (g _ (zRi f))
  rw[ah]at a
  show _<=3
  omega
 |2,_=>exact l e
 |3,_=>exact m e
 |4,_=>
  obtain⟨p,w,rfl,j⟩:=zJR e
  have a:=zJQ (o:=o) (pat:=p) (w:=w) ha
  have g:=m j
  show _<=54
  omega
theorem zJS {k:Nat}(h:k<=4):cap k<=54:=by
 match k,h with
 |0,_=>decide
 |1,_=>decide
 |2,_=>decide
 |3,_=>decide
 |4,_=>decide
theorem zRk (h:1<=o)(ha:gN bk)(j:Sh3 bk)(m:bk.length<=3)(b:0<U)(p:∀e l,(zP (zB o bk) e l).2∣U)(c:1<=n)(s:pat.length<=4):HvOk (zB o bk) (zP (zB o bk)) o n (U^9) pat:=by
 have hf:=zCW (o:=o) (bk:=bk) b p c pat pat.length (aA _) (by omega)
 rw[bw]at hf
 refine⟨fun i hi r d=>?_,zET hf,?_⟩
 ·have a:=zCW (o:=o) (bk:=bk) b p c pat i (by omega) (by omega)
  refine⟨zER a d,?_⟩
  have f:=uZ _ _ (zER a d) fun q g=>zRe a d g
  rw[ah]at f
  have hl:(pat.take i++[pat.getD i []]).length<=4:=by rw[aw,aO,bW];omega
  have t:=zEx (o:=o) h ha j m hl
  have u:=zJS hl
  omega
 ·have f:=uZ _ _ (zET hf) fun q g=>zRf hf g
  rw[ah]at f
  have t:=zEx (o:=o) h ha j m s
  have u:=zJS s
  omega
theorem zJT (c:Nat->Nat):∀(L M:List Nat),L.Nodup->(∀x∈L,x∈M)->(L.map c).sum<=(M.map c).sum
 | [],M,_,_=>bo _
 |x::L,M,h,b=>by
  have e:=b x (au ..)
  have g:=zJT c L (M.erase x) (bp.mp h).2 fun y d=>by
   have a:y≠x:=fun z=>(bp.mp h).1 (by rw[<-z];exact d)
   exact(gh a).mpr (b y (aj _ d))
  have f:=((List.perm_cons_erase e).map c).sum_nat
  rw[aQ,cp]at f⊢
  omega
theorem zJU {α:Type}(f g:α->Nat):∀(L:List α),(∀x∈L,f x<=g x)->(L.map f).sum<=(L.map g).sum
 | [],_=>aA _
 |x::L,h=>by
  have b:=zJU f g L fun y a=>h y (aj _ a)
  have c:=h x (au ..)
  rw[aQ,aQ,cp,cp]
  omega
theorem zRl {lo hi:Nat}{hd tl:S}(f:1<=o)(ha:gN bk)(g:Sh3 bk)(h:bk.length<=3)(d:1<=n)(hn:n<=36)(hl:1<=lo)(q:hi<=4):LkOk bk o lo hi hd tl n:=by
 have i:∀p∈yI lo hi hd tl,p.length<=4:=fun p c=>by have:=(zCc c).2;omega
 refine⟨fun U j p c=>zRk f ha g h j.pos j.dvd d (i p c),?_⟩
 have l:=zJU (fun p=>min n (qX (zB o bk) o p).length) (fun p=>(fun k=>min 36 (cap k)) p.length) (yI lo hi hd tl) fun p c=>by
  have a:=zEx (o:=o) f ha g h (i p c)
  have b:(qX (zB o bk) o p).length<=_:=cI _ _
  show min n _<=min 36 (cap p.length)
  omega
 have e:(yI lo hi hd tl).map (fun p=>(fun k=>min 36 (cap k)) p.length)=((yI lo hi hd tl).map fc).map fun k=>min 36 (cap k):=by rw[bc];rfl
 rw[e]at l
 have r:=zJT (fun k=>min 36 (cap k)) ((yI lo hi hd tl).map fc) [1,2,3,4] (by
  rw[dq,bD]
  exact zCe lo hi hd tl) fun x m=>by
   obtain⟨p,c,rfl⟩:=av.mp m
   have a:=zCc c
   have b:p.length=1\/p.length=2\/p.length=3\/p.length=4:=by omega
   rcases b with z|z|z|z<;>rw[z]<;>simp
 have s:([1,2,3,4].map fun k=>min 36 (cap k)).sum=63:=by decide
 omega
end
end Kn.Ln
end
section
namespace L2
open PySem PySem.Spec PyProof.Rows
section
open MyS PySem.W
variable{X:Cx}
end
end L2
end
section
namespace Kn.Ln
open PySem L2 Kn
section
variable{ps:List (S×S)}{o m:Nat}{N L:List S}{U V:Int}
theorem zCi (a:Unit9 ps U){x:S}(b:x.length<=8):(qE ps o x).1*U^9=Wn ps o (U^9) x*(qE ps o x).2:=by
 obtain⟨c,e⟩:=zEB (o:=o) a.pos a.dvd b
 have h:=zAK (u:=Wn ps o (U^9) x) (d:=U^9) (gj a.pos)
 rw[e]at h
 exact h
theorem zJV (a:Unit9 ps U){x:S}(b:x.length<=8):0<(qE ps o x).2:=by
 obtain⟨c,e⟩:=zEB (o:=o) a.pos a.dvd b
 rw[<-e]
 exact(gJ c (gj a.pos)).dn
theorem zEy (a:Unit9 ps U)(b:Unit9 ps V){x y:S}(c:x.length<=8)(d:y.length<=8)(h:Wn ps o (U^9) x<Wn ps o (U^9) y):Wn ps o (V^9) x<Wn ps o (V^9) y:=by
 have j:=zCi (o:=o) a c
 have l:=zCi (o:=o) a d
 have n:=zCi (o:=o) b c
 have p:=zCi (o:=o) b d
 have q:=zJV (o:=o) a c
 have py:=zJV (o:=o) a d
 have r:0<U^9:=gj a.pos
 have w:0<V^9:=gj b.pos
 generalize qE ps o x=s at*
 generalize qE ps o y=t at*
 generalize Wn ps o (U^9) x=e at*
 generalize Wn ps o (U^9) y=f at*
 generalize Wn ps o (V^9) x=z at*
 generalize Wn ps o (V^9) y=A at*
 generalize U^9=u at*
 generalize V^9=v at*
 have pp:0<s.2*t.2:=lL q py
 have g:e*(s.2*t.2)<f*(s.2*t.2):=gc h pp
 have e1:e*(s.2*t.2)=(s.1*t.2)*u:=by rw[<-ip,<-j,iz]
 have B:f*(s.2*t.2)=(t.1*s.2)*u:=by rw[fm s.2,<-ip,<-l,iz]
 rw[e1,B]at g
 have C:s.1*t.2<t.1*s.2:=gm g (cY r)
 have i:(s.1*t.2)*v<(t.1*s.2)*v:=gc C w
 have D:z*(s.2*t.2)=(s.1*t.2)*v:=by rw[<-ip,<-n,iz]
 have E:A*(s.2*t.2)=(t.1*s.2)*v:=by rw[fm s.2,<-ip,<-p,iz]
 rw[<-D,<-E]at i
 exact gm i (cY pp)
theorem zRm (a:Unit9 ps U)(b:Unit9 ps V){x y:S}(c:x.length<=8)(d:y.length<=8)(h:yW (Wn ps o (U^9) x,x) (Wn ps o (U^9) y,y)):yW (Wn ps o (V^9) x,x) (Wn ps o (V^9) y,y):=by
 unfold yW uY at h⊢
 dsimp only at h⊢
 by_cases e:-Wn ps o (U^9) x=-Wn ps o (U^9) y
 ·rw[if_pos e]at h
  have f:-Wn ps o (V^9) x=-Wn ps o (V^9) y:=by
   rcases pF (Wn ps o (V^9) x) (Wn ps o (V^9) y)with z|z|z
   ·have:=zEy (o:=o) b a c d z;omega
   ·omega
   ·have:=zEy (o:=o) b a d c z;omega
  rw[if_pos f];exact h
 ·rw[if_neg e]at h
  have g:=of_decide_eq_true h
  have i:=zEy (o:=o) a b d c (by omega)
  rw[if_neg (by omega)]
  exact decide_eq_true (by omega)
noncomputable def vD (ps:List (S×S))(o m:Nat)(N L:List S):Prop:=∃U B,Unit9 ps U/\TopN m (qR ps o U N) B/\L=B.map (·.2)
theorem vD.at (h:vD ps o m N L)(i:∀x∈N,x.length<=8)(n:Unit9 ps V):∃B,TopN m (qR ps o V N) B/\L=B.map (·.2):=by
 obtain⟨U,B,p,T,rfl⟩:=h
 have f:∀q∈B,q.2∈N/\q=(Wn ps o (U^9) q.2,q.2):=fun q g=>by
  obtain⟨a,b⟩:=y9.mp (T.sub q g)
  exact⟨a,eI b rfl⟩
 have tr:∀{q r:Int×S},q.2∈N->r.2∈N->q=(Wn ps o (U^9) q.2,q.2)->r=(Wn ps o (U^9) r.2,r.2)->yW q r->yW (Wn ps o (V^9) q.2,q.2) (Wn ps o (V^9) r.2,r.2):=fun{q r} a b c d z=>by
  rw[c,d]at z
  exact zRm p n (i _ a) (i _ b) z
 refine⟨B.map fun q=>(Wn ps o (V^9) q.2,q.2),⟨?_,by rw[ah];exact T.len,fun q g=>?_,fun a ha=>?_⟩,by rw[bc];rfl⟩
 ·rw[bD]
  refine cb ?_ T.srt
  intro q r g e z
  exact tr (f q g).1 (f r e).1 (f q g).2 (f r e).2 z
 ·obtain⟨r,e,rfl⟩:=av.mp g
  exact y9.mpr ⟨(f r e).1,rfl⟩
 ·obtain⟨j,s⟩:=y9.mp ha
  have l:a=(Wn ps o (V^9) a.2,a.2):=eI s rfl
  rcases T.cmp (Wn ps o (U^9) a.2,a.2) (y9.mpr ⟨j,rfl⟩)with z|⟨t,u⟩
  ·left
   rw[l]
   exact av.mpr ⟨_,z,rfl⟩
  ·right
   refine⟨by rw[ah];exact t,fun b v=>?_⟩
   obtain⟨r,e,rfl⟩:=av.mp v
   rw[l]
   exact tr (r:=(Wn ps o (U^9) a.2,a.2)) (f r e).1 j (f r e).2 rfl (u r e)
theorem zRn (h:N.Nodup):(qR ps o U N).Nodup:=by
 unfold qR
 rw[dq,bD]
 exact h.imp fun{a b} c e=>c (bY e).2
theorem vD.one {a:List S}(nd:N.Nodup)(b:∀x∈N,x.length<=8)(h:vD ps o m N L)(h':vD ps o m N a):L=a:=by
 obtain⟨U,B,c,T,rfl⟩:=h
 obtain⟨e,d,rfl⟩:=h'.at b c
 rw[TopN.unique (zRn nd) T d]
theorem vD.mem {b:List S}(e:∀x,x∈N↔x∈b)(h:vD ps o m N L):vD ps o m b L:=by
 obtain⟨U,B,d,T,rfl⟩:=h
 have c:∀q,q∈qR ps o U N↔q∈qR ps o U b:=fun q=>by rw[y9,y9,e]
 exact⟨U,B,d,⟨T.srt,T.len,fun q f=>(c q).mp (T.sub q f),fun a ha=>T.cmp a ((c a).mpr ha)⟩,rfl⟩
theorem vD.len (h:vD ps o m N L):L.length<=m:=by
 obtain⟨U,B,a,T,rfl⟩:=h
 rw[ah];exact T.len
theorem vD.sub (h:vD ps o m N L){x:S}(a:x∈L):x∈N:=by
 obtain⟨U,B,c,T,rfl⟩:=h
 obtain⟨q,b,rfl⟩:=av.mp a
 exact(y9.mp (T.sub q b)).1
theorem vD.nd (h:vD ps o m N L):L.Nodup:=by
 obtain⟨U,B,f,T,rfl⟩:=h
 rw[dq,bD]
 refine cb ?_ (kW T.srt)
 intro a b ha d c e
 exact c (eI (by rw[(y9.mp (T.sub a ha)).2,(y9.mp (T.sub b d)).2,e]) e)
theorem vD.filter (h:vD ps o m N L)(hl:L.length<m)(f:S->Bool):vD ps o m (N.filter f) (L.filter f):=by
 obtain⟨U,B,g,T,rfl⟩:=h
 rw[ah]at hl
 refine⟨U,B.filter fun q=>f q.2,g,⟨T.srt.sublist oo,by have:=cI (fun q:Int×S=>f q.2) B;omega,fun q i=>?_,fun a ha=>?_⟩,by rw[List.filter_map];rfl⟩
 ·obtain⟨b,c⟩:=aI.mp i
  obtain⟨d,e⟩:=y9.mp (T.sub q b)
  exact y9.mpr ⟨aI.mpr ⟨d,c⟩,e⟩
 ·obtain⟨b,c⟩:=y9.mp ha
  obtain⟨d,e⟩:=aI.mp b
  rcases T.cmp a (y9.mpr ⟨d,c⟩)with z|⟨z,_⟩
  ·exact .inl (aI.mpr ⟨z,e⟩)
  ·omega
end
section
variable{K:ag}{H H':Hp}{T D:ao}{ps:List (S×S)}{o:Nat}{L:List S}{ts:List V}
noncomputable def kZ (K:ag)(H:Hp)(ps:List (S×S))(o:Nat)(ts:List V)(L:List S):Prop:=ts.length=L.length/\∀(i:Nat) (x:S),L[i]?=some x->∃a v,ts[i]?=some (.ref a)/\zX K H a [v,sv x]/\yZ K H v (qE ps o x)
theorem kZ.same (h:kZ K H ps o ts L)(e:zA H H'):kZ K H' ps o ts L :=
 ⟨h.1,fun i x hi=>let⟨a,v,e1,b,c⟩:=h.2 i x hi;⟨a,v,e1,e.seqT b,c.same e⟩⟩
theorem kZ.nil:kZ K H ps o [] []:=⟨rfl,fun i x hi=>by cases hi⟩
theorem kZ.snoc (h:kZ K H ps o ts L){a:ao}{v:V}{x:S}(e:zX K H a [v,sv x])(f:yZ K H v (qE ps o x)):kZ K H ps o (ts++[.ref a]) (L++[x]):=by
 refine⟨by rw[aw,aw,h.1];rfl,fun i y hi=>?_⟩
 by_cases c:i<L.length
 ·rw[aS c]at hi
  obtain⟨b,u,g,j⟩:=h.2 i y hi
  exact⟨b,u,by rw[aS (by rw[h.1];exact c)];exact g,j⟩
 ·rw[aP (by omega)]at hi
  have l:i-L.length<1:=(ak.mp hi).1
  have d:i-L.length=0:=by omega
  rw[d]at hi
  have:y=x:=(aB hi).symm
  subst this
  exact⟨a,v,by rw[aP (by have:=h.1;omega),h.1,d];rfl,e,f⟩
theorem zCj:zAT K H D ps o L↔∃ts,H D=some (.lst ts)/\kZ K H ps o ts L:=wb
theorem zDT (xs:List V)(k:Nat)(b:k<=1000):vN xs none (some (k:Int))=xs.take k:=by
 unfold vN
 have e1:HT.sIx xs.length 0 none=0:=rfl
 have a:HT.sIx xs.length xs.length (some (k:Int))=min k xs.length:=by
  unfold HT.sIx
  simp
  try omega
 rw[e1,a,eM,gu,List.take_eq_take_iff]
 omega
variable{b pw rD nD:ao}{bk:List S}{lo hi:Nat}{hd tl:S}{ba:List S}{to:Bool}
theorem zAT.same (h:zAT K H D ps o L)(e:zA H H'):zAT K H' D ps o L:=by
 obtain⟨ts,a,c⟩:=zCj.mp h
 exact zCj.mpr ⟨ts,e _ _ a,c.same e⟩
noncomputable def zBc (ps:List (S×S))(o:Nat)(ns:List S):List dE:=ns.map fun x=>.tuple [.tuple [.int (qE ps o x).1,.int (qE ps o x).2],.str (tx x)]
theorem zRo (h:zAT K H D ps o L):vE K H (.list (zBc ps o L)) (.ref D):=by
 obtain⟨ts,e,c,f⟩:=h
 refine⟨D,ts,rfl,.of e,?_⟩
 clear e
 induction L generalizing ts with
 |nil=>
  have:ts=[]:=cS.mp c
  subst this;rfl
 |cons x ns ih=>
  cases ts with
  |nil=>cases c
  |cons t ts=>
   obtain⟨a,v,e1,g,j⟩:=f 0 x rfl
   have d:t=.ref a:=aB e1
   subst d
   refine⟨_,ts,rfl,⟨a,_,rfl,g,v,[sv x],rfl,j.rep,sv x,[],rfl,rfl,rfl⟩,ih ts (by simpa using c) fun i y l=>f (i+1) y l⟩
theorem zRp (h:∀x∈L,x.length<=900/\∀c∈x,c<=122)(hl:L.length<=900):vW 8 (.list (zBc ps o L)):=by
 refine okL (n:=7) (fun d hd=>?_) (by unfold zBc;rw[ah];exact hl)
 obtain⟨x,f,rfl⟩:=av.mp hd
 refine vO (n:=6) (fun e he=>?_) (by show 2<=900;decide)
 rcases aE.mp he with rfl|he
 ·refine vO (n:=5) (fun i hi=>?_) (by show 2<=900;decide)
  have a:∀j:Int,vW 5 (.int j):=fun j=>⟨rfl,rfl,by simp only[gx];decide⟩
  rcases aE.mp hi with rfl|hi
  ·exact a _
  ·rw[aM.mp hi];exact a _
 ·rw[aM.mp he]
  exact(zJF (h x f).2 (h x f).1).mono (by decide)
end
section
variable{o:Nat}{bk:List S}{lo hi:Nat}{hd tl:S}{ba:List S}{to:Bool}
theorem zJW (ha:gN bk){x:S}(h:zBB (zB o bk) o x):∀c∈x,c=97\/c=98\/c=122:=fun c b=>by
 obtain⟨i,hi⟩:=List.getElem?_of_mem b
 have a:i<x.length:=(ak.mp hi).1
 have d:(zY (x.take i) o,[c])∈zB o bk:=h _ (by
  rw[zCL]
  refine b0 _ (av.mpr ⟨i,bP.mpr a,?_⟩)
  rw[(ak.mp hi).2.symm]
  congr 1
  rw[eV a];rfl)
 obtain⟨nm,hn,p,f,_,e⟩:=zCh d
 exact ha nm hn c (gp (bN (by rw[e];exact bJ _)))
end
noncomputable def gO:List S->V
 | []=>.non
 |x::_=>sv x
section
variable{P:aH}{w:aW}{K:ag}{mg:Str->Option ai}{base:bB}
noncomputable abbrev sHN:cT:=top 62
theorem zJX:FnScope ["rows","order","wish","barred","pairs"] ["rows","order","wish","barred"] (defScope sHN):=z9
noncomputable def zJY (K:ag)(T:ao):Sp:=fun vs H Q _=>∃(d a l:ao) (o:Nat) (bk:List S) (lo hi:Nat) (hd tl:S) (ba:List S) (to:Bool) (out:List S),vs=[.ref d,.int o,.ref a,.ref l]/\Bk bk o/\(zB o bk).length<=60/\gK H d (zB o bk)/\qQ H a lo hi hd tl ba to/\lo<=hi/\hi<=8/\hd.length<=8/\tl.length<=8/\H l=some (.lst (zD out))/\1+out.length<=900/\y0 T H/\gN bk/\LkOk bk o lo hi hd tl (1+out.length)/\
 ∀L H',zS T H H'->y0 T H'->vD (zB o bk) o 1 ((j4 (zB o bk) o lo hi hd tl).filter fun x=>decide (x∉out)) L->Q (gO L) H'
theorem zRq {f T:ao}{fd:aZ}(F:Fun K "heaviest_name" "heaviest_name" sHN f fd)(Y:zV P w K mg base 5 "heaviest_fitting" ["rows","order","wish","many","barred"] (zEv K T)):FnOk P w K mg base zZ 6 f fd ["rows","order","wish","barred"] (zJY K T):=by
 refine F.ok zJX (fun vs H Q E h=>?_) (fun Z A outer s H vs Q E O h=>?_)
 ·obtain⟨d,a,l,o,bk,lo,hi,hd,tl,W,to,out,rfl,_⟩:=h;rfl
 ·obtain⟨d,a,l,o,bk,lo,hi,hd,tl,W,to,out,rfl,hb,u,R,hw,y,C,G,I,hl,hn,tab,J,lk,k⟩:=h
  have nd:=zJX.nd
  have hu:=O.units
  refine⟨_,zM (yA (i:=4) nd rfl (Or.inl rfl) (zW Y O rfl (zC (pv 0) (zC (pv 1) (zC (pv 2) (zC zN (zC (pv 3) zE)))))))
   (zK (z0 (zCp (vA (zDG hu) (pv 4) (v6 zE) (yU _)) zCn (yH vX (yH vT (pv 4) zN (fun _ _=>rfl)) zN (fun _ _=>rfl))))),?_⟩
  refine⟨_,rfl,_,rfl,_,rfl,_,rfl,d,a,l,o,1,bk,lo,hi,hd,tl,W,to,out,rfl,hb,u,R,hw,y,C,G,I,hl,by decide,hn,tab,lk.hv,lk.sum,fun D e U B sx tb hD hU hT X=>?_⟩
  have q:vD (zB o bk) o 1 ((j4 (zB o bk) o lo hi hd tl).filter fun x=>decide (x∉out)) (B.map (·.2)):=⟨U,B,hU,hT,rfl⟩
  generalize B.map (·.2)=L at X q
  have l1:=q.len
  have g:∀x∈L,x.length<=8/\zBB (zB o bk) o x:=fun x r=>by
   have:=(aI.mp (q.sub r)).1
   obtain⟨a1,a2⟩:=(zEq (j3 o bk)).mp this
   exact⟨by have:=a1.2.1;omega,a2⟩
  have M:vW 8 (.list (zBc (zB o bk) o L)):=zRp (fun x r=>⟨by have:=(g x r).1;omega,fun c hc=>by rcases zJW J (g x r).2 c hc with z|z|z<;>omega⟩) (by omega)
  refine⟨_,rfl,bo _,fun b N=>?_⟩
  have t:zA e (upd e b (.lst [])):=zA.upd1 N
  have m:upd e b (.lst []) b=some (.lst []):=zF
  have L2:=X.same t
  have n:=vU tb t
  have p:zS T H (upd e b (.lst [])):=sx.trans (zS.of t)
  generalize upd e b (.lst [])=H2 at t m L2 n p
  refine⟨.list (zBc (zB o bk) o L),.list [],zRo L2,⟨b,[],rfl,.of m,rfl⟩,M.sh (by decide),rfl,_,rfl,?_⟩
  have kk:=k L H2 p n q
  obtain⟨ts,q1,q2⟩:=zCj.mp L2
  cases L with
  |nil=>exact qT kk
  |cons x L=>
   obtain⟨c,v,e1,e2,e3⟩:=q2.2 0 x rfl
   refine vB ⟨_,rfl,D,ts,0,.ref c,rfl,rfl,.of q1,?_,c,_,1,sv x,rfl,rfl,e2,rfl,kk⟩
   exact zAB (j:=0) e1
end
noncomputable def zJZ (o:Nat):List (Str×V):=[("order",.int o)]
noncomputable def zBE (o:Nat)(t:ao):List (Str×V):=[("order",.int o),("told",.ref t)]
noncomputable def qZ (o:Nat)(t g:ao):List (Str×V):=[("order",.int o),("told",.ref t),("gone",.ref g)]
structure KpAt (H:Hp) (C k dx t g:ao) (o:Nat) (bk gn:List S):Prop where
 ins:H k=some (.ins C dx (qZ o t g))
 tld:H t=some (.tup (zD bk))
 gon:H g=some (.lst (zD gn))
structure KpC (K:ag) (C:ao):Prop where
 cls:Cls K C
 ord:kB K C "order"
 tld:kB K C "told"
 gon:kB K C "gone"
section
variable{P:aH}{w:aW}{K:ag}{mg:Str->Option ai}{base:bB}
noncomputable abbrev zEz:cT:=inClass (top 65) 0
theorem zRr:FnScope ["self","order"] ["self","order"] (defScope zEz):=z9
noncomputable def zCk (C:ao):Sp:=fun vs H Q _=>∃(k dx:ao) (o:Nat),vs=[.ref k,.int o]/\H k=some (.ins C dx [])/\1<=o/\o<=3/\
 ∀t g H',zS k H H'->H t=none->H g=none->KpAt H' C k dx t g o [] []->Q .non H'
theorem zRs {f C:ao}{fd:aZ}(F:Fun K "__init__" "Keeper.__init__" zEz f fd)(c:KpC K C)(R:zV P w K mg base 3 "need_order" ["thing"] zDc):FnOk P w K mg base zZ 4 f fd ["self","order"] (zCk C):=by
 refine F.ok zRr (fun vs H Q E h=>?_) (fun T A outer s H vs Q E U h=>?_)
 ·obtain⟨k,a,o,rfl,_⟩:=h;rfl
 ·obtain⟨k,a,o,rfl,W,o1,o3,X⟩:=h
  refine⟨_,zM (v5 (zW R U rfl (zC (pv 1) zE))) (zM (zBK (pv 0) (pv 1) rfl) (zM (zBK (pv 0) (uN zE) rfl) (zK (zBK (pv 0) (v6 zE) rfl)))),?_⟩
  refine⟨_,rfl,o,rfl,o1,o3,?_⟩
  refine⟨_,rfl,_,rfl,k,C,a,[],rfl,W,c.cls,c.ord,by decide,?_⟩
  have j:zS k H (upd H k (.ins C a (vM "order" (.int o) []))):=vS
  have p:upd H k (.ins C a (vM "order" (.int o) [])) k=some (.ins C a (zJZ o)):=zF
  generalize upd H k (.ins C a (vM "order" (.int o) []))=l at j p
  refine⟨bo _,fun t d=>?_⟩
  have tk:t≠k:=fun z=>by rw[z,p]at d;cases d
  have q:zS k l (upd l t (.tup [])):=zS.of (zA.upd1 d)
  have B:upd l t (.tup []) t=some (.tup []):=zF
  have D:=(zA.upd1 (o:=.tup []) d) _ _ p
  generalize upd l t (.tup [])=m at q B D
  refine⟨_,rfl,k,C,a,_,rfl,D,c.cls,c.tld,by show 1<1000;decide,?_⟩
  have Y:vM "told" (.ref t) (zJZ o)=zBE o t:=rfl
  rw[Y]
  have n:zS k m (upd m k (.ins C a (zBE o t))):=vS
  have r:upd m k (.ins C a (zBE o t)) k=some (.ins C a (zBE o t)):=zF
  have G:=n _ _ tk B
  generalize upd m k (.ins C a (zBE o t))=i at n r G
  refine⟨bo _,fun g e=>?_⟩
  have I:g≠k:=fun z=>by rw[z,r]at e;cases e
  have J:zS k i (upd i g (.lst [])):=zS.of (zA.upd1 e)
  have L:upd i g (.lst []) g=some (.lst []):=zF
  have M:=(zA.upd1 (o:=.lst []) e) _ _ r
  have N:=(zA.upd1 (o:=.lst []) e) _ _ G
  generalize upd i g (.lst [])=O at J L M N
  refine⟨_,rfl,k,C,a,_,rfl,M,c.cls,c.gon,by show 2<1000;decide,?_⟩
  have Z:vM "gone" (.ref g) (zBE o t)=qZ o t g:=rfl
  rw[Z]
  have v:zS k O (upd O k (.ins C a (qZ o t g))):=vS
  have fr:∀{b:ao},b≠k->i b=none->H b=none:=fun{b} x h=>by
   cases z:H b with
   |none=>rfl
   |some u=>rw[n _ _ x (q _ _ x (j _ _ x z))]at h;cases h
  have y:H t=none:=by
   cases z:H t with
   |none=>rfl
   |some u=>rw[j _ _ tk z]at d;cases d
  exact X t g _ (j.trans (q.trans (n.trans (J.trans v)))) y (fr I e) ⟨zF,v _ _ tk N,v _ _ I L⟩
noncomputable abbrev zFA:cT:=inClass (top 65) 1
theorem zRt:FnScope ["self"] ["self"] (defScope zFA):=z9
noncomputable def zFB (C:ao):Sp:=fun vs H Q _=>∃(k dx t g:ao) (o:Nat) (bk gn:List S),vs=[.ref k]/\KpAt H C k dx t g o bk gn/\Q (.ref t) H
theorem zRu {f C:ao}{fd:aZ}(F:Fun K "book" "Keeper.book" zFA f fd)(a:KpC K C):FnOk P w K mg base zZ 1 f fd ["self"] (zFB C):=by
 refine F.ok zRt (fun vs H Q E h=>?_) (fun c A outer s H vs Q E i h=>?_)
 ·obtain⟨k,b,t,g,o,bk,d,rfl,_⟩:=h;rfl
 ·obtain⟨k,b,t,g,o,bk,d,rfl,kp,e⟩:=h
  refine⟨_,zK (z0 (qD (pv 0) rfl)),?_⟩
  exact⟨_,rfl,k,C,b,_,_,rfl,kp.ins,a.cls,a.tld,rfl,e⟩
noncomputable abbrev zFC:cT:=inClass (top 65) 2
theorem zRv:FnScope ["self"] ["self"] (defScope zFC):=z9
noncomputable def zFD (C:ao):Sp:=fun vs H Q _=>∃(k dx t g:ao) (o:Nat) (bk gn:List S),vs=[.ref k]/\KpAt H C k dx t g o bk gn/\∀l,H l=none->Q (.ref l) (upd H l (.lst (zD gn)))
theorem zRw {f C:ao}{fd:aZ}(F:Fun K "given" "Keeper.given" zFC f fd)(b:KpC K C)(a:mg "list"=none):FnOk P w K mg base zZ 1 f fd ["self"] (zFD C):=by
 refine F.ok zRv (fun vs H Q E h=>?_) (fun d A outer s H vs Q E j h=>?_)
 ·obtain⟨k,c,t,g,o,bk,e,rfl,_⟩:=h;rfl
 ·obtain⟨k,c,t,g,o,bk,e,rfl,kp,i⟩:=h
  refine⟨_,zK (z0 (zAA zGC (by rfl) a eG (zC (qD (pv 0) rfl) zE))),?_⟩
  exact⟨_,rfl,k,C,c,_,_,rfl,kp.ins,b.cls,b.gon,rfl,g,_,rfl,.inl (.of kp.gon),i⟩
noncomputable abbrev zFE:cT:=inClass (top 65) 3
theorem zJa:FnScope ["self","name","longer"] ["self","name"] (defScope zFE):=z9
noncomputable def zFF (C:ao):Sp:=fun vs H Q _=>∃(k dx t g:ao) (o:Nat) (bk gn:List S) (x:S),vs=[.ref k,sv x]/\KpAt H C k dx t g o bk gn/\v1 x/\bk.length<8/\(∀y∈bk,v1 y)/\
 ∀t' H',zS k H H'->KpAt H' C k dx t' g o (bk++[x]) gn->Q (.int ((bk.length+1:Nat):Int)) H'
theorem zRx {f C:ao}{fd:aZ}(F:Fun K "hear" "Keeper.hear" zFE f fd)(B:Blt mg)(p:KpC K C)(R:zV P w K mg base 2 "need_name" ["thing"] zCD)(T:zV P w K mg base 3 "need_book" ["thing"] zCC):FnOk P w K mg base zZ 4 f fd ["self","name"] (zFF C):=by
 refine F.ok zJa (fun vs H Q E h=>?_) (fun U A outer s H vs Q E L h=>?_)
 ·obtain⟨k,c,t,g,o,bk,W,x,rfl,_⟩:=h;rfl
 ·obtain⟨k,c,t,g,o,bk,W,x,rfl,kp,M,h8,hn,X⟩:=h
  have nd:=zJa.nd
  have Y:=L.mono (j:=2) (by decide)
  refine⟨_,zM (v5 (zW R Y rfl (zC (pv 1) zE))) (zM (yA (i:=2) nd rfl (Or.inl rfl) (zT zBA (qD (pv 0) rfl) (uN (zC (pv 1) zE))))
   (zM (v5 (zW T L rfl (zC (pv 2) zE))) (zM (zBK (pv 0) (pv 2) rfl) (zK (z0 (yL jD (by rfl) B.len bM (zC (pv 2) zE))))))),?_⟩
  refine⟨_,rfl,x,rfl,M,fun q v=>?_⟩
  refine⟨_,rfl,k,C,c,_,_,rfl,v _ _ kp.ins,p.cls,p.tld,rfl,_,rfl,by show 1<=sizeLine;decide,fun m Z=>?_⟩
  have D:zA q (upd q m (.tup [sv x])):=zA.upd1 Z
  have l:upd q m (.tup [sv x]) m=some (.tup [sv x]):=zF
  generalize upd q m (.tup [sv x])=H2 at D l
  have bl:(zD bk).length=bk.length:=by unfold zD;rw[ah]
  refine⟨t,m,_,_,rfl,rfl,D _ _ (v _ _ kp.tld),l,by rw[aL,bl];show bk.length+1<=_;omega,fun t' H3 s3 d=>?_⟩
  have e1:zD bk++[sv x]=zD (bk++[x]):=by unfold zD;rw[aU];rfl
  rw[e1]at d
  have G:isBk (bk++[x]):=⟨by rw[aw,bW];omega,by rw[aw,bW];omega,fun y hy=>(bz.mp hy).elim (hn y) fun z=>by rw[aM.mp z];exact M⟩
  refine⟨_,rfl,t',bk++[x],rfl,d,G,fun n I=>?_⟩
  have a:=(v.trans D).trans (s3.trans I)
  refine⟨_,rfl,_,rfl,k,C,c,_,rfl,a _ _ kp.ins,p.cls,p.tld,by show 3<1000;decide,?_⟩
  have e2:vM "told" (.ref t') (qZ o t g)=qZ o t' g:=rfl
  rw[e2]
  have tk:∀{b:ao} {u:HO},n b=some u->(∀C c fs,u≠.ins C c fs)->b≠k:=fun{b u} e hu z=>by
   rw[z,a _ _ kp.ins]at e
   exact hu _ _ _ (aB e).symm
  have r:zS k n (upd n k (.ins C c (qZ o t' g))):=vS
  have J:=r _ _ (tk (I _ _ d) fun _ _ _=>nofun) (I _ _ d)
  have N:=r _ _ (tk (a _ _ kp.gon) fun _ _ _=>nofun) (a _ _ kp.gon)
  have O:upd n k (.ins C c (qZ o t' g)) k=some (.ins C c (qZ o t' g)):=zF
  generalize upd n k (.ins C c (qZ o t' g))=H5 at r J N O
  refine⟨_,rfl,t',_,rfl,.inr (.of J),?_⟩
  have e3:((zD (bk++[x])).length:Int)=((bk.length+1:Nat):Int):=by unfold zD;rw[ah,aw];rfl
  rw[e3]
  exact X t' H5 ((zS.of a).trans r) ⟨O,J,N⟩
noncomputable abbrev sGL:cT:=inClass (top 65) 6
theorem zJb:FnScope ["self","wish","barred","name"] ["self","wish"] (defScope sGL):=z9
noncomputable def zCl (T C:ao):Sp:=fun vs H Q _=>∃(k dx t g a:ao) (o:Nat) (bk gn:List S) (lo hi:Nat) (hd tl:S) (ba:List S) (to:Bool),vs=[.ref k,.ref a]/\KpAt H C k dx t g o bk gn/\Bk bk o/\gN bk/\(zB o bk).length<=60/\qQ H a lo hi hd tl ba to/\GW lo hi hd tl ba/\gn.length<=100/\y0 T H/\
 (∀j,j<=ba.length+bk.length+gn.length->LkOk bk o lo hi hd tl (1+j))/\
 ∀L H',(∀b u,b≠T->b≠g->H b=some u->H' b=some u)->y0 T H'->vD (zB o bk) o 1 ((qY o bk lo hi hd tl ba to).filter fun x=>decide (x∉gn)) L->H' g=some (.lst (zD (gn++L)))->Q (gO L) H'
theorem zRy {f T C:ao}{fd:aZ}(F:Fun K "give_likeliest" "Keeper.give_likeliest" sGL f fd)(c:KpC K C)(cB:zV P w K mg base 3 "need_book" ["thing"] zCC)(cW:zV P w K mg base 4 "need_wish" ["thing"] zEw)
  (cO:zV P w K mg base 1 "left_out" ["book","wish"] zEt) (cR:zV P w K mg base 3 "counted_rows" ["book","order"] zCG) (cH:zV P w K mg base 6 "heaviest_name" ["rows","order","wish","barred"] (zJY K T)):FnOk P w K mg base zZ 7 f fd ["self","wish"] (zCl T C):=by
 refine F.ok zJb (fun vs H Q E h=>?_) (fun an A outer s H vs Q E M h=>?_)
 ·obtain⟨k,n,t,g,a,o,bk,d,lo,hi,hd,tl,y,to,rfl,_⟩:=h;rfl
 ·obtain⟨k,n,t,g,a,o,bk,d,lo,hi,hd,tl,y,to,rfl,kp,r,Y,Z,hw,N,al,tab,lk,kQ⟩:=h
  have nd:=zJb.nd
  have r1:=M.mono (j:=1) (by decide)
  have r3:=M.mono (j:=3) (by decide)
  have r4:=M.mono (j:=4) (by decide)
  refine⟨_,zM (v5 (zW cB r3 rfl (zC (qD (pv 0) rfl) zE))) (zM (v5 (zW cW r4 rfl (zC (pv 1) zE)))
   (zM (yA (i:=2) nd rfl (Or.inl rfl) (zT zDC (zW cO r1 rfl (zC (qD (pv 0) rfl) (zC (pv 1) zE))) (qD (pv 0) rfl)))
   (zM (yA (i:=3) nd rfl (Or.inl rfl) (zW cH M rfl (zC (zW cR r3 rfl (zC (qD (pv 0) rfl) (zC (qD (pv 0) rfl) zE))) (zC (qD (pv 0) rfl) (zC (pv 1) (zC (pv 2) zE))))))
   (zM (yR (vA zKr (pv 3) zCn (yU _)) (zK (v5 (kJ dN lU lV zGH (qD (pv 0) rfl) (zC (pv 3) zE)))) yQ)
   (zK (z0 (pv 3))))))),?_⟩
  refine⟨_,rfl,k,C,n,_,_,rfl,kp.ins,c.cls,c.tld,rfl,t,bk,rfl,kp.tld,r.toisBk,fun H1 s1=>?_⟩
  refine⟨_,rfl,a,lo,hi,hd,tl,y,to,rfl,hw.same s1,N,fun H2 aa=>?_⟩
  have O:=s1.trans aa
  refine⟨_,rfl,k,C,n,_,_,rfl,O _ _ kp.ins,c.cls,c.tld,rfl,_,rfl,t,a,bk,lo,hi,hd,tl,y,to,rfl,O _ _ kp.tld,r.hi,hw.same O,N.len,fun l out U ab ap hl B ac am=>?_⟩
  have s3:=O.trans ab
  have ol:(zD out).length=out.length:=by unfold zD;rw[ah]
  have gl:(zD d).length=d.length:=by unfold zD;rw[ah]
  have as:=r.hi
  have ax:=N.len
  refine⟨_,rfl,k,C,n,_,_,rfl,s3 _ _ kp.ins,c.cls,c.gon,rfl,l,g,_,_,rfl,rfl,hl,s3 _ _ kp.gon,by rw[aL,ol,gl];omega,fun p hp=>?_⟩
  have e1:zD out++zD d=zD (out++d):=by unfold zD;rw[aU]
  rw[e1]
  have D:zA U (upd U p (.lst (zD (out++d)))):=zA.upd1 hp
  have p4:upd U p (.lst (zD (out++d))) p=some (.lst (zD (out++d))):=zF
  generalize upd U p (.lst (zD (out++d)))=H4 at D p4
  have W:=s3.trans D
  refine⟨_,rfl,k,C,n,_,_,rfl,W _ _ kp.ins,c.cls,c.tld,rfl,_,rfl,k,C,n,_,_,rfl,W _ _ kp.ins,c.cls,c.ord,rfl,t,bk,o,rfl,W _ _ kp.tld,r.hi,r.l8,r.o1,fun dr H5 G aK R=>?_⟩
  have v:=W.trans G
  obtain⟨l',h',aN,a0,hl1,a1,a2,a3,a4⟩:=N.nats
  refine⟨_,rfl,k,C,n,_,_,rfl,v _ _ kp.ins,c.cls,c.ord,rfl,_,rfl,_,rfl,dr,a,p,o,bk,lo,hi,hd,tl,y,to,out++d,rfl,r,Z,R,hw.same v,by omega,by omega,by omega,by omega,G _ _ p4,by rw[aw];omega,vU tab v,Y,lk _ (by rw[aw];omega),fun L H6 m I hS=>?_⟩
  have J:vD (zB o bk) o 1 ((qY o bk lo hi hd tl y to).filter fun x=>decide (x∉d)) L:=hS.mem fun x=>by
   unfold qY
   rw[aI,aI,aI,<-B x]
   simp[and_assoc]
  have gT:g≠T:=jQ tab kp.gon fun _=>nofun
  have kT:k≠T:=jQ tab kp.ins fun _=>nofun
  have X:=m _ _ gT (v _ _ kp.gon)
  have k6:=m _ _ kT (v _ _ kp.ins)
  have l1:=hS.len
  refine⟨_,rfl,rfl,_,rfl,?_⟩
  match L,l1 with
  | [],_=>
   refine jX rfl ⟨_,rfl,?_⟩
   exact kQ [] H6 (fun b u h1 h2 e=>m _ _ h1 (v _ _ e)) I J (by rw[dC];exact X)
  | [x],_=>
   refine zHT (by show ¬sv x=V.non;exact fun z=>by cases z) ?_
   refine⟨_,rfl,k,C,n,_,_,rfl,k6,c.cls,c.gon,rfl,.inl ⟨rfl,_,.of X⟩,_,rfl,g,_,_,rfl,rfl,X,by rw[gl,aL];omega,_,rfl,?_⟩
   have e2:zD d++[sv x]=zD (d++[x]):=by unfold zD;rw[aU];rfl
   refine kQ [x] _ (fun b u h1 h2 e=>(zG h2).trans (m _ _ h1 (v _ _ e))) ?_ J (by rw[zF];exact congrArg (fun z=>some (HO.lst z)) e2)
   rcases I with z|⟨c',oc,u,vs,tk,z1,z2,z3⟩
   ·exact .inl ((zG (dz gT)).trans z)
   ·refine .inr ⟨c',oc,u,vs,tk,(zG (dz gT)).trans z1,(zG ?_).trans z2,z3⟩
    intro q
    rw[q,X]at z2;cases z2
end
end Kn.Ln
end
section
namespace L2
open PySem PySem.Spec PyProof.Rows
theorem zJc {xs:Nat->Int}:∀(n i:Nat),i<=n->xs i<=xs (argBest (fun i j=>decide (xs j<xs i)) n)
 |0,i,h=>by
  have:i=0:=by omega
  subst this
  exact va _
 |n+1,i,h=>by
  have ih:=zJc (xs:=xs) n
  show xs i<=xs (if decide (xs (argBest (fun i j=>decide (xs j<xs i)) n)<xs (n+1))=true then n+1 else argBest (fun i j=>decide (xs j<xs i)) n)
  generalize argBest (fun i j=>decide (xs j<xs i)) n=b at ih⊢
  by_cases c:xs b<xs (n+1)
  ·rw[if_pos (decide_eq_true c)]
   by_cases e:i=n+1
   ·subst e;exact va _
   ·have:=ih i (by omega);omega
  ·rw[if_neg (by simpa using c)]
   by_cases e:i=n+1
   ·subst e;omega
   ·exact ih i (by omega)
section
variable{X:Cx}
theorem zRz (J:X.calm=true):uU X (.builtin "max") (fun xs H Q=>∃(p:ao) (ns:List Int),xs=[.ref p]/\z6 X.K H p (ns.map V.int)/\ns≠[]/\∀m,m∈ns->(∀u∈ns,u<=m)->Q (.int m) H):=by
 intro D s σ H xs us Q I r h
 obtain⟨p,ns,rfl,L,y,q⟩:=h
 obtain⟨u,rfl,M⟩:=uM r
 cases M
 obtain⟨its,E,pl,hz⟩:=I.list L
 have hl:its.length=ns.length:=by have:=E.length;simpa using this.symm
 have N:p≠s.heap.objs.size:=by
  obtain⟨o,n,e,_⟩:=pl
  exact aV (aD e)
 have g:0<ns.length:=List.length_pos_iff.mpr y
 have d:∀(i:Nat) (v:ai),its.toArray[i]?=some v->∃tk,v=.int (ns.getD i 0) tk:=fun i v e=>by
  have F:its[i]?=some v:=by simpa using e
  have hi:i<ns.length:=by rw[<-hl];exact(ak.mp F).1
  obtain⟨u,e1,O⟩:=E.get (i:=i) (x:=.int (ns.getD i 0)) (by rw[az];simp[hi])
  rw[F]at e1
  cases e1
  exact O
 refine call_max_walk (e8 pl.isList ?_)
 have z:p<s.heap.objs.size:=by
  obtain⟨o,n,e,_⟩:=pl
  exact aD e
 refine⟨s.heap.objs.size,_,_,its.toArray.size,_,_,fun i j=>decide (ns.getD j 0<ns.getD i 0),rfl,oN (A:=X.A.in1) (I.ok.hd J) _ p N its.toArray,⟨⟨_,aC _ rfl,rfl,rfl⟩,?_⟩,fun c f=>?_,by rw[aG,hl];exact g,fun i j P R s' Q' E' hi T U=>?_,fun v h' tk G W=>?_⟩
 ·exact pl.isList.at fun o e=>ae _ e
 ·show c<(s.heap.push _).objs.size
  rw[br]
  rcases aE.mp f with rfl|f
  ·exact cQ _
  ·rcases aE.mp f with rfl|f
   ·exact bH z
   ·cases f
 ·obtain⟨a,rfl⟩:=d i P hi
  obtain⟨b,rfl⟩:=d j R T
  exact gt_int U
 ·have l:∀c o,s.heap.get? c=some o->h'.get? c=some o:=fun c o e=>by
   refine W c o (fun w=>?_) (ae _ e)
   have B:=aD e
   have:c=s.heap.objs.size:=by simpa using w
   exact absurd B (by rw[this];exact bI _)
  have hsz:its.toArray.size=ns.length:=by rw[aG,hl]
  rw[hsz]at G
  obtain⟨C,e⟩:=d _ v G
  have Y:=zIV (fun i j=>decide (ns.getD j 0<ns.getD i 0)) (ns.length-1)
  have w:=zJc (xs:=fun i=>ns.getD i 0) (ns.length-1)
  generalize argBest (fun i j=>decide (ns.getD j 0<ns.getD i 0)) (ns.length-1)=b at Y w e
  have t:b<ns.length:=by omega
  refine⟨.int (ns.getD b 0),H,I.kept l,⟨C,e⟩,q _ ?_ fun u Z=>?_⟩
  ·rw[bL,ay t];exact c6 t
  ·obtain⟨i,hi,rfl⟩:=c7 Z
   have:=w i (by omega)
   have e1:ns.getD i 0=ns[i]:=by simp[hi]
   rw[e1]at this
   exact this
end
end L2
end
section
namespace Kn.Ln
open PySem L2 Kn
theorem zJd {c A B:Prop} [Decidable c] (a:c)(h:A):if decide c=true then A else B:=by
 rw[if_pos (decide_eq_true a)];exact h
section
variable{P:aH}{w:aW}{K:ag}{mg:Str->Option ai}{base:bB}
noncomputable abbrev zFG:cT:=inClass (top 65) 4
theorem zJe:FnScope ["self","name","last"] ["self","name"] (defScope zFG):=z9
theorem zJf:(["name","place","told"]:List Str).Nodup:=by decide+kernel
noncomputable def zFH (C:ao):Sp:=fun vs H Q _=>∃(k dx t g:ao) (o:Nat) (bk gn:List S) (x:S),vs=[.ref k,sv x]/\KpAt H C k dx t g o (bk++[x]) gn/\v1 x/\bk.length<8/\
 ∀t' H',zS k H H'->KpAt H' C k dx t' g o bk gn->Q .non H'
theorem zSA {f C:ao}{fd:aZ}(F:Fun K "forget" "Keeper.forget" zFG f fd)(ac:mg "max"=none)(al:mg "enumerate"=none)(l:KpC K C)(cN:zV P w K mg base 2 "need_name" ["thing"] zCD):FnOk P w K mg base zZ 3 f fd ["self","name"] (zFH C):=by
 refine F.ok zJe (fun vs H Q E h=>?_) (fun ap A outer s H vs Q E hr h=>?_)
 ·obtain⟨k,n,t,g,o,bk,gn,x,rfl,_⟩:=h;rfl
 ·obtain⟨k,n,t,g,o,bk,gn,x,rfl,kp,hx,h8,kQ⟩:=h
  have nd:=zJe.nd
  refine⟨_,zM (v5 (zW cN hr rfl (zC (pv 1) zE))) (zM (yR (vA zDB (pv 1) (qD (pv 0) rfl) (by with_unfolding_all rfl)) (zK zAY) yQ)
   (zM (yA (i:=2) nd rfl (Or.inl rfl) (yL (zRz rfl) (by rfl) ac nB (zC (uD (N:=["name","place","told"]) (caps:=[1]) rfl (v9 (by kernel_rfl)) (zMu rfl al (zC (qD (pv 0) rfl) zE))
     (fun cl X s H ex=>gL K 2 rfl rfl (yY (z7 (i:=1) zJf rfl (Or.inl rfl)) (yY (z7 (i:=2) zJf rfl (Or.inl rfl)) qC)) rfl rfl) (fun cl X s H ex=>zGY (vA zAc (pv 2) (pv 0) (yU _))) (fun cl X s H ex=>pv 1)) zE)))
   (zK (zBK (pv 0) (zT zBA (kH zBa (qD (pv 0) rfl) jC (qJ (pv 2))) (kH zBa (qD (pv 0) rfl) (qJ (zT yS (pv 2) zN)) jC)) rfl)))),?_⟩
  refine⟨_,rfl,x,rfl,hx,fun H1 W=>?_⟩
  have bl:(zD (bk++[x])).length=bk.length+1:=by unfold zD;rw[ah,aw];rfl
  refine⟨_,rfl,_,rfl,k,C,n,_,_,rfl,W _ _ kp.ins,l.cls,l.tld,rfl,t,_,rfl,.inr (.of (W _ _ kp.tld)),rfl,zAv _,_,rfl,?_⟩
  rw[zAu,decide_eq_true (aX _ (bJ x))]
  refine vB ?_
  refine⟨_,rfl,k,C,n,_,_,rfl,W _ _ kp.ins,l.cls,l.tld,rfl,t,_,rfl,.of (W _ _ kp.tld),?_⟩
  refine zDQ (J:=zDP K t) (xs:=(bu (bk.length+1)).map fun(i:Nat)=>V.int (i:Int)) (ys:=zD (bk++[x])) (len:=bk.length+1) (Hk:=fun c=>c t=some (.tup (zD (bk++[x]))))
   (fun i c Y hi=>⟨zD (bk++[x]),(zD (bk++[x]))[i]'(by rw[bl];exact hi),.of Y,ay _⟩)
   (fun i c Y e=>⟨zD (bk++[x]),.of Y,by rw[bl];omega⟩)
   (fun i c y as Y ⟨T,y1,e1,e2,e3,e4⟩=>⟨T,.int i,y1,e1,e2,e3,by
    have h:=e4 _ (.of Y)
    have hi:i<bk.length+1:=by rw[<-bl];exact(ak.mp h).1
    rw[az,eC hi];rfl,e4 _ (.of Y)⟩)
   [some (sv x)] 2 (by omega) (fun i p c=>zA H1 c/\∃ns:List Int,p=ns.map V.int/\ns.length<=i/\(∀u∈ns,u<(i:Int))/\∀j:Nat,j<i->(bk++[x])[j]?=some x->(j:Int)∈ns)
   ⟨zA.refl _,[],rfl,aA _,(fun u B=>by cases B),fun j hj=>by omega⟩ (fun i p c _ h=>⟨h.1 _ _ (W _ _ kp.tld),by obtain⟨_,ns,rfl,h2,_⟩:=h;rw[ah];exact h2⟩) ?_ ?_
  ·rintro i y1 y2 T p c zs Nx hN Z aa hz ⟨sm,ns,rfl,hl,r,v⟩ hT
   obtain⟨z1,z2,rfl⟩:=ys2 hz
   have hi:i<bk.length+1:=by rw[<-bl];exact(ak.mp aa).1
   rw[az,eC hi]at Z
   have e1:y1=V.int (i:Int):=(aB Z).symm
   subst e1
   obtain⟨z,ez,rfl⟩:=zAS aa
   have t2:zA c (upd c T (.tup [.int (i:Int),sv z])):=zA.upd1 hT
   refine⟨T,_,rfl,.of zF,rfl,_,_,rfl,_,_,rfl,rfl,?_⟩
   refine⟨_,rfl,_,rfl,rfl,_,rfl,?_⟩
   by_cases G:z=x
   ·refine zJd (by rw[G]) ⟨_,rfl,hN _ _ [_,_] rfl ⟨sm.trans t2,ns++[(i:Int)],by rw[aU];rfl,by rw[aw,bW];omega,fun u B=>?_,fun j hj e=>?_⟩⟩
    ·rcases bz.mp B with q|q
     ·have:=r u q;omega
     ·rw[aM.mp q];omega
    ·by_cases I:j=i
     ·rw[I];exact aX _ (bJ _)
     ·exact b0 _ (v j (by omega) e)
   ·refine zAJ (fun e=>G (jJ (V.str.inj e))) (hN _ _ [_,_] rfl ⟨sm.trans t2,ns,rfl,by omega,fun u B=>by have:=r u B;omega,fun j hj e=>?_⟩)
    by_cases I:j=i
    ·rw[I,ez]at e
     exact absurd (aB e) G
    ·exact v j (by omega) e
  ·rintro p c ⟨sm,ns,rfl,hl,r,v⟩ D hD
   have a:(bk.length:Int)∈ns:=v bk.length (by omega) (by rw[aP (aA _),iO];rfl)
   have s2:zA H1 (upd c D (.lst (ns.map V.int))):=sm.trans (zA.upd1 hD)
   refine⟨D,ns,rfl,.of zF,(fun z=>by rw[z]at a;cases a),fun m hm ab=>?_⟩
   have em:m=(bk.length:Int):=by
    have a1:=ab _ a
    have a2:=r m hm
    omega
   subst em
   generalize upd c D (.lst (ns.map V.int))=H2 at s2
   have L:=W.trans s2
   refine⟨_,rfl,k,C,n,_,_,rfl,L _ _ kp.ins,l.cls,l.tld,rfl,_,rfl,bk.length,rfl,t,_,rfl,L _ _ kp.tld,fun p1 H3 s3 M=>?_⟩
   have O:=L.trans s3
   refine⟨_,rfl,k,C,n,_,_,rfl,O _ _ kp.ins,l.cls,l.tld,rfl,_,rfl,_,_,rfl,rfl,((bk.length+1:Nat):Int),rfl,t,_,rfl,O _ _ kp.tld,fun p2 H4 s4 R=>?_⟩
   have am:=O.trans s4
   rw[zRP]at M
   rw[zRQ]at R
   have e1:(zD (bk++[x])).take bk.length=zD bk:=by unfold zD;rw[aU,fM (by rw[ah];exact aA _),dR (by rw[ah];exact aA _)]
   have e2:(zD (bk++[x])).drop (bk.length+1)=[]:=mW (by rw[bl];exact aA _)
   rw[e1]at M
   rw[e2]at R
   have an:(zD bk).length=bk.length:=by unfold zD;rw[ah]
   refine⟨p1,p2,_,_,rfl,rfl,s4 _ _ M,R,by rw[aL,an];show bk.length+0<=_;omega,fun t' H5 s5 U=>?_⟩
   rw[dC]at U
   have d:=am.trans s5
   refine⟨_,rfl,k,C,n,_,rfl,d _ _ kp.ins,l.cls,l.tld,by show 3<1000;decide,?_⟩
   have e3:vM "told" (.ref t') (qZ o t g)=qZ o t' g:=rfl
   rw[e3]
   have tk:∀{b:ao} {u:HO},H5 b=some u->(∀C n fs,u≠.ins C n fs)->b≠k:=fun{b u} e B z=>by
    rw[z,d _ _ kp.ins]at e
    exact B _ _ _ (aB e).symm
   have x6:zS k H5 (upd H5 k (.ins C n (qZ o t' g))):=vS
   exact kQ t' _ ((zS.of d).trans x6) ⟨zF,x6 _ _ (tk U fun _ _ _=>nofun) U,x6 _ _ (tk (d _ _ kp.gon) fun _ _ _=>nofun) (d _ _ kp.gon)⟩
end
noncomputable def q8 (P:aH)(w:aW)(K:ag)(mg:Str->Option ai)(base:bB)(C:ao)(k:Nat)(m:Str)(ps:List Str)(sp:Sp):Prop :=
 ∃(f:ao) (fd:aZ),FnOk P w K mg base zZ k f fd ps sp/\Meth K C m f/\Cls K C/\v7 K fd ps []
theorem zAU {X:Cx}{C:ao}{k:Nat}{m:Str}{ps:List Str}{sp:Sp}{pl:Sem Bool}{apos pos:Pos}{o e:bF}{a:List bF}{h:TE}{t:TA}(M:q8 X.prog X.w X.K X.mg X.base C k m ps sp)(j:Room k X.A)(he:PE X o h)(ha:PA X (e::a) t)
  (d:starEach (e::a) X.env=(false,eval e X.env)::starEach a X.env:=by rfl) (g:(backTo pos (starEach a X.env)).any (·.1)=false:=by rfl)
  (l:eval (.Call (.Attribute o m apos) (e::a) [] pos) X.env=(do
   let i<-eval o X.env
   standAt apos.atName
   let(f,first)<-holding [i] (getMethod i m pl)
   callWith pos f first (backTo pos (starEach (e::a) X.env)) (backToKw pos (keywordEach [] X.env))):=by rfl) :
  PE X (.Call (.Attribute o m apos) (e::a) [] pos) (zBk C m sp [] E0 h t):=by
 obtain⟨f,fd,F,n,c,b⟩:=M
 exact zLL (pl:=pl) he c n F j b .nil zBs ha d g l
noncomputable def zFI (P:aH)(w:aW)(K:ag)(mg:Str->Option ai)(base:bB)(C:ao)(k:Nat)(x:Str)(ps:List Str)(sp:Sp):Prop :=
 ∃(f:ao) (fd:aZ),FnOk P w K mg base zZ k f fd ps sp/\Mk K C f/\mg x=some (.ref C)/\v7 K fd ps []
theorem zFJ {X:Cx}{C:ao}{k:Nat}{x:Str}{ps:List Str}{sp:Sp}{p pos:Pos}{e:bF}{a:List bF}{t:TA}(M:zFI X.prog X.w X.K X.mg X.base C k x ps sp)(g:Room (k+1) X.A)(h:Gl X x)(ha:PA X (e::a) t)
  (c:(x==("__debug__" : Str))=false:=by decide) (he:starEach (e::a) X.env=(false,eval e X.env)::starEach a X.env:=by rfl) (d:(backTo pos (starEach a X.env)).any (·.1)=false:=by rfl) :
  PE X (.Call (.Name x p) (e::a) [] pos) (zCx C sp [] E0 t):=by
 obtain⟨f,fd,F,mk,i,b⟩:=M
 exact zLO mk F g h i b .nil zBs ha c he d
end Kn.Ln
end
section
namespace L2
open PySem PySem.Spec PyProof.Rows
open MyS PySem.W
section
variable{prog:aH}{w:aW}{A:bK}{E:ai->aq->Prop}{s:aq}
theorem zSB:isSubtype (.type "list") (.type "set")=pure false:=by
 rw[fL];kernel_rfl
theorem zSC:isSubtype (.type "list") (.type "frozenset")=pure false:=by
 rw[fL];kernel_rfl
theorem zSD {C:bK}{R:oH->aq->Prop}{l:ao}{items:Array ai}{ks:List Str}(D:A.handled=none)(hl:s.heap.IsList l items)(d:items.size=ks.length)(hv:∀i v,items[i]?=some v->cU (ks.getD i ⟨#[]⟩) v=true)(m:ks.length+1<scanBound)
  (F:∀h' tk,qG prog w h' s.heap.objs.size ks->(∀b o,b<s.heap.objs.size->s.heap.get? b=some o->h'.get? b=some o)->R (.ok (.ret .none)) {s with heap:=h',toks:=tk}) :
  wpAny (model prog w) A (cJ.«set.__init__» ⟨[.ref s.heap.objs.size,.ref l],[]⟩) (fun fin s'=>match fin with| .done f=>R (.ok f) s'| .again u=>u.quiet=true/\codeAny (model prog w) C u R s') (fun e s'=>R (.error e) s') {s with heap:=s.heap.push (vH w)}:=by
 have new:(s.heap.push (vH w)).get? s.heap.objs.size=some (vH w):=aC _ rfl
 have ty:il {s with heap:=s.heap.push (vH w)} (.ref s.heap.objs.size) "set" :=⟨_,new,rfl⟩
 obtain⟨ol,g,h,nl,j⟩:=id hl
 obtain⟨y,c,p,a⟩:=ol
 simp only at h j
 subst h;subst j
 have old:(s.heap.push (vH w)).get? l=some {cls:=.type "list",dict:=c,data:=.seq items nl,slots:=a}:=ae _ g
 have L:=zSB
 have M:=zSC
 have N:(Value.type "list"==Value.type "dict")=false:=by decide
 have tl:(s.heap.push (vH w)).IsList l items:=⟨_,old,rfl,nl,rfl⟩
 unfold cJ.«set.__init__» noKeywords jo
 generalize q:pyIter=PI
 wp_walk
 subst q
 refine e8 tl (af (nS ?_))
 have z:l<s.heap.objs.size:=aD g
 have G:A.in1.handled=none:=by simp[D]
 have ne:l≠(s.heap.push (vH w)).objs.size:=by
  rw[br]
  exact aV (bH z)
 have H:s.heap.objs.size∉ [(s.heap.push (vH w)).objs.size,l]:=by
  rw[br]
  simp only[aE,aM,dj,or_false,not_or]
  exact⟨aV (cQ _),cw z⟩
 have B:=(oN (prog:=prog) (w:=w) (A:=A.in1) G _ l ne items).toS
 rw[d]at B
 refine zIX B s.heap.objs.size H hv m (ks.length-0) 0 _ (by omega) (bo _) ?st0 ?x0 fun s' n x=>?_
 case st0=>exact⟨⟨_,aC _ rfl,rfl,rfl⟩,tl.push _⟩
 case x0=>exact zIY prog w (ae _ new)
 obtain⟨h',g',d',r,t⟩:=s'
 obtain rfl:g'=s.gens:=n.gens
 obtain rfl:d'=s.drawn:=n.drawn
 obtain rfl:t=s.os:=n.os
 refine ar ?_
 refine ar (F h' r x fun b o m e=>?_)
 have I:b≠s.heap.objs.size:=aV m
 have J:b≠(s.heap.push (vH w)).objs.size:=by
  rw[br]
  exact aV (bH m)
 refine n.heap b o ?_ (ae _ (ae _ e))
 simp only[aE,aM,dj,or_false,not_or]
 exact⟨I,J⟩
theorem zSE {l:ao}{items:Array ai}{ks:List Str}{Q:ai->aq->Prop}(j:A.handled=none)(hl:s.heap.IsList l items)(d:items.size=ks.length)(hv:∀i v,items[i]?=some v->cU (ks.getD i ⟨#[]⟩) v=true)(m:ks.length+1<scanBound)
  (h:∀h' tk,qG prog w h' s.heap.objs.size ks->(∀b o,b<s.heap.objs.size->s.heap.get? b=some o->h'.get? b=some o)->Q (.ref s.heap.objs.size) {s with heap:=h',toks:=tk}) :
  wpAny (model prog w) A (call (.type "set") [.ref l]) Q E s:=by
 obtain⟨t,n,u⟩:=cZ.mro
 have y:=cZ.made
 have z:=cZ.sub
 refine mC (nh (?_:wpAny _ _ (callAny (.type "set") _) _ _ _))
 refine ar (And.intro (oQ _ (by decide+kernel)) (dW pM ?_))
 rw[oR (nv "set" [Value.ref l] []) rfl]
 have B:=cZ.notType
 have C:=cZ.canCreate
 have D:=qi (.ref l)
 all_goals (repeat(any_goals (first|assumption|wp_step)))
 refine eE (zIZ (w:=w) (.ref l) (E:=E) (Q₁:=fun v f=>v=.ref s.heap.objs.size/\f={s with heap:=s.heap.push (vH w)}) ⟨rfl,rfl⟩) fun r f c=>?_
 match r,c with
 | .error e,c=>exact c
 | .ok (.ret v),c=>
  obtain⟨rfl,rfl⟩:=c
  have ty:il {s with heap:=s.heap.push (vH w)} (.ref s.heap.objs.size) "set" :=⟨_,aC _ rfl,rfl⟩
  have F:=cZ.init.lookup
  have G:=cZ.init.bind (.ref s.heap.objs.size)
  all_goals (repeat(any_goals (first|assumption|wp_step)))
  refine eE (nU (R:=wants (fun q g=>q=.none/\∃h' tk,g={s with heap:=h',toks:=tk}/\qG prog w h' s.heap.objs.size ks/\∀b o,b<s.heap.objs.size->s.heap.get? b=some o->h'.get? b=some o) E)
   cZ.init.plain qj (qk ty (zSD (by simp[j]) hl d hv m fun h' tk x k=>⟨rfl,h',tk,rfl,x,k⟩))) fun p g a=>?_
  match p,a with
  | .error e,a=>exact a
  | .ok (.ret q),a=>
   obtain⟨rfl,h',tk,rfl,x,k⟩:=a
   all_goals (repeat(any_goals (first|assumption|wp_step)))
   exact h _ _ x k
  | .ok .next,a=>exact a.elim
  | .ok .brk,a=>exact a.elim
  | .ok .cont,a=>exact a.elim
 | .ok .next,c=>exact c.elim
 | .ok .brk,c=>exact c.elim
 | .ok .cont,c=>exact c.elim
end
noncomputable def zFK (K:ag)(x:V)(H:Hp)(Q:VK):Prop:=∃(p:ao) (ks:List Str),x=.ref p/\z6 K H p (ks.map V.str)/\ks.length<64/\ks.Nodup/\Q (.int (ks.length:Int)) H
noncomputable def zSF (K:ag)(t:TE):TE:=fun σ H Q=>t σ H fun x H1=>zFK K x H1 Q
theorem zJg {α:Type} [DecidableEq α]:∀(l L:List α),l.Nodup->(∀x∈l,x∈L)->l.length<=L.length
 | [],L,_,_=>bo _
 |x::l,L,hn,b=>by
  have c:=b x (au ..)
  have e:=zJg l (L.erase x) (bp.mp hn).2 fun y d=>by
   have a:y≠x:=fun z=>(bp.mp hn).1 (by rw[<-z];exact d)
   exact(gh a).mpr (b y (aj _ d))
  rw[iq c]at e
  have:=iP c
  rw[aJ];omega
section
variable{X:Cx}
theorem zSG {x y:Str}{e:bF}{M:TE}{p n pos c:Pos}(T:X.calm=true)(he:PE X e M)(U:Gl X x)(W:X.mg x=none)(hv:bootBuiltins x=some (.builtin "len"))(B:Gl X y)(C:X.mg y=none)(D:bootBuiltins y=some (.type "set"))
  (hn:x≠"__name__" :=by decide) (E:(x==("__debug__" : Str))=false:=by decide) (F:y≠"__name__" :=by decide) (g:(y==("__debug__" : Str))=false:=by decide)
  (N:starEach [e] X.env=(false,eval e X.env)::starEach [] X.env:=by rfl)
  (j:starEach [Expr.Call (.Name y n) [e] [] c] X.env=(false,eval (Expr.Call (.Name y n) [e] [] c) X.env)::starEach [] X.env:=by rfl) :
  PE X (.Call (.Name x p) [.Call (.Name y n) [e] [] c] [] pos) (zSF X.K M):=by
 intro l s σ H Q I h
 refine c9 (qB I U W hv ?_ hn E)
 refine fC ?_ j rfl
 rw[j]
 show wpAny _ _ (spliced ((false,eval (Expr.Call (.Name y n) [e] [] c) X.env)::backTo pos (starEach [] X.env))) _ _ s
 refine d7 ?_
 refine c9 (qB I B C D ?_ F g)
 refine bQ (zH (zC he zE N c l s σ H (fun xs o=>match xs with| [x]=>zFK X.K x o Q|_=>False) I h) fun us s1 zq=>?_) N rfl
 obtain⟨vs,o,O,Y,d⟩:=zq
 obtain⟨x,rfl,d⟩:∃x,vs=[x]/\zFK X.K x o Q:=by
  match vs,d with
  | [x],d=>exact⟨x,rfl,d⟩
  | [],d=>exact d.elim
  |_::_::_,d=>exact d.elim
 obtain⟨a,ks,rfl,G,Z,J,q⟩:=d
 obtain⟨u,rfl,ru⟩:=uM Y
 cases ru
 obtain⟨its,P,tp,_⟩:=O.list G
 have f:its.toArray.size=ks.length:=by have:=P.length;simp at this;simp[this]
 refine zSE (A:=X.A) (I.ok.hd T) tp.isList f (fun i v hv=>?_) (by unfold scanBound;omega) fun h' tk sk k=>?_
 ·have hi:i<ks.length:=by
   rw[<-f]
   exact(lq.mp hv).1
  obtain⟨u,e1,e2⟩:=P.get (i:=i) (x:=.str (ks.getD i ⟨#[]⟩)) (by rw[az];simp[hi])
  have r:its[i]?=some v:=by simpa using hv
  rw[e1]at r
  injection r with r
  subst r
  obtain⟨t,rfl⟩:=e2
  simp[cU]
 ·refine gb ?_
  have I2:=O.grown (tk:=tk) fun b u e=>k b u (aD e) e
  obtain⟨w,⟨ep,t,ho,_,aa,hf,_⟩,nd,m,L⟩:=sk
  have hsz:w.size=ks.length:=by
   have R:=zJg ks (u9 w) J fun z hz=>(m z).mpr hz
   have h2:(u9 w).length=w.size:=by unfold u9;simp
   rw[h2]at R
   exact Nat.le_antisymm L R
  refine call_len_set ho ⟨rfl,rfl,rfl⟩ rfl hf (by omega) ⟨.int (ks.length:Int),o,I2.tok _,⟨_,by rw[hsz]⟩,q⟩
end
end L2
end
section
namespace Kn.Ln
open PySem L2 Kn
theorem k7 {X:Cx}{C:ao}{k:Nat}{m:Str}{ps:List Str}{sp:Sp}{pl:Sem Bool}{apos pos:Pos}{o:bF}{a:TE}(M:q8 X.prog X.w X.K X.mg X.base C k m ps sp)(e:Room k X.A)(he:PE X o a)
  (g:eval (.Call (.Attribute o m apos) [] [] pos) X.env=(do
   let d<-eval o X.env
   standAt apos.atName
   let(f,first)<-holding [d] (getMethod d m pl)
   callWith pos f first (backTo pos (starEach [] X.env)) (backToKw pos (keywordEach [] X.env))):=by rfl) :
  PE X (.Call (.Attribute o m apos) [] [] pos) (zBk C m sp [] E0 a kG):=by
 obtain⟨f,fd,F,h,c,b⟩:=M
 exact zLM (pl:=pl) he c h F e b .nil zBs g
theorem vD.next {ps:List (S×S)}{o m k:Nat}{N L:List S}(h:vD ps o m N L)(v:k<m):vD ps o 1 (N.filter fun x=>decide (x∉L.take k)) ((L.drop k).take 1):=by
 have nd:=h.nd
 obtain⟨U,B,t,T,rfl⟩:=h
 have f:=T.srt
 rw[<-dw k B,nR]at f
 have j:∀q∈B.drop k,q.2∉(B.map (·.2)).take k:=fun q l u=>by
  rw[<-dw k (B.map (·.2)),fi]at nd
  exact nd.2.2 _ u _ (by rw[<-oA];exact av.mpr ⟨q,l,rfl⟩) rfl
 refine⟨U,(B.drop k).take 1,t,⟨f.2.1.sublist (fg _ _),by rw[aO];omega,fun q l=>?_,fun a ha=>?_⟩,by rw[iu,oA]⟩
 ·have d:=bN l
  obtain⟨n,g⟩:=y9.mp (T.sub q (gp d))
  exact y9.mpr ⟨aI.mpr ⟨n,decide_eq_true (j q d)⟩,g⟩
 ·obtain⟨n,g⟩:=y9.mp ha
  obtain⟨s,i⟩:=aI.mp n
  have i:=of_decide_eq_true i
  cases e:B.drop k with
  |nil=>
   rcases T.cmp a (y9.mpr ⟨s,g⟩)with z|⟨z,_⟩
   ·rw[<-dw k B,e,dC]at z
    exact absurd (by rw[<-iu];exact av.mpr ⟨a,z,rfl⟩) i
   ·have:=congrArg fc e
    rw[cc]at this
    simp at this;omega
  |cons b r=>
   show a∈[b]\/(1<=1/\∀c∈[b],yW c a)
   rw[e]at f
   rcases T.cmp a (y9.mpr ⟨s,g⟩)with z|⟨_,z⟩
   ·rw[<-dw k B,e]at z
    rcases bz.mp z with z|z
    ·exact absurd (by rw[<-iu];exact av.mpr ⟨a,z,rfl⟩) i
    ·rcases aE.mp z with z|z
     ·exact .inl (by rw[z];exact bJ b)
     ·exact .inr ⟨aA _,fun c p=>by rw[aM.mp p];exact(cj.mp f.2.1).1 a z⟩
   ·exact .inr ⟨aA _,fun c p=>by rw[aM.mp p];exact z b (gp (by rw[e];exact au ..))⟩
noncomputable def zBd:HO->Prop
 | .lst _=>True
 | .tup _=>True
 | .frz _ _=>True
 |_=>False
structure KpE (T C:ao) (o:Nat) (F:List (ao×HO)) (H:Hp) (k dx t g:ao) (B G:List S) (k' dx' t' g':ao) (B' G':List S):Prop where
 fx:∀p∈F,H p.1=some p.2/\zBd p.2/\p.1≠g/\p.1≠g'
 tb:y0 T H
 kp:KpAt H C k dx t g o B G
 kp':KpAt H C k' dx' t' g' o B' G'
 kk:k≠k'
 gg:g≠g'
section
variable{T C:ao}{o:Nat}{F:List (ao×HO)}{H H':Hp}{k dx t g k' dx' t' g':ao}{B G B' G':List S}
theorem KpE.sym (e:KpE T C o F H k dx t g B G k' dx' t' g' B' G'):KpE T C o F H k' dx' t' g' B' G' k dx t g B G :=
 ⟨fun p f=>let⟨a,b,c,d⟩:=e.fx p f;⟨a,b,d,c⟩,e.tb,e.kp',e.kp,e.kk.symm,e.gg.symm⟩
theorem KpAt.same {H H':Hp}(h:KpAt H C k dx t g o B G)(s:zA H H'):KpAt H' C k dx t g o B G:=⟨s _ _ h.ins,s _ _ h.tld,s _ _ h.gon⟩
theorem KpE.same (e:KpE T C o F H k dx t g B G k' dx' t' g' B' G')(s:zA H H'):KpE T C o F H' k dx t g B G k' dx' t' g' B' G' :=
 ⟨fun p c=>let⟨a,b⟩:=e.fx p c;⟨s _ _ a,b⟩,vU e.tb s,e.kp.same s,e.kp'.same s,e.kk,e.gg⟩
theorem jR {a b:ao}{u v:HO}(c:H a=some u)(d:H b=some v)(n:u≠v):a≠b:=fun z=>n (by rw[z,d]at c;exact(aB c).symm)
theorem zJh {T x:ao}(tb:y0 T H){u:HO}(a:H x=some u)(e:∀ps,u≠.tbl ps)(f:∀o v,u≠.frz o v)(s:∀b v,b≠x->H b=some v->H' b=some v):y0 T H':=by
 have c:T≠x:=fun z=>jQ tb a e z.symm
 rcases tb with z|⟨h,oc,v,vs,tk,i,d,j⟩
 ·exact .inl (s _ _ c z)
 ·exact .inr ⟨h,oc,v,vs,tk,s _ _ c i,s _ _ (jR d a fun q=>f _ _ q.symm) d,j⟩
theorem KpE.plain (e:KpE T C o F H k dx t g B G k' dx' t' g' B' G'){p:ao×HO}(b:p∈F):p.1≠k/\p.1≠k'/\p.1≠T:=by
 obtain⟨a,c,_⟩:=e.fx p b
 have np:∀{u:HO},¬zBd u->p.2≠u:=fun n z=>n (z▸c)
 exact⟨jR a e.kp.ins (np fun z=>z),jR a e.kp'.ins (np fun z=>z),jQ e.tb a fun ps=>np fun z=>z⟩
theorem KpE.one (e:KpE T C o F H k dx t g B G k' dx' t' g' B' G'){b:ao}{c:List S}(s:zS k H H')(n:KpAt H' C k dx b g o c G):KpE T C o F H' k dx b g c G k' dx' t' g' B' G':=by
 refine⟨fun p a=>⟨s _ _ (e.plain a).1 (e.fx p a).1,(e.fx p a).2⟩,zJh e.tb e.kp.ins (fun _=>nofun) (fun _ _=>nofun) s,n,⟨s _ _ e.kk.symm e.kp'.ins,s _ _ (jR e.kp'.tld e.kp.ins nofun) e.kp'.tld,s _ _ (jR e.kp'.gon e.kp.ins nofun) e.kp'.gon⟩,e.kk,e.gg⟩
theorem KpE.gave (e:KpE T C o F H k dx t g B G k' dx' t' g' B' G'){f:List S}(s:∀b u,b≠T->b≠g->H b=some u->H' b=some u)(tb:y0 T H')(n:H' g=some (.lst (zD f))):KpE T C o F H' k dx t g B f k' dx' t' g' B' G':=by
 have c:∀{a:ao} {u:HO},H a=some u->(∀ps,u≠.tbl ps)->a≠T:=fun h i=>jQ e.tb h i
 refine⟨fun p d=>⟨s _ _ (e.plain d).2.2 (e.fx p d).2.2.1 (e.fx p d).1,(e.fx p d).2⟩,tb,⟨s _ _ (c e.kp.ins fun _=>nofun) (jR e.kp.ins e.kp.gon nofun) e.kp.ins,s _ _ (c e.kp.tld fun _=>nofun) (jR e.kp.tld e.kp.gon nofun) e.kp.tld,n⟩,
  ⟨s _ _ (c e.kp'.ins fun _=>nofun) (jR e.kp'.ins e.kp.gon nofun) e.kp'.ins,s _ _ (c e.kp'.tld fun _=>nofun) (jR e.kp'.tld e.kp.gon nofun) e.kp'.tld,s _ _ (c e.kp'.gon fun _=>nofun) e.gg.symm e.kp'.gon⟩,e.kk,e.gg⟩
theorem KpE.add (e:KpE T C o F H k dx t g B G k' dx' t' g' B' G'){a:ao}{u:HO}(ha:H a=none)(f:zBd u):KpE T C o ((a,u)::F) (upd H a u) k dx t g B G k' dx' t' g' B' G':=by
 have s:zA H (upd H a u):=zA.upd1 ha
 have d:∀{b:ao} {v:HO},H b=some v->a≠b:=fun h z=>by rw[<-z,ha]at h;cases h
 refine⟨fun p c=>?_,vU e.tb s,e.kp.same s,e.kp'.same s,e.kk,e.gg⟩
 rcases aE.mp c with rfl|c
 ·exact⟨zF,f,d e.kp.gon,d e.kp'.gon⟩
 ·exact⟨s _ _ (e.fx p c).1,(e.fx p c).2⟩
theorem KpE.sub (e:KpE T C o F H k dx t g B G k' dx' t' g' B' G'){a:List (ao×HO)}(h:∀p∈a,p∈F):KpE T C o a H k dx t g B G k' dx' t' g' B' G':=⟨fun p b=>e.fx p (h p b),e.tb,e.kp,e.kp',e.kk,e.gg⟩
theorem KpE.tabX (e:KpE T C o F H k dx t g B G k' dx' t' g' B' G')(s:zS T H H')(tb:y0 T H'):KpE T C o F H' k dx t g B G k' dx' t' g' B' G':=e.gave (fun b u a _ h=>s _ _ a h) tb (s _ _ (jQ e.tb e.kp.gon fun _=>nofun) e.kp.gon)
theorem KpE.put {l:ao}{xs ys:List V}(e:KpE T C o ((l,.lst xs)::F) H k dx t g B G k' dx' t' g' B' G')(nl:∀p∈F,p.1≠l):KpE T C o ((l,.lst ys)::F) (upd H l (.lst ys)) k dx t g B G k' dx' t' g' B' G':=by
 obtain⟨c,j,d,f⟩:=e.fx _ (au ..)
 have s:∀b v,b≠l->H b=some v->upd H l (.lst ys) b=some v:=fun b v n h=>(zG n).trans h
 have kp:∀{k dx t g:ao} {B G:List S},KpAt H C k dx t g o B G->l≠g->KpAt (upd H l (.lst ys)) C k dx t g o B G:=fun h n=>⟨s _ _ (jR h.ins c nofun) h.ins,s _ _ (jR h.tld c nofun) h.tld,s _ _ n.symm h.gon⟩
 refine⟨fun p i=>?_,zJh e.tb c (fun _=>nofun) (fun _ _=>nofun) s,kp e.kp d,kp e.kp' f,e.kk,e.gg⟩
 rcases aE.mp i with rfl|a
 ·exact⟨zF,trivial,d,f⟩
 ·exact⟨s _ _ (nl p a) (e.fx p (aj _ a)).1,(e.fx p (aj _ a)).2⟩
theorem KpE.swap (e:KpE T C o F H k dx t g B G k' dx' t' g' B' G'){h f j g2:ao}{l m:List S}(s:zA H H')(v:H h=none)(q:H g2=none)(n:KpAt H' C h f j g2 o l m):KpE T C o F H' k dx t g B G h f j g2 l m:=by
 have i:∀{x y:ao} {u:HO},H x=some u->H y=none->x≠y:=fun r w z=>by rw[z,w]at r;cases r
 exact⟨fun p A=>let⟨a,b,c,d⟩:=e.fx p A;⟨s _ _ a,b,c,i a q⟩,vU e.tb s,e.kp.same s,n,i e.kp.ins v,i e.kp.gon q⟩
end
theorem zSH {B:List S}{o:Nat}(h:∀x∈B,x.length<=3):(zB o B).length<=4*B.length:=by
 have a:((zB o B).length:Int)<=4*(B.length:Int):=by
  rw[zBz]
  have go:∀l:List S,(∀x∈l,x.length<=3)->(l.map fun x=>(x.length:Int)+1).sum<=4*(l.length:Int):=by
   intro l
   induction l with
   |nil=>intro _;simp
   |cons x r ih=>
    intro hl
    have c:=hl x (au ..)
    have a:=ih fun y b=>hl y (aj _ b)
    rw[aQ,cp,aJ]
    have:((r.length+1:Nat):Int)=(r.length:Int)+1:=rfl
    omega
  exact go B h
 omega
theorem zJi {lo:Int}{n i:Nat}{x:V}(h:((bu n).map fun(i:Nat)=>V.int (lo+(i:Int)))[i]?=some x):i<n/\x=V.int (lo+(i:Int)):=by
 have hi:i<n:=by
  have:=(ak.mp h).1
  simpa using this
 rw[az,eC hi]at h
 exact⟨hi,(aB h).symm⟩
theorem zSI {p A B C:Prop} [Decidable p] (a:p->C->A)(b:¬p->C->B)(c:C):if decide p=true then A else B:=by
 by_cases h:p
 ·rw[if_pos (decide_eq_true h)];exact a h c
 ·rw[if_neg (by simp[h])];exact b h c
theorem zSJ {D:Ends}{σ:St}{H:Hp}(h:D.nx σ H):zFW D σ H:=h
section
variable{K:ag}{H:Hp}
noncomputable def vI (L:List S):List dE:=L.map fun x=>PyData.str (tx x)
theorem zFL:∀(L:List S),Reps K H (vI L) (zD L)
 | []=>rfl
 |x::L=>⟨_,_,rfl,rfl,zFL L⟩
theorem gP {b:ao}{L:List S}(h:H b=some (.tup (zD L))):vE K H (.tuple (vI L)) (.ref b):=⟨b,_,rfl,.of h,zFL L⟩
theorem zBF {b:ao}{L:List S}(h:H b=some (.lst (zD L))):vE K H (.list (vI L)) (.ref b):=⟨b,_,rfl,.of h,zFL L⟩
noncomputable def upD (n:Nat):List dE:=(bu n).map fun(i:Nat)=>PyData.int ((i+1:Nat):Int)
noncomputable def uI (n:Nat):List V:=(bu n).map fun(i:Nat)=>V.int ((i+1:Nat):Int)
theorem zJj {b:ao}{n:Nat}(h:H b=some (.lst (uI n))):vE K H (.list (upD n)) (.ref b):=by
 refine⟨b,_,rfl,.of h,?_⟩
 unfold upD uI
 generalize bu n=r
 induction r with
 |nil=>rfl
 |cons x r ih=>exact⟨_,_,rfl,rfl,ih⟩
theorem zFM {L:List S}(h:∀x∈L,x.length<=900/\∀c∈x,c<=122):∀d∈vI L,vW 5 d:=fun d hd=>by
 obtain⟨x,a,rfl⟩:=av.mp hd
 exact zJF (h x a).2 (h x a).1
theorem zSK {n:Nat}(hn:n<=900):vW 6 (.list (upD n)):=by
 refine okL (n:=5) (fun d hd=>?_) (by unfold upD;rw[ah,bE];exact hn)
 obtain⟨x,a,rfl⟩:=av.mp hd
 exact⟨rfl,rfl,by simp only[gx];decide⟩
end
theorem zJk (n:Nat):uI (n+1)=uI n++[.int ((n+1:Nat):Int)]:=by
 unfold uI;rw[dD,aU];rfl
theorem zFN (L:List S)(x:S):zD (L++[x])=zD L++[sv x]:=by unfold zD;rw[aU];rfl
theorem uS (L:List S):(zD L).length=L.length:=by unfold zD;rw[ah]
theorem zFO {C:ao}{H:Hp}{σ:St}{i o:Nat}{Q:VK}(hi:σ[i]?=some (some (.int (o:Int))))(o1:1<=o)(o3:o<=3)(h:∀k a t g c,zA H c->H k=none->H g=none->KpAt c C k a t g o [] []->Q (.ref k) c) :
  zCx C (zCk C) [] E0 (zAf (gQ i) kG) σ H Q:=by
 refine⟨_,hi,fun x a f hd m=>?_⟩
 refine⟨x,a,o,rfl,zF,o1,o3,fun t g c n p l kp=>⟨rfl,h x a t g c (fun b u d=>?_) f ?_ kp⟩⟩
 ·have e:b≠x:=fun z=>by rw[z,f]at d;cases d
  have j:b≠a:=fun z=>by rw[z,hd]at d;cases d
  exact n _ _ e (by rw[zG e,zG j];exact d)
 ·cases z:H g with
  |none=>rfl
  |some u=>
   have e:g≠x:=fun q=>by rw[q,f]at z;cases z
   have j:g≠a:=fun q=>by rw[q,hd]at z;cases z
   rw[zG e,zG j,z]at l;cases l
theorem zSL {i:Nat}{v:V}{σ:St}{H:Hp}{Q:St->Hp->Prop}(h:Q (σ.set i (some v)) H):zBi i v σ H Q:=h
theorem zSM {a b:TE}{g:TG}{u:TS}{D:Ends}{σ:St}{H:Hp}(h:a σ H fun x d=>b σ d fun y c=>[x,y].length<=sizeLine/\∀p,c p=none->g (.ref p) σ (upd c p (.lst [x,y])) (u D)):zAX (zBG (zFn (zAf a (zAf b kG))) g) u D σ H:=h
theorem zSN {a:TE}{g:TG}{u:TS}{D:Ends}{σ:St}{H:Hp}(h:a σ H fun x b=>g x σ b (u D)):zAX (zBG a g) u D σ H:=h
theorem zJl (L:List S):zCu (gO L) (gO L)=true:=by cases L<;>rfl
theorem zFP (L:List S)(k:Nat)(a:k<=1000):vN (zD L) none (some (k:Int))=zD (L.take k):=by
 have:=zDT (zD L) k a
 unfold zD at this⊢
 rw[iu];exact this
theorem zSO (L:List S):gO (L.take 1)=gO L:=by cases L<;>rfl
noncomputable def zAV (K:ag)(C:ao)(m qual:Str)(st:cT)(ps:List Str):Prop:=∃(f:ao) (fd:aZ),Fun K m qual st f fd/\Meth K C m f/\v7 K fd ps []
theorem zJm {K:ag}{C:ao}{m b:Str}{st:cT}{f:ao}{oc kV e pm d ct:ai}{od g:Option ao}{h:Array (Option ai)}(ps:List Str)(i:∀(fd:aZ),Fun K m b st f fd->v7 K fd ps [])
  (a:cM K (.ref C) m=some (some (.ref f))) (n:mz K (.ref f)=true) (l:K.lookup f=some ⟨oc,od,.func (c8 m b (defArgs st) (defBody st) (defScope st) .none kV e pm g d ct),h⟩) (c:ef K d b=true) (k:cy K (.ref f)=true):zAV K C m b st ps :=
 ⟨f,_,zBN (st:=st) l c k,⟨a,n,k⟩,i _ (zBN (st:=st) l c k)⟩
structure KpCls (K:ag) (C:ao):Prop where
 ns:aY K mainGlobals "Keeper"=some (some (.ref C))
 cls:Cls K C
 ord:cM K (.ref C) "order"=some none
 tld:cM K (.ref C) "told"=some none
 gon:cM K (.ref C) "gone"=some none
 makes:mY K C=true
 kp:cy K (.ref C)=true
section
variable{P:aH}{w:aW}{K:ag}{mg:Str->Option ai}{base:bB}
structure LawC (P:aH) (w:aW) (K:ag) (mg:Str->Option ai) (base:bB) (T Kc:ao):Prop where
 dr:zV P w K mg base 2 "_law_drawn" ["_law_script","_law_k","_law_many"] (zCH K)
 nm:zV P w K mg base 3 "_law_name" ["_law_script","_law_at","_law_most"] (zDu K)
 bk:zV P w K mg base 4 "_law_book" ["_law_script","_law_at","_law_many","_law_most"] (zHZ K)
 ws:zV P w K mg base 3 "_law_wish" ["_law_script","_law_at"] (zJB K)
 lk:zV P w K mg base 6 "likeliest" ["book","order","wish","many"] (zJP K T)
 make:zFI P w K mg base Kc 4 "Keeper" ["self","order"] (zCk Kc)
 kb:q8 P w K mg base Kc 1 "book" ["self"] (zFB Kc)
 gi:q8 P w K mg base Kc 1 "given" ["self"] (zFD Kc)
 he:q8 P w K mg base Kc 4 "hear" ["self","name"] (zFF Kc)
 fo:q8 P w K mg base Kc 3 "forget" ["self","name"] (zFH Kc)
 gl:q8 P w K mg base Kc 7 "give_likeliest" ["self","wish"] (zCl T Kc)
noncomputable def zBe (K:ag)(T:ao):Sp:=fun vs H Q _=>∃(a:ao) (ns:List Int),vs=[.ref a]/\z6 K H a (ns.map V.int)/\ns.length<=63/\y0 T H/\∀H',Q (.bl true) H'
noncomputable abbrev j6:cT:=top 72
theorem zJn:FnScope ["_law_script","_law_order","_law_book_here","_law_wish_here","_law_keepers","_law_keeper","_law_rows","_law_k","_law_due","_law_other","_law_name_here"] ["_law_script"] (defScope j6):=z9
theorem zSP:(["_law_keeper","_law_name_here"]:List Str).Nodup:=by decide+kernel
theorem zSQ:(["_law_k"]:List Str).Nodup:=by decide+kernel
theorem zJo:(["_law_part","_law_name_here"]:List Str).Nodup:=by decide+kernel
theorem zSR:(["_law_keepers","_law_wish_here","_law_name_here"]:List Str).Nodup:=by decide+kernel
theorem zSS {f T Kc:ao}{fd:aZ}(F:Fun K "law" "law" j6 f fd)(B:Blt mg)(hset:mg "set"=none)(C:LawC P w K mg base T Kc):FnOk P w K mg base zZ 8 f fd ["_law_script"] (zBe K T):=by
 refine F.ok zJn (fun vs H Q E h=>?_) (fun cdv A outer s H vs Q E hr h=>?_)
 ·obtain⟨a,ns,rfl,_⟩:=h;rfl
 ·obtain⟨a,ns,rfl,ha,hl,tab,k⟩:=h
  have nd:=zJn.nd
  have hu:=hr.units
  have r6:=hr.mono (j:=6) (by decide)
  have r5:=hr.mono (j:=5) (by decide)
  have r4:=hr.mono (j:=4) (by decide)
  have r3:=hr.mono (j:=3) (by decide)
  have r2:=hr.mono (j:=2) (by decide)
  have r1:=hr.mono (j:=1) (by decide)
  refine⟨_,zM (yA (i:=1) nd rfl (Or.inl rfl) (zT yS zN (zW C.dr r2 rfl (yK (pv 0) (yK zN (yK zN zE))))))
   (zM (yA (i:=2) nd rfl (Or.inl rfl) (zW C.bk r4 rfl (yK (pv 0) (yK zN (yK zN (yK zN zE))))))
   (zM (yA (i:=3) nd rfl (Or.inr rfl) (zW C.ws r3 rfl (yK (pv 0) (yK zN zE))))
   (zM (yA (i:=3) nd rfl (Or.inr rfl) (zT zBA (zT zBA (kH zBa (pv 3) jC (qJ zN)) (uN (yK (yL (zKu rfl) (by rfl) B.min ud (yK zN (yK (yH vX (pv 3) zN (fun _ _=>rfl)) zE))) zE))) (kH zBa (pv 3) (qJ zN) jC)))
   (zM (yA (i:=4) nd rfl (Or.inr rfl) (v6 (yK (zFJ C.make r5 rfl (yK (pv 1) zE)) (yK (zFJ C.make r5 rfl (yK (pv 1) zE)) zE))))
   (zM (uL bR rfl (jB (pv 4)) (z7 (i:=5) nd rfl (Or.inr rfl))
    (zM (yR (vA (zAG hu) (uD (N:=["_law_keeper","_law_name_here"]) (caps:=[5]) rfl (v9 (by kernel_rfl)) (zBH (pv 2)) (fun cl X s H ex=>z7 (i:=1) zSP rfl (Or.inl rfl)) (fun cl X s H ex=>uO) (fun cl X s H ex=>zAU C.he r4 (pv 0) (yK (pv 1) zE)))
      (uD (N:=["_law_k"]) (caps:=[]) rfl (v9 (by kernel_rfl)) (zBI rfl B.range (yK (yL jD (by rfl) B.len bM (yK (pv 2) zE)) zE)) (fun cl X s H ex=>z7 (i:=0) zSQ rfl (Or.inl rfl)) (fun cl X s H ex=>uO) (fun cl X s H ex=>zT yS (pv 0) zN)) (yU _)) (zK (z0 uK)) yQ)
    (zK (yR (vA (zAG hu) (k7 C.kb r1 (pv 5)) (pv 2) (yU _)) (zK (z0 uK)) yQ))))
   (zM (zQv (j:=6) (N:=["_law_part","_law_name_here"]) (caps:=[]) nd rfl (Or.inl rfl) rfl (v9 (by kernel_rfl)) (jB (zW C.lk r6 rfl (yK (pv 2) (yK (pv 1) (yK (pv 3) (yK zN zE))))))
     (fun cl X s H ex=>gL K 2 rfl rfl (yY (z7 (i:=0) zJo rfl (Or.inl rfl)) (yY (z7 (i:=1) zJo rfl (Or.inl rfl)) qC)) rfl rfl) (fun cl X s H ex=>uO) (fun cl X s H ex=>pv 1))
   (zM (uL bR rfl (zBI rfl B.range (yK zN zE)) (z7 (i:=7) nd rfl (Or.inl rfl))
    (zM (yA (i:=8) nd rfl (Or.inl rfl) (zCp (vA zFf (pv 7) (yL jD (by rfl) B.len bM (yK (pv 6) zE)) (yU _)) (yH vT (pv 6) (pv 7) (fun _ _=>rfl)) zCn))
    (zM (yR (vA gZ (zAU C.gl hr (yH vT (pv 4) zN (fun _ _=>rfl)) (yK (pv 3) zE)) (pv 8) (yU _)) (zK (z0 uK)) yQ)
    (zM (yA (i:=9) nd rfl (Or.inl rfl) (zW C.nm r3 rfl (yK (pv 0) (yK (zT yS zN (zT jT zN (pv 7))) (yK zN zE)))))
    (zM (yR (PW.pt (kA (vA gZ (zAU C.he r4 (yH vT (pv 4) zN (fun _ _=>rfl)) (yK (pv 9) zE)) (zT yS (yL jD (by rfl) B.len bM (yK (pv 2) zE)) zN) (yU _))
      (j9 (vA (zAG hu) (k7 C.kb r1 (yH vT (pv 4) zN (fun _ _=>rfl))) (zT zBA (pv 2) (uN (yK (pv 9) zE))) (yU _))))) (zK (z0 uK)) yQ)
    (zM (v5 (zAU C.fo r3 (yH vT (pv 4) zN (fun _ _=>rfl)) (yK (pv 9) zE)))
    (zM (yR (PW.pt (zKK (vA zDB (pv 9) (pv 2) (by with_unfolding_all rfl)) (zKJ (vA (zAG hu) (k7 C.kb r1 (yH vT (pv 4) zN (fun _ _=>rfl))) (pv 2) (yU _))))) (zK (z0 uK)) yQ)
    (zM (yR (vA zDA (pv 9) (pv 2) (by with_unfolding_all rfl))
      (zM (zKW (zFJ C.make r5 rfl (yK (pv 1) zE)) (zKV (pv 4) zN zLd))
      (zM (uL bR rfl (zBH (pv 2)) (z7 (i:=10) nd rfl (Or.inl rfl)) (zK (v5 (zAU C.he r4 (yH vT (pv 4) zN (fun _ _=>rfl)) (yK (pv 10) zE)))))
      (zK (yR (vA (zAG hu) (uD (N:=["_law_keepers","_law_wish_here","_law_name_here"]) (caps:=[4,3]) rfl (v9 (by kernel_rfl)) (jB (kH zBl (pv 6) jC (qJ (pv 7)))) (fun cl X s H ex=>z7 (i:=2) zSR rfl (Or.inl rfl)) (fun cl X s H ex=>uO) (fun cl X s H ex=>zAU C.gl hr (yH (zQt K rfl) (pv 0) zN (fun _ _=>rfl)) (yK (pv 1) zE)))
       (kH zBl (pv 6) jC (qJ (pv 7))) (yU _)) (zK (z0 uK)) yQ)))) yQ)
    (zM (yR (PW.pt (kA (vA gZ (zAU C.gl hr (yH vT (pv 4) zN (fun _ _=>rfl)) (yK (pv 3) zE)) (pv 8) (yU _))
      (j9 (vA (zAG hu) (k7 C.gi r1 (yH vT (pv 4) zN (fun _ _=>rfl))) (k7 C.gi r1 (yH vT (pv 4) zN (fun _ _=>rfl))) (yU _))))) (zK (z0 uK)) yQ)
    (zM (yR (vA (zAG hu) (k7 C.gi r1 (yH vT (pv 4) zN (fun _ _=>rfl))) (kH zBl (pv 6) jC (qJ (zT yS (pv 7) zN))) (yU _)) (zK (z0 uK)) yQ)
    (zK (yR (vA gZ (zSG rfl (k7 C.gi r1 (yH vT (pv 4) zN (fun _ _=>rfl))) (by rfl) B.len bM (by rfl) hset ue) (yL jD (by rfl) B.len bM (yK (k7 C.gi r1 (yH vT (pv 4) zN (fun _ _=>rfl))) zE)) (yU _)) (zK (z0 uK)) yQ))))))))))))
   (zK (z0 (jU (zDG hu) (k7 C.kb r1 (yH vT (pv 4) zN (fun _ _=>rfl))) (pv 2) (yU _))))))))))),?_⟩
  refine⟨_,rfl,a,ns,50,3,rfl,ha,hl,by decide,by decide,fun d2 H1 hd2 s1=>⟨_,_,rfl,rfl,?_⟩⟩
  obtain⟨o,ho,o1,o3⟩:∃o:Nat,(1:Int)+(d2:Int)=(o:Int)/\1<=o/\o<=3:=⟨1+d2,by omega,by omega,by omega⟩
  dsimp only
  rw[ho]
  refine⟨_,rfl,a,ns,0,3,3,rfl,s1.seq ha,hl,by decide,by decide,by decide,by decide,fun b bk H2 s2' hb2 bl1 bl2 bn=>?_⟩
  have s2:=s1.trans s2'
  refine⟨_,rfl,a,ns,60,rfl,s2.seq ha,hl,fun pw0 lo hi hd tl ba to H3 s3' gw lw hw=>?_⟩
  have s3:=s2.trans s3'
  have tab3:=vU tab s3
  have hb3:=s3' _ _ hb2
  have ha3:=s3.seq ha
  clear s1 s2' s2 s3' s3 hb2 ha tab
  have isb:isBk bk:=⟨bl1,by omega,fun x hx=>(bn x hx).1⟩
  have hB:Bk bk o:=⟨isb,o1,o3⟩
  have abc:gN bk:=fun x hx c hc=>(bn x hx).2.2 c hc
  have sh3:Sh3 bk:=fun x hx=>(bn x hx).2.1
  have p60:(zB o bk).length<=60:=by
   have:=zSH (o:=o) fun x hx=>(bn x hx).2.1
   omega
  obtain⟨lo,hi,rfl,rfl,hl1,hlh,hh8,hd3,tl3⟩:=gw.nats
  have hi4:hi<=4:=by have:=lw.2.1;omega
  obtain⟨bb,hpw,hbb⟩:=hw
  refine⟨_,rfl,1,rfl,pw0,_,rfl,hpw,fun p1 H4 t4 hp1=>?_⟩
  refine⟨_,rfl,pw0,_,1,.int hi,rfl,rfl,.of (t4 _ _ hpw),rfl,_,_,rfl,by show 1<=sizeLine;decide,fun p2 hp2=>?_⟩
  have emn:(if(hi:Int)<4 then(hi:Int)else 4)=(hi:Int):=by
   by_cases z:(hi:Int)<4
   ·rw[if_pos z]
   ·rw[if_neg z];omega
  rw[emn]
  have t5:zA H4 (upd H4 p2 (.tup [.int (hi:Int)])):=zA.upd1 hp2
  have hp2':upd H4 p2 (.tup [.int (hi:Int)]) p2=some (.tup [.int (hi:Int)]):=zF
  generalize upd H4 p2 (.tup [.int (hi:Int)])=H5 at t5 hp2'
  refine⟨p1,p2,_,_,rfl,rfl,t5 _ _ hp1,hp2',by rw[aL];show 1+1<=_;omega,fun p3 H6 t6 hp3=>?_⟩
  have t46:=t4.trans (t5.trans t6)
  refine⟨_,rfl,2,rfl,pw0,_,rfl,t46 _ _ hpw,fun p4 H7 t7 hp4=>?_⟩
  refine⟨p3,p4,_,_,rfl,rfl,t7 _ _ hp3,hp4,by rw[aL];show 2+4<=_;omega,fun pw H8 t8 hpw8=>?_⟩
  have t48:=(t46.trans t7).trans t8
  have hbb8:=t48 _ _ hbb
  have hb8:=t48 _ _ hb3
  have tab8:=vU tab3 t48
  have ha8:=t48.seq ha3
  clear t4 hp1 hp2 t5 hp2' t6 hp3 t46 t7 hp4 t8 t48 hpw hbb hb3 tab3 ha3 emn p1 p2 p3 p4 H4 H5 H6 H7 H3
  have lkok:∀{n:Nat},1<=n->n<=36->LkOk bk o lo hi hd tl n:=fun h1 h2=>zRl o1 abc sh3 (by omega) h1 h2 hl1 hi4
  obtain⟨F0,f0,f0s⟩:∃F0:List (ao×HO),(∀p∈F0,H8 p.1=some p.2/\zBd p.2)/\∀H',(∀p∈F0,H' p.1=some p.2)->z6 K H' a (ns.map V.int):=by
   rcases ha8 with z|z
   ·rcases z with z|⟨o',z⟩
    ·exact⟨[(a,.lst (ns.map V.int))],(fun p hp=>by rw[aM.mp hp];exact⟨z,trivial⟩),fun H' h=>.inl (.inl (h _ (bJ _)))⟩
    ·exact⟨[(a,.frz o' (.lst (ns.map V.int)))],(fun p hp=>by rw[aM.mp hp];exact⟨z,trivial⟩),fun H' h=>.inl (.inr ⟨o',h _ (bJ _)⟩)⟩
   ·exact⟨[],(fun p hp=>by cases hp),fun H' _=>.inr z⟩
  obtain⟨F1,hF1⟩:∃F1,F1=(b,HO.tup (zD bk))::(pw,HO.tup [.int lo,.int hi,sv hd,sv tl,.ref bb,.bl to])::(bb,HO.tup (zD ba))::F0:=⟨_,rfl⟩
  have f1:∀p∈F1,H8 p.1=some p.2/\zBd p.2:=fun p hp=>by
   rw[hF1]at hp
   rcases aE.mp hp with rfl|hp
   ·exact⟨hb8,trivial⟩
   rcases aE.mp hp with rfl|hp
   ·exact⟨hpw8,trivial⟩
   rcases aE.mp hp with rfl|hp
   ·exact⟨hbb8,trivial⟩
   exact f0 p hp
  have gB:∀{G:Hp},(∀p∈F1,G p.1=some p.2)->G b=some (.tup (zD bk)):=fun{G} h=>h (b,_) (by rw[hF1];exact au ..)
  have gW:∀{G:Hp},(∀p∈F1,G p.1=some p.2)->qQ G pw lo hi hd tl ba to:=fun{G} h=>⟨bb,h (pw,_) (by rw[hF1];exact aj _ (au ..)),h (bb,_) (by rw[hF1];exact aj _ (aj _ (au ..)))⟩
  have gS:∀{G:Hp},(∀p∈F1,G p.1=some p.2)->z6 K G a (ns.map V.int):=fun{G} h=>f0s G fun p hp=>h p (by rw[hF1];exact aj _ (aj _ (aj _ hp)))
  clear hF1 f0 f0s F0 hb8 hpw8 hbb8 ha8
  refine zSL ?_
  dsimp only
  refine zSM ?_
  refine zFO (i:=1) rfl o1 o3 fun k0 dx0 t0 g0 H9 s9 k0n g0n kp0=>?_
  refine zFO (i:=1) rfl o1 o3 fun k1 dx1 t1 g1 H10 s10 k1n g1n kp1=>?_
  have some_ne:∀{G:Hp} {x y:ao} {u:HO},G x=some u->G y=none->x≠y:=fun h1 h2 z=>by rw[z,h2]at h1;cases h1
  have E10:KpE T Kc o F1 H10 k0 dx0 t0 g0 [] [] k1 dx1 t1 g1 [] []:=⟨fun p hp=>⟨s10 _ _ (s9 _ _ (f1 p hp).1),(f1 p hp).2,some_ne (f1 p hp).1 g0n,some_ne (s9 _ _ (f1 p hp).1) g1n⟩,vU (vU tab8 s9) s10,kp0.same s10,kp1,some_ne kp0.ins k1n,some_ne kp0.gon g1n⟩
  clear f1 tab8 s9 s10 k0n g0n k1n g1n kp0 kp1 H8
  refine⟨by show 2<=sizeLine;decide,fun l hl0=>?_⟩
  have lF1:∀p∈F1,p.1≠l:=fun p hp=>some_ne (E10.fx p hp).1 hl0
  have E11:=E10.add hl0 (u:=.lst [.ref k0,.ref k1]) trivial
  generalize upd H10 l (.lst [.ref k0,.ref k1])=H11 at E11
  clear E10 hl0 H10
  have fF:∀{T' C':ao} {F:List (ao×HO)} {G:Hp} {k dx t g:ao} {B G0:List S} {k' dx' t' g':ao} {B' G0':List S},KpE T' C' o F G k dx t g B G0 k' dx' t' g' B' G0'->∀p∈F,G p.1=some p.2:=fun e p hp=>(e.fx p hp).1
  have okB:vW 6 (.tuple (vI bk)):=vO (n:=5) (zFM fun x hx=>⟨by have:=sh3 x hx;omega,fun c hc=>by rcases abc x hx c hc with z|z|z<;>omega⟩) (by unfold vI;rw[ah];omega)
  refine⟨_,rfl,l,rfl,⟨_,.of (E11.fx _ (au ..)).1⟩,?_⟩
  refine jG (jF K l [.ref k0,.ref k1]) (fun i σ G=>(∃x5:Option V,σ=[some (.ref a),some (.int o),some (.ref b),some (.ref pw),some (.ref l),x5,none,none,none,none,none])/\∃t0 t1,KpE T Kc o ((l,.lst [.ref k0,.ref k1])::F1) G k0 dx0 t0 g0 (if 0<i then bk else []) [] k1 dx1 t1 g1 (if 1<i then bk else []) [])
   ⟨⟨_,rfl⟩,_,_,E11⟩ (fun i σ G _ h=>by obtain⟨_,_,_,e⟩:=h;exact .of (e.fx _ (au ..)).1) ?_ ?_
  ·rintro i x σ G Nx hN hx ⟨⟨x5,rfl⟩,t0',t1',EG⟩
   have hi2:i<2:=(ak.mp hx).1
   obtain⟨k,dx,t,g,k',dx',t',g',B',rfl,E,fin⟩:∃k dx t g k' dx' t' g' B',x=.ref k/\KpE T Kc o ((l,.lst [.ref k0,.ref k1])::F1) G k dx t g [] [] k' dx' t' g' B' []/\∀tn G',KpE T Kc o ((l,.lst [.ref k0,.ref k1])::F1) G' k dx tn g bk [] k' dx' t' g' B' []->∃t0 t1,KpE T Kc o ((l,.lst [.ref k0,.ref k1])::F1) G' k0 dx0 t0 g0 (if 0<i+1 then bk else []) [] k1 dx1 t1 g1 (if 1<i+1 then bk else []) []:=by
    rcases(by omega:i=0\/i=1)with rfl|rfl
    ·exact⟨_,_,_,_,_,_,_,_,_,(aB hx).symm,EG,fun tn G' e=>⟨_,_,e⟩⟩
    ·exact⟨_,_,_,_,_,_,_,_,_,(aB hx).symm,EG.sym,fun tn G' e=>⟨_,_,e.sym⟩⟩
   clear EG hx
   refine⟨_,rfl,b,rfl,⟨_,.of (gB fun p hp=>fF E p (aj _ hp))⟩,?_⟩
   refine qK (zBP K b (zD bk)) [some (.ref k)] 1 (by rw[uS];omega) (fun j acc G'=>acc=uI j/\∃tn,KpE T Kc o ((l,.lst [.ref k0,.ref k1])::F1) G' k dx tn g (bk.take j) [] k' dx' t' g' B' [])
    ⟨rfl,_,E⟩ (fun j acc G' _ h=>by obtain⟨rfl,tn,e⟩:=h;exact⟨.of (gB fun p hp=>fF e p (aj _ hp)),by unfold uI;rw[ah,bE];exact aA _⟩) ?_ ?_
   ·rintro j x acc G' ys Nx' hN' hx hy ⟨rfl,tn,E'⟩
    obtain⟨y',rfl⟩:=zBW hy
    obtain⟨n,en,rfl⟩:=zAS hx
    have hj:j<bk.length:=(ak.mp en).1
    have etk:bk.take (j+1)=bk.take j++[n]:=by rw[aF hj,(ak.mp en).2]
    have lt:(bk.take j).length=j:=by rw[aO];omega
    refine⟨_,rfl,k,dx,_,rfl,E'.kp.ins,rfl,_,rfl,k,dx,tn,g,o,bk.take j,[],n,rfl,E'.kp,(bn n (bg en)).1,by omega,fun y hy=>(bn y (bN hy)).1,fun t2 G2 sx kp2=>?_⟩
    rw[lt]
    exact hN' _ _ [_] rfl ⟨(zJk j).symm,t2,by rw[etk];exact E'.one sx kp2⟩
   rintro acc G1 ⟨rfl,tn,E1⟩ D1 hD1
   rw[uS,bw]at E1
   rw[uS]
   have t2:zA G1 (upd G1 D1 (.lst (uI bk.length))):=zA.upd1 hD1
   have E2:=E1.same t2
   have h2:upd G1 D1 (.lst (uI bk.length)) D1=some (.lst (uI bk.length)):=zF
   generalize upd G1 D1 (.lst (uI bk.length))=G2 at t2 E2 h2
   clear t2 hD1 E1 E
   refine⟨_,rfl,b,_,rfl,.inr (.of (gB fun p hp=>fF E2 p (aj _ hp))),_,rfl,by rw[uS];omega,by rw[uS];omega,?_⟩
   rw[uS]
   refine qK (zAl 0 _) [] 1 (by rw[ah,bE];omega) (fun j acc G'=>acc=uI j/\G'=G2) ⟨rfl,rfl⟩
    (fun j acc G' _ h=>⟨trivial,by rw[h.1];unfold uI;rw[ah,bE];exact aA _⟩) ?_ ?_
   ·rintro j x acc G' ys Nx' hN' hx hy ⟨rfl,rfl⟩
    obtain⟨y',rfl⟩:=zBW hy
    obtain⟨hj,rfl⟩:=zJi hx
    refine⟨_,rfl,_,_,rfl,rfl,?_⟩
    have e:(0:Int)+(j:Int)+1=((j+1:Nat):Int):=by omega
    dsimp only
    rw[e]
    exact hN' _ _ [_] rfl ⟨(zJk j).symm,rfl⟩
   rintro acc G' ⟨rfl,rfl⟩ D2 hD2
   rw[ah,bE,cX]
   have t3:zA G' (upd G' D2 (.lst (uI bk.length))):=zA.upd1 hD2
   have E3:=E2.same t3
   have h3:upd G' D2 (.lst (uI bk.length)) D2=some (.lst (uI bk.length)):=zF
   have h2':=t3 _ _ h2
   generalize upd G' D2 (.lst (uI bk.length))=G3 at t3 E3 h3 h2'
   have oku:vW 6 (.list (upD bk.length)):=zSK (by omega)
   refine⟨.list (upD bk.length),.list (upD bk.length),zJj h2',zJj h3,oku.sh (by decide),oku.sh (by decide),_,rfl,zAM oku.2.1 ?_⟩
   refine⟨_,rfl,k,dx,_,rfl,E3.kp.ins,rfl,k,dx,tn,g,o,bk,[],rfl,E3.kp,_,rfl,.tuple (vI bk),.tuple (vI bk),gP E3.kp.tld,gP (gB fun p hp=>fF E3 p (aj _ hp)),okB.sh (by decide),okB.sh (by decide),_,rfl,zAM okB.2.1 (hN _ _ ⟨⟨_,rfl⟩,fin _ _ E3⟩)⟩
  rintro σ H12 ⟨⟨x5,rfl⟩,t0',t1',E12'⟩
  have E12:KpE T Kc o ((l,.lst [.ref k0,.ref k1])::F1) H12 k0 dx0 t0' g0 bk [] k1 dx1 t1' g1 bk []:=E12'
  clear E12' E11 H11
  refine⟨_,rfl,_,rfl,_,rfl,b,pw,bk,o,lo,hi,hd,tl,ba,to,7,rfl,gB fun p hp=>fF E12 p (aj _ hp),hB,gW fun p hp=>fF E12 p (aj _ hp),gw,p60,by decide,by decide,E12.tb,fun j hj=>lkok (by omega) (by have:=gw.len;omega),fun rD H13 U BB sx13 tab13 hrD hU hT hL=>?_⟩
  have hS:vD (zB o bk) o 7 (qY o bk lo hi hd tl ba to) (BB.map (·.2)):=⟨U,BB,hU,hT,rfl⟩
  generalize BB.map (·.2)=L at hL hS
  have E13:=E12.tabX sx13 tab13
  clear hT hU U BB hrD sx13 tab13 E12 H12
  have l8:∀x∈qY o bk lo hi hd tl ba to,x.length<=8:=zRb hh8
  have L7:=hS.len
  obtain⟨ts,q1,q2⟩:=zCj.mp hL
  refine⟨rD,rfl,⟨_,.of q1⟩,?_⟩
  refine qK (jF K rD ts) [] 2 (by rw[q2.1];omega) (fun i acc G=>G=H13/\acc=zD (L.take i))
   ⟨rfl,rfl⟩ (fun i acc G _ h=>⟨.of (by rw[h.1];exact q1),by rw[h.2,uS,aO];omega⟩) ?_ ?_
  ·rintro i x acc G ys Nx hN hx hy ⟨rfl,rfl⟩
   have hi':i<L.length:=by rw[<-q2.1];exact(ak.mp hx).1
   obtain⟨c,v,e1,e2,e3⟩:=q2.2 i L[i] (ay hi')
   rw[hx]at e1
   cases e1
   have etk:L.take (i+1)=L.take i++[L[i]]:=aF hi'
   obtain⟨y1,y2,rfl⟩:=ys2 hy
   refine⟨c,_,rfl,e2,rfl,_,_,rfl,_,_,rfl,rfl,_,rfl,hN _ _ [_,_] rfl ⟨rfl,?_⟩⟩
   rw[etk,zFN]
  rintro acc G ⟨rfl,rfl⟩ r hr0
  rw[q2.1,bw]at*
  have lnr:r≠l:=fun z=>by rw[z,(E13.fx _ (au ..)).1]at hr0;cases hr0
  have E14:=E13.add hr0 (u:=.lst (zD L)) trivial
  generalize upd G r (.lst (zD L))=H14 at E14
  clear hr0 E13 hL q1 q2 ts
  have E15:KpE T Kc o ((l,.lst [.ref k0,.ref k1])::(r,.lst (zD L))::F1) H14 k0 dx0 t0' g0 bk [] k1 dx1 t1' g1 bk []:=E14.sub fun p hp=>by
   rcases aE.mp hp with rfl|hp
   ·exact aj _ (au ..)
   rcases aE.mp hp with rfl|hp
   ·exact au ..
   ·exact aj _ (aj _ hp)
  clear E14
  have nlF:∀p∈(r,HO.lst (zD L))::F1,p.1≠l:=fun p hp=>by
   rcases aE.mp hp with rfl|hp
   ·exact lnr
   ·exact lF1 p hp
  have gl:∀{F:List (ao×HO)} {q:ao×HO} {G:Hp} {k dx t g:ao} {B G0:List S} {k' dx' t' g':ao} {B' G0':List S},KpE T Kc o (q::F) G k dx t g B G0 k' dx' t' g' B' G0'->G q.1=some q.2:=fun e=>(e.fx _ (au ..)).1
  have gr:∀{F:List (ao×HO)} {p q:ao×HO} {G:Hp} {k dx t g:ao} {B G0:List S} {k' dx' t' g':ao} {B' G0':List S},KpE T Kc o (p::q::F) G k dx t g B G0 k' dx' t' g' B' G0'->G q.1=some q.2:=fun e=>(e.fx _ (aj _ (au ..))).1
  have g1:∀{F:List (ao×HO)} {p q:ao×HO} {G:Hp} {k dx t g:ao} {B G0:List S} {k' dx' t' g':ao} {B' G0':List S},KpE T Kc o (p::q::F) G k dx t g B G0 k' dx' t' g' B' G0'->∀p∈F,G p.1=some p.2:=fun e p hp=>(e.fx p (aj _ (aj _ hp))).1
  have GV:∀{F:List (ao×HO)} {G:Hp} {k dx t g:ao} {k' dx' t' g':ao} {B' G0':List S} {i:Nat} {Z:VK},i<7->(∀p∈F1,p∈F)->KpE T Kc o F G k dx t g bk (L.take i) k' dx' t' g' B' G0'->(∀G',KpE T Kc o F G' k dx t g bk (L.take (i+1)) k' dx' t' g' B' G0'->Z (gO (L.drop i)) G')->zCl T Kc [.ref k,.ref pw] G Z E0:=fun{F G k dx t g k' dx' t' g' B' G0' i Z} hi7 hF e hZ=>by
   have tl7:(L.take i).length<=7:=by rw[aO];omega
   refine⟨k,dx,t,g,pw,o,bk,L.take i,lo,hi,hd,tl,ba,to,rfl,e.kp,hB,abc,p60,gW fun p hp=>fF e p (hF p hp),gw,by omega,e.tb,fun j hj=>lkok (by omega) (by have:=gw.len;omega),fun L' G' s tb hS' hg=>?_⟩
   have eL:L'=(L.drop i).take 1:=vD.one ((zRR ..).filter _) (fun x hx=>l8 x (aI.mp hx).1) hS' (hS.next hi7)
   subst eL
   rw[<-sY]at hg
   rw[zSO]
   exact hZ G' (e.gave s tb hg)
  have okL7:∀j,vW 6 (.list (vI (L.take j))):=fun j=>okL (n:=5) (zFM fun x hx=>⟨by have:=l8 x (hS.sub (bN hx));omega,fun c hc=>by rcases zJW abc (zJG.mp (hS.sub (bN hx))).2.1 c hc with z|z|z<;>omega⟩) (by unfold vI;rw[ah,aO];omega)
  refine⟨_,rfl,by decide,by decide,?_⟩
  refine jG (zAl 0 _) (fun i σ G=>(∃x7 x8 x9 x10:Option V,σ=[some (.ref a),some (.int o),some (.ref b),some (.ref pw),some (.ref l),x5,some (.ref r),x7,x8,x9,x10])/\∃t0 k1 dx1 t1 g1,KpE T Kc o ((l,.lst [.ref k0,.ref k1])::(r,.lst (zD L))::F1) G k0 dx0 t0 g0 bk (L.take i) k1 dx1 t1 g1 bk (L.take i))
   ⟨⟨_,_,_,_,rfl⟩,_,_,_,_,_,E15⟩ (fun _ _ _ _ _=>trivial) ?_ ?_
  ·rintro i x σ G Nx hN hx ⟨⟨x7,x8,x9,x10,rfl⟩,t0,k1,dx1,t1,g1',EG⟩
   obtain⟨hi7',rfl⟩:=zJi hx
   have hi7:i<7:=hi7'
   rw[tW]
   clear hx hi7' E15
   obtain⟨due,hdue⟩:∃v,v=gO (L.drop i):=⟨_,rfl⟩
   refine⟨_,rfl,_,rfl,r,_,rfl,.inl (.of (gr EG)),_,_,rfl,rfl,_,rfl,?_⟩
   rw[uS]
   have dA:(i:Int)<(L.length:Int)->gD (zD L) (i:Int)=some due:=fun hp=>by
    have hil:i<L.length:=by omega
    refine zAB (j:=i) ?_
    unfold zD
    rw[az,ay hil,hdue,eV hil];rfl
   have dB:¬(i:Int)<(L.length:Int)->due=.non:=fun hp=>by rw[hdue,mW (by omega)];rfl
   apply zSI
   ·intro hp hC
    exact⟨_,rfl,_,rfl,r,_,_,due,rfl,rfl,.of (gr EG),dA hp,hC⟩
   ·intro hp hC
    have e:=dB hp
    subst e
    exact hC
   clear dA dB
   refine⟨_,rfl,l,_,0,.ref k0,rfl,rfl,.of (gl EG),rfl,k0,dx0,_,rfl,EG.kp.ins,rfl,_,rfl,?_⟩
   dsimp only[kG,cu,dU]
   refine GV hi7 (fun p hp=>aj _ (aj _ hp)) EG fun G1 E1=>?_
   rw[<-hdue]
   refine⟨_,rfl,by rw[hdue];exact zJl _,_,rfl,jX rfl ?_⟩
   clear EG G
   refine⟨_,rfl,_,rfl,_,_,rfl,rfl,.inl (by decide),_,_,rfl,rfl,?_⟩
   dsimp only[tC,kG,zAf,zCw,cu,dU]
   rw[show(80:Int)+10*(i:Int)=((80+10*i:Nat):Int)from by omega]
   refine⟨a,ns,80+10*i,3,rfl,gS (g1 E1),hl,by decide,by decide,fun x G2 s2 hnm hx3=>?_⟩
   have E2:=E1.same s2
   clear s2 E1 G1
   have okx:∀y∈bk++[x],y.length<=900/\∀c∈y,c<=122:=fun y hy=>by
    rcases bz.mp hy with z|z
    ·exact⟨by have:=sh3 y z;omega,fun c hc=>by rcases abc y z c hc with q|q|q<;>omega⟩
    ·rw[aM.mp z]
     exact⟨by have:=hx3.1;omega,fun c hc=>by rcases hx3.2 c hc with q|q|q<;>omega⟩
   have okX:vW 6 (.tuple (vI (bk++[x]))):=vO (n:=5) (zFM okx) (by unfold vI;rw[ah,aw,bW];omega)
   refine⟨_,rfl,l,_,1,.ref k1,rfl,rfl,.of (gl E2),rfl,k1,dx1,_,rfl,E2.kp'.ins,rfl,_,rfl,k1,dx1,t1,g1',o,bk,L.take i,x,rfl,E2.kp',hnm,by omega,fun y hy=>(bn y hy).1,fun t2 G3 sx3 kp3=>?_⟩
   have E3:=(E2.sym.one sx3 kp3).sym
   clear sx3 kp3 E2 G2
   refine⟨_,rfl,b,_,rfl,.inr (.of (gB (g1 E3))),_,_,rfl,rfl,rfl,_,rfl,?_⟩
   rw[uS]
   refine jX rfl ?_
   refine⟨_,rfl,l,_,1,.ref k1,rfl,rfl,.of (gl E3),rfl,k1,dx1,_,rfl,E3.kp'.ins,rfl,k1,dx1,t2,g1',o,bk++[x],L.take i,rfl,E3.kp',_,rfl,_,rfl,by show 1<=sizeLine;decide,fun m hm=>?_⟩
   have s4:zA G3 (upd G3 m (.tup [sv x])):=zA.upd1 hm
   have E4:=E3.same s4
   have hm4:upd G3 m (.tup [sv x]) m=some (.tup [sv x]):=zF
   generalize upd G3 m (.tup [sv x])=G4 at s4 E4 hm4
   clear s4 hm E3 G3
   refine⟨b,m,_,_,rfl,rfl,gB (g1 E4),hm4,by rw[uS,aL];show _+1<=_;omega,fun q G5 s5 hq5=>?_⟩
   have E5:=E4.same s5
   clear s5 hm4 E4 G4
   rw[<-zFN]at hq5
   refine⟨.tuple (vI (bk++[x])),.tuple (vI (bk++[x])),gP E5.kp'.tld,gP hq5,okX.sh (by decide),okX.sh (by decide),_,rfl,zAM okX.2.1 ?_⟩
   refine⟨_,rfl,l,_,1,.ref k1,rfl,rfl,.of (gl E5),rfl,k1,dx1,_,rfl,E5.kp'.ins,rfl,_,rfl,k1,dx1,t2,g1',o,bk,L.take i,x,rfl,E5.kp',hnm,by omega,fun t3 G6 sx6 kp6=>?_⟩
   have E6:=(E5.sym.one sx6 kp6).sym
   clear sx6 kp6 E5 hq5 G5 okX okx
   refine zSJ ?_
   dsimp only
   refine zEJ (fun σ' G=>σ'=[some (.ref a),some (.int o),some (.ref b),some (.ref pw),some (.ref l),x5,some (.ref r),some (.int i),some due,some (sv x),x10]/\KpE T Kc o ((l,.lst [.ref k0,.ref k1])::(r,.lst (zD L))::F1) G k0 dx0 t0 g0 bk (L.take (i+1)) k1 dx1 t3 g1' bk (L.take i)) ?cont fun N hN=>?main
   case main=>
    refine⟨_,rfl,_,rfl,b,_,rfl,.inr (.of (gB (g1 E6))),rfl,zAv _,_,rfl,?_⟩
    rw[zAu]
    by_cases hin:x∈bk
    ·rw[decide_eq_true hin]
     exact vB (vB (hN _ _ ⟨rfl,E6⟩))
    ·rw[decide_eq_false hin]
     refine qT ⟨_,rfl,l,_,1,.ref k1,rfl,rfl,.of (gl E6),rfl,k1,dx1,_,rfl,E6.kp'.ins,rfl,k1,dx1,t3,g1',o,bk,L.take i,rfl,E6.kp',_,rfl,.tuple (vI bk),.tuple (vI bk),gP E6.kp'.tld,gP (gB (g1 E6)),okB.sh (by decide),okB.sh (by decide),_,rfl,zAM okB.2.1 (hN _ _ ⟨rfl,E6⟩)⟩
   clear E6 G6
   rintro σ G ⟨rfl,EG⟩
   refine zEJ (fun σ' G=>(∃x10:Option V,σ'=[some (.ref a),some (.int o),some (.ref b),some (.ref pw),some (.ref l),x5,some (.ref r),some (.int i),some due,some (sv x),x10])/\∃k1 dx1 t1 g1,KpE T Kc o ((l,.lst [.ref k0,.ref k1])::(r,.lst (zD L))::F1) G k0 dx0 t0 g0 bk (L.take (i+1)) k1 dx1 t1 g1 bk (L.take i)) ?cont2 fun N hN=>?main2
   case main2=>
    refine⟨_,rfl,_,rfl,b,_,rfl,.inr (.of (gB (g1 EG))),rfl,zAv _,_,rfl,?_⟩
    rw[if_neg aT,zAu]
    by_cases hin:x∈bk
    case neg=>exact zAJ hin (hN _ _ ⟨⟨_,rfl⟩,_,_,_,_,EG⟩)
    refine zJd hin ?_
    refine zSN ?_
    refine zFO (i:=1) rfl o1 o3 fun k2 dx2 t2 g2 G1 s1 k2n g2n kp2=>?_
    have E1:=EG.swap s1 k2n g2n kp2
    refine⟨_,rfl,l,_,1,1,rfl,rfl,gl E1,rfl,?_⟩
    have E2:=E1.put (ys:=[.ref k0,.ref k2]) nlF
    have e2:upd G1 l (.lst ([V.ref k0,V.ref k1].set 1 (.ref k2)))=upd G1 l (.lst [.ref k0,.ref k2]):=rfl
    rw[e2]
    generalize upd G1 l (.lst [.ref k0,.ref k2])=G2 at E2
    clear e2 E1 s1 k2n g2n kp2 EG G G1
    refine⟨_,rfl,b,rfl,⟨_,.of (gB (g1 E2))⟩,?_⟩
    refine jG (zBP K b (zD bk)) (fun j σ' G=>(∃x10:Option V,σ'=[some (.ref a),some (.int o),some (.ref b),some (.ref pw),some (.ref l),x5,some (.ref r),some (.int i),some due,some (sv x),x10])/\∃tn,KpE T Kc o ((l,.lst [.ref k0,.ref k2])::(r,.lst (zD L))::F1) G k0 dx0 t0 g0 bk (L.take (i+1)) k2 dx2 tn g2 (bk.take j) [])
     ⟨⟨_,rfl⟩,_,E2⟩ (fun j σ' G _ h=>by obtain⟨_,_,e⟩:=h;exact .of (gB (g1 e))) ?_ ?_
    ·rintro j y σ' G Nx' hN' hy ⟨⟨x10',rfl⟩,tn,E'⟩
     obtain⟨n,en,rfl⟩:=zAS hy
     have hj:j<bk.length:=(ak.mp en).1
     have etk:bk.take (j+1)=bk.take j++[n]:=by rw[aF hj,(ak.mp en).2]
     have lt:(bk.take j).length=j:=by rw[aO];omega
     refine⟨_,rfl,l,_,1,.ref k2,rfl,rfl,.of (gl E'),rfl,k2,dx2,_,rfl,E'.kp'.ins,rfl,_,rfl,k2,dx2,tn,g2,o,bk.take j,[],n,rfl,E'.kp',(bn n (bg en)).1,by omega,fun y hy=>(bn y (bN hy)).1,fun t2 G2 sx kp2=>hN' _ _ ⟨⟨_,rfl⟩,t2,?_⟩⟩
     rw[etk];exact(E'.sym.one sx kp2).sym
    rintro σ' G3 ⟨⟨x10',rfl⟩,tn,E3⟩
    rw[uS,bw]at E3
    clear E2 G2
    refine⟨_,rfl,_,rfl,(i:Int),rfl,r,_,rfl,.of (gr E3),fun p hp=>?_⟩
    rw[zFP L i (by omega)]
    have E4:=E3.add hp (u:=.lst (zD (L.take i))) trivial
    generalize upd G3 p (.lst (zD (L.take i)))=G4 at E4
    clear hp E3 G3
    refine⟨p,rfl,⟨_,.of (gl E4)⟩,?_⟩
    have ll:(zD (L.take i)).length<=i:=by rw[uS,aO];omega
    refine qK (jF K p (zD (L.take i))) [some (.ref l),some (.ref pw)] 1 (by omega) (fun j acc G=>acc=zD (L.take j)/\KpE T Kc o ((p,.lst (zD (L.take i)))::(l,.lst [.ref k0,.ref k2])::(r,.lst (zD L))::F1) G k0 dx0 t0 g0 bk (L.take (i+1)) k2 dx2 tn g2 bk (L.take j))
     ⟨rfl,E4⟩ (fun j acc G _ h=>⟨.of (gl h.2),by rw[h.1,uS,aO];omega⟩) ?_ ?_
    ·rintro j y acc G ys Nx' hN' hy hys ⟨rfl,E'⟩
     obtain⟨y',rfl⟩:=zBW hys
     have hj:j<(zD (L.take i)).length:=(ak.mp hy).1
     have hjl:j<L.length:=by rw[uS,aO]at hj;omega
     refine⟨_,rfl,l,_,1,.ref k2,rfl,rfl,.of (gr E'),rfl,k2,dx2,_,rfl,E'.kp'.ins,rfl,_,rfl,?_⟩
     dsimp only[kG,cu,dU]
     refine GV (by omega) (fun p hp=>aj _ (aj _ (aj _ hp))) E'.sym fun G1 E1=>hN' _ _ [_] rfl ⟨?_,E1.sym⟩
     rw[aF hjl,zFN,eV hjl];rfl
    rintro acc G5 ⟨rfl,E5⟩ D hD
    have el:L.take (zD (L.take i)).length=L.take i:=by rw[uS,aO,<-f9]
    rw[el]at E5⊢
    have E6:=E5.add hD (u:=.lst (zD (L.take i))) trivial
    generalize upd G5 D (.lst (zD (L.take i)))=G6 at E6
    clear E4 E5 hD G4 G5
    refine⟨_,rfl,_,rfl,(i:Int),rfl,r,_,rfl,.of (E6.fx (r,_) (aj _ (aj _ (aj _ (au ..))))).1,fun q hq=>?_⟩
    rw[zFP L i (by omega)]
    have E7:=E6.add hq (u:=.lst (zD (L.take i))) trivial
    generalize upd G6 q (.lst (zD (L.take i)))=G7 at E7
    clear E6 hq G6
    refine⟨.list (vI (L.take i)),.list (vI (L.take i)),zBF (gr E7),zBF (gl E7),(okL7 i).sh (by decide),(okL7 i).sh (by decide),_,rfl,zAM (okL7 i).2.1 ?_⟩
    exact hN _ _ ⟨⟨_,rfl⟩,_,_,_,_,E7.sub fun z hz=>aj _ (aj _ (aj _ hz))⟩
   clear EG G
   rintro σ G ⟨⟨x10',rfl⟩,k2,dx2,t2,g2,EG⟩
   refine⟨_,rfl,l,_,1,.ref k2,rfl,rfl,.of (gl EG),rfl,k2,dx2,_,rfl,EG.kp'.ins,rfl,_,rfl,?_⟩
   dsimp only[kG,cu,dU]
   refine GV hi7 (fun p hp=>aj _ (aj _ hp)) EG.sym fun G1 E1'=>?_
   have E1:=E1'.sym
   rw[<-hdue]
   refine⟨_,rfl,by rw[hdue];exact zJl _,_,rfl,jX rfl ?_⟩
   clear EG G E1'
   have okn:=okL7 (i+1)
   refine⟨_,rfl,l,_,1,.ref k2,rfl,rfl,.of (gl E1),rfl,k2,dx2,_,rfl,E1.kp'.ins,rfl,k2,dx2,t2,g2,o,bk,_,rfl,E1.kp',fun p hp=>?_⟩
   have E2:=(E1.add hp (u:=.lst (zD (L.take (i+1)))) trivial)
   generalize upd G1 p (.lst (zD (L.take (i+1))))=G2 at E2
   clear E1 hp G1
   refine⟨_,rfl,l,_,0,.ref k0,rfl,rfl,.of (gr E2),rfl,k0,dx0,_,rfl,E2.kp.ins,rfl,k0,dx0,t0,g0,o,bk,_,rfl,E2.kp,fun q hq=>?_⟩
   have E3:=(E2.add hq (u:=.lst (zD (L.take (i+1)))) trivial)
   generalize upd G2 q (.lst (zD (L.take (i+1))))=G3 at E3
   clear E2 hq G2
   refine⟨.list (vI (L.take (i+1))),.list (vI (L.take (i+1))),zBF (gr E3),zBF (gl E3),okn.sh (by decide),okn.sh (by decide),_,rfl,zAM okn.2.1 ?_⟩
   have E4:KpE T Kc o ((l,.lst [.ref k0,.ref k2])::(r,.lst (zD L))::F1) G3 k0 dx0 t0 g0 bk (L.take (i+1)) k2 dx2 t2 g2 bk (L.take (i+1)):=E3.sub fun z hz=>aj _ (aj _ hz)
   clear E3
   refine⟨_,rfl,l,_,0,.ref k0,rfl,rfl,.of (gl E4),rfl,k0,dx0,_,rfl,E4.kp.ins,rfl,k0,dx0,t0,g0,o,bk,_,rfl,E4.kp,fun p hp=>?_⟩
   have E5:=(E4.add hp (u:=.lst (zD (L.take (i+1)))) trivial)
   generalize upd G3 p (.lst (zD (L.take (i+1))))=G5 at E5
   clear E4 hp G3
   refine⟨_,rfl,_,rfl,_,_,rfl,rfl,((i+1:Nat):Int),rfl,r,_,rfl,.of (E5.fx (r,_) (aj _ (aj _ (au ..)))).1,fun q hq=>?_⟩
   rw[zFP L (i+1) (by omega)]
   have E6:=(E5.add hq (u:=.lst (zD (L.take (i+1)))) trivial)
   generalize upd G5 q (.lst (zD (L.take (i+1))))=G6 at E6
   clear E5 hq G5
   refine⟨.list (vI (L.take (i+1))),.list (vI (L.take (i+1))),zBF (gr E6),zBF (gl E6),okn.sh (by decide),okn.sh (by decide),_,rfl,zAM okn.2.1 ?_⟩
   have E7:KpE T Kc o ((l,.lst [.ref k0,.ref k2])::(r,.lst (zD L))::F1) G6 k0 dx0 t0 g0 bk (L.take (i+1)) k2 dx2 t2 g2 bk (L.take (i+1)):=E6.sub fun z hz=>aj _ (aj _ hz)
   clear E6
   refine⟨_,rfl,l,_,0,.ref k0,rfl,rfl,.of (gl E7),rfl,k0,dx0,_,rfl,E7.kp.ins,rfl,k0,dx0,t0,g0,o,bk,_,rfl,E7.kp,fun p hp=>?_⟩
   have E8:=(E7.add hp (u:=.lst (zD (L.take (i+1)))) trivial)
   generalize upd G6 p (.lst (zD (L.take (i+1))))=G8 at E8
   clear E7 hp G6
   have ebk:zD (L.take (i+1))=((L.take (i+1)).map tx).map V.str:=by unfold zD;rw[bc];rfl
   have lt1:(L.take (i+1)).length<=7:=by rw[aO];omega
   refine⟨p,(L.take (i+1)).map tx,rfl,.of (by rw[<-ebk];exact gl E8),by rw[ah];omega,?_,?_⟩
   ·rw[dq,bD]
    exact wj (fun h e=>h (jJ e)) (hS.nd.sublist (fg _ _))
   refine⟨_,rfl,l,_,0,.ref k0,rfl,rfl,.of (gr E8),rfl,k0,dx0,_,rfl,E8.kp.ins,rfl,k0,dx0,t0,g0,o,bk,_,rfl,E8.kp,fun q hq=>?_⟩
   have E9:=(E8.add hq (u:=.lst (zD (L.take (i+1)))) trivial)
   generalize upd G8 q (.lst (zD (L.take (i+1))))=G9 at E9
   refine⟨q,_,rfl,.inl (.of (gl E9)),rfl,_,rfl,jX (by rw[ah,uS]) ?_⟩
   exact hN _ _ ⟨⟨_,_,_,_,rfl⟩,_,_,_,_,_,E9.sub fun z hz=>aj _ (aj _ hz)⟩
  rintro σ G ⟨⟨x7,x8,x9,x10,rfl⟩,t0,k2,dx2,t2,g2,EG⟩
  refine⟨_,rfl,l,_,0,.ref k0,rfl,rfl,.of (gl EG),rfl,k0,dx0,_,rfl,EG.kp.ins,rfl,k0,dx0,t0,g0,o,bk,_,rfl,EG.kp,_,rfl,.tuple (vI bk),.tuple (vI bk),gP EG.kp.tld,gP (gB (g1 EG)),okB.sh (by decide),okB.sh (by decide),?_⟩
  rw[if_neg aT,zDH _ okB.2.1]
  exact k _
end
end Kn.Ln
end
section
namespace Kn
open PySem L2 Ln
noncomputable def yE (K:ag)(x:Str)(st:cT)(ps:List Str):Prop :=
 ∃(f:ao) (fd:aZ),aY K mainGlobals x=some (some (.ref f))/\Fun K x x st f fd/\cy K (.ref f)=true/\v7 K fd ps []
theorem zBf {K:ag}{x:Str}{st:cT}{f:ao}{oc kV d pm b ct:ai}{od e:Option ao}{g:Array (Option ai)}(ps:List Str)
  (h:∀(fd:aZ),Fun K x x st f fd->v7 K fd ps [])
  (a:aY K mainGlobals x=some (some (.ref f))) (l:K.lookup f=some ⟨oc,od,.func (c8 x x (defArgs st) (defBody st) (defScope st) .none kV d pm e b ct),g⟩) (c:ef K b x=true) (k:cy K (.ref f)=true):yE K x st ps :=
 ⟨f,_,a,zBN (st:=st) l c k,k,h _ (zBN (st:=st) l c k)⟩
noncomputable def zFQ (K:ag)(x:Str)(st:cT)(ps:List Str)(c:ao):Prop :=
 ∃(f:ao) (fd:aZ),aY K mainGlobals x=some (some (.ref f))/\FunC K x x st f fd c/\cy K (.ref f)=true/\v7 K fd ps []
theorem zST {K:ag}{x:Str}{st:cT}{f c:ao}{oc kV b pm ct:ai}{od d:Option ao}{e:Array (Option ai)}(ps:List Str)
  (g:∀(fd:aZ),Fun K x x st f fd->v7 K fd ps [])
  (a:aY K mainGlobals x=some (some (.ref f))) (l:K.lookup f=some ⟨oc,od,.func (c8 x x (defArgs st) (defBody st) (defScope st) .none kV b pm d (.ref c) ct),e⟩) (h:ef K (.ref c) x=true) (k:cy K (.ref f)=true):zFQ K x st ps c :=
 ⟨f,_,a,zHy (st:=st) l h k,k,g _ (zHy (st:=st) l h k).fn⟩
structure Top (K:ag) (c:ao):Prop where
 hv:zFQ K "heaviest" sHv ["pairs","many"] c
 is_name:yE K "is_name" zDX ["thing"]
 is_book:yE K "is_book" zDY ["thing"]
 is_whole:yE K "is_whole" zDZ ["thing","least","most"]
 is_order:yE K "is_order" zDa ["thing"]
 is_rising:yE K "is_rising" zEc ["things"]
 need_book:yE K "need_book" zDb ["thing"]
 need_order:yE K "need_order" zDd ["thing"]
 need_whole:yE K "need_whole" zEp ["thing","least","most"]
 need_name:yE K "need_name" zDe ["thing"]
 end_of:yE K "end_of" zDV ["text","order"]
 ends:yE K "ends_and_letters" zDW ["name","order"]
 rows:yE K "counted_rows" zDi ["book","order"]
 gcd:yE K "greatest_divisor" zDm ["one","other"]
 low:yE K "lowest" zDo ["up","down"]
 part_in:yE K "part_in" zDr ["row","letter"]
 cm:yE K "common_multiple" sCM ["one","other"]
 ww:yE K "whole_weight" sWW ["rows"]
 partsR:yE K "parts_by_rows" zEG ["rows"]
 left:yE K "left_of" zED ["weight","part"]
 follow:yE K "may_follow" zEF ["letter","wanted"]
 nexth:yE K "next_heaviest" zEL ["parts","order","layer","wanted","many"]
 ha:yE K "heaviest_along" sHA ["parts","order","weight","pattern","many"]
 is_edge:yE K "is_edge" zEd ["thing"]
 is_barred:yE K "is_barred" zEe ["thing"]
 is_wish:yE K "is_wish" zEf ["thing"]
 need_wish:yE K "need_wish" zEg ["thing"]
 out:yE K "left_out" zEh ["book","wish"]
 got:yE K "go_together" zEk ["one","other"]
 pl:yE K "patterns_of_length" sPL ["head","tail","length"]
 pats:yE K "patterns" zEm ["wish"]
 hf:yE K "heaviest_fitting" sHF ["rows","order","wish","many","barred"]
 lk:yE K "likeliest" sLk ["book","order","wish","many"]
 hn:yE K "heaviest_name" sHN ["rows","order","wish","barred"]
 cell:yE K "_law_cell" zDs ["_law_script","_law_k"]
 drawn:yE K "_law_drawn" zDt ["_law_script","_law_k","_law_many"]
 lname:yE K "_law_name" zDv ["_law_script","_law_at","_law_most"]
 lbook:yE K "_law_book" zDw ["_law_script","_law_at","_law_many","_law_most"]
 lwish:yE K "_law_wish" sLW ["_law_script","_law_at"]
 letters:∃t,aY K mainGlobals "LETTERS"=some (some (.str letters t))
 ml:∃t,aY K mainGlobals "MOST_LETTERS"=some (some (.int 8 t))
 mn:∃t,aY K mainGlobals "MOST_NAMES"=some (some (.int 8 t))
 mo:∃t,aY K mainGlobals "MOST_ORDER"=some (some (.int 3 t))
 w0:∃t,aY K mainGlobals "LEAST"=some (some (.int 0 t))
 w1:∃t,aY K mainGlobals "MOST"=some (some (.int 1 t))
 w2:∃t,aY K mainGlobals "HEAD"=some (some (.int 2 t))
 w3:∃t,aY K mainGlobals "TAIL"=some (some (.int 3 t))
 w4:∃t,aY K mainGlobals "BARRED"=some (some (.int 4 t))
 w5:∃t,aY K mainGlobals "TOLD"=some (some (.int 5 t))
 w6:∃t,aY K mainGlobals "MANY_PARTS"=some (some (.int 6 t))
 w7:∃t,aY K mainGlobals "MOST_EDGE"=some (some (.int 3 t))
 w8:∃t,aY K mainGlobals "MOST_BARRED"=some (some (.int 6 t))
 mlk:∃t,aY K mainGlobals "MOST_LIKELIEST"=some (some (.int 20 t))
 ib:ke K (.type "int") (.type "bool")=some false
 nought:∃a,aY K mainGlobals "NOUGHT"=some (some (.ref a))/\∀H,zX K H a [.int 0,.int 1]
 anyC:∃t,aY K mainGlobals "ANY"=some (some (.str "" t))
 kcl:∃C,KpCls K C/\zAV K C "__init__" "Keeper.__init__" zEz ["self","order"]/\zAV K C "book" "Keeper.book" zFA ["self"]/\zAV K C "given" "Keeper.given" zFC ["self"]/\zAV K C "hear" "Keeper.hear" zFE ["self","name"]/\zAV K C "forget" "Keeper.forget" zFG ["self","name"]/\zAV K C "give_likeliest" "Keeper.give_likeliest" sGL ["self","wish"]
 zlen:aY K mainGlobals "len"=some none
 zrange:aY K mainGlobals "range"=some none
 zall:aY K mainGlobals "all"=some none
 zisinstance:aY K mainGlobals "isinstance"=some none
 zstr:aY K mainGlobals "str"=some none
 ztuple:aY K mainGlobals "tuple"=some none
 zint:aY K mainGlobals "int"=some none
 zbool:aY K mainGlobals "bool"=some none
 zsorted:aY K mainGlobals "sorted"=some none
 zsum:aY K mainGlobals "sum"=some none
 zmin:aY K mainGlobals "min"=some none
 zmax:aY K mainGlobals "max"=some none
 zlist:aY K mainGlobals "list"=some none
 zset:aY K mainGlobals "set"=some none
 zzip:aY K mainGlobals "zip"=some none
 zenumerate:aY K mainGlobals "enumerate"=some none
 zdict:aY K mainGlobals "dict"=some none
theorem zSU:(di "abcdefghijklmnopqrstuvwxyz")=letters:=by decide+kernel
theorem zSV {K:ag}{t:Tok}(h:aY K mainGlobals "LETTERS"=some (some (.str (di "abcdefghijklmnopqrstuvwxyz") t))):∃t,aY K mainGlobals "LETTERS"=some (some (.str letters t)):=by
 rw[zSU]at h;exact⟨t,h⟩
theorem zSW {K:ag}{x:Str}{i:Int}{t:Tok}(h:aY K mainGlobals x=some (some (.int i t))):∃t,aY K mainGlobals x=some (some (.int i t)):=⟨t,h⟩
theorem zSX {K:ag}{x:Str}{a:ao}{i j:Int}{t t':Tok}{n:Nat}{b:Option ao}{c:Array (Option ai)}(h:aY K mainGlobals x=some (some (.ref a)))
  (l:K.lookup a=some ⟨.type "tuple",b,.seq #[.int i t,.int j t'] n,c⟩):∃a,aY K mainGlobals x=some (some (.ref a))/\∀H,zX K H a [.int i,.int j] :=
 ⟨a,h,fun H=>.inr ⟨_,_,_,l,rfl,rfl,by show 2<=sizeLine;decide,.cons ⟨t,rfl⟩ (.cons ⟨t',rfl⟩ .nil)⟩⟩
section
variable{P:aH}{w:aW}{K:ag}{mg:Str->Option ai}{base:bB}{h:bB}
theorem zSY {x:Str}{st:cT}{ps:List Str}{k:Nat}{sp:Sp}(X:K.In h)(G:h.Ns mainGlobals mg)(H:yE K x st ps)(ok:∀(f:ao) (fd:aZ),Fun K x x st f fd->FnOk P w K mg base zZ k f fd ps sp):zV P w K mg base k x ps sp:=by
 obtain⟨f,fd,a,F,kp,b⟩:=H
 exact⟨f,fd,ok f fd F,bT X G a,kp,b⟩
theorem zSZ {x:Str}{st:cT}{ps:List Str}{k:Nat}{sp:Sp}{c:ao}(X:K.In h)(G:h.Ns mainGlobals mg)(H:zFQ K x st ps c)(ok:∀(f:ao) (fd:aZ),FunC K x x st f fd c->FnOk P w K mg base zZ k f fd ps sp):zV P w K mg base k x ps sp:=by
 obtain⟨f,fd,a,F,kp,b⟩:=H
 exact⟨f,fd,ok f fd F,bT X G a,kp,b⟩
theorem zSa {c Tt:ao}(L:LamBase mg base c Tt)(X:K.In h)(G:h.Ns mainGlobals mg)(T:Top K c){f:ao}{fd:aZ}(F:Fun K "law" "law" j6 f fd):FnOk P w K mg base zZ 8 f fd ["_law_script"] (zBe K Tt):=by
 have B:Blt mg:=⟨bC X G T.zlen,bC X G T.zrange,bC X G T.zall,bC X G T.zisinstance,bC X G T.zstr,bC X G T.ztuple,bC X G T.zint,bC X G T.zbool,bC X G T.zsorted,bC X G T.zsum,bC X G T.zmin⟩
 have C:Cst K mg:=⟨let⟨t,e⟩:=T.letters;⟨t,bT X G e⟩,let⟨t,e⟩:=T.ml;⟨t,bT X G e⟩,let⟨t,e⟩:=T.mn;⟨t,bT X G e⟩,let⟨t,e⟩:=T.mo;⟨t,bT X G e⟩,T.ib⟩
 have d {x:Str} {st:cT} {ps:List Str} {k:Nat} {sp:Sp} (a:yE K x st ps) (b:∀(f:ao) (fd:aZ),Fun K x x st f fd->FnOk P w K mg base zZ k f fd ps sp):zV P w K mg base k x ps sp:=zSY X G a b
 have C2:Cst2 K mg:=⟨let⟨a,e,q⟩:=T.nought;⟨a,bT X G e,q⟩⟩
 have hA:∃t,mg "ANY"=some (.str "" t):=let⟨t,e⟩:=T.anyC;⟨t,bT X G e⟩
 have hM:∃t,mg "MOST_LIKELIEST"=some (.int 20 t):=let⟨t,e⟩:=T.mlk;⟨t,bT X G e⟩
 have z:=bC X G T.zlist
 have R:=bC X G T.zset
 have U:=bC X G T.zzip
 have Y:=bC X G T.zenumerate
 have ax:=bC X G T.zdict
 have Z:=bC X G T.zmax
 have aK:=bC X G T.zsorted
 have W:CstW mg:=⟨let⟨t,e⟩:=T.w0;⟨t,bT X G e⟩,let⟨t,e⟩:=T.w1;⟨t,bT X G e⟩,let⟨t,e⟩:=T.w2;⟨t,bT X G e⟩,let⟨t,e⟩:=T.w3;⟨t,bT X G e⟩,let⟨t,e⟩:=T.w4;⟨t,bT X G e⟩,let⟨t,e⟩:=T.w5;⟨t,bT X G e⟩,let⟨t,e⟩:=T.w6;⟨t,bT X G e⟩,let⟨t,e⟩:=T.w7;⟨t,bT X G e⟩,let⟨t,e⟩:=T.w8;⟨t,bT X G e⟩⟩
 have D:=d T.end_of fun f fd F=>zNf F
 have H:=d T.ends fun f fd F=>zNi F B D
 have l:=d T.rows fun f fd F=>zOB F H
 have g:=d T.is_name fun f fd F=>zNl F B C
 have o:=d T.is_book fun f fd F=>zNn F B C g
 have i:=d T.is_whole fun f fd F=>zNp F B C
 have n:=d T.is_order fun f fd F=>zNr F C i
 have aa:=d T.is_rising fun f fd F=>zQa F B U
 have I:=d T.need_book fun f fd F=>zNt F o
 have ab:=d T.need_order fun f fd F=>zNv F n
 have J:=d T.need_name fun f fd F=>zNx F g
 have aN:=d T.need_whole fun f fd F=>zRE F i
 have a0:=d T.is_edge fun f fd F=>zRX F B W g
 have a1:=d T.is_barred fun f fd F=>zRY F B W g aa
 have a2:=d T.is_wish fun f fd F=>zRZ F B C W i a0 a1
 have ac:=d T.need_wish fun f fd F=>zRa F a2
 have N:NeedsW P w K mg base:=⟨⟨I,ab,J,l⟩,ac⟩
 have E:=d T.out fun f fd F=>zRS F B W z R
 have u:=d T.gcd fun f fd F=>zRB F
 have al:=Ln.zV.imp (sp':=zDl) u fun h=>zQz h
 have v:=d T.low fun f fd F=>zRC F u
 have am:=Ln.zV.imp (sp':=zDn) v fun h=>zRA h
 have A:=d T.part_in fun f fd F=>zPC F B C2 am
 have a3:=d T.cm fun f fd F=>zPH F al
 have a4:=d T.ww fun f fd F=>zPK F B a3
 have an:=d T.partsR fun f fd F=>zPE F A ax
 have ap:=d T.left fun f fd F=>zOp F
 have a5:=d T.follow fun f fd F=>zOr F hA
 have M:=zSZ (P:=P) (w:=w) (base:=base) X G T.hv fun f fd F=>zPT F B L aK
 have a6:=d T.nexth fun f fd F=>zPZ F z a5 D ap M
 have a7:=d T.ha fun f fd F=>zPe F a6 ap M
 have a8:=d T.got fun f fd F=>zQp F hA
 have a9:=d T.pl fun f fd F=>zQq F B Z z U hA a8
 have ba:=d T.pats fun f fd F=>zQr F B W a9
 have as:=d T.hf fun f fd F=>zRW F B an a4 ba a7 M v
 have bb:=d T.lk fun f fd F=>zRd F hM N aN l E as
 have bd:=d T.hn fun f fd F=>zRq F as
 have O:=d T.cell fun f fd F=>zOJ F B
 have j:=d T.drawn fun f fd F=>zOK F O
 have y:=d T.lname fun f fd F=>zOL F B j
 have Q:=d T.lbook fun f fd F=>zOM F B j y
 have be:=d T.lwish fun f fd F=>zRN F B Y j
 obtain⟨p,s,mi,mb,mv,mh,mf,ml⟩:=T.kcl
 have r:KpC K p:=⟨s.cls,s.ord,s.tld,s.gon⟩
 have mI:zFI P w K mg base p 4 "Keeper" ["self","order"] (zCk p):=let⟨f,fd,F,m,b⟩:=mi;⟨f,fd,zRs F r ab,⟨s.makes,m.at_,m.fn,s.kp⟩,bT X G s.ns,b⟩
 have mB:q8 P w K mg base p 1 "book" ["self"] (zFB p):=let⟨f,fd,F,m,b⟩:=mb;⟨f,fd,zRu F r,m,s.cls,b⟩
 have mG:q8 P w K mg base p 1 "given" ["self"] (zFD p):=let⟨f,fd,F,m,b⟩:=mv;⟨f,fd,zRw F r z,m,s.cls,b⟩
 have mH:q8 P w K mg base p 4 "hear" ["self","name"] (zFF p):=let⟨f,fd,F,m,b⟩:=mh;⟨f,fd,zRx F B r J I,m,s.cls,b⟩
 have mF:q8 P w K mg base p 3 "forget" ["self","name"] (zFH p):=let⟨f,fd,F,m,b⟩:=mf;⟨f,fd,zSA F Z Y r J,m,s.cls,b⟩
 have mL:q8 P w K mg base p 7 "give_likeliest" ["self","wish"] (zCl Tt p):=let⟨f,fd,F,m,b⟩:=ml;⟨f,fd,zRy F r I ac E l bd,m,s.cls,b⟩
 exact zSS F B R ⟨j,y,Q,be,bb,mI,mB,mG,mH,mF,mL⟩
end
theorem zSb {c Tt:ao}{l:m9}{w:aW}{K:ag}{h:bB}{mg:Str->Option ai}{q j:ao}(X:K.In h)(G:h.Ns mainGlobals mg)(m:mg "law"=some (.ref q))
  {n b:Option ao} {o:Array (Option ai)} {p d f g a i:ai} (T:Top K c)
  (r:aY K mainGlobals "law"=some (some (.ref j))) (t:K.lookup j=some ⟨p,n,.func (c8 "law" "law" (defArgs j6) (defBody j6) (defScope j6) .none d f g b a i),o⟩) (u:ef K a "law"=true) (x:cy K (.ref j)=true) :
  ∃fd:aZ,(∀(s:aq) (v:ai),o4 s fd ⟨[v],[]⟩ [("_law_script",v)])/\∀base:bB,K.In base->base.Ns mainGlobals mg->LamBase mg base c Tt->FnOk l.prog w K mg base zZ 8 q fd ["_law_script"] (zBe K Tt):=by
 have e:=m.symm.trans (bT X G r)
 cases e
 have y:=zBN (st:=j6) t u x
 exact⟨c8 "law" "law" (defArgs j6) (defBody j6) (defScope j6) .none d f g b a i,fun s v=>.of_eq rfl,fun base _ _ L=>zSa L X G T y⟩
theorem zSc {c Tt:ao}{l:m9}{q:aH}{loose:List Str}{XP:(Str->Option ai)->bB->Prop}{YP:aW->bB->Prop}{d:DefRec}{K:pS->ag}(hn:l.most=some 63)(b:d.params.defaults=[])
  (i:∀(w:aW) (h:bB),YP w h->(K w.params).In h/\h.get? Tt=some (PySem.W.tabObj #[])) (e:∀w:aW,(K w.params).lookup Tt=none) (j:∀w:aW,zBy (K w.params) c Tt)
  (F:∀(w:aW) (mg:Str->Option ai) (g:ao) (h:bB),(K w.params).In h->h.Ns mainGlobals mg->mg d.name=some (.ref g)->
   ∃fd:aZ,(∀(s:aq) (u:ai),o4 s fd ⟨[u],[]⟩ [("_law_script",u)])/\∀base:bB,(K w.params).In base->base.Ns mainGlobals mg->LamBase mg base c Tt->FnOk l.prog w (K w.params) mg base zZ 8 g fd ["_law_script"] (zBe (K w.params) Tt)) :
  sX q loose XP YP l.row.toRowW d [] (fun f vs=>rJ f vs) :=
 L2.zNO (n:=63) (k:=8) (x :="_law_script") (sp:=fun w=>zBe (K w.params) Tt) hn (by decide) b ⟨rfl,by decide,by decide⟩ i e (fun w h X=>zBy.hd X (j w)) F (fun _ _ a ns hl m o=>⟨a,ns,rfl,o,hl,.inl m,fun _=>rfl⟩)
end Kn
end
section
open PySem PySem.W PyProof.Rows
set_option maxRecDepth 100000 in
set_option maxHeartbeats 0 in
theorem PySem.Challenge.cw_kinnames_k62_whole_given_holds : PySem.Challenge.rw_kinnames_k62_whole_given.Holds := by
 w_on;o_law
 refine PySem.W.holds_open (q:=Kn.kq) (loose:=Kn.klo) (Xt:=fun s=>xlAt Kn.kq [] s&&recOk [] s) (XP:=XL Kn.kq []) (Yf:=Hook.obs (kHook Kn.kfr Kn.kas Kn.kas_e)) (Ya:=Hook.val (kHook Kn.kfr Kn.kas Kn.kas_e)) (YP:=Hook.says (kHook Kn.kfr Kn.kas Kn.kas_e)) (N:=6726) Kn.hl (Hook.of (kHook Kn.kfr Kn.kas Kn.kas_e)) (Hook.keeps (kHook Kn.kfr Kn.kas Kn.kas_e)) (fun s e=>xl_of s (Bool.and_eq_true_iff.mp e).1) XL.keeps (by rfl) (by rfl) (by rfl) (fun s e=>recFacts_of (Bool.and_eq_true_iff.mp e).2) (by rfl) (by first|assumption|decide+kernel) (by decide+kernel) ⟨rfl,rfl,rfl,rfl,rfl,by decide+kernel⟩ ?hw ?hc
 (case hw=>w_witness2)
 refine Kn.zSc (c:=243) (Tt:=239) (K:=Kn.kfr0) (l:=PySem.Challenge.rw_kinnames_k62_whole_given) rfl rfl (fun w h Y=>L2.zNP (PySem.W.kIn_of Y) (by first|rfl|kernel_rfl)) (fun w=>by first|rfl|kernel_rfl) (fun w=>⟨none,#[(.str (.ofString "heaviest") 485),(.str (.ofString "heaviest") 486),(.str (.ofString "/claim/cut.py") 487),(.int (96) 0),(.int (2) 0),(.int (0) 0),(.int (0) 0),(.int (3) 0),(.ref 238),(.bool true),(.int (181) 0),(.ref 239),.none,(.ref 240),(.ref 241),(.ref 242),(.int (490) 0),(.int (96) 0),(.str (.ofString "/claim/cut.py") 491)],#[],(.ofString "/claim/cut.py"),491,3,0,true,181,0,by first|rfl|kernel_rfl,rfl,rfl,rfl,rfl,rfl,rfl,by decide⟩) ?F
 case F=>
  k_fill
  intro w mg fa h KX G hmg
  refine' Kn.zSb KX G hmg ?T ?a4 ?l4 ?c4 ?k4
  (case T=>
   refine' ⟨?hv,?is_name,?is_book,?is_whole,?is_order,?is_rising,?need_book,?need_order,?need_whole,?need_name,?end_of,?ends,?rows,?gcd,?low,?part_in,?cm,?ww,?partsR,?left,?follow,?nexth,?ha,?is_edge,?is_barred,?is_wish,?need_wish,?out,?got,?pl,?pats,?hf,?lk,?hn,?cell,?drawn,?lname,?lbook,?lwish,?letters,?ml,?mn,?mo,?w0,?w1,?w2,?w3,?w4,?w5,?w6,?w7,?w8,?mlk,?ib,?nought,?anyC,?kcl,?zlen,?zrange,?zall,?zisinstance,?zstr,?ztuple,?zint,?zbool,?zsorted,?zsum,?zmin,?zmax,?zlist,?zset,?zzip,?zenumerate,?zdict⟩
   (case is_name|is_book|is_order|is_rising|need_book|need_order|need_name|ww|partsR|is_edge|is_barred|is_wish|need_wish|pats=>refine' Kn.zBf _ (fun fd F=>F.binds fun _ _ _ _ _ _ us hl=>match us,hl with| [_],_=>rfl) ?kna ?knl ?knc ?knk;(case kna=>k_is);(case knl=>k_is);(case knc=>k_is);(case knk=>k_is))
   (case end_of|ends|rows|gcd|low|part_in|cm|left|follow|out|got|cell|lwish=>refine' Kn.zBf _ (fun fd F=>F.binds fun _ _ _ _ _ _ us hl=>match us,hl with| [_,_],_=>rfl) ?kna ?knl ?knc ?knk;(case kna=>k_is);(case knl=>k_is);(case knc=>k_is);(case knk=>k_is))
   (case is_whole|need_whole|pl|drawn|lname=>refine' Kn.zBf _ (fun fd F=>F.binds fun _ _ _ _ _ _ us hl=>match us,hl with| [_,_,_],_=>rfl) ?kna ?knl ?knc ?knk;(case kna=>k_is);(case knl=>k_is);(case knc=>k_is);(case knk=>k_is))
   (case lk|hn|lbook=>refine' Kn.zBf _ (fun fd F=>F.binds fun _ _ _ _ _ _ us hl=>match us,hl with| [_,_,_,_],_=>rfl) ?kna ?knl ?knc ?knk;(case kna=>k_is);(case knl=>k_is);(case knc=>k_is);(case knk=>k_is))
   (case nexth|ha|hf=>refine' Kn.zBf _ (fun fd F=>F.binds fun _ _ _ _ _ _ us hl=>match us,hl with| [_,_,_,_,_],_=>rfl) ?kna ?knl ?knc ?knk;(case kna=>k_is);(case knl=>k_is);(case knc=>k_is);(case knk=>k_is))
   (case hv=>refine' Kn.zST _ (fun fd F=>F.binds fun _ _ _ _ _ _ us hl=>match us,hl with| [_,_],_=>rfl) ?kna ?knl ?knc ?knk;(case kna=>k_is);(case knl=>k_is);(case knc=>k_is);(case knk=>k_is))
   (case letters=>refine' Kn.zSV ?knq;(case knq=>k_is))
   (case ml|mn|mo|w0|w1|w2|w3|w4|w5|w6|w7|w8|mlk=>refine' Kn.zSW ?knq;(case knq=>k_is))
   (case ib=>first|rfl|kernel_rfl|decide+kernel)
   (case nought=>refine' Kn.zSX ?knq ?knr;(case knq=>k_is);(case knr=>k_is))
   (case anyC=>refine' Kn.Ln.zOl ?knq;(case knq=>k_is))
   (case kcl=>refine' ⟨_,⟨?n0,⟨?n1,?n2,?n3,?n4⟩,?n5,?n6,?n7,?n8,?n9⟩,?mi,?mb,?mv,?mh,?mf,?ml⟩;(case n0=>k_is);(case n1|n2|n3|n4|n5|n6|n7|n8|n9=>k_is);(case mb|mv=>refine' Kn.Ln.zJm _ (fun fd F=>F.binds fun _ _ _ _ _ _ us hl=>match us,hl with| [_],_=>rfl) ?kna ?kni ?knl ?knc ?knk;(case kna=>k_is);(case kni=>k_is);(case knl=>k_is);(case knc=>k_is);(case knk=>k_is));(case mi|mh|mf|ml=>refine' Kn.Ln.zJm _ (fun fd F=>F.binds fun _ _ _ _ _ _ us hl=>match us,hl with| [_,_],_=>rfl) ?kna ?kni ?knl ?knc ?knk;(case kna=>k_is);(case kni=>k_is);(case knl=>k_is);(case knc=>k_is);(case knk=>k_is)))
   (case zlen|zrange|zall|zisinstance|zstr|ztuple|zint|zbool|zsorted|zsum|zmin|zmax|zlist|zset|zzip|zenumerate|zdict=>k_is))
  (case a4=>k_is);(case l4=>k_is);(case c4=>k_is);(case k4=>k_is)
end
