import PyProof.Rows.All
import Wide.All
import OpenK.AllK
import Wide.FinOn
import Lean
import PyProof.EqAt
import PyProof.EqKinds
import PyProof.TupleCall
import PyProof.CompFree
import KE.KSortAsk
import KE.KSortTup
import KE.KRevSl
import PyProof.ZipIter
import PyProof.Draws
import PyProof.TupleIter
import PyProof.Rows.ZipGen
import PyProof.WalksMore
import PyProof.Rows.InDataRows
import PyProof.AttrMissSeq
import KE.KDictOf
import KE.KSortKey
import KE.KLam
import KE.KxText
import PyProof.Rows.Range3
import KE.KDictList
import PyProof.StationsW
import PyProof.Rows.Catch
import PyProof.ExcClass3
import PyProof.ExcBaseAll.ValueError
import OpenK.KOwn
import KE.KIsAll
import PyProof.ExcAttrAll.ValueError
import PyProof.Rows.SetFrom
import PyProof.ListMulRoad
import PyProof.StrOps2
import PyProof.FactsAll.tuple_2
import PyProof.ListStr
import PyProof.FitsBits
import PySem.Challenge.RW_kinnames_k34_whole_sums
open PySem.Heap renaming get?_push_of_some→ae,get?_push_size→aE,lt_size→aF,get?_update_other→bC,size_push→bI,get?_update_self→gq,SameBut→ig,IsTuple→oV,size_update→pK
open PySem renaming wpAny_bind→af,Value→aj,Addr→ak,Shared→au,wpAny_pure→az,sizeLine_eq→aI,Program→aJ,FuncData→bc,World→bh,Heap→bF,Expr→bS,Around→bX,wpAny_callSpecial?_slot→b0,wpAny_setField_rec→cj,wpAny_call_entry→cp,wpAny_newObj_type→cu,boot_len→cw,Stmt→cJ,wpAny_field→cX,wpAny_mono→cY,Builtin→di,wpAny_truthy_bool→dt,wpAny_seqItems→dz,wpAny_holding→dX,PyData→d5,IsPair→eh,codeAny_builtin→eP,mem_of_lookup→eR,Spec→eU,wpAny_Call_Name_kw→eW,SetTable→e7,wpAny_passesOwn→fk,wpAny_setState_of→fC,wpAny_pyIter_tuple→fV,tupleKind_room_in1→fY,wpAny_rule→fZ,Scope→gc,wpAny_attempt→gm,plainId_quiet→gn,strKind→gp,wpAny_pyIter_list→gx,codeAny_mono→ij,wpAny_typeOf→ik,wpAny_pyIter_zip→ir,wpAny_setEntries_of→iA,wpAny_ite_split→iI,call_meetsIn→iT,IsZip→iV,fits_of_scanBound→i0,isSubtype_type→i8,builtinLookup_eq_fast→je,call_meets→jh,wpAny_isInstance→ji,wpAny_onRaise→jk,wpAny_loadName_local→jm,wpAny_newFunctionEnv→jo,wpAny_updateSeq_pair→jq,wpAny_execs_nil→jy,wpAny_Constant_int→kx,NameKind→lh,wpAny_newTuple→lz,wpAny_letOwnedTupleGo_zip→lJ,list_append→lP,wpAny_pyIter_slot→lX,wpAny_comprehension_free→lZ,wpAny_newList→md,noFill_tuple_add→mm,wpAny_Call_method0_late→mq,wpAny_askSetting→mE,wpAny_Name→mI,IsPart→mK,codeAny_compStart_list→mN,wpAny_loadPart'→mX,typeLookup_type→nh,wpAny_isTrue_Compare1→ni,Draws→nD,wpAny_letGo→nE,isSubtype_stop→nF,entryFor_alias→nK,wpAny_fieldsOf→nO,wpAny_Tuple_spliced→nR,evalArgs_none→nT,wpAny_dictSet_pairs→nU,seq_tuple_add→nZ,evalPart_none→n4,Paired→oj,wpAny_assign_Name→oD,BindsTo→oG,concat_meets→oH,wpAny_sequenceKey→oJ,slot_list_getitem→oM,call_sum_walkAnyS→oR,meets_dict_values→oS,wpAny_pyIter_enum→oU,wpAny_storeSet_of→o7,wpAny_setEpoch_of→pj,Params→pq,wpAny_pyHash_str→pA,wpAny_eqBool_str→pB,wpAny_execs_cons→pD,Fin→pH,entryFor_of_tree→pJ,wpAny_of_eq→pS,wpAny_specialOf→pX,codeAny_of_tree→qe,wpAny_updateSeq→qh,Keyword→qj,GenState→ql,CmpOp→qm,Result→qp,wpAny_call→qq,typeIs_int→qu,PlainAttrs→qv,call→qx,wpAny_setField→rf,wpAny_runValue→rm,KeyKind→rN,intBits_le_64→rO,call_list_seq→si,wpAny_standAt→sr,wpAny_handled→sy,signature?_of→sN,Arguments→sS,Within→sY
open PySem.W renaming Frag→ag,nsIn→bf,mg_none_of→bG,mg_of→bW,kia_one→dD,fnOf→dF,keepIn→dW,kas_place→d6,emptyDict→eg,codeIn→eX,instObj→fj,kas_desc→fO,looks_pair→gz,kas_asc→iU,kas_descPart→ki,kitOne→lg,methodObj→lN,cellsFrom_some→mJ,kas_rev→mO,OpenLaw→mZ,lookIn→nA,kitx_list→oE,kitx_dict→oF,kas_bin→oO,kas_sort→oP,plainGet→pE,kas_count→pG,SharedT→qi,findIn→qo,CodeHd→rh,WalkO→sF,kla_obj→tE,kat_cons→uf
open List renaming getElem?_eq_some_iff→ah,length_map→ai,mem_map→ao,mem_cons_self→aq,getElem?_map→ar,getElem?_eq_getElem→av,mem_cons_of_mem→aw,length_append→ay,take_succ_eq_append_getElem→aA,map_cons→aD,mem_filter→aG,replicate→aH,mem_cons→aL,length_cons→aM,getElem?_append_right→aO,size_toArray→aP,map_append→aQ,getElem?_append_left→aR,mem_singleton→aS,sum_cons→aT,mem_flatMap→aU,map_map→aV,mem_append_right→aX,mem_of_getElem?→aY,length_take→aZ,take_length→bo,mem_append→bt,nodup_cons→bx,range→bA,pairwise_map→bB,mem_range→bK,mem_flatten→bO,length_singleton→bR,length_range→bU,length_drop→bV,mem_append_left→bY,getD_eq_getElem?_getD→bZ,lookup_cons→b8,filter_cons_of_pos→cc,filter_cons_of_neg→cg,getElem_mem→cq,replicate_succ→cz,foldl_cons→cC,pairwise_cons→cM,length_replicate→cV,mem_singleton_self→c6,length_eq_zero_iff→c7,flatMap_cons→c9,mem_of_mem_take→da,filter_append→dh,map_congr_left→dj,Nodup→dm,length_filter_le→dq,foldl_append→dw,count_pos_iff→dA,range_succ→dE,getElem_of_mem→dM,flatMap_append→dN,append_assoc→dO,nodup_append→dQ,pairwise_flatMap→dS,cons_append→d8,take_of_length_le→eu,getElem_inj→eC,not_mem_nil→eD,drop_zero→eK,map_eq_nil_iff→eS,flatten_append→eT,getElem?_eq_none→fc,drop_eq_getElem_cons→fi,append_nil→fm,forIn_cons→fw,flatten_cons→fA,any_cons→fF,forIn_nil→fN,lt_irrefl→fP,getElem_map→fR,length→fU,drop_of_length_le→f7,find?_cons→gd,sum_append→gh,eq_nil_or_concat→gr,take_append_drop→gu,pairwise_flatten→gv,take_sublist→gy,replicate_succ'→ic,pairwise_append→ie,toArray→il,all_eq_true→iq,getElem?_zip_eq_some→iw,getElem?_range→ix,nil_append→iF,filter_congr→ja,lookup_cons_self→jd,ext_getElem→jj,take_append_of_le_length→js,drop_append_of_le_length→jt,mem_erase_of_ne→ju,count_eq_zero_of_not_mem→jv,length_zip→kc,filterMap_cons→ke,filter_sublist→kg,map_nil→kh,count→lB,map_replicate→lD,map→lE,length_eraseIdx_of_lt→lG,pairwise_iff_getElem→lH,count_append→lV,length_erase_of_mem→mh,getElem?_replicate→mj,nodup_range→mx,zipIdx_cons→my,getElem?_set_self→mH,length_pos_of_mem→mT,all_map→mU,of_mem_zip→mW,zipIdx_nil→mY,count_cons→m9,count_cons_of_ne→nj,take_eq_take_min→nk,getElem?_toArray→nr,getElem?_set_ne→nz,take_zero→nI,mem_of_mem_drop→nN,mem_map_of_mem→nV,all_cons→n6,lt_trans→n8,mem_filterMap→om,reverse_cons→oN,count_filter→oX,drop_append→pN,map_flatMap→pP,flatMap_map→pQ,isEmpty_iff→pR,length_nil→pW,foldl→qw,map_take→sJ,any_map→tI,not_lt→ud
open Option.some renaming inj→aB
open Nat renaming le_refl→aC,ne_of_lt→bp,zero_le→bw,lt_of_lt_of_le→bz,le_trans→bJ,lt_irrefl→bN,lt_succ_of_lt→bT,ne_of_gt→de,lt_succ_self→dG,le_of_eq→fz,sub_self→f6,le_succ→iM,succ_mul→iS,pow_le_pow_right→jw,mul_le_mul_right→jx,sub_zero→kj,lt_trans→mL,add_zero→mQ,gcd_comm→mR,not_lt_zero→ng,mul_le_mul_left→nX,le_of_lt→oA,mul_succ→o6,dvd_mul_left→pL,mod_lt→rj,mul_le_mul→rA,zero_add→sX,mul_comm→sZ,gcd→tG,Coprime→uh
open Bool renaming false_ne_true→bg,and_eq_true→bj,eq_iff_iff→dC,not_eq_true'→eO,false_eq_true→eY,false_and→fL,or_eq_true→iH,false_or→lY,and_self→ma,and_false→nC,true_and→oa,and_true→sQ,true_or→tj
open Array renaming length_toList→br,getElem?_eq_getElem→dJ,getElem?_toList→eA,toList_inj→jf,toList_push→lM,getElem?_eq_none→mV,toArray_toList→nM,forIn_toList→ox,toList→oB,ext→vn
open Int renaming le_of_lt→bD,eq_ofNat_of_zero_le→bQ,mul_pos→cy,toNat_natCast→du,mul_le_mul_of_nonneg_right→dI,pow_pos→dR,mul_nonneg→dZ,mul_comm→eG,dvd_trans→eI,gcd_dvd_right→fB,mul_le_mul→ia,pos_of_mul_pos_left→iN,zero_mul→iW,pow_succ→iX,gcd→jl,mul_lt_mul_of_pos_right→ko,fdiv_eq_ediv_of_nonneg→kz,eq_of_mul_eq_mul_right→lC,emod_lt_of_pos→lF,add_mul→lW,gcd_dvd_left→mC,emod_nonneg→nc,mul_ediv_cancel'→nJ,pow_add→nL,ediv_mul_cancel→nW,lt_or_eq_of_le→oy,zero_add→oY,dvd_mul_right→o2,dvd_refl→o4,ediv_le_self→pM,ediv_nonneg→qc,mul_eq_zero→qd,add_nonneg→ri,mul_assoc→sI,le_of_dvd→sL,mul_zero→tF,le_trans→tK,ofNat_le→tL,lt_trans→tO,le_refl→uk,sub_mul→um
open PySem.PassesOwn renaming never→bE
open PySem.Challenge renaming pw_kinnames_k34_whole_sums→bH
open PySem.F renaming plainAttrs_dict→bL,slot_dict_items→cZ,plainAttrs_list→c8,type_dict_items→dy,slot_dict_values→eE,slot_tuple_iterator_next→eZ,slot_list_extend→fH,type_list_extend→fI,slot_list_append→fJ,type_list_append→fK,slot_list_getattribute→fQ,called_set→gb,slot_dict_setdefault→gi,slot_zip_next→gj,args_tuple_add_2→iC,type_dict_values→iE,entry_tuple_add→iL,slot_tuple_add→iR,plainAttrs_str→iZ,slot_dict_get→jc,args_list_append_2→jn,slot_dict_itemiterator_iter→jr,args_tuple_iterator_next_1→jz,type_dict_setdefault→ka,entry_list_append→kf,entry_tuple_iterator_next→km,slot_list_append→lx,args_dict_values_1→lA,entry_dict_values→lI,plain_extend_loop→lL,args_zip_next_1→lU,args_dict_get_3→mw,entry_zip_next→mz,plain_list_iadd→mG,entry_dict_get→mM,slot_set_iter→nu,args_object_init_3→nH,typeCall_zip_2→pI,slot_int_rmul→pV,newCall_zip_2→p9,entry_zip_new→qa,plain_set_new→qf,called_zip→tw
open Prod.mk renaming inj→bM
open PySem.Obj renaming mapSeq→bP,data_mapFields→ou,putSet→rk
open PySem.Builtin.SmallTypes renaming nextOf→ck,ownedTupleIsFree→cn,ownedTupleHandOut→iz
open PyProof.Rows renaming boot_isinstance→cI,callWith_type1→cQ,slot_tuple_getitem→cU,boot_all→fg,boot_tuple→fS,subscriptTail_builtinR→fW,boot_list→f9,listUpdate_at→gk,boot_sum→gs,get?_update_seq→iG,callWith_builtin1→jg,Subscript_→lr,slot_tuple_getitem→lu,AllBare→lO,seqEpoch_at→lR,boot_bool→mS,entry_tuple_getitem→nS,getItem_tuple→n5,args_tuple_getitem→oo,IntsAre→oK,listItems_at→oQ,entry_list_sort→qb,IsTup→qk,slicePart_none→qr,size_push'→qz,slot_list_sort→rg,tupleItemsOf_→sg,boot_sorted→sR,StrsAre→tm,boot_dict→tJ,boot_str→tP,boot_int→tQ,boot_max→tS,boot_min→tT,UnaryOp_→tY,tail_any→tZ,SortKind→ue,lt_str→va,envOfC→vb
open List.Pairwise renaming imp_of_mem→cK,map→o5
open PySem.Paired renaming length→dB,snoc→uc
open PySem.Str renaming ofString→dH,length→qt,empty→vk
open PySem.PyData renaming canLayAll0→dP,canLay0→eJ,eqv→hV,depth→iY,depthAll→kb,eqvAll→su,strOk→tH
open PySem.Value renaming isStrOf→dU,isStrOf_shape→eQ,isInt→tV
open List.Perm renaming refl→dY,append_left→tR,length_eq→uy,nodup_iff→uz,cons_inv→vf,mem_iff→vg
open PySem.Around renaming under_plainId→d7
open PySem.Builtin.Str renaming strSliceIndices→d9,occurrences→iK,subAt→pk
open Ne renaming symm→eN
open PySem.Calls renaming spliced_cons→eV,callWith_builtin→fX,spliced_nil→iQ,Name_function_global→ky,evalArgs_plain→nB
open PySem.SetTable renaming below→e8,grown→fT,laid→sM,fits→sO
open PySem.Builtin.Slice renaming slicePlaces→fh,sliceAdjust→iu,sliceApplied→ll,slicePartIndex→pU,sliceFields→rM
open False renaming elim→fD
open PySem.Builtin.Tuple renaming tupleExact→fE,tupleItemsOf→lq,tupleIsExact→rq
open PySem.Builtin.List renaming listTooLong→fG,listLengthHint→kr,listExtendWith→ku,listSameRef→mi
open Prod renaming ext→fM,snd→oZ,fst→ug
open PySem.SeqAt renaming shaped→ip,EqAt→vc
open PySem.Heap.SameBut renaming update→iy,refl→vh
open Option renaming isSome_iff_exists→iB,bind_eq_some_iff→iJ,map_eq_some_iff→iP,isSome_map→lQ,getD_none→pF,getD_some→pO,map_some→pT
open List.cons renaming inj→iD
open PyProof.Rows.F renaming plain_set_update_loop→iO,entry_set_update_loop→mD
open PySem.Txt renaming startswith→i9,endswith→kl,join→oT,slice→sV
open Nat.Coprime renaming dvd_of_dvd_mul_left→jb
open Classical renaming byContradiction→lK,choose_spec→nq
open PySem.Shared renaming TypeIs→me,heap→nG
open PySem.IsL renaming update→mr
open PySem.Builtin.Dict renaming updateFrom→mB,addKeywords→sA,selfAndRest→sC,pairItems→tD
open PySem.Draws renaming list→mP
open Sum.inr renaming inj→nv
open PySem.SeqAt.EqAt renaming bool_bool→ny,str_bool→nP,bool_str→nQ,int_str→og,str_int→oh,int_int→oq,str_str→ot,none_bool→ua,bool_none→ub,none_int→uo,none_str→ur,bool_int→uu,int_none→uv,int_bool→uw,str_none→ux,same→vo
open PySem.Builtin.Int renaming intBits→nY
open PySem.Moved renaming eq_with→n9
open PySem.AutoListH renaming list___mul___list_int_3→oz
open PySem.Heap.IsTuple renaming push→oW
open String renaming splitOnAux→o8,splitOn→ro
open PySem.pickOrder renaming go→o9
open PySem.SetTable.below renaming go→ph
open PySem.Heap.DictOf renaming new→pY
open StateT renaming run_pure→pZ
open PySem.Builtin.Frozenset renaming updateFrom→qg,newClass→rl,sizeOf→sP,slot0→sW
open PySem.Walks renaming list→qy
open PySem.EqNone renaming eq_none_none→rB,eq_none_bool→rC,eq_bool_none→rD,ne_none_none→rG,ne_none_bool→rH,ne_bool_none→rJ,eq_none_int→rP,eq_none_str→rQ,eq_int_none→rR,eq_str_none→rT,ne_none_int→rW,ne_none_str→rX,ne_int_none→rY,ne_str_none→r9
open PySem.EqMixed renaming eq_bool_str→rE,eq_str_bool→rF,ne_bool_str→rK,ne_str_bool→rL,eq_int_str→rS,eq_str_int→rV,ne_int_str→rZ,ne_str_int→se
open PySem.Builtin.Range renaming rangeSize→sT
open PyProof.Rows.IsTup renaming new→sU
open Decidable renaming not_iff_not→tU
open Sum.inl renaming inj→tX
open PySem.Heap.IsSliceOf renaming new→vd
open PySem.W.WShape renaming has→ve
open List.Sublist renaming refl→vi,map→vm
open PySem.DictEntry renaming refKey→vj
open PySem.W.Frag renaming In→vp
set_option Elab.async false
set_option linter.all false
set_option maxRecDepth 100000
set_option maxHeartbeats 4000000
section
namespace L2
open PySem
noncomputable def inClass (s:cJ)(j:Nat):cJ:=match s with
 | .ClassDef _ _ _ body _ _ _ _ _ _ _=>body.getD j (.Pass ⟨0,0,0,0⟩)
 |_=>.Pass ⟨0,0,0,0⟩
noncomputable def defArgs (s:cJ):sS:=match s with
 | .FunctionDef _ a _ _ _ _ _ _ _ _=>a
 |_=>{posonlyargs:=[],args:=[],vararg:=none,kwonlyargs:=[],kw_defaults:=[],kwarg:=none,defaults:=[]}
noncomputable def defBody (s:cJ):List cJ:=match s with
 | .FunctionDef _ _ b _ _ _ _ _ _ _=>b
 |_=>[]
noncomputable def defScope (s:cJ):gc:=match s with
 | .FunctionDef _ _ _ _ _ _ sc _ _ _=>sc
 |_=>{kind:=.function,names:=[],isGenerator:=false,isCoroutine:=false}
end L2
namespace Kn
open PySem
noncomputable def top (i:Nat):cJ:=bH.main.body.getD i (.Pass ⟨0,0,0,0⟩)
end Kn
namespace Kn
open PySem PySem.W PyProof.Rows
noncomputable def topRunT (tb:String->Option di)(p:aJ)(w:bh)(n₀:Nat)(ann:Option aj):Nat->qi->Thread->Option qi
 |0,_,_=>none
 |n+1,s,t=>match through t with
  |true=>some s
  |false=>match stepOk n₀ ann t with
   |false=>none
   |true=>match stepT (denote tb) p w s t with
    |some (s',t')=>topRunT tb p w n₀ ann n s' t'
    |none=>none
theorem topRun_of {tb:String->Option di}{p:aJ}{w:bh}{n₀:Nat}{ann:Option aj}:∀{n:Nat}{s s':qi}{t:Thread},topRunT tb p w n₀ ann n s t=some s'->topRun tb p w n₀ ann n s.abs t=some s'.abs
 |0,_,_,_,h=>by cases h
 |n+1,s,s',t,h=>by
  unfold topRunT at h
  unfold topRun
  cases he:through t with
  |true=>rw[he]at h;cases h;rfl
  |false=>
   rw[he]at h
   cases hk:stepOk n₀ ann t with
   |false=>rw[hk]at h;cases h
   |true=>
    rw[hk]at h
    cases hs:stepT (denote tb) p w s t with
    |none=>rw[hs]at h;cases h
    |some r=>obtain⟨s₂,t₂⟩:=r;rw[hs]at h;rw[stepT_spec hs];exact topRun_of h
noncomputable def insAll:List Obj->Nat->BT->Option BT
 | [],_,T=>some T
 |o::os,n,T=>match((T.ins n o).get n).isSome with
  |true=>insAll os (n+1) (T.ins n o)
  |false=>none
theorem insAll_abs {life:Life}:∀{os:List Obj}{n:Nat}{T T':BT},insAll os n T=some T'->(absHeap T' (n+os.length) life).objs.toList=(absHeap T n life).objs.toList++os
 | [],n,T,T',h=>by cases h;simp
 |o::os,n,T,T',h=>by
  unfold insAll at h
  cases hi:((T.ins n o).get n).isSome with
  |false=>rw[hi]at h;cases h
  |true=>
   rw[hi]at h
   have h1:=insAll_abs (life:=life) h
   have h2:=absHeap_ins (life:=life) hi
   have e:n+1+os.length=n+(o::os).length:=by rw[aM];omega
   rw[<-e,h1,h2]
   show((absHeap T n life).objs.push o).toList++os=_
   rw[lM,dO];rfl
theorem insAll_of {s:au}{T:BT}(h:insAll s.heap.objs.toList 0 .nil=some T):(SharedT.mk T s.heap.objs.size s.heap.life s.gens s.drawn s.toks s.os).abs=s:=by
 have h1:=insAll_abs (life:=s.heap.life) h
 have e0:(absHeap .nil 0 s.heap.life).objs.toList=[]:=rfl
 have e1:0+s.heap.objs.toList.length=s.heap.objs.size:=by rw[sX];rfl
 rw[e0,iF,e1]at h1
 have h2:absHeap T s.heap.objs.size s.heap.life=s.heap:=by
  have h3:(absHeap T s.heap.objs.size s.heap.life).objs=s.heap.objs:=jf.mp h1
  have h4:(absHeap T s.heap.objs.size s.heap.life).life=s.heap.life:=rfl
  generalize absHeap T s.heap.objs.size s.heap.life=A at h3 h4
  cases A
  obtain⟨⟨o,l⟩,_,_,_,_⟩:=s
  subst h3 h4
  rfl
 unfold SharedT.abs
 dsimp only
 rw[h2]
noncomputable def topFromT (tb:String->Option di)(p:aJ)(w:bh)(N:Nat)(s₀:au)(T₀:qi):Option au :=
 match s₀.heap.isNs mainGlobals&&s₀.gens.size==0 with
 |true=>(topRunT tb p w s₀.heap.objs.size (s₀.heap.nsMap mainGlobals "__annotations__") N T₀ (topStub p)).bind fun t₁=>match staticsOk (importedModules p.main.body) s₀.heap t₁.abs.heap&&namesBound p t₁.abs.heap&&gensDone t₁.abs&&laidKept s₀.heap t₁.abs.heap with
   |true=>some t₁.abs
   |false=>none
 |false=>none
theorem topFrom_of {tb:String->Option di}{p:aJ}{w:bh}{N:Nat}{s₀:au}{T₀:qi}{s₁:au}(e:T₀.abs=s₀)(h:topFromT tb p w N s₀ T₀=some s₁):topFrom tb p w N s₀=some s₁:=by
 unfold topFromT at h
 unfold topFrom
 cases hb:s₀.heap.isNs mainGlobals&&s₀.gens.size==0 with
 |false=>rw[hb]at h;cases h
 |true=>
  rw[hb]at h
  dsimp only at h⊢
  obtain⟨t₁,h1,h2⟩:=iJ.mp h
  have h3:=topRun_of h1
  rw[e]at h3
  rw[h3]
  exact h2
noncomputable def openEndsT (tb:String->Option di)(p:aJ)(w:bh)(N:Nat):Option au:=(fencedOpening tb p w N).bind fun s₀=>(insAll s₀.heap.objs.toList 0 .nil).bind fun T=>topFromT tb p w N s₀ ⟨T,s₀.heap.objs.size,s₀.heap.life,s₀.gens,s₀.drawn,s₀.toks,s₀.os⟩
theorem openEnds_of {tb:String->Option di}{p:aJ}{w:bh}{N:Nat}{s₁:au}(h:openEndsT tb p w N=some s₁):openEnds tb p w N=some s₁:=by
 obtain⟨s₀,h1,h2⟩:=iJ.mp h
 obtain⟨T,h3,h4⟩:=iJ.mp h2
 unfold openEnds
 rw[h1]
 exact topFrom_of (insAll_of h3) h4
theorem openMap_of {tb:String->Option di}{p:aJ}{w:bh}{N:Nat}{α:Type}{F:au->α}{r:α}(h:(openEndsT tb p w N).map F=some r):(openEnds tb p w N).map F=some r:=by
 obtain⟨s₁,h1,h2⟩:=iP.mp h
 rw[openEnds_of h1,pT,h2]
end Kn
open PySem PySem.W PyProof.Rows
namespace Kn
open L2
noncomputable def kE (P:pq)(x:Str)(t:Nat)(v:aj):DictEntry:=⟨PyData.keyHash P x,.str x t,v⟩
noncomputable def kF (s:cJ)(nm qn:Str)(df kd doc pm:aj)(an:Option ak)(cd ct:aj)(c:aj)(d:Option ak)(sl:Array (Option aj)):Obj :=
 ⟨c,d,.func (dF nm qn (defArgs s) (defBody s) (defScope s) df kd doc pm an cd ct),sl⟩
noncomputable def kC (n:Str)(a b c:Nat)(i3 i4 i5 i6 i7:Int)(r8:ak)(b9:Bool)(i10:Int)(r11 r13 r14 r15:ak)(i16 i17:Int)(e:Nat):Obj :=
 ⟨.type "code",none,.fields #[.str n a,.str n b,.str (.ofString "/claim/cut.py") c,.int i3 0,.int i4 0,.int i5 0,.int i6 0,.int i7 0,.ref r8,.bool b9,.int i10 0,.ref r11,.none,.ref r13,.ref r14,.ref r15,.int i16 0,.int i17 0,.str (.ofString "/claim/cut.py") e],#[]⟩
noncomputable def kD (s:cJ)(n m:Str)(t:Nat)(c:ak):Obj:=kF s n n .none .none .none (.str m t) none (.ref c) .none (.type "function") none #[]
noncomputable def kfr0:pq->Frag:=fun P=>(nat_lit 2,⟨.none,none,.dict #[] 0,#[]⟩)::
 (nat_lit 3,⟨(.type "dict"),none,.dict #[kE P (.ofString "__name__") 165 (.str (.ofString "law_kinnames_k34_whole_sums") 709),kE P (.ofString "__doc__") 166 .none,kE P (.ofString "__package__") 167 .none,kE P (.ofString "__loader__") 168 (.builtin "__main__.__loader__#opaque"),kE P (.ofString "__spec__") 169 .none,kE P (.ofString "__annotations__") 170 (.ref 6),kE P (.ofString "__builtins__") 171 (.ref 4),kE P (.ofString "__file__") 173 (.str (.ofString "/claim/cut.py") 172),kE P (.ofString "__cached__") 174 .none,kE P (.ofString "LikeError") 206 (.ref 24),kE P (.ofString "NoBook") 222 (.ref 37),kE P (.ofString "NoOrder") 238 (.ref 49),kE P (.ofString "NoName") 254 (.ref 61),kE P (.ofString "NoWish") 270 (.ref 73),kE P (.ofString "NoNumber") 286 (.ref 85),kE P (.ofString "LETTERS") 290 (.str (.ofString "abcdefghijklmnopqrstuvwxyz") 289),kE P (.ofString "MOST_LETTERS") 292 (.int (8) 291),kE P (.ofString "MOST_NAMES") 294 (.int (8) 293),kE P (.ofString "MOST_ORDER") 296 (.int (3) 295),kE P (.ofString "is_name") 302 (.ref 92),kE P (.ofString "is_book") 308 (.ref 97),kE P (.ofString "is_whole") 317 (.ref 104),kE P (.ofString "is_order") 324 (.ref 111),kE P (.ofString "is_rising") 330 (.ref 116),kE P (.ofString "need_book") 337 (.ref 123),kE P (.ofString "need_order") 344 (.ref 130),kE P (.ofString "need_whole") 353 (.ref 137),kE P (.ofString "need_name") 360 (.ref 144),kE P (.ofString "end_of") 368 (.ref 151),kE P (.ofString "ends_and_letters") 374 (.ref 156),kE P (.ofString "counted_rows") 387 (.ref 163),kE P (.ofString "NOUGHT") 392 (.ref 164),kE P (.ofString "WHOLE") 395 (.ref 165),kE P (.ofString "greatest_divisor") 404 (.ref 172),kE P (.ofString "lowest") 413 (.ref 179),kE P (.ofString "added") 421 (.ref 186),kE P (.ofString "times") 429 (.ref 193),kE P (.ofString "less") 437 (.ref 200),kE P (.ofString "is_less") 445 (.ref 207),kE P (.ofString "part_in") 453 (.ref 214),kE P (.ofString "steps_by_rows") 459 (.ref 219),kE P (.ofString "share_by_rows") 470 (.ref 226),kE P (.ofString "share") 479 (.ref 233),kE P (.ofString "ANY") 483 (.str (.ofString "") 482),kE P (.ofString "common_multiple") 491 (.ref 240),kE P (.ofString "whole_weight") 500 (.ref 247),kE P (.ofString "parts_by_rows") 506 (.ref 252),kE P (.ofString "left_of") 514 (.ref 259),kE P (.ofString "may_follow") 522 (.ref 266),kE P (.ofString "next_sums") 538 (.ref 273),kE P (.ofString "sum_along") 544 (.ref 278),kE P (.ofString "heaviest") 552 (.ref 285),kE P (.ofString "next_heaviest") 558 (.ref 290),kE P (.ofString "heaviest_along") 564 (.ref 295),kE P (.ofString "LEAST") 568 (.int (0) 567),kE P (.ofString "MOST") 570 (.int (1) 569),kE P (.ofString "HEAD") 572 (.int (2) 571),kE P (.ofString "TAIL") 574 (.int (3) 573),kE P (.ofString "BARRED") 576 (.int (4) 575),kE P (.ofString "TOLD") 578 (.int (5) 577),kE P (.ofString "MANY_PARTS") 580 (.int (6) 579),kE P (.ofString "MOST_EDGE") 582 (.int (3) 581),kE P (.ofString "MOST_BARRED") 584 (.int (6) 583),kE P (.ofString "is_edge") 591 (.ref 302),kE P (.ofString "is_barred") 597 (.ref 307),kE P (.ofString "is_wish") 604 (.ref 314),kE P (.ofString "need_wish") 611 (.ref 321),kE P (.ofString "has_form") 619 (.ref 328),kE P (.ofString "left_out") 627 (.ref 335),kE P (.ofString "fits") 636 (.ref 342),kE P (.ofString "go_together") 644 (.ref 349),kE P (.ofString "patterns_of_length") 650 (.ref 354),kE P (.ofString "patterns") 659 (.ref 361),kE P (.ofString "share_of_form") 667 (.ref 366),kE P (.ofString "share_fitting") 679 (.ref 373),kE P (.ofString "can_fit") 688 (.ref 380),kE P (.ofString "MOST_LIKELIEST") 692 (.int (20) 691),kE P (.ofString "heaviest_fitting") 698 (.ref 385),kE P (.ofString "likeliest") 708 (.ref 392),kE P (.ofString "_law_cell") 718 (.ref 399),kE P (.ofString "_law_drawn") 728 (.ref 406),kE P (.ofString "_law_name") 734 (.ref 411),kE P (.ofString "_law_book") 746 (.ref 418),kE P (.ofString "_law_wish") 761 (.ref 425),kE P (.ofString "_law_whole") 770 (.ref 432),kE P (.ofString "law") 776 (.ref 437)] 86,#[]⟩)::
 (nat_lit 25,⟨(.type "getset_descriptor"),none,.fields #[(.str (.ofString "__weakref__") 202),(.ref 24),(.builtin "ExceptionGroup.__weakref__"),.none],#[]⟩)::
 (nat_lit 91,⟨(.type "code"),none,.fields #[(.str (.ofString "is_name") 297),(.str (.ofString "is_name") 298),(.str (.ofString "/claim/cut.py") 299),(.int (19) 0),(.int (1) 0),(.int (0) 0),(.int (0) 0),(.int (3) 0),(.ref 88),(.bool true),(.int (181) 0),(.ref 89),.none,.none,.none,(.ref 90),(.int (300) 0),(.int (19) 0),(.str (.ofString "/claim/cut.py") 301)],#[]⟩)::
 (nat_lit 92,kD (top 12) "is_name" "kinnames.books" 287 91)::
 (nat_lit 96,⟨(.type "code"),none,.fields #[(.str (.ofString "is_book") 303),(.str (.ofString "is_book") 304),(.str (.ofString "/claim/cut.py") 305),(.int (23) 0),(.int (1) 0),(.int (0) 0),(.int (0) 0),(.int (3) 0),(.ref 93),(.bool true),(.int (181) 0),(.ref 94),.none,.none,.none,(.ref 95),(.int (306) 0),(.int (23) 0),(.str (.ofString "/claim/cut.py") 307)],#[]⟩)::
 (nat_lit 97,kD (top 13) "is_book" "kinnames.books" 287 96)::
 (nat_lit 103,kC "is_whole" 309 310 311 27 3 0 0 3 98 true 181 99 100 101 102 315 27 316)::
 (nat_lit 104,kD (top 14) "is_whole" "kinnames.books" 287 103)::
 (nat_lit 110,kC "is_order" 318 319 320 31 1 0 0 3 105 true 181 106 107 108 109 322 31 323)::
 (nat_lit 111,kD (top 15) "is_order" "kinnames.books" 287 110)::
 (nat_lit 115,⟨(.type "code"),none,.fields #[(.str (.ofString "is_rising") 325),(.str (.ofString "is_rising") 326),(.str (.ofString "/claim/cut.py") 327),(.int (33) 0),(.int (1) 0),(.int (0) 0),(.int (0) 0),(.int (3) 0),(.ref 112),(.bool true),(.int (181) 0),(.ref 113),.none,.none,.none,(.ref 114),(.int (328) 0),(.int (33) 0),(.str (.ofString "/claim/cut.py") 329)],#[]⟩)::
 (nat_lit 116,kD (top 16) "is_rising" "kinnames.books" 287 115)::
 (nat_lit 122,kC "need_book" 331 332 333 35 1 0 0 3 117 true 181 118 119 120 121 335 35 336)::
 (nat_lit 123,kD (top 17) "need_book" "kinnames.books" 287 122)::
 (nat_lit 129,kC "need_order" 338 339 340 38 1 0 0 3 124 true 181 125 126 127 128 342 38 343)::
 (nat_lit 130,kD (top 18) "need_order" "kinnames.books" 287 129)::
 (nat_lit 136,kC "need_whole" 345 346 347 41 3 0 0 3 131 true 181 132 133 134 135 351 41 352)::
 (nat_lit 137,kD (top 19) "need_whole" "kinnames.books" 287 136)::
 (nat_lit 143,kC "need_name" 354 355 356 44 1 0 0 3 138 true 181 139 140 141 142 358 44 359)::
 (nat_lit 144,kD (top 20) "need_name" "kinnames.books" 287 143)::
 (nat_lit 150,kC "end_of" 361 362 363 47 2 0 0 3 145 true 181 146 147 148 149 366 47 367)::
 (nat_lit 151,kD (top 21) "end_of" "kinnames.books" 287 150)::
 (nat_lit 155,⟨(.type "code"),none,.fields #[(.str (.ofString "ends_and_letters") 369),(.str (.ofString "ends_and_letters") 370),(.str (.ofString "/claim/cut.py") 371),(.int (49) 0),(.int (2) 0),(.int (0) 0),(.int (0) 0),(.int (3) 0),(.ref 152),(.bool true),(.int (181) 0),(.ref 153),.none,.none,.none,(.ref 154),(.int (372) 0),(.int (49) 0),(.str (.ofString "/claim/cut.py") 373)],#[]⟩)::
 (nat_lit 156,kD (top 22) "ends_and_letters" "kinnames.books" 287 155)::
 (nat_lit 162,kC "counted_rows" 375 376 377 51 2 0 0 3 157 true 181 158 159 160 161 385 51 386)::
 (nat_lit 163,kD (top 23) "counted_rows" "kinnames.books" 287 162)::
 (nat_lit 164,⟨(.type "tuple"),none,.seq #[(.int (0) 390),(.int (1) 391)] 0,#[]⟩)::
 (nat_lit 165,⟨(.type "tuple"),none,.seq #[(.int (1) 393),(.int (1) 394)] 0,#[]⟩)::
 (nat_lit 171,kC "greatest_divisor" 396 397 398 61 2 0 0 3 166 true 181 167 168 169 170 402 61 403)::
 (nat_lit 172,kD (top 27) "greatest_divisor" "kinnames.shares" 388 171)::
 (nat_lit 178,kC "lowest" 405 406 407 67 2 0 0 3 173 true 181 174 175 176 177 411 67 412)::
 (nat_lit 179,kD (top 28) "lowest" "kinnames.shares" 388 178)::
 (nat_lit 185,kC "added" 414 415 416 70 2 0 0 3 180 true 181 181 182 183 184 419 70 420)::
 (nat_lit 186,kD (top 29) "added" "kinnames.shares" 388 185)::
 (nat_lit 192,kC "times" 422 423 424 72 2 0 0 3 187 true 181 188 189 190 191 427 72 428)::
 (nat_lit 193,kD (top 30) "times" "kinnames.shares" 388 192)::
 (nat_lit 199,kC "less" 430 431 432 74 2 0 0 3 194 true 181 195 196 197 198 435 74 436)::
 (nat_lit 200,kD (top 31) "less" "kinnames.shares" 388 199)::
 (nat_lit 206,kC "is_less" 438 439 440 76 2 0 0 3 201 true 181 202 203 204 205 443 76 444)::
 (nat_lit 207,kD (top 32) "is_less" "kinnames.shares" 388 206)::
 (nat_lit 213,kC "part_in" 446 447 448 78 2 0 0 3 208 true 181 209 210 211 212 451 78 452)::
 (nat_lit 214,kD (top 33) "part_in" "kinnames.shares" 388 213)::
 (nat_lit 218,⟨(.type "code"),none,.fields #[(.str (.ofString "steps_by_rows") 454),(.str (.ofString "steps_by_rows") 455),(.str (.ofString "/claim/cut.py") 456),(.int (82) 0),(.int (3) 0),(.int (0) 0),(.int (0) 0),(.int (3) 0),(.ref 215),(.bool true),(.int (181) 0),(.ref 216),.none,.none,.none,(.ref 217),(.int (457) 0),(.int (82) 0),(.str (.ofString "/claim/cut.py") 458)],#[]⟩)::
 (nat_lit 219,kD (top 34) "steps_by_rows" "kinnames.shares" 388 218)::
 (nat_lit 225,kC "share_by_rows" 460 461 462 84 3 0 0 3 220 true 181 221 222 223 224 468 84 469)::
 (nat_lit 226,kD (top 35) "share_by_rows" "kinnames.shares" 388 225)::
 (nat_lit 232,kC "share" 471 472 473 89 3 0 0 3 227 true 181 228 229 230 231 477 89 478)::
 (nat_lit 233,kD (top 36) "share" "kinnames.shares" 388 232)::
 (nat_lit 239,kC "common_multiple" 484 485 486 96 2 0 0 3 234 true 181 235 236 237 238 489 96 490)::
 (nat_lit 240,kD (top 39) "common_multiple" "kinnames.ways" 480 239)::
 (nat_lit 246,kC "whole_weight" 492 493 494 98 1 0 0 3 241 true 181 242 243 244 245 498 98 499)::
 (nat_lit 247,kD (top 40) "whole_weight" "kinnames.ways" 480 246)::
 (nat_lit 251,⟨(.type "code"),none,.fields #[(.str (.ofString "parts_by_rows") 501),(.str (.ofString "parts_by_rows") 502),(.str (.ofString "/claim/cut.py") 503),(.int (103) 0),(.int (1) 0),(.int (0) 0),(.int (0) 0),(.int (3) 0),(.ref 248),(.bool true),(.int (181) 0),(.ref 249),.none,.none,.none,(.ref 250),(.int (504) 0),(.int (103) 0),(.str (.ofString "/claim/cut.py") 505)],#[]⟩)::
 (nat_lit 252,kD (top 41) "parts_by_rows" "kinnames.ways" 480 251)::
 (nat_lit 258,kC "left_of" 507 508 509 108 2 0 0 3 253 true 181 254 255 256 257 512 108 513)::
 (nat_lit 259,kD (top 42) "left_of" "kinnames.ways" 480 258)::
 (nat_lit 265,kC "may_follow" 515 516 517 110 2 0 0 3 260 true 181 261 262 263 264 520 110 521)::
 (nat_lit 266,kD (top 43) "may_follow" "kinnames.ways" 480 265)::
 (nat_lit 272,kC "next_sums" 523 524 525 112 4 0 0 3 267 true 181 268 269 270 271 536 112 537)::
 (nat_lit 273,kD (top 44) "next_sums" "kinnames.ways" 480 272)::
 (nat_lit 277,⟨(.type "code"),none,.fields #[(.str (.ofString "sum_along") 539),(.str (.ofString "sum_along") 540),(.str (.ofString "/claim/cut.py") 541),(.int (120) 0),(.int (4) 0),(.int (0) 0),(.int (0) 0),(.int (3) 0),(.ref 274),(.bool true),(.int (181) 0),(.ref 275),.none,.none,.none,(.ref 276),(.int (542) 0),(.int (120) 0),(.str (.ofString "/claim/cut.py") 543)],#[]⟩)::
 (nat_lit 278,kD (top 45) "sum_along" "kinnames.ways" 480 277)::
 (nat_lit 284,kC "heaviest" 545 546 547 125 2 0 0 3 279 true 181 280 281 282 283 550 125 551)::
 (nat_lit 285,kD (top 46) "heaviest" "kinnames.ways" 480 284)::
 (nat_lit 289,⟨(.type "code"),none,.fields #[(.str (.ofString "next_heaviest") 553),(.str (.ofString "next_heaviest") 554),(.str (.ofString "/claim/cut.py") 555),(.int (127) 0),(.int (5) 0),(.int (0) 0),(.int (0) 0),(.int (3) 0),(.ref 286),(.bool true),(.int (181) 0),(.ref 287),.none,.none,.none,(.ref 288),(.int (556) 0),(.int (127) 0),(.str (.ofString "/claim/cut.py") 557)],#[]⟩)::
 (nat_lit 290,kD (top 47) "next_heaviest" "kinnames.ways" 480 289)::
 (nat_lit 294,⟨(.type "code"),none,.fields #[(.str (.ofString "heaviest_along") 559),(.str (.ofString "heaviest_along") 560),(.str (.ofString "/claim/cut.py") 561),(.int (137) 0),(.int (5) 0),(.int (0) 0),(.int (0) 0),(.int (3) 0),(.ref 291),(.bool true),(.int (181) 0),(.ref 292),.none,.none,.none,(.ref 293),(.int (562) 0),(.int (137) 0),(.str (.ofString "/claim/cut.py") 563)],#[]⟩)::
 (nat_lit 295,kD (top 48) "heaviest_along" "kinnames.ways" 480 294)::
 (nat_lit 301,kC "is_edge" 585 586 587 156 1 0 0 3 296 true 181 297 298 299 300 589 156 590)::
 (nat_lit 302,kD (top 59) "is_edge" "kinnames.wishes" 565 301)::
 (nat_lit 306,⟨(.type "code"),none,.fields #[(.str (.ofString "is_barred") 592),(.str (.ofString "is_barred") 593),(.str (.ofString "/claim/cut.py") 594),(.int (158) 0),(.int (1) 0),(.int (0) 0),(.int (0) 0),(.int (3) 0),(.ref 303),(.bool true),(.int (181) 0),(.ref 304),.none,.none,.none,(.ref 305),(.int (595) 0),(.int (158) 0),(.str (.ofString "/claim/cut.py") 596)],#[]⟩)::
 (nat_lit 307,kD (top 60) "is_barred" "kinnames.wishes" 565 306)::
 (nat_lit 313,kC "is_wish" 598 599 600 162 1 0 0 3 308 true 181 309 310 311 312 602 162 603)::
 (nat_lit 314,kD (top 61) "is_wish" "kinnames.wishes" 565 313)::
 (nat_lit 320,kC "need_wish" 605 606 607 170 1 0 0 3 315 true 181 316 317 318 319 609 170 610)::
 (nat_lit 321,kD (top 62) "need_wish" "kinnames.wishes" 565 320)::
 (nat_lit 327,kC "has_form" 612 613 614 173 2 0 0 3 322 true 181 323 324 325 326 617 173 618)::
 (nat_lit 328,kD (top 63) "has_form" "kinnames.wishes" 565 327)::
 (nat_lit 334,kC "left_out" 620 621 622 177 2 0 0 3 329 true 181 330 331 332 333 625 177 626)::
 (nat_lit 335,kD (top 64) "left_out" "kinnames.wishes" 565 334)::
 (nat_lit 341,kC "fits" 628 629 630 181 3 0 0 3 336 true 181 337 338 339 340 634 181 635)::
 (nat_lit 342,kD (top 65) "fits" "kinnames.wishes" 565 341)::
 (nat_lit 348,kC "go_together" 637 638 639 186 2 0 0 3 343 true 181 344 345 346 347 642 186 643)::
 (nat_lit 349,kD (top 66) "go_together" "kinnames.wishes" 565 348)::
 (nat_lit 353,⟨(.type "code"),none,.fields #[(.str (.ofString "patterns_of_length") 645),(.str (.ofString "patterns_of_length") 646),(.str (.ofString "/claim/cut.py") 647),(.int (188) 0),(.int (3) 0),(.int (0) 0),(.int (0) 0),(.int (3) 0),(.ref 350),(.bool true),(.int (181) 0),(.ref 351),.none,.none,.none,(.ref 352),(.int (648) 0),(.int (188) 0),(.str (.ofString "/claim/cut.py") 649)],#[]⟩)::
 (nat_lit 354,kD (top 67) "patterns_of_length" "kinnames.wishes" 565 353)::
 (nat_lit 360,kC "patterns" 651 652 653 196 1 0 0 3 355 true 181 356 357 358 359 657 196 658)::
 (nat_lit 361,kD (top 68) "patterns" "kinnames.wishes" 565 360)::
 (nat_lit 365,⟨(.type "code"),none,.fields #[(.str (.ofString "share_of_form") 662),(.str (.ofString "share_of_form") 663),(.str (.ofString "/claim/cut.py") 664),(.int (202) 0),(.int (3) 0),(.int (0) 0),(.int (0) 0),(.int (3) 0),(.ref 362),(.bool true),(.int (181) 0),(.ref 363),.none,.none,.none,(.ref 364),(.int (665) 0),(.int (202) 0),(.str (.ofString "/claim/cut.py") 666)],#[]⟩)::
 (nat_lit 366,kD (top 70) "share_of_form" "kinnames.holding" 660 365)::
 (nat_lit 372,kC "share_fitting" 668 669 670 206 3 0 0 3 367 true 181 368 369 370 371 677 206 678)::
 (nat_lit 373,kD (top 71) "share_fitting" "kinnames.holding" 660 372)::
 (nat_lit 379,kC "can_fit" 680 681 682 216 3 0 0 3 374 true 181 375 376 377 378 686 216 687)::
 (nat_lit 380,kD (top 72) "can_fit" "kinnames.holding" 660 379)::
 (nat_lit 384,⟨(.type "code"),none,.fields #[(.str (.ofString "heaviest_fitting") 693),(.str (.ofString "heaviest_fitting") 694),(.str (.ofString "/claim/cut.py") 695),(.int (220) 0),(.int (5) 0),(.int (0) 0),(.int (0) 0),(.int (3) 0),(.ref 381),(.bool true),(.int (181) 0),(.ref 382),.none,.none,.none,(.ref 383),(.int (696) 0),(.int (220) 0),(.str (.ofString "/claim/cut.py") 697)],#[]⟩)::
 (nat_lit 385,kD (top 75) "heaviest_fitting" "kinnames.likely" 689 384)::
 (nat_lit 391,kC "likeliest" 699 700 701 228 4 0 0 3 386 true 181 387 388 389 390 706 228 707)::
 (nat_lit 392,kD (top 76) "likeliest" "kinnames.likely" 689 391)::
 (nat_lit 398,kC "_law_cell" 711 712 713 235 2 0 0 3 393 true 181 394 395 396 397 716 235 717)::
 (nat_lit 399,kD (top 78) "_law_cell" "law_kinnames_k34_whole_sums" 709 398)::
 (nat_lit 405,kC "_law_drawn" 719 720 721 239 3 0 0 3 400 true 181 401 402 403 404 726 239 727)::
 (nat_lit 406,kD (top 79) "_law_drawn" "law_kinnames_k34_whole_sums" 709 405)::
 (nat_lit 410,⟨(.type "code"),none,.fields #[(.str (.ofString "_law_name") 729),(.str (.ofString "_law_name") 730),(.str (.ofString "/claim/cut.py") 731),(.int (243) 0),(.int (3) 0),(.int (0) 0),(.int (0) 0),(.int (3) 0),(.ref 407),(.bool true),(.int (181) 0),(.ref 408),.none,.none,.none,(.ref 409),(.int (732) 0),(.int (243) 0),(.str (.ofString "/claim/cut.py") 733)],#[]⟩)::
 (nat_lit 411,kD (top 80) "_law_name" "law_kinnames_k34_whole_sums" 709 410)::
 (nat_lit 417,kC "_law_book" 735 736 737 247 4 0 0 3 412 true 181 413 414 415 416 744 247 745)::
 (nat_lit 418,kD (top 81) "_law_book" "law_kinnames_k34_whole_sums" 709 417)::
 (nat_lit 424,kC "_law_wish" 747 748 749 252 2 0 0 3 419 true 181 420 421 422 423 759 252 760)::
 (nat_lit 425,kD (top 82) "_law_wish" "law_kinnames_k34_whole_sums" 709 424)::
 (nat_lit 431,kC "_law_whole" 762 763 764 262 1 0 0 3 426 true 181 427 428 429 430 768 262 769)::
 (nat_lit 432,kD (top 83) "_law_whole" "law_kinnames_k34_whole_sums" 709 431)::
 (nat_lit 436,⟨(.type "code"),none,.fields #[(.str (.ofString "law") 771),(.str (.ofString "law") 772),(.str (.ofString "/claim/cut.py") 773),(.int (267) 0),(.int (1) 0),(.int (0) 0),(.int (0) 0),(.int (3) 0),(.ref 433),(.bool true),(.int (181) 0),(.ref 434),.none,.none,.none,(.ref 435),(.int (774) 0),(.int (267) 0),(.str (.ofString "/claim/cut.py") 775)],#[]⟩)::
 (nat_lit 437,kD (top 84) "law" "law_kinnames_k34_whole_sums" 709 436)::[]
noncomputable def kfr:pq->Frag:=fun P=>(nat_lit 280,⟨.none,none,.fields #[],#[]⟩)::kfr0 P
noncomputable def kas:List ak:=[280,2,3,25,91,92,96,97,103,104,110,111,115,116,122,123,129,130,136,137,143,144,150,151,155,156,162,163,164,165,171,172,178,179,185,186,192,193,199,200,206,207,213,214,218,219,225,226,232,233,239,240,246,247,251,252,258,259,265,266,272,273,277,278,284,285,289,290,294,295,301,302,306,307,313,314,320,321,327,328,334,335,341,342,348,349,353,354,360,361,365,366,372,373,379,380,384,385,391,392,398,399,405,406,410,411,417,418,424,425,431,432,436,437]
noncomputable def kq:aJ:=view bH [1,2,3,4,5,6,8,9,10,11,12,13,14,15,16,17,18,19,20,21,22,23,25,26,27,28,29,30,31,32,33,34,35,36,38,39,40,41,42,43,44,45,46,47,48,50,51,52,53,54,55,56,57,58,59,60,61,62,63,64,65,66,67,68,70,71,72,74,75,76,78,79,80,81,82,83,84]
noncomputable def klo:List Str:=[]
theorem kas_e:∀P,kas=(kfr P).map (·.1):=fun _=>by kernel_rfl
noncomputable def hl0 (w:bh):=(openEndsT treeTable bH w 6286).map (fun s=>(seen ((recsOf kq).map (·.name)) (ownsOf kq) [] {s with gens:=#[]},s.heap.bltView,(s.heap.keysOk (looseW kq klo) ((recsOf kq).map (·.name)) ((litsOf kq).map (·.1)) ((clssOf kq (looseW kq klo)).map (·.name))&&s.heap.accountedOkI (importedModules bH.main.body)&&s.heap.isNs mainGlobals&&s.heap.isNs builtinsNs&&tablesOk kq s.heap&& (xlAt kq [] s&&recOk [] s)&& (if true=true then s.gens.size==0 else !leftWithCleanup s.gens))))
noncomputable def hr0 (w:bh):=some (expectedOf kq,bltViewBooted,true)
theorem hl0_e:hl0=hl0:=rfl
theorem hr0_e:hr0=hr0:=rfl
noncomputable def hl1 (w:bh):=(openEndsT treeTable bH w 6286).map (fun s=>(tabsOk kq s,pinSeenD kq (drecsOf kq) s,plainSeenE kq (looseW kq klo) s,plainSeenD kq klo s,wideSeen kq s,clsSeenW kq klo s))
noncomputable def hr1 (w:bh):=some (true,pinGoodD (drecsOf kq),plainGoodE kq (looseW kq klo),plainGoodD kq klo,wideGood kq,clsGoodW kq klo)
theorem hl1_e:hl1=hl1:=rfl
theorem hr1_e:hr1=hr1:=rfl
noncomputable def hl2 (w:bh):=(openEndsT treeTable bH w 6286).map (fun s=>(kas.map s.heap.get?))
noncomputable def hr2 (w:bh):=some ((kfr w.params).map fun p=>some p.2)
theorem hl2_e:hl2=hl2:=rfl
theorem hr2_e:hr2=hr2:=rfl
end Kn
name_quick hl0Q for Kn.hl0 by Kn.hl0_e
name_quick hr0Q for Kn.hr0 by Kn.hr0_e
theorem Kn.hq0 (w:bh):PySem.W.Fast.hl0Q w=PySem.W.Fast.hr0Q w:=by kernel_rfl
theorem Kn.hx0 (w:bh):Kn.hl0 w=Kn.hr0 w:=((congrFun PySem.W.Fast.hl0Q_eq w).trans (Kn.hq0 w)).trans (congrFun PySem.W.Fast.hr0Q_eq w).symm
name_quick hl1Q for Kn.hl1 by Kn.hl1_e
name_quick hr1Q for Kn.hr1 by Kn.hr1_e
theorem Kn.hq1 (w:bh):PySem.W.Fast.hl1Q w=PySem.W.Fast.hr1Q w:=by kernel_rfl
theorem Kn.hx1 (w:bh):Kn.hl1 w=Kn.hr1 w:=((congrFun PySem.W.Fast.hl1Q_eq w).trans (Kn.hq1 w)).trans (congrFun PySem.W.Fast.hr1Q_eq w).symm
name_quick hl2Q for Kn.hl2 by Kn.hl2_e
name_quick hr2Q for Kn.hr2 by Kn.hr2_e
theorem Kn.hq2 (w:bh):PySem.W.Fast.hl2Q w=PySem.W.Fast.hr2Q w:=by kernel_rfl
theorem Kn.hx2 (w:bh):Kn.hl2 w=Kn.hr2 w:=((congrFun PySem.W.Fast.hl2Q_eq w).trans (Kn.hq2 w)).trans (congrFun PySem.W.Fast.hr2Q_eq w).symm
theorem Kn.hl:LeftO bH Kn.kq Kn.klo (fun s=>xlAt Kn.kq [] s&&recOk [] s) (Hook.obs (kHook Kn.kfr Kn.kas Kn.kas_e)) (Hook.val (kHook Kn.kfr Kn.kas Kn.kas_e)) 6286:=fun w=>by
 refine Kn.openMap_of ?_
 obtain⟨s,e,x0⟩:=iP.mp (Kn.hx0 w)
 have y1:=Kn.hx1 w
 unfold Kn.hl1 at y1
 rw[e]at y1
 have x1:=aB y1
 have y2:=Kn.hx2 w
 unfold Kn.hl2 at y2
 rw[e]at y2
 have x2:=aB y2
 obtain⟨a1,z0_0⟩:=bM x0
 obtain⟨a2,z0_1⟩:=bM z0_0
 have a3:=z0_1
 obtain⟨a4,z1_0⟩:=bM x1
 obtain⟨a5,z1_1⟩:=bM z1_0
 obtain⟨a6,z1_2⟩:=bM z1_1
 obtain⟨a7,z1_3⟩:=bM z1_2
 obtain⟨a8,z1_4⟩:=bM z1_3
 have a9:=z1_4
 have aK:=x2
 rw[e]
 exact congrArg some (gz (gz a1 (gz a2 (gz a3 (gz a4 (gz a5 (gz a6 (gz a7 (gz a8 a9)))))))) aK)
end
section
namespace L2
open PySem PySem.Spec PyProof.Rows
noncomputable abbrev zO:=Sum Int Str
noncomputable def gW:zO->aj->Bool
 | .inl k,v=>tV k v
 | .inr x,v=>dU x v
noncomputable def zKj (w:bh):zO->Int
 | .inl k=>hashInt k
 | .inr x=>hashStr w x
theorem j1:∀{k:zO}{v:aj},gW k v=true->(∃i t,k=Sum.inl i/\v=Value.int i t)\/(∃x t,k=Sum.inr x/\v=Value.str x t)
 | .inl i,v,h=>by
  obtain⟨t,e⟩:=Value.isInt_shape (k:=i) (v:=v) h
  exact .inl ⟨i,t,rfl,e⟩
 | .inr x,v,h=>by
  obtain⟨t,e⟩:=eQ (x:=x) (v:=v) h
  exact .inr ⟨x,t,rfl,e⟩
theorem zKk (i:Int)(t:Tok):gW (.inl i) (.int i t)=true:=by simp[gW,tV]
theorem zKl (x:Str)(t:Tok):gW (.inr x) (.str x t)=true:=by simp[gW,dU]
theorem zKm (a b:Int):decide ((Sum.inl a:zO)=Sum.inl b)=(a==b):=by
 by_cases e:a=b
 ·subst e;simp
 ·have h:¬(Sum.inl a:zO)=Sum.inl b:=fun q=>e (tX q)
  rw[decide_eq_false h]
  exact(beq_eq_false_iff_ne.mpr e).symm
theorem zKn (a b:Str):decide ((Sum.inr a:zO)=Sum.inr b)=decide (a=b):=by
 by_cases e:a=b
 ·subst e;simp
 ·have h:¬(Sum.inr a:zO)=Sum.inr b:=fun q=>e (nv q)
  rw[decide_eq_false h,decide_eq_false e]
theorem zKo (a:Int)(b:Str):decide ((Sum.inl a:zO)=Sum.inr b)=false:=decide_eq_false (fun q=>nomatch q)
theorem zKp (a:Str)(b:Int):decide ((Sum.inr a:zO)=Sum.inl b)=false:=decide_eq_false (fun q=>nomatch q)
noncomputable def vP (prog:aJ)(w:bh):rN prog w zO where
 is:=gW
 hash:=zKj w
 inj:=fun v a b ha hb=>by
  rcases j1 ha with⟨i,t,rfl,rfl⟩|⟨x,t,rfl,rfl⟩
  ·rcases j1 hb with⟨j,u,rfl,e⟩|⟨y,u,rfl,e⟩
   ·injection e with e1 _;rw[e1]
   ·exact nomatch e
  ·rcases j1 hb with⟨j,u,rfl,e⟩|⟨y,u,rfl,e⟩
   ·exact nomatch e
   ·injection e with e1 _;rw[e1]
 byValue:=fun k v h=>by
  rcases j1 h with⟨i,t,rfl,rfl⟩|⟨x,t,rfl,rfl⟩<;>rfl
 pyHash:=fun hv h=>by
  rcases j1 hv with⟨i,t,rfl,rfl⟩|⟨x,t,rfl,rfl⟩
  ·exact wpAny_pyHash_int h
  ·exact pA h
 eqBool:=fun hu hv h=>by
  rcases j1 hu with⟨i,t,rfl,rfl⟩|⟨x,t,rfl,rfl⟩
  ·rcases j1 hv with⟨j,u,rfl,rfl⟩|⟨y,u,rfl,rfl⟩
   ·rw[zKm]at h;exact wpAny_eqBool_int h
   ·rw[zKo]at h;exact og i t y u _ _ _ _ h
  ·rcases j1 hv with⟨j,u,rfl,rfl⟩|⟨y,u,rfl,rfl⟩
   ·rw[zKp]at h;exact oh x t j u _ _ _ _ h
   ·rw[zKn]at h;exact pB h
 «strs»:=fun k x t v h=>by
  rcases j1 h with⟨i,u,rfl,e⟩|⟨y,u,rfl,e⟩
  ·exact nomatch e
  ·injection e with e1 _
   subst e1
   cases v<;>rfl
noncomputable abbrev yU:=Sum Str Bool
noncomputable def zFf:yU->aj->Bool
 | .inl x,v=>dU x v
 | .inr b,v=>v==Value.bool b
theorem gB:∀{k:yU}{v:aj},zFf k v=true->(∃x t,k=Sum.inl x/\v=Value.str x t)\/(∃b,k=Sum.inr b/\v=Value.bool b)
 | .inl x,v,h=>by
  obtain⟨t,e⟩:=eQ (x:=x) (v:=v) h
  exact .inl ⟨x,t,rfl,e⟩
 | .inr b,v,h=>.inr ⟨b,rfl,eq_of_beq h⟩
noncomputable def tkH (w:bh):yU->Int
 | .inl x=>hashStr w x
 | .inr b=>reduceHash (if b then 1 else 0)
theorem zKq {prog:aJ}{w:bh}{A:bX}{E:aj->au->Prop}{s:au}{b:Bool}{Q:Int->au->Prop}(h:Q (reduceHash (if b then 1 else 0)) {s with toks:=s.toks+1}) :
  wpAny (model prog w) A (pyHash (.bool b)) Q E s:=by
 refine PySem.W.pyHash_slot (T :="bool") rfl F.slot_bool_hash F.entry_int_hash (F.args_int_hash_1 _) (by decide) (.inl (by cases b<;>rfl)) ?_
 unfold di.«int.__hash__»
 cases b
 ·wp_walk
  exact⟨_,_,rfl,h⟩
 ·wp_walk
  exact⟨_,_,rfl,h⟩
noncomputable def gX (prog:aJ)(w:bh):rN prog w yU where
 is:=zFf
 hash:=tkH w
 inj:=fun v a b ha hb=>by
  rcases gB ha with⟨x,t,rfl,rfl⟩|⟨c,rfl,rfl⟩
  ·rcases gB hb with⟨y,u,rfl,e⟩|⟨d,rfl,e⟩
   ·injection e with e1 _;rw[e1]
   ·exact nomatch e
  ·rcases gB hb with⟨y,u,rfl,e⟩|⟨d,rfl,e⟩
   ·exact nomatch e
   ·injection e with e1;rw[e1]
 byValue:=fun k v h=>by
  rcases gB h with⟨x,t,rfl,rfl⟩|⟨c,rfl,rfl⟩<;>rfl
 pyHash:=fun hv h=>by
  rcases gB hv with⟨x,t,rfl,rfl⟩|⟨c,rfl,rfl⟩
  ·exact pA h
  ·exact zKq h
 eqBool:=fun hu hv h=>by
  rcases gB hu with⟨x,t,rfl,rfl⟩|⟨c,rfl,rfl⟩
  ·rcases gB hv with⟨y,u,rfl,rfl⟩|⟨d,rfl,rfl⟩
   ·have e:decide ((Sum.inl x:yU)=Sum.inl y)=decide (x=y):=by
     by_cases q:x=y
     ·subst q;simp
     ·rw[decide_eq_false q,decide_eq_false fun z=>q (tX z)]
    rw[e]at h;exact pB h
   ·rw[decide_eq_false (fun q=>nomatch q)]at h;exact nP x t d _ _ _ _ h
  ·rcases gB hv with⟨y,u,rfl,rfl⟩|⟨d,rfl,rfl⟩
   ·rw[decide_eq_false (fun q=>nomatch q)]at h;exact nQ c y u _ _ _ _ h
   ·refine ny c d _ _ _ _ ?_
    have e:decide ((Sum.inr c:yU)=Sum.inr d)=(c==d):=by cases c<;>cases d<;>rfl
    rw[<-e];exact h
 «strs»:=fun k x t v h=>by
  rcases gB h with⟨y,u,rfl,e⟩|⟨d,rfl,e⟩
  ·injection e with e1 _
   subst e1
   cases v<;>rfl
  ·exact nomatch e
theorem zKr (prog:aJ)(w:bh)(k:zO)(v:aj):(vP prog w).is k v=gW k v:=rfl
theorem zKs (prog:aJ)(w:bh)(i:Int)(t:Tok):(vP prog w).is (.inl i) (.int i t)=true:=zKk i t
theorem zFg (prog:aJ)(w:bh)(x:Str)(t:Tok):(vP prog w).is (.inr x) (.str x t)=true:=zKl x t
inductive V where
 |non|bl (b:Bool)|int (i:Int)|str (x:Str)|byt (b:Array UInt8)|flt (b:UInt64)|ref (a:ak)|ty (n:String)
 deriving DecidableEq
noncomputable def zX:V->aj->Prop
 | .non,u=>u=Value.none
 | .bl b,u=>u=Value.bool b
 | .int i,u=>∃t,u=Value.int i t
 | .str x,u=>∃t,u=Value.str x t
 | .byt b,u=>∃t,u=Value.bytes b t
 | .flt b,u=>∃t,u=Value.float b t
 | .ref a,u=>u=Value.ref a
 | .ty n,u=>u=Value.type n
noncomputable abbrev zU:List V->List aj->Prop:=oj zX
theorem zU.length {xs:List V}{a:List aj}(r:zU xs a):xs.length=a.length:=dB r
theorem zU.get:∀{xs:List V}{a:List aj}{i:Nat}{x:V},zU xs a->xs[i]?=some x->∃u,a[i]?=some u/\zX x u
 |_,_,_,_,.nil,e=>by simp at e
 |_,_,0,_,.cons r _,e=>by simp at e;subst e;exact⟨_,rfl,r⟩
 |_,_,i+1,x,.cons _ t,e=>by
  obtain⟨u,b,c⟩:=zU.get (i:=i) (x:=x) t (by simpa using e)
  exact⟨u,by simpa using b,c⟩
theorem zU.set {x:V}{u:aj}(r:zX x u):∀{xs:List V}{a:List aj} (i:Nat),zU xs a->zU (xs.set i x) (a.set i u)
 |_,_,_,.nil=>.nil
 |_,_,0,.cons _ t=>.cons r t
 |_,_,i+1,.cons q t=>.cons q (zU.set r i t)
theorem zU.append:∀{xs ys:List V}{a ws:List aj},zU xs a->zU ys ws->zU (xs++ys) (a++ws)
 |_,_,_,_,.nil,s=>s
 |_,_,_,_,.cons r t,s=>.cons r (zU.append t s)
theorem zU.take:∀{xs:List V}{a:List aj} (n:Nat),zU xs a->zU (xs.take n) (a.take n)
 |_,_,0,_=>.nil
 |_,_,_+1,.nil=>.nil
 |_,_,n+1,.cons r t=>.cons r (zU.take n t)
theorem zU.drop:∀{xs:List V}{a:List aj} (n:Nat),zU xs a->zU (xs.drop n) (a.drop n)
 |_,_,0,r=>r
 |_,_,_+1,.nil=>.nil
 |_,_,n+1,.cons _ t=>zU.drop n t
noncomputable def jI:Option V->Option aj->Prop
 |some v,some u=>zX v u
 |none,none=>True
 |_,_=>False
noncomputable def KV {κ:Type}:List (κ×V)->List (κ×aj)->Prop:=oj fun(p:κ×V) (q:κ×aj)=>p.1=q.1/\zX p.2 q.2
noncomputable def kV:zO->V
 | .inl i=>.int i
 | .inr x=>.str x
noncomputable def gC:yU->V
 | .inl x=>.str x
 | .inr b=>.bl b
inductive HO where
 |lst (xs:List V)
 |tup (xs:List V)
 |dK (kvs:List (zO×V))|dT (kvs:List (List yU×V))
 |set (S:Int->Bool) (n:Nat)
 |ins (C dx:ak) (fs:List (Str×V))
 |own (x:ak)
 |xd (fs:List (Str×V))
 |met (f x:ak)
 |rng (lo hi:Int)
 |frz (o:Obj) (u:HO)
 |tbl (ps:Array aj)
 |ext (φ:bF->Prop)
noncomputable abbrev Hp:=ak->Option HO
noncomputable def upd (H:Hp)(a:ak)(o:HO):Hp:=fun b=>if b=a then some o else H b
theorem zE {H:Hp}{a:ak}{o:HO}:upd H a o a=some o:=by unfold upd;rw[if_pos rfl]
theorem zG {H:Hp}{a b:ak}{o:HO}(h:b≠a):upd H a o b=H b:=by unfold upd;rw[if_neg h]
theorem zBv {H:Hp}{a b:ak}{o u:HO}(h:H a=some o)(h':H b=some u)(d:o≠u):a≠b:=by
 intro e;subst e;rw[h]at h';exact d (aB h')
theorem yK {H:Hp}{a b:ak}{o:HO}(h:H a=some o)(h':H b=none):a≠b:=by
 intro e;subst e;rw[h]at h';cases h'
section
variable(P:aJ)(w:bh)
noncomputable def yV (H:Hp)(h:bF)(a:ak):HO->Prop
 | .lst xs=>xs.length<=sizeLine/\∃(its:List aj) (n:Nat),zU xs its/\h.get? a=some {cls:=.type "list",data:=.seq its.toArray n}
 | .tup xs=>xs.length<=sizeLine/\∃its:List aj,zU xs its/\qk h a its.toArray
 | .dK kvs=>kvs.length<=sizeLine/\(a==sysModules)=false/\∃vs,KV kvs vs/\h.DictOf (vP P w) a vs
 | .dT kvs=>kvs.length<=sizeLine/\(a==sysModules)=false/\∃xs:List (List yU×ak×aj),
   oj (fun(p:List yU×V) (q:List yU×ak×aj)=>p.1=q.1/\H q.2.1=some (.tup (p.1.map gC))/\zX p.2 q.2.2) kvs xs/\
   ∃o es ep,h.get? a=some o/\o.ExactDict/\o.data=.dict es ep/\es.toList=xs.map (entryOfKey (tupleKind (gX P w)))/\(xs.map (·.1)).Nodup
 | .set S n=>h.SetOf (intKind P w) a S n
 | .ins C dx fs=>H dx=some (.own a)/\fs.length<=1000/\dx≠a/\h.get? a=some (fj C dx)/\
   ∃mA,h.Ns1 dx mA/\(∀f,jI (fs.lookup f) (mA f))/\sY mA (fs.map (·.1))
 | .own _=>∃o,h.get? a=some o
 | .xd fs=>∃mA,h.Ns1 a mA/\∀f,jI (fs.lookup f) (mA f)
 | .rng lo hi=>∃t u v,h.get? a=some {cls:=.type "range",data:=.fields #[.int lo t,.int hi u,.int 1 v]}
 | .frz o u=>h.get? a=some o/\yV H h a u
 | .tbl ps=>h.get? a=some {cls:=.none,data:=.fields ps}
 | .met f x=>h.get? a=some (lN (.ref f) (.ref x))
 | .ext φ=>φ h/\(∃o,h.get? a=some o)/\∀h1 h2:bF,φ h1->(∀o,h1.get? a=some o->h2.get? a=some o)->φ h2
noncomputable def yI (H:Hp)(h:bF):Prop:=∀a o,H a=some o->yV P w H h a o
end
section
variable{P:aJ}{w:bh}{H H':Hp}{h h':bF}{a:ak}{o:HO}
theorem yV.lt (x:yV P w H h a o):a<h.objs.size:=by
 cases o with
 |lst xs=>obtain⟨_,_,_,_,e⟩:=x;exact aF e
 |tup xs=>obtain⟨_,_,_,p⟩:=x;exact p.lt
 |dK kvs=>obtain⟨_,_,_,_,o,_,_,e,_⟩:=x;exact aF e
 |dT kvs=>obtain⟨_,_,_,_,o,_,_,e,_⟩:=x;exact aF e
 |set S n=>obtain⟨o,_,_,_,e,_⟩:=x;exact aF e
 |ins C b fs=>obtain⟨_,_,_,e,_⟩:=x;exact aF e
 |own y=>obtain⟨_,e⟩:=x;exact aF e
 |xd fs=>obtain⟨_,⟨_,_,_,e,_⟩,_⟩:=x;exact aF e
 |rng lo hi=>obtain⟨_,_,_,e⟩:=x;exact aF e
 |frz c u=>obtain⟨e,_⟩:=x;exact aF e
 |tbl ps=>exact aF (show h.get? a=some _ from x)
 |met f y=>exact aF (show h.get? a=some _ from x)
 |ext φ=>obtain⟨_,⟨_,e⟩,_⟩:=x;exact aF e
theorem Paired.mapP {α β:Type}{F G:α->β->Prop}:∀{c:List α}{d:List β},oj F c d->(∀a b,F a b->G a b)->oj G c d
 |_,_,.nil,_=>.nil
 |_,_,.cons r t,f=>.cons (f _ _ r) (Paired.mapP t f)
theorem yV.stay (x:yV P w H h a o)(k:∀b u,(b=a\/H b=some (.own a))->h.get? b=some u->h'.get? b=some u)
  (l:∀b,H b=some (.own a)->H' b=some (.own a)) (m:∀b xs,H b=some (.tup xs)->H' b=some (.tup xs)):yV P w H' h' a o:=by
 induction o with
 |lst xs=>obtain⟨z,its,n,r,e⟩:=x;exact⟨z,its,n,r,k _ _ (.inl rfl) e⟩
 |tup xs=>obtain⟨z,its,r,g,e,c⟩:=x;exact⟨z,its,r,g,k _ _ (.inl rfl) e,c⟩
 |dK kvs=>obtain⟨z,y,vs,r,g,i,ep,e,c⟩:=x;exact⟨z,y,vs,r,g,i,ep,k _ _ (.inl rfl) e,c⟩
 |dT kvs=>
  obtain⟨z,y,xs,r,g,i,ep,e,c⟩:=x
  exact⟨z,y,xs,Paired.mapP r fun p q z=>⟨z.1,m _ _ z.2.1,z.2.2⟩,g,i,ep,k _ _ (.inl rfl) e,c⟩
 |set S n=>obtain⟨g,i,ep,t,e,c⟩:=x;exact⟨g,i,ep,t,k _ _ (.inl rfl) e,c⟩
 |ins C A fs=>
  obtain⟨d,z,ne,e,j,⟨od,i,ep,s,c⟩,r⟩:=x
  exact⟨l _ d,z,ne,k _ _ (.inl rfl) e,j,⟨od,i,ep,k _ _ (.inr d) s,c⟩,r⟩
 |own y=>obtain⟨g,e⟩:=x;exact⟨g,k _ _ (.inl rfl) e⟩
 |xd fs=>obtain⟨j,⟨od,i,ep,e,c⟩,r⟩:=x;exact⟨j,⟨od,i,ep,k _ _ (.inl rfl) e,c⟩,r⟩
 |rng lo hi=>obtain⟨t,u,v,e⟩:=x;exact⟨t,u,v,k _ _ (.inl rfl) e⟩
 |frz g u ih=>obtain⟨e,q⟩:=x;exact⟨k _ _ (.inl rfl) e,ih q⟩
 |tbl ps=>
  have e:h.get? a=some {cls:=.none,data:=.fields ps}:=x
  show h'.get? a=some {cls:=.none,data:=.fields ps}
  exact k a _ (.inl rfl) e
 |met f y=>
  have e:h.get? a=some (lN (.ref f) (.ref y)):=x
  show h'.get? a=some (lN (.ref f) (.ref y))
  exact k a _ (.inl rfl) e
 |ext φ=>obtain⟨p,⟨o,e⟩,st⟩:=x;exact⟨st _ _ p fun o q=>k _ _ (.inl rfl) q,⟨o,k _ _ (.inl rfl) e⟩,st⟩
theorem yI.lt (x:yI P w H h)(e:H a=some o):a<h.objs.size:=(x a o e).lt
theorem yI.fresh (x:yI P w H h)(e:h.objs.size<=a):H a=none:=by
 cases q:H a with
 |none=>rfl
 |some u=>exact absurd (bz (x.lt q) e) (bN _)
theorem yI.kept (x:yI P w H h)(k:∀b u,h.get? b=some u->h'.get? b=some u):yI P w H h':=fun a o e=>
 (x a o e).stay (fun b u _ q=>k b u q) (fun _ q=>q) fun _ _ q=>q
theorem yI.laid (x:yI P w H h)(k:∀b u,h.get? b=some u->h'.get? b=some u)(f:h.objs.size<=a)(new:yV P w (upd H a o) h' a o):yI P w (upd H a o) h':=fun b u e=>by
 have d:=x.fresh f
 by_cases hb:b=a
 ·subst hb;rw[zE]at e;cases e;exact new
 ·rw[zG hb]at e
  exact(x b u e).stay (fun c v _ q=>k c v q) (fun c q=>by rw[zG (yK q d)];exact q) fun c xs q=>by rw[zG (yK q d)];exact q
end
noncomputable def Rd (H:Hp)(a:ak)(u:HO):Prop:=H a=some u\/∃o,H a=some (.frz o u)
theorem Rd.of {H:Hp}{a:ak}{u:HO}(h:H a=some u):Rd H a u:=.inl h
theorem Rd.ok {P:aJ}{w:bh}{H:Hp}{h:bF}{a:ak}{u:HO}(r:Rd H a u)(x:yI P w H h):yV P w H h a u:=by
 rcases r with r|⟨o,r⟩
 ·exact x a u r
 ·obtain⟨_,q⟩:=x a _ r
  exact q
noncomputable def Mut:Option HO->Prop
 |some (.lst _)=>True
 |some (.dK _)=>True
 |some (.dT _)=>True
 |some (.set _ _)=>True
 |some (.ins _ _ _)=>True
 |some (.ext _)=>True
 |_=>False
section
variable{P:aJ}{w:bh}{H:Hp}{h h':bF}{x e:ak}{o':HO}
theorem yI.write (ok:yI P w H h)(g:Mut (H x))(l:e=x\/H e=some (.own x))(k:∀b u,b≠e->h.get? b=some u->h'.get? b=some u)(j:∃u,h'.get? e=some u)
  (new:yV P w (upd H x o') h' x o'):yI P w (upd H x o') h':=fun b u q=>by
 have d:∀c y,H c=some (.own y)->c≠x:=fun c y r z=>by subst z;rw[r]at g;exact g
 have f:∀c xs,H c=some (.tup xs)->c≠x:=fun c xs r z=>by subst z;rw[r]at g;exact g
 by_cases hb:b=x
 ·subst hb;rw[zE]at q;cases q;exact new
 ·rw[zG hb]at q
  by_cases a:b=e
  ·have m:H b=some (.own x):=by
    rcases l with z|z
    ·exact absurd (a.trans z) hb
    ·rw[a];exact z
   rw[q]at m;cases m
   obtain⟨v,hv⟩:=j
   exact⟨v,by rw[a];exact hv⟩
  ·refine(ok b u q).stay (fun c v i r=>k c v ?_ r) (fun c r=>by rw[zG (d c b r)];exact r) fun c xs r=>by rw[zG (f c xs r)];exact r
   rcases i with rfl|i
   ·exact a
   ·rintro rfl
    rcases l with z|z
    ·exact d c b i z
    ·rw[i]at z;cases z;exact hb rfl
end
structure Un (fs ex:List ak) (H H':Hp) (h h':bF):Prop where
 keep:∀b o,h.get? b=some o->H b=none->b∉fs->b∉ex->h'.get? b=some o
 slot:∀b o,h.get? b=some o->H b=none->b∈fs->b∉ex->∃sl,h'.get? b=some {o with slots:=sl}
 free:∀b o,h.get? b=some o->H b=none->b∉ex->H' b=none
 there:∀b o,h.get? b=some o->b∉ex->∃o',h'.get? b=some o'
 tups:∀b xs,H b=some (.tup xs)->H' b=some (.tup xs)
 frzs:∀b o u,H b=some (.frz o u)->H' b=some (.frz o u)
 tbls:∀b ps,H b=some (.tbl ps)->∃more,H' b=some (.tbl (ps++more))
section
variable{fs fs' ex ex':List ak}{H H1 H2:Hp}{h h1 h2 h':bF}{a x e:ak}{o:HO}
theorem Un.any (u:Un fs ex H H1 h h1){b:ak}{c:Obj}(q:h.get? b=some c)(n:H b=none)(d:b∉ex):∃f,h1.get? b=some {c with slots:=f}:=by
 by_cases hb:b∈fs
 ·exact u.slot b c q n hb d
 ·exact⟨c.slots,u.keep b c q n hb d⟩
theorem Un.kept (k:∀b u,h.get? b=some u->h'.get? b=some u):Un fs ex H H h h' :=
 ⟨fun b c q _ _ _=>k b c q,fun b c q _ _ _=>⟨c.slots,k b c q⟩,fun _ _ _ n _=>n,fun b c q _=>⟨c,k b c q⟩,fun _ _ q=>q,fun _ _ _ q=>q,fun _ ps q=>⟨#[],by rw[q];simp⟩⟩
theorem Un.refl:Un fs ex H H h h:=Un.kept fun _ _ q=>q
theorem Un.laid (k:∀b u,h.get? b=some u->h'.get? b=some u)(d:h.objs.size<=a)(c:H a=none):Un fs ex H (upd H a o) h h' where
 keep:=fun b u q _ _ _=>k b u q
 slot:=fun b u q _ _ _=>⟨u.slots,k b u q⟩
 free:=fun b u q n _=>by rw[zG (bp (bz (aF q) d))];exact n
 there:=fun b u q _=>⟨u,k b u q⟩
 tups:=fun b xs q=>by rw[zG (yK q c)];exact q
 frzs:=fun b u xs q=>by rw[zG (yK q c)];exact q
 tbls:=fun b ps q=>⟨#[],by rw[zG (yK q c),q];simp⟩
theorem Un.write (d:Mut (H x))(j:e=x\/H e=some (.own x))(k:∀b u,b≠e->h.get? b=some u->h'.get? b=some u)(f:∃u,h'.get? e=some u):Un fs ex H (upd H x o) h h':=by
 have i:∀b,H b=none->b≠x:=fun b n z=>by subst z;rw[n]at d;exact d
 have hb:∀b,H b=none->b≠e:=fun b n z=>by
  subst z
  rcases j with r|r
  ·exact i b n r
  ·rw[n]at r;cases r
 have g:∀b u,H b=some u->¬Mut (some u)->b≠x:=fun b u q nm z=>by subst z;rw[q]at d;exact nm d
 refine⟨fun b u q n _ _=>k b u (hb b n) q,fun b u q n _ _=>⟨u.slots,k b u (hb b n) q⟩,fun b u q n _=>by rw[zG (i b n)];exact n,fun b u q _=>?_,
  fun b xs q=>by rw[zG (g b _ q fun z=>z)];exact q,fun b u xs q=>by rw[zG (g b _ q fun z=>z)];exact q,fun b ps q=>⟨#[],by rw[zG (g b _ q fun z=>z),q];simp⟩⟩
 by_cases c:b=e
 ·subst c;exact f
 ·exact⟨u,k b u c q⟩
end
noncomputable def trk (h:bF)(H:Hp):List ak:=(bA h.objs.size).filter fun a=>(H a).isSome
noncomputable def kK (h:bF)(H:Hp):bF:=PySem.W.hideAll h (trk h H)
theorem zKt (h:bF)(H:Hp):(kK h H).objs.size=h.objs.size:=PySem.W.hideAll_size _ _
theorem zKu {h:bF}{H:Hp}{b:ak}{o:Obj}(e:h.get? b=some o)(n:H b=none):(kK h H).get? b=some o :=
 PySem.W.hideAll_get _ e fun a=>by
  have q:(H b).isSome=true:=(aG.mp a).2
  rw[n]at q;simp at q
theorem zKv {h:bF}{H:Hp}{b:ak}{o:Obj}(e:(kK h H).get? b=some o):h.get? b=some o/\H b=none:=by
 have a:h.get? b=some o:=PySem.W.of_hideAll (trk h H) e
 refine⟨a,?_⟩
 cases q:H b with
 |none=>rfl
 |some x=>
  have c:b∈trk h H:=aG.mpr ⟨bK.mpr (aF a),by simp[q]⟩
  have z:(kK h H).get? b=none:=PySem.W.hideAll_none (trk h H) c
  rw[z]at e;cases e
noncomputable def zKw (g h:bF)(L:ak):List (ak×Obj):=(bA h.objs.size).filterMap fun a=>if a=L\/(g.get? a).isSome=true then none else(h.get? a).map fun o=>(a,o)
noncomputable def vQ (g h:bF)(L d:ak):List (ak×Obj):=(zKw g h L).filter fun p=>decide (p.1≠d)
structure Mod (K:ag) (mg:Str->Option aj) (base:bF):Prop where
 kin:K.In base
 glob:base.Ns mainGlobals mg
 blt:∃mb,base.Ns builtinsNs mb/\∀x:Str,x≠"__name__"->mb x=bootBuiltins x
 nolimit:base.NoLimit
structure Cx where
 prog:aJ
 w:bh
 K:ag
 mg:Str->Option aj
 base:bF
 A:bX
 N:List Str
 s₀:au
 H₀:Hp
 env:Env
 outer:List Env
 stack:List Env
 ex:List ak
 fn:Str->Bool
 calm:Bool
 pn:List (ak×Obj)
 xe:aj->au->Prop
noncomputable def u9 (l:List Env):List ak:=l.filterMap (·.frame)
noncomputable abbrev Cx.fs (X:Cx):List ak:=u9 X.outer
noncomputable def Vis (sc:gc)(x:Str):Prop:=sc.names.lookup x=some .local\/sc.names.lookup x=some .cell\/sc.names.lookup x=some .free
noncomputable def Loc (sc:gc)(x:Str):Prop:=sc.names.lookup x=some .local\/sc.names.lookup x=some .cell
noncomputable def zKx (env:Env)(h:bF)(m:Str->Option aj)(x:Str)(u:aj):Prop :=
 (env.kindOf x=some .local/\m x=some u)\/((env.kindOf x=some .cell\/env.kindOf x=some .free)/\∃c,env.cells.lookup x=some c/\h.IsCell c (some u))
structure Cx.Ok (X:Cx):Prop where
 mod:Mod X.K X.mg X.base
 kind:X.env.scope.kind=.function
 glob:X.env.globals=mainGlobals
 blt:X.env.builtins=builtinsNs
 above:X.s₀.heap.objs.size<=X.env.locals
 inj:∀x y c,X.env.cells.lookup x=some c->X.env.cells.lookup y=some c->x=y
 has:∀x,(X.env.kindOf x=some .cell\/X.env.kindOf x=some .free)->∃c,X.env.cells.lookup x=some c
 cab:∀x c,X.fn x=true->X.env.cells.lookup x=some c->X.s₀.heap.objs.size<=c
 hd:X.calm=true->X.A.handled=none
 frames:X.A.frames=some X.stack
 stk:X.stack=X.outer\/(X.stack=X.env::X.outer/\X.env.frame=some X.env.locals)
 exf:∀b∈X.ex,b≠X.env.locals/\∀x c,X.env.cells.lookup x=some c->c≠b
 bs:∀b o,X.base.get? b=some o->X.s₀.heap.get? b=some o/\X.H₀ b=none
 bsz:X.base.objs.size<=X.s₀.heap.objs.size
 noex:∀b o,X.base.get? b=some o->b∉X.ex
 exfs:∀b∈X.ex,b∉X.fs
 funs:X.s₀.heap.FunFrames X.base X.outer
 frf:∀b∈X.fs,X.H₀ b=none
structure Inv (X:Cx) (pins:List (ak×Obj)) (σ:List (Option V)) (H:Hp) (s:au):Prop where
 ok:X.Ok
 os:s.os=X.s₀.os
 bare:lO s.gens
 base:Un X.fs X.ex X.H₀ H X.s₀.heap s.heap
 loc:∃m,s.heap.Ns X.env.locals m/\∀(i:Nat) (x:Str) (v:V),X.N[i]?=some x->σ[i]?=some (some v)->Vis X.env.scope x->∃u,zX v u/\zKx X.env s.heap m x u
 cell:∀x c,X.env.cells.lookup x=some c->∃v,s.heap.IsCell c v
 free:H X.env.locals=none
 freeC:∀x c,X.env.cells.lookup x=some c->H c=none
 pin:∀p∈X.pn++pins,s.heap.get? p.1=some p.2/\H p.1=none/\p.1≠X.env.locals/\p.1∉X.fs/\∀v,p.2.data≠.cell v
 hok:yI X.prog X.w H s.heap
 len:σ.length=X.N.length
section
variable{X:Cx}{pins:List (ak×Obj)}{σ:List (Option V)}{H H':Hp}{s:au}{h':bF}
theorem Cx.Ok.nofr (ok:X.Ok){b:ak}{o:Obj}(e:X.base.get? b=some o):b∉X.fs:=fun hb=>by
 have:=(ok.funs.mem hb).1
 rw[e]at this;cases this
theorem Inv.bs (I:Inv X pins σ H s):∀b o,X.base.get? b=some o->s.heap.get? b=some o/\H b=none:=fun b o e=>
 ⟨I.base.keep b o (I.ok.bs b o e).1 (I.ok.bs b o e).2 (I.ok.nofr e) (I.ok.noex b o e),I.base.free b o (I.ok.bs b o e).1 (I.ok.bs b o e).2 (I.ok.noex b o e)⟩
theorem Inv.bk (I:Inv X pins σ H s):∀b o,X.base.get? b=some o->s.heap.get? b=some o:=fun b o e=>(I.bs b o e).1
theorem Inv.mod (I:Inv X pins σ H s):Mod X.K X.mg X.base:=I.ok.mod
theorem Inv.kIn (I:Inv X pins σ H s):X.K.In s.heap:=I.ok.mod.kin.keeps I.bk
theorem Inv.nolimit (I:Inv X pins σ H s):s.heap.NoLimit:=I.ok.mod.nolimit.keeps I.bk
theorem Inv.fr (I:Inv X pins σ H s):∃m,Fr X.base X.env.locals s.heap m :=
 let⟨m,a,_⟩:=I.loc
 ⟨m,a,I.bk,bJ I.ok.bsz I.ok.above⟩
theorem Inv.lt (I:Inv X pins σ H s):X.env.locals<s.heap.objs.size:=let⟨_,a,_⟩:=I.loc;a.lt
theorem Inv.sz (I:Inv X pins σ H s):X.s₀.heap.objs.size<=s.heap.objs.size:=bJ I.ok.above (oA I.lt)
theorem Inv.nofs (I:Inv X pins σ H s){a:ak}(h:s.heap.objs.size<=a):a∉X.fs:=fun hb=>by
 obtain⟨_,o,b,_⟩:=I.ok.funs.mem hb
 exact absurd (bz (aF b) (bJ I.sz h)) (bN _)
theorem Inv.cne (I:Inv X pins σ H s):∀x c,X.env.cells.lookup x=some c->c≠X.env.locals:=fun x c e z=>by
 obtain⟨v,o,d,hd⟩:=I.cell x c e
 obtain⟨m,⟨f,g,ep,a,b,_⟩,_⟩:=I.loc
 rw[z,a]at d;cases d;rw[b]at hd;cases hd
theorem Inv.funs (I:Inv X pins σ H s):s.heap.FunFrames X.base X.outer:=by
 have all:∀(l:List Env),(∀b∈u9 l,b∈X.fs)->X.s₀.heap.FunFrames X.base l->s.heap.FunFrames X.base l:=by
  intro l
  induction l with
  |nil=>intro _ _;trivial
  |cons env r ih=>
   intro c hl
   obtain⟨d,⟨L,o,hf,f,g,hd⟩,h⟩:=hl
   have a:L∈X.fs:=c L (by unfold u9;rw[ke,hf];exact aq)
   obtain⟨i,e⟩:=I.base.slot L o g (I.ok.frf L a) a fun z=>I.ok.exfs L z a
   exact⟨d,⟨L,_,hf,f,e,hd⟩,ih (fun b hb=>c b (by unfold u9;rw[ke,hf];exact aw _ hb)) h⟩
 exact all X.outer (fun _ hb=>hb) I.ok.funs
theorem Inv.stack (I:Inv X pins σ H s):s.heap.FunFrames X.base X.stack:=by
 rcases I.ok.stk with e|⟨e,hf⟩
 ·rw[e];exact I.funs
 ·rw[e]
  obtain⟨m,a,_⟩:=I.loc
  refine .cons (by rw[I.ok.kind];decide) hf a ?_ I.funs
  exact Heap.get?_none_of_le (bJ I.ok.bsz I.ok.above)
theorem Inv.stkSub (I:Inv X pins σ H s):∀b∈u9 X.stack,b∈X.env.locals::X.fs:=fun b hb=>by
 rcases I.ok.stk with e|⟨e,hf⟩
 ·rw[e]at hb;exact aw _ hb
 ·rw[e]at hb
  unfold u9 at hb
  rw[ke,hf]at hb
  exact hb
theorem Inv.stkFree (I:Inv X pins σ H s):∀b∈u9 X.stack,H b=none:=fun b hb=>by
 rcases aL.mp (I.stkSub b hb)with e|hb
 ·rw[e];exact I.free
 ·obtain⟨_,o,a,_⟩:=I.ok.funs.mem hb
  exact I.base.free b o a (I.ok.frf b hb) fun z=>I.ok.exfs b z hb
theorem Inv.step {g':Array ql}{t':Nat}{d':Drawn}{ch:List ak}(I:Inv X pins σ H s)
  (f:∀b∈ch,(b∈X.ex\/X.s₀.heap.objs.size<=b)/\b≠X.env.locals/\(∀x c,X.env.cells.lookup x=some c->c≠b)/\∀p∈X.pn++pins,p.1≠b)
  (keep:∀b o,b≠X.env.locals->b∉X.fs->b∉ch->s.heap.get? b=some o->H b=none->h'.get? b=some o)
  (slot:∀b o,b≠X.env.locals->b∈X.fs->b∉ch->s.heap.get? b=some o->H b=none->∃C,h'.get? b=some {o with slots:=C}) (free:∀b o,b∉ch->s.heap.get? b=some o->H b=none->H' b=none)
  (there:∀b o,b∉ch->s.heap.get? b=some o->∃y,h'.get? b=some y)
  (tups:∀b xs,H b=some (.tup xs)->H' b=some (.tup xs)) (frzs:∀b o u,H b=some (.frz o u)->H' b=some (.frz o u)) (tbls:∀b ps,H b=some (.tbl ps)->∃more,H' b=some (.tbl (ps++more)))
  (ns:∀m,s.heap.Ns X.env.locals m->h'.Ns X.env.locals m) (hok:yI X.prog X.w H' h') (J:lO g') :
  Inv X pins σ H' {s with heap:=h',gens:=g',drawn:=d',toks:=t'}:=by
 have A:∀b o,X.s₀.heap.get? b=some o->b≠X.env.locals:=fun b o e=>bp (bz (aF e) I.ok.above)
 have j:∀b o,X.s₀.heap.get? b=some o->b∉X.ex->b∉ch:=fun b o e a hb=>by
  rcases(f b hb).1 with z|z
  ·exact a z
  ·exact absurd (bz (aF e) z) (bN _)
 have g:∀x c,X.env.cells.lookup x=some c->∀v,s.heap.IsCell c v->h'.IsCell c v:=fun x c e v zq=>by
  obtain⟨o,t,hd⟩:=zq
  have h:c∉ch:=fun z=>(f c z).2.2.1 x c e rfl
  by_cases E:c∈X.fs
  ·obtain⟨C,q⟩:=slot c o (I.cne x c e) E h t (I.freeC x c e)
   exact⟨_,q,hd⟩
  ·exact⟨o,keep c o (I.cne x c e) E h t (I.freeC x c e),hd⟩
 refine⟨I.ok,I.os,J,⟨fun b o e n hb a=>?_,fun b o e n hb a=>?_,fun b o e n a=>?_,fun b o e a=>?_,fun b xs e=>tups b xs (I.base.tups b xs e),fun b o xs e=>frzs b o xs (I.base.frzs b o xs e),fun b ps e=>?_⟩,?_,fun x c e=>?_,?_,fun x c e=>?_,fun p F=>?_,hok,I.len⟩
 ·exact keep b o (A b o e) hb (j b o e a) (I.base.keep b o e n hb a) (I.base.free b o e n a)
 ·obtain⟨C,e1⟩:=I.base.slot b o e n hb a
  obtain⟨D,B⟩:=slot b _ (A b o e) hb (j b o e a) e1 (I.base.free b o e n a)
  exact⟨D,B⟩
 ·obtain⟨y,e1⟩:=I.base.there b o e a
  exact free b y (j b o e a) e1 (I.base.free b o e n a)
 ·obtain⟨y,e1⟩:=I.base.there b o e a
  exact there b y (j b o e a) e1
 ·obtain⟨L,e1⟩:=I.base.tbls b ps e
  obtain⟨M,B⟩:=tbls b _ e1
  exact⟨L++M,by rw[B,Array.append_assoc]⟩
 ·obtain⟨m,N,hl⟩:=I.loc
  refine⟨m,ns m N,fun i x v e1 B O=>?_⟩
  obtain⟨u,r,l⟩:=hl i x v e1 B O
  refine⟨u,r,?_⟩
  rcases l with l|⟨k,c,e,z⟩
  ·exact .inl l
  ·exact .inr ⟨k,c,e,g x c e _ z⟩
 ·obtain⟨v,z⟩:=I.cell x c e
  exact⟨v,g x c e v z⟩
 ·obtain⟨m,⟨o,_,_,t,_⟩,_⟩:=I.loc
  exact free _ o (fun z=>(f _ z).2.1 rfl) t I.free
 ·obtain⟨v,o,t,hd⟩:=I.cell x c e
  exact free c o (fun z=>(f c z).2.2.1 x c e rfl) t (I.freeC x c e)
 ·obtain⟨e,n,ne,G,d⟩:=I.pin p F
  have h:p.1∉ch:=fun z=>(f p.1 z).2.2.2 p F rfl
  exact⟨keep p.1 p.2 ne G h e n,free p.1 p.2 h e n,ne,G,d⟩
theorem Inv.un {t':Nat}(I:Inv X pins σ H s)(u:Un X.fs [] H H' s.heap h')(hok:yI X.prog X.w H' h'):Inv X pins σ H' {s with heap:=h',toks:=t'}:=by
 obtain⟨m,⟨o,i,ep,d,r⟩,_⟩:=id I.loc
 obtain⟨j,f⟩:=u.any d I.free (by simp)
 exact I.step (g':=s.gens) (d':=s.drawn) (ch:=[]) (fun _ z=>nomatch z) (fun b o _ hb _ e n=>u.keep b o e n hb (by simp)) (fun b o _ hb _ e n=>u.slot b o e n hb (by simp)) (fun b o _ e n=>u.free b o e n (by simp)) (fun b o _ e=>u.there b o e (by simp)) u.tups u.frzs u.tbls (fun l g=>by
  obtain⟨p,es',c,a,h⟩:=g
  rw[d]at a;cases a
  exact⟨_,es',c,f,h⟩) hok I.bare
theorem Inv.call {g':Array ql}{t':Nat}{d':Drawn}{ch:List ak}(I:Inv X pins σ H s)(u:Un (u9 X.stack) ch H H' s.heap h')(hok:yI X.prog X.w H' h')(j:lO g')
  (d:∀b∈ch,(b∈X.ex\/X.s₀.heap.objs.size<=b)/\b≠X.env.locals/\(∀x c,X.env.cells.lookup x=some c->c≠b)/\∀p∈X.pn++pins,p.1≠b) :
  Inv X pins σ H' {s with heap:=h',gens:=g',drawn:=d',toks:=t'}:=by
 obtain⟨m,⟨o,t,ep,i,r⟩,_⟩:=id I.loc
 obtain⟨v,g⟩:=u.any i I.free fun z=>(d _ z).2.1 rfl
 exact I.step (ch:=ch) d (fun b o g hb a e n=>u.keep b o e n (fun z=>(aL.mp (I.stkSub b z)).elim g hb) a) (fun b o _ _ a e n=>u.any e n a) (fun b o a e n=>u.free b o e n a) (fun b o a e=>u.there b o e a) u.tups u.frzs u.tbls (fun y l=>by
  obtain⟨A,es',h,f,q⟩:=l
  rw[i]at f;cases f
  exact⟨_,es',h,g,q⟩) hok j
theorem Inv.turned {t':Nat}{a:ak}(I:Inv X pins σ H s)(k:∀b o,b≠a->s.heap.get? b=some o->h'.get? b=some o)(h:H a=none)(g:a≠X.env.locals)
  (i:a∈X.ex\/X.s₀.heap.objs.size<=a) (j:∀x c,X.env.cells.lookup x=some c->c≠a) (l:∀p∈X.pn++pins,p.1≠a):Inv X pins σ H {s with heap:=h',toks:=t'}:=by
 have f:∀b u,H b=some u->b≠a:=fun b u e z=>by rw[z,h]at e;cases e
 refine I.step (g':=s.gens) (d':=s.drawn) (ch:=[a]) (fun b hb=>?_) (fun b o _ _ d e _=>k b o (fun z=>d (by simp[z])) e) (fun b o _ _ d e _=>⟨o.slots,k b o (fun z=>d (by simp[z])) e⟩) (fun _ _ _ _ n=>n)
  (fun b o d e=>⟨o,k b o (fun z=>d (by simp[z])) e⟩) (fun _ _ e=>e) (fun _ _ _ e=>e) (fun b ps e=>⟨#[],by rw[e];simp⟩) (fun m t=>?_) (fun b u e=>?_) I.bare
 ·have e:b=a:=by simpa using hb
  subst e
  exact⟨i,g,j,l⟩
 ·obtain⟨o,w,ep,y,r⟩:=t
  exact⟨o,w,ep,k _ o (eN g) y,r⟩
 ·refine(I.hok b u e).stay (fun c v d q=>k c v ?_ q) (fun _ q=>q) fun _ _ q=>q
  rcases d with z|z
  ·rw[z];exact f b u e
  ·exact f c _ z
theorem Inv.tok (I:Inv X pins σ H s)(t:Nat):Inv X pins σ H {s with toks:=t}:=I.un (h':=s.heap) (t':=t) Un.refl I.hok
theorem Inv.kept {t':Nat}(I:Inv X pins σ H s)(k:∀b u,s.heap.get? b=some u->h'.get? b=some u):Inv X pins σ H {s with heap:=h',toks:=t'}:=I.un (Un.kept k) (I.hok.kept k)
theorem Inv.laid {a:ak}{o:HO}{t':Nat}(I:Inv X pins σ H s)(k:∀b u,s.heap.get? b=some u->h'.get? b=some u)(c:s.heap.objs.size<=a)(new:yV X.prog X.w (upd H a o) h' a o) :
  Inv X pins σ (upd H a o) {s with heap:=h',toks:=t'}:=I.un (Un.laid k c (I.hok.fresh c)) (I.hok.laid k c new)
theorem Inv.write {x e:ak}{o:HO}{t':Nat}(I:Inv X pins σ H s)(c:Mut (H x))(d:e=x\/H e=some (.own x))(k:∀b u,b≠e->s.heap.get? b=some u->h'.get? b=some u)(a:∃u,h'.get? e=some u)
  (new:yV X.prog X.w (upd H x o) h' x o):Inv X pins σ (upd H x o) {s with heap:=h',toks:=t'}:=I.un (Un.write c d k a) (I.hok.write c d k a new)
theorem Inv.pins_of {pins':List (ak×Obj)}(I:Inv X pins σ H s)(h:∀p∈pins',s.heap.get? p.1=some p.2/\H p.1=none/\p.1≠X.env.locals/\p.1∉X.fs/\∀v,p.2.data≠.cell v):Inv X pins' σ H s :=
 ⟨I.ok,I.os,I.bare,I.base,I.loc,I.cell,I.free,I.freeC,fun p a=>(bt.mp a).elim (fun z=>I.pin p (bY _ z)) (h p),I.hok,I.len⟩
theorem zFh {N:List Str}(c:N.Nodup){i j:Nat}{x:Str}(a:N[i]?=some x)(b:N[j]?=some x):i=j:=by
 obtain⟨e,e1⟩:=ah.mp a
 obtain⟨f,d⟩:=ah.mp b
 exact(eC c).mp (e1.trans d.symm)
theorem zKy {M:Model}{A:bX}{E:aj->au->Prop}{i:Nat}{x:Str}{v:V}{u:aj}{Q:Unit->au->Prop}(I:Inv X pins σ H s)(hN:X.N.Nodup)(hi:X.N[i]?=some x)(t:Loc X.env.scope x)(r:zX v u)
  (h:∀s',Inv X pins (σ.set i (some v)) H s'->(∃a,ig a s.heap s'.heap/\(a=X.env.locals\/X.env.cells.lookup x=some a))->Q () s') (hf:X.fn x=true\/X.env.scope.names.lookup x=some .local:=by first|exact .inl rfl|exact .inr rfl|assumption):wpAny M A (storeName X.env x u) Q E s:=by
 obtain⟨m,Y,hl⟩:=id I.loc
 have J:(X.env.scope.kind== .class||(X.env.scope.kind== .module&&X.env.locals !=X.env.globals))=false:=by rw[I.ok.kind];rfl
 have L:i<σ.length:=by rw[I.len];exact(ah.mp hi).1
 have cne:=I.cne
 have g:∀{a:ak} {h':bF},(∃o,s.heap.get? a=some o/\H a=none)->ig a s.heap h'->yI X.prog X.w H h':=fun{a h'} ha f b ob e=>by
  obtain⟨_,_,B⟩:=ha
  refine(I.hok b ob e).stay (fun c U l q=>(f.2 c ?_).trans q) (fun _ q=>q) fun _ _ q=>q
  rintro rfl
  rcases l with rfl|l
  ·rw[B]at e;cases e
  ·rw[B]at l;cases l
 rcases t with D|D
 ·refine wpAny_storeName_local D Y (fun h' Z f=>?_) J
  obtain⟨oL,_,_,aa,_⟩:=id Y
  refine h _ ⟨I.ok,I.os,I.bare,⟨fun b o e n hb t=>?_,fun b o e n hb t=>?_,I.base.free,fun b o e t=>?_,I.base.tups,I.base.frzs,I.base.tbls⟩,⟨_,Z,fun j y v' e1 C e3=>?_⟩,fun y c e=>?_,I.free,I.freeC,fun p hp=>?_,g ⟨oL,aa,I.free⟩ f,by simpa using I.len⟩ ⟨_,f,.inl rfl⟩
  ·exact(f.2 b (bp (bz (aF e) I.ok.above))).trans (I.base.keep b o e n hb t)
  ·obtain⟨sl,e1⟩:=I.base.slot b o e n hb t
   exact⟨sl,(f.2 b (bp (bz (aF e) I.ok.above))).trans e1⟩
  ·obtain⟨o',e1⟩:=I.base.there b o e t
   exact⟨o',(f.2 b (bp (bz (aF e) I.ok.above))).trans e1⟩
  ·by_cases F:j=i
   ·subst F
    rw[hi]at e1;cases e1
    rw[mH L]at C
    cases C
    exact⟨u,r,.inl ⟨D,by simp⟩⟩
   ·rw[nz (eN F)]at C
    obtain⟨u',r',q⟩:=hl j y v' e1 C e3
    refine⟨u',r',?_⟩
    rcases q with⟨k,e⟩|⟨k,c,e,z⟩
    ·refine .inl ⟨k,?_⟩
     have:y≠x:=fun e=>F (zFh hN e1 (e▸hi))
     simp[this,e]
    ·exact .inr ⟨k,c,e,z.sameBut f (cne y c e)⟩
  ·obtain⟨U,z⟩:=I.cell y c e
   exact⟨U,z.sameBut f (cne y c e)⟩
  ·obtain⟨e,n,ne,nf,d⟩:=I.pin p hp
   exact⟨(f.2 p.1 ne).trans e,n,ne,nf,d⟩
 ·have G:X.fn x=true:=by
   rcases hf with z|z
   ·exact z
   ·rw[z]at D;cases D
  obtain⟨c,l⟩:=I.ok.has x (.inl D)
  obtain⟨U,z⟩:=I.cell x c l
  refine wpAny_storeName_cell I.ok.kind D l z (fun h' O f=>?_)
  obtain⟨oc,P,R⟩:=id z
  refine h {s with heap:=h'} ⟨I.ok,I.os,I.bare,⟨fun b o e n hb t=>?_,fun b o e n hb t=>?_,I.base.free,fun b o e t=>?_,I.base.tups,I.base.frzs,I.base.tbls⟩,⟨m,Y.sameBut f (eN (cne x c l)),fun j y v' e1 C e3=>?_⟩,fun y W e=>?_,I.free,I.freeC,fun p hp=>?_,g ⟨oc,P,I.freeC x c l⟩ f,by simpa using I.len⟩ ⟨c,f,.inr l⟩
  ·exact(f.2 b (bp (bz (aF e) (I.ok.cab x c G l)))).trans (I.base.keep b o e n hb t)
  ·obtain⟨sl,e1⟩:=I.base.slot b o e n hb t
   exact⟨sl,(f.2 b (bp (bz (aF e) (I.ok.cab x c G l)))).trans e1⟩
  ·obtain⟨o',e1⟩:=I.base.there b o e t
   exact⟨o',(f.2 b (bp (bz (aF e) (I.ok.cab x c G l)))).trans e1⟩
  ·by_cases F:j=i
   ·subst F
    rw[hi]at e1;cases e1
    rw[mH L]at C
    cases C
    exact⟨u,r,.inr ⟨.inl D,c,l,O⟩⟩
   ·rw[nz (eN F)]at C
    obtain⟨u',r',q⟩:=hl j y v' e1 C e3
    refine⟨u',r',?_⟩
    rcases q with q|⟨k,W,e,z'⟩
    ·exact .inl q
    ·refine .inr ⟨k,W,e,z'.sameBut f ?_⟩
     rintro rfl
     exact F (zFh hN e1 (I.ok.inj _ _ _ e l▸hi))
  ·by_cases T:W=c
   ·subst T;exact⟨_,O⟩
   ·obtain⟨w2,z2⟩:=I.cell y W e
    exact⟨w2,z2.sameBut f T⟩
  ·obtain⟨e,n,ne,nf,d⟩:=I.pin p hp
   refine⟨(f.2 p.1 ?_).trans e,n,ne,nf,d⟩
   intro q
   rw[q,P]at e
   have q':oc=p.2:=aB e
   exact d U (by rw[<-q'];exact R)
theorem zCx {M:Model}{A:bX}{E:aj->au->Prop}{i:Nat}{x:Str}{v:V}{u:aj}{Q:Unit->au->Prop}(I:Inv X pins σ H s)(a:X.N.Nodup)(hi:X.N[i]?=some x)(b:Loc X.env.scope x)(r:zX v u)
  (h:∀s',Inv X pins (σ.set i (some v)) H s'->Q () s') (hf:X.fn x=true\/X.env.scope.names.lookup x=some .local:=by first|exact .inl rfl|exact .inr rfl|assumption):wpAny M A (storeName X.env x u) Q E s :=
 zKy I a hi b r (fun s' c _=>h s' c) hf
theorem Inv.call' {s':au}{ch:List ak}(I:Inv X pins σ H s)(d:s'.os=s.os)(u:Un (u9 X.stack) ch H H' s.heap s'.heap)(hok:yI X.prog X.w H' s'.heap)(f:lO s'.gens)
  (a:∀b∈ch,(b∈X.ex\/X.s₀.heap.objs.size<=b)/\b≠X.env.locals/\(∀x c,X.env.cells.lookup x=some c->c≠b)/\∀p∈X.pn++pins,p.1≠b):Inv X pins σ H' s':=by
 obtain⟨h',g',d',t',g⟩:=s'
 have e:g=s.os:=d
 subst e
 exact I.call (g':=g') (t':=t') (d':=d') u hok f a
end
noncomputable abbrev XK:=aj->Option ak->Hp->Prop
noncomputable abbrev St:=List (Option V)
noncomputable abbrev VK:=V->Hp->Prop
noncomputable abbrev TE:=St->Hp->VK->Prop
noncomputable abbrev TT:=St->Hp->(Bool->Hp->Prop)->Prop
noncomputable abbrev TA:=St->Hp->(List V->Hp->Prop)->Prop
structure Ends where
 nx:St->Hp->Prop
 rt:VK
 bk:St->Hp->Prop:=fun _ _=>False
 ct:St->Hp->Prop:=fun _ _=>False
noncomputable abbrev TS:=Ends->St->Hp->Prop
noncomputable def EP (X:Cx)(pins:List (ak×Obj))(σ:St)(Q:VK)(u:aj)(s':au):Prop:=∃v H',Inv X pins σ H' s'/\zX v u/\Q v H'
noncomputable def TP (X:Cx)(pins:List (ak×Obj))(σ:St)(Q:Bool->Hp->Prop)(b:Bool)(s':au):Prop:=∃H',Inv X pins σ H' s'/\Q b H'
noncomputable def AP (X:Cx)(pins:List (ak×Obj))(σ:St)(Q:List V->Hp->Prop)(us:List aj)(s':au):Prop:=∃vs H',Inv X pins σ H' s'/\zU vs us/\Q vs H'
noncomputable def SP (X:Cx)(pins:List (ak×Obj))(D:Ends)(f:Flow)(s':au):Prop :=
 match f with
 | .next=>∃σ' H',Inv X pins σ' H' s'/\D.nx σ' H'
 | .brk=>∃σ' H',Inv X pins σ' H' s'/\D.bk σ' H'
 | .cont=>∃σ' H',Inv X pins σ' H' s'/\D.ct σ' H'
 | .ret u=>∃v σ' H',Inv X pins σ' H' s'/\zX v u/\D.rt v H'
noncomputable def PE (X:Cx)(e:bS)(t:TE):Prop :=
 ∀(pins:List (ak×Obj)) (s:au) (σ:St) (H:Hp) (Q:VK),Inv X pins σ H s->t σ H Q->wpAny (model X.prog X.w) X.A (eval e X.env) (EP X pins σ Q) X.xe s
noncomputable def PT (X:Cx)(e:bS)(t:TT):Prop :=
 ∀(pins:List (ak×Obj)) (s:au) (σ:St) (H:Hp) (Q:Bool->Hp->Prop),Inv X pins σ H s->t σ H Q->wpAny (model X.prog X.w) X.A (isTrue e X.env (eval e X.env)) (TP X pins σ Q) X.xe s
noncomputable def PW (X:Cx)(e:bS)(t:TT):Prop :=
 ∀(whole:Sem aj) (pins:List (ak×Obj)) (s:au) (σ:St) (H:Hp) (Q:Bool->Hp->Prop),Inv X pins σ H s->t σ H Q->wpAny (model X.prog X.w) X.A (isTrue e X.env whole) (TP X pins σ Q) X.xe s
theorem PW.pt {X:Cx}{e:bS}{t:TT}(h:PW X e t):PT X e t:=h _
noncomputable def PA (X:Cx)(es:List bS)(t:TA):Prop :=
 ∀(pos:Pos) (pins:List (ak×Obj)) (s:au) (σ:St) (H:Hp) (Q:List V->Hp->Prop),Inv X pins σ H s->t σ H Q->wpAny (model X.prog X.w) X.A (spliced (backTo pos (starEach es X.env))) (AP X pins σ Q) X.xe s
noncomputable def PS (X:Cx)(st:cJ)(t:TS):Prop :=
 ∀(pins:List (ak×Obj)) (s:au) (σ:St) (H:Hp) (D:Ends),Inv X pins σ H s->t D σ H->wpAny (model X.prog X.w) X.A (exec st X.env) (SP X pins D) X.xe s
noncomputable def qX (X:Cx)(st:List cJ)(t:TS):Prop :=
 ∀(pins:List (ak×Obj)) (s:au) (σ:St) (H:Hp) (D:Ends),Inv X pins σ H s->t D σ H->wpAny (model X.prog X.w) X.A (execs st X.env) (SP X pins D) X.xe s
theorem zM {α:Type}{t:Sem α}{Q b:α->au->Prop}{M:Model}{A:bX}{E:aj->au->Prop}{s:au}(h:wpAny M A t Q E s)(c:∀a s,Q a s->b a s):wpAny M A t b E s:=cY h c fun _ _ x=>x
section
variable{X:Cx}
noncomputable def zAk (i:Nat):TE:=fun σ H Q=>∃v,σ[i]?=some (some v)/\Q v H
noncomputable def tC (v:V):TE:=fun _ H Q=>Q v H
theorem zKz {i:Nat}{x:Str}{pos:Pos}(j:X.N[i]?=some x)(hv:Vis X.env.scope x)(hd:(x==("__debug__" : Str))=false:=by decide)(f:(x==("__classdict__" : Str))=false:=by decide):PE X (.Name x pos) (zAk i):=by
 intro d s σ H Q I h
 obtain⟨v,e,h⟩:=h
 obtain⟨m,n,hl⟩:=I.loc
 obtain⟨u,r,l⟩:=hl i x v j e hv
 have fin:EP X d σ Q u s:=⟨v,H,I,r,h⟩
 rcases l with⟨b,o⟩|⟨b,c,g,a⟩
 ·exact mI (jm I.ok.kind b n o fin) hd
 ·rcases b with b|b
  ·exact mI (wpAny_loadName_cell I.ok.kind b g a fin) hd
  ·exact mI (wpAny_loadName_free I.ok.kind b g a fin f) hd
theorem zQ {i j pos}:PE X (.Constant (.int i) j pos) (tC (.int i)):=fun _ _ _ H _ I h=>kx ⟨.int i,H,I.tok _,⟨_,rfl⟩,h⟩
theorem jJ {b j pos}:PE X (.Constant (.bool b) j pos) (tC (.bl b)):=fun _ _ _ H _ I h=>Constant_bool ⟨.bl b,H,I,rfl,h⟩
theorem vD {x j pos}:PE X (.Constant (.str x) j pos) (tC (.str x)):=fun _ _ _ H _ I h=>Calls.Constant_str ⟨.str x,H,I.tok _,⟨_,rfl⟩,h⟩
noncomputable def Gl (X:Cx)(x:Str):Prop:=X.env.kindOf x=some .globalImplicit
theorem zFi {E:aj->au->Prop}{a:List (ak×Obj)}{s:au}{σ:St}{H:Hp}{x:Str}{u:aj}{pos:Pos}{Q:aj->au->Prop}(I:Inv X a σ H s)(b:Gl X x)(c:X.mg x=some u)(h:Q u s)
  (hd:(x==("__debug__" : Str))=false:=by decide):wpAny (model X.prog X.w) X.A (eval (.Name x pos) X.env) Q E s :=
 ky I.ok.kind b (Calls.loadGlobal_global (by rw[I.ok.glob];exact I.mod.glob.keeps I.bk) c h) hd
theorem j2 {E:aj->au->Prop}{a:List (ak×Obj)}{s:au}{σ:St}{H:Hp}{x:Str}{u:aj}{pos:Pos}{Q:aj->au->Prop}(I:Inv X a σ H s)(b:Gl X x)(c:X.mg x=none)(hv:bootBuiltins x=some u)(h:Q u s)
  (d:x≠"__name__" :=by decide) (hd:(x==("__debug__" : Str))=false:=by decide):wpAny (model X.prog X.w) X.A (eval (.Name x pos) X.env) Q E s:=by
 obtain⟨mb,e,f⟩:=I.mod.blt
 exact ky I.ok.kind b (Calls.loadGlobal_builtin (by rw[I.ok.glob];exact I.mod.glob.keeps I.bk) c (by rw[I.ok.blt];exact e.keeps I.bk) ((f x d).trans hv) h) hd
theorem yR {x:Str}{v:V}{u:aj}{pos:Pos}(a:Gl X x)(b:X.mg x=some u)(r:zX v u)(hd:(x==("__debug__" : Str))=false:=by decide):PE X (.Name x pos) (tC v) :=
 fun _ _ _ H _ I h=>zFi I a b ⟨v,H,I,r,h⟩ hd
theorem zAL {x:Str}{v:V}{u:aj}{pos:Pos}(a:Gl X x)(b:X.mg x=none)(hv:bootBuiltins x=some u)(r:zX v u)(c:x≠"__name__" :=by decide)(hd:(x==("__debug__" : Str))=false:=by decide):PE X (.Name x pos) (tC v) :=
 fun _ _ _ H _ I h=>j2 I a b hv ⟨v,H,I,r,h⟩ c hd
variable{a b:bS}{ta tb:TE}{pos:Pos}
noncomputable def PC (X:Cx)(op:qm)(a b:bS)(t:TE):Prop :=
 ∀(pins:List (ak×Obj)) (s:au) (σ:St) (H:Hp) (Q:VK),Inv X pins σ H s->t σ H Q->
  wpAny (model X.prog X.w) X.A (eval a X.env) (fun v s₁=>wpAny (model X.prog X.w) X.A (eval b X.env) (fun u s₂=>wpAny (model X.prog X.w) X.A (compareOp op v u) (EP X pins σ Q) X.xe s₂) X.xe s₁) X.xe s
theorem zLA (b:bS){op:qm}(h:op≠.In)(c:op≠.NotIn):behindInMarks op b=false:=by
 have e1:(op==CmpOp.In)=false:=by cases op<;>first|rfl|exact absurd rfl h
 have d:(op==CmpOp.NotIn)=false:=by cases op<;>first|rfl|exact absurd rfl c
 cases b<;>simp[behindInMarks,e1,d]
noncomputable def tB (t:TE):TT:=fun σ H Q=>t σ H fun x H1=>∃c,x=.bl c/\Q c H1
theorem zFj {op:qm}{t:TE}(h:PC X op a b t)(f:behindInMarks op b=false:=by first|exact zLA _ (by decide) (by decide)|rfl):PT X (.Compare a [op] [b] pos) (tB t):=by
 intro e s σ H Q I g
 refine ni (zM (h e s σ H _ I g) fun v o f=>zM f fun u p i=>zM i fun c r zq=>?_) f
 obtain⟨x,j,l,m,n⟩:=zq
 obtain⟨d,rfl,q⟩:=n
 cases m
 exact dt ⟨j,l,q⟩
theorem vW {e:bS}{t:TE}(h:PE X e t)(f:∀whole,isTrue e X.env whole=(do let v<-whole;standAt e.pos;holding [v] (truthy v)):=by intro _;rfl):PT X e (tB t):=by
 intro c s σ H Q I g
 refine isTrue_plain (zM (h c s σ H _ I g) fun v n zq=>?_) (f _)
 obtain⟨x,i,j,l,m⟩:=zq
 obtain⟨d,rfl,q⟩:=m
 cases l
 exact dt ⟨i,j,q⟩
variable{tA tB':TT}{vQ:List bS}
noncomputable def zLB (t u:TT):TT:=fun σ H Q=>t σ H fun c H1=>if c=true then u σ H1 Q else Q false H1
noncomputable def tOr (t u:TT):TT:=fun σ H Q=>t σ H fun c H1=>if c=true then Q true H1 else u σ H1 Q
noncomputable def zLC (t:TT):TT:=fun σ H Q=>t σ H fun c H1=>Q (!c) H1
theorem zLD (ha:PT X a tA):PW X (.BoolOp .And [a] pos) tA:=by
 intro wh d s σ H Q I h
 refine isTrue_and (zM (ha d s σ H Q I h) fun c f e=>?_)
 cases c with
 |true=>exact isTrue_and_nil e
 |false=>exact e
theorem zAM (ha:PT X a tA):PW X (.BoolOp .Or [a] pos) tA:=by
 intro wh d s σ H Q I h
 refine isTrue_or (zM (ha d s σ H Q I h) fun c f e=>?_)
 cases c with
 |false=>exact isTrue_or_nil e
 |true=>exact e
theorem zLE (ha:PT X a tA)(hb:PW X (.BoolOp .And (b::vQ) pos) tB'):PW X (.BoolOp .And (a::b::vQ) pos) (zLB tA tB'):=by
 intro wh d s σ H Q I h
 refine isTrue_and (zM (ha d s σ H _ I h) fun c i zq=>?_)
 obtain⟨e,f,g⟩:=zq
 cases c with
 |true=>exact hb wh d i σ e Q f g
 |false=>exact⟨e,f,g⟩
theorem zAN (ha:PT X a tA)(hb:PW X (.BoolOp .Or (b::vQ) pos) tB'):PW X (.BoolOp .Or (a::b::vQ) pos) (tOr tA tB'):=by
 intro wh d s σ H Q I h
 refine isTrue_or (zM (ha d s σ H _ I h) fun c i zq=>?_)
 obtain⟨e,f,g⟩:=zq
 cases c with
 |true=>exact⟨e,f,g⟩
 |false=>exact hb wh d i σ e Q f g
theorem uI (ha:PT X a tA):PT X (.UnaryOp .Not a pos) (zLC tA):=by
 intro d s σ H Q I h
 exact isTrue_not (ha d s σ H (fun c e=>Q (!c) e) I h)
noncomputable def zLF (ta tb:TE):TE:=fun σ H Q=>ta σ H fun x H1=>∃c,x=.bl c/\if c=true then tb σ H1 Q else Q (.bl false) H1
noncomputable def zLG (ta tb:TE):TE:=fun σ H Q=>ta σ H fun x H1=>∃c,x=.bl c/\if c=true then Q (.bl true) H1 else tb σ H1 Q
noncomputable def zLH (ta:TE):TE:=fun σ H Q=>ta σ H fun x H1=>∃c,x=.bl c/\Q (.bl (!c)) H1
theorem gD {op}{t:TE}(h:PE X a t):PE X (.BoolOp op [a] pos) t:=fun c s σ H Q I d=>BoolOp_one (h c s σ H Q I d)
theorem zAO (ha:PE X a ta)(hb:PE X (.BoolOp .And (b::vQ) pos) tb):PE X (.BoolOp .And (a::b::vQ) pos) (zLF ta tb):=by
 intro d s σ H Q I h
 refine BoolOp_and (zM (ha d s σ H _ I h) fun v i zq=>?_)
 obtain⟨x,f,g,j,e⟩:=zq
 obtain⟨c,rfl,e⟩:=e
 cases j
 refine dt ?_
 cases c with
 |true=>exact hb d i σ f Q g e
 |false=>exact⟨.bl false,f,g,rfl,e⟩
theorem zFk (ha:PE X a ta)(hb:PE X (.BoolOp .Or (b::vQ) pos) tb):PE X (.BoolOp .Or (a::b::vQ) pos) (zLG ta tb):=by
 intro d s σ H Q I h
 refine BoolOp_or (zM (ha d s σ H _ I h) fun v i zq=>?_)
 obtain⟨x,f,g,j,e⟩:=zq
 obtain⟨c,rfl,e⟩:=e
 cases j
 refine dt ?_
 cases c with
 |false=>exact hb d i σ f Q g e
 |true=>exact⟨.bl true,f,g,rfl,e⟩
theorem zFl (ha:PE X a ta):PE X (.UnaryOp .Not a pos) (zLH ta):=by
 intro d s σ H Q I h
 refine tY (zM (ha d s σ H _ I h) fun v j zq=>?_)
 obtain⟨x,f,g,i,e⟩:=zq
 obtain⟨c,rfl,e⟩:=e
 cases i
 exact not_of (dt ⟨.bl (!c),f,g,rfl,e⟩)
noncomputable def tIf (t:TT)(ta tb:TE):TE:=fun σ H Q=>t σ H fun c H1=>if c=true then ta σ H1 Q else tb σ H1 Q
theorem zFm {c:bS}(l:PT X c tA)(ha:PE X a ta)(hb:PE X b tb):PE X (.IfExp c a b pos) (tIf tA ta tb):=by
 intro e s σ H Q I h
 refine wpAny_IfExp (zM (l e s σ H _ I h) fun d f zq=>?_)
 obtain⟨g,i,j⟩:=zq
 cases d with
 |true=>exact ha e f σ g Q i j
 |false=>exact hb e f σ g Q i j
end
noncomputable def yG (K:ag)(H:Hp)(a:ak)(xs:List V):Prop :=
 Rd H a (.lst xs)\/
  ∃(o:Obj) (its:Array aj) (n:Nat),K.lookup a=some o/\o.cls=.type "list"/\o.dict=none/\o.data=.seq its n/\its.size<=sizeLine/\zU xs its.toList
noncomputable def z7 (K:ag)(H:Hp)(a:ak)(xs:List V):Prop :=
 Rd H a (.tup xs)\/
  ∃(o:Obj) (its:Array aj) (n:Nat),K.lookup a=some o/\o.cls=.type "tuple"/\o.data=.seq its n/\its.size<=sizeLine/\zU xs its.toList
noncomputable def zLI:aj->Option V
 | .none=>some .non
 | .bool b=>some (.bl b)
 | .int i _=>some (.int i)
 | .str x _=>some (.str x)
 | .bytes b _=>some (.byt b)
 | .float b _=>some (.flt b)
 | .ref a=>some (.ref a)
 | .type n=>some (.ty n)
 |_=>none
theorem zX.abs {x:V}{u:aj}(r:zX x u):zLI u=some x:=by
 cases x with
 |non=>cases r;rfl
 |bl _=>cases r;rfl
 |int _=>obtain⟨t,rfl⟩:=r;rfl
 |str _=>obtain⟨t,rfl⟩:=r;rfl
 |byt _=>obtain⟨t,rfl⟩:=r;rfl
 |flt _=>obtain⟨t,rfl⟩:=r;rfl
 |ref _=>cases r;rfl
 |ty _=>cases r;rfl
theorem zX.inj {x y:V}{u:aj}(r:zX x u)(q:zX y u):x=y:=aB (r.abs.symm.trans q.abs)
theorem zU.inj:∀{xs ys:List V}{a:List aj},zU xs a->zU ys a->xs=ys
 |_,_,_,.nil,.nil=>rfl
 |_,_,_,.cons r t,.cons b t'=>by rw[r.inj b,zU.inj t t']
section
variable{X:Cx}{pins:List (ak×Obj)}{σ:St}{H:Hp}{s:au}{a:ak}{xs ys:List V}
theorem yG.of {K:ag}(h:H a=some (.lst xs)):yG K H a xs:=.inl (.inl h)
theorem z7.of {K:ag}(h:H a=some (.tup xs)):z7 K H a xs:=.inl (.inl h)
theorem Inv.list (I:Inv X pins σ H s)(h:yG X.K H a xs):∃its:List aj,zU xs its/\PlainL s.heap a its.toArray/\xs.length<=sizeLine:=by
 rcases h with h|⟨o,its,n,b,c,hd,d,hz,r⟩
 ·obtain⟨z,its,n,r,e⟩:=h.ok I.hok
  exact⟨its,r,⟨_,n,e,rfl,rfl,rfl⟩,z⟩
 ·refine⟨its.toList,r,⟨o,n,I.kIn a o b,c,hd,by simpa using d⟩,?_⟩
  have e:=r.length
  simp only[br]at e
  omega
theorem Inv.tuple (I:Inv X pins σ H s)(h:z7 X.K H a xs):∃its:List aj,zU xs its/\qk s.heap a its.toArray/\xs.length<=sizeLine:=by
 rcases h with h|⟨o,its,n,b,c,d,hz,r⟩
 ·obtain⟨z,its,r,p⟩:=h.ok I.hok
  exact⟨its,r,p,z⟩
 ·refine⟨its.toList,r,⟨o,I.kIn a o b,c,n,by simpa using d⟩,?_⟩
  have e:=r.length
  simp only[br]at e
  omega
theorem Inv.list_inj (I:Inv X pins σ H s)(h:yG X.K H a xs)(h':yG X.K H a ys):xs=ys:=by
 obtain⟨its,r,⟨o,n,e,_,_,d⟩,_⟩:=I.list h
 obtain⟨its',c,⟨f,g,b,_,_,d'⟩,_⟩:=I.list h'
 rw[e]at b;cases b
 rw[d]at d'
 injection d' with d1 _
 have:its=its':=by simpa using congrArg oB d1
 subst this
 exact r.inj c
theorem Inv.tuple_inj (I:Inv X pins σ H s)(h:z7 X.K H a xs)(h':z7 X.K H a ys):xs=ys:=by
 obtain⟨its,r,⟨o,e,_,n,d⟩,_⟩:=I.tuple h
 obtain⟨its',c,⟨f,b,_,g,d'⟩,_⟩:=I.tuple h'
 rw[e]at b;cases b
 rw[d]at d'
 injection d' with d1 _
 have:its=its':=by simpa using congrArg oB d1
 subst this
 exact r.inj c
end
noncomputable abbrev Cx.wish (X:Cx)(E:aj->au->Prop):Cx:={X with xe:=E}
noncomputable abbrev Cx.nox (X:Cx):Cx:=X.wish fun _ _=>False
theorem Cx.Ok.wish {X:Cx}(ok:X.Ok)(E:aj->au->Prop):(X.wish E).Ok :=
 ⟨ok.mod,ok.kind,ok.glob,ok.blt,ok.above,ok.inj,ok.has,ok.cab,ok.hd,ok.frames,ok.stk,ok.exf,ok.bs,ok.bsz,ok.noex,ok.exfs,ok.funs,ok.frf⟩
theorem Cx.Ok.unwish {X:Cx}{E:aj->au->Prop}(ok:(X.wish E).Ok):X.Ok :=
 ⟨ok.mod,ok.kind,ok.glob,ok.blt,ok.above,ok.inj,ok.has,ok.cab,ok.hd,ok.frames,ok.stk,ok.exf,ok.bs,ok.bsz,ok.noex,ok.exfs,ok.funs,ok.frf⟩
section
variable{X:Cx}{pins:List (ak×Obj)}{σ:St}{H:Hp}{s:au}{E:aj->au->Prop}
theorem Inv.wish (I:Inv X pins σ H s)(E:aj->au->Prop):Inv (X.wish E) pins σ H s:=⟨I.ok.wish E,I.os,I.bare,I.base,I.loc,I.cell,I.free,I.freeC,I.pin,I.hok,I.len⟩
theorem Inv.unwish (I:Inv (X.wish E) pins σ H s):Inv X pins σ H s:=⟨I.ok.unwish,I.os,I.bare,I.base,I.loc,I.cell,I.free,I.freeC,I.pin,I.hok,I.len⟩
theorem SP.unwish {D:Ends}{f:Flow}{s':au}(h:SP (X.wish E) pins D f s'):SP X pins D f s':=by
 cases f with
 |next=>obtain⟨a,b,I,q⟩:=h;exact⟨a,b,I.unwish,q⟩
 |brk=>obtain⟨a,b,I,q⟩:=h;exact⟨a,b,I.unwish,q⟩
 |cont=>obtain⟨a,b,I,q⟩:=h;exact⟨a,b,I.unwish,q⟩
 |ret u=>obtain⟨v,a,b,I,r,q⟩:=h;exact⟨v,a,b,I.unwish,r,q⟩
theorem qX.nox {st:List cJ}{t:TS}(h:qX X.nox st t):qX X st t:=fun pins s σ H D I a=>
 cY (h pins s σ H D (I.wish _) a) (fun _ _ q=>q.unwish) fun _ _ z=>fD z
end
section
variable{X:Cx}{st:cJ}{vQ:List cJ}{t u:TS}{e:bS}{te:TE}{pos:Pos}
noncomputable def zLJ:TS:=fun D σ H=>D.nx σ H
noncomputable def zBw (t u:TS):TS:=fun D σ H=>t {D with nx:=u D} σ H
theorem yZ:qX X [] zLJ:=fun _ _ σ H _ I h=>jy ⟨σ,H,I,h⟩
theorem zR (b:PS X st t)(c:qX X vQ u):qX X (st::vQ) (zBw t u):=by
 intro a s σ H D I h
 refine pD (zM (b a s σ H {D with nx:=u D} I h) fun f d q=>?_)
 cases f with
 |next=>
  obtain⟨g,i,j,q⟩:=q
  exact c a d g i D j q
 |ret v=>exact q
 |brk=>exact q
 |cont=>exact q
theorem zL (b:PS X st t):qX X [st] t:=by
 intro a s σ H D I h
 refine pD (zM (b a s σ H D I h) fun f c q=>?_)
 cases f with
 |next=>exact jy q
 |ret v=>exact q
 |brk=>exact q
 |cont=>exact q
theorem Inv.quiet {a:List (ak×Obj)}{σ:St}{H:Hp}{s:au}(I:Inv X a σ H s):interactive X.env=false:=by simp[interactive,I.ok.kind]
noncomputable def zLK (te:TE):TS:=fun D σ H=>te σ H fun _ H1=>D.nx σ H1
theorem v3 (b:PE X e te)(c:swapsWith e none pos.line X.env=pure false:=by rfl):PS X (.Expr e pos) (zLK te):=by
 intro a s σ H D I h
 exact wpAny_Expr_any (zM (b a s σ H _ I h) fun v i ⟨x,d,f,j,g⟩=>⟨σ,d,f,g⟩) I.quiet c
noncomputable def zLL (te:TE):TS:=fun D σ H=>te σ H D.rt
theorem z5 (b:PE X e te):PS X (.Return (some e) pos) (zLL te):=by
 intro a s σ H D I h
 exact wpAny_Return_some (zM (b a s σ H _ I h) fun v i ⟨x,c,d,f,g⟩=>⟨x,σ,c,d,f,g⟩)
noncomputable def zLM (c:TT)(t u:TS):TS:=fun D σ H=>c σ H fun b H1=>if b=true then t D σ H1 else u D σ H1
theorem y0 {c:bS}{a b:List cJ}{g:TT}(n:PT X c g)(ha:qX X a t)(hb:qX X b u):PS X (.If c a b pos) (zLM g t u):=by
 intro f s σ H D I h
 refine wpAny_If (zM (n f s σ H _ I h) fun d i zq=>?_)
 obtain⟨j,l,m⟩:=zq
 cases d with
 |true=>exact ha f i σ j D l m
 |false=>exact hb f i σ j D l m
noncomputable def zLN:TS:=fun _ _ _=>False
theorem zBU:PS X st zLN:=fun _ _ _ _ _ _ h=>h.elim
end
noncomputable abbrev TG:=V->St->Hp->(St->Hp->Prop)->Prop
noncomputable abbrev gY:=List V->St->Hp->(St->Hp->Prop)->Prop
noncomputable def PG (X:Cx)(target:bS)(t:TG):Prop :=
 ∀(pins:List (ak×Obj)) (s:au) (σ:St) (H:Hp) (v:V) (u:aj) (Q:St->Hp->Prop),Inv X pins σ H s->zX v u->t v σ H Q->
  wpAny (model X.prog X.w) X.A (assign target X.env u) (fun _ s'=>∃σ' H',Inv X pins σ' H' s'/\Q σ' H') X.xe s
noncomputable def PGs (X:Cx)(ts:List bS)(t:gY):Prop :=
 ∀(pins:List (ak×Obj)) (s:au) (σ:St) (H:Hp) (vs:List V) (us:List aj) (Q:St->Hp->Prop),Inv X pins σ H s->zU vs us->t vs σ H Q->
  wpAny (model X.prog X.w) X.A (assignInOrder ((assignEach ts X.env).map (·.2)) us) (fun _ s'=>∃σ' H',Inv X pins σ' H' s'/\Q σ' H') X.xe s
section
variable{X:Cx}{pos:Pos}
noncomputable def zCy (i:Nat):TG:=fun v σ H Q=>Q (σ.set i (some v)) H
theorem yB {i:Nat}{x:Str}(b:X.N.Nodup)(hi:X.N[i]?=some x)(c:Loc X.env.scope x)(hf:X.fn x=true\/X.env.scope.names.lookup x=some .local:=by first|exact .inl rfl|exact .inr rfl|assumption):PG X (.Name x pos) (zCy i):=by
 intro a s σ H v u Q I r h
 exact oD (zCx I b hi c r (fun s' d=>⟨_,H,d,h⟩) hf)
noncomputable def zLO:gY:=fun vs σ H Q=>vs=[]/\Q σ H
noncomputable def zLP (t:TG)(u:gY):gY:=fun vs σ H Q=>∃v r,vs=v::r/\t v σ H fun σ' H'=>u r σ' H' Q
theorem qA:PGs X [] zLO:=by
 intro a s σ H vs b Q I r h
 obtain⟨e,h⟩:=h
 subst e
 cases r
 exact assignInOrder_nil ⟨σ,H,I,h⟩
theorem yW {e:bS}{b:List bS}{t:TG}{u:gY}(c:PG X e t)(d:PGs X b u)
  (f:(assignEach (e::b) X.env).map (·.2)=assign e X.env::(assignEach b X.env).map (·.2):=by rfl):PGs X (e::b) (zLP t u):=by
 intro a s σ H vs o Q I r h
 obtain⟨v,p,e1,h⟩:=h
 subst e1
 cases r with
 |cons r g=>
  rw[f]
  refine assignInOrder_cons (zM (c a s σ H _ _ _ I r h) fun _ i zq=>?_)
  obtain⟨j,l,m,n⟩:=zq
  exact d a i j l _ _ Q m g n
noncomputable def zFn (K:ag)(n:Nat)(t:gY):TG:=fun v σ H Q=>∃a xs,v=.ref a/\z7 K H a xs/\xs.length=n/\t xs σ H Q
theorem gE {d:List bS}{k:Nat}{t:gY}{n:Nat}(j:X.calm=true)(h:PGs X d t)
  (l:(assignEach d X.env).length=n:=by rfl) (f:(assignEach d X.env).findIdx? (·.1)=none:=by rfl):PG X (.Tuple d k pos) (zFn X.K n t):=by
 intro c s σ H v u Q I r g
 obtain⟨a,xs,e1,m,hl,g⟩:=g
 subst e1
 cases r
 obtain⟨its,i,p,hz⟩:=I.tuple m
 refine assign_Tuple_tuple (I.ok.hd j) p (by simp[l,<-hl,i.length]) f fun h' q=>?_
 have w:Inv X c σ H {s with heap:=h'}:=I.kept (t':=s.toks) fun b o e=>q b o (bp (aF e)) e
 exact h c _ σ H xs _ Q w (by simpa using i) g
noncomputable def zFo (te:TE)(g:TG):TS:=fun D σ H=>te σ H fun x H1=>g x σ H1 D.nx
theorem yC {i:Nat}{x:Str}{e:bS}{c:TE}{a:Pos}(d:X.N.Nodup)(hi:X.N[i]?=some x)(f:Loc X.env.scope x)(g:PE X e c)(j:swapsWith e (some (.Name x a)) pos.line X.env=pure false:=by rfl)(hf:X.fn x=true\/X.env.scope.names.lookup x=some .local:=by first|exact .inl rfl|exact .inr rfl|assumption) :
  PS X (.Assign [.Name x a] e pos) (zFo c (zCy i)):=by
 intro b s σ H D I h
 refine wpAny_Assign_Name (zM (g b s σ H _ I h) fun v q zq=>?_) j
 obtain⟨y,l,m,n,o⟩:=zq
 exact zCx m d hi f n (fun r p=>⟨_,l,p,o⟩) hf
noncomputable def zLQ (c:TT)(tb:TS):TS:=fun D σ H=>∃W:Nat->St->Hp->Prop,(∃m,W m σ H)/\∀m σ H,W m σ H->
 c σ H fun b H1=>if b=true then∃N:St->Hp->Prop,(∀σ' H',N σ' H'->∃m',m'<m/\W m' σ' H')/\tb {D with nx:=N,ct:=N,bk:=D.nx} σ H1 else D.nx σ H1
theorem zLR {c:bS}{body:List cJ}{r:TT}{t:TS}(u:PassesOwn (model X.prog X.w) X.A X.env X.xe)(F:PT X c r)(hb:qX X body t):PS X (.While c body [] pos) (zLQ r t):=by
 intro a s σ H D I h
 obtain⟨W,⟨G,w0⟩,d⟩:=h
 refine wpAny_While (codeAny_whileLoop (fun n s'=>∃x y,Inv X a x y s'/\W n x y) ?_ G ⟨σ,H,I,w0⟩)
 rintro n J ⟨i,z,L,w1⟩
 refine fk u (zM (F a J i z _ L (d n i z w1)) fun b M zq=>?_)
 obtain⟨B,C,j⟩:=zq
 cases b with
 |true=>
  obtain⟨N,E,j⟩:=j
  rw[if_pos rfl]
  refine fk u (zM (hb a M i B _ C j) fun f O l=>?_)
  cases f with
  |next=>
   obtain⟨e,g,m,o⟩:=l
   obtain⟨p,q,w3⟩:=E e g o
   exact⟨p,q,e,g,m,w3⟩
  |cont=>
   obtain⟨e,g,m,o⟩:=l
   obtain⟨p,q,w3⟩:=E e g o
   exact⟨p,q,e,g,m,w3⟩
  |brk=>exact l
  |ret v=>exact l
 |false=>
  rw[if_neg bg]
  exact jy ⟨i,B,C,j⟩
end
structure It where
 go:Nat->Hp->Prop
 yld:Nat->Hp->V->Hp->Prop
 stop:Nat->Hp->Prop
noncomputable def qI (X:Cx)(pins:List (ak×Obj))(H:Hp)(b:ak):Prop :=
 H b=none/\b≠X.env.locals/\b∉X.fs/\(b∈X.ex\/X.s₀.heap.objs.size<=b)/\(∀x c,X.env.cells.lookup x=some c->c≠b)/\∀p∈X.pn++pins,p.1≠b
theorem Inv.fpOk {X:Cx}{a:List (ak×Obj)}{σ:St}{H d:Hp}{s:au}{b:ak}(I:Inv X a σ H s)(hb:s.heap.objs.size<=b)(f:d b=none):qI X a d b:=by
 refine⟨f,de (bz I.lt hb),I.nofs hb,.inr (bJ I.sz hb),fun x c e z=>?_,fun p g z=>?_⟩
 ·obtain⟨v,q⟩:=I.cell x c e
  exact absurd (bz q.lt (by rw[z];exact hb)) (bN _)
 ·exact absurd (bz (aF (I.pin p g).1) (by rw[z];exact hb)) (bN _)
structure Turn (P:aJ) (w:bh) (K:ag) (tg:bS) (J:It) (fp:List ak) (it:ak) (tn:Nat->bF->Prop):Prop where
 mem:it∈fp
 obj:∀i h,tn i h->∀b∈fp,∃o,h.get? b=some o/\∀v,o.data≠.cell v
 keep:∀i h h',tn i h->(∀b∈fp,∀o,h.get? b=some o->h'.get? b=some o)->tn i h'
 item:∀(X:Cx),X.prog=P->X.w=w->X.K=K->X.calm=true->∀(i:Nat) (pins:List (ak×Obj)) (s:au) (σ:St) (H:Hp) (E:aj->au->Prop),Inv X pins σ H s->(∀b∈fp,qI X pins H b)->tn i s.heap->J.go i H->
  wpAny (model P w) X.A (pyNext (.ref it)) (fun r s1=>∃u,r=some u/\
   wpAny (model P w) X.A (letOwnedTupleGo tg (.ref it) u) (fun _ s2=>∃x H',Inv X pins σ H' s2/\zX x u/\J.yld i H x H'/\tn (i+1) s2.heap/\∀b∈fp,H' b=none) E s1) E s
 done:∀(X:Cx),X.prog=P->X.w=w->X.K=K->X.calm=true->∀(i:Nat) (pins:List (ak×Obj)) (s:au) (σ:St) (H:Hp) (E:aj->au->Prop),Inv X pins σ H s->(∀b∈fp,qI X pins H b)->tn i s.heap->J.stop i H->
  wpAny (model P w) X.A (pyNext (.ref it)) (fun r s1=>r=none/\Inv X pins σ H s1) E s
 self:∀(A:bX) (i:Nat) (s:au) (Q:aj->au->Prop) (E:aj->au->Prop),tn i s.heap->Q (.ref it) s->wpAny (model P w) A (pyIter (.ref it)) Q E s
noncomputable abbrev TI:=St->Hp->(It->Hp->Prop)->Prop
noncomputable def PIE (X:Cx)(pins:List (ak×Obj))(σ:St)(tg:bS)(R:It->Hp->Prop)(itv:aj)(s2:au):Prop :=
 ∃(it:ak) (fp:List ak) (tn:Nat->bF->Prop) (J:It) (H':Hp),itv=.ref it/\Inv X pins σ H' s2/\Turn X.prog X.w X.K tg J fp it tn/\tn 0 s2.heap/\(∀b∈fp,qI X pins H' b)/\R J H'
noncomputable def PI (X:Cx)(tg iter:bS)(wi:TI):Prop :=
 ∀(pins:List (ak×Obj)) (s:au) (σ:St) (H:Hp) (R:It->Hp->Prop),Inv X pins σ H s->wi σ H R->
  wpAny (model X.prog X.w) X.A (eval iter X.env) (fun v s1=>wpAny (model X.prog X.w) X.A (pyIter v) (PIE X pins σ tg R) X.xe s1) X.xe s
theorem zAl {M:Model}{A:bX}{E:aj->au->Prop}{s:au}{b:bS}{c:ak}{u:aj}{o:Obj}{n:String}{vs:Array aj}{Q:Unit->au->Prop}(d:s.heap.get? c=some o)(e:o.cls=.type n)(hd:o.data=.fields vs)
  (f:["enumerate","zip","dict_itemiterator","dict_reverseitemiterator","odict_iterator","itertools.zip_longest","itertools.pairwise"].contains n=false) (a:Q () s):wpAny M A (letOwnedTupleGo b (.ref c) u) Q E s:=by
 unfold letOwnedTupleGo
 cases b<;>first
  |exact az a
  |(cases u<;>first
    |exact az a
    |(refine af (wpAny_load d ?_)
      rw[e,hd]
      show wpAny M A (if(["enumerate","zip","dict_itemiterator","dict_reverseitemiterator","odict_iterator","itertools.zip_longest","itertools.pairwise"].contains n&&vs[0]? ==some (rawInt _))=true then _ else _) Q E s
      rw[if_neg (by intro h;rw[f,fL]at h;cases h)]
      exact az a))
noncomputable def Itl (K:ag)(a:ak):It :=
 ⟨fun i H=>∃xs x,yG K H a xs/\xs[i]?=some x,fun i H x H'=>H'=H/\∀xs,yG K H a xs->xs[i]?=some x,fun i H=>∃xs,yG K H a xs/\xs.length<=i⟩
noncomputable def Itt (K:ag)(a:ak):It :=
 ⟨fun i H=>∃xs x,z7 K H a xs/\xs[i]?=some x,fun i H x H'=>H'=H/\∀xs,z7 K H a xs->xs[i]?=some x,fun i H=>∃xs,z7 K H a xs/\xs.length<=i⟩
noncomputable def Itr (lo:Int)(n:Nat):It:=⟨fun i _=>i<n,fun i H x H'=>H'=H/\x=.int (lo+i),fun i _=>n<=i⟩
theorem zLS {P:aJ}{w:bh}{K:ag}{G:bS}(a g:ak):Turn P w K G (Itl K a) [g] g (fun i h=>h.IsListIter g a i) where
 mem:=by simp
 obj:=fun i h st b hb=>by
  have e:b=g:=by simpa using hb
  subst e
  obtain⟨o,e,c,d⟩:=st
  exact⟨o,e,fun v z=>by rw[d]at z;cases z⟩
 keep:=fun i h h' st k=>st.at fun o e=>k g (by simp) o e
 item:=by
  intro X m n q F i f s σ H E I hf st r
  subst m n q
  obtain⟨xs,x,l,t⟩:=r
  obtain⟨its,y,p,hz⟩:=I.list l
  obtain⟨u,J,L⟩:=y.get t
  obtain⟨A,f1,f2,B,C,D⟩:=hf g (by simp)
  refine wpAny_pyNext_list_item st p.isList (x:=u) (by simpa using J) fun h' j M=>?_
  have N:Inv X f σ H {s with heap:=h'}:=I.turned (t':=s.toks) (fun b o hb e=>(M.2 b hb).trans e) A f1 B C D
  obtain⟨o,e,c,d⟩:=id j
  exact⟨u,rfl,zAl (s:={s with heap:=h'}) e c d (by decide) ⟨x,H,N,L,⟨rfl,fun ys O=>by rw[I.list_inj O l];exact t⟩,j,fun b hb=>(hf b hb).1⟩⟩
 done:=by
  intro X m n q F i f s σ H E I hf st r
  subst m n q
  obtain⟨xs,l,t⟩:=r
  obtain⟨its,y,p,hz⟩:=I.list l
  obtain⟨A,f1,f2,B,C,D⟩:=hf g (by simp)
  have hl:=y.length
  exact wpAny_pyNext_list_end (I.ok.hd F) st p.isList (by simp;omega) fun h' Q=>⟨rfl,I.turned (t':=s.toks) (fun b o hb e=>Q b o hb e) A f1 B C D⟩
 self:=fun _ _ _ _ _ st h=>wpAny_pyIter_listiter st h
theorem zLT {P:aJ}{w:bh}{K:ag}{G:bS}(a g:ak):Turn P w K G (Itt K a) [g] g (fun i h=>h.IsTupleIter g a i) where
 mem:=by simp
 obj:=fun i h st b hb=>by
  have e:b=g:=by simpa using hb
  subst e
  obtain⟨o,e,c,d⟩:=st
  exact⟨o,e,fun v z=>by rw[d]at z;cases z⟩
 keep:=fun i h h' st k=>st.at fun o e=>k g (by simp) o e
 item:=by
  intro X m n q F i f s σ H E I hf st r
  subst m n q
  obtain⟨xs,x,l,t⟩:=r
  obtain⟨its,y,p,hz⟩:=I.tuple l
  obtain⟨u,J,L⟩:=y.get t
  obtain⟨A,f1,f2,B,C,D⟩:=hf g (by simp)
  refine wpAny_pyNext_tuple_item st (show s.heap.IsTuple a its.toArray from p) (x:=u) (by simpa using J) fun h' j M=>?_
  have N:Inv X f σ H {s with heap:=h'}:=I.turned (t':=s.toks) (fun b o hb e=>(M.2 b hb).trans e) A f1 B C D
  obtain⟨o,e,c,d⟩:=id j
  exact⟨u,rfl,zAl (s:={s with heap:=h'}) e c d (by decide) ⟨x,H,N,L,⟨rfl,fun ys O=>by rw[I.tuple_inj O l];exact t⟩,j,fun b hb=>(hf b hb).1⟩⟩
 done:=by
  intro X m n q F i f s σ H E I hf st r
  subst m n q
  obtain⟨xs,l,t⟩:=r
  obtain⟨its,y,p,hz⟩:=I.tuple l
  obtain⟨A,f1,f2,B,C,D⟩:=hf g (by simp)
  have hl:=y.length
  exact wpAny_pyNext_tuple_end (I.ok.hd F) st (show s.heap.IsTuple a its.toArray from p) (by simp;omega) fun h' Q=>⟨rfl,I.turned (t':=s.toks) (fun b o hb e=>Q b o hb e) A f1 B C D⟩
 self:=fun _ _ _ _ _ st h=>wpAny_pyIter_tupleiter st h
theorem zLU {P:aJ}{w:bh}{K:ag}{x:bS}(a:ak)(lo:Int)(n:Nat):Turn P w K x (Itr lo n) [a] a (fun i h=>IsRangeIter h a (lo+(i:Nat)*1) ((n:Int)- (i:Nat)) 1) where
 mem:=by simp
 obj:=fun i h st b hb=>by
  have e:b=a:=by simpa using hb
  subst e
  exact⟨_,st,fun v z=>by
   have y:Data.fields _=Data.cell v:=z
   cases y⟩
 keep:=fun i h h' st k=>k a (by simp) _ st
 item:=by
  intro X f g j l i c s σ H E I hf st m
  subst f g j
  obtain⟨p,f1,f2,q,r,u⟩:=hf a (by simp)
  have W:=Walks.range (prog:=X.prog) (w:=X.w) (I.ok.hd l) a lo 1 n
  refine W.item i s _ _ m st fun v h' tk hv d A=>?_
  obtain⟨t,rfl⟩:=hv
  have B:Inv X c σ H {s with heap:=h',toks:=tk}:=I.turned (fun b o hb e=>A b o (by simpa using hb) e) p f1 q r u
  refine⟨_,rfl,zAl (s:={s with heap:=h',toks:=tk}) (n :="range_iterator") d rfl rfl (by decide) ⟨.int (lo+i),H,B,⟨t,?_⟩,⟨rfl,rfl⟩,d,fun b hb=>(hf b hb).1⟩⟩
  rw[Int.mul_one]
 done:=by
  intro X f g j l i c s σ H E I hf st m
  subst f g j
  obtain⟨p,f1,f2,q,r,u⟩:=hf a (by simp)
  exact wpAny_pyNext_range_end (I.ok.hd l) st (by have:n<=i:=m;omega) fun h' C=>⟨rfl,I.turned (t':=s.toks) (fun b o hb e=>C b o hb e) p f1 q r u⟩
 self:=fun _ _ _ _ _ st h=>wpAny_pyIter_rangeiter st h
section
variable{X:Cx}{tg:bS}
noncomputable def zLV (K:ag)(tl:TE):TI:=fun σ H R=>tl σ H fun x H1=>∃a,x=.ref a/\(∃xs,yG K H1 a xs)/\R (Itl K a) H1
noncomputable def zLW (K:ag)(tl:TE):TI:=fun σ H R=>tl σ H fun x H1=>∃a,x=.ref a/\(∃xs,z7 K H1 a xs)/\R (Itt K a) H1
theorem qY {l:bS}{tl:TE}(hl:PE X l tl):PI X tg l (zLV X.K tl):=by
 intro c s σ H R I h
 refine zM (hl c s σ H _ I h) fun v d zq=>?_
 obtain⟨x,g,f,i,j⟩:=zq
 obtain⟨a,e,⟨xs,m⟩,q⟩:=j
 subst e
 cases i
 obtain⟨its,n,p,hz⟩:=f.list m
 refine gx p.isList ?_
 refine⟨d.heap.objs.size,[d.heap.objs.size],_,_,g,rfl,f.kept (t':=d.toks) fun b o e=>ae _ e,zLS a _,⟨_,aE _ rfl,rfl,rfl⟩,fun b hb=>?_,q⟩
 have e:b=d.heap.objs.size:=by simpa using hb
 subst e
 exact f.fpOk (aC _) (f.hok.fresh (aC _))
theorem zBV {l:bS}{tl:TE}(hl:PE X l tl):PI X tg l (zLW X.K tl):=by
 intro c s σ H R I h
 refine zM (hl c s σ H _ I h) fun v d zq=>?_
 obtain⟨x,g,f,i,j⟩:=zq
 obtain⟨a,e,⟨xs,m⟩,q⟩:=j
 subst e
 cases i
 obtain⟨its,n,p,hz⟩:=f.tuple m
 refine fV (show d.heap.IsTuple a its.toArray from p) ?_
 refine⟨d.heap.objs.size,[d.heap.objs.size],_,_,g,rfl,f.kept (t':=d.toks) fun b o e=>ae _ e,zLT a _,⟨_,aE _ rfl,rfl,rfl⟩,fun b hb=>?_,q⟩
 have e:b=d.heap.objs.size:=by simpa using hb
 subst e
 exact f.fpOk (aC _) (f.hok.fresh (aC _))
theorem zFp {a:List (ak×Obj)}{σ:St}{H:Hp}{s:au}{R:It->Hp->Prop}{E:aj->au->Prop}{lo hi:Int}{t u v:Tok}{tk:Nat}(I:Inv X a σ H s)(d:-(2^62)<=lo)(f:lo<2^62)(g:-(2^62)<=hi)(h:hi<2^62)
  (q:R (Itr lo (hi-lo).toNat) H):wpAny (model X.prog X.w) X.A (pyIter (.ref s.heap.objs.size)) (PIE X a σ tg R) E {s with heap:=s.heap.push {cls:=.type "range",data:=.fields #[.int lo t,.int hi u,.int 1 v]},toks:=tk}:=by
 refine wpAny_pyIter_range (IsRange.new ..) (small_one d f g h) ?_
 have c:Inv X a σ H {s with heap:=s.heap.push {cls:=.type "range",data:=.fields #[.int lo t,.int hi u,.int 1 v]},toks:=tk}:=I.kept fun b o e=>ae _ e
 refine⟨(s.heap.push {cls:=.type "range",data:=.fields #[.int lo t,.int hi u,.int 1 v]}).objs.size,[(s.heap.push {cls:=.type "range",data:=.fields #[.int lo t,.int hi u,.int 1 v]}).objs.size],_,_,H,rfl,
  c.kept (t':=tk) fun b o e=>ae _ e,zLU _ lo (hi-lo).toNat,?_,fun b hb=>?_,q⟩
 ·have e1:lo+((0:Nat):Int)*1=lo:=by simp
  have i:(((hi-lo).toNat:Nat):Int)- ((0:Nat):Int)=sT lo hi 1:=by rw[rangeSize_one];split<;>omega
  show IsRangeIter _ _ (lo+((0:Nat):Int)*1) ((((hi-lo).toNat:Nat):Int)- ((0:Nat):Int)) 1
  rw[e1,i]
  exact aE _ rfl
 ·have e:b=(s.heap.push {cls:=.type "range",data:=.fields #[.int lo t,.int hi u,.int 1 v]}).objs.size:=by simpa using hb
  subst e
  exact c.fpOk (aC _) (c.hok.fresh (aC _))
noncomputable def zLX (ta:TA):TI:=fun σ H R=>ta σ H fun vs H1=>∃j:Int,vs=[.int j]/\-(2^62)<=j/\j<2^62/\R (Itr 0 j.toNat) H1
noncomputable def zLY (ta:TA):TI:=fun σ H R=>ta σ H fun vs H1=>∃i j:Int,vs=[.int i,.int j]/\(-(2^62)<=i/\i<2^62/\-(2^62)<=j/\j<2^62)/\R (Itr i (j-i).toNat) H1
theorem zCz {a:bS}{d:TA}{p pos:Pos}(f:Gl X "range")(g:X.mg "range"=none)(ha:PA X [a] d)(i:starEach [a] X.env=[(false,eval a X.env)]:=by rfl):PI X tg (.Call (.Name "range" p) [a] [] pos) (zLX d):=by
 intro b s σ H R I h
 refine Call_ (j2 I f g boot_range (cQ (zM (ha pos b s σ H _ I h) fun u v zq=>?_) i rfl))
 obtain⟨vs,w,l,m,c⟩:=zq
 obtain⟨j,e,c,n,q⟩:=c
 subst e
 cases m with
 |cons r o=>
  cases o
  obtain⟨t,rfl⟩:=r
  exact call_range_1 (zFp l (by omega) (by omega) c n (by simpa using q))
theorem zFq {a b:bS}{l:TA}{p pos:Pos}(m:Gl X "range")(n:X.mg "range"=none)(ha:PA X [a,b] l)(o:starEach [a,b] X.env=[(false,eval a X.env),(false,eval b X.env)]:=by rfl)(c:starEach [b] X.env=[(false,eval b X.env)]:=by rfl) :
  PI X tg (.Call (.Name "range" p) [a,b] [] pos) (zLY l):=by
 intro d s σ H R I h
 refine Call_ (j2 I m n boot_range (cQ (zM (ha pos d s σ H _ I h) fun A B ⟨vs,C,u,v,f⟩=>?_) (by rw[o,c]) (by rw[c];rfl)))
 obtain⟨i,j,e,⟨f,w,x,y⟩,q⟩:=f
 subst e
 cases v with
 |cons r g=>
  cases g with
  |cons z g=>
   cases g
   obtain⟨t,rfl⟩:=r
   obtain⟨t',rfl⟩:=z
   exact call_range_2 (zFp u f w x y q)
noncomputable def zLZ (wi:TI)(g:TG)(tb:TS):TS:=fun D σ H=>wi σ H fun J H1=>∃W:Nat->Nat->St->Hp->Prop,(∃m,W 0 m σ H1)/\∀i m σ H,W i m σ H->
 (J.stop i H/\D.nx σ H)\/(J.go i H/\∃N:St->Hp->Prop,(∀σ' H',N σ' H'->∃m',m'<m/\W (i+1) m' σ' H')/\∀x H',J.yld i H x H'->g x σ H' fun σ2 H2=>tb {D with nx:=N,ct:=N,bk:=D.nx} σ2 H2)
noncomputable def zAm (fp:List ak)(h:bF):List (ak×Obj):=fp.filterMap fun b=>(h.get? b).map fun o=>(b,o)
theorem zAP {fp:List ak}{h:bF}{b:ak}{o:Obj}(hb:b∈fp)(e:h.get? b=some o):(b,o)∈zAm fp h:=om.mpr ⟨b,hb,by rw[e];rfl⟩
theorem zLa {fp:List ak}{h:bF}{p:ak×Obj}(a:p∈zAm fp h):p.1∈fp/\h.get? p.1=some p.2:=by
 obtain⟨b,hb,e⟩:=om.mp a
 cases q:h.get? b with
 |none=>rw[q]at e;cases e
 |some o=>
  rw[q]at e
  have c:(b,o)=p:=aB e
  subst c
  exact⟨hb,q⟩
theorem Inv.pinned {a:List (ak×Obj)}{σ:St}{H:Hp}{s:au}{fp:List ak}(I:Inv X a σ H s)(hf:∀b∈fp,qI X a H b)(f:∀b∈fp,∃o,s.heap.get? b=some o/\∀v,o.data≠.cell v):Inv X (a++zAm fp s.heap) σ H s :=
 I.pins_of fun p g=>(bt.mp g).elim (fun z=>I.pin p (aX _ z)) fun z=>by
  obtain⟨hb,e⟩:=zLa z
  obtain⟨h,f1,f2,_⟩:=hf p.1 hb
  obtain⟨o,c,d⟩:=f p.1 hb
  rw[e]at c;cases c
  exact⟨e,h,f1,f2,d⟩
theorem Inv.unpinned {a pl:List (ak×Obj)}{σ:St}{H:Hp}{s:au}(I:Inv X (a++pl) σ H s):Inv X a σ H s:=I.pins_of fun p b=>I.pin p (aX _ (bY _ b))
theorem vX {iter:bS}{body:List cJ}{Y:TI}{g:TG}{Z:TS}{pos:Pos}(z:PassesOwn (model X.prog X.w) X.A X.env X.xe)(hc:X.calm=true)(hi:PI X tg iter Y)(hg:PG X tg g)(hb:qX X body Z)
  (hs:∀x,foldedSetIterable iter X.env x=pure x:=by intro _;rfl):PS X (.For tg iter body [] pos) (zLZ Y g Z):=by
 intro a s σ H D I h
 refine wpAny_For (zM (hi a s σ H _ I h) fun v s1 h1=>zM h1 fun aa s2 h2=>?_) hs
 obtain⟨it,fp,tn,J,H2,e,I2,T,O,f2,W,⟨m0,w0⟩,B⟩:=h2
 subst e
 have c:∀{q:Hp},(∀b∈fp,q b=none)->∀b∈fp,qI X a q b:=fun hn b hb=>⟨hn b hb,(f2 b hb).2⟩
 refine codeAny_forLoop_any (fun n s'=>∃i C q,Inv X a C q s'/\tn i s'.heap/\(∀b∈fp,q b=none)/\W i n C q) ?_ m0 ⟨0,σ,H2,I2,O,fun b hb=>(f2 b hb).1,w0⟩
 rintro n s3 ⟨i,E,M,I3,F,G,w3⟩
 rcases B i n E M w3 with⟨stop,qn⟩|⟨go,N,hN,step⟩
 ·refine fk z (zM (T.done X rfl rfl rfl hc i a s3 E M X.xe I3 (c G) F stop) fun r s4 zq=>?_)
  obtain⟨P,I4⟩:=zq
  subst P
  exact jy ⟨E,M,I4,qn⟩
 ·refine fk z (zM (T.item X rfl rfl rfl hc i a s3 E M X.xe I3 (c G) F go) fun r s4 zq=>?_)
  obtain⟨u,P,h4⟩:=zq
  subst P
  refine fk z (zM h4 fun _ s5 zq=>?_)
  obtain⟨x,H5,I5,r5,y5,y,Q⟩:=zq
  have R:=I5.pinned (c Q) (T.obj _ _ y)
  refine fk z (zM (hg _ s5 E H5 x u _ R r5 (step x H5 y5)) fun _ s6 ⟨σ6,H6,I6,q6⟩=>?_)
  refine fk z (zM (hb _ s6 σ6 H6 _ I6 q6) fun f U t=>?_)
  have again:∀{j:St} {l:Hp},Inv X (a++zAm fp s5.heap) j l U->N j l->∃m,m<n/\∃i C q,Inv X a C q U/\tn i U.heap/\(∀b∈fp,q b=none)/\W i m C q:=fun{j l} p L=>by
   obtain⟨m',hm,w7⟩:=hN j l L
   refine⟨m',hm,i+1,j,l,p.unpinned,T.keep _ _ _ y fun b hb o e=>(p.pin (b,o) (aX _ (aX _ (zAP hb e)))).1,fun b hb=>?_,w7⟩
   obtain⟨o,e,d⟩:=T.obj _ _ y b hb
   exact(p.pin (b,o) (aX _ (aX _ (zAP hb e)))).2.1
  cases f with
  |next=>obtain⟨j,l,p,L⟩:=t;exact again p L
  |cont=>obtain⟨j,l,p,L⟩:=t;exact again p L
  |brk=>obtain⟨j,l,p,t⟩:=t;exact⟨j,l,p.unpinned,t⟩
  |ret v=>obtain⟨x7,j,l,p,r7,t⟩:=t;exact⟨x7,j,l,p.unpinned,r7,t⟩
end
noncomputable abbrev R2:=V->V->Hp->VK->Prop
noncomputable def yO (X:Cx)(f:aj->aj->Sem aj)(r:R2):Prop :=
 ∀(pins:List (ak×Obj)) (s:au) (σ:St) (H:Hp) (x y:V) (v u:aj) (Q:VK),Inv X pins σ H s->zX x v->zX y u->r x y H Q->
  wpAny (model X.prog X.w) X.A (f v u) (EP X pins σ Q) X.xe s
noncomputable def UnR (X:Cx)(f:aj->Sem aj)(r:V->Hp->VK->Prop):Prop :=
 ∀(pins:List (ak×Obj)) (s:au) (σ:St) (H:Hp) (x:V) (v:aj) (Q:VK),Inv X pins σ H s->zX x v->r x H Q->
  wpAny (model X.prog X.w) X.A (f v) (EP X pins σ Q) X.xe s
noncomputable def qJ (X:Cx)(f:aj)(r:List V->Hp->VK->Prop):Prop :=
 ∀(pins:List (ak×Obj)) (s:au) (σ:St) (H:Hp) (xs:List V) (us:List aj) (Q:VK),Inv X pins σ H s->zU xs us->r xs H Q->
  wpAny (model X.prog X.w) X.A (call f us) (EP X pins σ Q) X.xe s
noncomputable def tOp (r:R2)(ta tb:TE):TE:=fun σ H Q=>ta σ H fun x H1=>tb σ H1 fun y H2=>r x y H2 Q
noncomputable def tUn (r:V->Hp->VK->Prop)(ta:TE):TE:=fun σ H Q=>ta σ H fun x H1=>r x H1 Q
noncomputable def rI (C:Int->Int->Prop)(g:Int->Int->V):R2:=fun x y H Q=>∃i j,x=.int i/\y=.int j/\C i j/\Q (g i j) H
noncomputable def gZ (g:Int->Int->V):R2:=fun x y H Q=>∃i j,x=.int i/\y=.int j/\Q (g i j) H
noncomputable def rU (g:Int->V):V->Hp->VK->Prop:=fun x H Q=>∃i,x=.int i/\Q (g i) H
section
variable{X:Cx}{a b c:bS}{ta tb tc:TE}{pos:Pos}
theorem zDA (ha:PE X a ta)(hb:PE X b tb){d:List (ak×Obj)}{s:au}{σ:St}{H:Hp}{R:V->V->Hp->Prop}(I:Inv X d σ H s)
  (h:ta σ H fun x i=>tb σ i fun y e=>R x y e) {Q:aj->au->Prop} {f:aj->aj->Sem aj}
  (hf:∀v u g x y e,Inv X d σ e g->zX x v->zX y u->R x y e->wpAny (model X.prog X.w) X.A (f v u) Q X.xe g) :
  wpAny (model X.prog X.w) X.A (eval a X.env) (fun v j=>wpAny (model X.prog X.w) X.A (eval b X.env) (fun u l=>wpAny (model X.prog X.w) X.A (f v u) Q X.xe l) X.xe j) X.xe s:=by
 refine zM (ha d s σ H _ I h) fun v m zq=>?_
 obtain⟨x,i,n,o,p⟩:=zq
 refine zM (hb d m σ i _ n p) fun u g zq=>?_
 obtain⟨y,e,q,r,t⟩:=zq
 exact hf v u g x y e q o r t
theorem zV {op:Operator}{r:R2}(e:yO X (binaryOp op) r)(ha:PE X a ta)(hb:PE X b tb):PE X (.BinOp a op b pos) (tOp r ta tb):=by
 intro d s σ H Q I h
 exact wpAny_BinOp (zDA ha hb I h fun v u f x y g i j l q=>e d f σ g x y v u Q i j l q)
theorem zLb {op:UnaryOp}{r:V->Hp->VK->Prop}(e:UnR X (unaryOp op) r)(ha:PE X a ta):PE X (.UnaryOp op a pos) (tUn r ta):=by
 intro d s σ H Q I h
 exact tY (zM (ha d s σ H _ I h) fun v f ⟨x,g,i,j,l⟩=>e d f σ g x v Q i j l)
theorem opI {f:aj->aj->Sem aj}{C:Int->Int->Prop}{g:Int->Int->Int}
  (rule:∀(i j:Int) (t u:Tok) (s:au) (Q:aj->au->Prop) (E:aj->au->Prop),C i j->Q (.int (g i j) s.toks) {s with toks:=s.toks+1}->wpAny (model X.prog X.w) X.A (f (.int i t) (.int j u)) Q E s) :
  yO X f (rI C fun i j=>.int (g i j)):=by
 intro d s σ H x y v u Q I e l h
 obtain⟨i,j,rfl,rfl,m,q⟩:=h
 obtain⟨t,rfl⟩:=e
 obtain⟨t',rfl⟩:=l
 exact rule i j t t' s _ _ m ⟨.int (g i j),H,I.tok _,⟨_,rfl⟩,q⟩
theorem zFr {f:aj->aj->Sem aj}{g:Int->Int->Int}
  (rule:∀(i j:Int) (t u:Tok) (s:au) (Q:aj->au->Prop) (E:aj->au->Prop),Q (.int (g i j) s.toks) {s with toks:=s.toks+1}->wpAny (model X.prog X.w) X.A (f (.int i t) (.int j u)) Q E s) :
  yO X f (gZ fun i j=>.int (g i j)):=by
 intro d s σ H x y v u Q I e l h
 obtain⟨i,j,rfl,rfl,q⟩:=h
 obtain⟨t,rfl⟩:=e
 obtain⟨t',rfl⟩:=l
 exact rule i j t t' s _ _ ⟨.int (g i j),H,I.tok _,⟨_,rfl⟩,q⟩
theorem zDB {f:aj->aj->Sem aj}{g:Int->Int->Bool}
  (rule:∀(i j:Int) (t u:Tok) (s:au) (Q:aj->au->Prop) (E:aj->au->Prop),Q (.bool (g i j)) s->wpAny (model X.prog X.w) X.A (f (.int i t) (.int j u)) Q E s) :
  yO X f (gZ fun i j=>.bl (g i j)):=by
 intro d s σ H x y v u Q I e l h
 obtain⟨i,j,rfl,rfl,q⟩:=h
 obtain⟨t,rfl⟩:=e
 obtain⟨t',rfl⟩:=l
 exact rule i j t t' s _ _ ⟨.bl (g i j),H,I,rfl,q⟩
noncomputable def zLc (i j:Int):Prop:=0<j/\j<1073741824
noncomputable def zLd (i j:Int):Prop:=0<=j/\j<=1000000/\i.natAbs<2^64
noncomputable def zBW (i j:Int):Prop:=(-(2^64)<i/\i<2^64)\/(-(2^64)<j/\j<2^64)
theorem zBW.ok {i j:Int}(h:zBW i j):IntMulOk i j:=by
 rcases h with⟨d,e⟩|⟨d,e⟩
 ·exact .of_left (rO d e)
 ·exact .of_right (rO d e)
theorem y6:yO X (binaryOp .Add) (gZ fun i j=>.int (i+j)):=zFr fun _ _ _ _ _ _ _ q=>add_int q
theorem zBx:yO X (binaryOp .Sub) (gZ fun i j=>.int (i-j)):=zFr fun _ _ _ _ _ _ _ q=>sub_int q
theorem gF:yO X (binaryOp .Mult) (rI zBW fun i j=>.int (i*j)):=opI fun _ _ _ _ _ _ _ d q=>mul_int q d.ok
theorem zAn:yO X (binaryOp .FloorDiv) (rI zLc fun i j=>.int (i/j)):=opI fun i j _ _ _ _ _ d q=>by
 have e:(0:Int)<j:=d.1
 have f:j<1073741824:=d.2
 exact floordiv_int (by omega) (by rw[kz i (by omega)];exact q) (.inl (PyProof.noPylong_small (by omega)))
theorem zAQ:yO X (binaryOp .Mod) (rI (fun _ j=>0<j) fun i j=>.int (i%j)):=opI fun i j _ _ _ _ _ d q=>by
 have e:(0:Int)<j:=d
 exact mod_int' (by omega) (by rw[Int.fmod_eq_emod_of_nonneg i (by omega)];exact q)
theorem zLe:yO X (binaryOp .Pow) (rI zLd fun i j=>.int (i^j.toNat)):=opI fun _ _ _ _ _ _ _ d q=>pow_int_small d.1 d.2.1 d.2.2 q
theorem unI {f:aj->Sem aj}{g:Int->Int}
  (rule:∀(i:Int) (t:Tok) (s:au) (Q:aj->au->Prop) (E:aj->au->Prop),Q (.int (g i) s.toks) {s with toks:=s.toks+1}->wpAny (model X.prog X.w) X.A (f (.int i t)) Q E s) :
  UnR X f (rU fun i=>.int (g i)):=by
 intro d s σ H x v Q I e h
 obtain⟨i,rfl,q⟩:=h
 obtain⟨t,rfl⟩:=e
 exact rule i t s _ _ ⟨.int (g i),H,I.tok _,⟨_,rfl⟩,q⟩
theorem zLf:UnR X (unaryOp .USub) (rU fun i=>.int (-i)):=unI fun _ _ _ _ _ q=>neg_int q
end
noncomputable def zFs:V->V->Bool
 | .non,.non=>true| .non,.int _=>true| .int _,.non=>true| .non,.bl _=>true| .bl _,.non=>true| .non,.str _=>true| .str _,.non=>true
 | .int _,.int _=>true| .bl _,.bl _=>true| .str _,.str _=>true| .byt _,.byt _=>true
 | .int _,.str _=>true| .str _,.int _=>true| .bl _,.str _=>true| .str _,.bl _=>true
 |_,_=>false
noncomputable def rEq:R2:=fun x y H Q=>zFs x y=true/\Q (.bl (decide (x=y))) H
noncomputable def rNe:R2:=fun x y H Q=>zFs x y=true/\Q (.bl (!decide (x=y))) H
theorem zFt {i j:Int}:decide (V.int i=V.int j)=(i==j):=by
 rw[dC]
 simp
theorem zFu {i j:Bool}:decide (V.bl i=V.bl j)=(i==j):=by
 rw[dC]
 simp
theorem zFv {i j:Str}:decide (V.str i=V.str j)=(i==j):=by
 rw[dC]
 simp
theorem zFw {i j:Array UInt8}:decide (V.byt i=V.byt j)=(i.toList==j.toList):=by
 rw[dC]
 cases i
 cases j
 simp
section
variable{X:Cx}{a b c:bS}{ta tb tc:TE}{pos:Pos}
theorem yX {d:List (ak×Obj)}{σ:St}{H:Hp}{s:au}{Q:VK}{k f:Bool}(I:Inv X d σ H s)(q:Q (.bl k) H)(e:k=f):EP X d σ Q (.bool f) s:=by
 subst e
 exact⟨.bl k,H,I,rfl,q⟩
theorem zAo:yO X (compareOp .Eq) rEq:=by
 intro g s σ H x y v u Q I f d h
 obtain⟨e,q⟩:=h
 cases x with
 |non=>
  cases f
  cases y with
  |non=>cases d;exact rB (yX I q (by simp))
  |bl j=>cases d;exact rC (yX I q (by simp))
  |int j=>obtain⟨t',rfl⟩:=d;exact rP (yX I q (by simp))
  |str j=>obtain⟨t',rfl⟩:=d;exact rQ (yX I q (by simp))
  |_=>exact absurd (show false=true from e) bg
 |bl i=>
  cases f
  cases y with
  |non=>cases d;exact rD (yX I q (by simp))
  |bl j=>cases d;exact eq_bool (yX I q zFu)
  |str j=>obtain⟨t',rfl⟩:=d;exact rE (yX I q (by simp))
  |_=>exact absurd (show false=true from e) bg
 |int i=>
  obtain⟨t,rfl⟩:=f
  cases y with
  |non=>cases d;exact rR (yX I q (by simp))
  |int j=>obtain⟨t',rfl⟩:=d;exact eq_int (yX I q zFt)
  |str j=>obtain⟨t',rfl⟩:=d;exact rS (yX I q (by simp))
  |_=>exact absurd (show false=true from e) bg
 |str i=>
  obtain⟨t,rfl⟩:=f
  cases y with
  |non=>cases d;exact rT (yX I q (by simp))
  |bl j=>cases d;exact rF (yX I q (by simp))
  |int j=>obtain⟨t',rfl⟩:=d;exact rV (yX I q (by simp))
  |str j=>obtain⟨t',rfl⟩:=d;exact eq_str (yX I q zFv)
  |_=>exact absurd (show false=true from e) bg
 |byt i=>
  obtain⟨t,rfl⟩:=f
  cases y with
  |byt j=>obtain⟨t',rfl⟩:=d;exact PySem.W.eq_bytes (yX I q zFw)
  |_=>exact absurd (show false=true from e) bg
 |_=>cases y<;>exact absurd (show false=true from e) bg
theorem zAp:yO X (compareOp .NotEq) rNe:=by
 intro g s σ H x y v u Q I f d h
 obtain⟨e,q⟩:=h
 cases x with
 |non=>
  cases f
  cases y with
  |non=>cases d;exact rG (yX I q (by simp))
  |bl j=>cases d;exact rH (yX I q (by simp))
  |int j=>obtain⟨t',rfl⟩:=d;exact rW (yX I q (by simp))
  |str j=>obtain⟨t',rfl⟩:=d;exact rX (yX I q (by simp))
  |_=>exact absurd (show false=true from e) bg
 |bl i=>
  cases f
  cases y with
  |non=>cases d;exact rJ (yX I q (by simp))
  |bl j=>cases d;exact ne_bool (yX I q (congrArg not zFu))
  |str j=>obtain⟨t',rfl⟩:=d;exact rK (yX I q (by simp))
  |_=>exact absurd (show false=true from e) bg
 |int i=>
  obtain⟨t,rfl⟩:=f
  cases y with
  |non=>cases d;exact rY (yX I q (by simp))
  |int j=>obtain⟨t',rfl⟩:=d;exact ne_int (yX I q (congrArg not zFt))
  |str j=>obtain⟨t',rfl⟩:=d;exact rZ (yX I q (by simp))
  |_=>exact absurd (show false=true from e) bg
 |str i=>
  obtain⟨t,rfl⟩:=f
  cases y with
  |non=>cases d;exact r9 (yX I q (by simp))
  |bl j=>cases d;exact rL (yX I q (by simp))
  |int j=>obtain⟨t',rfl⟩:=d;exact se (yX I q (by simp))
  |str j=>obtain⟨t',rfl⟩:=d;exact ne_str (yX I q (congrArg not zFv))
  |_=>exact absurd (show false=true from e) bg
 |byt i=>
  obtain⟨t,rfl⟩:=f
  cases y with
  |byt j=>obtain⟨t',rfl⟩:=d;exact PySem.W.ne_bytes (yX I q (congrArg not zFw))
  |_=>exact absurd (show false=true from e) bg
 |_=>cases y<;>exact absurd (show false=true from e) bg
theorem zDC:yO X (compareOp .Lt) (gZ fun i j=>.bl (decide (i<j))):=zDB fun _ _ _ _ _ _ _ q=>lt_int q
theorem gG:yO X (compareOp .LtE) (gZ fun i j=>.bl (decide (i<=j))):=zDB fun _ _ _ _ _ _ _ q=>le_int q
theorem zFx:yO X (compareOp .Gt) (gZ fun i j=>.bl (decide (j<i))):=zDB fun _ _ _ _ _ _ _ q=>gt_int q
theorem zLg:yO X (compareOp .Lt) (fun x y H Q=>∃i j,x=.str i/\y=.str j/\Q (.bl (decide (i.cps.toList<j.cps.toList))) H):=by
 intro d s σ H x y v u Q I e f h
 obtain⟨i,j,rfl,rfl,q⟩:=h
 obtain⟨t,rfl⟩:=e
 obtain⟨t',rfl⟩:=f
 exact lt_str (yX I q rfl)
theorem zLh:yO X (compareOp .In) (fun x y H Q=>∃i j,x=.str i/\y=.str j/\Q (.bl (!(iK j i 0 j.length 1).isEmpty)) H):=by
 intro d s σ H x y v u Q I e f h
 obtain⟨i,j,rfl,rfl,q⟩:=h
 obtain⟨t,rfl⟩:=e
 obtain⟨t',rfl⟩:=f
 exact in_str (yX I q rfl)
theorem yO.or {f:aj->aj->Sem aj}{r e:R2}(h:yO X f r)(h':yO X f e):yO X f (fun x y H Q=>r x y H Q\/e x y H Q):=by
 intro d s σ H x y v u Q I g i q
 rcases q with q|q
 ·exact h d s σ H x y v u Q I g i q
 ·exact h' d s σ H x y v u Q I g i q
theorem vN (b:bS){op:qm}(h:op≠.In:=by decide)(d:op≠.NotIn:=by decide):behindInMarks op b=false:=by
 have e1:(op==CmpOp.In)=false:=by cases op<;>first|rfl|exact absurd rfl h
 have e:(op==CmpOp.NotIn)=false:=by cases op<;>first|rfl|exact absurd rfl d
 cases b<;>simp[behindInMarks,e1,e]
theorem jK {op:qm}{r:R2}(e:yO X (compareOp op) r)(ha:PE X a ta)(hb:PE X b tb)(f:behindInMarks op b=false):PE X (.Compare a [op] [b] pos) (tOp r ta tb):=by
 intro d s σ H Q I h
 exact wpAny_Compare1 (zDA ha hb I h fun v u g x y i j l m q=>e d g σ i x y v u Q j l m q) f
noncomputable def zFy (t:TE):TT:=fun σ H Q=>t σ H fun x H'=>∃k,x=.bl k/\Q k H'
theorem qB {op:qm}{r:R2}(f:yO X (compareOp op) r)(ha:PE X a ta)(hb:PE X b tb)(g:behindInMarks op b=false):PT X (.Compare a [op] [b] pos) (zFy (tOp r ta tb)):=by
 intro d s σ H Q I h
 refine ni (zM (ha d s σ H _ I h) fun v i ⟨x,j,l,m,n⟩=>zM (hb d i σ j _ l n) fun u o ⟨y,p,q,t,w⟩=>
  zM (f d o σ p x y v u _ q m t w) fun c E ⟨z,A,B,C,k,e,D⟩=>?_) g
 subst e
 cases C
 exact dt ⟨A,B,D⟩
noncomputable def zFz (r r':R2)(ta tb tc:TE):TE:=fun σ H Q=>ta σ H fun x H1=>tb σ H1 fun y H2=>r x y H2 fun z H3=>∃k,z=.bl k/\
 (if k=true then tc σ H3 fun w' H4=>r' y w' H4 Q else Q (.bl false) H3)
theorem zLi {op g:qm}{r j:R2}(p:yO X (compareOp op) r)(i:yO X (compareOp g) j)(ha:PE X a ta)(hb:PE X b tb)(q:PE X c tc)
  (t:lastMarks [op,g] [b,c]=false:=by with_unfolding_all rfl):PE X (.Compare a [op,g] [b,c] pos) (zFz r j ta tb tc):=by
 intro f s σ H Q I h
 refine Compare_chain (zM (ha f s σ H _ I h) fun v w ⟨x,A,B,C,D⟩=>chain_link (zM (hb f w σ A _ B D) fun u E ⟨y,F,G,l,J⟩=>
  zM (p f E σ F x y v u _ G C l J) fun d L ⟨z,m,n,M,k,e,o⟩=>?_)) t
 subst e
 cases M
 refine dt ?_
 cases k with
 |false=>exact ite_ff ⟨.bl false,m,n,rfl,o⟩
 |true=>exact ite_tt (chain_last (zM (q f L σ m _ n o) fun N O ⟨P,R,T,U,W⟩=>i f O σ R y P u N Q T l U W))
theorem zDD {op g:qm}{r j:R2}(p:yO X (compareOp op) r)(i:yO X (compareOp g) j)(ha:PE X a ta)(hb:PE X b tb)(q:PE X c tc)
  (t:lastMarks [op,g] [b,c]=false:=by with_unfolding_all rfl):PT X (.Compare a [op,g] [b,c] pos) (zFy (zFz r j ta tb tc)):=by
 intro f s σ H Q I h
 refine isTrue_chain (zM (ha f s σ H _ I h) fun v w ⟨x,A,B,C,D⟩=>test_link (zM (hb f w σ A _ B D) fun u E ⟨y,F,G,l,J⟩=>
  zM (p f E σ F x y v u _ G C l J) fun d L ⟨z,m,n,M,k,e,o⟩=>?_)) t
 subst e
 cases M
 refine dt ?_
 cases k with
 |false=>
  obtain⟨k',N,O⟩:=o
  cases N
  exact ite_ff ⟨m,n,O⟩
 |true=>
  refine ite_tt (test_last (zM (q f L σ m _ n o) fun P R ⟨T,U,W,Y,Z⟩=>zM (i f R σ U y T u P _ W l Y Z) fun d' s5 zq=>?_))
  obtain⟨z2,H5,I5,r5,k2,e2,q5⟩:=zq
  subst e2
  cases r5
  exact dt ⟨H5,I5,q5⟩
theorem zBX:(sizeLine:Nat)<2^63:=by rw[aI];decide
theorem zBY:yO X (binaryOp .Add) (fun x y H Q=>∃i j,x=.str i/\y=.str j/\i.length+j.length<=sizeLine/\Q (.str (i++j)) H):=by
 intro d s σ H x y v u Q I e f h
 obtain⟨i,j,rfl,rfl,hz,q⟩:=h
 obtain⟨t,rfl⟩:=e
 obtain⟨t',rfl⟩:=f
 exact add_str (fun t' tk=>⟨.str (i++j),H,I.tok _,⟨_,rfl⟩,q⟩) hz
theorem qC {x:V}{d:List aj}(r:zU [x] d):∃u,d=[u]/\zX x u:=by
 cases r with
 |cons e f=>cases f;exact⟨_,rfl,e⟩
theorem zAq {x y:V}{d:List aj}(r:zU [x,y] d):∃u e,d=[u,e]/\zX x u/\zX y e:=by
 cases r with
 |cons f g=>
  cases g with
  |cons h i=>cases i;exact⟨_,_,rfl,f,h⟩
theorem zLj (f:X.calm=true):qJ X (.builtin "max") (fun xs H Q=>∃i j,xs=[.int i,.int j]/\Q (.int (if j>i then j else i)) H):=by
 intro e s σ H xs g Q I r h
 obtain⟨i,j,rfl,q⟩:=h
 obtain⟨u,l,rfl,⟨t,rfl⟩,⟨t',rfl⟩⟩:=zAq r
 refine max_two_ints (I.ok.hd f) fun h' tk k=>⟨_,H,I.kept k,?_,q⟩
 by_cases d:j>i
 ·rw[if_pos d,if_pos d];exact⟨_,rfl⟩
 ·rw[if_neg d,if_neg d];exact⟨_,rfl⟩
theorem zLk (f:X.calm=true):qJ X (.builtin "min") (fun xs H Q=>∃i j,xs=[.int i,.int j]/\Q (.int (if j<i then j else i)) H):=by
 intro e s σ H xs g Q I r h
 obtain⟨i,j,rfl,q⟩:=h
 obtain⟨u,l,rfl,⟨t,rfl⟩,⟨t',rfl⟩⟩:=zAq r
 refine min_two_ints (I.ok.hd f) fun h' tk k=>⟨_,H,I.kept k,?_,q⟩
 by_cases d:j<i
 ·rw[if_pos d,if_pos d];exact⟨_,rfl⟩
 ·rw[if_neg d,if_neg d];exact⟨_,rfl⟩
end
structure ObjM (h:bF) (x dx C:ak) (mA:Str->Option aj):Prop where
 obj:h.get? x=some (fj C dx)
 ns:h.Ns1 dx mA
 ne:dx≠x
theorem zLl {h:bF}{c:ak}{d:Str->Option aj}(n:h.Ns1 c d):∃od,h.get? c=some od/\∀name,nA name od=some (d name):=by
 obtain⟨o,f,ep,g,hd,i,_,j⟩:=n
 refine⟨o,g,fun name=>?_⟩
 have e:=j name
 unfold nsFind findBy at e
 rw[<-Array.find?_toList]at e
 unfold nA
 rw[hd]
 dsimp only
 split
 ·rename_i y q
  rw[q]at e
  exact congrArg some e
 ·rename_i q
  rw[q]at e
  have a:f.toList.any (·.refKey)=false:=by
   rw[List.any_eq_false]
   intro y l
   obtain⟨z,t,b⟩:=i y (Array.mem_toList_iff.mp l)
   simp[vj,b]
  have m:¬f.toList.any (·.refKey)=true:=by rw[a];exact bg
  rw[if_neg m]
  exact congrArg some e
theorem ObjM.look {h:bF}{x a C:ak}{b:Str->Option aj}(I:ObjM h x a C b):∃od,PySem.W.InstAt h x (fj C a) C (some od)/\∀name,nA name od=some (b name) :=
 let⟨od,c,hl⟩:=zLl I.ns
 ⟨od,⟨I.obj,rfl,rfl,c⟩,hl⟩
theorem jI.some_of {v:V}{o:Option aj}(r:jI (some v) o):∃u,o=some u/\zX v u:=by
 cases o with
 |none=>exact(show False from r).elim
 |some u=>exact⟨u,rfl,r⟩
section
variable{P:aJ}{w:bh}{H H':Hp}{h h':bF}{a C dx:ak}{fs fs':List (Str×V)}
theorem zLm (hok:yI P w H h)(e:H a=some (.ins C dx fs)):∃b,ObjM h a dx C b/\(∀f,jI (fs.lookup f) (b f))/\sY b (fs.map (·.1))/\fs.length<=1000/\H dx=some (.own a):=by
 obtain⟨d,z,ne,c,b,n,r,q⟩:=(show yV P w H h a (.ins C dx fs)from hok a _ e)
 exact⟨b,⟨c,n,ne⟩,r,q,z,d⟩
end
structure Cls (K:ag) (C:ak):Prop where
 pg:pE K C vk=true
 hd:PySem.W.hasDictIn K C=true
 po:PySem.W.plainOver K C=true
 sa:qo K (.ref C) "__setattr__"=some (some (.builtin "object.__setattr__"))
theorem Cls.get {K:ag}{C:ak}(c:Cls K C)(f:Str):pE K C f=true:=c.pg
section
variable{X:Cx}{pins:List (ak×Obj)}{σ:St}{H:Hp}{s:au}{a C dx:ak}{fs:List (Str×V)}{f:Str}{v:V}{A:bX}{E:aj->au->Prop}
theorem Inv.made (I:Inv X pins σ H s):Inv X pins σ (upd (upd H s.heap.objs.size (.own (s.heap.objs.size+1))) (s.heap.objs.size+1) (.ins C s.heap.objs.size []))
  {s with heap:=(s.heap.push eg).push (fj C s.heap.objs.size)}:=by
 have e1:(s.heap.push eg).get? s.heap.objs.size=some eg:=aE s.heap rfl
 have c:((s.heap.push eg).push (fj C s.heap.objs.size)).get? (s.heap.objs.size+1)=some (fj C s.heap.objs.size):=by
  have:=aE (s.heap.push eg) (o:=fj C s.heap.objs.size) rfl
  rwa [bI]at this
 have d:(s.heap.push eg).Ns s.heap.objs.size (fun _=>none):=⟨eg,#[],_,e1,rfl,(fun e g=>absurd g (by simp)),fun _=>rfl⟩
 have h:=I.laid (a:=s.heap.objs.size) (o:=.own (s.heap.objs.size+1)) (h':=s.heap.push eg) (t':=s.toks) (fun b u q=>ae _ q) (aC _) ⟨_,e1⟩
 refine h.laid (a:=s.heap.objs.size+1) (o:=.ins C s.heap.objs.size []) (t':=s.toks) (fun b u q=>ae _ q) (fz (bI _ _)) ?_
 have ne:s.heap.objs.size≠s.heap.objs.size+1:=bp (dG _)
 refine⟨by rw[zG ne,zE],bw _,ne,c,fun _=>none,(Heap.Ns1.of_empty d).at fun o q=>ae _ q,fun _=>True.intro,fun y i=>absurd rfl i⟩
end
section
variable{X:Cx}{pins:List (ak×Obj)}{σ:St}{H:Hp}{s:au}{A:bX}{E:aj->au->Prop}{Q:aj->au->Prop}{c:aj}{b:Bool}
inductive TyOf (K:ag) (H:Hp):V->aj->Prop where
 |non:TyOf K H .non (.type "NoneType")
 |bl (x:Bool):TyOf K H (.bl x) (.type "bool")
 |int (i:Int):TyOf K H (.int i) (.type "int")
 |str (x:Str):TyOf K H (.str x) (.type "str")
 |flt (x:UInt64):TyOf K H (.flt x) (.type "float")
 |lst {a:ak} {xs:List V} (e:H a=some (.lst xs)):TyOf K H (.ref a) (.type "list")
 |frz {a:ak} {o:Obj} {xs:List V} (e:H a=some (.frz o (.lst xs))):TyOf K H (.ref a) (.type "list")
 |tup {a:ak} {xs:List V} (e:H a=some (.tup xs)):TyOf K H (.ref a) (.type "tuple")
 |dK {a:ak} {kvs:List (zO×V)} (e:H a=some (.dK kvs)):TyOf K H (.ref a) (.type "dict")
 |dT {a:ak} {kvs:List (List yU×V)} (e:H a=some (.dT kvs)):TyOf K H (.ref a) (.type "dict")
 |ins {a C dx:ak} {fs:List (Str×V)} (e:H a=some (.ins C dx fs)) (cl:Cls K C) (ha:qo K (.ref C) "__class__"=some (some (.builtin "object.__class__")))
   (hn:PySem.W.specialIn K (.builtin "object.__class__") "__get__"=some (some (.builtin "getset_descriptor.__get__"))) (htk:PySem.W.takesIn K (.builtin "object.__class__")=some true)
   (hm:PySem.W.mroIn K C (.type "object")=some true):TyOf K H (.ref a) (.ref C)
theorem zLn {x:V}{u t:aj}(I:Inv X pins σ H s)(d:zX x u)(ty:TyOf X.K H x t)(e:lg X.K t c=some b)(h:∀tk,Q (.bool b) {s with toks:=tk}) :
  wpAny (model X.prog X.w) A (call (.builtin "isinstance") [u,c]) Q E s:=by
 cases ty with
 |non=>cases(show u=Value.none from d);exact dD PySem.W.kitx_none I.kIn True.intro e (fun z=>nomatch z) h
 |bl y=>cases(show u=Value.bool y from d);exact dD PySem.W.kitx_bool I.kIn True.intro e (fun z=>nomatch z) h
 |int i=>obtain⟨t,q⟩:=(show∃t,u=Value.int i t from d);cases q;exact dD PySem.W.kitx_int I.kIn True.intro e (fun z=>nomatch z) h
 |str y=>obtain⟨t,q⟩:=(show∃t,u=Value.str y t from d);cases q;exact dD PySem.W.kitx_str I.kIn True.intro e (fun z=>nomatch z) h
 |flt y=>obtain⟨t,q⟩:=(show∃t,u=Value.float y t from d);cases q;exact dD PySem.W.kitx_float I.kIn True.intro e (fun z=>nomatch z) h
 | @lst a xs f=>
  cases(show u=Value.ref a from d)
  obtain⟨_,_,n,_,g⟩:=(show yV X.prog X.w H s.heap a (.lst xs)from I.hok a _ f)
  exact dD oE I.kIn ⟨_,g,rfl⟩ e (fun z=>nomatch z) h
 | @frz a r xs f=>
  cases(show u=Value.ref a from d)
  obtain⟨_,_,_,n,_,g⟩:=(show yV X.prog X.w H s.heap a (.frz r (.lst xs))from I.hok a _ f)
  exact dD oE I.kIn ⟨_,g,rfl⟩ e (fun z=>nomatch z) h
 | @tup a xs f=>
  cases(show u=Value.ref a from d)
  obtain⟨_,_,_,p⟩:=(show yV X.prog X.w H s.heap a (.tup xs)from I.hok a _ f)
  obtain⟨o,g,j,_⟩:=p
  exact dD PySem.W.kitx_tuple I.kIn ⟨o,g,j⟩ e (fun z=>nomatch z) h
 | @dK a kvs f=>
  cases(show u=Value.ref a from d)
  obtain⟨_,_,vs,_,p⟩:=(show yV X.prog X.w H s.heap a (.dK kvs)from I.hok a _ f)
  obtain⟨o,v,ep,g,j,_⟩:=p
  exact dD oF I.kIn ⟨o,g,j.1⟩ e (fun z=>nomatch z) h
 | @dT a kvs f=>
  cases(show u=Value.ref a from d)
  obtain⟨_,_,xs,_,o,v,ep,g,j,_⟩:=(show yV X.prog X.w H s.heap a (.dT kvs)from I.hok a _ f)
  exact dD oF I.kIn ⟨o,g,j.1⟩ e (fun z=>nomatch z) h
 | @ins a C F fs f m ha B l D=>
  cases(show u=Value.ref a from d)
  obtain⟨G,O,_⟩:=zLm I.hok f
  obtain⟨od,J,_⟩:=O.look
  exact dD (PySem.W.kitx_own (m.get _) m.hd ha B l D) I.kIn J e (fun z=>nomatch z) h
end
structure Room (k:Nat) (A:bX):Prop where
 hd:A.handled=none
 dp:A.depth+3*k+5<recursionLimit
 un:A.units+16*k+200<cLine
theorem Room.mono {j k:Nat}{A:bX}(r:Room k A)(h:j<=k):Room j A:=⟨r.hd,by have:=r.dp;omega,by have:=r.un;omega⟩
theorem Room.deeper {k:Nat}{A:bX}(r:Room (k+1) A)(env:Env):Room k (A.deeper env) :=
 ⟨r.hd,by have:=r.dp;show A.depth+1+3*k+5<_;omega,by have:=r.un;show A.units+3+16*k+200<_;omega⟩
theorem Room.in1 {k:Nat}{A:bX}(r:Room (k+1) A):Room k A.in1 :=
 ⟨r.hd,by have:=r.dp;show A.depth+3*k+5<_;omega,by have:=r.un;show A.units+1+16*k+200<_;omega⟩
theorem Room.depth {k:Nat}{A:bX}(r:Room k A):A.depth<recursionLimit:=by have:=r.dp;omega
theorem Room.units {k:Nat}{A:bX}(r:Room k A):A.units+64<cLine:=by have:=r.un;omega
noncomputable def zLo:TA:=fun _ H Q=>Q [] H
noncomputable def zGA (ta:TE)(tr:TA):TA:=fun σ H Q=>ta σ H fun x H1=>tr σ H1 fun xs H2=>Q (x::xs) H2
section
variable{X:Cx}{e:bS}{es:List bS}{te:TE}{t:TA}{pos:Pos}
theorem zD:PA X [] zLo:=fun _ _ _ _ H Q I h=>iQ ⟨[],H,I,.nil,h⟩
theorem zC (ha:PE X e te)(b:PA X es t)(c:starEach (e::es) X.env=(false,eval e X.env)::starEach es X.env:=by rfl):PA X (e::es) (zGA te t):=by
 intro pos a s σ H Q I h
 rw[c]
 show wpAny _ _ (spliced ((false,eval e X.env)::backTo pos (starEach es X.env))) _ _ s
 refine eV (zM (ha a s σ H _ I h) fun u d zq=>?_)
 obtain⟨x,f,g,i,j⟩:=zq
 exact zM (b pos a d σ f _ g j) fun p q ⟨xs,l,m,n,o⟩=>⟨x::xs,l,m,.cons i n,o⟩
noncomputable def zLp (t:TA):TE:=fun σ H Q=>t σ H fun xs H1=>xs.length<=sizeLine/\∀p,H1 p=none->Q (.ref p) (upd H1 p (.tup xs))
noncomputable def zLq (t:TA):TE:=fun σ H Q=>t σ H fun xs H1=>xs.length<=sizeLine/\∀p,H1 p=none->Q (.ref p) (upd H1 p (.lst xs))
theorem uA {g}(h:PA X es t):PE X (.Tuple es g pos) (zLp t):=by
 intro a s σ H Q I i
 refine nR (zM (h pos a s σ H _ I i) fun j c ⟨xs,d,f,r,z,q⟩=>⟨by rw[<-r.length];exact z,?_⟩)
 have hf:d c.heap.objs.size=none:=f.hok.fresh (aC _)
 refine⟨.ref c.heap.objs.size,upd d c.heap.objs.size (.tup xs),f.laid (t':=c.toks) (fun b u e=>ae _ e) (aC _) ?_,rfl,q _ hf⟩
 exact⟨z,j,r,⟨_,aE _ rfl,rfl,_,rfl⟩⟩
theorem uJ (h:PA X es t):PE X (.List es pos) (zLq t):=by
 intro a s σ H Q I g
 refine wpAny_List_spliced (zM (h pos a s σ H _ I g) fun i c ⟨xs,d,f,r,z,q⟩=>⟨by rw[<-r.length];exact z,?_⟩)
 have hf:d c.heap.objs.size=none:=f.hok.fresh (aC _)
 refine⟨.ref c.heap.objs.size,upd d c.heap.objs.size (.lst xs),f.laid (t':=c.toks) (fun b u e=>ae _ e) (aC _) ?_,rfl,q _ hf⟩
 exact⟨z,i,0,r,aE _ rfl⟩
end
noncomputable abbrev Sp:=List V->Hp->VK->XK->Prop
noncomputable abbrev kL:=List Env->Hp->au->XK->aj->au->Prop
structure Env0 (P:aJ) (w:bh) (K:ag) (mg:Str->Option aj) (base:bF) (A:bX) (outer:List Env) (s:au) (H:Hp):Prop where
 frames:A.frames=some outer
 mod:Mod K mg base
 bs:∀b o,base.get? b=some o->s.heap.get? b=some o/\H b=none
 bsz:base.objs.size<=s.heap.objs.size
 funs:s.heap.FunFrames base outer
 frf:∀b∈u9 outer,H b=none
 hok:yI P w H s.heap
 bare:lO s.gens
noncomputable def CE (outer:List Env)(P:aJ)(w:bh)(H:Hp)(s:au)(Q:VK)(u:aj)(s':au):Prop :=
 ∃v H',s'.os=s.os/\lO s'.gens/\Un (u9 outer) [] H H' s.heap s'.heap/\yI P w H' s'.heap/\zX v u/\Q v H'
noncomputable def CR (CX:kL)(outer:List Env)(P:aJ)(w:bh)(H:Hp)(s:au)(Q:VK)(E:XK)(r:qp)(s':au):Prop :=
 match r with
 | .ok (.ret u)=>CE outer P w H s Q u s'
 | .ok _=>False
 | .error e=>CX outer H s E e s'
structure FnOk (P:aJ) (w:bh) (K:ag) (mg:Str->Option aj) (base:bF) (CX:kL) (k:Nat) (f:ak) (fd:bc) (ps:List Str) (sp:Sp):Prop where
 len:∀vs H Q E,sp vs H Q E->vs.length=ps.length
 run:∀(A:bX) (outer:List Env) (s:au) (H:Hp) (args:Args) (us:List aj) (vs:List V) (Q:VK) (E:XK),Room k A->Env0 P w K mg base A outer s H->oG s fd args (ps.zip us)->zU vs us->sp vs H Q E->
  codeAny (model P w) A (.call (.ref f) args) (CR CX outer P w H s Q E) s
theorem FnOk.imp {P:aJ}{w:bh}{K:ag}{mg:Str->Option aj}{base:bF}{a:kL}{k:Nat}{f:ak}{fd:bc}{ps:List Str}{sp sp':Sp}(F:FnOk P w K mg base a k f fd ps sp)
  (h:∀vs H Q E,sp' vs H Q E->sp vs H Q E):FnOk P w K mg base a k f fd ps sp' :=
 ⟨fun vs H Q E q=>F.len vs H Q E (h _ _ _ _ q),fun A outer s H args b vs Q E c d hb hv e=>F.run A outer s H args b vs Q E c d hb hv (h _ _ _ _ e)⟩
theorem Env0.in1 {P:aJ}{w:bh}{K:ag}{mg:Str->Option aj}{base:bF}{A:bX}{outer:List Env}{s:au}{H:Hp}(e:Env0 P w K mg base A outer s H) :
  Env0 P w K mg base A.in1 outer s H:=⟨e.frames,e.mod,e.bs,e.bsz,e.funs,e.frf,e.hok,e.bare⟩
section
variable{X:Cx}{pins:List (ak×Obj)}{σ:St}{H:Hp}{s s':au}
theorem Inv.env0 (I:Inv X pins σ H s):Env0 X.prog X.w X.K X.mg X.base X.A X.stack s H :=
 ⟨I.ok.frames,I.ok.mod,I.bs,bJ I.ok.bsz I.sz,I.stack,I.stkFree,I.hok,I.bare⟩
theorem Inv.after {Q:VK}{u:aj}(I:Inv X pins σ H s)(h:CE X.stack X.prog X.w H s Q u s'):EP X pins σ Q u s':=by
 obtain⟨v,c,os,bare,un,hok,r,q⟩:=h
 obtain⟨e,g,d,t,a⟩:=s'
 obtain rfl:a=s.os:=os
 exact⟨v,c,I.call (h':=e) (g':=g) (d':=d) (t':=t) (ch:=[]) un hok bare (fun b z=>absurd z (by simp)),r,q⟩
end
noncomputable def zGB (sp:Sp)(dvs:List V)(E:XK)(t:TA):TE:=fun σ H Q=>t σ H fun vs H1=>sp (vs++dvs) H1 Q E
noncomputable def kM (K:ag)(fd:bc)(ps:List Str)(ds:List aj):Prop :=
 ∀(s:au) (us:List aj),K.In s.heap->(us++ds).length=ps.length->oG s fd ⟨us,[]⟩ (ps.zip (us++ds))
theorem kM.all {K:ag}{fd:bc}{ps:List Str}(h:∀a:List aj,a.length=ps.length->bindArgs fd ⟨a,[]⟩=pure (ps.zip a)):kM K fd ps []:=fun s a _ hl=>by
 rw[fm]at hl⊢
 exact .of_eq (h a hl)
noncomputable def zDE (CX:kL)(X:Cx)(E:XK):Prop:=∀(pins:List (ak×Obj)) (σ:St) (H:Hp) (s:au) (e:aj) (s':au),Inv X pins σ H s->CX X.stack H s E e s'->X.xe e s'
section
variable{X:Cx}{CX:kL}{k:Nat}{f C:ak}{fd:bc}{ps:List Str}{sp:Sp}{dvs:List V}{ds:List aj}{E:XK}{x m:Str}{p pos apos:Pos}{e o:bS}{es:List bS}{ta:TE}{t:TA}
theorem zLr {a:List (ak×Obj)}{σ:St}{H:Hp}{s:au}{Q:VK}{b:List aj}{vs:List V}(F:FnOk X.prog X.w X.K X.mg X.base CX k f fd ps sp)(g:Room k X.A)(hb:kM X.K fd ps ds)(hd:zU dvs ds)(i:zDE CX X E)
  (I:Inv X a σ H s) (r:zU vs b) (h:sp (vs++dvs) H Q E):wpAny (model X.prog X.w) X.A (call (.ref f) b) (EP X a σ Q) X.xe s:=by
 have d:zU (vs++dvs) (b++ds):=r.append hd
 have hl:(b++ds).length=ps.length:=by rw[<-d.length];exact F.len _ _ _ _ h
 refine qq (ij (F.run X.A X.stack s H ⟨b,[]⟩ (b++ds) (vs++dvs) Q E g I.env0 (hb s b I.kIn hl) d h) fun r s' c=>?_)
 cases r with
 |error e=>exact i a σ H s e s' I c
 |ok j=>
  cases j with
  |ret u=>exact I.after c
  |next=>exact fD c
  |brk=>exact fD c
  |cont=>exact fD c
theorem zLs (F:FnOk X.prog X.w X.K X.mg X.base CX k f fd ps sp)(g:Room k X.A)(i:Gl X x)(j:X.mg x=some (.ref f))(l:dW X.K (.ref f)=true)(hb:kM X.K fd ps ds)(hd:zU dvs ds)(n:zDE CX X E)
  (ha:PA X (e::es) t) (b:(x==("__debug__" : Str))=false:=by decide) (u:starEach (e::es) X.env=(false,eval e X.env)::starEach es X.env:=by rfl) (c:(backTo pos (starEach es X.env)).any (·.1)=false:=by rfl) :
  PE X (.Call (.Name x p) (e::es) [] pos) (zGB sp dvs E t):=by
 intro a s σ H Q I h
 refine eW (zFi I i j ?_ b)
 refine PySem.W.callWith_K (h₀:=X.base) I.ok.mod.kin l (zM (ha pos a s σ H _ I h) fun v y ⟨vs,z,d,r,q⟩=>⟨d.kIn,?_⟩) u c
 exact zLr F g hb hd n d r q
end
section
variable{X:Cx}{CX:kL}{k:Nat}{f C:ak}{fd:bc}{ps ks:List Str}{sp:Sp}{E:XK}{x m:Str}{p pos apos kpos:Pos}{e o:bS}{es:List bS}{kws:List qj}{te ta:TE}{t tk:TA}{nm:Option Str}
variable{g:List aj->List aj->List aj}{gV:List V->List V->List V}
end
structure FnScope (N P:List Str) (sc:gc):Prop where
 kind:sc.kind=.function
 co:sc.isCoroutine=false
 gen:sc.isGenerator=false
 nd:N.Nodup
 pre:N.take P.length=P
 par:∀x∈P,sc.names.lookup x=some .local\/sc.names.lookup x=some .cell
 nofree:∀y∈sc.names,y.2≠.free
theorem zGC {kindOf:Str->Option lh}{x:Str}:∀{binds:List (Str×aj)}{m:Str->Option aj},(∀v,(x,v)∉binds)->bindL kindOf binds m x=m x
 | [],_,_=>rfl
 |(n,v)::r,m,h=>by
  unfold bindL
  rw[zGC fun w a=>h w (aw _ a)]
  split
  ·have:x≠n:=by rintro rfl;exact h v aq
   simp[this]
  ·rfl
theorem zGD {kindOf:Str->Option lh}{x:Str}:∀{binds:List (Str×aj)}{m:Str->Option aj},(∀v,(x,v)∉binds)->bindC kindOf binds m x=m x
 | [],_,_=>rfl
 |(n,v)::r,m,h=>by
  unfold bindC
  rw[zGD fun w a=>h w (aw _ a)]
  split
  ·rfl
  ·have:x≠n:=by rintro rfl;exact h v aq
   simp[this]
theorem zGE {kindOf:Str->Option lh}{x:Str}{v:aj}:∀{P:List Str}{vs:List aj}{i:Nat}{m:Str->Option aj},P.Nodup->P[i]?=some x->vs[i]?=some v->kindOf x=some .local->
  bindL kindOf (P.zip vs) m x=some v
 | [],_,_,_,_,h,_,_=>by simp at h
 |_::_,[],_,_,_,_,h,_=>by simp at h
 |p::P,w::vs,0,m,nd,a,b,c=>by
  simp at a b;subst a;subst b
  show bindL kindOf ((p,w)::P.zip vs) m p=_
  unfold bindL
  rw[zGC fun v hv=>(bx.mp nd).1 (mW hv).1,if_pos c]
  simp
 |p::P,w::vs,i+1,m,nd,a,b,c=>by
  show bindL kindOf ((p,w)::P.zip vs) m x=_
  unfold bindL
  exact zGE (i:=i) (bx.mp nd).2 (by simpa using a) (by simpa using b) c
theorem zGF {kindOf:Str->Option lh}{x:Str}{v:aj}:∀{P:List Str}{vs:List aj}{i:Nat}{m:Str->Option aj},P.Nodup->P[i]?=some x->vs[i]?=some v->kindOf x≠some .local->
  bindC kindOf (P.zip vs) m x=some v
 | [],_,_,_,_,h,_,_=>by simp at h
 |_::_,[],_,_,_,_,h,_=>by simp at h
 |p::P,w::vs,0,m,nd,a,b,c=>by
  simp at a b;subst a;subst b
  show bindC kindOf ((p,w)::P.zip vs) m p=_
  unfold bindC
  rw[zGD fun v hv=>(bx.mp nd).1 (mW hv).1,if_neg c]
  simp
 |p::P,w::vs,i+1,m,nd,a,b,c=>by
  show bindC kindOf ((p,w)::P.zip vs) m x=_
  unfold bindC
  exact zGF (i:=i) (bx.mp nd).2 (by simpa using a) (by simpa using b) c
noncomputable def start (N:List Str)(vs:List V):St:=vs.map some++aH (N.length-vs.length) none
noncomputable def zAR (CX:kL)(P:aJ)(w:bh)(K:ag)(mg:Str->Option aj)(base:bF)(N:List Str)(qual:Str)(scope:gc)(f:ak)(cd:aj)(A:bX)(outer:List Env)(s:au)(H:Hp)(E:XK):Cx where
 prog:=P
 w:=w
 K:=K
 mg:=mg
 base:=base
 A:=A.deeper (envOfC qual scope s.heap.objs.size f cd)
 N:=N
 s₀:=s
 H₀:=H
 env:=envOfC qual scope s.heap.objs.size f cd
 outer:=outer
 stack:=envOfC qual scope s.heap.objs.size f cd::outer
 ex:=[]
 calm:=true
 fn:=fun _=>true
 pn:=[]
 xe:=fun e s'=>wpAny (model P w) (A.deeper (envOfC qual scope s.heap.objs.size f cd)) (leaving (envOfC qual scope s.heap.objs.size f cd) e) (fun _ s''=>CX outer H s E e s'') (fun e' s''=>CX outer H s E e' s'') s'
theorem zGG {a:gc}{n:Nat}{x:Str}(h:a.names.lookup x=some .cell):∃c,(cellsFrom n a.names []).lookup x=some c:=by
 have q:=mJ a.names n [] (.inl h)
 exact iB.mp q
theorem zLt {F:kL}{P:aJ}{w:bh}{K:ag}{mg:Str->Option aj}{base:bF}{N ps:List Str}{d:Str}{scope:gc}{f:ak}{B:aj}{A:bX}{outer:List Env}{s G:au}{H:Hp}{E:XK}{D:List aj}{vs:List V}
  (S:FnScope N ps scope) (hd:A.handled=none) (j:Env0 P w K mg base A outer s H) (hl:vs.length=ps.length) (r:zU vs D)
  (x:InCallC s s.heap.objs.size (bindL (envOfC d scope s.heap.objs.size f B).kindOf (ps.zip D) fun _=>none) (cellsFrom (s.heap.objs.size+1) scope.names []) (bindC (envOfC d scope s.heap.objs.size f B).kindOf (ps.zip D) fun _=>none) G) :
  Inv (zAR F P w K mg base N d scope f B A outer s H E) [] (start N vs) H G:=by
 have L:ps.length<=N.length:=by have:=congrArg fU S.pre;rw[aZ]at this;omega
 obtain⟨C,tk,rfl,I⟩:=x.done
 have l:∀b:ak,b∉(zAR F P w K mg base N d scope f B A outer s H E).ex:=fun b z=>absurd (show b∈([]:List ak)from z) (by simp)
 refine⟨⟨j.mod,S.kind,rfl,rfl,aC _,fun y z c C g=>?_,fun y m=>?_,fun y c _ h=>?_,fun _=>hd,Around.frames_deeper j.frames,.inr ⟨rfl,rfl⟩,fun b z=>absurd z (l b),j.bs,j.bsz,fun b _ _=>l b,fun b z=>absurd z (l b),j.funs,j.frf⟩,
  rfl,j.bare,Un.kept I,⟨_,x.toInCall.ns,fun i y v C g O=>?_⟩,fun y c h=>⟨_,x.cell y c h⟩,j.hok.fresh (aC _),fun y c h=>?_,fun p o=>absurd (show p∈([]:List (ak×Obj))from o) (by simp),j.hok.kept I,?_⟩
 ·exact name_of_addr x.apart (eR C) (eR g)
 ·have m:scope.names.lookup y=some .cell\/scope.names.lookup y=some .free:=m
  rcases m with m|m
  ·exact zGG m
  ·exact absurd rfl (S.nofree _ (eR m))
 ·exact oA (x.above y c (eR h))
 ·have hi:i<vs.length:=by
   unfold start at g
   by_cases hi:i<vs.length
   ·exact hi
   ·rw[aO (by simpa using hi)]at g
    rw[mj]at g
    split at g<;>cases g
  have ha:vs[i]?=some v:=by
   unfold start at g
   rw[aR (by simpa using hi),ar]at g
   cases e:vs[i]? with
   |none=>rw[e]at g;cases g
   |some a=>rw[e]at g;cases g;rfl
  obtain⟨u,J,M⟩:=r.get ha
  have o:ps[i]?=some y:=by
   rw[<-S.pre,List.getElem?_take_of_lt (by omega)];exact C
  have t:ps.Nodup:=by rw[<-S.pre];exact S.nd.sublist (gy _ _)
  refine⟨u,M,?_⟩
  rcases S.par y (aY o)with k|k
  ·exact .inl ⟨k,zGE t o J k⟩
  ·obtain⟨c,e⟩:=zGG (n:=s.heap.objs.size+1) k
   refine .inr ⟨.inl k,c,e,?_⟩
   have q:=x.cell y c e
   rw[zGF t o J (by show scope.names.lookup y≠_;rw[k];decide)]at q
   exact q
 ·exact j.hok.fresh (oA (x.above y c (eR h)))
 ·unfold start
  show _=N.length
  rw[ay,ai,cV]
  omega
theorem zGH {z:kL}{P:aJ}{w:bh}{K:ag}{mg:Str->Option aj}{base:bF}{k:Nat}{f:ak}{name a:Str}{d:sS}{body:List cJ}{scope:gc}{M kV l pm c ct oc:aj}{O od:Option ak}
  {C:Array (Option aj)} {N ps:List Str} {sp:Sp} (lk:K.lookup f=some ⟨oc,od,.func (dF name a d body scope M kV l pm O c ct),C⟩) (D:eX K c a=true) (S:FnScope N ps scope)
  (len:∀vs H Q E,sp vs H Q E->vs.length=ps.length)
  (h:∀(A:bX) (outer:List Env) (s:au) (H:Hp) (vs:List V) (Q:VK) (E:XK),Room k (A.deeper (envOfC a scope s.heap.objs.size f c))->sp vs H Q E->
   ∃t,qX (zAR z P w K mg base N a scope f c A outer s H E) body t/\t {nx:=fun _ g=>Q .non g,rt:=Q} (start N vs) H) :
  FnOk P w K mg base z (k+1) f (dF name a d body scope M kV l pm O c ct) ps sp:=by
 refine⟨len,fun A outer s H args U vs Q E F m hb r p=>?_⟩
 have hl:=len _ _ _ _ p
 have R:K.In s.heap:=m.mod.kin.keeps fun b o e=>(m.bs b o e).1
 have G:s.heap.NoLimit:=m.mod.nolimit.keeps fun b o e=>(m.bs b o e).1
 have i:∀y∈ps.zip U,scope.names.lookup y.1=some .local\/(scope.names.lookup y.1=some .cell/\((cellsFrom (s.heap.objs.size+1) scope.names []).lookup y.1).isSome=true):=fun⟨n,v⟩ X=>by
  rcases S.par n (mW X).1 with q|q
  ·exact .inl q
  ·exact .inr ⟨q,mJ _ _ _ (.inl q)⟩
 refine codeAny_call_function F.depth (R _ _ lk) rfl S.co S.gen rfl (PySem.W.codeRec_of R D) (hb _ _ _ _ ?_)
 refine wpAny_newFunctionEnv_cells S.kind i fun env Y T x=>?_
 subst Y
 refine⟨G.keeps x.toInCall.keep,codeAny_func ?_⟩
 obtain⟨t,Z,hq⟩:=h A outer s H vs Q E (F.deeper _) p
 have I:Inv (zAR z P w K mg base N a scope f c A outer s H E) [] (start N vs) H T:=zLt S F.hd m hl r x
 refine cY (Z [] T (start N vs) H _ I hq) (fun fl s' j=>?_) fun e s' j=>j
 have fin:∀{B:St} {g:Hp} {v:V} {u:aj},Inv (zAR z P w K mg base N a scope f c A outer s H E) [] B g s'->zX v u->Q v g->CE outer P w H s Q u s' :=
  fun{B g v u} J L q=>⟨v,g,J.os,J.bare,J.base,J.hok,L,q⟩
 cases fl with
 |ret u=>
  obtain⟨v,B,g,J,L,q⟩:=j
  exact fin J L q
 |next=>
  obtain⟨B,g,J,q⟩:=j
  exact fin (v:=V.non) (u:=Value.none) J rfl q
 |brk=>
  obtain⟨_,_,_,q⟩:=j
  exact fD q
 |cont=>
  obtain⟨_,_,_,q⟩:=j
  exact fD q
section
variable{X:Cx}{x:Str}{p pos:Pos}{e:bS}{es:List bS}{t:TA}{id T:String}{r:List V->Hp->VK->Prop}
noncomputable def tCB (r:List V->Hp->VK->Prop)(t:TA):TE:=fun σ H Q=>t σ H fun vs H1=>r vs H1 Q
theorem yS (d:qJ X (.builtin id) r)(f:Gl X x)(g:X.mg x=none)(hv:bootBuiltins x=some (.builtin id))(ha:PA X (e::es) t)(i:x≠"__name__" :=by decide)(b:(x==("__debug__" : Str))=false:=by decide)
  (j:starEach (e::es) X.env=(false,eval e X.env)::starEach es X.env:=by rfl) (c:(backTo pos (starEach es X.env)).any (·.1)=false:=by rfl):PE X (.Call (.Name x p) (e::es) [] pos) (tCB r t):=by
 intro a s σ H Q I h
 refine eW (j2 I f g hv ?_ i b)
 exact jg (zM (ha pos a s σ H _ I h) fun l m ⟨vs,n,o,q,u⟩=>d a m σ n vs l Q o q u) j c
theorem zAr (d:qJ X (.type T) r)(f:Gl X x)(g:X.mg x=none)(hv:bootBuiltins x=some (.type T))(ha:PA X (e::es) t)(i:x≠"__name__" :=by decide)(b:(x==("__debug__" : Str))=false:=by decide)
  (j:starEach (e::es) X.env=(false,eval e X.env)::starEach es X.env:=by rfl) (c:(backTo pos (starEach es X.env)).any (·.1)=false:=by rfl):PE X (.Call (.Name x p) (e::es) [] pos) (tCB r t):=by
 intro a s σ H Q I h
 refine eW (j2 I f g hv ?_ i b)
 exact cQ (zM (ha pos a s σ H _ I h) fun l m ⟨vs,n,o,q,u⟩=>d a m σ n vs l Q o q u) j c
end
end L2
namespace HT
open PySem PyProof.Rows
section
open PySem.SeqAt
open PySem.AutoSeq1 (wpAny_loadPart')
open PySem.MeetsSeq PySem.MeetsSeq2 PySem.MeetsSeq3
end
section
variable{prog:aJ}{w:bh}{A:bX}{E:aj->au->Prop}{s:au}
theorem cat_tup {t b:ak}{vs ws:List aj}{Q:aj->au->Prop}(q:qk s.heap t vs.toArray)(hb:qk s.heap b ws.toArray)(hv:vs≠[])
  (r:ws=[]->Q (.ref t) s) (u:ws≠[]->Q (.ref s.heap.objs.size) {s with heap:=s.heap.push {cls:=.type "tuple",data:=.seq (vs++ws).toArray}})
  (hsz:vs.length+ws.length<=sizeLine):wpAny (model prog w) A (binaryOp .Add (.ref t) (.ref b)) Q E s:=by
 obtain⟨⟨cls,j,data,l⟩,h,m,n,hd⟩:=id q
 obtain⟨⟨o,c,data2,d⟩,a,f,p,g⟩:=id hb
 simp only at m hd f g
 subst m hd f g
 have e:vs.toArray++ws.toArray=(vs++ws).toArray:=by simp
 by_cases i:ws=[]
 ·exact oH ⟨_,h,rfl⟩ ⟨_,a,rfl⟩ mm nZ iR iL (iC _ _)
   (tuple_addW1 t b vs.toArray ws.toArray n p j c l d (by simpa using hv) (by simp[i])) ⟨h,a,r i⟩
 ·refine oH ⟨_,h,rfl⟩ ⟨_,a,rfl⟩ mm nZ iR iL (iC _ _)
   (tuple_addW2 t b vs.toArray ws.toArray n p j c l d (by simpa using hv) (by simpa using i) (by rw[aP,aP];exact hsz)) ⟨h,a,?_⟩
  rw[e]
  exact u i
noncomputable def sIx (n d:Nat):Option Int->Nat
 |none=>d
 |some v=>if v<0 then(v+(n:Int)).toNat else min v.toNat n
theorem sIx_nat (n d k:Nat):sIx n d (some (k:Int))=min k n:=by
 show(if(k:Int)<0 then((k:Int)+(n:Int)).toNat else min (k:Int).toNat n)=min k n
 rw[if_neg (by omega),du]
theorem sIx_le (n d:Nat)(hd:d<=n)(o:Option Int):sIx n d o<=n:=by
 cases o with
 |none=>exact hd
 |some v=>
  show(if v<0 then(v+(n:Int)).toNat else min v.toNat n)<=n
  by_cases hv:v<0
  ·rw[if_pos hv];omega
  ·rw[if_neg hv];exact Nat.min_le_right _ _
theorem zGI (v:Int)(n d:Nat):(if v<0 then max (v+(n:Int)) 0 else min v (n:Int))=((sIx n d (some v):Nat):Int):=by
 show(if v<0 then max (v+(n:Int)) 0 else min v (n:Int))=(((if v<0 then(v+(n:Int)).toNat else min v.toNat n):Nat):Int)
 by_cases hv:v<0
 ·simp only[if_pos hv];omega
 ·simp only[if_neg hv];omega
theorem zLu (lo hi:Option Int)(n:Nat):iu lo hi 1 (n:Int)=(((sIx n 0 lo:Nat):Int),((sIx n n hi:Nat):Int)):=by
 have a:¬((1:Int)<0):=by omega
 unfold iu
 simp only[a,if_false]
 refine fM ?_ ?_
 ·cases lo with
  |none=>rfl
  |some v=>exact zGI v n 0
 ·cases hi with
  |none=>rfl
  |some v=>exact zGI v n n
theorem zLv (i j:Nat):fh (i:Int) (j:Int) 1=j-i:=by
 unfold fh
 have a:(1:Int)>0:=by omega
 simp only[a,if_true,Int.ediv_one]
 split<;>omega
theorem zGJ {v:aj}{o:Option Int}{Q:Option Int->au->Prop}(p:mK v o)(h:Q o s):wpAny (model prog w) A (pU v) Q E s:=by
 cases p with
 |none=>exact qr h
 |int i t=>exact slicePart_int h
theorem sliceApplied_gen {e:ak}{c d:aj}{lo hi:Option Int}{n:Nat}{Q:Int×Int×Nat->au->Prop}(f:s.heap.IsSliceOf e c d .none)(pl:mK c lo)(g:mK d hi)
  (h:Q (((sIx n 0 lo:Nat):Int),1,sIx n n hi-sIx n 0 lo) s):wpAny (model prog w) A (ll (.ref e) (pure (n:Int))) Q E s:=by
 obtain⟨os,a,i,b⟩:=id f
 unfold ll rM
 refine af (af (cX a b (x:=c) rfl (af (cX a b (x:=d) rfl (af (cX a b (x:=.none) rfl (az ?_)))))))
 refine af (qr ?_)
 show wpAny _ _ (if((1:Int)==0)=true then _ else _) _ _ s
 rw[if_neg (by decide)]
 refine af (zGJ pl (af (zGJ g (af (az ?_)))))
 show wpAny _ _ (match iu lo hi 1 (n:Int)with|(lo,hi)=>pure (lo,(1:Int),fh lo hi 1)) _ _ s
 rw[zLu lo hi n]
 show wpAny _ _ (pure (((sIx n 0 lo:Nat):Int),(1:Int),fh ((sIx n 0 lo:Nat):Int) ((sIx n n hi:Nat):Int) 1)) _ _ s
 rw[zLv]
 exact az h
theorem zLw (xs:Array aj)(i k:Nat):((bA k).filterMap fun(m:Nat)=>xs[((i:Int)+(m:Int)*1).toNat]?).toArray=((xs.toList.drop i).take k).toArray:=by
 have e:(fun(m:Nat)=>xs[((i:Int)+(m:Int)*1).toNat]?)=fun m=>xs[i+m]?:=by
  funext m
  have:((i:Int)+(m:Int)*1).toNat=i+m:=by omega
  rw[this]
 rw[e]
 have:=pick_run xs i k
 rw[List.filterMap_map]at this
 have a:((fun x=>xs[x]?) ∘ fun x=>i+x)=fun m=>xs[i+m]?:=rfl
 rw[a]at this
 rw[this]
theorem getItem_tuple_cut {t c:ak}{items:Array aj}{i j:aj}{lo hi:Option Int}{Q:aj->au->Prop}(b:qk s.heap t items)(l:s.heap.IsSliceOf c i j .none)(pl:mK i lo)(n:mK j hi)
  (o:¬(sIx items.size 0 lo=0/\sIx items.size items.size hi=items.size))
  (h:Q (.ref s.heap.objs.size) {s with heap:=s.heap.push {cls:=.type "tuple",data:=.seq ((items.toList.drop (sIx items.size 0 lo)).take (sIx items.size items.size hi-sIx items.size 0 lo)).toArray}})
  (hsz:items.size<=sizeLine):wpAny (model prog w) A (getItem (.ref t) (.ref c)) Q E s:=by
 have a:sizeOk (.seq ((items.toList.drop (sIx items.size 0 lo)).take (sIx items.size items.size hi-sIx items.size 0 lo)).toArray):=by
  show((items.toList.drop (sIx items.size 0 lo)).take (sIx items.size items.size hi-sIx items.size 0 lo)).toArray.size<=sizeLine
  rw[aP,aZ,bV,br]
  omega
 have r:sIx items.size items.size hi<=items.size:=sIx_le _ _ (aC _) hi
 obtain⟨os,d,e,p⟩:=id l
 have f:s.TypeIs (.ref c) "slice" :=⟨os,d,e⟩
 unfold getItem
 try with_reducible refine dX ?_
 first|refine af (az ?_)|skip
 refine af (oJ b.typeIs (by decide) ?_)
 refine af (b0 (name:=dH "__getitem__") b.typeIs cU
  (cp cU b.typeIs nS ?_ (oo _ _)))
 show wpAny _ _ (lq (.ref t)>>=_) _ _ s
 refine af (sg b ?_)
 refine af (ik f ?_)
 rw[if_pos (by decide)]
 refine af (sliceApplied_gen l pl n ?_)
 have g:¬((((sIx items.size 0 lo:Nat):Int)==0&& (1:Int)==1&& (sIx items.size items.size hi-sIx items.size 0 lo)==items.size)=true):=by
  intro q
  rw[bj,bj]at q
  have u:((sIx items.size 0 lo:Nat):Int)=0:=eq_of_beq q.1.1
  have v:sIx items.size items.size hi-sIx items.size 0 lo=items.size:=eq_of_beq q.2
  exact o ⟨by omega,by omega⟩
 show wpAny _ _ (if(((sIx items.size 0 lo:Nat):Int)==0&& (1:Int)==1&& (sIx items.size items.size hi-sIx items.size 0 lo)==items.size)=true then _ else _) _ _ s
 rw[if_neg g,zLw]
 first
  |exact af (m:=fE _) (cu (az ⟨_,rfl,az h⟩) a)
  |exact af (m:=fE _) (cu (af (az (az ⟨_,rfl,az h⟩))) a)
  |exact af (af (m:=fE _) (cu (az (az ⟨_,rfl,az h⟩)) a))
  |exact af (af (m:=fE _) (cu (az ⟨_,rfl,az h⟩) a))
end
end HT
namespace L2
open PySem PySem.Spec PyProof.Rows
noncomputable abbrev TO:=St->Hp->(Option Int->Hp->Prop)->Prop
noncomputable def PO (X:Cx)(e:Option bS)(t:TO):Prop :=
 ∀(pins:List (ak×Obj)) (s:au) (σ:St) (H:Hp) (Q:Option Int->Hp->Prop),Inv X pins σ H s->t σ H Q->
  wpAny (model X.prog X.w) X.A (evalPart e X.env) (fun u s'=>∃o H',Inv X pins σ H' s'/\mK u o/\Q o H') X.xe s
noncomputable def zLx:TO:=fun _ H Q=>Q none H
noncomputable def zLy (t:TE):TO:=fun σ H Q=>t σ H fun x H1=>∃i,x=.int i/\Q (some i) H1
theorem zLz {ns:List Int}:∀{a:List aj},zU (ns.map V.int) a->oK a ns:=by
 induction ns with
 |nil=>intro a r;rw[kh]at r;cases r;exact .nil
 |cons n ns ih=>
  intro a r
  rw[aD]at r
  cases r with
  |cons b c=>
   obtain⟨t,e⟩:=b
   subst e
   exact .cons n t (ih c)
section
variable{X:Cx}{e:bS}{te:TE}{lo hi:Option bS}{tl th:TO}{pos p2:Pos}
theorem j3:PO X none zLx:=by
 intro a s σ H Q I h
 rw[n4]
 exact az ⟨none,H,I,.none,h⟩
theorem jL (h:PE X e te):PO X (some e) (zLy te):=by
 intro a s σ H Q I b
 rw[evalPart_some]
 refine zM (h a s σ H _ I b) fun u j zq=>?_
 obtain⟨x,c,d,f,g⟩:=zq
 obtain⟨i,rfl,q⟩:=g
 obtain⟨t,rfl⟩:=f
 exact⟨some i,c,d,.int i t,q⟩
noncomputable def SlR (X:Cx)(r:V->Option Int->Option Int->Hp->VK->Prop):Prop :=
 ∀(pins:List (ak×Obj)) (s:au) (σ:St) (H:Hp) (x:V) (v vl vu:aj) (lo hi:Option Int) (sl:ak) (Q:VK),Inv X pins σ H s->zX x v->s.heap.IsSliceOf sl vl vu .none->mK vl lo->mK vu hi->r x lo hi H Q->
  ∃T id,typeLookup (.type T) "__getitem__"=pure (some (.builtin id))/\s.TypeIs v T/\wpAny (model X.prog X.w) X.A (getItem v (.ref sl)) (EP X pins σ Q) X.xe s
noncomputable def tSl (r:V->Option Int->Option Int->Hp->VK->Prop)(te:TE)(tl th:TO):TE:=fun σ H Q=>te σ H fun x H1=>tl σ H1 fun l H2=>th σ H2 fun u H3=>r x l u H3 Q
theorem gH {r:V->Option Int->Option Int->Hp->VK->Prop}(i:SlR X r)(j:PE X e te)(hl:PO X lo tl)(m:PO X hi th):PE X (.Subscript e (.Slice lo hi none p2) pos) (tSl r te tl th):=by
 intro a s σ H Q I h
 refine lr (zM (j a s σ H _ I h) fun v n zq=>?_)
 obtain⟨x,o,p,t,y⟩:=zq
 refine wpAny_Slice (zM (hl a n σ o _ p y) fun d z ⟨l,B,C,pl,D⟩=>zM (m a z σ B _ C D) fun f c zq=>?_)
 obtain⟨u,g,E,F,G⟩:=zq
 rw[n4]
 refine az ?_
 have J:Inv X a σ g {c with heap:=c.heap.push {cls:=.type "slice",data:=.fields #[d,f,.none]}}:=E.kept (t':=c.toks) fun b O q=>ae _ q
 obtain⟨T,id,L,M,N⟩:=i a {c with heap:=c.heap.push {cls:=.type "slice",data:=.fields #[d,f,.none]}} σ g x v d f l u c.heap.objs.size Q J t (vd ..) pl F G
 show wpAny (model X.prog X.w) X.A (subscriptTail e (.Slice lo hi none p2) v (.ref c.heap.objs.size)) (EP X a σ Q) X.xe {c with heap:=c.heap.push {cls:=.type "slice",data:=.fields #[d,f,.none]}}
 exact tZ (ops:=[.ref c.heap.objs.size,v]) M L N (by with_unfolding_all rfl)
noncomputable def uB (xs:List V)(lo hi:Option Int):List V:=(xs.drop (HT.sIx xs.length 0 lo)).take (HT.sIx xs.length xs.length hi-HT.sIx xs.length 0 lo)
theorem zGK (xs:List V)(lo hi:Option Int):(uB xs lo hi).length<=xs.length:=by
 unfold uB
 rw[aZ,bV]
 omega
noncomputable def zMA (K:ag):V->Option Int->Option Int->Hp->VK->Prop:=fun x lo hi H Q=>∃a xs,x=.ref a/\z7 K H a xs/\
 ¬(HT.sIx xs.length 0 lo=0/\HT.sIx xs.length xs.length hi=xs.length)/\∀p,H p=none->Q (.ref p) (upd H p (.tup (uB xs lo hi)))
theorem zMB:SlR X (zMA X.K):=by
 intro d s σ H x v n p lo hi t Q I g i pl j h
 obtain⟨a,xs,rfl,l,m,q⟩:=h
 cases g
 obtain⟨its,r,f,hz⟩:=I.tuple l
 have c:its.toArray.size=xs.length:=by rw[aP];exact r.length.symm
 refine⟨"tuple",_,cU.lookup,f.typeIs,?_⟩
 refine HT.getItem_tuple_cut f i pl j (by rw[c];exact m) ?_ (by rw[c];exact hz)
 rw[c]
 refine⟨.ref s.heap.objs.size,_,I.laid (t':=s.toks) (o:=.tup (uB xs lo hi)) (fun b u q=>ae _ q) (aC _) ?_,rfl,q _ (I.hok.fresh (aC _))⟩
 exact⟨bJ (zGK xs lo hi) hz,_,(r.drop (HT.sIx xs.length 0 lo)).take (HT.sIx xs.length xs.length hi-HT.sIx xs.length 0 lo),sU _ _⟩
noncomputable def zMC (K:ag):R2:=fun x y H Q=>∃a b xs ys,x=.ref a/\y=.ref b/\z7 K H a xs/\z7 K H b ys/\xs≠[]/\xs.length+ys.length<=sizeLine/\
 (ys=[]->Q (.ref a) H)/\(ys≠[]->∀p,H p=none->Q (.ref p) (upd H p (.tup (xs++ys))))
theorem zU.nil_iff {xs:List V}{a:List aj}(r:zU xs a):a=[]↔xs=[]:=by
 cases r with
 |nil=>simp
 |cons _ _=>simp
theorem zGL:yO X (binaryOp .Add) (zMC X.K):=by
 intro f s σ H x y v u Q I i j h
 obtain⟨a,b,xs,ys,rfl,rfl,ha,hb,l,hz,m,n⟩:=h
 cases i
 cases j
 obtain⟨its,d,p,_⟩:=I.tuple ha
 obtain⟨g,c,p2,_⟩:=I.tuple hb
 refine HT.cat_tup p p2 (fun z=>l (d.nil_iff.mp z)) (fun z=>⟨.ref a,H,I,rfl,m (c.nil_iff.mp z)⟩) (fun z=>?_) (by rw[<-d.length,<-c.length];exact hz)
 refine⟨.ref s.heap.objs.size,_,I.laid (t':=s.toks) (o:=.tup (xs++ys)) (fun b r q=>ae _ q) (aC _) ?_,rfl,n (fun w=>z (c.nil_iff.mpr w)) _ (I.hok.fresh (aC _))⟩
 exact⟨by rw[ay];exact hz,_,d.append c,sU _ _⟩
end
noncomputable def ixN (n:Nat)(i:Int):Option Nat:=if 0<=i then(if i<n then some i.toNat else none)else if-(n:Int)<=i then some (i+n).toNat else none
noncomputable def g6 {α:Type}(xs:List α)(i:Int):Option α:=(ixN xs.length i).bind fun j=>xs[j]?
theorem zMD {n:Nat}{i:Int}{j:Nat}(h:ixN n i=some j):seqIndex? i n=some j/\j<n/\-(n:Int)<=i/\i<n:=by
 unfold ixN at h
 by_cases b:0<=i
 ·rw[if_pos b]at h
  by_cases a:i<n
  ·rw[if_pos a]at h
   have e:i.toNat=j:=aB h
   exact⟨by rw[seqIndex_of b a,e],by omega,by omega,a⟩
  ·rw[if_neg a]at h;cases h
 ·rw[if_neg b]at h
  by_cases a:-(n:Int)<=i
  ·rw[if_pos a]at h
   have e:(i+n).toNat=j:=aB h
   exact⟨by rw[seqIndex_neg (by omega) a,e],by omega,a,by omega⟩
  ·rw[if_neg a]at h;cases h
theorem zDF {α:Type}{xs:List α}{i:Int}{v:α}(h:g6 xs i=some v):∃j,seqIndex? i xs.length=some j/\xs[j]?=some v/\j<xs.length/\-(xs.length:Int)<=i/\i<xs.length:=by
 unfold g6 at h
 cases e:ixN xs.length i with
 |none=>rw[e]at h;cases h
 |some j=>
  rw[e]at h
  obtain⟨a,b,c,d⟩:=zMD e
  exact⟨j,a,h,b,c,d⟩
theorem zBZ {α:Type}{xs:List α}{j:Nat}{v:α}(h:xs[j]?=some v):g6 xs (j:Int)=some v:=by
 have a:j<xs.length:=(ah.mp h).1
 have e:ixN xs.length (j:Int)=some j:=by
  unfold ixN
  rw[if_pos (by omega),if_pos (by omega)];simp
 unfold g6;rw[e];exact h
noncomputable def zME (b:bS):Prop:=∀o i,subscripted b false o i=operate [o,i] (getItem o i)
noncomputable def IxR (X:Cx)(r:R2):Prop :=
 ∀(value slice:bS) (pins:List (ak×Obj)) (s:au) (σ:St) (H:Hp) (x y:V) (v u:aj) (Q:VK),Inv X pins σ H s->zX x v->zX y u->r x y H Q->
  subscripted slice false v u=operate [v,u] (getItem v u)->wpAny (model X.prog X.w) X.A (subscriptTail value slice v u) (EP X pins σ Q) X.xe s
noncomputable def MtR (X:Cx)(id:String)(r:V->List V->Hp->VK->Prop):Prop :=
 ∀(pins:List (ak×Obj)) (s:au) (σ:St) (H:Hp) (x:V) (xs:List V) (v:aj) (us:List aj) (Q:VK),Inv X pins σ H s->zX x v->zU xs us->r x xs H Q->
  wpAny (model X.prog X.w) X.A (call (.builtin id) (v::us)) (EP X pins σ Q) X.xe s
section
variable{X:Cx}{a b:bS}{ta tb:TE}{pos:Pos}
theorem yA {r:R2}(d:IxR X r)(ha:PE X a ta)(hb:PE X b tb)(e:zME b):PE X (.Subscript a b pos) (tOp r ta tb):=by
 intro c s σ H Q I h
 exact lr (zDA ha hb I h fun v u f x y g i j l q=>d a b c f σ g x y v u Q i j l q (e _ _))
noncomputable def zMF (K:ag):R2:=fun x y H Q=>∃p xs i v,x=.ref p/\y=.int i/\yG K H p xs/\g6 xs i=some v/\Q v H
noncomputable def zGM (K:ag):R2:=fun x y H Q=>∃p xs i v,x=.ref p/\y=.int i/\z7 K H p xs/\g6 xs i=some v/\Q v H
noncomputable def zMG:R2:=fun x y H Q=>∃z i c,x=.str z/\y=.int i/\z.length<=sizeLine/\g6 z.cps.toList i=some c/\Q (.str ⟨#[c]⟩) H
theorem zBy:IxR X (zMF X.K):=by
 intro value slice c s σ H x y v u Q I n o h g
 obtain⟨p,xs,i,z,rfl,rfl,A,B,q⟩:=h
 cases n
 obtain⟨t,rfl⟩:=o
 obtain⟨its,r,pl,hz⟩:=I.list A
 obtain⟨j,d,C,F,D,E⟩:=zDF B
 obtain⟨w,l,e⟩:=r.get C
 have hl:=r.length
 have G:=zBX
 have fin:EP X c σ Q w s:=⟨z,H,I,e,q⟩
 by_cases m:0<=i
 ·have f:i.toNat=j:=by
   rw[seqIndex_of m E]at d
   exact aB d
  exact item_listR pl.isList m (by omega) (by rw[f];simpa using l) fin g
 ·have f:(i+(its.toArray.size:Int)).toNat=j:=by
   rw[seqIndex_neg (by omega) D]at d
   rw[aP,<-hl]
   exact aB d
  exact fW (x:=w) pl.isList.typeIs oM.lookup
   (wpAny_getItem_list_neg (Q:=fun r s'=>r=w/\EP X c σ Q r s') pl.isList (by omega) (by rw[aP]<;>omega) (by omega) (by rw[f];simpa using l) ⟨rfl,fin⟩) g
theorem yH:IxR X (zGM X.K):=by
 intro value slice c s σ H x y v u Q I e f h g
 obtain⟨p,xs,i,z,rfl,rfl,l,m,q⟩:=h
 cases e
 obtain⟨t,rfl⟩:=f
 obtain⟨its,r,pl,hz⟩:=I.tuple l
 obtain⟨j,n,o,B,C,D⟩:=zDF m
 obtain⟨w,A,d⟩:=r.get o
 have hl:=r.length
 have E:=zBX
 have fin:EP X c σ Q w s:=⟨z,H,I,d,q⟩
 exact fW (x:=w) pl.typeIs lu.lookup
  (n5 (j:=j) (Q:=fun r s'=>r=w/\EP X c σ Q r s') pl (by omega) (by omega) (by rw[aP,<-hl];exact n) (by simpa using A) ⟨rfl,fin⟩) g
theorem zMH:IxR X zMG:=by
 intro value slice d s σ H x y v u Q I f g h l
 obtain⟨z,i,c,rfl,rfl,hz,m,q⟩:=h
 obtain⟨t,rfl⟩:=f
 obtain⟨t',rfl⟩:=g
 obtain⟨j,e,n,w,o,p⟩:=zDF m
 have hl:z.cps.toList.length=z.length:=by simp[qt]
 rw[hl]at e o p
 have A:=zBX
 exact tZ (typeIs_str s z t) slot_str_getitem.lookup (getItem_str (c:=c) (by
  have e1:decide (i< -(2^63:Int))=false:=decide_eq_false (by omega)
  have r:decide (i>=2^63)=false:=decide_eq_false (by omega)
  rw[e1,r,Bool.or_false]) (by rw[e];simpa using n) ⟨.str ⟨#[c]⟩,H,I.tok _,⟨_,rfl⟩,q⟩) l
theorem Inv.lst {c:List (ak×Obj)}{σ:St}{H:Hp}{s:au}{p:ak}{xs:List V}(I:Inv X c σ H s)(h:H p=some (.lst xs)) :
  ∃(its:List aj) (n:Nat),zU xs its/\s.heap.get? p=some {cls:=.type "list",data:=.seq its.toArray n}/\xs.length<=sizeLine:=by
 obtain⟨z,its,n,r,e⟩:=I.hok p _ h
 exact⟨its,n,r,e,z⟩
theorem zMI (lo hi:Option Int)(n:Nat):(sliceBounds lo hi none n).1=((HT.sIx n 0 lo:Nat):Int)/\(sliceBounds lo hi none n).2.1=((HT.sIx n n hi:Nat):Int)/\(sliceBounds lo hi none n).2.2=1:=by
 refine⟨?_,?_,rfl⟩
 ·cases lo with
  |none=>simp[sliceBounds,HT.sIx]
  |some i=>
   simp only[sliceBounds,HT.sIx,pF,show(1:Int)>0 by decide,if_true]
   by_cases h:i<0
   ·simp only[h,if_true]<;>omega
   ·simp only[h,if_false]<;>omega
 ·cases hi with
  |none=>simp[sliceBounds,HT.sIx]
  |some i=>
   simp only[sliceBounds,HT.sIx,pF,show(1:Int)>0 by decide,if_true]
   by_cases h:i<0
   ·simp only[h,if_true]<;>omega
   ·simp only[h,if_false]<;>omega
theorem zMJ (its:List aj)(lo hi:Option Int):slicePick its.toArray lo hi none=((its.drop (HT.sIx its.length 0 lo)).take (HT.sIx its.length its.length hi-HT.sIx its.length 0 lo)).toArray:=by
 obtain⟨c,d,e⟩:=zMI lo hi its.toArray.size
 unfold slicePick
 rw[c,d,e]
 simp only[sliceRange_one,pick_run,aP]<;>rfl
noncomputable def zMK (K:ag):V->Option Int->Option Int->Hp->VK->Prop:=fun x lo hi H Q=>∃a xs,x=.ref a/\yG K H a xs/\∀p,H p=none->Q (.ref p) (upd H p (.lst (uB xs lo hi)))
theorem zML:SlR X (zMK X.K):=by
 intro d s σ H x v l m lo hi n Q I f g pl i h
 obtain⟨a,xs,rfl,j,q⟩:=h
 cases f
 obtain⟨its,r,e,hz⟩:=I.list j
 have c:=r.length
 refine⟨"list",_,oM.lookup,e.isList.typeIs,?_⟩
 refine wpAny_getItem_list_slice e.isList g pl i .none (by simp) ?_ (by rw[aP]<;>omega)
 rw[zMJ,<-c]
 refine⟨.ref s.heap.objs.size,_,I.laid (t':=s.toks) (o:=.lst (uB xs lo hi)) (fun b p q=>ae _ q) (aC _) ?_,rfl,q _ (I.hok.fresh (aC _))⟩
 exact⟨bJ (zGK xs lo hi) hz,_,0,(r.drop (HT.sIx xs.length 0 lo)).take (HT.sIx xs.length xs.length hi-HT.sIx xs.length 0 lo),aE _ rfl⟩
noncomputable def kN:V->Bool
 | .non=>true
 | .bl _=>true
 | .int _=>true
 | .str _=>true
 |_=>false
noncomputable def jU:V->V->Bool
 | .non,.non=>true
 | .bl a,.bl b=>a==b
 | .bl a,.int b=>(if a then 1 else 0)==b
 | .int a,.bl b=>a==(if b then 1 else 0)
 | .int a,.int b=>a==b
 | .str a,.str b=>a==b
 |_,_=>false
theorem zMM {A:bX}{s:au}{y x:V}{u v:aj}(d:zX y u)(c:zX x v)(f:kN y=true)(e:kN x=true):vc A s u v (jU y x):=by
 cases y with
 |non=>
  cases d
  cases x with
  |non=>cases c;exact vo _
  |bl b=>cases c;exact ua b
  |int b=>obtain⟨t,rfl⟩:=c;exact uo b t
  |str b=>obtain⟨t,rfl⟩:=c;exact ur b t
  |_=>exact absurd (show false=true from e) bg
 |bl a=>
  cases d
  cases x with
  |non=>cases c;exact ub a
  |bl b=>cases c;exact ny a b
  |int b=>obtain⟨t,rfl⟩:=c;exact uu a b t
  |str b=>obtain⟨t,rfl⟩:=c;exact nQ a b t
  |_=>exact absurd (show false=true from e) bg
 |int a=>
  obtain⟨t',rfl⟩:=d
  cases x with
  |non=>cases c;exact uv a t'
  |bl b=>cases c;exact uw a t' b
  |int b=>obtain⟨t,rfl⟩:=c;exact oq a t' b t
  |str b=>obtain⟨t,rfl⟩:=c;exact og a t' b t
  |_=>exact absurd (show false=true from e) bg
 |str a=>
  obtain⟨t',rfl⟩:=d
  cases x with
  |non=>cases c;exact ux a t'
  |bl b=>cases c;exact nP a t' b
  |int b=>obtain⟨t,rfl⟩:=c;exact oh a t' b t
  |str b=>obtain⟨t,rfl⟩:=c;exact ot a t' b t
  |_=>exact absurd (show false=true from e) bg
 |_=>exact absurd (show false=true from f) bg
noncomputable def qK (x:V)(u:aj):Bool:=match u with
 | .none=>jU .non x
 | .bool b=>jU (.bl b) x
 | .int i _=>jU (.int i) x
 | .str z _=>jU (.str z) x
 |_=>false
theorem zGN {x y:V}{u:aj}(r:zX y u)(f:kN y=true):qK x u=jU y x:=by
 cases y with
 |non=>cases r;rfl
 |bl b=>cases r;rfl
 |int i=>obtain⟨t,rfl⟩:=r;rfl
 |str z=>obtain⟨t,rfl⟩:=r;rfl
 |_=>exact absurd (show false=true from f) bg
theorem zBa {x:V}:∀{xs:List V}{c:List aj},zU xs c->xs.all kN=true->c.any (qK x)=xs.any fun y=>jU y x
 |_,_,.nil,_=>rfl
 |y::xs,u::c,.cons r t,f=>by
  rw[n6,bj]at f
  rw[fF,fF,zGN r f.1,zBa t f.2]
theorem zBb {A:bX}{s:au}{x:V}{v:aj}(e:zX x v)(g:kN x=true):∀{xs:List V}{d:List aj},zU xs d->xs.all kN=true->∀u∈d,vc A s u v (qK x u)
 |_,_,.nil,_=>fun u c=>by cases c
 |y::xs,u::d,.cons r t,f=>fun h c=>by
  rw[n6,bj]at f
  rcases aL.mp c with rfl|c
  ·rw[zGN r f.1];exact zMM r e f.1 g
  ·exact zBb e g t f.2 h c
noncomputable def qZ (x:V)(xs:List V):Bool:=xs.any fun y=>jU y x
noncomputable def rIn (K:ag)(neg:Bool):R2:=fun x y H Q=>∃p xs,y=.ref p/\(yG K H p xs\/z7 K H p xs)/\kN x=true/\xs.all kN=true/\Q (.bl (if neg then !qZ x xs else qZ x xs)) H
theorem zGO:yO X (compareOp .In) (rIn X.K false):=by
 intro e s σ H x y v u Q I f i h
 obtain⟨p,xs,rfl,c,g,fs,q⟩:=h
 cases i
 rcases c with c|c
 ·obtain⟨its,r,pl,hz⟩:=I.list c
  refine SeqAt.in_listAt (qK x) pl.isList (fun w d=>zBb f g r fs w (by simpa using d)) ⟨.bl _,H,I,rfl,?_⟩
  rw[show its.toArray.any (qK x)=its.any (qK x) by simp,zBa r fs]
  exact q
 ·obtain⟨its,r,pl,hz⟩:=I.tuple c
  refine SeqAt.in_tupleAt (qK x) pl (fun w d=>zBb f g r fs w (by simpa using d)) ⟨.bl _,H,I,rfl,?_⟩
  rw[show its.toArray.any (qK x)=its.any (qK x) by simp,zBa r fs]
  exact q
theorem zGP:yO X (compareOp .NotIn) (rIn X.K true):=by
 intro e s σ H x y v u Q I f i h
 obtain⟨p,xs,rfl,c,g,fs,q⟩:=h
 cases i
 rcases c with c|c
 ·obtain⟨its,r,pl,hz⟩:=I.list c
  refine SeqAt.notIn_listAt (qK x) pl.isList (fun w d=>zBb f g r fs w (by simpa using d)) ⟨.bl _,H,I,rfl,?_⟩
  rw[show its.toArray.any (qK x)=its.any (qK x) by simp,zBa r fs]
  exact q
 ·obtain⟨its,r,pl,hz⟩:=I.tuple c
  refine SeqAt.notIn_tupleAt (qK x) pl (fun w d=>zBb f g r fs w (by simpa using d)) ⟨.bl _,H,I,rfl,?_⟩
  rw[show its.toArray.any (qK x)=its.any (qK x) by simp,zBa r fs]
  exact q
theorem zAs:qJ X (.builtin "len") (fun xs H Q=>∃p ys,xs=[.ref p]/\(yG X.K H p ys\/z7 X.K H p ys)/\Q (.int ys.length) H):=by
 intro f s σ H xs i Q I r h
 obtain⟨p,ys,rfl,d,q⟩:=h
 obtain⟨u,rfl,g⟩:=qC r
 cases g
 have j:=zBX
 rcases d with d|d
 ·obtain⟨its,e,pl,hz⟩:=I.list d
  have c:=e.length
  exact Calls.call_len_list pl.isList (by simp only[aP]<;>omega) ⟨.int ys.length,H,I.tok _,⟨s.toks+1,by rw[aP,c]⟩,q⟩
 ·obtain⟨its,e,pl,hz⟩:=I.tuple d
  have c:=e.length
  exact len_tuple pl (by simp only[aP]<;>omega) ⟨.int ys.length,H,I.tok _,⟨s.toks+1,by rw[aP,c]⟩,q⟩
theorem kO:qJ X (.builtin "len") (fun xs H Q=>∃z,xs=[.str z]/\z.length<=sizeLine/\Q (.int z.length) H):=by
 intro c s σ H xs d Q I r h
 obtain⟨z,rfl,hz,q⟩:=h
 obtain⟨u,rfl,t,rfl⟩:=qC r
 have e:=zBX
 exact len_str (by omega) ⟨.int z.length,H,I.tok _,⟨_,rfl⟩,q⟩
theorem zMN:qJ X (.type "list") (fun xs H Q=>∃p ys,xs=[.ref p]/\(yG X.K H p ys\/z7 X.K H p ys)/\∀l,H l=none->Q (.ref l) (upd H l (.lst ys))):=by
 intro f s σ H xs x Q I r h
 obtain⟨p,ys,rfl,g,q⟩:=h
 obtain⟨u,rfl,v⟩:=qC r
 cases v
 have fin:∀(its:List aj),zU ys its->ys.length<=sizeLine->∀(h':bF) (c:Nat),(∀b t,s.heap.get? b=some t->h'.get? b=some t)->
   h'.get? s.heap.objs.size=some {cls:=.type "list",dict:=none,data:=.seq its.toArray c,slots:=#[]}->EP X f σ Q (.ref s.heap.objs.size) {s with heap:=h'}:=fun its d hz h' c kp e=>
  ⟨.ref s.heap.objs.size,_,I.laid (t':=s.toks) kp (aC _) (show yV X.prog X.w _ h' _ (.lst ys)from⟨hz,its,c,d,e⟩),rfl,q _ (I.hok.fresh (aC _))⟩
 rcases g with g|g
 ·obtain⟨its,d,pl,hz⟩:=I.list g
  have i:=d.length
  obtain⟨o,j,m,n,hd⟩:=pl.isList
  exact si p (.inl rfl) j m hd (fun h' c kp e=>fin its d hz h' c kp e) (by simp only[aP]<;>omega)
 ·obtain⟨its,d,pl,hz⟩:=I.tuple g
  have i:=d.length
  obtain⟨o,j,m,n,hd⟩:=pl
  exact si p (.inr rfl) j m hd (fun h' c kp e=>fin its d hz h' c kp e) (by simp only[aP]<;>omega)
theorem zMO:qJ X (.type "tuple") (fun xs H Q=>∃p ys,xs=[.ref p]/\((yG X.K H p ys/\∀l,H l=none->Q (.ref l) (upd H l (.tup ys)))\/(z7 X.K H p ys/\Q (.ref p) H))):=by
 intro c s σ H xs n Q I r h
 obtain⟨p,ys,rfl,h⟩:=h
 obtain⟨u,rfl,j⟩:=qC r
 cases j
 rcases h with⟨d,q⟩|⟨d,q⟩
 ·obtain⟨its,f,pl,hz⟩:=I.list d
  have g:=f.length
  refine call_tuple_list pl.isList (fun h' kp=>?_) (by simp only[aP]<;>omega)
  have i:Inv X c σ H {s with heap:=h'}:=I.kept (t':=s.toks) kp
  have m:Inv X c σ (upd H h'.objs.size (.tup ys)) {s with heap:=h'.push {cls:=.type "tuple",data:=.seq its.toArray}} :=
   i.laid (t':=s.toks) (fun b o e=>ae _ e) (aC _) (show yV X.prog X.w _ _ _ (.tup ys)from⟨hz,its,f,sU _ _⟩)
  exact⟨.ref h'.objs.size,_,m,rfl,q _ (i.hok.fresh (aC _))⟩
 ·obtain⟨its,f,pl,hz⟩:=I.tuple d
  exact call_tuple_same pl ⟨.ref p,H,I,rfl,q⟩
noncomputable def tyV (K:ag)(T:String)(x:V)(H:Hp):Prop:=match x with
 | .str _=>T="str"
 | .int _=>T="int"
 | .ref p=>(T="list"/\ ∃xs,yG K H p xs)\/(T="tuple"/\ ∃o,K.lookup p=some o/\o.cls=.type "tuple"/\o.dict=none)\/
   (T="dict"/\ ((∃kvs,H p=some (.dK kvs))\/∃kvs,H p=some (.dT kvs)))\/(T="set"/\ ∃S n,H p=some (.set S n))
 |_=>False
theorem zGQ {f:List (ak×Obj)}{σ:St}{H:Hp}{s:au}{T:String}{x:V}{v:aj}(I:Inv X f σ H s)(r:zX x v)(ty:tyV X.K T x H) :
  s.TypeIs v T/\∀a,v=.ref a->∃h,s.heap.get? a=some h/\h.dict=none:=by
 cases x with
 |str z=>
  obtain⟨t,rfl⟩:=r
  cases(show T="str"from ty)
  exact⟨typeIs_str s z t,fun _ e=>nomatch e⟩
 |int i=>
  obtain⟨t,rfl⟩:=r
  cases(show T="int"from ty)
  exact⟨qu s i t,fun _ e=>nomatch e⟩
 |ref p=>
  cases r
  rcases ty with⟨rfl,xs,j⟩|⟨rfl,o,d,l,hd⟩|⟨rfl,d⟩|⟨rfl,S,n,d⟩
  ·obtain⟨its,_,pl,_⟩:=I.list j
   refine⟨pl.isList.typeIs,fun a e=>?_⟩
   cases e
   obtain⟨o,n,e,c,hd,_⟩:=pl
   exact⟨o,e,hd⟩
  ·refine⟨⟨o,I.kIn p o d,l⟩,fun a e=>?_⟩
   cases e
   exact⟨o,I.kIn _ o d,hd⟩
  ·have z:∃o,s.heap.get? p=some o/\o.ExactDict:=by
    rcases d with⟨kvs,d⟩|⟨kvs,d⟩
    ·obtain⟨_,_,_,_,o,_,_,e,ex,_⟩:=I.hok p _ d
     exact⟨o,e,ex⟩
    ·obtain⟨_,_,_,_,o,_,_,e,ex,_⟩:=I.hok p _ d
     exact⟨o,e,ex⟩
   obtain⟨o,e,ex⟩:=z
   refine⟨⟨o,e,ex.1⟩,fun a g=>?_⟩
   cases g
   exact⟨o,e,ex.2.1⟩
  ·obtain⟨o,_,_,_,e,ex,_⟩:=I.hok p _ d
   refine⟨⟨o,e,ex.1⟩,fun a g=>?_⟩
   cases g
   exact⟨o,e,ex.2.1⟩
 |_=>exact fD ty
noncomputable def zGR (K:ag)(T:String)(r:V->List V->Hp->VK->Prop)(to:TE):TE:=fun σ H Q=>to σ H fun x H1=>tyV K T x H1/\r x [] H1 Q
noncomputable def tBM (K:ag)(T:String)(r:V->List V->Hp->VK->Prop)(to:TE)(t:TA):TE:=fun σ H Q=>to σ H fun x H1=>tyV K T x H1/\t σ H1 fun xs H2=>r x xs H2 Q
variable{o e:bS}{es:List bS}{to:TE}{t:TA}{name:Str}{apos cpos:Pos}{T id:String}{r:V->List V->Hp->VK->Prop}
theorem zMP (l:qv T)(slot:Slot T name id)(g:typeOf (.builtin id)=pure (.type "method_descriptor"))(m:MtR X id r)(n:PE X o to)
  (d:attributeBase o name X.env (eval o X.env)=eval o X.env:=by rfl) (f:(apos.endLine==cpos.line)=true:=by rfl):PE X (.Call (.Attribute o name apos) [] [] cpos) (zGR X.K T r to):=by
 intro c s σ H Q I h
 refine mq d f (zM (n c s σ H _ I h) fun v p zq=>?_)
 obtain⟨x,q,i,j,ty,u⟩:=zq
 obtain⟨w,y⟩:=zGQ i j ty
 exact⟨T,id,l,slot,g,w,y,fX rfl (nT (m c p σ q x [] v [] Q i j .nil u))⟩
theorem jM (p:qv T)(slot:Slot T name id)(j:typeOf (.builtin id)=pure (.type "method_descriptor"))(q:MtR X id r)(u:PE X o to)(ha:PA X (e::es) t)
  (f:attributeBase o name X.env (eval o X.env)=eval o X.env:=by rfl)
  (i:((backTo cpos (starEach (e::es) X.env)).all (fun x=>!x.1)&& (backToKw cpos (keywordEach [] X.env)).all (fun x=>x.1.isSome)
   &&decide ((e::es).length+([]:List qj).length+(if([]:List qj).isEmpty then 0 else 1)<30))=true:=by rfl)
  (g:(apos.endLine==cpos.line)=true:=by rfl) (w:starEach (e::es) X.env=(false,eval e X.env)::starEach es X.env:=by rfl) (d:(backTo cpos (starEach es X.env)).any (·.1)=false:=by rfl) :
  PE X (.Call (.Attribute o name apos) (e::es) [] cpos) (tBM X.K T r to t):=by
 intro c s σ H Q I h
 refine wpAny_Call_method_late f i g rfl (zM (u c s σ H _ I h) fun v y zq=>?_)
 obtain⟨x,z,l,m,ty,A⟩:=zq
 obtain⟨B,C⟩:=zGQ l m ty
 refine⟨T,id,p,slot,j,B,C,?_⟩
 have n:=ha cpos c y σ z _ l A
 rw[w]at n⊢
 refine fX (by show(false||(backTo cpos (starEach es X.env)).any (·.1))=false;rw[d]<;>rfl) (nB ?_)
 exact zM n fun D E ⟨vs,F,G,J,L⟩=>q c E σ F x vs v D Q G m J L
end
noncomputable def MtM (X:Cx)(id:String)(r:V->List V->Hp->VK->Prop):Prop :=
 ∀(pins:List (ak×Obj)) (s:au) (σ:St) (H:Hp) (x:V) (xs:List V) (v:aj) (us:List aj) (Q:VK),Inv X pins σ H s->zX x v->zU xs us->r x xs H Q->
  wpAny (model X.prog X.w) X.A (call (.builtin id) (v::us)) (EP X pins σ Q) X.xe s
theorem zU.one:∀{x:V}{a:List aj},zU [x] a->∃u,a=[u]/\zX x u:=fun h=>by
 cases h with
 | cons r t=>cases t;exact⟨_,rfl,r⟩
theorem zU.zero:∀{a:List aj},zU [] a->a=[]
 |_,.nil=>rfl
theorem zU.dropLast {xs:List V}{a:List aj}(h:zU xs a):zU xs.dropLast a.dropLast:=by
 induction h with
 |nil=>exact .nil
 |cons r t ih=>
  cases t with
  |nil=>exact .nil
  |cons q t'=>exact .cons r ih
theorem zU.eraseIdx:∀{xs:List V}{a:List aj} (i:Nat),zU xs a->zU (xs.eraseIdx i) (a.eraseIdx i)
 |_,_,_,.nil=>.nil
 |_,_,0,.cons _ t=>t
 |_,_,i+1,.cons r t=>.cons r (zU.eraseIdx i t)
theorem zU.reverse {xs:List V}{a:List aj}(h:zU xs a):zU xs.reverse a.reverse:=by
 induction h with
 |nil=>exact .nil
 |cons r t ih=>rw[oN,oN];exact zU.append ih (.cons r .nil)
theorem zU.rep {xs:List V}{a:List aj}(h:zU xs a):∀k:Nat,zU (aH k xs).flatten (aH k a).flatten
 |0=>.nil
 |k+1=>by
  rw[cz,cz,fA,fA]
  exact zU.append h (zU.rep h k)
theorem zGS (its:List aj):∀(k:Nat) (a:List aj),
  qw (fun b c=>b++c) a.toArray (aH k its.toArray)=(a++(aH k its).flatten).toArray
 |0,a=>by simp
 |k+1,a=>by
  have e:a.toArray++its.toArray=(a++its).toArray:=by simp
  have d:(a++its)++(aH k its).flatten=a++(aH (k+1) its).flatten:=by
   rw[cz,fA,dO]
  rw[<-d,<-zGS its k (a++its),<-e,cz,cC]
section
variable{X:Cx}{pins:List (ak×Obj)}{σ:St}{H:Hp}{s:au}{l b:ak}{xs ys zs:List V}
theorem Inv.lset {its its':List aj}{n:Nat}{f:Array aj->Array aj}{t':Nat}(I:Inv X pins σ H s)(a:H l=some (.lst xs))
  (e:s.heap.get? l=some {cls:=.type "list",data:=.seq its.toArray n}) (hf:f its.toArray=its'.toArray) (hv:zU ys its') (hz:ys.length<=sizeLine) :
  Inv X pins σ (upd H l (.lst ys)) {s with heap:=s.heap.update l (bP f),toks:=t'}:=by
 have q:=mr e f
 rw[hf]at q
 refine I.write (x:=l) (e:=l) (by rw[a];exact trivial) (.inl rfl) (fun d u hb c=>(bC s.heap (bP f) (eN hb)).trans c) ⟨_,q⟩ ?_
 exact⟨hz,its',_,hv,q⟩
theorem Inv.lnew {its:List aj}{t':Nat}(I:Inv X pins σ H s)(hv:zU ys its)(hz:ys.length<=sizeLine) :
  Inv X pins σ (upd H s.heap.objs.size (.lst ys)) {s with heap:=s.heap.push {cls:=.type "list",data:=.seq its.toArray},toks:=t'} :=
 I.laid (fun _ _ q=>ae _ q) (aC _) ⟨hz,its,0,hv,aE _ rfl⟩
theorem Inv.fresh (I:Inv X pins σ H s):H s.heap.objs.size=none:=I.hok.fresh (aC _)
theorem Inv.lstM (I:Inv X pins σ H s)(a:H l=some (.lst xs)):xs.length<=sizeLine/\∃(its:List aj) (n:Nat),zU xs its/\xs.length=its.length/\s.heap.get? l=some {cls:=.type "list",data:=.seq its.toArray n}:=by
 obtain⟨z,its,n,r,e⟩:=I.hok l _ a
 exact⟨z,its,n,r,r.length,e⟩
theorem zGT {n:Nat}(h:n<=sizeLine):fG n=false:=by
 unfold fG
 exact decide_eq_false (by omega)
end
section
variable{X:Cx}
noncomputable def zMQ:V->List V->Hp->VK->Prop:=fun x vs H Q=>∃l xs y,x=.ref l/\vs=[y]/\H l=some (.lst xs)/\xs.length<sizeLine/\Q .non (upd H l (.lst (xs++[y])))
theorem zBz:MtM X "list.append" zMQ:=by
 intro a s σ H x vs v g Q I c d h
 obtain⟨l,xs,y,rfl,rfl,b,hz,q⟩:=h
 cases c
 obtain⟨u,rfl,f⟩:=d.one
 obtain⟨z,its,n,r,hl,e⟩:=I.lstM b
 refine jh lx ⟨_,e,rfl⟩ kf (jn _ _) (lP l its.toArray n u (by rw[aP];omega)) ⟨e,?_⟩
 refine⟨.non,_,I.lset (its':=its++[u]) b e (by simp) (r.append (.cons f .nil)) ?_,rfl,q⟩
 rw[ay,bR]
 omega
noncomputable def zMR:V->List V->Hp->VK->Prop:=fun x vs H Q=>∃l b xs zs,x=.ref l/\vs=[.ref b]/\H l=some (.lst xs)/\H b=some (.lst zs)/\xs.length+zs.length<=sizeLine/\Q .non (upd H l (.lst (xs++zs)))
theorem zCA:MtM X "list.extend" zMR:=by
 intro d s σ H x vs v w Q I g i h
 obtain⟨l,b,xs,y,rfl,rfl,f,j,hz,q⟩:=h
 cases g
 obtain⟨u,rfl,m⟩:=i.one
 cases m
 obtain⟨z,its,n,r,hl,e⟩:=I.lstM f
 obtain⟨A,a,o,p,hl2,t⟩:=I.lstM j
 have hsz:its.toArray.size+a.toArray.size<=sizeLine:=by rw[aP,aP];omega
 have c:¬(!its.toArray.isEmpty&&fG (its.toArray.size+a.toArray.size))=true:=by
  rw[zGT hsz,nC]
  exact bg
 refine jh F.slot_list_extend ⟨_,e,rfl⟩ F.entry_list_extend (F.args_list_extend_2 _ _)
  (AutoSeq1.list_extend_list_list_0 l its.toArray n b a.toArray o c (by rw[aP];omega) (by omega)) ⟨e,t,?_⟩
 refine⟨.non,_,I.lset (its':=its++a) f e (by simp) (r.append p) ?_,rfl,q⟩
 rw[ay]
 omega
noncomputable def zMS:R2:=fun x y H Q=>∃l b xs zs,x=.ref l/\y=.ref b/\H l=some (.lst xs)/\H b=some (.lst zs)/\xs.length+zs.length<=sizeLine/\∀p,H p=none->Q (.ref p) (upd H p (.lst (xs++zs)))
theorem zGU:yO X (binaryOp .Add) zMS:=by
 intro c s σ H x y v u Q I d f h
 obtain⟨l,b,xs,p,rfl,rfl,g,i,hz,q⟩:=h
 cases d
 cases f
 obtain⟨z,its,n,r,hl,e⟩:=I.lstM g
 obtain⟨t,a,w,j,hl2,m⟩:=I.lstM i
 refine PySem.P.add_list e m ?_ (by rw[aP,aP];omega)
 have o:its.toArray++a.toArray=(its++a).toArray:=by simp
 rw[o]
 exact⟨.ref _,_,I.lnew (t':=s.toks) (r.append j) (by rw[ay];omega),rfl,q _ I.fresh⟩
noncomputable def zMT:R2:=fun x y H Q=>∃l k xs,x=.ref l/\y=.int k/\H l=some (.lst xs)/\-(2^63)<=k/\k<2^63/\xs.length*k.toNat<=sizeLine/\
 ∀p,H p=none->Q (.ref p) (upd H p (.lst (aH k.toNat xs).flatten))
theorem zMU {α:Type}(xs:List α)(k:Nat):(aH k xs).flatten.length=k*xs.length:=by
 induction k with
 |zero=>simp
 |succ k ih=>rw[cz,fA,ay,ih,iS,Nat.add_comm]
theorem zGV:yO X (binaryOp .Mult) zMT:=by
 intro o s σ H x y v u Q I p w h
 obtain⟨l,k,xs,rfl,rfl,A,B,C,hz,q⟩:=h
 cases p
 obtain⟨t,rfl⟩:=w
 obtain⟨z,its,n,r,hl,e⟩:=I.lstM A
 have c:its.toArray.size*k.toNat<=sizeLine:=by rw[aP,<-hl];exact hz
 have d:¬its.toArray.size*k.toNat> (2^63-1)/8:=by
  have:(sizeLine:Nat)<=(2^63-1)/8:=by decide
  omega
 have f:¬(!Builtin.List.listFitsIndex k)=true:=by
  rw[fitsIndex_both B C]
  exact bg
 have b:¬fG (its.toArray.size*k.toNat)=true:=by
  rw[zGT c]
  exact bg
 have g:qw (fun i j=>i++j) #[] (aH (if its.toArray.isEmpty=true then 0 else k.toNat) its.toArray)=(aH k.toNat its).flatten.toArray:=by
  have D:∀m:Nat,qw (fun i j=>i++j) #[] (aH m its.toArray)=(aH m its).flatten.toArray:=fun m=>by
   have:=zGS its m []
   rw[iF]at this
   exact this
  rw[D]
  cases its with
  |nil=>simp
  |cons a E=>rw[if_neg (by simp)]
 refine wpAny_binaryOp_repeat_ref (T :="list") (U :="int") (by decide) ⟨_,e,rfl⟩ (fun s'=>qu s' k t) noFill_list_mul F.fills_int_mul pV repeat_list F.slot_int_index.lookup
  (jh pV (qu s k t) F.entry_int_rmul (F.args_int_rmul_2 _ _) (int___rmul___int_list k t l its.toArray n)
   ⟨e,rfl,⟨_,e,rfl⟩,jh F.slot_list_mul ⟨_,e,rfl⟩ F.entry_list_mul (F.args_list_mul_2 _ _) (oz l its.toArray n k t f d b) ⟨e,?_⟩⟩)
 rw[g]
 exact⟨.ref _,_,I.lnew (t':=s.toks) (r.rep k.toNat) (by rw[zMU,sZ];exact hz),rfl,q _ I.fresh⟩
end
section
variable{κ:Type} [DecidableEq κ]
noncomputable def vR (kvs:List (κ×V))(k:κ):Option V:=(kvs.find? fun kv=>decide (kv.1=k)).map (·.2)
noncomputable def uK (kvs:List (κ×V))(k:κ)(v:V):List (κ×V) :=
 if(kvs.any fun kv=>decide (kv.1=k))=true then kvs.map (fun kv=>if kv.1=k then(kv.1,v)else kv)else kvs++[(k,v)]
theorem zCB {p:κ×V}{r:List (κ×V)}{k:κ}(e:p.1=k):vR (p::r) k=some p.2:=by simp[vR,gd,e]
theorem zCC {p:κ×V}{r:List (κ×V)}{k:κ}(e:¬p.1=k):vR (p::r) k=vR r k:=by simp[vR,gd,e]
theorem zGW (k:κ):∀kvs:List (κ×V),(kvs.any fun a=>decide (a.1=k))=(vR kvs k).isSome
 | []=>rfl
 |p::r=>by
  rw[fF]
  by_cases e:p.1=k
  ·simp only[zCB e,decide_eq_true e,tj,Option.isSome_some]
  ·rw[zCC e,decide_eq_false e,lY];exact zGW k r
theorem zDG (kvs:List (κ×V))(k:κ)(v:V):(uK kvs k v).length<=kvs.length+1:=by
 unfold uK
 split
 ·rw[ai];omega
 ·rw[ay,aM,pW];omega
theorem jI.isSome_eq {o:Option V}{u:Option aj}(r:jI o u):o.isSome=u.isSome:=by
 cases o with
 |none=>cases u with
  |none=>rfl
  |some _=>exact(show False from r).elim
 |some _=>cases u with
  |none=>exact(show False from r).elim
  |some _=>rfl
theorem jI.getD {o:Option V}{u:Option aj}{d:V}{d':aj}(r:jI o u)(rd:zX d d'):zX (o.getD d) (u.getD d'):=by
 cases o with
 |none=>cases u with
  |none=>exact rd
  |some _=>exact(show False from r).elim
 |some _=>cases u with
  |none=>exact(show False from r).elim
  |some _=>exact r
theorem KV.val {kvs:List (κ×V)}{vs:List (κ×aj)}(r:KV kvs vs)(k:κ):jI (vR kvs k) (valueAt vs k):=by
 unfold KV at r
 induction r with
 |nil=>exact True.intro
 | @cons p q ps a h t ih=>
  obtain⟨d,f⟩:=h
  by_cases e:p.1=k
  ·have c:q.1=k:=d.symm.trans e
   have b:valueAt (q::a) k=some q.2:=by simp[valueAt,gd,c]
   rw[zCB e,b];exact f
  ·have c:¬q.1=k:=fun z=>e (d.trans z)
   have b:valueAt (q::a) k=valueAt a k:=by simp[valueAt,gd,c]
   rw[zCC e,b];exact ih
theorem KV.any {kvs:List (κ×V)}{vs:List (κ×aj)}(r:KV kvs vs)(k:κ):(kvs.any fun a=>decide (a.1=k))=vs.any fun a=>decide (a.1=k):=by
 unfold KV at r
 induction r with
 |nil=>rfl
 |cons h t ih=>rw[fF,fF,ih,h.1]
theorem KV.repl {kvs:List (κ×V)}{vs:List (κ×aj)}(r:KV kvs vs)(k:κ){y:V}{u:aj}(c:zX y u) :
  KV (kvs.map fun a=>if a.1=k then(a.1,y)else a) (vs.map fun a=>if a.1=k then(a.1,u)else a):=by
 unfold KV at r⊢
 induction r with
 |nil=>exact .nil
 | @cons p q ps f h t ih=>
  rw[aD,aD]
  refine .cons ?_ ih
  obtain⟨b,d⟩:=h
  by_cases e:p.1=k
  ·rw[if_pos e,if_pos (b.symm.trans e)];exact⟨b,c⟩
  ·rw[if_neg e,if_neg (fun z=>e (b.trans z))];exact⟨b,d⟩
theorem KV.put {kvs:List (κ×V)}{vs:List (κ×aj)}(r:KV kvs vs)(k:κ){y:V}{u:aj}(a:zX y u):KV (uK kvs k y) (stored vs k u):=by
 unfold uK stored
 rw[r.any k]
 by_cases e:(vs.any fun b=>decide (b.1=k))=true
 ·rw[if_pos e,if_pos e];exact r.repl k a
 ·rw[if_neg e,if_neg e];exact uc r ⟨rfl,a⟩
theorem KV.keys {kvs:List (κ×V)}{vs:List (κ×aj)}(r:KV kvs vs):kvs.map (·.1)=vs.map (·.1):=by
 unfold KV at r
 induction r with
 |nil=>rfl
 |cons h t ih=>rw[aD,aD,ih,h.1]
theorem KV.length {kvs:List (κ×V)}{vs:List (κ×aj)}(r:KV kvs vs):kvs.length=vs.length:=dB r
end
theorem zAS {P:aJ}{w:bh}{k:zO}{u:aj}(r:zX (kV k) u):(vP P w).is k u=true:=by
 cases k with
 |inl i=>obtain⟨t,e⟩:=(show∃t,u=Value.int i t from r);subst e;exact zKs P w i t
 |inr x=>obtain⟨t,e⟩:=(show∃t,u=Value.str x t from r);subst e;exact zFg P w x t
theorem zMV {P:aJ}{w:bh}{k:yU}{u:aj}(r:zX (gC k) u):(gX P w).is k u=true:=by
 cases k with
 |inl x=>obtain⟨t,e⟩:=(show∃t,u=Value.str x t from r);subst e;show dU x (.str x t)=true;simp[dU]
 |inr b=>have e:u=Value.bool b:=r;subst e;exact beq_self_eq_true _
theorem zGX {P:aJ}{w:bh}:∀{ks:List yU}{a:List aj},zU (ks.map gC) a->ItemsAre (gX P w) ks a
 | [],_,r=>by rw[kh]at r;cases r;exact .nil
 |k::ks,_,r=>by
  rw[aD]at r
  cases r with
  |cons h t=>exact .cons (zMV h) (zGX t)
noncomputable abbrev KT (H:Hp):List (List yU×V)->List (List yU×ak×aj)->Prop:=oj fun p q=>p.1=q.1/\H q.2.1=some (.tup (p.1.map gC))/\zX p.2 q.2.2
theorem KT.val {H:Hp}{kvs:List (List yU×V)}{xs:List (List yU×ak×aj)}(r:KT H kvs xs)(k:List yU):jI (vR kvs k) ((atKey xs k).map (·.2)):=by
 induction r with
 |nil=>exact True.intro
 | @cons p q ps a h t ih=>
  obtain⟨d,_,f⟩:=h
  by_cases e:p.1=k
  ·have c:q.1=k:=d.symm.trans e
   have b:atKey (q::a) k=some q.2:=by simp[atKey,gd,c]
   rw[zCB e,b];exact f
  ·have c:¬q.1=k:=fun z=>e (d.trans z)
   have b:atKey (q::a) k=atKey a k:=by simp[atKey,gd,c]
   rw[zCC e,b];exact ih
theorem KT.repl {H:Hp}{kvs:List (List yU×V)}{xs:List (List yU×ak×aj)}(r:KT H kvs xs)(k:List yU){y:V}{u:aj}(d:zX y u) :
  KT H (kvs.map fun b=>if b.1=k then(b.1,y)else b) (xs.map (putAt k u)):=by
 induction r with
 |nil=>exact .nil
 | @cons p q ps g h t ih=>
  rw[aD,aD]
  refine .cons ?_ ih
  obtain⟨a,c,f⟩:=h
  unfold putAt
  by_cases e:p.1=k
  ·rw[if_pos e,if_pos (a.symm.trans e)];exact⟨a,c,d⟩
  ·rw[if_neg e,if_neg (fun z=>e (a.trans z))];exact⟨a,c,f⟩
theorem KT.put {H:Hp}{kvs:List (List yU×V)}{xs:List (List yU×ak×aj)}(r:KT H kvs xs)(k:List yU){b:ak}{y:V}{u:aj}(hb:H b=some (.tup (k.map gC)))(a:zX y u) :
  KT H (uK kvs k y) (storedH xs k b u):=by
 have e:(kvs.any fun c=>decide (c.1=k))=(atKey xs k).isSome:=by
  rw[zGW,(r.val k).isSome_eq,lQ]
 unfold uK storedH
 rw[e]
 by_cases q:(atKey xs k).isSome=true
 ·rw[if_pos q,if_pos q];exact r.repl k a
 ·rw[if_neg q,if_neg q];exact uc r ⟨rfl,hb,a⟩
theorem KT.keeps {H a:Hp}{kvs:List (List yU×V)}{xs:List (List yU×ak×aj)}(r:KT H kvs xs)(c:∀b ys,H b=some (.tup ys)->a b=some (.tup ys)):KT a kvs xs :=
 Paired.mapP r fun _ _ z=>⟨z.1,c _ _ z.2.1,z.2.2⟩
section
variable{P:aJ}{w:bh}{H:Hp}{h:bF}{a:ak}
theorem zGY {u:HO}(ok:yI P w H h)(e:Rd H a u):yV P w H h a u:=e.ok ok
theorem qL {kvs:List (zO×V)}(ok:yI P w H h)(e:Rd H a (.dK kvs)):kvs.length<=sizeLine/\(a==sysModules)=false/\∃vs,KV kvs vs/\h.DictOf (vP P w) a vs :=
 show yV P w H h a (.dK kvs)from zGY ok e
theorem gI {kvs:List (zO×V)}(ok:yI P w H h)(e:H a=some (.dK kvs)):kvs.length<=sizeLine/\(a==sysModules)=false/\∃vs,KV kvs vs/\h.DictOf (vP P w) a vs:=qL ok (.inl e)
theorem zAt {ks:List yU}(ok:yI P w H h)(e:H a=some (.tup (ks.map gC))):(tupleKind (gX P w)).is h ks a:=by
 obtain⟨_,its,r,o,b,c,n,d⟩:=(show yV P w H h a (.tup (ks.map gC))from ok a _ e)
 exact⟨o,its.toArray,n,b,c,d,by simpa using zGX r⟩
theorem zAT {kvs:List (List yU×V)}(ok:yI P w H h)(e:Rd H a (.dT kvs)):kvs.length<=sizeLine/\(a==sysModules)=false/\
  ∃xs,KT H kvs xs/\h.DictOfH (tupleKind (gX P w)) a xs:=by
 obtain⟨z,y,xs,r,o,d,ep,f,g,i,j,n⟩:=(show yV P w H h a (.dT kvs)from zGY ok e)
 refine⟨z,y,xs,r,o,d,ep,f,g,i,j,fun x b=>?_,n⟩
 have all:∀{l:List (List yU×V)} {m:List (List yU×ak×aj)},KT H l m->∀x∈m,(tupleKind (gX P w)).is h x.1 x.2.1:=by
  intro l m q
  induction q with
  |nil=>intro x b;exact nomatch b
  | @cons p q ps s c t ih=>
   intro x b
   rcases aL.mp b with e|b
   ·subst e
    exact zAt ok (by rw[<-c.1];exact c.2.1)
   ·exact ih x b
 exact all r x b
theorem zMW {kvs:List (List yU×V)}(ok:yI P w H h)(e:H a=some (.dT kvs)):kvs.length<=sizeLine/\(a==sysModules)=false/\
  ∃xs,KT H kvs xs/\h.DictOfH (tupleKind (gX P w)) a xs:=zAT ok (.inl e)
end
noncomputable def vH (H:Hp)(a:ak)(y:V)(r:Option V):Prop :=
 (∃kvs k,Rd H a (.dK kvs)/\y=kV k/\r=vR kvs k)\/∃kvs k b,Rd H a (.dT kvs)/\y=.ref b/\H b=some (.tup (k.map gC))/\r=vR kvs k
noncomputable def g7 (H:Hp)(a:ak)(y v:V)(H':Hp):Prop :=
 (∃kvs k,H a=some (.dK kvs)/\y=kV k/\kvs.length<sizeLine/\H'=upd H a (.dK (uK kvs k v)))\/
 ∃kvs k b,H a=some (.dT kvs)/\y=.ref b/\H b=some (.tup (k.map gC))/\kvs.length<sizeLine/\H'=upd H a (.dT (uK kvs k v))
theorem vH.k {H:Hp}{a:ak}{kvs:List (zO×V)}{k:zO}(e:H a=some (.dK kvs)):vH H a (kV k) (vR kvs k):=.inl ⟨kvs,k,.inl e,rfl,rfl⟩
theorem g7.k {H:Hp}{a:ak}{kvs:List (zO×V)}{k:zO}{v:V}(e:H a=some (.dK kvs))(hl:kvs.length<sizeLine):g7 H a (kV k) v (upd H a (.dK (uK kvs k v))):=.inl ⟨kvs,k,e,rfl,hl,rfl⟩
section
variable{X:Cx}{pins:List (ak×Obj)}{σ:St}{H:Hp}{s:au}{a:ak}{y v:V}{u r:aj}{o:Option V}{A:bX}{E:aj->au->Prop}
theorem Inv.big (I:Inv X pins σ H s):sysModules<s.heap.objs.size:=by
 have h:mainGlobals<s.heap.objs.size:=(I.mod.glob.keeps I.bk).lt
 exact mL (by decide) h
theorem zMX {Q:aj->au->Prop}(q:A.units+1<cLine)(I:Inv X pins σ H s)(g:vH H a y (some v))(n:zX y u)(h:∀d s',Inv X pins σ H s'->zX v d->Q d s') :
  wpAny (model X.prog X.w) A (getItem (.ref a) u) Q E s:=by
 rcases g with⟨kvs,k,e,f,l⟩|⟨kvs,k,b,e,f,t,l⟩
 ·subst f
  obtain⟨z,hd,vs,rel,i⟩:=qL I.hok e
  obtain⟨d,j,c⟩:=jI.some_of (v:=v) (o:=valueAt vs k) (by rw[l];exact rel.val k)
  exact wpAny_getItem_of (zAS n) i.mapOf j (h d _ (I.tok _) c)
 ·subst f
  cases(show u=Value.ref b from n)
  obtain⟨z,hd,xs,rel,i⟩:=zAT I.hok e
  obtain⟨d,j,c⟩:=jI.some_of (v:=v) (o:=(atKey xs k).map (·.2)) (by rw[l];exact rel.val k)
  obtain⟨p,x,m⟩:=iP.mp j
  refine wpAny_getItem_heap (fY q) (zAt I.hok t) i x ?_
  rw[m]
  exact h d _ (I.tok _) c
theorem zMY {Q:aj->au->Prop}(i:A.units+1<cLine)(I:Inv X pins σ H s)(g:vH H a y o)(f:zX y u)(h:∀s',Inv X pins σ H s'->Q (.bool o.isSome) s') :
  wpAny (model X.prog X.w) A (compareOp .In u (.ref a)) Q E s:=by
 rcases g with⟨kvs,k,e,c,l⟩|⟨kvs,k,b,e,c,j,l⟩
 ·subst c
  obtain⟨z,hd,vs,rel,d⟩:=qL I.hok e
  refine wpAny_in_of (zAS f) hd d.mapOf ?_
  rw[<- (rel.val k).isSome_eq,<-l]
  exact h _ (I.tok _)
 ·subst c
  cases(show u=Value.ref b from f)
  obtain⟨z,hd,xs,rel,d⟩:=zAT I.hok e
  refine wpAny_in_heap (fY i) (zAt I.hok j) hd d ?_
  have q:=(rel.val k).isSome_eq
  rw[lQ]at q
  rw[<-q,<-l]
  exact h _ (I.tok _)
theorem zMZ {Q:aj->au->Prop}(i:A.units+1<cLine)(I:Inv X pins σ H s)(g:vH H a y o)(f:zX y u)(h:∀s',Inv X pins σ H s'->Q (.bool (!o.isSome)) s') :
  wpAny (model X.prog X.w) A (compareOp .NotIn u (.ref a)) Q E s:=by
 rcases g with⟨kvs,k,e,c,l⟩|⟨kvs,k,b,e,c,j,l⟩
 ·subst c
  obtain⟨z,hd,vs,rel,d⟩:=qL I.hok e
  refine wpAny_notIn_of (zAS f) hd d.mapOf ?_
  rw[<- (rel.val k).isSome_eq,<-l]
  exact h _ (I.tok _)
 ·subst c
  cases(show u=Value.ref b from f)
  obtain⟨z,hd,xs,rel,d⟩:=zAT I.hok e
  refine wpAny_notIn_heap (fY i) (zAt I.hok j) hd d ?_
  have q:=(rel.val k).isSome_eq
  rw[lQ]at q
  rw[<-q,<-l]
  exact h _ (I.tok _)
theorem zCD {h':bF}{t':Nat}{c:HO}(I:Inv X pins σ H s)(d:Mut (H a))(f:ig a s.heap h')(g:∃q,h'.get? a=some q)(new:yV X.prog X.w (upd H a c) h' a c) :
  Inv X pins σ (upd H a c) {s with heap:=h',toks:=t'} :=
 I.write (x:=a) (e:=a) d (.inl rfl) (fun b q hb z=>(f.2 b hb).trans z) g new
theorem zCE {P:aJ}{w:bh}{b:Hp}{h':bF}{kvs:List (zO×V)}{vs:List (zO×aj)}(z:kvs.length<=sizeLine)(hd:(a==sysModules)=false)(rel:KV kvs vs)(c:h'.DictOf (vP P w) a vs) :
  yV P w b h' a (.dK kvs):=⟨z,hd,vs,rel,c⟩
theorem zMa {p:Hp}{Q:Unit->au->Prop}(D:A.units+1<cLine)(I:Inv X pins σ H s)(g:g7 H a y v p)(t:zX y u)(x:zX v r)(h:∀s',Inv X pins σ p s'->Q () s') :
  wpAny (model X.prog X.w) A (setItem (.ref a) u r) Q E s:=by
 rcases g with⟨kvs,k,e,i,l,j⟩|⟨kvs,k,b,e,i,B,l,j⟩
 ·subst i j
  obtain⟨z,hd,vs,rel,m⟩:=gI I.hok e
  have hz:vs.length<=sizeLine:=by rw[<-rel.length];exact z
  have hl:(uK kvs k v).length<=sizeLine:=by have:=zDG kvs k v;omega
  refine wpAny_setItem_pairs (hsz:=hz) (zAS t) m fun h' d n=>h _ ?_
  have F:∃q,h'.get? a=some q:=let⟨q,_,_,f,_⟩:=d;⟨q,f⟩
  exact zCD I (by rw[e];exact True.intro) n F (zCE hl hd (rel.put k x) d)
 ·subst i j
  cases(show u=Value.ref b from t)
  obtain⟨z,hd,xs,rel,m⟩:=zMW I.hok e
  have hz:xs.length<=sizeLine:=by rw[<-dB rel];exact z
  have hl:(uK kvs k v).length<=sizeLine:=by have:=zDG kvs k v;omega
  refine wpAny_setItem_heap (hsz:=hz) (fY D) (zAt I.hok B) m fun h' d n=>h _ ?_
  obtain⟨q,G,ep,f,J,L,M,_,N⟩:=d
  refine zCD I (by rw[e];exact True.intro) n ⟨q,f⟩ ⟨hl,hd,_,(rel.put k B x).keeps fun c ys C=>?_,q,G,ep,f,J,L,M,N⟩
  rw[zG (zBv C e (fun z=>nomatch z))]
  exact C
end
noncomputable def zGZ (i:bS):Prop:=∀ov iv,subscripted i false ov iv=operate [ov,iv] (getItem ov iv)
theorem zMb {prog:aJ}{w:bh}{A:bX}{E:aj->au->Prop}{s:au}{env:Env}{value slice:bS}{pos:Pos}{T id:String}{Q:aj->au->Prop}
  (hl:typeLookup (.type T) "__getitem__"=pure (some (.builtin id))) (f:zGZ slice)
  (h:wpAny (model prog w) A (eval value env) (fun o c=>wpAny (model prog w) A (eval slice env) (fun i a=>a.TypeIs o T/\wpAny (model prog w) A (getItem o i) Q E a) E c) E s) :
  wpAny (model prog w) A (eval (.Subscript value slice pos) env) Q E s:=by
 refine lr (cY h (fun o c h₁=>cY h₁ (fun i a b=>?_) fun _ _ x=>x) fun _ _ x=>x)
 obtain⟨d,b⟩:=b
 unfold subscriptTail
 refine af ?_
 rw[getitemInPython_of_ne d.not_modules]
 refine af (pX d hl ?_)
 have fin:wpAny (model prog w) A (subscripted slice false o i) (fun r e=>wpAny (model prog w) A (letTemporaryGo value o r>>=fun _=>pure r) Q E e) E a:=by
  rw[f o i]
  exact wpAny_operating (cY b (fun r e g=>af (wpAny_letTemporaryGo (az g))) fun _ _ x=>x)
 first
  |exact az (af fin)
  |exact af (az (af fin))
  |exact af fin
theorem zMc {X:Cx}{c:List (ak×Obj)}{σ:St}{H:Hp}{s:au}{a:ak}{y:V}{o:Option V}(I:Inv X c σ H s)(g:vH H a y o):s.TypeIs (.ref a) "dict" :=by
 rcases g with⟨kvs,k,e,_,_⟩|⟨kvs,k,b,e,_,_,_⟩
 ·obtain⟨_,_,vs,_,d⟩:=qL I.hok e
  exact d.typeIs
 ·obtain⟨_,_,xs,_,d⟩:=zAT I.hok e
  exact d.typeIs
noncomputable def zMd (td ty:TE):TE:=fun σ H Q=>td σ H fun x H1=>ty σ H1 fun y H2=>∃a v,x=.ref a/\vH H2 a y (some v)/\Q v H2
noncomputable def zMe (ty td:TE):TE:=fun σ H Q=>ty σ H fun y H1=>td σ H1 fun x H2=>∃a o,x=.ref a/\vH H2 a y o/\Q (.bl o.isSome) H2
noncomputable def zMf (ty td:TE):TE:=fun σ H Q=>ty σ H fun y H1=>td σ H1 fun x H2=>∃a o,x=.ref a/\vH H2 a y o/\Q (.bl (!o.isSome)) H2
noncomputable def zGa (td ty tv:TE):TS:=fun D σ H=>tv σ H fun v H1=>td σ H1 fun x H2=>ty σ H2 fun y H3=>∃a H4,x=.ref a/\g7 H3 a y v H4/\D.nx σ H4
section
variable{X:Cx}{o i e value:bS}{pos pos' tpos:Pos}{td ty tv:TE}
theorem g8 (f:X.A.units+1<cLine)(j:PE X o td)(hi:PE X i ty)(l:zGZ i):PE X (.Subscript o i pos) (zMd td ty):=by
 intro b s σ H Q I h
 refine zMb PySem.F.slot_dict_getitem.lookup l (zM (j b s σ H _ I h) fun u m ⟨x,n,p,q,r⟩=>zM (hi b m σ n _ p r) fun C D zq=>?_)
 obtain⟨y,t,d,w,a,v,ex,g,z⟩:=zq
 subst ex
 obtain rfl:u=Value.ref a:=q
 exact⟨zMc d g,zMX f d g w fun E G B c=>⟨v,t,B,c,z⟩⟩
theorem zMg (c:X.A.units+1<cLine)(hi:PE X i ty)(d:PE X o td):PC X .In i o (zMe ty td):=by
 intro b s σ H Q I h
 refine zM (hi b s σ H _ I h) fun z f ⟨y,j,l,m,n⟩=>zM (d b f σ j _ l n) fun u B zq=>?_
 obtain⟨x,p,q,r,a,t,ex,g,v⟩:=zq
 subst ex
 obtain rfl:u=Value.ref a:=r
 exact zMY c q g m fun C w=>⟨.bl t.isSome,p,w,rfl,v⟩
theorem zMh (c:X.A.units+1<cLine)(hi:PE X i ty)(d:PE X o td):PC X .NotIn i o (zMf ty td):=by
 intro b s σ H Q I h
 refine zM (hi b s σ H _ I h) fun z f ⟨y,j,l,m,n⟩=>zM (d b f σ j _ l n) fun u B zq=>?_
 obtain⟨x,p,q,r,a,t,ex,g,v⟩:=zq
 subst ex
 obtain rfl:u=Value.ref a:=r
 exact zMZ c q g m fun C w=>⟨.bl (!t.isSome),p,w,rfl,v⟩
theorem zCF (c:X.A.units+1<cLine)(d:PE X o td)(hi:PE X i ty)(hv:PE X value tv)(f:swapsWith value (some (.Subscript o i pos')) pos.line X.env=pure false) :
  PS X (.Assign [.Subscript o i pos'] value pos) (zGa td ty tv):=by
 intro b s σ H D I h
 refine wpAny_Assign_Subscript (zM (hv b s σ H _ I h) fun r j ⟨v,l,m,n,p⟩=>zM (d b j σ l _ m p) fun u q ⟨x,t,w,z,B⟩=>zM (hi b q σ t _ w B) fun L M zq=>?_) f
 obtain⟨y,N,C,E,a,F,ex,g,G⟩:=zq
 subst ex
 obtain rfl:u=Value.ref a:=z
 exact zMa c C g E n fun O J=>⟨σ,F,J,G⟩
end
theorem zGb {P:aJ}{w:bh}{H:Hp}(h:bF)(hb:sysModules<h.objs.size):yV P w H (h.push {cls:=.type "dict",data:=.dict #[]}) h.objs.size (.dK []) :=
 ⟨bw _,beq_eq_false_iff_ne.mpr (eN (bp hb)),[],.nil,pY h⟩
noncomputable def zMi:TE:=fun _ H Q=>∀p,H p=none->Q (.ref p) (upd H p (.dK []))
section
variable{X:Cx}{pos:Pos}
theorem zAu:PE X (.Dict [] [] pos) zMi:=fun b s σ H Q I h=>
 wpAny_Dict_empty ⟨.ref s.heap.objs.size,_,I.laid (a:=s.heap.objs.size) (o:=.dK []) (t':=s.toks) (fun _ _ q=>ae _ q) (aC _) (zGb s.heap I.big),rfl,h _ (I.hok.fresh (aC _))⟩
end
noncomputable def zGc:List (TE×TE)->St->Hp->(List (V×V)->Hp->Prop)->Prop
 | [],_,H,Q=>Q [] H
 |(tk,tv)::r,σ,H,Q=>tk σ H fun x H1=>tv σ H1 fun y H2=>zGc r σ H2 fun ps H3=>Q ((x,y)::ps) H3
noncomputable abbrev VV:List (V×V)->List (aj×aj)->Prop:=oj fun p q=>zX p.1 q.1/\zX p.2 q.2
noncomputable def PPs (X:Cx)(pos:Pos)(keys:List (Option bS))(values:List bS)(trs:List (TE×TE)):Prop :=
 ∀(pins:List (ak×Obj)) (s:au) (σ:St) (H:Hp) (Q:List (V×V)->Hp->Prop),Inv X pins σ H s->zGc trs σ H Q->
  wpAny (model X.prog X.w) X.A (evalPairs (pairTrees keys values X.env pos)) (fun vs s'=>∃ps H',Inv X pins σ H' s'/\VV ps vs/\Q ps H') X.xe s
theorem zMj {X:Cx}{pos:Pos}:PPs X pos [] [] []:=fun a s σ H Q I h=>pairTrees_nil_walk ⟨[],H,I,.nil,h⟩
theorem zMk {X:Cx}{pos:Pos}{k v:bS}{ks:List (Option bS)}{vs:List bS}{tk c:TE}{b:List (TE×TE)}(d:PE X k tk)(hv:PE X v c)(e:PPs X pos ks vs b) :
  PPs X pos (some k::ks) (v::vs) ((tk,c)::b):=fun a s σ H Q I h=>
 pairTrees_cons_walk (zM (d a s σ H _ I h) fun u f ⟨x,g,i,j,l⟩=>zM (hv a f σ g _ i l) fun w2 m ⟨y,n,o,p,q⟩=>
  zM (e a m σ n _ o q) fun ws z ⟨ps,r,t,rel,w⟩=>⟨(x,y)::ps,r,t,.cons ⟨j,p⟩ rel,w⟩)
structure M2 (X:Cx) (o:bS) (m:Str) (apos:Pos) (e f:bS) (cpos:Pos):Prop where
 base:attributeBase o m X.env (eval o X.env)=eval o X.env
 few:((backTo cpos (starEach [e,f] X.env)).all (fun x=>!x.1)&& (backToKw cpos (keywordEach [] X.env)).all (fun x=>x.1.isSome)
  &&decide (([e,f]:List bS).length+([]:List qj).length+(if([]:List qj).isEmpty then 0 else 1)<30))=true
 line:(apos.endLine==cpos.line)=true
 trees:backTo cpos (starEach [e,f] X.env)=[(false,eval e X.env),(false,eval f X.env)]
noncomputable def IsD (H:Hp)(a:ak):Prop:=(∃kvs,Rd H a (.dK kvs))\/∃kvs,Rd H a (.dT kvs)
theorem zGd {X:Cx}{f:List (ak×Obj)}{σ:St}{H:Hp}{s:au}{a:ak}(I:Inv X f σ H s)(d:IsD H a) :
  s.TypeIs (.ref a) "dict"/\ (∀b,Value.ref a=.ref b->∃c,s.heap.get? b=some c/\c.dict=none)/\(a==sysModules)=false:=by
 rcases d with⟨kvs,e⟩|⟨kvs,e⟩
 ·obtain⟨_,hd,vs,_,g⟩:=qL I.hok e
  refine⟨g.typeIs,fun b q=>?_,hd⟩
  cases q
  obtain⟨c,_,_,h,i,_⟩:=g
  exact⟨c,h,i.2.1⟩
 ·obtain⟨_,hd,xs,_,g⟩:=zAT I.hok e
  refine⟨g.typeIs,fun b q=>?_,hd⟩
  cases q
  obtain⟨c,_,_,h,i,_⟩:=g
  exact⟨c,h,i.2.1⟩
section
variable{X:Cx}{pins:List (ak×Obj)}{σ:St}{H:Hp}{s:au}{a:ak}{y d:V}{u r:aj}{o:Option V}{A:bX}{E:aj->au->Prop}
theorem zMl {Q:aj->au->Prop}(m:A.units+1<cLine)(I:Inv X pins σ H s)(g:vH H a y o)(i:zX y u)(rd:zX d r)(h:∀j s',Inv X pins σ H s'->zX (o.getD d) j->Q j s') :
  wpAny (model X.prog X.w) A (call (.builtin "dict.get") [.ref a,u,r]) Q E s:=by
 rcases g with⟨kvs,k,e,f,l⟩|⟨kvs,k,b,e,f,n,l⟩
 ·subst f
  obtain⟨z,hd,vs,rel,c⟩:=qL I.hok e
  refine iT jc c.typeIs mM (mw _ _ _) (meets_dict_get_default (vP X.prog X.w) a (zAS i) hd r) ⟨_,c.mapOf,h _ _ (I.tok _) ?_⟩
  rw[l]
  exact(rel.val k).getD rd
 ·subst f
  cases(show u=Value.ref b from i)
  obtain⟨z,hd,xs,rel,c⟩:=zAT I.hok e
  refine iT jc c.typeIs mM (mw _ _ _) (meetsH_dict_get_default (tupleKind (gX X.prog X.w)) a b hd r) ⟨fY m,k,xs,zAt I.hok n,c,h _ _ (I.tok _) ?_⟩
  rw[l]
  exact(rel.val k).getD rd
end
noncomputable def zGe (td ty tx:TE):TE:=fun σ H Q=>td σ H fun x H1=>∃a,x=.ref a/\IsD H1 a/\ty σ H1 fun y H2=>tx σ H2 fun z H3=>∃o,vH H3 a y o/\Q (o.getD z) H3
section
variable{X:Cx}{o e f:bS}{apos cpos:Pos}{td ty tx:TE}
theorem zCG (j:X.A.units+1<cLine)(l:PE X o td)(n:PE X e ty)(hf:PE X f tx)(m:M2 X o "get" apos e f cpos):PE X (.Call (.Attribute o "get" apos) [e,f] [] cpos) (zGe td ty tx):=by
 intro b s σ H Q I h
 refine wpAny_Call_method m.base m.few m.line bL jc PySem.F.type_dict_get (zM (l b s σ H _ I h) fun u p zq=>?_)
 obtain⟨x,q,i,r,a,ex,d,t⟩:=zq
 subst ex
 obtain rfl:u=Value.ref a:=r
 obtain⟨v,w,_⟩:=zGd i d
 refine⟨v,w,?_⟩
 rw[m.trees]
 refine fX rfl (nB (eV (zM (n b p σ q _ i t) fun P B ⟨y,C,D,E,G⟩=>
  eV (zM (hf b B σ C _ D G) fun R T ⟨z,J,L,M,U,g,N⟩=>iQ ?_))))
 exact zMl j L g E M fun W Y O c=>⟨_,J,O,c,N⟩
end
end L2
namespace Att
open PySem PySem.W PySem.Calls PyProof.Rows
theorem zMm {P:pq}{h:bF}:∀(ns:List Int) (vs:List aj),WellAll P h vs (ns.map WData.int)->oK vs ns:=by
 intro ns
 induction ns with
 |nil=>
  intro vs w
  rw[kh]at w
  cases w
  exact .nil
 |cons n ns ih=>
  intro vs w
  rw[aD]at w
  cases w with
  |cons a b=>
   cases a
   exact .cons _ _ (ih _ b)
theorem zMn {l:OpenLaw}{n:Nat}(p:l.most=some n){P:pq}{h:bF}{args:List WData}{b:List aj}
  (c:l.row.toRowW.claim.pre args=true) (j:WellAll P h b args) :
  ∃a vs ns,b=[Value.ref a]/\args=[WData.list (ns.map WData.int)]/\h.get? a=some {cls:=.type "list",data:=.seq vs.toArray}/\oK vs ns/\ns.length<=n:=by
 have m:WShape.hasAll [] args [.list .int]=true:=(pre_splitW c).1
 have o:l.pre.holds [] {args:=args}=true:=(pre_splitW c).2
 obtain⟨d,r,rfl,s,t⟩:=hasAllW_cons m
 obtain rfl:=hasAllW_nil t
 obtain⟨xs,rfl,u⟩:=hasW_list s
 obtain⟨ns,rfl⟩:=items_int u
 have e:ns.length<=n:=by
  unfold OpenLaw.pre at o
  have g:(WTm.not (.lt (.lit (.int (n:Int))) (.len (.arg 0)))).holds [] {args:=[.list (ns.map .int)]}=true:=by
   have g:=(holds_andW o).1
   rw[p]at g
   exact g
  have i:=condW_of g (w_not (w_lt w_lit (w_len_list (w_arg rfl))))
  rw[ai]at i
  refine Nat.le_of_not_lt fun q=>?_
  have v:(n:Int)<((ns.length:Nat):Int):=by omega
  first
   |(rw[decide_eq_true v]at i;exact absurd i (by decide))
   |(simp at i;omega)
 cases j with
 |cons w1 w2=>
  cases w2
  cases w1 with
  |list w f=>exact⟨_,_,ns,rfl,rfl,w,zMm ns _ f,e⟩
theorem zMo (l:OpenLaw)(args:List WData):l.row.toRowW.claim.post args (.bool true) args=true :=
 postW_of (r:=l.row.toRowW) (X:=(true==true))
  (show ve [] (.bool true) .bool=true by first|rfl|decide|simp[ve,WShape.arms,WShape.armsAll])
  (show(WTm.eq .res (.lit (.bool true))).value [] {args:=args,res:=some (.bool true),after:=args}=some (.bool (true==true))from w_eq_bool (w_res rfl) w_lit) rfl
theorem attach_call {l:OpenLaw}{n:Nat}{q:aJ}{loose:List Str}{XP:(Str->Option aj)->bF->Prop}{YP:bh->bF->Prop}{d:DefRec}
  (z:l.most=some n) (p:d.params.defaults=[])
  (call:∀(w:bh) (s₀ b:au) (mg mb:Str->Option aj) (g:ak) (o:Obj) (pm m c:aj) (a:ak) (vs:List aj) (ns:List Int),
   Ground q loose [] XP w s₀ mg mb b.heap->YP w b.heap->
   b.heap.get? g=some o->o.data=.func (docDef d.name d.params d.body d.scope pm m c)->b.heap.CodeRec m d.name->mg d.name=some (.ref g)->
   b.heap.get? a=some {cls:=.type "list",data:=.seq vs.toArray}->oK vs ns->ns.length<=n->b.gens=#[]->
   codeAny (model l.prog w) callerA (.call (.ref g) ⟨[.ref a],[]⟩) (fun r s'=>r=.ok (.ret (.bool true))/\OldK b.heap s'.heap/\s'.os=b.os/\lO s'.gens) b) :
  WalkO q loose XP YP l.row.toRowW d [] (fun f vs=>qx f vs):=by
 intro w s₀ b mg mb G Y g o pm m c A kV B hd s v t C args x as h y D u E
 obtain rfl:A=.none:=Dflts.none v p
 obtain rfl:kV=.none:=Dflts.noKw v
 obtain⟨a,vs,ns,rfl,rfl,i,e,j⟩:=zMn z h u
 refine enter_call (ij (call w s₀ b mg mb g o pm m c a vs ns G Y B (fd_plain hd) s t i e j C) fun r s' F=>?_)
 obtain⟨rfl,H,I,J⟩:=F
 exact⟨.inl ⟨.bool true,.bool true,[],rfl,fun _=>rfl,.bool true,zMo l _,fun _=>⟨List.Pairwise.nil,fun _ L=>(nomatch L)⟩⟩,H,I,J⟩
end Att
namespace L2
open PySem PySem.Spec PyProof.Rows
theorem zGf:∀{vs:List aj}{ns:List Int},oK vs ns->zU (ns.map V.int) vs
 |_,_,.nil=>.nil
 |_,_,.cons n t h=>.cons ⟨t,rfl⟩ (zGf h)
noncomputable abbrev z0:kL:=fun _ _ _ _ _ _=>False
noncomputable abbrev E0:XK:=fun _ _ _=>False
theorem zMp {X:Cx}:zDE z0 X E0:=fun _ _ _ _ _ _ _ h=>h.elim
structure Fun (K:ag) (x qual:Str) (st:cJ) (f:ak) (fd:bc):Prop where
 ex:∃(oc:aj) (od:Option ak) (kV doc pm:aj) (an:Option ak) (cdv ct:aj) (osl:Array (Option aj)),
  fd=dF x qual (defArgs st) (defBody st) (defScope st) .none kV doc pm an cdv ct/\K.lookup f=some ⟨oc,od,.func fd,osl⟩/\eX K cdv qual=true
 kp:dW K (.ref f)=true
section
variable{P:aJ}{w:bh}{K:ag}{mg:Str->Option aj}{base:bF}
theorem Fun.ok {x a:Str}{st:cJ}{f:ak}{fd:bc}{N ps:List Str}{k:Nat}{sp:Sp}(F:Fun K x a st f fd)(S:FnScope N ps (defScope st))(len:∀vs H Q E,sp vs H Q E->vs.length=ps.length)
  (c:∀(b:aj) (A:bX) (outer:List Env) (s:au) (H:Hp) (vs:List V) (Q:VK) (E:XK),Room k (A.deeper (envOfC a (defScope st) s.heap.objs.size f b))->sp vs H Q E->
   ∃t,qX (zAR z0 P w K mg base N a (defScope st) f b A outer s H E).nox (defBody st) t/\t {nx:=fun _ g=>Q .non g,rt:=Q} (start N vs) H):FnOk P w K mg base z0 (k+1) f fd ps sp:=by
 obtain⟨oc,od,kV,i,pm,m,b,ct,j,rfl,lk,d⟩:=F.ex
 refine zGH lk d S len fun A outer s H vs Q E l e=>?_
 obtain⟨t,h,q⟩:=c b A outer s H vs Q E l e
 exact⟨t,h.nox,q⟩
theorem Fun.binds {x a:Str}{st:cJ}{f:ak}{fd:bc}{ps:List Str}(F:Fun K x a st f fd)
  (h:∀(kV b pm:aj) (d:Option ak) (c ct:aj) (e:List aj),e.length=ps.length->bindArgs (dF x a (defArgs st) (defBody st) (defScope st) .none kV b pm d c ct) ⟨e,[]⟩=pure (ps.zip e)):kM K fd ps []:=by
 obtain⟨oc,od,kV,b,pm,d,c,ct,g,rfl,lk,i⟩:=F.ex
 exact .all (h kV b pm d c ct)
theorem zDH {x a:Str}{st:cJ}{f:ak}{oc:aj}{od g:Option ak}{e:Array (Option aj)}{kV d pm b ct:aj}(l:K.lookup f=some ⟨oc,od,.func (dF x a (defArgs st) (defBody st) (defScope st) .none kV d pm g b ct),e⟩)
  (c:eX K b a=true) (k:dW K (.ref f)=true):Fun K x a st f (dF x a (defArgs st) (defBody st) (defScope st) .none kV d pm g b ct):=⟨⟨oc,od,kV,d,pm,g,b,ct,e,rfl,l,c⟩,k⟩
end
theorem gJ {A:bX}{k:Nat}(a:Room k A):A.units+1<cLine:=Nat.lt_of_le_of_lt (Nat.add_le_add_left (by decide:1<=64) _) a.units
section
variable{X:Cx}
theorem pv (i:Nat){x:Str}{pos:Pos}(b:X.N[i]?=some x:=by rfl)(hv:Vis X.env.scope x:=by first|exact Or.inl rfl|exact Or.inr (Or.inl rfl)|exact Or.inr (Or.inr rfl))(hd:(x==("__debug__" : Str))=false:=by decide)
  (a:(x==("__classdict__" : Str))=false:=by decide):PE X (.Name x pos) (zAk i):=zKz b hv hd a
end
theorem vA {A B:Prop}(h:B):if false=true then A else B:=by
 rw[if_neg bg]
 exact h
theorem uQ {A B:Prop}(h:A):if true=true then A else B:=by
 rw[if_pos rfl]
 exact h
theorem zDI {c A B:Prop} [Decidable c] (a:c->A)(b:¬c->B):if c then A else B:=by
 by_cases h:c
 ·rw[if_pos h]
  exact a h
 ·rw[if_neg h]
  exact b h
theorem gK {c A B:Prop} [Decidable c] (a:c)(h:B):if(!decide c)=true then A else B:=by
 rw[decide_eq_true a]
 exact vA h
noncomputable def zB (H H':Hp):Prop:=∀b o,H b=some o->H' b=some o
theorem zB.refl (H:Hp):zB H H:=fun _ _ h=>h
theorem zB.trans {H d e:Hp}(a:zB H d)(b:zB d e):zB H e:=fun c o h=>b c o (a c o h)
theorem zB.free {H a:Hp}(e:zB H a){l:ak}(h:a l=Option.none):H l=Option.none:=by
 cases q:H l with
 |none=>rfl
 |some o=>
  rw[e l o q]at h
  cases h
theorem zB.seq {K:ag}{H b:Hp}{a:ak}{xs:List V}(e:zB H b)(h:yG K H a xs):yG K b a xs:=by
 rcases h with(h|⟨o,h⟩)|h
 ·exact .inl (.inl (e _ _ h))
 ·exact .inl (.inr ⟨o,e _ _ h⟩)
 ·exact .inr h
end L2
end
section
namespace L2
open PySem
section
variable{env:Env}
theorem zDJ:∀(l:List (Str×lh)) (d:List (Str×ak)),(∀x∈l,x.2=.free->∃c,env.cells.lookup x.1=some c)->(∀x c,d.lookup x=some c->env.cells.lookup x=some c)->
  ∃f,(forIn l d (fun x r=>if(x.2==NameKind.free)=true then do let a<-cellOf env x.1;pure (ForInStep.yield ((x.1,a)::r))else pure (ForInStep.yield r)):Sem (List (Str×ak)))=pure f/\
   (∀x c,f.lookup x=some c->env.cells.lookup x=some c)/\∀x,((x,NameKind.free)∈l\/∃c,d.lookup x=some c)->∃c,f.lookup x=some c
 | [],d,_,j=>⟨d,rfl,j,fun x h=>h.elim (fun z=>by cases z) id⟩
 |(n,k)::l,d,h,j=>by
  have hl:∀x∈l,x.2=.free->∃c,env.cells.lookup x.1=some c:=fun x b=>h x (aw _ b)
  rw[fw]
  by_cases m:k=.free
  ·subst m
   obtain⟨c,s⟩:=h (n,.free) (aq ..) rfl
   obtain⟨f,e,o,p⟩:=zDJ l ((n,c)::d) hl fun x q z=>by
    by_cases b:x=n
    ·subst b
     rw[jd]at z
     cases z;exact s
    ·have g:(x==n)=false:=by simpa using b
     rw[b8,g]at z
     exact j x q z
   refine⟨f,?_,o,fun x b=>p x ?_⟩
   ·have t:cellOf env n=pure c:=by unfold cellOf;rw[s]
    simp only[beq_self_eq_true,if_true,t,pure_bind]
    exact e
   ·rcases b with b|⟨q,b⟩
    ·rcases aL.mp b with b|b
     ·have:x=n:=(bM b).1
      subst this
      exact .inr ⟨c,jd⟩
     ·exact .inl b
    ·by_cases i:x=n
     ·subst i;exact .inr ⟨c,jd⟩
     ·have g:(x==n)=false:=by simpa using i
      exact .inr ⟨q,by rw[b8,g];exact b⟩
  ·obtain⟨f,e,o,p⟩:=zDJ l d hl j
   have hb:(k==NameKind.free)=false:=by simpa using m
   refine⟨f,?_,o,fun x b=>p x ?_⟩
   ·simp only[hb,eY,if_false,pure_bind]
    exact e
   ·rcases b with b|b
    ·rcases aL.mp b with b|b
     ·exact absurd (bM b).2.symm m
     ·exact .inl b
    ·exact .inr b
theorem zGg {scope:gc}(h:∀x∈scope.names,x.2=.free->∃c,env.cells.lookup x.1=some c) :
  ∃a,closureFor scope env=pure a/\(∀x c,a.lookup x=some c->env.cells.lookup x=some c)/\∀x,(x,NameKind.free)∈scope.names->∃c,a.lookup x=some c:=by
 obtain⟨a,e,b,d⟩:=zDJ scope.names [] h (fun x c z=>by simp at z)
 refine⟨a,?_,b,fun x f=>d x (.inl f)⟩
 unfold closureFor
 dsimp only
 refine Eq.trans (congrArg (· >>=pure) ?_) (Eq.trans (congrArg (· >>=pure) e) (by simp))
 rfl
end
section
variable{prog:aJ}{w:bh}{A:bX}{R:qp->au->Prop}{s:au}
theorem zGh {a target iter:bS}{b:List bS}{scope:gc}{pos:Pos}{g d:aj}{env:Env}(J:Nat->au->Prop)
  (e:∀n s,J n s->wpAny (model prog w) A (pyNext g) (fun r i=>match r with
   |none=>R (.ok .next) i
   |some v=>wpAny (model prog w) A (letOwnedTupleGo target g v) (fun _ l=>wpAny (model prog w) A (assign target env v) (fun _ o=>
     wpAny (model prog w) A (forIn b true fun c r=>if r=true then do let ok<-isTrue c env (eval c env);pure (ForInStep.yield ok)else pure (ForInStep.yield r)) (fun ok j=>
      if ok=true then wpAny (model prog w) A (eval a env) (fun x p=>wpAny (model prog w) A (call (.builtin "list.append") [d,x]) (fun _ u=>∃m,m<n/\J m u) (fun _ _=>False) p) (fun _ _=>False) j
      else∃m,m<n/\J m j) (fun _ _=>False) o) (fun _ _=>False) l) (fun _ _=>False) i) (fun _ _=>False) s)
  (n:Nat) (h:J n s):codeAny (model prog w) A (.compLoop (.ListComp a [⟨target,iter,b,0⟩] scope pos) 0 g d env) R s:=by
 refine codeAny_loop rfl J (fun n s B=>?_) n h
 show wpAny _ A ((compTurn (.ListComp a [⟨target,iter,b,0⟩] scope pos) 0 g d env).onRaise (fun x=>noteFrame x env>>=fun _=>theTreesLotGoes x)) _ _ s
 refine wpAny_noted ?_
 have no:∀{α:Type} {t:Sem α} {Q:α->au->Prop} {E:aj->au->Prop} {s:au},wpAny (model prog w) A t Q (fun _ _=>False) s->wpAny (model prog w) A t Q E s:=fun h=>cY h (fun _ _ q=>q) fun _ _ f=>f.elim
 rw[compTurn_list]
 refine af (sr (af (no (cY (e n s B) (fun r i y=>?_) fun _ _ f=>f))))
 cases r with
 |none=>exact az y
 |some v=>
  refine af (no (cY y (fun _ l C=>?_) fun _ _ f=>f))
  refine af (no (cY C (fun _ o D=>?_) fun _ _ f=>f))
  refine af (no (cY D (fun ok j z=>?_) fun _ _ f=>f))
  cases ok with
  |false=>exact az ⟨rfl,z⟩
  |true=>
   refine af (af (no (cY z (fun x p F=>?_) fun _ _ f=>f)))
   exact af (no (cY F (fun _ u G=>az (az ⟨rfl,G⟩)) fun _ _ f=>f))
end
end L2
end
section
namespace L2
open PySem PySem.Spec PyProof.Rows
theorem yI.track {P:aJ}{w:bh}{H:Hp}{h:bF}{a:ak}{o:HO}(x:yI P w H h)(d:H a=none)(new:yV P w (upd H a o) h a o):yI P w (upd H a o) h:=fun b u e=>by
 by_cases hb:b=a
 ·subst hb;rw[zE]at e;cases e;exact new
 ·rw[zG hb]at e
  refine(x b u e).stay (fun c v _ q=>q) (fun c q=>?_) fun c xs q=>?_
  ·rw[zG (yK q d)];exact q
  ·rw[zG (yK q d)];exact q
theorem yI.but {P:aJ}{w:bh}{H:Hp}{h h':bF}{C:ak}(x:yI P w H h)(a:H C=none)(k:∀b u,b≠C->h.get? b=some u->h'.get? b=some u):yI P w H h':=fun b u e=>by
 refine(x b u e).stay (fun c v d q=>k c v ?_ q) (fun _ q=>q) fun _ _ q=>q
 rintro rfl
 rcases d with z|z
 ·rw[z,e]at a;cases a
 ·rw[z]at a;cases a
theorem zGi {env:Env}:∀{names:List (Str×lh)}{x:Str},names.lookup x=some .free->
  (names.map fun(n,k)=>if(k==NameKind.free&&env.scope.kind== .function&&env.kindOf n==some .cell)then(n,NameKind.cell)else(n,k)).lookup x=some .cell\/
  (names.map fun(n,k)=>if(k==NameKind.free&&env.scope.kind== .function&&env.kindOf n==some .cell)then(n,NameKind.cell)else(n,k)).lookup x=some .free
 | [],_,h=>by simp at h
 |(n,k)::r,x,h=>by
  rw[aD]
  cases a:x==n with
  |true=>
   rw[b8,a]at h
   cases h
   dsimp only
   split
   ·left;rw[b8,a]
   ·right;rw[b8,a]
  |false=>
   rw[b8,a]at h
   have ih:=zGi (env:=env) h
   dsimp only
   split
   ·rw[b8,a];exact ih
   ·rw[b8,a];exact ih
theorem zGj {env:Env}:∀{names:List (Str×lh)}{x:Str}{a:lh},(a=.cell\/a=.free)->
  (names.map fun(n,k)=>if(k==NameKind.free&&env.scope.kind== .function&&env.kindOf n==some .cell)then(n,NameKind.cell)else(n,k)).lookup x=some a->∃k,(x,k)∈names/\(k=.cell\/k=.free)
 | [],_,_,_,h=>by simp at h
 |(n,k)::r,x,a,c,h=>by
  rw[aD]at h
  cases b:x==n with
  |true=>
   have e:x=n:=by simpa using b
   subst e
   dsimp only at h
   split at h
   ·rename_i d
    have:k=.free:=by
     rw[bj,bj]at d
     simpa using d.1.1
    exact⟨k,aq ..,.inr this⟩
   ·rw[b8,b]at h
    cases h
    exact⟨k,aq ..,c⟩
  |false=>
   have h':(r.map fun(n,k)=>if(k==NameKind.free&&env.scope.kind== .function&&env.kindOf n==some .cell)then(n,NameKind.cell)else(n,k)).lookup x=some a:=by
    dsimp only at h
    split at h
    ·rw[b8,b]at h;exact h
    ·rw[b8,b]at h;exact h
   obtain⟨f,g,i⟩:=zGj (env:=env) c h'
   exact⟨f,aw _ g,i⟩
noncomputable def vE (X:Cx)(N:List Str)(scope:gc)(cl:List (Str×ak))(C:ak)(s:au)(H:Hp)(ex:List ak):Cx where
 prog:=X.prog
 w:=X.w
 K:=X.K
 mg:=X.mg
 base:=X.base
 A:=X.A
 N:=N
 s₀:=s
 H₀:=H
 env:=compEnvC scope cl C X.env
 outer:=X.stack
 stack:=X.stack
 ex:=ex
 fn:=fun _=>false
 calm:=X.calm
 pn:=[]
 xe:=fun _ _=>False
structure CompScope (sc:gc) (XN N:List Str) (scope:gc) (caps:List Nat):Prop where
 kind:scope.kind=.function
 nd:N.Nodup
 nocell:∀y∈scope.names,y.2≠.cell
 names:∀y∈scope.names,y.2=.local->scope.names.lookup y.1=some .local
 free:∀y∈scope.names,y.2=.free->sc.names.lookup y.1=some .cell\/sc.names.lookup y.1=some .free
 cap:∀(i:Nat),i<caps.length->∃x,N[i]?=some x/\XN[caps.getD i 0]?=some x/\scope.names.lookup x=some .free/\(sc.names.lookup x=some .cell\/sc.names.lookup x=some .free)
 len:caps.length<=N.length
noncomputable def uR (caps:List Nat)(n:Nat)(σ:St):St:=caps.map (fun j=>(σ[j]?).join)++aH (n-caps.length) none
noncomputable def PF (X:Cx)(ifs:List bS)(tc:TT):Prop :=
 ∀(pins:List (ak×Obj)) (s:au) (σ:St) (H:Hp) (Q:Bool->Hp->Prop),Inv X pins σ H s->tc σ H Q->
  wpAny (model X.prog X.w) X.A (forIn ifs true fun c r=>if r=true then do let ok<-isTrue c X.env (eval c X.env);pure (ForInStep.yield ok)else pure (ForInStep.yield r)) (TP X pins σ Q) X.xe s
noncomputable def kP:TT:=fun _ H Q=>Q true H
theorem qM {X:Cx}:PF X [] kP:=fun a s σ H Q I h=>by
 rw[fN]
 exact az ⟨H,I,h⟩
theorem zGk {X:Cx}{c:bS}{b:TT}(d:PT X c b):PF X [c] b:=fun a s σ H Q I h=>by
 rw[fw]
 refine af ?_
 rw[if_pos rfl]
 refine af (zM (d a s σ H Q I h) fun ok e q=>az ?_)
 show wpAny _ _ (forIn [] ok _) _ _ _
 rw[fN]
 exact az q
noncomputable def zGl (wi:TI)(g:TG)(tc:TT)(te:TE)(caps:List Nat)(n:Nat):TE:=fun σ H Q=>wi σ H fun J H1=>∃W:Nat->Nat->List V->St->Hp->Prop,(∃m,W 0 m [] (uR caps n σ) H1)/\∀i m acc σ' H',W i m acc σ' H'->
 (J.stop i H'/\∀D,H' D=none->Q (.ref D) (upd H' D (.lst acc)))\/
 (J.go i H'/\acc.length<sizeLine/\∀x H2,J.yld i H' x H2->g x σ' H2 fun σ2 H3=>tc σ2 H3 fun b H4=>if b=true then te σ2 H4 fun y H5=>∃m',m'<m/\W (i+1) m' (acc++[y]) σ2 H5 else∃m',m'<m/\W (i+1) m' acc σ2 H4)
section
variable{X:Cx}{pins:List (ak×Obj)}{σ:St}{H:Hp}{s:au}{N:List Str}{scope:gc}{cl:List (Str×ak)}{C:ak}{fp:List ak}{caps:List Nat}
theorem zGm (I:Inv X pins σ H s)(S:CompScope X.env.scope X.N N scope caps)(f:∀x c,cl.lookup x=some c->X.env.cells.lookup x=some c)(j:∀x,(x,NameKind.free)∈scope.names->∃c,cl.lookup x=some c)
  (i:s.heap.objs.size<=C) (hf:∀b∈fp,qI X pins H b) (g:∀b∈fp,b<s.heap.objs.size):(vE X N scope cl C s H fp).Ok where
 mod:=I.ok.mod
 kind:=S.kind
 glob:=I.ok.glob
 blt:=I.ok.blt
 above:=i
 inj:=fun x y c a b=>I.ok.inj x y c (f x c a) (f y c b)
 has:=fun x l=>by
  have h:∃d,(d=NameKind.cell\/d=.free)/\(relabel scope X.env).names.lookup x=some d:=by
   rcases l with z|z
   ·exact⟨_,.inl rfl,z⟩
   ·exact⟨_,.inr rfl,z⟩
  obtain⟨d,n,z⟩:=h
  obtain⟨k,m,e⟩:=zGj n z
  rcases e with e|e
  ·exact absurd e (S.nocell _ m)
  ·subst e;exact j x m
 cab:=fun x c z=>by cases z
 hd:=I.ok.hd
 frames:=I.ok.frames
 stk:=.inl rfl
 exf:=fun b hb=>by
  obtain⟨_,_,_,_,p,_⟩:=hf b hb
  exact⟨bp (bz (g b hb) i),fun x c e=>p x c (f x c e)⟩
 bs:=I.bs
 bsz:=bJ I.ok.bsz I.sz
 noex:=fun b o e hb=>by
  obtain⟨_,_,_,q,_⟩:=hf b hb
  rcases q with z|z
  ·exact I.ok.noex b o e z
  ·exact absurd (bz (aF e) (bJ I.ok.bsz z)) (bN _)
 exfs:=fun b hb z=>by
  obtain⟨_,f1,f2,_⟩:=hf b hb
  rcases aL.mp (I.stkSub b z)with e|e
  ·exact f1 e
  ·exact f2 e
 funs:=I.stack
 frf:=I.stkFree
theorem zGn {j:bF}{D:ak}{od:Obj}{t:Nat}{m:Str->Option aj}(I:Inv X pins σ H s)(ok:(vE X N scope cl C s H fp).Ok)(S:CompScope X.env.scope X.N N scope caps)
  (g:∀x c,cl.lookup x=some c->X.env.cells.lookup x=some c) (n:∀x,(x,NameKind.free)∈scope.names->∃c,cl.lookup x=some c)
  (keep:∀b o,s.heap.get? b=some o->j.get? b=some o) (P:j.Ns C m) (Q:s.heap.objs.size<=C) (R:j.get? D=some od) (w:s.heap.objs.size<=D) (B:D≠C) (E:∀v,od.data≠.cell v) :
  Inv (vE X N scope cl C s H fp) [(D,od)] (uR caps N.length σ) H {s with heap:=j,toks:=t}:=by
 have a:∀x c,cl.lookup x=some c->∀v,s.heap.IsCell c v->j.IsCell c v:=fun x c e v ⟨o,F,hd⟩=>⟨o,keep c o F,hd⟩
 refine⟨ok,rfl,I.bare,Un.kept keep,⟨m,P,fun i x v e1 f e3=>?_⟩,fun x c e=>?_,I.hok.fresh Q,fun x c e=>I.freeC x c (g x c e),fun p T=>?_,I.hok.kept keep,?_⟩
 ·have hi:i<caps.length:=by
   by_cases hi:i<caps.length
   ·exact hi
   ·exfalso
    unfold uR at f
    rw[aO (by simpa using hi),mj]at f
    split at f<;>cases f
  obtain⟨y,U,W,L,M⟩:=S.cap i hi
  have G:x=y:=by
   have A:N[i]?=some x:=e1
   rw[U]at A;exact(aB A).symm
  subst G
  have Y:σ[caps.getD i 0]?=some (some v):=by
   unfold uR at f
   rw[aR (by simpa using hi),ar]at f
   have:caps[i]?=some (caps.getD i 0):=by rw[bZ];simp[hi]
   rw[this]at f
   have d:(σ[caps.getD i 0]?).join=some v:=by simpa using f
   cases q:σ[caps.getD i 0]? with
   |none=>rw[q]at d;cases d
   |some z=>rw[q]at d;have:z=some v:=d;rw[this]
  obtain⟨m',_,hl⟩:=I.loc
  obtain⟨u,r,l⟩:=hl _ x v W Y (M.elim (fun z=>.inr (.inl z)) fun z=>.inr (.inr z))
  refine⟨u,r,?_⟩
  have nl:X.env.kindOf x≠some .local:=by
   rcases M with z|z
   ·show X.env.scope.names.lookup x≠_;rw[z];decide
   ·show X.env.scope.names.lookup x≠_;rw[z];decide
  rcases l with⟨k,_⟩|⟨_,c,Z,z⟩
  ·exact absurd k nl
  ·obtain⟨O,h⟩:=n x (eR L)
   have:c=O:=aB (Z.symm.trans (g x O h))
   subst this
   refine .inr ⟨?_,c,h,a x c h _ z⟩
   exact zGi (env:=X.env) L
 ·obtain⟨v,z⟩:=I.cell x c (g x c e)
  exact⟨v,a x c e v z⟩
 ·have:p=(D,od):=by
   have J:p∈[(D,od)]:=T
   simpa using J
  subst this
  refine⟨R,I.hok.fresh w,B,fun z=>?_,E⟩
  have z':D∈u9 X.stack:=z
  obtain⟨_,o,F,_⟩:=I.stack.mem z'
  exact absurd (bz (aF F) w) (bN _)
 ·unfold uR
  show _=N.length
  rw[ay,ai,cV]
  have:=S.len
  omega
end
section
variable{X:Cx}
theorem qD {tg iter elt:bS}{ifs:List bS}{scope:gc}{pos:Pos}{wi:TI}{g:TG}{tc:TT}{te:TE}{N:List Str}{caps:List Nat}(hc:X.calm=true)(S:CompScope X.env.scope X.N N scope caps)
  (hi:PI X tg iter wi) (hg:∀cl C s H ex,PG (vE X N scope cl C s H ex) tg g) (hf:∀cl C s H ex,PF (vE X N scope cl C s H ex) ifs tc) (he:∀cl C s H ex,PE (vE X N scope cl C s H ex) elt te)
  (hs:∀x,foldedSetIterable iter X.env x=pure x:=by intro _;rfl):PE X (.ListComp elt [⟨tg,iter,ifs,0⟩] scope pos) (zGl wi g tc te caps N.length):=by
 intro pins s σ H Q I h
 obtain⟨cl,hcl,hcl1,hcl2⟩:=zGg (env:=X.env) (scope:=scope) fun y hy e=>I.ok.has y.1 (S.free y hy e)
 rw[eval_ListComp]
 refine lZ (use:=none) rfl hs hcl S.kind S.names (zM (hi pins s σ H _ I h) fun v s1 h1=>zM h1 fun itv s2 h2=>?_)
 obtain⟨it,fp,tn,J,H2,e,I2,T,st2,f2,W,⟨m0,w0⟩,turn⟩:=h2
 subst e
 refine cu (jo S.nocell (by intro y hy;simp at hy) (fun h₁ hns hsb=>?_) S.kind)
 dsimp only at hns hsb⊢
 generalize hG:s2.heap.push {cls:=.type "list",dict:=none,data:=.seq ([]:List aj).toArray}=G at hns hsb⊢
 have hCs:G.objs.size=s2.heap.objs.size+1:=by rw[<-hG,bI]
 have hDC:s2.heap.objs.size≠G.objs.size:=by rw[hCs];exact bp (dG _)
 have old:∀b o,s2.heap.get? b=some o->h₁.get? b=some o:=fun b o e=>by
  have hb:=aF e
  refine hsb.extBut b o (by rw[hCs];exact bp (bT hb)) (ae _ ?_)
  rw[<-hG]
  exact ae _ e
 have hD:h₁.get? s2.heap.objs.size=some {cls:=.type "list",dict:=none,data:=.seq ([]:List aj).toArray}:=by
  refine hsb.extBut _ _ hDC (ae _ ?_)
  rw[<-hG]
  exact aE _ rfl
 have hfo:∀b∈fp,b<s2.heap.objs.size:=fun b hb=>let⟨o,e,_⟩:=T.obj 0 _ st2 b hb;aF e
 have hCle:s2.heap.objs.size<=G.objs.size:=by omega
 have ok:=zGm (C:=G.objs.size) I2 S hcl1 hcl2 hCle f2 hfo
 have I0:Inv (vE X N scope cl G.objs.size s2 H2 fp) [(s2.heap.objs.size,{cls:=.type "list",dict:=none,data:=.seq ([]:List aj).toArray})] (uR caps N.length σ) H2 {s2 with heap:=h₁,toks:=s2.toks+([]:List (Str×aj)).length} :=
  zGn I2 ok S hcl1 hcl2 old hns hCle hD (aC _) hDC (fun v z=>by cases z)
 have st1:tn 0 h₁:=T.keep 0 _ _ st2 fun b _ o e=>old b o e
 generalize hX:vE X N scope cl G.objs.size s2 H2 fp=X' at I0
 generalize hDa:s2.heap.objs.size=D at I0 hD hDC
 have loop:codeAny (model X.prog X.w) X.A (.compLoop (.ListComp elt [⟨tg,iter,ifs,0⟩] scope pos) 0 (.ref it) (.ref D) (compEnvC scope cl G.objs.size X.env)) (compPost (model X.prog X.w) X.A X.xe none (EP X pins σ Q) (.ref D) G.objs.size)
   {s2 with heap:=h₁,toks:=s2.toks+([]:List (Str×aj)).length}:=by
  subst hX
  refine zGh (J:=fun n s'=>∃i σ' H' acc its e,Inv (vE X N scope cl G.objs.size s2 H2 fp) [(D,{cls:=.type "list",data:=.seq (il its) e})] σ' H' s'/\zU acc its/\acc.length<=sizeLine/\tn i s'.heap/\(∀b∈fp,H' b=none)/\W i n acc σ' H')
   ?_ m0 ⟨0,_,H2,[],[],0,I0,.nil,bw _,st1,fun b hb=>(f2 b hb).1,w0⟩
  rintro n s3 ⟨i,σ3,H3,acc,its,ep,I3,rv,hz,st3,fr3,w3⟩
  have stat:∀{H':Hp} {pl:List (ak×Obj)},(∀b∈fp,H' b=none)->(∀p∈pl,p.1=D)->∀b∈fp,qI (vE X N scope cl G.objs.size s2 H2 fp) pl H' b:=fun{H' pl} hn hpl b hb=>by
   obtain⟨a1,a2⟩:=ok.exf b hb
   exact⟨hn b hb,a1,ok.exfs b hb,.inl hb,fun x c e=>a2 x c e,fun p hp=>by
    have hp':p∈pl:=hp
    rw[hpl p hp',<-hDa]
    exact de (hfo b hb)⟩
  have one:∀p∈[(D,({cls:=.type "list",data:=.seq (il its) ep}:Obj))],p.1=D:=fun p hp=>by
   rcases aL.mp hp with e|e
   ·rw[e]
   ·cases e
  have pinD:∀{pl:List (ak×Obj)} {σ':St} {H':Hp} {s':au} {o:Obj},Inv (vE X N scope cl G.objs.size s2 H2 fp) pl σ' H' s'->(D,o)∈pl->s'.heap.get? D=some o/\H' D=none:=fun{pl σ' H' s' o} I' hm=>by
   obtain⟨a,b,_⟩:=I'.pin (D,o) (aX _ hm)
   exact⟨a,b⟩
  rcases turn i n acc σ3 H3 w3 with⟨stop,q⟩|⟨go,hlt,step⟩
  ·refine cY (T.done (vE X N scope cl G.objs.size s2 H2 fp) rfl rfl rfl hc i _ s3 σ3 H3 (fun _ _=>False) I3 (stat fr3 one) st3 stop) (fun r s4 zq=>?_) fun _ _ f=>f
   obtain⟨hr,I4⟩:=zq
   subst hr
   obtain⟨hDo,hDn⟩:=pinD I4 (aq ..)
   obtain⟨m4,hm4,_⟩:=I4.loc
   refine⟨m4,hm4,fun h' hsb'=>?_⟩
   have keepC:∀b u,b≠G.objs.size->s4.heap.get? b=some u->h'.get? b=some u:=fun b u hb e=>hsb'.extBut b u hb e
   have un:Un (u9 X.stack) fp H2 H3 s2.heap s4.heap:=I4.base
   have hDo':h'.get? D=some {cls:=.type "list",data:=.seq (il its) ep}:=keepC D _ hDC hDo
   have hlow:∀b (o:Obj),s2.heap.get? b=some o->b≠G.objs.size/\b≠D:=fun b o e=>by
    have h0:=aF e
    exact⟨by rw[hCs];exact bp (bT h0),by rw[<-hDa];exact bp h0⟩
   have un':Un (u9 X.stack) fp H2 (upd H3 D (.lst acc)) s2.heap h' :=
    ⟨fun b o e n' hb hx=>keepC b o (hlow b o e).1 (un.keep b o e n' hb hx),
     fun b o e n' hb hx=>let⟨sl,q⟩:=un.slot b o e n' hb hx;⟨sl,keepC b _ (hlow b o e).1 q⟩,
     fun b o e n' hx=>by rw[zG (hlow b o e).2];exact un.free b o e n' hx,
     fun b o e hx=>let⟨o',q⟩:=un.there b o e hx;⟨o',keepC b _ (hlow b o e).1 q⟩,
     fun b xs e=>by rw[zG (yK (un.tups b xs e) hDn)];exact un.tups b xs e,
     fun b o u e=>by rw[zG (yK (un.frzs b o u e) hDn)];exact un.frzs b o u e,
     fun b ps e=>let⟨mo,q⟩:=un.tbls b ps e;⟨mo,by rw[zG (yK q hDn)];exact q⟩⟩
   have hok:yI X.prog X.w (upd H3 D (.lst acc)) h':=(I4.hok.but I4.free keepC).track hDn ⟨hz,its,ep,rv,hDo'⟩
   refine⟨.ref D,upd H3 D (.lst acc),I2.call' (s':={s4 with heap:=h'}) I4.os un' hok I4.bare (fun b hb=>?_),rfl,q D hDn⟩
   obtain⟨_,f1,_,f3,f4,f5⟩:=f2 b hb
   exact⟨f3,f1,f4,f5⟩
  ·refine cY (T.item (vE X N scope cl G.objs.size s2 H2 fp) rfl rfl rfl hc i _ s3 σ3 H3 (fun _ _=>False) I3 (stat fr3 one) st3 go) (fun r s4 zq=>?_) fun _ _ f=>f
   obtain⟨u,hr,h4⟩:=zq
   subst hr
   refine zM h4 fun _ s5 zq=>?_
   obtain⟨x,H5,I5,r5,y5,st5,fr5⟩:=zq
   have I5':=I5.pinned (stat fr5 one) (T.obj _ _ st5)
   refine zM (hg cl G.objs.size s2 H2 fp _ s5 σ3 H5 x u _ I5' r5 (step x H5 y5)) fun _ s6 ⟨σ6,H6,I6,q6⟩=>?_
   refine zM (hf cl G.objs.size s2 H2 fp _ s6 σ6 H6 _ I6 q6) fun b s7 zq=>?_
   obtain⟨H7,I7,q7⟩:=zq
   have fin:∀{pl:List (ak×Obj)} {σ':St} {H':Hp} {s':au},Inv (vE X N scope cl G.objs.size s2 H2 fp) (pl++zAm fp s5.heap) σ' H' s'->tn (i+1) s'.heap/\∀b∈fp,H' b=none:=fun{pl σ' H' s'} I'=>by
    refine⟨T.keep _ _ _ st5 fun b hb o e=>(I'.pin (b,o) (aX _ (aX _ (zAP hb e)))).1,fun b hb=>?_⟩
    obtain⟨o,e,_⟩:=T.obj _ _ st5 b hb
    exact(I'.pin (b,o) (aX _ (aX _ (zAP hb e)))).2.1
   cases b with
   |false=>
    rw[if_neg bg]at q7⊢
    obtain⟨m',hm,w7⟩:=q7
    obtain⟨a1,a2⟩:=fin I7
    exact⟨m',hm,i+1,σ6,H7,acc,its,ep,I7.unpinned,rv,hz,a1,a2,w7⟩
   |true=>
    rw[if_pos rfl]at q7⊢
    refine zM (he cl G.objs.size s2 H2 fp _ s7 σ6 H7 _ I7 q7) fun y s8 zq=>?_
    obtain⟨yv,H8,I8,r8,m',hm,w8⟩:=zq
    obtain⟨a1,a2⟩:=fin I8
    obtain⟨b1,b2⟩:=pinD I8 (bY _ (aq ..))
    have hl:=rv.length
    refine jh lx ⟨_,b1,rfl⟩ kf (jn _ _) (lP D its.toArray ep y (by rw[aP];omega)) ⟨b1,?_⟩
    have q9:=mr b1 (·.push y)
    have kp:∀b o,b≠D->s8.heap.get? b=some o->(s8.heap.update D (bP (·.push y))).get? b=some o:=fun b o hb e=>(bC s8.heap (bP (·.push y)) (eN hb)).trans e
    have I9:Inv (vE X N scope cl G.objs.size s2 H2 fp) [] σ6 H8 {s8 with heap:=s8.heap.update D (bP (·.push y))} :=
     (I8.pins_of (pins':=[]) fun p hp=>by cases hp).turned (t':=s8.toks) kp b2 hDC (.inr (by rw[<-hDa];exact aC _)) (fun x c e z=>by
      have e':X.env.cells.lookup x=some c:=hcl1 x c e
      obtain⟨v',hv'⟩:=I2.cell x c e'
      have h0:=hv'.lt
      rw[z,<-hDa]at h0
      exact bN _ h0) fun p hp=>by
       have:p∈([]:List (ak×Obj)):=hp
       cases this
    have hpu:its.toArray.push y=(its++[y]).toArray:=by simp
    rw[hpu]at q9
    obtain⟨e9,q9⟩:∃e9,(s8.heap.update D (bP (·.push y))).get? D=some {cls:=.type "list",data:=.seq (its++[y]).toArray e9}:=⟨_,q9⟩
    refine⟨m',hm,i+1,σ6,H8,acc++[yv],its++[y],e9,I9.pins_of fun p hp=>?_,rv.append (.cons r8 .nil),?_,T.keep _ _ _ a1 fun b hb o e=>kp b o ?_ e,a2,w8⟩
    ·obtain rfl:p=(D,{cls:=.type "list",data:=.seq (its++[y]).toArray e9}):=by
      rcases aL.mp hp with e|e
      ·exact e
      ·cases e
     obtain⟨_,_,c3,c4,_⟩:=I8.pin (D,_) (aX _ (bY _ (aq ..)))
     exact⟨q9,b2,c3,c4,fun v z=>by cases z⟩
    ·rw[ay,bR];omega
    ·rintro rfl
     have h0:=hfo b hb
     rw[hDa]at h0
     exact bN _ h0
 exact mN loop (T.self X.A 0 _ _ _ st1 loop)
end
theorem zB.seqT {K:ag}{H b:Hp}{a:ak}{xs:List V}(e:zB H b)(h:z7 K H a xs):z7 K b a xs:=by
 rcases h with(h|⟨o,h⟩)|h
 ·exact .inl (.inl (e _ _ h))
 ·exact .inl (.inr ⟨o,e _ _ h⟩)
 ·exact .inr h
mutual
noncomputable def vO (K:ag)(H:Hp):d5->V->Prop
 | .none,v=>v=.non
 | .bool b,v=>v=.bl b
 | .int i,v=>v=.int i
 | .str x,v=>v=.str x
 | .list ds,v=>∃a xs,v=.ref a/\yG K H a xs/\Reps K H ds xs
 | .tuple ds,v=>∃a xs,v=.ref a/\z7 K H a xs/\Reps K H ds xs
 | .dict _,_=>False
noncomputable def Reps (K:ag)(H:Hp):List d5->List V->Prop
 | [],xs=>xs=[]
 |d::ds,xs=>∃y ys,xs=y::ys/\vO K H d y/\Reps K H ds ys
end
mutual
theorem vO.same {K:ag}{H j:Hp}(e:zB H j):∀(d:d5) (v:V),vO K H d v->vO K j d v
 | .none,v,h=>h
 | .bool b,v,h=>h
 | .int i,v,h=>h
 | .str x,v,h=>h
 | .list ds,v,h=>by
  obtain⟨a,xs,c,f,g⟩:=h
  exact⟨a,xs,c,e.seq f,Reps.same e ds xs g⟩
 | .tuple ds,v,h=>by
  obtain⟨a,xs,c,f,g⟩:=h
  exact⟨a,xs,c,e.seqT f,Reps.same e ds xs g⟩
 | .dict _,v,h=>h
theorem Reps.same {K:ag}{H a:Hp}(e:zB H a):∀(ds:List d5) (xs:List V),Reps K H ds xs->Reps K a ds xs
 | [],xs,h=>h
 |d::ds,xs,h=>by
  obtain⟨y,ys,b,c,f⟩:=h
  exact⟨y,ys,b,vO.same e d y c,Reps.same e ds ys f⟩
end
theorem Reps.length {K:ag}{H:Hp}:∀{ds:List d5}{xs:List V},Reps K H ds xs->ds.length=xs.length
 | [],xs,h=>by rw[show xs=[]from h];rfl
 |d::ds,xs,h=>by
  obtain⟨y,ys,a,_,b⟩:=h
  rw[a,aM,aM,Reps.length b]
theorem Reps.get {K:ag}{H:Hp}:∀{ds:List d5}{xs:List V}{i:Nat}{y:V},Reps K H ds xs->xs[i]?=some y->∃d,ds[i]?=some d/\vO K H d y
 | [],xs,i,y,h,e=>by rw[show xs=[]from h]at e;simp at e
 |d::ds,xs,i,y,h,e=>by
  obtain⟨z,g,a,b,c⟩:=h
  subst a
  cases i with
  |zero=>
   have:z=y:=by simpa using e
   subst this
   exact⟨d,rfl,b⟩
  |succ i=>
   obtain⟨d',e1,f⟩:=Reps.get (i:=i) c (by simpa using e)
   exact⟨d',by simpa using e1,f⟩
theorem Reps.append {K:ag}{H:Hp}:∀{ds a:List d5}{xs ys:List V},Reps K H ds xs->Reps K H a ys->Reps K H (ds++a) (xs++ys)
 | [],a,xs,ys,h,h'=>by rw[show xs=[]from h];exact h'
 |d::ds,a,xs,ys,h,h'=>by
  obtain⟨z,b,c,e,f⟩:=h
  subst c
  exact⟨z,b++ys,rfl,e,Reps.append f h'⟩
theorem Reps.one {K:ag}{H:Hp}{d:d5}{v:V}(h:vO K H d v):Reps K H [d] [v]:=⟨v,[],rfl,h,rfl⟩
theorem Reps.strs {K:ag}{H:Hp}:∀{a:List Str}{xs:List V},Reps K H (a.map PyData.str) xs↔xs=a.map V.str
 | [],xs=>Iff.rfl
 |s::a,xs=>by
  constructor
  ·rintro⟨y,ys,c,d,f⟩
   have b:y=.str s:=d
   rw[c,b,Reps.strs.mp f];rfl
  ·intro e
   exact⟨.str s,a.map V.str,e,rfl,Reps.strs.mpr rfl⟩
section
variable{X:Cx}{pins:List (ak×Obj)}{σ:St}{H:Hp}{s:au}
mutual
theorem vO.reads (I:Inv X pins σ H s):∀(d:d5) (v:V) (u:aj),vO X.K H d v->zX v u->∃as,Reads s.heap u d as
 | .none,v,u,h,r=>by
  have h':v=.non:=h
  subst h'
  cases r
  exact⟨_,.none⟩
 | .bool b,v,u,h,r=>by
  have h':v=.bl b:=h
  subst h'
  cases r
  exact⟨_,.bool b⟩
 | .int i,v,u,h,r=>by
  have h':v=.int i:=h
  subst h'
  obtain⟨t,rfl⟩:=r
  exact⟨_,.int i t⟩
 | .str x,v,u,h,r=>by
  have h':v=.str x:=h
  subst h'
  obtain⟨t,rfl⟩:=r
  exact⟨_,.str x t⟩
 | .list ds,v,u,h,r=>by
  obtain⟨a,xs,c,f,g⟩:=h
  subst c
  cases r
  obtain⟨its,j,⟨o,n,e,l,_,hd⟩,_⟩:=I.list f
  obtain⟨as,m⟩:=Reps.reads I ds xs its g j
  exact⟨_,.list e l hd (by simpa using m)⟩
 | .tuple ds,v,u,h,r=>by
  obtain⟨a,xs,c,f,g⟩:=h
  subst c
  cases r
  obtain⟨its,j,⟨o,e,l,n,hd⟩,_⟩:=I.tuple f
  obtain⟨as,m⟩:=Reps.reads I ds xs its g j
  exact⟨_,.tuple e l hd (by simpa using m)⟩
 | .dict _,v,u,h,r=>h.elim
theorem Reps.reads (I:Inv X pins σ H s):∀(ds:List d5) (xs:List V) (a:List aj),Reps X.K H ds xs->zU xs a->∃as,ReadsAll s.heap a ds as
 | [],xs,a,h,r=>by
  have h':xs=[]:=h
  subst h'
  cases r
  exact⟨_,.nil⟩
 |d::ds,xs,a,h,r=>by
  obtain⟨y,ys,b,c,e⟩:=h
  subst b
  cases r with
  |cons f g=>
   obtain⟨as,i⟩:=vO.reads I d y _ c f
   obtain⟨bs,j⟩:=Reps.reads I ds ys _ e g
   exact⟨_,.cons i j⟩
end
noncomputable def zGo (K:ag)(neg:Bool):R2:=fun x y H Q=>∃d e,vO K H d x/\vO K H e y/\ip d=true/\ip e=true/\Q (.bl (if neg=true then !PyData.eqv d e else hV d e)) H
theorem zMq (a:X.A.units+64<cLine):yO X (compareOp .Eq) (zGo X.K false):=by
 intro pins s σ H x y v u Q I b c h
 obtain⟨d,e,f,g,i,j,q⟩:=h
 obtain⟨as,l⟩:=vO.reads I d x v f b
 obtain⟨bs,m⟩:=vO.reads I e y u g c
 exact eq_dataH l m i j a ⟨.bl _,H,I,rfl,q⟩
theorem zCH (a:X.A.units+64<cLine):yO X (compareOp .NotEq) (zGo X.K true):=by
 intro pins s σ H x y v u Q I b c h
 obtain⟨d,e,f,g,i,j,q⟩:=h
 obtain⟨as,l⟩:=vO.reads I d x v f b
 obtain⟨bs,m⟩:=vO.reads I e y u g c
 exact ne_dataH l m i j a ⟨.bl _,H,I,rfl,q⟩
end
mutual
theorem zGp:∀d:d5,d.canLay0=true->hV d d=true
 | .none,_=>rfl
 | .bool b,_=>by simp[hV]
 | .int i,_=>by simp[hV]
 | .str x,_=>by simp[hV]
 | .list ds,h=>by
  have h':dP ds=true:=by simpa [eJ]using h
  simp only[hV];exact eqvAll_refl ds h'
 | .tuple ds,h=>by
  have h':dP ds=true:=by simpa [eJ]using h
  simp only[hV];exact eqvAll_refl ds h'
 | .dict _,h=>by simp[eJ]at h
theorem eqvAll_refl:∀ds:List d5,dP ds=true->su ds ds=true
 | [],_=>rfl
 |d::ds,h=>by
  have h':d.canLay0=true/\dP ds=true:=by simpa [dP]using h
  simp only[su,zGp d h'.1,eqvAll_refl ds h'.2,ma]
end
end L2
end
section
open PySem PySem.W PyProof.Rows
namespace MyS
noncomputable def ev {α:Type}(lt:Nat->Nat->Bool):KasT α->α
 | .ret a=>a
 | .ask i j k=>ev lt (k (lt i j))
theorem zAv {α β:Type}(lt:Nat->Nat->Bool)(f:α->KasT β):∀t:KasT α,ev lt (t.bind f)=ev lt (f (ev lt t))
 | .ret _=>rfl
 | .ask i j k=>zAv lt f (k (lt i j))
noncomputable def uC {α:Type}(lt:Nat->Nat->Bool)(N:Nat):KasT α->Prop
 | .ret _=>True
 | .ask i j k=>i<N/\j<N/\i≠j/\uC lt N (k (lt i j))
theorem zAw {α β:Type}{lt:Nat->Nat->Bool}{N:Nat}{f:α->KasT β}:∀(t:KasT α),uC lt N t->uC lt N (f (ev lt t))->uC lt N (t.bind f)
 | .ret _,_,h=>h
 | .ask i j k,h,h'=>⟨h.1,h.2.1,h.2.2.1,zAw (k (lt i j)) h.2.2.2 h'⟩
structure TotalOn (lt:Nat->Nat->Bool) (n:Nat):Prop where
 irr:∀i,i<n->lt i i=false
 tr:∀i j k,i<n->j<n->k<n->lt i j=true->lt j k=true->lt i k=true
 tot:∀i j,i<n->j<n->i≠j->lt i j=true\/lt j i=true
noncomputable abbrev gg (p:Array Nat)(i:Nat):Nat:=p.getD i 0
noncomputable def Pm (p:Array Nat)(n:Nat):Prop:=p.toList.Perm (bA n)
theorem Pm.size {p:Array Nat}{n:Nat}(h:Pm p n):p.size=n:=by
 have:=uy h
 simpa using this
theorem zAU {p:Array Nat}{i:Nat}(h:i<p.size):gg p i=p[i]:=by simp[gg,Array.getD,h]
theorem Pm.lt {p:Array Nat}{n i:Nat}(h:Pm p n)(hi:i<n):gg p i<n:=by
 have a:i<p.size:=by rw[h.size];exact hi
 have b:p[i]∈bA n:=(vg h).mp (by simp)
 rw[zAU a]
 exact bK.mp b
theorem Pm.ne {p:Array Nat}{n i j:Nat}(h:Pm p n)(hi:i<n)(d:j<n)(c:i≠j):gg p i≠gg p j:=by
 have a:i<p.size:=by rw[h.size];exact hi
 have b:j<p.size:=by rw[h.size];exact d
 have nd:p.toList.Nodup:=(uz h).mpr mx
 rw[zAU a,zAU b]
 intro e
 apply c
 have f:p.toList[i]'(by simpa using a)=p.toList[j]'(by simpa using b):=by simpa using e
 exact(eC nd).mp f
theorem Pm.perm {p q:Array Nat}{n:Nat}(h:Pm p n)(e:q.Perm p):Pm q n:=(Array.perm_iff_toList_perm.mp e).trans h
noncomputable def Up (lt:Nat->Nat->Bool)(p:Array Nat)(k:Nat):Prop:=∀i j,i<j->j<k->lt (gg p i) (gg p j)=true
noncomputable def Dn (lt:Nat->Nat->Bool)(p:Array Nat)(k:Nat):Prop:=∀i j,i<j->j<k->lt (gg p j) (gg p i)=true
section
variable{lt:Nat->Nat->Bool}{N:Nat}{p:Array Nat}
theorem TotalOn.flip (O:TotalOn lt N){i j:Nat}(hi:i<N)(b:j<N)(a:i≠j)(h:lt i j=false):lt j i=true:=by
 rcases O.tot i j hi b a with h'|h'
 ·rw[h]at h';cases h'
 ·exact h'
theorem Up.more (O:TotalOn lt N)(P:Pm p N){n:Nat}(d:1<=n)(b:n<N)(u:Up lt p n)(h:lt (gg p (n-1)) (gg p n)=true):Up lt p (n+1):=by
 intro i j a f
 by_cases e:j=n
 ·subst e
  by_cases c:i=j-1
  ·subst c;exact h
  ·exact O.tr _ _ _ (P.lt (by omega)) (P.lt (by omega)) (P.lt b) (u i (j-1) (by omega) (by omega)) h
 ·exact u i j a (by omega)
theorem Dn.more (O:TotalOn lt N)(P:Pm p N){n:Nat}(d:1<=n)(b:n<N)(u:Dn lt p n)(h:lt (gg p n) (gg p (n-1))=true):Dn lt p (n+1):=by
 intro i j a f
 by_cases e:j=n
 ·subst e
  by_cases c:i=j-1
  ·subst c;exact h
  ·exact O.tr _ _ _ (P.lt b) (P.lt (by omega)) (P.lt (by omega)) h (u i (j-1) (by omega) (by omega))
 ·exact u i j a (by omega)
theorem zGq:Up lt p 1:=fun i j a b=>by omega
theorem zCI (O:TotalOn lt N)(P:Pm p N):∀(f n:Nat),1<=n->n+f<=N->Up lt p n->
  n<=ev lt (iU p f n)/\ev lt (iU p f n)<=n+f/\Up lt p (ev lt (iU p f n))/\(ev lt (iU p f n)<n+f->lt (gg p (ev lt (iU p f n))) (gg p (ev lt (iU p f n)-1))=true)
 |0,n,_,_,u=>⟨aC _,aC _,u,fun h=>absurd h (bN _)⟩
 |f+1,n,a,i,u=>by
  have e:ev lt (iU p (f+1) n)=ev lt (if lt (gg p n) (gg p (n-1))=true then KasT.ret n else iU p f (n+1)):=rfl
  rw[e]
  cases c:lt (gg p n) (gg p (n-1))with
  |true=>
   rw[if_pos rfl]
   exact⟨aC _,Nat.le_add_right _ _,u,fun _=>c⟩
  |false=>
   rw[if_neg (by simp)]
   have b:=O.flip (P.lt (by omega)) (P.lt (by omega)) (P.ne (by omega) (by omega) (by omega)) c
   obtain⟨j,l,d,g⟩:=zCI O P f (n+1) (by omega) (by omega) (u.more O P a (by omega) b)
   exact⟨by omega,by omega,d,fun h=>g (by omega)⟩
theorem zDK (P:Pm p N):∀(f n:Nat),1<=n->n+f<=N->uC lt N (iU p f n)
 |0,n,_,_=>trivial
 |f+1,n,a,b=>by
  refine⟨P.lt (by omega),P.lt (by omega),P.ne (by omega) (by omega) (by omega),?_⟩
  show uC lt N (if lt (gg p n) (gg p (n-1))=true then KasT.ret n else iU p f (n+1))
  split
  ·trivial
  ·exact zDK P f (n+1) (by omega) (by omega)
theorem zGr (O:TotalOn lt N)(P:Pm p N):∀(f n:Nat),1<=n->n+f<=N->uC lt N (fO f p n 0)
 |0,n,_,_=>trivial
 |f+1,n,b,e=>by
  refine⟨P.lt (by omega),P.lt (by omega),P.ne (by omega) (by omega) (by omega),?_⟩
  show uC lt N (if lt (gg p n) (gg p (n-1))=true then(if 0>0 then fO f (mO p (n- (0+1)) n) (n+1) 0 else fO f p (n+1) 0)
   else .ask (gg p (n-1)) (gg p n) fun d=>if d=true then .ret (p,n,0)else fO f p (n+1) (0+1))
  cases c:lt (gg p n) (gg p (n-1))with
  |true=>
   rw[if_pos rfl,if_neg (by omega)]
   exact zGr O P f (n+1) (by omega) (by omega)
  |false=>
   rw[if_neg (by simp)]
   have a:=O.flip (P.lt (by omega)) (P.lt (by omega)) (P.ne (by omega) (by omega) (by omega)) c
   refine⟨P.lt (by omega),P.lt (by omega),P.ne (by omega) (by omega) (by omega),?_⟩
   show uC lt N (if lt (gg p (n-1)) (gg p n)=true then KasT.ret (p,n,0)else fO f p (n+1) (0+1))
   rw[a,if_pos rfl]
   trivial
theorem zDL (O:TotalOn lt N)(P:Pm p N):∀(f n:Nat),1<=n->n+f<=N->Dn lt p n->
  ∃m,ev lt (fO f p n 0)=(p,m,0)/\n<=m/\m<=n+f/\Dn lt p m
 |0,n,_,_,u=>⟨n,rfl,aC _,aC _,u⟩
 |f+1,n,a,j,u=>by
  have e:ev lt (fO (f+1) p n 0)=ev lt (if lt (gg p n) (gg p (n-1))=true then(if 0>0 then fO f (mO p (n- (0+1)) n) (n+1) 0 else fO f p (n+1) 0)
   else .ask (gg p (n-1)) (gg p n) fun d=>if d=true then .ret (p,n,0)else fO f p (n+1) (0+1)):=rfl
  rw[e]
  cases c:lt (gg p n) (gg p (n-1))with
  |true=>
   rw[if_pos rfl,if_neg (by omega)]
   obtain⟨m,b,l,o,g⟩:=zDL O P f (n+1) (by omega) (by omega) (u.more O P a (by omega) c)
   exact⟨m,b,by omega,by omega,g⟩
  |false=>
   rw[if_neg (by simp)]
   have h:=O.flip (P.lt (by omega)) (P.lt (by omega)) (P.ne (by omega) (by omega) (by omega)) c
   have i:ev lt (.ask (gg p (n-1)) (gg p n) fun d=>if d=true then KasT.ret (p,n,0)else fO f p (n+1) (0+1))=ev lt (if lt (gg p (n-1)) (gg p n)=true then KasT.ret (p,n,0)else fO f p (n+1) (0+1)):=rfl
   rw[i,h,if_pos rfl]
   exact⟨n,rfl,aC _,by omega,u⟩
theorem zGs {m k:Nat}(b:m<=p.size):gg (mO p 0 m) k=if k<m then gg p (m-1-k)else gg p k:=by
 have e:=getElem?_mirror_all (i:=0) b k
 have a:∀(q:Array Nat) (x:Nat),gg q x=(q[x]?).getD 0:=fun q x=>by simp[gg]
 rw[a,a,a]
 show((mirror p 0 m ((m-0)/2))[k]?).getD 0=_
 rw[e]
 by_cases h:k<m
 ·rw[if_pos ⟨bw _,h⟩,if_pos h]
  simp
 ·rw[if_neg (fun z=>h z.2),if_neg h]
theorem zMr (P:Pm p N){m:Nat}(b:m<=N)(d:Dn lt p m):Up lt (mO p 0 m) m:=by
 intro i j c e
 have a:m<=p.size:=by rw[P.size];exact b
 rw[zGs a,zGs a,if_pos (by omega),if_pos e]
 exact d _ _ (by omega) (by omega)
theorem zDM (P:Pm p N)(i j:Nat):Pm (mO p i j) N:=P.perm (mirror_perm p i j _)
theorem zGt (O:TotalOn lt N)(P:Pm p N)(w:2<=N):∃m q,ev lt (pG N p)=(m,q)/\1<=m/\m<=N/\Pm q N/\Up lt q m:=by
 obtain⟨b,h,a,f⟩:=zCI O P (N-1) 1 (aC _) (by omega) zGq
 unfold pG
 rw[zAv]
 generalize x:ev lt (iU p (N-1) 1)=n at b h a f
 by_cases e1:(n==N)=true
 ·rw[if_pos e1]
  exact⟨n,p,rfl,b,by omega,P,a⟩
 ·rw[if_neg e1]
  have l:n≠N:=by simpa using e1
  by_cases g:n>1
  ·rw[if_pos g]
   have c:lt (gg p 0) (gg p (n-1))=true:=a 0 (n-1) (by omega) (by omega)
   have o:ev lt (KasT.ask (p.getD 0 0) (p.getD (n-1) 0) fun c=>if c=true then KasT.ret (n,p)else ki n N (mO p 0 n))=ev lt (if lt (gg p 0) (gg p (n-1))=true then KasT.ret (n,p)else ki n N (mO p 0 n)):=rfl
   rw[o,c,if_pos rfl]
   exact⟨n,p,rfl,b,by omega,P,a⟩
  ·rw[if_neg g]
   have e:n=1:=by omega
   subst e
   have c:=f (by omega)
   have r:Dn lt p 2:=fun i j s y=>by
    have:i=0:=by omega
    have:j=1:=by omega
    subst i;subst j;exact c
   obtain⟨m,t,z,A,u⟩:=zDL O P (N-2) 2 (by omega) (by omega) r
   unfold ki
   rw[zAv]
   have d:ev lt (fO (N- (1+1)) p (1+1) 0)=(p,m,0):=t
   rw[d]
   dsimp only
   rw[if_neg (by omega)]
   unfold kas_tail3
   rw[zAv]
   obtain⟨B,C,v,_⟩:=zCI O (zDM P 0 m) (N-m) m (by omega) (by omega) (zMr P (by omega) u)
   exact⟨_,_,rfl,by omega,by omega,zDM P 0 m,v⟩
theorem zMs (O:TotalOn lt N)(P:Pm p N)(s:2<=N):uC lt N (pG N p):=by
 obtain⟨g,h,b,d⟩:=zCI O P (N-1) 1 (aC _) (by omega) zGq
 unfold pG
 refine zAw _ (zDK P _ _ (aC _) (by omega)) ?_
 generalize t:ev lt (iU p (N-1) 1)=n at g h b d
 by_cases e1:(n==N)=true
 ·rw[if_pos e1];trivial
 ·rw[if_neg e1]
  have l:n≠N:=by simpa using e1
  by_cases f:n>1
  ·rw[if_pos f]
   have c:lt (gg p 0) (gg p (n-1))=true:=b 0 (n-1) (by omega) (by omega)
   refine⟨P.lt (by omega),P.lt (by omega),P.ne (by omega) (by omega) (by omega),?_⟩
   show uC lt N (if lt (gg p 0) (gg p (n-1))=true then KasT.ret (n,p)else ki n N (mO p 0 n))
   rw[c,if_pos rfl]
   trivial
  ·rw[if_neg f]
   have e:n=1:=by omega
   subst e
   have c:=d (by omega)
   have o:Dn lt p 2:=fun i j q u=>by
    have:i=0:=by omega
    have:j=1:=by omega
    subst i;subst j;exact c
   obtain⟨m,r,v,w,x⟩:=zDL O P (N-2) 2 (by omega) (by omega) o
   unfold ki
   refine zAw _ (zGr O P _ _ (by omega) (by omega)) ?_
   have a:ev lt (fO (N- (1+1)) p (1+1) 0)=(p,m,0):=r
   rw[a]
   dsimp only
   rw[if_neg (by omega)]
   unfold kas_tail3
   exact zAw _ (zDK (zDM P 0 m) _ _ (by omega) (by omega)) trivial
theorem zDN (P:Pm p N){k:Nat}(b:k<N):∀(f l r:Nat),r<=k->uC lt N (d6 p k f l r)
 |0,l,r,_=>trivial
 |f+1,l,r,h=>by
  show uC lt N (if l>=r then KasT.ret l else .ask (p.getD k 0) (p.getD ((l+r)/2) 0) fun c=>if c=true then d6 p k f l ((l+r)/2)else d6 p k f ((l+r)/2+1) r)
  by_cases a:l>=r
  ·rw[if_pos a];trivial
  ·rw[if_neg a]
   refine⟨P.lt b,P.lt (by omega),P.ne b (by omega) (by omega),?_⟩
   show uC lt N (if lt (gg p k) (gg p ((l+r)/2))=true then d6 p k f l ((l+r)/2)else d6 p k f ((l+r)/2+1) r)
   split
   ·exact zDN P b f l _ (by omega)
   ·exact zDN P b f _ r h
theorem zDO (O:TotalOn lt N)(P:Pm p N){k:Nat}(d:k<N)(u:Up lt p k):∀(f l r:Nat),l<=r->r<=k->r-l<=f->(∀i,i<l->lt (gg p i) (gg p k)=true)->(∀i,r<=i->i<k->lt (gg p k) (gg p i)=true)->
  ev lt (d6 p k f l r)<=k/\(∀i,i<ev lt (d6 p k f l r)->lt (gg p i) (gg p k)=true)/\∀i,ev lt (d6 p k f l r)<=i->i<k->lt (gg p k) (gg p i)=true
 |0,l,r,q,h,s,a,b=>by
  have:l=r:=by omega
  subst this
  exact⟨h,a,b⟩
 |f+1,l,r,q,h,s,a,b=>by
  have e:ev lt (d6 p k (f+1) l r)=ev lt (if l>=r then KasT.ret l else .ask (p.getD k 0) (p.getD ((l+r)/2) 0) fun c=>if c=true then d6 p k f l ((l+r)/2)else d6 p k f ((l+r)/2+1) r):=rfl
  rw[e]
  by_cases g:l>=r
  ·rw[if_pos g]
   have:l=r:=by omega
   subst this
   exact⟨h,a,b⟩
  ·rw[if_neg g]
   have t:ev lt (KasT.ask (p.getD k 0) (p.getD ((l+r)/2) 0) fun c=>if c=true then d6 p k f l ((l+r)/2)else d6 p k f ((l+r)/2+1) r)=ev lt (if lt (gg p k) (gg p ((l+r)/2))=true then d6 p k f l ((l+r)/2)else d6 p k f ((l+r)/2+1) r):=rfl
   rw[t]
   generalize w:(l+r)/2=m
   have v:l<=m:=by omega
   have x:m<r:=by omega
   cases c:lt (gg p k) (gg p m)with
   |true=>
    rw[if_pos rfl]
    refine zDO O P d u f l m v (by omega) (by omega) a fun i hi j=>?_
    by_cases n:i=m
    ·subst n;exact c
    ·exact O.tr _ _ _ (P.lt d) (P.lt (by omega)) (P.lt (by omega)) c (u m i (by omega) j)
   |false=>
    rw[if_neg (by simp)]
    have o:=O.flip (P.lt d) (P.lt (by omega)) (P.ne d (by omega) (by omega)) c
    refine zDO O P d u f (m+1) r (by omega) h (by omega) (fun i hi=>?_) b
    by_cases n:i=m
    ·subst n;exact o
    ·exact O.tr _ _ _ (P.lt (by omega)) (P.lt (by omega)) (P.lt d) (u i m (by omega) (by omega)) o
theorem zGu {k d x:Nat}(b:k<p.size)(hd:d<=k):gg (bubble p k d) x=if x=k-d then gg p k else if k-d<x/\x<=k then gg p (x-1)else gg p x:=by
 have e:=getElem?_bubble b d hd x
 have a:∀(q:Array Nat) (x:Nat),gg q x=(q[x]?).getD 0:=fun q x=>by simp[gg]
 rw[a,a,a,a,e]
 split
 ·rfl
 ·split<;>rfl
theorem zGv (O:TotalOn lt N):∀(f:Nat) (p:Array Nat) (k:Nat),Pm p N->k+f=N->Up lt p k->Pm (ev lt (oO f p k)) N/\Up lt (ev lt (oO f p k)) N
 |0,p,k,P,e,u=>by
  have:k=N:=by omega
  subst this
  exact⟨P,u⟩
 |f+1,p,k,P,e,u=>by
  have e1:oO (f+1) p k=(d6 p k k 0 k).bind fun l=>oO f (bubble p k (k-l)) (k+1):=rfl
  rw[e1,zAv]
  have g:k<N:=by omega
  obtain⟨r,h,m⟩:=zDO O P g u k 0 k (bw _) (aC _) (by omega) (fun i hi=>by omega) (fun i a b=>by omega)
  generalize ev lt (d6 p k k 0 k)=l at r h m
  have n:k<p.size:=by rw[P.size];exact g
  refine zGv O f _ (k+1) (P.perm (bubble_perm p k _)) (by omega) fun i j c s=>?_
  rw[zGu n (by omega),zGu n (by omega)]
  have d:k- (k-l)=l:=by omega
  rw[d]
  by_cases a:i=l
  ·rw[if_pos a,if_neg (by omega),if_pos (by omega)]
   exact m _ (by omega) (by omega)
  ·rw[if_neg a]
   by_cases b:l<i/\i<=k
   ·rw[if_pos b,if_neg (by omega),if_pos (by omega)]
    exact u _ _ (by omega) (by omega)
   ·rw[if_neg b]
    by_cases o:j=l
    ·rw[if_pos o]
     exact h i (by omega)
    ·rw[if_neg o]
     by_cases q:l<j/\j<=k
     ·rw[if_pos q]
      by_cases t:i=j-1
      ·omega
      ·exact u _ _ (by omega) (by omega)
     ·rw[if_neg q]
      exact u _ _ c (by omega)
theorem zGw (O:TotalOn lt N):∀(f:Nat) (p:Array Nat) (k:Nat),Pm p N->k+f=N->uC lt N (oO f p k)
 |0,p,k,P,e=>trivial
 |f+1,p,k,P,e=>by
  show uC lt N ((d6 p k k 0 k).bind fun l=>oO f (bubble p k (k-l)) (k+1))
  exact zAw _ (zDN P (by omega) _ _ _ (aC _)) (zGw O f _ (k+1) (P.perm (bubble_perm p k _)) (by omega))
theorem zGx (O:TotalOn lt N)(a:2<=N):uC lt N (oP N):=by
 have b:Pm (il (bA N)) N:=dY _
 obtain⟨m,q,e,g,h,d,i⟩:=zGt O b a
 unfold oP
 refine zAw _ (zMs O b a) ?_
 rw[e]
 dsimp only
 by_cases c:m<N
 ·rw[if_pos c]
  have f:max m 1=m:=by omega
  rw[f]
  exact zGw O (N-m) q m d (by omega)
 ·rw[if_neg c];trivial
theorem zGy (O:TotalOn lt N)(d:2<=N):Pm (ev lt (oP N)) N/\Up lt (ev lt (oP N)) N:=by
 have f:Pm (il (bA N)) N:=dY _
 obtain⟨m,q,e,h,i,a,b⟩:=zGt O f d
 unfold oP
 rw[zAv,e]
 dsimp only
 by_cases c:m<N
 ·rw[if_pos c]
  have g:max m 1=m:=by omega
  rw[g]
  exact zGv O (N-m) q m a (by omega) b
 ·rw[if_neg c]
  have:m=N:=by omega
  subst this
  exact⟨a,b⟩
end
end MyS
end
section
namespace MyS
open PySem PySem.W PyProof.Rows PySem.Spec
theorem zDP {α:Type}{N:Nat}{cmp:Nat->Nat->(Bool->au->Prop)->au->Prop}{lt:Nat->Nat->Bool}{s:au}(b:∀i j,i<N->j<N->i≠j->∀C,C (lt i j) s->cmp i j C s) :
  ∀(t:KasT α) (Q:α->au->Prop),uC lt N t->Q (ev lt t) s->t.kasWp cmp Q s
 | .ret a,Q,_,h=>h
 | .ask i j k,Q,o,h=>b i j o.1 o.2.1 o.2.2.1 _ (zDP b (k (lt i j)) Q o.2.2.2 h)
noncomputable def kR (ks:List Str)(i:Nat):List Nat:=(ks.getD i ⟨#[]⟩).cps.toList
noncomputable def gL (ks:List Str)(i j:Nat):Bool:=decide (kR ks i<kR ks j)
theorem Str_ext {a b:Str}(h:a.cps.toList=b.cps.toList):a=b:=by
 cases a;cases b
 congr 1
 exact jf.mp h
theorem zGz (a b:List Nat)(e:¬a<b)(f:¬b<a):a=b:=by
 have c:b<=a:=ud.mp e
 have d:a<=b:=ud.mp f
 exact List.le_antisymm d c
theorem zMt {ks:List Str}(nd:ks.Nodup):TotalOn (gL ks) ks.length where
 irr:=fun i _=>by simp[gL,fP]
 tr:=fun i j k _ _ _ a b=>by
  simp only[gL,decide_eq_true_eq]at*
  exact n8 a b
 tot:=fun i j hi f c=>by
  simp only[gL,decide_eq_true_eq]
  by_cases a:kR ks i<kR ks j
  ·exact .inl a
  ·by_cases b:kR ks j<kR ks i
   ·exact .inr b
   ·exfalso
    have e:=zGz _ _ a b
    unfold kR at e
    have d:=Str_ext e
    have e1:ks.getD i ⟨#[]⟩=ks[i]:=by simp[hi]
    have g:ks.getD j ⟨#[]⟩=ks[j]:=by simp[f]
    rw[e1,g]at d
    exact c ((eC nd).mp d)
section
variable{prog:aJ}{w:bh}{A:bX}{E:aj->au->Prop}{s:au}
theorem zMu {κ:ue}{a:ak}{vs:List aj}{ks:List Str}{n:Nat}{P:pH->au->Prop}(y:s.heap.get? a=some (seqObj "list" vs.toArray n))(hl:ks.length=vs.length)(nd:ks.Nodup)(z:vs.length<64)
  (M:∀G,(∀b o,b≠a->s.heap.get? b=some o->G.get? b=some o)->2<=vs.length->∀(Q:ue->au->Prop) (R:aj->au->Prop),Q κ {s with heap:=G}->wpAny (model prog w) A (keyKind' vs.toArray) Q R {s with heap:=G})
  (T:∀G,(∀b o,b≠a->s.heap.get? b=some o->G.get? b=some o)->∀i j,i<vs.length->j<vs.length->i≠j->∀C,C (gL ks i j) {s with heap:=G}->kas_ask prog w A κ vs i j C {s with heap:=G})
  (h:∀(p:List Nat) (h':bF) (e:Nat),p.Perm (bA vs.length)->(p.map (kR ks)).Pairwise (· < ·)->(∀b o,b≠a->s.heap.get? b=some o->h'.get? b=some o)->
   h'.get? a=some (seqObj "list" (p.map fun i=>vs.getD i Value.none).toArray e)->P (.done (.ret .none)) {s with heap:=h'}) :
  wpAny (model prog w) A (di.«list.sort» ⟨[.ref a],[]⟩) P E s:=by
 have ha:a<s.heap.objs.size:=aF y
 rw[list_sort_plain]
 refine af (oQ y rfl ?_)
 refine af (gk y rfl ?_ (by rw[aP,aI];omega) (bw _))
 obtain⟨e1,r⟩:∃e1,(s.heap.update a (bP fun _=>(#[]:Array aj))).get? a=some (seqObj "list" #[] e1):=⟨_,iG y fun _=>#[]⟩
 refine af (lR r rfl ?_)
 refine af (lz ?_ (by rw[aI];simp;omega))
 refine af (md ?_ (by simp))
 refine dX ?_
 show wpAny (model prog w) A _ P E {s with heap:=((s.heap.update a (bP fun _=>#[])).push (seqObj "tuple" vs.toArray 0)).push (seqObj "list" #[] 0)}
 generalize L:((s.heap.update a (bP fun _=>(#[]:Array aj))).push (seqObj "tuple" vs.toArray 0)).push (seqObj "list" #[] 0)=G
 have d:G.get? a=some (seqObj "list" #[] e1):=by
  rw[<-L]
  exact ae _ (ae _ r)
 have m:∀b o,b≠a->s.heap.get? b=some o->G.get? b=some o:=fun b o hb e=>by
  rw[<-L]
  exact ae _ (ae _ ((bC _ _ (eN hb)).trans e))
 have hsz:vs.toArray.size=vs.length:=by simp
 have fin:∀(p:List Nat) (out:Array aj) (c:out=(p.map fun i=>vs.getD i Value.none).toArray),p.Perm (bA vs.length)->(p.map (kR ks)).Pairwise (· < ·)->
   P (.done (.ret .none)) {s with heap:=G.update a (bP fun _=>out)}:=fun p out c U f=>by
  subst c
  have W:=iG d fun _=>(p.map fun i=>vs.getD i Value.none).toArray
  exact h p _ _ U f (fun b o hb e=>(bC _ _ (eN hb)).trans (m b o hb e)) W
 dsimp only
 by_cases f:vs.toArray.size<2
 ·rw[if_pos f,if_pos f]
  refine af (az ?_)
  rw[pZ]
  refine af (az ?_)
  dsimp only
  refine af (lR d rfl ?_)
  refine af (gk d rfl ?_ (by simp) (by
   show((vs.toArray.zip vs.toArray).map (·.2)).size<=sizeLine+1
   rw[aI];simp;omega))
  simp only[bne_self_eq_false,eY,if_false]
  refine az (fin (bA vs.length) _ ?_ (dY _) ?_)
  ·show(vs.toArray.zip vs.toArray).map (·.2)=_
   match vs,f with
   | [],_=>simp
   | [v],_=>simp[dE]
   |_::_::_,f=>simp at f;omega
  ·have:vs.length<2:=by simpa using f
   match hv:vs.length,this with
   |0,_=>simp
   |1,_=>simp[dE]
 ·rw[if_neg f,if_neg f]
  have g:2<=vs.length:=by simpa using f
  refine af (M G m g _ _ ?_)
  show wpAny _ _ (StateT.run sortRuns' (SortSt.mk' κ (vs.toArray.zip vs.toArray) #[] 7 none)>>=_) _ _ _
  have O:=zMt nd
  rw[hl]at O
  obtain⟨B,D⟩:=zGy O g
  refine af (cY (kat_run (ks:=vs) (vs:=vs) (Q:=fun l s'=>s'={s with heap:=G}/\failedOf l=none/\∃p:Array Nat,Pm p vs.length/\Up (gL ks) p vs.length/\arrOf l=p.map (kas_item (vs.toArray.zip vs.toArray)))
   (G:=fun p s'=>s'={s with heap:=G}/\Pm p vs.length/\Up (gL ks) p vs.length) rfl g z (fun p l s' _ t F u=>⟨u.1,F,p,u.2.1,u.2.2,t⟩) ?_) ?_ fun _ _ e=>e)
  ·refine zDP (N:=vs.length) (lt:=gL ks) (fun i j hi H q C I=>?_) _ _ (zGx O g) ⟨rfl,B,D⟩
   exact T G m i j hi H q C I
  ·rintro⟨⟨⟩,l⟩ s' ⟨rfl,hf,p,t,F,u⟩
   dsimp only
   have c:=kat_snds (ks:=vs) (vs:=vs) rfl u
   refine af (lR d rfl ?_)
   refine af (gk d rfl ?_ (by simp) (by
    rw[c,aP,ai,aI]
    have:=t.size
    simp
    omega))
   rw[hf]
   simp only[bne_self_eq_false,eY,if_false]
   refine az (fin p.toList _ c t ?_)
   rw[bB,lH]
   intro i j hi H q
   have J:i<p.size:=by simpa using hi
   have x:j<p.size:=by simpa using H
   have:=F i j q (by rw[<-t.size];exact x)
   rw[zAU J,zAU x]at this
   simpa [gL]using this
theorem zMv {a:ak}{vs:List aj}{ks:List Str}{n:Nat}{P:pH->au->Prop}(q:s.heap.get? a=some (seqObj "list" vs.toArray n))(f:tm vs ks)(nd:ks.Nodup)(m:vs.length<64)
  (h:∀(p:List Nat) (h':bF) (e:Nat),p.Perm (bA vs.length)->(p.map (kR ks)).Pairwise (· < ·)->(∀b o,b≠a->s.heap.get? b=some o->h'.get? b=some o)->
   h'.get? a=some (seqObj "list" (p.map fun i=>vs.getD i Value.none).toArray e)->P (.done (.ret .none)) {s with heap:=h'}) :
  wpAny (model prog w) A (di.«list.sort» ⟨[.ref a],[]⟩) P E s:=by
 have d:ks.length=vs.length:=by rw[<-f.strs];simp
 have c:∀i,i<vs.length->∃t,vs.getD i Value.none=.str (ks.getD i ⟨#[]⟩) t:=fun i hi=>by
  obtain⟨x,t,e⟩:=f.all vs[i] (cq hi)
  refine⟨t,?_⟩
  have e1:vs.getD i Value.none=vs[i]:=by simp[hi]
  have r:ks.getD i ⟨#[]⟩=x:=by
   rw[<-f.strs,bZ,ar,av hi,e];rfl
  rw[e1,r,e]
 refine zMu (κ:=oneType') q d nd m (fun G u v Q H y=>?_) (fun G u i j hi z B C D=>?_) h
 ·obtain⟨g,l,vQ,rfl⟩:∃g l vQ,vs=g::l::vQ:=by
   match vs,v with
   |g::l::vQ,_=>exact⟨g,l,vQ,rfl⟩
  rw[keyKind_strs f]
  exact az y
 ·obtain⟨t,e⟩:=c i hi
  obtain⟨t',F⟩:=c j z
  unfold kas_ask
  rw[e,F,keyLt'_oneType]
  exact strKind_oneLt prog w A _ _ _ _ _ _ rfl rfl D
end
end MyS
end
section
namespace L2
open PySem PySem.Spec PyProof.Rows
theorem yV.obj {P:aJ}{w:bh}{H:Hp}{h:bF}{a:ak}{o:HO}(x:yV P w H h a o):∃u,h.get? a=some u:=by
 cases o with
 |lst xs=>obtain⟨_,_,_,_,e⟩:=x;exact⟨_,e⟩
 |tup xs=>obtain⟨_,_,_,_,e,_⟩:=x;exact⟨_,e⟩
 |dK kvs=>obtain⟨_,_,_,_,o,_,_,e,_⟩:=x;exact⟨_,e⟩
 |dT kvs=>obtain⟨_,_,_,_,o,_,_,e,_⟩:=x;exact⟨_,e⟩
 |set S n=>obtain⟨o,_,_,_,e,_⟩:=x;exact⟨_,e⟩
 |ins C b fs=>obtain⟨_,_,_,e,_⟩:=x;exact⟨_,e⟩
 |own y=>exact x
 |xd fs=>obtain⟨_,⟨_,_,_,e,_⟩,_⟩:=x;exact⟨_,e⟩
 |rng lo hi=>obtain⟨_,_,_,e⟩:=x;exact⟨_,e⟩
 |frz c u=>obtain⟨e,_⟩:=x;exact⟨_,e⟩
 |tbl ps=>exact⟨_,(show h.get? a=some _ from x)⟩
 |met f y=>exact⟨_,(show h.get? a=some _ from x)⟩
 |ext φ=>obtain⟨_,e,_⟩:=x;exact e
theorem yI.free {P:aJ}{w:bh}{H:Hp}{h:bF}{a:ak}(x:yI P w H h)(e:h.get? a=none):H a=none:=by
 cases q:H a with
 |none=>rfl
 |some u=>
  obtain⟨v,hv⟩:=(x a u q).obj
  rw[hv]at e;cases e
noncomputable def zHA (d:ak):Obj:={cls:=.type "dict_items",data:=.fields #[.ref d]}
noncomputable def VW (p d:ak):HO:=.ext fun h=>h.get? p=some (zHA d)
section
variable{X:Cx}
noncomputable def zMw:V->List V->Hp->VK->Prop:=fun x vs H Q=>∃d kvs,x=.ref d/\vs=[]/\H d=some (.dK kvs)/\∀p,H p=none->Q (.ref p) (upd H p (VW p d))
theorem zAV:MtM X "dict.items" zMw:=by
 intro c s σ H x vs v l Q I g i h
 obtain⟨d,kvs,rfl,rfl,hd,q⟩:=h
 cases g
 have a:=i.zero
 subst a
 obtain⟨z,j,ws,rel,f⟩:=gI I.hok hd
 refine iT cZ f.typeIs PySem.F.entry_dict_items (PySem.F.args_dict_items_1 _) (meets_dict_items (vP X.prog X.w) d j) ⟨⟨_,f⟩,?_⟩
 refine⟨.ref s.heap.objs.size,_,I.laid (t':=s.toks) (o:=VW s.heap.objs.size d) (fun b o e=>ae _ e) (aC _) ?_,rfl,q _ (I.hok.fresh (aC _))⟩
 exact⟨aE _ rfl,⟨_,aE _ rfl⟩,fun m n e k=>k _ e⟩
noncomputable abbrev vI (kvs:List (Str×V)):List (zO×V):=kvs.map fun q=>(Sum.inr q.1,q.2)
theorem KV.get {kvs:List (zO×V)}{vs:List (zO×aj)}:∀{i:Nat}{k:zO}{x:aj},KV kvs vs->vs[i]?=some (k,x)->∃v,kvs[i]?=some (k,v)/\zX v x:=by
 intro i k x r
 induction r generalizing i with
 |nil=>intro e;simp at e
 |cons h t ih=>
  intro e
  cases i with
  |zero=>
   have a:=aB (by simpa using e)
   rename_i p q _ _
   obtain⟨b,c⟩:=p
   subst a
   have d:b=k:=h.1
   subst d
   exact⟨c,rfl,h.2⟩
  |succ i=>
   obtain⟨v,e1,f⟩:=ih (by simpa using e)
   exact⟨v,by simpa using e1,f⟩
end
noncomputable def Its (z:Str):It:=⟨fun i _=>i<z.cps.size,fun i H x H'=>H'=H/\∃c,z.cps[i]?=some c/\x=.str ⟨#[c]⟩,fun i _=>i=z.cps.size⟩
theorem zHB {P:aJ}{w:bh}{K:ag}{J:bS}(a:ak)(z:Str)(t:Tok)(ty:String)(j:["enumerate","zip","dict_itemiterator","dict_reverseitemiterator","odict_iterator","itertools.zip_longest","itertools.pairwise"].contains ty=false)
  (G:∀A:bX,A.handled=none->Walks P w A a [a] [a] z.cps.size (SignAt z) (fun i h=>h.IsStrIter a ty z t i))
  (L:∀(A:bX) (i:Nat) (s:au) (Q:aj->au->Prop) (E:aj->au->Prop),s.heap.IsStrIter a ty z t i->Q (.ref a) s->wpAny (model P w) A (pyIter (.ref a)) Q E s):Turn P w K J (Its z) [a] a (fun i h=>h.IsStrIter a ty z t i) where
 mem:=by simp
 obj:=fun i h st b hb=>by
  have e:b=a:=by simpa using hb
  subst e
  obtain⟨o,e,c,d⟩:=st
  exact⟨o,e,fun v z=>by rw[d]at z;cases z⟩
 keep:=fun i h h' st k=>let⟨o,e,r⟩:=st;⟨o,k a (by simp) o e,r⟩
 item:=by
  intro X l m n p i f s σ H E I hf st q
  subst l m n
  obtain⟨x,f1,f2,y,B,C⟩:=hf a (by simp)
  refine(G X.A (I.ok.hd p)).item i s _ _ q st fun v h' tk hv g D=>?_
  obtain⟨c,u,F,rfl⟩:=hv
  have M:Inv X f σ H {s with heap:=h',toks:=tk}:=I.turned (fun b o hb e=>D b o (by simpa using hb) e) x f1 y B C
  obtain⟨o,e,oc,od⟩:=id g
  exact⟨_,rfl,zAl (s:={s with heap:=h',toks:=tk}) e oc od j ⟨.str ⟨#[c]⟩,H,M,⟨u,rfl⟩,⟨rfl,c,F,rfl⟩,g,fun b hb=>(hf b hb).1⟩⟩
 done:=by
  intro X l m n p i f s σ H E I hf st q
  subst l m n
  obtain⟨x,f1,f2,y,B,C⟩:=hf a (by simp)
  have hi:i=z.cps.size:=q
  subst hi
  exact(G X.A (I.ok.hd p)).done s _ _ st fun h' tk D=>⟨rfl,I.turned (fun b o hb e=>D b o (by simpa using hb) e) x f1 y B C⟩
 self:=L
section
variable{X:Cx}{tg:bS}
noncomputable def zMx (tl:TE):TI:=fun σ H R=>tl σ H fun x H1=>∃z,x=.str z/\R (Its z) H1
theorem zHC {l:bS}{tl:TE}(hl:PE X l tl):PI X tg l (zMx tl):=by
 intro a s σ H R I h
 refine zM (hl a s σ H _ I h) fun v c zq=>?_
 obtain⟨x,f,d,m,z,n,q⟩:=zq
 subst n
 obtain⟨t,rfl⟩:=m
 have j:∀b∈[c.heap.objs.size],qI X a f b:=fun b hb=>by
  have e:b=c.heap.objs.size:=by simpa using hb
  subst e
  exact d.fpOk (aC _) (d.hok.fresh (aC _))
 cases ha:z.cps.all (· <128)with
 |false=>
  refine wpAny_pyIter_wide ha ⟨c.heap.objs.size,[c.heap.objs.size],_,_,f,rfl,d.kept (t':=c.toks) fun b o e=>ae _ e,zHB _ z t "str_iterator" (by decide) (fun A g=>Walks.strWide g _ z t) (fun A i s Q E st h=>wpAny_pyIter_striter_wide st h),⟨_,aE _ rfl,rfl,rfl⟩,j,q⟩
 |true=>
  refine wpAny_pyIter_ascii ha ⟨c.heap.objs.size,[c.heap.objs.size],_,_,f,rfl,d.kept (t':=c.toks) fun b o e=>ae _ e,zHB _ z t "str_ascii_iterator" (by decide) (fun A g=>Walks.strAscii g _ z t) (fun A i s Q E st h=>wpAny_pyIter_striter_ascii st h),⟨_,aE _ rfl,rfl,rfl⟩,j,q⟩
end
theorem zMy (lo hi:Option Int)(n:Nat):d9 lo hi 1 n=d9 (some ((HT.sIx n 0 lo:Nat):Int)) (some ((HT.sIx n n hi:Nat):Int)) 1 n:=by
 have hl:=HT.sIx_le n 0 (bw _) lo
 have l:=HT.sIx_le n n (aC _) hi
 have key:∀(o:Option Int) (d:Nat),d<=n->(match o with|none=>(d:Int)|some i=>(let i:=if i<0 then i+(n:Int)else i;max 0 (min i (n:Int))))=((HT.sIx n d o:Nat):Int):=by
  intro o d hd
  cases o with
  |none=>rfl
  |some i=>
   show max 0 (min (if i<0 then i+(n:Int)else i) (n:Int))=(((if i<0 then(i+(n:Int)).toNat else min i.toNat n):Nat):Int)
   by_cases h:i<0
   ·rw[if_pos h,if_pos h];omega
   ·rw[if_neg h,if_neg h];omega
 have e1:=key lo 0 (bw _)
 have m:=key hi n (aC _)
 have c:max (0:Int) (min ((HT.sIx n 0 lo:Nat):Int) (n:Int))=((HT.sIx n 0 lo:Nat):Int):=by omega
 have e:max (0:Int) (min ((HT.sIx n n hi:Nat):Int) (n:Int))=((HT.sIx n n hi:Nat):Int):=by omega
 have f:¬(((HT.sIx n 0 lo:Nat):Int)<0):=by omega
 have g:¬(((HT.sIx n n hi:Nat):Int)<0):=by omega
 unfold d9
 simp only[show((1:Int)>0)=True from by simp,if_true,f,g,if_false,c,e]
 have a:∀i:Int,(max 0 (min (if i<0 then i+(n:Int)else i) (n:Int)))=((HT.sIx n 0 (some i):Nat):Int):=fun i=>key (some i) 0 (bw _)
 have b:∀i:Int,(max 0 (min (if i<0 then i+(n:Int)else i) (n:Int)))=((HT.sIx n n (some i):Nat):Int):=fun i=>key (some i) n (aC _)
 have w1:((HT.sIx n 0 none:Nat):Int)=0:=rfl
 have w2:((HT.sIx n n none:Nat):Int)=n:=rfl
 cases lo with
 |none=>
  cases hi with
  |none=>rfl
  |some j=>dsimp only;rw[b,w1]
 |some i=>
  cases hi with
  |none=>dsimp only;rw[a,w2]
  |some j=>
   dsimp only
   have zz:=a i
   rw[zz]
   rw[b]
theorem zMz (x:Str)(lo hi:Option Int):sV x lo hi=⟨((x.cps.toList.drop (HT.sIx x.length 0 lo)).take (HT.sIx x.length x.length hi-HT.sIx x.length 0 lo)).toArray⟩:=by
 have hl:=HT.sIx_le x.length 0 (bw _) lo
 have d:=HT.sIx_le x.length x.length (aC _) hi
 unfold sV
 rw[zMy lo hi]
 generalize HT.sIx x.length 0 lo=a at*
 generalize HT.sIx x.length x.length hi=b at*
 have f:x.cps.toList.length=x.length:=by simp[qt]
 by_cases c:a<=b
 ·have sp:=StrLaws.sliced_plain x c d
  split
  ·rename_i h
   rw[StrLaws.strSliceIndices_plain c d]at h
   have h':b-a=x.length:=by simpa using h
   have ha:a=0:=by omega
   have hb:b=x.cps.toList.length:=by omega
   subst ha
   apply MyS.Str_ext
   show x.cps.toList=((x.cps.toList.drop 0).take (b-0)).toArray.toList
   rw[eK,kj,hb,bo]
  ·rw[sp]
 ·have hb:b-a=0:=by omega
  have e:d9 (some (a:Int)) (some (b:Int)) 1 x.length=[]:=by
   have g:¬((a:Int)<0):=by omega
   have i:¬((b:Int)<0):=by omega
   have e1:max (0:Int) (min (a:Int) (x.length:Int))=a:=by omega
   have j:max (0:Int) (min (b:Int) (x.length:Int))=b:=by omega
   simp only[d9,sliceRange,g,i,if_false,e1,j,show((1:Int)>0)=True from by simp,if_true]
   rw[if_neg (by omega)]
   rfl
  rw[e,hb]
  split
  ·rename_i h
   have h':0=x.length:=by simpa using h
   omega
  ·simp
section
variable{X:Cx}{e:bS}{te:TE}{lo hi:Option bS}{tl th:TO}{pos p2:Pos}
noncomputable def g9 (z:Str)(lo hi:Option Int):Str:=⟨((z.cps.toList.drop (HT.sIx z.length 0 lo)).take (HT.sIx z.length z.length hi-HT.sIx z.length 0 lo)).toArray⟩
noncomputable def zNA (te:TE)(tl th:TO):TE:=fun σ H Q=>te σ H fun x H1=>tl σ H1 fun l H2=>th σ H2 fun u H3=>∃z,x=.str z/\z.length<=sizeLine/\Q (.str (g9 z l u)) H3
theorem zDQ (m:PE X e te)(hl:PO X lo tl)(n:PO X hi th):PE X (.Subscript e (.Slice lo hi none p2) pos) (zNA te tl th):=by
 intro a s σ H Q I h
 refine lr (zM (m a s σ H _ I h) fun v p zq=>?_)
 obtain⟨x,r,y,B,C⟩:=zq
 refine wpAny_Slice (zM (hl a p σ r _ y C) fun D E ⟨l,F,G,pl,J⟩=>zM (n a E σ F _ G J) fun L c zq=>?_)
 obtain⟨u,M,N,g,O⟩:=zq
 rw[n4]
 refine az ?_
 obtain⟨z,rfl,hz,q⟩:=O
 obtain⟨t,rfl⟩:=B
 have d:KeptH (fun h=>∀b o,c.heap.get? b=some o->h.get? b=some o):=fun h Y f b o q=>ae _ (f b o q)
 have fin:∀h' t' k,(∀b o,c.heap.get? b=some o->h'.get? b=some o)->EP X a σ Q (.str (sV z l u) t') {c with heap:=h',toks:=k}:=fun h' t' k f=>by
  refine⟨.str (g9 z l u),M,N.kept f,⟨t',?_⟩,q⟩
  rw[zMz];rfl
 have go:ItemOn (model X.prog X.w) X.A X.xe (.str z t) (.ref c.heap.objs.size) (EP X a σ Q) {c with heap:=c.heap.push {cls:=.type "slice",data:=.fields #[D,L,.none]}}:=by
  cases pl with
  |none=>
   cases g with
   |none=>exact SBH.sliceItem_nn d (fun _ _ q=>q) fin hz
   |int j P=>exact SBH.sliceItem_ns d (fun _ _ q=>q) fin hz
  |int i Z=>
   cases g with
   |none=>exact SBH.sliceItem_sn d (fun _ _ q=>q) fin hz
   |int j P=>exact SBH.sliceItem_ss d (fun _ _ q=>q) fin hz
 obtain⟨T,id,R,U,W⟩:=go
 exact tZ (ops:=[.ref c.heap.objs.size,.str z t]) U R W (by with_unfolding_all rfl)
end
section
variable{X:Cx}
theorem zBc (g:X.calm=true):qJ X (.builtin "all") (fun xs H Q=>∃(p:ak) (bs:List Bool),xs=[.ref p]/\yG X.K H p (bs.map V.bl)/\Q (.bl (bs.all id)) H):=by
 intro d s σ H xs B Q I r h
 obtain⟨p,bs,rfl,j,q⟩:=h
 obtain⟨u,rfl,l⟩:=qC r
 cases l
 obtain⟨its,c,pl,hz⟩:=I.list j
 have m:p≠s.heap.objs.size:=by
  obtain⟨o,n,e,_⟩:=pl
  exact bp (aF e)
 have a:∀(i:Nat) (v:aj),its.toArray[i]?=some v->v=.bool (bs.getD i false):=fun i v e=>by
  have f:its[i]?=some v:=by simpa using e
  have hl:=c.length
  have hi:i<bs.length:=by
   have:=(ah.mp f).1
   simp at hl;omega
  obtain⟨u,e1,t⟩:=c.get (i:=i) (x:=.bl (bs.getD i false)) (by rw[ar];simp[hi])
  rw[f]at e1
  cases e1
  exact t
 refine call_all_walk (gx pl.isList ?_)
 refine⟨s.heap.objs.size,_,_,its.toArray.size,_,_,fun i=>bs.getD i false,rfl,qy (A:=X.A.in1) (I.ok.hd g) _ p m its.toArray,⟨⟨_,aE _ rfl,rfl,rfl⟩,?_⟩,fun i v s' C D hv w=>?_,fun h' tk y=>?_⟩
 ·exact pl.isList.at fun o e=>ae _ e
 ·rw[a i v hv];exact dt w
 ·refine⟨.bl (bs.all id),H,I.kept (t':=tk) (h':=h') fun b o e=>y b o (fun z=>?_) (ae _ e),?_,q⟩
  ·have:b=s.heap.objs.size:=by simpa using z
   exact absurd (aF e) (by rw[this];exact bN _)
  ·have hl:=c.length
   have hsz:its.toArray.size=bs.length:=by simp at hl;simp[hl]
   have:(bA its.toArray.size).all (fun i=>bs.getD i false)=bs.all id:=by
    rw[hsz]
    rw[dC]
    simp only[iq,bK,id]
    constructor
    ·intro h b hb
     obtain⟨i,hi,e⟩:=dM hb
     have:=h i hi
     simpa [hi,e]using this
    ·intro h i hi
     have:=h bs[i] (cq hi)
     simpa [hi]using this
   rw[this];rfl
theorem zDR (ns:List Int):∀k,k<=ns.length->preSum (fun i=>ns.getD i 0) k=(ns.take k).sum
 |0,_=>by simp[preSum]
 |k+1,h=>by
  show preSum (fun i=>ns.getD i 0) k+ns.getD k 0=_
  have a:k<ns.length:=h
  rw[zDR ns k (by omega),aA a,gh]
  simp[a]
theorem zHD (j:X.calm=true):qJ X (.builtin "sum") (fun xs H Q=>∃(p:ak) (ns:List Int),xs=[.ref p]/\yG X.K H p (ns.map V.int)/\Q (.int ns.sum) H):=by
 intro d s σ H xs B Q I r h
 obtain⟨p,ns,rfl,l,q⟩:=h
 obtain⟨u,rfl,m⟩:=qC r
 cases m
 obtain⟨its,c,pl,hz⟩:=I.list l
 have a:p<s.heap.objs.size:=by
  obtain⟨o,n,e,_⟩:=pl
  exact aF e
 have hl:=c.length
 have hsz:its.toArray.size=ns.length:=by simp at hl;simp[hl]
 have t:=zLz c
 refine oR (gx pl.isList ?_)
 refine⟨s.heap.objs.size,_,_,_,its.toArray.size,_,_,fun i=>ns.getD i 0,rfl,(qy (A:=X.A.in1) (I.ok.hd j) _ p (bp a) its.toArray).toS,⟨⟨_,aE _ rfl,rfl,rfl⟩,?_⟩,fun b hb=>?_,fun i v hv=>?_,fun s' t' f=>?_⟩
 ·exact pl.isList.at fun o e=>ae _ e
 ·show b<(s.heap.push _).objs.size
  rw[qz]
  rcases aL.mp hb with e|hb
  ·rw[e];exact dG _
  ·rw[aS.mp hb];exact bT a
 ·have g:its[i]?=some v:=by simpa using hv
  have hi:i<ns.length:=by
   have:=(ah.mp g).1
   simp at hl;omega
  obtain⟨u,e1,w⟩:=c.get (i:=i) (x:=.int (ns.getD i 0)) (by rw[ar];simp[hi])
  rw[g]at e1
  cases e1
  exact w
 ·have y:∀b o,s.heap.get? b=some o->s'.heap.get? b=some o:=fun b o e=>
   f.heap b o (fun z=>absurd (aF e) (by rw[aS.mp z];exact bN _)) (ae _ e)
  rw[n9 f]
  refine⟨.int ns.sum,H,I.kept (h':=s'.heap) (t':=s'.toks) y,⟨t',?_⟩,q⟩
  rw[hsz,zDR ns ns.length (aC _),bo]
noncomputable def zHE (d:ak):Obj:={cls:=.type "dict_values",data:=.fields #[.ref d]}
noncomputable def j4 (p d:ak):HO:=.ext fun h=>h.get? p=some (zHE d)
noncomputable def zNB:V->List V->Hp->VK->Prop:=fun x vs H Q=>∃d kvs,x=.ref d/\vs=[]/\H d=some (.dK kvs)/\∀p,H p=none->Q (.ref p) (upd H p (j4 p d))
theorem zNC:MtM X "dict.values" zNB:=by
 intro c s σ H x vs v l Q I g i h
 obtain⟨d,kvs,rfl,rfl,hd,q⟩:=h
 cases g
 have a:=i.zero
 subst a
 obtain⟨z,j,ws,rel,f⟩:=gI I.hok hd
 refine iT eE f.typeIs lI (lA _) (oS (vP X.prog X.w) d j) ⟨⟨_,f⟩,?_⟩
 refine⟨.ref s.heap.objs.size,_,I.laid (t':=s.toks) (o:=j4 s.heap.objs.size d) (fun b o e=>ae _ e) (aC _) ?_,rfl,q _ (I.hok.fresh (aC _))⟩
 exact⟨aE _ rfl,⟨_,aE _ rfl⟩,fun m n e k=>k _ e⟩
theorem zAW:qJ X (.builtin "isinstance") (fun xs H Q=>∃x c t b,xs=[x,.ty c]/\TyOf X.K H x t/\lg X.K t (.type c)=some b/\Q (.bl b) H):=by
 intro a s σ H xs g Q I r h
 obtain⟨x,c,t,b,rfl,ty,e,q⟩:=h
 obtain⟨u,i,rfl,d,f⟩:=zAq r
 cases f
 exact zLn I d ty e fun tk=>⟨.bl b,H,I.tok tk,rfl,q⟩
theorem zND {a:List Str}:∀{b:List aj},zU (a.map V.str) b->tm b a:=by
 induction a with
 |nil=>intro b r;rw[kh]at r;cases r;exact .nil
 |cons x a ih=>
  intro b r
  rw[aD]at r
  cases r with
  |cons c d=>
   obtain⟨t,e⟩:=c
   subst e
   exact .cons x t (ih d)
noncomputable def zNE (K:ag):V->List V->Hp->VK->Prop:=fun x vs H Q=>∃(sep:Str) (l:ak) (ss:List Str),x=.str sep/\vs=[.ref l]/\yG K H l (ss.map V.str)/\(ss.map (·.length)).sum+ss.length*sep.length<=16777216/\Q (.str (oT sep ss)) H
theorem zNF:MtR X "str.join" (zNE X.K):=by
 intro a s σ H x vs v i Q I b c h
 obtain⟨sep,l,d,rfl,rfl,e,hz,q⟩:=h
 obtain⟨t,rfl⟩:=b
 obtain⟨u,rfl,f⟩:=qC c
 cases f
 obtain⟨its,g,pl,_⟩:=I.list e
 exact join_list pl.isList (by simpa using zND g) hz fun t' k=>⟨.str (oT sep d),H,I.tok k,⟨t',rfl⟩,q⟩
theorem zNG (l:List Str):∀a:Array Nat,(l.foldl (fun b p=>b++(⟨#[]⟩:Str).cps++p.cps) a).toList=a.toList++(l.map (·.cps.toList)).flatten:=by
 induction l with
 |nil=>intro a;simp
 |cons x r ih=>intro a;rw[cC,ih];simp
theorem zNH (a:List Str):oT ⟨#[]⟩ a=⟨(a.map (·.cps.toList)).flatten.toArray⟩:=by
 apply MyS.Str_ext
 show((a.drop 1).foldl (fun b p=>b++(⟨#[]⟩:Str).cps++p.cps) (a.headD vk).cps).toList=(a.map (·.cps.toList)).flatten.toArray.toList
 rw[zNG]
 cases a with
 |nil=>rfl
 |cons x r=>simp
noncomputable def zNI:V->List V->Hp->VK->Prop:=fun x vs H Q=>∃d kvs k v,x=.ref d/\vs=[kV k,v]/\H d=some (.dK kvs)/\kvs.length<sizeLine/\(∀y,vR kvs k=some y->Q y H)/\(vR kvs k=none->Q v (upd H d (.dK (uK kvs k v))))
theorem zHF:MtM X "dict.setdefault" zNI:=by
 intro i s σ H x vs v E Q I m n h
 obtain⟨d,kvs,k,y,rfl,rfl,hd,hz,o,p⟩:=h
 cases m
 obtain⟨u,r,rfl,t,b⟩:=zAq n
 obtain⟨z,j,ws,rel,l⟩:=gI I.hok hd
 have f:ws.length<=sizeLine:=by rw[<-rel.length];exact z
 refine iT gi l.typeIs PySem.F.entry_dict_setdefault (PySem.F.args_dict_setdefault_3 _ _ _) (kt_meets_setdefault (vP X.prog X.w) d (zAS t) j r) ⟨ws,l,f,fun G hv=>?_,fun A h' c B=>?_⟩
 ·have a:=rel.val k
  rw[hv]at a
  cases e:vR kvs k with
  |none=>rw[e]at a;exact a.elim
  |some g=>
   rw[e]at a
   exact⟨g,H,I.tok _,a,o g e⟩
 ·have a:=rel.val k
  rw[A]at a
  cases e:vR kvs k with
  |some g=>rw[e]at a;exact a.elim
  |none=>
   have C:∃q,h'.get? d=some q:=let⟨q,_,_,D,_⟩:=c;⟨q,D⟩
   have hl:(uK kvs k y).length<=sizeLine:=by have:=zDG kvs k y;omega
   exact⟨y,_,zCD I (by rw[hd];exact True.intro) B C (zCE hl j (rel.put k b) c),b,p e⟩
theorem zHG:yO X (binaryOp .Add) (fun x y H Q=>∃a b ys,x=.ref a/\y=.ref b/\z7 X.K H a []/\z7 X.K H b ys/\Q (.ref b) H):=by
 intro j s σ H x y v u Q I p r h
 obtain⟨a,b,ys,rfl,rfl,ha,hb,q⟩:=h
 cases p
 cases r
 obtain⟨its,t,w,_⟩:=I.tuple ha
 obtain⟨c,E,z,_⟩:=I.tuple hb
 have A:its=[]:=by cases t;rfl
 subst A
 obtain⟨⟨cls,B,data,C⟩,l,m,n,hd⟩:=id w
 obtain⟨⟨o,g,data2,i⟩,d,e,D,f⟩:=id z
 simp only at m hd e f
 subst m hd e f
 exact oH ⟨_,l,rfl⟩ ⟨_,d,rfl⟩ mm nZ iR iL (iC _ _)
  (tuple_addW0 a b _ c.toArray n D B g C i (by simp)) ⟨l,d,⟨.ref b,H,I,rfl,q⟩⟩
end
structure Known (J:It) (items:List V) (Hk:Hp->Prop):Prop where
 go:∀i H,Hk H->i<items.length->J.go i H
 yld:∀i H x H',Hk H->J.yld i H x H'->H'=H/\(i<items.length->items[i]?=some x)
 stop:∀H,Hk H->J.stop items.length H
theorem zBd (lo:Int)(n:Nat):Known (Itr lo n) ((bA n).map fun(i:Nat)=>V.int (lo+(i:Int))) (fun _=>True) :=
 ⟨fun i H _ h=>by show i<n;simpa using h,fun i H x b _ h=>⟨h.1,fun hi=>by
  have a:i<n:=by simpa using hi
  rw[ar,ix a,h.2];rfl⟩,fun H _=>by show n<=_;simp⟩
theorem q8 (K:ag)(a:ak)(xs:List V):Known (Itl K a) xs (fun H=>yG K H a xs) :=
 ⟨fun i H h hi=>⟨xs,xs[i],h,av hi⟩,fun i H x b h y=>⟨y.1,fun _=>y.2 xs h⟩,fun H h=>⟨xs,h,aC _⟩⟩
theorem zBe (K:ag)(a:ak)(xs:List V):Known (Itt K a) xs (fun H=>z7 K H a xs) :=
 ⟨fun i H h hi=>⟨xs,xs[i],h,av hi⟩,fun i H x b h y=>⟨y.1,fun _=>y.2 xs h⟩,fun H h=>⟨xs,h,aC _⟩⟩
theorem zHH (z:Str):Known (Its z) (z.cps.toList.map fun c=>V.str ⟨#[c]⟩) (fun _=>True) :=
 ⟨fun i H _ h=>by show i<z.cps.size;simpa using h,fun i H x b _ h=>⟨h.1,fun _=>by
  obtain⟨c,e1,a⟩:=h.2
  rw[ar,eA,e1,a];rfl⟩,fun H _=>by show _=z.cps.size;simp⟩
theorem zDS {J:It}{items:List V}{Hk:Hp->Prop}(u:Known J items Hk){caps:List Nat}{n:Nat}{σ:St}{g:TG}{C:TT}{D:TE}{F:List V->Hp->Prop}{E:Hp}(cv:St)(k:Nat)(O:items.length<1000)
  (Pv:Nat->List V->Hp->Prop) (G:Pv 0 [] E) (I:∀i a H,i<=items.length->Pv i a H->Hk H/\a.length<=i)
  (l:∀(i:Nat) (x:V) (a:List V) (H:Hp) (ys:St) (v:List V->St->Hp->Prop),(∀c d t,t.length=k->Pv (i+1) c d->v c (cv++t) d)->items[i]?=some x->ys.length=k->Pv i a H->
   g x (cv++ys) H fun f w=>C f w fun b o=>if b=true then D f o fun y j=>v (a++[y]) f j else v a f o)
  (fin:∀a H,Pv items.length a H->F a H) (z:uR caps n σ=cv++aH k none:=by rfl) :
  ∃W:Nat->Nat->List V->St->Hp->Prop,(∃m,W 0 m [] (uR caps n σ) E)/\∀i m a q d,W i m a q d->
   (J.stop i d/\F a d)\/
   (J.go i d/\a.length<sizeLine/\∀x r,J.yld i d x r->g x q r fun f w=>C f w fun b o=>if b=true then D f o fun y j=>∃h,h<m/\W (i+1) h (a++[y]) f j else∃h,h<m/\W (i+1) h a f o):=by
 refine⟨fun i m a q d=>i<=items.length/\m=items.length-i/\(∃ys,ys.length=k/\q=cv++ys)/\Pv i a d,⟨items.length,bw _,rfl,⟨_,by simp,z⟩,G⟩,?_⟩
 rintro i m a q d ⟨hi,rfl,⟨ys,L,rfl⟩,pv⟩
 obtain⟨A,ha⟩:=I i a d hi pv
 by_cases e:i=items.length
 ·subst e
  exact .inl ⟨u.stop d A,fin a d pv⟩
 ·have s:i<items.length:=by omega
  refine .inr ⟨u.go i d A s,by rw[aI];omega,fun x r B=>?_⟩
  obtain⟨M,N⟩:=u.yld i d x r A B
  subst M
  exact l i x a r ys (fun c f j=>∃h,h<items.length-i/\(i+1<=items.length/\h=items.length- (i+1)/\(∃ys,ys.length=k/\f=cv++ys)/\Pv (i+1) c j)) (fun c j t hz p=>⟨items.length- (i+1),by omega,by omega,rfl,⟨t,hz,rfl⟩,p⟩) (N s) L pv
theorem j5 {J:It}{items:List V}{Hk:Hp->Prop}(A:Known J items Hk){caps:List Nat}{n:Nat}{σ:St}{g:TG}{s:TE}{F:List V->Hp->Prop}{u:Hp}(cv:St)(k:Nat)(B:items.length<1000)
  (Pv:Nat->List V->Hp->Prop) (C:Pv 0 [] u) (D:∀i a H,i<=items.length->Pv i a H->Hk H/\a.length<=i)
  (o:∀(i:Nat) (x:V) (a:List V) (H:Hp) (ys:St) (j:List V->St->Hp->Prop),(∀d f v,v.length=k->Pv (i+1) d f->j d (cv++v) f)->items[i]?=some x->ys.length=k->Pv i a H->
   g x (cv++ys) H fun c h=>s c h fun y l=>j (a++[y]) c l)
  (fin:∀a H,Pv items.length a H->F a H) (t:uR caps n σ=cv++aH k none:=by rfl) :
  ∃W:Nat->Nat->List V->St->Hp->Prop,(∃m,W 0 m [] (uR caps n σ) u)/\∀i m a w f,W i m a w f->
   (J.stop i f/\F a f)\/
   (J.go i f/\a.length<sizeLine/\∀x z,J.yld i f x z->g x w z fun c h=>kP c h fun b q=>if b=true then s c q fun y l=>∃r,r<m/\W (i+1) r (a++[y]) c l else∃r,r<m/\W (i+1) r a c q):=by
 refine zDS A cv k B Pv C D (fun i x a H ys j E G I p=>?_) fin t
 have:=o i x a H ys j E G I p
 have e:(fun(c:St) (h:Hp)=>kP c h fun b q=>if b=true then s c q fun y l=>j (a++[y]) c l else j a c q)=fun c h=>s c h fun y l=>j (a++[y]) c l:=by
  funext c h
  unfold kP
  exact if_pos rfl
 rw[e]
 exact this
theorem qN {J:It}{items:List V}{Hk:Hp->Prop}(h:Known J items Hk){g:TG}{q:TS}{D:Ends}{σ:St}{H:Hp}(Pv:Nat->St->Hp->Prop)(s:Pv 0 σ H)(t:∀i σ H,i<=items.length->Pv i σ H->Hk H)
  (d:∀(i:Nat) (x:V) (σ:St) (H:Hp) (j:St->Hp->Prop),(∀b a,Pv (i+1) b a->j b a)->items[i]?=some x->Pv i σ H->g x σ H fun l c=>q {D with nx:=j,ct:=j,bk:=D.nx} l c)
  (fin:∀σ H,Pv items.length σ H->D.nx σ H) :
  ∃W:Nat->Nat->St->Hp->Prop,(∃m,W 0 m σ H)/\∀i m σ H,W i m σ H->
   (J.stop i H/\D.nx σ H)\/(J.go i H/\∃N:St->Hp->Prop,(∀b a,N b a->∃r,r<m/\W (i+1) r b a)/\∀x a,J.yld i H x a->g x σ a fun l c=>q {D with nx:=N,ct:=N,bk:=D.nx} l c):=by
 refine⟨fun i m σ H=>i<=items.length/\m=items.length-i/\Pv i σ H,⟨items.length,bw _,rfl,s⟩,?_⟩
 rintro i m σ H ⟨hi,rfl,pv⟩
 have n:=t i σ H hi pv
 by_cases e:i=items.length
 ·subst e
  exact .inl ⟨h.stop H n,fin σ H pv⟩
 ·have f:i<items.length:=by omega
  refine .inr ⟨h.go i H n f,Pv (i+1),fun b a p=>⟨items.length- (i+1),by omega,by omega,rfl,p⟩,fun x c o=>?_⟩
  obtain⟨u,v⟩:=h.yld i H x c n o
  subst u
  exact d i x σ c (Pv (i+1)) (fun _ _ p=>p) (v f) pv
theorem zAA {c A B:Prop} [Decidable c] (a:c)(h:A):if decide c=true then A else B:=by
 rw[if_pos (decide_eq_true a)];exact h
theorem zAX {c A B:Prop} [Decidable c] (a:¬c)(h:B):if decide c=true then A else B:=by
 rw[if_neg (fun z=>a (of_decide_eq_true z))];exact h
theorem zB.upd_new {H c:Hp}{a:ak}{o:HO}(e:zB H c)(h:H a=none):zB H (upd c a o):=fun b u q=>by
 rw[zG (yK q h)];exact e b u q
theorem zB.upd1 {H:Hp}{a:ak}{o:HO}(h:H a=none):zB H (upd H a o):=(zB.refl H).upd_new h
noncomputable def zCJ (sc:gc)(XN N:List Str)(scope:gc):Nat->List Nat->Bool
 |_,[]=>true
 |i,c::cs=>(match N[i]? with
  |some x=>decide (XN[c]?=some x)&&decide (scope.names.lookup x=some .free)&& (decide (sc.names.lookup x=some .cell)||decide (sc.names.lookup x=some .free))
  |none=>false)&&zCJ sc XN N scope (i+1) cs
noncomputable def zHI (sc:gc)(XN N:List Str)(scope:gc)(caps:List Nat):Bool :=
 decide (scope.kind=.function)&&decide N.Nodup&&scope.names.all (fun y=>decide (y.2≠.cell))&&scope.names.all (fun y=>decide (y.2=.local->scope.names.lookup y.1=some .local))&&
 scope.names.all (fun y=>decide (y.2=.free->sc.names.lookup y.1=some .cell\/sc.names.lookup y.1=some .free))&&zCJ sc XN N scope 0 caps&&decide (caps.length<=N.length)
theorem zHJ {g:gc}{l N:List Str}{scope:gc}:∀{caps:List Nat}{j:Nat},zCJ g l N scope j caps=true->∀i,i<caps.length->
  ∃x,N[j+i]?=some x/\l[caps.getD i 0]?=some x/\scope.names.lookup x=some .free/\(g.names.lookup x=some .cell\/g.names.lookup x=some .free)
 | [],_,_,i,hi=>by simp at hi
 |c::o,j,h,i,hi=>by
  unfold zCJ at h
  rw[bj]at h
  obtain⟨f,m⟩:=h
  cases i with
  |zero=>
   cases e:N[j]? with
   |none=>rw[e]at f;cases f
   |some x=>
    rw[e]at f
    simp only[bj,iH,decide_eq_true_eq]at f
    exact⟨x,by simpa using e,by simpa using f.1.1,f.1.2,f.2⟩
  |succ i=>
   obtain⟨x,a,b,n,d⟩:=zHJ m i (by simpa using hi)
   exact⟨x,by rw[<-a];congr 1;omega,by simpa using b,n,d⟩
theorem uS {j:gc}{l N:List Str}{scope:gc}{caps:List Nat}(h:zHI j l N scope caps=true):CompScope j l N scope caps:=by
 unfold zHI at h
 simp only[bj,decide_eq_true_eq,iq]at h
 obtain⟨⟨⟨⟨⟨⟨a,b⟩,c⟩,d⟩,e⟩,f⟩,g⟩:=h
 exact⟨a,b,c,d,e,fun i hi=>by simpa using zHJ f i hi,g⟩
section
variable{X:Cx}{pins:List (ak×Obj)}{σ:St}{H:Hp}{s:au}
theorem Inv.turnedT {fp:List ak}{h':bF}{t':Nat}{T:ak}{o:HO}(I:Inv X pins σ H s)(k:∀b u,b∉fp->s.heap.get? b=some u->h'.get? b=some u)(hf:∀b∈fp,qI X pins H b)(g:s.heap.get? T=none)
  (new:yV X.prog X.w (upd H T o) h' T o):Inv X pins σ (upd H T o) {s with heap:=h',toks:=t'}:=by
 have h:H T=none:=I.hok.free g
 have d:∀b u,H b=some u->b∉fp:=fun b u e z=>by rw[(hf b z).1]at e;cases e
 have f:zB H (upd H T o):=zB.upd1 h
 have old:∀b (u:Obj),s.heap.get? b=some u->upd H T o b=H b:=fun b u e=>by
  rw[zG]
  rintro rfl
  rw[g]at e;cases e
 refine I.step (g':=s.gens) (d':=s.drawn) (ch:=fp) (fun b hb=>?_) (fun b o _ _ a e _=>k b o a e) (fun b o _ _ a e _=>⟨o.slots,k b o a e⟩) (fun b u _ e n=>by rw[old b u e];exact n)
  (fun b o a e=>⟨o,k b o a e⟩) (fun b xs e=>f _ _ e) (fun b u v e=>f _ _ e) (fun b ps e=>⟨#[],by rw[f _ _ e];simp⟩) (fun m i=>?_) (fun b u e=>?_) I.bare
 ·obtain⟨y,f1,f2,j,l,p⟩:=hf b hb
  exact⟨j,f1,l,p⟩
 ·obtain⟨o,t,ep,x,r⟩:=i
  exact⟨o,t,ep,k _ o (fun z=>(hf _ z).2.1 rfl) x,r⟩
 ·by_cases hb:b=T
  ·subst hb;rw[zE]at e;cases e;exact new
  ·rw[zG hb]at e
   refine(I.hok b u e).stay (fun c v a q=>k c v ?_ q) (fun c q=>?_) fun c xs q=>?_
   ·rcases a with z|z
    ·rw[z];exact d b u e
    ·exact d c _ z
   ·exact f _ _ q
   ·exact f _ _ q
end
noncomputable def Ite (K:ag)(a:ak):It :=
 ⟨fun i H=>∃xs x,yG K H a xs/\xs[i]?=some x,fun i H x H'=>∃T y,x=.ref T/\H T=none/\H'=upd H T (.tup [.int i,y])/\∀xs,yG K H a xs->xs[i]?=some y,fun i H=>∃xs,yG K H a xs/\xs.length=i⟩
theorem zNJ {P:aJ}{w:bh}{K:ag}{C:List bS}{k:Nat}{pos:Pos}(a e f:ak)(n:e≠f):Turn P w K (.Tuple C k pos) (Ite K a) [e,f] e (fun i h=>(∃old,IsEnum h e f i old)/\h.IsListIter f a i) where
 mem:=by simp
 obj:=fun i h st b hb=>by
  obtain⟨⟨old,j⟩,hit⟩:=st
  rcases aL.mp hb with z|z
  ·subst z;exact⟨_,j,fun v z=>by cases z⟩
  ·have R:b=f:=by simpa using z
   subst R
   obtain⟨o,e,c,d⟩:=hit
   exact⟨o,e,fun v z=>by rw[d]at z;cases z⟩
 keep:=fun i h h' st kk=>⟨let⟨old,j⟩:=st.1;⟨old,kk e (by simp) _ j⟩,st.2.at fun o x=>kk f (by simp) o x⟩
 item:=by
  intro X F T U W i G s σ H E I hf st Y
  subst F T U
  obtain⟨xs,x,N,Z⟩:=Y
  obtain⟨its,rv,p,hz⟩:=I.list N
  obtain⟨u,hu,ru⟩:=rv.get Z
  obtain⟨⟨old,j⟩,hit⟩:=id st
  have aa:e≠a:=fun z=>by
   subst z
   obtain⟨o,B,l,_⟩:=p.isList
   rw[j]at B;cases B
   have ab:Value.type "enumerate"=Value.type "list" :=l
   exact absurd ab (by decide)
  have r:a≠f:=fun z=>by
   subst z
   obtain⟨o,B,l,_⟩:=p.isList
   obtain⟨o',m,J,_⟩:=hit
   rw[B]at m;cases m;rw[l]at J;exact absurd J (by decide)
  have D:=mP (prog:=X.prog) (w:=X.w) (A:=X.A.in1) (show X.A.in1.handled=none from I.ok.hd W) f a r its.toArray
  have ac:i<its.toArray.size:=by
   have:=(ah.mp hu).1
   simpa using this
  refine wpAny_pyNext_enum_itemD D j ⟨hit,p.isList⟩ ac n (by simp[n,aa]) fun O h' tk F ho al hT hsz hk=>?_
  have am:O=u:=by
   have:its[i]?=some O:=by simpa using F
   rw[hu]at this;exact(aB this).symm
  subst am
  refine⟨_,rfl,wpAny_letOwnedTupleGo_enum ho fun l an t=>?_⟩
  have y:s.heap.get? s.heap.objs.size=none:=by
   cases g:s.heap.get? s.heap.objs.size with
   |none=>rfl
   |some o=>exact absurd (aF g) (bN _)
  have L:e<s.heap.objs.size:=aF j
  have ap:l.get? s.heap.objs.size=some {cls:=.type "tuple",data:=.seq #[.int i tk,O]}:=(t.2 _ (de L)).trans hT
  refine⟨.ref s.heap.objs.size,upd H s.heap.objs.size (.tup [.int i,x]),I.turnedT (fp:=[e,f]) (h':=l) (t':=tk+1) (fun b o hb q=>?_) hf y ⟨by show 2<=sizeLine;decide,[.int i tk,O],.cons ⟨tk,rfl⟩ (.cons ru .nil),⟨_,ap,rfl,_,rfl⟩⟩,rfl,
   ⟨_,x,rfl,I.hok.free y,rfl,fun ys hy=>by rw[I.list_inj hy N];exact Z⟩,⟨⟨_,by simpa using an⟩,al.1.at fun o q=>(t.2 f (eN n)).trans q⟩,fun b hb=>?_⟩
  ·have M:b≠e:=fun z=>hb (by simp[z])
   have as:b≠f:=fun z=>hb (by simp[z])
   exact(t.2 b M).trans (hk b o M as q)
  ·rw[zG]
   ·exact(hf b hb).1
   ·rintro rfl
    rcases aL.mp hb with z|z
    ·exact absurd L (by rw[z];exact bN _)
    ·have R:s.heap.objs.size=f:=by simpa using z
     obtain⟨o,m,_⟩:=hit
     rw[<-R,y]at m;cases m
 done:=by
  intro X F T U W i G s σ H E I hf st Y
  subst F T U
  obtain⟨xs,N,Z⟩:=Y
  obtain⟨its,rv,p,hz⟩:=I.list N
  obtain⟨⟨old,j⟩,hit⟩:=id st
  have hl:=rv.length
  have r:a≠f:=fun z=>by
   subst z
   obtain⟨o,B,l,_⟩:=p.isList
   obtain⟨o',m,J,_⟩:=hit
   rw[B]at m;cases m;rw[l]at J;exact absurd J (by decide)
  have D:=mP (prog:=X.prog) (w:=X.w) (A:=X.A.in1) (show X.A.in1.handled=none from I.ok.hd W) f a r its.toArray
  obtain⟨f0,f1,f2,f3,f4,f5⟩:=hf f (by simp)
  have hi:its.toArray.size=i:=by rw[aP];omega
  refine wpAny_pyNext_enum_endD D j ⟨by rw[hi];exact hit,p.isList⟩ fun h' eb=>⟨rfl,I.turned (t':=s.toks) (fun b o hb e=>eb b o hb e) f0 f1 f3 f4 f5⟩
 self:=fun A i s Q E st h=>let⟨old,j⟩:=st.1;oU j h
section
variable{X:Cx}{elts:List bS}{k:Nat}{tpos:Pos}
noncomputable def zNK (K:ag)(ta:TA):TI:=fun σ H R=>ta σ H fun vs H1=>∃a xs,vs=[.ref a]/\H1 a=some (.lst xs)/\R (Ite K a) H1
theorem zNL {e:bS}{i:TA}{p pos:Pos}(m:Gl X "enumerate")(o:X.mg "enumerate"=none)(ha:PA X [e] i)(t:starEach [e] X.env=[(false,eval e X.env)]:=by rfl):PI X (.Tuple elts k tpos) (.Call (.Name "enumerate" p) [e] [] pos) (zNK X.K i):=by
 intro c s σ H R I h
 refine Call_ (j2 I m o boot_enumerate (cQ (zM (ha pos c s σ H _ I h) fun C d zq=>?_) t rfl))
 obtain⟨vs,j,g,v,w⟩:=zq
 obtain⟨a,xs,rfl,hl,q⟩:=w
 obtain⟨u,rfl,x⟩:=qC v
 cases x
 obtain⟨z,its,n,r,y⟩:=g.hok a _ hl
 refine call_enumerate_1 y fun h' l hit hsz A=>?_
 have B:Inv X c σ j {d with heap:=h'}:=g.kept (t':=d.toks) A
 refine oU l ⟨_,[d.heap.objs.size+1,d.heap.objs.size],_,_,j,rfl,B,zNJ a _ _ (Nat.succ_ne_self _),⟨⟨_,l⟩,hit⟩,fun b hb=>?_,q⟩
 have f:d.heap.objs.size<=b:=by
  rcases aL.mp hb with z|z
  ·rw[z];exact iM _
  ·have:b=d.heap.objs.size:=by simpa using z
   rw[this];exact aC _
 exact g.fpOk f (g.hok.fresh f)
theorem zNM {K:ag}{a:ak}{xs:List V}{g:TG}{q:TS}{D:Ends}{σ:St}{H:Hp}(Pv:Nat->St->Hp->Prop)(s:Pv 0 σ H)(t:∀i σ H,i<=xs.length->Pv i σ H->yG K H a xs)
  (d:∀(i:Nat) (x:V) (T:ak) (σ:St) (H:Hp) (h:St->Hp->Prop),(∀c b,Pv (i+1) c b->h c b)->xs[i]?=some x->Pv i σ H->H T=none->g (.ref T) σ (upd H T (.tup [.int i,x])) fun j f=>q {D with nx:=h,ct:=h,bk:=D.nx} j f)
  (fin:∀σ H,Pv xs.length σ H->D.nx σ H) :
  ∃W:Nat->Nat->St->Hp->Prop,(∃m,W 0 m σ H)/\∀i m σ H,W i m σ H->
   ((Ite K a).stop i H/\D.nx σ H)\/((Ite K a).go i H/\∃N:St->Hp->Prop,(∀c b,N c b->∃r,r<m/\W (i+1) r c b)/\∀x b,(Ite K a).yld i H x b->g x σ b fun j f=>q {D with nx:=N,ct:=N,bk:=D.nx} j f):=by
 refine⟨fun i m σ H=>i<=xs.length/\m=xs.length-i/\Pv i σ H,⟨xs.length,bw _,rfl,s⟩,?_⟩
 rintro i m σ H ⟨hi,rfl,pv⟩
 have l:=t i σ H hi pv
 by_cases e:i=xs.length
 ·subst e
  exact .inl ⟨⟨xs,l,rfl⟩,fin σ H pv⟩
 ·have n:i<xs.length:=by omega
  refine .inr ⟨⟨xs,xs[i],l,av n⟩,Pv (i+1),fun c b p=>⟨xs.length- (i+1),by omega,by omega,rfl,p⟩,fun x f o=>?_⟩
  obtain⟨T,y,rfl,u,rfl,v⟩:=o
  exact d i y T σ H (Pv (i+1)) (fun _ _ p=>p) (v xs l) pv u
theorem zNN:MtR X "str.endswith" (fun x vs H Q=>∃a b:Str,x=.str a/\vs=[.str b]/\Q (.bl (kl a b)) H):=by
 intro c s σ H x vs v g Q I d e h
 obtain⟨a,b,rfl,rfl,q⟩:=h
 obtain⟨t,rfl⟩:=d
 obtain⟨u,rfl,f⟩:=qC e
 obtain⟨t',rfl⟩:=f
 exact SC.endswith ⟨.bl _,H,I,rfl,q⟩
end
section
variable{prog:aJ}{w:bh}{A:bX}{E:aj->au->Prop}{s:au}
theorem zNO {a t:ak}{i:Nat}{items}{x:aj}{Q:aj->au->Prop}(hit:s.heap.IsTupleIter a t i)(e:s.heap.IsTuple t items)(f:items[i]?=some x)
  (g:∀h',h'.IsTupleIter a t (i+1)->ig a s.heap h'->Q x {s with heap:=h'}):wpAny (model prog w) A (ck (.ref a)) Q E s:=by
 obtain⟨o,b,h,hd⟩:=id hit
 obtain⟨ol,c,_,nl,d⟩:=e
 unfold ck
 refine af (b0 (name:=dH "__next__") hit.typeIs eZ (cp eZ hit.typeIs km ?_ (jz _)))
 show wpAny _ _ (field (.ref a) 0>>=_) _ _ s
 refine af (cX b hd (x:=.ref t) rfl ?_)
 show wpAny _ _ (if(Value.ref t==Value.none)=true then _ else _) _ _ s
 rw[if_neg (show ¬((Value.ref t==Value.none)=true)from bg)]
 show wpAny _ _ (field (.ref a) 1>>=_) _ _ s
 refine af (cX b hd (x:=.int i 0) rfl ?_)
 show wpAny _ _ (seqItems? (.ref t)>>=_) _ _ s
 refine af (dz c d ?_)
 simp only[du,f]
 refine af (rf b hd (by simp) (az ⟨x,rfl,az (g _ ?_ (iy ..))⟩))
 exact⟨_,gq _ b (Obj.isFreed_of_fields (ou hd _)),(Obj.cls_mapFields ..).trans h,by rw[ou hd];simp[rawInt]⟩
theorem zNP {b t:ak}{i:Nat}{items}{Q:aj->au->Prop}(g:A.handled=none)(hit:s.heap.IsTupleIter b t i)(h:s.heap.IsTuple t items)(j:items[i]?=none)
  (l:∀h' e,Heap.ExtBut b s.heap h'->(∃o,h'.get? e=some o/\o.cls=.type "StopIteration")->E (.ref e) {s with heap:=h'}):wpAny (model prog w) A (ck (.ref b)) Q E s:=by
 obtain⟨o,c,n,hd⟩:=id hit
 obtain⟨ol,d,_,nl,f⟩:=h
 unfold ck
 refine af (b0 (name:=dH "__next__") hit.typeIs eZ (cp eZ hit.typeIs km ?_ (jz _)))
 show wpAny _ _ (field (.ref b) 0>>=_) _ _ s
 refine af (cX c hd (x:=.ref t) rfl ?_)
 show wpAny _ _ (if(Value.ref t==Value.none)=true then _ else _) _ _ s
 rw[if_neg (show ¬((Value.ref t==Value.none)=true)from bg)]
 show wpAny _ _ (field (.ref b) 1>>=_) _ _ s
 refine af (cX c hd (x:=.int i 0) rfl ?_)
 show wpAny _ _ (seqItems? (.ref t)>>=_) _ _ s
 refine af (dz d f ?_)
 simp only[du,j]
 refine af (fZ (af (rf c hd (by simp) ?_)))
 show wpAny _ _ (newExc (.type "StopIteration") []>>=_) _ _ _
 refine af ?_
 simp only[newExc,newTuple]
 refine af (cu ?_ (by size_fits))
 refine af (m:=firstArgMember _ _) (pS (a:=Value.none) (by first|rfl|(simp only[firstArgMember];rfl)) ?_)
 refine cu ?_ (by size_fits)
 simp only[raiseNew]
 refine af (sy ?_)
 first|rw[show A.in1.handled=none from g]|rw[g]
 refine af (az (wpAny_throw ?_))
 exact l _ _ (((iy ..).extBut.push _).push _) ⟨_,aE _ rfl,rfl⟩
end
theorem zDT {prog:aJ}{w:bh}{A:bX}(g:A.handled=none)(a l:ak)(d:l≠a)(items:Array aj) :
  nD prog w A a [a,l] items.size (fun i v=>items[i]?=some v) (fun i h=>h.IsTupleIter a l i/\h.IsTuple l items) where
 live:=fun _ _ st=>let⟨o,j,_⟩:=st.1;⟨o,j⟩
 frame:=fun _ _ _ st f=>⟨st.1.at fun o e=>f a (by simp) o e,let⟨o,e,r⟩:=st.2;⟨o,f l (by simp) o e,r⟩⟩
 item:=fun i s Q E hi st m=>zNO st.1 st.2 (x:=items[i]) (by simp[hi]) fun h' b c=>m _ h' s.toks (by simp[hi]) ⟨b,st.2.extBut c.extBut d⟩ c
 done:=fun s Q E st n=>zNP g st.1 st.2 (by simp) n
structure Side (z TI TO i1 i2:ak) (fp1 fp2:List ak):Prop where
 TIz:TI≠z
 TOz:TO≠z
 i1z:i1≠z
 i2z:i2≠z
 TITO:TI≠TO
 TIi1:TI≠i1
 TIi2:TI≠i2
 TOi1:TO≠i1
 TOi2:TO≠i2
 i12:i1≠i2
 f1:∀c∈fp1,c≠z/\c≠TO/\c≠i2
 f2:∀c∈fp2,c≠z/\c≠TO/\c≠i1
section
variable{prog:aJ}{w:bh}{A:bX}{E:aj->au->Prop}{s:au}{z TI TO i1 i2:ak}{fp1 fp2:List ak}{n1 n2:Nat}{P1 P2:Nat->aj->Prop}{T1 T2:Nat->bF->Prop}{k:Nat}{a b:aj}
theorem zNQ {Q:aj->au->Prop}(N:nD prog w A i1 fp1 n1 P1 T1)(H:nD prog w A i2 fp2 n2 P2 T2)(D:Side z TI TO i1 i2 fp1 fp2)
  (hz:iV s.heap z TI TO .none) (P:eh s.heap TI (.ref i1) (.ref i2)) (R:eh s.heap TO a b) (t1:T1 k s.heap) (t2:T2 k s.heap) (l1:k<n1) (l2:k<n2)
  (hQ:∀x y h' tk,P1 k x->P2 k y->iV h' z TI TO (rawInt s.heap.objs.size)->eh h' TO x y->T1 (k+1) h'->T2 (k+1) h'->eh h' s.heap.objs.size x y->h'.objs.size=s.heap.objs.size+1->
   (∀c o,c≠z->c≠TO->c≠i1->c≠i2->s.heap.get? c=some o->h'.get? c=some o)->Q (.ref s.heap.objs.size) {s with heap:=h',toks:=tk}) :
  wpAny (model prog w) A (di.«zip.__next__» ⟨[.ref z],[]⟩) (fun fin s'=>∃v,fin=.done (.ret v)/\Q v s') E s:=by
 show wpAny _ _ (field (.ref z) 2>>=_) _ _ _
 refine af (cX hz rfl (x:=.bool false) rfl ?_)
 show wpAny _ _ (field (.ref z) 3>>=_) _ _ _
 refine af (cX hz rfl (x:=.ref TI) rfl ?_)
 refine af (dz P rfl ?_)
 show wpAny _ _ (cn (.ref z)>>=_) _ _ _
 refine af ?_
 unfold cn
 refine af (cX hz rfl (x:=.none) rfl (az ?_))
 simp only[if_true]
 refine af (fZ ?_)
 refine af (cX hz rfl (x:=.ref TO) rfl ?_)
 refine af (cj hz (by simp) fun h₁ u h=>?_)
 replace u:iV h₁ z TI TO .ellipsis:=u
 refine af ?_
 simp only[my,mY,fw,fN]
 refine af (af (jk ?_))
 show wpAny _ _ (ck (.ref i1)>>=_) _ _ _
 have T:T1 k h₁:=N.frame _ _ _ t1 fun c d o e=>h.extBut _ _ (D.f1 c d).1 e
 have U:T2 k h₁:=H.frame _ _ _ t2 fun c d o e=>h.extBut _ _ (D.f2 c d).1 e
 refine af (N.item k _ _ _ l1 T fun x h₂ al px W i=>az ?_)
 have q:eh h₂ TO a b:=i.extBut _ _ D.TOi1 (h.extBut _ _ D.TOz R)
 refine af (dz q rfl ?_)
 refine af (jq q fun h₃ j l=>?_)
 replace j:eh h₃ TO x b:=j
 refine af (nE (az ?_))
 refine af (af (jk ?_))
 show wpAny _ _ (ck (.ref i2)>>=_) _ _ _
 have X:T2 k h₃:=H.frame _ _ _ U fun c d o e=>l.extBut _ _ (D.f2 c d).2.1 (i.extBut _ _ (D.f2 c d).2.2 e)
 refine af (H.item k _ _ _ l2 X fun y h₄ am py Y m=>az ?_)
 have r:eh h₄ TO x b:=m.extBut _ _ D.TOi2 j
 refine af (dz r rfl ?_)
 refine af (jq r fun f g n=>?_)
 replace g:eh f TO x y:=g
 refine af (nE (az (az ?_)))
 refine af (dz g rfl ?_)
 refine af (lz ?_)
 have hsz:f.objs.size=s.heap.objs.size:=by rw[n.1,m.1,l.1,i.1,h.1]
 have I:iV f z TI TO .ellipsis:=n.extBut _ _ D.TOz.symm (m.extBut _ _ D.i2z.symm (l.extBut _ _ D.TOz.symm (i.extBut _ _ D.i1z.symm u)))
 have Z:∀c o,c≠z->c≠TO->c≠i1->c≠i2->s.heap.get? c=some o->f.get? c=some o:=fun c o B O c3 c4 e=>
  n.extBut _ _ O (m.extBut _ _ c4 (l.extBut _ _ O (i.extBut _ _ c3 (h.extBut _ _ B e))))
 have aa:T1 (k+1) f:=N.frame _ _ _ W fun c d o e=>n.extBut _ _ (D.f1 c d).2.1 (m.extBut _ _ (D.f1 c d).2.2 (l.extBut _ _ (D.f1 c d).2.1 e))
 have ab:T2 (k+1) f:=H.frame _ _ _ Y fun c d o e=>n.extBut _ _ (D.f2 c d).2.1 e
 have t:z<f.objs.size:=aF I
 show wpAny _ _ (iz (.ref z) (.ref f.objs.size)>>=_) _ _ _
 refine af ?_
 unfold iz
 have ac:iV (f.push {cls:=.type "tuple",data:=.seq #[x,y]}) z TI TO .ellipsis:=ae _ I
 refine af (cj ac (by simp) fun h₇ C F=>?_)
 replace C:iV h₇ z TI TO (rawInt f.objs.size):=C
 refine cj C (by simp) fun J p G=>?_
 replace p:iV J z TI TO (rawInt f.objs.size):=p
 have up:∀c o,c≠z->f.get? c=some o->J.get? c=some o:=fun c o B e=>G.extBut _ _ B (F.extBut _ _ B (ae _ e))
 have L:eh J f.objs.size x y:=G.extBut _ _ (de t) (F.extBut _ _ (de t) (aE _ rfl))
 have M:J.objs.size=f.objs.size+1:=by rw[G.1,F.1,bI]
 rw[hsz]at p L M
 refine az ⟨_,rfl,?_⟩
 show Q (.ref f.objs.size) _
 rw[hsz]
 exact hQ x y J _ px py p (up _ _ D.TOz g) (N.frame _ _ _ aa fun c d o e=>up c o (D.f1 c d).1 e) (H.frame _ _ _ ab fun c d o e=>up c o (D.f2 c d).1 e) L M fun c o B O c3 c4 e=>up c o B (Z c o B O c3 c4 e)
theorem zNR {Q:Fin->au->Prop}(q:nD prog w A i1 fp1 n1 P1 T1)(I:nD prog w A i2 fp2 n2 P2 T2)(D:Side z TI TO i1 i2 fp1 fp2)
  (hz:iV s.heap z TI TO .none) (m:eh s.heap TI (.ref i1) (.ref i2)) (t:eh s.heap TO a b) (u:T1 n1 s.heap)
  (v:∀h' e,(∀c o,c≠z->c≠TO->c≠i1->c≠i2->s.heap.get? c=some o->h'.get? c=some o)->(∃o,h'.get? e=some o/\o.cls=.type "StopIteration")->E (.ref e) {s with heap:=h'}) :
  wpAny (model prog w) A (di.«zip.__next__» ⟨[.ref z],[]⟩) Q E s:=by
 show wpAny _ _ (field (.ref z) 2>>=_) _ _ _
 refine af (cX hz rfl (x:=.bool false) rfl ?_)
 show wpAny _ _ (field (.ref z) 3>>=_) _ _ _
 refine af (cX hz rfl (x:=.ref TI) rfl ?_)
 refine af (dz m rfl ?_)
 show wpAny _ _ (cn (.ref z)>>=_) _ _ _
 refine af ?_
 unfold cn
 refine af (cX hz rfl (x:=.none) rfl (az ?_))
 simp only[if_true]
 refine af (fZ ?_)
 refine af (cX hz rfl (x:=.ref TO) rfl ?_)
 refine af (cj hz (by simp) fun h₁ d g=>?_)
 replace d:iV h₁ z TI TO .ellipsis:=d
 refine af ?_
 simp only[my,mY,fw,fN]
 refine af (af (jk ?_))
 show wpAny _ _ (ck (.ref i1)>>=_) _ _ _
 have n:T1 n1 h₁:=q.frame _ _ _ u fun c y o e=>g.extBut _ _ (D.f1 c y).1 e
 refine af (q.done _ _ _ n fun B e h C=>?_)
 obtain⟨F,f,i⟩:=C
 have j:iV B z TI TO .ellipsis:=h _ _ D.i1z.symm d
 have p:e≠z:=fun x=>by subst x;rw[j]at f;cases f;simp at i
 refine cj j (by simp) fun G _ l=>v G e (fun c o r _ H _ x=>l.extBut _ _ r (h _ _ H (g.extBut _ _ r x))) ⟨F,l.extBut _ _ p f,i⟩
theorem zNS {Q:Fin->au->Prop}(F:nD prog w A i1 fp1 n1 P1 T1)(r:nD prog w A i2 fp2 n2 P2 T2)(D:Side z TI TO i1 i2 fp1 fp2)
  (hz:iV s.heap z TI TO .none) (t:eh s.heap TI (.ref i1) (.ref i2)) (u:eh s.heap TO a b) (I:T1 n2 s.heap) (l1:n2<n1) (J:T2 n2 s.heap)
  (L:∀h' e tk,(∀c o,c≠z->c≠TO->c≠i1->c≠i2->s.heap.get? c=some o->h'.get? c=some o)->(∃o,h'.get? e=some o/\o.cls=.type "StopIteration")->E (.ref e) {s with heap:=h',toks:=tk}) :
  wpAny (model prog w) A (di.«zip.__next__» ⟨[.ref z],[]⟩) Q E s:=by
 show wpAny _ _ (field (.ref z) 2>>=_) _ _ _
 refine af (cX hz rfl (x:=.bool false) rfl ?_)
 show wpAny _ _ (field (.ref z) 3>>=_) _ _ _
 refine af (cX hz rfl (x:=.ref TI) rfl ?_)
 refine af (dz t rfl ?_)
 show wpAny _ _ (cn (.ref z)>>=_) _ _ _
 refine af ?_
 unfold cn
 refine af (cX hz rfl (x:=.none) rfl (az ?_))
 simp only[if_true]
 refine af (fZ ?_)
 refine af (cX hz rfl (x:=.ref TO) rfl ?_)
 refine af (cj hz (by simp) fun h₁ h d=>?_)
 replace h:iV h₁ z TI TO .ellipsis:=h
 refine af ?_
 simp only[my,mY,fw,fN]
 refine af (af (jk ?_))
 show wpAny _ _ (ck (.ref i1)>>=_) _ _ _
 have v:T1 n2 h₁:=F.frame _ _ _ I fun c l o e=>d.extBut _ _ (D.f1 c l).1 e
 have y:T2 n2 h₁:=r.frame _ _ _ J fun c l o e=>d.extBut _ _ (D.f2 c l).1 e
 refine af (F.item n2 _ _ _ l1 v fun x M N px O f=>az ?_)
 have g:eh M TO a b:=f.extBut _ _ D.TOi1 (d.extBut _ _ D.TOz u)
 refine af (dz g rfl ?_)
 refine af (jq g fun P G i=>?_)
 refine af (nE (az ?_))
 refine af (af (jk ?_))
 show wpAny _ _ (ck (.ref i2)>>=_) _ _ _
 have B:T2 n2 P:=r.frame _ _ _ y fun c l o e=>i.extBut _ _ (D.f2 c l).2.1 (f.extBut _ _ (D.f2 c l).2.2 e)
 refine af (r.done _ _ _ B fun R e m T=>?_)
 obtain⟨U,j,n⟩:=T
 have p:iV R z TI TO .ellipsis:=m _ _ D.i2z.symm (i.extBut _ _ D.TOz.symm (f.extBut _ _ D.i1z.symm h))
 have C:e≠z:=fun x=>by subst x;rw[p]at j;cases j;simp at n
 refine cj p (by simp) fun W _ q=>L W e _ (fun c o H X Y Z x=>q.extBut _ _ H (m _ _ Z (i.extBut _ _ X (f.extBut _ _ Y (d.extBut _ _ H x))))) ⟨U,q.extBut _ _ C j,n⟩
theorem zHK {Q:Option aj->au->Prop}(g:nD prog w A.in1 i1 fp1 n1 P1 T1)(h:nD prog w A.in1 i2 fp2 n2 P2 T2)(D:Side z TI TO i1 i2 fp1 fp2)
  (hz:iV s.heap z TI TO .none) (d:eh s.heap TI (.ref i1) (.ref i2)) (e:eh s.heap TO a b) (i:T1 k s.heap) (j:T2 k s.heap) (l1:k<n1) (l2:k<n2)
  (l:∀x y h' tk,P1 k x->P2 k y->iV h' z TI TO (rawInt s.heap.objs.size)->eh h' TO x y->T1 (k+1) h'->T2 (k+1) h'->eh h' s.heap.objs.size x y->h'.objs.size=s.heap.objs.size+1->
   (∀c o,c≠z->c≠TO->c≠i1->c≠i2->s.heap.get? c=some o->h'.get? c=some o)->Q (some (.ref s.heap.objs.size)) {s with heap:=h',toks:=tk}):wpAny (model prog w) A (pyNext (.ref z)) Q E s:=by
 have f:s.TypeIs (.ref z) "zip" :=⟨_,hz,rfl⟩
 unfold pyNext
 exact af (gm (b0 (name:=dH "__next__") f gj
  (cp gj f mz (zNQ g h D hz d e i j l1 l2 fun x y h' tk m n p q r t u v B=>az (l x y h' tk m n p q r t u v B)) (lU _))))
theorem zHL {Q:Option aj->au->Prop}(m:nD prog w A.in1 i1 fp1 n1 P1 T1)(n:nD prog w A.in1 i2 fp2 n2 P2 T2)(D:Side z TI TO i1 i2 fp1 fp2)
  (hz:iV s.heap z TI TO .none) (d:eh s.heap TI (.ref i1) (.ref i2)) (f:eh s.heap TO a b) (p:T1 k s.heap) (r:T2 k s.heap) (g:k=n1\/k<n1/\k=n2)
  (q:∀h' tk,(∀c o,c≠z->c≠TO->c≠i1->c≠i2->s.heap.get? c=some o->h'.get? c=some o)->Q none {s with heap:=h',toks:=tk}):wpAny (model prog w) A (pyNext (.ref z)) Q E s:=by
 have h:s.TypeIs (.ref z) "zip" :=⟨_,hz,rfl⟩
 unfold pyNext
 rcases g with rfl|⟨t,rfl⟩
 ·refine af (gm (b0 (name:=dH "__next__") h gj
   (cp gj h mz (zNR m n D hz d f p fun h' e g i=>?_) (lU _))))
  obtain⟨o,j,l⟩:=i
  refine af (ji (T :="StopIteration") (b:=true) ⟨o,j,l⟩ nF ?_)
  exact az (q _ s.toks g)
 ·refine af (gm (b0 (name:=dH "__next__") h gj
   (cp gj h mz (zNS m n D hz d f p t r fun h' e tk g i=>?_) (lU _))))
  obtain⟨o,j,l⟩:=i
  refine af (ji (T :="StopIteration") (b:=true) ⟨o,j,l⟩ nF ?_)
  exact az (q _ tk g)
end
theorem zNT (l1 l2:ak)(xs ys:Array aj) :
  Meets (di.«zip.__new__» ⟨[.type "zip",.ref l1,.ref l2],[]⟩) (fun _ R s=>s.heap.IsList l1 xs/\s.heap.IsTuple l2 ys/\
   R (.ok (.ret (.ref (s.heap.objs.size+4)))) {s with heap:=((((s.heap.push {cls:=.type "list_iterator",data:=.fields #[.ref l1,.int 0 0]}).push {cls:=.type "tuple_iterator",data:=.fields #[.ref l2,.int 0 0]}).push {cls:=.type "tuple",data:=.seq #[.ref s.heap.objs.size,.ref (s.heap.objs.size+1)]}).push {cls:=.type "tuple",data:=.seq #[.none,.none]}).push {cls:=.type "zip",data:=.fields #[.none,.bool false,.bool false,.ref (s.heap.objs.size+2),.ref (s.heap.objs.size+3)]}}) :=
 .of_wp fun prog w A R s h=>by
  obtain⟨c,g,d,tk,os⟩:=s;obtain⟨hl1,hl2,h⟩:=h
  have e:=sub_zip
  have a:Heap.IsList (nG ⟨c,g,d,tk,os⟩) l1 xs:=hl1
  have b:oV (nG ⟨c.push {cls:=.type "list_iterator",data:=.fields #[.ref l1,.int 0 0]},g,d,tk,os⟩) l2 ys:=oW hl2 _
  wp_walk using gx a,fV b
  refine⟨_,rfl,?_⟩
  simp only[bI]at*
  exact h
section
variable{prog:aJ}{w:bh}{A:bX}{E:aj->au->Prop}{s:au}
theorem zNU {l1 l2:ak}{xs ys:Array aj}{Q:aj->au->Prop}(hl1:s.heap.IsList l1 xs)(hl2:s.heap.IsTuple l2 ys)
  (h:∀h',iV h' (s.heap.objs.size+4) (s.heap.objs.size+2) (s.heap.objs.size+3) .none->eh h' (s.heap.objs.size+2) (.ref s.heap.objs.size) (.ref (s.heap.objs.size+1))->
   eh h' (s.heap.objs.size+3) .none .none->h'.IsListIter s.heap.objs.size l1 0->h'.IsTupleIter (s.heap.objs.size+1) l2 0->
   (∀c o,s.heap.get? c=some o->h'.get? c=some o)->Q (.ref (s.heap.objs.size+4)) {s with heap:=h'}) :
  wpAny (model prog w) A (call (.type "zip") [.ref l1,.ref l2]) Q E s:=by
 refine callType_new tw (by decide) (pI _ _) (p9 _ _) (fun obj=>nH obj _ _) qa (zNT l1 l2 xs ys) ⟨hl1,hl2,?_⟩
 have a:∀(h:bF) (o:Obj) (n:Nat),h.objs.size=n->o.isFreed=false->(h.push o).get? n=some o:=fun h o n e f=>by subst e;exact aE _ f
 have b:∀(h:bF) (o:Obj) (n:Nat),h.objs.size=n->(h.push o).objs.size=n+1:=fun h o n e=>by rw[bI,e]
 have d:=b s.heap {cls:=.type "list_iterator",data:=.fields #[.ref l1,.int 0 0]} _ rfl
 have g:=b _ {cls:=.type "tuple_iterator",data:=.fields #[.ref l2,.int 0 0]} _ d
 have i:=b _ {cls:=.type "tuple",data:=.seq #[.ref s.heap.objs.size,.ref (s.heap.objs.size+1)]} _ g
 have l:=b _ {cls:=.type "tuple",data:=.seq #[.none,.none]} _ i
 have j:=a _ {cls:=.type "zip",data:=.fields #[.none,.bool false,.bool false,.ref (s.heap.objs.size+2),.ref (s.heap.objs.size+3)]} _ l rfl
 show _/\_
 exact⟨⟨_,j,rfl⟩,h _ j (ae _ (ae _ (a _ _ _ g rfl))) (ae _ (a _ _ _ i rfl))
  ⟨_,ae _ (ae _ (ae _ (ae _ (a _ _ _ rfl rfl)))),rfl,rfl⟩
  ⟨_,ae _ (ae _ (ae _ (a _ _ _ d rfl))),rfl,rfl⟩
  fun c o x=>ae _ (ae _ (ae _ (ae _ (ae _ x))))⟩
end
theorem Inv.turnedF {X:Cx}{a:List (ak×Obj)}{σ:St}{H:Hp}{s:au}{fp:List ak}{h':bF}{t':Nat}(I:Inv X a σ H s)(k:∀b u,b∉fp->s.heap.get? b=some u->h'.get? b=some u)(hf:∀b∈fp,qI X a H b):Inv X a σ H {s with heap:=h',toks:=t'}:=by
 have f:∀b u,H b=some u->b∉fp:=fun b u e z=>by rw[(hf b z).1]at e;cases e
 refine I.step (g':=s.gens) (d':=s.drawn) (ch:=fp) (fun b hb=>?_) (fun b o _ _ d e _=>k b o d e) (fun b o _ _ d e _=>⟨o.slots,k b o d e⟩) (fun _ _ _ _ n=>n)
  (fun b o d e=>⟨o,k b o d e⟩) (fun _ _ e=>e) (fun _ _ _ e=>e) (fun b ps e=>⟨#[],by rw[e];simp⟩) (fun m g=>?_) (fun b u e=>?_) I.bare
 ·obtain⟨t,f1,f2,h,i,j⟩:=hf b hb
  exact⟨h,f1,i,j⟩
 ·obtain⟨o,l,ep,p,r⟩:=g
  exact⟨o,l,ep,k _ o (fun z=>(hf _ z).2.1 rfl) p,r⟩
 ·refine(I.hok b u e).stay (fun c v d q=>k c v ?_ q) (fun c q=>q) fun c xs q=>q
  rcases d with z|z
  ·rw[z];exact f b u e
  ·exact f c _ z
noncomputable def jN (tp:Bool)(K:ag)(H:Hp)(b:ak)(ys:List V):Prop:=if tp=true then z7 K H b ys else yG K H b ys
noncomputable def gM (tp:Bool)(h:bF)(it b:ak)(i:Nat):Prop:=if tp=true then h.IsTupleIter it b i else h.IsListIter it b i
noncomputable def Itz (K:ag)(tp:Bool)(a b:ak):It :=
 ⟨fun i H=>∃xs ys x y,yG K H a xs/\jN tp K H b ys/\xs[i]?=some x/\ys[i]?=some y,
  fun i H x H'=>∃T x1 y1,x=.ref T/\H T=none/\H'=upd H T (.tup [x1,y1])/\(∀xs,yG K H a xs->xs[i]?=some x1)/\(∀ys,jN tp K H b ys->ys[i]?=some y1),
  fun i H=>∃xs ys,yG K H a xs/\jN tp K H b ys/\(i=xs.length\/i<xs.length/\i=ys.length)⟩
theorem qE {n i j:Nat}(h:i≠j):n+i≠n+j:=by omega
theorem jA {a n:Nat}(i:Nat)(h:a<n):a≠n+i:=by omega
theorem zAx {n a b:Nat}(ha:a<n)(hb:b<n):Side (n+4) (n+2) (n+3) n (n+1) [n,a] [n+1,b] where
 TIz:=qE (by decide)
 TOz:=qE (by decide)
 i1z:=qE (n:=n) (i:=0) (by decide)
 i2z:=qE (by decide)
 TITO:=qE (by decide)
 TIi1:=qE (n:=n) (j:=0) (by decide)
 TIi2:=qE (by decide)
 TOi1:=qE (n:=n) (j:=0) (by decide)
 TOi2:=qE (by decide)
 i12:=qE (n:=n) (i:=0) (by decide)
 f1:=fun c d=>by
  rcases aL.mp d with z|z
  ·subst z;exact⟨qE (i:=0) (by decide),qE (i:=0) (by decide),qE (i:=0) (by decide)⟩
  ·have e:c=a:=by simpa using z
   subst e;exact⟨jA 4 ha,jA 3 ha,jA 1 ha⟩
 f2:=fun c d=>by
  rcases aL.mp d with z|z
  ·subst z;exact⟨qE (by decide),qE (by decide),qE (j:=0) (by decide)⟩
  ·have e:c=b:=by simpa using z
   subst e;exact⟨jA 4 hb,jA 3 hb,jA 0 hb⟩
theorem zCK {X:Cx}{c:List (ak×Obj)}{σ:St}{H:Hp}{s:au}(I:Inv X c σ H s)(m:X.calm=true){tp:Bool}{b a:ak}{ys:List V}(n:jN tp X.K H b ys)(d:b≠a) :
  ∃(its:List aj) (f:Nat->bF->Prop),zU ys its/\nD X.prog X.w X.A.in1 a [a,b] its.length (fun i v=>its[i]?=some v) f/\(∀i,gM tp s.heap a b i->f i s.heap)/\∀i h,f i h->gM tp h a b i:=by
 cases tp with
 |true=>
  obtain⟨its,g,p,hz⟩:=I.tuple (show z7 X.K H b ys from n)
  have D:=zDT (prog:=X.prog) (w:=X.w) (A:=X.A.in1) (show X.A.in1.handled=none from I.ok.hd m) a b d its.toArray
  refine⟨its,fun i h=>h.IsTupleIter a b i/\h.IsTuple b its.toArray,g,?_,fun i h=>⟨h,(show s.heap.IsTuple b its.toArray from p)⟩,fun i h t=>t.1⟩
  have e:its.toArray.size=its.length:=aP
  rw[e]at D
  exact⟨D.live,D.frame,fun i s Q E hi st j=>D.item i s Q E hi st fun x h' tk l=>j x h' tk (by simpa using l),D.done⟩
 |false=>
  obtain⟨its,g,p,hz⟩:=I.list (show yG X.K H b ys from n)
  have D:=mP (prog:=X.prog) (w:=X.w) (A:=X.A.in1) (show X.A.in1.handled=none from I.ok.hd m) a b d its.toArray
  refine⟨its,fun i h=>h.IsListIter a b i/\h.IsList b its.toArray,g,?_,fun i h=>⟨h,p.isList⟩,fun i h t=>t.1⟩
  have e:its.toArray.size=its.length:=aP
  rw[e]at D
  exact⟨D.live,D.frame,fun i s Q E hi st j=>D.item i s Q E hi st fun x h' tk l=>j x h' tk (by simpa using l),D.done⟩
theorem jN.inj {X:Cx}{a:List (ak×Obj)}{σ:St}{H:Hp}{s:au}(I:Inv X a σ H s){tp:Bool}{b:ak}{ys c:List V}(d:jN tp X.K H b ys)(e:jN tp X.K H b c):ys=c:=by
 cases tp with
 |true=>exact I.tuple_inj (show z7 X.K H b ys from d) (show z7 X.K H b c from e)
 |false=>exact I.list_inj (show yG X.K H b ys from d) (show yG X.K H b c from e)
theorem gM.keep {tp:Bool}{h h':bF}{a b:ak}{i:Nat}(x:gM tp h a b i)(e:∀o,h.get? a=some o->h'.get? a=some o):gM tp h' a b i:=by
 cases tp with
 |true=>exact(show h.IsTupleIter a b i from x).at e
 |false=>exact(show h.IsListIter a b i from x).at e
theorem gM.obj {tp:Bool}{h:bF}{a b:ak}{i:Nat}(x:gM tp h a b i):∃o,h.get? a=some o/\∀v,o.data≠.cell v:=by
 cases tp with
 |true=>obtain⟨o,e,c,d⟩:=(show h.IsTupleIter a b i from x);exact⟨o,e,fun v z=>by rw[d]at z;cases z⟩
 |false=>obtain⟨o,e,c,d⟩:=(show h.IsListIter a b i from x);exact⟨o,e,fun v z=>by rw[d]at z;cases z⟩
structure Zn (n a b:Nat) (tp:Bool) (i:Nat) (h:bF):Prop where
 zz:iV h (n+4) (n+2) (n+3) .none
 ti:eh h (n+2) (.ref n) (.ref (n+1))
 to:∃u v,eh h (n+3) u v
 i1:h.IsListIter n a i
 i2:gM tp h (n+1) b i
theorem zHM {P:aJ}{w:bh}{K:ag}{D:List bS}{kk:Nat}{pos:Pos}{n a b:Nat}(tp:Bool)(ha:a<n)(hb:b<n):Turn P w K (.Tuple D kk pos) (Itz K tp a b) [n+4,n+2,n+3,n,n+1] (n+4) (Zn n a b tp) where
 mem:=by simp
 obj:=fun i h st c l=>by
  have F:c=n+4\/c=n+2\/c=n+3\/c=n\/c=n+1:=by simpa using l
  rcases F with z|z|z|z|z
  ·rw[z];exact⟨_,st.zz,fun v z=>by cases z⟩
  ·rw[z];exact⟨_,st.ti,fun v z=>by cases z⟩
  ·rw[z];obtain⟨u,v,e⟩:=st.to;exact⟨_,e,fun v z=>by cases z⟩
  ·rw[z];obtain⟨o,e,c,d⟩:=st.i1;exact⟨o,e,fun v z=>by rw[d]at z;cases z⟩
  ·rw[z];exact st.i2.obj
 keep:=fun i h h' st k=>⟨k _ (by simp) _ st.zz,k _ (by simp) _ st.ti,let⟨u,v,e⟩:=st.to;⟨u,v,k _ (by simp) _ e⟩,st.i1.at fun o e=>k _ (by simp) o e,st.i2.keep fun o e=>k _ (by simp) o e⟩
 item:=by
  intro X R T U l i G s σ H E I hf st W
  subst R T U
  obtain⟨xs,ys,x,y,hq1,hq2,Y,hy⟩:=W
  obtain⟨its,Z,p,hz⟩:=I.list hq1
  obtain⟨u,hu,ru⟩:=Z.get Y
  obtain⟨m,T2,r,D2,t,J⟩:=zCK I l hq2 (jA 1 hb)
  obtain⟨v,hv,aa⟩:=r.get hy
  have D1:=mP (prog:=X.prog) (w:=X.w) (A:=X.A.in1) (show X.A.in1.handled=none from I.ok.hd l) n a (jA 0 ha) its.toArray
  obtain⟨t0,ab,B⟩:=st.to
  have l1:i<its.toArray.size:=by have:=(ah.mp hu).1;simpa using this
  have l2:i<m.length:=(ah.mp hv).1
  refine zHK D1 D2 (zAx ha hb) st.zz st.ti B ⟨st.i1,p.isList⟩ (t _ st.i2) l1 l2 fun M N h' tk px py a1 a2 a3 a4 a5 a6 O=>?_
  have ac:M=u:=by
   have:its[i]?=some M:=by simpa using px
   rw[hu]at this;exact(aB this).symm
  have al:N=v:=by
   have:m[i]?=some N:=py
   rw[hv]at this;exact(aB this).symm
  subst ac al
  refine⟨_,rfl,lJ a1 fun h2 am j=>?_⟩
  have L:s.heap.get? s.heap.objs.size=none:=by
   cases g:s.heap.get? s.heap.objs.size with
   |none=>rfl
   |some o=>exact absurd (aF g) (bN _)
  have an:n+4<s.heap.objs.size:=aF st.zz
  have ap:eh h2 s.heap.objs.size M N:=(j.2 _ (de an)).trans a5
  have S:=zAx ha hb
  refine⟨.ref s.heap.objs.size,upd H s.heap.objs.size (.tup [x,y]),I.turnedT (fp:=[n+4,n+2,n+3,n,n+1]) (h':=h2) (t':=tk) (fun c o f q=>?_) hf L ⟨by show 2<=sizeLine;decide,[M,N],.cons ru (.cons aa .nil),⟨_,ap,rfl,_,rfl⟩⟩,rfl,
   ⟨_,x,y,rfl,I.hok.free L,rfl,(fun zs C=>by rw[I.list_inj C hq1];exact Y),(fun zs C=>by rw[jN.inj I C hq2];exact hy)⟩,
   ⟨am,(j.2 _ S.TIz).trans (O _ _ S.TIz S.TITO S.TIi1 S.TIi2 st.ti),⟨_,_,(j.2 _ S.TOz).trans a2⟩,a3.1.at fun o q=>(j.2 n S.i1z).trans q,(J _ _ a4).keep fun o q=>(j.2 (n+1) S.i2z).trans q⟩,fun c f=>?_⟩
  ·have c1:c≠n+4:=fun z=>f (by simp[z])
   have c2:c≠n+3:=fun z=>f (by simp[z])
   have c3:c≠n:=fun z=>f (by simp[z])
   have c4:c≠n+1:=fun z=>f (by simp[z])
   exact(j.2 c c1).trans (O c o c1 c2 c3 c4 q)
  ·rw[zG]
   ·exact(hf c f).1
   ·rintro rfl
    have F:s.heap.objs.size=n+4\/s.heap.objs.size=n+2\/s.heap.objs.size=n+3\/s.heap.objs.size=n\/s.heap.objs.size=n+1:=by simpa using f
    omega
 done:=by
  intro X R T U l i G s σ H E I hf st W
  subst R T U
  obtain⟨xs,ys,hq1,hq2,Y⟩:=W
  obtain⟨its,Z,p,hz⟩:=I.list hq1
  obtain⟨m,T2,r,D2,t,J⟩:=zCK I l hq2 (jA 1 hb)
  have e1:=Z.length
  have e2:=r.length
  have D1:=mP (prog:=X.prog) (w:=X.w) (A:=X.A.in1) (show X.A.in1.handled=none from I.ok.hd l) n a (jA 0 ha) its.toArray
  obtain⟨t0,ab,B⟩:=st.to
  refine zHL D1 D2 (zAx ha hb) st.zz st.ti B ⟨st.i1,p.isList⟩ (t _ st.i2) (by rw[aP];omega) fun h' tk O=>⟨rfl,I.turnedF (fp:=[n+4,n+2,n+3,n,n+1]) (fun c o f q=>?_) hf⟩
  exact O c o (fun z=>f (by simp[z])) (fun z=>f (by simp[z])) (fun z=>f (by simp[z])) (fun z=>f (by simp[z])) q
 self:=fun A i s Q E st h=>ir st.zz h
section
variable{X:Cx}{elts:List bS}{k:Nat}{tpos:Pos}
noncomputable def zNV (K:ag)(tp:Bool)(ta:TA):TI:=fun σ H R=>ta σ H fun vs H1=>∃a b xs ys,vs=[.ref a,.ref b]/\yG K H1 a xs/\jN tp K H1 b ys/\R (Itz K tp a b) H1
theorem zHN {e f:bS}{E:TA}{p pos:Pos}(tp:Bool)(G:Gl X "zip")(J:X.mg "zip"=none)(ha:PA X [e,f] E)(L:starEach [e,f] X.env=[(false,eval e X.env),(false,eval f X.env)]:=by rfl)(l:starEach [f] X.env=[(false,eval f X.env)]:=by rfl) :
  PI X (.Tuple elts k tpos) (.Call (.Name "zip" p) [e,f] [] pos) (zNV X.K tp E):=by
 intro g s σ H R I h
 refine Call_ (j2 I G J boot_zip (cQ (zM (ha pos g s σ H _ I h) fun W d ⟨vs,m,i,M,N⟩=>?_) (by rw[L,l]) (by rw[l];rfl)))
 obtain⟨a,b,xs,ys,rfl,hl,hb,q⟩:=N
 cases M with
 |cons O P=>
 cases P with
 |cons Q T=>
 cases T
 cases O
 cases Q
 obtain⟨its,Y,w,hz⟩:=i.list hl
 have fresh:∀(h':bF),(∀c o,d.heap.get? c=some o->h'.get? c=some o)->∀c∈[d.heap.objs.size+4,d.heap.objs.size+2,d.heap.objs.size+3,d.heap.objs.size,d.heap.objs.size+1],qI X g m c:=fun h' j c U=>by
  have n:d.heap.objs.size<=c:=by
   have:c=d.heap.objs.size+4\/c=d.heap.objs.size+2\/c=d.heap.objs.size+3\/c=d.heap.objs.size\/c=d.heap.objs.size+1:=by simpa using U
   omega
  exact i.fpOk n (i.hok.fresh n)
 have F:a<d.heap.objs.size:=let⟨o,e,_⟩:=w.isList;aF e
 cases tp with
 |true=>
  obtain⟨r,x,v,y⟩:=i.tuple (show z7 X.K m b ys from hb)
  have t:d.heap.IsTuple b r.toArray:=v
  have z:b<d.heap.objs.size:=let⟨o,e,_⟩:=t;aF e
  refine zNU w.isList t fun h' u A B C D j=>?_
  exact ir u ⟨_,[d.heap.objs.size+4,d.heap.objs.size+2,d.heap.objs.size+3,d.heap.objs.size,d.heap.objs.size+1],_,_,m,rfl,i.kept (t':=d.toks) j,zHM true F z,⟨u,A,⟨_,_,B⟩,C,D⟩,fresh h' j,q⟩
 |false=>
  obtain⟨r,x,v,y⟩:=i.list (show yG X.K m b ys from hb)
  have z:b<d.heap.objs.size:=let⟨o,e,_⟩:=v.isList;aF e
  refine call_zip_2 w.isList v.isList fun h' u A B C D _ j=>?_
  exact ir u ⟨_,[d.heap.objs.size+4,d.heap.objs.size+2,d.heap.objs.size+3,d.heap.objs.size,d.heap.objs.size+1],_,_,m,rfl,i.kept (t':=d.toks) j,zHM false F z,⟨u,A,⟨_,_,B⟩,C,D⟩,fresh h' j,q⟩
end
open AutoSeq1 (wpAny_loadPart')
theorem zHO {J:It}{xs ys:List V}{len:Nat}{Hk:Hp->Prop}(u:∀i H,Hk H->i<len->J.go i H)(v:∀i H,Hk H->i=len->J.stop i H)(w:∀i H x c,Hk H->J.yld i H x c->∃T s t,x=.ref T/\H T=none/\c=upd H T (.tup [s,t])/\xs[i]?=some s/\ys[i]?=some t)
  {caps:List Nat} {n:Nat} {σ:St} {g:TG} {I:TT} {L:TE} {F:List V->Hp->Prop} {M:Hp} (cv:St) (k:Nat) (U:len<1000)
  (Pv:Nat->List V->Hp->Prop) (N:Pv 0 [] M) (O:∀i a H,i<=len->Pv i a H->Hk H/\a.length<=i)
  (o:∀(i:Nat) (x y:V) (T:ak) (a:List V) (H:Hp) (h:St) (z:List V->St->Hp->Prop),(∀d c h,h.length=k->Pv (i+1) d c->z d (cv++h) c)->xs[i]?=some x->ys[i]?=some y->h.length=k->Pv i a H->H T=none->
   g (.ref T) (cv++h) (upd H T (.tup [x,y])) fun f A=>I f A fun b q=>if b=true then L f q fun y l=>z (a++[y]) f l else z a f q)
  (fin:∀a H,Pv len a H->F a H) (B:uR caps n σ=cv++aH k none:=by rfl) :
  ∃W:Nat->Nat->List V->St->Hp->Prop,(∃m,W 0 m [] (uR caps n σ) M)/\∀i m a r c,W i m a r c->
   (J.stop i c/\F a c)\/
   (J.go i c/\a.length<sizeLine/\∀x C,J.yld i c x C->g x r C fun f A=>I f A fun b q=>if b=true then L f q fun y l=>∃j,j<m/\W (i+1) j (a++[y]) f l else∃j,j<m/\W (i+1) j a f q):=by
 refine⟨fun i m a r c=>i<=len/\m=len-i/\(∃ys,ys.length=k/\r=cv++ys)/\Pv i a c,⟨len,bw _,rfl,⟨_,by simp,B⟩,N⟩,?_⟩
 rintro i m a r c ⟨hi,rfl,⟨h,P,rfl⟩,pv⟩
 obtain⟨D,ha⟩:=O i a c hi pv
 by_cases e:i=len
 ·subst e
  exact .inl ⟨v _ _ D rfl,fin a c pv⟩
 ·have E:i<len:=by omega
  refine .inr ⟨u _ _ D E,by rw[aI];omega,fun x C G=>?_⟩
  obtain⟨T,s,t,rfl,Q,rfl,e1,R⟩:=w _ _ _ _ D G
  exact o i s t T a c h (fun d f l=>∃j,j<len-i/\(i+1<=len/\j=len- (i+1)/\(∃ys,ys.length=k/\f=cv++ys)/\Pv (i+1) d l)) (fun d l h hz p=>⟨len- (i+1),by omega,by omega,rfl,⟨h,hz,rfl⟩,p⟩) e1 R P pv Q
theorem zNW:typeLookup (.type "list") "keys"=pure none:=am_miss_of_fast (by kernel_rfl)
theorem zNX {prog:aJ}{w:bh}{A:bX}{E:aj->au->Prop}{s:au}{a:ak}{o:Obj}{xs:Array aj}{k:Nat}{name:Str}{Q:Option aj->au->Prop}
  (n:s.heap.get? a=some o) (p:o.cls=.type "list") (f:o.data=.seq xs k) (hd:o.dict=none) (i:typeLookup (.type "list") name=pure none) (j:(["__module__","__name__","__qualname__","__doc__","__annotations__"]:List Str).contains name=false) (t:A.handled=none)
  (h:∀h' tk,(∀b q,s.heap.get? b=some q->h'.get? b=some q)->Q none {s with heap:=h',toks:=tk}) (hsz:name.length+100<=sizeLine:=by size_fits) :
  wpAny (model prog w) A (getAttr? (.ref a) name) Q E s:=by
 obtain⟨c,u,v,x⟩:=o
 simp only at p f hd
 subst p f hd
 obtain⟨y,g,d,tk,os⟩:=s
 have r:∀l,(⟨y,g,d,l,os⟩:au).TypeIs (.ref a) "list" :=fun _=>⟨_,n,rfl⟩
 have f1:=sub_AttributeError
 have z:=fQ.lookup
 have B:=fQ.bind (.ref a)
 have C:=am_list_getattr_none
 unfold getAttr? getAttrBy? getAttrBy
 repeat(any_goals (first|assumption|exact r _|((with_reducible show wpAny _ _ (call (Value.builtin "list.__getattribute__") _ _) _ _ _);refine jh fQ (r _) am_entry_list_getattribute (PySem.F.args_list_getattribute_2 _ _) (meets_getattribute_miss_list a xs k x name _ i j hsz) ⟨n,t,fun h' l e m=>?_⟩)|wp_step))
 obtain⟨t',D,G⟩:=m.there
 show wpAny _ _ (getattributeRaised _ _ _ _ _ _ _) _ _ _
 unfold getattributeRaised
 repeat(any_goals (first|assumption|wp_step))
 exact h _ _ m.of.keeps
theorem zHP:entryFor table "dict.update.loop"=some di.«dict.update.loop»:=pJ (by kernel_rfl)
theorem zCL:plainId "dict.update.loop"=true:=by decide+kernel
theorem zNY {κ:Type} [DecidableEq κ] {kvs:List (κ×aj)}{k:κ}{v:aj}(h:k∉kvs.map (·.1)):stored kvs k v=kvs++[(k,v)]:=by
 unfold stored
 rw[if_neg]
 rw[List.any_eq_true]
 rintro⟨b,a,c⟩
 exact h (ao.mpr ⟨b,a,of_decide_eq_true c⟩)
section
variable{prog:aJ}{w:bh}{A:bX}{R:qp->au->Prop}
theorem zNZ {I ax D:ak}{items:Array aj}{kvs:List (Str×aj)}(hh:A.in1.handled=none)(G:ax≠I)(a:D≠I)(H:D≠ax)(h:kvs.length=items.size)(hz:kvs.length<=1000)(nd:(kvs.map (·.1)).Nodup) :
  ∀(m i:Nat) (s:au),items.size-i=m->i<=items.size->(s.heap.IsListIter I ax i/\s.heap.IsList ax items)->
   (∀(j:Nat) (v:aj),items[j]?=some v->∃q,kvs[j]?=some q/\∃b o t n,v=Value.ref b/\b≠D/\b≠I/\s.heap.get? b=some o/\o.cls=.type "tuple"/\o.data=.seq #[.str q.1 t,q.2] n)->
   s.heap.DictOf (vP prog w) D ((kvs.take i).map fun q=>((Sum.inr q.1:zO),q.2))->
   (∀h' tk,(∀b o,b≠D->b≠I->s.heap.get? b=some o->h'.get? b=some o)->h'.DictOf (vP prog w) D (kvs.map fun q=>((Sum.inr q.1:zO),q.2))->R (.ok (.ret .none)) {s with heap:=h',toks:=tk})->
   ∀n:Tok,codeAny (model prog w) A (.builtin "dict.update.loop" ⟨[.ref D,.ref I,.int (i:Int) n,.none],[]⟩) R s:=by
 have W:=qy (prog:=prog) (w:=w) (A:=A.in1) hh I ax G items
 intro m
 induction m with
 |zero=>
  intro i s J hi st L hd M n
  have N:i=items.size:=by omega
  subst N
  refine eP zHP ?_
  rw[d7 zCL _]
  show wpAny _ A.in1 (pyNext (.ref I)>>=_) _ _ s
  refine af (W.done s _ _ st fun h' tk f=>?_)
  show wpAny _ A.in1 (sA D []>>=_) _ _ _
  refine af (az (az (M h' tk (fun b o g l e=>f b o (by simpa using l) e) ?_)))
  rw[<-h,bo]at hd
  obtain⟨o,O,ep,P,vQ⟩:=hd
  exact⟨o,O,ep,f D o (by simpa using a) P,vQ⟩
 |succ m ih=>
  intro i s J hi st L hd M n
  have r:i<items.size:=by omega
  refine eP zHP ?_
  rw[d7 zCL _]
  show wpAny _ A.in1 (pyNext (.ref I)>>=_) _ _ s
  refine af (W.item i s _ _ r st fun v g tk hv Q f=>?_)
  obtain⟨q,hq,b,o,t,nn,rfl,ap,T,P,U,X⟩:=L i v hv
  have u:g.get? b=some o:=f b o (by simpa using T) P
  have Y:g.DictOf (vP prog w) D ((kvs.take i).map fun q=>((Sum.inr q.1:zO),q.2)):=by
   obtain⟨x,O,ep,Z,vQ⟩:=hd
   exact⟨x,O,ep,f D x (by simpa using a) Z,vQ⟩
  show wpAny _ A.in1 (holding [Value.ref b] _>>=_) _ _ _
  refine af (dX ?_)
  have hT:me {s with heap:=g,toks:=tk} (.ref b) "tuple" :=⟨o,u,U⟩
  refine af (wpAny_tryCatch ?_)
  unfold tD
  refine af (ik hT ?_)
  rw[if_pos (by decide)]
  refine af (dz u X (az ?_))
  show wpAny _ A.in1 (holding [Value.str q.1 t,q.2] (dictSet D (.str q.1 t) q.2)) _ _ _
  have y:kvs[i]?=some q:=hq
  have B:i<kvs.length:=(ah.mp y).1
  have C:kvs[i]=q:=(ah.mp y).2
  refine dX (nU (knd:=vP prog w) (k:=Sum.inr q.1) (s:={s with heap:=g,toks:=tk}) (zFg prog w q.1 t) Y (fun l c E=>?_) (by rw[ai,aZ,aI];omega))
  have F:(Sum.inr q.1:zO)∉(((kvs.take i).map fun q=>((Sum.inr q.1:zO),q.2)).map (·.1)):=by
   rw[aV]
   intro J
   obtain⟨p,aa,e⟩:=ao.mp J
   have e':p.1=q.1:=nv e
   obtain⟨j,hj,ej⟩:=dM aa
   have as:j<i:=by rw[aZ]at hj;omega
   have ab:j<kvs.length:=by omega
   rw[List.getElem_take]at ej
   have:=(eC (xs:=kvs.map (·.1)) (h₀:=by simpa using ab) (h₁:=by simpa using B) nd).mp (by rw[fR,fR,ej,C];exact e')
   omega
  rw[zNY F]at c
  have ed:((kvs.take i).map fun q=>((Sum.inr q.1:zO),q.2))++[((Sum.inr q.1:zO),q.2)]=(kvs.take (i+1)).map fun q=>((Sum.inr q.1:zO),q.2):=by
   rw[aA B,C,aQ];rfl
  rw[ed]at c
  show wpAny _ A.in1 (again _) _ _ _
  refine az ⟨gn zCL _,?_⟩
  have keep:∀b o,b≠D->b≠I->s.heap.get? b=some o->l.get? b=some o:=fun b o e1 d e=>by
   rw[E.2 b e1];exact f b o (by simpa using d) e
  refine ih (i+1) {s with heap:=l,toks:=tk+1} (by omega) r (W.frame _ g l Q fun b hb o e=>?_) (fun j v hv=>?_) c (fun h' ac al am=>M h' ac (fun b o e1 d e=>al b o e1 d (keep b o e1 d e)) am) _
  ·rw[E.2 b]
   ·exact e
   ·rintro rfl
    rcases aL.mp hb with z|z
    ·exact a z
    ·exact H (by simpa using z)
  ·obtain⟨q',an,b',x,t',n',e1,d,e3,e4,e5⟩:=L j v hv
   exact⟨q',an,b',x,t',n',e1,d,e3,keep b' x d e3 e4,e5⟩
theorem zNa {E:aj->au->Prop}{s:au}{l:ak}{items:Array aj}{kvs:List (Str×aj)}{Q:aj->au->Prop}(H:A.handled=none)(hl:PlainL s.heap l items)(m:kvs.length=items.size)(hz:kvs.length<=1000)(nd:(kvs.map (·.1)).Nodup)
  (O:∀(j:Nat) (v:aj),items[j]?=some v->∃q,kvs[j]?=some q/\∃b o t n,v=Value.ref b/\s.heap.get? b=some o/\o.cls=.type "tuple"/\o.data=.seq #[.str q.1 t,q.2] n)
  (h:∀h' tk,(∀b o,s.heap.get? b=some o->h'.get? b=some o)->h'.DictOf (vP prog w) s.heap.objs.size (kvs.map fun q=>((Sum.inr q.1:zO),q.2))->Q (.ref s.heap.objs.size) {s with heap:=h',toks:=tk}) :
  wpAny (model prog w) A (call (.type "dict") [.ref l]) Q E s:=by
 refine callType_codes (Q₁:=fun obj J=>obj=.ref s.heap.objs.size/\J={s with heap:=s.heap.push {cls:=.type "dict",data:=.dict #[]}}) PySem.F.kt_called_dict (PySem.F.kt_typeCall_dict_1 _) PySem.F.entry_dict_init (kt_code_dict_new _ ⟨rfl,rfl⟩) ?_
 rintro obj J ⟨rfl,rfl⟩
 have a:(s.heap.push {cls:=.type "dict",data:=.dict #[]}).DictOf (vP prog w) s.heap.objs.size []:=pY s.heap
 obtain⟨o,n,L,u,x,hd⟩:=id hl
 have p:l<s.heap.objs.size:=aF L
 have f:(s.heap.push {cls:=.type "dict",data:=.dict #[]}).get? l=some o:=ae _ L
 refine⟨a.typeIs,PySem.F.args_dict_init_2 _ _,?_⟩
 unfold di.«dict.__init__»
 refine af ?_
 unfold sC
 refine af (wpAny_notOrdered_dict a.typeIs ?_)
 show wpAny _ _ (pure (s.heap.objs.size,[Value.ref l])) _ _ _
 refine az ?_
 show wpAny _ _ (mB "dict.__init__" s.heap.objs.size (.ref l) [] .none) _ _ _
 unfold mB
 have P:me {s with heap:=s.heap.push {cls:=.type "dict",data:=.dict #[]}} (.ref l) "list" :=⟨o,f,u⟩
 refine af (ik P ?_)
 rw[if_pos (by decide)]
 refine af (zNX f u hd x zNW (by decide) (by simp[H]) (fun i y d=>?_))
 rw[if_pos (show(none:Option aj).isNone=true from rfl)]
 refine af (fZ (af ?_))
 have hl2:i.IsList l items:=⟨o,d _ _ f,u,n,hd⟩
 refine gx (s:={s with heap:=i,toks:=y}) hl2 ?_
 have c:s.heap.objs.size<i.objs.size:=by
  obtain⟨M,N,ep,g,_⟩:=a
  exact aF (d _ _ g)
 have r:l<i.objs.size:=mL p c
 refine az ⟨gn zCL _,?_⟩
 have old:∀b o,s.heap.get? b=some o->i.get? b=some o:=fun b o e=>d b o (ae _ e)
 refine zNZ (I:=i.objs.size) (ax:=l) (D:=s.heap.objs.size) (items:=items) (kvs:=kvs) (by simp[H]) (bp r) (bp c) (de p) m hz nd items.size 0 _ rfl (bw _)
  ⟨⟨_,aE _ rfl,rfl,rfl⟩,hl2.push _⟩ (fun j v hv=>?_) ?_ (fun h' z B C=>⟨rfl,h h' z (fun b o e=>?_) C⟩) _
 ·obtain⟨q,T,b,U,t,W,e1,G,X,Y⟩:=O j v hv
  exact⟨q,T,b,U,t,W,e1,bp (aF G),bp (mL (aF G) c),ae _ (old _ _ G),X,Y⟩
 ·rw[nI]
  obtain⟨M,N,ep,g,vQ⟩:=a
  exact⟨M,N,ep,ae _ (d _ _ g),vQ⟩
 ·exact B b o (bp (aF e)) (bp (mL (aF e) c)) (ae _ (old _ _ e))
end
section
variable{X:Cx}
noncomputable def zDU (K:ag)(H:Hp)(ts:List V)(kvs:List (Str×V)):Prop:=ts.length=kvs.length/\∀(i:Nat) (q:Str×V),kvs[i]?=some q->∃a,ts[i]?=some (.ref a)/\z7 K H a [.str q.1,q.2]
theorem zNb {c:List (ak×Obj)}{σ:St}{H:Hp}{s:au}(I:Inv X c σ H s){p:List V}{kvs:List (Str×V)}{its:List aj}(d:zDU X.K H p kvs)(e:zU p its) :
  ∃ws:List (Str×aj),KV kvs ws/\∀(j:Nat) (v:aj),its[j]?=some v->∃q,ws[j]?=some q/\∃b o t n,v=Value.ref b/\s.heap.get? b=some o/\o.cls=.type "tuple"/\o.data=.seq #[.str q.1 t,q.2] n:=by
 have one:∀(i:Nat) (q:Str×V) (u:aj),kvs[i]?=some q->its[i]?=some u->∃x,zX q.2 x/\∃b o t n,u=Value.ref b/\s.heap.get? b=some o/\o.cls=.type "tuple"/\o.data=.seq #[.str q.1 t,x] n:=fun i q u y z=>by
  obtain⟨a,ha,A⟩:=d.2 i q y
  obtain⟨r,e1,f⟩:=e.get ha
  rw[z]at e1
  cases e1
  cases f
  obtain⟨w,B,⟨o,C,D,n,hd⟩,_⟩:=I.tuple A
  obtain⟨N,E,rfl,g,h⟩:=zAq B
  obtain⟨t,rfl⟩:=g
  exact⟨E,h,a,o,t,n,rfl,C,D,hd⟩
 have hl:its.length=kvs.length:=by rw[<-e.length];exact d.1
 clear d e
 induction kvs generalizing its with
 |nil=>
  refine⟨[],.nil,fun j v hv=>?_⟩
  have:its=[]:=by simpa using hl
  rw[this]at hv;simp at hv
 |cons q kvs ih=>
  cases its with
  |nil=>simp at hl
  |cons u its=>
   obtain⟨x,F,G⟩:=one 0 q u rfl rfl
   obtain⟨ws,J,l⟩:=ih (its:=its) (fun i m r L M=>one (i+1) m r (by simpa using L) (by simpa using M)) (by simpa using hl)
   refine⟨(q.1,x)::ws,.cons ⟨rfl,F⟩ J,fun j v hv=>?_⟩
   cases j with
   |zero=>
    have:u=v:=by simpa using hv
    subst this
    exact⟨_,rfl,G⟩
   |succ j=>
    obtain⟨m,e1,f⟩:=l j v (by simpa using hv)
    exact⟨m,by simpa using e1,f⟩
theorem KV.enc {kvs:List (Str×V)}{ws:List (Str×aj)}(h:KV kvs ws):KV (vI kvs) (ws.map fun q=>((Sum.inr q.1:zO),q.2)):=by
 induction h with
 |nil=>exact .nil
 |cons h t ih=>exact .cons ⟨congrArg Sum.inr h.1,h.2⟩ ih
noncomputable def zNc (K:ag):List V->Hp->VK->Prop:=fun xs H Q=>∃p ts kvs,xs=[.ref p]/\yG K H p ts/\zDU K H ts kvs/\(kvs.map (·.1)).Nodup/\kvs.length<=1000/\∀d,H d=none->Q (.ref d) (upd H d (.dK (vI kvs)))
theorem zNd (i:X.calm=true):qJ X (.type "dict") (zNc X.K):=by
 intro f s σ H xs x Q I l h
 obtain⟨p,y,kvs,rfl,m,a,nd,hz,q⟩:=h
 obtain⟨u,rfl,n⟩:=qC l
 cases n
 obtain⟨its,g,pl,_⟩:=I.list m
 obtain⟨ws,c,d⟩:=zNb I a g
 have hl:ws.length=kvs.length:=(dB c).symm
 have b:its.length=kvs.length:=by rw[<-g.length];exact a.1
 refine zNa (kvs:=ws) (I.ok.hd i) pl (by rw[hl];simp[b]) (by omega) (by rw[<-c.keys];exact nd) (fun j v hv=>d j v (by simpa using hv)) fun h' tk r hd=>?_
 have e:(s.heap.objs.size==sysModules)=false:=by
  have t:=I.big
  have w:s.heap.objs.size≠sysModules:=de t
  simpa using w
 exact⟨.ref s.heap.objs.size,_,I.laid (t':=tk) (o:=.dK (vI kvs)) r (aC _) (zCE (by simp[vI];rw[aI];omega) e c.enc hd),rfl,q _ (I.hok.fresh (aC _))⟩
end
open PySem.AutoSeq1 (wpAny_loadPart')
open PySem.MeetsSeq PySem.MeetsSeq2 PySem.MeetsSeq3 PySem.SeqAt
section
open MyS PySem.W
variable{prog:aJ}{w:bh}{A:bX}{E:aj->au->Prop}{s:au}
end
section
open MyS PySem.W
variable{prog:aJ}{w:bh}{A:bX}{E:aj->au->Prop}{s:au}
end
open MyS PySem.W
noncomputable def jB (a b:Int×Str):Bool:=if a.1=b.1 then decide (a.2.cps.toList<b.2.cps.toList)else decide (a.1<b.1)
noncomputable def j6 (ks:List (Int×Str))(i j:Nat):Bool:=jB (ks.getD i (0,⟨#[]⟩)) (ks.getD j (0,⟨#[]⟩))
theorem zHQ (a:Int×Str):jB a a=false:=by unfold jB;rw[if_pos rfl];simp[fP]
theorem zHR {a b c:Int×Str}(d:jB a b=true)(e:jB b c=true):jB a c=true:=by
 unfold jB at*
 by_cases e1:a.1=b.1<;>by_cases f:b.1=c.1
 ·rw[if_pos e1]at d;rw[if_pos f]at e;rw[if_pos (e1.trans f)]
  simp only[decide_eq_true_eq]at*
  exact n8 d e
 ·rw[if_neg f]at e;rw[e1,if_neg f];exact e
 ·rw[if_neg e1]at d;rw[<-f,if_neg e1];exact d
 ·rw[if_neg e1]at d;rw[if_neg f]at e
  have:=of_decide_eq_true d
  have:=of_decide_eq_true e
  rw[if_neg (by omega)];exact decide_eq_true (by omega)
theorem zHS {a b:Int×Str}(h:a≠b):jB a b=true\/jB b a=true:=by
 unfold jB
 by_cases e:a.1=b.1
 ·rw[if_pos e,if_pos e.symm]
  simp only[decide_eq_true_eq]
  by_cases c:a.2.cps.toList<b.2.cps.toList
  ·exact .inl c
  ·by_cases d:b.2.cps.toList<a.2.cps.toList
   ·exact .inr d
   ·exact absurd (fM e (Str_ext (zGz _ _ c d))) h
 ·rw[if_neg e,if_neg (eN e)]
  rcases Int.lt_or_gt_of_ne e with z|z
  ·exact .inl (decide_eq_true z)
  ·exact .inr (decide_eq_true z)
theorem zNe {ks:List (Int×Str)}(nd:ks.Nodup):TotalOn (j6 ks) ks.length where
 irr:=fun i _=>zHQ _
 tr:=fun i j k _ _ _ b c=>zHR b c
 tot:=fun i j hi d a=>by
  have e1:ks.getD i (0,⟨#[]⟩)=ks[i]:=by simp[hi]
  have e:ks.getD j (0,⟨#[]⟩)=ks[j]:=by simp[d]
  unfold j6
  rw[e1,e]
  exact zHS fun z=>a ((eC nd).mp z)
noncomputable def jO (h:bF)(v:aj)(k:Int×Str):Prop:=∃b o t u n,v=Value.ref b/\h.get? b=some o/\o.cls=.type "tuple"/\o.data=.seq #[.int k.1 t,.str k.2 u] n
theorem jO.keep {h h':bF}{v:aj}{k:Int×Str}(p:jO h v k)(e:∀b o,h.get? b=some o->o.cls=.type "tuple"->h'.get? b=some o):jO h' v k:=by
 obtain⟨b,o,t,u,n,c,d,a,f⟩:=p
 exact⟨b,o,t,u,n,c,e b o d a,a,f⟩
section
variable{prog:aJ}{w:bh}{A:bX}{E:aj->au->Prop}{s:au}
theorem zNf {v u:aj}{k l:Int×Str}{C:Bool->au->Prop}(hv:jO s.heap v k)(m:jO s.heap u l)(e:k≠l)(h:C (jB k l) s) :
  wpAny (model prog w) A (keyLt' (tuples' true) v u) C E s:=by
 obtain⟨b,o,t,p,n,r,x,F,y⟩:=hv
 obtain⟨G,H,t',a,I,c,d,B,f⟩:=m
 subst r;subst c
 refine kat_lt x y d f ?_
 unfold jB at h
 have q:=oq (A:=A) (s:=s) k.1 t l.1 t'
 by_cases hl:k.1=l.1
 ·rw[if_pos hl]at h
  have g:(k.1==l.1)=true:=by rw[hl];simp
  rw[g]at q
  refine uf (q prog w _ _ (kat_yes ?_))
  have D:k.2≠l.2:=fun z=>e (fM hl z)
  have i:(k.2==l.2)=false:=by simpa using D
  have j:=ot (A:=A) (s:=s) k.2 p l.2 a
  rw[i]at j
  refine uf (j prog w _ _ (kat_no ?_))
  exact kat_one _ _ (va h)
 ·rw[if_neg hl]at h
  have g:(k.1==l.1)=false:=beq_eq_false_iff_ne.mpr hl
  rw[g]at q
  refine uf (q prog w _ _ (kat_no ?_))
  exact oneLt_int h
theorem zNg {kvs:List aj}{ks:List (Int×Str)}(h:∀(i:Nat) (v:aj),kvs[i]?=some v->∃k,ks[i]?=some k/\jO s.heap v k)(p:2<=kvs.length){Q:ue->au->Prop}(d:Q (tuples' true) s) :
  wpAny (model prog w) A (keyKind' kvs.toArray) Q E s:=by
 have go:∀l:List aj,(∀v∈l,∃k,jO s.heap v k)->∃fs,KatTups s.heap l fs/\(∀v∈fs,∃k t,v=Value.int k t)/\fs.length=l.length:=by
  intro l
  induction l with
  |nil=>intro _;exact⟨[],.nil,by simp,rfl⟩
  |cons v l ih=>
   intro hl
   obtain⟨k,b,o,t,u,n,f,g,j,m⟩:=hl v (aq ..)
   obtain⟨fs,f1,f2,c⟩:=ih fun u a=>hl u (aw _ a)
   subst f
   refine⟨.int k.1 t::fs,.cons g j m rfl f1,fun u a=>?_,by simp[c]⟩
   rcases aL.mp a with rfl|a
   ·exact⟨_,t,rfl⟩
   ·exact f2 u a
 obtain⟨fs,f1,f2,c⟩:=go kvs fun v hv=>by
  obtain⟨i,hi,e⟩:=dM hv
  obtain⟨k,_,q⟩:=h i v (by rw[av hi,e])
  exact⟨k,q⟩
 refine kat_kind (T:=.type "int") f1 (by omega) (fun v hv=>?_) rfl d
 obtain⟨k,t,rfl⟩:=f2 v hv
 exact .now
noncomputable def zHT (prog:aJ)(w:bh)(A:bX)(s:au)(a:ak)(f v:aj)(k:Int×Str):Prop :=
 ∀(G:bF) (tk:Nat) (R:aj->au->Prop) (E:aj->au->Prop),(∀b o,b≠a->s.heap.get? b=some o->G.get? b=some o)->
  (∀kv G' tk',jO G' kv k->(∀b o,G.get? b=some o->G'.get? b=some o)->R kv {s with heap:=G',toks:=tk'})->wpAny (model prog w) A (call f [v]) R E {s with heap:=G,toks:=tk}
theorem zHU {a kS:ak}{f:aj}{e1:Nat}{body:aj->PUnit->Sem (ForInStep PUnit)}(y:s.heap.objs.size<=kS)(B:a≠kS)
  (hb:∀x (s':au) (R:ForInStep PUnit->au->Prop),wpAny (model prog w) A (call f [x]) (fun k j=>∃its e,j.heap.get? kS=some (seqObj "list" its e)/\its.size<64/\R (.yield ⟨⟩) {j with heap:=j.heap.update kS (bP (·.push k))}) (fun _ _=>False) s'->wpAny (model prog w) A (body x ⟨⟩) R E s') :
  ∀(r:List aj) (ks:List (Int×Str)) (done:List aj) (l:List (Int×Str)) (G:bF) (tk:Nat) (e:Nat) (Q:PUnit->au->Prop),r.length=ks.length->done.length=l.length->done.length+r.length<64->
   (∀(i:Nat) (v:aj),r[i]?=some v->∃k,ks[i]?=some k/\zHT prog w A s a f v k)->
   (∀b o,b≠a->s.heap.get? b=some o->G.get? b=some o)->G.get? a=some (seqObj "list" #[] e1)->G.get? kS=some (seqObj "list" done.toArray e)->(∀(i:Nat) (v:aj),done[i]?=some v->∃k,l[i]?=some k/\jO G v k)->
   (∀(kvs:List aj) (d:bF) (m N:Nat),kvs.length=(l++ks).length->(∀b o,b≠a->s.heap.get? b=some o->d.get? b=some o)->d.get? a=some (seqObj "list" #[] e1)->d.get? kS=some (seqObj "list" kvs.toArray N)->
    (∀(i:Nat) (v:aj),kvs[i]?=some v->∃k,(l++ks)[i]?=some k/\jO d v k)->Q ⟨⟩ {s with heap:=d,toks:=m})->
   wpAny (model prog w) A (forIn r PUnit.unit body) Q E {s with heap:=G,toks:=tk}
 | [],[],done,l,G,tk,e,Q,_,hd,_,_,H,ha,C,n,h=>by
  rw[fN]
  exact az (h done G tk e (by simpa using hd) H ha C (by simpa using n))
 | [],_::_,_,_,_,_,_,_,hl,_,_,_,_,_,_,_,_=>by cases hl
 |_::_,[],_,_,_,_,_,_,hl,_,_,_,_,_,_,_,_=>by cases hl
 |x::r,k::ks,done,l,G,tk,e,Q,hl,hd,D,M,H,ha,C,n,h=>by
  rw[fw]
  obtain⟨Y,O,P⟩:=M 0 x rfl
  cases O
  refine af (hb x _ _ (P G tk _ _ H fun g d m I c=>⟨done.toArray,e,c _ _ C,by rw[aP];simp only[aM]at D;omega,?_⟩))
  dsimp only
  have T:done.toArray.push g=(done++[g]).toArray:=by simp
  obtain⟨J,L⟩:∃J,(d.update kS (bP (·.push g))).get? kS=some (seqObj "list" (done++[g]).toArray J):=⟨_,by rw[<-T];exact iG (c _ _ C) (·.push g)⟩
  have p:∀b o,b≠kS->d.get? b=some o->(d.update kS (bP (·.push g))).get? b=some o:=fun b o t q=>(bC _ _ (eN t)).trans q
  have tup:∀b o,d.get? b=some o->o.cls=.type "tuple"->(d.update kS (bP (·.push g))).get? b=some o:=fun b o q u=>p b o (by
   rintro rfl
   rw[c _ _ C]at q
   cases q
   have F:Value.type "list"=Value.type "tuple" :=u
   exact absurd F (by decide)) q
  refine zHU y B hb r ks (done++[g]) (l++[k]) _ m J Q (by simpa using hl) (by simp[hd]) (by simp only[ay,aM,pW]at D⊢;omega)
   (fun i v q=>by simpa using M (i+1) v (by simpa using q)) (fun b o t q=>p b o (bp (bz (aF q) y)) (c _ _ (H b o t q))) (p a _ B (c _ _ ha)) L (fun i v q=>?_) ?_
  ·rcases Nat.lt_trichotomy i done.length with z|z|z
   ·rw[aR z]at q
    obtain⟨U,W,X⟩:=n i v q
    exact⟨U,by rw[aR (by omega)];exact W,X.keep fun b o q u=>tup b o (c _ _ q) u⟩
   ·subst z
    rw[aO (aC _),f6]at q
    cases q
    exact⟨k,by rw[aO (by omega),hd,f6];rfl,I.keep tup⟩
   ·rw[fc (by simp;omega)]at q;cases q
  ·rw[dO,List.singleton_append];exact h
theorem zNh {a q:ak}{vs:List aj}{ks:List (Int×Str)}{n:Nat}{P:pH->au->Prop}(X:s.heap.get? a=some (seqObj "list" vs.toArray n))(hl:ks.length=vs.length)(nd:ks.Nodup)(H:vs.length<64)
  (hc:∀(i:Nat) (v:aj),vs[i]?=some v->∃k,ks[i]?=some k/\zHT prog w A s a (.ref q) v k)
  (h:∀(p:List Nat) (h':bF) (tk e:Nat),p.Perm (bA vs.length)->p.Pairwise (fun i j=>j6 ks i j=true)->(∀b o,b≠a->s.heap.get? b=some o->h'.get? b=some o)->
   h'.get? a=some (seqObj "list" (p.map fun i=>vs.getD i Value.none).toArray e)->P (.done (.ret .none)) {s with heap:=h',toks:=tk}) :
  wpAny (model prog w) A (ksk_tree a (.ref q) false) P E s:=by
 have ha:a<s.heap.objs.size:=aF X
 unfold ksk_tree
 refine af (oQ X rfl ?_)
 refine af (gk X rfl ?_ (by rw[aP,aI];omega) (bw _))
 obtain⟨e1,I⟩:∃e1,(s.heap.update a (bP fun _=>(#[]:Array aj))).get? a=some (seqObj "list" #[] e1):=⟨_,iG X fun _=>#[]⟩
 refine af (lR I rfl ?_)
 refine af (lz ?_ (by rw[aI];simp;omega))
 refine af (md ?_ (by simp))
 refine dX ?_
 have d:((s.heap.update a (bP fun _=>(#[]:Array aj))).push (seqObj "tuple" vs.toArray 0)).objs.size=s.heap.objs.size+1:=by rw[qz,pK]
 show wpAny (model prog w) A (ksk_rest a (.ref q) false vs.toArray _ (.ref ((s.heap.update a (bP fun _=>(#[]:Array aj))).push (seqObj "tuple" vs.toArray 0)).objs.size)) P E {s with heap:=((s.heap.update a (bP fun _=>#[])).push (seqObj "tuple" vs.toArray 0)).push (seqObj "list" #[] 0)}
 have l:(((s.heap.update a (bP fun _=>(#[]:Array aj))).push (seqObj "tuple" vs.toArray 0)).push (seqObj "list" #[] 0)).get? ((s.heap.update a (bP fun _=>(#[]:Array aj))).push (seqObj "tuple" vs.toArray 0)).objs.size=some (seqObj "list" #[] 0):=aE _ rfl
 rw[d]at l⊢
 generalize Z:((s.heap.update a (bP fun _=>(#[]:Array aj))).push (seqObj "tuple" vs.toArray 0)).push (seqObj "list" #[] 0)=G at l⊢
 have aa:G.get? a=some (seqObj "list" #[] e1):=by
  rw[<-Z]
  exact ae _ (ae _ I)
 have ab:∀b o,b≠a->s.heap.get? b=some o->G.get? b=some o:=fun b o hb e=>by
  rw[<-Z]
  exact ae _ (ae _ ((bC _ _ (eN hb)).trans e))
 have y:a≠s.heap.objs.size+1:=bp (bT ha)
 clear Z d
 generalize d:s.heap.objs.size+1=kS at l y⊢
 unfold ksk_rest
 refine af (fZ ?_)
 first
  |rw[List.forIn_toArray]
  |(rw[<-ox];simp only[List.toList_toArray])
  |rw[<-ox]
 refine af (zHU (kS:=kS) (e1:=e1) (by rw[<-d];exact iM _) y (fun x s' R hx=>?_) vs ks [] [] G s.toks 0 _ hl.symm rfl (by simpa using H) hc ab aa l (fun i v z=>by simp at z) fun kvs r c e' ac al am J an=>?_)
 ·refine af (gm (cY hx (fun k aW zq=>?_) fun _ _ hF=>hF.elim))
  obtain⟨its,e,hk,hz,hR⟩:=zq
  try dsimp only
  refine af (gk hk rfl ?_ (by rw[aI];omega) (bJ (fz (Array.size_push ..)) (by rw[aI];omega)))
  exact az hR
 ·try dsimp only
  rw[iF]at ac
  have u:∀(i:Nat) (v:aj),kvs[i]?=some v->∃k,ks[i]?=some k/\jO r v k:=fun i v z=>by simpa using an i v z
  refine af (oQ J rfl ?_)
  have fin:∀(p:List Nat) (st:SortSt),failedOf st=none->(arrOf st).map (·.2)=(p.map fun i=>vs.getD i Value.none).toArray->p.Perm (bA vs.length)->p.Pairwise (fun i j=>j6 ks i j=true)->
    wpAny (model prog w) A (ksk_tail a false e1 (.ref kS) st) P E {s with heap:=r,toks:=c}:=fun p st hf L M ap=>by
   unfold ksk_tail
   try dsimp only
   rw[L]
   have hz:(p.map fun i=>vs.getD i Value.none).toArray.size=vs.length:=by rw[aP,ai,M.length_eq,bU]
   refine af (gk J rfl ?_ (by rw[aP,aI];omega) (bw _))
   refine af (nE ?_)
   have B:(r.update kS (bP fun _=>(#[]:Array aj))).get? a=some (seqObj "list" #[] e1):=(bC _ _ (eN y)).trans am
   refine af (lR B rfl ?_)
   refine af (gk B rfl ?_ (bw _) (by
    simp only[eY,if_false]
    rw[hz,aI];omega))
   rw[hf]
   simp only[bne_self_eq_false,eY,if_false]
   refine az ?_
   have e3:=iG B fun _=>(p.map fun i=>vs.getD i Value.none).toArray
   exact h p _ c _ M ap (fun b o hb e=>(bC _ _ (eN hb)).trans ((bC _ _ (by
    rw[<-d];exact de (bT (aF e)))).trans (al b o hb e))) e3
  unfold ksk_end
  try dsimp only
  simp only[eY,if_false]
  have D:kvs.length=vs.length:=by omega
  by_cases m:vs.toArray.size<2
  ·rw[if_pos m,if_pos m]
   refine af (az ?_)
   rw[pZ]
   refine af (az ?_)
   try dsimp only
   refine fin (bA vs.length) _ rfl ?_ (dY _) ?_
   ·show((kvs.toArray.zip vs.toArray).map (·.2))=_
    match vs,kvs,m,D with
    | [],[],_,_=>simp
    | [v],[k],_,_=>simp[dE]
    |_::_::_,_,m,_=>simp at m;omega
   ·have:vs.length<2:=by simpa using m
    match hv:vs.length,this with
    |0,_=>simp
    |1,_=>simp[dE]
  ·rw[if_neg m,if_neg m]
   have F:2<=vs.length:=by simpa using m
   refine af (zNg (s:={s with heap:=r,toks:=c}) u (by omega) ?_)
   have O:=zNe nd
   rw[hl]at O
   obtain⟨as,ax⟩:=zGy O F
   have kt:∀i,i<vs.length->jO r (kvs.getD i Value.none) (ks.getD i (0,⟨#[]⟩)):=fun i hi=>by
    obtain⟨k,e,t⟩:=u i kvs[i] (av (by omega))
    have e1:kvs.getD i Value.none=kvs[i]:=by simp[show i<kvs.length by omega]
    have e2:ks.getD i (0,⟨#[]⟩)=k:=by rw[bZ,e];rfl
    rw[e1,e2];exact t
   have ne:∀i j,i<vs.length->j<vs.length->i≠j->ks.getD i (0,(⟨#[]⟩:Str))≠ks.getD j (0,⟨#[]⟩):=fun i j hi T f e=>by
    have e1:ks.getD i (0,(⟨#[]⟩:Str))=ks[i]:=by simp[show i<ks.length by omega]
    have e2:ks.getD j (0,(⟨#[]⟩:Str))=ks[j]:=by simp[show j<ks.length by omega]
    rw[e1,e2]at e
    exact f ((eC nd).mp e)
   refine af (cY (kat_run (ks:=kvs) (vs:=vs) (Q:=fun g s'=>s'={s with heap:=r,toks:=c}/\failedOf g=none/\∃p:Array Nat,Pm p vs.length/\Up (j6 ks) p vs.length/\arrOf g=p.map (kas_item (kvs.toArray.zip vs.toArray)))
    (G:=fun p s'=>s'={s with heap:=r,toks:=c}/\Pm p vs.length/\Up (j6 ks) p vs.length) D F H (fun p g s' _ Y q2 U=>⟨U.1,q2,p,U.2.1,U.2.2,Y⟩) ?_) ?_ fun _ _ e=>e)
   ·refine zDP (N:=vs.length) (lt:=j6 ks) (fun i j hi T f C aK=>?_) _ _ (zGx O F) ⟨rfl,as,ax⟩
    exact zNf (s:={s with heap:=r,toks:=c}) (kt i hi) (kt j T) (ne i j hi T f) aK
   ·rintro⟨⟨⟩,g⟩ s' ⟨rfl,hf,p,Y,q2,U⟩
    try dsimp only
    refine fin p.toList g hf (kat_snds D U) Y ?_
    rw[lH]
    intro i j hi T f
    have aN:i<p.size:=by simpa using hi
    have W:j<p.size:=by simpa using T
    have:=q2 i j f (by rw[<-Y.size];exact W)
    rw[zAU aN,zAU W]at this
    simpa using this
end
open MyS PySem.W
noncomputable def zAB (x:Str)(p:Pos):sS:={posonlyargs:=[],args:=[{arg:=x,annotation:=none,pos:=p}],vararg:=none,kwonlyargs:=[],kw_defaults:=[],kwarg:=none,defaults:=[]}
noncomputable def jP (x:Str):gc:={kind:=.function,names:=[(x,.local)],isGenerator:=false,isCoroutine:=false,more:=[]}
noncomputable def kT (x:Str)(p1 p2 p3 p4 p5 p6 p7 p8:Pos):bS :=
 .Tuple [.UnaryOp .USub (.Subscript (.Name x p1) (.Constant (.int 0) 0 p2) p3) p4,.Subscript (.Name x p5) (.Constant (.int 1) 0 p6) p7] 0 p8
section
variable{prog:aJ}{w:bh}{A:bX}{E:aj->au->Prop}{s:au}
theorem zNi {x nm a:Str}{P F G H I v B C g:Pos}{f b l:ak}{pm ctv:aj}{i:Int}{z:Str}{t u:Tok}{R:aj->au->Prop}(Q:(x==("__debug__" : Str))=false)
  (hb:bindArgs (kla_fn nm a (zAB x P) (kT x F G H I v B C g) (jP x) [] pm (.ref l) ctv) ⟨[.ref b],[]⟩=pure [(x,.ref b)])
  (hf:s.heap.get? f=some (tE nm a (zAB x P) (kT x F G H I v B C g) (jP x) [] pm l ctv)) (J:s.heap.CodeRec (.ref l) a) (m:s.heap.NoLimit) (c:A.depth<recursionLimit)
  (hv:qk s.heap b #[.int i t,.str z u])
  (h:∀T L M,jO L T (-i,z)->(∀b o,s.heap.get? b=some o->L.get? b=some o)->R T {s with heap:=L,toks:=M}):wpAny (model prog w) A (call (.ref f) [.ref b]) R E s:=by
 refine qq (kla_callFunE c hf rfl rfl rfl rfl J ?_)
 have n:(x==x)=true:=by simp
 rw[hb]
 have p:(jP x).names.lookup x=some .local:=by unfold jP;rw[b8,n]
 refine az (jo (fun y N=>?_) (fun y N=>?_) (fun h₁ O q=>⟨m.fresh _ q,?_⟩) rfl)
 ·rw[aS.mp N];exact fun z=>by cases z
 ·rw[aS.mp N];exact p
 show codeAny _ _ (.expr (kT x F G H I v B C g) (envX a (jP x) s.heap.objs.size f (.ref l) [])) _ _
 have old:∀b o,s.heap.get? b=some o->h₁.get? b=some o:=fun b o e=>q.extBut b o (bp (aF e)) (ae _ e)
 have U:(fun y=>[(x,Value.ref b)].reverse.lookup y) x=some (.ref b):=by
  show [(x,Value.ref b)].lookup x=_
  rw[b8,n]
 generalize d:envX a (jP x) s.heap.objs.size f (.ref l) []=env
 have W:env.scope.kind=.function:=by rw[<-d];rfl
 have X:env.kindOf x=some .local:=by rw[<-d];exact p
 have Y:h₁.Ns env.locals (fun y=>[(x,Value.ref b)].reverse.lookup y):=by rw[<-d];exact O
 have D:∀tk:Nat,qk ({s with heap:=h₁,toks:=tk}:au).heap b #[.int i t,.str z u]:=fun _=>let⟨o,e,r⟩:=hv;⟨o,old b o e,r⟩
 refine kla_codeExpr ?_
 unfold kT
 refine nR ?_
 show wpAny _ _ (spliced ((false,eval _ env)::backTo g (starEach [.Subscript (.Name x v) (.Constant (.int 1) 0 B) C] env))) _ _ _
 refine eV (tY (lr (mI (jm W X Y U ?_) Q)))
 refine kx ?_
 refine fW (x:=.int i t) (D _).typeIs lu.lookup (n5 (j:=0) (D _) (by decide) (by decide) rfl rfl ⟨rfl,?_⟩)
 refine neg_int ?_
 show wpAny _ _ (spliced ((false,eval _ env)::backTo g (starEach [] env))) _ _ _
 refine eV (lr (mI (jm W X Y U ?_) Q))
 refine kx ?_
 refine fW (x:=.str z u) (D _).typeIs lu.lookup (n5 (j:=1) (D _) (by decide) (by decide) rfl rfl ⟨rfl,?_⟩)
 refine iQ ⟨by show 2<=_;rw[aI];omega,?_⟩
 dsimp only
 refine h _ _ _ ⟨_,_,_,_,_,rfl,aE _ rfl,rfl,rfl⟩ fun b o e=>ae _ (old b o e)
end
open MyS PySem.W
noncomputable def j7 (ps:List (Int×Str)):List (Int×Str):=ps.map fun p=>(-p.1,p.2)
theorem zNj {ps:List (Int×Str)}(h:ps.Nodup):(j7 ps).Nodup:=by
 unfold j7
 rw[dm,bB]
 refine h.imp fun{a b} n e=>n ?_
 obtain⟨e1,c⟩:=bM e
 exact fM (by omega) c
section
variable{X:Cx}{pins:List (ak×Obj)}{σ:St}{H:Hp}{s:au}
theorem zHV {x nm d:Str}{p0 p1 p2 p3 p4 p5 p6 p7 p8:Pos}{f O l:ak}{pm ctv:aj}{g:List V}{ps:List (Int×Str)}{Q:VK}(hx:(x==("__debug__" : Str))=false)
  (hb:∀b:ak,bindArgs (kla_fn nm d (zAB x p0) (kT x p1 p2 p3 p4 p5 p6 p7 p8) (jP x) [] pm (.ref O) ctv) ⟨[.ref b],[]⟩=pure [(x,.ref b)])
  (I:Inv X pins σ H s) (n:X.A.depth<recursionLimit) (hf:s.heap.get? f=some (tE nm d (zAB x p0) (kT x p1 p2 p3 p4 p5 p6 p7 p8) (jP x) [] pm O ctv)) (P:s.heap.CodeRec (.ref O) d)
  (hl:yG X.K H l g) (hn:g.length=ps.length) (hp:∀(i:Nat) (p:Int×Str),ps[i]?=some p->∃a,g[i]?=some (.ref a)/\z7 X.K H a [.int p.1,.str p.2]) (nd:ps.Nodup) (aK:ps.length<64)
  (q:∀(pm:List Nat) (D:ak),pm.Perm (bA ps.length)->pm.Pairwise (fun i j=>j6 (j7 ps) i j=true)->H D=none->Q (.ref D) (upd H D (.lst (pm.map fun i=>g.getD i .non)))) :
  wpAny (model X.prog X.w) X.A (call (.builtin "sorted") [.ref l] [(dH "key",.ref f)]) (EP X pins σ Q) X.xe s:=by
 obtain⟨its,T,pl,_⟩:=I.list hl
 have c:its.length=ps.length:=by rw[<-T.length];exact hn
 have U:(j7 ps).length=ps.length:=by unfold j7;rw[ai]
 refine call_function_entry_kw kind_sorted plain_sorted entry_sorted (ksk_s1 _ _) ?_
 unfold di.«sorted»
 refine af (m:=checkCount "sorted" 1 1 _) (az ?_)
 refine af (collect_list pl.isList ?_ (by rw[c,aI];omega))
 obtain⟨G,C,hG,W⟩:∃G,G=(s.heap.push (seqObj "list" #[] 0)).update s.heap.objs.size (bP (·++its.toArray))/\(∀b o,s.heap.get? b=some o->G.get? b=some o)/\s.heap.objs.size<=G.objs.size :=
  ⟨_,rfl,fun b o e=>(bC _ _ (de (aF e))).trans (ae _ e),by rw[pK,bI];exact iM _⟩
 rw[<-C]
 clear C
 refine af (md ?_ (by rw[c,aI];omega))
 dsimp only
 generalize Y:G.objs.size=B
 have E:(G.push {cls:=.type "list",data:=.seq its.toArray}).get? B=some (seqObj "list" its.toArray 0):=by
  rw[<-Y];exact aE _ rfl
 have F:s.heap.objs.size<=B:=by rw[<-Y];exact W
 have old:∀b o,s.heap.get? b=some o->(G.push {cls:=.type "list",data:=.seq its.toArray}).get? b=some o/\b≠B:=fun b o e=>⟨ae _ (hG _ _ e),by rw[<-Y];exact bp (aF (hG _ _ e))⟩
 refine af (dX (wpAny_call_entry_kw rg ⟨_,E,rfl⟩ qb ?body (ksk_l1 _ _)))
 case body=>
  show wpAny _ _ (di.«list.sort» ⟨[.ref B],[(dH "key",.ref f)]⟩) _ _ _
  rw[ksk_t1]
  refine zNh (ks:=j7 ps) E (by rw[U];exact c.symm) (zNj nd) (by omega) (fun i v e=>?_) fun h h2 Z e2 aa ab ac al=>⟨_,rfl,?_⟩
  ·have hi:i<ps.length:=by rw[<-c];exact(ah.mp e).1
   obtain⟨a1,f1,f2⟩:=hp i ps[i] (av hi)
   obtain⟨u',g1,g2⟩:=T.get f1
   rw[e]at g1
   cases g1
   cases g2
   obtain⟨ax,r2,tp,_⟩:=I.tuple f2
   obtain⟨y1,y2,rfl,am,an⟩:=zAq r2
   obtain⟨t,rfl⟩:=am
   obtain⟨u,rfl⟩:=an
   refine⟨(-ps[i].1,ps[i].2),by unfold j7;rw[ar,av hi];rfl,?_⟩
   intro G' tk R E' ap hR
   have kp:∀b o,s.heap.get? b=some o->G'.get? b=some o:=fun b o z=>ap b o (old b o z).2 (old b o z).1
   refine zNi (s:={s with heap:=G',toks:=tk}) hx (hb _) (kp _ _ hf) (by
    obtain⟨c2,oc,vs,tq,z1,z2,z3,z4⟩:=P
    exact⟨c2,oc,vs,tq,z1,kp _ _ z2,z3,z4⟩) (I.nolimit.keeps kp) n (let⟨o,z,r⟩:=tp;⟨o,kp _ _ z,r⟩) fun kv as J k1 k2=>hR kv as J k1 k2
  ·refine az ⟨_,rfl,?_⟩
   have y:h.Perm (bA ps.length):=by rw[<-c];exact aa
   have L:∀b o,s.heap.get? b=some o->h2.get? b=some o:=fun b o e=>ac b o (old _ _ e).2 (old _ _ e).1
   refine⟨.ref B,_,I.laid (t':=Z) (o:=.lst (h.map fun i=>g.getD i .non)) L F ⟨?_,_,_,?_,al⟩,rfl,q h B y ab (I.hok.fresh F)⟩
   ·rw[ai,y.length_eq,bU,aI];omega
   ·have go:∀l:List Nat,(∀i∈l,i<ps.length)->zU (l.map fun i=>g.getD i .non) (l.map fun i=>its.getD i Value.none):=by
     intro l
     induction l with
     |nil=>intro _;exact .nil
     |cons i l ih=>
      intro M
      have hi:i<ps.length:=M i (aq ..)
      have N:i<g.length:=by rw[hn];exact hi
      refine .cons ?_ (ih fun j hj=>M j (aw _ hj))
      obtain⟨u,e1,e2⟩:=T.get (av N)
      have a1:g.getD i .non=g[i]:=by simp[N]
      have a2:its.getD i Value.none=u:=by rw[bZ,e1];rfl
      show zX (g.getD i .non) (its.getD i Value.none)
      rw[a1,a2]
      exact e2
    exact go h fun i hi=>bK.mp (y.mem_iff.mp hi)
end
open MyS PySem.W
noncomputable def zAC (P:ak)(pos:Pos)(qual:Str)(H:Hp):Prop :=
 H P=some (.tbl #[])\/∃c' oc u vs t,H P=some (.tbl #[rawInt pos.line,rawInt pos.col,.ref c'])/\H c'=some (.frz oc u)/\oc.data=.fields vs/\vs[1]?=some (.str qual t)
noncomputable def kU (P:ak)(H H':Hp):Prop:=∀b o,b≠P->H b=some o->H' b=some o
theorem kU.refl {P:ak}{H:Hp}:kU P H H:=fun _ _ _ e=>e
structure LamBase (mg:Str->Option aj) (base:bF) (c P:ak):Prop where
 code:rh base c P
 blt:∃bm o,mg "__builtins__"=some (.ref bm)/\bm≠builtinsNs/\bm≠mainGlobals/\base.get? bm=some o/\o.cls=.type "module"/\o.dict=some builtinsNs/\o.data=.plain
theorem kU.rd {P a:ak}{H b:Hp}{o:HO}(d:kU P H b)(f:∀ps,o≠.tbl ps){ps:Array aj}(g:H P=some (.tbl ps))(r:Rd H a o):Rd b a o:=by
 have ne:∀u,H a=some u->(∀c,u≠.tbl c)->b a=some u:=fun u e n=>d a u (fun z=>by rw[z,g]at e;exact n ps (aB e).symm) e
 rcases r with r|⟨h,r⟩
 ·exact .inl (ne _ r f)
 ·exact .inr ⟨h,ne _ r fun c z=>by cases z⟩
theorem kU.sqL {K:ag}{P a:ak}{H b:Hp}{xs:List V}(c:kU P H b){ps:Array aj}(d:H P=some (.tbl ps))(r:yG K H a xs):yG K b a xs:=r.imp (fun z=>c.rd (fun _ y=>by cases y) d z) id
theorem kU.sqT {K:ag}{P a:ak}{H b:Hp}{xs:List V}(c:kU P H b){ps:Array aj}(d:H P=some (.tbl ps))(r:z7 K H a xs):z7 K b a xs:=r.imp (fun z=>c.rd (fun _ y=>by cases y) d z) id
section
variable{X:Cx}{pins:List (ak×Obj)}{σ:St}{H:Hp}{s:au}
theorem zNk {P a:ak}{ps:Array aj}{more:Array aj}{oc:Obj}{h':bF}{tk:Nat}(I:Inv X pins σ H s)(f:H P=some (.tbl ps))(q:∀b o,b≠P->s.heap.get? b=some o->h'.get? b=some o)
  (w:s.heap.objs.size<=a) (g:h'.get? a=some oc) (l:h'.get? P=some {cls:=.none,data:=.fields (ps++more)}) :
  Inv X pins σ (upd (upd H P (.tbl (ps++more))) a (.frz oc (.ext fun h=>h.get? a=some oc))) {s with heap:=h',toks:=tk}:=by
 have c:H a=none:=I.hok.fresh w
 have t:P≠a:=yK f c
 have i:∀b,b≠P->b≠a->upd (upd H P (.tbl (ps++more))) a (.frz oc (.ext fun h=>h.get? a=some oc)) b=H b:=fun b m j=>by rw[zG j,zG m]
 have p:upd (upd H P (.tbl (ps++more))) a (.frz oc (.ext fun h=>h.get? a=some oc)) P=some (.tbl (ps++more)):=by rw[zG t,zE]
 have low:∀b o,s.heap.get? b=some o->b≠a:=fun b o e=>bp (bz (aF e) w)
 refine I.un ⟨fun b o e n _ _=>q b o (fun z=>by rw[z,f]at n;cases n) e,fun b o e n _ _=>⟨o.slots,q b o (fun z=>by rw[z,f]at n;cases n) e⟩,
  fun b o e n _=>(i b (fun z=>by rw[z,f]at n;cases n) (low b o e)).trans n,fun b o e _=>?_,fun b xs e=>?_,fun b o u e=>?_,fun b x e=>?_⟩ fun b u e=>?_
 ·by_cases hb:b=P
  ·exact⟨_,by rw[hb];exact l⟩
  ·exact⟨o,q b o hb e⟩
 ·exact(i b (fun z=>by rw[z,f]at e;cases e) (yK e c)).trans e
 ·exact(i b (fun z=>by rw[z,f]at e;cases e) (yK e c)).trans e
 ·by_cases hb:b=P
  ·subst hb
   rw[f]at e
   cases e
   exact⟨more,p⟩
  ·exact⟨#[],by rw[i b hb (yK e c),Array.append_empty];exact e⟩
 ·by_cases m:b=a
  ·subst m
   rw[zE]at e
   cases e
   exact⟨g,g,⟨oc,g⟩,fun m j z k=>k _ z⟩
  ·by_cases j:b=P
   ·subst j
    rw[p]at e
    cases e
    exact l
   ·rw[i b j m]at e
    refine(I.hok b u e).stay (fun d v hd z=>q d v ?_ z) (fun d z=>?_) fun d xs z=>?_
    ·rintro rfl
     rcases hd with r|r
     ·exact j r.symm
     ·rw[f]at r;cases r
    ·exact(i d (fun y=>by rw[y,f]at z;cases z) (yK z c)).trans z
    ·exact(i d (fun y=>by rw[y,f]at z;cases z) (yK z c)).trans z
noncomputable def zNl (K:ag)(P:ak)(lp:Pos)(qual:Str)(t:TA):TE:=fun σ H Q=>t σ H fun vs H1=>∃l ts ps,vs=[V.ref l]/\yG K H1 l ts/\ts.length=ps.length/\
 (∀(i:Nat) (p:Int×Str),ps[i]?=some p->∃a,ts[i]?=some (.ref a)/\z7 K H1 a [.int p.1,.str p.2])/\ps.Nodup/\ps.length<64/\zAC P lp qual H1/\
 ∀(pm:List Nat) (D:ak) (H2:Hp),pm.Perm (bA ps.length)->pm.Pairwise (fun i j=>j6 (j7 ps) i j=true)->kU P H1 H2->zAC P lp qual H2->H2 D=none->H1 D=none->D≠P->Q (.ref D) (upd H2 D (.lst (pm.map fun i=>ts.getD i .non)))
theorem zNm {x:Str}{p Y Z p2 p3 p4 p5 p6 p7 p8 j kp pos:Pos}{c P:ak}{e:bS}{t:TA}(hg:Gl X "sorted")(hm:X.mg "sorted"=none)(m:X.A.depth<recursionLimit)(r:X.env.code=.ref c)(B:LamBase X.mg X.base c P)(ha:PA X [e] t)
  (hx:(x==("__debug__" : Str))=false)
  (hb:∀(J:Str) (pm ctv:aj) (d b:ak),bindArgs (kla_fn "<lambda>" J (zAB x Y) (kT x Z p2 p3 p4 p5 p6 p7 p8) (jP x) [] pm (.ref d) ctv) ⟨[.ref b],[]⟩=pure [(x,.ref b)])
  (aa:backTo pos (starEach [e] X.env)=(false,eval e X.env)::backTo pos (starEach [] X.env):=by rfl)
  (ab:(backTo pos (starEach [e] X.env)).any (·.1)=false:=by rfl) :
  PE X (.Call (.Name "sorted" p) [e] [⟨some "key",.Lambda (zAB x Y) (kT x Z p2 p3 p4 p5 p6 p7 p8) (jP x) j,kp⟩] pos) (zNl X.K P j (X.env.qual++ "<lambda>") t):=by
 intro pins s σ H Q I h
 refine eW (j2 I hg hm (by rfl) ?_ (by decide) (by decide))
 refine callWith_kw (zM (ha pos pins s σ H _ I h) fun us L h1=>kws_cons ?_) aa ab
 obtain⟨vs,G,f,r1,l,ts,ps,rfl,hl,hn,hp,nd,M,tab,q⟩:=h1
 obtain⟨u,rfl,ru⟩:=qC r1
 cases ru
 have C:L.heap.Ns mainGlobals X.mg:=f.mod.glob.keeps f.bk
 have N:closureFor (jP x) X.env=pure []:=rfl
 refine kla_eval rfl ?_
 obtain⟨bm,ob,b1,b2,b3,b4,b5,b6,b7⟩:=B.blt
 rcases tab with v|⟨d,oc,u,vs,t,v,O,hd,hv⟩
 ·have w:L.heap.get? P=some (tabObj #[]):=f.hok P _ v
  have ac:mainGlobals≠P:=fun z=>by
   obtain⟨o,es,ep,e',al,_⟩:=C
   rw[z,w]at e';cases e';cases al
  have E:bm≠P:=fun z=>by
   have:=(f.bs _ _ b4).2
   rw[z,v]at this;cases this
  refine kla_makeFunction (mg:=X.mg) N f.ok.glob C r (B.code.keeps f.bk) w trivial rfl ac ⟨bm,ob,b1,b2,b3,E,f.bk _ _ b4,b5,b6,b7⟩ fun d ctv h' tk am R ap T an=>?_
  refine kws_nil ?_
  obtain⟨c₂,oc,vs,t,e2,y,hd,hv⟩:=id T
  cases e2
  have I2:=zNk (tk:=tk) (oc:=oc) (more:=#[rawInt j.line,rawInt j.col,.ref d]) (h':=h'.push (tE "<lambda>" (X.env.qual++ "<lambda>") (zAB x Y) (kT x Z p2 p3 p4 p5 p6 p7 p8) (jP x) [] ((X.mg "__name__").getD .none) d ctv)) f v
   (fun b o n e=>ae _ (am b o n e)) R (ae _ y) (ae _ an)
  have U:G d=none:=f.hok.fresh R
  have F:P≠d:=yK v U
  have sb:kU P G (upd (upd G P (.tbl (#[]++#[rawInt j.line,rawInt j.col,.ref d]))) d (.frz oc (.ext fun h=>h.get? d=some oc))):=fun b o n e=>by rw[zG (yK e U),zG n];exact e
  have tb:zAC P j (X.env.qual++ "<lambda>") (upd (upd G P (.tbl (#[]++#[rawInt j.line,rawInt j.col,.ref d]))) d (.frz oc (.ext fun h=>h.get? d=some oc))) :=
   .inr ⟨d,oc,_,vs,t,by rw[zG F,zE];rfl,zE,hd,hv⟩
  refine zHV (pm:=(X.mg "__name__").getD .none) (ctv:=ctv) hx (hb _ _ _ _) I2 m (aE _ rfl) ⟨d,oc,vs,t,rfl,ae _ y,hd,hv⟩ (sb.sqL v hl) hn (fun i p z=>let⟨a,z1,z2⟩:=hp i p z;⟨a,z1,sb.sqT v z2⟩) nd M
   fun pm D m1 m2 g=>q pm D _ m1 m2 sb tb g ?_ ?_
  ·cases z:G D with
   |none=>rfl
   |some o=>
    exfalso
    by_cases W:D=P
    ·rw[W,zG F,zE]at g;cases g
    ·rw[sb D o W z]at g;cases g
  ·rintro rfl
   rw[zG F,zE]at g;cases g
 ·have w:L.heap.get? P=some (tabObj #[rawInt j.line,rawInt j.col,.ref d]):=f.hok P _ v
  have E:bm≠P:=fun z=>by
   have:=(f.bs _ _ b4).2
   rw[z,v]at this;cases this
  have y:L.heap.get? d=some oc:=(f.hok d _ O).1
  refine kla_makeFunctionHit (mg:=X.mg) (cv:=.ref d) N f.ok.glob C r (B.code.keeps f.bk) w trivial (by simp[codeAmong,rawInt]) ⟨bm,ob,b1,b2,b3,E,f.bk _ _ b4,b5,b6,b7⟩ fun ctv h' tk hk hsz=>?_
  refine kws_nil ?_
  have I2:Inv X pins σ G {L with heap:=h'.push (tE "<lambda>" (X.env.qual++ "<lambda>") (zAB x Y) (kT x Z p2 p3 p4 p5 p6 p7 p8) (jP x) [] ((X.mg "__name__").getD .none) d ctv),toks:=tk}:=f.kept fun b o e=>ae _ (hk b o e)
  refine zHV (pm:=(X.mg "__name__").getD .none) (ctv:=ctv) hx (hb _ _ _ _) I2 m (aE _ rfl) ⟨d,oc,vs,t,rfl,ae _ (hk _ _ y),hd,hv⟩ hl hn hp nd M
   fun pm D m1 m2 g=>q pm D _ m1 m2 .refl (.inr ⟨d,oc,u,vs,t,v,O,hd,hv⟩) g g fun z=>by rw[z,v]at g;cases g
end
open PySem.W (tabObj CodeHd)
theorem zNn {h:bF}{c T:ak}(C:rh h c T):isCodeTable h T:=by
 obtain⟨o,vs,file,g,flags,i,a,text,j,b,d,e,f,_⟩:=C
 exact⟨c,o,vs,b,d,e,f⟩
theorem zNo {P:aJ}{w:bh}{K:ag}{mg mb:Str->Option aj}{k:Nat}{N a c T:ak}{fd:bc}{x:Str}{sp:Sp}{f:au}{vs:List aj}{ns:List Int}
  (KX:K.In f.heap) (y:f.heap.Ns mainGlobals mg) (hb:f.heap.Ns builtinsNs mb) (O:∀x:Str,x≠"__name__"->mb x=bootBuiltins x) (A:f.heap.NoLimit) (hg:f.gens=#[])
  (ha:f.heap.get? a=some {cls:=.type "list",data:=.seq vs.toArray}) (hi:oK vs ns) (hl:ns.length<=sizeLine) (hr:Room k callerA)
  (B:f.heap.get? T=some (tabObj #[])) (Q:K.lookup T=none) (hC:rh f.heap c T)
  (R:∃t o,mg "__builtins__"=some (.ref t)/\t≠builtinsNs/\t≠mainGlobals/\f.heap.get? t=some o/\o.cls=.type "module"/\o.dict=some builtinsNs/\o.data=.plain)
  (F:∀base:bF,K.In base->base.Ns mainGlobals mg->LamBase mg base c T->FnOk P w K mg base z0 k N fd [x] sp) (p:∀(s:au) (u:aj),oG s fd ⟨[u],[]⟩ [(x,u)])
  (U:∀H:Hp,H T=some (.tbl #[])->yG K H a (ns.map V.int)->sp [.ref a] H (fun v _=>v=.bl true) fun _ _ _=>False) :
  codeAny (model P w) callerA (.call (.ref N) ⟨[.ref a],[]⟩) (fun r s'=>r=.ok (.ret (.bool true))/\OldK f.heap s'.heap/\s'.os=f.os/\lO s'.gens) f:=by
 have rv:=zGf hi
 have C:=hi.length
 have D:a≠T:=fun z=>by rw[z,B]at ha;cases ha
 have core:∀H:Hp,H T=some (.tbl #[])->(∀b,H b=none\/b=T\/∃o xs,H b=some (.frz o (.lst xs)))->yG K H a (ns.map V.int)->yI P w H f.heap->(∀b,H b≠none->b=a\/b=T)->(H a≠none->K.lookup a=none)->
   codeAny (model P w) callerA (.call (.ref N) ⟨[.ref a],[]⟩) (fun r s'=>r=.ok (.ret (.bool true))/\OldK f.heap s'.heap/\s'.os=f.os/\lO s'.gens) f:=by
  intro H E hO hS hok W hK
  have base_of:∀{b:ak} {o:Obj},f.heap.get? b=some o->H b=none->(kK f.heap H).get? b=some o:=fun e n=>zKu e n
  have G:∀{b:ak} {o:Obj},f.heap.get? b=some o->(∀xs n,o.data≠.seq xs n)->(∀xs,o.data≠.fields xs)->H b=none:=fun{b o} e d1 d2=>by
   cases q:H b with
   |none=>rfl
   |some u=>
    rcases W b (by rw[q];simp)with z|z
    ·subst z;rw[ha]at e;cases e;exact absurd rfl (d1 _ _)
    ·subst z;rw[B]at e;cases e;exact absurd rfl (d2 _)
  have i:∀{b:ak} {m:Str->Option aj},f.heap.Ns b m->(kK f.heap H).Ns b m:=fun{b m} ⟨o,es,ep,e,d,r⟩=>⟨o,es,ep,base_of e (G e (fun _ _ z=>by rw[d]at z;cases z) fun _ z=>by rw[d]at z;cases z),d,r⟩
  have I:K.In (kK f.heap H):=fun b o e=>base_of (KX b o e) (by
   cases q:H b with
   |none=>rfl
   |some u=>
    rcases W b (by rw[q];simp)with z|z
    ·subst z;rw[hK (by rw[q];simp)]at e;cases e
    ·subst z;rw[Q]at e;cases e)
  have hM:Mod K mg (kK f.heap H):=⟨I,i y,⟨mb,i hb,O⟩,let⟨mc,J,X⟩:=A;⟨mc,i J,X⟩⟩
  have e0:Env0 P w K mg (kK f.heap H) callerA [] f H:=⟨rfl,hM,fun b o e=>zKv e,fz (zKt _ _),trivial,fun b hb=>absurd (show b∈([]:List ak)from hb) (by simp),hok,.of_eq hg⟩
  have Y:LamBase mg (kK f.heap H) c T:=by
   refine⟨?_,?_⟩
   ·obtain⟨o,Z,file,tf,flags,tg,aa,text,tt,J,X,h3,h4,h5,h6,h7,h8,h9,L⟩:=id hC
    refine⟨o,Z,file,tf,flags,tg,aa,text,tt,base_of J ?_,X,h3,h4,h5,h6,h7,h8,h9,L⟩
    cases q:H c with
    |none=>rfl
    |some u=>
     rcases W c (by rw[q];simp)with z|z
     ·rw[z,ha]at J;cases J;cases h3
     ·exact absurd z L
   ·obtain⟨t,o,b1,b2,b3,b4,b5,b6,b7⟩:=R
    exact⟨t,o,b1,b2,b3,base_of b4 (G b4 (fun _ _ z=>by rw[b7]at z;cases z) fun _ z=>by rw[b7]at z;cases z),b5,b6,b7⟩
  refine ij ((F _ I (i y) Y).run callerA [] f H ⟨[.ref a],[]⟩ [.ref a] [.ref a] _ _ hr e0 (p f (.ref a)) (.cons rfl .nil) (U H E hS)) fun r s' h=>?_
  cases r with
  |error e=>exact fD h
  |ok fl=>
   cases fl with
   |next=>exact fD h
   |brk=>exact fD h
   |cont=>exact fD h
   |ret u=>
    obtain⟨v,H',os,bare,un,l,r',q⟩:=h
    have q':v=.bl true:=q
    subst q'
    obtain rfl:u=Value.bool true:=r'
    obtain⟨more,ab⟩:=un.tbls T _ E
    have M:s'.heap.get? T=some {cls:=.none,data:=.fields (#[]++more)}:=l T _ ab
    have kp:∀b o,b≠T->f.heap.get? b=some o->s'.heap.get? b=some o:=fun b o g e=>by
     cases q:H b with
     |none=>exact un.keep b o e q (by intro z;exact absurd (show b∈([]:List ak)from z) (by simp)) (by simp)
     |some u=>
      rcases hO b with z|z|⟨ob,xs,z⟩
      ·rw[q]at z;cases z
      ·exact absurd z g
      ·have z2:=un.frzs b ob _ z
       obtain⟨e1,_⟩:=hok b _ z
       obtain⟨e2,_⟩:=l b _ z2
       rw[e]at e1;cases e1
       exact e2
    refine⟨rfl,⟨fun b o e=>?_,fun b o e=>?_⟩,os,bare⟩
    ·by_cases g:b=T
     ·subst g
      rw[B]at e;cases e
      exact .inr (.inl ⟨zNn hC,rfl,#[],more,rfl,M⟩)
     ·exact .inl (kp b o g e)
    ·by_cases g:b=T
     ·subst g;exact⟨_,M⟩
     ·exact⟨o,kp b o g e⟩
 cases hk:K.lookup a with
 |some o=>
  have e:=KX a o hk
  rw[ha]at e
  cases e
  refine core (fun b=>if b=T then some (.tbl #[])else none) (if_pos rfl) (fun b=>?_) (.inr ⟨_,vs.toArray,_,hk,rfl,rfl,rfl,by rw[aP,C];exact hl,by simpa using rv⟩) (fun b u z=>?_) (fun b z=>?_) fun z=>absurd (if_neg D) z
  ·by_cases h:b=T
   ·exact .inr (.inl h)
   ·exact .inl (if_neg h)
  ·by_cases h:b=T
   ·have j:=(if_pos h).symm.trans z
    cases j
    subst h
    exact B
   ·have j:=(if_neg h).symm.trans z
    cases j
  ·by_cases h:b=T
   ·exact .inr h
   ·exact absurd (if_neg h) z
 |none=>
  refine core (fun b=>if b=a then some (.frz {cls:=.type "list",data:=.seq vs.toArray} (.lst (ns.map V.int)))else if b=T then some (.tbl #[])else none) (by show(if T=a then _ else _)=_;rw[if_neg D.symm,if_pos rfl]) (fun b=>?_)
   (.inl (.inr ⟨{cls:=.type "list",data:=.seq vs.toArray},if_pos rfl⟩)) (fun b u z=>?_) (fun b z=>?_) fun _=>hk
  ·by_cases hb:b=a
   ·exact .inr (.inr ⟨_,_,if_pos hb⟩)
   ·by_cases h:b=T
    ·exact .inr (.inl h)
    ·exact .inl ((if_neg hb).trans (if_neg h))
  ·by_cases hb:b=a
   ·have j:=(if_pos hb).symm.trans z
    cases j
    subst hb
    exact⟨ha,by rw[ai];exact hl,vs,_,rv,ha⟩
   ·by_cases h:b=T
    ·have j:=((if_neg hb).trans (if_pos h)).symm.trans z
     cases j
     subst h
     exact B
    ·have j:=((if_neg hb).trans (if_neg h)).symm.trans z
     cases j
  ·by_cases hb:b=a
   ·exact .inl hb
   ·by_cases h:b=T
    ·exact .inr h
    ·exact absurd ((if_neg hb).trans (if_neg h)) z
theorem zNp {l:mZ}{n k:Nat}{q:aJ}{loose:List Str}{XP:(Str->Option aj)->bF->Prop}{YP:bh->bF->Prop}{d:DefRec}{K:pq->ag}{sp:bh->Sp}{x:Str}{c T:ak}
  (I:l.most=some n) (r:n<=sizeLine) (t:d.params.defaults=[]) (J:Room k callerA)
  (L:∀(w:bh) (h:bF),YP w h->(K w.params).In h/\h.get? T=some (tabObj #[])) (y:∀w:bh,(K w.params).lookup T=none) (M:∀(w:bh) (h:bF),(K w.params).In h->rh h c T)
  (F:∀(w:bh) (mg:Str->Option aj) (p:ak) (h:bF),(K w.params).In h->h.Ns mainGlobals mg->mg d.name=some (.ref p)->
   ∃fd:bc,(∀(s:au) (u:aj),oG s fd ⟨[u],[]⟩ [(x,u)])/\
    ∀base:bF,(K w.params).In base->base.Ns mainGlobals mg->LamBase mg base c T->FnOk l.prog w (K w.params) mg base z0 k p fd [x] (sp w))
  (A:∀(w:bh) (H:Hp) (a:ak) (ns:List Int),ns.length<=n->H T=some (.tbl #[])->yG (K w.params) H a (ns.map V.int)->sp w [.ref a] H (fun v _=>v=.bl true) fun _ _ _=>False) :
  sF q loose XP YP l.row.toRowW d [] (fun f vs=>qx f vs):=by
 refine Att.attach_call I t fun w s₀ s₁ mg mb p o pm cd N a vs ns G Y ho hd O B m j i P=>?_
 obtain⟨C,Q⟩:=L w _ Y
 obtain⟨fd,hb,R⟩:=F w mg p _ C G.T.g B
 obtain⟨U,W,X,Z,D,b4,b5,E⟩:=G.T.bmain
 refine zNo C G.T.g G.T.b G.T.builtins G.T.nolimit P m j (bJ i r) J Q (y w) (M w _ C) ⟨U,W,X,Z,fun z=>?_,D,b4,b5,E⟩ R hb (fun H hO hS=>A w H a ns i hO hS)
 obtain⟨o',es,ep,e,d',_⟩:=G.T.g
 rw[z,e]at D
 cases D
 rw[d']at E;cases E
noncomputable def zCM (K:ag)(c T:ak):Prop:=∃od vs sl file tf flags tg inF text tt,K.lookup c=some ⟨.type "code",od,.fields vs,sl⟩/\vs[11]?=some (.ref T)/\vs.getD 11 .none=.ref T/\vs.getD 18 .none=.str file tf/\
 vs.getD 7 .none=.int flags tg/\vs.getD 9 .none=.bool inF/\vs.getD 10 .none=.int text tt/\c≠T
theorem zCM.hd {K:ag}{c T:ak}{h:bF}(X:K.In h)(C:zCM K c T):rh h c T:=by
 obtain⟨od,vs,p,file,b,flags,d,a,text,e,l,f,g,i,j,m,n,o⟩:=C
 exact⟨_,vs,file,b,flags,d,a,text,e,X _ _ l,rfl,rfl,f,g,i,j,m,n,o⟩
theorem zNq {K:ag}{T:ak}{o:Obj}{h:bF}(X:vp ((T,o)::K) h)(a:K.lookup T=none):K.In h/\h.get? T=some o:=by
 refine⟨fun b u e=>X b u ?_,X T o ?_⟩
 ·rw[b8]
  by_cases hb:b=T
  ·rw[hb,a]at e;cases e
  ·rw[beq_eq_false_iff_ne.mpr hb];exact e
 ·rw[b8];simp
end L2
end
section
set_option autoImplicit false
namespace Kn
noncomputable abbrev S:=List Nat
section
variable{κ α:Type} [DecidableEq κ]
noncomputable def zW:List (κ×α)->κ->α->List (κ×α)
 | [],k,v=>[(k,v)]
 |(k',v')::r,k,v=>if k'=k then(k',v)::r else(k',v')::zW r k v
noncomputable def zK:List (κ×α)->κ->Option α
 | [],_=>none
 |(k',v')::r,k=>if k'=k then some v' else zK r k
theorem zAy (l:List (κ×α))(k a:κ)(v:α):zK (zW l k v) a=if k=a then some v else zK l a:=by
 induction l with
 |nil=>simp[zW,zK]
 |cons p r ih=>
  obtain⟨b,v0⟩:=p
  by_cases h:b=k
  ·subst h
   by_cases h':b=a<;>simp[zW,zK,h']
  ·simp only[zW,if_neg h,zK,ih]
   by_cases c:b=a
   ·subst c
    rw[if_pos rfl,if_pos rfl,if_neg (fun e=>h e.symm)]
   ·rw[if_neg c,if_neg c]
theorem zHW (l:List (κ×α))(k:κ)(v:α):(zW l k v).map (·.1)=if k∈l.map (·.1)then l.map (·.1)else l.map (·.1)++[k]:=by
 induction l with
 |nil=>simp[zW]
 |cons p r ih=>
  obtain⟨a,v0⟩:=p
  by_cases h:a=k
  ·subst h;simp[zW]
  ·have h':¬k=a:=fun e=>h e.symm
   simp only[zW,if_neg h,aD,ih,aL,h',false_or]
   split<;>simp
theorem gN {l:List (κ×α)}{k:κ}{v:α}(h:(l.map (·.1)).Nodup):((zW l k v).map (·.1)).Nodup:=by
 rw[zHW]
 split
 ·exact h
 ·rename_i c
  exact dQ.mpr ⟨h,by simp,fun a ha b hb e=>by
   have:b=k:=by simpa using hb
   subst this;subst e;exact c ha⟩
theorem y7 {l:List (κ×α)}(h:(l.map (·.1)).Nodup)(k:κ)(v:α):(k,v)∈l↔zK l k=some v:=by
 induction l with
 |nil=>simp[zK]
 |cons p r ih=>
  obtain⟨a,v0⟩:=p
  have b:a∉r.map (·.1):=(bx.mp h).1
  have c:=ih (bx.mp h).2
  by_cases e:a=k
  ·subst e
   have g:zK ((a,v0)::r) a=some v0:=by simp[zK]
   rw[g,aL]
   constructor
   ·rintro(z|z)
    ·rw[(bM z).2]
    ·exact absurd (nV (f:=(·.1)) z) b
   ·intro z;rw[aB z];exact .inl rfl
  ·simp only[zK,if_neg e,aL,Prod.mk.injEq]
   rw[<-c]
   constructor
   ·rintro(z|z)
    ·exact absurd z.1.symm e
    ·exact z
   ·intro z;exact .inr z
theorem zHX {l:List (κ×α)}{k:κ}:zK l k=none↔k∉l.map (·.1):=by
 induction l with
 |nil=>simp[zK]
 |cons p r ih=>
  obtain⟨a,v0⟩:=p
  by_cases e:a=k
  ·subst e;simp[zK]
  ·have b:¬k=a:=fun z=>e z.symm
   simp only[zK,if_neg e,ih,aD,aL,b,false_or]
end
noncomputable def uT (row:List (S×Int))(l:S):List (S×Int):=zW row l ((zK row l).getD 0+1)
noncomputable def y8 (rows:List (S×List (S×Int)))(p:S×S):List (S×List (S×Int)):=zW rows p.1 (uT ((zK rows p.1).getD []) p.2)
noncomputable def uE (ps:List (S×S)):List (S×List (S×Int)):=ps.foldl y8 []
theorem zNr (ps:List (S×S))(p:S×S):uE (ps++[p])=y8 (uE ps) p:=by
 unfold uE;rw[dw];rfl
noncomputable def zI (t:S)(o:Nat):S:=t.drop (t.length-o)
noncomputable def yL (o:Nat)(nm:S):List (S×S):=(bA (nm.length+1)).map fun p=>(zI (nm.take p) o,(nm.drop p).take 1)
noncomputable def zA (o:Nat)(bk:List S):List (S×S):=bk.flatMap (yL o)
structure RowsOk (ps:List (S×S)) (rows:List (S×List (S×Int))):Prop where
 nd:(rows.map (·.1)).Nodup
 ndr:∀e row,(e,row)∈rows->(row.map (·.1)).Nodup
 val:∀e l,zK ((zK rows e).getD []) l=if 0<ps.count (e,l)then some (ps.count (e,l):Int)else none
 has:∀e,(∃row,zK rows e=some row)↔∃l,(e,l)∈ps
theorem vL (ps:List (S×S)):RowsOk ps (uE ps):=by
 suffices h:∀(f ps:List (S×S)) rows,RowsOk ps rows->RowsOk (ps++f) (f.foldl y8 rows) by
  have:=h ps [] [] ⟨by simp,by simp,by simp[zK],by simp[zK]⟩
  simpa [uE]using this
 intro f
 induction f with
 |nil=>intro ps rows h;simpa using h
 |cons q f ih=>
  intro ps rows h
  obtain⟨a,b⟩:=q
  have step:RowsOk (ps++[(a,b)]) (y8 rows (a,b)):=by
   have i:((((zK rows a).getD []).map (·.1))).Nodup:=by
    cases g:zK rows a with
    |none=>simp
    |some row=>exact h.ndr a row ((y7 h.nd a row).mpr g)
   refine⟨gN h.nd,fun e row j=>?_,fun e l=>?_,fun e=>?_⟩
   ·have c:=(y7 (gN h.nd) e row).mp j
    unfold y8 at c
    rw[zAy]at c
    split at c
    ·have:=aB c
     rw[<-this]
     exact gN i
    ·exact h.ndr e row ((y7 h.nd e row).mpr c)
   ·unfold y8
    rw[zAy]
    by_cases d:a=e
    ·subst d
     rw[if_pos rfl]
     show zK (uT ((zK rows a).getD []) b) l=_
     unfold uT
     rw[zAy,h.val a b]
     by_cases hl:b=l
     ·subst hl
      rw[if_pos rfl,lV]
      have e1:lB (a,b) [(a,b)]=1:=by simp
      rw[e1]
      by_cases m:0<lB (a,b) ps
      ·simp[m]
      ·have:lB (a,b) ps=0:=by omega
       simp[this]
     ·rw[if_neg hl,h.val a l,lV]
      have e1:lB (a,l) [(a,b)]=0:=by
       simp[m9,hl]
      rw[e1,mQ]
    ·rw[if_neg d]
     rw[h.val e l,lV]
     have e1:lB (e,l) [(a,b)]=0:=by
      simp[m9,d]
     rw[e1,mQ]
   ·unfold y8
    rw[zAy]
    by_cases d:a=e
    ·subst d
     rw[if_pos rfl]
     exact⟨fun _=>⟨b,by simp⟩,fun _=>⟨_,rfl⟩⟩
    ·rw[if_neg d,h.has e]
     constructor
     ·rintro⟨l,hl⟩;exact⟨l,bY _ hl⟩
     ·rintro⟨l,hl⟩
      rcases bt.mp hl with z|z
      ·exact⟨l,z⟩
      ·have:(e,l)=(a,b):=by simpa using z
       exact absurd (congrArg ug this).symm d
  have:=ih (ps++[(a,b)]) (y8 rows (a,b)) step
  simpa using this
noncomputable def Ris {α:Type}(xs:List (S×α)):Prop:=xs.Pairwise fun a b=>a.1<b.1
theorem zNs (a:S):¬a<a:=fP a
theorem Ris.keys {α:Type}{xs:List (S×α)}(h:Ris xs):(xs.map (·.1)).Nodup:=by
 unfold Ris at h
 rw[dm,bB]
 exact h.imp fun{a b} c (e:a.1=b.1)=>zNs b.1 (e▸c)
theorem zHY {β:Type} [BEq β] [LawfulBEq β]:∀(ps ks:List β),ks.Nodup->(∀x∈ps,x∈ks)->(ks.map fun k=>(ps.count k:Int)).sum=(ps.length:Int)
 | [],ks,_,_=>by
  have:(ks.map fun k=>(([]:List β).count k:Int))=ks.map fun _=>(0:Int):=by simp
  rw[this]
  induction ks with
  |nil=>rfl
  |cons k r ih=>simp_all
 |x::ps,ks,nd,h=>by
  have ih:=zHY ps ks nd fun y c=>h y (aw _ c)
  have no:∀(ks:List β),x∉ks->(ks.map fun k=>((x::ps).count k:Int)).sum=(ks.map fun k=>(ps.count k:Int)).sum:=by
   intro ks
   induction ks with
   |nil=>intro _;rfl
   |cons k r ih=>
    intro a
    have hx1:¬x=k:=fun e=>a (e▸aq ..)
    have hx2:x∉r:=fun e=>a (aw _ e)
    simp only[aD,aT,ih hx2,nj hx1]
  have one:∀(ks:List β),ks.Nodup->x∈ks->(ks.map fun k=>((x::ps).count k:Int)).sum=(ks.map fun k=>(ps.count k:Int)).sum+1:=by
   intro ks
   induction ks with
   |nil=>intro _ a;cases a
   |cons k r ih=>
    intro nd a
    have d:=(bx.mp nd).1
    by_cases e:x=k
    ·subst e
     simp only[aD,aT,no r d,List.count_cons_self]
     omega
    ·have b:x∈r:=(aL.mp a).elim (fun z=>absurd z e) id
     simp only[aD,aT,ih (bx.mp nd).2 b,nj e]
     omega
  rw[one ks nd (h x (aq ..)),ih,aM]
  omega
theorem zNt (o:Nat)(a b:List S):zA o (a++b)=zA o a++zA o b:=by
 unfold zA;rw[dN]
theorem zCN (o:Nat)(a:List S):((zA o a).length:Int)=(a.map fun x=>(x.length:Int)+1).sum:=by
 induction a with
 |nil=>rfl
 |cons x r ih=>
  have e1:zA o (x::r)=yL o x++zA o r:=rfl
  rw[e1,ay,aD,aT,<-ih]
  simp[yL]
theorem zNu (t:S)(o:Nat):(zI t o).length<=o:=by unfold zI;rw[bV];omega
end Kn
end
section
set_option autoImplicit false
namespace Kn
noncomputable def yM (a b:Int):Int:=(jl a b:Int)
noncomputable def low (u d:Int):Int×Int:=(u/yM u d,d/yM u d)
structure Fq (q:Int×Int):Prop where
 up:0<=q.1
 dn:0<q.2
 co:jl q.1 q.2=1
theorem zBf {u d:Int}(hd:0<d):0<yM u d:=by
 have:0<jl u d:=Int.gcd_pos_iff.mpr (.inr (by omega))
 unfold yM;omega
theorem zNv (u d:Int):u=yM u d*(u/yM u d):=(nJ (by unfold yM;exact mC ..)).symm
theorem zHZ (u d:Int):d=yM u d*(d/yM u d):=(nJ (by unfold yM;exact fB ..)).symm
theorem uL {u d:Int}(hd:0<d):(low u d).1*d=u*(low u d).2:=by
 have c:=zNv u d
 have e:=zHZ u d
 show u/yM u d*d=u*(d/yM u d)
 generalize yM u d=g at*
 generalize u/g=a at*
 generalize d/g=b at*
 rw[c,e,<-sI,eG a g]
theorem uM {u d:Int}(c:0<=u)(hd:0<d):Fq (low u d):=by
 have b:=zBf (u:=u) hd
 refine⟨qc c (bD b),?_,?_⟩
 ·have e:=zHZ u d
  show 0<d/yM u d
  rcases Int.lt_trichotomy (d/yM u d) 0 with h|h|h
  ·have:=Int.mul_neg_of_pos_of_neg b h
   omega
  ·rw[h,tF]at e;omega
  ·exact h
 ·show jl (u/yM u d) (d/yM u d)=1
  unfold yM at*
  have a:0<jl u d:=by omega
  rw[Int.gcd_ediv (mC ..) (fB ..)]
  simp
  exact Nat.div_self a
theorem Fq.ext {p q:Int×Int}(a:Fq p)(b:Fq q)(h:p.1*q.2=q.1*p.2):p=q:=by
 obtain⟨s,t⟩:=p
 obtain⟨u,v⟩:=q
 obtain⟨f,g,i⟩:=a
 obtain⟨j,l,n⟩:=b
 dsimp only at*
 obtain⟨x,rfl⟩:=bQ f
 obtain⟨y,rfl⟩:=bQ (bD g)
 obtain⟨z,rfl⟩:=bQ j
 obtain⟨w,rfl⟩:=bQ (bD l)
 have h':x*w=z*y:=by exact_mod_cast h
 have c:tG x y=1:=by simpa [jl]using i
 have d:tG z w=1:=by simpa [jl]using n
 have o:0<y:=by omega
 have A:0<w:=by omega
 have d1:y∣w:=jb (m:=x) (by rw[uh,mR];exact c) (by rw[h'];exact pL ..)
 have r:w∣y:=jb (m:=z) (by rw[uh,mR];exact d) (by rw[<-h'];exact pL ..)
 have e:y=w:=Nat.dvd_antisymm d1 r
 subst e
 have:x=z:=Nat.eq_of_mul_eq_mul_right o h'
 rw[this]
theorem zDV {u d a d':Int}(e:0<=u)(hd:0<d)(c:0<=a)(b:0<d')(h:u*d'=a*d):low u d=low a d':=by
 refine Fq.ext (uM e hd) (uM c b) ?_
 have f:=uL (u:=u) hd
 have g:=uL (u:=a) b
 generalize low u d=p at*
 generalize low a d'=q at*
 have:(p.1*q.2)*(d*d')=(q.1*p.2)*(d*d'):=by
  calc (p.1*q.2)*(d*d')=(p.1*d)*(q.2*d'):=by ac_rfl
   _=(u*p.2)*(q.2*d'):=by rw[f]
   _=(u*d')*(p.2*q.2):=by ac_rfl
   _=(a*d)*(p.2*q.2):=by rw[h]
   _=(a*q.2)*(p.2*d):=by ac_rfl
   _=(q.1*d')*(p.2*d):=by rw[g]
   _=(q.1*p.2)*(d*d'):=by ac_rfl
 exact lC (by have:=cy hd b;omega) this
theorem zDW {u d:Int}(a:0<=u)(hd:0<d):(low u d).2<=d/\(low u d).1<=u:=by
 have b:=zBf (u:=u) hd
 exact⟨pM _ (by omega),pM _ a⟩
noncomputable def vJ (p q:Int×Int):Int×Int:=low (p.1*q.1) (p.2*q.2)
noncomputable def zAz (p q:Int×Int):Int×Int:=low (p.1*q.2+q.1*p.2) (p.2*q.2)
noncomputable def lss (p q:Int×Int):Bool:=decide (p.1*q.2<q.1*p.2)
theorem zBA {p q:Int×Int}(a:Fq p)(b:Fq q):Fq (vJ p q):=uM (dZ a.up b.up) (cy a.dn b.dn)
theorem zHa:Fq (0,1):=⟨by decide,by decide,by decide⟩
theorem zBB:Fq (1,1):=⟨by decide,by decide,by decide⟩
theorem zCO {d:Int}(hd:0<d):low 0 d=(0,1):=by
 refine Fq.ext (uM (uk _) hd) zHa ?_
 have:=uL (u:=0) hd
 rw[iW]at this
 have a:(low 0 d).1=0:=by
  rcases qd.mp this with h|h
  ·exact h
  ·omega
 rw[a];simp
theorem zNw {d:Int}(hd:0<d):low d d=(1,1):=by
 refine Fq.ext (uM (bD hd) hd) zBB ?_
 have:=uL (u:=d) hd
 rw[eG]at this
 have:=Int.eq_of_mul_eq_mul_left (by omega) this
 rw[this]
 exact eG _ _
theorem zNx {q:Int×Int}(b:Fq q):vJ (0,1) q=(0,1):=by
 unfold vJ
 have:((0:Int),(1:Int)).1*q.1=0:=iW _
 rw[this]
 exact zCO (cy (by decide) b.dn)
theorem zNy {p:Int×Int}(a:Fq p):vJ p (0,1)=(0,1):=by
 unfold vJ
 have:p.1*((0:Int),(1:Int)).1=0:=tF _
 rw[this]
 exact zCO (cy a.dn (by decide))
theorem zNz {p q:Int×Int}(a:Fq p)(b:Fq q)(d:0<p.1)(e:0<q.1):0<(vJ p q).1:=by
 have f:=zBA a b
 have c:(vJ p q).1*(p.2*q.2)=(p.1*q.1)*(vJ p q).2:=uL (cy a.dn b.dn)
 rcases oy f.up with h|h
 ·exact h
 ·rw[<-h,iW]at c
  have g:0<p.1*q.1:=cy d e
  have i:0<(p.1*q.1)*(vJ p q).2:=cy g f.dn
  omega
theorem zOA {u d:Int}(a:0<u)(hd:0<d):0<(low u d).1:=by
 have f:=uM (bD a) hd
 have c:=uL (u:=u) hd
 rcases oy f.up with h|h
 ·exact h
 ·rw[<-h,iW]at c
  have:=cy a f.dn
  omega
theorem zDX {u d:Int}(a:0<=u)(hd:0<d)(h:u<=d):(low u d).1<=(low u d).2:=by
 have f:=uM a hd
 have c:=uL (u:=u) hd
 by_cases b:(low u d).1<=(low u d).2
 ·exact b
 ·exfalso
  have e:(low u d).2+1<=(low u d).1:=by omega
  have g:((low u d).2+1)*d<=(low u d).1*d:=dI e (bD hd)
  have i:u*(low u d).2<=d*(low u d).2:=dI h (bD f.dn)
  rw[lW,Int.one_mul,eG (low u d).2 d]at g
  omega
theorem zOB {p q:Int×Int}(a:Fq p)(b:Fq q)(c:p.1<=p.2)(d:q.1<=q.2):(vJ p q).1<=(vJ p q).2 :=
 zDX (dZ a.up b.up) (cy a.dn b.dn) (ia c d b.up (bD a.dn))
theorem zHb {T:Int}(a:0<T){S n:Int}(b:0<=S)(c:0<=n):zAz (low S T) (low n T)=low (S+n) T:=by
 have f1:=uM b a
 have f2:=uM c a
 have d:=uL (u:=S) a
 have e:=uL (u:=n) a
 unfold zAz
 generalize low S T=p at*
 generalize low n T=q at*
 refine zDV (ri (dZ f1.up (bD f2.dn)) (dZ f2.up (bD f1.dn))) (cy f1.dn f2.dn) (by omega) a ?_
 calc (p.1*q.2+q.1*p.2)*T=(p.1*T)*q.2+(q.1*T)*p.2:=by rw[lW];congr 1<;>ac_rfl
  _=(S*p.2)*q.2+(n*q.2)*p.2:=by rw[d,e]
  _=(S+n)*(p.2*q.2):=by rw[lW];congr 1<;>ac_rfl
end Kn
end
section
set_option autoImplicit false
namespace Kn
noncomputable def tot (ps:List (S×S))(e:S):Nat:=(ps.filter fun p=>p.1=e).length
noncomputable def zF (ps:List (S×S))(e l:S):Int×Int:=if ps.count (e,l)=0 then(0,1)else low (ps.count (e,l):Int) (tot ps e:Int)
noncomputable def qO (ps:List (S×S))(qs:List (S×S)):Int×Int:=qs.foldl (fun w p=>vJ w (zF ps p.1 p.2)) (1,1)
noncomputable def vS (ps:List (S×S))(o:Nat)(nm:S):Int×Int:=qO ps (yL o nm)
theorem j8 (ps:List (S×S))(e l:S):ps.count (e,l)<=tot ps e:=by
 unfold tot
 rw[<-oX (l:=ps) (p:=fun p=>decide (p.1=e)) (a:=(e,l)) (by simp)]
 exact List.count_le_length
theorem uU (ps:List (S×S))(e l:S):Fq (zF ps e l):=by
 unfold zF
 split
 ·exact zHa
 ·have:=j8 ps e l
  exact uM (by omega) (by omega)
theorem zHc (ps:List (S×S))(e l:S):(zF ps e l).1<=(zF ps e l).2:=by
 unfold zF
 split
 ·decide
 ·have:=j8 ps e l
  exact zDX (by omega) (by omega) (by omega)
theorem zCP {ps:List (S×S)}{e l:S}(h:(e,l)∈ps):0<(zF ps e l).1:=by
 have a:=dA.mpr h
 have:=j8 ps e l
 unfold zF
 rw[if_neg (by omega)]
 exact zOA (by omega) (by omega)
theorem zDY {ps:List (S×S)}{e l:S}(h:(e,l)∉ps):zF ps e l=(0,1):=by
 unfold zF
 rw[if_pos (List.count_eq_zero.mpr h)]
theorem zDZ {ps:List (S×S)}(e l:S)(h:1<=ps.length):(zF ps e l).2<=(ps.length:Int):=by
 unfold zF
 split
 ·show(1:Int)<=_;omega
 ·have a:=j8 ps e l
  have b:tot ps e<=ps.length:=dq _ _
  have:=(zDW (u:=(ps.count (e,l):Int)) (d:=(tot ps e:Int)) (by omega) (by omega)).1
  omega
theorem zHd (ps:List (S×S)):∀(a:List (S×S)) (w:Int×Int),Fq w->Fq (a.foldl (fun w p=>vJ w (zF ps p.1 p.2)) w)
 | [],w,h=>h
 |q::a,w,h=>zHd ps a _ (zBA h (uU ps q.1 q.2))
theorem zHe (ps:List (S×S)):∀(a:List (S×S)) (w:Int×Int),Fq w->w.1<=w.2->(a.foldl (fun w p=>vJ w (zF ps p.1 p.2)) w).1<=(a.foldl (fun w p=>vJ w (zF ps p.1 p.2)) w).2
 | [],w,_,h=>h
 |q::a,w,f,h=>zHe ps a _ (zBA f (uU ps q.1 q.2)) (zOB f (uU ps q.1 q.2) h (zHc ps q.1 q.2))
theorem zHf (ps:List (S×S)):∀(a:List (S×S)) (w:Int×Int),Fq w->0<w.1->(∀q∈a,q∈ps)->0<(a.foldl (fun w p=>vJ w (zF ps p.1 p.2)) w).1
 | [],w,_,h,_=>h
 |q::a,w,f,h,b=>zHf ps a _ (zBA f (uU ps q.1 q.2)) (zNz f (uU ps q.1 q.2) h (zCP (b q (aq ..)))) fun r c=>b r (aw _ c)
theorem zHg (ps:List (S×S)):∀(a:List (S×S)),a.foldl (fun w p=>vJ w (zF ps p.1 p.2)) (0,1)=(0,1)
 | []=>rfl
 |q::a=>by
  rw[cC,zNx (uU ps q.1 q.2)]
  exact zHg ps a
theorem zHh {ps:List (S×S)}(b:1<=ps.length):∀(a:List (S×S)) (w:Int×Int) (k:Nat),Fq w->w.2<=(ps.length:Int)^k->(a.foldl (fun w p=>vJ w (zF ps p.1 p.2)) w).2<=(ps.length:Int)^(k+a.length)
 | [],w,k,_,h=>h
 |q::a,w,k,f,h=>by
  have g:=uU ps q.1 q.2
  have e:k+(q::a).length=(k+1)+a.length:=by simp;omega
  rw[e,cC]
  refine zHh b a _ (k+1) (zBA f g) ?_
  have c:(vJ w (zF ps q.1 q.2)).2<=w.2*(zF ps q.1 q.2).2:=(zDW (dZ f.up g.up) (cy f.dn g.dn)).1
  have d:w.2*(zF ps q.1 q.2).2<=(ps.length:Int)^k*(ps.length:Int):=ia h (zDZ q.1 q.2 b) (bD g.dn) (by have:=f.dn;omega)
  rw[iX]
  omega
theorem zOC {p:Int×Int}:lss (0,1) p=decide (0<p.1):=by
 simp only[lss]
 congr 1
 simp
end Kn
end
section
namespace Kn
open PySem L2
theorem yE {N P:List Str}{h:gc}(a:h.kind=.function:=by rfl)(b:h.isCoroutine=false:=by rfl)(c:h.isGenerator=false:=by rfl)(d:N.Nodup:=by decide+kernel)(e:N.take P.length=P:=by rfl)(f:∀x∈P,h.names.lookup x=some .local\/h.names.lookup x=some .cell:=by decide+kernel)(g:∀y∈h.names,y.2≠.free:=by decide+kernel):FnScope N P h:=⟨a,b,c,d,e,f,g⟩
noncomputable def zS (P:aJ)(w:bh)(K:ag)(mg:Str->Option aj)(base:bF)(k:Nat)(x:Str)(ps:List Str)(sp:Sp):Prop :=
 ∃(f:ak) (fd:bc),FnOk P w K mg base z0 k f fd ps sp/\mg x=some (.ref f)/\dW K (.ref f)=true/\kM K fd ps []
theorem zH {X:Cx}{k:Nat}{x:Str}{ps:List Str}{sp:Sp}{p pos:Pos}{e:bS}{c:List bS}{t:TA}(C:zS X.prog X.w X.K X.mg X.base k x ps sp)(g:Room k X.A)(h:Gl X x)(ha:PA X (e::c) t)
  (i:starEach (e::c) X.env=(false,eval e X.env)::starEach c X.env:=by rfl) (a:(backTo pos (starEach c X.env)).any (·.1)=false:=by rfl)
  (d:(x==("__debug__" : Str))=false:=by decide):PE X (.Call (.Name x p) (e::c) [] pos) (zGB sp [] E0 t):=by
 obtain⟨f,fd,G,j,kp,b⟩:=C
 exact zLs G g h j kp b .nil zMp ha d i a
noncomputable abbrev tx (x:S):Str:=⟨x.toArray⟩
noncomputable abbrev sv (x:S):V:=.str (tx x)
theorem uN (x:S):(tx x).cps.toList=x:=by simp[tx]
theorem yF (x:S):(tx x).length=x.length:=by simp[tx,qt]
theorem zDa {n i:Nat}{x:V}(h:((bA n).map fun(i:Nat)=>V.int (0+(i:Int)))[i]?=some x):i<n/\x=.int i:=by
 have hi:i<n:=by
  have:=(ah.mp h).1
  simpa using this
 refine⟨hi,?_⟩
 rw[ar,ix hi]at h
 have:=aB h
 rw[<-this]
 show V.int (0+(i:Int))=V.int i
 rw[oY]
theorem ys1 {ys:St}(h:ys.length=1):∃y,ys=[y]:=by
 cases ys with
 | nil=>simp at h
 | cons q0 q1=>cases q1 with
  | nil=>exact⟨q0,rfl⟩
  | cons=>simp at h
theorem ys2 {ys:St}(h:ys.length=2):∃y z,ys=[y,z]:=by
 cases ys with
 | nil=>simp at h
 | cons q0 q1=>cases q1 with
  | nil=>simp at h
  | cons q2 q3=>cases q3 with
   | nil=>exact⟨q0,q2,rfl⟩
   | cons=>simp at h
structure Blt (mg:Str->Option aj):Prop where
 len:mg "len"=none
 range:mg "range"=none
 all:mg "all"=none
 isinstance:mg "isinstance"=none
 str:mg "str"=none
 tuple:mg "tuple"=none
 int:mg "int"=none
 bool:mg "bool"=none
 sorted:mg "sorted"=none
 sum:mg "sum"=none
 min:mg "min"=none
section
variable{P:aJ}{w:bh}{K:ag}{mg:Str->Option aj}{base:bF}
theorem zOD (t:S)(o:Nat)(b:1<=o):g9 (tx t) (some (-(o:Int))) none=tx (zI t o):=by
 unfold g9
 rw[yF,uN]
 have e1:HT.sIx t.length 0 (some (-(o:Int)))=t.length-o:=by
  show(if-(o:Int)<0 then(-(o:Int)+(t.length:Int)).toNat else _)=_
  rw[if_pos (by omega)];omega
 have a:HT.sIx t.length t.length none=t.length:=rfl
 rw[e1,a]
 unfold zI
 rw[eu (by rw[bV];omega)]
theorem zOE (t:S)(p:Nat):g9 (tx t) none (some (p:Int))=tx (t.take p):=by
 unfold g9
 rw[yF,uN,HT.sIx_nat]
 show tx ((t.drop 0).take (min p t.length-0))=_
 rw[eK,kj,<-nk]
theorem zOF (t:S)(p:Nat):g9 (tx t) (some (p:Int)) (some ((p:Int)+1))=tx ((t.drop p).take 1):=by
 unfold g9
 rw[yF,uN,HT.sIx_nat,show((p:Int)+1)=((p+1:Nat):Int)from rfl,HT.sIx_nat]
 congr 1
 by_cases h:p<t.length
 ·have e1:min p t.length=p:=by omega
  have a:min (p+1) t.length-p=1:=by omega
  rw[e1,a]
 ·have e1:min p t.length=t.length:=by omega
  rw[e1,f7 (aC _),f7 (by omega)]
  simp
noncomputable def zCQ:Sp:=fun vs H Q _=>∃(t:S) (o:Nat),vs=[sv t,.int o]/\1<=o/\t.length<=64/\Q (sv (zI t o)) H
noncomputable abbrev zDb:cJ:=top 21
theorem zOG:FnScope ["text","order"] ["text","order"] (defScope zDb):=yE
theorem zOH {f:ak}{fd:bc}(F:Fun K "end_of" "end_of" zDb f fd):FnOk P w K mg base z0 1 f fd ["text","order"] zCQ:=by
 refine F.ok zOG (fun vs H Q E h=>?_) (fun a A outer s H vs Q E c h=>?_)
 ·obtain⟨t,o,rfl,_⟩:=h;rfl
 ·obtain⟨t,o,rfl,b,hl,k⟩:=h
  refine⟨_,zL (z5 (zDQ (pv 0) (jL (zLb zLf (pv 1))) j3)),?_⟩
  refine⟨_,rfl,_,rfl,_,rfl,_,rfl,_,rfl,?_,?_⟩
  ·rw[yF,aI];omega
  ·rw[zOD t o b];exact k
noncomputable def pr (o:Nat)(t:S)(p:Nat):S×S:=(zI (t.take p) o,(t.drop p).take 1)
noncomputable def elD (p:S×S):d5:=.tuple [.str (tx p.1),.str (tx p.2)]
noncomputable def zDc (K:ag):Sp:=fun vs H Q _=>∃(t:S) (o:Nat),vs=[sv t,.int o]/\1<=o/\t.length<=64/\∀a xs H',zB H H'->H a=none->H' a=some (.lst xs)->Reps K H' ((yL o t).map elD) xs->Q (.ref a) H'
noncomputable abbrev zDd:cJ:=top 22
theorem zOI:FnScope ["name","order"] ["name","order"] (defScope zDd):=yE
theorem zOJ:(["name","order","place"]:List Str).Nodup:=by decide+kernel
theorem zOK {f:ak}{fd:bc}(F:Fun K "ends_and_letters" "ends_and_letters" zDd f fd)(B:Blt mg)(d:zS P w K mg base 1 "end_of" ["text","order"] zCQ):FnOk P w K mg base z0 2 f fd ["name","order"] (zDc K):=by
 refine F.ok zOI (fun vs H Q E h=>?_) (fun r A outer s H vs Q E u h=>?_)
 ·obtain⟨t,o,rfl,_⟩:=h;rfl
 ·obtain⟨t,o,rfl,v,hl,k⟩:=h
  refine⟨_,zL (z5 (qD (N:=["name","order","place"]) (caps:=[0,1]) rfl (uS (by kernel_rfl))
   (zCz rfl B.range (zC (zV y6 (yS kO (by rfl) B.len cw (zC (pv 0) zD)) zQ) zD))
   (fun m C s H ex=>yB (i:=2) zOJ rfl (Or.inl rfl))
   (fun m C s H ex=>qM)
   (fun m C s H ex=>uA (zC (zH d u rfl (zC (zDQ (pv 0) j3 (jL (pv 2))) (zC (pv 1) zD)))
    (zC (zDQ (pv 0) (jL (pv 2)) (jL (zV y6 (pv 2) zQ))) zD))))),?_⟩
  refine⟨_,rfl,_,rfl,?_,_,_,rfl,rfl,_,rfl,?_,?_,?_⟩
  ·rw[yF,aI];omega
  ·rw[yF];omega
  ·rw[yF];omega
  have z:((tx t).length:Int)+1=((t.length+1:Nat):Int):=by rw[yF];rfl
  have b:(((tx t).length:Int)+1).toNat=t.length+1:=by rw[z];rfl
  refine j5 (zBd 0 _) [some (sv t),some (.int o)] 1 (by rw[ai,bU,b];omega) (fun i a e=>zB H e/\a.length=i/\Reps K e (((bA i).map (pr o t)).map elD) a)
   ⟨zB.refl H,rfl,rfl⟩ (fun i a e _ h=>⟨trivial,fz h.2.1⟩) ?_ ?_
  ·rintro i x a e ys J G n I ⟨c,g,j⟩
   obtain⟨y,rfl⟩:=ys1 I
   rw[b]at n
   obtain⟨hi,rfl⟩:=zDa n
   refine⟨_,rfl,_,rfl,_,rfl,_,rfl,(by rw[yF,aI];omega),_,rfl,t.take i,o,(by rw[zOE];rfl),v,(by rw[aZ];omega),?_⟩
   refine⟨_,rfl,_,rfl,_,rfl,_,rfl,_,_,rfl,rfl,_,rfl,_,rfl,(by rw[yF,aI];omega),?_⟩
   refine⟨by show 2<=sizeLine;decide,fun p q=>G _ _ [some (.int i)] rfl ⟨c.upd_new (c.free q),by rw[ay,g];rfl,?_⟩⟩
   rw[dE,aQ,aQ]
   refine Reps.append (Reps.same (zB.upd1 q) _ _ j) (Reps.one ⟨p,_,rfl,.of zE,?_⟩)
   rw[zOF]
   exact⟨_,_,rfl,rfl,_,_,rfl,rfl,rfl⟩
  ·rintro a e ⟨c,g,j⟩ D l
   refine k D a _ (c.upd_new (c.free l)) (c.free l) zE (Reps.same (zB.upd1 l) _ _ ?_)
   rw[ai,bU,b]at j
   exact j
noncomputable def y9 (x:S):Prop:=1<=x.length/\x.length<=8/\∀c∈x,97<=c/\c<=122
noncomputable def letters:Str:=⟨#[97,98,99,100,101,102,103,104,105,106,107,108,109,110,111,112,113,114,115,116,117,118,119,120,121,122]⟩
theorem zOL {c:Nat}(h:97<=c/\c<=122):(iK letters ⟨#[c]⟩ 0 letters.length 1).isEmpty=false:=by
 have all:∀d:_root_.Fin 26,(iK letters ⟨#[97+d.val]⟩ 0 letters.length 1).isEmpty=false:=by decide+kernel
 have:=all ⟨c-97,by omega⟩
 have e:97+(c-97)=c:=by omega
 simpa [e]using this
structure Cst (K:ag) (mg:Str->Option aj):Prop where
 letters:∃t,mg "LETTERS"=some (.str letters t)
 ml:∃t,mg "MOST_LETTERS"=some (.int 8 t)
 mn:∃t,mg "MOST_NAMES"=some (.int 8 t)
 mo:∃t,mg "MOST_ORDER"=some (.int 3 t)
 ib:lg K (.type "int") (.type "bool")=some false
noncomputable def zBg:Sp:=fun vs H Q _=>∃x:S,vs=[sv x]/\y9 x/\∀H',zB H H'->Q (.bl true) H'
noncomputable abbrev zDe:cJ:=top 12
theorem zOM:FnScope ["thing"] ["thing"] (defScope zDe):=yE
theorem nd1:(["letter"]:List Str).Nodup:=by decide+kernel
theorem zON {f:ak}{fd:bc}(F:Fun K "is_name" "is_name" zDe f fd)(B:Blt mg)(C:Cst K mg):FnOk P w K mg base z0 1 f fd ["thing"] zBg:=by
 obtain⟨tl,hl⟩:=C.letters
 obtain⟨u,m⟩:=C.ml
 refine F.ok zOM (fun vs H Q E h=>?_) (fun n A outer s H vs Q E z h=>?_)
 ·obtain⟨t,rfl,_⟩:=h;rfl
 ·obtain⟨x,rfl,⟨G,I,o⟩,k⟩:=h
  refine⟨_,zR (y0 (PW.pt (zAN (uI (vW (yS zAW (by rfl) B.isinstance cI (zC (pv 0) (zC (zAL (v:=.ty "str") (by rfl) B.str tP rfl) zD)))))
    (zAM (uI (zDD gG gG zQ (yS kO (by rfl) B.len cw (zC (pv 0) zD)) (yR (v:=.int 8) (by rfl) m ⟨_,rfl⟩))))))
    (zL (z5 jJ)) yZ)
   (zL (z5 (yS (zBc rfl) (by rfl) B.all fg (zC (qD (N:=["letter"]) (caps:=[]) rfl (uS (by kernel_rfl)) (zHC (pv 0))
    (fun l C s H ex=>yB (i:=0) nd1 rfl (Or.inl rfl)) (fun l C s H ex=>qM)
    (fun l C s H ex=>jK zLh (pv 0) (yR (v:=.str letters) (by rfl) hl ⟨_,rfl⟩) (by with_unfolding_all rfl))) zD)))),?_⟩
  refine⟨_,rfl,_,_,_,true,rfl,.str _,(by rfl),_,rfl,?_⟩
  refine vA ?_
  refine⟨_,rfl,_,rfl,(by rw[yF,aI];omega),_,_,rfl,rfl,_,rfl,?_⟩
  refine zAA (by rw[yF];omega) ⟨_,_,rfl,rfl,_,rfl,gK (by rw[yF];omega) ?_⟩
  refine⟨_,rfl,_,rfl,?_⟩
  refine j5 (zHH (tx x)) [] 1 (by rw[ai,uN];omega) (fun i a d=>zB H d/\a=aH i (.bl true)) ⟨zB.refl H,rfl⟩ (fun i a d _ h=>⟨trivial,by rw[h.2];simp⟩) ?_ ?_
  ·rintro i y a d ys J p b q ⟨g,rfl⟩
   obtain⟨L,rfl⟩:=ys1 q
   rw[ar,uN]at b
   cases e:x[i]? with
   |none=>rw[e]at b;cases b
   |some c=>
    rw[e]at b
    have j:y=.str ⟨#[c]⟩:=(aB b).symm
    subst j
    refine⟨_,rfl,_,_,rfl,rfl,?_⟩
    rw[zOL (o c (aY e))]
    exact p _ _ [some (.str ⟨#[c]⟩)] rfl ⟨g,by rw[ic];rfl⟩
  ·rintro a d ⟨g,rfl⟩ D r
   refine⟨D,aH _ true,rfl,.of (by rw[zE,lD]),?_⟩
   have:(aH ((tx x).cps.toList.map fun c=>V.str ⟨#[c]⟩).length true).all id=true:=by simp
   rw[this]
   exact k _ (g.upd_new (g.free r))
noncomputable def zP (bk:List S):List V:=bk.map sv
structure isBk (bk:List S):Prop where
 lo:1<=bk.length
 hi:bk.length<=8
 nm:∀x∈bk,y9 x
noncomputable def zHi:Sp:=fun vs H Q _=>∃(a:ak) (bk:List S),vs=[.ref a]/\H a=some (.tup (zP bk))/\isBk bk/\∀H',zB H H'->Q (.bl true) H'
noncomputable abbrev zDf:cJ:=top 13
theorem zOO:FnScope ["thing"] ["thing"] (defScope zDf):=yE
theorem nd2:(["name"]:List Str).Nodup:=by decide+kernel
theorem zOP {f:ak}{fd:bc}(F:Fun K "is_book" "is_book" zDf f fd)(B:Blt mg)(C:Cst K mg)(d:zS P w K mg base 1 "is_name" ["thing"] zBg):FnOk P w K mg base z0 2 f fd ["thing"] zHi:=by
 obtain⟨G,p⟩:=C.mn
 refine F.ok zOO (fun vs H Q E h=>?_) (fun q A outer s H vs Q E r h=>?_)
 ·obtain⟨a,bk,rfl,_⟩:=h;rfl
 ·obtain⟨a,bk,rfl,ha,⟨I,J,t⟩,k⟩:=h
  refine⟨_,zR (y0 (PW.pt (zAN (uI (vW (yS zAW (by rfl) B.isinstance cI (zC (pv 0) (zC (zAL (v:=.ty "tuple") (by rfl) B.tuple fS rfl) zD)))))
    (zAM (uI (zDD gG gG zQ (yS zAs (by rfl) B.len cw (zC (pv 0) zD)) (yR (v:=.int 8) (by rfl) p ⟨_,rfl⟩))))))
    (zL (z5 jJ)) yZ)
   (zL (z5 (yS (zBc rfl) (by rfl) B.all fg (zC (qD (N:=["name"]) (caps:=[]) rfl (uS (by kernel_rfl)) (zBV (pv 0))
    (fun o C s H ex=>yB (i:=0) nd2 rfl (Or.inl rfl)) (fun o C s H ex=>qM)
    (fun o C s H ex=>zH d r rfl (zC (pv 0) zD))) zD)))),?_⟩
  refine⟨_,rfl,_,_,_,true,rfl,.tup ha,(by rfl),_,rfl,?_⟩
  refine vA ?_
  refine⟨_,rfl,_,_,rfl,.inr (.of ha),_,_,rfl,rfl,_,rfl,?_⟩
  have hl:(zP bk).length=bk.length:=by simp[zP]
  refine zAA (by rw[hl];omega) ⟨_,_,rfl,rfl,_,rfl,gK (by rw[hl];omega) ?_⟩
  refine⟨_,rfl,_,rfl,⟨_,.of ha⟩,?_⟩
  refine j5 (zBe _ a (zP bk)) [] 1 (by rw[hl];omega) (fun i b j=>zB H j/\b=aH i (.bl true)) ⟨zB.refl H,rfl⟩ (fun i b j _ h=>⟨.of (h.1 _ _ ha),by rw[h.2];simp⟩) ?_ ?_
  ·rintro i y b j ys L u g x ⟨l,rfl⟩
   obtain⟨M,rfl⟩:=ys1 x
   rw[zP,ar]at g
   cases e:bk[i]? with
   |none=>rw[e]at g;cases g
   |some c=>
    rw[e]at g
    have m:y=sv c:=(aB g).symm
    subst m
    exact⟨_,rfl,c,rfl,t c (aY e),fun O n=>u _ _ [some (sv c)] rfl ⟨l.trans n,by rw[ic]⟩⟩
  ·rintro b j ⟨l,rfl⟩ D z
   refine⟨D,aH _ true,rfl,.of (by rw[zE,lD]),?_⟩
   have:(aH (zP bk).length true).all id=true:=by simp
   rw[this]
   exact k _ (l.upd_new (l.free z))
noncomputable def zCR:Sp:=fun vs H Q _=>∃o a b:Nat,vs=[.int o,.int a,.int b]/\a<=o/\o<=b/\Q (.bl true) H
noncomputable abbrev zDg:cJ:=top 14
theorem zOQ:FnScope ["thing","least","most"] ["thing","least","most"] (defScope zDg):=yE
theorem zOR {f:ak}{fd:bc}(F:Fun K "is_whole" "is_whole" zDg f fd)(B:Blt mg)(C:Cst K mg):FnOk P w K mg base z0 1 f fd ["thing","least","most"] zCR:=by
 refine F.ok zOQ (fun vs H Q E h=>?_) (fun c A outer s H vs Q E d h=>?_)
 ·obtain⟨o,a,b,rfl,_⟩:=h;rfl
 ·obtain⟨o,a,b,rfl,g,i,k⟩:=h
  refine⟨_,zR (y0 (PW.pt (zAN (uI (vW (yS zAW (by rfl) B.isinstance cI (zC (pv 0) (zC (zAL (v:=.ty "int") (by rfl) B.int tQ rfl) zD)))))
    (zAM (vW (yS zAW (by rfl) B.isinstance cI (zC (pv 0) (zC (zAL (v:=.ty "bool") (by rfl) B.bool mS rfl) zD)))))))
    (zL (z5 jJ)) yZ)
   (zL (z5 (zLi gG gG (pv 1) (pv 0) (pv 2)))),?_⟩
  refine⟨_,rfl,_,_,_,true,rfl,.int _,(by rfl),_,rfl,?_⟩
  refine vA ?_
  refine⟨_,rfl,_,_,_,false,rfl,.int _,C.ib,_,rfl,?_⟩
  refine vA ?_
  refine⟨_,rfl,_,rfl,_,_,rfl,rfl,_,rfl,?_⟩
  refine zAA (by omega) ⟨_,rfl,_,_,rfl,rfl,?_⟩
  have e:decide ((o:Int)<=b)=true:=decide_eq_true (by omega)
  show Q (.bl (decide ((o:Int)<=b))) H
  rw[e]
  exact k
noncomputable def zHj:Sp:=fun vs H Q _=>∃o:Nat,vs=[.int o]/\1<=o/\o<=3/\Q (.bl true) H
noncomputable abbrev zDh:cJ:=top 15
theorem zOS:FnScope ["thing"] ["thing"] (defScope zDh):=yE
theorem zOT {f:ak}{fd:bc}(F:Fun K "is_order" "is_order" zDh f fd)(C:Cst K mg)(a:zS P w K mg base 1 "is_whole" ["thing","least","most"] zCR):FnOk P w K mg base z0 2 f fd ["thing"] zHj:=by
 obtain⟨i,b⟩:=C.mo
 refine F.ok zOS (fun vs H Q E h=>?_) (fun c A outer s H vs Q E d h=>?_)
 ·obtain⟨o,rfl,_⟩:=h;rfl
 ·obtain⟨o,rfl,e,g,k⟩:=h
  refine⟨_,zL (z5 (zH a d rfl (zC (pv 0) (zC zQ (zC (yR (v:=.int 3) (by rfl) b ⟨_,rfl⟩) zD))))),?_⟩
  exact⟨_,rfl,o,1,3,rfl,e,g,k⟩
noncomputable def zHk:Sp:=fun vs H Q _=>∃(a:ak) (bk:List S),vs=[.ref a]/\H a=some (.tup (zP bk))/\isBk bk/\∀H',zB H H'->Q .non H'
noncomputable abbrev zDi:cJ:=top 17
theorem zOU:FnScope ["thing"] ["thing"] (defScope zDi):=yE
theorem zOV {f:ak}{fd:bc}(F:Fun K "need_book" "need_book" zDi f fd)(b:zS P w K mg base 2 "is_book" ["thing"] zHi):FnOk P w K mg base z0 3 f fd ["thing"] zHk:=by
 refine F.ok zOU (fun vs H Q E h=>?_) (fun c A outer s H vs Q E d h=>?_)
 ·obtain⟨a,bk,rfl,_⟩:=h;rfl
 ·obtain⟨a,bk,rfl,ha,hb,k⟩:=h
  refine⟨_,zL (y0 (uI (vW (zH b d rfl (zC (pv 0) zD)))) (zL zBU) yZ),?_⟩
  exact⟨_,rfl,a,bk,rfl,ha,hb,fun e g=>⟨true,rfl,vA (k e g)⟩⟩
noncomputable def zHl:Sp:=fun vs H Q _=>∃o:Nat,vs=[.int o]/\1<=o/\o<=3/\Q .non H
noncomputable abbrev zDj:cJ:=top 18
theorem zOW:FnScope ["thing"] ["thing"] (defScope zDj):=yE
theorem zOX {f:ak}{fd:bc}(F:Fun K "need_order" "need_order" zDj f fd)(a:zS P w K mg base 2 "is_order" ["thing"] zHj):FnOk P w K mg base z0 3 f fd ["thing"] zHl:=by
 refine F.ok zOW (fun vs H Q E h=>?_) (fun b A outer s H vs Q E c h=>?_)
 ·obtain⟨o,rfl,_⟩:=h;rfl
 ·obtain⟨o,rfl,d,e,k⟩:=h
  refine⟨_,zL (y0 (uI (vW (zH a c rfl (zC (pv 0) zD)))) (zL zBU) yZ),?_⟩
  exact⟨_,rfl,o,rfl,d,e,true,rfl,vA k⟩
noncomputable def zHm:Sp:=fun vs H Q _=>∃x:S,vs=[sv x]/\y9 x/\∀H',zB H H'->Q .non H'
noncomputable abbrev zDk:cJ:=top 20
theorem zOY:FnScope ["thing"] ["thing"] (defScope zDk):=yE
theorem zOZ {f:ak}{fd:bc}(F:Fun K "need_name" "need_name" zDk f fd)(a:zS P w K mg base 1 "is_name" ["thing"] zBg):FnOk P w K mg base z0 2 f fd ["thing"] zHm:=by
 refine F.ok zOY (fun vs H Q E h=>?_) (fun b A outer s H vs Q E c h=>?_)
 ·obtain⟨x,rfl,_⟩:=h;rfl
 ·obtain⟨x,rfl,d,k⟩:=h
  refine⟨_,zL (y0 (uI (vW (zH a c rfl (zC (pv 0) zD)))) (zL zBU) yZ),?_⟩
  exact⟨_,rfl,x,rfl,d,fun e g=>⟨true,rfl,vA (k e g)⟩⟩
end
theorem j9 {a b:S}(h:tx a=tx b):a=b:=by
 have:=congrArg (fun z:Str=>z.cps.toList) h
 simpa [tx]using this
section
variable{α:Type}
noncomputable def zZ (f:α->V)(l:List (S×α)):List (zO×V):=vI (l.map fun p=>(tx p.1,f p.2))
theorem zAY (f:α->V)(p:S×α)(l:List (S×α)):zZ f (p::l)=((Sum.inr (tx p.1):zO),f p.2)::zZ f l:=rfl
theorem qP (f:α->V)(l:List (S×α)):(zZ f l).length=l.length:=by simp[zZ,vI]
theorem zBC {a b:S}:((Sum.inr (tx a):zO)=Sum.inr (tx b))↔a=b:=⟨fun h=>j9 (nv h),fun h=>by rw[h]⟩
theorem jV (f:α->V)(l:List (S×α))(k:S):vR (zZ f l) (Sum.inr (tx k))=(zK l k).map f:=by
 induction l with
 |nil=>rfl
 |cons p r ih=>
  rw[zAY]
  by_cases e:p.1=k
  ·rw[zCB (zBC.mpr e)]
   obtain⟨a,b⟩:=p
   have c:a=k:=e
   subst c
   simp[zK]
  ·rw[zCC (fun z=>e (zBC.mp z)),ih]
   obtain⟨a,b⟩:=p
   have c:¬a=k:=e
   simp[zK,c]
theorem zOa (f:α->V)(l:List (S×α))(k:S):((zZ f l).any fun a=>decide (a.1=(Sum.inr (tx k):zO)))=decide (k∈l.map (·.1)):=by
 induction l with
 |nil=>rfl
 |cons p r ih=>
  rw[zAY,fF,ih]
  by_cases e:p.1=k
  ·have:decide ((Sum.inr (tx p.1):zO)=Sum.inr (tx k))=true:=decide_eq_true (zBC.mpr e)
   rw[this,tj]
   exact(decide_eq_true (by rw[<-e];exact aq ..)).symm
  ·have:decide ((Sum.inr (tx p.1):zO)=Sum.inr (tx k))=false:=decide_eq_false (fun z=>e (zBC.mp z))
   rw[this,lY]
   congr 1
   have b:¬k=p.1:=fun z=>e z.symm
   simp[b]
theorem zBh (f:α->V)(l:List (S×α))(k:S)(v:α)(nd:(l.map (·.1)).Nodup):uK (zZ f l) (Sum.inr (tx k)) (f v)=zZ f (zW l k v):=by
 unfold uK
 rw[zOa]
 by_cases c:k∈l.map (·.1)
 ·rw[if_pos (decide_eq_true c)]
  induction l with
  |nil=>cases c
  |cons p r ih=>
   obtain⟨a,b⟩:=p
   have d:=bx.mp nd
   rw[zAY,aD]
   by_cases e:a=k
   ·subst e
    have e1:zW ((a,b)::r) a v=(a,v)::r:=by simp[zW]
    rw[e1,zAY]
    congr 1
    ·simp
    ·have:∀q∈zZ f r,(if q.1=(Sum.inr (tx a):zO)then(q.1,f v)else q)=q:=fun q h=>by
      rw[if_neg]
      intro z
      obtain⟨s,i,j⟩:=ao.mp h
      obtain⟨s',g,m⟩:=ao.mp i
      have:s.1=tx s'.1:=by rw[<-m]
      have n:q.1=(Sum.inr (tx s'.1):zO):=by rw[<-j,this]
      rw[n]at z
      exact d.1 (ao.mpr ⟨s',g,zBC.mp z⟩)
     have o:=dj this
     rw[o];simp
   ·have e1:zW ((a,b)::r) k v=(a,b)::zW r k v:=by simp[zW,e]
    rw[e1,zAY]
    congr 1
    ·rw[if_neg (fun z=>e (zBC.mp z))]
    ·exact ih d.2 (by
      rcases aL.mp c with z|z
      ·exact absurd z.symm e
      ·exact z)
 ·rw[if_neg (by simpa using c)]
  clear nd
  induction l with
  |nil=>rfl
  |cons p r ih=>
   obtain⟨a,b⟩:=p
   have e:¬a=k:=fun z=>c (by rw[<-z];exact aq ..)
   have e1:zW ((a,b)::r) k v=(a,b)::zW r k v:=by simp[zW,e]
   rw[e1,zAY,zAY,d8,ih fun z=>c (aw _ z)]
theorem zDl {β:Type}(l:List (S×β))(k:S)(v:β):(zW l k v).length<=l.length+1:=by
 induction l with
 |nil=>simp[zW]
 |cons p r ih=>
  obtain⟨a,b⟩:=p
  by_cases e:a=k
  ·simp[zW,e]
  ·simp[zW,e];omega
theorem zDm {β γ:Type}(g:β->γ)(l:List (S×β))(k:S)(v:β):(zW l k v).map (fun p=>(p.1,g p.2))=zW (l.map fun p=>(p.1,g p.2)) k (g v):=by
 induction l with
 |nil=>rfl
 |cons p r ih=>
  obtain⟨a,b⟩:=p
  by_cases e:a=k
  ·simp[zW,e]
  ·simp[zW,e,ih]
theorem zHn {β γ:Type}(g:β->γ)(l:List (S×β))(k:S):zK (l.map fun p=>(p.1,g p.2)) k=(zK l k).map g:=by
 induction l with
 |nil=>rfl
 |cons p r ih=>
  obtain⟨a,b⟩:=p
  by_cases e:a=k
  ·simp[zK,e]
  ·simp[zK,e,ih]
theorem kW {β:Type}{l:List (S×β)}{k:S}{v:β}{q:S×β}(h:q∈zW l k v):q=(k,v)\/(q∈l/\(q.1≠k\/(l.map (·.1)).Nodup->q.1≠k)):=by
 induction l with
 |nil=>simp[zW]at h;exact .inl h
 |cons p r ih=>
  obtain⟨a,b⟩:=p
  by_cases e:a=k
  ·subst e
   have e1:zW ((a,b)::r) a v=(a,v)::r:=by simp[zW]
   rw[e1]at h
   rcases aL.mp h with z|z
   ·exact .inl z
   ·refine .inr ⟨aw _ z,?_⟩
    rintro(w|w)
    ·exact w
    ·intro c
     exact(bx.mp w).1 (by rw[<-c];exact nV (f:=(·.1)) z)
  ·have e1:zW ((a,b)::r) k v=(a,b)::zW r k v:=by simp[zW,e]
   rw[e1]at h
   rcases aL.mp h with z|z
   ·subst z
    exact .inr ⟨aq ..,fun _=>e⟩
   ·rcases ih z with w|⟨w1,w2⟩
    ·exact .inl w
    ·refine .inr ⟨aw _ w1,?_⟩
     rintro(u|u)
     ·exact u
     ·exact w2 (.inr (bx.mp u).2)
theorem zCS {β:Type}(l:List (S×β))(k:S)(v:β)(h:k∉l.map (·.1)):zW l k v=l++[(k,v)]:=by
 induction l with
 |nil=>rfl
 |cons q r ih=>
  obtain⟨a,b⟩:=q
  have e:¬a=k:=fun z=>h (by rw[<-z];exact aq ..)
  have e1:zW ((a,b)::r) k v=(a,b)::zW r k v:=by simp[zW,e]
  rw[e1,ih fun z=>h (aw _ z)];rfl
theorem zDn {β γ:Type}(g:β->γ)(l:List (S×β))(k:S)(v u:β)(h:zK l k=some u)(e:g v=g u):(zW l k v).map (fun p=>(p.1,g p.2))=l.map fun p=>(p.1,g p.2):=by
 induction l with
 |nil=>cases h
 |cons p r ih=>
  obtain⟨a,b⟩:=p
  by_cases c:a=k
  ·have:b=u:=by simpa [zK,c]using h
   subst this
   simp[zW,c,e]
  ·have h':zK r k=some u:=by simpa [zK,c]using h
   simp[zW,c,ih h']
theorem zHo (ps:List (S×S)):(uE ps).length<=ps.length/\∀r∈uE ps,r.2.length<=ps.length:=by
 have key:∀(c:List (S×S)) (rows:List (S×List (S×Int))) (n:Nat),(rows.length<=n/\∀r∈rows,r.2.length<=n)->(c.foldl y8 rows).length<=n+c.length/\∀r∈c.foldl y8 rows,r.2.length<=n+c.length:=by
  intro c
  induction c with
  |nil=>intro rows n h;simpa using h
  |cons q c ih=>
   intro rows n h
   have:=ih (y8 rows q) (n+1) ⟨?_,fun r i=>?_⟩
   ·rw[cC,aM]
    have e:n+(c.length+1)=n+1+c.length:=by omega
    rw[e];exact this
   ·have:=zDl rows q.1 (uT ((zK rows q.1).getD []) q.2)
    unfold y8;omega
   ·rcases kW i with e|⟨e,_⟩
    ·rw[e]
     have j:=zDl ((zK rows q.1).getD []) q.2 ((zK ((zK rows q.1).getD []) q.2).getD 0+1)
     have m:((zK rows q.1).getD []).length<=n:=by
      cases g:zK rows q.1 with
      |none=>simp
      |some row=>
       have l:(q.1,row)∈rows:=by
        clear h i e j
        induction rows with
        |nil=>cases g
        |cons p r d=>
         obtain⟨a,b⟩:=p
         by_cases f:a=q.1
         ·have:b=row:=by simpa [zK,f]using g
          subst this;subst f
          exact aq ..
         ·exact aw _ (d (by simpa [zK,f]using g))
       exact h.2 _ l
     show(uT _ _).length<=_
     unfold uT;omega
    ·have:=h.2 r e;omega
 have:=key ps [] 0 ⟨aC _,by simp⟩
 simpa [uE]using this
end
noncomputable abbrev z9 (row:List (S×Int)):List (zO×V):=zZ V.int row
structure RA (H0 H:Hp) (d:ak) (ps:List (S×S)) (ra:List (S×ak×List (S×Int))):Prop where
 rows:ra.map (fun r=>(r.1,r.2.2))=uE ps
 top:H d=some (.dK (zZ (fun v:ak×List (S×Int)=>V.ref v.1) ra))
 row:∀r∈ra,H r.2.1=some (.dK (z9 r.2.2))
 new:∀r∈ra,H0 r.2.1=none/\r.2.1≠d
 nda:(ra.map fun r=>r.2.1).Nodup
noncomputable def jQ (H:Hp)(d:ak)(ps:List (S×S)):Prop:=∃ra:List (S×ak×List (S×Int)),ra.map (fun r=>(r.1,r.2.2))=uE ps/\H d=some (.dK (zZ (fun v:ak×List (S×Int)=>V.ref v.1) ra))/\∀r∈ra,H r.2.1=some (.dK (z9 r.2.2))
theorem jQ.same {H a:Hp}{d:ak}{ps:List (S×S)}(h:jQ H d ps)(e:zB H a):jQ a d ps:=by
 obtain⟨b,c,f,g⟩:=h
 exact⟨b,c,e _ _ f,fun r i=>e _ _ (g r i)⟩
section
variable{P:aJ}{w:bh}{K:ag}{mg:Str->Option aj}{base:bF}
noncomputable def zCT:Sp:=fun vs H Q _=>∃(a:ak) (bk:List S) (o:Nat),vs=[.ref a,.int o]/\H a=some (.tup (zP bk))/\bk.length<=8/\(∀x∈bk,x.length<=8)/\1<=o/\∀d H',zB H H'->H d=none->jQ H' d (zA o bk)->Q (.ref d) H'
noncomputable abbrev zDo:cJ:=top 23
theorem zHp:FnScope ["book","order","rows","name","end","letter","row"] ["book","order"] (defScope zDo):=yE
theorem zDp {b H:Hp}{d:ak}{ps:List (S×S)}{a:List (S×ak×List (S×Int))}(R:RA b H d ps a):(a.map (·.1)).Nodup:=by
 have h:=(vL ps).nd
 rw[<-R.rows,aV]at h
 exact h
theorem RA.step {s H q:Hp}{d ad:ak}{ps:List (S×S)}{c:List (S×ak×List (S×Int))}(R:RA s H d ps c)(p:S×S)(row:List (S×Int))(n:row=((zK c p.1).map (·.2)).getD [])
  (l:∀v,zK c p.1=some v->v.1=ad) (f:zK c p.1=none->s ad=none/\ad≠d/\ad∉c.map fun r=>r.2.1)
  (A:q ad=some (.dK (z9 (uT row p.2)))) (B:q d=some (.dK (zZ (fun v:ak×List (S×Int)=>V.ref v.1) (zW c p.1 (ad,uT row p.2))))) (C:∀r∈c,r.2.1≠ad->q r.2.1=some (.dK (z9 r.2.2))) :
  RA s q d (ps++[p]) (zW c p.1 (ad,uT row p.2)):=by
 have nd:=zDp R
 have h:∀v,zK c p.1=some v->(p.1,v)∈c:=fun v hv=>(y7 nd p.1 v).mpr hv
 have t:∀r∈c,r.1≠p.1->r.2.1≠ad:=fun r m u e=>by
  cases g:zK c p.1 with
  |none=>exact(f g).2.2 (ao.mpr ⟨r,m,e⟩)
  |some v=>
   have hv:=h v g
   have ev:=l v g
   have:r=(p.1,v):=by
    obtain⟨i,hi,y⟩:=dM m
    obtain⟨j,D,z⟩:=dM hv
    have x:i=j:=by
     refine(eC (xs:=c.map fun r=>r.2.1) (h₀:=by simpa using hi) (h₁:=by simpa using D) R.nda).mp ?_
     rw[fR,fR,y,z]
     show r.2.1=v.1
     rw[e,ev]
    subst x
    rw[<-y,<-z]
   exact u (by rw[this])
 refine⟨?_,B,fun r m=>?_,fun r m=>?_,?_⟩
 ·rw[zNr,<-R.rows]
  unfold y8
  have e:=zDm (fun v:ak×List (S×Int)=>v.2) c p.1 (ad,uT row p.2)
  rw[e]
  have o:=zHn (fun v:ak×List (S×Int)=>v.2) c p.1
  rw[o,<-n]
 ·rcases kW m with e|⟨e,E⟩
  ·rw[e];exact A
  ·exact C r e (t r e (E (.inr nd)))
 ·rcases kW m with e|⟨e,_⟩
  ·rw[e]
   cases g:zK c p.1 with
   |none=>exact⟨(f g).1,(f g).2.1⟩
   |some v=>
    have:=R.new _ (h v g)
    rw[<-l v g];exact this
  ·exact R.new r e
 ·cases g:zK c p.1 with
  |none=>
   have F:p.1∉c.map (·.1):=zHX.mp g
   have e:=zCS c p.1 (ad,uT row p.2) F
   rw[e,aQ]
   refine dQ.mpr ⟨R.nda,by simp,fun a ha b hb o=>?_⟩
   have:b=ad:=by simpa using hb
   exact(f g).2.2 (by rw[<-this,<-o];exact ha)
  |some v=>
   have e:=zDn (fun v:ak×List (S×Int)=>v.1) c p.1 (ad,uT row p.2) v g (l v g).symm
   have o:(zW c p.1 (ad,uT row p.2)).map (fun r=>r.2.1)=c.map fun r=>r.2.1:=by
    have:=congrArg (lE oZ) e
    rw[aV,aV]at this
    exact this
   rw[o];exact R.nda
noncomputable def kX (H H':Hp):Prop:=∀b o,H b=some o->(∀kvs,o≠.dK kvs)->H' b=some o
theorem kX.upd {H:Hp}{a:ak}{kvs:List (zO×V)}{u:HO}(h:H a=some (.dK kvs)):kX H (upd H a u):=fun b o e c=>by
 rw[zG]
 ·exact e
 ·rintro rfl;rw[h]at e;exact c kvs (aB e).symm
theorem kX.sqL {H b:Hp}(e:kX H b){a:ak}{xs:List V}(h:yG K H a xs):yG K b a xs:=by
 rcases h with(h|⟨o,h⟩)|h
 ·exact .inl (.inl (e _ _ h (by intro z w;cases w)))
 ·exact .inl (.inr ⟨o,e _ _ h (by intro z w;cases w)⟩)
 ·exact .inr h
theorem kX.sqT {H b:Hp}(e:kX H b){a:ak}{xs:List V}(h:z7 K H a xs):z7 K b a xs:=by
 rcases h with(h|⟨o,h⟩)|h
 ·exact .inl (.inl (e _ _ h (by intro z w;cases w)))
 ·exact .inl (.inr ⟨o,e _ _ h (by intro z w;cases w)⟩)
 ·exact .inr h
mutual
theorem vO.sameQ {H j:Hp}(e:kX H j):∀(d:d5) (v:V),vO K H d v->vO K j d v
 | .none,v,h=>h
 | .bool b,v,h=>h
 | .int i,v,h=>h
 | .str x,v,h=>h
 | .list ds,v,h=>by
  obtain⟨a,xs,c,f,g⟩:=h
  exact⟨a,xs,c,e.sqL f,Reps.sameQ e ds xs g⟩
 | .tuple ds,v,h=>by
  obtain⟨a,xs,c,f,g⟩:=h
  exact⟨a,xs,c,e.sqT f,Reps.sameQ e ds xs g⟩
 | .dict _,v,h=>h
theorem Reps.sameQ {H a:Hp}(e:kX H a):∀(ds:List d5) (xs:List V),Reps K H ds xs->Reps K a ds xs
 | [],xs,h=>h
 |d::ds,xs,h=>by
  obtain⟨y,ys,b,c,f⟩:=h
  exact⟨y,ys,b,vO.sameQ e d y c,Reps.sameQ e ds ys f⟩
end
theorem zDq {β:Type}(g:β->V)(l:List (S×β))(k:S)(v u:β)(h:zK l k=some u)(e:g v=g u):zZ g (zW l k v)=zZ g l:=by
 have:=zDn g l k v u h e
 unfold zZ
 have a:∀m:List (S×β),m.map (fun p=>(tx p.1,g p.2))=(m.map fun p=>(p.1,g p.2)).map fun q=>(tx q.1,q.2):=fun m=>by rw[aV];rfl
 rw[a,a,this]
theorem zOb {c H:Hp}{d:ak}{ps:List (S×S)}{f:List (S×ak×List (S×Int))}(R:RA c H d ps f){e:S}{v:ak×List (S×Int)}(h:zK f e=some v) :
  H v.1=some (.dK (z9 v.2))/\(v.2.map (·.1)).Nodup/\v.2.length<=ps.length/\c v.1=none/\v.1≠d:=by
 have b:=(y7 (zDp R) e v).mpr h
 have a:(e,v.2)∈uE ps:=by rw[<-R.rows];exact ao.mpr ⟨(e,v),b,rfl⟩
 exact⟨R.row _ b,(vL ps).ndr e v.2 a,(zHo ps).2 _ a,(R.new _ b).1,(R.new _ b).2⟩
theorem zOc {f:ak}{fd:bc}(F:Fun K "counted_rows" "counted_rows" zDo f fd)(ab:zS P w K mg base 2 "ends_and_letters" ["name","order"] (zDc K)):FnOk P w K mg base z0 3 f fd ["book","order"] zCT:=by
 refine F.ok zHp (fun vs H Q E h=>?_) (fun b5 A outer s H vs Q E m h=>?_)
 ·obtain⟨a,bk,o,rfl,_⟩:=h;rfl
 ·obtain⟨a,bk,o,rfl,ha,b6,as,ho,k⟩:=h
  have hu:=gJ m
  have nd:=zHp.nd
  refine⟨_,zR (yC (i:=2) nd rfl (Or.inl rfl) zAu)
   (zR (vX bE rfl (zBV (pv 0)) (yB (i:=3) nd rfl (Or.inl rfl))
    (zL (vX bE rfl (qY (zH ab m rfl (zC (pv 3) (zC (pv 1) zD))))
     (gE rfl (yW (yB (i:=4) nd rfl (Or.inl rfl)) (yW (yB (i:=5) nd rfl (Or.inl rfl)) qA)))
     (zR (yC (i:=6) nd rfl (Or.inl rfl) (jM bL gi ka zHF (pv 2) (zC (pv 4) (zC zAu zD))))
      (zL (zCF hu (pv 6) (pv 5) (zV y6 (zCG hu (pv 6) (pv 5) zQ ⟨rfl,rfl,rfl,rfl⟩) zQ) rfl))))))
   (zL (z5 (pv 2)))),?_⟩
  intro d hd
  have s1:zB H (upd H d (.dK [])):=zB.upd1 hd
  refine⟨_,rfl,a,rfl,⟨_,.of (s1 _ _ ha)⟩,?_⟩
  refine qN (zBe K a (zP bk)) (fun i σ H'=>(∃x y z u:Option V,σ=[some (.ref a),some (.int o),some (.ref d),x,y,z,u])/\zB H H'/\∃T,RA H H' d (zA o (bk.take i)) T)
   ⟨⟨_,_,_,_,rfl⟩,s1,[],⟨rfl,zE,by simp,by simp,by simp⟩⟩ (fun i σ H' _ h=>.of (h.2.1 _ _ ha)) ?_ ?_
  ·rintro i x σ H' Nx hN hx ⟨⟨x1,x2,x3,x4,rfl⟩,sm,T,R⟩
   rw[zP,ar]at hx
   cases e:bk[i]? with
   |none=>rw[e]at hx;cases hx
   |some nm=>
   rw[e]at hx
   have a2:x=sv nm:=(aB hx).symm
   subst a2
   have b7:=as nm (aY e)
   have hi:i<bk.length:=(ah.mp e).1
   have ac:bk.take (i+1)=bk.take i++[nm]:=by
    rw[aA hi]
    have:=(ah.mp e).2
    rw[this]
   have n:zA o (bk.take (i+1))=zA o (bk.take i)++yL o nm:=by
    rw[ac,zNt];simp[zA]
   have a3:((zA o (bk.take (i+1))).length:Int)<=100:=by
    rw[zCN]
    have go:∀l:List S,(∀x∈l,x.length<=8)->(l.map fun x=>(x.length:Int)+1).sum<=9*(l.length:Int):=by
     intro l
     induction l with
     |nil=>intro _;simp
     |cons x r ih=>
      intro hl
      have h1:=hl x (aq ..)
      have h2:=ih fun y hy=>hl y (aw _ hy)
      rw[aD,aT,aM]
      have:((r.length+1:Nat):Int)=(r.length:Int)+1:=rfl
      omega
    have:=go (bk.take (i+1)) fun x hx=>as x (da hx)
    have h3:(bk.take (i+1)).length<=8:=by rw[aZ];omega
    omega
   refine⟨_,rfl,_,rfl,nm,o,rfl,ho,by omega,fun l xs Hl sml a4 U rp=>?_⟩
   refine⟨l,rfl,⟨_,.of U⟩,?_⟩
   have R1:RA H Hl d (zA o (bk.take i)) T:=⟨R.rows,sml _ _ R.top,fun r m=>sml _ _ (R.row r m),R.new,R.nda⟩
   have b9:H l=none:=sm.free a4
   have a5:l≠d:=zBv U (sml _ _ R.top) (by intro z;cases z)
   refine qN (q8 K l xs) (fun j σ q=>(∃y z u:Option V,σ=[some (.ref a),some (.int o),some (.ref d),some (sv nm),y,z,u])/\zB H q/\q l=some (.lst xs)/\Reps K q ((yL o nm).map elD) xs/\∃T,RA H q d (zA o (bk.take i)++(yL o nm).take j) T/\∀r∈T,r.2.1≠l)
    ⟨⟨_,_,_,rfl⟩,sm.trans sml,U,rp,T,by simpa using R1,fun r m=>zBv (R1.row r m) U (by intro z;cases z)⟩ (fun j σ q _ h=>.of h.2.2.1) ?_ ?_
   ·rintro j x σ q al a6 hx2 ⟨⟨y,z,u,rfl⟩,C,hl2,D,b,R2,a7⟩
    obtain⟨dd,G,rx⟩:=D.get hx2
    rw[ar]at G
    cases ep:(yL o nm)[j]? with
    |none=>rw[ep]at G;cases G
    |some p=>
    rw[ep]at G
    have a8:dd=elD p:=(aB G).symm
    subst a8
    obtain⟨a9,ca,rfl,ba,y1,b3,rfl,bb,y2,ax,rfl,be,aK⟩:=rx
    have bi:y1=sv p.1:=bb
    have bl:y2=sv p.2:=be
    have en:ax=[]:=aK
    subst bi bl en
    have hj:j<(yL o nm).length:=(ah.mp ep).1
    have aN:zA o (bk.take i)++(yL o nm).take (j+1)=(zA o (bk.take i)++(yL o nm).take j)++[p]:=by
     rw[aA hj,(ah.mp ep).2,dO]
    generalize bm:zA o (bk.take i)++(yL o nm).take j=ps at R2 aN
    have cb:ps.length<=100:=by
     have h1:ps.length<=(zA o (bk.take (i+1))).length:=by
      rw[<-bm,n,ay,ay,aZ];omega
     omega
    have b4:b.length<=100:=by
     have h1:=(zHo ps).1
     rw[<-R2.rows,ai]at h1
     omega
    refine⟨a9,[sv p.1,sv p.2],rfl,ba,rfl,_,_,rfl,_,_,rfl,rfl,?_⟩
    refine⟨_,rfl,.inr (.inr (.inl ⟨rfl,.inl ⟨_,R2.top⟩⟩)),_,rfl,fun t W=>?_⟩
    have Z:H t=none:=C.free W
    have X:d≠t:=yK R2.top W
    have s3:zB q (upd q t (.dK [])):=zB.upd1 W
    have fin:∀(ad:ak) (row:List (S×Int)) (I:Hp),I ad=some (.dK (z9 row))->(row.map (·.1)).Nodup->row.length<=100->(∀J,J=upd I ad (.dK (z9 (uT row p.2)))->al [some (.ref a),some (.int o),some (.ref d),some (sv nm),some (sv p.1),some (sv p.2),some (.ref ad)] J)->
      zGa (zAk 6) (zAk 5) (tOp (gZ fun i j=>V.int (i+j)) (zGe (zAk 6) (zAk 5) (tC (.int 0))) (tC (.int 1))) {nx:=al,rt:=Q,bk:=fun _ _=>False,ct:=fun _ _=>False} [some (.ref a),some (.int o),some (.ref d),some (sv nm),some (sv p.1),some (sv p.2),some (.ref ad)] I:=by
     intro ad row I c bn cd hq
     refine⟨_,rfl,ad,rfl,.inl ⟨_,.inl c⟩,_,rfl,_,vH.k (k:=Sum.inr (tx p.2)) c,(zK row p.2).getD 0,1,?_,rfl,?_⟩
     ·rw[jV]
      cases zK row p.2<;>rfl
     ·refine⟨_,rfl,_,rfl,ad,_,rfl,g7.k (k:=Sum.inr (tx p.2)) c (by rw[qP,aI];omega),hq _ ?_⟩
      rw[zBh V.int row p.2 _ bn]
      rfl
    have B:∀(ad:ak) (row:List (S×Int)) (I J:Hp),zB H I->H ad=none->I l=some (.lst xs)->Reps K I ((yL o nm).map elD) xs->J=upd I ad (.dK (z9 (uT row p.2)))->I ad=some (.dK (z9 row))->RA H J d (ps++[p]) (zW b p.1 (ad,uT row p.2))->
      al [some (.ref a),some (.int o),some (.ref d),some (sv nm),some (sv p.1),some (sv p.2),some (.ref ad)] J:=by
     intro ad row I J sx bq Y bv L c RR
     have aa:ad≠l:=zBv c Y (by intro z;cases z)
     subst L
     refine a6 _ _ ⟨⟨_,_,_,rfl⟩,sx.upd_new bq,by rw[zG aa.symm];exact Y,Reps.sameQ (kX.upd c) _ _ bv,_,by rw[aN];exact RR,fun r m=>?_⟩
     rcases kW m with e|⟨e,_⟩
     ·rw[e];exact aa
     ·exact a7 r e
    have am:upd q t (.dK []) d=some (.dK (zZ (fun v:ak×List (S×Int)=>V.ref v.1) b)):=by rw[zG X];exact R2.top
    have aW:upd q t (.dK []) l=some (.lst xs):=s3 _ _ hl2
    have a0:∀r∈b,upd q t (.dK []) r.2.1=some (.dK (z9 r.2.2)):=fun r m=>s3 _ _ (R2.row r m)
    have b1:∀r∈b,r.2.1≠t:=fun r m=>yK (R2.row r m) W
    refine⟨d,_,Sum.inr (tx p.1),_,rfl,rfl,am,by rw[qP,aI];omega,fun yv M=>?_,fun an=>?_⟩
    ·
     rw[jV]at M
     cases g:zK b p.1 with
     |none=>rw[g]at M;cases M
     |some v=>
     rw[g]at M
     have ev:yv=.ref v.1:=(aB M).symm
     subst ev
     obtain⟨r1,r2,r3,r4,r5⟩:=zOb R2 g
     have N:upd q t (.dK []) v.1=some (.dK (z9 v.2)):=s3 _ _ r1
     refine fin v.1 v.2 _ N r2 (by omega) fun J L=>B v.1 v.2 _ J (C.trans s3) r4 aW (Reps.same s3 _ _ D) L N ?_
     refine R2.step p v.2 (by rw[g];rfl) (fun v' O=>by rw[g]at O;rw[aB O]) (fun hn=>by rw[g]at hn;cases hn) (by rw[L,zE]) ?_ fun r m ap=>?_
     ·rw[L,zG r5.symm,am]
      have:=zDq (fun v:ak×List (S×Int)=>V.ref v.1) b p.1 (v.1,uT v.2 p.2) v g rfl
      rw[this]
     ·rw[L,zG ap];exact a0 r m
    ·
     rw[jV]at an
     have g:zK b p.1=none:=by
      cases g:zK b p.1 with
      |none=>rfl
      |some v=>rw[g]at an;cases an
     have b2:=zBh (fun v:ak×List (S×Int)=>V.ref v.1) b p.1 (t,[]) (zDp R2)
     have a1:upd (upd q t (.dK [])) d (.dK (uK (zZ (fun v:ak×List (S×Int)=>V.ref v.1) b) (Sum.inr (tx p.1)) (.ref t))) t=some (.dK (z9 [])):=by
      rw[zG X.symm,zE];rfl
     refine fin t [] _ a1 (by simp) (by simp) fun J L=>B t [] _ J ((C.trans s3).upd_new hd) Z (by rw[zG a5];exact aW) (Reps.sameQ (kX.upd am) _ _ (Reps.same s3 _ _ D)) L a1 ?_
     refine R2.step p [] (by rw[g];rfl) (fun v' O=>by rw[g]at O;cases O) (fun _=>⟨Z,X.symm,fun hm=>?_⟩) (by rw[L,zE]) ?_ fun r m ap=>?_
     ·obtain⟨r,m,e⟩:=ao.mp hm
      exact b1 r m e
     ·rw[L,zG X,zE,b2]
      congr 2
      have hk:p.1∉b.map (·.1):=zHX.mp g
      rw[zCS _ _ _ hk,zCS _ _ _ hk]
      unfold zZ vI
      rw[aQ,aQ,aQ,aQ]
      rfl
     ·rw[L,zG ap,zG (R2.new r m).2];exact a0 r m
   ·rintro σ q ⟨⟨y,z,u,rfl⟩,C,hl2,D,b,R2,_⟩
    refine hN _ _ ⟨⟨_,_,_,_,rfl⟩,C,b,?_⟩
    rw[n]
    have Y:xs.length=(yL o nm).length:=by have:=D.length;simpa using this.symm
    rw[Y,bo]at R2
    exact R2
  ·rintro σ H' ⟨⟨x1,x2,x3,x4,rfl⟩,sm,T,R⟩
   refine⟨_,rfl,k d H' sm hd ⟨T,?_,R.top,R.row⟩⟩
   rw[R.rows]
   have:(zP bk).length=bk.length:=by simp[zP]
   rw[this,bo]
theorem zOd {a b:Int}(ha:0<=a)(hb:0<b):jl b (a%b)=jl a b:=by
 obtain⟨x,rfl⟩:=bQ ha
 obtain⟨y,rfl⟩:=bQ (bD hb)
 have e:((x:Int)%(y:Int))=((x%y:Nat):Int):=rfl
 rw[e]
 show tG y (x%y)=tG x y
 rw[mR y (x%y),<-Nat.gcd_rec,mR]
noncomputable def zDr:Sp:=fun vs H Q _=>∃u d:Int,vs=[.int u,.int d]/\0<=u/\0<d/\d<1073741824/\Q (.int (yM u d)) H
noncomputable abbrev zDs:cJ:=top 27
theorem zHq:FnScope ["one","other","rest"] ["one","other"] (defScope zDs):=yE
noncomputable abbrev jW (q:Int×Int):HO:=.tup [.int q.1,.int q.2]
noncomputable def zDt:Sp:=fun vs H Q _=>∃u d:Int,vs=[.int u,.int d]/\0<=u/\0<d/\d<1073741824/\∀p,H p=none->Q (.ref p) (upd H p (jW (low u d)))
noncomputable abbrev zDu:cJ:=top 28
theorem zHr:FnScope ["up","down","divisor"] ["up","down"] (defScope zDu):=yE
noncomputable def z8 (K:ag)(H:Hp)(v:V)(q:Int×Int):Prop:=∃a,v=.ref a/\z7 K H a [.int q.1,.int q.2]
theorem z8.same {H b:Hp}{v:V}{q:Int×Int}(h:z8 K H v q)(e:zB H b):z8 K b v q:=by
 obtain⟨a,c,d⟩:=h
 exact⟨a,c,e.seqT d⟩
theorem z8.new {H:Hp}{p:ak}{q:Int×Int}:z8 K (upd H p (jW q)) (.ref p) q:=⟨p,rfl,.of zE⟩
theorem z8.rep {H:Hp}{v:V}{q:Int×Int}(h:z8 K H v q):vO K H (.tuple [.int q.1,.int q.2]) v:=by
 obtain⟨a,b,c⟩:=h
 exact⟨a,_,b,c,_,_,rfl,rfl,_,_,rfl,rfl,rfl⟩
theorem z8.of_rep {H:Hp}{v:V}{q:Int×Int}(h:vO K H (.tuple [.int q.1,.int q.2]) v):z8 K H v q:=by
 obtain⟨a,xs,b,c,y,ys,rfl,d,z,e,rfl,f,g⟩:=h
 have e1:y=.int q.1:=d
 have i:z=.int q.2:=f
 have j:e=[]:=g
 subst e1 i j
 exact⟨a,b,c⟩
noncomputable abbrev zDv:cJ:=top 29
noncomputable abbrev zDw:cJ:=top 30
noncomputable abbrev zDx:cJ:=top 32
theorem zOe:FnScope ["one","other"] ["one","other"] (defScope zDv):=yE
theorem zOf:FnScope ["one","other"] ["one","other"] (defScope zDw):=yE
theorem zOg:FnScope ["one","other"] ["one","other"] (defScope zDx):=yE
theorem cm {p:Int}(a:0<=p)(b:p<1073741824)(q:Int):zBW p q:=.inl ⟨by omega,by omega⟩
end
theorem zOh {ps:List (S×S)}{e:S}{xs:List (S×Int)}(nd:(xs.map (·.1)).Nodup)(mem:∀l n,(l,n)∈xs↔n=(ps.count (e,l):Int)/\0<n):(xs.map (·.2)).sum=(tot ps e:Int):=by
 have h:=zHY (ps.filter fun p=>decide (p.1=e)) (xs.map fun p=>(e,p.1)) ?_ ?_
 ·unfold tot
  rw[<-h,aV]
  congr 1
  apply dj
  rintro⟨l,n⟩ a
  have:=((mem l n).mp a).1
  show n=(lB (e,l) (ps.filter fun p=>decide (p.1=e)):Int)
  rw[oX (by simp)]
  exact this
 ·have:=nd
  rw[dm,bB]at this⊢
  exact this.imp fun{p q} b z=>b (congrArg oZ z)
 ·rintro⟨d,l⟩ a
  obtain⟨f,g⟩:=aG.mp a
  have c:d=e:=by simpa using g
  subst c
  exact ao.mpr ⟨(l,(ps.count (d,l):Int)),(mem l _).mpr ⟨rfl,by
   have:=dA.mpr f
   omega⟩,rfl⟩
noncomputable def vF (ps:List (S×S))(e:S):List (S×Int):=(zK (uE ps) e).getD []
theorem zAZ (ps:List (S×S))(e:S):((vF ps e).map (·.1)).Nodup:=by
 unfold vF
 cases g:zK (uE ps) e with
 |none=>simp
 |some row=>exact(vL ps).ndr e row ((y7 (vL ps).nd e row).mpr g)
theorem zDy (ps:List (S×S))(e l:S):zK (vF ps e) l=if 0<ps.count (e,l)then some (ps.count (e,l):Int)else none:=(vL ps).val e l
theorem zDz (ps:List (S×S))(e l:S)(n:Int):(l,n)∈vF ps e↔n=(ps.count (e,l):Int)/\0<n:=by
 rw[y7 (zAZ ps e),zDy]
 by_cases c:0<ps.count (e,l)
 ·rw[if_pos c]
  constructor
  ·intro z
   have:=aB z
   omega
  ·rintro⟨z,_⟩;rw[z]
 ·rw[if_neg c]
  constructor
  ·intro z;cases z
  ·rintro⟨a,b⟩;omega
theorem zHs (ps:List (S×S))(e:S):((vF ps e).map (·.2)).sum=(tot ps e:Int):=zOh (zAZ ps e) (zDz ps e)
theorem tot_le (ps:List (S×S))(e:S):tot ps e<=ps.length:=dq ..
structure Cst2 (K:ag) (mg:Str->Option aj):Prop where
 nought:∃a,mg "NOUGHT"=some (.ref a)/\∀H,z7 K H a [.int 0,.int 1]
 whole:∃a,mg "WHOLE"=some (.ref a)/\∀H,z7 K H a [.int 1,.int 1]
section
variable{P:aJ}{w:bh}{K:ag}{mg:Str->Option aj}{base:bF}
noncomputable def zEA (K:ag):Sp:=fun vs H Q _=>∃(d:ak) (ps:List (S×S)) (e l:S),vs=[.ref d,sv l]/\H d=some (.dK (z9 (vF ps e)))/\ps.length<1000/\∀v H',zB H H'->z8 K H' v (zF ps e l)->Q v H'
noncomputable abbrev zEB:cJ:=top 33
theorem zOi:FnScope ["row","letter"] ["row","letter"] (defScope zEB):=yE
theorem zAD {X:Cx}(c:ag){pos:Pos}{a:List bS}{k:Nat}{t:gY}(n:Nat)(d:X.K=c)(e:X.calm=true)(h:PGs X a t)
  (f:(assignEach a X.env).length=n) (b:(assignEach a X.env).findIdx? (·.1)=none):PG X (.Tuple a k pos) (zFn c n t):=by
 subst d
 exact gE e h f b
noncomputable def frD (q:Int×Int):d5:=.tuple [.int q.1,.int q.2]
noncomputable def stD (ps:List (S×S))(p:S×S):d5:=.tuple [.str (tx p.1),.str (tx p.2),frD (zF ps p.1 p.2)]
noncomputable def zHt (K:ag):Sp:=fun vs H Q _=>∃(d:ak) (ps:List (S×S)) (o:Nat) (nm:S),vs=[.ref d,.int o,sv nm]/\jQ H d ps/\ps.length<1000/\1<=o/\nm.length<=64/\
 ∀a xs H',zB H H'->H a=none->H' a=some (.lst xs)->Reps K H' ((yL o nm).map (stD ps)) xs->Q (.ref a) H'
noncomputable abbrev zEC:cJ:=top 34
theorem zOj:FnScope ["rows","order","name"] ["rows","order","name"] (defScope zEC):=yE
theorem nd3:(["rows","end","letter"]:List Str).Nodup:=by decide+kernel
theorem jQ.get {H:Hp}{d:ak}{ps:List (S×S)}(h:jQ H d ps)(e:S):∃kvs:List (zO×V),H d=some (.dK kvs)/\((vR kvs (Sum.inr (tx e))=none/\vF ps e=[])\/∃a,vR kvs (Sum.inr (tx e))=some (.ref a)/\H a=some (.dK (z9 (vF ps e)))):=by
 obtain⟨b,c,i,j⟩:=h
 refine⟨_,i,?_⟩
 rw[jV]
 have nd:(b.map (·.1)).Nodup:=by
  have h:=(vL ps).nd
  rw[<-c,aV]at h
  exact h
 have f:zK (uE ps) e=(zK b e).map (·.2):=by
  rw[<-c]
  exact zHn (fun v:ak×List (S×Int)=>v.2) b e
 cases g:zK b e with
 |none=>exact .inl ⟨rfl,by unfold vF;rw[f,g];rfl⟩
 |some v=>
  refine .inr ⟨v.1,rfl,?_⟩
  have:=j _ ((y7 nd e v).mpr g)
  unfold vF
  rw[f,g]
  exact this
theorem zBD (o:Nat)(nm:S):(yL o nm).length=nm.length+1:=by simp[yL]
theorem zOk {H:Hp}{o:Nat}{nm:S}{xs:List V}{i:Nat}{x:V}(q:Reps K H ((yL o nm).map elD) xs)(r:xs[i]?=some x):∃(p:S×S) (a:ak),(yL o nm)[i]?=some p/\x=.ref a/\z7 K H a [sv p.1,sv p.2]:=by
 obtain⟨s,b,t⟩:=q.get r
 rw[ar]at b
 cases ep:(yL o nm)[i]? with
 |none=>rw[ep]at b;cases b
 |some p=>
 rw[ep]at b
 have e:s=elD p:=(aB b).symm
 subst e
 obtain⟨f,u,rfl,g,v,n,rfl,h,y,c,rfl,j,d⟩:=t
 have l:v=sv p.1:=h
 have m:y=sv p.2:=j
 have z:c=[]:=d
 subst l m z
 exact⟨p,f,rfl,rfl,g⟩
theorem zOl {f:ak}{fd:bc}(F:Fun K "steps_by_rows" "steps_by_rows" zEC f fd)(r:zS P w K mg base 2 "ends_and_letters" ["name","order"] (zDc K))(t:zS P w K mg base 3 "part_in" ["row","letter"] (zEA K)) :
  FnOk P w K mg base z0 4 f fd ["rows","order","name"] (zHt K):=by
 refine F.ok zOj (fun vs H Q E h=>?_) (fun ab A outer s H vs Q E U h=>?_)
 ·obtain⟨d,ps,o,nm,rfl,_⟩:=h;rfl
 ·obtain⟨d,ps,o,nm,rfl,hR,L,ho,hl,k⟩:=h
  have hu:=gJ U
  have hr2:=U.mono (j:=2) (by decide)
  refine⟨_,zL (z5 (qD (N:=["rows","end","letter"]) (caps:=[0]) rfl (uS (by kernel_rfl))
   (qY (zH r hr2 rfl (zC (pv 2) (zC (pv 1) zD))))
   (fun cl C s H ex=>zAD K 2 rfl rfl (yW (yB (i:=1) nd3 rfl (Or.inl rfl)) (yW (yB (i:=2) nd3 rfl (Or.inl rfl)) qA)) rfl rfl)
   (fun cl C s H ex=>qM)
   (fun cl C s H ex=>uA (zC (pv 1) (zC (pv 2) (zC (zH t U rfl (zC (zCG hu (pv 0) (pv 1) zAu ⟨rfl,rfl,rfl,rfl⟩) (zC (pv 2) zD))) zD)))))),?_⟩
  refine⟨_,rfl,_,rfl,nm,o,rfl,ho,hl,fun l xs Hl sml ac M rp=>?_⟩
  refine⟨l,rfl,⟨_,.of M⟩,?_⟩
  have W:xs.length=nm.length+1:=by have:=rp.length;rw[<-this,ai,zBD]
  refine j5 (q8 K l xs) [some (.ref d)] 2 (by omega) (fun i a c=>zB Hl c/\a.length=i/\Reps K c (((yL o nm).take i).map (stD ps)) a)
   ⟨zB.refl _,rfl,rfl⟩ (fun i a c _ h=>⟨.of (h.1 _ _ M),fz h.2.1⟩) ?_ ?_
  ·rintro i x a c ys Nx hN hx hy ⟨O,R,m⟩
   obtain⟨y,z,rfl⟩:=ys2 hy
   obtain⟨p,X,ep,rfl,Y⟩:=zOk (Reps.same O _ _ rp) hx
   have hj:i<(yL o nm).length:=(ah.mp ep).1
   refine⟨X,[sv p.1,sv p.2],rfl,Y,rfl,_,_,rfl,_,_,rfl,rfl,?_⟩
   have R':jQ c d ps:=(hR.same sml).same O
   obtain⟨kvs,hd,hv⟩:=R'.get p.1
   refine⟨_,rfl,_,rfl,_,rfl,d,rfl,.inl ⟨_,.inl hd⟩,_,rfl,fun n Z=>?_⟩
   have T:zB c (upd c n (.dK [])):=zB.upd1 Z
   have fin:∀(u:ak),upd c n (.dK []) u=some (.dK (z9 (vF ps p.1)))->∀v,v=V.ref u->(∀(B:V) (q:Hp),zB (upd c n (.dK [])) q->z8 K q B (zF ps p.1 p.2)->∀pp,q pp=none->Nx (a++[.ref pp]) [some (.ref d),some (sv p.1),some (sv p.2)] (upd q pp (.tup [sv p.1,sv p.2,B]))):=by
    intro u e v al B q J fr pp b
    refine hN _ _ [some (sv p.1),some (sv p.2)] rfl ⟨((O.trans T).trans J).trans (zB.upd1 b),by rw[ay,R];rfl,?_⟩
    rw[aA hj,(ah.mp ep).2,aQ]
    refine Reps.append (Reps.same ((T.trans J).trans (zB.upd1 b)) _ _ m) (Reps.one ⟨pp,_,rfl,.of zE,?_⟩)
    exact⟨_,_,rfl,rfl,_,_,rfl,rfl,_,_,rfl,(fr.same (zB.upd1 b)).rep,rfl⟩
   have aa:upd c n (.dK []) d=some (.dK kvs):=T _ _ hd
   refine⟨_,vH.k (k:=Sum.inr (tx p.1)) aa,_,rfl,?_⟩
   rcases hv with⟨G,I⟩|⟨u,G,I⟩
   ·rw[G]
    have e:upd c n (.dK []) n=some (.dK (z9 (vF ps p.1))):=by rw[zE,I];rfl
    exact⟨n,ps,p.1,p.2,rfl,e,L,fun v q J fr=>⟨by show 3<=sizeLine;decide,fun pp b=>fin n e _ rfl v q J fr pp b⟩⟩
   ·rw[G]
    have e:upd c n (.dK []) u=some (.dK (z9 (vF ps p.1))):=T _ _ I
    exact⟨u,ps,p.1,p.2,rfl,e,L,fun v q J fr=>⟨by show 3<=sizeLine;decide,fun pp b=>fin u e _ rfl v q J fr pp b⟩⟩
  ·rintro a c ⟨O,R,m⟩ D hD
   have g:=sml.trans O
   refine k D a _ (g.upd_new (g.free hD)) (g.free hD) zE (Reps.same (zB.upd1 hD) _ _ ?_)
   have e1:(yL o nm).take xs.length=yL o nm:=by rw[W,<-zBD o nm,bo]
   rw[e1]at m
   exact m
end
theorem zOm {ps:List (S×S)}(b:1<=ps.length)(a:List (S×S)):(qO ps a).2<=((ps.length^a.length:Nat):Int):=by
 have:=zHh b a (1,1) 0 zBB (by simp)
 rw[sX]at this
 rw[Int.natCast_pow]
 exact this
theorem zOn (ps a:List (S×S)):Fq (qO ps a):=zHd ps a _ zBB
theorem zOo (ps a:List (S×S)):(qO ps a).1<=(qO ps a).2:=zHe ps a _ zBB (by decide)
theorem zOp (ps a:List (S×S))(p:S×S):qO ps (a++[p])=vJ (qO ps a) (zF ps p.1 p.2):=by
 unfold qO;rw[dw];rfl
section
variable{P:aJ}{w:bh}{K:ag}{mg:Str->Option aj}{base:bF}
theorem zOq {H:Hp}{ps:List (S×S)}{e:List (S×S)}{xs:List V}{i:Nat}{x:V}(s:Reps K H (e.map (stD ps)) xs)(t:xs[i]?=some x):∃(p:S×S) (a:ak) (v:V),e[i]?=some p/\x=.ref a/\z7 K H a [sv p.1,sv p.2,v]/\z8 K H v (zF ps p.1 p.2):=by
 obtain⟨u,b,y⟩:=s.get t
 rw[ar]at b
 cases ep:e[i]? with
 |none=>rw[ep]at b;cases b
 |some p=>
 rw[ep]at b
 have f:u=stD ps p:=(aB b).symm
 subst f
 obtain⟨g,z,rfl,h,A,q,rfl,j,B,r,rfl,l,C,c,rfl,m,d⟩:=y
 have n:A=sv p.1:=j
 have o:B=sv p.2:=l
 have D:c=[]:=d
 subst n o D
 exact⟨p,g,C,rfl,rfl,h,z8.of_rep m⟩
noncomputable abbrev zED:cJ:=top 35
theorem zHu:FnScope ["rows","order","name","product","step"] ["rows","order","name"] (defScope zED):=yE
structure Bk (bk:List S) (o:Nat):Prop extends isBk bk where
 o1:1<=o
 o3:o<=3
theorem Bk.l8 {bk:List S}{o:Nat}(h:Bk bk o):∀x∈bk,x.length<=8:=fun x a=>(h.nm x a).2.1
theorem zBi {bk:List S}{o:Nat}(h:Bk bk o):1<=(zA o bk).length/\(zA o bk).length<1000:=by
 have e:=zCN o bk
 have go:∀l:List S,(∀x∈l,x.length<=8)->(l.length:Int)<=(l.map fun x=>(x.length:Int)+1).sum/\(l.map fun x=>(x.length:Int)+1).sum<=9*(l.length:Int):=by
  intro l
  induction l with
  |nil=>intro _;simp
  |cons x r ih=>
   intro hl
   have a:=hl x (aq ..)
   have b:=ih fun y c=>hl y (aw _ c)
   rw[aD,aT,aM]
   have:((r.length+1:Nat):Int)=(r.length:Int)+1:=rfl
   omega
 have:=go bk h.l8
 have a:=h.lo
 have b:=h.hi
 omega
noncomputable abbrev zEE:cJ:=top 36
theorem zOr:FnScope ["book","order","name"] ["book","order","name"] (defScope zEE):=yE
structure Needs (P:aJ) (w:bh) (K:ag) (mg:Str->Option aj) (base:bF):Prop where
 bk:zS P w K mg base 3 "need_book" ["thing"] zHk
 od:zS P w K mg base 3 "need_order" ["thing"] zHl
 nm:zS P w K mg base 2 "need_name" ["thing"] zHm
 rows:zS P w K mg base 3 "counted_rows" ["book","order"] zCT
end
theorem zOs (x:Str):tx x.cps.toList=x:=by
 apply MyS.Str_ext
 simp[tx]
section
variable{P:aJ}{w:bh}{K:ag}{mg:Str->Option aj}{base:bF}
theorem zAE {X:Cx}(e:ag)(f:X.K=e){o:bS}{to:TE}{name:Str}{apos a:Pos}{T id:String}{r:V->List V->Hp->VK->Prop}(g:qv T)(slot:Slot T name id)(d:typeOf (.builtin id)=pure (.type "method_descriptor"))(h:MtR X id r)(i:PE X o to)
  (b:attributeBase o name X.env (eval o X.env)=eval o X.env:=by rfl) (c:(apos.endLine==a.line)=true:=by rfl):PE X (.Call (.Attribute o name apos) [] [] a) (zGR e T r to):=by
 subst f
 exact zMP g slot d h i b c
end
theorem zEF {c A B:Prop} [Decidable c] (a:¬c)(h:A):if(!decide c)=true then A else B:=by
 rw[decide_eq_false a];exact h
section
variable{P:aJ}{w:bh}{K:ag}{mg:Str->Option aj}{base:bF}
theorem zHv {H:Hp}:∀ns:List Int,Reps K H (ns.map PyData.int) (ns.map V.int)
 | []=>rfl
 |n::ns=>⟨_,_,rfl,rfl,zHv ns⟩
theorem zHw:∀ns:List Int,dP (ns.map PyData.int)=true
 | []=>rfl
 |n::ns=>by rw[aD];simp only[dP,eJ,zHw ns,ma]
noncomputable def zHx (K:ag):Sp:=fun vs H Q _=>∃(a:ak) (ns:List Int) (k:Nat),vs=[.ref a,.int k]/\yG K H a (ns.map V.int)/\ns.length<=63/\∀(i:Int) H',zB H H'->Q (.int i) H'
noncomputable abbrev zEG:cJ:=top 78
theorem zOt:FnScope ["_law_script","_law_k"] ["_law_script","_law_k"] (defScope zEG):=yE
theorem zOu (ns:List Int):ip (.list (ns.map PyData.int))=true:=by
 unfold ip
 have a:(PyData.list (ns.map PyData.int)).canLay0=true:=by simp only[eJ];exact zHw ns
 have b:(PyData.list (ns.map PyData.int)).depth<=64:=by
  have go:∀ns:List Int,kb (ns.map PyData.int)<=1:=by
   intro ns
   induction ns with
   |nil=>decide
   |cons n ns ih=>rw[aD];simp only[kb,iY];omega
  have:=go ns
  simp only[iY];omega
 rw[a,decide_eq_true b];rfl
theorem zOv {f:ak}{fd:bc}(F:Fun K "_law_cell" "_law_cell" zEG f fd)(B:Blt mg):FnOk P w K mg base z0 1 f fd ["_law_script","_law_k"] (zHx K):=by
 refine F.ok zOt (fun vs H Q E h=>?_) (fun e A outer s H vs Q E g h=>?_)
 ·obtain⟨a,ns,k,rfl,_⟩:=h;rfl
 ·obtain⟨a,ns,n,rfl,ha,hl,k⟩:=h
  have i:=g.units
  refine⟨_,zR (y0 (qB (zMq i) (pv 0) (uJ zD) (vN _)) (zL (z5 (zV gF zQ (pv 1)))) yZ)
   (zL (z5 (zV y6 (yA zBy (pv 0) (zV zAQ (pv 1) (yS zAs (by rfl) B.len cw (zC (pv 0) zD))) (fun _ _=>rfl))
    (zV gF zQ (zV zAn (pv 1) (yS zAs (by rfl) B.len cw (zC (pv 0) zD))))))),?_⟩
  refine⟨_,rfl,by show 0<=sizeLine;decide,fun p j=>?_⟩
  have c:zB H (upd H p (.lst [])):=zB.upd1 j
  refine⟨.list (ns.map PyData.int),.list [],⟨a,_,rfl,c.seq ha,zHv ns⟩,⟨p,[],rfl,.of zE,rfl⟩,zOu ns,rfl,_,rfl,?_⟩
  cases ns with
  |nil=>exact uQ ⟨_,rfl,7,n,rfl,rfl,.inl ⟨by decide,by decide⟩,k _ _ c⟩
  |cons m ns=>
   refine vA ?_
   have b:((m::ns).map V.int).length=ns.length+1:=by simp
   have l:ns.length+1<=63:=by simpa using hl
   have o:((n:Int)%(((m::ns).map V.int).length:Int))=((n%(ns.length+1):Nat):Int):=by rw[b];rfl
   have d:n%(ns.length+1)<((m::ns).map V.int).length:=by rw[b];exact rj _ (Nat.succ_pos _)
   refine⟨_,rfl,_,rfl,_,rfl,a,_,rfl,.inl (c.seq ha),_,_,rfl,rfl,by rw[b];omega,?_⟩
   refine⟨a,_,_,.int ((m::ns)[n%(ns.length+1)]'(by simpa using d)),rfl,rfl,c.seq ha,?_,?_⟩
   ·rw[o]
    refine zBZ ?_
    rw[ar,av (by simpa using d)];rfl
   ·exact⟨_,rfl,_,rfl,a,_,rfl,.inl (c.seq ha),_,_,rfl,rfl,⟨by rw[b];omega,by rw[b];omega⟩,_,_,rfl,rfl,.inl ⟨by decide,by decide⟩,_,_,rfl,rfl,k _ _ c⟩
theorem lt0 {d:Int}(h:0<d):0<d:=h
theorem cmE {t d q:Int}(h:0<d)(a:d<18446744073709551616):zBW (t%d) q:=by
 have b:=nc t (show d≠0 by omega)
 have c:=lF t h
 exact .inl ⟨by omega,by omega⟩
noncomputable def zCU (K:ag):Sp:=fun vs H Q _=>∃(a:ak) (ns:List Int) (k m:Nat),vs=[.ref a,.int k,.int m]/\yG K H a (ns.map V.int)/\ns.length<=63/\1<=m/\m<100000/\∀(i:Nat) H',i<m->zB H H'->Q (.int i) H'
noncomputable abbrev zEH:cJ:=top 79
theorem zHy:FnScope ["_law_script","_law_k","_law_many","_law_cell_here"] ["_law_script","_law_k","_law_many"] (defScope zEH):=yE
theorem zOw {f:ak}{fd:bc}(F:Fun K "_law_drawn" "_law_drawn" zEH f fd)(b:zS P w K mg base 1 "_law_cell" ["_law_script","_law_k"] (zHx K)):FnOk P w K mg base z0 2 f fd ["_law_script","_law_k","_law_many"] (zCU K):=by
 refine F.ok zHy (fun vs H Q E h=>?_) (fun c A outer s H vs Q E d h=>?_)
 ·obtain⟨a,ns,k,m,rfl,_⟩:=h;rfl
 ·obtain⟨a,ns,n,m,rfl,ha,hl,g,j,k⟩:=h
  have nd:=zHy.nd
  refine⟨_,zR (yC (i:=3) nd rfl (Or.inl rfl) (zV zAQ (zV y6 (zV gF (zV zAQ (zH b d rfl (zC (pv 0) (zC (pv 1) zD))) zQ) zQ) (zV gF zQ (zV y6 (pv 1) zQ))) zQ))
   (zR (yC (i:=3) nd rfl (Or.inl rfl) (zV zAQ (zV y6 (zV gF (pv 3) (pv 3)) (zV zAn (pv 3) zQ)) zQ))
   (zL (z5 (zV zAQ (zV zAn (zV zAQ (zV y6 (zV gF (pv 3) (pv 3)) (zV zAn (pv 3) zQ)) zQ) zQ) (pv 2))))),?_⟩
  refine⟨_,rfl,_,rfl,a,ns,n,rfl,ha,hl,fun i l o=>?_⟩
  have fin:∀z:Int,Q (.int (z%(m:Int))) l:=fun z=>by
   have p:0<=z%(m:Int):=nc _ (by omega)
   have q:z%(m:Int)<m:=lF _ (by omega)
   have e:z%(m:Int)=((z%(m:Int)).toNat:Int):=(Int.toNat_of_nonneg p).symm
   rw[e]
   exact k _ _ (by omega) o
  refine⟨_,_,rfl,rfl,lt0 (by decide),_,_,rfl,rfl,.inr ⟨by decide,by decide⟩,?_⟩
  refine⟨_,rfl,_,_,rfl,rfl,_,_,rfl,rfl,.inl ⟨by decide,by decide⟩,_,_,rfl,rfl,_,_,rfl,rfl,lt0 (by decide),?_⟩
  refine⟨_,rfl,_,rfl,_,_,rfl,rfl,cmE (by decide) (by decide),_,rfl,_,_,rfl,rfl,⟨by decide,by decide⟩,_,_,rfl,rfl,_,_,rfl,rfl,lt0 (by decide),?_⟩
  refine⟨_,rfl,_,rfl,_,_,rfl,rfl,cmE (by decide) (by decide),_,rfl,_,_,rfl,rfl,⟨by decide,by decide⟩,_,_,rfl,rfl,_,_,rfl,rfl,lt0 (by decide),_,_,rfl,rfl,⟨by decide,by decide⟩,_,rfl,_,_,rfl,rfl,?_,fin _⟩
  show(0:Int)<(m:Int)
  omega
noncomputable def zHz (K:ag):Sp:=fun vs H Q _=>∃(a:ak) (ns:List Int) (at' most:Nat),vs=[.ref a,.int at',.int most]/\yG K H a (ns.map V.int)/\ns.length<=63/\1<=most/\most<=8/\
 ∀(x:S) H',zB H H'->y9 x->(x.length<=most/\∀c∈x,(c=97\/c=98\/c=122))->Q (sv x) H'
noncomputable abbrev zEI:cJ:=top 80
theorem zIA:FnScope ["_law_script","_law_at","_law_most","_law_size","_law_letters"] ["_law_script","_law_at","_law_most"] (defScope zEI):=yE
theorem ndN:(["_law_letters","_law_script","_law_at","_law_k"]:List Str).Nodup:=by decide+kernel
noncomputable abbrev cDr (P:aJ)(w:bh)(K:ag)(mg:Str->Option aj)(base:bF):Prop:=zS P w K mg base 2 "_law_drawn" ["_law_script","_law_k","_law_many"] (zCU K)
theorem zOx {f:ak}{fd:bc}(F:Fun K "_law_name" "_law_name" zEI f fd)(B:Blt mg)(I:cDr P w K mg base):FnOk P w K mg base z0 3 f fd ["_law_script","_law_at","_law_most"] (zHz K):=by
 refine F.ok zIA (fun vs H Q E h=>?_) (fun aa A outer s H vs Q E J h=>?_)
 ·obtain⟨a,ns,k,m,rfl,_⟩:=h;rfl
 ·obtain⟨a,ns,n,m,rfl,ha,hl,M,ac,k⟩:=h
  have nd:=zIA.nd
  refine⟨_,zR (yC (i:=3) nd rfl (Or.inl rfl) (zV y6 zQ (zH I J rfl (zC (pv 0) (zC (pv 1) (zC (pv 2) zD))))))
   (zR (yC (i:=4) nd rfl (Or.inr rfl) (yA zBy (uJ (zC vD (zC vD (zC vD zD)))) (zH I J rfl (zC (pv 0) (zC (zV y6 (pv 1) zQ) (zC zQ zD)))) (fun _ _=>rfl)))
   (zL (z5 (jM iZ PySem.F.slot_str_join PySem.F.type_str_join zNF vD (zC
    (qD (N:=["_law_letters","_law_script","_law_at","_law_k"]) (caps:=[4,0,1]) rfl (uS (by kernel_rfl)) (zCz rfl B.range (zC (pv 3) zD))
     (fun T C s H ex=>yB (i:=3) ndN rfl (Or.inl rfl)) (fun T C s H ex=>qM)
     (fun T C s H ex=>yA zMH (pv 0) (zH I J rfl (zC (pv 1) (zC (zV y6 (zV y6 (pv 2) zQ) (pv 3)) (zC (yS kO (by rfl) B.len cw (zC (pv 0) zD)) zD)))) (fun _ _=>rfl))) zD))))),?_⟩
  refine⟨_,rfl,_,rfl,_,rfl,a,ns,n,m,rfl,ha,hl,M,by omega,fun sz U hsz W=>?_⟩
  refine⟨_,_,rfl,rfl,?_⟩
  refine⟨by show 3<=sizeLine;decide,fun p hp=>?_⟩
  have X:zB U (upd U p (.lst [.str "ab",.str "ab",.str "abz"])):=zB.upd1 hp
  refine⟨_,rfl,_,rfl,_,_,rfl,rfl,a,ns,n+9,3,rfl,X.seq (W.seq ha),hl,by decide,by decide,fun Y H3 O Z=>?_⟩
  have o:=(W.trans X).trans Z
  obtain⟨L,hL,e⟩:∃L:S,(L=[97,98]\/L=[97,98,122])/\([.str "ab",.str "ab",.str "abz"]:List V)[Y]?=some (sv L):=by
   match Y,O with
   |0,_=>exact⟨[97,98],.inl rfl,rfl⟩
   |1,_=>exact⟨[97,98],.inl rfl,rfl⟩
   |2,_=>exact⟨[97,98,122],.inr rfl,rfl⟩
  refine⟨p,_,_,sv L,rfl,rfl,.of (Z _ _ zE),zBZ e,?_⟩
  refine⟨rfl,_,rfl,_,rfl,by omega,by omega,?_⟩
  have al:L.length=2\/L.length=3:=by rcases hL with h|h<;>subst h<;>simp
  have R:∀c∈L,(97<=c/\c<=122)/\(c=97\/c=98\/c=122):=by rcases hL with h|h<;>subst h<;>decide
  have r:(1+(sz:Int)).toNat=sz+1:=by omega
  refine j5 (zBd 0 _) [some (sv L),some (.ref a),some (.int n)] 1 (by rw[ai,bU,r];omega) (fun i l u=>zB H3 u/\∃b:S,l=b.map (fun c=>V.str (tx [c]))/\b.length=i/\∀c∈b,(97<=c/\c<=122)/\(c=97\/c=98\/c=122))
   ⟨zB.refl _,[],rfl,rfl,by simp⟩ (fun i l u _ h=>⟨trivial,by obtain⟨_,b,rfl,h,_⟩:=h;rw[ai];omega⟩) ?_ ?_
  ·rintro i x l u ys Nx hN hx hy ⟨v,b,rfl,g,d⟩
   obtain⟨y,rfl⟩:=ys1 hy
   rw[r]at hx
   obtain⟨hi,rfl⟩:=zDa hx
   refine⟨_,rfl,_,rfl,_,rfl,_,_,rfl,rfl,_,rfl,_,_,rfl,rfl,_,rfl,tx L,rfl,by rw[yF,aI];omega,?_⟩
   rw[yF]
   refine⟨a,ns,n+1+i,L.length,rfl,(o.trans v).seq ha,hl,by omega,by omega,fun j H5 hj s5=>?_⟩
   refine⟨tx L,_,L[j],rfl,rfl,by rw[yF,aI];omega,?_,?_⟩
   ·rw[uN]
    exact zBZ (av hj)
   ·refine hN _ _ [some (.int i)] rfl ⟨v.trans s5,b++[L[j]],by rw[aQ];rfl,by rw[ay,g];rfl,fun c t=>?_⟩
    rcases bt.mp t with z|z
    ·exact d c z
    ·have:c=L[j]:=by simpa using z
     rw[this]
     exact R _ (cq hj)
  ·rintro l u ⟨v,b,rfl,g,d⟩ D hD
   rw[ai,bU,r]at g
   have q:((b.map fun c=>tx [c]).map (·.length)).sum=b.length:=by
    clear g d
    induction b with
    |nil=>rfl
    |cons c b ih=>rw[aD,aD,aT,ih,aM,yF];show 1+_=_;omega
   refine⟨_,D,b.map (fun c=>tx [c]),rfl,rfl,.of (by rw[zE,aV];rfl),?_,?_⟩
   ·rw[q]
    show _+_*0<=_
    omega
   ·have ej:oT ⟨#[]⟩ (b.map fun c=>tx [c])=tx b:=by
     rw[zNH,aV]
     congr 1
     clear g d q
     congr 1
     induction b with
     |nil=>rfl
     |cons c b ih=>rw[aD,fA,ih];rfl
    have kk:∀G,zB H G->Q (.str (oT ⟨#[]⟩ (b.map fun c=>tx [c]))) G:=fun G sx=>by
     rw[ej]
     exact k b G sx ⟨by omega,by omega,fun c t=>(d c t).1⟩ ⟨by omega,fun c t=>(d c t).2⟩
    exact kk _ ((o.trans v).trans (zB.upd1 hD))
noncomputable def zIB (K:ag):Sp:=fun vs H Q _=>∃(a:ak) (ns:List Int) (at' many most:Nat),vs=[.ref a,.int at',.int many,.int most]/\yG K H a (ns.map V.int)/\ns.length<=63/\1<=many/\many<=8/\1<=most/\most<=8/\
 ∀(p:ak) (bk:List S) H',zB H H'->H' p=some (.tup (zP bk))->1<=bk.length->bk.length<=many->(∀x∈bk,y9 x/\x.length<=most/\∀c∈x,c=97\/c=98\/c=122)->Q (.ref p) H'
noncomputable abbrev zEJ:cJ:=top 81
theorem zIC:FnScope ["_law_script","_law_at","_law_many","_law_most","_law_found","_law_k"] ["_law_script","_law_at","_law_many","_law_most"] (defScope zEJ):=yE
theorem zOy {f:ak}{fd:bc}(F:Fun K "_law_book" "_law_book" zEJ f fd)(B:Blt mg)(Y:cDr P w K mg base)(Z:zS P w K mg base 3 "_law_name" ["_law_script","_law_at","_law_most"] (zHz K)):FnOk P w K mg base z0 4 f fd ["_law_script","_law_at","_law_many","_law_most"] (zIB K):=by
 refine F.ok zIC (fun vs H Q E h=>?_) (fun aa A outer s H vs Q E M h=>?_)
 ·obtain⟨a,ns,k,m,l,rfl,_⟩:=h;rfl
 ·obtain⟨a,ns,n,many,most,rfl,ha,hl,D,ab,G,I,k⟩:=h
  have nd:=zIC.nd
  have hr2:=M.mono (j:=2) (by decide)
  refine⟨_,zR (yC (i:=4) nd rfl (Or.inl rfl) (uA zD))
   (zR (vX bE rfl (zCz rfl B.range (zC (zV y6 zQ (zH Y hr2 rfl (zC (pv 0) (zC (pv 1) (zC (pv 2) zD))))) zD)) (yB (i:=5) nd rfl (Or.inl rfl))
    (zL (yC (i:=4) nd rfl (Or.inl rfl) (zV (zHG.or zGL) (pv 4) (uA (zC (zH Z M rfl (zC (pv 0) (zC (zV y6 (zV y6 (pv 1) zQ) (zV gF zQ (pv 5))) (zC (pv 3) zD)))) zD))))))
   (zL (z5 (pv 4)))),?_⟩
  refine⟨by show 0<=sizeLine;decide,fun N J=>?_⟩
  have O:zB H (upd H N (.tup [])):=zB.upd1 J
  refine⟨_,rfl,_,rfl,_,rfl,a,ns,n,many,rfl,O.seq ha,hl,D,by omega,fun sz H1 hsz R=>?_⟩
  refine⟨_,_,rfl,rfl,_,rfl,by omega,by omega,?_⟩
  have g:(1+(sz:Int)).toNat=sz+1:=by omega
  refine qN (zBd 0 _) (fun i σ o=>∃(p:ak) (bk:List S) (y:Option V),σ=[some (.ref a),some (.int n),some (.int many),some (.int most),some (.ref p),y]/\zB H o/\o p=some (.tup (zP bk))/\bk.length=i/\∀x∈bk,y9 x/\x.length<=most/\∀c∈x,c=97\/c=98\/c=122)
   ⟨N,[],_,rfl,O.trans R,R _ _ zE,rfl,by simp⟩ (fun _ _ _ _ _=>trivial) ?_ ?_
  ·rintro i x σ o Nx T U ⟨p,bk,y,rfl,t,u,d,e⟩
   rw[g]at U
   obtain⟨hi,rfl⟩:=zDa U
   refine⟨_,rfl,_,rfl,_,rfl,_,_,rfl,rfl,_,rfl,_,_,rfl,rfl,.inl ⟨by decide,by decide⟩,_,_,rfl,rfl,_,rfl,a,ns,n+1+10*i,most,rfl,t.seq ha,hl,G,I,fun x W v hx1 hx2=>?_⟩
   refine⟨by show 1<=sizeLine;decide,fun q hq=>?_⟩
   have C:zB W (upd W q (.tup [sv x])):=zB.upd1 hq
   have nx:∀b∈bk++[x],y9 b/\b.length<=most/\∀c∈b,c=97\/c=98\/c=122:=fun b hb=>by
    rcases bt.mp hb with z|z
    ·exact e b z
    ·have:b=x:=by simpa using z
     rw[this];exact⟨hx1,hx2⟩
   cases bk with
   |nil=>exact .inl ⟨p,q,_,rfl,rfl,.of (C _ _ (v _ _ u)),.of zE,T _ _ ⟨q,[x],_,rfl,(t.trans v).trans C,zE,by rw[<-d];rfl,nx⟩⟩
   |cons c X=>
    refine .inr ⟨p,q,_,_,rfl,rfl,.of (C _ _ (v _ _ u)),.of zE,by simp[zP],?_,fun z=>by simp at z,fun _ r L=>T _ _ ⟨r,(c::X)++[x],_,rfl,((t.trans v).trans C).trans (zB.upd1 L),?_,by rw[ay,d];rfl,nx⟩⟩
    ·have:(zP (c::X)).length=i:=by rw[<-d];simp[zP]
     rw[this,aI]
     show i+1<=_
     omega
    ·rw[zE]
     unfold zP
     rw[aQ];rfl
  ·rintro σ o ⟨p,bk,y,rfl,t,u,d,e⟩
   rw[ai,bU,g]at d
   exact⟨_,rfl,k p bk o t u (by omega) (by omega) e⟩
end
theorem zEK (a b:S):tx a++tx b=tx (a++b):=by
 apply MyS.Str_ext
 show((tx a).cps++(tx b).cps).toList=_
 simp[tx]
theorem zBj {d:d5}{A B:Prop}(hd:d.canLay0=true)(h:B):if(if true=true then !PyData.eqv d d else hV d d)=true then A else B:=by
 rw[zGp d hd];exact h
theorem zOz {t:S}(h:∀c∈t,c<=122):tH (tx t)=true:=by
 unfold tH
 rw[Array.all_eq_true']
 intro c b
 have a:c∈t:=by simpa [tx]using b
 have:=h c a
 exact decide_eq_true (by omega)
end Kn
end
section
namespace L2
open PySem PySem.Spec PyProof.Rows
theorem yI.freeze {P:aJ}{w:bh}{H:Hp}{h:bF}{a:ak}{o:Obj}{kvs:List (zO×V)}(x:yI P w H h)(e:H a=some (.dK kvs))(f:h.get? a=some o):yI P w (upd H a (.frz o (.dK kvs))) h:=fun b u d=>by
 by_cases hb:b=a
 ·subst hb;rw[zE]at d;cases d
  exact⟨f,x b _ e⟩
 ·rw[zG hb]at d
  refine(x b u d).stay (fun c v _ q=>q) (fun c q=>?_) fun c xs q=>?_
  ·rw[zG (by rintro rfl;rw[e]at q;cases q)];exact q
  ·rw[zG (by rintro rfl;rw[e]at q;cases q)];exact q
theorem zID {P:aJ}{w:bh}{k:zO}{u:aj}(h:(vP P w).is k u=true):zX (kV k) u:=by
 rw[zKr]at h
 rcases j1 h with⟨i,t,rfl,rfl⟩|⟨x,t,rfl,rfl⟩
 ·exact⟨_,rfl⟩
 ·exact⟨_,rfl⟩
theorem zCV {α β:Type}{F:α->β->Prop}:∀{c:List α}{d:List β}{i:Nat}{x:α},oj F c d->c[i]?=some x->∃y,d[i]?=some y/\F x y
 | [],_,i,x,_,h=>by simp at h
 |a::l,[],i,x,p,_=>by cases p
 |a::l,b::m,0,x,p,h=>by
  cases p with
  |cons e f=>cases h;exact⟨b,rfl,e⟩
 |a::l,b::m,i+1,x,p,h=>by
  cases p with
  |cons e f=>
   obtain⟨y,e1,g⟩:=zCV (i:=i) (x:=x) f (by simpa using h)
   exact⟨y,by simpa using e1,g⟩
noncomputable def Itd (a:ak)(o:Obj)(kvs:List (zO×V)):It where
 go:=fun i H=>H a=some (.frz o (.dK kvs))/\i<kvs.length
 yld:=fun i H x H'=>H'=H/\(kvs.map fun p=>kV p.1)[i]?=some x
 stop:=fun i H=>H a=some (.frz o (.dK kvs))/\kvs.length<=i
theorem zPA (a:ak)(o:Obj)(kvs:List (zO×V)):Known (Itd a o kvs) (kvs.map fun p=>kV p.1) (fun H=>H a=some (.frz o (.dK kvs))) :=
 ⟨fun i H h hi=>⟨h,by simpa using hi⟩,fun i H x b h y=>⟨y.1,fun _=>y.2⟩,fun H h=>⟨h,by simp⟩⟩
theorem zPB {P:aJ}{w:bh}{K:ag}{tg:bS}(a r:ak)(o:Obj)(kvs:List (zO×V))(n ep:Nat)(hn:n=kvs.length)(B:∃L,o.data=.dict L ep):Turn P w K tg (Itd a o kvs) [r] r (fun i h=>h.IsKeyIter r a i n ep) where
 mem:=by simp
 obj:=fun i h st b hb=>by
  have e:b=r:=by simpa using hb
  subst e
  obtain⟨o,e,c,d⟩:=st
  exact⟨o,e,fun v z=>by rw[d]at z;cases z⟩
 keep:=fun i h h' st k=>st.at fun o e=>k r (by simp) o e
 item:=by
  intro X M N O hc i m s σ H E I hf st R
  subst M N O
  obtain⟨g,hi⟩:=R
  obtain⟨z,hS,vs,rel,T⟩:=qL I.hok (.inr ⟨o,g⟩)
  obtain⟨j,_⟩:=(show s.heap.get? a=some o/\_ from I.hok a _ g)
  obtain⟨t,l⟩:=T.dictAt
  have u:t=ep:=by
   obtain⟨o',L,C,_,U,_⟩:=id l
   obtain⟨es',D⟩:=B
   rw[j]at C;cases C
   rw[U]at D;injection D
  subst u
  have f:vs.length=n:=by rw[hn];exact(dB rel).symm
  rw[<-f]at st
  obtain⟨W,f1,f2,Y,Z,f5⟩:=hf r (by simp)
  obtain⟨q,J⟩:∃q,vs[i]?=some q:=⟨_,av (by omega)⟩
  obtain⟨k,v⟩:=q
  refine wpAny_pyNext_dict_item st l J fun key h' F x sb=>?_
  have I1:Inv X m σ H {s with heap:=h'}:=I.turned (t':=s.toks) (fun b o hb e=>(sb.2 b hb).trans e) W f1 Y Z f5
  obtain⟨oi,e,c,d⟩:=id x
  rw[f]at x
  obtain⟨p,hp,e1,e2⟩:∃p,kvs[i]?=some p/\p.1=k/\zX p.2 v:=by
   have G:i<kvs.length:=hi
   obtain⟨y,hy,hr⟩:=zCV rel (av G)
   rw[J]at hy;cases hy
   exact⟨_,av G,hr.1,hr.2⟩
  refine⟨key,rfl,zAl (s:={s with heap:=h'}) e c d (by decide) ⟨kV k,H,I1,zID F,⟨rfl,?_⟩,x,fun b hb=>(hf b hb).1⟩⟩
  rw[ar,hp,<-e1];rfl
 done:=by
  intro X M N O hc i m s σ H E I hf st R
  subst M N O
  obtain⟨g,hi⟩:=R
  obtain⟨z,hS,vs,rel,T⟩:=qL I.hok (.inr ⟨o,g⟩)
  obtain⟨j,_⟩:=(show s.heap.get? a=some o/\_ from I.hok a _ g)
  obtain⟨t,l⟩:=T.dictAt
  have u:t=ep:=by
   obtain⟨o',L,C,_,U,_⟩:=id l
   obtain⟨es',D⟩:=B
   rw[j]at C;cases C
   rw[U]at D;injection D
  subst u
  have f:vs.length=n:=by rw[hn];exact(dB rel).symm
  rw[<-f]at st
  obtain⟨W,f1,f2,Y,Z,f5⟩:=hf r (by simp)
  refine wpAny_pyNext_dict_end (I.ok.hd hc) st l (by rw[fc];omega) fun h' he=>⟨rfl,?_⟩
  exact I.turned (t':=s.toks) (fun b o hb e=>he b o hb e) W f1 Y Z f5
 self:=fun A i s Q E st J=>wpAny_pyIter_keyiter st J
section
variable{X:Cx}{pins:List (ak×Obj)}{σ:St}{H:Hp}{s:au}{tg:bS}
theorem Inv.freeze {a:ak}{o:Obj}{kvs:List (zO×V)}(I:Inv X pins σ H s)(e:H a=some (.dK kvs))(g:s.heap.get? a=some o):Inv X pins σ (upd H a (.frz o (.dK kvs))) s:=by
 have ne:∀{b:ak} {u:Option HO},H b=u->u≠some (.dK kvs)->b≠a:=fun{b u} q n z=>n (by rw[<-q,z,e])
 refine⟨I.ok,I.os,I.bare,⟨I.base.keep,I.base.slot,fun b d q n h=>?_,I.base.there,fun b xs q=>?_,fun b d u q=>?_,fun b ps q=>?_⟩,I.loc,I.cell,?_,fun x c q=>?_,fun p q=>?_,I.hok.freeze e g,I.len⟩
 ·have:=I.base.free b d q n h
  rw[zG (ne this (by simp))];exact this
 ·have:=I.base.tups b xs q
  rw[zG (ne this (by simp))];exact this
 ·have:=I.base.frzs b d u q
  rw[zG (ne this (by simp))];exact this
 ·obtain⟨m,z⟩:=I.base.tbls b ps q
  exact⟨m,by rw[zG (ne z (by simp))];exact z⟩
 ·have:=I.free
  rw[zG (ne this (by simp))];exact this
 ·have:=I.freeC x c q
  rw[zG (ne this (by simp))];exact this
 ·obtain⟨i,f,j⟩:=I.pin p q
  exact⟨i,by rw[zG (ne f (by simp))];exact f,j⟩
noncomputable def zPC (tl:TE):TI:=fun σ H R=>tl σ H fun x H1=>∃a kvs,x=.ref a/\H1 a=some (.dK kvs)/\∀o,R (Itd a o kvs) (upd H1 a (.frz o (.dK kvs)))
theorem zPD {l:bS}{tl:TE}(hl:PE X l tl):PI X tg l (zPC tl):=by
 intro pins s σ H R I h
 refine zM (hl pins s σ H _ I h) fun v c zq=>?_
 obtain⟨x,m,f,n,p⟩:=zq
 obtain⟨a,kvs,e,g,q⟩:=p
 subst e
 cases n
 obtain⟨z,r,vs,rel,t⟩:=gI f.hok g
 obtain⟨ep,d⟩:=t.dictAt
 obtain⟨o,u,i,_,j,_⟩:=id d
 refine wpAny_pyIter_dict r d ?_
 have w:=(f.freeze g i).kept (t':=c.toks) (h':=c.heap.push {cls:=.type "dict_keyiterator",data:=.fields #[.ref a,.int 0 0,.int vs.length 0,.int ep 0]}) fun b o e=>ae _ e
 refine⟨c.heap.objs.size,[c.heap.objs.size],_,_,upd m a (.frz o (.dK kvs)),rfl,w,zPB a _ o kvs vs.length ep (dB rel).symm ⟨u,j⟩,⟨_,aE _ rfl,rfl,rfl⟩,fun b hb=>?_,q o⟩
 have e:b=c.heap.objs.size:=by simpa using hb
 subst e
 exact(f.freeze g i).fpOk (aC _) ((f.freeze g i).hok.fresh (aC _))
theorem yI.thaw {P:aJ}{w:bh}{H:Hp}{h:bF}{a:ak}{o:Obj}{kvs:List (zO×V)}(x:yI P w H h)(e:H a=some (.frz o (.dK kvs))):yI P w (upd H a (.dK kvs)) h:=fun b u d=>by
 by_cases hb:b=a
 ·subst hb;rw[zE]at d;cases d
  exact(show h.get? b=some o/\yV P w H h b (.dK kvs)from x b _ e).2
 ·rw[zG hb]at d
  refine(x b u d).stay (fun c v _ q=>q) (fun c q=>?_) fun c xs q=>?_
  ·rw[zG (by rintro rfl;rw[e]at q;cases q)];exact q
  ·rw[zG (by rintro rfl;rw[e]at q;cases q)];exact q
theorem Inv.thaw {a:ak}{o:Obj}{kvs:List (zO×V)}{pins':List (ak×Obj)}{h:St}{f:Hp}{s':au}(I:Inv X pins σ H s)(i:Inv X pins' h f s')(j:f a=some (.dK kvs))(e:H a=some (.frz o (.dK kvs))):Inv X pins σ (upd H a (.dK kvs)) s:=by
 have ne:∀{b:ak} {u:Option HO},H b=u->u≠some (.frz o (.dK kvs))->b≠a:=fun{b u} q n z=>n (by rw[<-q,z,e])
 refine⟨I.ok,I.os,I.bare,⟨I.base.keep,I.base.slot,fun b d q n l=>?_,I.base.there,fun b xs q=>?_,fun b d u q=>?_,fun b ps q=>?_⟩,I.loc,I.cell,?_,fun x c q=>?_,fun p q=>?_,I.hok.thaw e,I.len⟩
 ·have:=I.base.free b d q n l
  rw[zG (ne this (by simp))];exact this
 ·have:=I.base.tups b xs q
  rw[zG (ne this (by simp))];exact this
 ·have:=I.base.frzs b d u q
  rw[zG (by rintro rfl;have:=i.base.frzs _ d u q;rw[j]at this;cases this)];exact this
 ·obtain⟨m,z⟩:=I.base.tbls b ps q
  exact⟨m,by rw[zG (ne z (by simp))];exact z⟩
 ·have:=I.free
  rw[zG (ne this (by simp))];exact this
 ·have:=I.freeC x c q
  rw[zG (ne this (by simp))];exact this
 ·obtain⟨r,g,t⟩:=I.pin p q
  exact⟨r,by rw[zG (ne g (by simp))];exact g,t⟩
noncomputable def zPE (t:TE):TE:=fun σ H Q=>∃a kvs,H a=some (.dK kvs)/\t σ H fun y H'=>∃o,H' a=some (.frz o (.dK kvs))/\Q y (upd H' a (.dK kvs))
theorem zIE {e:bS}{t:TE}(b:PE X e t):PE X e (zPE t):=by
 intro pins s σ H Q I h
 obtain⟨a,kvs,c,h⟩:=h
 exact zM (b pins s σ H _ I h) fun u f ⟨y,g,d,r,o,hf,q⟩=>⟨y,_,d.thaw I c hf,r,q⟩
end
theorem zPF:entryFor table "dict_itemiterator.__iter__"=some di.«dict_keyiterator.__iter__» :=
 nK (id' :="dict_keyiterator.__iter__") (by kernel_rfl) rfl (by decide+kernel) (by kernel_rfl)
noncomputable def Iti (a:ak)(o:Obj)(kvs:List (zO×V)):It where
 go:=fun i H=>H a=some (.frz o (.dK kvs))/\i<kvs.length
 yld:=fun i H x H'=>∃T q,x=.ref T/\H T=none/\H'=upd H T (.tup [kV q.1,q.2])/\kvs[i]?=some q
 stop:=fun i H=>H a=some (.frz o (.dK kvs))/\kvs.length<=i
theorem zPG {P:aJ}{w:bh}{K:ag}{x:List bS}{k:Nat}{pos:Pos}(a d:ak)(o:Obj)(kvs:List (zO×V))(n ep:Nat)(hn:n=kvs.length)(B:∃Z,o.data=.dict Z ep) :
  Turn P w K (.Tuple x k pos) (Iti a o kvs) [d] d (fun i h=>∃ok m,IsItemIter h d a i n ep ok m) where
 mem:=by simp
 obj:=fun i h st b hb=>by
  have e:b=d:=by simpa using hb
  subst e
  obtain⟨ok,m,st⟩:=st
  exact⟨_,st,fun v z=>by
   have z':Data.fields _=Data.cell v:=z
   cases z'⟩
 keep:=fun i h h' st kk=>let⟨ok,m,st⟩:=st;⟨ok,m,kk d (by simp) _ st⟩
 item:=by
  intro X hP hw hK hc i C s σ H E I hf st hg
  subst hP hw hK
  obtain⟨f,hi⟩:=hg
  obtain⟨ok,m,st⟩:=st
  obtain⟨z,hS,vs,rel,dd⟩:=qL I.hok (.inr ⟨o,f⟩)
  obtain⟨j,_⟩:=(show s.heap.get? a=some o/\_ from I.hok a _ f)
  obtain⟨r,l⟩:=dd.dictAt
  have t:r=ep:=by
   obtain⟨o',Z,D,_,u,_⟩:=id l
   obtain⟨es',G⟩:=B
   rw[j]at D;cases D
   rw[u]at G;injection G
  subst t
  have c:vs.length=n:=by rw[hn];exact(dB rel).symm
  rw[<-c]at st
  obtain⟨q,Y⟩:∃q,vs[i]?=some q:=⟨_,av (by omega)⟩
  obtain⟨k,v⟩:=q
  obtain⟨p,hp,e1,e2⟩:∃p,kvs[i]?=some p/\p.1=k/\zX p.2 v:=by
   have J:i<kvs.length:=hi
   obtain⟨y,hy,hr⟩:=zCV rel (av J)
   rw[Y]at hy;cases hy
   exact⟨_,av J,hr.1,hr.2⟩
  refine wpAny_pyNext_items_item st l Y fun key h' L M N hsz hk=>?_
  refine⟨_,rfl,wpAny_letOwnedTupleGo_items M fun u O R=>?_⟩
  have T:s.heap.get? s.heap.objs.size=none:=by
   cases g:s.heap.get? s.heap.objs.size with
   |none=>rfl
   |some o=>exact absurd (aF g) (bN _)
  have U:d<s.heap.objs.size:=aF st
  have aa:u.get? s.heap.objs.size=some {cls:=.type "tuple",data:=.seq #[key,v]}:=(R.2 _ (de U)).trans N
  refine⟨.ref s.heap.objs.size,upd H s.heap.objs.size (.tup [kV p.1,p.2]),I.turnedT (fp:=[d]) (h':=u) (t':=s.toks) (fun b ob hb q=>?_) hf T ⟨by show 2<=sizeLine;decide,[key,v],.cons (by rw[e1];exact zID L) (.cons e2 .nil),⟨_,aa,rfl,_,rfl⟩⟩,rfl,
   ⟨_,p,rfl,I.hok.free T,rfl,hp⟩,⟨_,_,by rw[c]at O;exact O⟩,fun b hb=>?_⟩
  ·have W:b≠d:=fun z=>hb (by simp[z])
   exact(R.2 b W).trans (hk b ob W q)
  ·rw[zG]
   ·exact(hf b hb).1
   ·rintro rfl
    have z':s.heap.objs.size=d:=by simpa using hb
    exact absurd U (by rw[z'];exact bN _)
 done:=by
  intro X hP hw hK hc i C s σ H E I hf st hg
  subst hP hw hK
  obtain⟨f,hi⟩:=hg
  obtain⟨ok,m,st⟩:=st
  obtain⟨z,hS,vs,rel,dd⟩:=qL I.hok (.inr ⟨o,f⟩)
  obtain⟨j,_⟩:=(show s.heap.get? a=some o/\_ from I.hok a _ f)
  obtain⟨r,l⟩:=dd.dictAt
  have t:r=ep:=by
   obtain⟨o',Z,D,_,u,_⟩:=id l
   obtain⟨es',G⟩:=B
   rw[j]at D;cases D
   rw[u]at G;injection G
  subst t
  have c:vs.length=n:=by rw[hn];exact(dB rel).symm
  rw[<-c]at st
  obtain⟨f0,f1,f2,f3,f4,f5⟩:=hf d (by simp)
  refine wpAny_pyNext_items_end (I.ok.hd hc) st l (by rw[fc];omega) fun h' he=>⟨rfl,?_⟩
  exact I.turned (t':=s.toks) (fun b o hb e=>he b o hb e) f0 f1 f3 f4 f5
 self:=fun A i s Q E st Y=>by
  obtain⟨ok,m,st⟩:=st
  have N:s.TypeIs (.ref d) "dict_itemiterator" :=⟨_,st,rfl⟩
  refine lX N jr (cp jr N zPF ?_ (F.args_dict_itemiterator_iter_1 _))
  show wpAny _ _ (ret (.ref d)) _ _ s
  exact az ⟨_,rfl,"dict_itemiterator",_,N,F.slot_dict_itemiterator_next.lookup,Y⟩
section
variable{X:Cx}{elts:List bS}{kk:Nat}{tpos:Pos}{tg:bS}
noncomputable def zPH (tl:TE):TI:=fun σ H R=>tl σ H fun x H1=>∃p a kvs,x=.ref p/\H1 p=some (VW p a)/\H1 a=some (.dK kvs)/\∀o,R (Iti a o kvs) (upd H1 a (.frz o (.dK kvs)))
theorem zAa {l:bS}{tl:TE}(hl:PE X l tl):PI X (.Tuple elts kk tpos) l (zPH tl):=by
 intro d s σ H R I h
 refine zM (hl d s σ H _ I h) fun v c zq=>?_
 obtain⟨x,r,f,t,u⟩:=zq
 obtain⟨p,a,kvs,e,w,i,q⟩:=u
 subst e
 cases t
 obtain⟨z,C,vs,rel,y⟩:=gI f.hok i
 obtain⟨ep,g⟩:=y.dictAt
 obtain⟨o,A,j,_,m,_⟩:=id g
 have n:c.heap.get? p=some (zHA a):=(f.hok p _ w).1
 refine wpAny_pyIter_items (v:=p) ⟨_,n,rfl,rfl⟩ g ?_
 have B:=(f.freeze i j).kept (t':=c.toks) (h':=c.heap.push {cls:=.type "dict_itemiterator",data:=.fields #[.none,.bool false,.ref a,.int 0 0,.int vs.length 0,.int ep 0,.none,.none]}) fun b o e=>ae _ e
 refine⟨c.heap.objs.size,[c.heap.objs.size],_,_,upd r a (.frz o (.dK kvs)),rfl,B,zPG a _ o kvs vs.length ep (dB rel).symm ⟨A,m⟩,⟨_,_,aE _ rfl⟩,fun b hb=>?_,q o⟩
 have e:b=c.heap.objs.size:=by simpa using hb
 subst e
 exact(f.freeze i j).fpOk (aC _) ((f.freeze i j).hok.fresh (aC _))
theorem zBE {a:ak}{o:Obj}{kvs:List (zO×V)}{g:TG}{r:TS}{D:Ends}{σ:St}{H:Hp}(Pv:Nat->St->Hp->Prop)(u:Pv 0 σ H)(v:∀i σ H,i<=kvs.length->Pv i σ H->H a=some (.frz o (.dK kvs)))
  (d:∀(i:Nat) (q:zO×V) (T:ak) (σ:St) (H:Hp) (h:St->Hp->Prop),(∀c b,Pv (i+1) c b->h c b)->kvs[i]?=some q->Pv i σ H->H T=none->g (.ref T) σ (upd H T (.tup [kV q.1,q.2])) fun j f=>r {D with nx:=h,ct:=h,bk:=D.nx} j f)
  (fin:∀σ H,Pv kvs.length σ H->D.nx σ H) :
  ∃W:Nat->Nat->St->Hp->Prop,(∃m,W 0 m σ H)/\∀i m σ H,W i m σ H->
   ((Iti a o kvs).stop i H/\D.nx σ H)\/((Iti a o kvs).go i H/\∃N:St->Hp->Prop,(∀c b,N c b->∃s,s<m/\W (i+1) s c b)/\∀x b,(Iti a o kvs).yld i H x b->g x σ b fun j f=>r {D with nx:=N,ct:=N,bk:=D.nx} j f):=by
 refine⟨fun i m σ H=>i<=kvs.length/\m=kvs.length-i/\Pv i σ H,⟨kvs.length,bw _,rfl,u⟩,?_⟩
 rintro i m σ H ⟨hi,rfl,pv⟩
 have t:=v i σ H hi pv
 by_cases e:i=kvs.length
 ·subst e
  exact .inl ⟨⟨t,aC _⟩,fin σ H pv⟩
 ·have l:i<kvs.length:=by omega
  refine .inr ⟨⟨t,l⟩,Pv (i+1),fun c b p=>⟨kvs.length- (i+1),by omega,by omega,rfl,p⟩,fun x f n=>?_⟩
  obtain⟨T,q,rfl,w,rfl,y⟩:=n
  exact d i q T σ H (Pv (i+1)) (fun _ _ p=>p) y pv w
theorem zPI {a:ak}{o:Obj}{kvs:List (zO×V)}{caps:List Nat}{n:Nat}{σ:St}{g:TG}{v:TE}{F:List V->Hp->Prop}{D:Hp}(cv:St)(k:Nat)(O:kvs.length<1000)
  (Pv:Nat->List V->Hp->Prop) (I:Pv 0 [] D) (J:∀i c H,i<=kvs.length->Pv i c H->H a=some (.frz o (.dK kvs))/\c.length<=i)
  (s:∀(i:Nat) (q:zO×V) (T:ak) (c:List V) (H:Hp) (ys:St) (E:List V->St->Hp->Prop),(∀f j w,w.length=k->Pv (i+1) f j->E f (cv++w) j)->kvs[i]?=some q->ys.length=k->Pv i c H->H T=none->
   g (.ref T) (cv++ys) (upd H T (.tup [kV q.1,q.2])) fun d r=>v d r fun y l=>E (c++[y]) d l)
  (fin:∀c H,Pv kvs.length c H->F c H) (z:uR caps n σ=cv++aH k none:=by rfl) :
  ∃W:Nat->Nat->List V->St->Hp->Prop,(∃m,W 0 m [] (uR caps n σ) D)/\∀i m c t j,W i m c t j->
   ((Iti a o kvs).stop i j/\F c j)\/
   ((Iti a o kvs).go i j/\c.length<sizeLine/\∀x A,(Iti a o kvs).yld i j x A->g x t A fun d r=>kP d r fun b u=>if b=true then v d u fun y l=>∃h,h<m/\W (i+1) h (c++[y]) d l else∃h,h<m/\W (i+1) h c d u):=by
 refine⟨fun i m c t j=>i<=kvs.length/\m=kvs.length-i/\(∃ys,ys.length=k/\t=cv++ys)/\Pv i c j,⟨kvs.length,bw _,rfl,⟨_,by simp,z⟩,I⟩,?_⟩
 rintro i m c t j ⟨hi,rfl,⟨ys,L,rfl⟩,pv⟩
 obtain⟨G,ha⟩:=J i c j hi pv
 by_cases e:i=kvs.length
 ·subst e
  exact .inl ⟨⟨G,aC _⟩,fin c j pv⟩
 ·have B:i<kvs.length:=by omega
  refine .inr ⟨⟨G,B⟩,by rw[aI];omega,fun x A C=>?_⟩
  obtain⟨T,q,rfl,M,rfl,N⟩:=C
  have:=s i q T c j ys (fun f d l=>∃h,h<kvs.length-i/\(i+1<=kvs.length/\h=kvs.length- (i+1)/\(∃ys,ys.length=k/\d=cv++ys)/\Pv (i+1) f l)) (fun f l w hz p=>⟨kvs.length- (i+1),by omega,by omega,rfl,⟨w,hz,rfl⟩,p⟩) N L pv M
  have e:(fun(d:St) (r:Hp)=>kP d r fun b u=>if b=true then v d u fun y l=>∃h,h<kvs.length-i/\(i+1<=kvs.length/\h=kvs.length- (i+1)/\(∃ys,ys.length=k/\d=cv++ys)/\Pv (i+1) (c++[y]) l)else∃h,h<kvs.length-i/\(i+1<=kvs.length/\h=kvs.length- (i+1)/\(∃ys,ys.length=k/\d=cv++ys)/\Pv (i+1) c u))=fun d r=>v d r fun y l=>∃h,h<kvs.length-i/\(i+1<=kvs.length/\h=kvs.length- (i+1)/\(∃ys,ys.length=k/\d=cv++ys)/\Pv (i+1) (c++[y]) l):=by
   funext d r
   unfold kP
   simp
  rw[e]
  exact this
noncomputable def Itv (a:ak)(o:Obj)(kvs:List (zO×V)):It where
 go:=fun i H=>H a=some (.frz o (.dK kvs))/\i<kvs.length
 yld:=fun i H x H'=>H'=H/\(kvs.map fun p=>p.2)[i]?=some x
 stop:=fun i H=>H a=some (.frz o (.dK kvs))/\kvs.length<=i
theorem zPJ (a:ak)(o:Obj)(kvs:List (zO×V)):Known (Itv a o kvs) (kvs.map fun p=>p.2) (fun H=>H a=some (.frz o (.dK kvs))) :=
 ⟨fun i H h hi=>⟨h,by simpa using hi⟩,fun i H x b h y=>⟨y.1,fun _=>y.2⟩,fun H h=>⟨h,by simp⟩⟩
theorem zPK {P:aJ}{w:bh}{K:ag}{tg:bS}(a r:ak)(o:Obj)(kvs:List (zO×V))(n ep:Nat)(hn:n=kvs.length)(B:∃J,o.data=.dict J ep):Turn P w K tg (Itv a o kvs) [r] r (fun i h=>h.IsValIter r a i n ep) where
 mem:=by simp
 obj:=fun i h st b hb=>by
  have e:b=r:=by simpa using hb
  subst e
  obtain⟨o,e,c,d⟩:=st
  exact⟨o,e,fun v z=>by rw[d]at z;cases z⟩
 keep:=fun i h h' st k=>st.at fun o e=>k r (by simp) o e
 item:=by
  intro X L M N hc i m s σ H E I hf st O
  subst L M N
  obtain⟨g,hi⟩:=O
  obtain⟨z,hS,vs,rel,R⟩:=qL I.hok (.inr ⟨o,g⟩)
  obtain⟨j,_⟩:=(show s.heap.get? a=some o/\_ from I.hok a _ g)
  obtain⟨t,l⟩:=R.dictAt
  have u:t=ep:=by
   obtain⟨o',J,C,_,T,_⟩:=id l
   obtain⟨es',D⟩:=B
   rw[j]at C;cases C
   rw[T]at D;injection D
  subst u
  have f:vs.length=n:=by rw[hn];exact(dB rel).symm
  rw[<-f]at st
  obtain⟨U,f1,f2,W,Y,Z⟩:=hf r (by simp)
  obtain⟨q,G⟩:∃q,vs[i]?=some q:=⟨_,av (by omega)⟩
  obtain⟨k,v⟩:=q
  refine wpAny_pyNext_values_item st l G fun h' x sb=>?_
  have I1:Inv X m σ H {s with heap:=h'}:=I.turned (t':=s.toks) (fun b o hb e=>(sb.2 b hb).trans e) U f1 W Y Z
  obtain⟨oi,e,c,d⟩:=id x
  rw[f]at x
  obtain⟨p,hp,e1,e2⟩:∃p,kvs[i]?=some p/\p.1=k/\zX p.2 v:=by
   have F:i<kvs.length:=hi
   obtain⟨y,hy,hr⟩:=zCV rel (av F)
   rw[G]at hy;cases hy
   exact⟨_,av F,hr.1,hr.2⟩
  refine⟨v,rfl,zAl (s:={s with heap:=h'}) e c d (by decide) ⟨p.2,H,I1,e2,⟨rfl,?_⟩,x,fun b hb=>(hf b hb).1⟩⟩
  rw[ar,hp];rfl
 done:=by
  intro X L M N hc i m s σ H E I hf st O
  subst L M N
  obtain⟨g,hi⟩:=O
  obtain⟨z,hS,vs,rel,R⟩:=qL I.hok (.inr ⟨o,g⟩)
  obtain⟨j,_⟩:=(show s.heap.get? a=some o/\_ from I.hok a _ g)
  obtain⟨t,l⟩:=R.dictAt
  have u:t=ep:=by
   obtain⟨o',J,C,_,T,_⟩:=id l
   obtain⟨es',D⟩:=B
   rw[j]at C;cases C
   rw[T]at D;injection D
  subst u
  have f:vs.length=n:=by rw[hn];exact(dB rel).symm
  rw[<-f]at st
  obtain⟨U,f1,f2,W,Y,Z⟩:=hf r (by simp)
  refine wpAny_pyNext_values_end (I.ok.hd hc) st l (by rw[fc];omega) fun h' he=>⟨rfl,?_⟩
  exact I.turned (t':=s.toks) (fun b o hb e=>he b o hb e) U f1 W Y Z
 self:=fun A i s Q E st G=>wpAny_pyIter_valiter st G
noncomputable def zPL (tl:TE):TI:=fun σ H R=>tl σ H fun x H1=>∃p a kvs,x=.ref p/\H1 p=some (j4 p a)/\H1 a=some (.dK kvs)/\∀o,R (Itv a o kvs) (upd H1 a (.frz o (.dK kvs)))
theorem zPM {l:bS}{tl:TE}(hl:PE X l tl):PI X tg l (zPL tl):=by
 intro d s σ H R I h
 refine zM (hl d s σ H _ I h) fun v c zq=>?_
 obtain⟨x,r,f,t,u⟩:=zq
 obtain⟨p,a,kvs,e,w,i,q⟩:=u
 subst e
 cases t
 obtain⟨z,C,vs,rel,y⟩:=gI f.hok i
 obtain⟨ep,g⟩:=y.dictAt
 obtain⟨o,A,j,_,m,_⟩:=id g
 have n:c.heap.get? p=some (zHE a):=(f.hok p _ w).1
 refine wpAny_pyIter_values (v:=p) ⟨_,n,rfl,rfl⟩ g ?_
 have B:=(f.freeze i j).kept (t':=c.toks) (h':=c.heap.push {cls:=.type "dict_valueiterator",data:=.fields #[.ref a,.int 0 0,.int vs.length 0,.int ep 0]}) fun b o e=>ae _ e
 refine⟨c.heap.objs.size,[c.heap.objs.size],_,_,upd r a (.frz o (.dK kvs)),rfl,B,zPK a _ o kvs vs.length ep (dB rel).symm ⟨A,m⟩,⟨_,aE _ rfl,rfl,rfl⟩,fun b hb=>?_,q o⟩
 have e:b=c.heap.objs.size:=by simpa using hb
 subst e
 exact(f.freeze i j).fpOk (aC _) ((f.freeze i j).hok.fresh (aC _))
noncomputable def zPN (t:TS):TS:=fun D σ H=>∃a kvs,H a=some (.dK kvs)/\t {D with nx:=fun σ' H'=>∃o,H' a=some (.frz o (.dK kvs))/\D.nx σ' (upd H' a (.dK kvs))} σ H
theorem zAb {st:cJ}{t:TS}(h:PS X st t):PS X st (zPN t):=by
 intro b s σ H D I q
 obtain⟨a,kvs,d,q⟩:=q
 refine zM (h b s σ H _ I q) fun f j c=>?_
 cases f with
 |next=>
  obtain⟨e,l,g,o,hf,i⟩:=c
  exact⟨e,_,g.thaw I d hf,i⟩
 |brk=>exact c
 |cont=>exact c
 |ret u=>exact c
theorem zB.thaw {H c:Hp}{a:ak}{o:Obj}{kvs:List (zO×V)}(e:zB (upd H a (.frz o (.dK kvs))) c)(h:H a=some (.dK kvs)):zB H (upd c a (.dK kvs)):=fun b u q=>by
 by_cases hb:b=a
 ·subst hb;rw[zE,<-q,h]
 ·rw[zG hb];exact e b u (by rw[zG hb];exact q)
end
end L2
end
section
namespace Kn
theorem zBF (t l:S)(o:Nat):zI (zI t o++l) o=zI (t++l) o:=by
 unfold zI
 rw[ay,ay,bV]
 by_cases h:t.length<=o
 ·rw[show t.length-o=0 by omega,eK,kj]
 ·rw[pN,pN,List.drop_drop,bV]
  congr 1
  ·congr 1;omega
  ·congr 1;omega
noncomputable def pp (o:Nat)(t:S):List (S×S):=(bA t.length).map fun p=>(zI (t.take p) o,(t.drop p).take 1)
theorem zCW (o:Nat)(t:S):yL o t=pp o t++[(zI t o,[])]:=by
 unfold yL pp
 rw[dE,aQ]
 simp
theorem zEL (o:Nat)(t:S)(c:Nat):pp o (t++[c])=pp o t++[(zI t o,[c])]:=by
 unfold pp
 rw[ay,bR,dE,aQ]
 congr 1
 ·refine dj fun p a=>?_
  have b:p<t.length:=bK.mp a
  rw[js (by omega),jt (by omega)]
  congr 1
  have:1<=(t.drop p).length:=by rw[bV];omega
  rw[js this]
 ·simp
theorem zPO (o:Nat):pp o []=[]:=rfl
theorem zPP {o:Nat}{nm e:S}{c:Nat}(h:(e,[c])∈yL o nm):∃l,(zI (e++[c]) o,l)∈yL o nm:=by
 unfold yL at h
 obtain⟨p,b,e1⟩:=ao.mp h
 have d:p<nm.length+1:=bK.mp b
 have f:zI (nm.take p) o=e:=congrArg ug e1
 have a:(nm.drop p).take 1=[c]:=congrArg oZ e1
 have hl:p<nm.length:=by
  by_cases h:p<nm.length
  ·exact h
  ·rw[f7 (by omega)]at a;cases a
 have g:nm.take (p+1)=nm.take p++[c]:=by
  rw[<-a,<-List.take_add]
 refine⟨(nm.drop (p+1)).take 1,?_⟩
 rw[<-f,zBF,<-g]
 exact ao.mpr ⟨p+1,bK.mpr (by omega),rfl⟩
theorem zIF {o:Nat}{bk:List S}{e:S}{c:Nat}(h:(e,[c])∈zA o bk):∃l,(zI (e++[c]) o,l)∈zA o bk:=by
 obtain⟨nm,a,b⟩:=aU.mp h
 obtain⟨l,hl⟩:=zPP b
 exact⟨l,aU.mpr ⟨nm,a,hl⟩⟩
theorem zPQ {o:Nat}{nm e l:S}(h:(e,l)∈yL o nm):l.length<=1:=by
 unfold yL at h
 obtain⟨p,_,e1⟩:=ao.mp h
 have a:(nm.drop p).take 1=l:=congrArg oZ e1
 rw[<-a,aZ];omega
theorem kY {o:Nat}{bk:List S}{e l:S}(h:(e,l)∈zA o bk):l.length<=1:=by
 obtain⟨nm,b,a⟩:=aU.mp h
 exact zPQ a
theorem kZ {l:S}(h:l.length<=1)(a:l≠[]):∃c,l=[c]:=by
 match l,h,a with
 | [c],_,_=>exact⟨c,rfl⟩
theorem zIG (ps:List (S×S)):∀(a:List (S×S)) (w:Int×Int),Fq w->(∃q∈a,q∉ps)->a.foldl (fun w p=>vJ w (zF ps p.1 p.2)) w=(0,1)
 | [],_,_,h=>by obtain⟨q,b,_⟩:=h;cases b
 |p::a,w,d,h=>by
  rw[cC]
  by_cases f:p∈ps
  ·refine zIG ps a _ (zBA d (uU ..)) ?_
   obtain⟨q,b,c⟩:=h
   rcases aL.mp b with e|e
   ·rw[e]at c;exact absurd f c
   ·exact⟨q,e,c⟩
  ·have:zF ps p.1 p.2=(0,1):=zDY f
   rw[this,zNy d]
   exact zHg ps a
theorem zIH {ps:List (S×S)}{o:Nat}{x:S}:0<(vS ps o x).1↔∀q∈yL o x,q∈ps:=by
 constructor
 ·intro h q b
  by_cases a:q∈ps
  ·exact a
  ·have:=zIG ps (yL o x) (1,1) zBB ⟨q,b,a⟩
   unfold vS qO at h
   rw[this]at h
   exact absurd h (by decide)
 ·intro h
  exact zHf _ _ _ zBB (by decide) h
noncomputable def mf (w l:S):Bool:=decide (l≠[])&& (decide (w=[])||decide (w=l))
noncomputable def zBG (nx:S->List S)(o:Nat)(ts:List S)(w:S):List S:=ts.flatMap fun t=>((nx (zI t o)).filter (mf w)).map (t++·)
noncomputable def Tx (nx:S->List S)(o:Nat)(pat:List S):List S:=pat.foldl (zBG nx o) [[]]
noncomputable def zT (w:Int)(q:Int×Int):Int:=w*q.1/q.2
noncomputable def zAc (nx:S->List S)(f:S->S->Int×Int)(o:Nat)(L:List (S×Int))(w:S):List (S×Int):=L.flatMap fun p=>((nx (zI p.1 o)).filter (mf w)).map fun l=>(p.1++l,zT p.2 (f (zI p.1 o) l))
noncomputable def Ws (nx:S->List S)(f:S->S->Int×Int)(o:Nat)(wt:Int)(pat:List S):List (S×Int):=pat.foldl (zAc nx f o) [([],wt)]
noncomputable def k3 (acc:List (S×Int))(p:S×Int):List (S×Int):=zW acc p.1 ((zK acc p.1).getD 0+p.2)
noncomputable def uO (L:List (S×Int)):List (S×Int):=L.foldl k3 []
noncomputable def uV (nx:S->List S)(f:S->S->Int×Int)(o:Nat)(w:S)(p:S×Int):List (S×Int):=((nx p.1).filter (mf w)).map fun l=>(zI (p.1++l) o,zT p.2 (f p.1 l))
noncomputable def zAd (nx:S->List S)(f:S->S->Int×Int)(o:Nat)(ss:List (S×Int))(w:S):List (S×Int):=uO (ss.flatMap (uV nx f o w))
noncomputable def Ss (nx:S->List S)(f:S->S->Int×Int)(o:Nat)(wt:Int)(pat:List S):List (S×Int):=pat.foldl (zAd nx f o) [([],wt)]
structure Addt (D:Int) (φ:S->Int->Int):Prop where
 zero:∀e,φ e 0=0
 add:∀e a b,D∣a->D∣b->φ e (a+b)=φ e a+φ e b
noncomputable abbrev tots (φ:S->Int->Int)(L:List (S×Int)):Int:=(L.map fun p=>φ p.1 p.2).sum
theorem tots_putA (φ:S->Int->Int):∀(a:List (S×Int)) (e:S) (v:Int),tots φ (zW a e v)=tots φ a- ((zK a e).map (φ e)).getD 0+φ e v
 | [],e,v=>by simp[tots,zW,zK]
 |(k,x)::r,e,v=>by
  have ih:=tots_putA φ r e v
  unfold tots at ih⊢
  by_cases h:k=e
  ·subst h
   simp only[zW,zK,if_true,aD,aT,pT,pO]
   omega
  ·simp only[zW,zK,if_neg h,aD,aT]
   rw[ih];omega
theorem zII {D:Int}:∀{b:List (S×Int)}{e:S}{v:Int},(∀p∈b,D∣p.2)->D∣v->∀p∈zW b e v,D∣p.2
 | [],e,v,_,hv,p,a=>by
  have:p=(e,v):=by simpa [zW]using a
  rw[this];exact hv
 |(k,x)::r,e,v,ha,hv,p,a=>by
  by_cases h:k=e
  ·simp only[zW,if_pos h]at a
   rcases aL.mp a with z|z
   ·rw[z];exact hv
   ·exact ha p (aw _ z)
  ·simp only[zW,if_neg h]at a
   rcases aL.mp a with z|z
   ·rw[z];exact ha _ (aq ..)
   ·exact zII (fun q c=>ha q (aw _ c)) hv p z
theorem zPR {D:Int}{a:List (S×Int)}(ha:∀p∈a,D∣p.2)(e:S):D∣ (zK a e).getD 0:=by
 induction a with
 |nil=>exact Int.dvd_zero _
 |cons p r ih=>
  obtain⟨k,x⟩:=p
  by_cases h:k=e
  ·simp only[zK,if_pos h,pO];exact ha _ (aq ..)
  ·simp only[zK,if_neg h];exact ih fun q b=>ha q (aw _ b)
theorem zIJ {D:Int}{φ:S->Int->Int}(A:Addt D φ):∀(L a:List (S×Int)),(∀p∈L,D∣p.2)->(∀p∈a,D∣p.2)->tots φ (L.foldl k3 a)=tots φ a+tots φ L/\∀p∈L.foldl k3 a,D∣p.2
 | [],a,_,ha=>⟨by simp[tots],ha⟩
 |p::L,a,c,ha=>by
  have d:=c p (aq ..)
  have e:=zPR ha p.1
  have b:∀q∈k3 a p,D∣q.2:=zII ha (Int.dvd_add e d)
  obtain⟨i1,i2⟩:=zIJ A L (k3 a p) (fun q f=>c q (aw _ f)) b
  refine⟨?_,i2⟩
  rw[cC,i1]
  unfold k3
  rw[tots_putA]
  have e1:φ p.1 ((zK a p.1).getD 0+p.2)=φ p.1 ((zK a p.1).getD 0)+φ p.1 p.2:=A.add _ _ _ e d
  have h:φ p.1 ((zK a p.1).getD 0)=((zK a p.1).map (φ p.1)).getD 0:=by
   cases zK a p.1 with
   |none=>exact A.zero _
   |some g=>rfl
  have i:tots φ (p::L)=φ p.1 p.2+tots φ L:=by unfold tots;rw[aD,aT]
  rw[e1,h,i]
  omega
theorem zIK {D:Int}{φ:S->Int->Int}(A:Addt D φ){L:List (S×Int)}(c:∀p∈L,D∣p.2):tots φ (uO L)=tots φ L/\∀p∈uO L,D∣p.2:=by
 obtain⟨a,b⟩:=zIJ A L [] c (fun p d=>by cases d)
 exact⟨by rw[show uO L=L.foldl k3 []from rfl,a];simp[tots],b⟩
theorem tots_flat {α:Type}(φ:S->Int->Int)(g:α->List (S×Int)):∀L:List α,tots φ (L.flatMap g)=(L.map fun p=>tots φ (g p)).sum
 | []=>rfl
 |p::L=>by
  rw[c9,aD,aT,<-tots_flat φ g L]
  unfold tots
  rw[aQ,gh]
theorem zIL {D a b:Int}{q:Int×Int}(c:q.2∣D)(ha:D∣a):zT (a+b) q=zT a q+zT b q:=by
 unfold zT
 rw[lW]
 exact Int.add_ediv_of_dvd_left (eI (eI c ha) (o2 ..))
theorem zIM (q:Int×Int):zT 0 q=0:=by unfold zT;rw[iW,Int.zero_ediv]
theorem zBk {U a:Int}{m:Nat}{q:Int×Int}(b:q.2∣U)(e:0<q.2)(ha:U^(m+1)∣a):U^m∣zT a q:=by
 obtain⟨c,rfl⟩:=ha
 obtain⟨d,hd⟩:=b
 unfold zT
 refine⟨d*c*q.1,?_⟩
 refine Int.ediv_eq_of_eq_mul_right (by omega) ?_
 rw[iX]
 conv=>lhs;rw[hd]
 conv=>rhs;rw[hd]
 grind
structure Rel (U:Int) (o m:Nat) (ss L:List (S×Int)):Prop where
 sum:∀φ,Addt (U^m) φ->tots φ ss=tots (fun t w=>φ (zI t o) w) L
 ds:∀p∈ss,U^m∣p.2
 dl:∀p∈L,U^m∣p.2
structure Exact (nx:S->List S) (f:S->S->Int×Int) (U:Int):Prop where
 dv:∀e l,l∈nx e->(f e l).2∣U
 pos:∀e l,l∈nx e->0<(f e l).2
theorem Rel.step {nx:S->List S}{f:S->S->Int×Int}{U:Int}{o m:Nat}{d L:List (S×Int)}(X:Exact nx f U)(R:Rel U o (m+1) d L)(w:S):Rel U o m (zAd nx f o d w) (zAc nx f o L w):=by
 have c:∀{e l},l∈(nx e).filter (mf w)->l∈nx e:=fun h=>(aG.mp h).1
 have d1:∀p∈d.flatMap (uV nx f o w),U^m∣p.2:=fun p j=>by
  obtain⟨q,n,s⟩:=aU.mp j
  obtain⟨l,hl,rfl⟩:=ao.mp s
  exact zBk (X.dv _ _ (c hl)) (X.pos _ _ (c hl)) (R.ds q n)
 have u:∀p∈zAc nx f o L w,U^m∣p.2:=fun p j=>by
  obtain⟨q,n,s⟩:=aU.mp j
  obtain⟨l,hl,rfl⟩:=ao.mp s
  exact zBk (X.dv _ _ (c hl)) (X.pos _ _ (c hl)) (R.dl q n)
 refine⟨fun φ A=>?_,(zIK (φ:=fun _ _=>0) ⟨fun _=>rfl,fun _ _ _ _ _=>rfl⟩ d1).2,u⟩
 unfold zAd
 rw[(zIK A d1).1,tots_flat]
 have g:Addt (U^(m+1)) (fun e v=>tots φ (uV nx f o w (e,v))):=by
  constructor
  ·intro e
   unfold uV tots
   rw[aV]
   have:∀l:List S,(l.map ((fun p:S×Int=>φ p.1 p.2) ∘ fun l=>(zI (e++l) o,zT 0 (f e l)))).sum=0:=by
    intro l
    induction l with
    |nil=>rfl
    |cons x r ih=>
     rw[aD,aT,ih]
     show φ _ (zT 0 _)+0=0
     rw[zIM,A.zero];rfl
   exact this _
  ·intro e a b ha hb
   unfold uV tots
   rw[aV,aV,aV]
   have go:∀ls:List S,(∀l∈ls,l∈nx e)->(ls.map ((fun p:S×Int=>φ p.1 p.2) ∘ fun l=>(zI (e++l) o,zT (a+b) (f e l)))).sum=(ls.map ((fun p:S×Int=>φ p.1 p.2) ∘ fun l=>(zI (e++l) o,zT a (f e l)))).sum+(ls.map ((fun p:S×Int=>φ p.1 p.2) ∘ fun l=>(zI (e++l) o,zT b (f e l)))).sum:=by
    intro ls
    induction ls with
    |nil=>intro _;rfl
    |cons x r ih=>
     intro t
     have i:=t x (aq ..)
     rw[aD,aD,aD,aT,aT,aT,ih fun l hl=>t l (aw _ hl)]
     have e1:φ (zI (e++x) o) (zT (a+b) (f e x))=φ (zI (e++x) o) (zT a (f e x))+φ (zI (e++x) o) (zT b (f e x)):=by
      rw[zIL (D:=U^(m+1)) (eI (X.dv _ _ i) ⟨U^m,by rw[iX,eG]⟩) ha]
      exact A.add _ _ _ (zBk (X.dv _ _ i) (X.pos _ _ i) ha) (zBk (X.dv _ _ i) (X.pos _ _ i) hb)
     show φ (zI (e++x) o) (zT (a+b) (f e x))+_=φ (zI (e++x) o) (zT a (f e x))+_+(φ (zI (e++x) o) (zT b (f e x))+_)
     rw[e1];omega
   exact go _ fun l hl=>c hl
 have y:=R.sum _ g
 have e1:tots (fun e v=>tots φ (uV nx f o w (e,v))) d=(d.map fun p=>tots φ (uV nx f o w p)).sum:=rfl
 rw[<-e1,y]
 unfold zAc
 rw[tots_flat]
 show(L.map fun p=>tots φ (uV nx f o w (zI p.1 o,p.2))).sum=_
 congr 1
 refine dj fun p j=>?_
 unfold uV tots
 rw[aV,aV]
 congr 1
 refine dj fun l hl=>?_
 show φ (zI (zI p.1 o++l) o) _=φ (zI (p.1++l) o) _
 rw[zBF]
theorem Rel.all {nx:S->List S}{f:S->S->Int×Int}{U:Int}{o:Nat}(X:Exact nx f U):∀(a:List S) (m:Nat) (b L:List (S×Int)),Rel U o (m+a.length) b L->Rel U o m (a.foldl (zAd nx f o) b) (a.foldl (zAc nx f o) L)
 | [],m,b,L,R=>R
 |w::a,m,b,L,R=>by
  rw[cC,cC]
  exact Rel.all X a m _ _ (R.step X w)
theorem Rel.start {U a:Int}{o n:Nat}(h:U^n∣a):Rel U o n [([],a)] [([],a)]:=by
 refine⟨fun φ _=>?_,fun p b=>?_,fun p b=>?_⟩
 ·simp[tots,zI]
 ·have:p=([],a):=by simpa using b
  rw[this];exact h
 ·have:p=([],a):=by simpa using b
  rw[this];exact h
theorem zPS {nx:S->List S}{f:S->S->Int×Int}{U b:Int}{o m:Nat}(X:Exact nx f U)(a:List S)(h:U^(m+a.length)∣b):Rel U o m (Ss nx f o b a) (Ws nx f o b a):=Rel.all X a m _ _ (Rel.start h)
theorem zIN {α:Type}{a:List (S×α)}{e:S}{v:α}{k:S}(h:k∈(zW a e v).map (·.1)):k∈a.map (·.1)\/k=e:=by
 rw[zHW]at h
 split at h
 ·exact .inl h
 ·rcases bt.mp h with z|z
  ·exact .inl z
  ·exact .inr (by simpa using z)
theorem zIO:∀(L c:List (S×Int)),(c.map (·.1)).Nodup->((L.foldl k3 c).map (·.1)).Nodup/\∀k∈(L.foldl k3 c).map (·.1),k∈c.map (·.1)\/k∈L.map (·.1)
 | [],c,h=>⟨h,fun k d=>.inl d⟩
 |p::L,c,h=>by
  obtain⟨a,b⟩:=zIO L (k3 c p) (gN h)
  refine⟨a,fun k d=>?_⟩
  rcases b k d with z|z
  ·rcases zIN z with y|y
   ·exact .inl y
   ·exact .inr (by rw[aD,y];exact aq ..)
  ·exact .inr (by rw[aD];exact aw _ z)
theorem zIP (L:List (S×Int)):((uO L).map (·.1)).Nodup/\∀k∈(uO L).map (·.1),k∈L.map (·.1):=by
 obtain⟨a,b⟩:=zIO L [] (by simp)
 exact⟨a,fun k c=>(b k c).elim (fun z=>by cases z) id⟩
end Kn
end
section
namespace Kn
theorem jC {α:Type} [DecidableEq α]:∀(l L:List α),l.Nodup->(∀x∈l,x∈L)->l.length<=L.length
 | [],L,_,_=>bw _
 |x::l,L,b,c=>by
  have d:=c x (aq ..)
  have f:=jC l (L.erase x) (bx.mp b).2 fun y e=>by
   have a:y≠x:=fun z=>(bx.mp b).1 (by rw[<-z];exact e)
   exact(ju a).mpr (c y (aw _ e))
  rw[mh d]at f
  have g:0<L.length:=mT d
  rw[aM];omega
theorem zPT {t:S}(h:t≠[]):∃u c,t=u++[c]:=by
 rcases gr t with z|⟨u,c,z⟩
 ·exact absurd z h
 ·exact⟨u,c,by simpa using z⟩
theorem zBH (nx:S->List S)(o:Nat)(a:List S)(w:S):Tx nx o (a++[w])=zBG nx o (Tx nx o a) w:=by
 unfold Tx;rw[dw];rfl
theorem zPU (nx:S->List S)(f:S->S->Int×Int)(o:Nat)(b:Int)(a:List S)(w:S):Ws nx f o b (a++[w])=zAc nx f o (Ws nx f o b a) w:=by
 unfold Ws;rw[dw];rfl
theorem zIQ (nx:S->List S)(f:S->S->Int×Int)(o:Nat)(b:Int)(a:List S)(w:S):Ss nx f o b (a++[w])=zAd nx f o (Ss nx f o b a) w:=by
 unfold Ss;rw[dw];rfl
structure Lts (ps:List (S×S)) (nx:S->List S):Prop where
 nd:∀e,(nx e).Nodup
 mem:∀e l,l∈nx e↔(e,l)∈ps
noncomputable def jD (ps:List (S×S)):Prop:=∀e l,(e,l)∈ps->l.length<=1
theorem zIR {α β:Type}(g:α->List β):∀(L:List α),L.Nodup->(∀a∈L,(g a).Nodup)->(∀a∈L,∀b∈L,∀x,x∈g a->x∈g b->a=b)->(L.flatMap g).Nodup
 | [],_,_,_=>by simp
 |a::L,d,h,i=>by
  rw[c9]
  refine dQ.mpr ⟨h a (aq ..),zIR g L (bx.mp d).2 (fun b hb=>h b (aw _ hb)) (fun b hb c j=>i b (aw _ hb) c (aw _ j)),fun x l y m e=>?_⟩
  subst e
  obtain⟨b,hb,f⟩:=aU.mp m
  have:=i a (aq ..) b (aw _ hb) x l f
  rw[this]at d
  exact(bx.mp d).1 hb
theorem zBl {u v:S}{c d:Nat}(h:u++[c]=v++[d]):u=v/\c=d:=by
 have:=List.append_inj' h rfl
 exact⟨this.1,by simpa using this.2⟩
noncomputable def zIS (ps:List (S×S))(o n:Nat)(x:S):Prop:=x.length=n/\∀q∈yL o x,q∈ps
noncomputable def Wt (f:S->S->Int×Int)(o:Nat)(wt:Int)(t:S):Int:=(pp o t).foldl (fun w q=>zT w (f q.1 q.2)) wt
theorem zCX {U w:Int}{m:Nat}{q:Int×Int}(a:q.2∣U)(h:U^(m+1)∣w):zT w q*q.2=w*q.1:=by
 unfold zT
 refine nW (eI (eI a ?_) (eI h (o2 ..)))
 exact⟨U^m,by rw[iX,eG]⟩
theorem zIT {U w T:Int}{m:Nat}{q:Int×Int}(d:0<T)(g:0<=w)(c:Fq q)(j:q.2∣U)(h:U^(m+1)∣w):0<=zT w q/\low (zT w q) T=vJ (low w T) q:=by
 have e:=zCX j h
 have f:=uM g d
 have cr:=uL (u:=w) d
 have i:0<=zT w q:=qc (dZ g c.up) (bD c.dn)
 refine⟨i,?_⟩
 unfold vJ
 refine zDV i d (dZ f.up c.up) (cy f.dn c.dn) ?_
 generalize zT w q=a at e
 generalize low w T=b at cr
 grind
theorem zPV (ps a:List (S×S))(p:S×S):qO ps (a++[p])=vJ (qO ps a) (zF ps p.1 p.2):=by
 unfold qO;rw[dw];rfl
theorem zEM {ps:List (S×S)}{U T:Int}(i:0<T)(g:∀e l,(zF ps e l).2∣U):∀(d:List (S×S)) (m:Nat) (w:Int),0<=w->U^(m+d.length)∣w->0<=d.foldl (fun w q=>zT w (zF ps q.1 q.2)) w/\U^m∣d.foldl (fun w q=>zT w (zF ps q.1 q.2)) w/\
  low (d.foldl (fun w q=>zT w (zF ps q.1 q.2)) w) T=d.foldl (fun w p=>vJ w (zF ps p.1 p.2)) (low w T)
 | [],m,w,h,hd=>⟨h,hd,rfl⟩
 |q::d,m,w,h,hd=>by
  have f:U^(m+d.length+1)∣w:=hd
  obtain⟨j,n⟩:=zIT i h (uU ps q.1 q.2) (g q.1 q.2) f
  have o:=zBk (g q.1 q.2) (uU ps q.1 q.2).dn f
  obtain⟨a,b,c⟩:=zEM i g d m (zT w (zF ps q.1 q.2)) j o
  refine⟨a,b,?_⟩
  rw[cC,cC,c,n]
noncomputable def Wn (ps:List (S×S))(o:Nat)(T:Int)(x:S):Int:=zT (Wt (zF ps) o T x) (zF ps (zI x o) [])
theorem zBI {ps:List (S×S)}{o:Nat}{U:Int}(f:0<U)(g:∀e l,(zF ps e l).2∣U){x:S}(j:x.length<=8):0<=Wn ps o (U^9) x/\low (Wn ps o (U^9) x) (U^9)=vS ps o x:=by
 have d:0<U^9:=dR f
 have hl:(pp o x).length=x.length:=by unfold pp;simp
 have hd:U^((8-x.length)+1+(pp o x).length)∣U^9:=by rw[hl,show(8-x.length)+1+x.length=9 by omega];exact o4 _
 obtain⟨a,b,c⟩:=zEM d g (pp o x) (8-x.length+1) (U^9) (bD d) hd
 obtain⟨h,i⟩:=zIT d a (uU ps (zI x o) []) (g _ _) b
 refine⟨h,?_⟩
 show low (zT _ _) _=_
 unfold vS
 rw[zCW,zPV]
 unfold Wt
 rw[i,c,zNw d];rfl
theorem zIU {ps:List (S×S)}{o:Nat}{U:Int}(c:0<U)(f:∀e l,(zF ps e l).2∣U):∀(M:List S) (d:Int),0<=d->(∀x∈M,x.length<=8)->M.foldl (fun w x=>zAz w (vS ps o x)) (low d (U^9))=low (d+(M.map (Wn ps o (U^9))).sum) (U^9)/\0<=d+(M.map (Wn ps o (U^9))).sum
 | [],d,h,_=>by simp[h]
 |x::M,d,h,hl=>by
  obtain⟨a,b⟩:=zBI (o:=o) c f (hl x (aq ..))
  have g:0<U^9:=dR c
  obtain⟨i1,i2⟩:=zIU (o:=o) c f M (d+Wn ps o (U^9) x) (by omega) fun y i=>hl y (aw _ i)
  rw[cC,<-b,zHb g h a,i1,aD,aT,Int.add_assoc]
  exact⟨rfl,by omega⟩
theorem zIV {α:Type} [DecidableEq α] {l:List α}{a:α}(h:l.Nodup)(ha:a∈l):l.count a=1:=by
 have b:=List.nodup_iff_count.mp h a
 have c:=dA.mpr ha
 omega
theorem zBm {α:Type} [DecidableEq α] {l m:List α}(b:l.Nodup)(c:m.Nodup)(h:∀x,x∈l↔x∈m):l.Perm m:=by
 refine(List.perm_iff_count).mpr fun a=>?_
 by_cases ha:a∈l
 ·rw[zIV b ha,zIV c ((h a).mp ha)]
 ·rw[jv ha,jv fun z=>ha ((h a).mpr z)]
theorem zCY {α:Type}(c:α->Bool)(g:α->Int):∀L:List α,(∀a∈L,c a=false->g a=0)->(L.map g).sum=((L.filter c).map g).sum
 | [],_=>rfl
 |a::L,h=>by
  have ih:=zCY c g L fun b hb=>h b (aw _ hb)
  rw[aD,aT,ih]
  cases e:c a with
  |true=>rw[cc e,aD,aT]
  |false=>rw[cg (by rw[e];decide),h a (aq ..) e];omega
theorem zPW {l m:List Int}(h:l.Perm m):l.sum=m.sum:=by
 induction h with
 |nil=>rfl
 |cons x _ ih=>rw[aT,aT,ih]
 |swap x y l=>rw[aT,aT,aT,aT];omega
 |trans _ _ a b=>rw[a,b]
noncomputable def Cl (ps:List (S×S))(o:Nat):Nat->S->Prop
 |0,e=>(e,[])∈ps
 |k+1,e=>∃l,l≠[]/\(e,l)∈ps/\Cl ps o k (zI (e++l) o)
structure AllT (ps:List (S×S)) (o n i:Nat) (A:List S):Prop where
 ris:A.Pairwise (· < ·)
 snd:∀t∈A,t.length=i/\(∀q∈pp o t,q∈ps)/\(0<i->Cl ps o (n-i) (zI t o))
 cmp:∀t,t.length=i->(∀q∈pp o t,q∈ps)->Cl ps o (n-i) (zI t o)->t∈A
theorem zIW:∀{a b:S} (x y:S),a.length=b.length->a<b->a++x<b++y
 | [],[],x,y,_,h=>absurd h (fP _)
 |c::a,d::b,x,y,hl,h=>by
  rw[d8,d8]
  rw[List.cons_lt_cons_iff]at h⊢
  rcases h with h|⟨e,f⟩
  ·exact .inl h
  ·exact .inr ⟨e,zIW x y (by simpa using hl) f⟩
theorem AllT.made {ps:List (S×S)}{o n:Nat}{A:List S}(h:AllT ps o n n A)(i:0<n):A.Nodup/\∀x,x∈A↔zIS ps o n x:=by
 refine⟨h.ris.imp fun{a b} z e=>by rw[e]at z;exact fP _ z,fun x=>?_⟩
 unfold zIS
 rw[zCW]
 constructor
 ·intro j
  obtain⟨f,c,d⟩:=h.snd x j
  have d:=d i
  rw[f6]at d
  refine⟨f,fun q g=>?_⟩
  rcases bt.mp g with z|z
  ·exact c q z
  ·have:q=(zI x o,[]):=by simpa using z
   rw[this];exact d
 ·rintro⟨f,c⟩
  refine h.cmp x f (fun q g=>c q (bY _ g)) ?_
  rw[f6]
  exact c _ (aX _ (c6 _))
end Kn
end
section
namespace Kn.Ln
open PySem L2 Kn
theorem zPX {K:ag}{x z:Str}{t:Tok}(h:bf K mainGlobals x=some (some (.str z t))):∃t,bf K mainGlobals x=some (some (.str z t)):=⟨t,h⟩
noncomputable def z6 (f:ak)(H H':Hp):Prop:=∀b u,b≠f->H b=some u->H' b=some u
theorem z6.refl {f:ak}(H:Hp):z6 f H H:=fun b u _ h=>h
theorem z6.updf {f:ak}{H a:Hp}{u:HO}(s:z6 f H a):z6 f H (upd a f u):=fun b v hb e=>by rw[zG hb];exact s b v hb e
theorem z6.trans {f:ak}{H c a:Hp}(s:z6 f H c)(t:z6 f c a):z6 f H a:=fun b v hb e=>t b v hb (s b v hb e)
theorem z6.of {f:ak}{H a:Hp}(s:zB H a):z6 f H a:=fun b v _ e=>s b v e
theorem z6.seqT {K:ag}{f:ak}{H b:Hp}{a:ak}{xs:List V}(s:z6 f H b)(hf:∀ys,¬Rd H f (.tup ys))(h:z7 K H a xs):z7 K b a xs:=by
 rcases h with h|h
 ·have hb:a≠f:=fun z=>by subst z;exact hf _ h
  rcases h with h|⟨o,h⟩
  ·exact .inl (.inl (s _ _ hb h))
  ·exact .inl (.inr ⟨o,s _ _ hb h⟩)
 ·exact .inr h
theorem z6.frA {K:ag}{f:ak}{H b:Hp}{v:V}{q:Int×Int}(s:z6 f H b)(hf:∀ys,¬Rd H f (.tup ys))(h:z8 K H v q):z8 K b v q:=by
 obtain⟨a,rfl,h⟩:=h
 exact⟨a,rfl,s.seqT hf h⟩
theorem zBJ {H:Hp}{f:ak}{kvs:List (zO×V)}(h:H f=some (.dK kvs)):∀ys,¬Rd H f (.tup ys):=fun ys z=>by
 rcases z with z|⟨o,z⟩<;>rw[h]at z<;>cases z
noncomputable abbrev zN (ps:List (S×S))(e:S):List S:=(vF ps e).map (·.1)
theorem uW (ps:List (S×S))(e l:S):l∈zN ps e↔(e,l)∈ps:=by
 constructor
 ·intro h
  obtain⟨⟨a,n⟩,b,rfl⟩:=ao.mp h
  obtain⟨c,d⟩:=(zDz ps e a n).mp b
  have f:0<ps.count (e,a):=by rw[c]at d;omega
  exact dA.mp f
 ·intro h
  exact ao.mpr ⟨(l,(ps.count (e,l):Int)),(zDz ps e l _).mpr ⟨rfl,by have:=dA.mpr h;omega⟩,rfl⟩
theorem lts (ps:List (S×S)):Lts ps (zN ps):=⟨fun e=>zAZ ps e,fun e l=>uW ps e l⟩
theorem vT (o:Nat)(bk:List S):jD (zA o bk):=fun e l h=>kY h
theorem zCZ (ps:List (S×S))(e:S):(vF ps e).length<=ps.length:=by
 have a:=jC (zN ps e) (ps.map (·.2)) (zAZ _ _) fun l hl=>ao.mpr ⟨_,(uW _ _ _).mp hl,rfl⟩
 rw[ai,ai]at a
 exact a
theorem zEN (x:S)(l:List S):qZ (sv x) (zP l)=decide (x∈l):=by
 unfold qZ zP
 rw[tI]
 induction l with
 |nil=>simp
 |cons y l ih=>
  rw[fF,ih]
  have e:jU (sv y) (sv x)=decide (x=y):=by
   show((tx y)==(tx x))=_
   by_cases z:x=y
   ·subst z;simp
   ·rw[decide_eq_false z,beq_eq_false_iff_ne]
    exact fun q=>z (j9 q).symm
  show(jU (sv y) (sv x)||_)=_
  rw[e]
  by_cases z:x=y
  ·subst z;simp
  ·simp[z]
theorem zEO (l:List S):(zP l).all kN=true:=by
 unfold zP
 rw[mU]
 exact iq.mpr fun _ _=>rfl
theorem zCa {ys:St}(h:ys.length=1):∃y,ys=[y]:=by
 cases ys with
 | nil=>simp at h
 | cons q0 q1=>cases q1 with
  | nil=>exact⟨q0,rfl⟩
  | cons=>simp at h
noncomputable def gO (K:ag)(H:Hp)(pd:ak)(ps:List (S×S))(f:S->S->Int×Int)(r:S×ak×List (S×V)):Prop :=
 r.2.1≠pd/\H r.2.1=some (.dK (zZ id r.2.2))/\r.2.2.map (·.1)=zN ps r.1/\∀q∈r.2.2,z8 K H q.2 (f r.1 q.1)
noncomputable def kA (K:ag)(H:Hp)(pd:ak)(ps:List (S×S))(f:S->S->Int×Int):Prop:=∃pa:List (S×ak×List (S×V)),pa.map (·.1)=(uE ps).map (·.1)/\H pd=some (.dK (zZ (fun v:ak×List (S×V)=>V.ref v.1) pa))/\∀r∈pa,gO K H pd ps f r
theorem gO.same {K:ag}{H a:Hp}{b:ak}{ps:List (S×S)}{f:S->S->Int×Int}{r:S×ak×List (S×V)}(h:gO K H b ps f r)(e:zB H a):gO K a b ps f r :=
 ⟨h.1,e _ _ h.2.1,h.2.2.1,fun q c=>(h.2.2.2 q c).same e⟩
theorem kA.same {K:ag}{H a:Hp}{b:ak}{ps:List (S×S)}{f:S->S->Int×Int}(h:kA K H b ps f)(e:zB H a):kA K a b ps f:=by
 obtain⟨c,d,g,i⟩:=h
 exact⟨c,d,e _ _ g,fun r j=>(i r j).same e⟩
theorem gO.sameX {K:ag}{H b:Hp}{a:ak}{ps:List (S×S)}{f:S->S->Int×Int}{r:S×ak×List (S×V)}(h:gO K H a ps f r)(hd:∀ys,¬Rd H a (.tup ys))(e:z6 a H b):gO K b a ps f r :=
 ⟨h.1,e _ _ h.1 h.2.1,h.2.2.1,fun q c=>e.frA hd (h.2.2.2 q c)⟩
theorem zIX {ps:List (S×S)}{a:List (S×ak×List (S×Int))}(h:a.map (fun r=>(r.1,r.2.2))=uE ps){r:S×ak×List (S×Int)}(b:r∈a):r.2.2=vF ps r.1:=by
 have c:(r.1,r.2.2)∈uE ps:=by rw[<-h];exact ao.mpr ⟨r,b,rfl⟩
 have d:=(y7 (vL ps).nd _ _).mp c
 unfold vF
 rw[d];rfl
theorem zPY {ps:List (S×S)}:(uE ps).length<=ps.length:=by
 have a:=jC ((uE ps).map (·.1)) (ps.map (·.1)) (vL ps).nd fun e b=>by
  obtain⟨⟨c,row⟩,d,rfl⟩:=ao.mp b
  obtain⟨l,hl⟩:=((vL ps).has c).mp ⟨row,(y7 (vL ps).nd _ _).mp d⟩
  exact ao.mpr ⟨_,hl,rfl⟩
 rw[ai,ai]at a
 exact a
theorem zPZ {a:List (S×ak×List (S×Int))}{row:List (S×Int)}(h:zZ (fun v:ak×List (S×Int)=>V.ref v.1) a=z9 row):a=[]:=by
 cases a with
 |nil=>rfl
 |cons r a=>
  cases row with
  |nil=>cases h
  |cons q row=>
   have b:=(iD h).1
   have c:V.ref r.2.1=V.int q.2:=(bM b).2
   cases c
theorem zIY {H:Hp}{d:ak}{a:List (S×ak×List (S×Int))}(hd:H d=some (.dK (zZ (fun v:ak×List (S×Int)=>V.ref v.1) a)))(c:∀r∈a,H r.2.1=some (.dK (z9 r.2.2))):∀r∈a,r.2.1≠d:=fun r b z=>by
 have h:=c r b
 rw[z,hd]at h
 have:=zPZ (HO.dK.inj (aB h))
 rw[this]at b;cases b
section
variable{P:aJ}{w:bh}{K:ag}{mg:Str->Option aj}{base:bF}
noncomputable abbrev zEP:cJ:=top 42
theorem zPa:FnScope ["weight","part"] ["weight","part"] (defScope zEP):=yE
noncomputable def zBn (K:ag):Sp:=fun vs H Q _=>∃(x:Int) (v:V) (q:Int×Int),vs=[.int x,v]/\z8 K H v q/\0<=q.1/\q.1<1000000/\0<q.2/\q.2<1000000/\Q (.int (zT x q)) H
theorem zPb {f:ak}{fd:bc}(F:Fun K "left_of" "left_of" zEP f fd):FnOk P w K mg base z0 1 f fd ["weight","part"] (zBn K):=by
 refine F.ok zPa (fun vs H Q E h=>?_) (fun b A outer s H vs Q E d h=>?_)
 ·obtain⟨x,v,q,rfl,_⟩:=h;rfl
 ·obtain⟨x,v,q,rfl,⟨a,rfl,ha⟩,e,g,c,i,k⟩:=h
  refine⟨_,zL (z5 (zV zAn (zV gF (pv 0) (yA yH (pv 1) zQ (fun _ _=>rfl))) (yA yH (pv 1) zQ (fun _ _=>rfl)))),?_⟩
  exact⟨_,rfl,_,rfl,a,_,0,_,rfl,rfl,ha,rfl,_,_,rfl,rfl,.inr ⟨by omega,by omega⟩,_,rfl,a,_,1,_,rfl,rfl,ha,rfl,_,_,rfl,rfl,⟨c,by omega⟩,k⟩
noncomputable abbrev zEQ:cJ:=top 43
theorem zPc:FnScope ["letter","wanted"] ["letter","wanted"] (defScope zEQ):=yE
noncomputable def zER:Sp:=fun vs H Q _=>∃(l x:S),vs=[sv l,sv x]/\∀H',zB H H'->Q (.bl (mf x l)) H'
theorem zPd {f:ak}{fd:bc}(F:Fun K "may_follow" "may_follow" zEQ f fd)(a:∃t,mg "ANY"=some (.str "" t)):FnOk P w K mg base z0 1 f fd ["letter","wanted"] zER:=by
 obtain⟨u,a⟩:=a
 refine F.ok zPc (fun vs H Q E h=>?_) (fun g A outer s H vs Q E j h=>?_)
 ·obtain⟨x,v,rfl,_⟩:=h;rfl
 ·obtain⟨l,x,rfl,k⟩:=h
  refine⟨_,zL (z5 (zAO (jK zAp (pv 0) vD (vN _)) (gD (jK zGO (pv 1) (uA (zC (yR (v:=.str "") (by rfl) a ⟨_,rfl⟩) (zC (pv 0) zD))) (by with_unfolding_all rfl))))),?_⟩
  refine⟨_,rfl,rfl,_,rfl,?_⟩
  by_cases hl:l=[]
  ·subst hl
   refine gK rfl ?_
   have e:mf x []=false:=by unfold mf;simp
   have:=k H (zB.refl H)
   rw[e]at this
   exact this
  ·have b:¬V.str (tx l)=V.str "" :=fun z=>hl (j9 (V.str.inj z))
   refine zEF b ⟨_,rfl,_,rfl,by show 2<=sizeLine;decide,fun p i=>⟨p,zP [[],l],rfl,.inr (.of zE),rfl,zEO _,?_⟩⟩
   have e:(if false=true then !qZ (sv x) (zP [[],l])else qZ (sv x) (zP [[],l]))=mf x l:=by
    rw[if_neg (by simp),zEN]
    unfold mf
    rw[decide_eq_true hl,oa]
    by_cases c:x=[]
    ·subst c;simp
    ·by_cases d:x=l
     ·subst d;simp
     ·simp[c,d]
   show Q (.bl (if false=true then !qZ (sv x) (zP [[],l])else qZ (sv x) (zP [[],l]))) _
   rw[e]
   exact k _ (zB.upd1 i)
theorem zPe {row:List (S×Int)}{i:Nat}{x:V}(h:((z9 row).map fun p=>kV p.1)[i]?=some x):∃(hi:i<row.length),x=sv row[i].1:=by
 unfold z9 zZ vI at h
 rw[ar,ar,ar]at h
 cases e:row[i]? with
 |none=>rw[e]at h;cases h
 |some q=>
  rw[e]at h
  obtain⟨hi,a⟩:=ah.mp e
  refine⟨hi,?_⟩
  rw[a]
  exact(aB h).symm
theorem zPf (a:List (S×V)):vI (a.map fun q=>(tx q.1,q.2))=zZ id a:=rfl
end
end Kn.Ln
end
section
namespace L2
open PySem PySem.Spec PyProof.Rows
section
variable{X:Cx}
noncomputable def zPg:V->List V->Hp->VK->Prop:=fun x vs H Q=>∃d kvs,x=.ref d/\vs=[]/\Rd H d (.dK kvs)/\∀p,H p=none->Q (.ref p) (upd H p (j4 p d))
theorem zIZ:MtM X "dict.values" zPg:=by
 intro c s σ H x vs v l Q I g i h
 obtain⟨d,kvs,rfl,rfl,hd,q⟩:=h
 cases g
 have a:=i.zero
 subst a
 obtain⟨z,j,ws,rel,f⟩:=qL I.hok hd
 refine iT eE f.typeIs lI (lA _) (oS (vP X.prog X.w) d j) ⟨⟨_,f⟩,?_⟩
 refine⟨.ref s.heap.objs.size,_,I.laid (t':=s.toks) (o:=j4 s.heap.objs.size d) (fun b o e=>ae _ e) (aC _) ?_,rfl,q _ (I.hok.fresh (aC _))⟩
 exact⟨aE _ rfl,⟨_,aE _ rfl⟩,fun m n e k=>k _ e⟩
theorem zIa (E:X.calm=true):qJ X (.builtin "sum") (fun xs H Q=>∃(p d:ak) (a:List (zO×Int)),xs=[.ref p]/\H p=some (j4 p d)/\Rd H d (.dK (a.map fun q=>(q.1,V.int q.2)))/\Q (.int (a.map (·.2)).sum) H):=by
 intro C s σ H xs P Q I r h
 obtain⟨p,d,a,rfl,F,hd,q⟩:=h
 obtain⟨u,rfl,G⟩:=qC r
 cases G
 obtain⟨z,m,ws,rel,J⟩:=qL I.hok hd
 obtain⟨hv,_,_⟩:=I.hok p _ F
 obtain⟨ep,c⟩:=J.dictAt
 have j:ws.length=a.length:=by have:=rel.length;simpa using this.symm
 have n:∀(i:Nat) (v:aj),(∃k,ws[i]?=some (k,v))->∃t,v=Value.int ((a.map (·.2)).getD i 0) t:=fun i v zq=>by
  obtain⟨k,e⟩:=zq
  obtain⟨x,e1,L⟩:=KV.get rel e
  rw[ar]at e1
  cases g:a[i]? with
  |none=>rw[g]at e1;cases e1
  |some l=>
   rw[g]at e1
   have y:(l.1,V.int l.2)=(k,x):=aB e1
   have:x=V.int l.2:=(bM y).2.symm
   subst this
   obtain⟨t,rfl⟩:=L
   refine⟨t,?_⟩
   have:(a.map (·.2)).getD i 0=l.2:=by rw[bZ,ar,g];rfl
   rw[this]
 have D:=PySem.W.kdl_values (knd:=vP X.prog X.w) (kvs:=ws) (ep:=ep) (r:=p) (d:=d)
 obtain⟨M,St,hit,W,st⟩:=D.iter X.A.in1 s (I.ok.hd E) ⟨⟨_,hv,rfl,rfl⟩,c⟩
 have B:=D.there s.heap ⟨⟨_,hv,rfl,rfl⟩,c⟩
 refine oR (hit _ _ ⟨s.heap.objs.size,_,_,_,ws.length,_,_,fun i=>(a.map (·.2)).getD i 0,rfl,W.toS,st,fun b hb=>?_,n,fun s' t' m=>?_⟩)
 ·show b<(s.heap.push M).objs.size
  rw[qz]
  rcases aL.mp hb with e|hb
  ·rw[e];exact dG _
  ·rw[aS.mp hb];exact bT B.2
 have N:∀b o,s.heap.get? b=some o->s'.heap.get? b=some o:=fun b o e=>
  m.heap b o (fun O=>absurd (aF e) (by rw[aS.mp O];exact bN _)) (ae _ e)
 rw[n9 m]
 refine⟨.int (a.map (·.2)).sum,H,I.kept (h':=s'.heap) (t':=s'.toks) N,⟨t',?_⟩,q⟩
 rw[j,<-ai (f:=(·.2)) (as:=a),zDR _ _ (aC _),bo]
noncomputable def zPh (r:V->List V->Hp->VK->Prop)(to:TE):TE:=fun σ H Q=>to σ H fun x H1=>∃a,x=.ref a/\IsD H1 a/\r x [] H1 Q
theorem zIb {o:bS}{to:TE}{name:Str}{apos b:Pos}{id:String}{r:V->List V->Hp->VK->Prop}(slot:Slot "dict" name id)(g:typeOf (.builtin id)=pure (.type "method_descriptor"))(j:MtR X id r)(l:PE X o to)
  (e:attributeBase o name X.env (eval o X.env)=eval o X.env:=by rfl) (f:(apos.endLine==b.line)=true:=by rfl):PE X (.Call (.Attribute o name apos) [] [] b) (zPh r to):=by
 intro c s σ H Q I h
 refine mq e f (zM (l c s σ H _ I h) fun v m zq=>?_)
 obtain⟨x,n,i,p,a,ex,d,q⟩:=zq
 subst ex
 cases p
 obtain⟨t,u,_⟩:=zGd i d
 exact⟨"dict",id,bL,slot,g,t,u,fX rfl (nT (j c m σ n (.ref a) [] _ [] Q i (show zX (.ref a) (.ref a)from rfl) .nil q))⟩
noncomputable def zPi (tk tv:TE):TE:=fun σ H Q=>∀p,H p=none->tk σ (upd H p (.dK [])) fun x H1=>tv σ H1 fun y H2=>H2 p=some (.dK [])/\∃k:zO,x=kV k/\Q (.ref p) (upd H2 p (.dK [(k,y)]))
theorem zIc {k v:bS}{pos:Pos}{tk f:TE}(m:PE X k tk)(hv:PE X v f):PE X (.Dict [some k] [v] pos) (zPi tk f):=by
 intro b s σ H Q I q
 have n:=I.hok.fresh (aC s.heap.objs.size)
 have p:=I.laid (a:=s.heap.objs.size) (o:=.dK []) (h':=s.heap.push {cls:=.type "dict",data:=.dict #[]}) (t':=s.toks) (fun _ _ q=>ae _ q) (aC _) (zGb s.heap I.big)
 have r:PPs X pos [some k] [v] [(tk,f)]:=zMk m hv zMj
 refine wpAny_Dict_any rfl rfl (by simp) (by simp) (zM (r b _ σ _ (fun ps g=>match ps with| [(x,y)]=>g s.heap.objs.size=some (.dK [])/\∃e:zO,x=kV e/\Q (.ref s.heap.objs.size) (upd g s.heap.objs.size (.dK [(e,y)]))|_=>False) p (q _ n)) fun ws F zq=>?_)
 obtain⟨ps,g,i,rel,c⟩:=zq
 cases ps with
 | nil=>exact False.elim c
 | cons q0 q1=>
 cases q1 with
 | cons=>exact False.elim c
 | nil=>
  obtain⟨x,y⟩:=q0
  obtain⟨j,e,ex,c⟩:=c
  cases rel with
  | @cons _ l _ t h u=>
  cases u
  obtain⟨G,l⟩:=l
  obtain⟨h,A⟩:=h
  subst ex
  obtain⟨z,hd,vs,rel,B⟩:=gI i.hok j
  cases rel
  unfold storeAll
  rw[fw]
  refine af (af (nU (knd:=vP X.prog X.w) (hsz:=bw _) (zAS h) B (fun h' d C=>az ?_)))
  show wpAny _ _ (forIn [] _ _) _ _ _
  rw[fN]
  refine az ⟨.ref s.heap.objs.size,_,?_,rfl,c⟩
  have D:∃q,h'.get? s.heap.objs.size=some q:=let⟨q,_,_,E,_⟩:=d;⟨q,E⟩
  exact zCD i (by rw[j];exact True.intro) C D (zCE (by show 1<=sizeLine;decide) hd (KV.put .nil e A) d)
end
end L2
end
section
namespace Kn.Ln
open PySem L2 Kn
noncomputable def qF (row:List (S×Int))(vv:List V):List (S×V):=(row.map (·.1)).zip vv
noncomputable def jX (row:List (S×Int))(vv:List V):List (Str×V):=(qF row vv).map fun q=>(tx q.1,q.2)
theorem zId {row:List (S×Int)}{a:List V}(h:row.length=a.length):(qF row a).map (·.1)=row.map (·.1):=by
 unfold qF
 exact List.map_fst_zip (by rw[ai];omega)
theorem zPj {row:List (S×Int)}{a:List V}(h:row.length=a.length):(jX row a).map (·.1)=(row.map (·.1)).map tx:=by
 unfold jX
 rw[<-zId h,aV,aV];rfl
theorem zIe {row:List (S×Int)}{a:List V}(h:row.length=a.length):(jX row a).length=row.length:=by
 unfold jX qF
 rw[ai,kc,ai];omega
theorem zIf {row:List (S×Int)}{b:List V}{m:Nat}{q:S×V}(h:(qF row b)[m]?=some q):∃(x:S×Int) (v:V),row[m]?=some x/\b[m]?=some v/\q=(x.1,v):=by
 unfold qF at h
 rw[iw]at h
 obtain⟨a,c⟩:=h
 rw[ar]at a
 cases e:row[m]? with
 |none=>rw[e]at a;cases a
 |some x=>
  rw[e]at a
  exact⟨x,q.2,rfl,c,fM (aB a).symm rfl⟩
theorem zPk {row:List (S×Int)}{a:List V}{m:Nat}{q:Str×V}(h:(jX row a)[m]?=some q):∃(x:S×Int) (v:V),row[m]?=some x/\a[m]?=some v/\q=(tx x.1,v):=by
 unfold jX at h
 rw[ar]at h
 cases e:(qF row a)[m]? with
 |none=>rw[e]at h;cases h
 |some r=>
  rw[e]at h
  obtain⟨x,v,b,c,rfl⟩:=zIf e
  exact⟨x,v,b,c,(aB h).symm⟩
theorem zPl {row:List (S×Int)}{a:List V}{q:S×V}(h:q∈qF row a):∃(m:Nat) (x:S×Int) (v:V),row[m]?=some x/\a[m]?=some v/\q=(x.1,v):=by
 obtain⟨m,b,e⟩:=dM h
 obtain⟨x,v,c,d,f⟩:=zIf (ah.mpr ⟨b,e⟩)
 exact⟨m,x,v,c,d,f⟩
theorem zPm (row:List (S×Int))(a:List V):vI (jX row a)=vI ((qF row a).map fun q=>(tx q.1,q.2)):=rfl
section
variable{P:aJ}{w:bh}{K:ag}{mg:Str->Option aj}{base:bF}
theorem zS.imp {k:Nat}{x:Str}{ps:List Str}{sp sp':Sp}(C:zS P w K mg base k x ps sp)(h:∀{vs H Q E},sp' vs H Q E->sp vs H Q E):zS P w K mg base k x ps sp' :=
 let⟨f,fd,F,r⟩:=C;⟨f,fd,F.imp fun _ _ _ _=>h,r⟩
noncomputable def zES (K:ag):Sp:=fun vs H Q _=>∃(d:ak) (ps:List (S×S)) (e l:S),vs=[.ref d,sv l]/\Rd H d (.dK (z9 (vF ps e)))/\ps.length<1000/\∀v H',zB H H'->z8 K H' v (zF ps e l)->Q v H'
theorem zPn {vs:List V}{H:Hp}{Q:VK}{E:XK}(h:zEA K vs H Q E):zES K vs H Q E:=by
 obtain⟨d,ps,e,l,rfl,hd,hl,k⟩:=h
 exact⟨d,ps,e,l,rfl,.inl hd,hl,k⟩
theorem zPo {f:ak}{fd:bc}(F:Fun K "part_in" "part_in" zEB f fd)(B:Blt mg)(C:Cst2 K mg)(r:zS P w K mg base 2 "lowest" ["up","down"] zDt):FnOk P w K mg base z0 3 f fd ["row","letter"] (zES K):=by
 obtain⟨j,t,u⟩:=C.nought
 refine F.ok zOi (fun vs H Q E h=>?_) (fun x A outer s H vs Q E m h=>?_)
 ·obtain⟨d,ps,e,l,rfl,_⟩:=h;rfl
 ·obtain⟨d,ps,e,l,rfl,hd,hl,k⟩:=h
  have n:=gJ m
  refine⟨_,zR (y0 (zFj (zMh n (pv 1) (pv 0))) (zL (z5 (yR (v:=.ref j) (by rfl) t rfl))) yZ)
   (zL (z5 (zH r m rfl (zC (g8 n (pv 0) (pv 1) (fun _ _=>rfl)) (zC (yS (zIa rfl) (by rfl) B.sum gs (zC (zIb eE iE zIZ (pv 0)) zD)) zD))))),?_⟩
  have a:vH H d (sv l) (vR (z9 (vF ps e)) (Sum.inr (tx l))):=.inl ⟨_,Sum.inr (tx l),hd,rfl,rfl⟩
  refine⟨_,rfl,_,rfl,d,_,rfl,a,_,rfl,?_⟩
  rw[jV,zDy]
  by_cases c:0<ps.count (e,l)
  ·rw[if_pos c]
   refine vA ?_
   rw[jV,zDy,if_pos c]at a
   refine⟨_,rfl,_,rfl,d,.int (ps.count (e,l):Int),rfl,a,?_⟩
   refine⟨_,rfl,d,rfl,.inl ⟨_,hd⟩,d,_,rfl,rfl,hd,fun p y=>?_⟩
   have b:zB H (upd H p (j4 p d)):=zB.upd1 y
   have g:Rd (upd H p (j4 p d)) d (.dK (z9 (vF ps e))):=by
    rcases hd with z|⟨o,z⟩
    ·exact .inl (b _ _ z)
    ·exact .inr ⟨o,b _ _ z⟩
   refine⟨p,d,(vF ps e).map (fun q=>((Sum.inr (tx q.1):zO),q.2)),rfl,zE,?_,?_⟩
   ·have e1:((vF ps e).map (fun q=>((Sum.inr (tx q.1):zO),q.2))).map (fun q=>(q.1,V.int q.2))=z9 (vF ps e):=by
     unfold z9 zZ vI
     rw[aV,aV];rfl
    rw[e1];exact g
   ·have e1:(((vF ps e).map fun q=>((Sum.inr (tx q.1):zO),q.2)).map (·.2)).sum=(tot ps e:Int):=by
     rw[aV];exact zHs ps e
    rw[e1]
    have D:=j8 ps e l
    have G:=tot_le ps e
    refine⟨_,_,rfl,by omega,by omega,by omega,fun I i=>k _ _ (b.trans (zB.upd1 i)) ?_⟩
    have:zF ps e l=low (ps.count (e,l):Int) (tot ps e:Int):=by unfold zF;rw[if_neg (by omega)]
    rw[this]
    exact z8.new
  ·rw[if_neg c]
   refine uQ ?_
   have:zF ps e l=(0,1):=by unfold zF;rw[if_pos (by omega)]
   exact k _ _ (zB.refl H) (by rw[this];exact⟨j,rfl,u _⟩)
noncomputable abbrev zET:cJ:=top 41
theorem zIg:FnScope ["rows","parts","end","row"] ["rows"] (defScope zET):=yE
theorem zPp:(["row","letter"]:List Str).Nodup:=by decide+kernel
noncomputable def zEU (K:ag):Sp:=fun vs H Q _=>∃(d:ak) (ps:List (S×S)),vs=[.ref d]/\jQ H d ps/\ps.length<900/\∀pd H',zB H H'->H pd=none->kA K H' pd ps (zF ps)->Q (.ref pd) H'
theorem zPq {f:ak}{fd:bc}(F:Fun K "parts_by_rows" "parts_by_rows" zET f fd)(cP:zS P w K mg base 3 "part_in" ["row","letter"] (zES K))(hdi:mg "dict"=none):FnOk P w K mg base z0 4 f fd ["rows"] (zEU K):=by
 refine F.ok zIg (fun vs H Q E h=>?_) (fun cdv A outer s H vs Q E hr h=>?_)
 ·obtain⟨d,ps,rfl,_⟩:=h;rfl
 ·obtain⟨d,ps,rfl,⟨ra,r1,r2,r3⟩,hps,k⟩:=h
  have hu:=gJ hr
  have nd:=zIg.nd
  refine⟨_,zR (yC (i:=1) nd rfl (Or.inl rfl) zAu)
   (zR (zAb (vX bE rfl (zAa (zAE K rfl bL cZ dy zAV (pv 0)))
     (gE rfl (yW (yB (i:=2) nd rfl (Or.inl rfl)) (yW (yB (i:=3) nd rfl (Or.inr rfl)) qA)))
     (zL (zCF hu (pv 1) (pv 2) (zAr (zNd rfl) (by rfl) hdi tJ (zC
      (zIE (qD (N:=["row","letter"]) (caps:=[3]) rfl (uS (by kernel_rfl)) (zPD (pv 3)) (fun cl X s H ex=>yB (i:=1) zPp rfl (Or.inl rfl)) (fun cl X s H ex=>qM) (fun cl X s H ex=>uA (zC (pv 1) (zC (zH cP hr rfl (zC (pv 0) (zC (pv 1) zD))) zD))))) zD)) rfl))))
   (zL (z5 (pv 1)))),?_⟩
  intro pd hpd
  have sH1:zB H (upd H pd (.dK [])):=zB.upd1 hpd
  have hd1:=sH1 _ _ r2
  have hdpd:pd≠d:=(yK r2 hpd).symm
  refine⟨d,_,hd1,?_⟩
  refine⟨_,rfl,.inr (.inr (.inl ⟨rfl,.inl ⟨_,hd1⟩⟩)),d,_,rfl,rfl,hd1,fun p hp=>?_⟩
  have hp0:H p=none:=sH1.free hp
  have hppd:p≠pd:=fun z=>by subst z;rw[zE]at hp;cases hp
  have sH2:zB (upd H pd (.dK [])) (upd (upd H pd (.dK [])) p (VW p d)):=zB.upd1 hp
  refine⟨p,d,_,rfl,zE,sH2 _ _ hd1,fun ob=>?_⟩
  generalize hkv:zZ (fun v:ak×List (S×Int)=>V.ref v.1) ra=kvs at r2 hd1
  generalize hH3:upd (upd (upd H pd (.dK [])) p (VW p d)) d (.frz ob (.dK kvs))=H3
  have s3:zB (upd H d (.frz ob (.dK kvs))) H3:=fun b u e=>by
   rw[<-hH3]
   by_cases hb:b=d
   ·subst hb;rw[zE]at e⊢;exact e
   ·rw[zG hb]at e⊢
    exact sH2 _ _ (sH1 _ _ e)
  have hpd3:H3 pd=some (.dK (zZ (fun v:ak×List (S×V)=>V.ref v.1) [])):=by
   rw[<-hH3,zG hdpd,zG hppd.symm,zE];rfl
  have hpd0:upd H d (.frz ob (.dK kvs)) pd=none:=by rw[zG hdpd];exact hpd
  have rne:=zIY (by rw[hkv];exact r2) r3
  have ral:ra.length<=ps.length:=by
   have h1:=zPY (ps:=ps)
   rw[<-r1,ai]at h1;exact h1
  refine zBE (fun i σ H'=>(∃x2 x3:Option V,σ=[some (.ref d),some (.ref pd),x2,x3])/\zB (upd H d (.frz ob (.dK kvs))) H'/\∃pa:List (S×ak×List (S×V)),H' pd=some (.dK (zZ (fun v:ak×List (S×V)=>V.ref v.1) pa))/\pa.map (·.1)=(ra.take i).map (·.1)/\∀r∈pa,gO K H' pd ps (zF ps) r)
   ⟨⟨_,_,rfl⟩,s3,[],hpd3,rfl,fun r hr=>by cases hr⟩ (fun i σ H' _ h=>h.2.1 _ _ zE) ?_ ?_
  ·rintro i q T σ H' Nx hN hq ⟨⟨x2,x3,rfl⟩,sm,pa,hpa,hpk,hpr⟩ hT
   rw[<-hkv]at hq
   unfold zZ vI at hq
   rw[ar,ar]at hq
   cases ei:ra[i]? with
   |none=>rw[ei]at hq;cases hq
   |some r0=>
   rw[ei]at hq
   have hq2:q=(Sum.inr (tx r0.1),V.ref r0.2.1):=(aB hq).symm
   subst hq2
   have hmem:r0∈ra:=aY ei
   have hi:i<ra.length:=(ah.mp ei).1
   have etk:ra.take (i+1)=ra.take i++[r0]:=by rw[aA hi,(ah.mp ei).2]
   have hrow:=zIX r1 hmem
   have h0r:upd H d (.frz ob (.dK kvs)) r0.2.1=some (.dK (z9 r0.2.2)):=by rw[zG (rne r0 hmem)];exact r3 r0 hmem
   refine⟨T,[sv r0.1,.ref r0.2.1],rfl,.of zE,rfl,_,_,rfl,_,_,rfl,rfl,?_⟩
   generalize hH4:upd H' T (HO.tup [kV ((Sum.inr (tx r0.1):zO),V.ref r0.2.1).1,((Sum.inr (tx r0.1):zO),V.ref r0.2.1).2])=H4
   have s4:zB H' H4:=by rw[<-hH4];exact zB.upd1 hT
   have hr4:H4 r0.2.1=some (.dK (z9 r0.2.2)):=s4 _ _ (sm _ _ h0r)
   have sm4:=sm.trans s4
   have hpa4:=s4 _ _ hpa
   have hpr4:∀r∈pa,gO K H4 pd ps (zF ps) r:=fun r hr=>(hpr r hr).same s4
   have nrp:r0.2.1≠pd:=fun z=>by rw[z]at h0r;rw[hpd0]at h0r;cases h0r
   refine⟨r0.2.1,z9 r0.2.2,hr4,_,rfl,r0.2.1,_,rfl,hr4,fun ob2=>?_⟩
   have hlen:((z9 r0.2.2).map fun p=>kV p.1).length=r0.2.2.length:=by rw[ai];exact qP _ _
   have hl2:r0.2.2.length<=ps.length:=by rw[hrow];exact zCZ ps r0.1
   have nh5:∀{H5:Hp} {ys:List V},zB (upd H4 r0.2.1 (.frz ob2 (.dK (z9 r0.2.2)))) H5->Rd H5 r0.2.1 (.dK (z9 (vF ps r0.1))):=fun{H5 ys} sj=>.inr ⟨ob2,by rw[<-hrow];exact sj _ _ zE⟩
   refine j5 (zPA r0.2.1 ob2 (z9 r0.2.2)) [some (.ref r0.2.1)] 1 (by rw[hlen];omega) (fun j acc H5=>zB (upd H4 r0.2.1 (.frz ob2 (.dK (z9 r0.2.2)))) H5/\acc.length=j/\∃vv:List V,vv.length=j/\∀(m:Nat) (x:S×Int),(r0.2.2.take j)[m]?=some x->∃a v,acc[m]?=some (.ref a)/\vv[m]?=some v/\H5 a=some (.tup [sv x.1,v])/\z8 K H5 v (zF ps r0.1 x.1))
    ⟨zB.refl _,rfl,[],rfl,fun m x hm=>by simp at hm⟩ (fun j acc H5 _ h=>⟨h.1 _ _ zE,fz h.2.1⟩) ?_ ?_
   ·rintro j x acc H5 ys Nx2 hN2 hx hy ⟨sj,hal,vv,hvl,hac⟩
    obtain⟨y',rfl⟩:=zCa hy
    obtain⟨hj,rfl⟩:=zPe hx
    refine⟨_,rfl,_,rfl,_,rfl,r0.2.1,ps,r0.1,r0.2.2[j].1,rfl,nh5 (ys:=[]) sj,by omega,fun v H5b s5 hv=>?_⟩
    refine⟨by show 2<=sizeLine;decide,fun t ht=>?_⟩
    have s6:zB H5b (upd H5b t (.tup [sv r0.2.2[j].1,v])):=zB.upd1 ht
    refine hN2 _ _ [some (sv r0.2.2[j].1)] rfl ⟨(sj.trans s5).trans s6,by rw[ay,hal];rfl,vv++[v],by rw[ay,hvl];rfl,fun m x hm=>?_⟩
    rw[aA hj]at hm
    have hjl:(r0.2.2.take j).length=j:=by rw[aZ];omega
    by_cases hmj:m<j
    ·rw[aR (by omega)]at hm
     obtain⟨a,u,h1,h2,h3,h4⟩:=hac m x hm
     exact⟨a,u,by rw[aR (by omega)];exact h1,by rw[aR (by omega)];exact h2,(s5.trans s6) _ _ h3,h4.same (s5.trans s6)⟩
    ·rw[aO (by omega),hjl]at hm
     have hm0:m-j=0:=by
      have:=(ah.mp hm).1
      simp at this;omega
     rw[hm0]at hm
     have hx2:r0.2.2[j]=x:=aB hm
     subst hx2
     exact⟨t,v,by rw[aO (by omega),hal,hm0];rfl,by rw[aO (by omega),hvl,hm0];rfl,zE,hv.same s6⟩
   ·rintro acc H5 ⟨sj,hal,vv,hvl,hac⟩ D hD
    rw[hlen,bo]at hac
    rw[hlen]at hal hvl
    have tfz5:∀ys,¬Rd H5 r0.2.1 (.tup ys):=fun ys z=>by
     have:=sj _ _ zE
     rcases z with z|⟨o,z⟩<;>rw[this]at z<;>cases z
    have hfz:H5 r0.2.1=some (.frz ob2 (.dK (z9 r0.2.2))):=sj _ _ zE
    have hneD:r0.2.1≠D:=yK hfz hD
    have sD:zB H5 (upd H5 D (.lst acc)):=zB.upd1 hD
    refine⟨ob2,by rw[zG hneD];exact hfz,?_⟩
    have s7:zB H4 (upd (upd H5 D (.lst acc)) r0.2.1 (.dK (z9 r0.2.2))):=zB.thaw (sj.trans sD) hr4
    generalize hH7:upd (upd H5 D (.lst acc)) r0.2.1 (.dK (z9 r0.2.2))=H7 at s7
    have hD7:H7 D=some (.lst acc):=by rw[<-hH7,zG hneD.symm,zE]
    have sx7:z6 r0.2.1 H5 H7:=by
     rw[<-hH7]
     exact(z6.of sD).trans (z6.refl _).updf
    have hac7:zDU K H7 acc (jX r0.2.2 vv):=by
     refine⟨by rw[zIe hvl.symm];exact hal,fun m x hm=>?_⟩
     obtain⟨x0,v0,em,ev,rfl⟩:=zPk hm
     obtain⟨a,v,h1,h2,h3,h4⟩:=hac m x0 em
     rw[ev]at h2
     cases h2
     have hna:a≠r0.2.1:=fun z=>by rw[z,hfz]at h3;cases h3
     exact⟨a,h1,.of (sx7 _ _ hna h3)⟩
    have hfr7:∀q∈qF r0.2.2 vv,z8 K H7 q.2 (zF ps r0.1 q.1):=fun q hq=>by
     obtain⟨m,x0,v0,em,ev,rfl⟩:=zPl hq
     obtain⟨a,v,h1,h2,h3,h4⟩:=hac m x0 em
     rw[ev]at h2
     cases h2
     exact sx7.frA tfz5 h4
    refine⟨D,acc,_,rfl,.of hD7,hac7,?_,by rw[zIe hvl.symm];omega,fun rd hrd=>?_⟩
    ·have hnd:(r0.2.2.map (·.1)).Nodup:=by rw[hrow];exact zAZ ps r0.1
     have e:lE (·.1) (jX r0.2.2 vv)=(r0.2.2.map (·.1)).map tx:=zPj hvl.symm
     rw[e]
     exact o5 tx (fun a b hab z=>hab (j9 z)) hnd
    have s8:zB H7 (upd H7 rd (.dK (vI (jX r0.2.2 vv)))):=zB.upd1 hrd
    have hpa7:=s8 _ _ (s7 _ _ hpa4)
    refine⟨_,rfl,_,rfl,pd,_,rfl,g7.k (k:=Sum.inr (tx r0.1)) hpa7 (by rw[qP,<-ai (f:=(·.1)),hpk,ai,aZ,aI];omega),?_⟩
    have hnrd:pd≠rd:=yK (s7 _ _ hpa4) hrd
    have knd:(pa.map (·.1)).Nodup:=by
     rw[hpk,sJ]
     have h:=(vL ps).nd
     rw[<-r1,aV]at h
     exact h.sublist (gy _ _)
    have fresh:r0.1∉pa.map (·.1):=fun h1=>by
     rw[hpk]at h1
     have h:=(vL ps).nd
     rw[<-r1,aV]at h
     have h2:((ra.take (i+1)).map (·.1)).Nodup:=by rw[sJ];exact h.sublist (gy _ _)
     rw[etk,aQ]at h2
     exact(dQ.mp h2).2.2 _ h1 _ (by simp) rfl
    have eput:=zBh (fun v:ak×List (S×V)=>V.ref v.1) pa r0.1 (rd,qF r0.2.2 vv) knd
    have eputA:zW pa r0.1 (rd,qF r0.2.2 vv)=pa++[(r0.1,rd,qF r0.2.2 vv)]:=zCS pa _ _ fresh
    rw[eputA]at eput
    have sx:z6 pd (upd H7 rd (.dK (vI (jX r0.2.2 vv)))) (upd (upd H7 rd (.dK (vI (jX r0.2.2 vv)))) pd (.dK (uK (zZ (fun v:ak×List (S×V)=>V.ref v.1) pa) (Sum.inr (tx r0.1)) (V.ref rd)))):=(z6.refl _).updf
    refine hN _ _ ⟨⟨_,_,rfl⟩,fun b u e=>?_,pa++[(r0.1,rd,qF r0.2.2 vv)],?_,?_,fun r hr=>?_⟩
    ·have hb:b≠pd:=fun z=>by rw[z,hpd0]at e;cases e
     exact sx _ _ hb (s8 _ _ (s7 _ _ (sm4 _ _ e)))
    ·rw[zE]
     exact congrArg (fun z=>some (HO.dK z)) eput
    ·rw[aQ,hpk,etk,aQ];rfl
    ·rcases bt.mp hr with z|z
     ·exact(((hpr4 r z).same s7).same s8).sameX (zBJ hpa7) sx
     ·have hr2:r=(r0.1,rd,qF r0.2.2 vv):=aS.mp z
      subst hr2
      refine⟨hnrd.symm,?_,?_,fun q hq=>?_⟩
      ·refine sx _ _ hnrd.symm ?_
       rw[zE,<-zPf,zPm]
      ·show lE (·.1) (qF r0.2.2 vv)=_
       rw[zId hvl.symm,hrow]
      ·exact sx.frA (zBJ hpa7) ((hfr7 q hq).same s8)
  ·rintro σ H' ⟨⟨x2,x3,rfl⟩,sm,pa,hpa,hpk,hpr⟩
   refine⟨ob,sm _ _ zE,_,rfl,?_⟩
   have sfin:zB H (upd H' d (.dK kvs)):=zB.thaw sm r2
   have hel:(zZ (fun v:ak×List (S×Int)=>V.ref v.1) ra).length=ra.length:=qP _ _
   rw[<-hkv,hel,bo]at hpk
   have tfz:∀ys,¬Rd H' d (.tup ys):=fun ys z=>by
    have:=sm _ _ zE
    rcases z with z|⟨o,z⟩<;>rw[this]at z<;>cases z
   refine k pd _ sfin hpd ⟨pa,?_,?_,fun r hr=>?_⟩
   ·rw[hpk,<-r1,aV];rfl
   ·rw[zG hdpd];exact hpa
   ·obtain⟨h1,h2,h3,h4⟩:=hpr r hr
    have hrd:r.2.1≠d:=fun z=>by
     rw[z]at h2
     rw[sm _ _ zE]at h2;cases h2
    have sx:z6 d H' (upd H' d (.dK kvs)):=(z6.refl _).updf
    exact⟨h1,by rw[zG hrd];exact h2,h3,fun q hq=>sx.frA tfz (h4 q hq)⟩
end
theorem tots_le (ps:List (S×S)):∀a:List S,a.Nodup->(a.map (tot ps)).sum<=ps.length:=by
 induction ps with
 |nil=>
  intro a _
  have:∀a:List S,(a.map (tot [])).sum=0:=by
   intro a
   induction a with
   |nil=>rfl
   |cons e a ih=>rw[aD,aT,ih];rfl
  rw[this];exact bw _
 |cons p ps ih=>
  intro a b
  have m:=ih a b
  have go:∀a:List S,a.Nodup->(a.map (tot (p::ps))).sum=(a.map (tot ps)).sum+(if p.1∈a then 1 else 0):=by
   intro a
   induction a with
   |nil=>intro _;rfl
   |cons e a d=>
    intro j
    obtain⟨f,g⟩:=bx.mp j
    rw[aD,aT,d g,aD,aT]
    have l:tot (p::ps) e=tot ps e+(if p.1=e then 1 else 0):=by
     unfold tot
     by_cases c:p.1=e
     ·rw[cc (by simpa using c),if_pos c,aM]
     ·rw[cg (by simpa using c),if_neg c,mQ]
    rw[l]
    by_cases c:p.1=e
    ·have h:p.1∉a:=fun z=>f (c▸z)
     rw[if_pos c,if_neg h,if_pos (by rw[c];exact aq ..)]
     omega
    ·rw[if_neg c]
     by_cases i:p.1∈a
     ·rw[if_pos i,if_pos (aw _ i)];omega
     ·rw[if_neg i,if_neg (fun z=>by rcases aL.mp z with z|z<;>contradiction)];omega
  rw[go a b,aM]
  split<;>omega
theorem zIh {ps:List (S×S)}{U:Int}(h:∀e,(∃l,(e,l)∈ps)->(tot ps e:Int)∣U)(e l:S):(zF ps e l).2∣U:=by
 unfold zF
 by_cases c:ps.count (e,l)=0
 ·rw[if_pos c];exact Int.one_dvd _
 ·rw[if_neg c]
  have a:(e,l)∈ps:=dA.mp (by omega)
  refine eI ?_ (h e ⟨l,a⟩)
  show(tot ps e:Int)/yM (ps.count (e,l):Int) (tot ps e:Int)∣_
  have b:yM (ps.count (e,l):Int) (tot ps e:Int)∣ (tot ps e:Int):=fB ..
  exact⟨yM (ps.count (e,l):Int) (tot ps e:Int),(nW b).symm⟩
section
variable{P:aJ}{w:bh}{K:ag}{mg:Str->Option aj}{base:bF}
noncomputable abbrev sCM:cJ:=top 39
theorem zPr:FnScope ["one","other"] ["one","other"] (defScope sCM):=yE
noncomputable def zIi:Sp:=fun vs H Q _=>∃u d:Int,vs=[.int u,.int d]/\0<=u/\0<d/\d<1073741824/\Q (.int (u/yM u d*d)) H
theorem zPs {f:ak}{fd:bc}(F:Fun K "common_multiple" "common_multiple" sCM f fd)(b:zS P w K mg base 1 "greatest_divisor" ["one","other"] zDr):FnOk P w K mg base z0 2 f fd ["one","other"] zIi:=by
 refine F.ok zPr (fun vs H Q E h=>?_) (fun c A outer s H vs Q E e h=>?_)
 ·obtain⟨u,d,rfl,_⟩:=h;rfl
 ·obtain⟨u,d,rfl,g,a,i,k⟩:=h
  refine⟨_,zL (z5 (zV gF (zV zAn (pv 0) (zH b e rfl (zC (pv 0) (zC (pv 1) zD)))) (pv 1))),?_⟩
  have g1:=zBf (u:=u) a
  have g2:yM u d<=d:=sL a (fB ..)
  exact⟨_,rfl,_,rfl,_,rfl,u,d,rfl,g,a,i,_,_,rfl,rfl,⟨g1,by omega⟩,_,rfl,_,_,rfl,rfl,.inr ⟨by omega,by omega⟩,k⟩
theorem zPt {u d:Int}(f:0<u)(hd:0<d):0<u/yM u d*d/\u∣u/yM u d*d/\d∣u/yM u d*d/\u/yM u d*d<=u*d:=by
 have g1:=zBf (u:=u) hd
 obtain⟨a,ha⟩:yM u d∣u:=mC ..
 obtain⟨b,hb⟩:yM u d∣d:=fB ..
 have e1:u/yM u d=a:=by
  have:u/yM u d=(yM u d*a)/yM u d:=by rw[<-ha]
  rw[this];exact Int.mul_ediv_cancel_left _ (by omega)
 rw[e1]
 have e:0<a:=by
  by_cases c:0<a
  ·exact c
  ·have:yM u d*a<=0:=Int.mul_nonpos_of_nonneg_of_nonpos (by omega) (by omega)
   omega
 refine⟨cy e hd,⟨b,?_⟩,⟨a,eG ..⟩,?_⟩
 ·calc a*d=a*(yM u d*b):=by rw[<-hb]
   _=(yM u d*a)*b:=by rw[<-sI,eG a]
   _=u*b:=by rw[<-ha]
 ·refine dI ?_ (by omega)
  have:1*a<=yM u d*a:=dI (by omega) (by omega)
  omega
noncomputable abbrev sWW:cJ:=top 40
theorem zIj:FnScope ["rows","unit","row"] ["rows"] (defScope sWW):=yE
noncomputable def zEV:Sp:=fun vs H Q _=>∃(d:ak) (ps:List (S×S)),vs=[.ref d]/\jQ H d ps/\ps.length<=60/\∀U H',zB H H'->0<U->(∀e l,(zF ps e l).2∣U)->U<=2^60->Q (.int (U^9)) H'
theorem zIk (t:Nat)(h:0<t):(t:Int)<=2^t:=by
 have a:t<2^t:=Nat.lt_two_pow_self
 have b:((2^t:Nat):Int)=(2:Int)^t:=by simp
 omega
theorem zPu {f:ak}{fd:bc}(F:Fun K "whole_weight" "whole_weight" sWW f fd)(B:Blt mg)(c1:zS P w K mg base 2 "common_multiple" ["one","other"] zIi):FnOk P w K mg base z0 3 f fd ["rows"] zEV:=by
 refine F.ok zIj (fun vs H Q E h=>?_) (fun al A outer s H vs Q E m h=>?_)
 ·obtain⟨d,ps,rfl,_⟩:=h;rfl
 ·obtain⟨d,ps,rfl,⟨c,R,n,r3⟩,am,k⟩:=h
  have hu:=gJ m
  have nd:=zIj.nd
  refine⟨_,zR (yC (i:=1) nd rfl (Or.inl rfl) zQ)
   (zR (zAb (vX bE rfl (zPM (zAE K rfl bL eE iE zNC (pv 0))) (yB (i:=2) nd rfl (Or.inl rfl))
     (zL (yC (i:=1) nd rfl (Or.inl rfl) (zH c1 m rfl (zC (pv 1) (zC (yS (zIa rfl) (by rfl) B.sum gs (zC (zIb eE iE zIZ (pv 2)) zD)) zD)))))))
   (zL (z5 (zV zLe (pv 1) zQ)))),?_⟩
  refine⟨d,_,n,?_⟩
  refine⟨_,rfl,.inr (.inr (.inl ⟨rfl,.inl ⟨_,n⟩⟩)),d,_,rfl,rfl,n,fun p hp=>?_⟩
  have G:zB H (upd H p (j4 p d)):=zB.upd1 hp
  refine⟨p,d,_,rfl,zE,G _ _ n,fun I=>?_⟩
  have W:=zIY n r3
  generalize J:zZ (fun v:ak×List (S×Int)=>V.ref v.1) c=kvs at n
  have s3:zB (upd H d (.frz I (.dK kvs))) (upd (upd H p (j4 p d)) d (.frz I (.dK kvs))):=fun b u e=>by
   by_cases hb:b=d
   ·subst hb;rw[zE]at e⊢;exact e
   ·rw[zG hb]at e⊢
    exact G _ _ e
  have knd:(c.map (·.1)).Nodup:=by
   have h:=(vL ps).nd
   rw[<-R,aV]at h
   exact h
  refine qN (zPJ d I kvs) (fun i σ o=>(∃(U:Int) (X:Option V),σ=[some (.ref d),some (.int U),X]/\0<U/\(∀r∈c.take i,(tot ps r.1:Int)∣U)/\U<=2^(((c.take i).map (·.1)).map (tot ps)).sum)/\zB (upd H d (.frz I (.dK kvs))) o)
   ⟨⟨1,_,rfl,by decide,fun r m=>(by cases m),by simp⟩,s3⟩ (fun i σ o _ h=>h.2 _ _ zE) ?_ ?_
  ·rintro i x σ o Nx hN t ⟨⟨U,X,rfl,y,j,C⟩,L⟩
   rw[<-J]at t
   unfold zZ vI at t
   rw[ar,ar,ar]at t
   cases M:c[i]? with
   |none=>rw[M]at t;cases t
   |some a=>
   rw[M]at t
   have hx2:x=V.ref a.2.1:=(aB t).symm
   subst hx2
   have g:a∈c:=aY M
   have hi:i<c.length:=(ah.mp M).1
   have N:c.take (i+1)=c.take i++[a]:=by rw[aA hi,(ah.mp M).2]
   have O:=zIX R g
   have D:o a.2.1=some (.dK (z9 a.2.2)):=L _ _ (by rw[zG (W a g)];exact r3 a g)
   refine⟨_,rfl,_,rfl,a.2.1,rfl,.inl ⟨_,.inl D⟩,a.2.1,_,rfl,rfl,.inl D,fun Y Z=>?_⟩
   have s5:zB o (upd o Y (j4 Y a.2.1)):=zB.upd1 Z
   refine⟨Y,a.2.1,a.2.2.map (fun q=>((Sum.inr (tx q.1):zO),q.2)),rfl,zE,.inl ?_,?_⟩
   ·rw[s5 _ _ D]
    unfold z9 zZ vI
    rw[aV,aV];rfl
   ·have e1:((a.2.2.map fun q=>((Sum.inr (tx q.1):zO),q.2)).map (·.2)).sum=(tot ps a.1:Int):=by
     rw[aV,O];exact zHs ps a.1
    rw[e1]
    have aa:0<tot ps a.1:=by
     obtain⟨l,hl⟩:=((vL ps).has a.1).mp ⟨a.2.2,(y7 (vL ps).nd _ _).mp (by rw[<-R];exact ao.mpr ⟨a,g,rfl⟩)⟩
     have h1:=j8 ps a.1 l
     have h2:=dA.mpr hl
     omega
    have an:tot ps a.1<=ps.length:=dq ..
    obtain⟨q1,q2,q3,q4⟩:=zPt y (d:=(tot ps a.1:Int)) (by omega)
    refine⟨U,(tot ps a.1:Int),rfl,by omega,by omega,by omega,hN _ _ ⟨⟨_,_,rfl,q1,fun r m=>?_,?_⟩,L.trans s5⟩⟩
    ·rw[N]at m
     rcases bt.mp m with z|z
     ·exact eI (j r z) q2
     ·rw[aS.mp z];exact q3
    ·rw[N,aQ,aQ,gh,nL]
     refine tK q4 ?_
     have h2:=zIk (tot ps a.1) aa
     have e2:(lE (tot ps) (lE (·.1) [a])).sum=tot ps a.1:=by simp
     rw[e2]
     exact ia C h2 (by omega) (Int.pow_nonneg (by decide))
  ·rintro σ o ⟨⟨U,X,rfl,y,j,C⟩,L⟩
   have ab:(kvs.map fun p=>p.2).length=c.length:=by rw[ai,<-J];exact qP _ _
   rw[ab,bo]at j C
   have hb:U<=2^60:=by
    have h1:=tots_le ps (c.map (·.1)) knd
    have T:2^((c.map (·.1)).map (tot ps)).sum<=2^60:=jw (by decide) (by omega)
    have h4:((2^((c.map (·.1)).map (tot ps)).sum:Nat):Int)=(2:Int)^((c.map (·.1)).map (tot ps)).sum:=by simp
    have h5:((2^60:Nat):Int)=(2:Int)^60:=by simp
    have h2:(2:Int)^((c.map (·.1)).map (tot ps)).sum<=2^60:=by rw[<-h4,<-h5];exact tL.mpr T
    omega
   refine⟨I,L _ _ zE,_,rfl,_,_,rfl,rfl,⟨by decide,by decide,by omega⟩,?_⟩
   refine k U _ (zB.thaw L n) y (zIh fun e zq=>?_) hb
   obtain⟨l,hl⟩:=zq
   obtain⟨row,ac⟩:=((vL ps).has e).mpr ⟨l,hl⟩
   have T:=(y7 (vL ps).nd _ _).mpr ac
   rw[<-R]at T
   obtain⟨r,hr1,hr2⟩:=ao.mp T
   have he:r.1=e:=(bM hr2).1
   rw[<-he]
   exact j r hr1
end
theorem zBK {bk:List S}{o:Nat}(hb:Bk bk o):(zA o bk).length<=72:=by
 have a:((zA o bk).length:Int)<=72:=by
  rw[zCN]
  have go:∀l:List S,(∀x∈l,x.length<=8)->(l.map fun x=>(x.length:Int)+1).sum<=9*(l.length:Int):=by
   intro l
   induction l with
   |nil=>intro _;simp
   |cons x r ih=>
    intro hl
    have c:=hl x (aq ..)
    have a:=ih fun y b=>hl y (aw _ b)
    rw[aD,aT,aM]
    have:((r.length+1:Nat):Int)=(r.length:Int)+1:=rfl
    omega
  have:=go bk hb.l8
  have:=hb.hi
  omega
 omega
theorem zIl {o:Nat}{bk:List S}{e l:S}(h:(e,l)∈zA o bk):e.length<=o:=by
 obtain⟨x,_,h⟩:=aU.mp h
 obtain⟨p,_,h⟩:=ao.mp h
 rw[<- (bM h).1]
 exact zNu _ _
structure SumsOk (ps:List (S×S)) (ss:List (S×Int)):Prop where
 nd:(ss.map (·.1)).Nodup
 rows:∀p∈ss,∃l,(p.1,l)∈ps
theorem zEW {o:Nat}{bk:List S}{f:S->S->Int×Int}{x:S}{p q:S×Int}(d:q∈uV (zN (zA o bk)) f o x p):∃l,(q.1,l)∈zA o bk:=by
 obtain⟨l,hl,rfl⟩:=ao.mp d
 obtain⟨e,a⟩:=aG.mp hl
 have b:=(uW _ _ _).mp e
 have g:l≠[]:=fun z=>by
  unfold mf at a
  rw[z]at a;simp at a
 obtain⟨c,rfl⟩:=kZ (kY b) g
 exact zIF b
theorem SumsOk.step {o:Nat}{bk:List S}{f:S->S->Int×Int}{a:List (S×Int)}{x:S}(h:SumsOk (zA o bk) a):SumsOk (zA o bk) (zAd (zN (zA o bk)) f o a x):=by
 obtain⟨c,d⟩:=zIP (a.flatMap (uV (zN (zA o bk)) f o x))
 refine⟨c,fun p g=>?_⟩
 obtain⟨q,b,e⟩:=ao.mp (d p.1 (ao.mpr ⟨p,g,rfl⟩))
 obtain⟨i,_,b⟩:=aU.mp b
 rw[<-e]
 exact zEW b
theorem SumsOk.len {ps:List (S×S)}{a:List (S×Int)}(h:SumsOk ps a):a.length<=ps.length:=by
 have b:=jC (a.map (·.1)) (ps.map (·.1)) h.nd fun e c=>by
  obtain⟨p,d,rfl⟩:=ao.mp c
  obtain⟨l,hl⟩:=h.rows p d
  exact ao.mpr ⟨_,hl,rfl⟩
 rw[ai,ai]at b
 exact b
noncomputable def Smf (f:S->S->Int×Int):Prop:=∀e l,0<=(f e l).1/\(f e l).1<1000000/\0<(f e l).2/\(f e l).2<1000000
theorem kA.row {K:ag}{H:Hp}{a:ak}{ps:List (S×S)}{f:S->S->Int×Int}(h:kA K H a ps f){e l:S}(hl:(e,l)∈ps) :
  ∃(b:ak) (c:List (S×V)),vH H a (sv e) (some (.ref b))/\b≠a/\H b=some (.dK (zZ id c))/\c.map (·.1)=zN ps e/\∀q∈c,z8 K H q.2 (f e q.1):=by
 obtain⟨g,i,m,n⟩:=h
 have knd:(g.map (·.1)).Nodup:=by rw[i];exact(vL ps).nd
 obtain⟨row,d⟩:=((vL ps).has e).mpr ⟨l,hl⟩
 have o:e∈g.map (·.1):=by rw[i];exact ao.mpr ⟨_,(y7 (vL ps).nd _ _).mpr d,rfl⟩
 obtain⟨r,j,rfl⟩:=ao.mp o
 obtain⟨g1,g2,g3,p⟩:=n r j
 refine⟨r.2.1,r.2.2,?_,g1,g2,g3,p⟩
 have:=vH.k (k:=Sum.inr (tx r.1)) m
 rw[jV,(y7 knd r.1 r.2).mp j]at this
 exact this
theorem zIm {b:List (S×Int)}{α:Type}{g:α->V}(e:∀a,∃x,g a=V.ref x){c:List (S×α)}(h:z9 b=zZ g c)(f:b≠[]):False:=by
 cases b with
 |nil=>exact f rfl
 |cons p b=>
  cases c with
  |nil=>cases h
  |cons r c=>
   have i:=(iD h).1
   have d:V.int p.2=g r.2:=(bM i).2
   obtain⟨x,j⟩:=e r.2
   rw[j]at d;cases d
section
variable{P:aJ}{w:bh}{K:ag}{mg:Str->Option aj}{base:bF}
noncomputable abbrev zEX:cJ:=top 44
theorem zIn:FnScope ["parts","order","sums","wanted","found","end","weight","letter","part","reached"] ["parts","order","sums","wanted"] (defScope zEX):=yE
noncomputable def zIo (K:ag):Sp:=fun vs H Q _=>∃(pd sd:ak) (o:Nat) (bk:List S) (f:S->S->Int×Int) (ss:List (S×Int)) (x:S),vs=[.ref pd,.int o,.ref sd,sv x]/\Bk bk o/\kA K H pd (zA o bk) f/\Smf f/\H sd=some (.dK (z9 ss))/\SumsOk (zA o bk) ss/\
 ∀fo H',zB H H'->H fo=none->H' fo=some (.dK (z9 (zAd (zN (zA o bk)) f o ss x)))->Q (.ref fo) H'
theorem zPv {f:ak}{fd:bc}(F:Fun K "next_sums" "next_sums" zEX f fd)(cF:zS P w K mg base 1 "may_follow" ["letter","wanted"] zER)(cEnd:zS P w K mg base 1 "end_of" ["text","order"] zCQ)(cL:zS P w K mg base 1 "left_of" ["weight","part"] (zBn K)) :
  FnOk P w K mg base z0 2 f fd ["parts","order","sums","wanted"] (zIo K):=by
 refine F.ok zIn (fun vs H Q E h=>?_) (fun cdv A outer s H vs Q E hr h=>?_)
 ·obtain⟨pd,sd,o,bk,f,ss,x,rfl,_⟩:=h;rfl
 ·obtain⟨pd,sd,o,bk,ff,ss,x,rfl,hb,hP,hS,hsd,hss,k⟩:=h
  have hu:=gJ hr
  have nd:=zIn.nd
  refine⟨_,zR (yC (i:=4) nd rfl (Or.inl rfl) zAu)
   (zR (zAb (vX bE rfl (zAa (zAE K rfl bL cZ dy zAV (pv 2)))
     (gE rfl (yW (yB (i:=5) nd rfl (Or.inl rfl)) (yW (yB (i:=6) nd rfl (Or.inl rfl)) qA)))
     (zL (zAb (vX bE rfl (zAa (zAE K rfl bL cZ dy zAV (g8 hu (pv 0) (pv 5) (fun _ _=>rfl))))
      (gE rfl (yW (yB (i:=7) nd rfl (Or.inl rfl)) (yW (yB (i:=8) nd rfl (Or.inl rfl)) qA)))
      (zL (y0 (vW (zH cF hr rfl (zC (pv 7) (zC (pv 3) zD))))
       (zR (yC (i:=9) nd rfl (Or.inl rfl) (zH cEnd hr rfl (zC (zV zBY (pv 5) (pv 7)) (zC (pv 1) zD))))
       (zL (zCF hu (pv 4) (pv 9) (zV y6 (zCG hu (pv 4) (pv 9) zQ ⟨rfl,rfl,rfl,rfl⟩) (zH cL hr rfl (zC (pv 6) (zC (pv 8) zD)))) rfl)))
       yZ)))))))
   (zL (z5 (pv 4)))),?_⟩
  intro fo hfo
  have sH1:zB H (upd H fo (.dK [])):=zB.upd1 hfo
  have hd1:=sH1 _ _ hsd
  have hsfo:fo≠sd:=(yK hsd hfo).symm
  refine⟨sd,_,hd1,?_⟩
  refine⟨_,rfl,.inr (.inr (.inl ⟨rfl,.inl ⟨_,hd1⟩⟩)),sd,_,rfl,rfl,hd1,fun p hp=>?_⟩
  have hpfo:p≠fo:=fun z=>by subst z;rw[zE]at hp;cases hp
  have sH2:zB (upd H fo (.dK [])) (upd (upd H fo (.dK [])) p (VW p sd)):=zB.upd1 hp
  refine⟨p,sd,_,rfl,zE,sH2 _ _ hd1,fun ob=>?_⟩
  generalize hH3:upd (upd (upd H fo (.dK [])) p (VW p sd)) sd (.frz ob (.dK (z9 ss)))=H3
  have s3:zB (upd H sd (.frz ob (.dK (z9 ss)))) H3:=fun b u e=>by
   rw[<-hH3]
   by_cases hb:b=sd
   ·subst hb;rw[zE]at e⊢;exact e
   ·rw[zG hb]at e⊢
    exact sH2 _ _ (sH1 _ _ e)
  have hfo3:H3 fo=some (.dK (z9 [])):=by
   rw[<-hH3,zG hsfo,zG hpfo.symm,zE];rfl
  have hfo0:upd H sd (.frz ob (.dK (z9 ss))) fo=none:=by rw[zG hsfo];exact hfo
  have h72:=zBK hb
  have hsl:=hss.len
  refine zBE (fun i σ H'=>(∃x5 x6 x7 x8 x9:Option V,σ=[some (.ref pd),some (.int o),some (.ref sd),some (sv x),some (.ref fo),x5,x6,x7,x8,x9])/\zB (upd H sd (.frz ob (.dK (z9 ss)))) H'/\H' fo=some (.dK (z9 (uO ((ss.take i).flatMap (uV (zN (zA o bk)) ff o x))))))
   ⟨⟨_,_,_,_,_,rfl⟩,s3,hfo3⟩ (fun i σ H' _ h=>h.2.1 _ _ zE) ?_ ?_
  ·rintro i q T σ H' Nx hN hq ⟨⟨x5,x6,x7,x8,x9,rfl⟩,sm,hR⟩ hT
   unfold z9 zZ vI at hq
   rw[ar,ar]at hq
   cases ei:ss[i]? with
   |none=>rw[ei]at hq;cases hq
   |some p0=>
   rw[ei]at hq
   have hq2:q=(Sum.inr (tx p0.1),V.int p0.2):=(aB hq).symm
   subst hq2
   have hmem:p0∈ss:=aY ei
   have hi:i<ss.length:=(ah.mp ei).1
   have sne:ss≠[]:=fun z=>by rw[z]at hmem;cases hmem
   have etk:(ss.take (i+1)).flatMap (uV (zN (zA o bk)) ff o x)=(ss.take i).flatMap (uV (zN (zA o bk)) ff o x)++uV (zN (zA o bk)) ff o x p0:=by
    rw[aA hi,(ah.mp ei).2,dN];simp
   have hCr:∀c∈(ss.take i).flatMap (uV (zN (zA o bk)) ff o x),∃l,(c.1,l)∈zA o bk:=fun c hc=>by
    obtain⟨p1,_,hc1⟩:=aU.mp hc
    exact zEW hc1
   generalize(ss.take i).flatMap (uV (zN (zA o bk)) ff o x)=C0 at hR etk hCr
   obtain⟨l0,hl0⟩:=hss.rows p0 hmem
   have hel:p0.1.length<=3:=by have:=zIl hl0;have:=hb.o3;omega
   have pne:pd≠sd:=fun z=>by
    obtain⟨pa,_,h2,_⟩:=hP
    rw[z,hsd]at h2
    exact zIm (fun a=>⟨_,rfl⟩) (HO.dK.inj (aB h2)) sne
   obtain⟨ra,kv,g1,g2,g3,g4,g5⟩:=hP.row hl0
   have rne:ra≠sd:=fun z=>by
    rw[z,hsd]at g3
    have h2:=HO.dK.inj (aB g3)
    cases kv with
    |nil=>exact sne (eS.mp (eS.mp h2))
    |cons q kv=>
     cases ss with
     |nil=>exact sne rfl
     |cons p ss=>
      have h3:=(bM (iD h2).1).2
      obtain⟨a,ha,_⟩:=g5 q (aq ..)
      have h4:V.int p.2=q.2:=h3
      rw[ha]at h4;cases h4
   refine⟨T,[sv p0.1,.int p0.2],rfl,.of zE,rfl,_,_,rfl,_,_,rfl,rfl,?_⟩
   generalize hH4:upd H' T (HO.tup [kV ((Sum.inr (tx p0.1):zO),V.int p0.2).1,((Sum.inr (tx p0.1):zO),V.int p0.2).2])=H4
   have s4:zB H' H4:=by rw[<-hH4];exact zB.upd1 hT
   have sm4:=sm.trans s4
   have at4:∀b u,b≠sd->H b=some u->H4 b=some u:=fun b u hb' e=>sm4 _ _ (by rw[zG hb'];exact e)
   have hra4:=at4 _ _ rne g3
   have hR4:=s4 _ _ hR
   have dg4:vH H4 pd (sv p0.1) (some (.ref ra)):=by
    rcases g1 with⟨kvs,kk,e1,e2,e3⟩|⟨kvs,kk,b,e1,e2,_⟩
    ·refine .inl ⟨kvs,kk,?_,e2,e3⟩
     rcases e1 with e1|⟨o',e1⟩
     ·exact .inl (at4 _ _ pne e1)
     ·exact .inr ⟨o',at4 _ _ pne e1⟩
    ·cases e2
   have sx4:z6 sd H H4:=fun b u hb' e=>at4 b u hb' e
   have fr4:∀q∈kv,z8 K H4 q.2 (ff p0.1 q.1):=fun q hq=>sx4.frA (zBJ hsd) (g5 q hq)
   have rafo:ra≠fo:=fun z=>by rw[z,hfo]at g3;cases g3
   refine⟨ra,_,hra4,?_⟩
   refine⟨_,rfl,_,rfl,pd,.ref ra,rfl,dg4,.inr (.inr (.inl ⟨rfl,.inl ⟨_,hra4⟩⟩)),ra,_,rfl,rfl,hra4,fun p2 hp2=>?_⟩
   have s5:zB H4 (upd H4 p2 (VW p2 ra)):=zB.upd1 hp2
   refine⟨p2,ra,_,rfl,zE,s5 _ _ hra4,fun ob2=>?_⟩
   generalize hH5:upd (upd H4 p2 (VW p2 ra)) ra (.frz ob2 (.dK (zZ id kv)))=H5
   have h5ra:H5 ra=some (.frz ob2 (.dK (zZ id kv))):=by rw[<-hH5,zE]
   have sx5:z6 ra H4 H5:=fun b u hb' e=>by rw[<-hH5,zG hb'];exact s5 _ _ e
   have hR5:H5 fo=some (.dK (z9 (uO C0))):=sx5 _ _ rafo.symm hR4
   have fr5:∀q∈kv,z8 K H5 q.2 (ff p0.1 q.1):=fun q hq=>sx5.frA (zBJ hra4) (fr4 q hq)
   have hkl:kv.length<=(zA o bk).length:=by
    have h1:=zCZ (zA o bk) p0.1
    have h2:(kv.map (·.1)).length=((vF (zA o bk) p0.1).map (·.1)).length:=by rw[g4]
    rw[ai,ai]at h2
    omega
   refine zBE (fun j σ H6=>(∃x7 x8 x9:Option V,σ=[some (.ref pd),some (.int o),some (.ref sd),some (sv x),some (.ref fo),some (sv p0.1),some (.int p0.2),x7,x8,x9])/\z6 fo H5 H6/\
     H6 fo=some (.dK (z9 (uO (C0++(((zN (zA o bk) p0.1).take j).filter (mf x)).map fun l=>(zI (p0.1++l) o,zT p0.2 (ff p0.1 l)))))))
    ⟨⟨_,_,_,rfl⟩,z6.refl _,by simpa using hR5⟩ (fun j σ H6 _ h=>h.2.1 _ _ rafo h5ra) ?_ ?_
   ·rintro j q T2 σ H6 Nx2 hN2 hq ⟨⟨x7,x8,x9,rfl⟩,sx,hR6⟩ hT2
    unfold zZ vI at hq
    rw[ar,ar]at hq
    cases el:kv[j]? with
    |none=>rw[el]at hq;cases hq
    |some q0=>
    rw[el]at hq
    have hq2:q=(Sum.inr (tx q0.1),q0.2):=(aB hq).symm
    subst hq2
    have hqm:q0∈kv:=aY el
    have hnx:(zN (zA o bk) p0.1)[j]?=some q0.1:=by rw[<-g4,ar,el];rfl
    have hj:j<(zN (zA o bk) p0.1).length:=(ah.mp hnx).1
    have hlm:q0.1∈zN (zA o bk) p0.1:=aY hnx
    have hl1:q0.1.length<=1:=kY ((uW _ _ _).mp hlm)
    have etk2:(zN (zA o bk) p0.1).take (j+1)=(zN (zA o bk) p0.1).take j++[q0.1]:=by
     rw[aA hj,(ah.mp hnx).2]
    refine⟨T2,[sv q0.1,q0.2],rfl,.of zE,rfl,_,_,rfl,_,_,rfl,rfl,?_⟩
    generalize hH7:upd H6 T2 (HO.tup [kV ((Sum.inr (tx q0.1):zO),q0.2).1,((Sum.inr (tx q0.1):zO),q0.2).2])=H7
    have s7:zB H6 H7:=by rw[<-hH7];exact zB.upd1 hT2
    refine⟨_,rfl,_,rfl,q0.1,x,rfl,fun H8 s8=>⟨mf x q0.1,rfl,?_⟩⟩
    have s78:=s7.trans s8
    have hR8:=s78 _ _ hR6
    have sx8:z6 fo H5 H8:=sx.trans (z6.of s78)
    refine zDI (fun hm=>?_) (fun hm=>?_)
    ·have hcl:(tx p0.1).length+(tx q0.1).length<=sizeLine:=by rw[yF,yF,aI];omega
     have hll:(p0.1++q0.1).length<=64:=by rw[ay];omega
     refine⟨_,rfl,_,rfl,tx p0.1,tx q0.1,rfl,rfl,hcl,_,rfl,p0.1++q0.1,o,by rw[zEK];rfl,hb.o1,hll,?_⟩
     generalize hLL:C0++(((zN (zA o bk) p0.1).take j).filter (mf x)).map (fun l=>(zI (p0.1++l) o,zT p0.2 (ff p0.1 l)))=LL at hR8
     have hLr:∀c∈LL,∃l,(c.1,l)∈zA o bk:=fun c hc=>by
      rw[<-hLL]at hc
      rcases bt.mp hc with z|z
      ·exact hCr c z
      ·obtain⟨l,hl,rfl⟩:=ao.mp z
       obtain⟨z1,z2⟩:=aG.mp hl
       exact zEW (f:=ff) (x:=x) (p:=p0) (ao.mpr ⟨l,aG.mpr ⟨da z1,z2⟩,rfl⟩)
     obtain⟨knd,ksub⟩:=zIP LL
     have hal:(uO LL).length<=(zA o bk).length:=by
      have h1:=jC ((uO LL).map (·.1)) ((zA o bk).map (·.1)) knd fun e he=>by
       obtain⟨c,hc,rfl⟩:=ao.mp (ksub e he)
       obtain⟨l,hl⟩:=hLr c hc
       exact ao.mpr ⟨_,hl,rfl⟩
      rw[ai,ai]at h1
      exact h1
     have fr8:z8 K H8 q0.2 (ff p0.1 q0.1):=sx8.frA (zBJ hR5) (fr5 q0 hqm)
     obtain⟨b1,b2,b3,b4⟩:=hS p0.1 q0.1
     refine⟨_,rfl,fo,rfl,.inl ⟨_,.inl hR8⟩,_,rfl,_,vH.k (k:=Sum.inr (tx (zI (p0.1++q0.1) o))) hR8,_,rfl,_,rfl,p0.2,q0.2,ff p0.1 q0.1,rfl,fr8,b1,b2,b3,b4,?_⟩
     refine⟨(zK (uO LL) (zI (p0.1++q0.1) o)).getD 0,_,?_,rfl,?_⟩
     ·show(vR (zZ V.int (uO LL)) _).getD (V.int 0)=_
      rw[jV]
      cases zK (uO LL) (zI (p0.1++q0.1) o)<;>rfl
     refine⟨_,rfl,_,rfl,fo,_,rfl,g7.k (k:=Sum.inr (tx (zI (p0.1++q0.1) o))) hR8 (by show(zZ V.int (uO LL)).length<_;rw[qP,aI];omega),hN2 _ _ ⟨⟨_,_,_,rfl⟩,sx8.updf,?_⟩⟩
     rw[zE]
     have e1:=zBh V.int (uO LL) (zI (p0.1++q0.1) o) ((zK (uO LL) (zI (p0.1++q0.1) o)).getD 0+zT p0.2 (ff p0.1 q0.1)) knd
     refine congrArg (fun z=>some (HO.dK z)) (e1.trans ?_)
     have e2:C0++(((zN (zA o bk) p0.1).take (j+1)).filter (mf x)).map (fun l=>(zI (p0.1++l) o,zT p0.2 (ff p0.1 l)))=LL++[(zI (p0.1++q0.1) o,zT p0.2 (ff p0.1 q0.1))]:=by
      rw[etk2,dh,aQ,<-dO,hLL]
      simp[hm]
     rw[e2]
     unfold uO
     rw[dw]
     rfl
    ·have hm':mf x q0.1=false:=by simpa using hm
     refine hN2 _ _ ⟨⟨_,_,_,rfl⟩,sx8,?_⟩
     rw[etk2,dh]
     simpa [hm']using hR8
   ·rintro σ H6 ⟨⟨x7,x8,x9,rfl⟩,sx,hR6⟩
    refine⟨ob2,sx _ _ rafo h5ra,hN _ _ ⟨⟨_,_,_,_,_,rfl⟩,fun c u e=>?_,?_⟩⟩
    ·have hcf:c≠fo:=fun z=>by rw[z,hfo0]at e;cases e
     have e4:=sm4 _ _ e
     by_cases hc:c=ra
     ·subst hc
      rw[zE,<-e4,hra4]
     ·rw[zG hc]
      exact sx _ _ hcf (sx5 _ _ hc e4)
    ·rw[zG rafo.symm]
     have e1:(zZ id kv).length=(zN (zA o bk) p0.1).length:=by
      rw[qP,<-g4,ai]
     rw[e1,bo]at hR6
     rw[etk]
     exact hR6
  ·rintro σ H' ⟨⟨x5,x6,x7,x8,x9,rfl⟩,sm,hR⟩
   refine⟨ob,sm _ _ zE,_,rfl,?_⟩
   have sfin:zB H (upd H' sd (.dK (z9 ss))):=zB.thaw sm hsd
   refine k fo _ sfin hfo ?_
   rw[zG hsfo]
   have e1:(z9 ss).length=ss.length:=qP _ _
   rw[e1,bo]at hR
   exact hR
end
theorem zBL {ys:St}(h:ys.length=2):∃y z,ys=[y,z]:=by
 cases ys with
 | nil=>simp at h
 | cons q0 q1=>cases q1 with
  | nil=>simp at h
  | cons q2 q3=>cases q3 with
   | nil=>exact⟨q0,q2,rfl⟩
   | cons=>simp at h
theorem zIp {o:Nat}{bk:List S}(hb:Bk bk o):∃l,(([]:S),l)∈zA o bk:=by
 have a:=hb.lo
 match bk,a with
 |x::bk,_=>
  refine⟨(x.drop 0).take 1,aU.mpr ⟨x,aq ..,ao.mpr ⟨0,bK.mpr (by omega),?_⟩⟩⟩
  rw[nI]
  have:zI ([]:S) o=[]:=by unfold zI;simp
  rw[this]
noncomputable def qG (ps:List (S×S))(f:S->S->Int×Int)(e:S):Int×Int:=if(e,[])∈ps then f e []else(0,1)
theorem zPw {o:Nat}{bk:List S}(hb:Bk bk o)(a:Int):SumsOk (zA o bk) [([],a)]:=by
 refine⟨by simp,fun p b=>?_⟩
 rw[aS.mp b]
 exact zIp hb
section
variable{P:aJ}{w:bh}{K:ag}{mg:Str->Option aj}{base:bF}
noncomputable abbrev zEY:cJ:=top 45
theorem zIq:FnScope ["parts","order","weight","pattern","sums","wanted"] ["parts","order","weight","pattern"] (defScope zEY):=yE
theorem zIr:(["parts","end","heavy"]:List Str).Nodup:=by decide+kernel
noncomputable def zIs (K:ag):Sp:=fun vs H Q _=>∃(pd pl:ak) (o:Nat) (bk:List S) (f:S->S->Int×Int) (wt:Int) (pat:List S),vs=[.ref pd,.int o,.int wt,.ref pl]/\Bk bk o/\kA K H pd (zA o bk) f/\Smf f/\H pl=some (.lst (pat.map sv))/\pat.length<=900/\
 ∀H',zB H H'->Q (.int (tots (fun e h=>zT h (qG (zA o bk) f e)) (Ss (zN (zA o bk)) f o wt pat))) H'
theorem zPx {f:ak}{fd:bc}(F:Fun K "sum_along" "sum_along" zEY f fd)(B:Blt mg)(C:Cst2 K mg)(cN:zS P w K mg base 2 "next_sums" ["parts","order","sums","wanted"] (zIo K))(cL:zS P w K mg base 1 "left_of" ["weight","part"] (zBn K)) :
  FnOk P w K mg base z0 3 f fd ["parts","order","weight","pattern"] (zIs K):=by
 obtain⟨aN,hN,tN⟩:=C.nought
 refine F.ok zIq (fun vs H Q E h=>?_) (fun cdv A outer s H vs Q E hr h=>?_)
 ·obtain⟨pd,pl,o,bk,f,wt,pat,rfl,_⟩:=h;rfl
 ·obtain⟨pd,pl,o,bk,ff,wt,pat,rfl,hb,hP,hS,hpl,hpn,k⟩:=h
  have hu:=gJ hr
  have nd:=zIq.nd
  have r1:=hr.mono (j:=1) (by decide)
  refine⟨_,zR (yC (i:=4) nd rfl (Or.inl rfl) (zIc vD (pv 2)))
   (zR (vX bE rfl (qY (pv 3)) (yB (i:=5) nd rfl (Or.inl rfl))
     (zL (yC (i:=4) nd rfl (Or.inl rfl) (zH cN hr rfl (zC (pv 0) (zC (pv 1) (zC (pv 4) (zC (pv 5) zD))))))))
   (zL (z5 (yS (zHD rfl) (by rfl) B.sum gs (zC
    (zIE (qD (N:=["parts","end","heavy"]) (caps:=[0]) rfl (uS (by kernel_rfl)) (zAa (zAE K rfl bL cZ dy zAV (pv 4)))
     (fun cl X s H ex=>zAD K 2 rfl rfl (yW (yB (i:=1) zIr rfl (Or.inl rfl)) (yW (yB (i:=2) zIr rfl (Or.inl rfl)) qA)) rfl rfl) (fun cl X s H ex=>qM)
     (fun cl X s H ex=>zH cL r1 rfl (zC (pv 2) (zC (zCG hu (g8 hu (pv 0) (pv 1) (fun _ _=>rfl)) vD (yR (v:=.ref aN) (by rfl) hN rfl) ⟨rfl,rfl,rfl,rfl⟩) zD))))) zD))))),?_⟩
  intro sd0 hsd0
  have u0:zB H (upd H sd0 (.dK [])):=zB.upd1 hsd0
  refine⟨_,rfl,zE,Sum.inr (tx []),rfl,?_⟩
  have hs0:upd (upd H sd0 (.dK [])) sd0 (.dK [((Sum.inr (tx []):zO),V.int wt)]) sd0=some (.dK (z9 [([],wt)])):=by rw[zE];rfl
  have u1:zB H (upd (upd H sd0 (.dK [])) sd0 (.dK [((Sum.inr (tx []):zO),V.int wt)])):=fun b u e=>by
   rw[zG (yK e hsd0)];exact u0 _ _ e
  generalize upd (upd H sd0 (.dK [])) sd0 (.dK [((Sum.inr (tx []):zO),V.int wt)])=H1 at hs0 u1
  refine⟨_,rfl,pl,rfl,⟨_,.of (u1 _ _ hpl)⟩,?_⟩
  refine qN (q8 K pl (pat.map sv)) (fun i σ H'=>∃(sd:ak) (x5:Option V),σ=[some (.ref pd),some (.int o),some (.int wt),some (.ref pl),some (.ref sd),x5]/\H' sd=some (.dK (z9 (Ss (zN (zA o bk)) ff o wt (pat.take i))))/\SumsOk (zA o bk) (Ss (zN (zA o bk)) ff o wt (pat.take i))/\zB H H')
   ⟨sd0,_,rfl,hs0,zPw hb wt,u1⟩ (fun i σ H' _ h=>.of (h.choose_spec.choose_spec.2.2.2 _ _ hpl)) ?_ ?_
  ·rintro i y σ H' Nx hNx hy ⟨sd,x5,rfl,hsd,hok,sm⟩
   rw[ar]at hy
   cases ei:pat[i]? with
   |none=>rw[ei]at hy;cases hy
   |some wd=>
   rw[ei]at hy
   have hy2:y=sv wd:=(aB hy).symm
   subst hy2
   have hi:i<pat.length:=(ah.mp ei).1
   have etk:pat.take (i+1)=pat.take i++[wd]:=by rw[aA hi,(ah.mp ei).2]
   refine⟨_,rfl,_,rfl,_,rfl,_,rfl,pd,sd,o,bk,ff,_,wd,rfl,hb,hP.same sm,hS,hsd,hok,fun fo H2 s2 hfo h2=>hNx _ _ ⟨fo,_,rfl,?_,?_,sm.trans s2⟩⟩
   ·rw[etk,zIQ];exact h2
   ·rw[etk,zIQ];exact hok.step
  ·rintro σ H' ⟨sd,x5,rfl,hsd,hok,sm⟩
   rw[ai,bo]at hsd hok
   have hres:=fun H2 (s2:zB H' H2)=>k H2 (sm.trans s2)
   have hP':=hP.same sm
   generalize Ss (zN (zA o bk)) ff o wt pat=ss at hsd hok hres
   refine⟨sd,_,hsd,?_⟩
   refine⟨_,rfl,.inr (.inr (.inl ⟨rfl,.inl ⟨_,hsd⟩⟩)),sd,_,rfl,rfl,hsd,fun p hp=>?_⟩
   have s1:zB H' (upd H' p (VW p sd)):=zB.upd1 hp
   refine⟨p,sd,_,rfl,zE,s1 _ _ hsd,fun ob=>?_⟩
   have h72:=zBK hb
   have hsl:=hok.len
   have hlen:(z9 ss).length=ss.length:=qP _ _
   generalize hH2:upd (upd H' p (VW p sd)) sd (.frz ob (.dK (z9 ss)))=H2
   have s2:zB (upd H' sd (.frz ob (.dK (z9 ss)))) H2:=fun b u e=>by
    rw[<-hH2]
    by_cases hb':b=sd
    ·subst hb';rw[zE]at e⊢;exact e
    ·rw[zG hb']at e⊢
     exact s1 _ _ e
   refine zPI [some (.ref pd)] 2 (by rw[hlen];omega) (fun i acc H3=>zB (upd H' sd (.frz ob (.dK (z9 ss)))) H3/\acc=((ss.take i).map fun q=>zT q.2 (qG (zA o bk) ff q.1)).map V.int)
    ⟨s2,rfl⟩ (fun i acc H3 _ h=>⟨h.1 _ _ zE,by rw[h.2,ai,ai,aZ];omega⟩) ?_ ?_
   ·rintro i q T acc H3 ys Nx2 hN2 hq hy ⟨sm3,rfl⟩ hT
    obtain⟨y1,y2,rfl⟩:=zBL hy
    unfold z9 zZ vI at hq
    rw[ar,ar]at hq
    cases ei:ss[i]? with
    |none=>rw[ei]at hq;cases hq
    |some p0=>
    rw[ei]at hq
    have hq2:q=(Sum.inr (tx p0.1),V.int p0.2):=(aB hq).symm
    subst hq2
    have hmem:p0∈ss:=aY ei
    have hi:i<ss.length:=(ah.mp ei).1
    have etk:ss.take (i+1)=ss.take i++[p0]:=by rw[aA hi,(ah.mp ei).2]
    have sne:ss≠[]:=fun z=>by rw[z]at hmem;cases hmem
    obtain⟨l0,hl0⟩:=hok.rows p0 hmem
    have pne:pd≠sd:=fun z=>by
     obtain⟨pa,_,h2,_⟩:=hP'
     rw[z,hsd]at h2
     exact zIm (fun a=>⟨_,rfl⟩) (HO.dK.inj (aB h2)) sne
    obtain⟨ra,kv,g1,g2,g3,g4,g5⟩:=hP'.row hl0
    have rne:ra≠sd:=fun z=>by
     rw[z,hsd]at g3
     have h2:=HO.dK.inj (aB g3)
     cases kv with
     |nil=>exact sne (eS.mp (eS.mp h2))
     |cons q kv=>
      cases ss with
      |nil=>exact sne rfl
      |cons p ss=>
       have h3:=(bM (iD h2).1).2
       obtain⟨a,ha,_⟩:=g5 q (aq ..)
       have h4:V.int p.2=q.2:=h3
       rw[ha]at h4;cases h4
    refine⟨T,[sv p0.1,.int p0.2],rfl,.of zE,rfl,_,_,rfl,_,_,rfl,rfl,?_⟩
    generalize hH4:upd H3 T (HO.tup [kV ((Sum.inr (tx p0.1):zO),V.int p0.2).1,((Sum.inr (tx p0.1):zO),V.int p0.2).2])=H4
    have s4:zB H3 H4:=by rw[<-hH4];exact zB.upd1 hT
    have sm4:=sm3.trans s4
    have at4:∀b u,b≠sd->H' b=some u->H4 b=some u:=fun b u hb' e=>sm4 _ _ (by rw[zG hb'];exact e)
    have hra4:=at4 _ _ rne g3
    have dg4:vH H4 pd (sv p0.1) (some (.ref ra)):=by
     rcases g1 with⟨kvs,kk,e1,e2,e3⟩|⟨kvs,kk,b,e1,e2,_⟩
     ·refine .inl ⟨kvs,kk,?_,e2,e3⟩
      rcases e1 with e1|⟨o',e1⟩
      ·exact .inl (at4 _ _ pne e1)
      ·exact .inr ⟨o',at4 _ _ pne e1⟩
     ·cases e2
    have sx4:z6 sd H' H4:=fun b u hb' e=>at4 b u hb' e
    have knd:(kv.map (·.1)).Nodup:=by rw[g4];exact zAZ _ _
    obtain⟨v,hv,fv,bv⟩:∃v,(vR (zZ id kv) (Sum.inr (tx []))).getD (.ref aN)=v/\z8 K H4 v (qG (zA o bk) ff p0.1)/\(0<=(qG (zA o bk) ff p0.1).1/\(qG (zA o bk) ff p0.1).1<1000000/\0<(qG (zA o bk) ff p0.1).2/\(qG (zA o bk) ff p0.1).2<1000000):=by
     refine⟨_,rfl,?_,?_⟩
     ·rw[jV]
      unfold qG
      by_cases c:(p0.1,[])∈zA o bk
      ·rw[if_pos c]
       have h1:([]:S)∈kv.map (·.1):=by rw[g4];exact(uW _ _ _).mpr c
       obtain⟨q,hq,e⟩:=ao.mp h1
       have h2:zK kv []=some q.2:=(y7 knd _ _).mp (by rw[<-e];exact hq)
       rw[h2]
       have h3:=g5 q hq
       rw[e]at h3
       exact sx4.frA (zBJ hsd) h3
      ·rw[if_neg c]
       have h2:zK kv []=none:=by
        cases e:zK kv []with
        |none=>rfl
        |some v=>
         exfalso
         have h3:=(y7 knd _ _).mpr e
         exact c ((uW _ _ _).mp (by rw[<-g4];exact ao.mpr ⟨_,h3,rfl⟩))
       rw[h2]
       exact⟨aN,rfl,tN _⟩
     ·unfold qG
      split
      ·exact hS _ _
      ·decide
    refine⟨_,rfl,_,rfl,_,rfl,pd,.ref ra,rfl,dg4,ra,rfl,.inl ⟨_,.inl hra4⟩,_,vH.k (k:=Sum.inr (tx [])) hra4,p0.2,v,qG (zA o bk) ff p0.1,?_,fv,bv.1,bv.2.1,bv.2.2.1,bv.2.2.2,?_⟩
    ·rw[<-hv];rfl
    ·refine hN2 _ _ [some (sv p0.1),some (.int p0.2)] rfl ⟨sm4,?_⟩
     rw[etk,aQ,aQ];rfl
   ·rintro acc H3 ⟨sm3,rfl⟩ D hD
    rw[hlen,bo]
    have hfz:=sm3 _ _ zE
    have hneD:sd≠D:=yK hfz hD
    have sD:zB H3 (upd H3 D (.lst ((ss.map fun q=>zT q.2 (qG (zA o bk) ff q.1)).map V.int))):=zB.upd1 hD
    refine⟨ob,by rw[zG hneD];exact hfz,?_⟩
    have s7:zB H' (upd (upd H3 D (.lst ((ss.map fun q=>zT q.2 (qG (zA o bk) ff q.1)).map V.int))) sd (.dK (z9 ss))):=zB.thaw (sm3.trans sD) hsd
    refine⟨D,_,rfl,.of (by rw[zG hneD.symm,zE]),?_⟩
    exact hres _ s7
end
structure FunC (K:ag) (x qual:Str) (st:cJ) (f:ak) (fd:bc) (c:ak):Prop where
 ex:∃(oc:aj) (od:Option ak) (kV doc pm:aj) (an:Option ak) (ct:aj) (osl:Array (Option aj)),
  fd=dF x qual (defArgs st) (defBody st) (defScope st) .none kV doc pm an (.ref c) ct/\K.lookup f=some ⟨oc,od,.func fd,osl⟩/\eX K (.ref c) qual=true
 kp:dW K (.ref f)=true
theorem FunC.fn {K:ag}{x a:Str}{st:cJ}{f c:ak}{fd:bc}(F:FunC K x a st f fd c):Fun K x a st f fd:=by
 obtain⟨oc,od,kV,b,pm,g,ct,d,e,l,h⟩:=F.ex
 exact⟨⟨oc,od,kV,b,pm,g,.ref c,ct,d,e,l,h⟩,F.kp⟩
theorem zIt {K:ag}{x a:Str}{st:cJ}{f c:ak}{oc:aj}{od e:Option ak}{d:Array (Option aj)}{kV b pm ct:aj}(l:K.lookup f=some ⟨oc,od,.func (dF x a (defArgs st) (defBody st) (defScope st) .none kV b pm e (.ref c) ct),d⟩)
  (h:eX K (.ref c) a=true) (k:dW K (.ref f)=true):FunC K x a st f (dF x a (defArgs st) (defBody st) (defScope st) .none kV b pm e (.ref c) ct) c:=⟨⟨oc,od,kV,b,pm,e,ct,d,rfl,l,h⟩,k⟩
noncomputable def uG (K:ag)(H:Hp)(l:ak)(ps:List (Int×S)):Prop:=∃ts:List V,H l=some (.lst ts)/\ts.length=ps.length/\∀(i:Nat) (p:Int×S),ps[i]?=some p->∃a,ts[i]?=some (.ref a)/\z7 K H a [.int p.1,sv p.2]
noncomputable def vU (p q:Int×S):Prop:=jB (-p.1,tx p.2) (-q.1,tx q.2)=true
noncomputable def zBM (ps rs:List (Int×S)):Prop:=rs.Perm ps/\rs.Pairwise vU
noncomputable def kB (ps:List (Int×S)):List (Int×Str):=ps.map fun p=>(p.1,tx p.2)
theorem zPy {ps:List (Int×S)}(h:ps.Nodup):(kB ps).Nodup:=by
 unfold kB
 rw[dm,bB]
 refine h.imp fun{a b} n e=>n ?_
 obtain⟨e1,c⟩:=bM e
 exact fM e1 (j9 c)
theorem zPz {ps:List (Int×S)}{pm:List Nat}(a:pm.Perm (bA ps.length))(c:pm.Pairwise (fun i j=>j6 (j7 (kB ps)) i j=true)):zBM ps (pm.map fun i=>ps.getD i (0,[])):=by
 have d:(bA ps.length).map (fun i=>ps.getD i (0,[]))=ps:=by
  apply jj
  ·simp
  ·intro i h _
   simp at h
   simp[h]
 refine⟨by have:=a.map (fun i=>ps.getD i (0,[]));rw[d]at this;exact this,?_⟩
 rw[bB]
 have b:∀i∈pm,i<ps.length:=fun i hi=>bK.mp (a.mem_iff.mp hi)
 have key:∀i,i<ps.length->(j7 (kB ps)).getD i (0,⟨#[]⟩)=(-(ps.getD i (0,[])).1,tx (ps.getD i (0,[])).2):=fun i hi=>by
  have e1:ps[i]?=some ps[i]:=av hi
  unfold j7 kB
  rw[bZ,bZ,ar,ar,e1]
  rfl
 refine cK ?_ c
 intro i j hi e h
 unfold j6 at h
 rw[key i (b i hi),key j (b j e)]at h
 exact h
theorem zQA (xs:List V)(n:Nat):uB xs none (some (n:Int))=xs.take n:=by
 unfold uB
 rw[HT.sIx_nat]
 show(xs.drop 0).take (min n xs.length-0)=_
 rw[eK,kj,<-nk]
theorem qH {T:ak}{a:Pos}{q:Str}{H b:Hp}(h:zAC T a q H)(e:zB H b):zAC T a q b:=by
 rcases h with h|⟨c,oc,u,vs,t,d,f,g⟩
 ·exact .inl (e _ _ h)
 ·exact .inr ⟨c,oc,u,vs,t,e _ _ d,e _ _ f,g⟩
theorem gP {T:ak}{a:Pos}{q:Str}{H:Hp}(h:zAC T a q H):∃ps,H T=some (.tbl ps):=by
 rcases h with h|⟨c,oc,u,vs,t,b,d,e⟩
 ·exact⟨_,h⟩
 ·exact⟨_,b⟩
theorem zBN {T:ak}{a:Pos}{q:Str}{H:Hp}(h:zAC T a q H):∀ys,¬Rd H T (.tup ys):=by
 obtain⟨ps,h⟩:=gP h
 rintro ys (z|⟨o,z⟩)
 ·rw[h]at z;cases z
 ·rw[h]at z;cases z
section
variable{P:aJ}{w:bh}{K:ag}{mg:Str->Option aj}{base:bF}
theorem FunC.ok {x a:Str}{st:cJ}{f c:ak}{fd:bc}{N ps:List Str}{k:Nat}{sp:Sp}(F:FunC K x a st f fd c)(S:FnScope N ps (defScope st))(len:∀vs H Q E,sp vs H Q E->vs.length=ps.length)
  (b:∀(A:bX) (outer:List Env) (s:au) (H:Hp) (vs:List V) (Q:VK) (E:XK),Room k (A.deeper (vb a (defScope st) s.heap.objs.size f (.ref c)))->sp vs H Q E->
   ∃t,qX (zAR z0 P w K mg base N a (defScope st) f (.ref c) A outer s H E).nox (defBody st) t/\t {nx:=fun _ g=>Q .non g,rt:=Q} (start N vs) H):FnOk P w K mg base z0 (k+1) f fd ps sp:=by
 obtain⟨oc,od,kV,i,pm,m,ct,j,rfl,lk,d⟩:=F.ex
 refine zGH lk d S len fun A outer s H vs Q E l e=>?_
 obtain⟨t,h,q⟩:=b A outer s H vs Q E l e
 exact⟨t,h.nox,q⟩
noncomputable abbrev sHv:cJ:=top 46
theorem zQB:FnScope ["pairs","many"] ["pairs","many"] (defScope sHv):=yE
noncomputable def zQC (st:cJ):Pos:=match defBody st with
 | [.Return (some (.Subscript (.Call _ _ [⟨_,.Lambda _ _ _ p,_⟩] _) _ _)) _]=>p
 |_=>⟨0,0,0,0⟩
noncomputable def zQD:Str:=("heaviest" : Str)++(".<locals>." : Str)++("<lambda>" : Str)
noncomputable abbrev uH (T:ak)(H:Hp):Prop:=zAC T (zQC sHv) zQD H
noncomputable def zCb (K:ag)(T:ak):Sp:=fun vs H Q _=>∃(l:ak) (ps:List (Int×S)) (n:Nat),vs=[.ref l,.int n]/\uG K H l ps/\ps.Nodup/\ps.length<64/\n<=1000/\uH T H/\
 ∀D H' rs,z6 T H H'->uH T H'->H D=none->zBM ps rs->uG K H' D (rs.take n)->Q (.ref D) H'
theorem zQE {f c T:ak}{fd:bc}(F:FunC K "heaviest" "heaviest" sHv f fd c)(B:Blt mg)(L:LamBase mg base c T)(t:mg "sorted"=none) :
  FnOk P w K mg base z0 1 f fd ["pairs","many"] (zCb K T):=by
 refine F.ok zQB (fun vs H Q E h=>?_) (fun A outer s H vs Q E hr h=>?_)
 ·obtain⟨l,ps,n,rfl,_⟩:=h;rfl
 ·obtain⟨l,ps,n,rfl,⟨g,hl,hn,R⟩,nd,v,aa,tab,k⟩:=h
  refine⟨_,zL (z5 (gH zML (zNm (x :="pair") (c:=c) (P:=T) (by rfl) t hr.depth rfl L (zC (pv 0) zD) (by decide) (fun _ _ _ _ _=>rfl)) j3 (jL (pv 1)))),?_⟩
  refine⟨_,rfl,l,g,kB ps,rfl,.inl (.of hl),by unfold kB;rw[ai];exact hn,fun i p hi=>?_,zPy nd,by unfold kB;rw[ai];exact v,tab,fun pm D y C h2 U W hD ab ac=>?_⟩
  ·unfold kB at hi
   rw[ar]at hi
   cases G:ps[i]? with
   |none=>rw[G]at hi;cases hi
   |some m=>
    rw[G]at hi
    have:p=(m.1,tx m.2):=(aB hi).symm
    subst this
    exact R i m G
  have I:(kB ps).length=ps.length:=by unfold kB;rw[ai]
  rw[I]at C
  refine⟨_,rfl,n,rfl,D,_,rfl,.inl (.of zE),fun p d=>?_⟩
  have o:zB y (upd y D (.lst (pm.map fun i=>g.getD i .non))):=zB.upd1 hD
  generalize upd y D (.lst (pm.map fun i=>g.getD i .non))=r at d o
  have J:zB r (upd r p (.lst (uB (pm.map fun i=>g.getD i .non) none (some (n:Int))))):=zB.upd1 d
  have X:upd r p (.lst (uB (pm.map fun i=>g.getD i .non) none (some (n:Int)))) p=some (.lst ((pm.map fun i=>g.getD i .non).take n)):=by rw[zE,zQA]
  generalize upd r p (.lst (uB (pm.map fun i=>g.getD i .non) none (some (n:Int))))=Y at J X
  have Z:z6 T H Y:=z6.trans (fun b u hb e=>U b u hb e) (z6.of (o.trans J))
  have M:H p=none:=by
   cases z:H p with
   |none=>rfl
   |some u=>
    exfalso
    by_cases q:p=T
    ·obtain⟨qs,hq⟩:=gP (qH W o)
     rw[q,hq]at d;cases d
    ·rw[o _ _ (U p u q z)]at d;cases d
  refine k p Y _ Z (qH W (o.trans J)) M (zPz C h2) ⟨_,X,by rw[aZ,aZ,ai,ai],fun i m hi=>?_⟩
  rw[List.getElem?_take]at hi⊢
  split at hi
  ·rename_i N
   rw[if_pos N]
   rw[ar]at hi⊢
   cases O:pm[i]? with
   |none=>rw[O]at hi;cases hi
   |some j=>
    rw[O]at hi
    have hj:j<ps.length:=bK.mp (C.mem_iff.mp (aY O))
    have e0:m=ps[j]:=by
     have:ps.getD j (0,[])=m:=aB hi
     rw[<-this];simp[hj]
    obtain⟨a,a1,a2⟩:=R j m (by rw[e0];exact av hj)
    refine⟨a,?_,Z.seqT (zBN tab) a2⟩
    show some (g.getD j V.non)=_
    rw[bZ,a1];rfl
  ·cases hi
end
end Kn.Ln
end
section
namespace L2
open PySem PySem.Spec PyProof.Rows
section
variable{X:Cx}
noncomputable def zQF:List V->Hp->VK->Prop:=fun xs H Q=>∃d kvs,xs=[.ref d]/\H d=some (.dK (vI kvs))/\∀l:ak,H l=none->Q (.ref l) (upd H l (.lst (kvs.map fun p=>V.str p.1)))
theorem zQG (E:X.calm=true):qJ X (.type "list") zQF:=by
 intro B s σ H xs U Q I F h
 obtain⟨d,kvs,rfl,hd,q⟩:=h
 obtain⟨u,rfl,G⟩:=qC F
 cases G
 obtain⟨z,J,ws,rel,L⟩:=gI I.hok hd
 have c:ws.length=kvs.length:=by have:=rel.length;simpa using this.symm
 have C:kvs.length<=sizeLine:=by simpa using z
 obtain⟨ep,m⟩:=L.dictAt
 refine PySem.W.kdl_call (PySem.W.kdl_dict (knd:=vP X.prog X.w) (kvs:=ws) (ep:=ep) J) (I.ok.hd E) m (by rw[c];exact C) fun h' tk b M N O f=>?_
 have n:b.toList.length=kvs.length:=by rw[br];exact f.1.trans c
 have hv:zU (kvs.map fun p=>V.str p.1) b.toList:=by
  have go:∀(l:List (Str×V)) (a:List aj),a.length=l.length->(∀(i:Nat) (v:aj),a[i]?=some v->∃p,l[i]?=some p/\∃t,v=Value.str p.1 t)->zU (l.map fun p=>V.str p.1) a:=by
   intro l
   induction l with
   |nil=>intro a ha _;rw[c7.mp ha];exact .nil
   |cons p l ih=>
    intro a ha D
    cases a with
    |nil=>cases ha
    |cons v a=>
     obtain⟨Y,e,t,ev⟩:=D 0 v rfl
     cases e
     exact .cons ⟨t,ev⟩ (ih a (by simpa using ha) fun i u P=>by simpa using D (i+1) u (by simpa using P))
  refine go kvs b.toList n fun i v e=>?_
  obtain⟨k,x,e1,R⟩:=f.2 i v (by rw[<-eA];exact e)
  obtain⟨y,f1,_⟩:=KV.get rel e1
  rw[ar]at f1
  cases g:kvs[i]? with
  |none=>rw[g]at f1;cases f1
  |some p=>
   rw[g]at f1
   have:(Sum.inr p.1:zO)=k:=(bM (aB f1)).1
   subst this
   have r:gW (Sum.inr p.1) v=true:=R
   rcases j1 r with⟨j,t,A,_⟩|⟨w,t,A,T⟩
   ·cases A
   ·exact⟨p,rfl,t,by rw[T,nv A]⟩
 refine⟨.ref s.heap.objs.size,_,I.laid (t':=tk) (o:=.lst (kvs.map fun p=>V.str p.1)) N (aC _) ⟨by rw[ai];exact C,b.toList,M,hv,?_⟩,rfl,q _ (I.hok.fresh (aC _))⟩
 rw[nM];exact O
end
end L2
end
section
namespace Kn.Ln
open PySem L2 Kn
noncomputable abbrev zJ:=List (Int×S)
theorem zIu (p:Int×S):¬vU p p:=by unfold vU;rw[zHQ];exact bg
theorem zEZ {p q r:Int×S}(a:vU p q)(b:vU q r):vU p r:=zHR a b
theorem zIv:∀{a b:zJ},a.Perm b->a.Pairwise vU->b.Pairwise vU->a=b
 | [],b,h,_,_=>(List.nil_perm.mp h).symm
 |x::a,[],h,_,_=>absurd h.length_eq (by simp)
 |x::a,y::b,h,d,f=>by
  have e:x=y:=by
   have g:x∈y::b:=h.mem_iff.mp (aq ..)
   have i:y∈x::a:=h.mem_iff.mpr (aq ..)
   rcases aL.mp g with z|z
   ·exact z
   ·rcases aL.mp i with c|c
    ·exact c.symm
    ·exact absurd (zEZ ((cM.mp d).1 y c) ((cM.mp f).1 x z)) (zIu x)
  subst e
  rw[zIv (vf h) (cM.mp d).2 (cM.mp f).2]
open Classical in
noncomputable def vB (n:Nat) (ps:zJ):zJ:=if h:∃rs,zBM ps rs then(choose h).take n else []
theorem zCc {n:Nat}{ps a:zJ}(h:zBM ps a):a.take n=vB n ps:=by
 have b:∃a,zBM ps a:=⟨a,h⟩
 unfold vB
 rw[dif_pos b]
 have c:=nq b
 rw[zIv (h.1.trans c.1.symm) h.2 c.2]
noncomputable def yY (nx:S->List S)(f:S->S->Int×Int)(o:Nat)(x:S)(p:S×zJ):List (S×zJ):=((nx p.1).filter (mf x)).map fun l=>(zI (p.1++l) o,p.2.map fun q=>(zT q.1 (f p.1 l),q.2++l))
noncomputable def y8 (acc:List (S×zJ))(r:S×zJ):List (S×zJ):=zW acc r.1 ((zK acc r.1).getD []++r.2)
noncomputable def vC (L:List (S×zJ)):List (S×zJ):=L.foldl y8 []
theorem zIw:∀(L c:List (S×zJ)),(c.map (·.1)).Nodup->((L.foldl y8 c).map (·.1)).Nodup/\∀k∈(L.foldl y8 c).map (·.1),k∈c.map (·.1)\/k∈L.map (·.1)
 | [],c,h=>⟨h,fun k d=>.inl d⟩
 |p::L,c,h=>by
  obtain⟨a,b⟩:=zIw L (y8 c p) (gN h)
  refine⟨a,fun k d=>?_⟩
  rcases b k d with z|z
  ·rcases zIN z with y|y
   ·exact .inl y
   ·exact .inr (by rw[aD,y];exact aq ..)
  ·exact .inr (by rw[aD];exact aw _ z)
theorem zBO (L:List (S×zJ)):((vC L).map (·.1)).Nodup/\∀k∈(vC L).map (·.1),k∈L.map (·.1):=by
 obtain⟨a,b⟩:=zIw L [] (by simp)
 exact⟨a,fun k c=>(b k c).elim (fun z=>by cases z) id⟩
theorem uG.same {K:ag}{H b:Hp}{l:ak}{ps:zJ}(h:uG K H l ps)(e:zB H b):uG K b l ps:=by
 obtain⟨c,d,f,g⟩:=h
 exact⟨c,e _ _ d,f,fun i p hi=>let⟨a,j,m⟩:=g i p hi;⟨a,j,e.seqT m⟩⟩
theorem uG.sameX {K:ag}{H b:Hp}{l d:ak}{ps:zJ}(h:uG K H l ps)(e:z6 d H b)(hd:∀ys,¬Rd H d (.tup ys))(hl:l≠d):uG K b l ps:=by
 obtain⟨c,f,g,j⟩:=h
 exact⟨c,e _ _ hl f,g,fun i p hi=>let⟨a,m,n⟩:=j i p hi;⟨a,m,e.seqT hd n⟩⟩
structure FA (K:ag) (H0 H:Hp) (d:ak) (g:List (S×zJ)) (fa:List (S×ak×zJ)):Prop where
 rows:fa.map (fun r=>(r.1,r.2.2))=g
 top:H d=some (.dK (zZ (fun v:ak×zJ=>V.ref v.1) fa))
 row:∀r∈fa,uG K H r.2.1 r.2.2
 new:∀r∈fa,H0 r.2.1=none/\r.2.1≠d
 nda:(fa.map fun r=>r.2.1).Nodup
theorem FA.same {K:ag}{a H b:Hp}{d:ak}{g:List (S×zJ)}{c:List (S×ak×zJ)}(h:FA K a H d g c)(e:zB H b):FA K a b d g c :=
 ⟨h.rows,e _ _ h.top,fun r f=>(h.row r f).same e,h.new,h.nda⟩
theorem FA.keys {K:ag}{b H:Hp}{d:ak}{g:List (S×zJ)}{a:List (S×ak×zJ)}(h:FA K b H d g a):a.map (·.1)=g.map (·.1):=by
 rw[<-h.rows,aV];rfl
theorem FA.get {K:ag}{b H:Hp}{d:ak}{g:List (S×zJ)}{a:List (S×ak×zJ)}(h:FA K b H d g a)(e:S):zK g e=(zK a e).map (·.2):=by
 rw[<-h.rows]
 clear h
 induction a with
 |nil=>rfl
 |cons r a ih=>
  rw[aD]
  unfold zK
  split
  ·rfl
  ·exact ih
theorem zDq {α:Type}(f:α->V){l a:List (S×α)}(h:l.map (fun p=>(p.1,f p.2))=a.map fun p=>(p.1,f p.2)):zZ f l=zZ f a:=by
 have b:=congrArg (lE fun p:S×V=>(tx p.1,p.2)) h
 rw[aV,aV]at b
 unfold zZ
 exact congrArg vI b
theorem FA.ext {K:ag}{D H t:Hp}{d c:ak}{g:List (S×zJ)}{b:List (S×ak×zJ)}{e:S}{l a:zJ}(h:FA K D H d g b)(nd:(g.map (·.1)).Nodup)(E:zK b e=some (c,l))(F:z6 c H t)(J:uG K t c a) :
  FA K D t d (zW g e a) (zW b e (c,a)):=by
 have n:(b.map (·.1)).Nodup:=by rw[h.keys];exact nd
 have f:(e,c,l)∈b:=(y7 n _ _).mpr E
 have u:∀ys,¬Rd H c (.tup ys):=by
  obtain⟨O,G,_⟩:=h.row _ f
  rintro ys (z|⟨o,z⟩)
  ·rw[G]at z;cases z
  ·rw[G]at z;cases z
 have I:(zW b e (c,a)).map (fun p=>(p.1,p.2.1))=b.map fun p=>(p.1,p.2.1):=zDn (fun v:ak×zJ=>v.1) b e (c,a) (c,l) E rfl
 have q:(zW b e (c,a)).map (fun r=>r.2.1)=b.map fun r=>r.2.1:=by
  have:=congrArg (lE fun p:S×ak=>p.2) I
  rw[aV,aV]at this
  exact this
 refine⟨?_,?_,fun r w=>?_,fun r w=>?_,by rw[q];exact h.nda⟩
 ·rw[zDm (fun v:ak×zJ=>v.2),h.rows]
 ·have e1:zZ (fun v:ak×zJ=>V.ref v.1) (zW b e (c,a))=zZ (fun v:ak×zJ=>V.ref v.1) b:=by
   refine zDq _ ?_
   have:=congrArg (lE fun p:S×ak=>(p.1,V.ref p.2)) I
   rw[aV,aV]at this
   exact this
  rw[e1]
  exact F _ _ (h.new _ f).2.symm h.top
 ·rcases kW w with z|⟨z,L⟩
  ·rw[z];exact J
  ·have x:r.1≠e:=L (.inr n)
   refine(h.row r z).sameX F u fun y=>x ?_
   have hi:=h.nda
   obtain⟨i,A,s⟩:=dM z
   obtain⟨j,B,m⟩:=dM f
   have:i=j:=by
    have e1:(b.map fun r=>r.2.1)[i]'(by simpa using A)=(b.map fun r=>r.2.1)[j]'(by simpa using B):=by
     rw[fR,fR,s,m];exact y
    exact(eC hi).mp e1
   subst this
   rw[s]at m
   rw[m]
 ·have:r.2.1∈(zW b e (c,a)).map fun r=>r.2.1:=ao.mpr ⟨r,w,rfl⟩
  rw[q]at this
  obtain⟨M,C,N⟩:=ao.mp this
  rw[<-N];exact h.new M C
theorem FA.put {K:ag}{q H s:Hp}{d c:ak}{g:List (S×zJ)}{f:List (S×ak×zJ)}{e:S}{a:zJ}(h:FA K q H d g f)(nd:(g.map (·.1)).Nodup)(B:uG K H c a)(C:q c=none)(t:∀r∈f,r.2.1≠c)(i:c≠d)
  (A:z6 d H s) (D:s d=some (.dK (uK (zZ (fun v:ak×zJ=>V.ref v.1) f) (Sum.inr (tx e)) (.ref c)))):FA K q s d (zW g e a) (zW f e (c,a)):=by
 have u:(f.map (·.1)).Nodup:=by rw[h.keys];exact nd
 have j:∀ys,¬Rd H d (.tup ys):=by
  rintro ys (z|⟨o,z⟩)
  ·rw[h.top]at z;cases z
  ·rw[h.top]at z;cases z
 refine⟨?_,?_,fun r w=>?_,fun r w=>?_,?_⟩
 ·rw[zDm (fun v:ak×zJ=>v.2),h.rows]
 ·rw[D];exact congrArg (fun z=>some (HO.dK z)) (zBh (fun v:ak×zJ=>V.ref v.1) f e (c,a) u)
 ·rcases kW w with z|⟨z,_⟩
  ·rw[z];exact B.sameX A j i
  ·exact(h.row r z).sameX A j (h.new r z).2
 ·rcases kW w with z|⟨z,_⟩
  ·rw[z];exact⟨C,i⟩
  ·exact h.new r z
 ·have go:∀l:List (S×ak×zJ),(l.map fun r=>r.2.1).Nodup->(∀r∈l,r.2.1≠c)->((zW l e (c,a)).map fun r=>r.2.1).Nodup:=by
   intro l
   induction l with
   |nil=>intro _ _;simp[zW]
   |cons r l ih=>
    intro p x
    rw[aD,bx]at p
    unfold zW
    split
    ·rw[aD,bx]
     refine⟨fun z=>?_,p.2⟩
     obtain⟨m,b,n⟩:=ao.mp z
     exact x m (aw _ b) n
    ·rw[aD,bx]
     refine⟨fun z=>?_,ih p.2 fun m b=>x m (aw _ b)⟩
     obtain⟨m,b,n⟩:=ao.mp z
     rcases kW b with y|⟨y,_⟩
     ·rw[y]at n
      exact x r (aq ..) n.symm
     ·exact p.1 (ao.mpr ⟨m,y,n⟩)
  exact go f h.nda t
noncomputable def zBo (K:ag)(H:Hp)(d:ak)(ly:List (S×zJ)):Prop:=∃fa:List (S×ak×zJ),fa.map (fun r=>(r.1,r.2.2))=ly/\H d=some (.dK (zZ (fun v:ak×zJ=>V.ref v.1) fa))/\∀r∈fa,r.2.1≠d/\uG K H r.2.1 r.2.2
theorem zAe {H:Hp}{a:ak}{kvs:List (zO×V)}(h:H a=some (.dK kvs)):∀ys,¬Rd H a (.tup ys):=by
 rintro ys (z|⟨o,z⟩)
 ·rw[h]at z;cases z
 ·rw[h]at z;cases z
theorem zEa {H:Hp}{a:ak}{o:Obj}{kvs:List (zO×V)}(h:H a=some (.frz o (.dK kvs))):∀ys,¬Rd H a (.tup ys):=by
 rintro ys (z|⟨b,z⟩)
 ·rw[h]at z;cases z
 ·rw[h]at z;cases z
theorem vY {H:Hp}{a:ak}{u:HO}:z6 a H (upd H a u):=fun b v hb e=>by rw[zG hb];exact e
theorem FA.other {K:ag}{b H c:Hp}{d a:ak}{g:List (S×zJ)}{e:List (S×ak×zJ)}(h:FA K b H d g e)(f:z6 a H c)(ha:∀ys,¬Rd H a (.tup ys))(hd:d≠a)(j:b a≠none):FA K b c d g e :=
 ⟨h.rows,f _ _ hd h.top,fun r i=>(h.row r i).sameX f ha fun z=>j (by rw[<-z];exact(h.new r i).1),h.new,h.nda⟩
structure PartsT (K:ag) (T:ak) (H:Hp) (pd ld:ak) (ps:List (S×S)) (f:S->S->Int×Int):Prop where
 ex:∃Hb,kA K Hb pd ps f/\z6 T Hb H/\uH T Hb/\Hb ld=none
theorem PartsT.row {K:ag}{T:ak}{H:Hp}{a ld:ak}{ps:List (S×S)}{f:S->S->Int×Int}(h:PartsT K T H a ld ps f){e l:S}(hl:(e,l)∈ps) :
  ∃(c:ak) (d:List (S×V)) (kvs:List (zO×V)),Rd H a (.dK kvs)/\vR kvs (Sum.inr (tx e))=some (.ref c)/\c≠a/\H c=some (.dK (zZ id d))/\d.map (·.1)=zN ps e/\(∀q∈d,z8 K H q.2 (f e q.1))/\c≠ld/\a≠ld/\H a≠none:=by
 obtain⟨F,x,m,w,p⟩:=h.ex
 obtain⟨G,r⟩:=gP w
 obtain⟨c,d,g1,g2,g3,A,B⟩:=x.row hl
 have s:c≠T:=fun z=>by rw[z,r]at g3;cases g3
 have t:c≠ld:=fun z=>by rw[z,p]at g3;cases g3
 rcases g1 with⟨kvs,u,e1,n,C⟩|⟨kvs,u,b,e1,n,_⟩
 ·have D:(Sum.inr (tx e):zO)=u:=by
   cases u with
   |inl i=>cases n
   |inr y=>
    have:V.str (tx e)=V.str y:=n
    rw[V.str.inj this]
  subst D
  have g:a≠T:=fun z=>by
   rcases e1 with e1|⟨o,e1⟩
   ·rw[z,r]at e1;cases e1
   ·rw[z,r]at e1;cases e1
  have v:a≠ld:=fun z=>by
   rcases e1 with e1|⟨o,e1⟩
   ·rw[z,p]at e1;cases e1
   ·rw[z,p]at e1;cases e1
  have j:Rd H a (.dK kvs):=by
   rcases e1 with e1|⟨o,e1⟩
   ·exact .inl (m _ _ g e1)
   ·exact .inr ⟨o,m _ _ g e1⟩
  refine⟨c,d,kvs,j,C.symm,g2,m _ _ s g3,A,fun q E=>m.frA (zBN w) (B q E),t,v,?_⟩
  rcases j with z|⟨o,z⟩<;>rw[z]<;>simp
 ·cases n
theorem zQH {t u:TS}{D:Ends}{σ:St}{H:Hp}(R:St->Hp->Prop)(c:∀a b,R a b->u D a b)(d:∀N:St->Hp->Prop,(∀a b,R a b->N a b)->t {D with nx:=N} σ H):zBw t u D σ H:=d (u D) c
theorem zIx (L:List (S×zJ))(r:S×zJ):vC (L++[r])=zW (vC L) r.1 ((zK (vC L) r.1).getD []++r.2):=by
 unfold vC
 rw[dw];rfl
theorem zQI {β:Type}(l:List (S×β))(e:S)(u v:β):zW (zW l e u) e v=zW l e v:=by
 induction l with
 |nil=>simp[zW]
 |cons p r ih=>
  obtain⟨a,b⟩:=p
  by_cases c:a=e
  ·simp[zW,c]
  ·simp[zW,c,ih]
theorem zIy:∀(L a:List (S×zJ)),(L.foldl y8 a).length<=a.length+L.length
 | [],a=>by simp
 |r::L,a=>by
  have b:=zIy L (y8 a r)
  have c:(y8 a r).length<=a.length+1:=zDl _ _ _
  rw[cC,aM];omega
theorem zIz (L:List (S×zJ)):(vC L).length<=L.length:=by
 have:=zIy L []
 unfold vC
 simpa using this
theorem zJA (m:Nat):∀(L a:List (S×zJ)) (k:Nat),(a.map (·.1)).Nodup->(∀r∈L,r.2.length<=m)->(∀r∈a,r.2.length<=m*k)->∀r∈L.foldl y8 a,r.2.length<=m*(k+L.length)
 | [],a,k,_,_,h,r,b=>by simpa using h r b
 |p::L,a,k,nd,c,h,r,b=>by
  have:=zJA m L (y8 a p) (k+1) (gN nd) (fun r b=>c r (aw _ b)) (fun q d=>?_) r b
  ·rw[aM,show k+(L.length+1)=k+1+L.length by omega];exact this
  ·have f:=c p (aq ..)
   rcases kW d with z|⟨z,_⟩
   ·rw[z]
    show((zK a p.1).getD []++p.2).length<=_
    rw[ay,o6]
    cases e:zK a p.1 with
    |none=>simp;omega
    |some u=>
     have:=h _ ((y7 nd _ _).mpr e)
     have g:u.length<=m*k:=this
     simp;omega
   ·have:=h q z
    rw[o6];omega
theorem zQJ {m:Nat}{L:List (S×zJ)}(h:∀r∈L,r.2.length<=m):∀r∈vC L,r.2.length<=m*L.length:=fun r a=>by
 have:=zJA m L [] 0 (by simp) h (by simp) r a
 simpa using this
theorem zJB {nx:S->List S}{f:S->S->Int×Int}{o:Nat}{x:S}{p:S×zJ}{m:Nat}(h:(nx p.1).length<=m):(yY nx f o x p).length<=m:=by
 unfold yY
 rw[ai]
 exact bJ (dq ..) h
theorem zQK {nx:S->List S}{f:S->S->Int×Int}{o:Nat}{x:S}{p:S×zJ}{m:Nat}(h:p.2.length<=m):∀r∈yY nx f o x p,r.2.length<=m:=fun r a=>by
 obtain⟨l,_,rfl⟩:=ao.mp a
 rw[ai];exact h
theorem zBP {α β:Type}(g:α->List β)(m:Nat):∀l:List α,(∀a∈l,(g a).length<=m)->(l.flatMap g).length<=l.length*m
 | [],_=>by simp
 |a::l,h=>by
  have:=zBP g m l fun b hb=>h b (aw _ hb)
  have:=h a (aq ..)
  rw[c9,ay,aM,iS];omega
theorem zEb {ps:List (S×S)}(e:S):(zN ps e).length<=ps.length:=by
 have a:=zCZ ps e
 unfold zN
 first
  |(rw[ai];exact a)
  |omega
theorem zJC {β:Type}:∀(l1:List (S×β)) (e:S) (v c:β) (l2:List (S×β)),e∉l1.map (·.1)->zW (l1++(e,v)::l2) e c=l1++(e,c)::l2
 | [],e,v,c,l2,_=>by simp[zW]
 |(a,b)::l1,e,v,c,l2,h=>by
  have ha:a≠e:=fun z=>h (by rw[z];exact aq ..)
  have d:e∉l1.map (·.1):=fun z=>h (aw _ z)
  have:=zJC l1 e v c l2 d
  simp[zW,ha,this]
noncomputable def gQ (f:S->S->Int×Int)(e l:S)(ps:zJ):zJ:=ps.map fun q=>(zT q.1 (f e l),q.2++l)
section
variable{P:aJ}{w:bh}{K:ag}{mg:Str->Option aj}{base:bF}
noncomputable abbrev zEc:cJ:=top 47
theorem zJD:FnScope ["parts","order","layer","wanted","many","found","end","pairs","letter","part","longer"] ["parts","order","layer","wanted","many"] (defScope zEc):=yE
theorem zJE:(["letter","part","weight","text"]:List Str).Nodup:=by decide+kernel
noncomputable def zAf (ps:List (S×S)) (f:S->S->Int×Int) (o n:Nat) (ly:List (S×zJ)) (x:S):List (S×zJ):=(vC (ly.flatMap (yY (zN ps) f o x))).map fun r=>(r.1,vB n r.2)
noncomputable def zJF (K:ag)(T:ak):Sp:=fun vs H Q _=>∃(pd ld:ak) (o n:Nat) (bk:List S) (f:S->S->Int×Int) (ly:List (S×zJ)) (x:S),vs=[.ref pd,.int o,.ref ld,sv x,.int n]/\Bk bk o/\PartsT K T H pd ld (zA o bk) f/\Smf f/\zBo K H ld ly/\ly.length<=72/\
 (∀r∈ly,(∃l,(r.1,l)∈zA o bk)/\r.2.length<=900/\∀q∈r.2,q.2.length<=60)/\n<=1000/\uH T H/\(∀r∈vC (ly.flatMap (yY (zN (zA o bk)) f o x)),r.2.Nodup/\r.2.length<64)/\
 ∀fo H',z6 T H H'->uH T H'->H fo=none->zBo K H' fo (zAf (zA o bk) f o n ly x)->Q (.ref fo) H'
theorem zQL {f T:ak}{fd:bc}(F:Fun K "next_heaviest" "next_heaviest" zEc f fd)(hli:mg "list"=none)(cF:zS P w K mg base 1 "may_follow" ["letter","wanted"] zER)(cEnd:zS P w K mg base 1 "end_of" ["text","order"] zCQ)(cL:zS P w K mg base 1 "left_of" ["weight","part"] (zBn K))
  (cH:zS P w K mg base 1 "heaviest" ["pairs","many"] (zCb K T)):FnOk P w K mg base z0 2 f fd ["parts","order","layer","wanted","many"] (zJF K T):=by
 refine F.ok zJD (fun vs H Q E h=>?_) (fun cdv A outer s H vs Q E hr h=>?_)
 ·obtain⟨pd,ld,o,n,bk,f,ly,x,rfl,_⟩:=h;rfl
 ·obtain⟨pd,ld,o,n,bk,ff,ly,x,rfl,hb,hP,hS,⟨la,l1,l2,l3⟩,hl72,hly,hn,tab,hgo,k⟩:=h
  have hu:=gJ hr
  have nd:=zJD.nd
  refine⟨_,zR (yC (i:=5) nd rfl (Or.inl rfl) zAu)
   (zR (zAb (vX bE rfl (zAa (zAE K rfl bL cZ dy zAV (pv 2)))
     (gE rfl (yW (yB (i:=6) nd rfl (Or.inl rfl)) (yW (yB (i:=7) nd rfl (Or.inl rfl)) qA)))
     (zL (zAb (vX bE rfl (zAa (zAE K rfl bL cZ dy zAV (g8 hu (pv 0) (pv 6) (fun _ _=>rfl))))
      (gE rfl (yW (yB (i:=8) nd rfl (Or.inr rfl)) (yW (yB (i:=9) nd rfl (Or.inr rfl)) qA)))
      (zL (y0 (vW (zH cF hr rfl (zC (pv 8) (zC (pv 3) zD))))
       (zR (yC (i:=10) nd rfl (Or.inl rfl) (jM bL gi ka zHF (pv 5) (zC (zH cEnd hr rfl (zC (zV zBY (pv 6) (pv 8)) (zC (pv 1) zD))) (zC (uJ zD) zD))))
       (zL (v3 (jM c8 fH fI zCA (pv 10) (zC
        (qD (N:=["letter","part","weight","text"]) (caps:=[8,9]) rfl (uS (by kernel_rfl)) (qY (pv 7))
         (fun cl X s H ex=>zAD K 2 rfl rfl (yW (yB (i:=2) zJE rfl (Or.inl rfl)) (yW (yB (i:=3) zJE rfl (Or.inl rfl)) qA)) rfl rfl) (fun cl X s H ex=>qM)
         (fun cl X s H ex=>uA (zC (zH cL hr rfl (zC (pv 2) (zC (pv 1) zD))) (zC (zV zBY (pv 3) (pv 0)) zD)))) zD)))))
       yZ)))))))
   (zR (vX bE rfl (qY (zAr (zQG rfl) (by rfl) hli f9 (zC (pv 5) zD))) (yB (i:=6) nd rfl (Or.inl rfl))
     (zL (zCF hu (pv 5) (pv 6) (zH cH hr rfl (zC (g8 hu (pv 5) (pv 6) (fun _ _=>rfl)) (zC (pv 4) zD))) rfl)))
   (zL (z5 (pv 5))))),?_⟩
  intro fo hfo
  have sH1:zB H (upd H fo (.dK [])):=zB.upd1 hfo
  have hd1:=sH1 _ _ l2
  have hlfo:fo≠ld:=(yK l2 hfo).symm
  refine⟨ld,_,hd1,?_⟩
  refine⟨_,rfl,.inr (.inr (.inl ⟨rfl,.inl ⟨_,hd1⟩⟩)),ld,_,rfl,rfl,hd1,fun p hp=>?_⟩
  have hpfo:p≠fo:=fun z=>by subst z;rw[zE]at hp;cases hp
  have sH2:zB (upd H fo (.dK [])) (upd (upd H fo (.dK [])) p (VW p ld)):=zB.upd1 hp
  refine⟨p,ld,_,rfl,zE,sH2 _ _ hd1,fun ob=>?_⟩
  have lal:la.length<=72:=by rw[<-l1,ai]at hl72;exact hl72
  have l2':=l2
  generalize hkv:zZ (fun v:ak×zJ=>V.ref v.1) la=kvs at l2 hd1
  generalize hH3:upd (upd (upd H fo (.dK [])) p (VW p ld)) ld (.frz ob (.dK kvs))=H3
  generalize hHA:upd H ld (.frz ob (.dK kvs))=HA
  have hAld:HA ld=some (.frz ob (.dK kvs)):=by rw[<-hHA,zE]
  have hAx:z6 ld H HA:=by rw[<-hHA];exact vY
  have s3:zB HA H3:=fun b u e=>by
   rw[<-hH3]
   by_cases hb':b=ld
   ·subst hb';rw[hAld]at e;rw[zE];exact e
   ·rw[<-hHA,zG hb']at e
    rw[zG hb']
    exact sH2 _ _ (sH1 _ _ e)
  have hfo3:H3 fo=some (.dK (zZ (fun v:ak×zJ=>V.ref v.1) [])):=by
   rw[<-hH3,zG hlfo,zG hpfo.symm,zE];rfl
  have h72:=zBK hb
  refine zBE (fun i σ H'=>(∃x6 x7 x8 x9 x10:Option V,σ=[some (.ref pd),some (.int o),some (.ref ld),some (sv x),some (.int n),some (.ref fo),x6,x7,x8,x9,x10])/\zB HA H'/\∃fa,FA K H H' fo (vC ((ly.take i).flatMap (yY (zN (zA o bk)) ff o x))) fa)
   ⟨⟨_,_,_,_,_,rfl⟩,s3,[],⟨rfl,hfo3,by simp,by simp,by simp⟩⟩ (fun i σ H' _ h=>h.2.1 _ _ hAld) ?_ ?_
  ·rintro i q T0 σ H' Nx hN hq ⟨⟨x6,x7,x8,x9,x10,rfl⟩,sm,fa,FH⟩ hT0
   rw[<-hkv]at hq
   unfold zZ vI at hq
   rw[ar,ar]at hq
   cases ei:la[i]? with
   |none=>rw[ei]at hq;cases hq
   |some r0=>
   rw[ei]at hq
   have hq2:q=(Sum.inr (tx r0.1),V.ref r0.2.1):=(aB hq).symm
   subst hq2
   have hmem:r0∈la:=aY ei
   have eli:ly[i]?=some (r0.1,r0.2.2):=by rw[<-l1,ar,ei];rfl
   have hi:i<ly.length:=(ah.mp eli).1
   have hlym:(r0.1,r0.2.2)∈ly:=aY eli
   obtain⟨⟨l0,hl0⟩,hl900,hl60⟩:=hly _ hlym
   have hl900:r0.2.2.length<=900:=hl900
   have hl60:∀q∈r0.2.2,q.2.length<=60:=hl60
   have etk:(ly.take (i+1)).flatMap (yY (zN (zA o bk)) ff o x)=(ly.take i).flatMap (yY (zN (zA o bk)) ff o x)++yY (zN (zA o bk)) ff o x (r0.1,r0.2.2):=by
    rw[aA hi,(ah.mp eli).2,dN];simp
   have hC0:((ly.take i).flatMap (yY (zN (zA o bk)) ff o x)).length<=5184:=by
    have h1:=zBP (yY (zN (zA o bk)) ff o x) 72 (ly.take i) fun a _=>zJB (bJ (zEb a.1) h72)
    have h2:(ly.take i).length<=72:=by rw[aZ];omega
    omega
   have hC9:∀r∈(ly.take i).flatMap (yY (zN (zA o bk)) ff o x),r.2.length<=900:=fun r hr=>by
    obtain⟨a,ha,hr⟩:=aU.mp hr
    exact zQK (hly a (da ha)).2.1 r hr
   generalize(ly.take i).flatMap (yY (zN (zA o bk)) ff o x)=C0 at FH etk hC0 hC9
   have hel:r0.1.length<=3:=by
    have h1:r0.1.length<=o:=zIl hl0
    have:=hb.o3
    omega
   obtain⟨ra,kv,kvs2,e1,e2,g2,g3,g4,g5,rne,pdl,pdn⟩:=hP.row hl0
   refine⟨T0,[sv r0.1,.ref r0.2.1],rfl,.of zE,rfl,_,_,rfl,_,_,rfl,rfl,?_⟩
   generalize hH4:upd H' T0 (HO.tup [kV ((Sum.inr (tx r0.1):zO),V.ref r0.2.1).1,((Sum.inr (tx r0.1):zO),V.ref r0.2.1).2])=H4
   have s4:zB H' H4:=by rw[<-hH4];exact zB.upd1 hT0
   have sm4:=sm.trans s4
   have F4:=FH.same s4
   have hAra:HA ra=some (.dK (zZ id kv)):=hAx _ _ rne g3
   have hra4:=sm4 _ _ hAra
   have e14:Rd H4 pd (.dK kvs2):=by
    rcases e1 with e1|⟨o',e1⟩
    ·exact .inl (sm4 _ _ (hAx _ _ pdl e1))
    ·exact .inr ⟨o',sm4 _ _ (hAx _ _ pdl e1)⟩
   have dg4:vH H4 pd (sv r0.1) (some (.ref ra)):=.inl ⟨kvs2,Sum.inr (tx r0.1),e14,rfl,e2.symm⟩
   refine⟨ra,_,hra4,?_⟩
   refine⟨_,rfl,_,rfl,pd,.ref ra,rfl,dg4,.inr (.inr (.inl ⟨rfl,.inl ⟨_,hra4⟩⟩)),ra,_,rfl,rfl,hra4,fun p2 hp2=>?_⟩
   have s5:zB H4 (upd H4 p2 (VW p2 ra)):=zB.upd1 hp2
   refine⟨p2,ra,_,rfl,zE,s5 _ _ hra4,fun ob2=>?_⟩
   have rafo:fo≠ra:=fun z=>by rw[<-z,hfo]at g3;cases g3
   have hra0:H ra≠none:=by rw[g3];simp
   have F5:FA K H (upd (upd H4 p2 (VW p2 ra)) ra (.frz ob2 (.dK (zZ id kv)))) fo (vC C0) fa:=(F4.same s5).other vY (zAe (s5 _ _ hra4)) rafo hra0
   generalize hHB:upd HA ra (.frz ob2 (.dK (zZ id kv)))=HB
   have hBra:HB ra=some (.frz ob2 (.dK (zZ id kv))):=by rw[<-hHB,zE]
   have hBx:z6 ra HA HB:=by rw[<-hHB];exact vY
   have s5B:zB HB (upd (upd H4 p2 (VW p2 ra)) ra (.frz ob2 (.dK (zZ id kv)))):=fun b u e=>by
    by_cases hb':b=ra
    ·subst hb';rw[hBra]at e;rw[zE];exact e
    ·rw[<-hHB,zG hb']at e
     rw[zG hb']
     exact s5 _ _ (sm4 _ _ e)
   generalize upd (upd H4 p2 (VW p2 ra)) ra (.frz ob2 (.dK (zZ id kv)))=H5 at F5 s5B
   have hkl:kv.length<=(zA o bk).length:=by
    have h1:=zCZ (zA o bk) r0.1
    have h2:(kv.map (·.1)).length=((vF (zA o bk) r0.1).map (·.1)).length:=by rw[g4]
    rw[ai,ai]at h2
    omega
   have prB:uG K HB r0.2.1 r0.2.2:=((l3 r0 hmem).2.sameX hAx (zAe l2) (l3 r0 hmem).1).sameX hBx (zAe hAra) fun z=>by
    obtain⟨ts,h1,_⟩:=(l3 r0 hmem).2
    rw[z,g3]at h1;cases h1
   have frB:∀q∈kv,z8 K HB q.2 (ff r0.1 q.1):=fun q hq=>hBx.frA (zAe hAra) (hAx.frA (zAe l2) (g5 q hq))
   refine zBE (fun j σ H6=>(∃x8 x9 x10:Option V,σ=[some (.ref pd),some (.int o),some (.ref ld),some (sv x),some (.int n),some (.ref fo),some (sv r0.1),some (.ref r0.2.1),x8,x9,x10])/\zB HB H6/\
     ∃fa,FA K H H6 fo (vC (C0++(((zN (zA o bk) r0.1).take j).filter (mf x)).map fun l=>(zI (r0.1++l) o,gQ ff r0.1 l r0.2.2))) fa)
    ⟨⟨_,_,_,rfl⟩,s5B,fa,by simpa using F5⟩ (fun j σ H6 _ h=>h.2.1 _ _ hBra) ?_ ?_
   ·rintro j q T2 σ H6 Nx2 hN2 hq ⟨⟨x8,x9,x10,rfl⟩,sm6,fa6,FA6⟩ hT2
    unfold zZ vI at hq
    rw[ar,ar]at hq
    cases el:kv[j]? with
    |none=>rw[el]at hq;cases hq
    |some q0=>
    rw[el]at hq
    have hq2:q=(Sum.inr (tx q0.1),q0.2):=(aB hq).symm
    subst hq2
    have hqm:q0∈kv:=aY el
    have hnx:(zN (zA o bk) r0.1)[j]?=some q0.1:=by rw[<-g4,ar,el];rfl
    have hj:j<(zN (zA o bk) r0.1).length:=(ah.mp hnx).1
    have hlm:q0.1∈zN (zA o bk) r0.1:=aY hnx
    have hl1:q0.1.length<=1:=kY ((uW _ _ _).mp hlm)
    have etk2:(zN (zA o bk) r0.1).take (j+1)=(zN (zA o bk) r0.1).take j++[q0.1]:=by
     rw[aA hj,(ah.mp hnx).2]
    refine⟨T2,[sv q0.1,q0.2],rfl,.of zE,rfl,_,_,rfl,_,_,rfl,rfl,?_⟩
    generalize hH7:upd H6 T2 (HO.tup [kV ((Sum.inr (tx q0.1):zO),q0.2).1,((Sum.inr (tx q0.1):zO),q0.2).2])=H7
    have s7:zB H6 H7:=by rw[<-hH7];exact zB.upd1 hT2
    refine⟨_,rfl,_,rfl,q0.1,x,rfl,fun H8 s8=>⟨mf x q0.1,rfl,?_⟩⟩
    have s78:=s7.trans s8
    have FA8:=FA6.same s78
    have sm8:=sm6.trans s78
    refine zDI (fun hm=>?_) (fun hm=>?_)
    ·generalize hLL:C0++(((zN (zA o bk) r0.1).take j).filter (mf x)).map (fun l=>(zI (r0.1++l) o,gQ ff r0.1 l r0.2.2))=LL at FA8
     have etk3:C0++(((zN (zA o bk) r0.1).take (j+1)).filter (mf x)).map (fun l=>(zI (r0.1++l) o,gQ ff r0.1 l r0.2.2))=LL++[(zI (r0.1++q0.1) o,gQ ff r0.1 q0.1 r0.2.2)]:=by
      rw[etk2,dh,aQ,<-dO,hLL]
      simp[hm]
     have hLn:LL.length<=5256:=by
      rw[<-hLL,ay,ai]
      have h1:=dq (mf x) ((zN (zA o bk) r0.1).take j)
      have h2:=zEb (ps:=zA o bk) r0.1
      rw[aZ]at h1
      omega
     have hL9:∀r∈LL,r.2.length<=900:=fun r hr=>by
      rw[<-hLL]at hr
      rcases bt.mp hr with z|z
      ·exact hC9 r z
      ·obtain⟨l,_,rfl⟩:=ao.mp z
       show(gQ ff r0.1 l r0.2.2).length<=900
       unfold gQ;rw[ai];exact hl900
     have ndL:=(zBO LL).1
     generalize he:zI (r0.1++q0.1) o=e at etk3
     generalize hqs:gQ ff r0.1 q0.1 r0.2.2=qs at etk3
     have hBn:∀b,H b=none->HB b=none:=fun b hb0=>by
      rw[<-hHB,zG (fun z=>by rw[z]at hb0;exact hra0 hb0),<-hHA,zG (fun z=>by rw[z,l2]at hb0;cases hb0)];exact hb0
     refine zQH (fun σ' H9=>∃(la2:ak) (prs:zJ) (g:List (S×zJ)) (fa9:List (S×ak×zJ)),σ'=[some (.ref pd),some (.int o),some (.ref ld),some (sv x),some (.int n),some (.ref fo),some (sv r0.1),some (.ref r0.2.1),some (sv q0.1),some q0.2,some (.ref la2)]/\zB HB H9/\FA K H H9 fo g fa9/\(g.map (·.1)).Nodup/\zK fa9 e=some (la2,prs)/\prs.length<=900*5256/\vC (LL++[(e,qs)])=zW g e (prs++qs)) ?_ ?_
     ·rintro σ' H9 ⟨la2,prs,g,fa9,rfl,sm9,F9,nd9,hg9,hpl,hag⟩
      have ndf:(fa9.map (·.1)).Nodup:=by rw[F9.keys];exact nd9
      have hmm:(e,la2,prs)∈fa9:=(y7 ndf _ _).mpr hg9
      obtain⟨ts,t1,t2,t3⟩:=F9.row _ hmm
      have t2:ts.length=prs.length:=t2
      obtain⟨tl,p1,p2,p3⟩:=prB.same sm9
      refine⟨_,rfl,.inl ⟨rfl,_,.of t1⟩,_,rfl,r0.2.1,rfl,⟨_,.of p1⟩,?_⟩
      refine j5 (q8 K r0.2.1 tl) [some (sv q0.1),some q0.2] 2 (by rw[p2];omega) (fun m acc H10=>zB H9 H10/\acc.length=m/\∀(m':Nat) (p:Int×S),m'<m->qs[m']?=some p->∃a,acc[m']?=some (.ref a)/\z7 K H10 a [.int p.1,sv p.2])
       ⟨zB.refl _,rfl,fun m' p h=>absurd h (ng _)⟩ (fun m acc H10 _ h=>⟨.of (h.1 _ _ p1),by rw[h.2.1];exact aC _⟩) ?_ ?_
      ·rintro m y acc H10 ys Nx3 hN3 hy hys ⟨s10,al,hacc⟩
       obtain⟨y1,y2,rfl⟩:=zBL hys
       have hm1:m<r0.2.2.length:=by rw[<-p2];exact(ah.mp hy).1
       obtain⟨a,a1,a2⟩:=p3 m r0.2.2[m] (av hm1)
       rw[hy]at a1
       cases a1
       generalize hpm:r0.2.2[m]=pm at a2
       have hpl60:pm.2.length<=60:=by rw[<-hpm];exact hl60 _ (cq hm1)
       have hqm2:qs[m]?=some (zT pm.1 (ff r0.1 q0.1),pm.2++q0.1):=by
        rw[<-hqs];unfold gQ
        rw[ar,av hm1,hpm];rfl
       obtain⟨b1,b2,b3,b4⟩:=hS r0.1 q0.1
       have fr10:z8 K H10 q0.2 (ff r0.1 q0.1):=((frB q0 hqm).same sm9).same s10
       refine⟨a,[.int pm.1,sv pm.2],rfl,s10.seqT a2,rfl,_,_,rfl,_,_,rfl,rfl,?_⟩
       refine⟨_,rfl,_,rfl,pm.1,q0.2,ff r0.1 q0.1,rfl,fr10,b1,b2,b3,b4,?_⟩
       refine⟨_,rfl,_,rfl,tx pm.2,tx q0.1,rfl,rfl,by rw[yF,yF,aI];omega,?_⟩
       refine⟨by show 2<=_;rw[aI];omega,fun a9 ha9=>hN3 _ _ [some (.int pm.1),some (sv pm.2)] rfl ⟨s10.trans (zB.upd1 ha9),by rw[ay,al];rfl,fun m' p hm' hp'=>?_⟩⟩
       by_cases hmm2:m'=m
       ·subst hmm2
        rw[hqm2]at hp'
        cases hp'
        refine⟨a9,by rw[aO (by omega),al,f6];rfl,.inl (.of ?_)⟩
        rw[zE,zEK]
       ·obtain⟨a',z1,z2⟩:=hacc m' p (by omega) hp'
        exact⟨a',by rw[aR (by omega)];exact z1,(zB.upd1 ha9).seqT z2⟩
      ·rintro acc H10 ⟨s10,al,hacc⟩ D hD
       have sD:zB H10 (upd H10 D (.lst acc)):=zB.upd1 hD
       have hqn:qs.length=r0.2.2.length:=by rw[<-hqs];unfold gQ;rw[ai]
       have s11:=s10.trans sD
       refine⟨la2,D,ts,acc,rfl,rfl,s11 _ _ t1,zE,by rw[t2,al,p2,aI];omega,hN2 _ _ ⟨⟨_,_,_,rfl⟩,(sm9.trans s11).upd_new (hBn _ (F9.new _ hmm).1),zW fa9 e (la2,prs++qs),?_⟩⟩
       rw[etk3,hag]
       refine(F9.same s11).ext nd9 hg9 vY ⟨ts++acc,zE,by rw[ay,ay,t2,al,p2,hqn],fun i' p hi'=>?_⟩
       have nt:∀ys,¬Rd (upd H10 D (.lst acc)) la2 (.tup ys):=by
        have h1:=s11 _ _ t1
        rintro ys (z|⟨o',z⟩)
        ·rw[h1]at z;cases z
        ·rw[h1]at z;cases z
       by_cases hlt:i'<prs.length
       ·rw[aR hlt]at hi'
        obtain⟨a,z1,z2⟩:=t3 i' p hi'
        exact⟨a,by rw[aR (by omega)];exact z1,(vY (u:=.lst (ts++acc))).seqT nt (s11.seqT z2)⟩
       ·rw[aO (by omega)]at hi'
        have hb2:=(ah.mp hi').1
        obtain⟨a,z1,z2⟩:=hacc (i'-prs.length) p (by omega) hi'
        exact⟨a,by rw[aO (by omega),t2];exact z1,(vY (u:=.lst (ts++acc))).seqT nt (sD.seqT z2)⟩
     ·intro N hN'
      have hcl:(tx r0.1).length+(tx q0.1).length<=sizeLine:=by rw[yF,yF,aI];omega
      have hll:(r0.1++q0.1).length<=64:=by rw[ay];omega
      have hfl:fa6.length<=5256:=by
       have h1:=zIz LL
       rw[<-FA8.rows,ai]at h1;omega
      refine⟨_,rfl,.inr (.inr (.inl ⟨rfl,.inl ⟨_,FA8.top⟩⟩)),_,rfl,_,rfl,tx r0.1,tx q0.1,rfl,rfl,hcl,_,rfl,r0.1++q0.1,o,by rw[zEK];rfl,hb.o1,hll,bw _,fun l9 hl9=>?_⟩
      have s9:zB H8 (upd H8 l9 (.lst [])):=zB.upd1 hl9
      have hl9s:upd H8 l9 (.lst []) l9=some (.lst []):=zE
      generalize upd H8 l9 (.lst [])=H9 at s9 hl9s
      have F9:=FA8.same s9
      have hval:vR (zZ (fun v:ak×zJ=>V.ref v.1) fa6) (Sum.inr (tx e))=(zK fa6 e).map fun v=>V.ref v.1:=jV _ _ _
      rw[he]
      refine⟨fo,_,Sum.inr (tx e),_,rfl,rfl,F9.top,by rw[qP,aI];omega,fun yv hyv=>?_,fun hnv=>?_⟩
      ·rw[hval]at hyv
       cases hg:zK fa6 e with
       |none=>rw[hg]at hyv;cases hyv
       |some u=>
        rw[hg]at hyv
        have:yv=.ref u.1:=(aB hyv).symm
        subst this
        have hgg:zK (vC LL) e=some u.2:=by rw[F9.get,hg];rfl
        refine hN' _ _ ⟨u.1,u.2,_,fa6,rfl,sm8.trans s9,F9,ndL,hg,?_,by rw[zIx,hgg];rfl⟩
        have h1:=zQJ hL9 _ ((y7 ndL _ _).mpr hgg)
        exact bJ h1 (nX _ hLn)
      ·rw[hval]at hnv
       have hg:zK fa6 e=none:=by
        cases hg:zK fa6 e with
        |none=>rfl
        |some u=>rw[hg]at hnv;cases hnv
       have hgg:zK (vC LL) e=none:=by rw[F9.get,hg];rfl
       have hl9H:H l9=none:=by
        cases z:H l9 with
        |none=>rfl
        |some u=>
         exfalso
         have:HB l9≠none:=by
          rw[<-hHB,<-hHA]
          by_cases y1:l9=ra
          ·rw[y1,zE];simp
          ·rw[zG y1]
           by_cases y2:l9=ld
           ·rw[y2,zE];simp
           ·rw[zG y2,z];simp
         cases y:HB l9 with
         |none=>exact this y
         |some u'=>rw[sm8 _ _ y]at hl9;cases hl9
       have hl9f:l9≠fo:=fun z=>by rw[z,FA8.top]at hl9;cases hl9
       refine hN' _ _ ⟨l9,[],zW (vC LL) e [],zW fa6 e (l9,[]),rfl,(sm8.trans s9).upd_new (hBn _ hfo),F9.put ndL ⟨[],hl9s,rfl,fun i' p hi'=>by cases hi'⟩ hl9H (fun r hr z=>?_) hl9f vY zE,gN ndL,by rw[zAy,if_pos rfl],by simp,by rw[zIx,hgg,zQI];rfl⟩
       obtain⟨ts,t1,_⟩:=FA8.row r hr
       rw[z,hl9]at t1;cases t1
    ·have hm':mf x q0.1=false:=by simpa using hm
     refine hN2 _ _ ⟨⟨_,_,_,rfl⟩,sm8,fa6,?_⟩
     rw[etk2,dh]
     simpa [hm']using FA8
   ·rintro σ H6 ⟨⟨x8,x9,x10,rfl⟩,sm6,fa6,FA6⟩
    refine⟨ob2,sm6 _ _ hBra,hN _ _ ⟨⟨_,_,_,_,_,rfl⟩,zB.thaw (by rw[hHB];exact sm6) hAra,fa6,?_⟩⟩
    have e1:(zZ id kv).length=(zN (zA o bk) r0.1).length:=by
     rw[qP,<-g4,ai]
    rw[e1,bo]at FA6
    rw[etk]
    exact FA6.other vY (zEa (sm6 _ _ hBra)) rafo hra0
  ·rintro σ H' ⟨⟨x6,x7,x8,x9,x10,rfl⟩,sm,fa,FH⟩
   refine⟨ob,sm _ _ hAld,?_⟩
   have ekl:kvs.length=ly.length:=by rw[<-hkv,qP,<-l1,ai]
   rw[ekl,bo]at FH
   have hgo':=hgo
   have ndg:=(zBO (ly.flatMap (yY (zN (zA o bk)) ff o x))).1
   have hgl:(vC (ly.flatMap (yY (zN (zA o bk)) ff o x))).length<=5184:=by
    have h1:=zIz (ly.flatMap (yY (zN (zA o bk)) ff o x))
    have h2:=zBP (yY (zN (zA o bk)) ff o x) 72 ly fun a _=>zJB (bJ (zEb a.1) h72)
    omega
   have k':∀fo H',z6 T H H'->uH T H'->H fo=none->zBo K H' fo ((vC (ly.flatMap (yY (zN (zA o bk)) ff o x))).map fun r=>(r.1,vB n r.2))->Q (.ref fo) H':=k
   generalize vC (ly.flatMap (yY (zN (zA o bk)) ff o x))=g at FH hgo' k' ndg hgl
   have hld0:H ld≠none:=by rw[l2];simp
   have F1:FA K H (upd H' ld (.dK kvs)) fo g fa:=FH.other vY (zEa (sm _ _ hAld)) hlfo hld0
   have s1:zB H (upd H' ld (.dK kvs)):=zB.thaw (by rw[hHA];exact sm) l2
   generalize upd H' ld (.dK kvs)=H1 at F1 s1
   have efa:fa.map (fun p:S×ak×zJ=>V.str (tx p.1))=(g.map (·.1)).map sv:=by
    rw[<-F1.rows,aV,aV];rfl
   obtain⟨qs,hT⟩:=gP tab
   have hT0:H T≠none:=by rw[hT];simp
   have hTfo:fo≠T:=(yK hT hfo).symm
   refine⟨_,rfl,fo,fa.map (fun p:S×ak×zJ=>(tx p.1,V.ref p.2.1)),rfl,F1.top,fun L hL=>?_⟩
   refine⟨L,rfl,⟨_,.of zE⟩,?_⟩
   have eL:(fa.map (fun p:S×ak×zJ=>(tx p.1,V.ref p.2.1))).map (fun p:Str×V=>V.str p.1)=(g.map (·.1)).map sv:=by rw[aV];exact efa
   rw[eL]
   have s2:zB H1 (upd H1 L (.lst ((g.map (·.1)).map sv))):=zB.upd1 hL
   have hLs:upd H1 L (.lst ((g.map (·.1)).map sv)) L=some (.lst ((g.map (·.1)).map sv)):=zE
   have hLH:H L=none:=s1.free hL
   have hLT:L≠T:=fun z=>by rw[z,hT]at hLH;cases hLH
   have hLf:L≠fo:=fun z=>by rw[z,F1.top]at hL;cases hL
   generalize upd H1 L (.lst ((g.map (·.1)).map sv))=H2 at s2 hLs
   have F2:=F1.same s2
   refine qN (q8 K L ((g.map (·.1)).map sv)) (fun i σ H3=>(∃x6 x7 x8 x9 x10:Option V,σ=[some (.ref pd),some (.int o),some (.ref ld),some (sv x),some (.int n),some (.ref fo),x6,x7,x8,x9,x10])/\z6 T H H3/\uH T H3/\H3 L=some (.lst ((g.map (·.1)).map sv))/\
     ∃fa,FA K H H3 fo ((g.take i).map (fun r=>(r.1,vB n r.2))++g.drop i) fa)
    ⟨⟨_,_,_,_,_,rfl⟩,z6.of (s1.trans s2),qH tab (s1.trans s2),hLs,fa,by simpa using F2⟩ (fun i σ H3 _ h=>.of h.2.2.2.1) ?_ ?_
   ·rintro i y σ H3 Nx hNx hy ⟨⟨x6,x7,x8,x9,x10,rfl⟩,sx,tb,hL3,fa3,F3⟩
    rw[ar,ar]at hy
    cases ei:g[i]? with
    |none=>rw[ei]at hy;cases hy
    |some r0=>
    rw[ei]at hy
    have hy2:y=sv r0.1:=(aB hy).symm
    subst hy2
    have hi:i<g.length:=(ah.mp ei).1
    have er:g[i]=r0:=(ah.mp ei).2
    have hdr:g.drop i=r0::g.drop (i+1):=by rw[fi hi,er]
    have hkeys:((g.take i).map (fun r=>(r.1,vB n r.2))++g.drop i).map (·.1)=g.map (·.1):=by
     rw[aQ,aV]
     show(g.take i).map (·.1)++(g.drop i).map (·.1)=_
     rw[<-aQ,gu]
    have nd3:(((g.take i).map (fun r=>(r.1,vB n r.2))++g.drop i).map (·.1)).Nodup:=by rw[hkeys];exact ndg
    have hnot:r0.1∉((g.take i).map (fun r=>(r.1,vB n r.2))).map (·.1):=by
     rw[hdr,aQ,aD]at nd3
     exact fun z=>(dQ.mp nd3).2.2 _ z _ (aq ..) rfl
    have hm3:(r0.1,r0.2)∈(g.take i).map (fun r=>(r.1,vB n r.2))++g.drop i:=by
     rw[hdr];exact aX _ (aq ..)
    have hget:(zK fa3 r0.1).map (·.2)=some r0.2:=by rw[<-F3.get];exact(y7 nd3 _ _).mp hm3
    cases hg:zK fa3 r0.1 with
    |none=>rw[hg]at hget;cases hget
    |some u=>
    rw[hg]at hget
    have hu2:u.2=r0.2:=aB hget
    have ndf:(fa3.map (·.1)).Nodup:=by rw[F3.keys];exact nd3
    have hmm:(r0.1,u.1,u.2)∈fa3:=(y7 ndf _ _).mpr hg
    have hpa:=F3.row _ hmm
    have hpa':uG K H3 u.1 r0.2:=by rw[<-hu2];exact hpa
    obtain⟨hnd,h64⟩:=hgo' r0 (aY ei)
    have dg:vH H3 fo (sv r0.1) (some (.ref u.1)):=by
     have:=vH.k (k:=Sum.inr (tx r0.1)) F3.top
     rw[jV,hg]at this
     exact this
    refine⟨_,rfl,_,rfl,fo,.ref u.1,rfl,dg,_,rfl,u.1,r0.2,n,rfl,hpa',hnd,h64,hn,tb,fun D H4 rs sx4 tb4 hD4 srt pa4=>?_⟩
    rw[zCc srt]at pa4
    have F4:FA K H H4 fo ((g.take i).map (fun r=>(r.1,vB n r.2))++g.drop i) fa3:=F3.other sx4 (zBN tb) hTfo hT0
    have hDH:H D=none:=by
     cases z:H D with
     |none=>rfl
     |some v=>
      exfalso
      by_cases hDT:D=T
      ·obtain⟨qs',hT'⟩:=gP tb
       rw[hDT,hT']at hD4;cases hD4
      ·rw[sx _ _ hDT z]at hD4;cases hD4
    have hDf:D≠fo:=fun z=>by rw[z,F3.top]at hD4;cases hD4
    have hDL:D≠L:=fun z=>by rw[z,hL3]at hD4;cases hD4
    have hfl:fa3.length<=5184:=by
     have h1:=congrArg fU F3.keys
     rw[hkeys,ai,ai]at h1;omega
    refine⟨_,rfl,_,rfl,fo,_,rfl,g7.k (k:=Sum.inr (tx r0.1)) F4.top (by rw[qP,aI];omega),hNx _ _ ⟨⟨_,_,_,_,_,rfl⟩,?_,?_,?_,zW fa3 r0.1 (D,vB n r0.2),?_⟩⟩
    ·intro b v hb' e
     rw[zG (yK e hfo)]
     exact sx4 _ _ hb' (sx _ _ hb' e)
    ·rcases tb4 with z|⟨c',oc,u',vs',t',z1,z2,z3⟩
     ·exact .inl (by rw[zG hTfo.symm];exact z)
     ·refine .inr ⟨c',oc,u',vs',t',by rw[zG hTfo.symm];exact z1,?_,z3⟩
      rw[zG (fun y=>by rw[y,F4.top]at z2;cases z2)];exact z2
    ·rw[zG hLf];exact sx4 _ _ hLT hL3
    ·have e3:(g.take (i+1)).map (fun r=>(r.1,vB n r.2))++g.drop (i+1)=zW ((g.take i).map (fun r=>(r.1,vB n r.2))++g.drop i) r0.1 (vB n r0.2):=by
      rw[hdr,show r0=(r0.1,r0.2)from rfl,zJC _ _ _ _ _ hnot,aA hi,er,aQ,dO];rfl
     rw[e3]
     refine F4.put nd3 pa4 hDH (fun r hr z=>?_) hDf vY zE
     obtain⟨ts,t1,_⟩:=F3.row r hr
     rw[z,hD4]at t1;cases t1
   ·rintro σ H3 ⟨⟨x6,x7,x8,x9,x10,rfl⟩,sx,tb,hL3,fa3,F3⟩
    rw[ai,ai,bo,List.drop_length,fm]at F3
    exact⟨_,rfl,k' fo H3 sx tb hfo ⟨fa3,F3.rows,F3.top,fun r hr=>⟨(F3.new r hr).2,F3.row r hr⟩⟩⟩
end
theorem zQM (n:Nat)(ps:zJ):(vB n ps).length<=n:=by
 unfold vB
 split
 ·rw[aZ];omega
 ·simp
theorem zQN {n:Nat}{ps:zJ}{q:Int×S}(h:q∈vB n ps):q∈ps:=by
 unfold vB at h
 split at h
 ·rename_i a
  exact(nq a).1.mem_iff.mp (da h)
 ·cases h
theorem zJG:∀(L a:List (S×zJ)),(a.map (·.1)).Nodup->∀r∈L.foldl y8 a,∀q∈r.2,(∃s∈a,s.1=r.1/\q∈s.2)\/∃s∈L,s.1=r.1/\q∈s.2
 | [],a,_,r,c,q,d=>.inl ⟨r,c,rfl,d⟩
 |p::L,a,nd,r,c,q,d=>by
  rcases zJG L (y8 a p) (gN nd) r c q d with⟨s,e,e1,b⟩|⟨s,e,e1,b⟩
  ·rcases kW e with z|⟨z,_⟩
   ·rw[z]at e1 b
    rcases bt.mp b with y|y
    ·cases f:zK a p.1 with
     |none=>rw[f]at y;cases y
     |some u=>
      rw[f]at y
      exact .inl ⟨(p.1,u),(y7 nd _ _).mpr f,e1,y⟩
    ·exact .inr ⟨p,aq ..,e1,y⟩
   ·exact .inl ⟨s,z,e1,b⟩
  ·exact .inr ⟨s,aw _ e,e1,b⟩
theorem zQO {L:List (S×zJ)}{r:S×zJ}(a:r∈vC L){q:Int×S}(b:q∈r.2):∃s∈L,s.1=r.1/\q∈s.2:=by
 rcases zJG L [] (by simp) r a q b with⟨s,c,_⟩|h
 ·cases c
 ·exact h
theorem zQP {o:Nat}{bk:List S}{f:S->S->Int×Int}{x:S}{p q:S×zJ}(d:q∈yY (zN (zA o bk)) f o x p):∃l,(q.1,l)∈zA o bk:=by
 obtain⟨l,hl,rfl⟩:=ao.mp d
 obtain⟨e,a⟩:=aG.mp hl
 have b:=(uW _ _ _).mp e
 have g:l≠[]:=fun z=>by
  unfold mf at a
  rw[z]at a;simp at a
 obtain⟨c,rfl⟩:=kZ (kY b) g
 exact zIF b
theorem zCd (ps:List (S×S))(e:S):(zN ps e).Nodup:=zAZ ps e
structure LyOk (ps:List (S×S)) (i:Nat) (ly:List (S×zJ)):Prop where
 nd:(ly.map (·.1)).Nodup
 row:∀r∈ly,(∃l,(r.1,l)∈ps)/\r.2.length<=900/\∀q∈r.2,q.2.length<=i
theorem LyOk.len {ps:List (S×S)}{i:Nat}{a:List (S×zJ)}(h:LyOk ps i a):a.length<=ps.length:=by
 have b:=jC (a.map (·.1)) (ps.map (·.1)) h.nd fun e c=>by
  obtain⟨p,d,rfl⟩:=ao.mp c
  obtain⟨⟨l,hl⟩,_⟩:=h.row p d
  exact ao.mpr ⟨_,hl,rfl⟩
 rw[ai,ai]at b
 exact b
theorem LyOk.step {o n i:Nat}{bk:List S}{f:S->S->Int×Int}{c:List (S×zJ)}{x:S}(h:LyOk (zA o bk) i c)(t:n<=900):LyOk (zA o bk) (i+1) (zAf (zA o bk) f o n c x):=by
 have g:=zBO (c.flatMap (yY (zN (zA o bk)) f o x))
 refine⟨?_,fun r u=>?_⟩
 ·unfold zAf
  rw[aV]
  exact g.1
 ·obtain⟨j,b,rfl⟩:=ao.mp u
  refine⟨?_,bJ (zQM _ _) t,fun q v=>?_⟩
  ·obtain⟨s,a,e⟩:=ao.mp (g.2 j.1 (ao.mpr ⟨j,b,rfl⟩))
   obtain⟨p,_,a⟩:=aU.mp a
   obtain⟨l,hl⟩:=zQP a
   exact⟨l,by rw[<-e];exact hl⟩
  ·obtain⟨s,a,_,hq2⟩:=zQO b (zQN v)
   obtain⟨p,w,a⟩:=aU.mp a
   obtain⟨l,hl,rfl⟩:=ao.mp a
   obtain⟨m,d,rfl⟩:=ao.mp hq2
   have y:=(h.row p w).2.2 m d
   have z:=kY ((uW _ _ _).mp (aG.mp hl).1)
   show(m.2++l).length<=i+1
   rw[ay];omega
noncomputable def qQ (ps:List (S×S)) (f:S->S->Int×Int) (o n:Nat) (wt:Int) (pat:List S):List (S×zJ):=pat.foldl (fun ly x=>zAf ps f o n ly x) [([],[(wt,[])])]
theorem zEd (ps:List (S×S))(f:S->S->Int×Int)(o n:Nat)(b:Int)(a:List S)(x:S):qQ ps f o n b (a++[x])=zAf ps f o n (qQ ps f o n b a) x:=by
 unfold qQ;rw[dw];rfl
noncomputable def uX (ps:List (S×S))(f:S->S->Int×Int)(r:S×zJ):zJ:=if(r.1,[])∈ps then r.2.map fun q=>(zT q.1 (f r.1 []),q.2)else []
noncomputable def vV (ps:List (S×S))(f:S->S->Int×Int)(ly:List (S×zJ)):zJ:=ly.flatMap (uX ps f)
structure HvOk (ps:List (S×S)) (f:S->S->Int×Int) (o n:Nat) (wt:Int) (pat:List S):Prop where
 step:∀i,i<pat.length->∀r∈vC ((qQ ps f o n wt (pat.take i)).flatMap (yY (zN ps) f o (pat.getD i []))),r.2.Nodup/\r.2.length<64
 fin:(vV ps f (qQ ps f o n wt pat)).Nodup/\(vV ps f (qQ ps f o n wt pat)).length<64
section
variable{P:aJ}{w:bh}{K:ag}{mg:Str->Option aj}{base:bF}
noncomputable abbrev sHA:cJ:=top 48
theorem zJH:FnScope ["parts","order","weight","pattern","many","layer","wanted","ended","end","pairs"] ["parts","order","weight","pattern","many"] (defScope sHA):=yE
theorem zJI:(["end","parts","heavy","text"]:List Str).Nodup:=by decide+kernel
noncomputable def zJJ (K:ag)(T:ak):Sp:=fun vs H Q _=>∃(pd pl:ak) (o n:Nat) (bk:List S) (f:S->S->Int×Int) (wt:Int) (pat:List S),vs=[.ref pd,.int o,.int wt,.ref pl,.int n]/\Bk bk o/\kA K H pd (zA o bk) f/\Smf f/\H pl=some (.lst (pat.map sv))/\pat.length<=50/\n<=900/\uH T H/\
 HvOk (zA o bk) f o n wt pat/\∀D H',z6 T H H'->uH T H'->H D=none->uG K H' D (vB n (vV (zA o bk) f (qQ (zA o bk) f o n wt pat)))->Q (.ref D) H'
theorem zQQ {f T:ak}{fd:bc}(F:Fun K "heaviest_along" "heaviest_along" sHA f fd)(cN:zS P w K mg base 2 "next_heaviest" ["parts","order","layer","wanted","many"] (zJF K T))(cL:zS P w K mg base 1 "left_of" ["weight","part"] (zBn K))
  (cH:zS P w K mg base 1 "heaviest" ["pairs","many"] (zCb K T)):FnOk P w K mg base z0 3 f fd ["parts","order","weight","pattern","many"] (zJJ K T):=by
 refine F.ok zJH (fun vs H Q E h=>?_) (fun cdv A outer s H vs Q E hr h=>?_)
 ·obtain⟨pd,pl,o,n,bk,f,wt,pat,rfl,_⟩:=h;rfl
 ·obtain⟨pd,pl,o,n,bk,ff,wt,pat,rfl,hb,hP,hS,hpl,hpn,hn,tab,hv,k⟩:=h
  have hu:=gJ hr
  have nd:=zJH.nd
  have r1:=hr.mono (j:=1) (by decide)
  refine⟨_,zR (yC (i:=5) nd rfl (Or.inl rfl) (zIc vD (uJ (zC (uA (zC (pv 2) (zC vD zD))) zD))))
   (zR (vX bE rfl (qY (pv 3)) (yB (i:=6) nd rfl (Or.inl rfl))
     (zL (yC (i:=5) nd rfl (Or.inl rfl) (zH cN hr rfl (zC (pv 0) (zC (pv 1) (zC (pv 5) (zC (pv 6) (zC (pv 4) zD)))))))))
   (zR (yC (i:=7) nd rfl (Or.inl rfl) (uJ zD))
   (zR (zAb (vX bE rfl (zAa (zAE K rfl bL cZ dy zAV (pv 5)))
     (gE rfl (yW (yB (i:=8) nd rfl (Or.inr rfl)) (yW (yB (i:=9) nd rfl (Or.inl rfl)) qA)))
     (zL (y0 (zFj (zMg hu vD (g8 hu (pv 0) (pv 8) (fun _ _=>rfl))))
      (zL (v3 (jM c8 fH fI zCA (pv 7) (zC
       (qD (N:=["end","parts","heavy","text"]) (caps:=[8,0]) rfl (uS (by kernel_rfl)) (qY (pv 9))
        (fun cl X s H ex=>zAD K 2 rfl rfl (yW (yB (i:=2) zJI rfl (Or.inl rfl)) (yW (yB (i:=3) zJI rfl (Or.inl rfl)) qA)) rfl rfl) (fun cl X s H ex=>qM)
        (fun cl X s H ex=>uA (zC (zH cL r1 rfl (zC (pv 2) (zC (g8 hu (g8 hu (pv 1) (pv 0) (fun _ _=>rfl)) vD (fun _ _=>rfl)) zD))) (zC (pv 3) zD)))) zD))))
      yZ))))
   (zL (z5 (zH cH r1 rfl (zC (pv 7) (zC (pv 4) zD)))))))),?_⟩
  obtain⟨qs0,hT⟩:=gP tab
  have hT0:H T≠none:=by rw[hT];simp
  have fresh:∀{H':Hp} {b:ak},z6 T H H'->uH T H'->H' b=none->H b=none:=fun{H' b} sx tb hb0=>by
   cases z:H b with
   |none=>rfl
   |some u=>
    exfalso
    by_cases hbT:b=T
    ·obtain⟨qs',hT'⟩:=gP tb
     rw[hbT,hT']at hb0;cases hb0
    ·rw[sx _ _ hbT z]at hb0;cases hb0
  have hplT:pl≠T:=fun z=>by rw[z,hT]at hpl;cases hpl
  have h72:=zBK hb
  intro ld0 hld0
  refine⟨_,rfl,by show 2<=_;rw[aI];omega,fun ta hta=>⟨by show 1<=_;rw[aI];omega,fun la0 hla0=>⟨?_,Sum.inr (tx []),rfl,?_⟩⟩⟩
  ·rw[zG (fun z=>by subst z;rw[zG (fun y=>by subst y;rw[zE]at hta;cases hta),zE]at hla0;cases hla0),zG (fun y=>by subst y;rw[zE]at hta;cases hta),zE]
  have sa:zB H (upd H ld0 (.dK [])):=zB.upd1 hld0
  have ltne:ld0≠ta:=fun y=>by rw[<-y,zE]at hta;cases hta
  have sb:zB (upd H ld0 (.dK [])) (upd (upd H ld0 (.dK [])) ta (.tup [.int wt,.str ""])):=zB.upd1 hta
  have hta1:upd (upd H ld0 (.dK [])) ta (.tup [.int wt,.str ""]) ta=some (.tup [.int wt,.str ""]):=zE
  have hld1:upd (upd H ld0 (.dK [])) ta (.tup [.int wt,.str ""]) ld0=some (.dK []):=sb _ _ zE
  generalize upd (upd H ld0 (.dK [])) ta (.tup [.int wt,.str ""])=Ht at hla0 sb hta1 hld1
  have lne:ld0≠la0:=fun z=>by rw[<-z,hld1]at hla0;cases hla0
  have hldH:H ld0=none:=hld0
  have s1:zB H (upd (upd Ht la0 (.lst [.ref ta])) ld0 (.dK [((Sum.inr (tx []):zO),V.ref la0)])):=fun b u e=>by
   rw[zG (yK e hld0),zG (yK (sb _ _ (sa _ _ e)) hla0)];exact sb _ _ (sa _ _ e)
  have ly1:zBo K (upd (upd Ht la0 (.lst [.ref ta])) ld0 (.dK [((Sum.inr (tx []):zO),V.ref la0)])) ld0 [([],[(wt,[])])]:=by
   refine⟨[([],la0,[(wt,[])])],rfl,zE,fun r hr=>?_⟩
   rw[aS.mp hr]
   refine⟨lne.symm,[.ref ta],by rw[zG lne.symm,zE],rfl,fun i p hi=>?_⟩
   cases i with
   |succ i=>cases hi
   |zero=>
    cases hi
    refine⟨ta,rfl,.inl (.of ?_)⟩
    rw[zG ltne.symm,zG (yK hta1 hla0)];exact hta1
  generalize upd (upd Ht la0 (.lst [.ref ta])) ld0 (.dK [((Sum.inr (tx []):zO),V.ref la0)])=H1 at s1 ly1
  refine⟨_,rfl,pl,rfl,⟨_,.of (s1 _ _ hpl)⟩,?_⟩
  refine qN (q8 K pl (pat.map sv)) (fun i σ H'=>∃(ld:ak) (x6 x7 x8 x9:Option V),σ=[some (.ref pd),some (.int o),some (.int wt),some (.ref pl),some (.int n),some (.ref ld),x6,x7,x8,x9]/\z6 T H H'/\uH T H'/\H ld=none/\zBo K H' ld (qQ (zA o bk) ff o n wt (pat.take i))/\LyOk (zA o bk) i (qQ (zA o bk) ff o n wt (pat.take i)))
   ⟨ld0,_,_,_,_,rfl,z6.of s1,qH tab s1,hld0,ly1,⟨by simp[qQ],fun r hr=>?_⟩⟩ (fun i σ H' _ h=>.of (h.choose_spec.choose_spec.choose_spec.choose_spec.choose_spec.2.1 _ _ hplT hpl)) ?_ ?_
  ·have hr':r∈[(([]:S),[(wt,([]:S))])]:=hr
   rw[aS.mp hr']
   refine⟨zIp hb,by simp,fun q hq=>?_⟩
   rw[aS.mp hq];simp
  ·rintro i y σ H' Nx hNx hy ⟨ld,x6,x7,x8,x9,rfl,sx,tb,hldn,hla,hok⟩
   rw[ar]at hy
   cases ei:pat[i]? with
   |none=>rw[ei]at hy;cases hy
   |some wd=>
   rw[ei]at hy
   have hy2:y=sv wd:=(aB hy).symm
   subst hy2
   have hi:i<pat.length:=(ah.mp ei).1
   have etk:pat.take (i+1)=pat.take i++[wd]:=by rw[aA hi,(ah.mp ei).2]
   have hst:=hv.step i hi
   have egd:pat.getD i []=wd:=by rw[bZ,ei];rfl
   rw[egd]at hst
   refine⟨_,rfl,_,rfl,_,rfl,_,rfl,_,rfl,pd,ld,o,n,bk,ff,_,wd,rfl,hb,⟨H,hP,sx,tab,hldn⟩,hS,hla,bJ hok.len h72,fun r hr=>?_,by omega,tb,hst,fun fo H2 sx2 tb2 hfo l2=>hNx _ _ ⟨fo,_,_,_,_,rfl,sx.trans sx2,tb2,fresh sx tb hfo,?_,?_⟩⟩
   ·obtain⟨a1,a2,a3⟩:=hok.row r hr
    exact⟨a1,a2,fun q hq=>bJ (a3 q hq) (by omega)⟩
   ·rw[etk,zEd];exact l2
   ·rw[etk,zEd];exact hok.step hn
  ·rintro σ Hm ⟨ld,x6,x7,x8,x9,rfl,sx,tb,hldn,⟨la,l1,l2,l3⟩,hok⟩
   rw[ai,bo]at l1 hok
   have hv2:=hv.fin
   have k':=k
   generalize qQ (zA o bk) ff o n wt pat=ly at l1 hok hv2 k'
   have hPt:PartsT K T Hm pd ld (zA o bk) ff:=⟨H,hP,sx,tab,hldn⟩
   refine⟨bw _,fun ea hea=>?_⟩
   have sE:zB Hm (upd Hm ea (.lst [])):=zB.upd1 hea
   have hE1:upd Hm ea (.lst []) ea=some (.lst []):=zE
   generalize upd Hm ea (.lst [])=H2 at sE hE1
   have hd1:=sE _ _ l2
   refine⟨ld,_,hd1,?_⟩
   refine⟨_,rfl,.inr (.inr (.inl ⟨rfl,.inl ⟨_,hd1⟩⟩)),ld,_,rfl,rfl,hd1,fun p hp=>?_⟩
   have sH2:zB H2 (upd H2 p (VW p ld)):=zB.upd1 hp
   refine⟨p,ld,_,rfl,zE,sH2 _ _ hd1,fun ob=>?_⟩
   have lel:ea≠ld:=(yK l2 hea).symm
   generalize hkv:zZ (fun v:ak×zJ=>V.ref v.1) la=kvs at l2 hd1
   generalize hH3:upd (upd H2 p (VW p ld)) ld (.frz ob (.dK kvs))=H3
   generalize hHA:upd Hm ld (.frz ob (.dK kvs))=HA
   have hAld:HA ld=some (.frz ob (.dK kvs)):=by rw[<-hHA,zE]
   have hAx:z6 ld Hm HA:=by rw[<-hHA];exact vY
   have hAea:HA ea=none:=by rw[<-hHA,zG lel];exact hea
   have s3:zB HA H3:=fun b u e=>by
    rw[<-hH3]
    by_cases hb':b=ld
    ·subst hb';rw[hAld]at e;rw[zE];exact e
    ·rw[<-hHA,zG hb']at e
     rw[zG hb']
     exact sH2 _ _ (sE _ _ e)
   have hea3:H3 ea=some (.lst []):=by rw[<-hH3,zG lel];exact sH2 _ _ hE1
   refine zBE (fun i σ H'=>(∃x8 x9:Option V,σ=[some (.ref pd),some (.int o),some (.int wt),some (.ref pl),some (.int n),some (.ref ld),x6,some (.ref ea),x8,x9])/\zB HA H'/\uG K H' ea (vV (zA o bk) ff (ly.take i)))
    ⟨⟨_,_,rfl⟩,s3,[],hea3,rfl,fun i p hi=>by cases hi⟩ (fun i σ H' _ h=>h.2.1 _ _ hAld) ?_ ?_
   ·rintro i q T0 σ H' Nx hN hq ⟨⟨x8',x9',rfl⟩,sm,hpe⟩ hT0'
    rw[<-hkv]at hq
    unfold zZ vI at hq
    rw[ar,ar]at hq
    cases ei:la[i]? with
    |none=>rw[ei]at hq;cases hq
    |some r0=>
    rw[ei]at hq
    have hq2:q=(Sum.inr (tx r0.1),V.ref r0.2.1):=(aB hq).symm
    subst hq2
    have hmem:r0∈la:=aY ei
    have eli:ly[i]?=some (r0.1,r0.2.2):=by rw[<-l1,ar,ei];rfl
    have hi:i<ly.length:=(ah.mp eli).1
    obtain⟨⟨l0,hl0⟩,hl900,hl60⟩:=hok.row _ (aY eli)
    have hl0:(r0.1,l0)∈zA o bk:=hl0
    have hl900:r0.2.2.length<=900:=hl900
    have etk:vV (zA o bk) ff (ly.take (i+1))=vV (zA o bk) ff (ly.take i)++uX (zA o bk) ff (r0.1,r0.2.2):=by
     unfold vV
     rw[aA hi,(ah.mp eli).2,dN];simp
    have hel:(vV (zA o bk) ff (ly.take i)).length<=900*72:=by
     have h1:=zBP (uX (zA o bk) ff) 900 (ly.take i) fun a ha=>by
      have h2:=(hok.row a (da ha)).2.1
      unfold uX
      split
      ·rw[ai];exact h2
      ·simp
     have h2:=hok.len
     have h3:(ly.take i).length<=72:=by rw[aZ];omega
     unfold vV
     exact bJ h1 (by rw[sZ];exact nX _ h3)
    obtain⟨ra,kv,kvs2,e1,e2,g2,g3,g4,g5,rne,pdl,pdn⟩:=hPt.row hl0
    refine⟨T0,[sv r0.1,.ref r0.2.1],rfl,.of zE,rfl,_,_,rfl,_,_,rfl,rfl,?_⟩
    generalize hH4:upd H' T0 (HO.tup [kV ((Sum.inr (tx r0.1):zO),V.ref r0.2.1).1,((Sum.inr (tx r0.1):zO),V.ref r0.2.1).2])=H4
    have s4:zB H' H4:=by rw[<-hH4];exact zB.upd1 hT0'
    have sm4:=sm.trans s4
    have pe4:=hpe.same s4
    have hAra:HA ra=some (.dK (zZ id kv)):=hAx _ _ rne g3
    have rdA:Rd HA pd (.dK kvs2):=by
     rcases e1 with e1|⟨o',e1⟩
     ·exact .inl (hAx _ _ pdl e1)
     ·exact .inr ⟨o',hAx _ _ pdl e1⟩
    have dg:∀{G:Hp},zB HA G->vH G pd (sv r0.1) (some (.ref ra)):=fun{G} sG=>.inl ⟨kvs2,Sum.inr (tx r0.1),(by
     rcases rdA with z|⟨o',z⟩
     ·exact .inl (sG _ _ z)
     ·exact .inr ⟨o',sG _ _ z⟩),rfl,e2.symm⟩
    have ndk:(kv.map (·.1)).Nodup:=by
     rw[g4]
     exact zCd _ _
    have dgv:∀{G:Hp},zB HA G->vH G ra (sv []) (zK kv []):=fun{G} sG=>by
     have:=vH.k (k:=Sum.inr (tx [])) (sG _ _ hAra)
     rw[jV,Option.map_id]at this
     exact this
    have hin:(zK kv []).isSome=true↔(r0.1,([]:S))∈zA o bk:=by
     rw[<-uW,<-g4]
     constructor
     ·intro h
      obtain⟨v,hv'⟩:=iB.mp h
      exact ao.mpr ⟨_,(y7 ndk _ _).mpr hv',rfl⟩
     ·intro h
      obtain⟨q',hq',e'⟩:=ao.mp h
      have:(([]:S),q'.2)∈kv:=by rw[<-e'];exact hq'
      rw[(y7 ndk _ _).mp this];rfl
    refine⟨_,rfl,_,rfl,pd,.ref ra,rfl,dg sm4,ra,_,rfl,dgv sm4,_,rfl,?_⟩
    refine zDI (fun hm=>?_) (fun hm=>?_)
    ·have hyes:(r0.1,([]:S))∈zA o bk:=hin.mp hm
     obtain⟨v,hgv⟩:=iB.mp (hin.mpr hyes)
     have hvm:(([]:S),v)∈kv:=(y7 ndk _ _).mpr hgv
     have frA0:z8 K HA v (ff r0.1 []):=hAx.frA (zAe l2) (g5 _ hvm)
     have e0:uX (zA o bk) ff (r0.1,r0.2.2)=r0.2.2.map fun q=>(zT q.1 (ff r0.1 []),q.2):=by unfold uX;rw[if_pos hyes]
     generalize hqs:r0.2.2.map (fun q=>(zT q.1 (ff r0.1 []),q.2))=qs at e0
     obtain⟨ts,t1,t2,t3⟩:=pe4
     have prA:uG K HA r0.2.1 r0.2.2:=(l3 r0 hmem).2.sameX hAx (zAe l2) (l3 r0 hmem).1
     obtain⟨tl,p1,p2,p3⟩:=prA.same sm4
     refine⟨_,rfl,.inl ⟨rfl,_,.of t1⟩,_,rfl,r0.2.1,rfl,⟨_,.of p1⟩,?_⟩
     refine j5 (q8 K r0.2.1 tl) [some (sv r0.1),some (.ref pd)] 2 (by rw[p2];omega) (fun m acc H10=>zB H4 H10/\acc.length=m/\∀(m':Nat) (p:Int×S),m'<m->qs[m']?=some p->∃a,acc[m']?=some (.ref a)/\z7 K H10 a [.int p.1,sv p.2])
      ⟨zB.refl _,rfl,fun m' p h=>absurd h (ng _)⟩ (fun m acc H10 _ h=>⟨.of (h.1 _ _ p1),by rw[h.2.1];exact aC _⟩) ?_ ?_
     ·rintro m y acc H10 ys Nx3 hN3 hy hys ⟨s10,al,hacc⟩
      obtain⟨y1,y2,rfl⟩:=zBL hys
      have hm1:m<r0.2.2.length:=by rw[<-p2];exact(ah.mp hy).1
      obtain⟨a,a1,a2⟩:=p3 m r0.2.2[m] (av hm1)
      rw[hy]at a1
      cases a1
      generalize hpm:r0.2.2[m]=pm at a2
      have hqm2:qs[m]?=some (zT pm.1 (ff r0.1 []),pm.2):=by
       rw[<-hqs,ar,av hm1,hpm];rfl
      obtain⟨b1,b2,b3,b4⟩:=hS r0.1 []
      have s10A:=sm4.trans s10
      refine⟨a,[.int pm.1,sv pm.2],rfl,s10.seqT a2,rfl,_,_,rfl,_,_,rfl,rfl,?_⟩
      refine⟨_,rfl,_,rfl,_,rfl,pd,.ref ra,rfl,dg s10A,ra,v,rfl,by have:=dgv s10A;rw[hgv]at this;exact this,pm.1,v,ff r0.1 [],rfl,frA0.same s10A,b1,b2,b3,b4,?_⟩
      refine⟨_,rfl,by show 2<=_;rw[aI];omega,fun a9 ha9=>hN3 _ _ [some (.int pm.1),some (sv pm.2)] rfl ⟨s10.trans (zB.upd1 ha9),by rw[ay,al];rfl,fun m' p hm' hp'=>?_⟩⟩
      by_cases hmm2:m'=m
      ·subst hmm2
       rw[hqm2]at hp'
       cases hp'
       refine⟨a9,by rw[aO (by omega),al,f6];rfl,.inl (.of ?_)⟩
       rw[zE]
      ·obtain⟨a',z1,z2⟩:=hacc m' p (by omega) hp'
       exact⟨a',by rw[aR (by omega)];exact z1,(zB.upd1 ha9).seqT z2⟩
     ·rintro acc H10 ⟨s10,al,hacc⟩ D hD
      have sD:zB H10 (upd H10 D (.lst acc)):=zB.upd1 hD
      have hqn:qs.length=r0.2.2.length:=by rw[<-hqs,ai]
      have s11:=s10.trans sD
      refine⟨ea,D,ts,acc,rfl,rfl,s11 _ _ t1,zE,by rw[t2,al,p2,aI];omega,hN _ _ ⟨⟨_,_,rfl⟩,(sm4.trans s11).upd_new hAea,?_⟩⟩
      rw[etk,e0]
      refine⟨ts++acc,zE,by rw[ay,ay,t2,al,p2,hqn],fun i' p hi'=>?_⟩
      have nt:∀ys,¬Rd (upd H10 D (.lst acc)) ea (.tup ys):=by
       have h1:=s11 _ _ t1
       rintro ys (z|⟨o',z⟩)
       ·rw[h1]at z;cases z
       ·rw[h1]at z;cases z
      by_cases hlt:i'<(vV (zA o bk) ff (ly.take i)).length
      ·rw[aR hlt]at hi'
       obtain⟨a,z1,z2⟩:=t3 i' p hi'
       exact⟨a,by rw[aR (by omega)];exact z1,(vY (u:=.lst (ts++acc))).seqT nt (s11.seqT z2)⟩
      ·rw[aO (by omega)]at hi'
       have hb2:=(ah.mp hi').1
       obtain⟨a,z1,z2⟩:=hacc (i'- (vV (zA o bk) ff (ly.take i)).length) p (by omega) hi'
       exact⟨a,by rw[aO (by omega),t2];exact z1,(vY (u:=.lst (ts++acc))).seqT nt (sD.seqT z2)⟩
    ·have hno:(r0.1,([]:S))∉zA o bk:=fun z=>hm (hin.mpr z)
     refine hN _ _ ⟨⟨_,_,rfl⟩,sm4,?_⟩
     have e0:uX (zA o bk) ff (r0.1,r0.2.2)=[]:=by unfold uX;rw[if_neg hno]
     rw[etk,e0,fm]
     exact pe4
   ·rintro σ H' ⟨⟨x8',x9',rfl⟩,sm,hpe⟩
    refine⟨ob,sm _ _ hAld,?_⟩
    have ekl:kvs.length=ly.length:=by rw[<-hkv,qP,<-l1,ai]
    rw[ekl,bo]at hpe
    have s5:zB Hm (upd H' ld (.dK kvs)):=zB.thaw (by rw[hHA];exact sm) l2
    have pe5:uG K (upd H' ld (.dK kvs)) ea (vV (zA o bk) ff ly):=hpe.sameX vY (zEa (sm _ _ hAld)) lel
    generalize upd H' ld (.dK kvs)=H5 at s5 pe5
    refine⟨_,rfl,_,rfl,ea,_,n,rfl,pe5,hv2.1,hv2.2,by omega,qH tb s5,fun D H6 rs sx6 tb6 hD srt pa=>?_⟩
    rw[zCc srt]at pa
    exact k' D H6 ((sx.trans (z6.of s5)).trans sx6) tb6 (fresh (sx.trans (z6.of s5)) (qH tb s5) hD) pa
end
theorem zQR {p q:Int×S}(h:p≠q):vU p q\/vU q p:=by
 refine zHS fun z=>h ?_
 obtain⟨e1,a⟩:=bM z
 exact fM (by omega) (j9 a)
theorem zJK:∀(c:zJ) (x:Int×S),c.Pairwise vU->x∉c->∃a:zJ,a.Perm (x::c)/\a.Pairwise vU
 | [],x,_,_=>⟨[x],dY _,by simp⟩
 |r::c,x,h,e=>by
  obtain⟨f,g⟩:=cM.mp h
  have d:x≠r:=fun z=>e (by rw[z];exact aq ..)
  rcases zQR d with z|z
  ·refine⟨x::r::c,dY _,cM.mpr ⟨fun y b=>?_,h⟩⟩
   rcases aL.mp b with rfl|b
   ·exact z
   ·exact zEZ z (f y b)
  ·obtain⟨a,p,s⟩:=zJK c x g fun z=>e (aw _ z)
   refine⟨r::a,(p.cons r).trans (List.Perm.swap ..),cM.mpr ⟨fun y b=>?_,s⟩⟩
   rcases aL.mp (p.mem_iff.mp b)with rfl|b
   ·exact z
   ·exact f y b
theorem zJL:∀(ps:zJ),ps.Nodup->∃a,zBM ps a
 | [],_=>⟨[],dY _,by simp⟩
 |x::ps,h=>by
  obtain⟨c,d⟩:=bx.mp h
  obtain⟨a,p,s⟩:=zJL ps d
  obtain⟨b,e,s'⟩:=zJK a x s fun z=>c (p.mem_iff.mp z)
  exact⟨b,e.trans (p.cons x),s'⟩
structure TopN (n:Nat) (A B:zJ):Prop where
 srt:B.Pairwise vU
 len:B.length<=n
 sub:∀q∈B,q∈A
 cmp:∀a∈A,a∈B\/(n<=B.length/\∀b∈B,vU b a)
theorem zBp {B:zJ}(h:B.Pairwise vU):B.Nodup:=h.imp fun{a b} z e=>by rw[e]at z;exact zIu _ z
theorem top_best {n:Nat}{ps:zJ}(h:ps.Nodup):TopN n ps (vB n ps):=by
 obtain⟨f,d⟩:=zJL ps h
 rw[<-zCc d]
 refine⟨d.2.sublist (gy _ _),by rw[aZ];omega,fun q i=>d.1.mem_iff.mp (da i),fun a ha=>?_⟩
 have e:=d.1.mem_iff.mpr ha
 rw[<-gu n f]at e
 rcases bt.mp e with z|z
 ·exact .inl z
 ·right
  have hl:n<=f.length:=by
   by_cases c:n<=f.length
   ·exact c
   ·rw[f7 (by omega)]at z;cases z
  have g:=d.2
  rw[<-gu n f,ie]at g
  exact⟨by rw[aZ];omega,fun b hb=>g.2.2 b hb a z⟩
theorem zQS {n:Nat}{G B L:zJ}{x:Int×S}(T:TopN n G B)(nd:L.Nodup)(hl:n<=L.length)(e:∀l∈L,l∈G/\vU l x):n<=B.length/\∀b∈B,vU b x:=by
 by_cases c:∀l∈L,l∈B
 ·have f:=jC L B nd c
  refine⟨by omega,fun b hb=>?_⟩
  by_cases a:b∈L
  ·exact(e b a).2
  ·exfalso
   have d:=jC L (B.erase b) nd fun l h=>(ju (fun z=>a (by rw[<-z];exact h))).mpr (c l h)
   rw[mh hb]at d
   have m:0<B.length:=mT hb
   have o:=T.len
   omega
 ·obtain⟨l,hl1,hl2⟩:∃l∈L,l∉B:=by
   apply lK
   intro g
   exact c fun l h=>lK fun z=>g ⟨l,h,z⟩
  obtain⟨f,d⟩:=e l hl1
  rcases T.cmp l f with z|⟨i,j⟩
  ·exact absurd z hl2
  ·exact⟨i,fun b hb=>zEZ (j b hb) d⟩
theorem top_of {n:Nat}{A G:zJ}(nd:G.Nodup)(b:∀q∈G,q∈A)(c:∀a∈A,a∈G\/∃L:zJ,L.Nodup/\n<=L.length/\∀l∈L,l∈G/\vU l a):TopN n A (vB n G):=by
 have T:=top_best (n:=n) nd
 refine⟨T.srt,T.len,fun q d=>b q (T.sub q d),fun a ha=>?_⟩
 rcases c a ha with z|⟨L,l1,l2,e⟩
 ·exact T.cmp a z
 ·exact .inr (zQS T l1 l2 e)
theorem zEe:∀(L a:List (S×zJ)),(a.map (·.1)).Nodup->∀k:S,zK (L.foldl y8 a) k=if(∃s∈L,s.1=k)then some ((zK a k).getD []++(L.filter fun s=>decide (s.1=k)).flatMap (·.2))else zK a k
 | [],a,_,k=>by rw[if_neg (by rintro⟨s,b,_⟩;cases b)];rfl
 |p::L,a,nd,k=>by
  rw[cC,zEe L (y8 a p) (gN nd) k]
  have e:zK (y8 a p) k=if p.1=k then some ((zK a p.1).getD []++p.2)else zK a k:=by
   unfold y8
   rw[zAy]
  rw[e]
  by_cases c:p.1=k
  ·rw[if_pos c,if_pos (⟨p,aq ..,c⟩:∃s∈p::L,s.1=k),cc (by simpa using c),c9,<-dO,c]
   split
   ·rfl
   ·rename_i g
    have:L.filter (fun s=>decide (s.1=k))=[]:=List.filter_eq_nil_iff.mpr fun s b z=>g ⟨s,b,of_decide_eq_true z⟩
    rw[this];simp
  ·rw[if_neg c,cg (by simpa using c)]
   by_cases f:∃s∈L,s.1=k
   ·obtain⟨s,b,d⟩:=f
    rw[if_pos ⟨s,b,d⟩,if_pos ⟨s,aw _ b,d⟩]
   ·rw[if_neg f,if_neg]
    rintro⟨s,b,d⟩
    rcases aL.mp b with rfl|b
    ·exact c d
    ·exact f ⟨s,b,d⟩
theorem zCe {L:List (S×zJ)}{r:S×zJ}(b:r∈vC L):r.2=(L.filter fun s=>decide (s.1=r.1)).flatMap (·.2):=by
 have nd:=(zBO L).1
 have a:=(y7 nd r.1 r.2).mp b
 unfold vC at a
 rw[zEe L [] (by simp)]at a
 split at a
 ·have:=aB a
  rw[<-this];rfl
 ·cases a
theorem zQT {L:List (S×zJ)}{s:S×zJ}(a:s∈L):∃r∈vC L,r.1=s.1:=by
 have nd:=(zBO L).1
 have h:=zEe L [] (by simp) s.1
 rw[if_pos ⟨s,a,rfl⟩]at h
 exact⟨_,(y7 nd _ _).mpr h,rfl⟩
noncomputable def yN:List S->S->Bool
 | [],[]=>true
 |w::p,c::t=>(decide (w=[])||decide (w=[c]))&&yN p t
 |_,_=>false
theorem jE:∀{p:List S}{t:S},yN p t=true->t.length=p.length
 | [],[],_=>rfl
 |w::p,c::t,h=>by
  unfold yN at h
  rw[bj]at h
  rw[aM,aM,jE h.2]
 | [],c::t,h=>by cases h
 |w::p,[],h=>by cases h
theorem zEf:∀(p:List S) (t:S) (w:S) (c:Nat),yN (p++[w]) (t++[c])=(yN p t&& (decide (w=[])||decide (w=[c])))
 | [],[],w,c=>by unfold yN;simp[yN]
 |v::p,d::t,w,c=>by
  rw[d8,d8]
  unfold yN
  rw[zEf p t w c,Bool.and_assoc]
 | [],d::t,w,c=>by
  have:yN [] (d::t)=false:=rfl
  rw[this,fL]
  cases h:yN ([]++[w]) (d::t++[c])with
  |false=>rfl
  |true=>
   have:=jE h
   simp at this
 |v::p,[],w,c=>by
  have:yN (v::p) []=false:=rfl
  rw[this,fL]
  cases h:yN (v::p++[w]) ([]++[c])with
  |false=>rfl
  |true=>
   have:=jE h
   simp at this
theorem zJM (w:S)(c:Nat):mf w [c]=(decide (w=[])||decide (w=[c])):=by unfold mf;simp
theorem zBQ {ps:List (S×S)}{nx:S->List S}(N:Lts ps nx)(j:jD ps)(o:Nat):∀(a:List S) (t:S),t∈Tx nx o a↔yN a t=true/\∀q∈pp o t,q∈ps:=by
 intro a
 induction f:a.length generalizing a with
 |zero=>
  intro t
  have:a=[]:=c7.mp f
  subst this
  show t∈[[]]↔_
  cases t with
  |nil=>simp[yN,zPO]
  |cons c t=>simp[yN]
 |succ n ih=>
  intro t
  obtain⟨p,w,rfl⟩:∃p w,a=p++[w]:=by
   rcases gr a with z|⟨u,c,z⟩
   ·rw[z]at f;cases f
   ·exact⟨u,c,by simpa using z⟩
  have h:p.length=n:=by simpa using f
  rw[zBH]
  unfold zBG
  rw[aU]
  constructor
  ·rintro⟨u,m,r⟩
   obtain⟨l,hl,rfl⟩:=ao.mp r
   obtain⟨hl1,hl2⟩:=aG.mp hl
   have i:=(N.mem _ _).mp hl1
   have b:l≠[]:=fun z=>by rw[z]at hl2;simp[mf]at hl2
   obtain⟨c,rfl⟩:=kZ (j _ _ i) b
   obtain⟨d,e⟩:=(ih p h u).mp m
   rw[zJM]at hl2
   refine⟨by rw[zEf,d,hl2];rfl,fun q g=>?_⟩
   rw[zEL]at g
   rcases bt.mp g with z|z
   ·exact e q z
   ·rw[aS.mp z];exact i
  ·rintro⟨d,e⟩
   have b:t≠[]:=fun z=>by
    have:=jE d
    rw[z]at this;simp at this
   obtain⟨u,c,rfl⟩:=zPT b
   rw[zEf,bj]at d
   rw[zEL]at e
   refine⟨u,(ih p h u).mpr ⟨d.1,fun q g=>e q (bY _ g)⟩,ao.mpr ⟨[c],aG.mpr ⟨(N.mem _ _).mpr (e _ (aX _ (by simp))),?_⟩,rfl⟩⟩
   rw[zJM];exact d.2
theorem zQU {ps:List (S×S)}{nx:S->List S}(N:Lts ps nx)(j:jD ps)(o:Nat):∀(d:List S),(Tx nx o d).Nodup:=by
 intro d
 induction f:d.length generalizing d with
 |zero=>
  have:d=[]:=c7.mp f
  subst this
  show([[]]:List S).Nodup
  simp
 |succ n ih=>
  obtain⟨p,w,rfl⟩:∃p w,d=p++[w]:=by
   rcases gr d with z|⟨u,c,z⟩
   ·rw[z]at f;cases f
   ·exact⟨u,c,by simpa using z⟩
  have m:p.length=n:=by simpa using f
  rw[zBH]
  unfold zBG
  have one:∀u l,l∈(nx (zI u o)).filter (mf w)->∃c,l=[c]:=fun u l hl=>by
   obtain⟨hl1,hl2⟩:=aG.mp hl
   have g:l≠[]:=fun z=>by rw[z]at hl2;simp[mf]at hl2
   exact kZ (j _ _ ((N.mem _ _).mp hl1)) g
  refine zIR _ _ (ih p m) (fun u _=>?_) fun u _ v _ x q r=>?_
  ·refine o5 _ (fun a b h z=>h (List.append_cancel_left z)) ((N.nd _).filter _)
  ·obtain⟨l,hl,rfl⟩:=ao.mp q
   obtain⟨s,i,e⟩:=ao.mp r
   obtain⟨c,rfl⟩:=one _ _ hl
   obtain⟨t,rfl⟩:=one _ _ i
   exact(zBl e).1.symm
theorem zCf (f:S->S->Int×Int)(o:Nat)(a:Int)(t:S)(c:Nat):Wt f o a (t++[c])=zT (Wt f o a t) (f (zI t o) [c]):=by
 unfold Wt;rw[zEL,dw];rfl
theorem zBR {ps:List (S×S)}{o:Nat}{U:Int}(c:0<U)(d:∀e l,(zF ps e l).2∣U){t:S}{m:Nat}(h:m+t.length=9):0<=Wt (zF ps) o (U^9) t/\U^m∣Wt (zF ps) o (U^9) t:=by
 have hl:(pp o t).length=t.length:=by unfold pp;simp
 obtain⟨a,b,_⟩:=zEM (T:=1) (by decide) d (pp o t) m (U^9) (bD (dR c)) (by rw[hl,h];exact o4 _)
 exact⟨a,b⟩
theorem zQV {U w1 w2:Int}{m:Nat}{q:Int×Int}(a:q.2∣U)(c:0<q.2)(d:0<q.1)(d1:U^(m+1)∣w1)(e:U^(m+1)∣w2)(h:w1<w2):zT w1 q<zT w2 q:=by
 have e1:=zCX a d1
 have f:=zCX a e
 have b:w1*q.1<w2*q.1:=ko h d
 rw[<-e1,<-f]at b
 exact Int.lt_of_mul_lt_mul_right b (bD c)
theorem zJN {U w1 w2:Int}{m:Nat}{q:Int×Int}{a b:S}(d:q.2∣U)(f:0<q.2)(g:0<q.1)(d1:U^(m+1)∣w1)(i:U^(m+1)∣w2)(hl:a.length=b.length)(l:S)(h:vU (w1,a) (w2,b)):vU (zT w1 q,a++l) (zT w2 q,b++l):=by
 unfold vU jB at h⊢
 dsimp only at h⊢
 by_cases e:-w1=-w2
 ·rw[if_pos e]at h
  have j:w1=w2:=by omega
  subst j
  rw[if_pos rfl]
  have c:=of_decide_eq_true h
  exact decide_eq_true (zIW l l hl c)
 ·rw[if_neg e]at h
  have c:=of_decide_eq_true h
  have n:=zQV d f g i d1 (by omega:w2<w1)
  rw[if_neg (by omega)]
  exact decide_eq_true (by omega)
theorem zQW {U w1 w2:Int}{m:Nat}{q:Int×Int}{a b:S}(c:q.2∣U)(d:0<q.2)(e:0<q.1)(d1:U^(m+1)∣w1)(f:U^(m+1)∣w2)(hl:a.length=b.length)(h:vU (w1,a) (w2,b)):vU (zT w1 q,a) (zT w2 q,b):=by
 have:=zJN c d e d1 f hl [] h
 rw[fm,fm]at this
 exact this
noncomputable def zAg (ps:List (S×S))(o:Nat)(U:Int)(Tt:List S)(e:S):zJ:=(Tt.filter fun t=>decide (zI t o=e)).map fun t=>(Wt (zF ps) o (U^9) t,t)
theorem qR {ps:List (S×S)}{o:Nat}{U:Int}{Tt:List S}{e:S}{q:Int×S}:q∈zAg ps o U Tt e↔q.2∈Tt/\zI q.2 o=e/\q.1=Wt (zF ps) o (U^9) q.2:=by
 unfold zAg
 rw[ao]
 constructor
 ·rintro⟨t,c,rfl⟩
  obtain⟨a,b⟩:=aG.mp c
  exact⟨a,of_decide_eq_true b,rfl⟩
 ·rintro⟨a,b,d⟩
  exact⟨q.2,aG.mpr ⟨a,decide_eq_true b⟩,fM d.symm rfl⟩
structure LInv (ps:List (S×S)) (o n:Nat) (U:Int) (Tt:List S) (ly:List (S×zJ)):Prop where
 nd:(ly.map (·.1)).Nodup
 top:∀r∈ly,TopN n (zAg ps o U Tt r.1) r.2
 has:∀t∈Tt,∃r∈ly,r.1=zI t o
 key:∀r∈ly,∃t∈Tt,r.1=zI t o
theorem zQX {U:Int}{ps:List (S×S)}{o n:Nat}{Tt:List S}{e:S}{B:zJ}(T:TopN n (zAg ps o U Tt e) B){a b:Int×S}(ha:a∈B)(hb:b∈B)(h:a.2=b.2):a=b:=by
 obtain⟨_,_,c⟩:=qR.mp (T.sub a ha)
 obtain⟨_,_,d⟩:=qR.mp (T.sub b hb)
 exact fM (by rw[c,d,h]) h
theorem zCg {U:Int}{ps:List (S×S)}{o n:Nat}{Tt:List S}{e:S}{B:zJ}(T:TopN n (zAg ps o U Tt e) B)(g:Int->Int)(l:S):(B.map fun q=>(g q.1,q.2++l)).Nodup:=by
 rw[dm,bB]
 refine cK ?_ (zBp T.srt)
 intro a b ha hb c z
 exact c (zQX T ha hb (List.append_cancel_right (bM z).2))
section
variable{o n:Nat}{bk:List S}{U:Int}{ly:List (S×zJ)}{pat:List S}{w:S}
theorem zEg {s:S×zJ}(a:s∈ly.flatMap (yY (zN (zA o bk)) (zF (zA o bk)) o w)):∃r∈ly,∃c,(r.1,[c])∈zA o bk/\mf w [c]=true/\s=(zI (r.1++[c]) o,r.2.map fun q=>(zT q.1 (zF (zA o bk) r.1 [c]),q.2++[c])):=by
 obtain⟨r,e,a⟩:=aU.mp a
 obtain⟨l,hl,rfl⟩:=ao.mp a
 obtain⟨f,b⟩:=aG.mp hl
 have d:=(uW _ _ _).mp f
 have g:l≠[]:=fun z=>by rw[z]at b;simp[mf]at b
 obtain⟨c,rfl⟩:=kZ (kY d) g
 exact⟨r,e,c,d,b,rfl⟩
theorem zJO {r:S×zJ}{c:Nat}(a:r∈ly)(b:(r.1,[c])∈zA o bk)(hf:mf w [c]=true):(zI (r.1++[c]) o,r.2.map fun q=>(zT q.1 (zF (zA o bk) r.1 [c]),q.2++[c]))∈ly.flatMap (yY (zN (zA o bk)) (zF (zA o bk)) o w) :=
 aU.mpr ⟨r,a,ao.mpr ⟨[c],aG.mpr ⟨(uW _ _ _).mpr b,hf⟩,rfl⟩⟩
theorem zQY (h:LInv (zA o bk) o n U (Tx (zN (zA o bk)) o pat) ly):(ly.flatMap (yY (zN (zA o bk)) (zF (zA o bk)) o w)).Pairwise fun a b=>∀x∈a.2,∀y∈b.2,x≠y:=by
 rw[dS]
 have one:∀{e l},l∈(zN (zA o bk) e).filter (mf w)->∃c,l=[c]:=fun{e l} hl=>by
  obtain⟨g,t⟩:=aG.mp hl
  have A:l≠[]:=fun z=>by rw[z]at t;simp[mf]at t
  exact kZ (kY ((uW _ _ _).mp g)) A
 refine⟨fun r u=>?_,?_⟩
 ·unfold yY
  rw[bB]
  refine cK ?_ ((zCd _ r.1).filter (mf w))
  intro a b ha hb f x i y j z
  obtain⟨c,rfl⟩:=one ha
  obtain⟨d,rfl⟩:=one hb
  obtain⟨q,_,rfl⟩:=ao.mp i
  obtain⟨v,_,rfl⟩:=ao.mp j
  have:=(zBl (bM z).2).2
  exact f (by rw[this])
 ·have g:=h.nd
  rw[dm,bB]at g
  refine cK ?_ g
  intro r B u m f a ha b hb x i y j z
  obtain⟨l,hl,rfl⟩:=ao.mp ha
  obtain⟨E,p,rfl⟩:=ao.mp hb
  obtain⟨c,rfl⟩:=one hl
  obtain⟨d,rfl⟩:=one p
  obtain⟨q,C,rfl⟩:=ao.mp i
  obtain⟨v,s,rfl⟩:=ao.mp j
  have e:=(zBl (bM z).2).1
  have e1:=(qR.mp ((h.top r u).sub q C)).2.1
  have D:=(qR.mp ((h.top B m).sub v s)).2.1
  exact f (by rw[<-e1,<-D,e])
theorem zJP (h:LInv (zA o bk) o n U (Tx (zN (zA o bk)) o pat) ly){r:S×zJ}(b:r∈vC (ly.flatMap (yY (zN (zA o bk)) (zF (zA o bk)) o w))):r.2.Nodup:=by
 rw[zCe b,dm,dS]
 refine⟨fun s d=>?_,(zQY h).sublist kg⟩
 obtain⟨a,hr0,c,e,f,rfl⟩:=zEg (aG.mp d).1
 exact zCg (h.top a hr0) (fun x=>zT x (zF (zA o bk) a.1 [c])) [c]
theorem zCP {ps:List (S×S)}{e l:S}(h:(e,l)∈ps):0<(zF ps e l).1:=by
 have b:=dA.mpr h
 have c:=j8 ps e l
 unfold zF
 rw[if_neg (by omega)]
 have f:=uM (u:=(ps.count (e,l):Int)) (d:=(tot ps e:Int)) (by omega) (by omega)
 have cr:=uL (u:=(ps.count (e,l):Int)) (d:=(tot ps e:Int)) (by omega)
 show 0<(low (ps.count (e,l):Int) (tot ps e:Int)).1
 have a:0<(ps.count (e,l):Int)*(low (ps.count (e,l):Int) (tot ps e:Int)).2:=cy (by omega) f.dn
 rw[<-cr]at a
 exact iN a (by omega)
theorem LInv.step (D:0<U)(I:∀e l,(zF (zA o bk) e l).2∣U)(h:LInv (zA o bk) o n U (Tx (zN (zA o bk)) o pat) ly)(hp:pat.length<=8):LInv (zA o bk) o n U (Tx (zN (zA o bk)) o (pat++[w])) (zAf (zA o bk) (zF (zA o bk)) o n ly w):=by
 have P:=zBO (ly.flatMap (yY (zN (zA o bk)) (zF (zA o bk)) o w))
 have tl:∀t∈Tx (zN (zA o bk)) o pat,t.length=pat.length:=fun t i=>jE ((zBQ (lts _) (vT o bk) o pat t).mp i).1
 have snoc:∀{t:S} {c:Nat},t∈Tx (zN (zA o bk)) o pat->(zI t o,[c])∈zA o bk->mf w [c]=true->t++[c]∈Tx (zN (zA o bk)) o (pat++[w]):=fun{t c} i u hf=>by
  rw[zBH]
  exact aU.mpr ⟨t,i,ao.mpr ⟨[c],aG.mpr ⟨(uW _ _ _).mpr u,hf⟩,rfl⟩⟩
 have j:∀{t':S},t'∈Tx (zN (zA o bk)) o (pat++[w])->∃t c,t'=t++[c]/\t∈Tx (zN (zA o bk)) o pat/\(zI t o,[c])∈zA o bk/\mf w [c]=true:=fun{t'} i=>by
  rw[zBH]at i
  obtain⟨t,J,v⟩:=aU.mp i
  obtain⟨l,hl,rfl⟩:=ao.mp v
  obtain⟨A,v⟩:=aG.mp hl
  have u:=(uW _ _ _).mp A
  have T:l≠[]:=fun z=>by rw[z]at v;simp[mf]at v
  obtain⟨c,rfl⟩:=kZ (kY u) T
  exact⟨t,c,rfl,J,u,v⟩
 refine⟨?_,fun r L=>?_,fun t' M=>?_,fun r L=>?_⟩
 ·unfold zAf
  rw[aV]
  exact P.1
 ·obtain⟨p,d,rfl⟩:=ao.mp L
  show TopN n (zAg _ o U _ p.1) (vB n p.2)
  have E:∀{b:S×zJ} {c:Nat} {q:Int×S},b∈ly->(b.1,[c])∈zA o bk->mf w [c]=true->zI (b.1++[c]) o=p.1->q∈b.2->(zT q.1 (zF (zA o bk) b.1 [c]),q.2++[c])∈p.2:=fun{b c q} A v W X Y=>by
   rw[zCe d]
   exact aU.mpr ⟨_,aG.mpr ⟨zJO A v W,decide_eq_true X⟩,ao.mpr ⟨q,Y,rfl⟩⟩
  refine top_of (zJP h d) (fun q y=>?_) fun a ha=>?_
  ·rw[zCe d]at y
   obtain⟨s,N,y⟩:=aU.mp y
   obtain⟨O,B⟩:=aG.mp N
   obtain⟨b,hr0,c,A,v,rfl⟩:=zEg O
   have B:zI (b.1++[c]) o=p.1:=of_decide_eq_true B
   obtain⟨G,hq0,rfl⟩:=ao.mp y
   obtain⟨e1,C,H⟩:=qR.mp ((h.top b hr0).sub G hq0)
   refine qR.mpr ⟨snoc e1 (by rw[C];exact A) v,?_,?_⟩
   ·show zI (G.2++[c]) o=p.1
    rw[<-zBF,C,B]
   ·show zT G.1 _=Wt _ _ _ (G.2++[c])
    rw[zCf,C,H]
  ·obtain⟨Z,a2⟩:=a
   obtain⟨e1,C,H⟩:=qR.mp ha
   dsimp only at e1 C H
   obtain⟨t,c,rfl,i,u,hf⟩:=j e1
   obtain⟨b,hr0,g⟩:=h.has t i
   rw[<-g]at u
   have F:zI (b.1++[c]) o=p.1:=by rw[g,zBF,C]
   have Q:Z=zT (Wt (zF (zA o bk)) o (U^9) t) (zF (zA o bk) b.1 [c]):=by rw[H,zCf,g]
   rcases(h.top b hr0).cmp (Wt (zF (zA o bk)) o (U^9) t,t) (qR.mpr ⟨i,g.symm,rfl⟩)with z|⟨z1,z2⟩
   ·left
    rw[Q]
    exact E hr0 u hf F z
   ·right
    refine⟨b.2.map fun q=>(zT q.1 (zF (zA o bk) b.1 [c]),q.2++[c]),zCg (h.top b hr0) (fun x=>zT x (zF (zA o bk) b.1 [c])) [c],by rw[ai];exact z1,fun l hl=>?_⟩
    obtain⟨q,y,rfl⟩:=ao.mp hl
    refine⟨E hr0 u hf F y,?_⟩
    rw[Q]
    obtain⟨b1,b2,b3⟩:=qR.mp ((h.top b hr0).sub q y)
    have l1:=tl q.2 b1
    have l2:=tl t i
    have f:=uU (zA o bk) b.1 [c]
    refine zJN (m:=8-pat.length) (I _ _) f.dn (zCP u) ?_ ?_ (by rw[l1,l2]) [c] (z2 q y)
    ·rw[b3];exact(zBR D I (by omega)).2
    ·exact(zBR D I (by omega)).2
 ·obtain⟨t,c,rfl,i,u,hf⟩:=j M
  obtain⟨b,hr0,g⟩:=h.has t i
  rw[<-g]at u
  obtain⟨p,d,e⟩:=zQT (zJO hr0 u hf)
  refine⟨_,ao.mpr ⟨p,d,rfl⟩,?_⟩
  show p.1=_
  rw[e]
  show zI (b.1++[c]) o=_
  rw[g,zBF]
 ·obtain⟨p,d,rfl⟩:=ao.mp L
  obtain⟨s,N,e⟩:=ao.mp (P.2 p.1 (ao.mpr ⟨p,d,rfl⟩))
  obtain⟨b,hr0,c,A,v,rfl⟩:=zEg N
  obtain⟨t,i,R⟩:=h.key b hr0
  refine⟨t++[c],snoc i (by rw[<-R];exact A) v,?_⟩
  show p.1=_
  rw[<-e]
  show zI (b.1++[c]) o=_
  rw[R,zBF]
theorem LInv.start (g:1<=n):LInv (zA o bk) o n U (Tx (zN (zA o bk)) o []) [([],[(U^9,[])])]:=by
 have c:zI ([]:S) o=[]:=by unfold zI;simp
 refine⟨by simp,fun r d=>?_,fun t e=>?_,fun r d=>?_⟩
 ·rw[aS.mp d]
  have ha:∀q:Int×S,q∈zAg (zA o bk) o U (Tx (zN (zA o bk)) o []) []↔q=(U^9,[]):=fun q=>by
   rw[qR]
   constructor
   ·rintro⟨b,j,f⟩
    have b:q.2∈[([]:S)]:=b
    have b:=aS.mp b
    rw[b]at f
    exact fM f b
   ·rintro rfl
    exact⟨c6 _,c,rfl⟩
  exact⟨by simp,g,fun q i=>(ha q).mpr (aS.mp i),fun a h=>.inl (by rw[(ha a).mp h];exact c6 _)⟩
 ·have e:t∈[([]:S)]:=e
  rw[aS.mp e]
  exact⟨_,c6 _,c.symm⟩
 ·rw[aS.mp d]
  exact⟨[],c6 _,c.symm⟩
theorem zCh (a:0<U)(b:∀e l,(zF (zA o bk) e l).2∣U)(c:1<=n)(pat:List S):∀i,i<=pat.length->i<=9->LInv (zA o bk) o n U (Tx (zN (zA o bk)) o (pat.take i)) (qQ (zA o bk) (zF (zA o bk)) o n (U^9) (pat.take i))
 |0,_,_=>by rw[nI];exact LInv.start c
 |i+1,d,f=>by
  have ih:=zCh a b c pat i (by omega) (by omega)
  rw[aA (by omega),zEd]
  exact ih.step a b (by rw[aZ];omega)
noncomputable def zCi (ps:List (S×S))(o:Nat)(U:Int)(Tt:List S):zJ:=(Tt.filter fun t=>decide ((zI t o,[])∈ps)).map fun t=>(Wn ps o (U^9) t,t)
theorem zJQ {ps:List (S×S)}{o:Nat}{U:Int}{Tt:List S}{q:Int×S}:q∈zCi ps o U Tt↔q.2∈Tt/\(zI q.2 o,[])∈ps/\q.1=Wn ps o (U^9) q.2:=by
 unfold zCi
 rw[ao]
 constructor
 ·rintro⟨t,c,rfl⟩
  obtain⟨a,b⟩:=aG.mp c
  exact⟨a,of_decide_eq_true b,rfl⟩
 ·rintro⟨a,b,d⟩
  exact⟨q.2,aG.mpr ⟨a,decide_eq_true b⟩,fM d.symm rfl⟩
theorem zEh {f:S->S->Int×Int}{ps:List (S×S)}{q:Int×S}:q∈vV ps f ly↔∃r∈ly,(r.1,[])∈ps/\∃p∈r.2,q=(zT p.1 (f r.1 []),p.2):=by
 unfold vV uX
 rw[aU]
 constructor
 ·rintro⟨r,a,h⟩
  split at h
  ·rename_i b
   obtain⟨p,c,rfl⟩:=ao.mp h
   exact⟨r,a,b,p,c,rfl⟩
  ·cases h
 ·rintro⟨r,a,b,p,c,rfl⟩
  refine⟨r,a,?_⟩
  rw[if_pos b]
  exact ao.mpr ⟨p,c,rfl⟩
theorem zJR (h:LInv (zA o bk) o n U (Tx (zN (zA o bk)) o pat) ly):(vV (zA o bk) (zF (zA o bk)) ly).Nodup:=by
 unfold vV
 rw[dm,dS]
 refine⟨fun r c=>?_,?_⟩
 ·unfold uX
  split
  ·have:=zCg (h.top r c) (fun x=>zT x (zF (zA o bk) r.1 [])) []
   simp only[fm]at this
   exact this
  ·simp
 ·have i:=h.nd
  rw[dm,bB]at i
  refine cK ?_ i
  intro r j c d f x a y b z
  unfold uX at a b
  split at a
  ·split at b
   ·obtain⟨q,l,rfl⟩:=ao.mp a
    obtain⟨m,g,rfl⟩:=ao.mp b
    have e:=(bM z).2
    have e1:=(qR.mp ((h.top r c).sub q l)).2.1
    have p:=(qR.mp ((h.top j d).sub m g)).2.1
    exact f (by rw[<-e1,<-p,e])
   ·cases b
  ·cases a
theorem LInv.fin (i:0<U)(u:∀e l,(zF (zA o bk) e l).2∣U)(h:LInv (zA o bk) o n U (Tx (zN (zA o bk)) o pat) ly)(v:pat.length<=8):TopN n (zCi (zA o bk) o U (Tx (zN (zA o bk)) o pat)) (vB n (vV (zA o bk) (zF (zA o bk)) ly)):=by
 have tl:∀t∈Tx (zN (zA o bk)) o pat,t.length=pat.length:=fun t g=>jE ((zBQ (lts _) (vT o bk) o pat t).mp g).1
 refine top_of (zJR h) (fun q j=>?_) fun a ha=>?_
 ·obtain⟨r,B,c,p,v,rfl⟩:=zEh.mp j
  obtain⟨e1,y,s⟩:=qR.mp ((h.top r B).sub p v)
  refine zJQ.mpr ⟨e1,by show(zI p.2 o,[])∈_;rw[y];exact c,?_⟩
  show zT p.1 _=Wn _ _ _ p.2
  unfold Wn
  rw[y,s]
 ·obtain⟨C,t⟩:=a
  obtain⟨g,c,s⟩:=zJQ.mp ha
  dsimp only at g c s
  obtain⟨b,hr0,d⟩:=h.has t g
  rw[<-d]at c
  have A:C=zT (Wt (zF (zA o bk)) o (U^9) t) (zF (zA o bk) b.1 []):=by rw[s,d];rfl
  rcases(h.top b hr0).cmp (Wt (zF (zA o bk)) o (U^9) t,t) (qR.mpr ⟨g,d.symm,rfl⟩)with z|⟨D,E⟩
  ·left
   rw[A]
   exact zEh.mpr ⟨b,hr0,c,_,z,rfl⟩
  ·right
   refine⟨b.2.map fun q=>(zT q.1 (zF (zA o bk) b.1 []),q.2),by simpa using zCg (h.top b hr0) (fun x=>zT x (zF (zA o bk) b.1 [])) [],by rw[ai];exact D,fun l hl=>?_⟩
   obtain⟨q,j,rfl⟩:=ao.mp hl
   refine⟨zEh.mpr ⟨b,hr0,c,q,j,rfl⟩,?_⟩
   rw[A]
   obtain⟨F,H,G⟩:=qR.mp ((h.top b hr0).sub q j)
   have l1:=tl q.2 F
   have l2:=tl t g
   have f:=uU (zA o bk) b.1 []
   refine zQW (m:=8-pat.length) (u _ _) f.dn (zCP c) ?_ ?_ (by rw[l1,l2]) (E q j)
   ·rw[G];exact(zBR i u (by omega)).2
   ·exact(zBR i u (by omega)).2
noncomputable def gR (bk:List S):Prop:=∀nm∈bk,∀c∈nm,c=97\/c=98\/c=122
theorem zQZ {e:S}{c o:Nat}(a:1<=o):zI (e++[c]) o=e.drop (e.length+1-o)++[c]:=by
 unfold zI
 rw[ay,bR,jt (by omega)]
theorem zQa (ha:gR bk){e l:S}(h:(e,l)∈zA o bk):∀c∈e,c=97\/c=98\/c=122:=by
 obtain⟨nm,b,d⟩:=aU.mp h
 obtain⟨p,_,e1⟩:=ao.mp d
 have f:zI (nm.take p) o=e:=congrArg ug e1
 intro c a
 rw[<-f]at a
 exact ha nm b c (da (nN a))
theorem zQb (ho:1<=o)(ha:gR bk)(h:LInv (zA o bk) o n U (Tx (zN (zA o bk)) o pat) ly){r:S×zJ}(hr:r∈vC (ly.flatMap (yY (zN (zA o bk)) (zF (zA o bk)) o w))):r.2.length<=3*n:=by
 have eL:ly.flatMap (yY (zN (zA o bk)) (zF (zA o bk)) o w)=(ly.flatMap fun r=>((zN (zA o bk) r.1).filter (mf w)).map fun l=>(r,l)).map fun p=>(zI (p.1.1++p.2) o,p.1.2.map fun q=>(zT q.1 (zF (zA o bk) p.1.1 p.2),q.2++p.2)):=by
  rw[pP]
  congr 1
  funext r
  unfold yY
  rw[aV];rfl
 have i:=zCe hr
 rw[eL,List.filter_map,pQ]at i
 generalize E:(ly.flatMap fun r=>((zN (zA o bk) r.1).filter (mf w)).map fun l=>(r,l))=LT at i
 have g:∀p∈LT,p.1∈ly/\∃c,p.2=[c]/\(p.1.1,[c])∈zA o bk:=fun p f=>by
  rw[<-E]at f
  obtain⟨W,hr0,f⟩:=aU.mp f
  obtain⟨l,hl,rfl⟩:=ao.mp f
  obtain⟨v,L⟩:=aG.mp hl
  have X:=(uW _ _ _).mp v
  have hn:l≠[]:=fun z=>by rw[z]at L;simp[mf]at L
  obtain⟨c,rfl⟩:=kZ (kY X) hn
  exact⟨hr0,c,rfl,X⟩
 have N:LT.Pairwise fun p m=>¬(p.1.1=m.1.1/\p.2=m.2):=by
  rw[<-E,dS]
  refine⟨fun W _=>?_,?_⟩
  ·rw[bB]
   exact((zCd _ W.1).filter (mf w)).imp fun{a b} j z=>j z.2
  ·have v:=h.nd
   rw[dm,bB]at v
   refine v.imp fun{a b} j x O y hy z=>?_
   obtain⟨l,_,rfl⟩:=ao.mp O
   obtain⟨l',_,rfl⟩:=ao.mp hy
   exact j z.1
 have u:∀p∈LT,zI (p.1.1++p.2) o=r.1->p.1.1.drop (p.1.1.length+1-o)++p.2=r.1:=fun p f e=>by
  obtain⟨_,c,v,_⟩:=g p f
  rw[v]at e⊢
  rw[<-zQZ ho];exact e
 generalize Y:LT.filter ((fun s=>decide (s.1=r.1)) ∘ fun p=>(zI (p.1.1++p.2) o,p.1.2.map fun q=>(zT q.1 (zF (zA o bk) p.1.1 p.2),q.2++p.2)))=A at i
 have C:∀p∈A,p∈LT/\zI (p.1.1++p.2) o=r.1:=fun p f=>by
  rw[<-Y]at f
  obtain⟨v,L⟩:=aG.mp f
  exact⟨v,of_decide_eq_true L⟩
 have h3:A.length<=3:=by
  have nd:(A.map fun p=>p.1.1).Nodup:=by
   rw[dm,bB]
   refine cK ?_ (show A.Pairwise (fun p m=>¬(p.1.1=m.1.1/\p.2=m.2)) by rw[<-Y];exact N.sublist kg)
   intro p m f P j z
   obtain⟨g1,g2⟩:=C p f
   obtain⟨G,Q⟩:=C m P
   obtain⟨_,c,D,_⟩:=g p g1
   obtain⟨_,d,hd,_⟩:=g m G
   have e1:=u p g1 g2
   have M:=u m G Q
   rw[D]at e1
   rw[hd]at M
   have:=(zBl (e1.trans M.symm)).2
   exact j ⟨z,by rw[D,hd,this]⟩
  have Z:∀p∈A,p.1.1.length=min pat.length o:=fun p f=>by
   obtain⟨t,ht,e⟩:=h.key p.1 (g p (C p f).1).1
   have:=jE ((zBQ (lts _) (vT o bk) o pat t).mp ht).1
   rw[e]
   unfold zI
   rw[bV];omega
  by_cases c:o<=pat.length
  ·have H:=jC (A.map fun p=>p.1.1) [97::r.1.dropLast,98::r.1.dropLast,122::r.1.dropLast] nd fun e R=>by
    obtain⟨p,f,rfl⟩:=ao.mp R
    obtain⟨g1,g2⟩:=C p f
    obtain⟨_,c',D,I⟩:=g p g1
    have e1:=u p g1 g2
    have hl:=Z p f
    rw[D]at e1
    have J:=zQa ha I
    generalize p.1.1=B at*
    cases B with
    |nil=>simp at hl;omega
    |cons x B=>
     have M:(x::B).drop ((x::B).length+1-o)=B:=by
      rw[show(x::B).length+1-o=1 by omega];rfl
     rw[M]at e1
     have T:B=r.1.dropLast:=by rw[<-e1];simp
     rw[T]
     rcases J x (aq ..)with rfl|rfl|rfl<;>simp
   rw[ai]at H
   exact H
  ·have H:=jC (A.map fun p=>p.1.1) [r.1.dropLast] nd fun e R=>by
    obtain⟨p,f,rfl⟩:=ao.mp R
    obtain⟨g1,g2⟩:=C p f
    obtain⟨_,c',D,I⟩:=g p g1
    have e1:=u p g1 g2
    have hl:=Z p f
    rw[D,show p.1.1.length+1-o=0 by omega,eK]at e1
    have T:p.1.1=r.1.dropLast:=by rw[<-e1];simp
    rw[T];simp
   rw[ai]at H
   simp at H
   omega
 rw[i]
 have go:∀F:List ((S×zJ)×S),(∀p∈F,p.1.2.length<=n)->(F.flatMap fun p=>p.1.2.map fun q=>(zT q.1 (zF (zA o bk) p.1.1 p.2),q.2++p.2)).length<=F.length*n:=by
  intro F
  induction F with
  |nil=>intro _;simp
  |cons p F ih=>
   intro f
   rw[c9,ay,ai,aM,iS]
   have h5:=f p (aq ..)
   have h6:=ih fun x O=>f x (aw _ O)
   omega
 have h7:=go A fun p f=>(h.top p.1 (g p (C p f).1).1).len
 exact bJ h7 (jx n h3)
theorem zQc (h:LInv (zA o bk) o n U (Tx (zN (zA o bk)) o pat) ly):(vV (zA o bk) (zF (zA o bk)) ly).length<=bk.length*n:=by
 have e:vV (zA o bk) (zF (zA o bk)) ly=(ly.filter fun r=>decide ((r.1,[])∈zA o bk)).flatMap (uX (zA o bk) (zF (zA o bk))):=by
  unfold vV
  generalize ly=l
  induction l with
  |nil=>rfl
  |cons r l ih=>
   rw[c9,ih]
   by_cases c:(r.1,[])∈zA o bk
   ·rw[cc (by simpa using c),c9]
   ·rw[cg (by simpa using c)]
    have:uX (zA o bk) (zF (zA o bk)) r=[]:=by unfold uX;rw[if_neg c]
    rw[this];rfl
 rw[e]
 have f:(ly.filter fun r=>decide ((r.1,[])∈zA o bk)).length<=bk.length:=by
  have d:=jC ((ly.filter fun r=>decide ((r.1,[])∈zA o bk)).map (·.1)) (bk.map fun nm=>zI nm o) (by
   have:=h.nd
   exact this.sublist (vm _ kg)) fun k g=>by
    obtain⟨r,b,rfl⟩:=ao.mp g
    have i:(r.1,[])∈zA o bk:=of_decide_eq_true (aG.mp b).2
    obtain⟨nm,j,a⟩:=aU.mp i
    rw[zCW]at a
    rcases bt.mp a with z|z
    ·unfold pp at z
     obtain⟨p,a,z⟩:=ao.mp z
     have:=congrArg fU (bM z).2
     have a:=bK.mp a
     rw[aZ,bV]at this
     simp at this
     omega
    ·have z:=aS.mp z
     exact ao.mpr ⟨nm,j,(bM z).1.symm⟩
  rw[ai,ai]at d
  exact d
 have go:∀F:List (S×zJ),(∀r∈F,r∈ly)->(F.flatMap (uX (zA o bk) (zF (zA o bk)))).length<=F.length*n:=by
  intro F
  induction F with
  |nil=>intro _;simp
  |cons r F ih=>
   intro a
   rw[c9,ay,aM,iS]
   have q:(uX (zA o bk) (zF (zA o bk)) r).length<=n:=by
    unfold uX
    split
    ·rw[ai];exact(h.top r (a r (aq ..))).len
    ·simp
   have s:=ih fun x m=>a x (aw _ m)
   omega
 exact bJ (go _ fun r b=>(aG.mp b).1) (jx n f)
theorem zQd (g:1<=o)(ha:gR bk)(h:bk.length<=3)(a:0<U)(d:∀e l,(zF (zA o bk) e l).2∣U)(b:1<=n)(m:n<=21)(j:pat.length<=8):HvOk (zA o bk) (zF (zA o bk)) o n (U^9) pat/\
  TopN n (zCi (zA o bk) o U (Tx (zN (zA o bk)) o pat)) (vB n (vV (zA o bk) (zF (zA o bk)) (qQ (zA o bk) (zF (zA o bk)) o n (U^9) pat))):=by
 have hf:=zCh a d b pat pat.length (aC _) (by omega)
 rw[bo]at hf
 refine⟨⟨fun i hi r f=>?_,zJR hf,?_⟩,hf.fin a d j⟩
 ·have c:=zCh a d b pat i (by omega) (by omega)
  refine⟨zJP c f,?_⟩
  have:=zQb g ha c f
  omega
 ·have p:=zQc hf
  have q:bk.length*n<=3*n:=jx n h
  omega
end
end Kn.Ln
end
section
namespace Kn
open PySem L2
mutual
noncomputable def Thg (H:Hp):d5->V->Prop
 | .none,v=>v=.non
 | .bool b,v=>v=.bl b
 | .int i,v=>v=.int i
 | .str x,v=>v=.str x
 | .list ds,v=>∃a xs,v=.ref a/\H a=some (.lst xs)/\Thgs H ds xs
 | .tuple ds,v=>∃a xs,v=.ref a/\H a=some (.tup xs)/\Thgs H ds xs
 | .dict _,_=>False
noncomputable def Thgs (H:Hp):List d5->List V->Prop
 | [],xs=>xs=[]
 |d::ds,xs=>∃y ys,xs=y::ys/\Thg H d y/\Thgs H ds ys
end
theorem Thgs.strs {H:Hp}:∀(l:List S),Thgs H (l.map fun x=>PyData.str (tx x)) (l.map sv)
 | []=>rfl
 |x::l=>⟨_,_,rfl,rfl,Thgs.strs l⟩
mutual
noncomputable def sml:d5->Bool
 | .str x=>decide (x.length<=900)&&x.cps.toList.all fun c=>decide (c<128)
 | .list ds=>decide (ds.length<=900)&&smls ds
 | .tuple ds=>decide (ds.length<=900)&&smls ds
 | .dict _=>false
 |_=>true
noncomputable def smls:List d5->Bool
 | []=>true
 |d::ds=>sml d&&smls ds
end
section
variable{P:aJ}{w:bh}{K:ag}{mg:Str->Option aj}{base:bF}
noncomputable def flags (j:Nat):List Bool:=[decide (0=j),decide (1=j),decide (2=j),decide (3=j),decide (4=j),decide (5=j),decide (6=j),decide (7=j)]
end
end Kn
end
section
namespace L2
open PySem PySem.Spec PyProof.Rows
section
open MyS PySem.W
variable{prog:aJ}{w:bh}{A:bX}{E:aj->au->Prop}{s:au}
end
section
open MyS PySem.W
variable{X:Cx}
end
theorem zQe (t:e7)(a:Array (Int×aj))(h:Int)(x:aj):(layNew t a h x).2.1.led=t.led/\(t.plain=false->(layNew t a h x).2.1.plain=false):=by
 unfold layNew
 split
 ·dsimp only
  unfold SetTable.orStandIn
  split
  ·exact⟨rfl,fun e=>e⟩
  ·exact⟨rfl,fun _=>rfl⟩
 ·exact⟨rfl,fun _=>rfl⟩
theorem zQf {mask a b:Nat}{c plain:Bool}{d:Array Int}{t:e7}{o:Array Nat}(e:sM mask a b c plain d=some (t,o)):t.led=c/\t.plain=plain:=by
 unfold sM at e
 cases q:SetTable.layClean mask d with
 |none=>rw[q]at e;cases e
 |some f=>
  rw[q]at e
  injection e with e
  injection e with e1 g
  subst e1
  exact⟨rfl,rfl⟩
theorem zQg (t:e7)(a:Array (Int×aj))(n:Nat):(relayAll t a n).2.1.led=t.led/\(t.plain=false->(relayAll t a n).2.1.plain=false):=by
 unfold relayAll
 split
 ·rename_i t' o e
  dsimp only
  have k:=zQf e
  split
  ·exact⟨k.1,fun q=>k.2.trans q⟩
  ·exact⟨rfl,fun _=>rfl⟩
 ·exact⟨rfl,fun _=>rfl⟩
noncomputable abbrev qS (es:Array (Int×aj))(ep:Nat)(t:e7):Obj:={cls:=.type "set",dict:=none,data:=.set es ep t}
noncomputable def zQh (w:bh)(es:Array (Int×aj))(t:e7):Prop:=t.fits es.size=true/\t.led=!w.params.followText "set-order"/\ (es.size=0\/t.plain=false)
noncomputable def zBS (prog:aJ)(w:bh)(h:bF)(a:ak)(es:Array (Int×aj)):Prop :=
 ∃ep t,h.get? a=some (qS es ep t)/\ElemsOf (gp prog w) es.toList/\es.size<scanBound/\zQh w es t
noncomputable def uY:aj->Str
 | .str x _=>x
 |_=>⟨#[]⟩
noncomputable abbrev jY (es:Array (Int×aj)):List Str:=es.toList.map fun e=>uY e.2
theorem zEi {k:Str}{x:aj}(h:dU k x=true):uY x=k:=by
 obtain⟨t,rfl⟩:=eQ h;rfl
theorem zQi {k:Str}{x:aj}(h:dU k x=true):x.scannable=true:=by
 obtain⟨t,rfl⟩:=eQ h;rfl
section
variable{prog:aJ}{w:bh}{A:bX}{E:aj->au->Prop}{s:au}
theorem zJS {h:bF}{a:ak}{b es':Array (Int×aj)}{ep:Nat}{t t':e7}(c:h.get? a=some (qS b ep t)):(h.update a (rk es' t')).get? a=some (qS es' (ep+1) t'):=by
 have:=gq (rk es' t') c rfl
 exact this
theorem zQj {a:ak}{l:Array (Int×aj)}{k:Str}{x:aj}{Q:Bool->au->Prop}(m:dU k x=true)(hS:zBS prog w s.heap a l)(z:l.size+1<scanBound)
  (h:∀b h' es',ig a s.heap h'->zBS prog w h' a es'->(k∈jY l/\es'.toList.Perm l.toList\/k∉jY l/\(jY es').Perm (k::jY l))->Q b {s with heap:=h'}) :
  wpAny (model prog w) A (setAddHashed a x (hashStr w k)) Q E s:=by
 obtain⟨ep,t,U,o,hb,hf,u,ac⟩:=id hS
 have B:=zQi m
 have e:s={s with heap:=s.heap}:=by cases s;rfl
 unfold setAddHashed setAddHashedIn
 refine dX (af (fC U rfl hf ?_))
 dsimp only
 rw[byScan_of (knd:=gp prog w) B hb o]
 simp only[↓reduceIte]
 unfold setAddByScan
 refine af ?_
 refine af (fZ ?_)
 refine af (wpAny_setScan_of (knd:=gp prog w) (k:=k) m U rfl hf o ?_)
 cases hr:List.findIdx? (fun e=>(gp prog w).is k e.2) l.toList with
 |some j=>
  dsimp only
  obtain⟨hj,W,_⟩:=List.findIdx?_eq_some_iff_getElem.mp hr
  refine az (az ?_)
  rw[e]
  exact h _ s.heap l (vh a s.heap) hS (.inl ⟨ao.mpr ⟨l.toList[j],cq hj,zEi W⟩,dY _⟩)
 |none=>
  dsimp only
  have I:k∉jY l:=fun q=>by
   obtain⟨y,hy,q⟩:=ao.mp q
   obtain⟨⟨k',J,_⟩,_⟩:=o y hy
   have e1:k'=k:=(zEi J).symm.trans q
   have:=List.findIdx?_eq_none_iff.mp hr y hy
   rw[<-e1,J]at this
   cases this
  have d:=layNew_perm t l (hashStr w k) x
  have g:=layNew_fits t l (hashStr w k) x
  have i:=zQe t l (hashStr w k) x
  show wpAny _ _ _ _ _ _
  change wpAny _ _ (match layNew t l (hashStr w k) x with|(l,t,f,M)=>_) _ _ _
  generalize hL:layNew t l (hashStr w k) x=L at d g i⊢
  obtain⟨c,X,f,M⟩:=L
  dsimp only at d g i⊢
  rw[lM]at d
  have v:ElemsOf (gp prog w) c.toList:=(ElemsOf.push (knd:=gp prog w) o m B).perm d
  have hsz:c.size=l.size+1:=by rw[<-br,d.length_eq,ay,br];rfl
  have C:c.size<scanBound:=by rw[hsz];exact z
  have N:(jY c).Perm (k::jY l):=by
   have:=d.map fun e:Int×aj=>uY e.2
   rw[aQ]at this
   refine this.trans ?_
   rw[List.map_singleton,zEi m]
   exact List.perm_append_singleton _ _
  have O:∀(b:Bool) {Y:au} {Z:Unit->au->Prop},Z () Y->wpAny (model prog w) A (match b with|true=>rule "set.scan.the-table-gave-way"|false=>pure ()) Z E Y :=
   fun b Y Z hq=>by cases b<;>first|exact az hq|exact fZ hq
  refine af (O _ ?_)
  have tail:∀n:e7,n.fits c.size=true->n.led=t.led->n.plain=false->∀wd:Bool,wpAny (model prog w) A (do
    storeSet a c n
    if(!wd&&n.tooFull)=true then do
      (match(relayAll n c (fT c.size)).2.2 with|true=>rule "set.scan.the-table-gave-way"|false=>pure ())
      storeSet a (relayAll n c (fT c.size)).1 (relayAll n c (fT c.size)).2.1
      pure (some true)
     else pure (some true)) (fun r s'=>wpAny (model prog w) A (match r with|some added=>pure added|none=>setAddHashedIn a x (hashStr w k) 99999) Q E s') E s:=by
   intro n f2 l2 p2 wd
   refine af (o7 U rfl ?_ (i0 C))
   have D:=zJS (es':=c) (t':=n) U
   have P:=iy s.heap a (rk c n)
   split
   ·have R:=relayAll_perm n c (fT c.size)
    have F:=relayAll_fits n c (fT c.size)
    have p:=zQg n c (fT c.size)
    generalize al:relayAll n c (fT c.size)=Rl at R F p⊢
    obtain⟨G,t3,aa⟩:=Rl
    dsimp only at R F p⊢
    have ab:G.size=c.size:=by rw[<-br,R.length_eq,br]
    have T:G.size<scanBound:=by rw[ab];exact C
    refine af (O _ ?_)
    refine af (o7 D rfl ?_ (i0 T))
    refine az (az ?_)
    exact h _ _ G (P.trans (iy _ a _)) ⟨_,t3,zJS D,v.perm R,T,F,(p.1.trans l2).trans u,.inr (p.2 p2)⟩ (.inr ⟨I,(R.map _).trans N⟩)
   ·exact az (az (h _ _ c P ⟨_,n,D,v,C,f2,l2.trans u,.inr p2⟩ (.inr ⟨I,N⟩)))
  obtain⟨tk,rfl⟩:=eQ m
  by_cases H:X.plain=true
  ·rw[if_pos H]
   refine af ?_
   rw[hashByValue_scannable 8 B]
   refine az ?_
   exact tail {X with plain:=false} g i.1 rfl f
  ·rw[if_neg H]
   refine af (az ?_)
   simp only[↓reduceIte]
   exact tail X g i.1 (by simpa using H) f
end
noncomputable def kG (prog:aJ)(w:bh)(h:bF)(a:ak)(ks:List Str):Prop:=∃es,zBS prog w h a es/\(jY es).Nodup/\(∀x,x∈jY es↔x∈ks)/\es.size<=ks.length
theorem kG.stay {prog:aJ}{w:bh}{h h':bF}{S:ak}{ks:List Str}(x:kG prog w h S ks)(e:∀o,h.get? S=some o->h'.get? S=some o):kG prog w h' S ks:=by
 obtain⟨a,⟨ep,t,b,r⟩,q⟩:=x
 exact⟨a,⟨ep,t,e _ b,r⟩,q⟩
section
variable{prog:aJ}{w:bh}{A:bX}{R:qp->au->Prop}{I:ak}{fp wr:List ak}{G:Array ql->Array ql->Prop}{P:Nat->aj->Prop}{St:Nat->au->Prop}
theorem zQk {ks:List Str}(W:WalksS prog w A.in1 I fp wr G ks.length P St)(S:ak)(t:S∉fp)(hv:∀i v,P i v->dU (ks.getD i ⟨#[]⟩) v=true)(L:ks.length+1<scanBound) :
  ∀(m i:Nat) (s:au),ks.length-i=m->i<=ks.length->St i s->kG prog w s.heap S (ks.take i)->
   (∀s',Moved (S::wr) G s s'->kG prog w s'.heap S ks->R (.ok (.ret .none)) s')->
   codeAny (model prog w) A (.builtin "set.update.loop" ⟨[.ref S,.ref I],[]⟩) R s:=by
 have u:S∉wr:=fun z=>t (W.sub _ z)
 have more:∀b∈wr,b∈S::wr:=fun b z=>aw _ z
 intro m
 induction m with
 |zero=>
  intro i s e1 D st x g
  obtain rfl:i=ks.length:=by omega
  refine eP mD ?_
  rw[d7 iO _]
  refine af (m:=pyNext (.ref I)) (W.done s _ _ st fun s' a=>?_)
  rw[bo]at x
  exact az (g s' (a.mono more) (x.stay fun o h=>a.heap S _ u h))
 |succ m ih=>
  intro i s e1 D st x g
  have lt:i<ks.length:=by omega
  refine eP mD ?_
  rw[d7 iO _]
  refine af (m:=pyNext (.ref I)) (W.item i s _ _ lt st fun v s' E j a=>?_)
  have B:=hv i v E
  obtain⟨l,F,nd,mem,sz⟩:=x.stay fun o h=>a.heap S _ u h
  have c:l.size+1<scanBound:=by rw[aZ]at sz;omega
  refine af (m:=holding [v] (setAdd S v)) (dX ?_)
  unfold setAdd
  refine dX (af ((gp prog w).pyHash (k:=ks.getD i ⟨#[]⟩) B ?_))
  refine zQj (s:={s' with toks:=s'.toks+1}) B F c fun b h' es' C y H=>?_
  have f:ks.take (i+1)=ks.take i++[ks.getD i ⟨#[]⟩]:=by
   rw[aA lt];simp[lt]
  have J:kG prog w h' S (ks.take (i+1)):=by
   rcases H with⟨n,pm⟩|⟨p,pm⟩
   ·have pt:(jY es').Perm (jY l):=pm.map _
    refine⟨es',y,pt.nodup_iff.mpr nd,fun z=>?_,?_⟩
    ·rw[pt.mem_iff,mem z,f,bt,aS]
     exact⟨.inl,fun q=>q.elim id fun q=>q▸ (mem _).mp n⟩
    ·have:es'.size=l.size:=by rw[<-br,pm.length_eq,br]
     rw[this,f,ay];omega
   ·refine⟨es',y,pm.nodup_iff.mpr (bx.mpr ⟨p,nd⟩),fun z=>?_,?_⟩
    ·rw[pm.mem_iff,aL,mem z,f,bt,aS]
     exact Or.comm
    ·have:=pm.length_eq
     simp only[ai,br,aM]at this
     rw[this,f,ay,bR];omega
  refine az ⟨gn iO _,ih (i+1) _ (by omega) lt (W.frame _ s' _ _ j (iM _) fun b hb o e=>?_) J fun r d z=>?_⟩
  ·exact(C.2 b (fun q=>t (by rw[<-q];exact hb))).trans e
  ·refine g r (Moved.trans W.gtrans ((a.mono more).then_heap (iM _) fun b o hb e=>?_) d) z
   exact(C.2 b (fun q=>hb (by rw[q];exact aq))).trans e
end
section
variable{prog:aJ}{w:bh}{A:bX}{E:aj->au->Prop}{s:au}
theorem zQl:isSubtype (.type "tuple") (.type "set")=pure false:=by
 rw[i8];kernel_rfl
theorem zQm:isSubtype (.type "tuple") (.type "frozenset")=pure false:=by
 rw[i8];kernel_rfl
noncomputable abbrev jR (w:bh):Obj:=qS #[] 0 (.fresh 0 0 (!w.params.followText "set-order"))
theorem zQn (prog:aJ)(w:bh){h:bF}{a:ak}(e:h.get? a=some (jR w)):kG prog w h a [] :=
 ⟨#[],⟨0,_,e,(fun _ q=>nomatch q),(by unfold scanBound;decide),rfl,rfl,.inl rfl⟩,List.nodup_nil,(fun _=>Iff.rfl),aC _⟩
theorem zQo (a:aj){Q₁:aj->au->Prop}(h:Q₁ (.ref s.heap.objs.size) {s with heap:=s.heap.push (jR w)}) :
  codeAny (model prog w) A (.call (.builtin "set.__new__") ⟨[.type "set",a],[]⟩) (wants Q₁ E) s:=by
 refine qe ?_
 show wpAny _ A.in1 (do checkBuiltinCall "set.__new__" ⟨[.type "set",a],[]⟩;again (.builtin "set.__new__" ⟨[.type "set",a],[]⟩)) _ _ s
 refine af (pS (F.newCall_set_1 a) (az ⟨gn qf _,eP F.entry_set_new ?_⟩))
 rw[d7 qf _]
 unfold di.«set.__new__» rl
 have b:=sub_set_self
 obtain⟨c,g,d,tk,os⟩:=s
 dsimp only
 wp_walk
 refine mE (az ?_)
 dsimp only
 simp only[newObj]
 refine af (wpAny_alloc (az ?_))
 exact az h
theorem zQp {B:bX}{R:qp->au->Prop}{l:ak}{items:Array aj}{ks:List Str}(C:A.handled=none)(hl:s.heap.IsTuple l items)(d:items.size=ks.length)(hv:∀i v,items[i]?=some v->dU (ks.getD i ⟨#[]⟩) v=true)(hb:ks.length+1<scanBound)
  (D:∀h' tk,kG prog w h' s.heap.objs.size ks->(∀b o,b<s.heap.objs.size->s.heap.get? b=some o->h'.get? b=some o)->R (.ok (.ret .none)) {s with heap:=h',toks:=tk}) :
  wpAny (model prog w) A (di.«set.__init__» ⟨[.ref s.heap.objs.size,.ref l],[]⟩) (fun fin s'=>match fin with| .done f=>R (.ok f) s'| .again t=>t.quiet=true/\codeAny (model prog w) B t R s') (fun e s'=>R (.error e) s') {s with heap:=s.heap.push (jR w)}:=by
 have new:(s.heap.push (jR w)).get? s.heap.objs.size=some (jR w):=aE _ rfl
 have ty:me {s with heap:=s.heap.push (jR w)} (.ref s.heap.objs.size) "set" :=⟨_,new,rfl⟩
 obtain⟨ol,g,h,nl,j⟩:=id hl
 obtain⟨u,c,n,a⟩:=ol
 simp only at h j
 subst h;subst j
 have old:(s.heap.push (jR w)).get? l=some {cls:=.type "tuple",dict:=c,data:=.seq items nl,slots:=a}:=ae _ g
 have J:=zQl
 have L:=zQm
 have M:(Value.type "tuple"==Value.type "dict")=false:=by decide
 have tl:(s.heap.push (jR w)).IsTuple l items:=⟨_,old,rfl,nl,rfl⟩
 unfold di.«set.__init__» noKeywords qg
 generalize p:pyIter=PI
 wp_walk
 subst p
 refine fV tl (af (rm ?_))
 have y:l<s.heap.objs.size:=aF g
 have F:A.in1.handled=none:=by simp[C]
 have ne:l≠(s.heap.push (jR w)).objs.size:=by
  rw[bI]
  exact bp (bT y)
 have G:s.heap.objs.size∉ [(s.heap.push (jR w)).objs.size,l]:=by
  rw[bI]
  simp only[aL,aS,eD,or_false,not_or]
  exact⟨bp (dG _),de y⟩
 have z:=(Walks.tuple (prog:=prog) (w:=w) (A:=A.in1) F _ l ne items).toS
 rw[d]at z
 refine zQk z s.heap.objs.size G hv hb (ks.length-0) 0 _ (by omega) (bw _) ?st0 ?x0 fun s' m x=>?_
 case st0=>exact⟨⟨_,aE _ rfl,rfl,rfl⟩,tl.push _⟩
 case x0=>exact zQn prog w (ae _ new)
 obtain⟨h',g',d',q,r⟩:=s'
 obtain rfl:g'=s.gens:=m.gens
 obtain rfl:d'=s.drawn:=m.drawn
 obtain rfl:r=s.os:=m.os
 refine az ?_
 refine az (D h' q x fun b o hb e=>?_)
 have H:b≠s.heap.objs.size:=bp hb
 have I:b≠(s.heap.push (jR w)).objs.size:=by
  rw[bI]
  exact bp (bT hb)
 refine m.heap b o ?_ (ae _ (ae _ e))
 simp only[aL,aS,eD,or_false,not_or]
 exact⟨H,I⟩
theorem zQq {l:ak}{items:Array aj}{ks:List Str}{Q:aj->au->Prop}(j:A.handled=none)(hl:s.heap.IsTuple l items)(d:items.size=ks.length)(hv:∀i v,items[i]?=some v->dU (ks.getD i ⟨#[]⟩) v=true)(hb:ks.length+1<scanBound)
  (h:∀h' tk,kG prog w h' s.heap.objs.size ks->(∀b o,b<s.heap.objs.size->s.heap.get? b=some o->h'.get? b=some o)->Q (.ref s.heap.objs.size) {s with heap:=h',toks:=tk}) :
  wpAny (model prog w) A (call (.type "set") [.ref l]) Q E s:=by
 obtain⟨p,m,t⟩:=gb.mro
 have u:=gb.made
 have y:=gb.sub
 refine qq (qe (?_:wpAny _ _ (callAny (.type "set") _) _ _ _))
 refine az (And.intro (Code.quiet_builtin _ (by decide+kernel)) (eP F.entry_type_call ?_))
 rw[Around.under_plain (weight_type_call_type "set" [Value.ref l] []) rfl]
 have z:=gb.notType
 have B:=gb.canCreate
 have C:=F.typeCall_set_1 (.ref l)
 all_goals (repeat(any_goals (first|assumption|wp_step)))
 refine ij (zQo (w:=w) (.ref l) (E:=E) (Q₁:=fun v f=>v=.ref s.heap.objs.size/\f={s with heap:=s.heap.push (jR w)}) ⟨rfl,rfl⟩) fun r f c=>?_
 match r,c with
 | .error e,c=>exact c
 | .ok (.ret v),c=>
  obtain⟨rfl,rfl⟩:=c
  have ty:me {s with heap:=s.heap.push (jR w)} (.ref s.heap.objs.size) "set" :=⟨_,aE _ rfl,rfl⟩
  have D:=gb.init.lookup
  have G:=gb.init.bind (.ref s.heap.objs.size)
  all_goals (repeat(any_goals (first|assumption|wp_step)))
  refine ij (codeAny_call_builtin (R:=wants (fun q g=>q=.none/\∃h' tk,g={s with heap:=h',toks:=tk}/\kG prog w h' s.heap.objs.size ks/\∀b o,b<s.heap.objs.size->s.heap.get? b=some o->h'.get? b=some o) E)
   gb.init.plain F.entry_set_init (check_set_init_1 ty (zQp (by simp[j]) hl d hv hb fun h' tk x k=>⟨rfl,h',tk,rfl,x,k⟩))) fun n g a=>?_
  match n,a with
  | .error e,a=>exact a
  | .ok (.ret q),a=>
   obtain⟨rfl,h',tk,rfl,x,k⟩:=a
   all_goals (repeat(any_goals (first|assumption|wp_step)))
   exact h _ _ x k
  | .ok .next,a=>exact a.elim
  | .ok .brk,a=>exact a.elim
  | .ok .cont,a=>exact a.elim
 | .ok .next,c=>exact c.elim
 | .ok .brk,c=>exact c.elim
 | .ok .cont,c=>exact c.elim
end
theorem zJT:Manifest.owners.lookup (String.ofList ['r','o','t','a','r','e','t','i','_','t','e','s'].reverse)=some Manifest.sig_set_iterator:=by kernel_rfl
theorem gS:Slot "set_iterator" "__next__" "set_iterator.__next__" :=
 .of (owner :="set_iterator") (n :="__next__") (by rw[nh,je];kernel_rfl) (by decide+kernel) (by decide+kernel) (by decide+kernel)
  (by first|exact .inl (by decide+kernel)|exact .inr (by decide+kernel)) (by rw[i8];kernel_rfl)
theorem zEj:entryFor table "set_iterator.__next__"=some di.«set_iterator.__next__»:=pJ (by kernel_rfl)
theorem zEk (a:aj):argsOk "set_iterator.__next__" ⟨[a],[]⟩:=by
 unfold argsOk;rw[sN (id :="set_iterator.__next__") (n:=['_','_','t','x','e','n','_','_']) (o:=['r','o','t','a','r','e','t','i','_','t','e','s']) (by kernel_rfl) zJT];kernel_rfl
theorem zJU:Slot "set_iterator" "__iter__" "set_iterator.__iter__" :=
 .of (owner :="set_iterator") (n :="__iter__") (by rw[nh,je];kernel_rfl) (by decide+kernel) (by decide+kernel) (by decide+kernel)
  (by first|exact .inl (by decide+kernel)|exact .inr (by decide+kernel)) (by rw[i8];kernel_rfl)
theorem zQr:entryFor table "set_iterator.__iter__"=some di.«dict_keyiterator.__iter__» :=
 nK (id' :="dict_keyiterator.__iter__") (by kernel_rfl) (by first|rfl|decide+kernel|(unfold ro;simp+decide [o8])) (by decide+kernel) (by kernel_rfl)
theorem zQs (a:aj):argsOk "set_iterator.__iter__" ⟨[a],[]⟩:=by
 unfold argsOk;rw[sN (id :="set_iterator.__iter__") (n:=['_','_','r','e','t','i','_','_']) (o:=['r','o','t','a','r','e','t','i','_','t','e','s']) (by kernel_rfl) zJT];kernel_rfl
theorem zQt:entryFor table "set.__iter__"=some di.«frozenset.__iter__» :=
 nK (id' :="frozenset.__iter__") (by kernel_rfl) (by first|rfl|decide+kernel|(unfold ro;simp+decide [o8])) (by decide+kernel) (by kernel_rfl)
noncomputable abbrev gT (f:aj)(i:Nat)(a:ak)(n ep:Nat):Obj:={cls:=.type "set_iterator",dict:=none,data:=.fields #[f,.int i 0,.ref a,.int n 0,.int ep 0]}
section
variable{prog:aJ}{w:bh}{A:bX}{E:aj->au->Prop}{s:au}
theorem zQu {I a T:ak}{i ep:Nat}{b:Array (Int×aj)}{t:e7}{pl:List Nat}{e1 j:Nat}{x:Int×aj}{Q:Option aj->au->Prop}
  (hi:s.heap.get? I=some (gT (.ref T) i a b.size ep)) (ha:s.heap.get? a=some (qS b ep t)) (hf:t.fits b.size=true) (c:s.heap.get? T=some (seqObj "tuple" (pl.map fun(i:Nat)=>rawInt i).toArray e1)) (d:pl[i]?=some j) (e:b[j]?=some x)
  (f:∀h',h'.get? I=some (gT (.ref T) (i+1) a b.size ep)->ig I s.heap h'->Q (some x.2) {s with heap:=h'}) :
  wpAny (model prog w) A (pyNext (.ref I)) Q E s:=by
 have ty:s.TypeIs (.ref I) "set_iterator" :=⟨_,hi,rfl⟩
 unfold pyNext
 refine af (gm (b0 (name:=dH "__next__") ty gS (cp gS ty zEj ?_ (zEk _))))
 unfold di.«set_iterator.__next__»
 refine af (m:=slotArgs "__next__" 0 _) (az ?_)
 refine af (nO hi rfl ?_)
 dsimp only
 refine af (iA ha rfl hf ?_)
 rw[if_neg (by simp)]
 refine af (dz c rfl ?_)
 have g:((pl.map fun(i:Nat)=>rawInt i).toArray)[((i:Nat):Int).toNat]?=some (.int (j:Int) 0):=by
  rw[du,nr,ar,d];rfl
 dsimp only
 rw[g]
 dsimp only
 unfold setNextDrawn
 refine af (af (fC ha rfl hf ?_))
 dsimp only
 rw[du,du,if_neg (by simp),e]
 refine az ?_
 refine af (cj hi (by simp) fun h' h l=>?_)
 exact az ⟨_,rfl,az (f h' (by rw[h];rfl) l)⟩
theorem zJV {Q:Option aj->au->Prop}{R:pH->au->Prop}(c:A.handled=none)(d:∀h',(∀b o,s.heap.get? b=some o->h'.get? b=some o)->Q none {s with heap:=h'}) :
  wpAny (model prog w) A.in1 (do let e<-newExc (.type "StopIteration") [];raiseNew e) R (fun e s'=>wpAny (model prog w) A (do let b<-isInstance e (.type "StopIteration");if b=true then pure none else throw e) Q E s') s:=by
 refine af ?_
 simp only[newExc,newTuple]
 refine af (cu ?_ (by size_fits))
 refine af (m:=firstArgMember _ _) (pS (a:=Value.none) (by first|rfl|(simp only[firstArgMember];rfl)) ?_)
 refine cu ?_ (by size_fits)
 simp only[raiseNew]
 refine af (sy ?_)
 rw[show A.in1.handled=none from c]
 refine af (az (wpAny_throw ?_))
 refine af (ji (T :="StopIteration") (b:=true) ⟨_,aE _ rfl,rfl⟩ nF ?_)
 exact az (d _ fun b o e=>ae _ (ae _ e))
theorem zQv {I a T:ak}{i ep:Nat}{c:Array (Int×aj)}{t:e7}{pl:List Nat}{e1:Nat}{Q:Option aj->au->Prop}(g:A.handled=none)
  (hi:s.heap.get? I=some (gT (.ref T) i a c.size ep)) (ha:s.heap.get? a=some (qS c ep t)) (hf:t.fits c.size=true) (h:s.heap.get? T=some (seqObj "tuple" (pl.map fun(i:Nat)=>rawInt i).toArray e1)) (j:pl[i]?=none)
  (l:∀h',(∀b o,b≠I->s.heap.get? b=some o->h'.get? b=some o)->Q none {s with heap:=h'}) :
  wpAny (model prog w) A (pyNext (.ref I)) Q E s:=by
 have ty:s.TypeIs (.ref I) "set_iterator" :=⟨_,hi,rfl⟩
 unfold pyNext
 refine af (gm (b0 (name:=dH "__next__") ty gS (cp gS ty zEj ?_ (zEk _))))
 unfold di.«set_iterator.__next__»
 refine af (m:=slotArgs "__next__" 0 _) (az ?_)
 refine af (nO hi rfl ?_)
 dsimp only
 refine af (iA ha rfl hf ?_)
 rw[if_neg (by simp)]
 refine af (dz h rfl ?_)
 have n:((pl.map fun(i:Nat)=>rawInt i).toArray)[((i:Nat):Int).toNat]?=none:=by
  rw[du,nr,ar,j];rfl
 dsimp only
 rw[n]
 dsimp only
 refine af (cj hi (by simp) fun p q d=>?_)
 refine af (cj (s:={s with heap:=p}) q (by simp) fun r v f=>?_)
 refine zJV (s:={s with heap:=r}) g fun u ex=>l u fun b o hb e=>ex b o ?_
 exact(f.2 b hb).trans ((d.2 b hb).trans e)
theorem zCj {Q:Bool->au->Prop}(h:Q (w.params.followText "set-order") s):wpAny (model prog w) A setsByText Q E s:=by
 unfold setsByText
 exact af (mE (az h))
theorem zQw {a:ak}{ep:Nat}{b:Array (Int×aj)}{t:e7}{Q:Array (Int×aj)->au->Prop}(ha:s.heap.get? a=some (qS b ep t))(hf:t.fits b.size=true)(hb:w.params.followText "set-order"=true)(h:Q (pickOrder (w.params.setOrder a ep) b) s) :
  wpAny (model prog w) A (setWalk a) Q E s:=by
 unfold setWalk
 refine af (fC ha rfl hf ?_)
 dsimp only
 refine af (zCj ?_)
 rw[hb]
 exact af (mE (az h))
theorem zCk {I a:ak}{f i ep:Nat}{d:Array (Int×aj)}{t:e7}{r:Option (aj×Nat)}{Q:Option aj->au->Prop}(q:A.handled=none)
  (hi:s.heap.get? I=some (gT (.int f 0) i a d.size ep)) (ha:s.heap.get? a=some (qS d ep t)) (hf:t.fits d.size=true)
  (u:∀(A:bX) (E:aj->au->Prop) (Q:Option (aj×Nat)->au->Prop),Q r s->wpAny (model prog w) A (setNext a f i ep) Q E s)
  (g:∀x j,r=some (x,j)->∀h',h'.get? I=some (gT (.int j 0) (i+1) a d.size ep)->ig I s.heap h'->Q (some x) {s with heap:=h'})
  (h:r=none->∀h',(∀b o,b≠I->s.heap.get? b=some o->h'.get? b=some o)->Q none {s with heap:=h'}) :
  wpAny (model prog w) A (pyNext (.ref I)) Q E s:=by
 have ty:s.TypeIs (.ref I) "set_iterator" :=⟨_,hi,rfl⟩
 unfold pyNext
 refine af (gm (b0 (name:=dH "__next__") ty gS (cp gS ty zEj ?_ (zEk _))))
 unfold di.«set_iterator.__next__»
 refine af (m:=slotArgs "__next__" 0 _) (az ?_)
 refine af (nO hi rfl ?_)
 dsimp only
 refine af (iA ha rfl hf ?_)
 rw[if_neg (by simp)]
 rw[du,du,du]
 refine af (u _ _ _ ?_)
 match r,g,h with
 |none,_,h=>
  dsimp only
  refine af (cj hi (by simp) fun l p c=>?_)
  exact zJV (s:={s with heap:=l}) q fun v ex=>h rfl v fun b o hb e=>ex b o ((c.2 b hb).trans e)
 |some (x,j),g,_=>
  dsimp only
  refine af (cj hi (by simp) fun l p c=>?_)
  refine af (cj (s:={s with heap:=l}) p (by simp) fun y z n=>?_)
  exact az ⟨_,rfl,az (g x j rfl y (by rw[z];rfl) (c.trans n))⟩
theorem zJW {a:ak}{f i ep:Nat}{b:Array (Int×aj)}{t:e7}{Q:Option (aj×Nat)->au->Prop}(ha:s.heap.get? a=some (qS b ep t))(hf:t.fits b.size=true)(hb:w.params.followText "set-order"=true)
  (h:Q (((pickOrder (w.params.setOrder a ep) b)[i]?).map fun e=>(e.2,f)) s):wpAny (model prog w) A (setNext a f i ep) Q E s:=by
 unfold setNext
 refine af (fC ha rfl hf ?_)
 dsimp only
 refine af (zCj ?_)
 rw[hb,if_pos rfl,if_neg (by simp)]
 refine af (zQw ha hf hb ?_)
 exact az h
theorem zJX {a:ak}{f i ep:Nat}{b:Array (Int×aj)}{t:e7}{Q:Option (aj×Nat)->au->Prop}(ha:s.heap.get? a=some (qS b ep t))(hf:t.fits b.size=true)(hb:w.params.followText "set-order"=false)(hl:t.led=true)(d:b.size<=1)
  (h:Q (match b[e8 t.place f]?,t.place[e8 t.place f]? with|some (_,x),some j=>some (x,j+1)|_,_=>none) s):wpAny (model prog w) A (setNext a f i ep) Q E s:=by
 unfold setNext
 refine af (fC ha rfl hf ?_)
 dsimp only
 refine af (zCj ?_)
 rw[hb,if_neg (by decide)]
 refine iI (fun hd=>?_) (fun _=>?_)
 ·have c:(!t.plain&&decide (b.size>1))=true:=hd
  simp only[bj,decide_eq_true_eq]at c
  omega
 ·show wpAny _ _ ((if(!t.led&&!b.isEmpty)=true then unsupported "set:maker-not-led"else pure ())>>=_) _ _ _
  rw[hl,if_neg (by simp)]
  exact af (az (az h))
theorem zEl {α:Type}:∀{l:List α}{i:Nat} (h:i<l.length),(l[i]::l.eraseIdx i).Perm l
 |x::l,0,h=>dY _
 |x::l,i+1,h=>by
  have q:=zEl (l:=l) (i:=i) (by simpa using h)
  exact(List.Perm.swap ..).trans (q.cons x)
theorem zEm {α:Type}(next:Nat->Nat)(xs:Array α):(pickOrder next xs).toList.Perm xs.toList:=by
 have go:∀(a k:Nat) (left:List α) (out:Array α),left.length=a->(o9 next a k left out).toList.Perm (out.toList++left):=by
  intro a
  induction a with
  |zero=>
   intro k left out e
   rw[c7.mp e]
   simp[o9]
  |succ a ih=>
   intro k left out e
   have lt:next k%left.length<left.length:=rj _ (by omega)
   unfold o9
   rw[av lt]
   dsimp only
   refine(ih _ _ _ (by rw[lG lt,e];rfl)).trans ?_
   rw[lM,dO]
   refine tR _ ?_
   exact zEl lt
 have:=go xs.size 0 xs.toList #[] rfl
 simpa [pickOrder]using this
theorem zQx {a:Source}{n:Nat}{Q:Nat->au->Prop}(b:0<n)(h:∀d r,r<n->Q r {s with drawn:=d}):wpAny (model prog w) A (choose a n) Q E s :=
 fun Γ p c=>⟨de b,h _ _ (rj _ b)⟩
theorem zJY {α:Type}:∀(n:Nat) (xs:List α) {s:au}{Q:List α->au->Prop},xs.length=n->(∀d ord,ord.Perm xs->Q ord {s with drawn:=d})->wpAny (model prog w) A (drawOrder n xs) Q E s
 |0,xs,s,Q,e,h=>by
  rw[c7.mp e]at h
  unfold drawOrder
  have:s={s with drawn:=s.drawn}:=rfl
  exact az (h s.drawn [] (dY _))
 |n+1,[],s,Q,e,h=>by cases e
 |n+1,x::xs,s,Q,e,h=>by
  unfold drawOrder
  refine af (zQx (by rw[e];omega) fun d r a=>?_)
  rw[av a]
  dsimp only
  refine af (zJY n _ (by rw[lG a,e];rfl) fun b ord pm=>?_)
  refine az (h b _ ?_)
  exact(pm.cons _).trans (zEl a)
theorem zEn {I:ak}{f:aj}{i:Nat}{a:ak}{n ep:Nat}{Q:aj->au->Prop}(hi:s.heap.get? I=some (gT f i a n ep))(h:Q (.ref I) s):wpAny (model prog w) A (pyIter (.ref I)) Q E s:=by
 have ty:s.TypeIs (.ref I) "set_iterator" :=⟨_,hi,rfl⟩
 refine lX ty zJU (cp zJU ty zQr ?_ (zQs _))
 show wpAny _ _ (ret (.ref I)) _ _ s
 exact az ⟨_,rfl,"set_iterator",_,ty,gS.lookup,h⟩
theorem zQy {I a:ak}{ep:Nat}{c:Array (Int×aj)}{t:e7}(l:A.handled=none)(ne:a≠I)(hf:t.fits c.size=true)(hb:w.params.followText "set-order"=true) :
  Walks prog w A I [I,a] [I] c.size (fun i v=>((pickOrder (w.params.setOrder a ep) c).toList.map (·.2))[i]?=some v) (fun i h=>h.get? I=some (gT (.int 0 0) i a c.size ep)/\h.get? a=some (qS c ep t)) where
 sub:=fun b hb=>by simp at hb;simp[hb]
 frame:=fun _ _ _ st m=>⟨m I (by simp) _ st.1,m a (by simp) _ st.2⟩
 item:=fun i s Q E lt st d=>by
  have g:(pickOrder (w.params.setOrder a ep) c).size=c.size:=by rw[<-br,(zEm _ c).length_eq,br]
  have n:i<(pickOrder (w.params.setOrder a ep) c).size:=by rw[g];exact lt
  refine zCk (f:=0) (r:=some ((pickOrder (w.params.setOrder a ep) c)[i].2,0)) l st.1 st.2 hf (fun A E Q q=>zJW st.2 hf hb (by rw[dJ n];exact q)) (fun x j e h' e1 p=>?_) (fun e=>nomatch e)
  injection e with e
  injection e with u y
  subst u y
  refine d _ h' s.toks ?_ ⟨e1,(p.2 a ne).trans st.2⟩ fun b o hb e=>(p.2 b (by simpa using hb)).trans e
  rw[ar,eA,dJ n];rfl
 done:=fun s Q E st d=>by
  have g:(pickOrder (w.params.setOrder a ep) c).size=c.size:=by rw[<-br,(zEm _ c).length_eq,br]
  refine zCk (f:=0) (r:=none) l st.1 st.2 hf (fun A E Q q=>zJW st.2 hf hb (by rw[mV (by rw[g];exact aC _)];exact q)) (fun _ _ e=>nomatch e) (fun _ h' k=>?_)
  exact d h' s.toks fun b o hb e=>k b o (by simpa using hb) e
 self:=fun _ _ _ _ st d=>zEn st.1 d
theorem zQz {I a T:ak}{ep e1:Nat}{c:Array (Int×aj)}{t:e7}{pl:List Nat}(n:A.handled=none)(ne:a≠I)(nt:T≠I)(hf:t.fits c.size=true)(hl:pl.length=c.size)(p:∀j∈pl,j<c.size) :
  Walks prog w A I [I,a,T] [I] c.size (fun i v=>(pl.map fun j=>(c.getD j (0,.none)).2)[i]?=some v) (fun i h=>h.get? I=some (gT (.ref T) i a c.size ep)/\h.get? a=some (qS c ep t)/\h.get? T=some (seqObj "tuple" (pl.map fun(i:Nat)=>rawInt i).toArray e1)) where
 sub:=fun b hb=>by simp at hb;simp[hb]
 frame:=fun _ _ _ st f=>⟨f I (by simp) _ st.1,f a (by simp) _ st.2.1,f T (by simp) _ st.2.2⟩
 item:=fun i s Q E lt st d=>by
  have g:i<pl.length:=by rw[hl];exact lt
  have m:pl[i]<c.size:=p _ (cq g)
  refine zQu (j:=pl[i]) (x:=c[pl[i]]) st.1 st.2.1 hf st.2.2 (av g) (dJ m) fun h' q l=>?_
  refine d _ h' s.toks ?_ ⟨q,(l.2 a ne).trans st.2.1,(l.2 T nt).trans st.2.2⟩ fun b o hb e=>(l.2 b (by simpa using hb)).trans e
  rw[ar,av g]
  simp[m]
 done:=fun s Q E st d=>zQv n st.1 st.2.1 hf st.2.2 (fc (by rw[hl];exact aC _)) fun h' k=>d h' s.toks fun b o hb e=>k b o (by simpa using hb) e
 self:=fun _ _ _ _ st d=>zEn st.1 d
theorem zRA (j:Nat):e8 #[j] (j+1)=1:=by
 unfold e8
 simp[ph]
theorem zRB (j:Nat):e8 #[j] 0=0:=by
 unfold e8
 simp[ph]
theorem zRC {I a:ak}{ep:Nat}{es:Array (Int×aj)}{t:e7}(hh:A.handled=none)(ne:a≠I)(hf:t.fits es.size=true)(hb:w.params.followText "set-order"=false)(hl:t.led=true)(h1:es.size<=1) :
  Walks prog w A I [I,a] [I] es.size (fun i v=>(es.toList.map (·.2))[i]?=some v) (fun i h=>h.get? I=some (gT (.int ((if i=0 then 0 else t.place.getD 0 0+1:Nat):Int) 0) i a es.size ep)/\h.get? a=some (qS es ep t)) where
 sub:=fun b hb=>by simp at hb;simp[hb]
 frame:=fun _ _ _ st hk=>⟨hk I (by simp) _ st.1,hk a (by simp) _ st.2⟩
 item:=fun i s Q E lt st hQ=>by
  obtain rfl:i=0:=by omega
  have z1:es.size=1:=by omega
  have pz:t.place.size=1:=by
   simp only[sO,bj,beq_iff_eq]at hf
   rw[hf.1,z1]
  obtain⟨j,hj⟩ : ∃j,t.place= #[j] :=⟨t.place[0],by apply Array.ext<;>simp[pz];intro i hi;have : i=0 :=by omega
                                                   subst this;rfl⟩
  have li:0<es.size:=by omega
  refine zCk (f:=0) (r:=some (es[0].2,j+1)) hh st.1 st.2 hf (fun A E Q q=>zJX st.2 hf hb hl h1 (by rw[hj,zRB,dJ li];exact q)) (fun x j' e h' e1 sb=>?_) (fun e=>nomatch e)
  injection e with e
  injection e with e2 e3
  subst e2 e3
  refine hQ _ h' s.toks ?_ ⟨?_,(sb.2 a ne).trans st.2⟩ fun b o hb e=>(sb.2 b (by simpa using hb)).trans e
  ·rw[ar,eA,dJ li];rfl
  ·rw[e1,hj];rfl
 done:=fun s Q E st hQ=>by
  have nx:(match es[e8 t.place (if es.size=0 then 0 else t.place.getD 0 0+1)]?,t.place[e8 t.place (if es.size=0 then 0 else t.place.getD 0 0+1)]? with|some (_,x),some j=>some (x,j+1)|_,_=>(none:Option (aj×Nat)))=none:=by
   have hz:t.place.size=es.size:=by
    simp only[sO,bj,beq_iff_eq]at hf
    exact hf.1
   by_cases z:es.size=0
   ·have:es=#[]:=Array.size_eq_zero_iff.mp z
    subst this
    simp
   ·have z1:es.size=1:=by omega
    obtain⟨j,hj⟩ : ∃j,t.place= #[j] :=⟨t.place[0],by apply Array.ext<;>simp[hz,z1];intro i hi;have : i=0 :=by omega
                                                     subst this;rfl⟩
    rw[if_neg z,hj]
    have e4:(#[j]:Array Nat).getD 0 0=j:=rfl
    rw[e4,zRA,mV (by rw[z1];exact aC _)]
  refine zCk (r:=none) hh st.1 st.2 hf (fun A E Q q=>zJX st.2 hf hb hl h1 (by rw[nx];exact q)) (fun _ _ e=>nomatch e) (fun _ h' k=>?_)
  exact hQ h' s.toks fun b o hb e=>k b o (by simpa using hb) e
 self:=fun _ _ _ _ st hQ=>zEn st.1 hQ
theorem zRD {a:ak}{c:Array (Int×aj)}{Q:aj->au->Prop}(u:A.handled=none)(D:zBS prog w s.heap a c)
  (x:∀(I:ak) (f:bF) (d:Drawn) (ord:List aj) (fp:List ak) (St:Nat->bF->Prop),ord.Perm (c.toList.map (·.2))->Walks prog w A I fp [I] c.size (fun i v=>ord[i]?=some v) St->St 0 f->s.heap.objs.size<=I->(∀b∈fp,b=a\/s.heap.objs.size<=b)->
   (∀b∈fp,b<f.objs.size)->(∀b o,s.heap.get? b=some o->f.get? b=some o)->Q (.ref I) {s with heap:=f,drawn:=d}) :
  wpAny (model prog w) A (pyIter (.ref a)) Q E s:=by
 obtain⟨ep,t,g,G,y,hf,n,B⟩:=id D
 have ty:s.TypeIs (.ref a) "set" :=⟨_,g,rfl⟩
 have r:a<s.heap.objs.size:=aF g
 refine lX ty nu (cp nu ty zQt ?_ (PySem.F.args_set_iter_1 _))
 unfold di.«frozenset.__iter__» sW sP
 refine af (af (m:=slotArgs "__iter__" 0 _) (az (az ?_)))
 refine af (af (iA g rfl hf (az ?_)))
 unfold setDrawn
 refine af (af (fC g rfl hf ?_))
 dsimp only
 refine af (zCj (az ?_))
 have C:c.size<=sizeLine:=i0 y
 refine iI (fun hd=>?_) (fun hd=>?_)
 ·refine af (zJY c.size (bA c.size) (by simp) fun d pl pm=>?_)
  have pl_len:pl.length=c.size:=by rw[pm.length_eq,bU]
  refine af (lz ?_ (by rw[ai,pl_len];exact C))
  have p:(s.heap.push (seqObj "tuple" (pl.map fun(i:Nat)=>rawInt i).toArray 0)).get? a=some (qS c ep t):=ae _ g
  refine af (pj p rfl hf ?_)
  refine af (cu (az ⟨_,rfl,"set_iterator",_,⟨_,aE _ rfl,rfl⟩,gS.lookup,x _ _ d _ _ _ ?pm (zQz (a:=a) (T:=s.heap.objs.size) (t:=t) (ep:=ep) (e1:=0) (pl:=pl) u ?ne ?nt hf pl_len fun j H=>bK.mp (pm.mem_iff.mp H)) ?st ?ge ?fp ?lt ?kp⟩))
  case pm=>
   refine(pm.map _).trans ?_
   rw[show(bA c.size).map (fun j=>(c.getD j (0,Value.none)).2)=c.toList.map (·.2)from ?_]
   apply jj
   ·simp
   ·intro i f J
    have hi:i<c.size:=by simpa using f
    simp[hi]
  case ne=>show a≠(s.heap.push _).objs.size;rw[bI];exact bp (bT r)
  case nt=>show s.heap.objs.size≠(s.heap.push _).objs.size;rw[bI];exact bp (dG _)
  case st=>exact⟨aE _ rfl,ae _ p,ae _ (aE _ rfl)⟩
  case ge=>show s.heap.objs.size<=(s.heap.push _).objs.size;rw[bI];exact iM _
  case fp=>
   intro b hb
   simp only[aL,eD,or_false]at hb
   rcases hb with rfl|rfl|rfl
   ·right;show s.heap.objs.size<=(s.heap.push _).objs.size;rw[bI];exact iM _
   ·exact .inl rfl
   ·exact .inr (aC _)
  case lt=>
   intro b hb
   simp only[aL,eD,or_false]at hb
   rw[bI]
   rcases hb with rfl|rfl|rfl
   ·exact dG _
   ·rw[bI];exact bT (bT r)
   ·rw[bI];exact bT (dG _)
  case kp=>exact fun b o e=>ae _ (ae _ e)
 ·refine af (az ?_)
  refine af (pj g rfl hf ?_)
  refine af (cu (az ⟨_,rfl,"set_iterator",_,⟨_,aE _ rfl,rfl⟩,gS.lookup,?_⟩))
  have ne:a≠s.heap.objs.size:=bp r
  have q:∀b∈[s.heap.objs.size,a],b=a\/s.heap.objs.size<=b:=fun b hb=>by
   simp only[aL,eD,or_false]at hb
   rcases hb with rfl|rfl
   ·exact .inr (aC _)
   ·exact .inl rfl
  have flt:∀(o:Obj),∀b∈[s.heap.objs.size,a],b<(s.heap.push o).objs.size:=fun o b hb=>by
   simp only[aL,eD,or_false]at hb
   rw[bI]
   rcases hb with rfl|rfl
   ·exact dG _
   ·exact bT r
  by_cases hb:w.params.followText "set-order"=true
  ·exact x _ _ s.drawn _ _ _ ((zEm _ c).map _) (zQy (a:=a) (ep:=ep) (t:=t) u ne hf hb) ⟨aE _ rfl,ae _ g⟩ (aC _) q (flt _) fun b o e=>ae _ e
  ·have h:w.params.followText "set-order"=false:=by simpa using hb
   have f:c.size<=1:=by
    have l:¬(!w.params.followText "set-order"&& (!t.plain&&decide (c.size>1)))=true:=hd
    rw[h]at l
    rcases B with z|z
    ·omega
    ·rw[z]at l
     simpa using l
   have hl:t.led=true:=by rw[n,h];rfl
   exact x _ _ s.drawn _ _ _ (dY _) (zRC (a:=a) (ep:=ep) (t:=t) u ne hf h hl f) ⟨aE _ rfl,ae _ g⟩ (aC _) q (flt _) fun b o e=>ae _ e
theorem zRE:typeLookup (.type "set") "__len__"=pure (some (.builtin "set.__len__")):=by rw[nh,je];kernel_rfl
theorem zRF {r:ak}{Q:Bool->au->Prop}(d:s.TypeIs (.ref r) "set")(h:Q false s):wpAny (model prog w) A (kr (.ref r)) Q E s:=by
 unfold kr
 refine af (pX d zRE ?_)
 generalize c:("set.__len__" : String)=e
 wp_delta
 rw[show splitId e=some ("set","__len__")from by subst c;decide+kernel]
 subst c
 refine af (ji (T :="set") (b:=true) d (by rw[i8];kernel_rfl) ?_)
 refine iI (fun a=>absurd a (by decide)) (fun _=>?_)
 refine iI (fun _=>?_) (fun a=>absurd (by decide+kernel) a)
 refine af (ik d ?_)
 exact az h
theorem zRG {a:ak}{es:Array (Int×aj)}{R:List aj->au->Prop}(hh:A.handled=none)(hS:zBS prog w s.heap a es)
  (h:∀h' tk d ord,ord.Perm (es.toList.map (·.2))->(∀b o,s.heap.get? b=some o->h'.get? b=some o)->R ord {s with heap:=h',toks:=tk,drawn:=d}) :
  wpAny (model prog w) A (collect (.ref a)) R E s:=by
 obtain⟨ep,t,ho,hel,hbd,hf,hled,hpl⟩:=id hS
 have la:a<s.heap.objs.size:=aF ho
 unfold collect
 refine af (rm (eP PySem.F.entry_proto_collect ?_))
 rw[d7 PySem.F.plain_proto_collect _]
 show wpAny _ A.in1 (newList []>>=fun l=>again (.builtin "list.__iadd__" ⟨[l,.ref a],[]⟩)) _ _ s
 refine af (cu ?_)
 refine az ⟨gn mG _,eP PySem.F.entry_list_iadd ?_⟩
 rw[d7 mG _]
 show wpAny _ A.in1 (ku (.ref s.heap.objs.size) (.ref a) (.ref s.heap.objs.size)) _ _ _
 have ho1:(s.heap.push {cls:=.type "list",data:=.seq ([]:List aj).toArray}).get? a=some (qS es ep t):=ae _ ho
 have hS1:zBS prog w (s.heap.push {cls:=.type "list",data:=.seq ([]:List aj).toArray}) a es:=⟨ep,t,ho1,hel,hbd,hf,hled,hpl⟩
 have hL:(s.heap.push {cls:=.type "list",data:=.seq ([]:List aj).toArray}).get? s.heap.objs.size=some {cls:=.type "list",data:=.seq #[]}:=aE _ rfl
 unfold ku
 refine af (ik (T :="set") ⟨_,ho1,rfl⟩ ?_)
 have ne:s.heap.objs.size≠a:=de la
 have q1:mi (.ref s.heap.objs.size) (.ref a)=false:=by simp[mi,ne]
 rw[if_neg (by rw[q1];decide)]
 refine af (zRD (A:=A.in1) (s:={s with heap:=s.heap.push {cls:=.type "list",data:=.seq ([]:List aj).toArray}}) hh hS1 fun I h1 d ord fp St pm W st ge fpo flt kp=>?_)
 dsimp only at ge fpo kp
 rw[bI]at ge fpo
 have nf:s.heap.objs.size∉fp:=fun z=>by
  rcases fpo _ z with e|e
  ·exact ne e
  ·exact bN _ e
 have hn:es.size<=sizeLine:=i0 hbd
 have ol:ord.length=es.size:=by rw[pm.length_eq,ai,br]
 have key:∀(g:bF) (c₁:Nat),St 0 g->(∀b o,b≠s.heap.objs.size->h1.get? b=some o->g.get? b=some o)->g.get? s.heap.objs.size=some {cls:=.type "list",data:=.seq #[] c₁}->
   codeAny (model prog w) A (.builtin "list.extend.loop" ⟨[.ref s.heap.objs.size,.ref I,.ref s.heap.objs.size],[]⟩) (fun q s'=>∃(h':bF) (tk:Nat) (acc:Array aj) (c':Nat),q=.ok (.ret (.ref s.heap.objs.size))/\s'={s with heap:=h',toks:=tk,drawn:=d}/\
    (∀b o,s.heap.get? b=some o->h'.get? b=some o)/\h'.get? s.heap.objs.size=some {cls:=.type "list",dict:=none,data:=.seq acc c',slots:=#[]}/\acc.toList=ord) {s with heap:=g,drawn:=d}:=by
  intro g c₁ hst hk hg
  refine codeAny_extend_loopS W.toS hn _ nf _ es.size 0 _ #[] c₁ rfl (bw _) hst hg (ItemsOf.nil _) fun s' acc' c' hm hS' hacc=>?_
  have e1:acc'.toList=ord:=by
   apply jj
   ·rw[br,hacc.1,ol]
   ·intro i i1 i2
    have:ord[i]?=some (acc'[i]'(by simpa using i1)):=hacc.2 i _ (dJ (by simpa using i1))
    rw[av i2]at this
    injection this with this
    simpa using this.symm
  refine⟨s'.heap,s'.toks,acc',c',rfl,n9 hm,fun b o e=>?_,hS',e1⟩
  have nb:b≠s.heap.objs.size:=bp (aF e)
  refine hm.heap b o (fun z=>?_) (hk b o nb (kp b o (ae _ e)))
  rcases aL.mp z with e'|z
  ·exact nb e'
  ·rw[aS.mp z]at e
   exact absurd (aF e) (Nat.not_lt.mpr (Nat.le_of_succ_le ge))
 have fin : ∀(q : Result) (s' : Shared),(∃(h' : Heap) (tk : Nat) (acc : Array Value) (c' : Nat),q= .ok (.ret (.ref s.heap.objs.size))/\s'={s with heap :=h',toks :=tk,drawn :=d}/\
       (∀b o,s.heap.get? b=some o->h'.get? b=some o)/\h'.get? s.heap.objs.size=some {cls:=.type "list",dict:=none,data:=.seq acc c',slots:=#[]}/\acc.toList=ord)->
   q=.ok (.ret (.ref s.heap.objs.size))/\wpAny (model prog w) A (load s.heap.objs.size>>=fun o=>match o.data with| .seq xs _=>pure xs.toList|_=>unsupported "internal:collect") R E s':=by
  rintro q s' ⟨h',tk,acc,c',rfl,rfl,kk,hg,e1⟩
  refine⟨rfl,af (wpAny_load hg ?_)⟩
  show wpAny _ _ (pure acc.toList) _ _ _
  rw[e1]
  exact az (h h' tk d ord pm kk)
 have hL1:=kp _ _ hL
 have hoa:=kp _ _ ho1
 refine af (dX (zRF (s:={s with heap:=h1,drawn:=d}) ⟨_,hoa,rfl⟩ ?_))
 refine iI (fun _=>?_) (fun _=>az ⟨gn lL _,ij (key h1 _ st (fun b o _ e=>e) hL1) fun q s' y=>?_⟩)
 ·refine af (fZ ?_)
  refine af ?_
  show wpAny _ _ (updateSeq s.heap.objs.size (·.push .none)>>=fun _=>updateSeq s.heap.objs.size (·.pop)) _ _ _
  refine af (qh hL1 rfl ?_)
  have hL2:=gq (bP (·.push Value.none)) hL1 rfl
  refine qh (hz:=by seq_fits) hL2 rfl ?_
  have hL3:=gq (bP (·.pop)) hL2 rfl
  refine az ⟨gn lL _,ij (key _ _ ?_ (fun b o hb e=>?_) hL3) fun q s' y=>?_⟩
  ·refine W.frame 0 _ _ st fun b hb o e=>?_
   have hbS:b≠s.heap.objs.size:=fun z=>nf (z▸hb)
   exact(bC _ _ (eN hbS)).trans ((bC _ _ (eN hbS)).trans e)
  ·exact(bC _ _ (eN hb)).trans ((bC _ _ (eN hb)).trans e)
  ·obtain⟨rfl,y2⟩:=fin q s' y
   exact y2
 ·obtain⟨rfl,y2⟩:=fin q s' y
  exact y2
end
section
open MyS PySem.W
variable{X:Cx}{pins:List (ak×Obj)}{σ:List (Option V)}{H:Hp}{s:au}
theorem Inv.draw {h':bF}{tk:Nat}{d:Drawn}(I:Inv X pins σ H {s with heap:=h',toks:=tk}):Inv X pins σ H {s with heap:=h',toks:=tk,drawn:=d} :=
 ⟨I.ok,I.os,I.bare,I.base,I.loc,I.cell,I.free,I.freeC,I.pin,I.hok,I.len⟩
theorem Inv.grown {h':bF}{tk:Nat}(I:Inv X pins σ H s)(k:∀b u,s.heap.get? b=some u->h'.get? b=some u):Inv X pins σ H {s with heap:=h',toks:=tk} :=
 I.un (Un.kept k) (I.hok.kept k)
theorem zRH (T:X.calm=true){a:ak}{ks:List Str}{Q:VK}(I:Inv X pins σ H s)(C:kG X.prog X.w s.heap a ks)(U:ks.length<64)
  (q:∀(out:List Str) (l:ak),(∀x,x∈out↔x∈ks)->out.Pairwise (fun a b=>a.cps.toList<b.cps.toList)->H l=none->Q (.ref l) (upd H l (.lst (out.map V.str)))) :
  wpAny (model X.prog X.w) X.A (call (.builtin "sorted") [.ref a]) (EP X pins σ Q) X.xe s:=by
 obtain⟨L,M,nd,mem,sz⟩:=C
 refine Calls.call_function_entry kind_sorted plain_sorted entry_sorted (args_sorted1 _) ?_
 unfold di.«sorted»
 refine af (m:=checkCount "sorted" 1 1 _) (az ?_)
 refine af (zRG (A:=X.A.in1) (I.ok.hd T) M fun h' tk d ord pm W=>?_)
 have N:Inv X pins σ H {s with heap:=h',toks:=tk,drawn:=d}:=(I.grown W).draw
 obtain⟨ep,t,ho,D,_⟩:=M
 have c:∀v∈ord,∃x u,v=Value.str x u:=fun v hv=>by
  obtain⟨e,Y,rfl⟩:=ao.mp (pm.mem_iff.mp hv)
  obtain⟨⟨k,E,_⟩,_⟩:=D e Y
  obtain⟨u,O⟩:=eQ E
  exact⟨k,u,O⟩
 have C:tm ord (ord.map uY):=by
  have go:∀l:List aj,(∀v∈l,∃x u,v=Value.str x u)->tm l (l.map uY):=by
   intro l
   induction l with
   |nil=>intro _;exact .nil
   |cons v l ih=>
    intro hl
    obtain⟨x,u,rfl⟩:=hl v (aq ..)
    exact .cons _ _ (ih fun v hv=>hl v (aw _ hv))
  exact go ord c
 have pt:(ord.map uY).Perm (jY L):=by
  have:=pm.map uY
  rw[aV]at this
  exact this
 have F:(ord.map uY).Nodup:=pt.nodup_iff.mpr nd
 have ol:ord.length=L.size:=by rw[pm.length_eq,ai,br]
 have g:ord.length<64:=by omega
 refine af (md ?_ (by rw[aI];omega))
 dsimp only
 generalize z:h'.objs.size=B
 have h:(h'.push {cls:=.type "list",data:=.seq ord.toArray}).get? B=some (seqObj "list" ord.toArray 0):=by
  rw[<-z];exact aE _ rfl
 have old:∀b o,h'.get? b=some o->(h'.push {cls:=.type "list",data:=.seq ord.toArray}).get? b=some o/\b≠B:=fun b o e=>⟨ae _ e,by rw[<-z];exact bp (aF e)⟩
 refine af (dX (cp rg ⟨_,h,rfl⟩ qb (zMv (ks:=ord.map uY) h C F g fun p P O f n G J=>⟨_,rfl,?_⟩) (args_list_sort _)))
 refine az ⟨_,rfl,?_⟩
 have r:∀b o,h'.get? b=some o->P.get? b=some o:=fun b o e=>G b o (old _ _ e).2 (old _ _ e).1
 refine⟨.ref B,_,N.laid (t':=tk) (o:=.lst ((p.map fun i=>(ord.map uY).getD i ⟨#[]⟩).map V.str)) r (fz z) ⟨?_,_,_,?_,J⟩,rfl,q _ B ?_ ?_ (N.hok.fresh (fz z))⟩
 ·rw[ai,ai,f.length_eq,bU,aI];omega
 ·have go:∀l:List Nat,(∀i∈l,i<ord.length)->zU ((l.map fun i=>(ord.map uY).getD i ⟨#[]⟩).map V.str) (l.map fun i=>ord.getD i Value.none):=by
   intro l
   induction l with
   |nil=>intro _;exact .nil
   |cons i l ih=>
    intro y
    have hi:i<ord.length:=y i (aq ..)
    refine .cons ?_ (ih fun j Z=>y j (aw _ Z))
    obtain⟨x,u,e⟩:=c ord[i] (cq hi)
    have a1:ord.getD i Value.none=Value.str x u:=by simp[hi,e]
    have a2:(ord.map uY).getD i ⟨#[]⟩=x:=by simp[hi,e,uY]
    show zX (V.str ((ord.map uY).getD i ⟨#[]⟩)) (ord.getD i Value.none)
    rw[a1,a2]
    exact⟨_,rfl⟩
  exact go p fun i hi=>bK.mp (f.mem_iff.mp hi)
 ·intro x
  have e1:(bA ord.length).map (fun i=>(ord.map uY).getD i (⟨#[]⟩:Str))=ord.map uY:=by
   apply jj
   ·simp
   ·intro i h1 P
    have hi:i<ord.length:=by simpa using h1
    simp[hi]
  have R:=f.map (fun i=>(ord.map uY).getD i (⟨#[]⟩:Str))
  rw[e1]at R
  rw[R.mem_iff,pt.mem_iff]
  exact mem x
 ·rw[bB]
  rw[bB]at n
  exact n
noncomputable def zEo (K:ag)(x:V)(H:Hp)(Q:VK):Prop:=∃(p:ak) (ks:List Str),x=.ref p/\z7 K H p (ks.map V.str)/\ks.length<64/\
 ∀(out:List Str) (l:ak),(∀x,x∈out↔x∈ks)->out.Pairwise (fun a b=>a.cps.toList<b.cps.toList)->H l=none->Q (.ref l) (upd H l (.lst (out.map V.str)))
noncomputable def zRI (K:ag)(t:TE):TE:=fun σ H Q=>t σ H fun x H1=>zEo K x H1 Q
theorem zRJ {x y:Str}{e:bS}{E:TE}{p l pos c:Pos}(F:X.calm=true)(M:PE X e E)(N:Gl X x)(O:X.mg x=none)(hv:bootBuiltins x=some (.builtin "sorted"))(n:Gl X y)(o:X.mg y=none)(r:bootBuiltins y=some (.type "set"))
  (P:x≠"__name__" :=by decide) (w:(x==("__debug__" : Str))=false:=by decide) (z:y≠"__name__" :=by decide) (g:(y==("__debug__" : Str))=false:=by decide)
  (G:starEach [e] X.env=(false,eval e X.env)::starEach [] X.env:=by rfl)
  (j:starEach [Expr.Call (.Name y l) [e] [] c] X.env=(false,eval (Expr.Call (.Name y l) [e] [] c) X.env)::starEach [] X.env:=by rfl) :
  PE X (.Call (.Name x p) [.Call (.Name y l) [e] [] c] [] pos) (zRI X.K E):=by
 intro pins s σ H Q I h
 refine eW (j2 I N O hv ?_ P w)
 refine jg ?_ j rfl
 rw[j]
 show wpAny _ _ (spliced ((false,eval (Expr.Call (.Name y l) [e] [] c) X.env)::backTo pos (starEach [] X.env))) _ _ s
 refine eV ?_
 refine eW (j2 I n o r ?_ z g)
 refine cQ (zM (zC M zD G c pins s σ H (fun xs B=>match xs with| [x]=>zEo X.K x B Q|_=>False) I ?_) fun Y Z ⟨vs,B,J,R,d⟩=>?_) G rfl
 ·exact h
 ·obtain⟨x,rfl,d⟩:∃x,vs=[x]/\zEo X.K x B Q:=by
   match vs,d with
   | [x],d=>exact⟨x,rfl,d⟩
   | [],d=>exact d.elim
   |_::_::_,d=>exact d.elim
  obtain⟨a,ks,rfl,C,D,q⟩:=d
  obtain⟨u,rfl,T⟩:=qC R
  cases T
  obtain⟨its,L,tp,_⟩:=J.tuple C
  have f:its.toArray.size=ks.length:=by have:=L.length;simp at this;simp[this]
  refine zQq (A:=X.A) (I.ok.hd F) tp f (fun i v hv=>?_) (by unfold scanBound;omega) fun h' tk U k=>?_
  ·have hi:i<ks.length:=by
    rw[<-f]
    exact(Array.getElem?_eq_some_iff.mp hv).1
   obtain⟨u,e1,W⟩:=L.get (i:=i) (x:=.str (ks.getD i ⟨#[]⟩)) (by rw[ar];simp[hi])
   have m:its[i]?=some v:=by simpa using hv
   rw[e1]at m
   injection m with m
   subst m
   obtain⟨t,rfl⟩:=W
   simp[dU]
  ·refine iQ ?_
   exact zRH F (J.grown (tk:=tk) fun b u e=>k b u (aF e) e) U D q
end
theorem zRK (l1 l2:ak)(xs ys:Array aj) :
  Meets (di.«zip.__new__» ⟨[.type "zip",.ref l1,.ref l2],[]⟩) (fun _ R s=>s.heap.IsTuple l1 xs/\s.heap.IsTuple l2 ys/\
   R (.ok (.ret (.ref (s.heap.objs.size+4)))) {s with heap:=((((s.heap.push {cls:=.type "tuple_iterator",data:=.fields #[.ref l1,.int 0 0]}).push {cls:=.type "tuple_iterator",data:=.fields #[.ref l2,.int 0 0]}).push {cls:=.type "tuple",data:=.seq #[.ref s.heap.objs.size,.ref (s.heap.objs.size+1)]}).push {cls:=.type "tuple",data:=.seq #[.none,.none]}).push {cls:=.type "zip",data:=.fields #[.none,.bool false,.bool false,.ref (s.heap.objs.size+2),.ref (s.heap.objs.size+3)]}}) :=
 .of_wp fun prog w A R s h=>by
  obtain⟨c,g,d,tk,os⟩:=s;obtain⟨hl1,hl2,h⟩:=h
  have e:=sub_zip
  have a:oV (nG ⟨c,g,d,tk,os⟩) l1 xs:=hl1
  have b:oV (nG ⟨c.push {cls:=.type "tuple_iterator",data:=.fields #[.ref l1,.int 0 0]},g,d,tk,os⟩) l2 ys:=oW hl2 _
  wp_walk using fV a,fV b
  refine⟨_,rfl,?_⟩
  simp only[bI]at*
  exact h
section
variable{prog:aJ}{w:bh}{A:bX}{E:aj->au->Prop}{s:au}
theorem zRL {l1 l2:ak}{xs ys:Array aj}{Q:aj->au->Prop}(hl1:s.heap.IsTuple l1 xs)(hl2:s.heap.IsTuple l2 ys)
  (h:∀h',iV h' (s.heap.objs.size+4) (s.heap.objs.size+2) (s.heap.objs.size+3) .none->eh h' (s.heap.objs.size+2) (.ref s.heap.objs.size) (.ref (s.heap.objs.size+1))->
   eh h' (s.heap.objs.size+3) .none .none->h'.IsTupleIter s.heap.objs.size l1 0->h'.IsTupleIter (s.heap.objs.size+1) l2 0->
   (∀c o,s.heap.get? c=some o->h'.get? c=some o)->Q (.ref (s.heap.objs.size+4)) {s with heap:=h'}) :
  wpAny (model prog w) A (call (.type "zip") [.ref l1,.ref l2]) Q E s:=by
 refine callType_new tw (by decide) (pI _ _) (p9 _ _) (fun obj=>nH obj _ _) qa (zRK l1 l2 xs ys) ⟨hl1,hl2,?_⟩
 have a:∀(h:bF) (o:Obj) (n:Nat),h.objs.size=n->o.isFreed=false->(h.push o).get? n=some o:=fun h o n e f=>by subst e;exact aE _ f
 have b:∀(h:bF) (o:Obj) (n:Nat),h.objs.size=n->(h.push o).objs.size=n+1:=fun h o n e=>by rw[bI,e]
 have d:=b s.heap {cls:=.type "tuple_iterator",data:=.fields #[.ref l1,.int 0 0]} _ rfl
 have g:=b _ {cls:=.type "tuple_iterator",data:=.fields #[.ref l2,.int 0 0]} _ d
 have i:=b _ {cls:=.type "tuple",data:=.seq #[.ref s.heap.objs.size,.ref (s.heap.objs.size+1)]} _ g
 have l:=b _ {cls:=.type "tuple",data:=.seq #[.none,.none]} _ i
 have j:=a _ {cls:=.type "zip",data:=.fields #[.none,.bool false,.bool false,.ref (s.heap.objs.size+2),.ref (s.heap.objs.size+3)]} _ l rfl
 show _/\_
 exact⟨⟨_,j,rfl⟩,h _ j (ae _ (ae _ (a _ _ _ g rfl))) (ae _ (a _ _ _ i rfl))
  ⟨_,ae _ (ae _ (ae _ (ae _ (a _ _ _ rfl rfl)))),rfl,rfl⟩
  ⟨_,ae _ (ae _ (ae _ (a _ _ _ d rfl))),rfl,rfl⟩
  fun c o x=>ae _ (ae _ (ae _ (ae _ (ae _ x))))⟩
end
noncomputable def zEp (K:ag)(a b:ak):It :=
 ⟨fun i H=>∃xs ys x y,z7 K H a xs/\z7 K H b ys/\xs[i]?=some x/\ys[i]?=some y,
  fun i H x H'=>∃T x1 y1,x=.ref T/\H T=none/\H'=upd H T (.tup [x1,y1])/\(∀xs,z7 K H a xs->xs[i]?=some x1)/\(∀ys,z7 K H b ys->ys[i]?=some y1),
  fun i H=>∃xs ys,z7 K H a xs/\z7 K H b ys/\(i=xs.length\/i<xs.length/\i=ys.length)⟩
structure Znt (n a b:Nat) (i:Nat) (h:bF):Prop where
 zz:iV h (n+4) (n+2) (n+3) .none
 ti:eh h (n+2) (.ref n) (.ref (n+1))
 to:∃u v,eh h (n+3) u v
 i1:h.IsTupleIter n a i
 i2:gM true h (n+1) b i
theorem zRM {P:aJ}{w:bh}{K:ag}{D:List bS}{kk:Nat}{pos:Pos}{n a b:Nat}(ha:a<n)(hb:b<n):Turn P w K (.Tuple D kk pos) (zEp K a b) [n+4,n+2,n+3,n,n+1] (n+4) (Znt n a b) where
 mem:=by simp
 obj:=fun i h st c l=>by
  have F:c=n+4\/c=n+2\/c=n+3\/c=n\/c=n+1:=by simpa using l
  rcases F with z|z|z|z|z
  ·rw[z];exact⟨_,st.zz,fun v z=>by cases z⟩
  ·rw[z];exact⟨_,st.ti,fun v z=>by cases z⟩
  ·rw[z];obtain⟨u,v,e⟩:=st.to;exact⟨_,e,fun v z=>by cases z⟩
  ·rw[z];obtain⟨o,e,c,d⟩:=st.i1;exact⟨o,e,fun v z=>by rw[d]at z;cases z⟩
  ·rw[z];exact st.i2.obj
 keep:=fun i h h' st k=>⟨k _ (by simp) _ st.zz,k _ (by simp) _ st.ti,let⟨u,v,e⟩:=st.to;⟨u,v,k _ (by simp) _ e⟩,st.i1.at fun o e=>k _ (by simp) o e,st.i2.keep fun o e=>k _ (by simp) o e⟩
 item:=by
  intro X R T U l i G s σ H E I hf st W
  subst R T U
  obtain⟨xs,ys,x,y,hq1,hq2,Y,hy⟩:=W
  obtain⟨its,Z,p,hz⟩:=I.tuple hq1
  obtain⟨u,hu,ru⟩:=Z.get Y
  obtain⟨m,T2,r,D2,t,J⟩:=zCK (tp:=true) I l hq2 (jA 1 hb)
  obtain⟨v,hv,aa⟩:=r.get hy
  have D1:=zDT (prog:=X.prog) (w:=X.w) (A:=X.A.in1) (show X.A.in1.handled=none from I.ok.hd l) n a (jA 0 ha) its.toArray
  obtain⟨t0,ab,B⟩:=st.to
  have l1:i<its.toArray.size:=by have:=(ah.mp hu).1;simpa using this
  have l2:i<m.length:=(ah.mp hv).1
  refine zHK D1 D2 (zAx ha hb) st.zz st.ti B ⟨st.i1,p⟩ (t _ st.i2) l1 l2 fun M N h' tk px py a1 a2 a3 a4 a5 a6 O=>?_
  have ac:M=u:=by
   have:its[i]?=some M:=by simpa using px
   rw[hu]at this;exact(aB this).symm
  have al:N=v:=by
   have:m[i]?=some N:=py
   rw[hv]at this;exact(aB this).symm
  subst ac al
  refine⟨_,rfl,lJ a1 fun h2 am j=>?_⟩
  have L:s.heap.get? s.heap.objs.size=none:=by
   cases g:s.heap.get? s.heap.objs.size with
   |none=>rfl
   |some o=>exact absurd (aF g) (bN _)
  have an:n+4<s.heap.objs.size:=aF st.zz
  have ap:eh h2 s.heap.objs.size M N:=(j.2 _ (de an)).trans a5
  have S:=zAx ha hb
  refine⟨.ref s.heap.objs.size,upd H s.heap.objs.size (.tup [x,y]),I.turnedT (fp:=[n+4,n+2,n+3,n,n+1]) (h':=h2) (t':=tk) (fun c o f q=>?_) hf L ⟨by show 2<=sizeLine;decide,[M,N],.cons ru (.cons aa .nil),⟨_,ap,rfl,_,rfl⟩⟩,rfl,
   ⟨_,x,y,rfl,I.hok.free L,rfl,(fun zs C=>by rw[I.tuple_inj C hq1];exact Y),(fun zs C=>by rw[I.tuple_inj C hq2];exact hy)⟩,
   ⟨am,(j.2 _ S.TIz).trans (O _ _ S.TIz S.TITO S.TIi1 S.TIi2 st.ti),⟨_,_,(j.2 _ S.TOz).trans a2⟩,a3.1.at fun o q=>(j.2 n S.i1z).trans q,(J _ _ a4).keep fun o q=>(j.2 (n+1) S.i2z).trans q⟩,fun c f=>?_⟩
  ·have c1:c≠n+4:=fun z=>f (by simp[z])
   have c2:c≠n+3:=fun z=>f (by simp[z])
   have c3:c≠n:=fun z=>f (by simp[z])
   have c4:c≠n+1:=fun z=>f (by simp[z])
   exact(j.2 c c1).trans (O c o c1 c2 c3 c4 q)
  ·rw[zG]
   ·exact(hf c f).1
   ·rintro rfl
    have F:s.heap.objs.size=n+4\/s.heap.objs.size=n+2\/s.heap.objs.size=n+3\/s.heap.objs.size=n\/s.heap.objs.size=n+1:=by simpa using f
    omega
 done:=by
  intro X R T U l i G s σ H E I hf st W
  subst R T U
  obtain⟨xs,ys,hq1,hq2,Y⟩:=W
  obtain⟨its,Z,p,hz⟩:=I.tuple hq1
  obtain⟨m,T2,r,D2,t,J⟩:=zCK (tp:=true) I l hq2 (jA 1 hb)
  have e1:=Z.length
  have e2:=r.length
  have D1:=zDT (prog:=X.prog) (w:=X.w) (A:=X.A.in1) (show X.A.in1.handled=none from I.ok.hd l) n a (jA 0 ha) its.toArray
  obtain⟨t0,ab,B⟩:=st.to
  refine zHL D1 D2 (zAx ha hb) st.zz st.ti B ⟨st.i1,p⟩ (t _ st.i2) (by rw[aP];omega) fun h' tk O=>⟨rfl,I.turnedF (fp:=[n+4,n+2,n+3,n,n+1]) (fun c o f q=>?_) hf⟩
  exact O c o (fun z=>f (by simp[z])) (fun z=>f (by simp[z])) (fun z=>f (by simp[z])) (fun z=>f (by simp[z])) q
 self:=fun A i s Q E st h=>ir st.zz h
section
variable{X:Cx}{elts:List bS}{k:Nat}{tpos:Pos}
noncomputable def zRN (K:ag)(ta:TA):TI:=fun σ H R=>ta σ H fun vs H1=>∃a b xs ys,vs=[.ref a,.ref b]/\z7 K H1 a xs/\z7 K H1 b ys/\R (zEp K a b) H1
theorem zRO {e f:bS}{u:TA}{p pos:Pos}(x:Gl X "zip")(y:X.mg "zip"=none)(ha:PA X [e,f] u)(z:starEach [e,f] X.env=[(false,eval e X.env),(false,eval f X.env)]:=by rfl)(i:starEach [f] X.env=[(false,eval f X.env)]:=by rfl) :
  PI X (.Tuple elts k tpos) (.Call (.Name "zip" p) [e,f] [] pos) (zRN X.K u):=by
 intro g s σ H R I h
 refine Call_ (j2 I x y boot_zip (cQ (zM (ha pos g s σ H _ I h) fun Y d ⟨vs,v,j,A,B⟩=>?_) (by rw[z,i]) (by rw[i];rfl)))
 obtain⟨a,b,xs,ys,rfl,hl,hb,q⟩:=B
 cases A with
 |cons C D=>
 cases D with
 |cons E F=>
 cases F
 cases C
 cases E
 obtain⟨its,Z,G,hz⟩:=j.tuple hl
 have fresh:∀(h':bF),(∀c o,d.heap.get? c=some o->h'.get? c=some o)->∀c∈[d.heap.objs.size+4,d.heap.objs.size+2,d.heap.objs.size+3,d.heap.objs.size,d.heap.objs.size+1],qI X g v c:=fun h' r c J=>by
  have l:d.heap.objs.size<=c:=by
   have:c=d.heap.objs.size+4\/c=d.heap.objs.size+2\/c=d.heap.objs.size+3\/c=d.heap.objs.size\/c=d.heap.objs.size+1:=by simpa using J
   omega
  exact j.fpOk l (j.hok.fresh l)
 have m:d.heap.IsTuple a its.toArray:=G
 have L:a<d.heap.objs.size:=let⟨o,e,_⟩:=m;aF e
 obtain⟨t,M,N,O⟩:=j.tuple hb
 have n:d.heap.IsTuple b t.toArray:=N
 have P:b<d.heap.objs.size:=let⟨o,e,_⟩:=n;aF e
 refine zRL m n fun h' w Q T U W r=>?_
 exact ir w ⟨_,[d.heap.objs.size+4,d.heap.objs.size+2,d.heap.objs.size+3,d.heap.objs.size,d.heap.objs.size+1],_,_,v,rfl,j.kept (t':=d.toks) r,zRM L P,⟨w,Q,⟨_,_,T⟩,U,W⟩,fresh h' r,q⟩
end
section
variable{prog:aJ}{w:bh}{A:bX}{E:aj->au->Prop}{s:au}
theorem zRP {t b:ak}{items:Array aj}{f g:aj}{lo hi:Option Int}{Q:aj->au->Prop}(a:qk s.heap t items)(i:s.heap.IsSliceOf b f g .none)(pl:mK f lo)(l:mK g hi)
  (j:HT.sIx items.size 0 lo=0/\HT.sIx items.size items.size hi=items.size)
  (h:Q (.ref t) s)
  (hsz:items.size<=sizeLine):wpAny (model prog w) A (getItem (.ref t) (.ref b)) Q E s:=by
 obtain⟨os,c,d,m⟩:=id i
 have e:s.TypeIs (.ref b) "slice" :=⟨os,c,d⟩
 unfold getItem
 try with_reducible refine dX ?_
 first|refine af (az ?_)|skip
 refine af (oJ a.typeIs (by decide) ?_)
 refine af (b0 (name:=dH "__getitem__") a.typeIs cU
  (cp cU a.typeIs nS ?_ (oo _ _)))
 show wpAny _ _ (lq (.ref t)>>=_) _ _ s
 refine af (sg a ?_)
 refine af (ik e ?_)
 rw[if_pos (by decide)]
 refine af (HT.sliceApplied_gen i pl l ?_)
 rw[j.1,j.2]
 show wpAny _ _ (if(((0:Nat):Int)==0&& (1:Int)==1&& (items.size-0)==items.size)=true then _ else _) _ _ s
 rw[if_pos (by simp)]
 unfold rq
 refine af (af (ik a.typeIs (az ?_)))
 rw[if_pos (by decide)]
 exact af (fZ (az ⟨_,rfl,az h⟩))
end
section
variable{X:Cx}
noncomputable def zRQ (K:ag):V->Option Int->Option Int->Hp->VK->Prop:=fun x lo hi H Q=>∃a xs,x=.ref a/\z7 K H a xs/\(HT.sIx xs.length 0 lo=0/\HT.sIx xs.length xs.length hi=xs.length)/\Q (.ref a) H
theorem zRR:SlR X (zRQ X.K):=by
 intro c s σ H x v l m lo hi n Q I e f pl g h
 obtain⟨a,xs,rfl,i,j,q⟩:=h
 cases e
 obtain⟨its,r,d,hz⟩:=I.tuple i
 have b:its.toArray.size=xs.length:=by rw[aP];exact r.length.symm
 refine⟨"tuple",_,cU.lookup,d.typeIs,?_⟩
 exact zRP d f pl g (by rw[b];exact j) ⟨.ref a,H,I,rfl,q⟩ (by rw[b];exact hz)
theorem zAF:yO X (binaryOp .Add) (fun x y H Q=>∃a b xs ys,x=.ref a/\y=.ref b/\H a=some (.tup xs)/\H b=some (.tup ys)/\xs.length+ys.length<=sizeLine/\∀p d,zB H d->d p=some (.tup (xs++ys))->Q (.ref p) d):=by
 intro c s σ H x y v u Q I e f h
 obtain⟨a,b,xs,ys,rfl,rfl,ha,hb,hz,q⟩:=h
 by_cases g:xs=[]
 ·subst g
  exact zHG c s σ H _ _ v u Q I e f ⟨a,b,ys,rfl,rfl,.of ha,.of hb,q b H (zB.refl H) hb⟩
 ·refine zGL c s σ H _ _ v u Q I e f ⟨a,b,xs,ys,rfl,rfl,.of ha,.of hb,g,hz,fun i=>q a H (zB.refl H) (by rw[i,fm];exact ha),fun _ p j=>q p _ (zB.upd1 j) zE⟩
theorem zRS {xs:List V}{lo hi:Option Int}(h:HT.sIx xs.length 0 lo=0/\HT.sIx xs.length xs.length hi=xs.length):uB xs lo hi=xs:=by
 unfold uB
 rw[h.1,h.2,eK,kj,bo]
theorem zAG:SlR X (fun x lo hi H Q=>∃a xs,x=.ref a/\H a=some (.tup xs)/\∀p c,zB H c->c p=some (.tup (uB xs lo hi))->Q (.ref p) c):=by
 intro b s σ H x v e f lo hi g Q I i j pl l h
 obtain⟨a,xs,rfl,ha,q⟩:=h
 by_cases d:HT.sIx xs.length 0 lo=0/\HT.sIx xs.length xs.length hi=xs.length
 ·exact zRR b s σ H _ v e f lo hi g Q I i j pl l ⟨a,xs,rfl,.of ha,d,q a H (zB.refl H) (by rw[zRS d];exact ha)⟩
 ·exact zMB b s σ H _ v e f lo hi g Q I i j pl l ⟨a,xs,rfl,.of ha,d,fun p m=>q p _ (zB.upd1 m) zE⟩
end
end L2
end
section
namespace Kn
open PySem L2
noncomputable def jZ (l:List S):Bool:=(l.zip (l.drop 1)).all fun p=>decide (p.1<p.2)
section
variable{P:aJ}{w:bh}{K:ag}{mg:Str->Option aj}{base:bF}
structure CstW (mg:Str->Option aj):Prop where
 least:∃t,mg "LEAST"=some (.int 0 t)
 most:∃t,mg "MOST"=some (.int 1 t)
 head:∃t,mg "HEAD"=some (.int 2 t)
 tail:∃t,mg "TAIL"=some (.int 3 t)
 barred:∃t,mg "BARRED"=some (.int 4 t)
 told:∃t,mg "TOLD"=some (.int 5 t)
 parts:∃t,mg "MANY_PARTS"=some (.int 6 t)
 edge:∃t,mg "MOST_EDGE"=some (.int 3 t)
 mb:∃t,mg "MOST_BARRED"=some (.int 6 t)
noncomputable def zJZ:Sp:=fun vs H Q _=>∃(a:ak) (l:List S),vs=[.ref a]/\H a=some (.tup (zP l))/\l.length<=100/\∀H',zB H H'->Q (.bl (jZ l)) H'
noncomputable abbrev zEq:cJ:=top 16
theorem zRT:FnScope ["things"] ["things"] (defScope zEq):=yE
theorem zJa:(["one","other"]:List Str).Nodup:=by decide+kernel
theorem zRU (l:List S):uB (zP l) (some 1) none=zP (l.drop 1):=by
 unfold uB
 have e:HT.sIx (zP l).length 0 (some 1)=min 1 (zP l).length:=HT.sIx_nat _ _ 1
 have a:HT.sIx (zP l).length (zP l).length none=(zP l).length:=rfl
 rw[e,a]
 unfold zP
 rw[List.map_drop,ai]
 cases l with
 |nil=>rfl
 |cons x l=>
  rw[aM,Nat.min_eq_left (by omega)]
  rw[eu (by rw[bV,ai,aM];omega)]
theorem zCl {l:List S}{i:Nat}{v:V}(h:(zP l)[i]?=some v):∃x,l[i]?=some x/\v=sv x:=by
 unfold zP at h
 rw[ar]at h
 cases e:l[i]? with
 |none=>rw[e]at h;cases h
 |some x=>rw[e]at h;exact⟨x,rfl,(aB h).symm⟩
theorem zRV {f:ak}{fd:bc}(F:Fun K "is_rising" "is_rising" zEq f fd)(B:Blt mg)(hz:mg "zip"=none):FnOk P w K mg base z0 1 f fd ["things"] zJZ:=by
 refine F.ok zRT (fun vs H Q E h=>?_) (fun L A outer s H vs Q E hr h=>?_)
 ·obtain⟨a,l,rfl,_⟩:=h;rfl
 ·obtain⟨a,l,rfl,ha,u,k⟩:=h
  refine⟨_,zL (z5 (yS (zBc rfl) (by rfl) B.all fg (zC (qD (N:=["one","other"]) (caps:=[]) rfl (uS (by kernel_rfl)) (zRO rfl hz (zC (pv 0) (zC (gH zAG (pv 0) (jL zQ) j3) zD)))
    (fun v C s H ex=>zAD K 2 rfl rfl (yW (yB (i:=0) zJa rfl (Or.inl rfl)) (yW (yB (i:=1) zJa rfl (Or.inl rfl)) qA)) rfl rfl)
    (fun v C s H ex=>qM)
    (fun v C s H ex=>jK zLg (pv 0) (pv 1) (vN _))) zD))),?_⟩
  refine⟨_,rfl,_,rfl,_,rfl,a,_,rfl,ha,fun b M o j=>?_⟩
  rw[zRU]at j
  have m:=o _ _ ha
  refine⟨a,b,_,_,rfl,.of m,.of j,?_⟩
  have dl:(l.drop 1).length=l.length-1:=by rw[bV]
  have bl:∀l:List S,(zP l).length=l.length:=fun l=>by unfold zP;rw[ai]
  refine zHO (J:=zEp K a b) (xs:=zP l) (ys:=zP (l.drop 1)) (len:=(l.drop 1).length) (Hk:=fun c=>z7 K c a (zP l)/\z7 K c b (zP (l.drop 1)))
   (fun i c g hi=>⟨zP l,zP (l.drop 1),(zP l)[i]'(by rw[bl];omega),(zP (l.drop 1))[i]'(by rw[bl];exact hi),g.1,g.2,av _,av _⟩)
   (fun i c g e=>⟨zP l,zP (l.drop 1),g.1,g.2,by rw[bl,bl];omega⟩)
   (fun i c x O g ⟨T,R,U,e1,q,r,W,X⟩=>⟨T,R,U,e1,q,r,W _ g.1,X _ g.2⟩)
   [] 2 (by omega) (fun i d c=>zB M c/\d=(((l.zip (l.drop 1)).take i).map fun p=>decide (p.1<p.2)).map V.bl)
   ⟨zB.refl _,rfl⟩ (fun i d c hi h=>⟨⟨.of (h.1 _ _ m),.of (h.1 _ _ j)⟩,by rw[h.2,ai,ai,aZ];omega⟩) ?_ ?_
  ·rintro i x y T d c zs Nx Y Z hy t ⟨n,rfl⟩ hT
   obtain⟨z1,z2,rfl⟩:=ys2 t
   obtain⟨z,e1,rfl⟩:=zCl Z
   obtain⟨G,q,rfl⟩:=zCl hy
   have t2:zB c (upd c T (.tup [sv z,sv G])):=zB.upd1 hT
   refine⟨T,_,rfl,.of zE,rfl,_,_,rfl,_,_,rfl,rfl,?_⟩
   unfold kP
   dsimp only
   rw[if_pos rfl]
   refine⟨_,rfl,_,rfl,_,_,rfl,rfl,Y _ _ [_,_] rfl ⟨n.trans t2,?_⟩⟩
   have I:(l.zip (l.drop 1))[i]?=some (z,G):=by
    rw[iw];exact⟨e1,q⟩
   rw[aA (ah.mp I).1,(ah.mp I).2,aQ,aQ]
   rfl
  ·rintro d c ⟨n,rfl⟩ D hD
   have e:(l.zip (l.drop 1)).take (l.drop 1).length=l.zip (l.drop 1):=eu (by rw[kc];omega)
   rw[e]
   refine⟨D,(l.zip (l.drop 1)).map fun p=>decide (p.1<p.2),rfl,.of zE,?_⟩
   have r:((l.zip (l.drop 1)).map fun p=>decide (p.1<p.2)).all id=jZ l:=by unfold jZ;rw[mU];rfl
   rw[r]
   exact k _ ((o.trans n).upd_new ((o.trans n).free hD))
noncomputable abbrev zEr:cJ:=top 59
theorem zRW:FnScope ["thing"] ["thing"] (defScope zEr):=yE
noncomputable abbrev zEs:cJ:=top 60
theorem zRX:FnScope ["thing"] ["thing"] (defScope zEs):=yE
theorem zRY:(["name"]:List Str).Nodup:=by decide+kernel
noncomputable abbrev zEt:cJ:=top 61
theorem zRZ:FnScope ["thing"] ["thing"] (defScope zEt):=yE
end
structure GW (lo hi:Int) (hd tl:S) (ba:List S):Prop where
 glo:1<=lo
 gle:lo<=hi
 ghi:hi<=8
 ghd:hd=[]\/(y9 hd/\hd.length<=3)
 gtl:tl=[]\/(y9 tl/\tl.length<=3)
 len:ba.length<=6
 nm:∀x∈ba,y9 x
 ris:jZ ba=true
noncomputable def uD (H:Hp)(a:ak)(lo hi:Int)(hd tl:S)(ba:List S)(to:Bool):Prop:=∃b,H a=some (.tup [.int lo,.int hi,sv hd,sv tl,.ref b,.bl to])/\H b=some (.tup (zP ba))
theorem uD.same {H c:Hp}{a:ak}{lo hi:Int}{hd tl:S}{ba:List S}{to:Bool}(h:uD H a lo hi hd tl ba to)(e:zB H c):uD c a lo hi hd tl ba to :=
 let⟨b,d,f⟩:=h;⟨b,e _ _ d,e _ _ f⟩
noncomputable def jF (lo hi:Int)(hd tl x:S):Bool:=(decide (lo<=(x.length:Int))&&decide ((x.length:Int)<=hi))&& (i9 (tx x) (tx hd)&&kl (tx x) (tx tl))
noncomputable def jS (bk ba:List S)(to:Bool)(x:S):Bool:=decide (x∈ba)||(!to&&decide (x∈bk))
noncomputable def vG (bk:List S)(lo hi:Int)(hd tl:S)(ba:List S)(to:Bool)(x:S):Bool:=jF lo hi hd tl x&&!jS bk ba to x
theorem zRa {X:Cx}:MtR X "str.startswith" (fun x vs H Q=>∃a b:Str,x=.str a/\vs=[.str b]/\Q (.bl (i9 a b)) H):=by
 intro c s σ H x vs v g Q I d e h
 obtain⟨a,b,rfl,rfl,q⟩:=h
 obtain⟨t,rfl⟩:=d
 obtain⟨u,rfl,f⟩:=qC e
 obtain⟨t',rfl⟩:=f
 exact SC.startswith ⟨.bl _,H,I,rfl,q⟩
theorem zRb (x:S)(l:List S):qZ (sv x) (zP l)=decide (x∈l):=by
 unfold qZ zP
 rw[tI]
 induction l with
 |nil=>simp
 |cons y l ih=>
  rw[fF,ih]
  have e:jU (sv y) (sv x)=decide (x=y):=by
   show((tx y)==(tx x))=_
   by_cases z:x=y
   ·subst z;simp
   ·rw[decide_eq_false z,beq_eq_false_iff_ne]
    exact fun q=>z (j9 q).symm
  show(jU (sv y) (sv x)||_)=_
  rw[e]
  by_cases z:x=y
  ·subst z;simp
  ·simp[z]
theorem zRc (l:List S):(zP l).all kN=true:=by
 unfold zP
 rw[mU]
 exact iq.mpr fun _ _=>rfl
section
variable{P:aJ}{w:bh}{K:ag}{mg:Str->Option aj}{base:bF}
noncomputable abbrev zEu:cJ:=top 62
theorem zRd:FnScope ["thing"] ["thing"] (defScope zEu):=yE
noncomputable def zEv:Sp:=fun vs H Q _=>∃(a:ak) (lo hi:Int) (hd tl:S) (ba:List S) (to:Bool) (x:S),vs=[.ref a,sv x]/\uD H a lo hi hd tl ba to/\x.length<=900/\Q (.bl (jF lo hi hd tl x)) H
noncomputable abbrev zEw:cJ:=top 63
theorem zRe:FnScope ["wish","name"] ["wish","name"] (defScope zEw):=yE
theorem zRf {f:ak}{fd:bc}(F:Fun K "has_form" "has_form" zEw f fd)(B:Blt mg)(W:CstW mg):FnOk P w K mg base z0 1 f fd ["wish","name"] zEv:=by
 obtain⟨m,d⟩:=W.least
 obtain⟨u1,g⟩:=W.most
 obtain⟨n,i⟩:=W.head
 obtain⟨o,j⟩:=W.tail
 refine F.ok zRe (fun vs H Q E h=>?_) (fun l A outer s H vs Q E p h=>?_)
 ·obtain⟨a,lo,hi,hd,tl,ba,to,x,rfl,_⟩:=h;rfl
 ·obtain⟨a,lo,hi,hd,tl,ba,to,x,rfl,⟨b,ha,hb⟩,q,k⟩:=h
  refine⟨_,zR (y0 (uI (zDD gG gG (yA yH (pv 0) (yR (v:=.int 0) (by rfl) d ⟨_,rfl⟩) (fun _ _=>rfl)) (yS kO (by rfl) B.len cw (zC (pv 1) zD)) (yA yH (pv 0) (yR (v:=.int 1) (by rfl) g ⟨_,rfl⟩) (fun _ _=>rfl))))
    (zL (z5 jJ)) yZ)
   (zL (z5 (zAO (jM iZ PySem.F.slot_str_startswith PySem.F.type_str_startswith zRa (pv 1) (zC (yA yH (pv 0) (yR (v:=.int 2) (by rfl) i ⟨_,rfl⟩) (fun _ _=>rfl)) zD))
    (gD (jM iZ PySem.F.slot_str_endswith PySem.F.type_str_endswith zNN (pv 1) (zC (yA yH (pv 0) (yR (v:=.int 3) (by rfl) j ⟨_,rfl⟩) (fun _ _=>rfl)) zD)))))),?_⟩
  refine⟨_,rfl,a,_,0,.int lo,rfl,rfl,.of ha,rfl,_,rfl,tx x,rfl,by rw[yF,aI];omega,_,_,rfl,rfl,_,rfl,?_⟩
  by_cases hl:lo<=(x.length:Int)
  ·refine zAA (by rw[yF];exact hl) ⟨_,rfl,a,_,1,.int hi,rfl,rfl,.of ha,rfl,_,_,rfl,rfl,_,rfl,?_⟩
   by_cases c:(x.length:Int)<=hi
   ·refine gK (by rw[yF];exact c) ?_
    refine⟨_,rfl,rfl,_,rfl,a,_,2,sv hd,rfl,rfl,.of ha,rfl,_,_,rfl,rfl,_,rfl,?_⟩
    cases e1:i9 (tx x) (tx hd)with
    |false=>
     have e:jF lo hi hd tl x=false:=by simp only[jF,e1,fL,nC]
     rw[e]at k
     exact vA k
    |true=>
     refine uQ ⟨_,rfl,rfl,_,rfl,a,_,3,sv tl,rfl,rfl,.of ha,rfl,_,_,rfl,rfl,?_⟩
     have e:jF lo hi hd tl x=kl (tx x) (tx tl):=by simp only[jF,e1,decide_eq_true hl,decide_eq_true c,oa]
     rw[e]at k
     exact k
   ·have e:jF lo hi hd tl x=false:=by simp only[jF,decide_eq_false c,fL,nC]
    rw[e]at k
    exact zEF (by rw[yF];exact c) k
  ·have e:jF lo hi hd tl x=false:=by simp only[jF,decide_eq_false hl,fL]
   rw[e]at k
   exact zAX (by rw[yF];exact hl) ⟨_,rfl,uQ k⟩
noncomputable def zEx:Sp:=fun vs H Q _=>∃(c a:ak) (bk:List S) (lo hi:Int) (hd tl:S) (ba:List S) (to:Bool),vs=[.ref c,.ref a]/\H c=some (.tup (zP bk))/\bk.length<=8/\uD H a lo hi hd tl ba to/\ba.length<=6/\
 ∀(l:ak) (out:List S) (H':Hp),zB H H'->H' l=some (.lst (zP out))->(∀x,decide (x∈out)=jS bk ba to x)->Q (.ref l) H'
noncomputable abbrev zEy:cJ:=top 64
theorem zRg:FnScope ["book","wish"] ["book","wish"] (defScope zEy):=yE
theorem zRh (l:List S):zP l=(l.map tx).map V.str:=by
 unfold zP
 rw[aV];rfl
noncomputable abbrev zEz:cJ:=top 65
theorem zRi:FnScope ["book","wish","name"] ["book","wish","name"] (defScope zEz):=yE
end
end Kn
end
section
namespace L2
open PySem PySem.Spec PyProof.Rows
section
variable{X:Cx}
noncomputable def zRj:List V->Hp->VK->Prop:=fun xs H Q=>∃z:Str,xs=[.str z]/\z.cps.size<=1000/\∀l:ak,H l=none->Q (.ref l) (upd H l (.lst (z.cps.toList.map fun c=>V.str ⟨#[c]⟩)))
theorem zJb (m:X.calm=true):qJ X (.type "list") zRj:=by
 intro g s σ H xs B Q I n h
 obtain⟨z,rfl,hz,q⟩:=h
 obtain⟨u,rfl,t,rfl⟩:=qC n
 have C:(1000:Nat)<=sizeLine:=by rw[aI];decide
 refine call_list_str (I.ok.hd m) z t (fun h' tk b r w x d=>?_) (by omega)
 have f:b.toList.length=z.cps.toList.length:=by rw[br,br];exact d.1
 have hv:zU (z.cps.toList.map fun c=>V.str ⟨#[c]⟩) b.toList:=by
  have go:∀(l:List Nat) (a:List aj),a.length=l.length->(∀(i:Nat) (v:aj),a[i]?=some v->∃p,l[i]?=some p/\∃t,v=Value.str ⟨#[p]⟩ t)->zU (l.map fun c=>V.str ⟨#[c]⟩) a:=by
   intro l
   induction l with
   |nil=>intro a ha _;rw[c7.mp ha];exact .nil
   |cons p l ih=>
    intro a ha j
    cases a with
    |nil=>cases ha
    |cons v a=>
     obtain⟨D,e,t,ev⟩:=j 0 v rfl
     cases e
     exact .cons ⟨t,ev⟩ (ih a (by simpa using ha) fun i u y=>by simpa using j (i+1) u (by simpa using y))
  refine go z.cps.toList b.toList f fun i v e=>?_
  obtain⟨c,u,e1,A⟩:=d.2 i v (by rw[<-eA];exact e)
  exact⟨c,by rw[eA];exact e1,u,A⟩
 refine⟨.ref s.heap.objs.size,_,I.laid (t':=tk) (o:=.lst (z.cps.toList.map fun c=>V.str ⟨#[c]⟩)) w (aC _) ⟨by rw[ai,br];omega,b.toList,r,hv,?_⟩,rfl,q _ (I.hok.fresh (aC _))⟩
 rw[nM];exact x
end
end L2
end
section
namespace Kn.Ln
open PySem L2 Kn
noncomputable def vM (hd:S)(n:Nat):List S:=hd.map (fun c=>[c])++aH (n-hd.length) []
noncomputable def vK (tl:S)(n:Nat):List S:=aH (n-tl.length) []++tl.map fun c=>[c]
noncomputable def uZ (x y:S):Bool:=decide (x=y)||(decide (x=[])||decide (y=[]))
noncomputable def kH (x y:S):S:=if x=[]then y else x
noncomputable def jG (hd tl:S)(n:Nat):List (List S):=if n<max hd.length tl.length then []else if((vM hd n).zip (vK tl n)).all (fun p=>uZ p.1 p.2)=true then [((vM hd n).zip (vK tl n)).map fun p=>kH p.1 p.2]else []
noncomputable def yJ (lo hi:Nat)(hd tl:S):List (List S):=(bA (hi+1-lo)).flatMap fun i=>jG hd tl (lo+i)
theorem zCm {hd:S}{n:Nat}(h:hd.length<=n):(vM hd n).length=n:=by
 unfold vM;rw[ay,ai,cV];omega
theorem zFA {tl:S}{n:Nat}(h:tl.length<=n):(vK tl n).length=n:=by
 unfold vK;rw[ay,ai,cV];omega
theorem zFB:∀(k:Nat) (t:S),yN (aH k []) t=true↔t.length=k
 |0,[]=>by simp[yN]
 |0,c::t=>by simp[yN]
 |k+1,[]=>by simp[cz,yN]
 |k+1,c::t=>by
  rw[cz]
  unfold yN
  rw[bj,zFB k t,aM]
  simp
theorem zJc:∀(hd:S) (k:Nat) (t:S),yN (hd.map (fun c=>[c])++aH k []) t=true↔t.length=hd.length+k/\t.take hd.length=hd
 | [],k,t=>by
  rw[kh,iF,zFB];simp
 |c::hd,k,[]=>by
  rw[aD,d8]
  simp[yN]
 |c::hd,k,d::t=>by
  rw[aD,d8]
  unfold yN
  rw[bj,zJc hd k t,aM,aM,List.take_succ_cons]
  simp
  constructor
  ·rintro⟨e,b,a⟩;exact⟨by omega,e.symm,a⟩
  ·rintro⟨b,e,a⟩;exact⟨e.symm,by omega,a⟩
theorem zJd:∀(tl t:S),yN (tl.map fun c=>[c]) t=true↔t=tl
 | [],[]=>by simp[yN]
 | [],c::t=>by simp[yN]
 |c::tl,[]=>by simp[yN]
 |c::tl,d::t=>by
  rw[aD]
  unfold yN
  rw[bj,zJd tl t]
  simp
  exact fun _=>eq_comm
theorem zJe:∀(k:Nat) (tl t:S),yN (aH k []++tl.map fun c=>[c]) t=true↔t.length=k+tl.length/\t.drop k=tl
 |0,tl,t=>by
  rw[List.replicate_zero,iF,zJd,eK]
  constructor
  ·rintro rfl;exact⟨by omega,rfl⟩
  ·exact fun h=>h.2
 |k+1,tl,[]=>by
  rw[cz,d8]
  simp[yN];omega
 |k+1,tl,d::t=>by
  rw[cz,d8]
  unfold yN
  rw[bj,zJe k tl t,aM,List.drop_succ_cons]
  simp
  exact fun _=>by omega
theorem zRk (w v:S)(c:Nat):((w=[]\/w=[c])/\(v=[]\/v=[c]))↔uZ w v=true/\(kH w v=[]\/kH w v=[c]):=by
 unfold uZ kH
 by_cases h:w=[]
 ·subst h;simp
 ·rw[if_neg h]
  simp only[h,false_or,decide_false,lY,iH,decide_eq_true_eq]
  constructor
  ·rintro⟨rfl,rfl|rfl⟩
   ·exact⟨.inr rfl,rfl⟩
   ·exact⟨.inl rfl,rfl⟩
  ·rintro⟨rfl|rfl,e⟩
   ·exact⟨e,.inr e⟩
   ·exact⟨e,.inl rfl⟩
theorem zJf:∀(a b:List S) (t:S),a.length=b.length->((yN a t=true/\yN b t=true)↔((a.zip b).all (fun p=>uZ p.1 p.2)=true/\yN ((a.zip b).map fun p=>kH p.1 p.2) t=true))
 | [],[],t,_=>by simp
 | [],_::_,t,h=>by cases h
 |_::_,[],t,h=>by cases h
 |w::a,v::b,[],h=>by simp[yN]
 |w::a,v::b,c::t,h=>by
  have ih:=zJf a b t (by simpa using h)
  have g:=zRk w v c
  rw[List.zip_cons_cons,aD,n6]
  unfold yN
  simp only[bj,iH,decide_eq_true_eq]
  constructor
  ·rintro⟨⟨d,e⟩,f,i⟩
   obtain⟨g1,g2⟩:=g.mp ⟨d,f⟩
   obtain⟨i1,i2⟩:=ih.mp ⟨e,i⟩
   exact⟨⟨g1,i1⟩,g2,i2⟩
  ·rintro⟨⟨g1,i1⟩,g2,i2⟩
   obtain⟨d,f⟩:=g.mpr ⟨g1,g2⟩
   obtain⟨e,i⟩:=ih.mpr ⟨i1,i2⟩
   exact⟨⟨d,e⟩,f,i⟩
noncomputable def zAH (lo hi:Nat)(hd tl t:S):Prop:=lo<=t.length/\t.length<=hi/\t.take hd.length=hd/\zI t tl.length=tl
theorem zJg {t h:S}(e:t.take h.length=h):h.length<=t.length:=by
 have:=congrArg fU e
 rw[aZ]at this;omega
theorem zJh {t l:S}(e:zI t l.length=l):l.length<=t.length:=by
 have:=congrArg fU e
 unfold zI at this
 rw[bV]at this;omega
theorem zFC {hd tl:S}{n:Nat}{p:List S}(h:p∈jG hd tl n):p.length=n:=by
 unfold jG at h
 split at h
 ·cases h
 ·rename_i a
  split at h
  ·rw[aS.mp h,ai,kc,zCm (by omega),zFA (by omega)];omega
  ·cases h
theorem zJi {hd tl:S}{n:Nat}{t:S}:(∃p∈jG hd tl n,yN p t=true)↔t.length=n/\t.take hd.length=hd/\zI t tl.length=tl:=by
 unfold jG
 by_cases f:n<max hd.length tl.length
 ·rw[if_pos f]
  constructor
  ·rintro⟨p,c,_⟩;cases c
  ·rintro⟨a,b,e⟩
   have:=zJg b
   have:=zJh e
   omega
 ·rw[if_neg f]
  have g:hd.length<=n:=by omega
  have h:tl.length<=n:=by omega
  have e1:=zJc hd (n-hd.length) t
  have i:=zJe (n-tl.length) tl t
  have key:=zJf (vM hd n) (vK tl n) t (by rw[zCm g,zFA h])
  have f1:yN (vM hd n) t=true↔t.length=n/\t.take hd.length=hd:=by
   unfold vM;rw[e1,show hd.length+(n-hd.length)=n by omega]
  have f2:yN (vK tl n) t=true↔t.length=n/\zI t tl.length=tl:=by
   unfold vK
   rw[i,show n-tl.length+tl.length=n by omega]
   unfold zI
   constructor
   ·rintro⟨a,b⟩;exact⟨a,by rw[a];exact b⟩
   ·rintro⟨a,b⟩;exact⟨a,by rw[a]at b;exact b⟩
  constructor
  ·rintro⟨p,c,hf⟩
   split at c
   ·rename_i d
    rw[aS.mp c]at hf
    obtain⟨a,b⟩:=key.mpr ⟨d,hf⟩
    exact⟨(f1.mp a).1,(f1.mp a).2,(f2.mp b).2⟩
   ·cases c
  ·rintro⟨a,b,e⟩
   obtain⟨j,l⟩:=key.mp ⟨f1.mpr ⟨a,b⟩,f2.mpr ⟨a,e⟩⟩
   rw[if_pos j]
   exact⟨_,c6 _,l⟩
theorem zRl {lo hi:Nat}{hd tl t:S}:(∃p∈yJ lo hi hd tl,yN p t=true)↔zAH lo hi hd tl t:=by
 unfold yJ zAH
 constructor
 ·rintro⟨p,a,hf⟩
  obtain⟨i,b,a⟩:=aU.mp a
  have b:=bK.mp b
  obtain⟨e,d,c⟩:=zJi.mp ⟨p,a,hf⟩
  exact⟨by omega,by omega,d,c⟩
 ·rintro⟨e,d,c,f⟩
  obtain⟨p,a,hf⟩:=zJi.mpr ⟨rfl,c,f⟩
  exact⟨p,aU.mpr ⟨t.length-lo,bK.mpr (by omega),by rw[show lo+(t.length-lo)=t.length by omega];exact a⟩,hf⟩
theorem zCn {lo hi:Nat}{hd tl:S}{p:List S}(h:p∈yJ lo hi hd tl):lo<=p.length/\p.length<=hi:=by
 obtain⟨i,a,b⟩:=aU.mp h
 have a:=bK.mp a
 have:=zFC b
 omega
theorem zCo (hd tl:S)(n:Nat):(jG hd tl n).length<=1:=by
 unfold jG
 split
 ·simp
 ·split<;>simp
theorem zFD (lo hi:Nat)(hd tl:S):(yJ lo hi hd tl).Pairwise fun p q=>p.length≠q.length:=by
 unfold yJ
 rw[dS]
 refine⟨fun i _=>?_,?_⟩
 ·have:=zCo hd tl (lo+i)
  match jG hd tl (lo+i),this with
  | [],_=>simp
  | [p],_=>simp
 ·refine(mx).imp fun{i j} a p b q c e=>?_
  rw[zFC b,zFC c]at e
  omega
theorem zFE (lo hi:Nat)(hd tl:S):(yJ lo hi hd tl).length<=hi+1-lo:=by
 unfold yJ
 have h:=zBP (fun i=>jG hd tl (lo+i)) 1 (bA (hi+1-lo)) fun i _=>zCo _ _ _
 rw[bU]at h
 omega
noncomputable def zCp (H0 H:Hp)(l:ak)(pats:List (List S)):Prop:=∃as:List ak,H l=some (.lst (as.map V.ref))/\as.length=pats.length/\(∀a∈as,H0 a=none/\a≠l)/\∀(i:Nat) (a:ak) (p:List S),as[i]?=some a->pats[i]?=some p->H a=some (.lst (p.map sv))
theorem zJj (x:S):(tx x).cps.toList.map (fun c=>V.str ⟨#[c]⟩)=(x.map fun c=>[c]).map sv:=by
 rw[uN,aV];rfl
theorem zJk (n:Nat):(aH n [V.str ""]).flatten=(aH n ([]:S)).map sv:=by
 induction n with
 |zero=>rfl
 |succ n ih=>rw[cz,fA,ih,cz,aD];rfl
section
variable{P:aJ}{w:bh}{K:ag}{mg:Str->Option aj}{base:bF}
noncomputable abbrev zFF:cJ:=top 66
theorem zRm:FnScope ["one","other"] ["one","other"] (defScope zFF):=yE
noncomputable def zJl:Sp:=fun vs H Q _=>∃(x y:S),vs=[sv x,sv y]/\∀H',zB H H'->Q (.bl (uZ x y)) H'
theorem zRn {f:ak}{fd:bc}(F:Fun K "go_together" "go_together" zFF f fd)(a:∃t,mg "ANY"=some (.str "" t)):FnOk P w K mg base z0 1 f fd ["one","other"] zJl:=by
 obtain⟨u,a⟩:=a
 refine F.ok zRm (fun vs H Q E h=>?_) (fun j A outer s H vs Q E m h=>?_)
 ·obtain⟨x,v,rfl,_⟩:=h;rfl
 ·obtain⟨x,y,rfl,k⟩:=h
  refine⟨_,zL (z5 (zFk (jK zAo (pv 0) (pv 1) (vN _)) (gD (jK zGO (yR (v:=.str "") (by rfl) a ⟨_,rfl⟩) (uA (zC (pv 0) (zC (pv 1) zD))) (by with_unfolding_all rfl))))),?_⟩
  refine⟨_,rfl,_,rfl,rfl,_,rfl,?_⟩
  by_cases hl:x=y
  ·subst hl
   have e:uZ x x=true:=by unfold uZ;simp
   have:=k H (zB.refl H)
   rw[e]at this
   exact zAA rfl this
  ·have b:¬V.str (tx x)=V.str (tx y):=fun z=>hl (j9 (V.str.inj z))
   refine zAX b ⟨_,rfl,_,rfl,by show 2<=sizeLine;decide,fun p l=>⟨p,zP [x,y],rfl,.inr (.of zE),rfl,zEO _,?_⟩⟩
   have e:(if false=true then !qZ (sv []) (zP [x,y])else qZ (sv []) (zP [x,y]))=uZ x y:=by
    rw[if_neg (by simp),zEN]
    unfold uZ
    rw[decide_eq_false hl,lY]
    by_cases c:x=[]
    ·subst c;simp
    ·by_cases d:y=[]
     ·subst d;simp
     ·have g:¬ []=x:=fun z=>c z.symm
      have i:¬ []=y:=fun z=>d z.symm
      simp[c,d,g,i]
   show Q (.bl (if false=true then !qZ (sv []) (zP [x,y])else qZ (sv []) (zP [x,y]))) _
   rw[e]
   exact k _ (zB.upd1 l)
end
theorem zCq {l:List S}{i:Nat}{x:V}(h:(l.map sv)[i]?=some x):∃y,l[i]?=some y/\x=sv y:=by
 rw[ar]at h
 cases e:l[i]? with
 |none=>rw[e]at h;cases h
 |some y=>rw[e]at h;exact⟨y,rfl,(aB h).symm⟩
section
variable{P:aJ}{w:bh}{K:ag}{mg:Str->Option aj}{base:bF}
theorem zJm {a b:ak}{xs ys:List S}(hl:xs.length=ys.length)(G:xs.length<900){caps:List Nat}{n:Nat}{σ:St}{g:TG}{I:TT}{L:TE}{F:List V->Hp->Prop}{o:Hp}(ha:o a=some (.lst (xs.map sv)))(hb:o b=some (.lst (ys.map sv)))(cv:St)(k:Nat)(r:S×S->V)
  (p:∀(x y:S) (T:ak) (H:Hp) (l:St) (c:List V) (q:List V->St->Hp->Prop),(∀d l,l.length=k->zB H d->q (c++[r (x,y)]) (cv++l) d)->l.length=k->zB o H->H T=none->
   g (.ref T) (cv++l) (upd H T (.tup [sv x,sv y])) fun f v=>I f v fun b s=>if b=true then L f s fun y z=>q (c++[y]) f z else q c f s)
  (fin:∀H,zB o H->F ((xs.zip ys).map r) H) (A:uR caps n σ=cv++aH k none:=by rfl) :
  ∃W:Nat->Nat->List V->St->Hp->Prop,(∃m,W 0 m [] (uR caps n σ) o)/\∀i m c M d,W i m c M d->
   ((Itz K false a b).stop i d/\F c d)\/
   ((Itz K false a b).go i d/\c.length<sizeLine/\∀x B,(Itz K false a b).yld i d x B->g x M B fun f v=>I f v fun b s=>if b=true then L f s fun y z=>∃t,t<m/\W (i+1) t (c++[y]) f z else∃t,t<m/\W (i+1) t c f s):=by
 refine zHO (J:=Itz K false a b) (xs:=xs.map sv) (ys:=ys.map sv) (len:=xs.length) (Hk:=fun d=>yG K d a (xs.map sv)/\jN false K d b (ys.map sv))
   (fun i d j hi=>⟨xs.map sv,ys.map sv,(xs.map sv)[i]'(by rw[ai];exact hi),(ys.map sv)[i]'(by rw[ai];omega),j.1,j.2,av _,av _⟩)
   (fun i d j e=>⟨xs.map sv,ys.map sv,j.1,j.2,by rw[ai,ai];omega⟩)
   (fun i d x R j ⟨T,U,X,e1,C,Y,Z,e5⟩=>⟨T,U,X,e1,C,Y,Z _ j.1,e5 _ j.2⟩)
   cv k (by omega) (fun i c d=>zB o d/\c=((xs.zip ys).take i).map r)
   ⟨zB.refl _,rfl⟩ (fun i c d hi h=>⟨⟨.of (h.1 _ _ ha),(show jN false K d b (ys.map sv)from .of (h.1 _ _ hb))⟩,by rw[h.2,ai,aZ];omega⟩) ?_ ?_ A
 ·rintro i x y T c d l q hN hx hy D ⟨u,rfl⟩ hT
  obtain⟨N,e1,rfl⟩:=zCq hx
  obtain⟨O,C,rfl⟩:=zCq hy
  refine p N O T d l _ q (fun B E h2 s2=>hN _ _ E h2 ⟨u.trans s2,?_⟩) D u hT
  have Q:(xs.zip ys)[i]?=some (N,O):=by rw[iw];exact⟨e1,C⟩
  rw[aA (ah.mp Q).1,(ah.mp Q).2,aQ];rfl
 ·rintro c d ⟨u,rfl⟩
  have e:(xs.zip ys).take xs.length=xs.zip ys:=eu (by rw[kc];omega)
  rw[e]
  exact fin d u
noncomputable abbrev sPL:cJ:=top 67
theorem zJn:FnScope ["head","tail","length","by_head","by_tail"] ["head","tail","length"] (defScope sPL):=yE
theorem zCr:(["one","other"]:List Str).Nodup:=by decide+kernel
noncomputable def zJo:Sp:=fun vs H Q _=>∃(hd tl:S) (n:Nat),vs=[sv hd,sv tl,.int n]/\hd.length<=8/\tl.length<=8/\n<=8/\∀l H',zB H H'->H l=none->zCp H H' l (jG hd tl n)->Q (.ref l) H'
theorem zFG {H b:Hp}{l:ak}(h:b l=some (.lst [])):zCp H b l []:=⟨[],h,rfl,(fun a ha=>by cases ha),fun i a p ha=>by cases ha⟩
theorem zRo {f:ak}{fd:bc}(F:Fun K "patterns_of_length" "patterns_of_length" sPL f fd)(B:Blt mg)(as:mg "max"=none)(M:mg "list"=none)(hz:mg "zip"=none)(O:∃t,mg "ANY"=some (.str "" t))(cG:zS P w K mg base 1 "go_together" ["one","other"] zJl):FnOk P w K mg base z0 2 f fd ["head","tail","length"] zJo:=by
 obtain⟨u,O⟩:=O
 refine F.ok zJn (fun vs H Q E h=>?_) (fun a8 A outer s H vs Q E hr h=>?_)
 ·obtain⟨x,y,n,rfl,_⟩:=h;rfl
 ·obtain⟨hd,tl,n,rfl,hh,ht,hn,k⟩:=h
  have nd:=zJn.nd
  refine⟨_,zR (y0 (qB zDC (pv 2) (yS (zLj rfl) (by rfl) as tS (zC (yS kO (by rfl) B.len cw (zC (pv 0) zD)) (zC (yS kO (by rfl) B.len cw (zC (pv 1) zD)) zD))) (vN _)) (zL (z5 (uJ zD))) yZ)
   (zR (yC (i:=3) nd rfl (Or.inl rfl) (zV zGU (zAr (zJb rfl) (by rfl) M f9 (zC (pv 0) zD)) (zV zGV (uJ (zC (yR (v:=.str "") (by rfl) O ⟨_,rfl⟩) zD)) (zV zBx (pv 2) (yS kO (by rfl) B.len cw (zC (pv 0) zD))))))
   (zR (yC (i:=4) nd rfl (Or.inl rfl) (zV zGU (zV zGV (uJ (zC (yR (v:=.str "") (by rfl) O ⟨_,rfl⟩) zD)) (zV zBx (pv 2) (yS kO (by rfl) B.len cw (zC (pv 1) zD)))) (zAr (zJb rfl) (by rfl) M f9 (zC (pv 1) zD))))
   (zR (y0 (uI (vW (yS (zBc rfl) (by rfl) B.all fg (zC (qD (N:=["one","other"]) (caps:=[]) rfl (uS (by kernel_rfl)) (zHN false rfl hz (zC (pv 3) (zC (pv 4) zD)))
     (fun R C s H ex=>zAD K 2 rfl rfl (yW (yB (i:=0) zCr rfl (Or.inl rfl)) (yW (yB (i:=1) zCr rfl (Or.inl rfl)) qA)) rfl rfl)
     (fun R C s H ex=>qM)
     (fun R C s H ex=>zH cG hr rfl (zC (pv 0) (zC (pv 1) zD)))) zD)))) (zL (z5 (uJ zD))) yZ)
   (zL (z5 (uJ (zC (qD (N:=["one","other"]) (caps:=[]) rfl (uS (by kernel_rfl)) (zHN false rfl hz (zC (pv 3) (zC (pv 4) zD)))
     (fun R C s H ex=>zAD K 2 rfl rfl (yW (yB (i:=0) zCr rfl (Or.inl rfl)) (yW (yB (i:=1) zCr rfl (Or.inl rfl)) qA)) rfl rfl)
     (fun R C s H ex=>qM)
     (fun R C s H ex=>zFm (qB zAo (pv 0) (yR (v:=.str "") (by rfl) O ⟨_,rfl⟩) (vN _)) (pv 1) (pv 0))) zD))))))),?_⟩
  have g:=k
  unfold jG at g
  refine⟨_,rfl,_,rfl,tx hd,rfl,by rw[yF,aI];omega,_,rfl,tx tl,rfl,by rw[yF,aI];omega,_,_,rfl,_,_,rfl,rfl,_,rfl,?_⟩
  rw[yF,yF]
  have ax:(if((tl.length:Nat):Int)> ((hd.length:Nat):Int)then((tl.length:Nat):Int)else((hd.length:Nat):Int))=((max hd.length tl.length:Nat):Int):=by
   split<;>omega
  rw[ax]
  by_cases hm:n<max hd.length tl.length
  ·rw[if_pos hm]at g
   refine zAA (by omega) ⟨by show 0<=sizeLine;exact bw _,fun l hl=>?_⟩
   exact g l _ (zB.upd1 hl) hl (zFG zE)
  ·rw[if_neg hm]at g
   refine zAX (by omega) ?_
   refine⟨_,rfl,tx hd,rfl,by rw[<-br,uN];omega,fun l1 hl1=>?_⟩
   rw[zJj]
   have s1:zB H (upd H l1 (.lst ((hd.map fun c=>[c]).map sv))):=zB.upd1 hl1
   have h1:upd H l1 (.lst ((hd.map fun c=>[c]).map sv)) l1=some (.lst ((hd.map fun c=>[c]).map sv)):=zE
   generalize upd H l1 (.lst ((hd.map fun c=>[c]).map sv))=H1 at s1 h1
   refine⟨by show 1<=sizeLine;decide,fun l2 hl2=>?_⟩
   have s2:zB H1 (upd H1 l2 (.lst [V.str ""])):=zB.upd1 hl2
   have h2:upd H1 l2 (.lst [V.str ""]) l2=some (.lst [V.str ""]):=zE
   generalize upd H1 l2 (.lst [V.str ""])=U at s2 h2
   refine⟨_,rfl,_,rfl,tx hd,rfl,by rw[yF,aI];omega,_,_,rfl,rfl,l2,_,[V.str ""],rfl,rfl,h2,by rw[yF];omega,by rw[yF];omega,by rw[yF,aI];show 1*_<=_;omega,fun W aK=>?_⟩
   rw[yF,show((n:Int)- ((hd.length:Nat):Int)).toNat=n-hd.length by omega,zJk]
   have s3:zB U (upd U W (.lst ((aH (n-hd.length) ([]:S)).map sv))):=zB.upd1 aK
   have h3:upd U W (.lst ((aH (n-hd.length) ([]:S)).map sv)) W=some (.lst ((aH (n-hd.length) ([]:S)).map sv)):=zE
   generalize upd U W (.lst ((aH (n-hd.length) ([]:S)).map sv))=X at s3 h3
   refine⟨l1,W,_,_,rfl,rfl,s3 _ _ (s2 _ _ h1),h3,by rw[ai,ai,ai,cV,aI];omega,fun G aN=>?_⟩
   rw[<-aQ]
   have s4:zB X (upd X G (.lst ((vM hd n).map sv))):=zB.upd1 aN
   have h4:upd X G (.lst ((vM hd n).map sv)) G=some (.lst ((vM hd n).map sv)):=zE
   show zBw _ _ _ _ (upd X G (.lst ((vM hd n).map sv)))
   generalize upd X G (.lst ((vM hd n).map sv))=H4 at s4 h4
   have aW:=(s1.trans s2).trans (s3.trans s4)
   refine⟨by show 1<=sizeLine;decide,fun Y a0=>?_⟩
   have s5:zB H4 (upd H4 Y (.lst [V.str ""])):=zB.upd1 a0
   have h5:upd H4 Y (.lst [V.str ""]) Y=some (.lst [V.str ""]):=zE
   generalize upd H4 Y (.lst [V.str ""])=H5 at s5 h5
   refine⟨_,rfl,_,rfl,tx tl,rfl,by rw[yF,aI];omega,_,_,rfl,rfl,Y,_,[V.str ""],rfl,rfl,h5,by rw[yF];omega,by rw[yF];omega,by rw[yF,aI];show 1*_<=_;omega,fun Z a1=>?_⟩
   rw[yF,show((n:Int)- ((tl.length:Nat):Int)).toNat=n-tl.length by omega,zJk]
   have s6:zB H5 (upd H5 Z (.lst ((aH (n-tl.length) ([]:S)).map sv))):=zB.upd1 a1
   have h6:upd H5 Z (.lst ((aH (n-tl.length) ([]:S)).map sv)) Z=some (.lst ((aH (n-tl.length) ([]:S)).map sv)):=zE
   generalize upd H5 Z (.lst ((aH (n-tl.length) ([]:S)).map sv))=H6 at s6 h6
   refine⟨_,rfl,tx tl,rfl,by rw[<-br,uN];omega,fun l7 a2=>?_⟩
   rw[zJj]
   have s7:zB H6 (upd H6 l7 (.lst ((tl.map fun c=>[c]).map sv))):=zB.upd1 a2
   have h7:upd H6 l7 (.lst ((tl.map fun c=>[c]).map sv)) l7=some (.lst ((tl.map fun c=>[c]).map sv)):=zE
   generalize upd H6 l7 (.lst ((tl.map fun c=>[c]).map sv))=H7 at s7 h7
   refine⟨Z,l7,_,_,rfl,rfl,s7 _ _ h6,h7,by rw[ai,ai,ai,cV,aI];omega,fun l8 a3=>?_⟩
   rw[<-aQ]
   have s8:zB H7 (upd H7 l8 (.lst ((vK tl n).map sv))):=zB.upd1 a3
   have h8:upd H7 l8 (.lst ((vK tl n).map sv)) l8=some (.lst ((vK tl n).map sv)):=zE
   show zBw _ _ _ _ (upd H7 l8 (.lst ((vK tl n).map sv)))
   generalize upd H7 l8 (.lst ((vK tl n).map sv))=H8 at s8 h8
   have aa:=(s5.trans s6).trans (s7.trans s8)
   have I:=aa _ _ h4
   have a4:=aW.trans aa
   have ab:(vM hd n).length=(vK tl n).length:=by rw[zCm (by omega),zFA (by omega)]
   have j:(vM hd n).length<900:=by rw[zCm (by omega)];omega
   refine⟨_,rfl,_,rfl,G,l8,_,_,rfl,.of I,(show jN false K H8 l8 ((vK tl n).map sv)from .of h8),?_⟩
   refine zJm ab j I h8 [] 2 (fun p=>V.bl (uZ p.1 p.2)) (fun x y T H' zs a5 Nx hN J sm hT=>?_) (fun H9 s9 D hD=>?_)
   ·obtain⟨z1,z2,rfl⟩:=zBL J
    refine⟨T,_,rfl,.of zE,rfl,_,_,rfl,_,_,rfl,rfl,?_⟩
    unfold kP
    dsimp only
    rw[if_pos rfl]
    exact⟨_,rfl,_,rfl,x,y,rfl,fun U a6=>hN _ [some (sv x),some (sv y)] rfl ((zB.upd1 hT).trans a6)⟩
   ·have sD:zB H9 (upd H9 D (.lst (((vM hd n).zip (vK tl n)).map fun p=>V.bl (uZ p.1 p.2)))):=zB.upd1 hD
    have ac:upd H9 D (.lst (((vM hd n).zip (vK tl n)).map fun p=>V.bl (uZ p.1 p.2))) D=some (.lst ((((vM hd n).zip (vK tl n)).map fun p=>uZ p.1 p.2).map V.bl)):=by rw[zE,aV];rfl
    generalize upd H9 D (.lst (((vM hd n).zip (vK tl n)).map fun p=>V.bl (uZ p.1 p.2)))=a7 at sD ac
    refine⟨D,_,rfl,.of ac,_,rfl,?_⟩
    have al:(((vM hd n).zip (vK tl n)).map fun p=>uZ p.1 p.2).all id=((vM hd n).zip (vK tl n)).all (fun p=>uZ p.1 p.2):=by rw[mU];rfl
    rw[al]
    have d:=(a4.trans s9).trans sD
    have m:=sD _ _ (s9 _ _ I)
    have q:=sD _ _ (s9 _ _ h8)
    cases r:((vM hd n).zip (vK tl n)).all (fun p=>uZ p.1 p.2)with
    |false=>
     rw[r,if_neg (by simp)]at g
     refine uQ ⟨bw _,fun l hl=>?_⟩
     exact g l _ (d.trans (zB.upd1 hl)) (d.free hl) (zFG zE)
    |true=>
     rw[r,if_pos rfl]at g
     refine vA ?_
     refine⟨_,rfl,_,rfl,G,l8,_,_,rfl,.of m,(show jN false K a7 l8 ((vK tl n).map sv)from .of q),?_⟩
     refine zJm ab j m q [] 2 (fun p=>sv (kH p.1 p.2)) (fun x y T H' zs a5 Nx hN J sm hT=>?_) (fun e am D2 an=>?_)
     ·obtain⟨z1,z2,rfl⟩:=zBL J
      refine⟨T,_,rfl,.of zE,rfl,_,_,rfl,_,_,rfl,rfl,?_⟩
      unfold kP
      dsimp only
      rw[if_pos rfl]
      refine⟨_,rfl,rfl,_,rfl,?_⟩
      have b:=hN _ [some (sv x),some (sv y)] rfl (zB.upd1 (o:=.tup [sv x,sv y]) hT)
      unfold kH at b
      by_cases hx:x=[]
      ·rw[if_pos hx]at b
       exact zAA (by rw[hx];rfl) ⟨_,rfl,b⟩
      ·rw[if_neg hx]at b
       exact zAX (fun z=>hx (j9 (V.str.inj z))) ⟨_,rfl,b⟩
     ·have sE:zB e (upd e D2 (.lst (((vM hd n).zip (vK tl n)).map fun p=>sv (kH p.1 p.2)))):=zB.upd1 an
      have L:upd e D2 (.lst (((vM hd n).zip (vK tl n)).map fun p=>sv (kH p.1 p.2))) D2=some (.lst ((((vM hd n).zip (vK tl n)).map fun p=>kH p.1 p.2).map sv)):=by rw[zE,aV];rfl
      generalize upd e D2 (.lst (((vM hd n).zip (vK tl n)).map fun p=>sv (kH p.1 p.2)))=a9 at sE L
      refine⟨by show 1<=sizeLine;decide,fun l hl=>?_⟩
      have ap:=d.trans (am.trans sE)
      refine g l _ (ap.trans (zB.upd1 hl)) (ap.free hl) ⟨[D2],zE,rfl,fun a ha=>?_,fun i a p ha hp=>?_⟩
      ·rw[aS.mp ha]
       exact⟨(d.trans am).free an,yK L hl⟩
      ·cases i with
       |zero=>
        cases ha;cases hp
        exact(zB.upd1 hl) _ _ L
       |succ i=>cases ha
noncomputable abbrev zFH:cJ:=top 68
theorem zJp:FnScope ["wish","found","length"] ["wish"] (defScope zFH):=yE
noncomputable def zFI:Sp:=fun vs H Q _=>∃(a:ak) (lo hi:Nat) (hd tl:S) (ba:List S) (to:Bool),vs=[.ref a]/\uD H a lo hi hd tl ba to/\lo<=hi/\hi<=8/\hd.length<=8/\tl.length<=8/\∀l H',zB H H'->H l=none->zCp H H' l (yJ lo hi hd tl)->Q (.ref l) H'
theorem zRp {f:ak}{fd:bc}(F:Fun K "patterns" "patterns" zFH f fd)(B:Blt mg)(W:CstW mg)(cP:zS P w K mg base 2 "patterns_of_length" ["head","tail","length"] zJo):FnOk P w K mg base z0 3 f fd ["wish"] zFI:=by
 obtain⟨u0,g0⟩:=W.least
 obtain⟨u1,g1⟩:=W.most
 obtain⟨u2,g2⟩:=W.head
 obtain⟨u3,g3⟩:=W.tail
 refine F.ok zJp (fun vs H Q E h=>?_) (fun ab A outer s H vs Q E hr h=>?_)
 ·obtain⟨a,lo,hi,hd,tl,ba,to,rfl,_⟩:=h;rfl
 ·obtain⟨a,lo,hi,hd,tl,ba,to,rfl,⟨b,ha,hb⟩,ac,al,hh,ht,k⟩:=h
  have nd:=zJp.nd
  refine⟨_,zR (yC (i:=1) nd rfl (Or.inl rfl) (uJ zD))
   (zR (vX bE rfl (zFq rfl B.range (zC (yA yH (pv 0) (yR (v:=.int 0) (by rfl) g0 ⟨_,rfl⟩) (fun _ _=>rfl)) (zC (zV y6 (yA yH (pv 0) (yR (v:=.int 1) (by rfl) g1 ⟨_,rfl⟩) (fun _ _=>rfl)) zQ) zD))) (yB (i:=2) nd rfl (Or.inl rfl))
    (zL (v3 (jM c8 fH fI zCA (pv 1) (zC (zH cP hr rfl (zC (yA yH (pv 0) (yR (v:=.int 2) (by rfl) g2 ⟨_,rfl⟩) (fun _ _=>rfl)) (zC (yA yH (pv 0) (yR (v:=.int 3) (by rfl) g3 ⟨_,rfl⟩) (fun _ _=>rfl)) (zC (pv 2) zD)))) zD)))))
   (zL (z5 (pv 1)))),?_⟩
  refine⟨bw _,fun l hl=>?_⟩
  have C:zB H (upd H l (.lst [])):=zB.upd1 hl
  have U:upd H l (.lst []) l=some (.lst []):=zE
  generalize upd H l (.lst [])=H1 at C U
  have g:=C _ _ ha
  have I:l≠a:=(yK ha hl).symm
  refine⟨_,rfl,a,_,0,.int lo,rfl,rfl,.of g,rfl,_,rfl,a,_,1,.int hi,rfl,rfl,.of g,rfl,_,_,rfl,rfl,lo,(hi:Int)+1,rfl,⟨by omega,by omega,by omega,by omega⟩,?_⟩
  have m:((hi:Int)+1- (lo:Int)).toNat=hi+1-lo:=by omega
  refine qN (zBd (lo:Int) _) (fun i σ n=>∃J:Option V,σ=[some (.ref a),some (.ref l),J]/\z6 l H1 n/\zCp H n l ((bA i).flatMap fun i=>jG hd tl (lo+i)))
   ⟨_,rfl,z6.refl _,zFG U⟩ (fun _ _ _ _ _=>trivial) ?_ ?_
  ·rintro i x σ n Nx hN D ⟨J,rfl,o,as,q,L,X,p4⟩
   rw[m]at D
   have M:i<hi+1-lo:=by
    have:=(ah.mp D).1
    simpa using this
   rw[ar,ix M]at D
   have hx2:x=V.int ((lo+i:Nat):Int):=(aB D).symm
   subst hx2
   have r:=o _ _ I.symm g
   refine⟨_,rfl,.inl ⟨rfl,_,.of q⟩,_,rfl,a,_,2,sv hd,rfl,rfl,.of r,rfl,_,rfl,a,_,3,sv tl,rfl,rfl,.of r,rfl,_,rfl,hd,tl,lo+i,rfl,hh,ht,by omega,fun l2 H2 N hl2 zq=>?_⟩
   obtain⟨bs,q1,Y,Z,q4⟩:=zq
   have O:=N _ _ q
   have am:(bA i).length=i:=bU
   have aa:((bA i).flatMap fun i=>jG hd tl (lo+i)).length<=i*1:=by
    have:=zBP (fun i=>jG hd tl (lo+i)) 1 (bA i) fun i _=>zCo _ _ _
    rw[bU]at this;exact this
   have an:=zCo hd tl (lo+i)
   refine⟨l,l2,_,_,rfl,rfl,O,q1,by rw[ai,ai,L,Y,aI];omega,hN _ _ ⟨_,rfl,?_,as++bs,?_,?_,?_,?_⟩⟩
   ·exact fun b u t e=>by rw[zG t];exact N _ _ (o _ _ t e)
   ·rw[zE,aQ]
   ·rw[ay,L,Y,dE,dN,ay];simp
   ·intro c d
    rcases bt.mp d with z|z
    ·exact X c z
    ·obtain⟨G,z2⟩:=Z c z
     refine⟨?_,(yK q G).symm⟩
     cases e:H c with
     |none=>rfl
     |some u=>
      have R:c≠l:=(yK q G).symm
      have:=o _ _ R (C _ _ e)
      rw[this]at G;cases G
   ·intro j c p d y
    rw[dE,dN]at y
    by_cases hj:j<as.length
    ·rw[aR hj]at d
     rw[aR (by omega)]at y
     have T:=(X c (aY d)).2
     rw[zG T]
     exact N _ _ (p4 j c p d y)
    ·rw[aO (by omega)]at d
     rw[aO (by omega),<-L]at y
     have T:=yK q (Z c (aY d)).1
     rw[zG T.symm]
     exact q4 _ c p d (by simpa using y)
  ·rintro σ n ⟨J,rfl,o,pa⟩
   rw[ai,bU,m]at pa
   refine⟨_,rfl,k l n (fun b u e=>o _ _ (yK e hl) (C _ _ e)) hl pa⟩
end
theorem zRq {X:Cx}(a:ag)(b:X.K=a):yO X (compareOp .NotIn) (rIn a true):=by
 subst b
 exact zGP
end Kn.Ln
end
section
namespace L2
open PySem PySem.Spec PyProof.Rows
theorem zJq {i:Int}{n:Nat}(a:0<i)(h:i<2^n):i.natAbs.log2<n:=by
 refine(Nat.log2_lt (by omega)).mpr ?_
 have e:((2^n:Nat):Int)=(2:Int)^n:=by simp
 have:(i.natAbs:Int)<((2^n:Nat):Int):=by rw[e];omega
 omega
theorem zJr {X:Cx}:yO X (binaryOp .FloorDiv) (rI (fun _ j=>0<j/\j<2^8000) fun i j=>.int (i/j)):=opI fun i j _ _ _ _ _ a q=>by
 have b:(0:Int)<j:=a.1
 exact floordiv_int (by omega) (by rw[kz i (by omega)];exact q) (.inl (PyProof.noPylong_of_log2 (bz (zJq b a.2) (by decide))))
noncomputable def Bg (i:Int):Prop:=0<=i/\i<2^8000
theorem Bg.bits {i:Int}(h:Bg i):nY i<=2^20:=by
 unfold nY
 split
 ·exact bw _
 ·rename_i hz
  have a:¬i=0:=fun z=>hz (by rw[z];rfl)
  have b:=zJq (i:=i) (n:=8000) (by have:=h.1;omega) h.2
  have c:2^20=1048576:=by decide
  omega
theorem k5 {X:Cx}:yO X (binaryOp .Mult) (rI (fun i j=>Bg i/\Bg j) fun i j=>.int (i*j)):=opI fun _ _ _ _ _ _ _ a q=>mul_int q (IntMulOk.of_bits a.1.bits a.2.bits)
section
variable{X:Cx}
theorem zRr {j:Nat}{y:Str}{py spos:Pos}{tg iter elt:bS}{ifs:List bS}{scope:gc}{pos:Pos}{wi:TI}{g:TG}{tc:TT}{te:TE}{N:List Str}{caps:List Nat}(hN:X.N.Nodup)(hj:X.N[j]?=some y)(hy:Loc X.env.scope y)(hc:X.calm=true)(S:CompScope X.env.scope X.N N scope caps)
  (hi:PI X tg iter wi) (hg:∀cl C s H ex,PG (vE X N scope cl C s H ex) tg g) (hf:∀cl C s H ex,PF (vE X N scope cl C s H ex) ifs tc) (he:∀cl C s H ex,PE (vE X N scope cl C s H ex) elt te)
  (hs:∀x,foldedSetIterable iter X.env x=pure x:=by intro _;rfl) (hsw:swapsWith (.ListComp elt [⟨tg,iter,ifs,0⟩] scope pos) (some (.Name y py)) spos.line X.env=pure true:=by rfl)
  (hfn:X.fn y=true\/X.env.scope.names.lookup y=some .local:=by first|exact .inl rfl|exact .inr rfl|assumption):PS X (.Assign [.Name y py] (.ListComp elt [⟨tg,iter,ifs,0⟩] scope pos) spos) (zFo (zGl wi g tc te caps N.length) (zCy j)):=by
 intro pins s σ H D0 I h
 obtain⟨cl,hcl,hcl1,hcl2⟩:=zGg (env:=X.env) (scope:=scope) fun y hy e=>I.ok.has y.1 (S.free y hy e)
 rw[exec_Assign_Name_used _ _ _ _ hsw]
 refine af (sr (af ?_))
 show wpAny _ X.A (do let _<-comprehension (.ListComp elt [⟨tg,iter,ifs,0⟩] scope pos) scope X.env _ (newList []) false (eval iter X.env) (some (assign (.Name y py) X.env))) _ _ s
 refine af (cY (lZ (use:=some (assign (.Name y py) X.env)) (Q:=fun _ s'=>SP X pins D0 .next s') rfl hs hcl S.kind S.names (zM (hi pins s σ H _ I h) fun v s1 h1=>zM h1 fun itv s2 h2=>?_))
  (fun _ s' hq=>az (az hq)) fun _ _ e=>e)
 obtain⟨it,fp,tn,J,H2,e,I2,T,st2,f2,W,⟨m0,w0⟩,turn⟩:=h2
 subst e
 refine cu (jo S.nocell (by intro y hy;simp at hy) (fun h₁ hns hsb=>?_) S.kind)
 dsimp only at hns hsb⊢
 generalize hG:s2.heap.push {cls:=.type "list",dict:=none,data:=.seq ([]:List aj).toArray}=G at hns hsb⊢
 have hCs:G.objs.size=s2.heap.objs.size+1:=by rw[<-hG,bI]
 have hDC:s2.heap.objs.size≠G.objs.size:=by rw[hCs];exact bp (dG _)
 have old:∀b o,s2.heap.get? b=some o->h₁.get? b=some o:=fun b o e=>by
  have hb:=aF e
  refine hsb.extBut b o (by rw[hCs];exact bp (bT hb)) (ae _ ?_)
  rw[<-hG]
  exact ae _ e
 have hD:h₁.get? s2.heap.objs.size=some {cls:=.type "list",dict:=none,data:=.seq ([]:List aj).toArray}:=by
  refine hsb.extBut _ _ hDC (ae _ ?_)
  rw[<-hG]
  exact aE _ rfl
 have hfo:∀b∈fp,b<s2.heap.objs.size:=fun b hb=>let⟨o,e,_⟩:=T.obj 0 _ st2 b hb;aF e
 have hCle:s2.heap.objs.size<=G.objs.size:=by omega
 have ok:=zGm (C:=G.objs.size) I2 S hcl1 hcl2 hCle f2 hfo
 have I0:Inv (vE X N scope cl G.objs.size s2 H2 fp) [(s2.heap.objs.size,{cls:=.type "list",dict:=none,data:=.seq ([]:List aj).toArray})] (uR caps N.length σ) H2 {s2 with heap:=h₁,toks:=s2.toks+([]:List (Str×aj)).length} :=
  zGn I2 ok S hcl1 hcl2 old hns hCle hD (aC _) hDC (fun v z=>by cases z)
 have st1:tn 0 h₁:=T.keep 0 _ _ st2 fun b _ o e=>old b o e
 generalize hX:vE X N scope cl G.objs.size s2 H2 fp=X' at I0
 generalize hDa:s2.heap.objs.size=D at I0 hD hDC
 have loop:codeAny (model X.prog X.w) X.A (.compLoop (.ListComp elt [⟨tg,iter,ifs,0⟩] scope pos) 0 (.ref it) (.ref D) (compEnvC scope cl G.objs.size X.env)) (compPost (model X.prog X.w) X.A X.xe (some (assign (.Name y py) X.env)) (fun _ s'=>SP X pins D0 .next s') (.ref D) G.objs.size)
   {s2 with heap:=h₁,toks:=s2.toks+([]:List (Str×aj)).length}:=by
  subst hX
  refine zGh (J:=fun n s'=>∃i σ' H' acc its e,Inv (vE X N scope cl G.objs.size s2 H2 fp) [(D,{cls:=.type "list",data:=.seq (il its) e})] σ' H' s'/\zU acc its/\acc.length<=sizeLine/\tn i s'.heap/\(∀b∈fp,H' b=none)/\W i n acc σ' H')
   ?_ m0 ⟨0,_,H2,[],[],0,I0,.nil,bw _,st1,fun b hb=>(f2 b hb).1,w0⟩
  rintro n s3 ⟨i,σ3,H3,acc,its,ep,I3,rv,hz,st3,fr3,w3⟩
  have stat:∀{H':Hp} {pl:List (ak×Obj)},(∀b∈fp,H' b=none)->(∀p∈pl,p.1=D)->∀b∈fp,qI (vE X N scope cl G.objs.size s2 H2 fp) pl H' b:=fun{H' pl} hn hpl b hb=>by
   obtain⟨a1,a2⟩:=ok.exf b hb
   exact⟨hn b hb,a1,ok.exfs b hb,.inl hb,fun x c e=>a2 x c e,fun p hp=>by
    have hp':p∈pl:=hp
    rw[hpl p hp',<-hDa]
    exact de (hfo b hb)⟩
  have one:∀p∈[(D,({cls:=.type "list",data:=.seq (il its) ep}:Obj))],p.1=D:=fun p hp=>by
   rcases aL.mp hp with e|e
   ·rw[e]
   ·cases e
  have pinD:∀{pl:List (ak×Obj)} {σ':St} {H':Hp} {s':au} {o:Obj},Inv (vE X N scope cl G.objs.size s2 H2 fp) pl σ' H' s'->(D,o)∈pl->s'.heap.get? D=some o/\H' D=none:=fun{pl σ' H' s' o} I' hm=>by
   obtain⟨a,b,_⟩:=I'.pin (D,o) (aX _ hm)
   exact⟨a,b⟩
  rcases turn i n acc σ3 H3 w3 with⟨stop,q⟩|⟨go,hlt,step⟩
  ·refine cY (T.done (vE X N scope cl G.objs.size s2 H2 fp) rfl rfl rfl hc i _ s3 σ3 H3 (fun _ _=>False) I3 (stat fr3 one) st3 stop) (fun r s4 zq=>?_) fun _ _ f=>f
   obtain⟨hr,I4⟩:=zq
   subst hr
   obtain⟨hDo,hDn⟩:=pinD I4 (aq ..)
   obtain⟨m4,hm4,_⟩:=I4.loc
   have keepC:∀b (u:Obj),b≠G.objs.size->s4.heap.get? b=some u->s4.heap.get? b=some u:=fun b u _ e=>e
   have un:Un (u9 X.stack) fp H2 H3 s2.heap s4.heap:=I4.base
   have hDo':=hDo
   have hlow:∀b (o:Obj),s2.heap.get? b=some o->b≠G.objs.size/\b≠D:=fun b o e=>by
    have h0:=aF e
    exact⟨by rw[hCs];exact bp (bT h0),by rw[<-hDa];exact bp h0⟩
   have un':Un (u9 X.stack) fp H2 (upd H3 D (.lst acc)) s2.heap s4.heap :=
    ⟨fun b o e n' hb hx=>keepC b o (hlow b o e).1 (un.keep b o e n' hb hx),
     fun b o e n' hb hx=>let⟨sl,q⟩:=un.slot b o e n' hb hx;⟨sl,keepC b _ (hlow b o e).1 q⟩,
     fun b o e n' hx=>by rw[zG (hlow b o e).2];exact un.free b o e n' hx,
     fun b o e hx=>let⟨o',q⟩:=un.there b o e hx;⟨o',keepC b _ (hlow b o e).1 q⟩,
     fun b xs e=>by rw[zG (yK (un.tups b xs e) hDn)];exact un.tups b xs e,
     fun b o u e=>by rw[zG (yK (un.frzs b o u e) hDn)];exact un.frzs b o u e,
     fun b ps e=>let⟨mo,q⟩:=un.tbls b ps e;⟨mo,by rw[zG (yK q hDn)];exact q⟩⟩
   have hok:yI X.prog X.w (upd H3 D (.lst acc)) s4.heap:=I4.hok.track hDn ⟨hz,its,ep,rv,hDo'⟩
   have IX:Inv X pins σ (upd H3 D (.lst acc)) s4:=I2.call' I4.os un' hok I4.bare (fun b hb=>by
    obtain⟨_,f1,_,f3,f4,f5⟩:=f2 b hb
    exact⟨f3,f1,f4,f5⟩)
   have hCn:upd H3 D (.lst acc) G.objs.size=none:=by
    rw[zG (eN hDC)];exact I4.free
   have fpC:qI X pins (upd H3 D (.lst acc)) G.objs.size:=I2.fpOk hCle hCn
   obtain⟨oC,es,epC,hoC,hdC,hsk,hnf⟩:=hm4
   have IXp:=IX.pinned (fp:=[G.objs.size]) (fun b hb=>by
    have:b=G.objs.size:=by simpa using hb
    rw[this];exact fpC) (fun b hb=>by
    have:b=G.objs.size:=by simpa using hb
    rw[this];exact⟨oC,hoC,fun v z=>by rw[hdC]at z;cases z⟩)
   refine oD (zCx IXp hN hj hy (v:=.ref D) rfl (fun s5 I5=>?_) hfn)
   have pC:=(I5.pin (G.objs.size,oC) (aX _ (aX _ (zAP (aq ..) hoC)))).1
   refine⟨m4,⟨oC,es,epC,pC,hdC,hsk,hnf⟩,fun h' hsb'=>?_⟩
   obtain⟨c0,c1,c2,c3,c4,c5⟩:=fpC
   exact⟨_,_,I5.unpinned.turned (t':=s5.toks) (fun b o hb e=>hsb'.extBut b o hb e) c0 c1 c3 c4 c5,q D hDn⟩
  ·refine cY (T.item (vE X N scope cl G.objs.size s2 H2 fp) rfl rfl rfl hc i _ s3 σ3 H3 (fun _ _=>False) I3 (stat fr3 one) st3 go) (fun r s4 zq=>?_) fun _ _ f=>f
   obtain⟨u,hr,h4⟩:=zq
   subst hr
   refine zM h4 fun _ s5 zq=>?_
   obtain⟨x,H5,I5,r5,y5,st5,fr5⟩:=zq
   have I5':=I5.pinned (stat fr5 one) (T.obj _ _ st5)
   refine zM (hg cl G.objs.size s2 H2 fp _ s5 σ3 H5 x u _ I5' r5 (step x H5 y5)) fun _ s6 ⟨σ6,H6,I6,q6⟩=>?_
   refine zM (hf cl G.objs.size s2 H2 fp _ s6 σ6 H6 _ I6 q6) fun b s7 zq=>?_
   obtain⟨H7,I7,q7⟩:=zq
   have fin:∀{pl:List (ak×Obj)} {σ':St} {H':Hp} {s':au},Inv (vE X N scope cl G.objs.size s2 H2 fp) (pl++zAm fp s5.heap) σ' H' s'->tn (i+1) s'.heap/\∀b∈fp,H' b=none:=fun{pl σ' H' s'} I'=>by
    refine⟨T.keep _ _ _ st5 fun b hb o e=>(I'.pin (b,o) (aX _ (aX _ (zAP hb e)))).1,fun b hb=>?_⟩
    obtain⟨o,e,_⟩:=T.obj _ _ st5 b hb
    exact(I'.pin (b,o) (aX _ (aX _ (zAP hb e)))).2.1
   cases b with
   |false=>
    rw[if_neg bg]at q7⊢
    obtain⟨m',hm,w7⟩:=q7
    obtain⟨a1,a2⟩:=fin I7
    exact⟨m',hm,i+1,σ6,H7,acc,its,ep,I7.unpinned,rv,hz,a1,a2,w7⟩
   |true=>
    rw[if_pos rfl]at q7⊢
    refine zM (he cl G.objs.size s2 H2 fp _ s7 σ6 H7 _ I7 q7) fun y s8 zq=>?_
    obtain⟨yv,H8,I8,r8,m',hm,w8⟩:=zq
    obtain⟨a1,a2⟩:=fin I8
    obtain⟨b1,b2⟩:=pinD I8 (bY _ (aq ..))
    have hl:=rv.length
    refine jh lx ⟨_,b1,rfl⟩ kf (jn _ _) (lP D its.toArray ep y (by rw[aP];omega)) ⟨b1,?_⟩
    have q9:=mr b1 (·.push y)
    have kp:∀b o,b≠D->s8.heap.get? b=some o->(s8.heap.update D (bP (·.push y))).get? b=some o:=fun b o hb e=>(bC s8.heap (bP (·.push y)) (eN hb)).trans e
    have I9:Inv (vE X N scope cl G.objs.size s2 H2 fp) [] σ6 H8 {s8 with heap:=s8.heap.update D (bP (·.push y))} :=
     (I8.pins_of (pins':=[]) fun p hp=>by cases hp).turned (t':=s8.toks) kp b2 hDC (.inr (by rw[<-hDa];exact aC _)) (fun x c e z=>by
      have e':X.env.cells.lookup x=some c:=hcl1 x c e
      obtain⟨v',hv'⟩:=I2.cell x c e'
      have h0:=hv'.lt
      rw[z,<-hDa]at h0
      exact bN _ h0) fun p hp=>by
       have:p∈([]:List (ak×Obj)):=hp
       cases this
    have hpu:its.toArray.push y=(its++[y]).toArray:=by simp
    rw[hpu]at q9
    obtain⟨e9,q9⟩:∃e9,(s8.heap.update D (bP (·.push y))).get? D=some {cls:=.type "list",data:=.seq (its++[y]).toArray e9}:=⟨_,q9⟩
    refine⟨m',hm,i+1,σ6,H8,acc++[yv],its++[y],e9,I9.pins_of fun p hp=>?_,rv.append (.cons r8 .nil),?_,T.keep _ _ _ a1 fun b hb o e=>kp b o ?_ e,a2,w8⟩
    ·obtain rfl:p=(D,{cls:=.type "list",data:=.seq (its++[y]).toArray e9}):=by
      rcases aL.mp hp with e|e
      ·exact e
      ·cases e
     obtain⟨_,_,c3,c4,_⟩:=I8.pin (D,_) (aX _ (bY _ (aq ..)))
     exact⟨q9,b2,c3,c4,fun v z=>by cases z⟩
    ·rw[ay,bR];omega
    ·rintro rfl
     have h0:=hfo b hb
     rw[hDa]at h0
     exact bN _ h0
 exact mN loop (T.self X.A 0 _ _ _ st1 loop)
end
end L2
end
section
namespace Kn.Ln
open PySem L2 Kn
theorem zCs (n:Nat):(0:Int)<2^n:=dR (by decide)
theorem zJs {a b:Nat}(h:a<=b):(2:Int)^a<=2^b:=by
 have c:2^a<=2^b:=jw (by decide) h
 have d:((2^a:Nat):Int)=(2:Int)^a:=by simp
 have e:((2^b:Nat):Int)=(2:Int)^b:=by simp
 rw[<-d,<-e];exact tL.mpr c
theorem zFJ {U:Int}{n:Nat}(a:0<U)(h:U<=2^n):U^9<=2^(n*9):=by
 have go:∀k:Nat,U^k<=2^(n*k):=by
  intro k
  induction k with
  |zero=>simp
  |succ k ih=>
   rw[iX,o6,nL]
   exact ia ih h (bD a) (bD (zCs _))
 exact go 9
section
variable{P:aJ}{w:bh}{K:ag}{mg:Str->Option aj}{base:bF}
noncomputable def zFK:Sp:=fun vs H Q _=>∃u d:Int,vs=[.int u,.int d]/\0<=u/\0<d/\Q (.int (yM u d)) H
noncomputable def zAh:Sp:=fun vs H Q _=>∃u d:Int,vs=[.int u,.int d]/\0<=u/\0<d/\d<2^8000/\∀p,H p=none->Q (.ref p) (upd H p (jW (low u d)))
theorem zRs {vs:List V}{H:Hp}{Q:VK}{E:XK}(h:zDr vs H Q E):zFK vs H Q E:=by
 obtain⟨u,d,rfl,a,b,c,k⟩:=h
 exact⟨u,d,rfl,a,b,k⟩
theorem zRt {vs:List V}{H:Hp}{Q:VK}{E:XK}(h:zDt vs H Q E):zAh vs H Q E:=by
 obtain⟨u,d,rfl,c,e,f,k⟩:=h
 refine⟨u,d,rfl,c,e,?_,k⟩
 have g:=zJs (a:=30) (b:=8000) (by decide)
 have i:(2:Int)^30=1073741824:=by decide
 omega
theorem zRu {f:ak}{fd:bc}(F:Fun K "greatest_divisor" "greatest_divisor" zDs f fd):FnOk P w K mg base z0 1 f fd ["one","other"] zFK:=by
 refine F.ok zHq (fun vs H Q E h=>?_) (fun t A outer s H vs Q E B h=>?_)
 ·obtain⟨a,b,rfl,_⟩:=h;rfl
 ·obtain⟨u,d,rfl,l,n,k⟩:=h
  have nd:=zHq.nd
  refine⟨_,zR (zLR bE (qB zAp (pv 1) zQ (vN _))
    (zR (yC (i:=2) nd rfl (Or.inl rfl) (zV zAQ (pv 0) (pv 1))) (zR (yC (i:=0) nd rfl (Or.inl rfl) (pv 1)) (zL (yC (i:=1) nd rfl (Or.inl rfl) (pv 2))))))
   (zL (z5 (pv 0))),?_⟩
  refine⟨fun m σ j=>j=H/\∃(a b:Int) (r:Option V),σ=[some (.int a),some (.int b),r]/\m=b.toNat/\0<=a/\0<=b/\jl a b=jl u d,⟨_,rfl,u,d,none,rfl,rfl,l,bD n,rfl⟩,?_⟩
  rintro m σ j ⟨rfl,a,b,r,rfl,rfl,ha,hb,p⟩
  refine⟨_,rfl,rfl,_,rfl,?_⟩
  by_cases hz:b=0
  ·subst hz
   refine gK rfl ⟨_,rfl,?_⟩
   have e:a=yM u d:=by
    unfold yM
    rw[<-p]
    obtain⟨x,rfl⟩:=bQ ha
    simp
   show Q (.int a) j
   rw[e]
   exact k
  ·have c:0<b:=by omega
   have o:¬(V.int b=V.int 0):=fun z=>hz (V.int.inj z)
   have v:(!decide (V.int b=V.int 0))=true:=by rw[decide_eq_false o];rfl
   show if(!decide (V.int b=V.int 0))=true then _ else _
   rw[if_pos v]
   refine⟨fun q g=>g=j/\q=[some (.int b),some (.int (a%b)),some (.int (a%b))],?_,?_⟩
   ·rintro q g ⟨rfl,rfl⟩
    have y:=nc a hz
    have C:=lF a c
    exact⟨(a%b).toNat,by omega,rfl,b,a%b,_,rfl,rfl,hb,y,by rw[zOd ha c];exact p⟩
   ·exact⟨_,rfl,_,rfl,_,_,rfl,rfl,c,_,rfl,_,rfl,rfl,rfl⟩
theorem zRv {f:ak}{fd:bc}(F:Fun K "lowest" "lowest" zDu f fd)(g:zS P w K mg base 1 "greatest_divisor" ["one","other"] zFK):FnOk P w K mg base z0 2 f fd ["up","down"] zAh:=by
 refine F.ok zHr (fun vs H Q E h=>?_) (fun j A outer s H vs Q E l h=>?_)
 ·obtain⟨a,b,rfl,_⟩:=h;rfl
 ·obtain⟨u,d,rfl,e,c,m,k⟩:=h
  have nd:=zHr.nd
  refine⟨_,zR (yC (i:=2) nd rfl (Or.inl rfl) (zH g l rfl (zC (pv 0) (zC (pv 1) zD))))
   (zL (z5 (uA (zC (zV zJr (pv 0) (pv 2)) (zC (zV zJr (pv 1) (pv 2)) zD))))),?_⟩
  have g1:=zBf (u:=u) c
  have g2:yM u d<=d:=sL c (fB ..)
  refine⟨_,rfl,_,rfl,u,d,rfl,e,c,?_⟩
  exact⟨_,rfl,_,rfl,_,_,rfl,rfl,⟨g1,by omega⟩,_,rfl,_,rfl,_,_,rfl,rfl,⟨g1,by omega⟩,by show 2<=sizeLine;decide,k⟩
noncomputable def zJt:Sp:=fun vs H Q _=>∃o a b:Nat,vs=[.int o,.int a,.int b]/\a<=o/\o<=b/\Q .non H
noncomputable abbrev zFL:cJ:=top 19
theorem zRw:FnScope ["thing","least","most"] ["thing","least","most"] (defScope zFL):=yE
theorem zRx {f:ak}{fd:bc}(F:Fun K "need_whole" "need_whole" zFL f fd)(c:zS P w K mg base 1 "is_whole" ["thing","least","most"] zCR):FnOk P w K mg base z0 2 f fd ["thing","least","most"] zJt:=by
 refine F.ok zRw (fun vs H Q E h=>?_) (fun d A outer s H vs Q E e h=>?_)
 ·obtain⟨o,a,b,rfl,_⟩:=h;rfl
 ·obtain⟨o,a,b,rfl,g,i,k⟩:=h
  refine⟨_,zL (y0 (uI (vW (zH c e rfl (zC (pv 0) (zC (pv 1) (zC (pv 2) zD)))))) (zL zBU) yZ),?_⟩
  exact⟨_,rfl,_,rfl,_,rfl,o,a,b,rfl,g,i,true,rfl,vA k⟩
end
theorem zRy (ps:List (S×S))(e:S):qG ps (zF ps) e=zF ps e []:=by
 unfold qG
 by_cases c:(e,[])∈ps
 ·rw[if_pos c]
 ·rw[if_neg c,zDY c]
structure Unit9 (ps:List (S×S)) (U:Int):Prop where
 pos:0<U
 dvd:∀e l,(zF ps e l).2∣U
 le:U<=2^60
theorem zJu {ps:List (S×S)}(a:1<=ps.length)(b:ps.length<900):Smf (zF ps):=fun e l=>by
 have f:=uU ps e l
 have d:=zDZ (ps:=ps) e l a
 refine⟨f.up,?_,f.dn,by omega⟩
 have c:(zF ps e l).1<=(zF ps e l).2:=by
  unfold zF
  split
  ·decide
  ·have g:=j8 ps e l
   exact zDX (by omega) (by omega) (by omega)
 omega
theorem k6 {ps:List (S×S)}(h:ps.length<=60):∃U,Unit9 ps U:=by
 have go:∀a:List S,(∀e∈a,0<tot ps e)->∃U:Int,0<U/\(∀e∈a,(tot ps e:Int)∣U)/\U<=2^(a.map (tot ps)).sum:=by
  intro a
  induction a with
  |nil=>intro _;exact⟨1,by decide,(fun e b=>by cases b),by simp⟩
  |cons e a ih=>
   intro m
   obtain⟨U,c,g,i⟩:=ih fun x d=>m x (aw _ d)
   have b:=m e (aq ..)
   refine⟨(tot ps e:Int)*U,cy (by omega) c,fun x d=>?_,?_⟩
   ·rcases aL.mp d with rfl|d
    ·exact⟨U,rfl⟩
    ·exact eI (g x d) ⟨(tot ps e:Int),eG ..⟩
   ·rw[aD,aT,nL]
    exact ia (zIk _ b) i (bD c) (bD (zCs _))
 have f:∀e∈(uE ps).map (·.1),0<tot ps e:=fun e b=>by
  obtain⟨q,n,rfl⟩:=ao.mp b
  obtain⟨l,hl⟩:=((vL ps).has q.1).mp ⟨q.2,(y7 (vL ps).nd _ _).mp n⟩
  have c:=j8 ps q.1 l
  have g:=dA.mpr hl
  omega
 obtain⟨U,c,g,i⟩:=go _ f
 refine⟨U,c,zIh fun e ⟨l,hl⟩=>g e ?_,?_⟩
 ·obtain⟨row,j⟩:=((vL ps).has e).mpr ⟨l,hl⟩
  exact ao.mpr ⟨_,(y7 (vL ps).nd _ _).mpr j,rfl⟩
 ·have o:=tots_le ps _ (vL ps).nd
  exact tK i (zJs (by omega))
structure FG (q:Int×Int):Prop where
 up:0<=q.1
 dn:0<q.2
 u1:q.1<2^1000
 d1:q.2<2^1000
theorem k7 {a b:Nat}(h:a<b):(2:Int)^a<2^b:=by
 have c:2^a<2^b:=Nat.pow_lt_pow_right (by decide) h
 have d:((2^a:Nat):Int)=(2:Int)^a:=by simp
 have e:((2^b:Nat):Int)=(2:Int)^b:=by simp
 rw[<-d,<-e];exact Int.ofNat_lt.mpr c
theorem FG.bu {q:Int×Int}(h:FG q):Bg q.1:=⟨h.up,tO h.u1 (k7 (by decide))⟩
theorem FG.bd {q:Int×Int}(h:FG q):Bg q.2:=⟨bD h.dn,tO h.d1 (k7 (by decide))⟩
theorem FG.prod {p q:Int×Int}(a:FG p)(b:FG q):p.2*q.2<2^8000:=by
 have c:p.2*q.2<=2^1000*2^1000:=ia (bD a.d1) (bD b.d1) (bD b.dn) (bD (zCs _))
 rw[<-nL]at c
 exact Int.lt_of_le_of_lt c (k7 (by decide))
section
variable{P:aJ}{w:bh}{K:ag}{mg:Str->Option aj}{base:bF}
noncomputable def zFM (K:ag):Sp:=fun vs H Q _=>∃(x y:V) (p q:Int×Int),vs=[x,y]/\z8 K H x p/\z8 K H y q/\FG p/\FG q/\∀a,H a=none->Q (.ref a) (upd H a (jW (zAz p q)))
theorem zRz {f:ak}{fd:bc}(F:Fun K "added" "added" zDv f fd)(g:zS P w K mg base 2 "lowest" ["up","down"] zAh):FnOk P w K mg base z0 3 f fd ["one","other"] (zFM K):=by
 refine F.ok zOe (fun vs H Q E h=>?_) (fun i A outer s H vs Q E j h=>?_)
 ·obtain⟨x,y,p,q,rfl,_⟩:=h;rfl
 ·obtain⟨x,y,p,q,rfl,⟨a,rfl,ha⟩,⟨b,rfl,hb⟩,sp,c,k⟩:=h
  refine⟨_,zL (z5 (zH g j rfl (zC (zV y6 (zV k5 (yA yH (pv 0) zQ (fun _ _=>rfl)) (yA yH (pv 1) zQ (fun _ _=>rfl))) (zV k5 (yA yH (pv 1) zQ (fun _ _=>rfl)) (yA yH (pv 0) zQ (fun _ _=>rfl))))
   (zC (zV k5 (yA yH (pv 0) zQ (fun _ _=>rfl)) (yA yH (pv 1) zQ (fun _ _=>rfl))) zD)))),?_⟩
  have l:=sp.up;have m:=c.up;have d:=sp.dn;have e:=c.dn
  refine⟨_,rfl,a,_,0,_,rfl,rfl,ha,rfl,_,rfl,b,_,1,_,rfl,rfl,hb,rfl,_,_,rfl,rfl,⟨sp.bu,c.bd⟩,?_⟩
  refine⟨_,rfl,b,_,0,_,rfl,rfl,hb,rfl,_,rfl,a,_,1,_,rfl,rfl,ha,rfl,_,_,rfl,rfl,⟨c.bu,sp.bd⟩,_,_,rfl,rfl,?_⟩
  refine⟨_,rfl,a,_,1,_,rfl,rfl,ha,rfl,_,rfl,b,_,1,_,rfl,rfl,hb,rfl,_,_,rfl,rfl,⟨sp.bd,c.bd⟩,?_⟩
  exact⟨_,_,rfl,ri (dZ l (bD e)) (dZ m (bD d)),cy d e,sp.prod c,k⟩
end
theorem zSA {ps:List (S×S)}{nx:S->List S}(N:Lts ps nx)(i:jD ps)(f:S->S->Int×Int)(o:Nat)(d:Int):∀a:List S,Ws nx f o d a=(Tx nx o a).map fun t=>(t,Wt f o d t):=by
 intro a
 induction b:a.length generalizing a with
 |zero=>
  have:a=[]:=c7.mp b
  subst this;rfl
 |succ n ih=>
  obtain⟨p,w,rfl⟩:∃p w,a=p++[w]:=by
   rcases gr a with z|⟨u,c,z⟩
   ·rw[z]at b;cases b
   ·exact⟨u,c,by simpa using z⟩
  have j:p.length=n:=by simpa using b
  rw[zPU,zBH,ih p j]
  unfold zAc zBG
  rw[pQ,pP]
  refine congrArg (fun g=>List.flatMap g (Tx nx o p)) ?_
  funext t
  rw[aV]
  refine dj fun l hl=>?_
  obtain⟨m,h⟩:=aG.mp hl
  have e:l≠[]:=fun z=>by rw[z]at h;simp[mf]at h
  obtain⟨c,rfl⟩:=kZ (i _ _ ((N.mem _ _).mp m)) e
  show(t++[c],_)=(t++[c],Wt f o d (t++[c]))
  rw[zCf]
noncomputable def yP (ps:List (S×S))(o:Nat)(U:Int)(M:List S):Int:=(M.map (Wn ps o (U^9))).sum
noncomputable def vZ (ps:List (S×S))(o:Nat)(pat:List S):List S:=(Tx (zN ps) o pat).filter fun t=>decide ((zI t o,[])∈ps)
noncomputable def qT (ps:List (S×S))(o:Nat)(x:S):Prop:=∀q∈yL o x,q∈ps
theorem zAI {ps:List (S×S)}(e:jD ps){o:Nat}{a:List S}{x:S}:x∈vZ ps o a↔yN a x=true/\qT ps o x:=by
 unfold vZ qT
 rw[aG,zBQ (lts ps) e,zCW]
 constructor
 ·rintro⟨⟨c,b⟩,f⟩
  refine⟨c,fun q d=>?_⟩
  rcases bt.mp d with z|z
  ·exact b q z
  ·rw[aS.mp z];exact of_decide_eq_true f
 ·rintro⟨c,b⟩
  exact⟨⟨c,fun q d=>b q (bY _ d)⟩,decide_eq_true (b _ (aX _ (by simp)))⟩
theorem zSB {ps:List (S×S)}(b:jD ps)(o:Nat)(a:List S):(vZ ps o a).Nodup:=(zQU (lts ps) b o a).filter _
theorem zJv {ps:List (S×S)}{o:Nat}{U:Int}{t:S}(h:(zI t o,[])∉ps):Wn ps o (U^9) t=0:=by
 unfold Wn
 rw[zDY h];simp[zT]
theorem zSC {ps:List (S×S)}(f:jD ps){o:Nat}{U:Int}(g:0<U)(d:∀e l,(zF ps e l).2∣U){c:List S}(i:c.length<=8) :
  tots (fun e h=>zT h (qG ps (zF ps) e)) (Ss (zN ps) (zF ps) o (U^9) c)=yP ps o U (vZ ps o c):=by
 have X:Exact (zN ps) (zF ps) U:=⟨fun e l _=>d e l,fun e l _=>(uU ps e l).dn⟩
 have R:Rel U o (8-c.length+1) (Ss (zN ps) (zF ps) o (U^9) c) (Ws (zN ps) (zF ps) o (U^9) c):=zPS X _ (by rw[show 8-c.length+1+c.length=9 by omega];exact o4 _)
 have e1:(fun e h=>zT h (qG ps (zF ps) e))=fun e h=>zT h (zF ps e []):=by
  funext e h;rw[zRy]
 rw[e1,R.sum _ ⟨fun e=>zIM _,fun e a b ha hb=>zIL (D:=U^(8-c.length+1)) (eI (d e []) ⟨U^(8-c.length),by rw[iX,eG]⟩) ha⟩,zSA (lts ps) f]
 show(((Tx (zN ps) o c).map fun t=>(t,Wt (zF ps) o (U^9) t)).map fun p=>zT p.2 (zF ps (zI p.1 o) [])).sum=_
 rw[aV]
 show((Tx (zN ps) o c).map (Wn ps o (U^9))).sum=_
 rw[zCY (fun t=>decide ((zI t o,[])∈ps)) (Wn ps o (U^9)) _ fun t _ h=>zJv (of_decide_eq_false h)]
 rfl
noncomputable def u7 (ps:List (S×S))(o lo hi:Nat)(hd tl:S):List S:=(yJ lo hi hd tl).flatMap (vZ ps o)
theorem zAi {ps:List (S×S)}(d:jD ps){o lo hi:Nat}{hd tl x:S}:x∈u7 ps o lo hi hd tl↔zAH lo hi hd tl x/\qT ps o x:=by
 unfold u7
 rw[aU,<-zRl]
 constructor
 ·rintro⟨p,a,e⟩
  obtain⟨b,c⟩:=(zAI d).mp e
  exact⟨⟨p,a,b⟩,c⟩
 ·rintro⟨⟨p,a,b⟩,c⟩
  exact⟨p,a,(zAI d).mpr ⟨b,c⟩⟩
theorem zFN {ps:List (S×S)}(a:jD ps)(o lo hi:Nat)(hd tl:S):(u7 ps o lo hi hd tl).Nodup:=by
 unfold u7
 rw[dm,dS]
 refine⟨fun p _=>zSB a o p,(zFD lo hi hd tl).imp fun{p q} b x c y d e=>?_⟩
 have f:=jE ((zAI a).mp c).1
 have g:=jE ((zAI a).mp d).1
 rw[e]at f
 exact b (by omega)
theorem zJw (ps:List (S×S))(o:Nat)(U:Int)(g:List S->List S):∀L:List (List S),yP ps o U (L.flatMap g)=(L.map fun p=>yP ps o U (g p)).sum
 | []=>rfl
 |p::L=>by
  rw[c9,aD,aT,<-zJw ps o U g L]
  unfold yP
  rw[aQ,gh]
noncomputable def yT (ps:List (S×S))(o:Nat)(M:List S):Int×Int:=M.foldl (fun w x=>zAz w (vS ps o x)) (0,1)
section
variable{ps:List (S×S)}{o:Nat}{U:Int}
theorem qU (a:0<U)(b:∀e l,(zF ps e l).2∣U){M:List S}(c:∀x∈M,x.length<=8):yT ps o M=low (yP ps o U M) (U^9)/\0<=yP ps o U M:=by
 have e:=zIU (o:=o) a b M 0 (by decide) c
 rw[zCO (dR a),oY]at e
 exact e
theorem zFO {M a:List S}(h:M.Perm a):yP ps o U M=yP ps o U a:=zPW (h.map _)
theorem zCt (x:S)(M:List S):yP ps o U (x::M)=Wn ps o (U^9) x+yP ps o U M:=by unfold yP;rw[aD,aT]
theorem zJx (M a:List S):yP ps o U (M++a)=yP ps o U M+yP ps o U a:=by unfold yP;rw[aQ,gh]
theorem zFP (a:0<U)(d:∀e l,(zF ps e l).2∣U):∀(M A:List S),M.Nodup->(∀x∈M,x∈A)->(∀x∈A,x.length<=8)->yP ps o U M<=yP ps o U A
 | [],A,_,_,c=>by
  have:=(qU (o:=o) a d c).2
  unfold yP at this⊢
  simpa using this
 |x::M,A,nd,f,c=>by
  obtain⟨g,h⟩:=bx.mp nd
  have i:=f x (aq ..)
  have p:=List.perm_cons_erase i
  rw[zFO p,zCt,zCt]
  have:=zFP a d M (A.erase x) h (fun y b=>(ju (fun z=>g (by rw[<-z];exact b))).mpr (f y (aw _ b))) fun y b=>c y (List.mem_of_mem_erase b)
  omega
theorem zFQ (c:0<U)(g:∀e l,(zF ps e l).2∣U){x:S}(i:x.length<=8)(h:¬qT ps o x):Wn ps o (U^9) x=0:=by
 obtain⟨a,b⟩:=zBI (o:=o) c g i
 have d:0<U^9:=dR c
 have m:¬0<(vS ps o x).1:=fun z=>h (zIH.mp z)
 have cr:=uL (u:=Wn ps o (U^9) x) d
 have f:=uM a d
 rw[b]at cr f
 have j:(vS ps o x).1=0:=by have:=f.up;omega
 rw[j,iW]at cr
 rcases qd.mp cr.symm with z|z
 ·exact z
 ·have:=f.dn;omega
theorem zSD (c:0<U)(i:∀e l,(zF ps e l).2∣U){x:S}(j:x.length<=8)(h:qT ps o x):0<Wn ps o (U^9) x:=by
 obtain⟨a,b⟩:=zBI (o:=o) c i j
 have d:0<U^9:=dR c
 have m:0<(vS ps o x).1:=zIH.mpr h
 have cr:=uL (u:=Wn ps o (U^9) x) d
 have f:=uM a d
 rw[b]at cr f
 have g:0<(vS ps o x).1*U^9:=cy m d
 rw[cr]at g
 exact iN g f.dn
theorem zJy (e:S):∀(ps:List (S×S)) (L:List S),L.Nodup->(L.map fun l=>ps.count (e,l)).sum<=tot ps e
 | [],L,_=>by
  have:∀L:List S,(L.map fun l=>([]:List (S×S)).count (e,l)).sum=0:=by
   intro L
   induction L with
   |nil=>rfl
   |cons a L ih=>rw[aD,aT,ih];rfl
  rw[this];exact bw _
 |p::ps,L,nd=>by
  have ih:=zJy e ps L nd
  have go:∀L:List S,L.Nodup->(L.map fun l=>(p::ps).count (e,l)).sum=(L.map fun l=>ps.count (e,l)).sum+(if p.1=e/\p.2∈L then 1 else 0):=by
   intro L
   induction L with
   |nil=>intro _;simp
   |cons a L d=>
    intro i
    obtain⟨f,g⟩:=bx.mp i
    rw[aD,aT,d g,aD,aT,m9]
    by_cases c:p=(e,a)
    ·have j:p.1=e:=by rw[c]
     have b:p.2=a:=by rw[c]
     rw[if_pos (by simpa using c),if_neg (fun z=>f (by rw[<-b];exact z.2)),if_pos ⟨j,by rw[b];exact aq ..⟩]
     omega
    ·rw[if_neg (by simpa using c)]
     by_cases b:p.1=e/\p.2∈L
     ·rw[if_pos b,if_pos ⟨b.1,aw _ b.2⟩];omega
     ·rw[if_neg b,if_neg]
      ·omega
      ·rintro⟨h,m⟩
       rcases aL.mp m with z|z
       ·exact c (fM h z)
       ·exact b ⟨h,z⟩
  rw[go L nd]
  have n:tot (p::ps) e=tot ps e+(if p.1=e then 1 else 0):=by
   unfold tot
   by_cases c:p.1=e
   ·rw[cc (by simpa using c),if_pos c,aM]
   ·rw[cg (by simpa using c),if_neg c,mQ]
  rw[n]
  by_cases c:p.1=e
  ·rw[if_pos c];split<;>omega
  ·rw[if_neg c,if_neg (fun z=>c z.1)];omega
theorem zSE {w:Int}{m:Nat}(b:∀e l,(zF ps e l).2∣U)(hd:U^(m+1)∣w)(e l:S):zT w (zF ps e l)*(tot ps e:Int)=w*(ps.count (e,l):Int):=by
 have ex:=zCX (b e l) hd
 have f:=uU ps e l
 by_cases c:ps.count (e,l)=0
 ·have a:zF ps e l=(0,1):=by unfold zF;rw[if_pos c]
  rw[a,c];simp[zT]
 ·have g:=j8 ps e l
  have a:zF ps e l=low (ps.count (e,l):Int) (tot ps e:Int):=by unfold zF;rw[if_neg c]
  have cr:=uL (u:=(ps.count (e,l):Int)) (d:=(tot ps e:Int)) (by omega)
  rw[<-a]at cr
  generalize zF ps e l=q at*
  have:(zT w q*(tot ps e:Int))*q.2=(w*(ps.count (e,l):Int))*q.2:=by
   calc (zT w q*(tot ps e:Int))*q.2=(zT w q*q.2)*(tot ps e:Int):=by ac_rfl
    _=(w*q.1)*(tot ps e:Int):=by rw[ex]
    _=w*(q.1*(tot ps e:Int)):=by ac_rfl
    _=w*((ps.count (e,l):Int)*q.2):=by rw[cr]
    _=(w*(ps.count (e,l):Int))*q.2:=by ac_rfl
  exact lC (by have:=f.dn;omega) this
theorem zSF {w:Int}{m:Nat}(f:∀e l,(zF ps e l).2∣U)(b:0<=w)(hd:U^(m+1)∣w)(e:S){L:List S}(nd:L.Nodup):(L.map fun l=>zT w (zF ps e l)).sum<=w:=by
 have go:∀L:List S,(L.map fun l=>zT w (zF ps e l)).sum*(tot ps e:Int)=w*((L.map fun l=>ps.count (e,l)).sum:Nat):=by
  intro L
  induction L with
  |nil=>simp
  |cons a L ih=>
   rw[aD,aT,aD,aT,lW,ih,zSE f hd,<-Int.mul_add]
   congr 1
 have g:=go L
 have j:=zJy e ps L nd
 by_cases c:tot ps e=0
 ·have hz:∀L:List S,(L.map fun l=>zT w (zF ps e l)).sum=0:=by
   intro L
   induction L with
   |nil=>rfl
   |cons a L ih=>
    have h:ps.count (e,a)=0:=by have:=j8 ps e a;omega
    have i:zF ps e a=(0,1):=by unfold zF;rw[if_pos h]
    rw[aD,aT,ih,i];simp[zT]
  rw[hz];exact b
 ·have d:w*((L.map fun l=>ps.count (e,l)).sum:Nat)<=w*(tot ps e:Int):=Int.mul_le_mul_of_nonneg_left (by omega) b
  rw[<-g]at d
  exact Int.le_of_mul_le_mul_right d (by omega)
noncomputable def gU (ps:List (S×S))(o:Nat)(U:Int)(n:Nat):Int:=((Tx (zN ps) o (aH n [])).map (Wt (zF ps) o (U^9))).sum
theorem zJz {α β:Type}(g:α->List β)(v:β->Int):∀L:List α,((L.flatMap g).map v).sum=(L.map fun a=>((g a).map v).sum).sum
 | []=>rfl
 |a::L=>by rw[c9,aQ,gh,zJz g v L,aD,aT]
theorem zKA {α:Type}{f g h:α->Int}:∀L:List α,(∀a∈L,f a+g a<=h a)->(L.map f).sum+(L.map g).sum<=(L.map h).sum
 | [],_=>by simp
 |a::L,hl=>by
  rw[aD,aT,aD,aT,aD,aT]
  have c:=hl a (aq ..)
  have d:=zKA L fun b hb=>hl b (aw _ hb)
  omega
theorem zSG (i:jD ps)(d:0<U)(j:∀e l,(zF ps e l).2∣U){n:Nat}(s:n<=8):yP ps o U (vZ ps o (aH n []))+gU ps o U (n+1)<=gU ps o U n:=by
 have tl:∀t∈Tx (zN ps) o (aH n []),t.length=n:=fun t f=>by
  have:=jE ((zBQ (lts ps) i o _ t).mp f).1
  rw[cV]at this;exact this
 have e1:gU ps o U (n+1)=((Tx (zN ps) o (aH n [])).map fun t=>(((zN ps (zI t o)).filter (mf [])).map fun l=>zT (Wt (zF ps) o (U^9) t) (zF ps (zI t o) l)).sum).sum:=by
  unfold gU
  rw[ic,zBH]
  unfold zBG
  rw[zJz]
  congr 1
  refine dj fun t _=>?_
  rw[aV]
  congr 1
  refine dj fun l hl=>?_
  obtain⟨q,p⟩:=aG.mp hl
  have g:l≠[]:=fun z=>by rw[z]at p;simp[mf]at p
  obtain⟨c,rfl⟩:=kZ (i _ _ ((uW _ _ _).mp q)) g
  exact zCf _ _ _ _ _
 have r:yP ps o U (vZ ps o (aH n []))=((Tx (zN ps) o (aH n [])).map (Wn ps o (U^9))).sum:=by
  rw[zCY (fun t=>decide ((zI t o,[])∈ps)) (Wn ps o (U^9)) _ fun t _ h=>zJv (of_decide_eq_false h)];rfl
 rw[e1,r]
 unfold gU
 refine zKA _ fun t f=>?_
 obtain⟨a,b⟩:=zBR (o:=o) d j (t:=t) (m:=8-n+1) (by rw[tl t f];omega)
 have h:=zSF j a b (zI t o) (L:=[]::(zN ps (zI t o)).filter (mf [])) (bx.mpr ⟨fun z=>by
  have:=(aG.mp z).2
  simp[mf]at this,(zCd ps _).filter _⟩)
 rw[aD,aT]at h
 exact h
theorem zSH (b:jD ps)(a:0<U)(c:∀e l,(zF ps e l).2∣U){n:Nat}(g:n<=9):0<=gU ps o U n:=by
 unfold gU
 have tl:∀t∈Tx (zN ps) o (aH n []),t.length=n:=fun t d=>by
  have:=jE ((zBQ (lts ps) b o _ t).mp d).1
  rw[cV]at this;exact this
 generalize Tx (zN ps) o (aH n [])=L at tl
 induction L with
 |nil=>simp
 |cons t L ih=>
  rw[aD,aT]
  have h:=(zBR (o:=o) a c (t:=t) (m:=9-n) (by rw[tl t (aq ..)];omega)).1
  have i:=ih fun u f=>tl u (aw _ f)
  omega
theorem zKB (b:jD ps)(a:0<U)(c:∀e l,(zF ps e l).2∣U):∀n,n<=9->yP ps o U ((bA n).flatMap fun i=>vZ ps o (aH i []))+gU ps o U n<=U^9
 |0,_=>by
  have:gU ps o U 0=U^9:=by
   show([U^9]:List Int).sum=_
   simp
  rw[this]
  show(0:Int)+_<=_
  omega
 |n+1,h=>by
  have ih:=zKB b a c n (by omega)
  have st:=zSG (o:=o) b a c (n:=n) (by omega)
  rw[dE,dN,zJx]
  have e:([n].flatMap fun i=>vZ ps o (aH i []))=vZ ps o (aH n []):=by simp
  rw[e]
  omega
theorem zSI (c:jD ps)(a:0<U)(d:∀e l,(zF ps e l).2∣U){M:List S}(nd:M.Nodup)(f:∀x∈M,x.length<=8):yP ps o U M<=U^9:=by
 have e:yP ps o U M=yP ps o U (M.filter fun x=>decide (x∈(bA 9).flatMap fun i=>vZ ps o (aH i []))):=by
  unfold yP
  refine zCY _ _ _ fun x b g=>zFQ a d (f x b) fun h=>?_
  refine absurd (aU.mpr ⟨x.length,bK.mpr (by have:=f x b;omega),(zAI c).mpr ⟨?_,h⟩⟩) (of_decide_eq_false g)
  exact(zFB _ _).mpr rfl
 rw[e]
 have j:=zFP (o:=o) a d (M.filter fun x=>decide (x∈(bA 9).flatMap fun i=>vZ ps o (aH i []))) _ (nd.filter _) (fun x b=>of_decide_eq_true (aG.mp b).2) fun x b=>by
  obtain⟨i,hi,b⟩:=aU.mp b
  have:=jE ((zAI c).mp b).1
  rw[cV]at this
  have:=bK.mp hi
  omega
 have m:=zKB (o:=o) c a d 9 (aC _)
 have p:=zSH (o:=o) c a d (n:=9) (aC _)
 omega
theorem zAj (l:jD ps)(c:Unit9 ps U){M:List S}(nd:M.Nodup)(h:∀x∈M,x.length<=8):FG (yT ps o M)/\lss (1,1) (yT ps o M)=false/\Fq (yT ps o M):=by
 obtain⟨e,i⟩:=qU (o:=o) c.pos c.dvd h
 have d:0<U^9:=dR c.pos
 have g:=zSI (o:=o) l c.pos c.dvd nd h
 rw[e]
 have f:=uM i d
 obtain⟨l1,l2⟩:=zDW i d
 have j:U^9<=2^540:=zFJ c.pos c.le
 have p:=k7 (a:=540) (b:=1000) (by decide)
 refine⟨⟨f.up,f.dn,by omega,by omega⟩,?_,f⟩
 have cr:=uL (u:=yP ps o U M) d
 generalize low (yP ps o U M) (U^9)=q at*
 unfold lss
 refine decide_eq_false fun z=>?_
 have m:q.2<q.1:=by simpa using z
 have n:q.2*U^9<q.1*U^9:=ko m d
 rw[cr]at n
 have r:yP ps o U M*q.2<=U^9*q.2:=dI g (bD f.dn)
 have s:U^9*q.2=q.2*U^9:=eG ..
 omega
end
theorem FG.of_le {q:Int×Int}(h:Fq q)(c:q.1<=q.2)(d:q.2<1267650600228229401496703205376):FG q:=by
 have e:(1267650600228229401496703205376:Int)=2^100:=by decide
 have f:=k7 (a:=100) (b:=1000) (by decide)
 exact⟨h.up,h.dn,by omega,by omega⟩
theorem zSJ {n k:Nat}(a:n<=72)(b:1<=n)(c:k<=9):n^k<=51998697814228992:=by
 have d:n^k<=n^9:=jw b c
 have f:n^9<=72^9:=Nat.pow_le_pow_left a 9
 have e:72^9=51998697814228992:=by decide
 omega
theorem zKC {ps:List (S×S)}(b:1<=ps.length)(c:ps.length<=72){a:List (S×S)}(d:a.length<=9):FG (qO ps a):=by
 have e:=zOm b a
 have f:=zSJ c b d
 exact .of_le (zOn ..) (zOo ..) (by omega)
theorem zSK {bk:List S}{o:Nat}{x:S}(hb:Bk bk o)(a:x.length<=8):FG (vS (zA o bk) o x):=by
 unfold vS
 exact zKC (zBi hb).1 (zBK hb) (by rw[zBD];omega)
section
variable{P:aJ}{w:bh}{K:ag}{mg:Str->Option aj}{base:bF}
noncomputable def zKD (K:ag):Sp:=fun vs H Q _=>∃(x y:V) (p q:Int×Int),vs=[x,y]/\z8 K H x p/\z8 K H y q/\FG p/\FG q/\∀a,H a=none->Q (.ref a) (upd H a (jW (vJ p q)))
theorem zSL {f:ak}{fd:bc}(F:Fun K "times" "times" zDw f fd)(d:zS P w K mg base 2 "lowest" ["up","down"] zAh):FnOk P w K mg base z0 3 f fd ["one","other"] (zKD K):=by
 refine F.ok zOf (fun vs H Q E h=>?_) (fun e A outer s H vs Q E g h=>?_)
 ·obtain⟨x,y,p,q,rfl,_⟩:=h;rfl
 ·obtain⟨x,y,p,q,rfl,⟨a,rfl,ha⟩,⟨b,rfl,hb⟩,sp,c,k⟩:=h
  refine⟨_,zL (z5 (zH d g rfl (zC (zV k5 (yA yH (pv 0) zQ (fun _ _=>rfl)) (yA yH (pv 1) zQ (fun _ _=>rfl)))
   (zC (zV k5 (yA yH (pv 0) zQ (fun _ _=>rfl)) (yA yH (pv 1) zQ (fun _ _=>rfl))) zD)))),?_⟩
  refine⟨_,rfl,a,_,0,_,rfl,rfl,ha,rfl,_,rfl,b,_,0,_,rfl,rfl,hb,rfl,_,_,rfl,rfl,⟨sp.bu,c.bu⟩,?_⟩
  refine⟨_,rfl,a,_,1,_,rfl,rfl,ha,rfl,_,rfl,b,_,1,_,rfl,rfl,hb,rfl,_,_,rfl,rfl,⟨sp.bd,c.bd⟩,?_⟩
  exact⟨_,_,rfl,dZ sp.up c.up,cy sp.dn c.dn,sp.prod c,k⟩
noncomputable def zFR (K:ag):Sp:=fun vs H Q _=>∃(d:ak) (ps:List (S×S)) (o:Nat) (nm:S),vs=[.ref d,.int o,sv nm]/\jQ H d ps/\1<=ps.length/\ps.length<=72/\1<=o/\nm.length<=8/\
 ∀v H',zB H H'->z8 K H' v (vS ps o nm)->Q v H'
theorem zSM {f:ak}{fd:bc}(F:Fun K "share_by_rows" "share_by_rows" zED f fd)(C:Cst2 K mg)(m:zS P w K mg base 4 "steps_by_rows" ["rows","order","name"] (zHt K))(J:zS P w K mg base 3 "times" ["one","other"] (zKD K)) :
  FnOk P w K mg base z0 5 f fd ["rows","order","name"] (zFR K):=by
 obtain⟨D,L,M⟩:=C.whole
 refine F.ok zHu (fun vs H Q E h=>?_) (fun N A outer s H vs Q E G h=>?_)
 ·obtain⟨d,ps,o,nm,rfl,_⟩:=h;rfl
 ·obtain⟨d,ps,o,nm,rfl,O,a,n,R,hl,k⟩:=h
  have q:=G.mono (j:=3) (by decide)
  have nd:=zHu.nd
  refine⟨_,zR (yC (i:=3) nd rfl (Or.inl rfl) (yR (v:=.ref D) (by rfl) L rfl))
   (zR (vX bE rfl (qY (zH m G rfl (zC (pv 0) (zC (pv 1) (zC (pv 2) zD))))) (yB (i:=4) nd rfl (Or.inl rfl))
    (zL (yC (i:=3) nd rfl (Or.inl rfl) (zH J q rfl (zC (pv 3) (zC (yA yH (pv 4) zQ (fun _ _=>rfl)) zD))))))
   (zL (z5 (pv 3)))),?_⟩
  refine⟨_,rfl,_,rfl,_,rfl,d,ps,o,nm,rfl,O,by omega,R,by omega,fun l xs T sml U c I=>?_⟩
  refine⟨l,rfl,⟨_,.of c⟩,?_⟩
  have r:xs.length=nm.length+1:=by have:=I.length;rw[<-this,ai,zBD]
  refine qN (q8 K l xs) (fun i σ e=>∃(v:V) (y:Option V),σ=[some (.ref d),some (.int o),some (sv nm),some v,y]/\zB T e/\z8 K e v (qO ps ((yL o nm).take i)))
   ⟨_,_,rfl,zB.refl _,⟨D,rfl,M _⟩⟩ (fun i σ H' _ h=>by obtain⟨_,_,_,h,_⟩:=h;exact .of (h _ _ c)) ?_ ?_
  ·rintro i x σ e Nx W X ⟨v,y,rfl,g,fr⟩
   obtain⟨p,t,u,ep,rfl,z,Y⟩:=zOq (Reps.same g _ _ I) X
   have B:i<(yL o nm).length:=(ah.mp ep).1
   have Z:i<nm.length+1:=by rw[zBD]at B;exact B
   have s1:FG (qO ps ((yL o nm).take i)):=zKC a n (by rw[aZ];omega)
   have aa:=zDZ p.1 p.2 a
   have s2:FG (zF ps p.1 p.2):=.of_le (uU ..) (zHc ..) (by omega)
   refine⟨_,rfl,_,rfl,t,_,2,u,rfl,rfl,z,rfl,v,u,_,_,rfl,fr,Y,s1,s2,fun b hb=>W _ _ ⟨_,_,rfl,g.trans (zB.upd1 hb),?_⟩⟩
   rw[aA B,(ah.mp ep).2,zOp]
   exact z8.new
  ·rintro σ e ⟨v,y,rfl,g,fr⟩
   refine⟨_,rfl,k v e (sml.trans g) ?_⟩
   have e1:(yL o nm).take xs.length=yL o nm:=by rw[r,<-zBD o nm,bo]
   rw[e1]at fr
   exact fr
noncomputable def zKE (K:ag):Sp:=fun vs H Q _=>∃(a:ak) (bk:List S) (o:Nat) (nm:S),vs=[.ref a,.int o,sv nm]/\H a=some (.tup (zP bk))/\Bk bk o/\y9 nm/\
 ∀v H',zB H H'->z8 K H' v (vS (zA o bk) o nm)->Q v H'
theorem zSN {f:ak}{fd:bc}(F:Fun K "share" "share" zEE f fd)(N:Needs P w K mg base)(e:zS P w K mg base 5 "share_by_rows" ["rows","order","name"] (zFR K)) :
  FnOk P w K mg base z0 6 f fd ["book","order","name"] (zKE K):=by
 refine F.ok zOr (fun vs H Q E h=>?_) (fun l A outer s H vs Q E g h=>?_)
 ·obtain⟨d,ps,o,nm,rfl,_⟩:=h;rfl
 ·obtain⟨a,bk,o,nm,rfl,ha,hb,i,k⟩:=h
  have b:=g.mono (j:=3) (by decide)
  have hr2:=g.mono (j:=2) (by decide)
  refine⟨_,zR (v3 (zH N.bk b rfl (zC (pv 0) zD))) (zR (v3 (zH N.od b rfl (zC (pv 1) zD))) (zR (v3 (zH N.nm hr2 rfl (zC (pv 2) zD)))
   (zL (z5 (zH e g rfl (zC (zH N.rows b rfl (zC (pv 0) (zC (pv 1) zD))) (zC (pv 1) (zC (pv 2) zD)))))))),?_⟩
  refine⟨_,rfl,a,bk,rfl,ha,hb.toisBk,fun t m=>?_⟩
  refine⟨_,rfl,o,rfl,hb.o1,hb.o3,?_⟩
  refine⟨_,rfl,nm,rfl,i,fun u n=>?_⟩
  have c:=m.trans n
  refine⟨_,rfl,_,rfl,a,bk,o,rfl,c _ _ ha,hb.hi,hb.l8,hb.o1,fun d x p hd R=>?_⟩
  exact⟨_,rfl,_,rfl,d,_,o,nm,rfl,R,(zBi hb).1,zBK hb,hb.o1,i.2.1,fun v q r fr=>k v q ((c.trans p).trans r) fr⟩
end
end Kn.Ln
end
section
namespace Kn
open PySem L2
theorem zCu:∀l:List S,jZ l=true↔l.Pairwise (· < ·)
 | []=>by simp[jZ]
 | [x]=>by simp[jZ]
 |x::y::l=>by
  have ih:=zCu (y::l)
  have e:jZ (x::y::l)=(decide (x<y)&&jZ (y::l)):=by simp[jZ]
  rw[e,bj,decide_eq_true_eq,ih]
  constructor
  ·rintro⟨a,b⟩
   refine cM.mpr ⟨fun z hz=>?_,b⟩
   rcases aL.mp hz with rfl|hz
   ·exact a
   ·exact n8 a ((cM.mp b).1 z hz)
  ·intro h
   exact⟨(cM.mp h).1 y (aq ..),(cM.mp h).2⟩
noncomputable def kI:List S:=[[97],[97,97],[97,98],[98],[98,97],[122]]
noncomputable def k8:List S:=[[],[],[97],[98],[97,98],[97,98,97],[122]]
theorem zSO:[V.str "a",V.str "aa",V.str "ab",V.str "b",V.str "ba",V.str "z"]=zP kI:=by
 have e1:("a" : Str)=tx [97]:=by decide+kernel
 have c:("aa" : Str)=tx [97,97]:=by decide+kernel
 have d:("ab" : Str)=tx [97,98]:=by decide+kernel
 have e:("b" : Str)=tx [98]:=by decide+kernel
 have f:("ba" : Str)=tx [98,97]:=by decide+kernel
 have g:("z" : Str)=tx [122]:=by decide+kernel
 rw[e1,c,d,e,f,g];rfl
theorem zSP:[V.str "",V.str "",V.str "a",V.str "b",V.str "ab",V.str "aba",V.str "z"]=zP k8:=by
 have c:("" : Str)=tx []:=by decide+kernel
 have e1:("a" : Str)=tx [97]:=by decide+kernel
 have d:("ab" : Str)=tx [97,98]:=by decide+kernel
 have e:("b" : Str)=tx [98]:=by decide+kernel
 have f:("aba" : Str)=tx [97,98,97]:=by decide+kernel
 have g:("z" : Str)=tx [122]:=by decide+kernel
 rw[c,e1,d,e,f,g];rfl
theorem zKF:kI.Pairwise (· < ·)/\∀x∈kI,y9 x:=by
 refine⟨(zCu _).mp (by decide),fun x a=>?_⟩
 unfold kI at a
 simp only[aL,eD,or_false]at a
 rcases a with rfl|rfl|rfl|rfl|rfl|rfl<;>(refine⟨by decide,by decide,?_⟩;decide)
theorem zSQ:∀x∈k8,x=[]\/(y9 x/\x.length<=3):=fun x a=>by
 unfold k8 at a
 simp only[aL,eD,or_false]at a
 rcases a with rfl|rfl|rfl|rfl|rfl|rfl|rfl
 ·exact .inl rfl
 ·exact .inl rfl
 all_goals (refine .inr ⟨⟨by decide,by decide,?_⟩,by decide⟩;decide)
theorem zSR {l:List S}(h:l.Sublist kI):l.length<=6/\(∀x∈l,y9 x)/\jZ l=true :=
 ⟨h.length_le,fun x a=>zKF.2 x (h.subset a),(zCu _).mpr (zKF.1.sublist h)⟩
section
variable{P:aJ}{w:bh}{K:ag}{mg:Str->Option aj}{base:bF}
noncomputable def zKG (K:ag):Sp:=fun vs H Q _=>∃(a:ak) (ns:List Int) (at':Nat),vs=[.ref a,.int at']/\yG K H a (ns.map V.int)/\ns.length<=63/\
 ∀(p:ak) (lo hi:Int) (hd tl:S) (ba:List S) (to:Bool) (H':Hp),zB H H'->GW lo hi hd tl ba->(lo<=3/\hi<=4/\hd∈k8/\tl∈k8/\ba.Sublist kI)->uD H' p lo hi hd tl ba to->Q (.ref p) H'
noncomputable abbrev sLW:cJ:=top 82
theorem zKH:FnScope ["_law_script","_law_at","_law_least","_law_most","_law_ends","_law_barred","_law_k","_law_name_here","_law_head"] ["_law_script","_law_at"] (defScope sLW):=yE
theorem zSS {f:ak}{fd:bc}(F:Fun K "_law_wish" "_law_wish" sLW f fd)(B:Blt mg)(ap:mg "enumerate"=none)(N:zS P w K mg base 2 "_law_drawn" ["_law_script","_law_k","_law_many"] (zCU K)):FnOk P w K mg base z0 3 f fd ["_law_script","_law_at"] (zKG K):=by
 refine F.ok zKH (fun vs H Q E h=>?_) (fun a9 A outer s H vs Q E O h=>?_)
 ·obtain⟨a,ns,c,rfl,_⟩:=h;rfl
 ·obtain⟨a,ns,c,rfl,l,m,k⟩:=h
  have nd:=zKH.nd
  refine⟨_,zR (yC (i:=2) nd rfl (Or.inl rfl) (zV y6 zQ (zH N O rfl (zC (pv 0) (zC (pv 1) (zC zQ zD))))))
   (zR (yC (i:=3) nd rfl (Or.inl rfl) (zV y6 (pv 2) (zH N O rfl (zC (pv 0) (zC (zV y6 (pv 1) zQ) (zC (zV zBx zQ (pv 2)) zD))))))
   (zR (yC (i:=4) nd rfl (Or.inl rfl) (uJ (zC vD (zC vD (zC vD (zC vD (zC vD (zC vD (zC vD zD)))))))))
   (zR (yC (i:=5) nd rfl (Or.inl rfl) (uJ zD))
   (zR (vX bE rfl (zNL rfl ap (zC (uJ (zC vD (zC vD (zC vD (zC vD (zC vD (zC vD zD))))))) zD)) (gE rfl (yW (yB (i:=6) nd rfl (Or.inl rfl)) (yW (yB (i:=7) nd rfl (Or.inl rfl)) qA)))
    (zL (y0 (qB zAo (zH N O rfl (zC (pv 0) (zC (zV y6 (zV y6 (pv 1) zQ) (pv 6)) (zC zQ zD)))) zQ (vN _))
     (zL (v3 (jM c8 fJ fK zBz (pv 5) (zC (pv 7) zD)))) yZ)))
   (zR (yC (i:=8) nd rfl (Or.inl rfl) (yA zBy (pv 4) (zH N O rfl (zC (pv 0) (zC (zV y6 (pv 1) zQ) (zC zQ zD)))) (fun _ _=>rfl)))
   (zL (z5 (uA (zC (pv 2) (zC (pv 3) (zC (pv 8) (zC (yA zBy (pv 4) (zH N O rfl (zC (pv 0) (zC (zV y6 (pv 1) zQ) (zC zQ zD)))) (fun _ _=>rfl))
    (zC (zAr zMO (by rfl) B.tuple fS (zC (pv 5) zD)) (zC (jK zAo (zH N O rfl (zC (pv 0) (zC (zV y6 (pv 1) zQ) (zC zQ zD)))) zQ (vN _)) zD)))))))))))))),?_⟩
  refine⟨_,rfl,_,rfl,a,ns,c,3,rfl,l,m,by decide,by decide,fun t H1 bb s1=>?_⟩
  refine⟨_,_,rfl,rfl,_,rfl,_,rfl,_,rfl,_,_,rfl,rfl,_,rfl,_,_,rfl,rfl,a,ns,c+1,4-t,?_,s1.seq l,m,by omega,by omega,fun d1 H2 be as=>?_⟩
  ·have e1:((c+1:Nat):Int)=(c:Int)+1:=by omega
   have e2:((4-t:Nat):Int)=5- (1+(t:Int)):=by omega
   rw[e1,e2];rfl
  have s2:=s1.trans as
  refine⟨_,_,rfl,rfl,?_⟩
  refine⟨by show 7<=sizeLine;decide,fun R ax=>?_⟩
  have u:(upd H2 R (.lst [V.str "",V.str "",V.str "a",V.str "b",V.str "ab",V.str "aba",V.str "z"])) R=some (.lst (zP k8)):=by rw[zE,zSP]
  have s3:=s2.trans (zB.upd1 (o:=.lst [V.str "",V.str "",V.str "a",V.str "b",V.str "ab",V.str "aba",V.str "z"]) ax)
  generalize upd H2 R (.lst [V.str "",V.str "",V.str "a",V.str "b",V.str "ab",V.str "aba",V.str "z"])=HA at s3 u⊢
  refine⟨by show 0<=sizeLine;decide,fun g hg=>?_⟩
  refine⟨by show 6<=sizeLine;decide,fun en j=>⟨en,_,rfl,zE,?_⟩⟩
  have neg:en≠g:=fun z=>by subst z;rw[zE]at j;cases j
  refine zNM (K:=K) (xs:=[V.str "a",V.str "aa",V.str "ab",V.str "b",V.str "ba",V.str "z"]) (fun i σ v=>∃(y z:Option V) (r:List S),σ=[some (.ref a),some (.int (c:Int)),some (.int (1+(t:Int))),some (.int (1+(t:Int)+(d1:Int))),some (.ref R),some (.ref g),y,z,none]/\zB HA v/\v g=some (.lst (zP r))/\
    v en=some (.lst [V.str "a",V.str "aa",V.str "ab",V.str "b",V.str "ba",V.str "z"])/\r.Sublist (kI.take i))
   ⟨_,_,[],rfl,(zB.upd1 hg).trans (zB.upd1 j),(zB.upd1 j) _ _ zE,zE,List.nil_sublist _⟩ (fun i σ v _ h=>by obtain⟨_,_,_,_,_,_,h,_⟩:=h;exact .of h) ?_ ?_
  ·rintro i x T σ v Nx hN U ⟨y,z,r,rfl,sm,G,C,e⟩ hT
   have t1:zB v (upd v T (.tup [.int i,x])):=zB.upd1 hT
   refine⟨T,_,rfl,.of zE,rfl,_,_,rfl,_,_,rfl,rfl,?_⟩
   have W:=sm.trans t1
   have aK:=t1 _ _ G
   have aN:=t1 _ _ C
   rw[zSO]at U
   obtain⟨nm,X,rfl⟩:=zCl U
   have hi:i<kI.length:=(ah.mp X).1
   have bi:i<6:=hi
   have Y:kI.take (i+1)=kI.take i++[nm]:=by rw[aA hi,(ah.mp X).2]
   refine⟨_,rfl,_,rfl,_,_,rfl,rfl,_,rfl,_,_,rfl,rfl,a,ns,c+4+i,3,?_,(s3.trans W).seq l,m,by decide,by decide,fun d H3 hd I=>?_⟩
   ·have e1:((c+4+i:Nat):Int)=(c:Int)+4+(i:Int):=by omega
    rw[e1];rfl
   have Z:=W.trans I
   have J:=I _ _ aK
   have ac:=I _ _ aN
   refine⟨rfl,_,rfl,?_⟩
   by_cases hz:(d:Int)=0
   ·have e0:decide (V.int (d:Int)=V.int 0)=true:=decide_eq_true (by rw[hz])
    rw[e0]
    refine uQ ?_
    have bm:r.length<=6:=bJ e.length_le (by rw[aZ];omega)
    refine⟨_,rfl,.inl ⟨rfl,_,.of J⟩,_,rfl,g,_,_,rfl,rfl,J,by unfold zP;rw[ai,aI];omega,hN _ _ ⟨_,_,r++[nm],rfl,Z.upd_new hg,by rw[zE];unfold zP;rw[aQ];rfl,by rw[zG neg];exact ac,?_⟩⟩
    rw[Y]
    exact e.append (vi _)
   ·have e0:decide (V.int (d:Int)=V.int 0)=false:=decide_eq_false (fun q=>hz (by injection q))
    rw[e0]
    refine vA (hN _ _ ⟨_,_,r,rfl,Z,J,ac,?_⟩)
    rw[Y]
    exact e.trans (List.sublist_append_left _ _)
  ·rintro σ v ⟨y,z,r,rfl,sm,G,C,e⟩
   have n:r.Sublist kI:=e
   obtain⟨b1,b2,b3⟩:=zSR n
   have sH:=s3.trans sm
   refine⟨_,rfl,_,rfl,_,rfl,_,_,rfl,rfl,a,ns,c+2,7,?_,sH.seq l,m,by decide,by decide,fun d2 H4 aW I=>?_⟩
   ·have e1:((c+2:Nat):Int)=(c:Int)+2:=by omega
    rw[e1];rfl
   have al:=sH.trans I
   have D:=I _ _ (sm _ _ u)
   have a0:=I _ _ G
   have am:∀{d:Nat},d<7->∃x,k8[d]?=some x/\(zP k8)[d]?=some (sv x)/\(x=[]\/(y9 x/\x.length<=3)):=fun{d} hd=>by
    have L:d<k8.length:=hd
    refine⟨k8[d],av L,?_,zSQ _ (cq L)⟩
    unfold zP
    rw[ar,av L];rfl
   obtain⟨U,hx1,hx2,a1⟩:=am aW
   refine⟨R,_,(d2:Int),sv U,rfl,rfl,.of D,zBZ hx2,?_⟩
   refine⟨_,rfl,_,rfl,_,rfl,_,rfl,_,rfl,_,rfl,_,_,rfl,rfl,a,ns,c+3,7,?_,al.seq l,m,by decide,by decide,fun d3 H5 a2 s5=>?_⟩
   ·have e1:((c+3:Nat):Int)=(c:Int)+3:=by omega
    rw[e1];rfl
   obtain⟨M,a3,a4,a5⟩:=am a2
   have a6:=al.trans s5
   have a7:=s5 _ _ a0
   refine⟨R,_,(d3:Int),sv M,rfl,rfl,.of (s5 _ _ D),zBZ a4,?_⟩
   refine⟨_,rfl,g,_,rfl,.inl ⟨.of a7,fun pt a8=>?_⟩⟩
   have t6:=zB.upd1 (o:=.tup (zP r)) a8
   have an:=a6.trans t6
   refine⟨_,rfl,_,rfl,_,_,rfl,rfl,a,ns,c+10,2,?_,an.seq l,m,by decide,by decide,fun d4 H7 bn s7=>?_⟩
   ·have e1:((c+10:Nat):Int)=(c:Int)+10:=by omega
    rw[e1];rfl
   refine⟨rfl,by show 6<=sizeLine;decide,fun p hp=>?_⟩
   have t8:=zB.upd1 (o:=.tup [.int (1+(t:Int)),.int (1+(t:Int)+(d1:Int)),sv U,sv M,.ref pt,.bl (decide (V.int (d4:Int)=V.int 0))]) hp
   refine k p (1+(t:Int)) (1+(t:Int)+(d1:Int)) U M r (decide (V.int (d4:Int)=V.int 0)) _ ((an.trans s7).trans t8) ⟨by omega,by omega,by omega,a1,a5,b1,b2,b3⟩ ⟨by omega,by omega,aY hx1,aY a3,n⟩ ⟨pt,zE,t8 _ _ (s7 _ _ zE)⟩
end
noncomputable def zFS (f:bS->Option d5):List bS->Option (List d5)
 | []=>some []
 |e::es=>(f e).bind fun d=>(zFS f es).map fun ds=>d::ds
noncomputable def lit:Nat->bS->Option d5
 |0,_=>none
 |n+1,e=>match e with
  | .Constant (.int i) _ _=>some (.int i)
  | .Constant (.bool b) _ _=>some (.bool b)
  | .Constant .none _ _=>some .none
  | .Constant (.str x) _ _=>some (.str x)
  | .Tuple es _ _=>if es.length<=900 then(zFS (lit n) es).map .tuple else none
  | .List es _=>if es.length<=900 then(zFS (lit n) es).map .list else none
  |_=>none
noncomputable def zKI:bS->Bool
 | .Starred ..=>false
 |_=>true
theorem zST {e:bS}{a:List bS}(h:zKI e=true)(env):starEach (e::a) env=(false,eval e env)::starEach a env:=by
 cases e<;>first|rfl|(cases h)
section
variable{X:Cx}{e:bS}{es:List bS}{te:TE}{t:TA}{pos:Pos}
theorem zY (ha:PE X e te)(a:PA X es t)(b:zKI e=true:=by rfl):PA X (e::es) (zGA te t):=zC ha a (zST b _)
end
noncomputable def jT (n:Nat)(d:d5):Prop:=sml d=true/\d.canLay0=true/\d.depth<=n
theorem jT.sh {n:Nat}{d:d5}(h:jT n d)(a:n<=64):ip d=true:=by
 unfold ip
 rw[h.2.1,decide_eq_true (show d.depth<=64 by have:=h.2.2;omega)];rfl
theorem jT.mono {n m:Nat}{d:d5}(h:jT n d)(a:n<=m):jT m d:=⟨h.1,h.2.1,bJ h.2.2 a⟩
theorem zKJ {ds:List d5}{n:Nat}(h:∀d∈ds,jT n d):smls ds=true/\dP ds=true/\kb ds<=n:=by
 induction ds with
 |nil=>exact⟨rfl,rfl,bw _⟩
 |cons d ds ih=>
  obtain⟨a,b,i⟩:=h d (aq ..)
  obtain⟨c,f,j⟩:=ih fun e g=>h e (aw _ g)
  refine⟨by simp only[smls,a,c,ma],by simp only[dP,b,f,ma],?_⟩
  simp only[kb];omega
theorem uC {ds:List d5}{n:Nat}(h:∀d∈ds,jT n d)(hl:ds.length<=900):jT (n+1) (.tuple ds):=by
 obtain⟨a,b,c⟩:=zKJ h
 refine⟨by simp only[sml,a,sQ];exact decide_eq_true hl,by simp only[eJ];exact b,?_⟩
 simp only[iY];omega
theorem okL {ds:List d5}{n:Nat}(h:∀d∈ds,jT n d)(hl:ds.length<=900):jT (n+1) (.list ds):=by
 obtain⟨a,b,c⟩:=zKJ h
 refine⟨by simp only[sml,a,sQ];exact decide_eq_true hl,by simp only[eJ];exact b,?_⟩
 simp only[iY];omega
theorem zSU {x:S}(h:∀c∈x,c<=122)(hl:x.length<=900):jT 5 (.str (tx x)):=by
 refine⟨?_,by simp only[eJ];exact zOz h,by simp only[iY];decide⟩
 simp only[sml,yF,uN,bj,decide_eq_true_eq,iq]
 exact⟨hl,fun c a=>by have:=h c a;omega⟩
end Kn
end
section
namespace Kn.Ln
open PySem L2 Kn
theorem zKK (x y:S)(i:Nat):pk (tx x) (tx y) i=decide ((x.drop i).take y.length=y):=by
 unfold pk
 have e:(tx x).cps.extract i (i+(tx y).length)=((x.drop i).take y.length).toArray:=by
  apply jf.mp
  rw[Array.toList_extract,uN,yF,List.extract_eq_take_drop]
  simp
 rw[e]
 have a:(tx y).cps=y.toArray:=by
  apply jf.mp
  rw[uN]
 rw[a,dC,beq_iff_eq,decide_eq_true_eq]
 exact⟨fun h=>by simpa using congrArg oB h,fun h=>by rw[h]⟩
theorem zSV (x h:S):i9 (tx x) (tx h)=decide (x.take h.length=h):=by
 unfold i9
 rw[zKK,yF,yF,eK,dC,bj]
 simp only[decide_eq_true_eq]
 constructor
 ·exact fun q=>q.2
 ·intro q
  refine⟨?_,q⟩
  have:=congrArg fU q
  rw[aZ]at this
  omega
theorem zSW (x t:S):kl (tx x) (tx t)=decide (zI x t.length=t):=by
 unfold kl zI
 rw[zKK,yF,yF,dC,bj]
 simp only[decide_eq_true_eq]
 constructor
 ·rintro⟨b,a⟩
  rw[eu (by rw[bV];omega)]at a
  exact a
 ·intro q
  have:=congrArg fU q
  rw[bV]at this
  refine⟨by omega,?_⟩
  rw[eu (by rw[bV];omega)]
  exact q
theorem zAJ {lo hi:Nat}{hd tl x:S}:jF (lo:Int) (hi:Int) hd tl x=true↔zAH lo hi hd tl x:=by
 unfold jF zAH
 rw[zSV,zSW]
 simp only[bj,decide_eq_true_eq]
 constructor
 ·rintro⟨⟨c,d⟩,a,b⟩;exact⟨by omega,by omega,a,b⟩
 ·rintro⟨c,d,a,b⟩;exact⟨⟨by omega,by omega⟩,a,b⟩
noncomputable def zCv (p q:Int×Int):Int×Int:=low (p.1*q.2-q.1*p.2) (p.2*q.2)
theorem zKL {T a b:Int}(c:0<T)(hb:0<=b)(f:b<=a):(low b T).1*(low a T).2<=(low a T).1*(low b T).2/\zCv (low a T) (low b T)=low (a-b) T:=by
 have g:=uL (u:=a) c
 have h:=uL (u:=b) c
 have i:=uM (u:=a) (by omega) c
 have j:=uM hb c
 unfold zCv
 generalize low a T=p at*
 generalize low b T=q at*
 have d:0<p.2*q.2:=cy i.dn j.dn
 have e1:(p.1*q.2-q.1*p.2)*T=(a-b)*(p.2*q.2):=by
  rw[um,um]
  have e:p.1*q.2*T=a*(p.2*q.2):=by
   calc p.1*q.2*T=(p.1*T)*q.2:=by ac_rfl
    _=(a*p.2)*q.2:=by rw[g]
    _=a*(p.2*q.2):=by ac_rfl
  have l:q.1*p.2*T=b*(p.2*q.2):=by
   calc q.1*p.2*T=(q.1*T)*p.2:=by ac_rfl
    _=(b*q.2)*p.2:=by rw[h]
    _=b*(p.2*q.2):=by ac_rfl
  rw[e,l]
 have m:0<=(p.1*q.2-q.1*p.2)*T:=by rw[e1];exact dZ (by omega) (bD d)
 have e:0<=p.1*q.2-q.1*p.2:=Int.nonneg_of_mul_nonneg_left m c
 exact⟨by omega,zDV e d (by omega) c e1⟩
theorem nm8 {x:S}(h:y9 x):x.length<=8:=h.2.1
theorem zSX {o:Nat}{bk out N:List S}{i:Nat}{nm:S}(j:(zA o bk).length<=60)(nd:N.Nodup)(r:∀x∈N,x.length<=8)(s:∀x∈N,qT (zA o bk) o x)(l:qT (zA o bk) o nm->nm∈N)(t:out.Nodup)(hi:out[i]?=some nm)(q:nm.length<=8) :
  (vS (zA o bk) o nm).1*(yT (zA o bk) o (N.filter fun x=>decide (x∉out.take i))).2<=(yT (zA o bk) o (N.filter fun x=>decide (x∉out.take i))).1*(vS (zA o bk) o nm).2/\
  zCv (yT (zA o bk) o (N.filter fun x=>decide (x∉out.take i))) (vS (zA o bk) o nm)=yT (zA o bk) o (N.filter fun x=>decide (x∉out.take (i+1))):=by
 obtain⟨U,d⟩:=k6 j
 have u:0<U^9:=dR d.pos
 have l8:∀(f:S->Bool),∀x∈N.filter f,x.length<=8:=fun f x m=>r x (aG.mp m).1
 obtain⟨e1,A⟩:=qU (o:=o) d.pos d.dvd (l8 fun x=>decide (x∉out.take i))
 obtain⟨v,B⟩:=qU (o:=o) d.pos d.dvd (l8 fun x=>decide (x∉out.take (i+1)))
 obtain⟨w,y⟩:=zBI (o:=o) d.pos d.dvd q
 have e:out.take (i+1)=out.take i++[nm]:=by
  rw[aA (ah.mp hi).1,(ah.mp hi).2]
 have h:nm∉out.take i:=fun z=>by
  have g:(out.take (i+1)).Nodup:=t.sublist (gy _ _)
  rw[e]at g
  exact(dQ.mp g).2.2 _ z _ (by simp) rfl
 have key:yP (zA o bk) o U (N.filter fun x=>decide (x∉out.take i))=Wn (zA o bk) o (U^9) nm+yP (zA o bk) o U (N.filter fun x=>decide (x∉out.take (i+1))):=by
  by_cases n:nm∈N
  ·rw[<-zCt]
   refine zFO (zBm (nd.filter _) (bx.mpr ⟨fun z=>?_,nd.filter _⟩) fun x=>?_)
   ·have:=of_decide_eq_true (aG.mp z).2
    rw[e]at this
    exact this (aX _ (by simp))
   ·rw[aL,aG,aG,e]
    simp only[decide_eq_true_eq,bt,aS,not_or]
    constructor
    ·rintro⟨p,g⟩
     by_cases c:x=nm
     ·exact .inl c
     ·exact .inr ⟨p,g,c⟩
    ·rintro(rfl|⟨p,g,_⟩)
     ·exact⟨n,h⟩
     ·exact⟨p,g⟩
  ·rw[zFQ d.pos d.dvd q fun z=>n (l z),oY]
   have:N.filter (fun x=>decide (x∉out.take i))=N.filter fun x=>decide (x∉out.take (i+1)):=by
    refine ja fun x m=>?_
    rw[e]
    have:x≠nm:=fun z=>n (by rw[<-z];exact m)
    simp[this]
   rw[this]
 obtain⟨a,b⟩:=zKL u w (show Wn (zA o bk) o (U^9) nm<=yP (zA o bk) o U (N.filter fun x=>decide (x∉out.take i)) by omega)
 rw[<-y,e1,v]
 refine⟨a,b.trans ?_⟩
 congr 1
 omega
theorem zSY {out N:List S}{i:Nat}{nm:S}(hi:out[i]?=some nm)(b:nm∉N):(N.filter fun x=>decide (x∉out.take (i+1)))=N.filter fun x=>decide (x∉out.take i):=by
 have a:out.take (i+1)=out.take i++[nm]:=by
  rw[aA (ah.mp hi).1,(ah.mp hi).2]
 refine ja fun x c=>?_
 rw[a]
 have:x≠nm:=fun z=>b (by rw[<-z];exact c)
 simp[this]
noncomputable def yQ (o:Nat)(bk:List S)(lo hi:Nat)(hd tl:S)(ba:List S)(to:Bool):List S:=(u7 (zA o bk) o lo hi hd tl).filter fun x=>!jS bk ba to x
theorem uP {o:Nat}{bk:List S}{lo hi:Nat}{hd tl:S}{ba:List S}{to:Bool}{x:S}:x∈yQ o bk lo hi hd tl ba to↔zAH lo hi hd tl x/\qT (zA o bk) o x/\jS bk ba to x=false:=by
 unfold yQ
 rw[aG,zAi (vT o bk)]
 simp[and_assoc]
theorem qV (o:Nat)(bk:List S)(lo hi:Nat)(hd tl:S)(ba:List S)(to:Bool):(yQ o bk lo hi hd tl ba to).Nodup:=(zFN (vT o bk) ..).filter _
section
variable{P:aJ}{w:bh}{K:ag}{mg:Str->Option aj}{base:bF}
noncomputable def zKM (K:ag):Sp:=fun vs H Q _=>∃(x y:V) (p q:Int×Int),vs=[x,y]/\z8 K H x p/\z8 K H y q/\FG p/\FG q/\q.1*p.2<=p.1*q.2/\∀a,H a=none->Q (.ref a) (upd H a (jW (zCv p q)))
noncomputable abbrev zFT:cJ:=top 31
theorem zSZ:FnScope ["one","other"] ["one","other"] (defScope zFT):=yE
theorem zSa {f:ak}{fd:bc}(F:Fun K "less" "less" zFT f fd)(d:zS P w K mg base 2 "lowest" ["up","down"] zAh):FnOk P w K mg base z0 3 f fd ["one","other"] (zKM K):=by
 refine F.ok zSZ (fun vs H Q E h=>?_) (fun e A outer s H vs Q E g h=>?_)
 ·obtain⟨x,y,p,q,rfl,_⟩:=h;rfl
 ·obtain⟨x,y,p,q,rfl,⟨a,rfl,ha⟩,⟨b,rfl,hb⟩,sp,c,i,k⟩:=h
  refine⟨_,zL (z5 (zH d g rfl (zC (zV zBx (zV k5 (yA yH (pv 0) zQ (fun _ _=>rfl)) (yA yH (pv 1) zQ (fun _ _=>rfl))) (zV k5 (yA yH (pv 1) zQ (fun _ _=>rfl)) (yA yH (pv 0) zQ (fun _ _=>rfl))))
   (zC (zV k5 (yA yH (pv 0) zQ (fun _ _=>rfl)) (yA yH (pv 1) zQ (fun _ _=>rfl))) zD)))),?_⟩
  have m:=sp.up;have n:=c.up;have j:=sp.dn;have l:=c.dn
  refine⟨_,rfl,a,_,0,_,rfl,rfl,ha,rfl,_,rfl,b,_,1,_,rfl,rfl,hb,rfl,_,_,rfl,rfl,⟨sp.bu,c.bd⟩,?_⟩
  refine⟨_,rfl,b,_,0,_,rfl,rfl,hb,rfl,_,rfl,a,_,1,_,rfl,rfl,ha,rfl,_,_,rfl,rfl,⟨c.bu,sp.bd⟩,_,_,rfl,rfl,?_⟩
  refine⟨_,rfl,a,_,1,_,rfl,rfl,ha,rfl,_,rfl,b,_,1,_,rfl,rfl,hb,rfl,_,_,rfl,rfl,⟨sp.bd,c.bd⟩,?_⟩
  exact⟨_,_,rfl,(by omega),cy j l,sp.prod c,k⟩
noncomputable def zFU (K:ag):Sp:=fun vs H Q _=>∃(x y:V) (p q:Int×Int),vs=[x,y]/\z8 K H x p/\z8 K H y q/\FG p/\FG q/\Q (.bl (lss p q)) H
theorem zSb {f:ak}{fd:bc}(F:Fun K "is_less" "is_less" zDx f fd):FnOk P w K mg base z0 1 f fd ["one","other"] (zFU K):=by
 refine F.ok zOg (fun vs H Q E h=>?_) (fun d A outer s H vs Q E e h=>?_)
 ·obtain⟨x,y,p,q,rfl,_⟩:=h;rfl
 ·obtain⟨x,y,p,q,rfl,⟨a,rfl,ha⟩,⟨b,rfl,hb⟩,sp,c,k⟩:=h
  refine⟨_,zL (z5 (jK zDC (zV k5 (yA yH (pv 0) zQ (fun _ _=>rfl)) (yA yH (pv 1) zQ (fun _ _=>rfl))) (zV k5 (yA yH (pv 1) zQ (fun _ _=>rfl)) (yA yH (pv 0) zQ (fun _ _=>rfl))) (vN _))),?_⟩
  refine⟨_,rfl,a,_,0,_,rfl,rfl,ha,rfl,_,rfl,b,_,1,_,rfl,rfl,hb,rfl,_,_,rfl,rfl,⟨sp.bu,c.bd⟩,?_⟩
  exact⟨_,rfl,b,_,0,_,rfl,rfl,hb,rfl,_,rfl,a,_,1,_,rfl,rfl,ha,rfl,_,_,rfl,rfl,⟨c.bu,sp.bd⟩,_,_,rfl,rfl,k⟩
noncomputable def zCw:Sp:=fun vs H Q _=>∃(c a:ak) (bk:List S) (lo hi:Int) (hd tl:S) (ba:List S) (to:Bool),vs=[.ref c,.ref a]/\H c=some (.tup (zP bk))/\bk.length<=8/\uD H a lo hi hd tl ba to/\ba.length<=6/\
 ∀(l:ak) (out:List S) (H':Hp),zB H H'->H l=none->H' l=some (.lst (zP out))->(∀x,decide (x∈out)=jS bk ba to x)->out.length<=ba.length+bk.length->(ba.Nodup->out.Nodup)->Q (.ref l) H'
theorem zSc {vs:List V}{H:Hp}{Q:VK}{E:XK}(h:zEx vs H Q E):zCw vs H Q E:=by
 obtain⟨c,a,bk,lo,hi,hd,tl,ba,to,b,d,e,f,g,k⟩:=h
 exact⟨c,a,bk,lo,hi,hd,tl,ba,to,b,d,e,f,g,fun l out i s _ hl j _ _=>k l out i s hl j⟩
theorem zSd {f:ak}{fd:bc}(F:Fun K "left_out" "left_out" zEy f fd)(B:Blt mg)(W:CstW mg)(n:mg "list"=none)(o:mg "set"=none):FnOk P w K mg base z0 1 f fd ["book","wish"] zCw:=by
 obtain⟨M,t⟩:=W.barred
 obtain⟨N,C⟩:=W.told
 refine F.ok zRg (fun vs H Q E h=>?_) (fun D A outer s H vs Q E O h=>?_)
 ·obtain⟨c,a,bk,lo,hi,hd,tl,ba,to,rfl,_⟩:=h;rfl
 ·obtain⟨c,a,bk,lo,hi,hd,tl,ba,to,rfl,G,R,⟨b,ha,hb⟩,T,k⟩:=h
  refine⟨_,zR (y0 (vW (yA yH (pv 1) (yR (v:=.int 5) (by rfl) C ⟨_,rfl⟩) (fun _ _=>rfl)))
    (zL (z5 (zAr zMN (by rfl) n f9 (zC (yA yH (pv 1) (yR (v:=.int 4) (by rfl) t ⟨_,rfl⟩) (fun _ _=>rfl)) zD)))) yZ)
   (zL (z5 (zRJ rfl (zV zAF (yA yH (pv 1) (yR (v:=.int 4) (by rfl) t ⟨_,rfl⟩) (fun _ _=>rfl)) (pv 0)) (by rfl) B.sorted sR (by rfl) o (by decide+kernel)))),?_⟩
  refine⟨_,rfl,a,_,5,.bl to,rfl,rfl,.of ha,rfl,_,rfl,?_⟩
  cases to with
  |true=>
   refine uQ ?_
   refine⟨_,rfl,a,_,4,.ref b,rfl,rfl,.of ha,rfl,b,_,rfl,.inr (.of hb),fun l hl=>?_⟩
   refine k l ba _ (zB.upd1 hl) hl zE (fun x=>?_) (by omega) id
   unfold jS;simp
  |false=>
   refine vA ?_
   refine⟨_,rfl,a,_,4,.ref b,rfl,rfl,.of ha,rfl,_,rfl,?_⟩
   have bl:∀l:List S,(zP l).length=l.length:=fun l=>by unfold zP;rw[ai]
   refine⟨b,c,_,_,rfl,rfl,hb,G,by rw[bl,bl,aI];omega,fun p U q u=>?_⟩
   have ep:zP ba++zP bk=((ba++bk).map tx).map V.str:=by rw[<-zRh];unfold zP;rw[aQ]
   rw[ep]at u
   refine⟨p,(ba++bk).map tx,rfl,.of u,by rw[ai,ay];omega,fun out l d g hl=>?_⟩
   have I:out.map V.str=zP (out.map fun x=>x.cps.toList):=by
    unfold zP
    rw[aV]
    refine dj fun x _=>?_
    show V.str x=V.str (tx x.cps.toList)
    rw[zOs]
   rw[I]
   have i:(out.map fun x=>x.cps.toList).Nodup:=by
    rw[dm,bB]
    exact g.imp fun{a b} z e=>by rw[e]at z;exact fP _ z
   have j:∀x∈(out.map fun x=>x.cps.toList),x∈ba++bk:=fun x J=>by
    obtain⟨y,r,rfl⟩:=ao.mp J
    obtain⟨z,hz,e⟩:=ao.mp ((d y).mp r)
    have:z=y.cps.toList:=by rw[<-e,uN]
    rw[<-this];exact hz
   have m:=jC _ _ i j
   rw[ay]at m
   refine k l _ _ (q.upd_new (q.free hl)) (q.free hl) zE (fun x=>?_) m (fun _=>i)
   have e1:x∈(out.map fun x=>x.cps.toList)↔x∈ba\/x∈bk:=by
    rw[ao]
    constructor
    ·rintro⟨y,r,rfl⟩
     obtain⟨z,hz,e⟩:=ao.mp ((d y).mp r)
     have:z=y.cps.toList:=by rw[<-e,uN]
     rw[<-this]
     exact bt.mp hz
    ·intro h
     refine⟨tx x,(d _).mpr (ao.mpr ⟨x,bt.mpr h,rfl⟩),uN x⟩
   unfold jS
   have L:decide (x∈(out.map fun x=>x.cps.toList))=(decide (x∈ba)||decide (x∈bk)):=by
    rw[dC,iH,decide_eq_true_eq,decide_eq_true_eq,decide_eq_true_eq]
    exact e1
   rw[L]
   rfl
noncomputable abbrev zFV:cJ:=top 70
theorem zKN:FnScope ["rows","order","wish","parts","whole"] ["rows","order","wish"] (defScope zFV):=yE
theorem zSe:(["parts","order","whole","pattern"]:List Str).Nodup:=by decide+kernel
noncomputable def zKO (K:ag):Sp:=fun vs H Q _=>∃(d a:ak) (o:Nat) (bk:List S) (lo hi:Nat) (hd tl:S) (ba:List S) (to:Bool),vs=[.ref d,.int o,.ref a]/\Bk bk o/\(zA o bk).length<=60/\jQ H d (zA o bk)/\uD H a lo hi hd tl ba to/\lo<=hi/\hi<=8/\hd.length<=8/\tl.length<=8/\
 ∀v H',zB H H'->z8 K H' v (yT (zA o bk) o (u7 (zA o bk) o lo hi hd tl))->Q v H'
theorem zSf {f:ak}{fd:bc}(F:Fun K "share_of_form" "share_of_form" zFV f fd)(B:Blt mg)(y:zS P w K mg base 4 "parts_by_rows" ["rows"] (zEU K))(cW:zS P w K mg base 3 "whole_weight" ["rows"] zEV)(cS:zS P w K mg base 3 "sum_along" ["parts","order","weight","pattern"] (zIs K))(cL:zS P w K mg base 2 "lowest" ["up","down"] zAh)(cP:zS P w K mg base 3 "patterns" ["wish"] zFI) :
  FnOk P w K mg base z0 5 f fd ["rows","order","wish"] (zKO K):=by
 refine F.ok zKN (fun vs H Q E h=>?_) (fun aa A outer s H vs Q E z h=>?_)
 ·obtain⟨d,a,o,bk,lo,hi,hd,tl,ba,to,rfl,_⟩:=h;rfl
 ·obtain⟨d,a,o,bk,lo,hi,hd,tl,ba,to,rfl,hb,C,R,hw,G,h8,hh,ht,k⟩:=h
  have nd:=zKN.nd
  have I:=z.mono (j:=3) (by decide)
  have r2:=z.mono (j:=2) (by decide)
  refine⟨_,zR (yC (i:=3) nd rfl (Or.inr rfl) (zH y z rfl (zC (pv 0) zD)))
   (zR (yC (i:=4) nd rfl (Or.inr rfl) (zH cW I rfl (zC (pv 0) zD)))
   (zL (z5 (zH cL r2 rfl (zC (yS (zHD rfl) (by rfl) B.sum gs (zC
    (qD (N:=["parts","order","whole","pattern"]) (caps:=[3,1,4]) rfl (uS (by kernel_rfl)) (qY (zH cP I rfl (zC (pv 2) zD)))
     (fun Z X s H ex=>yB (i:=3) zSe rfl (Or.inl rfl)) (fun Z X s H ex=>qM)
     (fun Z X s H ex=>zH cS I rfl (zC (pv 0) (zC (pv 1) (zC (pv 2) (zC (pv 3) zD)))))) zD)) (zC (pv 4) zD)))))),?_⟩
  refine⟨_,rfl,d,zA o bk,rfl,R,by omega,fun pd H1 s1 ab hP=>?_⟩
  refine⟨_,rfl,d,zA o bk,rfl,R.same s1,C,fun U H2 s2 c g r=>?_⟩
  have hU:Unit9 (zA o bk) U:=⟨c,g,r⟩
  have J:=hP.same s2
  have L:Smf (zF (zA o bk)):=zJu (zBi hb).1 (by omega)
  have t:=s1.trans s2
  refine⟨_,rfl,a,lo,hi,hd,tl,ba,to,rfl,hw.same t,G,h8,hh,ht,fun l H3 s3 hl zq=>?_⟩
  obtain⟨as,p1,M,p3,p4⟩:=zq
  have O:=J.same s3
  have T:=t.trans s3
  refine⟨l,rfl,⟨_,.of p1⟩,?_⟩
  have ac:=zFE lo hi hd tl
  refine j5 (q8 K l (as.map V.ref)) [some (.ref pd),some (.int o),some (.int (U^9))] 1 (by rw[ai,M];omega) (fun i e q=>zB H3 q/\e=(((yJ lo hi hd tl).take i).map fun p=>yP (zA o bk) o U (vZ (zA o bk) o p)).map V.int)
   ⟨zB.refl _,rfl⟩ (fun i e q _ h=>⟨.of (h.1 _ _ p1),by rw[h.2,ai,ai,aZ];omega⟩) ?_ ?_
  ·rintro i x e q ys Nx hN m hy ⟨u,rfl⟩
   obtain⟨y',rfl⟩:=zCa hy
   rw[ar]at m
   cases v:as[i]? with
   |none=>rw[v]at m;cases m
   |some pl=>
   rw[v]at m
   have hx2:x=V.ref pl:=(aB m).symm
   subst hx2
   have n:i<(yJ lo hi hd tl).length:=by rw[<-M];exact(ah.mp v).1
   have ep:(yJ lo hi hd tl)[i]?=some (yJ lo hi hd tl)[i]:=av n
   have W:=u _ _ (p4 i pl _ v ep)
   have al:=zCn (cq n)
   refine⟨_,rfl,_,rfl,_,rfl,_,rfl,pd,pl,o,bk,zF (zA o bk),U^9,_,rfl,hb,O.same u,L,W,by omega,fun H4 s4=>?_⟩
   refine hN _ _ [some (V.ref pl)] rfl ⟨u.trans s4,?_⟩
   rw[aA n,aQ,aQ,zSC (vT o bk) c g (by omega)]
   rfl
  ·rintro e q ⟨u,rfl⟩ D hD
   rw[ai,M,bo]
   have sD:zB q (upd q D (.lst (((yJ lo hi hd tl).map fun p=>yP (zA o bk) o U (vZ (zA o bk) o p)).map V.int))):=zB.upd1 hD
   have Y:∀x∈u7 (zA o bk) o lo hi hd tl,x.length<=8:=fun x m=>by
    have:=((zAi (vT o bk)).mp m).1.2.1;omega
   obtain⟨e1,n1⟩:=qU (o:=o) c g Y
   have e2:yP (zA o bk) o U (u7 (zA o bk) o lo hi hd tl)=((yJ lo hi hd tl).map fun p=>yP (zA o bk) o U (vZ (zA o bk) o p)).sum:=zJw _ _ _ _ _
   have am:=zFJ c r
   have an:=k7 (a:=60*9) (b:=8000) (by decide)
   refine⟨D,_,rfl,.of zE,_,rfl,_,U^9,rfl,by rw[<-e2];exact n1,dR c,by omega,fun p hp=>?_⟩
   refine k _ _ (T.trans (u.trans (sD.trans (zB.upd1 hp)))) ?_
   rw[e1,e2]
   exact z8.new
end
theorem zSg {X:Cx}(a:ag)(b:X.K=a):IxR X (zGM a):=by
 subst b
 exact yH
noncomputable def kJ (ps:List (S×S)) (o n:Nat) (U:Int) (p:List S):zJ:=vB n (vV ps (zF ps) (qQ ps (zF ps) o n (U^9) p))
noncomputable def jH (ps:List (S×S)) (o n:Nat) (U:Int) (out:List S) (pats:List (List S)):zJ:=pats.flatMap fun p=>(kJ ps o n U p).filter fun q=>decide (q.2∉out)
noncomputable def zAK (ps:List (S×S))(o:Nat)(U:Int)(N:List S):zJ:=N.map fun x=>(Wn ps o (U^9) x,x)
theorem k9 {ps:List (S×S)}{o:Nat}{U:Int}{N:List S}{q:Int×S}:q∈zAK ps o U N↔q.2∈N/\q.1=Wn ps o (U^9) q.2:=by
 unfold zAK
 rw[ao]
 constructor
 ·rintro⟨x,a,rfl⟩;exact⟨a,rfl⟩
 ·rintro⟨b,c⟩;exact⟨q.2,b,fM c.symm rfl⟩
section
variable{o n:Nat}{bk:List S}{U:Int}
theorem zBT (a:0<U)(b:∀e l,(zF (zA o bk) e l).2∣U)(c:1<=n){p:List S}(d:p.length<=8):TopN n (zAK (zA o bk) o U (vZ (zA o bk) o p)) (kJ (zA o bk) o n U p):=by
 have hf:=zCh a b c p p.length (aC _) (by omega)
 rw[bo]at hf
 exact hf.fin a b d
theorem zKP (a:0<U)(c:∀e l,(zF (zA o bk) e l).2∣U)(d:1<=n){p:List S}(f:p.length<=8):(kJ (zA o bk) o n U p).length<=min n (vZ (zA o bk) o p).length:=by
 have T:=zBT (o:=o) (bk:=bk) a c d f
 have g:=T.len
 have b:=jC _ _ (zBp T.srt) T.sub
 unfold zAK at b
 rw[ai]at b
 omega
theorem zFW (a:0<U)(b:∀e l,(zF (zA o bk) e l).2∣U)(c:1<=n)(out:List S):∀(pats:List (List S)),(∀p∈pats,p.length<=8)->(jH (zA o bk) o n U out pats).length<=(pats.map fun p=>min n (vZ (zA o bk) o p).length).sum
 | [],_=>by simp[jH]
 |p::pats,h=>by
  have ih:=zFW a b c out pats fun q d=>h q (aw _ d)
  unfold jH at ih⊢
  rw[c9,ay,aD,aT]
  have f:=zKP (o:=o) (bk:=bk) a b c (h p (aq ..))
  have g:=dq (fun q:Int×S=>decide (q.2∉out)) (kJ (zA o bk) o n U p)
  omega
theorem zKQ (c:0<U)(d:∀e l,(zF (zA o bk) e l).2∣U)(f:1<=n)(out:List S){pats:List (List S)}(g:∀p∈pats,p.length<=8)(h:pats.Pairwise fun p q=>p.length≠q.length):(jH (zA o bk) o n U out pats).Nodup:=by
 unfold jH
 rw[dm,dS]
 refine⟨fun p i=>(zBp (zBT c d f (g p i)).srt).filter _,cK ?_ h⟩
 intro p q i m j x r y s e
 have a:=(k9.mp ((zBT c d f (g p i)).sub x (aG.mp r).1)).1
 have b:=(k9.mp ((zBT c d f (g q m)).sub y (aG.mp s).1)).1
 have l1:=jE ((zAI (vT o bk)).mp a).1
 have l2:=jE ((zAI (vT o bk)).mp b).1
 rw[e]at l1
 exact j (by omega)
theorem zKR {α:Type}(f:α->Bool):∀l:List α,l.length=(l.filter f).length+(l.filter fun a=>!f a).length
 | []=>rfl
 |a::l=>by
  have ih:=zKR f l
  cases h:f a with
  |true=>rw[cc h,cg (by simp[h]),aM,aM];omega
  |false=>rw[cg (by simp[h]),cc (by simp[h]),aM,aM];omega
theorem zSh {m lo hi:Nat}{hd tl:S}{out:List S}(c:0<U)(f:∀e l,(zF (zA o bk) e l).2∣U)(D:1<=m)(E:hi<=8) :
  TopN m (zAK (zA o bk) o U ((u7 (zA o bk) o lo hi hd tl).filter fun x=>decide (x∉out))) (vB m (jH (zA o bk) o (m+out.length) U out (yJ lo hi hd tl))):=by
 have g:1<=m+out.length:=by omega
 have l8:∀p∈yJ lo hi hd tl,p.length<=8:=fun p b=>by have:=(zCn b).2;omega
 refine top_of (zKQ c f g out l8 (zFD ..)) (fun q d=>?_) fun a ha=>?_
 ·obtain⟨p,b,d⟩:=aU.mp d
  obtain⟨hq1,hq2⟩:=aG.mp d
  obtain⟨h,i⟩:=k9.mp ((zBT c f g (l8 p b)).sub q hq1)
  exact k9.mpr ⟨aG.mpr ⟨aU.mpr ⟨p,b,h⟩,hq2⟩,i⟩
 ·obtain⟨h,i⟩:=k9.mp ha
  obtain⟨t,u⟩:=aG.mp h
  obtain⟨p,b,v⟩:=aU.mp t
  have T:=zBT (o:=o) (bk:=bk) c f g (l8 p b)
  rcases T.cmp a (k9.mpr ⟨v,i⟩)with z|⟨F,w⟩
  ·exact .inl (aU.mpr ⟨p,b,aG.mpr ⟨z,u⟩⟩)
  ·right
   refine⟨(kJ (zA o bk) o (m+out.length) U p).filter fun q=>decide (q.2∉out),(zBp T.srt).filter _,?_,fun l hl=>⟨aU.mpr ⟨p,b,hl⟩,w l (aG.mp hl).1⟩⟩
   have G:=zKR (fun q:Int×S=>decide (q.2∉out)) (kJ (zA o bk) o (m+out.length) U p)
   have A:((kJ (zA o bk) o (m+out.length) U p).filter fun a=>!decide (a.2∉out)).length<=out.length:=by
    have s:=jC (((kJ (zA o bk) o (m+out.length) U p).filter fun a=>!decide (a.2∉out)).map (·.2)) out (by
     rw[dm,bB]
     refine cK ?_ ((zBp T.srt).filter _)
     intro x y j B r e
     obtain⟨_,e1⟩:=k9.mp (T.sub x (aG.mp j).1)
     obtain⟨_,C⟩:=k9.mp (T.sub y (aG.mp B).1)
     exact r (fM (by rw[e1,C,e]) e)) fun x j=>by
      obtain⟨q,d,rfl⟩:=ao.mp j
      have:=(aG.mp d).2
      simpa using this
    rw[ai]at s
    exact s
   omega
end
noncomputable def zFX (K:ag)(H:Hp)(D:ak)(ps:List (S×S))(o:Nat)(ns:List S):Prop:=∃ts:List V,H D=some (.lst ts)/\ts.length=ns.length/\∀(i:Nat) (x:S),ns[i]?=some x->∃a v,ts[i]?=some (.ref a)/\z7 K H a [v,sv x]/\z8 K H v (vS ps o x)
theorem zBq {T:ak}{H:Hp}(h:uH T H){a:ak}{u:HO}(e:H a=some u)(b:∀ps,u≠.tbl ps):a≠T:=fun z=>by
 obtain⟨ps,c⟩:=gP h
 rw[z,c]at e
 exact b ps (aB e).symm
theorem z6.freeT {T:ak}{H c:Hp}(d:z6 T H c)(e:uH T c){b:ak}(hb:c b=none):H b=none:=by
 cases z:H b with
 |none=>rfl
 |some u=>
  by_cases a:b=T
  ·obtain⟨g,f⟩:=gP e
   rw[a,f]at hb;cases hb
  ·rw[d _ _ a z]at hb;cases hb
section
variable{P:aJ}{w:bh}{K:ag}{mg:Str->Option aj}{base:bF}
noncomputable abbrev sHF:cJ:=top 75
theorem zKS:FnScope ["rows","order","wish","many","barred","parts","whole","found","pattern","pairs"] ["rows","order","wish","many","barred"] (defScope sHF):=yE
theorem zSi:(["barred","pair"]:List Str).Nodup:=by decide+kernel
theorem zKT:(["whole","weight","name"]:List Str).Nodup:=by decide+kernel
noncomputable def zKU (K:ag)(T:ak):Sp:=fun vs H Q _=>∃(d a l:ak) (o m:Nat) (bk:List S) (lo hi:Nat) (hd tl:S) (ba:List S) (to:Bool) (out:List S),vs=[.ref d,.int o,.ref a,.int m,.ref l]/\Bk bk o/\(zA o bk).length<=60/\jQ H d (zA o bk)/\uD H a lo hi hd tl ba to/\lo<=hi/\hi<=8/\hd.length<=8/\tl.length<=8/\H l=some (.lst (zP out))/\1<=m/\m+out.length<=900/\uH T H/\
 (∀U,Unit9 (zA o bk) U->∀p∈yJ lo hi hd tl,HvOk (zA o bk) (zF (zA o bk)) o (m+out.length) (U^9) p)/\((yJ lo hi hd tl).map fun p=>min (m+out.length) (vZ (zA o bk) o p).length).sum<64/\
 ∀D H' U B,z6 T H H'->uH T H'->H D=none->Unit9 (zA o bk) U->TopN m (zAK (zA o bk) o U ((u7 (zA o bk) o lo hi hd tl).filter fun x=>decide (x∉out))) B->zFX K H' D (zA o bk) o (B.map (·.2))->Q (.ref D) H'
theorem zSj {f T:ak}{fd:bc}(F:Fun K "heaviest_fitting" "heaviest_fitting" sHF f fd)(B:Blt mg)(cPa:zS P w K mg base 4 "parts_by_rows" ["rows"] (zEU K))(cW:zS P w K mg base 3 "whole_weight" ["rows"] zEV)(cP:zS P w K mg base 3 "patterns" ["wish"] zFI)(cA:zS P w K mg base 3 "heaviest_along" ["parts","order","weight","pattern","many"] (zJJ K T))(cH:zS P w K mg base 1 "heaviest" ["pairs","many"] (zCb K T))(cL:zS P w K mg base 2 "lowest" ["up","down"] zAh) :
  FnOk P w K mg base z0 5 f fd ["rows","order","wish","many","barred"] (zKU K T):=by
 refine F.ok zKS (fun vs H Q E h=>?_) (fun cdv A outer s H vs Q E hr h=>?_)
 ·obtain⟨d,a,l,o,m,bk,lo,hi,hd,tl,ba,to,out,rfl,_⟩:=h;rfl
 ·obtain⟨d,a,l,o,m,bk,lo,hi,hd,tl,ba,to,out,rfl,hb,h60,R,hw,hle,h8,hh,ht,hl,hm,hn,tab,hv,h64,k⟩:=h
  have nd:=zKS.nd
  have r3:=hr.mono (j:=3) (by decide)
  have r2:=hr.mono (j:=2) (by decide)
  have r1:=hr.mono (j:=1) (by decide)
  refine⟨_,zR (yC (i:=5) nd rfl (Or.inl rfl) (zH cPa hr rfl (zC (pv 0) zD)))
   (zR (yC (i:=6) nd rfl (Or.inr rfl) (zH cW r3 rfl (zC (pv 0) zD)))
   (zR (yC (i:=7) nd rfl (Or.inl rfl) (uJ zD))
   (zR (vX bE rfl (qY (zH cP r3 rfl (zC (pv 2) zD))) (yB (i:=8) nd rfl (Or.inl rfl))
    (zR (yC (i:=9) nd rfl (Or.inl rfl) (zH cA r3 rfl (zC (pv 5) (zC (pv 1) (zC (pv 6) (zC (pv 8) (zC (zV y6 (pv 3) (yS zAs (by rfl) B.len cw (zC (pv 4) zD))) zD)))))))
    (zL (v3 (jM c8 fH fI zCA (pv 7) (zC
     (qD (N:=["barred","pair"]) (caps:=[4]) rfl (uS (by kernel_rfl)) (qY (pv 9)) (fun cl X s H ex=>yB (i:=1) zSi rfl (Or.inl rfl))
      (fun cl X s H ex=>zGk (qB (zRq K rfl) (yA (zSg K rfl) (pv 1) zQ (fun _ _=>rfl)) (pv 0) (by with_unfolding_all rfl))) (fun cl X s H ex=>pv 1)) zD))))))
   (zL (z5 (qD (N:=["whole","weight","name"]) (caps:=[6]) rfl (uS (by kernel_rfl)) (qY (zH cH r1 rfl (zC (pv 7) (zC (pv 3) zD))))
     (fun cl X s H ex=>zAD K 2 rfl rfl (yW (yB (i:=1) zKT rfl (Or.inl rfl)) (yW (yB (i:=2) zKT rfl (Or.inl rfl)) qA)) rfl rfl) (fun cl X s H ex=>qM)
     (fun cl X s H ex=>uA (zC (zH cL r2 rfl (zC (pv 1) (zC (pv 0) zD))) (zC (pv 2) zD))))))))),?_⟩
  refine⟨_,rfl,d,zA o bk,rfl,R,by omega,fun pd H1 s1 hpd hP=>?_⟩
  refine⟨_,rfl,d,zA o bk,rfl,R.same s1,h60,fun U H2 s2 hU0 hUd hUl=>?_⟩
  have hU:Unit9 (zA o bk) U:=⟨hU0,hUd,hUl⟩
  have hP2:=hP.same s2
  have hsm:Smf (zF (zA o bk)):=zJu (zBi hb).1 (by omega)
  have s12:=s1.trans s2
  refine⟨bw _,fun fo hfo=>?_⟩
  have s3:zB H2 (upd H2 fo (.lst [])):=zB.upd1 hfo
  have hf3:upd H2 fo (.lst []) fo=some (.lst []):=zE
  generalize upd H2 fo (.lst [])=H3 at s3 hf3
  have s13:=s12.trans s3
  refine⟨_,rfl,a,lo,hi,hd,tl,ba,to,rfl,hw.same s13,hle,h8,hh,ht,fun pl H4 s4 hpl zq=>?_⟩
  obtain⟨as,p1,p2,p3,p4⟩:=zq
  have hP4:=(hP2.same s3).same s4
  have s14:=s13.trans s4
  have hf4:=s4 _ _ hf3
  have hl4:=s14 _ _ hl
  have tab4:=qH tab s14
  have h8':∀p∈yJ lo hi hd tl,p.length<=8:=fun p hp=>by have:=(zCn hp).2;omega
  have hn1:1<=m+out.length:=by omega
  have plT:=zBq tab4 p1 fun _=>nofun
  have plf:pl≠fo:=fun z=>by rw[z,hf3]at hpl;cases hpl
  have flT:=zBq tab4 hf4 fun _=>nofun
  have lT:=zBq tab4 hl4 fun _=>nofun
  have lf:l≠fo:=fun z=>by rw[z]at hl;rw[s12 _ _ hl]at hfo;cases hfo
  refine⟨pl,rfl,⟨_,.of p1⟩,?_⟩
  refine qN (q8 K pl (as.map V.ref)) (fun i σ H'=>(∃x8 x9:Option V,σ=[some (.ref d),some (.int o),some (.ref a),some (.int m),some (.ref l),some (.ref pd),some (.int (U^9)),some (.ref fo),x8,x9])/\uH T H'/\(∀b u,b≠T->b≠fo->H4 b=some u->H' b=some u)/\uG K H' fo (jH (zA o bk) o (m+out.length) U out ((yJ lo hi hd tl).take i)))
   ⟨⟨_,_,rfl⟩,tab4,fun b u _ _ e=>e,[],hf4,rfl,fun i p hi=>by cases hi⟩ (fun i σ H' _ h=>.of (h.2.2.1 _ _ plT plf p1)) ?_ ?_
  ·rintro i x σ H' Nx hN hx ⟨⟨x8,x9,rfl⟩,tb,sx,hpf⟩
   rw[ar]at hx
   cases ei:as[i]? with
   |none=>rw[ei]at hx;cases hx
   |some pa=>
   rw[ei]at hx
   have hx2:x=V.ref pa:=(aB hx).symm
   subst hx2
   have hi':i<(yJ lo hi hd tl).length:=by rw[<-p2];exact(ah.mp ei).1
   have ep:(yJ lo hi hd tl)[i]?=some (yJ lo hi hd tl)[i]:=av hi'
   have hpm:=cq hi'
   have etk:(yJ lo hi hd tl).take (i+1)=(yJ lo hi hd tl).take i++[(yJ lo hi hd tl)[i]]:=aA hi'
   have hpa4:=p4 i pa _ ei ep
   generalize(yJ lo hi hd tl)[i]=pat at*
   have paf:pa≠fo:=fun z=>by
    have:=(p3 pa (aY ei)).1
    rw[z,hf3]at this;cases this
   have paT:=zBq tab4 hpa4 fun _=>nofun
   have hpa:=sx _ _ paT paf hpa4
   have hl':=sx _ _ lT lf hl4
   have hfoT:∀ys,¬Rd H4 fo (.tup ys):=by
    rintro ys (z|⟨o',z⟩)
    ·rw[hf4]at z;cases z
    ·rw[hf4]at z;cases z
   have hP':kA K H' pd (zA o bk) (zF (zA o bk)):=by
    obtain⟨pa0,g1,g2,g3⟩:=hP4
    have ndk:∀{c:ak} {kvs:List (zO×V)},H4 c=some (.dK kvs)->H' c=some (.dK kvs):=fun{c kvs} e=>sx _ _ (zBq tab4 e fun _=>nofun) (fun z=>by rw[z,hf4]at e;cases e) e
    have nfr:∀{v:V} {q:Int×Int},z8 K H4 v q->z8 K H' v q:=fun{v q} ⟨c,e1,e2⟩=>by
     refine⟨c,e1,?_⟩
     rcases e2 with e2|e2
     ·left
      have hcf:c≠fo:=fun z=>hfoT _ (by rw[<-z];exact e2)
      have hcT:c≠T:=fun z=>zBN tab4 _ (by rw[<-z];exact e2)
      rcases e2 with e2|⟨o',e2⟩
      ·exact .inl (sx _ _ hcT hcf e2)
      ·exact .inr ⟨o',sx _ _ hcT hcf e2⟩
     ·exact .inr e2
    exact⟨pa0,g1,ndk g2,fun r hr=>⟨(g3 r hr).1,ndk (g3 r hr).2.1,(g3 r hr).2.2.1,fun q hq=>nfr ((g3 r hr).2.2.2 q hq)⟩⟩
   refine⟨_,rfl,_,rfl,_,rfl,_,rfl,_,rfl,_,rfl,l,_,rfl,.inl (.of hl'),_,_,rfl,rfl,?_⟩
   have eln:((zP out).length:Int)=(out.length:Int):=by unfold zP;rw[ai]
   refine⟨pd,pa,o,m+out.length,bk,zF (zA o bk),U^9,pat,by rw[eln];rfl,hb,hP',hsm,hpa,by have:=h8' pat hpm;omega,by omega,tb,hv U hU pat hpm,fun D H5 sx5 tb5 hD hpD=>?_⟩
   have eB:vB (m+out.length) (vV (zA o bk) (zF (zA o bk)) (qQ (zA o bk) (zF (zA o bk)) o (m+out.length) (U^9) pat))=kJ (zA o bk) o (m+out.length) U pat:=rfl
   rw[eB]at hpD
   have hl5:=sx5 _ _ lT hl'
   have hpf5:=hpf.sameX sx5 (zBN tb) flT
   have hBl:=zKP (o:=o) (bk:=bk) (n:=m+out.length) hU0 hUd hn1 (h8' pat hpm)
   have eF:jH (zA o bk) o (m+out.length) U out ((yJ lo hi hd tl).take (i+1))=jH (zA o bk) o (m+out.length) U out ((yJ lo hi hd tl).take i)++(kJ (zA o bk) o (m+out.length) U pat).filter fun q=>decide (q.2∉out):=by
    rw[etk];unfold jH;rw[dN];simp
   have hfl:=zFW (o:=o) (bk:=bk) (n:=m+out.length) hU0 hUd hn1 out ((yJ lo hi hd tl).take i) fun p hp=>h8' p (da hp)
   have hfl2:(jH (zA o bk) o (m+out.length) U out ((yJ lo hi hd tl).take i)).length<=9000:=by
    have go:∀L:List (List S),(L.map fun p=>min (m+out.length) (vZ (zA o bk) o p).length).sum<=L.length*(m+out.length):=by
     intro L
     induction L with
     |nil=>simp
     |cons p L ih=>rw[aD,aT,aM,iS];omega
    have h1:=go ((yJ lo hi hd tl).take i)
    have h2:=zFE lo hi hd tl
    have h3:((yJ lo hi hd tl).take i).length<=9:=by rw[aZ];omega
    have h4:((yJ lo hi hd tl).take i).length*(m+out.length)<=9*900:=rA h3 hn
    omega
   generalize kJ (zA o bk) o (m+out.length) U pat=BP at hpD hBl eF
   obtain⟨td,d1,d2,d3⟩:=hpD
   obtain⟨tf,f1,f2,f3⟩:=hpf5
   have hfoD:fo≠D:=fun z=>by
    obtain⟨ts,e,_⟩:=hpf
    rw[z]at e
    rw[e]at hD;cases hD
   refine⟨_,rfl,.inl ⟨rfl,_,.of f1⟩,_,rfl,D,rfl,⟨_,.of d1⟩,?_⟩
   refine zDS (q8 K D td) [some (.ref l)] 1 (by rw[d2];omega) (fun j acc H6=>H6=H5/\acc.length<=j/\acc.length=((BP.take j).filter fun q=>decide (q.2∉out)).length/\∀(i':Nat) (p:Int×S),((BP.take j).filter fun q=>decide (q.2∉out))[i']?=some p->∃c,acc[i']?=some (.ref c)/\z7 K H5 c [.int p.1,sv p.2])
    ⟨rfl,aC _,rfl,fun i' p h=>by cases h⟩ (fun j acc H6 _ h=>⟨.of (by rw[h.1];exact d1),h.2.1⟩) ?_ ?_
   ·rintro j y acc H6 ys Nx2 hN2 hy hys ⟨rfl,haj,hal,hac⟩
    obtain⟨y',rfl⟩:=zCa hys
    have hj:j<BP.length:=by rw[<-d2];exact(ah.mp hy).1
    obtain⟨c,c1,c2⟩:=d3 j BP[j] (av hj)
    rw[hy]at c1
    cases c1
    have etj:BP.take (j+1)=BP.take j++[BP[j]]:=aA hj
    generalize BP[j]=q at c2 etj
    refine⟨_,rfl,c,_,1,sv q.2,rfl,rfl,c2,rfl,_,rfl,l,zP out,rfl,.inl (.of hl5),rfl,zEO _,_,rfl,?_⟩
    rw[zEN]
    by_cases hq:q.2∈out
    ·rw[decide_eq_true hq]
     refine vA (hN2 _ _ [_] rfl ⟨rfl,by omega,?_,?_⟩)
     ·rw[etj,dh,cg (by simpa using hq)];simpa using hal
     ·rw[etj,dh,cg (by simpa using hq)]
      simpa using hac
    ·rw[decide_eq_false hq]
     refine uQ ⟨_,rfl,hN2 _ _ [_] rfl ⟨rfl,by rw[ay,bR];omega,?_,?_⟩⟩
     ·rw[etj,dh,cc (by simpa using hq),ay,ay,hal];rfl
     ·rw[etj,dh,cc (by simpa using hq)]
      intro i' p hp
      by_cases hi2:i'<((BP.take j).filter fun q=>decide (q.2∉out)).length
      ·rw[aR hi2]at hp
       obtain⟨c',e1,e2⟩:=hac i' p hp
       exact⟨c',by rw[aR (by omega)];exact e1,e2⟩
      ·rw[aO (by omega)]at hp
       have h0:i'- ((BP.take j).filter fun q=>decide (q.2∉out)).length=0:=by
        have h9:i'- ((BP.take j).filter fun q=>decide (q.2∉out)).length<1:=(ah.mp hp).1
        omega
       rw[h0]at hp
       have:p=q:=(aB hp).symm
       subst this
       exact⟨c,by rw[aO (by omega),hal,h0];rfl,c2⟩
   ·rintro acc H6 ⟨rfl,_,hal,hac⟩ D2 hD2
    rw[d2,bo]at hal hac
    have sD:zB H6 (upd H6 D2 (.lst acc)):=zB.upd1 hD2
    have f1':=sD _ _ f1
    have hac0:=dq (fun q:Int×S=>decide (q.2∉out)) BP
    refine⟨fo,D2,tf,acc,rfl,rfl,f1',zE,by rw[f2,hal,aI];omega,hN _ _ ⟨⟨_,_,rfl⟩,?_,fun b u hbT hbf e=>?_,?_⟩⟩
    ·have tb6:=qH tb5 sD
     rcases tb6 with z|⟨c',oc,u',vs,t,z1,z2,z3⟩
     ·exact .inl (by rw[zG flT.symm];exact z)
     ·refine .inr ⟨c',oc,u',vs,t,by rw[zG flT.symm];exact z1,?_,z3⟩
      have:c'≠fo:=fun z=>by rw[z,f1']at z2;cases z2
      rw[zG this];exact z2
    ·rw[zG hbf]
     exact sD _ _ (sx5 _ _ hbT (sx _ _ hbT hbf e))
    ·rw[eF]
     refine⟨tf++acc,zE,by rw[ay,ay,f2,hal],fun i' p hp=>?_⟩
     have nt:∀ys,¬Rd (upd H6 D2 (.lst acc)) fo (.tup ys):=by
      rintro ys (z|⟨o',z⟩)
      ·rw[f1']at z;cases z
      ·rw[f1']at z;cases z
     by_cases hlt:i'<(jH (zA o bk) o (m+out.length) U out ((yJ lo hi hd tl).take i)).length
     ·rw[aR hlt]at hp
      obtain⟨c,z1,z2⟩:=f3 i' p hp
      exact⟨c,by rw[aR (by omega)];exact z1,(vY (u:=.lst (tf++acc))).seqT nt (sD.seqT z2)⟩
     ·rw[aO (by omega)]at hp
      obtain⟨c,z1,z2⟩:=hac (i'- (jH (zA o bk) o (m+out.length) U out ((yJ lo hi hd tl).take i)).length) p hp
      exact⟨c,by rw[aO (by omega),f2];exact z1,(vY (u:=.lst (tf++acc))).seqT nt (sD.seqT z2)⟩
  ·rintro σ H' ⟨⟨x8,x9,rfl⟩,tb,sx,hpf⟩
   rw[ai,p2,bo]at hpf
   have fnd:=zKQ (o:=o) (bk:=bk) (n:=m+out.length) hU0 hUd hn1 out h8' (zFD lo hi hd tl)
   have fln:=zFW (o:=o) (bk:=bk) (n:=m+out.length) hU0 hUd hn1 out (yJ lo hi hd tl) h8'
   have ftop:=zSh (o:=o) (bk:=bk) (m:=m) (lo:=lo) (hi:=hi) (hd:=hd) (tl:=tl) (out:=out) hU0 hUd hm h8
   have sxT:z6 T H H':=fun b u hbT e=>sx _ _ hbT (fun z=>by rw[z]at e;rw[s12 _ _ e]at hfo;cases hfo) (s14 _ _ e)
   generalize jH (zA o bk) o (m+out.length) U out (yJ lo hi hd tl)=FL at hpf fnd fln ftop
   refine⟨_,rfl,_,rfl,fo,FL,m,rfl,hpf,fnd,by omega,by omega,tb,fun D H5 rs sx5 tb5 hD srt hpD=>?_⟩
   rw[zCc srt]at hpD
   have hBm:=ftop.len
   have hBs:=ftop.sub
   have k':=k
   generalize vB m FL=BB at hpD ftop hBm hBs
   obtain⟨td,d1,d2,d3⟩:=hpD
   refine⟨D,rfl,⟨_,.of d1⟩,?_⟩
   have sxT5:=sxT.trans sx5
   refine j5 (q8 K D td) [some (.int (U^9))] 2 (by rw[d2];omega) (fun j acc H6=>zB H5 H6/\acc.length=j/\∀(i':Nat) (x:S),i'<j->(BB.map (·.2))[i']?=some x->∃c v,acc[i']?=some (.ref c)/\z7 K H6 c [v,sv x]/\z8 K H6 v (vS (zA o bk) o x))
    ⟨zB.refl _,rfl,fun i' p h=>absurd h (ng _)⟩ (fun j acc H6 _ h=>⟨.of (h.1 _ _ d1),fz h.2.1⟩) ?_ ?_
   ·rintro j y acc H6 ys Nx2 hN2 hy hys ⟨s6,hal,hac⟩
    obtain⟨y1,y2,rfl⟩:=zBL hys
    have hj:j<BB.length:=by rw[<-d2];exact(ah.mp hy).1
    obtain⟨c,c1,c2⟩:=d3 j BB[j] (av hj)
    rw[hy]at c1
    cases c1
    have hqm:=cq hj
    have hq?:(BB.map (·.2))[j]?=some BB[j].2:=by rw[ar,av hj];rfl
    generalize BB[j]=q at c2 hqm hq?
    obtain⟨g1,g2⟩:=k9.mp (hBs q hqm)
    have gf:=((zAi (vT o bk)).mp (aG.mp g1).1).1
    obtain⟨n1,e1⟩:=zBI (o:=o) hU0 hUd (x:=q.2) (by have:=gf.2.1;omega)
    have hw1:=zFJ hU0 hUl
    have hw2:=k7 (a:=60*9) (b:=8000) (by decide)
    refine⟨c,[.int q.1,sv q.2],rfl,s6.seqT c2,rfl,_,_,rfl,_,_,rfl,rfl,?_⟩
    refine⟨_,rfl,_,rfl,q.1,U^9,rfl,by rw[g2];exact n1,dR hU0,by omega,fun pf hpf=>?_⟩
    have s7:zB H6 (upd H6 pf (jW (low q.1 (U^9)))):=zB.upd1 hpf
    have hfr:z8 K (upd H6 pf (jW (low q.1 (U^9)))) (.ref pf) (vS (zA o bk) o q.2):=by rw[<-e1,g2];exact z8.new
    generalize upd H6 pf (jW (low q.1 (U^9)))=H7 at s7 hfr
    refine⟨_,rfl,by show 2<=sizeLine;decide,fun t ht=>hN2 _ _ [some (.int q.1),some (sv q.2)] rfl ⟨(s6.trans s7).trans (zB.upd1 ht),by rw[ay,hal];rfl,fun i' x hi2 hx=>?_⟩⟩
    by_cases hij:i'=j
    ·subst hij
     rw[hq?]at hx
     cases hx
     exact⟨t,.ref pf,by rw[aO (by omega),hal,f6];rfl,.inl (.of zE),hfr.same (zB.upd1 ht)⟩
    ·obtain⟨c',v',z1,z2,z3⟩:=hac i' x (by omega) hx
     have s8:=s7.trans (zB.upd1 (o:=.tup [.ref pf,sv q.2]) ht)
     exact⟨c',v',by rw[aR (by omega)];exact z1,s8.seqT z2,z3.same s8⟩
   ·rintro acc H6 ⟨s6,hal,hac⟩ D2 hD2
    have sD:zB H6 (upd H6 D2 (.lst acc)):=zB.upd1 hD2
    have sx6:z6 T H5 (upd H6 D2 (.lst acc)):=z6.of (s6.trans sD)
    refine k' D2 _ U BB (sxT5.trans sx6) (qH tb5 (s6.trans sD)) ((sxT5.trans (z6.of s6)).freeT (qH tb5 s6) hD2) hU ftop ⟨acc,zE,by rw[ai,hal,d2],fun i' x hx=>?_⟩
    have hi2:i'<td.length:=by
     have:=(ah.mp hx).1
     rw[ai]at this;omega
    obtain⟨c',v',z1,z2,z3⟩:=hac i' x hi2 hx
    exact⟨c',v',z1,sD.seqT z2,z3.same sD⟩
end
end Kn.Ln
end
section
namespace Kn
open PySem L2
section
variable{P:aJ}{w:bh}{K:ag}{mg:Str->Option aj}{base:bF}
noncomputable def zKV:Sp:=fun vs H Q _=>∃x:S,vs=[sv x]/\(x=[]\/(y9 x/\x.length<=3))/\∀H',zB H H'->Q (.bl true) H'
theorem zSk {f:ak}{fd:bc}(F:Fun K "is_edge" "is_edge" zEr f fd)(B:Blt mg)(W:CstW mg)(c:zS P w K mg base 1 "is_name" ["thing"] zBg):FnOk P w K mg base z0 2 f fd ["thing"] zKV:=by
 obtain⟨m,d⟩:=W.edge
 refine F.ok zRW (fun vs H Q E h=>?_) (fun g A outer s H vs Q E i h=>?_)
 ·obtain⟨x,rfl,_⟩:=h;rfl
 ·obtain⟨x,rfl,j,k⟩:=h
  refine⟨_,zL (z5 (zFk (jK zAo (pv 0) vD (vN _)) (gD (zAO (zH c i rfl (zC (pv 0) zD)) (gD (jK gG (yS kO (by rfl) B.len cw (zC (pv 0) zD)) (yR (v:=.int 3) (by rfl) d ⟨_,rfl⟩) (vN _))))))),?_⟩
  refine⟨_,rfl,rfl,_,rfl,?_⟩
  rcases j with rfl|⟨a,n⟩
  ·exact uQ (k _ (zB.refl _))
  ·have b:¬sv x=V.str "" :=fun e=>by
    have e1:tx x=tx []:=V.str.inj e
    have:=j9 e1
    rw[this]at a
    have:=a.1
    simp at this
   refine zAX b ⟨_,rfl,x,rfl,a,fun o l=>⟨_,rfl,uQ ⟨_,rfl,tx x,rfl,by rw[yF,aI];omega,_,_,rfl,rfl,?_⟩⟩⟩
   have e:decide (((tx x).length:Int)<=3)=true:=decide_eq_true (by rw[yF];omega)
   dsimp only
   rw[e]
   exact k _ l
noncomputable def zKW:Sp:=fun vs H Q _=>∃(a:ak) (ba:List S),vs=[.ref a]/\H a=some (.tup (zP ba))/\ba.length<=6/\(∀x∈ba,y9 x)/\jZ ba=true/\∀H',zB H H'->Q (.bl true) H'
theorem zSl {f:ak}{fd:bc}(F:Fun K "is_barred" "is_barred" zEs f fd)(B:Blt mg)(W:CstW mg)(r:zS P w K mg base 1 "is_name" ["thing"] zBg)(t:zS P w K mg base 1 "is_rising" ["things"] zJZ):FnOk P w K mg base z0 2 f fd ["thing"] zKW:=by
 obtain⟨R,u⟩:=W.mb
 refine F.ok zRX (fun vs H Q E h=>?_) (fun x A outer s H vs Q E m h=>?_)
 ·obtain⟨a,ba,rfl,_⟩:=h;rfl
 ·obtain⟨a,ba,rfl,ha,hl,z,j,k⟩:=h
  refine⟨_,zR (y0 (PW.pt (zAN (uI (vW (yS zAW (by rfl) B.isinstance cI (zC (pv 0) (zC (zAL (v:=.ty "tuple") (by rfl) B.tuple fS rfl) zD)))))
    (zAM (qB zFx (yS zAs (by rfl) B.len cw (zC (pv 0) zD)) (yR (v:=.int 6) (by rfl) u ⟨_,rfl⟩) (vN _)))))
    (zL (z5 jJ)) yZ)
   (zL (z5 (zAO (yS (zBc rfl) (by rfl) B.all fg (zC (qD (N:=["name"]) (caps:=[]) rfl (uS (by kernel_rfl)) (zBV (pv 0))
    (fun n C s H ex=>yB (i:=0) zRY rfl (Or.inl rfl)) (fun n C s H ex=>qM)
    (fun n C s H ex=>zH r m rfl (zC (pv 0) zD))) zD)) (gD (zH t m rfl (zC (pv 0) zD)))))),?_⟩
  have p:(zP ba).length=ba.length:=by unfold zP;rw[ai]
  refine⟨_,rfl,_,_,_,true,rfl,.tup ha,(by rfl),_,rfl,vA ?_⟩
  refine⟨_,rfl,a,_,rfl,.inr (.of ha),_,_,rfl,rfl,_,rfl,zAX (by rw[p];omega) ?_⟩
  refine⟨_,rfl,_,rfl,⟨_,.of ha⟩,?_⟩
  refine j5 (zBe _ a (zP ba)) [] 1 (by rw[p];omega) (fun i b d=>zB H d/\b=aH i (.bl true)) ⟨zB.refl H,rfl⟩ (fun i b d _ h=>⟨.of (h.1 _ _ ha),by rw[h.2];simp⟩) ?_ ?_
  ·rintro i y b d ys T G I J ⟨g,rfl⟩
   obtain⟨U,rfl⟩:=ys1 J
   obtain⟨c,e,rfl⟩:=zCl I
   exact⟨_,rfl,c,rfl,z c (aY e),fun L l=>G _ _ [some (sv c)] rfl ⟨g.trans l,by rw[ic]⟩⟩
  ·rintro b d ⟨g,rfl⟩ D M
   refine⟨D,aH _ true,rfl,.of (by rw[zE,lD]),?_⟩
   have:(aH (zP ba).length true).all id=true:=by simp
   rw[this]
   have q:=g.upd_new (o:=.lst (aH (zP ba).length (V.bl true))) (g.free M)
   refine⟨_,rfl,uQ ⟨_,rfl,a,ba,rfl,q _ _ ha,by omega,fun L O=>?_⟩⟩
   rw[j]
   exact k _ (q.trans O)
noncomputable def zKX:Sp:=fun vs H Q _=>∃(a:ak) (lo hi:Int) (hd tl:S) (ba:List S) (to:Bool),vs=[.ref a]/\uD H a lo hi hd tl ba to/\GW lo hi hd tl ba/\∀H',zB H H'->Q (.bl true) H'
theorem zSm {f:ak}{fd:bc}(F:Fun K "is_wish" "is_wish" zEt f fd)(B:Blt mg)(C:Cst K mg)(W:CstW mg)(i:zS P w K mg base 1 "is_whole" ["thing","least","most"] zCR)(n:zS P w K mg base 2 "is_edge" ["thing"] zKV)(x:zS P w K mg base 2 "is_barred" ["thing"] zKW):FnOk P w K mg base z0 3 f fd ["thing"] zKX:=by
 obtain⟨M,o⟩:=W.least
 obtain⟨u1,y⟩:=W.most
 obtain⟨N,z⟩:=W.head
 obtain⟨O,D⟩:=W.tail
 obtain⟨R,G⟩:=W.barred
 obtain⟨T,I⟩:=W.told
 obtain⟨U,J⟩:=W.parts
 obtain⟨X,p⟩:=C.ml
 refine F.ok zRZ (fun vs H Q E h=>?_) (fun L A outer s H vs Q E b h=>?_)
 ·obtain⟨a,lo,hi,hd,tl,ba,to,rfl,_⟩:=h;rfl
 ·obtain⟨a,lo,hi,hd,tl,ba,to,rfl,⟨q,ha,c⟩,gw,k⟩:=h
  have r:=b.mono (j:=1) (by decide)
  refine⟨_,zR (y0 (PW.pt (zAN (uI (vW (yS zAW (by rfl) B.isinstance cI (zC (pv 0) (zC (zAL (v:=.ty "tuple") (by rfl) B.tuple fS rfl) zD)))))
    (zAM (qB zAp (yS zAs (by rfl) B.len cw (zC (pv 0) zD)) (yR (v:=.int 6) (by rfl) J ⟨_,rfl⟩) (vN _)))))
    (zL (z5 jJ)) yZ)
   (zR (y0 (PW.pt (zAN (uI (vW (zH i r rfl (zC (yA yH (pv 0) (yR (v:=.int 0) (by rfl) o ⟨_,rfl⟩) (fun _ _=>rfl)) (zC zQ (zC (yR (v:=.int 8) (by rfl) p ⟨_,rfl⟩) zD))))))
     (zAM (uI (vW (zH i r rfl (zC (yA yH (pv 0) (yR (v:=.int 1) (by rfl) y ⟨_,rfl⟩) (fun _ _=>rfl)) (zC (yA yH (pv 0) (yR (v:=.int 0) (by rfl) o ⟨_,rfl⟩) (fun _ _=>rfl)) (zC (yR (v:=.int 8) (by rfl) p ⟨_,rfl⟩) zD)))))))))
    (zL (z5 jJ)) yZ)
   (zR (y0 (PW.pt (zAN (uI (vW (zH n b rfl (zC (yA yH (pv 0) (yR (v:=.int 2) (by rfl) z ⟨_,rfl⟩) (fun _ _=>rfl)) zD))))
     (zAM (uI (vW (zH n b rfl (zC (yA yH (pv 0) (yR (v:=.int 3) (by rfl) D ⟨_,rfl⟩) (fun _ _=>rfl)) zD)))))))
    (zL (z5 jJ)) yZ)
   (zL (z5 (zAO (zH x b rfl (zC (yA yH (pv 0) (yR (v:=.int 4) (by rfl) G ⟨_,rfl⟩) (fun _ _=>rfl)) zD))
    (gD (yS zAW (by rfl) B.isinstance cI (zC (yA yH (pv 0) (yR (v:=.int 5) (by rfl) I ⟨_,rfl⟩) (fun _ _=>rfl)) (zC (zAL (v:=.ty "bool") (by rfl) B.bool mS rfl) zD))))))))),?_⟩
  have g1:=gw.glo
  have g2:=gw.gle
  have g3:=gw.ghi
  obtain⟨l,rfl⟩:=bQ (show 0<=lo by omega)
  obtain⟨m,rfl⟩:=bQ (show 0<=hi by omega)
  refine⟨_,rfl,_,_,_,true,rfl,.tup ha,(by rfl),_,rfl,vA ?_⟩
  refine⟨_,rfl,a,_,rfl,.inr (.of ha),rfl,_,rfl,gK rfl ?_⟩
  refine⟨_,rfl,a,_,0,.int l,rfl,rfl,.of ha,rfl,l,1,8,rfl,by omega,by omega,_,rfl,vA ?_⟩
  refine⟨_,rfl,a,_,1,.int m,rfl,rfl,.of ha,rfl,_,rfl,a,_,0,.int l,rfl,rfl,.of ha,rfl,m,l,8,rfl,by omega,by omega,_,rfl,vA ?_⟩
  refine⟨_,rfl,a,_,2,sv hd,rfl,rfl,.of ha,rfl,hd,rfl,gw.ghd,fun Y t=>⟨_,rfl,vA ?_⟩⟩
  refine⟨_,rfl,a,_,3,sv tl,rfl,rfl,.of (t _ _ ha),rfl,tl,rfl,gw.gtl,fun Z d=>⟨_,rfl,vA ?_⟩⟩
  have e:=t.trans d
  refine⟨_,rfl,a,_,4,.ref q,rfl,rfl,.of (e _ _ ha),rfl,q,ba,rfl,e _ _ c,gw.len,gw.nm,gw.ris,fun H3 g=>⟨_,rfl,uQ ?_⟩⟩
  have u:=e.trans g
  exact⟨_,rfl,a,_,5,.bl to,rfl,rfl,.of (u _ _ ha),rfl,_,_,_,true,rfl,.bl _,rfl,k _ u⟩
noncomputable def zKY:Sp:=fun vs H Q _=>∃(a:ak) (lo hi:Int) (hd tl:S) (ba:List S) (to:Bool),vs=[.ref a]/\uD H a lo hi hd tl ba to/\GW lo hi hd tl ba/\∀H',zB H H'->Q .non H'
theorem zSn {f:ak}{fd:bc}(F:Fun K "need_wish" "need_wish" zEu f fd)(b:zS P w K mg base 3 "is_wish" ["thing"] zKX):FnOk P w K mg base z0 4 f fd ["thing"] zKY:=by
 refine F.ok zRd (fun vs H Q E h=>?_) (fun c A outer s H vs Q E d h=>?_)
 ·obtain⟨a,lo,hi,hd,tl,ba,to,rfl,_⟩:=h;rfl
 ·obtain⟨a,lo,hi,hd,tl,ba,to,rfl,e,gw,k⟩:=h
  refine⟨_,zL (y0 (uI (vW (zH b d rfl (zC (pv 0) zD)))) (zL zBU) yZ),?_⟩
  exact⟨_,rfl,a,lo,hi,hd,tl,ba,to,rfl,e,gw,fun g i=>⟨_,rfl,vA (k g i)⟩⟩
end
end Kn
end
section
namespace Kn.Ln
open PySem L2 Kn
structure LkOk (bk:List S) (o lo hi:Nat) (hd tl:S) (n:Nat):Prop where
 hv:∀U,Unit9 (zA o bk) U->∀p∈yJ lo hi hd tl,HvOk (zA o bk) (zF (zA o bk)) o n (U^9) p
 sum:((yJ lo hi hd tl).map fun p=>min n (vZ (zA o bk) o p).length).sum<64
theorem _root_.Kn.GW.nats {lo hi:Int}{hd tl:S}{ba:List S}(g:GW lo hi hd tl ba):∃l h:Nat,lo=(l:Int)/\hi=(h:Int)/\1<=l/\l<=h/\h<=8/\hd.length<=3/\tl.length<=3:=by
 have a:=g.glo
 have b:=g.gle
 have c:=g.ghi
 obtain⟨l,rfl⟩:=bQ (show 0<=lo by omega)
 obtain⟨h,rfl⟩:=bQ (show 0<=hi by omega)
 refine⟨l,h,rfl,rfl,by omega,by omega,by omega,?_,?_⟩
 ·rcases g.ghd with z|z
  ·rw[z];simp
  ·exact z.2
 ·rcases g.gtl with z|z
  ·rw[z];simp
  ·exact z.2
theorem _root_.Kn.GW.bnd {lo hi:Int}{hd tl:S}{ba:List S}(g:GW lo hi hd tl ba):ba.Nodup:=((zCu ba).mp g.ris).imp fun{a b} z e=>by rw[e]at z;exact fP _ z
theorem zSo {bk ba:List S}{to:Bool}{x:S}(hb:∀y∈bk,y9 y)(a:∀y∈ba,y9 y)(h:jS bk ba to x=true):y9 x:=by
 unfold jS at h
 rw[iH,bj,decide_eq_true_eq,decide_eq_true_eq]at h
 rcases h with h|h
 ·exact a x h
 ·exact hb x h.2
theorem zFY {o:Nat}{bk:List S}{lo hi:Nat}{hd tl:S}{ba:List S}{to:Bool}(h:hi<=8):∀x∈yQ o bk lo hi hd tl ba to,x.length<=8:=fun x a=>by
 have:=(uP.mp a).1.2.1;omega
theorem zSp:FG (0,1):=⟨by decide,by decide,zCs _,by have:=k7 (a:=0) (b:=1000) (by decide);simpa using this⟩
section
variable{P:aJ}{w:bh}{K:ag}{mg:Str->Option aj}{base:bF}
structure NeedsW (P:aJ) (w:bh) (K:ag) (mg:Str->Option aj) (base:bF):Prop extends Needs P w K mg base where
 ws:zS P w K mg base 4 "need_wish" ["thing"] zKY
noncomputable abbrev sSF:cJ:=top 71
theorem zKZ:FnScope ["book","order","wish","rows","rest","name"] ["book","order","wish"] (defScope sSF):=yE
noncomputable def zFZ (K:ag):Sp:=fun vs H Q _=>∃(c a:ak) (bk:List S) (o lo hi:Nat) (hd tl:S) (ba:List S) (to:Bool),vs=[.ref c,.int o,.ref a]/\H c=some (.tup (zP bk))/\Bk bk o/\uD H a lo hi hd tl ba to/\GW lo hi hd tl ba/\(zA o bk).length<=60/\
 ∀v H',zB H H'->z8 K H' v (yT (zA o bk) o (yQ o bk lo hi hd tl ba to))->Q v H'
theorem zSq {f:ak}{fd:bc}(F:Fun K "share_fitting" "share_fitting" sSF f fd)(N:NeedsW P w K mg base)
  (cR:zS P w K mg base 3 "counted_rows" ["book","order"] zCT) (M:zS P w K mg base 5 "share_of_form" ["rows","order","wish"] (zKO K)) (cO:zS P w K mg base 1 "left_out" ["book","wish"] zCw) (cF:zS P w K mg base 1 "has_form" ["wish","name"] zEv) (cT:zS P w K mg base 3 "less" ["one","other"] (zKM K)) (O:zS P w K mg base 5 "share_by_rows" ["rows","order","name"] (zFR K)) :
  FnOk P w K mg base z0 6 f fd ["book","order","wish"] (zFZ K):=by
 refine F.ok zKZ (fun vs H Q E h=>?_) (fun ap A outer s H vs Q E t h=>?_)
 ·obtain⟨c,a,bk,o,lo,hi,hd,tl,ba,to,rfl,_⟩:=h;rfl
 ·obtain⟨c,a,bk,o,lo,hi,hd,tl,ba,to,rfl,T,hb,J,gw,g,kQ⟩:=h
  have nd:=zKZ.nd
  have r1:=t.mono (j:=1) (by decide)
  have L:=t.mono (j:=3) (by decide)
  have r4:=t.mono (j:=4) (by decide)
  refine⟨_,zR (v3 (zH N.bk L rfl (zC (pv 0) zD))) (zR (v3 (zH N.od L rfl (zC (pv 1) zD))) (zR (v3 (zH N.ws r4 rfl (zC (pv 2) zD)))
   (zR (yC (i:=3) nd rfl (Or.inl rfl) (zH cR L rfl (zC (pv 0) (zC (pv 1) zD))))
   (zR (yC (i:=4) nd rfl (Or.inl rfl) (zH M t rfl (zC (pv 3) (zC (pv 1) (zC (pv 2) zD)))))
   (zR (vX bE rfl (qY (zH cO r1 rfl (zC (pv 0) (zC (pv 2) zD)))) (yB (i:=5) nd rfl (Or.inl rfl))
    (zL (y0 (vW (zH cF r1 rfl (zC (pv 2) (zC (pv 5) zD)))) (zL (yC (i:=4) nd rfl (Or.inl rfl) (zH cT L rfl (zC (pv 4) (zC (zH O t rfl (zC (pv 3) (zC (pv 1) (zC (pv 5) zD)))) zD))))) yZ)))
   (zL (z5 (pv 4)))))))),?_⟩
  refine⟨_,rfl,c,bk,rfl,T,hb.toisBk,fun H1 s1=>?_⟩
  refine⟨_,rfl,o,rfl,hb.o1,hb.o3,?_⟩
  refine⟨_,rfl,a,lo,hi,hd,tl,ba,to,rfl,J.same s1,gw,fun H3 W=>?_⟩
  have s3:=s1.trans W
  obtain⟨l',h',e1,e2,hl1,u,y,as,ax⟩:=gw.nats
  have y:hi<=8:=by omega
  have u:lo<=hi:=by omega
  have X:=hb.toisBk
  refine⟨_,rfl,_,rfl,c,bk,o,rfl,s3 _ _ T,hb.hi,hb.l8,hb.o1,fun dr H4 Y aK R=>?_⟩
  have s4:=s3.trans Y
  refine⟨_,rfl,_,rfl,_,rfl,dr,a,o,bk,lo,hi,hd,tl,ba,to,rfl,hb,g,R,J.same s4,u,y,by omega,by omega,fun v5 H5 B fr=>?_⟩
  have Z:=s4.trans B
  have R5:=R.same B
  refine⟨_,rfl,_,rfl,c,a,bk,lo,hi,hd,tl,ba,to,rfl,Z _ _ T,hb.hi,J.same Z,gw.len,fun l out H6 m aN hl e aa C=>?_⟩
  have s6:=Z.trans m
  have R6:=R5.same m
  have ab:=C gw.bnd
  have ac:=J.same s6
  have al:∀x∈out,y9 x:=fun x d=>zSo X.nm gw.nm (by rw[<-e x];exact decide_eq_true d)
  have D:(u7 (zA o bk) o lo hi hd tl).filter (fun x=>decide (x∉out))=yQ o bk lo hi hd tl ba to:=by
   unfold yQ
   refine ja fun x _=>?_
   rw[<-e x];simp
  have G:∀x∈u7 (zA o bk) o lo hi hd tl,x.length<=8:=fun x d=>by
   have:=((zAi (vT o bk)).mp d).1.2.1;omega
  obtain⟨U,hU⟩:=k6 g
  refine⟨l,rfl,⟨_,.of hl⟩,?_⟩
  refine qN (q8 K l (zP out)) (fun i σ q=>∃(v:V) (x5:Option V),σ=[some (.ref c),some (.int o),some (.ref a),some (.ref dr),some v,x5]/\zB H6 q/\z8 K q v (yT (zA o bk) o ((u7 (zA o bk) o lo hi hd tl).filter fun x=>decide (x∉out.take i))))
   ⟨v5,_,rfl,zB.refl _,?_⟩ (fun i σ q _ h=>by obtain⟨_,_,_,h,_⟩:=h;exact .of (h _ _ hl)) ?_ ?_
  ·have e0:(u7 (zA o bk) o lo hi hd tl).filter (fun x=>decide (x∉out.take 0))=u7 (zA o bk) o lo hi hd tl:=List.filter_eq_self.mpr fun x _=>by simp
   rw[e0];exact fr.same m
  ·rintro i x σ q Nx hN d ⟨v,x5,rfl,r,b⟩
   obtain⟨nm,en,rfl⟩:=zCq d
   have I:=aY en
   have h8:=nm8 (al nm I)
   refine⟨_,rfl,_,rfl,a,lo,hi,hd,tl,ba,to,nm,rfl,ac.same r,by omega,_,rfl,?_⟩
   cases ef:jF (lo:Int) (hi:Int) hd tl nm with
   |false=>
    refine vA (hN _ _ ⟨v,_,rfl,r,?_⟩)
    rw[zSY en fun z=>?_]
    ·exact b
    ·have:=zAJ.mpr ((zAi (vT o bk)).mp z).1
     rw[ef]at this;cases this
   |true=>
    have n:=zAJ.mp ef
    refine uQ ⟨_,rfl,_,rfl,_,rfl,_,rfl,dr,zA o bk,o,nm,rfl,R6.same r,(zBi hb).1,by omega,hb.o1,h8,fun v7 H7 s7 am=>?_⟩
    obtain⟨q1,q2⟩:=zSX (N:=u7 (zA o bk) o lo hi hd tl) g (zFN (vT o bk) ..) G (fun x d=>((zAi (vT o bk)).mp d).2) (fun z=>(zAi (vT o bk)).mpr ⟨n,z⟩) ab en h8
    have an:=(zAj (o:=o) (vT o bk) hU ((zFN (vT o bk) o lo hi hd tl).filter (fun x=>decide (x∉out.take i))) fun x d=>G x (aG.mp d).1).1
    refine⟨v,v7,_,_,rfl,b.same s7,am,an,zSK hb h8,q1,fun p hp=>hN _ _ ⟨.ref p,_,rfl,(r.trans s7).trans (zB.upd1 hp),?_⟩⟩
    rw[<-q2]
    exact z8.new
  ·rintro σ q ⟨v,x5,rfl,r,b⟩
   have el:(zP out).length=out.length:=by unfold zP;rw[ai]
   rw[el,bo,D]at b
   exact⟨_,rfl,kQ v q (s6.trans r) b⟩
noncomputable abbrev sCF:cJ:=top 72
theorem zSr:FnScope ["book","order","wish"] ["book","order","wish"] (defScope sCF):=yE
noncomputable def zKa:Sp:=fun vs H Q _=>∃(c a:ak) (bk:List S) (o lo hi:Nat) (hd tl:S) (ba:List S) (to:Bool),vs=[.ref c,.int o,.ref a]/\H c=some (.tup (zP bk))/\Bk bk o/\uD H a lo hi hd tl ba to/\GW lo hi hd tl ba/\(zA o bk).length<=60/\
 ∀H',zB H H'->Q (.bl (decide (0<(yT (zA o bk) o (yQ o bk lo hi hd tl ba to)).1))) H'
theorem zSs {f:ak}{fd:bc}(F:Fun K "can_fit" "can_fit" sCF f fd)(i:Cst2 K mg)(l:zS P w K mg base 6 "share_fitting" ["book","order","wish"] (zFZ K))(m:zS P w K mg base 1 "is_less" ["one","other"] (zFU K)):FnOk P w K mg base z0 7 f fd ["book","order","wish"] zKa:=by
 obtain⟨e,n,p⟩:=i.nought
 refine F.ok zSr (fun vs H Q E h=>?_) (fun q A outer s H vs Q E g h=>?_)
 ·obtain⟨c,a,bk,o,lo,hi,hd,tl,ba,to,rfl,_⟩:=h;rfl
 ·obtain⟨c,a,bk,o,lo,hi,hd,tl,ba,to,rfl,r,hb,t,gw,b,k⟩:=h
  have u:=g.mono (j:=1) (by decide)
  refine⟨_,zL (z5 (zH m u rfl (zC (yR (v:=.ref e) (by rfl) n rfl) (zC (zH l g rfl (zC (pv 0) (zC (pv 1) (zC (pv 2) zD)))) zD)))),?_⟩
  refine⟨_,rfl,_,rfl,_,rfl,c,a,bk,o,lo,hi,hd,tl,ba,to,rfl,r,hb,t,gw,b,fun x y z fr=>?_⟩
  obtain⟨U,B⟩:=k6 b
  have d:=zAj (o:=o) (vT o bk) B (qV o bk lo hi hd tl ba to) (zFY (by have:=gw.ghi;omega))
  refine⟨_,x,(0,1),_,rfl,⟨e,rfl,p _⟩,fr,zSp,d.1,?_⟩
  rw[zOC]
  exact k y z
noncomputable abbrev sLk:cJ:=top 76
theorem zSt:FnScope ["book","order","wish","many"] ["book","order","wish","many"] (defScope sLk):=yE
noncomputable def zKb (K:ag)(T:ak):Sp:=fun vs H Q _=>∃(c a:ak) (bk:List S) (o lo hi:Nat) (hd tl:S) (ba:List S) (to:Bool) (m:Nat),vs=[.ref c,.int o,.ref a,.int m]/\H c=some (.tup (zP bk))/\Bk bk o/\uD H a lo hi hd tl ba to/\GW lo hi hd tl ba/\(zA o bk).length<=60/\1<=m/\m<=20/\uH T H/\(∀j,j<=ba.length+bk.length->LkOk bk o lo hi hd tl (m+j))/\
 ∀D H' U B,z6 T H H'->uH T H'->H D=none->Unit9 (zA o bk) U->TopN m (zAK (zA o bk) o U (yQ o bk lo hi hd tl ba to)) B->zFX K H' D (zA o bk) o (B.map (·.2))->Q (.ref D) H'
theorem zSu {f T:ak}{fd:bc}(F:Fun K "likeliest" "likeliest" sLk f fd)(u:∃t,mg "MOST_LIKELIEST"=some (.int 20 t))(N:NeedsW P w K mg base)(y:zS P w K mg base 2 "need_whole" ["thing","least","most"] zJt)
  (cR:zS P w K mg base 3 "counted_rows" ["book","order"] zCT) (cO:zS P w K mg base 1 "left_out" ["book","wish"] zCw) (z:zS P w K mg base 5 "heaviest_fitting" ["rows","order","wish","many","barred"] (zKU K T)) :
  FnOk P w K mg base z0 6 f fd ["book","order","wish","many"] (zKb K T):=by
 obtain⟨tM,u⟩:=u
 refine F.ok zSt (fun vs H Q E h=>?_) (fun ab A outer s H vs Q E e h=>?_)
 ·obtain⟨c,a,bk,o,lo,hi,hd,tl,ba,to,m,rfl,_⟩:=h;rfl
 ·obtain⟨c,a,bk,o,lo,hi,hd,tl,ba,to,m,rfl,C,hb,G,gw,I,m1,J,tab,L,kQ⟩:=h
  have r1:=e.mono (j:=1) (by decide)
  have r2:=e.mono (j:=2) (by decide)
  have M:=e.mono (j:=3) (by decide)
  have r4:=e.mono (j:=4) (by decide)
  refine⟨_,zR (v3 (zH N.bk M rfl (zC (pv 0) zD))) (zR (v3 (zH N.od M rfl (zC (pv 1) zD))) (zR (v3 (zH N.ws r4 rfl (zC (pv 2) zD))) (zR (v3 (zH y r2 rfl (zC (pv 3) (zC zQ (zC (yR (v:=.int 20) (by rfl) u ⟨_,rfl⟩) zD)))))
   (zL (z5 (zH z e rfl (zC (zH cR M rfl (zC (pv 0) (zC (pv 1) zD))) (zC (pv 1) (zC (pv 2) (zC (pv 3) (zC (zH cO r1 rfl (zC (pv 0) (zC (pv 2) zD))) zD))))))))))),?_⟩
  refine⟨_,rfl,c,bk,rfl,C,hb.toisBk,fun H1 Y=>?_⟩
  refine⟨_,rfl,o,rfl,hb.o1,hb.o3,?_⟩
  refine⟨_,rfl,a,lo,hi,hd,tl,ba,to,rfl,G.same Y,gw,fun H3 O=>?_⟩
  have Z:=Y.trans O
  refine⟨_,rfl,m,1,20,rfl,m1,J,?_⟩
  obtain⟨l',h',e1,e2,hl1,g,i,ac,al⟩:=gw.nats
  have i:hi<=8:=by omega
  have g:lo<=hi:=by omega
  refine⟨_,rfl,_,rfl,c,bk,o,rfl,Z _ _ C,hb.hi,hb.l8,hb.o1,fun dr H4 W am R=>?_⟩
  have X:=Z.trans W
  refine⟨_,rfl,_,rfl,_,rfl,_,rfl,_,rfl,c,a,bk,lo,hi,hd,tl,ba,to,rfl,X _ _ C,hb.hi,G.same X,gw.len,fun l out H6 n an hl p d aa=>?_⟩
  have r:=X.trans n
  have q:(u7 (zA o bk) o lo hi hd tl).filter (fun x=>decide (x∉out))=yQ o bk lo hi hd tl ba to:=by
   unfold yQ
   refine ja fun x _=>?_
   rw[<-p x];simp
  have b:=L out.length d
  refine⟨dr,a,l,o,m,bk,lo,hi,hd,tl,ba,to,out,rfl,hb,I,R.same n,G.same r,g,i,by omega,by omega,hl,by omega,by have:=gw.len;have:=hb.hi;omega,qH tab r,b.hv,b.sum,fun D H7 U B sx tb hD hU hT hL=>?_⟩
  rw[q]at hT
  exact kQ D H7 U B ((z6.of r).trans sx) tb (r.free hD) hU hT hL
noncomputable def zKc:Sp:=fun vs H Q _=>∃(c a:ak) (bk:List S) (lo hi:Int) (hd tl:S) (ba:List S) (to:Bool) (x:S),vs=[.ref c,.ref a,sv x]/\H c=some (.tup (zP bk))/\isBk bk/\uD H a lo hi hd tl ba to/\GW lo hi hd tl ba/\y9 x/\
 ∀H',zB H H'->Q (.bl (vG bk lo hi hd tl ba to x)) H'
theorem zSv {f:ak}{fd:bc}(F:Fun K "fits" "fits" zEz f fd)(N:NeedsW P w K mg base)(t:zS P w K mg base 1 "has_form" ["wish","name"] zEv)(u:zS P w K mg base 1 "left_out" ["book","wish"] zEx):FnOk P w K mg base z0 5 f fd ["book","wish","name"] zKc:=by
 refine F.ok zRi (fun vs H Q E h=>?_) (fun v A outer s H vs Q E e h=>?_)
 ·obtain⟨c,a,bk,lo,hi,hd,tl,ba,to,x,rfl,_⟩:=h;rfl
 ·obtain⟨c,a,bk,lo,hi,hd,tl,ba,to,x,rfl,o,hb,g,gw,p,k⟩:=h
  have q:=e.mono (j:=1) (by decide)
  have y:=e.mono (j:=2) (by decide)
  have z:=e.mono (j:=3) (by decide)
  refine⟨_,zR (v3 (zH N.bk z rfl (zC (pv 0) zD))) (zR (v3 (zH N.ws e rfl (zC (pv 1) zD))) (zR (v3 (zH N.nm y rfl (zC (pv 2) zD)))
   (zL (z5 (zAO (zH t q rfl (zC (pv 1) (zC (pv 2) zD))) (gD (jK zGP (pv 2) (zH u q rfl (zC (pv 0) (zC (pv 1) zD))) (by with_unfolding_all rfl)))))))),?_⟩
  refine⟨_,rfl,c,bk,rfl,o,hb,fun D r=>?_⟩
  refine⟨_,rfl,a,lo,hi,hd,tl,ba,to,rfl,g.same r,gw,fun G i=>?_⟩
  have B:=r.trans i
  refine⟨_,rfl,x,rfl,p,fun I m=>?_⟩
  have b:=B.trans m
  have J:=nm8 p
  refine⟨_,rfl,_,rfl,a,lo,hi,hd,tl,ba,to,x,rfl,g.same b,by omega,_,rfl,?_⟩
  cases e1:jF lo hi hd tl x with
  |false=>
   have n:vG bk lo hi hd tl ba to x=false:=by simp only[vG,e1,fL]
   rw[n]at k
   exact vA (k _ b)
  |true=>
   refine uQ ?_
   refine⟨_,rfl,_,rfl,_,rfl,c,a,bk,lo,hi,hd,tl,ba,to,rfl,b _ _ o,hb.hi,g.same b,gw.len,fun l out L C hl d=>?_⟩
   refine⟨l,_,rfl,.inl (.of hl),rfl,zRc _,?_⟩
   have n:vG bk lo hi hd tl ba to x=!jS bk ba to x:=by simp only[vG,e1,oa]
   rw[zRb,d x]
   rw[n]at k
   exact k _ (b.trans C)
end
section
variable{o:Nat}{bk:List S}
theorem zFa (b:(zA o bk).length<=60){M c:List S}(d:M.Perm c)(e:∀x∈M,x.length<=8):yT (zA o bk) o M=yT (zA o bk) o c:=by
 obtain⟨U,a⟩:=k6 b
 rw[(qU (o:=o) a.pos a.dvd e).1,(qU (o:=o) a.pos a.dvd fun x f=>e x (d.mem_iff.mpr f)).1,zFO d]
theorem zKd (d:(zA o bk).length<=60){M c:List S}(e:∀x∈M,x.length<=8)(b:∀x∈c,x.length<=8):zAz (yT (zA o bk) o M) (yT (zA o bk) o c)=yT (zA o bk) o (M++c):=by
 obtain⟨U,a⟩:=k6 d
 obtain⟨e1,f⟩:=qU (o:=o) a.pos a.dvd e
 obtain⟨g,i⟩:=qU (o:=o) a.pos a.dvd b
 have h:∀x∈M++c,x.length<=8:=fun x j=>(bt.mp j).elim (e x) (b x)
 rw[e1,g,(qU (o:=o) a.pos a.dvd h).1,zHb (dR a.pos) f i,zJx]
open Classical in
noncomputable def v1 (o:Nat) (bk:List S) (x:S):List S:=if qT (zA o bk) o x then [x]else []
theorem j0 {x y:S}:y∈v1 o bk x↔y=x/\qT (zA o bk) o x:=by
 unfold v1
 split
 ·rename_i h;simp[h]
 ·rename_i h;simp[h]
theorem zFb (x:S):(v1 o bk x).Nodup:=by unfold v1;split<;>simp
theorem zKe (b:(zA o bk).length<=60){x:S}(c:x.length<=8):vS (zA o bk) o x=yT (zA o bk) o (v1 o bk x):=by
 obtain⟨U,a⟩:=k6 b
 have f:0<U^9:=dR a.pos
 have h:∀y∈v1 o bk x,y.length<=8:=fun y d=>by rw[(j0.mp d).1];exact c
 rw[(qU (o:=o) a.pos a.dvd h).1,<- (zBI (o:=o) a.pos a.dvd c).2]
 unfold v1
 split
 ·unfold yP;simp
 ·rename_i e
  rw[zFQ a.pos a.dvd c e];rfl
theorem zSw (c:(zA o bk).length<=60){M:List S}(d:∀x∈M,x.length<=8)(i:∀x∈M,qT (zA o bk) o x):0<(yT (zA o bk) o M).1↔M≠[]:=by
 obtain⟨U,a⟩:=k6 c
 have b:0<U^9:=dR a.pos
 obtain⟨e1,j⟩:=qU (o:=o) a.pos a.dvd d
 have cr:=uL (u:=yP (zA o bk) o U M) b
 have f:=uM j b
 rw[e1]
 constructor
 ·rintro h rfl
  have l:yP (zA o bk) o U []=0:=rfl
  rw[l,zCO b]at h
  exact absurd h (by decide)
 ·intro e
  cases M with
  |nil=>exact absurd rfl e
  |cons x M=>
   have n:=zSD (o:=o) a.pos a.dvd (d x (aq ..)) (i x (aq ..))
   have p:=(qU (o:=o) a.pos a.dvd (M:=M) fun y m=>d y (aw _ m)).2
   rw[zCt]at cr f⊢
   generalize low (Wn (zA o bk) o (U^9) x+yP (zA o bk) o U M) (U^9)=q at*
   have g:0<(Wn (zA o bk) o (U^9) x+yP (zA o bk) o U M)*q.2:=cy (by omega) f.dn
   rw[<-cr]at g
   exact iN g b
theorem zSx (c:(zA o bk).length<=60){M b:List S}(nd:M.Nodup)(f:∀x∈M,x∈b)(d:∀x∈b,x.length<=8):lss (yT (zA o bk) o b) (yT (zA o bk) o M)=false:=by
 obtain⟨U,a⟩:=k6 c
 have g:0<U^9:=dR a.pos
 obtain⟨e1,i⟩:=qU (o:=o) a.pos a.dvd (M:=M) fun x j=>d x (f x j)
 obtain⟨l,m⟩:=qU (o:=o) a.pos a.dvd d
 have e:=zFP (o:=o) a.pos a.dvd M b nd f d
 rw[e1,l]
 have h:=(zKL g i e).1
 unfold lss
 exact decide_eq_false (by omega)
theorem zFc (ha:gR bk){x:S}(h:qT (zA o bk) o x):∀c∈x,c=97\/c=98\/c=122:=fun c e=>by
 obtain⟨i,hi⟩:=List.getElem?_of_mem e
 have b:i<x.length:=(ah.mp hi).1
 have f:(zI (x.take i) o,(x.drop i).take 1)∈yL o x:=ao.mpr ⟨i,bK.mpr (by omega),rfl⟩
 have g:=h _ f
 have a:c∈(x.drop i).take 1:=by
  rw[fi b,(ah.mp hi).2]
  simp
 obtain⟨nm,j,d⟩:=aU.mp g
 obtain⟨p,_,e1⟩:=ao.mp d
 have l:(nm.drop p).take 1=(x.drop i).take 1:=congrArg oZ e1
 rw[<-l]at a
 exact ha nm j c (nN (da a))
variable{lo hi:Nat}{hd tl:S}{ba:List S}{to:Bool}
theorem zSy (h:lo<=hi):((bA (hi+1-lo)).map fun i=>yQ o bk (lo+i) (lo+i) hd tl ba to).flatten.Perm (yQ o bk lo hi hd tl ba to):=by
 refine zBm ?_ (qV ..) fun x=>?_
 ·rw[dm,gv]
  refine⟨fun l hl=>?_,?_⟩
  ·obtain⟨i,_,rfl⟩:=ao.mp hl
   exact qV ..
  ·rw[bB]
   refine mx.imp fun{i j} m x d y n e=>?_
   have a:=(uP.mp d).1
   have c:=(uP.mp n).1
   rw[e]at a
   have:=a.1;have:=a.2.1;have:=c.1;have:=c.2.1
   omega
 ·rw[bO,uP]
  constructor
  ·rintro⟨l,hl,d⟩
   obtain⟨i,b,rfl⟩:=ao.mp hl
   have b:=bK.mp b
   obtain⟨⟨a,c,f⟩,g⟩:=uP.mp d
   exact⟨⟨by omega,by omega,f⟩,g⟩
  ·rintro⟨⟨a,c,f⟩,g⟩
   exact⟨_,ao.mpr ⟨x.length-lo,bK.mpr (by omega),rfl⟩,uP.mpr ⟨⟨by omega,by omega,f⟩,g⟩⟩
noncomputable def v2:List Nat:=[97,98,122]
theorem zSz {x h:S}{c:Nat}:x.take (h++[c]).length=h++[c]↔x.take h.length=h/\x[h.length]?=some c:=by
 rw[ay,bR]
 constructor
 ·intro e
  have hl:=congrArg fU e
  rw[aZ,ay,bR]at hl
  have a:h.length<x.length:=by omega
  rw[aA a]at e
  obtain⟨e1,b⟩:=zBl e
  exact⟨e1,by rw[av a,b]⟩
 ·rintro⟨e1,b⟩
  obtain⟨a,d⟩:=ah.mp b
  rw[aA a,e1,d]
theorem zTA {x t:S}{c:Nat}:zI x (c::t).length=c::t↔zI x t.length=t/\t.length<x.length/\x[x.length-t.length-1]?=some c:=by
 unfold zI
 rw[aM]
 constructor
 ·intro e
  have hl:=congrArg fU e
  rw[bV,aM]at hl
  have a:x.length- (t.length+1)<x.length:=by omega
  rw[fi a]at e
  have e1:=(iD e).1
  have b:=(iD e).2
  refine⟨?_,by omega,?_⟩
  ·rw[show x.length- (t.length+1)+1=x.length-t.length by omega]at b
   exact b
  ·rw[show x.length-t.length-1=x.length- (t.length+1) by omega,av a,e1]
 ·rintro⟨e1,a,b⟩
  rw[show x.length-t.length-1=x.length- (t.length+1) by omega]at b
  obtain⟨d,f⟩:=ah.mp b
  rw[fi d,f,show x.length- (t.length+1)+1=x.length-t.length by omega,e1]
theorem zTB (ha:gR bk)(F:1<=lo){b:Bool}(hb:b=true↔hd≠[]/\vG bk lo hi hd tl ba to hd=true) :
  ((v2.map fun c=>yQ o bk lo hi (hd++[c]) tl ba to)++(if b then [v1 o bk hd]else [])).flatten.Perm (yQ o bk lo hi hd tl ba to):=by
 have d:∀{c:Nat} {x:S},x∈yQ o bk lo hi (hd++[c]) tl ba to↔x∈yQ o bk lo hi hd tl ba to/\x[hd.length]?=some c:=fun{c x}=>by
  rw[uP,uP]
  unfold zAH
  rw[zSz]
  constructor
  ·rintro⟨⟨q,r,⟨s,t⟩,u⟩,v⟩;exact⟨⟨⟨q,r,s,u⟩,v⟩,t⟩
  ·rintro⟨⟨⟨q,r,s,u⟩,v⟩,t⟩;exact⟨⟨q,r,⟨s,t⟩,u⟩,v⟩
 have f:∀{x:S},(∃l∈(if b then [v1 o bk hd]else []),x∈l)->x=hd/\b=true/\qT (zA o bk) o hd:=fun{x} ⟨l,hl,a⟩=>by
  cases b with
  |false=>cases hl
  |true=>
   rw[aS.mp hl]at a
   exact⟨(j0.mp a).1,rfl,(j0.mp a).2⟩
 refine zBm ?_ (qV ..) fun x=>?_
 ·rw[eT,dm,ie]
  refine⟨?_,?_,fun x a y w e=>?_⟩
  ·rw[gv]
   refine⟨fun l hl=>?_,?_⟩
   ·obtain⟨i,_,rfl⟩:=ao.mp hl
    exact qV ..
   ·rw[bB]
    refine(show v2.Nodup by decide).imp fun{i j} A x a y w e=>?_
    have e1:=(d.mp a).2
    have B:=(d.mp w).2
    rw[e,B]at e1
    exact A (aB e1).symm
  ·cases b
   ·simp
   ·have e:(if true=true then [v1 o bk hd]else []).flatten=v1 o bk hd:=by simp
    rw[e];exact zFb hd
  ·obtain⟨l,hl,a⟩:=bO.mp a
   obtain⟨c,_,rfl⟩:=ao.mp hl
   have e1:=(d.mp a).2
   have B:=(f (bO.mp w)).1
   rw[e,B]at e1
   simp at e1
 ·rw[eT,bt]
  constructor
  ·rintro(h|h)
   ·obtain⟨l,hl,a⟩:=bO.mp h
    obtain⟨c,_,rfl⟩:=ao.mp hl
    exact(d.mp a).1
   ·obtain⟨e,g,p⟩:=f (bO.mp h)
    have:=(hb.mp g).2
    unfold vG at this
    rw[bj,eO]at this
    rw[e]
    exact uP.mpr ⟨zAJ.mp this.1,p,this.2⟩
  ·intro a
   obtain⟨hf,p,C⟩:=uP.mp a
   by_cases m:x.length=hd.length
   ·right
    have e:x=hd:=by
     have:=hf.2.2.1
     rw[<-m,bo]at this
     exact this
    subst e
    have g:b=true:=hb.mpr ⟨fun z=>by have:=hf.1;rw[z]at this;simp at this;omega,by
     unfold vG
     rw[bj,eO]
     exact⟨zAJ.mpr hf,C⟩⟩
    rw[g]
    exact bO.mpr ⟨_,c6 _,j0.mpr ⟨rfl,p⟩⟩
   ·left
    have D:=zJg hf.2.2.1
    have n:hd.length<x.length:=by omega
    have E:=zFc ha p x[hd.length] (cq n)
    refine bO.mpr ⟨_,ao.mpr ⟨x[hd.length],?_,rfl⟩,d.mpr ⟨a,av n⟩⟩
    unfold v2
    rcases E with z|z|z<;>rw[z]<;>simp
theorem zTC (ha:gR bk)(G:1<=lo){b:Bool}(hb:b=true↔tl≠[]/\vG bk lo hi hd tl ba to tl=true) :
  ((v2.map fun c=>yQ o bk lo hi hd (c::tl) ba to)++(if b then [v1 o bk tl]else [])).flatten.Perm (yQ o bk lo hi hd tl ba to):=by
 have d:∀{c:Nat} {x:S},x∈yQ o bk lo hi hd (c::tl) ba to↔x∈yQ o bk lo hi hd tl ba to/\tl.length<x.length/\x[x.length-tl.length-1]?=some c:=fun{c x}=>by
  rw[uP,uP]
  unfold zAH
  rw[zTA]
  constructor
  ·rintro⟨⟨q,r,s,⟨t,u,v⟩⟩,w⟩;exact⟨⟨⟨q,r,s,t⟩,w⟩,u,v⟩
  ·rintro⟨⟨⟨q,r,s,t⟩,w⟩,u,v⟩;exact⟨⟨q,r,s,⟨t,u,v⟩⟩,w⟩
 have f:∀{x:S},(∃l∈(if b then [v1 o bk tl]else []),x∈l)->x=tl/\b=true/\qT (zA o bk) o tl:=fun{x} ⟨l,hl,a⟩=>by
  cases b with
  |false=>cases hl
  |true=>
   rw[aS.mp hl]at a
   exact⟨(j0.mp a).1,rfl,(j0.mp a).2⟩
 refine zBm ?_ (qV ..) fun x=>?_
 ·rw[eT,dm,ie]
  refine⟨?_,?_,fun x a y A e=>?_⟩
  ·rw[gv]
   refine⟨fun l hl=>?_,?_⟩
   ·obtain⟨i,_,rfl⟩:=ao.mp hl
    exact qV ..
   ·rw[bB]
    refine(show v2.Nodup by decide).imp fun{i j} B x a y A e=>?_
    have e1:=(d.mp a).2.2
    have C:=(d.mp A).2.2
    rw[e,C]at e1
    exact B (aB e1).symm
  ·cases b
   ·simp
   ·have e:(if true=true then [v1 o bk tl]else []).flatten=v1 o bk tl:=by simp
    rw[e];exact zFb tl
  ·obtain⟨l,hl,a⟩:=bO.mp a
   obtain⟨c,_,rfl⟩:=ao.mp hl
   have e1:=(d.mp a).2.1
   have C:=(f (bO.mp A)).1
   rw[e,C]at e1
   omega
 ·rw[eT,bt]
  constructor
  ·rintro(h|h)
   ·obtain⟨l,hl,a⟩:=bO.mp h
    obtain⟨c,_,rfl⟩:=ao.mp hl
    exact(d.mp a).1
   ·obtain⟨e,g,p⟩:=f (bO.mp h)
    have:=(hb.mp g).2
    unfold vG at this
    rw[bj,eO]at this
    rw[e]
    exact uP.mpr ⟨zAJ.mp this.1,p,this.2⟩
  ·intro a
   obtain⟨hf,p,D⟩:=uP.mp a
   by_cases m:x.length=tl.length
   ·right
    have e:x=tl:=by
     have:=hf.2.2.2
     unfold zI at this
     rw[m,f6,eK]at this
     exact this
    subst e
    have g:b=true:=hb.mpr ⟨fun z=>by have:=hf.1;rw[z]at this;simp at this;omega,by
     unfold vG
     rw[bj,eO]
     exact⟨zAJ.mpr hf,D⟩⟩
    rw[g]
    exact bO.mpr ⟨_,c6 _,j0.mpr ⟨rfl,p⟩⟩
   ·left
    have E:=zJh hf.2.2.2
    have n:x.length-tl.length-1<x.length:=by omega
    have F:=zFc ha p x[x.length-tl.length-1] (cq n)
    refine bO.mpr ⟨_,ao.mpr ⟨x[x.length-tl.length-1],?_,rfl⟩,d.mpr ⟨a,by omega,av n⟩⟩
    unfold v2
    rcases F with z|z|z<;>rw[z]<;>simp
theorem zTD (q:ba.Nodup):(yQ o bk lo hi hd tl ba to++((ba.filter fun n=>vG bk lo hi hd tl [] to n).map (v1 o bk)).flatten).Perm (yQ o bk lo hi hd tl [] to):=by
 have c:∀x,jS bk ba to x=(decide (x∈ba)||jS bk [] to x):=fun x=>by unfold jS;simp
 refine zBm ?_ (qV ..) fun x=>?_
 ·rw[dm,ie]
  refine⟨qV ..,?_,fun x g y d e=>?_⟩
  ·rw[gv]
   refine⟨fun l hl=>?_,?_⟩
   ·obtain⟨n,_,rfl⟩:=ao.mp hl
    exact zFb n
   ·rw[bB]
    refine(q.filter _).imp fun{a b} m x g y d e=>?_
    rw[(j0.mp g).1,(j0.mp d).1]at e
    exact m e
  ·obtain⟨l,hl,d⟩:=bO.mp d
   obtain⟨n,p,rfl⟩:=ao.mp hl
   have f:=(uP.mp g).2.2
   rw[c,e,(j0.mp d).1,decide_eq_true (aG.mp p).1]at f
   cases f
 ·rw[bt,uP,uP]
  constructor
  ·rintro(⟨f,j,i⟩|h)
   ·rw[c,Bool.or_eq_false_iff]at i
    exact⟨f,j,i.2⟩
   ·obtain⟨l,hl,d⟩:=bO.mp h
    obtain⟨n,p,rfl⟩:=ao.mp hl
    obtain⟨e,r⟩:=j0.mp d
    have:=(aG.mp p).2
    unfold vG at this
    rw[bj,eO]at this
    rw[e]
    exact⟨zAJ.mp this.1,r,this.2⟩
  ·rintro⟨f,j,i⟩
   by_cases g:x∈ba
   ·right
    refine bO.mpr ⟨_,ao.mpr ⟨x,aG.mpr ⟨g,?_⟩,rfl⟩,j0.mpr ⟨rfl,j⟩⟩
    unfold vG
    rw[bj,eO]
    exact⟨zAJ.mpr f,i⟩
   ·left
    exact⟨f,j,by rw[c,decide_eq_false g,i];rfl⟩
end
theorem top_nil {A B:zJ}{n:Nat}(h:TopN n A B)(c:1<=n):B≠[]↔A≠[]:=by
 constructor
 ·intro a b
  cases B with
  |nil=>exact a rfl
  |cons q B=>
   have:=h.sub q (aq ..)
   rw[b]at this;cases this
 ·intro b a
  cases A with
  |nil=>exact b rfl
  |cons q A=>
   rcases h.cmp q (aq ..)with z|⟨z,_⟩
   ·rw[a]at z;cases z
   ·rw[a]at z;simp at z;omega
theorem zTE {bk:List S}{o lo hi n:Nat}{hd tl:S}(d:1<=o)(ha:gR bk)(e:bk.length<=3)(a:1<=n)(f:n<=12)(h:hi<=8)(g:hi<lo+5):LkOk bk o lo hi hd tl n:=by
 have l8:∀p∈yJ lo hi hd tl,p.length<=8:=fun p b=>by have:=(zCn b).2;omega
 refine⟨fun U c p b=>(zQd d ha e c.pos c.dvd a (by omega) (l8 p b)).1,?_⟩
 have go:∀L:List (List S),(L.map fun p=>min n (vZ (zA o bk) o p).length).sum<=L.length*n:=by
  intro L
  induction L with
  |nil=>simp
  |cons p L ih=>rw[aD,aT,aM,iS];omega
 have i:=go (yJ lo hi hd tl)
 have j:=zFE lo hi hd tl
 have l:(yJ lo hi hd tl).length*n<=5*12:=rA (by omega) f
 omega
section
variable{P:aJ}{w:bh}{K:ag}{mg:Str->Option aj}{base:bF}
noncomputable def uF (K:ag)(H:Hp)(l:ak)(ps:List (S×S))(o:Nat)(Ms:List (List S)):Prop:=∃ts:List V,H l=some (.lst ts)/\ts.length=Ms.length/\∀(i:Nat) (M:List S),Ms[i]?=some M->∃v,ts[i]?=some v/\z8 K H v (yT ps o M)
theorem uF.same {H c:Hp}{l:ak}{ps:List (S×S)}{o:Nat}{d:List (List S)}(h:uF K H l ps o d)(e:zB H c):uF K c l ps o d:=by
 obtain⟨f,g,j,m⟩:=h
 exact⟨f,e _ _ g,j,fun i M hi=>let⟨v,a,b⟩:=m i M hi;⟨v,a,b.same e⟩⟩
theorem uF.nil {H:Hp}{l:ak}{ps:List (S×S)}{o:Nat}(h:H l=some (.lst [])):uF K H l ps o []:=⟨[],h,rfl,fun i M hi=>by cases hi⟩
theorem uF.snoc {H:Hp}{l:ak}{ps:List (S×S)}{o:Nat}{c:List (List S)}{M:List S}{v:V}{d:List V}(g:H l=some (.lst d))(h:d.length=c.length)(n:∀(i:Nat) (M:List S),c[i]?=some M->∃v,d[i]?=some v/\z8 K H v (yT ps o M))(fr:z8 K H v (yT ps o M)):uF K (upd H l (.lst (d++[v]))) l ps o (c++[M]):=by
 have nt:∀ys,¬Rd H l (.tup ys):=by
  rintro ys (z|⟨p,z⟩)
  ·rw[g]at z;cases z
  ·rw[g]at z;cases z
 have j:z6 l H (upd H l (.lst (d++[v]))):=vY
 refine⟨d++[v],zE,by rw[ay,ay,h];rfl,fun i m hi=>?_⟩
 by_cases f:i<c.length
 ·rw[aR f]at hi
  obtain⟨u,a,b⟩:=n i m hi
  exact⟨u,by rw[aR (by omega)];exact a,j.frA nt b⟩
 ·rw[aO (by omega)]at hi
  have q:i-c.length<1:=(ah.mp hi).1
  have e:i-c.length=0:=by omega
  rw[e]at hi
  have:m=M:=(aB hi).symm
  subst this
  exact⟨v,by rw[aO (by omega),h,e];rfl,j.frA nt fr⟩
noncomputable def zFd (K:ag):Sp:=fun vs H Q _=>∃(l:ak) (o:Nat) (bk:List S) (Ms:List (List S)),vs=[.ref l]/\uF K H l (zA o bk) o Ms/\(zA o bk).length<=60/\Ms.flatten.Nodup/\(∀x∈Ms.flatten,x.length<=8)/\
 ∀v H',zB H H'->z8 K H' v (yT (zA o bk) o Ms.flatten)->Q v H'
noncomputable abbrev sWh:cJ:=top 83
theorem zKf:FnScope ["_law_parts","_law_whole_here","_law_part"] ["_law_parts"] (defScope sWh):=yE
theorem zKg {a:List (List S)}(h:a.flatten.Nodup)(i:Nat):(a.take i).flatten.Nodup/\∀x∈(a.take i).flatten,x∈a.flatten:=by
 have e:a.flatten=(a.take i).flatten++(a.drop i).flatten:=by rw[<-eT,gu]
 rw[e]at h
 exact⟨(dQ.mp h).1,fun x b=>by rw[e];exact bY _ b⟩
theorem zTF {f:ak}{fd:bc}(F:Fun K "_law_whole" "_law_whole" sWh f fd)(L:zS P w K mg base 3 "added" ["one","other"] (zFM K)):FnOk P w K mg base z0 4 f fd ["_law_parts"] (zFd K):=by
 refine F.ok zKf (fun vs H Q E h=>?_) (fun M A outer s H vs Q E N h=>?_)
 ·obtain⟨l,o,bk,a,rfl,_⟩:=h;rfl
 ·obtain⟨l,o,bk,a,rfl,⟨O,C,D,R⟩,e,g,m,k⟩:=h
  have nd:=zKf.nd
  obtain⟨U,G⟩:=k6 e
  refine⟨_,zR (yC (i:=1) nd rfl (Or.inl rfl) (uA (zC zQ (zC zQ zD))))
   (zR (vX bE rfl (qY (pv 0)) (yB (i:=2) nd rfl (Or.inl rfl))
    (zL (yC (i:=1) nd rfl (Or.inl rfl) (zH L N rfl (zC (pv 1) (zC (pv 2) zD))))))
   (zL (z5 (pv 1)))),?_⟩
  refine⟨by show 2<=sizeLine;decide,fun q r=>?_⟩
  have I:zB H (upd H q (.tup [.int 0,.int 1])):=zB.upd1 r
  refine⟨_,rfl,l,rfl,⟨_,.of (I _ _ C)⟩,?_⟩
  refine qN (q8 K l O) (fun i σ d=>∃(v:V) (t:Option V),σ=[some (.ref l),some v,t]/\zB H d/\z8 K d v (yT (zA o bk) o (a.take i).flatten))
   ⟨.ref q,_,rfl,I,⟨q,rfl,.of zE⟩⟩ (fun i σ d _ h=>by obtain⟨_,_,_,h,_⟩:=h;exact .of (h _ _ C)) ?_ ?_
  ·rintro i x σ d Nx T J ⟨v,t,rfl,n,fr⟩
   have hi:i<a.length:=by rw[<-D];exact(ah.mp J).1
   have W:a[i]?=some a[i]:=av hi
   obtain⟨u,e1,X⟩:=R i _ W
   rw[J]at e1
   cases e1
   have c:∀y∈a[i],y∈a.flatten:=fun y b=>bO.mpr ⟨_,cq hi,b⟩
   have j:(a.take (i+1)).flatten=(a.take i).flatten++a[i]:=by rw[aA hi,eT];simp
   have Y:=zKg g (i+1)
   have z:=zKg g i
   have B:a[i].Nodup:=by
    have:=Y.1
    rw[j]at this
    exact(dQ.mp this).2.1
   have f1:=(zAj (o:=o) (vT o bk) G z.1 fun y b=>m y (z.2 y b)).1
   have f2:=(zAj (o:=o) (vT o bk) G B fun y b=>m y (c y b)).1
   refine⟨_,rfl,_,rfl,v,_,_,_,rfl,fr,X.same n,f1,f2,fun p Z=>T _ _ ⟨.ref p,_,rfl,n.trans (zB.upd1 Z),?_⟩⟩
   rw[j,<-zKd e (fun y b=>m y (z.2 y b)) fun y b=>m y (c y b)]
   exact z8.new
  ·rintro σ d ⟨v,t,rfl,n,fr⟩
   rw[D,bo]at fr
   exact⟨_,rfl,k v d n fr⟩
end
structure LwE (K:ag) (H:Hp) (b pw:ak) (v:V) (o:Nat) (bk:List S) (lo hi:Nat) (hd tl:S) (ba:List S) (to:Bool):Prop where
 hb:H b=some (.tup (zP bk))
 ws:uD H pw lo hi hd tl ba to
 fr:z8 K H v (yT (zA o bk) o (yQ o bk lo hi hd tl ba to))
section
variable{K:ag}{H H':Hp}{b pw d:ak}{v:V}{o:Nat}{bk:List S}{lo hi:Nat}{hd tl:S}{ba:List S}{to:Bool}
theorem LwE.same (h:LwE K H b pw v o bk lo hi hd tl ba to)(e:zB H H'):LwE K H' b pw v o bk lo hi hd tl ba to:=⟨e _ _ h.hb,h.ws.same e,h.fr.same e⟩
theorem zBr {xs:List V}{c:ak}(h:H c=some (.tup xs))(e:z6 d H H')(nt:∀ys,¬Rd H d (.tup ys)):H' c=some (.tup xs):=e _ _ (fun z=>nt xs (.inl (by rw[<-z];exact h))) h
theorem LwE.sameX (h:LwE K H b pw v o bk lo hi hd tl ba to)(e:z6 d H H')(nt:∀ys,¬Rd H d (.tup ys)):LwE K H' b pw v o bk lo hi hd tl ba to:=by
 obtain⟨a,c,f⟩:=h.ws
 exact⟨zBr h.hb e nt,⟨a,zBr c e nt,zBr f e nt⟩,e.frA nt h.fr⟩
theorem ntL {xs:List V}(h:H d=some (.lst xs)):∀ys,¬Rd H d (.tup ys):=by
 rintro ys (z|⟨a,z⟩)
 ·rw[h]at z;cases z
 ·rw[h]at z;cases z
end
theorem zTG {B:List S}{o:Nat}(h:∀x∈B,x.length<=3):(zA o B).length<=4*B.length:=by
 have a:((zA o B).length:Int)<=4*(B.length:Int):=by
  rw[zCN]
  have go:∀l:List S,(∀x∈l,x.length<=3)->(l.map fun x=>(x.length:Int)+1).sum<=4*(l.length:Int):=by
   intro l
   induction l with
   |nil=>intro _;simp
   |cons x r ih=>
    intro hl
    have c:=hl x (aq ..)
    have a:=ih fun y b=>hl y (aw _ b)
    rw[aD,aT,aM]
    have:((r.length+1:Nat):Int)=(r.length:Int)+1:=rfl
    omega
  exact go B h
 omega
theorem zTH:FG (1,1):=⟨by decide,by decide,by have:=k7 (a:=0) (b:=1000) (by decide);simpa using this,by have:=k7 (a:=0) (b:=1000) (by decide);simpa using this⟩
theorem zTI {lo hi n:Nat}{hd tl:S}{ba:List S}(g:GW lo hi hd tl ba)(a:lo<=n)(b:n<=hi):GW n n hd tl ba:=⟨by have:=g.glo;omega,uk _,by have:=g.ghi;omega,g.ghd,g.gtl,g.len,g.nm,g.ris⟩
theorem zTJ {e:S}{c:Nat}(h:e=[]\/(y9 e/\e.length<=3))(hl:e.length<3)(b:c∈v2):y9 (e++[c])/\(e++[c]).length<=3:=by
 have a:97<=c/\c<=122:=by unfold v2 at b;simp at b;omega
 refine⟨⟨by rw[ay,bR];omega,by rw[ay,bR];omega,fun x d=>?_⟩,by rw[ay,bR];omega⟩
 rcases bt.mp d with z|z
 ·rcases h with h|h
  ·rw[h]at z;cases z
  ·exact h.1.2.2 x z
 ·rw[aS.mp z];exact a
theorem zTK {e:S}{c:Nat}(h:e=[]\/(y9 e/\e.length<=3))(hl:e.length<3)(b:c∈v2):y9 (c::e)/\(c::e).length<=3:=by
 have a:97<=c/\c<=122:=by unfold v2 at b;simp at b;omega
 refine⟨⟨by rw[aM];omega,by rw[aM];omega,fun x d=>?_⟩,by rw[aM];omega⟩
 rcases aL.mp d with z|z
 ·rw[z];exact a
 ·rcases h with h|h
  ·rw[h]at z;cases z
  ·exact h.1.2.2 x z
theorem zTL {lo hi:Nat}{hd tl:S}{ba:List S}{c:Nat}(g:GW lo hi hd tl ba)(hl:hd.length<3)(a:c∈v2):GW lo hi (hd++[c]) tl ba:=⟨g.glo,g.gle,g.ghi,.inr (zTJ g.ghd hl a),g.gtl,g.len,g.nm,g.ris⟩
theorem zTM {lo hi:Nat}{hd tl:S}{ba:List S}{c:Nat}(g:GW lo hi hd tl ba)(hl:tl.length<3)(a:c∈v2):GW lo hi hd (c::tl) ba:=⟨g.glo,g.gle,g.ghi,g.ghd,.inr (zTK g.gtl hl a),g.len,g.nm,g.ris⟩
theorem zTN {lo hi:Nat}{hd tl:S}{ba:List S}(g:GW lo hi hd tl ba):GW lo hi hd tl []:=⟨g.glo,g.gle,g.ghi,g.ghd,g.gtl,by simp,(fun x a=>by cases a),rfl⟩
theorem zKh (a b:S):tx a++tx b=tx (a++b):=by
 refine MyS.Str_ext ?_
 show((tx a).cps++(tx b).cps).toList=_
 rw[Array.toList_append,uN,uN,uN]
theorem zTO {p A B C:Prop} [Decidable p] (a:p->C->A)(b:¬p->C->B)(c:C):if decide p=true then A else B:=by
 by_cases h:p
 ·rw[if_pos (decide_eq_true h)];exact a h c
 ·rw[if_neg (by simp[h])];exact b h c
structure Side (o:Nat) (bk:List S) (lo hi:Nat) (hd tl:S) (ba:List S) (to:Bool) (k:Nat) (e:S) (ex hd' tl':Nat->S):Prop where
 get:∀bb,g6 [V.int lo,.int hi,sv hd,sv tl,.ref bb,.bl to] (k:Int)=some (sv e)
 l1:∀bb,(uB [V.int lo,.int hi,sv hd,sv tl,.ref bb,.bl to] none (some (k:Int))).length+1<=sizeLine
 l2:∀bb c,(uB [V.int lo,.int hi,sv hd,sv tl,.ref bb,.bl to] none (some (k:Int))++[sv (ex c)]).length+(uB [V.int lo,.int hi,sv hd,sv tl,.ref bb,.bl to] (some ((k+1:Nat):Int)) none).length<=sizeLine
 tk:∀bb c,uB [V.int lo,.int hi,sv hd,sv tl,.ref bb,.bl to] none (some (k:Int))++[sv (ex c)]++uB [V.int lo,.int hi,sv hd,sv tl,.ref bb,.bl to] (some ((k+1:Nat):Int)) none=[V.int lo,.int hi,sv (hd' c),sv (tl' c),.ref bb,.bl to]
 ex2:∀{c},(k:Int)=2->e++[c]=ex c
 ex3:∀{c},(k:Int)≠2->[c]++e=ex c
 gw:e.length<3->∀{c},c∈v2->GW lo hi (hd' c) (tl' c) ba
 ed:e=[]\/(y9 e/\e.length<=3)
 pm:∀{b:Bool},(b=true↔e≠[]/\vG bk lo hi hd tl ba to e=true)->((v2.map fun c=>yQ o bk lo hi (hd' c) (tl' c) ba to)++(if b then [v1 o bk e]else [])).flatten.Perm (yQ o bk lo hi hd tl ba to)
theorem zTP {o:Nat}{bk:List S}{lo hi:Nat}{hd tl:S}{ba:List S}{to:Bool}{i:Nat}{x:V}(g:GW lo hi hd tl ba)(l:gR bk)(m:1<=lo)(b:[V.int 2,V.int 3][i]?=some x) :
  ∃(k:Nat) (e:S) (ex d f:Nat->S),x=.int k/\Side o bk lo hi hd tl ba to k e ex d f:=by
 have n:i<2:=(ah.mp b).1
 have a:6<=sizeLine:=by rw[aI];omega
 rcases(by omega:i=0\/i=1)with rfl|rfl
 ·exact⟨2,hd,(fun c=>hd++[c]),(fun c=>hd++[c]),(fun _=>tl),(aB b).symm,fun _=>rfl,fun _=>bJ (by show 3<=6;decide) a,fun _ _=>a,fun _ _=>rfl,fun _=>rfl,fun h=>absurd rfl h,fun h {_} j=>zTL g h j,g.ghd,zTB l m⟩
 ·exact⟨3,tl,(fun c=>c::tl),(fun _=>hd),(fun c=>c::tl),(aB b).symm,fun _=>rfl,fun _=>bJ (by show 4<=6;decide) a,fun _ _=>a,fun _ _=>rfl,fun h=>absurd h (by decide),fun _=>rfl,fun h {_} j=>zTM g h j,g.gtl,zTC l m⟩
theorem zTQ {lo:Int}{n i:Nat}{x:V}(h:((bA n).map fun(i:Nat)=>V.int (lo+(i:Int)))[i]?=some x):i<n/\x=V.int (lo+(i:Int)):=by
 have hi:i<n:=by
  have:=(ah.mp h).1
  simpa using this
 rw[ar,ix hi]at h
 exact⟨hi,(aB h).symm⟩
theorem qW (q:Int×Int):ip (.tuple [.int q.1,.int q.2])=true/\eJ (.tuple [.int q.1,.int q.2])=true:=⟨rfl,rfl⟩
noncomputable def zBs (ps:List (S×S))(o:Nat)(ns:List S):List d5:=ns.map fun x=>.tuple [.tuple [.int (vS ps o x).1,.int (vS ps o x).2],.str (tx x)]
theorem zTR {K:ag}{H:Hp}{D:ak}{ps:List (S×S)}{o:Nat}{ns:List S}(h:zFX K H D ps o ns):vO K H (.list (zBs ps o ns)) (.ref D):=by
 obtain⟨b,e,c,f⟩:=h
 refine⟨D,b,rfl,.of e,?_⟩
 clear e
 induction ns generalizing b with
 |nil=>
  have:b=[]:=c7.mp c
  subst this;rfl
 |cons x ns ih=>
  cases b with
  |nil=>cases c
  |cons t b=>
   obtain⟨a,v,e1,g,j⟩:=f 0 x rfl
   have d:t=.ref a:=aB e1
   subst d
   refine⟨_,b,rfl,⟨a,_,rfl,g,v,[sv x],rfl,j.rep,sv x,[],rfl,rfl,rfl⟩,ih b (by simpa using c) fun i y l=>f (i+1) y l⟩
theorem zTS {ps:List (S×S)}{o:Nat}{ns:List S}(h:∀x∈ns,x.length<=900/\∀c∈x,c<=122)(hl:ns.length<=900):jT 8 (.list (zBs ps o ns)):=by
 refine okL (n:=7) (fun d hd=>?_) (by unfold zBs;rw[ai];exact hl)
 obtain⟨x,f,rfl⟩:=ao.mp hd
 refine uC (n:=6) (fun e b=>?_) (by show 2<=900;decide)
 rcases aL.mp b with rfl|b
 ·refine uC (n:=5) (fun i hi=>?_) (by show 2<=900;decide)
  have a:∀j:Int,jT 5 (.int j):=fun j=>⟨rfl,rfl,by simp only[iY];decide⟩
  rcases aL.mp hi with rfl|hi
  ·exact a _
  ·rw[aS.mp hi];exact a _
 ·rw[aS.mp b]
  exact(zSU (h x f).2 (h x f).1).mono (by decide)
theorem zTT (ps:List (S×S))(o:Nat)(ns:List S):hV (.list (zBs ps o ns)) (.list [])=ns.isEmpty:=by
 cases ns<;>rfl
section
variable{P:aJ}{w:bh}{K:ag}{mg:Str->Option aj}{base:bF}
structure LawC (P:aJ) (w:bh) (K:ag) (mg:Str->Option aj) (base:bF) (T:ak):Prop where
 dr:zS P w K mg base 2 "_law_drawn" ["_law_script","_law_k","_law_many"] (zCU K)
 bk:zS P w K mg base 4 "_law_book" ["_law_script","_law_at","_law_many","_law_most"] (zIB K)
 ws:zS P w K mg base 3 "_law_wish" ["_law_script","_law_at"] (zKG K)
 wh:zS P w K mg base 4 "_law_whole" ["_law_parts"] (zFd K)
 sf:zS P w K mg base 6 "share_fitting" ["book","order","wish"] (zFZ K)
 cf:zS P w K mg base 7 "can_fit" ["book","order","wish"] zKa
 lk:zS P w K mg base 6 "likeliest" ["book","order","wish","many"] (zKb K T)
 ft:zS P w K mg base 5 "fits" ["book","wish","name"] zKc
 sh:zS P w K mg base 6 "share" ["book","order","name"] (zKE K)
 ad:zS P w K mg base 3 "added" ["one","other"] (zFM K)
 ls:zS P w K mg base 1 "is_less" ["one","other"] (zFU K)
noncomputable def zBt (K:ag)(T:ak):Sp:=fun vs H Q _=>∃(a:ak) (ns:List Int),vs=[.ref a]/\yG K H a (ns.map V.int)/\ns.length<=63/\uH T H/\∀H',Q (.bl true) H'
noncomputable abbrev gA:cJ:=top 84
theorem zKi:FnScope ["_law_script","_law_book_here","_law_order","_law_wish_here","_law_whole_here","_law_parts","_law_long","_law_side","_law_some","_law_letter","_law_text","_law_name_here","_law_free","_law_barred"] ["_law_script"] (defScope gA):=yE
theorem zTU:(["_law_book_here","_law_order","_law_free","_law_name_here"]:List Str).Nodup:=by decide+kernel
theorem zTV {f T:ak}{fd:bc}(F:Fun K "law" "law" gA f fd)(B:Blt mg)(C:LawC P w K mg base T):FnOk P w K mg base z0 8 f fd ["_law_script"] (zBt K T):=by
 refine F.ok zKi (fun vs H Q E h=>?_) (fun cdv A outer s H vs Q E hr h=>?_)
 ·obtain⟨a,ns,rfl,_⟩:=h;rfl
 ·obtain⟨a,ns,rfl,ha,hl,tab,k⟩:=h
  have nd:=zKi.nd
  have hu:=hr.units
  have r6:=hr.mono (j:=6) (by decide)
  have r5:=hr.mono (j:=5) (by decide)
  have r4:=hr.mono (j:=4) (by decide)
  have r3:=hr.mono (j:=3) (by decide)
  have r2:=hr.mono (j:=2) (by decide)
  have r1:=hr.mono (j:=1) (by decide)
  refine⟨_,zR (yC (i:=1) nd rfl (Or.inr rfl) (zH C.bk r4 rfl (zY (pv 0) (zY zQ (zY zQ (zY zQ zD))))))
   (zR (yC (i:=2) nd rfl (Or.inr rfl) (zV y6 zQ (zH C.dr r2 rfl (zY (pv 0) (zY zQ (zY zQ zD))))))
   (zR (yC (i:=3) nd rfl (Or.inl rfl) (zH C.ws r3 rfl (zY (pv 0) (zY zQ zD))))
   (zR (yC (i:=3) nd rfl (Or.inl rfl) (zV zAF (zV zAF (gH zAG (pv 3) j3 (jL zQ)) (uA (zY (yS (zLk rfl) (by rfl) B.min tT (zY zQ (zY (yA yH (pv 3) zQ (fun _ _=>rfl)) zD))) zD))) (gH zAG (pv 3) (jL zQ) j3)))
   (zR (yC (i:=4) nd rfl (Or.inl rfl) (zH C.sf r6 rfl (zY (pv 1) (zY (pv 2) (zY (pv 3) zD)))))
   (zR (y0 (qB zAp (zH C.cf hr rfl (zY (pv 1) (zY (pv 2) (zY (pv 3) zD)))) (jK zFx (yA yH (pv 4) zQ (fun _ _=>rfl)) zQ (vN _)) (vN _)) (zL (z5 jJ)) yZ)
   (zR (y0 (qB zAp (zH C.cf hr rfl (zY (pv 1) (zY (pv 2) (zY (pv 3) zD)))) (jK (zCH hu) (zH C.lk r6 rfl (zY (pv 1) (zY (pv 2) (zY (pv 3) (zY zQ zD))))) (uJ zD) (vN _)) (vN _)) (zL (z5 jJ)) yZ)
   (zR (yC (i:=5) nd rfl (Or.inl rfl) (uJ zD))
   (zR (vX bE rfl (zFq rfl B.range (zY (yA yH (pv 3) zQ (fun _ _=>rfl)) (zY (zV y6 (yA yH (pv 3) zQ (fun _ _=>rfl)) zQ) zD))) (yB (i:=6) nd rfl (Or.inl rfl))
    (zL (v3 (jM c8 fJ fK zBz (pv 5) (zY (zH C.sf r6 rfl (zY (pv 1) (zY (pv 2) (zY (zV zAF (uA (zY (pv 6) (zY (pv 6) zD))) (gH zAG (pv 3) (jL zQ) j3)) zD)))) zD)))))
   (zR (y0 (qB (zCH hu) (zH C.wh r4 rfl (zY (pv 5) zD)) (pv 4) (vN _)) (zL (z5 jJ)) yZ)
   (zR (vX bE rfl (zBV (uA (zY zQ (zY zQ zD)))) (yB (i:=7) nd rfl (Or.inl rfl))
    (zL (y0 (qB zDC (yS kO (by rfl) B.len cw (zY (yA yH (pv 3) (pv 7) (fun _ _=>rfl)) zD)) zQ (vN _))
     (zR (yC (i:=8) nd rfl (Or.inl rfl) (uJ zD))
     (zR (vX bE rfl (zHC vD) (yB (i:=9) nd rfl (Or.inl rfl))
      (zR (yC (i:=10) nd rfl (Or.inl rfl) (zFm (qB zAo (pv 7) zQ (vN _)) (zV zBY (yA yH (pv 3) (pv 7) (fun _ _=>rfl)) (pv 9)) (zV zBY (pv 9) (yA yH (pv 3) (pv 7) (fun _ _=>rfl)))))
      (zL (v3 (jM c8 fJ fK zBz (pv 8) (zY (zH C.sf r6 rfl (zY (pv 1) (zY (pv 2) (zY (zV zAF (zV zAF (gH zAG (pv 3) j3 (jL (pv 7))) (uA (zY (pv 10) zD))) (gH zAG (pv 3) (jL (zV y6 (pv 7) zQ)) j3)) zD)))) zD))))))
     (zR (yC (i:=11) nd rfl (Or.inl rfl) (yA yH (pv 3) (pv 7) (fun _ _=>rfl)))
     (zR (y0 (PW.pt (zLE (qB zAp (pv 11) vD (vN _)) (zLD (vW (zH C.ft r5 rfl (zY (pv 1) (zY (pv 3) (zY (pv 11) zD)))))))) (zL (v3 (jM c8 fJ fK zBz (pv 8) (zY (zH C.sh r6 rfl (zY (pv 1) (zY (pv 2) (zY (pv 11) zD)))) zD)))) yZ)
     (zL (y0 (qB (zCH hu) (zH C.wh r4 rfl (zY (pv 8) zD)) (pv 4) (vN _)) (zL (z5 jJ)) yZ)))))) yZ)))
   (zR (yC (i:=12) nd rfl (Or.inr rfl) (zV zAF (zV zAF (gH zAG (pv 3) j3 (jL zQ)) (uA (zY (uA zD) zD))) (gH zAG (pv 3) (jL zQ) j3)))
   (zR (zRr (j:=13) (N:=["_law_book_here","_law_order","_law_free","_law_name_here"]) (caps:=[1,2,12]) nd rfl (Or.inl rfl) rfl (uS (by kernel_rfl)) (zBV (yA yH (pv 3) zQ (fun _ _=>rfl)))
     (fun cl X s H ex=>yB (i:=3) zTU rfl (Or.inl rfl)) (fun cl X s H ex=>zGk (vW (zH C.ft r5 rfl (zY (pv 0) (zY (pv 2) (zY (pv 3) zD)))))) (fun cl X s H ex=>zH C.sh r6 rfl (zY (pv 0) (zY (pv 1) (zY (pv 3) zD)))))
   (zR (y0 (qB (zCH hu) (zH C.ad r3 rfl (zY (pv 4) (zY (zH C.wh r4 rfl (zY (pv 13) zD)) zD))) (zH C.sf r6 rfl (zY (pv 1) (zY (pv 2) (zY (pv 12) zD)))) (vN _)) (zL (z5 jJ)) yZ)
   (zL (z5 (zAO (zFl (zH C.ls r1 rfl (zY (zH C.sf r6 rfl (zY (pv 1) (zY (pv 2) (zY (pv 12) zD)))) (zY (pv 4) zD)))) (gD (zFl (zH C.ls r1 rfl (zY (uA (zY zQ (zY zQ zD))) (zY (pv 4) zD))))))))))))))))))))),?_⟩
  refine⟨_,rfl,a,ns,0,3,3,rfl,ha,hl,by decide,by decide,by decide,by decide,fun b bk H1 s1 hb1 bl1 bl2 bn=>?_⟩
  refine⟨_,rfl,a,ns,50,3,rfl,s1.seq ha,hl,by decide,by decide,fun d2 H2 hd2 s2'=>⟨_,_,rfl,rfl,?_⟩⟩
  have s2:=s1.trans s2'
  obtain⟨o,ho,o1,o3⟩:∃o:Nat,(1:Int)+(d2:Int)=(o:Int)/\1<=o/\o<=3:=⟨1+d2,by omega,by omega,by omega⟩
  dsimp only
  rw[ho]
  refine⟨_,rfl,a,ns,60,rfl,s2.seq ha,hl,fun pw0 lo hi hd tl ba to H3 s3' gw lw hw=>?_⟩
  have s3:=s2.trans s3'
  have tab3:=qH tab s3
  have hb3:=s3' _ _ (s2' _ _ hb1)
  clear s1 s2' s2 s3' s3 hb1 ha tab hl
  have isb:isBk bk:=⟨bl1,by omega,fun x hx=>(bn x hx).1⟩
  have hB:Bk bk o:=⟨isb,o1,o3⟩
  have abc:gR bk:=fun x hx c hc=>(bn x hx).2.2 c hc
  have p60:(zA o bk).length<=60:=by
   have:=zTG (o:=o) fun x hx=>(bn x hx).2.1
   omega
  obtain⟨lo,hi,rfl,rfl,hl1,hlh,hh8,hd3,tl3⟩:=gw.nats
  obtain⟨bb,hpw,hbb⟩:=hw
  refine⟨_,rfl,1,rfl,pw0,_,rfl,hpw,fun p1 H4 t4 hp1=>?_⟩
  refine⟨_,rfl,pw0,_,1,.int hi,rfl,rfl,.of (t4 _ _ hpw),rfl,_,_,rfl,by show 1<=sizeLine;decide,fun p2 hp2=>?_⟩
  have emn:(if(hi:Int)<5 then(hi:Int)else 5)=(hi:Int):=if_pos (by have:=lw.2.1;omega)
  rw[emn]
  have t5:zB H4 (upd H4 p2 (.tup [.int (hi:Int)])):=zB.upd1 hp2
  have hp2':upd H4 p2 (.tup [.int (hi:Int)]) p2=some (.tup [.int (hi:Int)]):=zE
  generalize upd H4 p2 (.tup [.int (hi:Int)])=H5 at t5 hp2'
  refine⟨p1,p2,_,_,rfl,rfl,t5 _ _ hp1,hp2',by rw[aI];show 1+1<=_;omega,fun p3 H6 t6 hp3=>?_⟩
  have t46:=t4.trans (t5.trans t6)
  refine⟨_,rfl,2,rfl,pw0,_,rfl,t46 _ _ hpw,fun p4 H7 t7 hp4=>?_⟩
  refine⟨p3,p4,_,_,rfl,rfl,t7 _ _ hp3,hp4,by rw[aI];show 2+4<=_;omega,fun pw H8 t8 hpw8=>?_⟩
  have t48:=(t46.trans t7).trans t8
  have hw8:uD H8 pw lo hi hd tl ba to:=⟨bb,hpw8,t48 _ _ hbb⟩
  have hb8:=t48 _ _ hb3
  have tab8:=qH tab3 t48
  clear t4 hp1 hp2 t5 hp2' t6 hp3 t46 t7 hp4 t8 hpw8 t48 hpw hbb hb3 tab3 emn p1 p2 p3 p4 H4 H5 H6 H7 H3
  refine⟨_,rfl,_,rfl,_,rfl,b,pw,bk,o,lo,hi,hd,tl,ba,to,rfl,hb8,hB,hw8,gw,p60,fun v0 H9 t9 fr9=>?_⟩
  have E9:LwE K H9 b pw v0 o bk lo hi hd tl ba to:=⟨t9 _ _ hb8,hw8.same t9,fr9⟩
  have tab9:=qH tab8 t9
  clear t9 fr9 hb8 hw8 tab8 H8
  have l8:∀x∈yQ o bk lo hi hd tl ba to,x.length<=8:=zFY hh8
  have hmade:∀x∈yQ o bk lo hi hd tl ba to,qT (zA o bk) o x:=fun x hx=>(uP.mp hx).2.1
  obtain⟨v0a,rfl,hv0⟩:=E9.fr
  refine⟨_,rfl,_,rfl,_,rfl,b,pw,bk,o,lo,hi,hd,tl,ba,to,rfl,E9.hb,hB,E9.ws,gw,p60,fun H10 t10=>?_⟩
  have E10:=E9.same t10
  have tab10:=qH tab9 t10
  refine⟨_,rfl,v0a,_,0,_,rfl,rfl,t10.seqT hv0,rfl,_,_,rfl,rfl,rfl,_,rfl,gK rfl ?_⟩
  clear t10 tab9 E9 hv0 H9
  refine⟨_,rfl,_,rfl,_,rfl,b,pw,bk,o,lo,hi,hd,tl,ba,to,rfl,E10.hb,hB,E10.ws,gw,p60,fun H11 t11=>?_⟩
  have E11:=E10.same t11
  have tab11:=qH tab10 t11
  refine⟨_,rfl,_,rfl,_,rfl,b,pw,bk,o,lo,hi,hd,tl,ba,to,1,rfl,E11.hb,hB,E11.ws,gw,p60,by decide,by decide,tab11,fun j hj=>zTE o1 abc (by omega) (by omega) (by have:=gw.len;omega) hh8 (by have:=lw.2.1;omega),fun D H12 U BB sx12 tab12 hD hU hT hL=>?_⟩
  have E12:=E11.sameX sx12 (zBN tab11)
  have hBs:∀x∈BB.map (fun q=>q.2),x∈yQ o bk lo hi hd tl ba to:=fun x hx=>by
   obtain⟨q,hq,rfl⟩:=ao.mp hx
   exact(k9.mp (hT.sub q hq)).1
  have hBn:(BB.map (fun q=>q.2)).isEmpty=(yQ o bk lo hi hd tl ba to).isEmpty:=by
   have h1:=top_nil hT (by decide)
   unfold zAK at h1
   rw[Ne,Ne,eS]at h1
   rw[dC,pR,pR,eS]
   exact tU.mp h1
  have hBl:(BB.map (fun q=>q.2)).length<=900:=by rw[ai];have:=hT.len;omega
  generalize BB.map (fun q=>q.2)=nsB at hL hBs hBn hBl
  refine⟨by show 0<=sizeLine;exact bw _,fun e0 he0=>?_⟩
  have t13:zB H12 (upd H12 e0 (.lst [])):=zB.upd1 he0
  have E13:=E12.same t13
  have rep13:=vO.same t13 _ _ (zTR hL)
  have he1:upd H12 e0 (.lst []) e0=some (.lst []):=zE
  generalize upd H12 e0 (.lst [])=H13 at t13 E13 rep13 he1
  refine⟨.list (zBs (zA o bk) o nsB),.list [],rep13,⟨e0,[],rfl,.of he1,rfl⟩,?_,rfl,rfl,_,rfl,?_⟩
  ·exact(zTS (fun x hx=>⟨by have:=l8 x (hBs x hx);omega,fun c hc=>by rcases zFc abc (hmade x (hBs x hx)) c hc with z|z|z<;>omega⟩) hBl).sh (by decide)
  rw[if_pos rfl,zTT,hBn]
  refine gK ?_ ?_
  ·congr 1
   rw[dC,decide_eq_true_eq,zSw p60 l8 hmade,eO,List.isEmpty_eq_false_iff]
  clear rep13 he1 he0 E12 hL hT hU hD tab12 sx12 E11 t11 tab10 tab11 E10 t13
  refine⟨bw _,fun lp hlp=>?_⟩
  have t14:zB H13 (upd H13 lp (.lst [])):=zB.upd1 hlp
  have E14:=E13.same t14
  have hS14:uF K (upd H13 lp (.lst [])) lp (zA o bk) o []:=uF.nil zE
  generalize upd H13 lp (.lst [])=H14 at t14 E14 hS14
  clear t14 hlp E13
  obtain⟨bb,hpw14,hbb14⟩:=E14.ws
  refine⟨_,rfl,pw,_,0,.int lo,rfl,rfl,.of hpw14,rfl,_,rfl,pw,_,1,.int hi,rfl,rfl,.of hpw14,rfl,_,_,rfl,rfl,lo,(hi:Int)+1,rfl,⟨by omega,by omega,by omega,by omega⟩,?_⟩
  clear hpw14 hbb14 bb
  have enn:((hi:Int)+1- (lo:Int)).toNat=hi+1-lo:=by omega
  refine qN (zBd (lo:Int) _) (fun i σ G=>(∃x6:Option V,σ=[some (.ref a),some (.ref b),some (.int (o:Int)),some (.ref pw),some (.ref v0a),some (.ref lp),x6,none,none,none,none,none,none,none])/\LwE K G b pw (.ref v0a) o bk lo hi hd tl ba to/\uF K G lp (zA o bk) o ((bA i).map fun i=>yQ o bk (lo+i) (lo+i) hd tl ba to))
   ⟨⟨_,rfl⟩,E14,hS14⟩ (fun _ _ _ _ _=>trivial) ?_ ?_
  ·rintro i x σ G Nx hN hx ⟨⟨x6,rfl⟩,EG,ts,q1,q2,q3⟩
   rw[enn]at hx
   obtain⟨hi',rfl⟩:=zTQ hx
   have ei:(lo:Int)+(i:Int)=((lo+i:Nat):Int):=rfl
   rw[ei]
   obtain⟨bb,hpw,hbb⟩:=EG.ws
   refine⟨_,rfl,.inl ⟨rfl,_,.of q1⟩,_,rfl,_,rfl,_,rfl,_,rfl,by show 2<=sizeLine;decide,fun m1 hm1=>?_⟩
   have u1:zB G (upd G m1 (.tup [.int ((lo+i:Nat):Int),.int ((lo+i:Nat):Int)])):=zB.upd1 hm1
   have hm1':upd G m1 (.tup [.int ((lo+i:Nat):Int),.int ((lo+i:Nat):Int)]) m1=some (.tup [.int ((lo+i:Nat):Int),.int ((lo+i:Nat):Int)]):=zE
   generalize upd G m1 (.tup [.int ((lo+i:Nat):Int),.int ((lo+i:Nat):Int)])=G1 at u1 hm1'
   refine⟨_,rfl,2,rfl,pw,_,rfl,u1 _ _ hpw,fun m2 G2 u2 hm2=>?_⟩
   refine⟨m1,m2,_,_,rfl,rfl,u2 _ _ hm1',hm2,by rw[aI];show 2+4<=_;omega,fun m3 G3 u3 hm3=>?_⟩
   have u13:=(u1.trans u2).trans u3
   have hw3:uD G3 m3 ((lo+i:Nat):Int) ((lo+i:Nat):Int) hd tl ba to:=⟨bb,hm3,u13 _ _ hbb⟩
   refine⟨b,m3,bk,o,lo+i,lo+i,hd,tl,ba,to,rfl,u13 _ _ EG.hb,hB,hw3,zTI gw (by omega) (by omega),p60,fun v4 G4 u4 fr4=>?_⟩
   have u14:=u13.trans u4
   have q1':=u14 _ _ q1
   refine⟨lp,_,_,rfl,rfl,q1',by rw[q2,ai,bU,aI];omega,hN _ _ ⟨⟨_,rfl⟩,(EG.same u14).sameX vY (ntL q1'),?_⟩⟩
   rw[dE,aQ]
   exact uF.snoc q1' q2 (fun j M hM=>let⟨v,z1,z2⟩:=q3 j M hM;⟨v,z1,z2.same u14⟩) fr4
  rintro σ H15 ⟨⟨x6,rfl⟩,E15,hS15⟩
  rw[ai,bU,enn]at hS15
  have pm:=zSy (o:=o) (bk:=bk) (hd:=hd) (tl:=tl) (ba:=ba) (to:=to) hlh
  refine⟨_,rfl,lp,o,bk,_,rfl,hS15,p60,pm.nodup_iff.mpr (qV ..),fun x hx=>l8 x (pm.mem_iff.mp hx),fun v16 H16 t16 fr16=>?_⟩
  rw[zFa p60 pm fun x hx=>l8 x (pm.mem_iff.mp hx)]at fr16
  have E16:=E15.same t16
  refine⟨_,rfl,_,_,fr16.rep,E16.fr.rep,(qW _).1,(qW _).1,_,rfl,zBj (qW _).2 ?_⟩
  clear pm fr16 t16 hS15 E15 hS14 E14 enn
  refine⟨by show 2<=sizeLine;decide,fun tp htp=>?_⟩
  have t17:zB H16 (upd H16 tp (.tup [.int 2,.int 3])):=zB.upd1 htp
  have htp1:upd H16 tp (.tup [.int 2,.int 3]) tp=some (.tup [.int 2,.int 3]):=zE
  have E17:=E16.same t17
  generalize upd H16 tp (.tup [.int 2,.int 3])=H17 at t17 htp1 E17
  refine⟨tp,rfl,⟨_,.of htp1⟩,?_⟩
  clear t17 E16 htp
  refine qN (zBe K tp [.int 2,.int 3]) (fun i σ G=>(∃x7 x8 x9 x10 x11:Option V,σ=[some (.ref a),some (.ref b),some (.int (o:Int)),some (.ref pw),some (.ref v0a),some (.ref lp),x6,x7,x8,x9,x10,x11,none,none])/\LwE K G b pw (.ref v0a) o bk lo hi hd tl ba to/\G tp=some (.tup [.int 2,.int 3]))
   ⟨⟨_,_,_,_,_,rfl⟩,E17,htp1⟩ (fun i σ G _ h=>.of h.2.2) ?_ ?_
  ·rintro i x σ G Nx hN hx ⟨⟨x7,x8,x9,x10,x11,rfl⟩,EG,htG⟩
   obtain⟨bb,hpw,hbb⟩:=EG.ws
   obtain⟨kk,ee,ex,hd',tl',rfl,Sd⟩:=zTP (o:=o) (ba:=ba) (to:=to) gw abc hl1 hx
   have ee3:ee.length<=3:=by rcases Sd.ed with z|z;(rw[z];decide);exact z.2
   refine⟨_,rfl,_,rfl,pw,_,kk,sv ee,rfl,rfl,.of hpw,Sd.get bb,tx ee,rfl,by rw[yF,aI];omega,_,_,rfl,rfl,_,rfl,?_⟩
   by_cases h3:ee.length<3
   ·refine zAA (by rw[yF];omega) ?_
    refine⟨bw _,fun so hso=>?_⟩
    have u0:zB G (upd G so (.lst [])):=zB.upd1 hso
    have E0:=EG.same u0
    have hS0:uF K (upd G so (.lst [])) so (zA o bk) o []:=uF.nil zE
    have ht0:=u0 _ _ htG
    generalize upd G so (.lst [])=G0 at u0 E0 hS0 ht0
    clear u0 hso hpw hbb
    refine⟨_,rfl,?_⟩
    refine qN (zHH _) (fun j σ G'=>(∃x9 x10:Option V,σ=[some (.ref a),some (.ref b),some (.int (o:Int)),some (.ref pw),some (.ref v0a),some (.ref lp),x6,some (.int kk),some (.ref so),x9,x10,x11,none,none])/\LwE K G' b pw (.ref v0a) o bk lo hi hd tl ba to/\G' tp=some (.tup [.int 2,.int 3])/\uF K G' so (zA o bk) o ((v2.take j).map fun c=>yQ o bk lo hi (hd' c) (tl' c) ba to))
     ⟨⟨_,_,rfl⟩,E0,ht0,hS0⟩ (fun _ _ _ _ _=>trivial) ?_ ?_
    ·rintro j y σ G' Nx2 hN2 hy ⟨⟨x9,x10,rfl⟩,E',ht',ts,q1,q2,q3⟩
     have hy':(v2.map fun c=>V.str ⟨#[c]⟩)[j]?=some y:=hy
     rw[ar]at hy'
     cases ec:v2[j]? with
     |none=>rw[ec]at hy';cases hy'
     |some c=>
     rw[ec]at hy'
     have hy2:y=sv [c]:=(aB hy').symm
     subst hy2
     have hcm:=aY ec
     have hj:j<v2.length:=(ah.mp ec).1
     have hj3:j<3:=hj
     have etk:v2.take (j+1)=v2.take j++[c]:=by rw[aA hj,(ah.mp ec).2]
     obtain⟨bb,hpw,hbb⟩:=E'.ws
     refine⟨_,rfl,rfl,_,rfl,?_⟩
     have zs:(tx ee).length+1<=sizeLine/\1+(tx ee).length<=sizeLine:=by rw[yF,aI];omega
     apply zTO
     ·intro hp hC
      refine⟨_,rfl,_,rfl,pw,_,kk,sv ee,rfl,rfl,.of hpw,Sd.get bb,_,rfl,tx ee,tx [c],rfl,rfl,zs.1,?_⟩
      rw[zKh,Sd.ex2 (V.int.inj hp)]
      exact hC
     ·intro hp hC
      refine⟨_,rfl,_,rfl,_,rfl,pw,_,kk,sv ee,rfl,rfl,.of hpw,Sd.get bb,tx [c],tx ee,rfl,rfl,zs.2,?_⟩
      rw[zKh,Sd.ex3 fun z=>hp (by rw[z])]
      exact hC
     refine⟨_,rfl,.inl ⟨rfl,_,.of q1⟩,_,rfl,_,rfl,_,rfl,_,rfl,kk,rfl,pw,_,rfl,hpw,fun m1 G1 u1 hm1=>?_⟩
     refine⟨_,rfl,by show 1<=sizeLine;decide,fun m2 hm2=>?_⟩
     have u2:zB G1 (upd G1 m2 (.tup [sv (ex c)])):=zB.upd1 hm2
     have hm2':upd G1 m2 (.tup [sv (ex c)]) m2=some (.tup [sv (ex c)]):=zE
     generalize upd G1 m2 (.tup [sv (ex c)])=G2 at u2 hm2'
     refine⟨m1,m2,_,_,rfl,rfl,u2 _ _ hm1,hm2',Sd.l1 bb,fun m3 G3 u3 hm3=>?_⟩
     have u13:=u1.trans (u2.trans u3)
     refine⟨_,rfl,_,rfl,_,_,rfl,rfl,kk+1,rfl,pw,_,rfl,u13 _ _ hpw,fun m4 G4 u4 hm4=>?_⟩
     refine⟨m3,m4,_,_,rfl,rfl,u4 _ _ hm3,hm4,Sd.l2 bb c,fun m5 G5 u5 hm5=>?_⟩
     have u15:=u13.trans (u4.trans u5)
     have hw5:uD G5 m5 lo hi (hd' c) (tl' c) ba to:=⟨bb,by rw[hm5];exact congrArg (fun z=>some (HO.tup z)) (Sd.tk bb c),u15 _ _ hbb⟩
     refine⟨b,m5,bk,o,lo,hi,hd' c,tl' c,ba,to,rfl,u15 _ _ E'.hb,hB,hw5,Sd.gw h3 hcm,p60,fun v6 G6 u6 fr6=>?_⟩
     have u16:=u15.trans u6
     have q1':=u16 _ _ q1
     refine⟨so,_,_,rfl,rfl,q1',by rw[q2,ai,aZ,aI];omega,hN2 _ _ ⟨⟨_,_,rfl⟩,(E'.same u16).sameX vY (ntL q1'),zBr (u16 _ _ ht') vY (ntL q1'),?_⟩⟩
     rw[etk,aQ]
     exact uF.snoc q1' q2 (fun j M hM=>let⟨v,z1,z2⟩:=q3 j M hM;⟨v,z1,z2.same u16⟩) fr6
    rintro σ G7 ⟨⟨x9',x10',rfl⟩,E7,ht7,hS7⟩
    have hS7':uF K G7 so (zA o bk) o (v2.map fun c=>yQ o bk lo hi (hd' c) (tl' c) ba to):=hS7
    obtain⟨bb,hpw,hbb⟩:=E7.ws
    refine⟨_,rfl,_,rfl,pw,_,kk,sv ee,rfl,rfl,.of hpw,Sd.get bb,?_⟩
    have fin:∀(bq:Bool) (G8:Hp),(bq=true↔ee≠[]/\vG bk lo hi hd tl ba to ee=true)->LwE K G8 b pw (.ref v0a) o bk lo hi hd tl ba to->G8 tp=some (.tup [.int 2,.int 3])->uF K G8 so (zA o bk) o ((v2.map fun c=>yQ o bk lo hi (hd' c) (tl' c) ba to)++(if bq then [v1 o bk ee]else []))->∀Z:V->Hp->Prop,(∀v9 G9,LwE K G9 b pw (.ref v0a) o bk lo hi hd tl ba to->G9 tp=some (.tup [.int 2,.int 3])->z8 K G9 v9 (yT (zA o bk) o (yQ o bk lo hi hd tl ba to))->Z v9 G9)->zFd K [.ref so] G8 Z (fun _ _ _=>False):=fun bq G8 hbq E8 ht8 hS8 Z hZ=>by
     have pm:=Sd.pm hbq
     refine⟨so,o,bk,_,rfl,hS8,p60,pm.nodup_iff.mpr (qV ..),fun x hx=>l8 x (pm.mem_iff.mp hx),fun v9 G9 t9 fr9=>?_⟩
     rw[zFa p60 pm fun x hx=>l8 x (pm.mem_iff.mp hx)]at fr9
     exact hZ v9 G9 (E8.same t9) (t9 _ _ ht8) fr9
    refine⟨_,rfl,rfl,_,rfl,?_⟩
    by_cases he:ee=[]
    ·refine gK (by rw[he];rfl) ?_
     refine vA ?_
     refine⟨_,rfl,fin false G7 (by simp[he]) E7 ht7 (by simpa using hS7') _ fun v9 G9 E9 ht9 fr9=>?_⟩
     exact⟨_,rfl,_,_,fr9.rep,E9.fr.rep,(qW _).1,(qW _).1,_,rfl,zBj (qW _).2 (hN _ _ ⟨⟨_,_,_,_,_,rfl⟩,E9,ht9⟩)⟩
    ·have hnm:y9 ee:=(Sd.ed.resolve_left he).1
     refine zEF (fun z=>he (j9 (V.str.inj z))) ?_
     refine⟨_,rfl,_,rfl,_,rfl,b,pw,bk,lo,hi,hd,tl,ba,to,ee,rfl,E7.hb,isb,E7.ws,gw,hnm,fun G8 t8=>⟨_,rfl,?_⟩⟩
     have E8:=E7.same t8
     have ht8:=t8 _ _ ht7
     have hS8:=hS7'.same t8
     cases hf:vG bk lo hi hd tl ba to ee with
     |false=>
      refine vA ?_
      refine⟨_,rfl,fin false G8 (by simp[hf]) E8 ht8 (by simpa using hS8) _ fun v9 G9 E9 ht9 fr9=>?_⟩
      exact⟨_,rfl,_,_,fr9.rep,E9.fr.rep,(qW _).1,(qW _).1,_,rfl,zBj (qW _).2 (hN _ _ ⟨⟨_,_,_,_,_,rfl⟩,E9,ht9⟩)⟩
     |true=>
      refine uQ ?_
      obtain⟨ts,q1,q2,q3⟩:=hS8
      refine⟨_,rfl,.inl ⟨rfl,_,.of q1⟩,_,rfl,_,rfl,_,rfl,b,bk,o,ee,rfl,E8.hb,hB,hnm,fun v10 G10 t10 fr10=>?_⟩
      rw[zKe p60 (nm8 hnm)]at fr10
      have q1':=t10 _ _ q1
      refine⟨so,_,_,rfl,rfl,q1',by rw[q2,ai,aI];show 3<_;omega,?_⟩
      refine⟨_,rfl,fin true _ (by simp[hf,he]) ((E8.same t10).sameX vY (ntL q1')) (zBr (t10 _ _ ht8) vY (ntL q1')) (uF.snoc q1' q2 (fun j M hM=>let⟨v,z1,z2⟩:=q3 j M hM;⟨v,z1,z2.same t10⟩) fr10) _ fun v9 G9 E9 ht9 fr9=>?_⟩
      exact⟨_,rfl,_,_,fr9.rep,E9.fr.rep,(qW _).1,(qW _).1,_,rfl,zBj (qW _).2 (hN _ _ ⟨⟨_,_,_,_,_,rfl⟩,E9,ht9⟩)⟩
   ·exact zAX (by rw[yF];omega) (hN _ _ ⟨⟨_,_,_,_,_,rfl⟩,EG,htG⟩)
  rintro σ H18 ⟨⟨x7,x8,x9,x10,x11,rfl⟩,E18,_⟩
  clear E17 htp1
  obtain⟨bb,hpw,hbb⟩:=E18.ws
  refine⟨_,rfl,4,rfl,pw,_,rfl,hpw,fun m1 G1 u1 hm1=>?_⟩
  refine⟨bw _,fun m0 hm0=>?_⟩
  have u2:zB G1 (upd G1 m0 (.tup [])):=zB.upd1 hm0
  have hm0':upd G1 m0 (.tup []) m0=some (.tup []):=zE
  generalize upd G1 m0 (.tup [])=G2 at u2 hm0'
  refine⟨by show 1<=sizeLine;decide,fun m2 hm2=>?_⟩
  have u3:zB G2 (upd G2 m2 (.tup [.ref m0])):=zB.upd1 hm2
  have hm2':upd G2 m2 (.tup [.ref m0]) m2=some (.tup [.ref m0]):=zE
  generalize upd G2 m2 (.tup [.ref m0])=G3 at u3 hm2'
  refine⟨m1,m2,_,_,rfl,rfl,u3 _ _ (u2 _ _ hm1),hm2',by rw[aI];show 4+1<=_;omega,fun m3 G4 u4 hm3=>?_⟩
  have u14:=(u1.trans u2).trans (u3.trans u4)
  refine⟨_,rfl,5,rfl,pw,_,rfl,u14 _ _ hpw,fun m4 G5 u5 hm4=>?_⟩
  refine⟨m3,m4,_,_,rfl,rfl,u5 _ _ hm3,hm4,by rw[aI];show 5+1<=_;omega,fun pf G6 u6 hm5=>?_⟩
  have u16:=u14.trans (u5.trans u6)
  have hf6:uD G6 pf lo hi hd tl [] to:=⟨m0,hm5,u6 _ _ (u5 _ _ (u4 _ _ (u3 _ _ hm0')))⟩
  have E6:=E18.same u16
  have hpw6:=u16 _ _ hpw
  have hbb6:=u16 _ _ hbb
  have gf:=zTN gw
  clear hm5 u6 hm4 u5 hm3 u4 hm2' u3 hm2 hm0' u2 hm0 u1 hm1 u14 u16 hpw hbb E18
  refine⟨_,rfl,pw,_,4,.ref bb,rfl,rfl,.of hpw6,rfl,bb,rfl,⟨_,.of hbb6⟩,?_⟩
  have bkl:(zP ba).length=ba.length:=by unfold zP;rw[ai]
  refine zDS (zBe K bb (zP ba)) [some (.ref b),some (.int (o:Int)),some (.ref pf)] 1 (by rw[bkl];have:=gw.len;omega) (fun i acc G=>zB G6 G/\acc.length=((ba.take i).filter fun n=>vG bk lo hi hd tl [] to n).length/\∀(j:Nat) (n:S),((ba.take i).filter fun n=>vG bk lo hi hd tl [] to n)[j]?=some n->∃v,acc[j]?=some v/\z8 K G v (yT (zA o bk) o (v1 o bk n)))
   ⟨zB.refl _,rfl,fun j n h=>by cases h⟩ (fun i acc G _ h=>⟨.of (h.1 _ _ hbb6),by
    rw[h.2.1]
    have h1:=dq (fun n=>vG bk lo hi hd tl [] to n) (ba.take i)
    rw[aZ]at h1
    omega⟩) ?_ ?_
  ·rintro i x acc G ys Nx hN hx hy ⟨sm,hal,hac⟩
   obtain⟨y',rfl⟩:=zCa hy
   obtain⟨n,en,rfl⟩:=zCq hx
   have hnm:=gw.nm n (aY en)
   have hi':i<ba.length:=(ah.mp en).1
   have etk:ba.take (i+1)=ba.take i++[n]:=by rw[aA hi',(ah.mp en).2]
   refine⟨_,rfl,_,rfl,_,rfl,b,pf,bk,lo,hi,hd,tl,[],to,n,rfl,sm _ _ E6.hb,isb,hf6.same sm,gf,hnm,fun G8 t8=>⟨_,rfl,?_⟩⟩
   cases hf:vG bk lo hi hd tl [] to n with
   |false=>
    refine vA (hN _ _ [_] rfl ⟨sm.trans t8,?_⟩)
    rw[etk,dh,cg (by simp[hf])]
    refine⟨by simpa using hal,fun j m hm=>?_⟩
    obtain⟨v,z1,z2⟩:=hac j m (by simpa using hm)
    exact⟨v,z1,z2.same t8⟩
   |true=>
    refine uQ ⟨_,rfl,_,rfl,_,rfl,b,bk,o,n,rfl,t8 _ _ (sm _ _ E6.hb),hB,hnm,fun v9 G9 t9 fr9=>hN _ _ [_] rfl ⟨(sm.trans t8).trans t9,?_⟩⟩
    rw[zKe p60 (nm8 hnm)]at fr9
    rw[etk,dh,cc hf]
    refine⟨by rw[ay,ay,hal];rfl,fun j m hm=>?_⟩
    by_cases hlt:j<((ba.take i).filter fun n=>vG bk lo hi hd tl [] to n).length
    ·rw[aR hlt]at hm
     obtain⟨v,z1,z2⟩:=hac j m hm
     exact⟨v,by rw[aR (by omega)];exact z1,z2.same (t8.trans t9)⟩
    ·rw[aO (by omega)]at hm
     have h0:j- ((ba.take i).filter fun n=>vG bk lo hi hd tl [] to n).length<1:=(ah.mp hm).1
     have h0':j- ((ba.take i).filter fun n=>vG bk lo hi hd tl [] to n).length=0:=by omega
     rw[h0']at hm
     have:m=n:=(aB hm).symm
     subst this
     exact⟨v9,by rw[aO (by omega),hal,h0'];rfl,fr9⟩
  rintro acc G ⟨sm,hal,hac⟩ D hD
  rw[bkl,bo]at hal hac
  have sD:zB G (upd G D (.lst acc)):=zB.upd1 hD
  have hS:uF K (upd G D (.lst acc)) D (zA o bk) o ((ba.filter fun n=>vG bk lo hi hd tl [] to n).map (v1 o bk)):=by
   refine⟨acc,zE,by rw[ai];exact hal,fun j M hM=>?_⟩
   rw[ar]at hM
   cases ej:(ba.filter fun n=>vG bk lo hi hd tl [] to n)[j]? with
   |none=>rw[ej]at hM;cases hM
   |some n=>
    rw[ej]at hM
    have:M=v1 o bk n:=(aB hM).symm
    subst this
    obtain⟨v,z1,z2⟩:=hac j n ej
    exact⟨v,z1,z2.same sD⟩
  have E7:=E6.same (sm.trans sD)
  have hf7:=hf6.same (sm.trans sD)
  generalize upd G D (.lst acc)=G7 at hS E7 hf7
  clear hac hal sm sD hD E6 hf6 hpw6 hbb6
  have pm:=zTD (o:=o) (bk:=bk) (lo:=lo) (hi:=hi) (hd:=hd) (tl:=tl) (to:=to) gw.bnd
  have l8f:∀x∈yQ o bk lo hi hd tl [] to,x.length<=8:=zFY hh8
  have l8b:∀x∈((ba.filter fun n=>vG bk lo hi hd tl [] to n).map (v1 o bk)).flatten,x.length<=8:=fun x hx=>l8f x (pm.mem_iff.mp (aX _ hx))
  have ndb:=(dQ.mp (pm.nodup_iff.mpr (qV ..))).2.1
  obtain⟨U2,hU2⟩:=k6 p60
  have fgw:=zAj (o:=o) (vT o bk) hU2 (qV o bk lo hi hd tl ba to) l8
  have fgf:=zAj (o:=o) (vT o bk) hU2 (qV o bk lo hi hd tl [] to) l8f
  have fgb:=zAj (o:=o) (vT o bk) hU2 ndb l8b
  refine⟨_,rfl,_,rfl,D,o,bk,_,rfl,hS,p60,ndb,l8b,fun v8 G8 t8 fr8=>?_⟩
  have E8:=E7.same t8
  refine⟨_,v8,_,_,rfl,E8.fr,fr8,fgw.1,fgb.1,fun m8 hm8=>?_⟩
  rw[zKd p60 l8 l8b,zFa p60 pm fun x hx=>l8f x (pm.mem_iff.mp hx)]
  have t9:zB G8 (upd G8 m8 (jW (yT (zA o bk) o (yQ o bk lo hi hd tl [] to)))):=zB.upd1 hm8
  have fr9:z8 K (upd G8 m8 (jW (yT (zA o bk) o (yQ o bk lo hi hd tl [] to)))) (.ref m8) (yT (zA o bk) o (yQ o bk lo hi hd tl [] to)):=z8.new
  generalize upd G8 m8 (jW (yT (zA o bk) o (yQ o bk lo hi hd tl [] to)))=G9 at t9 fr9
  have E9:=E8.same t9
  have hf9:=hf7.same (t8.trans t9)
  refine⟨_,rfl,_,rfl,_,rfl,b,pf,bk,o,lo,hi,hd,tl,[],to,rfl,E9.hb,hB,hf9,gf,p60,fun v10 G10 t10 fr10=>?_⟩
  have E10:=E9.same t10
  have hf10:=hf9.same t10
  refine⟨_,_,(fr9.same t10).rep,fr10.rep,(qW _).1,(qW _).1,_,rfl,zBj (qW _).2 ?_⟩
  refine⟨_,rfl,_,rfl,_,rfl,b,pf,bk,o,lo,hi,hd,tl,[],to,rfl,E10.hb,hB,hf10,gf,p60,fun v11 G11 t11 fr11=>?_⟩
  have E11:=E10.same t11
  refine⟨_,rfl,v11,_,_,_,rfl,fr11,E11.fr,fgf.1,fgw.1,?_⟩
  rw[zSx p60 (qV o bk lo hi hd tl ba to) (fun x hx=>pm.mem_iff.mp (bY _ hx)) l8f]
  refine⟨_,rfl,_,rfl,uQ ⟨by show 2<=sizeLine;decide,fun m12 hm12=>?_⟩⟩
  have t12:zB G11 (upd G11 m12 (.tup [.int 1,.int 1])):=zB.upd1 hm12
  refine⟨_,rfl,.ref m12,_,(1,1),_,rfl,⟨m12,rfl,.of zE⟩,(E11.same t12).fr,zTH,fgw.1,?_⟩
  rw[fgw.2.1]
  exact⟨_,rfl,k _⟩
end
end Kn.Ln
end
section
namespace Kn
open PySem L2 Ln
noncomputable def yD (K:ag)(x:Str)(st:cJ)(ps:List Str):Prop :=
 ∃(f:ak) (fd:bc),bf K mainGlobals x=some (some (.ref f))/\Fun K x x st f fd/\dW K (.ref f)=true/\kM K fd ps []
theorem zBu {K:ag}{x:Str}{st:cJ}{f:ak}{oc kV d pm b ct:aj}{od e:Option ak}{g:Array (Option aj)}(ps:List Str)
  (hb:∀(fd:bc),Fun K x x st f fd->kM K fd ps [])
  (a:bf K mainGlobals x=some (some (.ref f))) (l:K.lookup f=some ⟨oc,od,.func (dF x x (defArgs st) (defBody st) (defScope st) .none kV d pm e b ct),g⟩) (c:eX K b x=true) (k:dW K (.ref f)=true):yD K x st ps :=
 ⟨f,_,a,zDH (st:=st) l c k,k,hb _ (zDH (st:=st) l c k)⟩
noncomputable def zFe (K:ag)(x:Str)(st:cJ)(ps:List Str)(c:ak):Prop :=
 ∃(f:ak) (fd:bc),bf K mainGlobals x=some (some (.ref f))/\FunC K x x st f fd c/\dW K (.ref f)=true/\kM K fd ps []
theorem zTW {K:ag}{x:Str}{st:cJ}{f c:ak}{oc kV b pm ct:aj}{od d:Option ak}{e:Array (Option aj)}(ps:List Str)
  (hb:∀(fd:bc),Fun K x x st f fd->kM K fd ps [])
  (a:bf K mainGlobals x=some (some (.ref f))) (l:K.lookup f=some ⟨oc,od,.func (dF x x (defArgs st) (defBody st) (defScope st) .none kV b pm d (.ref c) ct),e⟩) (h:eX K (.ref c) x=true) (k:dW K (.ref f)=true):zFe K x st ps c :=
 ⟨f,_,a,zIt (st:=st) l h k,k,hb _ (zIt (st:=st) l h k).fn⟩
structure Top (K:ag) (c:ak):Prop where
 hv:zFe K "heaviest" sHv ["pairs","many"] c
 is_name:yD K "is_name" zDe ["thing"]
 is_book:yD K "is_book" zDf ["thing"]
 is_whole:yD K "is_whole" zDg ["thing","least","most"]
 is_order:yD K "is_order" zDh ["thing"]
 is_rising:yD K "is_rising" zEq ["things"]
 need_book:yD K "need_book" zDi ["thing"]
 need_order:yD K "need_order" zDj ["thing"]
 need_whole:yD K "need_whole" zFL ["thing","least","most"]
 need_name:yD K "need_name" zDk ["thing"]
 end_of:yD K "end_of" zDb ["text","order"]
 ends:yD K "ends_and_letters" zDd ["name","order"]
 rows:yD K "counted_rows" zDo ["book","order"]
 gcd:yD K "greatest_divisor" zDs ["one","other"]
 low:yD K "lowest" zDu ["up","down"]
 added:yD K "added" zDv ["one","other"]
 times:yD K "times" zDw ["one","other"]
 taken:yD K "less" zFT ["one","other"]
 is_less:yD K "is_less" zDx ["one","other"]
 part_in:yD K "part_in" zEB ["row","letter"]
 stepsR:yD K "steps_by_rows" zEC ["rows","order","name"]
 shareR:yD K "share_by_rows" zED ["rows","order","name"]
 share:yD K "share" zEE ["book","order","name"]
 cm:yD K "common_multiple" sCM ["one","other"]
 ww:yD K "whole_weight" sWW ["rows"]
 partsR:yD K "parts_by_rows" zET ["rows"]
 left:yD K "left_of" zEP ["weight","part"]
 follow:yD K "may_follow" zEQ ["letter","wanted"]
 nexts:yD K "next_sums" zEX ["parts","order","sums","wanted"]
 suma:yD K "sum_along" zEY ["parts","order","weight","pattern"]
 nexth:yD K "next_heaviest" zEc ["parts","order","layer","wanted","many"]
 ha:yD K "heaviest_along" sHA ["parts","order","weight","pattern","many"]
 is_edge:yD K "is_edge" zEr ["thing"]
 is_barred:yD K "is_barred" zEs ["thing"]
 is_wish:yD K "is_wish" zEt ["thing"]
 need_wish:yD K "need_wish" zEu ["thing"]
 form:yD K "has_form" zEw ["wish","name"]
 out:yD K "left_out" zEy ["book","wish"]
 fits:yD K "fits" zEz ["book","wish","name"]
 got:yD K "go_together" zFF ["one","other"]
 pl:yD K "patterns_of_length" sPL ["head","tail","length"]
 pats:yD K "patterns" zFH ["wish"]
 sof:yD K "share_of_form" zFV ["rows","order","wish"]
 sf:yD K "share_fitting" sSF ["book","order","wish"]
 cf:yD K "can_fit" sCF ["book","order","wish"]
 hf:yD K "heaviest_fitting" sHF ["rows","order","wish","many","barred"]
 lk:yD K "likeliest" sLk ["book","order","wish","many"]
 cell:yD K "_law_cell" zEG ["_law_script","_law_k"]
 drawn:yD K "_law_drawn" zEH ["_law_script","_law_k","_law_many"]
 lname:yD K "_law_name" zEI ["_law_script","_law_at","_law_most"]
 lbook:yD K "_law_book" zEJ ["_law_script","_law_at","_law_many","_law_most"]
 lwish:yD K "_law_wish" sLW ["_law_script","_law_at"]
 lwh:yD K "_law_whole" sWh ["_law_parts"]
 letters:∃t,bf K mainGlobals "LETTERS"=some (some (.str letters t))
 ml:∃t,bf K mainGlobals "MOST_LETTERS"=some (some (.int 8 t))
 mn:∃t,bf K mainGlobals "MOST_NAMES"=some (some (.int 8 t))
 mo:∃t,bf K mainGlobals "MOST_ORDER"=some (some (.int 3 t))
 w0:∃t,bf K mainGlobals "LEAST"=some (some (.int 0 t))
 w1:∃t,bf K mainGlobals "MOST"=some (some (.int 1 t))
 w2:∃t,bf K mainGlobals "HEAD"=some (some (.int 2 t))
 w3:∃t,bf K mainGlobals "TAIL"=some (some (.int 3 t))
 w4:∃t,bf K mainGlobals "BARRED"=some (some (.int 4 t))
 w5:∃t,bf K mainGlobals "TOLD"=some (some (.int 5 t))
 w6:∃t,bf K mainGlobals "MANY_PARTS"=some (some (.int 6 t))
 w7:∃t,bf K mainGlobals "MOST_EDGE"=some (some (.int 3 t))
 w8:∃t,bf K mainGlobals "MOST_BARRED"=some (some (.int 6 t))
 mlk:∃t,bf K mainGlobals "MOST_LIKELIEST"=some (some (.int 20 t))
 ib:lg K (.type "int") (.type "bool")=some false
 nought:∃a,bf K mainGlobals "NOUGHT"=some (some (.ref a))/\∀H,z7 K H a [.int 0,.int 1]
 whole:∃a,bf K mainGlobals "WHOLE"=some (some (.ref a))/\∀H,z7 K H a [.int 1,.int 1]
 anyC:∃t,bf K mainGlobals "ANY"=some (some (.str "" t))
 zlen:bf K mainGlobals "len"=some none
 zrange:bf K mainGlobals "range"=some none
 zall:bf K mainGlobals "all"=some none
 zisinstance:bf K mainGlobals "isinstance"=some none
 zstr:bf K mainGlobals "str"=some none
 ztuple:bf K mainGlobals "tuple"=some none
 zint:bf K mainGlobals "int"=some none
 zbool:bf K mainGlobals "bool"=some none
 zsorted:bf K mainGlobals "sorted"=some none
 zsum:bf K mainGlobals "sum"=some none
 zmin:bf K mainGlobals "min"=some none
 zmax:bf K mainGlobals "max"=some none
 zlist:bf K mainGlobals "list"=some none
 zset:bf K mainGlobals "set"=some none
 zzip:bf K mainGlobals "zip"=some none
 zenumerate:bf K mainGlobals "enumerate"=some none
 zdict:bf K mainGlobals "dict"=some none
theorem zTX:(dH "abcdefghijklmnopqrstuvwxyz")=letters:=by decide+kernel
theorem zTY {K:ag}{t:Tok}(h:bf K mainGlobals "LETTERS"=some (some (.str (dH "abcdefghijklmnopqrstuvwxyz") t))):∃t,bf K mainGlobals "LETTERS"=some (some (.str letters t)):=by
 rw[zTX]at h;exact⟨t,h⟩
theorem zTZ {K:ag}{x:Str}{i:Int}{t:Tok}(h:bf K mainGlobals x=some (some (.int i t))):∃t,bf K mainGlobals x=some (some (.int i t)):=⟨t,h⟩
theorem zTa {K:ag}{x:Str}{a:ak}{i j:Int}{t t':Tok}{n:Nat}{b:Option ak}{c:Array (Option aj)}(h:bf K mainGlobals x=some (some (.ref a)))
  (l:K.lookup a=some ⟨.type "tuple",b,.seq #[.int i t,.int j t'] n,c⟩):∃a,bf K mainGlobals x=some (some (.ref a))/\∀H,z7 K H a [.int i,.int j] :=
 ⟨a,h,fun H=>.inr ⟨_,_,_,l,rfl,rfl,by show 2<=sizeLine;decide,.cons ⟨t,rfl⟩ (.cons ⟨t',rfl⟩ .nil)⟩⟩
section
variable{P:aJ}{w:bh}{K:ag}{mg:Str->Option aj}{base:bF}{h:bF}
theorem zTb {x:Str}{st:cJ}{ps:List Str}{k:Nat}{sp:Sp}(X:K.In h)(G:h.Ns mainGlobals mg)(H:yD K x st ps)(ok:∀(f:ak) (fd:bc),Fun K x x st f fd->FnOk P w K mg base z0 k f fd ps sp):zS P w K mg base k x ps sp:=by
 obtain⟨f,fd,a,F,kp,b⟩:=H
 exact⟨f,fd,ok f fd F,bW X G a,kp,b⟩
theorem zTc {x:Str}{st:cJ}{ps:List Str}{k:Nat}{sp:Sp}{c:ak}(X:K.In h)(G:h.Ns mainGlobals mg)(H:zFe K x st ps c)(ok:∀(f:ak) (fd:bc),FunC K x x st f fd c->FnOk P w K mg base z0 k f fd ps sp):zS P w K mg base k x ps sp:=by
 obtain⟨f,fd,a,F,kp,b⟩:=H
 exact⟨f,fd,ok f fd F,bW X G a,kp,b⟩
theorem zTd {c Tt:ak}(L:LamBase mg base c Tt)(X:K.In h)(G:h.Ns mainGlobals mg)(T:Top K c){f:ak}{fd:bc}(F:Fun K "law" "law" gA f fd):FnOk P w K mg base z0 8 f fd ["_law_script"] (zBt K Tt):=by
 have B:Blt mg:=⟨bG X G T.zlen,bG X G T.zrange,bG X G T.zall,bG X G T.zisinstance,bG X G T.zstr,bG X G T.ztuple,bG X G T.zint,bG X G T.zbool,bG X G T.zsorted,bG X G T.zsum,bG X G T.zmin⟩
 have C:Cst K mg:=⟨let⟨t,e⟩:=T.letters;⟨t,bW X G e⟩,let⟨t,e⟩:=T.ml;⟨t,bW X G e⟩,let⟨t,e⟩:=T.mn;⟨t,bW X G e⟩,let⟨t,e⟩:=T.mo;⟨t,bW X G e⟩,T.ib⟩
 have d {x:Str} {st:cJ} {ps:List Str} {k:Nat} {sp:Sp} (a:yD K x st ps) (b:∀(f:ak) (fd:bc),Fun K x x st f fd->FnOk P w K mg base z0 k f fd ps sp):zS P w K mg base k x ps sp:=zTb X G a b
 have C2:Cst2 K mg:=⟨let⟨a,e,q⟩:=T.nought;⟨a,bW X G e,q⟩,let⟨a,e,q⟩:=T.whole;⟨a,bW X G e,q⟩⟩
 have hA:∃t,mg "ANY"=some (.str "" t):=let⟨t,e⟩:=T.anyC;⟨t,bW X G e⟩
 have hM:∃t,mg "MOST_LIKELIEST"=some (.int 20 t):=let⟨t,e⟩:=T.mlk;⟨t,bW X G e⟩
 have I:=bG X G T.zlist
 have aK:=bG X G T.zset
 have U:=bG X G T.zzip
 have aN:=bG X G T.zenumerate
 have aW:=bG X G T.zdict
 have a0:=bG X G T.zmax
 have a1:=bG X G T.zsorted
 have W:CstW mg:=⟨let⟨t,e⟩:=T.w0;⟨t,bW X G e⟩,let⟨t,e⟩:=T.w1;⟨t,bW X G e⟩,let⟨t,e⟩:=T.w2;⟨t,bW X G e⟩,let⟨t,e⟩:=T.w3;⟨t,bW X G e⟩,let⟨t,e⟩:=T.w4;⟨t,bW X G e⟩,let⟨t,e⟩:=T.w5;⟨t,bW X G e⟩,let⟨t,e⟩:=T.w6;⟨t,bW X G e⟩,let⟨t,e⟩:=T.w7;⟨t,bW X G e⟩,let⟨t,e⟩:=T.w8;⟨t,bW X G e⟩⟩
 have r:=d T.end_of fun f fd F=>zOH F
 have s:=d T.ends fun f fd F=>zOK F B r
 have m:=d T.rows fun f fd F=>zOc F s
 have g:=d T.is_name fun f fd F=>zON F B C
 have p:=d T.is_book fun f fd F=>zOP F B C g
 have i:=d T.is_whole fun f fd F=>zOR F B C
 have n:=d T.is_order fun f fd F=>zOT F C i
 have Y:=d T.is_rising fun f fd F=>zRV F B U
 have a2:=d T.need_book fun f fd F=>zOV F p
 have a3:=d T.need_order fun f fd F=>zOX F n
 have a4:=d T.need_name fun f fd F=>zOZ F g
 have a5:=d T.need_whole fun f fd F=>zRx F i
 have a6:=d T.is_edge fun f fd F=>zSk F B W g
 have a7:=d T.is_barred fun f fd F=>zSl F B W g Y
 have a8:=d T.is_wish fun f fd F=>zSm F B C W i a6 a7
 have a9:=d T.need_wish fun f fd F=>zSn F a8
 have N:NeedsW P w K mg base:=⟨⟨a2,a3,a4,m⟩,a9⟩
 have Z:=d T.form fun f fd F=>zRf F B W
 have u:=d T.out fun f fd F=>zSd F B W I aK
 have ba:=Ln.zS.imp (sp':=zEx) u fun h=>zSc h
 have bb:=d T.fits fun f fd F=>zSv F N Z ba
 have v:=d T.gcd fun f fd F=>zRu F
 have aa:=Ln.zS.imp (sp':=zDr) v fun h=>zRs h
 have j:=d T.low fun f fd F=>zRv F v
 have ab:=Ln.zS.imp (sp':=zDt) j fun h=>zRt h
 have y:=d T.times fun f fd F=>zSL F j
 have E:=d T.added fun f fd F=>zRz F j
 have be:=d T.taken fun f fd F=>zSa F j
 have z:=d T.is_less fun f fd F=>zSb F
 have o:=d T.part_in fun f fd F=>zPo F B C2 ab
 have J:=Ln.zS.imp (sp':=zEA K) o fun h=>zPn h
 have ac:=d T.stepsR fun f fd F=>zOl F s J
 have A:=d T.shareR fun f fd F=>zSM F C2 ac y
 have al:=d T.share fun f fd F=>zSN F N.toNeeds A
 have bi:=d T.cm fun f fd F=>zPs F aa
 have am:=d T.ww fun f fd F=>zPu F B bi
 have H:=d T.partsR fun f fd F=>zPq F o aW
 have D:=d T.left fun f fd F=>zPb F
 have an:=d T.follow fun f fd F=>zPd F hA
 have bl:=d T.nexts fun f fd F=>zPv F an r D
 have bm:=d T.suma fun f fd F=>zPx F B C2 bl D
 have M:=zTc (P:=P) (w:=w) (base:=base) X G T.hv fun f fd F=>zQE F B L a1
 have bn:=d T.nexth fun f fd F=>zQL F I an r D M
 have bq:=d T.ha fun f fd F=>zQQ F bn D M
 have bv:=d T.got fun f fd F=>zRn F hA
 have b1:=d T.pl fun f fd F=>zRo F B a0 I U hA bv
 have ap:=d T.pats fun f fd F=>zRp F B W b1
 have as:=d T.sof fun f fd F=>zSf F B H am bm j ap
 have ax:=d T.sf fun f fd F=>zSq F N m as u Z be A
 have b2:=d T.cf fun f fd F=>zSs F C2 ax z
 have b3:=d T.hf fun f fd F=>zSj F B H am ap bq M j
 have b4:=d T.lk fun f fd F=>zSu F hM N a5 m u b3
 have O:=d T.cell fun f fd F=>zOv F B
 have l:=d T.drawn fun f fd F=>zOw F O
 have Q:=d T.lname fun f fd F=>zOx F B l
 have R:=d T.lbook fun f fd F=>zOy F B l Q
 have b5:=d T.lwish fun f fd F=>zSS F B aN l
 have b6:=d T.lwh fun f fd F=>zTF F E
 exact zTV F B ⟨l,R,b5,b6,ax,b2,b4,bb,al,E,z⟩
end
theorem zTe {c Tt:ak}{l:mZ}{w:bh}{K:ag}{h:bF}{mg:Str->Option aj}{q j:ak}(X:K.In h)(G:h.Ns mainGlobals mg)(m:mg "law"=some (.ref q))
  {n b:Option ak} {o:Array (Option aj)} {p d f g a i:aj} (T:Top K c)
  (r:bf K mainGlobals "law"=some (some (.ref j))) (t:K.lookup j=some ⟨p,n,.func (dF "law" "law" (defArgs gA) (defBody gA) (defScope gA) .none d f g b a i),o⟩) (u:eX K a "law"=true) (x:dW K (.ref j)=true) :
  ∃fd:bc,(∀(s:au) (v:aj),oG s fd ⟨[v],[]⟩ [("_law_script",v)])/\∀base:bF,K.In base->base.Ns mainGlobals mg->LamBase mg base c Tt->FnOk l.prog w K mg base z0 8 q fd ["_law_script"] (zBt K Tt):=by
 have e:=m.symm.trans (bW X G r)
 cases e
 have y:=zDH (st:=gA) t u x
 exact⟨dF "law" "law" (defArgs gA) (defBody gA) (defScope gA) .none d f g b a i,fun s v=>.of_eq rfl,fun base _ _ L=>zTd L X G T y⟩
theorem zTf {c Tt:ak}{l:mZ}{q:aJ}{loose:List Str}{XP:(Str->Option aj)->bF->Prop}{YP:bh->bF->Prop}{d:DefRec}{K:pq->ag}(i:l.most=some 63)(b:d.params.defaults=[])
  (j:∀(w:bh) (h:bF),YP w h->(K w.params).In h/\h.get? Tt=some (PySem.W.tabObj #[])) (e:∀w:bh,(K w.params).lookup Tt=none) (m:∀w:bh,zCM (K w.params) c Tt)
  (F:∀(w:bh) (mg:Str->Option aj) (g:ak) (h:bF),(K w.params).In h->h.Ns mainGlobals mg->mg d.name=some (.ref g)->
   ∃fd:bc,(∀(s:au) (u:aj),oG s fd ⟨[u],[]⟩ [("_law_script",u)])/\∀base:bF,(K w.params).In base->base.Ns mainGlobals mg->LamBase mg base c Tt->FnOk l.prog w (K w.params) mg base z0 8 g fd ["_law_script"] (zBt (K w.params) Tt)) :
  sF q loose XP YP l.row.toRowW d [] (fun f vs=>qx f vs) :=
 L2.zNp (n:=63) (k:=8) (x :="_law_script") (sp:=fun w=>zBt (K w.params) Tt) i (by decide) b ⟨rfl,by decide,by decide⟩ j e (fun w h X=>zCM.hd X (m w)) F (fun _ _ a ns hl o p=>⟨a,ns,rfl,p,hl,.inl o,fun _=>rfl⟩)
end Kn
end
section
open PySem PySem.W PyProof.Rows
set_option maxRecDepth 100000 in
set_option maxHeartbeats 0 in
theorem PySem.Challenge.cw_kinnames_k34_whole_sums_holds : PySem.Challenge.rw_kinnames_k34_whole_sums.Holds := by
 w_on;o_law
 refine PySem.W.holds_open (q:=Kn.kq) (loose:=Kn.klo) (Xt:=fun s=>xlAt Kn.kq [] s&&recOk [] s) (XP:=XL Kn.kq []) (Yf:=Hook.obs (kHook Kn.kfr Kn.kas Kn.kas_e)) (Ya:=Hook.val (kHook Kn.kfr Kn.kas Kn.kas_e)) (YP:=Hook.says (kHook Kn.kfr Kn.kas Kn.kas_e)) (N:=6286) Kn.hl (Hook.of (kHook Kn.kfr Kn.kas Kn.kas_e)) (Hook.keeps (kHook Kn.kfr Kn.kas Kn.kas_e)) (fun s e=>xl_of s (Bool.and_eq_true_iff.mp e).1) XL.keeps (by rfl) (by rfl) (by rfl) (fun s e=>recFacts_of (Bool.and_eq_true_iff.mp e).2) (by rfl) (by first|assumption|decide+kernel) (by decide+kernel) ⟨rfl,rfl,rfl,rfl,rfl,by decide+kernel⟩ ?hw ?hc
 (case hw=>w_witness2)
 refine Kn.zTf (c:=284) (Tt:=280) (K:=Kn.kfr0) (l:=PySem.Challenge.rw_kinnames_k34_whole_sums) rfl rfl (fun w h Y=>L2.zNq (PySem.W.kIn_of Y) (by first|rfl|kernel_rfl)) (fun w=>by first|rfl|kernel_rfl) (fun w=>⟨none,#[(.str (.ofString "heaviest") 545),(.str (.ofString "heaviest") 546),(.str (.ofString "/claim/cut.py") 547),(.int (125) 0),(.int (2) 0),(.int (0) 0),(.int (0) 0),(.int (3) 0),(.ref 279),(.bool true),(.int (181) 0),(.ref 280),.none,(.ref 281),(.ref 282),(.ref 283),(.int (550) 0),(.int (125) 0),(.str (.ofString "/claim/cut.py") 551)],#[],(.ofString "/claim/cut.py"),551,3,0,true,181,0,by first|rfl|kernel_rfl,rfl,rfl,rfl,rfl,rfl,rfl,by decide⟩) ?F
 case F=>
  k_fill
  intro w mg fa h KX G hmg
  refine' Kn.zTe KX G hmg ?T ?a4 ?l4 ?c4 ?k4
  (case T=>
   refine' ⟨?hv,?is_name,?is_book,?is_whole,?is_order,?is_rising,?need_book,?need_order,?need_whole,?need_name,?end_of,?ends,?rows,?gcd,?low,?added,?times,?taken,?is_less,?part_in,?stepsR,?shareR,?share,?cm,?ww,?partsR,?left,?follow,?nexts,?suma,?nexth,?ha,?is_edge,?is_barred,?is_wish,?need_wish,?form,?out,?fits,?got,?pl,?pats,?sof,?sf,?cf,?hf,?lk,?cell,?drawn,?lname,?lbook,?lwish,?lwh,?letters,?ml,?mn,?mo,?w0,?w1,?w2,?w3,?w4,?w5,?w6,?w7,?w8,?mlk,?ib,?nought,?whole,?anyC,?zlen,?zrange,?zall,?zisinstance,?zstr,?ztuple,?zint,?zbool,?zsorted,?zsum,?zmin,?zmax,?zlist,?zset,?zzip,?zenumerate,?zdict⟩
   (case is_name|is_book|is_order|is_rising|need_book|need_order|need_name|ww|partsR|is_edge|is_barred|is_wish|need_wish|pats|lwh=>refine' Kn.zBu _ (fun fd F=>F.binds fun _ _ _ _ _ _ us hl=>match us,hl with| [_],_=>rfl) ?kna ?knl ?knc ?knk;(case kna=>k_is);(case knl=>k_is);(case knc=>k_is);(case knk=>k_is))
   (case end_of|ends|rows|gcd|low|added|times|taken|is_less|part_in|cm|left|follow|form|out|got|cell|lwish=>refine' Kn.zBu _ (fun fd F=>F.binds fun _ _ _ _ _ _ us hl=>match us,hl with| [_,_],_=>rfl) ?kna ?knl ?knc ?knk;(case kna=>k_is);(case knl=>k_is);(case knc=>k_is);(case knk=>k_is))
   (case is_whole|need_whole|stepsR|shareR|share|fits|pl|sof|sf|cf|drawn|lname=>refine' Kn.zBu _ (fun fd F=>F.binds fun _ _ _ _ _ _ us hl=>match us,hl with| [_,_,_],_=>rfl) ?kna ?knl ?knc ?knk;(case kna=>k_is);(case knl=>k_is);(case knc=>k_is);(case knk=>k_is))
   (case nexts|suma|lk|lbook=>refine' Kn.zBu _ (fun fd F=>F.binds fun _ _ _ _ _ _ us hl=>match us,hl with| [_,_,_,_],_=>rfl) ?kna ?knl ?knc ?knk;(case kna=>k_is);(case knl=>k_is);(case knc=>k_is);(case knk=>k_is))
   (case nexth|ha|hf=>refine' Kn.zBu _ (fun fd F=>F.binds fun _ _ _ _ _ _ us hl=>match us,hl with| [_,_,_,_,_],_=>rfl) ?kna ?knl ?knc ?knk;(case kna=>k_is);(case knl=>k_is);(case knc=>k_is);(case knk=>k_is))
   (case hv=>refine' Kn.zTW _ (fun fd F=>F.binds fun _ _ _ _ _ _ us hl=>match us,hl with| [_,_],_=>rfl) ?kna ?knl ?knc ?knk;(case kna=>k_is);(case knl=>k_is);(case knc=>k_is);(case knk=>k_is))
   (case letters=>refine' Kn.zTY ?knq;(case knq=>k_is))
   (case ml|mn|mo|w0|w1|w2|w3|w4|w5|w6|w7|w8|mlk=>refine' Kn.zTZ ?knq;(case knq=>k_is))
   (case ib=>first|rfl|kernel_rfl|decide+kernel)
   (case nought|whole=>refine' Kn.zTa ?knq ?knr;(case knq=>k_is);(case knr=>k_is))
   (case anyC=>refine' Kn.Ln.zPX ?knq;(case knq=>k_is))
   (case zlen|zrange|zall|zisinstance|zstr|ztuple|zint|zbool|zsorted|zsum|zmin|zmax|zlist|zset|zzip|zenumerate|zdict=>k_is))
  (case a4=>k_is);(case l4=>k_is);(case c4=>k_is);(case k4=>k_is)
end
