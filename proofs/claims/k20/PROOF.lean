import PyProof.Rows.All
import Wide.All
import OpenK.AllK
import Wide.FinOn
import Lean
import PyProof.EqAt
import PyProof.EqKinds
import PyProof.TupleCall
import PyProof.CompFree
import KE.KSortAsk
import KE.KSortTup
import KE.KRevSl
import PyProof.AttrMissSeq
import KE.KDictOf
import KE.KxText
import PyProof.Rows.Range3
import PyProof.WalksMore
import PyProof.StationsW
import PyProof.Rows.Catch
import PyProof.ExcClass3
import PyProof.ExcBaseAll.ValueError
import OpenK.KOwn
import KE.KIsAll
import PyProof.FitsBits
import PyProof.ZipIter
import PyProof.Draws
import PyProof.TupleIter
import PyProof.Rows.ZipGen
import PyProof.Rows.InDataRows
import PyProof.Rows.SetFrom
import PyProof.ExcAttrAll.ValueError
import PyProof.FString
import PyProof.ListMulRoad
import PyProof.StrOps2
import PyProof.FactsAll.tuple_2
import PySem.Challenge.RW_kinnames_k20_lengths
open List renaming length_map→aa,getElem?_eq_some_iff→af,mem_cons_self→aj,take_succ_eq_append_getElem→ak,getElem?_map→aq,mem_cons_of_mem→ar,mem_map→az,replicate→aB,map_append→aC,length_append→aE,map_cons→aF,getElem?_eq_getElem→aG,mem_cons→aL,length_take→aO,map_map→aP,mem_filter→aQ,mem_append_right→aS,mem_of_getElem?→aT,take_length→aU,range→ba,sum_cons→bb,length_cons→bg,size_toArray→bh,length_filter_le→bj,getElem?_append_right→bw,mem_flatMap→bx,nodup_cons→bE,mem_append→bG,getElem?_append_left→bI,mem_append_left→bJ,mem_singleton_self→bK,getD_eq_getElem?_getD→bN,length_range→bO,mem_range→bX,lookup_cons→bZ,mem_singleton→b8,all_eq_true→cg,map_congr_left→cj,foldl_cons→cn,length_eq_zero_iff→cw,pairwise_map→cx,mem_of_mem_take→cz,length_singleton→cG,foldl_append→cI,count_pos_iff→cK,length_drop→cQ,getElem?_range→cV,length_replicate→cZ,pairwise_cons→c9,filter_append→da,getElem_mem→dh,take_sublist→dz,replicate_succ→dC,getElem_of_mem→dD,replicate_succ'→dP,getElem?_replicate→dS,isEmpty_eq_false_iff_exists_mem→d3,map_take→d6,filter_cons→d8,append_assoc→eE,flatten_cons→eP,nodup_append→eQ,any_cons→eV,cons_append→fg,getElem_map→fj,length_pos_of_mem→fB,find?_cons→fE,range_succ→fF,getElem_inj→fR,toArray→fT,filterMap_cons→fY,flatMap_append→fZ,map_eq_nil_iff→f9,length_erase_of_mem→gh,not_lt→gx,filter_cons_of_pos→gz,filter_cons_of_neg→hV,take_of_length_le→ir,drop_of_length_le→iu,flatMap_cons→iw,lookup_cons_self→iB,getElem?_eq_none→iC,ext_getElem→iG,count→iH,not_mem_nil→iI,length→iL,map→iO,take_append_of_le_length→iQ,mem_erase_of_ne→iR,count_eq_zero_of_not_mem→iS,pairwise_append→iT,mem_of_mem_drop→iU,of_mem_zip→iW,sum_append→iX,mem_filterMap→jm,lt_irrefl→ju,drop_zero→jv,contains_cons→jy,count_append→km,getElem?_take_of_lt→lg,getElem?_set_self→lM,map_nil→lQ,all_map→l6,append_nil→mh,forIn_cons→mq,count_cons_of_ne→mB,cons_lt_cons_iff→mC,getElem?_set_ne→mK,forIn_nil→mP,map_id→mW,foldl_map→mY,mem_map_of_mem→nj,reverse_cons→nV,count_filter→oa,le_antisymm→oA,drop_append→oG,nil_append→oQ,count_cons→oX,foldl→pA,take_zero→pE,all_cons→qh,lt_trans→qm,map_drop→qv,any_map→rA,Nodup→sM
open PySem.W renaming Frag→ae,nsIn→aZ,kitOne→bp,mg_none_of→bz,mg_of→bR,kia_one→ck,kas_place→de,fnOf→dt,keepIn→dy,findIn→dM,excIn→d7,kas_desc→fi,looks_pair→fN,codeIn→fO,hideAll_get→fX,hideAll→gj,cellsFrom_some→ig,kas_asc→ip,kas_descPart→jd,of_hideAll→jj,callWith_K→jo,methodObj→kh,kas_rev→lX,instObj→me,OpenLaw→mj,lookIn→mM,mroIn→ny,codeRec_of→nL,kitx_list→nS,kitx_dict→nT,kas_bin→nW,kas_sort→nX,plainGet→ox,kas_count→oz,SharedT→o5,WalkO→qk
open PySem renaming Value→ag,Addr→ah,Shared→av,wpAny_bind→aw,wpAny_pure→aH,Program→aJ,sizeLine_eq→aR,World→aV,FuncData→aX,Heap→bC,Around→bM,Expr→bV,PyData→bW,mem_of_lookup→cc,wpAny_mono→cf,Stmt→cp,boot_len→cu,strLen_append→cy,Builtin→dk,wpAny_truthy_bool→dw,wpAny_loadPart_at→dB,codeAny_builtin→dE,wpAny_holding→dH,wpAny_newObj_type→dR,Spec→dZ,wpAny_call_entry→d9,wpAny_Call_Name_kw→eg,wpAny_passesOwn→eC,codeAny_mono→eJ,Scope→fb,tupleKind_room_in1→fw,plainId_quiet→fI,intKind→fJ,wpAny_pyIter_list→fK,wpAny_setState_of→fL,call_meets→fP,wpAny_isSubtype_exc→gc,wpAny_execs_nil→gk,wpAny_ite_split→gp,call_meetsIn→il,isSubtype_type→ix,builtinLookup_eq_fast→iE,codeAny_call_builtin→iV,NameKind→jq,wpAny_newFunctionEnv_cells→jr,SetTable→jz,wpAny_setField_rec→ka,wpAny_FormattedValue_plain→kc,list_append→kj,wpAny_pyIter_slot→ku,fits_of_scanBound→ky,wpAny_comprehension_free→lh,wpAny_newList→lj,noFill_tuple_add→lz,wpAny_Call_method0_late→lB,wpAny_askSetting→lG,wpAny_pyNext_range_end→lN,wpAny_pyIter_rangeiter→lO,codeAny_compStart_list→lW,wpAny_typeOf→lY,wpAny_loadPart'→mi,typeLookup_type→mx,wpAny_isTrue_Compare1→my,codeAny_call_function→mz,wpAny_formatField_int→mF,GenState→mJ,IsRangeIter→mL,wpAny_newFunctionEnv→mQ,entryFor_alias→mX,BindsTo→mZ,evalArgs_none→ng,wpAny_dictSet_pairs→nh,wpAny_setEntries_of→nu,wpAny_standAt→nv,seq_tuple_add→nz,Paired→nH,wpAny_rule→nJ,wpAny_pyIter_range→nK,wpAny_assign_Name→nQ,concat_meets→nU,call_sum_walkAnyS→nZ,meets_dict_values→n0,wpAny_pyHash_str→ot,wpAny_eqBool_str→ou,wpAny_execs_cons→ow,Result→oy,Fin→oB,entryFor_of_tree→oD,wpAny_isInstance→oJ,Model→oK,wpAny_specialOf→oS,codeAny_of_tree→oY,wpAny_updateSeq→o4,Keyword→o6,Params→o8,wpAny_Name→o9,CmpOp→pb,wpAny_bindName→pe,wpAny_call→ph,typeIs_int→pq,PlainAttrs→pz,call→pD,wpAny_runValue→pK,KeyKind→pV,intBits_le_64→pW,evalPart_none→qg,call_list_seq→qi,signature?_of→qt,Arguments→qx,Within→ri,Drawn→rQ
open PySem.Heap renaming get?_push_of_some→ai,lt_size→aI,get?_push_size→aM,get?_update_other→cb,size_push→eu,SameBut→ie,get?_update_self→iD,MadeExcOf→pH,FlyingW→rC
open Option.some renaming inj→ay
open Nat renaming le_refl→aD,ne_of_lt→bf,lt_of_lt_of_le→br,lt_irrefl→bP,zero_le→bQ,lt_succ_of_lt→cX,le_trans→du,pow_le_pow_right→dQ,le_of_eq→d4,ne_of_gt→eI,lt_succ_self→fh,le_of_lt→jb,sub_self→jg,lt_trans→lU,gcd_comm→lZ,sub_zero→nY,add_zero→n9,dvd_mul_left→oE,log2_lt→oO,le_succ→oP,zero_add→rh,gcd→rn,pow_succ→rG,Coprime→rY,mod_lt→sN
open Bool renaming false_ne_true→aY,and_eq_true→bc,not_eq_true'→dX,false_eq_true→er,eq_iff_iff→eD,and_self→gf,true_and→nC,or_eq_true→oW,and_false→pB,false_or→qj,true_or→rk
open PyProof.Rows renaming boot_isinstance→bo,callWith_type1→dm,boot_sum→eB,boot_sorted→eZ,callWith_builtin1→iF,AllBare→ja,IntsAre→jc,assignInOrder_cons→jl,subscriptTail_builtinR→lR,boot_dict→l7,entry_list_sort→mr,boot_all→mE,boot_min→mG,slot_list_sort→mR,args_list_sort→mT,listUpdate_at→nA,assignInOrder_nil→nR,plain_sorted→n5,entry_sorted→n6,args_sorted1→n8,seqEpoch_at→oM,kind_sorted→oN,get?_update_seq→oV,boot_range→pf,Subscript_→pj,boot_tuple→rg,StrsAre→rl,boot_bool→rF,boot_list→rH,boot_str→rK,boot_int→rL,boot_max→rM,boot_set→rO,envOfC→sF
open PySem.Challenge renaming pw_kinnames_k20_lengths→bq
open Int renaming le_of_lt→bB,eq_ofNat_of_zero_le→cq,mul_nonneg→cB,mul_le_mul_of_nonneg_right→dG,dvd_trans→dJ,mul_pos→dN,mul_le_mul→dO,gcd_dvd_right→dU,mul_comm→d5,pow_succ→fz,gcd→gm,emod_lt_of_pos→gs,pow_pos→gy,toNat_natCast→ik,emod_nonneg→iZ,dvd_refl→jf,fdiv_eq_ediv_of_nonneg→jn,add_mul→kr,pow_add→kx,gcd_dvd_left→lF,zero_add→l5,ediv_nonneg→mw,mul_ediv_cancel'→mV,ediv_mul_cancel→nk,le_of_dvd→nD,dvd_mul_right→og,le_trans→oh,ediv_le_self→oF,add_nonneg→pF,pow_nonneg→pG,mul_assoc→qr,zero_mul→ro,ofNat_le→rB,lt_trans→rD,le_refl→rZ,one_mul→r6,one_pow→r9
open Array renaming length_toList→bD,getElem?_eq_getElem→dF,getElem?_toList→eA,getElem?_eq_none→ma,append_assoc→nI,toList_push→nP,toList_inj→oq,toList→rj
open PySem.PassesOwn renaming never→bF,leaving→sS
open PySem.F renaming plainAttrs_dict→bY,slot_dict_items→cJ,type_dict_items→dj,excBase_ValueError→dA,slot_dict_values→dI,plainAttrs_list→dY,slot_list_getattribute→fk,called_set→fC,typeOf_object_class→fM,args_tuple_add_2→gd,type_dict_values→gi,entry_tuple_add→gw,slot_tuple_add→ij,slot_dict_get→iA,args_list_append_2→iN,slot_dict_itemiterator_iter→iP,slot_dict_setdefault→iY,entry_list_append→i8,slot_gs_get→i9,slot_list_append→jt,args_dict_values_1→jw,entry_dict_values→ke,plain_extend_loop→kf,slot_list_append→lr,type_list_append→lu,args_dict_get_3→lD,plain_list_iadd→lI,attr_ValueError→lJ,slot_list_count→lK,slot_list_index→lL,entry_dict_get→lV,slot_set_iter→mD,slot_int_rmul→oR,plain_set_new→oZ
open Prod.mk renaming inj→cD
open List.Pairwise renaming filter→cM,map→dW
open PySem.Paired renaming length→cO,snoc→rW
open PySem.Obj renaming mapSeq→cT,putSet→sO
open PySem.PyData renaming canLayAll0→cY,eqv→eY,depthAll→fG,canLay0→fQ,depth→je,eqvAll→ql,strOk→rq
open False renaming elim→c8
open PySem.Around renaming under_plainId→di,frames_deeper→mO
open PySem.Builtin.Str renaming strSliceIndices→dq,occurrences→gv
open PySem.Value renaming isInt→eG,isStrOf→iJ,isStrOf_shape→m8
open PySem.SetTable renaming insertAt→eR,below→iy,fill→lx,fits→nE
open PySem.Builtin.List renaming listTooLong→eX,listLengthHint→jh,listExtendWith→ji,listSameRef→ly
open PySem.Builtin.Range renaming rangeSize→fc,small→nq,rangeFitsLong→o7
open Ne renaming symm→fm
open PySem.Calls renaming callWith_builtin→fu,call_function_entry→fW,Constant_str→gq,spliced_cons→gr,evalArgs_plain→iM,Name_function_global→jk,spliced_nil→ki
open Option renaming map_some→fD,bind_eq_some_iff→gu,map_eq_some_iff→ic,isSome_map→kl,isSome_iff_exists→kz,getD_some→oH
open PySem.SeqAt renaming shaped→fV,EqAt→sH
open PyProof.Rows.F renaming plain_set_update_loop→ia,entry_set_update_loop→lH
open List.Perm renaming refl→iq,append_left→rJ,length_eq→sA,nodup_iff→sC,mem_iff→sQ,map→sY
open Nat.Coprime renaming dvd_of_dvd_mul_left→iz
open PySem.SeqAt.EqAt renaming bool_bool→iK,str_bool→m9,bool_str→nc,int_str→nF,str_int→nG,none_bool→rT,bool_none→rV,none_int→sf,none_str→so,bool_int→sq,int_none→sr,int_bool→su,str_none→sy,int_int→sI,str_str→sJ,same→sW
open PySem.Str renaming length→js,ofString→l9,empty→qy
open Prod renaming snd→jx,fst→rX
open PySem.Shared renaming TypeIs→lp
open List.cons renaming inj→lq
open PySem.IsL renaming update→lC
open PySem.Builtin.Dict renaming updateFrom→lE,addKeywords→qp,selfAndRest→qq,pairItems→rm
open PyProof renaming noPylong_small→lP
open Sum.inr renaming inj→mI
open PySem.Builtin.Int renaming intBits→nr
open PySem.Moved renaming eq_with→nB
open PySem.Walks renaming list→nM,range→rR
open PySem.Code renaming quiet_builtin→nN
open PySem.AutoListH renaming list___mul___list_int_3→nO
open PySem.Txt renaming join→n4,slice→qz
open String renaming splitOnAux→oj,splitOn→pJ
open PySem.pickOrder renaming go→om
open PySem.Heap.DictOf renaming new→oU
open PySem.Builtin.Frozenset renaming updateFrom→o2,newClass→pI,sizeOf→qw,slot0→rf
open PySem.EqNone renaming eq_none_none→pL,eq_none_bool→pM,eq_bool_none→pN,ne_none_none→pQ,ne_none_bool→pR,ne_bool_none→pS,eq_none_int→pX,eq_none_str→pY,eq_int_none→pZ,eq_str_none→p8,ne_none_int→qa,ne_none_str→qb,ne_int_none→qc,ne_str_none→qe
open PySem.EqMixed renaming eq_bool_str→pO,eq_str_bool→pP,ne_bool_str→pT,ne_str_bool→pU,eq_int_str→p7,eq_str_int→p9,ne_int_str→qd,ne_str_int→qf
open PySem.MeetsSeq renaming EqGives→rE
open Classical renaming choose_spec→rN,choose→sV
open Sum.inl renaming inj→rP
open PySem.IsRange renaming new→rS
open PySem.Heap.SameBut renaming update→sE,refl→sR
open PySem.W.WShape renaming has→sL
open PyProof.Rows.IsTup renaming new→sT
open PySem.DictEntry renaming refKey→sU
open PySem.Value.type renaming inj→sX
open PySem.Value.ref renaming inj→sZ
set_option Elab.async false
set_option linter.all false
set_option maxRecDepth 100000
set_option maxHeartbeats 4000000
section
namespace L2
open PySem
def inClass (s:cp)(j:Nat):cp:=match s with
 | .ClassDef _ _ _ body _ _ _ _ _ _ _=>body.getD j (.Pass ⟨0,0,0,0⟩)
 |_=>.Pass ⟨0,0,0,0⟩
def defArgs (s:cp):qx:=match s with
 | .FunctionDef _ a _ _ _ _ _ _ _ _=>a
 |_=>{posonlyargs:=[],args:=[],vararg:=none,kwonlyargs:=[],kw_defaults:=[],kwarg:=none,defaults:=[]}
def defBody (s:cp):List cp:=match s with
 | .FunctionDef _ _ b _ _ _ _ _ _ _=>b
 |_=>[]
def defScope (s:cp):fb:=match s with
 | .FunctionDef _ _ _ _ _ _ sc _ _ _=>sc
 |_=>{kind:=.function,names:=[],isGenerator:=false,isCoroutine:=false}
end L2
namespace Kn
open PySem
def top (i:Nat):cp:=bq.main.body.getD i (.Pass ⟨0,0,0,0⟩)
end Kn
namespace Kn
open PySem PySem.W PyProof.Rows
def topRunT (tb:String->Option dk)(p:aJ)(w:aV)(n₀:Nat)(ann:Option ag):Nat->o5->Thread->Option o5
 |0,_,_=>none
 |n+1,s,t=>match through t with
  |true=>some s
  |false=>match stepOk n₀ ann t with
   |false=>none
   |true=>match stepT (denote tb) p w s t with
    |some (s',t')=>topRunT tb p w n₀ ann n s' t'
    |none=>none
theorem topRun_of {tb:String->Option dk}{p:aJ}{w:aV}{n₀:Nat}{ann:Option ag}:∀{n:Nat}{s s':o5}{t:Thread},topRunT tb p w n₀ ann n s t=some s'->topRun tb p w n₀ ann n s.abs t=some s'.abs
 |0,_,_,_,h=>by cases h
 |n+1,s,s',t,h=>by
  unfold topRunT at h
  unfold topRun
  cases he:through t with
  |true=>rw[he]at h;cases h;rfl
  |false=>
   rw[he]at h
   cases hk:stepOk n₀ ann t with
   |false=>rw[hk]at h;cases h
   |true=>
    rw[hk]at h
    cases hs:stepT (denote tb) p w s t with
    |none=>rw[hs]at h;cases h
    |some r=>obtain⟨s₂,t₂⟩:=r;rw[hs]at h;rw[stepT_spec hs];exact topRun_of h
def insAll:List Obj->Nat->BT->Option BT
 | [],_,T=>some T
 |o::os,n,T=>match((T.ins n o).get n).isSome with
  |true=>insAll os (n+1) (T.ins n o)
  |false=>none
theorem insAll_abs {life:Life}:∀{os:List Obj}{n:Nat}{T T':BT},insAll os n T=some T'->(absHeap T' (n+os.length) life).objs.toList=(absHeap T n life).objs.toList++os
 | [],n,T,T',h=>by cases h;simp
 |o::os,n,T,T',h=>by
  unfold insAll at h
  cases hi:((T.ins n o).get n).isSome with
  |false=>rw[hi]at h;cases h
  |true=>
   rw[hi]at h
   have h1:=insAll_abs (life:=life) h
   have h2:=absHeap_ins (life:=life) hi
   have e:n+1+os.length=n+(o::os).length:=by rw[bg];omega
   rw[<-e,h1,h2]
   show((absHeap T n life).objs.push o).toList++os=_
   rw[nP,eE];rfl
theorem insAll_of {s:av}{T:BT}(h:insAll s.heap.objs.toList 0 .nil=some T):(SharedT.mk T s.heap.objs.size s.heap.life s.gens s.drawn s.toks s.os).abs=s:=by
 have h1:=insAll_abs (life:=s.heap.life) h
 have e0:(absHeap .nil 0 s.heap.life).objs.toList=[]:=rfl
 have e1:0+s.heap.objs.toList.length=s.heap.objs.size:=by rw[rh];rfl
 rw[e0,oQ,e1]at h1
 have h2:absHeap T s.heap.objs.size s.heap.life=s.heap:=by
  have h3:(absHeap T s.heap.objs.size s.heap.life).objs=s.heap.objs:=oq.mp h1
  have h4:(absHeap T s.heap.objs.size s.heap.life).life=s.heap.life:=rfl
  generalize absHeap T s.heap.objs.size s.heap.life=A at h3 h4
  cases A
  obtain⟨⟨o,l⟩,_,_,_,_⟩:=s
  subst h3 h4
  rfl
 unfold SharedT.abs
 dsimp only
 rw[h2]
def topFromT (tb:String->Option dk)(p:aJ)(w:aV)(N:Nat)(s₀:av)(T₀:o5):Option av :=
 match s₀.heap.isNs mainGlobals&&s₀.gens.size==0 with
 |true=>(topRunT tb p w s₀.heap.objs.size (s₀.heap.nsMap mainGlobals "__annotations__") N T₀ (topStub p)).bind fun t₁=>match staticsOk (importedModules p.main.body) s₀.heap t₁.abs.heap&&namesBound p t₁.abs.heap&&gensDone t₁.abs&&laidKept s₀.heap t₁.abs.heap with
   |true=>some t₁.abs
   |false=>none
 |false=>none
theorem topFrom_of {tb:String->Option dk}{p:aJ}{w:aV}{N:Nat}{s₀:av}{T₀:o5}{s₁:av}(e:T₀.abs=s₀)(h:topFromT tb p w N s₀ T₀=some s₁):topFrom tb p w N s₀=some s₁:=by
 unfold topFromT at h
 unfold topFrom
 cases hb:s₀.heap.isNs mainGlobals&&s₀.gens.size==0 with
 |false=>rw[hb]at h;cases h
 |true=>
  rw[hb]at h
  dsimp only at h⊢
  obtain⟨t₁,h1,h2⟩:=gu.mp h
  have h3:=topRun_of h1
  rw[e]at h3
  rw[h3]
  exact h2
def openEndsT (tb:String->Option dk)(p:aJ)(w:aV)(N:Nat):Option av:=(fencedOpening tb p w N).bind fun s₀=>(insAll s₀.heap.objs.toList 0 .nil).bind fun T=>topFromT tb p w N s₀ ⟨T,s₀.heap.objs.size,s₀.heap.life,s₀.gens,s₀.drawn,s₀.toks,s₀.os⟩
theorem openEnds_of {tb:String->Option dk}{p:aJ}{w:aV}{N:Nat}{s₁:av}(h:openEndsT tb p w N=some s₁):openEnds tb p w N=some s₁:=by
 obtain⟨s₀,h1,h2⟩:=gu.mp h
 obtain⟨T,h3,h4⟩:=gu.mp h2
 unfold openEnds
 rw[h1]
 exact topFrom_of (insAll_of h3) h4
theorem openMap_of {tb:String->Option dk}{p:aJ}{w:aV}{N:Nat}{α:Type}{F:av->α}{r:α}(h:(openEndsT tb p w N).map F=some r):(openEnds tb p w N).map F=some r:=by
 obtain⟨s₁,h1,h2⟩:=ic.mp h
 rw[openEnds_of h1,fD,h2]
end Kn
open PySem PySem.W PyProof.Rows
namespace Kn
open L2
def kE (P:o8)(x:Str)(t:Nat)(v:ag):DictEntry:=⟨PyData.keyHash P x,.str x t,v⟩
def kF (s:cp)(nm qn:Str)(df kd doc pm:ag)(an:Option ah)(cd ct:ag)(c:ag)(d:Option ah)(sl:Array (Option ag)):Obj :=
 ⟨c,d,.func (dt nm qn (defArgs s) (defBody s) (defScope s) df kd doc pm an cd ct),sl⟩
def kC (n:Str)(a b c:Nat)(i3 i4 i5 i6 i7:Int)(r8:ah)(b9:Bool)(i10:Int)(r11 r13 r14 r15:ah)(i16 i17:Int)(e:Nat):Obj :=
 ⟨.type "code",none,.fields #[.str n a,.str n b,.str (.ofString "/claim/cut.py") c,.int i3 0,.int i4 0,.int i5 0,.int i6 0,.int i7 0,.ref r8,.bool b9,.int i10 0,.ref r11,.none,.ref r13,.ref r14,.ref r15,.int i16 0,.int i17 0,.str (.ofString "/claim/cut.py") e],#[]⟩
def kD (s:cp)(n m:Str)(t:Nat)(c:ah):Obj:=kF s n n .none .none .none (.str m t) none (.ref c) .none (.type "function") none #[]
noncomputable def kfr:o8->Frag:=fun P=>(nat_lit 2,⟨.none,none,.dict #[] 0,#[]⟩)::
 (nat_lit 3,⟨(.type "dict"),none,.dict #[kE P (.ofString "__name__") 165 (.str (.ofString "law_kinnames_k20_lengths") 616),kE P (.ofString "__doc__") 166 .none,kE P (.ofString "__package__") 167 .none,kE P (.ofString "__loader__") 168 (.builtin "__main__.__loader__#opaque"),kE P (.ofString "__spec__") 169 .none,kE P (.ofString "__annotations__") 170 (.ref 6),kE P (.ofString "__builtins__") 171 (.ref 4),kE P (.ofString "__file__") 173 (.str (.ofString "/claim/cut.py") 172),kE P (.ofString "__cached__") 174 .none,kE P (.ofString "LikeError") 206 (.ref 24),kE P (.ofString "NoBook") 222 (.ref 37),kE P (.ofString "NoOrder") 238 (.ref 49),kE P (.ofString "NoName") 254 (.ref 61),kE P (.ofString "NoWish") 270 (.ref 73),kE P (.ofString "NoNumber") 286 (.ref 85),kE P (.ofString "NotMade") 302 (.ref 97),kE P (.ofString "TooShort") 318 (.ref 109),kE P (.ofString "Nothing") 334 (.ref 121),kE P (.ofString "LETTERS") 338 (.str (.ofString "abcdefghijklmnopqrstuvwxyz") 337),kE P (.ofString "MOST_LETTERS") 340 (.int (8) 339),kE P (.ofString "MOST_NAMES") 342 (.int (8) 341),kE P (.ofString "MOST_ORDER") 344 (.int (3) 343),kE P (.ofString "is_name") 350 (.ref 128),kE P (.ofString "is_book") 356 (.ref 133),kE P (.ofString "is_whole") 365 (.ref 140),kE P (.ofString "is_order") 372 (.ref 147),kE P (.ofString "need_book") 379 (.ref 154),kE P (.ofString "need_order") 386 (.ref 161),kE P (.ofString "need_whole") 395 (.ref 168),kE P (.ofString "end_of") 403 (.ref 175),kE P (.ofString "ends_and_letters") 409 (.ref 180),kE P (.ofString "counted_rows") 422 (.ref 187),kE P (.ofString "NOUGHT") 427 (.ref 188),kE P (.ofString "WHOLE") 430 (.ref 189),kE P (.ofString "greatest_divisor") 439 (.ref 196),kE P (.ofString "lowest") 448 (.ref 203),kE P (.ofString "part_in") 456 (.ref 210),kE P (.ofString "ANY") 460 (.str (.ofString "") 459),kE P (.ofString "common_multiple") 468 (.ref 217),kE P (.ofString "whole_weight") 477 (.ref 224),kE P (.ofString "parts_by_rows") 483 (.ref 229),kE P (.ofString "even_parts") 489 (.ref 234),kE P (.ofString "left_of") 497 (.ref 241),kE P (.ofString "may_follow") 505 (.ref 248),kE P (.ofString "next_sums") 521 (.ref 255),kE P (.ofString "sum_along") 527 (.ref 260),kE P (.ofString "need_length") 536 (.ref 267),kE P (.ofString "how_many_by_rows") 545 (.ref 274),kE P (.ofString "how_many") 554 (.ref 281),kE P (.ofString "share_from_to") 560 (.ref 286),kE P (.ofString "share_of_length") 569 (.ref 293),kE P (.ofString "share_up_to") 578 (.ref 300),kE P (.ofString "letters_towards") 584 (.ref 305),kE P (.ofString "closing_ends") 590 (.ref 310),kE P (.ofString "lengthened") 596 (.ref 315),kE P (.ofString "all_made") 609 (.ref 322),kE P (.ofString "lengths") 615 (.ref 327),kE P (.ofString "_law_cell") 625 (.ref 334),kE P (.ofString "_law_drawn") 635 (.ref 341),kE P (.ofString "_law_name") 641 (.ref 346),kE P (.ofString "_law_book") 653 (.ref 353),kE P (.ofString "_law_counts") 666 (.ref 360),kE P (.ofString "_law_row") 676 (.ref 367),kE P (.ofString "_law_lowest") 686 (.ref 374),kE P (.ofString "_law_share") 692 (.ref 379),kE P (.ofString "_law_sum") 702 (.ref 386),kE P (.ofString "_law_made") 708 (.ref 391),kE P (.ofString "_law_refused") 716 (.ref 398),kE P (.ofString "_law_told") 727 (.ref 405),kE P (.ofString "law") 733 (.ref 410)] 70,#[]⟩)::
 (nat_lit 23,⟨(.type "dict"),none,.dict #[kE P (.ofString "__module__") 196 (.str (.ofString "kinnames.errors") 187),kE P (.ofString "__firstlineno__") 200 (.int (2) 199),kE P (.ofString "__static_attributes__") 201 (.ref 22),kE P (.ofString "__weakref__") 203 (.ref 25),kE P (.ofString "__doc__") 204 .none] 3,#[]⟩)::
 (nat_lit 24,⟨(.type "type"),none,.cls ⟨(.ofString "LikeError"),[(.type "ValueError")],[(.ref 24),(.type "ValueError"),(.type "Exception"),(.type "BaseException"),(.type "object")],23,(.ofString "LikeError"),true,[],[(.ref 37),(.ref 49),(.ref 61),(.ref 73),(.ref 85),(.ref 97),(.ref 109),(.ref 121)],false,none,false⟩,#[(some (.ref 15)),none,(some (.str (.ofString "LikeError") 189)),(some (.str (.ofString "LikeError") 197)),(some (.builtin "ValueError.__new__")),(some (.bool true))]⟩)::
 (nat_lit 25,⟨(.type "getset_descriptor"),none,.fields #[(.str (.ofString "__weakref__") 202),(.ref 24),(.builtin "ExceptionGroup.__weakref__"),.none],#[]⟩)::
 (nat_lit 36,⟨(.type "dict"),none,.dict #[kE P (.ofString "__module__") 214 (.str (.ofString "kinnames.errors") 187),kE P (.ofString "__firstlineno__") 218 (.int (4) 217),kE P (.ofString "__static_attributes__") 219 (.ref 35),kE P (.ofString "__doc__") 220 .none] 2,#[]⟩)::
 (nat_lit 37,⟨(.type "type"),none,.cls ⟨(.ofString "NoBook"),[(.ref 24)],[(.ref 37),(.ref 24),(.type "ValueError"),(.type "Exception"),(.type "BaseException"),(.type "object")],36,(.ofString "NoBook"),true,[],[],false,none,false⟩,#[(some (.ref 28)),none,(some (.str (.ofString "NoBook") 207)),(some (.str (.ofString "NoBook") 215)),(some (.builtin "ValueError.__new__")),(some (.bool true))]⟩)::
 (nat_lit 48,⟨(.type "dict"),none,.dict #[kE P (.ofString "__module__") 230 (.str (.ofString "kinnames.errors") 187),kE P (.ofString "__firstlineno__") 234 (.int (6) 233),kE P (.ofString "__static_attributes__") 235 (.ref 47),kE P (.ofString "__doc__") 236 .none] 2,#[]⟩)::
 (nat_lit 49,⟨(.type "type"),none,.cls ⟨(.ofString "NoOrder"),[(.ref 24)],[(.ref 49),(.ref 24),(.type "ValueError"),(.type "Exception"),(.type "BaseException"),(.type "object")],48,(.ofString "NoOrder"),true,[],[],false,none,false⟩,#[(some (.ref 40)),none,(some (.str (.ofString "NoOrder") 223)),(some (.str (.ofString "NoOrder") 231)),(some (.builtin "ValueError.__new__")),(some (.bool true))]⟩)::
 (nat_lit 60,⟨(.type "dict"),none,.dict #[kE P (.ofString "__module__") 246 (.str (.ofString "kinnames.errors") 187),kE P (.ofString "__firstlineno__") 250 (.int (8) 249),kE P (.ofString "__static_attributes__") 251 (.ref 59),kE P (.ofString "__doc__") 252 .none] 2,#[]⟩)::
 (nat_lit 61,⟨(.type "type"),none,.cls ⟨(.ofString "NoName"),[(.ref 24)],[(.ref 61),(.ref 24),(.type "ValueError"),(.type "Exception"),(.type "BaseException"),(.type "object")],60,(.ofString "NoName"),true,[],[],false,none,false⟩,#[(some (.ref 52)),none,(some (.str (.ofString "NoName") 239)),(some (.str (.ofString "NoName") 247)),(some (.builtin "ValueError.__new__")),(some (.bool true))]⟩)::
 (nat_lit 72,⟨(.type "dict"),none,.dict #[kE P (.ofString "__module__") 262 (.str (.ofString "kinnames.errors") 187),kE P (.ofString "__firstlineno__") 266 (.int (10) 265),kE P (.ofString "__static_attributes__") 267 (.ref 71),kE P (.ofString "__doc__") 268 .none] 2,#[]⟩)::
 (nat_lit 73,⟨(.type "type"),none,.cls ⟨(.ofString "NoWish"),[(.ref 24)],[(.ref 73),(.ref 24),(.type "ValueError"),(.type "Exception"),(.type "BaseException"),(.type "object")],72,(.ofString "NoWish"),true,[],[],false,none,false⟩,#[(some (.ref 64)),none,(some (.str (.ofString "NoWish") 255)),(some (.str (.ofString "NoWish") 263)),(some (.builtin "ValueError.__new__")),(some (.bool true))]⟩)::
 (nat_lit 84,⟨(.type "dict"),none,.dict #[kE P (.ofString "__module__") 278 (.str (.ofString "kinnames.errors") 187),kE P (.ofString "__firstlineno__") 282 (.int (12) 281),kE P (.ofString "__static_attributes__") 283 (.ref 83),kE P (.ofString "__doc__") 284 .none] 2,#[]⟩)::
 (nat_lit 85,⟨(.type "type"),none,.cls ⟨(.ofString "NoNumber"),[(.ref 24)],[(.ref 85),(.ref 24),(.type "ValueError"),(.type "Exception"),(.type "BaseException"),(.type "object")],84,(.ofString "NoNumber"),true,[],[],false,none,false⟩,#[(some (.ref 76)),none,(some (.str (.ofString "NoNumber") 271)),(some (.str (.ofString "NoNumber") 279)),(some (.builtin "ValueError.__new__")),(some (.bool true))]⟩)::
 (nat_lit 96,⟨(.type "dict"),none,.dict #[kE P (.ofString "__module__") 294 (.str (.ofString "kinnames.errors") 187),kE P (.ofString "__firstlineno__") 298 (.int (14) 297),kE P (.ofString "__static_attributes__") 299 (.ref 95),kE P (.ofString "__doc__") 300 .none] 2,#[]⟩)::
 (nat_lit 97,⟨(.type "type"),none,.cls ⟨(.ofString "NotMade"),[(.ref 24)],[(.ref 97),(.ref 24),(.type "ValueError"),(.type "Exception"),(.type "BaseException"),(.type "object")],96,(.ofString "NotMade"),true,[],[],false,none,false⟩,#[(some (.ref 88)),none,(some (.str (.ofString "NotMade") 287)),(some (.str (.ofString "NotMade") 295)),(some (.builtin "ValueError.__new__")),(some (.bool true))]⟩)::
 (nat_lit 108,⟨(.type "dict"),none,.dict #[kE P (.ofString "__module__") 310 (.str (.ofString "kinnames.errors") 187),kE P (.ofString "__firstlineno__") 314 (.int (16) 313),kE P (.ofString "__static_attributes__") 315 (.ref 107),kE P (.ofString "__doc__") 316 .none] 2,#[]⟩)::
 (nat_lit 109,⟨(.type "type"),none,.cls ⟨(.ofString "TooShort"),[(.ref 24)],[(.ref 109),(.ref 24),(.type "ValueError"),(.type "Exception"),(.type "BaseException"),(.type "object")],108,(.ofString "TooShort"),true,[],[],false,none,false⟩,#[(some (.ref 100)),none,(some (.str (.ofString "TooShort") 303)),(some (.str (.ofString "TooShort") 311)),(some (.builtin "ValueError.__new__")),(some (.bool true))]⟩)::
 (nat_lit 120,⟨(.type "dict"),none,.dict #[kE P (.ofString "__module__") 326 (.str (.ofString "kinnames.errors") 187),kE P (.ofString "__firstlineno__") 330 (.int (18) 329),kE P (.ofString "__static_attributes__") 331 (.ref 119),kE P (.ofString "__doc__") 332 .none] 2,#[]⟩)::
 (nat_lit 121,⟨(.type "type"),none,.cls ⟨(.ofString "Nothing"),[(.ref 24)],[(.ref 121),(.ref 24),(.type "ValueError"),(.type "Exception"),(.type "BaseException"),(.type "object")],120,(.ofString "Nothing"),true,[],[],false,none,false⟩,#[(some (.ref 112)),none,(some (.str (.ofString "Nothing") 319)),(some (.str (.ofString "Nothing") 327)),(some (.builtin "ValueError.__new__")),(some (.bool true))]⟩)::
 (nat_lit 127,⟨(.type "code"),none,.fields #[(.str (.ofString "is_name") 345),(.str (.ofString "is_name") 346),(.str (.ofString "/claim/cut.py") 347),(.int (25) 0),(.int (1) 0),(.int (0) 0),(.int (0) 0),(.int (3) 0),(.ref 124),(.bool true),(.int (181) 0),(.ref 125),.none,.none,.none,(.ref 126),(.int (348) 0),(.int (25) 0),(.str (.ofString "/claim/cut.py") 349)],#[]⟩)::
 (nat_lit 128,kD (top 15) "is_name" "kinnames.books" 335 127)::
 (nat_lit 132,⟨(.type "code"),none,.fields #[(.str (.ofString "is_book") 351),(.str (.ofString "is_book") 352),(.str (.ofString "/claim/cut.py") 353),(.int (29) 0),(.int (1) 0),(.int (0) 0),(.int (0) 0),(.int (3) 0),(.ref 129),(.bool true),(.int (181) 0),(.ref 130),.none,.none,.none,(.ref 131),(.int (354) 0),(.int (29) 0),(.str (.ofString "/claim/cut.py") 355)],#[]⟩)::
 (nat_lit 133,kD (top 16) "is_book" "kinnames.books" 335 132)::
 (nat_lit 139,kC "is_whole" 357 358 359 33 3 0 0 3 134 true 181 135 136 137 138 363 33 364)::
 (nat_lit 140,kD (top 17) "is_whole" "kinnames.books" 335 139)::
 (nat_lit 146,kC "is_order" 366 367 368 37 1 0 0 3 141 true 181 142 143 144 145 370 37 371)::
 (nat_lit 147,kD (top 18) "is_order" "kinnames.books" 335 146)::
 (nat_lit 153,kC "need_book" 373 374 375 39 1 0 0 3 148 true 181 149 150 151 152 377 39 378)::
 (nat_lit 154,kD (top 19) "need_book" "kinnames.books" 335 153)::
 (nat_lit 160,kC "need_order" 380 381 382 42 1 0 0 3 155 true 181 156 157 158 159 384 42 385)::
 (nat_lit 161,kD (top 20) "need_order" "kinnames.books" 335 160)::
 (nat_lit 167,kC "need_whole" 387 388 389 45 3 0 0 3 162 true 181 163 164 165 166 393 45 394)::
 (nat_lit 168,kD (top 21) "need_whole" "kinnames.books" 335 167)::
 (nat_lit 174,kC "end_of" 396 397 398 48 2 0 0 3 169 true 181 170 171 172 173 401 48 402)::
 (nat_lit 175,kD (top 22) "end_of" "kinnames.books" 335 174)::
 (nat_lit 179,⟨(.type "code"),none,.fields #[(.str (.ofString "ends_and_letters") 404),(.str (.ofString "ends_and_letters") 405),(.str (.ofString "/claim/cut.py") 406),(.int (50) 0),(.int (2) 0),(.int (0) 0),(.int (0) 0),(.int (3) 0),(.ref 176),(.bool true),(.int (181) 0),(.ref 177),.none,.none,.none,(.ref 178),(.int (407) 0),(.int (50) 0),(.str (.ofString "/claim/cut.py") 408)],#[]⟩)::
 (nat_lit 180,kD (top 23) "ends_and_letters" "kinnames.books" 335 179)::
 (nat_lit 186,kC "counted_rows" 410 411 412 52 2 0 0 3 181 true 181 182 183 184 185 420 52 421)::
 (nat_lit 187,kD (top 24) "counted_rows" "kinnames.books" 335 186)::
 (nat_lit 188,⟨(.type "tuple"),none,.seq #[(.int (0) 425),(.int (1) 426)] 0,#[]⟩)::
 (nat_lit 189,⟨(.type "tuple"),none,.seq #[(.int (1) 428),(.int (1) 429)] 0,#[]⟩)::
 (nat_lit 195,kC "greatest_divisor" 431 432 433 62 2 0 0 3 190 true 181 191 192 193 194 437 62 438)::
 (nat_lit 196,kD (top 28) "greatest_divisor" "kinnames.shares" 423 195)::
 (nat_lit 202,kC "lowest" 440 441 442 68 2 0 0 3 197 true 181 198 199 200 201 446 68 447)::
 (nat_lit 203,kD (top 29) "lowest" "kinnames.shares" 423 202)::
 (nat_lit 209,kC "part_in" 449 450 451 71 2 0 0 3 204 true 181 205 206 207 208 454 71 455)::
 (nat_lit 210,kD (top 30) "part_in" "kinnames.shares" 423 209)::
 (nat_lit 216,kC "common_multiple" 461 462 463 77 2 0 0 3 211 true 181 212 213 214 215 466 77 467)::
 (nat_lit 217,kD (top 33) "common_multiple" "kinnames.ways" 457 216)::
 (nat_lit 223,kC "whole_weight" 469 470 471 79 1 0 0 3 218 true 181 219 220 221 222 475 79 476)::
 (nat_lit 224,kD (top 34) "whole_weight" "kinnames.ways" 457 223)::
 (nat_lit 228,⟨(.type "code"),none,.fields #[(.str (.ofString "parts_by_rows") 478),(.str (.ofString "parts_by_rows") 479),(.str (.ofString "/claim/cut.py") 480),(.int (84) 0),(.int (1) 0),(.int (0) 0),(.int (0) 0),(.int (3) 0),(.ref 225),(.bool true),(.int (181) 0),(.ref 226),.none,.none,.none,(.ref 227),(.int (481) 0),(.int (84) 0),(.str (.ofString "/claim/cut.py") 482)],#[]⟩)::
 (nat_lit 229,kD (top 35) "parts_by_rows" "kinnames.ways" 457 228)::
 (nat_lit 233,⟨(.type "code"),none,.fields #[(.str (.ofString "even_parts") 484),(.str (.ofString "even_parts") 485),(.str (.ofString "/claim/cut.py") 486),(.int (89) 0),(.int (1) 0),(.int (0) 0),(.int (0) 0),(.int (3) 0),(.ref 230),(.bool true),(.int (181) 0),(.ref 231),.none,.none,.none,(.ref 232),(.int (487) 0),(.int (89) 0),(.str (.ofString "/claim/cut.py") 488)],#[]⟩)::
 (nat_lit 234,kD (top 36) "even_parts" "kinnames.ways" 457 233)::
 (nat_lit 240,kC "left_of" 490 491 492 94 2 0 0 3 235 true 181 236 237 238 239 495 94 496)::
 (nat_lit 241,kD (top 37) "left_of" "kinnames.ways" 457 240)::
 (nat_lit 247,kC "may_follow" 498 499 500 96 2 0 0 3 242 true 181 243 244 245 246 503 96 504)::
 (nat_lit 248,kD (top 38) "may_follow" "kinnames.ways" 457 247)::
 (nat_lit 254,kC "next_sums" 506 507 508 98 4 0 0 3 249 true 181 250 251 252 253 519 98 520)::
 (nat_lit 255,kD (top 39) "next_sums" "kinnames.ways" 457 254)::
 (nat_lit 259,⟨(.type "code"),none,.fields #[(.str (.ofString "sum_along") 522),(.str (.ofString "sum_along") 523),(.str (.ofString "/claim/cut.py") 524),(.int (106) 0),(.int (4) 0),(.int (0) 0),(.int (0) 0),(.int (3) 0),(.ref 256),(.bool true),(.int (181) 0),(.ref 257),.none,.none,.none,(.ref 258),(.int (525) 0),(.int (106) 0),(.str (.ofString "/claim/cut.py") 526)],#[]⟩)::
 (nat_lit 260,kD (top 40) "sum_along" "kinnames.ways" 457 259)::
 (nat_lit 266,kC "need_length" 530 531 532 112 1 0 0 3 261 true 181 262 263 264 265 534 112 535)::
 (nat_lit 267,kD (top 42) "need_length" "kinnames.lengths" 528 266)::
 (nat_lit 273,kC "how_many_by_rows" 537 538 539 114 3 0 0 3 268 true 181 269 270 271 272 543 114 544)::
 (nat_lit 274,kD (top 43) "how_many_by_rows" "kinnames.lengths" 528 273)::
 (nat_lit 280,kC "how_many" 546 547 548 116 3 0 0 3 275 true 181 276 277 278 279 552 116 553)::
 (nat_lit 281,kD (top 44) "how_many" "kinnames.lengths" 528 280)::
 (nat_lit 285,⟨(.type "code"),none,.fields #[(.str (.ofString "share_from_to") 555),(.str (.ofString "share_from_to") 556),(.str (.ofString "/claim/cut.py") 557),(.int (121) 0),(.int (4) 0),(.int (0) 0),(.int (0) 0),(.int (3) 0),(.ref 282),(.bool true),(.int (181) 0),(.ref 283),.none,.none,.none,(.ref 284),(.int (558) 0),(.int (121) 0),(.str (.ofString "/claim/cut.py") 559)],#[]⟩)::
 (nat_lit 286,kD (top 45) "share_from_to" "kinnames.lengths" 528 285)::
 (nat_lit 292,kC "share_of_length" 561 562 563 127 3 0 0 3 287 true 181 288 289 290 291 567 127 568)::
 (nat_lit 293,kD (top 46) "share_of_length" "kinnames.lengths" 528 292)::
 (nat_lit 299,kC "share_up_to" 570 571 572 132 3 0 0 3 294 true 181 295 296 297 298 576 132 577)::
 (nat_lit 300,kD (top 47) "share_up_to" "kinnames.lengths" 528 299)::
 (nat_lit 304,⟨(.type "code"),none,.fields #[(.str (.ofString "letters_towards") 579),(.str (.ofString "letters_towards") 580),(.str (.ofString "/claim/cut.py") 581),(.int (137) 0),(.int (4) 0),(.int (0) 0),(.int (0) 0),(.int (3) 0),(.ref 301),(.bool true),(.int (181) 0),(.ref 302),.none,.none,.none,(.ref 303),(.int (582) 0),(.int (137) 0),(.str (.ofString "/claim/cut.py") 583)],#[]⟩)::
 (nat_lit 305,kD (top 48) "letters_towards" "kinnames.lengths" 528 304)::
 (nat_lit 309,⟨(.type "code"),none,.fields #[(.str (.ofString "closing_ends") 585),(.str (.ofString "closing_ends") 586),(.str (.ofString "/claim/cut.py") 587),(.int (139) 0),(.int (3) 0),(.int (0) 0),(.int (0) 0),(.int (3) 0),(.ref 306),(.bool true),(.int (181) 0),(.ref 307),.none,.none,.none,(.ref 308),(.int (588) 0),(.int (139) 0),(.str (.ofString "/claim/cut.py") 589)],#[]⟩)::
 (nat_lit 310,kD (top 49) "closing_ends" "kinnames.lengths" 528 309)::
 (nat_lit 314,⟨(.type "code"),none,.fields #[(.str (.ofString "lengthened") 591),(.str (.ofString "lengthened") 592),(.str (.ofString "/claim/cut.py") 593),(.int (145) 0),(.int (4) 0),(.int (0) 0),(.int (0) 0),(.int (3) 0),(.ref 311),(.bool true),(.int (181) 0),(.ref 312),.none,.none,.none,(.ref 313),(.int (594) 0),(.int (145) 0),(.str (.ofString "/claim/cut.py") 595)],#[]⟩)::
 (nat_lit 315,kD (top 50) "lengthened" "kinnames.lengths" 528 314)::
 (nat_lit 321,kC "all_made" 597 598 599 153 3 0 0 3 316 true 181 317 318 319 320 607 153 608)::
 (nat_lit 322,kD (top 51) "all_made" "kinnames.lengths" 528 321)::
 (nat_lit 326,⟨(.type "code"),none,.fields #[(.str (.ofString "lengths") 610),(.str (.ofString "lengths") 611),(.str (.ofString "/claim/cut.py") 612),(.int (163) 0),(.int (2) 0),(.int (0) 0),(.int (0) 0),(.int (3) 0),(.ref 323),(.bool true),(.int (181) 0),(.ref 324),.none,.none,.none,(.ref 325),(.int (613) 0),(.int (163) 0),(.str (.ofString "/claim/cut.py") 614)],#[]⟩)::
 (nat_lit 327,kD (top 52) "lengths" "kinnames.lengths" 528 326)::
 (nat_lit 333,kC "_law_cell" 618 619 620 169 2 0 0 3 328 true 181 329 330 331 332 623 169 624)::
 (nat_lit 334,kD (top 54) "_law_cell" "law_kinnames_k20_lengths" 616 333)::
 (nat_lit 340,kC "_law_drawn" 626 627 628 173 3 0 0 3 335 true 181 336 337 338 339 633 173 634)::
 (nat_lit 341,kD (top 55) "_law_drawn" "law_kinnames_k20_lengths" 616 340)::
 (nat_lit 345,⟨(.type "code"),none,.fields #[(.str (.ofString "_law_name") 636),(.str (.ofString "_law_name") 637),(.str (.ofString "/claim/cut.py") 638),(.int (177) 0),(.int (3) 0),(.int (0) 0),(.int (0) 0),(.int (3) 0),(.ref 342),(.bool true),(.int (181) 0),(.ref 343),.none,.none,.none,(.ref 344),(.int (639) 0),(.int (177) 0),(.str (.ofString "/claim/cut.py") 640)],#[]⟩)::
 (nat_lit 346,kD (top 56) "_law_name" "law_kinnames_k20_lengths" 616 345)::
 (nat_lit 352,kC "_law_book" 642 643 644 181 4 0 0 3 347 true 181 348 349 350 351 651 181 652)::
 (nat_lit 353,kD (top 57) "_law_book" "law_kinnames_k20_lengths" 616 352)::
 (nat_lit 359,kC "_law_counts" 654 655 656 186 2 0 0 3 354 true 181 355 356 357 358 664 186 665)::
 (nat_lit 360,kD (top 58) "_law_counts" "law_kinnames_k20_lengths" 616 359)::
 (nat_lit 366,kC "_law_row" 667 668 669 196 3 0 0 3 361 true 181 362 363 364 365 674 196 675)::
 (nat_lit 367,kD (top 59) "_law_row" "law_kinnames_k20_lengths" 616 366)::
 (nat_lit 373,kC "_law_lowest" 677 678 679 199 2 0 0 3 368 true 181 369 370 371 372 684 199 685)::
 (nat_lit 374,kD (top 60) "_law_lowest" "law_kinnames_k20_lengths" 616 373)::
 (nat_lit 378,⟨(.type "code"),none,.fields #[(.str (.ofString "_law_share") 687),(.str (.ofString "_law_share") 688),(.str (.ofString "/claim/cut.py") 689),(.int (205) 0),(.int (3) 0),(.int (0) 0),(.int (0) 0),(.int (3) 0),(.ref 375),(.bool true),(.int (181) 0),(.ref 376),.none,.none,.none,(.ref 377),(.int (690) 0),(.int (205) 0),(.str (.ofString "/claim/cut.py") 691)],#[]⟩)::
 (nat_lit 379,kD (top 61) "_law_share" "law_kinnames_k20_lengths" 616 378)::
 (nat_lit 385,kC "_law_sum" 693 694 695 213 1 0 0 3 380 true 181 381 382 383 384 700 213 701)::
 (nat_lit 386,kD (top 62) "_law_sum" "law_kinnames_k20_lengths" 616 385)::
 (nat_lit 390,⟨(.type "code"),none,.fields #[(.str (.ofString "_law_made") 703),(.str (.ofString "_law_made") 704),(.str (.ofString "/claim/cut.py") 705),(.int (219) 0),(.int (3) 0),(.int (0) 0),(.int (0) 0),(.int (3) 0),(.ref 387),(.bool true),(.int (181) 0),(.ref 388),.none,.none,.none,(.ref 389),(.int (706) 0),(.int (219) 0),(.str (.ofString "/claim/cut.py") 707)],#[]⟩)::
 (nat_lit 391,kD (top 63) "_law_made" "law_kinnames_k20_lengths" 616 390)::
 (nat_lit 397,kC "_law_refused" 709 710 711 231 1 0 0 3 392 true 181 393 394 395 396 714 231 715)::
 (nat_lit 398,kD (top 64) "_law_refused" "law_kinnames_k20_lengths" 616 397)::
 (nat_lit 404,kC "_law_told" 717 718 719 238 4 0 0 3 399 true 181 400 401 402 403 725 238 726)::
 (nat_lit 405,kD (top 65) "_law_told" "law_kinnames_k20_lengths" 616 404)::
 (nat_lit 409,⟨(.type "code"),none,.fields #[(.str (.ofString "law") 728),(.str (.ofString "law") 729),(.str (.ofString "/claim/cut.py") 730),(.int (245) 0),(.int (1) 0),(.int (0) 0),(.int (0) 0),(.int (3) 0),(.ref 406),(.bool true),(.int (181) 0),(.ref 407),.none,.none,.none,(.ref 408),(.int (731) 0),(.int (245) 0),(.str (.ofString "/claim/cut.py") 732)],#[]⟩)::
 (nat_lit 410,kD (top 66) "law" "law_kinnames_k20_lengths" 616 409)::[]
def kas:List ah:=[2,3,23,24,25,36,37,48,49,60,61,72,73,84,85,96,97,108,109,120,121,127,128,132,133,139,140,146,147,153,154,160,161,167,168,174,175,179,180,186,187,188,189,195,196,202,203,209,210,216,217,223,224,228,229,233,234,240,241,247,248,254,255,259,260,266,267,273,274,280,281,285,286,292,293,299,300,304,305,309,310,314,315,321,322,326,327,333,334,340,341,345,346,352,353,359,360,366,367,373,374,378,379,385,386,390,391,397,398,404,405,409,410]
def kq:aJ:=view bq [1,2,3,4,5,6,7,8,9,11,12,13,14,15,16,17,18,19,20,21,22,23,24,26,27,28,29,30,32,33,34,35,36,37,38,39,40,42,43,44,45,46,47,48,49,50,51,52,54,55,56,57,58,59,60,61,62,63,64,65,66]
def klo:List Str:=[]
theorem kas_e:∀P,kas=(kfr P).map (·.1):=fun _=>by kernel_rfl
noncomputable def hl0 (w:aV):=(openEndsT treeTable bq w 6818).map (fun s=>(seen ((recsOf kq).map (·.name)) (ownsOf kq) [] {s with gens:=#[]},s.heap.bltView))
noncomputable def hr0 (w:aV):=some (expectedOf kq,bltViewBooted)
theorem hl0_e:hl0=hl0:=rfl
theorem hr0_e:hr0=hr0:=rfl
noncomputable def hl1 (w:aV):=(openEndsT treeTable bq w 6818).map (fun s=>((s.heap.keysOk (looseW kq klo) ((recsOf kq).map (·.name)) ((litsOf kq).map (·.1)) ((clssOf kq (looseW kq klo)).map (·.name))&&s.heap.accountedOkI (importedModules bq.main.body)&&s.heap.isNs mainGlobals&&s.heap.isNs builtinsNs&&tablesOk kq s.heap&& (xlAt kq [] s&&recOk [] s)&& (if true=true then s.gens.size==0 else !leftWithCleanup s.gens))))
noncomputable def hr1 (w:aV):=some (true)
theorem hl1_e:hl1=hl1:=rfl
noncomputable def hl2 (w:aV):=(openEndsT treeTable bq w 6818).map (fun s=>(tabsOk kq s,pinSeenD kq (drecsOf kq) s,plainSeenE kq (looseW kq klo) s,plainSeenD kq klo s))
noncomputable def hr2 (w:aV):=some (true,pinGoodD (drecsOf kq),plainGoodE kq (looseW kq klo),plainGoodD kq klo)
theorem hl2_e:hl2=hl2:=rfl
theorem hr2_e:hr2=hr2:=rfl
noncomputable def hl3 (w:aV):=(openEndsT treeTable bq w 6818).map (fun s=>(wideSeen kq s,clsSeenW kq klo s))
noncomputable def hr3 (w:aV):=some (wideGood kq,clsGoodW kq klo)
theorem hl3_e:hl3=hl3:=rfl
theorem hr3_e:hr3=hr3:=rfl
noncomputable def hl4 (w:aV):=(openEndsT treeTable bq w 6818).map (fun s=>(kas.map s.heap.get?))
noncomputable def hr4 (w:aV):=some ((kfr w.params).map fun p=>some p.2)
theorem hl4_e:hl4=hl4:=rfl
theorem hr4_e:hr4=hr4:=rfl
end Kn
name_quick hl0Q for Kn.hl0 by Kn.hl0_e
name_quick hr0Q for Kn.hr0 by Kn.hr0_e
theorem Kn.hq0 (w:aV):PySem.W.Fast.hl0Q w=PySem.W.Fast.hr0Q w:=by kernel_rfl
theorem Kn.hx0 (w:aV):Kn.hl0 w=Kn.hr0 w:=((congrFun PySem.W.Fast.hl0Q_eq w).trans (Kn.hq0 w)).trans (congrFun PySem.W.Fast.hr0Q_eq w).symm
name_quick hl1Q for Kn.hl1 by Kn.hl1_e
theorem Kn.hq1 (w:aV):PySem.W.Fast.hl1Q w=Kn.hr1 w:=by kernel_rfl
theorem Kn.hx1 (w:aV):Kn.hl1 w=Kn.hr1 w:=(congrFun PySem.W.Fast.hl1Q_eq w).trans (Kn.hq1 w)
name_quick hl2Q for Kn.hl2 by Kn.hl2_e
name_quick hr2Q for Kn.hr2 by Kn.hr2_e
theorem Kn.hq2 (w:aV):PySem.W.Fast.hl2Q w=PySem.W.Fast.hr2Q w:=by kernel_rfl
theorem Kn.hx2 (w:aV):Kn.hl2 w=Kn.hr2 w:=((congrFun PySem.W.Fast.hl2Q_eq w).trans (Kn.hq2 w)).trans (congrFun PySem.W.Fast.hr2Q_eq w).symm
name_quick hl3Q for Kn.hl3 by Kn.hl3_e
name_quick hr3Q for Kn.hr3 by Kn.hr3_e
theorem Kn.hq3 (w:aV):PySem.W.Fast.hl3Q w=PySem.W.Fast.hr3Q w:=by kernel_rfl
theorem Kn.hx3 (w:aV):Kn.hl3 w=Kn.hr3 w:=((congrFun PySem.W.Fast.hl3Q_eq w).trans (Kn.hq3 w)).trans (congrFun PySem.W.Fast.hr3Q_eq w).symm
name_quick hl4Q for Kn.hl4 by Kn.hl4_e
name_quick hr4Q for Kn.hr4 by Kn.hr4_e
theorem Kn.hq4 (w:aV):PySem.W.Fast.hl4Q w=PySem.W.Fast.hr4Q w:=by kernel_rfl
theorem Kn.hx4 (w:aV):Kn.hl4 w=Kn.hr4 w:=((congrFun PySem.W.Fast.hl4Q_eq w).trans (Kn.hq4 w)).trans (congrFun PySem.W.Fast.hr4Q_eq w).symm
theorem Kn.hl:LeftO bq Kn.kq Kn.klo (fun s=>xlAt Kn.kq [] s&&recOk [] s) (Hook.obs (kHook Kn.kfr Kn.kas Kn.kas_e)) (Hook.val (kHook Kn.kfr Kn.kas Kn.kas_e)) 6818:=fun w=>by
 refine Kn.openMap_of ?_
 obtain⟨s,e,x0⟩:=ic.mp (Kn.hx0 w)
 have y1:=Kn.hx1 w
 unfold Kn.hl1 at y1
 rw[e]at y1
 have x1:=ay y1
 have y2:=Kn.hx2 w
 unfold Kn.hl2 at y2
 rw[e]at y2
 have x2:=ay y2
 have y3:=Kn.hx3 w
 unfold Kn.hl3 at y3
 rw[e]at y3
 have x3:=ay y3
 have y4:=Kn.hx4 w
 unfold Kn.hl4 at y4
 rw[e]at y4
 have x4:=ay y4
 obtain⟨a1,z0_0⟩:=cD x0
 have a2:=z0_0
 have a3:=x1
 obtain⟨a4,z2_0⟩:=cD x2
 obtain⟨a5,z2_1⟩:=cD z2_0
 obtain⟨a6,z2_2⟩:=cD z2_1
 have a7:=z2_2
 obtain⟨a8,z3_0⟩:=cD x3
 have a9:=z3_0
 have aK:=x4
 rw[e]
 exact congrArg some (fN (fN a1 (fN a2 (fN a3 (fN a4 (fN a5 (fN a6 (fN a7 (fN a8 a9)))))))) aK)
end
section
namespace L2
open PySem PySem.Spec PyProof.Rows
abbrev zK:=Sum Int Str
def jR:zK->ag->Bool
 | .inl k,v=>eG k v
 | .inr x,v=>iJ x v
def zJC (w:aV):zK->Int
 | .inl k=>hashInt k
 | .inr x=>hashStr w x
theorem qB:∀{k:zK}{v:ag},jR k v=true->(∃i t,k=Sum.inl i/\v=Value.int i t)\/(∃x t,k=Sum.inr x/\v=Value.str x t)
 | .inl i,v,h=>by
  obtain⟨t,e⟩:=Value.isInt_shape (k:=i) (v:=v) h
  exact .inl ⟨i,t,rfl,e⟩
 | .inr x,v,h=>by
  obtain⟨t,e⟩:=m8 (x:=x) (v:=v) h
  exact .inr ⟨x,t,rfl,e⟩
theorem zJD (i:Int)(t:Tok):jR (.inl i) (.int i t)=true:=by simp[jR,eG]
theorem zJE (x:Str)(t:Tok):jR (.inr x) (.str x t)=true:=by simp[jR,iJ]
theorem zJF (a b:Int):decide ((Sum.inl a:zK)=Sum.inl b)=(a==b):=by
 by_cases e:a=b
 ·subst e;simp
 ·have h:¬(Sum.inl a:zK)=Sum.inl b:=fun q=>e (rP q)
  rw[decide_eq_false h]
  exact(beq_eq_false_iff_ne.mpr e).symm
theorem zJG (a b:Str):decide ((Sum.inr a:zK)=Sum.inr b)=decide (a=b):=by
 by_cases e:a=b
 ·subst e;simp
 ·have h:¬(Sum.inr a:zK)=Sum.inr b:=fun q=>e (mI q)
  rw[decide_eq_false h,decide_eq_false e]
theorem zJH (a:Int)(b:Str):decide ((Sum.inl a:zK)=Sum.inr b)=false:=decide_eq_false (fun q=>nomatch q)
theorem zJI (a:Str)(b:Int):decide ((Sum.inr a:zK)=Sum.inl b)=false:=decide_eq_false (fun q=>nomatch q)
def vF (prog:aJ)(w:aV):pV prog w zK where
 is:=jR
 hash:=zJC w
 inj:=fun v a b ha hb=>by
  rcases qB ha with⟨i,t,rfl,rfl⟩|⟨x,t,rfl,rfl⟩
  ·rcases qB hb with⟨j,u,rfl,e⟩|⟨y,u,rfl,e⟩
   ·injection e with e1 _;rw[e1]
   ·exact nomatch e
  ·rcases qB hb with⟨j,u,rfl,e⟩|⟨y,u,rfl,e⟩
   ·exact nomatch e
   ·injection e with e1 _;rw[e1]
 byValue:=fun k v h=>by
  rcases qB h with⟨i,t,rfl,rfl⟩|⟨x,t,rfl,rfl⟩<;>rfl
 pyHash:=fun hv h=>by
  rcases qB hv with⟨i,t,rfl,rfl⟩|⟨x,t,rfl,rfl⟩
  ·exact wpAny_pyHash_int h
  ·exact ot h
 eqBool:=fun hu hv h=>by
  rcases qB hu with⟨i,t,rfl,rfl⟩|⟨x,t,rfl,rfl⟩
  ·rcases qB hv with⟨j,u,rfl,rfl⟩|⟨y,u,rfl,rfl⟩
   ·rw[zJF]at h;exact wpAny_eqBool_int h
   ·rw[zJH]at h;exact nF i t y u _ _ _ _ h
  ·rcases qB hv with⟨j,u,rfl,rfl⟩|⟨y,u,rfl,rfl⟩
   ·rw[zJI]at h;exact nG x t j u _ _ _ _ h
   ·rw[zJG]at h;exact ou h
 «strs»:=fun k x t v h=>by
  rcases qB h with⟨i,u,rfl,e⟩|⟨y,u,rfl,e⟩
  ·exact nomatch e
  ·injection e with e1 _
   subst e1
   cases v<;>rfl
abbrev yR:=Sum Str Bool
def zEo:yR->ag->Bool
 | .inl x,v=>iJ x v
 | .inr b,v=>v==Value.bool b
theorem jS:∀{k:yR}{v:ag},zEo k v=true->(∃x t,k=Sum.inl x/\v=Value.str x t)\/(∃b,k=Sum.inr b/\v=Value.bool b)
 | .inl x,v,h=>by
  obtain⟨t,e⟩:=m8 (x:=x) (v:=v) h
  exact .inl ⟨x,t,rfl,e⟩
 | .inr b,v,h=>.inr ⟨b,rfl,eq_of_beq h⟩
def tkH (w:aV):yR->Int
 | .inl x=>hashStr w x
 | .inr b=>reduceHash (if b then 1 else 0)
theorem zJJ {prog:aJ}{w:aV}{A:bM}{E:ag->av->Prop}{s:av}{b:Bool}{Q:Int->av->Prop}(h:Q (reduceHash (if b then 1 else 0)) {s with toks:=s.toks+1}) :
  wpAny (model prog w) A (pyHash (.bool b)) Q E s:=by
 refine PySem.W.pyHash_slot (T :="bool") rfl F.slot_bool_hash F.entry_int_hash (F.args_int_hash_1 _) (by decide) (.inl (by cases b<;>rfl)) ?_
 unfold dk.«int.__hash__»
 cases b
 ·wp_walk
  exact⟨_,_,rfl,h⟩
 ·wp_walk
  exact⟨_,_,rfl,h⟩
def kT (prog:aJ)(w:aV):pV prog w yR where
 is:=zEo
 hash:=tkH w
 inj:=fun v a b ha hb=>by
  rcases jS ha with⟨x,t,rfl,rfl⟩|⟨c,rfl,rfl⟩
  ·rcases jS hb with⟨y,u,rfl,e⟩|⟨d,rfl,e⟩
   ·injection e with e1 _;rw[e1]
   ·exact nomatch e
  ·rcases jS hb with⟨y,u,rfl,e⟩|⟨d,rfl,e⟩
   ·exact nomatch e
   ·injection e with e1;rw[e1]
 byValue:=fun k v h=>by
  rcases jS h with⟨x,t,rfl,rfl⟩|⟨c,rfl,rfl⟩<;>rfl
 pyHash:=fun hv h=>by
  rcases jS hv with⟨x,t,rfl,rfl⟩|⟨c,rfl,rfl⟩
  ·exact ot h
  ·exact zJJ h
 eqBool:=fun hu hv h=>by
  rcases jS hu with⟨x,t,rfl,rfl⟩|⟨c,rfl,rfl⟩
  ·rcases jS hv with⟨y,u,rfl,rfl⟩|⟨d,rfl,rfl⟩
   ·have e:decide ((Sum.inl x:yR)=Sum.inl y)=decide (x=y):=by
     by_cases q:x=y
     ·subst q;simp
     ·rw[decide_eq_false q,decide_eq_false fun z=>q (rP z)]
    rw[e]at h;exact ou h
   ·rw[decide_eq_false (fun q=>nomatch q)]at h;exact m9 x t d _ _ _ _ h
  ·rcases jS hv with⟨y,u,rfl,rfl⟩|⟨d,rfl,rfl⟩
   ·rw[decide_eq_false (fun q=>nomatch q)]at h;exact nc c y u _ _ _ _ h
   ·refine iK c d _ _ _ _ ?_
    have e:decide ((Sum.inr c:yR)=Sum.inr d)=(c==d):=by cases c<;>cases d<;>rfl
    rw[<-e];exact h
 «strs»:=fun k x t v h=>by
  rcases jS h with⟨y,u,rfl,e⟩|⟨d,rfl,e⟩
  ·injection e with e1 _
   subst e1
   cases v<;>rfl
  ·exact nomatch e
theorem zJK (prog:aJ)(w:aV)(k:zK)(v:ag):(vF prog w).is k v=jR k v:=rfl
theorem zJL (prog:aJ)(w:aV)(i:Int)(t:Tok):(vF prog w).is (.inl i) (.int i t)=true:=zJD i t
theorem zEp (prog:aJ)(w:aV)(x:Str)(t:Tok):(vF prog w).is (.inr x) (.str x t)=true:=zJE x t
inductive V where
 |non|bl (b:Bool)|int (i:Int)|str (x:Str)|byt (b:Array UInt8)|flt (b:UInt64)|ref (a:ah)|ty (n:String)
 deriving DecidableEq
def zQ:V->ag->Prop
 | .non,u=>u=Value.none
 | .bl b,u=>u=Value.bool b
 | .int i,u=>∃t,u=Value.int i t
 | .str x,u=>∃t,u=Value.str x t
 | .byt b,u=>∃t,u=Value.bytes b t
 | .flt b,u=>∃t,u=Value.float b t
 | .ref a,u=>u=Value.ref a
 | .ty n,u=>u=Value.type n
abbrev zM:List V->List ag->Prop:=nH zQ
theorem zM.length {xs:List V}{a:List ag}(r:zM xs a):xs.length=a.length:=cO r
theorem zM.get:∀{xs:List V}{a:List ag}{i:Nat}{x:V},zM xs a->xs[i]?=some x->∃u,a[i]?=some u/\zQ x u
 |_,_,_,_,.nil,e=>by simp at e
 |_,_,0,_,.cons r _,e=>by simp at e;subst e;exact⟨_,rfl,r⟩
 |_,_,i+1,x,.cons _ t,e=>by
  obtain⟨u,b,c⟩:=zM.get (i:=i) (x:=x) t (by simpa using e)
  exact⟨u,by simpa using b,c⟩
theorem zM.set {x:V}{u:ag}(r:zQ x u):∀{xs:List V}{a:List ag} (i:Nat),zM xs a->zM (xs.set i x) (a.set i u)
 |_,_,_,.nil=>.nil
 |_,_,0,.cons _ t=>.cons r t
 |_,_,i+1,.cons q t=>.cons q (zM.set r i t)
theorem zM.append:∀{xs ys:List V}{a b:List ag},zM xs a->zM ys b->zM (xs++ys) (a++b)
 |_,_,_,_,.nil,s=>s
 |_,_,_,_,.cons r t,s=>.cons r (zM.append t s)
theorem zM.take:∀{xs:List V}{a:List ag} (n:Nat),zM xs a->zM (xs.take n) (a.take n)
 |_,_,0,_=>.nil
 |_,_,_+1,.nil=>.nil
 |_,_,n+1,.cons r t=>.cons r (zM.take n t)
theorem zM.drop:∀{xs:List V}{a:List ag} (n:Nat),zM xs a->zM (xs.drop n) (a.drop n)
 |_,_,0,r=>r
 |_,_,_+1,.nil=>.nil
 |_,_,n+1,.cons _ t=>zM.drop n t
def uW:Option V->Option ag->Prop
 |some v,some u=>zQ v u
 |none,none=>True
 |_,_=>False
def KV {κ:Type}:List (κ×V)->List (κ×ag)->Prop:=nH fun(p:κ×V) (q:κ×ag)=>p.1=q.1/\zQ p.2 q.2
def kV:zK->V
 | .inl i=>.int i
 | .inr x=>.str x
def jT:yR->V
 | .inl x=>.str x
 | .inr b=>.bl b
inductive HO where
 |lst (xs:List V)
 |tup (xs:List V)
 |dK (kvs:List (zK×V))|dT (kvs:List (List yR×V))
 |set (S:Int->Bool) (n:Nat)
 |ins (C dx:ah) (fs:List (Str×V))
 |own (x:ah)
 |xd (fs:List (Str×V))
 |met (f x:ah)
 |rng (lo hi:Int)
 |frz (o:Obj) (u:HO)
 |tbl (ps:Array ag)
 |ext (φ:bC->Prop)
abbrev Hp:=ah->Option HO
def upd (H:Hp)(a:ah)(o:HO):Hp:=fun b=>if b=a then some o else H b
theorem zF {H:Hp}{a:ah}{o:HO}:upd H a o a=some o:=by unfold upd;rw[if_pos rfl]
theorem zG {H:Hp}{a b:ah}{o:HO}(h:b≠a):upd H a o b=H b:=by unfold upd;rw[if_neg h]
theorem zAe {H:Hp}{a b:ah}{o u:HO}(h:H a=some o)(h':H b=some u)(d:o≠u):a≠b:=by
 intro e;subst e;rw[h]at h';exact d (ay h')
theorem yI {H:Hp}{a b:ah}{o:HO}(h:H a=some o)(h':H b=none):a≠b:=by
 intro e;subst e;rw[h]at h';cases h'
section
variable(P:aJ)(w:aV)
def yP (H:Hp)(h:bC)(a:ah):HO->Prop
 | .lst xs=>xs.length<=sizeLine/\∃(its:List ag) (n:Nat),zM xs its/\h.get? a=some {cls:=.type "list",data:=.seq its.toArray n}
 | .tup xs=>xs.length<=sizeLine/\∃its:List ag,zM xs its/\IsTup h a its.toArray
 | .dK kvs=>kvs.length<=sizeLine/\(a==sysModules)=false/\∃vs,KV kvs vs/\h.DictOf (vF P w) a vs
 | .dT kvs=>kvs.length<=sizeLine/\(a==sysModules)=false/\∃xs:List (List yR×ah×ag),
   nH (fun(p:List yR×V) (q:List yR×ah×ag)=>p.1=q.1/\H q.2.1=some (.tup (p.1.map jT))/\zQ p.2 q.2.2) kvs xs/\
   ∃o es ep,h.get? a=some o/\o.ExactDict/\o.data=.dict es ep/\es.toList=xs.map (entryOfKey (tupleKind (kT P w)))/\(xs.map (·.1)).Nodup
 | .set S n=>h.SetOf (intKind P w) a S n
 | .ins C dx fs=>H dx=some (.own a)/\fs.length<=1000/\dx≠a/\h.get? a=some (me C dx)/\
   ∃mA,h.Ns1 dx mA/\(∀f,uW (fs.lookup f) (mA f))/\ri mA (fs.map (·.1))
 | .own _=>∃o,h.get? a=some o
 | .xd fs=>∃mA,h.Ns1 a mA/\∀f,uW (fs.lookup f) (mA f)
 | .rng lo hi=>∃t u v,h.get? a=some {cls:=.type "range",data:=.fields #[.int lo t,.int hi u,.int 1 v]}
 | .frz o u=>h.get? a=some o/\yP H h a u
 | .tbl ps=>h.get? a=some {cls:=.none,data:=.fields ps}
 | .met f x=>h.get? a=some (kh (.ref f) (.ref x))
 | .ext φ=>φ h/\(∃o,h.get? a=some o)/\∀h1 h2:bC,φ h1->(∀o,h1.get? a=some o->h2.get? a=some o)->φ h2
def z9 (H:Hp)(h:bC):Prop:=∀a o,H a=some o->yP P w H h a o
end
section
variable{P:aJ}{w:aV}{H H':Hp}{h h':bC}{a:ah}{o:HO}
theorem yP.lt (x:yP P w H h a o):a<h.objs.size:=by
 cases o with
 |lst xs=>obtain⟨_,_,_,_,e⟩:=x;exact aI e
 |tup xs=>obtain⟨_,_,_,p⟩:=x;exact p.lt
 |dK kvs=>obtain⟨_,_,_,_,o,_,_,e,_⟩:=x;exact aI e
 |dT kvs=>obtain⟨_,_,_,_,o,_,_,e,_⟩:=x;exact aI e
 |set S n=>obtain⟨o,_,_,_,e,_⟩:=x;exact aI e
 |ins C b fs=>obtain⟨_,_,_,e,_⟩:=x;exact aI e
 |own y=>obtain⟨_,e⟩:=x;exact aI e
 |xd fs=>obtain⟨_,⟨_,_,_,e,_⟩,_⟩:=x;exact aI e
 |rng lo hi=>obtain⟨_,_,_,e⟩:=x;exact aI e
 |frz c u=>obtain⟨e,_⟩:=x;exact aI e
 |tbl ps=>exact aI (show h.get? a=some _ from x)
 |met f y=>exact aI (show h.get? a=some _ from x)
 |ext φ=>obtain⟨_,⟨_,e⟩,_⟩:=x;exact aI e
theorem Paired.mapP {α β:Type}{F G:α->β->Prop}:∀{l₁:List α}{c:List β},nH F l₁ c->(∀a b,F a b->G a b)->nH G l₁ c
 |_,_,.nil,_=>.nil
 |_,_,.cons r t,f=>.cons (f _ _ r) (Paired.mapP t f)
theorem yP.stay (x:yP P w H h a o)(k:∀b u,(b=a\/H b=some (.own a))->h.get? b=some u->h'.get? b=some u)
  (l:∀b,H b=some (.own a)->H' b=some (.own a)) (m:∀b xs,H b=some (.tup xs)->H' b=some (.tup xs)):yP P w H' h' a o:=by
 induction o with
 |lst xs=>obtain⟨z,its,n,r,e⟩:=x;exact⟨z,its,n,r,k _ _ (.inl rfl) e⟩
 |tup xs=>obtain⟨z,its,r,g,e,c⟩:=x;exact⟨z,its,r,g,k _ _ (.inl rfl) e,c⟩
 |dK kvs=>obtain⟨z,y,vs,r,g,i,ep,e,c⟩:=x;exact⟨z,y,vs,r,g,i,ep,k _ _ (.inl rfl) e,c⟩
 |dT kvs=>
  obtain⟨z,y,xs,r,g,i,ep,e,c⟩:=x
  exact⟨z,y,xs,Paired.mapP r fun p q z=>⟨z.1,m _ _ z.2.1,z.2.2⟩,g,i,ep,k _ _ (.inl rfl) e,c⟩
 |set S n=>obtain⟨g,i,ep,t,e,c⟩:=x;exact⟨g,i,ep,t,k _ _ (.inl rfl) e,c⟩
 |ins C A fs=>
  obtain⟨d,z,ne,e,j,⟨od,i,ep,s,c⟩,r⟩:=x
  exact⟨l _ d,z,ne,k _ _ (.inl rfl) e,j,⟨od,i,ep,k _ _ (.inr d) s,c⟩,r⟩
 |own y=>obtain⟨g,e⟩:=x;exact⟨g,k _ _ (.inl rfl) e⟩
 |xd fs=>obtain⟨j,⟨od,i,ep,e,c⟩,r⟩:=x;exact⟨j,⟨od,i,ep,k _ _ (.inl rfl) e,c⟩,r⟩
 |rng lo hi=>obtain⟨t,u,v,e⟩:=x;exact⟨t,u,v,k _ _ (.inl rfl) e⟩
 |frz g u ih=>obtain⟨e,q⟩:=x;exact⟨k _ _ (.inl rfl) e,ih q⟩
 |tbl ps=>
  have e:h.get? a=some {cls:=.none,data:=.fields ps}:=x
  show h'.get? a=some {cls:=.none,data:=.fields ps}
  exact k a _ (.inl rfl) e
 |met f y=>
  have e:h.get? a=some (kh (.ref f) (.ref y)):=x
  show h'.get? a=some (kh (.ref f) (.ref y))
  exact k a _ (.inl rfl) e
 |ext φ=>obtain⟨p,⟨o,e⟩,st⟩:=x;exact⟨st _ _ p fun o q=>k _ _ (.inl rfl) q,⟨o,k _ _ (.inl rfl) e⟩,st⟩
theorem z9.lt (x:z9 P w H h)(e:H a=some o):a<h.objs.size:=(x a o e).lt
theorem z9.fresh (x:z9 P w H h)(e:h.objs.size<=a):H a=none:=by
 cases q:H a with
 |none=>rfl
 |some u=>exact absurd (br (x.lt q) e) (bP _)
theorem z9.kept (x:z9 P w H h)(k:∀b u,h.get? b=some u->h'.get? b=some u):z9 P w H h':=fun a o e=>
 (x a o e).stay (fun b u _ q=>k b u q) (fun _ q=>q) fun _ _ q=>q
theorem z9.laid (x:z9 P w H h)(k:∀b u,h.get? b=some u->h'.get? b=some u)(g:h.objs.size<=a)(new:yP P w (upd H a o) h' a o):z9 P w (upd H a o) h':=fun b u e=>by
 have d:=x.fresh g
 by_cases f:b=a
 ·subst f;rw[zF]at e;cases e;exact new
 ·rw[zG f]at e
  exact(x b u e).stay (fun c v _ q=>k c v q) (fun c q=>by rw[zG (yI q d)];exact q) fun c xs q=>by rw[zG (yI q d)];exact q
end
def Rd (H:Hp)(a:ah)(u:HO):Prop:=H a=some u\/∃o,H a=some (.frz o u)
theorem Rd.ok {P:aJ}{w:aV}{H:Hp}{h:bC}{a:ah}{u:HO}(r:Rd H a u)(x:z9 P w H h):yP P w H h a u:=by
 rcases r with r|⟨o,r⟩
 ·exact x a u r
 ·obtain⟨_,q⟩:=x a _ r
  exact q
def Mut:Option HO->Prop
 |some (.lst _)=>True
 |some (.dK _)=>True
 |some (.dT _)=>True
 |some (.set _ _)=>True
 |some (.ins _ _ _)=>True
 |some (.ext _)=>True
 |_=>False
section
variable{P:aJ}{w:aV}{H:Hp}{h h':bC}{x e:ah}{o':HO}
theorem z9.write (ok:z9 P w H h)(g:Mut (H x))(m:e=x\/H e=some (.own x))(k:∀b u,b≠e->h.get? b=some u->h'.get? b=some u)(l:∃u,h'.get? e=some u)
  (new:yP P w (upd H x o') h' x o'):z9 P w (upd H x o') h':=fun b u q=>by
 have d:∀c y,H c=some (.own y)->c≠x:=fun c y r z=>by subst z;rw[r]at g;exact g
 have f:∀c xs,H c=some (.tup xs)->c≠x:=fun c xs r z=>by subst z;rw[r]at g;exact g
 by_cases i:b=x
 ·subst i;rw[zF]at q;cases q;exact new
 ·rw[zG i]at q
  by_cases a:b=e
  ·have n:H b=some (.own x):=by
    rcases m with z|z
    ·exact absurd (a.trans z) i
    ·rw[a];exact z
   rw[q]at n;cases n
   obtain⟨v,o⟩:=l
   exact⟨v,by rw[a];exact o⟩
  ·refine(ok b u q).stay (fun c v j r=>k c v ?_ r) (fun c r=>by rw[zG (d c b r)];exact r) fun c xs r=>by rw[zG (f c xs r)];exact r
   rcases j with rfl|j
   ·exact a
   ·rintro rfl
    rcases m with z|z
    ·exact d c b j z
    ·rw[j]at z;cases z;exact i rfl
end
structure Un (fs ex:List ah) (H H':Hp) (h h':bC):Prop where
 keep:∀b o,h.get? b=some o->H b=none->b∉fs->b∉ex->h'.get? b=some o
 slot:∀b o,h.get? b=some o->H b=none->b∈fs->b∉ex->∃sl,h'.get? b=some {o with slots:=sl}
 free:∀b o,h.get? b=some o->H b=none->b∉ex->H' b=none
 there:∀b o,h.get? b=some o->b∉ex->∃o',h'.get? b=some o'
 tups:∀b xs,H b=some (.tup xs)->H' b=some (.tup xs)
 frzs:∀b o u,H b=some (.frz o u)->H' b=some (.frz o u)
 tbls:∀b ps,H b=some (.tbl ps)->∃more,H' b=some (.tbl (ps++more))
section
variable{fs fs' ex ex':List ah}{H H1 H2:Hp}{h h1 h2 h':bC}{a x e:ah}{o:HO}
theorem Un.any (u:Un fs ex H H1 h h1){b:ah}{c:Obj}(q:h.get? b=some c)(n:H b=none)(d:b∉ex):∃g,h1.get? b=some {c with slots:=g}:=by
 by_cases f:b∈fs
 ·exact u.slot b c q n f d
 ·exact⟨c.slots,u.keep b c q n f d⟩
theorem Un.kept (k:∀b u,h.get? b=some u->h'.get? b=some u):Un fs ex H H h h' :=
 ⟨fun b c q _ _ _=>k b c q,fun b c q _ _ _=>⟨c.slots,k b c q⟩,fun _ _ _ n _=>n,fun b c q _=>⟨c,k b c q⟩,fun _ _ q=>q,fun _ _ _ q=>q,fun _ ps q=>⟨#[],by rw[q];simp⟩⟩
theorem Un.refl:Un fs ex H H h h:=Un.kept fun _ _ q=>q
theorem Un.laid (k:∀b u,h.get? b=some u->h'.get? b=some u)(d:h.objs.size<=a)(c:H a=none):Un fs ex H (upd H a o) h h' where
 keep:=fun b u q _ _ _=>k b u q
 slot:=fun b u q _ _ _=>⟨u.slots,k b u q⟩
 free:=fun b u q n _=>by rw[zG (bf (br (aI q) d))];exact n
 there:=fun b u q _=>⟨u,k b u q⟩
 tups:=fun b xs q=>by rw[zG (yI q c)];exact q
 frzs:=fun b u xs q=>by rw[zG (yI q c)];exact q
 tbls:=fun b ps q=>⟨#[],by rw[zG (yI q c),q];simp⟩
theorem Un.write (d:Mut (H x))(j:e=x\/H e=some (.own x))(k:∀b u,b≠e->h.get? b=some u->h'.get? b=some u)(f:∃u,h'.get? e=some u):Un fs ex H (upd H x o) h h':=by
 have g:∀b,H b=none->b≠x:=fun b n z=>by subst z;rw[n]at d;exact d
 have i:∀b,H b=none->b≠e:=fun b n z=>by
  subst z
  rcases j with r|r
  ·exact g b n r
  ·rw[n]at r;cases r
 have hm:∀b u,H b=some u->¬Mut (some u)->b≠x:=fun b u q nm z=>by subst z;rw[q]at d;exact nm d
 refine⟨fun b u q n _ _=>k b u (i b n) q,fun b u q n _ _=>⟨u.slots,k b u (i b n) q⟩,fun b u q n _=>by rw[zG (g b n)];exact n,fun b u q _=>?_,
  fun b xs q=>by rw[zG (hm b _ q fun z=>z)];exact q,fun b u xs q=>by rw[zG (hm b _ q fun z=>z)];exact q,fun b ps q=>⟨#[],by rw[zG (hm b _ q fun z=>z),q];simp⟩⟩
 by_cases c:b=e
 ·subst c;exact f
 ·exact⟨u,k b u c q⟩
end
def trk (h:bC)(H:Hp):List ah:=(ba h.objs.size).filter fun a=>(H a).isSome
def jU (h:bC)(H:Hp):bC:=gj h (trk h H)
theorem zJM (h:bC)(H:Hp):(jU h H).objs.size=h.objs.size:=PySem.W.hideAll_size _ _
theorem zJN {h:bC}{H:Hp}{b:ah}{o:Obj}(e:h.get? b=some o)(n:H b=none):(jU h H).get? b=some o :=
 fX _ e fun hm=>by
  have q:(H b).isSome=true:=(aQ.mp hm).2
  rw[n]at q;simp at q
theorem zJO {h:bC}{H:Hp}{b:ah}{o:Obj}(e:(jU h H).get? b=some o):h.get? b=some o/\H b=none:=by
 have a:h.get? b=some o:=jj (trk h H) e
 refine⟨a,?_⟩
 cases q:H b with
 |none=>rfl
 |some x=>
  have hm:b∈trk h H:=aQ.mpr ⟨bX.mpr (aI a),by simp[q]⟩
  have z:(jU h H).get? b=none:=PySem.W.hideAll_none (trk h H) hm
  rw[z]at e;cases e
def zJP (g h:bC)(L:ah):List (ah×Obj):=(ba h.objs.size).filterMap fun a=>if a=L\/(g.get? a).isSome=true then none else(h.get? a).map fun o=>(a,o)
def vO (g h:bC)(L d:ah):List (ah×Obj):=(zJP g h L).filter fun p=>decide (p.1≠d)
structure Mod (K:ae) (mg:Str->Option ag) (base:bC):Prop where
 kin:K.In base
 glob:base.Ns mainGlobals mg
 blt:∃mb,base.Ns builtinsNs mb/\∀x:Str,x≠"__name__"->mb x=bootBuiltins x
 nolimit:base.NoLimit
structure Cx where
 prog:aJ
 w:aV
 K:ae
 mg:Str->Option ag
 base:bC
 A:bM
 N:List Str
 s₀:av
 H₀:Hp
 env:Env
 outer:List Env
 stack:List Env
 ex:List ah
 fn:Str->Bool
 calm:Bool
 pn:List (ah×Obj)
 xe:ag->av->Prop
def yS (l:List Env):List ah:=l.filterMap (·.frame)
abbrev Cx.fs (X:Cx):List ah:=yS X.outer
def Vis (sc:fb)(x:Str):Prop:=sc.names.lookup x=some .local\/sc.names.lookup x=some .cell\/sc.names.lookup x=some .free
def Loc (sc:fb)(x:Str):Prop:=sc.names.lookup x=some .local\/sc.names.lookup x=some .cell
def zJQ (env:Env)(h:bC)(m:Str->Option ag)(x:Str)(u:ag):Prop :=
 (env.kindOf x=some .local/\m x=some u)\/((env.kindOf x=some .cell\/env.kindOf x=some .free)/\∃c,env.cells.lookup x=some c/\h.IsCell c (some u))
structure Cx.Ok (X:Cx):Prop where
 mod:Mod X.K X.mg X.base
 kind:X.env.scope.kind=.function
 glob:X.env.globals=mainGlobals
 blt:X.env.builtins=builtinsNs
 above:X.s₀.heap.objs.size<=X.env.locals
 inj:∀x y c,X.env.cells.lookup x=some c->X.env.cells.lookup y=some c->x=y
 has:∀x,(X.env.kindOf x=some .cell\/X.env.kindOf x=some .free)->∃c,X.env.cells.lookup x=some c
 cab:∀x c,X.fn x=true->X.env.cells.lookup x=some c->X.s₀.heap.objs.size<=c
 hd:X.calm=true->X.A.handled=none
 frames:X.A.frames=some X.stack
 stk:X.stack=X.outer\/(X.stack=X.env::X.outer/\X.env.frame=some X.env.locals)
 exf:∀b∈X.ex,b≠X.env.locals/\∀x c,X.env.cells.lookup x=some c->c≠b
 bs:∀b o,X.base.get? b=some o->X.s₀.heap.get? b=some o/\X.H₀ b=none
 bsz:X.base.objs.size<=X.s₀.heap.objs.size
 noex:∀b o,X.base.get? b=some o->b∉X.ex
 exfs:∀b∈X.ex,b∉X.fs
 funs:X.s₀.heap.FunFrames X.base X.outer
 frf:∀b∈X.fs,X.H₀ b=none
structure Inv (X:Cx) (pins:List (ah×Obj)) (σ:List (Option V)) (H:Hp) (s:av):Prop where
 ok:X.Ok
 os:s.os=X.s₀.os
 bare:ja s.gens
 base:Un X.fs X.ex X.H₀ H X.s₀.heap s.heap
 loc:∃m,s.heap.Ns X.env.locals m/\∀(i:Nat) (x:Str) (v:V),X.N[i]?=some x->σ[i]?=some (some v)->Vis X.env.scope x->∃u,zQ v u/\zJQ X.env s.heap m x u
 cell:∀x c,X.env.cells.lookup x=some c->∃v,s.heap.IsCell c v
 free:H X.env.locals=none
 freeC:∀x c,X.env.cells.lookup x=some c->H c=none
 pin:∀p∈X.pn++pins,s.heap.get? p.1=some p.2/\H p.1=none/\p.1≠X.env.locals/\p.1∉X.fs/\∀v,p.2.data≠.cell v
 hok:z9 X.prog X.w H s.heap
 len:σ.length=X.N.length
section
variable{X:Cx}{pins:List (ah×Obj)}{σ:List (Option V)}{H H':Hp}{s:av}{h':bC}
theorem Cx.Ok.nofr (ok:X.Ok){b:ah}{o:Obj}(e:X.base.get? b=some o):b∉X.fs:=fun a=>by
 have:=(ok.funs.mem a).1
 rw[e]at this;cases this
theorem Inv.bs (I:Inv X pins σ H s):∀b o,X.base.get? b=some o->s.heap.get? b=some o/\H b=none:=fun b o e=>
 ⟨I.base.keep b o (I.ok.bs b o e).1 (I.ok.bs b o e).2 (I.ok.nofr e) (I.ok.noex b o e),I.base.free b o (I.ok.bs b o e).1 (I.ok.bs b o e).2 (I.ok.noex b o e)⟩
theorem Inv.bk (I:Inv X pins σ H s):∀b o,X.base.get? b=some o->s.heap.get? b=some o:=fun b o e=>(I.bs b o e).1
theorem Inv.mod (I:Inv X pins σ H s):Mod X.K X.mg X.base:=I.ok.mod
theorem Inv.kIn (I:Inv X pins σ H s):X.K.In s.heap:=I.ok.mod.kin.keeps I.bk
theorem Inv.nolimit (I:Inv X pins σ H s):s.heap.NoLimit:=I.ok.mod.nolimit.keeps I.bk
theorem Inv.fr (I:Inv X pins σ H s):∃m,Fr X.base X.env.locals s.heap m :=
 let⟨m,a,_⟩:=I.loc
 ⟨m,a,I.bk,du I.ok.bsz I.ok.above⟩
theorem Inv.lt (I:Inv X pins σ H s):X.env.locals<s.heap.objs.size:=let⟨_,a,_⟩:=I.loc;a.lt
theorem Inv.sz (I:Inv X pins σ H s):X.s₀.heap.objs.size<=s.heap.objs.size:=du I.ok.above (jb I.lt)
theorem Inv.nofs (I:Inv X pins σ H s){a:ah}(h:s.heap.objs.size<=a):a∉X.fs:=fun b=>by
 obtain⟨_,o,c,_⟩:=I.ok.funs.mem b
 exact absurd (br (aI c) (du I.sz h)) (bP _)
theorem Inv.cne (I:Inv X pins σ H s):∀x c,X.env.cells.lookup x=some c->c≠X.env.locals:=fun x c e z=>by
 obtain⟨v,o,d,hd⟩:=I.cell x c e
 obtain⟨m,⟨f,g,ep,a,b,_⟩,_⟩:=I.loc
 rw[z,a]at d;cases d;rw[b]at hd;cases hd
theorem Inv.funs (I:Inv X pins σ H s):s.heap.FunFrames X.base X.outer:=by
 have all:∀(l:List Env),(∀b∈yS l,b∈X.fs)->X.s₀.heap.FunFrames X.base l->s.heap.FunFrames X.base l:=by
  intro l
  induction l with
  |nil=>intro _ _;trivial
  |cons env r ih=>
   intro f hl
   obtain⟨g,⟨L,o,a,h,i,hd⟩,j⟩:=hl
   have c:L∈X.fs:=f L (by unfold yS;rw[fY,a];exact aj)
   obtain⟨m,e⟩:=I.base.slot L o i (I.ok.frf L c) c fun z=>I.ok.exfs L z c
   exact⟨g,⟨L,_,a,h,e,hd⟩,ih (fun b d=>f b (by unfold yS;rw[fY,a];exact ar _ d)) j⟩
 exact all X.outer (fun _ d=>d) I.ok.funs
theorem Inv.stack (I:Inv X pins σ H s):s.heap.FunFrames X.base X.stack:=by
 rcases I.ok.stk with e|⟨e,a⟩
 ·rw[e];exact I.funs
 ·rw[e]
  obtain⟨m,b,_⟩:=I.loc
  refine .cons (by rw[I.ok.kind];decide) a b ?_ I.funs
  exact Heap.get?_none_of_le (du I.ok.bsz I.ok.above)
theorem Inv.stkSub (I:Inv X pins σ H s):∀b∈yS X.stack,b∈X.env.locals::X.fs:=fun b a=>by
 rcases I.ok.stk with e|⟨e,c⟩
 ·rw[e]at a;exact ar _ a
 ·rw[e]at a
  unfold yS at a
  rw[fY,c]at a
  exact a
theorem Inv.stkFree (I:Inv X pins σ H s):∀b∈yS X.stack,H b=none:=fun b a=>by
 rcases aL.mp (I.stkSub b a)with e|a
 ·rw[e];exact I.free
 ·obtain⟨_,o,c,_⟩:=I.ok.funs.mem a
  exact I.base.free b o c (I.ok.frf b a) fun z=>I.ok.exfs b z a
theorem Inv.step {g':Array mJ}{t':Nat}{d':rQ}{ch:List ah}(I:Inv X pins σ H s)
  (f:∀b∈ch,(b∈X.ex\/X.s₀.heap.objs.size<=b)/\b≠X.env.locals/\(∀x c,X.env.cells.lookup x=some c->c≠b)/\∀p∈X.pn++pins,p.1≠b)
  (keep:∀b o,b≠X.env.locals->b∉X.fs->b∉ch->s.heap.get? b=some o->H b=none->h'.get? b=some o)
  (slot:∀b o,b≠X.env.locals->b∈X.fs->b∉ch->s.heap.get? b=some o->H b=none->∃E,h'.get? b=some {o with slots:=E}) (free:∀b o,b∉ch->s.heap.get? b=some o->H b=none->H' b=none)
  (there:∀b o,b∉ch->s.heap.get? b=some o->∃B,h'.get? b=some B)
  (tups:∀b xs,H b=some (.tup xs)->H' b=some (.tup xs)) (frzs:∀b o u,H b=some (.frz o u)->H' b=some (.frz o u)) (tbls:∀b ps,H b=some (.tbl ps)->∃more,H' b=some (.tbl (ps++more)))
  (ns:∀m,s.heap.Ns X.env.locals m->h'.Ns X.env.locals m) (hok:z9 X.prog X.w H' h') (M:ja g') :
  Inv X pins σ H' {s with heap:=h',gens:=g',drawn:=d',toks:=t'}:=by
 have C:∀b o,X.s₀.heap.get? b=some o->b≠X.env.locals:=fun b o e=>bf (br (aI e) I.ok.above)
 have j:∀b o,X.s₀.heap.get? b=some o->b∉X.ex->b∉ch:=fun b o e a y=>by
  rcases(f b y).1 with z|z
  ·exact a z
  ·exact absurd (br (aI e) z) (bP _)
 have g:∀x c,X.env.cells.lookup x=some c->∀v,s.heap.IsCell c v->h'.IsCell c v:=fun x c e v ⟨o,A,hd⟩=>by
  have h:c∉ch:=fun z=>(f c z).2.2.1 x c e rfl
  by_cases G:c∈X.fs
  ·obtain⟨E,q⟩:=slot c o (I.cne x c e) G h A (I.freeC x c e)
   exact⟨_,q,hd⟩
  ·exact⟨o,keep c o (I.cne x c e) G h A (I.freeC x c e),hd⟩
 refine⟨I.ok,I.os,M,⟨fun b o e n y a=>?_,fun b o e n y a=>?_,fun b o e n a=>?_,fun b o e a=>?_,fun b xs e=>tups b xs (I.base.tups b xs e),fun b o xs e=>frzs b o xs (I.base.frzs b o xs e),fun b ps e=>?_⟩,?_,fun x c e=>?_,?_,fun x c e=>?_,fun p J=>?_,hok,I.len⟩
 ·exact keep b o (C b o e) y (j b o e a) (I.base.keep b o e n y a) (I.base.free b o e n a)
 ·obtain⟨E,t⟩:=I.base.slot b o e n y a
  obtain⟨F,D⟩:=slot b _ (C b o e) y (j b o e a) t (I.base.free b o e n a)
  exact⟨F,D⟩
 ·obtain⟨B,t⟩:=I.base.there b o e a
  exact free b B (j b o e a) t (I.base.free b o e n a)
 ·obtain⟨B,t⟩:=I.base.there b o e a
  exact there b B (j b o e a) t
 ·obtain⟨N,t⟩:=I.base.tbls b ps e
  obtain⟨O,D⟩:=tbls b _ t
  exact⟨N++O,by rw[D,nI]⟩
 ·obtain⟨m,P,hl⟩:=I.loc
  refine⟨m,ns m P,fun i x v t D Q=>?_⟩
  obtain⟨u,r,l⟩:=hl i x v t D Q
  refine⟨u,r,?_⟩
  rcases l with l|⟨k,c,e,z⟩
  ·exact .inl l
  ·exact .inr ⟨k,c,e,g x c e _ z⟩
 ·obtain⟨v,z⟩:=I.cell x c e
  exact⟨v,g x c e v z⟩
 ·obtain⟨m,⟨o,_,_,A,_⟩,_⟩:=I.loc
  exact free _ o (fun z=>(f _ z).2.1 rfl) A I.free
 ·obtain⟨v,o,A,hd⟩:=I.cell x c e
  exact free c o (fun z=>(f c z).2.2.1 x c e rfl) A (I.freeC x c e)
 ·obtain⟨e,n,ne,L,d⟩:=I.pin p J
  have h:p.1∉ch:=fun z=>(f p.1 z).2.2.2 p J rfl
  exact⟨keep p.1 p.2 ne L h e n,free p.1 p.2 h e n,ne,L,d⟩
theorem Inv.un {t':Nat}(I:Inv X pins σ H s)(u:Un X.fs [] H H' s.heap h')(hok:z9 X.prog X.w H' h'):Inv X pins σ H' {s with heap:=h',toks:=t'}:=by
 obtain⟨m,⟨o,j,ep,g,r⟩,_⟩:=id I.loc
 obtain⟨l,h⟩:=u.any g I.free (by simp)
 exact I.step (g':=s.gens) (d':=s.drawn) (ch:=[]) (fun _ z=>nomatch z) (fun b o _ c _ e n=>u.keep b o e n c (by simp)) (fun b o _ c _ e n=>u.slot b o e n c (by simp)) (fun b o _ e n=>u.free b o e n (by simp)) (fun b o _ e=>u.there b o e (by simp)) u.tups u.frzs u.tbls (fun p hm=>by
  obtain⟨q,d,f,a,i⟩:=hm
  rw[g]at a;cases a
  exact⟨_,d,f,h,i⟩) hok I.bare
theorem Inv.call {g':Array mJ}{t':Nat}{d':rQ}{ch:List ah}(I:Inv X pins σ H s)(u:Un (yS X.stack) ch H H' s.heap h')(hok:z9 X.prog X.w H' h')(l:ja g')
  (d:∀b∈ch,(b∈X.ex\/X.s₀.heap.objs.size<=b)/\b≠X.env.locals/\(∀x c,X.env.cells.lookup x=some c->c≠b)/\∀p∈X.pn++pins,p.1≠b) :
  Inv X pins σ H' {s with heap:=h',gens:=g',drawn:=d',toks:=t'}:=by
 obtain⟨m,⟨o,v,ep,j,r⟩,_⟩:=id I.loc
 obtain⟨y,g⟩:=u.any j I.free fun z=>(d _ z).2.1 rfl
 exact I.step (ch:=ch) d (fun b o g q a e n=>u.keep b o e n (fun z=>(aL.mp (I.stkSub b z)).elim g q) a) (fun b o _ _ a e n=>u.any e n a) (fun b o a e n=>u.free b o e n a) (fun b o a e=>u.there b o e a) u.tups u.frzs u.tbls (fun A hm=>by
  obtain⟨B,h,i,f,t⟩:=hm
  rw[j]at f;cases f
  exact⟨_,h,i,g,t⟩) hok l
theorem Inv.turned {t':Nat}{it:ah}(I:Inv X pins σ H s)(k:∀b o,b≠it->s.heap.get? b=some o->h'.get? b=some o)(g:H it=none)(f:it≠X.env.locals)
  (h:it∈X.ex\/X.s₀.heap.objs.size<=it) (i:∀x c,X.env.cells.lookup x=some c->c≠it) (j:∀p∈X.pn++pins,p.1≠it):Inv X pins σ H {s with heap:=h',toks:=t'}:=by
 have d:∀b u,H b=some u->b≠it:=fun b u e z=>by rw[z,g]at e;cases e
 refine I.step (g':=s.gens) (d':=s.drawn) (ch:=[it]) (fun b l=>?_) (fun b o _ _ a e _=>k b o (fun z=>a (by simp[z])) e) (fun b o _ _ a e _=>⟨o.slots,k b o (fun z=>a (by simp[z])) e⟩) (fun _ _ _ _ n=>n)
  (fun b o a e=>⟨o,k b o (fun z=>a (by simp[z])) e⟩) (fun _ _ e=>e) (fun _ _ _ e=>e) (fun b ps e=>⟨#[],by rw[e];simp⟩) (fun m hm=>?_) (fun b u e=>?_) I.bare
 ·have e:b=it:=by simpa using l
  subst e
  exact⟨h,f,i,j⟩
 ·obtain⟨o,t,ep,w,r⟩:=hm
  exact⟨o,t,ep,k _ o (fm f) w,r⟩
 ·refine(I.hok b u e).stay (fun c v a q=>k c v ?_ q) (fun _ q=>q) fun _ _ q=>q
  rcases a with z|z
  ·rw[z];exact d b u e
  ·exact d c _ z
theorem Inv.tok (I:Inv X pins σ H s)(t:Nat):Inv X pins σ H {s with toks:=t}:=I.un (h':=s.heap) (t':=t) Un.refl I.hok
theorem Inv.kept {t':Nat}(I:Inv X pins σ H s)(k:∀b u,s.heap.get? b=some u->h'.get? b=some u):Inv X pins σ H {s with heap:=h',toks:=t'}:=I.un (Un.kept k) (I.hok.kept k)
theorem Inv.laid {a:ah}{o:HO}{t':Nat}(I:Inv X pins σ H s)(k:∀b u,s.heap.get? b=some u->h'.get? b=some u)(c:s.heap.objs.size<=a)(new:yP X.prog X.w (upd H a o) h' a o) :
  Inv X pins σ (upd H a o) {s with heap:=h',toks:=t'}:=I.un (Un.laid k c (I.hok.fresh c)) (I.hok.laid k c new)
theorem Inv.write {x e:ah}{o:HO}{t':Nat}(I:Inv X pins σ H s)(c:Mut (H x))(d:e=x\/H e=some (.own x))(k:∀b u,b≠e->s.heap.get? b=some u->h'.get? b=some u)(a:∃u,h'.get? e=some u)
  (new:yP X.prog X.w (upd H x o) h' x o):Inv X pins σ (upd H x o) {s with heap:=h',toks:=t'}:=I.un (Un.write c d k a) (I.hok.write c d k a new)
theorem Inv.weak {a:List (Option V)}(I:Inv X pins σ H s)(hl:a.length=σ.length)(w:∀(i:Nat) v,a[i]?=some (some v)->σ[i]?=some (some v)):Inv X pins a H s :=
 ⟨I.ok,I.os,I.bare,I.base,let⟨m,c,b⟩:=I.loc;⟨m,c,fun i x v d e f=>b i x v d (w i v e) f⟩,I.cell,I.free,I.freeC,I.pin,I.hok,hl.trans I.len⟩
theorem Inv.pins_of {pins':List (ah×Obj)}(I:Inv X pins σ H s)(h:∀p∈pins',s.heap.get? p.1=some p.2/\H p.1=none/\p.1≠X.env.locals/\p.1∉X.fs/\∀v,p.2.data≠.cell v):Inv X pins' σ H s :=
 ⟨I.ok,I.os,I.bare,I.base,I.loc,I.cell,I.free,I.freeC,fun p a=>(bG.mp a).elim (fun z=>I.pin p (bJ _ z)) (h p),I.hok,I.len⟩
theorem zEq {N:List Str}(c:N.Nodup){i j:Nat}{x:Str}(a:N[i]?=some x)(b:N[j]?=some x):i=j:=by
 obtain⟨f,d⟩:=af.mp a
 obtain⟨g,e⟩:=af.mp b
 exact(fR c).mp (d.trans e.symm)
theorem zJR {M:oK}{A:bM}{E:ag->av->Prop}{i:Nat}{x:Str}{v:V}{u:ag}{Q:Unit->av->Prop}(I:Inv X pins σ H s)(hN:X.N.Nodup)(hi:X.N[i]?=some x)(B:Loc X.env.scope x)(r:zQ v u)
  (h:∀s',Inv X pins (σ.set i (some v)) H s'->(∃a,ie a s.heap s'.heap/\(a=X.env.locals\/X.env.cells.lookup x=some a))->Q () s') (hf:X.fn x=true\/X.env.scope.names.lookup x=some .local:=by first|exact .inl rfl|exact .inr rfl|assumption):wpAny M A (storeName X.env x u) Q E s:=by
 obtain⟨m,hn,hl⟩:=id I.loc
 have O:(X.env.scope.kind== .class||(X.env.scope.kind== .module&&X.env.locals !=X.env.globals))=false:=by rw[I.ok.kind];rfl
 have P:i<σ.length:=by rw[I.len];exact(af.mp hi).1
 have cne:=I.cne
 have g:∀{a:ah} {h':bC},(∃o,s.heap.get? a=some o/\H a=none)->ie a s.heap h'->z9 X.prog X.w H h':=fun{a h'} ha f b ob e=>by
  obtain⟨_,_,C⟩:=ha
  refine(I.hok b ob e).stay (fun c Y t q=>(f.2 c ?_).trans q) (fun _ q=>q) fun _ _ q=>q
  rintro rfl
  rcases t with rfl|t
  ·rw[C]at e;cases e
  ·rw[C]at t;cases t
 rcases B with F|F
 ·refine wpAny_storeName_local F hn (fun h' ab f=>?_) O
  obtain⟨oL,_,_,ac,_⟩:=id hn
  refine h _ ⟨I.ok,I.os,I.bare,⟨fun b o e n G B=>?_,fun b o e n G B=>?_,I.base.free,fun b o e B=>?_,I.base.tups,I.base.frzs,I.base.tbls⟩,⟨_,ab,fun j y v' l D e3=>?_⟩,fun y c e=>?_,I.free,I.freeC,fun p hp=>?_,g ⟨oL,ac,I.free⟩ f,by simpa using I.len⟩ ⟨_,f,.inl rfl⟩
  ·exact(f.2 b (bf (br (aI e) I.ok.above))).trans (I.base.keep b o e n G B)
  ·obtain⟨sl,l⟩:=I.base.slot b o e n G B
   exact⟨sl,(f.2 b (bf (br (aI e) I.ok.above))).trans l⟩
  ·obtain⟨o',l⟩:=I.base.there b o e B
   exact⟨o',(f.2 b (bf (br (aI e) I.ok.above))).trans l⟩
  ·by_cases J:j=i
   ·subst J
    rw[hi]at l;cases l
    rw[lM P]at D
    cases D
    exact⟨u,r,.inl ⟨F,by simp⟩⟩
   ·rw[mK (fm J)]at D
    obtain⟨u',r',q⟩:=hl j y v' l D e3
    refine⟨u',r',?_⟩
    rcases q with⟨k,e⟩|⟨k,c,e,z⟩
    ·refine .inl ⟨k,?_⟩
     have:y≠x:=fun e=>J (zEq hN l (e▸hi))
     simp[this,e]
    ·exact .inr ⟨k,c,e,z.sameBut f (cne y c e)⟩
  ·obtain⟨Y,z⟩:=I.cell y c e
   exact⟨Y,z.sameBut f (cne y c e)⟩
  ·obtain⟨e,n,ne,nf,d⟩:=I.pin p hp
   exact⟨(f.2 p.1 ne).trans e,n,ne,nf,d⟩
 ·have L:X.fn x=true:=by
   rcases hf with z|z
   ·exact z
   ·rw[z]at F;cases F
  obtain⟨c,t⟩:=I.ok.has x (.inl F)
  obtain⟨Y,z⟩:=I.cell x c t
  refine wpAny_storeName_cell I.ok.kind F t z (fun h' R f=>?_)
  obtain⟨oc,T,U⟩:=id z
  refine h {s with heap:=h'} ⟨I.ok,I.os,I.bare,⟨fun b o e n G B=>?_,fun b o e n G B=>?_,I.base.free,fun b o e B=>?_,I.base.tups,I.base.frzs,I.base.tbls⟩,⟨m,hn.sameBut f (fm (cne x c t)),fun j y v' l D e3=>?_⟩,fun y Z e=>?_,I.free,I.freeC,fun p hp=>?_,g ⟨oc,T,I.freeC x c t⟩ f,by simpa using I.len⟩ ⟨c,f,.inr t⟩
  ·exact(f.2 b (bf (br (aI e) (I.ok.cab x c L t)))).trans (I.base.keep b o e n G B)
  ·obtain⟨sl,l⟩:=I.base.slot b o e n G B
   exact⟨sl,(f.2 b (bf (br (aI e) (I.ok.cab x c L t)))).trans l⟩
  ·obtain⟨o',l⟩:=I.base.there b o e B
   exact⟨o',(f.2 b (bf (br (aI e) (I.ok.cab x c L t)))).trans l⟩
  ·by_cases J:j=i
   ·subst J
    rw[hi]at l;cases l
    rw[lM P]at D
    cases D
    exact⟨u,r,.inr ⟨.inl F,c,t,R⟩⟩
   ·rw[mK (fm J)]at D
    obtain⟨u',r',q⟩:=hl j y v' l D e3
    refine⟨u',r',?_⟩
    rcases q with q|⟨k,Z,e,z'⟩
    ·exact .inl q
    ·refine .inr ⟨k,Z,e,z'.sameBut f ?_⟩
     rintro rfl
     exact J (zEq hN l (I.ok.inj _ _ _ e t▸hi))
  ·by_cases W:Z=c
   ·subst W;exact⟨_,R⟩
   ·obtain⟨w2,z2⟩:=I.cell y Z e
    exact⟨w2,z2.sameBut f W⟩
  ·obtain⟨e,n,ne,nf,d⟩:=I.pin p hp
   refine⟨(f.2 p.1 ?_).trans e,n,ne,nf,d⟩
   intro q
   rw[q,T]at e
   have q':oc=p.2:=ay e
   exact d Y (by rw[<-q'];exact U)
theorem g9 {M:oK}{A:bM}{E:ag->av->Prop}{i:Nat}{x:Str}{v:V}{u:ag}{Q:Unit->av->Prop}(I:Inv X pins σ H s)(a:X.N.Nodup)(hi:X.N[i]?=some x)(b:Loc X.env.scope x)(r:zQ v u)
  (h:∀s',Inv X pins (σ.set i (some v)) H s'->Q () s') (c:X.fn x=true\/X.env.scope.names.lookup x=some .local:=by first|exact .inl rfl|exact .inr rfl|assumption):wpAny M A (storeName X.env x u) Q E s :=
 zJR I a hi b r (fun s' d _=>h s' d) c
theorem Inv.call' {s':av}{ch:List ah}(I:Inv X pins σ H s)(d:s'.os=s.os)(u:Un (yS X.stack) ch H H' s.heap s'.heap)(hok:z9 X.prog X.w H' s'.heap)(f:ja s'.gens)
  (a:∀b∈ch,(b∈X.ex\/X.s₀.heap.objs.size<=b)/\b≠X.env.locals/\(∀x c,X.env.cells.lookup x=some c->c≠b)/\∀p∈X.pn++pins,p.1≠b):Inv X pins σ H' s':=by
 obtain⟨h',g',d',t',g⟩:=s'
 have e:g=s.os:=d
 subst e
 exact I.call (g':=g') (t':=t') (d':=d') u hok f a
end
abbrev XK:=ag->Option ah->Hp->Prop
abbrev St:=List (Option V)
abbrev VK:=V->Hp->Prop
abbrev TE:=St->Hp->VK->Prop
abbrev TT:=St->Hp->(Bool->Hp->Prop)->Prop
abbrev TA:=St->Hp->(List V->Hp->Prop)->Prop
structure Ends where
 nx:St->Hp->Prop
 rt:VK
 bk:St->Hp->Prop:=fun _ _=>False
 ct:St->Hp->Prop:=fun _ _=>False
abbrev TS:=Ends->St->Hp->Prop
def EP (X:Cx)(pins:List (ah×Obj))(σ:St)(Q:VK)(u:ag)(s':av):Prop:=∃v H',Inv X pins σ H' s'/\zQ v u/\Q v H'
def TP (X:Cx)(pins:List (ah×Obj))(σ:St)(Q:Bool->Hp->Prop)(b:Bool)(s':av):Prop:=∃H',Inv X pins σ H' s'/\Q b H'
def AP (X:Cx)(pins:List (ah×Obj))(σ:St)(Q:List V->Hp->Prop)(us:List ag)(s':av):Prop:=∃vs H',Inv X pins σ H' s'/\zM vs us/\Q vs H'
def SP (X:Cx)(pins:List (ah×Obj))(D:Ends)(f:Flow)(s':av):Prop :=
 match f with
 | .next=>∃σ' H',Inv X pins σ' H' s'/\D.nx σ' H'
 | .brk=>∃σ' H',Inv X pins σ' H' s'/\D.bk σ' H'
 | .cont=>∃σ' H',Inv X pins σ' H' s'/\D.ct σ' H'
 | .ret u=>∃v σ' H',Inv X pins σ' H' s'/\zQ v u/\D.rt v H'
def PE (X:Cx)(e:bV)(t:TE):Prop :=
 ∀(pins:List (ah×Obj)) (s:av) (σ:St) (H:Hp) (Q:VK),Inv X pins σ H s->t σ H Q->wpAny (model X.prog X.w) X.A (eval e X.env) (EP X pins σ Q) X.xe s
def PT (X:Cx)(e:bV)(t:TT):Prop :=
 ∀(pins:List (ah×Obj)) (s:av) (σ:St) (H:Hp) (Q:Bool->Hp->Prop),Inv X pins σ H s->t σ H Q->wpAny (model X.prog X.w) X.A (isTrue e X.env (eval e X.env)) (TP X pins σ Q) X.xe s
def PW (X:Cx)(e:bV)(t:TT):Prop :=
 ∀(whole:Sem ag) (pins:List (ah×Obj)) (s:av) (σ:St) (H:Hp) (Q:Bool->Hp->Prop),Inv X pins σ H s->t σ H Q->wpAny (model X.prog X.w) X.A (isTrue e X.env whole) (TP X pins σ Q) X.xe s
theorem PW.pt {X:Cx}{e:bV}{t:TT}(h:PW X e t):PT X e t:=h _
def PA (X:Cx)(es:List bV)(t:TA):Prop :=
 ∀(pos:Pos) (pins:List (ah×Obj)) (s:av) (σ:St) (H:Hp) (Q:List V->Hp->Prop),Inv X pins σ H s->t σ H Q->wpAny (model X.prog X.w) X.A (spliced (backTo pos (starEach es X.env))) (AP X pins σ Q) X.xe s
def PS (X:Cx)(st:cp)(t:TS):Prop :=
 ∀(pins:List (ah×Obj)) (s:av) (σ:St) (H:Hp) (D:Ends),Inv X pins σ H s->t D σ H->wpAny (model X.prog X.w) X.A (exec st X.env) (SP X pins D) X.xe s
def vU (X:Cx)(st:List cp)(t:TS):Prop :=
 ∀(pins:List (ah×Obj)) (s:av) (σ:St) (H:Hp) (D:Ends),Inv X pins σ H s->t D σ H->wpAny (model X.prog X.w) X.A (execs st X.env) (SP X pins D) X.xe s
theorem zH {α:Type}{t:Sem α}{Q b:α->av->Prop}{M:oK}{A:bM}{E:ag->av->Prop}{s:av}(h:wpAny M A t Q E s)(c:∀a s,Q a s->b a s):wpAny M A t b E s:=cf h c fun _ _ x=>x
section
variable{X:Cx}
def vR (i:Nat):TE:=fun σ H Q=>∃v,σ[i]?=some (some v)/\Q v H
def tC (v:V):TE:=fun _ H Q=>Q v H
theorem zJS {i:Nat}{x:Str}{pos:Pos}(j:X.N[i]?=some x)(n:Vis X.env.scope x)(hd:(x==("__debug__" : Str))=false:=by decide)(f:(x==("__classdict__" : Str))=false:=by decide):PE X (.Name x pos) (vR i):=by
 intro d s σ H Q I h
 obtain⟨v,e,h⟩:=h
 obtain⟨m,o,hl⟩:=I.loc
 obtain⟨u,r,l⟩:=hl i x v j e n
 have fin:EP X d σ Q u s:=⟨v,H,I,r,h⟩
 rcases l with⟨b,hm⟩|⟨b,c,g,a⟩
 ·exact o9 (wpAny_loadName_local I.ok.kind b o hm fin) hd
 ·rcases b with b|b
  ·exact o9 (wpAny_loadName_cell I.ok.kind b g a fin) hd
  ·exact o9 (wpAny_loadName_free I.ok.kind b g a fin f) hd
theorem zI {i j pos}:PE X (.Constant (.int i) j pos) (tC (.int i)):=fun _ _ _ H _ I h=>wpAny_Constant_int ⟨.int i,H,I.tok _,⟨_,rfl⟩,h⟩
theorem qP {b j pos}:PE X (.Constant (.bool b) j pos) (tC (.bl b)):=fun _ _ _ H _ I h=>Constant_bool ⟨.bl b,H,I,rfl,h⟩
theorem zEr {j pos}:PE X (.Constant .none j pos) (tC .non):=fun _ _ _ H _ I h=>Constant_none ⟨.non,H,I,rfl,h⟩
theorem vB {x j pos}:PE X (.Constant (.str x) j pos) (tC (.str x)):=fun _ _ _ H _ I h=>gq ⟨.str x,H,I.tok _,⟨_,rfl⟩,h⟩
def Gl (X:Cx)(x:Str):Prop:=X.env.kindOf x=some .globalImplicit
theorem zAf {E:ag->av->Prop}{a:List (ah×Obj)}{s:av}{σ:St}{H:Hp}{x:Str}{u:ag}{pos:Pos}{Q:ag->av->Prop}(I:Inv X a σ H s)(b:Gl X x)(hm:X.mg x=some u)(h:Q u s)
  (hd:(x==("__debug__" : Str))=false:=by decide):wpAny (model X.prog X.w) X.A (eval (.Name x pos) X.env) Q E s :=
 jk I.ok.kind b (Calls.loadGlobal_global (by rw[I.ok.glob];exact I.mod.glob.keeps I.bk) hm h) hd
theorem kW {E:ag->av->Prop}{a:List (ah×Obj)}{s:av}{σ:St}{H:Hp}{x:Str}{u:ag}{pos:Pos}{Q:ag->av->Prop}(I:Inv X a σ H s)(b:Gl X x)(hm:X.mg x=none)(c:bootBuiltins x=some u)(h:Q u s)
  (d:x≠"__name__" :=by decide) (hd:(x==("__debug__" : Str))=false:=by decide):wpAny (model X.prog X.w) X.A (eval (.Name x pos) X.env) Q E s:=by
 obtain⟨g,e,f⟩:=I.mod.blt
 exact jk I.ok.kind b (Calls.loadGlobal_builtin (by rw[I.ok.glob];exact I.mod.glob.keeps I.bk) hm (by rw[I.ok.blt];exact e.keeps I.bk) ((f x d).trans c) h) hd
theorem vC {x:Str}{v:V}{u:ag}{pos:Pos}(a:Gl X x)(hm:X.mg x=some u)(r:zQ v u)(hd:(x==("__debug__" : Str))=false:=by decide):PE X (.Name x pos) (tC v) :=
 fun _ _ _ H _ I h=>zAf I a hm ⟨v,H,I,r,h⟩ hd
theorem zAg {x:Str}{v:V}{u:ag}{pos:Pos}(a:Gl X x)(hm:X.mg x=none)(b:bootBuiltins x=some u)(r:zQ v u)(c:x≠"__name__" :=by decide)(hd:(x==("__debug__" : Str))=false:=by decide):PE X (.Name x pos) (tC v) :=
 fun _ _ _ H _ I h=>kW I a hm b ⟨v,H,I,r,h⟩ c hd
variable{a b:bV}{ta tb:TE}{pos:Pos}
def PC (X:Cx)(op:pb)(a b:bV)(t:TE):Prop :=
 ∀(pins:List (ah×Obj)) (s:av) (σ:St) (H:Hp) (Q:VK),Inv X pins σ H s->t σ H Q->
  wpAny (model X.prog X.w) X.A (eval a X.env) (fun v s₁=>wpAny (model X.prog X.w) X.A (eval b X.env) (fun u s₂=>wpAny (model X.prog X.w) X.A (compareOp op v u) (EP X pins σ Q) X.xe s₂) X.xe s₁) X.xe s
theorem zJT (b:bV){op:pb}(h:op≠.In)(c:op≠.NotIn):behindInMarks op b=false:=by
 have d:(op==CmpOp.In)=false:=by cases op<;>first|rfl|exact absurd rfl h
 have e:(op==CmpOp.NotIn)=false:=by cases op<;>first|rfl|exact absurd rfl c
 cases b<;>simp[behindInMarks,d,e]
def tB (t:TE):TT:=fun σ H Q=>t σ H fun x H1=>∃c,x=.bl c/\Q c H1
theorem zBK {op:pb}{t:TE}(h:PC X op a b t)(f:behindInMarks op b=false:=by first|exact zJT _ (by decide) (by decide)|rfl):PT X (.Compare a [op] [b] pos) (tB t):=by
 intro e s σ H Q I g
 refine my (zH (h e s σ H _ I g) fun v o f=>zH f fun u p i=>zH i fun c r ⟨x,j,l,m,n⟩=>?_) f
 obtain⟨d,rfl,q⟩:=n
 cases m
 exact dw ⟨j,l,q⟩
theorem jV {e:bV}{t:TE}(h:PE X e t)(f:∀whole,isTrue e X.env whole=(do let v<-whole;standAt e.pos;holding [v] (truthy v)):=by intro _;rfl):PT X e (tB t):=by
 intro c s σ H Q I g
 refine isTrue_plain (zH (h c s σ H _ I g) fun v n ⟨x,i,j,l,m⟩=>?_) (f _)
 obtain⟨d,rfl,q⟩:=m
 cases l
 exact dw ⟨i,j,q⟩
variable{tA tB':TT}{vO:List bV}
def zJU (t u:TT):TT:=fun σ H Q=>t σ H fun c H1=>if c=true then u σ H1 Q else Q false H1
def tOr (t u:TT):TT:=fun σ H Q=>t σ H fun c H1=>if c=true then Q true H1 else u σ H1 Q
def zJV (t:TT):TT:=fun σ H Q=>t σ H fun c H1=>Q (!c) H1
theorem zJW (f:PT X a tA):PW X (.BoolOp .And [a] pos) tA:=by
 intro g d s σ H Q I h
 refine isTrue_and (zH (f d s σ H Q I h) fun c i e=>?_)
 cases c with
 |true=>exact isTrue_and_nil e
 |false=>exact e
theorem zBL (f:PT X a tA):PW X (.BoolOp .Or [a] pos) tA:=by
 intro g d s σ H Q I h
 refine isTrue_or (zH (f d s σ H Q I h) fun c i e=>?_)
 cases c with
 |false=>exact isTrue_or_nil e
 |true=>exact e
theorem zJX (i:PT X a tA)(j:PW X (.BoolOp .And (b::vO) pos) tB'):PW X (.BoolOp .And (a::b::vO) pos) (zJU tA tB'):=by
 intro l d s σ H Q I h
 refine isTrue_and (zH (i d s σ H _ I h) fun c m ⟨e,f,g⟩=>?_)
 cases c with
 |true=>exact j l d m σ e Q f g
 |false=>exact⟨e,f,g⟩
theorem zBM (i:PT X a tA)(j:PW X (.BoolOp .Or (b::vO) pos) tB'):PW X (.BoolOp .Or (a::b::vO) pos) (tOr tA tB'):=by
 intro l d s σ H Q I h
 refine isTrue_or (zH (i d s σ H _ I h) fun c m ⟨e,f,g⟩=>?_)
 cases c with
 |true=>exact⟨e,f,g⟩
 |false=>exact j l d m σ e Q f g
theorem jW (e:PT X a tA):PT X (.UnaryOp .Not a pos) (zJV tA):=by
 intro d s σ H Q I h
 exact isTrue_not (e d s σ H (fun c f=>Q (!c) f) I h)
def zJY (ta tb:TE):TE:=fun σ H Q=>ta σ H fun x H1=>∃c,x=.bl c/\if c=true then tb σ H1 Q else Q (.bl false) H1
theorem zJZ {op}{t:TE}(h:PE X a t):PE X (.BoolOp op [a] pos) t:=fun c s σ H Q I d=>BoolOp_one (h c s σ H Q I d)
theorem zJa (i:PE X a ta)(j:PE X (.BoolOp .And (b::vO) pos) tb):PE X (.BoolOp .And (a::b::vO) pos) (zJY ta tb):=by
 intro d s σ H Q I h
 refine BoolOp_and (zH (i d s σ H _ I h) fun v l ⟨x,f,g,m,e⟩=>?_)
 obtain⟨c,rfl,e⟩:=e
 cases m
 refine dw ?_
 cases c with
 |true=>exact j d l σ f Q g e
 |false=>exact⟨.bl false,f,g,rfl,e⟩
def tIf (t:TT)(ta tb:TE):TE:=fun σ H Q=>t σ H fun c H1=>if c=true then ta σ H1 Q else tb σ H1 Q
theorem zEs {c:bV}(l:PT X c tA)(m:PE X a ta)(n:PE X b tb):PE X (.IfExp c a b pos) (tIf tA ta tb):=by
 intro e s σ H Q I h
 refine wpAny_IfExp (zH (l e s σ H _ I h) fun d f ⟨g,i,j⟩=>?_)
 cases d with
 |true=>exact m e f σ g Q i j
 |false=>exact n e f σ g Q i j
end
def yL (K:ae)(H:Hp)(a:ah)(xs:List V):Prop :=
 Rd H a (.lst xs)\/
  ∃(o:Obj) (its:Array ag) (n:Nat),K.lookup a=some o/\o.cls=.type "list"/\o.dict=none/\o.data=.seq its n/\its.size<=sizeLine/\zM xs its.toList
def yN (K:ae)(H:Hp)(a:ah)(xs:List V):Prop :=
 Rd H a (.tup xs)\/
  ∃(o:Obj) (its:Array ag) (n:Nat),K.lookup a=some o/\o.cls=.type "tuple"/\o.data=.seq its n/\its.size<=sizeLine/\zM xs its.toList
def zJb:ag->Option V
 | .none=>some .non
 | .bool b=>some (.bl b)
 | .int i _=>some (.int i)
 | .str x _=>some (.str x)
 | .bytes b _=>some (.byt b)
 | .float b _=>some (.flt b)
 | .ref a=>some (.ref a)
 | .type n=>some (.ty n)
 |_=>none
theorem zQ.abs {x:V}{u:ag}(r:zQ x u):zJb u=some x:=by
 cases x with
 |non=>cases r;rfl
 |bl _=>cases r;rfl
 |int _=>obtain⟨t,rfl⟩:=r;rfl
 |str _=>obtain⟨t,rfl⟩:=r;rfl
 |byt _=>obtain⟨t,rfl⟩:=r;rfl
 |flt _=>obtain⟨t,rfl⟩:=r;rfl
 |ref _=>cases r;rfl
 |ty _=>cases r;rfl
theorem zQ.inj {x y:V}{u:ag}(r:zQ x u)(q:zQ y u):x=y:=ay (r.abs.symm.trans q.abs)
theorem zM.inj:∀{xs ys:List V}{a:List ag},zM xs a->zM ys a->xs=ys
 |_,_,_,.nil,.nil=>rfl
 |_,_,_,.cons r t,.cons b t'=>by rw[r.inj b,zM.inj t t']
section
variable{X:Cx}{pins:List (ah×Obj)}{σ:St}{H:Hp}{s:av}{a:ah}{xs ys:List V}
theorem yL.of {K:ae}(h:H a=some (.lst xs)):yL K H a xs:=.inl (.inl h)
theorem yN.of {K:ae}(h:H a=some (.tup xs)):yN K H a xs:=.inl (.inl h)
theorem Inv.list (I:Inv X pins σ H s)(h:yL X.K H a xs):∃its:List ag,zM xs its/\PlainL s.heap a its.toArray/\xs.length<=sizeLine:=by
 rcases h with h|⟨o,its,n,b,c,hd,d,hz,r⟩
 ·obtain⟨z,its,n,r,e⟩:=h.ok I.hok
  exact⟨its,r,⟨_,n,e,rfl,rfl,rfl⟩,z⟩
 ·refine⟨its.toList,r,⟨o,n,I.kIn a o b,c,hd,by simpa using d⟩,?_⟩
  have e:=r.length
  simp only[bD]at e
  omega
theorem Inv.tuple (I:Inv X pins σ H s)(h:yN X.K H a xs):∃its:List ag,zM xs its/\IsTup s.heap a its.toArray/\xs.length<=sizeLine:=by
 rcases h with h|⟨o,its,n,b,c,d,hz,r⟩
 ·obtain⟨z,its,r,p⟩:=h.ok I.hok
  exact⟨its,r,p,z⟩
 ·refine⟨its.toList,r,⟨o,I.kIn a o b,c,n,by simpa using d⟩,?_⟩
  have e:=r.length
  simp only[bD]at e
  omega
theorem Inv.list_inj (I:Inv X pins σ H s)(h:yL X.K H a xs)(h':yL X.K H a ys):xs=ys:=by
 obtain⟨its,r,⟨o,n,e,_,_,d⟩,_⟩:=I.list h
 obtain⟨its',c,⟨f,g,b,_,_,d'⟩,_⟩:=I.list h'
 rw[e]at b;cases b
 rw[d]at d'
 injection d' with d1 _
 have:its=its':=by simpa using congrArg rj d1
 subst this
 exact r.inj c
theorem Inv.tuple_inj (I:Inv X pins σ H s)(h:yN X.K H a xs)(h':yN X.K H a ys):xs=ys:=by
 obtain⟨its,r,⟨o,e,_,n,d⟩,_⟩:=I.tuple h
 obtain⟨its',c,⟨f,b,_,g,d'⟩,_⟩:=I.tuple h'
 rw[e]at b;cases b
 rw[d]at d'
 injection d' with d1 _
 have:its=its':=by simpa using congrArg rj d1
 subst this
 exact r.inj c
end
abbrev Cx.wish (X:Cx)(E:ag->av->Prop):Cx:={X with xe:=E}
abbrev Cx.nox (X:Cx):Cx:=X.wish fun _ _=>False
theorem Cx.Ok.wish {X:Cx}(ok:X.Ok)(E:ag->av->Prop):(X.wish E).Ok :=
 ⟨ok.mod,ok.kind,ok.glob,ok.blt,ok.above,ok.inj,ok.has,ok.cab,ok.hd,ok.frames,ok.stk,ok.exf,ok.bs,ok.bsz,ok.noex,ok.exfs,ok.funs,ok.frf⟩
theorem Cx.Ok.unwish {X:Cx}{E:ag->av->Prop}(ok:(X.wish E).Ok):X.Ok :=
 ⟨ok.mod,ok.kind,ok.glob,ok.blt,ok.above,ok.inj,ok.has,ok.cab,ok.hd,ok.frames,ok.stk,ok.exf,ok.bs,ok.bsz,ok.noex,ok.exfs,ok.funs,ok.frf⟩
section
variable{X:Cx}{pins:List (ah×Obj)}{σ:St}{H:Hp}{s:av}{E:ag->av->Prop}
theorem Inv.wish (I:Inv X pins σ H s)(E:ag->av->Prop):Inv (X.wish E) pins σ H s:=⟨I.ok.wish E,I.os,I.bare,I.base,I.loc,I.cell,I.free,I.freeC,I.pin,I.hok,I.len⟩
theorem Inv.unwish (I:Inv (X.wish E) pins σ H s):Inv X pins σ H s:=⟨I.ok.unwish,I.os,I.bare,I.base,I.loc,I.cell,I.free,I.freeC,I.pin,I.hok,I.len⟩
theorem SP.unwish {D:Ends}{f:Flow}{s':av}(h:SP (X.wish E) pins D f s'):SP X pins D f s':=by
 cases f with
 |next=>obtain⟨a,H',I,q⟩:=h;exact⟨a,H',I.unwish,q⟩
 |brk=>obtain⟨a,H',I,q⟩:=h;exact⟨a,H',I.unwish,q⟩
 |cont=>obtain⟨a,H',I,q⟩:=h;exact⟨a,H',I.unwish,q⟩
 |ret u=>obtain⟨v,a,H',I,r,q⟩:=h;exact⟨v,a,H',I.unwish,r,q⟩
theorem vU.nox {st:List cp}{t:TS}(h:vU X.nox st t):vU X st t:=fun pins s σ H D I a=>
 cf (h pins s σ H D (I.wish _) a) (fun _ _ q=>q.unwish) fun _ _ z=>c8 z
end
section
variable{X:Cx}{st:cp}{vO:List cp}{t u:TS}{e:bV}{te:TE}{pos:Pos}
def zEt:TS:=fun D σ H=>D.nx σ H
def zEu (t u:TS):TS:=fun D σ H=>t {D with nx:=u D} σ H
theorem vV:vU X [] zEt:=fun _ _ σ H _ I h=>gk ⟨σ,H,I,h⟩
theorem zJ (b:PS X st t)(c:vU X vO u):vU X (st::vO) (zEu t u):=by
 intro a s σ H D I h
 refine ow (zH (b a s σ H {D with nx:=u D} I h) fun f d q=>?_)
 cases f with
 |next=>
  obtain⟨g,H',i,q⟩:=q
  exact c a d g H' D i q
 |ret v=>exact q
 |brk=>exact q
 |cont=>exact q
theorem zO (b:PS X st t):vU X [st] t:=by
 intro a s σ H D I h
 refine ow (zH (b a s σ H D I h) fun f c q=>?_)
 cases f with
 |next=>exact gk q
 |ret v=>exact q
 |brk=>exact q
 |cont=>exact q
theorem Inv.quiet {a:List (ah×Obj)}{σ:St}{H:Hp}{s:av}(I:Inv X a σ H s):interactive X.env=false:=by simp[interactive,I.ok.kind]
def zJc (te:TE):TS:=fun D σ H=>te σ H fun _ H1=>D.nx σ H1
theorem vW (b:PE X e te)(c:swapsWith e none pos.line X.env=pure false:=by rfl):PS X (.Expr e pos) (zJc te):=by
 intro a s σ H D I h
 exact wpAny_Expr_any (zH (b a s σ H _ I h) fun v i ⟨x,d,f,j,g⟩=>⟨σ,d,f,g⟩) I.quiet c
def zEv (te:TE):TS:=fun D σ H=>te σ H D.rt
theorem zZ (b:PE X e te):PS X (.Return (some e) pos) (zEv te):=by
 intro a s σ H D I h
 exact wpAny_Return_some (zH (b a s σ H _ I h) fun v i ⟨x,c,d,f,g⟩=>⟨x,σ,c,d,f,g⟩)
def zJd (c:TT)(t u:TS):TS:=fun D σ H=>c σ H fun b H1=>if b=true then t D σ H1 else u D σ H1
theorem vX {c:bV}{a b:List cp}{g:TT}(n:PT X c g)(o:vU X a t)(p:vU X b u):PS X (.If c a b pos) (zJd g t u):=by
 intro f s σ H D I h
 refine wpAny_If (zH (n f s σ H _ I h) fun d i ⟨j,l,m⟩=>?_)
 cases d with
 |true=>exact o f i σ j D l m
 |false=>exact p f i σ j D l m
end
abbrev TG:=V->St->Hp->(St->Hp->Prop)->Prop
abbrev kX:=List V->St->Hp->(St->Hp->Prop)->Prop
def PG (X:Cx)(target:bV)(t:TG):Prop :=
 ∀(pins:List (ah×Obj)) (s:av) (σ:St) (H:Hp) (v:V) (u:ag) (Q:St->Hp->Prop),Inv X pins σ H s->zQ v u->t v σ H Q->
  wpAny (model X.prog X.w) X.A (assign target X.env u) (fun _ s'=>∃σ' H',Inv X pins σ' H' s'/\Q σ' H') X.xe s
def PGs (X:Cx)(ts:List bV)(t:kX):Prop :=
 ∀(pins:List (ah×Obj)) (s:av) (σ:St) (H:Hp) (vs:List V) (us:List ag) (Q:St->Hp->Prop),Inv X pins σ H s->zM vs us->t vs σ H Q->
  wpAny (model X.prog X.w) X.A (assignInOrder ((assignEach ts X.env).map (·.2)) us) (fun _ s'=>∃σ' H',Inv X pins σ' H' s'/\Q σ' H') X.xe s
section
variable{X:Cx}{pos:Pos}
def jX (i:Nat):TG:=fun v σ H Q=>Q (σ.set i (some v)) H
theorem z0 {i:Nat}{x:Str}(b:X.N.Nodup)(hi:X.N[i]?=some x)(c:Loc X.env.scope x)(d:X.fn x=true\/X.env.scope.names.lookup x=some .local:=by first|exact .inl rfl|exact .inr rfl|assumption):PG X (.Name x pos) (jX i):=by
 intro a s σ H v u Q I r h
 exact nQ (g9 I b hi c r (fun s' e=>⟨_,H,e,h⟩) d)
def zJe:kX:=fun vs σ H Q=>vs=[]/\Q σ H
def zJf (t:TG)(u:kX):kX:=fun vs σ H Q=>∃v r,vs=v::r/\t v σ H fun σ' H'=>u r σ' H' Q
theorem kY:PGs X [] zJe:=by
 intro a s σ H vs b Q I r h
 obtain⟨e,h⟩:=h
 subst e
 cases r
 exact nR ⟨σ,H,I,h⟩
theorem uF {e:bV}{b:List bV}{t:TG}{u:kX}(c:PG X e t)(d:PGs X b u)
  (f:(assignEach (e::b) X.env).map (·.2)=assign e X.env::(assignEach b X.env).map (·.2):=by rfl):PGs X (e::b) (zJf t u):=by
 intro a s σ H vs p Q I r h
 obtain⟨v,q,g,h⟩:=h
 subst g
 cases r with
 |cons r i=>
  rw[f]
  refine jl (zH (c a s σ H _ _ _ I r h) fun _ j ⟨l,m,n,o⟩=>?_)
  exact d a j l m _ _ Q n i o
def zEw (K:ae)(n:Nat)(t:kX):TG:=fun v σ H Q=>∃a xs,v=.ref a/\yN K H a xs/\xs.length=n/\t xs σ H Q
theorem kZ {d:List bV}{k:Nat}{t:kX}{n:Nat}(j:X.calm=true)(h:PGs X d t)
  (l:(assignEach d X.env).length=n:=by rfl) (f:(assignEach d X.env).findIdx? (·.1)=none:=by rfl):PG X (.Tuple d k pos) (zEw X.K n t):=by
 intro c s σ H v u Q I r g
 obtain⟨a,xs,m,p,hl,g⟩:=g
 subst m
 cases r
 obtain⟨its,i,q,hz⟩:=I.tuple p
 refine assign_Tuple_tuple (I.ok.hd j) q (by simp[l,<-hl,i.length]) f fun h' w=>?_
 have x:Inv X c σ H {s with heap:=h'}:=I.kept (t':=s.toks) fun b o e=>w b o (bf (aI e)) e
 exact h c _ σ H xs _ Q x (by simpa using i) g
def zCP (te:TE)(g:TG):TS:=fun D σ H=>te σ H fun x H1=>g x σ H1 D.nx
theorem zJg {b e:bV}{c:TE}{g:TG}(d:PE X e c)(f:PG X b g)(i:swapsWithSole [b] e pos.line X.env=pure false:=by rfl)(j:swappedStores [b] e X.env=pure none:=by rfl)
  (l:(assignEach [b] X.env).map (·.2)=[assign b X.env]:=by rfl):PS X (.Assign [b] e pos) (zCP c g):=by
 intro a s σ H D I h
 refine wpAny_Assign_stores (zH (d a s σ H _ I h) fun v m ⟨x,n,o,p,r⟩=>?_) i j
 rw[l]
 exact zH (f a m σ n x v _ o p r) fun _ t q=>q
theorem zV {i:Nat}{x:Str}{e:bV}{c:TE}{a:Pos}(d:X.N.Nodup)(hi:X.N[i]?=some x)(f:Loc X.env.scope x)(g:PE X e c)(j:swapsWith e (some (.Name x a)) pos.line X.env=pure false:=by rfl)(l:X.fn x=true\/X.env.scope.names.lookup x=some .local:=by first|exact .inl rfl|exact .inr rfl|assumption) :
  PS X (.Assign [.Name x a] e pos) (zCP c (jX i)):=by
 intro b s σ H D I h
 refine wpAny_Assign_Name (zH (g b s σ H _ I h) fun v r ⟨y,m,n,o,p⟩=>?_) j
 exact g9 n d hi f o (fun t q=>⟨_,m,q,p⟩) l
def zJh (i j:Nat)(ta:TA):TS:=fun D σ H=>ta σ H fun vs H1=>∃v w,vs=[v,w]/\D.nx ((σ.set i (some v)).set j (some w)) H1
theorem zJi {i j:Nat}{x y:Str}{a b:bV}{z:TA}{l py pt:Pos}{m k2 d}(J:X.calm=true)(B:X.N.Nodup)(hi:X.N[i]?=some x)(L:X.N[j]?=some y)(n:i≠j)
  (C:X.env.scope.names.lookup x=some .local) (E:X.env.scope.names.lookup y=some .local) (M:PA X [a,b] z)
  (O:swappedStores [.Tuple [.Name x l,.Name y py] m pt] (.Tuple [a,b] k2 d) X.env=pure (some [x,y]))
  (P:swapsWithSole [.Tuple [.Name x l,.Name y py] m pt] (.Tuple [a,b] k2 d) pos.line X.env=pure false:=by rfl) :
  PS X (.Assign [.Tuple [.Name x l,.Name y py] m pt] (.Tuple [a,b] k2 d) pos) (zJh i j z):=by
 intro c s σ H D I h
 rw[exec_Assign_arm]
 refine aw (nv ?_)
 rw[P]
 refine aw (aH ?_)
 rw[if_neg (by decide)]
 refine aw (Tuple_ (zH (M _ c s σ H _ I h) fun Q f ⟨vs,F,R,T,r⟩=>?_))
 obtain⟨v,w,U,r⟩:=r
 subst U
 obtain⟨u1,g,rfl,W,t⟩:∃u1 g,Q=[u1,g]/\zQ v u1/\zQ w g:=by
  cases T with
  |cons p q=>
   cases q with
   |cons Y Z=>
    cases Z
    exact⟨_,_,rfl,p,Y⟩
 refine dR ?_ (by show 2<=sizeLine;decide)
 have I2:Inv X c σ F {f with heap:=f.heap.push {cls:=.type "tuple",data:=.seq [u1,g].toArray}}:=R.kept (t':=f.toks) fun b o e=>ai _ e
 rw[O]
 refine aw (aH ?_)
 show wpAny (model X.prog X.w) X.A (do rule "assign.swapped-stores";let items<-unpackItems (.ref f.heap.objs.size) 2 none;assignInOrder [fun v=>bindName X.env y v,fun v=>bindName X.env x v] items.reverse;pure Flow.next) _ _ _
 refine aw (nJ (aw (unpackItems_tuple (items:=#[u1,g]) (I.ok.hd J) (sT f.heap _) fun h' u=>?_)))
 have I3:=I2.kept (h':=h') (t':=f.toks) fun b o e=>u b o (bf (aI e)) e
 show wpAny _ _ (assignInOrder [fun v=>bindName X.env y v,fun v=>bindName X.env x v] [g,u1]>>=fun _=>pure Flow.next) _ _ _
 refine aw (jl (pe (g9 I3 B L (.inl E) t (fun s2 I4=>?_) (.inr E))))
 refine jl (pe (g9 I4 B hi (.inl C) W (fun s3 G=>nR (aH ?_)) (.inr C)))
 rw[List.set_comm _ _ (fm n)]at G
 exact⟨_,F,G,r⟩
def zJj (c:TT)(tb:TS):TS:=fun D σ H=>∃W:Nat->St->Hp->Prop,(∃m,W m σ H)/\∀m σ H,W m σ H->
 c σ H fun b H1=>if b=true then∃N:St->Hp->Prop,(∀σ' H',N σ' H'->∃m',m'<m/\W m' σ' H')/\tb {D with nx:=N,ct:=N,bk:=D.nx} σ H1 else D.nx σ H1
theorem zCQ {c:bV}{body:List cp}{r:TT}{t:TS}(u:PassesOwn (model X.prog X.w) X.A X.env X.xe)(E:PT X c r)(F:vU X body t):PS X (.While c body [] pos) (zJj r t):=by
 intro a s σ H D I h
 obtain⟨W,⟨G,J⟩,d⟩:=h
 refine wpAny_While (codeAny_whileLoop (fun n s'=>∃x H',Inv X a x H' s'/\W n x H') ?_ G ⟨σ,H,I,J⟩)
 rintro n L ⟨i,y,M,O⟩
 refine eC u (zH (E a L i y _ M (d n i y O)) fun b P ⟨z,B,j⟩=>?_)
 cases b with
 |true=>
  obtain⟨N,C,j⟩:=j
  rw[if_pos rfl]
  refine eC u (zH (F a P i z _ B j) fun f Q l=>?_)
  cases f with
  |next=>
   obtain⟨e,g,m,o⟩:=l
   obtain⟨p,hm,q⟩:=C e g o
   exact⟨p,hm,e,g,m,q⟩
  |cont=>
   obtain⟨e,g,m,o⟩:=l
   obtain⟨p,hm,q⟩:=C e g o
   exact⟨p,hm,e,g,m,q⟩
  |brk=>exact l
  |ret v=>exact l
 |false=>
  rw[if_neg aY]
  exact gk ⟨i,z,B,j⟩
end
structure It where
 go:Nat->Hp->Prop
 yld:Nat->Hp->V->Hp->Prop
 stop:Nat->Hp->Prop
def qC (X:Cx)(pins:List (ah×Obj))(H:Hp)(b:ah):Prop :=
 H b=none/\b≠X.env.locals/\b∉X.fs/\(b∈X.ex\/X.s₀.heap.objs.size<=b)/\(∀x c,X.env.cells.lookup x=some c->c≠b)/\∀p∈X.pn++pins,p.1≠b
theorem Inv.fpOk {X:Cx}{a:List (ah×Obj)}{σ:St}{H H':Hp}{s:av}{b:ah}(I:Inv X a σ H s)(d:s.heap.objs.size<=b)(f:H' b=none):qC X a H' b:=by
 refine⟨f,eI (br I.lt d),I.nofs d,.inr (du I.sz d),fun x c e z=>?_,fun p g z=>?_⟩
 ·obtain⟨v,q⟩:=I.cell x c e
  exact absurd (br q.lt (by rw[z];exact d)) (bP _)
 ·exact absurd (br (aI (I.pin p g).1) (by rw[z];exact d)) (bP _)
structure Turn (P:aJ) (w:aV) (K:ae) (tg:bV) (J:It) (fp:List ah) (it:ah) (tn:Nat->bC->Prop):Prop where
 mem:it∈fp
 obj:∀i h,tn i h->∀b∈fp,∃o,h.get? b=some o/\∀v,o.data≠.cell v
 keep:∀i h h',tn i h->(∀b∈fp,∀o,h.get? b=some o->h'.get? b=some o)->tn i h'
 item:∀(X:Cx),X.prog=P->X.w=w->X.K=K->X.calm=true->∀(i:Nat) (pins:List (ah×Obj)) (s:av) (σ:St) (H:Hp) (E:ag->av->Prop),Inv X pins σ H s->(∀b∈fp,qC X pins H b)->tn i s.heap->J.go i H->
  wpAny (model P w) X.A (pyNext (.ref it)) (fun r s1=>∃u,r=some u/\
   wpAny (model P w) X.A (letOwnedTupleGo tg (.ref it) u) (fun _ s2=>∃x H',Inv X pins σ H' s2/\zQ x u/\J.yld i H x H'/\tn (i+1) s2.heap/\∀b∈fp,H' b=none) E s1) E s
 done:∀(X:Cx),X.prog=P->X.w=w->X.K=K->X.calm=true->∀(i:Nat) (pins:List (ah×Obj)) (s:av) (σ:St) (H:Hp) (E:ag->av->Prop),Inv X pins σ H s->(∀b∈fp,qC X pins H b)->tn i s.heap->J.stop i H->
  wpAny (model P w) X.A (pyNext (.ref it)) (fun r s1=>r=none/\Inv X pins σ H s1) E s
 self:∀(A:bM) (i:Nat) (s:av) (Q:ag->av->Prop) (E:ag->av->Prop),tn i s.heap->Q (.ref it) s->wpAny (model P w) A (pyIter (.ref it)) Q E s
abbrev TI:=St->Hp->(It->Hp->Prop)->Prop
def PIE (X:Cx)(pins:List (ah×Obj))(σ:St)(tg:bV)(R:It->Hp->Prop)(itv:ag)(s2:av):Prop :=
 ∃(it:ah) (fp:List ah) (tn:Nat->bC->Prop) (J:It) (H':Hp),itv=.ref it/\Inv X pins σ H' s2/\Turn X.prog X.w X.K tg J fp it tn/\tn 0 s2.heap/\(∀b∈fp,qC X pins H' b)/\R J H'
def PI (X:Cx)(tg iter:bV)(wi:TI):Prop :=
 ∀(pins:List (ah×Obj)) (s:av) (σ:St) (H:Hp) (R:It->Hp->Prop),Inv X pins σ H s->wi σ H R->
  wpAny (model X.prog X.w) X.A (eval iter X.env) (fun v s1=>wpAny (model X.prog X.w) X.A (pyIter v) (PIE X pins σ tg R) X.xe s1) X.xe s
theorem gG {M:oK}{A:bM}{E:ag->av->Prop}{s:av}{b:bV}{it:ah}{u:ag}{o:Obj}{n:String}{vs:Array ag}{Q:Unit->av->Prop}(c:s.heap.get? it=some o)(d:o.cls=.type n)(hd:o.data=.fields vs)
  (e:["enumerate","zip","dict_itemiterator","dict_reverseitemiterator","odict_iterator","itertools.zip_longest","itertools.pairwise"].contains n=false) (a:Q () s):wpAny M A (letOwnedTupleGo b (.ref it) u) Q E s:=by
 unfold letOwnedTupleGo
 cases b<;>first
  |exact aH a
  |(cases u<;>first
    |exact aH a
    |(refine aw (wpAny_load c ?_)
      rw[d,hd]
      show wpAny M A (if(["enumerate","zip","dict_itemiterator","dict_reverseitemiterator","odict_iterator","itertools.zip_longest","itertools.pairwise"].contains n&&vs[0]? ==some (rawInt _))=true then _ else _) Q E s
      rw[if_neg (by intro h;rw[e,Bool.false_and]at h;cases h)]
      exact aH a))
def Itl (K:ae)(a:ah):It :=
 ⟨fun i H=>∃xs x,yL K H a xs/\xs[i]?=some x,fun i H x H'=>H'=H/\∀xs,yL K H a xs->xs[i]?=some x,fun i H=>∃xs,yL K H a xs/\xs.length<=i⟩
def Itt (K:ae)(a:ah):It :=
 ⟨fun i H=>∃xs x,yN K H a xs/\xs[i]?=some x,fun i H x H'=>H'=H/\∀xs,yN K H a xs->xs[i]?=some x,fun i H=>∃xs,yN K H a xs/\xs.length<=i⟩
def Itr (lo:Int)(n:Nat):It:=⟨fun i _=>i<n,fun i H x H'=>H'=H/\x=.int (lo+i),fun i _=>n<=i⟩
theorem zJk {P:aJ}{w:aV}{K:ae}{J:bV}(a it:ah):Turn P w K J (Itl K a) [it] it (fun i h=>h.IsListIter it a i) where
 mem:=by simp
 obj:=fun i h st b g=>by
  have e:b=it:=by simpa using g
  subst e
  obtain⟨o,e,c,d⟩:=st
  exact⟨o,e,fun v z=>by rw[d]at z;cases z⟩
 keep:=fun i h h' st k=>st.at fun o e=>k it (by simp) o e
 item:=by
  intro X n q r G i f s σ H E I l st t
  subst n q r
  obtain⟨xs,x,m,y⟩:=t
  obtain⟨its,A,p,hz⟩:=I.list m
  obtain⟨u,L,M⟩:=A.get y
  obtain⟨B,f1,f2,C,D,F⟩:=l it (by simp)
  refine wpAny_pyNext_list_item st p.isList (x:=u) (by simpa using L) fun h' j N=>?_
  have O:Inv X f σ H {s with heap:=h'}:=I.turned (t':=s.toks) (fun b o g e=>(N.2 b g).trans e) B f1 C D F
  obtain⟨o,e,c,d⟩:=id j
  exact⟨u,rfl,gG (s:={s with heap:=h'}) e c d (by decide) ⟨x,H,O,M,⟨rfl,fun ys Q=>by rw[I.list_inj Q m];exact y⟩,j,fun b g=>(l b g).1⟩⟩
 done:=by
  intro X n q r G i f s σ H E I l st t
  subst n q r
  obtain⟨xs,m,y⟩:=t
  obtain⟨its,A,p,hz⟩:=I.list m
  obtain⟨B,f1,f2,C,D,F⟩:=l it (by simp)
  have hl:=A.length
  exact wpAny_pyNext_list_end (I.ok.hd G) st p.isList (by simp;omega) fun h' R=>⟨rfl,I.turned (t':=s.toks) (fun b o g e=>R b o g e) B f1 C D F⟩
 self:=fun _ _ _ _ _ st h=>wpAny_pyIter_listiter st h
theorem zJl {P:aJ}{w:aV}{K:ae}{J:bV}(a it:ah):Turn P w K J (Itt K a) [it] it (fun i h=>h.IsTupleIter it a i) where
 mem:=by simp
 obj:=fun i h st b g=>by
  have e:b=it:=by simpa using g
  subst e
  obtain⟨o,e,c,d⟩:=st
  exact⟨o,e,fun v z=>by rw[d]at z;cases z⟩
 keep:=fun i h h' st k=>st.at fun o e=>k it (by simp) o e
 item:=by
  intro X n q r G i f s σ H E I l st t
  subst n q r
  obtain⟨xs,x,m,y⟩:=t
  obtain⟨its,A,p,hz⟩:=I.tuple m
  obtain⟨u,L,M⟩:=A.get y
  obtain⟨B,f1,f2,C,D,F⟩:=l it (by simp)
  refine wpAny_pyNext_tuple_item st (show s.heap.IsTuple a its.toArray from p) (x:=u) (by simpa using L) fun h' j N=>?_
  have O:Inv X f σ H {s with heap:=h'}:=I.turned (t':=s.toks) (fun b o g e=>(N.2 b g).trans e) B f1 C D F
  obtain⟨o,e,c,d⟩:=id j
  exact⟨u,rfl,gG (s:={s with heap:=h'}) e c d (by decide) ⟨x,H,O,M,⟨rfl,fun ys Q=>by rw[I.tuple_inj Q m];exact y⟩,j,fun b g=>(l b g).1⟩⟩
 done:=by
  intro X n q r G i f s σ H E I l st t
  subst n q r
  obtain⟨xs,m,y⟩:=t
  obtain⟨its,A,p,hz⟩:=I.tuple m
  obtain⟨B,f1,f2,C,D,F⟩:=l it (by simp)
  have hl:=A.length
  exact wpAny_pyNext_tuple_end (I.ok.hd G) st (show s.heap.IsTuple a its.toArray from p) (by simp;omega) fun h' R=>⟨rfl,I.turned (t':=s.toks) (fun b o g e=>R b o g e) B f1 C D F⟩
 self:=fun _ _ _ _ _ st h=>wpAny_pyIter_tupleiter st h
theorem zJm {P:aJ}{w:aV}{K:ae}{y:bV}(it:ah)(lo:Int)(n:Nat):Turn P w K y (Itr lo n) [it] it (fun i h=>mL h it (lo+(i:Nat)*1) ((n:Int)- (i:Nat)) 1) where
 mem:=by simp
 obj:=fun i h st b c=>by
  have e:b=it:=by simpa using c
  subst e
  exact⟨_,st,fun v z=>by
   have A:Data.fields _=Data.cell v:=z
   cases A⟩
 keep:=fun i h h' st k=>k it (by simp) _ st
 item:=by
  intro X g j l m i a s σ H E I f st p
  subst g j l
  obtain⟨q,f1,f2,r,u,x⟩:=f it (by simp)
  have W:=rR (prog:=X.prog) (w:=X.w) (I.ok.hd m) it lo 1 n
  refine W.item i s _ _ p st fun v h' tk B d C=>?_
  obtain⟨t,rfl⟩:=B
  have D:Inv X a σ H {s with heap:=h',toks:=tk}:=I.turned (fun b o c e=>C b o (by simpa using c) e) q f1 r u x
  refine⟨_,rfl,gG (s:={s with heap:=h',toks:=tk}) (n :="range_iterator") d rfl rfl (by decide) ⟨.int (lo+i),H,D,⟨t,?_⟩,⟨rfl,rfl⟩,d,fun b c=>(f b c).1⟩⟩
  rw[Int.mul_one]
 done:=by
  intro X g j l m i a s σ H E I f st p
  subst g j l
  obtain⟨q,f1,f2,r,u,x⟩:=f it (by simp)
  exact lN (I.ok.hd m) st (by have:n<=i:=p;omega) fun h' F=>⟨rfl,I.turned (t':=s.toks) (fun b o c e=>F b o c e) q f1 r u x⟩
 self:=fun _ _ _ _ _ st h=>lO st h
section
variable{X:Cx}{tg:bV}
def zJn (K:ae)(tl:TE):TI:=fun σ H R=>tl σ H fun x H1=>∃a,x=.ref a/\(∃xs,yL K H1 a xs)/\R (Itl K a) H1
def zJo (K:ae)(tl:TE):TI:=fun σ H R=>tl σ H fun x H1=>∃a,x=.ref a/\(∃xs,yN K H1 a xs)/\R (Itt K a) H1
theorem uX {l:bV}{g:TE}(hl:PE X l g):PI X tg l (zJn X.K g):=by
 intro c s σ H R I h
 refine zH (hl c s σ H _ I h) fun v d ⟨x,i,f,j,m⟩=>?_
 obtain⟨a,e,⟨xs,n⟩,q⟩:=m
 subst e
 cases j
 obtain⟨its,t,p,hz⟩:=f.list n
 refine fK p.isList ?_
 refine⟨d.heap.objs.size,[d.heap.objs.size],_,_,i,rfl,f.kept (t':=d.toks) fun b o e=>ai _ e,zJk a _,⟨_,aM _ rfl,rfl,rfl⟩,fun b r=>?_,q⟩
 have e:b=d.heap.objs.size:=by simpa using r
 subst e
 exact f.fpOk (aD _) (f.hok.fresh (aD _))
theorem zBN {l:bV}{g:TE}(hl:PE X l g):PI X tg l (zJo X.K g):=by
 intro c s σ H R I h
 refine zH (hl c s σ H _ I h) fun v d ⟨x,i,f,j,m⟩=>?_
 obtain⟨a,e,⟨xs,n⟩,q⟩:=m
 subst e
 cases j
 obtain⟨its,t,p,hz⟩:=f.tuple n
 refine wpAny_pyIter_tuple (show d.heap.IsTuple a its.toArray from p) ?_
 refine⟨d.heap.objs.size,[d.heap.objs.size],_,_,i,rfl,f.kept (t':=d.toks) fun b o e=>ai _ e,zJl a _,⟨_,aM _ rfl,rfl,rfl⟩,fun b r=>?_,q⟩
 have e:b=d.heap.objs.size:=by simpa using r
 subst e
 exact f.fpOk (aD _) (f.hok.fresh (aD _))
theorem zEx {a:List (ah×Obj)}{σ:St}{H:Hp}{s:av}{R:It->Hp->Prop}{E:ag->av->Prop}{lo hi:Int}{t u v:Tok}{tk:Nat}(I:Inv X a σ H s)(d:-(2^62)<=lo)(f:lo<2^62)(g:-(2^62)<=hi)(h:hi<2^62)
  (q:R (Itr lo (hi-lo).toNat) H):wpAny (model X.prog X.w) X.A (pyIter (.ref s.heap.objs.size)) (PIE X a σ tg R) E {s with heap:=s.heap.push {cls:=.type "range",data:=.fields #[.int lo t,.int hi u,.int 1 v]},toks:=tk}:=by
 refine nK (rS ..) (small_one d f g h) ?_
 have c:Inv X a σ H {s with heap:=s.heap.push {cls:=.type "range",data:=.fields #[.int lo t,.int hi u,.int 1 v]},toks:=tk}:=I.kept fun b o e=>ai _ e
 refine⟨(s.heap.push {cls:=.type "range",data:=.fields #[.int lo t,.int hi u,.int 1 v]}).objs.size,[(s.heap.push {cls:=.type "range",data:=.fields #[.int lo t,.int hi u,.int 1 v]}).objs.size],_,_,H,rfl,
  c.kept (t':=tk) fun b o e=>ai _ e,zJm _ lo (hi-lo).toNat,?_,fun b i=>?_,q⟩
 ·have j:lo+((0:Nat):Int)*1=lo:=by simp
  have l:(((hi-lo).toNat:Nat):Int)- ((0:Nat):Int)=fc lo hi 1:=by rw[rangeSize_one];split<;>omega
  show mL _ _ (lo+((0:Nat):Int)*1) ((((hi-lo).toNat:Nat):Int)- ((0:Nat):Int)) 1
  rw[j,l]
  exact aM _ rfl
 ·have e:b=(s.heap.push {cls:=.type "range",data:=.fields #[.int lo t,.int hi u,.int 1 v]}).objs.size:=by simpa using i
  subst e
  exact c.fpOk (aD _) (c.hok.fresh (aD _))
def zJp (ta:TA):TI:=fun σ H R=>ta σ H fun vs H1=>∃j:Int,vs=[.int j]/\-(2^62)<=j/\j<2^62/\R (Itr 0 j.toNat) H1
def zJq (ta:TA):TI:=fun σ H R=>ta σ H fun vs H1=>∃i j:Int,vs=[.int i,.int j]/\(-(2^62)<=i/\i<2^62/\-(2^62)<=j/\j<2^62)/\R (Itr i (j-i).toNat) H1
theorem jD {a:bV}{d:TA}{p pos:Pos}(f:Gl X "range")(hm:X.mg "range"=none)(g:PA X [a] d)(i:starEach [a] X.env=[(false,eval a X.env)]:=by rfl):PI X tg (.Call (.Name "range" p) [a] [] pos) (zJp d):=by
 intro b s σ H R I h
 refine Call_ (kW I f hm pf (dm (zH (g pos b s σ H _ I h) fun u v ⟨vs,w,l,m,c⟩=>?_) i rfl))
 obtain⟨j,e,c,n,q⟩:=c
 subst e
 cases m with
 |cons r o=>
  cases o
  obtain⟨t,rfl⟩:=r
  exact call_range_1 (zEx l (by omega) (by omega) c n (by simpa using q))
theorem zCR {a b:bV}{l:TA}{p pos:Pos}(m:Gl X "range")(hm:X.mg "range"=none)(n:PA X [a,b] l)(o:starEach [a,b] X.env=[(false,eval a X.env),(false,eval b X.env)]:=by rfl)(c:starEach [b] X.env=[(false,eval b X.env)]:=by rfl) :
  PI X tg (.Call (.Name "range" p) [a,b] [] pos) (zJq l):=by
 intro d s σ H R I h
 refine Call_ (kW I m hm pf (dm (zH (n pos d s σ H _ I h) fun A B ⟨vs,C,u,v,f⟩=>?_) (by rw[o,c]) (by rw[c];rfl)))
 obtain⟨i,j,e,⟨f,w,x,y⟩,q⟩:=f
 subst e
 cases v with
 |cons r g=>
  cases g with
  |cons z g=>
   cases g
   obtain⟨t,rfl⟩:=r
   obtain⟨t',rfl⟩:=z
   exact call_range_2 (zEx u f w x y q)
def zJr (wi:TI)(g:TG)(tb:TS):TS:=fun D σ H=>wi σ H fun J H1=>∃W:Nat->Nat->St->Hp->Prop,(∃m,W 0 m σ H1)/\∀i m σ H,W i m σ H->
 (J.stop i H/\D.nx σ H)\/(J.go i H/\∃N:St->Hp->Prop,(∀σ' H',N σ' H'->∃m',m'<m/\W (i+1) m' σ' H')/\∀x H',J.yld i H x H'->g x σ H' fun σ2 H2=>tb {D with nx:=N,ct:=N,bk:=D.nx} σ2 H2)
def zAA (fp:List ah)(h:bC):List (ah×Obj):=fp.filterMap fun b=>(h.get? b).map fun o=>(b,o)
theorem gH {fp:List ah}{h:bC}{b:ah}{o:Obj}(a:b∈fp)(e:h.get? b=some o):(b,o)∈zAA fp h:=jm.mpr ⟨b,a,by rw[e];rfl⟩
theorem zJs {fp:List ah}{h:bC}{p:ah×Obj}(a:p∈zAA fp h):p.1∈fp/\h.get? p.1=some p.2:=by
 obtain⟨b,c,e⟩:=jm.mp a
 cases q:h.get? b with
 |none=>rw[q]at e;cases e
 |some o=>
  rw[q]at e
  have d:(b,o)=p:=ay e
  subst d
  exact⟨c,q⟩
theorem Inv.pinned {a:List (ah×Obj)}{σ:St}{H:Hp}{s:av}{fp:List ah}(I:Inv X a σ H s)(g:∀b∈fp,qC X a H b)(h:∀b∈fp,∃o,s.heap.get? b=some o/\∀v,o.data≠.cell v):Inv X (a++zAA fp s.heap) σ H s :=
 I.pins_of fun p i=>(bG.mp i).elim (fun z=>I.pin p (aS _ z)) fun z=>by
  obtain⟨c,e⟩:=zJs z
  obtain⟨j,f1,f2,_⟩:=g p.1 c
  obtain⟨o,f,d⟩:=h p.1 c
  rw[e]at f;cases f
  exact⟨e,j,f1,f2,d⟩
theorem Inv.unpinned {a b:List (ah×Obj)}{σ:St}{H:Hp}{s:av}(I:Inv X (a++b) σ H s):Inv X a σ H s:=I.pins_of fun p c=>I.pin p (aS _ (bJ _ c))
theorem vS {iter:bV}{body:List cp}{Y:TI}{g:TG}{Z:TS}{pos:Pos}(z:PassesOwn (model X.prog X.w) X.A X.env X.xe)(hc:X.calm=true)(hi:PI X tg iter Y)(hg:PG X tg g)(c:vU X body Z)
  (hs:∀x,foldedSetIterable iter X.env x=pure x:=by intro _;rfl):PS X (.For tg iter body [] pos) (zJr Y g Z):=by
 intro a s σ H D I h
 refine wpAny_For (zH (hi a s σ H _ I h) fun v s1 h1=>zH h1 fun ab s2 h2=>?_) hs
 obtain⟨it,fp,tn,J,H2,e,I2,T,O,f2,W,⟨m0,w0⟩,B⟩:=h2
 subst e
 have j:∀{H':Hp},(∀b∈fp,H' b=none)->∀b∈fp,qC X a H' b:=fun hn b c=>⟨hn b c,(f2 b c).2⟩
 refine codeAny_forLoop_any (fun n s'=>∃i C H',Inv X a C H' s'/\tn i s'.heap/\(∀b∈fp,H' b=none)/\W i n C H') ?_ m0 ⟨0,σ,H2,I2,O,fun b c=>(f2 b c).1,w0⟩
 rintro n s3 ⟨i,E,M,I3,F,G,w3⟩
 rcases B i n E M w3 with⟨stop,qn⟩|⟨go,N,hN,step⟩
 ·refine eC z (zH (T.done X rfl rfl rfl hc i a s3 E M X.xe I3 (j G) F stop) fun r s4 ⟨P,I4⟩=>?_)
  subst P
  exact gk ⟨E,M,I4,qn⟩
 ·refine eC z (zH (T.item X rfl rfl rfl hc i a s3 E M X.xe I3 (j G) F go) fun r s4 ⟨u,P,h4⟩=>?_)
  subst P
  refine eC z (zH h4 fun _ s5 ⟨x,H5,I5,r5,y5,y,Q⟩=>?_)
  have R:=I5.pinned (j Q) (T.obj _ _ y)
  refine eC z (zH (hg _ s5 E H5 x u _ R r5 (step x H5 y5)) fun _ s6 ⟨σ6,H6,I6,q6⟩=>?_)
  refine eC z (zH (c _ s6 σ6 H6 _ I6 q6) fun f U t=>?_)
  have again:∀{l:St} {p:Hp},Inv X (a++zAA fp s5.heap) l p U->N l p->∃m,m<n/\∃i C H',Inv X a C H' U/\tn i U.heap/\(∀b∈fp,H' b=none)/\W i m C H':=fun{l p} q L=>by
   obtain⟨m',hm,w7⟩:=hN l p L
   refine⟨m',hm,i+1,l,p,q.unpinned,T.keep _ _ _ y fun b c o e=>(q.pin (b,o) (aS _ (aS _ (gH c e)))).1,fun b c=>?_,w7⟩
   obtain⟨o,e,d⟩:=T.obj _ _ y b c
   exact(q.pin (b,o) (aS _ (aS _ (gH c e)))).2.1
  cases f with
  |next=>obtain⟨l,p,q,L⟩:=t;exact again q L
  |cont=>obtain⟨l,p,q,L⟩:=t;exact again q L
  |brk=>obtain⟨l,p,q,t⟩:=t;exact⟨l,p,q.unpinned,t⟩
  |ret v=>obtain⟨x7,l,p,q,r7,t⟩:=t;exact⟨x7,l,p,q.unpinned,r7,t⟩
end
abbrev R2:=V->V->Hp->VK->Prop
def yK (X:Cx)(f:ag->ag->Sem ag)(r:R2):Prop :=
 ∀(pins:List (ah×Obj)) (s:av) (σ:St) (H:Hp) (x y:V) (v u:ag) (Q:VK),Inv X pins σ H s->zQ x v->zQ y u->r x y H Q->
  wpAny (model X.prog X.w) X.A (f v u) (EP X pins σ Q) X.xe s
def UnR (X:Cx)(f:ag->Sem ag)(r:V->Hp->VK->Prop):Prop :=
 ∀(pins:List (ah×Obj)) (s:av) (σ:St) (H:Hp) (x:V) (v:ag) (Q:VK),Inv X pins σ H s->zQ x v->r x H Q->
  wpAny (model X.prog X.w) X.A (f v) (EP X pins σ Q) X.xe s
def uG (X:Cx)(f:ag)(r:List V->Hp->VK->Prop):Prop :=
 ∀(pins:List (ah×Obj)) (s:av) (σ:St) (H:Hp) (xs:List V) (us:List ag) (Q:VK),Inv X pins σ H s->zM xs us->r xs H Q->
  wpAny (model X.prog X.w) X.A (call f us) (EP X pins σ Q) X.xe s
def tOp (r:R2)(ta tb:TE):TE:=fun σ H Q=>ta σ H fun x H1=>tb σ H1 fun y H2=>r x y H2 Q
def tUn (r:V->Hp->VK->Prop)(ta:TE):TE:=fun σ H Q=>ta σ H fun x H1=>r x H1 Q
def rI (C:Int->Int->Prop)(g:Int->Int->V):R2:=fun x y H Q=>∃i j,x=.int i/\y=.int j/\C i j/\Q (g i j) H
def jY (g:Int->Int->V):R2:=fun x y H Q=>∃i j,x=.int i/\y=.int j/\Q (g i j) H
def rU (g:Int->V):V->Hp->VK->Prop:=fun x H Q=>∃i,x=.int i/\Q (g i) H
section
variable{X:Cx}{a b c:bV}{ta tb tc:TE}{pos:Pos}
theorem zCS (j:PE X a ta)(l:PE X b tb){d:List (ah×Obj)}{s:av}{σ:St}{H:Hp}{R:V->V->Hp->Prop}(I:Inv X d σ H s)
  (h:ta σ H fun x i=>tb σ i fun y e=>R x y e) {Q:ag->av->Prop} {f:ag->ag->Sem ag}
  (m:∀v u g x y e,Inv X d σ e g->zQ x v->zQ y u->R x y e->wpAny (model X.prog X.w) X.A (f v u) Q X.xe g) :
  wpAny (model X.prog X.w) X.A (eval a X.env) (fun v n=>wpAny (model X.prog X.w) X.A (eval b X.env) (fun u o=>wpAny (model X.prog X.w) X.A (f v u) Q X.xe o) X.xe n) X.xe s:=by
 refine zH (j d s σ H _ I h) fun v p ⟨x,i,q,r,t⟩=>?_
 refine zH (l d p σ i _ q t) fun u g ⟨y,e,z,B,C⟩=>?_
 exact m v u g x y e z r B C
theorem zR {op:Operator}{r:R2}(e:yK X (binaryOp op) r)(f:PE X a ta)(g:PE X b tb):PE X (.BinOp a op b pos) (tOp r ta tb):=by
 intro d s σ H Q I h
 exact wpAny_BinOp (zCS f g I h fun v u i x y j l m n q=>e d i σ j x y v u Q l m n q)
theorem zAh {op:UnaryOp}{r:V->Hp->VK->Prop}(e:UnR X (unaryOp op) r)(f:PE X a ta):PE X (.UnaryOp op a pos) (tUn r ta):=by
 intro d s σ H Q I h
 exact UnaryOp_ (zH (f d s σ H _ I h) fun v g ⟨x,i,j,l,m⟩=>e d g σ i x v Q j l m)
theorem opI {f:ag->ag->Sem ag}{C:Int->Int->Prop}{g:Int->Int->Int}
  (rule:∀(i j:Int) (t u:Tok) (s:av) (Q:ag->av->Prop) (E:ag->av->Prop),C i j->Q (.int (g i j) s.toks) {s with toks:=s.toks+1}->wpAny (model X.prog X.w) X.A (f (.int i t) (.int j u)) Q E s) :
  yK X f (rI C fun i j=>.int (g i j)):=by
 intro d s σ H x y v u Q I e l h
 obtain⟨i,j,rfl,rfl,m,q⟩:=h
 obtain⟨t,rfl⟩:=e
 obtain⟨t',rfl⟩:=l
 exact rule i j t t' s _ _ m ⟨.int (g i j),H,I.tok _,⟨_,rfl⟩,q⟩
theorem zEy {f:ag->ag->Sem ag}{g:Int->Int->Int}
  (rule:∀(i j:Int) (t u:Tok) (s:av) (Q:ag->av->Prop) (E:ag->av->Prop),Q (.int (g i j) s.toks) {s with toks:=s.toks+1}->wpAny (model X.prog X.w) X.A (f (.int i t) (.int j u)) Q E s) :
  yK X f (jY fun i j=>.int (g i j)):=by
 intro d s σ H x y v u Q I e l h
 obtain⟨i,j,rfl,rfl,q⟩:=h
 obtain⟨t,rfl⟩:=e
 obtain⟨t',rfl⟩:=l
 exact rule i j t t' s _ _ ⟨.int (g i j),H,I.tok _,⟨_,rfl⟩,q⟩
theorem zCT {f:ag->ag->Sem ag}{g:Int->Int->Bool}
  (rule:∀(i j:Int) (t u:Tok) (s:av) (Q:ag->av->Prop) (E:ag->av->Prop),Q (.bool (g i j)) s->wpAny (model X.prog X.w) X.A (f (.int i t) (.int j u)) Q E s) :
  yK X f (jY fun i j=>.bl (g i j)):=by
 intro d s σ H x y v u Q I e l h
 obtain⟨i,j,rfl,rfl,q⟩:=h
 obtain⟨t,rfl⟩:=e
 obtain⟨t',rfl⟩:=l
 exact rule i j t t' s _ _ ⟨.bl (g i j),H,I,rfl,q⟩
def zJt (i j:Int):Prop:=0<j/\j<1073741824
def zJu (i j:Int):Prop:=0<=j/\j<=1000000/\i.natAbs<2^64
def zAB (i j:Int):Prop:=(-(2^64)<i/\i<2^64)\/(-(2^64)<j/\j<2^64)
theorem zAB.ok {i j:Int}(h:zAB i j):IntMulOk i j:=by
 rcases h with⟨d,e⟩|⟨d,e⟩
 ·exact .of_left (pW d e)
 ·exact .of_right (pW d e)
theorem y0:yK X (binaryOp .Add) (jY fun i j=>.int (i+j)):=zEy fun _ _ _ _ _ _ _ q=>add_int q
theorem zCU:yK X (binaryOp .Sub) (jY fun i j=>.int (i-j)):=zEy fun _ _ _ _ _ _ _ q=>sub_int q
theorem qQ:yK X (binaryOp .Mult) (rI zAB fun i j=>.int (i*j)):=opI fun _ _ _ _ _ _ _ d q=>mul_int q d.ok
theorem zAC:yK X (binaryOp .FloorDiv) (rI zJt fun i j=>.int (i/j)):=opI fun i j _ _ _ _ _ d q=>by
 have e:(0:Int)<j:=d.1
 have f:j<1073741824:=d.2
 exact floordiv_int (by omega) (by rw[jn i (by omega)];exact q) (.inl (lP (by omega)))
theorem k6:yK X (binaryOp .Mod) (rI (fun _ j=>0<j) fun i j=>.int (i%j)):=opI fun i j _ _ _ _ _ d q=>by
 have e:(0:Int)<j:=d
 exact mod_int' (by omega) (by rw[Int.fmod_eq_emod_of_nonneg i (by omega)];exact q)
theorem zJv:yK X (binaryOp .Pow) (rI zJu fun i j=>.int (i^j.toNat)):=opI fun _ _ _ _ _ _ _ d q=>pow_int_small d.1 d.2.1 d.2.2 q
theorem unI {f:ag->Sem ag}{g:Int->Int}
  (rule:∀(i:Int) (t:Tok) (s:av) (Q:ag->av->Prop) (E:ag->av->Prop),Q (.int (g i) s.toks) {s with toks:=s.toks+1}->wpAny (model X.prog X.w) X.A (f (.int i t)) Q E s) :
  UnR X f (rU fun i=>.int (g i)):=by
 intro d s σ H x v Q I e h
 obtain⟨i,rfl,q⟩:=h
 obtain⟨t,rfl⟩:=e
 exact rule i t s _ _ ⟨.int (g i),H,I.tok _,⟨_,rfl⟩,q⟩
theorem zAi:UnR X (unaryOp .USub) (rU fun i=>.int (-i)):=unI fun _ _ _ _ _ q=>neg_int q
end
def zEz:V->V->Bool
 | .non,.non=>true| .non,.int _=>true| .int _,.non=>true| .non,.bl _=>true| .bl _,.non=>true| .non,.str _=>true| .str _,.non=>true
 | .int _,.int _=>true| .bl _,.bl _=>true| .str _,.str _=>true| .byt _,.byt _=>true
 | .int _,.str _=>true| .str _,.int _=>true| .bl _,.str _=>true| .str _,.bl _=>true
 |_,_=>false
def rEq:R2:=fun x y H Q=>zEz x y=true/\Q (.bl (decide (x=y))) H
def rNe:R2:=fun x y H Q=>zEz x y=true/\Q (.bl (!decide (x=y))) H
theorem zFA {i j:Int}:decide (V.int i=V.int j)=(i==j):=by
 rw[eD]
 simp
theorem zFB {i j:Bool}:decide (V.bl i=V.bl j)=(i==j):=by
 rw[eD]
 simp
theorem zFC {i j:Str}:decide (V.str i=V.str j)=(i==j):=by
 rw[eD]
 simp
theorem zFD {i j:Array UInt8}:decide (V.byt i=V.byt j)=(i.toList==j.toList):=by
 rw[eD]
 cases i
 cases j
 simp
section
variable{X:Cx}{a b c:bV}{ta tb tc:TE}{pos:Pos}
theorem yU {d:List (ah×Obj)}{σ:St}{H:Hp}{s:av}{Q:VK}{k f:Bool}(I:Inv X d σ H s)(q:Q (.bl k) H)(e:k=f):EP X d σ Q (.bool f) s:=by
 subst e
 exact⟨.bl k,H,I,rfl,q⟩
theorem zFE:yK X (compareOp .Eq) rEq:=by
 intro g s σ H x y v u Q I f d h
 obtain⟨e,q⟩:=h
 cases x with
 |non=>
  cases f
  cases y with
  |non=>cases d;exact pL (yU I q (by simp))
  |bl j=>cases d;exact pM (yU I q (by simp))
  |int j=>obtain⟨t',rfl⟩:=d;exact pX (yU I q (by simp))
  |str j=>obtain⟨t',rfl⟩:=d;exact pY (yU I q (by simp))
  |_=>exact absurd (show false=true from e) aY
 |bl i=>
  cases f
  cases y with
  |non=>cases d;exact pN (yU I q (by simp))
  |bl j=>cases d;exact eq_bool (yU I q zFB)
  |str j=>obtain⟨t',rfl⟩:=d;exact pO (yU I q (by simp))
  |_=>exact absurd (show false=true from e) aY
 |int i=>
  obtain⟨t,rfl⟩:=f
  cases y with
  |non=>cases d;exact pZ (yU I q (by simp))
  |int j=>obtain⟨t',rfl⟩:=d;exact eq_int (yU I q zFA)
  |str j=>obtain⟨t',rfl⟩:=d;exact p7 (yU I q (by simp))
  |_=>exact absurd (show false=true from e) aY
 |str i=>
  obtain⟨t,rfl⟩:=f
  cases y with
  |non=>cases d;exact p8 (yU I q (by simp))
  |bl j=>cases d;exact pP (yU I q (by simp))
  |int j=>obtain⟨t',rfl⟩:=d;exact p9 (yU I q (by simp))
  |str j=>obtain⟨t',rfl⟩:=d;exact eq_str (yU I q zFC)
  |_=>exact absurd (show false=true from e) aY
 |byt i=>
  obtain⟨t,rfl⟩:=f
  cases y with
  |byt j=>obtain⟨t',rfl⟩:=d;exact PySem.W.eq_bytes (yU I q zFD)
  |_=>exact absurd (show false=true from e) aY
 |_=>cases y<;>exact absurd (show false=true from e) aY
theorem gI:yK X (compareOp .NotEq) rNe:=by
 intro g s σ H x y v u Q I f d h
 obtain⟨e,q⟩:=h
 cases x with
 |non=>
  cases f
  cases y with
  |non=>cases d;exact pQ (yU I q (by simp))
  |bl j=>cases d;exact pR (yU I q (by simp))
  |int j=>obtain⟨t',rfl⟩:=d;exact qa (yU I q (by simp))
  |str j=>obtain⟨t',rfl⟩:=d;exact qb (yU I q (by simp))
  |_=>exact absurd (show false=true from e) aY
 |bl i=>
  cases f
  cases y with
  |non=>cases d;exact pS (yU I q (by simp))
  |bl j=>cases d;exact ne_bool (yU I q (congrArg not zFB))
  |str j=>obtain⟨t',rfl⟩:=d;exact pT (yU I q (by simp))
  |_=>exact absurd (show false=true from e) aY
 |int i=>
  obtain⟨t,rfl⟩:=f
  cases y with
  |non=>cases d;exact qc (yU I q (by simp))
  |int j=>obtain⟨t',rfl⟩:=d;exact ne_int (yU I q (congrArg not zFA))
  |str j=>obtain⟨t',rfl⟩:=d;exact qd (yU I q (by simp))
  |_=>exact absurd (show false=true from e) aY
 |str i=>
  obtain⟨t,rfl⟩:=f
  cases y with
  |non=>cases d;exact qe (yU I q (by simp))
  |bl j=>cases d;exact pU (yU I q (by simp))
  |int j=>obtain⟨t',rfl⟩:=d;exact qf (yU I q (by simp))
  |str j=>obtain⟨t',rfl⟩:=d;exact ne_str (yU I q (congrArg not zFC))
  |_=>exact absurd (show false=true from e) aY
 |byt i=>
  obtain⟨t,rfl⟩:=f
  cases y with
  |byt j=>obtain⟨t',rfl⟩:=d;exact PySem.W.ne_bytes (yU I q (congrArg not zFD))
  |_=>exact absurd (show false=true from e) aY
 |_=>cases y<;>exact absurd (show false=true from e) aY
theorem zFF:yK X (compareOp .Lt) (jY fun i j=>.bl (decide (i<j))):=zCT fun _ _ _ _ _ _ _ q=>lt_int q
theorem gJ:yK X (compareOp .LtE) (jY fun i j=>.bl (decide (i<=j))):=zCT fun _ _ _ _ _ _ _ q=>le_int q
theorem zBO:yK X (compareOp .Gt) (jY fun i j=>.bl (decide (j<i))):=zCT fun _ _ _ _ _ _ _ q=>gt_int q
theorem zJw:yK X (compareOp .In) (fun x y H Q=>∃i j,x=.str i/\y=.str j/\Q (.bl (!(gv j i 0 j.length 1).isEmpty)) H):=by
 intro d s σ H x y v u Q I e f h
 obtain⟨i,j,rfl,rfl,q⟩:=h
 obtain⟨t,rfl⟩:=e
 obtain⟨t',rfl⟩:=f
 exact in_str (yU I q rfl)
theorem yK.or {f:ag->ag->Sem ag}{r e:R2}(h:yK X f r)(h':yK X f e):yK X f (fun x y H Q=>r x y H Q\/e x y H Q):=by
 intro d s σ H x y v u Q I g i q
 rcases q with q|q
 ·exact h d s σ H x y v u Q I g i q
 ·exact h' d s σ H x y v u Q I g i q
theorem vD (b:bV){op:pb}(h:op≠.In:=by decide)(d:op≠.NotIn:=by decide):behindInMarks op b=false:=by
 have e:(op==CmpOp.In)=false:=by cases op<;>first|rfl|exact absurd rfl h
 have f:(op==CmpOp.NotIn)=false:=by cases op<;>first|rfl|exact absurd rfl d
 cases b<;>simp[behindInMarks,e,f]
theorem zAD {op:pb}{r:R2}(e:yK X (compareOp op) r)(f:PE X a ta)(g:PE X b tb)(hm:behindInMarks op b=false):PE X (.Compare a [op] [b] pos) (tOp r ta tb):=by
 intro d s σ H Q I h
 exact wpAny_Compare1 (zCS f g I h fun v u i x y j l m n q=>e d i σ j x y v u Q l m n q) hm
def zFG (t:TE):TT:=fun σ H Q=>t σ H fun x H'=>∃k,x=.bl k/\Q k H'
theorem vJ {op:pb}{r:R2}(f:yK X (compareOp op) r)(g:PE X a ta)(i:PE X b tb)(hm:behindInMarks op b=false):PT X (.Compare a [op] [b] pos) (zFG (tOp r ta tb)):=by
 intro d s σ H Q I h
 refine my (zH (g d s σ H _ I h) fun v j ⟨x,l,m,n,o⟩=>zH (i d j σ l _ m o) fun u p ⟨y,q,t,w,A⟩=>
  zH (f d p σ q x y v u _ t n w A) fun c F ⟨z,B,C,D,k,e,E⟩=>?_) hm
 subst e
 cases D
 exact dw ⟨B,C,E⟩
def zFH (r r':R2)(ta tb tc:TE):TE:=fun σ H Q=>ta σ H fun x H1=>tb σ H1 fun y H2=>r x y H2 fun z H3=>∃k,z=.bl k/\
 (if k=true then tc σ H3 fun w' H4=>r' y w' H4 Q else Q (.bl false) H3)
theorem zJx {op g:pb}{r j:R2}(p:yK X (compareOp op) r)(i:yK X (compareOp g) j)(q:PE X a ta)(t:PE X b tb)(w:PE X c tc)
  (hm:lastMarks [op,g] [b,c]=false:=by with_unfolding_all rfl):PE X (.Compare a [op,g] [b,c] pos) (zFH r j ta tb tc):=by
 intro f s σ H Q I h
 refine Compare_chain (zH (q f s σ H _ I h) fun v A ⟨x,B,C,D,E⟩=>chain_link (zH (t f A σ B _ C E) fun u F ⟨y,G,J,l,L⟩=>
  zH (p f F σ G x y v u _ J D l L) fun d M ⟨z,m,n,N,k,e,o⟩=>?_)) hm
 subst e
 cases N
 refine dw ?_
 cases k with
 |false=>exact ite_ff ⟨.bl false,m,n,rfl,o⟩
 |true=>exact ite_tt (chain_last (zH (w f M σ m _ n o) fun O P ⟨R,T,U,W,Y⟩=>i f P σ T y R u O Q U l W Y))
theorem zFI {op g:pb}{r j:R2}(p:yK X (compareOp op) r)(i:yK X (compareOp g) j)(q:PE X a ta)(t:PE X b tb)(w:PE X c tc)
  (hm:lastMarks [op,g] [b,c]=false:=by with_unfolding_all rfl):PT X (.Compare a [op,g] [b,c] pos) (zFG (zFH r j ta tb tc)):=by
 intro f s σ H Q I h
 refine isTrue_chain (zH (q f s σ H _ I h) fun v A ⟨x,B,C,D,E⟩=>test_link (zH (t f A σ B _ C E) fun u F ⟨y,G,J,l,L⟩=>
  zH (p f F σ G x y v u _ J D l L) fun d M ⟨z,m,n,N,k,e,o⟩=>?_)) hm
 subst e
 cases N
 refine dw ?_
 cases k with
 |false=>
  obtain⟨k',O,P⟩:=o
  cases O
  exact ite_ff ⟨m,n,P⟩
 |true=>
  refine ite_tt (test_last (zH (w f M σ m _ n o) fun R T ⟨U,W,Y,Z,q4⟩=>zH (i f T σ W y U u R _ Y l Z q4) fun d' s5 ⟨z2,H5,I5,r5,k2,e2,q5⟩=>?_))
  subst e2
  cases r5
  exact dw ⟨H5,I5,q5⟩
theorem zAj:(sizeLine:Nat)<2^63:=by rw[aR];decide
theorem zBP:yK X (binaryOp .Add) (fun x y H Q=>∃i j,x=.str i/\y=.str j/\i.length+j.length<=sizeLine/\Q (.str (i++j)) H):=by
 intro d s σ H x y v u Q I e f h
 obtain⟨i,j,rfl,rfl,hz,q⟩:=h
 obtain⟨t,rfl⟩:=e
 obtain⟨t',rfl⟩:=f
 exact add_str (fun t' tk=>⟨.str (i++j),H,I.tok _,⟨_,rfl⟩,q⟩) hz
theorem qR {x:V}{d:List ag}(r:zM [x] d):∃u,d=[u]/\zQ x u:=by
 cases r with
 |cons e f=>cases f;exact⟨_,rfl,e⟩
theorem zAE {x y:V}{d:List ag}(r:zM [x,y] d):∃u e,d=[u,e]/\zQ x u/\zQ y e:=by
 cases r with
 |cons f g=>
  cases g with
  |cons h i=>cases i;exact⟨_,_,rfl,f,h⟩
theorem zJy (f:X.calm=true):uG X (.builtin "max") (fun xs H Q=>∃i j,xs=[.int i,.int j]/\Q (.int (if j>i then j else i)) H):=by
 intro e s σ H xs g Q I r h
 obtain⟨i,j,rfl,q⟩:=h
 obtain⟨u,l,rfl,⟨t,rfl⟩,⟨t',rfl⟩⟩:=zAE r
 refine max_two_ints (I.ok.hd f) fun h' tk k=>⟨_,H,I.kept k,?_,q⟩
 by_cases d:j>i
 ·rw[if_pos d,if_pos d];exact⟨_,rfl⟩
 ·rw[if_neg d,if_neg d];exact⟨_,rfl⟩
theorem zFJ (f:X.calm=true):uG X (.builtin "min") (fun xs H Q=>∃i j,xs=[.int i,.int j]/\Q (.int (if j<i then j else i)) H):=by
 intro e s σ H xs g Q I r h
 obtain⟨i,j,rfl,q⟩:=h
 obtain⟨u,l,rfl,⟨t,rfl⟩,⟨t',rfl⟩⟩:=zAE r
 refine min_two_ints (I.ok.hd f) fun h' tk k=>⟨_,H,I.kept k,?_,q⟩
 by_cases d:j<i
 ·rw[if_pos d,if_pos d];exact⟨_,rfl⟩
 ·rw[if_neg d,if_neg d];exact⟨_,rfl⟩
end
structure ObjM (h:bC) (x dx C:ah) (mA:Str->Option ag):Prop where
 obj:h.get? x=some (me C dx)
 ns:h.Ns1 dx mA
 ne:dx≠x
theorem zJz {h:bC}{c:ah}{d:Str->Option ag}(n:h.Ns1 c d):∃od,h.get? c=some od/\∀name,mM name od=some (d name):=by
 obtain⟨o,f,ep,g,hd,i,_,hm⟩:=n
 refine⟨o,g,fun name=>?_⟩
 have e:=hm name
 unfold nsFind findBy at e
 rw[<-Array.find?_toList]at e
 unfold mM
 rw[hd]
 dsimp only
 split
 ·rename_i y q
  rw[q]at e
  exact congrArg some e
 ·rename_i q
  rw[q]at e
  have a:f.toList.any (·.refKey)=false:=by
   rw[List.any_eq_false]
   intro y j
   obtain⟨z,t,b⟩:=i y (Array.mem_toList_iff.mp j)
   simp[sU,b]
  have l:¬f.toList.any (·.refKey)=true:=by rw[a];exact aY
  rw[if_neg l]
  exact congrArg some e
theorem ObjM.look {h:bC}{x a C:ah}{b:Str->Option ag}(I:ObjM h x a C b):∃od,PySem.W.InstAt h x (me C a) C (some od)/\∀name,mM name od=some (b name) :=
 let⟨od,c,hl⟩:=zJz I.ns
 ⟨od,⟨I.obj,rfl,rfl,c⟩,hl⟩
theorem uW.some_of {v:V}{o:Option ag}(r:uW (some v) o):∃u,o=some u/\zQ v u:=by
 cases o with
 |none=>exact(show False from r).elim
 |some u=>exact⟨u,rfl,r⟩
section
variable{P:aJ}{w:aV}{H H':Hp}{h h':bC}{a C dx:ah}{fs fs':List (Str×V)}
theorem zKA (hok:z9 P w H h)(e:H a=some (.ins C dx fs)):∃b,ObjM h a dx C b/\(∀f,uW (fs.lookup f) (b f))/\ri b (fs.map (·.1))/\fs.length<=1000/\H dx=some (.own a):=by
 obtain⟨d,z,ne,c,b,n,r,q⟩:=(show yP P w H h a (.ins C dx fs)from hok a _ e)
 exact⟨b,⟨c,n,ne⟩,r,q,z,d⟩
end
structure Cls (K:ae) (C:ah):Prop where
 pg:ox K C qy=true
 hd:PySem.W.hasDictIn K C=true
 po:PySem.W.plainOver K C=true
 sa:dM K (.ref C) "__setattr__"=some (some (.builtin "object.__setattr__"))
theorem Cls.get {K:ae}{C:ah}(c:Cls K C)(f:Str):ox K C f=true:=c.pg
section
variable{X:Cx}{pins:List (ah×Obj)}{σ:St}{H:Hp}{s:av}{A:bM}{E:ag->av->Prop}{Q:ag->av->Prop}{c:ag}{b:Bool}
inductive TyOf (K:ae) (H:Hp):V->ag->Prop where
 |non:TyOf K H .non (.type "NoneType")
 |bl (x:Bool):TyOf K H (.bl x) (.type "bool")
 |int (i:Int):TyOf K H (.int i) (.type "int")
 |str (x:Str):TyOf K H (.str x) (.type "str")
 |flt (x:UInt64):TyOf K H (.flt x) (.type "float")
 |lst {a:ah} {xs:List V} (e:H a=some (.lst xs)):TyOf K H (.ref a) (.type "list")
 |frz {a:ah} {o:Obj} {xs:List V} (e:H a=some (.frz o (.lst xs))):TyOf K H (.ref a) (.type "list")
 |tup {a:ah} {xs:List V} (e:H a=some (.tup xs)):TyOf K H (.ref a) (.type "tuple")
 |dK {a:ah} {kvs:List (zK×V)} (e:H a=some (.dK kvs)):TyOf K H (.ref a) (.type "dict")
 |dT {a:ah} {kvs:List (List yR×V)} (e:H a=some (.dT kvs)):TyOf K H (.ref a) (.type "dict")
 |ins {a C dx:ah} {fs:List (Str×V)} (e:H a=some (.ins C dx fs)) (cl:Cls K C) (ha:dM K (.ref C) "__class__"=some (some (.builtin "object.__class__")))
   (hn:PySem.W.specialIn K (.builtin "object.__class__") "__get__"=some (some (.builtin "getset_descriptor.__get__"))) (htk:PySem.W.takesIn K (.builtin "object.__class__")=some true)
   (hm:ny K C (.type "object")=some true):TyOf K H (.ref a) (.ref C)
theorem zKB {x:V}{u t:ag}(I:Inv X pins σ H s)(d:zQ x u)(ty:TyOf X.K H x t)(e:bp X.K t c=some b)(h:∀tk,Q (.bool b) {s with toks:=tk}) :
  wpAny (model X.prog X.w) A (call (.builtin "isinstance") [u,c]) Q E s:=by
 cases ty with
 |non=>cases(show u=Value.none from d);exact ck PySem.W.kitx_none I.kIn True.intro e (fun z=>nomatch z) h
 |bl y=>cases(show u=Value.bool y from d);exact ck PySem.W.kitx_bool I.kIn True.intro e (fun z=>nomatch z) h
 |int i=>obtain⟨t,q⟩:=(show∃t,u=Value.int i t from d);cases q;exact ck PySem.W.kitx_int I.kIn True.intro e (fun z=>nomatch z) h
 |str y=>obtain⟨t,q⟩:=(show∃t,u=Value.str y t from d);cases q;exact ck PySem.W.kitx_str I.kIn True.intro e (fun z=>nomatch z) h
 |flt y=>obtain⟨t,q⟩:=(show∃t,u=Value.float y t from d);cases q;exact ck PySem.W.kitx_float I.kIn True.intro e (fun z=>nomatch z) h
 | @lst a xs f=>
  cases(show u=Value.ref a from d)
  obtain⟨_,_,n,_,g⟩:=(show yP X.prog X.w H s.heap a (.lst xs)from I.hok a _ f)
  exact ck nS I.kIn ⟨_,g,rfl⟩ e (fun z=>nomatch z) h
 | @frz a m xs f=>
  cases(show u=Value.ref a from d)
  obtain⟨_,_,_,n,_,g⟩:=(show yP X.prog X.w H s.heap a (.frz m (.lst xs))from I.hok a _ f)
  exact ck nS I.kIn ⟨_,g,rfl⟩ e (fun z=>nomatch z) h
 | @tup a xs f=>
  cases(show u=Value.ref a from d)
  obtain⟨_,_,_,p⟩:=(show yP X.prog X.w H s.heap a (.tup xs)from I.hok a _ f)
  obtain⟨o,g,j,_⟩:=p
  exact ck PySem.W.kitx_tuple I.kIn ⟨o,g,j⟩ e (fun z=>nomatch z) h
 | @dK a kvs f=>
  cases(show u=Value.ref a from d)
  obtain⟨_,_,vs,_,p⟩:=(show yP X.prog X.w H s.heap a (.dK kvs)from I.hok a _ f)
  obtain⟨o,r,ep,g,j,_⟩:=p
  exact ck nT I.kIn ⟨o,g,j.1⟩ e (fun z=>nomatch z) h
 | @dT a kvs f=>
  cases(show u=Value.ref a from d)
  obtain⟨_,_,xs,_,o,r,ep,g,j,_⟩:=(show yP X.prog X.w H s.heap a (.dT kvs)from I.hok a _ f)
  exact ck nT I.kIn ⟨o,g,j.1⟩ e (fun z=>nomatch z) h
 | @ins a C D fs f cl v B l hm=>
  cases(show u=Value.ref a from d)
  obtain⟨F,O,_⟩:=zKA I.hok f
  obtain⟨od,J,_⟩:=O.look
  exact ck (PySem.W.kitx_own (cl.get _) cl.hd v B l hm) I.kIn J e (fun z=>nomatch z) h
end
structure Room (k:Nat) (A:bM):Prop where
 hd:A.handled=none
 dp:A.depth+3*k+5<recursionLimit
 un:A.units+16*k+200<cLine
theorem Room.mono {j k:Nat}{A:bM}(r:Room k A)(h:j<=k):Room j A:=⟨r.hd,by have:=r.dp;omega,by have:=r.un;omega⟩
theorem Room.deeper {k:Nat}{A:bM}(r:Room (k+1) A)(env:Env):Room k (A.deeper env) :=
 ⟨r.hd,by have:=r.dp;show A.depth+1+3*k+5<_;omega,by have:=r.un;show A.units+3+16*k+200<_;omega⟩
theorem Room.in1 {k:Nat}{A:bM}(r:Room (k+1) A):Room k A.in1 :=
 ⟨r.hd,by have:=r.dp;show A.depth+3*k+5<_;omega,by have:=r.un;show A.units+1+16*k+200<_;omega⟩
theorem Room.depth {k:Nat}{A:bM}(r:Room k A):A.depth<recursionLimit:=by have:=r.dp;omega
theorem Room.units {k:Nat}{A:bM}(r:Room k A):A.units+64<cLine:=by have:=r.un;omega
def zFK:TA:=fun _ H Q=>Q [] H
def zFL (ta:TE)(tr:TA):TA:=fun σ H Q=>ta σ H fun x H1=>tr σ H1 fun xs H2=>Q (x::xs) H2
section
variable{X:Cx}{e:bV}{es:List bV}{te:TE}{t:TA}{pos:Pos}
theorem zD:PA X [] zFK:=fun _ _ _ _ H Q I h=>ki ⟨[],H,I,.nil,h⟩
theorem zB (b:PE X e te)(c:PA X es t)(d:starEach (e::es) X.env=(false,eval e X.env)::starEach es X.env:=by rfl):PA X (e::es) (zFL te t):=by
 intro pos a s σ H Q I h
 rw[d]
 show wpAny _ _ (spliced ((false,eval e X.env)::backTo pos (starEach es X.env))) _ _ s
 refine gr (zH (b a s σ H _ I h) fun u f ⟨x,g,i,j,l⟩=>?_)
 exact zH (c pos a f σ g _ i l) fun q r ⟨xs,m,n,o,p⟩=>⟨x::xs,m,n,.cons j o,p⟩
def zKC (t:TA):TE:=fun σ H Q=>t σ H fun xs H1=>xs.length<=sizeLine/\∀p,H1 p=none->Q (.ref p) (upd H1 p (.tup xs))
def zKD (t:TA):TE:=fun σ H Q=>t σ H fun xs H1=>xs.length<=sizeLine/\∀p,H1 p=none->Q (.ref p) (upd H1 p (.lst xs))
theorem uN {g}(h:PA X es t):PE X (.Tuple es g pos) (zKC t):=by
 intro a s σ H Q I i
 refine wpAny_Tuple_spliced (zH (h pos a s σ H _ I i) fun j c ⟨xs,d,f,r,z,q⟩=>⟨by rw[<-r.length];exact z,?_⟩)
 have l:d c.heap.objs.size=none:=f.hok.fresh (aD _)
 refine⟨.ref c.heap.objs.size,upd d c.heap.objs.size (.tup xs),f.laid (t':=c.toks) (fun b u e=>ai _ e) (aD _) ?_,rfl,q _ l⟩
 exact⟨z,j,r,⟨_,aM _ rfl,rfl,_,rfl⟩⟩
theorem vK (h:PA X es t):PE X (.List es pos) (zKD t):=by
 intro a s σ H Q I g
 refine wpAny_List_spliced (zH (h pos a s σ H _ I g) fun i c ⟨xs,d,f,r,z,q⟩=>⟨by rw[<-r.length];exact z,?_⟩)
 have j:d c.heap.objs.size=none:=f.hok.fresh (aD _)
 refine⟨.ref c.heap.objs.size,upd d c.heap.objs.size (.lst xs),f.laid (t':=c.toks) (fun b u e=>ai _ e) (aD _) ?_,rfl,q _ j⟩
 exact⟨z,i,0,r,aM _ rfl⟩
end
abbrev Sp:=List V->Hp->VK->XK->Prop
abbrev v7:=List Env->Hp->av->XK->ag->av->Prop
structure Env0 (P:aJ) (w:aV) (K:ae) (mg:Str->Option ag) (base:bC) (A:bM) (outer:List Env) (s:av) (H:Hp):Prop where
 frames:A.frames=some outer
 mod:Mod K mg base
 bs:∀b o,base.get? b=some o->s.heap.get? b=some o/\H b=none
 bsz:base.objs.size<=s.heap.objs.size
 funs:s.heap.FunFrames base outer
 frf:∀b∈yS outer,H b=none
 hok:z9 P w H s.heap
 bare:ja s.gens
def CE (outer:List Env)(P:aJ)(w:aV)(H:Hp)(s:av)(Q:VK)(u:ag)(s':av):Prop :=
 ∃v H',s'.os=s.os/\ja s'.gens/\Un (yS outer) [] H H' s.heap s'.heap/\z9 P w H' s'.heap/\zQ v u/\Q v H'
def CR (CX:v7)(outer:List Env)(P:aJ)(w:aV)(H:Hp)(s:av)(Q:VK)(E:XK)(r:oy)(s':av):Prop :=
 match r with
 | .ok (.ret u)=>CE outer P w H s Q u s'
 | .ok _=>False
 | .error e=>CX outer H s E e s'
structure FnOk (P:aJ) (w:aV) (K:ae) (mg:Str->Option ag) (base:bC) (CX:v7) (k:Nat) (f:ah) (fd:aX) (ps:List Str) (sp:Sp):Prop where
 len:∀vs H Q E,sp vs H Q E->vs.length=ps.length
 run:∀(A:bM) (outer:List Env) (s:av) (H:Hp) (args:Args) (us:List ag) (vs:List V) (Q:VK) (E:XK),Room k A->Env0 P w K mg base A outer s H->mZ s fd args (ps.zip us)->zM vs us->sp vs H Q E->
  codeAny (model P w) A (.call (.ref f) args) (CR CX outer P w H s Q E) s
theorem FnOk.imp {P:aJ}{w:aV}{K:ae}{mg:Str->Option ag}{base:bC}{CX:v7}{k:Nat}{f:ah}{fd:aX}{ps:List Str}{sp sp':Sp}(F:FnOk P w K mg base CX k f fd ps sp)
  (h:∀vs H Q E,sp' vs H Q E->sp vs H Q E):FnOk P w K mg base CX k f fd ps sp' :=
 ⟨fun vs H Q E q=>F.len vs H Q E (h _ _ _ _ q),fun A outer s H args a vs Q E b c d e g=>F.run A outer s H args a vs Q E b c d e (h _ _ _ _ g)⟩
theorem Env0.in1 {P:aJ}{w:aV}{K:ae}{mg:Str->Option ag}{base:bC}{A:bM}{outer:List Env}{s:av}{H:Hp}(e:Env0 P w K mg base A outer s H) :
  Env0 P w K mg base A.in1 outer s H:=⟨e.frames,e.mod,e.bs,e.bsz,e.funs,e.frf,e.hok,e.bare⟩
section
variable{X:Cx}{pins:List (ah×Obj)}{σ:St}{H:Hp}{s s':av}
theorem Inv.env0 (I:Inv X pins σ H s):Env0 X.prog X.w X.K X.mg X.base X.A X.stack s H :=
 ⟨I.ok.frames,I.ok.mod,I.bs,du I.ok.bsz I.sz,I.stack,I.stkFree,I.hok,I.bare⟩
theorem Inv.after {Q:VK}{u:ag}(I:Inv X pins σ H s)(h:CE X.stack X.prog X.w H s Q u s'):EP X pins σ Q u s':=by
 obtain⟨v,H',os,bare,un,hok,r,q⟩:=h
 obtain⟨c,g,d,t,a⟩:=s'
 obtain rfl:a=s.os:=os
 exact⟨v,H',I.call (h':=c) (g':=g) (d':=d) (t':=t) (ch:=[]) un hok bare (fun b z=>absurd z (by simp)),r,q⟩
end
def zAk (sp:Sp)(dvs:List V)(E:XK)(t:TA):TE:=fun σ H Q=>t σ H fun vs H1=>sp (vs++dvs) H1 Q E
def qD (K:ae)(fd:aX)(ps:List Str)(ds:List ag):Prop :=
 ∀(s:av) (us:List ag),K.In s.heap->(us++ds).length=ps.length->mZ s fd ⟨us,[]⟩ (ps.zip (us++ds))
theorem qD.all {K:ae}{fd:aX}{ps:List Str}(h:∀a:List ag,a.length=ps.length->bindArgs fd ⟨a,[]⟩=pure (ps.zip a)):qD K fd ps []:=fun s a _ hl=>by
 rw[mh]at hl⊢
 exact .of_eq (h a hl)
def gK (CX:v7)(X:Cx)(E:XK):Prop:=∀(pins:List (ah×Obj)) (σ:St) (H:Hp) (s:av) (e:ag) (s':av),Inv X pins σ H s->CX X.stack H s E e s'->X.xe e s'
section
variable{X:Cx}{CX:v7}{k:Nat}{f C:ah}{fd:aX}{ps:List Str}{sp:Sp}{dvs:List V}{ds:List ag}{E:XK}{x m:Str}{p pos apos:Pos}{e o:bV}{es:List bV}{ta:TE}{t:TA}
theorem zFM {a:List (ah×Obj)}{σ:St}{H:Hp}{s:av}{Q:VK}{b:List ag}{vs:List V}(F:FnOk X.prog X.w X.K X.mg X.base CX k f fd ps sp)(g:Room k X.A)(i:qD X.K fd ps ds)(hd:zM dvs ds)(j:gK CX X E)
  (I:Inv X a σ H s) (r:zM vs b) (h:sp (vs++dvs) H Q E):wpAny (model X.prog X.w) X.A (call (.ref f) b) (EP X a σ Q) X.xe s:=by
 have d:zM (vs++dvs) (b++ds):=r.append hd
 have hl:(b++ds).length=ps.length:=by rw[<-d.length];exact F.len _ _ _ _ h
 refine ph (eJ (F.run X.A X.stack s H ⟨b,[]⟩ (b++ds) (vs++dvs) Q E g I.env0 (i s b I.kIn hl) d h) fun r s' c=>?_)
 cases r with
 |error e=>exact j a σ H s e s' I c
 |ok l=>
  cases l with
  |ret u=>exact I.after c
  |next=>exact c8 c
  |brk=>exact c8 c
  |cont=>exact c8 c
theorem zFN (F:FnOk X.prog X.w X.K X.mg X.base CX k f fd ps sp)(g:Room k X.A)(i:Gl X x)(hm:X.mg x=some (.ref f))(j:dy X.K (.ref f)=true)(l:qD X.K fd ps ds)(hd:zM dvs ds)(n:gK CX X E)
  (u:PA X (e::es) t) (b:(x==("__debug__" : Str))=false:=by decide) (v:starEach (e::es) X.env=(false,eval e X.env)::starEach es X.env:=by rfl) (c:(backTo pos (starEach es X.env)).any (·.1)=false:=by rfl) :
  PE X (.Call (.Name x p) (e::es) [] pos) (zAk sp dvs E t):=by
 intro a s σ H Q I h
 refine eg (zAf I i hm ?_ b)
 refine jo (h₀:=X.base) I.ok.mod.kin j (zH (u pos a s σ H _ I h) fun y z ⟨vs,B,d,r,q⟩=>⟨d.kIn,?_⟩) v c
 exact zFM F g l hd n d r q
end
section
variable{X:Cx}{CX:v7}{k:Nat}{f C:ah}{fd:aX}{ps ks:List Str}{sp:Sp}{E:XK}{x m:Str}{p pos apos kpos:Pos}{e o:bV}{es:List bV}{kws:List o6}{te ta:TE}{t tk:TA}{nm:Option Str}
variable{g:List ag->List ag->List ag}{gV:List V->List V->List V}
end
structure FnScope (N P:List Str) (sc:fb):Prop where
 kind:sc.kind=.function
 co:sc.isCoroutine=false
 gen:sc.isGenerator=false
 nd:N.Nodup
 pre:N.take P.length=P
 par:∀x∈P,sc.names.lookup x=some .local\/sc.names.lookup x=some .cell
 nofree:∀y∈sc.names,y.2≠.free
theorem zFO {kindOf:Str->Option jq}{x:Str}:∀{binds:List (Str×ag)}{m:Str->Option ag},(∀v,(x,v)∉binds)->bindL kindOf binds m x=m x
 | [],_,_=>rfl
 |(n,v)::r,m,h=>by
  unfold bindL
  rw[zFO fun w a=>h w (ar _ a)]
  split
  ·have:x≠n:=by rintro rfl;exact h v aj
   simp[this]
  ·rfl
theorem zFP {kindOf:Str->Option jq}{x:Str}:∀{binds:List (Str×ag)}{m:Str->Option ag},(∀v,(x,v)∉binds)->bindC kindOf binds m x=m x
 | [],_,_=>rfl
 |(n,v)::r,m,h=>by
  unfold bindC
  rw[zFP fun w a=>h w (ar _ a)]
  split
  ·rfl
  ·have:x≠n:=by rintro rfl;exact h v aj
   simp[this]
theorem zCV {kindOf:Str->Option jq}{x:Str}{v:ag}:∀{P:List Str}{vs:List ag}{i:Nat}{m:Str->Option ag},P.Nodup->P[i]?=some x->vs[i]?=some v->kindOf x=some .local->
  bindL kindOf (P.zip vs) m x=some v
 | [],_,_,_,_,h,_,_=>by simp at h
 |_::_,[],_,_,_,_,h,_=>by simp at h
 |p::P,w::vs,0,m,nd,a,b,c=>by
  simp at a b;subst a;subst b
  show bindL kindOf ((p,w)::P.zip vs) m p=_
  unfold bindL
  rw[zFO fun v d=>(bE.mp nd).1 (iW d).1,if_pos c]
  simp
 |p::P,w::vs,i+1,m,nd,a,b,c=>by
  show bindL kindOf ((p,w)::P.zip vs) m x=_
  unfold bindL
  exact zCV (i:=i) (bE.mp nd).2 (by simpa using a) (by simpa using b) c
theorem zCW {kindOf:Str->Option jq}{x:Str}{v:ag}:∀{P:List Str}{vs:List ag}{i:Nat}{m:Str->Option ag},P.Nodup->P[i]?=some x->vs[i]?=some v->kindOf x≠some .local->
  bindC kindOf (P.zip vs) m x=some v
 | [],_,_,_,_,h,_,_=>by simp at h
 |_::_,[],_,_,_,_,h,_=>by simp at h
 |p::P,w::vs,0,m,nd,a,b,c=>by
  simp at a b;subst a;subst b
  show bindC kindOf ((p,w)::P.zip vs) m p=_
  unfold bindC
  rw[zFP fun v d=>(bE.mp nd).1 (iW d).1,if_neg c]
  simp
 |p::P,w::vs,i+1,m,nd,a,b,c=>by
  show bindC kindOf ((p,w)::P.zip vs) m x=_
  unfold bindC
  exact zCW (i:=i) (bE.mp nd).2 (by simpa using a) (by simpa using b) c
def start (N:List Str)(vs:List V):St:=vs.map some++aB (N.length-vs.length) none
def jE (CX:v7)(P:aJ)(w:aV)(K:ae)(mg:Str->Option ag)(base:bC)(N:List Str)(qual:Str)(scope:fb)(f:ah)(cd:ag)(A:bM)(outer:List Env)(s:av)(H:Hp)(E:XK):Cx where
 prog:=P
 w:=w
 K:=K
 mg:=mg
 base:=base
 A:=A.deeper (envOfC qual scope s.heap.objs.size f cd)
 N:=N
 s₀:=s
 H₀:=H
 env:=envOfC qual scope s.heap.objs.size f cd
 outer:=outer
 stack:=envOfC qual scope s.heap.objs.size f cd::outer
 ex:=[]
 calm:=true
 fn:=fun _=>true
 pn:=[]
 xe:=fun e s'=>wpAny (model P w) (A.deeper (envOfC qual scope s.heap.objs.size f cd)) (leaving (envOfC qual scope s.heap.objs.size f cd) e) (fun _ s''=>CX outer H s E e s'') (fun e' s''=>CX outer H s E e' s'') s'
theorem zBQ {a:fb}{n:Nat}{x:Str}(h:a.names.lookup x=some .cell):∃c,(cellsFrom n a.names []).lookup x=some c:=by
 have q:=ig a.names n [] (.inl h)
 exact kz.mp q
theorem zKE {CX:v7}{P:aJ}{w:aV}{K:ae}{mg:Str->Option ag}{base:bC}{N ps:List Str}{d:Str}{scope:fb}{f:ah}{B:ag}{A:bM}{outer:List Env}{s F:av}{H:Hp}{E:XK}{D:List ag}{vs:List V}
  (S:FnScope N ps scope) (hd:A.handled=none) (j:Env0 P w K mg base A outer s H) (hl:vs.length=ps.length) (r:zM vs D)
  (x:InCallC s s.heap.objs.size (bindL (envOfC d scope s.heap.objs.size f B).kindOf (ps.zip D) fun _=>none) (cellsFrom (s.heap.objs.size+1) scope.names []) (bindC (envOfC d scope s.heap.objs.size f B).kindOf (ps.zip D) fun _=>none) F) :
  Inv (jE CX P w K mg base N d scope f B A outer s H E) [] (start N vs) H F:=by
 have J:ps.length<=N.length:=by have:=congrArg iL S.pre;rw[aO]at this;omega
 obtain⟨C,tk,rfl,G⟩:=x.done
 have l:∀b:ah,b∉(jE CX P w K mg base N d scope f B A outer s H E).ex:=fun b z=>absurd (show b∈([]:List ah)from z) (by simp)
 refine⟨⟨j.mod,S.kind,rfl,rfl,aD _,fun y z c C g=>?_,fun y m=>?_,fun y c _ h=>?_,fun _=>hd,mO j.frames,.inr ⟨rfl,rfl⟩,fun b z=>absurd z (l b),j.bs,j.bsz,fun b _ _=>l b,fun b z=>absurd z (l b),j.funs,j.frf⟩,
  rfl,j.bare,Un.kept G,⟨_,x.toInCall.ns,fun i y v C g O=>?_⟩,fun y c h=>⟨_,x.cell y c h⟩,j.hok.fresh (aD _),fun y c h=>?_,fun p o=>absurd (show p∈([]:List (ah×Obj))from o) (by simp),j.hok.kept G,?_⟩
 ·exact name_of_addr x.apart (cc C) (cc g)
 ·have m:scope.names.lookup y=some .cell\/scope.names.lookup y=some .free:=m
  rcases m with m|m
  ·exact zBQ m
  ·exact absurd rfl (S.nofree _ (cc m))
 ·exact jb (x.above y c (cc h))
 ·have hi:i<vs.length:=by
   unfold start at g
   by_cases hi:i<vs.length
   ·exact hi
   ·rw[bw (by simpa using hi)]at g
    rw[dS]at g
    split at g<;>cases g
  have L:vs[i]?=some v:=by
   unfold start at g
   rw[bI (by simpa using hi),aq]at g
   cases e:vs[i]? with
   |none=>rw[e]at g;cases g
   |some a=>rw[e]at g;cases g;rfl
  obtain⟨u,I,M⟩:=r.get L
  have o:ps[i]?=some y:=by
   rw[<-S.pre,lg (by omega)];exact C
  have t:ps.Nodup:=by rw[<-S.pre];exact S.nd.sublist (dz _ _)
  refine⟨u,M,?_⟩
  rcases S.par y (aT o)with k|k
  ·exact .inl ⟨k,zCV t o I k⟩
  ·obtain⟨c,e⟩:=zBQ (n:=s.heap.objs.size+1) k
   refine .inr ⟨.inl k,c,e,?_⟩
   have q:=x.cell y c e
   rw[zCW t o I (by show scope.names.lookup y≠_;rw[k];decide)]at q
   exact q
 ·exact j.hok.fresh (jb (x.above y c (cc h)))
 ·unfold start
  show _=N.length
  rw[aE,aa,cZ]
  omega
theorem zFQ {CX:v7}{P:aJ}{w:aV}{K:ae}{mg:Str->Option ag}{base:bC}{k:Nat}{f:ah}{name a:Str}{d:qx}{body:List cp}{scope:fb}{G kV j pm c ct R:ag}{L od:Option ah}
  {z:Array (Option ag)} {N ps:List Str} {sp:Sp} (T:K.lookup f=some ⟨R,od,.func (dt name a d body scope G kV j pm L c ct),z⟩) (B:fO K c a=true) (S:FnScope N ps scope)
  (len:∀vs H Q E,sp vs H Q E->vs.length=ps.length)
  (g:∀(A:bM) (outer:List Env) (s:av) (H:Hp) (vs:List V) (Q:VK) (E:XK),Room k (A.deeper (envOfC a scope s.heap.objs.size f c))->sp vs H Q E->
   ∃t,vU (jE CX P w K mg base N a scope f c A outer s H E) body t/\t {nx:=fun _ H'=>Q .non H',rt:=Q} (start N vs) H) :
  FnOk P w K mg base CX (k+1) f (dt name a d body scope G kV j pm L c ct) ps sp:=by
 refine⟨len,fun A outer s H args U vs Q E C l W r m=>?_⟩
 have hl:=len _ _ _ _ m
 have M:K.In s.heap:=l.mod.kin.keeps fun b o e=>(l.bs b o e).1
 have D:s.heap.NoLimit:=l.mod.nolimit.keeps fun b o e=>(l.bs b o e).1
 have h:∀y∈ps.zip U,scope.names.lookup y.1=some .local\/(scope.names.lookup y.1=some .cell/\((cellsFrom (s.heap.objs.size+1) scope.names []).lookup y.1).isSome=true):=fun⟨n,v⟩ X=>by
  rcases S.par n (iW X).1 with q|q
  ·exact .inl q
  ·exact .inr ⟨q,ig _ _ _ (.inl q)⟩
 refine mz C.depth (M _ _ T) rfl S.co S.gen rfl (nL M B) (W _ _ _ _ ?_)
 refine jr S.kind h fun env Y O x=>?_
 subst Y
 refine⟨D.keeps x.toInCall.keep,codeAny_func ?_⟩
 obtain⟨t,Z,hq⟩:=g A outer s H vs Q E (C.deeper _) m
 have I:Inv (jE CX P w K mg base N a scope f c A outer s H E) [] (start N vs) H O:=zKE S C.hd l hl r x
 refine cf (Z [] O (start N vs) H _ I hq) (fun fl s' i=>?_) fun e s' i=>i
 have fin:∀{p:St} {H':Hp} {v:V} {u:ag},Inv (jE CX P w K mg base N a scope f c A outer s H E) [] p H' s'->zQ v u->Q v H'->CE outer P w H s Q u s' :=
  fun{p H' v u} J F q=>⟨v,H',J.os,J.bare,J.base,J.hok,F,q⟩
 cases fl with
 |ret u=>
  obtain⟨v,p,H',J,F,q⟩:=i
  exact fin J F q
 |next=>
  obtain⟨p,H',J,q⟩:=i
  exact fin (v:=V.non) (u:=Value.none) J rfl q
 |brk=>
  obtain⟨_,_,_,q⟩:=i
  exact c8 q
 |cont=>
  obtain⟨_,_,_,q⟩:=i
  exact c8 q
section
variable{X:Cx}{x:Str}{p pos:Pos}{e:bV}{es:List bV}{t:TA}{id T:String}{r:List V->Hp->VK->Prop}
def tCB (r:List V->Hp->VK->Prop)(t:TA):TE:=fun σ H Q=>t σ H fun vs H1=>r vs H1 Q
theorem yH (d:uG X (.builtin id) r)(f:Gl X x)(hm:X.mg x=none)(g:bootBuiltins x=some (.builtin id))(i:PA X (e::es) t)(j:x≠"__name__" :=by decide)(b:(x==("__debug__" : Str))=false:=by decide)
  (l:starEach (e::es) X.env=(false,eval e X.env)::starEach es X.env:=by rfl) (c:(backTo pos (starEach es X.env)).any (·.1)=false:=by rfl):PE X (.Call (.Name x p) (e::es) [] pos) (tCB r t):=by
 intro a s σ H Q I h
 refine eg (kW I f hm g ?_ j b)
 exact iF (zH (i pos a s σ H _ I h) fun m n ⟨vs,o,q,u,v⟩=>d a n σ o vs m Q q u v) l c
theorem zCX (d:uG X (.type T) r)(f:Gl X x)(hm:X.mg x=none)(g:bootBuiltins x=some (.type T))(i:PA X (e::es) t)(j:x≠"__name__" :=by decide)(b:(x==("__debug__" : Str))=false:=by decide)
  (l:starEach (e::es) X.env=(false,eval e X.env)::starEach es X.env:=by rfl) (c:(backTo pos (starEach es X.env)).any (·.1)=false:=by rfl):PE X (.Call (.Name x p) (e::es) [] pos) (tCB r t):=by
 intro a s σ H Q I h
 refine eg (kW I f hm g ?_ j b)
 exact dm (zH (i pos a s σ H _ I h) fun m n ⟨vs,o,q,u,v⟩=>d a n σ o vs m Q q u v) l c
end
end L2
namespace HT
open PySem PyProof.Rows
section
open PySem.SeqAt
open PySem.AutoSeq1 (wpAny_loadPart')
open PySem.MeetsSeq PySem.MeetsSeq2 PySem.MeetsSeq3
end
section
variable{prog:aJ}{w:aV}{A:bM}{E:ag->av->Prop}{s:av}
theorem cat_tup {t b:ah}{vs a:List ag}{Q:ag->av->Prop}(r:IsTup s.heap t vs.toArray)(u:IsTup s.heap b a.toArray)(l:vs≠[])
  (v:a=[]->Q (.ref t) s) (x:a≠[]->Q (.ref s.heap.objs.size) {s with heap:=s.heap.push {cls:=.type "tuple",data:=.seq (vs++a).toArray}})
  (hsz:vs.length+a.length<=sizeLine):wpAny (model prog w) A (binaryOp .Add (.ref t) (.ref b)) Q E s:=by
 obtain⟨⟨cls,dd,data,m⟩,i,o,n,hd⟩:=id r
 obtain⟨⟨p,d,data2,f⟩,c,g,q,h⟩:=id u
 simp only at o hd g h
 subst o hd g h
 have e:vs.toArray++a.toArray=(vs++a).toArray:=by simp
 by_cases j:a=[]
 ·exact nU ⟨_,i,rfl⟩ ⟨_,c,rfl⟩ lz nz ij gw (gd _ _)
   (tuple_addW1 t b vs.toArray a.toArray n q dd d m f (by simpa using l) (by simp[j])) ⟨i,c,v j⟩
 ·refine nU ⟨_,i,rfl⟩ ⟨_,c,rfl⟩ lz nz ij gw (gd _ _)
   (tuple_addW2 t b vs.toArray a.toArray n q dd d m f (by simpa using l) (by simpa using j) (by rw[bh,bh];exact hsz)) ⟨i,c,?_⟩
  rw[e]
  exact x j
def sIx (n d:Nat):Option Int->Nat
 |none=>d
 |some v=>if v<0 then(v+(n:Int)).toNat else min v.toNat n
theorem sIx_nat (n d k:Nat):sIx n d (some (k:Int))=min k n:=by
 show(if(k:Int)<0 then((k:Int)+(n:Int)).toNat else min (k:Int).toNat n)=min k n
 rw[if_neg (by omega),ik]
theorem sIx_le (n d:Nat)(hd:d<=n)(o:Option Int):sIx n d o<=n:=by
 cases o with
 |none=>exact hd
 |some v=>
  show(if v<0 then(v+(n:Int)).toNat else min v.toNat n)<=n
  by_cases a:v<0
  ·rw[if_pos a];omega
  ·rw[if_neg a];exact Nat.min_le_right _ _
end
end HT
namespace L2
open PySem PySem.Spec PyProof.Rows
abbrev TO:=St->Hp->(Option Int->Hp->Prop)->Prop
def PO (X:Cx)(e:Option bV)(t:TO):Prop :=
 ∀(pins:List (ah×Obj)) (s:av) (σ:St) (H:Hp) (Q:Option Int->Hp->Prop),Inv X pins σ H s->t σ H Q->
  wpAny (model X.prog X.w) X.A (evalPart e X.env) (fun u s'=>∃o H',Inv X pins σ H' s'/\IsPart u o/\Q o H') X.xe s
def zKF:TO:=fun _ H Q=>Q none H
def zKG (t:TE):TO:=fun σ H Q=>t σ H fun x H1=>∃i,x=.int i/\Q (some i) H1
theorem zKH {ns:List Int}:∀{a:List ag},zM (ns.map V.int) a->jc a ns:=by
 induction ns with
 |nil=>intro a r;rw[lQ]at r;cases r;exact .nil
 |cons n ns ih=>
  intro a r
  rw[aF]at r
  cases r with
  |cons b c=>
   obtain⟨t,e⟩:=b
   subst e
   exact .cons n t (ih c)
section
variable{X:Cx}{e:bV}{te:TE}{lo hi:Option bV}{tl th:TO}{pos p2:Pos}
theorem zAF:PO X none zKF:=by
 intro a s σ H Q I h
 rw[qg]
 exact aH ⟨none,H,I,.none,h⟩
theorem qE (h:PE X e te):PO X (some e) (zKG te):=by
 intro a s σ H Q I b
 rw[evalPart_some]
 refine zH (h a s σ H _ I b) fun u j ⟨x,c,d,f,g⟩=>?_
 obtain⟨i,rfl,q⟩:=g
 obtain⟨t,rfl⟩:=f
 exact⟨some i,c,d,.int i t,q⟩
def SlR (X:Cx)(r:V->Option Int->Option Int->Hp->VK->Prop):Prop :=
 ∀(pins:List (ah×Obj)) (s:av) (σ:St) (H:Hp) (x:V) (v vl vu:ag) (lo hi:Option Int) (sl:ah) (Q:VK),Inv X pins σ H s->zQ x v->s.heap.IsSliceOf sl vl vu .none->IsPart vl lo->IsPart vu hi->r x lo hi H Q->
  ∃T id,typeLookup (.type T) "__getitem__"=pure (some (.builtin id))/\s.TypeIs v T/\wpAny (model X.prog X.w) X.A (getItem v (.ref sl)) (EP X pins σ Q) X.xe s
def zKI (xs:List V)(lo hi:Option Int):List V:=(xs.drop (HT.sIx xs.length 0 lo)).take (HT.sIx xs.length xs.length hi-HT.sIx xs.length 0 lo)
def zKJ (K:ae):R2:=fun x y H Q=>∃a b xs ys,x=.ref a/\y=.ref b/\yN K H a xs/\yN K H b ys/\xs≠[]/\xs.length+ys.length<=sizeLine/\
 (ys=[]->Q (.ref a) H)/\(ys≠[]->∀p,H p=none->Q (.ref p) (upd H p (.tup (xs++ys))))
theorem zM.nil_iff {xs:List V}{a:List ag}(r:zM xs a):a=[]↔xs=[]:=by
 cases r with
 |nil=>simp
 |cons _ _=>simp
theorem zKK:yK X (binaryOp .Add) (zKJ X.K):=by
 intro f s σ H x y v u Q I i j h
 obtain⟨a,b,xs,ys,rfl,rfl,l,m,n,hz,p,r⟩:=h
 cases i
 cases j
 obtain⟨its,d,t,_⟩:=I.tuple l
 obtain⟨g,c,p2,_⟩:=I.tuple m
 refine HT.cat_tup t p2 (fun z=>n (d.nil_iff.mp z)) (fun z=>⟨.ref a,H,I,rfl,p (c.nil_iff.mp z)⟩) (fun z=>?_) (by rw[<-d.length,<-c.length];exact hz)
 refine⟨.ref s.heap.objs.size,_,I.laid (t':=s.toks) (o:=.tup (xs++ys)) (fun b A q=>ai _ q) (aD _) ?_,rfl,r (fun w=>z (c.nil_iff.mpr w)) _ (I.hok.fresh (aD _))⟩
 exact⟨by rw[aE];exact hz,_,d.append c,sT _ _⟩
end
def k7 (n:Nat)(i:Int):Option Nat:=if 0<=i then(if i<n then some i.toNat else none)else if-(n:Int)<=i then some (i+n).toNat else none
def qS {α:Type}(xs:List α)(i:Int):Option α:=(k7 xs.length i).bind fun j=>xs[j]?
theorem zKL {n:Nat}{i:Int}{j:Nat}(h:k7 n i=some j):seqIndex? i n=some j/\j<n/\-(n:Int)<=i/\i<n:=by
 unfold k7 at h
 by_cases b:0<=i
 ·rw[if_pos b]at h
  by_cases a:i<n
  ·rw[if_pos a]at h
   have e:i.toNat=j:=ay h
   exact⟨by rw[seqIndex_of b a,e],by omega,by omega,a⟩
  ·rw[if_neg a]at h;cases h
 ·rw[if_neg b]at h
  by_cases a:-(n:Int)<=i
  ·rw[if_pos a]at h
   have e:(i+n).toNat=j:=ay h
   exact⟨by rw[seqIndex_neg (by omega) a,e],by omega,a,by omega⟩
  ·rw[if_neg a]at h;cases h
theorem zCY {α:Type}{xs:List α}{i:Int}{v:α}(h:qS xs i=some v):∃j,seqIndex? i xs.length=some j/\xs[j]?=some v/\j<xs.length/\-(xs.length:Int)<=i/\i<xs.length:=by
 unfold qS at h
 cases e:k7 xs.length i with
 |none=>rw[e]at h;cases h
 |some j=>
  rw[e]at h
  obtain⟨a,b,c,d⟩:=zKL e
  exact⟨j,a,h,b,c,d⟩
theorem jF {α:Type}{xs:List α}{j:Nat}{v:α}(h:xs[j]?=some v):qS xs (j:Int)=some v:=by
 have a:j<xs.length:=(af.mp h).1
 have e:k7 xs.length (j:Int)=some j:=by
  unfold k7
  rw[if_pos (by omega),if_pos (by omega)];simp
 unfold qS;rw[e];exact h
theorem zKM {α:Type}(xs:List α)(v:α):qS (xs++[v]) (-1)=some v:=by
 have hl:(xs++[v]).length=xs.length+1:=by simp
 have e:k7 (xs++[v]).length (-1)=some xs.length:=by
  unfold k7
  rw[hl,if_neg (by decide),if_pos (by omega)]
  congr 1
  omega
 unfold qS
 rw[e]
 show(xs++[v])[xs.length]?=some v
 simp
def zKN (b:bV):Prop:=∀o i,subscripted b false o i=operate [o,i] (getItem o i)
def IxR (X:Cx)(r:R2):Prop :=
 ∀(value slice:bV) (pins:List (ah×Obj)) (s:av) (σ:St) (H:Hp) (x y:V) (v u:ag) (Q:VK),Inv X pins σ H s->zQ x v->zQ y u->r x y H Q->
  subscripted slice false v u=operate [v,u] (getItem v u)->wpAny (model X.prog X.w) X.A (subscriptTail value slice v u) (EP X pins σ Q) X.xe s
def MtR (X:Cx)(id:String)(r:V->List V->Hp->VK->Prop):Prop :=
 ∀(pins:List (ah×Obj)) (s:av) (σ:St) (H:Hp) (x:V) (xs:List V) (v:ag) (us:List ag) (Q:VK),Inv X pins σ H s->zQ x v->zM xs us->r x xs H Q->
  wpAny (model X.prog X.w) X.A (call (.builtin id) (v::us)) (EP X pins σ Q) X.xe s
section
variable{X:Cx}{a b:bV}{ta tb:TE}{pos:Pos}
theorem uY {r:R2}(d:IxR X r)(e:PE X a ta)(f:PE X b tb)(g:zKN b):PE X (.Subscript a b pos) (tOp r ta tb):=by
 intro c s σ H Q I h
 exact pj (zCS e f I h fun v u i x y j l m n q=>d a b c i σ j x y v u Q l m n q (g _ _))
def zFR (K:ae):R2:=fun x y H Q=>∃p xs i v,x=.ref p/\y=.int i/\yL K H p xs/\qS xs i=some v/\Q v H
def zKO (K:ae):R2:=fun x y H Q=>∃p xs i v,x=.ref p/\y=.int i/\yN K H p xs/\qS xs i=some v/\Q v H
def zKP:R2:=fun x y H Q=>∃z i c,x=.str z/\y=.int i/\z.length<=sizeLine/\qS z.cps.toList i=some c/\Q (.str ⟨#[c]⟩) H
theorem zAG:IxR X (zFR X.K):=by
 intro value slice c s σ H x y v u Q I o A h l
 obtain⟨p,xs,i,z,rfl,rfl,B,C,q⟩:=h
 cases o
 obtain⟨t,rfl⟩:=A
 obtain⟨its,r,e,hz⟩:=I.list B
 obtain⟨j,d,D,G,E,F⟩:=zCY C
 obtain⟨w,m,f⟩:=r.get D
 have hl:=r.length
 have J:=zAj
 have fin:EP X c σ Q w s:=⟨z,H,I,f,q⟩
 by_cases n:0<=i
 ·have g:i.toNat=j:=by
   rw[seqIndex_of n F]at d
   exact ay d
  exact item_listR e.isList n (by omega) (by rw[g];simpa using m) fin l
 ·have g:(i+(its.toArray.size:Int)).toNat=j:=by
   rw[seqIndex_neg (by omega) E]at d
   rw[bh,<-hl]
   exact ay d
  exact lR (x:=w) e.isList.typeIs slot_list_getitem.lookup
   (wpAny_getItem_list_neg (Q:=fun r s'=>r=w/\EP X c σ Q r s') e.isList (by omega) (by rw[bh]<;>omega) (by omega) (by rw[g];simpa using m) ⟨rfl,fin⟩) l
theorem zAl:IxR X (zKO X.K):=by
 intro value slice c s σ H x y v u Q I f g h l
 obtain⟨p,xs,i,z,rfl,rfl,m,n,q⟩:=h
 cases f
 obtain⟨t,rfl⟩:=g
 obtain⟨its,r,e,hz⟩:=I.tuple m
 obtain⟨j,o,A,C,D,E⟩:=zCY n
 obtain⟨w,B,d⟩:=r.get A
 have hl:=r.length
 have F:=zAj
 have fin:EP X c σ Q w s:=⟨z,H,I,d,q⟩
 exact lR (x:=w) e.typeIs slot_tuple_getitem.lookup
  (getItem_tuple (j:=j) (Q:=fun r s'=>r=w/\EP X c σ Q r s') e (by omega) (by omega) (by rw[bh,<-hl];exact o) (by simpa using B) ⟨rfl,fin⟩) l
theorem zKQ:IxR X zKP:=by
 intro value slice d s σ H x y v u Q I f g h l
 obtain⟨z,i,c,rfl,rfl,hz,m,q⟩:=h
 obtain⟨t,rfl⟩:=f
 obtain⟨t',rfl⟩:=g
 obtain⟨j,e,n,A,o,p⟩:=zCY m
 have hl:z.cps.toList.length=z.length:=by simp[js]
 rw[hl]at e o p
 have B:=zAj
 exact tail_any (typeIs_str s z t) slot_str_getitem.lookup (getItem_str (c:=c) (by
  have r:decide (i< -(2^63:Int))=false:=decide_eq_false (by omega)
  have w:decide (i>=2^63)=false:=decide_eq_false (by omega)
  rw[r,w,Bool.or_false]) (by rw[e];simpa using n) ⟨.str ⟨#[c]⟩,H,I.tok _,⟨_,rfl⟩,q⟩) l
theorem Inv.lst {c:List (ah×Obj)}{σ:St}{H:Hp}{s:av}{p:ah}{xs:List V}(I:Inv X c σ H s)(h:H p=some (.lst xs)) :
  ∃(its:List ag) (n:Nat),zM xs its/\s.heap.get? p=some {cls:=.type "list",data:=.seq its.toArray n}/\xs.length<=sizeLine:=by
 obtain⟨z,its,n,r,e⟩:=I.hok p _ h
 exact⟨its,n,r,e,z⟩
def rSlL (K:ae):V->Option Int->Option Int->Hp->VK->Prop:=fun x lo hi H Q=>∃a xs,x=.ref a/\yL K H a xs/\∀p,H p=none->Q (.ref p) (upd H p (.lst (zKI xs lo hi)))
def jG:V->Bool
 | .non=>true
 | .bl _=>true
 | .int _=>true
 | .str _=>true
 |_=>false
def qT:V->V->Bool
 | .non,.non=>true
 | .bl a,.bl b=>a==b
 | .bl a,.int b=>(if a then 1 else 0)==b
 | .int a,.bl b=>a==(if b then 1 else 0)
 | .int a,.int b=>a==b
 | .str a,.str b=>a==b
 |_,_=>false
theorem zKR {A:bM}{s:av}{y x:V}{u v:ag}(d:zQ y u)(c:zQ x v)(f:jG y=true)(e:jG x=true):sH A s u v (qT y x):=by
 cases y with
 |non=>
  cases d
  cases x with
  |non=>cases c;exact sW _
  |bl b=>cases c;exact rT b
  |int b=>obtain⟨t,rfl⟩:=c;exact sf b t
  |str b=>obtain⟨t,rfl⟩:=c;exact so b t
  |_=>exact absurd (show false=true from e) aY
 |bl a=>
  cases d
  cases x with
  |non=>cases c;exact rV a
  |bl b=>cases c;exact iK a b
  |int b=>obtain⟨t,rfl⟩:=c;exact sq a b t
  |str b=>obtain⟨t,rfl⟩:=c;exact nc a b t
  |_=>exact absurd (show false=true from e) aY
 |int a=>
  obtain⟨t',rfl⟩:=d
  cases x with
  |non=>cases c;exact sr a t'
  |bl b=>cases c;exact su a t' b
  |int b=>obtain⟨t,rfl⟩:=c;exact sI a t' b t
  |str b=>obtain⟨t,rfl⟩:=c;exact nF a t' b t
  |_=>exact absurd (show false=true from e) aY
 |str a=>
  obtain⟨t',rfl⟩:=d
  cases x with
  |non=>cases c;exact sy a t'
  |bl b=>cases c;exact m9 a t' b
  |int b=>obtain⟨t,rfl⟩:=c;exact nG a t' b t
  |str b=>obtain⟨t,rfl⟩:=c;exact sJ a t' b t
  |_=>exact absurd (show false=true from e) aY
 |_=>exact absurd (show false=true from f) aY
def qU (x:V)(u:ag):Bool:=match u with
 | .none=>qT .non x
 | .bool b=>qT (.bl b) x
 | .int i _=>qT (.int i) x
 | .str z _=>qT (.str z) x
 |_=>false
theorem zFS {x y:V}{u:ag}(r:zQ y u)(f:jG y=true):qU x u=qT y x:=by
 cases y with
 |non=>cases r;rfl
 |bl b=>cases r;rfl
 |int i=>obtain⟨t,rfl⟩:=r;rfl
 |str z=>obtain⟨t,rfl⟩:=r;rfl
 |_=>exact absurd (show false=true from f) aY
theorem zCZ {x:V}:∀{xs:List V}{c:List ag},zM xs c->xs.all jG=true->c.any (qU x)=xs.any fun y=>qT y x
 |_,_,.nil,_=>rfl
 |y::xs,u::c,.cons r t,f=>by
  rw[qh,bc]at f
  rw[eV,eV,zFS r f.1,zCZ t f.2]
theorem zCa {A:bM}{s:av}{x:V}{v:ag}(e:zQ x v)(g:jG x=true):∀{xs:List V}{d:List ag},zM xs d->xs.all jG=true->∀u∈d,sH A s u v (qU x u)
 |_,_,.nil,_=>fun u c=>by cases c
 |y::xs,u::d,.cons r t,f=>fun h c=>by
  rw[qh,bc]at f
  rcases aL.mp c with rfl|c
  ·rw[zFS r f.1];exact zKR r e f.1 g
  ·exact zCa e g t f.2 h c
def qF (x:V)(xs:List V):Bool:=xs.any fun y=>qT y x
def rIn (K:ae)(neg:Bool):R2:=fun x y H Q=>∃p xs,y=.ref p/\(yL K H p xs\/yN K H p xs)/\jG x=true/\xs.all jG=true/\Q (.bl (if neg then !qF x xs else qF x xs)) H
theorem zFT:yK X (compareOp .In) (rIn X.K false):=by
 intro f s σ H x y v u Q I g j h
 obtain⟨p,xs,rfl,c,i,fs,q⟩:=h
 cases j
 rcases c with c|c
 ·obtain⟨its,r,d,hz⟩:=I.list c
  refine SeqAt.in_listAt (qU x) d.isList (fun w e=>zCa g i r fs w (by simpa using e)) ⟨.bl _,H,I,rfl,?_⟩
  rw[show its.toArray.any (qU x)=its.any (qU x) by simp,zCZ r fs]
  exact q
 ·obtain⟨its,r,d,hz⟩:=I.tuple c
  refine SeqAt.in_tupleAt (qU x) d (fun w e=>zCa g i r fs w (by simpa using e)) ⟨.bl _,H,I,rfl,?_⟩
  rw[show its.toArray.any (qU x)=its.any (qU x) by simp,zCZ r fs]
  exact q
theorem zAm:uG X (.builtin "len") (fun xs H Q=>∃p ys,xs=[.ref p]/\(yL X.K H p ys\/yN X.K H p ys)/\Q (.int ys.length) H):=by
 intro g s σ H xs j Q I r h
 obtain⟨p,ys,rfl,d,q⟩:=h
 obtain⟨u,rfl,i⟩:=qR r
 cases i
 have l:=zAj
 rcases d with d|d
 ·obtain⟨its,e,f,hz⟩:=I.list d
  have c:=e.length
  exact Calls.call_len_list f.isList (by simp only[bh]<;>omega) ⟨.int ys.length,H,I.tok _,⟨s.toks+1,by rw[bh,c]⟩,q⟩
 ·obtain⟨its,e,f,hz⟩:=I.tuple d
  have c:=e.length
  exact len_tuple f (by simp only[bh]<;>omega) ⟨.int ys.length,H,I.tok _,⟨s.toks+1,by rw[bh,c]⟩,q⟩
theorem jZ:uG X (.builtin "len") (fun xs H Q=>∃z,xs=[.str z]/\z.length<=sizeLine/\Q (.int z.length) H):=by
 intro c s σ H xs d Q I r h
 obtain⟨z,rfl,hz,q⟩:=h
 obtain⟨u,rfl,t,rfl⟩:=qR r
 have e:=zAj
 exact len_str (by omega) ⟨.int z.length,H,I.tok _,⟨_,rfl⟩,q⟩
theorem zKS:uG X (.type "list") (fun xs H Q=>∃p ys,xs=[.ref p]/\(yL X.K H p ys\/yN X.K H p ys)/\∀l,H l=none->Q (.ref l) (upd H l (.lst ys))):=by
 intro f s σ H xs y Q I r h
 obtain⟨p,ys,rfl,g,q⟩:=h
 obtain⟨u,rfl,x⟩:=qR r
 cases x
 have fin:∀(its:List ag),zM ys its->ys.length<=sizeLine->∀(h':bC) (c:Nat),(∀b v,s.heap.get? b=some v->h'.get? b=some v)->
   h'.get? s.heap.objs.size=some {cls:=.type "list",dict:=none,data:=.seq its.toArray c,slots:=#[]}->EP X f σ Q (.ref s.heap.objs.size) {s with heap:=h'}:=fun its d hz h' c kp e=>
  ⟨.ref s.heap.objs.size,_,I.laid (t':=s.toks) kp (aD _) (show yP X.prog X.w _ h' _ (.lst ys)from⟨hz,its,c,d,e⟩),rfl,q _ (I.hok.fresh (aD _))⟩
 rcases g with g|g
 ·obtain⟨its,d,j,hz⟩:=I.list g
  have i:=d.length
  obtain⟨o,m,t,n,hd⟩:=j.isList
  exact qi p (.inl rfl) m t hd (fun h' c kp e=>fin its d hz h' c kp e) (by simp only[bh]<;>omega)
 ·obtain⟨its,d,j,hz⟩:=I.tuple g
  have i:=d.length
  obtain⟨o,m,t,n,hd⟩:=j
  exact qi p (.inr rfl) m t hd (fun h' c kp e=>fin its d hz h' c kp e) (by simp only[bh]<;>omega)
def tyV (K:ae)(T:String)(x:V)(H:Hp):Prop:=match x with
 | .str _=>T="str"
 | .int _=>T="int"
 | .ref p=>(T="list"/\ ∃xs,yL K H p xs)\/(T="tuple"/\ ∃o,K.lookup p=some o/\o.cls=.type "tuple"/\o.dict=none)\/
   (T="dict"/\ ((∃kvs,H p=some (.dK kvs))\/∃kvs,H p=some (.dT kvs)))\/(T="set"/\ ∃S n,H p=some (.set S n))
 |_=>False
theorem zFU {f:List (ah×Obj)}{σ:St}{H:Hp}{s:av}{T:String}{x:V}{v:ag}(I:Inv X f σ H s)(r:zQ x v)(ty:tyV X.K T x H) :
  s.TypeIs v T/\∀a,v=.ref a->∃h,s.heap.get? a=some h/\h.dict=none:=by
 cases x with
 |str z=>
  obtain⟨t,rfl⟩:=r
  cases(show T="str"from ty)
  exact⟨typeIs_str s z t,fun _ e=>nomatch e⟩
 |int i=>
  obtain⟨t,rfl⟩:=r
  cases(show T="int"from ty)
  exact⟨pq s i t,fun _ e=>nomatch e⟩
 |ref p=>
  cases r
  rcases ty with⟨rfl,xs,l⟩|⟨rfl,o,d,m,hd⟩|⟨rfl,d⟩|⟨rfl,S,n,d⟩
  ·obtain⟨its,_,j,_⟩:=I.list l
   refine⟨j.isList.typeIs,fun a e=>?_⟩
   cases e
   obtain⟨o,n,e,c,hd,_⟩:=j
   exact⟨o,e,hd⟩
  ·refine⟨⟨o,I.kIn p o d,m⟩,fun a e=>?_⟩
   cases e
   exact⟨o,I.kIn _ o d,hd⟩
  ·have z:∃o,s.heap.get? p=some o/\o.ExactDict:=by
    rcases d with⟨kvs,d⟩|⟨kvs,d⟩
    ·obtain⟨_,_,_,_,o,_,_,e,ex,_⟩:=I.hok p _ d
     exact⟨o,e,ex⟩
    ·obtain⟨_,_,_,_,o,_,_,e,ex,_⟩:=I.hok p _ d
     exact⟨o,e,ex⟩
   obtain⟨o,e,ex⟩:=z
   refine⟨⟨o,e,ex.1⟩,fun a g=>?_⟩
   cases g
   exact⟨o,e,ex.2.1⟩
  ·obtain⟨o,_,_,_,e,ex,_⟩:=I.hok p _ d
   refine⟨⟨o,e,ex.1⟩,fun a g=>?_⟩
   cases g
   exact⟨o,e,ex.2.1⟩
 |_=>exact c8 ty
def zFV (K:ae)(T:String)(r:V->List V->Hp->VK->Prop)(to:TE):TE:=fun σ H Q=>to σ H fun x H1=>tyV K T x H1/\r x [] H1 Q
def tBM (K:ae)(T:String)(r:V->List V->Hp->VK->Prop)(to:TE)(t:TA):TE:=fun σ H Q=>to σ H fun x H1=>tyV K T x H1/\t σ H1 fun xs H2=>r x xs H2 Q
variable{o e:bV}{es:List bV}{to:TE}{t:TA}{name:Str}{apos cpos:Pos}{T id:String}{r:V->List V->Hp->VK->Prop}
theorem zKT (l:pz T)(slot:Slot T name id)(g:typeOf (.builtin id)=pure (.type "method_descriptor"))(hm:MtR X id r)(m:PE X o to)
  (d:attributeBase o name X.env (eval o X.env)=eval o X.env:=by rfl) (f:(apos.endLine==cpos.line)=true:=by rfl):PE X (.Call (.Attribute o name apos) [] [] cpos) (zFV X.K T r to):=by
 intro c s σ H Q I h
 refine lB d f (zH (m c s σ H _ I h) fun v n ⟨x,p,i,j,ty,q⟩=>?_)
 obtain⟨u,w⟩:=zFU i j ty
 exact⟨T,id,l,slot,g,u,w,fu rfl (ng (hm c n σ p x [] v [] Q i j .nil q))⟩
theorem gL (p:pz T)(slot:Slot T name id)(j:typeOf (.builtin id)=pure (.type "method_descriptor"))(hm:MtR X id r)(q:PE X o to)(u:PA X (e::es) t)
  (f:attributeBase o name X.env (eval o X.env)=eval o X.env:=by rfl)
  (i:((backTo cpos (starEach (e::es) X.env)).all (fun x=>!x.1)&& (backToKw cpos (keywordEach [] X.env)).all (fun x=>x.1.isSome)
   &&decide ((e::es).length+([]:List o6).length+(if([]:List o6).isEmpty then 0 else 1)<30))=true:=by rfl)
  (g:(apos.endLine==cpos.line)=true:=by rfl) (w:starEach (e::es) X.env=(false,eval e X.env)::starEach es X.env:=by rfl) (d:(backTo cpos (starEach es X.env)).any (·.1)=false:=by rfl) :
  PE X (.Call (.Attribute o name apos) (e::es) [] cpos) (tBM X.K T r to t):=by
 intro c s σ H Q I h
 refine wpAny_Call_method_late f i g rfl (zH (q c s σ H _ I h) fun v y ⟨x,z,l,m,ty,A⟩=>?_)
 obtain⟨B,C⟩:=zFU l m ty
 refine⟨T,id,p,slot,j,B,C,?_⟩
 have n:=u cpos c y σ z _ l A
 rw[w]at n⊢
 refine fu (by show(false||(backTo cpos (starEach es X.env)).any (·.1))=false;rw[d]<;>rfl) (iM ?_)
 exact zH n fun D E ⟨vs,F,G,J,L⟩=>hm c E σ F x vs v D Q G m J L
end
def k8 (X:Cx)(id:String)(r:V->List V->Hp->VK->Prop):Prop :=
 ∀(pins:List (ah×Obj)) (s:av) (σ:St) (H:Hp) (x:V) (xs:List V) (v:ag) (us:List ag) (Q:VK),Inv X pins σ H s->zQ x v->zM xs us->r x xs H Q->
  wpAny (model X.prog X.w) X.A (call (.builtin id) (v::us)) (EP X pins σ Q) X.xe s
theorem zM.one:∀{x:V}{a:List ag},zM [x] a->∃u,a=[u]/\zQ x u
 |_,_,.cons r .nil=>⟨_,rfl,r⟩
theorem zM.zero:∀{a:List ag},zM [] a->a=[]
 |_,.nil=>rfl
theorem zM.dropLast {xs:List V}{a:List ag}(h:zM xs a):zM xs.dropLast a.dropLast:=by
 induction h with
 |nil=>exact .nil
 |cons r t ih=>
  cases t with
  |nil=>exact .nil
  |cons q t'=>exact .cons r ih
theorem zM.eraseIdx:∀{xs:List V}{a:List ag} (i:Nat),zM xs a->zM (xs.eraseIdx i) (a.eraseIdx i)
 |_,_,_,.nil=>.nil
 |_,_,0,.cons _ t=>t
 |_,_,i+1,.cons r t=>.cons r (zM.eraseIdx i t)
theorem zM.reverse {xs:List V}{a:List ag}(h:zM xs a):zM xs.reverse a.reverse:=by
 induction h with
 |nil=>exact .nil
 |cons r t ih=>rw[nV,nV];exact zM.append ih (.cons r .nil)
theorem zM.rep {xs:List V}{a:List ag}(h:zM xs a):∀k:Nat,zM (aB k xs).flatten (aB k a).flatten
 |0=>.nil
 |k+1=>by
  rw[dC,dC,eP,eP]
  exact zM.append h (zM.rep h k)
theorem zFW (its:List ag):∀(k:Nat) (a:List ag),
  pA (fun b c=>b++c) a.toArray (aB k its.toArray)=(a++(aB k its).flatten).toArray
 |0,a=>by simp
 |k+1,a=>by
  have e:a.toArray++its.toArray=(a++its).toArray:=by simp
  have d:(a++its)++(aB k its).flatten=a++(aB (k+1) its).flatten:=by
   rw[dC,eP,eE]
  rw[<-d,<-zFW its k (a++its),<-e,dC,cn]
section
variable{X:Cx}{pins:List (ah×Obj)}{σ:St}{H:Hp}{s:av}{l b:ah}{xs ys zs:List V}
theorem Inv.lset {its its':List ag}{n:Nat}{f:Array ag->Array ag}{t':Nat}(I:Inv X pins σ H s)(a:H l=some (.lst xs))
  (e:s.heap.get? l=some {cls:=.type "list",data:=.seq its.toArray n}) (c:f its.toArray=its'.toArray) (d:zM ys its') (hz:ys.length<=sizeLine) :
  Inv X pins σ (upd H l (.lst ys)) {s with heap:=s.heap.update l (cT f),toks:=t'}:=by
 have q:=lC e f
 rw[c]at q
 refine I.write (x:=l) (e:=l) (by rw[a];exact trivial) (.inl rfl) (fun i u g h=>(cb s.heap (cT f) (fm g)).trans h) ⟨_,q⟩ ?_
 exact⟨hz,its',_,d,q⟩
theorem Inv.lnew {its:List ag}{t':Nat}(I:Inv X pins σ H s)(a:zM ys its)(hz:ys.length<=sizeLine) :
  Inv X pins σ (upd H s.heap.objs.size (.lst ys)) {s with heap:=s.heap.push {cls:=.type "list",data:=.seq its.toArray},toks:=t'} :=
 I.laid (fun _ _ q=>ai _ q) (aD _) ⟨hz,its,0,a,aM _ rfl⟩
theorem Inv.fresh (I:Inv X pins σ H s):H s.heap.objs.size=none:=I.hok.fresh (aD _)
theorem Inv.lstM (I:Inv X pins σ H s)(a:H l=some (.lst xs)):xs.length<=sizeLine/\∃(its:List ag) (n:Nat),zM xs its/\xs.length=its.length/\s.heap.get? l=some {cls:=.type "list",data:=.seq its.toArray n}:=by
 obtain⟨z,its,n,r,e⟩:=I.hok l _ a
 exact⟨z,its,n,r,r.length,e⟩
theorem zFX {n:Nat}(h:n<=sizeLine):eX n=false:=by
 unfold eX
 exact decide_eq_false (by omega)
end
section
variable{X:Cx}
def zKU:V->List V->Hp->VK->Prop:=fun x vs H Q=>∃l xs y,x=.ref l/\vs=[y]/\H l=some (.lst xs)/\xs.length<sizeLine/\Q .non (upd H l (.lst (xs++[y])))
theorem zFY:k8 X "list.append" zKU:=by
 intro a s σ H x vs v g Q I c d h
 obtain⟨l,xs,y,rfl,rfl,b,hz,q⟩:=h
 cases c
 obtain⟨u,rfl,f⟩:=d.one
 obtain⟨z,its,n,r,hl,e⟩:=I.lstM b
 refine fP jt ⟨_,e,rfl⟩ i8 (iN _ _) (kj l its.toArray n u (by rw[bh];omega)) ⟨e,?_⟩
 refine⟨.non,_,I.lset (its':=its++[u]) b e (by simp) (r.append (.cons f .nil)) ?_,rfl,q⟩
 rw[aE,cG]
 omega
def zKV:V->List V->Hp->VK->Prop:=fun x vs H Q=>∃l b xs zs,x=.ref l/\vs=[.ref b]/\H l=some (.lst xs)/\H b=some (.lst zs)/\xs.length+zs.length<=sizeLine/\Q .non (upd H l (.lst (xs++zs)))
theorem zKW:k8 X "list.extend" zKV:=by
 intro d s σ H x vs v w Q I g i h
 obtain⟨l,b,xs,y,rfl,rfl,f,j,hz,q⟩:=h
 cases g
 obtain⟨u,rfl,m⟩:=i.one
 cases m
 obtain⟨z,its,n,r,hl,e⟩:=I.lstM f
 obtain⟨A,a,o,p,hl2,t⟩:=I.lstM j
 have hsz:its.toArray.size+a.toArray.size<=sizeLine:=by rw[bh,bh];omega
 have c:¬(!its.toArray.isEmpty&&eX (its.toArray.size+a.toArray.size))=true:=by
  rw[zFX hsz,pB]
  exact aY
 refine fP F.slot_list_extend ⟨_,e,rfl⟩ F.entry_list_extend (F.args_list_extend_2 _ _)
  (AutoSeq1.list_extend_list_list_0 l its.toArray n b a.toArray o c (by rw[bh];omega) (by omega)) ⟨e,t,?_⟩
 refine⟨.non,_,I.lset (its':=its++a) f e (by simp) (r.append p) ?_,rfl,q⟩
 rw[aE]
 omega
def zKX:R2:=fun x y H Q=>∃l b xs zs,x=.ref l/\y=.ref b/\H l=some (.lst xs)/\H b=some (.lst zs)/\xs.length+zs.length<=sizeLine/\∀p,H p=none->Q (.ref p) (upd H p (.lst (xs++zs)))
theorem zCb:yK X (binaryOp .Add) zKX:=by
 intro c s σ H x y v u Q I d f h
 obtain⟨l,b,xs,p,rfl,rfl,g,i,hz,q⟩:=h
 cases d
 cases f
 obtain⟨z,its,n,r,hl,e⟩:=I.lstM g
 obtain⟨t,a,w,j,hl2,m⟩:=I.lstM i
 refine PySem.P.add_list e m ?_ (by rw[bh,bh];omega)
 have o:its.toArray++a.toArray=(its++a).toArray:=by simp
 rw[o]
 exact⟨.ref _,_,I.lnew (t':=s.toks) (r.append j) (by rw[aE];omega),rfl,q _ I.fresh⟩
def zKY:R2:=fun x y H Q=>∃l k xs,x=.ref l/\y=.int k/\H l=some (.lst xs)/\-(2^63)<=k/\k<2^63/\xs.length*k.toNat<=sizeLine/\
 ∀p,H p=none->Q (.ref p) (upd H p (.lst (aB k.toNat xs).flatten))
theorem zKZ {α:Type}(xs:List α)(k:Nat):(aB k xs).flatten.length=k*xs.length:=by
 induction k with
 |zero=>simp
 |succ k ih=>rw[dC,eP,aE,ih,Nat.succ_mul,Nat.add_comm]
theorem zAn:yK X (binaryOp .Mult) zKY:=by
 intro o s σ H x y v u Q I p w h
 obtain⟨l,k,xs,rfl,rfl,A,B,C,hz,q⟩:=h
 cases p
 obtain⟨t,rfl⟩:=w
 obtain⟨z,its,n,r,hl,e⟩:=I.lstM A
 have c:its.toArray.size*k.toNat<=sizeLine:=by rw[bh,<-hl];exact hz
 have d:¬its.toArray.size*k.toNat> (2^63-1)/8:=by
  have:(sizeLine:Nat)<=(2^63-1)/8:=by decide
  omega
 have f:¬(!Builtin.List.listFitsIndex k)=true:=by
  rw[fitsIndex_both B C]
  exact aY
 have b:¬eX (its.toArray.size*k.toNat)=true:=by
  rw[zFX c]
  exact aY
 have g:pA (fun i j=>i++j) #[] (aB (if its.toArray.isEmpty=true then 0 else k.toNat) its.toArray)=(aB k.toNat its).flatten.toArray:=by
  have D:∀m:Nat,pA (fun i j=>i++j) #[] (aB m its.toArray)=(aB m its).flatten.toArray:=fun m=>by
   have:=zFW its m []
   rw[oQ]at this
   exact this
  rw[D]
  cases its with
  |nil=>simp
  |cons a E=>rw[if_neg (by simp)]
 refine wpAny_binaryOp_repeat_ref (T :="list") (U :="int") (by decide) ⟨_,e,rfl⟩ (fun s'=>pq s' k t) noFill_list_mul F.fills_int_mul oR repeat_list F.slot_int_index.lookup
  (fP oR (pq s k t) F.entry_int_rmul (F.args_int_rmul_2 _ _) (int___rmul___int_list k t l its.toArray n)
   ⟨e,rfl,⟨_,e,rfl⟩,fP F.slot_list_mul ⟨_,e,rfl⟩ F.entry_list_mul (F.args_list_mul_2 _ _) (nO l its.toArray n k t f d b) ⟨e,?_⟩⟩)
 rw[g]
 exact⟨.ref _,_,I.lnew (t':=s.toks) (r.rep k.toNat) (by rw[zKZ,Nat.mul_comm];exact hz),rfl,q _ I.fresh⟩
end
section
variable{κ:Type} [DecidableEq κ]
def yM (kvs:List (κ×V))(k:κ):Option V:=(kvs.find? fun kv=>decide (kv.1=k)).map (·.2)
def vL (kvs:List (κ×V))(k:κ)(v:V):List (κ×V) :=
 if(kvs.any fun kv=>decide (kv.1=k))=true then kvs.map (fun kv=>if kv.1=k then(kv.1,v)else kv)else kvs++[(k,v)]
def zFZ (kvs:List (κ×V))(k:κ):List (κ×V):=kvs.filter fun kv=>decide (kv.1≠k)
theorem qG {p:κ×V}{r:List (κ×V)}{k:κ}(e:p.1=k):yM (p::r) k=some p.2:=by simp[yM,fE,e]
theorem qH {p:κ×V}{r:List (κ×V)}{k:κ}(e:¬p.1=k):yM (p::r) k=yM r k:=by simp[yM,fE,e]
theorem zBR (k:κ):∀kvs:List (κ×V),(kvs.any fun a=>decide (a.1=k))=(yM kvs k).isSome
 | []=>rfl
 |p::r=>by
  rw[eV]
  by_cases e:p.1=k
  ·simp only[qG e,decide_eq_true e,rk,Option.isSome_some]
  ·rw[qH e,decide_eq_false e,qj];exact zBR k r
theorem zFa (k j:κ)(y:V):∀kvs:List (κ×V),yM (kvs.map fun a=>if a.1=k then(a.1,y)else a) j=(yM kvs j).map fun x=>if j=k then y else x
 | []=>rfl
 |p::r=>by
  have ih:=zFa k j y r
  rw[aF]
  by_cases h:p.1=k
  ·rw[if_pos h]
   by_cases e:p.1=j
   ·rw[qG (p:=(p.1,y)) e,qG e,fD,if_pos (e.symm.trans h)]
   ·rw[qH (p:=(p.1,y)) e,qH e,ih]
  ·rw[if_neg h]
   by_cases e:p.1=j
   ·rw[qG (p:=p) e,qG e,fD,if_neg (fun z=>h (e.trans z))]
   ·rw[qH (p:=p) e,qH e,ih]
theorem zFb (k j:κ)(y:V):∀kvs:List (κ×V),yM kvs k=none->yM (kvs++[(k,y)]) j=if j=k then some y else yM kvs j
 | [],_=>by
  by_cases e:k=j
  ·rw[if_pos e.symm];exact qG (p:=(k,y)) e
  ·rw[if_neg (fun z=>e z.symm)];exact qH (p:=(k,y)) e
 |p::r,a=>by
  rw[fg]
  have b:¬p.1=k:=fun z=>by rw[qG z]at a;cases a
  rw[qH b]at a
  have ih:=zFb k j y r a
  by_cases e:p.1=j
  ·rw[qG e,qG e,if_neg (fun z=>b (e.trans z))]
  ·rw[qH e,qH e,ih]
theorem zKa (kvs:List (κ×V))(k j:κ)(y:V):yM (vL kvs k y) j=if j=k then some y else yM kvs j:=by
 unfold vL
 by_cases a:(kvs.any fun b=>decide (b.1=k))=true
 ·rw[if_pos a,zFa]
  rw[zBR]at a
  by_cases e:j=k
  ·obtain⟨x,c⟩:=kz.mp a
   rw[if_pos e,e,c,fD,if_pos rfl]
  ·rw[if_neg e]
   cases yM kvs j with
   |none=>rfl
   |some x=>rw[fD,if_neg e]
 ·rw[if_neg a]
  refine zFb k j y kvs ?_
  rw[zBR]at a
  cases q:yM kvs k with
  |none=>rfl
  |some x=>rw[q]at a;exact(a rfl).elim
theorem zCc (kvs:List (κ×V))(k:κ)(v:V):(vL kvs k v).length<=kvs.length+1:=by
 unfold vL
 split
 ·rw[aa];omega
 ·rw[aE,bg,List.length_nil];omega
theorem uW.isSome_eq {o:Option V}{u:Option ag}(r:uW o u):o.isSome=u.isSome:=by
 cases o with
 |none=>cases u with
  |none=>rfl
  |some _=>exact(show False from r).elim
 |some _=>cases u with
  |none=>exact(show False from r).elim
  |some _=>rfl
theorem uW.getD {o:Option V}{u:Option ag}{d:V}{d':ag}(r:uW o u)(a:zQ d d'):zQ (o.getD d) (u.getD d'):=by
 cases o with
 |none=>cases u with
  |none=>exact a
  |some _=>exact(show False from r).elim
 |some _=>cases u with
  |none=>exact(show False from r).elim
  |some _=>exact r
theorem KV.val {kvs:List (κ×V)}{vs:List (κ×ag)}(r:KV kvs vs)(k:κ):uW (yM kvs k) (valueAt vs k):=by
 unfold KV at r
 induction r with
 |nil=>exact True.intro
 | @cons p q ps a h t ih=>
  obtain⟨d,f⟩:=h
  by_cases e:p.1=k
  ·have c:q.1=k:=d.symm.trans e
   have b:valueAt (q::a) k=some q.2:=by simp[valueAt,fE,c]
   rw[qG e,b];exact f
  ·have c:¬q.1=k:=fun z=>e (d.trans z)
   have b:valueAt (q::a) k=valueAt a k:=by simp[valueAt,fE,c]
   rw[qH e,b];exact ih
theorem KV.any {kvs:List (κ×V)}{vs:List (κ×ag)}(r:KV kvs vs)(k:κ):(kvs.any fun a=>decide (a.1=k))=vs.any fun a=>decide (a.1=k):=by
 unfold KV at r
 induction r with
 |nil=>rfl
 |cons h t ih=>rw[eV,eV,ih,h.1]
theorem KV.repl {kvs:List (κ×V)}{vs:List (κ×ag)}(r:KV kvs vs)(k:κ){y:V}{u:ag}(c:zQ y u) :
  KV (kvs.map fun a=>if a.1=k then(a.1,y)else a) (vs.map fun a=>if a.1=k then(a.1,u)else a):=by
 unfold KV at r⊢
 induction r with
 |nil=>exact .nil
 | @cons p q ps f h t ih=>
  rw[aF,aF]
  refine .cons ?_ ih
  obtain⟨b,d⟩:=h
  by_cases e:p.1=k
  ·rw[if_pos e,if_pos (b.symm.trans e)];exact⟨b,c⟩
  ·rw[if_neg e,if_neg (fun z=>e (b.trans z))];exact⟨b,d⟩
theorem KV.put {kvs:List (κ×V)}{vs:List (κ×ag)}(r:KV kvs vs)(k:κ){y:V}{u:ag}(a:zQ y u):KV (vL kvs k y) (stored vs k u):=by
 unfold vL stored
 rw[r.any k]
 by_cases e:(vs.any fun b=>decide (b.1=k))=true
 ·rw[if_pos e,if_pos e];exact r.repl k a
 ·rw[if_neg e,if_neg e];exact rW r ⟨rfl,a⟩
theorem KV.drop {kvs:List (κ×V)}{vs:List (κ×ag)}(r:KV kvs vs)(k:κ):KV (zFZ kvs k) (without vs k):=by
 unfold KV at r⊢
 unfold zFZ without
 induction r with
 |nil=>exact .nil
 | @cons p q ps g h t ih=>
  obtain⟨c,d⟩:=h
  rw[d8,d8]
  by_cases e:p.1=k
  ·have a:¬decide (p.1≠k)=true:=by simp[e]
   have b:¬decide (q.1≠k)=true:=by simp[c.symm.trans e]
   rw[if_neg a,if_neg b];exact ih
  ·have f:¬q.1=k:=fun z=>e (c.trans z)
   have a:decide (p.1≠k)=true:=by simp[e]
   have b:decide (q.1≠k)=true:=by simp[f]
   rw[if_pos a,if_pos b];exact .cons ⟨c,d⟩ ih
theorem KV.keys {kvs:List (κ×V)}{vs:List (κ×ag)}(r:KV kvs vs):kvs.map (·.1)=vs.map (·.1):=by
 unfold KV at r
 induction r with
 |nil=>rfl
 |cons h t ih=>rw[aF,aF,ih,h.1]
theorem KV.length {kvs:List (κ×V)}{vs:List (κ×ag)}(r:KV kvs vs):kvs.length=vs.length:=cO r
end
theorem gM {P:aJ}{w:aV}{k:zK}{u:ag}(r:zQ (kV k) u):(vF P w).is k u=true:=by
 cases k with
 |inl i=>obtain⟨t,e⟩:=(show∃t,u=Value.int i t from r);subst e;exact zJL P w i t
 |inr x=>obtain⟨t,e⟩:=(show∃t,u=Value.str x t from r);subst e;exact zEp P w x t
theorem zKb {P:aJ}{w:aV}{k:yR}{u:ag}(r:zQ (jT k) u):(kT P w).is k u=true:=by
 cases k with
 |inl x=>obtain⟨t,e⟩:=(show∃t,u=Value.str x t from r);subst e;show iJ x (.str x t)=true;simp[iJ]
 |inr b=>have e:u=Value.bool b:=r;subst e;exact beq_self_eq_true _
theorem zFc {P:aJ}{w:aV}:∀{ks:List yR}{a:List ag},zM (ks.map jT) a->ItemsAre (kT P w) ks a
 | [],_,r=>by rw[lQ]at r;cases r;exact .nil
 |k::ks,_,r=>by
  rw[aF]at r
  cases r with
  |cons h t=>exact .cons (zKb h) (zFc t)
abbrev KT (H:Hp):List (List yR×V)->List (List yR×ah×ag)->Prop:=nH fun p q=>p.1=q.1/\H q.2.1=some (.tup (p.1.map jT))/\zQ p.2 q.2.2
theorem KT.val {H:Hp}{kvs:List (List yR×V)}{xs:List (List yR×ah×ag)}(r:KT H kvs xs)(k:List yR):uW (yM kvs k) ((atKey xs k).map (·.2)):=by
 induction r with
 |nil=>exact True.intro
 | @cons p q ps a h t ih=>
  obtain⟨d,_,f⟩:=h
  by_cases e:p.1=k
  ·have c:q.1=k:=d.symm.trans e
   have b:atKey (q::a) k=some q.2:=by simp[atKey,fE,c]
   rw[qG e,b];exact f
  ·have c:¬q.1=k:=fun z=>e (d.trans z)
   have b:atKey (q::a) k=atKey a k:=by simp[atKey,fE,c]
   rw[qH e,b];exact ih
theorem KT.repl {H:Hp}{kvs:List (List yR×V)}{xs:List (List yR×ah×ag)}(r:KT H kvs xs)(k:List yR){y:V}{u:ag}(d:zQ y u) :
  KT H (kvs.map fun b=>if b.1=k then(b.1,y)else b) (xs.map (putAt k u)):=by
 induction r with
 |nil=>exact .nil
 | @cons p q ps g h t ih=>
  rw[aF,aF]
  refine .cons ?_ ih
  obtain⟨a,c,f⟩:=h
  unfold putAt
  by_cases e:p.1=k
  ·rw[if_pos e,if_pos (a.symm.trans e)];exact⟨a,c,d⟩
  ·rw[if_neg e,if_neg (fun z=>e (a.trans z))];exact⟨a,c,f⟩
theorem KT.put {H:Hp}{kvs:List (List yR×V)}{xs:List (List yR×ah×ag)}(r:KT H kvs xs)(k:List yR){b:ah}{y:V}{u:ag}(c:H b=some (.tup (k.map jT)))(a:zQ y u) :
  KT H (vL kvs k y) (storedH xs k b u):=by
 have e:(kvs.any fun d=>decide (d.1=k))=(atKey xs k).isSome:=by
  rw[zBR,(r.val k).isSome_eq,kl]
 unfold vL storedH
 rw[e]
 by_cases q:(atKey xs k).isSome=true
 ·rw[if_pos q,if_pos q];exact r.repl k a
 ·rw[if_neg q,if_neg q];exact rW r ⟨rfl,c,a⟩
theorem KT.keeps {H H':Hp}{kvs:List (List yR×V)}{xs:List (List yR×ah×ag)}(r:KT H kvs xs)(a:∀b ys,H b=some (.tup ys)->H' b=some (.tup ys)):KT H' kvs xs :=
 Paired.mapP r fun _ _ z=>⟨z.1,a _ _ z.2.1,z.2.2⟩
section
variable{P:aJ}{w:aV}{H:Hp}{h:bC}{a:ah}
theorem zFd {u:HO}(ok:z9 P w H h)(e:Rd H a u):yP P w H h a u:=e.ok ok
theorem uO {kvs:List (zK×V)}(ok:z9 P w H h)(e:Rd H a (.dK kvs)):kvs.length<=sizeLine/\(a==sysModules)=false/\∃vs,KV kvs vs/\h.DictOf (vF P w) a vs :=
 show yP P w H h a (.dK kvs)from zFd ok e
theorem j4 {kvs:List (zK×V)}(ok:z9 P w H h)(e:H a=some (.dK kvs)):kvs.length<=sizeLine/\(a==sysModules)=false/\∃vs,KV kvs vs/\h.DictOf (vF P w) a vs:=uO ok (.inl e)
theorem zAH {ks:List yR}(ok:z9 P w H h)(e:H a=some (.tup (ks.map jT))):(tupleKind (kT P w)).is h ks a:=by
 obtain⟨_,its,r,o,b,c,n,d⟩:=(show yP P w H h a (.tup (ks.map jT))from ok a _ e)
 exact⟨o,its.toArray,n,b,c,d,by simpa using zFc r⟩
theorem gN {kvs:List (List yR×V)}(ok:z9 P w H h)(e:Rd H a (.dT kvs)):kvs.length<=sizeLine/\(a==sysModules)=false/\
  ∃xs,KT H kvs xs/\h.DictOfH (tupleKind (kT P w)) a xs:=by
 obtain⟨z,y,xs,r,o,d,ep,f,g,i,j,n⟩:=(show yP P w H h a (.dT kvs)from zFd ok e)
 refine⟨z,y,xs,r,o,d,ep,f,g,i,j,fun x b=>?_,n⟩
 have all:∀{l:List (List yR×V)} {m:List (List yR×ah×ag)},KT H l m->∀x∈m,(tupleKind (kT P w)).is h x.1 x.2.1:=by
  intro l m q
  induction q with
  |nil=>intro x b;exact nomatch b
  | @cons p q ps s c t ih=>
   intro x b
   rcases aL.mp b with e|b
   ·subst e
    exact zAH ok (by rw[<-c.1];exact c.2.1)
   ·exact ih x b
 exact all r x b
theorem zKc {kvs:List (List yR×V)}(ok:z9 P w H h)(e:H a=some (.dT kvs)):kvs.length<=sizeLine/\(a==sysModules)=false/\
  ∃xs,KT H kvs xs/\h.DictOfH (tupleKind (kT P w)) a xs:=gN ok (.inl e)
end
def yV (H:Hp)(a:ah)(y:V)(r:Option V):Prop :=
 (∃kvs k,Rd H a (.dK kvs)/\y=kV k/\r=yM kvs k)\/∃kvs k b,Rd H a (.dT kvs)/\y=.ref b/\H b=some (.tup (k.map jT))/\r=yM kvs k
def qV (H:Hp)(a:ah)(y v:V)(H':Hp):Prop :=
 (∃kvs k,H a=some (.dK kvs)/\y=kV k/\kvs.length<sizeLine/\H'=upd H a (.dK (vL kvs k v)))\/
 ∃kvs k b,H a=some (.dT kvs)/\y=.ref b/\H b=some (.tup (k.map jT))/\kvs.length<sizeLine/\H'=upd H a (.dT (vL kvs k v))
theorem yV.k {H:Hp}{a:ah}{kvs:List (zK×V)}{k:zK}(e:H a=some (.dK kvs)):yV H a (kV k) (yM kvs k):=.inl ⟨kvs,k,.inl e,rfl,rfl⟩
theorem qV.k {H:Hp}{a:ah}{kvs:List (zK×V)}{k:zK}{v:V}(e:H a=some (.dK kvs))(hl:kvs.length<sizeLine):qV H a (kV k) v (upd H a (.dK (vL kvs k v))):=.inl ⟨kvs,k,e,rfl,hl,rfl⟩
section
variable{X:Cx}{pins:List (ah×Obj)}{σ:St}{H:Hp}{s:av}{a:ah}{y v:V}{u r:ag}{o:Option V}{A:bM}{E:ag->av->Prop}
theorem Inv.big (I:Inv X pins σ H s):sysModules<s.heap.objs.size:=by
 have h:mainGlobals<s.heap.objs.size:=(I.mod.glob.keeps I.bk).lt
 exact lU (by decide) h
theorem zKd {Q:ag->av->Prop}(n:A.units+1<cLine)(I:Inv X pins σ H s)(g:yV H a y (some v))(m:zQ y u)(h:∀d s',Inv X pins σ H s'->zQ v d->Q d s') :
  wpAny (model X.prog X.w) A (getItem (.ref a) u) Q E s:=by
 rcases g with⟨kvs,k,e,f,l⟩|⟨kvs,k,b,e,f,q,l⟩
 ·subst f
  obtain⟨z,hd,vs,rel,dd⟩:=uO I.hok e
  obtain⟨d,i,c⟩:=uW.some_of (v:=v) (o:=valueAt vs k) (by rw[l];exact rel.val k)
  exact wpAny_getItem_of (gM m) dd.mapOf i (h d _ (I.tok _) c)
 ·subst f
  cases(show u=Value.ref b from m)
  obtain⟨z,hd,xs,rel,dd⟩:=gN I.hok e
  obtain⟨d,i,c⟩:=uW.some_of (v:=v) (o:=(atKey xs k).map (·.2)) (by rw[l];exact rel.val k)
  obtain⟨p,t,j⟩:=ic.mp i
  refine wpAny_getItem_heap (fw n) (zAH I.hok q) dd t ?_
  rw[j]
  exact h d _ (I.tok _) c
theorem zKe {Q:ag->av->Prop}(f:A.units+1<cLine)(I:Inv X pins σ H s)(g:yV H a y o)(d:zQ y u)(h:∀s',Inv X pins σ H s'->Q (.bool o.isSome) s') :
  wpAny (model X.prog X.w) A (compareOp .In u (.ref a)) Q E s:=by
 rcases g with⟨kvs,k,e,c,l⟩|⟨kvs,k,b,e,c,i,l⟩
 ·subst c
  obtain⟨z,hd,vs,rel,dd⟩:=uO I.hok e
  refine wpAny_in_of (gM d) hd dd.mapOf ?_
  rw[<- (rel.val k).isSome_eq,<-l]
  exact h _ (I.tok _)
 ·subst c
  cases(show u=Value.ref b from d)
  obtain⟨z,hd,xs,rel,dd⟩:=gN I.hok e
  refine wpAny_in_heap (fw f) (zAH I.hok i) hd dd ?_
  have q:=(rel.val k).isSome_eq
  rw[kl]at q
  rw[<-q,<-l]
  exact h _ (I.tok _)
theorem zKf {Q:ag->av->Prop}(f:A.units+1<cLine)(I:Inv X pins σ H s)(g:yV H a y o)(d:zQ y u)(h:∀s',Inv X pins σ H s'->Q (.bool (!o.isSome)) s') :
  wpAny (model X.prog X.w) A (compareOp .NotIn u (.ref a)) Q E s:=by
 rcases g with⟨kvs,k,e,c,l⟩|⟨kvs,k,b,e,c,i,l⟩
 ·subst c
  obtain⟨z,hd,vs,rel,dd⟩:=uO I.hok e
  refine wpAny_notIn_of (gM d) hd dd.mapOf ?_
  rw[<- (rel.val k).isSome_eq,<-l]
  exact h _ (I.tok _)
 ·subst c
  cases(show u=Value.ref b from d)
  obtain⟨z,hd,xs,rel,dd⟩:=gN I.hok e
  refine wpAny_notIn_heap (fw f) (zAH I.hok i) hd dd ?_
  have q:=(rel.val k).isSome_eq
  rw[kl]at q
  rw[<-q,<-l]
  exact h _ (I.tok _)
theorem zBS {h':bC}{t':Nat}{c:HO}(I:Inv X pins σ H s)(d:Mut (H a))(f:ie a s.heap h')(g:∃q,h'.get? a=some q)(new:yP X.prog X.w (upd H a c) h' a c) :
  Inv X pins σ (upd H a c) {s with heap:=h',toks:=t'} :=
 I.write (x:=a) (e:=a) d (.inl rfl) (fun b q h z=>(f.2 b h).trans z) g new
theorem zBT {P:aJ}{w:aV}{H':Hp}{h':bC}{kvs:List (zK×V)}{vs:List (zK×ag)}(z:kvs.length<=sizeLine)(hd:(a==sysModules)=false)(rel:KV kvs vs)(dd:h'.DictOf (vF P w) a vs) :
  yP P w H' h' a (.dK kvs):=⟨z,hd,vs,rel,dd⟩
theorem zKg {H':Hp}{Q:Unit->av->Prop}(B:A.units+1<cLine)(I:Inv X pins σ H s)(g:qV H a y v H')(n:zQ y u)(p:zQ v r)(h:∀s',Inv X pins σ H' s'->Q () s') :
  wpAny (model X.prog X.w) A (setItem (.ref a) u r) Q E s:=by
 rcases g with⟨kvs,k,e,i,l,j⟩|⟨kvs,k,b,e,i,t,l,j⟩
 ·subst i j
  obtain⟨z,hd,vs,rel,dd⟩:=j4 I.hok e
  have hz:vs.length<=sizeLine:=by rw[<-rel.length];exact z
  have hl:(vL kvs k v).length<=sizeLine:=by have:=zCc kvs k v;omega
  refine wpAny_setItem_pairs (hsz:=hz) (gM n) dd fun h' d m=>h _ ?_
  have C:∃q,h'.get? a=some q:=let⟨q,_,_,f,_⟩:=d;⟨q,f⟩
  exact zBS I (by rw[e];exact True.intro) m C (zBT hl hd (rel.put k p) d)
 ·subst i j
  cases(show u=Value.ref b from n)
  obtain⟨z,hd,xs,rel,dd⟩:=zKc I.hok e
  have hz:xs.length<=sizeLine:=by rw[<-cO rel];exact z
  have hl:(vL kvs k v).length<=sizeLine:=by have:=zCc kvs k v;omega
  refine wpAny_setItem_heap (hsz:=hz) (fw B) (zAH I.hok t) dd fun h' d m=>h _ ?_
  obtain⟨q,D,ep,f,F,G,J,_,L⟩:=d
  refine zBS I (by rw[e];exact True.intro) m ⟨q,f⟩ ⟨hl,hd,_,(rel.put k t p).keeps fun c ys x=>?_,q,D,ep,f,F,G,J,L⟩
  rw[zG (zAe x e (fun z=>nomatch z))]
  exact x
end
def zFe (i:bV):Prop:=∀ov iv,subscripted i false ov iv=operate [ov,iv] (getItem ov iv)
theorem zKh {prog:aJ}{w:aV}{A:bM}{E:ag->av->Prop}{s:av}{env:Env}{value slice:bV}{pos:Pos}{T id:String}{Q:ag->av->Prop}
  (hl:typeLookup (.type T) "__getitem__"=pure (some (.builtin id))) (f:zFe slice)
  (h:wpAny (model prog w) A (eval value env) (fun o c=>wpAny (model prog w) A (eval slice env) (fun i a=>a.TypeIs o T/\wpAny (model prog w) A (getItem o i) Q E a) E c) E s) :
  wpAny (model prog w) A (eval (.Subscript value slice pos) env) Q E s:=by
 refine pj (cf h (fun o c h₁=>cf h₁ (fun i a b=>?_) fun _ _ x=>x) fun _ _ x=>x)
 obtain⟨d,b⟩:=b
 unfold subscriptTail
 refine aw ?_
 rw[getitemInPython_of_ne d.not_modules]
 refine aw (oS d hl ?_)
 have fin:wpAny (model prog w) A (subscripted slice false o i) (fun r e=>wpAny (model prog w) A (letTemporaryGo value o r>>=fun _=>pure r) Q E e) E a:=by
  rw[f o i]
  exact wpAny_operating (cf b (fun r e g=>aw (wpAny_letTemporaryGo (aH g))) fun _ _ x=>x)
 first
  |exact aH (aw fin)
  |exact aw (aH (aw fin))
  |exact aw fin
theorem zKi {X:Cx}{c:List (ah×Obj)}{σ:St}{H:Hp}{s:av}{a:ah}{y:V}{o:Option V}(I:Inv X c σ H s)(g:yV H a y o):s.TypeIs (.ref a) "dict" :=by
 rcases g with⟨kvs,k,e,_,_⟩|⟨kvs,k,b,e,_,_,_⟩
 ·obtain⟨_,_,vs,_,dd⟩:=uO I.hok e
  exact dd.typeIs
 ·obtain⟨_,_,xs,_,dd⟩:=gN I.hok e
  exact dd.typeIs
def zBU (td ty:TE):TE:=fun σ H Q=>td σ H fun x H1=>ty σ H1 fun y H2=>∃a v,x=.ref a/\yV H2 a y (some v)/\Q v H2
def zKj (ty td:TE):TE:=fun σ H Q=>ty σ H fun y H1=>td σ H1 fun x H2=>∃a o,x=.ref a/\yV H2 a y o/\Q (.bl o.isSome) H2
def zKk (ty td:TE):TE:=fun σ H Q=>ty σ H fun y H1=>td σ H1 fun x H2=>∃a o,x=.ref a/\yV H2 a y o/\Q (.bl (!o.isSome)) H2
def zCd (td ty tv:TE):TS:=fun D σ H=>tv σ H fun v H1=>td σ H1 fun x H2=>ty σ H2 fun y H3=>∃a H4,x=.ref a/\qV H3 a y v H4/\D.nx σ H4
section
variable{X:Cx}{o i e value:bV}{pos pos' tpos:Pos}{td ty tv:TE}
theorem j6 (f:X.A.units+1<cLine)(j:PE X o td)(hi:PE X i ty)(l:zFe i):PE X (.Subscript o i pos) (zBU td ty):=by
 intro b s σ H Q I h
 refine zKh PySem.F.slot_dict_getitem.lookup l (zH (j b s σ H _ I h) fun u m ⟨x,n,p,q,r⟩=>zH (hi b m σ n _ p r) fun C D ⟨y,t,d,w,a,v,ex,g,z⟩=>?_)
 subst ex
 obtain rfl:u=Value.ref a:=q
 exact⟨zKi d g,zKd f d g w fun E G B c=>⟨v,t,B,c,z⟩⟩
theorem zFf (c:X.A.units+1<cLine)(hi:PE X i ty)(d:PE X o td):PC X .In i o (zKj ty td):=by
 intro b s σ H Q I h
 refine zH (hi b s σ H _ I h) fun z f ⟨y,j,l,m,n⟩=>zH (d b f σ j _ l n) fun u B ⟨x,p,q,r,a,t,ex,g,v⟩=>?_
 subst ex
 obtain rfl:u=Value.ref a:=r
 exact zKe c q g m fun C w=>⟨.bl t.isSome,p,w,rfl,v⟩
theorem zFg (c:X.A.units+1<cLine)(hi:PE X i ty)(d:PE X o td):PC X .NotIn i o (zKk ty td):=by
 intro b s σ H Q I h
 refine zH (hi b s σ H _ I h) fun z f ⟨y,j,l,m,n⟩=>zH (d b f σ j _ l n) fun u B ⟨x,p,q,r,a,t,ex,g,v⟩=>?_
 subst ex
 obtain rfl:u=Value.ref a:=r
 exact zKf c q g m fun C w=>⟨.bl (!t.isSome),p,w,rfl,v⟩
theorem gO (c:X.A.units+1<cLine)(d:PE X o td)(hi:PE X i ty)(f:PE X value tv)(j:swapsWith value (some (.Subscript o i pos')) pos.line X.env=pure false) :
  PS X (.Assign [.Subscript o i pos'] value pos) (zCd td ty tv):=by
 intro b s σ H D I h
 refine wpAny_Assign_Subscript (zH (f b s σ H _ I h) fun r l ⟨v,m,n,p,q⟩=>zH (d b l σ m _ n q) fun u t ⟨x,w,z,B,C⟩=>zH (hi b t σ w _ z C) fun M N ⟨y,O,E,F,a,G,ex,g,J⟩=>?_) j
 subst ex
 obtain rfl:u=Value.ref a:=B
 exact zKg c E g F p fun P L=>⟨σ,G,L,J⟩
end
theorem zFh {P:aJ}{w:aV}{H:Hp}(h:bC)(a:sysModules<h.objs.size):yP P w H (h.push {cls:=.type "dict",data:=.dict #[]}) h.objs.size (.dK []) :=
 ⟨bQ _,beq_eq_false_iff_ne.mpr (fm (bf a)),[],.nil,oU h⟩
def zKl:TE:=fun _ H Q=>∀p,H p=none->Q (.ref p) (upd H p (.dK []))
section
variable{X:Cx}{pos:Pos}
theorem j7:PE X (.Dict [] [] pos) zKl:=fun b s σ H Q I h=>
 wpAny_Dict_empty ⟨.ref s.heap.objs.size,_,I.laid (a:=s.heap.objs.size) (o:=.dK []) (t':=s.toks) (fun _ _ q=>ai _ q) (aD _) (zFh s.heap I.big),rfl,h _ (I.hok.fresh (aD _))⟩
end
def zFi:List (TE×TE)->St->Hp->(List (V×V)->Hp->Prop)->Prop
 | [],_,H,Q=>Q [] H
 |(tk,tv)::r,σ,H,Q=>tk σ H fun x H1=>tv σ H1 fun y H2=>zFi r σ H2 fun ps H3=>Q ((x,y)::ps) H3
abbrev VV:List (V×V)->List (ag×ag)->Prop:=nH fun p q=>zQ p.1 q.1/\zQ p.2 q.2
def PPs (X:Cx)(pos:Pos)(keys:List (Option bV))(values:List bV)(trs:List (TE×TE)):Prop :=
 ∀(pins:List (ah×Obj)) (s:av) (σ:St) (H:Hp) (Q:List (V×V)->Hp->Prop),Inv X pins σ H s->zFi trs σ H Q->
  wpAny (model X.prog X.w) X.A (evalPairs (pairTrees keys values X.env pos)) (fun vs s'=>∃ps H',Inv X pins σ H' s'/\VV ps vs/\Q ps H') X.xe s
theorem zKm {X:Cx}{pos:Pos}:PPs X pos [] [] []:=fun a s σ H Q I h=>pairTrees_nil_walk ⟨[],H,I,.nil,h⟩
theorem zKn {X:Cx}{pos:Pos}{k v:bV}{ks:List (Option bV)}{vs:List bV}{tk c:TE}{b:List (TE×TE)}(d:PE X k tk)(e:PE X v c)(f:PPs X pos ks vs b) :
  PPs X pos (some k::ks) (v::vs) ((tk,c)::b):=fun a s σ H Q I h=>
 pairTrees_cons_walk (zH (d a s σ H _ I h) fun u g ⟨x,i,j,l,m⟩=>zH (e a g σ i _ j m) fun A n ⟨y,o,p,q,r⟩=>
  zH (f a n σ o _ p r) fun B C ⟨ps,t,w,rel,z⟩=>⟨(x,y)::ps,t,w,.cons ⟨l,q⟩ rel,z⟩)
structure M2 (X:Cx) (o:bV) (m:Str) (apos:Pos) (e f:bV) (cpos:Pos):Prop where
 base:attributeBase o m X.env (eval o X.env)=eval o X.env
 few:((backTo cpos (starEach [e,f] X.env)).all (fun x=>!x.1)&& (backToKw cpos (keywordEach [] X.env)).all (fun x=>x.1.isSome)
  &&decide (([e,f]:List bV).length+([]:List o6).length+(if([]:List o6).isEmpty then 0 else 1)<30))=true
 line:(apos.endLine==cpos.line)=true
 trees:backTo cpos (starEach [e,f] X.env)=[(false,eval e X.env),(false,eval f X.env)]
def IsD (H:Hp)(a:ah):Prop:=(∃kvs,Rd H a (.dK kvs))\/∃kvs,Rd H a (.dT kvs)
theorem zFj {X:Cx}{f:List (ah×Obj)}{σ:St}{H:Hp}{s:av}{a:ah}(I:Inv X f σ H s)(d:IsD H a) :
  s.TypeIs (.ref a) "dict"/\ (∀b,Value.ref a=.ref b->∃c,s.heap.get? b=some c/\c.dict=none)/\(a==sysModules)=false:=by
 rcases d with⟨kvs,e⟩|⟨kvs,e⟩
 ·obtain⟨_,hd,vs,_,dd⟩:=uO I.hok e
  refine⟨dd.typeIs,fun b q=>?_,hd⟩
  cases q
  obtain⟨c,_,_,g,h,_⟩:=dd
  exact⟨c,g,h.2.1⟩
 ·obtain⟨_,hd,xs,_,dd⟩:=gN I.hok e
  refine⟨dd.typeIs,fun b q=>?_,hd⟩
  cases q
  obtain⟨c,_,_,g,h,_⟩:=dd
  exact⟨c,g,h.2.1⟩
section
variable{X:Cx}{pins:List (ah×Obj)}{σ:St}{H:Hp}{s:av}{a:ah}{y d:V}{u r:ag}{o:Option V}{A:bM}{E:ag->av->Prop}
theorem zKo {Q:ag->av->Prop}(m:A.units+1<cLine)(I:Inv X pins σ H s)(g:yV H a y o)(f:zQ y u)(i:zQ d r)(h:∀j s',Inv X pins σ H s'->zQ (o.getD d) j->Q j s') :
  wpAny (model X.prog X.w) A (call (.builtin "dict.get") [.ref a,u,r]) Q E s:=by
 rcases g with⟨kvs,k,e,c,l⟩|⟨kvs,k,b,e,c,n,l⟩
 ·subst c
  obtain⟨z,hd,vs,rel,dd⟩:=uO I.hok e
  refine il iA dd.typeIs lV (lD _ _ _) (meets_dict_get_default (vF X.prog X.w) a (gM f) hd r) ⟨_,dd.mapOf,h _ _ (I.tok _) ?_⟩
  rw[l]
  exact(rel.val k).getD i
 ·subst c
  cases(show u=Value.ref b from f)
  obtain⟨z,hd,xs,rel,dd⟩:=gN I.hok e
  refine il iA dd.typeIs lV (lD _ _ _) (meetsH_dict_get_default (tupleKind (kT X.prog X.w)) a b hd r) ⟨fw m,k,xs,zAH I.hok n,dd,h _ _ (I.tok _) ?_⟩
  rw[l]
  exact(rel.val k).getD i
end
def zCe (td ty tx:TE):TE:=fun σ H Q=>td σ H fun x H1=>∃a,x=.ref a/\IsD H1 a/\ty σ H1 fun y H2=>tx σ H2 fun z H3=>∃o,yV H3 a y o/\Q (o.getD z) H3
section
variable{X:Cx}{o e f:bV}{apos cpos:Pos}{td ty tx:TE}
theorem zAI (j:X.A.units+1<cLine)(l:PE X o td)(n:PE X e ty)(p:PE X f tx)(m:M2 X o "get" apos e f cpos):PE X (.Call (.Attribute o "get" apos) [e,f] [] cpos) (zCe td ty tx):=by
 intro b s σ H Q I h
 refine wpAny_Call_method m.base m.few m.line bY iA PySem.F.type_dict_get (zH (l b s σ H _ I h) fun u q ⟨x,r,i,t,a,ex,d,v⟩=>?_)
 subst ex
 obtain rfl:u=Value.ref a:=t
 obtain⟨w,B,_⟩:=zFj i d
 refine⟨w,B,?_⟩
 rw[m.trees]
 refine fu rfl (iM (gr (zH (n b q σ r _ i v) fun R C ⟨y,D,E,G,J⟩=>
  gr (zH (p b C σ D _ E J) fun T U ⟨z,L,M,N,W,g,O⟩=>ki ?_))))
 exact zKo j M g G N fun Y Z P c=>⟨_,L,P,c,O⟩
end
end L2
namespace Att
open PySem PySem.W PySem.Calls PyProof.Rows
theorem zKp {P:o8}{h:bC}:∀(ns:List Int) (vs:List ag),WellAll P h vs (ns.map WData.int)->jc vs ns:=by
 intro ns
 induction ns with
 |nil=>
  intro vs w
  rw[lQ]at w
  cases w
  exact .nil
 |cons n ns ih=>
  intro vs w
  rw[aF]at w
  cases w with
  |cons a b=>
   cases a
   exact .cons _ _ (ih _ b)
theorem zKq {l:OpenLaw}{n:Nat}(p:l.most=some n){P:o8}{h:bC}{args:List WData}{b:List ag}
  (c:l.row.toRowW.claim.pre args=true) (j:WellAll P h b args) :
  ∃a vs ns,b=[Value.ref a]/\args=[WData.list (ns.map WData.int)]/\h.get? a=some {cls:=.type "list",data:=.seq vs.toArray}/\jc vs ns/\ns.length<=n:=by
 have m:WShape.hasAll [] args [.list .int]=true:=(pre_splitW c).1
 have o:l.pre.holds [] {args:=args}=true:=(pre_splitW c).2
 obtain⟨d,r,rfl,s,t⟩:=hasAllW_cons m
 obtain rfl:=hasAllW_nil t
 obtain⟨xs,rfl,u⟩:=hasW_list s
 obtain⟨ns,rfl⟩:=items_int u
 have e:ns.length<=n:=by
  unfold OpenLaw.pre at o
  have g:(WTm.not (.lt (.lit (.int (n:Int))) (.len (.arg 0)))).holds [] {args:=[.list (ns.map .int)]}=true:=by
   have g:=(holds_andW o).1
   rw[p]at g
   exact g
  have i:=condW_of g (w_not (w_lt w_lit (w_len_list (w_arg rfl))))
  rw[aa]at i
  refine Nat.le_of_not_lt fun q=>?_
  have v:(n:Int)<((ns.length:Nat):Int):=by omega
  first
   |(rw[decide_eq_true v]at i;exact absurd i (by decide))
   |(simp at i;omega)
 cases j with
 |cons w x=>
  cases x
  cases w with
  |list y f=>exact⟨_,_,ns,rfl,rfl,y,zKp ns _ f,e⟩
theorem zKr (l:OpenLaw)(args:List WData):l.row.toRowW.claim.post args (.bool true) args=true :=
 postW_of (r:=l.row.toRowW) (X:=(true==true))
  (show sL [] (.bool true) .bool=true by first|rfl|decide|simp[sL,WShape.arms,WShape.armsAll])
  (show(WTm.eq .res (.lit (.bool true))).value [] {args:=args,res:=some (.bool true),after:=args}=some (.bool (true==true))from w_eq_bool (w_res rfl) w_lit) rfl
theorem attach_call {l:OpenLaw}{n:Nat}{q:aJ}{loose:List Str}{XP:(Str->Option ag)->bC->Prop}{YP:aV->bC->Prop}{d:DefRec}
  (A:l.most=some n) (p:d.params.defaults=[])
  (call:∀(w:aV) (s₀ b:av) (mg s:Str->Option ag) (g:ah) (o:Obj) (pm m c:ag) (a:ah) (vs:List ag) (ns:List Int),
   Ground q loose [] XP w s₀ mg s b.heap->YP w b.heap->
   b.heap.get? g=some o->o.data=.func (docDef d.name d.params d.body d.scope pm m c)->b.heap.CodeRec m d.name->mg d.name=some (.ref g)->
   b.heap.get? a=some {cls:=.type "list",data:=.seq vs.toArray}->jc vs ns->ns.length<=n->b.gens=#[]->
   codeAny (model l.prog w) callerA (.call (.ref g) ⟨[.ref a],[]⟩) (fun r s'=>r=.ok (.ret (.bool true))/\OldK b.heap s'.heap/\s'.os=b.os/\ja s'.gens) b) :
  WalkO q loose XP YP l.row.toRowW d [] (fun f vs=>pD f vs):=by
 intro w s₀ b mg s G Y g o pm m c B kV C hd t x u D args y as h z E v F
 obtain rfl:B=.none:=Dflts.none x p
 obtain rfl:kV=.none:=Dflts.noKw x
 obtain⟨a,vs,ns,rfl,rfl,i,e,j⟩:=zKq A h v
 refine enter_call (eJ (call w s₀ b mg s g o pm m c a vs ns G Y C (fd_plain hd) t u i e j D) fun r s' H=>?_)
 obtain⟨rfl,I,J,L⟩:=H
 exact⟨.inl ⟨.bool true,.bool true,[],rfl,fun _=>rfl,.bool true,zKr l _,fun _=>⟨List.Pairwise.nil,fun _ hm=>(nomatch hm)⟩⟩,I,J,L⟩
end Att
namespace L2
open PySem PySem.Spec PyProof.Rows
theorem zFk:∀{vs:List ag}{ns:List Int},jc vs ns->zM (ns.map V.int) vs
 |_,_,.nil=>.nil
 |_,_,.cons n t h=>.cons ⟨t,rfl⟩ (zFk h)
def zCf (H:Hp):Prop:=∀b,H b=none\/∃o xs,H b=some (.frz o (.lst xs))
theorem zKs {P:aJ}{w:aV}{K:ae}{mg D:Str->Option ag}{CX:v7}{k:Nat}{E a:ah}{fd:aX}{x:Str}{sp:Sp}{c:av}{vs:List ag}{ns:List Int}
  (O:K.In c.heap) (j:c.heap.Ns mainGlobals mg) (f:c.heap.Ns builtinsNs D) (G:∀x:Str,x≠"__name__"->D x=bootBuiltins x) (l:c.heap.NoLimit) (W:c.gens=#[])
  (C:c.heap.get? a=some {cls:=.type "list",data:=.seq vs.toArray}) (hi:jc vs ns) (hl:ns.length<=sizeLine) (X:Room k callerA)
  (F:∀base:bC,K.In base->base.Ns mainGlobals mg->FnOk P w K mg base CX k E fd [x] sp) (i:∀(s:av) (u:ag),mZ s fd ⟨[u],[]⟩ [(x,u)])
  (I:∀H:Hp,zCf H->yL K H a (ns.map V.int)->sp [.ref a] H (fun v _=>v=.bl true) fun _ _ _=>False)
  (J:∀H e s',CX [] H c (fun _ _ _=>False) e s'->False) :
  codeAny (model P w) callerA (.call (.ref E) ⟨[.ref a],[]⟩) (fun r s'=>r=.ok (.ret (.bool true))/\OldK c.heap s'.heap/\s'.os=c.os/\ja s'.gens) c:=by
 have Q:=zFk hi
 have p:=hi.length
 have core:∀H:Hp,zCf H->yL K H a (ns.map V.int)->z9 P w H c.heap->(∀b,H b≠none->b=a)->(H a≠none->K.lookup a=none)->
   codeAny (model P w) callerA (.call (.ref E) ⟨[.ref a],[]⟩) (fun r s'=>r=.ok (.ret (.bool true))/\OldK c.heap s'.heap/\s'.os=c.os/\ja s'.gens) c:=by
  intro H R Y hok T Z
  have base_of:∀{b:ah} {o:Obj},c.heap.get? b=some o->H b=none->(jU c.heap H).get? b=some o:=fun e n=>zJN e n
  have L:∀{b:ah} {o:Obj} {t:Array DictEntry} {ep:Nat},c.heap.get? b=some o->o.data=.dict t ep->H b=none:=fun{b o t ep} e d=>by
   cases q:H b with
   |none=>rfl
   |some u=>
    have M:b=a:=T b (by rw[q];simp)
    subst M
    rw[C]at e;cases e
    have d':Data.seq vs.toArray _=Data.dict t ep:=d
    cases d'
  have g:∀{b:ah} {m:Str->Option ag},c.heap.Ns b m->(jU c.heap H).Ns b m:=fun{b m} ⟨o,t,ep,e,d,r⟩=>⟨o,t,ep,base_of e (L e d),d,r⟩
  have y:K.In (jU c.heap H):=fun b o e=>base_of (O b o e) (by
   cases q:H b with
   |none=>rfl
   |some u=>
    have M:b=a:=T b (by rw[q];simp)
    subst M
    rw[Z (by rw[q];simp)]at e;cases e)
  have hM:Mod K mg (jU c.heap H):=⟨y,g j,⟨D,g f,G⟩,let⟨mc,h1,h2⟩:=l;⟨mc,g h1,h2⟩⟩
  have e0:Env0 P w K mg (jU c.heap H) callerA [] c H:=⟨rfl,hM,fun b o e=>zJO e,d4 (zJM _ _),trivial,fun b f=>absurd (show b∈([]:List ah)from f) (by simp),hok,.of_eq W⟩
  refine eJ ((F _ y (g j)).run callerA [] c H ⟨[.ref a],[]⟩ [.ref a] [.ref a] _ _ X e0 (i c (.ref a)) (.cons rfl .nil) (I H R Y)) fun r s' h=>?_
  cases r with
  |error e=>exact(J H e s' h).elim
  |ok fl=>
   cases fl with
   |next=>exact c8 h
   |brk=>exact c8 h
   |cont=>exact c8 h
   |ret u=>
    obtain⟨v,H',os,bare,un,A,r',q⟩:=h
    have q':v=.bl true:=q
    subst q'
    obtain rfl:u=Value.bool true:=r'
    refine⟨rfl,OldK.of_keep fun b o e=>?_,os,bare⟩
    cases q:H b with
    |none=>exact un.keep b o e q (by intro z;exact absurd (show b∈([]:List ah)from z) (by simp)) (by simp)
    |some u=>
     rcases R b with z|⟨ob,xs,z⟩
     ·rw[q]at z;cases z
     ·have z2:=un.frzs b ob _ z
      obtain⟨U,_⟩:=hok b _ z
      obtain⟨e2,_⟩:=A b _ z2
      rw[e]at U;cases U
      exact e2
 cases N:K.lookup a with
 |some o=>
  have e:=O a o N
  rw[C]at e
  cases e
  refine core (fun _=>none) (fun _=>.inl rfl) (.inr ⟨_,vs.toArray,_,N,rfl,rfl,rfl,by rw[bh,p];exact hl,by simpa using Q⟩) (fun b u z=>by have B:(none:Option HO)=some u:=z;cases B) (fun b z=>absurd rfl z) fun z=>absurd rfl z
 |none=>
  refine core (fun b=>if b=a then some (.frz {cls:=.type "list",data:=.seq vs.toArray} (.lst (ns.map V.int)))else none) (fun b=>?_) (.inl (.inr ⟨{cls:=.type "list",data:=.seq vs.toArray},if_pos rfl⟩)) (fun b u z=>?_) (fun b z=>?_) fun _=>N
  ·by_cases f:b=a
   ·exact .inr ⟨_,_,if_pos f⟩
   ·exact .inl (if_neg f)
  ·by_cases f:b=a
   ·have B:=(if_pos f).symm.trans z
    cases B
    subst f
    exact⟨C,by rw[aa];exact hl,vs,_,Q,C⟩
   ·have B:=(if_neg f).symm.trans z
    cases B
  ·by_cases f:b=a
   ·exact f
   ·exact absurd (if_neg f) z
theorem zKt {l:mj}{n k:Nat}{q:aJ}{loose:List Str}{XP:(Str->Option ag)->bC->Prop}{YP:aV->bC->Prop}{d:DefRec}{K:o8->ae}{CX:aV->v7}{sp:aV->Sp}{x:Str}
  (B:l.most=some n) (p:n<=sizeLine) (r:d.params.defaults=[]) (C:Room k callerA)
  (D:∀(w:aV) (h:bC),YP w h->(K w.params).In h)
  (F:∀(w:aV) (mg:Str->Option ag) (m:ah) (h:bC),(K w.params).In h->h.Ns mainGlobals mg->mg d.name=some (.ref m)->
   ∃fd:aX,(∀(s:av) (u:ag),mZ s fd ⟨[u],[]⟩ [(x,u)])/\
    ∀base:bC,(K w.params).In base->base.Ns mainGlobals mg->FnOk l.prog w (K w.params) mg base (CX w) k m fd [x] (sp w))
  (t:∀(w:aV) (H:Hp) (a:ah) (ns:List Int),ns.length<=n->zCf H->yL (K w.params) H a (ns.map V.int)->sp w [.ref a] H (fun v _=>v=.bl true) fun _ _ _=>False)
  (y:∀(w:aV) (H:Hp) (s:av) (e:ag) (s':av),CX w [] H s (fun _ _ _=>False) e s'->False) :
  qk q loose XP YP l.row.toRowW d [] (fun f vs=>pD f vs):=by
 refine Att.attach_call B r fun w s₀ E mg Q m o pm R I a vs ns G Y U hd J z j i c L=>?_
 have A:=D w _ Y
 obtain⟨fd,M,N⟩:=F w mg m _ A G.T.g z
 exact zKs A G.T.g G.T.b G.T.builtins G.T.nolimit L j i (du c p) C N M (fun H O P=>t w H a ns c O P) fun H e s'=>y w H E e s'
abbrev z7:v7:=fun _ _ _ _ _ _=>False
abbrev E0:XK:=fun _ _ _=>False
theorem zKu {X:Cx}:gK z7 X E0:=fun _ _ _ _ _ _ _ h=>h.elim
structure Fun (K:ae) (x qual:Str) (st:cp) (f:ah) (fd:aX):Prop where
 ex:∃(oc:ag) (od:Option ah) (kV doc pm:ag) (an:Option ah) (cdv ct:ag) (osl:Array (Option ag)),
  fd=dt x qual (defArgs st) (defBody st) (defScope st) .none kV doc pm an cdv ct/\K.lookup f=some ⟨oc,od,.func fd,osl⟩/\fO K cdv qual=true
 kp:dy K (.ref f)=true
section
variable{P:aJ}{w:aV}{K:ae}{mg:Str->Option ag}{base:bC}
theorem Fun.ok {x a:Str}{st:cp}{f:ah}{fd:aX}{N ps:List Str}{k:Nat}{sp:Sp}(F:Fun K x a st f fd)(S:FnScope N ps (defScope st))(len:∀vs H Q E,sp vs H Q E->vs.length=ps.length)
  (c:∀(b:ag) (A:bM) (outer:List Env) (s:av) (H:Hp) (vs:List V) (Q:VK) (E:XK),Room k (A.deeper (envOfC a (defScope st) s.heap.objs.size f b))->sp vs H Q E->
   ∃t,vU (jE z7 P w K mg base N a (defScope st) f b A outer s H E).nox (defBody st) t/\t {nx:=fun _ H'=>Q .non H',rt:=Q} (start N vs) H):FnOk P w K mg base z7 (k+1) f fd ps sp:=by
 obtain⟨m,od,kV,g,pm,n,b,ct,i,rfl,j,d⟩:=F.ex
 refine zFQ j d S len fun A outer s H vs Q E l e=>?_
 obtain⟨t,h,q⟩:=c b A outer s H vs Q E l e
 exact⟨t,h.nox,q⟩
theorem Fun.binds {x a:Str}{st:cp}{f:ah}{fd:aX}{ps:List Str}(F:Fun K x a st f fd)
  (h:∀(kV b pm:ag) (d:Option ah) (c ct:ag) (e:List ag),e.length=ps.length->bindArgs (dt x a (defArgs st) (defBody st) (defScope st) .none kV b pm d c ct) ⟨e,[]⟩=pure (ps.zip e)):qD K fd ps []:=by
 obtain⟨j,od,kV,b,pm,d,c,ct,g,rfl,l,i⟩:=F.ex
 exact .all (h kV b pm d c ct)
theorem zCg {x a:Str}{st:cp}{f:ah}{h:ag}{od g:Option ah}{e:Array (Option ag)}{kV d pm b ct:ag}(l:K.lookup f=some ⟨h,od,.func (dt x a (defArgs st) (defBody st) (defScope st) .none kV d pm g b ct),e⟩)
  (c:fO K b a=true) (k:dy K (.ref f)=true):Fun K x a st f (dt x a (defArgs st) (defBody st) (defScope st) .none kV d pm g b ct):=⟨⟨h,od,kV,d,pm,g,b,ct,e,rfl,l,c⟩,k⟩
end
theorem uT {A:bM}{k:Nat}(a:Room k A):A.units+1<cLine:=Nat.lt_of_le_of_lt (Nat.add_le_add_left (by decide:1<=64) _) a.units
section
variable{X:Cx}
theorem pv (i:Nat){x:Str}{pos:Pos}(b:X.N[i]?=some x:=by rfl)(c:Vis X.env.scope x:=by first|exact Or.inl rfl|exact Or.inr (Or.inl rfl)|exact Or.inr (Or.inr rfl))(hd:(x==("__debug__" : Str))=false:=by decide)
  (a:(x==("__classdict__" : Str))=false:=by decide):PE X (.Name x pos) (vR i):=zJS b c hd a
end
theorem uH {A B:Prop}(h:B):if false=true then A else B:=by
 rw[if_neg aY]
 exact h
theorem vM {A B:Prop}(h:A):if true=true then A else B:=by
 rw[if_pos rfl]
 exact h
theorem zKv {c A B:Prop} [Decidable c] (a:c->A)(b:¬c->B):if c then A else B:=by
 by_cases h:c
 ·rw[if_pos h]
  exact a h
 ·rw[if_neg h]
  exact b h
theorem k9 {c A B:Prop} [Decidable c] (a:c)(h:B):if(!decide c)=true then A else B:=by
 rw[decide_eq_true a]
 exact uH h
def zA (H H':Hp):Prop:=∀b o,H b=some o->H' b=some o
theorem zA.refl (H:Hp):zA H H:=fun _ _ h=>h
theorem zA.trans {H d e:Hp}(a:zA H d)(b:zA d e):zA H e:=fun c o h=>b c o (a c o h)
theorem zA.free {H H':Hp}(e:zA H H'){l:ah}(h:H' l=Option.none):H l=Option.none:=by
 cases q:H l with
 |none=>rfl
 |some o=>
  rw[e l o q]at h
  cases h
theorem zA.seq {K:ae}{H H':Hp}{a:ah}{xs:List V}(e:zA H H')(h:yL K H a xs):yL K H' a xs:=by
 rcases h with(h|⟨o,h⟩)|h
 ·exact .inl (.inl (e _ _ h))
 ·exact .inl (.inr ⟨o,e _ _ h⟩)
 ·exact .inr h
end L2
end
section
namespace L2
open PySem
section
variable{env:Env}
theorem zCh:∀(l:List (Str×jq)) (d:List (Str×ah)),(∀x∈l,x.2=.free->∃c,env.cells.lookup x.1=some c)->(∀x c,d.lookup x=some c->env.cells.lookup x=some c)->
  ∃cl,(forIn l d (fun x r=>if(x.2==NameKind.free)=true then do let a<-cellOf env x.1;pure (ForInStep.yield ((x.1,a)::r))else pure (ForInStep.yield r)):Sem (List (Str×ah)))=pure cl/\
   (∀x c,cl.lookup x=some c->env.cells.lookup x=some c)/\∀x,((x,NameKind.free)∈l\/∃c,d.lookup x=some c)->∃c,cl.lookup x=some c
 | [],d,_,i=>⟨d,rfl,i,fun x h=>h.elim (fun z=>by cases z) id⟩
 |(n,k)::l,d,h,i=>by
  have hl:∀x∈l,x.2=.free->∃c,env.cells.lookup x.1=some c:=fun x b=>h x (ar _ b)
  rw[mq]
  by_cases j:k=.free
  ·subst j
   obtain⟨c,q⟩:=h (n,.free) (aj ..) rfl
   obtain⟨cl,e,m,o⟩:=zCh l ((n,c)::d) hl fun x p z=>by
    by_cases b:x=n
    ·subst b
     rw[iB]at z
     cases z;exact q
    ·have f:(x==n)=false:=by simpa using b
     rw[bZ,f]at z
     exact i x p z
   refine⟨cl,?_,m,fun x b=>o x ?_⟩
   ·have s:cellOf env n=pure c:=by unfold cellOf;rw[q]
    simp only[beq_self_eq_true,if_true,s,pure_bind]
    exact e
   ·rcases b with b|⟨p,b⟩
    ·rcases aL.mp b with b|b
     ·have:x=n:=(cD b).1
      subst this
      exact .inr ⟨c,iB⟩
     ·exact .inl b
    ·by_cases g:x=n
     ·subst g;exact .inr ⟨c,iB⟩
     ·have f:(x==n)=false:=by simpa using g
      exact .inr ⟨p,by rw[bZ,f];exact b⟩
  ·obtain⟨cl,e,m,o⟩:=zCh l d hl i
   have t:(k==NameKind.free)=false:=by simpa using j
   refine⟨cl,?_,m,fun x b=>o x ?_⟩
   ·simp only[t,er,if_false,pure_bind]
    exact e
   ·rcases b with b|b
    ·rcases aL.mp b with b|b
     ·exact absurd (cD b).2.symm j
     ·exact .inl b
    ·exact .inr b
theorem zFl {scope:fb}(h:∀x∈scope.names,x.2=.free->∃c,env.cells.lookup x.1=some c) :
  ∃cl,closureFor scope env=pure cl/\(∀x c,cl.lookup x=some c->env.cells.lookup x=some c)/\∀x,(x,NameKind.free)∈scope.names->∃c,cl.lookup x=some c:=by
 obtain⟨cl,e,a,b⟩:=zCh scope.names [] h (fun x c z=>by simp at z)
 refine⟨cl,?_,a,fun x d=>b x (.inl d)⟩
 unfold closureFor
 dsimp only
 refine Eq.trans (congrArg (· >>=pure) ?_) (Eq.trans (congrArg (· >>=pure) e) (by simp))
 rfl
end
section
variable{prog:aJ}{w:aV}{A:bM}{R:oy->av->Prop}{s:av}
theorem zFm {a target iter:bV}{b:List bV}{scope:fb}{pos:Pos}{it d:ag}{env:Env}(J:Nat->av->Prop)
  (e:∀n s,J n s->wpAny (model prog w) A (pyNext it) (fun r g=>match r with
   |none=>R (.ok .next) g
   |some v=>wpAny (model prog w) A (letOwnedTupleGo target it v) (fun _ j=>wpAny (model prog w) A (assign target env v) (fun _ l=>
     wpAny (model prog w) A (forIn b true fun c r=>if r=true then do let ok<-isTrue c env (eval c env);pure (ForInStep.yield ok)else pure (ForInStep.yield r)) (fun ok i=>
      if ok=true then wpAny (model prog w) A (eval a env) (fun x o=>wpAny (model prog w) A (call (.builtin "list.append") [d,x]) (fun _ p=>∃m,m<n/\J m p) (fun _ _=>False) o) (fun _ _=>False) i
      else∃m,m<n/\J m i) (fun _ _=>False) l) (fun _ _=>False) j) (fun _ _=>False) g) (fun _ _=>False) s)
  (n:Nat) (h:J n s):codeAny (model prog w) A (.compLoop (.ListComp a [⟨target,iter,b,0⟩] scope pos) 0 it d env) R s:=by
 refine codeAny_loop rfl J (fun n s z=>?_) n h
 show wpAny _ A ((compTurn (.ListComp a [⟨target,iter,b,0⟩] scope pos) 0 it d env).onRaise (fun x=>noteFrame x env>>=fun _=>theTreesLotGoes x)) _ _ s
 refine wpAny_noted ?_
 have no:∀{α:Type} {t:Sem α} {Q:α->av->Prop} {E:ag->av->Prop} {s:av},wpAny (model prog w) A t Q (fun _ _=>False) s->wpAny (model prog w) A t Q E s:=fun h=>cf h (fun _ _ q=>q) fun _ _ f=>f.elim
 rw[compTurn_list]
 refine aw (nv (aw (no (cf (e n s z) (fun r g u=>?_) fun _ _ f=>f))))
 cases r with
 |none=>exact aH u
 |some v=>
  refine aw (no (cf u (fun _ j B=>?_) fun _ _ f=>f))
  refine aw (no (cf B (fun _ l C=>?_) fun _ _ f=>f))
  refine aw (no (cf C (fun ok i y=>?_) fun _ _ f=>f))
  cases ok with
  |false=>exact aH ⟨rfl,y⟩
  |true=>
   refine aw (aw (no (cf y (fun x o D=>?_) fun _ _ f=>f)))
   exact aw (no (cf D (fun _ p F=>aH (aH ⟨rfl,F⟩)) fun _ _ f=>f))
end
end L2
end
section
namespace L2
open PySem PySem.Spec PyProof.Rows
theorem z9.track {P:aJ}{w:aV}{H:Hp}{h:bC}{a:ah}{o:HO}(x:z9 P w H h)(d:H a=none)(new:yP P w (upd H a o) h a o):z9 P w (upd H a o) h:=fun b u e=>by
 by_cases f:b=a
 ·subst f;rw[zF]at e;cases e;exact new
 ·rw[zG f]at e
  refine(x b u e).stay (fun c v _ q=>q) (fun c q=>?_) fun c xs q=>?_
  ·rw[zG (yI q d)];exact q
  ·rw[zG (yI q d)];exact q
theorem z9.but {P:aJ}{w:aV}{H:Hp}{h h':bC}{C:ah}(x:z9 P w H h)(a:H C=none)(k:∀b u,b≠C->h.get? b=some u->h'.get? b=some u):z9 P w H h':=fun b u e=>by
 refine(x b u e).stay (fun c v d q=>k c v ?_ q) (fun _ q=>q) fun _ _ q=>q
 rintro rfl
 rcases d with z|z
 ·rw[z,e]at a;cases a
 ·rw[z]at a;cases a
theorem zFn {env:Env}:∀{names:List (Str×jq)}{x:Str},names.lookup x=some .free->
  (names.map fun(n,k)=>if(k==NameKind.free&&env.scope.kind== .function&&env.kindOf n==some .cell)then(n,NameKind.cell)else(n,k)).lookup x=some .cell\/
  (names.map fun(n,k)=>if(k==NameKind.free&&env.scope.kind== .function&&env.kindOf n==some .cell)then(n,NameKind.cell)else(n,k)).lookup x=some .free
 | [],_,h=>by simp at h
 |(n,k)::r,x,h=>by
  rw[aF]
  cases a:x==n with
  |true=>
   rw[bZ,a]at h
   cases h
   dsimp only
   split
   ·left;rw[bZ,a]
   ·right;rw[bZ,a]
  |false=>
   rw[bZ,a]at h
   have ih:=zFn (env:=env) h
   dsimp only
   split
   ·rw[bZ,a];exact ih
   ·rw[bZ,a];exact ih
theorem zFo {env:Env}:∀{names:List (Str×jq)}{x:Str}{a:jq},(a=.cell\/a=.free)->
  (names.map fun(n,k)=>if(k==NameKind.free&&env.scope.kind== .function&&env.kindOf n==some .cell)then(n,NameKind.cell)else(n,k)).lookup x=some a->∃k,(x,k)∈names/\(k=.cell\/k=.free)
 | [],_,_,_,h=>by simp at h
 |(n,k)::r,x,a,c,h=>by
  rw[aF]at h
  cases b:x==n with
  |true=>
   have e:x=n:=by simpa using b
   subst e
   dsimp only at h
   split at h
   ·rename_i d
    have:k=.free:=by
     rw[bc,bc]at d
     simpa using d.1.1
    exact⟨k,aj ..,.inr this⟩
   ·rw[bZ,b]at h
    cases h
    exact⟨k,aj ..,c⟩
  |false=>
   have h':(r.map fun(n,k)=>if(k==NameKind.free&&env.scope.kind== .function&&env.kindOf n==some .cell)then(n,NameKind.cell)else(n,k)).lookup x=some a:=by
    dsimp only at h
    split at h
    ·rw[bZ,b]at h;exact h
    ·rw[bZ,b]at h;exact h
   obtain⟨k0,f,g⟩:=zFo (env:=env) c h'
   exact⟨k0,ar _ f,g⟩
def yY (X:Cx)(N:List Str)(scope:fb)(cl:List (Str×ah))(C:ah)(s:av)(H:Hp)(ex:List ah):Cx where
 prog:=X.prog
 w:=X.w
 K:=X.K
 mg:=X.mg
 base:=X.base
 A:=X.A
 N:=N
 s₀:=s
 H₀:=H
 env:=compEnvC scope cl C X.env
 outer:=X.stack
 stack:=X.stack
 ex:=ex
 fn:=fun _=>false
 calm:=X.calm
 pn:=[]
 xe:=fun _ _=>False
structure CompScope (sc:fb) (XN N:List Str) (scope:fb) (caps:List Nat):Prop where
 kind:scope.kind=.function
 nd:N.Nodup
 nocell:∀y∈scope.names,y.2≠.cell
 names:∀y∈scope.names,y.2=.local->scope.names.lookup y.1=some .local
 free:∀y∈scope.names,y.2=.free->sc.names.lookup y.1=some .cell\/sc.names.lookup y.1=some .free
 cap:∀(i:Nat),i<caps.length->∃x,N[i]?=some x/\XN[caps.getD i 0]?=some x/\scope.names.lookup x=some .free/\(sc.names.lookup x=some .cell\/sc.names.lookup x=some .free)
 len:caps.length<=N.length
def v8 (caps:List Nat)(n:Nat)(σ:St):St:=caps.map (fun j=>(σ[j]?).join)++aB (n-caps.length) none
def PF (X:Cx)(ifs:List bV)(tc:TT):Prop :=
 ∀(pins:List (ah×Obj)) (s:av) (σ:St) (H:Hp) (Q:Bool->Hp->Prop),Inv X pins σ H s->tc σ H Q->
  wpAny (model X.prog X.w) X.A (forIn ifs true fun c r=>if r=true then do let ok<-isTrue c X.env (eval c X.env);pure (ForInStep.yield ok)else pure (ForInStep.yield r)) (TP X pins σ Q) X.xe s
def gA:TT:=fun _ H Q=>Q true H
theorem uI {X:Cx}:PF X [] gA:=fun a s σ H Q I h=>by
 rw[mP]
 exact aH ⟨H,I,h⟩
theorem j8 {X:Cx}{c:bV}{b:TT}(d:PT X c b):PF X [c] b:=fun a s σ H Q I h=>by
 rw[mq]
 refine aw ?_
 rw[if_pos rfl]
 refine aw (zH (d a s σ H Q I h) fun ok e q=>aH ?_)
 show wpAny _ _ (forIn [] ok _) _ _ _
 rw[mP]
 exact aH q
def zBV (wi:TI)(g:TG)(tc:TT)(te:TE)(caps:List Nat)(n:Nat):TE:=fun σ H Q=>wi σ H fun J H1=>∃W:Nat->Nat->List V->St->Hp->Prop,(∃m,W 0 m [] (v8 caps n σ) H1)/\∀i m acc σ' H',W i m acc σ' H'->
 (J.stop i H'/\∀D,H' D=none->Q (.ref D) (upd H' D (.lst acc)))\/
 (J.go i H'/\acc.length<sizeLine/\∀x H2,J.yld i H' x H2->g x σ' H2 fun σ2 H3=>tc σ2 H3 fun b H4=>if b=true then te σ2 H4 fun y H5=>∃m',m'<m/\W (i+1) m' (acc++[y]) σ2 H5 else∃m',m'<m/\W (i+1) m' acc σ2 H4)
section
variable{X:Cx}{pins:List (ah×Obj)}{σ:St}{H:Hp}{s:av}{N:List Str}{scope:fb}{cl:List (Str×ah)}{C:ah}{fp:List ah}{caps:List Nat}
theorem zFp (I:Inv X pins σ H s)(S:CompScope X.env.scope X.N N scope caps)(g:∀x c,cl.lookup x=some c->X.env.cells.lookup x=some c)(n:∀x,(x,NameKind.free)∈scope.names->∃c,cl.lookup x=some c)
  (l:s.heap.objs.size<=C) (h:∀b∈fp,qC X pins H b) (i:∀b∈fp,b<s.heap.objs.size):(yY X N scope cl C s H fp).Ok where
 mod:=I.ok.mod
 kind:=S.kind
 glob:=I.ok.glob
 blt:=I.ok.blt
 above:=l
 inj:=fun x y c a b=>I.ok.inj x y c (g x c a) (g y c b)
 has:=fun x p=>by
  have j:∃f,(f=NameKind.cell\/f=.free)/\(relabel scope X.env).names.lookup x=some f:=by
   rcases p with z|z
   ·exact⟨_,.inl rfl,z⟩
   ·exact⟨_,.inr rfl,z⟩
  obtain⟨f,q,z⟩:=j
  obtain⟨k,m,e⟩:=zFo q z
  rcases e with e|e
  ·exact absurd e (S.nocell _ m)
  ·subst e;exact n x m
 cab:=fun x c z=>by cases z
 hd:=I.ok.hd
 frames:=I.ok.frames
 stk:=.inl rfl
 exf:=fun b d=>by
  obtain⟨_,_,_,_,r,_⟩:=h b d
  exact⟨bf (br (i b d) l),fun x c e=>r x c (g x c e)⟩
 bs:=I.bs
 bsz:=du I.ok.bsz I.sz
 noex:=fun b o e d=>by
  obtain⟨_,_,_,t,_⟩:=h b d
  rcases t with z|z
  ·exact I.ok.noex b o e z
  ·exact absurd (br (aI e) (du I.ok.bsz z)) (bP _)
 exfs:=fun b d z=>by
  obtain⟨_,f1,f2,_⟩:=h b d
  rcases aL.mp (I.stkSub b z)with e|e
  ·exact f1 e
  ·exact f2 e
 funs:=I.stack
 frf:=I.stkFree
theorem zFq {j:bC}{D:ah}{od:Obj}{t:Nat}{m:Str->Option ag}(I:Inv X pins σ H s)(ok:(yY X N scope cl C s H fp).Ok)(S:CompScope X.env.scope X.N N scope caps)
  (g:∀x c,cl.lookup x=some c->X.env.cells.lookup x=some c) (n:∀x,(x,NameKind.free)∈scope.names->∃c,cl.lookup x=some c)
  (keep:∀b o,s.heap.get? b=some o->j.get? b=some o) (P:j.Ns C m) (Q:s.heap.objs.size<=C) (R:j.get? D=some od) (w:s.heap.objs.size<=D) (B:D≠C) (E:∀v,od.data≠.cell v) :
  Inv (yY X N scope cl C s H fp) [(D,od)] (v8 caps N.length σ) H {s with heap:=j,toks:=t}:=by
 have a:∀x c,cl.lookup x=some c->∀v,s.heap.IsCell c v->j.IsCell c v:=fun x c e v ⟨o,F,hd⟩=>⟨o,keep c o F,hd⟩
 refine⟨ok,rfl,I.bare,Un.kept keep,⟨m,P,fun i x v T f e3=>?_⟩,fun x c e=>?_,I.hok.fresh Q,fun x c e=>I.freeC x c (g x c e),fun p U=>?_,I.hok.kept keep,?_⟩
 ·have hi:i<caps.length:=by
   by_cases hi:i<caps.length
   ·exact hi
   ·exfalso
    unfold v8 at f
    rw[bw (by simpa using hi),dS]at f
    split at f<;>cases f
  obtain⟨y,W,Y,L,M⟩:=S.cap i hi
  have G:x=y:=by
   have A:N[i]?=some x:=T
   rw[W]at A;exact(ay A).symm
  subst G
  have Z:σ[caps.getD i 0]?=some (some v):=by
   unfold v8 at f
   rw[bI (by simpa using hi),aq]at f
   have:caps[i]?=some (caps.getD i 0):=by rw[bN];simp[hi]
   rw[this]at f
   have d:(σ[caps.getD i 0]?).join=some v:=by simpa using f
   cases q:σ[caps.getD i 0]? with
   |none=>rw[q]at d;cases d
   |some z=>rw[q]at d;have:z=some v:=d;rw[this]
  obtain⟨m',_,hl⟩:=I.loc
  obtain⟨u,r,l⟩:=hl _ x v Y Z (M.elim (fun z=>.inr (.inl z)) fun z=>.inr (.inr z))
  refine⟨u,r,?_⟩
  have nl:X.env.kindOf x≠some .local:=by
   rcases M with z|z
   ·show X.env.scope.names.lookup x≠_;rw[z];decide
   ·show X.env.scope.names.lookup x≠_;rw[z];decide
  rcases l with⟨k,_⟩|⟨_,c,hc,z⟩
  ·exact absurd k nl
  ·obtain⟨O,h⟩:=n x (cc L)
   have:c=O:=ay (hc.symm.trans (g x O h))
   subst this
   refine .inr ⟨?_,c,h,a x c h _ z⟩
   exact zFn (env:=X.env) L
 ·obtain⟨v,z⟩:=I.cell x c (g x c e)
  exact⟨v,a x c e v z⟩
 ·have:p=(D,od):=by
   have J:p∈[(D,od)]:=U
   simpa using J
  subst this
  refine⟨R,I.hok.fresh w,B,fun z=>?_,E⟩
  have z':D∈yS X.stack:=z
  obtain⟨_,o,F,_⟩:=I.stack.mem z'
  exact absurd (br (aI F) w) (bP _)
 ·unfold v8
  show _=N.length
  rw[aE,aa,cZ]
  have:=S.len
  omega
end
section
variable{X:Cx}
theorem vE {tg iter elt:bV}{ifs:List bV}{scope:fb}{pos:Pos}{wi:TI}{g:TG}{tc:TT}{te:TE}{N:List Str}{caps:List Nat}(hc:X.calm=true)(S:CompScope X.env.scope X.N N scope caps)
  (hi:PI X tg iter wi) (hg:∀cl C s H ex,PG (yY X N scope cl C s H ex) tg g) (hf:∀cl C s H ex,PF (yY X N scope cl C s H ex) ifs tc) (he:∀cl C s H ex,PE (yY X N scope cl C s H ex) elt te)
  (hs:∀x,foldedSetIterable iter X.env x=pure x:=by intro _;rfl):PE X (.ListComp elt [⟨tg,iter,ifs,0⟩] scope pos) (zBV wi g tc te caps N.length):=by
 intro pins s σ H Q I h
 obtain⟨cl,hcl,hcl1,hcl2⟩:=zFl (env:=X.env) (scope:=scope) fun y hy e=>I.ok.has y.1 (S.free y hy e)
 rw[eval_ListComp]
 refine lh (use:=none) rfl hs hcl S.kind S.names (zH (hi pins s σ H _ I h) fun v s1 h1=>zH h1 fun itv s2 h2=>?_)
 obtain⟨it,fp,tn,J,H2,e,I2,T,st2,f2,W,⟨m0,w0⟩,turn⟩:=h2
 subst e
 refine dR (mQ S.nocell (by intro y hy;simp at hy) (fun h₁ hns hsb=>?_) S.kind)
 dsimp only at hns hsb⊢
 generalize hG:s2.heap.push {cls:=.type "list",dict:=none,data:=.seq ([]:List ag).toArray}=G at hns hsb⊢
 have hCs:G.objs.size=s2.heap.objs.size+1:=by rw[<-hG,eu]
 have hDC:s2.heap.objs.size≠G.objs.size:=by rw[hCs];exact bf (fh _)
 have old:∀b o,s2.heap.get? b=some o->h₁.get? b=some o:=fun b o e=>by
  have hb:=aI e
  refine hsb.extBut b o (by rw[hCs];exact bf (cX hb)) (ai _ ?_)
  rw[<-hG]
  exact ai _ e
 have hD:h₁.get? s2.heap.objs.size=some {cls:=.type "list",dict:=none,data:=.seq ([]:List ag).toArray}:=by
  refine hsb.extBut _ _ hDC (ai _ ?_)
  rw[<-hG]
  exact aM _ rfl
 have hfo:∀b∈fp,b<s2.heap.objs.size:=fun b hb=>let⟨o,e,_⟩:=T.obj 0 _ st2 b hb;aI e
 have hCle:s2.heap.objs.size<=G.objs.size:=by omega
 have ok:=zFp (C:=G.objs.size) I2 S hcl1 hcl2 hCle f2 hfo
 have I0:Inv (yY X N scope cl G.objs.size s2 H2 fp) [(s2.heap.objs.size,{cls:=.type "list",dict:=none,data:=.seq ([]:List ag).toArray})] (v8 caps N.length σ) H2 {s2 with heap:=h₁,toks:=s2.toks+([]:List (Str×ag)).length} :=
  zFq I2 ok S hcl1 hcl2 old hns hCle hD (aD _) hDC (fun v z=>by cases z)
 have st1:tn 0 h₁:=T.keep 0 _ _ st2 fun b _ o e=>old b o e
 generalize hX:yY X N scope cl G.objs.size s2 H2 fp=X' at I0
 generalize hDa:s2.heap.objs.size=D at I0 hD hDC
 have loop:codeAny (model X.prog X.w) X.A (.compLoop (.ListComp elt [⟨tg,iter,ifs,0⟩] scope pos) 0 (.ref it) (.ref D) (compEnvC scope cl G.objs.size X.env)) (compPost (model X.prog X.w) X.A X.xe none (EP X pins σ Q) (.ref D) G.objs.size)
   {s2 with heap:=h₁,toks:=s2.toks+([]:List (Str×ag)).length}:=by
  subst hX
  refine zFm (J:=fun n s'=>∃i σ' H' acc its e,Inv (yY X N scope cl G.objs.size s2 H2 fp) [(D,{cls:=.type "list",data:=.seq (fT its) e})] σ' H' s'/\zM acc its/\acc.length<=sizeLine/\tn i s'.heap/\(∀b∈fp,H' b=none)/\W i n acc σ' H')
   ?_ m0 ⟨0,_,H2,[],[],0,I0,.nil,bQ _,st1,fun b hb=>(f2 b hb).1,w0⟩
  rintro n s3 ⟨i,σ3,H3,acc,its,ep,I3,rv,hz,st3,fr3,w3⟩
  have stat:∀{H':Hp} {pl:List (ah×Obj)},(∀b∈fp,H' b=none)->(∀p∈pl,p.1=D)->∀b∈fp,qC (yY X N scope cl G.objs.size s2 H2 fp) pl H' b:=fun{H' pl} hn hpl b hb=>by
   obtain⟨a1,a2⟩:=ok.exf b hb
   exact⟨hn b hb,a1,ok.exfs b hb,.inl hb,fun x c e=>a2 x c e,fun p hp=>by
    have hp':p∈pl:=hp
    rw[hpl p hp',<-hDa]
    exact eI (hfo b hb)⟩
  have one:∀p∈[(D,({cls:=.type "list",data:=.seq (fT its) ep}:Obj))],p.1=D:=fun p hp=>by
   rcases aL.mp hp with e|e
   ·rw[e]
   ·cases e
  have pinD:∀{pl:List (ah×Obj)} {σ':St} {H':Hp} {s':av} {o:Obj},Inv (yY X N scope cl G.objs.size s2 H2 fp) pl σ' H' s'->(D,o)∈pl->s'.heap.get? D=some o/\H' D=none:=fun{pl σ' H' s' o} I' hm=>by
   obtain⟨a,b,_⟩:=I'.pin (D,o) (aS _ hm)
   exact⟨a,b⟩
  rcases turn i n acc σ3 H3 w3 with⟨stop,q⟩|⟨go,hlt,step⟩
  ·refine cf (T.done (yY X N scope cl G.objs.size s2 H2 fp) rfl rfl rfl hc i _ s3 σ3 H3 (fun _ _=>False) I3 (stat fr3 one) st3 stop) (fun r s4 ⟨hr,I4⟩=>?_) fun _ _ f=>f
   subst hr
   obtain⟨hDo,hDn⟩:=pinD I4 (aj ..)
   obtain⟨m4,hm4,_⟩:=I4.loc
   refine⟨m4,hm4,fun h' hsb'=>?_⟩
   have keepC:∀b u,b≠G.objs.size->s4.heap.get? b=some u->h'.get? b=some u:=fun b u hb e=>hsb'.extBut b u hb e
   have un:Un (yS X.stack) fp H2 H3 s2.heap s4.heap:=I4.base
   have hDo':h'.get? D=some {cls:=.type "list",data:=.seq (fT its) ep}:=keepC D _ hDC hDo
   have hlow:∀b (o:Obj),s2.heap.get? b=some o->b≠G.objs.size/\b≠D:=fun b o e=>by
    have h0:=aI e
    exact⟨by rw[hCs];exact bf (cX h0),by rw[<-hDa];exact bf h0⟩
   have un':Un (yS X.stack) fp H2 (upd H3 D (.lst acc)) s2.heap h' :=
    ⟨fun b o e n' hb hx=>keepC b o (hlow b o e).1 (un.keep b o e n' hb hx),
     fun b o e n' hb hx=>let⟨sl,q⟩:=un.slot b o e n' hb hx;⟨sl,keepC b _ (hlow b o e).1 q⟩,
     fun b o e n' hx=>by rw[zG (hlow b o e).2];exact un.free b o e n' hx,
     fun b o e hx=>let⟨o',q⟩:=un.there b o e hx;⟨o',keepC b _ (hlow b o e).1 q⟩,
     fun b xs e=>by rw[zG (yI (un.tups b xs e) hDn)];exact un.tups b xs e,
     fun b o u e=>by rw[zG (yI (un.frzs b o u e) hDn)];exact un.frzs b o u e,
     fun b ps e=>let⟨mo,q⟩:=un.tbls b ps e;⟨mo,by rw[zG (yI q hDn)];exact q⟩⟩
   have hok:z9 X.prog X.w (upd H3 D (.lst acc)) h':=(I4.hok.but I4.free keepC).track hDn ⟨hz,its,ep,rv,hDo'⟩
   refine⟨.ref D,upd H3 D (.lst acc),I2.call' (s':={s4 with heap:=h'}) I4.os un' hok I4.bare (fun b hb=>?_),rfl,q D hDn⟩
   obtain⟨_,f1,_,f3,f4,f5⟩:=f2 b hb
   exact⟨f3,f1,f4,f5⟩
  ·refine cf (T.item (yY X N scope cl G.objs.size s2 H2 fp) rfl rfl rfl hc i _ s3 σ3 H3 (fun _ _=>False) I3 (stat fr3 one) st3 go) (fun r s4 ⟨u,hr,h4⟩=>?_) fun _ _ f=>f
   subst hr
   refine zH h4 fun _ s5 ⟨x,H5,I5,r5,y5,st5,fr5⟩=>?_
   have I5':=I5.pinned (stat fr5 one) (T.obj _ _ st5)
   refine zH (hg cl G.objs.size s2 H2 fp _ s5 σ3 H5 x u _ I5' r5 (step x H5 y5)) fun _ s6 ⟨σ6,H6,I6,q6⟩=>?_
   refine zH (hf cl G.objs.size s2 H2 fp _ s6 σ6 H6 _ I6 q6) fun b s7 ⟨H7,I7,q7⟩=>?_
   have fin:∀{pl:List (ah×Obj)} {σ':St} {H':Hp} {s':av},Inv (yY X N scope cl G.objs.size s2 H2 fp) (pl++zAA fp s5.heap) σ' H' s'->tn (i+1) s'.heap/\∀b∈fp,H' b=none:=fun{pl σ' H' s'} I'=>by
    refine⟨T.keep _ _ _ st5 fun b hb o e=>(I'.pin (b,o) (aS _ (aS _ (gH hb e)))).1,fun b hb=>?_⟩
    obtain⟨o,e,_⟩:=T.obj _ _ st5 b hb
    exact(I'.pin (b,o) (aS _ (aS _ (gH hb e)))).2.1
   cases b with
   |false=>
    rw[if_neg aY]at q7⊢
    obtain⟨m',hm,w7⟩:=q7
    obtain⟨a1,a2⟩:=fin I7
    exact⟨m',hm,i+1,σ6,H7,acc,its,ep,I7.unpinned,rv,hz,a1,a2,w7⟩
   |true=>
    rw[if_pos rfl]at q7⊢
    refine zH (he cl G.objs.size s2 H2 fp _ s7 σ6 H7 _ I7 q7) fun y s8 ⟨yv,H8,I8,r8,m',hm,w8⟩=>?_
    obtain⟨a1,a2⟩:=fin I8
    obtain⟨b1,b2⟩:=pinD I8 (bJ _ (aj ..))
    have hl:=rv.length
    refine fP jt ⟨_,b1,rfl⟩ i8 (iN _ _) (kj D its.toArray ep y (by rw[bh];omega)) ⟨b1,?_⟩
    have q9:=lC b1 (·.push y)
    have kp:∀b o,b≠D->s8.heap.get? b=some o->(s8.heap.update D (cT (·.push y))).get? b=some o:=fun b o hb e=>(cb s8.heap (cT (·.push y)) (fm hb)).trans e
    have I9:Inv (yY X N scope cl G.objs.size s2 H2 fp) [] σ6 H8 {s8 with heap:=s8.heap.update D (cT (·.push y))} :=
     (I8.pins_of (pins':=[]) fun p hp=>by cases hp).turned (t':=s8.toks) kp b2 hDC (.inr (by rw[<-hDa];exact aD _)) (fun x c e z=>by
      have e':X.env.cells.lookup x=some c:=hcl1 x c e
      obtain⟨v',hv'⟩:=I2.cell x c e'
      have h0:=hv'.lt
      rw[z,<-hDa]at h0
      exact bP _ h0) fun p hp=>by
       have:p∈([]:List (ah×Obj)):=hp
       cases this
    have hpu:its.toArray.push y=(its++[y]).toArray:=by simp
    rw[hpu]at q9
    obtain⟨e9,q9⟩:∃e9,(s8.heap.update D (cT (·.push y))).get? D=some {cls:=.type "list",data:=.seq (its++[y]).toArray e9}:=⟨_,q9⟩
    refine⟨m',hm,i+1,σ6,H8,acc++[yv],its++[y],e9,I9.pins_of fun p hp=>?_,rv.append (.cons r8 .nil),?_,T.keep _ _ _ a1 fun b hb o e=>kp b o ?_ e,a2,w8⟩
    ·obtain rfl:p=(D,{cls:=.type "list",data:=.seq (its++[y]).toArray e9}):=by
      rcases aL.mp hp with e|e
      ·exact e
      ·cases e
     obtain⟨_,_,c3,c4,_⟩:=I8.pin (D,_) (aS _ (bJ _ (aj ..)))
     exact⟨q9,b2,c3,c4,fun v z=>by cases z⟩
    ·rw[aE,cG];omega
    ·rintro rfl
     have h0:=hfo b hb
     rw[hDa]at h0
     exact bP _ h0
 exact lW loop (T.self X.A 0 _ _ _ st1 loop)
end
theorem zA.seqT {K:ae}{H H':Hp}{a:ah}{xs:List V}(e:zA H H')(h:yN K H a xs):yN K H' a xs:=by
 rcases h with(h|⟨o,h⟩)|h
 ·exact .inl (.inl (e _ _ h))
 ·exact .inl (.inr ⟨o,e _ _ h⟩)
 ·exact .inr h
mutual
def yQ (K:ae)(H:Hp):bW->V->Prop
 | .none,v=>v=.non
 | .bool b,v=>v=.bl b
 | .int i,v=>v=.int i
 | .str x,v=>v=.str x
 | .list ds,v=>∃a xs,v=.ref a/\yL K H a xs/\Reps K H ds xs
 | .tuple ds,v=>∃a xs,v=.ref a/\yN K H a xs/\Reps K H ds xs
 | .dict _,_=>False
def Reps (K:ae)(H:Hp):List bW->List V->Prop
 | [],xs=>xs=[]
 |d::ds,xs=>∃y ys,xs=y::ys/\yQ K H d y/\Reps K H ds ys
end
mutual
theorem yQ.same {K:ae}{H H':Hp}(e:zA H H'):∀(d:bW) (v:V),yQ K H d v->yQ K H' d v
 | .none,v,h=>h
 | .bool b,v,h=>h
 | .int i,v,h=>h
 | .str x,v,h=>h
 | .list ds,v,h=>by
  obtain⟨a,xs,c,f,g⟩:=h
  exact⟨a,xs,c,e.seq f,Reps.same e ds xs g⟩
 | .tuple ds,v,h=>by
  obtain⟨a,xs,c,f,g⟩:=h
  exact⟨a,xs,c,e.seqT f,Reps.same e ds xs g⟩
 | .dict _,v,h=>h
theorem Reps.same {K:ae}{H H':Hp}(e:zA H H'):∀(ds:List bW) (xs:List V),Reps K H ds xs->Reps K H' ds xs
 | [],xs,h=>h
 |d::ds,xs,h=>by
  obtain⟨y,ys,a,b,c⟩:=h
  exact⟨y,ys,a,yQ.same e d y b,Reps.same e ds ys c⟩
end
theorem Reps.length {K:ae}{H:Hp}:∀{ds:List bW}{xs:List V},Reps K H ds xs->ds.length=xs.length
 | [],xs,h=>by rw[show xs=[]from h];rfl
 |d::ds,xs,h=>by
  obtain⟨y,ys,a,_,b⟩:=h
  rw[a,bg,bg,Reps.length b]
theorem Reps.get {K:ae}{H:Hp}:∀{ds:List bW}{xs:List V}{i:Nat}{y:V},Reps K H ds xs->xs[i]?=some y->∃d,ds[i]?=some d/\yQ K H d y
 | [],xs,i,y,h,e=>by rw[show xs=[]from h]at e;simp at e
 |d::ds,xs,i,y,h,e=>by
  obtain⟨z,j,a,b,c⟩:=h
  subst a
  cases i with
  |zero=>
   have:z=y:=by simpa using e
   subst this
   exact⟨d,rfl,b⟩
  |succ i=>
   obtain⟨d',f,g⟩:=Reps.get (i:=i) c (by simpa using e)
   exact⟨d',by simpa using f,g⟩
theorem Reps.append {K:ae}{H:Hp}:∀{ds a:List bW}{xs ys:List V},Reps K H ds xs->Reps K H a ys->Reps K H (ds++a) (xs++ys)
 | [],a,xs,ys,h,h'=>by rw[show xs=[]from h];exact h'
 |d::ds,a,xs,ys,h,h'=>by
  obtain⟨z,b,c,e,f⟩:=h
  subst c
  exact⟨z,b++ys,rfl,e,Reps.append f h'⟩
theorem Reps.one {K:ae}{H:Hp}{d:bW}{v:V}(h:yQ K H d v):Reps K H [d] [v]:=⟨v,[],rfl,h,rfl⟩
theorem Reps.drop {K:ae}{H:Hp}:∀{ds:List bW}{xs:List V} (k:Nat),Reps K H ds xs->Reps K H (ds.drop k) (xs.drop k)
 | [],xs,k,h=>by rw[show xs=[]from h];simp[Reps]
 |d::ds,xs,0,h=>h
 |d::ds,xs,k+1,h=>by
  obtain⟨z,c,a,_,b⟩:=h
  subst a
  exact Reps.drop k b
theorem Reps.take {K:ae}{H:Hp}:∀{ds:List bW}{xs:List V} (k:Nat),Reps K H ds xs->Reps K H (ds.take k) (xs.take k)
 | [],xs,k,h=>by rw[show xs=[]from h];simp[Reps]
 |d::ds,xs,0,h=>by simp[Reps]
 |d::ds,xs,k+1,h=>by
  obtain⟨z,a,b,c,e⟩:=h
  subst b
  exact⟨z,a.take k,rfl,c,Reps.take k e⟩
theorem Reps.strs {K:ae}{H:Hp}:∀{ss:List Str}{xs:List V},Reps K H (ss.map PyData.str) xs↔xs=ss.map V.str
 | [],xs=>Iff.rfl
 |s::ss,xs=>by
  constructor
  ·rintro⟨y,ys,b,c,d⟩
   have a:y=.str s:=c
   rw[b,a,Reps.strs.mp d];rfl
  ·intro e
   exact⟨.str s,ss.map V.str,e,rfl,Reps.strs.mpr rfl⟩
section
variable{X:Cx}{pins:List (ah×Obj)}{σ:St}{H:Hp}{s:av}
mutual
theorem yQ.reads (I:Inv X pins σ H s):∀(d:bW) (v:V) (u:ag),yQ X.K H d v->zQ v u->∃as,Reads s.heap u d as
 | .none,v,u,h,r=>by
  have h':v=.non:=h
  subst h'
  cases r
  exact⟨_,.none⟩
 | .bool b,v,u,h,r=>by
  have h':v=.bl b:=h
  subst h'
  cases r
  exact⟨_,.bool b⟩
 | .int i,v,u,h,r=>by
  have h':v=.int i:=h
  subst h'
  obtain⟨t,rfl⟩:=r
  exact⟨_,.int i t⟩
 | .str x,v,u,h,r=>by
  have h':v=.str x:=h
  subst h'
  obtain⟨t,rfl⟩:=r
  exact⟨_,.str x t⟩
 | .list ds,v,u,h,r=>by
  obtain⟨a,xs,c,f,g⟩:=h
  subst c
  cases r
  obtain⟨its,j,⟨o,n,e,l,_,hd⟩,_⟩:=I.list f
  obtain⟨as,ra⟩:=Reps.reads I ds xs its g j
  exact⟨_,.list e l hd (by simpa using ra)⟩
 | .tuple ds,v,u,h,r=>by
  obtain⟨a,xs,c,f,g⟩:=h
  subst c
  cases r
  obtain⟨its,j,⟨o,e,l,n,hd⟩,_⟩:=I.tuple f
  obtain⟨as,ra⟩:=Reps.reads I ds xs its g j
  exact⟨_,.tuple e l hd (by simpa using ra)⟩
 | .dict _,v,u,h,r=>h.elim
theorem Reps.reads (I:Inv X pins σ H s):∀(ds:List bW) (xs:List V) (a:List ag),Reps X.K H ds xs->zM xs a->∃as,ReadsAll s.heap a ds as
 | [],xs,a,h,r=>by
  have h':xs=[]:=h
  subst h'
  cases r
  exact⟨_,.nil⟩
 |d::ds,xs,a,h,r=>by
  obtain⟨y,ys,b,c,e⟩:=h
  subst b
  cases r with
  |cons f g=>
   obtain⟨as,ra⟩:=yQ.reads I d y _ c f
   obtain⟨bs,i⟩:=Reps.reads I ds ys _ e g
   exact⟨_,.cons ra i⟩
end
def zCi (K:ae)(neg:Bool):R2:=fun x y H Q=>∃d e,yQ K H d x/\yQ K H e y/\fV d=true/\fV e=true/\Q (.bl (if neg=true then !PyData.eqv d e else eY d e)) H
theorem zFr (a:X.A.units+64<cLine):yK X (compareOp .Eq) (zCi X.K false):=by
 intro pins s σ H x y v u Q I b c h
 obtain⟨d,e,f,g,i,j,q⟩:=h
 obtain⟨as,ra⟩:=yQ.reads I d x v f b
 obtain⟨bs,l⟩:=yQ.reads I e y u g c
 exact eq_dataH ra l i j a ⟨.bl _,H,I,rfl,q⟩
theorem zAJ (a:X.A.units+64<cLine):yK X (compareOp .NotEq) (zCi X.K true):=by
 intro pins s σ H x y v u Q I b c h
 obtain⟨d,e,f,g,i,j,q⟩:=h
 obtain⟨as,ra⟩:=yQ.reads I d x v f b
 obtain⟨bs,l⟩:=yQ.reads I e y u g c
 exact ne_dataH ra l i j a ⟨.bl _,H,I,rfl,q⟩
end
mutual
theorem zCj:∀d:bW,d.canLay0=true->eY d d=true
 | .none,_=>rfl
 | .bool b,_=>by simp[eY]
 | .int i,_=>by simp[eY]
 | .str x,_=>by simp[eY]
 | .list ds,h=>by
  have h':cY ds=true:=by simpa [fQ]using h
  simp only[eY];exact eqvAll_refl ds h'
 | .tuple ds,h=>by
  have h':cY ds=true:=by simpa [fQ]using h
  simp only[eY];exact eqvAll_refl ds h'
 | .dict _,h=>by simp[fQ]at h
theorem eqvAll_refl:∀ds:List bW,cY ds=true->ql ds ds=true
 | [],_=>rfl
 |d::ds,h=>by
  have h':d.canLay0=true/\cY ds=true:=by simpa [cY]using h
  simp only[ql,zCj d h'.1,eqvAll_refl ds h'.2,gf]
end
end L2
end
section
open PySem PySem.W PyProof.Rows
namespace MyS
def ev {α:Type}(lt:Nat->Nat->Bool):KasT α->α
 | .ret a=>a
 | .ask i j k=>ev lt (k (lt i j))
theorem zAK {α β:Type}(lt:Nat->Nat->Bool)(f:α->KasT β):∀t:KasT α,ev lt (t.bind f)=ev lt (f (ev lt t))
 | .ret _=>rfl
 | .ask i j k=>zAK lt f (k (lt i j))
def vY {α:Type}(lt:Nat->Nat->Bool)(N:Nat):KasT α->Prop
 | .ret _=>True
 | .ask i j k=>i<N/\j<N/\i≠j/\vY lt N (k (lt i j))
theorem zAL {α β:Type}{lt:Nat->Nat->Bool}{N:Nat}{f:α->KasT β}:∀(t:KasT α),vY lt N t->vY lt N (f (ev lt t))->vY lt N (t.bind f)
 | .ret _,_,h=>h
 | .ask i j k,h,h'=>⟨h.1,h.2.1,h.2.2.1,zAL (k (lt i j)) h.2.2.2 h'⟩
structure TotalOn (lt:Nat->Nat->Bool) (n:Nat):Prop where
 irr:∀i,i<n->lt i i=false
 tr:∀i j k,i<n->j<n->k<n->lt i j=true->lt j k=true->lt i k=true
 tot:∀i j,i<n->j<n->i≠j->lt i j=true\/lt j i=true
abbrev gg (p:Array Nat)(i:Nat):Nat:=p.getD i 0
def Pm (p:Array Nat)(n:Nat):Prop:=p.toList.Perm (ba n)
theorem Pm.size {p:Array Nat}{n:Nat}(h:Pm p n):p.size=n:=by
 have:=sA h
 simpa using this
theorem zAo {p:Array Nat}{i:Nat}(h:i<p.size):gg p i=p[i]:=by simp[gg,Array.getD,h]
theorem Pm.lt {p:Array Nat}{n i:Nat}(h:Pm p n)(hi:i<n):gg p i<n:=by
 have a:i<p.size:=by rw[h.size];exact hi
 have hm:p[i]∈ba n:=(sQ h).mp (by simp)
 rw[zAo a]
 exact bX.mp hm
theorem Pm.ne {p:Array Nat}{n i j:Nat}(h:Pm p n)(hi:i<n)(d:j<n)(c:i≠j):gg p i≠gg p j:=by
 have a:i<p.size:=by rw[h.size];exact hi
 have b:j<p.size:=by rw[h.size];exact d
 have nd:p.toList.Nodup:=(sC h).mpr List.nodup_range
 rw[zAo a,zAo b]
 intro e
 apply c
 have f:p.toList[i]'(by simpa using a)=p.toList[j]'(by simpa using b):=by simpa using e
 exact(fR nd).mp f
theorem Pm.perm {p q:Array Nat}{n:Nat}(h:Pm p n)(e:q.Perm p):Pm q n:=(Array.perm_iff_toList_perm.mp e).trans h
def Up (lt:Nat->Nat->Bool)(p:Array Nat)(k:Nat):Prop:=∀i j,i<j->j<k->lt (gg p i) (gg p j)=true
def Dn (lt:Nat->Nat->Bool)(p:Array Nat)(k:Nat):Prop:=∀i j,i<j->j<k->lt (gg p j) (gg p i)=true
section
variable{lt:Nat->Nat->Bool}{N:Nat}{p:Array Nat}
theorem TotalOn.flip (O:TotalOn lt N){i j:Nat}(hi:i<N)(b:j<N)(a:i≠j)(h:lt i j=false):lt j i=true:=by
 rcases O.tot i j hi b a with h'|h'
 ·rw[h]at h';cases h'
 ·exact h'
theorem Up.more (O:TotalOn lt N)(P:Pm p N){n:Nat}(d:1<=n)(b:n<N)(u:Up lt p n)(h:lt (gg p (n-1)) (gg p n)=true):Up lt p (n+1):=by
 intro i j a f
 by_cases e:j=n
 ·subst e
  by_cases c:i=j-1
  ·subst c;exact h
  ·exact O.tr _ _ _ (P.lt (by omega)) (P.lt (by omega)) (P.lt b) (u i (j-1) (by omega) (by omega)) h
 ·exact u i j a (by omega)
theorem Dn.more (O:TotalOn lt N)(P:Pm p N){n:Nat}(d:1<=n)(b:n<N)(u:Dn lt p n)(h:lt (gg p n) (gg p (n-1))=true):Dn lt p (n+1):=by
 intro i j a f
 by_cases e:j=n
 ·subst e
  by_cases c:i=j-1
  ·subst c;exact h
  ·exact O.tr _ _ _ (P.lt b) (P.lt (by omega)) (P.lt (by omega)) h (u i (j-1) (by omega) (by omega))
 ·exact u i j a (by omega)
theorem zFs:Up lt p 1:=fun i j a b=>by omega
theorem zBW (O:TotalOn lt N)(P:Pm p N):∀(f n:Nat),1<=n->n+f<=N->Up lt p n->
  n<=ev lt (ip p f n)/\ev lt (ip p f n)<=n+f/\Up lt p (ev lt (ip p f n))/\(ev lt (ip p f n)<n+f->lt (gg p (ev lt (ip p f n))) (gg p (ev lt (ip p f n)-1))=true)
 |0,n,_,_,u=>⟨aD _,aD _,u,fun h=>absurd h (bP _)⟩
 |f+1,n,a,i,u=>by
  have e:ev lt (ip p (f+1) n)=ev lt (if lt (gg p n) (gg p (n-1))=true then KasT.ret n else ip p f (n+1)):=rfl
  rw[e]
  cases c:lt (gg p n) (gg p (n-1))with
  |true=>
   rw[if_pos rfl]
   exact⟨aD _,Nat.le_add_right _ _,u,fun _=>c⟩
  |false=>
   rw[if_neg (by simp)]
   have b:=O.flip (P.lt (by omega)) (P.lt (by omega)) (P.ne (by omega) (by omega) (by omega)) c
   obtain⟨j,l,d,g⟩:=zBW O P f (n+1) (by omega) (by omega) (u.more O P a (by omega) b)
   exact⟨by omega,by omega,d,fun h=>g (by omega)⟩
theorem zCk (P:Pm p N):∀(f n:Nat),1<=n->n+f<=N->vY lt N (ip p f n)
 |0,n,_,_=>trivial
 |f+1,n,a,b=>by
  refine⟨P.lt (by omega),P.lt (by omega),P.ne (by omega) (by omega) (by omega),?_⟩
  show vY lt N (if lt (gg p n) (gg p (n-1))=true then KasT.ret n else ip p f (n+1))
  split
  ·trivial
  ·exact zCk P f (n+1) (by omega) (by omega)
theorem zFt (O:TotalOn lt N)(P:Pm p N):∀(f n:Nat),1<=n->n+f<=N->vY lt N (fi f p n 0)
 |0,n,_,_=>trivial
 |f+1,n,b,e=>by
  refine⟨P.lt (by omega),P.lt (by omega),P.ne (by omega) (by omega) (by omega),?_⟩
  show vY lt N (if lt (gg p n) (gg p (n-1))=true then(if 0>0 then fi f (lX p (n- (0+1)) n) (n+1) 0 else fi f p (n+1) 0)
   else .ask (gg p (n-1)) (gg p n) fun d=>if d=true then .ret (p,n,0)else fi f p (n+1) (0+1))
  cases c:lt (gg p n) (gg p (n-1))with
  |true=>
   rw[if_pos rfl,if_neg (by omega)]
   exact zFt O P f (n+1) (by omega) (by omega)
  |false=>
   rw[if_neg (by simp)]
   have a:=O.flip (P.lt (by omega)) (P.lt (by omega)) (P.ne (by omega) (by omega) (by omega)) c
   refine⟨P.lt (by omega),P.lt (by omega),P.ne (by omega) (by omega) (by omega),?_⟩
   show vY lt N (if lt (gg p (n-1)) (gg p n)=true then KasT.ret (p,n,0)else fi f p (n+1) (0+1))
   rw[a,if_pos rfl]
   trivial
theorem zCl (O:TotalOn lt N)(P:Pm p N):∀(f n:Nat),1<=n->n+f<=N->Dn lt p n->
  ∃m,ev lt (fi f p n 0)=(p,m,0)/\n<=m/\m<=n+f/\Dn lt p m
 |0,n,_,_,u=>⟨n,rfl,aD _,aD _,u⟩
 |f+1,n,a,j,u=>by
  have e:ev lt (fi (f+1) p n 0)=ev lt (if lt (gg p n) (gg p (n-1))=true then(if 0>0 then fi f (lX p (n- (0+1)) n) (n+1) 0 else fi f p (n+1) 0)
   else .ask (gg p (n-1)) (gg p n) fun d=>if d=true then .ret (p,n,0)else fi f p (n+1) (0+1)):=rfl
  rw[e]
  cases c:lt (gg p n) (gg p (n-1))with
  |true=>
   rw[if_pos rfl,if_neg (by omega)]
   obtain⟨m,b,l,o,g⟩:=zCl O P f (n+1) (by omega) (by omega) (u.more O P a (by omega) c)
   exact⟨m,b,by omega,by omega,g⟩
  |false=>
   rw[if_neg (by simp)]
   have h:=O.flip (P.lt (by omega)) (P.lt (by omega)) (P.ne (by omega) (by omega) (by omega)) c
   have i:ev lt (.ask (gg p (n-1)) (gg p n) fun d=>if d=true then KasT.ret (p,n,0)else fi f p (n+1) (0+1))=ev lt (if lt (gg p (n-1)) (gg p n)=true then KasT.ret (p,n,0)else fi f p (n+1) (0+1)):=rfl
   rw[i,h,if_pos rfl]
   exact⟨n,rfl,aD _,by omega,u⟩
theorem zFu {m k:Nat}(hm:m<=p.size):gg (lX p 0 m) k=if k<m then gg p (m-1-k)else gg p k:=by
 have e:=getElem?_mirror_all (i:=0) hm k
 have a:∀(q:Array Nat) (x:Nat),gg q x=(q[x]?).getD 0:=fun q x=>by simp[gg]
 rw[a,a,a]
 show((mirror p 0 m ((m-0)/2))[k]?).getD 0=_
 rw[e]
 by_cases h:k<m
 ·rw[if_pos ⟨bQ _,h⟩,if_pos h]
  simp
 ·rw[if_neg (fun z=>h z.2),if_neg h]
theorem zKw (P:Pm p N){m:Nat}(hm:m<=N)(d:Dn lt p m):Up lt (lX p 0 m) m:=by
 intro i j b c
 have a:m<=p.size:=by rw[P.size];exact hm
 rw[zFu a,zFu a,if_pos (by omega),if_pos c]
 exact d _ _ (by omega) (by omega)
theorem zCm (P:Pm p N)(i j:Nat):Pm (lX p i j) N:=P.perm (mirror_perm p i j _)
theorem zFv (O:TotalOn lt N)(P:Pm p N)(x:2<=N):∃m q,ev lt (oz N p)=(m,q)/\1<=m/\m<=N/\Pm q N/\Up lt q m:=by
 obtain⟨b,l,a,g⟩:=zBW O P (N-1) 1 (aD _) (by omega) zFs
 unfold oz
 rw[zAK]
 generalize y:ev lt (ip p (N-1) 1)=n at b l a g
 by_cases d:(n==N)=true
 ·rw[if_pos d]
  exact⟨n,p,rfl,b,by omega,P,a⟩
 ·rw[if_neg d]
  have o:n≠N:=by simpa using d
  by_cases h:n>1
  ·rw[if_pos h]
   have c:lt (gg p 0) (gg p (n-1))=true:=a 0 (n-1) (by omega) (by omega)
   have r:ev lt (KasT.ask (p.getD 0 0) (p.getD (n-1) 0) fun c=>if c=true then KasT.ret (n,p)else jd n N (lX p 0 n))=ev lt (if lt (gg p 0) (gg p (n-1))=true then KasT.ret (n,p)else jd n N (lX p 0 n)):=rfl
   rw[r,c,if_pos rfl]
   exact⟨n,p,rfl,b,by omega,P,a⟩
  ·rw[if_neg h]
   have e:n=1:=by omega
   subst e
   have c:=g (by omega)
   have s:Dn lt p 2:=fun i j t z=>by
    have:i=0:=by omega
    have:j=1:=by omega
    subst i;subst j;exact c
   obtain⟨m,u,A,B,v⟩:=zCl O P (N-2) 2 (by omega) (by omega) s
   unfold jd
   rw[zAK]
   have f:ev lt (fi (N- (1+1)) p (1+1) 0)=(p,m,0):=u
   rw[f]
   dsimp only
   rw[if_neg (by omega)]
   unfold kas_tail3
   rw[zAK]
   obtain⟨C,D,w,_⟩:=zBW O (zCm P 0 m) (N-m) m (by omega) (by omega) (zKw P (by omega) v)
   exact⟨_,_,rfl,by omega,by omega,zCm P 0 m,w⟩
theorem zKx (O:TotalOn lt N)(P:Pm p N)(t:2<=N):vY lt N (oz N p):=by
 obtain⟨h,l,d,f⟩:=zBW O P (N-1) 1 (aD _) (by omega) zFs
 unfold oz
 refine zAL _ (zCk P _ _ (aD _) (by omega)) ?_
 generalize u:ev lt (ip p (N-1) 1)=n at h l d f
 by_cases a:(n==N)=true
 ·rw[if_pos a];trivial
 ·rw[if_neg a]
  have o:n≠N:=by simpa using a
  by_cases g:n>1
  ·rw[if_pos g]
   have c:lt (gg p 0) (gg p (n-1))=true:=d 0 (n-1) (by omega) (by omega)
   refine⟨P.lt (by omega),P.lt (by omega),P.ne (by omega) (by omega) (by omega),?_⟩
   show vY lt N (if lt (gg p 0) (gg p (n-1))=true then KasT.ret (n,p)else jd n N (lX p 0 n))
   rw[c,if_pos rfl]
   trivial
  ·rw[if_neg g]
   have e:n=1:=by omega
   subst e
   have c:=f (by omega)
   have q:Dn lt p 2:=fun i j r v=>by
    have:i=0:=by omega
    have:j=1:=by omega
    subst i;subst j;exact c
   obtain⟨m,s,w,x,y⟩:=zCl O P (N-2) 2 (by omega) (by omega) q
   unfold jd
   refine zAL _ (zFt O P _ _ (by omega) (by omega)) ?_
   have b:ev lt (fi (N- (1+1)) p (1+1) 0)=(p,m,0):=s
   rw[b]
   dsimp only
   rw[if_neg (by omega)]
   unfold kas_tail3
   exact zAL _ (zCk (zCm P 0 m) _ _ (by omega) (by omega)) trivial
theorem zCn (P:Pm p N){k:Nat}(b:k<N):∀(f l r:Nat),r<=k->vY lt N (de p k f l r)
 |0,l,r,_=>trivial
 |f+1,l,r,h=>by
  show vY lt N (if l>=r then KasT.ret l else .ask (p.getD k 0) (p.getD ((l+r)/2) 0) fun c=>if c=true then de p k f l ((l+r)/2)else de p k f ((l+r)/2+1) r)
  by_cases a:l>=r
  ·rw[if_pos a];trivial
  ·rw[if_neg a]
   refine⟨P.lt b,P.lt (by omega),P.ne b (by omega) (by omega),?_⟩
   show vY lt N (if lt (gg p k) (gg p ((l+r)/2))=true then de p k f l ((l+r)/2)else de p k f ((l+r)/2+1) r)
   split
   ·exact zCn P b f l _ (by omega)
   ·exact zCn P b f _ r h
theorem zCo (O:TotalOn lt N)(P:Pm p N){k:Nat}(d:k<N)(u:Up lt p k):∀(f l r:Nat),l<=r->r<=k->r-l<=f->(∀i,i<l->lt (gg p i) (gg p k)=true)->(∀i,r<=i->i<k->lt (gg p k) (gg p i)=true)->
  ev lt (de p k f l r)<=k/\(∀i,i<ev lt (de p k f l r)->lt (gg p i) (gg p k)=true)/\∀i,ev lt (de p k f l r)<=i->i<k->lt (gg p k) (gg p i)=true
 |0,l,r,q,h,s,a,b=>by
  have:l=r:=by omega
  subst this
  exact⟨h,a,b⟩
 |f+1,l,r,q,h,s,a,b=>by
  have e:ev lt (de p k (f+1) l r)=ev lt (if l>=r then KasT.ret l else .ask (p.getD k 0) (p.getD ((l+r)/2) 0) fun c=>if c=true then de p k f l ((l+r)/2)else de p k f ((l+r)/2+1) r):=rfl
  rw[e]
  by_cases g:l>=r
  ·rw[if_pos g]
   have:l=r:=by omega
   subst this
   exact⟨h,a,b⟩
  ·rw[if_neg g]
   have t:ev lt (KasT.ask (p.getD k 0) (p.getD ((l+r)/2) 0) fun c=>if c=true then de p k f l ((l+r)/2)else de p k f ((l+r)/2+1) r)=ev lt (if lt (gg p k) (gg p ((l+r)/2))=true then de p k f l ((l+r)/2)else de p k f ((l+r)/2+1) r):=rfl
   rw[t]
   generalize hm:(l+r)/2=m
   have v:l<=m:=by omega
   have w:m<r:=by omega
   cases c:lt (gg p k) (gg p m)with
   |true=>
    rw[if_pos rfl]
    refine zCo O P d u f l m v (by omega) (by omega) a fun i hi j=>?_
    by_cases n:i=m
    ·subst n;exact c
    ·exact O.tr _ _ _ (P.lt d) (P.lt (by omega)) (P.lt (by omega)) c (u m i (by omega) j)
   |false=>
    rw[if_neg (by simp)]
    have o:=O.flip (P.lt d) (P.lt (by omega)) (P.ne d (by omega) (by omega)) c
    refine zCo O P d u f (m+1) r (by omega) h (by omega) (fun i hi=>?_) b
    by_cases n:i=m
    ·subst n;exact o
    ·exact O.tr _ _ _ (P.lt (by omega)) (P.lt (by omega)) (P.lt d) (u i m (by omega) (by omega)) o
theorem zFw {k d x:Nat}(b:k<p.size)(hd:d<=k):gg (bubble p k d) x=if x=k-d then gg p k else if k-d<x/\x<=k then gg p (x-1)else gg p x:=by
 have e:=getElem?_bubble b d hd x
 have a:∀(q:Array Nat) (x:Nat),gg q x=(q[x]?).getD 0:=fun q x=>by simp[gg]
 rw[a,a,a,a,e]
 split
 ·rfl
 ·split<;>rfl
theorem zFx (O:TotalOn lt N):∀(f:Nat) (p:Array Nat) (k:Nat),Pm p N->k+f=N->Up lt p k->Pm (ev lt (nW f p k)) N/\Up lt (ev lt (nW f p k)) N
 |0,p,k,P,e,u=>by
  have:k=N:=by omega
  subst this
  exact⟨P,u⟩
 |f+1,p,k,P,e,u=>by
  have r:nW (f+1) p k=(de p k k 0 k).bind fun l=>nW f (bubble p k (k-l)) (k+1):=rfl
  rw[r,zAK]
  have g:k<N:=by omega
  obtain⟨s,h,m⟩:=zCo O P g u k 0 k (bQ _) (aD _) (by omega) (fun i hi=>by omega) (fun i a b=>by omega)
  generalize ev lt (de p k k 0 k)=l at s h m
  have n:k<p.size:=by rw[P.size];exact g
  refine zFx O f _ (k+1) (P.perm (bubble_perm p k _)) (by omega) fun i j c t=>?_
  rw[zFw n (by omega),zFw n (by omega)]
  have d:k- (k-l)=l:=by omega
  rw[d]
  by_cases a:i=l
  ·rw[if_pos a,if_neg (by omega),if_pos (by omega)]
   exact m _ (by omega) (by omega)
  ·rw[if_neg a]
   by_cases b:l<i/\i<=k
   ·rw[if_pos b,if_neg (by omega),if_pos (by omega)]
    exact u _ _ (by omega) (by omega)
   ·rw[if_neg b]
    by_cases o:j=l
    ·rw[if_pos o]
     exact h i (by omega)
    ·rw[if_neg o]
     by_cases q:l<j/\j<=k
     ·rw[if_pos q]
      by_cases v:i=j-1
      ·omega
      ·exact u _ _ (by omega) (by omega)
     ·rw[if_neg q]
      exact u _ _ c (by omega)
theorem zFy (O:TotalOn lt N):∀(f:Nat) (p:Array Nat) (k:Nat),Pm p N->k+f=N->vY lt N (nW f p k)
 |0,p,k,P,e=>trivial
 |f+1,p,k,P,e=>by
  show vY lt N ((de p k k 0 k).bind fun l=>nW f (bubble p k (k-l)) (k+1))
  exact zAL _ (zCn P (by omega) _ _ _ (aD _)) (zFy O f _ (k+1) (P.perm (bubble_perm p k _)) (by omega))
theorem zKy (O:TotalOn lt N)(a:2<=N):vY lt N (nX N):=by
 have b:Pm (fT (ba N)) N:=iq _
 obtain⟨m,q,e,f,g,c,h⟩:=zFv O b a
 unfold nX
 refine zAL _ (zKx O b a) ?_
 rw[e]
 dsimp only
 by_cases hm:m<N
 ·rw[if_pos hm]
  have d:max m 1=m:=by omega
  rw[d]
  exact zFy O (N-m) q m c (by omega)
 ·rw[if_neg hm];trivial
theorem zKz (O:TotalOn lt N)(c:2<=N):Pm (ev lt (nX N)) N/\Up lt (ev lt (nX N)) N:=by
 have d:Pm (fT (ba N)) N:=iq _
 obtain⟨m,q,e,g,h,a,b⟩:=zFv O d c
 unfold nX
 rw[zAK,e]
 dsimp only
 by_cases hm:m<N
 ·rw[if_pos hm]
  have f:max m 1=m:=by omega
  rw[f]
  exact zFx O (N-m) q m a (by omega) b
 ·rw[if_neg hm]
  have:m=N:=by omega
  subst this
  exact⟨a,b⟩
end
end MyS
end
section
namespace MyS
open PySem PySem.W PyProof.Rows PySem.Spec
theorem zFz {α:Type}{N:Nat}{cmp:Nat->Nat->(Bool->av->Prop)->av->Prop}{lt:Nat->Nat->Bool}{s:av}(b:∀i j,i<N->j<N->i≠j->∀C,C (lt i j) s->cmp i j C s) :
  ∀(t:KasT α) (Q:α->av->Prop),vY lt N t->Q (ev lt t) s->t.kasWp cmp Q s
 | .ret a,Q,_,h=>h
 | .ask i j k,Q,o,h=>b i j o.1 o.2.1 o.2.2.1 _ (zFz b (k (lt i j)) Q o.2.2.2 h)
def jH (ks:List Str)(i:Nat):List Nat:=(ks.getD i ⟨#[]⟩).cps.toList
def j9 (ks:List Str)(i j:Nat):Bool:=decide (jH ks i<jH ks j)
theorem Str_ext {a b:Str}(h:a.cps.toList=b.cps.toList):a=b:=by
 cases a;cases b
 congr 1
 exact oq.mp h
theorem zLA (a b:List Nat)(e:¬a<b)(f:¬b<a):a=b:=by
 have c:b<=a:=gx.mp e
 have d:a<=b:=gx.mp f
 exact oA d c
theorem zLB {ks:List Str}(nd:ks.Nodup):TotalOn (j9 ks) ks.length where
 irr:=fun i _=>by simp[j9,ju]
 tr:=fun i j k _ _ _ a b=>by
  simp only[j9,decide_eq_true_eq]at*
  exact qm a b
 tot:=fun i j hi f c=>by
  simp only[j9,decide_eq_true_eq]
  by_cases a:jH ks i<jH ks j
  ·exact .inl a
  ·by_cases b:jH ks j<jH ks i
   ·exact .inr b
   ·exfalso
    have e:=zLA _ _ a b
    unfold jH at e
    have d:=Str_ext e
    have g:ks.getD i ⟨#[]⟩=ks[i]:=by simp[hi]
    have h:ks.getD j ⟨#[]⟩=ks[j]:=by simp[f]
    rw[g,h]at d
    exact c ((fR nd).mp d)
def zCp (h:bC)(a:ah)(v:ag)(k:Str):Prop:=∃b o t x n,v=Value.ref b/\b≠a/\h.get? b=some o/\o.cls=.type "tuple"/\o.data=.seq #[.str k t,x] n
theorem zCp.keep {h h':bC}{a:ah}{v:ag}{k:Str}(p:zCp h a v k)(e:∀b o,b≠a->h.get? b=some o->h'.get? b=some o):zCp h' a v k:=by
 obtain⟨b,o,t,x,n,d,c,f,g⟩:=p
 exact⟨b,o,t,x,n,d,c,e b o c f,g⟩
section
variable{prog:aJ}{w:aV}{A:bM}{E:ag->av->Prop}{s:av}
theorem zLC {κ:SortKind}{a:ah}{vs:List ag}{ks:List Str}{n:Nat}{P:oB->av->Prop}(y:s.heap.get? a=some (seqObj "list" vs.toArray n))(hl:ks.length=vs.length)(nd:ks.Nodup)(B:vs.length<64)
  (T:∀G,(∀b o,b≠a->s.heap.get? b=some o->G.get? b=some o)->2<=vs.length->∀(Q:SortKind->av->Prop) (U:ag->av->Prop),Q κ {s with heap:=G}->wpAny (model prog w) A (keyKind' vs.toArray) Q U {s with heap:=G})
  (W:∀G,(∀b o,b≠a->s.heap.get? b=some o->G.get? b=some o)->∀i j,i<vs.length->j<vs.length->i≠j->∀C,C (j9 ks i j) {s with heap:=G}->kas_ask prog w A κ vs i j C {s with heap:=G})
  (h:∀(p:List Nat) (h':bC) (e:Nat),p.Perm (ba vs.length)->(p.map (jH ks)).Pairwise (· < ·)->(∀b o,b≠a->s.heap.get? b=some o->h'.get? b=some o)->
   h'.get? a=some (seqObj "list" (p.map fun i=>vs.getD i Value.none).toArray e)->P (.done (.ret .none)) {s with heap:=h'}) :
  wpAny (model prog w) A (dk.«list.sort» ⟨[.ref a],[]⟩) P E s:=by
 have ha:a<s.heap.objs.size:=aI y
 rw[list_sort_plain]
 refine aw (listItems_at y rfl ?_)
 refine aw (nA y rfl ?_ (by rw[bh,aR];omega) (bQ _))
 obtain⟨D,r⟩:∃D,(s.heap.update a (cT fun _=>(#[]:Array ag))).get? a=some (seqObj "list" #[] D):=⟨_,oV y fun _=>#[]⟩
 refine aw (oM r rfl ?_)
 refine aw (wpAny_newTuple ?_ (by rw[aR];simp;omega))
 refine aw (lj ?_ (by simp))
 refine dH ?_
 show wpAny (model prog w) A _ P E {s with heap:=((s.heap.update a (cT fun _=>#[])).push (seqObj "tuple" vs.toArray 0)).push (seqObj "list" #[] 0)}
 generalize R:((s.heap.update a (cT fun _=>(#[]:Array ag))).push (seqObj "tuple" vs.toArray 0)).push (seqObj "list" #[] 0)=G
 have d:G.get? a=some (seqObj "list" #[] D):=by
  rw[<-R]
  exact ai _ (ai _ r)
 have m:∀b o,b≠a->s.heap.get? b=some o->G.get? b=some o:=fun b o z e=>by
  rw[<-R]
  exact ai _ (ai _ ((cb _ _ (fm z)).trans e))
 have hsz:vs.toArray.size=vs.length:=by simp
 have fin:∀(p:List Nat) (out:Array ag) (c:out=(p.map fun i=>vs.getD i Value.none).toArray),p.Perm (ba vs.length)->(p.map (jH ks)).Pairwise (· < ·)->
   P (.done (.ret .none)) {s with heap:=G.update a (cT fun _=>out)}:=fun p out c X f=>by
  subst c
  have Y:=oV d fun _=>(p.map fun i=>vs.getD i Value.none).toArray
  exact h p _ _ X f (fun b o z e=>(cb _ _ (fm z)).trans (m b o z e)) Y
 dsimp only
 by_cases f:vs.toArray.size<2
 ·rw[if_pos f,if_pos f]
  refine aw (aH ?_)
  rw[StateT.run_pure]
  refine aw (aH ?_)
  dsimp only
  refine aw (oM d rfl ?_)
  refine aw (nA d rfl ?_ (by simp) (by
   show((vs.toArray.zip vs.toArray).map (·.2)).size<=sizeLine+1
   rw[aR];simp;omega))
  simp only[bne_self_eq_false,er,if_false]
  refine aH (fin (ba vs.length) _ ?_ (iq _) ?_)
  ·show(vs.toArray.zip vs.toArray).map (·.2)=_
   match vs,f with
   | [],_=>simp
   | [v],_=>simp[fF]
   |_::_::_,f=>simp at f;omega
  ·have:vs.length<2:=by simpa using f
   match hv:vs.length,this with
   |0,_=>simp
   |1,_=>simp[fF]
 ·rw[if_neg f,if_neg f]
  have g:2<=vs.length:=by simpa using f
  refine aw (T G m g _ _ ?_)
  show wpAny _ _ (StateT.run sortRuns' (SortSt.mk' κ (vs.toArray.zip vs.toArray) #[] 7 none)>>=_) _ _ _
  have O:=zLB nd
  rw[hl]at O
  obtain⟨F,H⟩:=zKz O g
  refine aw (cf (kat_run (ks:=vs) (vs:=vs) (Q:=fun l s'=>s'={s with heap:=G}/\failedOf l=none/\∃p:Array Nat,Pm p vs.length/\Up (j9 ks) p vs.length/\arrOf l=p.map (kas_item (vs.toArray.zip vs.toArray)))
   (G:=fun p s'=>s'={s with heap:=G}/\Pm p vs.length/\Up (j9 ks) p vs.length) rfl g B (fun p l s' _ t I u=>⟨u.1,I,p,u.2.1,u.2.2,t⟩) ?_) ?_ fun _ _ e=>e)
  ·refine zFz (N:=vs.length) (lt:=j9 ks) (fun i j hi J q C L=>?_) _ _ (zKy O g) ⟨rfl,F,H⟩
   exact W G m i j hi J q C L
  ·rintro⟨⟨⟩,l⟩ s' ⟨rfl,Z,p,t,I,u⟩
   dsimp only
   have c:=kat_snds (ks:=vs) (vs:=vs) rfl u
   refine aw (oM d rfl ?_)
   refine aw (nA d rfl ?_ (by simp) (by
    rw[c,bh,aa,aR]
    have:=t.size
    simp
    omega))
   rw[Z]
   simp only[bne_self_eq_false,er,if_false]
   refine aH (fin p.toList _ c t ?_)
   rw[cx,List.pairwise_iff_getElem]
   intro i j hi J q
   have M:i<p.size:=by simpa using hi
   have x:j<p.size:=by simpa using J
   have:=I i j q (by rw[<-t.size];exact x)
   rw[zAo M,zAo x]at this
   simpa [j9]using this
theorem sort_strs {a:ah}{vs:List ag}{ks:List Str}{n:Nat}{P:oB->av->Prop}(q:s.heap.get? a=some (seqObj "list" vs.toArray n))(f:rl vs ks)(nd:ks.Nodup)(m:vs.length<64)
  (h:∀(p:List Nat) (h':bC) (e:Nat),p.Perm (ba vs.length)->(p.map (jH ks)).Pairwise (· < ·)->(∀b o,b≠a->s.heap.get? b=some o->h'.get? b=some o)->
   h'.get? a=some (seqObj "list" (p.map fun i=>vs.getD i Value.none).toArray e)->P (.done (.ret .none)) {s with heap:=h'}) :
  wpAny (model prog w) A (dk.«list.sort» ⟨[.ref a],[]⟩) P E s:=by
 have d:ks.length=vs.length:=by rw[<-f.strs];simp
 have c:∀i,i<vs.length->∃t,vs.getD i Value.none=.str (ks.getD i ⟨#[]⟩) t:=fun i hi=>by
  obtain⟨x,t,e⟩:=f.all vs[i] (dh hi)
  refine⟨t,?_⟩
  have r:vs.getD i Value.none=vs[i]:=by simp[hi]
  have u:ks.getD i ⟨#[]⟩=x:=by
   rw[<-f.strs,bN,aq,aG hi,e];rfl
  rw[r,u,e]
 refine zLC (κ:=oneType') q d nd m (fun G v y Q I z=>?_) (fun G v i j hi B D C F=>?_) h
 ·obtain⟨g,l,vO,rfl⟩:∃g l vO,vs=g::l::vO:=by
   match vs,y with
   |g::l::vO,_=>exact⟨g,l,vO,rfl⟩
  rw[keyKind_strs f]
  exact aH z
 ·obtain⟨t,e⟩:=c i hi
  obtain⟨t',H⟩:=c j B
  unfold kas_ask
  rw[e,H,keyLt'_oneType]
  exact strKind_oneLt prog w A _ _ _ _ _ _ rfl rfl F
end
end MyS
end
section
namespace L2
open PySem PySem.Spec PyProof.Rows
def qI (H:Hp)(news:List (ah×HO)):Hp:=fun b=>match news.lookup b with
 |some o=>some o
 |none=>H b
theorem zCq {H:Hp}{a:List (ah×HO)}{b:ah}(h:b∉a.map (·.1)):qI H a b=H b:=by
 unfold qI
 have:a.lookup b=none:=by
  induction a with
  |nil=>rfl
  |cons p r ih=>
   rw[aF,aL,not_or]at h
   have c:(b==p.1)=false:=by simpa using h.1
   obtain⟨x,y⟩:=p
   rw[bZ,c]
   exact ih h.2
 rw[this]
theorem zLD {H:Hp}{a:List (ah×HO)}{b:ah}{o:HO}(h:qI H a b=some o):(b,o)∈a\/(b∉a.map (·.1)/\H b=some o):=by
 by_cases d:b∈a.map (·.1)
 ·left
  unfold qI at h
  cases e:a.lookup b with
  |some u=>
   rw[e]at h
   have:u=o:=ay h
   subst this
   clear h d
   induction a with
   |nil=>cases e
   |cons p r ih=>
    obtain⟨x,y⟩:=p
    rw[bZ]at e
    cases c:b==x with
    |true=>
     rw[c]at e
     have f:b=x:=by simpa using c
     have g:y=u:=ay e
     subst f;subst g
     exact aj ..
    |false=>
     rw[c]at e
     exact ar _ (ih e)
  |none=>
   exfalso
   clear h
   induction a with
   |nil=>cases d
   |cons p r ih=>
    obtain⟨x,y⟩:=p
    rw[bZ]at e
    cases c:b==x with
    |true=>rw[c]at e;cases e
    |false=>
     rw[c]at e
     rw[aF,aL]at d
     rcases d with z|z
     ·have:(b==x)=true:=by simpa using z
      rw[this]at c;cases c
     ·exact ih z e
 ·rw[zCq d]at h
  exact .inr ⟨d,h⟩
theorem zLE {H:Hp}{a:List (ah×HO)}(c:∀p∈a,H p.1=none):zA H (qI H a):=fun b o e=>by
 rw[zCq fun z=>?_]
 ·exact e
 ·obtain⟨p,d,rfl⟩:=az.mp z
  rw[c p d]at e;cases e
theorem yP.obj {P:aJ}{w:aV}{H:Hp}{h:bC}{a:ah}{o:HO}(x:yP P w H h a o):∃u,h.get? a=some u:=by
 cases o with
 |lst xs=>obtain⟨_,_,_,_,e⟩:=x;exact⟨_,e⟩
 |tup xs=>obtain⟨_,_,_,_,e,_⟩:=x;exact⟨_,e⟩
 |dK kvs=>obtain⟨_,_,_,_,o,_,_,e,_⟩:=x;exact⟨_,e⟩
 |dT kvs=>obtain⟨_,_,_,_,o,_,_,e,_⟩:=x;exact⟨_,e⟩
 |set S n=>obtain⟨o,_,_,_,e,_⟩:=x;exact⟨_,e⟩
 |ins C b fs=>obtain⟨_,_,_,e,_⟩:=x;exact⟨_,e⟩
 |own y=>exact x
 |xd fs=>obtain⟨_,⟨_,_,_,e,_⟩,_⟩:=x;exact⟨_,e⟩
 |rng lo hi=>obtain⟨_,_,_,e⟩:=x;exact⟨_,e⟩
 |frz c u=>obtain⟨e,_⟩:=x;exact⟨_,e⟩
 |tbl ps=>exact⟨_,(show h.get? a=some _ from x)⟩
 |met f y=>exact⟨_,(show h.get? a=some _ from x)⟩
 |ext φ=>obtain⟨_,e,_⟩:=x;exact e
theorem z9.free {P:aJ}{w:aV}{H:Hp}{h:bC}{a:ah}(x:z9 P w H h)(e:h.get? a=none):H a=none:=by
 cases q:H a with
 |none=>rfl
 |some u=>
  obtain⟨v,b⟩:=(x a u q).obj
  rw[b]at e;cases e
section
variable{X:Cx}{pins:List (ah×Obj)}{σ:St}{H:Hp}{s:av}
theorem Inv.many {h':bC}{t':Nat}{a:List (ah×HO)}(I:Inv X pins σ H s)(k:∀b u,s.heap.get? b=some u->h'.get? b=some u)(d:∀p∈a,s.heap.get? p.1=none)
  (new:∀p∈a,yP X.prog X.w (qI H a) h' p.1 p.2):Inv X pins σ (qI H a) {s with heap:=h',toks:=t'}:=by
 have h:∀p∈a,H p.1=none:=fun p g=>I.hok.free (d p g)
 have sm:=zLE h
 have f:∀b (o:Obj),s.heap.get? b=some o->qI H a b=H b:=fun b o e=>zCq fun z=>by
  obtain⟨p,g,rfl⟩:=az.mp z
  rw[d p g]at e;cases e
 refine I.un (H':=qI H a) ⟨fun b o e _ _ _=>k b o e,fun b o e _ _ _=>⟨o.slots,k b o e⟩,fun b o e n _=>by rw[f b o e];exact n,fun b o e _=>⟨o,k b o e⟩,fun b xs e=>sm b _ e,fun b o u e=>sm b _ e,fun b ps e=>⟨#[],by rw[sm b _ e];simp⟩⟩ fun b u e=>?_
 rcases zLD e with z|⟨_,z⟩
 ·exact new (b,u) z
 ·exact(I.hok b u z).stay (fun c v _ q=>k c v q) (fun c q=>sm c _ q) fun c xs q=>sm c _ q
end
def zGA (d:ah):Obj:={cls:=.type "dict_items",data:=.fields #[.ref d]}
def VW (p d:ah):HO:=.ext fun h=>h.get? p=some (zGA d)
section
variable{X:Cx}
def zLF:V->List V->Hp->VK->Prop:=fun x vs H Q=>∃d kvs,x=.ref d/\vs=[]/\H d=some (.dK kvs)/\∀p,H p=none->Q (.ref p) (upd H p (VW p d))
theorem zAM:k8 X "dict.items" zLF:=by
 intro c s σ H x vs v i Q I f g h
 obtain⟨d,kvs,rfl,rfl,hd,q⟩:=h
 cases f
 have a:=g.zero
 subst a
 obtain⟨z,hm,j,rel,dd⟩:=j4 I.hok hd
 refine il cJ dd.typeIs PySem.F.entry_dict_items (PySem.F.args_dict_items_1 _) (meets_dict_items (vF X.prog X.w) d hm) ⟨⟨_,dd⟩,?_⟩
 refine⟨.ref s.heap.objs.size,_,I.laid (t':=s.toks) (o:=VW s.heap.objs.size d) (fun b o e=>ai _ e) (aD _) ?_,rfl,q _ (I.hok.fresh (aD _))⟩
 exact⟨aM _ rfl,⟨_,aM _ rfl⟩,fun l m e k=>k _ e⟩
abbrev yW (kvs:List (Str×V)):List (zK×V):=kvs.map fun q=>(Sum.inr q.1,q.2)
theorem KV.get {kvs:List (zK×V)}{vs:List (zK×ag)}:∀{i:Nat}{k:zK}{x:ag},KV kvs vs->vs[i]?=some (k,x)->∃v,kvs[i]?=some (k,v)/\zQ v x:=by
 intro i k x r
 induction r generalizing i with
 |nil=>intro e;simp at e
 |cons h t ih=>
  intro e
  cases i with
  |zero=>
   have a:=ay (by simpa using e)
   rename_i p q _ _
   obtain⟨b,c⟩:=p
   subst a
   have d:b=k:=h.1
   subst d
   exact⟨c,rfl,h.2⟩
  |succ i=>
   obtain⟨v,f,g⟩:=ih (by simpa using e)
   exact⟨v,by simpa using f,g⟩
end
def Its (z:Str):It:=⟨fun i _=>i<z.cps.size,fun i H x H'=>H'=H/\∃c,z.cps[i]?=some c/\x=.str ⟨#[c]⟩,fun i _=>i=z.cps.size⟩
theorem zGB {P:aJ}{w:aV}{K:ae}{L:bV}(it:ah)(z:Str)(t:Tok)(ty:String)(l:["enumerate","zip","dict_itemiterator","dict_reverseitemiterator","odict_iterator","itertools.zip_longest","itertools.pairwise"].contains ty=false)
  (J:∀A:bM,A.handled=none->Walks P w A it [it] [it] z.cps.size (SignAt z) (fun i h=>h.IsStrIter it ty z t i))
  (M:∀(A:bM) (i:Nat) (s:av) (Q:ag->av->Prop) (E:ag->av->Prop),s.heap.IsStrIter it ty z t i->Q (.ref it) s->wpAny (model P w) A (pyIter (.ref it)) Q E s):Turn P w K L (Its z) [it] it (fun i h=>h.IsStrIter it ty z t i) where
 mem:=by simp
 obj:=fun i h st b f=>by
  have e:b=it:=by simpa using f
  subst e
  obtain⟨o,e,c,d⟩:=st
  exact⟨o,e,fun v z=>by rw[d]at z;cases z⟩
 keep:=fun i h h' st k=>let⟨o,e,r⟩:=st;⟨o,k it (by simp) o e,r⟩
 item:=by
  intro X m n p q i a s σ H E I j st x
  subst m n p
  obtain⟨y,f1,f2,B,C,D⟩:=j it (by simp)
  refine(J X.A (I.ok.hd q)).item i s _ _ x st fun v h' tk N g F=>?_
  obtain⟨c,u,G,rfl⟩:=N
  have O:Inv X a σ H {s with heap:=h',toks:=tk}:=I.turned (fun b o f e=>F b o (by simpa using f) e) y f1 B C D
  obtain⟨o,e,R,od⟩:=id g
  exact⟨_,rfl,gG (s:={s with heap:=h',toks:=tk}) e R od l ⟨.str ⟨#[c]⟩,H,O,⟨u,rfl⟩,⟨rfl,c,G,rfl⟩,g,fun b f=>(j b f).1⟩⟩
 done:=by
  intro X m n p q i a s σ H E I j st x
  subst m n p
  obtain⟨y,f1,f2,B,C,D⟩:=j it (by simp)
  have hi:i=z.cps.size:=x
  subst hi
  exact(J X.A (I.ok.hd q)).done s _ _ st fun h' tk F=>⟨rfl,I.turned (fun b o f e=>F b o (by simpa using f) e) y f1 B C D⟩
 self:=M
section
variable{X:Cx}{tg:bV}
def zLG (tl:TE):TI:=fun σ H R=>tl σ H fun x H1=>∃z,x=.str z/\R (Its z) H1
theorem zLH {l:bV}{j:TE}(hl:PE X l j):PI X tg l (zLG j):=by
 intro a s σ H R I h
 refine zH (hl a s σ H _ I h) fun v c ⟨x,f,d,p,z,r,q⟩=>?_
 subst r
 obtain⟨t,rfl⟩:=p
 have m:∀b∈[c.heap.objs.size],qC X a f b:=fun b u=>by
  have e:b=c.heap.objs.size:=by simpa using u
  subst e
  exact d.fpOk (aD _) (d.hok.fresh (aD _))
 cases n:z.cps.all (· <128)with
 |false=>
  refine wpAny_pyIter_wide n ⟨c.heap.objs.size,[c.heap.objs.size],_,_,f,rfl,d.kept (t':=c.toks) fun b o e=>ai _ e,zGB _ z t "str_iterator" (by decide) (fun A g=>Walks.strWide g _ z t) (fun A i s Q E st h=>wpAny_pyIter_striter_wide st h),⟨_,aM _ rfl,rfl,rfl⟩,m,q⟩
 |true=>
  refine wpAny_pyIter_ascii n ⟨c.heap.objs.size,[c.heap.objs.size],_,_,f,rfl,d.kept (t':=c.toks) fun b o e=>ai _ e,zGB _ z t "str_ascii_iterator" (by decide) (fun A g=>Walks.strAscii g _ z t) (fun A i s Q E st h=>wpAny_pyIter_striter_ascii st h),⟨_,aM _ rfl,rfl,rfl⟩,m,q⟩
end
theorem zLI (lo hi:Option Int)(n:Nat):dq lo hi 1 n=dq (some ((HT.sIx n 0 lo:Nat):Int)) (some ((HT.sIx n n hi:Nat):Int)) 1 n:=by
 have hl:=HT.sIx_le n 0 (bQ _) lo
 have m:=HT.sIx_le n n (aD _) hi
 have key:∀(o:Option Int) (d:Nat),d<=n->(match o with|none=>(d:Int)|some i=>(let i:=if i<0 then i+(n:Int)else i;max 0 (min i (n:Int))))=((HT.sIx n d o:Nat):Int):=by
  intro o d hd
  cases o with
  |none=>rfl
  |some i=>
   show max 0 (min (if i<0 then i+(n:Int)else i) (n:Int))=(((if i<0 then(i+(n:Int)).toNat else min i.toNat n):Nat):Int)
   by_cases h:i<0
   ·rw[if_pos h,if_pos h];omega
   ·rw[if_neg h,if_neg h];omega
 have p:=key lo 0 (bQ _)
 have q:=key hi n (aD _)
 have k1:max (0:Int) (min ((HT.sIx n 0 lo:Nat):Int) (n:Int))=((HT.sIx n 0 lo:Nat):Int):=by omega
 have k2:max (0:Int) (min ((HT.sIx n n hi:Nat):Int) (n:Int))=((HT.sIx n n hi:Nat):Int):=by omega
 have c:¬(((HT.sIx n 0 lo:Nat):Int)<0):=by omega
 have e:¬(((HT.sIx n n hi:Nat):Int)<0):=by omega
 unfold dq
 simp only[show((1:Int)>0)=True from by simp,if_true,c,e,if_false,k1,k2]
 have a:∀i:Int,(max 0 (min (if i<0 then i+(n:Int)else i) (n:Int)))=((HT.sIx n 0 (some i):Nat):Int):=fun i=>key (some i) 0 (bQ _)
 have b:∀i:Int,(max 0 (min (if i<0 then i+(n:Int)else i) (n:Int)))=((HT.sIx n n (some i):Nat):Int):=fun i=>key (some i) n (aD _)
 have f:((HT.sIx n 0 none:Nat):Int)=0:=rfl
 have g:((HT.sIx n n none:Nat):Int)=n:=rfl
 cases lo with
 |none=>
  cases hi with
  |none=>rfl
  |some j=>dsimp only;rw[b,f]
 |some i=>
  cases hi with
  |none=>dsimp only;rw[a,g]
  |some j=>
   dsimp only
   have l:=a i
   rw[l]
   rw[b]
theorem zLJ (x:Str)(lo hi:Option Int):qz x lo hi=⟨((x.cps.toList.drop (HT.sIx x.length 0 lo)).take (HT.sIx x.length x.length hi-HT.sIx x.length 0 lo)).toArray⟩:=by
 have hl:=HT.sIx_le x.length 0 (bQ _) lo
 have f:=HT.sIx_le x.length x.length (aD _) hi
 unfold qz
 rw[zLI lo hi]
 generalize HT.sIx x.length 0 lo=a at*
 generalize HT.sIx x.length x.length hi=b at*
 have g:x.cps.toList.length=x.length:=by simp[js]
 by_cases c:a<=b
 ·have sp:=StrLaws.sliced_plain x c f
  split
  ·rename_i h
   rw[StrLaws.strSliceIndices_plain c f]at h
   have h':b-a=x.length:=by simpa using h
   have i:a=0:=by omega
   have d:b=x.cps.toList.length:=by omega
   subst i
   apply MyS.Str_ext
   show x.cps.toList=((x.cps.toList.drop 0).take (b-0)).toArray.toList
   rw[jv,nY,d,aU]
  ·rw[sp]
 ·have d:b-a=0:=by omega
  have e:dq (some (a:Int)) (some (b:Int)) 1 x.length=[]:=by
   have j:¬((a:Int)<0):=by omega
   have l:¬((b:Int)<0):=by omega
   have m:max (0:Int) (min (a:Int) (x.length:Int))=a:=by omega
   have n:max (0:Int) (min (b:Int) (x.length:Int))=b:=by omega
   simp only[dq,sliceRange,j,l,if_false,m,n,show((1:Int)>0)=True from by simp,if_true]
   rw[if_neg (by omega)]
   rfl
  rw[e,d]
  split
  ·rename_i h
   have h':0=x.length:=by simpa using h
   omega
  ·simp
section
variable{X:Cx}{e:bV}{te:TE}{lo hi:Option bV}{tl th:TO}{pos p2:Pos}
def vZ (z:Str)(lo hi:Option Int):Str:=⟨((z.cps.toList.drop (HT.sIx z.length 0 lo)).take (HT.sIx z.length z.length hi-HT.sIx z.length 0 lo)).toArray⟩
def zLK (te:TE)(tl th:TO):TE:=fun σ H Q=>te σ H fun x H1=>tl σ H1 fun l H2=>th σ H2 fun u H3=>∃z,x=.str z/\z.length<=sizeLine/\Q (.str (vZ z l u)) H3
theorem kB (m:PE X e te)(hl:PO X lo tl)(n:PO X hi th):PE X (.Subscript e (.Slice lo hi none p2) pos) (zLK te tl th):=by
 intro a s σ H Q I h
 refine pj (zH (m a s σ H _ I h) fun v p ⟨x,r,y,B,C⟩=>?_)
 refine wpAny_Slice (zH (hl a p σ r _ y C) fun D E ⟨l,F,G,J,L⟩=>zH (n a E σ F _ G L) fun M c ⟨u,N,O,g,P⟩=>?_)
 rw[qg]
 refine aH ?_
 obtain⟨z,rfl,hz,q⟩:=P
 obtain⟨t,rfl⟩:=B
 have d:KeptH (fun h=>∀b o,c.heap.get? b=some o->h.get? b=some o):=fun h Z f b o q=>ai _ (f b o q)
 have fin:∀h' t' k,(∀b o,c.heap.get? b=some o->h'.get? b=some o)->EP X a σ Q (.str (qz z l u) t') {c with heap:=h',toks:=k}:=fun h' t' k f=>by
  refine⟨.str (vZ z l u),N,O.kept f,⟨t',?_⟩,q⟩
  rw[zLJ];rfl
 have go:ItemOn (model X.prog X.w) X.A X.xe (.str z t) (.ref c.heap.objs.size) (EP X a σ Q) {c with heap:=c.heap.push {cls:=.type "slice",data:=.fields #[D,M,.none]}}:=by
  cases J with
  |none=>
   cases g with
   |none=>exact SBH.sliceItem_nn d (fun _ _ q=>q) fin hz
   |int j R=>exact SBH.sliceItem_ns d (fun _ _ q=>q) fin hz
  |int i ui=>
   cases g with
   |none=>exact SBH.sliceItem_sn d (fun _ _ q=>q) fin hz
   |int j R=>exact SBH.sliceItem_ss d (fun _ _ q=>q) fin hz
 obtain⟨T,id,U,W,Y⟩:=go
 exact tail_any (ops:=[.ref c.heap.objs.size,.str z t]) W U Y (by with_unfolding_all rfl)
end
section
variable{X:Cx}
theorem zGC (l:X.calm=true):uG X (.builtin "all") (fun xs H Q=>∃(p:ah) (bs:List Bool),xs=[.ref p]/\yL X.K H p (bs.map V.bl)/\Q (.bl (bs.all id)) H):=by
 intro f s σ H xs F Q I r h
 obtain⟨p,bs,rfl,m,q⟩:=h
 obtain⟨u,rfl,t⟩:=qR r
 cases t
 obtain⟨its,c,d,hz⟩:=I.list m
 have w:p≠s.heap.objs.size:=by
  obtain⟨o,n,e,_⟩:=d
  exact bf (aI e)
 have a:∀(i:Nat) (v:ag),its.toArray[i]?=some v->v=.bool (bs.getD i false):=fun i v e=>by
  have g:its[i]?=some v:=by simpa using e
  have hl:=c.length
  have hi:i<bs.length:=by
   have:=(af.mp g).1
   simp at hl;omega
  obtain⟨u,j,y⟩:=c.get (i:=i) (x:=.bl (bs.getD i false)) (by rw[aq];simp[hi])
  rw[g]at j
  cases j
  exact y
 refine call_all_walk (fK d.isList ?_)
 refine⟨s.heap.objs.size,_,_,its.toArray.size,_,_,fun i=>bs.getD i false,rfl,nM (A:=X.A.in1) (I.ok.hd l) _ p w its.toArray,⟨⟨_,aM _ rfl,rfl,rfl⟩,?_⟩,fun i v s' G J B C=>?_,fun h' tk D=>?_⟩
 ·exact d.isList.at fun o e=>ai _ e
 ·rw[a i v B];exact dw C
 ·refine⟨.bl (bs.all id),H,I.kept (t':=tk) (h':=h') fun b o e=>D b o (fun z=>?_) (ai _ e),?_,q⟩
  ·have:b=s.heap.objs.size:=by simpa using z
   exact absurd (aI e) (by rw[this];exact bP _)
  ·have hl:=c.length
   have hsz:its.toArray.size=bs.length:=by simp at hl;simp[hl]
   have:(ba its.toArray.size).all (fun i=>bs.getD i false)=bs.all id:=by
    rw[hsz]
    rw[eD]
    simp only[cg,bX,id]
    constructor
    ·intro h b E
     obtain⟨i,hi,e⟩:=dD E
     have:=h i hi
     simpa [hi,e]using this
    ·intro h i hi
     have:=h bs[i] (dh hi)
     simpa [hi]using this
   rw[this];rfl
theorem zCr (ns:List Int):∀k,k<=ns.length->preSum (fun i=>ns.getD i 0) k=(ns.take k).sum
 |0,_=>by simp[preSum]
 |k+1,h=>by
  show preSum (fun i=>ns.getD i 0) k+ns.getD k 0=_
  have a:k<ns.length:=h
  rw[zCr ns k (by omega),ak a,iX]
  simp[a]
theorem zCs (m:X.calm=true):uG X (.builtin "sum") (fun xs H Q=>∃(p:ah) (ns:List Int),xs=[.ref p]/\yL X.K H p (ns.map V.int)/\Q (.int ns.sum) H):=by
 intro g s σ H xs E Q I r h
 obtain⟨p,ns,rfl,t,q⟩:=h
 obtain⟨u,rfl,w⟩:=qR r
 cases w
 obtain⟨its,c,d,hz⟩:=I.list t
 have a:p<s.heap.objs.size:=by
  obtain⟨o,n,e,_⟩:=d
  exact aI e
 have hl:=c.length
 have hsz:its.toArray.size=ns.length:=by simp at hl;simp[hl]
 have y:=zKH c
 refine nZ (fK d.isList ?_)
 refine⟨s.heap.objs.size,_,_,_,its.toArray.size,_,_,fun i=>ns.getD i 0,rfl,(nM (A:=X.A.in1) (I.ok.hd m) _ p (bf a) its.toArray).toS,⟨⟨_,aM _ rfl,rfl,rfl⟩,?_⟩,fun b f=>?_,fun i v z=>?_,fun s' t' hm=>?_⟩
 ·exact d.isList.at fun o e=>ai _ e
 ·show b<(s.heap.push _).objs.size
  rw[size_push']
  rcases aL.mp f with e|f
  ·rw[e];exact fh _
  ·rw[b8.mp f];exact cX a
 ·have j:its[i]?=some v:=by simpa using z
  have hi:i<ns.length:=by
   have:=(af.mp j).1
   simp at hl;omega
  obtain⟨u,l,B⟩:=c.get (i:=i) (x:=.int (ns.getD i 0)) (by rw[aq];simp[hi])
  rw[j]at l
  cases l
  exact B
 ·have C:∀b o,s.heap.get? b=some o->s'.heap.get? b=some o:=fun b o e=>
   hm.heap b o (fun D=>absurd (aI e) (by rw[b8.mp D];exact bP _)) (ai _ e)
  rw[nB hm]
  refine⟨.int ns.sum,H,I.kept (h':=s'.heap) (t':=s'.toks) C,⟨t',?_⟩,q⟩
  rw[hsz,zCr ns ns.length (aD _),aU]
def zGD (d:ah):Obj:={cls:=.type "dict_values",data:=.fields #[.ref d]}
def qW (p d:ah):HO:=.ext fun h=>h.get? p=some (zGD d)
def zLL:V->List V->Hp->VK->Prop:=fun x vs H Q=>∃d kvs,x=.ref d/\vs=[]/\H d=some (.dK kvs)/\∀p,H p=none->Q (.ref p) (upd H p (qW p d))
theorem zLM:k8 X "dict.values" zLL:=by
 intro c s σ H x vs v i Q I f g h
 obtain⟨d,kvs,rfl,rfl,hd,q⟩:=h
 cases f
 have a:=g.zero
 subst a
 obtain⟨z,hm,j,rel,dd⟩:=j4 I.hok hd
 refine il dI dd.typeIs ke (jw _) (n0 (vF X.prog X.w) d hm) ⟨⟨_,dd⟩,?_⟩
 refine⟨.ref s.heap.objs.size,_,I.laid (t':=s.toks) (o:=qW s.heap.objs.size d) (fun b o e=>ai _ e) (aD _) ?_,rfl,q _ (I.hok.fresh (aD _))⟩
 exact⟨aM _ rfl,⟨_,aM _ rfl⟩,fun l m e k=>k _ e⟩
theorem zBX:uG X (.builtin "isinstance") (fun xs H Q=>∃x c t b,xs=[x,.ty c]/\TyOf X.K H x t/\bp X.K t (.type c)=some b/\Q (.bl b) H):=by
 intro a s σ H xs g Q I r h
 obtain⟨x,c,t,b,rfl,ty,e,q⟩:=h
 obtain⟨u,i,rfl,d,f⟩:=zAE r
 cases f
 exact zKB I d ty e fun tk=>⟨.bl b,H,I.tok tk,rfl,q⟩
theorem zGE {ss:List Str}:∀{a:List ag},zM (ss.map V.str) a->rl a ss:=by
 induction ss with
 |nil=>intro a r;rw[lQ]at r;cases r;exact .nil
 |cons x ss ih=>
  intro a r
  rw[aF]at r
  cases r with
  |cons b c=>
   obtain⟨t,e⟩:=b
   subst e
   exact .cons x t (ih c)
def zLN (K:ae):V->List V->Hp->VK->Prop:=fun x vs H Q=>∃(sep:Str) (l:ah) (ss:List Str),x=.str sep/\vs=[.ref l]/\yL K H l (ss.map V.str)/\(ss.map (·.length)).sum+ss.length*sep.length<=16777216/\Q (.str (n4 sep ss)) H
theorem zLO:MtR X "str.join" (zLN X.K):=by
 intro a s σ H x vs v i Q I b c h
 obtain⟨sep,l,ss,rfl,rfl,d,hz,q⟩:=h
 obtain⟨t,rfl⟩:=b
 obtain⟨u,rfl,e⟩:=qR c
 cases e
 obtain⟨its,f,g,_⟩:=I.list d
 exact join_list g.isList (by simpa using zGE f) hz fun t' k=>⟨.str (n4 sep ss),H,I.tok k,⟨t',rfl⟩,q⟩
theorem zLP (l:List Str):∀a:Array Nat,(l.foldl (fun b p=>b++(⟨#[]⟩:Str).cps++p.cps) a).toList=a.toList++(l.map (·.cps.toList)).flatten:=by
 induction l with
 |nil=>intro a;simp
 |cons x r ih=>intro a;rw[cn,ih];simp
theorem zLQ (ss:List Str):n4 ⟨#[]⟩ ss=⟨(ss.map (·.cps.toList)).flatten.toArray⟩:=by
 apply MyS.Str_ext
 show((ss.drop 1).foldl (fun a p=>a++(⟨#[]⟩:Str).cps++p.cps) (ss.headD qy).cps).toList=(ss.map (·.cps.toList)).flatten.toArray.toList
 rw[zLP]
 cases ss with
 |nil=>rfl
 |cons x r=>simp
def zLR:V->List V->Hp->VK->Prop:=fun x vs H Q=>∃d kvs k v,x=.ref d/\vs=[kV k,v]/\H d=some (.dK kvs)/\kvs.length<sizeLine/\(∀y,yM kvs k=some y->Q y H)/\(yM kvs k=none->Q v (upd H d (.dK (vL kvs k v))))
theorem zLS:k8 X "dict.setdefault" zLR:=by
 intro i s σ H x vs v E Q I l m h
 obtain⟨d,kvs,k,y,rfl,rfl,hd,hz,n,o⟩:=h
 cases l
 obtain⟨u,p,rfl,r,b⟩:=zAE m
 obtain⟨z,hm,j,rel,dd⟩:=j4 I.hok hd
 have f:j.length<=sizeLine:=by rw[<-rel.length];exact z
 refine il iY dd.typeIs PySem.F.entry_dict_setdefault (PySem.F.args_dict_setdefault_3 _ _ _) (kt_meets_setdefault (vF X.prog X.w) d (gM r) hm p) ⟨j,dd,f,fun v' t=>?_,fun A h' c B=>?_⟩
 ·have a:=rel.val k
  rw[t]at a
  cases e:yM kvs k with
  |none=>rw[e]at a;exact a.elim
  |some g=>
   rw[e]at a
   exact⟨g,H,I.tok _,a,n g e⟩
 ·have a:=rel.val k
  rw[A]at a
  cases e:yM kvs k with
  |some g=>rw[e]at a;exact a.elim
  |none=>
   have C:∃q,h'.get? d=some q:=let⟨q,_,_,D,_⟩:=c;⟨q,D⟩
   have hl:(vL kvs k y).length<=sizeLine:=by have:=zCc kvs k y;omega
   exact⟨y,_,zBS I (by rw[hd];exact True.intro) B C (zBT hl hm (rel.put k b) c),b,o e⟩
def zLT:List V->Hp->VK->Prop:=fun xs H Q=>∃d kvs,xs=[.ref d]/\H d=some (.dK (yW kvs))/\(kvs.map (·.1)).Nodup/\kvs.length<64/\
 ∀(out:List Str) (l:ah),out.Perm (kvs.map (·.1))->out.Pairwise (fun a b=>a.cps.toList<b.cps.toList)->H l=none->Q (.ref l) (upd H l (.lst (out.map V.str)))
theorem zGF (hc:X.calm=true):uG X (.builtin "sorted") zLT:=by
 intro J s σ H xs us Q I rx h
 obtain⟨d,kvs,rfl,hd,nd,U,q⟩:=h
 obtain⟨u,rfl,ru⟩:=qR rx
 cases ru
 obtain⟨z,hm,ws,rel,dd⟩:=j4 I.hok hd
 have C:ws.length=kvs.length:=by have:=rel.length;simpa using this.symm
 obtain⟨ep,Y⟩:=dd.dictAt
 refine fW oN n5 n6 (n8 _) ?_
 unfold dk.«sorted»
 refine aw (m:=checkCount "sorted" 1 1 _) (aH ?_)
 refine aw (PySem.W.kdu_collect (A:=X.A.in1) (PySem.W.kdl_dict (knd:=vF X.prog X.w) (kvs:=ws) (ep:=ep) hm) (I.ok.hd hc) Y (by rw[C,aR];omega) fun h' tk a hk c=>?_)
 have n:a.toList.length=kvs.length:=by rw[bD];exact c.1.trans C
 have Z:rl a.toList (kvs.map (·.1)):=by
  have L:∀v∈a.toList,∃x t,v=Value.str x t:=fun v hv=>by
   obtain⟨i,hi,e⟩:=dD hv
   obtain⟨k,x,f,F⟩:=c.2 i v (by rw[<-eA,aG hi,e])
   obtain⟨y,f1,_⟩:=KV.get rel f
   rw[aq]at f1
   cases g:kvs[i]? with
   |none=>rw[g]at f1;cases f1
   |some p=>
    rw[g]at f1
    have:(Sum.inr p.1:zK)=k:=(cD (ay f1)).1
    subst this
    have D:jR (Sum.inr p.1) v=true:=F
    rcases qB D with⟨j,t,G,_⟩|⟨w,t,G,z2⟩
    ·cases G
    ·exact⟨w,t,z2⟩
  have e0:=strsAre_map a.toList L
  have:a.toList.map strOf=kvs.map (·.1):=by
   apply iG
   ·simp only[aa,n]
   ·intro i h1 M
    have hi:i<a.toList.length:=by simpa using h1
    have ab:i<kvs.length:=by simpa using M
    obtain⟨k,x,f,F⟩:=c.2 i a.toList[i] (by rw[<-eA,aG hi])
    obtain⟨y,f1,_⟩:=KV.get rel f
    rw[aq,aG ab]at f1
    have:(Sum.inr kvs[i].1:zK)=k:=(cD (ay f1)).1
    subst this
    have D:jR (Sum.inr kvs[i].1) a.toList[i]=true:=F
    rcases qB D with⟨j,t,G,_⟩|⟨w,t,G,z2⟩
    ·cases G
    ·have:kvs[i].1=w:=mI G
     rw[fj,fj,z2,this]
     rfl
  rw[this]at e0
  exact e0
 refine aw (lj ?_ (by rw[n,aR];omega))
 generalize hB:h'.objs.size=B
 have N:(h'.push {cls:=.type "list",data:=.seq a.toList.toArray}).get? B=some (seqObj "list" a.toList.toArray 0):=by
  rw[<-hB];exact aM _ rfl
 refine aw (dH (d9 mR ⟨_,N,rfl⟩ mr (MyS.sort_strs (ks:=kvs.map (·.1)) N Z nd (by rw[n];exact U) fun pm M F r O ac al=>⟨_,rfl,?_⟩) (mT _)))
 refine aH ⟨_,rfl,?_⟩
 rw[n]at r
 have P:∀i∈pm,i<kvs.length:=fun i hi=>bX.mp (r.mem_iff.mp hi)
 have R:∀b o,s.heap.get? b=some o->M.get? b=some o:=fun b o e=>by
  have f:=hk b o e
  refine ac b o ?_ (ai _ f)
  rw[<-hB];exact bf (aI f)
 have T:s.heap.get? B=none:=by
  cases g:s.heap.get? B with
  |none=>rfl
  |some o=>
   have h0:=aI (hk B o g)
   rw[hB]at h0
   exact absurd h0 (bP _)
 have qU:upd H B (.lst ((pm.map fun i=>(kvs.map (·.1)).getD i ⟨#[]⟩).map V.str))=qI H [(B,.lst ((pm.map fun i=>(kvs.map (·.1)).getD i ⟨#[]⟩).map V.str))]:=by
  funext b
  unfold upd qI
  by_cases hb:b=B
  ·subst hb;simp
  ·have am:(b==B)=false:=by simpa using hb
   rw[if_neg hb,bZ,am]
   rfl
 have IM:Inv X J σ (qI H [(B,.lst ((pm.map fun i=>(kvs.map (·.1)).getD i ⟨#[]⟩).map V.str))]) {s with heap:=M,toks:=tk}:=by
  refine I.many R (fun p hp=>?_) fun p hp=>?_
  ·rcases aL.mp hp with e|e
   ·rw[e];exact T
   ·cases e
  ·rcases aL.mp hp with e|e
   ·subst e
    refine⟨?_,(pm.map fun i=>a.toList.getD i Value.none),_,?_,al⟩
    ·show(iO V.str (pm.map _)).length<=_
     rw[aa,aa,r.length_eq,bO,aR];omega
    ·have go:∀l:List Nat,(∀i∈l,i<kvs.length)->zM ((l.map fun i=>(kvs.map (·.1)).getD i ⟨#[]⟩).map V.str) (l.map fun i=>a.toList.getD i Value.none):=by
      intro l
      induction l with
      |nil=>intro _;exact .nil
      |cons i l ih=>
       intro hl
       have hi:=hl i (aj ..)
       have E:i<a.toList.length:=by omega
       refine .cons ?_ (ih fun j hj=>hl j (ar _ hj))
       obtain⟨x,t,e⟩:=Z.all a.toList[i] (dh E)
       refine⟨t,?_⟩
       have f:a.toList.getD i Value.none=a.toList[i]:=by
        rw[bN,aG E];rfl
       have F:(kvs.map (·.1)).getD i ⟨#[]⟩=x:=by
        rw[<-Z.strs,bN,aq,aG E,e];rfl
       dsimp only
       rw[f,F,e]
     exact go pm P
   ·cases e
 refine⟨.ref B,_,IM,rfl,?_⟩
 rw[<-qU]
 refine q _ B ?_ ?_ (I.hok.free T)
 ·have f:(ba kvs.length).map (fun i=>(kvs.map (·.1)).getD i (⟨#[]⟩:Str))=kvs.map (·.1):=by
   apply iG
   ·simp
   ·intro i h1 M
    have hi:i<kvs.length:=by simpa using h1
    simp[hi]
  have:=r.map (fun i=>(kvs.map (·.1)).getD i (⟨#[]⟩:Str))
  rw[f]at this
  exact this
 ·rw[cx]
  rw[cx]at O
  exact O
theorem zLU:yK X (binaryOp .Add) (fun x y H Q=>∃a b ys,x=.ref a/\y=.ref b/\yN X.K H a []/\yN X.K H b ys/\Q (.ref b) H):=by
 intro j s σ H x y v u Q I p r h
 obtain⟨a,b,ys,rfl,rfl,t,w,q⟩:=h
 cases p
 cases r
 obtain⟨its,z,A,_⟩:=I.tuple t
 obtain⟨c,F,B,_⟩:=I.tuple w
 have C:its=[]:=by cases z;rfl
 subst C
 obtain⟨⟨cls,dd,data,D⟩,l,m,n,hd⟩:=id A
 obtain⟨⟨o,g,data2,i⟩,d,e,E,f⟩:=id B
 simp only at m hd e f
 subst m hd e f
 exact nU ⟨_,l,rfl⟩ ⟨_,d,rfl⟩ lz nz ij gw (gd _ _)
  (tuple_addW0 a b _ c.toArray n E dd g D i (by simp)) ⟨l,d,⟨.ref b,H,I,rfl,q⟩⟩
end
structure Known (J:It) (items:List V) (Hk:Hp->Prop):Prop where
 go:∀i H,Hk H->i<items.length->J.go i H
 yld:∀i H x H',Hk H->J.yld i H x H'->H'=H/\(i<items.length->items[i]?=some x)
 stop:∀H,Hk H->J.stop items.length H
theorem uZ (lo:Int)(n:Nat):Known (Itr lo n) ((ba n).map fun(i:Nat)=>V.int (lo+(i:Int))) (fun _=>True) :=
 ⟨fun i H _ h=>by show i<n;simpa using h,fun i H x H' _ h=>⟨h.1,fun hi=>by
  have a:i<n:=by simpa using hi
  rw[aq,cV a,h.2];rfl⟩,fun H _=>by show n<=_;simp⟩
theorem u5 (K:ae)(a:ah)(xs:List V):Known (Itl K a) xs (fun H=>yL K H a xs) :=
 ⟨fun i H h hi=>⟨xs,xs[i],h,aG hi⟩,fun i H x H' h y=>⟨y.1,fun _=>y.2 xs h⟩,fun H h=>⟨xs,h,aD _⟩⟩
theorem zBY (K:ae)(a:ah)(xs:List V):Known (Itt K a) xs (fun H=>yN K H a xs) :=
 ⟨fun i H h hi=>⟨xs,xs[i],h,aG hi⟩,fun i H x H' h y=>⟨y.1,fun _=>y.2 xs h⟩,fun H h=>⟨xs,h,aD _⟩⟩
theorem zLV (z:Str):Known (Its z) (z.cps.toList.map fun c=>V.str ⟨#[c]⟩) (fun _=>True) :=
 ⟨fun i H _ h=>by show i<z.cps.size;simpa using h,fun i H x H' _ h=>⟨h.1,fun _=>by
  obtain⟨c,a,b⟩:=h.2
  rw[aq,eA,a,b];rfl⟩,fun H _=>by show _=z.cps.size;simp⟩
theorem kG {J:It}{items:List V}{B:Hp->Prop}(t:Known J items B){caps:List Nat}{n:Nat}{σ:St}{g:TG}{C:TT}{D:TE}{F:List V->Hp->Prop}{E:Hp}(cv:St)(k:Nat)(O:items.length<1000)
  (Pv:Nat->List V->Hp->Prop) (G:Pv 0 [] E) (I:∀i a H,i<=items.length->Pv i a H->B H/\a.length<=i)
  (j:∀(i:Nat) (x:V) (a:List V) (H:Hp) (ys:St) (u:List V->St->Hp->Prop),(∀c H' s,s.length=k->Pv (i+1) c H'->u c (cv++s) H')->items[i]?=some x->ys.length=k->Pv i a H->
   g x (cv++ys) H fun d v=>C d v fun b l=>if b=true then D d l fun y h=>u (a++[y]) d h else u a d l)
  (fin:∀a H,Pv items.length a H->F a H) (w:v8 caps n σ=cv++aB k none:=by rfl) :
  ∃W:Nat->Nat->List V->St->Hp->Prop,(∃m,W 0 m [] (v8 caps n σ) E)/\∀i m a o H',W i m a o H'->
   (J.stop i H'/\F a H')\/
   (J.go i H'/\a.length<sizeLine/\∀x q,J.yld i H' x q->g x o q fun d v=>C d v fun b l=>if b=true then D d l fun y h=>∃f,f<m/\W (i+1) f (a++[y]) d h else∃f,f<m/\W (i+1) f a d l):=by
 refine⟨fun i m a o H'=>i<=items.length/\m=items.length-i/\(∃ys,ys.length=k/\o=cv++ys)/\Pv i a H',⟨items.length,bQ _,rfl,⟨_,by simp,w⟩,G⟩,?_⟩
 rintro i m a o H' ⟨hi,rfl,⟨ys,L,rfl⟩,pv⟩
 obtain⟨z,P⟩:=I i a H' hi pv
 by_cases e:i=items.length
 ·subst e
  exact .inl ⟨t.stop H' z,fin a H' pv⟩
 ·have r:i<items.length:=by omega
  refine .inr ⟨t.go i H' z r,by rw[aR];omega,fun x q A=>?_⟩
  obtain⟨M,N⟩:=t.yld i H' x q z A
  subst M
  exact j i x a q ys (fun c d h=>∃f,f<items.length-i/\(i+1<=items.length/\f=items.length- (i+1)/\(∃ys,ys.length=k/\d=cv++ys)/\Pv (i+1) c h)) (fun c h s hz p=>⟨items.length- (i+1),by omega,by omega,rfl,⟨s,hz,rfl⟩,p⟩) (N r) L pv
theorem uP {J:It}{items:List V}{t:Hp->Prop}(A:Known J items t){caps:List Nat}{n:Nat}{σ:St}{g:TG}{r:TE}{F:List V->Hp->Prop}{u:Hp}(cv:St)(k:Nat)(B:items.length<1000)
  (Pv:Nat->List V->Hp->Prop) (C:Pv 0 [] u) (D:∀i a H,i<=items.length->Pv i a H->t H/\a.length<=i)
  (l:∀(i:Nat) (x:V) (a:List V) (H:Hp) (ys:St) (h:List V->St->Hp->Prop),(∀d H' v,v.length=k->Pv (i+1) d H'->h d (cv++v) H')->items[i]?=some x->ys.length=k->Pv i a H->
   g x (cv++ys) H fun c f=>r c f fun y j=>h (a++[y]) c j)
  (fin:∀a H,Pv items.length a H->F a H) (s:v8 caps n σ=cv++aB k none:=by rfl) :
  ∃W:Nat->Nat->List V->St->Hp->Prop,(∃m,W 0 m [] (v8 caps n σ) u)/\∀i m a w H',W i m a w H'->
   (J.stop i H'/\F a H')\/
   (J.go i H'/\a.length<sizeLine/\∀x z,J.yld i H' x z->g x w z fun c f=>gA c f fun b o=>if b=true then r c o fun y j=>∃q,q<m/\W (i+1) q (a++[y]) c j else∃q,q<m/\W (i+1) q a c o):=by
 refine kG A cv k B Pv C D (fun i x a H ys h E G I p=>?_) fin s
 have:=l i x a H ys h E G I p
 have e:(fun(c:St) (f:Hp)=>gA c f fun b o=>if b=true then r c o fun y j=>h (a++[y]) c j else h a c o)=fun c f=>r c f fun y j=>h (a++[y]) c j:=by
  funext c f
  unfold gA
  exact if_pos rfl
 rw[e]
 exact this
theorem uU {J:It}{items:List V}{o:Hp->Prop}(f:Known J items o){g:TG}{q:TS}{D:Ends}{σ:St}{H:Hp}(Pv:Nat->St->Hp->Prop)(s:Pv 0 σ H)(t:∀i σ H,i<=items.length->Pv i σ H->o H)
  (c:∀(i:Nat) (x:V) (σ:St) (H:Hp) (h:St->Hp->Prop),(∀a H',Pv (i+1) a H'->h a H')->items[i]?=some x->Pv i σ H->g x σ H fun j b=>q {D with nx:=h,ct:=h,bk:=D.nx} j b)
  (fin:∀σ H,Pv items.length σ H->D.nx σ H) :
  ∃W:Nat->Nat->St->Hp->Prop,(∃m,W 0 m σ H)/\∀i m σ H,W i m σ H->
   (J.stop i H/\D.nx σ H)\/(J.go i H/\∃N:St->Hp->Prop,(∀a H',N a H'->∃r,r<m/\W (i+1) r a H')/\∀x H',J.yld i H x H'->g x σ H' fun j b=>q {D with nx:=N,ct:=N,bk:=D.nx} j b):=by
 refine⟨fun i m σ H=>i<=items.length/\m=items.length-i/\Pv i σ H,⟨items.length,bQ _,rfl,s⟩,?_⟩
 rintro i m σ H ⟨hi,rfl,pv⟩
 have l:=t i σ H hi pv
 by_cases e:i=items.length
 ·subst e
  exact .inl ⟨f.stop H l,fin σ H pv⟩
 ·have d:i<items.length:=by omega
  refine .inr ⟨f.go i H l d,Pv (i+1),fun a H' p=>⟨items.length- (i+1),by omega,by omega,rfl,p⟩,fun x b n=>?_⟩
  obtain⟨u,v⟩:=f.yld i H x b l n
  subst u
  exact c i x σ b (Pv (i+1)) (fun _ _ p=>p) (v d) pv
theorem kI {c A B:Prop} [Decidable c] (a:c)(h:A):if decide c=true then A else B:=by
 rw[if_pos (decide_eq_true a)];exact h
theorem qJ {c A B:Prop} [Decidable c] (a:¬c)(h:B):if decide c=true then A else B:=by
 rw[if_neg (fun z=>a (of_decide_eq_true z))];exact h
theorem zA.upd_new {H H':Hp}{a:ah}{o:HO}(e:zA H H')(h:H a=none):zA H (upd H' a o):=fun b u q=>by
 rw[zG (yI q h)];exact e b u q
theorem zA.upd1 {H:Hp}{a:ah}{o:HO}(h:H a=none):zA H (upd H a o):=(zA.refl H).upd_new h
def zBZ (sc:fb)(XN N:List Str)(scope:fb):Nat->List Nat->Bool
 |_,[]=>true
 |i,c::cs=>(match N[i]? with
  |some x=>decide (XN[c]?=some x)&&decide (scope.names.lookup x=some .free)&& (decide (sc.names.lookup x=some .cell)||decide (sc.names.lookup x=some .free))
  |none=>false)&&zBZ sc XN N scope (i+1) cs
def zGG (sc:fb)(XN N:List Str)(scope:fb)(caps:List Nat):Bool :=
 decide (scope.kind=.function)&&decide N.Nodup&&scope.names.all (fun y=>decide (y.2≠.cell))&&scope.names.all (fun y=>decide (y.2=.local->scope.names.lookup y.1=some .local))&&
 scope.names.all (fun y=>decide (y.2=.free->sc.names.lookup y.1=some .cell\/sc.names.lookup y.1=some .free))&&zBZ sc XN N scope 0 caps&&decide (caps.length<=N.length)
theorem zGH {g:fb}{l N:List Str}{scope:fb}:∀{caps:List Nat}{j:Nat},zBZ g l N scope j caps=true->∀i,i<caps.length->
  ∃x,N[j+i]?=some x/\l[caps.getD i 0]?=some x/\scope.names.lookup x=some .free/\(g.names.lookup x=some .cell\/g.names.lookup x=some .free)
 | [],_,_,i,hi=>by simp at hi
 |c::o,j,h,i,hi=>by
  unfold zBZ at h
  rw[bc]at h
  obtain⟨f,m⟩:=h
  cases i with
  |zero=>
   cases e:N[j]? with
   |none=>rw[e]at f;cases f
   |some x=>
    rw[e]at f
    simp only[bc,oW,decide_eq_true_eq]at f
    exact⟨x,by simpa using e,by simpa using f.1.1,f.1.2,f.2⟩
  |succ i=>
   obtain⟨x,a,b,n,d⟩:=zGH m i (by simpa using hi)
   exact⟨x,by rw[<-a];congr 1;omega,by simpa using b,n,d⟩
theorem y9 {j:fb}{l N:List Str}{scope:fb}{caps:List Nat}(h:zGG j l N scope caps=true):CompScope j l N scope caps:=by
 unfold zGG at h
 simp only[bc,decide_eq_true_eq,cg]at h
 obtain⟨⟨⟨⟨⟨⟨a,b⟩,c⟩,d⟩,e⟩,f⟩,g⟩:=h
 exact⟨a,b,c,d,e,fun i hi=>by simpa using zGH f i hi,g⟩
section
variable{X:Cx}{pins:List (ah×Obj)}{σ:St}{H:Hp}{s:av}
theorem Inv.turnedT {fp:List ah}{h':bC}{t':Nat}{T:ah}{o:HO}(I:Inv X pins σ H s)(k:∀b u,b∉fp->s.heap.get? b=some u->h'.get? b=some u)(g:∀b∈fp,qC X pins H b)(h:s.heap.get? T=none)
  (new:yP X.prog X.w (upd H T o) h' T o):Inv X pins σ (upd H T o) {s with heap:=h',toks:=t'}:=by
 have i:H T=none:=I.hok.free h
 have d:∀b u,H b=some u->b∉fp:=fun b u e z=>by rw[(g b z).1]at e;cases e
 have sm:zA H (upd H T o):=zA.upd1 i
 have old:∀b (u:Obj),s.heap.get? b=some u->upd H T o b=H b:=fun b u e=>by
  rw[zG]
  rintro rfl
  rw[h]at e;cases e
 refine I.step (g':=s.gens) (d':=s.drawn) (ch:=fp) (fun b f=>?_) (fun b o _ _ a e _=>k b o a e) (fun b o _ _ a e _=>⟨o.slots,k b o a e⟩) (fun b u _ e n=>by rw[old b u e];exact n)
  (fun b o a e=>⟨o,k b o a e⟩) (fun b xs e=>sm _ _ e) (fun b u v e=>sm _ _ e) (fun b ps e=>⟨#[],by rw[sm _ _ e];simp⟩) (fun m hm=>?_) (fun b u e=>?_) I.bare
 ·obtain⟨y,f1,f2,j,l,p⟩:=g b f
  exact⟨j,f1,l,p⟩
 ·obtain⟨o,t,ep,x,r⟩:=hm
  exact⟨o,t,ep,k _ o (fun z=>(g _ z).2.1 rfl) x,r⟩
 ·by_cases f:b=T
  ·subst f;rw[zF]at e;cases e;exact new
  ·rw[zG f]at e
   refine(I.hok b u e).stay (fun c v a q=>k c v ?_ q) (fun c q=>?_) fun c xs q=>?_
   ·rcases a with z|z
    ·rw[z];exact d b u e
    ·exact d c _ z
   ·exact sm _ _ q
   ·exact sm _ _ q
end
theorem zLW:typeLookup (.type "list") "keys"=pure none:=am_miss_of_fast (by kernel_rfl)
theorem zLX {prog:aJ}{w:aV}{A:bM}{E:ag->av->Prop}{s:av}{a:ah}{o:Obj}{xs:Array ag}{k:Nat}{name:Str}{Q:Option ag->av->Prop}
  (n:s.heap.get? a=some o) (p:o.cls=.type "list") (f:o.data=.seq xs k) (hd:o.dict=none) (i:typeLookup (.type "list") name=pure none) (j:(["__module__","__name__","__qualname__","__doc__","__annotations__"]:List Str).contains name=false) (t:A.handled=none)
  (h:∀h' tk,(∀b q,s.heap.get? b=some q->h'.get? b=some q)->Q none {s with heap:=h',toks:=tk}) (hsz:name.length+100<=sizeLine:=by size_fits) :
  wpAny (model prog w) A (getAttr? (.ref a) name) Q E s:=by
 obtain⟨c,u,v,x⟩:=o
 simp only at p f hd
 subst p f hd
 obtain⟨y,g,d,tk,os⟩:=s
 have r:∀l,(⟨y,g,d,l,os⟩:av).TypeIs (.ref a) "list" :=fun _=>⟨_,n,rfl⟩
 have f1:=sub_AttributeError
 have z:=fk.lookup
 have B:=fk.bind (.ref a)
 have C:=am_list_getattr_none
 unfold getAttr? getAttrBy? getAttrBy
 repeat(any_goals (first|assumption|exact r _|((with_reducible show wpAny _ _ (call (Value.builtin "list.__getattribute__") _ _) _ _ _);refine fP fk (r _) am_entry_list_getattribute (PySem.F.args_list_getattribute_2 _ _) (meets_getattribute_miss_list a xs k x name _ i j hsz) ⟨n,t,fun h' l e m=>?_⟩)|wp_step))
 obtain⟨t',D,G⟩:=m.there
 show wpAny _ _ (getattributeRaised _ _ _ _ _ _ _) _ _ _
 unfold getattributeRaised
 repeat(any_goals (first|assumption|wp_step))
 exact h _ _ m.of.keeps
theorem zGI:entryFor table "dict.update.loop"=some dk.«dict.update.loop»:=oD (by kernel_rfl)
theorem zBa:plainId "dict.update.loop"=true:=by decide+kernel
theorem zLY {κ:Type} [DecidableEq κ] {kvs:List (κ×ag)}{k:κ}{v:ag}(h:k∉kvs.map (·.1)):stored kvs k v=kvs++[(k,v)]:=by
 unfold stored
 rw[if_neg]
 rw[List.any_eq_true]
 rintro⟨b,a,c⟩
 exact h (az.mpr ⟨b,a,of_decide_eq_true c⟩)
section
variable{prog:aJ}{w:aV}{A:bM}{R:oy->av->Prop}
theorem zLZ {I ax D:ah}{items:Array ag}{kvs:List (Str×ag)}(hh:A.in1.handled=none)(H:ax≠I)(a:D≠I)(J:D≠ax)(l:kvs.length=items.size)(hz:kvs.length<=1000)(nd:(kvs.map (·.1)).Nodup) :
  ∀(m i:Nat) (s:av),items.size-i=m->i<=items.size->(s.heap.IsListIter I ax i/\s.heap.IsList ax items)->
   (∀(j:Nat) (v:ag),items[j]?=some v->∃q,kvs[j]?=some q/\∃b o t n,v=Value.ref b/\b≠D/\b≠I/\s.heap.get? b=some o/\o.cls=.type "tuple"/\o.data=.seq #[.str q.1 t,q.2] n)->
   s.heap.DictOf (vF prog w) D ((kvs.take i).map fun q=>((Sum.inr q.1:zK),q.2))->
   (∀h' tk,(∀b o,b≠D->b≠I->s.heap.get? b=some o->h'.get? b=some o)->h'.DictOf (vF prog w) D (kvs.map fun q=>((Sum.inr q.1:zK),q.2))->R (.ok (.ret .none)) {s with heap:=h',toks:=tk})->
   ∀n:Tok,codeAny (model prog w) A (.builtin "dict.update.loop" ⟨[.ref D,.ref I,.int (i:Int) n,.none],[]⟩) R s:=by
 have W:=nM (prog:=prog) (w:=w) (A:=A.in1) hh I ax H items
 intro m
 induction m with
 |zero=>
  intro i s hm hi st L hd M n
  have N:i=items.size:=by omega
  subst N
  refine dE zGI ?_
  rw[di zBa _]
  show wpAny _ A.in1 (pyNext (.ref I)>>=_) _ _ s
  refine aw (W.done s _ _ st fun h' tk f=>?_)
  show wpAny _ A.in1 (qp D []>>=_) _ _ _
  refine aw (aH (aH (M h' tk (fun b o g r e=>f b o (by simpa using r) e) ?_)))
  rw[<-l,aU]at hd
  obtain⟨o,O,ep,P,vO⟩:=hd
  exact⟨o,O,ep,f D o (by simpa using a) P,vO⟩
 |succ m ih=>
  intro i s hm hi st L hd M n
  have u:i<items.size:=by omega
  refine dE zGI ?_
  rw[di zBa _]
  show wpAny _ A.in1 (pyNext (.ref I)>>=_) _ _ s
  refine aw (W.item i s _ _ u st fun v g tk Q T f=>?_)
  obtain⟨q,hq,b,o,t,nn,rfl,as,U,P,X,Y⟩:=L i v Q
  have x:g.get? b=some o:=f b o (by simpa using U) P
  have Z:g.DictOf (vF prog w) D ((kvs.take i).map fun q=>((Sum.inr q.1:zK),q.2)):=by
   obtain⟨y,O,ep,ab,vO⟩:=hd
   exact⟨y,O,ep,f D y (by simpa using a) ab,vO⟩
  show wpAny _ A.in1 (holding [Value.ref b] _>>=_) _ _ _
  refine aw (dH ?_)
  have hT:lp {s with heap:=g,toks:=tk} (.ref b) "tuple" :=⟨o,x,X⟩
  refine aw (wpAny_tryCatch ?_)
  unfold rm
  refine aw (lY hT ?_)
  rw[if_pos (by decide)]
  refine aw (wpAny_seqItems x Y (aH ?_))
  show wpAny _ A.in1 (holding [Value.str q.1 t,q.2] (dictSet D (.str q.1 t) q.2)) _ _ _
  have B:kvs[i]?=some q:=hq
  have C:i<kvs.length:=(af.mp B).1
  have E:kvs[i]=q:=(af.mp B).2
  refine dH (nh (knd:=vF prog w) (k:=Sum.inr q.1) (s:={s with heap:=g,toks:=tk}) (zEp prog w q.1 t) Z (fun r c F=>?_) (by rw[aa,aO,aR];omega))
  have G:(Sum.inr q.1:zK)∉(((kvs.take i).map fun q=>((Sum.inr q.1:zK),q.2)).map (·.1)):=by
   rw[aP]
   intro hm
   obtain⟨p,ac,e⟩:=az.mp hm
   have e':p.1=q.1:=mI e
   obtain⟨j,hj,ej⟩:=dD ac
   have au:j<i:=by rw[aO]at hj;omega
   have al:j<kvs.length:=by omega
   rw[List.getElem_take]at ej
   have:=(fR (xs:=kvs.map (·.1)) (h₀:=by simpa using al) (h₁:=by simpa using C) nd).mp (by rw[fj,fj,ej,E];exact e')
   omega
  rw[zLY G]at c
  have ed:((kvs.take i).map fun q=>((Sum.inr q.1:zK),q.2))++[((Sum.inr q.1:zK),q.2)]=(kvs.take (i+1)).map fun q=>((Sum.inr q.1:zK),q.2):=by
   rw[ak C,E,aC];rfl
  rw[ed]at c
  show wpAny _ A.in1 (again _) _ _ _
  refine aH ⟨fI zBa _,?_⟩
  have keep:∀b o,b≠D->b≠I->s.heap.get? b=some o->r.get? b=some o:=fun b o h d e=>by
   rw[F.2 b h];exact f b o (by simpa using d) e
  refine ih (i+1) {s with heap:=r,toks:=tk+1} (by omega) u (W.frame _ g r T fun b hb o e=>?_) (fun j v Q=>?_) c (fun h' am an ao=>M h' am (fun b o h d e=>an b o h d (keep b o h d e)) ao) _
  ·rw[F.2 b]
   ·exact e
   ·rintro rfl
    rcases aL.mp hb with z|z
    ·exact a z
    ·exact J (by simpa using z)
  ·obtain⟨q',ap,b',y,t',n',h,d,e3,e4,e5⟩:=L j v Q
   exact⟨q',ap,b',y,t',n',h,d,e3,keep b' y d e3 e4,e5⟩
theorem zLa {E:ag->av->Prop}{s:av}{l:ah}{items:Array ag}{kvs:List (Str×ag)}{Q:ag->av->Prop}(H:A.handled=none)(hl:PlainL s.heap l items)(m:kvs.length=items.size)(hz:kvs.length<=1000)(nd:(kvs.map (·.1)).Nodup)
  (O:∀(j:Nat) (v:ag),items[j]?=some v->∃q,kvs[j]?=some q/\∃b o t n,v=Value.ref b/\s.heap.get? b=some o/\o.cls=.type "tuple"/\o.data=.seq #[.str q.1 t,q.2] n)
  (h:∀h' tk,(∀b o,s.heap.get? b=some o->h'.get? b=some o)->h'.DictOf (vF prog w) s.heap.objs.size (kvs.map fun q=>((Sum.inr q.1:zK),q.2))->Q (.ref s.heap.objs.size) {s with heap:=h',toks:=tk}) :
  wpAny (model prog w) A (call (.type "dict") [.ref l]) Q E s:=by
 refine callType_codes (Q₁:=fun obj J=>obj=.ref s.heap.objs.size/\J={s with heap:=s.heap.push {cls:=.type "dict",data:=.dict #[]}}) PySem.F.kt_called_dict (PySem.F.kt_typeCall_dict_1 _) PySem.F.entry_dict_init (kt_code_dict_new _ ⟨rfl,rfl⟩) ?_
 rintro obj J ⟨rfl,rfl⟩
 have a:(s.heap.push {cls:=.type "dict",data:=.dict #[]}).DictOf (vF prog w) s.heap.objs.size []:=oU s.heap
 obtain⟨o,n,L,u,x,hd⟩:=id hl
 have p:l<s.heap.objs.size:=aI L
 have f:(s.heap.push {cls:=.type "dict",data:=.dict #[]}).get? l=some o:=ai _ L
 refine⟨a.typeIs,PySem.F.args_dict_init_2 _ _,?_⟩
 unfold dk.«dict.__init__»
 refine aw ?_
 unfold qq
 refine aw (wpAny_notOrdered_dict a.typeIs ?_)
 show wpAny _ _ (pure (s.heap.objs.size,[Value.ref l])) _ _ _
 refine aH ?_
 show wpAny _ _ (lE "dict.__init__" s.heap.objs.size (.ref l) [] .none) _ _ _
 unfold lE
 have P:lp {s with heap:=s.heap.push {cls:=.type "dict",data:=.dict #[]}} (.ref l) "list" :=⟨o,f,u⟩
 refine aw (lY P ?_)
 rw[if_pos (by decide)]
 refine aw (zLX f u hd x zLW (by decide) (by simp[H]) (fun i y d=>?_))
 rw[if_pos (show(none:Option ag).isNone=true from rfl)]
 refine aw (nJ (aw ?_))
 have hl2:i.IsList l items:=⟨o,d _ _ f,u,n,hd⟩
 refine fK (s:={s with heap:=i,toks:=y}) hl2 ?_
 have c:s.heap.objs.size<i.objs.size:=by
  obtain⟨M,N,ep,g,_⟩:=a
  exact aI (d _ _ g)
 have r:l<i.objs.size:=lU p c
 refine aH ⟨fI zBa _,?_⟩
 have old:∀b o,s.heap.get? b=some o->i.get? b=some o:=fun b o e=>d b o (ai _ e)
 refine zLZ (I:=i.objs.size) (ax:=l) (D:=s.heap.objs.size) (items:=items) (kvs:=kvs) (by simp[H]) (bf r) (bf c) (eI p) m hz nd items.size 0 _ rfl (bQ _)
  ⟨⟨_,aM _ rfl,rfl,rfl⟩,hl2.push _⟩ (fun j v T=>?_) ?_ (fun h' z B C=>⟨rfl,h h' z (fun b o e=>?_) C⟩) _
 ·obtain⟨q,U,b,W,t,X,Y,G,Z,e4⟩:=O j v T
  exact⟨q,U,b,W,t,X,Y,bf (aI G),bf (lU (aI G) c),ai _ (old _ _ G),Z,e4⟩
 ·rw[pE]
  obtain⟨M,N,ep,g,vO⟩:=a
  exact⟨M,N,ep,ai _ (d _ _ g),vO⟩
 ·exact B b o (bf (aI e)) (bf (lU (aI e) c)) (ai _ (old _ _ e))
end
section
variable{X:Cx}
def zBb (K:ae)(H:Hp)(ts:List V)(kvs:List (Str×V)):Prop:=ts.length=kvs.length/\∀(i:Nat) (q:Str×V),kvs[i]?=some q->∃a,ts[i]?=some (.ref a)/\yN K H a [.str q.1,q.2]
theorem zLb {c:List (ah×Obj)}{σ:St}{H:Hp}{s:av}(I:Inv X c σ H s){ts:List V}{kvs:List (Str×V)}{its:List ag}(g:zBb X.K H ts kvs)(h:zM ts its) :
  ∃e:List (Str×ag),KV kvs e/\∀(j:Nat) (v:ag),its[j]?=some v->∃q,e[j]?=some q/\∃b o t n,v=Value.ref b/\s.heap.get? b=some o/\o.cls=.type "tuple"/\o.data=.seq #[.str q.1 t,q.2] n:=by
 have one:∀(i:Nat) (q:Str×V) (u:ag),kvs[i]?=some q->its[i]?=some u->∃x,zQ q.2 x/\∃b o t n,u=Value.ref b/\s.heap.get? b=some o/\o.cls=.type "tuple"/\o.data=.seq #[.str q.1 t,x] n:=fun i q u A B=>by
  obtain⟨a,C,D⟩:=g.2 i q A
  obtain⟨y,f,l⟩:=h.get C
  rw[B]at f
  cases f
  cases l
  obtain⟨z,E,⟨o,F,G,n,hd⟩,_⟩:=I.tuple D
  obtain⟨Q,J,rfl,m,p⟩:=zAE E
  obtain⟨t,rfl⟩:=m
  exact⟨J,p,a,o,t,n,rfl,F,G,hd⟩
 have hl:its.length=kvs.length:=by rw[<-h.length];exact g.1
 clear g h
 induction kvs generalizing its with
 |nil=>
  refine⟨[],.nil,fun j v d=>?_⟩
  have:its=[]:=by simpa using hl
  rw[this]at d;simp at d
 |cons q kvs ih=>
  cases its with
  |nil=>simp at hl
  |cons u its=>
   obtain⟨x,L,M⟩:=one 0 q u rfl rfl
   obtain⟨e,N,r⟩:=ih (its:=its) (fun i w y O P=>one (i+1) w y (by simpa using O) (by simpa using P)) (by simpa using hl)
   refine⟨(q.1,x)::e,.cons ⟨rfl,L⟩ N,fun j v d=>?_⟩
   cases j with
   |zero=>
    have:u=v:=by simpa using d
    subst this
    exact⟨_,rfl,M⟩
   |succ j=>
    obtain⟨w,f,l⟩:=r j v (by simpa using d)
    exact⟨w,by simpa using f,l⟩
theorem KV.enc {kvs:List (Str×V)}{a:List (Str×ag)}(h:KV kvs a):KV (yW kvs) (a.map fun q=>((Sum.inr q.1:zK),q.2)):=by
 induction h with
 |nil=>exact .nil
 |cons h t ih=>exact .cons ⟨congrArg Sum.inr h.1,h.2⟩ ih
def zLc (K:ae):List V->Hp->VK->Prop:=fun xs H Q=>∃p ts kvs,xs=[.ref p]/\yL K H p ts/\zBb K H ts kvs/\(kvs.map (·.1)).Nodup/\kvs.length<=1000/\∀d,H d=none->Q (.ref d) (upd H d (.dK (yW kvs)))
theorem zGJ (l:X.calm=true):uG X (.type "dict") (zLc X.K):=by
 intro f s σ H xs A Q I m h
 obtain⟨p,ts,kvs,rfl,n,a,nd,hz,q⟩:=h
 obtain⟨u,rfl,r⟩:=qR m
 cases r
 obtain⟨its,g,t,_⟩:=I.list n
 obtain⟨i,c,d⟩:=zLb I a g
 have hl:i.length=kvs.length:=(cO c).symm
 have b:its.length=kvs.length:=by rw[<-g.length];exact a.1
 refine zLa (kvs:=i) (I.ok.hd l) t (by rw[hl];simp[b]) (by omega) (by rw[<-c.keys];exact nd) (fun j v w=>d j v (by simpa using w)) fun h' tk x hd=>?_
 have e:(s.heap.objs.size==sysModules)=false:=by
  have y:=I.big
  have z:s.heap.objs.size≠sysModules:=eI y
  simpa using z
 exact⟨.ref s.heap.objs.size,_,I.laid (t':=tk) (o:=.dK (yW kvs)) x (aD _) (zBT (by simp[yW];rw[aR];omega) e c.enc hd),rfl,q _ (I.hok.fresh (aD _))⟩
end
end L2
end
section
set_option autoImplicit false
namespace Kn
abbrev S:=List Nat
section
variable{κ α:Type} [DecidableEq κ]
def zW:List (κ×α)->κ->α->List (κ×α)
 | [],k,v=>[(k,v)]
 |(k',v')::r,k,v=>if k'=k then(k',v)::r else(k',v')::zW r k v
def zL:List (κ×α)->κ->Option α
 | [],_=>none
 |(k',v')::r,k=>if k'=k then some v' else zL r k
theorem zBc (l:List (κ×α))(k a:κ)(v:α):zL (zW l k v) a=if k=a then some v else zL l a:=by
 induction l with
 |nil=>simp[zW,zL]
 |cons p r ih=>
  obtain⟨k0,v0⟩:=p
  by_cases h:k0=k
  ·subst h
   by_cases h':k0=a<;>simp[zW,zL,h']
  ·simp only[zW,if_neg h,zL,ih]
   by_cases b:k0=a
   ·subst b
    rw[if_pos rfl,if_pos rfl,if_neg (fun e=>h e.symm)]
   ·rw[if_neg b,if_neg b]
theorem zGK (l:List (κ×α))(k:κ)(v:α):(zW l k v).map (·.1)=if k∈l.map (·.1)then l.map (·.1)else l.map (·.1)++[k]:=by
 induction l with
 |nil=>simp[zW]
 |cons p r ih=>
  obtain⟨k0,v0⟩:=p
  by_cases h:k0=k
  ·subst h;simp[zW]
  ·have h':¬k=k0:=fun e=>h e.symm
   simp only[zW,if_neg h,aF,ih,aL,h',false_or]
   split<;>simp
theorem zBd {l:List (κ×α)}{k:κ}{v:α}(h:(l.map (·.1)).Nodup):((zW l k v).map (·.1)).Nodup:=by
 rw[zGK]
 split
 ·exact h
 ·rename_i c
  exact eQ.mpr ⟨h,by simp,fun a d b f e=>by
   have:b=k:=by simpa using f
   subst this;subst e;exact c d⟩
theorem vG {l:List (κ×α)}(h:(l.map (·.1)).Nodup)(k:κ)(v:α):(k,v)∈l↔zL l k=some v:=by
 induction l with
 |nil=>simp[zL]
 |cons p r ih=>
  obtain⟨k0,v0⟩:=p
  have a:k0∉r.map (·.1):=(bE.mp h).1
  have b:=ih (bE.mp h).2
  by_cases e:k0=k
  ·subst e
   have g:zL ((k0,v0)::r) k0=some v0:=by simp[zL]
   rw[g,aL]
   constructor
   ·rintro(z|z)
    ·rw[(cD z).2]
    ·exact absurd (nj (f:=(·.1)) z) a
   ·intro z;rw[ay z];exact .inl rfl
  ·simp only[zL,if_neg e,aL,Prod.mk.injEq]
   rw[<-b]
   constructor
   ·rintro(z|z)
    ·exact absurd z.1.symm e
    ·exact z
   ·intro z;exact .inr z
theorem zCt {l:List (κ×α)}{k:κ}:zL l k=none↔k∉l.map (·.1):=by
 induction l with
 |nil=>simp[zL]
 |cons p r ih=>
  obtain⟨k0,v0⟩:=p
  by_cases e:k0=k
  ·subst e;simp[zL]
  ·have a:¬k=k0:=fun z=>e z.symm
   simp only[zL,if_neg e,ih,aF,aL,a,false_or]
end
def vP (row:List (S×Int))(l:S):List (S×Int):=zW row l ((zL row l).getD 0+1)
def vQ (rows:List (S×List (S×Int)))(p:S×S):List (S×List (S×Int)):=zW rows p.1 (vP ((zL rows p.1).getD []) p.2)
def vH (ps:List (S×S)):List (S×List (S×Int)):=ps.foldl vQ []
theorem zLd (ps:List (S×S))(p:S×S):vH (ps++[p])=vQ (vH ps) p:=by
 unfold vH;rw[cI];rfl
def zE (t:S)(o:Nat):S:=t.drop (t.length-o)
def yG (o:Nat)(nm:S):List (S×S):=(ba (nm.length+1)).map fun p=>(zE (nm.take p) o,(nm.drop p).take 1)
def zC (o:Nat)(bk:List S):List (S×S):=bk.flatMap (yG o)
structure RowsOk (ps:List (S×S)) (rows:List (S×List (S×Int))):Prop where
 nd:(rows.map (·.1)).Nodup
 ndr:∀e row,(e,row)∈rows->(row.map (·.1)).Nodup
 val:∀e l,zL ((zL rows e).getD []) l=if 0<ps.count (e,l)then some (ps.count (e,l):Int)else none
 has:∀e,(∃row,zL rows e=some row)↔∃l,(e,l)∈ps
theorem yT (ps:List (S×S)):RowsOk ps (vH ps):=by
 suffices h:∀(f ps:List (S×S)) rows,RowsOk ps rows->RowsOk (ps++f) (f.foldl vQ rows) by
  have:=h ps [] [] ⟨by simp,by simp,by simp[zL],by simp[zL]⟩
  simpa [vH]using this
 intro f
 induction f with
 |nil=>intro ps rows h;simpa using h
 |cons q f ih=>
  intro ps rows h
  obtain⟨a,b⟩:=q
  have step:RowsOk (ps++[(a,b)]) (vQ rows (a,b)):=by
   have i:((((zL rows a).getD []).map (·.1))).Nodup:=by
    cases g:zL rows a with
    |none=>simp
    |some row=>exact h.ndr a row ((vG h.nd a row).mpr g)
   refine⟨zBd h.nd,fun e row hm=>?_,fun e l=>?_,fun e=>?_⟩
   ·have c:=(vG (zBd h.nd) e row).mp hm
    unfold vQ at c
    rw[zBc]at c
    split at c
    ·have:=ay c
     rw[<-this]
     exact zBd i
    ·exact h.ndr e row ((vG h.nd e row).mpr c)
   ·unfold vQ
    rw[zBc]
    by_cases d:a=e
    ·subst d
     rw[if_pos rfl]
     show zL (vP ((zL rows a).getD []) b) l=_
     unfold vP
     rw[zBc,h.val a b]
     by_cases hl:b=l
     ·subst hl
      rw[if_pos rfl,km]
      have j:iH (a,b) [(a,b)]=1:=by simp
      rw[j]
      by_cases m:0<iH (a,b) ps
      ·simp[m]
      ·have:iH (a,b) ps=0:=by omega
       simp[this]
     ·rw[if_neg hl,h.val a l,km]
      have j:iH (a,l) [(a,b)]=0:=by
       simp[oX,hl]
      rw[j,n9]
    ·rw[if_neg d]
     rw[h.val e l,km]
     have j:iH (e,l) [(a,b)]=0:=by
      simp[oX,d]
     rw[j,n9]
   ·unfold vQ
    rw[zBc]
    by_cases d:a=e
    ·subst d
     rw[if_pos rfl]
     exact⟨fun _=>⟨b,by simp⟩,fun _=>⟨_,rfl⟩⟩
    ·rw[if_neg d,h.has e]
     constructor
     ·rintro⟨l,hl⟩;exact⟨l,bJ _ hl⟩
     ·rintro⟨l,hl⟩
      rcases bG.mp hl with z|z
      ·exact⟨l,z⟩
      ·have:(e,l)=(a,b):=by simpa using z
       exact absurd (congrArg rX this).symm d
  have:=ih (ps++[(a,b)]) (vQ rows (a,b)) step
  simpa using this
def Ris {α:Type}(xs:List (S×α)):Prop:=xs.Pairwise fun a b=>a.1<b.1
theorem kJ (a:S):¬a<a:=ju a
theorem zCu {a b c:S}(d:a<b)(e:b<c):a<c:=qm d e
theorem Ris.keys {α:Type}{xs:List (S×α)}(h:Ris xs):(xs.map (·.1)).Nodup:=by
 unfold Ris at h
 rw[sM,cx]
 exact h.imp fun{a b} c (e:a.1=b.1)=>kJ b.1 (e▸c)
theorem zGL {β:Type} [BEq β] [LawfulBEq β]:∀(ps ks:List β),ks.Nodup->(∀x∈ps,x∈ks)->(ks.map fun k=>(ps.count k:Int)).sum=(ps.length:Int)
 | [],ks,_,_=>by
  have:(ks.map fun k=>(([]:List β).count k:Int))=ks.map fun _=>(0:Int):=by simp
  rw[this]
  induction ks with
  |nil=>rfl
  |cons k r ih=>simp_all
 |x::ps,ks,nd,h=>by
  have ih:=zGL ps ks nd fun y c=>h y (ar _ c)
  have no:∀(ks:List β),x∉ks->(ks.map fun k=>((x::ps).count k:Int)).sum=(ks.map fun k=>(ps.count k:Int)).sum:=by
   intro ks
   induction ks with
   |nil=>intro _;rfl
   |cons k r ih=>
    intro a
    have hx1:¬x=k:=fun e=>a (e▸aj ..)
    have hx2:x∉r:=fun e=>a (ar _ e)
    simp only[aF,bb,ih hx2,mB hx1]
  have one:∀(ks:List β),ks.Nodup->x∈ks->(ks.map fun k=>((x::ps).count k:Int)).sum=(ks.map fun k=>(ps.count k:Int)).sum+1:=by
   intro ks
   induction ks with
   |nil=>intro _ a;cases a
   |cons k r ih=>
    intro nd a
    have d:=(bE.mp nd).1
    by_cases e:x=k
    ·subst e
     simp only[aF,bb,no r d,List.count_cons_self]
     omega
    ·have b:x∈r:=(aL.mp a).elim (fun z=>absurd z e) id
     simp only[aF,bb,ih (bE.mp nd).2 b,mB e]
     omega
  rw[one ks nd (h x (aj ..)),ih,bg]
  omega
theorem zGM (o:Nat)(a b:List S):zC o (a++b)=zC o a++zC o b:=by
 unfold zC;rw[fZ]
theorem zAp (o:Nat)(a:List S):((zC o a).length:Int)=(a.map fun x=>(x.length:Int)+1).sum:=by
 induction a with
 |nil=>rfl
 |cons x r ih=>
  have b:zC o (x::r)=yG o x++zC o r:=rfl
  rw[b,aE,aF,bb,<-ih]
  simp[yG]
theorem zLe (t:S)(o:Nat):(zE t o).length<=o:=by unfold zE;rw[cQ];omega
theorem zGN {t:S}{o:Nat}(h:t.length<=o):zE t o=t:=by
 unfold zE
 have:t.length-o=0:=by omega
 rw[this,jv]
end Kn
end
section
set_option autoImplicit false
namespace Kn
def yC (a b:Int):Int:=(gm a b:Int)
def low (u d:Int):Int×Int:=(u/yC u d,d/yC u d)
structure Fq (q:Int×Int):Prop where
 up:0<=q.1
 dn:0<q.2
 co:gm q.1 q.2=1
theorem zAN {u d:Int}(hd:0<d):0<yC u d:=by
 have:0<gm u d:=Int.gcd_pos_iff.mpr (.inr (by omega))
 unfold yC;omega
theorem zLf (u d:Int):u=yC u d*(u/yC u d):=(mV (by unfold yC;exact lF ..)).symm
theorem zGO (u d:Int):d=yC u d*(d/yC u d):=(mV (by unfold yC;exact dU ..)).symm
theorem jI {u d:Int}(hd:0<d):(low u d).1*d=u*(low u d).2:=by
 have c:=zLf u d
 have e:=zGO u d
 show u/yC u d*d=u*(d/yC u d)
 generalize yC u d=g at*
 generalize u/g=a at*
 generalize d/g=b at*
 rw[c,e,<-qr,d5 a g]
theorem u6 {u d:Int}(c:0<=u)(hd:0<d):Fq (low u d):=by
 have b:=zAN (u:=u) hd
 refine⟨mw c (bB b),?_,?_⟩
 ·have e:=zGO u d
  show 0<d/yC u d
  rcases Int.lt_trichotomy (d/yC u d) 0 with h|h|h
  ·have:=Int.mul_neg_of_pos_of_neg b h
   omega
  ·rw[h,Int.mul_zero]at e;omega
  ·exact h
 ·show gm (u/yC u d) (d/yC u d)=1
  unfold yC at*
  have a:0<gm u d:=by omega
  rw[Int.gcd_ediv (lF ..) (dU ..)]
  simp
  exact Nat.div_self a
theorem Fq.ext {p q:Int×Int}(a:Fq p)(b:Fq q)(h:p.1*q.2=q.1*p.2):p=q:=by
 obtain⟨s,t⟩:=p
 obtain⟨u,v⟩:=q
 obtain⟨f,g,i⟩:=a
 obtain⟨j,l,n⟩:=b
 dsimp only at*
 obtain⟨x,rfl⟩:=cq f
 obtain⟨y,rfl⟩:=cq (bB g)
 obtain⟨z,rfl⟩:=cq j
 obtain⟨w,rfl⟩:=cq (bB l)
 have h':x*w=z*y:=by exact_mod_cast h
 have c:rn x y=1:=by simpa [gm]using i
 have d:rn z w=1:=by simpa [gm]using n
 have o:0<y:=by omega
 have A:0<w:=by omega
 have d1:y∣w:=iz (m:=x) (by rw[rY,lZ];exact c) (by rw[h'];exact oE ..)
 have r:w∣y:=iz (m:=z) (by rw[rY,lZ];exact d) (by rw[<-h'];exact oE ..)
 have e:y=w:=Nat.dvd_antisymm d1 r
 subst e
 have:x=z:=Nat.eq_of_mul_eq_mul_right o h'
 rw[this]
theorem zCv {u d a d':Int}(e:0<=u)(hd:0<d)(c:0<=a)(b:0<d')(h:u*d'=a*d):low u d=low a d':=by
 refine Fq.ext (u6 e hd) (u6 c b) ?_
 have f:=jI (u:=u) hd
 have g:=jI (u:=a) b
 generalize low u d=p at*
 generalize low a d'=q at*
 have:(p.1*q.2)*(d*d')=(q.1*p.2)*(d*d'):=by
  calc (p.1*q.2)*(d*d')=(p.1*d)*(q.2*d'):=by ac_rfl
   _=(u*p.2)*(q.2*d'):=by rw[f]
   _=(u*d')*(p.2*q.2):=by ac_rfl
   _=(a*d)*(p.2*q.2):=by rw[h]
   _=(a*q.2)*(p.2*d):=by ac_rfl
   _=(q.1*d')*(p.2*d):=by rw[g]
   _=(q.1*p.2)*(d*d'):=by ac_rfl
 exact Int.eq_of_mul_eq_mul_right (by have:=dN hd b;omega) this
theorem zCw {u d:Int}(a:0<=u)(hd:0<d):(low u d).2<=d/\(low u d).1<=u:=by
 have b:=zAN (u:=u) hd
 exact⟨oF _ (by omega),oF _ a⟩
def uQ (p q:Int×Int):Int×Int:=low (p.1*q.1) (p.2*q.2)
def vI (p q:Int×Int):Int×Int:=low (p.1*q.2+q.1*p.2) (p.2*q.2)
theorem zCx {p q:Int×Int}(a:Fq p)(b:Fq q):Fq (uQ p q):=u6 (cB a.up b.up) (dN a.dn b.dn)
theorem zGP:Fq (0,1):=⟨by decide,by decide,by decide⟩
theorem zBe:Fq (1,1):=⟨by decide,by decide,by decide⟩
theorem zBf {d:Int}(hd:0<d):low 0 d=(0,1):=by
 refine Fq.ext (u6 (rZ _) hd) zGP ?_
 have:=jI (u:=0) hd
 rw[ro]at this
 have a:(low 0 d).1=0:=by
  rcases Int.mul_eq_zero.mp this with h|h
  ·exact h
  ·omega
 rw[a];simp
theorem zGQ {d:Int}(hd:0<d):low d d=(1,1):=by
 refine Fq.ext (u6 (bB hd) hd) zBe ?_
 have:=jI (u:=d) hd
 rw[d5]at this
 have:=Int.eq_of_mul_eq_mul_left (by omega) this
 rw[this]
 exact d5 _ _
theorem zBg {u d:Int}(a:0<=u)(hd:0<d)(h:u<=d):(low u d).1<=(low u d).2:=by
 have f:=u6 a hd
 have c:=jI (u:=u) hd
 by_cases b:(low u d).1<=(low u d).2
 ·exact b
 ·exfalso
  have e:(low u d).2+1<=(low u d).1:=by omega
  have g:((low u d).2+1)*d<=(low u d).1*d:=dG e (bB hd)
  have i:u*(low u d).2<=d*(low u d).2:=dG h (bB f.dn)
  rw[kr,r6,d5 (low u d).2 d]at g
  omega
theorem zLg {p q:Int×Int}(a:Fq p)(b:Fq q)(c:p.1<=p.2)(d:q.1<=q.2):(uQ p q).1<=(uQ p q).2 :=
 zBg (cB a.up b.up) (dN a.dn b.dn) (dO c d b.up (bB a.dn))
theorem zLh {T:Int}(a:0<T){S n:Int}(b:0<=S)(c:0<=n):vI (low S T) (low n T)=low (S+n) T:=by
 have f1:=u6 b a
 have f2:=u6 c a
 have d:=jI (u:=S) a
 have e:=jI (u:=n) a
 unfold vI
 generalize low S T=p at*
 generalize low n T=q at*
 refine zCv (pF (cB f1.up (bB f2.dn)) (cB f2.up (bB f1.dn))) (dN f1.dn f2.dn) (by omega) a ?_
 calc (p.1*q.2+q.1*p.2)*T=(p.1*T)*q.2+(q.1*T)*p.2:=by rw[kr];congr 1<;>ac_rfl
  _=(S*p.2)*q.2+(n*q.2)*p.2:=by rw[d,e]
  _=(S+n)*(p.2*q.2):=by rw[kr];congr 1<;>ac_rfl
end Kn
end
section
set_option autoImplicit false
namespace Kn
def tot (ps:List (S×S))(e:S):Nat:=(ps.filter fun p=>p.1=e).length
def zS (ps:List (S×S))(e l:S):Int×Int:=if ps.count (e,l)=0 then(0,1)else low (ps.count (e,l):Int) (tot ps e:Int)
def qX (ps:List (S×S))(qs:List (S×S)):Int×Int:=qs.foldl (fun w p=>uQ w (zS ps p.1 p.2)) (1,1)
def yX (ps:List (S×S))(o:Nat)(nm:S):Int×Int:=qX ps (yG o nm)
theorem jJ (ps:List (S×S))(e l:S):ps.count (e,l)<=tot ps e:=by
 unfold tot
 rw[<-oa (l:=ps) (p:=fun p=>decide (p.1=e)) (a:=(e,l)) (by simp)]
 exact List.count_le_length
theorem qY (ps:List (S×S))(e l:S):Fq (zS ps e l):=by
 unfold zS
 split
 ·exact zGP
 ·have:=jJ ps e l
  exact u6 (by omega) (by omega)
theorem zLi (ps:List (S×S))(e l:S):(zS ps e l).1<=(zS ps e l).2:=by
 unfold zS
 split
 ·decide
 ·have:=jJ ps e l
  exact zBg (by omega) (by omega) (by omega)
theorem zGR {ps:List (S×S)}{e l:S}(h:(e,l)∉ps):zS ps e l=(0,1):=by
 unfold zS
 rw[if_pos (List.count_eq_zero.mpr h)]
theorem zGS {ps:List (S×S)}(e l:S)(h:1<=ps.length):(zS ps e l).2<=(ps.length:Int):=by
 unfold zS
 split
 ·show(1:Int)<=_;omega
 ·have a:=jJ ps e l
  have b:tot ps e<=ps.length:=bj _ _
  have:=(zCw (u:=(ps.count (e,l):Int)) (d:=(tot ps e:Int)) (by omega) (by omega)).1
  omega
theorem zGT (ps:List (S×S)):∀(a:List (S×S)) (w:Int×Int),Fq w->Fq (a.foldl (fun w p=>uQ w (zS ps p.1 p.2)) w)
 | [],w,h=>h
 |q::a,w,h=>zGT ps a _ (zCx h (qY ps q.1 q.2))
theorem zGU (ps:List (S×S)):∀(a:List (S×S)) (w:Int×Int),Fq w->w.1<=w.2->(a.foldl (fun w p=>uQ w (zS ps p.1 p.2)) w).1<=(a.foldl (fun w p=>uQ w (zS ps p.1 p.2)) w).2
 | [],w,_,h=>h
 |q::a,w,f,h=>zGU ps a _ (zCx f (qY ps q.1 q.2)) (zLg f (qY ps q.1 q.2) h (zLi ps q.1 q.2))
theorem zGV {ps:List (S×S)}(b:1<=ps.length):∀(a:List (S×S)) (w:Int×Int) (k:Nat),Fq w->w.2<=(ps.length:Int)^k->(a.foldl (fun w p=>uQ w (zS ps p.1 p.2)) w).2<=(ps.length:Int)^(k+a.length)
 | [],w,k,_,h=>h
 |q::a,w,k,f,h=>by
  have g:=qY ps q.1 q.2
  have e:k+(q::a).length=(k+1)+a.length:=by simp;omega
  rw[e,cn]
  refine zGV b a _ (k+1) (zCx f g) ?_
  have c:(uQ w (zS ps q.1 q.2)).2<=w.2*(zS ps q.1 q.2).2:=(zCw (cB f.up g.up) (dN f.dn g.dn)).1
  have d:w.2*(zS ps q.1 q.2).2<=(ps.length:Int)^k*(ps.length:Int):=dO h (zGS q.1 q.2 b) (bB g.dn) (by have:=f.dn;omega)
  rw[fz]
  omega
theorem zLj (ps:List (S×S))(o:Nat)(nm:S):Fq (yX ps o nm):=zGT ps _ _ zBe
theorem zLk (ps:List (S×S))(o:Nat)(nm:S):(yX ps o nm).1<=(yX ps o nm).2:=zGU ps _ _ zBe (by decide)
theorem zGW (a b:S)(c:¬a<b)(d:¬b<a):a=b:=oA (gx.mp d) (gx.mp c)
end Kn
end
section
namespace Kn
open PySem L2
theorem yD {N P:List Str}{h:fb}(a:h.kind=.function:=by rfl)(b:h.isCoroutine=false:=by rfl)(c:h.isGenerator=false:=by rfl)(d:N.Nodup:=by decide+kernel)(e:N.take P.length=P:=by rfl)(f:∀x∈P,h.names.lookup x=some .local\/h.names.lookup x=some .cell:=by decide+kernel)(g:∀y∈h.names,y.2≠.free:=by decide+kernel):FnScope N P h:=⟨a,b,c,d,e,f,g⟩
def zY (P:aJ)(w:aV)(K:ae)(mg:Str->Option ag)(base:bC)(k:Nat)(x:Str)(ps:List Str)(sp:Sp):Prop :=
 ∃(f:ah) (fd:aX),FnOk P w K mg base z7 k f fd ps sp/\mg x=some (.ref f)/\dy K (.ref f)=true/\qD K fd ps []
theorem zU {X:Cx}{k:Nat}{x:Str}{ps:List Str}{sp:Sp}{p pos:Pos}{e:bV}{c:List bV}{t:TA}(C:zY X.prog X.w X.K X.mg X.base k x ps sp)(g:Room k X.A)(h:Gl X x)(i:PA X (e::c) t)
  (j:starEach (e::c) X.env=(false,eval e X.env)::starEach c X.env:=by rfl) (a:(backTo pos (starEach c X.env)).any (·.1)=false:=by rfl)
  (d:(x==("__debug__" : Str))=false:=by decide):PE X (.Call (.Name x p) (e::c) [] pos) (zAk sp [] E0 t):=by
 obtain⟨f,fd,G,hm,kp,b⟩:=C
 exact zFN G g h hm kp b .nil zKu i d j a
abbrev tx (x:S):Str:=⟨x.toArray⟩
abbrev sv (x:S):V:=.str (tx x)
theorem qZ (x:S):(tx x).cps.toList=x:=by simp[tx]
theorem yB (x:S):(tx x).length=x.length:=by simp[tx,js]
theorem jK {n i:Nat}{x:V}(h:((ba n).map fun(i:Nat)=>V.int (0+(i:Int)))[i]?=some x):i<n/\x=.int i:=by
 have hi:i<n:=by
  have:=(af.mp h).1
  simpa using this
 refine⟨hi,?_⟩
 rw[aq,cV hi]at h
 have:=ay h
 rw[<-this]
 show V.int (0+(i:Int))=V.int i
 rw[l5]
theorem ys1 {ys:St}(h:ys.length=1):∃y,ys=[y]:=by
 match ys,h with
 | [y],_=>exact⟨y,rfl⟩
structure Blt (mg:Str->Option ag):Prop where
 len:mg "len"=none
 range:mg "range"=none
 all:mg "all"=none
 isinstance:mg "isinstance"=none
 str:mg "str"=none
 tuple:mg "tuple"=none
 int:mg "int"=none
 bool:mg "bool"=none
 sorted:mg "sorted"=none
 sum:mg "sum"=none
 min:mg "min"=none
section
variable{P:aJ}{w:aV}{K:ae}{mg:Str->Option ag}{base:bC}
theorem zCy (t:S)(o:Nat)(c:1<=o):vZ (tx t) (some (-(o:Int))) none=tx (zE t o):=by
 unfold vZ
 rw[yB,qZ]
 have a:HT.sIx t.length 0 (some (-(o:Int)))=t.length-o:=by
  show(if-(o:Int)<0 then(-(o:Int)+(t.length:Int)).toNat else _)=_
  rw[if_pos (by omega)];omega
 have b:HT.sIx t.length t.length none=t.length:=rfl
 rw[a,b]
 unfold zE
 rw[ir (by rw[cQ];omega)]
theorem zBh (t:S)(p:Nat):vZ (tx t) none (some (p:Int))=tx (t.take p):=by
 unfold vZ
 rw[yB,qZ,HT.sIx_nat]
 show tx ((t.drop 0).take (min p t.length-0))=_
 rw[jv,nY,<-List.take_eq_take_min]
theorem zCz (t:S)(p:Nat):vZ (tx t) (some (p:Int)) (some ((p:Int)+1))=tx ((t.drop p).take 1):=by
 unfold vZ
 rw[yB,qZ,HT.sIx_nat,show((p:Int)+1)=((p+1:Nat):Int)from rfl,HT.sIx_nat]
 congr 1
 by_cases h:p<t.length
 ·have a:min p t.length=p:=by omega
  have b:min (p+1) t.length-p=1:=by omega
  rw[a,b]
 ·have a:min p t.length=t.length:=by omega
  rw[a,iu (aD _),iu (by omega)]
  simp
def zAq:Sp:=fun vs H Q _=>∃(t:S) (o:Nat),vs=[sv t,.int o]/\1<=o/\t.length<=64/\Q (sv (zE t o)) H
abbrev zDA:cp:=top 22
theorem zLl:FnScope ["text","order"] ["text","order"] (defScope zDA):=yD
theorem zLm {f:ah}{fd:aX}(F:Fun K "end_of" "end_of" zDA f fd):FnOk P w K mg base z7 1 f fd ["text","order"] zAq:=by
 refine F.ok zLl (fun vs H Q E h=>?_) (fun a A outer s H vs Q E c h=>?_)
 ·obtain⟨t,o,rfl,_⟩:=h;rfl
 ·obtain⟨t,o,rfl,b,hl,k⟩:=h
  refine⟨_,zO (zZ (kB (pv 0) (qE (zAh zAi (pv 1))) zAF)),?_⟩
  refine⟨_,rfl,_,rfl,_,rfl,_,rfl,_,rfl,?_,?_⟩
  ·rw[yB,aR];omega
  ·rw[zCy t o b];exact k
def pr (o:Nat)(t:S)(p:Nat):S×S:=(zE (t.take p) o,(t.drop p).take 1)
def elD (p:S×S):bW:=.tuple [.str (tx p.1),.str (tx p.2)]
def zGX (K:ae):Sp:=fun vs H Q _=>∃(t:S) (o:Nat),vs=[sv t,.int o]/\1<=o/\t.length<=64/\∀a xs H',zA H H'->H a=none->H' a=some (.lst xs)->Reps K H' ((yG o t).map elD) xs->Q (.ref a) H'
abbrev zDB:cp:=top 23
theorem zLn:FnScope ["name","order"] ["name","order"] (defScope zDB):=yD
theorem zLo:(["name","order","place"]:List Str).Nodup:=by decide+kernel
theorem zLp {f:ah}{fd:aX}(F:Fun K "ends_and_letters" "ends_and_letters" zDB f fd)(B:Blt mg)(c:zY P w K mg base 1 "end_of" ["text","order"] zAq):FnOk P w K mg base z7 2 f fd ["name","order"] (zGX K):=by
 refine F.ok zLn (fun vs H Q E h=>?_) (fun m A outer s H vs Q E n h=>?_)
 ·obtain⟨t,o,rfl,_⟩:=h;rfl
 ·obtain⟨t,o,rfl,q,hl,k⟩:=h
  refine⟨_,zO (zZ (vE (N:=["name","order","place"]) (caps:=[0,1]) rfl (y9 (by kernel_rfl))
   (jD rfl B.range (zB (zR y0 (yH jZ (by rfl) B.len cu (zB (pv 0) zD)) zI) zD))
   (fun cl C s H ex=>z0 (i:=2) zLo rfl (Or.inl rfl))
   (fun cl C s H ex=>uI)
   (fun cl C s H ex=>uN (zB (zU c n rfl (zB (kB (pv 0) zAF (qE (pv 2))) (zB (pv 1) zD)))
    (zB (kB (pv 0) (qE (pv 2)) (qE (zR y0 (pv 2) zI))) zD))))),?_⟩
  refine⟨_,rfl,_,rfl,?_,_,_,rfl,rfl,_,rfl,?_,?_,?_⟩
  ·rw[yB,aR];omega
  ·rw[yB];omega
  ·rw[yB];omega
  have r:((tx t).length:Int)+1=((t.length+1:Nat):Int):=by rw[yB];rfl
  have b:(((tx t).length:Int)+1).toNat=t.length+1:=by rw[r];rfl
  refine uP (uZ 0 _) [some (sv t),some (.int o)] 1 (by rw[aa,bO,b];omega) (fun i a H'=>zA H H'/\a.length=i/\Reps K H' (((ba i).map (pr o t)).map elD) a)
   ⟨zA.refl H,rfl,rfl⟩ (fun i a H' _ h=>⟨trivial,d4 h.2.1⟩) ?_ ?_
  ·rintro i x a H' ys z u j v ⟨sm,d,e⟩
   obtain⟨y,rfl⟩:=ys1 v
   rw[b]at j
   obtain⟨hi,rfl⟩:=jK j
   refine⟨_,rfl,_,rfl,_,rfl,_,rfl,(by rw[yB,aR];omega),_,rfl,t.take i,o,(by rw[zBh];rfl),q,(by rw[aO];omega),?_⟩
   refine⟨_,rfl,_,rfl,_,rfl,_,rfl,_,_,rfl,rfl,_,rfl,_,rfl,(by rw[yB,aR];omega),?_⟩
   refine⟨by show 2<=sizeLine;decide,fun p l=>u _ _ [some (.int i)] rfl ⟨sm.upd_new (sm.free l),by rw[aE,d];rfl,?_⟩⟩
   rw[fF,aC,aC]
   refine Reps.append (Reps.same (zA.upd1 l) _ _ e) (Reps.one ⟨p,_,rfl,.of zF,?_⟩)
   rw[zCz]
   exact⟨_,_,rfl,rfl,_,_,rfl,rfl,rfl⟩
  ·rintro a H' ⟨sm,d,e⟩ D g
   refine k D a _ (sm.upd_new (sm.free g)) (sm.free g) zF (Reps.same (zA.upd1 g) _ _ ?_)
   rw[aa,bO,b]at e
   exact e
def q8 (x:S):Prop:=1<=x.length/\x.length<=8/\∀c∈x,97<=c/\c<=122
def letters:Str:=⟨#[97,98,99,100,101,102,103,104,105,106,107,108,109,110,111,112,113,114,115,116,117,118,119,120,121,122]⟩
structure Cst (K:ae) (mg:Str->Option ag):Prop where
 letters:∃t,mg "LETTERS"=some (.str letters t)
 ml:∃t,mg "MOST_LETTERS"=some (.int 8 t)
 mn:∃t,mg "MOST_NAMES"=some (.int 8 t)
 mo:∃t,mg "MOST_ORDER"=some (.int 3 t)
 ib:bp K (.type "int") (.type "bool")=some false
abbrev zDC:cp:=top 15
theorem zLq:FnScope ["thing"] ["thing"] (defScope zDC):=yD
theorem nd1:(["letter"]:List Str).Nodup:=by decide+kernel
def zP (bk:List S):List V:=bk.map sv
structure isBk (bk:List S):Prop where
 lo:1<=bk.length
 hi:bk.length<=8
 nm:∀x∈bk,q8 x
abbrev zDD:cp:=top 16
theorem zLr:FnScope ["thing"] ["thing"] (defScope zDD):=yD
theorem nd2:(["name"]:List Str).Nodup:=by decide+kernel
abbrev zDE:cp:=top 17
theorem zLs:FnScope ["thing","least","most"] ["thing","least","most"] (defScope zDE):=yD
abbrev zDF:cp:=top 18
theorem zLt:FnScope ["thing"] ["thing"] (defScope zDF):=yD
abbrev zDG:cp:=top 19
theorem zLu:FnScope ["thing"] ["thing"] (defScope zDG):=yD
abbrev zDH:cp:=top 20
theorem zLv:FnScope ["thing"] ["thing"] (defScope zDH):=yD
end
theorem qK {a b:S}(h:tx a=tx b):a=b:=by
 have:=congrArg (fun z:Str=>z.cps.toList) h
 simpa [tx]using this
section
variable{α:Type}
def zT (f:α->V)(l:List (S×α)):List (zK×V):=yW (l.map fun p=>(tx p.1,f p.2))
theorem gP (f:α->V)(p:S×α)(l:List (S×α)):zT f (p::l)=((Sum.inr (tx p.1):zK),f p.2)::zT f l:=rfl
theorem vT (f:α->V)(l:List (S×α)):(zT f l).length=l.length:=by simp[zT,yW]
theorem zAO {a b:S}:((Sum.inr (tx a):zK)=Sum.inr (tx b))↔a=b:=⟨fun h=>qK (mI h),fun h=>by rw[h]⟩
theorem v9 (f:α->V)(l:List (S×α))(k:S):yM (zT f l) (Sum.inr (tx k))=(zL l k).map f:=by
 induction l with
 |nil=>rfl
 |cons p r ih=>
  rw[gP]
  by_cases e:p.1=k
  ·rw[qG (zAO.mpr e)]
   obtain⟨a,b⟩:=p
   have c:a=k:=e
   subst c
   simp[zL]
  ·rw[qH (fun z=>e (zAO.mp z)),ih]
   obtain⟨a,b⟩:=p
   have c:¬a=k:=e
   simp[zL,c]
theorem zLw (f:α->V)(l:List (S×α))(k:S):((zT f l).any fun a=>decide (a.1=(Sum.inr (tx k):zK)))=decide (k∈l.map (·.1)):=by
 induction l with
 |nil=>rfl
 |cons p r ih=>
  rw[gP,eV,ih]
  by_cases e:p.1=k
  ·have:decide ((Sum.inr (tx p.1):zK)=Sum.inr (tx k))=true:=decide_eq_true (zAO.mpr e)
   rw[this,rk]
   exact(decide_eq_true (by rw[<-e];exact aj ..)).symm
  ·have:decide ((Sum.inr (tx p.1):zK)=Sum.inr (tx k))=false:=decide_eq_false (fun z=>e (zAO.mp z))
   rw[this,qj]
   congr 1
   have b:¬k=p.1:=fun z=>e z.symm
   simp[b]
theorem gB (f:α->V)(l:List (S×α))(k:S)(v:α)(nd:(l.map (·.1)).Nodup):vL (zT f l) (Sum.inr (tx k)) (f v)=zT f (zW l k v):=by
 unfold vL
 rw[zLw]
 by_cases c:k∈l.map (·.1)
 ·rw[if_pos (decide_eq_true c)]
  induction l with
  |nil=>cases c
  |cons p r ih=>
   obtain⟨a,b⟩:=p
   have d:=bE.mp nd
   rw[gP,aF]
   by_cases e:a=k
   ·subst e
    have g:zW ((a,b)::r) a v=(a,v)::r:=by simp[zW]
    rw[g,gP]
    congr 1
    ·simp
    ·have:∀q∈zT f r,(if q.1=(Sum.inr (tx a):zK)then(q.1,f v)else q)=q:=fun q i=>by
      rw[if_neg]
      intro z
      obtain⟨s,j,m⟩:=az.mp i
      obtain⟨s',h,n⟩:=az.mp j
      have:s.1=tx s'.1:=by rw[<-n]
      have o:q.1=(Sum.inr (tx s'.1):zK):=by rw[<-m,this]
      rw[o]at z
      exact d.1 (az.mpr ⟨s',h,zAO.mp z⟩)
     have t:=cj this
     rw[t];simp
   ·have g:zW ((a,b)::r) k v=(a,b)::zW r k v:=by simp[zW,e]
    rw[g,gP]
    congr 1
    ·rw[if_neg (fun z=>e (zAO.mp z))]
    ·exact ih d.2 (by
      rcases aL.mp c with z|z
      ·exact absurd z.symm e
      ·exact z)
 ·rw[if_neg (by simpa using c)]
  clear nd
  induction l with
  |nil=>rfl
  |cons p r ih=>
   obtain⟨a,b⟩:=p
   have e:¬a=k:=fun z=>c (by rw[<-z];exact aj ..)
   have g:zW ((a,b)::r) k v=(a,b)::zW r k v:=by simp[zW,e]
   rw[g,gP,gP,fg,ih fun z=>c (ar _ z)]
theorem zGY {β:Type}(l:List (S×β))(k:S)(v:β):(zW l k v).length<=l.length+1:=by
 induction l with
 |nil=>simp[zW]
 |cons p r ih=>
  obtain⟨a,b⟩:=p
  by_cases e:a=k
  ·simp[zW,e]
  ·simp[zW,e];omega
theorem zLx {β γ:Type}(g:β->γ)(l:List (S×β))(k:S)(v:β):(zW l k v).map (fun p=>(p.1,g p.2))=zW (l.map fun p=>(p.1,g p.2)) k (g v):=by
 induction l with
 |nil=>rfl
 |cons p r ih=>
  obtain⟨a,b⟩:=p
  by_cases e:a=k
  ·simp[zW,e]
  ·simp[zW,e,ih]
theorem zGZ {β γ:Type}(g:β->γ)(l:List (S×β))(k:S):zL (l.map fun p=>(p.1,g p.2)) k=(zL l k).map g:=by
 induction l with
 |nil=>rfl
 |cons p r ih=>
  obtain⟨a,b⟩:=p
  by_cases e:a=k
  ·simp[zL,e]
  ·simp[zL,e,ih]
theorem zBi {β:Type}{l:List (S×β)}{k:S}{v:β}{q:S×β}(h:q∈zW l k v):q=(k,v)\/(q∈l/\(q.1≠k\/(l.map (·.1)).Nodup->q.1≠k)):=by
 induction l with
 |nil=>simp[zW]at h;exact .inl h
 |cons p r ih=>
  obtain⟨a,b⟩:=p
  by_cases e:a=k
  ·subst e
   have c:zW ((a,b)::r) a v=(a,v)::r:=by simp[zW]
   rw[c]at h
   rcases aL.mp h with z|z
   ·exact .inl z
   ·refine .inr ⟨ar _ z,?_⟩
    rintro(w|w)
    ·exact w
    ·intro d
     exact(bE.mp w).1 (by rw[<-d];exact nj (f:=(·.1)) z)
  ·have c:zW ((a,b)::r) k v=(a,b)::zW r k v:=by simp[zW,e]
   rw[c]at h
   rcases aL.mp h with z|z
   ·subst z
    exact .inr ⟨aj ..,fun _=>e⟩
   ·rcases ih z with w|⟨g,i⟩
    ·exact .inl w
    ·refine .inr ⟨ar _ g,?_⟩
     rintro(u|u)
     ·exact u
     ·exact i (.inr (bE.mp u).2)
theorem gC {β:Type}(l:List (S×β))(k:S)(v:β)(h:k∉l.map (·.1)):zW l k v=l++[(k,v)]:=by
 induction l with
 |nil=>rfl
 |cons q r ih=>
  obtain⟨a,b⟩:=q
  have e:¬a=k:=fun z=>h (by rw[<-z];exact aj ..)
  have c:zW ((a,b)::r) k v=(a,b)::zW r k v:=by simp[zW,e]
  rw[c,ih fun z=>h (ar _ z)];rfl
theorem zGa {β γ:Type}(g:β->γ)(l:List (S×β))(k:S)(v u:β)(h:zL l k=some u)(e:g v=g u):(zW l k v).map (fun p=>(p.1,g p.2))=l.map fun p=>(p.1,g p.2):=by
 induction l with
 |nil=>cases h
 |cons p r ih=>
  obtain⟨a,b⟩:=p
  by_cases c:a=k
  ·have:b=u:=by simpa [zL,c]using h
   subst this
   simp[zW,c,e]
  ·have h':zL r k=some u:=by simpa [zL,c]using h
   simp[zW,c,ih h']
theorem zDI (ps:List (S×S)):(vH ps).length<=ps.length/\∀r∈vH ps,r.2.length<=ps.length:=by
 have key:∀(c:List (S×S)) (rows:List (S×List (S×Int))) (n:Nat),(rows.length<=n/\∀r∈rows,r.2.length<=n)->(c.foldl vQ rows).length<=n+c.length/\∀r∈c.foldl vQ rows,r.2.length<=n+c.length:=by
  intro c
  induction c with
  |nil=>intro rows n h;simpa using h
  |cons q c ih=>
   intro rows n h
   have:=ih (vQ rows q) (n+1) ⟨?_,fun r i=>?_⟩
   ·rw[cn,bg]
    have e:n+(c.length+1)=n+1+c.length:=by omega
    rw[e];exact this
   ·have:=zGY rows q.1 (vP ((zL rows q.1).getD []) q.2)
    unfold vQ;omega
   ·rcases zBi i with e|⟨e,_⟩
    ·rw[e]
     have j:=zGY ((zL rows q.1).getD []) q.2 ((zL ((zL rows q.1).getD []) q.2).getD 0+1)
     have l:((zL rows q.1).getD []).length<=n:=by
      cases g:zL rows q.1 with
      |none=>simp
      |some row=>
       have hm:(q.1,row)∈rows:=by
        clear h i e j
        induction rows with
        |nil=>cases g
        |cons p r d=>
         obtain⟨a,b⟩:=p
         by_cases f:a=q.1
         ·have:b=row:=by simpa [zL,f]using g
          subst this;subst f
          exact aj ..
         ·exact ar _ (d (by simpa [zL,f]using g))
       exact h.2 _ hm
     show(vP _ _).length<=_
     unfold vP;omega
    ·have:=h.2 r e;omega
 have:=key ps [] 0 ⟨aD _,by simp⟩
 simpa [vH]using this
end
abbrev zN (row:List (S×Int)):List (zK×V):=zT V.int row
structure RA (H0 H:Hp) (d:ah) (ps:List (S×S)) (ra:List (S×ah×List (S×Int))):Prop where
 rows:ra.map (fun r=>(r.1,r.2.2))=vH ps
 top:H d=some (.dK (zT (fun v:ah×List (S×Int)=>V.ref v.1) ra))
 row:∀r∈ra,H r.2.1=some (.dK (zN r.2.2))
 new:∀r∈ra,H0 r.2.1=none/\r.2.1≠d
 nda:(ra.map fun r=>r.2.1).Nodup
def qL (H:Hp)(d:ah)(ps:List (S×S)):Prop:=∃ra:List (S×ah×List (S×Int)),ra.map (fun r=>(r.1,r.2.2))=vH ps/\H d=some (.dK (zT (fun v:ah×List (S×Int)=>V.ref v.1) ra))/\∀r∈ra,H r.2.1=some (.dK (zN r.2.2))
theorem qL.same {H H':Hp}{d:ah}{ps:List (S×S)}(h:qL H d ps)(e:zA H H'):qL H' d ps:=by
 obtain⟨ra,a,b,c⟩:=h
 exact⟨ra,a,e _ _ b,fun r f=>e _ _ (c r f)⟩
section
variable{P:aJ}{w:aV}{K:ae}{mg:Str->Option ag}{base:bC}
def zAr:Sp:=fun vs H Q _=>∃(a:ah) (bk:List S) (o:Nat),vs=[.ref a,.int o]/\H a=some (.tup (zP bk))/\bk.length<=8/\(∀x∈bk,x.length<=8)/\1<=o/\∀d H',zA H H'->H d=none->qL H' d (zC o bk)->Q (.ref d) H'
abbrev zDJ:cp:=top 24
theorem zGb:FnScope ["book","order","rows","name","end","letter","row"] ["book","order"] (defScope zDJ):=yD
theorem zBj {a H:Hp}{d:ah}{ps:List (S×S)}{ra:List (S×ah×List (S×Int))}(R:RA a H d ps ra):(ra.map (·.1)).Nodup:=by
 have h:=(yT ps).nd
 rw[<-R.rows,aP]at h
 exact h
theorem RA.step {q H o:Hp}{d ad:ah}{ps:List (S×S)}{ra:List (S×ah×List (S×Int))}(R:RA q H d ps ra)(p:S×S)(row:List (S×Int))(m:row=((zL ra p.1).map (·.2)).getD [])
  (h:∀v,zL ra p.1=some v->v.1=ad) (c:zL ra p.1=none->q ad=none/\ad≠d/\ad∉ra.map fun r=>r.2.1)
  (A:o ad=some (.dK (zN (vP row p.2)))) (B:o d=some (.dK (zT (fun v:ah×List (S×Int)=>V.ref v.1) (zW ra p.1 (ad,vP row p.2))))) (C:∀r∈ra,r.2.1≠ad->o r.2.1=some (.dK (zN r.2.2))) :
  RA q o d (ps++[p]) (zW ra p.1 (ad,vP row p.2)):=by
 have nd:=zBj R
 have f:∀v,zL ra p.1=some v->(p.1,v)∈ra:=fun v s=>(vG nd p.1 v).mpr s
 have t:∀r∈ra,r.1≠p.1->r.2.1≠ad:=fun r l u e=>by
  cases g:zL ra p.1 with
  |none=>exact(c g).2.2 (az.mpr ⟨r,l,e⟩)
  |some v=>
   have s:=f v g
   have ev:=h v g
   have:r=(p.1,v):=by
    obtain⟨i,hi,y⟩:=dD l
    obtain⟨j,D,z⟩:=dD s
    have x:i=j:=by
     refine(fR (xs:=ra.map fun r=>r.2.1) (h₀:=by simpa using hi) (h₁:=by simpa using D) R.nda).mp ?_
     rw[fj,fj,y,z]
     show r.2.1=v.1
     rw[e,ev]
    subst x
    rw[<-y,<-z]
   exact u (by rw[this])
 refine⟨?_,B,fun r l=>?_,fun r l=>?_,?_⟩
 ·rw[zLd,<-R.rows]
  unfold vQ
  have e:=zLx (fun v:ah×List (S×Int)=>v.2) ra p.1 (ad,vP row p.2)
  rw[e]
  have n:=zGZ (fun v:ah×List (S×Int)=>v.2) ra p.1
  rw[n,<-m]
 ·rcases zBi l with e|⟨e,E⟩
  ·rw[e];exact A
  ·exact C r e (t r e (E (.inr nd)))
 ·rcases zBi l with e|⟨e,_⟩
  ·rw[e]
   cases g:zL ra p.1 with
   |none=>exact⟨(c g).1,(c g).2.1⟩
   |some v=>
    have:=R.new _ (f v g)
    rw[<-h v g];exact this
  ·exact R.new r e
 ·cases g:zL ra p.1 with
  |none=>
   have F:p.1∉ra.map (·.1):=zCt.mp g
   have e:=gC ra p.1 (ad,vP row p.2) F
   rw[e,aC]
   refine eQ.mpr ⟨R.nda,by simp,fun a G b I n=>?_⟩
   have:b=ad:=by simpa using I
   exact(c g).2.2 (by rw[<-this,<-n];exact G)
  |some v=>
   have e:=zGa (fun v:ah×List (S×Int)=>v.1) ra p.1 (ad,vP row p.2) v g (h v g).symm
   have n:(zW ra p.1 (ad,vP row p.2)).map (fun r=>r.2.1)=ra.map fun r=>r.2.1:=by
    have:=congrArg (iO jx) e
    rw[aP,aP]at this
    exact this
   rw[n];exact R.nda
def jL (H H':Hp):Prop:=∀b o,H b=some o->(∀kvs,o≠.dK kvs)->H' b=some o
theorem jL.upd {H:Hp}{a:ah}{kvs:List (zK×V)}{u:HO}(h:H a=some (.dK kvs)):jL H (upd H a u):=fun b o e c=>by
 rw[zG]
 ·exact e
 ·rintro rfl;rw[h]at e;exact c kvs (ay e).symm
theorem jL.sqL {H H':Hp}(e:jL H H'){a:ah}{xs:List V}(h:yL K H a xs):yL K H' a xs:=by
 rcases h with(h|⟨o,h⟩)|h
 ·exact .inl (.inl (e _ _ h (by intro z w;cases w)))
 ·exact .inl (.inr ⟨o,e _ _ h (by intro z w;cases w)⟩)
 ·exact .inr h
theorem jL.sqT {H H':Hp}(e:jL H H'){a:ah}{xs:List V}(h:yN K H a xs):yN K H' a xs:=by
 rcases h with(h|⟨o,h⟩)|h
 ·exact .inl (.inl (e _ _ h (by intro z w;cases w)))
 ·exact .inl (.inr ⟨o,e _ _ h (by intro z w;cases w)⟩)
 ·exact .inr h
mutual
theorem yQ.sameQ {H H':Hp}(e:jL H H'):∀(d:bW) (v:V),yQ K H d v->yQ K H' d v
 | .none,v,h=>h
 | .bool b,v,h=>h
 | .int i,v,h=>h
 | .str x,v,h=>h
 | .list ds,v,h=>by
  obtain⟨a,xs,c,f,g⟩:=h
  exact⟨a,xs,c,e.sqL f,Reps.sameQ e ds xs g⟩
 | .tuple ds,v,h=>by
  obtain⟨a,xs,c,f,g⟩:=h
  exact⟨a,xs,c,e.sqT f,Reps.sameQ e ds xs g⟩
 | .dict _,v,h=>h
theorem Reps.sameQ {H H':Hp}(e:jL H H'):∀(ds:List bW) (xs:List V),Reps K H ds xs->Reps K H' ds xs
 | [],xs,h=>h
 |d::ds,xs,h=>by
  obtain⟨y,ys,a,b,c⟩:=h
  exact⟨y,ys,a,yQ.sameQ e d y b,Reps.sameQ e ds ys c⟩
end
theorem zGc {β:Type}(g:β->V)(l:List (S×β))(k:S)(v u:β)(h:zL l k=some u)(e:g v=g u):zT g (zW l k v)=zT g l:=by
 have:=zGa g l k v u h e
 unfold zT
 have a:∀m:List (S×β),m.map (fun p=>(tx p.1,g p.2))=(m.map fun p=>(p.1,g p.2)).map fun q=>(tx q.1,q.2):=fun m=>by rw[aP];rfl
 rw[a,a,this]
theorem zGd {b H:Hp}{d:ah}{ps:List (S×S)}{ra:List (S×ah×List (S×Int))}(R:RA b H d ps ra){e:S}{v:ah×List (S×Int)}(h:zL ra e=some v) :
  H v.1=some (.dK (zN v.2))/\(v.2.map (·.1)).Nodup/\v.2.length<=ps.length/\b v.1=none/\v.1≠d:=by
 have hm:=(vG (zBj R) e v).mpr h
 have a:(e,v.2)∈vH ps:=by rw[<-R.rows];exact az.mpr ⟨(e,v),hm,rfl⟩
 exact⟨R.row _ hm,(yT ps).ndr e v.2 a,(zDI ps).2 _ a,(R.new _ hm).1,(R.new _ hm).2⟩
theorem zLy {f:ah}{fd:aX}(F:Fun K "counted_rows" "counted_rows" zDJ f fd)(ab:zY P w K mg base 2 "ends_and_letters" ["name","order"] (zGX K)):FnOk P w K mg base z7 3 f fd ["book","order"] zAr:=by
 refine F.ok zGb (fun vs H Q E h=>?_) (fun bA A outer s H vs Q E m h=>?_)
 ·obtain⟨a,bk,o,rfl,_⟩:=h;rfl
 ·obtain⟨a,bk,o,rfl,ha,bH,ao,ho,k⟩:=h
  have hu:=uT m
  have nd:=zGb.nd
  refine⟨_,zJ (zV (i:=2) nd rfl (Or.inl rfl) j7)
   (zJ (vS bF rfl (zBN (pv 0)) (z0 (i:=3) nd rfl (Or.inl rfl))
    (zO (vS bF rfl (uX (zU ab m rfl (zB (pv 3) (zB (pv 1) zD))))
     (kZ rfl (uF (z0 (i:=4) nd rfl (Or.inl rfl)) (uF (z0 (i:=5) nd rfl (Or.inl rfl)) kY)))
     (zJ (zV (i:=6) nd rfl (Or.inl rfl) (gL bY iY PySem.F.type_dict_setdefault zLS (pv 2) (zB (pv 4) (zB j7 zD))))
      (zO (gO hu (pv 6) (pv 5) (zR y0 (zAI hu (pv 6) (pv 5) zI ⟨rfl,rfl,rfl,rfl⟩) zI) rfl))))))
   (zO (zZ (pv 2)))),?_⟩
  intro d hd
  have s1:zA H (upd H d (.dK [])):=zA.upd1 hd
  refine⟨_,rfl,a,rfl,⟨_,.of (s1 _ _ ha)⟩,?_⟩
  refine uU (zBY K a (zP bk)) (fun i σ H'=>(∃x y z u:Option V,σ=[some (.ref a),some (.int o),some (.ref d),x,y,z,u])/\zA H H'/\∃ra,RA H H' d (zC o (bk.take i)) ra)
   ⟨⟨_,_,_,_,rfl⟩,s1,[],⟨rfl,zF,by simp,by simp,by simp⟩⟩ (fun i σ H' _ h=>.of (h.2.1 _ _ ha)) ?_ ?_
  ·rintro i x σ H' Nx hN hx ⟨⟨x1,x2,x3,x4,rfl⟩,sm,ra,R⟩
   rw[zP,aq]at hx
   cases e:bk[i]? with
   |none=>rw[e]at hx;cases hx
   |some nm=>
   rw[e]at hx
   have aA:x=sv nm:=(ay hx).symm
   subst aA
   have bL:=ao nm (aT e)
   have hi:i<bk.length:=(af.mp e).1
   have ac:bk.take (i+1)=bk.take i++[nm]:=by
    rw[ak hi]
    have:=(af.mp e).2
    rw[this]
   have n:zC o (bk.take (i+1))=zC o (bk.take i)++yG o nm:=by
    rw[ac,zGM];simp[zC]
   have aK:((zC o (bk.take (i+1))).length:Int)<=100:=by
    rw[zAp]
    have go:∀l:List S,(∀x∈l,x.length<=8)->(l.map fun x=>(x.length:Int)+1).sum<=9*(l.length:Int):=by
     intro l
     induction l with
     |nil=>intro _;simp
     |cons x r ih=>
      intro hl
      have h1:=hl x (aj ..)
      have h2:=ih fun y hy=>hl y (ar _ hy)
      rw[aF,bb,bg]
      have:((r.length+1:Nat):Int)=(r.length:Int)+1:=rfl
      omega
    have:=go (bk.take (i+1)) fun x hx=>ao x (cz hx)
    have h3:(bk.take (i+1)).length<=8:=by rw[aO];omega
    omega
   refine⟨_,rfl,_,rfl,nm,o,rfl,ho,by omega,fun l xs Hl sml aN T rp=>?_⟩
   refine⟨l,rfl,⟨_,.of T⟩,?_⟩
   have R1:RA H Hl d (zC o (bk.take i)) ra:=⟨R.rows,sml _ _ R.top,fun r m=>sml _ _ (R.row r m),R.new,R.nda⟩
   have bS:H l=none:=sm.free aN
   have aW:l≠d:=zAe T (sml _ _ R.top) (by intro z;cases z)
   refine uU (u5 K l xs) (fun j σ q=>(∃y z u:Option V,σ=[some (.ref a),some (.int o),some (.ref d),some (sv nm),y,z,u])/\zA H q/\q l=some (.lst xs)/\Reps K q ((yG o nm).map elD) xs/\∃ra,RA H q d (zC o (bk.take i)++(yG o nm).take j) ra/\∀r∈ra,r.2.1≠l)
    ⟨⟨_,_,_,rfl⟩,sm.trans sml,T,rp,ra,by simpa using R1,fun r m=>zAe (R1.row r m) T (by intro z;cases z)⟩ (fun j σ q _ h=>.of h.2.2.1) ?_ ?_
   ·rintro j x σ q al a0 hx2 ⟨⟨y,z,u,rfl⟩,C,hl2,D,b,R2,a1⟩
    obtain⟨dd,G,rx⟩:=D.get hx2
    rw[aq]at G
    cases ep:(yG o nm)[j]? with
    |none=>rw[ep]at G;cases G
    |some p=>
    rw[ep]at G
    have a2:dd=elD p:=(ay G).symm
    subst a2
    obtain⟨a3,bT,rfl,a4,y1,bt,rfl,a5,y2,ap,rfl,a6,as⟩:=rx
    have a7:y1=sv p.1:=a5
    have a8:y2=sv p.2:=a6
    have en:ap=[]:=as
    subst a7 a8 en
    have hj:j<(yG o nm).length:=(af.mp ep).1
    have au:zC o (bk.take i)++(yG o nm).take (j+1)=(zC o (bk.take i)++(yG o nm).take j)++[p]:=by
     rw[ak hj,(af.mp ep).2,eE]
    generalize a9:zC o (bk.take i)++(yG o nm).take j=ps at R2 au
    have bU:ps.length<=100:=by
     have h1:ps.length<=(zC o (bk.take (i+1))).length:=by
      rw[<-a9,n,aE,aE,aO];omega
     omega
    have bv:b.length<=100:=by
     have h1:=(zDI ps).1
     rw[<-R2.rows,aa]at h1
     omega
    refine⟨a3,[sv p.1,sv p.2],rfl,a4,rfl,_,_,rfl,_,_,rfl,rfl,?_⟩
    refine⟨_,rfl,.inr (.inr (.inl ⟨rfl,.inl ⟨_,R2.top⟩⟩)),_,rfl,fun t U=>?_⟩
    have Y:H t=none:=C.free U
    have W:d≠t:=yI R2.top U
    have s3:zA q (upd q t (.dK [])):=zA.upd1 U
    have fin:∀(ad:ah) (row:List (S×Int)) (I:Hp),I ad=some (.dK (zN row))->(row.map (·.1)).Nodup->row.length<=100->(∀J,J=upd I ad (.dK (zN (vP row p.2)))->al [some (.ref a),some (.int o),some (.ref d),some (sv nm),some (sv p.1),some (sv p.2),some (.ref ad)] J)->
      zCd (vR 6) (vR 5) (tOp (jY fun i j=>V.int (i+j)) (zCe (vR 6) (vR 5) (tC (.int 0))) (tC (.int 1))) {nx:=al,rt:=Q,bk:=fun _ _=>False,ct:=fun _ _=>False} [some (.ref a),some (.int o),some (.ref d),some (sv nm),some (sv p.1),some (sv p.2),some (.ref ad)] I:=by
     intro ad row I c be b0 hq
     refine⟨_,rfl,ad,rfl,.inl ⟨_,.inl c⟩,_,rfl,_,yV.k (k:=Sum.inr (tx p.2)) c,(zL row p.2).getD 0,1,?_,rfl,?_⟩
     ·rw[v9]
      cases zL row p.2<;>rfl
     ·refine⟨_,rfl,_,rfl,ad,_,rfl,qV.k (k:=Sum.inr (tx p.2)) c (by rw[vT,aR];omega),hq _ ?_⟩
      rw[gB V.int row p.2 _ be]
      rfl
    have B:∀(ad:ah) (row:List (S×Int)) (I J:Hp),zA H I->H ad=none->I l=some (.lst xs)->Reps K I ((yG o nm).map elD) xs->J=upd I ad (.dK (zN (vP row p.2)))->I ad=some (.dK (zN row))->RA H J d (ps++[p]) (zW b p.1 (ad,vP row p.2))->
      al [some (.ref a),some (.int o),some (.ref d),some (sv nm),some (sv p.1),some (sv p.2),some (.ref ad)] J:=by
     intro ad row I J sx bi X bl L c RR
     have Z:ad≠l:=zAe c X (by intro z;cases z)
     subst L
     refine a0 _ _ ⟨⟨_,_,_,rfl⟩,sx.upd_new bi,by rw[zG Z.symm];exact X,Reps.sameQ (jL.upd c) _ _ bl,_,by rw[au];exact RR,fun r m=>?_⟩
     rcases zBi m with e|⟨e,_⟩
     ·rw[e];exact Z
     ·exact a1 r e
    have hx3:upd q t (.dK []) d=some (.dK (zT (fun v:ah×List (S×Int)=>V.ref v.1) b)):=by rw[zG W];exact R2.top
    have hl3:upd q t (.dK []) l=some (.lst xs):=s3 _ _ hl2
    have hr3:∀r∈b,upd q t (.dK []) r.2.1=some (.dK (zN r.2.2)):=fun r m=>s3 _ _ (R2.row r m)
    have bm:∀r∈b,r.2.1≠t:=fun r m=>yI (R2.row r m) U
    refine⟨d,_,Sum.inr (tx p.1),_,rfl,rfl,hx3,by rw[vT,aR];omega,fun yv M=>?_,fun am=>?_⟩
    ·
     rw[v9]at M
     cases g:zL b p.1 with
     |none=>rw[g]at M;cases M
     |some v=>
     rw[g]at M
     have ev:yv=.ref v.1:=(ay M).symm
     subst ev
     obtain⟨r1,r2,r3,r4,r5⟩:=zGd R2 g
     have N:upd q t (.dK []) v.1=some (.dK (zN v.2)):=s3 _ _ r1
     refine fin v.1 v.2 _ N r2 (by omega) fun J L=>B v.1 v.2 _ J (C.trans s3) r4 hl3 (Reps.same s3 _ _ D) L N ?_
     refine R2.step p v.2 (by rw[g];rfl) (fun v' O=>by rw[g]at O;rw[ay O]) (fun hn=>by rw[g]at hn;cases hn) (by rw[L,zF]) ?_ fun r m an=>?_
     ·rw[L,zG r5.symm,hx3]
      have:=zGc (fun v:ah×List (S×Int)=>V.ref v.1) b p.1 (v.1,vP v.2 p.2) v g rfl
      rw[this]
     ·rw[L,zG an];exact hr3 r m
    ·
     rw[v9]at am
     have g:zL b p.1=none:=by
      cases g:zL b p.1 with
      |none=>rfl
      |some v=>rw[g]at am;cases am
     have bn:=gB (fun v:ah×List (S×Int)=>V.ref v.1) b p.1 (t,[]) (zBj R2)
     have ax:upd (upd q t (.dK [])) d (.dK (vL (zT (fun v:ah×List (S×Int)=>V.ref v.1) b) (Sum.inr (tx p.1)) (.ref t))) t=some (.dK (zN [])):=by
      rw[zG W.symm,zF];rfl
     refine fin t [] _ ax (by simp) (by simp) fun J L=>B t [] _ J ((C.trans s3).upd_new hd) Y (by rw[zG aW];exact hl3) (Reps.sameQ (jL.upd hx3) _ _ (Reps.same s3 _ _ D)) L ax ?_
     refine R2.step p [] (by rw[g];rfl) (fun v' O=>by rw[g]at O;cases O) (fun _=>⟨Y,W.symm,fun hm=>?_⟩) (by rw[L,zF]) ?_ fun r m an=>?_
     ·obtain⟨r,m,e⟩:=az.mp hm
      exact bm r m e
     ·rw[L,zG W,zF,bn]
      congr 2
      have hk:p.1∉b.map (·.1):=zCt.mp g
      rw[gC _ _ _ hk,gC _ _ _ hk]
      unfold zT yW
      rw[aC,aC,aC,aC]
      rfl
     ·rw[L,zG an,zG (R2.new r m).2];exact hr3 r m
   ·rintro σ q ⟨⟨y,z,u,rfl⟩,C,hl2,D,b,R2,_⟩
    refine hN _ _ ⟨⟨_,_,_,_,rfl⟩,C,b,?_⟩
    rw[n]
    have X:xs.length=(yG o nm).length:=by have:=D.length;simpa using this.symm
    rw[X,aU]at R2
    exact R2
  ·rintro σ H' ⟨⟨x1,x2,x3,x4,rfl⟩,sm,ra,R⟩
   refine⟨_,rfl,k d H' sm hd ⟨ra,?_,R.top,R.row⟩⟩
   rw[R.rows]
   have:(zP bk).length=bk.length:=by simp[zP]
   rw[this,aU]
theorem zGe {a b:Int}(c:0<=a)(d:0<b):gm b (a%b)=gm a b:=by
 obtain⟨x,rfl⟩:=cq c
 obtain⟨y,rfl⟩:=cq (bB d)
 have e:((x:Int)%(y:Int))=((x%y:Nat):Int):=rfl
 rw[e]
 show rn y (x%y)=rn x y
 rw[lZ y (x%y),<-Nat.gcd_rec,lZ]
def zDK:Sp:=fun vs H Q _=>∃u d:Int,vs=[.int u,.int d]/\0<=u/\0<d/\d<1073741824/\Q (.int (yC u d)) H
abbrev zDL:cp:=top 28
theorem zGf:FnScope ["one","other","rest"] ["one","other"] (defScope zDL):=yD
abbrev frO (q:Int×Int):HO:=.tup [.int q.1,.int q.2]
def zDM:Sp:=fun vs H Q _=>∃u d:Int,vs=[.int u,.int d]/\0<=u/\0<d/\d<1073741824/\∀p,H p=none->Q (.ref p) (upd H p (frO (low u d)))
abbrev zDN:cp:=top 29
theorem zGg:FnScope ["up","down","divisor"] ["up","down"] (defScope zDN):=yD
structure Sm (q:Int×Int):Prop extends Fq q where
 u1:q.1<1073741824
 d1:q.2<1073741824
def yO (K:ae)(H:Hp)(v:V)(q:Int×Int):Prop:=∃a,v=.ref a/\yN K H a [.int q.1,.int q.2]
theorem yO.same {H H':Hp}{v:V}{q:Int×Int}(h:yO K H v q)(e:zA H H'):yO K H' v q:=by
 obtain⟨a,b,c⟩:=h
 exact⟨a,b,e.seqT c⟩
theorem yO.new {H:Hp}{p:ah}{q:Int×Int}:yO K (upd H p (frO q)) (.ref p) q:=⟨p,rfl,.of zF⟩
theorem cm {p:Int}(a:0<=p)(b:p<1073741824)(q:Int):zAB p q:=.inl ⟨by omega,by omega⟩
end
theorem zLz {ps:List (S×S)}{e:S}{xs:List (S×Int)}(nd:(xs.map (·.1)).Nodup)(mem:∀l n,(l,n)∈xs↔n=(ps.count (e,l):Int)/\0<n):(xs.map (·.2)).sum=(tot ps e:Int):=by
 have h:=zGL (ps.filter fun p=>decide (p.1=e)) (xs.map fun p=>(e,p.1)) ?_ ?_
 ·unfold tot
  rw[<-h,aP]
  congr 1
  apply cj
  rintro⟨l,n⟩ hm
  have:=((mem l n).mp hm).1
  show n=(iH (e,l) (ps.filter fun p=>decide (p.1=e)):Int)
  rw[oa (by simp)]
  exact this
 ·have:=nd
  rw[sM,cx]at this⊢
  exact this.imp fun{p q} a z=>a (congrArg jx z)
 ·rintro⟨c,l⟩ hm
  obtain⟨d,f⟩:=aQ.mp hm
  have b:c=e:=by simpa using f
  subst b
  exact az.mpr ⟨(l,(ps.count (c,l):Int)),(mem l _).mpr ⟨rfl,by
   have:=cK.mpr d
   omega⟩,rfl⟩
def yE (ps:List (S×S))(e:S):List (S×Int):=(zL (vH ps) e).getD []
theorem jA (ps:List (S×S))(e:S):((yE ps e).map (·.1)).Nodup:=by
 unfold yE
 cases g:zL (vH ps) e with
 |none=>simp
 |some row=>exact(yT ps).ndr e row ((vG (yT ps).nd e row).mpr g)
theorem zAs (ps:List (S×S))(e l:S):zL (yE ps e) l=if 0<ps.count (e,l)then some (ps.count (e,l):Int)else none:=(yT ps).val e l
theorem zBk (ps:List (S×S))(e l:S)(n:Int):(l,n)∈yE ps e↔n=(ps.count (e,l):Int)/\0<n:=by
 rw[vG (jA ps e),zAs]
 by_cases c:0<ps.count (e,l)
 ·rw[if_pos c]
  constructor
  ·intro z
   have:=ay z
   omega
  ·rintro⟨z,_⟩;rw[z]
 ·rw[if_neg c]
  constructor
  ·intro z;cases z
  ·rintro⟨a,b⟩;omega
theorem zBl (ps:List (S×S))(e:S):((yE ps e).map (·.2)).sum=(tot ps e:Int):=zLz (jA ps e) (zBk ps e)
theorem tot_le (ps:List (S×S))(e:S):tot ps e<=ps.length:=bj ..
structure Cst2 (K:ae) (mg:Str->Option ag):Prop where
 nought:∃a,mg "NOUGHT"=some (.ref a)/\∀H,yN K H a [.int 0,.int 1]
 whole:∃a,mg "WHOLE"=some (.ref a)/\∀H,yN K H a [.int 1,.int 1]
section
variable{P:aJ}{w:aV}{K:ae}{mg:Str->Option ag}{base:bC}
abbrev zDO:cp:=top 30
theorem zMA:FnScope ["row","letter"] ["row","letter"] (defScope zDO):=yD
theorem zMB {X:Cx}(c:ae){pos:Pos}{a:List bV}{k:Nat}{t:kX}(n:Nat)(d:X.K=c)(e:X.calm=true)(h:PGs X a t)
  (f:(assignEach a X.env).length=n) (b:(assignEach a X.env).findIdx? (·.1)=none):PG X (.Tuple a k pos) (zEw c n t):=by
 subst d
 exact kZ e h f b
theorem qL.get {H:Hp}{d:ah}{ps:List (S×S)}(h:qL H d ps)(e:S):∃kvs:List (zK×V),H d=some (.dK kvs)/\((yM kvs (Sum.inr (tx e))=none/\yE ps e=[])\/∃a,yM kvs (Sum.inr (tx e))=some (.ref a)/\H a=some (.dK (zN (yE ps e)))):=by
 obtain⟨ra,b,f,i⟩:=h
 refine⟨_,f,?_⟩
 rw[v9]
 have nd:(ra.map (·.1)).Nodup:=by
  have h:=(yT ps).nd
  rw[<-b,aP]at h
  exact h
 have c:zL (vH ps) e=(zL ra e).map (·.2):=by
  rw[<-b]
  exact zGZ (fun v:ah×List (S×Int)=>v.2) ra e
 cases g:zL ra e with
 |none=>exact .inl ⟨rfl,by unfold yE;rw[c,g];rfl⟩
 |some v=>
  refine .inr ⟨v.1,rfl,?_⟩
  have:=i _ ((vG nd e v).mpr g)
  unfold yE
  rw[c,g]
  exact this
theorem zMC (o:Nat)(nm:S):(yG o nm).length=nm.length+1:=by simp[yG]
end
theorem zMD {ps:List (S×S)}(b:1<=ps.length)(a:List (S×S)):(qX ps a).2<=((ps.length^a.length:Nat):Int):=by
 have:=zGV b a (1,1) 0 zBe (by simp)
 rw[rh]at this
 rw[Int.natCast_pow]
 exact this
theorem zME (ps a:List (S×S))(p:S×S):qX ps (a++[p])=uQ (qX ps a) (zS ps p.1 p.2):=by
 unfold qX;rw[cI];rfl
theorem Sm.of_le {q:Int×Int}(h:Fq q)(b:q.1<=q.2)(a:q.2<1073741824):Sm q:=⟨h,by omega,a⟩
theorem zMF {ps:List (S×S)}{o:Nat}{nm:S}(a:1<=ps.length)(h:ps.length^(nm.length+1)<1073741824):Sm (yX ps o nm):=by
 refine .of_le (zLj ..) (zLk ..) ?_
 have:=zMD a (yG o nm)
 rw[zMC]at this
 unfold yX
 omega
section
variable{P:aJ}{w:aV}{K:ae}{mg:Str->Option ag}{base:bC}
structure Bk (bk:List S) (o:Nat):Prop extends isBk bk where
 o1:1<=o
 o3:o<=3
structure Fit (bk:List S) (o:Nat) (x:S):Prop extends Bk bk o where
 nmn:q8 x
 pw:(zC o bk).length^(x.length+1)<1073741824
theorem Bk.l8 {bk:List S}{o:Nat}(h:Bk bk o):∀x∈bk,x.length<=8:=fun x a=>(h.nm x a).2.1
theorem zDP {bk:List S}{o:Nat}(h:Bk bk o):1<=(zC o bk).length/\(zC o bk).length<1000:=by
 have e:=zAp o bk
 have go:∀l:List S,(∀x∈l,x.length<=8)->(l.length:Int)<=(l.map fun x=>(x.length:Int)+1).sum/\(l.map fun x=>(x.length:Int)+1).sum<=9*(l.length:Int):=by
  intro l
  induction l with
  |nil=>intro _;simp
  |cons x r ih=>
   intro hl
   have a:=hl x (aj ..)
   have b:=ih fun y c=>hl y (ar _ c)
   rw[aF,bb,bg]
   have:((r.length+1:Nat):Int)=(r.length:Int)+1:=rfl
   omega
 have:=go bk h.l8
 have a:=h.lo
 have b:=h.hi
 omega
end
theorem zGh (x:Str):tx x.cps.toList=x:=by
 apply MyS.Str_ext
 simp[tx]
theorem zGi (l:List Str):(l.map fun x=>x.cps.toList).map tx=l:=by
 rw[aP]
 conv=>rhs;rw[<-mW l]
 apply cj
 intro x _
 exact zGh x
section
variable{P:aJ}{w:aV}{K:ae}{mg:Str->Option ag}{base:bC}
theorem gQ {X:Cx}(e:ae)(g:X.K=e){o:bV}{f:TE}{name:Str}{apos a:Pos}{T id:String}{r:V->List V->Hp->VK->Prop}(h:pz T)(slot:Slot T name id)(d:typeOf (.builtin id)=pure (.type "method_descriptor"))(hm:MtR X id r)(i:PE X o f)
  (b:attributeBase o name X.env (eval o X.env)=eval o X.env:=by rfl) (c:(apos.endLine==a.line)=true:=by rfl):PE X (.Call (.Attribute o name apos) [] [] a) (zFV e T r f):=by
 subst g
 exact zKT h slot d hm i b c
end
theorem zAP {c A B:Prop} [Decidable c] (a:¬c)(h:A):if(!decide c)=true then A else B:=by
 rw[decide_eq_false a];exact h
section
variable{P:aJ}{w:aV}{K:ae}{mg:Str->Option ag}{base:bC}
theorem zDQ {H:Hp}:∀ns:List Int,Reps K H (ns.map PyData.int) (ns.map V.int)
 | []=>rfl
 |n::ns=>⟨_,_,rfl,rfl,zDQ ns⟩
theorem zGj:∀ns:List Int,cY (ns.map PyData.int)=true
 | []=>rfl
 |n::ns=>by rw[aF];simp only[cY,fQ,zGj ns,gf]
def zGk (K:ae):Sp:=fun vs H Q _=>∃(a:ah) (ns:List Int) (k:Nat),vs=[.ref a,.int k]/\yL K H a (ns.map V.int)/\ns.length<=63/\∀(i:Int) H',zA H H'->Q (.int i) H'
abbrev zDR:cp:=top 54
theorem zMG:FnScope ["_law_script","_law_k"] ["_law_script","_law_k"] (defScope zDR):=yD
theorem zDS (ns:List Int):fV (.list (ns.map PyData.int))=true:=by
 unfold fV
 have a:(PyData.list (ns.map PyData.int)).canLay0=true:=by simp only[fQ];exact zGj ns
 have b:(PyData.list (ns.map PyData.int)).depth<=64:=by
  have go:∀ns:List Int,fG (ns.map PyData.int)<=1:=by
   intro ns
   induction ns with
   |nil=>decide
   |cons n ns ih=>rw[aF];simp only[fG,je];omega
  have:=go ns
  simp only[je];omega
 rw[a,decide_eq_true b];rfl
theorem zMH {f:ah}{fd:aX}(F:Fun K "_law_cell" "_law_cell" zDR f fd)(B:Blt mg):FnOk P w K mg base z7 1 f fd ["_law_script","_law_k"] (zGk K):=by
 refine F.ok zMG (fun vs H Q E h=>?_) (fun g A outer s H vs Q E i h=>?_)
 ·obtain⟨a,ns,k,rfl,_⟩:=h;rfl
 ·obtain⟨a,ns,n,rfl,e,hl,k⟩:=h
  have j:=i.units
  refine⟨_,zJ (vX (vJ (zFr j) (pv 0) (vK zD) (vD _)) (zO (zZ (zR qQ zI (pv 1)))) vV)
   (zO (zZ (zR y0 (uY zAG (pv 0) (zR k6 (pv 1) (yH zAm (by rfl) B.len cu (zB (pv 0) zD))) (fun _ _=>rfl))
    (zR qQ zI (zR zAC (pv 1) (yH zAm (by rfl) B.len cu (zB (pv 0) zD))))))),?_⟩
  refine⟨_,rfl,by show 0<=sizeLine;decide,fun p l=>?_⟩
  have c:zA H (upd H p (.lst [])):=zA.upd1 l
  refine⟨.list (ns.map PyData.int),.list [],⟨a,_,rfl,c.seq e,zDQ ns⟩,⟨p,[],rfl,.of zF,rfl⟩,zDS ns,rfl,_,rfl,?_⟩
  cases ns with
  |nil=>exact vM ⟨_,rfl,7,n,rfl,rfl,.inl ⟨by decide,by decide⟩,k _ _ c⟩
  |cons m ns=>
   refine uH ?_
   have b:((m::ns).map V.int).length=ns.length+1:=by simp
   have o:ns.length+1<=63:=by simpa using hl
   have hm:((n:Int)%(((m::ns).map V.int).length:Int))=((n%(ns.length+1):Nat):Int):=by rw[b];rfl
   have d:n%(ns.length+1)<((m::ns).map V.int).length:=by rw[b];exact sN _ (Nat.succ_pos _)
   refine⟨_,rfl,_,rfl,_,rfl,a,_,rfl,.inl (c.seq e),_,_,rfl,rfl,by rw[b];omega,?_⟩
   refine⟨a,_,_,.int ((m::ns)[n%(ns.length+1)]'(by simpa using d)),rfl,rfl,c.seq e,?_,?_⟩
   ·rw[hm]
    refine jF ?_
    rw[aq,aG (by simpa using d)];rfl
   ·exact⟨_,rfl,_,rfl,a,_,rfl,.inl (c.seq e),_,_,rfl,rfl,⟨by rw[b];omega,by rw[b];omega⟩,_,_,rfl,rfl,.inl ⟨by decide,by decide⟩,_,_,rfl,rfl,k _ _ c⟩
theorem lt0 {d:Int}(h:0<d):0<d:=h
theorem cmE {t d q:Int}(h:0<d)(a:d<18446744073709551616):zAB (t%d) q:=by
 have b:=iZ t (show d≠0 by omega)
 have c:=gs t h
 exact .inl ⟨by omega,by omega⟩
def zDT (K:ae):Sp:=fun vs H Q _=>∃(a:ah) (ns:List Int) (k m:Nat),vs=[.ref a,.int k,.int m]/\yL K H a (ns.map V.int)/\ns.length<=63/\1<=m/\m<100000/\∀(i:Nat) H',i<m->zA H H'->Q (.int i) H'
abbrev zDU:cp:=top 55
theorem zGl:FnScope ["_law_script","_law_k","_law_many","_law_cell_here"] ["_law_script","_law_k","_law_many"] (defScope zDU):=yD
theorem zMI {f:ah}{fd:aX}(F:Fun K "_law_drawn" "_law_drawn" zDU f fd)(b:zY P w K mg base 1 "_law_cell" ["_law_script","_law_k"] (zGk K)):FnOk P w K mg base z7 2 f fd ["_law_script","_law_k","_law_many"] (zDT K):=by
 refine F.ok zGl (fun vs H Q E h=>?_) (fun c A outer s H vs Q E d h=>?_)
 ·obtain⟨a,ns,k,m,rfl,_⟩:=h;rfl
 ·obtain⟨a,ns,n,m,rfl,g,hl,j,l,k⟩:=h
  have nd:=zGl.nd
  refine⟨_,zJ (zV (i:=3) nd rfl (Or.inl rfl) (zR k6 (zR y0 (zR qQ (zR k6 (zU b d rfl (zB (pv 0) (zB (pv 1) zD))) zI) zI) (zR qQ zI (zR y0 (pv 1) zI))) zI))
   (zJ (zV (i:=3) nd rfl (Or.inl rfl) (zR k6 (zR y0 (zR qQ (pv 3) (pv 3)) (zR zAC (pv 3) zI)) zI))
   (zO (zZ (zR k6 (zR zAC (zR k6 (zR y0 (zR qQ (pv 3) (pv 3)) (zR zAC (pv 3) zI)) zI) zI) (pv 2))))),?_⟩
  refine⟨_,rfl,_,rfl,a,ns,n,rfl,g,hl,fun i H' o=>?_⟩
  have fin:∀z:Int,Q (.int (z%(m:Int))) H':=fun z=>by
   have p:0<=z%(m:Int):=iZ _ (by omega)
   have q:z%(m:Int)<m:=gs _ (by omega)
   have e:z%(m:Int)=((z%(m:Int)).toNat:Int):=(Int.toNat_of_nonneg p).symm
   rw[e]
   exact k _ _ (by omega) o
  refine⟨_,_,rfl,rfl,lt0 (by decide),_,_,rfl,rfl,.inr ⟨by decide,by decide⟩,?_⟩
  refine⟨_,rfl,_,_,rfl,rfl,_,_,rfl,rfl,.inl ⟨by decide,by decide⟩,_,_,rfl,rfl,_,_,rfl,rfl,lt0 (by decide),?_⟩
  refine⟨_,rfl,_,rfl,_,_,rfl,rfl,cmE (by decide) (by decide),_,rfl,_,_,rfl,rfl,⟨by decide,by decide⟩,_,_,rfl,rfl,_,_,rfl,rfl,lt0 (by decide),?_⟩
  refine⟨_,rfl,_,rfl,_,_,rfl,rfl,cmE (by decide) (by decide),_,rfl,_,_,rfl,rfl,⟨by decide,by decide⟩,_,_,rfl,rfl,_,_,rfl,rfl,lt0 (by decide),_,_,rfl,rfl,⟨by decide,by decide⟩,_,rfl,_,_,rfl,rfl,?_,fin _⟩
  show(0:Int)<(m:Int)
  omega
def zGm (K:ae):Sp:=fun vs H Q _=>∃(a:ah) (ns:List Int) (at' most:Nat),vs=[.ref a,.int at',.int most]/\yL K H a (ns.map V.int)/\ns.length<=63/\1<=most/\most<=8/\
 ∀(x:S) H',zA H H'->q8 x->(x.length<=most/\∀c∈x,(c=97\/c=98\/c=122))->Q (sv x) H'
abbrev zDV:cp:=top 56
theorem zGn:FnScope ["_law_script","_law_at","_law_most","_law_size","_law_letters"] ["_law_script","_law_at","_law_most"] (defScope zDV):=yD
theorem ndN:(["_law_letters","_law_script","_law_at","_law_k"]:List Str).Nodup:=by decide+kernel
abbrev cDr (P:aJ)(w:aV)(K:ae)(mg:Str->Option ag)(base:bC):Prop:=zY P w K mg base 2 "_law_drawn" ["_law_script","_law_k","_law_many"] (zDT K)
theorem zMJ {f:ah}{fd:aX}(F:Fun K "_law_name" "_law_name" zDV f fd)(B:Blt mg)(v:cDr P w K mg base):FnOk P w K mg base z7 3 f fd ["_law_script","_law_at","_law_most"] (zGm K):=by
 refine F.ok zGn (fun vs H Q E h=>?_) (fun ac A outer s H vs Q E G h=>?_)
 ·obtain⟨a,ns,k,m,rfl,_⟩:=h;rfl
 ·obtain⟨a,ns,n,m,rfl,I,hl,J,al,k⟩:=h
  have nd:=zGn.nd
  refine⟨_,zJ (zV (i:=3) nd rfl (Or.inl rfl) (zR y0 zI (zU v G rfl (zB (pv 0) (zB (pv 1) (zB (pv 2) zD))))))
   (zJ (zV (i:=4) nd rfl (Or.inr rfl) (uY zAG (vK (zB vB (zB vB (zB vB zD)))) (zU v G rfl (zB (pv 0) (zB (zR y0 (pv 1) zI) (zB zI zD)))) (fun _ _=>rfl)))
   (zO (zZ (gL PySem.F.plainAttrs_str PySem.F.slot_str_join PySem.F.type_str_join zLO vB (zB
    (vE (N:=["_law_letters","_law_script","_law_at","_law_k"]) (caps:=[4,0,1]) rfl (y9 (by kernel_rfl)) (jD rfl B.range (zB (pv 3) zD))
     (fun cl C s H ex=>z0 (i:=3) ndN rfl (Or.inl rfl)) (fun cl C s H ex=>uI)
     (fun cl C s H ex=>uY zKQ (pv 0) (zU v G rfl (zB (pv 1) (zB (zR y0 (zR y0 (pv 2) zI) (pv 3)) (zB (yH jZ (by rfl) B.len cu (zB (pv 0) zD)) zD)))) (fun _ _=>rfl))) zD))))),?_⟩
  refine⟨_,rfl,_,rfl,_,rfl,a,ns,n,m,rfl,I,hl,J,by omega,fun sz R hsz T=>?_⟩
  refine⟨_,_,rfl,rfl,?_⟩
  refine⟨by show 3<=sizeLine;decide,fun p hp=>?_⟩
  have U:zA R (upd R p (.lst [.str "ab",.str "ab",.str "abz"])):=zA.upd1 hp
  refine⟨_,rfl,_,rfl,_,_,rfl,rfl,a,ns,n+9,3,rfl,U.seq (T.seq I),hl,by decide,by decide,fun li H3 M W=>?_⟩
  have o:=(T.trans U).trans W
  obtain⟨L,X,e⟩:∃L:S,(L=[97,98]\/L=[97,98,122])/\([.str "ab",.str "ab",.str "abz"]:List V)[li]?=some (sv L):=by
   match li,M with
   |0,_=>exact⟨[97,98],.inl rfl,rfl⟩
   |1,_=>exact⟨[97,98],.inl rfl,rfl⟩
   |2,_=>exact⟨[97,98,122],.inr rfl,rfl⟩
  refine⟨p,_,_,sv L,rfl,rfl,.of (W _ _ zF),jF e,?_⟩
  refine⟨rfl,_,rfl,_,rfl,by omega,by omega,?_⟩
  have am:L.length=2\/L.length=3:=by rcases X with h|h<;>subst h<;>simp
  have O:∀c∈L,(97<=c/\c<=122)/\(c=97\/c=98\/c=122):=by rcases X with h|h<;>subst h<;>decide
  have r:(1+(sz:Int)).toNat=sz+1:=by omega
  refine uP (uZ 0 _) [some (sv L),some (.ref a),some (.int n)] 1 (by rw[aa,bO,r];omega) (fun i l H'=>zA H3 H'/\∃b:S,l=b.map (fun c=>V.str (tx [c]))/\b.length=i/\∀c∈b,(97<=c/\c<=122)/\(c=97\/c=98\/c=122))
   ⟨zA.refl _,[],rfl,rfl,by simp⟩ (fun i l H' _ h=>⟨trivial,by obtain⟨_,b,rfl,h,_⟩:=h;rw[aa];omega⟩) ?_ ?_
  ·rintro i x l H' ys Nx hN Y hy ⟨sm,b,rfl,g,d⟩
   obtain⟨y,rfl⟩:=ys1 hy
   rw[r]at Y
   obtain⟨hi,rfl⟩:=jK Y
   refine⟨_,rfl,_,rfl,_,rfl,_,_,rfl,rfl,_,rfl,_,_,rfl,rfl,_,rfl,tx L,rfl,by rw[yB,aR];omega,?_⟩
   rw[yB]
   refine⟨a,ns,n+1+i,L.length,rfl,(o.trans sm).seq I,hl,by omega,by omega,fun j H5 Z s5=>?_⟩
   refine⟨tx L,_,L[j],rfl,rfl,by rw[yB,aR];omega,?_,?_⟩
   ·rw[qZ]
    exact jF (aG Z)
   ·refine hN _ _ [some (.int i)] rfl ⟨sm.trans s5,b++[L[j]],by rw[aC];rfl,by rw[aE,g];rfl,fun c t=>?_⟩
    rcases bG.mp t with z|z
    ·exact d c z
    ·have:c=L[j]:=by simpa using z
     rw[this]
     exact O _ (dh Z)
  ·rintro l H' ⟨sm,b,rfl,g,d⟩ D hD
   rw[aa,bO,r]at g
   have q:((b.map fun c=>tx [c]).map (·.length)).sum=b.length:=by
    clear g d
    induction b with
    |nil=>rfl
    |cons c b ih=>rw[aF,aF,bb,ih,bg,yB];show 1+_=_;omega
   refine⟨_,D,b.map (fun c=>tx [c]),rfl,rfl,.of (by rw[zF,aP];rfl),?_,?_⟩
   ·rw[q]
    show _+_*0<=_
    omega
   ·have ej:n4 ⟨#[]⟩ (b.map fun c=>tx [c])=tx b:=by
     rw[zLQ,aP]
     congr 1
     clear g d q
     congr 1
     induction b with
     |nil=>rfl
     |cons c b ih=>rw[aF,eP,ih];rfl
    have kk:∀u,zA H u->Q (.str (n4 ⟨#[]⟩ (b.map fun c=>tx [c]))) u:=fun u sx=>by
     rw[ej]
     exact k b u sx ⟨by omega,by omega,fun c t=>(d c t).1⟩ ⟨by omega,fun c t=>(d c t).2⟩
    exact kk _ ((o.trans sm).trans (zA.upd1 hD))
def zGo (K:ae):Sp:=fun vs H Q _=>∃(a:ah) (ns:List Int) (at' many most:Nat),vs=[.ref a,.int at',.int many,.int most]/\yL K H a (ns.map V.int)/\ns.length<=63/\1<=many/\many<=8/\1<=most/\most<=8/\
 ∀(p:ah) (bk:List S) H',zA H H'->H' p=some (.tup (zP bk))->1<=bk.length->bk.length<=many->(∀x∈bk,q8 x/\x.length<=most/\∀c∈x,c=97\/c=98\/c=122)->Q (.ref p) H'
abbrev zDW:cp:=top 57
theorem zGp:FnScope ["_law_script","_law_at","_law_many","_law_most","_law_found","_law_k"] ["_law_script","_law_at","_law_many","_law_most"] (defScope zDW):=yD
theorem zMK {f:ah}{fd:aX}(F:Fun K "_law_book" "_law_book" zDW f fd)(B:Blt mg)(Z:cDr P w K mg base)(c2:zY P w K mg base 3 "_law_name" ["_law_script","_law_at","_law_most"] (zGm K)):FnOk P w K mg base z7 4 f fd ["_law_script","_law_at","_law_many","_law_most"] (zGo K):=by
 refine F.ok zGp (fun vs H Q E h=>?_) (fun ab A outer s H vs Q E M h=>?_)
 ·obtain⟨a,ns,k,m,l,rfl,_⟩:=h;rfl
 ·obtain⟨a,ns,n,many,d,rfl,N,hl,D,ac,G,I,k⟩:=h
  have nd:=zGp.nd
  have hr2:=M.mono (j:=2) (by decide)
  refine⟨_,zJ (zV (i:=4) nd rfl (Or.inl rfl) (uN zD))
   (zJ (vS bF rfl (jD rfl B.range (zB (zR y0 zI (zU Z hr2 rfl (zB (pv 0) (zB (pv 1) (zB (pv 2) zD))))) zD)) (z0 (i:=5) nd rfl (Or.inl rfl))
    (zO (zV (i:=4) nd rfl (Or.inl rfl) (zR (zLU.or zKK) (pv 4) (uN (zB (zU c2 M rfl (zB (pv 0) (zB (zR y0 (zR y0 (pv 1) zI) (zR qQ zI (pv 5))) (zB (pv 3) zD)))) zD))))))
   (zO (zZ (pv 4)))),?_⟩
  refine⟨by show 0<=sizeLine;decide,fun O J=>?_⟩
  have R:zA H (upd H O (.tup [])):=zA.upd1 J
  refine⟨_,rfl,_,rfl,_,rfl,a,ns,n,many,rfl,R.seq N,hl,D,by omega,fun sz H1 hsz T=>?_⟩
  refine⟨_,_,rfl,rfl,_,rfl,by omega,by omega,?_⟩
  have o:(1+(sz:Int)).toNat=sz+1:=by omega
  refine uU (uZ 0 _) (fun i σ t=>∃(p:ah) (bk:List S) (y:Option V),σ=[some (.ref a),some (.int n),some (.int many),some (.int d),some (.ref p),y]/\zA H t/\t p=some (.tup (zP bk))/\bk.length=i/\∀x∈bk,q8 x/\x.length<=d/\∀c∈x,c=97\/c=98\/c=122)
   ⟨O,[],_,rfl,R.trans T,T _ _ zF,rfl,by simp⟩ (fun _ _ _ _ _=>trivial) ?_ ?_
  ·rintro i x σ t Nx U W ⟨p,bk,y,rfl,sm,u,e,g⟩
   rw[o]at W
   obtain⟨hi,rfl⟩:=jK W
   refine⟨_,rfl,_,rfl,_,rfl,_,_,rfl,rfl,_,rfl,_,_,rfl,rfl,.inl ⟨by decide,by decide⟩,_,_,rfl,rfl,_,rfl,a,ns,n+1+10*i,d,rfl,sm.seq N,hl,G,I,fun x X v hx1 hx2=>?_⟩
   refine⟨by show 1<=sizeLine;decide,fun q hq=>?_⟩
   have C:zA X (upd X q (.tup [sv x])):=zA.upd1 hq
   have nx:∀b∈bk++[x],q8 b/\b.length<=d/\∀c∈b,c=97\/c=98\/c=122:=fun b hb=>by
    rcases bG.mp hb with z|z
    ·exact g b z
    ·have:b=x:=by simpa using z
     rw[this];exact⟨hx1,hx2⟩
   cases bk with
   |nil=>exact .inl ⟨p,q,_,rfl,rfl,.of (C _ _ (v _ _ u)),.of zF,U _ _ ⟨q,[x],_,rfl,(sm.trans v).trans C,zF,by rw[<-e];rfl,nx⟩⟩
   |cons c Y=>
    refine .inr ⟨p,q,_,_,rfl,rfl,.of (C _ _ (v _ _ u)),.of zF,by simp[zP],?_,fun z=>by simp at z,fun _ r L=>U _ _ ⟨r,(c::Y)++[x],_,rfl,((sm.trans v).trans C).trans (zA.upd1 L),?_,by rw[aE,e];rfl,nx⟩⟩
    ·have:(zP (c::Y)).length=i:=by rw[<-e];simp[zP]
     rw[this,aR]
     show i+1<=_
     omega
    ·rw[zF]
     unfold zP
     rw[aC];rfl
  ·rintro σ t ⟨p,bk,y,rfl,sm,u,e,g⟩
   rw[aa,bO,o]at e
   exact⟨_,rfl,k p bk t sm u (by omega) (by omega) g⟩
end
section
variable{X:Cx}{tg:bV}
theorem zML (a:ae)(b:X.K=a):uG X (.type "list") (fun xs H Q=>∃p ys,xs=[.ref p]/\(yL a H p ys\/yN a H p ys)/\∀l,H l=none->Q (.ref l) (upd H l (.lst ys))):=by
 subst b;exact zKS
end
theorem zBm (a b:S):tx a++tx b=tx (a++b):=by
 apply MyS.Str_ext
 show((tx a).cps++(tx b).cps).toList=_
 simp[tx]
theorem zAt {d:bW}{A B:Prop}(hd:d.canLay0=true)(h:B):if(if true=true then !PyData.eqv d d else eY d d)=true then A else B:=by
 rw[zCj d hd];exact h
theorem zGq {t:S}(h:∀c∈t,c<=122):rq (tx t)=true:=by
 unfold rq
 rw[Array.all_eq_true']
 intro c b
 have a:c∈t:=by simpa [tx]using b
 have:=h c a
 exact decide_eq_true (by omega)
theorem zBn {ds:List bW}(h:∀d∈ds,d.canLay0=true/\d.depth<=10):fV (.list ds)=true/\(PyData.list ds).canLay0=true:=by
 have f:cY ds=true:=by
  induction ds with
  |nil=>rfl
  |cons d ds ih=>simp only[cY,(h d (aj ..)).1,ih fun e c=>h e (ar _ c),gf]
 have j:fG ds<=10:=by
  clear f
  induction ds with
  |nil=>decide
  |cons d ds ih=>
   have a:=(h d (aj ..)).2
   have b:=ih (fun e c=>h e (ar _ c))
   simp only[fG];omega
 have g:(PyData.list ds).canLay0=true:=by simp only[fQ];exact f
 have i:(PyData.list ds).depth<=64:=by simp only[je];omega
 unfold fV
 rw[g,decide_eq_true i];exact⟨rfl,rfl⟩
section
variable{K:ae}
theorem zAQ {H:Hp}{a:ah}{xs:List V}{ds:List bW}(h:H a=some (.lst xs))(b:Reps K H ds xs):yQ K H (.list ds) (.ref a):=⟨a,xs,rfl,.of h,b⟩
end
structure Blt2 (mg:Str->Option ag):Prop where
 max:mg "max"=none
 dict:mg "dict"=none
 list:mg "list"=none
end Kn
end
section
namespace L2
open PySem PySem.Spec PyProof.Rows
theorem z9.freeze {P:aJ}{w:aV}{H:Hp}{h:bC}{a:ah}{o:Obj}{kvs:List (zK×V)}(x:z9 P w H h)(e:H a=some (.dK kvs))(g:h.get? a=some o):z9 P w (upd H a (.frz o (.dK kvs))) h:=fun b u d=>by
 by_cases f:b=a
 ·subst f;rw[zF]at d;cases d
  exact⟨g,x b _ e⟩
 ·rw[zG f]at d
  refine(x b u d).stay (fun c v _ q=>q) (fun c q=>?_) fun c xs q=>?_
  ·rw[zG (by rintro rfl;rw[e]at q;cases q)];exact q
  ·rw[zG (by rintro rfl;rw[e]at q;cases q)];exact q
theorem zGr {P:aJ}{w:aV}{k:zK}{u:ag}(h:(vF P w).is k u=true):zQ (kV k) u:=by
 rw[zJK]at h
 rcases qB h with⟨i,t,rfl,rfl⟩|⟨x,t,rfl,rfl⟩
 ·exact⟨_,rfl⟩
 ·exact⟨_,rfl⟩
theorem zBo {α β:Type}{F:α->β->Prop}:∀{l₁:List α}{c:List β}{i:Nat}{x:α},nH F l₁ c->l₁[i]?=some x->∃y,c[i]?=some y/\F x y
 | [],_,i,x,_,h=>by simp at h
 |a::l,[],i,x,p,_=>by cases p
 |a::l,b::m,0,x,p,h=>by
  cases p with
  |cons d e=>cases h;exact⟨b,rfl,d⟩
 |a::l,b::m,i+1,x,p,h=>by
  cases p with
  |cons d e=>
   obtain⟨y,f,g⟩:=zBo (i:=i) (x:=x) e (by simpa using h)
   exact⟨y,by simpa using f,g⟩
def Itd (a:ah)(o:Obj)(kvs:List (zK×V)):It where
 go:=fun i H=>H a=some (.frz o (.dK kvs))/\i<kvs.length
 yld:=fun i H x H'=>H'=H/\(kvs.map fun p=>kV p.1)[i]?=some x
 stop:=fun i H=>H a=some (.frz o (.dK kvs))/\kvs.length<=i
theorem zBp (a:ah)(o:Obj)(kvs:List (zK×V)):Known (Itd a o kvs) (kvs.map fun p=>kV p.1) (fun H=>H a=some (.frz o (.dK kvs))) :=
 ⟨fun i H h hi=>⟨h,by simpa using hi⟩,fun i H x H' h y=>⟨y.1,fun _=>y.2⟩,fun H h=>⟨h,by simp⟩⟩
theorem zMM {P:aJ}{w:aV}{K:ae}{tg:bV}(a it:ah)(o:Obj)(kvs:List (zK×V))(n ep:Nat)(hn:n=kvs.length)(B:∃M,o.data=.dict M ep):Turn P w K tg (Itd a o kvs) [it] it (fun i h=>h.IsKeyIter it a i n ep) where
 mem:=by simp
 obj:=fun i h st b r=>by
  have e:b=it:=by simpa using r
  subst e
  obtain⟨o,e,c,d⟩:=st
  exact⟨o,e,fun v z=>by rw[d]at z;cases z⟩
 keep:=fun i h h' st k=>st.at fun o e=>k it (by simp) o e
 item:=by
  intro X N O R hc i m s σ H E I J st T
  subst N O R
  obtain⟨g,hi⟩:=T
  obtain⟨z,hS,vs,rel,dd⟩:=uO I.hok (.inr ⟨o,g⟩)
  obtain⟨j,_⟩:=(show s.heap.get? a=some o/\_ from I.hok a _ g)
  obtain⟨t,l⟩:=dd.dictAt
  have u:t=ep:=by
   obtain⟨o',M,C,_,U,_⟩:=id l
   obtain⟨W,D⟩:=B
   rw[j]at C;cases C
   rw[U]at D;injection D
  subst u
  have f:vs.length=n:=by rw[hn];exact(cO rel).symm
  rw[<-f]at st
  obtain⟨Y,f1,f2,Z,f4,f5⟩:=J it (by simp)
  obtain⟨q,L⟩:∃q,vs[i]?=some q:=⟨_,aG (by omega)⟩
  obtain⟨k,v⟩:=q
  refine wpAny_pyNext_dict_item st l L fun key h' F x sb=>?_
  have I1:Inv X m σ H {s with heap:=h'}:=I.turned (t':=s.toks) (fun b o r e=>(sb.2 b r).trans e) Y f1 Z f4 f5
  obtain⟨oi,e,c,d⟩:=id x
  rw[f]at x
  obtain⟨p,hp,e1,e2⟩:∃p,kvs[i]?=some p/\p.1=k/\zQ p.2 v:=by
   have G:i<kvs.length:=hi
   obtain⟨y,hy,hr⟩:=zBo rel (aG G)
   rw[L]at hy;cases hy
   exact⟨_,aG G,hr.1,hr.2⟩
  refine⟨key,rfl,gG (s:={s with heap:=h'}) e c d (by decide) ⟨kV k,H,I1,zGr F,⟨rfl,?_⟩,x,fun b r=>(J b r).1⟩⟩
  rw[aq,hp,<-e1];rfl
 done:=by
  intro X N O R hc i m s σ H E I J st T
  subst N O R
  obtain⟨g,hi⟩:=T
  obtain⟨z,hS,vs,rel,dd⟩:=uO I.hok (.inr ⟨o,g⟩)
  obtain⟨j,_⟩:=(show s.heap.get? a=some o/\_ from I.hok a _ g)
  obtain⟨t,l⟩:=dd.dictAt
  have u:t=ep:=by
   obtain⟨o',M,C,_,U,_⟩:=id l
   obtain⟨W,D⟩:=B
   rw[j]at C;cases C
   rw[U]at D;injection D
  subst u
  have f:vs.length=n:=by rw[hn];exact(cO rel).symm
  rw[<-f]at st
  obtain⟨Y,f1,f2,Z,f4,f5⟩:=J it (by simp)
  refine wpAny_pyNext_dict_end (I.ok.hd hc) st l (by rw[iC];omega) fun h' he=>⟨rfl,?_⟩
  exact I.turned (t':=s.toks) (fun b o r e=>he b o r e) Y f1 Z f4 f5
 self:=fun A i s Q E st L=>wpAny_pyIter_keyiter st L
section
variable{X:Cx}{pins:List (ah×Obj)}{σ:St}{H:Hp}{s:av}{tg:bV}
theorem Inv.freeze {a:ah}{o:Obj}{kvs:List (zK×V)}(I:Inv X pins σ H s)(e:H a=some (.dK kvs))(g:s.heap.get? a=some o):Inv X pins σ (upd H a (.frz o (.dK kvs))) s:=by
 have ne:∀{b:ah} {u:Option HO},H b=u->u≠some (.dK kvs)->b≠a:=fun{b u} q n z=>n (by rw[<-q,z,e])
 refine⟨I.ok,I.os,I.bare,⟨I.base.keep,I.base.slot,fun b d q n h=>?_,I.base.there,fun b xs q=>?_,fun b d u q=>?_,fun b ps q=>?_⟩,I.loc,I.cell,?_,fun x c q=>?_,fun p q=>?_,I.hok.freeze e g,I.len⟩
 ·have:=I.base.free b d q n h
  rw[zG (ne this (by simp))];exact this
 ·have:=I.base.tups b xs q
  rw[zG (ne this (by simp))];exact this
 ·have:=I.base.frzs b d u q
  rw[zG (ne this (by simp))];exact this
 ·obtain⟨m,z⟩:=I.base.tbls b ps q
  exact⟨m,by rw[zG (ne z (by simp))];exact z⟩
 ·have:=I.free
  rw[zG (ne this (by simp))];exact this
 ·have:=I.freeC x c q
  rw[zG (ne this (by simp))];exact this
 ·obtain⟨i,f,j⟩:=I.pin p q
  exact⟨i,by rw[zG (ne f (by simp))];exact f,j⟩
def zDX (tl:TE):TI:=fun σ H R=>tl σ H fun x H1=>∃a kvs,x=.ref a/\H1 a=some (.dK kvs)/\∀o,R (Itd a o kvs) (upd H1 a (.frz o (.dK kvs)))
theorem zAu {l:bV}{m:TE}(hl:PE X l m):PI X tg l (zDX m):=by
 intro pins s σ H R I h
 refine zH (hl pins s σ H _ I h) fun v c ⟨x,n,f,p,r⟩=>?_
 obtain⟨a,kvs,e,g,q⟩:=r
 subst e
 cases p
 obtain⟨z,t,vs,rel,dd⟩:=j4 f.hok g
 obtain⟨ep,d⟩:=dd.dictAt
 obtain⟨o,u,i,_,j,_⟩:=id d
 refine wpAny_pyIter_dict t d ?_
 have w:=(f.freeze g i).kept (t':=c.toks) (h':=c.heap.push {cls:=.type "dict_keyiterator",data:=.fields #[.ref a,.int 0 0,.int vs.length 0,.int ep 0]}) fun b o e=>ai _ e
 refine⟨c.heap.objs.size,[c.heap.objs.size],_,_,upd n a (.frz o (.dK kvs)),rfl,w,zMM a _ o kvs vs.length ep (cO rel).symm ⟨u,j⟩,⟨_,aM _ rfl,rfl,rfl⟩,fun b y=>?_,q o⟩
 have e:b=c.heap.objs.size:=by simpa using y
 subst e
 exact(f.freeze g i).fpOk (aD _) ((f.freeze g i).hok.fresh (aD _))
theorem z9.thaw {P:aJ}{w:aV}{H:Hp}{h:bC}{a:ah}{o:Obj}{kvs:List (zK×V)}(x:z9 P w H h)(e:H a=some (.frz o (.dK kvs))):z9 P w (upd H a (.dK kvs)) h:=fun b u d=>by
 by_cases f:b=a
 ·subst f;rw[zF]at d;cases d
  exact(show h.get? b=some o/\yP P w H h b (.dK kvs)from x b _ e).2
 ·rw[zG f]at d
  refine(x b u d).stay (fun c v _ q=>q) (fun c q=>?_) fun c xs q=>?_
  ·rw[zG (by rintro rfl;rw[e]at q;cases q)];exact q
  ·rw[zG (by rintro rfl;rw[e]at q;cases q)];exact q
theorem Inv.thaw {a:ah}{o:Obj}{kvs:List (zK×V)}{pins':List (ah×Obj)}{g:St}{H':Hp}{s':av}(I:Inv X pins σ H s)(h:Inv X pins' g H' s')(i:H' a=some (.dK kvs))(e:H a=some (.frz o (.dK kvs))):Inv X pins σ (upd H a (.dK kvs)) s:=by
 have ne:∀{b:ah} {u:Option HO},H b=u->u≠some (.frz o (.dK kvs))->b≠a:=fun{b u} q n z=>n (by rw[<-q,z,e])
 refine⟨I.ok,I.os,I.bare,⟨I.base.keep,I.base.slot,fun b d q n j=>?_,I.base.there,fun b xs q=>?_,fun b d u q=>?_,fun b ps q=>?_⟩,I.loc,I.cell,?_,fun x c q=>?_,fun p q=>?_,I.hok.thaw e,I.len⟩
 ·have:=I.base.free b d q n j
  rw[zG (ne this (by simp))];exact this
 ·have:=I.base.tups b xs q
  rw[zG (ne this (by simp))];exact this
 ·have:=I.base.frzs b d u q
  rw[zG (by rintro rfl;have:=h.base.frzs _ d u q;rw[i]at this;cases this)];exact this
 ·obtain⟨m,z⟩:=I.base.tbls b ps q
  exact⟨m,by rw[zG (ne z (by simp))];exact z⟩
 ·have:=I.free
  rw[zG (ne this (by simp))];exact this
 ·have:=I.freeC x c q
  rw[zG (ne this (by simp))];exact this
 ·obtain⟨l,f,r⟩:=I.pin p q
  exact⟨l,by rw[zG (ne f (by simp))];exact f,r⟩
def zDY (t:TE):TE:=fun σ H Q=>∃a kvs,H a=some (.dK kvs)/\t σ H fun y H'=>∃o,H' a=some (.frz o (.dK kvs))/\Q y (upd H' a (.dK kvs))
theorem zAR {e:bV}{t:TE}(b:PE X e t):PE X e (zDY t):=by
 intro pins s σ H Q I h
 obtain⟨a,kvs,c,h⟩:=h
 exact zH (b pins s σ H _ I h) fun u g ⟨y,H',d,r,o,f,q⟩=>⟨y,_,d.thaw I c f,r,q⟩
end
theorem zMN:entryFor table "dict_itemiterator.__iter__"=some dk.«dict_keyiterator.__iter__» :=
 mX (id' :="dict_keyiterator.__iter__") (by kernel_rfl) rfl (by decide+kernel) (by kernel_rfl)
def gD (a:ah)(o:Obj)(kvs:List (zK×V)):It where
 go:=fun i H=>H a=some (.frz o (.dK kvs))/\i<kvs.length
 yld:=fun i H x H'=>∃T q,x=.ref T/\H T=none/\H'=upd H T (.tup [kV q.1,q.2])/\kvs[i]?=some q
 stop:=fun i H=>H a=some (.frz o (.dK kvs))/\kvs.length<=i
theorem zMO {P:aJ}{w:aV}{K:ae}{x:List bV}{k:Nat}{pos:Pos}(a it:ah)(o:Obj)(kvs:List (zK×V))(n ep:Nat)(hn:n=kvs.length)(B:∃es,o.data=.dict es ep) :
  Turn P w K (.Tuple x k pos) (gD a o kvs) [it] it (fun i h=>∃ok m,IsItemIter h it a i n ep ok m) where
 mem:=by simp
 obj:=fun i h st b l=>by
  have e:b=it:=by simpa using l
  subst e
  obtain⟨ok,m,st⟩:=st
  exact⟨_,st,fun v z=>by
   have z':Data.fields _=Data.cell v:=z
   cases z'⟩
 keep:=fun i h h' st kk=>let⟨ok,m,st⟩:=st;⟨ok,m,kk it (by simp) _ st⟩
 item:=by
  intro X hP hw hK hc i C s σ H E I Y st hg
  subst hP hw hK
  obtain⟨d,hi⟩:=hg
  obtain⟨ok,m,st⟩:=st
  obtain⟨z,hS,vs,rel,dd⟩:=uO I.hok (.inr ⟨o,d⟩)
  obtain⟨f,_⟩:=(show s.heap.get? a=some o/\_ from I.hok a _ d)
  obtain⟨r,j⟩:=dd.dictAt
  have t:r=ep:=by
   obtain⟨o',es,D,_,u,_⟩:=id j
   obtain⟨ab,G⟩:=B
   rw[f]at D;cases D
   rw[u]at G;injection G
  subst t
  have c:vs.length=n:=by rw[hn];exact(cO rel).symm
  rw[<-c]at st
  obtain⟨q,Z⟩:∃q,vs[i]?=some q:=⟨_,aG (by omega)⟩
  obtain⟨k,v⟩:=q
  obtain⟨p,hp,e1,e2⟩:∃p,kvs[i]?=some p/\p.1=k/\zQ p.2 v:=by
   have J:i<kvs.length:=hi
   obtain⟨y,hy,hr⟩:=zBo rel (aG J)
   rw[Z]at hy;cases hy
   exact⟨_,aG J,hr.1,hr.2⟩
  refine wpAny_pyNext_items_item st j Z fun key h' L M N hsz hk=>?_
  refine⟨_,rfl,wpAny_letOwnedTupleGo_items M fun u O R=>?_⟩
  have T:s.heap.get? s.heap.objs.size=none:=by
   cases g:s.heap.get? s.heap.objs.size with
   |none=>rfl
   |some o=>exact absurd (aI g) (bP _)
  have U:it<s.heap.objs.size:=aI st
  have ac:u.get? s.heap.objs.size=some {cls:=.type "tuple",data:=.seq #[key,v]}:=(R.2 _ (eI U)).trans N
  refine⟨.ref s.heap.objs.size,upd H s.heap.objs.size (.tup [kV p.1,p.2]),I.turnedT (fp:=[it]) (h':=u) (t':=s.toks) (fun b ob l q=>?_) Y T ⟨by show 2<=sizeLine;decide,[key,v],.cons (by rw[e1];exact zGr L) (.cons e2 .nil),⟨_,ac,rfl,_,rfl⟩⟩,rfl,
   ⟨_,p,rfl,I.hok.free T,rfl,hp⟩,⟨_,_,by rw[c]at O;exact O⟩,fun b l=>?_⟩
  ·have W:b≠it:=fun z=>l (by simp[z])
   exact(R.2 b W).trans (hk b ob W q)
  ·rw[zG]
   ·exact(Y b l).1
   ·rintro rfl
    have z':s.heap.objs.size=it:=by simpa using l
    exact absurd U (by rw[z'];exact bP _)
 done:=by
  intro X hP hw hK hc i C s σ H E I Y st hg
  subst hP hw hK
  obtain⟨d,hi⟩:=hg
  obtain⟨ok,m,st⟩:=st
  obtain⟨z,hS,vs,rel,dd⟩:=uO I.hok (.inr ⟨o,d⟩)
  obtain⟨f,_⟩:=(show s.heap.get? a=some o/\_ from I.hok a _ d)
  obtain⟨r,j⟩:=dd.dictAt
  have t:r=ep:=by
   obtain⟨o',es,D,_,u,_⟩:=id j
   obtain⟨ab,G⟩:=B
   rw[f]at D;cases D
   rw[u]at G;injection G
  subst t
  have c:vs.length=n:=by rw[hn];exact(cO rel).symm
  rw[<-c]at st
  obtain⟨f0,f1,f2,f3,f4,f5⟩:=Y it (by simp)
  refine wpAny_pyNext_items_end (I.ok.hd hc) st j (by rw[iC];omega) fun h' he=>⟨rfl,?_⟩
  exact I.turned (t':=s.toks) (fun b o l e=>he b o l e) f0 f1 f3 f4 f5
 self:=fun A i s Q E st Z=>by
  obtain⟨ok,m,st⟩:=st
  have N:s.TypeIs (.ref it) "dict_itemiterator" :=⟨_,st,rfl⟩
  refine ku N iP (d9 iP N zMN ?_ (F.args_dict_itemiterator_iter_1 _))
  show wpAny _ _ (ret (.ref it)) _ _ s
  exact aH ⟨_,rfl,"dict_itemiterator",_,N,F.slot_dict_itemiterator_next.lookup,Z⟩
section
variable{X:Cx}{elts:List bV}{kk:Nat}{tpos:Pos}{tg:bV}
def zMP (tl:TE):TI:=fun σ H R=>tl σ H fun x H1=>∃p a kvs,x=.ref p/\H1 p=some (VW p a)/\H1 a=some (.dK kvs)/\∀o,R (gD a o kvs) (upd H1 a (.frz o (.dK kvs)))
theorem zAS {l:bV}{r:TE}(hl:PE X l r):PI X (.Tuple elts kk tpos) l (zMP r):=by
 intro d s σ H R I h
 refine zH (hl d s σ H _ I h) fun v c ⟨x,t,f,u,w⟩=>?_
 obtain⟨p,a,kvs,e,y,i,q⟩:=w
 subst e
 cases u
 obtain⟨z,D,vs,rel,dd⟩:=j4 f.hok i
 obtain⟨ep,g⟩:=dd.dictAt
 obtain⟨o,A,j,_,m,_⟩:=id g
 have n:c.heap.get? p=some (zGA a):=(f.hok p _ y).1
 refine wpAny_pyIter_items (v:=p) ⟨_,n,rfl,rfl⟩ g ?_
 have B:=(f.freeze i j).kept (t':=c.toks) (h':=c.heap.push {cls:=.type "dict_itemiterator",data:=.fields #[.none,.bool false,.ref a,.int 0 0,.int vs.length 0,.int ep 0,.none,.none]}) fun b o e=>ai _ e
 refine⟨c.heap.objs.size,[c.heap.objs.size],_,_,upd t a (.frz o (.dK kvs)),rfl,B,zMO a _ o kvs vs.length ep (cO rel).symm ⟨A,m⟩,⟨_,_,aM _ rfl⟩,fun b C=>?_,q o⟩
 have e:b=c.heap.objs.size:=by simpa using C
 subst e
 exact(f.freeze i j).fpOk (aD _) ((f.freeze i j).hok.fresh (aD _))
theorem zAv {a:ah}{o:Obj}{kvs:List (zK×V)}{g:TG}{n:TS}{D:Ends}{σ:St}{H:Hp}(Pv:Nat->St->Hp->Prop)(t:Pv 0 σ H)(u:∀i σ H,i<=kvs.length->Pv i σ H->H a=some (.frz o (.dK kvs)))
  (c:∀(i:Nat) (q:zK×V) (T:ah) (σ:St) (H:Hp) (f:St->Hp->Prop),(∀b H',Pv (i+1) b H'->f b H')->kvs[i]?=some q->Pv i σ H->H T=none->g (.ref T) σ (upd H T (.tup [kV q.1,q.2])) fun h d=>n {D with nx:=f,ct:=f,bk:=D.nx} h d)
  (fin:∀σ H,Pv kvs.length σ H->D.nx σ H) :
  ∃W:Nat->Nat->St->Hp->Prop,(∃m,W 0 m σ H)/\∀i m σ H,W i m σ H->
   ((gD a o kvs).stop i H/\D.nx σ H)\/((gD a o kvs).go i H/\∃N:St->Hp->Prop,(∀b H',N b H'->∃r,r<m/\W (i+1) r b H')/\∀x H',(gD a o kvs).yld i H x H'->g x σ H' fun h d=>n {D with nx:=N,ct:=N,bk:=D.nx} h d):=by
 refine⟨fun i m σ H=>i<=kvs.length/\m=kvs.length-i/\Pv i σ H,⟨kvs.length,bQ _,rfl,t⟩,?_⟩
 rintro i m σ H ⟨hi,rfl,pv⟩
 have s:=u i σ H hi pv
 by_cases e:i=kvs.length
 ·subst e
  exact .inl ⟨⟨s,aD _⟩,fin σ H pv⟩
 ·have j:i<kvs.length:=by omega
  refine .inr ⟨⟨s,j⟩,Pv (i+1),fun b H' p=>⟨kvs.length- (i+1),by omega,by omega,rfl,p⟩,fun x d l=>?_⟩
  obtain⟨T,q,rfl,v,rfl,w⟩:=l
  exact c i q T σ H (Pv (i+1)) (fun _ _ p=>p) w pv v
theorem zMQ {a:ah}{o:Obj}{kvs:List (zK×V)}{caps:List Nat}{n:Nat}{σ:St}{g:TG}{u:TE}{F:List V->Hp->Prop}{C:Hp}(cv:St)(k:Nat)(N:kvs.length<1000)
  (Pv:Nat->List V->Hp->Prop) (G:Pv 0 [] C) (I:∀i c H,i<=kvs.length->Pv i c H->H a=some (.frz o (.dK kvs))/\c.length<=i)
  (r:∀(i:Nat) (q:zK×V) (T:ah) (c:List V) (H:Hp) (ys:St) (D:List V->St->Hp->Prop),(∀f H' v,v.length=k->Pv (i+1) f H'->D f (cv++v) H')->kvs[i]?=some q->ys.length=k->Pv i c H->H T=none->
   g (.ref T) (cv++ys) (upd H T (.tup [kV q.1,q.2])) fun d l=>u d l fun y j=>D (c++[y]) d j)
  (fin:∀c H,Pv kvs.length c H->F c H) (w:v8 caps n σ=cv++aB k none:=by rfl) :
  ∃W:Nat->Nat->List V->St->Hp->Prop,(∃m,W 0 m [] (v8 caps n σ) C)/\∀i m c s H',W i m c s H'->
   ((gD a o kvs).stop i H'/\F c H')\/
   ((gD a o kvs).go i H'/\c.length<sizeLine/\∀x z,(gD a o kvs).yld i H' x z->g x s z fun d l=>gA d l fun b t=>if b=true then u d t fun y j=>∃h,h<m/\W (i+1) h (c++[y]) d j else∃h,h<m/\W (i+1) h c d t):=by
 refine⟨fun i m c s H'=>i<=kvs.length/\m=kvs.length-i/\(∃ys,ys.length=k/\s=cv++ys)/\Pv i c H',⟨kvs.length,bQ _,rfl,⟨_,by simp,w⟩,G⟩,?_⟩
 rintro i m c s H' ⟨hi,rfl,⟨ys,J,rfl⟩,pv⟩
 obtain⟨E,O⟩:=I i c H' hi pv
 by_cases e:i=kvs.length
 ·subst e
  exact .inl ⟨⟨E,aD _⟩,fin c H' pv⟩
 ·have A:i<kvs.length:=by omega
  refine .inr ⟨⟨E,A⟩,by rw[aR];omega,fun x z B=>?_⟩
  obtain⟨T,q,rfl,L,rfl,M⟩:=B
  have:=r i q T c H' ys (fun f d j=>∃h,h<kvs.length-i/\(i+1<=kvs.length/\h=kvs.length- (i+1)/\(∃ys,ys.length=k/\d=cv++ys)/\Pv (i+1) f j)) (fun f j v hz p=>⟨kvs.length- (i+1),by omega,by omega,rfl,⟨v,hz,rfl⟩,p⟩) M J pv L
  have e:(fun(d:St) (l:Hp)=>gA d l fun b t=>if b=true then u d t fun y j=>∃h,h<kvs.length-i/\(i+1<=kvs.length/\h=kvs.length- (i+1)/\(∃ys,ys.length=k/\d=cv++ys)/\Pv (i+1) (c++[y]) j)else∃h,h<kvs.length-i/\(i+1<=kvs.length/\h=kvs.length- (i+1)/\(∃ys,ys.length=k/\d=cv++ys)/\Pv (i+1) c t))=fun d l=>u d l fun y j=>∃h,h<kvs.length-i/\(i+1<=kvs.length/\h=kvs.length- (i+1)/\(∃ys,ys.length=k/\d=cv++ys)/\Pv (i+1) (c++[y]) j):=by
   funext d l
   unfold gA
   simp
  rw[e]
  exact this
def Itv (a:ah)(o:Obj)(kvs:List (zK×V)):It where
 go:=fun i H=>H a=some (.frz o (.dK kvs))/\i<kvs.length
 yld:=fun i H x H'=>H'=H/\(kvs.map fun p=>p.2)[i]?=some x
 stop:=fun i H=>H a=some (.frz o (.dK kvs))/\kvs.length<=i
theorem zMR (a:ah)(o:Obj)(kvs:List (zK×V)):Known (Itv a o kvs) (kvs.map fun p=>p.2) (fun H=>H a=some (.frz o (.dK kvs))) :=
 ⟨fun i H h hi=>⟨h,by simpa using hi⟩,fun i H x H' h y=>⟨y.1,fun _=>y.2⟩,fun H h=>⟨h,by simp⟩⟩
theorem zMS {P:aJ}{w:aV}{K:ae}{tg:bV}(a it:ah)(o:Obj)(kvs:List (zK×V))(n ep:Nat)(hn:n=kvs.length)(B:∃L,o.data=.dict L ep):Turn P w K tg (Itv a o kvs) [it] it (fun i h=>h.IsValIter it a i n ep) where
 mem:=by simp
 obj:=fun i h st b r=>by
  have e:b=it:=by simpa using r
  subst e
  obtain⟨o,e,c,d⟩:=st
  exact⟨o,e,fun v z=>by rw[d]at z;cases z⟩
 keep:=fun i h h' st k=>st.at fun o e=>k it (by simp) o e
 item:=by
  intro X M N O hc i m s σ H E I G st R
  subst M N O
  obtain⟨g,hi⟩:=R
  obtain⟨z,hS,vs,rel,dd⟩:=uO I.hok (.inr ⟨o,g⟩)
  obtain⟨j,_⟩:=(show s.heap.get? a=some o/\_ from I.hok a _ g)
  obtain⟨t,l⟩:=dd.dictAt
  have u:t=ep:=by
   obtain⟨o',L,C,_,T,_⟩:=id l
   obtain⟨U,D⟩:=B
   rw[j]at C;cases C
   rw[T]at D;injection D
  subst u
  have f:vs.length=n:=by rw[hn];exact(cO rel).symm
  rw[<-f]at st
  obtain⟨W,f1,f2,Y,Z,f5⟩:=G it (by simp)
  obtain⟨q,J⟩:∃q,vs[i]?=some q:=⟨_,aG (by omega)⟩
  obtain⟨k,v⟩:=q
  refine wpAny_pyNext_values_item st l J fun h' x sb=>?_
  have I1:Inv X m σ H {s with heap:=h'}:=I.turned (t':=s.toks) (fun b o r e=>(sb.2 b r).trans e) W f1 Y Z f5
  obtain⟨oi,e,c,d⟩:=id x
  rw[f]at x
  obtain⟨p,hp,e1,e2⟩:∃p,kvs[i]?=some p/\p.1=k/\zQ p.2 v:=by
   have F:i<kvs.length:=hi
   obtain⟨y,hy,hr⟩:=zBo rel (aG F)
   rw[J]at hy;cases hy
   exact⟨_,aG F,hr.1,hr.2⟩
  refine⟨v,rfl,gG (s:={s with heap:=h'}) e c d (by decide) ⟨p.2,H,I1,e2,⟨rfl,?_⟩,x,fun b r=>(G b r).1⟩⟩
  rw[aq,hp];rfl
 done:=by
  intro X M N O hc i m s σ H E I G st R
  subst M N O
  obtain⟨g,hi⟩:=R
  obtain⟨z,hS,vs,rel,dd⟩:=uO I.hok (.inr ⟨o,g⟩)
  obtain⟨j,_⟩:=(show s.heap.get? a=some o/\_ from I.hok a _ g)
  obtain⟨t,l⟩:=dd.dictAt
  have u:t=ep:=by
   obtain⟨o',L,C,_,T,_⟩:=id l
   obtain⟨U,D⟩:=B
   rw[j]at C;cases C
   rw[T]at D;injection D
  subst u
  have f:vs.length=n:=by rw[hn];exact(cO rel).symm
  rw[<-f]at st
  obtain⟨W,f1,f2,Y,Z,f5⟩:=G it (by simp)
  refine wpAny_pyNext_values_end (I.ok.hd hc) st l (by rw[iC];omega) fun h' he=>⟨rfl,?_⟩
  exact I.turned (t':=s.toks) (fun b o r e=>he b o r e) W f1 Y Z f5
 self:=fun A i s Q E st J=>wpAny_pyIter_valiter st J
def zMT (tl:TE):TI:=fun σ H R=>tl σ H fun x H1=>∃p a kvs,x=.ref p/\H1 p=some (qW p a)/\H1 a=some (.dK kvs)/\∀o,R (Itv a o kvs) (upd H1 a (.frz o (.dK kvs)))
theorem zMU {l:bV}{r:TE}(hl:PE X l r):PI X tg l (zMT r):=by
 intro d s σ H R I h
 refine zH (hl d s σ H _ I h) fun v c ⟨x,t,f,u,w⟩=>?_
 obtain⟨p,a,kvs,e,y,i,q⟩:=w
 subst e
 cases u
 obtain⟨z,D,vs,rel,dd⟩:=j4 f.hok i
 obtain⟨ep,g⟩:=dd.dictAt
 obtain⟨o,A,j,_,m,_⟩:=id g
 have n:c.heap.get? p=some (zGD a):=(f.hok p _ y).1
 refine wpAny_pyIter_values (v:=p) ⟨_,n,rfl,rfl⟩ g ?_
 have B:=(f.freeze i j).kept (t':=c.toks) (h':=c.heap.push {cls:=.type "dict_valueiterator",data:=.fields #[.ref a,.int 0 0,.int vs.length 0,.int ep 0]}) fun b o e=>ai _ e
 refine⟨c.heap.objs.size,[c.heap.objs.size],_,_,upd t a (.frz o (.dK kvs)),rfl,B,zMS a _ o kvs vs.length ep (cO rel).symm ⟨A,m⟩,⟨_,aM _ rfl,rfl,rfl⟩,fun b C=>?_,q o⟩
 have e:b=c.heap.objs.size:=by simpa using C
 subst e
 exact(f.freeze i j).fpOk (aD _) ((f.freeze i j).hok.fresh (aD _))
def zMV (t:TS):TS:=fun D σ H=>∃a kvs,H a=some (.dK kvs)/\t {D with nx:=fun σ' H'=>∃o,H' a=some (.frz o (.dK kvs))/\D.nx σ' (upd H' a (.dK kvs))} σ H
theorem zAT {st:cp}{t:TS}(h:PS X st t):PS X st (zMV t):=by
 intro b s σ H D I q
 obtain⟨a,kvs,d,q⟩:=q
 refine zH (h b s σ H _ I q) fun f l c=>?_
 cases f with
 |next=>
  obtain⟨e,H',g,o,i,j⟩:=c
  exact⟨e,_,g.thaw I d i,j⟩
 |brk=>exact c
 |cont=>exact c
 |ret u=>exact c
theorem zA.thaw {H H':Hp}{a:ah}{o:Obj}{kvs:List (zK×V)}(e:zA (upd H a (.frz o (.dK kvs))) H')(h:H a=some (.dK kvs)):zA H (upd H' a (.dK kvs)):=fun b u q=>by
 by_cases c:b=a
 ·subst c;rw[zF,<-q,h]
 ·rw[zG c];exact e b u (by rw[zG c];exact q)
end
end L2
end
section
namespace Kn
theorem zAU (t l:S)(o:Nat):zE (zE t o++l) o=zE (t++l) o:=by
 unfold zE
 rw[aE,aE,cQ]
 by_cases h:t.length<=o
 ·rw[show t.length-o=0 by omega,jv,nY]
 ·rw[oG,oG,List.drop_drop,cQ]
  congr 1
  ·congr 1;omega
  ·congr 1;omega
def pp (o:Nat)(t:S):List (S×S):=(ba t.length).map fun p=>(zE (t.take p) o,(t.drop p).take 1)
theorem zBq (o:Nat)(t:S):yG o t=pp o t++[(zE t o,[])]:=by
 unfold yG pp
 rw[fF,aC]
 simp
theorem zAV (o:Nat)(t:S)(c:Nat):pp o (t++[c])=pp o t++[(zE t o,[c])]:=by
 unfold pp
 rw[aE,cG,fF,aC]
 congr 1
 ·refine cj fun p a=>?_
  have b:p<t.length:=bX.mp a
  rw[iQ (by omega),List.drop_append_of_le_length (by omega)]
  congr 1
  have:1<=(t.drop p).length:=by rw[cQ];omega
  rw[iQ this]
 ·simp
theorem zMW {o:Nat}{nm e:S}{c:Nat}(h:(e,[c])∈yG o nm):∃l,(zE (e++[c]) o,l)∈yG o nm:=by
 unfold yG at h
 obtain⟨p,d,b⟩:=az.mp h
 have f:p<nm.length+1:=bX.mp d
 have g:zE (nm.take p) o=e:=congrArg rX b
 have a:(nm.drop p).take 1=[c]:=congrArg jx b
 have hl:p<nm.length:=by
  by_cases h:p<nm.length
  ·exact h
  ·rw[iu (by omega)]at a;cases a
 have i:nm.take (p+1)=nm.take p++[c]:=by
  rw[<-a,<-List.take_add]
 refine⟨(nm.drop (p+1)).take 1,?_⟩
 rw[<-g,zAU,<-i]
 exact az.mpr ⟨p+1,bX.mpr (by omega),rfl⟩
theorem zMX {o:Nat}{bk:List S}{e:S}{c:Nat}(h:(e,[c])∈zC o bk):∃l,(zE (e++[c]) o,l)∈zC o bk:=by
 obtain⟨nm,a,b⟩:=bx.mp h
 obtain⟨l,hl⟩:=zMW b
 exact⟨l,bx.mpr ⟨nm,a,hl⟩⟩
theorem zMY {o:Nat}{nm e l:S}(h:(e,l)∈yG o nm):l.length<=1:=by
 unfold yG at h
 obtain⟨p,_,a⟩:=az.mp h
 have b:(nm.drop p).take 1=l:=congrArg jx a
 rw[<-b,aO];omega
theorem gR {o:Nat}{bk:List S}{e l:S}(h:(e,l)∈zC o bk):l.length<=1:=by
 obtain⟨nm,b,a⟩:=bx.mp h
 exact zMY a
theorem gE {l:S}(h:l.length<=1)(a:l≠[]):∃c,l=[c]:=by
 match l,h,a with
 | [c],_,_=>exact⟨c,rfl⟩
def mf (w l:S):Bool:=decide (l≠[])&& (decide (w=[])||decide (w=l))
def zAw (nx:S->List S)(o:Nat)(ts:List S)(w:S):List S:=ts.flatMap fun t=>((nx (zE t o)).filter (mf w)).map (t++·)
def Tx (nx:S->List S)(o:Nat)(pat:List S):List S:=pat.foldl (zAw nx o) [[]]
def zX (w:Int)(q:Int×Int):Int:=w*q.1/q.2
def gS (nx:S->List S)(f:S->S->Int×Int)(o:Nat)(L:List (S×Int))(w:S):List (S×Int):=L.flatMap fun p=>((nx (zE p.1 o)).filter (mf w)).map fun l=>(p.1++l,zX p.2 (f (zE p.1 o) l))
def Ws (nx:S->List S)(f:S->S->Int×Int)(o:Nat)(wt:Int)(pat:List S):List (S×Int):=pat.foldl (gS nx f o) [([],wt)]
def jM (acc:List (S×Int))(p:S×Int):List (S×Int):=zW acc p.1 ((zL acc p.1).getD 0+p.2)
def v6 (L:List (S×Int)):List (S×Int):=L.foldl jM []
def uA (nx:S->List S)(f:S->S->Int×Int)(o:Nat)(w:S)(p:S×Int):List (S×Int):=((nx p.1).filter (mf w)).map fun l=>(zE (p.1++l) o,zX p.2 (f p.1 l))
def gT (nx:S->List S)(f:S->S->Int×Int)(o:Nat)(ss:List (S×Int))(w:S):List (S×Int):=v6 (ss.flatMap (uA nx f o w))
def Ss (nx:S->List S)(f:S->S->Int×Int)(o:Nat)(wt:Int)(pat:List S):List (S×Int):=pat.foldl (gT nx f o) [([],wt)]
structure Addt (D:Int) (φ:S->Int->Int):Prop where
 zero:∀e,φ e 0=0
 add:∀e a b,D∣a->D∣b->φ e (a+b)=φ e a+φ e b
abbrev tots (φ:S->Int->Int)(L:List (S×Int)):Int:=(L.map fun p=>φ p.1 p.2).sum
theorem tots_putA (φ:S->Int->Int):∀(a:List (S×Int)) (e:S) (v:Int),tots φ (zW a e v)=tots φ a- ((zL a e).map (φ e)).getD 0+φ e v
 | [],e,v=>by simp[tots,zW,zL]
 |(k,x)::r,e,v=>by
  have ih:=tots_putA φ r e v
  unfold tots at ih⊢
  by_cases h:k=e
  ·subst h
   simp only[zW,zL,if_true,aF,bb,fD,oH]
   omega
  ·simp only[zW,zL,if_neg h,aF,bb]
   rw[ih];omega
theorem zGs {D:Int}:∀{b:List (S×Int)}{e:S}{v:Int},(∀p∈b,D∣p.2)->D∣v->∀p∈zW b e v,D∣p.2
 | [],e,v,_,c,p,a=>by
  have:p=(e,v):=by simpa [zW]using a
  rw[this];exact c
 |(k,x)::r,e,v,d,c,p,a=>by
  by_cases h:k=e
  ·simp only[zW,if_pos h]at a
   rcases aL.mp a with z|z
   ·rw[z];exact c
   ·exact d p (ar _ z)
  ·simp only[zW,if_neg h]at a
   rcases aL.mp a with z|z
   ·rw[z];exact d _ (aj ..)
   ·exact zGs (fun q f=>d q (ar _ f)) c p z
theorem zMZ {D:Int}{a:List (S×Int)}(b:∀p∈a,D∣p.2)(e:S):D∣ (zL a e).getD 0:=by
 induction a with
 |nil=>exact Int.dvd_zero _
 |cons p r ih=>
  obtain⟨k,x⟩:=p
  by_cases h:k=e
  ·simp only[zL,if_pos h,oH];exact b _ (aj ..)
  ·simp only[zL,if_neg h];exact ih fun q c=>b q (ar _ c)
theorem zGt {D:Int}{φ:S->Int->Int}(A:Addt D φ):∀(L a:List (S×Int)),(∀p∈L,D∣p.2)->(∀p∈a,D∣p.2)->tots φ (L.foldl jM a)=tots φ a+tots φ L/\∀p∈L.foldl jM a,D∣p.2
 | [],a,_,b=>⟨by simp[tots],b⟩
 |p::L,a,d,b=>by
  have e:=d p (aj ..)
  have f:=zMZ b p.1
  have c:∀q∈jM a p,D∣q.2:=zGs b (Int.dvd_add f e)
  obtain⟨h,i⟩:=zGt A L (jM a p) (fun q j=>d q (ar _ j)) c
  refine⟨?_,i⟩
  rw[cn,h]
  unfold jM
  rw[tots_putA]
  have l:φ p.1 ((zL a p.1).getD 0+p.2)=φ p.1 ((zL a p.1).getD 0)+φ p.1 p.2:=A.add _ _ _ f e
  have m:φ p.1 ((zL a p.1).getD 0)=((zL a p.1).map (φ p.1)).getD 0:=by
   cases zL a p.1 with
   |none=>exact A.zero _
   |some g=>rfl
  have n:tots φ (p::L)=φ p.1 p.2+tots φ L:=by unfold tots;rw[aF,bb]
  rw[l,m,n]
  omega
theorem zGu {D:Int}{φ:S->Int->Int}(A:Addt D φ){L:List (S×Int)}(c:∀p∈L,D∣p.2):tots φ (v6 L)=tots φ L/\∀p∈v6 L,D∣p.2:=by
 obtain⟨a,b⟩:=zGt A L [] c (fun p d=>by cases d)
 exact⟨by rw[show v6 L=L.foldl jM []from rfl,a];simp[tots],b⟩
theorem tots_flat {α:Type}(φ:S->Int->Int)(g:α->List (S×Int)):∀L:List α,tots φ (L.flatMap g)=(L.map fun p=>tots φ (g p)).sum
 | []=>rfl
 |p::L=>by
  rw[iw,aF,bb,<-tots_flat φ g L]
  unfold tots
  rw[aC,iX]
theorem zDZ {D a b:Int}{q:Int×Int}(c:q.2∣D)(d:D∣a):zX (a+b) q=zX a q+zX b q:=by
 unfold zX
 rw[kr]
 exact Int.add_ediv_of_dvd_left (dJ (dJ c d) (og ..))
theorem zDa (q:Int×Int):zX 0 q=0:=by unfold zX;rw[ro,Int.zero_ediv]
theorem zAx {U a:Int}{m:Nat}{q:Int×Int}(b:q.2∣U)(f:0<q.2)(e:U^(m+1)∣a):U^m∣zX a q:=by
 obtain⟨c,rfl⟩:=e
 obtain⟨d,hd⟩:=b
 unfold zX
 refine⟨d*c*q.1,?_⟩
 refine Int.ediv_eq_of_eq_mul_right (by omega) ?_
 rw[fz]
 conv=>lhs;rw[hd]
 conv=>rhs;rw[hd]
 grind
structure Rel (U:Int) (o m:Nat) (ss L:List (S×Int)):Prop where
 sum:∀φ,Addt (U^m) φ->tots φ ss=tots (fun t w=>φ (zE t o) w) L
 ds:∀p∈ss,U^m∣p.2
 dl:∀p∈L,U^m∣p.2
structure Exact (nx:S->List S) (f:S->S->Int×Int) (U:Int):Prop where
 dv:∀e l,l∈nx e->(f e l).2∣U
 pos:∀e l,l∈nx e->0<(f e l).2
theorem Rel.step {nx:S->List S}{f:S->S->Int×Int}{U:Int}{o m:Nat}{ss L:List (S×Int)}(X:Exact nx f U)(R:Rel U o (m+1) ss L)(w:S):Rel U o m (gT nx f o ss w) (gS nx f o L w):=by
 have c:∀{e l},l∈(nx e).filter (mf w)->l∈nx e:=fun h=>(aQ.mp h).1
 have d1:∀p∈ss.flatMap (uA nx f o w),U^m∣p.2:=fun p i=>by
  obtain⟨q,j,n⟩:=bx.mp i
  obtain⟨l,hl,rfl⟩:=az.mp n
  exact zAx (X.dv _ _ (c hl)) (X.pos _ _ (c hl)) (R.ds q j)
 have y:∀p∈gS nx f o L w,U^m∣p.2:=fun p i=>by
  obtain⟨q,j,n⟩:=bx.mp i
  obtain⟨l,hl,rfl⟩:=az.mp n
  exact zAx (X.dv _ _ (c hl)) (X.pos _ _ (c hl)) (R.dl q j)
 refine⟨fun φ A=>?_,(zGu (φ:=fun _ _=>0) ⟨fun _=>rfl,fun _ _ _ _ _=>rfl⟩ d1).2,y⟩
 unfold gT
 rw[(zGu A d1).1,tots_flat]
 have d:Addt (U^(m+1)) (fun e v=>tots φ (uA nx f o w (e,v))):=by
  constructor
  ·intro e
   unfold uA tots
   rw[aP]
   have:∀l:List S,(l.map ((fun p:S×Int=>φ p.1 p.2) ∘ fun l=>(zE (e++l) o,zX 0 (f e l)))).sum=0:=by
    intro l
    induction l with
    |nil=>rfl
    |cons x r ih=>
     rw[aF,bb,ih]
     show φ _ (zX 0 _)+0=0
     rw[zDa,A.zero];rfl
   exact this _
  ·intro e a b t z
   unfold uA tots
   rw[aP,aP,aP]
   have go:∀ls:List S,(∀l∈ls,l∈nx e)->(ls.map ((fun p:S×Int=>φ p.1 p.2) ∘ fun l=>(zE (e++l) o,zX (a+b) (f e l)))).sum=(ls.map ((fun p:S×Int=>φ p.1 p.2) ∘ fun l=>(zE (e++l) o,zX a (f e l)))).sum+(ls.map ((fun p:S×Int=>φ p.1 p.2) ∘ fun l=>(zE (e++l) o,zX b (f e l)))).sum:=by
    intro ls
    induction ls with
    |nil=>intro _;rfl
    |cons x r ih=>
     intro u
     have g:=u x (aj ..)
     rw[aF,aF,aF,bb,bb,bb,ih fun l hl=>u l (ar _ hl)]
     have s:φ (zE (e++x) o) (zX (a+b) (f e x))=φ (zE (e++x) o) (zX a (f e x))+φ (zE (e++x) o) (zX b (f e x)):=by
      rw[zDZ (D:=U^(m+1)) (dJ (X.dv _ _ g) ⟨U^m,by rw[fz,d5]⟩) t]
      exact A.add _ _ _ (zAx (X.dv _ _ g) (X.pos _ _ g) t) (zAx (X.dv _ _ g) (X.pos _ _ g) z)
     show φ (zE (e++x) o) (zX (a+b) (f e x))+_=φ (zE (e++x) o) (zX a (f e x))+_+(φ (zE (e++x) o) (zX b (f e x))+_)
     rw[s];omega
   exact go _ fun l hl=>c hl
 have B:=R.sum _ d
 have s:tots (fun e v=>tots φ (uA nx f o w (e,v))) ss=(ss.map fun p=>tots φ (uA nx f o w p)).sum:=rfl
 rw[<-s,B]
 unfold gS
 rw[tots_flat]
 show(L.map fun p=>tots φ (uA nx f o w (zE p.1 o,p.2))).sum=_
 congr 1
 refine cj fun p i=>?_
 unfold uA tots
 rw[aP,aP]
 congr 1
 refine cj fun l hl=>?_
 show φ (zE (zE p.1 o++l) o) _=φ (zE (p.1++l) o) _
 rw[zAU]
theorem Rel.all {nx:S->List S}{f:S->S->Int×Int}{U:Int}{o:Nat}(X:Exact nx f U):∀(a:List S) (m:Nat) (ss L:List (S×Int)),Rel U o (m+a.length) ss L->Rel U o m (a.foldl (gT nx f o) ss) (a.foldl (gS nx f o) L)
 | [],m,ss,L,R=>R
 |w::a,m,ss,L,R=>by
  rw[cn,cn]
  exact Rel.all X a m _ _ (R.step X w)
theorem Rel.start {U wt:Int}{o n:Nat}(h:U^n∣wt):Rel U o n [([],wt)] [([],wt)]:=by
 refine⟨fun φ _=>?_,fun p a=>?_,fun p a=>?_⟩
 ·simp[tots,zE]
 ·have:p=([],wt):=by simpa using a
  rw[this];exact h
 ·have:p=([],wt):=by simpa using a
  rw[this];exact h
theorem zGv {nx:S->List S}{f:S->S->Int×Int}{U wt:Int}{o m:Nat}(X:Exact nx f U)(a:List S)(h:U^(m+a.length)∣wt):Rel U o m (Ss nx f o wt a) (Ws nx f o wt a):=Rel.all X a m _ _ (Rel.start h)
theorem zMa {α:Type}{a:List (S×α)}{e:S}{v:α}{k:S}(h:k∈(zW a e v).map (·.1)):k∈a.map (·.1)\/k=e:=by
 rw[zGK]at h
 split at h
 ·exact .inl h
 ·rcases bG.mp h with z|z
  ·exact .inl z
  ·exact .inr (by simpa using z)
theorem zGw:∀(L c:List (S×Int)),(c.map (·.1)).Nodup->((L.foldl jM c).map (·.1)).Nodup/\∀k∈(L.foldl jM c).map (·.1),k∈c.map (·.1)\/k∈L.map (·.1)
 | [],c,h=>⟨h,fun k d=>.inl d⟩
 |p::L,c,h=>by
  obtain⟨a,b⟩:=zGw L (jM c p) (zBd h)
  refine⟨a,fun k d=>?_⟩
  rcases b k d with z|z
  ·rcases zMa z with y|y
   ·exact .inl y
   ·exact .inr (by rw[aF,y];exact aj ..)
  ·exact .inr (by rw[aF];exact ar _ z)
theorem zGx (L:List (S×Int)):((v6 L).map (·.1)).Nodup/\∀k∈(v6 L).map (·.1),k∈L.map (·.1):=by
 obtain⟨a,b⟩:=zGw L [] (by simp)
 exact⟨a,fun k c=>(b k c).elim (fun z=>by cases z) id⟩
end Kn
end
section
namespace Kn
theorem gU {α:Type} [DecidableEq α]:∀(l L:List α),l.Nodup->(∀x∈l,x∈L)->l.length<=L.length
 | [],L,_,_=>bQ _
 |x::l,L,b,c=>by
  have d:=c x (aj ..)
  have f:=gU l (L.erase x) (bE.mp b).2 fun y e=>by
   have a:y≠x:=fun z=>(bE.mp b).1 (by rw[<-z];exact e)
   exact(iR a).mpr (c y (ar _ e))
  rw[gh d]at f
  have g:0<L.length:=fB d
  rw[bg];omega
theorem zBr {t:S}(h:t≠[]):∃u c,t=u++[c]:=by
 rcases List.eq_nil_or_concat t with z|⟨u,c,z⟩
 ·exact absurd z h
 ·exact⟨u,c,by simpa using z⟩
theorem zDb (nx:S->List S)(o:Nat)(a:List S)(w:S):Tx nx o (a++[w])=zAw nx o (Tx nx o a) w:=by
 unfold Tx;rw[cI];rfl
theorem zMb (nx:S->List S)(f:S->S->Int×Int)(o:Nat)(wt:Int)(a:List S)(w:S):Ws nx f o wt (a++[w])=gS nx f o (Ws nx f o wt a) w:=by
 unfold Ws;rw[cI];rfl
theorem zGy (nx:S->List S)(f:S->S->Int×Int)(o:Nat)(wt:Int)(a:List S)(w:S):Ss nx f o wt (a++[w])=gT nx f o (Ss nx f o wt a) w:=by
 unfold Ss;rw[cI];rfl
structure Lts (ps:List (S×S)) (nx:S->List S):Prop where
 nd:∀e,(nx e).Nodup
 mem:∀e l,l∈nx e↔(e,l)∈ps
def uB (ps:List (S×S)):Prop:=∀e l,(e,l)∈ps->l.length<=1
theorem zBs {l:S}:mf [] l=true↔l≠[]:=by unfold mf;simp
theorem zDc {ps:List (S×S)}{nx:S->List S}(N:Lts ps nx)(e:uB ps)(o:Nat):∀(n:Nat) (t:S),t∈Tx nx o (aB n [])↔t.length=n/\∀q∈pp o t,q∈ps
 |0,t=>by
  show t∈[[]]↔_
  constructor
  ·intro h
   have:t=[]:=by simpa using h
   rw[this];exact⟨rfl,fun q a=>by cases a⟩
  ·rintro⟨h,_⟩
   rw[cw.mp h];exact bK _
 |n+1,t=>by
  rw[dP,zDb]
  unfold zAw
  rw[bx]
  constructor
  ·rintro⟨u,i,h⟩
   obtain⟨l,hl,rfl⟩:=az.mp h
   obtain⟨b,d⟩:=(zDc N e o n u).mp i
   obtain⟨j,m⟩:=aQ.mp hl
   have g:=(N.mem _ _).mp j
   obtain⟨c,rfl⟩:=gE (e _ _ g) (zBs.mp m)
   refine⟨by rw[aE,b];rfl,fun q a=>?_⟩
   rw[zAV]at a
   rcases bG.mp a with z|z
   ·exact d q z
   ·have:q=(zE u o,[c]):=by simpa using z
    rw[this];exact g
  ·rintro⟨b,d⟩
   have f:t≠[]:=fun z=>by rw[z]at b;cases b
   obtain⟨u,c,rfl⟩:∃u c,t=u++[c]:=zBr f
   rw[aE,cG]at b
   rw[zAV]at d
   refine⟨u,(zDc N e o n u).mpr ⟨by omega,fun q a=>d q (bJ _ a)⟩,az.mpr ⟨[c],aQ.mpr ⟨(N.mem _ _).mpr (d _ (aS _ (bK _))),zBs.mpr (by simp)⟩,rfl⟩⟩
theorem zGz {α β:Type}(g:α->List β):∀(L:List α),L.Nodup->(∀a∈L,(g a).Nodup)->(∀a∈L,∀b∈L,∀x,x∈g a->x∈g b->a=b)->(L.flatMap g).Nodup
 | [],_,_,_=>by simp
 |a::L,f,i,j=>by
  rw[iw]
  refine eQ.mpr ⟨i a (aj ..),zGz g L (bE.mp f).2 (fun b d=>i b (ar _ d)) (fun b d c l=>j b (ar _ d) c (ar _ l)),fun x m y n e=>?_⟩
  subst e
  obtain⟨b,d,h⟩:=bx.mp n
  have:=j a (aj ..) b (ar _ d) x m h
  rw[this]at f
  exact(bE.mp f).1 d
theorem zMc {u v:S}{c d:Nat}(h:u++[c]=v++[d]):u=v/\c=d:=by
 have:=List.append_inj' h rfl
 exact⟨this.1,by simpa using this.2⟩
theorem zBt {ps:List (S×S)}{nx:S->List S}(N:Lts ps nx)(h:uB ps)(o:Nat):∀(n:Nat),(Tx nx o (aB n [])).Nodup
 |0=>by show([[]]:List S).Nodup;simp
 |n+1=>by
  rw[dP,zDb]
  unfold zAw
  have one:∀(u l:S),l∈(nx (zE u o)).filter (mf [])->∃c,l=[c]:=fun u l hl=>by
   obtain⟨i,j⟩:=aQ.mp hl
   exact gE (h _ _ ((N.mem _ _).mp i)) (zBs.mp j)
  refine zGz _ _ (zBt N h o n) (fun u _=>?_) (fun u _ v _ x m p=>?_)
  ·refine dW _ (fun a b f z=>f (List.append_cancel_left z)) ((N.nd _).filter _)
  ·obtain⟨l,hl,rfl⟩:=az.mp m
   obtain⟨q,g,e⟩:=az.mp p
   obtain⟨c,rfl⟩:=one u l hl
   obtain⟨d,rfl⟩:=one v q g
   exact(zMc e).1.symm
def uC (ps:List (S×S))(o n:Nat)(x:S):Prop:=x.length=n/\∀q∈yG o x,q∈ps
theorem zAy {ps:List (S×S)}{nx:S->List S}(N:Lts ps nx)(d:uB ps)(o n:Nat)(x:S):uC ps o n x↔x∈(Tx nx o (aB n [])).filter fun t=>decide ((zE t o,[])∈ps):=by
 rw[aQ,zDc N d]
 unfold uC
 rw[zBq]
 constructor
 ·rintro⟨b,a⟩
  exact⟨⟨b,fun q c=>a q (bJ _ c)⟩,decide_eq_true (a _ (aS _ (bK _)))⟩
 ·rintro⟨⟨b,a⟩,e⟩
  refine⟨b,fun q c=>?_⟩
  rcases bG.mp c with z|z
  ·exact a q z
  ·have:q=(zE x o,[]):=by simpa using z
   rw[this];exact of_decide_eq_true e
def Wt (f:S->S->Int×Int)(o:Nat)(wt:Int)(t:S):Int:=(pp o t).foldl (fun w q=>zX w (f q.1 q.2)) wt
theorem zDd {ps:List (S×S)}{nx:S->List S}(N:Lts ps nx)(a:uB ps)(f:S->S->Int×Int)(o:Nat)(wt:Int):∀n,Ws nx f o wt (aB n [])=(Tx nx o (aB n [])).map fun t=>(t,Wt f o wt t)
 |0=>rfl
 |n+1=>by
  rw[dP,zMb,zDb,zDd N a f o wt n]
  unfold gS zAw
  rw[List.flatMap_map,List.map_flatMap]
  refine congrArg (fun g=>List.flatMap g (Tx nx o (aB n []))) ?_
  funext t
  rw[aP]
  refine cj fun l hl=>?_
  obtain⟨b,d⟩:=aQ.mp hl
  obtain⟨c,rfl⟩:=gE (a _ _ ((N.mem _ _).mp b)) (zBs.mp d)
  show(t++[c],_)=(t++[c],Wt f o wt (t++[c]))
  unfold Wt
  rw[zAV,cI];rfl
theorem zMd {U w:Int}{m:Nat}{q:Int×Int}(a:q.2∣U)(h:U^(m+1)∣w):zX w q*q.2=w*q.1:=by
 unfold zX
 refine nk (dJ (dJ a ?_) (dJ h (og ..)))
 exact⟨U^m,by rw[fz,d5]⟩
theorem zHA {U w T:Int}{m:Nat}{q:Int×Int}(d:0<T)(g:0<=w)(c:Fq q)(j:q.2∣U)(h:U^(m+1)∣w):0<=zX w q/\low (zX w q) T=uQ (low w T) q:=by
 have e:=zMd j h
 have f:=u6 g d
 have cr:=jI (u:=w) d
 have i:0<=zX w q:=mw (cB g c.up) (bB c.dn)
 refine⟨i,?_⟩
 unfold uQ
 refine zCv i d (cB f.up c.up) (dN f.dn c.dn) ?_
 generalize zX w q=a at e
 generalize low w T=b at cr
 grind
theorem zMe (ps a:List (S×S))(p:S×S):qX ps (a++[p])=uQ (qX ps a) (zS ps p.1 p.2):=by
 unfold qX;rw[cI];rfl
theorem zHB {ps:List (S×S)}{U T:Int}(i:0<T)(g:∀e l,(zS ps e l).2∣U):∀(d:List (S×S)) (m:Nat) (w:Int),0<=w->U^(m+d.length)∣w->0<=d.foldl (fun w q=>zX w (zS ps q.1 q.2)) w/\U^m∣d.foldl (fun w q=>zX w (zS ps q.1 q.2)) w/\
  low (d.foldl (fun w q=>zX w (zS ps q.1 q.2)) w) T=d.foldl (fun w p=>uQ w (zS ps p.1 p.2)) (low w T)
 | [],m,w,h,hd=>⟨h,hd,rfl⟩
 |q::d,m,w,h,hd=>by
  have f:U^(m+d.length+1)∣w:=hd
  obtain⟨j,n⟩:=zHA i h (qY ps q.1 q.2) (g q.1 q.2) f
  have o:=zAx (g q.1 q.2) (qY ps q.1 q.2).dn f
  obtain⟨a,b,c⟩:=zHB i g d m (zX w (zS ps q.1 q.2)) j o
  refine⟨a,b,?_⟩
  rw[cn,cn,c,n]
def Wn (ps:List (S×S))(o:Nat)(T:Int)(x:S):Int:=zX (Wt (zS ps) o T x) (zS ps (zE x o) [])
theorem zHC {ps:List (S×S)}{o:Nat}{U:Int}(f:0<U)(g:∀e l,(zS ps e l).2∣U){x:S}(j:x.length<=8):0<=Wn ps o (U^9) x/\low (Wn ps o (U^9) x) (U^9)=yX ps o x:=by
 have d:0<U^9:=gy f
 have hl:(pp o x).length=x.length:=by unfold pp;simp
 have hd:U^((8-x.length)+1+(pp o x).length)∣U^9:=by rw[hl,show(8-x.length)+1+x.length=9 by omega];exact jf _
 obtain⟨a,b,c⟩:=zHB d g (pp o x) (8-x.length+1) (U^9) (bB d) hd
 obtain⟨h,i⟩:=zHA d a (qY ps (zE x o) []) (g _ _) b
 refine⟨h,?_⟩
 show low (zX _ _) _=_
 unfold yX
 rw[zBq,zMe]
 unfold Wt
 rw[i,c,zGQ d];rfl
theorem zBu {ps:List (S×S)}{o:Nat}{U:Int}(c:0<U)(f:∀e l,(zS ps e l).2∣U):∀(M:List S) (d:Int),0<=d->(∀x∈M,x.length<=8)->M.foldl (fun w x=>vI w (yX ps o x)) (low d (U^9))=low (d+(M.map (Wn ps o (U^9))).sum) (U^9)/\0<=d+(M.map (Wn ps o (U^9))).sum
 | [],d,h,_=>by simp[h]
 |x::M,d,h,hl=>by
  obtain⟨a,b⟩:=zHC (o:=o) c f (hl x (aj ..))
  have g:0<U^9:=gy c
  obtain⟨i,m⟩:=zBu (o:=o) c f M (d+Wn ps o (U^9) x) (by omega) fun y j=>hl y (ar _ j)
  rw[cn,<-b,zLh g h a,i,aF,bb,Int.add_assoc]
  exact⟨rfl,by omega⟩
theorem zHD {α:Type} [DecidableEq α] {l:List α}{a:α}(h:l.Nodup)(b:a∈l):l.count a=1:=by
 have c:=List.nodup_iff_count.mp h a
 have d:=cK.mpr b
 omega
theorem zDe {α:Type} [DecidableEq α] {l m:List α}(c:l.Nodup)(d:m.Nodup)(h:∀x,x∈l↔x∈m):l.Perm m:=by
 refine(List.perm_iff_count).mpr fun a=>?_
 by_cases b:a∈l
 ·rw[zHD c b,zHD d ((h a).mp b)]
 ·rw[iS b,iS fun z=>b ((h a).mpr z)]
theorem zDf {α:Type}(c:α->Bool)(g:α->Int):∀L:List α,(∀a∈L,c a=false->g a=0)->(L.map g).sum=((L.filter c).map g).sum
 | [],_=>rfl
 |a::L,h=>by
  have ih:=zDf c g L fun b d=>h b (ar _ d)
  rw[aF,bb,ih]
  cases e:c a with
  |true=>rw[gz e,aF,bb]
  |false=>rw[hV (by rw[e];decide),h a (aj ..) e];omega
theorem zMf {l m:List Int}(h:l.Perm m):l.sum=m.sum:=by
 induction h with
 |nil=>rfl
 |cons x _ ih=>rw[bb,bb,ih]
 |swap x y l=>rw[bb,bb,bb,bb];omega
 |trans _ _ a b=>rw[a,b]
theorem zMg {ps:List (S×S)}{nx:S->List S}(N:Lts ps nx)(c:uB ps){o n:Nat}{U:Int}(f:0<U)(d:∀e l,(zS ps e l).2∣U)(j:n<=8){M:List S}(g:M.Nodup)(hm:∀x,x∈M↔uC ps o n x) :
  tots (fun e h=>zX h (zS ps e [])) (Ss nx (zS ps) o (U^9) (aB n []))=(M.map (Wn ps o (U^9))).sum:=by
 have X:Exact nx (zS ps) U:=⟨fun e l _=>d e l,fun e l _=>(qY ps e l).dn⟩
 have R:Rel U o (8-n+1) (Ss nx (zS ps) o (U^9) (aB n [])) (Ws nx (zS ps) o (U^9) (aB n [])):=zGv X _ (by rw[cZ,show 8-n+1+n=9 by omega];exact jf _)
 rw[R.sum _ ⟨fun e=>zDa _,fun e a b i m=>zDZ (D:=U^(8-n+1)) (dJ (d e []) ⟨U^(8-n),by rw[fz,d5]⟩) i⟩,zDd N c]
 show(((Tx nx o (aB n [])).map fun t=>(t,Wt (zS ps) o (U^9) t)).map fun p=>zX p.2 (zS ps (zE p.1 o) [])).sum=_
 rw[aP]
 show((Tx nx o (aB n [])).map (Wn ps o (U^9))).sum=_
 rw[zDf (fun t=>decide ((zE t o,[])∈ps)) (Wn ps o (U^9)) _ fun t _ h=>by
  have:zS ps (zE t o) []=(0,1):=zGR (of_decide_eq_false h)
  unfold Wn
  rw[this];simp[zX]]
 refine zMf (sY _ ?_)
 exact zDe ((zBt N c o n).filter _) g fun x=>by rw[<-zAy N c,hm]
theorem zMh (o:Nat)(t:S):Wt (fun _ _=>(1,1)) o 1 t=1:=by
 unfold Wt
 have:∀a:List (S×S),a.foldl (fun w q=>zX w ((fun _ _=>((1:Int),(1:Int))) q.1 q.2)) 1=1:=by
  intro a
  induction a with
  |nil=>rfl
  |cons q a ih=>rw[cn];exact ih
 exact this _
theorem zMi {ps:List (S×S)}{nx:S->List S}(N:Lts ps nx)(d:uB ps){o n:Nat}{M:List S}(f:M.Nodup)(hm:∀x,x∈M↔uC ps o n x) :
  tots (fun e h=>zX h (if(e,[])∈ps then(1,1)else(0,1))) (Ss nx (fun _ _=>(1,1)) o 1 (aB n []))=(M.length:Int):=by
 have X:Exact nx (fun _ _=>(1,1)) 1:=⟨fun e l _=>jf _,fun e l _=>by decide⟩
 have R:Rel 1 o 0 (Ss nx (fun _ _=>(1,1)) o 1 (aB n [])) (Ws nx (fun _ _=>(1,1)) o 1 (aB n [])):=zGv X _ (by rw[r9];exact jf _)
 have one:∀(e:S),(if(e,[])∈ps then((1:Int),(1:Int))else(0,1)).2∣ (1:Int):=fun e=>by split<;>exact jf _
 rw[R.sum _ ⟨fun e=>zDa _,fun e a b g m=>zDZ (D:=1^0) (by rw[r9];exact one e) g⟩,zDd N d]
 show(((Tx nx o (aB n [])).map fun t=>(t,Wt (fun _ _=>(1,1)) o 1 t)).map fun p=>zX p.2 (if(zE p.1 o,[])∈ps then(1,1)else(0,1))).sum=_
 rw[aP]
 have i:((fun p:S×Int=>zX p.2 (if(zE p.1 o,[])∈ps then(1,1)else(0,1))) ∘ fun t=>(t,Wt (fun _ _=>(1,1)) o 1 t))=fun t=>if(zE t o,[])∈ps then(1:Int)else 0:=by
  funext t
  show zX (Wt (fun _ _=>(1,1)) o 1 t) (if(zE t o,[])∈ps then(1,1)else(0,1))=_
  rw[zMh]
  split<;>rfl
 rw[i,zDf (fun t=>decide ((zE t o,[])∈ps)) _ _ fun t _ h=>if_neg (of_decide_eq_false h)]
 have j:∀L:List S,((L.filter fun t=>decide ((zE t o,[])∈ps)).map fun t=>if(zE t o,[])∈ps then(1:Int)else 0).sum=((L.filter fun t=>decide ((zE t o,[])∈ps)).length:Int):=by
  intro L
  induction L with
  |nil=>rfl
  |cons t L ih=>
   by_cases c:(zE t o,[])∈ps
   ·rw[gz (by simpa using c),aF,bb,ih,if_pos c,bg]
    have:∀k:Nat,(1:Int)+(k:Int)=((k+1:Nat):Int):=fun k=>by omega
    exact this _
   ·rw[hV (by simpa using c),ih]
 rw[j]
 have:=(zDe ((zBt N d o n).filter _) f fun x=>by rw[<-zAy N d,hm]).length_eq
 rw[this]
def Cl (ps:List (S×S))(o:Nat):Nat->S->Prop
 |0,e=>(e,[])∈ps
 |k+1,e=>∃l,l≠[]/\(e,l)∈ps/\Cl ps o k (zE (e++l) o)
structure AllT (ps:List (S×S)) (o n i:Nat) (A:List S):Prop where
 ris:A.Pairwise (· < ·)
 snd:∀t∈A,t.length=i/\(∀q∈pp o t,q∈ps)/\(0<i->Cl ps o (n-i) (zE t o))
 cmp:∀t,t.length=i->(∀q∈pp o t,q∈ps)->Cl ps o (n-i) (zE t o)->t∈A
theorem zDg:∀{a b:S} (x y:S),a.length=b.length->a<b->a++x<b++y
 | [],[],x,y,_,h=>absurd h (ju _)
 |c::a,d::b,x,y,hl,h=>by
  rw[fg,fg]
  rw[mC]at h⊢
  rcases h with h|⟨e,f⟩
  ·exact .inl h
  ·exact .inr ⟨e,zDg x y (by simpa using hl) f⟩
theorem zHE:∀(a:S) {x y:S},x<y->a++x<a++y
 | [],x,y,h=>h
 |c::a,x,y,h=>by
  rw[fg,fg,mC]
  exact .inr ⟨rfl,zHE a h⟩
theorem zDh (lt:S->List S):∀(A:List S),A.Pairwise (· < ·)->(∀a∈A,∀b∈A,a.length=b.length)->(∀a∈A,(lt a).Pairwise (· < ·))->(A.flatMap fun t=>(lt t).map (t++·)).Pairwise (· < ·)
 | [],_,_,_=>by simp
 |a::A,f,g,i=>by
  rw[iw,iT]
  refine⟨dW _ (fun x y h=>zHE a h) (i a (aj ..)),zDh lt A (c9.mp f).2 (fun x c y d=>g x (ar _ c) y (ar _ d)) (fun x c=>i x (ar _ c)),fun x c y d=>?_⟩
  obtain⟨l,_,rfl⟩:=az.mp c
  obtain⟨b,j,e⟩:=bx.mp d
  obtain⟨m,_,rfl⟩:=az.mp e
  exact zDg l m (g a (aj ..) b (ar _ j)) ((c9.mp f).1 b j)
theorem AllT.start (ps:List (S×S))(o n:Nat):AllT ps o n 0 [[]]:=by
 refine⟨by simp,fun t a=>?_,fun t a _ _=>?_⟩
 ·have:t=[]:=by simpa using a
  rw[this];exact⟨rfl,(fun q b=>by cases b),fun h=>absurd h (bP _)⟩
 ·rw[cw.mp a];exact bK _
theorem AllT.step {ps:List (S×S)}{o n i:Nat}{A:List S}(p:uB ps)(h:AllT ps o n i A)(hi:i<n)(lt:S->List S)(r:∀t∈A,(lt (zE t o)).Pairwise (· < ·))(g:∀t∈A,∀l,l∈lt (zE t o)↔l≠[]/\(zE t o,l)∈ps/\Cl ps o (n- (i+1)) (zE (zE t o++l) o)) :
  AllT ps o n (i+1) (A.flatMap fun t=>(lt (zE t o)).map (t++·)):=by
 refine⟨zDh (fun t=>lt (zE t o)) A h.ris (fun a s b v=>by rw[(h.snd a s).1,(h.snd b v).1]) r,fun t w=>?_,fun t g1 g2 g3=>?_⟩
 ·obtain⟨u,d,x⟩:=bx.mp w
  obtain⟨l,hl,rfl⟩:=az.mp x
  obtain⟨g1,g2,g3⟩:=h.snd u d
  obtain⟨k1,k2,k3⟩:=(g u d l).mp hl
  obtain⟨c,rfl⟩:=gE (p _ _ k2) k1
  rw[zAU]at k3
  refine⟨by rw[aE,g1];rfl,fun q e=>?_,fun _=>k3⟩
  rw[zAV]at e
  rcases bG.mp e with z|z
  ·exact g2 q z
  ·have:q=(zE u o,[c]):=by simpa using z
   rw[this];exact k2
 ·have f:t≠[]:=fun z=>by rw[z]at g1;cases g1
  obtain⟨u,c,rfl⟩:∃u c,t=u++[c]:=zBr f
  rw[aE,cG]at g1
  rw[zAV]at g2
  have j:(zE u o,[c])∈ps:=g2 _ (aS _ (bK _))
  have m:Cl ps o (n- (i+1)) (zE (zE u o++[c]) o):=by rw[zAU];exact g3
  have d:u∈A:=h.cmp u (by omega) (fun q e=>g2 q (bJ _ e)) (by
   rw[show n-i=(n- (i+1))+1 by omega]
   exact⟨[c],by simp,j,m⟩)
  exact bx.mpr ⟨u,d,az.mpr ⟨[c],(g u d [c]).mpr ⟨by simp,j,m⟩,rfl⟩⟩
theorem AllT.made {ps:List (S×S)}{o n:Nat}{A:List S}(h:AllT ps o n n A)(i:0<n):A.Nodup/\∀x,x∈A↔uC ps o n x:=by
 refine⟨h.ris.imp fun{a b} z e=>by rw[e]at z;exact ju _ z,fun x=>?_⟩
 unfold uC
 rw[zBq]
 constructor
 ·intro j
  obtain⟨f,c,d⟩:=h.snd x j
  have d:=d i
  rw[jg]at d
  refine⟨f,fun q g=>?_⟩
  rcases bG.mp g with z|z
  ·exact c q z
  ·have:q=(zE x o,[]):=by simpa using z
   rw[this];exact d
 ·rintro⟨f,c⟩
  refine h.cmp x f (fun q g=>c q (bJ _ g)) ?_
  rw[jg]
  exact c _ (aS _ (bK _))
end Kn
end
section
namespace Kn.Ln
open PySem L2 Kn
theorem zMj {K:ae}{x z:Str}{t:Tok}(h:aZ K mainGlobals x=some (some (.str z t))):∃t,aZ K mainGlobals x=some (some (.str z t)):=⟨t,h⟩
def yJ (f:ah)(H H':Hp):Prop:=∀b u,b≠f->H b=some u->H' b=some u
theorem yJ.refl {f:ah}(H:Hp):yJ f H H:=fun b u _ h=>h
theorem yJ.updf {f:ah}{H H':Hp}{u:HO}(s:yJ f H H'):yJ f H (upd H' f u):=fun b v a e=>by rw[zG a];exact s b v a e
theorem yJ.trans {f:ah}{H H' a:Hp}(s:yJ f H H')(t:yJ f H' a):yJ f H a:=fun b v c e=>t b v c (s b v c e)
theorem yJ.of {f:ah}{H H':Hp}(s:zA H H'):yJ f H H':=fun b v _ e=>s b v e
theorem yJ.seqT {K:ae}{f:ah}{H H':Hp}{a:ah}{xs:List V}(s:yJ f H H')(c:∀ys,¬Rd H f (.tup ys))(h:yN K H a xs):yN K H' a xs:=by
 rcases h with h|h
 ·have b:a≠f:=fun z=>by subst z;exact c _ h
  rcases h with h|⟨o,h⟩
  ·exact .inl (.inl (s _ _ b h))
  ·exact .inl (.inr ⟨o,s _ _ b h⟩)
 ·exact .inr h
theorem yJ.frA {K:ae}{f:ah}{H H':Hp}{v:V}{q:Int×Int}(s:yJ f H H')(b:∀ys,¬Rd H f (.tup ys))(h:yO K H v q):yO K H' v q:=by
 obtain⟨a,rfl,h⟩:=h
 exact⟨a,rfl,s.seqT b h⟩
theorem gW {H:Hp}{f:ah}{kvs:List (zK×V)}(h:H f=some (.dK kvs)):∀ys,¬Rd H f (.tup ys):=fun ys z=>by
 rcases z with z|⟨o,z⟩<;>rw[h]at z<;>cases z
abbrev yF (ps:List (S×S))(e:S):List S:=(yE ps e).map (·.1)
theorem uV (ps:List (S×S))(e l:S):l∈yF ps e↔(e,l)∈ps:=by
 constructor
 ·intro h
  obtain⟨⟨a,n⟩,b,rfl⟩:=az.mp h
  obtain⟨c,d⟩:=(zBk ps e a n).mp b
  have f:0<ps.count (e,a):=by rw[c]at d;omega
  exact cK.mp f
 ·intro h
  exact az.mpr ⟨(l,(ps.count (e,l):Int)),(zBk ps e l _).mpr ⟨rfl,by have:=cK.mpr h;omega⟩,rfl⟩
theorem lts (ps:List (S×S)):Lts ps (yF ps):=⟨fun e=>jA ps e,fun e l=>uV ps e l⟩
theorem kK (o:Nat)(bk:List S):uB (zC o bk):=fun e l h=>gR h
theorem zBv (ps:List (S×S))(e:S):(yE ps e).length<=ps.length:=by
 have a:=gU (yF ps e) (ps.map (·.2)) (jA _ _) fun l hl=>az.mpr ⟨_,(uV _ _ _).mp hl,rfl⟩
 rw[aa,aa]at a
 exact a
theorem zHF (x:S)(l:List S):qF (sv x) (zP l)=decide (x∈l):=by
 unfold qF zP
 rw[rA]
 induction l with
 |nil=>simp
 |cons y l ih=>
  rw[eV,ih]
  have e:qT (sv y) (sv x)=decide (x=y):=by
   show((tx y)==(tx x))=_
   by_cases z:x=y
   ·subst z;simp
   ·rw[decide_eq_false z,beq_eq_false_iff_ne]
    exact fun q=>z (qK q).symm
  show(qT (sv y) (sv x)||_)=_
  rw[e]
  by_cases z:x=y
  ·subst z;simp
  ·simp[z]
theorem zHG (l:List S):(zP l).all jG=true:=by
 unfold zP
 rw[l6]
 exact cg.mpr fun _ _=>rfl
theorem uD {ys:St}(h:ys.length=1):∃y,ys=[y]:=by
 match ys,h with
 | [y],_=>exact⟨y,rfl⟩
def jB (K:ae)(H:Hp)(pd:ah)(ps:List (S×S))(f:S->S->Int×Int)(r:S×ah×List (S×V)):Prop :=
 r.2.1≠pd/\H r.2.1=some (.dK (zT id r.2.2))/\r.2.2.map (·.1)=yF ps r.1/\∀q∈r.2.2,yO K H q.2 (f r.1 q.1)
def kL (K:ae)(H:Hp)(pd:ah)(ps:List (S×S))(f:S->S->Int×Int):Prop:=∃pa:List (S×ah×List (S×V)),pa.map (·.1)=(vH ps).map (·.1)/\H pd=some (.dK (zT (fun v:ah×List (S×V)=>V.ref v.1) pa))/\∀r∈pa,jB K H pd ps f r
theorem jB.same {K:ae}{H H':Hp}{a:ah}{ps:List (S×S)}{f:S->S->Int×Int}{r:S×ah×List (S×V)}(h:jB K H a ps f r)(e:zA H H'):jB K H' a ps f r :=
 ⟨h.1,e _ _ h.2.1,h.2.2.1,fun q b=>(h.2.2.2 q b).same e⟩
theorem kL.same {K:ae}{H H':Hp}{a:ah}{ps:List (S×S)}{f:S->S->Int×Int}(h:kL K H a ps f)(e:zA H H'):kL K H' a ps f:=by
 obtain⟨b,c,d,g⟩:=h
 exact⟨b,c,e _ _ d,fun r i=>(g r i).same e⟩
theorem jB.sameX {K:ae}{H H':Hp}{a:ah}{ps:List (S×S)}{f:S->S->Int×Int}{r:S×ah×List (S×V)}(h:jB K H a ps f r)(hd:∀ys,¬Rd H a (.tup ys))(e:yJ a H H'):jB K H' a ps f r :=
 ⟨h.1,e _ _ h.1 h.2.1,h.2.2.1,fun q b=>e.frA hd (h.2.2.2 q b)⟩
theorem zAW {ps:List (S×S)}{ra:List (S×ah×List (S×Int))}(h:ra.map (fun r=>(r.1,r.2.2))=vH ps){r:S×ah×List (S×Int)}(a:r∈ra):r.2.2=yE ps r.1:=by
 have b:(r.1,r.2.2)∈vH ps:=by rw[<-h];exact az.mpr ⟨r,a,rfl⟩
 have c:=(vG (yT ps).nd _ _).mp b
 unfold yE
 rw[c];rfl
theorem zBw {ps:List (S×S)}:(vH ps).length<=ps.length:=by
 have a:=gU ((vH ps).map (·.1)) (ps.map (·.1)) (yT ps).nd fun e b=>by
  obtain⟨⟨c,row⟩,d,rfl⟩:=az.mp b
  obtain⟨l,hl⟩:=((yT ps).has c).mp ⟨row,(vG (yT ps).nd _ _).mp d⟩
  exact az.mpr ⟨_,hl,rfl⟩
 rw[aa,aa]at a
 exact a
theorem zMk {ra:List (S×ah×List (S×Int))}{row:List (S×Int)}(h:zT (fun v:ah×List (S×Int)=>V.ref v.1) ra=zN row):ra=[]:=by
 cases ra with
 |nil=>rfl
 |cons r ra=>
  cases row with
  |nil=>cases h
  |cons q row=>
   have a:=(lq h).1
   have b:V.ref r.2.1=V.int q.2:=(cD a).2
   cases b
theorem zAz {H:Hp}{d:ah}{ra:List (S×ah×List (S×Int))}(hd:H d=some (.dK (zT (fun v:ah×List (S×Int)=>V.ref v.1) ra)))(b:∀r∈ra,H r.2.1=some (.dK (zN r.2.2))):∀r∈ra,r.2.1≠d:=fun r a z=>by
 have h:=b r a
 rw[z,hd]at h
 have:=zMk (HO.dK.inj (ay h))
 rw[this]at a;cases a
section
variable{P:aJ}{w:aV}{K:ae}{mg:Str->Option ag}{base:bC}
abbrev zDi:cp:=top 37
theorem zMl:FnScope ["weight","part"] ["weight","part"] (defScope zDi):=yD
def zDj (K:ae):Sp:=fun vs H Q _=>∃(x:Int) (v:V) (q:Int×Int),vs=[.int x,v]/\yO K H v q/\0<=q.1/\q.1<1000000/\0<q.2/\q.2<1000000/\Q (.int (zX x q)) H
theorem zMm {f:ah}{fd:aX}(F:Fun K "left_of" "left_of" zDi f fd):FnOk P w K mg base z7 1 f fd ["weight","part"] (zDj K):=by
 refine F.ok zMl (fun vs H Q E h=>?_) (fun c A outer s H vs Q E e h=>?_)
 ·obtain⟨x,v,q,rfl,_⟩:=h;rfl
 ·obtain⟨x,v,q,rfl,⟨a,rfl,b⟩,g,i,d,j,k⟩:=h
  refine⟨_,zO (zZ (zR zAC (zR qQ (pv 0) (uY zAl (pv 1) zI (fun _ _=>rfl))) (uY zAl (pv 1) zI (fun _ _=>rfl)))),?_⟩
  exact⟨_,rfl,_,rfl,a,_,0,_,rfl,rfl,b,rfl,_,_,rfl,rfl,.inr ⟨by omega,by omega⟩,_,rfl,a,_,1,_,rfl,rfl,b,rfl,_,_,rfl,rfl,⟨d,by omega⟩,k⟩
abbrev zDk:cp:=top 38
theorem zMn:FnScope ["letter","wanted"] ["letter","wanted"] (defScope zDk):=yD
def zHH:Sp:=fun vs H Q _=>∃(l x:S),vs=[sv l,sv x]/\∀H',zA H H'->Q (.bl (mf x l)) H'
theorem zMo {f:ah}{fd:aX}(F:Fun K "may_follow" "may_follow" zDk f fd)(a:∃t,mg "ANY"=some (.str "" t)):FnOk P w K mg base z7 1 f fd ["letter","wanted"] zHH:=by
 obtain⟨u,a⟩:=a
 refine F.ok zMn (fun vs H Q E h=>?_) (fun g A outer s H vs Q E j h=>?_)
 ·obtain⟨x,v,rfl,_⟩:=h;rfl
 ·obtain⟨l,x,rfl,k⟩:=h
  refine⟨_,zO (zZ (zJa (zAD gI (pv 0) vB (vD _)) (zJZ (zAD zFT (pv 1) (uN (zB (vC (v:=.str "") (by rfl) a ⟨_,rfl⟩) (zB (pv 0) zD))) (by with_unfolding_all rfl))))),?_⟩
  refine⟨_,rfl,rfl,_,rfl,?_⟩
  by_cases hl:l=[]
  ·subst hl
   refine k9 rfl ?_
   have e:mf x []=false:=by unfold mf;simp
   have:=k H (zA.refl H)
   rw[e]at this
   exact this
  ·have b:¬V.str (tx l)=V.str "" :=fun z=>hl (qK (V.str.inj z))
   refine zAP b ⟨_,rfl,_,rfl,by show 2<=sizeLine;decide,fun p i=>⟨p,zP [[],l],rfl,.inr (.of zF),rfl,zHG _,?_⟩⟩
   have e:(if false=true then !qF (sv x) (zP [[],l])else qF (sv x) (zP [[],l]))=mf x l:=by
    rw[if_neg (by simp),zHF]
    unfold mf
    rw[decide_eq_true hl,nC]
    by_cases c:x=[]
    ·subst c;simp
    ·by_cases d:x=l
     ·subst d;simp
     ·simp[c,d]
   show Q (.bl (if false=true then !qF (sv x) (zP [[],l])else qF (sv x) (zP [[],l]))) _
   rw[e]
   exact k _ (zA.upd1 i)
abbrev zDl:cp:=top 36
theorem zHI:FnScope ["rows","parts","end","row"] ["rows"] (defScope zDl):=yD
theorem zMp:(["letter"]:List Str).Nodup:=by decide+kernel
def zHJ (K:ae):Sp:=fun vs H Q _=>∃(d:ah) (ps:List (S×S)),vs=[.ref d]/\qL H d ps/\ps.length<900/\∀pd H',zA H H'->H pd=none->kL K H' pd ps (fun _ _=>(1,1))->Q (.ref pd) H'
theorem zHK {row:List (S×Int)}{i:Nat}{x:V}(h:((zN row).map fun p=>kV p.1)[i]?=some x):∃(hi:i<row.length),x=sv row[i].1:=by
 unfold zN zT yW at h
 rw[aq,aq,aq]at h
 cases e:row[i]? with
 |none=>rw[e]at h;cases h
 |some q=>
  rw[e]at h
  obtain⟨hi,a⟩:=af.mp e
  refine⟨hi,?_⟩
  rw[a]
  exact(ay h).symm
theorem zHL (a:List (S×V)):yW (a.map fun q=>(tx q.1,q.2))=zT id a:=rfl
theorem zMq {f:ah}{fd:aX}(F:Fun K "even_parts" "even_parts" zDl f fd)(C:Cst2 K mg)(bm:mg "dict"=none):FnOk P w K mg base z7 1 f fd ["rows"] (zHJ K):=by
 obtain⟨n,hW,tW⟩:=C.whole
 refine F.ok zHI (fun vs H Q E h=>?_) (fun b2 A outer s H vs Q E hr h=>?_)
 ·obtain⟨d,ps,rfl,_⟩:=h;rfl
 ·obtain⟨d,ps,rfl,⟨ra,r1,r2,r3⟩,b3,k⟩:=h
  have hu:=uT hr
  have nd:=zHI.nd
  refine⟨_,zJ (zV (i:=1) nd rfl (Or.inl rfl) j7)
   (zJ (zAT (vS bF rfl (zAS (gQ K rfl bY cJ dj zAM (pv 0)))
     (kZ rfl (uF (z0 (i:=2) nd rfl (Or.inl rfl)) (uF (z0 (i:=3) nd rfl (Or.inl rfl)) kY)))
     (zO (gO hu (pv 1) (pv 2) (zCX (zGJ rfl) (by rfl) bm l7 (zB
      (zAR (vE (N:=["letter"]) (caps:=[]) rfl (y9 (by kernel_rfl)) (zAu (pv 3)) (fun cl X s H ex=>z0 (i:=0) zMp rfl (Or.inl rfl)) (fun cl X s H ex=>uI) (fun cl X s H ex=>uN (zB (pv 0) (zB (vC (v:=.ref n) (by rfl) hW rfl) zD))))) zD)) rfl))))
   (zO (zZ (pv 1)))),?_⟩
  intro l ab
  have aK:zA H (upd H l (.dK [])):=zA.upd1 ab
  have J:=aK _ _ r2
  have L:l≠d:=(yI r2 ab).symm
  refine⟨d,_,J,?_⟩
  refine⟨_,rfl,.inr (.inr (.inl ⟨rfl,.inl ⟨_,J⟩⟩)),d,_,rfl,rfl,J,fun p hp=>?_⟩
  have b4:H p=none:=aK.free hp
  have a3:p≠l:=fun z=>by subst z;rw[zF]at hp;cases hp
  have a4:zA (upd H l (.dK [])) (upd (upd H l (.dK [])) p (VW p d)):=zA.upd1 hp
  refine⟨p,d,_,rfl,zF,a4 _ _ J,fun ob=>?_⟩
  generalize aN:zT (fun v:ah×List (S×Int)=>V.ref v.1) ra=kvs at r2 J
  generalize a5:upd (upd (upd H l (.dK [])) p (VW p d)) d (.frz ob (.dK kvs))=H3
  have s3:zA (upd H d (.frz ob (.dK kvs))) H3:=fun b u e=>by
   rw[<-a5]
   by_cases hb:b=d
   ·subst hb;rw[zF]at e⊢;exact e
   ·rw[zG hb]at e⊢
    exact a4 _ _ (aK _ _ e)
  have a6:H3 l=some (.dK (zT (fun v:ah×List (S×V)=>V.ref v.1) [])):=by
   rw[<-a5,zG L,zG a3.symm,zF];rfl
  have ao:upd H d (.frz ob (.dK kvs)) l=none:=by rw[zG L];exact ab
  have bn:=zAz (by rw[aN];exact r2) r3
  have b5:ra.length<=ps.length:=by
   have M:=zBw (ps:=ps)
   rw[<-r1,aa]at M;exact M
  refine zAv (fun i σ H'=>(∃x2 x3:Option V,σ=[some (.ref d),some (.ref l),x2,x3])/\zA (upd H d (.frz ob (.dK kvs))) H'/\∃y:List (S×ah×List (S×V)),H' l=some (.dK (zT (fun v:ah×List (S×V)=>V.ref v.1) y))/\y.map (·.1)=(ra.take i).map (·.1)/\∀r∈y,jB K H' l ps (fun _ _=>(1,1)) r)
   ⟨⟨_,_,rfl⟩,s3,[],a6,rfl,fun r hr=>by cases hr⟩ (fun i σ H' _ h=>h.2.1 _ _ zF) ?_ ?_
  ·rintro i q T σ H' Nx hN O ⟨⟨x2,x3,rfl⟩,sm,y,aW,B,a0⟩ hT
   rw[<-aN]at O
   unfold zT yW at O
   rw[aq,aq]at O
   cases ei:ra[i]? with
   |none=>rw[ei]at O;cases O
   |some c=>
   rw[ei]at O
   have hq2:q=(Sum.inr (tx c.1),V.ref c.2.1):=(ay O).symm
   subst hq2
   have R:c∈ra:=aT ei
   have hi:i<ra.length:=(af.mp ei).1
   have a7:ra.take (i+1)=ra.take i++[c]:=by rw[ak hi,(af.mp ei).2]
   have U:=zAW r1 R
   have ac:upd H d (.frz ob (.dK kvs)) c.2.1=some (.dK (zN c.2.2)):=by rw[zG (bn c R)];exact r3 c R
   refine⟨T,[sv c.1,.ref c.2.1],rfl,.of zF,rfl,_,_,rfl,_,_,rfl,rfl,?_⟩
   generalize bt:upd H' T (HO.tup [kV ((Sum.inr (tx c.1):zK),V.ref c.2.1).1,((Sum.inr (tx c.1):zK),V.ref c.2.1).2])=H4
   have s4:zA H' H4:=by rw[<-bt];exact zA.upd1 hT
   have hr4:H4 c.2.1=some (.dK (zN c.2.2)):=s4 _ _ (sm _ _ ac)
   have bv:=sm.trans s4
   have ap:=s4 _ _ aW
   have a8:∀r∈y,jB K H4 l ps (fun _ _=>(1,1)) r:=fun r hr=>(a0 r hr).same s4
   have b6:c.2.1≠l:=fun z=>by rw[z]at ac;rw[ao]at ac;cases ac
   refine⟨c.2.1,zN c.2.2,hr4,_,rfl,c.2.1,_,rfl,hr4,fun al=>?_⟩
   have W:((zN c.2.2).map fun p=>kV p.1).length=c.2.2.length:=by rw[aa];exact vT _ _
   have hl2:c.2.2.length<=ps.length:=by rw[U];exact zBv ps c.1
   refine uP (zBp c.2.1 al (zN c.2.2)) [] 1 (by rw[W];omega) (fun j g I=>zA (upd H4 c.2.1 (.frz al (.dK (zN c.2.2)))) I/\g.length=j/\∀(m:Nat) (x:S×Int),(c.2.2.take j)[m]?=some x->∃a,g[m]?=some (.ref a)/\I a=some (.tup [sv x.1,.ref n]))
    ⟨zA.refl _,rfl,fun m x hm=>by simp at hm⟩ (fun j g I _ h=>⟨h.1 _ _ zF,d4 h.2.1⟩) ?_ ?_
   ·rintro j x g I ys b7 bA hx hy ⟨sj,Y,am⟩
    obtain⟨y',rfl⟩:=uD hy
    obtain⟨hj,rfl⟩:=zHK hx
    refine⟨_,rfl,by show 2<=sizeLine;decide,fun t ht=>?_⟩
    have s6:zA I (upd I t (.tup [sv c.2.2[j].1,.ref n])):=zA.upd1 ht
    refine bA _ _ [some (sv c.2.2[j].1)] rfl ⟨sj.trans s6,by rw[aE,Y];rfl,fun m x hm=>?_⟩
    rw[ak hj]at hm
    have bH:(c.2.2.take j).length=j:=by rw[aO];omega
    by_cases b9:m<j
    ·rw[bI (by omega)]at hm
     obtain⟨a,M,G⟩:=am m x hm
     exact⟨a,by rw[bI (by omega)];exact M,s6 _ _ G⟩
    ·rw[bw (by omega),bH]at hm
     have a9:m-j=0:=by
      have:=(af.mp hm).1
      simp at this;omega
     rw[a9]at hm
     have hx2:c.2.2[j]=x:=ay hm
     subst hx2
     exact⟨t,by rw[bw (by omega),Y,a9];rfl,zF⟩
   ·rintro g I ⟨sj,Y,am⟩ D hD
    rw[W,aU]at am
    rw[W]at Y
    have a1:I c.2.1=some (.frz al (.dK (zN c.2.2))):=sj _ _ zF
    have as:c.2.1≠D:=yI a1 hD
    have sD:zA I (upd I D (.lst g)):=zA.upd1 hD
    refine⟨al,by rw[zG as];exact a1,?_⟩
    have s7:zA H4 (upd (upd I D (.lst g)) c.2.1 (.dK (zN c.2.2))):=zA.thaw (sj.trans sD) hr4
    generalize be:upd (upd I D (.lst g)) c.2.1 (.dK (zN c.2.2))=H7 at s7
    have bL:H7 D=some (.lst g):=by rw[<-be,zG as.symm,zF]
    have bi:zBb K H7 g (c.2.2.map fun x=>(tx x.1,V.ref n)):=by
     refine⟨by rw[aa];exact Y,fun m x hm=>?_⟩
     rw[aq]at hm
     cases em:c.2.2[m]? with
     |none=>rw[em]at hm;cases hm
     |some x0=>
      rw[em]at hm
      have hx:(tx x0.1,V.ref n)=x:=ay hm
      subst hx
      obtain⟨a,M,G⟩:=am m x0 em
      have bS:a≠c.2.1:=fun z=>by rw[z,a1]at G;cases G
      exact⟨a,M,.of (by rw[<-be,zG bS];exact sD _ _ G)⟩
    refine⟨D,g,_,rfl,.of bL,bi,?_,by rw[aa];omega,fun Z an=>?_⟩
    ·have bT:(c.2.2.map (·.1)).Nodup:=by rw[U];exact jA ps c.1
     have e:iO (·.1) (c.2.2.map fun x=>(tx x.1,V.ref n))=(c.2.2.map (·.1)).map tx:=by rw[aP,aP];rfl
     rw[e]
     exact dW tx (fun a b bU z=>bU (qK z)) bT
    have s8:zA H7 (upd H7 Z (.dK (yW (c.2.2.map fun x=>(tx x.1,V.ref n))))):=zA.upd1 an
    have au:=s8 _ _ (s7 _ _ ap)
    refine⟨_,rfl,_,rfl,l,_,rfl,qV.k (k:=Sum.inr (tx c.1)) au (by rw[vT,<-aa (f:=(·.1)),B,aa,aO,aR];omega),?_⟩
    have ax:l≠Z:=yI (s7 _ _ ap) an
    have knd:(y.map (·.1)).Nodup:=by
     rw[B,d6]
     have h:=(yT ps).nd
     rw[<-r1,aP]at h
     exact h.sublist (dz _ _)
    have fresh:c.1∉y.map (·.1):=fun M=>by
     rw[B]at M
     have h:=(yT ps).nd
     rw[<-r1,aP]at h
     have G:((ra.take (i+1)).map (·.1)).Nodup:=by rw[d6];exact h.sublist (dz _ _)
     rw[a7,aC]at G
     exact(eQ.mp G).2.2 _ M _ (by simp) rfl
    have aA:=gB (fun v:ah×List (S×V)=>V.ref v.1) y c.1 (Z,c.2.2.map fun x=>(x.1,V.ref n)) knd
    have a2:zW y c.1 (Z,c.2.2.map fun x=>(x.1,V.ref n))=y++[(c.1,Z,c.2.2.map fun x=>(x.1,V.ref n))]:=gC y _ _ fresh
    rw[a2]at aA
    have sx:yJ l (upd H7 Z (.dK (yW (c.2.2.map fun x=>(tx x.1,V.ref n))))) (upd (upd H7 Z (.dK (yW (c.2.2.map fun x=>(tx x.1,V.ref n))))) l (.dK (vL (zT (fun v:ah×List (S×V)=>V.ref v.1) y) (Sum.inr (tx c.1)) (V.ref Z)))):=(yJ.refl _).updf
    refine hN _ _ ⟨⟨_,_,rfl⟩,fun b u e=>?_,y++[(c.1,Z,c.2.2.map fun x=>(x.1,V.ref n))],?_,?_,fun r hr=>?_⟩
    ·have hb:b≠l:=fun z=>by rw[z,ao]at e;cases e
     exact sx _ _ hb (s8 _ _ (s7 _ _ (bv _ _ e)))
    ·rw[zF]
     exact congrArg (fun z=>some (HO.dK z)) aA
    ·rw[aC,B,a7,aC];rfl
    ·rcases bG.mp hr with z|z
     ·exact(((a8 r z).same s7).same s8).sameX (gW au) sx
     ·have hr2:r=(c.1,Z,c.2.2.map fun x=>(x.1,V.ref n)):=b8.mp z
      subst hr2
      refine⟨ax.symm,?_,?_,fun q O=>?_⟩
      ·refine sx _ _ ax.symm ?_
       rw[zF,<-zHL,aP];rfl
      ·show iO (·.1) (c.2.2.map fun x=>(x.1,V.ref n))=_
       rw[aP,U];rfl
      ·obtain⟨x,_,rfl⟩:=az.mp O
       exact⟨n,rfl,tW _⟩
  ·rintro σ H' ⟨⟨x2,x3,rfl⟩,sm,y,aW,B,a0⟩
   refine⟨ob,sm _ _ zF,_,rfl,?_⟩
   have bl:zA H (upd H' d (.dK kvs)):=zA.thaw sm r2
   have b0:(zT (fun v:ah×List (S×Int)=>V.ref v.1) ra).length=ra.length:=vT _ _
   rw[<-aN,b0,aU]at B
   have b1:∀ys,¬Rd H' d (.tup ys):=fun ys z=>by
    have:=sm _ _ zF
    rcases z with z|⟨o,z⟩<;>rw[this]at z<;>cases z
   refine k l _ bl ab ⟨y,?_,?_,fun r hr=>?_⟩
   ·rw[B,<-r1,aP];rfl
   ·rw[zG L];exact aW
   ·obtain⟨M,G,h3,h4⟩:=a0 r hr
    have an:r.2.1≠d:=fun z=>by
     rw[z]at G
     rw[sm _ _ zF]at G;cases G
    have sx:yJ d H' (upd H' d (.dK kvs)):=(yJ.refl _).updf
    exact⟨M,by rw[zG an];exact G,h3,fun q O=>sx.frA b1 (h4 q O)⟩
end
end Kn.Ln
end
section
namespace L2
open PySem PySem.Spec PyProof.Rows
section
variable{X:Cx}
def zMr:V->List V->Hp->VK->Prop:=fun x vs H Q=>∃d kvs,x=.ref d/\vs=[]/\Rd H d (.dK kvs)/\∀p,H p=none->Q (.ref p) (upd H p (qW p d))
theorem zHM:k8 X "dict.values" zMr:=by
 intro c s σ H x vs v i Q I f g h
 obtain⟨d,kvs,rfl,rfl,hd,q⟩:=h
 cases f
 have a:=g.zero
 subst a
 obtain⟨z,hm,j,rel,dd⟩:=uO I.hok hd
 refine il dI dd.typeIs ke (jw _) (n0 (vF X.prog X.w) d hm) ⟨⟨_,dd⟩,?_⟩
 refine⟨.ref s.heap.objs.size,_,I.laid (t':=s.toks) (o:=qW s.heap.objs.size d) (fun b o e=>ai _ e) (aD _) ?_,rfl,q _ (I.hok.fresh (aD _))⟩
 exact⟨aM _ rfl,⟨_,aM _ rfl⟩,fun l m e k=>k _ e⟩
theorem zHN (J:X.calm=true):uG X (.builtin "sum") (fun xs H Q=>∃(p d:ah) (a:List (zK×Int)),xs=[.ref p]/\H p=some (qW p d)/\Rd H d (.dK (a.map fun q=>(q.1,V.int q.2)))/\Q (.int (a.map (·.2)).sum) H):=by
 intro E s σ H xs T Q I r h
 obtain⟨p,d,a,rfl,L,hd,q⟩:=h
 obtain⟨u,rfl,M⟩:=qR r
 cases M
 obtain⟨z,hm,m,rel,dd⟩:=uO I.hok hd
 obtain⟨F,_,_⟩:=I.hok p _ L
 obtain⟨ep,c⟩:=dd.dictAt
 have j:m.length=a.length:=by have:=rel.length;simpa using this.symm
 have y:∀(i:Nat) (v:ag),(∃k,m[i]?=some (k,v))->∃t,v=Value.int ((a.map (·.2)).getD i 0) t:=fun i v ⟨k,e⟩=>by
  obtain⟨x,l,N⟩:=KV.get rel e
  rw[aq]at l
  cases g:a[i]? with
  |none=>rw[g]at l;cases l
  |some n=>
   rw[g]at l
   have B:(n.1,V.int n.2)=(k,x):=ay l
   have:x=V.int n.2:=(cD B).2.symm
   subst this
   obtain⟨t,rfl⟩:=N
   refine⟨t,?_⟩
   have:(a.map (·.2)).getD i 0=n.2:=by rw[bN,aq,g];rfl
   rw[this]
 have G:=PySem.W.kdl_values (knd:=vF X.prog X.w) (kvs:=m) (ep:=ep) (r:=p) (d:=d)
 obtain⟨O,St,hit,W,st⟩:=G.iter X.A.in1 s (I.ok.hd J) ⟨⟨_,F,rfl,rfl⟩,c⟩
 have C:=G.there s.heap ⟨⟨_,F,rfl,rfl⟩,c⟩
 refine nZ (hit _ _ ⟨s.heap.objs.size,_,_,_,m.length,_,_,fun i=>(a.map (·.2)).getD i 0,rfl,W.toS,st,fun b D=>?_,y,fun s' t' hm=>?_⟩)
 ·show b<(s.heap.push O).objs.size
  rw[size_push']
  rcases aL.mp D with e|D
  ·rw[e];exact fh _
  ·rw[b8.mp D];exact cX C.2
 have P:∀b o,s.heap.get? b=some o->s'.heap.get? b=some o:=fun b o e=>
  hm.heap b o (fun R=>absurd (aI e) (by rw[b8.mp R];exact bP _)) (ai _ e)
 rw[nB hm]
 refine⟨.int (a.map (·.2)).sum,H,I.kept (h':=s'.heap) (t':=s'.toks) P,⟨t',?_⟩,q⟩
 rw[j,<-aa (f:=(·.2)) (as:=a),zCr _ _ (aD _),aU]
def zMs (r:V->List V->Hp->VK->Prop)(to:TE):TE:=fun σ H Q=>to σ H fun x H1=>∃a,x=.ref a/\IsD H1 a/\r x [] H1 Q
theorem zHO {o:bV}{i:TE}{name:Str}{apos b:Pos}{id:String}{r:V->List V->Hp->VK->Prop}(slot:Slot "dict" name id)(g:typeOf (.builtin id)=pure (.type "method_descriptor"))(hm:MtR X id r)(l:PE X o i)
  (e:attributeBase o name X.env (eval o X.env)=eval o X.env:=by rfl) (f:(apos.endLine==b.line)=true:=by rfl):PE X (.Call (.Attribute o name apos) [] [] b) (zMs r i):=by
 intro c s σ H Q I h
 refine lB e f (zH (l c s σ H _ I h) fun v m ⟨x,n,j,p,a,ex,d,q⟩=>?_)
 subst ex
 cases p
 obtain⟨t,u,_⟩:=zFj j d
 exact⟨"dict",id,bY,slot,g,t,u,fu rfl (ng (hm c m σ n (.ref a) [] _ [] Q j (show zQ (.ref a) (.ref a)from rfl) .nil q))⟩
def zMt (tk tv:TE):TE:=fun σ H Q=>∀p,H p=none->tk σ (upd H p (.dK [])) fun x H1=>tv σ H1 fun y H2=>H2 p=some (.dK [])/\∃k:zK,x=kV k/\Q (.ref p) (upd H2 p (.dK [(k,y)]))
theorem zMu {k v:bV}{pos:Pos}{tk f:TE}(m:PE X k tk)(n:PE X v f):PE X (.Dict [some k] [v] pos) (zMt tk f):=by
 intro b s σ H Q I q
 have p:=I.hok.fresh (aD s.heap.objs.size)
 have r:=I.laid (a:=s.heap.objs.size) (o:=.dK []) (h':=s.heap.push {cls:=.type "dict",data:=.dict #[]}) (t':=s.toks) (fun _ _ q=>ai _ q) (aD _) (zFh s.heap I.big)
 have t:PPs X pos [some k] [v] [(tk,f)]:=zKn m n zKm
 refine wpAny_Dict_any rfl rfl (by simp) (by simp) (zH (t b _ σ _ (fun ps g=>match ps with| [(x,y)]=>g s.heap.objs.size=some (.dK [])/\∃e:zK,x=kV e/\Q (.ref s.heap.objs.size) (upd g s.heap.objs.size (.dK [(e,y)]))|_=>False) r (q _ p)) fun F G ⟨ps,g,i,rel,c⟩=>?_)
 match ps,rel,c with
 | [(x,y)],rel,c=>
  obtain⟨j,e,ex,c⟩:=c
  cases rel with
  | @cons _ l _ u h A=>
  cases A
  obtain⟨J,l⟩:=l
  obtain⟨h,B⟩:=h
  subst ex
  obtain⟨z,hd,vs,rel,dd⟩:=j4 i.hok j
  cases rel
  unfold storeAll
  rw[mq]
  refine aw (aw (nh (knd:=vF X.prog X.w) (hsz:=bQ _) (gM h) dd (fun h' d C=>aH ?_)))
  show wpAny _ _ (forIn [] _ _) _ _ _
  rw[mP]
  refine aH ⟨.ref s.heap.objs.size,_,?_,rfl,c⟩
  have D:∃q,h'.get? s.heap.objs.size=some q:=let⟨q,_,_,E,_⟩:=d;⟨q,E⟩
  exact zBS i (by rw[j];exact True.intro) C D (zBT (by show 1<=sizeLine;decide) hd (KV.put .nil e B) d)
end
end L2
end
section
namespace Kn.Ln
open PySem L2 Kn
def uJ (row:List (S×Int))(vv:List V):List (S×V):=(row.map (·.1)).zip vv
def qM (row:List (S×Int))(vv:List V):List (Str×V):=(uJ row vv).map fun q=>(tx q.1,q.2)
theorem zHP {row:List (S×Int)}{a:List V}(h:row.length=a.length):(uJ row a).map (·.1)=row.map (·.1):=by
 unfold uJ
 exact List.map_fst_zip (by rw[aa];omega)
theorem zMv {row:List (S×Int)}{a:List V}(h:row.length=a.length):(qM row a).map (·.1)=(row.map (·.1)).map tx:=by
 unfold qM
 rw[<-zHP h,aP,aP];rfl
theorem zHQ {row:List (S×Int)}{a:List V}(h:row.length=a.length):(qM row a).length=row.length:=by
 unfold qM uJ
 rw[aa,List.length_zip,aa];omega
theorem zHR {row:List (S×Int)}{b:List V}{m:Nat}{q:S×V}(h:(uJ row b)[m]?=some q):∃(x:S×Int) (v:V),row[m]?=some x/\b[m]?=some v/\q=(x.1,v):=by
 unfold uJ at h
 rw[List.getElem?_zip_eq_some]at h
 obtain⟨a,c⟩:=h
 rw[aq]at a
 cases e:row[m]? with
 |none=>rw[e]at a;cases a
 |some x=>
  rw[e]at a
  exact⟨x,q.2,rfl,c,Prod.ext (ay a).symm rfl⟩
theorem zMw {row:List (S×Int)}{a:List V}{m:Nat}{q:Str×V}(h:(qM row a)[m]?=some q):∃(x:S×Int) (v:V),row[m]?=some x/\a[m]?=some v/\q=(tx x.1,v):=by
 unfold qM at h
 rw[aq]at h
 cases e:(uJ row a)[m]? with
 |none=>rw[e]at h;cases h
 |some r=>
  rw[e]at h
  obtain⟨x,v,b,c,rfl⟩:=zHR e
  exact⟨x,v,b,c,(ay h).symm⟩
theorem zMx {row:List (S×Int)}{a:List V}{q:S×V}(h:q∈uJ row a):∃(m:Nat) (x:S×Int) (v:V),row[m]?=some x/\a[m]?=some v/\q=(x.1,v):=by
 obtain⟨m,hm,e⟩:=dD h
 obtain⟨x,v,b,c,d⟩:=zHR (af.mpr ⟨hm,e⟩)
 exact⟨m,x,v,b,c,d⟩
theorem zMy (row:List (S×Int))(a:List V):yW (qM row a)=yW ((uJ row a).map fun q=>(tx q.1,q.2)):=rfl
section
variable{P:aJ}{w:aV}{K:ae}{mg:Str->Option ag}{base:bC}
theorem zY.imp {k:Nat}{x:Str}{ps:List Str}{sp sp':Sp}(C:zY P w K mg base k x ps sp)(h:∀{vs H Q E},sp' vs H Q E->sp vs H Q E):zY P w K mg base k x ps sp' :=
 let⟨f,fd,F,r⟩:=C;⟨f,fd,F.imp fun _ _ _ _=>h,r⟩
def zHS (K:ae):Sp:=fun vs H Q _=>∃(d:ah) (ps:List (S×S)) (e l:S),vs=[.ref d,sv l]/\Rd H d (.dK (zN (yE ps e)))/\ps.length<1000/\∀v H',zA H H'->yO K H' v (zS ps e l)->Q v H'
theorem zMz {f:ah}{fd:aX}(F:Fun K "part_in" "part_in" zDO f fd)(B:Blt mg)(C:Cst2 K mg)(t:zY P w K mg base 2 "lowest" ["up","down"] zDM):FnOk P w K mg base z7 3 f fd ["row","letter"] (zHS K):=by
 obtain⟨m,u,x⟩:=C.nought
 refine F.ok zMA (fun vs H Q E h=>?_) (fun y A outer s H vs Q E n h=>?_)
 ·obtain⟨d,ps,e,l,rfl,_⟩:=h;rfl
 ·obtain⟨d,ps,e,l,rfl,hd,hl,k⟩:=h
  have r:=uT n
  refine⟨_,zJ (vX (zBK (zFg r (pv 1) (pv 0))) (zO (zZ (vC (v:=.ref m) (by rfl) u rfl))) vV)
   (zO (zZ (zU t n rfl (zB (j6 r (pv 0) (pv 1) (fun _ _=>rfl)) (zB (yH (zHN rfl) (by rfl) B.sum eB (zB (zHO dI gi zHM (pv 0)) zD)) zD))))),?_⟩
  have a:yV H d (sv l) (yM (zN (yE ps e)) (Sum.inr (tx l))):=.inl ⟨_,Sum.inr (tx l),hd,rfl,rfl⟩
  refine⟨_,rfl,_,rfl,d,_,rfl,a,_,rfl,?_⟩
  rw[v9,zAs]
  by_cases c:0<ps.count (e,l)
  ·rw[if_pos c]
   refine uH ?_
   rw[v9,zAs,if_pos c]at a
   refine⟨_,rfl,_,rfl,d,.int (ps.count (e,l):Int),rfl,a,?_⟩
   refine⟨_,rfl,d,rfl,.inl ⟨_,hd⟩,d,_,rfl,rfl,hd,fun p D=>?_⟩
   have b:zA H (upd H p (qW p d)):=zA.upd1 D
   have g:Rd (upd H p (qW p d)) d (.dK (zN (yE ps e))):=by
    rcases hd with z|⟨o,z⟩
    ·exact .inl (b _ _ z)
    ·exact .inr ⟨o,b _ _ z⟩
   refine⟨p,d,(yE ps e).map (fun q=>((Sum.inr (tx q.1):zK),q.2)),rfl,zF,?_,?_⟩
   ·have i:((yE ps e).map (fun q=>((Sum.inr (tx q.1):zK),q.2))).map (fun q=>(q.1,V.int q.2))=zN (yE ps e):=by
     unfold zN zT yW
     rw[aP,aP];rfl
    rw[i];exact g
   ·have i:(((yE ps e).map fun q=>((Sum.inr (tx q.1):zK),q.2)).map (·.2)).sum=(tot ps e:Int):=by
     rw[aP];exact zBl ps e
    rw[i]
    have G:=jJ ps e l
    have I:=tot_le ps e
    refine⟨_,_,rfl,by omega,by omega,by omega,fun J j=>k _ _ (b.trans (zA.upd1 j)) ?_⟩
    have:zS ps e l=low (ps.count (e,l):Int) (tot ps e:Int):=by unfold zS;rw[if_neg (by omega)]
    rw[this]
    exact yO.new
  ·rw[if_neg c]
   refine vM ?_
   have:zS ps e l=(0,1):=by unfold zS;rw[if_pos (by omega)]
   exact k _ _ (zA.refl H) (by rw[this];exact⟨m,rfl,x _⟩)
abbrev zDm:cp:=top 35
theorem zHT:FnScope ["rows","parts","end","row"] ["rows"] (defScope zDm):=yD
theorem zNA:(["row","letter"]:List Str).Nodup:=by decide+kernel
def zHU (K:ae):Sp:=fun vs H Q _=>∃(d:ah) (ps:List (S×S)),vs=[.ref d]/\qL H d ps/\ps.length<900/\∀pd H',zA H H'->H pd=none->kL K H' pd ps (zS ps)->Q (.ref pd) H'
theorem zNB {f:ah}{fd:aX}(F:Fun K "parts_by_rows" "parts_by_rows" zDm f fd)(cP:zY P w K mg base 3 "part_in" ["row","letter"] (zHS K))(bv:mg "dict"=none):FnOk P w K mg base z7 4 f fd ["rows"] (zHU K):=by
 refine F.ok zHT (fun vs H Q E h=>?_) (fun b6 A outer s H vs Q E hr h=>?_)
 ·obtain⟨d,ps,rfl,_⟩:=h;rfl
 ·obtain⟨d,ps,rfl,⟨ra,r1,r2,r3⟩,b7,k⟩:=h
  have hu:=uT hr
  have nd:=zHT.nd
  refine⟨_,zJ (zV (i:=1) nd rfl (Or.inl rfl) j7)
   (zJ (zAT (vS bF rfl (zAS (gQ K rfl bY cJ dj zAM (pv 0)))
     (kZ rfl (uF (z0 (i:=2) nd rfl (Or.inl rfl)) (uF (z0 (i:=3) nd rfl (Or.inr rfl)) kY)))
     (zO (gO hu (pv 1) (pv 2) (zCX (zGJ rfl) (by rfl) bv l7 (zB
      (zAR (vE (N:=["row","letter"]) (caps:=[3]) rfl (y9 (by kernel_rfl)) (zAu (pv 3)) (fun cl X s H ex=>z0 (i:=1) zNA rfl (Or.inl rfl)) (fun cl X s H ex=>uI) (fun cl X s H ex=>uN (zB (pv 1) (zB (zU cP hr rfl (zB (pv 0) (zB (pv 1) zD))) zD))))) zD)) rfl))))
   (zO (zZ (pv 1)))),?_⟩
  intro l al
  have aA:zA H (upd H l (.dK [])):=zA.upd1 al
  have R:=aA _ _ r2
  have U:l≠d:=(yI r2 al).symm
  refine⟨d,_,R,?_⟩
  refine⟨_,rfl,.inr (.inr (.inl ⟨rfl,.inl ⟨_,R⟩⟩)),d,_,rfl,rfl,R,fun p hp=>?_⟩
  have b9:H p=none:=aA.free hp
  have a3:p≠l:=fun z=>by subst z;rw[zF]at hp;cases hp
  have a4:zA (upd H l (.dK [])) (upd (upd H l (.dK [])) p (VW p d)):=zA.upd1 hp
  refine⟨p,d,_,rfl,zF,a4 _ _ R,fun ob=>?_⟩
  generalize aK:zT (fun v:ah×List (S×Int)=>V.ref v.1) ra=kvs at r2 R
  generalize a5:upd (upd (upd H l (.dK [])) p (VW p d)) d (.frz ob (.dK kvs))=H3
  have s3:zA (upd H d (.frz ob (.dK kvs))) H3:=fun b u e=>by
   rw[<-a5]
   by_cases hb:b=d
   ·subst hb;rw[zF]at e⊢;exact e
   ·rw[zG hb]at e⊢
    exact a4 _ _ (aA _ _ e)
  have a6:H3 l=some (.dK (zT (fun v:ah×List (S×V)=>V.ref v.1) [])):=by
   rw[<-a5,zG U,zG a3.symm,zF];rfl
  have ao:upd H d (.frz ob (.dK kvs)) l=none:=by rw[zG U];exact al
  have bA:=zAz (by rw[aK];exact r2) r3
  have ca:ra.length<=ps.length:=by
   have O:=zBw (ps:=ps)
   rw[<-r1,aa]at O;exact O
  refine zAv (fun i σ H'=>(∃x2 x3:Option V,σ=[some (.ref d),some (.ref l),x2,x3])/\zA (upd H d (.frz ob (.dK kvs))) H'/\∃C:List (S×ah×List (S×V)),H' l=some (.dK (zT (fun v:ah×List (S×V)=>V.ref v.1) C))/\C.map (·.1)=(ra.take i).map (·.1)/\∀r∈C,jB K H' l ps (zS ps) r)
   ⟨⟨_,_,rfl⟩,s3,[],a6,rfl,fun r hr=>by cases hr⟩ (fun i σ H' _ h=>h.2.1 _ _ zF) ?_ ?_
  ·rintro i q T σ H' Nx hN L ⟨⟨x2,x3,rfl⟩,sm,C,aN,G,aW⟩ hT
   rw[<-aK]at L
   unfold zT yW at L
   rw[aq,aq]at L
   cases ei:ra[i]? with
   |none=>rw[ei]at L;cases L
   |some c=>
   rw[ei]at L
   have hq2:q=(Sum.inr (tx c.1),V.ref c.2.1):=(ay L).symm
   subst hq2
   have W:c∈ra:=aT ei
   have hi:i<ra.length:=(af.mp ei).1
   have a7:ra.take (i+1)=ra.take i++[c]:=by rw[ak hi,(af.mp ei).2]
   have J:=zAW r1 W
   have am:upd H d (.frz ob (.dK kvs)) c.2.1=some (.dK (zN c.2.2)):=by rw[zG (bA c W)];exact r3 c W
   refine⟨T,[sv c.1,.ref c.2.1],rfl,.of zF,rfl,_,_,rfl,_,_,rfl,rfl,?_⟩
   generalize bH:upd H' T (HO.tup [kV ((Sum.inr (tx c.1):zK),V.ref c.2.1).1,((Sum.inr (tx c.1):zK),V.ref c.2.1).2])=H4
   have s4:zA H' H4:=by rw[<-bH];exact zA.upd1 hT
   have hr4:H4 c.2.1=some (.dK (zN c.2.2)):=s4 _ _ (sm _ _ am)
   have bL:=sm.trans s4
   have ap:=s4 _ _ aN
   have a8:∀r∈C,jB K H4 l ps (zS ps) r:=fun r hr=>(aW r hr).same s4
   have cd:c.2.1≠l:=fun z=>by rw[z]at am;rw[ao]at am;cases am
   refine⟨c.2.1,zN c.2.2,hr4,_,rfl,c.2.1,_,rfl,hr4,fun M=>?_⟩
   have Y:((zN c.2.2).map fun p=>kV p.1).length=c.2.2.length:=by rw[aa];exact vT _ _
   have hl2:c.2.2.length<=ps.length:=by rw[J];exact zBv ps c.1
   have bS:∀{n:Hp} {ys:List V},zA (upd H4 c.2.1 (.frz M (.dK (zN c.2.2)))) n->Rd n c.2.1 (.dK (zN (yE ps c.1))):=fun{n ys} sj=>.inr ⟨M,by rw[<-J];exact sj _ _ zF⟩
   refine uP (zBp c.2.1 M (zN c.2.2)) [some (.ref c.2.1)] 1 (by rw[Y];omega) (fun j g n=>zA (upd H4 c.2.1 (.frz M (.dK (zN c.2.2)))) n/\g.length=j/\∃y:List V,y.length=j/\∀(m:Nat) (x:S×Int),(c.2.2.take j)[m]?=some x->∃a v,g[m]?=some (.ref a)/\y[m]?=some v/\n a=some (.tup [sv x.1,v])/\yO K n v (zS ps c.1 x.1))
    ⟨zA.refl _,rfl,[],rfl,fun m x hm=>by simp at hm⟩ (fun j g n _ h=>⟨h.1 _ _ zF,d4 h.2.1⟩) ?_ ?_
   ·rintro j x g n ys ce bT hx hy ⟨sj,Z,y,B,ab⟩
    obtain⟨y',rfl⟩:=uD hy
    obtain⟨hj,rfl⟩:=zHK hx
    refine⟨_,rfl,_,rfl,_,rfl,c.2.1,ps,c.1,c.2.2[j].1,rfl,bS (ys:=[]) sj,by omega,fun v a9 s5 hv=>?_⟩
    refine⟨by show 2<=sizeLine;decide,fun t ht=>?_⟩
    have s6:zA a9 (upd a9 t (.tup [sv c.2.2[j].1,v])):=zA.upd1 ht
    refine bT _ _ [some (sv c.2.2[j].1)] rfl ⟨(sj.trans s5).trans s6,by rw[aE,Z];rfl,y++[v],by rw[aE,B];rfl,fun m x hm=>?_⟩
    rw[ak hj]at hm
    have bU:(c.2.2.take j).length=j:=by rw[aO];omega
    by_cases ch:m<j
    ·rw[bI (by omega)]at hm
     obtain⟨a,u,O,I,h3,h4⟩:=ab m x hm
     exact⟨a,u,by rw[bI (by omega)];exact O,by rw[bI (by omega)];exact I,(s5.trans s6) _ _ h3,h4.same (s5.trans s6)⟩
    ·rw[bw (by omega),bU]at hm
     have a0:m-j=0:=by
      have:=(af.mp hm).1
      simp at this;omega
     rw[a0]at hm
     have hx2:c.2.2[j]=x:=ay hm
     subst hx2
     exact⟨t,v,by rw[bw (by omega),Z,a0];rfl,by rw[bw (by omega),B,a0];rfl,zF,hv.same s6⟩
   ·rintro g n ⟨sj,Z,y,B,ab⟩ D hD
    rw[Y,aU]at ab
    rw[Y]at Z B
    have be:∀ys,¬Rd n c.2.1 (.tup ys):=fun ys z=>by
     have:=sj _ _ zF
     rcases z with z|⟨o,z⟩<;>rw[this]at z<;>cases z
    have a1:n c.2.1=some (.frz M (.dK (zN c.2.2))):=sj _ _ zF
    have as:c.2.1≠D:=yI a1 hD
    have sD:zA n (upd n D (.lst g)):=zA.upd1 hD
    refine⟨M,by rw[zG as];exact a1,?_⟩
    have s7:zA H4 (upd (upd n D (.lst g)) c.2.1 (.dK (zN c.2.2))):=zA.thaw (sj.trans sD) hr4
    generalize bi:upd (upd n D (.lst g)) c.2.1 (.dK (zN c.2.2))=H7 at s7
    have b0:H7 D=some (.lst g):=by rw[<-bi,zG as.symm,zF]
    have bl:yJ c.2.1 n H7:=by
     rw[<-bi]
     exact(yJ.of sD).trans (yJ.refl _).updf
    have bm:zBb K H7 g (qM c.2.2 y):=by
     refine⟨by rw[zHQ B.symm];exact Z,fun m x hm=>?_⟩
     obtain⟨x0,v0,em,ev,rfl⟩:=zMw hm
     obtain⟨a,v,O,I,h3,h4⟩:=ab m x0 em
     rw[ev]at I
     cases I
     have b1:a≠c.2.1:=fun z=>by rw[z,a1]at h3;cases h3
     exact⟨a,O,.of (bl _ _ b1 h3)⟩
    have bn:∀q∈uJ c.2.2 y,yO K H7 q.2 (zS ps c.1 q.1):=fun q L=>by
     obtain⟨m,x0,v0,em,ev,rfl⟩:=zMx L
     obtain⟨a,v,O,I,h3,h4⟩:=ab m x0 em
     rw[ev]at I
     cases I
     exact bl.frA be h4
    refine⟨D,g,_,rfl,.of b0,bm,?_,by rw[zHQ B.symm];omega,fun rd an=>?_⟩
    ·have b2:(c.2.2.map (·.1)).Nodup:=by rw[J];exact jA ps c.1
     have e:iO (·.1) (qM c.2.2 y)=(c.2.2.map (·.1)).map tx:=zMv B.symm
     rw[e]
     exact dW tx (fun a b b3 z=>b3 (qK z)) b2
    have s8:zA H7 (upd H7 rd (.dK (yW (qM c.2.2 y)))):=zA.upd1 an
    have ac:=s8 _ _ (s7 _ _ ap)
    refine⟨_,rfl,_,rfl,l,_,rfl,qV.k (k:=Sum.inr (tx c.1)) ac (by rw[vT,<-aa (f:=(·.1)),G,aa,aO,aR];omega),?_⟩
    have au:l≠rd:=yI (s7 _ _ ap) an
    have knd:(C.map (·.1)).Nodup:=by
     rw[G,d6]
     have h:=(yT ps).nd
     rw[<-r1,aP]at h
     exact h.sublist (dz _ _)
    have fresh:c.1∉C.map (·.1):=fun O=>by
     rw[G]at O
     have h:=(yT ps).nd
     rw[<-r1,aP]at h
     have I:((ra.take (i+1)).map (·.1)).Nodup:=by rw[d6];exact h.sublist (dz _ _)
     rw[a7,aC]at I
     exact(eQ.mp I).2.2 _ O _ (by simp) rfl
    have ax:=gB (fun v:ah×List (S×V)=>V.ref v.1) C c.1 (rd,uJ c.2.2 y) knd
    have a2:zW C c.1 (rd,uJ c.2.2 y)=C++[(c.1,rd,uJ c.2.2 y)]:=gC C _ _ fresh
    rw[a2]at ax
    have sx:yJ l (upd H7 rd (.dK (yW (qM c.2.2 y)))) (upd (upd H7 rd (.dK (yW (qM c.2.2 y)))) l (.dK (vL (zT (fun v:ah×List (S×V)=>V.ref v.1) C) (Sum.inr (tx c.1)) (V.ref rd)))):=(yJ.refl _).updf
    refine hN _ _ ⟨⟨_,_,rfl⟩,fun b u e=>?_,C++[(c.1,rd,uJ c.2.2 y)],?_,?_,fun r hr=>?_⟩
    ·have hb:b≠l:=fun z=>by rw[z,ao]at e;cases e
     exact sx _ _ hb (s8 _ _ (s7 _ _ (bL _ _ e)))
    ·rw[zF]
     exact congrArg (fun z=>some (HO.dK z)) ax
    ·rw[aC,G,a7,aC];rfl
    ·rcases bG.mp hr with z|z
     ·exact(((a8 r z).same s7).same s8).sameX (gW ac) sx
     ·have hr2:r=(c.1,rd,uJ c.2.2 y):=b8.mp z
      subst hr2
      refine⟨au.symm,?_,?_,fun q L=>?_⟩
      ·refine sx _ _ au.symm ?_
       rw[zF,<-zHL,zMy]
      ·show iO (·.1) (uJ c.2.2 y)=_
       rw[zHP B.symm,J]
      ·exact sx.frA (gW ac) ((bn q L).same s8)
  ·rintro σ H' ⟨⟨x2,x3,rfl⟩,sm,C,aN,G,aW⟩
   refine⟨ob,sm _ _ zF,_,rfl,?_⟩
   have bt:zA H (upd H' d (.dK kvs)):=zA.thaw sm r2
   have b4:(zT (fun v:ah×List (S×Int)=>V.ref v.1) ra).length=ra.length:=vT _ _
   rw[<-aK,b4,aU]at G
   have b5:∀ys,¬Rd H' d (.tup ys):=fun ys z=>by
    have:=sm _ _ zF
    rcases z with z|⟨o,z⟩<;>rw[this]at z<;>cases z
   refine k l _ bt al ⟨C,?_,?_,fun r hr=>?_⟩
   ·rw[G,<-r1,aP];rfl
   ·rw[zG U];exact aN
   ·obtain⟨O,I,h3,h4⟩:=aW r hr
    have an:r.2.1≠d:=fun z=>by
     rw[z]at I
     rw[sm _ _ zF]at I;cases I
    have sx:yJ d H' (upd H' d (.dK kvs)):=(yJ.refl _).updf
    exact⟨O,by rw[zG an];exact I,h3,fun q L=>sx.frA b5 (h4 q L)⟩
end
theorem tots_le (ps:List (S×S)):∀a:List S,a.Nodup->(a.map (tot ps)).sum<=ps.length:=by
 induction ps with
 |nil=>
  intro a _
  have:∀a:List S,(a.map (tot [])).sum=0:=by
   intro a
   induction a with
   |nil=>rfl
   |cons e a ih=>rw[aF,bb,ih];rfl
  rw[this];exact bQ _
 |cons p ps ih=>
  intro a b
  have m:=ih a b
  have go:∀a:List S,a.Nodup->(a.map (tot (p::ps))).sum=(a.map (tot ps)).sum+(if p.1∈a then 1 else 0):=by
   intro a
   induction a with
   |nil=>intro _;rfl
   |cons e a d=>
    intro j
    obtain⟨f,g⟩:=bE.mp j
    rw[aF,bb,d g,aF,bb]
    have l:tot (p::ps) e=tot ps e+(if p.1=e then 1 else 0):=by
     unfold tot
     by_cases c:p.1=e
     ·rw[gz (by simpa using c),if_pos c,bg]
     ·rw[hV (by simpa using c),if_neg c,n9]
    rw[l]
    by_cases c:p.1=e
    ·have h:p.1∉a:=fun z=>f (c▸z)
     rw[if_pos c,if_neg h,if_pos (by rw[c];exact aj ..)]
     omega
    ·rw[if_neg c]
     by_cases i:p.1∈a
     ·rw[if_pos i,if_pos (ar _ i)];omega
     ·rw[if_neg i,if_neg (fun z=>by rcases aL.mp z with z|z<;>contradiction)];omega
  rw[go a b,bg]
  split<;>omega
theorem zHV {ps:List (S×S)}{U:Int}(h:∀e,(∃l,(e,l)∈ps)->(tot ps e:Int)∣U)(e l:S):(zS ps e l).2∣U:=by
 unfold zS
 by_cases c:ps.count (e,l)=0
 ·rw[if_pos c];exact Int.one_dvd _
 ·rw[if_neg c]
  have hm:(e,l)∈ps:=cK.mp (by omega)
  refine dJ ?_ (h e ⟨l,hm⟩)
  show(tot ps e:Int)/yC (ps.count (e,l):Int) (tot ps e:Int)∣_
  have a:yC (ps.count (e,l):Int) (tot ps e:Int)∣ (tot ps e:Int):=dU ..
  exact⟨yC (ps.count (e,l):Int) (tot ps e:Int),(nk a).symm⟩
section
variable{P:aJ}{w:aV}{K:ae}{mg:Str->Option ag}{base:bC}
abbrev sCM:cp:=top 33
theorem zNC:FnScope ["one","other"] ["one","other"] (defScope sCM):=yD
def zHW:Sp:=fun vs H Q _=>∃u d:Int,vs=[.int u,.int d]/\0<=u/\0<d/\d<1073741824/\Q (.int (u/yC u d*d)) H
theorem zND {f:ah}{fd:aX}(F:Fun K "common_multiple" "common_multiple" sCM f fd)(b:zY P w K mg base 1 "greatest_divisor" ["one","other"] zDK):FnOk P w K mg base z7 2 f fd ["one","other"] zHW:=by
 refine F.ok zNC (fun vs H Q E h=>?_) (fun c A outer s H vs Q E e h=>?_)
 ·obtain⟨u,d,rfl,_⟩:=h;rfl
 ·obtain⟨u,d,rfl,g,a,i,k⟩:=h
  refine⟨_,zO (zZ (zR qQ (zR zAC (pv 0) (zU b e rfl (zB (pv 0) (zB (pv 1) zD)))) (pv 1))),?_⟩
  have g1:=zAN (u:=u) a
  have g2:yC u d<=d:=nD a (dU ..)
  exact⟨_,rfl,_,rfl,_,rfl,u,d,rfl,g,a,i,_,_,rfl,rfl,⟨g1,by omega⟩,_,rfl,_,_,rfl,rfl,.inr ⟨by omega,by omega⟩,k⟩
theorem zNE {u d:Int}(i:0<u)(hd:0<d):0<u/yC u d*d/\u∣u/yC u d*d/\d∣u/yC u d*d/\u/yC u d*d<=u*d:=by
 have g1:=zAN (u:=u) hd
 obtain⟨a,f⟩:yC u d∣u:=lF ..
 obtain⟨b,g⟩:yC u d∣d:=dU ..
 have h:u/yC u d=a:=by
  have:u/yC u d=(yC u d*a)/yC u d:=by rw[<-f]
  rw[this];exact Int.mul_ediv_cancel_left _ (by omega)
 rw[h]
 have e:0<a:=by
  by_cases c:0<a
  ·exact c
  ·have:yC u d*a<=0:=Int.mul_nonpos_of_nonneg_of_nonpos (by omega) (by omega)
   omega
 refine⟨dN e hd,⟨b,?_⟩,⟨a,d5 ..⟩,?_⟩
 ·calc a*d=a*(yC u d*b):=by rw[<-g]
   _=(yC u d*a)*b:=by rw[<-qr,d5 a]
   _=u*b:=by rw[<-f]
 ·refine dG ?_ (by omega)
  have:1*a<=yC u d*a:=dG (by omega) (by omega)
  omega
abbrev sWW:cp:=top 34
theorem zHX:FnScope ["rows","unit","row"] ["rows"] (defScope sWW):=yD
def zHY:Sp:=fun vs H Q _=>∃(d:ah) (ps:List (S×S)),vs=[.ref d]/\qL H d ps/\ps.length<=60/\∀U H',zA H H'->0<U->(∀e l,(zS ps e l).2∣U)->U<=2^60->Q (.int (U^9)) H'
theorem zHZ (t:Nat)(h:0<t):(t:Int)<=2^t:=by
 have a:t<2^t:=Nat.lt_two_pow_self
 have b:((2^t:Nat):Int)=(2:Int)^t:=by simp
 omega
theorem zNF {f:ah}{fd:aX}(F:Fun K "whole_weight" "whole_weight" sWW f fd)(B:Blt mg)(c1:zY P w K mg base 2 "common_multiple" ["one","other"] zHW):FnOk P w K mg base z7 3 f fd ["rows"] zHY:=by
 refine F.ok zHX (fun vs H Q E h=>?_) (fun al A outer s H vs Q E j h=>?_)
 ·obtain⟨d,ps,rfl,_⟩:=h;rfl
 ·obtain⟨d,ps,rfl,⟨ra,M,m,r3⟩,am,k⟩:=h
  have hu:=uT j
  have nd:=zHX.nd
  refine⟨_,zJ (zV (i:=1) nd rfl (Or.inl rfl) zI)
   (zJ (zAT (vS bF rfl (zMU (gQ K rfl bY dI gi zLM (pv 0))) (z0 (i:=2) nd rfl (Or.inl rfl))
     (zO (zV (i:=1) nd rfl (Or.inl rfl) (zU c1 j rfl (zB (pv 1) (zB (yH (zHN rfl) (by rfl) B.sum eB (zB (zHO dI gi zHM (pv 2)) zD)) zD)))))))
   (zO (zZ (zR zJv (pv 1) zI)))),?_⟩
  refine⟨d,_,m,?_⟩
  refine⟨_,rfl,.inr (.inr (.inl ⟨rfl,.inl ⟨_,m⟩⟩)),d,_,rfl,rfl,m,fun p hp=>?_⟩
  have C:zA H (upd H p (qW p d)):=zA.upd1 hp
  refine⟨p,d,_,rfl,zF,C _ _ m,fun D=>?_⟩
  have R:=zAz m r3
  generalize G:zT (fun v:ah×List (S×Int)=>V.ref v.1) ra=kvs at m
  have s3:zA (upd H d (.frz D (.dK kvs))) (upd (upd H p (qW p d)) d (.frz D (.dK kvs))):=fun b u e=>by
   by_cases N:b=d
   ·subst N;rw[zF]at e⊢;exact e
   ·rw[zG N]at e⊢
    exact C _ _ e
  have knd:(ra.map (·.1)).Nodup:=by
   have h:=(yT ps).nd
   rw[<-M,aP]at h
   exact h
  refine uU (zMR d D kvs) (fun i σ H'=>(∃(U:Int) (T:Option V),σ=[some (.ref d),some (.int U),T]/\0<U/\(∀r∈ra.take i,(tot ps r.1:Int)∣U)/\U<=2^(((ra.take i).map (·.1)).map (tot ps)).sum)/\zA (upd H d (.frz D (.dK kvs))) H')
   ⟨⟨1,_,rfl,by decide,fun r j=>(by cases j),by simp⟩,s3⟩ (fun i σ H' _ h=>h.2 _ _ zF) ?_ ?_
  ·rintro i x σ H' Nx hN n ⟨⟨U,T,rfl,o,g,t⟩,sm⟩
   rw[<-G]at n
   unfold zT yW at n
   rw[aq,aq,aq]at n
   cases I:ra[i]? with
   |none=>rw[I]at n;cases n
   |some a=>
   rw[I]at n
   have hx2:x=V.ref a.2.1:=(ay n).symm
   subst hx2
   have c:a∈ra:=aT I
   have hi:i<ra.length:=(af.mp I).1
   have J:ra.take (i+1)=ra.take i++[a]:=by rw[ak hi,(af.mp I).2]
   have L:=zAW M c
   have y:H' a.2.1=some (.dK (zN a.2.2)):=sm _ _ (by rw[zG (R a c)];exact r3 a c)
   refine⟨_,rfl,_,rfl,a.2.1,rfl,.inl ⟨_,.inl y⟩,a.2.1,_,rfl,rfl,.inl y,fun W X=>?_⟩
   have s5:zA H' (upd H' W (qW W a.2.1)):=zA.upd1 X
   refine⟨W,a.2.1,a.2.2.map (fun q=>((Sum.inr (tx q.1):zK),q.2)),rfl,zF,.inl ?_,?_⟩
   ·rw[s5 _ _ y]
    unfold zN zT yW
    rw[aP,aP];rfl
   ·have e1:((a.2.2.map fun q=>((Sum.inr (tx q.1):zK),q.2)).map (·.2)).sum=(tot ps a.1:Int):=by
     rw[aP,L];exact zBl ps a.1
    rw[e1]
    have Y:0<tot ps a.1:=by
     obtain⟨l,hl⟩:=((yT ps).has a.1).mp ⟨a.2.2,(vG (yT ps).nd _ _).mp (by rw[<-M];exact az.mpr ⟨a,c,rfl⟩)⟩
     have h1:=jJ ps a.1 l
     have Z:=cK.mpr hl
     omega
    have an:tot ps a.1<=ps.length:=bj ..
    obtain⟨q1,q2,q3,q4⟩:=zNE o (d:=(tot ps a.1:Int)) (by omega)
    refine⟨U,(tot ps a.1:Int),rfl,by omega,by omega,by omega,hN _ _ ⟨⟨_,_,rfl,q1,fun r j=>?_,?_⟩,sm.trans s5⟩⟩
    ·rw[J]at j
     rcases bG.mp j with z|z
     ·exact dJ (g r z) q2
     ·rw[b8.mp z];exact q3
    ·rw[J,aC,aC,iX,kx]
     refine oh q4 ?_
     have Z:=zHZ (tot ps a.1) Y
     have e2:(iO (tot ps) (iO (·.1) [a])).sum=tot ps a.1:=by simp
     rw[e2]
     exact dO t Z (by omega) (pG (by decide))
  ·rintro σ H' ⟨⟨U,T,rfl,o,g,t⟩,sm⟩
   have ab:(kvs.map fun p=>p.2).length=ra.length:=by rw[aa,<-G];exact vT _ _
   rw[ab,aU]at g t
   have N:U<=2^60:=by
    have h1:=tots_le ps (ra.map (·.1)) knd
    have O:2^((ra.map (·.1)).map (tot ps)).sum<=2^60:=dQ (by decide) (by omega)
    have h4:((2^((ra.map (·.1)).map (tot ps)).sum:Nat):Int)=(2:Int)^((ra.map (·.1)).map (tot ps)).sum:=by simp
    have h5:((2^60:Nat):Int)=(2:Int)^60:=by simp
    have Z:(2:Int)^((ra.map (·.1)).map (tot ps)).sum<=2^60:=by rw[<-h4,<-h5];exact rB.mpr O
    omega
   refine⟨D,sm _ _ zF,_,rfl,_,_,rfl,rfl,⟨by decide,by decide,by omega⟩,?_⟩
   refine k U _ (zA.thaw sm m) o (zHV fun e ⟨l,hl⟩=>?_) N
   obtain⟨row,ac⟩:=((yT ps).has e).mpr ⟨l,hl⟩
   have O:=(vG (yT ps).nd _ _).mpr ac
   rw[<-M]at O
   obtain⟨r,hr1,hr2⟩:=az.mp O
   have he:r.1=e:=(cD hr2).1
   rw[<-he]
   exact g r hr1
end
theorem zDn {bk:List S}{o:Nat}(a:Bk bk o):(zC o bk).length<=72:=by
 have b:((zC o bk).length:Int)<=72:=by
  rw[zAp]
  have go:∀l:List S,(∀x∈l,x.length<=8)->(l.map fun x=>(x.length:Int)+1).sum<=9*(l.length:Int):=by
   intro l
   induction l with
   |nil=>intro _;simp
   |cons x r ih=>
    intro hl
    have d:=hl x (aj ..)
    have b:=ih fun y c=>hl y (ar _ c)
    rw[aF,bb,bg]
    have:((r.length+1:Nat):Int)=(r.length:Int)+1:=rfl
    omega
  have:=go bk a.l8
  have:=a.hi
  omega
 omega
theorem zDo {o:Nat}{bk:List S}{e l:S}(h:(e,l)∈zC o bk):e.length<=o:=by
 obtain⟨x,_,h⟩:=bx.mp h
 obtain⟨p,_,h⟩:=az.mp h
 rw[<- (cD h).1]
 exact zLe _ _
structure SumsOk (ps:List (S×S)) (ss:List (S×Int)):Prop where
 nd:(ss.map (·.1)).Nodup
 rows:∀p∈ss,∃l,(p.1,l)∈ps
theorem zDp {o:Nat}{bk:List S}{f:S->S->Int×Int}{x:S}{p q:S×Int}(b:q∈uA (yF (zC o bk)) f o x p):∃l,(q.1,l)∈zC o bk:=by
 obtain⟨l,hl,rfl⟩:=az.mp b
 obtain⟨d,a⟩:=aQ.mp hl
 have hm:=(uV _ _ _).mp d
 have e:l≠[]:=fun z=>by
  unfold mf at a
  rw[z]at a;simp at a
 obtain⟨c,rfl⟩:=gE (gR hm) e
 exact zMX hm
theorem SumsOk.step {o:Nat}{bk:List S}{f:S->S->Int×Int}{ss:List (S×Int)}{x:S}(h:SumsOk (zC o bk) ss):SumsOk (zC o bk) (gT (yF (zC o bk)) f o ss x):=by
 obtain⟨b,c⟩:=zGx (ss.flatMap (uA (yF (zC o bk)) f o x))
 refine⟨b,fun p d=>?_⟩
 obtain⟨q,a,e⟩:=az.mp (c p.1 (az.mpr ⟨p,d,rfl⟩))
 obtain⟨g,_,a⟩:=bx.mp a
 rw[<-e]
 exact zDp a
theorem SumsOk.len {ps:List (S×S)}{ss:List (S×Int)}(h:SumsOk ps ss):ss.length<=ps.length:=by
 have a:=gU (ss.map (·.1)) (ps.map (·.1)) h.nd fun e b=>by
  obtain⟨p,c,rfl⟩:=az.mp b
  obtain⟨l,hl⟩:=h.rows p c
  exact az.mpr ⟨_,hl,rfl⟩
 rw[aa,aa]at a
 exact a
def Smf (f:S->S->Int×Int):Prop:=∀e l,0<=(f e l).1/\(f e l).1<1000000/\0<(f e l).2/\(f e l).2<1000000
theorem kL.row {K:ae}{H:Hp}{a:ah}{ps:List (S×S)}{f:S->S->Int×Int}(h:kL K H a ps f){e l:S}(hl:(e,l)∈ps) :
  ∃(ra:ah) (b:List (S×V)),yV H a (sv e) (some (.ref ra))/\ra≠a/\H ra=some (.dK (zT id b))/\b.map (·.1)=yF ps e/\∀q∈b,yO K H q.2 (f e q.1):=by
 obtain⟨d,g,j,m⟩:=h
 have knd:(d.map (·.1)).Nodup:=by rw[g];exact(yT ps).nd
 obtain⟨row,c⟩:=((yT ps).has e).mpr ⟨l,hl⟩
 have n:e∈d.map (·.1):=by rw[g];exact az.mpr ⟨_,(vG (yT ps).nd _ _).mpr c,rfl⟩
 obtain⟨r,i,rfl⟩:=az.mp n
 obtain⟨g1,g2,g3,o⟩:=m r i
 refine⟨r.2.1,r.2.2,?_,g1,g2,g3,o⟩
 have:=yV.k (k:=Sum.inr (tx r.1)) j
 rw[v9,(vG knd r.1 r.2).mp i]at this
 exact this
theorem zHa {ss:List (S×Int)}{α:Type}{g:α->V}(d:∀a,∃x,g a=V.ref x){b:List (S×α)}(h:zN ss=zT g b)(e:ss≠[]):False:=by
 cases ss with
 |nil=>exact e rfl
 |cons p ss=>
  cases b with
  |nil=>cases h
  |cons r b=>
   have f:=(lq h).1
   have c:V.int p.2=g r.2:=(cD f).2
   obtain⟨x,i⟩:=d r.2
   rw[i]at c;cases c
section
variable{P:aJ}{w:aV}{K:ae}{mg:Str->Option ag}{base:bC}
abbrev zDq:cp:=top 39
theorem zHb:FnScope ["parts","order","sums","wanted","found","end","weight","letter","part","reached"] ["parts","order","sums","wanted"] (defScope zDq):=yD
def zHc (K:ae):Sp:=fun vs H Q _=>∃(pd sd:ah) (o:Nat) (bk:List S) (f:S->S->Int×Int) (ss:List (S×Int)) (x:S),vs=[.ref pd,.int o,.ref sd,sv x]/\Bk bk o/\kL K H pd (zC o bk) f/\Smf f/\H sd=some (.dK (zN ss))/\SumsOk (zC o bk) ss/\
 ∀fo H',zA H H'->H fo=none->H' fo=some (.dK (zN (gT (yF (zC o bk)) f o ss x)))->Q (.ref fo) H'
theorem zNG {f:ah}{fd:aX}(F:Fun K "next_sums" "next_sums" zDq f fd)(cF:zY P w K mg base 1 "may_follow" ["letter","wanted"] zHH)(cEnd:zY P w K mg base 1 "end_of" ["text","order"] zAq)(cL:zY P w K mg base 1 "left_of" ["weight","part"] (zDj K)) :
  FnOk P w K mg base z7 2 f fd ["parts","order","sums","wanted"] (zHc K):=by
 refine F.ok zHb (fun vs H Q E h=>?_) (fun cdv A outer s H vs Q E hr h=>?_)
 ·obtain⟨pd,sd,o,bk,f,ss,x,rfl,_⟩:=h;rfl
 ·obtain⟨pd,sd,o,bk,ff,ss,x,rfl,hb,hP,hS,hsd,hss,k⟩:=h
  have hu:=uT hr
  have nd:=zHb.nd
  refine⟨_,zJ (zV (i:=4) nd rfl (Or.inl rfl) j7)
   (zJ (zAT (vS bF rfl (zAS (gQ K rfl bY cJ dj zAM (pv 2)))
     (kZ rfl (uF (z0 (i:=5) nd rfl (Or.inl rfl)) (uF (z0 (i:=6) nd rfl (Or.inl rfl)) kY)))
     (zO (zAT (vS bF rfl (zAS (gQ K rfl bY cJ dj zAM (j6 hu (pv 0) (pv 5) (fun _ _=>rfl))))
      (kZ rfl (uF (z0 (i:=7) nd rfl (Or.inl rfl)) (uF (z0 (i:=8) nd rfl (Or.inl rfl)) kY)))
      (zO (vX (jV (zU cF hr rfl (zB (pv 7) (zB (pv 3) zD))))
       (zJ (zV (i:=9) nd rfl (Or.inl rfl) (zU cEnd hr rfl (zB (zR zBP (pv 5) (pv 7)) (zB (pv 1) zD))))
       (zO (gO hu (pv 4) (pv 9) (zR y0 (zAI hu (pv 4) (pv 9) zI ⟨rfl,rfl,rfl,rfl⟩) (zU cL hr rfl (zB (pv 6) (zB (pv 8) zD)))) rfl)))
       vV)))))))
   (zO (zZ (pv 4)))),?_⟩
  intro fo hfo
  have sH1:zA H (upd H fo (.dK [])):=zA.upd1 hfo
  have hd1:=sH1 _ _ hsd
  have hsfo:fo≠sd:=(yI hsd hfo).symm
  refine⟨sd,_,hd1,?_⟩
  refine⟨_,rfl,.inr (.inr (.inl ⟨rfl,.inl ⟨_,hd1⟩⟩)),sd,_,rfl,rfl,hd1,fun p hp=>?_⟩
  have hpfo:p≠fo:=fun z=>by subst z;rw[zF]at hp;cases hp
  have sH2:zA (upd H fo (.dK [])) (upd (upd H fo (.dK [])) p (VW p sd)):=zA.upd1 hp
  refine⟨p,sd,_,rfl,zF,sH2 _ _ hd1,fun ob=>?_⟩
  generalize hH3:upd (upd (upd H fo (.dK [])) p (VW p sd)) sd (.frz ob (.dK (zN ss)))=H3
  have s3:zA (upd H sd (.frz ob (.dK (zN ss)))) H3:=fun b u e=>by
   rw[<-hH3]
   by_cases hb:b=sd
   ·subst hb;rw[zF]at e⊢;exact e
   ·rw[zG hb]at e⊢
    exact sH2 _ _ (sH1 _ _ e)
  have hfo3:H3 fo=some (.dK (zN [])):=by
   rw[<-hH3,zG hsfo,zG hpfo.symm,zF];rfl
  have hfo0:upd H sd (.frz ob (.dK (zN ss))) fo=none:=by rw[zG hsfo];exact hfo
  have h72:=zDn hb
  have hsl:=hss.len
  refine zAv (fun i σ H'=>(∃x5 x6 x7 x8 x9:Option V,σ=[some (.ref pd),some (.int o),some (.ref sd),some (sv x),some (.ref fo),x5,x6,x7,x8,x9])/\zA (upd H sd (.frz ob (.dK (zN ss)))) H'/\H' fo=some (.dK (zN (v6 ((ss.take i).flatMap (uA (yF (zC o bk)) ff o x))))))
   ⟨⟨_,_,_,_,_,rfl⟩,s3,hfo3⟩ (fun i σ H' _ h=>h.2.1 _ _ zF) ?_ ?_
  ·rintro i q T σ H' Nx hN hq ⟨⟨x5,x6,x7,x8,x9,rfl⟩,sm,hR⟩ hT
   unfold zN zT yW at hq
   rw[aq,aq]at hq
   cases ei:ss[i]? with
   |none=>rw[ei]at hq;cases hq
   |some p0=>
   rw[ei]at hq
   have hq2:q=(Sum.inr (tx p0.1),V.int p0.2):=(ay hq).symm
   subst hq2
   have hmem:p0∈ss:=aT ei
   have hi:i<ss.length:=(af.mp ei).1
   have sne:ss≠[]:=fun z=>by rw[z]at hmem;cases hmem
   have etk:(ss.take (i+1)).flatMap (uA (yF (zC o bk)) ff o x)=(ss.take i).flatMap (uA (yF (zC o bk)) ff o x)++uA (yF (zC o bk)) ff o x p0:=by
    rw[ak hi,(af.mp ei).2,fZ];simp
   have hCr:∀c∈(ss.take i).flatMap (uA (yF (zC o bk)) ff o x),∃l,(c.1,l)∈zC o bk:=fun c hc=>by
    obtain⟨p1,_,hc1⟩:=bx.mp hc
    exact zDp hc1
   generalize(ss.take i).flatMap (uA (yF (zC o bk)) ff o x)=C0 at hR etk hCr
   obtain⟨l0,hl0⟩:=hss.rows p0 hmem
   have hel:p0.1.length<=3:=by have:=zDo hl0;have:=hb.o3;omega
   have pne:pd≠sd:=fun z=>by
    obtain⟨pa,_,h2,_⟩:=hP
    rw[z,hsd]at h2
    exact zHa (fun a=>⟨_,rfl⟩) (HO.dK.inj (ay h2)) sne
   obtain⟨ra,kv,g1,g2,g3,g4,g5⟩:=hP.row hl0
   have rne:ra≠sd:=fun z=>by
    rw[z,hsd]at g3
    have h2:=HO.dK.inj (ay g3)
    cases kv with
    |nil=>exact sne (f9.mp (f9.mp h2))
    |cons q kv=>
     cases ss with
     |nil=>exact sne rfl
     |cons p ss=>
      have h3:=(cD (lq h2).1).2
      obtain⟨a,ha,_⟩:=g5 q (aj ..)
      have h4:V.int p.2=q.2:=h3
      rw[ha]at h4;cases h4
   refine⟨T,[sv p0.1,.int p0.2],rfl,.of zF,rfl,_,_,rfl,_,_,rfl,rfl,?_⟩
   generalize hH4:upd H' T (HO.tup [kV ((Sum.inr (tx p0.1):zK),V.int p0.2).1,((Sum.inr (tx p0.1):zK),V.int p0.2).2])=H4
   have s4:zA H' H4:=by rw[<-hH4];exact zA.upd1 hT
   have sm4:=sm.trans s4
   have at4:∀b u,b≠sd->H b=some u->H4 b=some u:=fun b u hb' e=>sm4 _ _ (by rw[zG hb'];exact e)
   have hra4:=at4 _ _ rne g3
   have hR4:=s4 _ _ hR
   have dg4:yV H4 pd (sv p0.1) (some (.ref ra)):=by
    rcases g1 with⟨kvs,kk,e1,e2,e3⟩|⟨kvs,kk,b,e1,e2,_⟩
    ·refine .inl ⟨kvs,kk,?_,e2,e3⟩
     rcases e1 with e1|⟨o',e1⟩
     ·exact .inl (at4 _ _ pne e1)
     ·exact .inr ⟨o',at4 _ _ pne e1⟩
    ·cases e2
   have sx4:yJ sd H H4:=fun b u hb' e=>at4 b u hb' e
   have fr4:∀q∈kv,yO K H4 q.2 (ff p0.1 q.1):=fun q hq=>sx4.frA (gW hsd) (g5 q hq)
   have rafo:ra≠fo:=fun z=>by rw[z,hfo]at g3;cases g3
   refine⟨ra,_,hra4,?_⟩
   refine⟨_,rfl,_,rfl,pd,.ref ra,rfl,dg4,.inr (.inr (.inl ⟨rfl,.inl ⟨_,hra4⟩⟩)),ra,_,rfl,rfl,hra4,fun p2 hp2=>?_⟩
   have s5:zA H4 (upd H4 p2 (VW p2 ra)):=zA.upd1 hp2
   refine⟨p2,ra,_,rfl,zF,s5 _ _ hra4,fun ob2=>?_⟩
   generalize hH5:upd (upd H4 p2 (VW p2 ra)) ra (.frz ob2 (.dK (zT id kv)))=H5
   have h5ra:H5 ra=some (.frz ob2 (.dK (zT id kv))):=by rw[<-hH5,zF]
   have sx5:yJ ra H4 H5:=fun b u hb' e=>by rw[<-hH5,zG hb'];exact s5 _ _ e
   have hR5:H5 fo=some (.dK (zN (v6 C0))):=sx5 _ _ rafo.symm hR4
   have fr5:∀q∈kv,yO K H5 q.2 (ff p0.1 q.1):=fun q hq=>sx5.frA (gW hra4) (fr4 q hq)
   have hkl:kv.length<=(zC o bk).length:=by
    have h1:=zBv (zC o bk) p0.1
    have h2:(kv.map (·.1)).length=((yE (zC o bk) p0.1).map (·.1)).length:=by rw[g4]
    rw[aa,aa]at h2
    omega
   refine zAv (fun j σ H6=>(∃x7 x8 x9:Option V,σ=[some (.ref pd),some (.int o),some (.ref sd),some (sv x),some (.ref fo),some (sv p0.1),some (.int p0.2),x7,x8,x9])/\yJ fo H5 H6/\
     H6 fo=some (.dK (zN (v6 (C0++(((yF (zC o bk) p0.1).take j).filter (mf x)).map fun l=>(zE (p0.1++l) o,zX p0.2 (ff p0.1 l)))))))
    ⟨⟨_,_,_,rfl⟩,yJ.refl _,by simpa using hR5⟩ (fun j σ H6 _ h=>h.2.1 _ _ rafo h5ra) ?_ ?_
   ·rintro j q T2 σ H6 Nx2 hN2 hq ⟨⟨x7,x8,x9,rfl⟩,sx,hR6⟩ hT2
    unfold zT yW at hq
    rw[aq,aq]at hq
    cases el:kv[j]? with
    |none=>rw[el]at hq;cases hq
    |some q0=>
    rw[el]at hq
    have hq2:q=(Sum.inr (tx q0.1),q0.2):=(ay hq).symm
    subst hq2
    have hqm:q0∈kv:=aT el
    have hnx:(yF (zC o bk) p0.1)[j]?=some q0.1:=by rw[<-g4,aq,el];rfl
    have hj:j<(yF (zC o bk) p0.1).length:=(af.mp hnx).1
    have hlm:q0.1∈yF (zC o bk) p0.1:=aT hnx
    have hl1:q0.1.length<=1:=gR ((uV _ _ _).mp hlm)
    have etk2:(yF (zC o bk) p0.1).take (j+1)=(yF (zC o bk) p0.1).take j++[q0.1]:=by
     rw[ak hj,(af.mp hnx).2]
    refine⟨T2,[sv q0.1,q0.2],rfl,.of zF,rfl,_,_,rfl,_,_,rfl,rfl,?_⟩
    generalize hH7:upd H6 T2 (HO.tup [kV ((Sum.inr (tx q0.1):zK),q0.2).1,((Sum.inr (tx q0.1):zK),q0.2).2])=H7
    have s7:zA H6 H7:=by rw[<-hH7];exact zA.upd1 hT2
    refine⟨_,rfl,_,rfl,q0.1,x,rfl,fun H8 s8=>⟨mf x q0.1,rfl,?_⟩⟩
    have s78:=s7.trans s8
    have hR8:=s78 _ _ hR6
    have sx8:yJ fo H5 H8:=sx.trans (yJ.of s78)
    refine zKv (fun hm=>?_) (fun hm=>?_)
    ·have hcl:(tx p0.1).length+(tx q0.1).length<=sizeLine:=by rw[yB,yB,aR];omega
     have hll:(p0.1++q0.1).length<=64:=by rw[aE];omega
     refine⟨_,rfl,_,rfl,tx p0.1,tx q0.1,rfl,rfl,hcl,_,rfl,p0.1++q0.1,o,by rw[zBm];rfl,hb.o1,hll,?_⟩
     generalize hLL:C0++(((yF (zC o bk) p0.1).take j).filter (mf x)).map (fun l=>(zE (p0.1++l) o,zX p0.2 (ff p0.1 l)))=LL at hR8
     have hLr:∀c∈LL,∃l,(c.1,l)∈zC o bk:=fun c hc=>by
      rw[<-hLL]at hc
      rcases bG.mp hc with z|z
      ·exact hCr c z
      ·obtain⟨l,hl,rfl⟩:=az.mp z
       obtain⟨z1,z2⟩:=aQ.mp hl
       exact zDp (f:=ff) (x:=x) (p:=p0) (az.mpr ⟨l,aQ.mpr ⟨cz z1,z2⟩,rfl⟩)
     obtain⟨knd,ksub⟩:=zGx LL
     have hal:(v6 LL).length<=(zC o bk).length:=by
      have h1:=gU ((v6 LL).map (·.1)) ((zC o bk).map (·.1)) knd fun e he=>by
       obtain⟨c,hc,rfl⟩:=az.mp (ksub e he)
       obtain⟨l,hl⟩:=hLr c hc
       exact az.mpr ⟨_,hl,rfl⟩
      rw[aa,aa]at h1
      exact h1
     have fr8:yO K H8 q0.2 (ff p0.1 q0.1):=sx8.frA (gW hR5) (fr5 q0 hqm)
     obtain⟨b1,b2,b3,b4⟩:=hS p0.1 q0.1
     refine⟨_,rfl,fo,rfl,.inl ⟨_,.inl hR8⟩,_,rfl,_,yV.k (k:=Sum.inr (tx (zE (p0.1++q0.1) o))) hR8,_,rfl,_,rfl,p0.2,q0.2,ff p0.1 q0.1,rfl,fr8,b1,b2,b3,b4,?_⟩
     refine⟨(zL (v6 LL) (zE (p0.1++q0.1) o)).getD 0,_,?_,rfl,?_⟩
     ·show(yM (zT V.int (v6 LL)) _).getD (V.int 0)=_
      rw[v9]
      cases zL (v6 LL) (zE (p0.1++q0.1) o)<;>rfl
     refine⟨_,rfl,_,rfl,fo,_,rfl,qV.k (k:=Sum.inr (tx (zE (p0.1++q0.1) o))) hR8 (by show(zT V.int (v6 LL)).length<_;rw[vT,aR];omega),hN2 _ _ ⟨⟨_,_,_,rfl⟩,sx8.updf,?_⟩⟩
     rw[zF]
     have e1:=gB V.int (v6 LL) (zE (p0.1++q0.1) o) ((zL (v6 LL) (zE (p0.1++q0.1) o)).getD 0+zX p0.2 (ff p0.1 q0.1)) knd
     refine congrArg (fun z=>some (HO.dK z)) (e1.trans ?_)
     have e2:C0++(((yF (zC o bk) p0.1).take (j+1)).filter (mf x)).map (fun l=>(zE (p0.1++l) o,zX p0.2 (ff p0.1 l)))=LL++[(zE (p0.1++q0.1) o,zX p0.2 (ff p0.1 q0.1))]:=by
      rw[etk2,da,aC,<-eE,hLL]
      simp[hm]
     rw[e2]
     unfold v6
     rw[cI]
     rfl
    ·have hm':mf x q0.1=false:=by simpa using hm
     refine hN2 _ _ ⟨⟨_,_,_,rfl⟩,sx8,?_⟩
     rw[etk2,da]
     simpa [hm']using hR8
   ·rintro σ H6 ⟨⟨x7,x8,x9,rfl⟩,sx,hR6⟩
    refine⟨ob2,sx _ _ rafo h5ra,hN _ _ ⟨⟨_,_,_,_,_,rfl⟩,fun c u e=>?_,?_⟩⟩
    ·have hcf:c≠fo:=fun z=>by rw[z,hfo0]at e;cases e
     have e4:=sm4 _ _ e
     by_cases hc:c=ra
     ·subst hc
      rw[zF,<-e4,hra4]
     ·rw[zG hc]
      exact sx _ _ hcf (sx5 _ _ hc e4)
    ·rw[zG rafo.symm]
     have e1:(zT id kv).length=(yF (zC o bk) p0.1).length:=by
      rw[vT,<-g4,aa]
     rw[e1,aU]at hR6
     rw[etk]
     exact hR6
  ·rintro σ H' ⟨⟨x5,x6,x7,x8,x9,rfl⟩,sm,hR⟩
   refine⟨ob,sm _ _ zF,_,rfl,?_⟩
   have sfin:zA H (upd H' sd (.dK (zN ss))):=zA.thaw sm hsd
   refine k fo _ sfin hfo ?_
   rw[zG hsfo]
   have e1:(zN ss).length=ss.length:=vT _ _
   rw[e1,aU]at hR
   exact hR
end
theorem zNH {ys:St}(h:ys.length=2):∃y z,ys=[y,z]:=by
 match ys,h with
 | [y,z],_=>exact⟨y,z,rfl⟩
theorem zHd {o:Nat}{bk:List S}(a:Bk bk o):∃l,(([]:S),l)∈zC o bk:=by
 have b:=a.lo
 match bk,b with
 |x::bk,_=>
  refine⟨(x.drop 0).take 1,bx.mpr ⟨x,aj ..,az.mpr ⟨0,bX.mpr (by omega),?_⟩⟩⟩
  rw[pE]
  have:zE ([]:S) o=[]:=by unfold zE;simp
  rw[this]
def uK (ps:List (S×S))(f:S->S->Int×Int)(e:S):Int×Int:=if(e,[])∈ps then f e []else(0,1)
theorem zNI {o:Nat}{bk:List S}(a:Bk bk o)(wt:Int):SumsOk (zC o bk) [([],wt)]:=by
 refine⟨by simp,fun p b=>?_⟩
 rw[b8.mp b]
 exact zHd a
section
variable{P:aJ}{w:aV}{K:ae}{mg:Str->Option ag}{base:bC}
abbrev zDr:cp:=top 40
theorem zHe:FnScope ["parts","order","weight","pattern","sums","wanted"] ["parts","order","weight","pattern"] (defScope zDr):=yD
theorem zHf:(["parts","end","heavy"]:List Str).Nodup:=by decide+kernel
def zDs (K:ae):Sp:=fun vs H Q _=>∃(pd pl:ah) (o:Nat) (bk:List S) (f:S->S->Int×Int) (wt:Int) (pat:List S),vs=[.ref pd,.int o,.int wt,.ref pl]/\Bk bk o/\kL K H pd (zC o bk) f/\Smf f/\H pl=some (.lst (pat.map sv))/\pat.length<=900/\
 ∀H',zA H H'->Q (.int (tots (fun e h=>zX h (uK (zC o bk) f e)) (Ss (yF (zC o bk)) f o wt pat))) H'
theorem zNJ {f:ah}{fd:aX}(F:Fun K "sum_along" "sum_along" zDr f fd)(B:Blt mg)(C:Cst2 K mg)(cN:zY P w K mg base 2 "next_sums" ["parts","order","sums","wanted"] (zHc K))(cL:zY P w K mg base 1 "left_of" ["weight","part"] (zDj K)) :
  FnOk P w K mg base z7 3 f fd ["parts","order","weight","pattern"] (zDs K):=by
 obtain⟨aN,hN,tN⟩:=C.nought
 refine F.ok zHe (fun vs H Q E h=>?_) (fun cdv A outer s H vs Q E hr h=>?_)
 ·obtain⟨pd,pl,o,bk,f,wt,pat,rfl,_⟩:=h;rfl
 ·obtain⟨pd,pl,o,bk,ff,wt,pat,rfl,hb,hP,hS,hpl,hpn,k⟩:=h
  have hu:=uT hr
  have nd:=zHe.nd
  have r1:=hr.mono (j:=1) (by decide)
  refine⟨_,zJ (zV (i:=4) nd rfl (Or.inl rfl) (zMu vB (pv 2)))
   (zJ (vS bF rfl (uX (pv 3)) (z0 (i:=5) nd rfl (Or.inl rfl))
     (zO (zV (i:=4) nd rfl (Or.inl rfl) (zU cN hr rfl (zB (pv 0) (zB (pv 1) (zB (pv 4) (zB (pv 5) zD))))))))
   (zO (zZ (yH (zCs rfl) (by rfl) B.sum eB (zB
    (zAR (vE (N:=["parts","end","heavy"]) (caps:=[0]) rfl (y9 (by kernel_rfl)) (zAS (gQ K rfl bY cJ dj zAM (pv 4)))
     (fun cl X s H ex=>zMB K 2 rfl rfl (uF (z0 (i:=1) zHf rfl (Or.inl rfl)) (uF (z0 (i:=2) zHf rfl (Or.inl rfl)) kY)) rfl rfl) (fun cl X s H ex=>uI)
     (fun cl X s H ex=>zU cL r1 rfl (zB (pv 2) (zB (zAI hu (j6 hu (pv 0) (pv 1) (fun _ _=>rfl)) vB (vC (v:=.ref aN) (by rfl) hN rfl) ⟨rfl,rfl,rfl,rfl⟩) zD))))) zD))))),?_⟩
  intro sd0 hsd0
  have u0:zA H (upd H sd0 (.dK [])):=zA.upd1 hsd0
  refine⟨_,rfl,zF,Sum.inr (tx []),rfl,?_⟩
  have hs0:upd (upd H sd0 (.dK [])) sd0 (.dK [((Sum.inr (tx []):zK),V.int wt)]) sd0=some (.dK (zN [([],wt)])):=by rw[zF];rfl
  have u1:zA H (upd (upd H sd0 (.dK [])) sd0 (.dK [((Sum.inr (tx []):zK),V.int wt)])):=fun b u e=>by
   rw[zG (yI e hsd0)];exact u0 _ _ e
  generalize upd (upd H sd0 (.dK [])) sd0 (.dK [((Sum.inr (tx []):zK),V.int wt)])=H1 at hs0 u1
  refine⟨_,rfl,pl,rfl,⟨_,.of (u1 _ _ hpl)⟩,?_⟩
  refine uU (u5 K pl (pat.map sv)) (fun i σ H'=>∃(sd:ah) (x5:Option V),σ=[some (.ref pd),some (.int o),some (.int wt),some (.ref pl),some (.ref sd),x5]/\H' sd=some (.dK (zN (Ss (yF (zC o bk)) ff o wt (pat.take i))))/\SumsOk (zC o bk) (Ss (yF (zC o bk)) ff o wt (pat.take i))/\zA H H')
   ⟨sd0,_,rfl,hs0,zNI hb wt,u1⟩ (fun i σ H' _ h=>.of (h.choose_spec.choose_spec.2.2.2 _ _ hpl)) ?_ ?_
  ·rintro i y σ H' Nx hNx hy ⟨sd,x5,rfl,hsd,hok,sm⟩
   rw[aq]at hy
   cases ei:pat[i]? with
   |none=>rw[ei]at hy;cases hy
   |some wd=>
   rw[ei]at hy
   have hy2:y=sv wd:=(ay hy).symm
   subst hy2
   have hi:i<pat.length:=(af.mp ei).1
   have etk:pat.take (i+1)=pat.take i++[wd]:=by rw[ak hi,(af.mp ei).2]
   refine⟨_,rfl,_,rfl,_,rfl,_,rfl,pd,sd,o,bk,ff,_,wd,rfl,hb,hP.same sm,hS,hsd,hok,fun fo H2 s2 hfo h2=>hNx _ _ ⟨fo,_,rfl,?_,?_,sm.trans s2⟩⟩
   ·rw[etk,zGy];exact h2
   ·rw[etk,zGy];exact hok.step
  ·rintro σ H' ⟨sd,x5,rfl,hsd,hok,sm⟩
   rw[aa,aU]at hsd hok
   have hres:=fun H2 (s2:zA H' H2)=>k H2 (sm.trans s2)
   have hP':=hP.same sm
   generalize Ss (yF (zC o bk)) ff o wt pat=ss at hsd hok hres
   refine⟨sd,_,hsd,?_⟩
   refine⟨_,rfl,.inr (.inr (.inl ⟨rfl,.inl ⟨_,hsd⟩⟩)),sd,_,rfl,rfl,hsd,fun p hp=>?_⟩
   have s1:zA H' (upd H' p (VW p sd)):=zA.upd1 hp
   refine⟨p,sd,_,rfl,zF,s1 _ _ hsd,fun ob=>?_⟩
   have h72:=zDn hb
   have hsl:=hok.len
   have hlen:(zN ss).length=ss.length:=vT _ _
   generalize hH2:upd (upd H' p (VW p sd)) sd (.frz ob (.dK (zN ss)))=H2
   have s2:zA (upd H' sd (.frz ob (.dK (zN ss)))) H2:=fun b u e=>by
    rw[<-hH2]
    by_cases hb':b=sd
    ·subst hb';rw[zF]at e⊢;exact e
    ·rw[zG hb']at e⊢
     exact s1 _ _ e
   refine zMQ [some (.ref pd)] 2 (by rw[hlen];omega) (fun i acc H3=>zA (upd H' sd (.frz ob (.dK (zN ss)))) H3/\acc=((ss.take i).map fun q=>zX q.2 (uK (zC o bk) ff q.1)).map V.int)
    ⟨s2,rfl⟩ (fun i acc H3 _ h=>⟨h.1 _ _ zF,by rw[h.2,aa,aa,aO];omega⟩) ?_ ?_
   ·rintro i q T acc H3 ys Nx2 hN2 hq hy ⟨sm3,rfl⟩ hT
    obtain⟨y1,y2,rfl⟩:=zNH hy
    unfold zN zT yW at hq
    rw[aq,aq]at hq
    cases ei:ss[i]? with
    |none=>rw[ei]at hq;cases hq
    |some p0=>
    rw[ei]at hq
    have hq2:q=(Sum.inr (tx p0.1),V.int p0.2):=(ay hq).symm
    subst hq2
    have hmem:p0∈ss:=aT ei
    have hi:i<ss.length:=(af.mp ei).1
    have etk:ss.take (i+1)=ss.take i++[p0]:=by rw[ak hi,(af.mp ei).2]
    have sne:ss≠[]:=fun z=>by rw[z]at hmem;cases hmem
    obtain⟨l0,hl0⟩:=hok.rows p0 hmem
    have pne:pd≠sd:=fun z=>by
     obtain⟨pa,_,h2,_⟩:=hP'
     rw[z,hsd]at h2
     exact zHa (fun a=>⟨_,rfl⟩) (HO.dK.inj (ay h2)) sne
    obtain⟨ra,kv,g1,g2,g3,g4,g5⟩:=hP'.row hl0
    have rne:ra≠sd:=fun z=>by
     rw[z,hsd]at g3
     have h2:=HO.dK.inj (ay g3)
     cases kv with
     |nil=>exact sne (f9.mp (f9.mp h2))
     |cons q kv=>
      cases ss with
      |nil=>exact sne rfl
      |cons p ss=>
       have h3:=(cD (lq h2).1).2
       obtain⟨a,ha,_⟩:=g5 q (aj ..)
       have h4:V.int p.2=q.2:=h3
       rw[ha]at h4;cases h4
    refine⟨T,[sv p0.1,.int p0.2],rfl,.of zF,rfl,_,_,rfl,_,_,rfl,rfl,?_⟩
    generalize hH4:upd H3 T (HO.tup [kV ((Sum.inr (tx p0.1):zK),V.int p0.2).1,((Sum.inr (tx p0.1):zK),V.int p0.2).2])=H4
    have s4:zA H3 H4:=by rw[<-hH4];exact zA.upd1 hT
    have sm4:=sm3.trans s4
    have at4:∀b u,b≠sd->H' b=some u->H4 b=some u:=fun b u hb' e=>sm4 _ _ (by rw[zG hb'];exact e)
    have hra4:=at4 _ _ rne g3
    have dg4:yV H4 pd (sv p0.1) (some (.ref ra)):=by
     rcases g1 with⟨kvs,kk,e1,e2,e3⟩|⟨kvs,kk,b,e1,e2,_⟩
     ·refine .inl ⟨kvs,kk,?_,e2,e3⟩
      rcases e1 with e1|⟨o',e1⟩
      ·exact .inl (at4 _ _ pne e1)
      ·exact .inr ⟨o',at4 _ _ pne e1⟩
     ·cases e2
    have sx4:yJ sd H' H4:=fun b u hb' e=>at4 b u hb' e
    have knd:(kv.map (·.1)).Nodup:=by rw[g4];exact jA _ _
    obtain⟨v,hv,fv,bv⟩:∃v,(yM (zT id kv) (Sum.inr (tx []))).getD (.ref aN)=v/\yO K H4 v (uK (zC o bk) ff p0.1)/\(0<=(uK (zC o bk) ff p0.1).1/\(uK (zC o bk) ff p0.1).1<1000000/\0<(uK (zC o bk) ff p0.1).2/\(uK (zC o bk) ff p0.1).2<1000000):=by
     refine⟨_,rfl,?_,?_⟩
     ·rw[v9]
      unfold uK
      by_cases c:(p0.1,[])∈zC o bk
      ·rw[if_pos c]
       have h1:([]:S)∈kv.map (·.1):=by rw[g4];exact(uV _ _ _).mpr c
       obtain⟨q,hq,e⟩:=az.mp h1
       have h2:zL kv []=some q.2:=(vG knd _ _).mp (by rw[<-e];exact hq)
       rw[h2]
       have h3:=g5 q hq
       rw[e]at h3
       exact sx4.frA (gW hsd) h3
      ·rw[if_neg c]
       have h2:zL kv []=none:=by
        cases e:zL kv []with
        |none=>rfl
        |some v=>
         exfalso
         have h3:=(vG knd _ _).mpr e
         exact c ((uV _ _ _).mp (by rw[<-g4];exact az.mpr ⟨_,h3,rfl⟩))
       rw[h2]
       exact⟨aN,rfl,tN _⟩
     ·unfold uK
      split
      ·exact hS _ _
      ·decide
    refine⟨_,rfl,_,rfl,_,rfl,pd,.ref ra,rfl,dg4,ra,rfl,.inl ⟨_,.inl hra4⟩,_,yV.k (k:=Sum.inr (tx [])) hra4,p0.2,v,uK (zC o bk) ff p0.1,?_,fv,bv.1,bv.2.1,bv.2.2.1,bv.2.2.2,?_⟩
    ·rw[<-hv];rfl
    ·refine hN2 _ _ [some (sv p0.1),some (.int p0.2)] rfl ⟨sm4,?_⟩
     rw[etk,aC,aC];rfl
   ·rintro acc H3 ⟨sm3,rfl⟩ D hD
    rw[hlen,aU]
    have hfz:=sm3 _ _ zF
    have hneD:sd≠D:=yI hfz hD
    have sD:zA H3 (upd H3 D (.lst ((ss.map fun q=>zX q.2 (uK (zC o bk) ff q.1)).map V.int))):=zA.upd1 hD
    refine⟨ob,by rw[zG hneD];exact hfz,?_⟩
    have s7:zA H' (upd (upd H3 D (.lst ((ss.map fun q=>zX q.2 (uK (zC o bk) ff q.1)).map V.int))) sd (.dK (zN ss))):=zA.thaw (sm3.trans sD) hsd
    refine⟨D,_,rfl,.of (by rw[zG hneD.symm,zF]),?_⟩
    exact hres _ s7
end
end Kn.Ln
end
section
namespace L2
open PySem PySem.Spec PyProof.Rows
def zDt (lo c:Int)(n:Nat):It:=⟨fun i _=>i<n,fun i H x H'=>H'=H/\x=.int (lo+(i:Int)*c),fun i _=>n<=i⟩
theorem zNK (lo c:Int)(n:Nat):Known (zDt lo c n) ((ba n).map fun(i:Nat)=>V.int (lo+(i:Int)*c)) (fun _=>True) :=
 ⟨fun i H _ hi=>by show i<n;simpa using hi,fun i H x H' _ y=>⟨y.1,fun hi=>by
  have a:i<n:=by simpa using hi
  rw[aq,cV a,y.2];rfl⟩,fun H _=>by show n<=_;simp⟩
theorem zNL {P:aJ}{w:aV}{K:ae}{A:bV}(it:ah)(lo c:Int)(n:Nat):Turn P w K A (zDt lo c n) [it] it (fun i h=>mL h it (lo+(i:Nat)*c) ((n:Int)- (i:Nat)) c) where
 mem:=by simp
 obj:=fun i h st b d=>by
  have e:b=it:=by simpa using d
  subst e
  exact⟨_,st,fun v z=>by
   have B:Data.fields _=Data.cell v:=z
   cases B⟩
 keep:=fun i h h' st k=>k it (by simp) _ st
 item:=by
  intro X j l m p i a s σ H E I g st q
  subst j l m
  obtain⟨r,f1,f2,u,x,y⟩:=g it (by simp)
  have W:=rR (prog:=X.prog) (w:=X.w) (I.ok.hd p) it lo c n
  refine W.item i s _ _ q st fun v h' tk C f D=>?_
  obtain⟨t,rfl⟩:=C
  have F:Inv X a σ H {s with heap:=h',toks:=tk}:=I.turned (fun b o d e=>D b o (by simpa using d) e) r f1 u x y
  exact⟨_,rfl,gG (s:={s with heap:=h',toks:=tk}) (n :="range_iterator") f rfl rfl (by decide) ⟨.int (lo+i*c),H,F,⟨t,rfl⟩,⟨rfl,rfl⟩,f,fun b d=>(g b d).1⟩⟩
 done:=by
  intro X j l m p i a s σ H E I g st q
  subst j l m
  obtain⟨r,f1,f2,u,x,y⟩:=g it (by simp)
  exact lN (I.ok.hd p) st (by have:n<=i:=q;omega) fun h' G=>⟨rfl,I.turned (t':=s.toks) (fun b o d e=>G b o d e) r f1 u x y⟩
 self:=fun _ _ _ _ _ st h=>lO st h
section
variable{X:Cx}{tg:bV}
theorem zHg (a b:Int):fc a b (-1)=((a-b).toNat:Int):=by
 unfold fc
 rw[if_neg (by decide)]
 split
 ·have:(a-b-1)/ (-(-1:Int))=a-b-1:=by show(a-b-1)/1=_;exact Int.ediv_one _
  rw[this];omega
 ·omega
theorem zNM {a b:Int}(e:-1000<=a)(c:a<1000)(f:-1000<=b)(d:b<1000):nq a b (-1)=true:=by
 unfold nq
 rw[zHg]
 simp only[o7,bc,oW,decide_eq_true_eq,beq_iff_eq]
 refine⟨by omega,.inr ?_⟩
 rw[if_neg (by decide)]
 simp only[bc,decide_eq_true_eq]
 omega
def zNN (ta:TA):TI:=fun σ H R=>ta σ H fun vs H1=>∃i j:Int,vs=[.int i,.int j,.int (-1)]/\(-1000<=i/\i<1000/\-1000<=j/\j<1000)/\R (zDt i (-1) (i-j).toNat) H1
theorem zNO {a b c:bV}{w:TA}{p pos:Pos}(y:Gl X "range")(hm:X.mg "range"=none)(z:PA X [a,b,c] w)(A:starEach [a,b,c] X.env=[(false,eval a X.env),(false,eval b X.env),(false,eval c X.env)]:=by rfl)(l:starEach [b,c] X.env=[(false,eval b X.env),(false,eval c X.env)]:=by rfl) :
  PI X tg (.Call (.Name "range" p) [a,b,c] [] pos) (zNN w):=by
 intro f s σ H R I h
 refine Call_ (kW I y hm pf (dm (zH (z pos f s σ H _ I h) fun N g ⟨vs,x,B,C,n⟩=>?_) (by rw[A,l]) (by rw[l];rfl)))
 obtain⟨i,j,e,⟨n,D,E,F⟩,q⟩:=n
 subst e
 cases C with
 |cons r m=>
  cases m with
  |cons G m=>
   cases m with
   |cons u m=>
   cases m
   obtain⟨t,rfl⟩:=r
   obtain⟨t',rfl⟩:=G
   obtain⟨d,rfl⟩:=u
   refine call_range_3 (by decide) ?_ (.inl (lP (by decide)))
   refine nK (rS ..) (zNM n D E F) ?_
   have v:Inv X f σ x {g with heap:=g.heap.push {cls:=.type "range",data:=.fields #[.int i t,.int j t',.int (-1) d]},toks:=g.toks}:=B.kept fun b o e=>ai _ e
   refine⟨(g.heap.push {cls:=.type "range",data:=.fields #[.int i t,.int j t',.int (-1) d]}).objs.size,[(g.heap.push {cls:=.type "range",data:=.fields #[.int i t,.int j t',.int (-1) d]}).objs.size],_,_,x,rfl,
    v.kept (t':=g.toks) fun b o e=>ai _ e,zNL _ i (-1) (i-j).toNat,?_,fun b J=>?_,q⟩
   ·have L:i+((0:Nat):Int)*(-1)=i:=by simp
    have M:(((i-j).toNat:Nat):Int)- ((0:Nat):Int)=fc i j (-1):=by rw[zHg];omega
    show mL _ _ (i+((0:Nat):Int)*(-1)) ((((i-j).toNat:Nat):Int)- ((0:Nat):Int)) (-1)
    rw[L,M]
    exact aM _ rfl
   ·have e:b=(g.heap.push {cls:=.type "range",data:=.fields #[.int i t,.int j t',.int (-1) d]}).objs.size:=by simpa using J
    subst e
    exact v.fpOk (aD _) (v.hok.fresh (aD _))
end
end L2
end
section
namespace Kn.Ln
open PySem L2 Kn
theorem zHh {X:Cx}(a:ae)(b:X.K=a):yK X (compareOp .In) (rIn a false):=by
 subst b
 exact zFT
theorem zAX {α:Type}(p:α->Bool)(l:List α)(a:α)(h:p a=true):(l++[a]).filter p=l.filter p++[a]:=by
 rw[da];simp[h]
theorem gX {α:Type}(p:α->Bool)(l:List α)(a:α)(h:p a=false):(l++[a]).filter p=l.filter p:=by
 rw[da];simp[h]
section
variable{P:aJ}{w:aV}{K:ae}{mg:Str->Option ag}{base:bC}
abbrev sLT:cp:=top 48
theorem zNP:FnScope ["row","end","order","targets"] ["row","end","order","targets"] (defScope sLT):=yD
theorem zNQ:(["end","order","targets","letter"]:List Str).Nodup:=by decide+kernel
abbrev towB (o:Nat)(e:S)(T:List S)(l:S):Bool:=decide (l≠[])&&decide (zE (e++l) o∈T)
def zDu:Sp:=fun vs H Q _=>∃(ra tl:ah) (e:S) (o:Nat) (bk T:List S),vs=[.ref ra,sv e,.int o,.ref tl]/\Bk bk o/\(zC o bk).length<64/\H ra=some (.dK (zN (yE (zC o bk) e)))/\e.length<=3/\H tl=some (.lst (T.map sv))/\
 ∀(l:ah) (out:List S) (H':Hp),zA H H'->H l=none->H' l=some (.lst (out.map sv))->out.Pairwise (· < ·)->(∀x,x∈out↔x≠[]/\(e,x)∈zC o bk/\zE (e++x) o∈T)->Q (.ref l) H'
theorem zNR {f:ah}{fd:aX}(F:Fun K "letters_towards" "letters_towards" sLT f fd)(B:Blt mg)(u:zY P w K mg base 1 "end_of" ["text","order"] zAq):FnOk P w K mg base z7 2 f fd ["row","end","order","targets"] zDu:=by
 refine F.ok zNP (fun vs H Q E h=>?_) (fun al A outer s H vs Q E hr h=>?_)
 ·obtain⟨ra,J,e,o,bk,T,rfl,_⟩:=h;rfl
 ·obtain⟨ra,J,e,o,bk,T,rfl,hb,am,L,an,M,k⟩:=h
  have hu:=uT hr
  refine⟨_,zO (zZ (vE (N:=["end","order","targets","letter"]) (caps:=[1,2,3]) rfl (y9 (by kernel_rfl)) (uX (yH (zGF rfl) (by rfl) B.sorted eZ (zB (pv 0) zD)))
   (fun cl X s H ex=>z0 (i:=3) zNQ rfl (Or.inl rfl)) (fun cl X s H ex=>j8 (PW.pt (zJX (vJ gI (pv 3) vB (vD _)) (zJW (vJ (zHh K rfl) (zU u hr rfl (zB (zR zBP (pv 0) (pv 3)) (zB (pv 1) zD))) (pv 2) (by with_unfolding_all rfl))))))
   (fun cl X s H ex=>pv 3))),?_⟩
  have g:(((yE (zC o bk) e).map fun p=>(tx p.1,V.int p.2)).map (·.1))=(yF (zC o bk) e).map tx:=by rw[aP,aP];rfl
  have O:(((yE (zC o bk) e).map fun p=>(tx p.1,V.int p.2)).map (·.1)).Nodup:=by
   rw[g]
   exact dW tx (fun a b R z=>R (qK z)) (jA _ _)
  have U:(yE (zC o bk) e).length<64:=by have:=zBv (zC o bk) e;omega
  refine⟨_,rfl,ra,(yE (zC o bk) e).map (fun p:S×Int=>(tx p.1,V.int p.2)),rfl,L,O,by rw[aa];exact U,fun out l j v hl=>?_⟩
  rw[g]at j
  have d:(out.map fun x=>x.cps.toList).Perm (yF (zC o bk) e):=by
   have:=j.map fun x:Str=>x.cps.toList
   rw[aP]at this
   have W:(yF (zC o bk) e).map ((fun x:Str=>x.cps.toList) ∘ tx)=yF (zC o bk) e:=by
    conv=>rhs;rw[<-mW (yF (zC o bk) e)]
    apply cj
    intro x _
    exact qZ x
   rw[W]at this
   exact this
  have m:(out.map fun x=>x.cps.toList).Pairwise (· < ·):=cx.mpr v
  have r:out=(out.map fun x=>x.cps.toList).map tx:=(zGi out).symm
  generalize(out.map fun x=>x.cps.toList)=os at d m r
  subst r
  have ao:os.length<64:=by have:=d.length_eq;rw[aa]at this;omega
  have I:zA H (upd H l (.lst ((os.map tx).map V.str))):=zA.upd1 hl
  refine⟨l,rfl,⟨_,.of zF⟩,?_⟩
  have C:upd H l (.lst ((os.map tx).map V.str)) l=some (.lst ((os.map tx).map V.str)):=zF
  have t:=I _ _ M
  generalize upd H l (.lst ((os.map tx).map V.str))=H6 at C t I
  refine kG (u5 K l ((os.map tx).map V.str)) [some (sv e),some (.int o),some (.ref J)] 1 (by rw[aa,aa];omega) (fun i q H'=>H'=H6/\q=((os.take i).filter (towB o e T)).map sv)
   ⟨rfl,rfl⟩ (fun i q H' _ h=>⟨.of (by rw[h.1];exact C),by
    rw[h.2,aa]
    have h1:=bj (towB o e T) (os.take i)
    rw[aO]at h1
    omega⟩) ?_ ?_
  ·rintro i y q H' ys Nx Y G hy ⟨rfl,rfl⟩
   obtain⟨y',rfl⟩:=uD hy
   rw[aq,aq]at G
   cases ep:os[i]? with
   |none=>rw[ep]at G;cases G
   |some c=>
   rw[ep]at G
   have hx2:y=sv c:=(ay G).symm
   subst hx2
   have ap:c.length<=1:=gR ((uV _ _ _).mp (d.mem_iff.mp (aT ep)))
   have n:os.take (i+1)=os.take i++[c]:=by
    rw[ak (af.mp ep).1,(af.mp ep).2]
   refine⟨_,rfl,rfl,_,rfl,?_⟩
   by_cases hz:c=[]
   ·subst hz
    refine k9 rfl (uH (Y _ _ [some (sv [])] rfl ⟨rfl,?_⟩))
    rw[n,gX _ _ _ (by simp[towB])]
   ·have Z:¬V.str (tx c)=V.str "" :=fun z=>hz (qK (V.str.inj z))
    have ab:(tx e).length+(tx c).length<=sizeLine:=by rw[yB,yB,aR];omega
    have ac:(e++c).length<=64:=by rw[aE];omega
    refine zAP Z ⟨_,rfl,_,rfl,tx e,tx c,rfl,rfl,ab,_,rfl,e++c,o,by rw[zBm];rfl,hb.o1,ac,_,rfl,J,zP T,rfl,.inl (.of t),rfl,zHG _,_,rfl,?_⟩
    have W:(if false=true then !qF (sv (zE (e++c) o)) (zP T)else qF (sv (zE (e++c) o)) (zP T))=decide (zE (e++c) o∈T):=by
     rw[if_neg (by simp),zHF]
    rw[W]
    by_cases hm:zE (e++c) o∈T
    ·refine kI hm ⟨_,rfl,Y _ _ [some (sv c)] rfl ⟨rfl,?_⟩⟩
     rw[n,zAX _ _ _ (by simp[towB,hz,hm]),aC];rfl
    ·refine qJ hm (Y _ _ [some (sv c)] rfl ⟨rfl,?_⟩)
     rw[n,gX _ _ _ (by simp[towB,hm])]
  ·rintro q H' ⟨rfl,rfl⟩ D hD
   rw[aa,aa,aU]
   have sD:zA H' (upd H' D (.lst ((os.filter (towB o e T)).map sv))):=zA.upd1 hD
   refine k D _ _ (I.trans sD) (I.free hD) zF (cM _ m) fun x=>?_
   rw[aQ,d.mem_iff,uV,bc,decide_eq_true_eq,decide_eq_true_eq]
   exact⟨fun⟨a,b,c⟩=>⟨b,a,c⟩,fun⟨a,b,c⟩=>⟨b,a,c⟩⟩
end
theorem zNS {X:Cx}(a:ae)(b:X.K=a)(c:X.A.units+64<cLine):yK X (compareOp .NotEq) (zCi a true):=by
 subst b
 exact zAJ c
theorem zNT (ds:List bW):eY (.list ds) (.list [])=ds.isEmpty:=by
 cases ds with
 |nil=>rfl
 |cons d ds=>rfl
theorem zHi {cv:St}{y x:Option V}{m:Nat}(h:cv.length=m):(cv++[y]).set m x=cv++[x]:=by
 subst h
 rw[List.set_append_right _ _ (aD _),jg];rfl
theorem zNU {cv:St}{x:Option V}{m:Nat}(h:cv.length=m):(cv++[x])[m]?=some x:=by
 subst h
 rw[bw (aD _),jg];rfl
theorem zHj {σ:St}{H:Hp}{Q:V->Hp->Prop}{d:ah}{ra:List (S×ah×List (S×Int))}{y:TT}{caps:List Nat}{m n:Nat}{cv:St}(I:σ[0]?=some (some (.ref d)))
  (u:H d=some (.dK (zT (fun v:ah×List (S×Int)=>V.ref v.1) ra))) (j:ra.length<1000) (z:v8 caps n σ=cv++aB 1 none) (hm:cv.length=m) (b:S->Bool)
  (e:∀(a:S×ah×List (S×Int)) (J:Obj) (A:Hp) (Z:Bool->Hp->Prop),a∈ra->zA (upd H d (.frz J (.dK (zT (fun v:ah×List (S×Int)=>V.ref v.1) ra)))) A->(∀B,zA A B->Z (b a.1) B)->y (cv++[some (sv a.1)]) A Z)
  (k:∀D H',zA H H'->H D=none->H' D=some (.lst (((ra.map (·.1)).filter b).map sv))->Q (.ref D) H'):zDY (zBV (zDX (vR 0)) (jX m) y (vR m) caps n) σ H Q:=by
 refine⟨d,_,u,_,I,d,_,rfl,u,fun o=>?_⟩
 generalize l:zT (fun v:ah×List (S×Int)=>V.ref v.1) ra=kvs at u e
 have hl2:(kvs.map fun p=>kV p.1).length=ra.length:=by rw[aa,<-l];exact vT _ _
 refine kG (zBp d o kvs) cv 1 (by rw[hl2];exact j) (fun i c H'=>zA (upd H d (.frz o (.dK kvs))) H'/\c=(((ra.take i).map (·.1)).filter b).map sv) ⟨zA.refl _,rfl⟩
  (fun i c H' _ h=>⟨h.1 _ _ zF,by
   rw[h.2,aa]
   have w:=bj b ((ra.take i).map (·.1))
   rw[aa,aO]at w
   omega⟩) ?_ ?_ z
 ·rintro i x c H' ys O F f L ⟨sm,rfl⟩
  obtain⟨M,rfl⟩:=uD L
  rw[<-l]at f
  unfold zT yW at f
  rw[aq,aq,aq]at f
  cases q:ra[i]? with
  |none=>rw[q]at f;cases f
  |some a=>
  rw[q]at f
  have hx2:x=sv a.1:=(ay f).symm
  subst hx2
  have hi:i<ra.length:=(af.mp q).1
  have r:(ra.take (i+1)).map (·.1)=(ra.take i).map (·.1)++[a.1]:=by rw[ak hi,(af.mp q).2,aC];rfl
  show y ((cv++[M]).set m (some (sv a.1))) H' _
  rw[zHi hm]
  refine e a o H' _ (aT q) sm fun B G=>?_
  cases s:b a.1 with
  |true=>
   refine vM ⟨_,zNU hm,F _ _ [some (sv a.1)] rfl ⟨sm.trans G,?_⟩⟩
   rw[r,zAX _ _ _ s,aC];rfl
  |false=>
   refine uH (F _ _ [some (sv a.1)] rfl ⟨sm.trans G,?_⟩)
   rw[r,gX _ _ _ s]
 ·rintro c H' ⟨sm,rfl⟩ D C
  rw[hl2,aU]
  have t:=sm _ _ zF
  have g:d≠D:=yI t C
  have N:zA H' (upd H' D (.lst (((ra.map (·.1)).filter b).map sv))):=zA.upd1 C
  have E:H D=none:=by
   have w:=sm.free C
   rw[zG g.symm]at w;exact w
  exact⟨o,by rw[zG g];exact t,k D _ (zA.thaw (sm.trans N) u) E (by rw[zG g.symm,zF])⟩
theorem zBA {ps:List (S×S)}{ra:List (S×ah×List (S×Int))}(a:ra.map (fun r=>(r.1,r.2.2))=vH ps)(e:S):e∈ra.map (·.1)↔∃l,(e,l)∈ps:=by
 rw[<- (yT ps).has e]
 have b:ra.map (·.1)=(vH ps).map (·.1):=by rw[<-a,aP];rfl
 rw[b]
 constructor
 ·intro h
  obtain⟨q,c,rfl⟩:=az.mp h
  exact⟨q.2,(vG (yT ps).nd _ _).mp c⟩
 ·rintro⟨row,h⟩
  exact az.mpr ⟨_,(vG (yT ps).nd _ _).mpr h,rfl⟩
theorem zNV {ps:List (S×S)}{ra:List (S×ah×List (S×Int))}(a:ra.map (fun r=>(r.1,r.2.2))=vH ps){r:S×ah×List (S×Int)}(b:r∈ra):yM (zT (fun v:ah×List (S×Int)=>V.ref v.1) ra) (Sum.inr (tx r.1))=some (.ref r.2.1):=by
 have knd:(ra.map (·.1)).Nodup:=by
  have h:=(yT ps).nd
  rw[<-a,aP]at h
  exact h
 rw[v9,(vG knd r.1 r.2).mp b];rfl
theorem zNW {ps:List (S×S)}{o:Nat}:∀{k:Nat}{e:S},Cl ps o k e->∃l,(e,l)∈ps
 |0,e,h=>⟨[],h⟩
 |k+1,e,⟨l,_,h,_⟩=>⟨l,h⟩
theorem zNX {bk:List S}{o:Nat}(b:Bk bk o){e l:S}(h:(e,l)∈zC o bk):∀c∈l,c<=122:=fun c a=>by
 obtain⟨nm,d,f⟩:=bx.mp h
 obtain⟨p,_,g⟩:=az.mp f
 have i:(nm.drop p).take 1=l:=congrArg jx g
 rw[<-i]at a
 exact((b.nm nm d).2.2 c (iU (cz a))).2
theorem zNY {L:List S}(h:∀x∈L,∀c∈x,c<=122):fV (.list (L.map fun x=>PyData.str (tx x)))=true :=
 (zBn fun d hd=>by
  obtain⟨x,a,rfl⟩:=az.mp hd
  exact⟨zGq (h x a),by show 0<=10;decide⟩).1
theorem zDv {K:ae}{H:Hp}{l:ah}{L:List S}(h:H l=some (.lst (L.map sv))):yQ K H (.list (L.map fun x=>PyData.str (tx x))) (.ref l):=by
 refine⟨l,L.map sv,rfl,.of h,?_⟩
 have:=(Reps.strs (K:=K) (H:=H) (ss:=L.map tx) (xs:=L.map sv)).mpr (by rw[aP];rfl)
 rw[aP]at this
 exact this
theorem zHk (ps:List (S×S))(e l:S):(yM (zN (yE ps e)) (Sum.inr (tx l))).isSome=decide ((e,l)∈ps):=by
 show(yM (zT V.int (yE ps e)) _).isSome=_
 rw[v9,zAs]
 by_cases c:0<ps.count (e,l)
 ·rw[if_pos c,decide_eq_true (cK.mp c)];rfl
 ·rw[if_neg c,decide_eq_false (fun z=>c (cK.mpr z))];rfl
abbrev gY (ps:List (S×S))(o:Nat)(T:List S)(e:S):Bool:=!((yF ps e).filter (towB o e T)).isEmpty
theorem zHl {ps:List (S×S)}{o:Nat}{T:List S}{e:S}:gY ps o T e=true↔∃l,l≠[]/\(e,l)∈ps/\zE (e++l) o∈T:=by
 unfold gY
 rw[dX,d3]
 constructor
 ·rintro⟨l,hl⟩
  obtain⟨b,a⟩:=aQ.mp hl
  rw[bc,decide_eq_true_eq,decide_eq_true_eq]at a
  exact⟨l,a.1,(uV _ _ _).mp b,a.2⟩
 ·rintro⟨l,b,a,c⟩
  exact⟨l,aQ.mpr ⟨(uV _ _ _).mpr a,by rw[bc,decide_eq_true_eq,decide_eq_true_eq];exact⟨b,c⟩⟩⟩
theorem zNZ {ps:List (S×S)}{o:Nat}{T:List S}{e:S}{out:List S}(h:∀x,x∈out↔x≠[]/\(e,x)∈ps/\zE (e++x) o∈T):(!out.isEmpty)=gY ps o T e:=by
 rw[eD,zHl,dX,d3]
 exact⟨fun⟨l,hl⟩=>⟨l,(h l).mp hl⟩,fun⟨l,hl⟩=>⟨l,(h l).mpr hl⟩⟩
def zDw (H:Hp)(c:ah)(ps:List (S×S))(o:Nat)(cl:List (ah×List S)):Prop:=H c=some (.lst (cl.map fun q=>V.ref q.1))/\∀(k:Nat) (q:ah×List S),cl[k]?=some q->q.1≠c/\H q.1=some (.lst (q.2.map sv))/\∀e,e∈q.2↔Cl ps o k e
section
variable{P:aJ}{w:aV}{K:ae}{mg:Str->Option ag}{base:bC}
abbrev sCE:cp:=top 49
theorem zHm:FnScope ["rows","order","length","closing","targets"] ["rows","order","length"] (defScope sCE):=yD
theorem zNa:(["rows","end"]:List Str).Nodup:=by decide+kernel
theorem zNb:(["rows","order","targets","end"]:List Str).Nodup:=by decide+kernel
def zHn:Sp:=fun vs H Q _=>∃(d:ah) (o n:Nat) (bk:List S),vs=[.ref d,.int o,.int n]/\Bk bk o/\(zC o bk).length<64/\qL H d (zC o bk)/\1<=n/\n<=8/\
 ∀(c:ah) (cl:List (ah×List S)) (H':Hp),zA H H'->H c=none->zDw H' c (zC o bk) o cl->cl.length=n->Q (.ref c) H'
theorem zNc {f:ah}{fd:aX}(F:Fun K "closing_ends" "closing_ends" sCE f fd)(B:Blt mg)(au:zY P w K mg base 2 "letters_towards" ["row","end","order","targets"] zDu):FnOk P w K mg base z7 3 f fd ["rows","order","length"] zHn:=by
 refine F.ok zHm (fun vs H Q E h=>?_) (fun a5 A outer s H vs Q E hr h=>?_)
 ·obtain⟨d,o,n,bk,rfl,_⟩:=h;rfl
 ·obtain⟨d,o,n,bk,rfl,hb,ax,⟨ra,y,r2,r3⟩,aA,a6,k⟩:=h
  have hu:=uT hr
  have aK:=hr.units
  have nd:=zHm.nd
  refine⟨_,zJ (zV (i:=3) nd rfl (Or.inl rfl) (vK (zB (zAR (vE (N:=["rows","end"]) (caps:=[0]) rfl (y9 (by kernel_rfl)) (zAu (pv 0)) (fun cl X s H ex=>z0 (i:=1) zNa rfl (Or.inl rfl))
    (fun cl X s H ex=>j8 (zBK (zFf hu vB (j6 hu (pv 0) (pv 1) (fun _ _=>rfl))))) (fun cl X s H ex=>pv 1))) zD)))
   (zJ (zCQ bF (vJ zFF (yH zAm (by rfl) B.len cu (zB (pv 3) zD)) (pv 2) (vD _))
    (zJ (zV (i:=4) nd rfl (Or.inr rfl) (uY zAG (pv 3) (zAh zAi zI) (fun _ _=>rfl)))
    (zO (vW (gL dY lr lu zFY (pv 3) (zB
     (zAR (vE (N:=["rows","order","targets","end"]) (caps:=[0,1,4]) rfl (y9 (by kernel_rfl)) (zAu (pv 0)) (fun cl X s H ex=>z0 (i:=3) zNb rfl (Or.inl rfl))
      (fun cl X s H ex=>j8 (vJ (zNS K rfl aK) (zU au hr rfl (zB (j6 hu (pv 0) (pv 3) (fun _ _=>rfl)) (zB (pv 3) (zB (pv 1) (zB (pv 2) zD))))) (vK zD) (vD _))) (fun cl X s H ex=>pv 3))) zD))))))
   (zO (zZ (pv 3)))),?_⟩
  have a7:ra.length<64:=by
   have O:=zBw (ps:=zC o bk)
   rw[<-y,aa]at O;omega
  have R:=zAz r2 r3
  have T:∀{H0 C:Hp} {U:Obj} {a:S×ah×List (S×Int)},a∈ra->H0 d=some (.dK (zT (fun v:ah×List (S×Int)=>V.ref v.1) ra))->zA (upd H0 d (.frz U (.dK (zT (fun v:ah×List (S×Int)=>V.ref v.1) ra)))) C->yV C d (sv a.1) (some (.ref a.2.1)):=fun{H0 C U a} hr0 _ sm=>
   .inl ⟨_,Sum.inr (tx a.1),.inr ⟨U,sm _ _ zF⟩,rfl,(zNV y hr0).symm⟩
  refine zHj (d:=d) (ra:=ra) (cv:=[some (.ref d)]) (m:=1) rfl r2 (by omega) rfl rfl (fun e=>decide ((e,[])∈zC o bk)) (fun a U C Z hr0 sm z=>?_) (fun D H1 s1 hD W=>?_)
  ·have G:C a.2.1=some (.dK (zN (yE (zC o bk) a.1))):=by
    rw[<-zAW y hr0]
    exact sm _ _ (by rw[zG (R a hr0)];exact r3 a hr0)
   refine⟨_,rfl,_,rfl,d,.ref a.2.1,rfl,T hr0 r2 sm,a.2.1,_,rfl,yV.k (k:=Sum.inr (tx [])) G,_,rfl,?_⟩
   rw[zHk]
   exact z _ (zA.refl _)
  refine⟨by show 1<=sizeLine;decide,fun c hc=>?_⟩
  have s2:zA H1 (upd H1 c (.lst [V.ref D])):=zA.upd1 hc
  have Y:H c=none:=s1.free hc
  have aN:D≠c:=yI W hc
  have ab:∀e,e∈(ra.map (·.1)).filter (fun e=>decide ((e,[])∈zC o bk))↔Cl (zC o bk) o 0 e:=fun e=>by
   rw[aQ,zBA y,decide_eq_true_eq]
   exact⟨fun h=>h.2,fun h=>⟨⟨[],h⟩,h⟩⟩
  refine⟨fun m σ H'=>∃(cl:List (ah×List S)) (x4:Option V),σ=[some (.ref d),some (.int o),some (.int n),some (.ref c),x4]/\zDw H' c (zC o bk) o cl/\1<=cl.length/\cl.length<=n/\m=n-cl.length/\zA H H',
   ⟨n-1,[(D,(ra.map (·.1)).filter (fun e=>decide ((e,[])∈zC o bk)))],_,rfl,⟨zF,fun k q j=>?_⟩,aD _,aA,rfl,s1.trans s2⟩,?_⟩
  ·cases k with
   |zero=>
    have hq:(D,(ra.map (·.1)).filter (fun e=>decide ((e,[])∈zC o bk)))=q:=ay j
    subst hq
    exact⟨aN,s2 _ _ W,ab⟩
   |succ k=>simp at j
  rintro m σ H' ⟨cl,x4,rfl,⟨g,I⟩,ac,a8,rfl,sm⟩
  refine⟨_,rfl,c,_,rfl,.inl (.of g),_,rfl,_,_,rfl,rfl,_,rfl,?_⟩
  by_cases a9:cl.length<n
  ·refine kI (by rw[aa];omega) ⟨fun σ' J=>∃(r:List (ah×List S)) (x4:Option V),σ'=[some (.ref d),some (.int o),some (.int n),some (.ref c),x4]/\zDw J c (zC o bk) o r/\r.length=cl.length+1/\zA H J,?_,?_⟩
   ·rintro σ' J ⟨r,be,rfl,O,h2,h3⟩
    exact⟨n- (cl.length+1),by omega,r,_,rfl,O,by omega,by omega,by omega,h3⟩
   ·obtain⟨b,q,rfl⟩:∃b q,cl=b++[q]:=by
     have al:cl≠[]:=fun z=>by rw[z]at ac;cases ac
     exact⟨cl.dropLast,cl.getLast al,(List.dropLast_concat_getLast al).symm⟩
    have hq:(b++[q])[b.length]?=some q:=by rw[bw (aD _),jg];rfl
    obtain⟨q1,q2,q3⟩:=I _ _ hq
    have aW:qS (iO (fun q:ah×List S=>V.ref q.1) (b++[q])) (-1)=some (V.ref q.1):=by
     rw[aC]
     exact zKM _ _
    refine⟨_,rfl,_,rfl,c,_,-1,V.ref q.1,rfl,rfl,.of g,aW,?_⟩
    have L:=sm _ _ r2
    refine⟨_,rfl,.inl ⟨rfl,_,.of g⟩,zHj (d:=d) (ra:=ra) (cv:=[some (.ref d),some (.int o),some (.ref q.1)]) (m:=3) rfl L (by omega) rfl rfl (gY (zC o bk) o q.2) (fun a U C Z hr0 M z=>?_) (fun D2 H3 s3 am a0=>?_)⟩
    ·have a1:q.1≠d:=fun z=>by rw[z,L]at q2;cases q2
     have G:C a.2.1=some (.dK (zN (yE (zC o bk) a.1))):=by
      rw[<-zAW y hr0]
      exact M _ _ (by rw[zG (R a hr0)];exact sm _ _ (r3 a hr0))
     obtain⟨l0,hl0⟩:=(zBA y a.1).mp (az.mpr ⟨a,hr0,rfl⟩)
     have a2:a.1.length<=3:=by have:=zDo hl0;have:=hb.o3;omega
     refine⟨_,rfl,_,rfl,d,.ref a.2.1,rfl,T hr0 L M,_,rfl,_,rfl,_,rfl,a.2.1,q.1,a.1,o,bk,q.2,rfl,hb,ax,G,a2,M _ _ (by rw[zG a1];exact q2),fun l out H6 s6 bi an a4 t=>?_⟩
     refine⟨by show 0<=sizeLine;decide,fun e0 a3=>?_⟩
     have s7:zA H6 (upd H6 e0 (.lst [])):=zA.upd1 a3
     refine⟨.list (out.map fun x=>PyData.str (tx x)),.list [],zDv (s7 _ _ an),⟨e0,[],rfl,.of zF,rfl⟩,zNY fun x hx=>zNX hb ((t x).mp hx).2.1,rfl,_,rfl,?_⟩
     have e1:(if true=true then !PyData.eqv (.list (out.map fun x=>PyData.str (tx x))) (.list [])else eY (.list (out.map fun x=>PyData.str (tx x))) (.list []))=gY (zC o bk) o q.2 a.1:=by
      rw[if_pos rfl,zNT,List.isEmpty_map]
      exact zNZ t
     rw[e1]
     exact z _ (s6.trans s7)
    ·have ao:=s3 _ _ g
     have u:D2≠c:=fun z=>by rw[z,g]at am;cases am
     refine⟨c,_,_,rfl,rfl,ao,by rw[aa,aR];omega,(b++[q])++[(D2,(ra.map (·.1)).filter (gY (zC o bk) o q.2))],_,rfl,⟨?_,fun k p j=>?_⟩,by simp,(sm.trans s3).upd_new Y⟩
     ·rw[zF,aC (l₁:=b++[q])];rfl
     ·by_cases ap:k<(b++[q]).length
      ·rw[bI ap]at j
       obtain⟨O,h2,h3⟩:=I k p j
       exact⟨O,by rw[zG O];exact s3 _ _ h2,h3⟩
      ·rw[bw (by omega)]at j
       have as:k- (b++[q]).length=0:=by
        have:=(af.mp j).1
        simp at this
        simp;omega
       rw[as]at j
       have hp:(D2,(ra.map (·.1)).filter (gY (zC o bk) o q.2))=p:=ay j
       subst hp
       refine⟨u,by rw[zG u];exact a0,fun e=>?_⟩
       have ek:k=b.length+1:=by simp at as ap;omega
       rw[ek,aQ,zBA y,zHl]
       show _↔∃l,l≠[]/\(e,l)∈zC o bk/\Cl (zC o bk) o b.length (zE (e++l) o)
       constructor
       ·rintro⟨_,l,g1,g2,g3⟩
        exact⟨l,g1,g2,(q3 _).mp g3⟩
       ·rintro⟨l,g1,g2,g3⟩
        exact⟨⟨l,g2⟩,l,g1,g2,(q3 _).mpr g3⟩
  ·refine qJ (by rw[aa];omega) ⟨_,rfl,k c cl H' sm Y ⟨g,I⟩ (by omega)⟩
end
def gZ (bk:List S):Prop:=∀nm∈bk,∀c∈nm,c=97\/c=98\/c=122
theorem zBx {o:Nat}{bk:List S}(f:gZ bk){L:List S}{e:S}(g:L.Pairwise (· < ·))(hm:∀l∈L,l≠[]/\(e,l)∈zC o bk):L.length<=3:=by
 refine gU L [[97],[98],[122]] (g.imp fun{a b} h z=>by rw[z]at h;exact kJ _ h) fun l hl=>?_
 obtain⟨j,d⟩:=hm l hl
 obtain⟨c,rfl⟩:=gE (gR d) j
 obtain⟨nm,m,n⟩:=bx.mp d
 obtain⟨p,_,q⟩:=az.mp n
 have r:(nm.drop p).take 1=[c]:=congrArg jx q
 have s:c∈nm:=iU (i:=p) (cz (i:=1) (by rw[r];exact bK _))
 rcases f nm m c s with rfl|rfl|rfl<;>simp
theorem zBy (A:List S)(g:S->List S)(h:∀t∈A,(g t).length<=3):(A.flatMap g).length<=3*A.length:=by
 induction A with
 |nil=>simp
 |cons t A ih=>
  rw[iw,aE,bg]
  have b:=h t (aj ..)
  have c:=ih fun u a=>h u (ar _ a)
  omega
def zBB (ps:List (S×S))(o:Nat)(T:List S)(e:S)(L:List S):Prop:=L.Pairwise (· < ·)/\∀x,x∈L↔x≠[]/\(e,x)∈ps/\zE (e++x) o∈T
section
variable{P:aJ}{w:aV}{K:ae}{mg:Str->Option ag}{base:bC}
abbrev zDx:cp:=top 50
theorem zHo:FnScope ["rows","order","texts","targets","leading","end","row","longer","text"] ["rows","order","texts","targets"] (defScope zDx):=yD
theorem zNd:(["text","letter"]:List Str).Nodup:=by decide+kernel
def zHp:Sp:=fun vs H Q _=>∃(d ta tl:ah) (o:Nat) (bk A T:List S),vs=[.ref d,.int o,.ref ta,.ref tl]/\Bk bk o/\gZ bk/\(zC o bk).length<64/\qL H d (zC o bk)/\H ta=some (.lst (A.map sv))/\H tl=some (.lst (T.map sv))/\A.length<=100000/\
 (∀t∈A,t.length<=8/\∃l,(zE t o,l)∈zC o bk)/\
 ∀(l:ah) (lt:S->List S) (H':Hp),zA H H'->H l=none->(∀e,(∃l,(e,l)∈zC o bk)->zBB (zC o bk) o T e (lt e))->H' l=some (.lst ((A.flatMap fun t=>(lt (zE t o)).map (t++·)).map sv))->Q (.ref l) H'
theorem zNe {f:ah}{fd:aX}(F:Fun K "lengthened" "lengthened" zDx f fd)(b2:zY P w K mg base 2 "letters_towards" ["row","end","order","targets"] zDu)(a5:zY P w K mg base 1 "end_of" ["text","order"] zAq):FnOk P w K mg base z7 3 f fd ["rows","order","texts","targets"] zHp:=by
 refine F.ok zHo (fun vs H Q E h=>?_) (fun ci A outer s H vs Q E C h=>?_)
 ·obtain⟨d,ta,tl,o,bk,A,T,rfl,_⟩:=h;rfl
 ·obtain⟨d,ta,tl,o,bk,A,T,rfl,hb,an,b3,⟨ra,r1,r2,r3⟩,a6,au,co,a7,k⟩:=h
  have hu:=uT C
  have hr1:=C.mono (j:=1) (by decide)
  have nd:=zHo.nd
  refine⟨_,zJ (zV (i:=4) nd rfl (Or.inl rfl) j7)
   (zJ (zAT (vS bF rfl (zAS (gQ K rfl bY cJ dj zAM (pv 0)))
     (kZ rfl (uF (z0 (i:=5) nd rfl (Or.inl rfl)) (uF (z0 (i:=6) nd rfl (Or.inl rfl)) kY)))
     (zO (gO hu (pv 4) (pv 5) (zU b2 C rfl (zB (pv 6) (zB (pv 5) (zB (pv 1) (zB (pv 3) zD))))) rfl))))
   (zJ (zV (i:=7) nd rfl (Or.inl rfl) (vK zD))
   (zJ (vS bF rfl (uX (pv 2)) (z0 (i:=8) nd rfl (Or.inr rfl))
     (zO (vW (gL dY PySem.F.slot_list_extend PySem.F.type_list_extend zKW (pv 7) (zB
      (vE (N:=["text","letter"]) (caps:=[8]) rfl (y9 (by kernel_rfl)) (uX (j6 hu (pv 4) (zU a5 hr1 rfl (zB (pv 8) (zB (pv 1) zD))) (fun _ _=>rfl)))
       (fun cl X s H ex=>z0 (i:=1) zNd rfl (Or.inl rfl)) (fun cl X s H ex=>uI) (fun cl X s H ex=>zR zBP (pv 0) (pv 1))) zD)))))
   (zO (zZ (pv 7)))))),?_⟩
  intro ld ax
  have a8:zA H (upd H ld (.dK [])):=zA.upd1 ax
  have J:=a8 _ _ r2
  have L:ld≠d:=(yI r2 ax).symm
  refine⟨d,_,J,?_⟩
  refine⟨_,rfl,.inr (.inr (.inl ⟨rfl,.inl ⟨_,J⟩⟩)),d,_,rfl,rfl,J,fun p hp=>?_⟩
  have a9:p≠ld:=fun z=>by subst z;rw[zF]at hp;cases hp
  have be:zA (upd H ld (.dK [])) (upd (upd H ld (.dK [])) p (VW p d)):=zA.upd1 hp
  refine⟨p,d,_,rfl,zF,be _ _ J,fun ob=>?_⟩
  have b4:=zAz r2 r3
  generalize bi:zT (fun v:ah×List (S×Int)=>V.ref v.1) ra=kvs at r2 J
  generalize bl:upd (upd (upd H ld (.dK [])) p (VW p d)) d (.frz ob (.dK kvs))=H3
  have s3:zA (upd H d (.frz ob (.dK kvs))) H3:=fun b u e=>by
   rw[<-bl]
   by_cases ab:b=d
   ·subst ab;rw[zF]at e⊢;exact e
   ·rw[zG ab]at e⊢
    exact be _ _ (a8 _ _ e)
  have bm:H3 ld=some (.dK (zT (fun v:ah×List S=>V.ref v.1) [])):=by
   rw[<-bl,zG L,zG a9.symm,zF];rfl
  have bn:upd H d (.frz ob (.dK kvs)) ld=none:=by rw[zG L];exact ax
  have cr:ra.length<64:=by
   have h1:=zBw (ps:=zC o bk)
   rw[<-r1,aa]at h1;omega
  have bt:tl≠d:=fun z=>by rw[z,r2]at au;cases au
  have M:(ra.map (·.1)).Nodup:=by
   have h:=(yT (zC o bk)).nd
   rw[<-r1,aP]at h
   exact h
  refine zAv (fun i σ H'=>(∃x5 x6 x7 x8:Option V,σ=[some (.ref d),some (.int o),some (.ref ta),some (.ref tl),some (.ref ld),x5,x6,x7,x8])/\zA (upd H d (.frz ob (.dK kvs))) H'/\∃g:List (S×ah×List S),H' ld=some (.dK (zT (fun v:ah×List S=>V.ref v.1) g))/\g.map (·.1)=(ra.take i).map (·.1)/\∀r∈g,H' r.2.1=some (.lst (r.2.2.map sv))/\zBB (zC o bk) o T r.1 r.2.2)
   ⟨⟨_,_,_,_,rfl⟩,s3,[],bm,rfl,fun r C=>by cases C⟩ (fun i σ H' _ h=>h.2.1 _ _ zF) ?_ ?_
  ·rintro i q T0 σ H' Nx hN hq ⟨⟨x5,x6,x7,x8,rfl⟩,sm,g,O,m,ac⟩ b5
   rw[<-bi]at hq
   unfold zT yW at hq
   rw[aq,aq]at hq
   cases R:ra[i]? with
   |none=>rw[R]at hq;cases hq
   |some a=>
   rw[R]at hq
   have hq2:q=(Sum.inr (tx a.1),V.ref a.2.1):=(ay hq).symm
   subst hq2
   have G:a∈ra:=aT R
   have hi:i<ra.length:=(af.mp R).1
   have al:ra.take (i+1)=ra.take i++[a]:=by rw[ak hi,(af.mp R).2]
   have b6:upd H d (.frz ob (.dK kvs)) a.2.1=some (.dK (zN a.2.2)):=by rw[zG (b4 a G)];exact r3 a G
   refine⟨T0,[sv a.1,.ref a.2.1],rfl,.of zF,rfl,_,_,rfl,_,_,rfl,rfl,?_⟩
   generalize b7:upd H' T0 (HO.tup [kV ((Sum.inr (tx a.1):zK),V.ref a.2.1).1,((Sum.inr (tx a.1):zK),V.ref a.2.1).2])=H4
   have s4:zA H' H4:=by rw[<-b7];exact zA.upd1 b5
   have aA:=sm.trans s4
   have b9:H4 a.2.1=some (.dK (zN (yE (zC o bk) a.1))):=by rw[<-zAW r1 G];exact aA _ _ b6
   obtain⟨l0,hl0⟩:=(zBA r1 a.1).mp (az.mpr ⟨a,G,rfl⟩)
   have aK:a.1.length<=3:=by have:=zDo hl0;have:=hb.o3;omega
   refine⟨_,rfl,_,rfl,_,rfl,_,rfl,a.2.1,tl,a.1,o,bk,T,rfl,hb,b3,b9,aK,aA _ _ (by rw[zG bt];exact au),fun l out H5 s5 aN bv bA aW=>?_⟩
   have bH:=s4.trans s5
   have ao:=bH _ _ O
   have bL:l≠ld:=fun z=>by rw[z]at aN;rw[s4 _ _ O]at aN;cases aN
   have knd:(g.map (·.1)).Nodup:=by
    rw[m,d6]
    exact M.sublist (dz _ _)
   have fresh:a.1∉g.map (·.1):=fun h1=>by
    rw[m]at h1
    have h2:((ra.take (i+1)).map (·.1)).Nodup:=by rw[d6];exact M.sublist (dz _ _)
    rw[al,aC]at h2
    exact(eQ.mp h2).2.2 _ h1 _ (by simp) rfl
   refine⟨_,rfl,_,rfl,ld,_,rfl,qV.k (k:=Sum.inr (tx a.1)) ao (by rw[vT,<-aa (f:=(·.1)),m,aa,aO,aR];omega),?_⟩
   have ap:=gB (fun v:ah×List S=>V.ref v.1) g a.1 (l,out) knd
   rw[gC g _ _ fresh]at ap
   have sx:yJ ld H5 (upd H5 ld (.dK (vL (zT (fun v:ah×List S=>V.ref v.1) g) (Sum.inr (tx a.1)) (V.ref l)))):=(yJ.refl _).updf
   refine hN _ _ ⟨⟨_,_,_,_,rfl⟩,fun b u e=>?_,g++[(a.1,l,out)],?_,?_,fun r C=>?_⟩
   ·have ab:b≠ld:=fun z=>by rw[z,bn]at e;cases e
    exact sx _ _ ab (s5 _ _ (aA _ _ e))
   ·rw[zF]
    exact congrArg (fun z=>some (HO.dK z)) ap
   ·rw[aC,m,al,aC];rfl
   ·rcases bG.mp C with z|z
    ·obtain⟨g1,g2⟩:=ac r z
     have g3:=bH _ _ g1
     have a0:r.2.1≠ld:=fun z=>by rw[z,ao]at g3;cases g3
     exact⟨sx _ _ a0 g3,g2⟩
    ·have hr2:r=(a.1,l,out):=b8.mp z
     subst hr2
     exact⟨sx _ _ bL bv,bA,aW⟩
  ·rintro σ H' ⟨⟨x5,x6,x7,x8,rfl⟩,sm,g,O,m,ac⟩
   refine⟨ob,sm _ _ zF,?_⟩
   have n:zA H (upd H' d (.dK kvs)):=zA.thaw sm r2
   have U:upd H' d (.dK kvs) ld=some (.dK (zT (fun v:ah×List S=>V.ref v.1) g)):=by rw[zG L];exact O
   have W:∀r∈g,upd H' d (.dK kvs) r.2.1=some (.lst (r.2.2.map sv))/\zBB (zC o bk) o T r.1 r.2.2:=fun r C=>by
    obtain⟨g1,g2⟩:=ac r C
    have a0:r.2.1≠d:=fun z=>by rw[z,sm _ _ zF]at g1;cases g1
    exact⟨by rw[zG a0];exact g1,g2⟩
   have aK:(zT (fun v:ah×List (S×Int)=>V.ref v.1) ra).length=ra.length:=vT _ _
   rw[<-bi,aK,aU]at m
   clear ac O sm
   generalize upd H' d (.dK kvs)=H4 at n U W
   clear H'
   have knd:(g.map (·.1)).Nodup:=by rw[m];exact M
   have bS:∀e,(∃l,(e,l)∈zC o bk)->∃r∈g,r.1=e/\zL g e=some r.2:=fun e he=>by
    have h1:=(zBA r1 e).mpr he
    rw[<-m]at h1
    obtain⟨r,C,rfl⟩:=az.mp h1
    exact⟨r,C,rfl,(vG knd _ _).mp C⟩
   have Y:∀e,(∃l,(e,l)∈zC o bk)->zBB (zC o bk) o T e (((zL g e).map (·.2)).getD []):=fun e he=>by
    obtain⟨r,C,rfl,hg⟩:=bS e he
    rw[hg]
    exact(W r C).2
   refine⟨by show 0<=sizeLine;decide,fun lo I=>?_⟩
   have s5:zA H4 (upd H4 lo (.lst [])):=zA.upd1 I
   have as:H lo=none:=n.free I
   have a1:lo≠ld:=fun z=>by rw[z,U]at I;cases I
   refine⟨_,rfl,ta,rfl,⟨_,.of (s5 _ _ (n _ _ a6))⟩,?_⟩
   have Z:=n _ _ a6
   have a2:ta≠lo:=yI Z I
   refine uU (u5 K ta (A.map sv)) (fun i σ H'=>(∃x5 x6 x8:Option V,σ=[some (.ref d),some (.int o),some (.ref ta),some (.ref tl),some (.ref ld),x5,x6,some (.ref lo),x8])/\yJ lo (upd H4 lo (.lst [])) H'/\H' lo=some (.lst (((A.take i).flatMap fun t=>(((zL g (zE t o)).map (·.2)).getD []).map (t++·)).map sv)))
    ⟨⟨_,_,_,rfl⟩,yJ.refl _,zF⟩ (fun i σ H' _ h=>.of (h.2.1 _ _ a2 (s5 _ _ Z))) ?_ ?_
   ·rintro i x σ H' Nx hN hx ⟨⟨x5,x6,x8,rfl⟩,sx,B⟩
    rw[aq]at hx
    cases R:A[i]? with
    |none=>rw[R]at hx;cases hx
    |some t=>
    rw[R]at hx
    have hx2:x=sv t:=(ay hx).symm
    subst hx2
    have hi:i<A.length:=(af.mp R).1
    have al:A.take (i+1)=A.take i++[t]:=by rw[ak hi,(af.mp R).2]
    obtain⟨cs,bT⟩:=a7 t (aT R)
    obtain⟨r,C,ct,hg⟩:=bS _ bT
    obtain⟨g1,g2⟩:=W r C
    have a3:r.2.1≠lo:=yI g1 I
    have bU:=sx _ _ a3 (s5 _ _ g1)
    have b0:=sx _ _ a1.symm (s5 _ _ U)
    have dg:yV H' ld (sv (zE t o)) (some (.ref r.2.1)):=by
     have:=yV.k (k:=Sum.inr (tx (zE t o))) b0
     rw[v9,hg]at this
     exact this
    refine⟨_,rfl,.inl ⟨rfl,_,.of B⟩,_,rfl,_,rfl,_,rfl,t,o,rfl,hb.o1,by omega,ld,.ref r.2.1,rfl,dg,r.2.1,rfl,⟨_,.of bU⟩,?_⟩
    have h3:r.2.2.length<=3:=zBx an (e:=r.1) g2.1 fun l hl=>⟨((g2.2 l).mp hl).1,((g2.2 l).mp hl).2.1⟩
    refine uP (u5 K r.2.1 (r.2.2.map sv)) [some (sv t)] 1 (by rw[aa];omega) (fun j am H6=>H6=H'/\am=((r.2.2.take j).map (t++·)).map sv)
     ⟨rfl,rfl⟩ (fun j am H6 _ h=>⟨.of (by rw[h.1];exact bU),by rw[h.2,aa,aa,aO];omega⟩) ?_ ?_
    ·rintro j y am H6 ys cv ca hy cd ⟨rfl,rfl⟩
     obtain⟨y',rfl⟩:=uD cd
     rw[aq]at hy
     cases ej:r.2.2[j]? with
     |none=>rw[ej]at hy;cases hy
     |some c=>
     rw[ej]at hy
     have ce:y=sv c:=(ay hy).symm
     subst ce
     have hj:j<r.2.2.length:=(af.mp ej).1
     have cA:c.length<=1:=gR ((g2.2 c).mp (aT ej)).2.1
     refine⟨_,rfl,_,rfl,tx t,tx c,rfl,rfl,by rw[yB,yB,aR];omega,ca _ _ [some (sv c)] rfl ⟨rfl,?_⟩⟩
     rw[ak hj,(af.mp ej).2,aC,aC,zBm];rfl
    ·rintro am H6 ⟨rfl,rfl⟩ D hD
     rw[aa,aU]
     have sD:zA H6 (upd H6 D (.lst ((r.2.2.map (t++·)).map sv))):=zA.upd1 hD
     have b1:(((A.take i).flatMap fun t=>(((zL g (zE t o)).map (·.2)).getD []).map (t++·)).map sv).length+((r.2.2.map (t++·)).map sv).length<=sizeLine:=by
      have h4:=zBy (A.take i) (fun t=>(((zL g (zE t o)).map (·.2)).getD []).map (t++·)) fun u hu=>by
       obtain⟨_,a4⟩:=a7 u (cz hu)
       have g3:=Y _ a4
       rw[aa]
       exact zBx an (e:=zE u o) g3.1 fun l hl=>⟨((g3.2 l).mp hl).1,((g3.2 l).mp hl).2.1⟩
      rw[aO]at h4
      rw[aa,aa,aa,aR];omega
     refine⟨lo,D,_,_,rfl,rfl,sD _ _ B,zF,b1,hN _ _ ⟨⟨_,_,_,rfl⟩,(sx.trans (yJ.of sD)).updf,?_⟩⟩
     rw[zF,al,fZ,<-aC]
     have e1:((zL g (zE t o)).map (·.2)).getD []=r.2.2:=by rw[hg];rfl
     simp[e1]
   ·rintro σ H' ⟨⟨x5,x6,x8,rfl⟩,sx,B⟩
    rw[aa,aU]at B
    refine⟨_,rfl,k lo (fun e=>((zL g e).map (·.2)).getD []) H' (fun b u e=>?_) as Y B⟩
    have ch:b≠lo:=yI e as
    exact sx _ _ ch (s5 _ _ (n _ _ e))
end
end Kn.Ln
end
section
namespace L2
open PySem PySem.Spec PyProof.Rows
structure Flown (P:aJ) (w:aV) (outer:List Env) (H:Hp) (s:av) (e:ah) (cls a0:ag) (B:bC) (H':Hp) (s':av):Prop where
 os:s'.os=s.os
 bare:ja s'.gens
 fly:rC B outer e cls a0 s'.heap
 trB:∀b u,H' b=some u->∃o,B.get? b=some o
 hok:z9 P w H' s'.heap
 keep:∀b o,s.heap.get? b=some o->H b=none->b∉yS outer->B.get? b=some o
 slot:∀b o,s.heap.get? b=some o->b∈yS outer->H b=none->∃sl,s'.heap.get? b=some {o with slots:=sl}
 free:∀b o,s.heap.get? b=some o->H b=none->H' b=none
 there:∀b o,s.heap.get? b=some o->b∉yS outer->∃o',B.get? b=some o'
 tups:∀b xs,H b=some (.tup xs)->H' b=some (.tup xs)
 frzs:∀b o u,H b=some (.frz o u)->H' b=some (.frz o u)
 tbls:∀b ps,H b=some (.tbl ps)->∃more,H' b=some (.tbl (ps++more))
 ef:H' e=none
def vN (P:aJ)(w:aV):v7:=fun outer H s E ev s'=>∃(e:ah) (cls a0:ag) (B:bC) (H':Hp),ev=.ref e/\Flown P w outer H s e cls a0 B H' s'/\E cls none H'
section
variable{P:aJ}{w:aV}{outer:List Env}{H H':Hp}{s s':av}{e:ah}{cls a0:ag}{B h':bC}
theorem zDy (ok:z9 P w H' s'.heap)(trB:∀b u,H' b=some u->∃o,B.get? b=some o)(st:B.StaysIn s'.heap)(c:B.StaysIn h'):z9 P w H' h':=fun a u q=>by
 refine(ok a u q).stay (fun b v i r=>?_) (fun _ z=>z) fun _ _ z=>z
 have d:∃f,H' b=some f:=by
  rcases i with z|z
  ·rw[z];exact⟨u,q⟩
  ·exact⟨_,z⟩
 obtain⟨f,g⟩:=d
 obtain⟨o,h⟩:=trB b f g
 have:=st b o h
 rw[r]at this
 cases this
 exact c b _ h
theorem Flown.un (F:Flown P w outer H s e cls a0 B H' s')(frf:∀b∈yS outer,H b=none):Un (yS outer) [] H H' s.heap s'.heap where
 keep:=fun b o q n a _=>F.fly.1 b o (F.keep b o q n a)
 slot:=fun b o q n a _=>F.slot b o q a n
 free:=fun b o q n _=>F.free b o q n
 there:=fun b o q _=>by
  by_cases a:b∈yS outer
  ·obtain⟨d,z⟩:=F.slot b o q a (frf b a)
   exact⟨_,z⟩
  ·obtain⟨c,z⟩:=F.there b o q a
   exact⟨c,F.fly.1 b c z⟩
 tups:=F.tups
 frzs:=F.frzs
 tbls:=F.tbls
theorem Flown.on {outer:List Env}(F:Flown P w outer H s e cls a0 B H' s')(fly:rC B outer e cls a0 h')(up:s'.heap.UpToSlots h')(a:s'.heap.FunFrames B outer):Flown P w outer H s e cls a0 B H' {s' with heap:=h'} where
 os:=F.os
 bare:=F.bare
 fly:=fly
 trB:=F.trB
 hok:=zDy F.hok F.trB F.fly.1 fly.1
 keep:=F.keep
 slot:=fun b o q f n=>by
  obtain⟨h,z⟩:=F.slot b o q f n
  obtain⟨_,i,c,hd⟩:=a.mem f
  rw[z]at c
  cases c
  obtain⟨d,g⟩:=up b _ z hd
  exact⟨d,g⟩
 free:=F.free
 there:=F.there
 tups:=F.tups
 frzs:=F.frzs
 tbls:=F.tbls
 ef:=F.ef
end
section
variable{X:Cx}{pins:List (ah×Obj)}{σ:St}{H H':Hp}{s s':av}{e:ah}{cls a0:ag}{B h':bC}
theorem Inv.nstk (I:Inv X pins σ H s){b:ah}{o:Obj}(q:X.s₀.heap.get? b=some o)(a:b∉X.fs):b∉yS X.stack:=fun z=>by
 rcases aL.mp (I.stkSub b z)with r|r
 ·exact absurd (br (aI q) I.ok.above) (by rw[r];exact bP _)
 ·exact a r
theorem zDz (c:X.stack=X.env::X.outer){b:ah}(a:b∈X.fs):b∈yS X.stack:=by
 rw[c]
 unfold yS
 rw[fY]
 cases X.env.frame with
 |none=>exact a
 |some L=>exact ar _ a
theorem Flown.leaves (I:Inv X pins σ H s)(j:X.stack=X.env::X.outer)(r:X.env.frame=some X.env.locals)(t:X.ex=[])(F:Flown X.prog X.w X.stack H s e cls a0 B H' s'){Q:Unit->av->Prop}{E:ag->av->Prop}{M:oK}
  (v:∀f,Flown X.prog X.w X.outer X.H₀ X.s₀ e cls a0 B H' f->Q () f):wpAny M X.A (leaving X.env (.ref e)) Q E s':=by
 have fly:=F.fly
 rw[j]at fly
 have g:=F.fly.2.2.1
 refine wpAny_leaves_onW (by rw[<-j];exact I.ok.frames) r fly fun h' c up=>v _ ?_
 have a:∀b:ah,b∉X.ex:=fun b z=>by rw[t]at z;cases z
 refine⟨F.os.trans I.os,F.bare,c,F.trB,zDy F.hok F.trB F.fly.1 c.1,fun b o q n d=>?_,fun b o q d n=>?_,fun b o q n=>?_,fun b o q d=>?_,fun b xs q=>F.tups b xs (I.base.tups b xs q),fun b o u q=>F.frzs b o u (I.base.frzs b o u q),fun b ps q=>?_,F.ef⟩
 ·exact F.keep b o (I.base.keep b o q n d (a b)) (I.base.free b o q n (a b)) (I.nstk q d)
 ·obtain⟨J,z⟩:=I.base.slot b o q n d (a b)
  obtain⟨x,p⟩:=F.slot b _ z (zDz j d) (I.base.free b o q n (a b))
  obtain⟨_,l,h,hd⟩:=g.mem (show b∈X.stack.filterMap (·.frame)from zDz j d)
  rw[p]at h
  cases h
  obtain⟨i,m⟩:=up b _ p hd
  exact⟨i,m⟩
 ·obtain⟨l,z⟩:=I.base.there b o q (a b)
  exact F.free b l z (I.base.free b o q n (a b))
 ·obtain⟨l,z⟩:=I.base.there b o q (a b)
  exact F.there b l z (I.nstk q d)
 ·obtain⟨y,C⟩:=I.base.tbls b ps q
  obtain⟨D,G⟩:=F.tbls b _ C
  exact⟨y++D,by rw[G,nI]⟩
theorem zNf {C:ah}{vs:List ag}(I:Inv X pins σ H s)(i:X.stack=X.env::X.outer)(r:X.env.frame=some X.env.locals)(v:X.ex=[])(hm:pH s.heap h' e (.ref C) vs){Q:Unit->av->Prop}{E:ag->av->Prop}{M:oK}
  (x:∀d a0 B,Flown X.prog X.w X.outer X.H₀ X.s₀ e (.ref C) a0 B H d->Q () d):wpAny M X.A (leaving X.env (.ref e)) Q E {s with heap:=h'}:=by
 have fr:=I.stack
 have j:∀env∈X.stack,∀b,env.frame=some b->b∈yS X.stack:=fun env y b a=>jm.mpr ⟨env,y,a⟩
 have f:=PySem.W.funFrames_hide (as:=yS X.stack) fr j
 rw[i]at f
 have c:∀b:ah,b∉X.ex:=fun b z=>by rw[v]at z;cases z
 refine wpAny_leaves_madeW (base:=gj s.heap (yS X.stack)) (by rw[<-i];exact I.ok.frames) r (fun b o q=>jj _ q) (by rw[i];exact f) hm fun F t fly tup bt up=>x _ (.ref t) (gj s.heap (yS X.stack)) ?_
 have trB:∀b u,H b=some u->∃o,(gj s.heap (yS X.stack)).get? b=some o:=fun b u q=>by
  obtain⟨o,D⟩:=(I.hok b u q).obj
  exact⟨o,fX _ D fun z=>by rw[I.stkFree b z]at q;cases q⟩
 have l:(gj s.heap (yS X.stack)).StaysIn s.heap:=fun b o q=>jj _ q
 refine⟨I.os,I.bare,fly,trB,zDy (s':=s) I.hok trB l fly.1,fun b o q n a=>?_,fun b o q a n=>?_,fun b o q n=>I.base.free b o q n (c b),fun b o q a=>?_,I.base.tups,I.base.frzs,I.base.tbls,I.hok.free hm.new⟩
 ·exact fX _ (I.base.keep b o q n a (c b)) (I.nstk q a)
 ·obtain⟨G,z⟩:=I.base.slot b o q n a (c b)
  obtain⟨_,p,g,hd⟩:=fr.mem (show b∈X.stack.filterMap (·.frame)from zDz i a)
  rw[z]at g
  cases g
  obtain⟨h,m⟩:=up b _ (hm.keeps b _ z) hd
  exact⟨h,m⟩
 ·obtain⟨p,z⟩:=I.base.there b o q (c b)
  exact⟨p,fX _ z (I.nstk q a)⟩
end
structure XOk (X:Cx) (E:XK):Prop where
 made:∀(pins:List (ah×Obj)) (σ:St) (H:Hp) (s:av) (h':bC) (e C:ah) (vs:List ag),Inv X pins σ H s->pH s.heap h' e (.ref C) vs->E (.ref C) none H->X.xe (.ref e) {s with heap:=h'}
 pass:gK (vN X.prog X.w) X E
theorem zNg {P:aJ}{w:aV}{K:ae}{mg:Str->Option ag}{base:bC}{N:List Str}{a:Str}{scope:fb}{f:ah}{i:ag}{A:bM}{outer:List Env}{s:av}{H:Hp}{E:XK} :
  XOk (jE (vN P w) P w K mg base N a scope f i A outer s H E) E where
 made:=fun b σ h j h' e C vs I hm c=>zNf I rfl rfl rfl hm fun d g B F=>⟨e,_,g,B,h,rfl,F,c⟩
 pass:=fun b σ h j ev s' I ⟨e,cls,g,B,H',l,F,c⟩=>by
  subst l
  exact Flown.leaves I rfl rfl rfl F fun d m=>⟨e,cls,g,B,H',rfl,m,c⟩
abbrev g0:List ag:=[.type "ValueError",.type "Exception",.type "BaseException",.type "object"]
structure XCls (K:ae) (mg:Str->Option ag) (x:Str) (C:ah):Prop where
 bound:mg x=some (.ref C)
 exc:d7 K C g0 "ValueError.__new__"=true
theorem g6 {K:ae}{h:bC}{C:ah}{a:String}{c:List ag}(X:K.In h)(q:d7 K C c a=true) :
  ∃bm N nm q bs hdct sn sub ab col dd k0 k1 k2 k3 k5 mN,h.get? C=some (excClassObj nm q C N bs bm hdct sn sub ab col dd k0 k1 k2 k3 k5 a)/\h.Ns N mN/\mN "__init__"=none/\OwnTail h c bm/\∃e,K.lookup C=some ⟨.type "type",dd,.cls e,#[k0,k1,k2,k3,some (.builtin a),k5]⟩/\e.mro=.ref C::bm:=by
 unfold d7 at q
 split at q
 ·rename_i dd e g i
  split at q
  ·rename_i r bm k0 k1 k2 k3 n k5 hm j
   simp only[bc,beq_iff_eq,dX]at q
   obtain⟨⟨⟨⟨⟨rfl,rfl⟩,b⟩,m⟩,hok⟩,d⟩:=q
   obtain⟨nm,bs,o,ns,p,hd,sn,sub,ab,col,del⟩:=e
   dsimp only at hm b hok d
   subst hm b
   have f:g=#[k0,k1,k2,k3,some (.builtin n),k5]:=by
    obtain⟨l⟩:=g
    simp only at j
    rw[j]
   subst f
   exact⟨bm,ns,nm,p,bs,hd,sn,sub,ab,col,dd,k0,k1,k2,k3,k5,_,X _ _ i,.of_isNs (PySem.W.isNs_of_in X hok),PySem.W.nsMap_none_of_in X hok d,PySem.W.tail_of_in X m,_,i,rfl⟩
  ·cases q
 ·cases q
def zNh (C:ah)(E:XK)(t:TA):TS:=fun _ σ H=>t σ H fun vs H1=>vs.length<=sizeLine/\E (.ref C) none H1
section
variable{X:Cx}
theorem zEA {E:XK}{x:Str}{C:ah}{np a pos:Pos}{g:bV}{d:List bV}{t:TA}(ok:XOk X E)(o:X.calm=true)(O:XCls X.K X.mg x C)(p:Gl X x)(u:PA X (g::d) t)
  (m:starEach (g::d) X.env=(false,eval g X.env)::starEach d X.env:=by rfl) (b:(backTo a (starEach d X.env)).any (·.1)=false:=by rfl) (j:(x==("__debug__" : Str))=false:=by decide) :
  PS X (.Raise (some (.Call (.Name x np) (g::d) [] a)) none pos) (zNh C E t):=by
 intro c s σ H D I h
 obtain⟨v,N,nm,q,bs,hdct,sn,sub,ab,col,dd,k0,k1,k2,k3,k5,mN,w,z,l,T,_⟩:=g6 I.mod.kin O.exc
 refine wpAny_Raise_call_subU (C:=C) (nm:=nm) (q:=q) (N:=N) (bs:=bs) (bm:=v) (hdct:=hdct) (sn:=sn) (sub:=sub) (ab:=ab) (col:=col) (dd:=dd) (k0:=k0) (k1:=k1) (k2:=k2) (k3:=k3) (k5:=k5)
  dA (by decide) dA (mN:=mN) (T.hasType dA.hasBase) (I.ok.hd o) (by rw[m];show(false||(backTo a (starEach d X.env)).any (·.1))=false;rw[b];rfl) l ?_
 refine zAf I p O.bound ⟨rfl,?_⟩ j
 have f:=u a c s σ H _ I h
 rw[m]at f⊢
 refine iM (cf f (fun vs A B=>?_) fun _ _ y=>y)
 obtain⟨G,F,i,r,n⟩:=B
 exact⟨rfl,by rw[<-r.length];exact n.1,i.bk _ _ w,z.keeps i.bk,T.keeps i.bk,fun h' e hm=>ok.made c σ F A h' e C vs i hm n.2⟩
end
section
variable{P:aJ}{w:aV}{K:ae}{mg:Str->Option ag}{base:bC}
theorem Fun.okR {x a:Str}{st:cp}{f:ah}{fd:aX}{N ps:List Str}{k:Nat}{sp:Sp}(F:Fun K x a st f fd)(S:FnScope N ps (defScope st))(len:∀vs H Q E,sp vs H Q E->vs.length=ps.length)
  (c:∀(b:ag) (A:bM) (outer:List Env) (s:av) (H:Hp) (vs:List V) (Q:VK) (E:XK),Room k (A.deeper (envOfC a (defScope st) s.heap.objs.size f b))->sp vs H Q E->XOk (jE (vN P w) P w K mg base N a (defScope st) f b A outer s H E) E->
   ∃t,vU (jE (vN P w) P w K mg base N a (defScope st) f b A outer s H E) (defBody st) t/\t {nx:=fun _ H'=>Q .non H',rt:=Q} (start N vs) H):FnOk P w K mg base (vN P w) (k+1) f fd ps sp:=by
 obtain⟨l,od,kV,g,pm,m,b,ct,h,rfl,i,d⟩:=F.ex
 refine zFQ i d S len fun A outer s H vs Q E j e=>?_
 exact c b A outer s H vs Q E j e zNg
def u7 (P:aJ)(w:aV)(K:ae)(mg:Str->Option ag)(base:bC)(k:Nat)(x:Str)(ps:List Str)(sp:Sp):Prop :=
 ∃(f:ah) (fd:aX),FnOk P w K mg base (vN P w) k f fd ps sp/\mg x=some (.ref f)/\dy K (.ref f)=true/\qD K fd ps []
theorem uL {X:Cx}{k:Nat}{x:Str}{ps:List Str}{sp:Sp}{p pos:Pos}{e:bV}{c:List bV}{t:TA}{E:XK}(C:u7 X.prog X.w X.K X.mg X.base k x ps sp)(ok:gK (vN X.prog X.w) X E)(g:Room k X.A)(h:Gl X x)(i:PA X (e::c) t)
  (j:starEach (e::c) X.env=(false,eval e X.env)::starEach c X.env:=by rfl) (a:(backTo pos (starEach c X.env)).any (·.1)=false:=by rfl)
  (d:(x==("__debug__" : Str))=false:=by decide):PE X (.Call (.Name x p) (e::c) [] pos) (zAk sp [] E t):=by
 obtain⟨f,fd,G,hm,kp,b⟩:=C
 exact zFN G g h hm kp b .nil ok i d j a
end
def XO (e C:ah):HO:=.ext fun h=>∃oe vs,h.get? e=some oe/\oe.cls=.ref C/\oe.data=.fields vs
section
variable{M:oK}{A:bM}{E:ag->av->Prop}{h:bC}{g:Array mJ}{d:rQ}{t:Nat}{os:OsState}
theorem zNi {nm q:Str}{C N:ah}{bs bm:List ag}{hdct:Bool}{sn:List Str}{sub:List ag}{ab:Bool}{col:Option Bool}{dd:Option ah}{k0 k1 k2 k3 k5:Option ag}{b:String}
  {o z:Str} {L B:ah} {p c:List ag} {i:Bool} {r:List Str} {l:List ag} {s:Bool} {m:Option Bool} {u:Option ah} {D F G H I:Option ag} {a:String} {e:ah} {x:Obj} {Q:Bool->av->Prop}
  (J:h.get? C=some (excClassObj nm q C N bs bm hdct sn sub ab col dd k0 k1 k2 k3 k5 b)) (y:h.get? L=some (excClassObj o z L B p c i r l s m u D F G H I a)) (O:h.get? e=some x) (n:x.cls=.ref C) (j:c.contains (.type "BaseException")=true)
  (v:(Value.ref C::bm).contains (.ref L)=true) (P:Q true ⟨h,g,d,t,os⟩):wpAny M A (excMatches (.ref e) (.ref L)) Q E ⟨h,g,d,t,os⟩:=by
 have w:(Value.ref L::c).contains (.type "BaseException")=true:=by rw[jy,j,Bool.or_true]
 have f:=tc_notTuple
 unfold excMatches
 repeat(first|(with_reducible refine dB O ?_;rw[n])|with_reducible refine dB y ?_|(with_reducible refine gc y ?_;rw[w])|(with_reducible refine gc J ?_;rw[v])|wp_step)
 exact P
end
abbrev Cx.hand (X:Cx)(e:ah):Cx:={X with A:=X.A.mark (some (.ref e)),calm:=false,xe:=fun _ _=>False}
section
variable{X:Cx}{pins:List (ah×Obj)}{σ:St}{H:Hp}{s:av}{e:ah}
theorem Inv.hand (I:Inv X pins σ H s)(e:ah):Inv (X.hand e) pins σ H s :=
 ⟨⟨I.ok.mod,I.ok.kind,I.ok.glob,I.ok.blt,I.ok.above,I.ok.inj,I.ok.has,I.ok.cab,(fun z=>by cases z),I.ok.frames,I.ok.stk,I.ok.exf,I.ok.bs,I.ok.bsz,I.ok.noex,I.ok.exfs,I.ok.funs,I.ok.frf⟩,I.os,I.bare,I.base,I.loc,I.cell,I.free,I.freeC,I.pin,I.hok,I.len⟩
theorem Inv.unhand (I:Inv (X.hand e) pins σ H s)(ok:X.Ok):Inv X pins σ H s :=
 ⟨ok,I.os,I.bare,I.base,I.loc,I.cell,I.free,I.freeC,I.pin,I.hok,I.len⟩
theorem Inv.track {a:ah}{o:HO}(I:Inv X pins σ H s)(g:H a=none)(f:∀b d,X.s₀.heap.get? b=some d->b≠a)(h:X.env.locals≠a)(i:∀x c,X.env.cells.lookup x=some c->c≠a)(j:∀p∈X.pn++pins,p.1≠a)
  (new:yP X.prog X.w (upd H a o) s.heap a o):Inv X pins σ (upd H a o) s :=
 ⟨I.ok,I.os,I.bare,⟨I.base.keep,I.base.slot,fun b d q n l=>by rw[zG (f b d q)];exact I.base.free b d q n l,I.base.there,fun b xs q=>by rw[zG (yI (I.base.tups b xs q) g)];exact I.base.tups b xs q,
  fun b d u q=>by rw[zG (yI (I.base.frzs b d u q) g)];exact I.base.frzs b d u q,fun b ps q=>let⟨m,z⟩:=I.base.tbls b ps q;⟨m,by rw[zG (yI z g)];exact z⟩⟩,I.loc,I.cell,by rw[zG h];exact I.free,
  fun x c q=>by rw[zG (i x c q)];exact I.freeC x c q,fun p q=>let⟨r,t,v⟩:=I.pin p q;⟨r,by rw[zG (j p q)];exact t,v⟩,I.hok.track g new,I.len⟩
theorem Inv.forget {h':bC}{A:Str->Option ag}{t':Nat}(I:Inv X pins σ H s)(l:h'.Ns X.env.locals A)(g:ie X.env.locals s.heap h'):Inv X pins (aB X.N.length none) H {s with heap:=h',toks:=t'}:=by
 obtain⟨m,C,_⟩:=id I.loc
 obtain⟨O,_,_,D,_⟩:=id C
 have cne:=I.cne
 have a:z9 X.prog X.w H h':=fun b E q=>by
  refine(I.hok b E q).stay (fun c B F r=>(g.2 c ?_).trans r) (fun _ z=>z) fun _ _ z=>z
  rintro rfl
  rcases F with z|z
  ·have:=I.free
   rw[z,q]at this;cases this
  ·rw[I.free]at z;cases z
 have f:∀b o,X.s₀.heap.get? b=some o->b≠X.env.locals:=fun b o e=>bf (br (aI e) I.ok.above)
 refine⟨I.ok,I.os,I.bare,⟨fun b o e n t h=>?_,fun b o e n t h=>?_,I.base.free,fun b o e h=>?_,I.base.tups,I.base.frzs,I.base.tbls⟩,⟨A,l,fun i x v j u P=>?_⟩,fun y c e=>?_,I.free,I.freeC,fun p G=>?_,a,by simp⟩
 ·exact(g.2 b (f b o e)).trans (I.base.keep b o e n t h)
 ·obtain⟨J,j⟩:=I.base.slot b o e n t h
  exact⟨J,(g.2 b (f b o e)).trans j⟩
 ·obtain⟨L,j⟩:=I.base.there b o e h
  exact⟨L,(g.2 b (f b o e)).trans j⟩
 ·rw[dS]at u
  split at u<;>cases u
 ·obtain⟨B,z⟩:=I.cell y c e
  exact⟨B,z.sameBut g (cne y c e)⟩
 ·obtain⟨e,n,ne,M,d⟩:=I.pin p G
  exact⟨(g.2 p.1 ne).trans e,n,ne,M,d⟩
def zAY (K:ae)(C L:ah):Bool:=match K.lookup C with
 |some ⟨_,_,.cls cd,_⟩=>cd.mro.contains (.ref L)
 |_=>false
theorem zNj {H':Hp}{s':av}{C L:ah}{a0:ag}{B:bC}{x n:Str}{i:Nat}{np pos:Pos}{b0:cp}{suite:List cp}{D:Ends}(I:Inv X pins σ H s)(hs:X.stack=X.env::X.outer)(hf:X.env.frame=some X.env.locals)(hx:X.ex=[])
  (F:Flown X.prog X.w X.stack H s e (.ref C) a0 B H' s') (hC:d7 X.K C g0 "ValueError.__new__"=true) (O:XCls X.K X.mg x L) (hsub:zAY X.K C L=true) (hg:Gl X x) (hN:X.N.Nodup) (hi:X.N[i]?=some n) (hl:X.env.scope.names.lookup n=some .local)
  (k:∀s2,Inv (X.hand e) pins ((aB X.N.length none).set i (some (.ref e))) (upd H' e (XO e C)) s2->H' e=none->
   wpAny (model X.prog X.w) (X.hand e).A (execs (b0::suite) X.env) (SP (X.hand e) pins {nx:=fun _ _=>False,rt:=D.rt}) (fun _ _=>False) s2) (hdb:(x==("__debug__" : Str))=false:=by decide) :
  wpAny (model X.prog X.w) X.A (noteFrame (.ref e) X.env) (fun _ s2=>wpAny (model X.prog X.w) X.A (setFlight (.ref e) none) (fun _ s3=>
   wpAny (model X.prog X.w) X.A (handleBy (.ref e) X.env [.ExceptHandler (some (.Name x np)) (some n) (b0::suite) pos]) (SP X pins D) X.xe s3) X.xe s2) X.xe s':=by
 have fly:=F.fly
 have fun':=F.fly.2.2.1
 rw[hs]at fly
 refine wpAny_looks_onW (by rw[<-hs];exact I.ok.frames) hf fly fun h4 held up4=>?_
 refine wpAny_landsW held fun h5 fly5 up5=>?_
 have F5:=F.on (h':=h5) (by rw[hs];exact fly5) (up4.trans up5) fun'
 have I5:Inv X pins σ H' {s' with heap:=h5}:=I.call' F5.os (F5.un I.stkFree) F5.hok F5.bare (fun b z=>nomatch z)
 obtain⟨tl,N,nm,q,bs,hdct,sn,sub,ab,col,dd,k0,k1,k2,k3,k5,mN,hC1,_,_,_,cd,hlk,hmro⟩:=g6 I.mod.kin hC
 obtain⟨tl',N',nm',q',bs',hdct',sn',sub',ab',col',dd',j0,j1,j2,j3,j5,mN',hL1,_,_,T',_⟩:=g6 I.mod.kin O.exc
 have hin:(Value.ref C::tl).contains (.ref L)=true:=by
  unfold zAY at hsub
  rw[hlk]at hsub
  rw[<-hmro]
  exact hsub
 have Ih:=I5.hand e
 refine wpAny_handleBy_cons (codeAny_handlers_test (zAf (X:=X.hand e) Ih hg O.bound ?_ hdb)) (by intro z;cases z)
 obtain⟨oe,ws,hoe,hoec,hoed,_⟩:=fly5.first
 have hm:∀{Q:Bool->av->Prop} {E':ag->av->Prop},Q true {s' with heap:=h5}->wpAny (model X.prog X.w) (X.A.mark (some (.ref e))) (excMatches (.ref e) (.ref L)) Q E' {s' with heap:=h5}:=fun{Q E'} hq=>by
  obtain⟨hp,gg,ddd,tt,oo⟩:=s'
  exact zNi (I5.bk _ _ hC1) (I5.bk _ _ hL1) hoe hoec (T'.hasType dA.hasBase) hin hq
 refine hm ?_
 refine codeAny_handlers_suite_as (lands_againW fly5 fun h6 fly6 up6=>?_)
 have F6:=F5.on (h':=h6) (by rw[hs];exact fly6) up6 (by rw[hs];exact fly5.2.2.1)
 have I6:Inv X pins σ H' {s' with heap:=h6}:=I.call' F6.os (F6.un I.stkFree) F6.hok F6.bare (fun b z=>nomatch z)
 obtain⟨oe6,ws6,hoe6,hoec6,hoed6,_⟩:=fly6.first
 have neB:∀b o,s.heap.get? b=some o->b≠e:=fun b o q z=>by
  by_cases hb:b∈yS X.stack
  ·obtain⟨_,o',ho',hd⟩:=fun'.mem (show b∈X.stack.filterMap (·.frame)from hb)
   obtain⟨oe',ws',he',_,hed',_⟩:=F.fly.first
   rw[z,he']at ho'
   cases ho'
   exact hd ws' hed'
  ·obtain⟨o',ho'⟩:=F.there b o q hb
   rw[z,F.fly.2.1]at ho'
   cases ho'
 have I7:Inv X pins σ (upd H' e (XO e C)) {s' with heap:=h6}:=by
  refine I6.track F.ef (fun b ob q z=>?_) (fun z=>?_) (fun y c q z=>?_) (fun p hp z=>?_) ⟨⟨oe6,ws6,hoe6,hoec6,hoed6⟩,⟨oe6,hoe6⟩,fun h1 h2 ⟨o1,v1,a1,a2,a3⟩ kk=>⟨o1,v1,kk _ a1,a2,a3⟩⟩
  ·obtain⟨o',z'⟩:=I.base.there b ob q (by rw[hx];simp)
   exact neB b o' z' z
  ·obtain⟨m,⟨o,es,ep,ho,_⟩,_⟩:=I.loc
   exact neB _ o ho z
  ·obtain⟨v,o,ho,_⟩:=I.cell y c q
   exact neB _ o ho z
  ·obtain⟨a1,_⟩:=I.pin p hp
   exact neB _ _ a1 z
 have I8:Inv X pins (aB X.N.length none) (upd H' e (XO e C)) {s' with heap:=h6}:=I7.weak (by rw[cZ,I7.len]) fun j v q=>by
  rw[dS]at q
  split at q<;>cases q
 refine g9 (X:=X.hand e) (v:=.ref e) (I8.hand e) hN hi (.inl hl) rfl (fun s2 I9=>?_) (.inr hl)
 refine cf (k s2 I9 F.ef) (fun f s3 h3=>?_) fun _ _ z=>z.elim
 cases f with
 |next=>obtain⟨_,_,_,z⟩:=h3;exact z.elim
 |brk=>obtain⟨_,_,_,z⟩:=h3;exact z.elim
 |cont=>obtain⟨_,_,_,z⟩:=h3;exact z.elim
 |ret u=>
  obtain⟨v,σ',H2,I10,r,z⟩:=h3
  have I11:=I10.unhand I.ok
  obtain⟨m,hn,_⟩:=id I11.loc
  refine wpAny_nameGoes hl hn (by rw[I.ok.kind];rfl) fun h' m' hn' hs'=>?_
  exact⟨v,_,H2,I11.forget hn' hs',r,z⟩
def zNk (K:ae)(N:Nat)(i:Nat)(L:ah)(tb:XK->TS)(ts:TS):TS:=fun D σ H=>
 tb (fun cls _ H'=>∃C:ah,cls=.ref C/\d7 K C g0 "ValueError.__new__"=true/\zAY K C L=true/\∀e,H' e=none->ts {nx:=fun _ _=>False,rt:=D.rt} ((aB N none).set i (some (.ref e))) (upd H' e (XO e C))) D σ H
abbrev Cx.tryb (X:Cx)(ET:ag->av->Prop)(pn:List (ah×Obj)):Cx:={X with xe:=ET,pn:=pn}
theorem Inv.tryb (I:Inv X pins σ H s)(b:ag->av->Prop):Inv (X.tryb b (X.pn++pins)) [] σ H s :=
 ⟨⟨I.ok.mod,I.ok.kind,I.ok.glob,I.ok.blt,I.ok.above,I.ok.inj,I.ok.has,I.ok.cab,I.ok.hd,I.ok.frames,I.ok.stk,I.ok.exf,I.ok.bs,I.ok.bsz,I.ok.noex,I.ok.exfs,I.ok.funs,I.ok.frf⟩,I.os,I.bare,I.base,I.loc,I.cell,I.free,I.freeC,fun p c=>I.pin p (by
  have a:p∈(X.pn++pins)++[]:=c
  rw[mh]at a
  exact a),I.hok,I.len⟩
theorem Inv.untryb {a:ag->av->Prop}{pins':List (ah×Obj)}(I:Inv (X.tryb a (X.pn++pins)) pins' σ H s)(ok:X.Ok):Inv X pins σ H s :=
 ⟨ok,I.os,I.bare,I.base,I.loc,I.cell,I.free,I.freeC,fun p b=>I.pin p (bJ _ b),I.hok,I.len⟩
theorem zNl {x n:Str}{i:Nat}{L:ah}{np pos d:Pos}{body:List cp}{m:cp}{a:List cp}{z:XK->TS}{ts:TS}(M:X.stack=X.env::X.outer)(P:X.env.frame=some X.env.locals)(Q:X.ex=[])(O:XCls X.K X.mg x L)(R:Gl X x)(T:X.N.Nodup)(hi:X.N[i]?=some n)(hl:X.env.scope.names.lookup n=some .local)
  (U:∀(E:XK) (G:ag->av->Prop) (pn:List (ah×Obj)),gK (vN X.prog X.w) (X.tryb G pn) E->vU (X.tryb G pn) body (z E)) (o:∀e,vU (X.hand e) (m::a) ts) (p:(x==("__debug__" : Str))=false:=by decide) :
  PS X (.Try body [.ExceptHandler (some (.Name x np)) (some n) (m::a) pos] [] [] d) (zNk X.K X.N.length i L z ts):=by
 intro pins s σ H D I h
 refine wpAny_Try_except ?_
 have main:=U _ (fun ev g=>wpAny (model X.prog X.w) X.A (noteFrame ev X.env) (fun _ t=>wpAny (model X.prog X.w) X.A (setFlight ev none) (fun _ W=>
   wpAny (model X.prog X.w) X.A (handleBy ev X.env [.ExceptHandler (some (.Name x np)) (some n) (m::a) pos]) (SP X pins D) X.xe W) X.xe t) X.xe g) (X.pn++pins) ?pass [] s σ H D (I.tryb _) h
 case pass=>
  rintro pins' b H1 g ev s' Y ⟨e,cls,a0,B,H',rfl,F,C,rfl,Z,j,y⟩
  have I2:=Y.untryb I.ok
  exact zNj I2 M P Q F Z O j R T hi hl (fun t I9 hn=>o e pins t _ _ _ I9 (y e hn)) p
 refine cf main (fun f g c=>?_) fun ev g c=>c
 have l:SP X pins D f g:=by
  cases f with
  |next=>obtain⟨b,H',J,q⟩:=c;exact⟨b,H',J.untryb I.ok,q⟩
  |brk=>obtain⟨b,H',J,q⟩:=c;exact⟨b,H',J.untryb I.ok,q⟩
  |cont=>obtain⟨b,H',J,q⟩:=c;exact⟨b,H',J.untryb I.ok,q⟩
  |ret u=>obtain⟨v,b,H',J,r,q⟩:=c;exact⟨v,b,H',J.untryb I.ok,r,q⟩
 cases f with
 |next=>exact gk l
 |ret u=>exact l
 |brk=>exact l
 |cont=>exact l
end
structure RoomB (k:Nat) (A:bM):Prop where
 dp:A.depth+3*k+5<recursionLimit
 un:A.units+16*k+200<cLine
theorem RoomB.deeper {k:Nat}{A:bM}(r:RoomB (k+1) A)(env:Env):RoomB k (A.deeper env) :=
 ⟨by have:=r.dp;show A.depth+1+3*k+5<_;omega,by have:=r.un;show A.units+3+16*k+200<_;omega⟩
theorem RoomB.depth {k:Nat}{A:bM}(r:RoomB k A):A.depth<recursionLimit:=by have:=r.dp;omega
theorem Room.busy {k:Nat}{A:bM}(r:Room k A)(v:Option ag):RoomB k (A.mark v):=⟨r.dp,r.un⟩
def cxB (CX:v7)(P:aJ)(w:aV)(K:ae)(mg:Str->Option ag)(base:bC)(N:List Str)(qual:Str)(scope:fb)(f:ah)(cd:ag)(A:bM)(outer:List Env)(s:av)(H:Hp)(E:XK):Cx :=
 {jE CX P w K mg base N qual scope f cd A outer s H E with calm:=false}
structure FnB (P:aJ) (w:aV) (K:ae) (mg:Str->Option ag) (base:bC) (CX:v7) (k:Nat) (f:ah) (fd:aX) (ps:List Str) (sp:Sp):Prop where
 len:∀vs H Q E,sp vs H Q E->vs.length=ps.length
 run:∀(A:bM) (outer:List Env) (s:av) (H:Hp) (args:Args) (us:List ag) (vs:List V) (Q:VK) (E:XK),RoomB k A->Env0 P w K mg base A outer s H->mZ s fd args (ps.zip us)->zM vs us->sp vs H Q E->
  codeAny (model P w) A (.call (.ref f) args) (CR CX outer P w H s Q E) s
theorem zNm {CX:v7}{P:aJ}{w:aV}{K:ae}{mg:Str->Option ag}{base:bC}{N ps:List Str}{d:Str}{scope:fb}{f:ah}{B:ag}{A:bM}{outer:List Env}{s F:av}{H:Hp}{E:XK}{D:List ag}{vs:List V}
  (S:FnScope N ps scope) (j:Env0 P w K mg base A outer s H) (hl:vs.length=ps.length) (r:zM vs D)
  (x:InCallC s s.heap.objs.size (bindL (envOfC d scope s.heap.objs.size f B).kindOf (ps.zip D) fun _=>none) (cellsFrom (s.heap.objs.size+1) scope.names []) (bindC (envOfC d scope s.heap.objs.size f B).kindOf (ps.zip D) fun _=>none) F) :
  Inv (cxB CX P w K mg base N d scope f B A outer s H E) [] (start N vs) H F:=by
 have J:ps.length<=N.length:=by have:=congrArg iL S.pre;rw[aO]at this;omega
 obtain⟨C,tk,rfl,G⟩:=x.done
 have l:∀b:ah,b∉(cxB CX P w K mg base N d scope f B A outer s H E).ex:=fun b z=>absurd (show b∈([]:List ah)from z) (by simp)
 refine⟨⟨j.mod,S.kind,rfl,rfl,aD _,fun y z c C g=>?_,fun y m=>?_,fun y c _ h=>?_,(fun z=>by cases z),mO j.frames,.inr ⟨rfl,rfl⟩,fun b z=>absurd z (l b),j.bs,j.bsz,fun b _ _=>l b,fun b z=>absurd z (l b),j.funs,j.frf⟩,
  rfl,j.bare,Un.kept G,⟨_,x.toInCall.ns,fun i y v C g O=>?_⟩,fun y c h=>⟨_,x.cell y c h⟩,j.hok.fresh (aD _),fun y c h=>?_,fun p o=>absurd (show p∈([]:List (ah×Obj))from o) (by simp),j.hok.kept G,?_⟩
 ·exact name_of_addr x.apart (cc C) (cc g)
 ·have m:scope.names.lookup y=some .cell\/scope.names.lookup y=some .free:=m
  rcases m with m|m
  ·exact zBQ m
  ·exact absurd rfl (S.nofree _ (cc m))
 ·exact jb (x.above y c (cc h))
 ·have hi:i<vs.length:=by
   unfold start at g
   by_cases hi:i<vs.length
   ·exact hi
   ·rw[bw (by simpa using hi)]at g
    rw[dS]at g
    split at g<;>cases g
  have L:vs[i]?=some v:=by
   unfold start at g
   rw[bI (by simpa using hi),aq]at g
   cases e:vs[i]? with
   |none=>rw[e]at g;cases g
   |some a=>rw[e]at g;cases g;rfl
  obtain⟨u,I,M⟩:=r.get L
  have o:ps[i]?=some y:=by
   rw[<-S.pre,lg (by omega)];exact C
  have t:ps.Nodup:=by rw[<-S.pre];exact S.nd.sublist (dz _ _)
  refine⟨u,M,?_⟩
  rcases S.par y (aT o)with k|k
  ·exact .inl ⟨k,zCV t o I k⟩
  ·obtain⟨c,e⟩:=zBQ (n:=s.heap.objs.size+1) k
   refine .inr ⟨.inl k,c,e,?_⟩
   have q:=x.cell y c e
   rw[zCW t o I (by show scope.names.lookup y≠_;rw[k];decide)]at q
   exact q
 ·exact j.hok.fresh (jb (x.above y c (cc h)))
 ·unfold start
  show _=N.length
  rw[aE,aa,cZ]
  omega
theorem zNn {CX:v7}{P:aJ}{w:aV}{K:ae}{mg:Str->Option ag}{base:bC}{k:Nat}{f:ah}{name a:Str}{d:qx}{body:List cp}{scope:fb}{F kV j pm c ct R:ag}{G od:Option ah}
  {z:Array (Option ag)} {N ps:List Str} {sp:Sp} (T:K.lookup f=some ⟨R,od,.func (dt name a d body scope F kV j pm G c ct),z⟩) (B:fO K c a=true) (S:FnScope N ps scope)
  (len:∀vs H Q E,sp vs H Q E->vs.length=ps.length)
  (g:∀(A:bM) (outer:List Env) (s:av) (H:Hp) (vs:List V) (Q:VK) (E:XK),RoomB k (A.deeper (envOfC a scope s.heap.objs.size f c))->sp vs H Q E->
   ∃t,vU (cxB CX P w K mg base N a scope f c A outer s H E) body t/\t {nx:=fun _ H'=>Q .non H',rt:=Q} (start N vs) H) :
  FnB P w K mg base CX (k+1) f (dt name a d body scope F kV j pm G c ct) ps sp:=by
 refine⟨len,fun A outer s H args U vs Q E L l W r m=>?_⟩
 have hl:=len _ _ _ _ m
 have M:K.In s.heap:=l.mod.kin.keeps fun b o e=>(l.bs b o e).1
 have C:s.heap.NoLimit:=l.mod.nolimit.keeps fun b o e=>(l.bs b o e).1
 have h:∀y∈ps.zip U,scope.names.lookup y.1=some .local\/(scope.names.lookup y.1=some .cell/\((cellsFrom (s.heap.objs.size+1) scope.names []).lookup y.1).isSome=true):=fun⟨n,v⟩ X=>by
  rcases S.par n (iW X).1 with q|q
  ·exact .inl q
  ·exact .inr ⟨q,ig _ _ _ (.inl q)⟩
 refine mz L.depth (M _ _ T) rfl S.co S.gen rfl (nL M B) (W _ _ _ _ ?_)
 refine jr S.kind h fun env Y O x=>?_
 subst Y
 refine⟨C.keeps x.toInCall.keep,codeAny_func ?_⟩
 obtain⟨t,Z,hq⟩:=g A outer s H vs Q E (L.deeper _) m
 have I:Inv (cxB CX P w K mg base N a scope f c A outer s H E) [] (start N vs) H O:=zNm S l hl r x
 refine cf (Z [] O (start N vs) H _ I hq) (fun fl s' i=>?_) fun e s' i=>i
 have fin:∀{p:St} {H':Hp} {v:V} {u:ag},Inv (cxB CX P w K mg base N a scope f c A outer s H E) [] p H' s'->zQ v u->Q v H'->CE outer P w H s Q u s' :=
  fun{p H' v u} J D q=>⟨v,H',J.os,J.bare,J.base,J.hok,D,q⟩
 cases fl with
 |ret u=>
  obtain⟨v,p,H',J,D,q⟩:=i
  exact fin J D q
 |next=>
  obtain⟨p,H',J,q⟩:=i
  exact fin (v:=V.non) (u:=Value.none) J rfl q
 |brk=>
  obtain⟨_,_,_,q⟩:=i
  exact c8 q
 |cont=>
  obtain⟨_,_,_,q⟩:=i
  exact c8 q
section
variable{P:aJ}{w:aV}{K:ae}{mg:Str->Option ag}{base:bC}
theorem Fun.okB {x a:Str}{st:cp}{f:ah}{fd:aX}{N ps:List Str}{k:Nat}{sp:Sp}(F:Fun K x a st f fd)(S:FnScope N ps (defScope st))(len:∀vs H Q E,sp vs H Q E->vs.length=ps.length)
  (c:∀(b:ag) (A:bM) (outer:List Env) (s:av) (H:Hp) (vs:List V) (Q:VK) (E:XK),RoomB k (A.deeper (envOfC a (defScope st) s.heap.objs.size f b))->sp vs H Q E->
   ∃t,vU (cxB z7 P w K mg base N a (defScope st) f b A outer s H E).nox (defBody st) t/\t {nx:=fun _ H'=>Q .non H',rt:=Q} (start N vs) H):FnB P w K mg base z7 (k+1) f fd ps sp:=by
 obtain⟨m,od,kV,g,pm,n,b,ct,i,rfl,j,d⟩:=F.ex
 refine zNn j d S len fun A outer s H vs Q E l e=>?_
 obtain⟨t,h,q⟩:=c b A outer s H vs Q E l e
 exact⟨t,h.nox,q⟩
def zBz (P:aJ)(w:aV)(K:ae)(mg:Str->Option ag)(base:bC)(k:Nat)(x:Str)(ps:List Str)(sp:Sp):Prop :=
 ∃(f:ah) (fd:aX),FnB P w K mg base z7 k f fd ps sp/\mg x=some (.ref f)/\dy K (.ref f)=true/\qD K fd ps []
theorem zNo {X:Cx}{k:Nat}{f:ah}{fd:aX}{ps:List Str}{sp:Sp}{a:List (ah×Obj)}{σ:St}{H:Hp}{s:av}{Q:VK}{b:List ag}{vs:List V}(F:FnB X.prog X.w X.K X.mg X.base z7 k f fd ps sp)(g:RoomB k X.A)(i:qD X.K fd ps [])
  (I:Inv X a σ H s) (r:zM vs b) (h:sp (vs++[]) H Q E0):wpAny (model X.prog X.w) X.A (call (.ref f) b) (EP X a σ Q) X.xe s:=by
 have d:zM (vs++[]) (b++[]):=r.append .nil
 have hl:(b++[]).length=ps.length:=by rw[<-d.length];exact F.len _ _ _ _ h
 refine ph (eJ (F.run X.A X.stack s H ⟨b,[]⟩ (b++[]) (vs++[]) Q E0 g I.env0 (i s b I.kIn hl) d h) fun r s' c=>?_)
 cases r with
 |error e=>exact c8 c
 |ok j=>
  cases j with
  |ret u=>exact I.after c
  |next=>exact c8 c
  |brk=>exact c8 c
  |cont=>exact c8 c
theorem zNp {X:Cx}{k:Nat}{x:Str}{ps:List Str}{sp:Sp}{p pos:Pos}{e:bV}{c:List bV}{t:TA}(C:zBz X.prog X.w X.K X.mg X.base k x ps sp)(j:RoomB k X.A)(l:Gl X x)(m:PA X (e::c) t)
  (n:starEach (e::c) X.env=(false,eval e X.env)::starEach c X.env:=by rfl) (a:(backTo pos (starEach c X.env)).any (·.1)=false:=by rfl)
  (g:(x==("__debug__" : Str))=false:=by decide):PE X (.Call (.Name x p) (e::c) [] pos) (zAk sp [] E0 t):=by
 obtain⟨f,fd,G,hm,kp,b⟩:=C
 intro d s σ H Q I h
 refine eg (zAf I l hm ?_ g)
 refine jo (h₀:=X.base) I.ok.mod.kin kp (zH (m pos d s σ H _ I h) fun o u ⟨vs,v,i,r,q⟩=>⟨i.kIn,?_⟩) n a
 exact zNo G j b i r q
end
def Rdy (P:aJ)(w:aV)(K:ae)(mg:Str->Option ag)(base:bC)(A:bM)(x:V)(sp:Sp):Prop:=∃(k:Nat) (f:ah) (fd:aX) (ps:List Str),x=.ref f/\FnOk P w K mg base (vN P w) k f fd ps sp/\Room k A/\dy K (.ref f)=true/\qD K fd ps []
def zNq (R:V->Sp->Prop)(E:XK)(tf:TE)(t:TA):TE:=fun σ H Q=>tf σ H fun x H1=>∃sp,R x sp/\t σ H1 fun vs H2=>sp (vs++[]) H2 Q E
section
variable{X:Cx}{E:XK}{fe e:bV}{es:List bV}{tf:TE}{t:TA}{pos:Pos}
theorem zHq (a:ae)(b:X.K=a):IxR X (zFR a):=by
 subst b;exact zAG
theorem zNr (P:aJ)(w:aV)(K:ae)(mg:Str->Option ag)(base:bC)(A:bM)(g:X.prog=P)(i:X.w=w)(j:X.K=K)(l:X.mg=mg)(m:X.base=base)(n:X.A=A)(o:gK (vN X.prog X.w) X E)(p:PE X fe tf)(u:PA X (e::es) t)
  (y:eval (.Call fe (e::es) [] pos) X.env=(do callWith pos (<-eval fe X.env) [] (backTo pos (starEach (e::es) X.env)) (backToKw pos (keywordEach [] X.env))):=by rfl)
  (z:starEach (e::es) X.env=(false,eval e X.env)::starEach es X.env:=by rfl) (a:(backTo pos (starEach es X.env)).any (·.1)=false:=by rfl):PE X (.Call fe (e::es) [] pos) (zNq (Rdy P w K mg base A) E tf t):=by
 subst g i j l m n
 intro b s σ H Q I h
 refine Call_ (zH (p b s σ H _ I h) fun v B ⟨x,C,c,D,sp,⟨k,f,fd,ps,ex,F,G,J,L⟩,q⟩=>?_) y
 subst ex
 cases D
 refine jo (h₀:=X.base) c.ok.mod.kin J (zH (u pos b B σ C _ c q) fun N O ⟨vs,R,d,r,M⟩=>⟨d.kIn,?_⟩) z a
 exact zFM F G L .nil o d r M
end
theorem zHr {i:Int}{n:Nat}(a:0<i)(h:i<2^n):i.natAbs.log2<n:=by
 refine(oO (by omega)).mpr ?_
 have e:((2^n:Nat):Int)=(2:Int)^n:=by simp
 have:(i.natAbs:Int)<((2^n:Nat):Int):=by rw[e];omega
 omega
theorem zCA {X:Cx}:yK X (binaryOp .FloorDiv) (rI (fun _ j=>0<j/\j<2^8000) fun i j=>.int (i/j)):=opI fun i j _ _ _ _ _ a q=>by
 have b:(0:Int)<j:=a.1
 exact floordiv_int (by omega) (by rw[jn i (by omega)];exact q) (.inl (PyProof.noPylong_of_log2 (br (zHr b a.2) (by decide))))
def Bg (i:Int):Prop:=0<=i/\i<2^8000
theorem Bg.bits {i:Int}(h:Bg i):nr i<=2^20:=by
 unfold nr
 split
 ·exact bQ _
 ·rename_i hz
  have a:¬i=0:=fun z=>hz (by rw[z];rfl)
  have b:=zHr (i:=i) (n:=8000) (by have:=h.1;omega) h.2
  have c:2^20=1048576:=by decide
  omega
theorem zEB {X:Cx}:yK X (binaryOp .Mult) (rI (fun i j=>Bg i/\Bg j) fun i j=>.int (i*j)):=opI fun _ _ _ _ _ _ _ a q=>mul_int q (IntMulOk.of_bits a.1.bits a.2.bits)
section
variable{X:Cx}
theorem zNs {j:Nat}{y:Str}{py spos:Pos}{tg iter elt:bV}{ifs:List bV}{scope:fb}{pos:Pos}{wi:TI}{g:TG}{tc:TT}{te:TE}{N:List Str}{caps:List Nat}(hN:X.N.Nodup)(hj:X.N[j]?=some y)(hy:Loc X.env.scope y)(hc:X.calm=true)(S:CompScope X.env.scope X.N N scope caps)
  (hi:PI X tg iter wi) (hg:∀cl C s H ex,PG (yY X N scope cl C s H ex) tg g) (hf:∀cl C s H ex,PF (yY X N scope cl C s H ex) ifs tc) (he:∀cl C s H ex,PE (yY X N scope cl C s H ex) elt te)
  (hs:∀x,foldedSetIterable iter X.env x=pure x:=by intro _;rfl) (hsw:swapsWith (.ListComp elt [⟨tg,iter,ifs,0⟩] scope pos) (some (.Name y py)) spos.line X.env=pure true:=by rfl)
  (hfn:X.fn y=true\/X.env.scope.names.lookup y=some .local:=by first|exact .inl rfl|exact .inr rfl|assumption):PS X (.Assign [.Name y py] (.ListComp elt [⟨tg,iter,ifs,0⟩] scope pos) spos) (zCP (zBV wi g tc te caps N.length) (jX j)):=by
 intro pins s σ H D0 I h
 obtain⟨cl,hcl,hcl1,hcl2⟩:=zFl (env:=X.env) (scope:=scope) fun y hy e=>I.ok.has y.1 (S.free y hy e)
 rw[exec_Assign_Name_used _ _ _ _ hsw]
 refine aw (nv (aw ?_))
 show wpAny _ X.A (do let _<-comprehension (.ListComp elt [⟨tg,iter,ifs,0⟩] scope pos) scope X.env _ (newList []) false (eval iter X.env) (some (assign (.Name y py) X.env))) _ _ s
 refine aw (cf (lh (use:=some (assign (.Name y py) X.env)) (Q:=fun _ s'=>SP X pins D0 .next s') rfl hs hcl S.kind S.names (zH (hi pins s σ H _ I h) fun v s1 h1=>zH h1 fun itv s2 h2=>?_))
  (fun _ s' hq=>aH (aH hq)) fun _ _ e=>e)
 obtain⟨it,fp,tn,J,H2,e,I2,T,st2,f2,W,⟨m0,w0⟩,turn⟩:=h2
 subst e
 refine dR (mQ S.nocell (by intro y hy;simp at hy) (fun h₁ hns hsb=>?_) S.kind)
 dsimp only at hns hsb⊢
 generalize hG:s2.heap.push {cls:=.type "list",dict:=none,data:=.seq ([]:List ag).toArray}=G at hns hsb⊢
 have hCs:G.objs.size=s2.heap.objs.size+1:=by rw[<-hG,eu]
 have hDC:s2.heap.objs.size≠G.objs.size:=by rw[hCs];exact bf (fh _)
 have old:∀b o,s2.heap.get? b=some o->h₁.get? b=some o:=fun b o e=>by
  have hb:=aI e
  refine hsb.extBut b o (by rw[hCs];exact bf (cX hb)) (ai _ ?_)
  rw[<-hG]
  exact ai _ e
 have hD:h₁.get? s2.heap.objs.size=some {cls:=.type "list",dict:=none,data:=.seq ([]:List ag).toArray}:=by
  refine hsb.extBut _ _ hDC (ai _ ?_)
  rw[<-hG]
  exact aM _ rfl
 have hfo:∀b∈fp,b<s2.heap.objs.size:=fun b hb=>let⟨o,e,_⟩:=T.obj 0 _ st2 b hb;aI e
 have hCle:s2.heap.objs.size<=G.objs.size:=by omega
 have ok:=zFp (C:=G.objs.size) I2 S hcl1 hcl2 hCle f2 hfo
 have I0:Inv (yY X N scope cl G.objs.size s2 H2 fp) [(s2.heap.objs.size,{cls:=.type "list",dict:=none,data:=.seq ([]:List ag).toArray})] (v8 caps N.length σ) H2 {s2 with heap:=h₁,toks:=s2.toks+([]:List (Str×ag)).length} :=
  zFq I2 ok S hcl1 hcl2 old hns hCle hD (aD _) hDC (fun v z=>by cases z)
 have st1:tn 0 h₁:=T.keep 0 _ _ st2 fun b _ o e=>old b o e
 generalize hX:yY X N scope cl G.objs.size s2 H2 fp=X' at I0
 generalize hDa:s2.heap.objs.size=D at I0 hD hDC
 have loop:codeAny (model X.prog X.w) X.A (.compLoop (.ListComp elt [⟨tg,iter,ifs,0⟩] scope pos) 0 (.ref it) (.ref D) (compEnvC scope cl G.objs.size X.env)) (compPost (model X.prog X.w) X.A X.xe (some (assign (.Name y py) X.env)) (fun _ s'=>SP X pins D0 .next s') (.ref D) G.objs.size)
   {s2 with heap:=h₁,toks:=s2.toks+([]:List (Str×ag)).length}:=by
  subst hX
  refine zFm (J:=fun n s'=>∃i σ' H' acc its e,Inv (yY X N scope cl G.objs.size s2 H2 fp) [(D,{cls:=.type "list",data:=.seq (fT its) e})] σ' H' s'/\zM acc its/\acc.length<=sizeLine/\tn i s'.heap/\(∀b∈fp,H' b=none)/\W i n acc σ' H')
   ?_ m0 ⟨0,_,H2,[],[],0,I0,.nil,bQ _,st1,fun b hb=>(f2 b hb).1,w0⟩
  rintro n s3 ⟨i,σ3,H3,acc,its,ep,I3,rv,hz,st3,fr3,w3⟩
  have stat:∀{H':Hp} {pl:List (ah×Obj)},(∀b∈fp,H' b=none)->(∀p∈pl,p.1=D)->∀b∈fp,qC (yY X N scope cl G.objs.size s2 H2 fp) pl H' b:=fun{H' pl} hn hpl b hb=>by
   obtain⟨a1,a2⟩:=ok.exf b hb
   exact⟨hn b hb,a1,ok.exfs b hb,.inl hb,fun x c e=>a2 x c e,fun p hp=>by
    have hp':p∈pl:=hp
    rw[hpl p hp',<-hDa]
    exact eI (hfo b hb)⟩
  have one:∀p∈[(D,({cls:=.type "list",data:=.seq (fT its) ep}:Obj))],p.1=D:=fun p hp=>by
   rcases aL.mp hp with e|e
   ·rw[e]
   ·cases e
  have pinD:∀{pl:List (ah×Obj)} {σ':St} {H':Hp} {s':av} {o:Obj},Inv (yY X N scope cl G.objs.size s2 H2 fp) pl σ' H' s'->(D,o)∈pl->s'.heap.get? D=some o/\H' D=none:=fun{pl σ' H' s' o} I' hm=>by
   obtain⟨a,b,_⟩:=I'.pin (D,o) (aS _ hm)
   exact⟨a,b⟩
  rcases turn i n acc σ3 H3 w3 with⟨stop,q⟩|⟨go,hlt,step⟩
  ·refine cf (T.done (yY X N scope cl G.objs.size s2 H2 fp) rfl rfl rfl hc i _ s3 σ3 H3 (fun _ _=>False) I3 (stat fr3 one) st3 stop) (fun r s4 ⟨hr,I4⟩=>?_) fun _ _ f=>f
   subst hr
   obtain⟨hDo,hDn⟩:=pinD I4 (aj ..)
   obtain⟨m4,hm4,_⟩:=I4.loc
   have keepC:∀b (u:Obj),b≠G.objs.size->s4.heap.get? b=some u->s4.heap.get? b=some u:=fun b u _ e=>e
   have un:Un (yS X.stack) fp H2 H3 s2.heap s4.heap:=I4.base
   have hDo':=hDo
   have hlow:∀b (o:Obj),s2.heap.get? b=some o->b≠G.objs.size/\b≠D:=fun b o e=>by
    have h0:=aI e
    exact⟨by rw[hCs];exact bf (cX h0),by rw[<-hDa];exact bf h0⟩
   have un':Un (yS X.stack) fp H2 (upd H3 D (.lst acc)) s2.heap s4.heap :=
    ⟨fun b o e n' hb hx=>keepC b o (hlow b o e).1 (un.keep b o e n' hb hx),
     fun b o e n' hb hx=>let⟨sl,q⟩:=un.slot b o e n' hb hx;⟨sl,keepC b _ (hlow b o e).1 q⟩,
     fun b o e n' hx=>by rw[zG (hlow b o e).2];exact un.free b o e n' hx,
     fun b o e hx=>let⟨o',q⟩:=un.there b o e hx;⟨o',keepC b _ (hlow b o e).1 q⟩,
     fun b xs e=>by rw[zG (yI (un.tups b xs e) hDn)];exact un.tups b xs e,
     fun b o u e=>by rw[zG (yI (un.frzs b o u e) hDn)];exact un.frzs b o u e,
     fun b ps e=>let⟨mo,q⟩:=un.tbls b ps e;⟨mo,by rw[zG (yI q hDn)];exact q⟩⟩
   have hok:z9 X.prog X.w (upd H3 D (.lst acc)) s4.heap:=I4.hok.track hDn ⟨hz,its,ep,rv,hDo'⟩
   have IX:Inv X pins σ (upd H3 D (.lst acc)) s4:=I2.call' I4.os un' hok I4.bare (fun b hb=>by
    obtain⟨_,f1,_,f3,f4,f5⟩:=f2 b hb
    exact⟨f3,f1,f4,f5⟩)
   have hCn:upd H3 D (.lst acc) G.objs.size=none:=by
    rw[zG (fm hDC)];exact I4.free
   have fpC:qC X pins (upd H3 D (.lst acc)) G.objs.size:=I2.fpOk hCle hCn
   obtain⟨oC,es,epC,hoC,hdC,hsk,hnf⟩:=hm4
   have IXp:=IX.pinned (fp:=[G.objs.size]) (fun b hb=>by
    have:b=G.objs.size:=by simpa using hb
    rw[this];exact fpC) (fun b hb=>by
    have:b=G.objs.size:=by simpa using hb
    rw[this];exact⟨oC,hoC,fun v z=>by rw[hdC]at z;cases z⟩)
   refine nQ (g9 IXp hN hj hy (v:=.ref D) rfl (fun s5 I5=>?_) hfn)
   have pC:=(I5.pin (G.objs.size,oC) (aS _ (aS _ (gH (aj ..) hoC)))).1
   refine⟨m4,⟨oC,es,epC,pC,hdC,hsk,hnf⟩,fun h' hsb'=>?_⟩
   obtain⟨c0,c1,c2,c3,c4,c5⟩:=fpC
   exact⟨_,_,I5.unpinned.turned (t':=s5.toks) (fun b o hb e=>hsb'.extBut b o hb e) c0 c1 c3 c4 c5,q D hDn⟩
  ·refine cf (T.item (yY X N scope cl G.objs.size s2 H2 fp) rfl rfl rfl hc i _ s3 σ3 H3 (fun _ _=>False) I3 (stat fr3 one) st3 go) (fun r s4 ⟨u,hr,h4⟩=>?_) fun _ _ f=>f
   subst hr
   refine zH h4 fun _ s5 ⟨x,H5,I5,r5,y5,st5,fr5⟩=>?_
   have I5':=I5.pinned (stat fr5 one) (T.obj _ _ st5)
   refine zH (hg cl G.objs.size s2 H2 fp _ s5 σ3 H5 x u _ I5' r5 (step x H5 y5)) fun _ s6 ⟨σ6,H6,I6,q6⟩=>?_
   refine zH (hf cl G.objs.size s2 H2 fp _ s6 σ6 H6 _ I6 q6) fun b s7 ⟨H7,I7,q7⟩=>?_
   have fin:∀{pl:List (ah×Obj)} {σ':St} {H':Hp} {s':av},Inv (yY X N scope cl G.objs.size s2 H2 fp) (pl++zAA fp s5.heap) σ' H' s'->tn (i+1) s'.heap/\∀b∈fp,H' b=none:=fun{pl σ' H' s'} I'=>by
    refine⟨T.keep _ _ _ st5 fun b hb o e=>(I'.pin (b,o) (aS _ (aS _ (gH hb e)))).1,fun b hb=>?_⟩
    obtain⟨o,e,_⟩:=T.obj _ _ st5 b hb
    exact(I'.pin (b,o) (aS _ (aS _ (gH hb e)))).2.1
   cases b with
   |false=>
    rw[if_neg aY]at q7⊢
    obtain⟨m',hm,w7⟩:=q7
    obtain⟨a1,a2⟩:=fin I7
    exact⟨m',hm,i+1,σ6,H7,acc,its,ep,I7.unpinned,rv,hz,a1,a2,w7⟩
   |true=>
    rw[if_pos rfl]at q7⊢
    refine zH (he cl G.objs.size s2 H2 fp _ s7 σ6 H7 _ I7 q7) fun y s8 ⟨yv,H8,I8,r8,m',hm,w8⟩=>?_
    obtain⟨a1,a2⟩:=fin I8
    obtain⟨b1,b2⟩:=pinD I8 (bJ _ (aj ..))
    have hl:=rv.length
    refine fP jt ⟨_,b1,rfl⟩ i8 (iN _ _) (kj D its.toArray ep y (by rw[bh];omega)) ⟨b1,?_⟩
    have q9:=lC b1 (·.push y)
    have kp:∀b o,b≠D->s8.heap.get? b=some o->(s8.heap.update D (cT (·.push y))).get? b=some o:=fun b o hb e=>(cb s8.heap (cT (·.push y)) (fm hb)).trans e
    have I9:Inv (yY X N scope cl G.objs.size s2 H2 fp) [] σ6 H8 {s8 with heap:=s8.heap.update D (cT (·.push y))} :=
     (I8.pins_of (pins':=[]) fun p hp=>by cases hp).turned (t':=s8.toks) kp b2 hDC (.inr (by rw[<-hDa];exact aD _)) (fun x c e z=>by
      have e':X.env.cells.lookup x=some c:=hcl1 x c e
      obtain⟨v',hv'⟩:=I2.cell x c e'
      have h0:=hv'.lt
      rw[z,<-hDa]at h0
      exact bP _ h0) fun p hp=>by
       have:p∈([]:List (ah×Obj)):=hp
       cases this
    have hpu:its.toArray.push y=(its++[y]).toArray:=by simp
    rw[hpu]at q9
    obtain⟨e9,q9⟩:∃e9,(s8.heap.update D (cT (·.push y))).get? D=some {cls:=.type "list",data:=.seq (its++[y]).toArray e9}:=⟨_,q9⟩
    refine⟨m',hm,i+1,σ6,H8,acc++[yv],its++[y],e9,I9.pins_of fun p hp=>?_,rv.append (.cons r8 .nil),?_,T.keep _ _ _ a1 fun b hb o e=>kp b o ?_ e,a2,w8⟩
    ·obtain rfl:p=(D,{cls:=.type "list",data:=.seq (its++[y]).toArray e9}):=by
      rcases aL.mp hp with e|e
      ·exact e
      ·cases e
     obtain⟨_,_,c3,c4,_⟩:=I8.pin (D,_) (aS _ (bJ _ (aj ..)))
     exact⟨q9,b2,c3,c4,fun v z=>by cases z⟩
    ·rw[aE,cG];omega
    ·rintro rfl
     have h0:=hfo b hb
     rw[hDa]at h0
     exact bP _ h0
 exact lW loop (T.self X.A 0 _ _ _ st1 loop)
end
end L2
end
section
namespace Kn.Ln
open PySem L2 Kn
theorem zBC (n:Nat):(0:Int)<2^n:=gy (by decide)
theorem zCB {a b:Nat}(h:a<=b):(2:Int)^a<=2^b:=by
 have c:2^a<=2^b:=dQ (by decide) h
 have d:((2^a:Nat):Int)=(2:Int)^a:=by simp
 have e:((2^b:Nat):Int)=(2:Int)^b:=by simp
 rw[<-d,<-e];exact rB.mpr c
theorem zHs {U:Int}{n:Nat}(a:0<U)(h:U<=2^n):U^9<=2^(n*9):=by
 have go:∀k:Nat,U^k<=2^(n*k):=by
  intro k
  induction k with
  |zero=>simp
  |succ k ih=>
   rw[fz,Nat.mul_succ,kx]
   exact dO ih h (bB a) (bB (zBC _))
 exact go 9
section
variable{P:aJ}{w:aV}{K:ae}{mg:Str->Option ag}{base:bC}
def zEC:Sp:=fun vs H Q _=>∃u d:Int,vs=[.int u,.int d]/\0<=u/\0<d/\Q (.int (yC u d)) H
def zAZ:Sp:=fun vs H Q _=>∃u d:Int,vs=[.int u,.int d]/\0<=u/\0<d/\d<2^8000/\∀p,H p=none->Q (.ref p) (upd H p (frO (low u d)))
theorem zNt {vs:List V}{H:Hp}{Q:VK}{E:XK}(h:zDK vs H Q E):zEC vs H Q E:=by
 obtain⟨u,d,rfl,a,b,c,k⟩:=h
 exact⟨u,d,rfl,a,b,k⟩
theorem zNu {vs:List V}{H:Hp}{Q:VK}{E:XK}(h:zDM vs H Q E):zAZ vs H Q E:=by
 obtain⟨u,d,rfl,c,e,f,k⟩:=h
 refine⟨u,d,rfl,c,e,?_,k⟩
 have g:=zCB (a:=30) (b:=8000) (by decide)
 have i:(2:Int)^30=1073741824:=by decide
 omega
theorem zNv {f:ah}{fd:aX}(F:Fun K "greatest_divisor" "greatest_divisor" zDL f fd):FnOk P w K mg base z7 1 f fd ["one","other"] zEC:=by
 refine F.ok zGf (fun vs H Q E h=>?_) (fun t A outer s H vs Q E C h=>?_)
 ·obtain⟨a,b,rfl,_⟩:=h;rfl
 ·obtain⟨u,d,rfl,j,l,k⟩:=h
  have nd:=zGf.nd
  refine⟨_,zJ (zCQ bF (vJ gI (pv 1) zI (vD _))
    (zJ (zV (i:=2) nd rfl (Or.inl rfl) (zR k6 (pv 0) (pv 1))) (zJ (zV (i:=0) nd rfl (Or.inl rfl) (pv 1)) (zO (zV (i:=1) nd rfl (Or.inl rfl) (pv 2))))))
   (zO (zZ (pv 0))),?_⟩
  refine⟨fun m σ H'=>H'=H/\∃(a b:Int) (r:Option V),σ=[some (.int a),some (.int b),r]/\m=b.toNat/\0<=a/\0<=b/\gm a b=gm u d,⟨_,rfl,u,d,none,rfl,rfl,j,bB l,rfl⟩,?_⟩
  rintro m σ H' ⟨rfl,a,b,r,rfl,rfl,o,v,p⟩
  refine⟨_,rfl,rfl,_,rfl,?_⟩
  by_cases hz:b=0
  ·subst hz
   refine k9 rfl ⟨_,rfl,?_⟩
   have e:a=yC u d:=by
    unfold yC
    rw[<-p]
    obtain⟨x,rfl⟩:=cq o
    simp
   show Q (.int a) H'
   rw[e]
   exact k
  ·have c:0<b:=by omega
   have n:¬(V.int b=V.int 0):=fun z=>hz (V.int.inj z)
   have y:(!decide (V.int b=V.int 0))=true:=by rw[decide_eq_false n];rfl
   show if(!decide (V.int b=V.int 0))=true then _ else _
   rw[if_pos y]
   refine⟨fun q g=>g=H'/\q=[some (.int b),some (.int (a%b)),some (.int (a%b))],?_,?_⟩
   ·rintro q g ⟨rfl,rfl⟩
    have B:=iZ a hz
    have D:=gs a c
    exact⟨(a%b).toNat,by omega,rfl,b,a%b,_,rfl,rfl,v,B,by rw[zGe o c];exact p⟩
   ·exact⟨_,rfl,_,rfl,_,_,rfl,rfl,c,_,rfl,_,rfl,rfl,rfl⟩
theorem zNw {f:ah}{fd:aX}(F:Fun K "lowest" "lowest" zDN f fd)(g:zY P w K mg base 1 "greatest_divisor" ["one","other"] zEC):FnOk P w K mg base z7 2 f fd ["up","down"] zAZ:=by
 refine F.ok zGg (fun vs H Q E h=>?_) (fun j A outer s H vs Q E l h=>?_)
 ·obtain⟨a,b,rfl,_⟩:=h;rfl
 ·obtain⟨u,d,rfl,e,c,m,k⟩:=h
  have nd:=zGg.nd
  refine⟨_,zJ (zV (i:=2) nd rfl (Or.inl rfl) (zU g l rfl (zB (pv 0) (zB (pv 1) zD))))
   (zO (zZ (uN (zB (zR zCA (pv 0) (pv 2)) (zB (zR zCA (pv 1) (pv 2)) zD))))),?_⟩
  have g1:=zAN (u:=u) c
  have g2:yC u d<=d:=nD c (dU ..)
  refine⟨_,rfl,_,rfl,u,d,rfl,e,c,?_⟩
  exact⟨_,rfl,_,rfl,_,_,rfl,rfl,⟨g1,by omega⟩,_,rfl,_,rfl,_,_,rfl,rfl,⟨g1,by omega⟩,by show 2<=sizeLine;decide,k⟩
abbrev zED:cp:=top 21
theorem zNx:FnScope ["thing","least","most"] ["thing","least","most"] (defScope zED):=yD
abbrev zEE:cp:=top 42
theorem zNy:FnScope ["thing"] ["thing"] (defScope zEE):=yD
theorem zCC (ps:List (S×S))(a:uB ps)(o n:Nat):∃M:List S,M.Nodup/\∀x,x∈M↔uC ps o n x :=
 ⟨_,(zBt (lts ps) a o n).filter _,fun x=>(zAy (lts ps) a o n x).symm⟩
theorem zNz {ps:List (S×S)}{o n:Nat}{M a:List S}(b:M.Nodup)(c:∀x,x∈M↔uC ps o n x)(d:a.Nodup)(e:∀x,x∈a↔uC ps o n x):M.length=a.length :=
 (zDe b d fun x=>by rw[c,e]).length_eq
theorem zHt (n:Nat):(aB n [V.str ""]).flatten=(aB n ([]:S)).map sv:=by
 induction n with
 |zero=>rfl
 |succ n ih=>rw[dC,eP,ih,dC,aF];rfl
abbrev zEF:cp:=top 43
theorem zOA:FnScope ["rows","order","length"] ["rows","order","length"] (defScope zEF):=yD
def zCD (ps:List (S×S))(o n N:Nat):Prop:=∀M:List S,M.Nodup->(∀x,x∈M↔uC ps o n x)->N=M.length
def zEG:Sp:=fun vs H Q _=>∃(d:ah) (o n:Nat) (bk:List S),vs=[.ref d,.int o,.int n]/\Bk bk o/\qL H d (zC o bk)/\n<=8/\∀(N:Nat) (H':Hp),zA H H'->zCD (zC o bk) o n N->Q (.int N) H'
theorem zOB {f:ah}{fd:aX}(F:Fun K "how_many_by_rows" "how_many_by_rows" zEF f fd)(i:∃t,mg "ANY"=some (.str "" t))(y:zY P w K mg base 1 "even_parts" ["rows"] (zHJ K))(z:zY P w K mg base 3 "sum_along" ["parts","order","weight","pattern"] (zDs K)):FnOk P w K mg base z7 4 f fd ["rows","order","length"] zEG:=by
 obtain⟨u,i⟩:=i
 refine F.ok zOA (fun vs H Q E h=>?_) (fun B A outer s H vs Q E m h=>?_)
 ·obtain⟨d,o,n,bk,rfl,_⟩:=h;rfl
 ·obtain⟨d,o,n,bk,rfl,p,R,C,k⟩:=h
  have D:=m.mono (j:=1) (by decide)
  have G:=zDn p
  refine⟨_,zO (zZ (zU z m rfl (zB (zU y D rfl (zB (pv 0) zD)) (zB (pv 1) (zB zI (zB (zR zAn (vK (zB (vC (v:=.str "") (by rfl) i ⟨_,rfl⟩) zD)) (pv 2)) zD)))))),?_⟩
  refine⟨_,rfl,d,zC o bk,rfl,R,by omega,fun I c J L N=>?_⟩
  refine⟨_,rfl,by show 1<=sizeLine;decide,fun g hl0=>?_⟩
  have q:zA c (upd c g (.lst [V.str ""])):=zA.upd1 hl0
  refine⟨_,rfl,g,n,[V.str ""],rfl,rfl,zF,by omega,by omega,by rw[aR];show 1*(n:Int).toNat<=_;omega,fun r l=>?_⟩
  have x:zA (upd c g (.lst [V.str ""])) (upd (upd c g (.lst [V.str ""])) r (.lst (aB (n:Int).toNat [V.str ""]).flatten)):=zA.upd1 l
  refine⟨I,r,o,bk,fun _ _=>(1,1),1,aB n [],rfl,p,(N.same q).same x,fun _ _=>(by decide:(0:Int)<=1/\(1:Int)<1000000/\(0:Int)<1/\(1:Int)<1000000),?_,by rw[cZ];omega,fun O T=>?_⟩
  ·rw[zF]
   have:(n:Int).toNat=n:=by omega
   rw[this,zHt]
  ·obtain⟨M,a,b⟩:=zCC (zC o bk) (kK o bk) o n
   have e:tots (fun e h=>zX h (uK (zC o bk) (fun _ _=>(1,1)) e)) (Ss (yF (zC o bk)) (fun _ _=>(1,1)) o 1 (aB n []))=(M.length:Int):=zMi (lts _) (kK o bk) a b
   rw[e]
   exact k M.length O ((J.trans q).trans (x.trans T)) fun X U W=>zNz a b U W
abbrev sHM:cp:=top 44
theorem zOC:FnScope ["book","order","length"] ["book","order","length"] (defScope sHM):=yD
def zHu:Sp:=fun vs H Q _=>∃(a:ah) (bk:List S) (o n:Nat),vs=[.ref a,.int o,.int n]/\H a=some (.tup (zP bk))/\Bk bk o/\1<=n/\n<=8/\∀(N:Nat) (H':Hp),zA H H'->zCD (zC o bk) o n N->Q (.int N) H'
abbrev sAM:cp:=top 51
theorem zHv:FnScope ["book","order","length","rows","closing","texts","left"] ["book","order","length"] (defScope sAM):=yD
end
theorem zOD (ps:List (S×S))(e:S):uK ps (zS ps) e=zS ps e []:=by
 unfold uK
 by_cases c:(e,[])∈ps
 ·rw[if_pos c]
 ·rw[if_neg c,zGR c]
def jC (ps:List (S×S))(o:Nat)(U:Int)(n:Nat):Int:=tots (fun e h=>zX h (zS ps e [])) (Ss (yF ps) (zS ps) o (U^9) (aB n []))
structure Unit9 (ps:List (S×S)) (U:Int):Prop where
 pos:0<U
 dvd:∀e l,(zS ps e l).2∣U
 le:U<=2^60
theorem zEH {ps:List (S×S)}(b:uB ps){o n:Nat}{U:Int}(a:Unit9 ps U)(c:n<=8){M:List S}(d:M.Nodup)(e:∀x,x∈M↔uC ps o n x):jC ps o U n=(M.map (Wn ps o (U^9))).sum:=zMg (lts ps) b a.pos a.dvd c d e
theorem zHw {ps:List (S×S)}{o:Nat}{U:Int}(a:Unit9 ps U):∀{M:List S},(∀x∈M,x.length<=8)->0<=(M.map (Wn ps o (U^9))).sum
 | [],_=>by simp
 |x::M,h=>by
  rw[aF,bb]
  have c:=(zHC (o:=o) a.pos a.dvd (h x (aj ..))).1
  have d:=zHw (o:=o) a (M:=M) fun y b=>h y (ar _ b)
  omega
theorem zOE {ps:List (S×S)}(a:uB ps){o n:Nat}{U:Int}(b:Unit9 ps U)(c:n<=8):0<=jC ps o U n:=by
 obtain⟨M,e,d⟩:=zCC ps a o n
 rw[zEH a b c e d]
 exact zHw b fun x f=>by rw[((d x).mp f).1];exact c
def g7 (ps:List (S×S))(o:Nat)(ns:List Nat)(q:Int×Int):Prop:=∃U,Unit9 ps U/\q=low (ns.map (jC ps o U)).sum (U^9)
theorem zOF {ps:List (S×S)}(a:1<=ps.length)(b:ps.length<900):Smf (zS ps):=fun e l=>by
 have f:=qY ps e l
 have d:=zGS (ps:=ps) e l a
 refine⟨f.up,?_,f.dn,by omega⟩
 have c:(zS ps e l).1<=(zS ps e l).2:=by
  unfold zS
  split
  ·decide
  ·have g:=jJ ps e l
   exact zBg (by omega) (by omega) (by omega)
 omega
section
variable{P:aJ}{w:aV}{K:ae}{mg:Str->Option ag}{base:bC}
abbrev zEI:cp:=top 45
theorem zHx:FnScope ["book","order","least","most","rows","parts","whole","weights"] ["book","order","least","most"] (defScope zEI):=yD
theorem zOG:(["parts","order","whole","length"]:List Str).Nodup:=by decide+kernel
def zEJ (K:ae):Sp:=fun vs H Q _=>∃(a:ah) (bk:List S) (o lo hi:Nat),vs=[.ref a,.int o,.int lo,.int hi]/\H a=some (.tup (zP bk))/\Bk bk o/\(zC o bk).length<=60/\1<=lo/\lo<=hi/\hi<=8/\
 ∀(v:V) (q:Int×Int) (H':Hp),zA H H'->yO K H' v q->g7 (zC o bk) o ((ba (hi+1-lo)).map (lo+·)) q->Q v H'
structure WayC (P:aJ) (w:aV) (K:ae) (mg:Str->Option ag) (base:bC):Prop where
 rows:zY P w K mg base 3 "counted_rows" ["book","order"] zAr
 parts:zY P w K mg base 4 "parts_by_rows" ["rows"] (zHU K)
 wt:zY P w K mg base 3 "whole_weight" ["rows"] zHY
 sum:zY P w K mg base 3 "sum_along" ["parts","order","weight","pattern"] (zDs K)
 low:zY P w K mg base 2 "lowest" ["up","down"] zAZ
theorem zOH {f:ah}{fd:aX}(F:Fun K "share_from_to" "share_from_to" zEI f fd)(B:Blt mg)(J:∃t,mg "ANY"=some (.str "" t))(C:WayC P w K mg base):FnOk P w K mg base z7 5 f fd ["book","order","least","most"] (zEJ K):=by
 obtain⟨u,J⟩:=J
 refine F.ok zHx (fun vs H Q E h=>?_) (fun an A outer s H vs Q E M h=>?_)
 ·obtain⟨a,bk,o,lo,hi,rfl,_⟩:=h;rfl
 ·obtain⟨a,bk,o,lo,hi,rfl,ha,q,O,hl1,ao,ap,k⟩:=h
  have nd:=zHx.nd
  have T:=M.mono (j:=3) (by decide)
  have r2:=M.mono (j:=2) (by decide)
  refine⟨_,zJ (zV (i:=4) nd rfl (Or.inl rfl) (zU C.rows T rfl (zB (pv 0) (zB (pv 1) zD))))
   (zJ (zV (i:=5) nd rfl (Or.inr rfl) (zU C.parts M rfl (zB (pv 4) zD)))
   (zJ (zV (i:=6) nd rfl (Or.inr rfl) (zU C.wt T rfl (zB (pv 4) zD)))
   (zJ (zNs (j:=7) (N:=["parts","order","whole","length"]) (caps:=[5,1,6]) nd rfl (Or.inl rfl) rfl (y9 (by kernel_rfl)) (zCR rfl B.range (zB (pv 2) (zB (zR y0 (pv 3) zI) zD)))
     (fun cl X s H ex=>z0 (i:=3) zOG rfl (Or.inl rfl)) (fun cl X s H ex=>uI)
     (fun cl X s H ex=>zU C.sum T rfl (zB (pv 0) (zB (pv 1) (zB (pv 2) (zB (zR zAn (vK (zB (vC (v:=.str "") (by rfl) J ⟨_,rfl⟩) zD)) (pv 3)) zD))))))
   (zO (zZ (zU C.low r2 rfl (zB (yH (zCs rfl) (by rfl) B.sum eB (zB (pv 7) zD)) (zB (pv 6) zD)))))))),?_⟩
  refine⟨_,rfl,_,rfl,a,bk,o,rfl,ha,q.hi,q.l8,q.o1,fun d H1 s1 hd R=>?_⟩
  refine⟨_,rfl,d,zC o bk,rfl,R,by omega,fun pd H2 s2 as hP=>?_⟩
  refine⟨_,rfl,d,zC o bk,rfl,R.same s2,O,fun U H3 s3 g W r=>?_⟩
  have hU:Unit9 (zC o bk) U:=⟨g,W,r⟩
  have Y:=hP.same s3
  have Z:Smf (zS (zC o bk)):=zOF (zDP q).1 (by omega)
  refine⟨_,rfl,_,rfl,_,_,rfl,rfl,lo,(hi:Int)+1,rfl,⟨by omega,by omega,by omega,by omega⟩,?_⟩
  have l:((hi:Int)+1- (lo:Int)).toNat=hi+1-lo:=by omega
  refine uP (uZ (lo:Int) _) [some (.ref pd),some (.int o),some (.int (U^9))] 1 (by rw[aa,bO,l];omega) (fun i c H'=>zA H3 H'/\c=((((ba (hi+1-lo)).map (lo+·)).take i).map (jC (zC o bk) o U)).map V.int)
   ⟨zA.refl _,rfl⟩ (fun i c H' _ h=>⟨trivial,by rw[h.2,aa,aa,aO];omega⟩) ?_ ?_
  ·rintro i x c H' ys Nx hN G hy ⟨sm,rfl⟩
   obtain⟨y',rfl⟩:=uD hy
   rw[l]at G
   have y:i<hi+1-lo:=by
    have:=(af.mp G).1
    simpa using this
   rw[aq,cV y]at G
   have hx2:x=V.int ((lo+i:Nat):Int):=(ay G).symm
   subst hx2
   have ab:i<((ba (hi+1-lo)).map (lo+·)).length:=by rw[aa,bO];exact y
   have ac:((ba (hi+1-lo)).map (lo+·)).take (i+1)=((ba (hi+1-lo)).map (lo+·)).take i++[lo+i]:=by
    rw[ak ab]
    congr 1
    simp
   refine⟨_,rfl,_,rfl,_,rfl,by show 1<=sizeLine;decide,fun I hl0=>?_⟩
   have t2:zA H' (upd H' I (.lst [V.str ""])):=zA.upd1 hl0
   refine⟨_,rfl,I,((lo+i:Nat):Int),[V.str ""],rfl,rfl,zF,by omega,by omega,by rw[aR];show 1*((lo+i:Nat):Int).toNat<=_;omega,fun pl al=>?_⟩
   have t3:zA (upd H' I (.lst [V.str ""])) (upd (upd H' I (.lst [V.str ""])) pl (.lst (aB ((lo+i:Nat):Int).toNat [V.str ""]).flatten)):=zA.upd1 al
   refine⟨pd,pl,o,bk,zS (zC o bk),U^9,aB (lo+i) [],rfl,q,((Y.same sm).same t2).same t3,Z,?_,by rw[cZ];omega,fun H4 s4=>?_⟩
   ·rw[zF]
    have:((lo+i:Nat):Int).toNat=lo+i:=by omega
    rw[this,zHt]
   ·refine hN _ _ [some (V.int ((lo+i:Nat):Int))] rfl ⟨(sm.trans t2).trans (t3.trans s4),?_⟩
    rw[ac,aC,aC]
    have e1:(fun e h=>zX h (uK (zC o bk) (zS (zC o bk)) e))=fun e h=>zX h (zS (zC o bk) e []):=by
     funext e h;rw[zOD]
    rw[e1];rfl
  ·rintro c H' ⟨sm,rfl⟩ D hD
   rw[aa,bO,l]
   have z:((ba (hi+1-lo)).map (lo+·)).take (hi+1-lo)=(ba (hi+1-lo)).map (lo+·):=ir (by rw[aa,bO];exact aD _)
   rw[z]
   have sD:zA H' (upd H' D (.lst ((((ba (hi+1-lo)).map (lo+·)).map (jC (zC o bk) o U)).map V.int))):=zA.upd1 hD
   have am:0<=(((ba (hi+1-lo)).map (lo+·)).map (jC (zC o bk) o U)).sum:=by
    have go:∀L:List Nat,(∀n∈L,n<=8)->0<=(L.map (jC (zC o bk) o U)).sum:=by
     intro L
     induction L with
     |nil=>intro _;simp
     |cons n L ih=>
      intro h
      rw[aF,bb]
      have h1:=zOE (kK o bk) (o:=o) hU (h n (aj ..))
      have h2:=ih fun m hm=>h m (ar _ hm)
      omega
    refine go _ fun n hn=>?_
    obtain⟨m,hm,rfl⟩:=az.mp hn
    have:=bX.mp hm
    omega
   have au:=zHs g r
   have ax:=zCB (a:=60*9) (b:=7999) (by decide)
   have aA:(2:Int)^7999<2^8000:=by
    rw[fz 2 7999]
    have:=zBC 7999
    omega
   refine⟨_,rfl,D,_,rfl,.of zF,_,rfl,_,U^9,rfl,am,gy g,by omega,fun p hp=>?_⟩
   exact k _ _ _ ((s1.trans (s2.trans s3)).trans (sm.trans (sD.trans (zA.upd1 hp)))) yO.new ⟨U,hU,rfl⟩
abbrev zEK:cp:=top 46
theorem zOI:FnScope ["book","order","length"] ["book","order","length"] (defScope zEK):=yD
abbrev zEL:cp:=top 52
theorem zHy:FnScope ["book","order","rows"] ["book","order"] (defScope zEL):=yD
theorem zOJ:(["rows","order","length"]:List Str).Nodup:=by decide+kernel
end
theorem zOK {J:It}{items:List V}{q:Hp->Prop}(u:Known J items q){caps:List Nat}{m n:Nat}{σ:St}{j:TT}{d:Hp}{F:List V->Hp->Prop}(cv:St)(v:items.length<1000)
  (w:∀H',zA d H'->q H') (e:∀(i:Nat) (x:V) (f:Hp) (Z:Bool->Hp->Prop),items[i]?=some x->zA d f->(∀l,zA f l->Z false l)->j (cv++[some x]) f Z)
  (k:∀H',zA d H'->F [] H') (o:v8 caps n σ=cv++aB 1 none:=by rfl) (hm:cv.length=m:=by rfl) :
  ∃W:Nat->Nat->List V->St->Hp->Prop,(∃m,W 0 m [] (v8 caps n σ) d)/\∀i p a r H',W i p a r H'->
   (J.stop i H'/\F a H')\/
   (J.go i H'/\a.length<sizeLine/\∀x s,J.yld i H' x s->jX m x r s fun g z=>j g z fun b t=>if b=true then vR m g t fun y f=>∃c,c<p/\W (i+1) c (a++[y]) g f else∃c,c<p/\W (i+1) c a g t):=by
 refine kG u cv 1 v (fun i a H'=>zA d H'/\a=[]) ⟨zA.refl _,rfl⟩ (fun i a H' _ h=>⟨w H' h.1,by rw[h.2];exact bQ _⟩) ?_ ?_ o
 ·rintro i x a H' ys G A B C ⟨sm,rfl⟩
  obtain⟨D,rfl⟩:=uD C
  show j ((cv++[D]).set m (some x)) H' _
  rw[zHi hm]
  exact e i x H' _ B sm fun l E=>uH (A _ _ [some x] rfl ⟨sm.trans E,rfl⟩)
 ·rintro a H' ⟨sm,rfl⟩
  exact k H' sm
theorem zOL {ps:List (S×S)}(h:ps.length<=60):∃U,Unit9 ps U:=by
 have go:∀a:List S,(∀e∈a,0<tot ps e)->∃U:Int,0<U/\(∀e∈a,(tot ps e:Int)∣U)/\U<=2^(a.map (tot ps)).sum:=by
  intro a
  induction a with
  |nil=>intro _;exact⟨1,by decide,(fun e b=>by cases b),by simp⟩
  |cons e a ih=>
   intro m
   obtain⟨U,c,g,i⟩:=ih fun x d=>m x (ar _ d)
   have b:=m e (aj ..)
   refine⟨(tot ps e:Int)*U,dN (by omega) c,fun x d=>?_,?_⟩
   ·rcases aL.mp d with rfl|d
    ·exact⟨U,rfl⟩
    ·exact dJ (g x d) ⟨(tot ps e:Int),d5 ..⟩
   ·rw[aF,bb,kx]
    exact dO (zHZ _ b) i (bB c) (bB (zBC _))
 have f:∀e∈(vH ps).map (·.1),0<tot ps e:=fun e b=>by
  obtain⟨q,n,rfl⟩:=az.mp b
  obtain⟨l,hl⟩:=((yT ps).has q.1).mp ⟨q.2,(vG (yT ps).nd _ _).mp n⟩
  have c:=jJ ps q.1 l
  have g:=cK.mpr hl
  omega
 obtain⟨U,c,g,i⟩:=go _ f
 refine⟨U,c,zHV fun e ⟨l,hl⟩=>g e ?_,?_⟩
 ·obtain⟨row,j⟩:=((yT ps).has e).mpr ⟨l,hl⟩
  exact az.mpr ⟨_,(vG (yT ps).nd _ _).mpr j,rfl⟩
 ·have o:=tots_le ps _ (yT ps).nd
  exact oh i (zCB (by omega))
theorem zHz {x:Int}{q:Int×Int}(a:0<=x)(b:q.1<=q.2)(c:0<q.2):zX x q<=x:=by
 unfold zX
 have:x*q.1<=x*q.2:=Int.mul_le_mul_of_nonneg_left b a
 exact Int.ediv_le_of_le_mul c this
theorem zIA (ps:List (S×S))(e l:S):(zS ps e l).1<=(zS ps e l).2:=by
 unfold zS
 split
 ·decide
 ·have a:=jJ ps e l
  exact zBg (by omega) (by omega) (by omega)
theorem zOM {x:Int}{q:Int×Int}(a:0<=x)(b:0<=q.1)(c:0<q.2):0<=zX x q:=mw (cB a b) (bB c)
theorem zON (ps:List (S×S))(o:Nat){T:Int}(e:0<=T)(x:S):Wn ps o T x<=T:=by
 unfold Wn Wt
 have go:∀(b:List (S×S)) (y:Int),0<=y->y<=T->0<=b.foldl (fun w q=>zX w (zS ps q.1 q.2)) y/\b.foldl (fun w q=>zX w (zS ps q.1 q.2)) y<=T:=by
  intro b
  induction b with
  |nil=>intro y a c;exact⟨a,c⟩
  |cons q b ih=>
   intro y a c
   rw[cn]
   have f:=qY ps q.1 q.2
   have d:=zHz a (zIA ps q.1 q.2) f.dn
   exact ih _ (zOM a f.up f.dn) (by omega)
 obtain⟨a,c⟩:=go (pp o x) T e (rZ _)
 have f:=qY ps (zE x o) []
 have d:=zHz a (zIA ps (zE x o) []) f.dn
 exact oh d c
theorem zIB (ps:List (S×S))(o:Nat){T:Int}(a:0<=T):∀M:List S,(M.map (Wn ps o T)).sum<=(M.length:Int)*T
 | []=>by simp
 |x::M=>by
  rw[aF,bb,bg]
  have b:=zON ps o a x
  have c:=zIB ps o a M
  have d:((M.length+1:Nat):Int)*T=(M.length:Int)*T+T:=by
   have:((M.length+1:Nat):Int)=(M.length:Int)+1:=rfl
   rw[this,kr,r6]
  omega
structure FG (q:Int×Int):Prop where
 up:0<=q.1
 dn:0<q.2
 u1:q.1<2^1000
 d1:q.2<2^1000
theorem zAa {a b:Nat}(h:a<b):(2:Int)^a<2^b:=by
 have c:2^a<2^b:=Nat.pow_lt_pow_right (by decide) h
 have d:((2^a:Nat):Int)=(2:Int)^a:=by simp
 have e:((2^b:Nat):Int)=(2:Int)^b:=by simp
 rw[<-d,<-e];exact Int.ofNat_lt.mpr c
theorem FG.bu {q:Int×Int}(h:FG q):Bg q.1:=⟨h.up,rD h.u1 (zAa (by decide))⟩
theorem FG.bd {q:Int×Int}(h:FG q):Bg q.2:=⟨bB h.dn,rD h.d1 (zAa (by decide))⟩
theorem FG.prod {p q:Int×Int}(a:FG p)(b:FG q):p.2*q.2<2^8000:=by
 have c:p.2*q.2<=2^1000*2^1000:=dO (bB a.d1) (bB b.d1) (bB b.dn) (bB (zBC _))
 rw[<-kx]at c
 exact Int.lt_of_le_of_lt c (zAa (by decide))
theorem zOO {ps:List (S×S)}{o:Nat}{x:S}(c:1<=ps.length)(h:ps.length^(x.length+1)<1073741824):FG (yX ps o x):=by
 have s:=zMF (o:=o) c h
 have e:(2:Int)^30=1073741824:=by decide
 have d:=zAa (a:=30) (b:=1000) (by decide)
 exact⟨s.up,s.dn,by have:=s.u1;omega,by have:=s.d1;omega⟩
theorem zOP {ps:List (S×S)}{o:Nat}(h:ps.length<=60){M:List S}(l:∀x∈M,x.length<=8)(r:M.length<=10000):FG (M.foldl (fun w x=>vI w (yX ps o x)) (0,1)):=by
 obtain⟨U,c⟩:=zOL h
 have d:0<U^9:=gy c.pos
 have e:=(zBu (o:=o) c.pos c.dvd M 0 (by decide) l)
 rw[zBf d]at e
 rw[e.1]
 have i:=e.2
 rw[l5]at i⊢
 have m:=zIB ps o (bB d) M
 have f:=u6 i d
 obtain⟨s,t⟩:=zCw i d
 have n:=zHs c.pos c.le
 have g:U^9<=2^540:=n
 have j:(M.length:Int)<=2^14:=by
  have p:(2:Int)^14=16384:=by decide
  omega
 have q:(M.length:Int)*U^9<=2^14*2^540:=dO j g (bB d) (bB (zBC _))
 rw[<-kx]at q
 have u:=zAa (a:=14+540) (b:=1000) (by decide)
 have v:=zAa (a:=540) (b:=1000) (by decide)
 exact⟨f.up,f.dn,by omega,by omega⟩
theorem zOQ {ps:List (S×S)}(d:uB ps){o n:Nat}(b:n<=8){q:Int×Int}(h:g7 ps o [n] q){M:List S}(f:M.Nodup)(c:∀x,x∈M↔uC ps o n x):q=M.foldl (fun w x=>vI w (yX ps o x)) (0,1):=by
 obtain⟨U,a,rfl⟩:=h
 have g:0<U^9:=gy a.pos
 have e:=(zBu (o:=o) a.pos a.dvd M 0 (by decide) fun x i=>by rw[((c x).mp i).1];exact b)
 rw[zBf g]at e
 rw[e.1,l5]
 have j:([n].map (jC ps o U)).sum=jC ps o U n:=by simp
 rw[j,zEH d a b f c]
section
variable{ps:List (S×S)}{o:Nat}{U:Int}
def upW (ps:List (S×S))(o:Nat)(U:Int)(n:Nat):Int:=(((ba n).map (1+·)).map (jC ps o U)).sum
theorem zOR (n:Nat):upW ps o U (n+1)=upW ps o U n+jC ps o U (1+n):=by
 unfold upW
 rw[fF,aC,aC,iX]
 simp
end
theorem zOS {o:Nat}{bk:List S}(j:1<=o)(b:∀x∈bk,1<=x.length):(([],[]):S×S)∉zC o bk:=fun h=>by
 obtain⟨nm,hm,c⟩:=bx.mp h
 obtain⟨p,d,e⟩:=az.mp c
 have f:zE (nm.take p) o=[]:=congrArg rX e
 have g:(nm.drop p).take 1=[]:=congrArg jx e
 have i:(nm.drop p).length=0:=by
  have:=congrArg iL g
  rw[aO]at this
  simp at this⊢;omega
 rw[cQ]at i
 have a:=congrArg iL f
 unfold zE at a
 rw[cQ,aO]at a
 have:=b nm hm
 simp at a;omega
theorem zEM {α:Type} [DecidableEq α]:∀(l L:List α),l.Nodup->(∀x∈l,x∈L)->l.length<=L.length
 | [],L,_,_=>bQ _
 |x::l,L,b,c=>by
  have d:=c x (aj ..)
  have f:=zEM l (L.erase x) (bE.mp b).2 fun y e=>by
   have a:y≠x:=fun z=>(bE.mp b).1 (by rw[<-z];exact e)
   exact(iR a).mpr (c y (ar _ e))
  rw[gh d]at f
  have:=fB d
  rw[bg];omega
end Kn.Ln
end
section
namespace L2
open PySem PySem.Spec PyProof.Rows
def ItB (tp:Bool)(h:bC)(it b:ah)(i:Nat):Prop:=if tp=true then h.IsTupleIter it b i else h.IsListIter it b i
theorem ItB.keep {a:Bool}{h h':bC}{it b:ah}{i:Nat}(x:ItB a h it b i)(e:∀o,h.get? it=some o->h'.get? it=some o):ItB a h' it b i:=by
 cases a with
 |true=>exact(show h.IsTupleIter it b i from x).at e
 |false=>exact(show h.IsListIter it b i from x).at e
open AutoSeq1 (wpAny_loadPart')
open PySem.AutoSeq1 (wpAny_loadPart')
open PySem.MeetsSeq PySem.MeetsSeq2 PySem.MeetsSeq3 PySem.SeqAt
section
open MyS PySem.W
variable{prog:aJ}{w:aV}{A:bM}{E:ag->av->Prop}{s:av}
end
def zEN (h:bC)(a:ah)(v:ag)(k:List Int):Prop:=∃b o t n lb items,v=Value.ref b/\b≠a/\h.get? b=some o/\o.cls=.type "tuple"/\o.data=.seq #[.int (k.length:Int) t,.ref lb] n/\lb≠a/\h.IsList lb items/\jc items.toList k
theorem zEN.keep {h h':bC}{a:ah}{v:ag}{k:List Int}(p:zEN h a v k)(e:∀b o,b≠a->h.get? b=some o->h'.get? b=some o):zEN h' a v k:=by
 obtain⟨b,o,t,n,c,items,g,d,i,j,l,f,m,r⟩:=p
 exact⟨b,o,t,n,c,items,g,d,e b o d i,j,l,f,m.at fun o q=>e c o f q,r⟩
section
open MyS PySem.W
variable{prog:aJ}{w:aV}{A:bM}{E:ag->av->Prop}{s:av}
end
section
open MyS PySem.W
variable{prog:aJ}{w:aV}{A:bM}{E:ag->av->Prop}{s:av}
def zEO (h:bC)(a:ah)(v:ag)(k:Int×Str):Prop:=∃b o t t2 n,v=Value.ref b/\b≠a/\h.get? b=some o/\o.cls=.type "tuple"/\o.data=.seq #[.int k.1 t,.str k.2 t2] n
theorem zEO.keep {h h':bC}{a:ah}{v:ag}{k:Int×Str}(p:zEO h a v k)(e:∀b o,b≠a->h.get? b=some o->h'.get? b=some o):zEO h' a v k:=by
 obtain⟨b,o,t,d,n,f,c,g,i⟩:=p
 exact⟨b,o,t,d,n,f,c,e b o c g,i⟩
end
section
open MyS PySem.W
variable{X:Cx}
def zOT (K:ae):List V->Hp->VK->Prop:=fun xs H Q=>∃(p:ah) (ss:List Str),xs=[.ref p]/\yL K H p (ss.map V.str)/\ss.Nodup/\ss.length<64/\
 ∀(out:List Str) (l:ah),out.Perm ss->out.Pairwise (fun a b=>a.cps.toList<b.cps.toList)->H l=none->Q (.ref l) (upd H l (.lst (out.map V.str)))
theorem zOU (Z:X.calm=true):uG X (.builtin "sorted") (zOT X.K):=by
 intro E s σ H xs us Q I M h
 obtain⟨p,ss,rfl,N,nd,O,q⟩:=h
 obtain⟨u,rfl,P⟩:=qR M
 cases P
 obtain⟨its,v,R,_⟩:=I.list N
 have T:rl its ss:=zGE v
 have a:its.length=ss.length:=by have:=v.length;simpa using this.symm
 refine fW oN n5 n6 (n8 _) ?_
 unfold dk.«sorted»
 refine aw (m:=checkCount "sorted" 1 1 _) (aH ?_)
 refine aw (collect_list R.isList ?_ (by rw[a,aR];omega))
 obtain⟨G,d,F,w⟩:∃G,G=(s.heap.push (seqObj "list" #[] 0)).update s.heap.objs.size (cT (·++its.toArray))/\(∀b o,s.heap.get? b=some o->G.get? b=some o)/\s.heap.objs.size<=G.objs.size :=
  ⟨_,rfl,fun b o e=>(cb _ _ (eI (aI e))).trans (ai _ e),by rw[Heap.size_update,eu];exact oP _⟩
 rw[<-d]
 clear d
 refine aw (lj ?_ (by rw[a,aR];omega))
 dsimp only
 generalize y:G.objs.size=B
 have f:(G.push {cls:=.type "list",data:=.seq its.toArray}).get? B=some (seqObj "list" its.toArray 0):=by
  rw[<-y];exact aM _ rfl
 have g:s.heap.objs.size<=B:=by rw[<-y];exact w
 have old:∀b o,s.heap.get? b=some o->(G.push {cls:=.type "list",data:=.seq its.toArray}).get? b=some o/\b≠B:=fun b o e=>⟨ai _ (F _ _ e),by rw[<-y];exact bf (aI (F _ _ e))⟩
 refine aw (dH (d9 mR ⟨_,f,rfl⟩ mr (sort_strs (ks:=ss) f T nd (by omega) fun pm J L z n A C=>⟨_,rfl,?_⟩) (mT _)))
 refine aH ⟨_,rfl,?_⟩
 have c:pm.Perm (ba ss.length):=by rw[<-a];exact z
 have r:∀b o,s.heap.get? b=some o->J.get? b=some o:=fun b o e=>A b o (old _ _ e).2 (old _ _ e).1
 refine⟨.ref B,_,I.laid (t':=s.toks) (o:=.lst ((pm.map fun i=>ss.getD i ⟨#[]⟩).map V.str)) r g ⟨?_,_,_,?_,C⟩,rfl,q _ B ?_ ?_ (I.hok.fresh g)⟩
 ·rw[aa,aa,c.length_eq,bO,aR];omega
 ·have go:∀l:List Nat,(∀i∈l,i<ss.length)->zM ((l.map fun i=>ss.getD i ⟨#[]⟩).map V.str) (l.map fun i=>its.getD i Value.none):=by
   intro l
   induction l with
   |nil=>intro _;exact .nil
   |cons i l ih=>
    intro t
    have hi:i<ss.length:=t i (aj ..)
    refine .cons ?_ (ih fun j U=>t j (ar _ U))
    obtain⟨u,D,L⟩:=v.get (i:=i) (x:=.str (ss.getD i ⟨#[]⟩)) (by rw[aq];simp[hi])
    have W:its.getD i Value.none=u:=by rw[bN,D];rfl
    show zQ (.str (ss.getD i ⟨#[]⟩)) (its.getD i Value.none)
    rw[W]
    exact L
  exact go pm fun i hi=>bX.mp (c.mem_iff.mp hi)
 ·have D:(ba ss.length).map (fun i=>ss.getD i (⟨#[]⟩:Str))=ss:=by
   apply iG
   ·simp
   ·intro i Y J
    have hi:i<ss.length:=by simpa using Y
    simp[hi]
  have:=c.map (fun i=>ss.getD i (⟨#[]⟩:Str))
  rw[D]at this
  exact this
 ·rw[cx]
  rw[cx]at n
  exact n
end
abbrev u8 (es:Array (Int×ag))(ep:Nat)(t:jz):Obj:={cls:=.type "set",dict:=none,data:=.set es ep t}
section
variable{prog:aJ}{w:aV}{A:bM}{E:ag->av->Prop}{s:av}
theorem zOV {h:bC}{a:ah}{c b:Array (Int×ag)}{ep:Nat}{t t':jz}(d:h.get? a=some (u8 c ep t)):(h.update a (sO b t')).get? a=some (u8 b (ep+1) t'):=by
 have:=iD (sO b t') d rfl
 exact this
abbrev u9 (w:aV):Obj:=u8 #[] 0 (.fresh 0 0 (!w.params.followText "set-order"))
theorem zOW (a:ag){Q₁:ag->av->Prop}(h:Q₁ (.ref s.heap.objs.size) {s with heap:=s.heap.push (u9 w)}) :
  codeAny (model prog w) A (.call (.builtin "set.__new__") ⟨[.type "set",a],[]⟩) (wants Q₁ E) s:=by
 refine oY ?_
 show wpAny _ A.in1 (do checkBuiltinCall "set.__new__" ⟨[.type "set",a],[]⟩;again (.builtin "set.__new__" ⟨[.type "set",a],[]⟩)) _ _ s
 refine aw (wpAny_of_eq (F.newCall_set_1 a) (aH ⟨fI oZ _,dE F.entry_set_new ?_⟩))
 rw[di oZ _]
 unfold dk.«set.__new__» pI
 have b:=sub_set_self
 obtain⟨c,g,d,tk,os⟩:=s
 dsimp only
 wp_walk
 refine lG (aH ?_)
 dsimp only
 simp only[newObj]
 refine aw (wpAny_alloc (aH ?_))
 exact aH h
end
theorem zIC:Manifest.owners.lookup (String.ofList ['r','o','t','a','r','e','t','i','_','t','e','s'].reverse)=some Manifest.sig_set_iterator:=by kernel_rfl
theorem zCE:Slot "set_iterator" "__next__" "set_iterator.__next__" :=
 .of (owner :="set_iterator") (n :="__next__") (by rw[mx,iE];kernel_rfl) (by decide+kernel) (by decide+kernel) (by decide+kernel)
  (by first|exact .inl (by decide+kernel)|exact .inr (by decide+kernel)) (by rw[ix];kernel_rfl)
theorem zOX:entryFor table "set_iterator.__next__"=some dk.«set_iterator.__next__»:=oD (by kernel_rfl)
theorem zOY (a:ag):argsOk "set_iterator.__next__" ⟨[a],[]⟩:=by
 unfold argsOk;rw[qt (id :="set_iterator.__next__") (n:=['_','_','t','x','e','n','_','_']) (o:=['r','o','t','a','r','e','t','i','_','t','e','s']) (by kernel_rfl) zIC];kernel_rfl
theorem zID:Slot "set_iterator" "__iter__" "set_iterator.__iter__" :=
 .of (owner :="set_iterator") (n :="__iter__") (by rw[mx,iE];kernel_rfl) (by decide+kernel) (by decide+kernel) (by decide+kernel)
  (by first|exact .inl (by decide+kernel)|exact .inr (by decide+kernel)) (by rw[ix];kernel_rfl)
theorem zOZ:entryFor table "set_iterator.__iter__"=some dk.«dict_keyiterator.__iter__» :=
 mX (id' :="dict_keyiterator.__iter__") (by kernel_rfl) (by first|rfl|decide+kernel|(unfold pJ;simp+decide [oj])) (by decide+kernel) (by kernel_rfl)
theorem zOa (a:ag):argsOk "set_iterator.__iter__" ⟨[a],[]⟩:=by
 unfold argsOk;rw[qt (id :="set_iterator.__iter__") (n:=['_','_','r','e','t','i','_','_']) (o:=['r','o','t','a','r','e','t','i','_','t','e','s']) (by kernel_rfl) zIC];kernel_rfl
theorem zOb:entryFor table "set.__iter__"=some dk.«frozenset.__iter__» :=
 mX (id' :="frozenset.__iter__") (by kernel_rfl) (by first|rfl|decide+kernel|(unfold pJ;simp+decide [oj])) (by decide+kernel) (by kernel_rfl)
abbrev zBD (f:ag)(i:Nat)(a:ah)(n ep:Nat):Obj:={cls:=.type "set_iterator",dict:=none,data:=.fields #[f,.int i 0,.ref a,.int n 0,.int ep 0]}
section
variable{prog:aJ}{w:aV}{A:bM}{E:ag->av->Prop}{s:av}
theorem zOc {Q:Option ag->av->Prop}{R:oB->av->Prop}(c:A.handled=none)(d:∀h',(∀b o,s.heap.get? b=some o->h'.get? b=some o)->Q none {s with heap:=h'}) :
  wpAny (model prog w) A.in1 (do let e<-newExc (.type "StopIteration") [];raiseNew e) R (fun e s'=>wpAny (model prog w) A (do let b<-isInstance e (.type "StopIteration");if b=true then pure none else throw e) Q E s') s:=by
 refine aw ?_
 simp only[newExc,newTuple]
 refine aw (dR ?_ (by size_fits))
 refine aw (m:=firstArgMember _ _) (wpAny_of_eq (a:=Value.none) (by first|rfl|(simp only[firstArgMember];rfl)) ?_)
 refine dR ?_ (by size_fits)
 simp only[raiseNew]
 refine aw (wpAny_handled ?_)
 rw[show A.in1.handled=none from c]
 refine aw (aH (wpAny_throw ?_))
 refine aw (oJ (T :="StopIteration") (b:=true) ⟨_,aM _ rfl,rfl⟩ isSubtype_stop ?_)
 exact aH (d _ fun b o e=>ai _ (ai _ e))
theorem zCF {Q:Bool->av->Prop}(h:Q (w.params.followText "set-order") s):wpAny (model prog w) A setsByText Q E s:=by
 unfold setsByText
 exact aw (lG (aH h))
theorem zOd {a:ah}{ep:Nat}{b:Array (Int×ag)}{t:jz}{Q:Array (Int×ag)->av->Prop}(c:s.heap.get? a=some (u8 b ep t))(d:t.fits b.size=true)(e:w.params.followText "set-order"=true)(h:Q (pickOrder (w.params.setOrder a ep) b) s) :
  wpAny (model prog w) A (setWalk a) Q E s:=by
 unfold setWalk
 refine aw (fL c rfl d ?_)
 dsimp only
 refine aw (zCF ?_)
 rw[e]
 exact aw (lG (aH h))
theorem zCG {I a:ah}{f i ep:Nat}{d:Array (Int×ag)}{t:jz}{r:Option (ag×Nat)}{Q:Option ag->av->Prop}(q:A.handled=none)
  (hi:s.heap.get? I=some (zBD (.int f 0) i a d.size ep)) (u:s.heap.get? a=some (u8 d ep t)) (v:t.fits d.size=true)
  (y:∀(A:bM) (E:ag->av->Prop) (Q:Option (ag×Nat)->av->Prop),Q r s->wpAny (model prog w) A (setNext a f i ep) Q E s)
  (g:∀x j,r=some (x,j)->∀h',h'.get? I=some (zBD (.int j 0) (i+1) a d.size ep)->ie I s.heap h'->Q (some x) {s with heap:=h'})
  (h:r=none->∀h',(∀b o,b≠I->s.heap.get? b=some o->h'.get? b=some o)->Q none {s with heap:=h'}) :
  wpAny (model prog w) A (pyNext (.ref I)) Q E s:=by
 have ty:s.TypeIs (.ref I) "set_iterator" :=⟨_,hi,rfl⟩
 unfold pyNext
 refine aw (wpAny_attempt (wpAny_callSpecial?_slot (name:=l9 "__next__") ty zCE (d9 zCE ty zOX ?_ (zOY _))))
 unfold dk.«set_iterator.__next__»
 refine aw (m:=slotArgs "__next__" 0 _) (aH ?_)
 refine aw (wpAny_fieldsOf hi rfl ?_)
 dsimp only
 refine aw (nu u rfl v ?_)
 rw[if_neg (by simp)]
 rw[ik,ik,ik]
 refine aw (y _ _ _ ?_)
 match r,g,h with
 |none,_,h=>
  dsimp only
  refine aw (ka hi (by simp) fun l p c=>?_)
  exact zOc (s:={s with heap:=l}) q fun z ex=>h rfl z fun b o B e=>ex b o ((c.2 b B).trans e)
 |some (x,j),g,_=>
  dsimp only
  refine aw (ka hi (by simp) fun l p c=>?_)
  refine aw (ka (s:={s with heap:=l}) p (by simp) fun C D n=>?_)
  exact aH ⟨_,rfl,aH (g x j rfl C (by rw[D];rfl) (c.trans n))⟩
theorem zIE {a:ah}{f i ep:Nat}{b:Array (Int×ag)}{t:jz}{Q:Option (ag×Nat)->av->Prop}(c:s.heap.get? a=some (u8 b ep t))(d:t.fits b.size=true)(g:w.params.followText "set-order"=true)
  (h:Q (((pickOrder (w.params.setOrder a ep) b)[i]?).map fun e=>(e.2,f)) s):wpAny (model prog w) A (setNext a f i ep) Q E s:=by
 unfold setNext
 refine aw (fL c rfl d ?_)
 dsimp only
 refine aw (zCF ?_)
 rw[g,if_pos rfl,if_neg (by simp)]
 refine aw (zOd c d g ?_)
 exact aH h
theorem zIF {α:Type}:∀{l:List α}{i:Nat} (h:i<l.length),(l[i]::l.eraseIdx i).Perm l
 |x::l,0,h=>iq _
 |x::l,i+1,h=>by
  have q:=zIF (l:=l) (i:=i) (by simpa using h)
  exact(List.Perm.swap ..).trans (q.cons x)
theorem zEP {α:Type}(next:Nat->Nat)(xs:Array α):(pickOrder next xs).toList.Perm xs.toList:=by
 have go:∀(a k:Nat) (left:List α) (out:Array α),left.length=a->(om next a k left out).toList.Perm (out.toList++left):=by
  intro a
  induction a with
  |zero=>
   intro k left out e
   rw[cw.mp e]
   simp[om]
  |succ a ih=>
   intro k left out e
   have lt:next k%left.length<left.length:=sN _ (by omega)
   unfold om
   rw[aG lt]
   dsimp only
   refine(ih _ _ _ (by rw[List.length_eraseIdx_of_lt lt,e];rfl)).trans ?_
   rw[nP,eE]
   refine rJ _ ?_
   exact zIF lt
 have:=go xs.size 0 xs.toList #[] rfl
 simpa [pickOrder]using this
theorem zIG {I:ah}{f:ag}{i:Nat}{a:ah}{n ep:Nat}{Q:ag->av->Prop}(hi:s.heap.get? I=some (zBD f i a n ep))(h:Q (.ref I) s):wpAny (model prog w) A (pyIter (.ref I)) Q E s:=by
 have ty:s.TypeIs (.ref I) "set_iterator" :=⟨_,hi,rfl⟩
 refine ku ty zID (d9 zID ty zOZ ?_ (zOa _))
 show wpAny _ _ (ret (.ref I)) _ _ s
 exact aH ⟨_,rfl,"set_iterator",_,ty,zCE.lookup,h⟩
theorem zOe {I a:ah}{ep:Nat}{c:Array (Int×ag)}{t:jz}(n:A.handled=none)(ne:a≠I)(l:t.fits c.size=true)(d:w.params.followText "set-order"=true) :
  Walks prog w A I [I,a] [I] c.size (fun i v=>((pickOrder (w.params.setOrder a ep) c).toList.map (·.2))[i]?=some v) (fun i h=>h.get? I=some (zBD (.int 0 0) i a c.size ep)/\h.get? a=some (u8 c ep t)) where
 sub:=fun b d=>by simp at d;simp[d]
 frame:=fun _ _ _ st p=>⟨p I (by simp) _ st.1,p a (by simp) _ st.2⟩
 item:=fun i s Q E lt st g=>by
  have m:(pickOrder (w.params.setOrder a ep) c).size=c.size:=by rw[<-bD,(zEP _ c).length_eq,bD]
  have li:i<(pickOrder (w.params.setOrder a ep) c).size:=by rw[m];exact lt
  refine zCG (f:=0) (r:=some ((pickOrder (w.params.setOrder a ep) c)[i].2,0)) n st.1 st.2 l (fun A E Q q=>zIE st.2 l d (by rw[dF li];exact q)) (fun x j e h' y u=>?_) (fun e=>nomatch e)
  injection e with e
  injection e with z B
  subst z B
  refine g _ h' s.toks ?_ ⟨y,(u.2 a ne).trans st.2⟩ fun b o d e=>(u.2 b (by simpa using d)).trans e
  rw[aq,eA,dF li];rfl
 done:=fun s Q E st g=>by
  have m:(pickOrder (w.params.setOrder a ep) c).size=c.size:=by rw[<-bD,(zEP _ c).length_eq,bD]
  refine zCG (f:=0) (r:=none) n st.1 st.2 l (fun A E Q q=>zIE st.2 l d (by rw[ma (by rw[m];exact aD _)];exact q)) (fun _ _ e=>nomatch e) (fun _ h' k=>?_)
  exact g h' s.toks fun b o d e=>k b o (by simpa using d) e
 self:=fun _ _ _ _ st g=>zIG st.1 g
theorem zOf:typeLookup (.type "set") "__len__"=pure (some (.builtin "set.__len__")):=by rw[mx,iE];kernel_rfl
theorem zOg {r:ah}{Q:Bool->av->Prop}(d:s.TypeIs (.ref r) "set")(h:Q false s):wpAny (model prog w) A (jh (.ref r)) Q E s:=by
 unfold jh
 refine aw (oS d zOf ?_)
 generalize c:("set.__len__" : String)=e
 wp_delta
 rw[show splitId e=some ("set","__len__")from by subst c;decide+kernel]
 subst c
 refine aw (oJ (T :="set") (b:=true) d (by rw[ix];kernel_rfl) ?_)
 refine gp (fun a=>absurd a (by decide)) (fun _=>?_)
 refine gp (fun _=>?_) (fun a=>absurd (by decide+kernel) a)
 refine aw (lY d ?_)
 exact aH h
end
section
open MyS PySem.W
variable{X:Cx}{pins:List (ah×Obj)}{σ:List (Option V)}{H:Hp}{s:av}
theorem Inv.draw {h':bC}{tk:Nat}{d:rQ}(I:Inv X pins σ H {s with heap:=h',toks:=tk}):Inv X pins σ H {s with heap:=h',toks:=tk,drawn:=d} :=
 ⟨I.ok,I.os,I.bare,I.base,I.loc,I.cell,I.free,I.freeC,I.pin,I.hok,I.len⟩
theorem Inv.grown {h':bC}{tk:Nat}(I:Inv X pins σ H s)(k:∀b u,s.heap.get? b=some u->h'.get? b=some u):Inv X pins σ H {s with heap:=h',toks:=tk} :=
 I.un (Un.kept k) (I.hok.kept k)
end
open MyS PySem.W
section
variable{prog:aJ}{w:aV}{A:bM}{E:ag->av->Prop}{s:av}
theorem zOh:isSubtype (.type "list") (.type "set")=pure false:=by
 rw[ix];kernel_rfl
theorem zOi:isSubtype (.type "list") (.type "frozenset")=pure false:=by
 rw[ix];kernel_rfl
end
open MyS PySem.W
theorem isInt_shape {k:Int}{v:ag}(h:eG k v=true):∃t,v=Value.int k t:=by
 cases v with
 |int i t=>exact⟨t,by rw[eq_of_beq (show(i==k)=true from h)]⟩
 |_=>exact absurd (show false=true from h) aY
theorem zOj {k:Int}{x:ag}(h:eG k x=true):x.scannable=true:=by
 obtain⟨t,rfl⟩:=isInt_shape h;rfl
def num:ag->Int
 | .int x _=>x
 |_=>0
theorem zIH {k:Int}{x:ag}(h:eG k x=true):num x=k:=by
 obtain⟨t,rfl⟩:=isInt_shape h;rfl
abbrev zBE (es:Array (Int×ag)):List Int:=es.toList.map fun e=>num e.2
def vA (P:List Nat)(L:Bool):jz:={mask:=7,place:=P.toArray,dummies:=#[],finger:=0,led:=L,moves:=0,plain:=true}
def kM:List (List Nat):=[[],[1],[2],[3],[4],[1,2],[1,3],[1,4],[2,3],[2,4],[3,4],[1,2,3],[1,2,4],[1,3,4],[2,3,4]]
def jN (k:Nat)(P:List Nat):List Nat:=P.filter (· <k)++k::P.filter (k< ·)
def kN (k:Nat)(P:List Nat):Nat:=(P.filter (· <k)).length
theorem zII:∀P∈kM,∀k∈[1,2,3,4],∀L:Bool,k∉P->P.length<=2->(vA P L).freeSlot (k:Int)=some (k,false)/\(vA P L).put k=(vA (jN k P) L,kN k P)/\jN k P∈kM/\(jN k P).length=P.length+1:=by decide+kernel
theorem zIJ:∀P∈kM,∀i∈ba (P.length+1),iy P.toArray (if i=0 then 0 else P.getD (i-1) 0+1)=i:=by decide+kernel
theorem gF:∀P∈kM,P.length<=3/\P.Pairwise (· < ·):=by decide+kernel
theorem zEQ {α:Type}(xs:Array α)(p:Nat)(x:α)(a:p<=xs.size):(eR xs p x).toList=xs.toList.take p++x::xs.toList.drop p:=by
 unfold eR
 simp
 exact ir (by rw[cQ,bD];exact aD _)
theorem zOk {P:List Nat}{k:Nat}{L:Bool}{a:Array (Int×ag)}{x:ag}(c:P∈kM)(d:k∈[1,2,3,4])(e:k∉P)(f:P.length<=2)(g:a.size=P.length) :
  layNew (vA P L) a (k:Int) x=(eR a (kN k P) ((k:Int),x),vA (jN k P) L,false,false):=by
 obtain⟨f1,f2,i,h⟩:=zII P c k d L e f
 have hi:kN k P<=a.size:=by rw[g];exact bj ..
 have sz:(eR a (kN k P) ((k:Int),x)).size=P.length+1:=by
  rw[<-bD,zEQ _ _ _ hi,aE,bg,aO,cQ,bD];omega
 have b:(vA (jN k P) L).fits (P.length+1)=true:=by
  unfold nE lx vA
  simp[h]
  omega
 unfold layNew
 rw[f1]
 dsimp only
 rw[f2]
 dsimp only
 rw[sz]
 unfold SetTable.orStandIn
 rw[if_pos b,b];rfl
def qA (prog:aJ)(w:aV)(h:bC)(a:ah)(P:List Nat):Prop:=P∈kM/\∃es ep,h.get? a=some (u8 es ep (vA P (!w.params.followText "set-order")))/\ElemsOf (fJ prog w) es.toList/\zBE es=P.map fun(i:Nat)=>(i:Int)
def vQ (P:List Nat)(k:Nat):List Nat:=if k∈P then P else jN k P
section
variable{prog:aJ}{w:aV}{A:bM}{E:ag->av->Prop}{s:av}
theorem zOl {a:ah}{P:List Nat}{k:Nat}{x:ag}{Q:Bool->av->Prop}(f:eG (k:Int) x=true)(M:k∈[1,2,3,4])(U:qA prog w s.heap a P)(o:k∉P->P.length<=2)
  (h:∀b h',ie a s.heap h'->qA prog w h' a (vQ P k)->Q b {s with heap:=h'}) :
  wpAny (model prog w) A (setAddHashed a x (hashInt (k:Int))) Q E s:=by
 obtain⟨G,g,ep,H,n,d⟩:=id U
 have hsz:g.size=P.length:=by
  have:=congrArg iL d
  rw[aa,aa,bD]at this;exact this
 have l3:=(gF P G).1
 have hb:g.size<scanBound:=by unfold scanBound;omega
 have W:(vA P (!w.params.followText "set-order")).fits g.size=true:=by
  unfold nE lx vA
  simp[hsz]
  omega
 have p:=zOj f
 have e:s={s with heap:=s.heap}:=by cases s;rfl
 have X:hashInt (k:Int)=(k:Int):=by
  have:∀j∈[1,2,3,4],hashInt ((j:Nat):Int)=(j:Int):=by decide+kernel
  exact this k M
 unfold setAddHashed setAddHashedIn
 refine dH (aw (fL H rfl W ?_))
 dsimp only
 rw[byScan_of (knd:=fJ prog w) p hb n]
 simp only[↓reduceIte]
 unfold setAddByScan
 refine aw ?_
 refine aw (nJ ?_)
 refine aw (wpAny_setScan_of (knd:=fJ prog w) (k:=(k:Int)) f H rfl W n ?_)
 cases Y:List.findIdx? (fun e=>(fJ prog w).is (k:Int) e.2) g.toList with
 |some j=>
  dsimp only
  obtain⟨hj,N,_⟩:=List.findIdx?_eq_some_iff_getElem.mp Y
  refine aH (aH ?_)
  rw[e]
  refine h _ s.heap (sR a s.heap) ?_
  have B:(k:Int)∈zBE g:=az.mpr ⟨g.toList[j],dh hj,zIH N⟩
  rw[d]at B
  obtain⟨i,hi,I⟩:=az.mp B
  have:i=k:=by omega
  subst this
  unfold vQ
  rw[if_pos hi];exact U
 |none=>
  dsimp only
  have l:k∉P:=fun q=>by
   have q2:(k:Int)∈zBE g:=by rw[d];exact az.mpr ⟨k,q,rfl⟩
   obtain⟨y,u,q3⟩:=az.mp q2
   obtain⟨⟨k',C,_⟩,_⟩:=n y u
   have I:k'=(k:Int):=(zIH C).symm.trans q3
   have:=List.findIdx?_eq_none_iff.mp Y y u
   rw[<-I,C]at this
   cases this
  obtain⟨f1,f2,f3,f4⟩:=zII P G k M (!w.params.followText "set-order") l (o l)
  have D:=zOk (L:=!w.params.followText "set-order") (x:=x) G M l (o l) hsz
  have hi:kN k P<=g.size:=by rw[hsz];exact bj ..
  rw[X]
  change wpAny _ _ (match layNew (vA P (!w.params.followText "set-order")) g (k:Int) x with|(g,t,v,Z)=>_) _ _ _
  rw[D]
  dsimp only
  have O:∀{s₁:av} {Q':Unit->av->Prop},Q' () s₁->wpAny (model prog w) A (match false with|true=>rule "set.scan.the-table-gave-way"|false=>pure ()) Q' E s₁:=fun hq=>aH hq
  refine aw (O ?_)
  rw[if_pos (show(vA (jN k P) (!w.params.followText "set-order")).plain=true from rfl)]
  have sz:(eR g (kN k P) ((k:Int),x)).size=P.length+1:=by
   rw[<-bD,zEQ _ _ _ hi,aE,bg,aO,cQ,bD];omega
  have R:=f
  obtain⟨tk,rfl⟩:=isInt_shape f
  refine aw ?_
  rw[hashByValue_scannable 8 p]
  refine aH ?_
  have nt:(vA (jN k P) (!w.params.followText "set-order")).tooFull=false:=by
   unfold SetTable.tooFull lx vA
   simp[f4]
   omega
  have pk:plainKind (Value.int (k:Int) tk)=true:=rfl
  simp only[pk,↓reduceIte,nt,pB,er]
  refine aw (wpAny_storeSet_of H rfl ?_ (ky (by rw[sz];unfold scanBound;omega)))
  refine aH (aH ?_)
  refine h _ _ (sE s.heap a _) ?_
  unfold vQ
  rw[if_neg l]
  have m:=zEQ g (kN k P) ((k:Int),Value.int (k:Int) tk) hi
  refine⟨f3,_,_,zOV H,?_,?_⟩
  ·have hp:(eR g (kN k P) ((k:Int),Value.int (k:Int) tk)).toList.Perm (g.toList++[((k:Int),Value.int (k:Int) tk)]):=by
    rw[m]
    refine List.perm_middle.trans ?_
    rw[List.take_append_drop]
    exact(List.perm_append_singleton _ _).symm
   have J:=ElemsOf.push (knd:=fJ prog w) (k:=(k:Int)) (x:=Value.int (k:Int) tk) n R p
   have o:(fJ prog w).hash (k:Int)=(k:Int):=X
   rw[o]at J
   exact J.perm hp
  ·unfold zBE at d⊢
   rw[m,aC,aF,d6,qv,d]
   have hs:=(gF P G).2
   unfold jN kN
   rw[aC,aF]
   have t1:∀P:List Nat,P.Pairwise (· < ·)->k∉P->P.take (P.filter (· <k)).length=P.filter (· <k)/\P.drop (P.filter (· <k)).length=P.filter (k< ·):=by
    intro P
    induction P with
    |nil=>intro _ _;exact⟨rfl,rfl⟩
    |cons a r ih=>
     intro J o
     obtain⟨h3,h4⟩:=c9.mp J
     have F:=ih h4 fun z=>o (ar _ z)
     by_cases c:a<k
     ·have T:¬k<a:=by omega
      simp only[d8,c,T,decide_true,decide_false,if_true,er,if_false,bg,List.take_succ_cons,List.drop_succ_cons]
      exact⟨by rw[F.1],F.2⟩
     ·have T:k<a:=by have:a≠k:=fun z=>o (by rw[z];exact aj ..);omega
      have e0:r.filter (· <k)=[]:=List.filter_eq_nil_iff.mpr fun y u=>by have:=h3 y u;simp;omega
      have I:r.filter (k< ·)=r:=List.filter_eq_self.mpr fun y u=>by have:=h3 y u;simp;omega
      simp only[d8,c,T,decide_true,decide_false,if_true,er,if_false,e0,I]
      exact⟨rfl,rfl⟩
   obtain⟨u1,u2⟩:=t1 P hs l
   rw[<-d6,<-qv,u1,u2]
   rfl
end
theorem qA.stay {prog:aJ}{w:aV}{h h':bC}{S:ah}{P:List Nat}(x:qA prog w h S P)(e:∀o,h.get? S=some o->h'.get? S=some o):qA prog w h' S P:=by
 obtain⟨a,b,ep,c,r⟩:=x
 exact⟨a,b,ep,e _ c,r⟩
def qN (ks:List Nat):List Nat:=ks.foldl vQ []
theorem zOm (P:List Nat)(k x:Nat):x∈vQ P k↔x∈P\/x=k:=by
 unfold vQ
 split
 ·rename_i h
  exact⟨.inl,fun z=>z.elim id fun e=>by rw[e];exact h⟩
 ·rename_i h
  unfold jN
  rw[bG,aL,aQ,aQ]
  simp only[decide_eq_true_eq]
  constructor
  ·rintro(z|z|z)
   ·exact .inl z.1
   ·exact .inr z
   ·exact .inl z.1
  ·rintro(z|z)
   ·rcases Nat.lt_trichotomy x k with c|c|c
    ·exact .inl ⟨z,c⟩
    ·exact .inr (.inl c)
    ·exact .inr (.inr ⟨z,c⟩)
   ·exact .inr (.inl z)
theorem zER (x:Nat):∀(ks P:List Nat),x∈ks.foldl vQ P↔x∈P\/x∈ks
 | [],P=>by simp
 |k::ks,P=>by
  rw[cn,zER x ks,zOm,aL,or_assoc]
section
variable{prog:aJ}{w:aV}{A:bM}{R:oy->av->Prop}{I:ah}{fp wr:List ah}{G:Array mJ->Array mJ->Prop}{P:Nat->ag->Prop}{St:Nat->av->Prop}
theorem zIK:∀(l L:List Nat),l.Nodup->(∀x∈l,x∈L)->l.length<=L.length
 | [],L,_,_=>bQ _
 |x::l,L,b,c=>by
  have d:=c x (aj ..)
  have f:=zIK l (L.erase x) (bE.mp b).2 fun y e=>by
   have a:y≠x:=fun z=>(bE.mp b).1 (by rw[<-z];exact e)
   exact(iR a).mpr (c y (ar _ e))
  rw[gh d]at f
  have:=fB d
  rw[bg];omega
theorem zOn {ks:List Nat}(W:WalksS prog w A.in1 I fp wr G ks.length P St)(S:ah)(E:S∉fp)(L:∀i v,P i v->eG ((ks.getD i 0:Nat):Int) v=true)(M:∃D:List Nat,D.length<=3/\∀k∈ks,k∈D)(N:∀k∈ks,k∈[1,2,3,4]) :
  ∀(m i:Nat) (s:av),ks.length-i=m->i<=ks.length->St i s->qA prog w s.heap S (qN (ks.take i))->
   (∀s',Moved (S::wr) G s s'->qA prog w s'.heap S (qN ks)->R (.ok (.ret .none)) s')->
   codeAny (model prog w) A (.builtin "set.update.loop" ⟨[.ref S,.ref I],[]⟩) R s:=by
 have F:S∉wr:=fun z=>E (W.sub _ z)
 have more:∀b∈wr,b∈S::wr:=fun b z=>ar _ z
 intro m
 induction m with
 |zero=>
  intro i s O Q st x j
  obtain rfl:i=ks.length:=by omega
  refine dE lH ?_
  rw[di ia _]
  refine aw (m:=pyNext (.ref I)) (W.done s _ _ st fun s' c=>?_)
  rw[aU]at x
  exact aH (j s' (c.mono more) (x.stay fun o l=>c.heap S _ F l))
 |succ m ih=>
  intro i s O Q st x j
  have lt:i<ks.length:=by omega
  refine dE lH ?_
  rw[di ia _]
  refine aw (m:=pyNext (.ref I)) (W.item i s _ _ lt st fun v s' T n c=>?_)
  have H:=L i v T
  have U:=x.stay fun o l=>c.heap S _ F l
  have p:ks.getD i 0∈ks:=by rw[bN,aG lt];exact dh lt
  have d:ks.getD i 0∉qN (ks.take i)->(qN (ks.take i)).length<=2:=fun r=>by
   obtain⟨D,X,f⟩:=M
   have t:(ks.getD i 0::qN (ks.take i)).Nodup:=bE.mpr ⟨r,(gF _ x.1).2.imp fun{a b} h z=>by omega⟩
   have:=zIK (ks.getD i 0::qN (ks.take i)) D t fun y Y=>by
    rcases aL.mp Y with e|e
    ·rw[e];exact f _ p
    ·rcases(zER y (ks.take i) []).mp e with z|z
     ·cases z
     ·exact f _ (cz z)
   rw[bg]at this
   omega
  have u:ks.getD i 0∈[1,2,3,4]:=N _ (by rw[bN,aG lt];exact dh lt)
  refine aw (m:=holding [v] (setAdd S v)) (dH ?_)
  unfold setAdd
  refine dH (aw ((fJ prog w).pyHash (k:=((ks.getD i 0:Nat):Int)) H ?_))
  refine zOl (s:={s' with toks:=s'.toks+1}) H u U d fun b h' J y=>?_
  have Z:ks.take (i+1)=ks.take i++[ks.getD i 0]:=by
   rw[ak lt];simp[lt]
  have y':qA prog w h' S (qN (ks.take (i+1))):=by
   unfold qN at y⊢
   rw[Z,cI]
   exact y
  refine aH ⟨fI ia _,ih (i+1) _ (by omega) lt (W.frame _ s' _ _ n (oP _) fun b B o e=>?_) y' fun C g z=>?_⟩
  ·exact(J.2 b (fun q=>E (by rw[<-q];exact B))).trans e
  ·refine j C (Moved.trans W.gtrans ((c.mono more).then_heap (oP _) fun b o B e=>?_) g) z
   exact(J.2 b (fun q=>B (by rw[q];exact aj))).trans e
end
section
variable{prog:aJ}{w:aV}{A:bM}{E:ag->av->Prop}{s:av}
theorem zOo (prog:aJ)(w:aV){h:bC}{a:ah}(e:h.get? a=some (u9 w)):qA prog w h a [] :=
 ⟨by decide,#[],0,e,(fun _ q=>nomatch q),rfl⟩
theorem zOp {F:bM}{R:oy->av->Prop}{l:ah}{items:Array ag}{ks:List Nat}(G:A.handled=none)(hl:s.heap.IsList l items)(d:items.size=ks.length)(H:∀i v,items[i]?=some v->eG ((ks.getD i 0:Nat):Int) v=true)(m:∃D:List Nat,D.length<=3/\∀k∈ks,k∈D)(I:∀k∈ks,k∈[1,2,3,4])
  (J:∀h' tk,qA prog w h' s.heap.objs.size (qN ks)->(∀b o,b<s.heap.objs.size->s.heap.get? b=some o->h'.get? b=some o)->R (.ok (.ret .none)) {s with heap:=h',toks:=tk}) :
  wpAny (model prog w) A (dk.«set.__init__» ⟨[.ref s.heap.objs.size,.ref l],[]⟩) (fun fin s'=>match fin with| .done f=>R (.ok f) s'| .again u=>u.quiet=true/\codeAny (model prog w) F u R s') (fun e s'=>R (.error e) s') {s with heap:=s.heap.push (u9 w)}:=by
 have new:(s.heap.push (u9 w)).get? s.heap.objs.size=some (u9 w):=aM _ rfl
 have ty:lp {s with heap:=s.heap.push (u9 w)} (.ref s.heap.objs.size) "set" :=⟨_,new,rfl⟩
 obtain⟨ol,g,h,nl,j⟩:=id hl
 obtain⟨y,c,p,a⟩:=ol
 simp only at h j
 subst h;subst j
 have old:(s.heap.push (u9 w)).get? l=some {cls:=.type "list",dict:=c,data:=.seq items nl,slots:=a}:=ai _ g
 have P:=zOh
 have Q:=zOi
 have T:(Value.type "list"==Value.type "dict")=false:=by decide
 have z:(s.heap.push (u9 w)).IsList l items:=⟨_,old,rfl,nl,rfl⟩
 unfold dk.«set.__init__» noKeywords o2
 generalize q:pyIter=PI
 wp_walk
 subst q
 refine fK z (aw (pK ?_))
 have B:l<s.heap.objs.size:=aI g
 have L:A.in1.handled=none:=by simp[G]
 have ne:l≠(s.heap.push (u9 w)).objs.size:=by
  rw[eu]
  exact bf (cX B)
 have M:s.heap.objs.size∉ [(s.heap.push (u9 w)).objs.size,l]:=by
  rw[eu]
  simp only[aL,b8,iI,or_false,not_or]
  exact⟨bf (fh _),eI B⟩
 have C:=(nM (prog:=prog) (w:=w) (A:=A.in1) L _ l ne items).toS
 rw[d]at C
 refine zOn C s.heap.objs.size M H m I (ks.length-0) 0 _ (by omega) (bQ _) ?st0 ?x0 fun s' n x=>?_
 case st0=>exact⟨⟨_,aM _ rfl,rfl,rfl⟩,z.push _⟩
 case x0=>exact zOo prog w (ai _ new)
 obtain⟨h',g',d',r,t⟩:=s'
 obtain rfl:g'=s.gens:=n.gens
 obtain rfl:d'=s.drawn:=n.drawn
 obtain rfl:t=s.os:=n.os
 refine aH ?_
 refine aH (J h' r x fun b o m e=>?_)
 have N:b≠s.heap.objs.size:=bf m
 have O:b≠(s.heap.push (u9 w)).objs.size:=by
  rw[eu]
  exact bf (cX m)
 refine n.heap b o ?_ (ai _ (ai _ e))
 simp only[aL,b8,iI,or_false,not_or]
 exact⟨N,O⟩
theorem zOq {l:ah}{items:Array ag}{ks:List Nat}{Q:ag->av->Prop}(j:A.handled=none)(hl:s.heap.IsList l items)(d:items.size=ks.length)(m:∀i v,items[i]?=some v->eG ((ks.getD i 0:Nat):Int) v=true)(n:∃D:List Nat,D.length<=3/\∀k∈ks,k∈D)(p:∀k∈ks,k∈[1,2,3,4])
  (h:∀h' tk,qA prog w h' s.heap.objs.size (qN ks)->(∀b o,b<s.heap.objs.size->s.heap.get? b=some o->h'.get? b=some o)->Q (.ref s.heap.objs.size) {s with heap:=h',toks:=tk}) :
  wpAny (model prog w) A (call (.type "set") [.ref l]) Q E s:=by
 obtain⟨y,t,z⟩:=fC.mro
 have B:=fC.made
 have C:=fC.sub
 refine ph (oY (?_:wpAny _ _ (callAny (.type "set") _) _ _ _))
 refine aH (And.intro (nN _ (by decide+kernel)) (dE F.entry_type_call ?_))
 rw[Around.under_plain (weight_type_call_type "set" [Value.ref l] []) rfl]
 have G:=fC.notType
 have H:=fC.canCreate
 have I:=F.typeCall_set_1 (.ref l)
 all_goals (repeat(any_goals (first|assumption|wp_step)))
 refine eJ (zOW (w:=w) (.ref l) (E:=E) (Q₁:=fun v f=>v=.ref s.heap.objs.size/\f={s with heap:=s.heap.push (u9 w)}) ⟨rfl,rfl⟩) fun r f c=>?_
 match r,c with
 | .error e,c=>exact c
 | .ok (.ret v),c=>
  obtain⟨rfl,rfl⟩:=c
  have ty:lp {s with heap:=s.heap.push (u9 w)} (.ref s.heap.objs.size) "set" :=⟨_,aM _ rfl,rfl⟩
  have J:=fC.init.lookup
  have L:=fC.init.bind (.ref s.heap.objs.size)
  all_goals (repeat(any_goals (first|assumption|wp_step)))
  refine eJ (iV (R:=wants (fun q g=>q=.none/\∃h' tk,g={s with heap:=h',toks:=tk}/\qA prog w h' s.heap.objs.size (qN ks)/\∀b o,b<s.heap.objs.size->s.heap.get? b=some o->h'.get? b=some o) E)
   fC.init.plain F.entry_set_init (check_set_init_1 ty (zOp (by simp[j]) hl d m n p fun h' tk x k=>⟨rfl,h',tk,rfl,x,k⟩))) fun u g a=>?_
  match u,a with
  | .error e,a=>exact a
  | .ok (.ret q),a=>
   obtain⟨rfl,h',tk,rfl,x,k⟩:=a
   all_goals (repeat(any_goals (first|assumption|wp_step)))
   exact h _ _ x k
  | .ok .next,a=>exact a.elim
  | .ok .brk,a=>exact a.elim
  | .ok .cont,a=>exact a.elim
 | .ok .next,c=>exact c.elim
 | .ok .brk,c=>exact c.elim
 | .ok .cont,c=>exact c.elim
theorem zIL {a:ah}{f i ep:Nat}{b:Array (Int×ag)}{t:jz}{Q:Option (ag×Nat)->av->Prop}(d:s.heap.get? a=some (u8 b ep t))(e:t.fits b.size=true)(g:w.params.followText "set-order"=false)(hl:t.led=true)(l:t.plain=true)
  (h:Q (match b[iy t.place f]?,t.place[iy t.place f]? with|some (_,x),some j=>some (x,j+1)|_,_=>none) s):wpAny (model prog w) A (setNext a f i ep) Q E s:=by
 unfold setNext
 refine aw (fL d rfl e ?_)
 dsimp only
 refine aw (zCF ?_)
 rw[g,if_neg (by decide)]
 refine gp (fun hd=>?_) (fun _=>?_)
 ·have c:(!t.plain&&decide (b.size>1))=true:=hd
  rw[l]at c
  exact absurd c (by simp)
 ·show wpAny _ _ ((if(!t.led&&!b.isEmpty)=true then unsupported "set:maker-not-led"else pure ())>>=_) _ _ _
  rw[hl,if_neg (by simp)]
  exact aw (aH (aH h))
def zBF (P:List Nat)(i:Nat):Nat:=if i=0 then 0 else P.getD (i-1) 0+1
theorem zOr {I a:ah}{ep:Nat}{c:Array (Int×ag)}{P:List Nat}(m:A.handled=none)(ne:a≠I)(n:P∈kM)(u:c.size=P.length)(l:(vA P true).fits c.size=true)(d:w.params.followText "set-order"=false) :
  Walks prog w A I [I,a] [I] c.size (fun i v=>(c.toList.map (·.2))[i]?=some v) (fun i h=>h.get? I=some (zBD (.int ((zBF P i:Nat):Int) 0) i a c.size ep)/\h.get? a=some (u8 c ep (vA P true))) where
 sub:=fun b d=>by simp at d;simp[d]
 frame:=fun _ _ _ st p=>⟨p I (by simp) _ st.1,p a (by simp) _ st.2⟩
 item:=fun i s Q E lt st g=>by
  have bl:iy (vA P true).place (zBF P i)=i:=zIJ P n i (bX.mpr (by omega))
  have j:i<P.length:=by omega
  have y:(vA P true).place[i]?=some P[i]:=by
   show P.toArray[i]?=_
   simp[j]
  refine zCG (f:=zBF P i) (r:=some (c[i].2,P[i]+1)) m st.1 st.2 l (fun A E Q q=>zIL st.2 l d rfl rfl (by rw[bl,dF lt,y];exact q)) (fun x D e h' z t=>?_) (fun e=>nomatch e)
  injection e with e
  injection e with B C
  subst B C
  refine g _ h' s.toks ?_ ⟨?_,(t.2 a ne).trans st.2⟩ fun b o d e=>(t.2 b (by simpa using d)).trans e
  ·rw[aq,eA,dF lt];rfl
  ·rw[z]
   unfold zBF
   rw[if_neg (by omega),Nat.add_sub_cancel,bN,aG j];rfl
 done:=fun s Q E st g=>by
  have bl:iy (vA P true).place (zBF P c.size)=c.size:=by rw[u];exact zIJ P n P.length (bX.mpr (by omega))
  refine zCG (r:=none) m st.1 st.2 l (fun A E Q q=>zIL st.2 l d rfl rfl (by rw[bl,ma (aD _)];exact q)) (fun _ _ e=>nomatch e) (fun _ h' k=>?_)
  exact g h' s.toks fun b o d e=>k b o (by simpa using d) e
 self:=fun _ _ _ _ st g=>zIG st.1 g
theorem zOs {a:ah}{c:Array (Int×ag)}{Q:ag->av->Prop}(r:A.handled=none){P:List Nat}{ep:Nat}(p:P∈kM)(hsz:c.size=P.length)(f:s.heap.get? a=some (u8 c ep (vA P (!w.params.followText "set-order"))))
  (u:∀(I:ah) (n:bC) (d:rQ) (ord:List ag) (fp:List ah) (St:Nat->bC->Prop),ord.Perm (c.toList.map (·.2))->Walks prog w A I fp [I] c.size (fun i v=>ord[i]?=some v) St->St 0 n->s.heap.objs.size<=I->(∀b∈fp,b=a\/s.heap.objs.size<=b)->
   (∀b∈fp,b<n.objs.size)->(∀b o,s.heap.get? b=some o->n.get? b=some o)->Q (.ref I) {s with heap:=n,drawn:=d}) :
  wpAny (model prog w) A (pyIter (.ref a)) Q E s:=by
 have q:c.size<scanBound:=by have:=(gF P p).1;unfold scanBound;omega
 have h:(vA P (!w.params.followText "set-order")).fits c.size=true:=by
  have:=(gF P p).1
  unfold nE lx vA
  simp[hsz]
  omega
 have ty:s.TypeIs (.ref a) "set" :=⟨_,f,rfl⟩
 have x:a<s.heap.objs.size:=aI f
 refine ku ty mD (d9 mD ty zOb ?_ (PySem.F.args_set_iter_1 _))
 unfold dk.«frozenset.__iter__» rf qw
 refine aw (aw (m:=slotArgs "__iter__" 0 _) (aH (aH ?_)))
 refine aw (aw (nu f rfl h (aH ?_)))
 unfold setDrawn
 refine aw (aw (fL f rfl h ?_))
 dsimp only
 refine aw (zCF (aH ?_))
 have y:c.size<=sizeLine:=ky q
 refine gp (fun hd=>?_) (fun hd=>?_)
 ·exact absurd (show(!w.params.followText "set-order"&& (!true&&decide (c.size>1)))=true from hd) (by simp)
 ·refine aw (aH ?_)
  refine aw (wpAny_setEpoch_of f rfl h ?_)
  refine aw (dR (aH ⟨_,rfl,"set_iterator",_,⟨_,aM _ rfl,rfl⟩,zCE.lookup,?_⟩))
  have ne:a≠s.heap.objs.size:=bf x
  have j:∀b∈[s.heap.objs.size,a],b=a\/s.heap.objs.size<=b:=fun b g=>by
   simp only[aL,iI,or_false]at g
   rcases g with rfl|rfl
   ·exact .inr (aD _)
   ·exact .inl rfl
  have flt:∀(o:Obj),∀b∈[s.heap.objs.size,a],b<(s.heap.push o).objs.size:=fun o b g=>by
   simp only[aL,iI,or_false]at g
   rw[eu]
   rcases g with rfl|rfl
   ·exact fh _
   ·exact cX x
  by_cases g:w.params.followText "set-order"=true
  ·exact u _ _ s.drawn _ _ _ ((zEP _ c).map _) (zOe (a:=a) (ep:=ep) (t:=vA P (!w.params.followText "set-order")) r ne h g) ⟨aM _ rfl,ai _ f⟩ (aD _) j (flt _) fun b o e=>ai _ e
  ·have l:w.params.followText "set-order"=false:=by simpa using g
   rw[l]at f h
   exact u _ _ s.drawn _ _ _ (iq _) (zOr (a:=a) (ep:=ep) r ne p hsz h l) ⟨aM _ rfl,ai _ f⟩ (aD _) j (flt _) fun b o e=>ai _ e
theorem zOt {a:ah}{es:Array (Int×ag)}{R:List ag->av->Prop}(hh:A.handled=none){P:List Nat}{ep:Nat}(hP:P∈kM)(hsz:es.size=P.length)(ho:s.heap.get? a=some (u8 es ep (vA P (!w.params.followText "set-order"))))
  (h:∀h' tk d ord,ord.Perm (es.toList.map (·.2))->(∀b o,s.heap.get? b=some o->h'.get? b=some o)->R ord {s with heap:=h',toks:=tk,drawn:=d}) :
  wpAny (model prog w) A (collect (.ref a)) R E s:=by
 have hbd:es.size<scanBound:=by have:=(gF P hP).1;unfold scanBound;omega
 have la:a<s.heap.objs.size:=aI ho
 unfold collect
 refine aw (pK (dE PySem.F.entry_proto_collect ?_))
 rw[di PySem.F.plain_proto_collect _]
 show wpAny _ A.in1 (newList []>>=fun l=>again (.builtin "list.__iadd__" ⟨[l,.ref a],[]⟩)) _ _ s
 refine aw (dR ?_)
 refine aH ⟨fI lI _,dE PySem.F.entry_list_iadd ?_⟩
 rw[di lI _]
 show wpAny _ A.in1 (ji (.ref s.heap.objs.size) (.ref a) (.ref s.heap.objs.size)) _ _ _
 have ho1:(s.heap.push {cls:=.type "list",data:=.seq ([]:List ag).toArray}).get? a=some (u8 es ep (vA P (!w.params.followText "set-order"))):=ai _ ho
 have hL:(s.heap.push {cls:=.type "list",data:=.seq ([]:List ag).toArray}).get? s.heap.objs.size=some {cls:=.type "list",data:=.seq #[]}:=aM _ rfl
 unfold ji
 refine aw (lY (T :="set") ⟨_,ho1,rfl⟩ ?_)
 have ne:s.heap.objs.size≠a:=eI la
 have q1:ly (.ref s.heap.objs.size) (.ref a)=false:=by simp[ly,ne]
 rw[if_neg (by rw[q1];decide)]
 refine aw (zOs (A:=A.in1) (s:={s with heap:=s.heap.push {cls:=.type "list",data:=.seq ([]:List ag).toArray}}) hh hP hsz ho1 fun I h1 d ord fp St pm W st ge fpo flt kp=>?_)
 dsimp only at ge fpo kp
 rw[eu]at ge fpo
 have nf:s.heap.objs.size∉fp:=fun z=>by
  rcases fpo _ z with e|e
  ·exact ne e
  ·exact bP _ e
 have hn:es.size<=sizeLine:=ky hbd
 have ol:ord.length=es.size:=by rw[pm.length_eq,aa,bD]
 have key:∀(g:bC) (c₁:Nat),St 0 g->(∀b o,b≠s.heap.objs.size->h1.get? b=some o->g.get? b=some o)->g.get? s.heap.objs.size=some {cls:=.type "list",data:=.seq #[] c₁}->
   codeAny (model prog w) A (.builtin "list.extend.loop" ⟨[.ref s.heap.objs.size,.ref I,.ref s.heap.objs.size],[]⟩) (fun q s'=>∃(h':bC) (tk:Nat) (acc:Array ag) (c':Nat),q=.ok (.ret (.ref s.heap.objs.size))/\s'={s with heap:=h',toks:=tk,drawn:=d}/\
    (∀b o,s.heap.get? b=some o->h'.get? b=some o)/\h'.get? s.heap.objs.size=some {cls:=.type "list",dict:=none,data:=.seq acc c',slots:=#[]}/\acc.toList=ord) {s with heap:=g,drawn:=d}:=by
  intro g c₁ hst hk hg
  refine codeAny_extend_loopS W.toS hn _ nf _ es.size 0 _ #[] c₁ rfl (bQ _) hst hg (ItemsOf.nil _) fun s' acc' c' hm hS' hacc=>?_
  have e1:acc'.toList=ord:=by
   apply iG
   ·rw[bD,hacc.1,ol]
   ·intro i i1 i2
    have:ord[i]?=some (acc'[i]'(by simpa using i1)):=hacc.2 i _ (dF (by simpa using i1))
    rw[aG i2]at this
    injection this with this
    simpa using this.symm
  refine⟨s'.heap,s'.toks,acc',c',rfl,nB hm,fun b o e=>?_,hS',e1⟩
  have nb:b≠s.heap.objs.size:=bf (aI e)
  refine hm.heap b o (fun z=>?_) (hk b o nb (kp b o (ai _ e)))
  rcases aL.mp z with e'|z
  ·exact nb e'
  ·rw[b8.mp z]at e
   exact absurd (aI e) (Nat.not_lt.mpr (Nat.le_of_succ_le ge))
 have fin : ∀(q : Result) (s' : Shared),(∃(h' : Heap) (tk : Nat) (acc : Array Value) (c' : Nat),q= .ok (.ret (.ref s.heap.objs.size))/\s'={s with heap :=h',toks :=tk,drawn :=d}/\
       (∀b o,s.heap.get? b=some o->h'.get? b=some o)/\h'.get? s.heap.objs.size=some {cls:=.type "list",dict:=none,data:=.seq acc c',slots:=#[]}/\acc.toList=ord)->
   q=.ok (.ret (.ref s.heap.objs.size))/\wpAny (model prog w) A (load s.heap.objs.size>>=fun o=>match o.data with| .seq xs _=>pure xs.toList|_=>unsupported "internal:collect") R E s':=by
  rintro q s' ⟨h',tk,acc,c',rfl,rfl,kk,hg,e1⟩
  refine⟨rfl,aw (wpAny_load hg ?_)⟩
  show wpAny _ _ (pure acc.toList) _ _ _
  rw[e1]
  exact aH (h h' tk d ord pm kk)
 have hL1:=kp _ _ hL
 have hoa:=kp _ _ ho1
 refine aw (dH (zOg (s:={s with heap:=h1,drawn:=d}) ⟨_,hoa,rfl⟩ ?_))
 refine gp (fun _=>?_) (fun _=>aH ⟨fI kf _,eJ (key h1 _ st (fun b o _ e=>e) hL1) fun q s' y=>?_⟩)
 ·refine aw (nJ ?_)
  refine aw ?_
  show wpAny _ _ (updateSeq s.heap.objs.size (·.push .none)>>=fun _=>updateSeq s.heap.objs.size (·.pop)) _ _ _
  refine aw (o4 hL1 rfl ?_)
  have hL2:=iD (cT (·.push Value.none)) hL1 rfl
  refine o4 (hz:=by seq_fits) hL2 rfl ?_
  have hL3:=iD (cT (·.pop)) hL2 rfl
  refine aH ⟨fI kf _,eJ (key _ _ ?_ (fun b o hb e=>?_) hL3) fun q s' y=>?_⟩
  ·refine W.frame 0 _ _ st fun b hb o e=>?_
   have hbS:b≠s.heap.objs.size:=fun z=>nf (z▸hb)
   exact(cb _ _ (fm hbS)).trans ((cb _ _ (fm hbS)).trans e)
  ·exact(cb _ _ (fm hb)).trans ((cb _ _ (fm hb)).trans e)
  ·obtain⟨rfl,y2⟩:=fin q s' y
   exact y2
 ·obtain⟨rfl,y2⟩:=fin q s' y
  exact y2
end
section
variable{X:Cx}{pins:List (ah×Obj)}{σ:List (Option V)}{H:Hp}{s:av}
theorem zOu (O:X.calm=true){a:ah}{P:List Nat}{Q:VK}(I:Inv X pins σ H s)(R:qA X.prog X.w s.heap a P)
  (q:∀l:ah,H l=none->Q (.ref l) (upd H l (.lst (P.map fun(i:Nat)=>V.int (i:Int))))) :
  wpAny (model X.prog X.w) X.A (call (.builtin "sorted") [.ref a]) (EP X pins σ Q) X.xe s:=by
 obtain⟨J,z,ep,T,C,f⟩:=R
 have hsz:z.size=P.length:=by
  have:=congrArg iL f
  rw[aa,aa,bD]at this;exact this
 have U:=gF P J
 refine fW oN n5 n6 (n8 _) ?_
 unfold dk.«sorted»
 refine aw (m:=checkCount "sorted" 1 1 _) (aH ?_)
 refine aw (zOt (A:=X.A.in1) (I.ok.hd O) J hsz T fun h' tk d ord pm W=>?_)
 have L:Inv X pins σ H {s with heap:=h',toks:=tk,drawn:=d}:=(I.grown W).draw
 have hint:∀v∈ord,∃x u,v=Value.int x u:=fun v j=>by
  obtain⟨e,Y,rfl⟩:=az.mp (pm.mem_iff.mp j)
  obtain⟨⟨k,D,_⟩,_⟩:=C e Y
  obtain⟨u,E⟩:=isInt_shape D
  exact⟨k,u,E⟩
 have Z:jc ord (ord.map num):=by
  have go:∀l:List ag,(∀v∈l,∃x u,v=Value.int x u)->jc l (l.map num):=by
   intro l
   induction l with
   |nil=>intro _;exact .nil
   |cons v l ih=>
    intro hl
    obtain⟨x,u,rfl⟩:=hl v (aj ..)
    exact .cons _ _ (ih fun v j=>hl v (ar _ j))
  exact go ord hint
 have pt:(ord.map num).Perm (zBE z):=by
  have:=pm.map num
  rw[aP]at this
  exact this
 have ol:ord.length=z.size:=by rw[pm.length_eq,aa,bD]
 have n:ord.length<64:=by omega
 refine aw (lj ?_ (by rw[aR];omega))
 dsimp only
 generalize r:h'.objs.size=B
 have g:(h'.push {cls:=.type "list",data:=.seq ord.toArray}).get? B=some (seqObj "list" ord.toArray 0):=by
  rw[<-r];exact aM _ rfl
 have old:∀b o,h'.get? b=some o->(h'.push {cls:=.type "list",data:=.seq ord.toArray}).get? b=some o/\b≠B:=fun b o e=>⟨ai _ e,by rw[<-r];exact bf (aI e)⟩
 refine aw (dH (d9 mR ⟨_,g,rfl⟩ mr (list_sort_tree g Z n fun out c a1 M a3=>⟨_,rfl,?_⟩) (mT _)))
 refine aH ⟨_,rfl,?_⟩
 have p:∀b o,h'.get? b=some o->(sortedHeap (h'.push {cls:=.type "list",data:=.seq ord.toArray}) B ord out).get? b=some o:=fun b o e=>by
  rw[sortedHeap_old (old _ _ e).2 (aI (old _ _ e).1)];exact(old _ _ e).1
 obtain⟨E,F⟩:=sortedHeap_at (out:=out) g
 have N:c.length=ord.length:=by rw[M.length_eq,aa]
 have j:∀{vs:List ag} {ns:List Int},jc vs ns->zM (ns.map V.int) vs:=by
  intro vs ns h
  induction h with
  |nil=>exact .nil
  |cons i t _ ih=>exact .cons ⟨_,rfl⟩ ih
 have G:c=P.map fun(i:Nat)=>(i:Int):=by
  have p1:c.Perm (P.map fun(i:Nat)=>(i:Int)):=by rw[<-f];exact M.trans pt
  have s2:(P.map fun(i:Nat)=>(i:Int)).Pairwise (·<=·):=cx.mpr (U.2.imp fun{x y} h=>by omega)
  exact p1.eq_of_pairwise (fun x y _ _ h1 h2=>by omega) a3 s2
 refine⟨.ref B,_,L.laid (t':=tk) (o:=.lst (c.map V.int)) p (d4 r) ⟨by rw[aa,aR];omega,out.toList,E,j a1,by rw[Array.toArray_toList];exact F⟩,rfl,?_⟩
 have:=q B (L.hok.fresh (d4 r))
 rw[G,aP]
 exact this
def zES (K:ae)(x:V)(H:Hp)(Q:VK):Prop:=∃(p:ah) (ks:List Nat),x=.ref p/\yL K H p (ks.map fun(i:Nat)=>V.int (i:Int))/\(∃D:List Nat,D.length<=3/\∀k∈ks,k∈D)/\(∀k∈ks,k∈[1,2,3,4])/\
 ∀(out:List Nat) (l:ah),(∀x,x∈out↔x∈ks)->out.Pairwise (· < ·)->H l=none->Q (.ref l) (upd H l (.lst (out.map fun(i:Nat)=>V.int (i:Int))))
def zOv (K:ae)(t:TE):TE:=fun σ H Q=>t σ H fun x H1=>zES K x H1 Q
theorem zOw {x y:Str}{e:bV}{F:TE}{p m pos c:Pos}(G:X.calm=true)(O:PE X e F)(P:Gl X x)(hm:X.mg x=none)(n:bootBuiltins x=some (.builtin "sorted"))(r:Gl X y)(w:X.mg y=none)(z:bootBuiltins y=some (.type "set"))
  (R:x≠"__name__" :=by decide) (B:(x==("__debug__" : Str))=false:=by decide) (C:y≠"__name__" :=by decide) (g:(y==("__debug__" : Str))=false:=by decide)
  (J:starEach [e] X.env=(false,eval e X.env)::starEach [] X.env:=by rfl)
  (j:starEach [Expr.Call (.Name y m) [e] [] c] X.env=(false,eval (Expr.Call (.Name y m) [e] [] c) X.env)::starEach [] X.env:=by rfl) :
  PE X (.Call (.Name x p) [.Call (.Name y m) [e] [] c] [] pos) (zOv X.K F):=by
 intro pins s σ H Q I h
 refine eg (kW I P hm n ?_ R B)
 refine iF ?_ j rfl
 rw[j]
 show wpAny _ _ (spliced ((false,eval (Expr.Call (.Name y m) [e] [] c) X.env)::backTo pos (starEach [] X.env))) _ _ s
 refine gr ?_
 refine eg (kW I r w z ?_ C g)
 refine dm (zH (zB O zD J c pins s σ H (fun xs D=>match xs with| [x]=>zES X.K x D Q|_=>False) I ?_) fun us s1 ⟨vs,D,L,T,d⟩=>?_) J rfl
 ·exact h
 ·obtain⟨x,rfl,d⟩:∃x,vs=[x]/\zES X.K x D Q:=by
   match vs,d with
   | [x],d=>exact⟨x,rfl,d⟩
   | [],d=>exact d.elim
   |_::_::_,d=>exact d.elim
  obtain⟨a,ks,rfl,E,U,W,q⟩:=d
  obtain⟨u,rfl,Y⟩:=qR T
  cases Y
  obtain⟨its,M,Z,_⟩:=L.list E
  have f:its.toArray.size=ks.length:=by have:=M.length;simp at this;simp[this]
  refine zOq (A:=X.A) (I.ok.hd G) Z.isList f (fun i v n=>?_) U W fun h' tk N k=>?_
  ·have hi:i<ks.length:=by
    rw[<-f]
    exact(Array.getElem?_eq_some_iff.mp n).1
   obtain⟨u,e1,e2⟩:=M.get (i:=i) (x:=.int ((ks.getD i 0:Nat):Int)) (by rw[aq];simp[hi])
   have o:its[i]?=some v:=by simpa using n
   rw[e1]at o
   injection o with o
   subst o
   obtain⟨t,rfl⟩:=e2
   simp[eG]
  ·refine ki ?_
   refine zOu G (L.grown (tk:=tk) fun b u e=>k b u (aI e) e) N fun l hl=>q _ l (fun x=>?_) (gF _ N.1).2 hl
   unfold qN
   rw[zER]
   simp
end
end L2
end
section
namespace Kn.Ln
open PySem L2 Kn
section
variable{P:aJ}{w:aV}{K:ae}{mg:Str->Option ag}{base:bC}
abbrev zET:cp:=top 47
theorem zOx:FnScope ["book","order","length"] ["book","order","length"] (defScope zET):=yD
end
def kO:Nat->List S
 |0=>[[]]
 |n+1=>[97,98,122].flatMap fun c=>(kO n).map (c::·)
theorem zIM:∀(n:Nat) (x:S),x.length=n->(∀c∈x,c∈[97,98,122])->x∈kO n
 |0,x,h,_=>by rw[cw.mp h];exact bK _
 |n+1,x,h,d=>by
  cases x with
  |nil=>cases h
  |cons a r=>
   exact bx.mpr ⟨a,d a (aj ..),az.mpr ⟨r,zIM n r (by simpa using h) (fun c b=>d c (ar _ b)),rfl⟩⟩
def zIN (bk:List S):Prop:=∀x∈bk,∀c∈x,c∈[97,98,122]
theorem zEU {bk:List S}(a:zIN bk){o n:Nat}{x:S}(h:uC (zC o bk) o n x):∀c∈x,c∈[97,98,122]:=fun c b=>by
 obtain⟨i,hi,rfl⟩:=dD b
 have d:=h.2 (zE (x.take i) o,(x.drop i).take 1) (az.mpr ⟨i,bX.mpr (by omega),rfl⟩)
 obtain⟨nm,hm,f⟩:=bx.mp d
 obtain⟨p,_,e⟩:=az.mp f
 have g:(nm.drop p).take 1=(x.drop i).take 1:=congrArg jx e
 have j:(x.drop i).take 1=[x[i]]:=by rw[List.drop_eq_getElem_cons hi];rfl
 have:x[i]∈(nm.drop p).take 1:=by rw[g,j];exact bK _
 exact a nm hm _ (iU (cz this))
theorem zOy:(kO 1).length=3/\(kO 2).length=9/\(kO 3).length=27/\(kO 4).length=81/\(kO 4).Nodup/\∀x∈kO 4,x.length=4:=by decide+kernel
theorem zOz (n:Nat)(L:List Nat):qF (V.int (n:Int)) (L.map fun(k:Nat)=>V.int (k:Int))=decide (n∈L):=by
 unfold qF
 rw[rA]
 induction L with
 |nil=>simp
 |cons y l ih=>
  rw[eV,ih]
  have e:((fun y=>qT y (V.int (n:Int))) ∘ fun(k:Nat)=>V.int (k:Int)) y=decide (n=y):=by
   show((y:Int)==(n:Int))=_
   by_cases z:n=y
   ·subst z;simp
   ·rw[decide_eq_false z,beq_eq_false_iff_ne]
    omega
  rw[e]
  by_cases z:n=y
  ·subst z;simp
  ·simp[z]
theorem zPA (L:List Nat):(L.map fun(k:Nat)=>V.int (k:Int)).all jG=true:=by
 rw[l6]
 exact cg.mpr fun _ _=>rfl
theorem zCH {K:ae}{H:Hp}{v:V}{q:Int×Int}(h:yO K H v q):yQ K H (.tuple [.int q.1,.int q.2]) v:=by
 obtain⟨a,rfl,h⟩:=h
 exact⟨a,_,rfl,h,_,_,rfl,rfl,_,_,rfl,rfl,rfl⟩
theorem zCI:∀{l m:List S},l.Pairwise (· < ·)->m.Pairwise (· < ·)->(∀x,x∈l↔x∈m)->l=m
 | [],[],_,_,_=>rfl
 | [],y::ys,_,_,h=>absurd ((h y).mpr (aj ..)) (by simp)
 |x::xs,[],_,_,h=>absurd ((h x).mp (aj ..)) (by simp)
 |x::xs,y::ys,f,g,h=>by
  have hx1:=c9.mp f
  have a:=c9.mp g
  have c:x=y:=by
   rcases aL.mp ((h x).mp (aj ..))with e|e
   ·exact e
   ·rcases aL.mp ((h y).mpr (aj ..))with d|d
    ·exact d.symm
    ·exact absurd (zCu (a.1 x e) (hx1.1 y d)) (kJ y)
  subst c
  have:xs=ys:=zCI hx1.2 a.2 fun p=>by
   constructor
   ·intro b
    rcases aL.mp ((h p).mp (ar _ b))with e|e
    ·subst e;exact absurd (hx1.1 p b) (kJ p)
    ·exact e
   ·intro b
    rcases aL.mp ((h p).mpr (ar _ b))with e|e
    ·subst e;exact absurd (a.1 p b) (kJ p)
    ·exact e
  rw[this]
theorem zIO:∀{l m:List Nat},l.Pairwise (· < ·)->m.Pairwise (· < ·)->(∀x,x∈l↔x∈m)->l=m
 | [],[],_,_,_=>rfl
 | [],y::ys,_,_,h=>absurd ((h y).mpr (aj ..)) (by simp)
 |x::xs,[],_,_,h=>absurd ((h x).mp (aj ..)) (by simp)
 |x::xs,y::ys,f,g,h=>by
  have hx1:=c9.mp f
  have a:=c9.mp g
  have c:x=y:=by
   rcases aL.mp ((h x).mp (aj ..))with e|e
   ·exact e
   ·rcases aL.mp ((h y).mpr (aj ..))with d|d
    ·exact d.symm
    ·have:=a.1 x e;have:=hx1.1 y d;omega
  subst c
  have:xs=ys:=zIO hx1.2 a.2 fun p=>by
   constructor
   ·intro b
    rcases aL.mp ((h p).mp (ar _ b))with e|e
    ·have:=hx1.1 p b;omega
    ·exact e
   ·intro b
    rcases aL.mp ((h p).mpr (ar _ b))with e|e
    ·have:=a.1 p b;omega
    ·exact e
  rw[this]
theorem zPB {A:List S}{out:List Str}(f:A.Pairwise (· < ·))(c:∀x,x∈out↔x∈A.map tx)(g:out.Pairwise (fun a b=>a.cps.toList<b.cps.toList)):out.map V.str=A.map sv:=by
 have i:out.map (fun s:Str=>s.cps.toList)=A:=zCI (cx.mpr g) f fun x=>by
  constructor
  ·intro h
   obtain⟨s,d,rfl⟩:=az.mp h
   obtain⟨y,e,rfl⟩:=az.mp ((c s).mp d)
   rw[qZ];exact e
  ·intro h
   exact az.mpr ⟨tx x,(c _).mpr (az.mpr ⟨x,h,rfl⟩),qZ x⟩
 have j:A.map tx=out:=by
  rw[<-i,aP]
  conv=>rhs;rw[<-mW out]
  refine cj fun s d=>?_
  obtain⟨y,e,rfl⟩:=az.mp ((c s).mp d)
  show tx (tx y).cps.toList=tx y
  rw[qZ]
 rw[<-j,aP];rfl
theorem zEV {p A B:Prop} [Decidable p] (a:p->A)(b:¬p->B):if decide p=true then A else B:=by
 by_cases h:p
 ·rw[if_pos (decide_eq_true h)];exact a h
 ·rw[if_neg (by simp[h])];exact b h
theorem zPC {t u:TS}{D:Ends}{σ:St}{H:Hp}(R:St->Hp->Prop)(b:∀a H',R a H'->u D a H')(c:∀N:St->Hp->Prop,(∀a H',R a H'->N a H')->t {D with nx:=N} σ H):zEu t u D σ H:=c (u D) b
theorem gnR {i:Nat}{v:V}{σ:St}{H:Hp}{Q:St->Hp->Prop}(h:Q (σ.set i (some v)) H):jX i v σ H Q:=h
theorem zPD {i:Nat}{v v':V}{σ:St}{H:Hp}{Q:St->Hp->Prop}(e:v=v')(h:jX i v' σ H Q):jX i v σ H Q:=e▸h
theorem zPE {L:List S}(h:∀x∈L,∀c∈x,c<=122):(PyData.list (L.map fun x=>PyData.str (tx x))).canLay0=true :=
 (zBn fun d hd=>by
  obtain⟨x,a,rfl⟩:=az.mp hd
  exact⟨zGq (h x a),by show 0<=10;decide⟩).2
theorem zPF (L:List Int):(PyData.list (L.map PyData.int)).canLay0=true :=
 (zBn fun d hd=>by
  obtain⟨x,a,rfl⟩:=az.mp hd
  exact⟨rfl,by show 0<=10;decide⟩).2
theorem zCJ {D:Ends}{σ:St}{H:Hp}(h:D.nx σ H):zEt D σ H:=h
theorem zCK {l:List S}{i:Nat}{x:V}(h:(zP l)[i]?=some x):∃y,l[i]?=some y/\x=sv y:=by
 unfold zP at h
 rw[aq]at h
 cases e:l[i]? with
 |none=>rw[e]at h;cases h
 |some y=>rw[e]at h;exact⟨y,rfl,(ay h).symm⟩
theorem zIP {K:ae}{H:Hp}{a:ah}{L:List Nat}(h:H a=some (.lst (L.map fun(n:Nat)=>V.int (n:Int)))):yQ K H (.list ((L.map fun(n:Nat)=>(n:Int)).map PyData.int)) (.ref a):=by
 refine⟨a,(L.map fun(n:Nat)=>(n:Int)).map V.int,rfl,.of ?_,zDQ _⟩
 rw[h,aP];rfl
end Kn.Ln
end
section
namespace L2
open PySem PySem.Spec PyProof.Rows
structure XLook (K:ae) (C:ah):Prop where
 exc:d7 K C g0 "ValueError.__new__"=true
 ga:dM K (.ref C) "__getattribute__"=some (some (.builtin "BaseException.__getattribute__"))
 gn:dM K (.ref C) "__getattr__"=some none
 cl:dM K (.ref C) "__class__"=some (some (.builtin "object.__class__"))
 mo:ny K C (.type "object")=some true
section
variable{prog:aJ}{w:aV}{A:bM}{E:ag->av->Prop}{h:bC}{g:Array mJ}{d:rQ}{t:Nat}{os:OsState}{K:ae}{C a:ah}{o:Obj}{vs:Array ag}
theorem zEW {M:oK}{name:Str}{r:Option ag}{Q:Option ag->av->Prop}(X:K.In h)(e:dM K (.ref C) name=some r)(b:Q r ⟨h,g,d,t,os⟩):wpAny M A (typeLookup (.ref C) name) Q E ⟨h,g,d,t,os⟩ :=
 PySem.W.looks_findIn X e A Q E _ (fun _ _ z=>z) b
theorem zPG {M:oK}{b:ag}{Q:Unit->av->Prop}(X:K.In h)(L:XLook K C)(f:h.get? a=some o)(i:o.cls=.ref C)(j:Q () ⟨h,g,d,t,os⟩) :
  wpAny M A (checkBuiltinCall "BaseException.__getattribute__" ⟨[.ref a,b],[]⟩) Q E ⟨h,g,d,t,os⟩:=by
 obtain⟨l,N,nm,q,bs,hdct,sn,sub,ab,col,dd,k0,k1,k2,k3,k5,mN,m,r,n,T,_⟩:=g6 X L.exc
 have p:builtinKind "BaseException.__getattribute__"=some .slot:=by decide+kernel
 have c:splitId "BaseException.__getattribute__"=some ("BaseException","__getattribute__"):=by decide+kernel
 have e:(Value.ref C::l).contains (.type "BaseException")=true:=by rw[jy,T.hasType dA.hasBase];rfl
 have s:=PySem.F.args_bexc_ga (.ref a) b
 simp only[checkBuiltinCall,p,c]
 refine aw ?_
 ·unfold isInstance
  repeat(first|(with_reducible refine dB f ?_;rw[i])|(with_reducible refine gc m ?_;rw[e])|wp_step)
  exact j
theorem zPH {R:oy->av->Prop}(X:K.In h)(L:XLook K C)(f:h.get? a=some o)(i:o.cls=.ref C)(n:R (.ok (.ret (.ref C))) ⟨h,g,d,t,os⟩) :
  codeAny (model prog w) A (.call (.builtin "getset_descriptor.__get__") ⟨[.builtin "object.__class__",.ref a,.ref C],[]⟩) R ⟨h,g,d,t,os⟩:=by
 obtain⟨j,N,nm,q,bs,hdct,sn,sub,ab,col,dd,k0,k1,k2,k3,k5,mN,l,p,m,T,_⟩:=g6 X L.exc
 have c:(⟨h,g,d,t,os⟩:av).TypeIs (.builtin "object.__class__") "getset_descriptor" :=fM
 have e:(Value.ref C::j).contains (.type (".".intercalate ("object.__class__".cutAt '.').dropLast))=true:=by
  rw[PySem.F.owner_object_class,jy,T.hasType (X :="object") (b:=true) (by decide)];rfl
 refine iV i9.plain PySem.F.entry_gs_get (i9.check _ _ _ _ _ _ _ _ c (PySem.F.args_gs_get _ _ _) ?_)
 repeat(any_goals (first|assumption|(with_reducible refine dB f ?_;rw[i])|(with_reducible refine gc l ?_;rw[e])|wp_step))
 refine⟨nN _ (by decide+kernel),dE PySem.F.entry_object_class ?_⟩
 repeat(any_goals (first|assumption|(with_reducible refine dB f ?_;rw[i])|wp_step))
theorem zPI {tk:Tok}{Q:oB->av->Prop}(X:K.In h)(L:XLook K C)(b:h.get? a=some o)(c:o.cls=.ref C)(f:Q (.done (.ret (.ref C))) ⟨h,g,d,t,os⟩) :
  wpAny (model prog w) A (dk.«object.__getattribute__» ⟨[.ref a,.str "__class__" tk],[]⟩) Q E ⟨h,g,d,t,os⟩:=by
 have e:(⟨h,g,d,t,os⟩:av).TypeIs (.builtin "object.__class__") "getset_descriptor" :=fM
 have i:=fM
 have j:=i9.lookup
 have l:=PySem.F.slot_gs_set.lookup
 repeat(any_goals (first|assumption|(with_reducible refine dB b ?_;rw[c])|with_reducible refine zEW X L.cl ?_|wp_step))
 refine zPH X L b c ?_
 repeat(any_goals (first|assumption|wp_step))
theorem zPJ {tk:Tok}{fill expr:Bool}{Q:ag->av->Prop}(X:K.In h)(L:XLook K C)(b:h.get? a=some o)(c:o.cls=.ref C)(e:Q (.ref C) ⟨h,g,d,t,os⟩) :
  wpAny (model prog w) A (getAttrBy (.ref a) (.str "__class__" tk) fill expr) Q E ⟨h,g,d,t,os⟩:=by
 have f:=lJ.ga.bind (.ref a)
 have hx0:(expr&&onTheHeap (Value.builtin "BaseException.__getattribute__"))=false:=by cases expr<;>rfl
 have hx2:(Value.builtin "BaseException.__getattribute__"==Value.builtin "object.__getattribute__")=false:=by decide+kernel
 have hx1:(onTheHeap (Value.ref C)&&Value.builtin "BaseException.__getattribute__"==Value.builtin "object.__getattribute__")=false:=by rw[hx2];rfl
 repeat(any_goals (first|assumption|(with_reducible refine dB b ?_;rw[c])|with_reducible refine zEW X L.ga ?_|with_reducible refine zEW X L.gn ?_|wp_step))
 refine iV lJ.ga.plain PySem.F.entry_bexc_ga (zPG X L b c (zPI X L b c ?_))
 repeat(any_goals (first|assumption|wp_step))
theorem zPK {Q:Option ag->av->Prop}(X:K.In h)(L:XLook K C)(b:h.get? a=some o)(c:o.cls=.ref C)(e:Q (some (.ref C)) ⟨h,g,d,t+1,os⟩) :
  wpAny (model prog w) A (getAttr? (.ref a) "__class__") Q E ⟨h,g,d,t,os⟩:=by
 unfold getAttr? getAttrBy?
 repeat(any_goals (first|assumption|with_reducible apply zPJ X L b c|wp_step))
end
theorem zIQ {K:ae}{e C:ah}(L:XLook K C):PySem.W.KitX K (.ref e) (.ref C) (fun h=>∃a vs,h.get? e=some a/\a.cls=.ref C/\a.data=.fields vs) where
 ty:=fun M h X ⟨a,vs,f,i,o⟩=>by
  intro A Q E s k b
  obtain⟨p,g,d,t,os⟩:=s
  have j:=k _ _ f
  repeat(first|(with_reducible refine dB j ?_;rw[i])|wp_step)
  exact b
 it:=fun M h X _=>by
  obtain⟨r,N,nm,q,bs,hdct,sn,sub,ab,col,dd,k0,k1,k2,k3,k5,mN,l,u,m,T,_⟩:=g6 X L.exc
  intro A Q E s k b
  unfold isType loadHead
  exact aw (wpAny_loadPart (k _ _ l) (aH b))
 ne:=fun h v dd its n D X c=>by
  obtain⟨r,N,nm,q,bs,hdct,sn,sub,ab,col,x,k0,k1,k2,k3,k5,mN,l,u,m,T,_⟩:=g6 X L.exc
  refine Bool.eq_false_iff.mpr fun z=>?_
  have y:C=v:=sZ (beq_iff_eq.mp z)
  subst y
  rw[l]at c
  have B:Value.type "type"=Value.type "tuple" :=congrArg Obj.cls (ay c)
  exact absurd (sX B) (by decide)
 ca:=fun{prog w A E Q s} X ⟨a,vs,f,i,o⟩ b=>by
  obtain⟨p,g,d,t,os⟩:=s
  exact zPK X L f i b
section
variable{X:Cx}
theorem kP:uG X (.builtin "isinstance") (fun xs H Q=>∃e C c b,xs=[.ref e,c]/\H e=some (XO e C)/\XLook X.K C/\((∃D,c=.ref D/\bp X.K (.ref C) (.ref D)=some b)\/(∃T,c=.ty T/\bp X.K (.ref C) (.type T)=some b))/\Q (.bl b) H):=by
 intro d s σ H xs l Q I r h
 obtain⟨e,C,c,b,rfl,g,L,i,q⟩:=h
 obtain⟨u,m,rfl,j,f⟩:=zAE r
 cases j
 obtain⟨p,_,_⟩:=I.hok e _ g
 rcases i with⟨D,rfl,a⟩|⟨T,rfl,a⟩
 ·cases f
  exact ck (zIQ L) I.kIn p a (fun z=>nomatch z) fun tk=>⟨.bl b,H,I.tok tk,rfl,q⟩
 ·cases f
  exact ck (zIQ L) I.kIn p a (fun z=>nomatch z) fun tk=>⟨.bl b,H,I.tok tk,rfl,q⟩
theorem zIR (a b:Bool):rE (.bool a) (.bool b) (a==b):=fun prog w A E s Q h=>iK a b prog w _ _ h
theorem zIS {bs:List Bool}:∀{a:List ag},zM (bs.map V.bl) a->a=bs.map Value.bool:=by
 induction bs with
 |nil=>intro a r;cases r;rfl
 |cons b bs ih=>
  intro a r
  rw[aF]at r
  cases r with
  |cons c d=>rw[aF,<-ih d,(show _=Value.bool b from c)]
def isB (b:Bool):ag->Bool
 | .bool a=>a==b
 |_=>false
theorem zPL:k8 X "list.count" (fun x vs H Q=>∃(l:ah) (bs:List Bool) (b:Bool),x=.ref l/\vs=[.bl b]/\H l=some (.lst (bs.map V.bl))/\Q (.int (bs.count b:Nat)) H):=by
 intro c s σ H x vs v m Q I d f h
 obtain⟨l,bs,b,rfl,rfl,g,q⟩:=h
 cases d
 obtain⟨u,rfl,i⟩:=f.one
 cases i
 obtain⟨z,its,n,r,hl,e⟩:=I.lstM g
 have hi:=zIS r
 subst hi
 refine fP lK ⟨_,e,rfl⟩ PySem.F.entry_list_count (PySem.F.args_list_count_2 _ _) (MeetsSeq.list_count l _ n _ (isB b) (fun y j=>?_)) ⟨e,?_⟩
 ·obtain⟨a,_,rfl⟩:=az.mp (by simpa using j:y∈bs.map Value.bool)
  exact zIR a b
 ·refine⟨.int (bs.count b:Nat),H,I.tok _,⟨s.toks,?_⟩,q⟩
  have:(bs.map Value.bool).countP (isB b)=bs.count b:=by
   rw[List.countP_map,iH]
   rfl
  simp only[List.toList_toArray,this]
theorem zPM:k8 X "list.index" (fun x vs H Q=>∃(l:ah) (bs:List Bool) (b:Bool) (j:Nat),x=.ref l/\vs=[.bl b]/\H l=some (.lst (bs.map V.bl))/\bs[j]?=some b/\(∀i,i<j->bs[i]?≠some b)/\j<1000/\Q (.int (j:Nat)) H):=by
 intro o s σ H x vs v E Q I t w h
 obtain⟨l,bs,b,j,rfl,rfl,A,p,c,hz,q⟩:=h
 cases t
 obtain⟨u,rfl,B⟩:=w.one
 cases B
 obtain⟨z,its,n,r,hl,e⟩:=I.lstM A
 have hi:=zIS r
 subst hi
 have d:j<bs.length:=(af.mp p).1
 refine fP lL ⟨_,e,rfl⟩ PySem.F.entry_list_index (PySem.F.args_list_index_2 _ _) (MeetsSeq.list_index l _ n _ (isB b) (fun y C=>?_) j (by simpa using d) (by omega) ?_ (fun m hm f=>?_)) ⟨e,?_⟩
 ·obtain⟨a,_,rfl⟩:=az.mp (by simpa using C:y∈bs.map Value.bool)
  exact zIR a b
 ·have:=(af.mp p).2
  simp[isB,this]
 ·have g:m<bs.length:=by simpa using hm
  have:=c m f
  rw[aG g]at this
  have D:bs[m]≠b:=fun z=>this (by rw[z])
  simp[isB,D]
 ·exact⟨.int (j:Nat),H,I.tok _,⟨_,rfl⟩,q⟩
end
end L2
end
section
namespace Kn
open PySem L2
mutual
def yA (H:Hp):bW->V->Prop
 | .none,v=>v=.non
 | .bool b,v=>v=.bl b
 | .int i,v=>v=.int i
 | .str x,v=>v=.str x
 | .list ds,v=>∃a xs,v=.ref a/\H a=some (.lst xs)/\Thgs H ds xs
 | .tuple ds,v=>∃a xs,v=.ref a/\H a=some (.tup xs)/\Thgs H ds xs
 | .dict _,_=>False
def Thgs (H:Hp):List bW->List V->Prop
 | [],xs=>xs=[]
 |d::ds,xs=>∃y ys,xs=y::ys/\yA H d y/\Thgs H ds ys
end
mutual
theorem yA.same {H H':Hp}(e:zA H H'):∀(d:bW) (v:V),yA H d v->yA H' d v
 | .none,v,h=>h
 | .bool b,v,h=>h
 | .int i,v,h=>h
 | .str x,v,h=>h
 | .list ds,v,h=>by
  obtain⟨a,xs,c,f,g⟩:=h
  exact⟨a,xs,c,e _ _ f,Thgs.same e ds xs g⟩
 | .tuple ds,v,h=>by
  obtain⟨a,xs,c,f,g⟩:=h
  exact⟨a,xs,c,e _ _ f,Thgs.same e ds xs g⟩
 | .dict _,v,h=>h
theorem Thgs.same {H H':Hp}(e:zA H H'):∀(ds:List bW) (xs:List V),Thgs H ds xs->Thgs H' ds xs
 | [],xs,h=>h
 |d::ds,xs,h=>by
  obtain⟨y,ys,a,b,c⟩:=h
  exact⟨y,ys,a,yA.same e d y b,Thgs.same e ds ys c⟩
end
theorem Thgs.length {H:Hp}:∀{ds:List bW}{xs:List V},Thgs H ds xs->ds.length=xs.length
 | [],xs,h=>by rw[show xs=[]from h];rfl
 |d::ds,xs,h=>by
  obtain⟨y,ys,a,_,b⟩:=h
  rw[a,bg,bg,Thgs.length b]
theorem Thgs.get {H:Hp}:∀{ds:List bW}{xs:List V}{i:Nat}{y:V},Thgs H ds xs->xs[i]?=some y->∃d,ds[i]?=some d/\yA H d y
 | [],xs,i,y,h,e=>by rw[show xs=[]from h]at e;simp at e
 |d::ds,xs,i,y,h,e=>by
  obtain⟨z,j,a,b,c⟩:=h
  subst a
  cases i with
  |zero=>
   have:z=y:=by simpa using e
   subst this
   exact⟨d,rfl,b⟩
  |succ i=>
   obtain⟨d',f,g⟩:=Thgs.get (i:=i) c (by simpa using e)
   exact⟨d',by simpa using f,g⟩
theorem Thgs.strs {H:Hp}:∀(l:List S),Thgs H (l.map fun x=>PyData.str (tx x)) (l.map sv)
 | []=>rfl
 |x::l=>⟨_,_,rfl,rfl,Thgs.strs l⟩
mutual
def sml:bW->Bool
 | .str x=>decide (x.length<=900)&&x.cps.toList.all fun c=>decide (c<128)
 | .list ds=>decide (ds.length<=900)&&smls ds
 | .tuple ds=>decide (ds.length<=900)&&smls ds
 | .dict _=>false
 |_=>true
def smls:List bW->Bool
 | []=>true
 |d::ds=>sml d&&smls ds
end
theorem zIT:∀{ds:List bW}{d:bW},smls ds=true->d∈ds->sml d=true
 |e::ds,d,h,hm=>by
  have h':sml e=true/\smls ds=true:=by simpa [smls]using h
  rcases aL.mp hm with z|z
  ·rw[z];exact h'.1
  ·exact zIT h'.2 z
def g8 (c:Nat):Bool:=decide (97<=c)&&decide (c<=122)
def uM:bW->Bool
 | .str x=>(decide (1<=x.length)&&decide (x.length<=8))&&x.cps.toList.all g8
 |_=>false
def yZ:bW->Bool
 | .tuple ds=>(decide (1<=ds.length)&&decide (ds.length<=8))&&ds.all uM
 |_=>false
def uE:bW->Bool
 | .int i=>decide (1<=i)&&decide (i<=3)
 |_=>false
theorem zPN {d:bW}(h:uM d=true):∃x:S,d=.str (tx x)/\q8 x:=by
 cases d with
 |str x=>
  simp only[uM,bc,decide_eq_true_eq,cg,g8]at h
  refine⟨x.cps.toList,by rw[zGh],?_,?_,h.2⟩
  ·have:=h.1.1;simpa [js]using this
  ·have:=h.1.2;simpa [js]using this
 |none=>cases h
 |bool b=>cases h
 |int i=>cases h
 |list ds=>cases h
 |tuple ds=>cases h
 |dict _=>cases h
theorem zPO {x:S}(h:q8 x):uM (.str (tx x))=true:=by
 simp only[uM,bc,decide_eq_true_eq,cg,g8,yB,qZ]
 exact⟨⟨h.1,h.2.1⟩,h.2.2⟩
theorem zPP {d:bW}(h:yZ d=true):∃bk:List S,d=.tuple (bk.map fun x=>PyData.str (tx x))/\isBk bk:=by
 cases d with
 |tuple ds=>
  simp only[yZ,bc,decide_eq_true_eq,cg]at h
  obtain⟨⟨c,f⟩,g⟩:=h
  have go:∀ds:List bW,(∀d∈ds,uM d=true)->∃bk:List S,ds=bk.map (fun x=>PyData.str (tx x))/\∀x∈bk,q8 x:=by
   intro ds
   induction ds with
   |nil=>intro _;exact⟨[],rfl,by simp⟩
   |cons d ds ih=>
    intro hd
    obtain⟨x,rfl,j⟩:=zPN (hd d (aj ..))
    obtain⟨bk,rfl,a⟩:=ih fun e l=>hd e (ar _ l)
    refine⟨x::bk,rfl,fun y m=>?_⟩
    rcases aL.mp m with z|z
    ·rw[z];exact j
    ·exact a y z
  obtain⟨bk,rfl,a⟩:=go ds g
  rw[aa]at c f
  exact⟨bk,rfl,c,f,a⟩
 |none=>cases h
 |bool b=>cases h
 |int i=>cases h
 |list ds=>cases h
 |str x=>cases h
 |dict _=>cases h
theorem zIU {bk:List S}(h:isBk bk):yZ (.tuple (bk.map fun x=>PyData.str (tx x)))=true:=by
 simp only[yZ,bc,decide_eq_true_eq,cg,aa]
 refine⟨⟨h.lo,h.hi⟩,fun d hd=>?_⟩
 obtain⟨x,a,rfl⟩:=az.mp hd
 exact zPO (h.nm x a)
theorem Thgs.strs_inv {H:Hp}:∀{l:List S}{xs:List V},Thgs H (l.map fun x=>PyData.str (tx x)) xs->xs=l.map sv
 | [],xs,h=>h
 |x::l,xs,h=>by
  obtain⟨y,ys,b,c,d⟩:=h
  have a:y=sv x:=c
  rw[b,a,Thgs.strs_inv d];rfl
theorem zBG {H:Hp}{d:bW}{v:V}(h:yA H d v)(c:yZ d=true):∃(a:ah) (bk:List S),v=.ref a/\H a=some (.tup (zP bk))/\isBk bk/\d=.tuple (bk.map fun x=>PyData.str (tx x)):=by
 obtain⟨bk,rfl,e⟩:=zPP c
 obtain⟨a,xs,rfl,b,f⟩:=h
 rw[Thgs.strs_inv f]at b
 exact⟨a,bk,rfl,b,e,rfl⟩
theorem zBH {H:Hp}{d:bW}{v:V}(h:yA H d v)(a:uE d=true):∃o:Nat,v=.int o/\1<=o/\o<=3:=by
 cases d with
 |int i=>
  simp only[uE,bc,decide_eq_true_eq]at a
  refine⟨i.toNat,?_,by omega,by omega⟩
  rw[show v=.int i from h]
  congr 1
  omega
 |none=>cases a
 |bool b=>cases a
 |list ds=>cases a
 |tuple ds=>cases a
 |str x=>cases a
 |dict _=>cases a
structure KitF (K:ae):Prop where
 ns:bp K (.type "NoneType") (.type "str")=some false
 bs:bp K (.type "bool") (.type "str")=some false
 is:bp K (.type "int") (.type "str")=some false
 ls:bp K (.type "list") (.type "str")=some false
 ts:bp K (.type "tuple") (.type "str")=some false
 nt:bp K (.type "NoneType") (.type "tuple")=some false
 bt:bp K (.type "bool") (.type "tuple")=some false
 it:bp K (.type "int") (.type "tuple")=some false
 lt:bp K (.type "list") (.type "tuple")=some false
 st:bp K (.type "str") (.type "tuple")=some false
 ni:bp K (.type "NoneType") (.type "int")=some false
 bi:bp K (.type "bool") (.type "int")=some true
 li:bp K (.type "list") (.type "int")=some false
 ti:bp K (.type "tuple") (.type "int")=some false
 si:bp K (.type "str") (.type "int")=some false
theorem zPQ {c:Nat}(h:c<128):(gv letters ⟨#[c]⟩ 0 letters.length 1).isEmpty=!g8 c:=by
 have all:∀d:_root_.Fin 128,(gv letters ⟨#[d.val]⟩ 0 letters.length 1).isEmpty=!g8 d.val:=by decide+kernel
 exact all ⟨c,h⟩
section
variable{P:aJ}{w:aV}{K:ae}{mg:Str->Option ag}{base:bC}
theorem zPR (KF:KitF K){H:Hp}:∀{d:bW}{v:V},yA H d v->∃t b,TyOf K H v t/\bp K t (.type "str")=some b/\(b=true↔∃x,d=.str x)
 | .none,v,h=>by cases(show v=.non from h);exact⟨_,_,.non,KF.ns,by simp⟩
 | .bool b,v,h=>by cases(show v=.bl b from h);exact⟨_,_,.bl _,KF.bs,by simp⟩
 | .int i,v,h=>by cases(show v=.int i from h);exact⟨_,_,.int _,KF.is,by simp⟩
 | .str x,v,h=>by cases(show v=.str x from h);exact⟨_,true,.str _,rfl,by simp⟩
 | .list ds,v,h=>by obtain⟨a,xs,rfl,c,_⟩:=h;exact⟨_,_,.lst c,KF.ls,by simp⟩
 | .tuple ds,v,h=>by obtain⟨a,xs,rfl,c,_⟩:=h;exact⟨_,_,.tup c,KF.ts,by simp⟩
 | .dict _,v,h=>h.elim
theorem zPS (KF:KitF K){H:Hp}:∀{d:bW}{v:V},yA H d v->∃t b,TyOf K H v t/\bp K t (.type "tuple")=some b/\(b=true↔∃ds,d=.tuple ds)
 | .none,v,h=>by cases(show v=.non from h);exact⟨_,_,.non,KF.nt,by simp⟩
 | .bool b,v,h=>by cases(show v=.bl b from h);exact⟨_,_,.bl _,KF.bt,by simp⟩
 | .int i,v,h=>by cases(show v=.int i from h);exact⟨_,_,.int _,KF.it,by simp⟩
 | .str x,v,h=>by cases(show v=.str x from h);exact⟨_,_,.str _,KF.st,by simp⟩
 | .list ds,v,h=>by obtain⟨a,xs,rfl,c,_⟩:=h;exact⟨_,_,.lst c,KF.lt,by simp⟩
 | .tuple ds,v,h=>by obtain⟨a,xs,rfl,c,_⟩:=h;exact⟨_,true,.tup c,rfl,by simp⟩
 | .dict _,v,h=>h.elim
def zIV:Sp:=fun vs H Q _=>∃v d,vs=[v]/\yA H d v/\sml d=true/\∀H',zA H H'->Q (.bl (uM d)) H'
theorem zPT {f:ah}{fd:aX}(F:Fun K "is_name" "is_name" zDC f fd)(B:Blt mg)(C:Cst K mg)(KF:KitF K):FnOk P w K mg base z7 1 f fd ["thing"] zIV:=by
 obtain⟨U,hl⟩:=C.letters
 obtain⟨W,I⟩:=C.ml
 refine F.ok zLq (fun vs H Q E h=>?_) (fun J A outer s H vs Q E X h=>?_)
 ·obtain⟨v,d,rfl,_⟩:=h;rfl
 ·obtain⟨v,d,rfl,r,u,k⟩:=h
  refine⟨_,zJ (vX (PW.pt (zBM (jW (jV (yH zBX (by rfl) B.isinstance bo (zB (pv 0) (zB (zAg (v:=.ty "str") (by rfl) B.str rK rfl) zD)))))
    (zBL (jW (zFI gJ gJ zI (yH jZ (by rfl) B.len cu (zB (pv 0) zD)) (vC (v:=.int 8) (by rfl) I ⟨_,rfl⟩))))))
    (zO (zZ qP)) vV)
   (zO (zZ (yH (zGC rfl) (by rfl) B.all mE (zB (vE (N:=["letter"]) (caps:=[]) rfl (y9 (by kernel_rfl)) (zLH (pv 0))
    (fun cl C s H ex=>z0 (i:=0) nd1 rfl (Or.inl rfl)) (fun cl C s H ex=>uI)
    (fun cl C s H ex=>zAD zJw (pv 0) (vC (v:=.str letters) (by rfl) hl ⟨_,rfl⟩) (by with_unfolding_all rfl))) zD)))),?_⟩
  obtain⟨t,b,l,g,G⟩:=zPR KF r
  refine⟨_,rfl,_,_,t,b,rfl,l,g,b,rfl,?_⟩
  cases b with
  |false=>
   have hd:uM d=false:=by
    cases d with
    |str x=>exact absurd (G.mpr ⟨x,rfl⟩) (by decide)
    |_=>rfl
   rw[hd]at k
   exact vM (vM (k H (zA.refl H)))
  |true=>
   obtain⟨x,rfl⟩:=G.mp rfl
   have m:v=.str x:=r
   subst m
   have n:x.length<=900/\∀c∈x.cps.toList,c<128:=by
    simp only[sml,bc,decide_eq_true_eq,cg]at u
    exact u
   refine uH ?_
   refine⟨_,rfl,x,rfl,(by rw[aR];omega),_,_,rfl,rfl,_,rfl,?_⟩
   by_cases o:1<=x.length
   ·refine kI (by omega) ⟨_,_,rfl,rfl,_,rfl,?_⟩
    by_cases p:x.length<=8
    ·refine k9 (by omega) ?_
     refine⟨_,rfl,_,rfl,?_⟩
     have L:x.cps.toList.length=x.length:=by simp[js]
     refine uP (zLV x) [] 1 (by rw[aa];omega) (fun i a H'=>zA H H'/\a=((x.cps.toList.take i).map g8).map V.bl) ⟨zA.refl H,rfl⟩ (fun i a H' _ h=>⟨trivial,by rw[h.2,aa,aa,aO];omega⟩) ?_ ?_
     ·rintro i y a H' ys Y M j O ⟨sm,rfl⟩
      obtain⟨Z,rfl⟩:=ys1 O
      rw[aq]at j
      cases e:x.cps.toList[i]? with
      |none=>rw[e]at j;cases j
      |some c=>
       rw[e]at j
       have q:y=.str ⟨#[c]⟩:=(ay j).symm
       subst q
       have hi:i<x.cps.toList.length:=(af.mp e).1
       refine⟨_,rfl,_,_,rfl,rfl,?_⟩
       rw[zPQ (n.2 c (aT e)),Bool.not_not]
       refine M _ _ [some (.str ⟨#[c]⟩)] rfl ⟨sm,?_⟩
       rw[ak hi,(af.mp e).2,aC,aC];rfl
     ·rintro a H' ⟨sm,rfl⟩ D R
      rw[aa,aU]
      refine⟨D,_,rfl,.of zF,?_⟩
      have T:((x.cps.toList.map g8).all id)=uM (.str x):=by
       simp only[uM,decide_eq_true o,decide_eq_true p,gf,nC,l6]
       rfl
      rw[T]
      exact k _ (sm.upd_new (sm.free R))
    ·have hd:uM (.str x)=false:=by simp[uM,p]
     rw[hd]at k
     refine zAP (fun z=>p (by omega)) (k H (zA.refl H))
   ·have hd:uM (.str x)=false:=by simp[uM,o]
    rw[hd]at k
    refine qJ (fun z=>o (by omega)) ?_
    exact⟨false,rfl,vM (k H (zA.refl H))⟩
def zIW:Sp:=fun vs H Q _=>∃v d,vs=[v]/\yA H d v/\sml d=true/\∀H',zA H H'->Q (.bl (yZ d)) H'
theorem zPU {f:ah}{fd:aX}(F:Fun K "is_book" "is_book" zDD f fd)(B:Blt mg)(C:Cst K mg)(KF:KitF K)(j:zY P w K mg base 1 "is_name" ["thing"] zIV):FnOk P w K mg base z7 2 f fd ["thing"] zIW:=by
 obtain⟨t8,O⟩:=C.mn
 refine F.ok zLr (fun vs H Q E h=>?_) (fun R A outer s H vs Q E T h=>?_)
 ·obtain⟨v,d,rfl,_⟩:=h;rfl
 ·obtain⟨v,d,rfl,J,L,k⟩:=h
  refine⟨_,zJ (vX (PW.pt (zBM (jW (jV (yH zBX (by rfl) B.isinstance bo (zB (pv 0) (zB (zAg (v:=.ty "tuple") (by rfl) B.tuple rg rfl) zD)))))
    (zBL (jW (zFI gJ gJ zI (yH zAm (by rfl) B.len cu (zB (pv 0) zD)) (vC (v:=.int 8) (by rfl) O ⟨_,rfl⟩))))))
    (zO (zZ qP)) vV)
   (zO (zZ (yH (zGC rfl) (by rfl) B.all mE (zB (vE (N:=["name"]) (caps:=[]) rfl (y9 (by kernel_rfl)) (zBN (pv 0))
    (fun cl C s H ex=>z0 (i:=0) nd2 rfl (Or.inl rfl)) (fun cl C s H ex=>uI)
    (fun cl C s H ex=>zU j T rfl (zB (pv 0) zD))) zD)))),?_⟩
  obtain⟨t,b,n,l,M⟩:=zPS KF J
  refine⟨_,rfl,_,_,t,b,rfl,n,l,b,rfl,?_⟩
  cases b with
  |false=>
   have hd:yZ d=false:=by
    cases d with
    |tuple x=>exact absurd (M.mpr ⟨x,rfl⟩) (by decide)
    |_=>rfl
   rw[hd]at k
   exact vM (vM (k H (zA.refl H)))
  |true=>
   obtain⟨ds,rfl⟩:=M.mp rfl
   obtain⟨a,xs,rfl,o,m⟩:=J
   have p:ds.length<=900/\smls ds=true:=by
    simp only[sml,bc,decide_eq_true_eq]at L
    exact L
   have c:xs.length=ds.length:=m.length.symm
   refine uH ?_
   refine⟨_,rfl,_,_,rfl,.inr (.of o),_,_,rfl,rfl,_,rfl,?_⟩
   by_cases q:1<=ds.length
   ·refine kI (by rw[c];omega) ⟨_,_,rfl,rfl,_,rfl,?_⟩
    by_cases r:ds.length<=8
    ·refine k9 (by rw[c];omega) ?_
     refine⟨_,rfl,a,rfl,⟨_,.of o⟩,?_⟩
     refine uP (zBY _ a xs) [] 1 (by omega) (fun i g H'=>zA H H'/\g=((ds.take i).map uM).map V.bl) ⟨zA.refl H,rfl⟩ (fun i g H' _ h=>⟨.of (h.1 _ _ o),by rw[h.2,aa,aa,aO];omega⟩) ?_ ?_
     ·rintro i y g H' ys Nx U W X ⟨sm,rfl⟩
      obtain⟨y',rfl⟩:=ys1 X
      obtain⟨e,u,G⟩:=m.get W
      have hi:i<ds.length:=(af.mp u).1
      refine⟨_,rfl,y,e,rfl,yA.same sm _ _ G,zIT p.2 (aT u),fun H5 I=>U _ _ [some y] rfl ⟨sm.trans I,?_⟩⟩
      rw[ak hi,(af.mp u).2,aC,aC];rfl
     ·rintro g H' ⟨sm,rfl⟩ D Y
      rw[c,aU]
      refine⟨D,_,rfl,.of zF,?_⟩
      have Z:((ds.map uM).all id)=yZ (.tuple ds):=by
       simp only[yZ,decide_eq_true q,decide_eq_true r,gf,nC,l6]
       rfl
      rw[Z]
      exact k _ (sm.upd_new (sm.free Y))
    ·have hd:yZ (.tuple ds)=false:=by simp[yZ,r]
     rw[hd]at k
     refine zAP (fun z=>r (by rw[c]at z;omega)) (k H (zA.refl H))
   ·have hd:yZ (.tuple ds)=false:=by simp[yZ,q]
    rw[hd]at k
    refine qJ (fun z=>q (by rw[c]at z;omega)) ?_
    exact⟨false,rfl,vM (k H (zA.refl H))⟩
def qO (a b:Int):bW->Bool
 | .int i=>decide (a<=i)&&decide (i<=b)
 |_=>false
theorem zPV (d:bW):uE d=qO 1 3 d:=by
 cases d<;>rfl
def zEX:Sp:=fun vs H Q _=>∃v d a b,vs=[v,.int a,.int b]/\yA H d v/\Q (.bl (qO a b d)) H
theorem zPW {f:ah}{fd:aX}(F:Fun K "is_whole" "is_whole" zDE f fd)(B:Blt mg)(C:Cst K mg)(KF:KitF K):FnOk P w K mg base z7 1 f fd ["thing","least","most"] zEX:=by
 refine F.ok zLs (fun vs H Q E h=>?_) (fun j A outer s H vs Q E l h=>?_)
 ·obtain⟨v,d,a,b,rfl,_⟩:=h;rfl
 ·obtain⟨v,d,a,b,rfl,g,k⟩:=h
  refine⟨_,zJ (vX (PW.pt (zBM (jW (jV (yH zBX (by rfl) B.isinstance bo (zB (pv 0) (zB (zAg (v:=.ty "int") (by rfl) B.int rL rfl) zD)))))
    (zBL (jV (yH zBX (by rfl) B.isinstance bo (zB (pv 0) (zB (zAg (v:=.ty "bool") (by rfl) B.bool rF rfl) zD)))))))
    (zO (zZ qP)) vV)
   (zO (zZ (zJx gJ gJ (pv 1) (pv 0) (pv 2)))),?_⟩
  cases d with
  |none=>cases(show v=.non from g);exact⟨_,rfl,_,_,_,false,rfl,.non,KF.ni,_,rfl,vM (vM k)⟩
  |str x=>cases(show v=.str x from g);exact⟨_,rfl,_,_,_,false,rfl,.str _,KF.si,_,rfl,vM (vM k)⟩
  |list ds=>obtain⟨a,xs,rfl,c,_⟩:=g;exact⟨_,rfl,_,_,_,false,rfl,.lst c,KF.li,_,rfl,vM (vM k)⟩
  |tuple ds=>obtain⟨a,xs,rfl,c,_⟩:=g;exact⟨_,rfl,_,_,_,false,rfl,.tup c,KF.ti,_,rfl,vM (vM k)⟩
  |dict _=>exact g.elim
  |bool b=>
   cases(show v=.bl b from g)
   exact⟨_,rfl,_,_,_,true,rfl,.bl _,KF.bi,_,rfl,uH ⟨_,rfl,_,_,_,true,rfl,.bl _,(by rfl),_,rfl,vM k⟩⟩
  |int i=>
   cases(show v=.int i from g)
   refine⟨_,rfl,_,_,_,true,rfl,.int _,(by rfl),_,rfl,?_⟩
   refine uH ?_
   refine⟨_,rfl,_,_,_,false,rfl,.int _,C.ib,_,rfl,?_⟩
   refine uH ?_
   refine⟨_,rfl,_,rfl,_,_,rfl,rfl,_,rfl,?_⟩
   by_cases c:a<=i
   ·refine kI c ⟨_,rfl,_,_,rfl,rfl,?_⟩
    have e:qO a b (.int i)=decide (i<=b):=by simp[qO,c]
    rw[e]at k
    exact k
   ·have e:qO a b (.int i)=false:=by simp[qO,c]
    rw[e]at k
    exact qJ c k
def zIX:Sp:=fun vs H Q _=>∃v d,vs=[v]/\yA H d v/\Q (.bl (uE d)) H
theorem zPX {f:ah}{fd:aX}(F:Fun K "is_order" "is_order" zDF f fd)(C:Cst K mg)(a:zY P w K mg base 1 "is_whole" ["thing","least","most"] zEX):FnOk P w K mg base z7 2 f fd ["thing"] zIX:=by
 obtain⟨i,b⟩:=C.mo
 refine F.ok zLt (fun vs H Q E h=>?_) (fun c A outer s H vs Q E e h=>?_)
 ·obtain⟨v,d,rfl,_⟩:=h;rfl
 ·obtain⟨v,d,rfl,g,k⟩:=h
  refine⟨_,zO (zZ (zU a e rfl (zB (pv 0) (zB zI (zB (vC (v:=.int 3) (by rfl) b ⟨_,rfl⟩) zD))))),?_⟩
  rw[zPV]at k
  exact⟨_,rfl,v,d,1,3,rfl,g,k⟩
def zAb (C:ah)(ok:bW->Bool):Sp:=fun vs H Q E=>∃v d,vs=[v]/\yA H d v/\sml d=true/\(ok d=true->∀H',zA H H'->Q .non H')/\(ok d=false->∀H',zA H H'->E (.ref C) none H')
theorem zPY {f:ah}{fd:aX}{C:ah}(F:Fun K "need_book" "need_book" zDG f fd)(O:XCls K mg "NoBook" C)(a:zY P w K mg base 2 "is_book" ["thing"] zIW):FnOk P w K mg base (vN P w) 3 f fd ["thing"] (zAb C yZ):=by
 refine F.okR zLu (fun vs H Q E h=>?_) (fun b A outer s H vs Q E c h ok=>?_)
 ·obtain⟨v,d,rfl,_⟩:=h;rfl
 ·obtain⟨v,d,rfl,g,i,k1,k2⟩:=h
  refine⟨_,zO (vX (jW (jV (zU a c rfl (zB (pv 0) zD)))) (zO (zEA ok rfl O (by rfl) (zB vB zD))) vV),?_⟩
  refine⟨_,rfl,v,d,rfl,g,i,fun H' sm=>⟨_,rfl,?_⟩⟩
  cases e:yZ d with
  |true=>exact uH (k1 e H' sm)
  |false=>exact vM ⟨by show 1<=sizeLine;decide,k2 e H' sm⟩
theorem zPZ {f:ah}{fd:aX}{C:ah}(F:Fun K "need_order" "need_order" zDH f fd)(O:XCls K mg "NoOrder" C)(a:zY P w K mg base 2 "is_order" ["thing"] zIX):FnOk P w K mg base (vN P w) 3 f fd ["thing"] (zAb C uE):=by
 refine F.okR zLv (fun vs H Q E h=>?_) (fun b A outer s H vs Q E c h ok=>?_)
 ·obtain⟨v,d,rfl,_⟩:=h;rfl
 ·obtain⟨v,d,rfl,g,i,k1,k2⟩:=h
  refine⟨_,zO (vX (jW (jV (zU a c rfl (zB (pv 0) zD)))) (zO (zEA ok rfl O (by rfl) (zB vB zD))) vV),?_⟩
  refine⟨_,rfl,v,d,rfl,g,_,rfl,?_⟩
  cases e:uE d with
  |true=>exact uH (k1 e H (zA.refl H))
  |false=>exact vM ⟨by show 1<=sizeLine;decide,k2 e H (zA.refl H)⟩
end
def zEY (K:ae)(cs:List ah)(L:ah):Bool :=
 d7 K L g0 "ValueError.__new__"&&cs.all (fun c=>d7 K c g0 "ValueError.__new__"&&zAY K c L&& (dM K (.ref c) "__getattribute__"==some (some (.builtin "BaseException.__getattribute__")))&& (dM K (.ref c) "__getattr__"==some none)
  && (dM K (.ref c) "__class__"==some (some (.builtin "object.__class__")))&& (ny K c (.type "object")==some true)&& (bp K (.ref c) (.type "ValueError")==some true))
 && (ba cs.length).all fun i=>(ba cs.length).all fun j=>bp K (.ref (cs.getD i 0)) (.ref (cs.getD j 0))==some (decide (j=i))
def zIY:List Str:=["NoBook","NoOrder","NoName","NoWish","NoNumber","NotMade","TooShort","Nothing"]
structure ErrX (K:ae) (mg:Str->Option ag) (cs:List ah) (L:ah):Prop where
 len:cs.length=8
 like:XCls K mg "LikeError" L
 at_:∀i,i<8->XCls K mg (zIY.getD i ⟨#[]⟩) (cs.getD i 0)/\XLook K (cs.getD i 0)/\zAY K (cs.getD i 0) L=true/\bp K (.ref (cs.getD i 0)) (.type "ValueError")=some true
 kit:∀i j,i<8->j<8->bp K (.ref (cs.getD i 0)) (.ref (cs.getD j 0))=some (decide (j=i))
theorem zPa {K:ae}{mg:Str->Option ag}{a b c d e f g l L:ah}(o:mg "NoBook"=some (.ref a))(p:mg "NoOrder"=some (.ref b))(q:mg "NoName"=some (.ref c))(r:mg "NoWish"=some (.ref d))(s:mg "NoNumber"=some (.ref e))
  (t:mg "NotMade"=some (.ref f)) (u:mg "TooShort"=some (.ref g)) (v:mg "Nothing"=some (.ref l)) (w:mg "LikeError"=some (.ref L)) (h:zEY K [a,b,c,d,e,f,g,l] L=true):ErrX K mg [a,b,c,d,e,f,g,l] L:=by
 unfold zEY at h
 simp only[bc,cg,beq_iff_eq]at h
 obtain⟨⟨x,y⟩,z⟩:=h
 refine⟨rfl,⟨w,x⟩,fun i hi=>?_,fun i j hi A=>z i (bX.mpr hi) j (bX.mpr A)⟩
 have hm:([a,b,c,d,e,f,g,l].getD i 0)∈[a,b,c,d,e,f,g,l]:=by
  have m:i< [a,b,c,d,e,f,g,l].length:=hi
  rw[bN,aG m]
  exact dh m
 obtain⟨⟨⟨⟨⟨⟨n,B⟩,C⟩,D⟩,E⟩,F⟩,G⟩:=y _ hm
 refine⟨⟨?_,n⟩,⟨n,C,D,E,F⟩,B,G⟩
 match i,hi with
 |0,_=>exact o
 |1,_=>exact p
 |2,_=>exact q
 |3,_=>exact r
 |4,_=>exact s
 |5,_=>exact t
 |6,_=>exact u
 |7,_=>exact v
theorem zPb {K:ae}{a b c d e f g i L:ah}(j:aZ K mainGlobals "NoBook"=some (some (.ref a)))(l:aZ K mainGlobals "NoOrder"=some (some (.ref b)))(m:aZ K mainGlobals "NoName"=some (some (.ref c)))(n:aZ K mainGlobals "NoWish"=some (some (.ref d)))
  (o:aZ K mainGlobals "NoNumber"=some (some (.ref e))) (p:aZ K mainGlobals "NotMade"=some (some (.ref f))) (q:aZ K mainGlobals "TooShort"=some (some (.ref g))) (r:aZ K mainGlobals "Nothing"=some (some (.ref i))) (s:aZ K mainGlobals "LikeError"=some (some (.ref L)))
  (h:zEY K [a,b,c,d,e,f,g,i] L=true):∃t L,∀(h:bC) (mg:Str->Option ag),K.In h->h.Ns mainGlobals mg->ErrX K mg t L :=
 ⟨_,_,fun u mg X G=>zPa (bR X G j) (bR X G l) (bR X G m) (bR X G n) (bR X G o) (bR X G p) (bR X G q) (bR X G r) (bR X G s) h⟩
section
variable{P:aJ}{w:aV}{K:ae}{mg:Str->Option ag}{base:bC}
def zBI (H:Hp)(p:ah)(j:Nat):Prop:=H p=some (.tup [.str "refused",.int j])
def zEZ (cs:List ah):Sp:=fun vs H Q _=>∃(e:ah) (j:Nat),vs=[.ref e]/\j<8/\H e=some (XO e (cs.getD j 0))/\∀p H',zA H H'->H p=none->zBI H' p j->Q (.ref p) H'
abbrev zEa:cp:=top 64
theorem zIZ:FnScope ["_law_e","_law_flags"] ["_law_e"] (defScope zEa):=yD
structure BltE (mg:Str->Option ag):Prop where
 isinstance:mg "isinstance"=none
 ve:mg "ValueError"=none
def jO (j:Nat):List Bool:=[decide (0=j),decide (1=j),decide (2=j),decide (3=j),decide (4=j),decide (5=j),decide (6=j),decide (7=j)]
theorem zPc {j:Nat}(h:j<8):(jO j).count true=1/\(jO j)[j]?=some true/\∀i,i<j->(jO j)[i]?≠some true:=by
 have all:∀d:_root_.Fin 8,(jO d.val).count true=1/\(jO d.val)[d.val]?=some true/\∀i:_root_.Fin 8,i<d->(jO d.val)[i.val]?≠some true:=by decide+kernel
 obtain⟨a,b,c⟩:=all ⟨j,h⟩
 exact⟨a,b,fun i hi=>c ⟨i,by omega⟩ hi⟩
theorem zPd {f:ah}{fd:aX}{a:List ah}{L:ah}(F:Fun K "_law_refused" "_law_refused" zEa f fd)(B:BltE mg)(E:ErrX K mg a L):FnB P w K mg base z7 1 f fd ["_law_e"] (zEZ a):=by
 have g:∀i (hi:i<8),mg (zIY.getD i ⟨#[]⟩)=some (.ref (a.getD i 0)):=fun i hi=>(E.at_ i hi).1.bound
 refine F.okB zIZ (fun vs H Q E h=>?_) (fun I A outer s H vs Q X Y h=>?_)
 ·obtain⟨e,j,rfl,_⟩:=h;rfl
 ·obtain⟨e,j,rfl,l,b,k⟩:=h
  have nd:=zIZ.nd
  refine⟨_,zJ (zV (i:=1) nd rfl (Or.inl rfl) (vK (zB (yH kP (by rfl) B.isinstance bo (zB (pv 0) (zB (vC (v:=.ref (a.getD 0 0)) (by rfl) (g 0 (by decide)) rfl) zD)))
    (zB (yH kP (by rfl) B.isinstance bo (zB (pv 0) (zB (vC (v:=.ref (a.getD 1 0)) (by rfl) (g 1 (by decide)) rfl) zD)))
    (zB (yH kP (by rfl) B.isinstance bo (zB (pv 0) (zB (vC (v:=.ref (a.getD 2 0)) (by rfl) (g 2 (by decide)) rfl) zD))) zD)))))
   (zJ (zV (i:=1) nd rfl (Or.inl rfl) (zR zCb (pv 1) (vK (zB (yH kP (by rfl) B.isinstance bo (zB (pv 0) (zB (vC (v:=.ref (a.getD 3 0)) (by rfl) (g 3 (by decide)) rfl) zD)))
    (zB (yH kP (by rfl) B.isinstance bo (zB (pv 0) (zB (vC (v:=.ref (a.getD 4 0)) (by rfl) (g 4 (by decide)) rfl) zD)))
    (zB (yH kP (by rfl) B.isinstance bo (zB (pv 0) (zB (vC (v:=.ref (a.getD 5 0)) (by rfl) (g 5 (by decide)) rfl) zD))) zD))))))
   (zJ (zV (i:=1) nd rfl (Or.inl rfl) (zR zCb (pv 1) (vK (zB (yH kP (by rfl) B.isinstance bo (zB (pv 0) (zB (vC (v:=.ref (a.getD 6 0)) (by rfl) (g 6 (by decide)) rfl) zD)))
    (zB (yH kP (by rfl) B.isinstance bo (zB (pv 0) (zB (vC (v:=.ref (a.getD 7 0)) (by rfl) (g 7 (by decide)) rfl) zD))) zD)))))
   (zJ (vX (PW.pt (zBM (vJ gI (gL dY lK PySem.F.type_list_count zPL (pv 1) (zB qP zD)) zI (vD _))
     (zBL (jW (jV (yH kP (by rfl) B.isinstance bo (zB (pv 0) (zB (zAg (v:=.ty "ValueError") (by rfl) B.ve PyProof.Rows.Boot.«ValueError» rfl) zD)))))))) (zO (zZ (uN (zB vB (zB (zAh zAi zI) zD))))) vV)
   (zO (zZ (uN (zB vB (zB (gL dY lL PySem.F.type_list_index zPM (pv 1) (zB qP zD)) zD)))))))),?_⟩
  have kit:∀i,i<8->bp K (.ref (a.getD j 0)) (.ref (a.getD i 0))=some (decide (i=j)):=fun i hi=>E.kit j i l hi
  have c:=(E.at_ j l).2.1
  refine⟨_,rfl,e,_,_,_,rfl,b,c,.inl ⟨_,rfl,kit 0 (by decide)⟩,_,rfl,e,_,_,_,rfl,b,c,.inl ⟨_,rfl,kit 1 (by decide)⟩,_,rfl,e,_,_,_,rfl,b,c,.inl ⟨_,rfl,kit 2 (by decide)⟩,?_⟩
  refine⟨by show 3<=sizeLine;decide,fun J r=>?_⟩
  have m:=zA.upd1 (o:=.lst [V.bl (decide (0=j)),V.bl (decide (1=j)),V.bl (decide (2=j))]) r
  refine⟨_,rfl,_,rfl,e,_,_,_,rfl,m _ _ b,c,.inl ⟨_,rfl,kit 3 (by decide)⟩,_,rfl,e,_,_,_,rfl,m _ _ b,c,.inl ⟨_,rfl,kit 4 (by decide)⟩,_,rfl,e,_,_,_,rfl,m _ _ b,c,.inl ⟨_,rfl,kit 5 (by decide)⟩,?_⟩
  refine⟨by show 3<=sizeLine;decide,fun M t=>?_⟩
  have C:=zA.upd1 (o:=.lst [V.bl (decide (3=j)),V.bl (decide (4=j)),V.bl (decide (5=j))]) t
  refine⟨J,M,_,_,rfl,rfl,C _ _ zF,zF,by show 6<=sizeLine;decide,fun N u=>?_⟩
  have O:=zA.upd1 (o:=.lst ([V.bl (decide (0=j)),V.bl (decide (1=j)),V.bl (decide (2=j))]++[V.bl (decide (3=j)),V.bl (decide (4=j)),V.bl (decide (5=j))])) u
  have x:=(m.trans C).trans O
  refine⟨_,rfl,_,rfl,e,_,_,_,rfl,x _ _ b,c,.inl ⟨_,rfl,kit 6 (by decide)⟩,_,rfl,e,_,_,_,rfl,x _ _ b,c,.inl ⟨_,rfl,kit 7 (by decide)⟩,?_⟩
  refine⟨by show 2<=sizeLine;decide,fun R y=>?_⟩
  have D:=zA.upd1 (o:=.lst [V.bl (decide (6=j)),V.bl (decide (7=j))]) y
  refine⟨N,R,_,_,rfl,rfl,D _ _ zF,zF,by show 8<=sizeLine;decide,fun n z=>?_⟩
  have T:=zA.upd1 (o:=.lst ((jO j).map V.bl)) z
  have p:=(x.trans D).trans T
  obtain⟨f1,f2,U⟩:=zPc l
  have q:∀{G:Hp},upd G n (.lst ([V.bl (decide (0=j)),V.bl (decide (1=j)),V.bl (decide (2=j))]++[V.bl (decide (3=j)),V.bl (decide (4=j)),V.bl (decide (5=j))]++[V.bl (decide (6=j)),V.bl (decide (7=j))])) n=some (.lst ((jO j).map V.bl)):=fun{G}=>by rw[zF];rfl
  refine⟨_,rfl,.inl ⟨rfl,_,.of q⟩,n,jO j,true,rfl,rfl,q,rfl,_,rfl,k9 (by rw[f1];rfl) ?_⟩
  refine⟨_,rfl,e,_,_,true,rfl,p _ _ b,c,.inr ⟨_,rfl,(E.at_ j l).2.2.2⟩,true,rfl,uH ?_⟩
  refine⟨_,rfl,.inl ⟨rfl,_,.of q⟩,n,jO j,true,j,rfl,rfl,q,f2,U,by omega,by show 2<=sizeLine;decide,fun W d=>?_⟩
  exact k W _ (p.upd_new (p.free d)) (p.free d) zF
end
end Kn
end
section
namespace L2
open PySem PySem.Spec PyProof.Rows
section
variable{X:Cx}
def tFs (t1 t2:TE):TE:=fun σ H Q=>t1 σ H fun x H1=>∃i:Int,x=.int i/\0<=i/\i<1000/\t2 σ H1 fun y H2=>∃j:Int,y=.int j/\0<=j/\j<1000/\∀z:Str,Q (.str z) H2
theorem zIa {i:Int}(a:0<=i)(h:i<1000):i.natAbs.log2<1920:=by
 have b:i.natAbs<1000:=by omega
 by_cases hz:i.natAbs=0
 ·rw[hz];decide
 ·have:=(oO hz).mpr (show i.natAbs<2^10 by omega)
  omega
theorem zIb {i:Int}(b:0<=i)(h:i<1000):(l9 (toString i)).length<=100000:=by
 have e:=int_text_length_le (k:=10) (by decide) (a:=i) (by
  have c:i.natAbs<1000:=by omega
  by_cases hz:i.natAbs=0
  ·rw[hz];decide
  ·exact(oO hz).mpr (show i.natAbs<2^10 by omega))
 rw[PySem.ofString_length];omega
theorem zPe {a b:bV}{e f:TE}{x y z:Str}{d n o:Nat}{p q r w A pos:Pos}(B:PE X a e)(C:PE X b f)(R:x.length<=1000)(T:y.length<=1000)(hz:z.length<=1000) :
  PE X (.JoinedStr [.Constant (.str x) d p,.FormattedValue a (-1) none q,.Constant (.str y) n r,.FormattedValue b (-1) none w,.Constant (.str z) o A] pos) (tFs e f):=by
 intro c s σ H Q I h
 have hl:(1000000:Nat)<=sizeLine:=by rw[aR];decide
 have U:(qy++x).length=x.length:=by rw[cy];show 0+_=_;omega
 refine wpAny_JoinedStr (gq ⟨x,_,rfl,by omega,?_⟩)
 refine kc (zH (B c _ σ H _ (I.tok _) h) fun v W ⟨u,D,E,F,i,G,g,l,J⟩=>?_)
 subst G
 obtain⟨t,rfl⟩:=F
 have hi:=zIb g l
 refine mF (zIa g l) ⟨_,_,rfl,by rw[cy];omega,?_⟩
 refine gq ⟨y,_,rfl,by rw[cy,cy];omega,?_⟩
 refine kc (zH (C c _ σ D _ ((E.tok _).tok _) J) fun v Y ⟨u,L,M,N,j,O,m,d,P⟩=>?_)
 subst O
 obtain⟨t',rfl⟩:=N
 have Z:=zIb m d
 refine mF (zIa m d) ⟨_,_,rfl,by rw[cy,cy,cy];omega,?_⟩
 refine gq ⟨z,_,rfl,by rw[cy,cy,cy,cy];omega,?_⟩
 refine⟨by rw[cy,cy,cy,cy];omega,.str _,L,((M.tok _).tok _).tok _,⟨_,rfl⟩,P _⟩
end
theorem FnOk.calm {P:aJ}{w:aV}{K:ae}{mg:Str->Option ag}{base:bC}{k:Nat}{f:ah}{fd:aX}{ps:List Str}{sp sp':Sp}(F:FnOk P w K mg base (vN P w) k f fd ps sp)
  (h:∀vs H Q E,sp' vs H Q E->sp vs H Q (fun _ _ _=>False)):FnOk P w K mg base z7 k f fd ps sp':=by
 refine⟨fun vs H Q E q=>F.len vs H Q _ (h _ _ _ _ q),fun A outer s H args a vs Q E b d g i j=>?_⟩
 refine eJ (F.run A outer s H args a vs Q (fun _ _ _=>False) b d g i (h _ _ _ _ j)) fun res s' c=>?_
 cases res with
 |error e=>
  obtain⟨_,_,_,_,_,_,_,z⟩:=c
  exact z.elim
 |ok l=>cases l<;>exact c
end L2
end
section
namespace Kn.Ln
open PySem L2 Kn
def jP (d:bW):Bool:=qO 1 8 d
theorem zCL {H:Hp}{d:bW}{v:V}(h:yA H d v)(a:jP d=true):∃n:Nat,v=.int n/\1<=n/\n<=8:=by
 unfold jP at a
 cases d with
 |int i=>
  simp only[qO,bc,decide_eq_true_eq]at a
  refine⟨i.toNat,?_,by omega,by omega⟩
  rw[show v=.int i from h]
  congr 1
  omega
 |none=>cases a
 |bool b=>cases a
 |list ds=>cases a
 |tuple ds=>cases a
 |str x=>cases a
 |dict _=>cases a
section
variable{P:aJ}{w:aV}{K:ae}{mg:Str->Option ag}{base:bC}
def zIc (C:ah):Sp:=fun vs H Q E=>∃v d a b,vs=[v,.int a,.int b]/\0<=a/\a<1000/\0<=b/\b<1000/\yA H d v/\sml d=true/\(qO a b d=true->Q .non H)/\(qO a b d=false->E (.ref C) none H)
theorem zPf {f:ah}{fd:aX}{C:ah}(F:Fun K "need_whole" "need_whole" zED f fd)(O:XCls K mg "NoNumber" C)(c:zY P w K mg base 1 "is_whole" ["thing","least","most"] zEX):FnOk P w K mg base (vN P w) 2 f fd ["thing","least","most"] (zIc C):=by
 refine F.okR zNx (fun vs H Q E h=>?_) (fun g A outer s H vs Q E i h ok=>?_)
 ·obtain⟨v,d,a,b,rfl,_⟩:=h;rfl
 ·obtain⟨v,d,a,b,rfl,j,l,m,n,o,p,k1,k2⟩:=h
  refine⟨_,zO (vX (jW (jV (zU c i rfl (zB (pv 0) (zB (pv 1) (zB (pv 2) zD)))))) (zO (zEA ok rfl O (by rfl) (zB (zPe (pv 1) (pv 2) (by decide) (by decide) (by decide)) zD))) vV),?_⟩
  refine⟨_,rfl,_,rfl,_,rfl,v,d,a,b,rfl,o,_,rfl,?_⟩
  cases e:qO a b d with
  |true=>exact uH (k1 e)
  |false=>exact vM ⟨_,rfl,a,rfl,j,l,_,rfl,b,rfl,m,n,fun z=>⟨by show 1<=sizeLine;decide,k2 e⟩⟩
theorem zPg {f:ah}{fd:aX}{C:ah}(F:Fun K "need_length" "need_length" zEE f fd)(a:Cst K mg)(b:u7 P w K mg base 2 "need_whole" ["thing","least","most"] (zIc C)):FnOk P w K mg base (vN P w) 3 f fd ["thing"] (zAb C jP):=by
 obtain⟨m,c⟩:=a.ml
 refine F.okR zNy (fun vs H Q E h=>?_) (fun g A outer s H vs Q E i h ok=>?_)
 ·obtain⟨v,d,rfl,_⟩:=h;rfl
 ·obtain⟨v,d,rfl,j,l,k1,k2⟩:=h
  refine⟨_,zO (vW (uL b ok.pass i rfl (zB (pv 0) (zB zI (zB (vC (v:=.int 8) (by rfl) c ⟨_,rfl⟩) zD))))),?_⟩
  exact⟨_,rfl,v,d,1,8,rfl,by decide,by decide,by decide,by decide,j,l,fun e=>k1 e H (zA.refl H),fun e=>k2 e H (zA.refl H)⟩
structure NeedX (P:aJ) (w:aV) (K:ae) (mg:Str->Option ag) (base:bC) (nb no nn:ah):Prop where
 bk:u7 P w K mg base 3 "need_book" ["thing"] (zAb nb yZ)
 od:u7 P w K mg base 3 "need_order" ["thing"] (zAb no uE)
 ln:u7 P w K mg base 3 "need_length" ["thing"] (zAb nn jP)
 rows:zY P w K mg base 3 "counted_rows" ["book","order"] zAr
def kQ (nb no nn:ah)(good:Hp->List S->Nat->Nat->VK->Prop):Sp:=fun vs H Q E=>∃(v u y:V) (d e g:bW),vs=[v,u,y]/\yA H d v/\yA H e u/\yA H g y/\sml d=true/\sml e=true/\sml g=true/\
 (yZ d=false->∀H',zA H H'->E (.ref nb) none H')/\(yZ d=true->uE e=false->∀H',zA H H'->E (.ref no) none H')/\(yZ d=true->uE e=true->jP g=false->∀H',zA H H'->E (.ref nn) none H')/\
 (∀(a:ah) (bk:List S) (o n:Nat),v=.ref a->u=.int o->y=.int n->H a=some (.tup (zP bk))->Bk bk o->1<=n->n<=8->good H bk o n Q)
def zId (nb no:ah):Sp:=fun vs H Q E=>∃(v u:V) (d e:bW),vs=[v,u]/\yA H d v/\yA H e u/\sml d=true/\sml e=true/\
 (yZ d=false->∀H',zA H H'->E (.ref nb) none H')/\(yZ d=true->uE e=false->∀H',zA H H'->E (.ref no) none H')/\
 (∀(a:ah) (bk:List S) (o:Nat),v=.ref a->u=.int o->H a=some (.tup (zP bk))->Bk bk o->
  ∀(l:ah) (L:List Nat) (H':Hp),zA H H'->H l=none->H' l=some (.lst (L.map fun(n:Nat)=>V.int (n:Int)))->L.Pairwise (· < ·)->(∀n,n∈L↔1<=n/\n<=8/\∃x,uC (zC o bk) o n x)->Q (.ref l) H')
def zEb:Hp->List S->Nat->Nat->VK->Prop:=fun H bk o n Q=>∀(N:Nat) (H':Hp),zA H H'->zCD (zC o bk) o n N->Q (.int N) H'
def zIe (K:ae):Hp->List S->Nat->Nat->VK->Prop:=fun H bk o n Q=>(zC o bk).length<=60/\∀(v:V) (q:Int×Int) (H':Hp),zA H H'->yO K H' v q->g7 (zC o bk) o [n] q->Q v H'
def zIf (K:ae):Hp->List S->Nat->Nat->VK->Prop:=fun H bk o n Q=>(zC o bk).length<=60/\∀(v:V) (q:Int×Int) (H':Hp),zA H H'->yO K H' v q->g7 (zC o bk) o ((ba n).map (1+·)) q->Q v H'
def zIg:Hp->List S->Nat->Nat->VK->Prop:=fun H bk o n Q=>gZ bk/\(zC o bk).length<64/\∀(l:ah) (A:List S) (H':Hp),zA H H'->H l=none->H' l=some (.lst (A.map sv))->AllT (zC o bk) o n n A->A.length<=3^n->Q (.ref l) H'
theorem zPh {f:ah}{fd:aX}{J no L:ah}(F:Fun K "how_many" "how_many" sHM f fd)(N:NeedX P w K mg base J no L)(Y:zY P w K mg base 4 "how_many_by_rows" ["rows","order","length"] zEG):FnOk P w K mg base (vN P w) 5 f fd ["book","order","length"] (kQ J no L zEb):=by
 refine F.okR zOC (fun vs H Q E h=>?_) (fun Z A outer s H vs Q E M h ok=>?_)
 ·obtain⟨v,u,y,d,e,g,rfl,_⟩:=h;rfl
 ·obtain⟨v,u,y,d,e,g,rfl,O,i,T,sd,se,sg,kb,ko,kn,kg⟩:=h
  have t:=M.mono (j:=3) (by decide)
  refine⟨_,zJ (vW (uL N.bk ok.pass t rfl (zB (pv 0) zD))) (zJ (vW (uL N.od ok.pass t rfl (zB (pv 1) zD))) (zJ (vW (uL N.ln ok.pass t rfl (zB (pv 2) zD)))
   (zO (zZ (zU Y M rfl (zB (zU N.rows t rfl (zB (pv 0) (zB (pv 1) zD))) (zB (pv 1) (zB (pv 2) zD)))))))),?_⟩
  refine⟨_,rfl,v,d,rfl,O,sd,fun x U l=>?_,fun m U l=>kb m U l⟩
  refine⟨_,rfl,u,e,rfl,yA.same l _ _ i,se,fun go H1 c=>?_,fun z H1 c=>ko x z _ (l.trans c)⟩
  have b:=l.trans c
  refine⟨_,rfl,y,g,rfl,yA.same b _ _ T,sg,fun gn W p=>?_,fun B W p=>kn x go B _ (b.trans p)⟩
  have c:=b.trans p
  obtain⟨a,bk,rfl,X,C,rfl⟩:=zBG O x
  obtain⟨o,rfl,D,G⟩:=zBH i go
  obtain⟨n,rfl,I,q⟩:=zCL T gn
  have r:Bk bk o:=⟨C,D,G⟩
  have k:=kg a bk o n rfl rfl rfl X r I q
  refine⟨_,rfl,_,rfl,a,bk,o,rfl,c _ _ X,r.hi,r.l8,r.o1,fun d W p hd R=>?_⟩
  exact⟨_,rfl,_,rfl,d,o,n,bk,rfl,r,R,q,fun N H3 s3 hN=>k N H3 ((c.trans p).trans s3) hN⟩
theorem zPi {f:ah}{fd:aX}{O no R:ah}(F:Fun K "share_of_length" "share_of_length" zEK f fd)(N:NeedX P w K mg base O no R)(cS:zY P w K mg base 5 "share_from_to" ["book","order","least","most"] (zEJ K)):FnOk P w K mg base (vN P w) 6 f fd ["book","order","length"] (kQ O no R (zIe K)):=by
 refine F.okR zOI (fun vs H Q E h=>?_) (fun ab A outer s H vs Q E T h ok=>?_)
 ·obtain⟨v,u,y,d,e,g,rfl,_⟩:=h;rfl
 ·obtain⟨v,u,y,d,e,g,rfl,x,i,U,sd,se,sg,kb,ko,kn,kg⟩:=h
  have z:=T.mono (j:=3) (by decide)
  refine⟨_,zJ (vW (uL N.bk ok.pass z rfl (zB (pv 0) zD))) (zJ (vW (uL N.od ok.pass z rfl (zB (pv 1) zD))) (zJ (vW (uL N.ln ok.pass z rfl (zB (pv 2) zD)))
   (zO (zZ (zU cS T rfl (zB (pv 0) (zB (pv 1) (zB (pv 2) (zB (pv 2) zD))))))))),?_⟩
  refine⟨_,rfl,v,d,rfl,x,sd,fun B W l=>?_,fun m W l=>kb m W l⟩
  refine⟨_,rfl,u,e,rfl,yA.same l _ _ i,se,fun go H1 c=>?_,fun C H1 c=>ko B C _ (l.trans c)⟩
  have b:=l.trans c
  refine⟨_,rfl,y,g,rfl,yA.same b _ _ U,sg,fun gn D p=>?_,fun G D p=>kn B go G _ (b.trans p)⟩
  have c:=b.trans p
  obtain⟨a,bk,rfl,X,I,rfl⟩:=zBG x B
  obtain⟨o,rfl,J,L⟩:=zBH i go
  obtain⟨n,rfl,r,t⟩:=zCL U gn
  have Y:Bk bk o:=⟨I,J,L⟩
  obtain⟨M,k⟩:=kg a bk o n rfl rfl rfl X Y r t
  refine⟨_,rfl,_,rfl,_,rfl,_,rfl,a,bk,o,n,n,rfl,c _ _ X,Y,M,r,aD _,t,fun v q D p x Z=>k v q D (c.trans p) x ?_⟩
  have:(ba (n+1-n)).map (n+·)=[n]:=by rw[show n+1-n=1 by omega];simp
  rw[this]at Z
  exact Z
theorem zPj {f:ah}{fd:aX}{O no R:ah}(F:Fun K "share_up_to" "share_up_to" zET f fd)(N:NeedX P w K mg base O no R)(Z:zY P w K mg base 5 "share_from_to" ["book","order","least","most"] (zEJ K)):FnOk P w K mg base (vN P w) 6 f fd ["book","order","length"] (kQ O no R (zIf K)):=by
 refine F.okR zOx (fun vs H Q E h=>?_) (fun ab A outer s H vs Q E T h ok=>?_)
 ·obtain⟨v,u,y,d,e,g,rfl,_⟩:=h;rfl
 ·obtain⟨v,u,y,d,e,g,rfl,x,i,U,sd,se,sg,kb,ko,kn,kg⟩:=h
  have z:=T.mono (j:=3) (by decide)
  refine⟨_,zJ (vW (uL N.bk ok.pass z rfl (zB (pv 0) zD))) (zJ (vW (uL N.od ok.pass z rfl (zB (pv 1) zD))) (zJ (vW (uL N.ln ok.pass z rfl (zB (pv 2) zD)))
   (zO (zZ (zU Z T rfl (zB (pv 0) (zB (pv 1) (zB zI (zB (pv 2) zD))))))))),?_⟩
  refine⟨_,rfl,v,d,rfl,x,sd,fun B W l=>?_,fun m W l=>kb m W l⟩
  refine⟨_,rfl,u,e,rfl,yA.same l _ _ i,se,fun go H1 c=>?_,fun C H1 c=>ko B C _ (l.trans c)⟩
  have b:=l.trans c
  refine⟨_,rfl,y,g,rfl,yA.same b _ _ U,sg,fun gn D p=>?_,fun G D p=>kn B go G _ (b.trans p)⟩
  have c:=b.trans p
  obtain⟨a,bk,rfl,X,I,rfl⟩:=zBG x B
  obtain⟨o,rfl,J,L⟩:=zBH i go
  obtain⟨n,rfl,r,t⟩:=zCL U gn
  have Y:Bk bk o:=⟨I,J,L⟩
  obtain⟨M,k⟩:=kg a bk o n rfl rfl rfl X Y r t
  refine⟨_,rfl,_,rfl,_,rfl,a,bk,o,1,n,rfl,c _ _ X,Y,M,aD _,r,t,fun v q D p x hq=>k v q D (c.trans p) x hq⟩
theorem zPk {f:ah}{fd:aX}{nb no nn:ah}(F:Fun K "all_made" "all_made" sAM f fd)(B:Blt mg)(N:NeedX P w K mg base nb no nn)(cC:zY P w K mg base 3 "closing_ends" ["rows","order","length"] zHn)(cL:zY P w K mg base 3 "lengthened" ["rows","order","texts","targets"] zHp):FnOk P w K mg base (vN P w) 4 f fd ["book","order","length"] (kQ nb no nn zIg):=by
 refine F.okR zHv (fun vs H Q E h=>?_) (fun a2 A outer s H vs Q E M h ok=>?_)
 ·obtain⟨v,u,y,d,e,g,rfl,_⟩:=h;rfl
 ·obtain⟨v,u,y,d,e,g,rfl,hv,T,hy,sd,se,sg,kb,ko,kn,kg⟩:=h
  have nd:=zHv.nd
  refine⟨_,zJ (vW (uL N.bk ok.pass M rfl (zB (pv 0) zD))) (zJ (vW (uL N.od ok.pass M rfl (zB (pv 1) zD))) (zJ (vW (uL N.ln ok.pass M rfl (zB (pv 2) zD)))
   (zJ (zV (i:=3) nd rfl (Or.inl rfl) (zU N.rows M rfl (zB (pv 0) (zB (pv 1) zD))))
   (zJ (zV (i:=4) nd rfl (Or.inl rfl) (zU cC M rfl (zB (pv 3) (zB (pv 1) (zB (pv 2) zD)))))
   (zJ (zV (i:=5) nd rfl (Or.inl rfl) (vK (zB vB zD)))
   (zJ (vS sS rfl (zNO rfl B.range (zB (zR zCU (pv 2) zI) (zB (zAh zAi zI) (zB (zAh zAi zI) zD)))) (z0 (i:=6) nd rfl (Or.inl rfl))
     (zO (zV (i:=5) nd rfl (Or.inl rfl) (zU cL M rfl (zB (pv 3) (zB (pv 1) (zB (pv 5) (zB (uY zAG (pv 4) (pv 6) (fun _ _=>rfl)) zD))))))))
   (zO (zZ (pv 5))))))))),?_⟩
  refine⟨_,rfl,v,d,rfl,hv,sd,fun gb H0 U=>?_,fun W H0 U=>kb W H0 U⟩
  refine⟨_,rfl,u,e,rfl,yA.same U _ _ T,se,fun go H1 O=>?_,fun ao H1 O=>ko gb ao _ (U.trans O)⟩
  have z:=U.trans O
  refine⟨_,rfl,y,g,rfl,yA.same z _ _ hy,sg,fun gn H2 X=>?_,fun ap H2 X=>kn gb go ap _ (z.trans X)⟩
  have O:=z.trans X
  obtain⟨a,bk,rfl,ha,as,rfl⟩:=zBG hv gb
  obtain⟨o,rfl,au,ax⟩:=zBH T go
  obtain⟨n,rfl,Y,Z⟩:=zCL hy gn
  have C:Bk bk o:=⟨as,au,ax⟩
  obtain⟨r,ab,k⟩:=kg a bk o n rfl rfl rfl ha C Y Z
  refine⟨_,rfl,_,rfl,a,bk,o,rfl,O _ _ ha,C.hi,C.l8,C.o1,fun d H2 X hd R=>?_⟩
  refine⟨_,rfl,_,rfl,_,rfl,d,o,n,bk,rfl,C,ab,R,Y,Z,fun c cl H3 s3 hc aA a3=>?_⟩
  have D:=(O.trans X).trans s3
  refine⟨by show 1<=sizeLine;decide,fun t0 ac=>?_⟩
  have s4:zA H3 (upd H3 t0 (.lst [V.str ""])):=zA.upd1 ac
  refine⟨_,rfl,_,_,rfl,rfl,_,rfl,_,rfl,(n:Int)-1,-1,rfl,⟨by omega,by omega,by decide,by decide⟩,?_⟩
  have al:((n:Int)-1- -1).toNat=n:=by omega
  have aK:H t0=none:=D.free ac
  obtain⟨aN,aW⟩:=aA
  refine uU (zNK _ _ _) (fun i σ H'=>∃(G:ah) (x6:Option V) (A:List S),σ=[some (.ref a),some (.int o),some (.int n),some (.ref d),some (.ref c),some (.ref G),x6]/\H G=none/\H' G=some (.lst (A.map sv))/\AllT (zC o bk) o n i A/\A.length<=3^i/\zA H3 H')
   ⟨t0,_,[[]],rfl,aK,zF,AllT.start _ _ _,by simp,s4⟩ (fun _ _ _ _ _=>trivial) ?_ ?_
  ·rintro i x σ H' Nx hN I ⟨G,x6,A,rfl,am,hA,b,J,sm⟩
   rw[al]at I
   have hi:i<n:=by
    have:=(af.mp I).1
    simpa using this
   rw[aq,cV hi]at I
   have hx2:x=V.int ((n-1-i:Nat):Int):=by
    have h1:V.int ((n:Int)-1+(i:Int)* -1)=x:=ay I
    rw[<-h1]
    congr 1
    omega
   subst hx2
   obtain⟨q,hq⟩:∃q,cl[n-1-i]?=some q:=⟨_,aG (by omega)⟩
   obtain⟨_,q2,q3⟩:=aW _ _ hq
   have a0:qS (cl.map fun q=>V.ref q.1) ((n-1-i:Nat):Int)=some (V.ref q.1):=jF (by rw[aq,hq];rfl)
   have hl3:A.length<=6561:=by
    have h1:3^i<=3^8:=dQ (by decide) (by omega)
    have h2:3^8=6561:=by decide
    omega
   have j:∀t∈A,t.length<=8/\∃l,(zE t o,l)∈zC o bk:=fun t m=>by
    obtain⟨g1,g2,g3⟩:=b.snd t m
    refine⟨by omega,?_⟩
    by_cases a1:0<i
    ·exact zNW (g3 a1)
    ·have:t=[]:=cw.mp (by omega)
     rw[this]
     have e0:zE ([]:S) o=[]:=by unfold zE;simp
     rw[e0]
     exact zHd C
   refine⟨_,rfl,_,rfl,_,rfl,_,rfl,_,rfl,c,_,((n-1-i:Nat):Int),V.ref q.1,rfl,rfl,.of (sm _ _ aN),a0,d,G,q.1,o,bk,A,q.2,rfl,C,r,ab,(R.same s3).same sm,hA,sm _ _ q2,by omega,j,fun l lt H5 s5 hl L an=>?_⟩
   have p:∀t∈A,zBB (zC o bk) o q.2 (zE t o) (lt (zE t o)):=fun t m=>L _ (j t m).2
   refine hN _ _ ⟨l,_,_,rfl,(D.trans sm).free hl,an,b.step (kK o bk) hi lt (fun t m=>(p t m).1) (fun t m x=>?_),?_,sm.trans s5⟩
   ·rw[(p t m).2,q3,show n- (i+1)=n-1-i by omega]
   ·have h1:=zBy A (fun t=>(lt (zE t o)).map (t++·)) fun t m=>by
     rw[aa]
     exact zBx r (e:=zE t o) (p t m).1 fun x I=>⟨(((p t m).2 x).mp I).1,(((p t m).2 x).mp I).2.1⟩
    rw[rG];omega
  ·rintro σ H' ⟨G,x6,A,rfl,am,hA,b,J,sm⟩
   rw[aa,bO,al]at b J
   exact⟨_,rfl,k G A H' (D.trans sm) am hA b J⟩
theorem zPl {f:ah}{fd:aX}{nb no nn:ah}(F:Fun K "lengths" "lengths" zEL f fd)(B:Blt mg)(C:Cst K mg)(N:NeedX P w K mg base nb no nn)(cH:zY P w K mg base 4 "how_many_by_rows" ["rows","order","length"] zEG):FnOk P w K mg base (vN P w) 5 f fd ["book","order"] (zId nb no):=by
 obtain⟨t8,h8⟩:=C.ml
 refine F.okR zHy (fun vs H Q E h=>?_) (fun ao A outer s H vs Q E hr h ok=>?_)
 ·obtain⟨v,u,d,e,rfl,_⟩:=h;rfl
 ·obtain⟨v,u,d,e,rfl,hv,r,sd,se,kb,ko,kg⟩:=h
  have nd:=zHy.nd
  have T:=hr.mono (j:=3) (by decide)
  refine⟨_,zJ (vW (uL N.bk ok.pass T rfl (zB (pv 0) zD))) (zJ (vW (uL N.od ok.pass T rfl (zB (pv 1) zD)))
   (zJ (zV (i:=2) nd rfl (Or.inr rfl) (zU N.rows T rfl (zB (pv 0) (zB (pv 1) zD))))
   (zO (zZ (vE (N:=["rows","order","length"]) (caps:=[2,1]) rfl (y9 (by kernel_rfl)) (zCR rfl B.range (zB zI (zB (zR y0 (vC (v:=.int 8) (by rfl) h8 ⟨_,rfl⟩) zI) zD)))
     (fun cl X s H ex=>z0 (i:=2) zOJ rfl (Or.inl rfl)) (fun cl X s H ex=>j8 (vJ zBO (zU cH hr rfl (zB (pv 0) (zB (pv 1) (zB (pv 2) zD)))) zI (vD _))) (fun cl X s H ex=>pv 2)))))),?_⟩
  refine⟨_,rfl,v,d,rfl,hv,sd,fun gb H0 y=>?_,fun z H0 y=>kb z H0 y⟩
  refine⟨_,rfl,u,e,rfl,yA.same y _ _ r,se,fun go H1 p=>?_,fun U H1 p=>ko gb U _ (y.trans p)⟩
  have p:=y.trans p
  obtain⟨a,bk,rfl,ha,W,rfl⟩:=zBG hv gb
  obtain⟨o,rfl,Y,Z⟩:=zBH r go
  have G:Bk bk o:=⟨W,Y,Z⟩
  have k:=kg a bk o rfl rfl ha G
  refine⟨_,rfl,_,rfl,a,bk,o,rfl,p _ _ ha,G.hi,G.l8,G.o1,fun d H2 s2 hd R=>?_⟩
  refine⟨_,_,rfl,rfl,1,9,rfl,⟨by decide,by decide,by decide,by decide⟩,?_⟩
  obtain⟨b,I⟩:∃b:Nat->Bool,∀n,b n=true↔∃x,uC (zC o bk) o n x:=by
   refine⟨fun n=>!(((Tx (yF (zC o bk)) o (aB n [])).filter fun t=>decide ((zE t o,[])∈zC o bk)).isEmpty),fun n=>?_⟩
   rw[dX,d3]
   exact⟨fun⟨x,c⟩=>⟨x,(zAy (lts _) (kK o bk) o n x).mpr c⟩,fun⟨x,c⟩=>⟨x,(zAy (lts _) (kK o bk) o n x).mp c⟩⟩
  refine kG (uZ 1 _) [some (.ref d),some (.int o)] 1 (by decide) (fun i g H'=>zA H2 H'/\g=((((ba 8).map (1+·)).take i).filter b).map fun(n:Nat)=>V.int (n:Int))
   ⟨zA.refl _,rfl⟩ (fun i g H' _ h=>⟨trivial,by
    rw[h.2,aa]
    have J:=bj b (((ba 8).map (1+·)).take i)
    rw[aO]at J
    omega⟩) ?_ ?_
  ·rintro i x g H' ys Nx hN c hy ⟨sm,rfl⟩
   obtain⟨y',rfl⟩:=uD hy
   have L:i<8:=by
    have:=(af.mp c).1
    simpa using this
   have hx2:x=V.int ((1+i:Nat):Int):=by
    have J:((ba 8).map fun(i:Nat)=>V.int (1+(i:Int)))[i]?=some x:=c
    rw[aq,cV L]at J
    exact(ay J).symm
   subst hx2
   have ab:i<((ba 8).map (1+·)).length:=by rw[aa,bO];exact L
   have O:((ba 8).map (1+·)).take (i+1)=((ba 8).map (1+·)).take i++[1+i]:=by
    rw[ak ab]
    congr 1
    simp
   refine⟨_,rfl,_,rfl,_,rfl,d,o,1+i,bk,rfl,G,R.same sm,by omega,fun Nn H3 s3 ac=>⟨_,_,rfl,rfl,_,rfl,?_⟩⟩
   obtain⟨M,al,q⟩:=zCC (zC o bk) (kK o bk) o (1+i)
   have am:=ac M al q
   have l:(0<Nn)↔b (1+i)=true:=by
    rw[I,am,List.length_pos_iff_exists_mem]
    exact⟨fun⟨x,c⟩=>⟨x,(q x).mp c⟩,fun⟨x,c⟩=>⟨x,(q x).mpr c⟩⟩
   by_cases hp:0<Nn
   ·refine kI (by omega) ⟨_,rfl,hN _ _ [some (V.int ((1+i:Nat):Int))] rfl ⟨sm.trans s3,?_⟩⟩
    rw[O,zAX _ _ _ (l.mp hp),aC];rfl
   ·refine qJ (by omega) (hN _ _ [some (V.int ((1+i:Nat):Int))] rfl ⟨sm.trans s3,?_⟩)
    rw[O,gX _ _ _ (by cases an:b (1+i)with|false=>rfl|true=>exact absurd (l.mpr an) hp)]
  ·rintro g H' ⟨sm,rfl⟩ D hD
   have e8:(((ba 8).map (1+·)).take ((ba ((9:Int)-1).toNat).map fun(i:Nat)=>V.int (1+(i:Int))).length)=(ba 8).map (1+·):=rfl
   rw[e8]
   have sD:zA H' (upd H' D (.lst (((((ba 8).map (1+·)).filter b).map fun(n:Nat)=>V.int (n:Int))))):=zA.upd1 hD
   refine k D (((ba 8).map (1+·)).filter b) _ ((p.trans s2).trans (sm.trans sD)) ((p.trans s2).free (sm.free hD)) zF (cM _ (by decide)) fun n=>?_
   rw[aQ,I]
   have:n∈(ba 8).map (1+·)↔1<=n/\n<=8:=by
    rw[az]
    constructor
    ·rintro⟨m,hm,rfl⟩
     have:=bX.mp hm
     omega
    ·rintro⟨J,h2⟩
     exact⟨n-1,bX.mpr (by omega),by omega⟩
   rw[this,and_assoc]
end
end Kn.Ln
end
section
namespace Kn
open PySem L2
section
variable{P:aJ}{w:aV}{K:ae}{mg:Str->Option ag}{base:bC}
abbrev zEc:cp:=top 58
theorem zIh:FnScope ["_law_book_here","_law_order","_law_found","_law_name_here","_law_size","_law_end","_law_letter"] ["_law_book_here","_law_order"] (defScope zEc):=yD
theorem zIi (t:S)(o n:Nat)(a:1<=o)(b:1<=n)(hl:t.length=n):vZ (tx t) (some (0- (if(n:Int)<(o:Int)then(n:Int)else(o:Int)))) none=tx (zE t o):=by
 by_cases h:n<o
 ·rw[if_pos (by omega)]
  have e:(0:Int)- (n:Int)=-(n:Int):=by omega
  rw[e,zCy t n b,zGN (by omega),zGN (by omega)]
 ·rw[if_neg (by omega)]
  have e:(0:Int)- (o:Int)=-(o:Int):=by omega
  rw[e,zCy t o a]
theorem zIj {o:Nat}{t:S}{j:Nat}(h:j<t.length+1):(yG o t)[j]?=some (zE (t.take j) o,(t.drop j).take 1):=by
 unfold yG
 rw[aq,cV h];rfl
theorem zCM (o:Nat)(t:S):(yG o t).length=t.length+1:=by unfold yG;rw[aa,bO]
theorem zPm {f:ah}{fd:aX}(F:Fun K "_law_counts" "_law_counts" zEc f fd)(B:Blt mg):FnOk P w K mg base z7 1 f fd ["_law_book_here","_law_order"] zAr:=by
 refine F.ok zIh (fun vs H Q E h=>?_) (fun a4 A outer s H vs Q E hr h=>?_)
 ·obtain⟨a,bk,o,rfl,_⟩:=h;rfl
 ·obtain⟨a,bk,o,rfl,ha,a5,Z,ho,k⟩:=h
  have W:=uT hr
  have nd:=zIh.nd
  refine⟨_,zJ (zV (i:=2) nd rfl (Or.inl rfl) j7)
   (zJ (vS bF rfl (zBN (pv 0)) (z0 (i:=3) nd rfl (Or.inl rfl))
    (zO (vS bF rfl (jD rfl B.range (zB (zR y0 (yH jZ (by rfl) B.len cu (zB (pv 3) zD)) zI) zD)) (z0 (i:=4) nd rfl (Or.inl rfl))
     (zJ (zV (i:=5) nd rfl (Or.inl rfl) (zEs (vJ zBO (pv 4) zI (vD _)) (kB (kB (pv 3) zAF (qE (pv 4))) (qE (zR zCU zI (yH (zFJ rfl) (by rfl) B.min mG (zB (pv 1) (zB (pv 4) zD))))) zAF) vB))
     (zJ (zV (i:=6) nd rfl (Or.inl rfl) (kB (pv 3) (qE (pv 4)) (qE (zR y0 (pv 4) zI))))
     (zJ (vX (zBK (zFg W (pv 5) (pv 2))) (zO (gO W (pv 2) (pv 5) j7 rfl)) vV)
     (zO (gO W (j6 W (pv 2) (pv 5) (fun _ _=>rfl)) (pv 6) (zR y0 (zAI W (j6 W (pv 2) (pv 5) (fun _ _=>rfl)) (pv 6) zI ⟨rfl,rfl,rfl,rfl⟩) zI) rfl))))))))
   (zO (zZ (pv 2)))),?_⟩
  intro d hd
  have s1:zA H (upd H d (.dK [])):=zA.upd1 hd
  refine⟨_,rfl,a,rfl,⟨_,.of (s1 _ _ ha)⟩,?_⟩
  refine uU (zBY K a (zP bk)) (fun i σ H'=>(∃x y z u:Option V,σ=[some (.ref a),some (.int o),some (.ref d),x,y,z,u])/\zA H H'/\∃ra,RA H H' d (zC o (bk.take i)) ra)
   ⟨⟨_,_,_,_,rfl⟩,s1,[],⟨rfl,zF,by simp,by simp,by simp⟩⟩ (fun i σ H' _ h=>.of (h.2.1 _ _ ha)) ?_ ?_
  ·rintro i x σ H' Nx hN M ⟨⟨x1,x2,x3,x4,rfl⟩,sm,ra,R⟩
   rw[zP,aq]at M
   cases e:bk[i]? with
   |none=>rw[e]at M;cases M
   |some nm=>
   rw[e]at M
   have au:x=sv nm:=(ay M).symm
   subst au
   have a6:=Z nm (aT e)
   have hi:i<bk.length:=(af.mp e).1
   have N:bk.take (i+1)=bk.take i++[nm]:=by
    rw[ak hi]
    have:=(af.mp e).2
    rw[this]
   have m:zC o (bk.take (i+1))=zC o (bk.take i)++yG o nm:=by
    rw[N,zGM];simp[zC]
   have ax:((zC o (bk.take (i+1))).length:Int)<=100:=by
    rw[zAp]
    have go:∀l:List S,(∀x∈l,x.length<=8)->(l.map fun x=>(x.length:Int)+1).sum<=9*(l.length:Int):=by
     intro l
     induction l with
     |nil=>intro _;simp
     |cons x r ih=>
      intro hl
      have h1:=hl x (aj ..)
      have h2:=ih fun y hy=>hl y (ar _ hy)
      rw[aF,bb,bg]
      have:((r.length+1:Nat):Int)=(r.length:Int)+1:=rfl
      omega
    have:=go (bk.take (i+1)) fun x M=>Z x (cz M)
    have h3:(bk.take (i+1)).length<=8:=by rw[aO];omega
    omega
   refine⟨_,rfl,tx nm,rfl,by rw[yB,aR];omega,_,_,rfl,rfl,_,rfl,by rw[yB];omega,by rw[yB];omega,?_⟩
   have ab:(((tx nm).length:Int)+1).toNat=nm.length+1:=by rw[yB];omega
   refine uU (uZ 0 _) (fun j σ G=>(∃y z u:Option V,σ=[some (.ref a),some (.int o),some (.ref d),some (sv nm),y,z,u])/\zA H G/\∃ra,RA H G d (zC o (bk.take i)++(yG o nm).take j) ra)
    ⟨⟨_,_,_,rfl⟩,sm,ra,by simpa using R⟩ (fun _ _ _ _ _=>trivial) ?_ ?_
   ·rintro j x σ G ac al hx2 ⟨⟨y,z,u,rfl⟩,t,b,R2⟩
    rw[ab]at hx2
    obtain⟨hj,rfl⟩:=jK hx2
    have ep:=zIj (o:=o) hj
    generalize hp:((zE (nm.take j) o,(nm.drop j).take 1):S×S)=p at ep
    have am:zE (nm.take j) o=p.1:=by rw[<-hp]
    have aA:(nm.drop j).take 1=p.2:=by rw[<-hp]
    have aK:j<(yG o nm).length:=by rw[zCM];exact hj
    have O:zC o (bk.take i)++(yG o nm).take (j+1)=(zC o (bk.take i)++(yG o nm).take j)++[p]:=by
     rw[ak aK,(af.mp ep).2,eE]
    generalize aN:zC o (bk.take i)++(yG o nm).take j=ps at R2 O
    have a7:ps.length<=100:=by
     have h1:ps.length<=(zC o (bk.take (i+1))).length:=by
      rw[<-aN,m,aE,aE,aO];omega
     omega
    have a3:b.length<=100:=by
     have h1:=(zDI ps).1
     rw[<-R2.rows,aa]at h1
     omega
    refine⟨_,rfl,_,_,rfl,rfl,_,rfl,?_⟩
    refine' (fun(cont:∀q:V,q=sv p.1->(_:V->Prop) q)=>?main) ?cont
    case main=>
     by_cases h0:0<j
     ·refine kI (by omega) ?_
      refine⟨_,rfl,_,rfl,_,rfl,tx nm,rfl,by rw[yB,aR];omega,_,rfl,_,rfl,_,_,rfl,_,_,rfl,rfl,_,rfl,_,rfl,?_,?_⟩
      ·rw[zBh,yB,aR,aO];omega
      ·have ec:vZ (vZ (tx nm) none (some (j:Int))) (some (0- (if(j:Int)<(o:Int)then(j:Int)else(o:Int)))) none=tx p.1:=by
        rw[zBh,zIi (nm.take j) o j ho h0 (by rw[aO];omega),am]
       have ev:V.str (vZ (vZ (tx nm) none (some (j:Int))) (some (0- (if(j:Int)<(o:Int)then(j:Int)else(o:Int)))) none)=sv p.1:=congrArg V.str ec
       revert ev
       generalize V.str (vZ (vZ (tx nm) none (some (j:Int))) (some (0- (if(j:Int)<(o:Int)then(j:Int)else(o:Int)))) none)=q
       intro ev
       exact cont q ev
     ·have aW:j=0:=by omega
      subst aW
      refine qJ (by omega) ?_
      have n:p.1=[]:=by rw[<-am];simp[zE]
      have ev:V.str ""=sv p.1:=by rw[n];rfl
      revert ev
      generalize V.str ""=q
      intro ev
      exact cont q ev
    case cont=>
     intro q hq
     subst hq
     refine⟨_,rfl,_,rfl,_,rfl,_,rfl,_,_,rfl,rfl,_,rfl,tx nm,rfl,by rw[yB,aR];omega,?_⟩
     have an:vZ (tx nm) (some (j:Int)) (some ((j:Int)+1))=tx p.2:=by rw[zCz,aA]
     rw[an]
     refine⟨_,rfl,_,rfl,d,_,rfl,yV.k (k:=Sum.inr (tx p.1)) R2.top,_,rfl,?_⟩
     rw[v9]
     have fin:∀(ad:ah) (row:List (S×Int)) (X:Hp) (enc:List (zK×V)),X d=some (.dK enc)->yM enc (Sum.inr (tx p.1))=some (.ref ad)->X ad=some (.dK (zN row))->(row.map (·.1)).Nodup->row.length<=100->(∀Y,Y=upd X ad (.dK (zN (vP row p.2)))->ac [some (.ref a),some (.int o),some (.ref d),some (sv nm),some (.int j),some (sv p.1),some (sv p.2)] Y)->
       zCd (zBU (vR 2) (vR 5)) (vR 6) (tOp (jY fun i j=>V.int (i+j)) (zCe (zBU (vR 2) (vR 5)) (vR 6) (tC (.int 0))) (tC (.int 1))) {nx:=ac,rt:=Q,bk:=fun _ _=>False,ct:=fun _ _=>False} [some (.ref a),some (.int o),some (.ref d),some (sv nm),some (.int j),some (sv p.1),some (sv p.2)] X:=by
      intro ad row X enc ao ap C a0 a8 hq
      have dg:yV X d (sv p.1) (some (.ref ad)):=by
       have:=yV.k (k:=Sum.inr (tx p.1)) ao
       rw[ap]at this
       exact this
      refine⟨_,rfl,_,rfl,d,_,rfl,dg,ad,rfl,.inl ⟨_,.inl C⟩,_,rfl,_,yV.k (k:=Sum.inr (tx p.2)) C,(zL row p.2).getD 0,1,?_,rfl,?_⟩
      ·rw[v9]
       cases zL row p.2<;>rfl
      ·refine⟨_,rfl,_,rfl,d,_,rfl,dg,_,rfl,ad,_,rfl,qV.k (k:=Sum.inr (tx p.2)) C (by rw[vT,aR];omega),hq _ ?_⟩
       rw[gB V.int row p.2 _ a0]
       rfl
     cases g:zL b p.1 with
     |some v=>
      obtain⟨r1,r2,r3,r4,r5⟩:=zGd R2 g
      refine uH ?_
      refine fin v.1 v.2 G _ R2.top (by rw[v9,g];rfl) r1 r2 (by omega) fun Y I=>?_
      have RR:RA H Y d (ps++[p]) (zW b p.1 (v.1,vP v.2 p.2)):=by
       refine R2.step p v.2 (by rw[g];rfl) (fun v' D=>by rw[g]at D;rw[ay D]) (fun hn=>by rw[g]at hn;cases hn) (by rw[I,zF]) ?_ fun r c T=>?_
       ·rw[I,zG r5.symm,R2.top]
        have:=zGc (fun v:ah×List (S×Int)=>V.ref v.1) b p.1 (v.1,vP v.2 p.2) v g rfl
        rw[this]
       ·rw[I,zG T];exact R2.row r c
      refine al _ _ ⟨⟨_,_,_,rfl⟩,?_,_,by rw[O];exact RR⟩
      rw[I]
      exact t.upd_new r4
     |none=>
      refine vM ?_
      intro n J
      have L:H n=none:=t.free J
      have U:d≠n:=yI R2.top J
      have s3:zA G (upd G n (.dK [])):=zA.upd1 J
      have hx3:upd G n (.dK []) d=some (.dK (zT (fun v:ah×List (S×Int)=>V.ref v.1) b)):=s3 _ _ R2.top
      have a1:∀r∈b,r.2.1≠n:=fun r c=>yI (R2.row r c) J
      refine⟨_,rfl,_,rfl,d,_,rfl,qV.k (k:=Sum.inr (tx p.1)) hx3 (by rw[vT,aR];omega),?_⟩
      have as:=gB (fun v:ah×List (S×Int)=>V.ref v.1) b p.1 (n,[]) (zBj R2)
      have a2:upd (upd G n (.dK [])) d (.dK (vL (zT (fun v:ah×List (S×Int)=>V.ref v.1) b) (Sum.inr (tx p.1)) (.ref n))) n=some (.dK (zN [])):=by
       rw[zG U.symm,zF];rfl
      refine fin n [] _ _ zF (by rw[zKa,if_pos rfl]) a2 (by simp) (by simp) fun Y I=>?_
      have RR:RA H Y d (ps++[p]) (zW b p.1 (n,vP [] p.2)):=by
       refine R2.step p [] (by rw[g];rfl) (fun v' D=>by rw[g]at D;cases D) (fun _=>⟨L,U.symm,fun hm=>?_⟩) (by rw[I,zF]) ?_ fun r c T=>?_
       ·obtain⟨r,c,e⟩:=az.mp hm
        exact a1 r c e
       ·rw[I,zG U,zF,as]
        congr 2
        have hk:p.1∉b.map (·.1):=zCt.mp g
        rw[gC _ _ _ hk,gC _ _ _ hk]
        unfold zT yW
        rw[aC,aC,aC,aC]
        rfl
       ·rw[I,zG T,zG (R2.new r c).2];exact s3 _ _ (R2.row r c)
      refine al _ _ ⟨⟨_,_,_,rfl⟩,?_,_,by rw[O];exact RR⟩
      rw[I]
      exact((t.trans s3).upd_new hd).upd_new L
   ·rintro σ G ⟨⟨y,z,u,rfl⟩,t,b,R2⟩
    refine hN _ _ ⟨⟨_,_,_,_,rfl⟩,t,b,?_⟩
    rw[m]
    rw[aa,bO,ab,<-zCM o nm,aU]at R2
    exact R2
  ·rintro σ H' ⟨⟨x1,x2,x3,x4,rfl⟩,sm,ra,R⟩
   refine⟨_,rfl,k d H' sm hd ⟨ra,?_,R.top,R.row⟩⟩
   rw[R.rows]
   have:(zP bk).length=bk.length:=by simp[zP]
   rw[this,aU]
abbrev zEd:cp:=top 59
theorem zIk:FnScope ["_law_book_here","_law_order","_law_text","_law_end"] ["_law_book_here","_law_order","_law_text"] (defScope zEd):=yD
def zEe:Sp:=fun vs H Q _=>∃(a:ah) (bk:List S) (o:Nat) (x:S),vs=[.ref a,.int o,sv x]/\H a=some (.tup (zP bk))/\bk.length<=8/\(∀y∈bk,y.length<=8)/\1<=o/\x.length<=64/\∀ra H',zA H H'->H' ra=some (.dK (zN (yE (zC o bk) (zE x o))))->Q (.ref ra) H'
theorem zPn {f:ah}{fd:aX}(F:Fun K "_law_row" "_law_row" zEd f fd)(B:Blt mg)(D:zY P w K mg base 1 "_law_counts" ["_law_book_here","_law_order"] zAr):FnOk P w K mg base z7 2 f fd ["_law_book_here","_law_order","_law_text"] zEe:=by
 refine F.ok zIk (fun vs H Q E h=>?_) (fun G A outer s H vs Q E y h=>?_)
 ·obtain⟨a,bk,o,x,rfl,_⟩:=h;rfl
 ·obtain⟨a,bk,o,x,rfl,I,l,m,C,T,k⟩:=h
  have J:=uT y
  have nd:=zIk.nd
  refine⟨_,zJ (zV (i:=3) nd rfl (Or.inl rfl) (zEs (vJ gI (pv 2) vB (vD _)) (kB (pv 2) (qE (zR zCU zI (yH (zFJ rfl) (by rfl) B.min mG (zB (pv 1) (zB (yH jZ (by rfl) B.len cu (zB (pv 2) zD)) zD))))) zAF) vB))
   (zO (zZ (zAI J (zU D y rfl (zB (pv 0) (zB (pv 1) zD))) (pv 3) j7 ⟨rfl,rfl,rfl,rfl⟩))),?_⟩
  refine⟨_,rfl,rfl,_,rfl,?_⟩
  refine' (fun(cont:∀q:V,q=sv (zE x o)->(_:V->Prop) q)=>?main) ?cont
  case main=>
   by_cases n:x=[]
   ·subst n
    refine k9 rfl ?_
    have ev:V.str ""=sv (zE [] o):=by simp[zE];rfl
    revert ev
    generalize V.str ""=q
    intro ev
    exact cont q ev
   ·have p:¬V.str (tx x)=V.str "" :=fun z=>n (qK (V.str.inj z))
    have e:1<=x.length:=by
     have:x.length≠0:=fun z=>n (cw.mp z)
     omega
    refine zAP p ?_
    refine⟨_,rfl,_,rfl,_,rfl,tx x,rfl,by rw[yB,aR];omega,_,_,rfl,_,_,rfl,rfl,_,rfl,tx x,rfl,by rw[yB,aR];omega,?_⟩
    have ev:V.str (vZ (tx x) (some (0- (if((tx x).length:Int)<(o:Int)then((tx x).length:Int)else(o:Int)))) none)=sv (zE x o):=by
     rw[yB]
     exact congrArg V.str (zIi x o x.length C e rfl)
    revert ev
    generalize V.str (vZ (tx x) (some (0- (if((tx x).length:Int)<(o:Int)then((tx x).length:Int)else(o:Int)))) none)=q
    intro ev
    exact cont q ev
  case cont=>
   intro q L
   subst L
   refine⟨_,rfl,_,rfl,a,bk,o,rfl,I,l,m,C,fun d r M hd R=>?_⟩
   obtain⟨kvs,g,N⟩:=R.get (zE x o)
   refine⟨d,rfl,.inl ⟨_,.inl g⟩,_,rfl,fun j t=>?_⟩
   have u:zA r (upd r j (.dK [])):=zA.upd1 t
   obtain⟨ra,O,v⟩:∃ra,(yM kvs (Sum.inr (tx (zE x o)))).getD (.ref j)=.ref ra/\upd r j (.dK []) ra=some (.dK (zN (yE (zC o bk) (zE x o)))):=by
    rcases N with⟨b,c⟩|⟨ra,b,c⟩
    ·exact⟨j,by rw[b];rfl,by rw[zF,c];rfl⟩
    ·exact⟨ra,by rw[b];rfl,u _ _ c⟩
   refine⟨_,yV.k (k:=Sum.inr (tx (zE x o))) (u _ _ g),?_⟩
   rw[O]
   exact k ra _ (M.trans u) v
end
end Kn
end
section
namespace Kn
def Go (ps:List (S×S))(o:Nat)(t:S):Prop:=∀q∈pp o t,q∈ps
instance (ps:List (S×S)) (o:Nat) (t:S):Decidable (Go ps o t):=by unfold Go;infer_instance
def Mk (ps:List (S×S))(o:Nat)(t:S):Prop:=∀q∈yG o t,q∈ps
theorem zPo (ps:List (S×S))(o:Nat):Go ps o []:=fun q a=>by cases a
theorem zAc {ps:List (S×S)}{o:Nat}{t:S}{c:Nat}:Go ps o (t++[c])↔Go ps o t/\(zE t o,[c])∈ps:=by
 unfold Go
 rw[zAV]
 constructor
 ·intro h
  exact⟨fun q a=>h q (bJ _ a),h _ (aS _ (bK _))⟩
 ·rintro⟨b,d⟩ q a
  rcases bG.mp a with z|z
  ·exact b q z
  ·have:q=(zE t o,[c]):=by simpa using z
   rw[this];exact d
theorem zPp {ps:List (S×S)}{o:Nat}{t:S}:Mk ps o t↔Go ps o t/\(zE t o,[])∈ps:=by
 unfold Mk Go
 rw[zBq]
 constructor
 ·intro h
  exact⟨fun q a=>h q (bJ _ a),h _ (aS _ (bK _))⟩
 ·rintro⟨b,c⟩ q a
  rcases bG.mp a with z|z
  ·exact b q z
  ·have:q=(zE t o,[]):=by simpa using z
   rw[this];exact c
theorem zPq {a b c:S}(d:¬a<b)(e:¬b<c):¬a<c:=gx.mpr (List.le_trans (gx.mp e) (gx.mp d))
abbrev St2:=(S×Bool)×S
structure FoldM (C:List St2) (R:List St2):Prop where
 nd:(R.map (·.1)).Nodup
 snd:∀p∈R,p∈C
 all:∀p∈C,∃u,(p.1,u)∈R/\¬p.2<u
structure Fst (ps1 ps2:List (S×S)) (o n:Nat) (F:List St2):Prop where
 nd:(F.map (·.1)).Nodup
 snd:∀p∈F,p.2.length=n/\Go ps2 o p.2/\p.1=(zE p.2 o,decide (Go ps1 o p.2))
 all:∀t,t.length=n->Go ps2 o t->∃u,((zE t o,decide (Go ps1 o t)),u)∈F/\¬t<u
def zIl (ps1:List (S×S))(nx:S->List S)(o:Nat)(p:St2):List St2:=((nx p.1.1).filter fun l=>decide (l≠[])).map fun l=>((zE (p.2++l) o,p.1.2&&decide ((p.1.1,l)∈ps1)),p.2++l)
theorem Fst.step {a b:List (S×S)}{nx:S->List S}{o n:Nat}{F R:List St2}(h:Fst a b o n F)(x:∀e l,l∈nx e↔(e,l)∈b)(C:uB b)(d:FoldM (F.flatMap (zIl a nx o)) R):Fst a b o (n+1) R:=by
 refine⟨d.nd,fun p D=>?_,fun t f E=>?_⟩
 ·obtain⟨q,G,g⟩:=bx.mp (d.snd p D)
  obtain⟨l,hl,rfl⟩:=az.mp g
  obtain⟨hl1,hl2⟩:=aQ.mp hl
  have hl3:=(x _ _).mp hl1
  obtain⟨c,rfl⟩:=gE (C _ _ hl3) (of_decide_eq_true hl2)
  obtain⟨H,I,y⟩:=h.snd q G
  have A:q.1.1=zE q.2 o:=by rw[y]
  have J:q.1.2=decide (Go a o q.2):=by rw[y]
  refine⟨by simp[H],zAc.mpr ⟨I,by rw[<-A];exact hl3⟩,?_⟩
  show(_,_)=(_,_)
  congr 1
  rw[A,J]
  by_cases g1:Go a o q.2<;>by_cases g2:(zE q.2 o,[c])∈a<;>simp[g1,g2,zAc]
 ·have i:t≠[]:=fun z=>by rw[z]at f;cases f
  obtain⟨u,c,rfl⟩:=zBr i
  obtain⟨g1,g2⟩:=zAc.mp E
  have j:u.length=n:=by rw[aE,cG]at f;omega
  obtain⟨v,B,m⟩:=h.all u j g1
  obtain⟨k1,k2,k3⟩:=h.snd _ B
  have L:v.length=n:=k1
  have M:zE v o=zE u o:=(congrArg (fun z=>z.1) k3).symm
  have T:decide (Go a o u)=decide (Go a o v):=congrArg (fun z=>z.2) k3
  have N:zE (v++[c]) o=zE (u++[c]) o:=by rw[<-zAU,M,zAU]
  have O:(decide (Go a o u)&&decide ((zE u o,[c])∈a))=decide (Go a o (u++[c])):=by
   by_cases g1:Go a o u<;>by_cases g2:(zE u o,[c])∈a<;>simp[g1,g2,zAc]
  have P:((zE (u++[c]) o,decide (Go a o (u++[c]))),v++[c])∈F.flatMap (zIl a nx o):=by
   refine bx.mpr ⟨_,B,az.mpr ⟨[c],aQ.mpr ⟨(x _ _).mpr g2,by simp⟩,?_⟩⟩
   show((zE (v++[c]) o,_),_)=_
   rw[N]
   show((_,decide (Go a o u)&&decide ((zE u o,[c])∈a)),_)=_
   rw[O]
  obtain⟨w,Q,r⟩:=d.all _ P
  refine⟨w,Q,zPq (fun z=>?_) r⟩
  by_cases e:u=v
  ·subst e;exact kJ _ z
  ·have s:v<u:=by
    by_cases q:v<u
    ·exact q
    ·exact absurd (zGW _ _ m q) e
   exact kJ _ (zCu (zDg [c] [c] (by omega) s) z)
structure Lev (ps:List (S×S)) (o n:Nat) (A:List S):Prop where
 ris:A.Pairwise (· < ·)
 mem:∀t,t∈A↔t.length=n/\Go ps o t
theorem Lev.start (ps:List (S×S))(o:Nat):Lev ps o 0 [[]]:=by
 refine⟨by simp,fun t=>?_⟩
 constructor
 ·intro h
  have:t=[]:=by simpa using h
  subst this;exact⟨rfl,zPo _ _⟩
 ·rintro⟨h,_⟩
  rw[cw.mp h];exact bK _
theorem Lev.step {ps:List (S×S)}{o n:Nat}{A:List S}(h:Lev ps o n A)(g:uB ps)(lt:S->List S)(i:∀e,(lt e).Pairwise (· < ·))(f:∀e l,l∈lt e↔l≠[]/\(e,l)∈ps) :
  Lev ps o (n+1) (A.flatMap fun t=>(lt (zE t o)).map (t++·)):=by
 refine⟨zDh (fun t=>lt (zE t o)) A h.ris (fun a j b m=>by rw[((h.mem a).mp j).1,((h.mem b).mp m).1]) (fun a _=>i _),fun t=>?_⟩
 rw[bx]
 constructor
 ·rintro⟨u,p,q⟩
  obtain⟨l,hl,rfl⟩:=az.mp q
  obtain⟨g1,g2⟩:=(h.mem u).mp p
  obtain⟨k1,k2⟩:=(f _ l).mp hl
  obtain⟨c,rfl⟩:=gE (g _ _ k2) k1
  exact⟨by rw[aE,g1];rfl,zAc.mpr ⟨g2,k2⟩⟩
 ·rintro⟨g1,g2⟩
  have d:t≠[]:=fun z=>by rw[z]at g1;cases g1
  obtain⟨u,c,rfl⟩:=zBr d
  obtain⟨g3,r⟩:=zAc.mp g2
  rw[aE,cG]at g1
  exact⟨u,(h.mem u).mpr ⟨by omega,g3⟩,az.mpr ⟨[c],(f _ _).mpr ⟨by simp,r⟩,rfl⟩⟩
def Bef (a b:S):Prop:=a.length<b.length\/a.length=b.length/\a<b
structure MadeL (ps:List (S×S)) (o n:Nat) (L:List S):Prop where
 ris:L.Pairwise Bef
 mem:∀t,t∈L↔1<=t.length/\t.length<n/\Mk ps o t
theorem MadeL.start (ps:List (S×S))(o:Nat):MadeL ps o 0 []:=⟨by simp,fun t=>by simp⟩
theorem MadeL.step {ps:List (S×S)}{o n:Nat}{L A:List S}(h:MadeL ps o n L)(f:Lev ps o n A):MadeL ps o (n+1) (L++A.filter fun t=>decide ((zE t o,[])∈ps)&&decide (t≠[])):=by
 refine⟨?_,fun t=>?_⟩
 ·rw[iT]
  refine⟨h.ris,?_,fun a g b i=>?_⟩
  ·refine(cM _ f.ris).imp_of_mem fun{a b} g i j=>.inr ⟨?_,j⟩
   rw[((f.mem a).mp (aQ.mp g).1).1,((f.mem b).mp (aQ.mp i).1).1]
  ·have l:=(h.mem a).mp g
   have m:=(f.mem b).mp (aQ.mp i).1
   exact .inl (by omega)
 ·rw[bG,h.mem,aQ,f.mem,zPp]
  constructor
  ·rintro(⟨a,b,c⟩|⟨⟨a,b⟩,c⟩)
   ·exact⟨a,by omega,c⟩
   ·rw[bc,decide_eq_true_eq,decide_eq_true_eq]at c
    have:t.length≠0:=fun z=>c.2 (cw.mp z)
    exact⟨by omega,by omega,b,c.1⟩
  ·rintro⟨a,b,c,d⟩
   by_cases e:t.length=n
   ·refine .inr ⟨⟨e,c⟩,?_⟩
    rw[bc,decide_eq_true_eq,decide_eq_true_eq]
    exact⟨d,fun z=>by rw[z]at a;cases a⟩
   ·exact .inl ⟨a,by omega,c,d⟩
end Kn
end
section
namespace Kn.Ln
open PySem L2 Kn
theorem zPr {d:Int}(h:d<1073741824):d<2^8000:=by
 have c:=zCB (a:=30) (b:=8000) (by decide)
 have e:(2:Int)^30=1073741824:=by decide
 omega
theorem cmW {p:Int}(a:0<=p)(b:p<1152921504606846976)(q:Int):zAB p q:=.inl ⟨by omega,by omega⟩
theorem zPs (ps:List (S×S))(e l:S):zS ps e l=low (ps.count (e,l):Int) (if(tot ps e:Int)>1 then(tot ps e:Int)else 1):=by
 have h:=jJ ps e l
 unfold zS
 by_cases c:ps.count (e,l)=0
 ·rw[if_pos c,c]
  show(0,1)=low 0 _
  rw[zBf]
  split<;>omega
 ·rw[if_neg c]
  have:(if(tot ps e:Int)>1 then(tot ps e:Int)else 1)=(tot ps e:Int):=by split<;>omega
  rw[this]
theorem zPt {a b c d u v x y:Int}(e:a*v=u*b)(f:c*y=x*d):a*c*(v*y)=u*x*(b*d):=by grind
theorem zPu {u v x y:Int}(c:0<=u)(a:0<v)(d:0<=x)(b:0<y):uQ (low u v) (low x y)=low (u*x) (v*y):=by
 have f:=u6 c a
 have g:=u6 d b
 exact zCv (cB f.up g.up) (dN f.dn g.dn) (cB c d) (dN a b) (zPt (jI a) (jI b))
section
variable{P:aJ}{w:aV}{K:ae}{mg:Str->Option ag}{base:bC}
abbrev zEf:cp:=top 60
theorem zIm:FnScope ["_law_up","_law_down","_law_one","_law_other"] ["_law_up","_law_down"] (defScope zEf):=yD
theorem zPv {f:ah}{fd:aX}(F:Fun K "_law_lowest" "_law_lowest" zEf f fd):FnOk P w K mg base z7 1 f fd ["_law_up","_law_down"] zAZ:=by
 refine F.ok zIm (fun vs H Q E h=>?_) (fun t A outer s H vs Q E C h=>?_)
 ·obtain⟨a,b,rfl,_⟩:=h;rfl
 ·obtain⟨u,d,rfl,n,g,v,k⟩:=h
  have nd:=zIm.nd
  refine⟨_,zJ (zV (i:=2) nd rfl (Or.inl rfl) (pv 0)) (zJ (zV (i:=3) nd rfl (Or.inl rfl) (pv 1))
   (zJ (zCQ bF (vJ zBO (pv 3) zI (vD _))
    (zO (zJi (i:=2) (j:=3) rfl nd rfl rfl (by decide) rfl rfl (zB (pv 3) (zB (zR k6 (pv 2) (pv 3)) zD)) rfl)))
   (zO (zZ (uN (zB (zR zCA (pv 0) (pv 2)) (zB (zR zCA (pv 1) (pv 2)) zD))))))),?_⟩
  refine⟨_,rfl,_,rfl,?_⟩
  refine⟨fun m σ H'=>H'=H/\∃(a b:Int),σ=[some (.int u),some (.int d),some (.int a),some (.int b)]/\m=b.toNat/\0<=a/\0<=b/\gm a b=gm u d,⟨_,rfl,u,d,rfl,rfl,n,bB g,rfl⟩,?_⟩
  rintro m σ H' ⟨rfl,a,b,rfl,rfl,o,y,q⟩
  refine⟨_,rfl,_,_,rfl,rfl,_,rfl,?_⟩
  by_cases hz:b=0
  ·subst hz
   refine qJ (by decide) ?_
   have e:a=yC u d:=by
    unfold yC
    rw[<-q]
    obtain⟨x,rfl⟩:=cq o
    simp
   have g1:=zAN (u:=u) g
   have g2:yC u d<=d:=nD g (dU ..)
   rw[<-e]at g1 g2
   refine⟨_,rfl,_,rfl,_,_,rfl,rfl,⟨g1,by omega⟩,_,rfl,_,rfl,_,_,rfl,rfl,⟨g1,by omega⟩,by show 2<=sizeLine;decide,fun p z=>?_⟩
   have:=k p z
   unfold low at this
   rw[<-e]at this
   exact this
  ·have c:0<b:=by omega
   refine kI c ?_
   refine⟨fun r l=>l=H'/\r=[some (.int u),some (.int d),some (.int b),some (.int (a%b))],?_,?_⟩
   ·rintro r l ⟨rfl,rfl⟩
    have B:=iZ a hz
    have D:=gs a c
    exact⟨(a%b).toNat,by omega,rfl,b,a%b,rfl,rfl,y,B,by rw[zGe o c];exact q⟩
   ·exact⟨_,rfl,_,rfl,_,rfl,_,_,rfl,rfl,c,_,_,rfl,rfl,rfl⟩
def zIn (K:ae):Sp:=fun vs H Q _=>∃(l:ah) (xs:List V) (qs:List (Int×Int)),vs=[.ref l]/\H l=some (.lst xs)/\xs.length=qs.length/\xs.length<1000/\
 (∀i x q,xs[i]?=some x->qs[i]?=some q->yO K H x q/\FG q/\FG ((qs.take i).foldl vI (0,1)))/\∀a H',zA H H'->H' a=some (frO (qs.foldl vI (0,1)))->Q (.ref a) H'
abbrev zEg:cp:=top 62
theorem zIo:FnScope ["_law_rows","_law_up","_law_down","_law_one"] ["_law_rows"] (defScope zEg):=yD
theorem zPw {f:ah}{fd:aX}(F:Fun K "_law_sum" "_law_sum" zEg f fd)(x:zY P w K mg base 1 "_law_lowest" ["_law_up","_law_down"] zAZ):FnOk P w K mg base z7 2 f fd ["_law_rows"] (zIn K):=by
 refine F.ok zIo (fun vs H Q E h=>?_) (fun y A outer s H vs Q E B h=>?_)
 ·obtain⟨l,xs,a,rfl,_⟩:=h;rfl
 ·obtain⟨l,xs,a,rfl,hl,o,g,C,k⟩:=h
  have nd:=zIo.nd
  refine⟨_,zJ (zV (i:=1) nd rfl (Or.inl rfl) zI) (zJ (zV (i:=2) nd rfl (Or.inl rfl) zI)
   (zJ (vS bF rfl (uX (pv 0)) (z0 (i:=3) nd rfl (Or.inl rfl))
    (zO (zJg (zU x B rfl (zB (zR y0 (zR zEB (pv 1) (uY zAl (pv 3) zI (fun _ _=>rfl))) (zR zEB (uY zAl (pv 3) zI (fun _ _=>rfl)) (pv 2))) (zB (zR zEB (pv 2) (uY zAl (pv 3) zI (fun _ _=>rfl))) zD)))
     (kZ (n:=2) rfl (uF (z0 (i:=1) nd rfl (Or.inl rfl)) (uF (z0 (i:=2) nd rfl (Or.inl rfl)) kY))))))
   (zO (zZ (uN (zB (pv 1) (zB (pv 2) zD))))))),?_⟩
  refine⟨_,rfl,⟨l,rfl,⟨_,.of hl⟩,?_⟩⟩
  refine uU (u5 K l xs) (fun i σ H'=>(∃z:Option V,σ=[some (.ref l),some (.int ((a.take i).foldl vI (0,1)).1),some (.int ((a.take i).foldl vI (0,1)).2),z])/\zA H H') ⟨⟨_,rfl⟩,zA.refl _⟩ (fun i σ H' _ h=>.of (h.2 _ _ hl)) ?_ ?_
  ·rintro i v σ H' L D q ⟨⟨z,rfl⟩,sm⟩
   have hi:i<a.length:=by rw[<-o];exact(af.mp q).1
   obtain⟨fr,d,e⟩:=C i v a[i] q (aG hi)
   have G:(a.take (i+1)).foldl vI (0,1)=vI ((a.take i).foldl vI (0,1)) a[i]:=by
    rw[ak hi,cI];rfl
   generalize(a.take i).foldl vI (0,1)=p at*
   generalize a[i]=r at*
   obtain⟨b,rfl,j⟩:=fr.same sm
   have I:=e.up;have t:=e.dn;have J:=d.up;have u:=d.dn
   refine⟨_,rfl,_,rfl,b,_,1,_,rfl,rfl,j,rfl,_,_,rfl,rfl,⟨e.bu,d.bd⟩,?_⟩
   refine⟨_,rfl,b,_,0,_,rfl,rfl,j,rfl,_,rfl,_,_,rfl,rfl,⟨d.bu,e.bd⟩,_,_,rfl,rfl,?_⟩
   refine⟨_,rfl,_,rfl,b,_,1,_,rfl,rfl,j,rfl,_,_,rfl,rfl,⟨e.bd,d.bd⟩,?_⟩
   refine⟨_,_,rfl,pF (cB I (bB u)) (cB J (bB t)),dN t u,FG.prod e d,fun c m=>?_⟩
   refine⟨c,_,rfl,.of zF,rfl,_,_,rfl,_,_,rfl,rfl,?_⟩
   refine D _ _ ⟨⟨some (.ref b),?_⟩,sm.trans (zA.upd1 m)⟩
   rw[G]
   rfl
  ·rintro σ H' ⟨⟨z,rfl⟩,sm⟩
   rw[o,aU]
   refine⟨_,rfl,_,rfl,by show 2<=sizeLine;decide,fun c m=>?_⟩
   exact k c _ (sm.trans (zA.upd1 m)) zF
theorem zPx {row:List (S×Int)}{i:Nat}{x:V}(h:((zN row).map fun p=>kV p.1)[i]?=some x):∃(hi:i<row.length),x=sv row[i].1:=by
 unfold zN zT yW at h
 rw[aq,aq,aq]at h
 cases e:row[i]? with
 |none=>rw[e]at h;cases h
 |some q=>
  rw[e]at h
  obtain⟨hi,a⟩:=af.mp e
  refine⟨hi,?_⟩
  rw[a]
  exact(ay h).symm
theorem zPy {σ:St}{H:Hp}{Q:V->Hp->Prop}{n:Nat}{ra:ah}{row:List (S×Int)}(m:σ[n]?=some (some (.ref ra)))(f:H ra=some (.dK (zN row)))(g:(row.map (·.1)).Nodup)(hl:row.length<1000)
  (k:∀D H',zA H H'->H' D=some (.lst ((row.map (·.2)).map V.int))->Q (.ref D) H'):zDY (zBV (zDX (vR n)) (jX 1) gA (zBU (vR 0) (vR 1)) [n] 2) σ H Q:=by
 refine⟨ra,zN row,f,_,m,ra,_,rfl,f,fun o=>?_⟩
 have c:((zN row).map fun p=>kV p.1).length=row.length:=by rw[aa];exact vT _ _
 refine uP (zBp ra o (zN row)) [some (.ref ra)] 1 (by rw[c];exact hl) (fun i a H'=>H'=upd H ra (.frz o (.dK (zN row)))/\a=((row.take i).map (·.2)).map V.int) ⟨rfl,rfl⟩ (fun i a H' _ h=>⟨by rw[h.1,zF],by rw[h.2,aa,aa,aO];omega⟩) ?_ ?_ (by simp[v8,m])
 ·rintro i x a H' ys y r s t ⟨rfl,rfl⟩
  obtain⟨A,rfl⟩:=ys1 t
  obtain⟨hi,rfl⟩:=zPx s
  refine⟨_,rfl,_,rfl,ra,.int row[i].2,rfl,.inl ⟨zN row,Sum.inr (tx row[i].1),.inr ⟨o,zF⟩,rfl,?_⟩,r _ _ [some (sv row[i].1)] rfl ⟨rfl,?_⟩⟩
  ·unfold zN
   have v:zL row row[i].1=some row[i].2:=(vG g _ _).mp (dh hi)
   rw[v9,v];rfl
  ·rw[ak hi,aC,aC];rfl
 ·rintro a H' ⟨rfl,rfl⟩ D e
  rw[c,aU]
  have d:ra≠D:=fun z=>by rw[<-z,zF]at e;cases e
  have j:H D=none:=by rw[zG d.symm]at e;exact e
  refine⟨o,by rw[zG d,zF],k D _ (fun b u q=>?_) (by rw[zG d.symm,zF])⟩
  by_cases l:b=ra
  ·subst l;rw[zF,<-q,f]
  ·rw[zG l,zG (yI q j),zG l];exact q
theorem zPz (ps:List (S×S))(e:S):(yE ps e).length<=ps.length:=by
 have b:=zBl ps e
 have a:∀p∈yE ps e,(1:Int)<=p.2:=fun p c=>by
  have:=((zBk ps e p.1 p.2).mp c).2
  omega
 have go:∀l:List (S×Int),(∀p∈l,(1:Int)<=p.2)->(l.length:Int)<=(l.map (·.2)).sum:=by
  intro l
  induction l with
  |nil=>intro _;simp
  |cons x r ih=>
   intro hl
   have b:=hl x (aj ..)
   have a:=ih fun y d=>hl y (ar _ d)
   rw[aF,bb,bg]
   have:((r.length+1:Nat):Int)=(r.length:Int)+1:=rfl
   omega
 have f:=go _ a
 have g:tot ps e<=ps.length:=bj ..
 omega
def zIp (K:ae):Sp:=fun vs H Q _=>∃(a:ah) (bk:List S) (o:Nat) (nm:S),vs=[.ref a,.int o,sv nm]/\H a=some (.tup (zP bk))/\Fit bk o nm/\(zC o bk).length<64/\
 ∀v H',zA H H'->yO K H' v (yX (zC o bk) o nm)->Q v H'
abbrev zEh:cp:=top 61
theorem zIq:FnScope ["_law_book_here","_law_order","_law_name_here","_law_up","_law_down","_law_size","_law_row_here"] ["_law_book_here","_law_order","_law_name_here"] (defScope zEh):=yD
theorem zQA:(["_law_row_here","_law_letter"]:List Str).Nodup:=by decide+kernel
theorem zQB {f:ah}{fd:aX}(F:Fun K "_law_share" "_law_share" zEh f fd)(B:Blt mg)(B2:Blt2 mg)(cR:zY P w K mg base 2 "_law_row" ["_law_book_here","_law_order","_law_text"] zEe)(cL:zY P w K mg base 1 "_law_lowest" ["_law_up","_law_down"] zAZ) :
  FnOk P w K mg base z7 3 f fd ["_law_book_here","_law_order","_law_name_here"] (zIp K):=by
 refine F.ok zIq (fun vs H Q E h=>?_) (fun ac A outer s H vs Q E L h=>?_)
 ·obtain⟨a,bk,o,nm,rfl,_⟩:=h;rfl
 ·obtain⟨a,bk,o,nm,rfl,ha,q,M,k⟩:=h
  have hu:=uT L
  have nd:=zIq.nd
  have hr1:=L.mono (j:=1) (by decide)
  refine⟨_,zJ (zV (i:=3) nd rfl (Or.inl rfl) zI) (zJ (zV (i:=4) nd rfl (Or.inl rfl) zI)
   (zJ (vS bF rfl (jD rfl B.range (zB (zR y0 (yH jZ (by rfl) B.len cu (zB (pv 2) zD)) zI) zD)) (z0 (i:=5) nd rfl (Or.inl rfl))
    (zJ (zV (i:=6) nd rfl (Or.inr rfl) (zU cR L rfl (zB (pv 0) (zB (pv 1) (zB (kB (pv 2) zAF (qE (pv 5))) zD)))))
    (zJ (zV (i:=3) nd rfl (Or.inl rfl) (zR qQ (pv 3) (zAI hu (pv 6) (kB (pv 2) (qE (pv 5)) (qE (zR y0 (pv 5) zI))) zI ⟨rfl,rfl,rfl,rfl⟩)))
    (zO (zV (i:=4) nd rfl (Or.inl rfl) (zR qQ (pv 4) (yH (zJy rfl) (by rfl) B2.max rM (zB zI (zB (yH (zCs rfl) (by rfl) B.sum eB (zB
     (zAR (vE (N:=["_law_row_here","_law_letter"]) (caps:=[6]) rfl (y9 (by kernel_rfl)) (zAu (pv 6)) (fun cl X s H ex=>z0 (i:=1) zQA rfl (Or.inl rfl)) (fun cl X s H ex=>uI) (fun cl X s H ex=>j6 hu (pv 0) (pv 1) (fun _ _=>rfl)))) zD)) zD)))))))))
   (zO (zZ (zU cL hr1 rfl (zB (pv 3) (zB (pv 4) zD))))))),?_⟩
  have pl:=zDP q.toBk
  have O:=q.toBk.hi
  have R:=q.toBk.l8
  have al:=q.nmn.2.1
  have g:∀v H',zA H H'->yO K H' v (qX (zC o bk) (yG o nm))->Q v H':=k
  have ho:1<=o:=q.toBk.o1
  have W:=q.pw
  generalize Y:zC o bk=ps at g pl W M
  refine⟨_,rfl,tx nm,rfl,by rw[yB,aR];omega,_,_,rfl,rfl,_,rfl,by rw[yB];omega,by rw[yB];omega,?_⟩
  have r:(((tx nm).length:Int)+1).toNat=nm.length+1:=by rw[yB];omega
  refine uU (uZ 0 _) (fun i σ H'=>(∃(U D:Int) (y z:Option V),σ=[some (.ref a),some (.int o),some (sv nm),some (.int U),some (.int D),y,z]/\0<=U/\0<D/\U<=D/\D<=(ps.length:Int)^i/\low U D=qX ps ((yG o nm).take i))/\zA H H')
   ⟨⟨1,1,_,_,rfl,by decide,by decide,by decide,by simp,by simp[qX,zGQ]⟩,zA.refl H⟩ (fun _ _ _ _ _=>trivial) ?_ ?_
  ·rintro i x σ H' Nx hN hx2 ⟨⟨U,D,y,z,rfl,t,I,ud,dp,b⟩,sm⟩
   rw[r]at hx2
   obtain⟨hi,rfl⟩:=jK hx2
   have ep:=zIj (o:=o) hi
   have Z:i<(yG o nm).length:=by rw[zCM];exact hi
   have m:(yG o nm).take (i+1)=(yG o nm).take i++[(zE (nm.take i) o,(nm.drop i).take 1)]:=by
    rw[ak Z,(af.mp ep).2]
   have u:D<1073741824:=by
    have e1:ps.length^i<=ps.length^(nm.length+1):=dQ pl.1 (by omega)
    have e2:((ps.length^i:Nat):Int)=(ps.length:Int)^i:=by simp
    omega
   refine⟨_,rfl,_,rfl,_,rfl,_,rfl,_,rfl,tx nm,rfl,by rw[yB,aR];omega,a,bk,o,nm.take i,by rw[zBh];rfl,sm _ _ ha,O,R,ho,by rw[aO];omega,fun ra H2 s2 d=>?_⟩
   rw[Y]at d
   generalize ab:zE (nm.take i) o=e at d m
   generalize C:(nm.drop i).take 1=l at m
   have am:tot ps e<=ps.length:=bj ..
   have an:=jJ ps e l
   refine⟨_,rfl,_,rfl,ra,rfl,.inl ⟨_,.inl d⟩,_,rfl,_,rfl,_,rfl,_,rfl,_,_,rfl,rfl,_,rfl,tx nm,rfl,by rw[yB,aR];omega,?_⟩
   rw[zCz,C]
   have G:yM (zN (yE ps e)) (Sum.inr (tx l))=(zL (yE ps e) l).map V.int:=v9 _ _ _
   refine⟨_,yV.k (k:=Sum.inr (tx l)) d,U,(ps.count (e,l):Int),rfl,?_,cmW t (by omega) _,?_⟩
   ·rw[G,zAs]
    by_cases c:0<ps.count (e,l)
    ·rw[if_pos c];rfl
    ·rw[if_neg c,show ps.count (e,l)=0 by omega];rfl
   refine⟨_,rfl,zPy rfl d (jA _ _) (by have:=zPz ps e;omega) fun Dl H3 s3 hD=>?_⟩
   refine⟨Dl,(yE ps e).map (·.2),rfl,.of hD,1,_,rfl,D,_,rfl,rfl,cmW (by omega) (by omega) _,?_⟩
   rw[zBl]
   have hT:(if(tot ps e:Int)>1 then(tot ps e:Int)else 1)=(if(tot ps e:Int)>1 then(tot ps e:Int)else 1):=rfl
   have J:=zPs ps e l
   generalize n:(if(tot ps e:Int)>1 then(tot ps e:Int)else 1)=T at J
   have t1:1<=T:=by rw[<-n];split<;>omega
   have t2:T<=(ps.length:Int):=by rw[<-n];split<;>omega
   have t3:(ps.count (e,l):Int)<=T:=by rw[<-n];split<;>omega
   refine hN _ _ ⟨⟨U*(ps.count (e,l):Int),D*T,_,_,rfl,cB t (by omega),dN I (by omega),?_,?_,?_⟩,(sm.trans s2).trans s3⟩
   ·exact dO ud t3 (by omega) (by omega)
   ·rw[fz]
    exact dO dp t2 (by omega) (pG (by omega))
   ·rw[m,zME,<-b,J]
    exact(zPu t I (by omega) (by omega)).symm
  ·rintro σ H' ⟨⟨U,D,y,z,rfl,t,I,ud,dp,b⟩,sm⟩
   rw[aa,bO,r]at dp b
   rw[<-zCM o nm,aU]at b
   have u:D<1073741824:=by
    have e2:((ps.length^(nm.length+1):Nat):Int)=(ps.length:Int)^(nm.length+1):=by simp
    omega
   refine⟨_,rfl,_,rfl,U,D,rfl,t,I,zPr u,fun p J=>g _ _ (sm.upd_new (sm.free J)) ?_⟩
   rw[<-b]
   exact yO.new
end
theorem zIr:∀l:List S,∃r:List S,r.Pairwise (· < ·)/\∀x,x∈r↔x∈l
 | []=>⟨[],by simp,by simp⟩
 |a::l=>by
  obtain⟨r,g,j⟩:=zIr l
  refine⟨r.filter (fun x=>decide (x<a))++a::r.filter (fun x=>decide (a<x)),?_,fun x=>?_⟩
  ·rw[iT]
   refine⟨cM _ g,c9.mpr ⟨fun b e=>of_decide_eq_true (aQ.mp e).2,cM _ g⟩,fun b e c f=>?_⟩
   have d:b<a:=of_decide_eq_true (aQ.mp e).2
   rcases aL.mp f with rfl|f
   ·exact d
   ·exact zCu d (of_decide_eq_true (aQ.mp f).2)
  ·rw[bG,aL,aQ,aQ,aL,<-j]
   constructor
   ·rintro(z|z|z)
    ·exact .inr z.1
    ·exact .inl z
    ·exact .inr z.1
   ·rintro(z|z)
    ·exact .inr (.inl z)
    ·by_cases h:x<a
     ·exact .inl ⟨z,decide_eq_true h⟩
     ·by_cases i:a<x
      ·exact .inr (.inr ⟨z,decide_eq_true i⟩)
      ·exact .inr (.inl (zGW _ _ h i))
theorem zQC (ps:List (S×S)):∃lt:S->List S,∀e,(lt e).Pairwise (· < ·)/\∀l,l∈lt e↔l≠[]/\(e,l)∈ps:=by
 have h:∀e,∃r:List S,r.Pairwise (· < ·)/\∀l,l∈r↔l≠[]/\(e,l)∈ps:=fun e=>by
  obtain⟨r,a,b⟩:=zIr ((yF ps e).filter fun l=>decide (l≠[]))
  refine⟨r,a,fun l=>?_⟩
  rw[b,aQ,uV,decide_eq_true_eq]
  exact And.comm
 exact⟨fun e=>sV (h e),fun e=>rN (h e)⟩
theorem zEi {o:Nat}{bk:List S}(b:gZ bk){lt:S->List S}(a:∀e,(lt e).Pairwise (· < ·)/\∀l,l∈lt e↔l≠[]/\(e,l)∈zC o bk)(e:S):(lt e).length<=3:=zBx b (e:=e) (a e).1 fun l hl=>((a e).2 l).mp hl
abbrev zAd (lt:S->List S)(o:Nat)(t:S):List S:=(lt (zE t o)).map (t++·)
abbrev kR (ps:List (S×S))(o:Nat)(t:S):Bool:=decide ((zE t o,[])∈ps)&&decide (t≠[])
theorem zQD {b:Bool}{A B:Prop}(c:b=true)(h:A):if b=true then A else B:=by rw[if_pos c];exact h
theorem zQE {b:Bool}{A B:Prop}(c:¬b=true)(h:B):if b=true then A else B:=by rw[if_neg c];exact h
section
variable{P:aJ}{w:aV}{K:ae}{mg:Str->Option ag}{base:bC}
abbrev zEj:cp:=top 63
theorem zIs:FnScope ["_law_book_here","_law_order","_law_most","_law_found","_law_texts","_law_size","_law_longer","_law_text","_law_row_here"] ["_law_book_here","_law_order","_law_most"] (defScope zEj):=yD
theorem zQF:(["_law_text","_law_letter"]:List Str).Nodup:=by decide+kernel
def zIt:Sp:=fun vs H Q _=>∃(a:ah) (bk:List S) (o:Nat),vs=[.ref a,.int o,.int 3]/\H a=some (.tup (zP bk))/\Bk bk o/\gZ bk/\(zC o bk).length<64/\∀L p H',MadeL (zC o bk) o 4 L->L.length<=120->zA H H'->H p=none->H' p=some (.lst (L.map sv))->Q (.ref p) H'
theorem zQG {f:ah}{fd:aX}(F:Fun K "_law_made" "_law_made" zEj f fd)(B:Blt mg)(cR:zY P w K mg base 2 "_law_row" ["_law_book_here","_law_order","_law_text"] zEe):FnOk P w K mg base z7 3 f fd ["_law_book_here","_law_order","_law_most"] zIt:=by
 refine F.ok zIs (fun vs H Q E h=>?_) (fun b7 A outer s H vs Q E hr h=>?_)
 ·obtain⟨a,bk,o,rfl,_⟩:=h;rfl
 ·obtain⟨a,bk,o,rfl,hH,hb,ha,b9,k⟩:=h
  have hu:=uT hr
  have nd:=zIs.nd
  refine⟨_,zJ (zV (i:=3) nd rfl (Or.inl rfl) (vK zD)) (zJ (zV (i:=4) nd rfl (Or.inl rfl) (vK (zB vB zD)))
   (zJ (vS bF rfl (jD rfl B.range (zB (zR y0 (pv 2) zI) zD)) (z0 (i:=5) nd rfl (Or.inl rfl))
    (zJ (zV (i:=6) nd rfl (Or.inl rfl) (vK zD))
    (zJ (vS bF rfl (uX (pv 4)) (z0 (i:=7) nd rfl (Or.inr rfl))
     (zJ (zV (i:=8) nd rfl (Or.inl rfl) (zU cR hr rfl (zB (pv 0) (zB (pv 1) (zB (pv 7) zD)))))
     (zJ (vX (zBK (zFf hu vB (pv 8))) (zO (vW (gL dY lr lu zFY (pv 3) (zB (pv 7) zD)))) vV)
     (zO (zV (i:=6) nd rfl (Or.inl rfl) (zR zCb (pv 6)
       (vE (N:=["_law_text","_law_letter"]) (caps:=[7]) rfl (y9 (by kernel_rfl)) (uX (yH (zGF rfl) (by rfl) B.sorted eZ (zB (pv 8) zD)))
        (fun cl X s H ex=>z0 (i:=1) zQF rfl (Or.inl rfl)) (fun cl X s H ex=>j8 (vJ gI (pv 1) vB (vD _))) (fun cl X s H ex=>zR zBP (pv 0) (pv 1)))))))))
    (zO (zV (i:=4) nd rfl (Or.inl rfl) (pv 6))))))
   (zO (zZ (pv 3))))),?_⟩
  obtain⟨lt,n⟩:=zQC (zC o bk)
  have bA:(([],[]):S×S)∉zC o bk:=zOS hb.o1 fun x q=>(hb.nm x q).1
  refine⟨by show 0<=sizeLine;decide,fun g aW=>?_⟩
  have t1:zA H (upd H g (.lst [])):=zA.upd1 aW
  refine⟨by show 1<=sizeLine;decide,fun te W=>?_⟩
  have t2:zA (upd H g (.lst [])) (upd (upd H g (.lst [])) te (.lst [.str ""])):=zA.upd1 W
  have bH:g≠te:=fun z=>by subst z;rw[zF]at W;cases W
  refine⟨_,rfl,_,_,rfl,rfl,4,rfl,by decide,by decide,?_⟩
  refine uU (uZ 0 4) (fun m σ H'=>∃(G:ah) (x5 x6 x7 x8:Option V) (A L:List S),σ=[some (.ref a),some (.int o),some (.int 3),some (.ref g),some (.ref G),x5,x6,x7,x8]/\zA H H'/\H G=none/\g≠G/\H' G=some (.lst (A.map sv))/\H' g=some (.lst (L.map sv))/\Lev (zC o bk) o m A/\A.length<=3^m/\MadeL (zC o bk) o m L/\L.length<=m*27)
   ⟨te,_,_,_,_,[[]],[],rfl,t1.trans t2,t1.free W,bH,zF,t2 _ _ zF,Lev.start _ _,by simp,MadeL.start _ _,by simp⟩ (fun _ _ _ _ _=>trivial) ?_ ?_
  ·rintro m x σ H' Nx hN q ⟨G,x5,x6,x7,x8,A,L,rfl,sm,bL,an,a0,Y,Z,a4,r,a5⟩
   obtain⟨hm,rfl⟩:=jK q
   have ca:A.length<=27:=du a4 (by
    have:(3:Nat)^m<=3^3:=dQ (by decide) (by omega)
    simpa using this)
   refine⟨by show 0<=sizeLine;decide,fun lo a1=>?_⟩
   have t3:zA H' (upd H' lo (.lst [])):=zA.upd1 a1
   have a6:lo≠g:=(yI Y a1).symm
   have a7:H lo=none:=sm.free a1
   refine⟨_,rfl,G,rfl,⟨_,.of (t3 _ _ a0)⟩,?_⟩
   refine uU (u5 K G (A.map sv)) (fun j σ H2=>∃(T:ah) (x7 x8:Option V),σ=[some (.ref a),some (.int o),some (.int 3),some (.ref g),some (.ref G),some (.int (m:Int)),some (.ref T),x7,x8]/\zA H H2/\H T=none/\g≠T/\H2 G=some (.lst (A.map sv))/\H2 g=some (.lst ((L++(A.take j).filter (kR (zC o bk) o)).map sv))/\H2 T=some (.lst (((A.take j).flatMap (zAd lt o)).map sv)))
    ⟨lo,_,_,rfl,sm.trans t3,a7,a6.symm,t3 _ _ a0,by rw[t3 _ _ Y];simp,by rw[zF];simp⟩ (fun j σ H2 _ h=>let⟨_,_,_,_,_,_,_,z,_⟩:=h;.of z) ?_ ?_
   ·rintro j x σ H2 cd bS q ⟨T,x7,x8,rfl,ab,ao,I,ap,u,v⟩
    rw[aq]at q
    cases ej:A[j]? with
    |none=>rw[ej]at q;cases q
    |some t=>
    rw[ej]at q
    have hx2:x=sv t:=(ay q).symm
    subst hx2
    have hj:j<A.length:=(af.mp ej).1
    have a2:A.take (j+1)=A.take j++[t]:=by
     rw[ak hj,(af.mp ej).2]
    obtain⟨ce,ch⟩:=(Z.mem t).mp (aT ej)
    refine⟨_,rfl,_,rfl,_,rfl,a,bk,o,t,rfl,ab _ _ hH,hb.hi,hb.l8,hb.o1,by omega,fun ra H3 s3 ac=>?_⟩
    have a8:=ab.trans s3
    have as:=s3 _ _ ap
    have C:=s3 _ _ u
    have au:=s3 _ _ v
    have bT:g≠ra:=zAe C ac (by simp)
    have b5:(L++(A.take j).filter (kR (zC o bk) o)).length<=1000:=by
     rw[aE]
     have h1:=bj (kR (zC o bk) o) (A.take j)
     rw[aO]at h1
     omega
    refine gnR ?_
    dsimp only
    refine zPC (fun σ' U=>σ'=[some (.ref a),some (.int o),some (.int 3),some (.ref g),some (.ref G),some (.int (m:Int)),some (.ref T),some (sv t),some (.ref ra)]/\zA H U/\U G=some (.lst (A.map sv))/\U g=some (.lst ((L++(A.take (j+1)).filter (kR (zC o bk) o)).map sv))/\U T=some (.lst (((A.take j).flatMap (zAd lt o)).map sv))/\U ra=some (.dK (zN (yE (zC o bk) (zE t o))))) ?cont fun N a9=>?main
    case main=>
     refine⟨_,rfl,ra,_,rfl,yV.k (k:=Sum.inr (tx [])) ac,_,rfl,?_⟩
     rw[zHk]
     by_cases c:(zE t o,([]:S))∈zC o bk
     ·have hz:t≠[]:=fun z=>by
       subst z
       have e0:zE ([]:S) o=[]:=by unfold zE;simp
       rw[e0]at c
       exact bA c
      refine zQD (decide_eq_true c) ?_
      refine⟨_,rfl,.inl ⟨rfl,_,.of C⟩,_,rfl,g,_,_,rfl,rfl,C,by rw[aa,aR];omega,a9 _ _ ⟨rfl,a8.upd_new aW,by rw[zG an.symm];exact as,?_,by rw[zG I.symm];exact au,by rw[zG bT.symm];exact ac⟩⟩
      rw[zF,a2,da]
      have:[t].filter (kR (zC o bk) o)=[t]:=by simp[d8,kR,c,hz]
      rw[this];simp
     ·refine zQE (by simpa using c) (a9 _ _ ⟨rfl,a8,as,?_,au,ac⟩)
      rw[a2,da]
      have:[t].filter (kR (zC o bk) o)=[]:=by simp[d8,kR,c]
      rw[this,mh];exact C
    case cont=>
     rintro σ' U ⟨rfl,bU,be,bi,bl,bm⟩
     refine⟨_,rfl,_,rfl,?_⟩
     have J:(((yE (zC o bk) (zE t o)).map fun p=>(tx p.1,V.int p.2)).map (·.1))=(yF (zC o bk) (zE t o)).map tx:=by rw[aP,aP];rfl
     have b0:(((yE (zC o bk) (zE t o)).map fun p=>(tx p.1,V.int p.2)).map (·.1)).Nodup:=by
      rw[J]
      exact dW tx (fun a b b1 z=>b1 (qK z)) (jA _ _)
     have b2:(yE (zC o bk) (zE t o)).length<64:=by
      have h1:=gU (yF (zC o bk) (zE t o)) ((zC o bk).map (·.2)) (jA _ _) fun l hl=>az.mpr ⟨_,(uV _ _ _).mp hl,rfl⟩
      rw[aa,aa]at h1
      omega
     refine⟨ra,(yE (zC o bk) (zE t o)).map (fun p:S×Int=>(tx p.1,V.int p.2)),rfl,bm,b0,by rw[aa];exact b2,fun out l M bn hl=>?_⟩
     rw[J]at M
     have d:(out.map fun x=>x.cps.toList).Perm (yF (zC o bk) (zE t o)):=by
      have:=M.map fun x:Str=>x.cps.toList
      rw[aP]at this
      have e:(yF (zC o bk) (zE t o)).map ((fun x:Str=>x.cps.toList) ∘ tx)=yF (zC o bk) (zE t o):=by
       conv=>rhs;rw[<-mW (yF (zC o bk) (zE t o))]
       apply cj
       intro x _
       exact qZ x
      rw[e]at this
      exact this
     have O:(out.map fun x=>x.cps.toList).Pairwise (· < ·):=cx.mpr bn
     have ax:out=(out.map fun x=>x.cps.toList).map tx:=(zGi out).symm
     generalize(out.map fun x=>x.cps.toList)=os at d O ax
     subst ax
     have b3:os.filter (fun l=>decide (l≠[]))=lt (zE t o):=zCI (cM _ O) (n _).1 fun l=>by
      rw[aQ,d.mem_iff,uV,(n _).2,decide_eq_true_eq]
      exact And.comm
     have ci:os.length<64:=by have:=d.length_eq;rw[aa]at this;omega
     have sl:zA U (upd U l (.lst ((os.map tx).map V.str))):=zA.upd1 hl
     refine⟨l,rfl,⟨_,.of zF⟩,?_⟩
     have bt:upd U l (.lst ((os.map tx).map V.str)) l=some (.lst ((os.map tx).map V.str)):=zF
     have aA:=sl _ _ bl
     have R:=sl _ _ bi
     have aK:=sl _ _ be
     have a3:=bU.trans sl
     generalize upd U l (.lst ((os.map tx).map V.str))=H6 at bt aA R aK a3
     refine kG (u5 K l ((os.map tx).map V.str)) [some (sv t)] 1 (by rw[aa,aa];omega) (fun i al H'=>H'=H6/\al=(((os.take i).filter fun l=>decide (l≠[])).map (t++·)).map sv)
      ⟨rfl,rfl⟩ (fun i al H' _ h=>⟨.of (by rw[h.1];exact bt),by
       rw[h.2,aa,aa]
       have h1:=bj (fun l=>decide (l≠[])) (os.take i)
       rw[aO]at h1
       omega⟩) ?_ ?_
     ·rintro i y al H' ys Nx hN q hy ⟨rfl,rfl⟩
      obtain⟨y',rfl⟩:=ys1 hy
      rw[aq,aq]at q
      cases ep:os[i]? with
      |none=>rw[ep]at q;cases q
      |some c=>
      rw[ep]at q
      have hx2:y=sv c:=(ay q).symm
      subst hx2
      have co:c.length<=1:=gR ((uV _ _ _).mp (d.mem_iff.mp (aT ep)))
      have aN:os.take (i+1)=os.take i++[c]:=by
       rw[ak (af.mp ep).1,(af.mp ep).2]
      refine⟨_,rfl,rfl,_,rfl,?_⟩
      by_cases hz:c=[]
      ·subst hz
       refine k9 rfl (hN _ _ [some (sv [])] rfl ⟨rfl,?_⟩)
       rw[aN,da];simp
      ·have b4:¬V.str (tx c)=V.str "" :=fun z=>hz (qK (V.str.inj z))
       refine zAP b4 ⟨_,rfl,_,rfl,tx t,tx c,rfl,rfl,by rw[yB,yB,aR];omega,hN _ _ [some (sv c)] rfl ⟨rfl,?_⟩⟩
       rw[aN,da,aC,aC,zBm]
       have:[c].filter (fun l=>decide (l≠[]))=[c]:=by simp[hz]
       rw[this];rfl
     ·rintro al H' ⟨rfl,rfl⟩ D hD
      rw[aa,aa,aU,b3]
      have sD:zA H' (upd H' D (.lst (((lt (zE t o)).map (t++·)).map sv))):=zA.upd1 hD
      have bv:(((A.take j).flatMap (zAd lt o)).map sv).length+(((lt (zE t o)).map (t++·)).map sv).length<=sizeLine:=by
       have h4:=zBy (A.take j) (zAd lt o) fun t _=>by rw[aa];exact zEi ha n _
       have h3:=zEi ha n (zE t o)
       rw[aO]at h4
       rw[aa,aa,aa,aR];omega
      refine⟨T,D,_,_,rfl,rfl,sD _ _ aA,zF,bv,fun p hp=>?_⟩
      have sP:zA (upd H' D (.lst (((lt (zE t o)).map (t++·)).map sv))) (upd (upd H' D (.lst (((lt (zE t o)).map (t++·)).map sv))) p (.lst ((((A.take j).flatMap (zAd lt o)).map sv)++(((lt (zE t o)).map (t++·)).map sv)))):=zA.upd1 hp
      refine bS _ _ ⟨p,_,_,rfl,(a3.trans sD).trans sP,(a3.trans sD).free hp,yI (sD _ _ R) hp,sP _ _ (sD _ _ aK),sP _ _ (sD _ _ R),?_⟩
      rw[zF,a2,fZ,<-aC]
      simp
   ·rintro σ H2 ⟨T,x7,x8,rfl,ab,ao,I,ap,u,v⟩
    rw[aa,aU]at u v
    refine⟨_,rfl,hN _ _ ⟨T,_,_,_,_,_,_,rfl,ab,ao,I,v,u,Z.step (kK o bk) lt (fun e=>(n e).1) (fun e=>(n e).2),?_,r.step Z,?_⟩⟩
    ·have:=zBy A (zAd lt o) fun t _=>by rw[aa];exact zEi ha n _
     rw[rG];omega
    ·rw[aE]
     have h1:=bj (kR (zC o bk) o) A
     have h2:(A.filter fun t=>decide ((zE t o,[])∈zC o bk)&&decide (t≠[])).length<=A.length:=h1
     omega
  ·rintro σ H' ⟨G,x5,x6,x7,x8,A,L,rfl,sm,bL,an,a0,Y,Z,a4,r,a5⟩
   have am:MadeL (zC o bk) o 4 L:=by simpa using r
   have b6:L.length<=4*27:=by simpa using a5
   exact⟨_,rfl,k L g H' am (by omega) sm aW Y⟩
def zIu (K:ae):Sp:=fun vs H Q _=>∃(way:Nat) (v u y:V) (d e g:bW),vs=[.int way,v,u,y]/\way<5/\yA H d v/\yA H e u/\yA H g y/\sml d=true/\sml e=true/\sml g=true/\
 (yZ d=false->∀p H',zA H H'->zBI H' p 0->Q (.ref p) H')/\(yZ d=true->uE e=false->∀p H',zA H H'->zBI H' p 1->Q (.ref p) H')/\
 (yZ d=true->uE e=true->jP g=false->way<4->∀p H',zA H H'->zBI H' p 4->Q (.ref p) H')/\
 (∀(a:ah) (bk:List S) (o:Nat),v=.ref a->u=.int o->H a=some (.tup (zP bk))->Bk bk o->gZ bk/\(zC o bk).length<=60/\
  (way=4->∀(l:ah) (L:List Nat) (H':Hp),zA H H'->H l=none->H' l=some (.lst (L.map fun(n:Nat)=>V.int (n:Int)))->L.Pairwise (· < ·)->(∀n,n∈L↔1<=n/\n<=8/\∃x,uC (zC o bk) o n x)->Q (.ref l) H')/\
  ∀n:Nat,y=.int n->1<=n->n<=8->(way=0->∀(N:Nat) (H':Hp),zA H H'->zCD (zC o bk) o n N->Q (.int N) H')/\
   (way=1->∀(v:V) (q:Int×Int) (H':Hp),zA H H'->yO K H' v q->g7 (zC o bk) o [n] q->Q v H')/\
   (way=2->∀(v:V) (q:Int×Int) (H':Hp),zA H H'->yO K H' v q->g7 (zC o bk) o ((ba n).map (1+·)) q->Q v H')/\
   (way=3->∀(l:ah) (A:List S) (H':Hp),zA H H'->H l=none->H' l=some (.lst (A.map sv))->AllT (zC o bk) o n n A->A.length<=3^n->Q (.ref l) H'))
abbrev zCN:cp:=top 65
theorem zIv:FnScope ["_law_way","_law_book_here","_law_order","_law_length","_law_e"] ["_law_way","_law_book_here","_law_order","_law_length"] (defScope zCN):=yD
theorem zQH {f:ah}{fd:aX}{cs:List ah}{L:ah}(F:Fun K "_law_told" "_law_told" zCN f fd)(E:ErrX K mg cs L)(cH:u7 P w K mg base 5 "how_many" ["book","order","length"] (kQ (cs.getD 0 0) (cs.getD 1 0) (cs.getD 4 0) zEb))
  (cS:u7 P w K mg base 6 "share_of_length" ["book","order","length"] (kQ (cs.getD 0 0) (cs.getD 1 0) (cs.getD 4 0) (zIe K))) (cU:u7 P w K mg base 6 "share_up_to" ["book","order","length"] (kQ (cs.getD 0 0) (cs.getD 1 0) (cs.getD 4 0) (zIf K)))
  (cA:u7 P w K mg base 4 "all_made" ["book","order","length"] (kQ (cs.getD 0 0) (cs.getD 1 0) (cs.getD 4 0) zIg)) (cL:u7 P w K mg base 5 "lengths" ["book","order"] (zId (cs.getD 0 0) (cs.getD 1 0))) (cR:zBz P w K mg base 1 "_law_refused" ["_law_e"] (zEZ cs)) :
  FnOk P w K mg base z7 7 f fd ["_law_way","_law_book_here","_law_order","_law_length"] (zIu K):=by
 obtain⟨fH,fdH,okH,mH,kH,bH⟩:=id cH
 obtain⟨fS,fdS,okS,mS,kS,bS⟩:=id cS
 obtain⟨fU,fdU,okU,mU,kU,bU⟩:=id cU
 obtain⟨fA,fdA,okA,mA,kA,bA⟩:=id cA
 refine F.ok zIv (fun vs H Q E h=>?_) (fun cdv A outer s H vs Q E' hr h=>?_)
 ·obtain⟨way,v,u,y,d,e,g,rfl,_⟩:=h;rfl
 ·obtain⟨way,v,u,y,d,e,g,rfl,hw,hv,hue,hy,sd,se,sg,k0,k1,k2,kg⟩:=h
  have nd:=zIv.nd
  have hr1:=hr.mono (j:=1) (by decide)
  have hr4:=hr.mono (j:=4) (by decide)
  have hr5:=hr.mono (j:=5) (by decide)
  have hr6:=hr.mono (j:=6) (by decide)
  refine⟨_,zO (zNl (i:=4) rfl rfl rfl E.like (by rfl) nd rfl rfl
   (fun E1 ET pn ok=>zJ (vX (vJ zFE (pv 0) zI (vD _)) (zO (zZ (uL cL ok hr5 rfl (zB (pv 1) (zB (pv 2) zD))))) vV)
    (zO (zZ (zNr P w K mg base (A.deeper (sF "_law_told" (defScope zCN) s.heap.objs.size f cdv)) rfl rfl rfl rfl rfl rfl ok (uY (zHq K rfl) (vK (zB (vC (v:=.ref fH) (by rfl) mH rfl) (zB (vC (v:=.ref fS) (by rfl) mS rfl) (zB (vC (v:=.ref fU) (by rfl) mU rfl) (zB (vC (v:=.ref fA) (by rfl) mA rfl) zD))))) (pv 0) (fun _ _=>rfl)) (zB (pv 1) (zB (pv 2) (zB (pv 3) zD)))))))
   (fun e=>zO (zZ (zNp cR (hr1.busy _) rfl (zB (pv 4) zD))))),?_⟩
  have caught:∀(j:Nat),j<8->(∀p H',zA H H'->zBI H' p j->Q (.ref p) H')->∀H1,zA H H1->∃C:ah,Value.ref (cs.getD j 0)=.ref C/\d7 K C g0 "ValueError.__new__"=true/\zAY K C L=true/\∀e1,H1 e1=none->
    zEv (zAk (zEZ cs) [] E0 (zFL (vR 4) zFK)) {nx:=fun _ _=>False,rt:=Q} ((aB 5 none).set 4 (some (.ref e1))) (upd H1 e1 (XO e1 C)):=fun j hj kk H1 s1=>by
   obtain⟨a1,a2,a3,_⟩:=E.at_ j hj
   refine⟨_,rfl,a1.exc,a3,fun e1 he1=>?_⟩
   refine⟨_,rfl,e1,j,rfl,hj,zF,fun p H' sm _ hp=>kk p H' (s1.trans ((zA.upd1 he1).trans sm)) hp⟩
  have tupI:∀(l:ah) (xs ys:List V) (a:ah),upd H l (.lst xs) a=some (.tup ys)->H a=some (.tup ys):=fun l xs ys a h=>by
   by_cases e:a=l
   ·subst e;rw[zF]at h;cases h
   ·rw[zG e]at h;exact h
  have sz4:4<=sizeLine:=by decide
  refine⟨_,rfl,rfl,_,rfl,?_⟩
  match way,hw with
  |0,_=>
   refine qJ (by intro z;cases z) ⟨sz4,fun l hl=>?_⟩
   have s1:=zA.upd1 (o:=.lst [.ref fH,.ref fS,.ref fU,.ref fA]) hl
   refine⟨_,rfl,l,_,_,.ref fH,rfl,rfl,.of zF,jF (j:=0) rfl,_,⟨5,fH,fdH,_,rfl,okH,hr5,kH,bH⟩,?_⟩
   refine⟨_,rfl,_,rfl,_,rfl,v,u,y,d,e,g,rfl,yA.same s1 _ _ hv,yA.same s1 _ _ hue,yA.same s1 _ _ hy,sd,se,sg,fun hb H1 s2=>caught 0 (by decide) (k0 hb) H1 (s1.trans s2),fun hb ho H1 s2=>caught 1 (by decide) (k1 hb ho) H1 (s1.trans s2),fun hb ho hn H1 s2=>caught 4 (by decide) (k2 hb ho hn (by decide)) H1 (s1.trans s2),fun a bk o n e1 e2 e3 h3 h4 h5 h6=>?_⟩
   obtain⟨abz,h60,_,kn⟩:=kg a bk o e1 e2 (tupI _ _ _ _ h3) h4
   obtain⟨q0,q1,q2,q3⟩:=kn n e3 h5 h6
   exact fun N H2 s2 hN=>q0 rfl N H2 (s1.trans s2) hN
  |1,_=>
   refine qJ (by intro z;cases z) ⟨sz4,fun l hl=>?_⟩
   have s1:=zA.upd1 (o:=.lst [.ref fH,.ref fS,.ref fU,.ref fA]) hl
   refine⟨_,rfl,l,_,_,.ref fS,rfl,rfl,.of zF,jF (j:=1) rfl,_,⟨6,fS,fdS,_,rfl,okS,hr6,kS,bS⟩,?_⟩
   refine⟨_,rfl,_,rfl,_,rfl,v,u,y,d,e,g,rfl,yA.same s1 _ _ hv,yA.same s1 _ _ hue,yA.same s1 _ _ hy,sd,se,sg,fun hb H1 s2=>caught 0 (by decide) (k0 hb) H1 (s1.trans s2),fun hb ho H1 s2=>caught 1 (by decide) (k1 hb ho) H1 (s1.trans s2),fun hb ho hn H1 s2=>caught 4 (by decide) (k2 hb ho hn (by decide)) H1 (s1.trans s2),fun a bk o n e1 e2 e3 h3 h4 h5 h6=>?_⟩
   obtain⟨abz,h60,_,kn⟩:=kg a bk o e1 e2 (tupI _ _ _ _ h3) h4
   obtain⟨q0,q1,q2,q3⟩:=kn n e3 h5 h6
   exact⟨h60,fun v2 q H2 s2 fr hq=>q1 rfl v2 q H2 (s1.trans s2) fr hq⟩
  |2,_=>
   refine qJ (by intro z;cases z) ⟨sz4,fun l hl=>?_⟩
   have s1:=zA.upd1 (o:=.lst [.ref fH,.ref fS,.ref fU,.ref fA]) hl
   refine⟨_,rfl,l,_,_,.ref fU,rfl,rfl,.of zF,jF (j:=2) rfl,_,⟨6,fU,fdU,_,rfl,okU,hr6,kU,bU⟩,?_⟩
   refine⟨_,rfl,_,rfl,_,rfl,v,u,y,d,e,g,rfl,yA.same s1 _ _ hv,yA.same s1 _ _ hue,yA.same s1 _ _ hy,sd,se,sg,fun hb H1 s2=>caught 0 (by decide) (k0 hb) H1 (s1.trans s2),fun hb ho H1 s2=>caught 1 (by decide) (k1 hb ho) H1 (s1.trans s2),fun hb ho hn H1 s2=>caught 4 (by decide) (k2 hb ho hn (by decide)) H1 (s1.trans s2),fun a bk o n e1 e2 e3 h3 h4 h5 h6=>?_⟩
   obtain⟨abz,h60,_,kn⟩:=kg a bk o e1 e2 (tupI _ _ _ _ h3) h4
   obtain⟨q0,q1,q2,q3⟩:=kn n e3 h5 h6
   exact⟨h60,fun v2 q H2 s2 fr hq=>q2 rfl v2 q H2 (s1.trans s2) fr hq⟩
  |3,_=>
   refine qJ (by intro z;cases z) ⟨sz4,fun l hl=>?_⟩
   have s1:=zA.upd1 (o:=.lst [.ref fH,.ref fS,.ref fU,.ref fA]) hl
   refine⟨_,rfl,l,_,_,.ref fA,rfl,rfl,.of zF,jF (j:=3) rfl,_,⟨4,fA,fdA,_,rfl,okA,hr4,kA,bA⟩,?_⟩
   refine⟨_,rfl,_,rfl,_,rfl,v,u,y,d,e,g,rfl,yA.same s1 _ _ hv,yA.same s1 _ _ hue,yA.same s1 _ _ hy,sd,se,sg,fun hb H1 s2=>caught 0 (by decide) (k0 hb) H1 (s1.trans s2),fun hb ho H1 s2=>caught 1 (by decide) (k1 hb ho) H1 (s1.trans s2),fun hb ho hn H1 s2=>caught 4 (by decide) (k2 hb ho hn (by decide)) H1 (s1.trans s2),fun a bk o n e1 e2 e3 h3 h4 h5 h6=>?_⟩
   obtain⟨abz,h60,_,kn⟩:=kg a bk o e1 e2 (tupI _ _ _ _ h3) h4
   obtain⟨q0,q1,q2,q3⟩:=kn n e3 h5 h6
   exact⟨abz,by omega,fun l2 A2 H2 s2 hl2 hA aA lA=>q3 rfl l2 A2 H2 (s1.trans s2) (s1.free hl2) hA aA lA⟩
  |4,_=>
   refine kI rfl ?_
   refine⟨_,rfl,_,rfl,v,u,d,e,rfl,hv,hue,sd,se,fun hb H1 s2=>caught 0 (by decide) (k0 hb) H1 s2,fun hb ho H1 s2=>caught 1 (by decide) (k1 hb ho) H1 s2,fun a bk o e1 e2 h3 h4=>?_⟩
   obtain⟨_,_,q4,_⟩:=kg a bk o e1 e2 h3 h4
   exact q4 rfl
end
def zEk:List bW:=[.int 0,.int 9,.none,.bool true,.str "1"]
theorem zQI:∀d∈zEk,sml d=true/\jP d=false:=by
 have all:zEk.all (fun d=>sml d&&!jP d)=true:=by decide+kernel
 intro d hd
 have:=cg.mp all d hd
 simp only[bc,dX]at this
 exact this
def zEl:List bW:=[.int 0,.int 4,.none]
theorem zQJ:∀d∈zEl,sml d=true/\uE d=false:=by
 have all:zEl.all (fun d=>sml d&&!uE d)=true:=by decide+kernel
 intro d hd
 have:=cg.mp all d hd
 simp only[bc,dX]at this
 exact this
abbrev uR (bk:List S):List bW:=bk.map fun x=>PyData.str (tx x)
theorem zQK {x:S}(h:q8 x):sml (.str (tx x))=true:=by
 simp only[sml,yB,qZ,bc,decide_eq_true_eq,cg]
 exact⟨by have:=h.2.1;omega,fun c a=>by have:=h.2.2 c a;omega⟩
theorem zQL {bk:List S}(h:∀x∈bk,q8 x):smls (uR bk)=true:=by
 induction bk with
 |nil=>rfl
 |cons x r ih=>
  show smls (.str (tx x)::uR r)=true
  simp only[smls,zQK (h x (aj ..)),ih fun y a=>h y (ar _ a),gf]
theorem zIw {bk:List S}(h:isBk bk):sml (.tuple (uR bk))=true/\sml (.list (uR bk))=true:=by
 have:=zQL h.nm
 have hl:(uR bk).length<=900:=by have:=h.hi;rw[aa];omega
 simp only[sml,this,Bool.and_true]
 exact⟨decide_eq_true hl,decide_eq_true hl⟩
def uS (j:Int):bW:=.tuple [.str "refused",.int j]
theorem zIx {K:ae}{b:Hp}{D pt d pr:ah}{c:List V}{j:Int}(r:b D=none)(s:Reps K b (aB 5 (uS j)) c)(h:upd b D (.lst c) pt=none)(i:upd (upd b D (.lst c)) pt (.tup [.str "refused",.int j]) d=none)
  (l:upd (upd (upd b D (.lst c)) pt (.tup [.str "refused",.int j])) d (.lst [.ref pt]) pr=none):∃e,upd (upd (upd (upd b D (.lst c)) pt (.tup [.str "refused",.int j])) d (.lst [.ref pt])) pr (.lst (aB (5:Int).toNat [V.ref pt]).flatten)=e/\zA b e/\
   yQ K e (.list (aB 5 (uS j))) (.ref D)/\yQ K e (.list (aB 5 (uS j))) (.ref pr):=by
 have u1:=zA.upd1 (o:=.lst c) r
 have m:=zA.upd1 (o:=.tup [.str "refused",.int j]) h
 have f:=zA.upd1 (o:=.lst [.ref pt]) i
 have g:=zA.upd1 (o:=.lst (aB (5:Int).toNat [V.ref pt]).flatten) l
 have n:=g _ _ (f _ _ (m _ _ (zF (H:=b) (a:=D) (o:=.lst c))))
 have p:=Reps.same (((u1.trans m).trans f).trans g) _ _ s
 have q:=g _ _ (f _ _ (zF (H:=upd b D (.lst c)) (a:=pt) (o:=.tup [.str "refused",.int j])))
 refine⟨_,rfl,((u1.trans m).trans f).trans g,zAQ n p,zAQ zF ?_⟩
 have one:yQ K (upd (upd (upd (upd b D (.lst c)) pt (.tup [.str "refused",.int j])) d (.lst [.ref pt])) pr (.lst (aB (5:Int).toNat [V.ref pt]).flatten)) (uS j) (.ref pt):=⟨pt,_,rfl,.of q,_,_,rfl,rfl,_,_,rfl,rfl,rfl⟩
 exact⟨_,_,rfl,one,_,_,rfl,one,_,_,rfl,one,_,_,rfl,one,_,_,rfl,one,rfl⟩
theorem zQM {K:ae}{b:Hp}{D pt d pr:ah}{c:List V}{j:Int}(r:b D=none)(s:Reps K b (aB 4 (uS j)) c)(h:upd b D (.lst c) pt=none)(i:upd (upd b D (.lst c)) pt (.tup [.str "refused",.int j]) d=none)
  (l:upd (upd (upd b D (.lst c)) pt (.tup [.str "refused",.int j])) d (.lst [.ref pt]) pr=none):∃e,upd (upd (upd (upd b D (.lst c)) pt (.tup [.str "refused",.int j])) d (.lst [.ref pt])) pr (.lst (aB (4:Int).toNat [V.ref pt]).flatten)=e/\zA b e/\
   yQ K e (.list (aB 4 (uS j))) (.ref D)/\yQ K e (.list (aB 4 (uS j))) (.ref pr):=by
 have u1:=zA.upd1 (o:=.lst c) r
 have m:=zA.upd1 (o:=.tup [.str "refused",.int j]) h
 have f:=zA.upd1 (o:=.lst [.ref pt]) i
 have g:=zA.upd1 (o:=.lst (aB (4:Int).toNat [V.ref pt]).flatten) l
 have n:=g _ _ (f _ _ (m _ _ (zF (H:=b) (a:=D) (o:=.lst c))))
 have p:=Reps.same (((u1.trans m).trans f).trans g) _ _ s
 have q:=g _ _ (f _ _ (zF (H:=upd b D (.lst c)) (a:=pt) (o:=.tup [.str "refused",.int j])))
 refine⟨_,rfl,((u1.trans m).trans f).trans g,zAQ n p,zAQ zF ?_⟩
 have one:yQ K (upd (upd (upd (upd b D (.lst c)) pt (.tup [.str "refused",.int j])) d (.lst [.ref pt])) pr (.lst (aB (4:Int).toNat [V.ref pt]).flatten)) (uS j) (.ref pt):=⟨pt,_,rfl,.of q,_,_,rfl,rfl,_,_,rfl,rfl,rfl⟩
 exact⟨_,_,rfl,one,_,_,rfl,one,_,_,rfl,one,_,_,rfl,one,rfl⟩
theorem zEm {o:Nat}(a:1<=o)(b:o<=3):uE (.int (o:Int))=true:=by simp only[uE,bc,decide_eq_true_eq];omega
theorem zEn {n:Nat}(a:1<=n)(b:n<=8):jP (.int (n:Int))=true:=by simp only[jP,qO,bc,decide_eq_true_eq];omega
theorem zIy:∀{a b:List S},zP a=zP b->a=b
 | [],[],_=>rfl
 | [],b::bs,h=>by cases h
 |a::as,[],h=>by cases h
 |a::as,b::bs,h=>by
  have c:sv a::zP as=sv b::zP bs:=h
  injection c with c d
  rw[qK (V.str.inj c),zIy d]
theorem told_invX {H:Hp}{b c:ah}{bk a:List S}{o d:Nat}(e:H b=some (.tup (zP bk)))(f:V.ref b=.ref c)(g:V.int (o:Int)=.int (d:Int))(h:H c=some (.tup (zP a))):b=c/\bk=a/\o=d:=by
 cases f
 rw[e]at h
 refine⟨rfl,zIy ?_,?_⟩
 ·injection h with h;injection h
 ·have:=V.int.inj g;omega
theorem hmG {P:aJ}{w:aV}{K:ae}{mg:Str->Option ag}{base:bC}{g no i:ah}(C:u7 P w K mg base 5 "how_many" ["book","order","length"] (kQ g no i zEb)):zY P w K mg base 5 "how_many" ["book","order","length"] zHu:=by
 obtain⟨f,fd,F,r⟩:=C
 refine⟨f,fd,F.calm fun vs H Q E h=>?_,r⟩
 obtain⟨a,bk,o,n,rfl,e,b,c,d,k⟩:=h
 refine⟨_,_,_,.tuple (uR bk),.int o,.int n,rfl,⟨a,_,rfl,e,Thgs.strs bk⟩,rfl,rfl,(zIw b.toisBk).1,rfl,rfl,fun z=>?_,fun _ z=>?_,fun _ _ z=>?_,fun t j u l m p q s v x y=>?_⟩
 ·rw[show yZ (.tuple (uR bk))=true from zIU b.toisBk]at z;cases z
 ·rw[zEm b.o1 b.o3]at z;cases z
 ·rw[zEn c d]at z;cases z
 ·obtain⟨rfl,rfl,rfl⟩:=told_invX e m p s
  have:n=l:=by have:=V.int.inj q;omega
  subst this
  exact k
theorem zIz {f:S->Int}(p:S->Bool):∀M:List S,(M.map f).sum=((M.filter p).map f).sum+((M.filter fun x=>!p x).map f).sum
 | []=>by simp
 |x::M=>by
  rw[aF,bb,zIz p M]
  cases e:p x<;>simp[d8,e]<;>omega
theorem zJA {ps:List (S×S)}(d:uB ps){o:Nat}{U:Int}(e:Unit9 ps U):∀(n:Nat),n<=8->∀M:List S,M.Nodup->(∀x,x∈M↔1<=x.length/\x.length<=n/\Mk ps o x)->upW ps o U n=(M.map (Wn ps o (U^9))).sum
 |0,_,M,_,a=>by
  have:M=[]:=by
   cases M with
   |nil=>rfl
   |cons x r=>have:=(a x).mp (aj ..);omega
  rw[this];rfl
 |n+1,g,M,hd,a=>by
  rw[zOR,zIz (fun x=>decide (x.length=1+n)) M]
  rw[zEH d e (n:=1+n) (by omega) (M:=M.filter fun x=>decide (x.length=1+n)) (hd.filter _) fun x=>?_,zJA d e n (by omega) (M.filter fun x=>!decide (x.length=1+n)) (hd.filter _) fun x=>?_,Int.add_comm]
  ·rw[aQ,a]
   simp only[dX,decide_eq_false_iff_not]
   constructor
   ·rintro⟨⟨b,f,c⟩,i⟩;exact⟨b,by omega,c⟩
   ·rintro⟨b,f,c⟩;exact⟨⟨b,by omega,c⟩,by omega⟩
  ·rw[aQ,a,decide_eq_true_eq]
   exact⟨fun h=>⟨h.2,h.1.2.2⟩,fun h=>⟨⟨by have:=h.1;omega,by have:=h.1;omega,h.2⟩,h.1⟩⟩
theorem zQN {ps:List (S×S)}(d:uB ps){o n:Nat}(f:n<=8){q:Int×Int}(h:g7 ps o ((ba n).map (1+·)) q){M:List S}(g:M.Nodup)(b:∀x,x∈M↔1<=x.length/\x.length<=n/\Mk ps o x):q=M.foldl (fun w x=>vI w (yX ps o x)) (0,1):=by
 obtain⟨U,a,rfl⟩:=h
 have i:0<U^9:=gy a.pos
 have e:=(zBu (o:=o) a.pos a.dvd M 0 (by decide) fun x j=>by have:=(b x).mp j;omega)
 rw[zBf i]at e
 rw[e.1,l5]
 have c:=zJA d a n f M g b
 unfold upW at c
 rw[c]
theorem zQO {ps:List (S×S)}{o n:Nat}{L:List S}(h:MadeL ps o 4 L)(g:1<=n)(i:n<=3):(L.filter fun x=>decide (x.length=n)).Pairwise (· < ·)/\∀x,x∈(L.filter fun x=>decide (x.length=n))↔uC ps o n x:=by
 constructor
 ·have d:=cM (fun x:S=>decide (x.length=n)) h.ris
  refine d.imp_of_mem fun{a b} e f c=>?_
  have j:=of_decide_eq_true (aQ.mp e).2
  have l:=of_decide_eq_true (aQ.mp f).2
  rcases c with z|z
  ·omega
  ·exact z.2
 ·intro x
  rw[aQ,h.mem,decide_eq_true_eq]
  exact⟨fun z=>⟨z.2,z.1.2.2⟩,fun z=>⟨⟨by have:=z.1;omega,by have:=z.1;omega,z.2⟩,z.1⟩⟩
theorem zQP {ps:List (S×S)}{o n:Nat}{L:List S}(h:MadeL ps o n L):L.Nodup:=h.ris.imp fun{a b} z e=>by
 subst e
 rcases z with z|z
 ·omega
 ·exact kJ _ z.2
theorem zQQ {ps:List (S×S)}{o n:Nat}{L:List S}(h:MadeL ps o 4 L)(a:n<=3):(L.filter fun x=>decide (x.length<=n)).Nodup/\∀x,x∈(L.filter fun x=>decide (x.length<=n))↔1<=x.length/\x.length<=n/\Mk ps o x:=by
 refine⟨(zQP h).filter _,fun x=>?_⟩
 rw[aQ,h.mem,decide_eq_true_eq]
 exact⟨fun z=>⟨z.1.1,z.2,z.1.2.2⟩,fun z=>⟨⟨z.1,by have:=z.2.1;omega,z.2.2⟩,z.2.1⟩⟩
theorem zQR:∀L:List S,(PyData.list (L.map fun x=>PyData.str (tx x))).depth<=10:=by
 have go:∀L:List S,fG (L.map fun x=>PyData.str (tx x))<=4:=by
  intro l
  induction l with
  |nil=>exact bQ _
  |cons q l ih=>
   rw[aF]
   simp only[fG,je]
   omega
 intro L
 have:=go L
 simp only[je]
 omega
structure FrL (K:ae) (G:Hp) (ps:List (S×S)) (o:Nat) (xs:List V) (W:List S):Prop where
 len:xs.length=W.length
 at_:∀(j:Nat) (v:V) (x:S),xs[j]?=some v->W[j]?=some x->yO K G v (yX ps o x)
theorem FrL.same {K:ae}{G c:Hp}{ps:List (S×S)}{o:Nat}{xs:List V}{W:List S}(h:FrL K G ps o xs W)(e:zA G c):FrL K c ps o xs W:=⟨h.len,fun j v x a b=>(h.at_ j v x a b).same e⟩
theorem FrL.nil {K:ae}{G:Hp}{ps:List (S×S)}{o:Nat}:FrL K G ps o [] []:=⟨rfl,fun j v x a b=>by cases a⟩
theorem FrL.snoc {K:ae}{G:Hp}{ps:List (S×S)}{o:Nat}{xs:List V}{W:List S}{v:V}{x:S}(h:FrL K G ps o xs W)(d:yO K G v (yX ps o x)):FrL K G ps o (xs++[v]) (W++[x]):=by
 refine⟨by rw[aE,aE,h.len];rfl,fun j u y a b=>?_⟩
 by_cases c:j<xs.length
 ·rw[bI c]at a
  rw[bI (by rw[<-h.len];exact c)]at b
  exact h.at_ j u y a b
 ·rw[bw (by omega)]at a
  rw[bw (by rw[<-h.len];omega),<-h.len]at b
  have e:j-xs.length=0:=by
   have:=(af.mp a).1
   simp at this;omega
  rw[e]at a b
  have f:v=u:=ay a
  have g:x=y:=ay b
  rw[<-f,<-g];exact d
theorem FrL.args {K:ae}{G:Hp}{ps:List (S×S)}{o:Nat}{xs:List V}{W:List S}(h:FrL K G ps o xs W)(b:ps.length<=60)(c:∀x∈W,x.length<=8)(d:∀x∈W,FG (yX ps o x))(l:W.length<=900) :
  ∀i x q,xs[i]?=some x->(W.map (yX ps o))[i]?=some q->yO K G x q/\FG q/\FG (((W.map (yX ps o)).take i).foldl vI (0,1)):=fun i v q f a=>by
 rw[aq]at a
 cases e:W[i]? with
 |none=>rw[e]at a;cases a
 |some x=>
 rw[e]at a
 have g:yX ps o x=q:=ay a
 subst g
 refine⟨h.at_ i v x f e,d x (aT e),?_⟩
 rw[<-d6,mY]
 exact zOP b (fun y j=>c y (cz j)) (by rw[aO];omega)
theorem zQS {A:List S}{out:List Str}(c:A.Pairwise (· < ·))(d:out.Perm (A.map tx))(e:out.Pairwise (fun a b=>a.cps.toList<b.cps.toList)):out.map V.str=A.map sv:=zPB c (fun x=>d.mem_iff) e
section
variable{P:aJ}{w:aV}{K:ae}{mg:Str->Option ag}{base:bC}
structure LawC (P:aJ) (w:aV) (K:ae) (mg:Str->Option ag) (base:bC):Prop where
 dr:zY P w K mg base 2 "_law_drawn" ["_law_script","_law_k","_law_many"] (zDT K)
 bk:zY P w K mg base 4 "_law_book" ["_law_script","_law_at","_law_many","_law_most"] (zGo K)
 md:zY P w K mg base 3 "_law_made" ["_law_book_here","_law_order","_law_most"] zIt
 sh:zY P w K mg base 3 "_law_share" ["_law_book_here","_law_order","_law_name_here"] (zIp K)
 sm:zY P w K mg base 2 "_law_sum" ["_law_rows"] (zIn K)
 hm:zY P w K mg base 5 "how_many" ["book","order","length"] zHu
 td:zY P w K mg base 7 "_law_told" ["_law_way","_law_book_here","_law_order","_law_length"] (zIu K)
abbrev jQ:cp:=top 66
theorem zJB:FnScope ["_law_script","_law_book_here","_law_order","_law_names","_law_length","_law_due","_law_own","_law_upto","_law_told_here","_law_odd"] ["_law_script"] (defScope jQ):=yD
theorem ndA:(["_law_length","_law_name_here"]:List Str).Nodup:=by decide+kernel
theorem ndB:(["_law_book_here","_law_order","_law_name_here"]:List Str).Nodup:=by decide+kernel
theorem ndC:(["_law_book_here","_law_order","_law_length","_law_name_here"]:List Str).Nodup:=by decide+kernel
theorem ndD:(["_law_book_here","_law_order","_law_length","_law_way"]:List Str).Nodup:=by decide+kernel
theorem ndE:(["_law_length"]:List Str).Nodup:=by decide+kernel
theorem ndF:(["_law_name_here"]:List Str).Nodup:=by decide+kernel
theorem ndG:(["_law_book_here","_law_order","_law_told_here","_law_length"]:List Str).Nodup:=by decide+kernel
theorem ndH:(["_law_book_here","_law_order","_law_odd","_law_way"]:List Str).Nodup:=by decide+kernel
theorem ndI:(["_law_script","_law_book_here","_law_odd","_law_way"]:List Str).Nodup:=by decide+kernel
theorem ndJ:(["_law_book_here","_law_odd","_law_way"]:List Str).Nodup:=by decide+kernel
def zBJ (K:ae):Sp:=fun vs H Q _=>∃(a:ah) (ns:List Int),vs=[.ref a]/\yL K H a (ns.map V.int)/\ns.length<=63/\∀H',Q (.bl true) H'
theorem zQT {f:ah}{fd:aX}(F:Fun K "law" "law" jQ f fd)(B:Blt mg)(hset:mg "set"=none)(hlist:mg "list"=none)(C:LawC P w K mg base):FnOk P w K mg base z7 8 f fd ["_law_script"] (zBJ K):=by
 refine F.ok zJB (fun vs H Q E h=>?_) (fun cdv A outer s H vs Q E hr h=>?_)
 ·obtain⟨a,ns,rfl,_⟩:=h;rfl
 ·obtain⟨a,ns,rfl,ha,hl,k⟩:=h
  have nd:=zJB.nd
  have hu:=hr.units
  have r5:=hr.mono (j:=5) (by decide)
  have r4:=hr.mono (j:=4) (by decide)
  have r3:=hr.mono (j:=3) (by decide)
  have r2:=hr.mono (j:=2) (by decide)
  refine⟨_,zJ (zV (i:=1) nd rfl (Or.inr rfl) (zU C.bk r4 rfl (zB (pv 0) (zB zI (zB zI (zB zI zD))))))
   (zJ (zV (i:=2) nd rfl (Or.inr rfl) (zR y0 zI (zU C.dr r2 rfl (zB (pv 0) (zB zI (zB zI zD))))))
   (zJ (zV (i:=3) nd rfl (Or.inl rfl) (zU C.md r3 rfl (zB (pv 1) (zB (pv 2) (zB zI zD)))))
   (zJ (vS bF rfl (zBN (uN (zB zI (zB zI (zB zI zD))))) (z0 (i:=4) nd rfl (Or.inr rfl))
    (zJ (zV (i:=5) nd rfl (Or.inl rfl) (yH (zOU rfl) (by rfl) B.sorted eZ (zB (vE (N:=["_law_length","_law_name_here"]) (caps:=[4]) rfl (y9 (by kernel_rfl)) (uX (pv 3)) (fun cl X s H ex=>z0 (i:=1) ndA rfl (Or.inl rfl))
      (fun cl X s H ex=>j8 (vJ zFE (yH jZ (by rfl) B.len cu (zB (pv 1) zD)) (pv 0) (vD _))) (fun cl X s H ex=>pv 1)) zD)))
    (zJ (zV (i:=6) nd rfl (Or.inl rfl) (zU C.sm r2 rfl (zB (vE (N:=["_law_book_here","_law_order","_law_name_here"]) (caps:=[1,2]) rfl (y9 (by kernel_rfl)) (uX (pv 5)) (fun cl X s H ex=>z0 (i:=2) ndB rfl (Or.inl rfl))
      (fun cl X s H ex=>uI) (fun cl X s H ex=>zU C.sh r3 rfl (zB (pv 0) (zB (pv 1) (zB (pv 2) zD))))) zD)))
    (zJ (zV (i:=7) nd rfl (Or.inl rfl) (zU C.sm r2 rfl (zB (vE (N:=["_law_book_here","_law_order","_law_length","_law_name_here"]) (caps:=[1,2,4]) rfl (y9 (by kernel_rfl)) (uX (pv 3)) (fun cl X s H ex=>z0 (i:=3) ndC rfl (Or.inl rfl))
      (fun cl X s H ex=>j8 (vJ gJ (yH jZ (by rfl) B.len cu (zB (pv 3) zD)) (pv 2) (vD _))) (fun cl X s H ex=>zU C.sh r3 rfl (zB (pv 0) (zB (pv 1) (zB (pv 3) zD))))) zD)))
    (zO (vX (vJ (zAJ hu) (vE (N:=["_law_book_here","_law_order","_law_length","_law_way"]) (caps:=[1,2,4]) rfl (y9 (by kernel_rfl)) (jD rfl B.range (zB zI zD)) (fun cl X s H ex=>z0 (i:=3) ndD rfl (Or.inl rfl))
      (fun cl X s H ex=>uI) (fun cl X s H ex=>zU C.td hr rfl (zB (pv 3) (zB (pv 0) (zB (pv 1) (zB (pv 2) zD))))))
      (vK (zB (yH zAm (by rfl) B.len cu (zB (pv 5) zD)) (zB (pv 6) (zB (pv 7) (zB (pv 5) zD))))) (vD _)) (zO (zZ qP)) vV))))))
   (zJ (zV (i:=8) nd rfl (Or.inr rfl) (zU C.td hr rfl (zB zI (zB (pv 1) (zB (pv 2) (zB zI zD))))))
   (zJ (vX (vJ (zAJ hu) (vE (N := ["_law_length"]) (caps := []) rfl (y9 (by kernel_rfl)) (uX (pv 8)) (fun cl X s H ex=>z0 (i :=0) ndE rfl (Or.inl rfl))
         (fun cl X s H ex=>j8 (vJ zFF (pv 0) zI (vD _))) (fun cl X s H ex=>pv 0))
     (zOw rfl (vE (N:=["_law_name_here"]) (caps:=[]) rfl (y9 (by kernel_rfl)) (uX (pv 3)) (fun cl X s H ex=>z0 (i:=0) ndF rfl (Or.inl rfl))
      (fun cl X s H ex=>uI) (fun cl X s H ex=>yH jZ (by rfl) B.len cu (zB (pv 0) zD))) (by rfl) B.sorted eZ (by rfl) hset rO) (vD _)) (zO (zZ qP)) vV)
   (zJ (vX (vJ (zAJ hu) (vE (N := ["_law_book_here","_law_order","_law_told_here","_law_length"]) (caps := [1,2,8]) rfl (y9 (by kernel_rfl)) (zCR rfl B.range (zB zI (zB zI zD))) (fun cl X s H ex=>z0 (i :=3) ndG rfl (Or.inl rfl))
         (fun cl X s H ex=>j8 (vJ gI (zAD zBO (zU C.hm r5 rfl (zB (pv 0) (zB (pv 1) (zB (pv 3) zD)))) zI (vD _)) (zAD (zHh K rfl) (pv 3) (pv 2) (by with_unfolding_all rfl)) (vD _))) (fun cl X s H ex=>pv 3)) (vK zD) (vD _)) (zO (zZ qP)) vV)
   (zJ (zV (i:=9) nd rfl (Or.inr rfl) (uY zAG (vK (zB zI (zB zI (zB zEr (zB qP (zB vB zD)))))) (zU C.dr r2 rfl (zB (pv 0) (zB zI (zB zI zD)))) (fun _ _=>rfl)))
   (zJ (vX (vJ (zAJ hu) (vE (N := ["_law_book_here","_law_order","_law_odd","_law_way"]) (caps := [1,2,9]) rfl (y9 (by kernel_rfl)) (jD rfl B.range (zB zI zD)) (fun cl X s H ex=>z0 (i :=3) ndH rfl (Or.inl rfl))
         (fun cl X s H ex=>uI) (fun cl X s H ex=>zU C.td hr rfl (zB (pv 3) (zB (pv 0) (zB (pv 1) (zB (pv 2) zD)))))) (zR zAn (vK (zB (uN (zB vB (zB zI zD))) zD)) zI) (vD _)) (zO (zZ qP)) vV)
   (zJ (vX (vJ (zAJ hu) (vE (N := ["_law_script","_law_book_here","_law_odd","_law_way"]) (caps := [0,1,9]) rfl (y9 (by kernel_rfl)) (jD rfl B.range (zB zI zD)) (fun cl X s H ex=>z0 (i :=3) ndI rfl (Or.inl rfl))
         (fun cl X s H ex=>uI) (fun cl X s H ex=>zU C.td hr rfl (zB (pv 3) (zB (pv 1) (zB (uY (zHq K rfl) (vK (zB zI (zB zI (zB zEr zD)))) (zU C.dr r2 rfl (zB (pv 0) (zB zI (zB zI zD)))) (fun _ _=>rfl)) (zB (pv 2) zD)))))) (zR zAn (vK (zB (uN (zB vB (zB zI zD))) zD)) zI) (vD _)) (zO (zZ qP)) vV)
   (zO (zZ (zAD (zFr hu) (vE (N := ["_law_book_here","_law_odd","_law_way"]) (caps := [1,9]) rfl (y9 (by kernel_rfl)) (jD rfl B.range (zB zI zD)) (fun cl X s H ex=>z0 (i :=2) ndJ rfl (Or.inl rfl))
         (fun cl X s H ex=>uI) (fun cl X s H ex=>zU C.td hr rfl (zB (pv 2) (zB (zCX (zML K rfl) (by rfl) hlist rH (zB (pv 0) zD)) (zB zI (zB (pv 1) zD)))))) (zR zAn (vK (zB (uN (zB vB (zB zI zD))) zD)) zI) (vD _))))))))))))),?_⟩
  have sz:∀n,n<=100->n<=sizeLine:=fun n h=>by rw[aR];omega
  refine⟨_,rfl,a,ns,0,3,4,rfl,ha,hl,by decide,by decide,by decide,by decide,fun b bk H1 s1 hb1 bl1 bl2 bn=>?_⟩
  refine⟨_,rfl,a,ns,50,3,rfl,s1.seq ha,hl,by decide,by decide,fun i2 H2 hi2 s2=>?_⟩
  refine⟨_,_,rfl,rfl,?_⟩
  obtain⟨o,eo⟩:∃o:Nat,1+(i2:Int)=(o:Int):=⟨1+i2,by omega⟩
  have ho1:1<=o:=by omega
  have ho3:o<=3:=by omega
  refine zPD (v':=.int (o:Int)) (by show V.int (1+(i2:Int))=_;rw[eo]) ?_
  clear eo hi2
  have isb:isBk bk:=⟨bl1,by omega,fun x hx=>(bn x hx).1⟩
  have bkO:Bk bk o:=⟨isb,ho1,ho3⟩
  have abz:gZ bk:=fun x hx c hc=>(bn x hx).2.2 c hc
  have abz3:zIN bk:=fun x hx c hc=>by
   rcases(bn x hx).2.2 c hc with h|h|h<;>simp[h]
  have p15:(zC o bk).length<=15:=by
   have h2:((zC o bk).length:Int)<=5*(bk.length:Int):=by
    rw[zAp]
    have go:∀l:List S,(∀x∈l,x.length<=4)->(l.map fun x=>(x.length:Int)+1).sum<=5*(l.length:Int):=by
     intro l
     induction l with
     |nil=>intro _;simp
     |cons x r ih=>
      intro hl
      have h1:=hl x (aj ..)
      have h2:=ih fun y hy=>hl y (ar _ hy)
      rw[aF,bb,bg]
      have:((r.length+1:Nat):Int)=(r.length:Int)+1:=rfl
      omega
    exact go bk fun x hx=>(bn x hx).2.1
   omega
  have O1:uB (zC o bk):=kK o bk
  have fit:∀{x:S},Mk (zC o bk) o x->1<=x.length->x.length<=3->Fit bk o x:=fun{x} hx hn1 hn3=>by
   refine⟨bkO,⟨hn1,by omega,fun c hc=>?_⟩,?_⟩
   ·have:=zEU abz3 (n:=x.length) ⟨rfl,hx⟩ c hc
    have h5:∀c∈[97,98,122],97<=c/\c<=122:=by decide
    exact h5 c this
   ·have h5:(zC o bk).length^(x.length+1)<=15^(x.length+1):=Nat.pow_le_pow_left p15 _
    have h6:15^(x.length+1)<=15^4:=dQ (by decide) (by omega)
    have h7:15^4=50625:=by decide
    omega
  have gbook:=zIw isb
  have ibk:yZ (.tuple (uR bk))=true:=zIU isb
  have ido:uE (.int (o:Int))=true:=zEm ho1 ho3
  have tbook:∀Hx,Hx b=some (.tup (zP bk))->yA Hx (.tuple (uR bk)) (.ref b):=fun Hx h=>⟨b,_,rfl,h,Thgs.strs bk⟩
  refine⟨_,rfl,_,rfl,b,bk,o,rfl,s2 _ _ hb1,bkO,abz,by omega,fun L pn H3 hmade hL120 s3 hpn0 hpn=>?_⟩
  have mem:=hmade.mem
  have s03:=(s1.trans s2).trans s3
  have hb3:=(s2.trans s3) _ _ hb1
  clear hb1 s3 s2 s1
  refine⟨sz 3 (by decide),fun tp htp=>?_⟩
  refine⟨tp,rfl,⟨_,.of zF⟩,?_⟩
  have v1:zA H3 (upd H3 tp (.tup [V.int 1,V.int 2,V.int 3])):=zA.upd1 htp
  have htp1:upd H3 tp (.tup [V.int 1,V.int 2,V.int 3]) tp=some (.tup [V.int 1,V.int 2,V.int 3]):=zF
  have hb4:=v1 _ _ hb3
  have hpn4:=v1 _ _ hpn
  have s04:=s03.trans v1
  generalize upd H3 tp (.tup [V.int 1,V.int 2,V.int 3])=H4 at htp1 hb4 hpn4 s04
  clear v1 hb3 htp hpn s03
  refine uU (zBY K tp [V.int 1,V.int 2,V.int 3]) (fun j σ G=>(∃(x4 x5 x6 x7 x8 x9:Option V),σ=[some (.ref a),some (.ref b),some (.int (o:Int)),some (.ref pn),x4,x5,x6,x7,x8,x9])/\zA H4 G)
   ⟨⟨_,_,_,_,_,_,rfl⟩,zA.refl _⟩ (fun j σ G _ h=>.of (h.2 _ _ htp1)) ?_ ?_
  ·rintro j z σ G Nx hN hz ⟨⟨x4,x5,x6,x7,x8,x9,rfl⟩,sG⟩
   have hj4:j<3:=(af.mp hz).1
   have hz2:z=V.int ((1+j:Nat):Int):=by
    rcases(by omega:j=0\/j=1\/j=2)with rfl|rfl|rfl<;>exact(ay hz).symm
   subst hz2
   clear hz
   obtain⟨n,hn⟩:∃n,n=1+j:=⟨_,rfl⟩
   rw[<-hn]
   have hn1:1<=n:=by omega
   have hn3:n<=3:=by omega
   have hn8:n<=8:=by omega
   have hbG:∀{G':Hp},zA G G'->G' b=some (.tup (zP bk)):=fun s'=>s' _ _ (sG _ _ hb4)
   have hpG:∀{G':Hp},zA G G'->G' pn=some (.lst (zP L)):=fun s'=>s' _ _ (sG _ _ hpn4)
   obtain⟨wr,wm⟩:=zQO hmade hn1 hn3
   obtain⟨md,mm⟩:=zQQ hmade hn3
   have wnd:(L.filter fun x=>decide (x.length=n)).Nodup:=wr.imp fun{a b} h z=>by rw[z]at h;exact kJ _ h
   have wl:(L.filter fun x=>decide (x.length=n)).length<=120:=du (bj ..) hL120
   have ml:(L.filter fun x=>decide (x.length<=n)).length<=120:=du (bj ..) hL120
   have w27:(L.filter fun x=>decide (x.length=n)).length<64:=by
    have h1:=zEM _ (kO n) wnd fun x hx=>zIM n x ((wm x).mp hx).1 (zEU abz3 ((wm x).mp hx))
    obtain⟨w1,w2,w3,_⟩:=zOy
    rcases(by omega:n=1\/n=2\/n=3)with rfl|rfl|rfl<;>omega
   refine⟨_,rfl,pn,rfl,⟨_,.of (hpG (zA.refl _))⟩,?_⟩
   refine kG (u5 K pn (zP L)) [some (.int (n:Int))] 1 (by unfold zP;rw[aa];omega) (fun i acc G'=>zA G G'/\acc=zP ((L.take i).filter fun x=>decide (x.length=n)))
    ⟨zA.refl _,rfl⟩ (fun i acc G' _ h=>⟨.of (hpG h.1),by
     rw[h.2];unfold zP;rw[aa]
     have:=bj (fun x:S=>decide (x.length=n)) (L.take i)
     rw[aO]at this;omega⟩) ?_ ?_
   ·rintro i z acc G' ys Nx2 hN2 hz hys ⟨sm,rfl⟩
    obtain⟨y',rfl⟩:=uD hys
    obtain⟨x,ex,rfl⟩:=zCK hz
    have hxl:=((mem x).mp (aT ex)).2.1
    have hi:i<L.length:=(af.mp ex).1
    have etk:L.take (i+1)=L.take i++[x]:=by rw[ak hi,(af.mp ex).2]
    refine⟨_,rfl,tx x,rfl,by rw[yB,aR];omega,_,rfl,rfl,_,rfl,zEV (fun hq=>?_) fun hq=>?_⟩
    ·have hq:((tx x).length:Int)=(n:Int):=V.int.inj hq
     rw[yB]at hq
     refine⟨_,rfl,hN2 _ _ [some (sv x)] rfl ⟨sm,?_⟩⟩
     rw[etk,zAX (fun x:S=>decide (x.length=n)) _ _ (decide_eq_true (by omega))]
     unfold zP;rw[aC];rfl
    ·have hq:¬x.length=n:=fun z=>hq (by rw[yB,z])
     refine hN2 _ _ [some (sv x)] rfl ⟨sm,?_⟩
     rw[etk,gX (fun x:S=>decide (x.length=n)) _ _ (decide_eq_false hq)]
   rintro acc G1 ⟨s1,rfl⟩ D1 hD1
   have eL:L.take (zP L).length=L:=by unfold zP;rw[aa,aU]
   rw[eL]
   generalize eW:(L.filter fun x=>decide (x.length=n))=W at wr wm wnd wl w27
   have v1:zA G1 (upd G1 D1 (.lst (zP W))):=zA.upd1 hD1
   refine⟨D1,W.map tx,rfl,.of (by rw[zF];unfold zP;rw[aP];rfl),dW tx (fun a b hab z=>hab (qK z)) wnd,by rw[aa];exact w27,fun out l hperm hsrt hl'=>?_⟩
   have eS:out.map V.str=zP W:=zQS wr hperm hsrt
   rw[eS]
   have v2:zA (upd G1 D1 (.lst (zP W))) (upd (upd G1 D1 (.lst (zP W))) l (.lst (zP W))):=zA.upd1 hl'
   have s2:=s1.trans (v1.trans v2)
   have hW2:upd (upd G1 D1 (.lst (zP W))) l (.lst (zP W)) l=some (.lst (zP W)):=zF
   generalize upd (upd G1 D1 (.lst (zP W))) l (.lst (zP W))=G2 at s2 hW2
   clear v1 v2 hl' hD1 hperm hsrt eS s1
   have wmk:∀x∈W,Mk (zC o bk) o x/\x.length=n:=fun x hx=>⟨((wm x).mp hx).2,((wm x).mp hx).1⟩
   refine⟨_,rfl,l,rfl,⟨_,.of hW2⟩,?_⟩
   refine uP (u5 K l (zP W)) [some (.ref b),some (.int (o:Int))] 1 (by unfold zP;rw[aa];omega) (fun i acc G'=>zA G2 G'/\FrL K G' (zC o bk) o acc (W.take i))
    ⟨zA.refl _,FrL.nil⟩ (fun i acc G' _ h=>⟨.of (h.1 _ _ hW2),by rw[h.2.len,aO];omega⟩) ?_ ?_
   ·rintro i z acc G' ys Nx2 hN2 hz hys ⟨sm,fl⟩
    obtain⟨y',rfl⟩:=uD hys
    obtain⟨x,ex,rfl⟩:=zCK hz
    obtain⟨hx1,hx2⟩:=wmk x (aT ex)
    have hi:i<W.length:=(af.mp ex).1
    have etk:W.take (i+1)=W.take i++[x]:=by rw[ak hi,(af.mp ex).2]
    refine⟨_,rfl,_,rfl,_,rfl,b,bk,o,x,rfl,hbG (s2.trans sm),fit hx1 (by omega) (by omega),by omega,fun v G3 s3 fr=>hN2 _ _ [some (sv x)] rfl ⟨sm.trans s3,?_⟩⟩
    rw[etk]
    exact(fl.same s3).snoc fr
   rintro acc G3 ⟨s3,fl⟩ D2 hD2
   have eL2:W.take (zP W).length=W:=by unfold zP;rw[aa,aU]
   rw[eL2]at fl
   have v3:zA G3 (upd G3 D2 (.lst acc)):=zA.upd1 hD2
   have h60:(zC o bk).length<=60:=by omega
   have fgx:∀{x:S},Mk (zC o bk) o x->1<=x.length->x.length<=3->FG (yX (zC o bk) o x):=fun h1 h2 h3=>zOO (zDP bkO).1 (fit h1 h2 h3).pw
   refine⟨D2,acc,W.map (yX (zC o bk) o),rfl,zF,by rw[fl.len,aa],by rw[fl.len];omega,(fl.same v3).args h60 (fun x hx=>by rw[(wmk x hx).2];exact hn8) (fun x hx=>fgx (wmk x hx).1 (by rw[(wmk x hx).2];exact hn1) (by rw[(wmk x hx).2];exact hn3)) (by omega),fun ao G4 s4 hao=>?_⟩
   have eo1:(W.map (yX (zC o bk) o)).foldl vI (0,1)=W.foldl (fun w x=>vI w (yX (zC o bk) o x)) (0,1):=mY
   rw[eo1]at hao
   have fo4:yO K G4 (.ref ao) (W.foldl (fun w x=>vI w (yX (zC o bk) o x)) (0,1)):=⟨ao,rfl,.of hao⟩
   have t4:=s3.trans (v3.trans s4)
   have s24:=s2.trans t4
   have hW4:=t4 _ _ hW2
   clear hao v3 s4 s3 hD2 fl t4
   refine⟨_,rfl,pn,rfl,⟨_,.of (hpG s24)⟩,?_⟩
   refine kG (u5 K pn (zP L)) [some (.ref b),some (.int (o:Int)),some (.int (n:Int))] 1 (by unfold zP;rw[aa];omega) (fun i acc G'=>zA G4 G'/\FrL K G' (zC o bk) o acc ((L.take i).filter fun x=>decide (x.length<=n)))
    ⟨zA.refl _,FrL.nil⟩ (fun i acc G' _ h=>⟨.of (hpG (s24.trans h.1)),by
     rw[h.2.len]
     have:=bj (fun x:S=>decide (x.length<=n)) (L.take i)
     rw[aO]at this;omega⟩) ?_ ?_
   ·rintro i z acc G' ys Nx2 hN2 hz hys ⟨sm,fl⟩
    obtain⟨y',rfl⟩:=uD hys
    obtain⟨x,ex,rfl⟩:=zCK hz
    obtain⟨hx1,hx2,hx3⟩:=(mem x).mp (aT ex)
    have hi:i<L.length:=(af.mp ex).1
    have etk:L.take (i+1)=L.take i++[x]:=by rw[ak hi,(af.mp ex).2]
    refine⟨_,rfl,tx x,rfl,by rw[yB,aR];omega,_,rfl,_,_,rfl,rfl,_,rfl,zEV (fun hq=>?_) fun hq=>?_⟩
    ·rw[yB]at hq
     refine⟨_,rfl,_,rfl,_,rfl,b,bk,o,x,rfl,hbG (s24.trans sm),fit hx3 hx1 (by omega),by omega,fun v G5 s5 fr=>hN2 _ _ [some (sv x)] rfl ⟨sm.trans s5,?_⟩⟩
     rw[etk,zAX (fun x:S=>decide (x.length<=n)) _ _ (decide_eq_true (by omega))]
     exact(fl.same s5).snoc fr
    ·rw[yB]at hq
     refine hN2 _ _ [some (sv x)] rfl ⟨sm,?_⟩
     rw[etk,gX (fun x:S=>decide (x.length<=n)) _ _ (decide_eq_false (by omega))]
     exact fl
   rintro acc G5 ⟨s5,fl⟩ D3 hD3
   rw[eL]at fl
   generalize eM:(L.filter fun x=>decide (x.length<=n))=M at md mm ml fl
   have v3:zA G5 (upd G5 D3 (.lst acc)):=zA.upd1 hD3
   refine⟨D3,acc,M.map (yX (zC o bk) o),rfl,zF,by rw[fl.len,aa],by rw[fl.len];omega,(fl.same v3).args h60 (fun x hx=>by have:=((mm x).mp hx).2.1;omega) (fun x hx=>by
    obtain⟨h1,h2,h3⟩:=(mm x).mp hx
    exact fgx h3 h1 (by omega)) (by omega),fun au G6 s6 hau=>?_⟩
   have eo2:(M.map (yX (zC o bk) o)).foldl vI (0,1)=M.foldl (fun w x=>vI w (yX (zC o bk) o x)) (0,1):=mY
   rw[eo2]at hau
   have fu6:yO K G6 (.ref au) (M.foldl (fun w x=>vI w (yX (zC o bk) o x)) (0,1)):=⟨au,rfl,.of hau⟩
   have t6:=s5.trans (v3.trans s6)
   have s26:=s24.trans t6
   have hW6:=t6 _ _ hW4
   have fo6:=fo4.same t6
   clear hau v3 s6 s5 hD3 fl t6 fo4 hW4 s24
   generalize eO:W.foldl (fun w x=>vI w (yX (zC o bk) o x)) (0,1)=qo at fo6
   generalize eU:M.foldl (fun w x=>vI w (yX (zC o bk) o x)) (0,1)=qu at fu6
   obtain⟨due,edue⟩:∃due:List bW,due=[.int (W.length:Int),.tuple [.int qo.1,.int qo.2],.tuple [.int qu.1,.int qu.2],.list (W.map fun x=>PyData.str (tx x))]:=⟨_,rfl⟩
   have lets122:∀x∈W,∀c∈x,c<=122:=fun x hx c hc=>by
    have h5:∀c∈[97,98,122],c<=122:=by decide
    exact h5 c (zEU abz3 ((wm x).mp hx) c hc)
   refine⟨4,rfl,by decide,by decide,?_⟩
   refine uP (uZ 0 _) [some (.ref b),some (.int (o:Int)),some (.int (n:Int))] 1 (by decide) (fun i acc G'=>zA G6 G'/\acc.length=i/\Reps K G' (due.take i) acc) ⟨zA.refl _,rfl,rfl⟩ (fun i acc G' _ h=>⟨trivial,d4 h.2.1⟩) ?_ ?_
   ·rintro i z acc G' ys Nx' hN' hz hys ⟨smc,hal,rp⟩
    obtain⟨y1,rfl⟩:=uD hys
    obtain⟨hi,rfl⟩:=jK (n:=4) hz
    have hbc:=hbG (s26.trans smc)
    have step:∀d v H3,due[i]?=some d->zA G' H3->yQ K H3 d v->Nx' (acc++[v]) [some (.ref b),some (.int (o:Int)),some (.int (n:Int)),some (.int (i:Int))] H3:=fun d v H3 hd s3 hr3=>by
     refine hN' _ _ [some (.int (i:Int))] rfl ⟨smc.trans s3,by rw[aE,hal];rfl,?_⟩
     obtain⟨hlt,hge⟩:=af.mp hd
     rw[ak hlt,hge]
     exact Reps.append (Reps.same s3 _ _ rp) (Reps.one hr3)
    refine⟨_,rfl,_,rfl,_,rfl,_,rfl,i,.ref b,.int o,.int n,.tuple (uR bk),.int o,.int n,rfl,by omega,tbook _ hbc,rfl,rfl,gbook.1,rfl,rfl,(fun z=>by rw[ibk]at z;cases z),(fun _ z=>by rw[ido]at z;cases z),(fun _ _ z=>by rw[zEn hn1 hn8]at z;cases z),fun a' bk' o' e1 e2 h3 h4=>?_⟩
    obtain⟨rfl,rfl,rfl⟩:=told_invX hbc e1 e2 h3
    refine⟨abz,h60,fun z=>by omega,fun n' e3 _ _=>?_⟩
    have en:n=n':=by have:=V.int.inj e3;omega
    subst en
    refine⟨fun w0 N H3 s3 hN3=>step (.int (W.length:Int)) (.int (N:Int)) H3 (by rw[w0,edue];rfl) s3 (by rw[hN3 W wnd wm];rfl),fun w1 v q H3 s3 fr hq=>step (.tuple [.int qo.1,.int qo.2]) v H3 (by rw[w1,edue];rfl) s3 ?_,fun w2 v q H3 s3 fr hq=>step (.tuple [.int qu.1,.int qu.2]) v H3 (by rw[w2,edue];rfl) s3 ?_,fun w3 l' A' H3 s3 _ hA' aA _=>step (.list (W.map fun x=>PyData.str (tx x))) (.ref l') H3 (by rw[w3,edue];rfl) s3 ?_⟩
    ·rw[zOQ O1 hn8 hq wnd wm,eO]at fr
     exact zCH fr
    ·rw[zQN O1 hn8 hq md mm,eU]at fr
     exact zCH fr
    ·have:A'=W:=zCI aA.ris wr fun x=>by rw[(aA.made hn1).2,wm]
     rw[this]at hA'
     exact zDv hA'
   rintro acc G7 ⟨s7,hal,rp⟩ D4 hD4
   have v4:zA G7 (upd G7 D4 (.lst acc)):=zA.upd1 hD4
   have hW7:=(s7.trans v4) _ _ hW6
   refine⟨_,rfl,l,_,rfl,.inl (.of hW7),_,rfl,_,rfl,_,rfl,sz 4 (by decide),fun e4 he4=>?_⟩
   have elW:(zP W).length=W.length:=by unfold zP;rw[aa]
   rw[elW]
   have v5:zA (upd G7 D4 (.lst acc)) (upd (upd G7 D4 (.lst acc)) e4 (.lst [.int (W.length:Int),.ref ao,.ref au,.ref l])):=zA.upd1 he4
   have t45:=s7.trans (v4.trans v5)
   have rp1:yQ K (upd (upd G7 D4 (.lst acc)) e4 (.lst [.int (W.length:Int),.ref ao,.ref au,.ref l])) (.list due) (.ref D4):=by
    have h1:due.take ((ba 4).map fun(i:Nat)=>V.int (0+(i:Int))).length=due:=by rw[edue];rfl
    have rp':Reps K G7 due acc:=by rw[<-h1];exact rp
    exact zAQ (v5 _ _ zF) (Reps.same (v4.trans v5) _ _ rp')
   have rp2:yQ K (upd (upd G7 D4 (.lst acc)) e4 (.lst [.int (W.length:Int),.ref ao,.ref au,.ref l])) (.list due) (.ref e4):=by
    rw[edue]
    exact zAQ zF ⟨_,_,rfl,rfl,_,_,rfl,zCH (fo6.same t45),_,_,rfl,zCH (fu6.same t45),_,_,rfl,zDv (t45 _ _ hW6),rfl⟩
   have lay:=zBn (ds:=due) fun d hd=>by
    rw[edue]at hd
    rcases aL.mp hd with rfl|hd
    ·exact⟨rfl,by show 0<=10;decide⟩
    rcases aL.mp hd with rfl|hd
    ·exact⟨rfl,by show 1<=10;decide⟩
    rcases aL.mp hd with rfl|hd
    ·exact⟨rfl,by show 1<=10;decide⟩
    rw[b8.mp hd]
    exact⟨zPE lets122,zQR W⟩
   exact⟨.list due,.list due,rp1,rp2,lay.1,lay.1,_,rfl,zAt lay.2 (hN _ _ ⟨⟨_,_,_,_,_,_,rfl⟩,sG.trans (s26.trans t45)⟩)⟩
  ·rintro σ G ⟨⟨x4,x5,x6,x7,x8,x9,rfl⟩,sG⟩
   have hbG:=sG _ _ hb4
   have hpG:=sG _ _ hpn4
   have s0G:=s04.trans sG
   clear hb4 hpn4 sG htp1 s04
   refine⟨_,rfl,_,rfl,4,.ref b,.int o,.int 1,.tuple (uR bk),.int o,.int 1,rfl,by decide,tbook _ hbG,rfl,rfl,gbook.1,rfl,rfl,(fun z=>by rw[ibk]at z;cases z),(fun _ z=>by rw[ido]at z;cases z),(fun _ _ _ z=>by omega),fun a' bk' o' e1 e2 h3 h4=>?_⟩
   obtain⟨rfl,rfl,rfl⟩:=told_invX hbG e1 e2 h3
   refine⟨abz,by omega,fun _ lT L8 G1 s1 _ hL8 hr8 hm8=>?_,fun n _ _ _=>⟨fun z=>by omega,fun z=>by omega,fun z=>by omega,fun z=>by omega⟩⟩
   have l8:L8.length<=9:=by
    have:=zEM L8 (ba 9) (hr8.imp fun{a b} h z=>by omega) fun x hx=>bX.mpr (by have:=(hm8 x).mp hx;omega)
    simpa using this
   have hb1:=s1 _ _ hbG
   have hp1:=s1 _ _ hpG
   have s01:=s0G.trans s1
   clear hbG hpG s0G s1 h3 h4 e1 e2
   refine⟨_,rfl,lT,rfl,⟨_,.of hL8⟩,?_⟩
   refine kG (u5 K lT (L8.map fun(n:Nat)=>V.int (n:Int))) [] 1 (by rw[aa];omega) (fun i acc G'=>zA G1 G'/\acc=((L8.take i).filter fun x=>decide (x<4)).map fun(n:Nat)=>V.int (n:Int))
    ⟨zA.refl _,rfl⟩ (fun i acc G' _ h=>⟨.of (h.1 _ _ hL8),by
     rw[h.2,aa]
     have:=bj (fun x:Nat=>decide (x<4)) (L8.take i)
     rw[aO]at this;omega⟩) ?_ ?_
   ·rintro i z acc G' ys Nx2 hN2 hz hys ⟨sm,rfl⟩
    obtain⟨y',rfl⟩:=uD hys
    rw[aq]at hz
    cases ex:L8[i]? with
    |none=>rw[ex]at hz;cases hz
    |some x=>
    rw[ex]at hz
    have hz2:z=V.int (x:Int):=(ay hz).symm
    subst hz2
    have hi:i<L8.length:=(af.mp ex).1
    have etk:L8.take (i+1)=L8.take i++[x]:=by rw[ak hi,(af.mp ex).2]
    refine⟨_,rfl,_,_,rfl,rfl,_,rfl,zEV (fun hq=>?_) fun hq=>?_⟩
    ·refine⟨_,rfl,hN2 _ _ [some (.int (x:Int))] rfl ⟨sm,?_⟩⟩
     rw[etk,zAX (fun x:Nat=>decide (x<4)) _ _ (decide_eq_true (by omega)),aC];rfl
    ·refine hN2 _ _ [some (.int (x:Int))] rfl ⟨sm,?_⟩
     rw[etk,gX (fun x:Nat=>decide (x<4)) _ _ (decide_eq_false (by omega))]
   rintro acc G2 ⟨s2,rfl⟩ D1 hD1
   have eT:L8.take (L8.map fun(n:Nat)=>V.int (n:Int)).length=L8:=by rw[aa,aU]
   rw[eT]
   have v1:zA G2 (upd G2 D1 (.lst ((L8.filter fun x=>decide (x<4)).map fun(n:Nat)=>V.int (n:Int)))):=zA.upd1 hD1
   have hD11:upd G2 D1 (.lst ((L8.filter fun x=>decide (x<4)).map fun(n:Nat)=>V.int (n:Int))) D1=some (.lst ((L8.filter fun x=>decide (x<4)).map fun(n:Nat)=>V.int (n:Int))):=zF
   have t3:=s2.trans v1
   generalize upd G2 D1 (.lst ((L8.filter fun x=>decide (x<4)).map fun(n:Nat)=>V.int (n:Int)))=G3 at hD11 t3
   have hb3:=t3 _ _ hb1
   have hp3:=t3 _ _ hp1
   have hL83:=t3 _ _ hL8
   have s03:=s01.trans t3
   clear v1 hD1 s2 t3 hb1 hp1 hL8 s01
   refine⟨_,rfl,pn,rfl,⟨_,.of hp3⟩,?_⟩
   refine uP (u5 K pn (zP L)) [] 1 (by unfold zP;rw[aa];omega) (fun i acc G'=>zA G3 G'/\acc=((L.take i).map fun x=>x.length).map fun(n:Nat)=>V.int (n:Int))
    ⟨zA.refl _,rfl⟩ (fun i acc G' _ h=>⟨.of (h.1 _ _ hp3),by rw[h.2,aa,aa,aO];omega⟩) ?_ ?_
   ·rintro i z acc G' ys Nx2 hN2 hz hys ⟨sm,rfl⟩
    obtain⟨y',rfl⟩:=uD hys
    obtain⟨x,ex,rfl⟩:=zCK hz
    have hxl:=((mem x).mp (aT ex)).2.1
    have hib:i<L.length:=(af.mp ex).1
    have etk:L.take (i+1)=L.take i++[x]:=by rw[ak hib,(af.mp ex).2]
    refine⟨_,rfl,tx x,rfl,by rw[yB,aR];omega,hN2 _ _ [some (sv x)] rfl ⟨sm,?_⟩⟩
    rw[etk,aC,aC,yB];rfl
   rintro acc G4 ⟨s4,rfl⟩ D3 hD3
   have w3:zA G4 (upd G4 D3 (.lst (((L.take (zP L).length).map fun x=>x.length).map fun(n:Nat)=>V.int (n:Int)))):=zA.upd1 hD3
   have eb:L.take (zP L).length=L:=by unfold zP;rw[aa,aU]
   rw[eb]at w3⊢
   have mem3:∀m∈L.map (fun x=>x.length),m∈[1,2,3]:=fun m hm=>by
    obtain⟨x,hx,rfl⟩:=az.mp hm
    obtain⟨h1,h2,_⟩:=(mem x).mp hx
    have h3:x.length=1\/x.length=2\/x.length=3:=by omega
    rcases h3 with h|h|h<;>simp[h]
   refine⟨D3,L.map fun x=>x.length,rfl,.of zF,⟨[1,2,3],by decide,mem3⟩,fun m hm=>?_,fun out lo hmem hris hlo=>?_⟩
   ·have h5:∀m∈[1,2,3],m∈[1,2,3,4]:=by decide
    exact h5 m (mem3 m hm)
   have t5:=s4.trans w3
   generalize upd G4 D3 (.lst ((L.map fun x=>x.length).map fun(n:Nat)=>V.int (n:Int)))=G5 at t5 hlo
   have w4:zA G5 (upd G5 lo (.lst (out.map fun(i:Nat)=>V.int (i:Int)))):=zA.upd1 hlo
   have t6:=t5.trans w4
   have eF:(L8.filter fun x=>decide (x<4))=out:=zIO (cM _ hr8) hris fun x=>by
    rw[aQ,hm8,hmem,decide_eq_true_eq]
    constructor
    ·rintro⟨⟨h1,_,y,hy⟩,h4⟩
     exact az.mpr ⟨y,(mem y).mpr ⟨by rw[hy.1];exact h1,by rw[hy.1];exact h4,hy.2⟩,hy.1⟩
    ·intro h
     obtain⟨y,hy,rfl⟩:=az.mp h
     obtain⟨h1,h2,h3⟩:=(mem y).mp hy
     exact⟨⟨h1,by omega,y,rfl,h3⟩,h2⟩
   rw[eF]at hD11
   refine⟨_,_,zIP (t6 _ _ hD11),zIP zF,zDS _,zDS _,_,rfl,zAt (zPF _) ?_⟩
   have hb6:=t6 _ _ hb3
   have hL86:=t6 _ _ hL83
   have s06:=s03.trans t6
   generalize upd G5 lo (.lst (out.map fun(i:Nat)=>V.int (i:Int)))=G6 at hb6 hL86 s06
   clear w4 t6 t5 hlo w3 hD3 s4 hb3 hL83 s03 hp3 hD11 hmem hris eF G5 G4 G3
   refine zCJ ?_
   refine⟨1,9,rfl,⟨by decide,by decide,by decide,by decide⟩,?_⟩
   refine zOK (uZ 1 _) [some (.ref b),some (.int (o:Int)),some (.ref lT)] (by decide) (fun G' _=>trivial) (fun k0 z G' Z hz s' hZ=>?_) (fun G7 s7 D2 hD2=>?_)
   ·have hk8:k0<8:=by
     have:=(af.mp hz).1
     simpa using this
    have hz2:z=V.int ((1+k0:Nat):Int):=by
     have h1:((ba 8).map fun(i:Nat)=>V.int (1+(i:Int)))[k0]?=some z:=hz
     rw[aq,cV hk8]at h1
     exact(ay h1).symm
    subst hz2
    refine⟨_,rfl,_,rfl,_,rfl,b,bk,o,1+k0,rfl,s' _ _ hb6,bkO,by omega,by omega,fun N G8 s8 hNm=>?_⟩
    refine⟨_,_,rfl,rfl,_,rfl,_,rfl,lT,_,rfl,.inl (.of (s8 _ _ (s' _ _ hL86))),rfl,zPA _,rfl,_,rfl,?_⟩
    obtain⟨M,m1,m2⟩:=zCC (zC o bk) O1 o (1+k0)
    have eN:=hNm M m1 m2
    have eb2:(decide ((0:Int)<(N:Int)))=decide ((1+k0)∈L8):=by
     rw[eD,decide_eq_true_eq,decide_eq_true_eq,hm8]
     constructor
     ·intro h
      obtain⟨x,hx⟩:=List.exists_mem_of_length_pos (l:=M) (by omega)
      exact⟨by omega,by omega,x,(m2 x).mp hx⟩
     ·rintro⟨_,_,x,hx⟩
      have:=fB ((m2 x).mpr hx)
      omega
    rw[if_neg (by simp),zOz]
    have e3:(V.bl (decide ((0:Int)<(N:Int))))=V.bl (decide ((1+k0)∈L8)):=by rw[eb2]
    show Z (!decide (V.bl (decide ((0:Int)<(N:Int)))=V.bl (decide ((1+k0)∈L8)))) G8
    rw[decide_eq_true e3]
    exact hZ _ s8
   have w1:zA G7 (upd G7 D2 (.lst [])):=zA.upd1 hD2
   refine⟨sz 0 (by decide),fun e1' he1'=>?_⟩
   have w2:zA (upd G7 D2 (.lst [])) (upd (upd G7 D2 (.lst [])) e1' (.lst [])):=zA.upd1 he1'
   refine⟨.list [],.list [],⟨D2,[],rfl,.of (w2 _ _ zF),rfl⟩,⟨e1',[],rfl,.of zF,rfl⟩,rfl,rfl,_,rfl,zAt rfl ?_⟩
   have t8:=s7.trans (w1.trans w2)
   generalize upd (upd G7 D2 (.lst [])) e1' (.lst [])=J3 at t8
   have hbk3:=t8 _ _ hb6
   have s0J:=s06.trans t8
   clear w1 w2 he1' hD2 s7 t8 hb6 s06 hL86 G7 G6
   refine zCJ ?_
   refine⟨sz 5 (by decide),fun lo hlo=>⟨_,rfl,a,ns,51,5,rfl,(s0J.trans (zA.upd1 hlo)).seq ha,hl,by decide,by decide,fun oi J4 hoi y4=>?_⟩⟩
   have w4:zA J3 (upd J3 lo (.lst [V.int 0,V.int 9,V.non,V.bl true,V.str "1"])):=zA.upd1 hlo
   have oT:∀Hx,Thgs Hx zEk [V.int 0,V.int 9,V.non,V.bl true,V.str "1"]:=fun Hx=>⟨_,_,rfl,rfl,_,_,rfl,rfl,_,_,rfl,rfl,_,_,rfl,rfl,_,_,rfl,rfl,rfl⟩
   obtain⟨ov,hov⟩:∃v,([V.int 0,V.int 9,V.non,V.bl true,V.str "1"]:List V)[oi]?=some v:=⟨_,aG hoi⟩
   obtain⟨od',hod',_⟩:=(oT J4).get hov
   have odT:∀Hx,yA Hx od' ov:=fun Hx=>by
    obtain⟨e,he,ht⟩:=(oT Hx).get hov
    rw[hod']at he
    cases he
    exact ht
   obtain⟨osm,onm⟩:=zQI od' (aT hod')
   refine⟨lo,[V.int 0,V.int 9,V.non,V.bl true,V.str "1"],_,ov,rfl,rfl,.of (y4 _ _ zF),jF hov,?_⟩
   have y34:zA J3 J4:=w4.trans y4
   have s04:=s0J.trans y34
   have hbk4:=y34 _ _ hbk3
   have nolen:∀n:Nat,1<=n->n<=8->ov=.int (n:Int)->False:=fun n h1 h8 e=>by
    have h:=odT J4
    rw[e]at h
    have e2:od'=.int (n:Int):=by
     cases od' with
     |int i=>exact congrArg PyData.int (V.int.inj h).symm
     |none=>cases h
     |bool b=>cases h
     |str x=>cases h
     |list ds=>obtain⟨_,_,z,_⟩:=h;cases z
     |tuple ds=>obtain⟨_,_,z,_⟩:=h;cases z
     |dict _=>cases h
    rw[e2,zEn h1 h8]at onm
    cases onm
   refine⟨4,rfl,by decide,by decide,?_⟩
   refine uP (uZ 0 _) [some (.ref b),some (.int (o:Int)),some ov] 1 (by decide) (fun i acc H''=>zA J4 H''/\acc.length=i/\Reps K H'' (aB i (uS 4)) acc) ⟨zA.refl _,rfl,rfl⟩ (fun i acc H'' _ h=>⟨trivial,d4 h.2.1⟩) ?_ ?_
   ·rintro i z acc H'' ys Nx' hN' hz hys ⟨smc,hal,rp⟩
    obtain⟨y1,rfl⟩:=uD hys
    obtain⟨hi,rfl⟩:=jK (n:=4) hz
    refine⟨_,rfl,_,rfl,_,rfl,_,rfl,i,.ref b,.int o,ov,.tuple (uR bk),.int o,od',rfl,by omega,tbook _ (smc _ _ hbk4),rfl,odT _,gbook.1,rfl,osm,(fun z=>by rw[ibk]at z;cases z),(fun _ z=>by rw[ido]at z;cases z),(fun _ _ _ _ pr H3 s3 rt=>hN' _ _ [some (.int (i:Int))] rfl ⟨smc.trans s3,by rw[aE,hal];rfl,?_⟩),fun a' bk' o' e1 e2 h3 h4=>?_⟩
    ·rw[dP]
     exact Reps.append (Reps.same s3 _ _ rp) (Reps.one ⟨pr,_,rfl,.of rt,_,_,rfl,rfl,_,_,rfl,rfl,rfl⟩)
    ·obtain⟨rfl,rfl,rfl⟩:=told_invX (smc _ _ hbk4) e1 e2 h3
     exact⟨abz,by omega,fun z=>by omega,fun n e3 h1 h8=>(nolen n h1 h8 e3).elim⟩
   rintro acc H'' ⟨smc,hal,rp⟩ D hD
   refine⟨sz 2 (by decide),fun pt hpt=>⟨sz 1 (by decide),fun pl hpl=>⟨pl,4,[.ref pt],rfl,rfl,zF,by decide,by decide,sz 4 (by decide),fun pr hpr=>?_⟩⟩⟩
   obtain⟨J5,eJ5,y5,q1,q2⟩:=zQM hD rp hpt hpl hpr
   rw[eJ5]
   refine⟨_,_,q1,q2,by decide+kernel,by decide+kernel,_,rfl,zAt (by decide+kernel) ?_⟩
   refine zCJ ?_
   have y45:=smc.trans y5
   have s05:=s04.trans y45
   have hbk5:=y45 _ _ hbk4
   refine⟨5,rfl,by decide,by decide,?_⟩
   refine uP (uZ 0 _) [some (.ref a),some (.ref b),some ov] 1 (by decide) (fun i acc H''=>zA J5 H''/\acc.length=i/\Reps K H'' (aB i (uS 1)) acc) ⟨zA.refl _,rfl,rfl⟩ (fun i acc H'' _ h=>⟨trivial,d4 h.2.1⟩) ?_ ?_
   ·rintro i z acc H'' ys Nx' hN' hz hys ⟨smc,hal,rp⟩
    obtain⟨y1,rfl⟩:=uD hys
    obtain⟨hi,rfl⟩:=jK (n:=5) hz
    refine⟨_,rfl,_,rfl,sz 3 (by decide),fun lb hlb=>⟨_,rfl,a,ns,52,3,rfl,((s05.trans smc).trans (zA.upd1 hlb)).seq ha,hl,by decide,by decide,fun bi J6 hbi y6=>?_⟩⟩
    have w6:zA H'' (upd H'' lb (.lst [V.int 0,V.int 4,V.non])):=zA.upd1 hlb
    have bT:∀Hx,Thgs Hx zEl [V.int 0,V.int 4,V.non]:=fun Hx=>⟨_,_,rfl,rfl,_,_,rfl,rfl,_,_,rfl,rfl,rfl⟩
    obtain⟨bv,hbv⟩:∃v,([V.int 0,V.int 4,V.non]:List V)[bi]?=some v:=⟨_,aG hbi⟩
    obtain⟨bd,hbd,_⟩:=(bT J6).get hbv
    have bdT:∀Hx,yA Hx bd bv:=fun Hx=>by
     obtain⟨e,he,ht⟩:=(bT Hx).get hbv
     rw[hbd]at he
     cases he
     exact ht
    obtain⟨bsm,bno⟩:=zQJ bd (aT hbd)
    refine⟨lb,[V.int 0,V.int 4,V.non],_,bv,rfl,rfl,.of (y6 _ _ zF),jF hbv,?_⟩
    have y66:=w6.trans y6
    have hb66:=y66 _ _ (smc _ _ hbk5)
    have noord:∀o':Nat,1<=o'->o'<=3->bv=.int (o':Int)->False:=fun o' h1 h3 e=>by
     have h:=bdT J6
     rw[e]at h
     have e2:bd=.int (o':Int):=by
      cases bd with
      |int i=>exact congrArg PyData.int (V.int.inj h).symm
      |none=>cases h
      |bool b=>cases h
      |str x=>cases h
      |list ds=>obtain⟨_,_,z,_⟩:=h;cases z
      |tuple ds=>obtain⟨_,_,z,_⟩:=h;cases z
      |dict _=>cases h
     rw[e2,zEm h1 h3]at bno
     cases bno
    refine⟨_,rfl,i,.ref b,bv,ov,.tuple (uR bk),bd,od',rfl,by omega,tbook _ hb66,bdT _,odT _,gbook.1,bsm,osm,(fun z=>by rw[ibk]at z;cases z),(fun _ _ pr H3 s3 rt=>hN' _ _ [some (.int (i:Int))] rfl ⟨(smc.trans y66).trans s3,by rw[aE,hal];rfl,?_⟩),(fun _ z=>by rw[bno]at z;cases z),fun a' bk' o' e1 e2 h3 h4=>(noord o' h4.o1 h4.o3 e2).elim⟩
    rw[dP]
    exact Reps.append (Reps.same (y66.trans s3) _ _ rp) (Reps.one ⟨pr,_,rfl,.of rt,_,_,rfl,rfl,_,_,rfl,rfl,rfl⟩)
   rintro acc2 H2' ⟨smc2,hal2,rp2⟩ D2 hD2
   refine⟨sz 2 (by decide),fun pt2 hpt2=>⟨sz 1 (by decide),fun pl2 hpl2=>⟨pl2,5,[.ref pt2],rfl,rfl,zF,by decide,by decide,sz 5 (by decide),fun pr2 hpr2=>?_⟩⟩⟩
   obtain⟨J7,eJ7,y7,q3,q4⟩:=zIx hD2 rp2 hpt2 hpl2 hpr2
   rw[eJ7]
   refine⟨_,_,q3,q4,by decide+kernel,by decide+kernel,_,rfl,zAt (by decide+kernel) ?_⟩
   refine zCJ ?_
   have hbk7:=(smc2.trans y7) _ _ hbk5
   refine⟨5,rfl,by decide,by decide,?_⟩
   refine uP (uZ 0 _) [some (.ref b),some ov] 1 (by decide) (fun i acc H''=>zA J7 H''/\acc.length=i/\Reps K H'' (aB i (uS 0)) acc) ⟨zA.refl _,rfl,rfl⟩ (fun i acc H'' _ h=>⟨trivial,d4 h.2.1⟩) ?_ ?_
   ·rintro i z acc H'' ys Nx' hN' hz hys ⟨smc,hal,rp⟩
    obtain⟨y1,rfl⟩:=uD hys
    obtain⟨hi,rfl⟩:=jK (n:=5) hz
    refine⟨_,rfl,_,rfl,b,zP bk,rfl,.inr (.of (smc _ _ hbk7)),fun ll hll=>?_⟩
    have yl:=zA.upd1 (o:=.lst (zP bk)) hll
    have nob:yZ (.list (uR bk))=false:=rfl
    refine⟨_,rfl,i,.ref ll,.int 0,ov,.list (uR bk),.int 0,od',rfl,by omega,⟨ll,_,rfl,zF,Thgs.strs bk⟩,rfl,odT _,gbook.2,rfl,osm,(fun _ pr H3 s3 rt=>hN' _ _ [some (.int (i:Int))] rfl ⟨(smc.trans yl).trans s3,by rw[aE,hal];rfl,?_⟩),(fun z=>by rw[nob]at z;cases z),(fun z=>by rw[nob]at z;cases z),fun a' bk' o' e1 e2 h3 h4=>?_⟩
    ·rw[dP]
     exact Reps.append (Reps.same (yl.trans s3) _ _ rp) (Reps.one ⟨pr,_,rfl,.of rt,_,_,rfl,rfl,_,_,rfl,rfl,rfl⟩)
    ·cases e1
     rw[zF]at h3;cases h3
   rintro acc3 H3' ⟨smc3,hal3,rp3⟩ D3 hD3
   refine⟨sz 2 (by decide),fun pt3 hpt3=>⟨sz 1 (by decide),fun pl3 hpl3=>⟨pl3,5,[.ref pt3],rfl,rfl,zF,by decide,by decide,sz 5 (by decide),fun pr3 hpr3=>?_⟩⟩⟩
   obtain⟨J8,eJ8,y8,q5,q6⟩:=zIx hD3 rp3 hpt3 hpl3 hpr3
   rw[eJ8]
   refine⟨_,_,q5,q6,by decide+kernel,by decide+kernel,?_⟩
   have e:(if false=true then !PyData.eqv (.list (aB 5 (uS 0))) (.list (aB 5 (uS 0)))else eY (.list (aB 5 (uS 0))) (.list (aB 5 (uS 0))))=true:=by
    rw[if_neg aY];exact zCj _ (by decide+kernel)
   rw[e]
   exact k _
end
end Kn.Ln
end
section
namespace Kn
open PySem L2 Ln
def z8 (K:ae)(x:Str)(st:cp)(ps:List Str):Prop :=
 ∃(f:ah) (fd:aX),aZ K mainGlobals x=some (some (.ref f))/\Fun K x x st f fd/\dy K (.ref f)=true/\qD K fd ps []
theorem zCO {K:ae}{x:Str}{st:cp}{f:ah}{d kV e pm b ct:ag}{od g:Option ah}{h:Array (Option ag)}(ps:List Str)
  (i:∀(fd:aX),Fun K x x st f fd->qD K fd ps [])
  (a:aZ K mainGlobals x=some (some (.ref f))) (l:K.lookup f=some ⟨d,od,.func (dt x x (defArgs st) (defBody st) (defScope st) .none kV e pm g b ct),h⟩) (c:fO K b x=true) (k:dy K (.ref f)=true):z8 K x st ps :=
 ⟨f,_,a,zCg (st:=st) l c k,k,i _ (zCg (st:=st) l c k)⟩
structure Top (K:ae):Prop where
 is_name:z8 K "is_name" zDC ["thing"]
 is_book:z8 K "is_book" zDD ["thing"]
 is_whole:z8 K "is_whole" zDE ["thing","least","most"]
 is_order:z8 K "is_order" zDF ["thing"]
 need_book:z8 K "need_book" zDG ["thing"]
 need_order:z8 K "need_order" zDH ["thing"]
 need_whole:z8 K "need_whole" zED ["thing","least","most"]
 end_of:z8 K "end_of" zDA ["text","order"]
 ends:z8 K "ends_and_letters" zDB ["name","order"]
 rows:z8 K "counted_rows" zDJ ["book","order"]
 gcd:z8 K "greatest_divisor" zDL ["one","other"]
 low:z8 K "lowest" zDN ["up","down"]
 part_in:z8 K "part_in" zDO ["row","letter"]
 cm:z8 K "common_multiple" sCM ["one","other"]
 ww:z8 K "whole_weight" sWW ["rows"]
 partsR:z8 K "parts_by_rows" zDm ["rows"]
 even:z8 K "even_parts" zDl ["rows"]
 left:z8 K "left_of" zDi ["weight","part"]
 follow:z8 K "may_follow" zDk ["letter","wanted"]
 nexts:z8 K "next_sums" zDq ["parts","order","sums","wanted"]
 suma:z8 K "sum_along" zDr ["parts","order","weight","pattern"]
 needlen:z8 K "need_length" zEE ["thing"]
 hmr:z8 K "how_many_by_rows" zEF ["rows","order","length"]
 hm:z8 K "how_many" sHM ["book","order","length"]
 sft:z8 K "share_from_to" zEI ["book","order","least","most"]
 sol:z8 K "share_of_length" zEK ["book","order","length"]
 sut:z8 K "share_up_to" zET ["book","order","length"]
 lt:z8 K "letters_towards" sLT ["row","end","order","targets"]
 ce:z8 K "closing_ends" sCE ["rows","order","length"]
 lng:z8 K "lengthened" zDx ["rows","order","texts","targets"]
 am:z8 K "all_made" sAM ["book","order","length"]
 lens:z8 K "lengths" zEL ["book","order"]
 cell:z8 K "_law_cell" zDR ["_law_script","_law_k"]
 drawn:z8 K "_law_drawn" zDU ["_law_script","_law_k","_law_many"]
 lname:z8 K "_law_name" zDV ["_law_script","_law_at","_law_most"]
 lbook:z8 K "_law_book" zDW ["_law_script","_law_at","_law_many","_law_most"]
 lcounts:z8 K "_law_counts" zEc ["_law_book_here","_law_order"]
 lrow:z8 K "_law_row" zEd ["_law_book_here","_law_order","_law_text"]
 llow:z8 K "_law_lowest" zEf ["_law_up","_law_down"]
 lshare:z8 K "_law_share" zEh ["_law_book_here","_law_order","_law_name_here"]
 lsum:z8 K "_law_sum" zEg ["_law_rows"]
 lmade:z8 K "_law_made" zEj ["_law_book_here","_law_order","_law_most"]
 lrefused:z8 K "_law_refused" zEa ["_law_e"]
 ltold:z8 K "_law_told" zCN ["_law_way","_law_book_here","_law_order","_law_length"]
 letters:∃t,aZ K mainGlobals "LETTERS"=some (some (.str letters t))
 ml:∃t,aZ K mainGlobals "MOST_LETTERS"=some (some (.int 8 t))
 mn:∃t,aZ K mainGlobals "MOST_NAMES"=some (some (.int 8 t))
 mo:∃t,aZ K mainGlobals "MOST_ORDER"=some (some (.int 3 t))
 ib:bp K (.type "int") (.type "bool")=some false
 nought:∃a,aZ K mainGlobals "NOUGHT"=some (some (.ref a))/\∀H,yN K H a [.int 0,.int 1]
 whole:∃a,aZ K mainGlobals "WHOLE"=some (some (.ref a))/\∀H,yN K H a [.int 1,.int 1]
 anyC:∃t,aZ K mainGlobals "ANY"=some (some (.str "" t))
 errs:∃cs L,∀(h:bC) (mg:Str->Option ag),K.In h->h.Ns mainGlobals mg->ErrX K mg cs L
 kitf:KitF K
 zlen:aZ K mainGlobals "len"=some none
 zrange:aZ K mainGlobals "range"=some none
 zall:aZ K mainGlobals "all"=some none
 zisinstance:aZ K mainGlobals "isinstance"=some none
 zstr:aZ K mainGlobals "str"=some none
 ztuple:aZ K mainGlobals "tuple"=some none
 zint:aZ K mainGlobals "int"=some none
 zbool:aZ K mainGlobals "bool"=some none
 zsorted:aZ K mainGlobals "sorted"=some none
 zsum:aZ K mainGlobals "sum"=some none
 zmin:aZ K mainGlobals "min"=some none
 zmax:aZ K mainGlobals "max"=some none
 zdict:aZ K mainGlobals "dict"=some none
 zlist:aZ K mainGlobals "list"=some none
 zset:aZ K mainGlobals "set"=some none
 zValueError:aZ K mainGlobals "ValueError"=some none
theorem zQU:(l9 "abcdefghijklmnopqrstuvwxyz")=letters:=by decide+kernel
theorem zQV {K:ae}{t:Tok}(h:aZ K mainGlobals "LETTERS"=some (some (.str (l9 "abcdefghijklmnopqrstuvwxyz") t))):∃t,aZ K mainGlobals "LETTERS"=some (some (.str letters t)):=by
 rw[zQU]at h;exact⟨t,h⟩
theorem zQW {K:ae}{x:Str}{i:Int}{t:Tok}(h:aZ K mainGlobals x=some (some (.int i t))):∃t,aZ K mainGlobals x=some (some (.int i t)):=⟨t,h⟩
theorem zQX {K:ae}{x:Str}{a:ah}{i j:Int}{t t':Tok}{n:Nat}{dd:Option ah}{b:Array (Option ag)}(h:aZ K mainGlobals x=some (some (.ref a)))
  (l:K.lookup a=some ⟨.type "tuple",dd,.seq #[.int i t,.int j t'] n,b⟩):∃a,aZ K mainGlobals x=some (some (.ref a))/\∀H,yN K H a [.int i,.int j] :=
 ⟨a,h,fun H=>.inr ⟨_,_,_,l,rfl,rfl,by show 2<=sizeLine;decide,.cons ⟨t,rfl⟩ (.cons ⟨t',rfl⟩ .nil)⟩⟩
section
variable{P:aJ}{w:aV}{K:ae}{mg:Str->Option ag}{base:bC}{h:bC}
theorem zQY {x:Str}{st:cp}{ps:List Str}{k:Nat}{sp:Sp}(X:K.In h)(G:h.Ns mainGlobals mg)(H:z8 K x st ps)(ok:∀(f:ah) (fd:aX),Fun K x x st f fd->FnOk P w K mg base z7 k f fd ps sp):zY P w K mg base k x ps sp:=by
 obtain⟨f,fd,a,F,kp,b⟩:=H
 exact⟨f,fd,ok f fd F,bR X G a,kp,b⟩
theorem zQZ {x:Str}{st:cp}{ps:List Str}{k:Nat}{sp:Sp}(X:K.In h)(G:h.Ns mainGlobals mg)(H:z8 K x st ps)(ok:∀(f:ah) (fd:aX),Fun K x x st f fd->FnOk P w K mg base (vN P w) k f fd ps sp):u7 P w K mg base k x ps sp:=by
 obtain⟨f,fd,a,F,kp,b⟩:=H
 exact⟨f,fd,ok f fd F,bR X G a,kp,b⟩
theorem zQa {x:Str}{st:cp}{ps:List Str}{k:Nat}{sp:Sp}(X:K.In h)(G:h.Ns mainGlobals mg)(H:z8 K x st ps)(ok:∀(f:ah) (fd:aX),Fun K x x st f fd->FnB P w K mg base z7 k f fd ps sp):zBz P w K mg base k x ps sp:=by
 obtain⟨f,fd,a,F,kp,b⟩:=H
 exact⟨f,fd,ok f fd F,bR X G a,kp,b⟩
theorem zQb (X:K.In h)(G:h.Ns mainGlobals mg)(T:Top K){f:ah}{fd:aX}(F:Fun K "law" "law" jQ f fd):FnOk P w K mg base z7 8 f fd ["_law_script"] (zBJ K):=by
 have B:Blt mg:=⟨bz X G T.zlen,bz X G T.zrange,bz X G T.zall,bz X G T.zisinstance,bz X G T.zstr,bz X G T.ztuple,bz X G T.zint,bz X G T.zbool,bz X G T.zsorted,bz X G T.zsum,bz X G T.zmin⟩
 have C:Cst K mg:=⟨let⟨t,e⟩:=T.letters;⟨t,bR X G e⟩,let⟨t,e⟩:=T.ml;⟨t,bR X G e⟩,let⟨t,e⟩:=T.mn;⟨t,bR X G e⟩,let⟨t,e⟩:=T.mo;⟨t,bR X G e⟩,T.ib⟩
 have c {x:Str} {st:cp} {ps:List Str} {k:Nat} {sp:Sp} (a:z8 K x st ps) (b:∀(f:ah) (fd:aX),Fun K x x st f fd->FnOk P w K mg base z7 k f fd ps sp):zY P w K mg base k x ps sp:=zQY X G a b
 have d {x:Str} {st:cp} {ps:List Str} {k:Nat} {sp:Sp} (a:z8 K x st ps) (b:∀(f:ah) (fd:aX),Fun K x x st f fd->FnOk P w K mg base (vN P w) k f fd ps sp):u7 P w K mg base k x ps sp:=zQZ X G a b
 have A {x:Str} {st:cp} {ps:List Str} {k:Nat} {sp:Sp} (a:z8 K x st ps) (b:∀(f:ah) (fd:aX),Fun K x x st f fd->FnB P w K mg base z7 k f fd ps sp):zBz P w K mg base k x ps sp:=zQa X G a b
 have C2:Cst2 K mg:=⟨let⟨a,e,q⟩:=T.nought;⟨a,bR X G e,q⟩,let⟨a,e,q⟩:=T.whole;⟨a,bR X G e,q⟩⟩
 have hA:∃t,mg "ANY"=some (.str "" t):=let⟨t,e⟩:=T.anyC;⟨t,bR X G e⟩
 have O:=bz X G T.zdict
 have aN:=bz X G T.zset
 have aW:=bz X G T.zlist
 obtain⟨cs,L,hE⟩:=T.errs
 have E:=hE h mg X G
 have KF:=T.kitf
 have BE:BltE mg:=⟨bz X G T.zisinstance,bz X G T.zValueError⟩
 have B2:Blt2 mg:=⟨bz X G T.zmax,bz X G T.zdict,bz X G T.zlist⟩
 have j:=c T.end_of fun f fd F=>zLm F
 have D:=c T.ends fun f fd F=>zLp F B j
 have m:=c T.is_name fun f fd F=>zPT F B C KF
 have n:=c T.is_book fun f fd F=>zPU F B C KF m
 have g:=c T.is_whole fun f fd F=>zPW F B C KF
 have l:=c T.is_order fun f fd F=>zPX F C g
 have a0:=d T.need_book fun f fd F=>zPY F (E.at_ 0 (by decide)).1 n
 have a1:=d T.need_order fun f fd F=>zPZ F (E.at_ 1 (by decide)).1 l
 have a2:=d T.need_whole fun f fd F=>zPf F (E.at_ 4 (by decide)).1 g
 have a3:=d T.needlen fun f fd F=>zPg F C a2
 have o:=c T.rows fun f fd F=>zLy F D
 have Q:NeedX P w K mg base (cs.getD 0 0) (cs.getD 1 0) (cs.getD 4 0):=⟨a0,a1,a3,o⟩
 have p:=c T.gcd fun f fd F=>zNv F
 have R:=Ln.zY.imp (sp':=zDK) p fun h=>zNt h
 have r:=c T.low fun f fd F=>zNw F p
 have U:=Ln.zY.imp (sp':=zDM) r fun h=>zNu h
 have v:=c T.part_in fun f fd F=>zMz F B C2 U
 have a4:=c T.cm fun f fd F=>zND F R
 have a5:=c T.ww fun f fd F=>zNF F B a4
 have W:=c T.partsR fun f fd F=>zNB F v O
 have a6:=c T.even fun f fd F=>zMq F C2 O
 have Y:=c T.left fun f fd F=>zMm F
 have a7:=c T.follow fun f fd F=>zMo F hA
 have a8:=c T.nexts fun f fd F=>zNG F a7 j Y
 have Z:=c T.suma fun f fd F=>zNJ F B C2 a8 Y
 have y:=c T.hmr fun f fd F=>zOB F hA a6 Z
 have ab:=d T.hm fun f fd F=>zPh F Q y
 have ac:=hmG ab
 have z:=c T.sft fun f fd F=>zOH F B hA ⟨o,W,a5,Z,r⟩
 have al:=d T.sol fun f fd F=>zPi F Q z
 have an:=d T.sut fun f fd F=>zPj F Q z
 have ao:=c T.lt fun f fd F=>zNR F B j
 have a9:=c T.ce fun f fd F=>zNc F B ao
 have ap:=c T.lng fun f fd F=>zNe F ao j
 have be:=d T.am fun f fd F=>zPk F B Q a9 ap
 have as:=d T.lens fun f fd F=>zPl F B C Q y
 have H:=c T.cell fun f fd F=>zMH F B
 have i:=c T.drawn fun f fd F=>zMI F H
 have I:=c T.lname fun f fd F=>zMJ F B i
 have J:=c T.lbook fun f fd F=>zMK F B i I
 have s:=c T.lcounts fun f fd F=>zPm F B
 have u:=c T.lrow fun f fd F=>zPn F B s
 have au:=c T.llow fun f fd F=>zPv F
 have ax:=c T.lshare fun f fd F=>zQB F B B2 u au
 have aA:=c T.lsum fun f fd F=>zPw F au
 have M:=c T.lmade fun f fd F=>zQG F B u
 have aK:=A T.lrefused fun f fd F=>zPd F BE E
 have N:=c T.ltold fun f fd F=>zQH F E ab al an be as aK
 exact zQT F B aN aW ⟨i,J,M,ax,aA,ac,N⟩
end
theorem zQc {l:mj}{w:aV}{K:ae}{h:bC}{mg:Str->Option ag}{p i:ah}(X:K.In h)(G:h.Ns mainGlobals mg)(j:mg "law"=some (.ref p))
  {m b:Option ah} {n:Array (Option ag)} {o c d f a g:ag} (T:Top K)
  (q:aZ K mainGlobals "law"=some (some (.ref i))) (r:K.lookup i=some ⟨o,m,.func (dt "law" "law" (defArgs jQ) (defBody jQ) (defScope jQ) .none c d f b a g),n⟩) (t:fO K a "law"=true) (u:dy K (.ref i)=true) :
  ∃fd:aX,(∀(s:av) (v:ag),mZ s fd ⟨[v],[]⟩ [("_law_script",v)])/\∀base:bC,K.In base->base.Ns mainGlobals mg->FnOk l.prog w K mg base z7 8 p fd ["_law_script"] (zBJ K):=by
 have e:=j.symm.trans (bR X G q)
 cases e
 have x:=zCg (st:=jQ) r t u
 exact⟨dt "law" "law" (defArgs jQ) (defBody jQ) (defScope jQ) .none c d f b a g,fun s v=>.of_eq rfl,fun base _ _=>zQb X G T x⟩
theorem zQd {l:mj}{q:aJ}{loose:List Str}{XP:(Str->Option ag)->bC->Prop}{YP:aV->bC->Prop}{d:DefRec}{K:o8->ae}(e:l.most=some 63)(b:d.params.defaults=[])
  (g:∀(w:aV) (h:bC),YP w h->(K w.params).In h)
  (F:∀(w:aV) (mg:Str->Option ag) (c:ah) (h:bC),(K w.params).In h->h.Ns mainGlobals mg->mg d.name=some (.ref c)->
   ∃fd:aX,(∀(s:av) (u:ag),mZ s fd ⟨[u],[]⟩ [("_law_script",u)])/\∀base:bC,(K w.params).In base->base.Ns mainGlobals mg->FnOk l.prog w (K w.params) mg base z7 8 c fd ["_law_script"] (zBJ (K w.params))) :
  qk q loose XP YP l.row.toRowW d [] (fun f vs=>pD f vs) :=
 L2.zKt (n:=63) (k:=8) (x :="_law_script") (CX:=fun _=>z7) (sp:=fun w=>zBJ (K w.params)) e (by decide) b ⟨rfl,by decide,by decide⟩ g F (fun _ _ a ns hl _ i=>⟨a,ns,rfl,i,hl,fun _=>rfl⟩) fun _ _ _ _ _ z=>z
end Kn
end
section
open PySem PySem.W PyProof.Rows
set_option maxRecDepth 100000 in
set_option maxHeartbeats 0 in
theorem PySem.Challenge.cw_kinnames_k20_lengths_holds : PySem.Challenge.rw_kinnames_k20_lengths.Holds := by
 w_on;o_law
 refine PySem.W.holds_open (q:=Kn.kq) (loose:=Kn.klo) (Xt:=fun s=>xlAt Kn.kq [] s&&recOk [] s) (XP:=XL Kn.kq []) (Yf:=Hook.obs (kHook Kn.kfr Kn.kas Kn.kas_e)) (Ya:=Hook.val (kHook Kn.kfr Kn.kas Kn.kas_e)) (YP:=Hook.says (kHook Kn.kfr Kn.kas Kn.kas_e)) (N:=6818) Kn.hl (Hook.of (kHook Kn.kfr Kn.kas Kn.kas_e)) (Hook.keeps (kHook Kn.kfr Kn.kas Kn.kas_e)) (fun s e=>xl_of s (Bool.and_eq_true_iff.mp e).1) XL.keeps (by rfl) (by rfl) (by rfl) (fun s e=>recFacts_of (Bool.and_eq_true_iff.mp e).2) (by rfl) (by first|assumption|decide+kernel) (by decide+kernel) ⟨rfl,rfl,rfl,rfl,rfl,by decide+kernel⟩ ?hw ?hc
 (case hw=>w_witness2)
 k_fill
 refine Kn.zQd (l:=PySem.Challenge.rw_kinnames_k20_lengths) rfl rfl (fun w h Y=>PySem.W.kIn_of Y) ?F
 case F=>
  intro w mg fa h KX G hmg
  refine' Kn.zQc KX G hmg ?T ?a4 ?l4 ?c4 ?k4
  (case T=>
   refine' ⟨?is_name,?is_book,?is_whole,?is_order,?need_book,?need_order,?need_whole,?end_of,?ends,?rows,?gcd,?low,?part_in,?cm,?ww,?partsR,?even,?left,?follow,?nexts,?suma,?needlen,?hmr,?hm,?sft,?sol,?sut,?lt,?ce,?lng,?am,?lens,?cell,?drawn,?lname,?lbook,?lcounts,?lrow,?llow,?lshare,?lsum,?lmade,?lrefused,?ltold,?letters,?ml,?mn,?mo,?ib,?nought,?whole,?anyC,?errs,?kitf,?zlen,?zrange,?zall,?zisinstance,?zstr,?ztuple,?zint,?zbool,?zsorted,?zsum,?zmin,?zmax,?zdict,?zlist,?zset,?zValueError⟩
   (case is_name|is_book|is_order|need_book|need_order|ww|partsR|even|needlen|lsum|lrefused=>refine' Kn.zCO _ (fun fd F=>F.binds fun _ _ _ _ _ _ us hl=>match us,hl with| [_],_=>rfl) ?kna ?knl ?knc ?knk;(case kna=>k_is);(case knl=>k_is);(case knc=>k_is);(case knk=>k_is))
   (case end_of|ends|rows|gcd|low|part_in|cm|left|follow|lens|cell|lcounts|llow=>refine' Kn.zCO _ (fun fd F=>F.binds fun _ _ _ _ _ _ us hl=>match us,hl with| [_,_],_=>rfl) ?kna ?knl ?knc ?knk;(case kna=>k_is);(case knl=>k_is);(case knc=>k_is);(case knk=>k_is))
   (case is_whole|need_whole|hmr|hm|sol|sut|ce|am|drawn|lname|lrow|lshare|lmade=>refine' Kn.zCO _ (fun fd F=>F.binds fun _ _ _ _ _ _ us hl=>match us,hl with| [_,_,_],_=>rfl) ?kna ?knl ?knc ?knk;(case kna=>k_is);(case knl=>k_is);(case knc=>k_is);(case knk=>k_is))
   (case nexts|suma|sft|lt|lng|lbook|ltold=>refine' Kn.zCO _ (fun fd F=>F.binds fun _ _ _ _ _ _ us hl=>match us,hl with| [_,_,_,_],_=>rfl) ?kna ?knl ?knc ?knk;(case kna=>k_is);(case knl=>k_is);(case knc=>k_is);(case knk=>k_is))
   (case letters=>refine' Kn.zQV ?knq;(case knq=>k_is))
   (case ml|mn|mo=>refine' Kn.zQW ?knq;(case knq=>k_is))
   (case ib=>first|rfl|kernel_rfl|decide+kernel)
   (case nought|whole=>refine' Kn.zQX ?knq ?knr;(case knq=>k_is);(case knr=>k_is))
   (case anyC=>refine' Kn.Ln.zMj ?knq;(case knq=>k_is))
   (case errs=>refine' Kn.zPb ?e0 ?e1 ?e2 ?e3 ?e4 ?e5 ?e6 ?e7 ?eL ?eK;(case e0=>k_is);(case e1=>k_is);(case e2=>k_is);(case e3=>k_is);(case e4=>k_is);(case e5=>k_is);(case e6=>k_is);(case e7=>k_is);(case eL=>k_is);(case eK=>first|rfl|kernel_rfl|decide+kernel))
   (case kitf=>constructor<;>first|rfl|kernel_rfl|decide+kernel)
   (case zlen|zrange|zall|zisinstance|zstr|ztuple|zint|zbool|zsorted|zsum|zmin|zmax|zdict|zlist|zset|zValueError=>k_is))
  (case a4=>k_is);(case l4=>k_is);(case c4=>k_is);(case k4=>k_is)
end
