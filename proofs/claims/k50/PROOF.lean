import PyProof.Rows.All
import Wide.All
import OpenK.AllK
import Wide.FinOn
import Lean
import PyProof.EqAt
import PyProof.EqKinds
import PyProof.TupleCall
import PyProof.CompFree
import KE.KSortAsk
import KE.KSortTup
import KE.KRevSl
import PyProof.AttrMissSeq
import KE.KDictOf
import KE.KxText
import PyProof.Rows.Range3
import PyProof.WalksMore
import PyProof.StationsW
import PyProof.Rows.Catch
import PyProof.ExcClass3
import PyProof.ExcBaseAll.ValueError
import OpenK.KOwn
import KE.KIsAll
import PyProof.FitsBits
import PyProof.ZipIter
import PyProof.Draws
import PyProof.TupleIter
import PyProof.Rows.ZipGen
import PyProof.Rows.InDataRows
import PyProof.Rows.SetFrom
import PyProof.ExcAttrAll.ValueError
import PyProof.FString
import PyProof.ListMulRoad
import PyProof.StrOps2
import PyProof.FactsAll.tuple_2
import PySem.Challenge.RW_kinnames_k50_makers
open List renaming getElem?_eq_some_iff→aa,length_map→af,take_succ_eq_append_getElem→ak,length_append→aq,mem_cons_self→ar,getElem?_eq_getElem→ax,map_append→az,getElem?_map→aF,mem_cons_of_mem→aG,length_take→aL,mem_cons→aQ,mem_of_getElem?→aS,mem_append_right→aT,replicate→aU,take_length→aV,mem_map→aX,size_toArray→aY,map_cons→ba,range→bg,length_range→bh,getD_eq_getElem?_getD→br,getElem?_append_left→bA,length_filter_le→bC,getElem?_append_right→bD,mem_filter→bF,length_cons→bJ,filter_append→bN,mem_append→bP,mem_range→bR,mem_append_left→bS,lookup_cons→bT,mem_flatMap→bY,pairwise_cons→cg,map_map→cp,all_eq_true→cw,nodup_cons→cx,getElem?_range→cy,length_drop→cC,getElem_mem→cD,cons_lt_cons_iff→cO,range_succ→cU,length_eq_zero_iff→cX,pairwise_append→cY,take_of_length_le→c8,filter_cons→c9,mem_of_mem_take→dk,cons_append→dt,getElem_of_mem→dv,map_congr_left→dw,pairwise_map→dy,length_singleton→dA,sum_cons→dD,count_pos_iff→dF,getElem?_replicate→dG,filter_cons_of_neg→dI,filter_cons_of_pos→dJ,eq_nil_or_concat→dU,mem_singleton_self→eB,find?_cons→eF,toArray→eI,find?_eq_none→eR,length_replicate→eS,concat_eq_append→eT,foldl_cons→eW,flatMap_cons→eY,replicate_succ'→eZ,any_cons→e8,replicate_succ→ff,getElem_inj→fh,mem_singleton→fC,drop_of_length_le→fD,append_nil→fG,append_assoc→fK,flatten_cons→fO,forIn_nil→fW,lt_irrefl→fX,drop_zero→fY,getElem_map→f9,any_eq_true→gf,all_map→gh,drop_eq_getElem_cons→gj,filterMap_cons→gp,flatMap_append→gr,map_take→hV,forIn_cons→ie,count→ik,not_lt→iu,pairwise_singleton→iw,nodup_append→iH,foldl_append→iI,lookup_cons_self→iO,mem_of_mem_drop→iZ,take_append_of_le_length→i0,of_mem_zip→ja,take_range→jf,mem_filterMap→jv,contains_cons→ke,pairwise_iff_getElem→kf,length→ki,count_append→km,count_filter→ko,find?_append→ku,getElem?_take_of_lt→ky,all_cons→kz,length_erase_of_mem→lq,ext_getElem→lC,zipIdx_cons→lG,getElem?_set_self→lM,map_nil→lR,range_succ_eq_map→l3,length_pos_of_mem→l5,any_map→l6,pairwise_lt_range→l7,zipIdx_nil→ma,count_cons_of_ne→mj,take_eq_take_min→mm,getElem?_eq_none→mr,take_append_drop→mx,pairwise_flatMap→my,getElem?_set_ne→mz,mem_erase_of_ne→mK,filter→mP,getLast?_append→mQ,mem_map_of_mem→mW,lt_trans→m9,Nodup→nz,map_replicate→nB,any_eq_false→nI,take_sublist→nM,reverse_cons→nP,le_antisymm→ou,drop_append→oz,not_mem_nil→oE,nil_append→oK,length_nil→oN,sum_append→oQ,count_cons→oU,foldl→pe,foldl_nil→pH,map_drop→qq,map_id→rN,take→sI,map→sN
open PySem.W renaming Frag→ae,nsIn→bq,kitOne→bx,mg_none_of→bE,mg_of→cc,kia_one→cQ,keepIn→dB,kas_place→dH,fnOf→dN,emptyDict→dP,findIn→d6,excIn→eN,instObj→eU,kas_desc→fk,looks_pair→fR,codeIn→fT,hideAll_get→gk,hideAll→ia,cellsFrom_some→iA,kas_asc→iF,kas_descPart→jn,of_hideAll→js,callWith_K→jy,methodObj→kh,kas_rev→lV,OpenLaw→l9,lookIn→mD,mroIn→m6,codeRec_of→nq,kitx_list→nJ,kitx_dict→nK,kas_bin→nQ,kas_sort→nR,plainGet→oh,kas_count→ot,SharedT→oV,WalkO→qj,kat_cons→rP
open PySem.Heap renaming get?_push_of_some→ag,lt_size→aM,get?_push_size→aZ,get?_update_other→cF,size_push→dj,SameBut→jm,MadeExcOf→pB,FlyingW→ro,IsTuple→rA
open PySem renaming Value→ah,Addr→ai,wpAny_bind→ao,Shared→au,FuncData→aO,Program→aP,sizeLine_eq→aR,World→bc,wpAny_pure→bf,Heap→bK,boot_len→bQ,Around→bU,PyData→bW,wpAny_loadPart'→bZ,Expr→cb,wpAny_mono→cf,mem_of_lookup→ck,Stmt→cJ,wpAny_truthy_bool→de,wpAny_field→dm,Spec→dO,wpAny_loadPart_at→dR,Scope→dS,wpAny_setField_rec→dW,Builtin→dX,wpAny_seqItems→d8,wpAny_callSpecial?_slot→eC,IsPair→eJ,wpAny_call_entry→eP,wpAny_passesOwn→eV,wpAny_newObj_type→eX,wpAny_pyIter_tuple→ft,wpAny_Call_Name_kw→fw,tupleKind_room_in1→fz,wpAny_pyIter_list→fL,call_meets→fU,wpAny_isSubtype_exc→gu,wpAny_comprehension_free→gz,wpAny_execs_nil→ic,codeAny_mono→iy,NameKind→iz,list_append→iD,codeAny_compStart_list→iE,wpAny_pyIter_enum→iG,wpAny_onRaise→iV,IsZip→i8,wpAny_updateSeq_pair→i9,wpAny_newFunctionEnv_cells→jz,wpAny_letOwnedTupleGo_enum→kc,wpAny_newList→lh,wpAny_holding→ll,noFill_tuple_add→lA,wpAny_pyNext_enum_itemD→lD,wpAny_pyIter_zip→lI,wpAny_rule→lN,wpAny_pyNext_range_end→lO,wpAny_pyIter_rangeiter→lP,call_meetsIn→lT,wpAny_pyNext_enum_endD→lX,codeAny_builtin→mf,wpAny_isTrue_Compare1→mh,codeAny_call_function→mi,IsRangeIter→mC,wpAny_newFunctionEnv→mF,wpAny_newTuple→mG,Draws→mH,codeAny_call_builtin→mO,BindsTo→mR,Fin→mS,wpAny_standAt→m5,seq_tuple_add→m7,evalPart_none→m8,wpAny_attempt→nc,wpAny_pyIter_range→nk,Model→nF,wpAny_assign_Name→nG,concat_meets→nN,slot_list_getitem→nO,call_sum_walkAnyS→nS,wpAny_pyHash_str→n5,wpAny_eqBool_str→n6,Paired→n9,wpAny_execs_cons→oa,wpAny_isInstance→oA,wpAny_letGo→oH,Keyword→oW,Params→oZ,GenState→o5,wpAny_Name→o6,CmpOp→o7,wpAny_bindName→o8,typeIs_int→pd,call→ph,wpAny_setField→pD,isSubtype_stop→pE,KeyKind→pV,intBits_le_64→pX,call_list_seq→qh,eval_ListComp→qk,plainId_quiet→qo,Arguments→qt,Within→qw
open Option.some renaming inj→aw
open Nat renaming le_refl→aH,lt_of_lt_of_le→bw,ne_of_lt→bH,lt_irrefl→bO,zero_le→bX,le_trans→b8,pow_le_pow_right→cq,le_of_eq→dh,lt_succ_of_lt→di,ne_of_gt→dY,min_eq_left→eG,lt_succ_self→eO,sub_self→iK,min_le_left→jg,le_of_lt→jl,sub_zero→jo,gcd_comm→lZ,not_lt_zero→me,le_succ→mI,pow_le_pow_left→mZ,lt_of_le_of_lt→ny,zero_add→nE,pow_succ→nW,min_le_right→om,dvd_mul_left→ox,min_eq_right→oB,succ_le_succ→oD,not_lt→pF,succ_mul→qy,lt_trans→rf,add_zero→rg,gcd→ri,succ_pos→rj,Coprime→rM,log2_lt→rO
open Bool renaming false_ne_true→aI,and_eq_true→bz,and_self→dZ,eq_iff_iff→eE,false_eq_true→fA,true_and→fI,false_and→fS,not_eq_true'→nX,eq_false_iff→nY,or_eq_true→oS,and_false→pf,false_or→qi,and_true→qp,true_or→qz
open PyProof.Rows renaming boot_isinstance→aJ,callWith_type1→cK,boot_all→da,boot_list→du,boot_bool→fE,boot_min→fJ,IntsAre→fN,listUpdate_at→hU,boot_int→iQ,boot_sum→iR,seqEpoch_at→iY,get?_update_seq→jb,AllBare→jk,assignInOrder_cons→ju,boot_sorted→lz,boot_tuple→lF,subscriptTail_builtinR→lS,boot_str→mq,boot_max→mv,boot_any→mw,Subscript_→nr,assignInOrder_nil→nH,callWith_builtin1→oj,list_sort_plain→oO,entry_list_sort→oR,room_in_shaped→oY,boot_range→o9,SortKind→pj,slot_list_sort→pq,args_list_sort→pz,boot_enumerate→pA,Constant_none→pW,Call_→qu,tail_any→rH,lt_int→rQ,envOfC→r6
open PySem.Challenge renaming pw_kinnames_k50_makers→bG
open PySem.PassesOwn renaming never→bI,leaving→sA
open PySem.PyData renaming eqv→bV,canLayAll0→cH,depthAll→dq,canLay0→dC,depth→d5,eqvAll→fc,strOk→rm
open PySem.Builtin.SmallTypes renaming nextOf→cj,ownedTupleIsFree→cu,ownedTupleHandOut→gv
open PySem.SeqAt renaming shaped→cn,canLay_of_shaped→fF,EqAt→o4
open PySem.Obj renaming mapSeq→cz,data_mapFields→nC
open Int renaming eq_ofNat_of_zero_le→cV,le_of_lt→cZ,mul_pos→dz,mul_nonneg→d7,mul_le_mul→fm,gcd→ig,emod_lt_of_pos→il,gcd_dvd_right→iJ,mul_le_mul_of_nonneg_right→iT,emod_nonneg→jd,zero_mul→jq,fdiv_eq_ediv_of_nonneg→jw,toNat_natCast→kj,mul_comm→lY,mul_ediv_cancel'→mJ,lt_or_eq_of_le→nA,pow_succ→nV,gcd_dvd_left→ow,ediv_le_self→oy,le_refl→oG,pow_nonneg→pG,le_of_dvd→qm,mul_zero→rh
open False renaming elim→dE
open PySem.Builtin.Str renaming strSliceIndices→dM,occurrences→eA
open PySem.F renaming excBase_ValueError→dQ,plainAttrs_list→eD,slot_tuple_iterator_next→eQ,slot_zip_next→fH,typeOf_object_class→fQ,args_list_append_2→fV,entry_list_append→gq,args_tuple_add_2→gx,slot_list_append→ij,entry_tuple_add→iq,plainAttrs_dict→ir,slot_tuple_add→iB,slot_dict_get→iN,slot_dict_setdefault→jc,args_tuple_iterator_next_1→je,slot_gs_get→ji,entry_tuple_iterator_next→jr,args_zip_next_1→kr,slot_dict_values→lu,slot_list_append→lx,type_list_append→ly,args_dict_get_3→lB,entry_zip_next→lH,attr_ValueError→lJ,slot_list_count→lK,slot_list_index→lL,entry_dict_get→lU,slot_int_rmul→oM
open Ne renaming symm→d9
open Prod.mk renaming inj→eM
open PySem.Builtin.List renaming listTooLong→fb
open PySem.Builtin.Range renaming rangeSize→fi,small→mX,rangeFitsLong→oX
open List.Pairwise renaming map→fP,filter→fZ
open PySem.Str renaming ofString→gc,length→nu,empty→sG
open PySem.Paired renaming length→gw,snoc→rL
open Option renaming map_some→hZ,bind_eq_some_iff→ip,map_eq_some_iff→ix,isSome_map→kl,isSome_iff_exists→kx,isSome_some→nv,getD_none→oq
open PySem.Calls renaming callWith_builtin→iC,evalArgs_plain→iX,Name_function_global→jt,spliced_cons→jx,call_function_entry→kg,spliced_nil→nL
open Nat.succ renaming inj→iL
open Nat.Coprime renaming dvd_of_dvd_mul_left→iM
open Array renaming getElem?_toList→iP,length_toList→jh,append_assoc→nj,toList_inj→nZ,toList→qx
open PySem.IsL renaming update→iS
open PySem.Value renaming isStrOf→iU,isStrOf_shape→mT,isInt→rD
open PySem.SeqAt.EqAt renaming bool_bool→iW,int_int→ka,str_bool→mU,bool_str→mV,int_str→ng,str_int→nh,none_bool→rJ,bool_none→rK,none_int→rR,none_str→rS,bool_int→rT,int_none→rV,int_bool→rW,str_none→rX,str_str→sf,same→sL
open List.Perm renaming refl→kb,length_eq→rY,nodup_iff→rZ,mem_iff→sr
open Prod renaming snd→lE,fst→nU
open PyProof renaming noPylong_small→lQ
open PySem.Draws renaming list→lW
open PySem.Around renaming frames_deeper→mE,under_plainId→mL
open PySem.Heap.SameBut renaming update→mY
open PySem.Builtin.Int renaming intBits→m3
open PySem.AutoListH renaming list___mul___list_int_3→nD
open PySem.Txt renaming join→nT,slice→qv
open Sum.inr renaming inj→oF
open PySem.Shared renaming heap→oJ
open StateT renaming run_pure→oP,run→sk
open PySem.Walks renaming list→pk,range→rF
open PySem.EqNone renaming eq_none_none→pI,eq_none_bool→pJ,eq_bool_none→pK,ne_none_none→pO,ne_none_bool→pP,ne_bool_none→pQ,eq_none_int→pY,eq_none_str→pZ,eq_int_none→p7,eq_str_none→p9,ne_none_int→qb,ne_none_str→qc,ne_int_none→qd,ne_str_none→qf
open PySem.EqMixed renaming eq_bool_str→pL,eq_str_bool→pM,ne_bool_str→pR,ne_str_bool→pS,eq_int_str→p8,eq_str_int→qa,ne_int_str→qe,ne_str_int→qg
open Classical renaming byContradiction→pU,choose_spec→rC,choose→sJ
open PySem.Moved renaming eq_with→ql
open List.cons renaming inj→qr
open PySem.MeetsSeq renaming EqGives→rB
open Sum.inl renaming inj→rE
open PySem.IsRange renaming new→rG
open List.Sublist renaming append→r0,refl→sy
open PySem.Heap.IsSliceOf renaming new→r9
open PySem.W.WShape renaming has→sj
open PyProof.Rows.SortSt renaming mk'→so
open PySem.Heap.IsTuple renaming push→su
open PyProof.Rows.IsTup renaming new→sE
open PySem.DictEntry renaming refKey→sF
open PySem.Heap.DictOf renaming new→sM
open PySem.Value.type renaming inj→sO
open PySem.Value.ref renaming inj→sQ
set_option Elab.async false
set_option linter.all false
set_option maxRecDepth 100000
set_option maxHeartbeats 4000000
section
namespace L2
open PySem
def inClass (s:cJ)(j:Nat):cJ:=match s with
 | .ClassDef _ _ _ body _ _ _ _ _ _ _=>body.getD j (.Pass ⟨0,0,0,0⟩)
 |_=>.Pass ⟨0,0,0,0⟩
def defArgs (s:cJ):qt:=match s with
 | .FunctionDef _ a _ _ _ _ _ _ _ _=>a
 |_=>{posonlyargs:=[],args:=[],vararg:=none,kwonlyargs:=[],kw_defaults:=[],kwarg:=none,defaults:=[]}
def defBody (s:cJ):List cJ:=match s with
 | .FunctionDef _ _ b _ _ _ _ _ _ _=>b
 |_=>[]
def defScope (s:cJ):dS:=match s with
 | .FunctionDef _ _ _ _ _ _ sc _ _ _=>sc
 |_=>{kind:=.function,names:=[],isGenerator:=false,isCoroutine:=false}
end L2
namespace Kn
open PySem
def top (i:Nat):cJ:=bG.main.body.getD i (.Pass ⟨0,0,0,0⟩)
end Kn
namespace Kn
open PySem PySem.W PyProof.Rows
def topRunT (tb:String->Option dX)(p:aP)(w:bc)(n₀:Nat)(ann:Option ah):Nat->oV->Thread->Option oV
 |0,_,_=>none
 |n+1,s,t=>match through t with
  |true=>some s
  |false=>match stepOk n₀ ann t with
   |false=>none
   |true=>match stepT (denote tb) p w s t with
    |some (s',t')=>topRunT tb p w n₀ ann n s' t'
    |none=>none
theorem topRun_of {tb:String->Option dX}{p:aP}{w:bc}{n₀:Nat}{ann:Option ah}:∀{n:Nat}{s s':oV}{t:Thread},topRunT tb p w n₀ ann n s t=some s'->topRun tb p w n₀ ann n s.abs t=some s'.abs
 |0,_,_,_,h=>by cases h
 |n+1,s,s',t,h=>by
  unfold topRunT at h
  unfold topRun
  cases he:through t with
  |true=>rw[he]at h;cases h;rfl
  |false=>
   rw[he]at h
   cases hk:stepOk n₀ ann t with
   |false=>rw[hk]at h;cases h
   |true=>
    rw[hk]at h
    cases hs:stepT (denote tb) p w s t with
    |none=>rw[hs]at h;cases h
    |some r=>obtain⟨s₂,t₂⟩:=r;rw[hs]at h;rw[stepT_spec hs];exact topRun_of h
def insAll:List Obj->Nat->BT->Option BT
 | [],_,T=>some T
 |o::os,n,T=>match((T.ins n o).get n).isSome with
  |true=>insAll os (n+1) (T.ins n o)
  |false=>none
theorem insAll_abs {life:Life}:∀{os:List Obj}{n:Nat}{T T':BT},insAll os n T=some T'->(absHeap T' (n+os.length) life).objs.toList=(absHeap T n life).objs.toList++os
 | [],n,T,T',h=>by cases h;simp
 |o::os,n,T,T',h=>by
  unfold insAll at h
  cases hi:((T.ins n o).get n).isSome with
  |false=>rw[hi]at h;cases h
  |true=>
   rw[hi]at h
   have h1:=insAll_abs (life:=life) h
   have h2:=absHeap_ins (life:=life) hi
   have e:n+1+os.length=n+(o::os).length:=by rw[bJ];omega
   rw[<-e,h1,h2]
   show((absHeap T n life).objs.push o).toList++os=_
   rw[Array.toList_push,fK];rfl
theorem insAll_of {s:au}{T:BT}(h:insAll s.heap.objs.toList 0 .nil=some T):(SharedT.mk T s.heap.objs.size s.heap.life s.gens s.drawn s.toks s.os).abs=s:=by
 have h1:=insAll_abs (life:=s.heap.life) h
 have e0:(absHeap .nil 0 s.heap.life).objs.toList=[]:=rfl
 have e1:0+s.heap.objs.toList.length=s.heap.objs.size:=by rw[nE];rfl
 rw[e0,oK,e1]at h1
 have h2:absHeap T s.heap.objs.size s.heap.life=s.heap:=by
  have h3:(absHeap T s.heap.objs.size s.heap.life).objs=s.heap.objs:=nZ.mp h1
  have h4:(absHeap T s.heap.objs.size s.heap.life).life=s.heap.life:=rfl
  generalize absHeap T s.heap.objs.size s.heap.life=A at h3 h4
  cases A
  obtain⟨⟨o,l⟩,_,_,_,_⟩:=s
  subst h3 h4
  rfl
 unfold SharedT.abs
 dsimp only
 rw[h2]
def topFromT (tb:String->Option dX)(p:aP)(w:bc)(N:Nat)(s₀:au)(T₀:oV):Option au :=
 match s₀.heap.isNs mainGlobals&&s₀.gens.size==0 with
 |true=>(topRunT tb p w s₀.heap.objs.size (s₀.heap.nsMap mainGlobals "__annotations__") N T₀ (topStub p)).bind fun t₁=>match staticsOk (importedModules p.main.body) s₀.heap t₁.abs.heap&&namesBound p t₁.abs.heap&&gensDone t₁.abs&&laidKept s₀.heap t₁.abs.heap with
   |true=>some t₁.abs
   |false=>none
 |false=>none
theorem topFrom_of {tb:String->Option dX}{p:aP}{w:bc}{N:Nat}{s₀:au}{T₀:oV}{s₁:au}(e:T₀.abs=s₀)(h:topFromT tb p w N s₀ T₀=some s₁):topFrom tb p w N s₀=some s₁:=by
 unfold topFromT at h
 unfold topFrom
 cases hb:s₀.heap.isNs mainGlobals&&s₀.gens.size==0 with
 |false=>rw[hb]at h;cases h
 |true=>
  rw[hb]at h
  dsimp only at h⊢
  obtain⟨t₁,h1,h2⟩:=ip.mp h
  have h3:=topRun_of h1
  rw[e]at h3
  rw[h3]
  exact h2
def openEndsT (tb:String->Option dX)(p:aP)(w:bc)(N:Nat):Option au:=(fencedOpening tb p w N).bind fun s₀=>(insAll s₀.heap.objs.toList 0 .nil).bind fun T=>topFromT tb p w N s₀ ⟨T,s₀.heap.objs.size,s₀.heap.life,s₀.gens,s₀.drawn,s₀.toks,s₀.os⟩
theorem openEnds_of {tb:String->Option dX}{p:aP}{w:bc}{N:Nat}{s₁:au}(h:openEndsT tb p w N=some s₁):openEnds tb p w N=some s₁:=by
 obtain⟨s₀,h1,h2⟩:=ip.mp h
 obtain⟨T,h3,h4⟩:=ip.mp h2
 unfold openEnds
 rw[h1]
 exact topFrom_of (insAll_of h3) h4
theorem openMap_of {tb:String->Option dX}{p:aP}{w:bc}{N:Nat}{α:Type}{F:au->α}{r:α}(h:(openEndsT tb p w N).map F=some r):(openEnds tb p w N).map F=some r:=by
 obtain⟨s₁,h1,h2⟩:=ix.mp h
 rw[openEnds_of h1,hZ,h2]
end Kn
open PySem PySem.W PyProof.Rows
namespace Kn
open L2
def kE (P:oZ)(x:Str)(t:Nat)(v:ah):DictEntry:=⟨PyData.keyHash P x,.str x t,v⟩
def kF (s:cJ)(nm qn:Str)(df kd doc pm:ah)(an:Option ai)(cd ct:ah)(c:ah)(d:Option ai)(sl:Array (Option ah)):Obj :=
 ⟨c,d,.func (dN nm qn (defArgs s) (defBody s) (defScope s) df kd doc pm an cd ct),sl⟩
def kC (n:Str)(a b c:Nat)(i3 i4 i5 i6 i7:Int)(r8:ai)(b9:Bool)(i10:Int)(r11 r13 r14 r15:ai)(i16 i17:Int)(e:Nat):Obj :=
 ⟨.type "code",none,.fields #[.str n a,.str n b,.str (.ofString "/claim/cut.py") c,.int i3 0,.int i4 0,.int i5 0,.int i6 0,.int i7 0,.ref r8,.bool b9,.int i10 0,.ref r11,.none,.ref r13,.ref r14,.ref r15,.int i16 0,.int i17 0,.str (.ofString "/claim/cut.py") e],#[]⟩
def kD (s:cJ)(n m:Str)(t:Nat)(c:ai):Obj:=kF s n n .none .none .none (.str m t) none (.ref c) .none (.type "function") none #[]
noncomputable def kfr:oZ->Frag:=fun P=>(nat_lit 2,⟨.none,none,.dict #[] 0,#[]⟩)::
 (nat_lit 3,⟨(.type "dict"),none,.dict #[kE P (.ofString "__name__") 165 (.str (.ofString "law_kinnames_k50_makers") 608),kE P (.ofString "__doc__") 166 .none,kE P (.ofString "__package__") 167 .none,kE P (.ofString "__loader__") 168 (.builtin "__main__.__loader__#opaque"),kE P (.ofString "__spec__") 169 .none,kE P (.ofString "__annotations__") 170 (.ref 6),kE P (.ofString "__builtins__") 171 (.ref 4),kE P (.ofString "__file__") 173 (.str (.ofString "/claim/cut.py") 172),kE P (.ofString "__cached__") 174 .none,kE P (.ofString "LikeError") 206 (.ref 24),kE P (.ofString "NoBook") 222 (.ref 37),kE P (.ofString "NoOrder") 238 (.ref 49),kE P (.ofString "NoName") 254 (.ref 61),kE P (.ofString "NoWish") 270 (.ref 73),kE P (.ofString "NoNumber") 286 (.ref 85),kE P (.ofString "NotMade") 302 (.ref 97),kE P (.ofString "TooShort") 318 (.ref 109),kE P (.ofString "Nothing") 334 (.ref 121),kE P (.ofString "LETTERS") 338 (.str (.ofString "abcdefghijklmnopqrstuvwxyz") 337),kE P (.ofString "MOST_LETTERS") 340 (.int (8) 339),kE P (.ofString "MOST_NAMES") 342 (.int (8) 341),kE P (.ofString "MOST_ORDER") 344 (.int (3) 343),kE P (.ofString "is_name") 350 (.ref 128),kE P (.ofString "is_book") 356 (.ref 133),kE P (.ofString "is_whole") 365 (.ref 140),kE P (.ofString "is_order") 372 (.ref 147),kE P (.ofString "is_rising") 378 (.ref 152),kE P (.ofString "need_book") 385 (.ref 159),kE P (.ofString "need_books") 393 (.ref 166),kE P (.ofString "need_order") 400 (.ref 173),kE P (.ofString "need_name") 407 (.ref 180),kE P (.ofString "end_of") 415 (.ref 187),kE P (.ofString "ends_and_letters") 421 (.ref 192),kE P (.ofString "counted_rows") 434 (.ref 199),kE P (.ofString "NOUGHT") 439 (.ref 200),kE P (.ofString "WHOLE") 442 (.ref 201),kE P (.ofString "greatest_divisor") 451 (.ref 208),kE P (.ofString "lowest") 460 (.ref 215),kE P (.ofString "times") 468 (.ref 222),kE P (.ofString "is_less") 476 (.ref 229),kE P (.ofString "place_of_greatest") 487 (.ref 236),kE P (.ofString "part_in") 495 (.ref 243),kE P (.ofString "steps_by_rows") 501 (.ref 248),kE P (.ofString "share_by_rows") 512 (.ref 255),kE P (.ofString "share") 521 (.ref 262),kE P (.ofString "makes") 530 (.ref 269),kE P (.ofString "makers") 538 (.ref 274),kE P (.ofString "best_maker") 544 (.ref 279),kE P (.ofString "greatest_order") 553 (.ref 286),kE P (.ofString "places_with") 559 (.ref 291),kE P (.ofString "places_by_step") 565 (.ref 296),kE P (.ofString "any_has") 571 (.ref 301),kE P (.ofString "alone_make") 577 (.ref 306),kE P (.ofString "longer_lists") 583 (.ref 311),kE P (.ofString "needed") 595 (.ref 318),kE P (.ofString "is_list_of_places") 601 (.ref 323),kE P (.ofString "shows") 607 (.ref 328),kE P (.ofString "_law_cell") 617 (.ref 335),kE P (.ofString "_law_drawn") 627 (.ref 342),kE P (.ofString "_law_name") 633 (.ref 347),kE P (.ofString "_law_book") 645 (.ref 354),kE P (.ofString "_law_counts") 658 (.ref 361),kE P (.ofString "_law_row") 668 (.ref 368),kE P (.ofString "_law_lowest") 678 (.ref 375),kE P (.ofString "_law_share") 684 (.ref 380),kE P (.ofString "_law_sum") 694 (.ref 387),kE P (.ofString "_law_made") 700 (.ref 392),kE P (.ofString "_law_refused") 708 (.ref 399),kE P (.ofString "_law_told") 720 (.ref 406),kE P (.ofString "_law_good") 726 (.ref 411),kE P (.ofString "_law_best") 737 (.ref 418),kE P (.ofString "_law_is_shown") 743 (.ref 423),kE P (.ofString "_law_orders") 749 (.ref 428),kE P (.ofString "law") 755 (.ref 433)] 74,#[]⟩)::
 (nat_lit 23,⟨(.type "dict"),none,.dict #[kE P (.ofString "__module__") 196 (.str (.ofString "kinnames.errors") 187),kE P (.ofString "__firstlineno__") 200 (.int (2) 199),kE P (.ofString "__static_attributes__") 201 (.ref 22),kE P (.ofString "__weakref__") 203 (.ref 25),kE P (.ofString "__doc__") 204 .none] 3,#[]⟩)::
 (nat_lit 24,⟨(.type "type"),none,.cls ⟨(.ofString "LikeError"),[(.type "ValueError")],[(.ref 24),(.type "ValueError"),(.type "Exception"),(.type "BaseException"),(.type "object")],23,(.ofString "LikeError"),true,[],[(.ref 37),(.ref 49),(.ref 61),(.ref 73),(.ref 85),(.ref 97),(.ref 109),(.ref 121)],false,none,false⟩,#[(some (.ref 15)),none,(some (.str (.ofString "LikeError") 189)),(some (.str (.ofString "LikeError") 197)),(some (.builtin "ValueError.__new__")),(some (.bool true))]⟩)::
 (nat_lit 25,⟨(.type "getset_descriptor"),none,.fields #[(.str (.ofString "__weakref__") 202),(.ref 24),(.builtin "ExceptionGroup.__weakref__"),.none],#[]⟩)::
 (nat_lit 36,⟨(.type "dict"),none,.dict #[kE P (.ofString "__module__") 214 (.str (.ofString "kinnames.errors") 187),kE P (.ofString "__firstlineno__") 218 (.int (4) 217),kE P (.ofString "__static_attributes__") 219 (.ref 35),kE P (.ofString "__doc__") 220 .none] 2,#[]⟩)::
 (nat_lit 37,⟨(.type "type"),none,.cls ⟨(.ofString "NoBook"),[(.ref 24)],[(.ref 37),(.ref 24),(.type "ValueError"),(.type "Exception"),(.type "BaseException"),(.type "object")],36,(.ofString "NoBook"),true,[],[],false,none,false⟩,#[(some (.ref 28)),none,(some (.str (.ofString "NoBook") 207)),(some (.str (.ofString "NoBook") 215)),(some (.builtin "ValueError.__new__")),(some (.bool true))]⟩)::
 (nat_lit 48,⟨(.type "dict"),none,.dict #[kE P (.ofString "__module__") 230 (.str (.ofString "kinnames.errors") 187),kE P (.ofString "__firstlineno__") 234 (.int (6) 233),kE P (.ofString "__static_attributes__") 235 (.ref 47),kE P (.ofString "__doc__") 236 .none] 2,#[]⟩)::
 (nat_lit 49,⟨(.type "type"),none,.cls ⟨(.ofString "NoOrder"),[(.ref 24)],[(.ref 49),(.ref 24),(.type "ValueError"),(.type "Exception"),(.type "BaseException"),(.type "object")],48,(.ofString "NoOrder"),true,[],[],false,none,false⟩,#[(some (.ref 40)),none,(some (.str (.ofString "NoOrder") 223)),(some (.str (.ofString "NoOrder") 231)),(some (.builtin "ValueError.__new__")),(some (.bool true))]⟩)::
 (nat_lit 60,⟨(.type "dict"),none,.dict #[kE P (.ofString "__module__") 246 (.str (.ofString "kinnames.errors") 187),kE P (.ofString "__firstlineno__") 250 (.int (8) 249),kE P (.ofString "__static_attributes__") 251 (.ref 59),kE P (.ofString "__doc__") 252 .none] 2,#[]⟩)::
 (nat_lit 61,⟨(.type "type"),none,.cls ⟨(.ofString "NoName"),[(.ref 24)],[(.ref 61),(.ref 24),(.type "ValueError"),(.type "Exception"),(.type "BaseException"),(.type "object")],60,(.ofString "NoName"),true,[],[],false,none,false⟩,#[(some (.ref 52)),none,(some (.str (.ofString "NoName") 239)),(some (.str (.ofString "NoName") 247)),(some (.builtin "ValueError.__new__")),(some (.bool true))]⟩)::
 (nat_lit 72,⟨(.type "dict"),none,.dict #[kE P (.ofString "__module__") 262 (.str (.ofString "kinnames.errors") 187),kE P (.ofString "__firstlineno__") 266 (.int (10) 265),kE P (.ofString "__static_attributes__") 267 (.ref 71),kE P (.ofString "__doc__") 268 .none] 2,#[]⟩)::
 (nat_lit 73,⟨(.type "type"),none,.cls ⟨(.ofString "NoWish"),[(.ref 24)],[(.ref 73),(.ref 24),(.type "ValueError"),(.type "Exception"),(.type "BaseException"),(.type "object")],72,(.ofString "NoWish"),true,[],[],false,none,false⟩,#[(some (.ref 64)),none,(some (.str (.ofString "NoWish") 255)),(some (.str (.ofString "NoWish") 263)),(some (.builtin "ValueError.__new__")),(some (.bool true))]⟩)::
 (nat_lit 84,⟨(.type "dict"),none,.dict #[kE P (.ofString "__module__") 278 (.str (.ofString "kinnames.errors") 187),kE P (.ofString "__firstlineno__") 282 (.int (12) 281),kE P (.ofString "__static_attributes__") 283 (.ref 83),kE P (.ofString "__doc__") 284 .none] 2,#[]⟩)::
 (nat_lit 85,⟨(.type "type"),none,.cls ⟨(.ofString "NoNumber"),[(.ref 24)],[(.ref 85),(.ref 24),(.type "ValueError"),(.type "Exception"),(.type "BaseException"),(.type "object")],84,(.ofString "NoNumber"),true,[],[],false,none,false⟩,#[(some (.ref 76)),none,(some (.str (.ofString "NoNumber") 271)),(some (.str (.ofString "NoNumber") 279)),(some (.builtin "ValueError.__new__")),(some (.bool true))]⟩)::
 (nat_lit 96,⟨(.type "dict"),none,.dict #[kE P (.ofString "__module__") 294 (.str (.ofString "kinnames.errors") 187),kE P (.ofString "__firstlineno__") 298 (.int (14) 297),kE P (.ofString "__static_attributes__") 299 (.ref 95),kE P (.ofString "__doc__") 300 .none] 2,#[]⟩)::
 (nat_lit 97,⟨(.type "type"),none,.cls ⟨(.ofString "NotMade"),[(.ref 24)],[(.ref 97),(.ref 24),(.type "ValueError"),(.type "Exception"),(.type "BaseException"),(.type "object")],96,(.ofString "NotMade"),true,[],[],false,none,false⟩,#[(some (.ref 88)),none,(some (.str (.ofString "NotMade") 287)),(some (.str (.ofString "NotMade") 295)),(some (.builtin "ValueError.__new__")),(some (.bool true))]⟩)::
 (nat_lit 108,⟨(.type "dict"),none,.dict #[kE P (.ofString "__module__") 310 (.str (.ofString "kinnames.errors") 187),kE P (.ofString "__firstlineno__") 314 (.int (16) 313),kE P (.ofString "__static_attributes__") 315 (.ref 107),kE P (.ofString "__doc__") 316 .none] 2,#[]⟩)::
 (nat_lit 109,⟨(.type "type"),none,.cls ⟨(.ofString "TooShort"),[(.ref 24)],[(.ref 109),(.ref 24),(.type "ValueError"),(.type "Exception"),(.type "BaseException"),(.type "object")],108,(.ofString "TooShort"),true,[],[],false,none,false⟩,#[(some (.ref 100)),none,(some (.str (.ofString "TooShort") 303)),(some (.str (.ofString "TooShort") 311)),(some (.builtin "ValueError.__new__")),(some (.bool true))]⟩)::
 (nat_lit 120,⟨(.type "dict"),none,.dict #[kE P (.ofString "__module__") 326 (.str (.ofString "kinnames.errors") 187),kE P (.ofString "__firstlineno__") 330 (.int (18) 329),kE P (.ofString "__static_attributes__") 331 (.ref 119),kE P (.ofString "__doc__") 332 .none] 2,#[]⟩)::
 (nat_lit 121,⟨(.type "type"),none,.cls ⟨(.ofString "Nothing"),[(.ref 24)],[(.ref 121),(.ref 24),(.type "ValueError"),(.type "Exception"),(.type "BaseException"),(.type "object")],120,(.ofString "Nothing"),true,[],[],false,none,false⟩,#[(some (.ref 112)),none,(some (.str (.ofString "Nothing") 319)),(some (.str (.ofString "Nothing") 327)),(some (.builtin "ValueError.__new__")),(some (.bool true))]⟩)::
 (nat_lit 127,⟨(.type "code"),none,.fields #[(.str (.ofString "is_name") 345),(.str (.ofString "is_name") 346),(.str (.ofString "/claim/cut.py") 347),(.int (25) 0),(.int (1) 0),(.int (0) 0),(.int (0) 0),(.int (3) 0),(.ref 124),(.bool true),(.int (181) 0),(.ref 125),.none,.none,.none,(.ref 126),(.int (348) 0),(.int (25) 0),(.str (.ofString "/claim/cut.py") 349)],#[]⟩)::
 (nat_lit 128,kD (top 15) "is_name" "kinnames.books" 335 127)::
 (nat_lit 132,⟨(.type "code"),none,.fields #[(.str (.ofString "is_book") 351),(.str (.ofString "is_book") 352),(.str (.ofString "/claim/cut.py") 353),(.int (29) 0),(.int (1) 0),(.int (0) 0),(.int (0) 0),(.int (3) 0),(.ref 129),(.bool true),(.int (181) 0),(.ref 130),.none,.none,.none,(.ref 131),(.int (354) 0),(.int (29) 0),(.str (.ofString "/claim/cut.py") 355)],#[]⟩)::
 (nat_lit 133,kD (top 16) "is_book" "kinnames.books" 335 132)::
 (nat_lit 139,kC "is_whole" 357 358 359 33 3 0 0 3 134 true 181 135 136 137 138 363 33 364)::
 (nat_lit 140,kD (top 17) "is_whole" "kinnames.books" 335 139)::
 (nat_lit 146,kC "is_order" 366 367 368 37 1 0 0 3 141 true 181 142 143 144 145 370 37 371)::
 (nat_lit 147,kD (top 18) "is_order" "kinnames.books" 335 146)::
 (nat_lit 151,⟨(.type "code"),none,.fields #[(.str (.ofString "is_rising") 373),(.str (.ofString "is_rising") 374),(.str (.ofString "/claim/cut.py") 375),(.int (39) 0),(.int (1) 0),(.int (0) 0),(.int (0) 0),(.int (3) 0),(.ref 148),(.bool true),(.int (181) 0),(.ref 149),.none,.none,.none,(.ref 150),(.int (376) 0),(.int (39) 0),(.str (.ofString "/claim/cut.py") 377)],#[]⟩)::
 (nat_lit 152,kD (top 19) "is_rising" "kinnames.books" 335 151)::
 (nat_lit 158,kC "need_book" 379 380 381 41 1 0 0 3 153 true 181 154 155 156 157 383 41 384)::
 (nat_lit 159,kD (top 20) "need_book" "kinnames.books" 335 158)::
 (nat_lit 165,kC "need_books" 386 387 388 44 1 0 0 3 160 true 181 161 162 163 164 391 44 392)::
 (nat_lit 166,kD (top 21) "need_books" "kinnames.books" 335 165)::
 (nat_lit 172,kC "need_order" 394 395 396 49 1 0 0 3 167 true 181 168 169 170 171 398 49 399)::
 (nat_lit 173,kD (top 22) "need_order" "kinnames.books" 335 172)::
 (nat_lit 179,kC "need_name" 401 402 403 52 1 0 0 3 174 true 181 175 176 177 178 405 52 406)::
 (nat_lit 180,kD (top 23) "need_name" "kinnames.books" 335 179)::
 (nat_lit 186,kC "end_of" 408 409 410 55 2 0 0 3 181 true 181 182 183 184 185 413 55 414)::
 (nat_lit 187,kD (top 24) "end_of" "kinnames.books" 335 186)::
 (nat_lit 191,⟨(.type "code"),none,.fields #[(.str (.ofString "ends_and_letters") 416),(.str (.ofString "ends_and_letters") 417),(.str (.ofString "/claim/cut.py") 418),(.int (57) 0),(.int (2) 0),(.int (0) 0),(.int (0) 0),(.int (3) 0),(.ref 188),(.bool true),(.int (181) 0),(.ref 189),.none,.none,.none,(.ref 190),(.int (419) 0),(.int (57) 0),(.str (.ofString "/claim/cut.py") 420)],#[]⟩)::
 (nat_lit 192,kD (top 25) "ends_and_letters" "kinnames.books" 335 191)::
 (nat_lit 198,kC "counted_rows" 422 423 424 59 2 0 0 3 193 true 181 194 195 196 197 432 59 433)::
 (nat_lit 199,kD (top 26) "counted_rows" "kinnames.books" 335 198)::
 (nat_lit 200,⟨(.type "tuple"),none,.seq #[(.int (0) 437),(.int (1) 438)] 0,#[]⟩)::
 (nat_lit 201,⟨(.type "tuple"),none,.seq #[(.int (1) 440),(.int (1) 441)] 0,#[]⟩)::
 (nat_lit 207,kC "greatest_divisor" 443 444 445 69 2 0 0 3 202 true 181 203 204 205 206 449 69 450)::
 (nat_lit 208,kD (top 30) "greatest_divisor" "kinnames.shares" 435 207)::
 (nat_lit 214,kC "lowest" 452 453 454 75 2 0 0 3 209 true 181 210 211 212 213 458 75 459)::
 (nat_lit 215,kD (top 31) "lowest" "kinnames.shares" 435 214)::
 (nat_lit 221,kC "times" 461 462 463 78 2 0 0 3 216 true 181 217 218 219 220 466 78 467)::
 (nat_lit 222,kD (top 32) "times" "kinnames.shares" 435 221)::
 (nat_lit 228,kC "is_less" 469 470 471 80 2 0 0 3 223 true 181 224 225 226 227 474 80 475)::
 (nat_lit 229,kD (top 33) "is_less" "kinnames.shares" 435 228)::
 (nat_lit 235,kC "place_of_greatest" 477 478 479 82 1 0 0 3 230 true 181 231 232 233 234 485 82 486)::
 (nat_lit 236,kD (top 34) "place_of_greatest" "kinnames.shares" 435 235)::
 (nat_lit 242,kC "part_in" 488 489 490 90 2 0 0 3 237 true 181 238 239 240 241 493 90 494)::
 (nat_lit 243,kD (top 35) "part_in" "kinnames.shares" 435 242)::
 (nat_lit 247,⟨(.type "code"),none,.fields #[(.str (.ofString "steps_by_rows") 496),(.str (.ofString "steps_by_rows") 497),(.str (.ofString "/claim/cut.py") 498),(.int (94) 0),(.int (3) 0),(.int (0) 0),(.int (0) 0),(.int (3) 0),(.ref 244),(.bool true),(.int (181) 0),(.ref 245),.none,.none,.none,(.ref 246),(.int (499) 0),(.int (94) 0),(.str (.ofString "/claim/cut.py") 500)],#[]⟩)::
 (nat_lit 248,kD (top 36) "steps_by_rows" "kinnames.shares" 435 247)::
 (nat_lit 254,kC "share_by_rows" 502 503 504 96 3 0 0 3 249 true 181 250 251 252 253 510 96 511)::
 (nat_lit 255,kD (top 37) "share_by_rows" "kinnames.shares" 435 254)::
 (nat_lit 261,kC "share" 513 514 515 101 3 0 0 3 256 true 181 257 258 259 260 519 101 520)::
 (nat_lit 262,kD (top 38) "share" "kinnames.shares" 435 261)::
 (nat_lit 268,kC "makes" 522 523 524 106 3 0 0 3 263 true 181 264 265 266 267 528 106 529)::
 (nat_lit 269,kD (top 39) "makes" "kinnames.shares" 435 268)::
 (nat_lit 273,⟨(.type "code"),none,.fields #[(.str (.ofString "makers") 533),(.str (.ofString "makers") 534),(.str (.ofString "/claim/cut.py") 535),(.int (109) 0),(.int (3) 0),(.int (0) 0),(.int (0) 0),(.int (3) 0),(.ref 270),(.bool true),(.int (181) 0),(.ref 271),.none,.none,.none,(.ref 272),(.int (536) 0),(.int (109) 0),(.str (.ofString "/claim/cut.py") 537)],#[]⟩)::
 (nat_lit 274,kD (top 41) "makers" "kinnames.supports" 531 273)::
 (nat_lit 278,⟨(.type "code"),none,.fields #[(.str (.ofString "best_maker") 539),(.str (.ofString "best_maker") 540),(.str (.ofString "/claim/cut.py") 541),(.int (114) 0),(.int (3) 0),(.int (0) 0),(.int (0) 0),(.int (3) 0),(.ref 275),(.bool true),(.int (181) 0),(.ref 276),.none,.none,.none,(.ref 277),(.int (542) 0),(.int (114) 0),(.str (.ofString "/claim/cut.py") 543)],#[]⟩)::
 (nat_lit 279,kD (top 42) "best_maker" "kinnames.supports" 531 278)::
 (nat_lit 285,kC "greatest_order" 545 546 547 119 2 0 0 3 280 true 181 281 282 283 284 551 119 552)::
 (nat_lit 286,kD (top 43) "greatest_order" "kinnames.supports" 531 285)::
 (nat_lit 290,⟨(.type "code"),none,.fields #[(.str (.ofString "places_with") 554),(.str (.ofString "places_with") 555),(.str (.ofString "/claim/cut.py") 556),(.int (126) 0),(.int (3) 0),(.int (0) 0),(.int (0) 0),(.int (3) 0),(.ref 287),(.bool true),(.int (181) 0),(.ref 288),.none,.none,.none,(.ref 289),(.int (557) 0),(.int (126) 0),(.str (.ofString "/claim/cut.py") 558)],#[]⟩)::
 (nat_lit 291,kD (top 44) "places_with" "kinnames.supports" 531 290)::
 (nat_lit 295,⟨(.type "code"),none,.fields #[(.str (.ofString "places_by_step") 560),(.str (.ofString "places_by_step") 561),(.str (.ofString "/claim/cut.py") 562),(.int (128) 0),(.int (3) 0),(.int (0) 0),(.int (0) 0),(.int (3) 0),(.ref 292),(.bool true),(.int (181) 0),(.ref 293),.none,.none,.none,(.ref 294),(.int (563) 0),(.int (128) 0),(.str (.ofString "/claim/cut.py") 564)],#[]⟩)::
 (nat_lit 296,kD (top 45) "places_by_step" "kinnames.supports" 531 295)::
 (nat_lit 300,⟨(.type "code"),none,.fields #[(.str (.ofString "any_has") 566),(.str (.ofString "any_has") 567),(.str (.ofString "/claim/cut.py") 568),(.int (130) 0),(.int (2) 0),(.int (0) 0),(.int (0) 0),(.int (3) 0),(.ref 297),(.bool true),(.int (181) 0),(.ref 298),.none,.none,.none,(.ref 299),(.int (569) 0),(.int (130) 0),(.str (.ofString "/claim/cut.py") 570)],#[]⟩)::
 (nat_lit 301,kD (top 46) "any_has" "kinnames.supports" 531 300)::
 (nat_lit 305,⟨(.type "code"),none,.fields #[(.str (.ofString "alone_make") 572),(.str (.ofString "alone_make") 573),(.str (.ofString "/claim/cut.py") 574),(.int (132) 0),(.int (2) 0),(.int (0) 0),(.int (0) 0),(.int (3) 0),(.ref 302),(.bool true),(.int (181) 0),(.ref 303),.none,.none,.none,(.ref 304),(.int (575) 0),(.int (132) 0),(.str (.ofString "/claim/cut.py") 576)],#[]⟩)::
 (nat_lit 306,kD (top 47) "alone_make" "kinnames.supports" 531 305)::
 (nat_lit 310,⟨(.type "code"),none,.fields #[(.str (.ofString "longer_lists") 578),(.str (.ofString "longer_lists") 579),(.str (.ofString "/claim/cut.py") 580),(.int (134) 0),(.int (2) 0),(.int (0) 0),(.int (0) 0),(.int (3) 0),(.ref 307),(.bool true),(.int (181) 0),(.ref 308),.none,.none,.none,(.ref 309),(.int (581) 0),(.int (134) 0),(.str (.ofString "/claim/cut.py") 582)],#[]⟩)::
 (nat_lit 311,kD (top 48) "longer_lists" "kinnames.supports" 531 310)::
 (nat_lit 317,kC "needed" 584 585 586 140 3 0 0 3 312 true 181 313 314 315 316 593 140 594)::
 (nat_lit 318,kD (top 49) "needed" "kinnames.supports" 531 317)::
 (nat_lit 322,⟨(.type "code"),none,.fields #[(.str (.ofString "is_list_of_places") 596),(.str (.ofString "is_list_of_places") 597),(.str (.ofString "/claim/cut.py") 598),(.int (152) 0),(.int (2) 0),(.int (0) 0),(.int (0) 0),(.int (3) 0),(.ref 319),(.bool true),(.int (181) 0),(.ref 320),.none,.none,.none,(.ref 321),(.int (599) 0),(.int (152) 0),(.str (.ofString "/claim/cut.py") 600)],#[]⟩)::
 (nat_lit 323,kD (top 50) "is_list_of_places" "kinnames.supports" 531 322)::
 (nat_lit 327,⟨(.type "code"),none,.fields #[(.str (.ofString "shows") 602),(.str (.ofString "shows") 603),(.str (.ofString "/claim/cut.py") 604),(.int (156) 0),(.int (4) 0),(.int (0) 0),(.int (0) 0),(.int (3) 0),(.ref 324),(.bool true),(.int (181) 0),(.ref 325),.none,.none,.none,(.ref 326),(.int (605) 0),(.int (156) 0),(.str (.ofString "/claim/cut.py") 606)],#[]⟩)::
 (nat_lit 328,kD (top 51) "shows" "kinnames.supports" 531 327)::
 (nat_lit 334,kC "_law_cell" 610 611 612 168 2 0 0 3 329 true 181 330 331 332 333 615 168 616)::
 (nat_lit 335,kD (top 53) "_law_cell" "law_kinnames_k50_makers" 608 334)::
 (nat_lit 341,kC "_law_drawn" 618 619 620 172 3 0 0 3 336 true 181 337 338 339 340 625 172 626)::
 (nat_lit 342,kD (top 54) "_law_drawn" "law_kinnames_k50_makers" 608 341)::
 (nat_lit 346,⟨(.type "code"),none,.fields #[(.str (.ofString "_law_name") 628),(.str (.ofString "_law_name") 629),(.str (.ofString "/claim/cut.py") 630),(.int (176) 0),(.int (3) 0),(.int (0) 0),(.int (0) 0),(.int (3) 0),(.ref 343),(.bool true),(.int (181) 0),(.ref 344),.none,.none,.none,(.ref 345),(.int (631) 0),(.int (176) 0),(.str (.ofString "/claim/cut.py") 632)],#[]⟩)::
 (nat_lit 347,kD (top 55) "_law_name" "law_kinnames_k50_makers" 608 346)::
 (nat_lit 353,kC "_law_book" 634 635 636 180 4 0 0 3 348 true 181 349 350 351 352 643 180 644)::
 (nat_lit 354,kD (top 56) "_law_book" "law_kinnames_k50_makers" 608 353)::
 (nat_lit 360,kC "_law_counts" 646 647 648 185 2 0 0 3 355 true 181 356 357 358 359 656 185 657)::
 (nat_lit 361,kD (top 57) "_law_counts" "law_kinnames_k50_makers" 608 360)::
 (nat_lit 367,kC "_law_row" 659 660 661 195 3 0 0 3 362 true 181 363 364 365 366 666 195 667)::
 (nat_lit 368,kD (top 58) "_law_row" "law_kinnames_k50_makers" 608 367)::
 (nat_lit 374,kC "_law_lowest" 669 670 671 198 2 0 0 3 369 true 181 370 371 372 373 676 198 677)::
 (nat_lit 375,kD (top 59) "_law_lowest" "law_kinnames_k50_makers" 608 374)::
 (nat_lit 379,⟨(.type "code"),none,.fields #[(.str (.ofString "_law_share") 679),(.str (.ofString "_law_share") 680),(.str (.ofString "/claim/cut.py") 681),(.int (204) 0),(.int (3) 0),(.int (0) 0),(.int (0) 0),(.int (3) 0),(.ref 376),(.bool true),(.int (181) 0),(.ref 377),.none,.none,.none,(.ref 378),(.int (682) 0),(.int (204) 0),(.str (.ofString "/claim/cut.py") 683)],#[]⟩)::
 (nat_lit 380,kD (top 60) "_law_share" "law_kinnames_k50_makers" 608 379)::
 (nat_lit 391,⟨(.type "code"),none,.fields #[(.str (.ofString "_law_made") 695),(.str (.ofString "_law_made") 696),(.str (.ofString "/claim/cut.py") 697),(.int (218) 0),(.int (3) 0),(.int (0) 0),(.int (0) 0),(.int (3) 0),(.ref 388),(.bool true),(.int (181) 0),(.ref 389),.none,.none,.none,(.ref 390),(.int (698) 0),(.int (218) 0),(.str (.ofString "/claim/cut.py") 699)],#[]⟩)::
 (nat_lit 392,kD (top 62) "_law_made" "law_kinnames_k50_makers" 608 391)::
 (nat_lit 398,kC "_law_refused" 701 702 703 230 1 0 0 3 393 true 181 394 395 396 397 706 230 707)::
 (nat_lit 399,kD (top 63) "_law_refused" "law_kinnames_k50_makers" 608 398)::
 (nat_lit 405,kC "_law_told" 709 710 711 237 5 0 0 3 400 true 181 401 402 403 404 718 237 719)::
 (nat_lit 406,kD (top 64) "_law_told" "law_kinnames_k50_makers" 608 405)::
 (nat_lit 410,⟨(.type "code"),none,.fields #[(.str (.ofString "_law_good") 721),(.str (.ofString "_law_good") 722),(.str (.ofString "/claim/cut.py") 723),(.int (246) 0),(.int (3) 0),(.int (0) 0),(.int (0) 0),(.int (3) 0),(.ref 407),(.bool true),(.int (181) 0),(.ref 408),.none,.none,.none,(.ref 409),(.int (724) 0),(.int (246) 0),(.str (.ofString "/claim/cut.py") 725)],#[]⟩)::
 (nat_lit 411,kD (top 65) "_law_good" "law_kinnames_k50_makers" 608 410)::
 (nat_lit 417,kC "_law_best" 727 728 729 252 2 0 0 3 412 true 181 413 414 415 416 735 252 736)::
 (nat_lit 418,kD (top 66) "_law_best" "law_kinnames_k50_makers" 608 417)::
 (nat_lit 422,⟨(.type "code"),none,.fields #[(.str (.ofString "_law_is_shown") 738),(.str (.ofString "_law_is_shown") 739),(.str (.ofString "/claim/cut.py") 740),(.int (259) 0),(.int (2) 0),(.int (0) 0),(.int (0) 0),(.int (3) 0),(.ref 419),(.bool true),(.int (181) 0),(.ref 420),.none,.none,.none,(.ref 421),(.int (741) 0),(.int (259) 0),(.str (.ofString "/claim/cut.py") 742)],#[]⟩)::
 (nat_lit 423,kD (top 67) "_law_is_shown" "law_kinnames_k50_makers" 608 422)::
 (nat_lit 427,⟨(.type "code"),none,.fields #[(.str (.ofString "_law_orders") 744),(.str (.ofString "_law_orders") 745),(.str (.ofString "/claim/cut.py") 746),(.int (263) 0),(.int (0) 0),(.int (0) 0),(.int (0) 0),(.int (3) 0),(.ref 424),(.bool true),(.int (181) 0),(.ref 425),.none,.none,.none,(.ref 426),(.int (747) 0),(.int (263) 0),(.str (.ofString "/claim/cut.py") 748)],#[]⟩)::
 (nat_lit 428,kD (top 68) "_law_orders" "law_kinnames_k50_makers" 608 427)::
 (nat_lit 432,⟨(.type "code"),none,.fields #[(.str (.ofString "law") 750),(.str (.ofString "law") 751),(.str (.ofString "/claim/cut.py") 752),(.int (266) 0),(.int (1) 0),(.int (0) 0),(.int (0) 0),(.int (3) 0),(.ref 429),(.bool true),(.int (181) 0),(.ref 430),.none,.none,.none,(.ref 431),(.int (753) 0),(.int (266) 0),(.str (.ofString "/claim/cut.py") 754)],#[]⟩)::
 (nat_lit 433,kD (top 69) "law" "law_kinnames_k50_makers" 608 432)::[]
def kas:List ai:=[2,3,23,24,25,36,37,48,49,60,61,72,73,84,85,96,97,108,109,120,121,127,128,132,133,139,140,146,147,151,152,158,159,165,166,172,173,179,180,186,187,191,192,198,199,200,201,207,208,214,215,221,222,228,229,235,236,242,243,247,248,254,255,261,262,268,269,273,274,278,279,285,286,290,291,295,296,300,301,305,306,310,311,317,318,322,323,327,328,334,335,341,342,346,347,353,354,360,361,367,368,374,375,379,380,391,392,398,399,405,406,410,411,417,418,422,423,427,428,432,433]
def kq:aP:=view bG [1,2,3,4,5,6,7,8,9,11,12,13,14,15,16,17,18,19,20,21,22,23,24,25,26,28,29,30,31,32,33,34,35,36,37,38,39,41,42,43,44,45,46,47,48,49,50,51,53,54,55,56,57,58,59,60,61,62,63,64,65,66,67,68,69]
def klo:List Str:=[]
theorem kas_e:∀P,kas=(kfr P).map (·.1):=fun _=>by kernel_rfl
noncomputable def hl0 (w:bc):=(openEndsT treeTable bG w 7030).map (fun s=>(seen ((recsOf kq).map (·.name)) (ownsOf kq) [] {s with gens:=#[]},s.heap.bltView))
noncomputable def hr0 (w:bc):=some (expectedOf kq,bltViewBooted)
theorem hl0_e:hl0=hl0:=rfl
theorem hr0_e:hr0=hr0:=rfl
noncomputable def hl1 (w:bc):=(openEndsT treeTable bG w 7030).map (fun s=>((s.heap.keysOk (looseW kq klo) ((recsOf kq).map (·.name)) ((litsOf kq).map (·.1)) ((clssOf kq (looseW kq klo)).map (·.name))&&s.heap.accountedOkI (importedModules bG.main.body)&&s.heap.isNs mainGlobals&&s.heap.isNs builtinsNs&&tablesOk kq s.heap&& (xlAt kq [] s&&recOk [] s)&& (if true=true then s.gens.size==0 else !leftWithCleanup s.gens))))
noncomputable def hr1 (w:bc):=some (true)
theorem hl1_e:hl1=hl1:=rfl
noncomputable def hl2 (w:bc):=(openEndsT treeTable bG w 7030).map (fun s=>(tabsOk kq s,pinSeenD kq (drecsOf kq) s,plainSeenE kq (looseW kq klo) s,plainSeenD kq klo s))
noncomputable def hr2 (w:bc):=some (true,pinGoodD (drecsOf kq),plainGoodE kq (looseW kq klo),plainGoodD kq klo)
theorem hl2_e:hl2=hl2:=rfl
theorem hr2_e:hr2=hr2:=rfl
noncomputable def hl3 (w:bc):=(openEndsT treeTable bG w 7030).map (fun s=>(wideSeen kq s,clsSeenW kq klo s))
noncomputable def hr3 (w:bc):=some (wideGood kq,clsGoodW kq klo)
theorem hl3_e:hl3=hl3:=rfl
theorem hr3_e:hr3=hr3:=rfl
noncomputable def hl4 (w:bc):=(openEndsT treeTable bG w 7030).map (fun s=>(kas.map s.heap.get?))
noncomputable def hr4 (w:bc):=some ((kfr w.params).map fun p=>some p.2)
theorem hl4_e:hl4=hl4:=rfl
theorem hr4_e:hr4=hr4:=rfl
end Kn
name_quick hl0Q for Kn.hl0 by Kn.hl0_e
name_quick hr0Q for Kn.hr0 by Kn.hr0_e
theorem Kn.hq0 (w:bc):PySem.W.Fast.hl0Q w=PySem.W.Fast.hr0Q w:=by kernel_rfl
theorem Kn.hx0 (w:bc):Kn.hl0 w=Kn.hr0 w:=((congrFun PySem.W.Fast.hl0Q_eq w).trans (Kn.hq0 w)).trans (congrFun PySem.W.Fast.hr0Q_eq w).symm
name_quick hl1Q for Kn.hl1 by Kn.hl1_e
theorem Kn.hq1 (w:bc):PySem.W.Fast.hl1Q w=Kn.hr1 w:=by kernel_rfl
theorem Kn.hx1 (w:bc):Kn.hl1 w=Kn.hr1 w:=(congrFun PySem.W.Fast.hl1Q_eq w).trans (Kn.hq1 w)
name_quick hl2Q for Kn.hl2 by Kn.hl2_e
name_quick hr2Q for Kn.hr2 by Kn.hr2_e
theorem Kn.hq2 (w:bc):PySem.W.Fast.hl2Q w=PySem.W.Fast.hr2Q w:=by kernel_rfl
theorem Kn.hx2 (w:bc):Kn.hl2 w=Kn.hr2 w:=((congrFun PySem.W.Fast.hl2Q_eq w).trans (Kn.hq2 w)).trans (congrFun PySem.W.Fast.hr2Q_eq w).symm
name_quick hl3Q for Kn.hl3 by Kn.hl3_e
name_quick hr3Q for Kn.hr3 by Kn.hr3_e
theorem Kn.hq3 (w:bc):PySem.W.Fast.hl3Q w=PySem.W.Fast.hr3Q w:=by kernel_rfl
theorem Kn.hx3 (w:bc):Kn.hl3 w=Kn.hr3 w:=((congrFun PySem.W.Fast.hl3Q_eq w).trans (Kn.hq3 w)).trans (congrFun PySem.W.Fast.hr3Q_eq w).symm
name_quick hl4Q for Kn.hl4 by Kn.hl4_e
name_quick hr4Q for Kn.hr4 by Kn.hr4_e
theorem Kn.hq4 (w:bc):PySem.W.Fast.hl4Q w=PySem.W.Fast.hr4Q w:=by kernel_rfl
theorem Kn.hx4 (w:bc):Kn.hl4 w=Kn.hr4 w:=((congrFun PySem.W.Fast.hl4Q_eq w).trans (Kn.hq4 w)).trans (congrFun PySem.W.Fast.hr4Q_eq w).symm
theorem Kn.hl:LeftO bG Kn.kq Kn.klo (fun s=>xlAt Kn.kq [] s&&recOk [] s) (Hook.obs (kHook Kn.kfr Kn.kas Kn.kas_e)) (Hook.val (kHook Kn.kfr Kn.kas Kn.kas_e)) 7030:=fun w=>by
 refine Kn.openMap_of ?_
 obtain⟨s,e,x0⟩:=ix.mp (Kn.hx0 w)
 have y1:=Kn.hx1 w
 unfold Kn.hl1 at y1
 rw[e]at y1
 have x1:=aw y1
 have y2:=Kn.hx2 w
 unfold Kn.hl2 at y2
 rw[e]at y2
 have x2:=aw y2
 have y3:=Kn.hx3 w
 unfold Kn.hl3 at y3
 rw[e]at y3
 have x3:=aw y3
 have y4:=Kn.hx4 w
 unfold Kn.hl4 at y4
 rw[e]at y4
 have x4:=aw y4
 obtain⟨a1,z0_0⟩:=eM x0
 have a2:=z0_0
 have a3:=x1
 obtain⟨a4,z2_0⟩:=eM x2
 obtain⟨a5,z2_1⟩:=eM z2_0
 obtain⟨a6,z2_2⟩:=eM z2_1
 have a7:=z2_2
 obtain⟨a8,z3_0⟩:=eM x3
 have a9:=z3_0
 have aK:=x4
 rw[e]
 exact congrArg some (fR (fR a1 (fR a2 (fR a3 (fR a4 (fR a5 (fR a6 (fR a7 (fR a8 a9)))))))) aK)
end
section
namespace L2
open PySem PySem.Spec PyProof.Rows
abbrev z0:=Sum Int Str
def kI:z0->ah->Bool
 | .inl k,v=>rD k v
 | .inr x,v=>iU x v
def zJw (w:bc):z0->Int
 | .inl k=>hashInt k
 | .inr x=>hashStr w x
theorem jB:∀{k:z0}{v:ah},kI k v=true->(∃i t,k=Sum.inl i/\v=Value.int i t)\/(∃x t,k=Sum.inr x/\v=Value.str x t)
 | .inl i,v,h=>by
  obtain⟨t,e⟩:=Value.isInt_shape (k:=i) (v:=v) h
  exact .inl ⟨i,t,rfl,e⟩
 | .inr x,v,h=>by
  obtain⟨t,e⟩:=mT (x:=x) (v:=v) h
  exact .inr ⟨x,t,rfl,e⟩
theorem zJx (i:Int)(t:Tok):kI (.inl i) (.int i t)=true:=by simp[kI,rD]
theorem zJy (x:Str)(t:Tok):kI (.inr x) (.str x t)=true:=by simp[kI,iU]
theorem zJz (a b:Int):decide ((Sum.inl a:z0)=Sum.inl b)=(a==b):=by
 by_cases e:a=b
 ·subst e;simp
 ·have h:¬(Sum.inl a:z0)=Sum.inl b:=fun q=>e (rE q)
  rw[decide_eq_false h]
  exact(beq_eq_false_iff_ne.mpr e).symm
theorem zKA (a b:Str):decide ((Sum.inr a:z0)=Sum.inr b)=decide (a=b):=by
 by_cases e:a=b
 ·subst e;simp
 ·have h:¬(Sum.inr a:z0)=Sum.inr b:=fun q=>e (oF q)
  rw[decide_eq_false h,decide_eq_false e]
theorem zKB (a:Int)(b:Str):decide ((Sum.inl a:z0)=Sum.inr b)=false:=decide_eq_false (fun q=>nomatch q)
theorem zKC (a:Str)(b:Int):decide ((Sum.inr a:z0)=Sum.inl b)=false:=decide_eq_false (fun q=>nomatch q)
def qL (prog:aP)(w:bc):pV prog w z0 where
 is:=kI
 hash:=zJw w
 inj:=fun v a b ha hb=>by
  rcases jB ha with⟨i,t,rfl,rfl⟩|⟨x,t,rfl,rfl⟩
  ·rcases jB hb with⟨j,u,rfl,e⟩|⟨y,u,rfl,e⟩
   ·injection e with e1 _;rw[e1]
   ·exact nomatch e
  ·rcases jB hb with⟨j,u,rfl,e⟩|⟨y,u,rfl,e⟩
   ·exact nomatch e
   ·injection e with e1 _;rw[e1]
 byValue:=fun k v h=>by
  rcases jB h with⟨i,t,rfl,rfl⟩|⟨x,t,rfl,rfl⟩<;>rfl
 pyHash:=fun hv h=>by
  rcases jB hv with⟨i,t,rfl,rfl⟩|⟨x,t,rfl,rfl⟩
  ·exact wpAny_pyHash_int h
  ·exact n5 h
 eqBool:=fun hu hv h=>by
  rcases jB hu with⟨i,t,rfl,rfl⟩|⟨x,t,rfl,rfl⟩
  ·rcases jB hv with⟨j,u,rfl,rfl⟩|⟨y,u,rfl,rfl⟩
   ·rw[zJz]at h;exact wpAny_eqBool_int h
   ·rw[zKB]at h;exact ng i t y u _ _ _ _ h
  ·rcases jB hv with⟨j,u,rfl,rfl⟩|⟨y,u,rfl,rfl⟩
   ·rw[zKC]at h;exact nh x t j u _ _ _ _ h
   ·rw[zKA]at h;exact n6 h
 «strs»:=fun k x t v h=>by
  rcases jB h with⟨i,u,rfl,e⟩|⟨y,u,rfl,e⟩
  ·exact nomatch e
  ·injection e with e1 _
   subst e1
   cases v<;>rfl
abbrev y7:=Sum Str Bool
def zFk:y7->ah->Bool
 | .inl x,v=>iU x v
 | .inr b,v=>v==Value.bool b
theorem kJ:∀{k:y7}{v:ah},zFk k v=true->(∃x t,k=Sum.inl x/\v=Value.str x t)\/(∃b,k=Sum.inr b/\v=Value.bool b)
 | .inl x,v,h=>by
  obtain⟨t,e⟩:=mT (x:=x) (v:=v) h
  exact .inl ⟨x,t,rfl,e⟩
 | .inr b,v,h=>.inr ⟨b,rfl,eq_of_beq h⟩
def tkH (w:bc):y7->Int
 | .inl x=>hashStr w x
 | .inr b=>reduceHash (if b then 1 else 0)
theorem zKD {prog:aP}{w:bc}{A:bU}{E:ah->au->Prop}{s:au}{b:Bool}{Q:Int->au->Prop}(h:Q (reduceHash (if b then 1 else 0)) {s with toks:=s.toks+1}) :
  wpAny (model prog w) A (pyHash (.bool b)) Q E s:=by
 refine PySem.W.pyHash_slot (T :="bool") rfl F.slot_bool_hash F.entry_int_hash (F.args_int_hash_1 _) (by decide) (.inl (by cases b<;>rfl)) ?_
 unfold dX.«int.__hash__»
 cases b
 ·wp_walk
  exact⟨_,_,rfl,h⟩
 ·wp_walk
  exact⟨_,_,rfl,h⟩
def gH (prog:aP)(w:bc):pV prog w y7 where
 is:=zFk
 hash:=tkH w
 inj:=fun v a b ha hb=>by
  rcases kJ ha with⟨x,t,rfl,rfl⟩|⟨c,rfl,rfl⟩
  ·rcases kJ hb with⟨y,u,rfl,e⟩|⟨d,rfl,e⟩
   ·injection e with e1 _;rw[e1]
   ·exact nomatch e
  ·rcases kJ hb with⟨y,u,rfl,e⟩|⟨d,rfl,e⟩
   ·exact nomatch e
   ·injection e with e1;rw[e1]
 byValue:=fun k v h=>by
  rcases kJ h with⟨x,t,rfl,rfl⟩|⟨c,rfl,rfl⟩<;>rfl
 pyHash:=fun hv h=>by
  rcases kJ hv with⟨x,t,rfl,rfl⟩|⟨c,rfl,rfl⟩
  ·exact n5 h
  ·exact zKD h
 eqBool:=fun hu hv h=>by
  rcases kJ hu with⟨x,t,rfl,rfl⟩|⟨c,rfl,rfl⟩
  ·rcases kJ hv with⟨y,u,rfl,rfl⟩|⟨d,rfl,rfl⟩
   ·have e:decide ((Sum.inl x:y7)=Sum.inl y)=decide (x=y):=by
     by_cases q:x=y
     ·subst q;simp
     ·rw[decide_eq_false q,decide_eq_false fun z=>q (rE z)]
    rw[e]at h;exact n6 h
   ·rw[decide_eq_false (fun q=>nomatch q)]at h;exact mU x t d _ _ _ _ h
  ·rcases kJ hv with⟨y,u,rfl,rfl⟩|⟨d,rfl,rfl⟩
   ·rw[decide_eq_false (fun q=>nomatch q)]at h;exact mV c y u _ _ _ _ h
   ·refine iW c d _ _ _ _ ?_
    have e:decide ((Sum.inr c:y7)=Sum.inr d)=(c==d):=by cases c<;>cases d<;>rfl
    rw[<-e];exact h
 «strs»:=fun k x t v h=>by
  rcases kJ h with⟨y,u,rfl,e⟩|⟨d,rfl,e⟩
  ·injection e with e1 _
   subst e1
   cases v<;>rfl
  ·exact nomatch e
theorem zKE (prog:aP)(w:bc)(k:z0)(v:ah):(qL prog w).is k v=kI k v:=rfl
theorem zKF (prog:aP)(w:bc)(i:Int)(t:Tok):(qL prog w).is (.inl i) (.int i t)=true:=zJx i t
theorem zKG (prog:aP)(w:bc)(x:Str)(t:Tok):(qL prog w).is (.inr x) (.str x t)=true:=zJy x t
inductive V where
 |non|bl (b:Bool)|int (i:Int)|str (x:Str)|byt (b:Array UInt8)|flt (b:UInt64)|ref (a:ai)|ty (n:String)
 deriving DecidableEq
def zW:V->ah->Prop
 | .non,u=>u=Value.none
 | .bl b,u=>u=Value.bool b
 | .int i,u=>∃t,u=Value.int i t
 | .str x,u=>∃t,u=Value.str x t
 | .byt b,u=>∃t,u=Value.bytes b t
 | .flt b,u=>∃t,u=Value.float b t
 | .ref a,u=>u=Value.ref a
 | .ty n,u=>u=Value.type n
abbrev zS:List V->List ah->Prop:=n9 zW
theorem zS.length {xs:List V}{us:List ah}(r:zS xs us):xs.length=us.length:=gw r
theorem zS.get:∀{xs:List V}{us:List ah}{i:Nat}{x:V},zS xs us->xs[i]?=some x->∃u,us[i]?=some u/\zW x u
 |_,_,_,_,.nil,e=>by simp at e
 |_,_,0,_,.cons r _,e=>by simp at e;subst e;exact⟨_,rfl,r⟩
 |_,_,i+1,x,.cons _ t,e=>by
  obtain⟨u,a,b⟩:=zS.get (i:=i) (x:=x) t (by simpa using e)
  exact⟨u,by simpa using a,b⟩
theorem zS.set {x:V}{u:ah}(r:zW x u):∀{xs:List V}{us:List ah} (i:Nat),zS xs us->zS (xs.set i x) (us.set i u)
 |_,_,_,.nil=>.nil
 |_,_,0,.cons _ t=>.cons r t
 |_,_,i+1,.cons q t=>.cons q (zS.set r i t)
theorem zS.append:∀{xs ys:List V}{us a:List ah},zS xs us->zS ys a->zS (xs++ys) (us++a)
 |_,_,_,_,.nil,s=>s
 |_,_,_,_,.cons r t,s=>.cons r (zS.append t s)
theorem zS.take:∀{xs:List V}{us:List ah} (n:Nat),zS xs us->zS (xs.take n) (us.take n)
 |_,_,0,_=>.nil
 |_,_,_+1,.nil=>.nil
 |_,_,n+1,.cons r t=>.cons r (zS.take n t)
theorem zS.drop:∀{xs:List V}{us:List ah} (n:Nat),zS xs us->zS (xs.drop n) (us.drop n)
 |_,_,0,r=>r
 |_,_,_+1,.nil=>.nil
 |_,_,n+1,.cons _ t=>zS.drop n t
def qU:Option V->Option ah->Prop
 |some v,some u=>zW v u
 |none,none=>True
 |_,_=>False
def KV {κ:Type}:List (κ×V)->List (κ×ah)->Prop:=n9 fun(p:κ×V) (q:κ×ah)=>p.1=q.1/\zW p.2 q.2
def kV:z0->V
 | .inl i=>.int i
 | .inr x=>.str x
def kK:y7->V
 | .inl x=>.str x
 | .inr b=>.bl b
inductive HO where
 |lst (xs:List V)
 |tup (xs:List V)
 |dK (kvs:List (z0×V))|dT (kvs:List (List y7×V))
 |set (S:Int->Bool) (n:Nat)
 |ins (C dx:ai) (fs:List (Str×V))
 |own (x:ai)
 |xd (fs:List (Str×V))
 |met (f x:ai)
 |rng (lo hi:Int)
 |frz (o:Obj) (u:HO)
 |tbl (ps:Array ah)
 |ext (φ:bK->Prop)
abbrev Hp:=ai->Option HO
def upd (H:Hp)(a:ai)(o:HO):Hp:=fun b=>if b=a then some o else H b
theorem zD {H:Hp}{a:ai}{o:HO}:upd H a o a=some o:=by unfold upd;rw[if_pos rfl]
theorem zN {H:Hp}{a b:ai}{o:HO}(h:b≠a):upd H a o b=H b:=by unfold upd;rw[if_neg h]
theorem zBK {H:Hp}{a b:ai}{o u:HO}(h:H a=some o)(h':H b=some u)(d:o≠u):a≠b:=by
 intro e;subst e;rw[h]at h';exact d (aw h')
theorem vJ {H:Hp}{a b:ai}{o:HO}(h:H a=some o)(h':H b=none):a≠b:=by
 intro e;subst e;rw[h]at h';cases h'
section
variable(P:aP)(w:bc)
def yZ (H:Hp)(h:bK)(a:ai):HO->Prop
 | .lst xs=>xs.length<=sizeLine/\∃(its:List ah) (n:Nat),zS xs its/\h.get? a=some {cls:=.type "list",data:=.seq its.toArray n}
 | .tup xs=>xs.length<=sizeLine/\∃its:List ah,zS xs its/\IsTup h a its.toArray
 | .dK kvs=>kvs.length<=sizeLine/\(a==sysModules)=false/\∃vs,KV kvs vs/\h.DictOf (qL P w) a vs
 | .dT kvs=>kvs.length<=sizeLine/\(a==sysModules)=false/\∃xs:List (List y7×ai×ah),
   n9 (fun(p:List y7×V) (q:List y7×ai×ah)=>p.1=q.1/\H q.2.1=some (.tup (p.1.map kK))/\zW p.2 q.2.2) kvs xs/\
   ∃o es ep,h.get? a=some o/\o.ExactDict/\o.data=.dict es ep/\es.toList=xs.map (entryOfKey (tupleKind (gH P w)))/\(xs.map (·.1)).Nodup
 | .set S n=>h.SetOf (intKind P w) a S n
 | .ins C dx fs=>H dx=some (.own a)/\fs.length<=1000/\dx≠a/\h.get? a=some (eU C dx)/\
   ∃mA,h.Ns1 dx mA/\(∀f,qU (fs.lookup f) (mA f))/\qw mA (fs.map (·.1))
 | .own _=>∃o,h.get? a=some o
 | .xd fs=>∃mA,h.Ns1 a mA/\∀f,qU (fs.lookup f) (mA f)
 | .rng lo hi=>∃t u v,h.get? a=some {cls:=.type "range",data:=.fields #[.int lo t,.int hi u,.int 1 v]}
 | .frz o u=>h.get? a=some o/\yZ H h a u
 | .tbl ps=>h.get? a=some {cls:=.none,data:=.fields ps}
 | .met f x=>h.get? a=some (kh (.ref f) (.ref x))
 | .ext φ=>φ h/\(∃o,h.get? a=some o)/\∀h1 h2:bK,φ h1->(∀o,h1.get? a=some o->h2.get? a=some o)->φ h2
def yB (H:Hp)(h:bK):Prop:=∀a o,H a=some o->yZ P w H h a o
end
section
variable{P:aP}{w:bc}{H H':Hp}{h h':bK}{a:ai}{o:HO}
theorem yZ.lt (x:yZ P w H h a o):a<h.objs.size:=by
 cases o with
 |lst xs=>obtain⟨_,_,_,_,e⟩:=x;exact aM e
 |tup xs=>obtain⟨_,_,_,p⟩:=x;exact p.lt
 |dK kvs=>obtain⟨_,_,_,_,o,_,_,e,_⟩:=x;exact aM e
 |dT kvs=>obtain⟨_,_,_,_,o,_,_,e,_⟩:=x;exact aM e
 |set S n=>obtain⟨o,_,_,_,e,_⟩:=x;exact aM e
 |ins C b fs=>obtain⟨_,_,_,e,_⟩:=x;exact aM e
 |own y=>obtain⟨_,e⟩:=x;exact aM e
 |xd fs=>obtain⟨_,⟨_,_,_,e,_⟩,_⟩:=x;exact aM e
 |rng lo hi=>obtain⟨_,_,_,e⟩:=x;exact aM e
 |frz c u=>obtain⟨e,_⟩:=x;exact aM e
 |tbl d=>exact aM (show h.get? a=some _ from x)
 |met f y=>exact aM (show h.get? a=some _ from x)
 |ext φ=>obtain⟨_,⟨_,e⟩,_⟩:=x;exact aM e
theorem Paired.mapP {α β:Type}{F G:α->β->Prop}:∀{c:List α}{d:List β},n9 F c d->(∀a b,F a b->G a b)->n9 G c d
 |_,_,.nil,_=>.nil
 |_,_,.cons r t,f=>.cons (f _ _ r) (Paired.mapP t f)
theorem yZ.stay (x:yZ P w H h a o)(k:∀b u,(b=a\/H b=some (.own a))->h.get? b=some u->h'.get? b=some u)
  (s:∀b,H b=some (.own a)->H' b=some (.own a)) (A:∀b xs,H b=some (.tup xs)->H' b=some (.tup xs)):yZ P w H' h' a o:=by
 induction o with
 |lst xs=>obtain⟨z,j,n,r,e⟩:=x;exact⟨z,j,n,r,k _ _ (.inl rfl) e⟩
 |tup xs=>obtain⟨z,j,r,g,e,c⟩:=x;exact⟨z,j,r,g,k _ _ (.inl rfl) e,c⟩
 |dK kvs=>obtain⟨z,y,vs,r,g,i,ep,e,c⟩:=x;exact⟨z,y,vs,r,g,i,ep,k _ _ (.inl rfl) e,c⟩
 |dT kvs=>
  obtain⟨z,y,xs,r,g,i,ep,e,c⟩:=x
  exact⟨z,y,xs,Paired.mapP r fun p q z=>⟨z.1,A _ _ z.2.1,z.2.2⟩,g,i,ep,k _ _ (.inl rfl) e,c⟩
 |set S n=>obtain⟨g,i,ep,t,e,c⟩:=x;exact⟨g,i,ep,t,k _ _ (.inl rfl) e,c⟩
 |ins C D fs=>
  obtain⟨d,z,ne,e,l,⟨od,i,ep,B,c⟩,r⟩:=x
  exact⟨s _ d,z,ne,k _ _ (.inl rfl) e,l,⟨od,i,ep,k _ _ (.inr d) B,c⟩,r⟩
 |own y=>obtain⟨g,e⟩:=x;exact⟨g,k _ _ (.inl rfl) e⟩
 |xd fs=>obtain⟨l,⟨od,i,ep,e,c⟩,r⟩:=x;exact⟨l,⟨od,i,ep,k _ _ (.inl rfl) e,c⟩,r⟩
 |rng lo hi=>obtain⟨t,u,v,e⟩:=x;exact⟨t,u,v,k _ _ (.inl rfl) e⟩
 |frz g u ih=>obtain⟨e,q⟩:=x;exact⟨k _ _ (.inl rfl) e,ih q⟩
 |tbl m=>
  have e:h.get? a=some {cls:=.none,data:=.fields m}:=x
  show h'.get? a=some {cls:=.none,data:=.fields m}
  exact k a _ (.inl rfl) e
 |met f y=>
  have e:h.get? a=some (kh (.ref f) (.ref y)):=x
  show h'.get? a=some (kh (.ref f) (.ref y))
  exact k a _ (.inl rfl) e
 |ext φ=>obtain⟨p,⟨o,e⟩,st⟩:=x;exact⟨st _ _ p fun o q=>k _ _ (.inl rfl) q,⟨o,k _ _ (.inl rfl) e⟩,st⟩
theorem yB.lt (x:yB P w H h)(e:H a=some o):a<h.objs.size:=(x a o e).lt
theorem yB.fresh (x:yB P w H h)(e:h.objs.size<=a):H a=none:=by
 cases q:H a with
 |none=>rfl
 |some u=>exact absurd (bw (x.lt q) e) (bO _)
theorem yB.kept (x:yB P w H h)(k:∀b u,h.get? b=some u->h'.get? b=some u):yB P w H h':=fun a o e=>
 (x a o e).stay (fun b u _ q=>k b u q) (fun _ q=>q) fun _ _ q=>q
theorem yB.laid (x:yB P w H h)(k:∀b u,h.get? b=some u->h'.get? b=some u)(g:h.objs.size<=a)(new:yZ P w (upd H a o) h' a o):yB P w (upd H a o) h':=fun b u e=>by
 have d:=x.fresh g
 by_cases f:b=a
 ·subst f;rw[zD]at e;cases e;exact new
 ·rw[zN f]at e
  exact(x b u e).stay (fun c v _ q=>k c v q) (fun c q=>by rw[zN (vJ q d)];exact q) fun c xs q=>by rw[zN (vJ q d)];exact q
end
def Rd (H:Hp)(a:ai)(u:HO):Prop:=H a=some u\/∃o,H a=some (.frz o u)
theorem Rd.ok {P:aP}{w:bc}{H:Hp}{h:bK}{a:ai}{u:HO}(r:Rd H a u)(x:yB P w H h):yZ P w H h a u:=by
 rcases r with r|⟨o,r⟩
 ·exact x a u r
 ·obtain⟨_,q⟩:=x a _ r
  exact q
def Mut:Option HO->Prop
 |some (.lst _)=>True
 |some (.dK _)=>True
 |some (.dT _)=>True
 |some (.set _ _)=>True
 |some (.ins _ _ _)=>True
 |some (.ext _)=>True
 |_=>False
section
variable{P:aP}{w:bc}{H:Hp}{h h':bK}{x e:ai}{o':HO}
theorem yB.write (ok:yB P w H h)(g:Mut (H x))(m:e=x\/H e=some (.own x))(k:∀b u,b≠e->h.get? b=some u->h'.get? b=some u)(l:∃u,h'.get? e=some u)
  (new:yZ P w (upd H x o') h' x o'):yB P w (upd H x o') h':=fun b u q=>by
 have d:∀c y,H c=some (.own y)->c≠x:=fun c y r z=>by subst z;rw[r]at g;exact g
 have f:∀c xs,H c=some (.tup xs)->c≠x:=fun c xs r z=>by subst z;rw[r]at g;exact g
 by_cases i:b=x
 ·subst i;rw[zD]at q;cases q;exact new
 ·rw[zN i]at q
  by_cases a:b=e
  ·have n:H b=some (.own x):=by
    rcases m with z|z
    ·exact absurd (a.trans z) i
    ·rw[a];exact z
   rw[q]at n;cases n
   obtain⟨v,o⟩:=l
   exact⟨v,by rw[a];exact o⟩
  ·refine(ok b u q).stay (fun c v j r=>k c v ?_ r) (fun c r=>by rw[zN (d c b r)];exact r) fun c xs r=>by rw[zN (f c xs r)];exact r
   rcases j with rfl|j
   ·exact a
   ·rintro rfl
    rcases m with z|z
    ·exact d c b j z
    ·rw[j]at z;cases z;exact i rfl
end
structure Un (fs ex:List ai) (H H':Hp) (h h':bK):Prop where
 keep:∀b o,h.get? b=some o->H b=none->b∉fs->b∉ex->h'.get? b=some o
 slot:∀b o,h.get? b=some o->H b=none->b∈fs->b∉ex->∃sl,h'.get? b=some {o with slots:=sl}
 free:∀b o,h.get? b=some o->H b=none->b∉ex->H' b=none
 there:∀b o,h.get? b=some o->b∉ex->∃o',h'.get? b=some o'
 tups:∀b xs,H b=some (.tup xs)->H' b=some (.tup xs)
 frzs:∀b o u,H b=some (.frz o u)->H' b=some (.frz o u)
 tbls:∀b ps,H b=some (.tbl ps)->∃more,H' b=some (.tbl (ps++more))
section
variable{fs fs' ex ex':List ai}{H H1 H2:Hp}{h h1 h2 h':bK}{a x e:ai}{o:HO}
theorem Un.any (u:Un fs ex H H1 h h1){b:ai}{c:Obj}(q:h.get? b=some c)(n:H b=none)(d:b∉ex):∃g,h1.get? b=some {c with slots:=g}:=by
 by_cases f:b∈fs
 ·exact u.slot b c q n f d
 ·exact⟨c.slots,u.keep b c q n f d⟩
theorem Un.kept (k:∀b u,h.get? b=some u->h'.get? b=some u):Un fs ex H H h h' :=
 ⟨fun b c q _ _ _=>k b c q,fun b c q _ _ _=>⟨c.slots,k b c q⟩,fun _ _ _ n _=>n,fun b c q _=>⟨c,k b c q⟩,fun _ _ q=>q,fun _ _ _ q=>q,fun _ d q=>⟨#[],by rw[q];simp⟩⟩
theorem Un.refl:Un fs ex H H h h:=Un.kept fun _ _ q=>q
theorem Un.laid (k:∀b u,h.get? b=some u->h'.get? b=some u)(d:h.objs.size<=a)(c:H a=none):Un fs ex H (upd H a o) h h' where
 keep:=fun b u q _ _ _=>k b u q
 slot:=fun b u q _ _ _=>⟨u.slots,k b u q⟩
 free:=fun b u q n _=>by rw[zN (bH (bw (aM q) d))];exact n
 there:=fun b u q _=>⟨u,k b u q⟩
 tups:=fun b xs q=>by rw[zN (vJ q c)];exact q
 frzs:=fun b u xs q=>by rw[zN (vJ q c)];exact q
 tbls:=fun b f q=>⟨#[],by rw[zN (vJ q c),q];simp⟩
theorem Un.write (d:Mut (H x))(l:e=x\/H e=some (.own x))(k:∀b u,b≠e->h.get? b=some u->h'.get? b=some u)(f:∃u,h'.get? e=some u):Un fs ex H (upd H x o) h h':=by
 have i:∀b,H b=none->b≠x:=fun b n z=>by subst z;rw[n]at d;exact d
 have j:∀b,H b=none->b≠e:=fun b n z=>by
  subst z
  rcases l with r|r
  ·exact i b n r
  ·rw[n]at r;cases r
 have g:∀b u,H b=some u->¬Mut (some u)->b≠x:=fun b u q nm z=>by subst z;rw[q]at d;exact nm d
 refine⟨fun b u q n _ _=>k b u (j b n) q,fun b u q n _ _=>⟨u.slots,k b u (j b n) q⟩,fun b u q n _=>by rw[zN (i b n)];exact n,fun b u q _=>?_,
  fun b xs q=>by rw[zN (g b _ q fun z=>z)];exact q,fun b u xs q=>by rw[zN (g b _ q fun z=>z)];exact q,fun b m q=>⟨#[],by rw[zN (g b _ q fun z=>z),q];simp⟩⟩
 by_cases c:b=e
 ·subst c;exact f
 ·exact⟨u,k b u c q⟩
end
def trk (h:bK)(H:Hp):List ai:=(bg h.objs.size).filter fun a=>(H a).isSome
def kL (h:bK)(H:Hp):bK:=ia h (trk h H)
theorem zKH (h:bK)(H:Hp):(kL h H).objs.size=h.objs.size:=PySem.W.hideAll_size _ _
theorem zKI {h:bK}{H:Hp}{b:ai}{o:Obj}(e:h.get? b=some o)(n:H b=none):(kL h H).get? b=some o :=
 gk _ e fun a=>by
  have q:(H b).isSome=true:=(bF.mp a).2
  rw[n]at q;simp at q
theorem zKJ {h:bK}{H:Hp}{b:ai}{o:Obj}(e:(kL h H).get? b=some o):h.get? b=some o/\H b=none:=by
 have a:h.get? b=some o:=js (trk h H) e
 refine⟨a,?_⟩
 cases q:H b with
 |none=>rfl
 |some x=>
  have c:b∈trk h H:=bF.mpr ⟨bR.mpr (aM a),by simp[q]⟩
  have z:(kL h H).get? b=none:=PySem.W.hideAll_none (trk h H) c
  rw[z]at e;cases e
def zKK (g h:bK)(L:ai):List (ai×Obj):=(bg h.objs.size).filterMap fun a=>if a=L\/(g.get? a).isSome=true then none else(h.get? a).map fun o=>(a,o)
def uZ (g h:bK)(L d:ai):List (ai×Obj):=(zKK g h L).filter fun p=>decide (p.1≠d)
structure Mod (K:ae) (mg:Str->Option ah) (base:bK):Prop where
 kin:K.In base
 glob:base.Ns mainGlobals mg
 blt:∃mb,base.Ns builtinsNs mb/\∀x:Str,x≠"__name__"->mb x=bootBuiltins x
 nolimit:base.NoLimit
structure Cx where
 prog:aP
 w:bc
 K:ae
 mg:Str->Option ah
 base:bK
 A:bU
 N:List Str
 s₀:au
 H₀:Hp
 env:Env
 outer:List Env
 stack:List Env
 ex:List ai
 fn:Str->Bool
 calm:Bool
 pn:List (ai×Obj)
 xe:ah->au->Prop
def yW (l:List Env):List ai:=l.filterMap (·.frame)
abbrev Cx.fs (X:Cx):List ai:=yW X.outer
def Vis (sc:dS)(x:Str):Prop:=sc.names.lookup x=some .local\/sc.names.lookup x=some .cell\/sc.names.lookup x=some .free
def Loc (sc:dS)(x:Str):Prop:=sc.names.lookup x=some .local\/sc.names.lookup x=some .cell
def zKL (env:Env)(h:bK)(m:Str->Option ah)(x:Str)(u:ah):Prop :=
 (env.kindOf x=some .local/\m x=some u)\/((env.kindOf x=some .cell\/env.kindOf x=some .free)/\∃c,env.cells.lookup x=some c/\h.IsCell c (some u))
structure Cx.Ok (X:Cx):Prop where
 mod:Mod X.K X.mg X.base
 kind:X.env.scope.kind=.function
 glob:X.env.globals=mainGlobals
 blt:X.env.builtins=builtinsNs
 above:X.s₀.heap.objs.size<=X.env.locals
 inj:∀x y c,X.env.cells.lookup x=some c->X.env.cells.lookup y=some c->x=y
 has:∀x,(X.env.kindOf x=some .cell\/X.env.kindOf x=some .free)->∃c,X.env.cells.lookup x=some c
 cab:∀x c,X.fn x=true->X.env.cells.lookup x=some c->X.s₀.heap.objs.size<=c
 hd:X.calm=true->X.A.handled=none
 frames:X.A.frames=some X.stack
 stk:X.stack=X.outer\/(X.stack=X.env::X.outer/\X.env.frame=some X.env.locals)
 exf:∀b∈X.ex,b≠X.env.locals/\∀x c,X.env.cells.lookup x=some c->c≠b
 bs:∀b o,X.base.get? b=some o->X.s₀.heap.get? b=some o/\X.H₀ b=none
 bsz:X.base.objs.size<=X.s₀.heap.objs.size
 noex:∀b o,X.base.get? b=some o->b∉X.ex
 exfs:∀b∈X.ex,b∉X.fs
 funs:X.s₀.heap.FunFrames X.base X.outer
 frf:∀b∈X.fs,X.H₀ b=none
structure Inv (X:Cx) (pins:List (ai×Obj)) (σ:List (Option V)) (H:Hp) (s:au):Prop where
 ok:X.Ok
 os:s.os=X.s₀.os
 bare:jk s.gens
 base:Un X.fs X.ex X.H₀ H X.s₀.heap s.heap
 loc:∃m,s.heap.Ns X.env.locals m/\∀(i:Nat) (x:Str) (v:V),X.N[i]?=some x->σ[i]?=some (some v)->Vis X.env.scope x->∃u,zW v u/\zKL X.env s.heap m x u
 cell:∀x c,X.env.cells.lookup x=some c->∃v,s.heap.IsCell c v
 free:H X.env.locals=none
 freeC:∀x c,X.env.cells.lookup x=some c->H c=none
 pin:∀p∈X.pn++pins,s.heap.get? p.1=some p.2/\H p.1=none/\p.1≠X.env.locals/\p.1∉X.fs/\∀v,p.2.data≠.cell v
 hok:yB X.prog X.w H s.heap
 len:σ.length=X.N.length
section
variable{X:Cx}{pins:List (ai×Obj)}{σ:List (Option V)}{H H':Hp}{s:au}{h':bK}
theorem Cx.Ok.nofr (ok:X.Ok){b:ai}{o:Obj}(e:X.base.get? b=some o):b∉X.fs:=fun a=>by
 have:=(ok.funs.mem a).1
 rw[e]at this;cases this
theorem Inv.bs (I:Inv X pins σ H s):∀b o,X.base.get? b=some o->s.heap.get? b=some o/\H b=none:=fun b o e=>
 ⟨I.base.keep b o (I.ok.bs b o e).1 (I.ok.bs b o e).2 (I.ok.nofr e) (I.ok.noex b o e),I.base.free b o (I.ok.bs b o e).1 (I.ok.bs b o e).2 (I.ok.noex b o e)⟩
theorem Inv.bk (I:Inv X pins σ H s):∀b o,X.base.get? b=some o->s.heap.get? b=some o:=fun b o e=>(I.bs b o e).1
theorem Inv.mod (I:Inv X pins σ H s):Mod X.K X.mg X.base:=I.ok.mod
theorem Inv.kIn (I:Inv X pins σ H s):X.K.In s.heap:=I.ok.mod.kin.keeps I.bk
theorem Inv.nolimit (I:Inv X pins σ H s):s.heap.NoLimit:=I.ok.mod.nolimit.keeps I.bk
theorem Inv.fr (I:Inv X pins σ H s):∃m,Fr X.base X.env.locals s.heap m :=
 let⟨m,a,_⟩:=I.loc
 ⟨m,a,I.bk,b8 I.ok.bsz I.ok.above⟩
theorem Inv.lt (I:Inv X pins σ H s):X.env.locals<s.heap.objs.size:=let⟨_,a,_⟩:=I.loc;a.lt
theorem Inv.sz (I:Inv X pins σ H s):X.s₀.heap.objs.size<=s.heap.objs.size:=b8 I.ok.above (jl I.lt)
theorem Inv.nofs (I:Inv X pins σ H s){a:ai}(h:s.heap.objs.size<=a):a∉X.fs:=fun b=>by
 obtain⟨_,o,c,_⟩:=I.ok.funs.mem b
 exact absurd (bw (aM c) (b8 I.sz h)) (bO _)
theorem Inv.cne (I:Inv X pins σ H s):∀x c,X.env.cells.lookup x=some c->c≠X.env.locals:=fun x c e z=>by
 obtain⟨v,o,d,hd⟩:=I.cell x c e
 obtain⟨m,⟨f,g,ep,a,b,_⟩,_⟩:=I.loc
 rw[z,a]at d;cases d;rw[b]at hd;cases hd
theorem Inv.funs (I:Inv X pins σ H s):s.heap.FunFrames X.base X.outer:=by
 have all:∀(l:List Env),(∀b∈yW l,b∈X.fs)->X.s₀.heap.FunFrames X.base l->s.heap.FunFrames X.base l:=by
  intro l
  induction l with
  |nil=>intro _ _;trivial
  |cons env r ih=>
   intro f hl
   obtain⟨g,⟨L,o,a,h,i,hd⟩,j⟩:=hl
   have c:L∈X.fs:=f L (by unfold yW;rw[gp,a];exact ar)
   obtain⟨m,e⟩:=I.base.slot L o i (I.ok.frf L c) c fun z=>I.ok.exfs L z c
   exact⟨g,⟨L,_,a,h,e,hd⟩,ih (fun b d=>f b (by unfold yW;rw[gp,a];exact aG _ d)) j⟩
 exact all X.outer (fun _ d=>d) I.ok.funs
theorem Inv.stack (I:Inv X pins σ H s):s.heap.FunFrames X.base X.stack:=by
 rcases I.ok.stk with e|⟨e,a⟩
 ·rw[e];exact I.funs
 ·rw[e]
  obtain⟨m,b,_⟩:=I.loc
  refine .cons (by rw[I.ok.kind];decide) a b ?_ I.funs
  exact Heap.get?_none_of_le (b8 I.ok.bsz I.ok.above)
theorem Inv.stkSub (I:Inv X pins σ H s):∀b∈yW X.stack,b∈X.env.locals::X.fs:=fun b a=>by
 rcases I.ok.stk with e|⟨e,c⟩
 ·rw[e]at a;exact aG _ a
 ·rw[e]at a
  unfold yW at a
  rw[gp,c]at a
  exact a
theorem Inv.stkFree (I:Inv X pins σ H s):∀b∈yW X.stack,H b=none:=fun b a=>by
 rcases aQ.mp (I.stkSub b a)with e|a
 ·rw[e];exact I.free
 ·obtain⟨_,o,c,_⟩:=I.ok.funs.mem a
  exact I.base.free b o c (I.ok.frf b a) fun z=>I.ok.exfs b z a
theorem Inv.step {g':Array o5}{t':Nat}{d':Drawn}{ch:List ai}(I:Inv X pins σ H s)
  (f:∀b∈ch,(b∈X.ex\/X.s₀.heap.objs.size<=b)/\b≠X.env.locals/\(∀x c,X.env.cells.lookup x=some c->c≠b)/\∀p∈X.pn++pins,p.1≠b)
  (keep:∀b o,b≠X.env.locals->b∉X.fs->b∉ch->s.heap.get? b=some o->H b=none->h'.get? b=some o)
  (slot:∀b o,b≠X.env.locals->b∈X.fs->b∉ch->s.heap.get? b=some o->H b=none->∃F,h'.get? b=some {o with slots:=F}) (free:∀b o,b∉ch->s.heap.get? b=some o->H b=none->H' b=none)
  (there:∀b o,b∉ch->s.heap.get? b=some o->∃B,h'.get? b=some B)
  (tups:∀b xs,H b=some (.tup xs)->H' b=some (.tup xs)) (frzs:∀b o u,H b=some (.frz o u)->H' b=some (.frz o u)) (tbls:∀b E,H b=some (.tbl E)->∃more,H' b=some (.tbl (E++more)))
  (ns:∀m,s.heap.Ns X.env.locals m->h'.Ns X.env.locals m) (hok:yB X.prog X.w H' h') (N:jk g') :
  Inv X pins σ H' {s with heap:=h',gens:=g',drawn:=d',toks:=t'}:=by
 have C:∀b o,X.s₀.heap.get? b=some o->b≠X.env.locals:=fun b o e=>bH (bw (aM e) I.ok.above)
 have j:∀b o,X.s₀.heap.get? b=some o->b∉X.ex->b∉ch:=fun b o e a y=>by
  rcases(f b y).1 with z|z
  ·exact a z
  ·exact absurd (bw (aM e) z) (bO _)
 have g:∀x c,X.env.cells.lookup x=some c->∀v,s.heap.IsCell c v->h'.IsCell c v:=fun x c e v ⟨o,A,hd⟩=>by
  have h:c∉ch:=fun z=>(f c z).2.2.1 x c e rfl
  by_cases J:c∈X.fs
  ·obtain⟨F,q⟩:=slot c o (I.cne x c e) J h A (I.freeC x c e)
   exact⟨_,q,hd⟩
  ·exact⟨o,keep c o (I.cne x c e) J h A (I.freeC x c e),hd⟩
 refine⟨I.ok,I.os,N,⟨fun b o e n y a=>?_,fun b o e n y a=>?_,fun b o e n a=>?_,fun b o e a=>?_,fun b xs e=>tups b xs (I.base.tups b xs e),fun b o xs e=>frzs b o xs (I.base.frzs b o xs e),fun b E e=>?_⟩,?_,fun x c e=>?_,?_,fun x c e=>?_,fun p L=>?_,hok,I.len⟩
 ·exact keep b o (C b o e) y (j b o e a) (I.base.keep b o e n y a) (I.base.free b o e n a)
 ·obtain⟨F,t⟩:=I.base.slot b o e n y a
  obtain⟨G,D⟩:=slot b _ (C b o e) y (j b o e a) t (I.base.free b o e n a)
  exact⟨G,D⟩
 ·obtain⟨B,t⟩:=I.base.there b o e a
  exact free b B (j b o e a) t (I.base.free b o e n a)
 ·obtain⟨B,t⟩:=I.base.there b o e a
  exact there b B (j b o e a) t
 ·obtain⟨O,t⟩:=I.base.tbls b E e
  obtain⟨P,D⟩:=tbls b _ t
  exact⟨O++P,by rw[D,nj]⟩
 ·obtain⟨m,Q,hl⟩:=I.loc
  refine⟨m,ns m Q,fun i x v t D R=>?_⟩
  obtain⟨u,r,l⟩:=hl i x v t D R
  refine⟨u,r,?_⟩
  rcases l with l|⟨k,c,e,z⟩
  ·exact .inl l
  ·exact .inr ⟨k,c,e,g x c e _ z⟩
 ·obtain⟨v,z⟩:=I.cell x c e
  exact⟨v,g x c e v z⟩
 ·obtain⟨m,⟨o,_,_,A,_⟩,_⟩:=I.loc
  exact free _ o (fun z=>(f _ z).2.1 rfl) A I.free
 ·obtain⟨v,o,A,hd⟩:=I.cell x c e
  exact free c o (fun z=>(f c z).2.2.1 x c e rfl) A (I.freeC x c e)
 ·obtain⟨e,n,ne,M,d⟩:=I.pin p L
  have h:p.1∉ch:=fun z=>(f p.1 z).2.2.2 p L rfl
  exact⟨keep p.1 p.2 ne M h e n,free p.1 p.2 h e n,ne,M,d⟩
theorem Inv.un {t':Nat}(I:Inv X pins σ H s)(u:Un X.fs [] H H' s.heap h')(hok:yB X.prog X.w H' h'):Inv X pins σ H' {s with heap:=h',toks:=t'}:=by
 obtain⟨m,⟨o,l,ep,g,r⟩,_⟩:=id I.loc
 obtain⟨p,h⟩:=u.any g I.free (by simp)
 exact I.step (g':=s.gens) (d':=s.drawn) (ch:=[]) (fun _ z=>nomatch z) (fun b o _ c _ e n=>u.keep b o e n c (by simp)) (fun b o _ c _ e n=>u.slot b o e n c (by simp)) (fun b o _ e n=>u.free b o e n (by simp)) (fun b o _ e=>u.there b o e (by simp)) u.tups u.frzs u.tbls (fun q i=>by
  obtain⟨t,d,f,a,j⟩:=i
  rw[g]at a;cases a
  exact⟨_,d,f,h,j⟩) hok I.bare
theorem Inv.call {g':Array o5}{t':Nat}{d':Drawn}{ch:List ai}(I:Inv X pins σ H s)(u:Un (yW X.stack) ch H H' s.heap h')(hok:yB X.prog X.w H' h')(l:jk g')
  (d:∀b∈ch,(b∈X.ex\/X.s₀.heap.objs.size<=b)/\b≠X.env.locals/\(∀x c,X.env.cells.lookup x=some c->c≠b)/\∀p∈X.pn++pins,p.1≠b) :
  Inv X pins σ H' {s with heap:=h',gens:=g',drawn:=d',toks:=t'}:=by
 obtain⟨m,⟨o,y,ep,j,r⟩,_⟩:=id I.loc
 obtain⟨A,g⟩:=u.any j I.free fun z=>(d _ z).2.1 rfl
 exact I.step (ch:=ch) d (fun b o g q a e n=>u.keep b o e n (fun z=>(aQ.mp (I.stkSub b z)).elim g q) a) (fun b o _ _ a e n=>u.any e n a) (fun b o a e n=>u.free b o e n a) (fun b o a e=>u.there b o e a) u.tups u.frzs u.tbls (fun B t=>by
  obtain⟨C,h,i,f,v⟩:=t
  rw[j]at f;cases f
  exact⟨_,h,i,g,v⟩) hok l
theorem Inv.turned {t':Nat}{it:ai}(I:Inv X pins σ H s)(k:∀b o,b≠it->s.heap.get? b=some o->h'.get? b=some o)(g:H it=none)(f:it≠X.env.locals)
  (h:it∈X.ex\/X.s₀.heap.objs.size<=it) (i:∀x c,X.env.cells.lookup x=some c->c≠it) (j:∀p∈X.pn++pins,p.1≠it):Inv X pins σ H {s with heap:=h',toks:=t'}:=by
 have d:∀b u,H b=some u->b≠it:=fun b u e z=>by rw[z,g]at e;cases e
 refine I.step (g':=s.gens) (d':=s.drawn) (ch:=[it]) (fun b l=>?_) (fun b o _ _ a e _=>k b o (fun z=>a (by simp[z])) e) (fun b o _ _ a e _=>⟨o.slots,k b o (fun z=>a (by simp[z])) e⟩) (fun _ _ _ _ n=>n)
  (fun b o a e=>⟨o,k b o (fun z=>a (by simp[z])) e⟩) (fun _ _ e=>e) (fun _ _ _ e=>e) (fun b A e=>⟨#[],by rw[e];simp⟩) (fun m t=>?_) (fun b u e=>?_) I.bare
 ·have e:b=it:=by simpa using l
  subst e
  exact⟨h,f,i,j⟩
 ·obtain⟨o,w,ep,y,r⟩:=t
  exact⟨o,w,ep,k _ o (d9 f) y,r⟩
 ·refine(I.hok b u e).stay (fun c v a q=>k c v ?_ q) (fun _ q=>q) fun _ _ q=>q
  rcases a with z|z
  ·rw[z];exact d b u e
  ·exact d c _ z
theorem Inv.tok (I:Inv X pins σ H s)(t:Nat):Inv X pins σ H {s with toks:=t}:=I.un (h':=s.heap) (t':=t) Un.refl I.hok
theorem Inv.kept {t':Nat}(I:Inv X pins σ H s)(k:∀b u,s.heap.get? b=some u->h'.get? b=some u):Inv X pins σ H {s with heap:=h',toks:=t'}:=I.un (Un.kept k) (I.hok.kept k)
theorem Inv.laid {a:ai}{o:HO}{t':Nat}(I:Inv X pins σ H s)(k:∀b u,s.heap.get? b=some u->h'.get? b=some u)(c:s.heap.objs.size<=a)(new:yZ X.prog X.w (upd H a o) h' a o) :
  Inv X pins σ (upd H a o) {s with heap:=h',toks:=t'}:=I.un (Un.laid k c (I.hok.fresh c)) (I.hok.laid k c new)
theorem Inv.write {x e:ai}{o:HO}{t':Nat}(I:Inv X pins σ H s)(c:Mut (H x))(d:e=x\/H e=some (.own x))(k:∀b u,b≠e->s.heap.get? b=some u->h'.get? b=some u)(a:∃u,h'.get? e=some u)
  (new:yZ X.prog X.w (upd H x o) h' x o):Inv X pins σ (upd H x o) {s with heap:=h',toks:=t'}:=I.un (Un.write c d k a) (I.hok.write c d k a new)
theorem Inv.weak {a:List (Option V)}(I:Inv X pins σ H s)(hl:a.length=σ.length)(w:∀(i:Nat) v,a[i]?=some (some v)->σ[i]?=some (some v)):Inv X pins a H s :=
 ⟨I.ok,I.os,I.bare,I.base,let⟨m,c,b⟩:=I.loc;⟨m,c,fun i x v d e f=>b i x v d (w i v e) f⟩,I.cell,I.free,I.freeC,I.pin,I.hok,hl.trans I.len⟩
theorem Inv.pins_of {pins':List (ai×Obj)}(I:Inv X pins σ H s)(h:∀p∈pins',s.heap.get? p.1=some p.2/\H p.1=none/\p.1≠X.env.locals/\p.1∉X.fs/\∀v,p.2.data≠.cell v):Inv X pins' σ H s :=
 ⟨I.ok,I.os,I.bare,I.base,I.loc,I.cell,I.free,I.freeC,fun p a=>(bP.mp a).elim (fun z=>I.pin p (bS _ z)) (h p),I.hok,I.len⟩
theorem zFl {N:List Str}(c:N.Nodup){i j:Nat}{x:Str}(a:N[i]?=some x)(b:N[j]?=some x):i=j:=by
 obtain⟨f,d⟩:=aa.mp a
 obtain⟨g,e⟩:=aa.mp b
 exact(fh c).mp (d.trans e.symm)
theorem zKM {M:nF}{A:bU}{E:ah->au->Prop}{i:Nat}{x:Str}{v:V}{u:ah}{Q:Unit->au->Prop}(I:Inv X pins σ H s)(hN:X.N.Nodup)(hi:X.N[i]?=some x)(B:Loc X.env.scope x)(r:zW v u)
  (h:∀s',Inv X pins (σ.set i (some v)) H s'->(∃a,jm a s.heap s'.heap/\(a=X.env.locals\/X.env.cells.lookup x=some a))->Q () s') (hf:X.fn x=true\/X.env.scope.names.lookup x=some .local:=by first|exact .inl rfl|exact .inr rfl|assumption):wpAny M A (storeName X.env x u) Q E s:=by
 obtain⟨m,hn,hl⟩:=id I.loc
 have O:(X.env.scope.kind== .class||(X.env.scope.kind== .module&&X.env.locals !=X.env.globals))=false:=by rw[I.ok.kind];rfl
 have P:i<σ.length:=by rw[I.len];exact(aa.mp hi).1
 have cne:=I.cne
 have g:∀{a:ai} {h':bK},(∃o,s.heap.get? a=some o/\H a=none)->jm a s.heap h'->yB X.prog X.w H h':=fun{a h'} ha f b ob e=>by
  obtain⟨_,_,C⟩:=ha
  refine(I.hok b ob e).stay (fun c Y t q=>(f.2 c ?_).trans q) (fun _ q=>q) fun _ _ q=>q
  rintro rfl
  rcases t with rfl|t
  ·rw[C]at e;cases e
  ·rw[C]at t;cases t
 rcases B with F|F
 ·refine wpAny_storeName_local F hn (fun h' ab f=>?_) O
  obtain⟨oL,_,_,ac,_⟩:=id hn
  refine h _ ⟨I.ok,I.os,I.bare,⟨fun b o e n G B=>?_,fun b o e n G B=>?_,I.base.free,fun b o e B=>?_,I.base.tups,I.base.frzs,I.base.tbls⟩,⟨_,ab,fun j y v' l D e3=>?_⟩,fun y c e=>?_,I.free,I.freeC,fun p hp=>?_,g ⟨oL,ac,I.free⟩ f,by simpa using I.len⟩ ⟨_,f,.inl rfl⟩
  ·exact(f.2 b (bH (bw (aM e) I.ok.above))).trans (I.base.keep b o e n G B)
  ·obtain⟨sl,l⟩:=I.base.slot b o e n G B
   exact⟨sl,(f.2 b (bH (bw (aM e) I.ok.above))).trans l⟩
  ·obtain⟨o',l⟩:=I.base.there b o e B
   exact⟨o',(f.2 b (bH (bw (aM e) I.ok.above))).trans l⟩
  ·by_cases J:j=i
   ·subst J
    rw[hi]at l;cases l
    rw[lM P]at D
    cases D
    exact⟨u,r,.inl ⟨F,by simp⟩⟩
   ·rw[mz (d9 J)]at D
    obtain⟨u',r',q⟩:=hl j y v' l D e3
    refine⟨u',r',?_⟩
    rcases q with⟨k,e⟩|⟨k,c,e,z⟩
    ·refine .inl ⟨k,?_⟩
     have:y≠x:=fun e=>J (zFl hN l (e▸hi))
     simp[this,e]
    ·exact .inr ⟨k,c,e,z.sameBut f (cne y c e)⟩
  ·obtain⟨Y,z⟩:=I.cell y c e
   exact⟨Y,z.sameBut f (cne y c e)⟩
  ·obtain⟨e,n,ne,nf,d⟩:=I.pin p hp
   exact⟨(f.2 p.1 ne).trans e,n,ne,nf,d⟩
 ·have L:X.fn x=true:=by
   rcases hf with z|z
   ·exact z
   ·rw[z]at F;cases F
  obtain⟨c,t⟩:=I.ok.has x (.inl F)
  obtain⟨Y,z⟩:=I.cell x c t
  refine wpAny_storeName_cell I.ok.kind F t z (fun h' R f=>?_)
  obtain⟨oc,T,U⟩:=id z
  refine h {s with heap:=h'} ⟨I.ok,I.os,I.bare,⟨fun b o e n G B=>?_,fun b o e n G B=>?_,I.base.free,fun b o e B=>?_,I.base.tups,I.base.frzs,I.base.tbls⟩,⟨m,hn.sameBut f (d9 (cne x c t)),fun j y v' l D e3=>?_⟩,fun y Z e=>?_,I.free,I.freeC,fun p hp=>?_,g ⟨oc,T,I.freeC x c t⟩ f,by simpa using I.len⟩ ⟨c,f,.inr t⟩
  ·exact(f.2 b (bH (bw (aM e) (I.ok.cab x c L t)))).trans (I.base.keep b o e n G B)
  ·obtain⟨sl,l⟩:=I.base.slot b o e n G B
   exact⟨sl,(f.2 b (bH (bw (aM e) (I.ok.cab x c L t)))).trans l⟩
  ·obtain⟨o',l⟩:=I.base.there b o e B
   exact⟨o',(f.2 b (bH (bw (aM e) (I.ok.cab x c L t)))).trans l⟩
  ·by_cases J:j=i
   ·subst J
    rw[hi]at l;cases l
    rw[lM P]at D
    cases D
    exact⟨u,r,.inr ⟨.inl F,c,t,R⟩⟩
   ·rw[mz (d9 J)]at D
    obtain⟨u',r',q⟩:=hl j y v' l D e3
    refine⟨u',r',?_⟩
    rcases q with q|⟨k,Z,e,z'⟩
    ·exact .inl q
    ·refine .inr ⟨k,Z,e,z'.sameBut f ?_⟩
     rintro rfl
     exact J (zFl hN l (I.ok.inj _ _ _ e t▸hi))
  ·by_cases W:Z=c
   ·subst W;exact⟨_,R⟩
   ·obtain⟨w2,z2⟩:=I.cell y Z e
    exact⟨w2,z2.sameBut f W⟩
  ·obtain⟨e,n,ne,nf,d⟩:=I.pin p hp
   refine⟨(f.2 p.1 ?_).trans e,n,ne,nf,d⟩
   intro q
   rw[q,T]at e
   have q':oc=p.2:=aw e
   exact d Y (by rw[<-q'];exact U)
theorem zAZ {M:nF}{A:bU}{E:ah->au->Prop}{i:Nat}{x:Str}{v:V}{u:ah}{Q:Unit->au->Prop}(I:Inv X pins σ H s)(a:X.N.Nodup)(hi:X.N[i]?=some x)(b:Loc X.env.scope x)(r:zW v u)
  (h:∀s',Inv X pins (σ.set i (some v)) H s'->Q () s') (c:X.fn x=true\/X.env.scope.names.lookup x=some .local:=by first|exact .inl rfl|exact .inr rfl|assumption):wpAny M A (storeName X.env x u) Q E s :=
 zKM I a hi b r (fun s' d _=>h s' d) c
theorem Inv.call' {s':au}{ch:List ai}(I:Inv X pins σ H s)(d:s'.os=s.os)(u:Un (yW X.stack) ch H H' s.heap s'.heap)(hok:yB X.prog X.w H' s'.heap)(f:jk s'.gens)
  (a:∀b∈ch,(b∈X.ex\/X.s₀.heap.objs.size<=b)/\b≠X.env.locals/\(∀x c,X.env.cells.lookup x=some c->c≠b)/\∀p∈X.pn++pins,p.1≠b):Inv X pins σ H' s':=by
 obtain⟨h',g',d',t',g⟩:=s'
 have e:g=s.os:=d
 subst e
 exact I.call (g':=g') (t':=t') (d':=d') u hok f a
end
abbrev XK:=ah->Option ai->Hp->Prop
abbrev St:=List (Option V)
abbrev VK:=V->Hp->Prop
abbrev TE:=St->Hp->VK->Prop
abbrev TT:=St->Hp->(Bool->Hp->Prop)->Prop
abbrev TA:=St->Hp->(List V->Hp->Prop)->Prop
structure Ends where
 nx:St->Hp->Prop
 rt:VK
 bk:St->Hp->Prop:=fun _ _=>False
 ct:St->Hp->Prop:=fun _ _=>False
abbrev TS:=Ends->St->Hp->Prop
def EP (X:Cx)(pins:List (ai×Obj))(σ:St)(Q:VK)(u:ah)(s':au):Prop:=∃v H',Inv X pins σ H' s'/\zW v u/\Q v H'
def TP (X:Cx)(pins:List (ai×Obj))(σ:St)(Q:Bool->Hp->Prop)(b:Bool)(s':au):Prop:=∃H',Inv X pins σ H' s'/\Q b H'
def AP (X:Cx)(pins:List (ai×Obj))(σ:St)(Q:List V->Hp->Prop)(us:List ah)(s':au):Prop:=∃vs H',Inv X pins σ H' s'/\zS vs us/\Q vs H'
def SP (X:Cx)(pins:List (ai×Obj))(D:Ends)(f:Flow)(s':au):Prop :=
 match f with
 | .next=>∃σ' H',Inv X pins σ' H' s'/\D.nx σ' H'
 | .brk=>∃σ' H',Inv X pins σ' H' s'/\D.bk σ' H'
 | .cont=>∃σ' H',Inv X pins σ' H' s'/\D.ct σ' H'
 | .ret u=>∃v σ' H',Inv X pins σ' H' s'/\zW v u/\D.rt v H'
def PE (X:Cx)(e:cb)(t:TE):Prop :=
 ∀(pins:List (ai×Obj)) (s:au) (σ:St) (H:Hp) (Q:VK),Inv X pins σ H s->t σ H Q->wpAny (model X.prog X.w) X.A (eval e X.env) (EP X pins σ Q) X.xe s
def PT (X:Cx)(e:cb)(t:TT):Prop :=
 ∀(pins:List (ai×Obj)) (s:au) (σ:St) (H:Hp) (Q:Bool->Hp->Prop),Inv X pins σ H s->t σ H Q->wpAny (model X.prog X.w) X.A (isTrue e X.env (eval e X.env)) (TP X pins σ Q) X.xe s
def PW (X:Cx)(e:cb)(t:TT):Prop :=
 ∀(whole:Sem ah) (pins:List (ai×Obj)) (s:au) (σ:St) (H:Hp) (Q:Bool->Hp->Prop),Inv X pins σ H s->t σ H Q->wpAny (model X.prog X.w) X.A (isTrue e X.env whole) (TP X pins σ Q) X.xe s
theorem PW.pt {X:Cx}{e:cb}{t:TT}(h:PW X e t):PT X e t:=h _
def PA (X:Cx)(es:List cb)(t:TA):Prop :=
 ∀(pos:Pos) (pins:List (ai×Obj)) (s:au) (σ:St) (H:Hp) (Q:List V->Hp->Prop),Inv X pins σ H s->t σ H Q->wpAny (model X.prog X.w) X.A (spliced (backTo pos (starEach es X.env))) (AP X pins σ Q) X.xe s
def PS (X:Cx)(st:cJ)(t:TS):Prop :=
 ∀(pins:List (ai×Obj)) (s:au) (σ:St) (H:Hp) (D:Ends),Inv X pins σ H s->t D σ H->wpAny (model X.prog X.w) X.A (exec st X.env) (SP X pins D) X.xe s
def uF (X:Cx)(st:List cJ)(t:TS):Prop :=
 ∀(pins:List (ai×Obj)) (s:au) (σ:St) (H:Hp) (D:Ends),Inv X pins σ H s->t D σ H->wpAny (model X.prog X.w) X.A (execs st X.env) (SP X pins D) X.xe s
theorem zK {α:Type}{t:Sem α}{Q b:α->au->Prop}{M:nF}{A:bU}{E:ah->au->Prop}{s:au}(h:wpAny M A t Q E s)(c:∀a s,Q a s->b a s):wpAny M A t b E s:=cf h c fun _ _ x=>x
section
variable{X:Cx}
def v8 (i:Nat):TE:=fun σ H Q=>∃v,σ[i]?=some (some v)/\Q v H
def tC (v:V):TE:=fun _ H Q=>Q v H
theorem zKN {i:Nat}{x:Str}{pos:Pos}(j:X.N[i]?=some x)(n:Vis X.env.scope x)(hd:(x==("__debug__" : Str))=false:=by decide)(f:(x==("__classdict__" : Str))=false:=by decide):PE X (.Name x pos) (v8 i):=by
 intro d s σ H Q I h
 obtain⟨v,e,h⟩:=h
 obtain⟨m,o,hl⟩:=I.loc
 obtain⟨u,r,l⟩:=hl i x v j e n
 have fin:EP X d σ Q u s:=⟨v,H,I,r,h⟩
 rcases l with⟨b,p⟩|⟨b,c,g,a⟩
 ·exact o6 (wpAny_loadName_local I.ok.kind b o p fin) hd
 ·rcases b with b|b
  ·exact o6 (wpAny_loadName_cell I.ok.kind b g a fin) hd
  ·exact o6 (wpAny_loadName_free I.ok.kind b g a fin f) hd
theorem zF {i j pos}:PE X (.Constant (.int i) j pos) (tC (.int i)):=fun _ _ _ H _ I h=>wpAny_Constant_int ⟨.int i,H,I.tok _,⟨_,rfl⟩,h⟩
theorem v9 {b j pos}:PE X (.Constant (.bool b) j pos) (tC (.bl b)):=fun _ _ _ H _ I h=>Constant_bool ⟨.bl b,H,I,rfl,h⟩
theorem uS {j pos}:PE X (.Constant .none j pos) (tC .non):=fun _ _ _ H _ I h=>pW ⟨.non,H,I,rfl,h⟩
theorem y9 {x j pos}:PE X (.Constant (.str x) j pos) (tC (.str x)):=fun _ _ _ H _ I h=>Calls.Constant_str ⟨.str x,H,I.tok _,⟨_,rfl⟩,h⟩
def Gl (X:Cx)(x:Str):Prop:=X.env.kindOf x=some .globalImplicit
theorem zAa {E:ah->au->Prop}{a:List (ai×Obj)}{s:au}{σ:St}{H:Hp}{x:Str}{u:ah}{pos:Pos}{Q:ah->au->Prop}(I:Inv X a σ H s)(b:Gl X x)(c:X.mg x=some u)(h:Q u s)
  (hd:(x==("__debug__" : Str))=false:=by decide):wpAny (model X.prog X.w) X.A (eval (.Name x pos) X.env) Q E s :=
 jt I.ok.kind b (Calls.loadGlobal_global (by rw[I.ok.glob];exact I.mod.glob.keeps I.bk) c h) hd
theorem kN {E:ah->au->Prop}{a:List (ai×Obj)}{s:au}{σ:St}{H:Hp}{x:Str}{u:ah}{pos:Pos}{Q:ah->au->Prop}(I:Inv X a σ H s)(b:Gl X x)(c:X.mg x=none)(d:bootBuiltins x=some u)(h:Q u s)
  (e:x≠"__name__" :=by decide) (hd:(x==("__debug__" : Str))=false:=by decide):wpAny (model X.prog X.w) X.A (eval (.Name x pos) X.env) Q E s:=by
 obtain⟨i,f,g⟩:=I.mod.blt
 exact jt I.ok.kind b (Calls.loadGlobal_builtin (by rw[I.ok.glob];exact I.mod.glob.keeps I.bk) c (by rw[I.ok.blt];exact f.keeps I.bk) ((g x e).trans d) h) hd
theorem v3 {x:Str}{v:V}{u:ah}{pos:Pos}(a:Gl X x)(b:X.mg x=some u)(r:zW v u)(hd:(x==("__debug__" : Str))=false:=by decide):PE X (.Name x pos) (tC v) :=
 fun _ _ _ H _ I h=>zAa I a b ⟨v,H,I,r,h⟩ hd
theorem uU {x:Str}{v:V}{u:ah}{pos:Pos}(a:Gl X x)(b:X.mg x=none)(c:bootBuiltins x=some u)(r:zW v u)(d:x≠"__name__" :=by decide)(hd:(x==("__debug__" : Str))=false:=by decide):PE X (.Name x pos) (tC v) :=
 fun _ _ _ H _ I h=>kN I a b c ⟨v,H,I,r,h⟩ d hd
variable{a b:cb}{ta tb:TE}{pos:Pos}
def PC (X:Cx)(op:o7)(a b:cb)(t:TE):Prop :=
 ∀(pins:List (ai×Obj)) (s:au) (σ:St) (H:Hp) (Q:VK),Inv X pins σ H s->t σ H Q->
  wpAny (model X.prog X.w) X.A (eval a X.env) (fun v s₁=>wpAny (model X.prog X.w) X.A (eval b X.env) (fun u s₂=>wpAny (model X.prog X.w) X.A (compareOp op v u) (EP X pins σ Q) X.xe s₂) X.xe s₁) X.xe s
theorem zKO (b:cb){op:o7}(h:op≠.In)(c:op≠.NotIn):behindInMarks op b=false:=by
 have d:(op==CmpOp.In)=false:=by cases op<;>first|rfl|exact absurd rfl h
 have e:(op==CmpOp.NotIn)=false:=by cases op<;>first|rfl|exact absurd rfl c
 cases b<;>simp[behindInMarks,d,e]
def zKP (ta:TE):TE:=fun σ H Q=>ta σ H fun x H1=>Q (.bl (!decide (x=.non))) H1
theorem zW.none_iff {x:V}{v:ah}(r:zW x v):(v==Value.none)=decide (x=.non):=by
 cases x with
 |non=>cases r;rfl
 |bl _=>cases r;rfl
 |int _=>obtain⟨t,rfl⟩:=r;rfl
 |str _=>obtain⟨t,rfl⟩:=r;rfl
 |byt _=>obtain⟨t,rfl⟩:=r;rfl
 |flt _=>obtain⟨t,rfl⟩:=r;rfl
 |ref _=>cases r;rfl
 |ty _=>cases r;rfl
theorem zKQ {j c}(e:PE X a ta):PC X .IsNot a (.Constant .none j c) (zKP ta):=by
 intro d s σ H Q I h
 refine zK (e d s σ H _ I h) fun v m ⟨x,f,g,i,l⟩=>?_
 exact pW (isnot_none_gen ⟨.bl _,f,g,by rw[i.none_iff];rfl,l⟩)
def tB (t:TE):TT:=fun σ H Q=>t σ H fun x H1=>∃c,x=.bl c/\Q c H1
theorem zBL {op:o7}{t:TE}(h:PC X op a b t)(f:behindInMarks op b=false:=by first|exact zKO _ (by decide) (by decide)|rfl):PT X (.Compare a [op] [b] pos) (tB t):=by
 intro e s σ H Q I g
 refine mh (zK (h e s σ H _ I g) fun v o f=>zK f fun u p i=>zK i fun c r ⟨x,j,l,m,n⟩=>?_) f
 obtain⟨d,rfl,q⟩:=n
 cases m
 exact de ⟨j,l,q⟩
theorem vC {e:cb}{t:TE}(h:PE X e t)(f:∀whole,isTrue e X.env whole=(do let v<-whole;standAt e.pos;holding [v] (truthy v)):=by intro _;rfl):PT X e (tB t):=by
 intro c s σ H Q I g
 refine isTrue_plain (zK (h c s σ H _ I g) fun v n ⟨x,i,j,l,m⟩=>?_) (f _)
 obtain⟨d,rfl,q⟩:=m
 cases l
 exact de ⟨i,j,q⟩
variable{tA tB':TT}{uZ:List cb}
def tOr (t u:TT):TT:=fun σ H Q=>t σ H fun c H1=>if c=true then Q true H1 else u σ H1 Q
def zKR (t:TT):TT:=fun σ H Q=>t σ H fun c H1=>Q (!c) H1
theorem jX (f:PT X a tA):PW X (.BoolOp .Or [a] pos) tA:=by
 intro g d s σ H Q I h
 refine isTrue_or (zK (f d s σ H Q I h) fun c i e=>?_)
 cases c with
 |false=>exact isTrue_or_nil e
 |true=>exact e
theorem jO (i:PT X a tA)(j:PW X (.BoolOp .Or (b::uZ) pos) tB'):PW X (.BoolOp .Or (a::b::uZ) pos) (tOr tA tB'):=by
 intro l d s σ H Q I h
 refine isTrue_or (zK (i d s σ H _ I h) fun c m ⟨e,f,g⟩=>?_)
 cases c with
 |true=>exact⟨e,f,g⟩
 |false=>exact j l d m σ e Q f g
theorem vP (e:PT X a tA):PT X (.UnaryOp .Not a pos) (zKR tA):=by
 intro d s σ H Q I h
 exact isTrue_not (e d s σ H (fun c f=>Q (!c) f) I h)
def zKS (ta tb:TE):TE:=fun σ H Q=>ta σ H fun x H1=>∃c,x=.bl c/\if c=true then tb σ H1 Q else Q (.bl false) H1
def zKT (ta:TE):TE:=fun σ H Q=>ta σ H fun x H1=>∃c,x=.bl c/\Q (.bl (!c)) H1
theorem zFm {op}{t:TE}(h:PE X a t):PE X (.BoolOp op [a] pos) t:=fun c s σ H Q I d=>BoolOp_one (h c s σ H Q I d)
theorem zFn (i:PE X a ta)(j:PE X (.BoolOp .And (b::uZ) pos) tb):PE X (.BoolOp .And (a::b::uZ) pos) (zKS ta tb):=by
 intro d s σ H Q I h
 refine BoolOp_and (zK (i d s σ H _ I h) fun v l ⟨x,f,g,m,e⟩=>?_)
 obtain⟨c,rfl,e⟩:=e
 cases m
 refine de ?_
 cases c with
 |true=>exact j d l σ f Q g e
 |false=>exact⟨.bl false,f,g,rfl,e⟩
theorem zKU (f:PE X a ta):PE X (.UnaryOp .Not a pos) (zKT ta):=by
 intro d s σ H Q I h
 refine UnaryOp_ (zK (f d s σ H _ I h) fun v l ⟨x,g,i,j,e⟩=>?_)
 obtain⟨c,rfl,e⟩:=e
 cases j
 exact not_of (de ⟨.bl (!c),g,i,rfl,e⟩)
def tIf (t:TT)(ta tb:TE):TE:=fun σ H Q=>t σ H fun c H1=>if c=true then ta σ H1 Q else tb σ H1 Q
theorem g9 {c:cb}(l:PT X c tA)(m:PE X a ta)(n:PE X b tb):PE X (.IfExp c a b pos) (tIf tA ta tb):=by
 intro e s σ H Q I h
 refine wpAny_IfExp (zK (l e s σ H _ I h) fun d f ⟨g,i,j⟩=>?_)
 cases d with
 |true=>exact m e f σ g Q i j
 |false=>exact n e f σ g Q i j
end
def z9 (K:ae)(H:Hp)(a:ai)(xs:List V):Prop :=
 Rd H a (.lst xs)\/
  ∃(o:Obj) (its:Array ah) (n:Nat),K.lookup a=some o/\o.cls=.type "list"/\o.dict=none/\o.data=.seq its n/\its.size<=sizeLine/\zS xs its.toList
def yH (K:ae)(H:Hp)(a:ai)(xs:List V):Prop :=
 Rd H a (.tup xs)\/
  ∃(o:Obj) (its:Array ah) (n:Nat),K.lookup a=some o/\o.cls=.type "tuple"/\o.data=.seq its n/\its.size<=sizeLine/\zS xs its.toList
def zKV:ah->Option V
 | .none=>some .non
 | .bool b=>some (.bl b)
 | .int i _=>some (.int i)
 | .str x _=>some (.str x)
 | .bytes b _=>some (.byt b)
 | .float b _=>some (.flt b)
 | .ref a=>some (.ref a)
 | .type n=>some (.ty n)
 |_=>none
theorem zW.abs {x:V}{u:ah}(r:zW x u):zKV u=some x:=by
 cases x with
 |non=>cases r;rfl
 |bl _=>cases r;rfl
 |int _=>obtain⟨t,rfl⟩:=r;rfl
 |str _=>obtain⟨t,rfl⟩:=r;rfl
 |byt _=>obtain⟨t,rfl⟩:=r;rfl
 |flt _=>obtain⟨t,rfl⟩:=r;rfl
 |ref _=>cases r;rfl
 |ty _=>cases r;rfl
theorem zW.inj {x y:V}{u:ah}(r:zW x u)(q:zW y u):x=y:=aw (r.abs.symm.trans q.abs)
theorem zS.inj:∀{xs ys:List V}{us:List ah},zS xs us->zS ys us->xs=ys
 |_,_,_,.nil,.nil=>rfl
 |_,_,_,.cons r t,.cons a t'=>by rw[r.inj a,zS.inj t t']
section
variable{X:Cx}{pins:List (ai×Obj)}{σ:St}{H:Hp}{s:au}{a:ai}{xs ys:List V}
theorem z9.of {K:ae}(h:H a=some (.lst xs)):z9 K H a xs:=.inl (.inl h)
theorem yH.of {K:ae}(h:H a=some (.tup xs)):yH K H a xs:=.inl (.inl h)
theorem Inv.list (I:Inv X pins σ H s)(h:z9 X.K H a xs):∃b:List ah,zS xs b/\PlainL s.heap a b.toArray/\xs.length<=sizeLine:=by
 rcases h with h|⟨o,b,n,c,d,hd,f,g,r⟩
 ·obtain⟨z,b,n,r,e⟩:=h.ok I.hok
  exact⟨b,r,⟨_,n,e,rfl,rfl,rfl⟩,z⟩
 ·refine⟨b.toList,r,⟨o,n,I.kIn a o c,d,hd,by simpa using f⟩,?_⟩
  have e:=r.length
  simp only[jh]at e
  omega
theorem Inv.tuple (I:Inv X pins σ H s)(h:yH X.K H a xs):∃b:List ah,zS xs b/\IsTup s.heap a b.toArray/\xs.length<=sizeLine:=by
 rcases h with h|⟨o,b,n,c,d,f,g,r⟩
 ·obtain⟨z,b,r,p⟩:=h.ok I.hok
  exact⟨b,r,p,z⟩
 ·refine⟨b.toList,r,⟨o,I.kIn a o c,d,n,by simpa using f⟩,?_⟩
  have e:=r.length
  simp only[jh]at e
  omega
theorem Inv.list_inj (I:Inv X pins σ H s)(h:z9 X.K H a xs)(h':z9 X.K H a ys):xs=ys:=by
 obtain⟨b,r,⟨o,n,e,_,_,d⟩,_⟩:=I.list h
 obtain⟨its',f,⟨g,i,c,_,_,d'⟩,_⟩:=I.list h'
 rw[e]at c;cases c
 rw[d]at d'
 injection d' with d1 _
 have:b=its':=by simpa using congrArg qx d1
 subst this
 exact r.inj f
theorem Inv.tuple_inj (I:Inv X pins σ H s)(h:yH X.K H a xs)(h':yH X.K H a ys):xs=ys:=by
 obtain⟨b,r,⟨o,e,_,n,d⟩,_⟩:=I.tuple h
 obtain⟨its',f,⟨g,c,_,i,d'⟩,_⟩:=I.tuple h'
 rw[e]at c;cases c
 rw[d]at d'
 injection d' with d1 _
 have:b=its':=by simpa using congrArg qx d1
 subst this
 exact r.inj f
end
abbrev Cx.wish (X:Cx)(E:ah->au->Prop):Cx:={X with xe:=E}
abbrev Cx.nox (X:Cx):Cx:=X.wish fun _ _=>False
theorem Cx.Ok.wish {X:Cx}(ok:X.Ok)(E:ah->au->Prop):(X.wish E).Ok :=
 ⟨ok.mod,ok.kind,ok.glob,ok.blt,ok.above,ok.inj,ok.has,ok.cab,ok.hd,ok.frames,ok.stk,ok.exf,ok.bs,ok.bsz,ok.noex,ok.exfs,ok.funs,ok.frf⟩
theorem Cx.Ok.unwish {X:Cx}{E:ah->au->Prop}(ok:(X.wish E).Ok):X.Ok :=
 ⟨ok.mod,ok.kind,ok.glob,ok.blt,ok.above,ok.inj,ok.has,ok.cab,ok.hd,ok.frames,ok.stk,ok.exf,ok.bs,ok.bsz,ok.noex,ok.exfs,ok.funs,ok.frf⟩
section
variable{X:Cx}{pins:List (ai×Obj)}{σ:St}{H:Hp}{s:au}{E:ah->au->Prop}
theorem Inv.wish (I:Inv X pins σ H s)(E:ah->au->Prop):Inv (X.wish E) pins σ H s:=⟨I.ok.wish E,I.os,I.bare,I.base,I.loc,I.cell,I.free,I.freeC,I.pin,I.hok,I.len⟩
theorem Inv.unwish (I:Inv (X.wish E) pins σ H s):Inv X pins σ H s:=⟨I.ok.unwish,I.os,I.bare,I.base,I.loc,I.cell,I.free,I.freeC,I.pin,I.hok,I.len⟩
theorem SP.unwish {D:Ends}{f:Flow}{s':au}(h:SP (X.wish E) pins D f s'):SP X pins D f s':=by
 cases f with
 |next=>obtain⟨a,H',I,q⟩:=h;exact⟨a,H',I.unwish,q⟩
 |brk=>obtain⟨a,H',I,q⟩:=h;exact⟨a,H',I.unwish,q⟩
 |cont=>obtain⟨a,H',I,q⟩:=h;exact⟨a,H',I.unwish,q⟩
 |ret u=>obtain⟨v,a,H',I,r,q⟩:=h;exact⟨v,a,H',I.unwish,r,q⟩
theorem uF.nox {st:List cJ}{t:TS}(h:uF X.nox st t):uF X st t:=fun pins s σ H D I a=>
 cf (h pins s σ H D (I.wish _) a) (fun _ _ q=>q.unwish) fun _ _ z=>dE z
end
section
variable{X:Cx}{st:cJ}{uZ:List cJ}{t u:TS}{e:cb}{te:TE}{pos:Pos}
def zKW:TS:=fun D σ H=>D.nx σ H
def zBl (t u:TS):TS:=fun D σ H=>t {D with nx:=u D} σ H
theorem yJ:uF X [] zKW:=fun _ _ σ H _ I h=>ic ⟨σ,H,I,h⟩
theorem zG (b:PS X st t)(c:uF X uZ u):uF X (st::uZ) (zBl t u):=by
 intro a s σ H D I h
 refine oa (zK (b a s σ H {D with nx:=u D} I h) fun f d q=>?_)
 cases f with
 |next=>
  obtain⟨g,H',i,q⟩:=q
  exact c a d g H' D i q
 |ret v=>exact q
 |brk=>exact q
 |cont=>exact q
theorem zH (b:PS X st t):uF X [st] t:=by
 intro a s σ H D I h
 refine oa (zK (b a s σ H D I h) fun f c q=>?_)
 cases f with
 |next=>exact ic q
 |ret v=>exact q
 |brk=>exact q
 |cont=>exact q
theorem Inv.quiet {a:List (ai×Obj)}{σ:St}{H:Hp}{s:au}(I:Inv X a σ H s):interactive X.env=false:=by simp[interactive,I.ok.kind]
def zKX (te:TE):TS:=fun D σ H=>te σ H fun _ H1=>D.nx σ H1
theorem yP (b:PE X e te)(c:swapsWith e none pos.line X.env=pure false:=by rfl):PS X (.Expr e pos) (zKX te):=by
 intro a s σ H D I h
 exact wpAny_Expr_any (zK (b a s σ H _ I h) fun v i ⟨x,d,f,j,g⟩=>⟨σ,d,f,g⟩) I.quiet c
def zFo (te:TE):TS:=fun D σ H=>te σ H D.rt
theorem zT (b:PE X e te):PS X (.Return (some e) pos) (zFo te):=by
 intro a s σ H D I h
 exact wpAny_Return_some (zK (b a s σ H _ I h) fun v i ⟨x,c,d,f,g⟩=>⟨x,σ,c,d,f,g⟩)
def zKY (c:TT)(t u:TS):TS:=fun D σ H=>c σ H fun b H1=>if b=true then t D σ H1 else u D σ H1
theorem yK {c:cb}{a b:List cJ}{g:TT}(n:PT X c g)(o:uF X a t)(p:uF X b u):PS X (.If c a b pos) (zKY g t u):=by
 intro f s σ H D I h
 refine wpAny_If (zK (n f s σ H _ I h) fun d i ⟨j,l,m⟩=>?_)
 cases d with
 |true=>exact o f i σ j D l m
 |false=>exact p f i σ j D l m
def zFp:TS:=fun _ _ _=>False
theorem zBM:PS X st zFp:=fun _ _ _ _ _ _ h=>h.elim
theorem zAb {a:List cJ}:uF X a zFp:=fun _ _ _ _ _ _ h=>h.elim
end
abbrev TG:=V->St->Hp->(St->Hp->Prop)->Prop
abbrev gI:=List V->St->Hp->(St->Hp->Prop)->Prop
def PG (X:Cx)(target:cb)(t:TG):Prop :=
 ∀(pins:List (ai×Obj)) (s:au) (σ:St) (H:Hp) (v:V) (u:ah) (Q:St->Hp->Prop),Inv X pins σ H s->zW v u->t v σ H Q->
  wpAny (model X.prog X.w) X.A (assign target X.env u) (fun _ s'=>∃σ' H',Inv X pins σ' H' s'/\Q σ' H') X.xe s
def PGs (X:Cx)(ts:List cb)(t:gI):Prop :=
 ∀(pins:List (ai×Obj)) (s:au) (σ:St) (H:Hp) (vs:List V) (us:List ah) (Q:St->Hp->Prop),Inv X pins σ H s->zS vs us->t vs σ H Q->
  wpAny (model X.prog X.w) X.A (assignInOrder ((assignEach ts X.env).map (·.2)) us) (fun _ s'=>∃σ' H',Inv X pins σ' H' s'/\Q σ' H') X.xe s
section
variable{X:Cx}{pos:Pos}
def kO (i:Nat):TG:=fun v σ H Q=>Q (σ.set i (some v)) H
theorem zY {i:Nat}{x:Str}(b:X.N.Nodup)(hi:X.N[i]?=some x)(c:Loc X.env.scope x)(d:X.fn x=true\/X.env.scope.names.lookup x=some .local:=by first|exact .inl rfl|exact .inr rfl|assumption):PG X (.Name x pos) (kO i):=by
 intro a s σ H v u Q I r h
 exact nG (zAZ I b hi c r (fun s' e=>⟨_,H,e,h⟩) d)
def zKZ:gI:=fun vs σ H Q=>vs=[]/\Q σ H
def zKa (t:TG)(u:gI):gI:=fun vs σ H Q=>∃v r,vs=v::r/\t v σ H fun σ' H'=>u r σ' H' Q
theorem gJ:PGs X [] zKZ:=by
 intro a s σ H vs us Q I r h
 obtain⟨e,h⟩:=h
 subst e
 cases r
 exact nH ⟨σ,H,I,h⟩
theorem u6 {e:cb}{b:List cb}{t:TG}{u:gI}(c:PG X e t)(d:PGs X b u)
  (f:(assignEach (e::b) X.env).map (·.2)=assign e X.env::(assignEach b X.env).map (·.2):=by rfl):PGs X (e::b) (zKa t u):=by
 intro a s σ H vs us Q I r h
 obtain⟨v,p,g,h⟩:=h
 subst g
 cases r with
 |cons r i=>
  rw[f]
  refine ju (zK (c a s σ H _ _ _ I r h) fun _ j ⟨l,m,n,o⟩=>?_)
  exact d a j l m _ _ Q n i o
def zFq (K:ae)(n:Nat)(t:gI):TG:=fun v σ H Q=>∃a xs,v=.ref a/\yH K H a xs/\xs.length=n/\t xs σ H Q
theorem zDE {d:List cb}{k:Nat}{t:gI}{n:Nat}(j:X.calm=true)(h:PGs X d t)
  (l:(assignEach d X.env).length=n:=by rfl) (f:(assignEach d X.env).findIdx? (·.1)=none:=by rfl):PG X (.Tuple d k pos) (zFq X.K n t):=by
 intro c s σ H v u Q I r g
 obtain⟨a,xs,m,p,hl,g⟩:=g
 subst m
 cases r
 obtain⟨q,i,w,z⟩:=I.tuple p
 refine assign_Tuple_tuple (I.ok.hd j) w (by simp[l,<-hl,i.length]) f fun h' x=>?_
 have y:Inv X c σ H {s with heap:=h'}:=I.kept (t':=s.toks) fun b o e=>x b o (bH (aM e)) e
 exact h c _ σ H xs _ Q y (by simpa using i) g
def zDF (te:TE)(g:TG):TS:=fun D σ H=>te σ H fun x H1=>g x σ H1 D.nx
theorem zX {i:Nat}{x:Str}{e:cb}{c:TE}{a:Pos}(d:X.N.Nodup)(hi:X.N[i]?=some x)(f:Loc X.env.scope x)(g:PE X e c)(j:swapsWith e (some (.Name x a)) pos.line X.env=pure false:=by rfl)(l:X.fn x=true\/X.env.scope.names.lookup x=some .local:=by first|exact .inl rfl|exact .inr rfl|assumption) :
  PS X (.Assign [.Name x a] e pos) (zDF c (kO i)):=by
 intro b s σ H D I h
 refine wpAny_Assign_Name (zK (g b s σ H _ I h) fun v r ⟨y,m,n,o,p⟩=>?_) j
 exact zAZ n d hi f o (fun t q=>⟨_,m,q,p⟩) l
def zKb (i j:Nat)(ta:TA):TS:=fun D σ H=>ta σ H fun vs H1=>∃v w,vs=[v,w]/\D.nx ((σ.set i (some v)).set j (some w)) H1
theorem zKc {i j:Nat}{x y:Str}{a b:cb}{z:TA}{l py pt:Pos}{m k2 d}(J:X.calm=true)(B:X.N.Nodup)(hi:X.N[i]?=some x)(L:X.N[j]?=some y)(n:i≠j)
  (C:X.env.scope.names.lookup x=some .local) (E:X.env.scope.names.lookup y=some .local) (M:PA X [a,b] z)
  (O:swappedStores [.Tuple [.Name x l,.Name y py] m pt] (.Tuple [a,b] k2 d) X.env=pure (some [x,y]))
  (P:swapsWithSole [.Tuple [.Name x l,.Name y py] m pt] (.Tuple [a,b] k2 d) pos.line X.env=pure false:=by rfl) :
  PS X (.Assign [.Tuple [.Name x l,.Name y py] m pt] (.Tuple [a,b] k2 d) pos) (zKb i j z):=by
 intro c s σ H D I h
 rw[exec_Assign_arm]
 refine ao (m5 ?_)
 rw[P]
 refine ao (bf ?_)
 rw[if_neg (by decide)]
 refine ao (Tuple_ (zK (M _ c s σ H _ I h) fun us f ⟨vs,F,Q,R,r⟩=>?_))
 obtain⟨v,w,T,r⟩:=r
 subst T
 obtain⟨u1,g,rfl,U,t⟩:∃u1 g,us=[u1,g]/\zW v u1/\zW w g:=by
  cases R with
  |cons p q=>
   cases q with
   |cons W Y=>
    cases Y
    exact⟨_,_,rfl,p,W⟩
 refine eX ?_ (by show 2<=sizeLine;decide)
 have Z:Inv X c σ F {f with heap:=f.heap.push {cls:=.type "tuple",data:=.seq [u1,g].toArray}}:=Q.kept (t':=f.toks) fun b o e=>ag _ e
 rw[O]
 refine ao (bf ?_)
 show wpAny (model X.prog X.w) X.A (do rule "assign.swapped-stores";let items<-unpackItems (.ref f.heap.objs.size) 2 none;assignInOrder [fun v=>bindName X.env y v,fun v=>bindName X.env x v] items.reverse;pure Flow.next) _ _ _
 refine ao (lN (ao (unpackItems_tuple (items:=#[u1,g]) (I.ok.hd J) (sE f.heap _) fun h' u=>?_)))
 have I3:=Z.kept (h':=h') (t':=f.toks) fun b o e=>u b o (bH (aM e)) e
 show wpAny _ _ (assignInOrder [fun v=>bindName X.env y v,fun v=>bindName X.env x v] [g,u1]>>=fun _=>pure Flow.next) _ _ _
 refine ao (ju (o8 (zAZ I3 B L (.inl E) t (fun s2 I4=>?_) (.inr E))))
 refine ju (o8 (zAZ I4 B hi (.inl C) U (fun s3 G=>nH (bf ?_)) (.inr C)))
 rw[List.set_comm _ _ (d9 n)]at G
 exact⟨_,F,G,r⟩
def zKd (c:TT)(tb:TS):TS:=fun D σ H=>∃W:Nat->St->Hp->Prop,(∃m,W m σ H)/\∀m σ H,W m σ H->
 c σ H fun b H1=>if b=true then∃N:St->Hp->Prop,(∀σ' H',N σ' H'->∃m',m'<m/\W m' σ' H')/\tb {D with nx:=N,ct:=N,bk:=D.nx} σ H1 else D.nx σ H1
theorem zDG {c:cb}{body:List cJ}{t:TT}{u:TS}(x:PassesOwn (model X.prog X.w) X.A X.env X.xe)(F:PT X c t)(G:uF X body u):PS X (.While c body [] pos) (zKd t u):=by
 intro a s σ H D I h
 obtain⟨W,⟨J,L⟩,d⟩:=h
 refine wpAny_While (codeAny_whileLoop (fun n s'=>∃y H',Inv X a y H' s'/\W n y H') ?_ J ⟨σ,H,I,L⟩)
 rintro n M ⟨i,z,O,P⟩
 refine eV x (zK (F a M i z _ O (d n i z P)) fun b Q ⟨B,C,j⟩=>?_)
 cases b with
 |true=>
  obtain⟨N,E,j⟩:=j
  rw[if_pos rfl]
  refine eV x (zK (G a Q i B _ C j) fun f R l=>?_)
  cases f with
  |next=>
   obtain⟨e,g,m,o⟩:=l
   obtain⟨p,q,r⟩:=E e g o
   exact⟨p,q,e,g,m,r⟩
  |cont=>
   obtain⟨e,g,m,o⟩:=l
   obtain⟨p,q,r⟩:=E e g o
   exact⟨p,q,e,g,m,r⟩
  |brk=>exact l
  |ret v=>exact l
 |false=>
  rw[if_neg aI]
  exact ic ⟨i,B,C,j⟩
end
structure It where
 go:Nat->Hp->Prop
 yld:Nat->Hp->V->Hp->Prop
 stop:Nat->Hp->Prop
def u7 (X:Cx)(pins:List (ai×Obj))(H:Hp)(b:ai):Prop :=
 H b=none/\b≠X.env.locals/\b∉X.fs/\(b∈X.ex\/X.s₀.heap.objs.size<=b)/\(∀x c,X.env.cells.lookup x=some c->c≠b)/\∀p∈X.pn++pins,p.1≠b
theorem Inv.fpOk {X:Cx}{a:List (ai×Obj)}{σ:St}{H H':Hp}{s:au}{b:ai}(I:Inv X a σ H s)(d:s.heap.objs.size<=b)(f:H' b=none):u7 X a H' b:=by
 refine⟨f,dY (bw I.lt d),I.nofs d,.inr (b8 I.sz d),fun x c e z=>?_,fun p g z=>?_⟩
 ·obtain⟨v,q⟩:=I.cell x c e
  exact absurd (bw q.lt (by rw[z];exact d)) (bO _)
 ·exact absurd (bw (aM (I.pin p g).1) (by rw[z];exact d)) (bO _)
structure Turn (P:aP) (w:bc) (K:ae) (tg:cb) (J:It) (fp:List ai) (it:ai) (tn:Nat->bK->Prop):Prop where
 mem:it∈fp
 obj:∀i h,tn i h->∀b∈fp,∃o,h.get? b=some o/\∀v,o.data≠.cell v
 keep:∀i h h',tn i h->(∀b∈fp,∀o,h.get? b=some o->h'.get? b=some o)->tn i h'
 item:∀(X:Cx),X.prog=P->X.w=w->X.K=K->X.calm=true->∀(i:Nat) (pins:List (ai×Obj)) (s:au) (σ:St) (H:Hp) (E:ah->au->Prop),Inv X pins σ H s->(∀b∈fp,u7 X pins H b)->tn i s.heap->J.go i H->
  wpAny (model P w) X.A (pyNext (.ref it)) (fun r s1=>∃u,r=some u/\
   wpAny (model P w) X.A (letOwnedTupleGo tg (.ref it) u) (fun _ s2=>∃x H',Inv X pins σ H' s2/\zW x u/\J.yld i H x H'/\tn (i+1) s2.heap/\∀b∈fp,H' b=none) E s1) E s
 done:∀(X:Cx),X.prog=P->X.w=w->X.K=K->X.calm=true->∀(i:Nat) (pins:List (ai×Obj)) (s:au) (σ:St) (H:Hp) (E:ah->au->Prop),Inv X pins σ H s->(∀b∈fp,u7 X pins H b)->tn i s.heap->J.stop i H->
  wpAny (model P w) X.A (pyNext (.ref it)) (fun r s1=>r=none/\Inv X pins σ H s1) E s
 self:∀(A:bU) (i:Nat) (s:au) (Q:ah->au->Prop) (E:ah->au->Prop),tn i s.heap->Q (.ref it) s->wpAny (model P w) A (pyIter (.ref it)) Q E s
abbrev TI:=St->Hp->(It->Hp->Prop)->Prop
def PIE (X:Cx)(pins:List (ai×Obj))(σ:St)(tg:cb)(R:It->Hp->Prop)(itv:ah)(s2:au):Prop :=
 ∃(it:ai) (fp:List ai) (tn:Nat->bK->Prop) (J:It) (H':Hp),itv=.ref it/\Inv X pins σ H' s2/\Turn X.prog X.w X.K tg J fp it tn/\tn 0 s2.heap/\(∀b∈fp,u7 X pins H' b)/\R J H'
def PI (X:Cx)(tg iter:cb)(wi:TI):Prop :=
 ∀(pins:List (ai×Obj)) (s:au) (σ:St) (H:Hp) (R:It->Hp->Prop),Inv X pins σ H s->wi σ H R->
  wpAny (model X.prog X.w) X.A (eval iter X.env) (fun v s1=>wpAny (model X.prog X.w) X.A (pyIter v) (PIE X pins σ tg R) X.xe s1) X.xe s
theorem zAc {M:nF}{A:bU}{E:ah->au->Prop}{s:au}{b:cb}{it:ai}{u:ah}{o:Obj}{n:String}{vs:Array ah}{Q:Unit->au->Prop}(c:s.heap.get? it=some o)(d:o.cls=.type n)(hd:o.data=.fields vs)
  (e:["enumerate","zip","dict_itemiterator","dict_reverseitemiterator","odict_iterator","itertools.zip_longest","itertools.pairwise"].contains n=false) (a:Q () s):wpAny M A (letOwnedTupleGo b (.ref it) u) Q E s:=by
 unfold letOwnedTupleGo
 cases b<;>first
  |exact bf a
  |(cases u<;>first
    |exact bf a
    |(refine ao (wpAny_load c ?_)
      rw[d,hd]
      show wpAny M A (if(["enumerate","zip","dict_itemiterator","dict_reverseitemiterator","odict_iterator","itertools.zip_longest","itertools.pairwise"].contains n&&vs[0]? ==some (rawInt _))=true then _ else _) Q E s
      rw[if_neg (by intro h;rw[e,fS]at h;cases h)]
      exact bf a))
def Itl (K:ae)(a:ai):It :=
 ⟨fun i H=>∃xs x,z9 K H a xs/\xs[i]?=some x,fun i H x H'=>H'=H/\∀xs,z9 K H a xs->xs[i]?=some x,fun i H=>∃xs,z9 K H a xs/\xs.length<=i⟩
def Itt (K:ae)(a:ai):It :=
 ⟨fun i H=>∃xs x,yH K H a xs/\xs[i]?=some x,fun i H x H'=>H'=H/\∀xs,yH K H a xs->xs[i]?=some x,fun i H=>∃xs,yH K H a xs/\xs.length<=i⟩
def Itr (lo:Int)(n:Nat):It:=⟨fun i _=>i<n,fun i H x H'=>H'=H/\x=.int (lo+i),fun i _=>n<=i⟩
theorem zKe {P:aP}{w:bc}{K:ae}{L:cb}(a it:ai):Turn P w K L (Itl K a) [it] it (fun i h=>h.IsListIter it a i) where
 mem:=by simp
 obj:=fun i h st b g=>by
  have e:b=it:=by simpa using g
  subst e
  obtain⟨o,e,c,d⟩:=st
  exact⟨o,e,fun v z=>by rw[d]at z;cases z⟩
 keep:=fun i h h' st k=>st.at fun o e=>k it (by simp) o e
 item:=by
  intro X n q r J i f s σ H E I l st t
  subst n q r
  obtain⟨xs,x,m,y⟩:=t
  obtain⟨A,B,p,M⟩:=I.list m
  obtain⟨u,N,O⟩:=B.get y
  obtain⟨C,f1,f2,D,F,G⟩:=l it (by simp)
  refine wpAny_pyNext_list_item st p.isList (x:=u) (by simpa using N) fun h' j sb=>?_
  have Q:Inv X f σ H {s with heap:=h'}:=I.turned (t':=s.toks) (fun b o g e=>(sb.2 b g).trans e) C f1 D F G
  obtain⟨o,e,c,d⟩:=id j
  exact⟨u,rfl,zAc (s:={s with heap:=h'}) e c d (by decide) ⟨x,H,Q,O,⟨rfl,fun ys R=>by rw[I.list_inj R m];exact y⟩,j,fun b g=>(l b g).1⟩⟩
 done:=by
  intro X n q r J i f s σ H E I l st t
  subst n q r
  obtain⟨xs,m,y⟩:=t
  obtain⟨A,B,p,M⟩:=I.list m
  obtain⟨C,f1,f2,D,F,G⟩:=l it (by simp)
  have hl:=B.length
  exact wpAny_pyNext_list_end (I.ok.hd J) st p.isList (by simp;omega) fun h' T=>⟨rfl,I.turned (t':=s.toks) (fun b o g e=>T b o g e) C f1 D F G⟩
 self:=fun _ _ _ _ _ st h=>wpAny_pyIter_listiter st h
theorem zKf {P:aP}{w:bc}{K:ae}{L:cb}(a it:ai):Turn P w K L (Itt K a) [it] it (fun i h=>h.IsTupleIter it a i) where
 mem:=by simp
 obj:=fun i h st b g=>by
  have e:b=it:=by simpa using g
  subst e
  obtain⟨o,e,c,d⟩:=st
  exact⟨o,e,fun v z=>by rw[d]at z;cases z⟩
 keep:=fun i h h' st k=>st.at fun o e=>k it (by simp) o e
 item:=by
  intro X q r t J i f s σ H E I m st y
  subst q r t
  obtain⟨xs,x,n,A⟩:=y
  obtain⟨j,B,p,M⟩:=I.tuple n
  obtain⟨u,N,O⟩:=B.get A
  obtain⟨C,f1,f2,D,F,G⟩:=m it (by simp)
  refine wpAny_pyNext_tuple_item st (show s.heap.IsTuple a j.toArray from p) (x:=u) (by simpa using N) fun h' l sb=>?_
  have Q:Inv X f σ H {s with heap:=h'}:=I.turned (t':=s.toks) (fun b o g e=>(sb.2 b g).trans e) C f1 D F G
  obtain⟨o,e,c,d⟩:=id l
  exact⟨u,rfl,zAc (s:={s with heap:=h'}) e c d (by decide) ⟨x,H,Q,O,⟨rfl,fun ys R=>by rw[I.tuple_inj R n];exact A⟩,l,fun b g=>(m b g).1⟩⟩
 done:=by
  intro X q r t J i f s σ H E I m st y
  subst q r t
  obtain⟨xs,n,A⟩:=y
  obtain⟨j,B,p,M⟩:=I.tuple n
  obtain⟨C,f1,f2,D,F,G⟩:=m it (by simp)
  have hl:=B.length
  exact wpAny_pyNext_tuple_end (I.ok.hd J) st (show s.heap.IsTuple a j.toArray from p) (by simp;omega) fun h' T=>⟨rfl,I.turned (t':=s.toks) (fun b o g e=>T b o g e) C f1 D F G⟩
 self:=fun _ _ _ _ _ st h=>wpAny_pyIter_tupleiter st h
theorem zKg {P:aP}{w:bc}{K:ae}{A:cb}(it:ai)(lo:Int)(n:Nat):Turn P w K A (Itr lo n) [it] it (fun i h=>mC h it (lo+(i:Nat)*1) ((n:Int)- (i:Nat)) 1) where
 mem:=by simp
 obj:=fun i h st b c=>by
  have e:b=it:=by simpa using c
  subst e
  exact⟨_,st,fun v z=>by
   have B:Data.fields _=Data.cell v:=z
   cases B⟩
 keep:=fun i h h' st k=>k it (by simp) _ st
 item:=by
  intro X g j l m i a s σ H E I f st p
  subst g j l
  obtain⟨q,f1,f2,r,u,x⟩:=f it (by simp)
  have W:=rF (prog:=X.prog) (w:=X.w) (I.ok.hd m) it lo 1 n
  refine W.item i s _ _ p st fun v h' y C d D=>?_
  obtain⟨t,rfl⟩:=C
  have F:Inv X a σ H {s with heap:=h',toks:=y}:=I.turned (fun b o c e=>D b o (by simpa using c) e) q f1 r u x
  refine⟨_,rfl,zAc (s:={s with heap:=h',toks:=y}) (n :="range_iterator") d rfl rfl (by decide) ⟨.int (lo+i),H,F,⟨t,?_⟩,⟨rfl,rfl⟩,d,fun b c=>(f b c).1⟩⟩
  rw[Int.mul_one]
 done:=by
  intro X g j l m i a s σ H E I f st p
  subst g j l
  obtain⟨q,f1,f2,r,u,x⟩:=f it (by simp)
  exact lO (I.ok.hd m) st (by have:n<=i:=p;omega) fun h' G=>⟨rfl,I.turned (t':=s.toks) (fun b o c e=>G b o c e) q f1 r u x⟩
 self:=fun _ _ _ _ _ st h=>lP st h
section
variable{X:Cx}{tg:cb}
def zFr (K:ae)(tl:TE):TI:=fun σ H R=>tl σ H fun x H1=>∃a,x=.ref a/\(∃xs,z9 K H1 a xs)/\R (Itl K a) H1
def zKh (K:ae)(tl:TE):TI:=fun σ H R=>tl σ H fun x H1=>∃a,x=.ref a/\(∃xs,yH K H1 a xs)/\R (Itt K a) H1
theorem vQ {l:cb}{g:TE}(hl:PE X l g):PI X tg l (zFr X.K g):=by
 intro c s σ H R I h
 refine zK (hl c s σ H _ I h) fun v d ⟨x,i,f,j,m⟩=>?_
 obtain⟨a,e,⟨xs,n⟩,q⟩:=m
 subst e
 cases j
 obtain⟨r,u,p,w⟩:=f.list n
 refine fL p.isList ?_
 refine⟨d.heap.objs.size,[d.heap.objs.size],_,_,i,rfl,f.kept (t':=d.toks) fun b o e=>ag _ e,zKe a _,⟨_,aZ _ rfl,rfl,rfl⟩,fun b t=>?_,q⟩
 have e:b=d.heap.objs.size:=by simpa using t
 subst e
 exact f.fpOk (aH _) (f.hok.fresh (aH _))
theorem zAd {l:cb}{i:TE}(hl:PE X l i):PI X tg l (zKh X.K i):=by
 intro c s σ H R I h
 refine zK (hl c s σ H _ I h) fun v d ⟨x,j,f,m,n⟩=>?_
 obtain⟨a,e,⟨xs,r⟩,q⟩:=n
 subst e
 cases m
 obtain⟨g,u,p,w⟩:=f.tuple r
 refine ft (show d.heap.IsTuple a g.toArray from p) ?_
 refine⟨d.heap.objs.size,[d.heap.objs.size],_,_,j,rfl,f.kept (t':=d.toks) fun b o e=>ag _ e,zKf a _,⟨_,aZ _ rfl,rfl,rfl⟩,fun b t=>?_,q⟩
 have e:b=d.heap.objs.size:=by simpa using t
 subst e
 exact f.fpOk (aH _) (f.hok.fresh (aH _))
theorem zFs {a:List (ai×Obj)}{σ:St}{H:Hp}{s:au}{R:It->Hp->Prop}{E:ah->au->Prop}{lo hi:Int}{t u v:Tok}{c:Nat}(I:Inv X a σ H s)(f:-(2^62)<=lo)(g:lo<2^62)(h:-(2^62)<=hi)(i:hi<2^62)
  (q:R (Itr lo (hi-lo).toNat) H):wpAny (model X.prog X.w) X.A (pyIter (.ref s.heap.objs.size)) (PIE X a σ tg R) E {s with heap:=s.heap.push {cls:=.type "range",data:=.fields #[.int lo t,.int hi u,.int 1 v]},toks:=c}:=by
 refine nk (rG ..) (small_one f g h i) ?_
 have d:Inv X a σ H {s with heap:=s.heap.push {cls:=.type "range",data:=.fields #[.int lo t,.int hi u,.int 1 v]},toks:=c}:=I.kept fun b o e=>ag _ e
 refine⟨(s.heap.push {cls:=.type "range",data:=.fields #[.int lo t,.int hi u,.int 1 v]}).objs.size,[(s.heap.push {cls:=.type "range",data:=.fields #[.int lo t,.int hi u,.int 1 v]}).objs.size],_,_,H,rfl,
  d.kept (t':=c) fun b o e=>ag _ e,zKg _ lo (hi-lo).toNat,?_,fun b j=>?_,q⟩
 ·have l:lo+((0:Nat):Int)*1=lo:=by simp
  have m:(((hi-lo).toNat:Nat):Int)- ((0:Nat):Int)=fi lo hi 1:=by rw[rangeSize_one];split<;>omega
  show mC _ _ (lo+((0:Nat):Int)*1) ((((hi-lo).toNat:Nat):Int)- ((0:Nat):Int)) 1
  rw[l,m]
  exact aZ _ rfl
 ·have e:b=(s.heap.push {cls:=.type "range",data:=.fields #[.int lo t,.int hi u,.int 1 v]}).objs.size:=by simpa using j
  subst e
  exact d.fpOk (aH _) (d.hok.fresh (aH _))
def zKi (ta:TA):TI:=fun σ H R=>ta σ H fun vs H1=>∃j:Int,vs=[.int j]/\-(2^62)<=j/\j<2^62/\R (Itr 0 j.toNat) H1
def zKj (ta:TA):TI:=fun σ H R=>ta σ H fun vs H1=>∃i j:Int,vs=[.int i,.int j]/\(-(2^62)<=i/\i<2^62/\-(2^62)<=j/\j<2^62)/\R (Itr i (j-i).toNat) H1
theorem qF {a:cb}{d:TA}{p pos:Pos}(f:Gl X "range")(g:X.mg "range"=none)(i:PA X [a] d)(l:starEach [a] X.env=[(false,eval a X.env)]:=by rfl):PI X tg (.Call (.Name "range" p) [a] [] pos) (zKi d):=by
 intro b s σ H R I h
 refine qu (kN I f g o9 (cK (zK (i pos b s σ H _ I h) fun us v ⟨vs,w,m,n,c⟩=>?_) l rfl))
 obtain⟨j,e,c,o,q⟩:=c
 subst e
 cases n with
 |cons r u=>
  cases u
  obtain⟨t,rfl⟩:=r
  exact call_range_1 (zFs m (by omega) (by omega) c o (by simpa using q))
theorem zKk {a b:cb}{l:TA}{p pos:Pos}(m:Gl X "range")(n:X.mg "range"=none)(o:PA X [a,b] l)(u:starEach [a,b] X.env=[(false,eval a X.env),(false,eval b X.env)]:=by rfl)(c:starEach [b] X.env=[(false,eval b X.env)]:=by rfl) :
  PI X tg (.Call (.Name "range" p) [a,b] [] pos) (zKj l):=by
 intro d s σ H R I h
 refine qu (kN I m n o9 (cK (zK (o pos d s σ H _ I h) fun us B ⟨vs,C,v,w,f⟩=>?_) (by rw[u,c]) (by rw[c];rfl)))
 obtain⟨i,j,e,⟨f,x,y,z⟩,q⟩:=f
 subst e
 cases w with
 |cons r g=>
  cases g with
  |cons A g=>
   cases g
   obtain⟨t,rfl⟩:=r
   obtain⟨t',rfl⟩:=A
   exact call_range_2 (zFs v f x y z q)
def zKl (wi:TI)(g:TG)(tb:TS):TS:=fun D σ H=>wi σ H fun J H1=>∃W:Nat->Nat->St->Hp->Prop,(∃m,W 0 m σ H1)/\∀i m σ H,W i m σ H->
 (J.stop i H/\D.nx σ H)\/(J.go i H/\∃N:St->Hp->Prop,(∀σ' H',N σ' H'->∃m',m'<m/\W (i+1) m' σ' H')/\∀x H',J.yld i H x H'->g x σ H' fun σ2 H2=>tb {D with nx:=N,ct:=N,bk:=D.nx} σ2 H2)
def zAA (fp:List ai)(h:bK):List (ai×Obj):=fp.filterMap fun b=>(h.get? b).map fun o=>(b,o)
theorem kP {fp:List ai}{h:bK}{b:ai}{o:Obj}(a:b∈fp)(e:h.get? b=some o):(b,o)∈zAA fp h:=jv.mpr ⟨b,a,by rw[e];rfl⟩
theorem zKm {fp:List ai}{h:bK}{p:ai×Obj}(a:p∈zAA fp h):p.1∈fp/\h.get? p.1=some p.2:=by
 obtain⟨b,c,e⟩:=jv.mp a
 cases q:h.get? b with
 |none=>rw[q]at e;cases e
 |some o=>
  rw[q]at e
  have d:(b,o)=p:=aw e
  subst d
  exact⟨c,q⟩
theorem Inv.pinned {a:List (ai×Obj)}{σ:St}{H:Hp}{s:au}{fp:List ai}(I:Inv X a σ H s)(g:∀b∈fp,u7 X a H b)(h:∀b∈fp,∃o,s.heap.get? b=some o/\∀v,o.data≠.cell v):Inv X (a++zAA fp s.heap) σ H s :=
 I.pins_of fun p i=>(bP.mp i).elim (fun z=>I.pin p (aT _ z)) fun z=>by
  obtain⟨c,e⟩:=zKm z
  obtain⟨j,f1,f2,_⟩:=g p.1 c
  obtain⟨o,f,d⟩:=h p.1 c
  rw[e]at f;cases f
  exact⟨e,j,f1,f2,d⟩
theorem Inv.unpinned {a b:List (ai×Obj)}{σ:St}{H:Hp}{s:au}(I:Inv X (a++b) σ H s):Inv X a σ H s:=I.pins_of fun p c=>I.pin p (aT _ (bS _ c))
theorem uA {iter:cb}{body:List cJ}{Y:TI}{g:TG}{Z:TS}{pos:Pos}(z:PassesOwn (model X.prog X.w) X.A X.env X.xe)(hc:X.calm=true)(hi:PI X tg iter Y)(hg:PG X tg g)(c:uF X body Z)
  (hs:∀x,foldedSetIterable iter X.env x=pure x:=by intro _;rfl):PS X (.For tg iter body [] pos) (zKl Y g Z):=by
 intro a s σ H D I h
 refine wpAny_For (zK (hi a s σ H _ I h) fun v s1 h1=>zK h1 fun ab s2 h2=>?_) hs
 obtain⟨it,fp,tn,J,H2,e,I2,T,O,f2,W,⟨m0,w0⟩,B⟩:=h2
 subst e
 have j:∀{H':Hp},(∀b∈fp,H' b=none)->∀b∈fp,u7 X a H' b:=fun hn b c=>⟨hn b c,(f2 b c).2⟩
 refine codeAny_forLoop_any (fun n s'=>∃i C H',Inv X a C H' s'/\tn i s'.heap/\(∀b∈fp,H' b=none)/\W i n C H') ?_ m0 ⟨0,σ,H2,I2,O,fun b c=>(f2 b c).1,w0⟩
 rintro n s3 ⟨i,E,M,I3,F,G,w3⟩
 rcases B i n E M w3 with⟨stop,qn⟩|⟨go,N,hN,step⟩
 ·refine eV z (zK (T.done X rfl rfl rfl hc i a s3 E M X.xe I3 (j G) F stop) fun r s4 ⟨P,I4⟩=>?_)
  subst P
  exact ic ⟨E,M,I4,qn⟩
 ·refine eV z (zK (T.item X rfl rfl rfl hc i a s3 E M X.xe I3 (j G) F go) fun r s4 ⟨u,P,h4⟩=>?_)
  subst P
  refine eV z (zK h4 fun _ s5 ⟨x,H5,I5,r5,y5,y,Q⟩=>?_)
  have R:=I5.pinned (j Q) (T.obj _ _ y)
  refine eV z (zK (hg _ s5 E H5 x u _ R r5 (step x H5 y5)) fun _ s6 ⟨σ6,H6,I6,q6⟩=>?_)
  refine eV z (zK (c _ s6 σ6 H6 _ I6 q6) fun f U t=>?_)
  have again:∀{l:St} {p:Hp},Inv X (a++zAA fp s5.heap) l p U->N l p->∃m,m<n/\∃i C H',Inv X a C H' U/\tn i U.heap/\(∀b∈fp,H' b=none)/\W i m C H':=fun{l p} q L=>by
   obtain⟨m',hm,w7⟩:=hN l p L
   refine⟨m',hm,i+1,l,p,q.unpinned,T.keep _ _ _ y fun b c o e=>(q.pin (b,o) (aT _ (aT _ (kP c e)))).1,fun b c=>?_,w7⟩
   obtain⟨o,e,d⟩:=T.obj _ _ y b c
   exact(q.pin (b,o) (aT _ (aT _ (kP c e)))).2.1
  cases f with
  |next=>obtain⟨l,p,q,L⟩:=t;exact again q L
  |cont=>obtain⟨l,p,q,L⟩:=t;exact again q L
  |brk=>obtain⟨l,p,q,t⟩:=t;exact⟨l,p,q.unpinned,t⟩
  |ret v=>obtain⟨x7,l,p,q,r7,t⟩:=t;exact⟨x7,l,p,q.unpinned,r7,t⟩
end
abbrev R2:=V->V->Hp->VK->Prop
def yN (X:Cx)(f:ah->ah->Sem ah)(r:R2):Prop :=
 ∀(pins:List (ai×Obj)) (s:au) (σ:St) (H:Hp) (x y:V) (v u:ah) (Q:VK),Inv X pins σ H s->zW x v->zW y u->r x y H Q->
  wpAny (model X.prog X.w) X.A (f v u) (EP X pins σ Q) X.xe s
def UnR (X:Cx)(f:ah->Sem ah)(r:V->Hp->VK->Prop):Prop :=
 ∀(pins:List (ai×Obj)) (s:au) (σ:St) (H:Hp) (x:V) (v:ah) (Q:VK),Inv X pins σ H s->zW x v->r x H Q->
  wpAny (model X.prog X.w) X.A (f v) (EP X pins σ Q) X.xe s
def uV (X:Cx)(f:ah)(r:List V->Hp->VK->Prop):Prop :=
 ∀(pins:List (ai×Obj)) (s:au) (σ:St) (H:Hp) (xs:List V) (us:List ah) (Q:VK),Inv X pins σ H s->zS xs us->r xs H Q->
  wpAny (model X.prog X.w) X.A (call f us) (EP X pins σ Q) X.xe s
def gK (r:R2)(ta tb:TE):TE:=fun σ H Q=>ta σ H fun x H1=>tb σ H1 fun y H2=>r x y H2 Q
def tUn (r:V->Hp->VK->Prop)(ta:TE):TE:=fun σ H Q=>ta σ H fun x H1=>r x H1 Q
def rI (C:Int->Int->Prop)(g:Int->Int->V):R2:=fun x y H Q=>∃i j,x=.int i/\y=.int j/\C i j/\Q (g i j) H
def jY (g:Int->Int->V):R2:=fun x y H Q=>∃i j,x=.int i/\y=.int j/\Q (g i j) H
def rU (g:Int->V):V->Hp->VK->Prop:=fun x H Q=>∃i,x=.int i/\Q (g i) H
section
variable{X:Cx}{a b c:cb}{ta tb tc:TE}{pos:Pos}
theorem zDH (j:PE X a ta)(l:PE X b tb){d:List (ai×Obj)}{s:au}{σ:St}{H:Hp}{R:V->V->Hp->Prop}(I:Inv X d σ H s)
  (h:ta σ H fun x i=>tb σ i fun y e=>R x y e) {Q:ah->au->Prop} {f:ah->ah->Sem ah}
  (m:∀v u g x y e,Inv X d σ e g->zW x v->zW y u->R x y e->wpAny (model X.prog X.w) X.A (f v u) Q X.xe g) :
  wpAny (model X.prog X.w) X.A (eval a X.env) (fun v n=>wpAny (model X.prog X.w) X.A (eval b X.env) (fun u o=>wpAny (model X.prog X.w) X.A (f v u) Q X.xe o) X.xe n) X.xe s:=by
 refine zK (j d s σ H _ I h) fun v p ⟨x,i,q,r,t⟩=>?_
 refine zK (l d p σ i _ q t) fun u g ⟨y,e,z,B,C⟩=>?_
 exact m v u g x y e z r B C
theorem zP {op:Operator}{r:R2}(e:yN X (binaryOp op) r)(f:PE X a ta)(g:PE X b tb):PE X (.BinOp a op b pos) (gK r ta tb):=by
 intro d s σ H Q I h
 exact wpAny_BinOp (zDH f g I h fun v u i x y j l m n q=>e d i σ j x y v u Q l m n q)
theorem zAe {op:UnaryOp}{r:V->Hp->VK->Prop}(e:UnR X (unaryOp op) r)(f:PE X a ta):PE X (.UnaryOp op a pos) (tUn r ta):=by
 intro d s σ H Q I h
 exact UnaryOp_ (zK (f d s σ H _ I h) fun v g ⟨x,i,j,l,m⟩=>e d g σ i x v Q j l m)
theorem opI {f:ah->ah->Sem ah}{C:Int->Int->Prop}{g:Int->Int->Int}
  (rule:∀(i j:Int) (t u:Tok) (s:au) (Q:ah->au->Prop) (E:ah->au->Prop),C i j->Q (.int (g i j) s.toks) {s with toks:=s.toks+1}->wpAny (model X.prog X.w) X.A (f (.int i t) (.int j u)) Q E s) :
  yN X f (rI C fun i j=>.int (g i j)):=by
 intro d s σ H x y v u Q I e l h
 obtain⟨i,j,rfl,rfl,m,q⟩:=h
 obtain⟨t,rfl⟩:=e
 obtain⟨t',rfl⟩:=l
 exact rule i j t t' s _ _ m ⟨.int (g i j),H,I.tok _,⟨_,rfl⟩,q⟩
theorem zFt {f:ah->ah->Sem ah}{g:Int->Int->Int}
  (rule:∀(i j:Int) (t u:Tok) (s:au) (Q:ah->au->Prop) (E:ah->au->Prop),Q (.int (g i j) s.toks) {s with toks:=s.toks+1}->wpAny (model X.prog X.w) X.A (f (.int i t) (.int j u)) Q E s) :
  yN X f (jY fun i j=>.int (g i j)):=by
 intro d s σ H x y v u Q I e l h
 obtain⟨i,j,rfl,rfl,q⟩:=h
 obtain⟨t,rfl⟩:=e
 obtain⟨t',rfl⟩:=l
 exact rule i j t t' s _ _ ⟨.int (g i j),H,I.tok _,⟨_,rfl⟩,q⟩
theorem zDI {f:ah->ah->Sem ah}{g:Int->Int->Bool}
  (rule:∀(i j:Int) (t u:Tok) (s:au) (Q:ah->au->Prop) (E:ah->au->Prop),Q (.bool (g i j)) s->wpAny (model X.prog X.w) X.A (f (.int i t) (.int j u)) Q E s) :
  yN X f (jY fun i j=>.bl (g i j)):=by
 intro d s σ H x y v u Q I e l h
 obtain⟨i,j,rfl,rfl,q⟩:=h
 obtain⟨t,rfl⟩:=e
 obtain⟨t',rfl⟩:=l
 exact rule i j t t' s _ _ ⟨.bl (g i j),H,I,rfl,q⟩
def zKn (i j:Int):Prop:=0<j/\j<1073741824
def zAf (i j:Int):Prop:=(-(2^64)<i/\i<2^64)\/(-(2^64)<j/\j<2^64)
theorem zAf.ok {i j:Int}(h:zAf i j):IntMulOk i j:=by
 rcases h with⟨d,e⟩|⟨d,e⟩
 ·exact .of_left (pX d e)
 ·exact .of_right (pX d e)
theorem vD:yN X (binaryOp .Add) (jY fun i j=>.int (i+j)):=zFt fun _ _ _ _ _ _ _ q=>add_int q
theorem zAg:yN X (binaryOp .Sub) (jY fun i j=>.int (i-j)):=zFt fun _ _ _ _ _ _ _ q=>sub_int q
theorem uO:yN X (binaryOp .Mult) (rI zAf fun i j=>.int (i*j)):=opI fun _ _ _ _ _ _ _ d q=>mul_int q d.ok
theorem zBm:yN X (binaryOp .FloorDiv) (rI zKn fun i j=>.int (i/j)):=opI fun i j _ _ _ _ _ d q=>by
 have e:(0:Int)<j:=d.1
 have f:j<1073741824:=d.2
 exact floordiv_int (by omega) (by rw[jw i (by omega)];exact q) (.inl (lQ (by omega)))
theorem gL:yN X (binaryOp .Mod) (rI (fun _ j=>0<j) fun i j=>.int (i%j)):=opI fun i j _ _ _ _ _ d q=>by
 have e:(0:Int)<j:=d
 exact mod_int' (by omega) (by rw[Int.fmod_eq_emod_of_nonneg i (by omega)];exact q)
theorem unI {f:ah->Sem ah}{g:Int->Int}
  (rule:∀(i:Int) (t:Tok) (s:au) (Q:ah->au->Prop) (E:ah->au->Prop),Q (.int (g i) s.toks) {s with toks:=s.toks+1}->wpAny (model X.prog X.w) X.A (f (.int i t)) Q E s) :
  UnR X f (rU fun i=>.int (g i)):=by
 intro d s σ H x v Q I e h
 obtain⟨i,rfl,q⟩:=h
 obtain⟨t,rfl⟩:=e
 exact rule i t s _ _ ⟨.int (g i),H,I.tok _,⟨_,rfl⟩,q⟩
theorem zAh:UnR X (unaryOp .USub) (rU fun i=>.int (-i)):=unI fun _ _ _ _ _ q=>neg_int q
end
def zFu:V->V->Bool
 | .non,.non=>true| .non,.int _=>true| .int _,.non=>true| .non,.bl _=>true| .bl _,.non=>true| .non,.str _=>true| .str _,.non=>true
 | .int _,.int _=>true| .bl _,.bl _=>true| .str _,.str _=>true| .byt _,.byt _=>true
 | .int _,.str _=>true| .str _,.int _=>true| .bl _,.str _=>true| .str _,.bl _=>true
 |_,_=>false
def rEq:R2:=fun x y H Q=>zFu x y=true/\Q (.bl (decide (x=y))) H
def rNe:R2:=fun x y H Q=>zFu x y=true/\Q (.bl (!decide (x=y))) H
theorem zFv {i j:Int}:decide (V.int i=V.int j)=(i==j):=by
 rw[eE]
 simp
theorem zFw {i j:Bool}:decide (V.bl i=V.bl j)=(i==j):=by
 rw[eE]
 simp
theorem zFx {i j:Str}:decide (V.str i=V.str j)=(i==j):=by
 rw[eE]
 simp
theorem zFy {i j:Array UInt8}:decide (V.byt i=V.byt j)=(i.toList==j.toList):=by
 rw[eE]
 cases i
 cases j
 simp
section
variable{X:Cx}{a b c:cb}{ta tb tc:TE}{pos:Pos}
theorem vE {d:List (ai×Obj)}{σ:St}{H:Hp}{s:au}{Q:VK}{k f:Bool}(I:Inv X d σ H s)(q:Q (.bl k) H)(e:k=f):EP X d σ Q (.bool f) s:=by
 subst e
 exact⟨.bl k,H,I,rfl,q⟩
theorem zDJ:yN X (compareOp .Eq) rEq:=by
 intro g s σ H x y v u Q I f d h
 obtain⟨e,q⟩:=h
 cases x with
 |non=>
  cases f
  cases y with
  |non=>cases d;exact pI (vE I q (by simp))
  |bl j=>cases d;exact pJ (vE I q (by simp))
  |int j=>obtain⟨t',rfl⟩:=d;exact pY (vE I q (by simp))
  |str j=>obtain⟨t',rfl⟩:=d;exact pZ (vE I q (by simp))
  |_=>exact absurd (show false=true from e) aI
 |bl i=>
  cases f
  cases y with
  |non=>cases d;exact pK (vE I q (by simp))
  |bl j=>cases d;exact eq_bool (vE I q zFw)
  |str j=>obtain⟨t',rfl⟩:=d;exact pL (vE I q (by simp))
  |_=>exact absurd (show false=true from e) aI
 |int i=>
  obtain⟨t,rfl⟩:=f
  cases y with
  |non=>cases d;exact p7 (vE I q (by simp))
  |int j=>obtain⟨t',rfl⟩:=d;exact eq_int (vE I q zFv)
  |str j=>obtain⟨t',rfl⟩:=d;exact p8 (vE I q (by simp))
  |_=>exact absurd (show false=true from e) aI
 |str i=>
  obtain⟨t,rfl⟩:=f
  cases y with
  |non=>cases d;exact p9 (vE I q (by simp))
  |bl j=>cases d;exact pM (vE I q (by simp))
  |int j=>obtain⟨t',rfl⟩:=d;exact qa (vE I q (by simp))
  |str j=>obtain⟨t',rfl⟩:=d;exact eq_str (vE I q zFx)
  |_=>exact absurd (show false=true from e) aI
 |byt i=>
  obtain⟨t,rfl⟩:=f
  cases y with
  |byt j=>obtain⟨t',rfl⟩:=d;exact PySem.W.eq_bytes (vE I q zFy)
  |_=>exact absurd (show false=true from e) aI
 |_=>cases y<;>exact absurd (show false=true from e) aI
theorem zAB:yN X (compareOp .NotEq) rNe:=by
 intro g s σ H x y v u Q I f d h
 obtain⟨e,q⟩:=h
 cases x with
 |non=>
  cases f
  cases y with
  |non=>cases d;exact pO (vE I q (by simp))
  |bl j=>cases d;exact pP (vE I q (by simp))
  |int j=>obtain⟨t',rfl⟩:=d;exact qb (vE I q (by simp))
  |str j=>obtain⟨t',rfl⟩:=d;exact qc (vE I q (by simp))
  |_=>exact absurd (show false=true from e) aI
 |bl i=>
  cases f
  cases y with
  |non=>cases d;exact pQ (vE I q (by simp))
  |bl j=>cases d;exact ne_bool (vE I q (congrArg not zFw))
  |str j=>obtain⟨t',rfl⟩:=d;exact pR (vE I q (by simp))
  |_=>exact absurd (show false=true from e) aI
 |int i=>
  obtain⟨t,rfl⟩:=f
  cases y with
  |non=>cases d;exact qd (vE I q (by simp))
  |int j=>obtain⟨t',rfl⟩:=d;exact ne_int (vE I q (congrArg not zFv))
  |str j=>obtain⟨t',rfl⟩:=d;exact qe (vE I q (by simp))
  |_=>exact absurd (show false=true from e) aI
 |str i=>
  obtain⟨t,rfl⟩:=f
  cases y with
  |non=>cases d;exact qf (vE I q (by simp))
  |bl j=>cases d;exact pS (vE I q (by simp))
  |int j=>obtain⟨t',rfl⟩:=d;exact qg (vE I q (by simp))
  |str j=>obtain⟨t',rfl⟩:=d;exact ne_str (vE I q (congrArg not zFx))
  |_=>exact absurd (show false=true from e) aI
 |byt i=>
  obtain⟨t,rfl⟩:=f
  cases y with
  |byt j=>obtain⟨t',rfl⟩:=d;exact PySem.W.ne_bytes (vE I q (congrArg not zFy))
  |_=>exact absurd (show false=true from e) aI
 |_=>cases y<;>exact absurd (show false=true from e) aI
theorem zBn:yN X (compareOp .Lt) (jY fun i j=>.bl (decide (i<j))):=zDI fun _ _ _ _ _ _ _ q=>lt_int q
theorem qM:yN X (compareOp .LtE) (jY fun i j=>.bl (decide (i<=j))):=zDI fun _ _ _ _ _ _ _ q=>le_int q
theorem zAC:yN X (compareOp .Gt) (jY fun i j=>.bl (decide (j<i))):=zDI fun _ _ _ _ _ _ _ q=>gt_int q
theorem zFz:yN X (compareOp .In) (fun x y H Q=>∃i j,x=.str i/\y=.str j/\Q (.bl (!(eA j i 0 j.length 1).isEmpty)) H):=by
 intro d s σ H x y v u Q I e f h
 obtain⟨i,j,rfl,rfl,q⟩:=h
 obtain⟨t,rfl⟩:=e
 obtain⟨t',rfl⟩:=f
 exact in_str (vE I q rfl)
theorem yN.or {f:ah->ah->Sem ah}{r e:R2}(h:yN X f r)(h':yN X f e):yN X f (fun x y H Q=>r x y H Q\/e x y H Q):=by
 intro d s σ H x y v u Q I g i q
 rcases q with q|q
 ·exact h d s σ H x y v u Q I g i q
 ·exact h' d s σ H x y v u Q I g i q
theorem yY (b:cb){op:o7}(h:op≠.In:=by decide)(d:op≠.NotIn:=by decide):behindInMarks op b=false:=by
 have e:(op==CmpOp.In)=false:=by cases op<;>first|rfl|exact absurd rfl h
 have f:(op==CmpOp.NotIn)=false:=by cases op<;>first|rfl|exact absurd rfl d
 cases b<;>simp[behindInMarks,e,f]
theorem kQ {op:o7}{r:R2}(e:yN X (compareOp op) r)(f:PE X a ta)(g:PE X b tb)(i:behindInMarks op b=false):PE X (.Compare a [op] [b] pos) (gK r ta tb):=by
 intro d s σ H Q I h
 exact wpAny_Compare1 (zDH f g I h fun v u j x y l m n o q=>e d j σ l x y v u Q m n o q) i
def zGA (t:TE):TT:=fun σ H Q=>t σ H fun x H'=>∃k,x=.bl k/\Q k H'
theorem vF {op:o7}{r:R2}(f:yN X (compareOp op) r)(g:PE X a ta)(i:PE X b tb)(j:behindInMarks op b=false):PT X (.Compare a [op] [b] pos) (zGA (gK r ta tb)):=by
 intro d s σ H Q I h
 refine mh (zK (g d s σ H _ I h) fun v l ⟨x,m,n,o,p⟩=>zK (i d l σ m _ n p) fun u q ⟨y,t,w,A,B⟩=>
  zK (f d q σ t x y v u _ w o A B) fun c G ⟨z,C,D,E,k,e,F⟩=>?_) j
 subst e
 cases E
 exact de ⟨C,D,F⟩
def zGB (r r':R2)(ta tb tc:TE):TE:=fun σ H Q=>ta σ H fun x H1=>tb σ H1 fun y H2=>r x y H2 fun z H3=>∃k,z=.bl k/\
 (if k=true then tc σ H3 fun w' H4=>r' y w' H4 Q else Q (.bl false) H3)
theorem zDK {op g:o7}{r j:R2}(p:yN X (compareOp op) r)(i:yN X (compareOp g) j)(q:PE X a ta)(t:PE X b tb)(w:PE X c tc)
  (A:lastMarks [op,g] [b,c]=false:=by with_unfolding_all rfl):PE X (.Compare a [op,g] [b,c] pos) (zGB r j ta tb tc):=by
 intro f s σ H Q I h
 refine Compare_chain (zK (q f s σ H _ I h) fun v B ⟨x,C,D,E,F⟩=>chain_link (zK (t f B σ C _ D F) fun u G ⟨y,J,L,l,M⟩=>
  zK (p f G σ J x y v u _ L E l M) fun d N ⟨z,m,n,O,k,e,o⟩=>?_)) A
 subst e
 cases O
 refine de ?_
 cases k with
 |false=>exact ite_ff ⟨.bl false,m,n,rfl,o⟩
 |true=>exact ite_tt (chain_last (zK (w f N σ m _ n o) fun P R ⟨T,U,W,Y,Z⟩=>i f R σ U y T u P Q W l Y Z))
theorem zBo {op g:o7}{r j:R2}(p:yN X (compareOp op) r)(i:yN X (compareOp g) j)(q:PE X a ta)(t:PE X b tb)(w:PE X c tc)
  (A:lastMarks [op,g] [b,c]=false:=by with_unfolding_all rfl):PT X (.Compare a [op,g] [b,c] pos) (zGA (zGB r j ta tb tc)):=by
 intro f s σ H Q I h
 refine isTrue_chain (zK (q f s σ H _ I h) fun v B ⟨x,C,D,E,F⟩=>test_link (zK (t f B σ C _ D F) fun u G ⟨y,J,L,l,M⟩=>
  zK (p f G σ J x y v u _ L E l M) fun d N ⟨z,m,n,O,k,e,o⟩=>?_)) A
 subst e
 cases O
 refine de ?_
 cases k with
 |false=>
  obtain⟨k',P,R⟩:=o
  cases P
  exact ite_ff ⟨m,n,R⟩
 |true=>
  refine ite_tt (test_last (zK (w f N σ m _ n o) fun T U ⟨W,Y,Z,r4,q4⟩=>zK (i f U σ Y y W u T _ Z l r4 q4) fun d' s5 ⟨z2,H5,I5,r5,k2,e2,q5⟩=>?_))
  subst e2
  cases r5
  exact de ⟨H5,I5,q5⟩
theorem zBN:(sizeLine:Nat)<2^63:=by rw[aR];decide
theorem zKo:yN X (binaryOp .Add) (fun x y H Q=>∃i j,x=.str i/\y=.str j/\i.length+j.length<=sizeLine/\Q (.str (i++j)) H):=by
 intro d s σ H x y v u Q I e f h
 obtain⟨i,j,rfl,rfl,g,q⟩:=h
 obtain⟨t,rfl⟩:=e
 obtain⟨t',rfl⟩:=f
 exact add_str (fun t' l=>⟨.str (i++j),H,I.tok _,⟨_,rfl⟩,q⟩) g
theorem jC {x:V}{us:List ah}(r:zS [x] us):∃u,us=[u]/\zW x u:=by
 cases r with
 |cons d e=>cases e;exact⟨_,rfl,d⟩
theorem zAi {x y:V}{us:List ah}(r:zS [x,y] us):∃u d,us=[u,d]/\zW x u/\zW y d:=by
 cases r with
 |cons e f=>
  cases f with
  |cons g h=>cases h;exact⟨_,_,rfl,e,g⟩
theorem zGC (f:X.calm=true):uV X (.builtin "max") (fun xs H Q=>∃i j,xs=[.int i,.int j]/\Q (.int (if j>i then j else i)) H):=by
 intro e s σ H xs us Q I r h
 obtain⟨i,j,rfl,q⟩:=h
 obtain⟨u,g,rfl,⟨t,rfl⟩,⟨t',rfl⟩⟩:=zAi r
 refine max_two_ints (I.ok.hd f) fun h' l k=>⟨_,H,I.kept k,?_,q⟩
 by_cases d:j>i
 ·rw[if_pos d,if_pos d];exact⟨_,rfl⟩
 ·rw[if_neg d,if_neg d];exact⟨_,rfl⟩
theorem zBp (f:X.calm=true):uV X (.builtin "min") (fun xs H Q=>∃i j,xs=[.int i,.int j]/\Q (.int (if j<i then j else i)) H):=by
 intro e s σ H xs us Q I r h
 obtain⟨i,j,rfl,q⟩:=h
 obtain⟨u,g,rfl,⟨t,rfl⟩,⟨t',rfl⟩⟩:=zAi r
 refine min_two_ints (I.ok.hd f) fun h' l k=>⟨_,H,I.kept k,?_,q⟩
 by_cases d:j<i
 ·rw[if_pos d,if_pos d];exact⟨_,rfl⟩
 ·rw[if_neg d,if_neg d];exact⟨_,rfl⟩
end
structure ObjM (h:bK) (x dx C:ai) (mA:Str->Option ah):Prop where
 obj:h.get? x=some (eU C dx)
 ns:h.Ns1 dx mA
 ne:dx≠x
theorem zKp {h:bK}{c:ai}{d:Str->Option ah}(n:h.Ns1 c d):∃od,h.get? c=some od/\∀name,mD name od=some (d name):=by
 obtain⟨o,f,ep,g,hd,i,_,j⟩:=n
 refine⟨o,g,fun name=>?_⟩
 have e:=j name
 unfold nsFind findBy at e
 rw[<-Array.find?_toList]at e
 unfold mD
 rw[hd]
 dsimp only
 split
 ·rename_i y q
  rw[q]at e
  exact congrArg some e
 ·rename_i q
  rw[q]at e
  have a:f.toList.any (·.refKey)=false:=by
   rw[nI]
   intro y l
   obtain⟨z,t,b⟩:=i y (Array.mem_toList_iff.mp l)
   simp[sF,b]
  have m:¬f.toList.any (·.refKey)=true:=by rw[a];exact aI
  rw[if_neg m]
  exact congrArg some e
theorem ObjM.look {h:bK}{x a C:ai}{b:Str->Option ah}(I:ObjM h x a C b):∃od,PySem.W.InstAt h x (eU C a) C (some od)/\∀name,mD name od=some (b name) :=
 let⟨od,c,hl⟩:=zKp I.ns
 ⟨od,⟨I.obj,rfl,rfl,c⟩,hl⟩
theorem qU.some_of {v:V}{o:Option ah}(r:qU (some v) o):∃u,o=some u/\zW v u:=by
 cases o with
 |none=>exact(show False from r).elim
 |some u=>exact⟨u,rfl,r⟩
section
variable{P:aP}{w:bc}{H H':Hp}{h h':bK}{a C dx:ai}{fs fs':List (Str×V)}
theorem zKq (hok:yB P w H h)(e:H a=some (.ins C dx fs)):∃b,ObjM h a dx C b/\(∀f,qU (fs.lookup f) (b f))/\qw b (fs.map (·.1))/\fs.length<=1000/\H dx=some (.own a):=by
 obtain⟨d,z,ne,c,b,n,r,q⟩:=(show yZ P w H h a (.ins C dx fs)from hok a _ e)
 exact⟨b,⟨c,n,ne⟩,r,q,z,d⟩
end
structure Cls (K:ae) (C:ai):Prop where
 pg:oh K C sG=true
 hd:PySem.W.hasDictIn K C=true
 po:PySem.W.plainOver K C=true
 sa:d6 K (.ref C) "__setattr__"=some (some (.builtin "object.__setattr__"))
theorem Cls.get {K:ae}{C:ai}(c:Cls K C)(f:Str):oh K C f=true:=c.pg
section
variable{X:Cx}{pins:List (ai×Obj)}{σ:St}{H:Hp}{s:au}{a C dx:ai}{fs:List (Str×V)}{f:Str}{v:V}{A:bU}{E:ah->au->Prop}
theorem Inv.made (I:Inv X pins σ H s):Inv X pins σ (upd (upd H s.heap.objs.size (.own (s.heap.objs.size+1))) (s.heap.objs.size+1) (.ins C s.heap.objs.size []))
  {s with heap:=(s.heap.push dP).push (eU C s.heap.objs.size)}:=by
 have c:(s.heap.push dP).get? s.heap.objs.size=some dP:=aZ s.heap rfl
 have d:((s.heap.push dP).push (eU C s.heap.objs.size)).get? (s.heap.objs.size+1)=some (eU C s.heap.objs.size):=by
  have:=aZ (s.heap.push dP) (o:=eU C s.heap.objs.size) rfl
  rwa [dj]at this
 have g:(s.heap.push dP).Ns s.heap.objs.size (fun _=>none):=⟨dP,#[],_,c,rfl,(fun e h=>absurd h (by simp)),fun _=>rfl⟩
 have i:=I.laid (a:=s.heap.objs.size) (o:=.own (s.heap.objs.size+1)) (h':=s.heap.push dP) (t':=s.toks) (fun b u q=>ag _ q) (aH _) ⟨_,c⟩
 refine i.laid (a:=s.heap.objs.size+1) (o:=.ins C s.heap.objs.size []) (t':=s.toks) (fun b u q=>ag _ q) (dh (dj _ _)) ?_
 have ne:s.heap.objs.size≠s.heap.objs.size+1:=bH (eO _)
 refine⟨by rw[zN ne,zD],bX _,ne,d,fun _=>none,(Heap.Ns1.of_empty g).at fun o q=>ag _ q,fun _=>True.intro,fun y j=>absurd rfl j⟩
end
section
variable{X:Cx}{pins:List (ai×Obj)}{σ:St}{H:Hp}{s:au}{A:bU}{E:ah->au->Prop}{Q:ah->au->Prop}{c:ah}{b:Bool}
inductive TyOf (K:ae) (H:Hp):V->ah->Prop where
 |non:TyOf K H .non (.type "NoneType")
 |bl (x:Bool):TyOf K H (.bl x) (.type "bool")
 |int (i:Int):TyOf K H (.int i) (.type "int")
 |str (x:Str):TyOf K H (.str x) (.type "str")
 |flt (x:UInt64):TyOf K H (.flt x) (.type "float")
 |lst {a:ai} {xs:List V} (e:H a=some (.lst xs)):TyOf K H (.ref a) (.type "list")
 |frz {a:ai} {o:Obj} {xs:List V} (e:H a=some (.frz o (.lst xs))):TyOf K H (.ref a) (.type "list")
 |tup {a:ai} {xs:List V} (e:H a=some (.tup xs)):TyOf K H (.ref a) (.type "tuple")
 |dK {a:ai} {kvs:List (z0×V)} (e:H a=some (.dK kvs)):TyOf K H (.ref a) (.type "dict")
 |dT {a:ai} {kvs:List (List y7×V)} (e:H a=some (.dT kvs)):TyOf K H (.ref a) (.type "dict")
 |ins {a C dx:ai} {fs:List (Str×V)} (e:H a=some (.ins C dx fs)) (cl:Cls K C) (ha:d6 K (.ref C) "__class__"=some (some (.builtin "object.__class__")))
   (hn:PySem.W.specialIn K (.builtin "object.__class__") "__get__"=some (some (.builtin "getset_descriptor.__get__"))) (htk:PySem.W.takesIn K (.builtin "object.__class__")=some true)
   (hm:m6 K C (.type "object")=some true):TyOf K H (.ref a) (.ref C)
theorem zKr {x:V}{u t:ah}(I:Inv X pins σ H s)(d:zW x u)(ty:TyOf X.K H x t)(e:bx X.K t c=some b)(h:∀m,Q (.bool b) {s with toks:=m}) :
  wpAny (model X.prog X.w) A (call (.builtin "isinstance") [u,c]) Q E s:=by
 cases ty with
 |non=>cases(show u=Value.none from d);exact cQ PySem.W.kitx_none I.kIn True.intro e (fun z=>nomatch z) h
 |bl y=>cases(show u=Value.bool y from d);exact cQ PySem.W.kitx_bool I.kIn True.intro e (fun z=>nomatch z) h
 |int i=>obtain⟨t,q⟩:=(show∃t,u=Value.int i t from d);cases q;exact cQ PySem.W.kitx_int I.kIn True.intro e (fun z=>nomatch z) h
 |str y=>obtain⟨t,q⟩:=(show∃t,u=Value.str y t from d);cases q;exact cQ PySem.W.kitx_str I.kIn True.intro e (fun z=>nomatch z) h
 |flt y=>obtain⟨t,q⟩:=(show∃t,u=Value.float y t from d);cases q;exact cQ PySem.W.kitx_float I.kIn True.intro e (fun z=>nomatch z) h
 | @lst a xs f=>
  cases(show u=Value.ref a from d)
  obtain⟨_,_,n,_,g⟩:=(show yZ X.prog X.w H s.heap a (.lst xs)from I.hok a _ f)
  exact cQ nJ I.kIn ⟨_,g,rfl⟩ e (fun z=>nomatch z) h
 | @frz a r xs f=>
  cases(show u=Value.ref a from d)
  obtain⟨_,_,_,n,_,g⟩:=(show yZ X.prog X.w H s.heap a (.frz r (.lst xs))from I.hok a _ f)
  exact cQ nJ I.kIn ⟨_,g,rfl⟩ e (fun z=>nomatch z) h
 | @tup a xs f=>
  cases(show u=Value.ref a from d)
  obtain⟨_,_,_,p⟩:=(show yZ X.prog X.w H s.heap a (.tup xs)from I.hok a _ f)
  obtain⟨o,g,j,_⟩:=p
  exact cQ PySem.W.kitx_tuple I.kIn ⟨o,g,j⟩ e (fun z=>nomatch z) h
 | @dK a kvs f=>
  cases(show u=Value.ref a from d)
  obtain⟨_,_,vs,_,p⟩:=(show yZ X.prog X.w H s.heap a (.dK kvs)from I.hok a _ f)
  obtain⟨o,v,ep,g,j,_⟩:=p
  exact cQ nK I.kIn ⟨o,g,j.1⟩ e (fun z=>nomatch z) h
 | @dT a kvs f=>
  cases(show u=Value.ref a from d)
  obtain⟨_,_,xs,_,o,v,ep,g,j,_⟩:=(show yZ X.prog X.w H s.heap a (.dT kvs)from I.hok a _ f)
  exact cQ nK I.kIn ⟨o,g,j.1⟩ e (fun z=>nomatch z) h
 | @ins a C G fs f cl B D l F=>
  cases(show u=Value.ref a from d)
  obtain⟨L,O,_⟩:=zKq I.hok f
  obtain⟨od,J,_⟩:=O.look
  exact cQ (PySem.W.kitx_own (cl.get _) cl.hd B D l F) I.kIn J e (fun z=>nomatch z) h
end
structure Room (k:Nat) (A:bU):Prop where
 hd:A.handled=none
 dp:A.depth+3*k+5<recursionLimit
 un:A.units+16*k+200<cLine
theorem Room.mono {j k:Nat}{A:bU}(r:Room k A)(h:j<=k):Room j A:=⟨r.hd,by have:=r.dp;omega,by have:=r.un;omega⟩
theorem Room.deeper {k:Nat}{A:bU}(r:Room (k+1) A)(env:Env):Room k (A.deeper env) :=
 ⟨r.hd,by have:=r.dp;show A.depth+1+3*k+5<_;omega,by have:=r.un;show A.units+3+16*k+200<_;omega⟩
theorem Room.in1 {k:Nat}{A:bU}(r:Room (k+1) A):Room k A.in1 :=
 ⟨r.hd,by have:=r.dp;show A.depth+3*k+5<_;omega,by have:=r.un;show A.units+1+16*k+200<_;omega⟩
theorem Room.depth {k:Nat}{A:bU}(r:Room k A):A.depth<recursionLimit:=by have:=r.dp;omega
theorem Room.units {k:Nat}{A:bU}(r:Room k A):A.units+64<cLine:=by have:=r.un;omega
def zBq:TA:=fun _ H Q=>Q [] H
def zDL (ta:TE)(tr:TA):TA:=fun σ H Q=>ta σ H fun x H1=>tr σ H1 fun xs H2=>Q (x::xs) H2
section
variable{X:Cx}{e:cb}{es:List cb}{te:TE}{t:TA}{pos:Pos}
theorem zC:PA X [] zBq:=fun _ _ _ _ H Q I h=>nL ⟨[],H,I,.nil,h⟩
theorem zB (b:PE X e te)(c:PA X es t)(d:starEach (e::es) X.env=(false,eval e X.env)::starEach es X.env:=by rfl):PA X (e::es) (zDL te t):=by
 intro pos a s σ H Q I h
 rw[d]
 show wpAny _ _ (spliced ((false,eval e X.env)::backTo pos (starEach es X.env))) _ _ s
 refine jx (zK (b a s σ H _ I h) fun u f ⟨x,g,i,j,l⟩=>?_)
 exact zK (c pos a f σ g _ i l) fun us q ⟨xs,m,n,o,p⟩=>⟨x::xs,m,n,.cons j o,p⟩
def zKs (t:TA):TE:=fun σ H Q=>t σ H fun xs H1=>xs.length<=sizeLine/\∀p,H1 p=none->Q (.ref p) (upd H1 p (.tup xs))
def zGD (t:TA):TE:=fun σ H Q=>t σ H fun xs H1=>xs.length<=sizeLine/\∀p,H1 p=none->Q (.ref p) (upd H1 p (.lst xs))
theorem uL {g}(h:PA X es t):PE X (.Tuple es g pos) (zKs t):=by
 intro a s σ H Q I i
 refine wpAny_Tuple_spliced (zK (h pos a s σ H _ I i) fun us c ⟨xs,d,f,r,z,q⟩=>⟨by rw[<-r.length];exact z,?_⟩)
 have j:d c.heap.objs.size=none:=f.hok.fresh (aH _)
 refine⟨.ref c.heap.objs.size,upd d c.heap.objs.size (.tup xs),f.laid (t':=c.toks) (fun b u e=>ag _ e) (aH _) ?_,rfl,q _ j⟩
 exact⟨z,us,r,⟨_,aZ _ rfl,rfl,_,rfl⟩⟩
theorem yE (h:PA X es t):PE X (.List es pos) (zGD t):=by
 intro a s σ H Q I g
 refine wpAny_List_spliced (zK (h pos a s σ H _ I g) fun us c ⟨xs,d,f,r,z,q⟩=>⟨by rw[<-r.length];exact z,?_⟩)
 have i:d c.heap.objs.size=none:=f.hok.fresh (aH _)
 refine⟨.ref c.heap.objs.size,upd d c.heap.objs.size (.lst xs),f.laid (t':=c.toks) (fun b u e=>ag _ e) (aH _) ?_,rfl,q _ i⟩
 exact⟨z,us,0,r,aZ _ rfl⟩
end
abbrev Sp:=List V->Hp->VK->XK->Prop
abbrev uP:=List Env->Hp->au->XK->ah->au->Prop
structure Env0 (P:aP) (w:bc) (K:ae) (mg:Str->Option ah) (base:bK) (A:bU) (outer:List Env) (s:au) (H:Hp):Prop where
 frames:A.frames=some outer
 mod:Mod K mg base
 bs:∀b o,base.get? b=some o->s.heap.get? b=some o/\H b=none
 bsz:base.objs.size<=s.heap.objs.size
 funs:s.heap.FunFrames base outer
 frf:∀b∈yW outer,H b=none
 hok:yB P w H s.heap
 bare:jk s.gens
def CE (outer:List Env)(P:aP)(w:bc)(H:Hp)(s:au)(Q:VK)(u:ah)(s':au):Prop :=
 ∃v H',s'.os=s.os/\jk s'.gens/\Un (yW outer) [] H H' s.heap s'.heap/\yB P w H' s'.heap/\zW v u/\Q v H'
def CR (CX:uP)(outer:List Env)(P:aP)(w:bc)(H:Hp)(s:au)(Q:VK)(E:XK)(r:Result)(s':au):Prop :=
 match r with
 | .ok (.ret u)=>CE outer P w H s Q u s'
 | .ok _=>False
 | .error e=>CX outer H s E e s'
structure FnOk (P:aP) (w:bc) (K:ae) (mg:Str->Option ah) (base:bK) (CX:uP) (k:Nat) (f:ai) (fd:aO) (ps:List Str) (sp:Sp):Prop where
 len:∀vs H Q E,sp vs H Q E->vs.length=ps.length
 run:∀(A:bU) (outer:List Env) (s:au) (H:Hp) (args:Args) (us:List ah) (vs:List V) (Q:VK) (E:XK),Room k A->Env0 P w K mg base A outer s H->mR s fd args (ps.zip us)->zS vs us->sp vs H Q E->
  codeAny (model P w) A (.call (.ref f) args) (CR CX outer P w H s Q E) s
theorem FnOk.imp {P:aP}{w:bc}{K:ae}{mg:Str->Option ah}{base:bK}{CX:uP}{k:Nat}{f:ai}{fd:aO}{a:List Str}{sp sp':Sp}(F:FnOk P w K mg base CX k f fd a sp)
  (h:∀vs H Q E,sp' vs H Q E->sp vs H Q E):FnOk P w K mg base CX k f fd a sp' :=
 ⟨fun vs H Q E q=>F.len vs H Q E (h _ _ _ _ q),fun A outer s H args us vs Q E b c d e g=>F.run A outer s H args us vs Q E b c d e (h _ _ _ _ g)⟩
theorem Env0.in1 {P:aP}{w:bc}{K:ae}{mg:Str->Option ah}{base:bK}{A:bU}{outer:List Env}{s:au}{H:Hp}(e:Env0 P w K mg base A outer s H) :
  Env0 P w K mg base A.in1 outer s H:=⟨e.frames,e.mod,e.bs,e.bsz,e.funs,e.frf,e.hok,e.bare⟩
section
variable{X:Cx}{pins:List (ai×Obj)}{σ:St}{H:Hp}{s s':au}
theorem Inv.env0 (I:Inv X pins σ H s):Env0 X.prog X.w X.K X.mg X.base X.A X.stack s H :=
 ⟨I.ok.frames,I.ok.mod,I.bs,b8 I.ok.bsz I.sz,I.stack,I.stkFree,I.hok,I.bare⟩
theorem Inv.after {Q:VK}{u:ah}(I:Inv X pins σ H s)(h:CE X.stack X.prog X.w H s Q u s'):EP X pins σ Q u s':=by
 obtain⟨v,H',os,bare,un,hok,r,q⟩:=h
 obtain⟨c,g,d,t,a⟩:=s'
 obtain rfl:a=s.os:=os
 exact⟨v,H',I.call (h':=c) (g':=g) (d':=d) (t':=t) (ch:=[]) un hok bare (fun b z=>absurd z (by simp)),r,q⟩
end
def zAD (sp:Sp)(dvs:List V)(E:XK)(t:TA):TE:=fun σ H Q=>t σ H fun vs H1=>sp (vs++dvs) H1 Q E
def qV (K:ae)(fd:aO)(ps:List Str)(ds:List ah):Prop :=
 ∀(s:au) (us:List ah),K.In s.heap->(us++ds).length=ps.length->mR s fd ⟨us,[]⟩ (ps.zip (us++ds))
theorem qV.all {K:ae}{fd:aO}{a:List Str}(h:∀us:List ah,us.length=a.length->bindArgs fd ⟨us,[]⟩=pure (a.zip us)):qV K fd a []:=fun s us _ hl=>by
 rw[fG]at hl⊢
 exact .of_eq (h us hl)
def gM (CX:uP)(X:Cx)(E:XK):Prop:=∀(pins:List (ai×Obj)) (σ:St) (H:Hp) (s:au) (e:ah) (s':au),Inv X pins σ H s->CX X.stack H s E e s'->X.xe e s'
section
variable{X:Cx}{CX:uP}{k:Nat}{f C:ai}{fd:aO}{ps:List Str}{sp:Sp}{dvs:List V}{ds:List ah}{E:XK}{x m:Str}{p pos apos:Pos}{e o:cb}{es:List cb}{ta:TE}{t:TA}
theorem zDM {a:List (ai×Obj)}{σ:St}{H:Hp}{s:au}{Q:VK}{us:List ah}{vs:List V}(F:FnOk X.prog X.w X.K X.mg X.base CX k f fd ps sp)(d:Room k X.A)(g:qV X.K fd ps ds)(hd:zS dvs ds)(i:gM CX X E)
  (I:Inv X a σ H s) (r:zS vs us) (h:sp (vs++dvs) H Q E):wpAny (model X.prog X.w) X.A (call (.ref f) us) (EP X a σ Q) X.xe s:=by
 have c:zS (vs++dvs) (us++ds):=r.append hd
 have hl:(us++ds).length=ps.length:=by rw[<-c.length];exact F.len _ _ _ _ h
 refine wpAny_call (iy (F.run X.A X.stack s H ⟨us,[]⟩ (us++ds) (vs++dvs) Q E d I.env0 (g s us I.kIn hl) c h) fun r s' b=>?_)
 cases r with
 |error e=>exact i a σ H s e s' I b
 |ok j=>
  cases j with
  |ret u=>exact I.after b
  |next=>exact dE b
  |brk=>exact dE b
  |cont=>exact dE b
theorem zGE (F:FnOk X.prog X.w X.K X.mg X.base CX k f fd ps sp)(g:Room k X.A)(i:Gl X x)(j:X.mg x=some (.ref f))(l:dB X.K (.ref f)=true)(n:qV X.K fd ps ds)(hd:zS dvs ds)(u:gM CX X E)
  (v:PA X (e::es) t) (b:(x==("__debug__" : Str))=false:=by decide) (y:starEach (e::es) X.env=(false,eval e X.env)::starEach es X.env:=by rfl) (c:(backTo pos (starEach es X.env)).any (·.1)=false:=by rfl) :
  PE X (.Call (.Name x p) (e::es) [] pos) (zAD sp dvs E t):=by
 intro a s σ H Q I h
 refine fw (zAa I i j ?_ b)
 refine jy (h₀:=X.base) I.ok.mod.kin l (zK (v pos a s σ H _ I h) fun us z ⟨vs,B,d,r,q⟩=>⟨d.kIn,?_⟩) y c
 exact zDM F g n hd u d r q
theorem zKt (F:FnOk X.prog X.w X.K X.mg X.base CX k f fd ps sp)(c:Room k X.A)(d:Gl X x)(g:X.mg x=some (.ref f))(i:dB X.K (.ref f)=true)(j:qV X.K fd ps ds)(hd:zS dvs ds)(l:gM CX X E)
  (a:(x==("__debug__" : Str))=false:=by decide):PE X (.Call (.Name x p) [] [] pos) (zAD sp dvs E zBq):=by
 intro b s σ H Q I h
 refine fw (zAa I d g ?_ a)
 exact PySem.W.callWith_K0 I.kIn i (zDM (us:=[]) F c j hd l I .nil h)
end
section
variable{X:Cx}{CX:uP}{k:Nat}{f C:ai}{fd:aO}{ps ks:List Str}{sp:Sp}{E:XK}{x m:Str}{p pos apos kpos:Pos}{e o:cb}{es:List cb}{kws:List oW}{te ta:TE}{t tk:TA}{nm:Option Str}
variable{g:List ah->List ah->List ah}{gV:List V->List V->List V}
end
structure FnScope (N P:List Str) (sc:dS):Prop where
 kind:sc.kind=.function
 co:sc.isCoroutine=false
 gen:sc.isGenerator=false
 nd:N.Nodup
 pre:N.take P.length=P
 par:∀x∈P,sc.names.lookup x=some .local\/sc.names.lookup x=some .cell
 nofree:∀y∈sc.names,y.2≠.free
theorem zGF {kindOf:Str->Option iz}{x:Str}:∀{binds:List (Str×ah)}{m:Str->Option ah},(∀v,(x,v)∉binds)->bindL kindOf binds m x=m x
 | [],_,_=>rfl
 |(n,v)::r,m,h=>by
  unfold bindL
  rw[zGF fun w a=>h w (aG _ a)]
  split
  ·have:x≠n:=by rintro rfl;exact h v ar
   simp[this]
  ·rfl
theorem zGG {kindOf:Str->Option iz}{x:Str}:∀{binds:List (Str×ah)}{m:Str->Option ah},(∀v,(x,v)∉binds)->bindC kindOf binds m x=m x
 | [],_,_=>rfl
 |(n,v)::r,m,h=>by
  unfold bindC
  rw[zGG fun w a=>h w (aG _ a)]
  split
  ·rfl
  ·have:x≠n:=by rintro rfl;exact h v ar
   simp[this]
theorem zDN {kindOf:Str->Option iz}{x:Str}{v:ah}:∀{P:List Str}{vs:List ah}{i:Nat}{m:Str->Option ah},P.Nodup->P[i]?=some x->vs[i]?=some v->kindOf x=some .local->
  bindL kindOf (P.zip vs) m x=some v
 | [],_,_,_,_,h,_,_=>by simp at h
 |_::_,[],_,_,_,_,h,_=>by simp at h
 |p::P,w::vs,0,m,nd,a,b,c=>by
  simp at a b;subst a;subst b
  show bindL kindOf ((p,w)::P.zip vs) m p=_
  unfold bindL
  rw[zGF fun v d=>(cx.mp nd).1 (ja d).1,if_pos c]
  simp
 |p::P,w::vs,i+1,m,nd,a,b,c=>by
  show bindL kindOf ((p,w)::P.zip vs) m x=_
  unfold bindL
  exact zDN (i:=i) (cx.mp nd).2 (by simpa using a) (by simpa using b) c
theorem zDO {kindOf:Str->Option iz}{x:Str}{v:ah}:∀{P:List Str}{vs:List ah}{i:Nat}{m:Str->Option ah},P.Nodup->P[i]?=some x->vs[i]?=some v->kindOf x≠some .local->
  bindC kindOf (P.zip vs) m x=some v
 | [],_,_,_,_,h,_,_=>by simp at h
 |_::_,[],_,_,_,_,h,_=>by simp at h
 |p::P,w::vs,0,m,nd,a,b,c=>by
  simp at a b;subst a;subst b
  show bindC kindOf ((p,w)::P.zip vs) m p=_
  unfold bindC
  rw[zGG fun v d=>(cx.mp nd).1 (ja d).1,if_neg c]
  simp
 |p::P,w::vs,i+1,m,nd,a,b,c=>by
  show bindC kindOf ((p,w)::P.zip vs) m x=_
  unfold bindC
  exact zDO (i:=i) (cx.mp nd).2 (by simpa using a) (by simpa using b) c
def start (N:List Str)(vs:List V):St:=vs.map some++aU (N.length-vs.length) none
def jZ (CX:uP)(P:aP)(w:bc)(K:ae)(mg:Str->Option ah)(base:bK)(N:List Str)(qual:Str)(scope:dS)(f:ai)(cd:ah)(A:bU)(outer:List Env)(s:au)(H:Hp)(E:XK):Cx where
 prog:=P
 w:=w
 K:=K
 mg:=mg
 base:=base
 A:=A.deeper (envOfC qual scope s.heap.objs.size f cd)
 N:=N
 s₀:=s
 H₀:=H
 env:=envOfC qual scope s.heap.objs.size f cd
 outer:=outer
 stack:=envOfC qual scope s.heap.objs.size f cd::outer
 ex:=[]
 calm:=true
 fn:=fun _=>true
 pn:=[]
 xe:=fun e s'=>wpAny (model P w) (A.deeper (envOfC qual scope s.heap.objs.size f cd)) (leaving (envOfC qual scope s.heap.objs.size f cd) e) (fun _ s''=>CX outer H s E e s'') (fun e' s''=>CX outer H s E e' s'') s'
theorem zBr {a:dS}{n:Nat}{x:Str}(h:a.names.lookup x=some .cell):∃c,(cellsFrom n a.names []).lookup x=some c:=by
 have q:=iA a.names n [] (.inl h)
 exact kx.mp q
theorem zKu {CX:uP}{P:aP}{w:bc}{K:ae}{mg:Str->Option ah}{base:bK}{N l:List Str}{d:Str}{scope:dS}{f:ai}{C:ah}{A:bU}{outer:List Env}{s F:au}{H:Hp}{E:XK}{us:List ah}{vs:List V}
  (S:FnScope N l scope) (hd:A.handled=none) (j:Env0 P w K mg base A outer s H) (hl:vs.length=l.length) (r:zS vs us)
  (x:InCallC s s.heap.objs.size (bindL (envOfC d scope s.heap.objs.size f C).kindOf (l.zip us) fun _=>none) (cellsFrom (s.heap.objs.size+1) scope.names []) (bindC (envOfC d scope s.heap.objs.size f C).kindOf (l.zip us) fun _=>none) F) :
  Inv (jZ CX P w K mg base N d scope f C A outer s H E) [] (start N vs) H F:=by
 have J:l.length<=N.length:=by have:=congrArg ki S.pre;rw[aL]at this;omega
 obtain⟨D,O,rfl,G⟩:=x.done
 have m:∀b:ai,b∉(jZ CX P w K mg base N d scope f C A outer s H E).ex:=fun b z=>absurd (show b∈([]:List ai)from z) (by simp)
 refine⟨⟨j.mod,S.kind,rfl,rfl,aH _,fun y z c D g=>?_,fun y o=>?_,fun y c _ h=>?_,fun _=>hd,mE j.frames,.inr ⟨rfl,rfl⟩,fun b z=>absurd z (m b),j.bs,j.bsz,fun b _ _=>m b,fun b z=>absurd z (m b),j.funs,j.frf⟩,
  rfl,j.bare,Un.kept G,⟨_,x.toInCall.ns,fun i y v D g Q=>?_⟩,fun y c h=>⟨_,x.cell y c h⟩,j.hok.fresh (aH _),fun y c h=>?_,fun p t=>absurd (show p∈([]:List (ai×Obj))from t) (by simp),j.hok.kept G,?_⟩
 ·exact name_of_addr x.apart (ck D) (ck g)
 ·have o:scope.names.lookup y=some .cell\/scope.names.lookup y=some .free:=o
  rcases o with o|o
  ·exact zBr o
  ·exact absurd rfl (S.nofree _ (ck o))
 ·exact jl (x.above y c (ck h))
 ·have hi:i<vs.length:=by
   unfold start at g
   by_cases hi:i<vs.length
   ·exact hi
   ·rw[bD (by simpa using hi)]at g
    rw[dG]at g
    split at g<;>cases g
  have L:vs[i]?=some v:=by
   unfold start at g
   rw[bA (by simpa using hi),aF]at g
   cases e:vs[i]? with
   |none=>rw[e]at g;cases g
   |some a=>rw[e]at g;cases g;rfl
  obtain⟨u,I,M⟩:=r.get L
  have t:l[i]?=some y:=by
   rw[<-S.pre,ky (by omega)];exact D
  have B:l.Nodup:=by rw[<-S.pre];exact S.nd.sublist (nM _ _)
  refine⟨u,M,?_⟩
  rcases S.par y (aS t)with k|k
  ·exact .inl ⟨k,zDN B t I k⟩
  ·obtain⟨c,e⟩:=zBr (n:=s.heap.objs.size+1) k
   refine .inr ⟨.inl k,c,e,?_⟩
   have q:=x.cell y c e
   rw[zDO B t I (by show scope.names.lookup y≠_;rw[k];decide)]at q
   exact q
 ·exact j.hok.fresh (jl (x.above y c (ck h)))
 ·unfold start
  show _=N.length
  rw[aq,af,eS]
  omega
theorem zGH {CX:uP}{P:aP}{w:bc}{K:ae}{mg:Str->Option ah}{base:bK}{k:Nat}{f:ai}{name a:Str}{d:qt}{body:List cJ}{scope:dS}{L kV j pm c ct T:ah}{M od:Option ai}
  {B:Array (Option ah)} {N p:List Str} {sp:Sp} (U:K.lookup f=some ⟨T,od,.func (dN name a d body scope L kV j pm M c ct),B⟩) (C:fT K c a=true) (S:FnScope N p scope)
  (len:∀vs H Q E,sp vs H Q E->vs.length=p.length)
  (g:∀(A:bU) (outer:List Env) (s:au) (H:Hp) (vs:List V) (Q:VK) (E:XK),Room k (A.deeper (envOfC a scope s.heap.objs.size f c))->sp vs H Q E->
   ∃t,uF (jZ CX P w K mg base N a scope f c A outer s H E) body t/\t {nx:=fun _ H'=>Q .non H',rt:=Q} (start N vs) H) :
  FnOk P w K mg base CX (k+1) f (dN name a d body scope L kV j pm M c ct) p sp:=by
 refine⟨len,fun A outer s H args us vs Q E D l W r m=>?_⟩
 have hl:=len _ _ _ _ m
 have O:K.In s.heap:=l.mod.kin.keeps fun b o e=>(l.bs b o e).1
 have F:s.heap.NoLimit:=l.mod.nolimit.keeps fun b o e=>(l.bs b o e).1
 have h:∀y∈p.zip us,scope.names.lookup y.1=some .local\/(scope.names.lookup y.1=some .cell/\((cellsFrom (s.heap.objs.size+1) scope.names []).lookup y.1).isSome=true):=fun⟨n,v⟩ X=>by
  rcases S.par n (ja X).1 with q|q
  ·exact .inl q
  ·exact .inr ⟨q,iA _ _ _ (.inl q)⟩
 refine mi D.depth (O _ _ U) rfl S.co S.gen rfl (nq O C) (W _ _ _ _ ?_)
 refine jz S.kind h fun env Y R x=>?_
 subst Y
 refine⟨F.keeps x.toInCall.keep,codeAny_func ?_⟩
 obtain⟨t,Z,hq⟩:=g A outer s H vs Q E (D.deeper _) m
 have I:Inv (jZ CX P w K mg base N a scope f c A outer s H E) [] (start N vs) H R:=zKu S D.hd l hl r x
 refine cf (Z [] R (start N vs) H _ I hq) (fun fl s' i=>?_) fun e s' i=>i
 have fin:∀{z:St} {H':Hp} {v:V} {u:ah},Inv (jZ CX P w K mg base N a scope f c A outer s H E) [] z H' s'->zW v u->Q v H'->CE outer P w H s Q u s' :=
  fun{z H' v u} J G q=>⟨v,H',J.os,J.bare,J.base,J.hok,G,q⟩
 cases fl with
 |ret u=>
  obtain⟨v,z,H',J,G,q⟩:=i
  exact fin J G q
 |next=>
  obtain⟨z,H',J,q⟩:=i
  exact fin (v:=V.non) (u:=Value.none) J rfl q
 |brk=>
  obtain⟨_,_,_,q⟩:=i
  exact dE q
 |cont=>
  obtain⟨_,_,_,q⟩:=i
  exact dE q
section
variable{X:Cx}{x:Str}{p pos:Pos}{e:cb}{es:List cb}{t:TA}{id T:String}{r:List V->Hp->VK->Prop}
def tCB (r:List V->Hp->VK->Prop)(t:TA):TE:=fun σ H Q=>t σ H fun vs H1=>r vs H1 Q
theorem zZ (d:uV X (.builtin id) r)(f:Gl X x)(g:X.mg x=none)(i:bootBuiltins x=some (.builtin id))(j:PA X (e::es) t)(l:x≠"__name__" :=by decide)(b:(x==("__debug__" : Str))=false:=by decide)
  (m:starEach (e::es) X.env=(false,eval e X.env)::starEach es X.env:=by rfl) (c:(backTo pos (starEach es X.env)).any (·.1)=false:=by rfl):PE X (.Call (.Name x p) (e::es) [] pos) (tCB r t):=by
 intro a s σ H Q I h
 refine fw (kN I f g i ?_ l b)
 exact oj (zK (j pos a s σ H _ I h) fun us n ⟨vs,o,q,u,v⟩=>d a n σ o vs us Q q u v) m c
theorem zGI (d:uV X (.type T) r)(f:Gl X x)(g:X.mg x=none)(i:bootBuiltins x=some (.type T))(j:PA X (e::es) t)(l:x≠"__name__" :=by decide)(b:(x==("__debug__" : Str))=false:=by decide)
  (m:starEach (e::es) X.env=(false,eval e X.env)::starEach es X.env:=by rfl) (c:(backTo pos (starEach es X.env)).any (·.1)=false:=by rfl):PE X (.Call (.Name x p) (e::es) [] pos) (tCB r t):=by
 intro a s σ H Q I h
 refine fw (kN I f g i ?_ l b)
 exact cK (zK (j pos a s σ H _ I h) fun us n ⟨vs,o,q,u,v⟩=>d a n σ o vs us Q q u v) m c
end
end L2
namespace HT
open PySem PyProof.Rows
def lexLt:List Int->List Int->Bool
 | [],[]=>false
 | [],_::_=>true
 |_::_,[]=>false
 |x::xs,y::ys=>if x=y then lexLt xs ys else decide (x<y)
theorem lexLt_cons (x y:Int)(xs ys:List Int):lexLt (x::xs) (y::ys)=if x=y then lexLt xs ys else decide (x<y):=rfl
theorem lexLt_nil_nil:lexLt [] []=false:=rfl
theorem eqAt_int (A:bU)(s:au)(a:Int)(t:Tok)(c:Int)(u:Tok):∃e,o4 A s (.int a t) (.int c u) e/\(e=true↔a=c) :=
 ⟨(a==c),ka a t c u,by simp⟩
theorem rcLt_int (A:bU)(s:au)(a:Int)(t:Tok)(c:Int)(u:Tok)(prog:aP)(w:bc)(E:ah->au->Prop)(Q:ah->au->Prop)(h:Q (.bool (decide (a<c))) s) :
  wpAny (model prog w) A (richCompare .Lt (.int a t) (.int c u)) Q E s :=
 (rQ h:wpAny (model prog w) A (compareOp .Lt (.int a t) (.int c u)) Q E s)
section
open PySem.SeqAt
open PySem.AutoSeq1 (wpAny_loadPart')
open PySem.MeetsSeq PySem.MeetsSeq2 PySem.MeetsSeq3
end
section
variable{prog:aP}{w:bc}{A:bU}{E:ah->au->Prop}{s:au}
theorem cat_tup {t b:ai}{vs a:List ah}{Q:ah->au->Prop}(r:IsTup s.heap t vs.toArray)(u:IsTup s.heap b a.toArray)(l:vs≠[])
  (v:a=[]->Q (.ref t) s) (x:a≠[]->Q (.ref s.heap.objs.size) {s with heap:=s.heap.push {cls:=.type "tuple",data:=.seq (vs++a).toArray}})
  (hsz:vs.length+a.length<=sizeLine):wpAny (model prog w) A (binaryOp .Add (.ref t) (.ref b)) Q E s:=by
 obtain⟨⟨cls,dd,data,m⟩,i,o,n,hd⟩:=id r
 obtain⟨⟨p,d,data2,f⟩,c,g,q,h⟩:=id u
 simp only at o hd g h
 subst o hd g h
 have e:vs.toArray++a.toArray=(vs++a).toArray:=by simp
 by_cases j:a=[]
 ·exact nN ⟨_,i,rfl⟩ ⟨_,c,rfl⟩ lA m7 iB iq (gx _ _)
   (tuple_addW1 t b vs.toArray a.toArray n q dd d m f (by simpa using l) (by simp[j])) ⟨i,c,v j⟩
 ·refine nN ⟨_,i,rfl⟩ ⟨_,c,rfl⟩ lA m7 iB iq (gx _ _)
   (tuple_addW2 t b vs.toArray a.toArray n q dd d m f (by simpa using l) (by simpa using j) (by rw[aY,aY];exact hsz)) ⟨i,c,?_⟩
  rw[e]
  exact x j
def sIx (n d:Nat):Option Int->Nat
 |none=>d
 |some v=>if v<0 then(v+(n:Int)).toNat else min v.toNat n
theorem sIx_nat (n d k:Nat):sIx n d (some (k:Int))=min k n:=by
 show(if(k:Int)<0 then((k:Int)+(n:Int)).toNat else min (k:Int).toNat n)=min k n
 rw[if_neg (by omega),kj]
theorem sIx_le (n d:Nat)(hd:d<=n)(o:Option Int):sIx n d o<=n:=by
 cases o with
 |none=>exact hd
 |some v=>
  show(if v<0 then(v+(n:Int)).toNat else min v.toNat n)<=n
  by_cases a:v<0
  ·rw[if_pos a];omega
  ·rw[if_neg a];exact om _ _
end
end HT
namespace L2
open PySem PySem.Spec PyProof.Rows
abbrev TO:=St->Hp->(Option Int->Hp->Prop)->Prop
def PO (X:Cx)(e:Option cb)(t:TO):Prop :=
 ∀(pins:List (ai×Obj)) (s:au) (σ:St) (H:Hp) (Q:Option Int->Hp->Prop),Inv X pins σ H s->t σ H Q->
  wpAny (model X.prog X.w) X.A (evalPart e X.env) (fun u s'=>∃o H',Inv X pins σ H' s'/\IsPart u o/\Q o H') X.xe s
def zKv:TO:=fun _ H Q=>Q none H
def zKw (t:TE):TO:=fun σ H Q=>t σ H fun x H1=>∃i,x=.int i/\Q (some i) H1
theorem zGJ {ns:List Int}:∀{us:List ah},zS (ns.map V.int) us->fN us ns:=by
 induction ns with
 |nil=>intro us r;rw[lR]at r;cases r;exact .nil
 |cons n ns ih=>
  intro us r
  rw[ba]at r
  cases r with
  |cons a b=>
   obtain⟨t,e⟩:=a
   subst e
   exact .cons n t (ih b)
section
variable{X:Cx}{e:cb}{te:TE}{lo hi:Option cb}{tl th:TO}{pos p2:Pos}
theorem qN:PO X none zKv:=by
 intro a s σ H Q I h
 rw[m8]
 exact bf ⟨none,H,I,.none,h⟩
theorem vX (h:PE X e te):PO X (some e) (zKw te):=by
 intro a s σ H Q I b
 rw[evalPart_some]
 refine zK (h a s σ H _ I b) fun u j ⟨x,c,d,f,g⟩=>?_
 obtain⟨i,rfl,q⟩:=g
 obtain⟨t,rfl⟩:=f
 exact⟨some i,c,d,.int i t,q⟩
def SlR (X:Cx)(r:V->Option Int->Option Int->Hp->VK->Prop):Prop :=
 ∀(pins:List (ai×Obj)) (s:au) (σ:St) (H:Hp) (x:V) (v vl vu:ah) (lo hi:Option Int) (sl:ai) (Q:VK),Inv X pins σ H s->zW x v->s.heap.IsSliceOf sl vl vu .none->IsPart vl lo->IsPart vu hi->r x lo hi H Q->
  ∃T id,typeLookup (.type T) "__getitem__"=pure (some (.builtin id))/\s.TypeIs v T/\wpAny (model X.prog X.w) X.A (getItem v (.ref sl)) (EP X pins σ Q) X.xe s
def tSl (r:V->Option Int->Option Int->Hp->VK->Prop)(te:TE)(tl th:TO):TE:=fun σ H Q=>te σ H fun x H1=>tl σ H1 fun l H2=>th σ H2 fun u H3=>r x l u H3 Q
theorem zBs {r:V->Option Int->Option Int->Hp->VK->Prop}(i:SlR X r)(j:PE X e te)(hl:PO X lo tl)(m:PO X hi th):PE X (.Subscript e (.Slice lo hi none p2) pos) (tSl r te tl th):=by
 intro a s σ H Q I h
 refine nr (zK (j a s σ H _ I h) fun v n ⟨x,o,p,t,y⟩=>?_)
 refine wpAny_Slice (zK (hl a n σ o _ p y) fun d z ⟨l,B,C,D,E⟩=>zK (m a z σ B _ C E) fun f c ⟨u,g,F,G,J⟩=>?_)
 rw[m8]
 refine bf ?_
 have L:Inv X a σ g {c with heap:=c.heap.push {cls:=.type "slice",data:=.fields #[d,f,.none]}}:=F.kept (t':=c.toks) fun b P q=>ag _ q
 obtain⟨T,id,M,N,O⟩:=i a {c with heap:=c.heap.push {cls:=.type "slice",data:=.fields #[d,f,.none]}} σ g x v d f l u c.heap.objs.size Q L t (r9 ..) D G J
 show wpAny (model X.prog X.w) X.A (subscriptTail e (.Slice lo hi none p2) v (.ref c.heap.objs.size)) (EP X a σ Q) X.xe {c with heap:=c.heap.push {cls:=.type "slice",data:=.fields #[d,f,.none]}}
 exact rH (ops:=[.ref c.heap.objs.size,v]) N M O (by with_unfolding_all rfl)
def qO (xs:List V)(lo hi:Option Int):List V:=(xs.drop (HT.sIx xs.length 0 lo)).take (HT.sIx xs.length xs.length hi-HT.sIx xs.length 0 lo)
theorem zKx (xs:List V)(lo hi:Option Int):(qO xs lo hi).length<=xs.length:=by
 unfold qO
 rw[aL,cC]
 omega
def zKy (K:ae):R2:=fun x y H Q=>∃a b xs ys,x=.ref a/\y=.ref b/\yH K H a xs/\yH K H b ys/\xs≠[]/\xs.length+ys.length<=sizeLine/\
 (ys=[]->Q (.ref a) H)/\(ys≠[]->∀p,H p=none->Q (.ref p) (upd H p (.tup (xs++ys))))
theorem zS.nil_iff {xs:List V}{us:List ah}(r:zS xs us):us=[]↔xs=[]:=by
 cases r with
 |nil=>simp
 |cons _ _=>simp
theorem zKz:yN X (binaryOp .Add) (zKy X.K):=by
 intro f s σ H x y v u Q I j l h
 obtain⟨a,b,xs,ys,rfl,rfl,m,n,p,g,r,t⟩:=h
 cases j
 cases l
 obtain⟨A,d,B,_⟩:=I.tuple m
 obtain⟨i,c,p2,_⟩:=I.tuple n
 refine HT.cat_tup B p2 (fun z=>p (d.nil_iff.mp z)) (fun z=>⟨.ref a,H,I,rfl,r (c.nil_iff.mp z)⟩) (fun z=>?_) (by rw[<-d.length,<-c.length];exact g)
 refine⟨.ref s.heap.objs.size,_,I.laid (t':=s.toks) (o:=.tup (xs++ys)) (fun b C q=>ag _ q) (aH _) ?_,rfl,t (fun w=>z (c.nil_iff.mpr w)) _ (I.hok.fresh (aH _))⟩
 exact⟨by rw[aq];exact g,_,d.append c,sE _ _⟩
end
def gN (n:Nat)(i:Int):Option Nat:=if 0<=i then(if i<n then some i.toNat else none)else if-(n:Int)<=i then some (i+n).toNat else none
def kR {α:Type}(xs:List α)(i:Int):Option α:=(gN xs.length i).bind fun j=>xs[j]?
theorem zLA {n:Nat}{i:Int}{j:Nat}(h:gN n i=some j):seqIndex? i n=some j/\j<n/\-(n:Int)<=i/\i<n:=by
 unfold gN at h
 by_cases b:0<=i
 ·rw[if_pos b]at h
  by_cases a:i<n
  ·rw[if_pos a]at h
   have e:i.toNat=j:=aw h
   exact⟨by rw[seqIndex_of b a,e],by omega,by omega,a⟩
  ·rw[if_neg a]at h;cases h
 ·rw[if_neg b]at h
  by_cases a:-(n:Int)<=i
  ·rw[if_pos a]at h
   have e:(i+n).toNat=j:=aw h
   exact⟨by rw[seqIndex_neg (by omega) a,e],by omega,a,by omega⟩
  ·rw[if_neg a]at h;cases h
theorem zDP {α:Type}{xs:List α}{i:Int}{v:α}(h:kR xs i=some v):∃j,seqIndex? i xs.length=some j/\xs[j]?=some v/\j<xs.length/\-(xs.length:Int)<=i/\i<xs.length:=by
 unfold kR at h
 cases e:gN xs.length i with
 |none=>rw[e]at h;cases h
 |some j=>
  rw[e]at h
  obtain⟨a,b,c,d⟩:=zLA e
  exact⟨j,a,h,b,c,d⟩
theorem uH {α:Type}{xs:List α}{j:Nat}{v:α}(h:xs[j]?=some v):kR xs (j:Int)=some v:=by
 have a:j<xs.length:=(aa.mp h).1
 have e:gN xs.length (j:Int)=some j:=by
  unfold gN
  rw[if_pos (by omega),if_pos (by omega)];simp
 unfold kR;rw[e];exact h
theorem zLB {α:Type}(xs:List α)(v:α):kR (xs++[v]) (-1)=some v:=by
 have hl:(xs++[v]).length=xs.length+1:=by simp
 have e:gN (xs++[v]).length (-1)=some xs.length:=by
  unfold gN
  rw[hl,if_neg (by decide),if_pos (by omega)]
  congr 1
  omega
 unfold kR
 rw[e]
 show(xs++[v])[xs.length]?=some v
 simp
def zLC (b:cb):Prop:=∀o i,subscripted b false o i=operate [o,i] (getItem o i)
def IxR (X:Cx)(r:R2):Prop :=
 ∀(value slice:cb) (pins:List (ai×Obj)) (s:au) (σ:St) (H:Hp) (x y:V) (v u:ah) (Q:VK),Inv X pins σ H s->zW x v->zW y u->r x y H Q->
  subscripted slice false v u=operate [v,u] (getItem v u)->wpAny (model X.prog X.w) X.A (subscriptTail value slice v u) (EP X pins σ Q) X.xe s
def MtR (X:Cx)(id:String)(r:V->List V->Hp->VK->Prop):Prop :=
 ∀(pins:List (ai×Obj)) (s:au) (σ:St) (H:Hp) (x:V) (xs:List V) (v:ah) (us:List ah) (Q:VK),Inv X pins σ H s->zW x v->zS xs us->r x xs H Q->
  wpAny (model X.prog X.w) X.A (call (.builtin id) (v::us)) (EP X pins σ Q) X.xe s
section
variable{X:Cx}{a b:cb}{ta tb:TE}{pos:Pos}
theorem yS {r:R2}(d:IxR X r)(e:PE X a ta)(f:PE X b tb)(g:zLC b):PE X (.Subscript a b pos) (gK r ta tb):=by
 intro c s σ H Q I h
 exact nr (zDH e f I h fun v u i x y j l m n q=>d a b c i σ j x y v u Q l m n q (g _ _))
def zGK (K:ae):R2:=fun x y H Q=>∃p xs i v,x=.ref p/\y=.int i/\z9 K H p xs/\kR xs i=some v/\Q v H
def zGL (K:ae):R2:=fun x y H Q=>∃p xs i v,x=.ref p/\y=.int i/\yH K H p xs/\kR xs i=some v/\Q v H
def zLD:R2:=fun x y H Q=>∃z i c,x=.str z/\y=.int i/\z.length<=sizeLine/\kR z.cps.toList i=some c/\Q (.str ⟨#[c]⟩) H
theorem jD:IxR X (zGK X.K):=by
 intro value slice c s σ H x y v u Q I A B h m
 obtain⟨p,xs,i,z,rfl,rfl,C,D,q⟩:=h
 cases A
 obtain⟨t,rfl⟩:=B
 obtain⟨e,r,f,J⟩:=I.list C
 obtain⟨j,d,E,L,F,G⟩:=zDP D
 obtain⟨w,n,g⟩:=r.get E
 have hl:=r.length
 have M:=zBN
 have fin:EP X c σ Q w s:=⟨z,H,I,g,q⟩
 by_cases o:0<=i
 ·have l:i.toNat=j:=by
   rw[seqIndex_of o G]at d
   exact aw d
  exact item_listR f.isList o (by omega) (by rw[l];simpa using n) fin m
 ·have l:(i+(e.toArray.size:Int)).toNat=j:=by
   rw[seqIndex_neg (by omega) F]at d
   rw[aY,<-hl]
   exact aw d
  exact lS (x:=w) f.isList.typeIs nO.lookup
   (wpAny_getItem_list_neg (Q:=fun r s'=>r=w/\EP X c σ Q r s') f.isList (by omega) (by rw[aY]<;>omega) (by omega) (by rw[l];simpa using n) ⟨rfl,fin⟩) m
theorem uI:IxR X (zGL X.K):=by
 intro value slice c s σ H x y v u Q I f g h l
 obtain⟨p,xs,i,z,rfl,rfl,m,n,q⟩:=h
 cases f
 obtain⟨t,rfl⟩:=g
 obtain⟨o,r,e,D⟩:=I.tuple m
 obtain⟨j,A,B,E,F,G⟩:=zDP n
 obtain⟨w,C,d⟩:=r.get B
 have hl:=r.length
 have J:=zBN
 have fin:EP X c σ Q w s:=⟨z,H,I,d,q⟩
 exact lS (x:=w) e.typeIs slot_tuple_getitem.lookup
  (getItem_tuple (j:=j) (Q:=fun r s'=>r=w/\EP X c σ Q r s') e (by omega) (by omega) (by rw[aY,<-hl];exact A) (by simpa using C) ⟨rfl,fin⟩) l
theorem zLE:IxR X zLD:=by
 intro value slice d s σ H x y v u Q I f g h l
 obtain⟨z,i,c,rfl,rfl,A,m,q⟩:=h
 obtain⟨t,rfl⟩:=f
 obtain⟨t',rfl⟩:=g
 obtain⟨j,e,n,B,o,p⟩:=zDP m
 have hl:z.cps.toList.length=z.length:=by simp[nu]
 rw[hl]at e o p
 have C:=zBN
 exact rH (typeIs_str s z t) slot_str_getitem.lookup (getItem_str (c:=c) (by
  have r:decide (i< -(2^63:Int))=false:=decide_eq_false (by omega)
  have w:decide (i>=2^63)=false:=decide_eq_false (by omega)
  rw[r,w,Bool.or_false]) (by rw[e];simpa using n) ⟨.str ⟨#[c]⟩,H,I.tok _,⟨_,rfl⟩,q⟩) l
theorem Inv.lst {d:List (ai×Obj)}{σ:St}{H:Hp}{s:au}{p:ai}{xs:List V}(I:Inv X d σ H s)(h:H p=some (.lst xs)) :
  ∃(c:List ah) (n:Nat),zS xs c/\s.heap.get? p=some {cls:=.type "list",data:=.seq c.toArray n}/\xs.length<=sizeLine:=by
 obtain⟨z,c,n,r,e⟩:=I.hok p _ h
 exact⟨c,n,r,e,z⟩
theorem zLF (lo hi:Option Int)(n:Nat):(sliceBounds lo hi none n).1=((HT.sIx n 0 lo:Nat):Int)/\(sliceBounds lo hi none n).2.1=((HT.sIx n n hi:Nat):Int)/\(sliceBounds lo hi none n).2.2=1:=by
 refine⟨?_,?_,rfl⟩
 ·cases lo with
  |none=>simp[sliceBounds,HT.sIx]
  |some i=>
   simp only[sliceBounds,HT.sIx,oq,show(1:Int)>0 by decide,if_true]
   by_cases h:i<0
   ·simp only[h,if_true]<;>omega
   ·simp only[h,if_false]<;>omega
 ·cases hi with
  |none=>simp[sliceBounds,HT.sIx]
  |some i=>
   simp only[sliceBounds,HT.sIx,oq,show(1:Int)>0 by decide,if_true]
   by_cases h:i<0
   ·simp only[h,if_true]<;>omega
   ·simp only[h,if_false]<;>omega
theorem zLG (c:List ah)(lo hi:Option Int):slicePick c.toArray lo hi none=((c.drop (HT.sIx c.length 0 lo)).take (HT.sIx c.length c.length hi-HT.sIx c.length 0 lo)).toArray:=by
 obtain⟨d,e,f⟩:=zLF lo hi c.toArray.size
 unfold slicePick
 rw[d,e,f]
 simp only[sliceRange_one,pick_run,aY]<;>rfl
def zGM (K:ae):V->Option Int->Option Int->Hp->VK->Prop:=fun x lo hi H Q=>∃a xs,x=.ref a/\z9 K H a xs/\∀p,H p=none->Q (.ref p) (upd H p (.lst (qO xs lo hi)))
theorem zDQ:SlR X (zGM X.K):=by
 intro d s σ H x v p t lo hi u Q I f g i j h
 obtain⟨a,xs,rfl,l,q⟩:=h
 cases f
 obtain⟨m,r,e,n⟩:=I.list l
 have c:=r.length
 refine⟨"list",_,nO.lookup,e.isList.typeIs,?_⟩
 refine wpAny_getItem_list_slice e.isList g i j .none (by simp) ?_ (by rw[aY]<;>omega)
 rw[zLG,<-c]
 refine⟨.ref s.heap.objs.size,_,I.laid (t':=s.toks) (o:=.lst (qO xs lo hi)) (fun b w q=>ag _ q) (aH _) ?_,rfl,q _ (I.hok.fresh (aH _))⟩
 exact⟨b8 (zKx xs lo hi) n,_,0,(r.drop (HT.sIx xs.length 0 lo)).take (HT.sIx xs.length xs.length hi-HT.sIx xs.length 0 lo),aZ _ rfl⟩
def kS:V->Bool
 | .non=>true
 | .bl _=>true
 | .int _=>true
 | .str _=>true
 |_=>false
def jP:V->V->Bool
 | .non,.non=>true
 | .bl a,.bl b=>a==b
 | .bl a,.int b=>(if a then 1 else 0)==b
 | .int a,.bl b=>a==(if b then 1 else 0)
 | .int a,.int b=>a==b
 | .str a,.str b=>a==b
 |_,_=>false
theorem zLH {A:bU}{s:au}{y x:V}{u v:ah}(d:zW y u)(c:zW x v)(f:kS y=true)(e:kS x=true):o4 A s u v (jP y x):=by
 cases y with
 |non=>
  cases d
  cases x with
  |non=>cases c;exact sL _
  |bl b=>cases c;exact rJ b
  |int b=>obtain⟨t,rfl⟩:=c;exact rR b t
  |str b=>obtain⟨t,rfl⟩:=c;exact rS b t
  |_=>exact absurd (show false=true from e) aI
 |bl a=>
  cases d
  cases x with
  |non=>cases c;exact rK a
  |bl b=>cases c;exact iW a b
  |int b=>obtain⟨t,rfl⟩:=c;exact rT a b t
  |str b=>obtain⟨t,rfl⟩:=c;exact mV a b t
  |_=>exact absurd (show false=true from e) aI
 |int a=>
  obtain⟨t',rfl⟩:=d
  cases x with
  |non=>cases c;exact rV a t'
  |bl b=>cases c;exact rW a t' b
  |int b=>obtain⟨t,rfl⟩:=c;exact ka a t' b t
  |str b=>obtain⟨t,rfl⟩:=c;exact ng a t' b t
  |_=>exact absurd (show false=true from e) aI
 |str a=>
  obtain⟨t',rfl⟩:=d
  cases x with
  |non=>cases c;exact rX a t'
  |bl b=>cases c;exact mU a t' b
  |int b=>obtain⟨t,rfl⟩:=c;exact nh a t' b t
  |str b=>obtain⟨t,rfl⟩:=c;exact sf a t' b t
  |_=>exact absurd (show false=true from e) aI
 |_=>exact absurd (show false=true from f) aI
def jQ (x:V)(u:ah):Bool:=match u with
 | .none=>jP .non x
 | .bool b=>jP (.bl b) x
 | .int i _=>jP (.int i) x
 | .str z _=>jP (.str z) x
 |_=>false
theorem zGN {x y:V}{u:ah}(r:zW y u)(f:kS y=true):jQ x u=jP y x:=by
 cases y with
 |non=>cases r;rfl
 |bl b=>cases r;rfl
 |int i=>obtain⟨t,rfl⟩:=r;rfl
 |str z=>obtain⟨t,rfl⟩:=r;rfl
 |_=>exact absurd (show false=true from f) aI
theorem zDR {x:V}:∀{xs:List V}{us:List ah},zS xs us->xs.all kS=true->us.any (jQ x)=xs.any fun y=>jP y x
 |_,_,.nil,_=>rfl
 |y::xs,u::us,.cons r t,f=>by
  rw[kz,bz]at f
  rw[e8,e8,zGN r f.1,zDR t f.2]
theorem zDS {A:bU}{s:au}{x:V}{v:ah}(d:zW x v)(e:kS x=true):∀{xs:List V}{us:List ah},zS xs us->xs.all kS=true->∀u∈us,o4 A s u v (jQ x u)
 |_,_,.nil,_=>fun u c=>by cases c
 |y::xs,u::us,.cons r t,f=>fun g c=>by
  rw[kz,bz]at f
  rcases aQ.mp c with rfl|c
  ·rw[zGN r f.1];exact zLH r d f.1 e
  ·exact zDS d e t f.2 g c
def inV (x:V)(xs:List V):Bool:=xs.any fun y=>jP y x
def rIn (K:ae)(neg:Bool):R2:=fun x y H Q=>∃p xs,y=.ref p/\(z9 K H p xs\/yH K H p xs)/\kS x=true/\xs.all kS=true/\Q (.bl (if neg then !inV x xs else inV x xs)) H
theorem zLI:yN X (compareOp .In) (rIn X.K false):=by
 intro g s σ H x y v u Q I i l h
 obtain⟨p,xs,rfl,d,j,fs,q⟩:=h
 cases l
 rcases d with d|d
 ·obtain⟨c,r,e,m⟩:=I.list d
  refine SeqAt.in_listAt (jQ x) e.isList (fun w f=>zDS i j r fs w (by simpa using f)) ⟨.bl _,H,I,rfl,?_⟩
  rw[show c.toArray.any (jQ x)=c.any (jQ x) by simp,zDR r fs]
  exact q
 ·obtain⟨c,r,e,m⟩:=I.tuple d
  refine SeqAt.in_tupleAt (jQ x) e (fun w f=>zDS i j r fs w (by simpa using f)) ⟨.bl _,H,I,rfl,?_⟩
  rw[show c.toArray.any (jQ x)=c.any (jQ x) by simp,zDR r fs]
  exact q
theorem jE:uV X (.builtin "len") (fun xs H Q=>∃p ys,xs=[.ref p]/\(z9 X.K H p ys\/yH X.K H p ys)/\Q (.int ys.length) H):=by
 intro i s σ H xs us Q I r h
 obtain⟨p,ys,rfl,d,q⟩:=h
 obtain⟨u,rfl,j⟩:=jC r
 cases j
 have m:=zBN
 rcases d with d|d
 ·obtain⟨e,f,g,l⟩:=I.list d
  have c:=f.length
  exact Calls.call_len_list g.isList (by simp only[aY]<;>omega) ⟨.int ys.length,H,I.tok _,⟨s.toks+1,by rw[aY,c]⟩,q⟩
 ·obtain⟨e,f,g,l⟩:=I.tuple d
  have c:=f.length
  exact len_tuple g (by simp only[aY]<;>omega) ⟨.int ys.length,H,I.tok _,⟨s.toks+1,by rw[aY,c]⟩,q⟩
theorem j4:uV X (.builtin "len") (fun xs H Q=>∃z,xs=[.str z]/\z.length<=sizeLine/\Q (.int z.length) H):=by
 intro c s σ H xs us Q I r h
 obtain⟨z,rfl,d,q⟩:=h
 obtain⟨u,rfl,t,rfl⟩:=jC r
 have e:=zBN
 exact len_str (by omega) ⟨.int z.length,H,I.tok _,⟨_,rfl⟩,q⟩
theorem zGO:uV X (.type "list") (fun xs H Q=>∃p ys,xs=[.ref p]/\(z9 X.K H p ys\/yH X.K H p ys)/\∀l,H l=none->Q (.ref l) (upd H l (.lst ys))):=by
 intro g s σ H xs us Q I r h
 obtain⟨p,ys,rfl,i,q⟩:=h
 obtain⟨u,rfl,z⟩:=jC r
 cases z
 have fin:∀(c:List ah),zS ys c->ys.length<=sizeLine->∀(h':bK) (d:Nat),(∀b y,s.heap.get? b=some y->h'.get? b=some y)->
   h'.get? s.heap.objs.size=some {cls:=.type "list",dict:=none,data:=.seq c.toArray d,slots:=#[]}->EP X g σ Q (.ref s.heap.objs.size) {s with heap:=h'}:=fun c f j h' d kp e=>
  ⟨.ref s.heap.objs.size,_,I.laid (t':=s.toks) kp (aH _) (show yZ X.prog X.w _ h' _ (.lst ys)from⟨j,c,d,f,e⟩),rfl,q _ (I.hok.fresh (aH _))⟩
 rcases i with i|i
 ·obtain⟨c,f,t,j⟩:=I.list i
  have m:=f.length
  obtain⟨o,v,x,n,hd⟩:=t.isList
  exact qh p (.inl rfl) v x hd (fun h' d kp e=>fin c f j h' d kp e) (by simp only[aY]<;>omega)
 ·obtain⟨c,f,t,j⟩:=I.tuple i
  have m:=f.length
  obtain⟨o,v,x,n,hd⟩:=t
  exact qh p (.inr rfl) v x hd (fun h' d kp e=>fin c f j h' d kp e) (by simp only[aY]<;>omega)
def tyV (K:ae)(T:String)(x:V)(H:Hp):Prop:=match x with
 | .str _=>T="str"
 | .int _=>T="int"
 | .ref p=>(T="list"/\ ∃xs,z9 K H p xs)\/(T="tuple"/\ ∃o,K.lookup p=some o/\o.cls=.type "tuple"/\o.dict=none)\/
   (T="dict"/\ ((∃kvs,H p=some (.dK kvs))\/∃kvs,H p=some (.dT kvs)))\/(T="set"/\ ∃S n,H p=some (.set S n))
 |_=>False
theorem zLJ {f:List (ai×Obj)}{σ:St}{H:Hp}{s:au}{T:String}{x:V}{v:ah}(I:Inv X f σ H s)(r:zW x v)(ty:tyV X.K T x H) :
  s.TypeIs v T/\∀a,v=.ref a->∃h,s.heap.get? a=some h/\h.dict=none:=by
 cases x with
 |str z=>
  obtain⟨t,rfl⟩:=r
  cases(show T="str"from ty)
  exact⟨typeIs_str s z t,fun _ e=>nomatch e⟩
 |int i=>
  obtain⟨t,rfl⟩:=r
  cases(show T="int"from ty)
  exact⟨pd s i t,fun _ e=>nomatch e⟩
 |ref p=>
  cases r
  rcases ty with⟨rfl,xs,l⟩|⟨rfl,o,d,m,hd⟩|⟨rfl,d⟩|⟨rfl,S,n,d⟩
  ·obtain⟨q,_,j,_⟩:=I.list l
   refine⟨j.isList.typeIs,fun a e=>?_⟩
   cases e
   obtain⟨o,n,e,c,hd,_⟩:=j
   exact⟨o,e,hd⟩
  ·refine⟨⟨o,I.kIn p o d,m⟩,fun a e=>?_⟩
   cases e
   exact⟨o,I.kIn _ o d,hd⟩
  ·have z:∃o,s.heap.get? p=some o/\o.ExactDict:=by
    rcases d with⟨kvs,d⟩|⟨kvs,d⟩
    ·obtain⟨_,_,_,_,o,_,_,e,ex,_⟩:=I.hok p _ d
     exact⟨o,e,ex⟩
    ·obtain⟨_,_,_,_,o,_,_,e,ex,_⟩:=I.hok p _ d
     exact⟨o,e,ex⟩
   obtain⟨o,e,ex⟩:=z
   refine⟨⟨o,e,ex.1⟩,fun a g=>?_⟩
   cases g
   exact⟨o,e,ex.2.1⟩
  ·obtain⟨o,_,_,_,e,ex,_⟩:=I.hok p _ d
   refine⟨⟨o,e,ex.1⟩,fun a g=>?_⟩
   cases g
   exact⟨o,e,ex.2.1⟩
 |_=>exact dE ty
def tBM (K:ae)(T:String)(r:V->List V->Hp->VK->Prop)(to:TE)(t:TA):TE:=fun σ H Q=>to σ H fun x H1=>tyV K T x H1/\t σ H1 fun xs H2=>r x xs H2 Q
variable{o e:cb}{es:List cb}{to:TE}{t:TA}{name:Str}{apos cpos:Pos}{T id:String}{r:V->List V->Hp->VK->Prop}
theorem zAE (p:PlainAttrs T)(slot:Slot T name id)(j:typeOf (.builtin id)=pure (.type "method_descriptor"))(q:MtR X id r)(u:PE X o to)(w:PA X (e::es) t)
  (f:attributeBase o name X.env (eval o X.env)=eval o X.env:=by rfl)
  (i:((backTo cpos (starEach (e::es) X.env)).all (fun x=>!x.1)&& (backToKw cpos (keywordEach [] X.env)).all (fun x=>x.1.isSome)
   &&decide ((e::es).length+([]:List oW).length+(if([]:List oW).isEmpty then 0 else 1)<30))=true:=by rfl)
  (g:(apos.endLine==cpos.line)=true:=by rfl) (y:starEach (e::es) X.env=(false,eval e X.env)::starEach es X.env:=by rfl) (d:(backTo cpos (starEach es X.env)).any (·.1)=false:=by rfl) :
  PE X (.Call (.Attribute o name apos) (e::es) [] cpos) (tBM X.K T r to t):=by
 intro c s σ H Q I h
 refine wpAny_Call_method_late f i g rfl (zK (u c s σ H _ I h) fun v z ⟨x,A,l,m,ty,B⟩=>?_)
 obtain⟨C,D⟩:=zLJ l m ty
 refine⟨T,id,p,slot,j,C,D,?_⟩
 have n:=w cpos c z σ A _ l B
 rw[y]at n⊢
 refine iC (by show(false||(backTo cpos (starEach es X.env)).any (·.1))=false;rw[d]<;>rfl) (iX ?_)
 exact zK n fun us E ⟨vs,F,G,J,L⟩=>q c E σ F x vs v us Q G m J L
end
def MtM (X:Cx)(id:String)(r:V->List V->Hp->VK->Prop):Prop :=
 ∀(pins:List (ai×Obj)) (s:au) (σ:St) (H:Hp) (x:V) (xs:List V) (v:ah) (us:List ah) (Q:VK),Inv X pins σ H s->zW x v->zS xs us->r x xs H Q->
  wpAny (model X.prog X.w) X.A (call (.builtin id) (v::us)) (EP X pins σ Q) X.xe s
theorem zS.one:∀{x:V}{us:List ah},zS [x] us->∃u,us=[u]/\zW x u
 |_,_,.cons r .nil=>⟨_,rfl,r⟩
theorem zS.zero:∀{us:List ah},zS [] us->us=[]
 |_,.nil=>rfl
theorem zS.dropLast {xs:List V}{us:List ah}(h:zS xs us):zS xs.dropLast us.dropLast:=by
 induction h with
 |nil=>exact .nil
 |cons r t ih=>
  cases t with
  |nil=>exact .nil
  |cons q t'=>exact .cons r ih
theorem zS.reverse {xs:List V}{us:List ah}(h:zS xs us):zS xs.reverse us.reverse:=by
 induction h with
 |nil=>exact .nil
 |cons r t ih=>rw[nP,nP];exact zS.append ih (.cons r .nil)
theorem zS.rep {xs:List V}{us:List ah}(h:zS xs us):∀k:Nat,zS (aU k xs).flatten (aU k us).flatten
 |0=>.nil
 |k+1=>by
  rw[ff,ff,fO,fO]
  exact zS.append h (zS.rep h k)
theorem zGP (a:List ah):∀(k:Nat) (b:List ah),
  pe (fun c d=>c++d) b.toArray (aU k a.toArray)=(b++(aU k a).flatten).toArray
 |0,b=>by simp
 |k+1,b=>by
  have e:b.toArray++a.toArray=(b++a).toArray:=by simp
  have f:(b++a)++(aU k a).flatten=b++(aU (k+1) a).flatten:=by
   rw[ff,fO,fK]
  rw[<-f,<-zGP a k (b++a),<-e,ff,eW]
section
variable{X:Cx}{pins:List (ai×Obj)}{σ:St}{H:Hp}{s:au}{l b:ai}{xs ys zs:List V}
theorem Inv.lset {a its':List ah}{n:Nat}{f:Array ah->Array ah}{t':Nat}(I:Inv X pins σ H s)(c:H l=some (.lst xs))
  (e:s.heap.get? l=some {cls:=.type "list",data:=.seq a.toArray n}) (d:f a.toArray=its'.toArray) (g:zS ys its') (h:ys.length<=sizeLine) :
  Inv X pins σ (upd H l (.lst ys)) {s with heap:=s.heap.update l (cz f),toks:=t'}:=by
 have q:=iS e f
 rw[d]at q
 refine I.write (x:=l) (e:=l) (by rw[c];exact trivial) (.inl rfl) (fun m u i j=>(cF s.heap (cz f) (d9 i)).trans j) ⟨_,q⟩ ?_
 exact⟨h,its',_,g,q⟩
theorem Inv.lnew {a:List ah}{t':Nat}(I:Inv X pins σ H s)(c:zS ys a)(d:ys.length<=sizeLine) :
  Inv X pins σ (upd H s.heap.objs.size (.lst ys)) {s with heap:=s.heap.push {cls:=.type "list",data:=.seq a.toArray},toks:=t'} :=
 I.laid (fun _ _ q=>ag _ q) (aH _) ⟨d,a,0,c,aZ _ rfl⟩
theorem Inv.fresh (I:Inv X pins σ H s):H s.heap.objs.size=none:=I.hok.fresh (aH _)
theorem Inv.lstM (I:Inv X pins σ H s)(c:H l=some (.lst xs)):xs.length<=sizeLine/\∃(a:List ah) (n:Nat),zS xs a/\xs.length=a.length/\s.heap.get? l=some {cls:=.type "list",data:=.seq a.toArray n}:=by
 obtain⟨z,a,n,r,e⟩:=I.hok l _ c
 exact⟨z,a,n,r,r.length,e⟩
theorem zGQ {n:Nat}(h:n<=sizeLine):fb n=false:=by
 unfold fb
 exact decide_eq_false (by omega)
end
section
variable{X:Cx}
def zLK:V->List V->Hp->VK->Prop:=fun x vs H Q=>∃l xs y,x=.ref l/\vs=[y]/\H l=some (.lst xs)/\xs.length<sizeLine/\Q .non (upd H l (.lst (xs++[y])))
theorem zGR:MtM X "list.append" zLK:=by
 intro b s σ H x vs v us Q I d f h
 obtain⟨l,xs,y,rfl,rfl,c,i,q⟩:=h
 cases d
 obtain⟨u,rfl,g⟩:=f.one
 obtain⟨z,a,n,r,hl,e⟩:=I.lstM c
 refine fU ij ⟨_,e,rfl⟩ gq (fV _ _) (iD l a.toArray n u (by rw[aY];omega)) ⟨e,?_⟩
 refine⟨.non,_,I.lset (its':=a++[u]) c e (by simp) (r.append (.cons g .nil)) ?_,rfl,q⟩
 rw[aq,dA]
 omega
def zLL:V->List V->Hp->VK->Prop:=fun x vs H Q=>∃l b xs zs,x=.ref l/\vs=[.ref b]/\H l=some (.lst xs)/\H b=some (.lst zs)/\xs.length+zs.length<=sizeLine/\Q .non (upd H l (.lst (xs++zs)))
theorem zLM:MtM X "list.extend" zLL:=by
 intro f s σ H x vs v us Q I i j h
 obtain⟨l,b,xs,y,rfl,rfl,g,m,A,q⟩:=h
 cases i
 obtain⟨u,rfl,o⟩:=j.one
 cases o
 obtain⟨z,c,n,r,hl,e⟩:=I.lstM g
 obtain⟨B,a,p,t,hl2,w⟩:=I.lstM m
 have hsz:c.toArray.size+a.toArray.size<=sizeLine:=by rw[aY,aY];omega
 have d:¬(!c.toArray.isEmpty&&fb (c.toArray.size+a.toArray.size))=true:=by
  rw[zGQ hsz,pf]
  exact aI
 refine fU F.slot_list_extend ⟨_,e,rfl⟩ F.entry_list_extend (F.args_list_extend_2 _ _)
  (AutoSeq1.list_extend_list_list_0 l c.toArray n b a.toArray p d (by rw[aY];omega) (by omega)) ⟨e,w,?_⟩
 refine⟨.non,_,I.lset (its':=c++a) g e (by simp) (r.append t) ?_,rfl,q⟩
 rw[aq]
 omega
def zGS:R2:=fun x y H Q=>∃l b xs zs,x=.ref l/\y=.ref b/\H l=some (.lst xs)/\H b=some (.lst zs)/\xs.length+zs.length<=sizeLine/\∀p,H p=none->Q (.ref p) (upd H p (.lst (xs++zs)))
theorem jR:yN X (binaryOp .Add) zGS:=by
 intro d s σ H x y v u Q I f g h
 obtain⟨l,b,xs,t,rfl,rfl,i,j,w,q⟩:=h
 cases f
 cases g
 obtain⟨z,c,n,r,hl,e⟩:=I.lstM i
 obtain⟨A,a,B,m,hl2,o⟩:=I.lstM j
 refine PySem.P.add_list e o ?_ (by rw[aY,aY];omega)
 have p:c.toArray++a.toArray=(c++a).toArray:=by simp
 rw[p]
 exact⟨.ref _,_,I.lnew (t':=s.toks) (r.append m) (by rw[aq];omega),rfl,q _ I.fresh⟩
def zLN:R2:=fun x y H Q=>∃l k xs,x=.ref l/\y=.int k/\H l=some (.lst xs)/\-(2^63)<=k/\k<2^63/\xs.length*k.toNat<=sizeLine/\
 ∀p,H p=none->Q (.ref p) (upd H p (.lst (aU k.toNat xs).flatten))
theorem zLO {α:Type}(xs:List α)(k:Nat):(aU k xs).flatten.length=k*xs.length:=by
 induction k with
 |zero=>simp
 |succ k ih=>rw[ff,fO,aq,ih,qy,Nat.add_comm]
theorem zDT:yN X (binaryOp .Mult) zLN:=by
 intro p s σ H x y v u Q I A B h
 obtain⟨l,k,xs,rfl,rfl,C,D,E,w,q⟩:=h
 cases A
 obtain⟨t,rfl⟩:=B
 obtain⟨z,b,n,r,hl,e⟩:=I.lstM C
 have d:b.toArray.size*k.toNat<=sizeLine:=by rw[aY,<-hl];exact w
 have f:¬b.toArray.size*k.toNat> (2^63-1)/8:=by
  have:(sizeLine:Nat)<=(2^63-1)/8:=by decide
  omega
 have g:¬(!Builtin.List.listFitsIndex k)=true:=by
  rw[fitsIndex_both D E]
  exact aI
 have c:¬fb (b.toArray.size*k.toNat)=true:=by
  rw[zGQ d]
  exact aI
 have i:pe (fun j o=>j++o) #[] (aU (if b.toArray.isEmpty=true then 0 else k.toNat) b.toArray)=(aU k.toNat b).flatten.toArray:=by
  have G:∀m:Nat,pe (fun j o=>j++o) #[] (aU m b.toArray)=(aU m b).flatten.toArray:=fun m=>by
   have:=zGP b m []
   rw[oK]at this
   exact this
  rw[G]
  cases b with
  |nil=>simp
  |cons a J=>rw[if_neg (by simp)]
 refine wpAny_binaryOp_repeat_ref (T :="list") (U :="int") (by decide) ⟨_,e,rfl⟩ (fun s'=>pd s' k t) noFill_list_mul F.fills_int_mul oM repeat_list F.slot_int_index.lookup
  (fU oM (pd s k t) F.entry_int_rmul (F.args_int_rmul_2 _ _) (int___rmul___int_list k t l b.toArray n)
   ⟨e,rfl,⟨_,e,rfl⟩,fU F.slot_list_mul ⟨_,e,rfl⟩ F.entry_list_mul (F.args_list_mul_2 _ _) (nD l b.toArray n k t g f c) ⟨e,?_⟩⟩)
 rw[i]
 exact⟨.ref _,_,I.lnew (t':=s.toks) (r.rep k.toNat) (by rw[zLO,Nat.mul_comm];exact w),rfl,q _ I.fresh⟩
end
section
variable{κ:Type} [DecidableEq κ]
def yU (kvs:List (κ×V))(k:κ):Option V:=(kvs.find? fun kv=>decide (kv.1=k)).map (·.2)
def uJ (kvs:List (κ×V))(k:κ)(v:V):List (κ×V) :=
 if(kvs.any fun kv=>decide (kv.1=k))=true then kvs.map (fun kv=>if kv.1=k then(kv.1,v)else kv)else kvs++[(k,v)]
theorem jF {p:κ×V}{r:List (κ×V)}{k:κ}(e:p.1=k):yU (p::r) k=some p.2:=by simp[yU,eF,e]
theorem jG {p:κ×V}{r:List (κ×V)}{k:κ}(e:¬p.1=k):yU (p::r) k=yU r k:=by simp[yU,eF,e]
theorem zBt (k:κ):∀kvs:List (κ×V),(kvs.any fun a=>decide (a.1=k))=(yU kvs k).isSome
 | []=>rfl
 |p::r=>by
  rw[e8]
  by_cases e:p.1=k
  ·simp only[jF e,decide_eq_true e,qz,nv]
  ·rw[jG e,decide_eq_false e,qi];exact zBt k r
theorem zGT (k j:κ)(y:V):∀kvs:List (κ×V),yU (kvs.map fun a=>if a.1=k then(a.1,y)else a) j=(yU kvs j).map fun x=>if j=k then y else x
 | []=>rfl
 |p::r=>by
  have ih:=zGT k j y r
  rw[ba]
  by_cases h:p.1=k
  ·rw[if_pos h]
   by_cases e:p.1=j
   ·rw[jF (p:=(p.1,y)) e,jF e,hZ,if_pos (e.symm.trans h)]
   ·rw[jG (p:=(p.1,y)) e,jG e,ih]
  ·rw[if_neg h]
   by_cases e:p.1=j
   ·rw[jF (p:=p) e,jF e,hZ,if_neg (fun z=>h (e.trans z))]
   ·rw[jG (p:=p) e,jG e,ih]
theorem zGU (k j:κ)(y:V):∀kvs:List (κ×V),yU kvs k=none->yU (kvs++[(k,y)]) j=if j=k then some y else yU kvs j
 | [],_=>by
  by_cases e:k=j
  ·rw[if_pos e.symm];exact jF (p:=(k,y)) e
  ·rw[if_neg (fun z=>e z.symm)];exact jG (p:=(k,y)) e
 |p::r,a=>by
  rw[dt]
  have b:¬p.1=k:=fun z=>by rw[jF z]at a;cases a
  rw[jG b]at a
  have ih:=zGU k j y r a
  by_cases e:p.1=j
  ·rw[jF e,jF e,if_neg (fun z=>b (e.trans z))]
  ·rw[jG e,jG e,ih]
theorem zGV (kvs:List (κ×V))(k j:κ)(y:V):yU (uJ kvs k y) j=if j=k then some y else yU kvs j:=by
 unfold uJ
 by_cases a:(kvs.any fun b=>decide (b.1=k))=true
 ·rw[if_pos a,zGT]
  rw[zBt]at a
  by_cases e:j=k
  ·obtain⟨x,c⟩:=kx.mp a
   rw[if_pos e,e,c,hZ,if_pos rfl]
  ·rw[if_neg e]
   cases yU kvs j with
   |none=>rfl
   |some x=>rw[hZ,if_neg e]
 ·rw[if_neg a]
  refine zGU k j y kvs ?_
  rw[zBt]at a
  cases q:yU kvs k with
  |none=>rfl
  |some x=>rw[q]at a;exact(a rfl).elim
theorem zDU (kvs:List (κ×V))(k:κ)(v:V):(uJ kvs k v).length<=kvs.length+1:=by
 unfold uJ
 split
 ·rw[af];omega
 ·rw[aq,bJ,oN];omega
theorem qU.isSome_eq {o:Option V}{u:Option ah}(r:qU o u):o.isSome=u.isSome:=by
 cases o with
 |none=>cases u with
  |none=>rfl
  |some _=>exact(show False from r).elim
 |some _=>cases u with
  |none=>exact(show False from r).elim
  |some _=>rfl
theorem qU.getD {o:Option V}{u:Option ah}{d:V}{d':ah}(r:qU o u)(a:zW d d'):zW (o.getD d) (u.getD d'):=by
 cases o with
 |none=>cases u with
  |none=>exact a
  |some _=>exact(show False from r).elim
 |some _=>cases u with
  |none=>exact(show False from r).elim
  |some _=>exact r
theorem KV.val {kvs:List (κ×V)}{vs:List (κ×ah)}(r:KV kvs vs)(k:κ):qU (yU kvs k) (valueAt vs k):=by
 unfold KV at r
 induction r with
 |nil=>exact True.intro
 | @cons p q g a h t ih=>
  obtain⟨d,f⟩:=h
  by_cases e:p.1=k
  ·have c:q.1=k:=d.symm.trans e
   have b:valueAt (q::a) k=some q.2:=by simp[valueAt,eF,c]
   rw[jF e,b];exact f
  ·have c:¬q.1=k:=fun z=>e (d.trans z)
   have b:valueAt (q::a) k=valueAt a k:=by simp[valueAt,eF,c]
   rw[jG e,b];exact ih
theorem KV.any {kvs:List (κ×V)}{vs:List (κ×ah)}(r:KV kvs vs)(k:κ):(kvs.any fun a=>decide (a.1=k))=vs.any fun a=>decide (a.1=k):=by
 unfold KV at r
 induction r with
 |nil=>rfl
 |cons h t ih=>rw[e8,e8,ih,h.1]
theorem KV.repl {kvs:List (κ×V)}{vs:List (κ×ah)}(r:KV kvs vs)(k:κ){y:V}{u:ah}(c:zW y u) :
  KV (kvs.map fun a=>if a.1=k then(a.1,y)else a) (vs.map fun a=>if a.1=k then(a.1,u)else a):=by
 unfold KV at r⊢
 induction r with
 |nil=>exact .nil
 | @cons p q f g h t ih=>
  rw[ba,ba]
  refine .cons ?_ ih
  obtain⟨b,d⟩:=h
  by_cases e:p.1=k
  ·rw[if_pos e,if_pos (b.symm.trans e)];exact⟨b,c⟩
  ·rw[if_neg e,if_neg (fun z=>e (b.trans z))];exact⟨b,d⟩
theorem KV.put {kvs:List (κ×V)}{vs:List (κ×ah)}(r:KV kvs vs)(k:κ){y:V}{u:ah}(a:zW y u):KV (uJ kvs k y) (stored vs k u):=by
 unfold uJ stored
 rw[r.any k]
 by_cases e:(vs.any fun b=>decide (b.1=k))=true
 ·rw[if_pos e,if_pos e];exact r.repl k a
 ·rw[if_neg e,if_neg e];exact rL r ⟨rfl,a⟩
theorem KV.length {kvs:List (κ×V)}{vs:List (κ×ah)}(r:KV kvs vs):kvs.length=vs.length:=gw r
end
theorem zAj {P:aP}{w:bc}{k:z0}{u:ah}(r:zW (kV k) u):(qL P w).is k u=true:=by
 cases k with
 |inl i=>obtain⟨t,e⟩:=(show∃t,u=Value.int i t from r);subst e;exact zKF P w i t
 |inr x=>obtain⟨t,e⟩:=(show∃t,u=Value.str x t from r);subst e;exact zKG P w x t
theorem zLP {P:aP}{w:bc}{k:y7}{u:ah}(r:zW (kK k) u):(gH P w).is k u=true:=by
 cases k with
 |inl x=>obtain⟨t,e⟩:=(show∃t,u=Value.str x t from r);subst e;show iU x (.str x t)=true;simp[iU]
 |inr b=>have e:u=Value.bool b:=r;subst e;exact beq_self_eq_true _
theorem zGW {P:aP}{w:bc}:∀{ks:List y7}{us:List ah},zS (ks.map kK) us->ItemsAre (gH P w) ks us
 | [],_,r=>by rw[lR]at r;cases r;exact .nil
 |k::ks,_,r=>by
  rw[ba]at r
  cases r with
  |cons h t=>exact .cons (zLP h) (zGW t)
abbrev KT (H:Hp):List (List y7×V)->List (List y7×ai×ah)->Prop:=n9 fun p q=>p.1=q.1/\H q.2.1=some (.tup (p.1.map kK))/\zW p.2 q.2.2
theorem KT.val {H:Hp}{kvs:List (List y7×V)}{xs:List (List y7×ai×ah)}(r:KT H kvs xs)(k:List y7):qU (yU kvs k) ((atKey xs k).map (·.2)):=by
 induction r with
 |nil=>exact True.intro
 | @cons p q g a h t ih=>
  obtain⟨d,_,f⟩:=h
  by_cases e:p.1=k
  ·have c:q.1=k:=d.symm.trans e
   have b:atKey (q::a) k=some q.2:=by simp[atKey,eF,c]
   rw[jF e,b];exact f
  ·have c:¬q.1=k:=fun z=>e (d.trans z)
   have b:atKey (q::a) k=atKey a k:=by simp[atKey,eF,c]
   rw[jG e,b];exact ih
theorem KT.repl {H:Hp}{kvs:List (List y7×V)}{xs:List (List y7×ai×ah)}(r:KT H kvs xs)(k:List y7){y:V}{u:ah}(d:zW y u) :
  KT H (kvs.map fun b=>if b.1=k then(b.1,y)else b) (xs.map (putAt k u)):=by
 induction r with
 |nil=>exact .nil
 | @cons p q g i h t ih=>
  rw[ba,ba]
  refine .cons ?_ ih
  obtain⟨a,c,f⟩:=h
  unfold putAt
  by_cases e:p.1=k
  ·rw[if_pos e,if_pos (a.symm.trans e)];exact⟨a,c,d⟩
  ·rw[if_neg e,if_neg (fun z=>e (a.trans z))];exact⟨a,c,f⟩
theorem KT.put {H:Hp}{kvs:List (List y7×V)}{xs:List (List y7×ai×ah)}(r:KT H kvs xs)(k:List y7){b:ai}{y:V}{u:ah}(c:H b=some (.tup (k.map kK)))(a:zW y u) :
  KT H (uJ kvs k y) (storedH xs k b u):=by
 have e:(kvs.any fun d=>decide (d.1=k))=(atKey xs k).isSome:=by
  rw[zBt,(r.val k).isSome_eq,kl]
 unfold uJ storedH
 rw[e]
 by_cases q:(atKey xs k).isSome=true
 ·rw[if_pos q,if_pos q];exact r.repl k a
 ·rw[if_neg q,if_neg q];exact rL r ⟨rfl,c,a⟩
theorem KT.keeps {H H':Hp}{kvs:List (List y7×V)}{xs:List (List y7×ai×ah)}(r:KT H kvs xs)(a:∀b ys,H b=some (.tup ys)->H' b=some (.tup ys)):KT H' kvs xs :=
 Paired.mapP r fun _ _ z=>⟨z.1,a _ _ z.2.1,z.2.2⟩
section
variable{P:aP}{w:bc}{H:Hp}{h:bK}{a:ai}
theorem zGX {u:HO}(ok:yB P w H h)(e:Rd H a u):yZ P w H h a u:=e.ok ok
theorem jS {kvs:List (z0×V)}(ok:yB P w H h)(e:Rd H a (.dK kvs)):kvs.length<=sizeLine/\(a==sysModules)=false/\∃vs,KV kvs vs/\h.DictOf (qL P w) a vs :=
 show yZ P w H h a (.dK kvs)from zGX ok e
theorem zBu {kvs:List (z0×V)}(ok:yB P w H h)(e:H a=some (.dK kvs)):kvs.length<=sizeLine/\(a==sysModules)=false/\∃vs,KV kvs vs/\h.DictOf (qL P w) a vs:=jS ok (.inl e)
theorem zAk {ks:List y7}(ok:yB P w H h)(e:H a=some (.tup (ks.map kK))):(tupleKind (gH P w)).is h ks a:=by
 obtain⟨_,b,r,o,c,d,n,f⟩:=(show yZ P w H h a (.tup (ks.map kK))from ok a _ e)
 exact⟨o,b.toArray,n,c,d,f,by simpa using zGW r⟩
theorem zAF {kvs:List (List y7×V)}(ok:yB P w H h)(e:Rd H a (.dT kvs)):kvs.length<=sizeLine/\(a==sysModules)=false/\
  ∃xs,KT H kvs xs/\h.DictOfH (tupleKind (gH P w)) a xs:=by
 obtain⟨z,y,xs,r,o,d,ep,f,g,i,j,n⟩:=(show yZ P w H h a (.dT kvs)from zGX ok e)
 refine⟨z,y,xs,r,o,d,ep,f,g,i,j,fun x b=>?_,n⟩
 have all:∀{l:List (List y7×V)} {m:List (List y7×ai×ah)},KT H l m->∀x∈m,(tupleKind (gH P w)).is h x.1 x.2.1:=by
  intro l m q
  induction q with
  |nil=>intro x b;exact nomatch b
  | @cons p q s u c t ih=>
   intro x b
   rcases aQ.mp b with e|b
   ·subst e
    exact zAk ok (by rw[<-c.1];exact c.2.1)
   ·exact ih x b
 exact all r x b
theorem zLQ {kvs:List (List y7×V)}(ok:yB P w H h)(e:H a=some (.dT kvs)):kvs.length<=sizeLine/\(a==sysModules)=false/\
  ∃xs,KT H kvs xs/\h.DictOfH (tupleKind (gH P w)) a xs:=zAF ok (.inl e)
end
def vR (H:Hp)(a:ai)(y:V)(r:Option V):Prop :=
 (∃kvs k,Rd H a (.dK kvs)/\y=kV k/\r=yU kvs k)\/∃kvs k b,Rd H a (.dT kvs)/\y=.ref b/\H b=some (.tup (k.map kK))/\r=yU kvs k
def kT (H:Hp)(a:ai)(y v:V)(H':Hp):Prop :=
 (∃kvs k,H a=some (.dK kvs)/\y=kV k/\kvs.length<sizeLine/\H'=upd H a (.dK (uJ kvs k v)))\/
 ∃kvs k b,H a=some (.dT kvs)/\y=.ref b/\H b=some (.tup (k.map kK))/\kvs.length<sizeLine/\H'=upd H a (.dT (uJ kvs k v))
theorem vR.k {H:Hp}{a:ai}{kvs:List (z0×V)}{k:z0}(e:H a=some (.dK kvs)):vR H a (kV k) (yU kvs k):=.inl ⟨kvs,k,.inl e,rfl,rfl⟩
theorem kT.k {H:Hp}{a:ai}{kvs:List (z0×V)}{k:z0}{v:V}(e:H a=some (.dK kvs))(hl:kvs.length<sizeLine):kT H a (kV k) v (upd H a (.dK (uJ kvs k v))):=.inl ⟨kvs,k,e,rfl,hl,rfl⟩
section
variable{X:Cx}{pins:List (ai×Obj)}{σ:St}{H:Hp}{s:au}{a:ai}{y v:V}{u r:ah}{o:Option V}{A:bU}{E:ah->au->Prop}
theorem Inv.big (I:Inv X pins σ H s):sysModules<s.heap.objs.size:=by
 have h:mainGlobals<s.heap.objs.size:=(I.mod.glob.keeps I.bk).lt
 exact rf (by decide) h
theorem zLR {Q:ah->au->Prop}(n:A.units+1<cLine)(I:Inv X pins σ H s)(g:vR H a y (some v))(m:zW y u)(h:∀d s',Inv X pins σ H s'->zW v d->Q d s') :
  wpAny (model X.prog X.w) A (getItem (.ref a) u) Q E s:=by
 rcases g with⟨kvs,k,e,f,l⟩|⟨kvs,k,b,e,f,q,l⟩
 ·subst f
  obtain⟨z,hd,vs,rel,dd⟩:=jS I.hok e
  obtain⟨d,i,c⟩:=qU.some_of (v:=v) (o:=valueAt vs k) (by rw[l];exact rel.val k)
  exact wpAny_getItem_of (zAj m) dd.mapOf i (h d _ (I.tok _) c)
 ·subst f
  cases(show u=Value.ref b from m)
  obtain⟨z,hd,xs,rel,dd⟩:=zAF I.hok e
  obtain⟨d,i,c⟩:=qU.some_of (v:=v) (o:=(atKey xs k).map (·.2)) (by rw[l];exact rel.val k)
  obtain⟨p,t,j⟩:=ix.mp i
  refine wpAny_getItem_heap (fz n) (zAk I.hok q) dd t ?_
  rw[j]
  exact h d _ (I.tok _) c
theorem zLS {Q:ah->au->Prop}(f:A.units+1<cLine)(I:Inv X pins σ H s)(g:vR H a y o)(d:zW y u)(h:∀s',Inv X pins σ H s'->Q (.bool o.isSome) s') :
  wpAny (model X.prog X.w) A (compareOp .In u (.ref a)) Q E s:=by
 rcases g with⟨kvs,k,e,c,l⟩|⟨kvs,k,b,e,c,i,l⟩
 ·subst c
  obtain⟨z,hd,vs,rel,dd⟩:=jS I.hok e
  refine wpAny_in_of (zAj d) hd dd.mapOf ?_
  rw[<- (rel.val k).isSome_eq,<-l]
  exact h _ (I.tok _)
 ·subst c
  cases(show u=Value.ref b from d)
  obtain⟨z,hd,xs,rel,dd⟩:=zAF I.hok e
  refine wpAny_in_heap (fz f) (zAk I.hok i) hd dd ?_
  have q:=(rel.val k).isSome_eq
  rw[kl]at q
  rw[<-q,<-l]
  exact h _ (I.tok _)
theorem zLT {Q:ah->au->Prop}(f:A.units+1<cLine)(I:Inv X pins σ H s)(g:vR H a y o)(d:zW y u)(h:∀s',Inv X pins σ H s'->Q (.bool (!o.isSome)) s') :
  wpAny (model X.prog X.w) A (compareOp .NotIn u (.ref a)) Q E s:=by
 rcases g with⟨kvs,k,e,c,l⟩|⟨kvs,k,b,e,c,i,l⟩
 ·subst c
  obtain⟨z,hd,vs,rel,dd⟩:=jS I.hok e
  refine wpAny_notIn_of (zAj d) hd dd.mapOf ?_
  rw[<- (rel.val k).isSome_eq,<-l]
  exact h _ (I.tok _)
 ·subst c
  cases(show u=Value.ref b from d)
  obtain⟨z,hd,xs,rel,dd⟩:=zAF I.hok e
  refine wpAny_notIn_heap (fz f) (zAk I.hok i) hd dd ?_
  have q:=(rel.val k).isSome_eq
  rw[kl]at q
  rw[<-q,<-l]
  exact h _ (I.tok _)
theorem zDV {h':bK}{t':Nat}{c:HO}(I:Inv X pins σ H s)(d:Mut (H a))(f:jm a s.heap h')(g:∃q,h'.get? a=some q)(new:yZ X.prog X.w (upd H a c) h' a c) :
  Inv X pins σ (upd H a c) {s with heap:=h',toks:=t'} :=
 I.write (x:=a) (e:=a) d (.inl rfl) (fun b q h z=>(f.2 b h).trans z) g new
theorem zGY {P:aP}{w:bc}{H':Hp}{h':bK}{kvs:List (z0×V)}{vs:List (z0×ah)}(z:kvs.length<=sizeLine)(hd:(a==sysModules)=false)(rel:KV kvs vs)(dd:h'.DictOf (qL P w) a vs) :
  yZ P w H' h' a (.dK kvs):=⟨z,hd,vs,rel,dd⟩
theorem zLU {H':Hp}{Q:Unit->au->Prop}(C:A.units+1<cLine)(I:Inv X pins σ H s)(g:kT H a y v H')(p:zW y u)(t:zW v r)(h:∀s',Inv X pins σ H' s'->Q () s') :
  wpAny (model X.prog X.w) A (setItem (.ref a) u r) Q E s:=by
 rcases g with⟨kvs,k,e,i,l,j⟩|⟨kvs,k,b,e,i,x,l,j⟩
 ·subst i j
  obtain⟨z,hd,vs,rel,dd⟩:=zBu I.hok e
  have m:vs.length<=sizeLine:=by rw[<-rel.length];exact z
  have hl:(uJ kvs k v).length<=sizeLine:=by have:=zDU kvs k v;omega
  refine wpAny_setItem_pairs (hsz:=m) (zAj p) dd fun h' d n=>h _ ?_
  have D:∃q,h'.get? a=some q:=let⟨q,_,_,f,_⟩:=d;⟨q,f⟩
  exact zDV I (by rw[e];exact True.intro) n D (zGY hl hd (rel.put k t) d)
 ·subst i j
  cases(show u=Value.ref b from p)
  obtain⟨z,hd,xs,rel,dd⟩:=zLQ I.hok e
  have m:xs.length<=sizeLine:=by rw[<-gw rel];exact z
  have hl:(uJ kvs k v).length<=sizeLine:=by have:=zDU kvs k v;omega
  refine wpAny_setItem_heap (hsz:=m) (fz C) (zAk I.hok x) dd fun h' d n=>h _ ?_
  obtain⟨q,F,ep,f,G,J,L,_,M⟩:=d
  refine zDV I (by rw[e];exact True.intro) n ⟨q,f⟩ ⟨hl,hd,_,(rel.put k x t).keeps fun c ys B=>?_,q,F,ep,f,G,J,L,M⟩
  rw[zN (zBK B e (fun z=>nomatch z))]
  exact B
end
def zGZ (i:cb):Prop:=∀ov iv,subscripted i false ov iv=operate [ov,iv] (getItem ov iv)
theorem zLV {prog:aP}{w:bc}{A:bU}{E:ah->au->Prop}{s:au}{env:Env}{value slice:cb}{pos:Pos}{T id:String}{Q:ah->au->Prop}
  (hl:typeLookup (.type T) "__getitem__"=pure (some (.builtin id))) (f:zGZ slice)
  (h:wpAny (model prog w) A (eval value env) (fun o c=>wpAny (model prog w) A (eval slice env) (fun i a=>a.TypeIs o T/\wpAny (model prog w) A (getItem o i) Q E a) E c) E s) :
  wpAny (model prog w) A (eval (.Subscript value slice pos) env) Q E s:=by
 refine nr (cf h (fun o c h₁=>cf h₁ (fun i a b=>?_) fun _ _ x=>x) fun _ _ x=>x)
 obtain⟨d,b⟩:=b
 unfold subscriptTail
 refine ao ?_
 rw[getitemInPython_of_ne d.not_modules]
 refine ao (wpAny_specialOf d hl ?_)
 have fin:wpAny (model prog w) A (subscripted slice false o i) (fun r e=>wpAny (model prog w) A (letTemporaryGo value o r>>=fun _=>pure r) Q E e) E a:=by
  rw[f o i]
  exact wpAny_operating (cf b (fun r e g=>ao (wpAny_letTemporaryGo (bf g))) fun _ _ x=>x)
 first
  |exact bf (ao fin)
  |exact ao (bf (ao fin))
  |exact ao fin
theorem zLW {X:Cx}{c:List (ai×Obj)}{σ:St}{H:Hp}{s:au}{a:ai}{y:V}{o:Option V}(I:Inv X c σ H s)(g:vR H a y o):s.TypeIs (.ref a) "dict" :=by
 rcases g with⟨kvs,k,e,_,_⟩|⟨kvs,k,b,e,_,_,_⟩
 ·obtain⟨_,_,vs,_,dd⟩:=jS I.hok e
  exact dd.typeIs
 ·obtain⟨_,_,xs,_,dd⟩:=zAF I.hok e
  exact dd.typeIs
def zAl (td ty:TE):TE:=fun σ H Q=>td σ H fun x H1=>ty σ H1 fun y H2=>∃a v,x=.ref a/\vR H2 a y (some v)/\Q v H2
def zLX (ty td:TE):TE:=fun σ H Q=>ty σ H fun y H1=>td σ H1 fun x H2=>∃a o,x=.ref a/\vR H2 a y o/\Q (.bl o.isSome) H2
def zLY (ty td:TE):TE:=fun σ H Q=>ty σ H fun y H1=>td σ H1 fun x H2=>∃a o,x=.ref a/\vR H2 a y o/\Q (.bl (!o.isSome)) H2
def zBv (td ty tv:TE):TS:=fun D σ H=>tv σ H fun v H1=>td σ H1 fun x H2=>ty σ H2 fun y H3=>∃a H4,x=.ref a/\kT H3 a y v H4/\D.nx σ H4
section
variable{X:Cx}{o i e value:cb}{pos pos' tpos:Pos}{td ty tv:TE}
theorem zAG (f:X.A.units+1<cLine)(j:PE X o td)(hi:PE X i ty)(l:zGZ i):PE X (.Subscript o i pos) (zAl td ty):=by
 intro b s σ H Q I h
 refine zLV PySem.F.slot_dict_getitem.lookup l (zK (j b s σ H _ I h) fun u m ⟨x,n,p,q,r⟩=>zK (hi b m σ n _ p r) fun C D ⟨y,t,d,w,a,v,ex,g,z⟩=>?_)
 subst ex
 obtain rfl:u=Value.ref a:=q
 exact⟨zLW d g,zLR f d g w fun E G B c=>⟨v,t,B,c,z⟩⟩
theorem zLZ (c:X.A.units+1<cLine)(hi:PE X i ty)(d:PE X o td):PC X .In i o (zLX ty td):=by
 intro b s σ H Q I h
 refine zK (hi b s σ H _ I h) fun z f ⟨y,j,l,m,n⟩=>zK (d b f σ j _ l n) fun u B ⟨x,p,q,r,a,t,ex,g,v⟩=>?_
 subst ex
 obtain rfl:u=Value.ref a:=r
 exact zLS c q g m fun C w=>⟨.bl t.isSome,p,w,rfl,v⟩
theorem zDW (c:X.A.units+1<cLine)(hi:PE X i ty)(d:PE X o td):PC X .NotIn i o (zLY ty td):=by
 intro b s σ H Q I h
 refine zK (hi b s σ H _ I h) fun z f ⟨y,j,l,m,n⟩=>zK (d b f σ j _ l n) fun u B ⟨x,p,q,r,a,t,ex,g,v⟩=>?_
 subst ex
 obtain rfl:u=Value.ref a:=r
 exact zLT c q g m fun C w=>⟨.bl (!t.isSome),p,w,rfl,v⟩
theorem zBO (c:X.A.units+1<cLine)(d:PE X o td)(hi:PE X i ty)(f:PE X value tv)(j:swapsWith value (some (.Subscript o i pos')) pos.line X.env=pure false) :
  PS X (.Assign [.Subscript o i pos'] value pos) (zBv td ty tv):=by
 intro b s σ H D I h
 refine wpAny_Assign_Subscript (zK (f b s σ H _ I h) fun r l ⟨v,m,n,p,q⟩=>zK (d b l σ m _ n q) fun u t ⟨x,w,z,B,C⟩=>zK (hi b t σ w _ z C) fun M N ⟨y,O,E,F,a,G,ex,g,J⟩=>?_) j
 subst ex
 obtain rfl:u=Value.ref a:=B
 exact zLU c E g F p fun P L=>⟨σ,G,L,J⟩
end
theorem zLa {P:aP}{w:bc}{H:Hp}(h:bK)(a:sysModules<h.objs.size):yZ P w H (h.push {cls:=.type "dict",data:=.dict #[]}) h.objs.size (.dK []) :=
 ⟨bX _,beq_eq_false_iff_ne.mpr (d9 (bH a)),[],.nil,sM h⟩
def zLb:TE:=fun _ H Q=>∀p,H p=none->Q (.ref p) (upd H p (.dK []))
section
variable{X:Cx}{pos:Pos}
theorem kU:PE X (.Dict [] [] pos) zLb:=fun b s σ H Q I h=>
 wpAny_Dict_empty ⟨.ref s.heap.objs.size,_,I.laid (a:=s.heap.objs.size) (o:=.dK []) (t':=s.toks) (fun _ _ q=>ag _ q) (aH _) (zLa s.heap I.big),rfl,h _ (I.hok.fresh (aH _))⟩
end
structure M2 (X:Cx) (o:cb) (m:Str) (apos:Pos) (e f:cb) (cpos:Pos):Prop where
 base:attributeBase o m X.env (eval o X.env)=eval o X.env
 few:((backTo cpos (starEach [e,f] X.env)).all (fun x=>!x.1)&& (backToKw cpos (keywordEach [] X.env)).all (fun x=>x.1.isSome)
  &&decide (([e,f]:List cb).length+([]:List oW).length+(if([]:List oW).isEmpty then 0 else 1)<30))=true
 line:(apos.endLine==cpos.line)=true
 trees:backTo cpos (starEach [e,f] X.env)=[(false,eval e X.env),(false,eval f X.env)]
def IsD (H:Hp)(a:ai):Prop:=(∃kvs,Rd H a (.dK kvs))\/∃kvs,Rd H a (.dT kvs)
theorem zGa {X:Cx}{f:List (ai×Obj)}{σ:St}{H:Hp}{s:au}{a:ai}(I:Inv X f σ H s)(d:IsD H a) :
  s.TypeIs (.ref a) "dict"/\ (∀b,Value.ref a=.ref b->∃c,s.heap.get? b=some c/\c.dict=none)/\(a==sysModules)=false:=by
 rcases d with⟨kvs,e⟩|⟨kvs,e⟩
 ·obtain⟨_,hd,vs,_,dd⟩:=jS I.hok e
  refine⟨dd.typeIs,fun b q=>?_,hd⟩
  cases q
  obtain⟨c,_,_,g,h,_⟩:=dd
  exact⟨c,g,h.2.1⟩
 ·obtain⟨_,hd,xs,_,dd⟩:=zAF I.hok e
  refine⟨dd.typeIs,fun b q=>?_,hd⟩
  cases q
  obtain⟨c,_,_,g,h,_⟩:=dd
  exact⟨c,g,h.2.1⟩
section
variable{X:Cx}{pins:List (ai×Obj)}{σ:St}{H:Hp}{s:au}{a:ai}{y d:V}{u r:ah}{o:Option V}{A:bU}{E:ah->au->Prop}
theorem zLc {Q:ah->au->Prop}(m:A.units+1<cLine)(I:Inv X pins σ H s)(g:vR H a y o)(f:zW y u)(i:zW d r)(h:∀j s',Inv X pins σ H s'->zW (o.getD d) j->Q j s') :
  wpAny (model X.prog X.w) A (call (.builtin "dict.get") [.ref a,u,r]) Q E s:=by
 rcases g with⟨kvs,k,e,c,l⟩|⟨kvs,k,b,e,c,n,l⟩
 ·subst c
  obtain⟨z,hd,vs,rel,dd⟩:=jS I.hok e
  refine lT iN dd.typeIs lU (lB _ _ _) (meets_dict_get_default (qL X.prog X.w) a (zAj f) hd r) ⟨_,dd.mapOf,h _ _ (I.tok _) ?_⟩
  rw[l]
  exact(rel.val k).getD i
 ·subst c
  cases(show u=Value.ref b from f)
  obtain⟨z,hd,xs,rel,dd⟩:=zAF I.hok e
  refine lT iN dd.typeIs lU (lB _ _ _) (meetsH_dict_get_default (tupleKind (gH X.prog X.w)) a b hd r) ⟨fz m,k,xs,zAk I.hok n,dd,h _ _ (I.tok _) ?_⟩
  rw[l]
  exact(rel.val k).getD i
end
def zBw (td ty tx:TE):TE:=fun σ H Q=>td σ H fun x H1=>∃a,x=.ref a/\IsD H1 a/\ty σ H1 fun y H2=>tx σ H2 fun z H3=>∃o,vR H3 a y o/\Q (o.getD z) H3
section
variable{X:Cx}{o e f:cb}{apos cpos:Pos}{td ty tx:TE}
theorem gO (j:X.A.units+1<cLine)(l:PE X o td)(n:PE X e ty)(p:PE X f tx)(m:M2 X o "get" apos e f cpos):PE X (.Call (.Attribute o "get" apos) [e,f] [] cpos) (zBw td ty tx):=by
 intro b s σ H Q I h
 refine wpAny_Call_method m.base m.few m.line ir iN PySem.F.type_dict_get (zK (l b s σ H _ I h) fun u q ⟨x,r,i,t,a,ex,d,v⟩=>?_)
 subst ex
 obtain rfl:u=Value.ref a:=t
 obtain⟨w,B,_⟩:=zGa i d
 refine⟨w,B,?_⟩
 rw[m.trees]
 refine iC rfl (iX (jx (zK (n b q σ r _ i v) fun R C ⟨y,D,E,G,J⟩=>
  jx (zK (p b C σ D _ E J) fun T U ⟨z,L,M,N,W,g,O⟩=>nL ?_))))
 exact zLc j M g G N fun Y Z P c=>⟨_,L,P,c,O⟩
end
end L2
namespace Att
open PySem PySem.W PySem.Calls PyProof.Rows
theorem zLd {P:oZ}{h:bK}:∀(ns:List Int) (vs:List ah),WellAll P h vs (ns.map WData.int)->fN vs ns:=by
 intro ns
 induction ns with
 |nil=>
  intro vs w
  rw[lR]at w
  cases w
  exact .nil
 |cons n ns ih=>
  intro vs w
  rw[ba]at w
  cases w with
  |cons a b=>
   cases a
   exact .cons _ _ (ih _ b)
theorem zLe {l:OpenLaw}{n:Nat}(p:l.most=some n){P:oZ}{h:bK}{args:List WData}{b:List ah}
  (c:l.row.toRowW.claim.pre args=true) (j:WellAll P h b args) :
  ∃a vs ns,b=[Value.ref a]/\args=[WData.list (ns.map WData.int)]/\h.get? a=some {cls:=.type "list",data:=.seq vs.toArray}/\fN vs ns/\ns.length<=n:=by
 have m:WShape.hasAll [] args [.list .int]=true:=(pre_splitW c).1
 have o:l.pre.holds [] {args:=args}=true:=(pre_splitW c).2
 obtain⟨d,r,rfl,s,t⟩:=hasAllW_cons m
 obtain rfl:=hasAllW_nil t
 obtain⟨xs,rfl,u⟩:=hasW_list s
 obtain⟨ns,rfl⟩:=items_int u
 have e:ns.length<=n:=by
  unfold OpenLaw.pre at o
  have g:(WTm.not (.lt (.lit (.int (n:Int))) (.len (.arg 0)))).holds [] {args:=[.list (ns.map .int)]}=true:=by
   have g:=(holds_andW o).1
   rw[p]at g
   exact g
  have i:=condW_of g (w_not (w_lt w_lit (w_len_list (w_arg rfl))))
  rw[af]at i
  refine Nat.le_of_not_lt fun q=>?_
  have v:(n:Int)<((ns.length:Nat):Int):=by omega
  first
   |(rw[decide_eq_true v]at i;exact absurd i (by decide))
   |(simp at i;omega)
 cases j with
 |cons w x=>
  cases x
  cases w with
  |list y f=>exact⟨_,_,ns,rfl,rfl,y,zLd ns _ f,e⟩
theorem zLf (l:OpenLaw)(args:List WData):l.row.toRowW.claim.post args (.bool true) args=true :=
 postW_of (r:=l.row.toRowW) (X:=(true==true))
  (show sj [] (.bool true) .bool=true by first|rfl|decide|simp[sj,WShape.arms,WShape.armsAll])
  (show(WTm.eq .res (.lit (.bool true))).value [] {args:=args,res:=some (.bool true),after:=args}=some (.bool (true==true))from w_eq_bool (w_res rfl) w_lit) rfl
theorem attach_call {l:OpenLaw}{n:Nat}{q:aP}{loose:List Str}{XP:(Str->Option ah)->bK->Prop}{YP:bc->bK->Prop}{d:DefRec}
  (A:l.most=some n) (p:d.params.defaults=[])
  (call:∀(w:bc) (s₀ b:au) (mg s:Str->Option ah) (g:ai) (o:Obj) (pm m c:ah) (a:ai) (vs:List ah) (ns:List Int),
   Ground q loose [] XP w s₀ mg s b.heap->YP w b.heap->
   b.heap.get? g=some o->o.data=.func (docDef d.name d.params d.body d.scope pm m c)->b.heap.CodeRec m d.name->mg d.name=some (.ref g)->
   b.heap.get? a=some {cls:=.type "list",data:=.seq vs.toArray}->fN vs ns->ns.length<=n->b.gens=#[]->
   codeAny (model l.prog w) callerA (.call (.ref g) ⟨[.ref a],[]⟩) (fun r s'=>r=.ok (.ret (.bool true))/\OldK b.heap s'.heap/\s'.os=b.os/\jk s'.gens) b) :
  WalkO q loose XP YP l.row.toRowW d [] (fun f vs=>ph f vs):=by
 intro w s₀ b mg s G Y g o pm m c B kV C hd t x u D args y as h z E v F
 obtain rfl:B=.none:=Dflts.none x p
 obtain rfl:kV=.none:=Dflts.noKw x
 obtain⟨a,vs,ns,rfl,rfl,i,e,j⟩:=zLe A h v
 refine enter_call (iy (call w s₀ b mg s g o pm m c a vs ns G Y C (fd_plain hd) t u i e j D) fun r s' H=>?_)
 obtain⟨rfl,I,J,L⟩:=H
 exact⟨.inl ⟨.bool true,.bool true,[],rfl,fun _=>rfl,.bool true,zLf l _,fun _=>⟨List.Pairwise.nil,fun _ M=>(nomatch M)⟩⟩,I,J,L⟩
end Att
namespace L2
open PySem PySem.Spec PyProof.Rows
theorem zGb:∀{vs:List ah}{ns:List Int},fN vs ns->zS (ns.map V.int) vs
 |_,_,.nil=>.nil
 |_,_,.cons n t h=>.cons ⟨t,rfl⟩ (zGb h)
def zDX (H:Hp):Prop:=∀b,H b=none\/∃o xs,H b=some (.frz o (.lst xs))
theorem zLg {P:aP}{w:bc}{K:ae}{mg D:Str->Option ah}{CX:uP}{k:Nat}{E a:ai}{fd:aO}{x:Str}{sp:Sp}{c:au}{vs:List ah}{ns:List Int}
  (O:K.In c.heap) (j:c.heap.Ns mainGlobals mg) (f:c.heap.Ns builtinsNs D) (G:∀x:Str,x≠"__name__"->D x=bootBuiltins x) (l:c.heap.NoLimit) (W:c.gens=#[])
  (C:c.heap.get? a=some {cls:=.type "list",data:=.seq vs.toArray}) (hi:fN vs ns) (hl:ns.length<=sizeLine) (X:Room k callerA)
  (F:∀base:bK,K.In base->base.Ns mainGlobals mg->FnOk P w K mg base CX k E fd [x] sp) (i:∀(s:au) (u:ah),mR s fd ⟨[u],[]⟩ [(x,u)])
  (I:∀H:Hp,zDX H->z9 K H a (ns.map V.int)->sp [.ref a] H (fun v _=>v=.bl true) fun _ _ _=>False)
  (J:∀H e s',CX [] H c (fun _ _ _=>False) e s'->False) :
  codeAny (model P w) callerA (.call (.ref E) ⟨[.ref a],[]⟩) (fun r s'=>r=.ok (.ret (.bool true))/\OldK c.heap s'.heap/\s'.os=c.os/\jk s'.gens) c:=by
 have Q:=zGb hi
 have p:=hi.length
 have core:∀H:Hp,zDX H->z9 K H a (ns.map V.int)->yB P w H c.heap->(∀b,H b≠none->b=a)->(H a≠none->K.lookup a=none)->
   codeAny (model P w) callerA (.call (.ref E) ⟨[.ref a],[]⟩) (fun r s'=>r=.ok (.ret (.bool true))/\OldK c.heap s'.heap/\s'.os=c.os/\jk s'.gens) c:=by
  intro H R Y hok T Z
  have base_of:∀{b:ai} {o:Obj},c.heap.get? b=some o->H b=none->(kL c.heap H).get? b=some o:=fun e n=>zKI e n
  have L:∀{b:ai} {o:Obj} {t:Array DictEntry} {ep:Nat},c.heap.get? b=some o->o.data=.dict t ep->H b=none:=fun{b o t ep} e d=>by
   cases q:H b with
   |none=>rfl
   |some u=>
    have M:b=a:=T b (by rw[q];simp)
    subst M
    rw[C]at e;cases e
    have d':Data.seq vs.toArray _=Data.dict t ep:=d
    cases d'
  have g:∀{b:ai} {m:Str->Option ah},c.heap.Ns b m->(kL c.heap H).Ns b m:=fun{b m} ⟨o,t,ep,e,d,r⟩=>⟨o,t,ep,base_of e (L e d),d,r⟩
  have y:K.In (kL c.heap H):=fun b o e=>base_of (O b o e) (by
   cases q:H b with
   |none=>rfl
   |some u=>
    have M:b=a:=T b (by rw[q];simp)
    subst M
    rw[Z (by rw[q];simp)]at e;cases e)
  have hM:Mod K mg (kL c.heap H):=⟨y,g j,⟨D,g f,G⟩,let⟨mc,h1,h2⟩:=l;⟨mc,g h1,h2⟩⟩
  have e0:Env0 P w K mg (kL c.heap H) callerA [] c H:=⟨rfl,hM,fun b o e=>zKJ e,dh (zKH _ _),trivial,fun b f=>absurd (show b∈([]:List ai)from f) (by simp),hok,.of_eq W⟩
  refine iy ((F _ y (g j)).run callerA [] c H ⟨[.ref a],[]⟩ [.ref a] [.ref a] _ _ X e0 (i c (.ref a)) (.cons rfl .nil) (I H R Y)) fun r s' h=>?_
  cases r with
  |error e=>exact(J H e s' h).elim
  |ok fl=>
   cases fl with
   |next=>exact dE h
   |brk=>exact dE h
   |cont=>exact dE h
   |ret u=>
    obtain⟨v,H',os,bare,un,A,r',q⟩:=h
    have q':v=.bl true:=q
    subst q'
    obtain rfl:u=Value.bool true:=r'
    refine⟨rfl,OldK.of_keep fun b o e=>?_,os,bare⟩
    cases q:H b with
    |none=>exact un.keep b o e q (by intro z;exact absurd (show b∈([]:List ai)from z) (by simp)) (by simp)
    |some u=>
     rcases R b with z|⟨ob,xs,z⟩
     ·rw[q]at z;cases z
     ·have z2:=un.frzs b ob _ z
      obtain⟨U,_⟩:=hok b _ z
      obtain⟨e2,_⟩:=A b _ z2
      rw[e]at U;cases U
      exact e2
 cases N:K.lookup a with
 |some o=>
  have e:=O a o N
  rw[C]at e
  cases e
  refine core (fun _=>none) (fun _=>.inl rfl) (.inr ⟨_,vs.toArray,_,N,rfl,rfl,rfl,by rw[aY,p];exact hl,by simpa using Q⟩) (fun b u z=>by have B:(none:Option HO)=some u:=z;cases B) (fun b z=>absurd rfl z) fun z=>absurd rfl z
 |none=>
  refine core (fun b=>if b=a then some (.frz {cls:=.type "list",data:=.seq vs.toArray} (.lst (ns.map V.int)))else none) (fun b=>?_) (.inl (.inr ⟨{cls:=.type "list",data:=.seq vs.toArray},if_pos rfl⟩)) (fun b u z=>?_) (fun b z=>?_) fun _=>N
  ·by_cases f:b=a
   ·exact .inr ⟨_,_,if_pos f⟩
   ·exact .inl (if_neg f)
  ·by_cases f:b=a
   ·have B:=(if_pos f).symm.trans z
    cases B
    subst f
    exact⟨C,by rw[af];exact hl,vs,_,Q,C⟩
   ·have B:=(if_neg f).symm.trans z
    cases B
  ·by_cases f:b=a
   ·exact f
   ·exact absurd (if_neg f) z
theorem zLh {l:l9}{n k:Nat}{q:aP}{loose:List Str}{XP:(Str->Option ah)->bK->Prop}{YP:bc->bK->Prop}{d:DefRec}{K:oZ->ae}{CX:bc->uP}{sp:bc->Sp}{x:Str}
  (B:l.most=some n) (p:n<=sizeLine) (r:d.params.defaults=[]) (C:Room k callerA)
  (D:∀(w:bc) (h:bK),YP w h->(K w.params).In h)
  (F:∀(w:bc) (mg:Str->Option ah) (m:ai) (h:bK),(K w.params).In h->h.Ns mainGlobals mg->mg d.name=some (.ref m)->
   ∃fd:aO,(∀(s:au) (u:ah),mR s fd ⟨[u],[]⟩ [(x,u)])/\
    ∀base:bK,(K w.params).In base->base.Ns mainGlobals mg->FnOk l.prog w (K w.params) mg base (CX w) k m fd [x] (sp w))
  (t:∀(w:bc) (H:Hp) (a:ai) (ns:List Int),ns.length<=n->zDX H->z9 (K w.params) H a (ns.map V.int)->sp w [.ref a] H (fun v _=>v=.bl true) fun _ _ _=>False)
  (y:∀(w:bc) (H:Hp) (s:au) (e:ah) (s':au),CX w [] H s (fun _ _ _=>False) e s'->False) :
  qj q loose XP YP l.row.toRowW d [] (fun f vs=>ph f vs):=by
 refine Att.attach_call B r fun w s₀ E mg Q m o pm R I a vs ns G Y U hd J z j i c L=>?_
 have A:=D w _ Y
 obtain⟨fd,M,N⟩:=F w mg m _ A G.T.g z
 exact zLg A G.T.g G.T.b G.T.builtins G.T.nolimit L j i (b8 c p) C N M (fun H O P=>t w H a ns c O P) fun H e s'=>y w H E e s'
abbrev zU:uP:=fun _ _ _ _ _ _=>False
abbrev E0:XK:=fun _ _ _=>False
theorem zGc {X:Cx}:gM zU X E0:=fun _ _ _ _ _ _ _ h=>h.elim
structure Fun (K:ae) (x qual:Str) (st:cJ) (f:ai) (fd:aO):Prop where
 ex:∃(oc:ah) (od:Option ai) (kV doc pm:ah) (an:Option ai) (cdv ct:ah) (osl:Array (Option ah)),
  fd=dN x qual (defArgs st) (defBody st) (defScope st) .none kV doc pm an cdv ct/\K.lookup f=some ⟨oc,od,.func fd,osl⟩/\fT K cdv qual=true
 kp:dB K (.ref f)=true
section
variable{P:aP}{w:bc}{K:ae}{mg:Str->Option ah}{base:bK}
theorem Fun.ok {x a:Str}{st:cJ}{f:ai}{fd:aO}{N d:List Str}{k:Nat}{sp:Sp}(F:Fun K x a st f fd)(S:FnScope N d (defScope st))(len:∀vs H Q E,sp vs H Q E->vs.length=d.length)
  (c:∀(b:ah) (A:bU) (outer:List Env) (s:au) (H:Hp) (vs:List V) (Q:VK) (E:XK),Room k (A.deeper (envOfC a (defScope st) s.heap.objs.size f b))->sp vs H Q E->
   ∃t,uF (jZ zU P w K mg base N a (defScope st) f b A outer s H E).nox (defBody st) t/\t {nx:=fun _ H'=>Q .non H',rt:=Q} (start N vs) H):FnOk P w K mg base zU (k+1) f fd d sp:=by
 obtain⟨n,od,kV,i,pm,o,b,ct,j,rfl,l,e⟩:=F.ex
 refine zGH l e S len fun A outer s H vs Q E m g=>?_
 obtain⟨t,h,q⟩:=c b A outer s H vs Q E m g
 exact⟨t,h.nox,q⟩
theorem Fun.binds {x a:Str}{st:cJ}{f:ai}{fd:aO}{d:List Str}(F:Fun K x a st f fd)
  (h:∀(kV b pm:ah) (e:Option ai) (c ct:ah) (us:List ah),us.length=d.length->bindArgs (dN x a (defArgs st) (defBody st) (defScope st) .none kV b pm e c ct) ⟨us,[]⟩=pure (d.zip us)):qV K fd d []:=by
 obtain⟨j,od,kV,b,pm,e,c,ct,g,rfl,l,i⟩:=F.ex
 exact .all (h kV b pm e c ct)
theorem zDY {x a:Str}{st:cJ}{f:ai}{h:ah}{od g:Option ai}{e:Array (Option ah)}{kV d pm b ct:ah}(l:K.lookup f=some ⟨h,od,.func (dN x a (defArgs st) (defBody st) (defScope st) .none kV d pm g b ct),e⟩)
  (c:fT K b a=true) (k:dB K (.ref f)=true):Fun K x a st f (dN x a (defArgs st) (defBody st) (defScope st) .none kV d pm g b ct):=⟨⟨h,od,kV,d,pm,g,b,ct,e,rfl,l,c⟩,k⟩
end
theorem jT {A:bU}{k:Nat}(a:Room k A):A.units+1<cLine:=ny (Nat.add_le_add_left (by decide:1<=64) _) a.units
section
variable{X:Cx}
theorem pv (i:Nat){x:Str}{pos:Pos}(b:X.N[i]?=some x:=by rfl)(c:Vis X.env.scope x:=by first|exact Or.inl rfl|exact Or.inr (Or.inl rfl)|exact Or.inr (Or.inr rfl))(hd:(x==("__debug__" : Str))=false:=by decide)
  (a:(x==("__classdict__" : Str))=false:=by decide):PE X (.Name x pos) (v8 i):=zKN b c hd a
end
theorem yI {A B:Prop}(h:B):if false=true then A else B:=by
 rw[if_neg aI]
 exact h
theorem yL {A B:Prop}(h:A):if true=true then A else B:=by
 rw[if_pos rfl]
 exact h
theorem qW {c A B:Prop} [Decidable c] (a:c)(h:B):if(!decide c)=true then A else B:=by
 rw[decide_eq_true a]
 exact yI h
def zA (H H':Hp):Prop:=∀b o,H b=some o->H' b=some o
theorem zA.refl (H:Hp):zA H H:=fun _ _ h=>h
theorem zA.trans {H d e:Hp}(a:zA H d)(b:zA d e):zA H e:=fun c o h=>b c o (a c o h)
theorem zA.free {H H':Hp}(e:zA H H'){l:ai}(h:H' l=Option.none):H l=Option.none:=by
 cases q:H l with
 |none=>rfl
 |some o=>
  rw[e l o q]at h
  cases h
theorem zA.seq {K:ae}{H H':Hp}{a:ai}{xs:List V}(e:zA H H')(h:z9 K H a xs):z9 K H' a xs:=by
 rcases h with(h|⟨o,h⟩)|h
 ·exact .inl (.inl (e _ _ h))
 ·exact .inl (.inr ⟨o,e _ _ h⟩)
 ·exact .inr h
end L2
end
section
namespace L2
open PySem
section
variable{env:Env}
theorem zDZ:∀(l:List (Str×iz)) (d:List (Str×ai)),(∀x∈l,x.2=.free->∃c,env.cells.lookup x.1=some c)->(∀x c,d.lookup x=some c->env.cells.lookup x=some c)->
  ∃cl,(forIn l d (fun x r=>if(x.2==NameKind.free)=true then do let a<-cellOf env x.1;pure (ForInStep.yield ((x.1,a)::r))else pure (ForInStep.yield r)):Sem (List (Str×ai)))=pure cl/\
   (∀x c,cl.lookup x=some c->env.cells.lookup x=some c)/\∀x,((x,NameKind.free)∈l\/∃c,d.lookup x=some c)->∃c,cl.lookup x=some c
 | [],d,_,i=>⟨d,rfl,i,fun x h=>h.elim (fun z=>by cases z) id⟩
 |(n,k)::l,d,h,i=>by
  have hl:∀x∈l,x.2=.free->∃c,env.cells.lookup x.1=some c:=fun x b=>h x (aG _ b)
  rw[ie]
  by_cases j:k=.free
  ·subst j
   obtain⟨c,q⟩:=h (n,.free) (ar ..) rfl
   obtain⟨cl,e,m,o⟩:=zDZ l ((n,c)::d) hl fun x p z=>by
    by_cases b:x=n
    ·subst b
     rw[iO]at z
     cases z;exact q
    ·have f:(x==n)=false:=by simpa using b
     rw[bT,f]at z
     exact i x p z
   refine⟨cl,?_,m,fun x b=>o x ?_⟩
   ·have s:cellOf env n=pure c:=by unfold cellOf;rw[q]
    simp only[beq_self_eq_true,if_true,s,pure_bind]
    exact e
   ·rcases b with b|⟨p,b⟩
    ·rcases aQ.mp b with b|b
     ·have:x=n:=(eM b).1
      subst this
      exact .inr ⟨c,iO⟩
     ·exact .inl b
    ·by_cases g:x=n
     ·subst g;exact .inr ⟨c,iO⟩
     ·have f:(x==n)=false:=by simpa using g
      exact .inr ⟨p,by rw[bT,f];exact b⟩
  ·obtain⟨cl,e,m,o⟩:=zDZ l d hl i
   have t:(k==NameKind.free)=false:=by simpa using j
   refine⟨cl,?_,m,fun x b=>o x ?_⟩
   ·simp only[t,fA,if_false,pure_bind]
    exact e
   ·rcases b with b|b
    ·rcases aQ.mp b with b|b
     ·exact absurd (eM b).2.symm j
     ·exact .inl b
    ·exact .inr b
theorem zDa {scope:dS}(h:∀x∈scope.names,x.2=.free->∃c,env.cells.lookup x.1=some c) :
  ∃cl,closureFor scope env=pure cl/\(∀x c,cl.lookup x=some c->env.cells.lookup x=some c)/\∀x,(x,NameKind.free)∈scope.names->∃c,cl.lookup x=some c:=by
 obtain⟨cl,e,a,b⟩:=zDZ scope.names [] h (fun x c z=>by simp at z)
 refine⟨cl,?_,a,fun x d=>b x (.inl d)⟩
 unfold closureFor
 dsimp only
 refine Eq.trans (congrArg (· >>=pure) ?_) (Eq.trans (congrArg (· >>=pure) e) (by simp))
 rfl
end
section
variable{prog:aP}{w:bc}{A:bU}{R:Result->au->Prop}{s:au}
theorem zDb {a target iter:cb}{b:List cb}{scope:dS}{pos:Pos}{it d:ah}{env:Env}(J:Nat->au->Prop)
  (e:∀n s,J n s->wpAny (model prog w) A (pyNext it) (fun r g=>match r with
   |none=>R (.ok .next) g
   |some v=>wpAny (model prog w) A (letOwnedTupleGo target it v) (fun _ j=>wpAny (model prog w) A (assign target env v) (fun _ l=>
     wpAny (model prog w) A (forIn b true fun c r=>if r=true then do let ok<-isTrue c env (eval c env);pure (ForInStep.yield ok)else pure (ForInStep.yield r)) (fun ok i=>
      if ok=true then wpAny (model prog w) A (eval a env) (fun x o=>wpAny (model prog w) A (call (.builtin "list.append") [d,x]) (fun _ p=>∃m,m<n/\J m p) (fun _ _=>False) o) (fun _ _=>False) i
      else∃m,m<n/\J m i) (fun _ _=>False) l) (fun _ _=>False) j) (fun _ _=>False) g) (fun _ _=>False) s)
  (n:Nat) (h:J n s):codeAny (model prog w) A (.compLoop (.ListComp a [⟨target,iter,b,0⟩] scope pos) 0 it d env) R s:=by
 refine codeAny_loop rfl J (fun n s z=>?_) n h
 show wpAny _ A ((compTurn (.ListComp a [⟨target,iter,b,0⟩] scope pos) 0 it d env).onRaise (fun x=>noteFrame x env>>=fun _=>theTreesLotGoes x)) _ _ s
 refine wpAny_noted ?_
 have no:∀{α:Type} {t:Sem α} {Q:α->au->Prop} {E:ah->au->Prop} {s:au},wpAny (model prog w) A t Q (fun _ _=>False) s->wpAny (model prog w) A t Q E s:=fun h=>cf h (fun _ _ q=>q) fun _ _ f=>f.elim
 rw[compTurn_list]
 refine ao (m5 (ao (no (cf (e n s z) (fun r g u=>?_) fun _ _ f=>f))))
 cases r with
 |none=>exact bf u
 |some v=>
  refine ao (no (cf u (fun _ j B=>?_) fun _ _ f=>f))
  refine ao (no (cf B (fun _ l C=>?_) fun _ _ f=>f))
  refine ao (no (cf C (fun ok i y=>?_) fun _ _ f=>f))
  cases ok with
  |false=>exact bf ⟨rfl,y⟩
  |true=>
   refine ao (ao (no (cf y (fun x o D=>?_) fun _ _ f=>f)))
   exact ao (no (cf D (fun _ p F=>bf (bf ⟨rfl,F⟩)) fun _ _ f=>f))
end
end L2
end
section
namespace L2
open PySem PySem.Spec PyProof.Rows
theorem yB.track {P:aP}{w:bc}{H:Hp}{h:bK}{a:ai}{o:HO}(x:yB P w H h)(d:H a=none)(new:yZ P w (upd H a o) h a o):yB P w (upd H a o) h:=fun b u e=>by
 by_cases f:b=a
 ·subst f;rw[zD]at e;cases e;exact new
 ·rw[zN f]at e
  refine(x b u e).stay (fun c v _ q=>q) (fun c q=>?_) fun c xs q=>?_
  ·rw[zN (vJ q d)];exact q
  ·rw[zN (vJ q d)];exact q
theorem yB.but {P:aP}{w:bc}{H:Hp}{h h':bK}{C:ai}(x:yB P w H h)(a:H C=none)(k:∀b u,b≠C->h.get? b=some u->h'.get? b=some u):yB P w H h':=fun b u e=>by
 refine(x b u e).stay (fun c v d q=>k c v ?_ q) (fun _ q=>q) fun _ _ q=>q
 rintro rfl
 rcases d with z|z
 ·rw[z,e]at a;cases a
 ·rw[z]at a;cases a
theorem zDc {env:Env}:∀{names:List (Str×iz)}{x:Str},names.lookup x=some .free->
  (names.map fun(n,k)=>if(k==NameKind.free&&env.scope.kind== .function&&env.kindOf n==some .cell)then(n,NameKind.cell)else(n,k)).lookup x=some .cell\/
  (names.map fun(n,k)=>if(k==NameKind.free&&env.scope.kind== .function&&env.kindOf n==some .cell)then(n,NameKind.cell)else(n,k)).lookup x=some .free
 | [],_,h=>by simp at h
 |(n,k)::r,x,h=>by
  rw[ba]
  cases a:x==n with
  |true=>
   rw[bT,a]at h
   cases h
   dsimp only
   split
   ·left;rw[bT,a]
   ·right;rw[bT,a]
  |false=>
   rw[bT,a]at h
   have ih:=zDc (env:=env) h
   dsimp only
   split
   ·rw[bT,a];exact ih
   ·rw[bT,a];exact ih
theorem zDd {env:Env}:∀{names:List (Str×iz)}{x:Str}{a:iz},(a=.cell\/a=.free)->
  (names.map fun(n,k)=>if(k==NameKind.free&&env.scope.kind== .function&&env.kindOf n==some .cell)then(n,NameKind.cell)else(n,k)).lookup x=some a->∃k,(x,k)∈names/\(k=.cell\/k=.free)
 | [],_,_,_,h=>by simp at h
 |(n,k)::r,x,a,c,h=>by
  rw[ba]at h
  cases b:x==n with
  |true=>
   have e:x=n:=by simpa using b
   subst e
   dsimp only at h
   split at h
   ·rename_i d
    have:k=.free:=by
     rw[bz,bz]at d
     simpa using d.1.1
    exact⟨k,ar ..,.inr this⟩
   ·rw[bT,b]at h
    cases h
    exact⟨k,ar ..,c⟩
  |false=>
   have h':(r.map fun(n,k)=>if(k==NameKind.free&&env.scope.kind== .function&&env.kindOf n==some .cell)then(n,NameKind.cell)else(n,k)).lookup x=some a:=by
    dsimp only at h
    split at h
    ·rw[bT,b]at h;exact h
    ·rw[bT,b]at h;exact h
   obtain⟨k0,f,g⟩:=zDd (env:=env) c h'
   exact⟨k0,aG _ f,g⟩
def vM (X:Cx)(N:List Str)(scope:dS)(cl:List (Str×ai))(C:ai)(s:au)(H:Hp)(ex:List ai):Cx where
 prog:=X.prog
 w:=X.w
 K:=X.K
 mg:=X.mg
 base:=X.base
 A:=X.A
 N:=N
 s₀:=s
 H₀:=H
 env:=compEnvC scope cl C X.env
 outer:=X.stack
 stack:=X.stack
 ex:=ex
 fn:=fun _=>false
 calm:=X.calm
 pn:=[]
 xe:=fun _ _=>False
structure CompScope (sc:dS) (XN N:List Str) (scope:dS) (caps:List Nat):Prop where
 kind:scope.kind=.function
 nd:N.Nodup
 nocell:∀y∈scope.names,y.2≠.cell
 names:∀y∈scope.names,y.2=.local->scope.names.lookup y.1=some .local
 free:∀y∈scope.names,y.2=.free->sc.names.lookup y.1=some .cell\/sc.names.lookup y.1=some .free
 cap:∀(i:Nat),i<caps.length->∃x,N[i]?=some x/\XN[caps.getD i 0]?=some x/\scope.names.lookup x=some .free/\(sc.names.lookup x=some .cell\/sc.names.lookup x=some .free)
 len:caps.length<=N.length
def uM (caps:List Nat)(n:Nat)(σ:St):St:=caps.map (fun j=>(σ[j]?).join)++aU (n-caps.length) none
def PF (X:Cx)(ifs:List cb)(tc:TT):Prop :=
 ∀(pins:List (ai×Obj)) (s:au) (σ:St) (H:Hp) (Q:Bool->Hp->Prop),Inv X pins σ H s->tc σ H Q->
  wpAny (model X.prog X.w) X.A (forIn ifs true fun c r=>if r=true then do let ok<-isTrue c X.env (eval c X.env);pure (ForInStep.yield ok)else pure (ForInStep.yield r)) (TP X pins σ Q) X.xe s
def zAm:TT:=fun _ H Q=>Q true H
theorem vK {X:Cx}:PF X [] zAm:=fun a s σ H Q I h=>by
 rw[fW]
 exact bf ⟨H,I,h⟩
theorem kW {X:Cx}{c:cb}{b:TT}(d:PT X c b):PF X [c] b:=fun a s σ H Q I h=>by
 rw[ie]
 refine ao ?_
 rw[if_pos rfl]
 refine ao (zK (d a s σ H Q I h) fun ok e q=>bf ?_)
 show wpAny _ _ (forIn [] ok _) _ _ _
 rw[fW]
 exact bf q
def zBx (wi:TI)(g:TG)(tc:TT)(te:TE)(caps:List Nat)(n:Nat):TE:=fun σ H Q=>wi σ H fun J H1=>∃W:Nat->Nat->List V->St->Hp->Prop,(∃m,W 0 m [] (uM caps n σ) H1)/\∀i m acc σ' H',W i m acc σ' H'->
 (J.stop i H'/\∀D,H' D=none->Q (.ref D) (upd H' D (.lst acc)))\/
 (J.go i H'/\acc.length<sizeLine/\∀x H2,J.yld i H' x H2->g x σ' H2 fun σ2 H3=>tc σ2 H3 fun b H4=>if b=true then te σ2 H4 fun y H5=>∃m',m'<m/\W (i+1) m' (acc++[y]) σ2 H5 else∃m',m'<m/\W (i+1) m' acc σ2 H4)
section
variable{X:Cx}{pins:List (ai×Obj)}{σ:St}{H:Hp}{s:au}{N:List Str}{scope:dS}{cl:List (Str×ai)}{C:ai}{fp:List ai}{caps:List Nat}
theorem zGd (I:Inv X pins σ H s)(S:CompScope X.env.scope X.N N scope caps)(g:∀x c,cl.lookup x=some c->X.env.cells.lookup x=some c)(n:∀x,(x,NameKind.free)∈scope.names->∃c,cl.lookup x=some c)
  (l:s.heap.objs.size<=C) (h:∀b∈fp,u7 X pins H b) (i:∀b∈fp,b<s.heap.objs.size):(vM X N scope cl C s H fp).Ok where
 mod:=I.ok.mod
 kind:=S.kind
 glob:=I.ok.glob
 blt:=I.ok.blt
 above:=l
 inj:=fun x y c a b=>I.ok.inj x y c (g x c a) (g y c b)
 has:=fun x p=>by
  have j:∃f,(f=NameKind.cell\/f=.free)/\(relabel scope X.env).names.lookup x=some f:=by
   rcases p with z|z
   ·exact⟨_,.inl rfl,z⟩
   ·exact⟨_,.inr rfl,z⟩
  obtain⟨f,q,z⟩:=j
  obtain⟨k,m,e⟩:=zDd q z
  rcases e with e|e
  ·exact absurd e (S.nocell _ m)
  ·subst e;exact n x m
 cab:=fun x c z=>by cases z
 hd:=I.ok.hd
 frames:=I.ok.frames
 stk:=.inl rfl
 exf:=fun b d=>by
  obtain⟨_,_,_,_,r,_⟩:=h b d
  exact⟨bH (bw (i b d) l),fun x c e=>r x c (g x c e)⟩
 bs:=I.bs
 bsz:=b8 I.ok.bsz I.sz
 noex:=fun b o e d=>by
  obtain⟨_,_,_,t,_⟩:=h b d
  rcases t with z|z
  ·exact I.ok.noex b o e z
  ·exact absurd (bw (aM e) (b8 I.ok.bsz z)) (bO _)
 exfs:=fun b d z=>by
  obtain⟨_,f1,f2,_⟩:=h b d
  rcases aQ.mp (I.stkSub b z)with e|e
  ·exact f1 e
  ·exact f2 e
 funs:=I.stack
 frf:=I.stkFree
theorem zGe {j:bK}{D:ai}{od:Obj}{t:Nat}{m:Str->Option ah}(I:Inv X pins σ H s)(ok:(vM X N scope cl C s H fp).Ok)(S:CompScope X.env.scope X.N N scope caps)
  (g:∀x c,cl.lookup x=some c->X.env.cells.lookup x=some c) (n:∀x,(x,NameKind.free)∈scope.names->∃c,cl.lookup x=some c)
  (keep:∀b o,s.heap.get? b=some o->j.get? b=some o) (P:j.Ns C m) (Q:s.heap.objs.size<=C) (R:j.get? D=some od) (w:s.heap.objs.size<=D) (B:D≠C) (E:∀v,od.data≠.cell v) :
  Inv (vM X N scope cl C s H fp) [(D,od)] (uM caps N.length σ) H {s with heap:=j,toks:=t}:=by
 have a:∀x c,cl.lookup x=some c->∀v,s.heap.IsCell c v->j.IsCell c v:=fun x c e v ⟨o,F,hd⟩=>⟨o,keep c o F,hd⟩
 refine⟨ok,rfl,I.bare,Un.kept keep,⟨m,P,fun i x v T f e3=>?_⟩,fun x c e=>?_,I.hok.fresh Q,fun x c e=>I.freeC x c (g x c e),fun p U=>?_,I.hok.kept keep,?_⟩
 ·have hi:i<caps.length:=by
   by_cases hi:i<caps.length
   ·exact hi
   ·exfalso
    unfold uM at f
    rw[bD (by simpa using hi),dG]at f
    split at f<;>cases f
  obtain⟨y,W,Y,L,M⟩:=S.cap i hi
  have G:x=y:=by
   have A:N[i]?=some x:=T
   rw[W]at A;exact(aw A).symm
  subst G
  have Z:σ[caps.getD i 0]?=some (some v):=by
   unfold uM at f
   rw[bA (by simpa using hi),aF]at f
   have:caps[i]?=some (caps.getD i 0):=by rw[br];simp[hi]
   rw[this]at f
   have d:(σ[caps.getD i 0]?).join=some v:=by simpa using f
   cases q:σ[caps.getD i 0]? with
   |none=>rw[q]at d;cases d
   |some z=>rw[q]at d;have:z=some v:=d;rw[this]
  obtain⟨m',_,hl⟩:=I.loc
  obtain⟨u,r,l⟩:=hl _ x v Y Z (M.elim (fun z=>.inr (.inl z)) fun z=>.inr (.inr z))
  refine⟨u,r,?_⟩
  have nl:X.env.kindOf x≠some .local:=by
   rcases M with z|z
   ·show X.env.scope.names.lookup x≠_;rw[z];decide
   ·show X.env.scope.names.lookup x≠_;rw[z];decide
  rcases l with⟨k,_⟩|⟨_,c,hc,z⟩
  ·exact absurd k nl
  ·obtain⟨O,h⟩:=n x (ck L)
   have:c=O:=aw (hc.symm.trans (g x O h))
   subst this
   refine .inr ⟨?_,c,h,a x c h _ z⟩
   exact zDc (env:=X.env) L
 ·obtain⟨v,z⟩:=I.cell x c (g x c e)
  exact⟨v,a x c e v z⟩
 ·have:p=(D,od):=by
   have J:p∈[(D,od)]:=U
   simpa using J
  subst this
  refine⟨R,I.hok.fresh w,B,fun z=>?_,E⟩
  have z':D∈yW X.stack:=z
  obtain⟨_,o,F,_⟩:=I.stack.mem z'
  exact absurd (bw (aM F) w) (bO _)
 ·unfold uM
  show _=N.length
  rw[aq,af,eS]
  have:=S.len
  omega
end
section
variable{X:Cx}
theorem vG {tg iter elt:cb}{ifs:List cb}{scope:dS}{pos:Pos}{wi:TI}{g:TG}{tc:TT}{te:TE}{N:List Str}{caps:List Nat}(hc:X.calm=true)(S:CompScope X.env.scope X.N N scope caps)
  (hi:PI X tg iter wi) (hg:∀cl C s H ex,PG (vM X N scope cl C s H ex) tg g) (hf:∀cl C s H ex,PF (vM X N scope cl C s H ex) ifs tc) (he:∀cl C s H ex,PE (vM X N scope cl C s H ex) elt te)
  (hs:∀x,foldedSetIterable iter X.env x=pure x:=by intro _;rfl):PE X (.ListComp elt [⟨tg,iter,ifs,0⟩] scope pos) (zBx wi g tc te caps N.length):=by
 intro pins s σ H Q I h
 obtain⟨cl,hcl,hcl1,hcl2⟩:=zDa (env:=X.env) (scope:=scope) fun y hy e=>I.ok.has y.1 (S.free y hy e)
 rw[qk]
 refine gz (use:=none) rfl hs hcl S.kind S.names (zK (hi pins s σ H _ I h) fun v s1 h1=>zK h1 fun itv s2 h2=>?_)
 obtain⟨it,fp,tn,J,H2,e,I2,T,st2,f2,W,⟨m0,w0⟩,turn⟩:=h2
 subst e
 refine eX (mF S.nocell (by intro y hy;simp at hy) (fun h₁ hns hsb=>?_) S.kind)
 dsimp only at hns hsb⊢
 generalize hG:s2.heap.push {cls:=.type "list",dict:=none,data:=.seq ([]:List ah).toArray}=G at hns hsb⊢
 have hCs:G.objs.size=s2.heap.objs.size+1:=by rw[<-hG,dj]
 have hDC:s2.heap.objs.size≠G.objs.size:=by rw[hCs];exact bH (eO _)
 have old:∀b o,s2.heap.get? b=some o->h₁.get? b=some o:=fun b o e=>by
  have hb:=aM e
  refine hsb.extBut b o (by rw[hCs];exact bH (di hb)) (ag _ ?_)
  rw[<-hG]
  exact ag _ e
 have hD:h₁.get? s2.heap.objs.size=some {cls:=.type "list",dict:=none,data:=.seq ([]:List ah).toArray}:=by
  refine hsb.extBut _ _ hDC (ag _ ?_)
  rw[<-hG]
  exact aZ _ rfl
 have hfo:∀b∈fp,b<s2.heap.objs.size:=fun b hb=>let⟨o,e,_⟩:=T.obj 0 _ st2 b hb;aM e
 have hCle:s2.heap.objs.size<=G.objs.size:=by omega
 have ok:=zGd (C:=G.objs.size) I2 S hcl1 hcl2 hCle f2 hfo
 have I0:Inv (vM X N scope cl G.objs.size s2 H2 fp) [(s2.heap.objs.size,{cls:=.type "list",dict:=none,data:=.seq ([]:List ah).toArray})] (uM caps N.length σ) H2 {s2 with heap:=h₁,toks:=s2.toks+([]:List (Str×ah)).length} :=
  zGe I2 ok S hcl1 hcl2 old hns hCle hD (aH _) hDC (fun v z=>by cases z)
 have st1:tn 0 h₁:=T.keep 0 _ _ st2 fun b _ o e=>old b o e
 generalize hX:vM X N scope cl G.objs.size s2 H2 fp=X' at I0
 generalize hDa:s2.heap.objs.size=D at I0 hD hDC
 have loop:codeAny (model X.prog X.w) X.A (.compLoop (.ListComp elt [⟨tg,iter,ifs,0⟩] scope pos) 0 (.ref it) (.ref D) (compEnvC scope cl G.objs.size X.env)) (compPost (model X.prog X.w) X.A X.xe none (EP X pins σ Q) (.ref D) G.objs.size)
   {s2 with heap:=h₁,toks:=s2.toks+([]:List (Str×ah)).length}:=by
  subst hX
  refine zDb (J:=fun n s'=>∃i σ' H' acc its e,Inv (vM X N scope cl G.objs.size s2 H2 fp) [(D,{cls:=.type "list",data:=.seq (eI its) e})] σ' H' s'/\zS acc its/\acc.length<=sizeLine/\tn i s'.heap/\(∀b∈fp,H' b=none)/\W i n acc σ' H')
   ?_ m0 ⟨0,_,H2,[],[],0,I0,.nil,bX _,st1,fun b hb=>(f2 b hb).1,w0⟩
  rintro n s3 ⟨i,σ3,H3,acc,its,ep,I3,rv,hz,st3,fr3,w3⟩
  have stat:∀{H':Hp} {pl:List (ai×Obj)},(∀b∈fp,H' b=none)->(∀p∈pl,p.1=D)->∀b∈fp,u7 (vM X N scope cl G.objs.size s2 H2 fp) pl H' b:=fun{H' pl} hn hpl b hb=>by
   obtain⟨a1,a2⟩:=ok.exf b hb
   exact⟨hn b hb,a1,ok.exfs b hb,.inl hb,fun x c e=>a2 x c e,fun p hp=>by
    have hp':p∈pl:=hp
    rw[hpl p hp',<-hDa]
    exact dY (hfo b hb)⟩
  have one:∀p∈[(D,({cls:=.type "list",data:=.seq (eI its) ep}:Obj))],p.1=D:=fun p hp=>by
   rcases aQ.mp hp with e|e
   ·rw[e]
   ·cases e
  have pinD:∀{pl:List (ai×Obj)} {σ':St} {H':Hp} {s':au} {o:Obj},Inv (vM X N scope cl G.objs.size s2 H2 fp) pl σ' H' s'->(D,o)∈pl->s'.heap.get? D=some o/\H' D=none:=fun{pl σ' H' s' o} I' hm=>by
   obtain⟨a,b,_⟩:=I'.pin (D,o) (aT _ hm)
   exact⟨a,b⟩
  rcases turn i n acc σ3 H3 w3 with⟨stop,q⟩|⟨go,hlt,step⟩
  ·refine cf (T.done (vM X N scope cl G.objs.size s2 H2 fp) rfl rfl rfl hc i _ s3 σ3 H3 (fun _ _=>False) I3 (stat fr3 one) st3 stop) (fun r s4 ⟨hr,I4⟩=>?_) fun _ _ f=>f
   subst hr
   obtain⟨hDo,hDn⟩:=pinD I4 (ar ..)
   obtain⟨m4,hm4,_⟩:=I4.loc
   refine⟨m4,hm4,fun h' hsb'=>?_⟩
   have keepC:∀b u,b≠G.objs.size->s4.heap.get? b=some u->h'.get? b=some u:=fun b u hb e=>hsb'.extBut b u hb e
   have un:Un (yW X.stack) fp H2 H3 s2.heap s4.heap:=I4.base
   have hDo':h'.get? D=some {cls:=.type "list",data:=.seq (eI its) ep}:=keepC D _ hDC hDo
   have hlow:∀b (o:Obj),s2.heap.get? b=some o->b≠G.objs.size/\b≠D:=fun b o e=>by
    have h0:=aM e
    exact⟨by rw[hCs];exact bH (di h0),by rw[<-hDa];exact bH h0⟩
   have un':Un (yW X.stack) fp H2 (upd H3 D (.lst acc)) s2.heap h' :=
    ⟨fun b o e n' hb hx=>keepC b o (hlow b o e).1 (un.keep b o e n' hb hx),
     fun b o e n' hb hx=>let⟨sl,q⟩:=un.slot b o e n' hb hx;⟨sl,keepC b _ (hlow b o e).1 q⟩,
     fun b o e n' hx=>by rw[zN (hlow b o e).2];exact un.free b o e n' hx,
     fun b o e hx=>let⟨o',q⟩:=un.there b o e hx;⟨o',keepC b _ (hlow b o e).1 q⟩,
     fun b xs e=>by rw[zN (vJ (un.tups b xs e) hDn)];exact un.tups b xs e,
     fun b o u e=>by rw[zN (vJ (un.frzs b o u e) hDn)];exact un.frzs b o u e,
     fun b ps e=>let⟨mo,q⟩:=un.tbls b ps e;⟨mo,by rw[zN (vJ q hDn)];exact q⟩⟩
   have hok:yB X.prog X.w (upd H3 D (.lst acc)) h':=(I4.hok.but I4.free keepC).track hDn ⟨hz,its,ep,rv,hDo'⟩
   refine⟨.ref D,upd H3 D (.lst acc),I2.call' (s':={s4 with heap:=h'}) I4.os un' hok I4.bare (fun b hb=>?_),rfl,q D hDn⟩
   obtain⟨_,f1,_,f3,f4,f5⟩:=f2 b hb
   exact⟨f3,f1,f4,f5⟩
  ·refine cf (T.item (vM X N scope cl G.objs.size s2 H2 fp) rfl rfl rfl hc i _ s3 σ3 H3 (fun _ _=>False) I3 (stat fr3 one) st3 go) (fun r s4 ⟨u,hr,h4⟩=>?_) fun _ _ f=>f
   subst hr
   refine zK h4 fun _ s5 ⟨x,H5,I5,r5,y5,st5,fr5⟩=>?_
   have I5':=I5.pinned (stat fr5 one) (T.obj _ _ st5)
   refine zK (hg cl G.objs.size s2 H2 fp _ s5 σ3 H5 x u _ I5' r5 (step x H5 y5)) fun _ s6 ⟨σ6,H6,I6,q6⟩=>?_
   refine zK (hf cl G.objs.size s2 H2 fp _ s6 σ6 H6 _ I6 q6) fun b s7 ⟨H7,I7,q7⟩=>?_
   have fin:∀{pl:List (ai×Obj)} {σ':St} {H':Hp} {s':au},Inv (vM X N scope cl G.objs.size s2 H2 fp) (pl++zAA fp s5.heap) σ' H' s'->tn (i+1) s'.heap/\∀b∈fp,H' b=none:=fun{pl σ' H' s'} I'=>by
    refine⟨T.keep _ _ _ st5 fun b hb o e=>(I'.pin (b,o) (aT _ (aT _ (kP hb e)))).1,fun b hb=>?_⟩
    obtain⟨o,e,_⟩:=T.obj _ _ st5 b hb
    exact(I'.pin (b,o) (aT _ (aT _ (kP hb e)))).2.1
   cases b with
   |false=>
    rw[if_neg aI]at q7⊢
    obtain⟨m',hm,w7⟩:=q7
    obtain⟨a1,a2⟩:=fin I7
    exact⟨m',hm,i+1,σ6,H7,acc,its,ep,I7.unpinned,rv,hz,a1,a2,w7⟩
   |true=>
    rw[if_pos rfl]at q7⊢
    refine zK (he cl G.objs.size s2 H2 fp _ s7 σ6 H7 _ I7 q7) fun y s8 ⟨yv,H8,I8,r8,m',hm,w8⟩=>?_
    obtain⟨a1,a2⟩:=fin I8
    obtain⟨b1,b2⟩:=pinD I8 (bS _ (ar ..))
    have hl:=rv.length
    refine fU ij ⟨_,b1,rfl⟩ gq (fV _ _) (iD D its.toArray ep y (by rw[aY];omega)) ⟨b1,?_⟩
    have q9:=iS b1 (·.push y)
    have kp:∀b o,b≠D->s8.heap.get? b=some o->(s8.heap.update D (cz (·.push y))).get? b=some o:=fun b o hb e=>(cF s8.heap (cz (·.push y)) (d9 hb)).trans e
    have I9:Inv (vM X N scope cl G.objs.size s2 H2 fp) [] σ6 H8 {s8 with heap:=s8.heap.update D (cz (·.push y))} :=
     (I8.pins_of (pins':=[]) fun p hp=>by cases hp).turned (t':=s8.toks) kp b2 hDC (.inr (by rw[<-hDa];exact aH _)) (fun x c e z=>by
      have e':X.env.cells.lookup x=some c:=hcl1 x c e
      obtain⟨v',hv'⟩:=I2.cell x c e'
      have h0:=hv'.lt
      rw[z,<-hDa]at h0
      exact bO _ h0) fun p hp=>by
       have:p∈([]:List (ai×Obj)):=hp
       cases this
    have hpu:its.toArray.push y=(its++[y]).toArray:=by simp
    rw[hpu]at q9
    obtain⟨e9,q9⟩:∃e9,(s8.heap.update D (cz (·.push y))).get? D=some {cls:=.type "list",data:=.seq (its++[y]).toArray e9}:=⟨_,q9⟩
    refine⟨m',hm,i+1,σ6,H8,acc++[yv],its++[y],e9,I9.pins_of fun p hp=>?_,rv.append (.cons r8 .nil),?_,T.keep _ _ _ a1 fun b hb o e=>kp b o ?_ e,a2,w8⟩
    ·obtain rfl:p=(D,{cls:=.type "list",data:=.seq (its++[y]).toArray e9}):=by
      rcases aQ.mp hp with e|e
      ·exact e
      ·cases e
     obtain⟨_,_,c3,c4,_⟩:=I8.pin (D,_) (aT _ (bS _ (ar ..)))
     exact⟨q9,b2,c3,c4,fun v z=>by cases z⟩
    ·rw[aq,dA];omega
    ·rintro rfl
     have h0:=hfo b hb
     rw[hDa]at h0
     exact bO _ h0
 exact iE loop (T.self X.A 0 _ _ _ st1 loop)
end
theorem zA.seqT {K:ae}{H H':Hp}{a:ai}{xs:List V}(e:zA H H')(h:yH K H a xs):yH K H' a xs:=by
 rcases h with(h|⟨o,h⟩)|h
 ·exact .inl (.inl (e _ _ h))
 ·exact .inl (.inr ⟨o,e _ _ h⟩)
 ·exact .inr h
mutual
def yD (K:ae)(H:Hp):bW->V->Prop
 | .none,v=>v=.non
 | .bool b,v=>v=.bl b
 | .int i,v=>v=.int i
 | .str x,v=>v=.str x
 | .list ds,v=>∃a xs,v=.ref a/\z9 K H a xs/\Reps K H ds xs
 | .tuple ds,v=>∃a xs,v=.ref a/\yH K H a xs/\Reps K H ds xs
 | .dict _,_=>False
def Reps (K:ae)(H:Hp):List bW->List V->Prop
 | [],xs=>xs=[]
 |d::ds,xs=>∃y ys,xs=y::ys/\yD K H d y/\Reps K H ds ys
end
mutual
theorem yD.same {K:ae}{H H':Hp}(e:zA H H'):∀(d:bW) (v:V),yD K H d v->yD K H' d v
 | .none,v,h=>h
 | .bool b,v,h=>h
 | .int i,v,h=>h
 | .str x,v,h=>h
 | .list ds,v,h=>by
  obtain⟨a,xs,c,f,g⟩:=h
  exact⟨a,xs,c,e.seq f,Reps.same e ds xs g⟩
 | .tuple ds,v,h=>by
  obtain⟨a,xs,c,f,g⟩:=h
  exact⟨a,xs,c,e.seqT f,Reps.same e ds xs g⟩
 | .dict _,v,h=>h
theorem Reps.same {K:ae}{H H':Hp}(e:zA H H'):∀(ds:List bW) (xs:List V),Reps K H ds xs->Reps K H' ds xs
 | [],xs,h=>h
 |d::ds,xs,h=>by
  obtain⟨y,ys,a,b,c⟩:=h
  exact⟨y,ys,a,yD.same e d y b,Reps.same e ds ys c⟩
end
theorem Reps.length {K:ae}{H:Hp}:∀{ds:List bW}{xs:List V},Reps K H ds xs->ds.length=xs.length
 | [],xs,h=>by rw[show xs=[]from h];rfl
 |d::ds,xs,h=>by
  obtain⟨y,ys,a,_,b⟩:=h
  rw[a,bJ,bJ,Reps.length b]
theorem Reps.get {K:ae}{H:Hp}:∀{ds:List bW}{xs:List V}{i:Nat}{y:V},Reps K H ds xs->xs[i]?=some y->∃d,ds[i]?=some d/\yD K H d y
 | [],xs,i,y,h,e=>by rw[show xs=[]from h]at e;simp at e
 |d::ds,xs,i,y,h,e=>by
  obtain⟨z,j,a,b,c⟩:=h
  subst a
  cases i with
  |zero=>
   have:z=y:=by simpa using e
   subst this
   exact⟨d,rfl,b⟩
  |succ i=>
   obtain⟨d',f,g⟩:=Reps.get (i:=i) c (by simpa using e)
   exact⟨d',by simpa using f,g⟩
theorem Reps.append {K:ae}{H:Hp}:∀{ds a:List bW}{xs ys:List V},Reps K H ds xs->Reps K H a ys->Reps K H (ds++a) (xs++ys)
 | [],a,xs,ys,h,h'=>by rw[show xs=[]from h];exact h'
 |d::ds,a,xs,ys,h,h'=>by
  obtain⟨z,b,c,e,f⟩:=h
  subst c
  exact⟨z,b++ys,rfl,e,Reps.append f h'⟩
theorem Reps.one {K:ae}{H:Hp}{d:bW}{v:V}(h:yD K H d v):Reps K H [d] [v]:=⟨v,[],rfl,h,rfl⟩
section
variable{X:Cx}{pins:List (ai×Obj)}{σ:St}{H:Hp}{s:au}
mutual
theorem yD.reads (I:Inv X pins σ H s):∀(d:bW) (v:V) (u:ah),yD X.K H d v->zW v u->∃as,Reads s.heap u d as
 | .none,v,u,h,r=>by
  have h':v=.non:=h
  subst h'
  cases r
  exact⟨_,.none⟩
 | .bool b,v,u,h,r=>by
  have h':v=.bl b:=h
  subst h'
  cases r
  exact⟨_,.bool b⟩
 | .int i,v,u,h,r=>by
  have h':v=.int i:=h
  subst h'
  obtain⟨t,rfl⟩:=r
  exact⟨_,.int i t⟩
 | .str x,v,u,h,r=>by
  have h':v=.str x:=h
  subst h'
  obtain⟨t,rfl⟩:=r
  exact⟨_,.str x t⟩
 | .list ds,v,u,h,r=>by
  obtain⟨a,xs,f,g,j⟩:=h
  subst f
  cases r
  obtain⟨c,l,⟨o,n,e,m,_,hd⟩,_⟩:=I.list g
  obtain⟨as,p⟩:=Reps.reads I ds xs c j l
  exact⟨_,.list e m hd (by simpa using p)⟩
 | .tuple ds,v,u,h,r=>by
  obtain⟨a,xs,f,g,j⟩:=h
  subst f
  cases r
  obtain⟨c,l,⟨o,e,m,n,hd⟩,_⟩:=I.tuple g
  obtain⟨as,p⟩:=Reps.reads I ds xs c j l
  exact⟨_,.tuple e m hd (by simpa using p)⟩
 | .dict _,v,u,h,r=>h.elim
theorem Reps.reads (I:Inv X pins σ H s):∀(ds:List bW) (xs:List V) (us:List ah),Reps X.K H ds xs->zS xs us->∃as,ReadsAll s.heap us ds as
 | [],xs,us,h,r=>by
  have h':xs=[]:=h
  subst h'
  cases r
  exact⟨_,.nil⟩
 |d::ds,xs,us,h,r=>by
  obtain⟨y,ys,a,b,c⟩:=h
  subst a
  cases r with
  |cons e f=>
   obtain⟨as,g⟩:=yD.reads I d y _ b e
   obtain⟨bs,i⟩:=Reps.reads I ds ys _ c f
   exact⟨_,.cons g i⟩
end
def zDe (K:ae)(neg:Bool):R2:=fun x y H Q=>∃d e,yD K H d x/\yD K H e y/\cn d=true/\cn e=true/\Q (.bl (if neg=true then !PyData.eqv d e else bV d e)) H
theorem zBy (a:X.A.units+64<cLine):yN X (compareOp .Eq) (zDe X.K false):=by
 intro pins s σ H x y v u Q I b c h
 obtain⟨d,e,f,g,i,j,q⟩:=h
 obtain⟨as,l⟩:=yD.reads I d x v f b
 obtain⟨bs,m⟩:=yD.reads I e y u g c
 exact eq_dataH l m i j a ⟨.bl _,H,I,rfl,q⟩
theorem kX (a:X.A.units+64<cLine):yN X (compareOp .NotEq) (zDe X.K true):=by
 intro pins s σ H x y v u Q I b c h
 obtain⟨d,e,f,g,i,j,q⟩:=h
 obtain⟨as,l⟩:=yD.reads I d x v f b
 obtain⟨bs,m⟩:=yD.reads I e y u g c
 exact ne_dataH l m i j a ⟨.bl _,H,I,rfl,q⟩
end
mutual
theorem zBz:∀d:bW,d.canLay0=true->bV d d=true
 | .none,_=>rfl
 | .bool b,_=>by simp[bV]
 | .int i,_=>by simp[bV]
 | .str x,_=>by simp[bV]
 | .list ds,h=>by
  have h':cH ds=true:=by simpa [dC]using h
  simp only[bV];exact eqvAll_refl ds h'
 | .tuple ds,h=>by
  have h':cH ds=true:=by simpa [dC]using h
  simp only[bV];exact eqvAll_refl ds h'
 | .dict _,h=>by simp[dC]at h
theorem eqvAll_refl:∀ds:List bW,cH ds=true->fc ds ds=true
 | [],_=>rfl
 |d::ds,h=>by
  have h':d.canLay0=true/\cH ds=true:=by simpa [cH]using h
  simp only[fc,zBz d h'.1,eqvAll_refl ds h'.2,dZ]
end
end L2
end
section
open PySem PySem.W PyProof.Rows
namespace MyS
def ev {α:Type}(lt:Nat->Nat->Bool):KasT α->α
 | .ret a=>a
 | .ask i j k=>ev lt (k (lt i j))
theorem zAn {α β:Type}(lt:Nat->Nat->Bool)(f:α->KasT β):∀t:KasT α,ev lt (t.bind f)=ev lt (f (ev lt t))
 | .ret _=>rfl
 | .ask i j k=>zAn lt f (k (lt i j))
def uQ {α:Type}(lt:Nat->Nat->Bool)(N:Nat):KasT α->Prop
 | .ret _=>True
 | .ask i j k=>i<N/\j<N/\i≠j/\uQ lt N (k (lt i j))
theorem zAo {α β:Type}{lt:Nat->Nat->Bool}{N:Nat}{f:α->KasT β}:∀(t:KasT α),uQ lt N t->uQ lt N (f (ev lt t))->uQ lt N (t.bind f)
 | .ret _,_,h=>h
 | .ask i j k,h,h'=>⟨h.1,h.2.1,h.2.2.1,zAo (k (lt i j)) h.2.2.2 h'⟩
structure TotalOn (lt:Nat->Nat->Bool) (n:Nat):Prop where
 irr:∀i,i<n->lt i i=false
 tr:∀i j k,i<n->j<n->k<n->lt i j=true->lt j k=true->lt i k=true
 tot:∀i j,i<n->j<n->i≠j->lt i j=true\/lt j i=true
abbrev gg (p:Array Nat)(i:Nat):Nat:=p.getD i 0
def Pm (p:Array Nat)(n:Nat):Prop:=p.toList.Perm (bg n)
theorem Pm.size {p:Array Nat}{n:Nat}(h:Pm p n):p.size=n:=by
 have:=rY h
 simpa using this
theorem zAH {p:Array Nat}{i:Nat}(h:i<p.size):gg p i=p[i]:=by simp[gg,Array.getD,h]
theorem Pm.lt {p:Array Nat}{n i:Nat}(h:Pm p n)(hi:i<n):gg p i<n:=by
 have a:i<p.size:=by rw[h.size];exact hi
 have b:p[i]∈bg n:=(sr h).mp (by simp)
 rw[zAH a]
 exact bR.mp b
theorem Pm.ne {p:Array Nat}{n i j:Nat}(h:Pm p n)(hi:i<n)(d:j<n)(c:i≠j):gg p i≠gg p j:=by
 have a:i<p.size:=by rw[h.size];exact hi
 have b:j<p.size:=by rw[h.size];exact d
 have nd:p.toList.Nodup:=(rZ h).mpr List.nodup_range
 rw[zAH a,zAH b]
 intro e
 apply c
 have f:p.toList[i]'(by simpa using a)=p.toList[j]'(by simpa using b):=by simpa using e
 exact(fh nd).mp f
theorem Pm.perm {p q:Array Nat}{n:Nat}(h:Pm p n)(e:q.Perm p):Pm q n:=(Array.perm_iff_toList_perm.mp e).trans h
def Up (lt:Nat->Nat->Bool)(p:Array Nat)(k:Nat):Prop:=∀i j,i<j->j<k->lt (gg p i) (gg p j)=true
def Dn (lt:Nat->Nat->Bool)(p:Array Nat)(k:Nat):Prop:=∀i j,i<j->j<k->lt (gg p j) (gg p i)=true
section
variable{lt:Nat->Nat->Bool}{N:Nat}{p:Array Nat}
theorem TotalOn.flip (O:TotalOn lt N){i j:Nat}(hi:i<N)(b:j<N)(a:i≠j)(h:lt i j=false):lt j i=true:=by
 rcases O.tot i j hi b a with h'|h'
 ·rw[h]at h';cases h'
 ·exact h'
theorem Up.more (O:TotalOn lt N)(P:Pm p N){n:Nat}(d:1<=n)(b:n<N)(u:Up lt p n)(h:lt (gg p (n-1)) (gg p n)=true):Up lt p (n+1):=by
 intro i j a f
 by_cases e:j=n
 ·subst e
  by_cases c:i=j-1
  ·subst c;exact h
  ·exact O.tr _ _ _ (P.lt (by omega)) (P.lt (by omega)) (P.lt b) (u i (j-1) (by omega) (by omega)) h
 ·exact u i j a (by omega)
theorem Dn.more (O:TotalOn lt N)(P:Pm p N){n:Nat}(d:1<=n)(b:n<N)(u:Dn lt p n)(h:lt (gg p n) (gg p (n-1))=true):Dn lt p (n+1):=by
 intro i j a f
 by_cases e:j=n
 ·subst e
  by_cases c:i=j-1
  ·subst c;exact h
  ·exact O.tr _ _ _ (P.lt b) (P.lt (by omega)) (P.lt (by omega)) h (u i (j-1) (by omega) (by omega))
 ·exact u i j a (by omega)
theorem zGf:Up lt p 1:=fun i j a b=>by omega
theorem zCA (O:TotalOn lt N)(P:Pm p N):∀(f n:Nat),1<=n->n+f<=N->Up lt p n->
  n<=ev lt (iF p f n)/\ev lt (iF p f n)<=n+f/\Up lt p (ev lt (iF p f n))/\(ev lt (iF p f n)<n+f->lt (gg p (ev lt (iF p f n))) (gg p (ev lt (iF p f n)-1))=true)
 |0,n,_,_,u=>⟨aH _,aH _,u,fun h=>absurd h (bO _)⟩
 |f+1,n,a,i,u=>by
  have e:ev lt (iF p (f+1) n)=ev lt (if lt (gg p n) (gg p (n-1))=true then KasT.ret n else iF p f (n+1)):=rfl
  rw[e]
  cases c:lt (gg p n) (gg p (n-1))with
  |true=>
   rw[if_pos rfl]
   exact⟨aH _,Nat.le_add_right _ _,u,fun _=>c⟩
  |false=>
   rw[if_neg (by simp)]
   have b:=O.flip (P.lt (by omega)) (P.lt (by omega)) (P.ne (by omega) (by omega) (by omega)) c
   obtain⟨j,l,d,g⟩:=zCA O P f (n+1) (by omega) (by omega) (u.more O P a (by omega) b)
   exact⟨by omega,by omega,d,fun h=>g (by omega)⟩
theorem zDf (P:Pm p N):∀(f n:Nat),1<=n->n+f<=N->uQ lt N (iF p f n)
 |0,n,_,_=>trivial
 |f+1,n,a,b=>by
  refine⟨P.lt (by omega),P.lt (by omega),P.ne (by omega) (by omega) (by omega),?_⟩
  show uQ lt N (if lt (gg p n) (gg p (n-1))=true then KasT.ret n else iF p f (n+1))
  split
  ·trivial
  ·exact zDf P f (n+1) (by omega) (by omega)
theorem zGg (O:TotalOn lt N)(P:Pm p N):∀(f n:Nat),1<=n->n+f<=N->uQ lt N (fk f p n 0)
 |0,n,_,_=>trivial
 |f+1,n,b,e=>by
  refine⟨P.lt (by omega),P.lt (by omega),P.ne (by omega) (by omega) (by omega),?_⟩
  show uQ lt N (if lt (gg p n) (gg p (n-1))=true then(if 0>0 then fk f (lV p (n- (0+1)) n) (n+1) 0 else fk f p (n+1) 0)
   else .ask (gg p (n-1)) (gg p n) fun d=>if d=true then .ret (p,n,0)else fk f p (n+1) (0+1))
  cases c:lt (gg p n) (gg p (n-1))with
  |true=>
   rw[if_pos rfl,if_neg (by omega)]
   exact zGg O P f (n+1) (by omega) (by omega)
  |false=>
   rw[if_neg (by simp)]
   have a:=O.flip (P.lt (by omega)) (P.lt (by omega)) (P.ne (by omega) (by omega) (by omega)) c
   refine⟨P.lt (by omega),P.lt (by omega),P.ne (by omega) (by omega) (by omega),?_⟩
   show uQ lt N (if lt (gg p (n-1)) (gg p n)=true then KasT.ret (p,n,0)else fk f p (n+1) (0+1))
   rw[a,if_pos rfl]
   trivial
theorem zDg (O:TotalOn lt N)(P:Pm p N):∀(f n:Nat),1<=n->n+f<=N->Dn lt p n->
  ∃m,ev lt (fk f p n 0)=(p,m,0)/\n<=m/\m<=n+f/\Dn lt p m
 |0,n,_,_,u=>⟨n,rfl,aH _,aH _,u⟩
 |f+1,n,a,j,u=>by
  have e:ev lt (fk (f+1) p n 0)=ev lt (if lt (gg p n) (gg p (n-1))=true then(if 0>0 then fk f (lV p (n- (0+1)) n) (n+1) 0 else fk f p (n+1) 0)
   else .ask (gg p (n-1)) (gg p n) fun d=>if d=true then .ret (p,n,0)else fk f p (n+1) (0+1)):=rfl
  rw[e]
  cases c:lt (gg p n) (gg p (n-1))with
  |true=>
   rw[if_pos rfl,if_neg (by omega)]
   obtain⟨m,b,l,o,g⟩:=zDg O P f (n+1) (by omega) (by omega) (u.more O P a (by omega) c)
   exact⟨m,b,by omega,by omega,g⟩
  |false=>
   rw[if_neg (by simp)]
   have h:=O.flip (P.lt (by omega)) (P.lt (by omega)) (P.ne (by omega) (by omega) (by omega)) c
   have i:ev lt (.ask (gg p (n-1)) (gg p n) fun d=>if d=true then KasT.ret (p,n,0)else fk f p (n+1) (0+1))=ev lt (if lt (gg p (n-1)) (gg p n)=true then KasT.ret (p,n,0)else fk f p (n+1) (0+1)):=rfl
   rw[i,h,if_pos rfl]
   exact⟨n,rfl,aH _,by omega,u⟩
theorem zGh {m k:Nat}(b:m<=p.size):gg (lV p 0 m) k=if k<m then gg p (m-1-k)else gg p k:=by
 have e:=getElem?_mirror_all (i:=0) b k
 have a:∀(q:Array Nat) (x:Nat),gg q x=(q[x]?).getD 0:=fun q x=>by simp[gg]
 rw[a,a,a]
 show((mirror p 0 m ((m-0)/2))[k]?).getD 0=_
 rw[e]
 by_cases h:k<m
 ·rw[if_pos ⟨bX _,h⟩,if_pos h]
  simp
 ·rw[if_neg (fun z=>h z.2),if_neg h]
theorem zLi (P:Pm p N){m:Nat}(b:m<=N)(d:Dn lt p m):Up lt (lV p 0 m) m:=by
 intro i j c e
 have a:m<=p.size:=by rw[P.size];exact b
 rw[zGh a,zGh a,if_pos (by omega),if_pos e]
 exact d _ _ (by omega) (by omega)
theorem zDh (P:Pm p N)(i j:Nat):Pm (lV p i j) N:=P.perm (mirror_perm p i j _)
theorem zGi (O:TotalOn lt N)(P:Pm p N)(x:2<=N):∃m q,ev lt (ot N p)=(m,q)/\1<=m/\m<=N/\Pm q N/\Up lt q m:=by
 obtain⟨b,l,a,g⟩:=zCA O P (N-1) 1 (aH _) (by omega) zGf
 unfold ot
 rw[zAn]
 generalize y:ev lt (iF p (N-1) 1)=n at b l a g
 by_cases d:(n==N)=true
 ·rw[if_pos d]
  exact⟨n,p,rfl,b,by omega,P,a⟩
 ·rw[if_neg d]
  have o:n≠N:=by simpa using d
  by_cases h:n>1
  ·rw[if_pos h]
   have c:lt (gg p 0) (gg p (n-1))=true:=a 0 (n-1) (by omega) (by omega)
   have r:ev lt (KasT.ask (p.getD 0 0) (p.getD (n-1) 0) fun c=>if c=true then KasT.ret (n,p)else jn n N (lV p 0 n))=ev lt (if lt (gg p 0) (gg p (n-1))=true then KasT.ret (n,p)else jn n N (lV p 0 n)):=rfl
   rw[r,c,if_pos rfl]
   exact⟨n,p,rfl,b,by omega,P,a⟩
  ·rw[if_neg h]
   have e:n=1:=by omega
   subst e
   have c:=g (by omega)
   have s:Dn lt p 2:=fun i j t z=>by
    have:i=0:=by omega
    have:j=1:=by omega
    subst i;subst j;exact c
   obtain⟨m,u,A,B,v⟩:=zDg O P (N-2) 2 (by omega) (by omega) s
   unfold jn
   rw[zAn]
   have f:ev lt (fk (N- (1+1)) p (1+1) 0)=(p,m,0):=u
   rw[f]
   dsimp only
   rw[if_neg (by omega)]
   unfold kas_tail3
   rw[zAn]
   obtain⟨C,D,w,_⟩:=zCA O (zDh P 0 m) (N-m) m (by omega) (by omega) (zLi P (by omega) v)
   exact⟨_,_,rfl,by omega,by omega,zDh P 0 m,w⟩
theorem zLj (O:TotalOn lt N)(P:Pm p N)(t:2<=N):uQ lt N (ot N p):=by
 obtain⟨h,l,d,f⟩:=zCA O P (N-1) 1 (aH _) (by omega) zGf
 unfold ot
 refine zAo _ (zDf P _ _ (aH _) (by omega)) ?_
 generalize u:ev lt (iF p (N-1) 1)=n at h l d f
 by_cases a:(n==N)=true
 ·rw[if_pos a];trivial
 ·rw[if_neg a]
  have o:n≠N:=by simpa using a
  by_cases g:n>1
  ·rw[if_pos g]
   have c:lt (gg p 0) (gg p (n-1))=true:=d 0 (n-1) (by omega) (by omega)
   refine⟨P.lt (by omega),P.lt (by omega),P.ne (by omega) (by omega) (by omega),?_⟩
   show uQ lt N (if lt (gg p 0) (gg p (n-1))=true then KasT.ret (n,p)else jn n N (lV p 0 n))
   rw[c,if_pos rfl]
   trivial
  ·rw[if_neg g]
   have e:n=1:=by omega
   subst e
   have c:=f (by omega)
   have q:Dn lt p 2:=fun i j r v=>by
    have:i=0:=by omega
    have:j=1:=by omega
    subst i;subst j;exact c
   obtain⟨m,s,w,x,y⟩:=zDg O P (N-2) 2 (by omega) (by omega) q
   unfold jn
   refine zAo _ (zGg O P _ _ (by omega) (by omega)) ?_
   have b:ev lt (fk (N- (1+1)) p (1+1) 0)=(p,m,0):=s
   rw[b]
   dsimp only
   rw[if_neg (by omega)]
   unfold kas_tail3
   exact zAo _ (zDf (zDh P 0 m) _ _ (by omega) (by omega)) trivial
theorem zDi (P:Pm p N){k:Nat}(b:k<N):∀(f l r:Nat),r<=k->uQ lt N (dH p k f l r)
 |0,l,r,_=>trivial
 |f+1,l,r,h=>by
  show uQ lt N (if l>=r then KasT.ret l else .ask (p.getD k 0) (p.getD ((l+r)/2) 0) fun c=>if c=true then dH p k f l ((l+r)/2)else dH p k f ((l+r)/2+1) r)
  by_cases a:l>=r
  ·rw[if_pos a];trivial
  ·rw[if_neg a]
   refine⟨P.lt b,P.lt (by omega),P.ne b (by omega) (by omega),?_⟩
   show uQ lt N (if lt (gg p k) (gg p ((l+r)/2))=true then dH p k f l ((l+r)/2)else dH p k f ((l+r)/2+1) r)
   split
   ·exact zDi P b f l _ (by omega)
   ·exact zDi P b f _ r h
theorem zDj (O:TotalOn lt N)(P:Pm p N){k:Nat}(d:k<N)(u:Up lt p k):∀(f l r:Nat),l<=r->r<=k->r-l<=f->(∀i,i<l->lt (gg p i) (gg p k)=true)->(∀i,r<=i->i<k->lt (gg p k) (gg p i)=true)->
  ev lt (dH p k f l r)<=k/\(∀i,i<ev lt (dH p k f l r)->lt (gg p i) (gg p k)=true)/\∀i,ev lt (dH p k f l r)<=i->i<k->lt (gg p k) (gg p i)=true
 |0,l,r,q,h,s,a,b=>by
  have:l=r:=by omega
  subst this
  exact⟨h,a,b⟩
 |f+1,l,r,q,h,s,a,b=>by
  have e:ev lt (dH p k (f+1) l r)=ev lt (if l>=r then KasT.ret l else .ask (p.getD k 0) (p.getD ((l+r)/2) 0) fun c=>if c=true then dH p k f l ((l+r)/2)else dH p k f ((l+r)/2+1) r):=rfl
  rw[e]
  by_cases g:l>=r
  ·rw[if_pos g]
   have:l=r:=by omega
   subst this
   exact⟨h,a,b⟩
  ·rw[if_neg g]
   have t:ev lt (KasT.ask (p.getD k 0) (p.getD ((l+r)/2) 0) fun c=>if c=true then dH p k f l ((l+r)/2)else dH p k f ((l+r)/2+1) r)=ev lt (if lt (gg p k) (gg p ((l+r)/2))=true then dH p k f l ((l+r)/2)else dH p k f ((l+r)/2+1) r):=rfl
   rw[t]
   generalize w:(l+r)/2=m
   have v:l<=m:=by omega
   have x:m<r:=by omega
   cases c:lt (gg p k) (gg p m)with
   |true=>
    rw[if_pos rfl]
    refine zDj O P d u f l m v (by omega) (by omega) a fun i hi j=>?_
    by_cases n:i=m
    ·subst n;exact c
    ·exact O.tr _ _ _ (P.lt d) (P.lt (by omega)) (P.lt (by omega)) c (u m i (by omega) j)
   |false=>
    rw[if_neg (by simp)]
    have o:=O.flip (P.lt d) (P.lt (by omega)) (P.ne d (by omega) (by omega)) c
    refine zDj O P d u f (m+1) r (by omega) h (by omega) (fun i hi=>?_) b
    by_cases n:i=m
    ·subst n;exact o
    ·exact O.tr _ _ _ (P.lt (by omega)) (P.lt (by omega)) (P.lt d) (u i m (by omega) (by omega)) o
theorem zGj {k d x:Nat}(b:k<p.size)(hd:d<=k):gg (bubble p k d) x=if x=k-d then gg p k else if k-d<x/\x<=k then gg p (x-1)else gg p x:=by
 have e:=getElem?_bubble b d hd x
 have a:∀(q:Array Nat) (x:Nat),gg q x=(q[x]?).getD 0:=fun q x=>by simp[gg]
 rw[a,a,a,a,e]
 split
 ·rfl
 ·split<;>rfl
theorem zGk (O:TotalOn lt N):∀(f:Nat) (p:Array Nat) (k:Nat),Pm p N->k+f=N->Up lt p k->Pm (ev lt (nQ f p k)) N/\Up lt (ev lt (nQ f p k)) N
 |0,p,k,P,e,u=>by
  have:k=N:=by omega
  subst this
  exact⟨P,u⟩
 |f+1,p,k,P,e,u=>by
  have r:nQ (f+1) p k=(dH p k k 0 k).bind fun l=>nQ f (bubble p k (k-l)) (k+1):=rfl
  rw[r,zAn]
  have g:k<N:=by omega
  obtain⟨s,h,m⟩:=zDj O P g u k 0 k (bX _) (aH _) (by omega) (fun i hi=>by omega) (fun i a b=>by omega)
  generalize ev lt (dH p k k 0 k)=l at s h m
  have n:k<p.size:=by rw[P.size];exact g
  refine zGk O f _ (k+1) (P.perm (bubble_perm p k _)) (by omega) fun i j c t=>?_
  rw[zGj n (by omega),zGj n (by omega)]
  have d:k- (k-l)=l:=by omega
  rw[d]
  by_cases a:i=l
  ·rw[if_pos a,if_neg (by omega),if_pos (by omega)]
   exact m _ (by omega) (by omega)
  ·rw[if_neg a]
   by_cases b:l<i/\i<=k
   ·rw[if_pos b,if_neg (by omega),if_pos (by omega)]
    exact u _ _ (by omega) (by omega)
   ·rw[if_neg b]
    by_cases o:j=l
    ·rw[if_pos o]
     exact h i (by omega)
    ·rw[if_neg o]
     by_cases q:l<j/\j<=k
     ·rw[if_pos q]
      by_cases v:i=j-1
      ·omega
      ·exact u _ _ (by omega) (by omega)
     ·rw[if_neg q]
      exact u _ _ c (by omega)
theorem zGl (O:TotalOn lt N):∀(f:Nat) (p:Array Nat) (k:Nat),Pm p N->k+f=N->uQ lt N (nQ f p k)
 |0,p,k,P,e=>trivial
 |f+1,p,k,P,e=>by
  show uQ lt N ((dH p k k 0 k).bind fun l=>nQ f (bubble p k (k-l)) (k+1))
  exact zAo _ (zDi P (by omega) _ _ _ (aH _)) (zGl O f _ (k+1) (P.perm (bubble_perm p k _)) (by omega))
theorem zGm (O:TotalOn lt N)(a:2<=N):uQ lt N (nR N):=by
 have b:Pm (eI (bg N)) N:=kb _
 obtain⟨m,q,e,g,h,d,i⟩:=zGi O b a
 unfold nR
 refine zAo _ (zLj O b a) ?_
 rw[e]
 dsimp only
 by_cases c:m<N
 ·rw[if_pos c]
  have f:max m 1=m:=by omega
  rw[f]
  exact zGl O (N-m) q m d (by omega)
 ·rw[if_neg c];trivial
theorem zGn (O:TotalOn lt N)(d:2<=N):Pm (ev lt (nR N)) N/\Up lt (ev lt (nR N)) N:=by
 have f:Pm (eI (bg N)) N:=kb _
 obtain⟨m,q,e,h,i,a,b⟩:=zGi O f d
 unfold nR
 rw[zAn,e]
 dsimp only
 by_cases c:m<N
 ·rw[if_pos c]
  have g:max m 1=m:=by omega
  rw[g]
  exact zGk O (N-m) q m a (by omega) b
 ·rw[if_neg c]
  have:m=N:=by omega
  subst this
  exact⟨a,b⟩
end
end MyS
end
section
namespace MyS
open PySem PySem.W PyProof.Rows PySem.Spec
theorem zDk {α:Type}{N:Nat}{cmp:Nat->Nat->(Bool->au->Prop)->au->Prop}{lt:Nat->Nat->Bool}{s:au}(b:∀i j,i<N->j<N->i≠j->∀C,C (lt i j) s->cmp i j C s) :
  ∀(t:KasT α) (Q:α->au->Prop),uQ lt N t->Q (ev lt t) s->t.kasWp cmp Q s
 | .ret a,Q,_,h=>h
 | .ask i j k,Q,o,h=>b i j o.1 o.2.1 o.2.2.1 _ (zDk b (k (lt i j)) Q o.2.2.2 h)
def j6 (ks:List Str)(i:Nat):List Nat:=(ks.getD i ⟨#[]⟩).cps.toList
def kY (ks:List Str)(i j:Nat):Bool:=decide (j6 ks i<j6 ks j)
theorem Str_ext {a b:Str}(h:a.cps.toList=b.cps.toList):a=b:=by
 cases a;cases b
 congr 1
 exact nZ.mp h
theorem zLk (a b:List Nat)(e:¬a<b)(f:¬b<a):a=b:=by
 have c:b<=a:=iu.mp e
 have d:a<=b:=iu.mp f
 exact ou d c
theorem zLl {ks:List Str}(nd:ks.Nodup):TotalOn (kY ks) ks.length where
 irr:=fun i _=>by simp[kY,fX]
 tr:=fun i j k _ _ _ a b=>by
  simp only[kY,decide_eq_true_eq]at*
  exact m9 a b
 tot:=fun i j hi f c=>by
  simp only[kY,decide_eq_true_eq]
  by_cases a:j6 ks i<j6 ks j
  ·exact .inl a
  ·by_cases b:j6 ks j<j6 ks i
   ·exact .inr b
   ·exfalso
    have e:=zLk _ _ a b
    unfold j6 at e
    have d:=Str_ext e
    have g:ks.getD i ⟨#[]⟩=ks[i]:=by simp[hi]
    have h:ks.getD j ⟨#[]⟩=ks[j]:=by simp[f]
    rw[g,h]at d
    exact c ((fh nd).mp d)
section
variable{prog:aP}{w:bc}{A:bU}{E:ah->au->Prop}{s:au}
theorem zLm {κ:pj}{a:ai}{vs:List ah}{ks:List Str}{n:Nat}{P:mS->au->Prop}(z:s.heap.get? a=some (seqObj "list" vs.toArray n))(hl:ks.length=vs.length)(nd:ks.Nodup)(D:vs.length<64)
  (U:∀G,(∀b o,b≠a->s.heap.get? b=some o->G.get? b=some o)->2<=vs.length->∀(Q:pj->au->Prop) (W:ah->au->Prop),Q κ {s with heap:=G}->wpAny (model prog w) A (keyKind' vs.toArray) Q W {s with heap:=G})
  (X:∀G,(∀b o,b≠a->s.heap.get? b=some o->G.get? b=some o)->∀i j,i<vs.length->j<vs.length->i≠j->∀C,C (kY ks i j) {s with heap:=G}->kas_ask prog w A κ vs i j C {s with heap:=G})
  (h:∀(p:List Nat) (h':bK) (e:Nat),p.Perm (bg vs.length)->(p.map (j6 ks)).Pairwise (· < ·)->(∀b o,b≠a->s.heap.get? b=some o->h'.get? b=some o)->
   h'.get? a=some (seqObj "list" (p.map fun i=>vs.getD i Value.none).toArray e)->P (.done (.ret .none)) {s with heap:=h'}) :
  wpAny (model prog w) A (dX.«list.sort» ⟨[.ref a],[]⟩) P E s:=by
 have ha:a<s.heap.objs.size:=aM z
 rw[oO]
 refine ao (listItems_at z rfl ?_)
 refine ao (hU z rfl ?_ (by rw[aY,aR];omega) (bX _))
 obtain⟨F,t⟩:∃F,(s.heap.update a (cz fun _=>(#[]:Array ah))).get? a=some (seqObj "list" #[] F):=⟨_,jb z fun _=>#[]⟩
 refine ao (iY t rfl ?_)
 refine ao (mG ?_ (by rw[aR];simp;omega))
 refine ao (lh ?_ (by simp))
 refine ll ?_
 show wpAny (model prog w) A _ P E {s with heap:=((s.heap.update a (cz fun _=>#[])).push (seqObj "tuple" vs.toArray 0)).push (seqObj "list" #[] 0)}
 generalize T:((s.heap.update a (cz fun _=>(#[]:Array ah))).push (seqObj "tuple" vs.toArray 0)).push (seqObj "list" #[] 0)=G
 have d:G.get? a=some (seqObj "list" #[] F):=by
  rw[<-T]
  exact ag _ (ag _ t)
 have m:∀b o,b≠a->s.heap.get? b=some o->G.get? b=some o:=fun b o B e=>by
  rw[<-T]
  exact ag _ (ag _ ((cF _ _ (d9 B)).trans e))
 have hsz:vs.toArray.size=vs.length:=by simp
 have fin:∀(p:List Nat) (q:Array ah) (c:q=(p.map fun i=>vs.getD i Value.none).toArray),p.Perm (bg vs.length)->(p.map (j6 ks)).Pairwise (· < ·)->
   P (.done (.ret .none)) {s with heap:=G.update a (cz fun _=>q)}:=fun p q c Y f=>by
  subst c
  have Z:=jb d fun _=>(p.map fun i=>vs.getD i Value.none).toArray
  exact h p _ _ Y f (fun b o B e=>(cF _ _ (d9 B)).trans (m b o B e)) Z
 dsimp only
 by_cases f:vs.toArray.size<2
 ·rw[if_pos f,if_pos f]
  refine ao (bf ?_)
  rw[oP]
  refine ao (bf ?_)
  dsimp only
  refine ao (iY d rfl ?_)
  refine ao (hU d rfl ?_ (by simp) (by
   show((vs.toArray.zip vs.toArray).map (·.2)).size<=sizeLine+1
   rw[aR];simp;omega))
  simp only[bne_self_eq_false,fA,if_false]
  refine bf (fin (bg vs.length) _ ?_ (kb _) ?_)
  ·show(vs.toArray.zip vs.toArray).map (·.2)=_
   match vs,f with
   | [],_=>simp
   | [v],_=>simp[cU]
   |_::_::_,f=>simp at f;omega
  ·have:vs.length<2:=by simpa using f
   match hv:vs.length,this with
   |0,_=>simp
   |1,_=>simp[cU]
 ·rw[if_neg f,if_neg f]
  have g:2<=vs.length:=by simpa using f
  refine ao (U G m g _ _ ?_)
  show wpAny _ _ (sk sortRuns' (so κ (vs.toArray.zip vs.toArray) #[] 7 none)>>=_) _ _ _
  have O:=zLl nd
  rw[hl]at O
  obtain⟨H,I⟩:=zGn O g
  refine ao (cf (kat_run (ks:=vs) (vs:=vs) (Q:=fun l s'=>s'={s with heap:=G}/\failedOf l=none/\∃p:Array Nat,Pm p vs.length/\Up (kY ks) p vs.length/\arrOf l=p.map (kas_item (vs.toArray.zip vs.toArray)))
   (G:=fun p s'=>s'={s with heap:=G}/\Pm p vs.length/\Up (kY ks) p vs.length) rfl g D (fun p l s' _ u J x=>⟨x.1,J,p,x.2.1,x.2.2,u⟩) ?_) ?_ fun _ _ e=>e)
  ·refine zDk (N:=vs.length) (lt:=kY ks) (fun i j hi L r C M=>?_) _ _ (zGm O g) ⟨rfl,H,I⟩
   exact X G m i j hi L r C M
  ·rintro⟨⟨⟩,l⟩ s' ⟨rfl,hf,p,u,J,x⟩
   dsimp only
   have c:=kat_snds (ks:=vs) (vs:=vs) rfl x
   refine ao (iY d rfl ?_)
   refine ao (hU d rfl ?_ (by simp) (by
    rw[c,aY,af,aR]
    have:=u.size
    simp
    omega))
   rw[hf]
   simp only[bne_self_eq_false,fA,if_false]
   refine bf (fin p.toList _ c u ?_)
   rw[dy,kf]
   intro i j hi L r
   have R:i<p.size:=by simpa using hi
   have y:j<p.size:=by simpa using L
   have:=J i j r (by rw[<-u.size];exact y)
   rw[zAH R,zAH y]at this
   simpa [kY]using this
theorem sort_strs {a:ai}{vs:List ah}{ks:List Str}{n:Nat}{P:mS->au->Prop}(q:s.heap.get? a=some (seqObj "list" vs.toArray n))(f:StrsAre vs ks)(nd:ks.Nodup)(m:vs.length<64)
  (h:∀(p:List Nat) (h':bK) (e:Nat),p.Perm (bg vs.length)->(p.map (j6 ks)).Pairwise (· < ·)->(∀b o,b≠a->s.heap.get? b=some o->h'.get? b=some o)->
   h'.get? a=some (seqObj "list" (p.map fun i=>vs.getD i Value.none).toArray e)->P (.done (.ret .none)) {s with heap:=h'}) :
  wpAny (model prog w) A (dX.«list.sort» ⟨[.ref a],[]⟩) P E s:=by
 have d:ks.length=vs.length:=by rw[<-f.strs];simp
 have c:∀i,i<vs.length->∃t,vs.getD i Value.none=.str (ks.getD i ⟨#[]⟩) t:=fun i hi=>by
  obtain⟨x,t,e⟩:=f.all vs[i] (cD hi)
  refine⟨t,?_⟩
  have r:vs.getD i Value.none=vs[i]:=by simp[hi]
  have u:ks.getD i ⟨#[]⟩=x:=by
   rw[<-f.strs,br,aF,ax hi,e];rfl
  rw[r,u,e]
 refine zLm (κ:=oneType') q d nd m (fun G v y Q I z=>?_) (fun G v i j hi B D C F=>?_) h
 ·obtain⟨g,l,uZ,rfl⟩:∃g l uZ,vs=g::l::uZ:=by
   match vs,y with
   |g::l::uZ,_=>exact⟨g,l,uZ,rfl⟩
  rw[keyKind_strs f]
  exact bf z
 ·obtain⟨t,e⟩:=c i hi
  obtain⟨t',H⟩:=c j B
  unfold kas_ask
  rw[e,H,keyLt'_oneType]
  exact strKind_oneLt prog w A _ _ _ _ _ _ rfl rfl F
end
end MyS
end
section
namespace L2
open PySem PySem.Spec PyProof.Rows
def jH (H:Hp)(news:List (ai×HO)):Hp:=fun b=>match news.lookup b with
 |some o=>some o
 |none=>H b
theorem zDl {H:Hp}{a:List (ai×HO)}{b:ai}(h:b∉a.map (·.1)):jH H a b=H b:=by
 unfold jH
 have:a.lookup b=none:=by
  induction a with
  |nil=>rfl
  |cons p r ih=>
   rw[ba,aQ,not_or]at h
   have c:(b==p.1)=false:=by simpa using h.1
   obtain⟨x,y⟩:=p
   rw[bT,c]
   exact ih h.2
 rw[this]
theorem zLn {H:Hp}{a:List (ai×HO)}{b:ai}{o:HO}(h:jH H a b=some o):(b,o)∈a\/(b∉a.map (·.1)/\H b=some o):=by
 by_cases d:b∈a.map (·.1)
 ·left
  unfold jH at h
  cases e:a.lookup b with
  |some u=>
   rw[e]at h
   have:u=o:=aw h
   subst this
   clear h d
   induction a with
   |nil=>cases e
   |cons p r ih=>
    obtain⟨x,y⟩:=p
    rw[bT]at e
    cases c:b==x with
    |true=>
     rw[c]at e
     have f:b=x:=by simpa using c
     have g:y=u:=aw e
     subst f;subst g
     exact ar ..
    |false=>
     rw[c]at e
     exact aG _ (ih e)
  |none=>
   exfalso
   clear h
   induction a with
   |nil=>cases d
   |cons p r ih=>
    obtain⟨x,y⟩:=p
    rw[bT]at e
    cases c:b==x with
    |true=>rw[c]at e;cases e
    |false=>
     rw[c]at e
     rw[ba,aQ]at d
     rcases d with z|z
     ·have:(b==x)=true:=by simpa using z
      rw[this]at c;cases c
     ·exact ih z e
 ·rw[zDl d]at h
  exact .inr ⟨d,h⟩
theorem zLo {H:Hp}{a:List (ai×HO)}(c:∀p∈a,H p.1=none):zA H (jH H a):=fun b o e=>by
 rw[zDl fun z=>?_]
 ·exact e
 ·obtain⟨p,d,rfl⟩:=aX.mp z
  rw[c p d]at e;cases e
theorem yZ.obj {P:aP}{w:bc}{H:Hp}{h:bK}{a:ai}{o:HO}(x:yZ P w H h a o):∃u,h.get? a=some u:=by
 cases o with
 |lst xs=>obtain⟨_,_,_,_,e⟩:=x;exact⟨_,e⟩
 |tup xs=>obtain⟨_,_,_,_,e,_⟩:=x;exact⟨_,e⟩
 |dK kvs=>obtain⟨_,_,_,_,o,_,_,e,_⟩:=x;exact⟨_,e⟩
 |dT kvs=>obtain⟨_,_,_,_,o,_,_,e,_⟩:=x;exact⟨_,e⟩
 |set S n=>obtain⟨o,_,_,_,e,_⟩:=x;exact⟨_,e⟩
 |ins C b fs=>obtain⟨_,_,_,e,_⟩:=x;exact⟨_,e⟩
 |own y=>exact x
 |xd fs=>obtain⟨_,⟨_,_,_,e,_⟩,_⟩:=x;exact⟨_,e⟩
 |rng lo hi=>obtain⟨_,_,_,e⟩:=x;exact⟨_,e⟩
 |frz c u=>obtain⟨e,_⟩:=x;exact⟨_,e⟩
 |tbl d=>exact⟨_,(show h.get? a=some _ from x)⟩
 |met f y=>exact⟨_,(show h.get? a=some _ from x)⟩
 |ext φ=>obtain⟨_,e,_⟩:=x;exact e
theorem yB.free {P:aP}{w:bc}{H:Hp}{h:bK}{a:ai}(x:yB P w H h)(e:h.get? a=none):H a=none:=by
 cases q:H a with
 |none=>rfl
 |some u=>
  obtain⟨v,b⟩:=(x a u q).obj
  rw[b]at e;cases e
section
variable{X:Cx}{pins:List (ai×Obj)}{σ:St}{H:Hp}{s:au}
theorem Inv.many {h':bK}{t':Nat}{a:List (ai×HO)}(I:Inv X pins σ H s)(k:∀b u,s.heap.get? b=some u->h'.get? b=some u)(d:∀p∈a,s.heap.get? p.1=none)
  (new:∀p∈a,yZ X.prog X.w (jH H a) h' p.1 p.2):Inv X pins σ (jH H a) {s with heap:=h',toks:=t'}:=by
 have i:∀p∈a,H p.1=none:=fun p h=>I.hok.free (d p h)
 have f:=zLo i
 have g:∀b (o:Obj),s.heap.get? b=some o->jH H a b=H b:=fun b o e=>zDl fun z=>by
  obtain⟨p,h,rfl⟩:=aX.mp z
  rw[d p h]at e;cases e
 refine I.un (H':=jH H a) ⟨fun b o e _ _ _=>k b o e,fun b o e _ _ _=>⟨o.slots,k b o e⟩,fun b o e n _=>by rw[g b o e];exact n,fun b o e _=>⟨o,k b o e⟩,fun b xs e=>f b _ e,fun b o u e=>f b _ e,fun b j e=>⟨#[],by rw[f b _ e];simp⟩⟩ fun b u e=>?_
 rcases zLn e with z|⟨_,z⟩
 ·exact new (b,u) z
 ·exact(I.hok b u z).stay (fun c v _ q=>k c v q) (fun c q=>f c _ q) fun c xs q=>f c _ q
end
section
variable{X:Cx}
abbrev gP (kvs:List (Str×V)):List (z0×V):=kvs.map fun q=>(Sum.inr q.1,q.2)
theorem KV.get {kvs:List (z0×V)}{vs:List (z0×ah)}:∀{i:Nat}{k:z0}{x:ah},KV kvs vs->vs[i]?=some (k,x)->∃v,kvs[i]?=some (k,v)/\zW v x:=by
 intro i k x r
 induction r generalizing i with
 |nil=>intro e;simp at e
 |cons h t ih=>
  intro e
  cases i with
  |zero=>
   have a:=aw (by simpa using e)
   rename_i p q _ _
   obtain⟨b,c⟩:=p
   subst a
   have d:b=k:=h.1
   subst d
   exact⟨c,rfl,h.2⟩
  |succ i=>
   obtain⟨v,f,g⟩:=ih (by simpa using e)
   exact⟨v,by simpa using f,g⟩
end
def Its (z:Str):It:=⟨fun i _=>i<z.cps.size,fun i H x H'=>H'=H/\∃c,z.cps[i]?=some c/\x=.str ⟨#[c]⟩,fun i _=>i=z.cps.size⟩
theorem zGo {P:aP}{w:bc}{K:ae}{M:cb}(it:ai)(z:Str)(t:Tok)(ty:String)(l:["enumerate","zip","dict_itemiterator","dict_reverseitemiterator","odict_iterator","itertools.zip_longest","itertools.pairwise"].contains ty=false)
  (L:∀A:bU,A.handled=none->Walks P w A it [it] [it] z.cps.size (SignAt z) (fun i h=>h.IsStrIter it ty z t i))
  (N:∀(A:bU) (i:Nat) (s:au) (Q:ah->au->Prop) (E:ah->au->Prop),s.heap.IsStrIter it ty z t i->Q (.ref it) s->wpAny (model P w) A (pyIter (.ref it)) Q E s):Turn P w K M (Its z) [it] it (fun i h=>h.IsStrIter it ty z t i) where
 mem:=by simp
 obj:=fun i h st b f=>by
  have e:b=it:=by simpa using f
  subst e
  obtain⟨o,e,c,d⟩:=st
  exact⟨o,e,fun v z=>by rw[d]at z;cases z⟩
 keep:=fun i h h' st k=>let⟨o,e,r⟩:=st;⟨o,k it (by simp) o e,r⟩
 item:=by
  intro X m n p q i a s σ H E I j st x
  subst m n p
  obtain⟨y,f1,f2,B,C,D⟩:=j it (by simp)
  refine(L X.A (I.ok.hd q)).item i s _ _ x st fun v h' F O g G=>?_
  obtain⟨c,u,J,rfl⟩:=O
  have R:Inv X a σ H {s with heap:=h',toks:=F}:=I.turned (fun b o f e=>G b o (by simpa using f) e) y f1 B C D
  obtain⟨o,e,T,od⟩:=id g
  exact⟨_,rfl,zAc (s:={s with heap:=h',toks:=F}) e T od l ⟨.str ⟨#[c]⟩,H,R,⟨u,rfl⟩,⟨rfl,c,J,rfl⟩,g,fun b f=>(j b f).1⟩⟩
 done:=by
  intro X m n p q i a s σ H E I j st x
  subst m n p
  obtain⟨y,f1,f2,B,C,D⟩:=j it (by simp)
  have hi:i=z.cps.size:=x
  subst hi
  exact(L X.A (I.ok.hd q)).done s _ _ st fun h' F G=>⟨rfl,I.turned (fun b o f e=>G b o (by simpa using f) e) y f1 B C D⟩
 self:=N
section
variable{X:Cx}{tg:cb}
def zLp (tl:TE):TI:=fun σ H R=>tl σ H fun x H1=>∃z,x=.str z/\R (Its z) H1
theorem zGp {l:cb}{j:TE}(hl:PE X l j):PI X tg l (zLp j):=by
 intro a s σ H R I h
 refine zK (hl a s σ H _ I h) fun v c ⟨x,f,d,p,z,r,q⟩=>?_
 subst r
 obtain⟨t,rfl⟩:=p
 have m:∀b∈[c.heap.objs.size],u7 X a f b:=fun b u=>by
  have e:b=c.heap.objs.size:=by simpa using u
  subst e
  exact d.fpOk (aH _) (d.hok.fresh (aH _))
 cases n:z.cps.all (· <128)with
 |false=>
  refine wpAny_pyIter_wide n ⟨c.heap.objs.size,[c.heap.objs.size],_,_,f,rfl,d.kept (t':=c.toks) fun b o e=>ag _ e,zGo _ z t "str_iterator" (by decide) (fun A g=>Walks.strWide g _ z t) (fun A i s Q E st h=>wpAny_pyIter_striter_wide st h),⟨_,aZ _ rfl,rfl,rfl⟩,m,q⟩
 |true=>
  refine wpAny_pyIter_ascii n ⟨c.heap.objs.size,[c.heap.objs.size],_,_,f,rfl,d.kept (t':=c.toks) fun b o e=>ag _ e,zGo _ z t "str_ascii_iterator" (by decide) (fun A g=>Walks.strAscii g _ z t) (fun A i s Q E st h=>wpAny_pyIter_striter_ascii st h),⟨_,aZ _ rfl,rfl,rfl⟩,m,q⟩
end
theorem zLq (lo hi:Option Int)(n:Nat):dM lo hi 1 n=dM (some ((HT.sIx n 0 lo:Nat):Int)) (some ((HT.sIx n n hi:Nat):Int)) 1 n:=by
 have hl:=HT.sIx_le n 0 (bX _) lo
 have l:=HT.sIx_le n n (aH _) hi
 have key:∀(o:Option Int) (d:Nat),d<=n->(match o with|none=>(d:Int)|some i=>(let i:=if i<0 then i+(n:Int)else i;max 0 (min i (n:Int))))=((HT.sIx n d o:Nat):Int):=by
  intro o d hd
  cases o with
  |none=>rfl
  |some i=>
   show max 0 (min (if i<0 then i+(n:Int)else i) (n:Int))=(((if i<0 then(i+(n:Int)).toNat else min i.toNat n):Nat):Int)
   by_cases h:i<0
   ·rw[if_pos h,if_pos h];omega
   ·rw[if_neg h,if_neg h];omega
 have m:=key lo 0 (bX _)
 have p:=key hi n (aH _)
 have k1:max (0:Int) (min ((HT.sIx n 0 lo:Nat):Int) (n:Int))=((HT.sIx n 0 lo:Nat):Int):=by omega
 have k2:max (0:Int) (min ((HT.sIx n n hi:Nat):Int) (n:Int))=((HT.sIx n n hi:Nat):Int):=by omega
 have c:¬(((HT.sIx n 0 lo:Nat):Int)<0):=by omega
 have e:¬(((HT.sIx n n hi:Nat):Int)<0):=by omega
 unfold dM
 simp only[show((1:Int)>0)=True from by simp,if_true,c,e,if_false,k1,k2]
 have a:∀i:Int,(max 0 (min (if i<0 then i+(n:Int)else i) (n:Int)))=((HT.sIx n 0 (some i):Nat):Int):=fun i=>key (some i) 0 (bX _)
 have b:∀i:Int,(max 0 (min (if i<0 then i+(n:Int)else i) (n:Int)))=((HT.sIx n n (some i):Nat):Int):=fun i=>key (some i) n (aH _)
 have f:((HT.sIx n 0 none:Nat):Int)=0:=rfl
 have g:((HT.sIx n n none:Nat):Int)=n:=rfl
 cases lo with
 |none=>
  cases hi with
  |none=>rfl
  |some j=>dsimp only;rw[b,f]
 |some i=>
  cases hi with
  |none=>dsimp only;rw[a,g]
  |some j=>
   dsimp only
   have zz:=a i
   rw[zz]
   rw[b]
theorem zLr (x:Str)(lo hi:Option Int):qv x lo hi=⟨((x.cps.toList.drop (HT.sIx x.length 0 lo)).take (HT.sIx x.length x.length hi-HT.sIx x.length 0 lo)).toArray⟩:=by
 have hl:=HT.sIx_le x.length 0 (bX _) lo
 have f:=HT.sIx_le x.length x.length (aH _) hi
 unfold qv
 rw[zLq lo hi]
 generalize HT.sIx x.length 0 lo=a at*
 generalize HT.sIx x.length x.length hi=b at*
 have g:x.cps.toList.length=x.length:=by simp[nu]
 by_cases c:a<=b
 ·have sp:=StrLaws.sliced_plain x c f
  split
  ·rename_i h
   rw[StrLaws.strSliceIndices_plain c f]at h
   have h':b-a=x.length:=by simpa using h
   have i:a=0:=by omega
   have d:b=x.cps.toList.length:=by omega
   subst i
   apply MyS.Str_ext
   show x.cps.toList=((x.cps.toList.drop 0).take (b-0)).toArray.toList
   rw[fY,jo,d,aV]
  ·rw[sp]
 ·have d:b-a=0:=by omega
  have e:dM (some (a:Int)) (some (b:Int)) 1 x.length=[]:=by
   have j:¬((a:Int)<0):=by omega
   have l:¬((b:Int)<0):=by omega
   have m:max (0:Int) (min (a:Int) (x.length:Int))=a:=by omega
   have n:max (0:Int) (min (b:Int) (x.length:Int))=b:=by omega
   simp only[dM,sliceRange,j,l,if_false,m,n,show((1:Int)>0)=True from by simp,if_true]
   rw[if_neg (by omega)]
   rfl
  rw[e,d]
  split
  ·rename_i h
   have h':0=x.length:=by simpa using h
   omega
  ·simp
section
variable{X:Cx}{e:cb}{te:TE}{lo hi:Option cb}{tl th:TO}{pos p2:Pos}
def vS (z:Str)(lo hi:Option Int):Str:=⟨((z.cps.toList.drop (HT.sIx z.length 0 lo)).take (HT.sIx z.length z.length hi-HT.sIx z.length 0 lo)).toArray⟩
def zLs (te:TE)(tl th:TO):TE:=fun σ H Q=>te σ H fun x H1=>tl σ H1 fun l H2=>th σ H2 fun u H3=>∃z,x=.str z/\z.length<=sizeLine/\Q (.str (vS z l u)) H3
theorem qG (n:PE X e te)(hl:PO X lo tl)(p:PO X hi th):PE X (.Subscript e (.Slice lo hi none p2) pos) (zLs te tl th):=by
 intro a s σ H Q I h
 refine nr (zK (n a s σ H _ I h) fun v r ⟨x,y,B,C,D⟩=>?_)
 refine wpAny_Slice (zK (hl a r σ y _ B D) fun E F ⟨l,G,J,L,M⟩=>zK (p a F σ G _ J M) fun N c ⟨u,O,P,m,R⟩=>?_)
 rw[m8]
 refine bf ?_
 obtain⟨z,rfl,d,q⟩:=R
 obtain⟨t,rfl⟩:=C
 have f:KeptH (fun h=>∀b o,c.heap.get? b=some o->h.get? b=some o):=fun h ob g b o q=>ag _ (g b o q)
 have fin:∀h' t' k,(∀b o,c.heap.get? b=some o->h'.get? b=some o)->EP X a σ Q (.str (qv z l u) t') {c with heap:=h',toks:=k}:=fun h' t' k g=>by
  refine⟨.str (vS z l u),O,P.kept g,⟨t',?_⟩,q⟩
  rw[zLr];rfl
 have go:ItemOn (model X.prog X.w) X.A X.xe (.str z t) (.ref c.heap.objs.size) (EP X a σ Q) {c with heap:=c.heap.push {cls:=.type "slice",data:=.fields #[E,N,.none]}}:=by
  cases L with
  |none=>
   cases m with
   |none=>exact SBH.sliceItem_nn f (fun _ _ q=>q) fin d
   |int j U=>exact SBH.sliceItem_ns f (fun _ _ q=>q) fin d
  |int i ui=>
   cases m with
   |none=>exact SBH.sliceItem_sn f (fun _ _ q=>q) fin d
   |int j U=>exact SBH.sliceItem_ss f (fun _ _ q=>q) fin d
 obtain⟨T,id,W,Y,Z⟩:=go
 exact rH (ops:=[.ref c.heap.objs.size,.str z t]) Y W Z (by with_unfolding_all rfl)
end
section
variable{X:Cx}
theorem gQ (m:X.calm=true):uV X (.builtin "all") (fun xs H Q=>∃(p:ai) (bs:List Bool),xs=[.ref p]/\z9 X.K H p (bs.map V.bl)/\Q (.bl (bs.all id)) H):=by
 intro g s σ H xs us Q I r h
 obtain⟨p,bs,rfl,t,q⟩:=h
 obtain⟨u,rfl,w⟩:=jC r
 cases w
 obtain⟨a,d,f,J⟩:=I.list t
 have y:p≠s.heap.objs.size:=by
  obtain⟨o,n,e,_⟩:=f
  exact bH (aM e)
 have c:∀(i:Nat) (v:ah),a.toArray[i]?=some v->v=.bool (bs.getD i false):=fun i v e=>by
  have j:a[i]?=some v:=by simpa using e
  have hl:=d.length
  have hi:i<bs.length:=by
   have:=(aa.mp j).1
   simp at hl;omega
  obtain⟨u,l,B⟩:=d.get (i:=i) (x:=.bl (bs.getD i false)) (by rw[aF];simp[hi])
  rw[j]at l
  cases l
  exact B
 refine call_all_walk (fL f.isList ?_)
 refine⟨s.heap.objs.size,_,_,a.toArray.size,_,_,fun i=>bs.getD i false,rfl,pk (A:=X.A.in1) (I.ok.hd m) _ p y a.toArray,⟨⟨_,aZ _ rfl,rfl,rfl⟩,?_⟩,fun i v s' L M C D=>?_,fun h' E F=>?_⟩
 ·exact f.isList.at fun o e=>ag _ e
 ·rw[c i v C];exact de D
 ·refine⟨.bl (bs.all id),H,I.kept (t':=E) (h':=h') fun b o e=>F b o (fun z=>?_) (ag _ e),?_,q⟩
  ·have:b=s.heap.objs.size:=by simpa using z
   exact absurd (aM e) (by rw[this];exact bO _)
  ·have hl:=d.length
   have hsz:a.toArray.size=bs.length:=by simp at hl;simp[hl]
   have:(bg a.toArray.size).all (fun i=>bs.getD i false)=bs.all id:=by
    rw[hsz]
    rw[eE]
    simp only[cw,bR,id]
    constructor
    ·intro h b G
     obtain⟨i,hi,e⟩:=dv G
     have:=h i hi
     simpa [hi,e]using this
    ·intro h i hi
     have:=h bs[i] (cD hi)
     simpa [hi]using this
   rw[this];rfl
theorem zDm (ns:List Int):∀k,k<=ns.length->preSum (fun i=>ns.getD i 0) k=(ns.take k).sum
 |0,_=>by simp[preSum]
 |k+1,h=>by
  show preSum (fun i=>ns.getD i 0) k+ns.getD k 0=_
  have a:k<ns.length:=h
  rw[zDm ns k (by omega),ak a,oQ]
  simp[a]
theorem zGq (w:X.calm=true):uV X (.builtin "sum") (fun xs H Q=>∃(p:ai) (ns:List Int),xs=[.ref p]/\z9 X.K H p (ns.map V.int)/\Q (.int ns.sum) H):=by
 intro j s σ H xs us Q I r h
 obtain⟨p,ns,rfl,y,q⟩:=h
 obtain⟨u,rfl,z⟩:=jC r
 cases z
 obtain⟨a,d,f,G⟩:=I.list y
 have c:p<s.heap.objs.size:=by
  obtain⟨o,n,e,_⟩:=f
  exact aM e
 have hl:=d.length
 have hsz:a.toArray.size=ns.length:=by simp at hl;simp[hl]
 have B:=zGJ d
 refine nS (fL f.isList ?_)
 refine⟨s.heap.objs.size,_,_,_,a.toArray.size,_,_,fun i=>ns.getD i 0,rfl,(pk (A:=X.A.in1) (I.ok.hd w) _ p (bH c) a.toArray).toS,⟨⟨_,aZ _ rfl,rfl,rfl⟩,?_⟩,fun b g=>?_,fun i v C=>?_,fun s' t' l=>?_⟩
 ·exact f.isList.at fun o e=>ag _ e
 ·show b<(s.heap.push _).objs.size
  rw[size_push']
  rcases aQ.mp g with e|g
  ·rw[e];exact eO _
  ·rw[fC.mp g];exact di c
 ·have m:a[i]?=some v:=by simpa using C
  have hi:i<ns.length:=by
   have:=(aa.mp m).1
   simp at hl;omega
  obtain⟨u,t,D⟩:=d.get (i:=i) (x:=.int (ns.getD i 0)) (by rw[aF];simp[hi])
  rw[m]at t
  cases t
  exact D
 ·have E:∀b o,s.heap.get? b=some o->s'.heap.get? b=some o:=fun b o e=>
   l.heap b o (fun F=>absurd (aM e) (by rw[fC.mp F];exact bO _)) (ag _ e)
  rw[ql l]
  refine⟨.int ns.sum,H,I.kept (h':=s'.heap) (t':=s'.toks) E,⟨t',?_⟩,q⟩
  rw[hsz,zDm ns ns.length (aH _),aV]
def zLt (d:ai):Obj:={cls:=.type "dict_values",data:=.fields #[.ref d]}
def VLS (p d:ai):HO:=.ext fun h=>h.get? p=some (zLt d)
theorem u9:uV X (.builtin "isinstance") (fun xs H Q=>∃x c t b,xs=[x,.ty c]/\TyOf X.K H x t/\bx X.K t (.type c)=some b/\Q (.bl b) H):=by
 intro a s σ H xs us Q I r h
 obtain⟨x,c,t,b,rfl,ty,e,q⟩:=h
 obtain⟨u,i,rfl,d,f⟩:=zAi r
 cases f
 exact zKr I d ty e fun g=>⟨.bl b,H,I.tok g,rfl,q⟩
theorem zLu {a:List Str}:∀{us:List ah},zS (a.map V.str) us->StrsAre us a:=by
 induction a with
 |nil=>intro us r;rw[lR]at r;cases r;exact .nil
 |cons x a ih=>
  intro us r
  rw[ba]at r
  cases r with
  |cons b c=>
   obtain⟨t,e⟩:=b
   subst e
   exact .cons x t (ih c)
def zLv (K:ae):V->List V->Hp->VK->Prop:=fun x vs H Q=>∃(sep:Str) (l:ai) (ss:List Str),x=.str sep/\vs=[.ref l]/\z9 K H l (ss.map V.str)/\(ss.map (·.length)).sum+ss.length*sep.length<=16777216/\Q (.str (nT sep ss)) H
theorem zLw:MtR X "str.join" (zLv X.K):=by
 intro a s σ H x vs v us Q I b c h
 obtain⟨sep,l,d,rfl,rfl,e,f,q⟩:=h
 obtain⟨t,rfl⟩:=b
 obtain⟨u,rfl,g⟩:=jC c
 cases g
 obtain⟨i,j,m,_⟩:=I.list e
 exact join_list m.isList (by simpa using zLu j) f fun t' k=>⟨.str (nT sep d),H,I.tok k,⟨t',rfl⟩,q⟩
theorem zLx (l:List Str):∀a:Array Nat,(l.foldl (fun b p=>b++(⟨#[]⟩:Str).cps++p.cps) a).toList=a.toList++(l.map (·.cps.toList)).flatten:=by
 induction l with
 |nil=>intro a;simp
 |cons x r ih=>intro a;rw[eW,ih];simp
theorem zLy (a:List Str):nT ⟨#[]⟩ a=⟨(a.map (·.cps.toList)).flatten.toArray⟩:=by
 apply MyS.Str_ext
 show((a.drop 1).foldl (fun b p=>b++(⟨#[]⟩:Str).cps++p.cps) (a.headD sG).cps).toList=(a.map (·.cps.toList)).flatten.toArray.toList
 rw[zLx]
 cases a with
 |nil=>rfl
 |cons x r=>simp
def zLz:V->List V->Hp->VK->Prop:=fun x vs H Q=>∃d kvs k v,x=.ref d/\vs=[kV k,v]/\H d=some (.dK kvs)/\kvs.length<sizeLine/\(∀y,yU kvs k=some y->Q y H)/\(yU kvs k=none->Q v (upd H d (.dK (uJ kvs k v))))
theorem zMA:MtM X "dict.setdefault" zLz:=by
 intro i s σ H x vs v us Q I m n h
 obtain⟨d,kvs,k,y,rfl,rfl,hd,G,o,p⟩:=h
 cases m
 obtain⟨u,r,rfl,t,b⟩:=zAi n
 obtain⟨z,j,l,rel,dd⟩:=zBu I.hok hd
 have f:l.length<=sizeLine:=by rw[<-rel.length];exact z
 refine lT jc dd.typeIs PySem.F.entry_dict_setdefault (PySem.F.args_dict_setdefault_3 _ _ _) (kt_meets_setdefault (qL X.prog X.w) d (zAj t) j r) ⟨l,dd,f,fun v' A=>?_,fun B h' c C=>?_⟩
 ·have a:=rel.val k
  rw[A]at a
  cases e:yU kvs k with
  |none=>rw[e]at a;exact a.elim
  |some g=>
   rw[e]at a
   exact⟨g,H,I.tok _,a,o g e⟩
 ·have a:=rel.val k
  rw[B]at a
  cases e:yU kvs k with
  |some g=>rw[e]at a;exact a.elim
  |none=>
   have D:∃q,h'.get? d=some q:=let⟨q,_,_,E,_⟩:=c;⟨q,E⟩
   have hl:(uJ kvs k y).length<=sizeLine:=by have:=zDU kvs k y;omega
   exact⟨y,_,zDV I (by rw[hd];exact True.intro) C D (zGY hl j (rel.put k b) c),b,p e⟩
def zMB:List V->Hp->VK->Prop:=fun xs H Q=>∃d kvs,xs=[.ref d]/\H d=some (.dK (gP kvs))/\(kvs.map (·.1)).Nodup/\kvs.length<64/\
 ∀(out:List Str) (l:ai),out.Perm (kvs.map (·.1))->out.Pairwise (fun a b=>a.cps.toList<b.cps.toList)->H l=none->Q (.ref l) (upd H l (.lst (out.map V.str)))
theorem zMC (hc:X.calm=true):uV X (.builtin "sorted") zMB:=by
 intro J s σ H xs us Q I rx h
 obtain⟨d,kvs,rfl,hd,nd,U,q⟩:=h
 obtain⟨u,rfl,ru⟩:=jC rx
 cases ru
 obtain⟨z,hm,ws,rel,dd⟩:=zBu I.hok hd
 have C:ws.length=kvs.length:=by have:=rel.length;simpa using this.symm
 obtain⟨ep,Y⟩:=dd.dictAt
 refine kg kind_sorted plain_sorted entry_sorted (args_sorted1 _) ?_
 unfold dX.«sorted»
 refine ao (m:=checkCount "sorted" 1 1 _) (bf ?_)
 refine ao (PySem.W.kdu_collect (A:=X.A.in1) (PySem.W.kdl_dict (knd:=qL X.prog X.w) (kvs:=ws) (ep:=ep) hm) (I.ok.hd hc) Y (by rw[C,aR];omega) fun h' tk a hk c=>?_)
 have n:a.toList.length=kvs.length:=by rw[jh];exact c.1.trans C
 have Z:StrsAre a.toList (kvs.map (·.1)):=by
  have L:∀v∈a.toList,∃x t,v=Value.str x t:=fun v hv=>by
   obtain⟨i,hi,e⟩:=dv hv
   obtain⟨k,x,f,F⟩:=c.2 i v (by rw[<-iP,ax hi,e])
   obtain⟨y,f1,_⟩:=KV.get rel f
   rw[aF]at f1
   cases g:kvs[i]? with
   |none=>rw[g]at f1;cases f1
   |some p=>
    rw[g]at f1
    have:(Sum.inr p.1:z0)=k:=(eM (aw f1)).1
    subst this
    have D:kI (Sum.inr p.1) v=true:=F
    rcases jB D with⟨j,t,G,_⟩|⟨w,t,G,z2⟩
    ·cases G
    ·exact⟨w,t,z2⟩
  have e0:=strsAre_map a.toList L
  have:a.toList.map strOf=kvs.map (·.1):=by
   apply lC
   ·simp only[af,n]
   ·intro i h1 M
    have hi:i<a.toList.length:=by simpa using h1
    have ab:i<kvs.length:=by simpa using M
    obtain⟨k,x,f,F⟩:=c.2 i a.toList[i] (by rw[<-iP,ax hi])
    obtain⟨y,f1,_⟩:=KV.get rel f
    rw[aF,ax ab]at f1
    have:(Sum.inr kvs[i].1:z0)=k:=(eM (aw f1)).1
    subst this
    have D:kI (Sum.inr kvs[i].1) a.toList[i]=true:=F
    rcases jB D with⟨j,t,G,_⟩|⟨w,t,G,z2⟩
    ·cases G
    ·have:kvs[i].1=w:=oF G
     rw[f9,f9,z2,this]
     rfl
  rw[this]at e0
  exact e0
 refine ao (lh ?_ (by rw[n,aR];omega))
 generalize hB:h'.objs.size=B
 have N:(h'.push {cls:=.type "list",data:=.seq a.toList.toArray}).get? B=some (seqObj "list" a.toList.toArray 0):=by
  rw[<-hB];exact aZ _ rfl
 refine ao (ll (eP pq ⟨_,N,rfl⟩ oR (MyS.sort_strs (ks:=kvs.map (·.1)) N Z nd (by rw[n];exact U) fun pm M F r O ac aj=>⟨_,rfl,?_⟩) (pz _)))
 refine bf ⟨_,rfl,?_⟩
 rw[n]at r
 have P:∀i∈pm,i<kvs.length:=fun i hi=>bR.mp (r.mem_iff.mp hi)
 have R:∀b o,s.heap.get? b=some o->M.get? b=some o:=fun b o e=>by
  have f:=hk b o e
  refine ac b o ?_ (ag _ f)
  rw[<-hB];exact bH (aM f)
 have T:s.heap.get? B=none:=by
  cases g:s.heap.get? B with
  |none=>rfl
  |some o=>
   have h0:=aM (hk B o g)
   rw[hB]at h0
   exact absurd h0 (bO _)
 have jQ:upd H B (.lst ((pm.map fun i=>(kvs.map (·.1)).getD i ⟨#[]⟩).map V.str))=jH H [(B,.lst ((pm.map fun i=>(kvs.map (·.1)).getD i ⟨#[]⟩).map V.str))]:=by
  funext b
  unfold upd jH
  by_cases hb:b=B
  ·subst hb;simp
  ·have al:(b==B)=false:=by simpa using hb
   rw[if_neg hb,bT,al]
   rfl
 have IM:Inv X J σ (jH H [(B,.lst ((pm.map fun i=>(kvs.map (·.1)).getD i ⟨#[]⟩).map V.str))]) {s with heap:=M,toks:=tk}:=by
  refine I.many R (fun p hp=>?_) fun p hp=>?_
  ·rcases aQ.mp hp with e|e
   ·rw[e];exact T
   ·cases e
  ·rcases aQ.mp hp with e|e
   ·subst e
    refine⟨?_,(pm.map fun i=>a.toList.getD i Value.none),_,?_,aj⟩
    ·show(sN V.str (pm.map _)).length<=_
     rw[af,af,r.length_eq,bh,aR];omega
    ·have go:∀l:List Nat,(∀i∈l,i<kvs.length)->zS ((l.map fun i=>(kvs.map (·.1)).getD i ⟨#[]⟩).map V.str) (l.map fun i=>a.toList.getD i Value.none):=by
      intro l
      induction l with
      |nil=>intro _;exact .nil
      |cons i l ih=>
       intro hl
       have hi:=hl i (ar ..)
       have E:i<a.toList.length:=by omega
       refine .cons ?_ (ih fun j hj=>hl j (aG _ hj))
       obtain⟨x,t,e⟩:=Z.all a.toList[i] (cD E)
       refine⟨t,?_⟩
       have f:a.toList.getD i Value.none=a.toList[i]:=by
        rw[br,ax E];rfl
       have F:(kvs.map (·.1)).getD i ⟨#[]⟩=x:=by
        rw[<-Z.strs,br,aF,ax E,e];rfl
       dsimp only
       rw[f,F,e]
     exact go pm P
   ·cases e
 refine⟨.ref B,_,IM,rfl,?_⟩
 rw[<-jQ]
 refine q _ B ?_ ?_ (I.hok.free T)
 ·have f:(bg kvs.length).map (fun i=>(kvs.map (·.1)).getD i (⟨#[]⟩:Str))=kvs.map (·.1):=by
   apply lC
   ·simp
   ·intro i h1 M
    have hi:i<kvs.length:=by simpa using h1
    simp[hi]
  have:=r.map (fun i=>(kvs.map (·.1)).getD i (⟨#[]⟩:Str))
  rw[f]at this
  exact this
 ·rw[dy]
  rw[dy]at O
  exact O
theorem zMD:yN X (binaryOp .Add) (fun x y H Q=>∃a b ys,x=.ref a/\y=.ref b/\yH X.K H a []/\yH X.K H b ys/\Q (.ref b) H):=by
 intro l s σ H x y v u Q I r t h
 obtain⟨a,b,ys,rfl,rfl,w,z,q⟩:=h
 cases r
 cases t
 obtain⟨g,A,B,_⟩:=I.tuple w
 obtain⟨c,G,C,_⟩:=I.tuple z
 have D:g=[]:=by cases A;rfl
 subst D
 obtain⟨⟨cls,dd,data,E⟩,m,o,n,hd⟩:=id B
 obtain⟨⟨p,i,data2,j⟩,d,e,F,f⟩:=id C
 simp only at o hd e f
 subst o hd e f
 exact nN ⟨_,m,rfl⟩ ⟨_,d,rfl⟩ lA m7 iB iq (gx _ _)
  (tuple_addW0 a b _ c.toArray n F dd i E j (by simp)) ⟨m,d,⟨.ref b,H,I,rfl,q⟩⟩
end
structure Known (J:It) (items:List V) (Hk:Hp->Prop):Prop where
 go:∀i H,Hk H->i<items.length->J.go i H
 yld:∀i H x H',Hk H->J.yld i H x H'->H'=H/\(i<items.length->items[i]?=some x)
 stop:∀H,Hk H->J.stop items.length H
theorem qA (lo:Int)(n:Nat):Known (Itr lo n) ((bg n).map fun(i:Nat)=>V.int (lo+(i:Int))) (fun _=>True) :=
 ⟨fun i H _ h=>by show i<n;simpa using h,fun i H x H' _ h=>⟨h.1,fun hi=>by
  have a:i<n:=by simpa using hi
  rw[aF,cy a,h.2];rfl⟩,fun H _=>by show n<=_;simp⟩
theorem vH (K:ae)(a:ai)(xs:List V):Known (Itl K a) xs (fun H=>z9 K H a xs) :=
 ⟨fun i H h hi=>⟨xs,xs[i],h,ax hi⟩,fun i H x H' h y=>⟨y.1,fun _=>y.2 xs h⟩,fun H h=>⟨xs,h,aH _⟩⟩
theorem zAp (K:ae)(a:ai)(xs:List V):Known (Itt K a) xs (fun H=>yH K H a xs) :=
 ⟨fun i H h hi=>⟨xs,xs[i],h,ax hi⟩,fun i H x H' h y=>⟨y.1,fun _=>y.2 xs h⟩,fun H h=>⟨xs,h,aH _⟩⟩
theorem zGr (z:Str):Known (Its z) (z.cps.toList.map fun c=>V.str ⟨#[c]⟩) (fun _=>True) :=
 ⟨fun i H _ h=>by show i<z.cps.size;simpa using h,fun i H x H' _ h=>⟨h.1,fun _=>by
  obtain⟨c,a,b⟩:=h.2
  rw[aF,iP,a,b];rfl⟩,fun H _=>by show _=z.cps.size;simp⟩
theorem kZ {J:It}{items:List V}{Hk:Hp->Prop}(u:Known J items Hk){caps:List Nat}{n:Nat}{σ:St}{g:TG}{C:TT}{D:TE}{F:List V->Hp->Prop}{E:Hp}(j:St)(k:Nat)(P:items.length<1000)
  (Pv:Nat->List V->Hp->Prop) (G:Pv 0 [] E) (I:∀i a H,i<=items.length->Pv i a H->Hk H/\a.length<=i)
  (l:∀(i:Nat) (x:V) (a:List V) (H:Hp) (ys:St) (v:List V->St->Hp->Prop),(∀c H' t,t.length=k->Pv (i+1) c H'->v c (j++t) H')->items[i]?=some x->ys.length=k->Pv i a H->
   g x (j++ys) H fun d w=>C d w fun b o=>if b=true then D d o fun y h=>v (a++[y]) d h else v a d o)
  (fin:∀a H,Pv items.length a H->F a H) (z:uM caps n σ=j++aU k none:=by rfl) :
  ∃W:Nat->Nat->List V->St->Hp->Prop,(∃m,W 0 m [] (uM caps n σ) E)/\∀i m a q H',W i m a q H'->
   (J.stop i H'/\F a H')\/
   (J.go i H'/\a.length<sizeLine/\∀x r,J.yld i H' x r->g x q r fun d w=>C d w fun b o=>if b=true then D d o fun y h=>∃f,f<m/\W (i+1) f (a++[y]) d h else∃f,f<m/\W (i+1) f a d o):=by
 refine⟨fun i m a q H'=>i<=items.length/\m=items.length-i/\(∃ys,ys.length=k/\q=j++ys)/\Pv i a H',⟨items.length,bX _,rfl,⟨_,by simp,z⟩,G⟩,?_⟩
 rintro i m a q H' ⟨hi,rfl,⟨ys,L,rfl⟩,pv⟩
 obtain⟨A,Q⟩:=I i a H' hi pv
 by_cases e:i=items.length
 ·subst e
  exact .inl ⟨u.stop H' A,fin a H' pv⟩
 ·have s:i<items.length:=by omega
  refine .inr ⟨u.go i H' A s,by rw[aR];omega,fun x r B=>?_⟩
  obtain⟨M,N⟩:=u.yld i H' x r A B
  subst M
  exact l i x a r ys (fun c d h=>∃f,f<items.length-i/\(i+1<=items.length/\f=items.length- (i+1)/\(∃ys,ys.length=k/\d=j++ys)/\Pv (i+1) c h)) (fun c h t O p=>⟨items.length- (i+1),by omega,by omega,rfl,⟨t,O,rfl⟩,p⟩) (N s) L pv
theorem vT {J:It}{items:List V}{Hk:Hp->Prop}(A:Known J items Hk){caps:List Nat}{n:Nat}{σ:St}{g:TG}{r:TE}{F:List V->Hp->Prop}{u:Hp}(s:St)(k:Nat)(B:items.length<1000)
  (Pv:Nat->List V->Hp->Prop) (C:Pv 0 [] u) (D:∀i a H,i<=items.length->Pv i a H->Hk H/\a.length<=i)
  (l:∀(i:Nat) (x:V) (a:List V) (H:Hp) (ys:St) (h:List V->St->Hp->Prop),(∀d H' v,v.length=k->Pv (i+1) d H'->h d (s++v) H')->items[i]?=some x->ys.length=k->Pv i a H->
   g x (s++ys) H fun c f=>r c f fun y j=>h (a++[y]) c j)
  (fin:∀a H,Pv items.length a H->F a H) (t:uM caps n σ=s++aU k none:=by rfl) :
  ∃W:Nat->Nat->List V->St->Hp->Prop,(∃m,W 0 m [] (uM caps n σ) u)/\∀i m a w H',W i m a w H'->
   (J.stop i H'/\F a H')\/
   (J.go i H'/\a.length<sizeLine/\∀x z,J.yld i H' x z->g x w z fun c f=>zAm c f fun b o=>if b=true then r c o fun y j=>∃q,q<m/\W (i+1) q (a++[y]) c j else∃q,q<m/\W (i+1) q a c o):=by
 refine kZ A s k B Pv C D (fun i x a H ys h E G I p=>?_) fin t
 have:=l i x a H ys h E G I p
 have e:(fun(c:St) (f:Hp)=>zAm c f fun b o=>if b=true then r c o fun y j=>h (a++[y]) c j else h a c o)=fun c f=>r c f fun y j=>h (a++[y]) c j:=by
  funext c f
  unfold zAm
  exact if_pos rfl
 rw[e]
 exact this
theorem uG {J:It}{items:List V}{Hk:Hp->Prop}(f:Known J items Hk){g:TG}{o:TS}{D:Ends}{σ:St}{H:Hp}(Pv:Nat->St->Hp->Prop)(r:Pv 0 σ H)(s:∀i σ H,i<=items.length->Pv i σ H->Hk H)
  (c:∀(i:Nat) (x:V) (σ:St) (H:Hp) (h:St->Hp->Prop),(∀a H',Pv (i+1) a H'->h a H')->items[i]?=some x->Pv i σ H->g x σ H fun j b=>o {D with nx:=h,ct:=h,bk:=D.nx} j b)
  (fin:∀σ H,Pv items.length σ H->D.nx σ H) :
  ∃W:Nat->Nat->St->Hp->Prop,(∃m,W 0 m σ H)/\∀i m σ H,W i m σ H->
   (J.stop i H/\D.nx σ H)\/(J.go i H/\∃N:St->Hp->Prop,(∀a H',N a H'->∃q,q<m/\W (i+1) q a H')/\∀x H',J.yld i H x H'->g x σ H' fun j b=>o {D with nx:=N,ct:=N,bk:=D.nx} j b):=by
 refine⟨fun i m σ H=>i<=items.length/\m=items.length-i/\Pv i σ H,⟨items.length,bX _,rfl,r⟩,?_⟩
 rintro i m σ H ⟨hi,rfl,pv⟩
 have l:=s i σ H hi pv
 by_cases e:i=items.length
 ·subst e
  exact .inl ⟨f.stop H l,fin σ H pv⟩
 ·have d:i<items.length:=by omega
  refine .inr ⟨f.go i H l d,Pv (i+1),fun a H' p=>⟨items.length- (i+1),by omega,by omega,rfl,p⟩,fun x b n=>?_⟩
  obtain⟨t,u⟩:=f.yld i H x b l n
  subst t
  exact c i x σ b (Pv (i+1)) (fun _ _ p=>p) (u d) pv
theorem vY {c A B:Prop} [Decidable c] (a:c)(h:A):if decide c=true then A else B:=by
 rw[if_pos (decide_eq_true a)];exact h
theorem v4 {c A B:Prop} [Decidable c] (a:¬c)(h:B):if decide c=true then A else B:=by
 rw[if_neg (fun z=>a (of_decide_eq_true z))];exact h
theorem zA.upd_new {H H':Hp}{a:ai}{o:HO}(e:zA H H')(h:H a=none):zA H (upd H' a o):=fun b u q=>by
 rw[zN (vJ q h)];exact e b u q
theorem zA.upd1 {H:Hp}{a:ai}{o:HO}(h:H a=none):zA H (upd H a o):=(zA.refl H).upd_new h
def zBP (sc:dS)(XN N:List Str)(scope:dS):Nat->List Nat->Bool
 |_,[]=>true
 |i,c::cs=>(match N[i]? with
  |some x=>decide (XN[c]?=some x)&&decide (scope.names.lookup x=some .free)&& (decide (sc.names.lookup x=some .cell)||decide (sc.names.lookup x=some .free))
  |none=>false)&&zBP sc XN N scope (i+1) cs
def zGs (sc:dS)(XN N:List Str)(scope:dS)(caps:List Nat):Bool :=
 decide (scope.kind=.function)&&decide N.Nodup&&scope.names.all (fun y=>decide (y.2≠.cell))&&scope.names.all (fun y=>decide (y.2=.local->scope.names.lookup y.1=some .local))&&
 scope.names.all (fun y=>decide (y.2=.free->sc.names.lookup y.1=some .cell\/sc.names.lookup y.1=some .free))&&zBP sc XN N scope 0 caps&&decide (caps.length<=N.length)
theorem zDn {g:dS}{l N:List Str}{scope:dS}:∀{caps:List Nat}{j:Nat},zBP g l N scope j caps=true->∀i,i<caps.length->
  ∃x,N[j+i]?=some x/\l[caps.getD i 0]?=some x/\scope.names.lookup x=some .free/\(g.names.lookup x=some .cell\/g.names.lookup x=some .free)
 | [],_,_,i,hi=>by simp at hi
 |c::o,j,h,i,hi=>by
  unfold zBP at h
  rw[bz]at h
  obtain⟨f,m⟩:=h
  cases i with
  |zero=>
   cases e:N[j]? with
   |none=>rw[e]at f;cases f
   |some x=>
    rw[e]at f
    simp only[bz,oS,decide_eq_true_eq]at f
    exact⟨x,by simpa using e,by simpa using f.1.1,f.1.2,f.2⟩
  |succ i=>
   obtain⟨x,a,b,n,d⟩:=zDn m i (by simpa using hi)
   exact⟨x,by rw[<-a];congr 1;omega,by simpa using b,n,d⟩
theorem yT {j:dS}{l N:List Str}{scope:dS}{caps:List Nat}(h:zGs j l N scope caps=true):CompScope j l N scope caps:=by
 unfold zGs at h
 simp only[bz,decide_eq_true_eq,cw]at h
 obtain⟨⟨⟨⟨⟨⟨a,b⟩,c⟩,d⟩,e⟩,f⟩,g⟩:=h
 exact⟨a,b,c,d,e,fun i hi=>by simpa using zDn f i hi,g⟩
section
variable{X:Cx}{pins:List (ai×Obj)}{σ:St}{H:Hp}{s:au}
theorem Inv.turnedT {fp:List ai}{h':bK}{t':Nat}{T:ai}{o:HO}(I:Inv X pins σ H s)(k:∀b u,b∉fp->s.heap.get? b=some u->h'.get? b=some u)(h:∀b∈fp,u7 X pins H b)(i:s.heap.get? T=none)
  (new:yZ X.prog X.w (upd H T o) h' T o):Inv X pins σ (upd H T o) {s with heap:=h',toks:=t'}:=by
 have j:H T=none:=I.hok.free i
 have d:∀b u,H b=some u->b∉fp:=fun b u e z=>by rw[(h b z).1]at e;cases e
 have f:zA H (upd H T o):=zA.upd1 j
 have old:∀b (u:Obj),s.heap.get? b=some u->upd H T o b=H b:=fun b u e=>by
  rw[zN]
  rintro rfl
  rw[i]at e;cases e
 refine I.step (g':=s.gens) (d':=s.drawn) (ch:=fp) (fun b g=>?_) (fun b o _ _ a e _=>k b o a e) (fun b o _ _ a e _=>⟨o.slots,k b o a e⟩) (fun b u _ e n=>by rw[old b u e];exact n)
  (fun b o a e=>⟨o,k b o a e⟩) (fun b xs e=>f _ _ e) (fun b u v e=>f _ _ e) (fun b B e=>⟨#[],by rw[f _ _ e];simp⟩) (fun m l=>?_) (fun b u e=>?_) I.bare
 ·obtain⟨C,f1,f2,p,t,x⟩:=h b g
  exact⟨p,f1,t,x⟩
 ·obtain⟨o,y,ep,A,r⟩:=l
  exact⟨o,y,ep,k _ o (fun z=>(h _ z).2.1 rfl) A,r⟩
 ·by_cases g:b=T
  ·subst g;rw[zD]at e;cases e;exact new
  ·rw[zN g]at e
   refine(I.hok b u e).stay (fun c v a q=>k c v ?_ q) (fun c q=>?_) fun c xs q=>?_
   ·rcases a with z|z
    ·rw[z];exact d b u e
    ·exact d c _ z
   ·exact f _ _ q
   ·exact f _ _ q
end
def Ite (K:ae)(a:ai):It :=
 ⟨fun i H=>∃xs x,z9 K H a xs/\xs[i]?=some x,fun i H x H'=>∃T y,x=.ref T/\H T=none/\H'=upd H T (.tup [.int i,y])/\∀xs,z9 K H a xs->xs[i]?=some y,fun i H=>∃xs,z9 K H a xs/\xs.length=i⟩
theorem zME {P:aP}{w:bc}{K:ae}{F:List cb}{k:Nat}{pos:Pos}(a e it:ai)(r:e≠it):Turn P w K (.Tuple F k pos) (Ite K a) [e,it] e (fun i h=>(∃old,IsEnum h e it i old)/\h.IsListIter it a i) where
 mem:=by simp
 obj:=fun i h st b l=>by
  obtain⟨⟨old,j⟩,hit⟩:=st
  rcases aQ.mp l with z|z
  ·subst z;exact⟨_,j,fun v z=>by cases z⟩
  ·have W:b=it:=by simpa using z
   subst W
   obtain⟨o,e,c,d⟩:=hit
   exact⟨o,e,fun v z=>by rw[d]at z;cases z⟩
 keep:=fun i h h' st kk=>⟨let⟨old,j⟩:=st.1;⟨old,kk e (by simp) _ j⟩,st.2.at fun o x=>kk it (by simp) o x⟩
 item:=by
  intro X G Y Z hc i J s σ H E I O st hg
  subst G Y Z
  obtain⟨xs,x,R,hx⟩:=hg
  obtain⟨f,rv,p,hz⟩:=I.list R
  obtain⟨u,hu,ru⟩:=rv.get hx
  obtain⟨⟨old,j⟩,hit⟩:=id st
  have ab:e≠a:=fun z=>by
   subst z
   obtain⟨o,C,m,_⟩:=p.isList
   rw[j]at C;cases C
   have ac:Value.type "enumerate"=Value.type "list" :=m
   exact absurd ac (by decide)
  have t:a≠it:=fun z=>by
   subst z
   obtain⟨o,C,m,_⟩:=p.isList
   obtain⟨o',n,L,_⟩:=hit
   rw[C]at n;cases n;rw[m]at L;exact absurd L (by decide)
  have D:=lW (prog:=X.prog) (w:=X.w) (A:=X.A.in1) (show X.A.in1.handled=none from I.ok.hd hc) it a t f.toArray
  have aj:i<f.toArray.size:=by
   have:=(aa.mp hu).1
   simpa using this
  refine lD D j ⟨hit,p.isList⟩ aj r (by simp[r,ab]) fun T h' U G ho al hT hsz hk=>?_
  have am:T=u:=by
   have:f[i]?=some T:=by simpa using G
   rw[hu]at this;exact(aw this).symm
  subst am
  refine⟨_,rfl,kc ho fun m an y=>?_⟩
  have B:s.heap.get? s.heap.objs.size=none:=by
   cases g:s.heap.get? s.heap.objs.size with
   |none=>rfl
   |some o=>exact absurd (aM g) (bO _)
  have M:e<s.heap.objs.size:=aM j
  have ap:m.get? s.heap.objs.size=some {cls:=.type "tuple",data:=.seq #[.int i U,T]}:=(y.2 _ (dY M)).trans hT
  refine⟨.ref s.heap.objs.size,upd H s.heap.objs.size (.tup [.int i,x]),I.turnedT (fp:=[e,it]) (h':=m) (t':=U+1) (fun b o l q=>?_) O B ⟨by show 2<=sizeLine;decide,[.int i U,T],.cons ⟨U,rfl⟩ (.cons ru .nil),⟨_,ap,rfl,_,rfl⟩⟩,rfl,
   ⟨_,x,rfl,I.hok.free B,rfl,fun ys hy=>by rw[I.list_inj hy R];exact hx⟩,⟨⟨_,by simpa using an⟩,al.1.at fun o q=>(y.2 it (d9 r)).trans q⟩,fun b l=>?_⟩
  ·have N:b≠e:=fun z=>l (by simp[z])
   have as:b≠it:=fun z=>l (by simp[z])
   exact(y.2 b N).trans (hk b o N as q)
  ·rw[zN]
   ·exact(O b l).1
   ·rintro rfl
    rcases aQ.mp l with z|z
    ·exact absurd M (by rw[z];exact bO _)
    ·have W:s.heap.objs.size=it:=by simpa using z
     obtain⟨o,n,_⟩:=hit
     rw[<-W,B]at n;cases n
 done:=by
  intro X G Y Z hc i J s σ H E I O st hg
  subst G Y Z
  obtain⟨xs,R,hx⟩:=hg
  obtain⟨f,rv,p,hz⟩:=I.list R
  obtain⟨⟨old,j⟩,hit⟩:=id st
  have hl:=rv.length
  have t:a≠it:=fun z=>by
   subst z
   obtain⟨o,C,m,_⟩:=p.isList
   obtain⟨o',n,L,_⟩:=hit
   rw[C]at n;cases n;rw[m]at L;exact absurd L (by decide)
  have D:=lW (prog:=X.prog) (w:=X.w) (A:=X.A.in1) (show X.A.in1.handled=none from I.ok.hd hc) it a t f.toArray
  obtain⟨f0,f1,f2,f3,f4,f5⟩:=O it (by simp)
  have hi:f.toArray.size=i:=by rw[aY];omega
  refine lX D j ⟨by rw[hi];exact hit,p.isList⟩ fun h' eb=>⟨rfl,I.turned (t':=s.toks) (fun b o l e=>eb b o l e) f0 f1 f3 f4 f5⟩
 self:=fun A i s Q E st h=>let⟨old,j⟩:=st.1;iG j h
section
variable{X:Cx}{elts:List cb}{k:Nat}{tpos:Pos}
def zMF (K:ae)(ta:TA):TI:=fun σ H R=>ta σ H fun vs H1=>∃a xs,vs=[.ref a]/\H1 a=some (.lst xs)/\R (Ite K a) H1
theorem zDo {e:cb}{i:TA}{p pos:Pos}(m:Gl X "enumerate")(o:X.mg "enumerate"=none)(t:PA X [e] i)(v:starEach [e] X.env=[(false,eval e X.env)]:=by rfl):PI X (.Tuple elts k tpos) (.Call (.Name "enumerate" p) [e] [] pos) (zMF X.K i):=by
 intro c s σ H R I h
 refine qu (kN I m o pA (cK (zK (t pos c s σ H _ I h) fun us d ⟨vs,j,g,w,x⟩=>?_) v rfl))
 obtain⟨a,xs,rfl,hl,q⟩:=x
 obtain⟨u,rfl,y⟩:=jC w
 cases y
 obtain⟨z,A,n,r,B⟩:=g.hok a _ hl
 refine call_enumerate_1 B fun h' l hit hsz C=>?_
 have D:Inv X c σ j {d with heap:=h'}:=g.kept (t':=d.toks) C
 refine iG l ⟨_,[d.heap.objs.size+1,d.heap.objs.size],_,_,j,rfl,D,zME a _ _ (Nat.succ_ne_self _),⟨⟨_,l⟩,hit⟩,fun b E=>?_,q⟩
 have f:d.heap.objs.size<=b:=by
  rcases aQ.mp E with z|z
  ·rw[z];exact mI _
  ·have:b=d.heap.objs.size:=by simpa using z
   rw[this];exact aH _
 exact g.fpOk f (g.hok.fresh f)
theorem zMG {K:ae}{a:ai}{xs:List V}{g:TG}{o:TS}{D:Ends}{σ:St}{H:Hp}(Pv:Nat->St->Hp->Prop)(r:Pv 0 σ H)(s:∀i σ H,i<=xs.length->Pv i σ H->z9 K H a xs)
  (c:∀(i:Nat) (x:V) (T:ai) (σ:St) (H:Hp) (f:St->Hp->Prop),(∀b H',Pv (i+1) b H'->f b H')->xs[i]?=some x->Pv i σ H->H T=none->g (.ref T) σ (upd H T (.tup [.int i,x])) fun h d=>o {D with nx:=f,ct:=f,bk:=D.nx} h d)
  (fin:∀σ H,Pv xs.length σ H->D.nx σ H) :
  ∃W:Nat->Nat->St->Hp->Prop,(∃m,W 0 m σ H)/\∀i m σ H,W i m σ H->
   ((Ite K a).stop i H/\D.nx σ H)\/((Ite K a).go i H/\∃N:St->Hp->Prop,(∀b H',N b H'->∃q,q<m/\W (i+1) q b H')/\∀x H',(Ite K a).yld i H x H'->g x σ H' fun h d=>o {D with nx:=N,ct:=N,bk:=D.nx} h d):=by
 refine⟨fun i m σ H=>i<=xs.length/\m=xs.length-i/\Pv i σ H,⟨xs.length,bX _,rfl,r⟩,?_⟩
 rintro i m σ H ⟨hi,rfl,pv⟩
 have j:=s i σ H hi pv
 by_cases e:i=xs.length
 ·subst e
  exact .inl ⟨⟨xs,j,rfl⟩,fin σ H pv⟩
 ·have l:i<xs.length:=by omega
  refine .inr ⟨⟨xs,xs[i],j,ax l⟩,Pv (i+1),fun b H' p=>⟨xs.length- (i+1),by omega,by omega,rfl,p⟩,fun x d n=>?_⟩
  obtain⟨T,y,rfl,t,rfl,u⟩:=n
  exact c i y T σ H (Pv (i+1)) (fun _ _ p=>p) (u xs j) pv t
end
end L2
end
section
set_option autoImplicit false
namespace Kn
abbrev S:=List Nat
section
variable{κ α:Type} [DecidableEq κ]
def yA:List (κ×α)->κ->α->List (κ×α)
 | [],k,v=>[(k,v)]
 |(k',v')::r,k,v=>if k'=k then(k',v)::r else(k',v')::yA r k v
def zV:List (κ×α)->κ->Option α
 | [],_=>none
 |(k',v')::r,k=>if k'=k then some v' else zV r k
theorem zCB (l:List (κ×α))(k a:κ)(v:α):zV (yA l k v) a=if k=a then some v else zV l a:=by
 induction l with
 |nil=>simp[yA,zV]
 |cons p r ih=>
  obtain⟨k0,v0⟩:=p
  by_cases h:k0=k
  ·subst h
   by_cases h':k0=a<;>simp[yA,zV,h']
  ·simp only[yA,if_neg h,zV,ih]
   by_cases b:k0=a
   ·subst b
    rw[if_pos rfl,if_pos rfl,if_neg (fun e=>h e.symm)]
   ·rw[if_neg b,if_neg b]
theorem zMH (l:List (κ×α))(k:κ)(v:α):(yA l k v).map (·.1)=if k∈l.map (·.1)then l.map (·.1)else l.map (·.1)++[k]:=by
 induction l with
 |nil=>simp[yA]
 |cons p r ih=>
  obtain⟨k0,v0⟩:=p
  by_cases h:k0=k
  ·subst h;simp[yA]
  ·have h':¬k=k0:=fun e=>h e.symm
   simp only[yA,if_neg h,ba,ih,aQ,h',false_or]
   split<;>simp
theorem zDp {l:List (κ×α)}{k:κ}{v:α}(h:(l.map (·.1)).Nodup):((yA l k v).map (·.1)).Nodup:=by
 rw[zMH]
 split
 ·exact h
 ·rename_i c
  exact iH.mpr ⟨h,by simp,fun a d b f e=>by
   have:b=k:=by simpa using f
   subst this;subst e;exact c d⟩
theorem k8 {l:List (κ×α)}(h:(l.map (·.1)).Nodup)(k:κ)(v:α):(k,v)∈l↔zV l k=some v:=by
 induction l with
 |nil=>simp[zV]
 |cons p r ih=>
  obtain⟨k0,v0⟩:=p
  have a:k0∉r.map (·.1):=(cx.mp h).1
  have b:=ih (cx.mp h).2
  by_cases e:k0=k
  ·subst e
   have g:zV ((k0,v0)::r) k0=some v0:=by simp[zV]
   rw[g,aQ]
   constructor
   ·rintro(z|z)
    ·rw[(eM z).2]
    ·exact absurd (mW (f:=(·.1)) z) a
   ·intro z;rw[aw z];exact .inl rfl
  ·simp only[zV,if_neg e,aQ,Prod.mk.injEq]
   rw[<-b]
   constructor
   ·rintro(z|z)
    ·exact absurd z.1.symm e
    ·exact z
   ·intro z;exact .inr z
theorem zCC {l:List (κ×α)}{k:κ}:zV l k=none↔k∉l.map (·.1):=by
 induction l with
 |nil=>simp[zV]
 |cons p r ih=>
  obtain⟨k0,v0⟩:=p
  by_cases e:k0=k
  ·subst e;simp[zV]
  ·have a:¬k=k0:=fun z=>e z.symm
   simp only[zV,if_neg e,ih,ba,aQ,a,false_or]
end
def vV (row:List (S×Int))(l:S):List (S×Int):=yA row l ((zV row l).getD 0+1)
def qX (rows:List (S×List (S×Int)))(p:S×S):List (S×List (S×Int)):=yA rows p.1 (vV ((zV rows p.1).getD []) p.2)
def qP (ps:List (S×S)):List (S×List (S×Int)):=ps.foldl qX []
theorem zMI (a:List (S×S))(p:S×S):qP (a++[p])=qX (qP a) p:=by
 unfold qP;rw[iI];rfl
def zO (t:S)(o:Nat):S:=t.drop (t.length-o)
def zM (o:Nat)(nm:S):List (S×S):=(bg (nm.length+1)).map fun p=>(zO (nm.take p) o,(nm.drop p).take 1)
def zJ (o:Nat)(bk:List S):List (S×S):=bk.flatMap (zM o)
structure RowsOk (ps:List (S×S)) (rows:List (S×List (S×Int))):Prop where
 nd:(rows.map (·.1)).Nodup
 ndr:∀e row,(e,row)∈rows->(row.map (·.1)).Nodup
 val:∀e l,zV ((zV rows e).getD []) l=if 0<ps.count (e,l)then some (ps.count (e,l):Int)else none
 has:∀e,(∃row,zV rows e=some row)↔∃l,(e,l)∈ps
theorem zAq (c:List (S×S)):RowsOk c (qP c):=by
 suffices h:∀(i c:List (S×S)) rows,RowsOk c rows->RowsOk (c++i) (i.foldl qX rows) by
  have:=h c [] [] ⟨by simp,by simp,by simp[zV],by simp[zV]⟩
  simpa [qP]using this
 intro i
 induction i with
 |nil=>intro c rows h;simpa using h
 |cons q i ih=>
  intro c rows h
  obtain⟨a,b⟩:=q
  have step:RowsOk (c++[(a,b)]) (qX rows (a,b)):=by
   have j:((((zV rows a).getD []).map (·.1))).Nodup:=by
    cases g:zV rows a with
    |none=>simp
    |some row=>exact h.ndr a row ((k8 h.nd a row).mpr g)
   refine⟨zDp h.nd,fun e row n=>?_,fun e l=>?_,fun e=>?_⟩
   ·have d:=(k8 (zDp h.nd) e row).mp n
    unfold qX at d
    rw[zCB]at d
    split at d
    ·have:=aw d
     rw[<-this]
     exact zDp j
    ·exact h.ndr e row ((k8 h.nd e row).mpr d)
   ·unfold qX
    rw[zCB]
    by_cases f:a=e
    ·subst f
     rw[if_pos rfl]
     show zV (vV ((zV rows a).getD []) b) l=_
     unfold vV
     rw[zCB,h.val a b]
     by_cases hl:b=l
     ·subst hl
      rw[if_pos rfl,km]
      have m:ik (a,b) [(a,b)]=1:=by simp
      rw[m]
      by_cases o:0<ik (a,b) c
      ·simp[o]
      ·have:ik (a,b) c=0:=by omega
       simp[this]
     ·rw[if_neg hl,h.val a l,km]
      have m:ik (a,l) [(a,b)]=0:=by
       simp[oU,hl]
      rw[m,rg]
    ·rw[if_neg f]
     rw[h.val e l,km]
     have m:ik (e,l) [(a,b)]=0:=by
      simp[oU,f]
     rw[m,rg]
   ·unfold qX
    rw[zCB]
    by_cases f:a=e
    ·subst f
     rw[if_pos rfl]
     exact⟨fun _=>⟨b,by simp⟩,fun _=>⟨_,rfl⟩⟩
    ·rw[if_neg f,h.has e]
     constructor
     ·rintro⟨l,hl⟩;exact⟨l,bS _ hl⟩
     ·rintro⟨l,hl⟩
      rcases bP.mp hl with z|z
      ·exact⟨l,z⟩
      ·have:(e,l)=(a,b):=by simpa using z
       exact absurd (congrArg nU this).symm f
  have:=ih (c++[(a,b)]) (qX rows (a,b)) step
  simpa using this
def Ris {α:Type}(xs:List (S×α)):Prop:=xs.Pairwise fun a b=>a.1<b.1
theorem gR (a:S):¬a<a:=fX a
theorem zDq {a b c:S}(d:a<b)(e:b<c):a<c:=m9 d e
theorem Ris.keys {α:Type}{xs:List (S×α)}(h:Ris xs):(xs.map (·.1)).Nodup:=by
 unfold Ris at h
 rw[nz,dy]
 exact h.imp fun{a b} c (e:a.1=b.1)=>gR b.1 (e▸c)
structure IsRow (ps:List (S×S)) (e:S) (xs:List (S×Int)):Prop where
 ris:Ris xs
 mem:∀l n,(l,n)∈xs↔n=(ps.count (e,l):Int)/\0<n
structure IsTable (ps:List (S×S)) (tb:List (S×List (S×Int))):Prop where
 ris:Ris tb
 has:∀e,(∃xs,(e,xs)∈tb)↔∃l,(e,l)∈ps
 row:∀e xs,(e,xs)∈tb->IsRow ps e xs
theorem zCD {β:Type} [BEq β] [LawfulBEq β]:∀(a ks:List β),ks.Nodup->(∀x∈a,x∈ks)->(ks.map fun k=>(a.count k:Int)).sum=(a.length:Int)
 | [],ks,_,_=>by
  have:(ks.map fun k=>(([]:List β).count k:Int))=ks.map fun _=>(0:Int):=by simp
  rw[this]
  induction ks with
  |nil=>rfl
  |cons k r ih=>simp_all
 |x::a,ks,nd,h=>by
  have ih:=zCD a ks nd fun y d=>h y (aG _ d)
  have no:∀(ks:List β),x∉ks->(ks.map fun k=>((x::a).count k:Int)).sum=(ks.map fun k=>(a.count k:Int)).sum:=by
   intro ks
   induction ks with
   |nil=>intro _;rfl
   |cons k r ih=>
    intro b
    have hx1:¬x=k:=fun e=>b (e▸ar ..)
    have hx2:x∉r:=fun e=>b (aG _ e)
    simp only[ba,dD,ih hx2,mj hx1]
  have one:∀(ks:List β),ks.Nodup->x∈ks->(ks.map fun k=>((x::a).count k:Int)).sum=(ks.map fun k=>(a.count k:Int)).sum+1:=by
   intro ks
   induction ks with
   |nil=>intro _ b;cases b
   |cons k r ih=>
    intro nd b
    have f:=(cx.mp nd).1
    by_cases e:x=k
    ·subst e
     simp only[ba,dD,no r f,List.count_cons_self]
     omega
    ·have c:x∈r:=(aQ.mp b).elim (fun z=>absurd z e) id
     simp only[ba,dD,ih (cx.mp nd).2 c,mj e]
     omega
  rw[one ks nd (h x (ar ..)),ih,bJ]
  omega
theorem IsRow.total {b:List (S×S)}{e:S}{xs:List (S×Int)}(a:IsRow b e xs):(xs.map (·.2)).sum=((b.filter fun p=>p.1=e).length:Int):=by
 have h:=zCD (b.filter fun p=>decide (p.1=e)) (xs.map fun p=>(e,p.1)) ?_ ?_
 ·rw[<-h,cp]
  congr 1
  apply dw
  rintro⟨l,n⟩ c
  have:=((a.mem l n).mp c).1
  show n=(ik (e,l) (b.filter fun p=>decide (p.1=e)):Int)
  rw[ko (by simp)]
  exact this
 ·have:=a.ris.keys
  rw[nz,dy]at this⊢
  exact this.imp fun{p q} d z=>d (congrArg lE z)
 ·rintro⟨g,l⟩ c
  obtain⟨i,j⟩:=bF.mp c
  have f:g=e:=by simpa using j
  subst f
  exact aX.mpr ⟨(l,(b.count (g,l):Int)),(a.mem l _).mpr ⟨rfl,by
   have:=dF.mpr i
   omega⟩,rfl⟩
theorem IsTable.total {f:List (S×S)}{b:List (S×List (S×Int))}(a:IsTable f b):(b.map fun r=>(r.2.map (·.2)).sum).sum=(f.length:Int):=by
 have h:=zCD f (b.flatMap fun r=>r.2.map fun p=>(r.1,p.1)) ?_ ?_
 ·rw[<-h,List.map_flatMap]
  have:∀(b:List (S×List (S×Int))),(∀e xs,(e,xs)∈b->IsRow f e xs)->(b.map fun r=>(r.2.map (·.2)).sum).sum=(b.flatMap fun r=>(r.2.map fun p=>(r.1,p.1)).map fun k=>(f.count k:Int)).sum:=by
   intro b
   induction b with
   |nil=>intro _;rfl
   |cons r t ih=>
    intro i
    obtain⟨e,xs⟩:=r
    rw[ba,dD,eY,oQ,ih fun j g c=>i j g (aG _ c)]
    congr 1
    rw[cp]
    congr 1
    apply dw
    rintro⟨l,n⟩ c
    exact(((i e xs (ar ..)).mem l n).mp c).1
  exact this b a.row
 ·have:∀(b:List (S×List (S×Int))),Ris b->(∀e xs,(e,xs)∈b->IsRow f e xs)->(b.flatMap fun r=>r.2.map fun p=>(r.1,p.1)).Nodup:=by
   intro b
   induction b with
   |nil=>intro _ _;simp
   |cons r t ih=>
    intro i d
    obtain⟨e,xs⟩:=r
    rw[eY]
    refine iH.mpr ⟨?_,ih (cg.mp i).2 fun j g c=>d j g (aG _ c),?_⟩
    ·have:=(d e xs (ar ..)).ris.keys
     rw[nz,dy]at this⊢
     exact this.imp fun{p q} m z=>m (congrArg lE z)
    ·intro p y q A o
     obtain⟨z,_,rfl⟩:=aX.mp y
     obtain⟨w,s,u⟩:=bY.mp A
     obtain⟨C,_,B⟩:=aX.mp u
     have:e=w.1:=by
      have:=congrArg nU (o.trans B.symm)
      exact this
     have v:=(cg.mp i).1 w s
     exact gR _ (this▸v)
  exact this b a.ris a.row
 ·rintro⟨e,l⟩ c
  obtain⟨xs,x⟩:=(a.has e).mpr ⟨l,c⟩
  refine bY.mpr ⟨(e,xs),x,aX.mpr ⟨(l,(f.count (e,l):Int)),((a.row e xs x).mem l _).mpr ⟨rfl,?_⟩,rfl⟩⟩
  have:=dF.mpr c
  omega
theorem zDr (o:Nat)(a b:List S):zJ o (a++b)=zJ o a++zJ o b:=by
 unfold zJ;rw[gr]
theorem zCE (o:Nat)(a:List S):((zJ o a).length:Int)=(a.map fun x=>(x.length:Int)+1).sum:=by
 induction a with
 |nil=>rfl
 |cons x r ih=>
  have b:zJ o (x::r)=zM o x++zJ o r:=rfl
  rw[b,aq,ba,dD,<-ih]
  simp[zM]
theorem zGt {t:S}{o:Nat}(h:t.length<=o):zO t o=t:=by
 unfold zO
 have:t.length-o=0:=by omega
 rw[this,fY]
end Kn
end
section
set_option autoImplicit false
namespace Kn
def vU (a b:Int):Int:=(ig a b:Int)
def low (u d:Int):Int×Int:=(u/vU u d,d/vU u d)
structure Fq (q:Int×Int):Prop where
 up:0<=q.1
 dn:0<q.2
 co:ig q.1 q.2=1
theorem zCF {u d:Int}(hd:0<d):0<vU u d:=by
 have:0<ig u d:=Int.gcd_pos_iff.mpr (.inr (by omega))
 unfold vU;omega
theorem zMJ (u d:Int):u=vU u d*(u/vU u d):=(mJ (by unfold vU;exact ow ..)).symm
theorem zGu (u d:Int):d=vU u d*(d/vU u d):=(mJ (by unfold vU;exact iJ ..)).symm
theorem k9 {u d:Int}(hd:0<d):(low u d).1*d=u*(low u d).2:=by
 have c:=zMJ u d
 have e:=zGu u d
 show u/vU u d*d=u*(d/vU u d)
 generalize vU u d=g at*
 generalize u/g=a at*
 generalize d/g=b at*
 rw[c,e,<-Int.mul_assoc,lY a g]
theorem j7 {u d:Int}(c:0<=u)(hd:0<d):Fq (low u d):=by
 have b:=zCF (u:=u) hd
 refine⟨Int.ediv_nonneg c (cZ b),?_,?_⟩
 ·have e:=zGu u d
  show 0<d/vU u d
  rcases Int.lt_trichotomy (d/vU u d) 0 with h|h|h
  ·have:=Int.mul_neg_of_pos_of_neg b h
   omega
  ·rw[h,rh]at e;omega
  ·exact h
 ·show ig (u/vU u d) (d/vU u d)=1
  unfold vU at*
  have a:0<ig u d:=by omega
  rw[Int.gcd_ediv (ow ..) (iJ ..)]
  simp
  exact Nat.div_self a
theorem Fq.ext {p q:Int×Int}(a:Fq p)(b:Fq q)(h:p.1*q.2=q.1*p.2):p=q:=by
 obtain⟨s,t⟩:=p
 obtain⟨u,v⟩:=q
 obtain⟨f,g,i⟩:=a
 obtain⟨j,l,n⟩:=b
 dsimp only at*
 obtain⟨x,rfl⟩:=cV f
 obtain⟨y,rfl⟩:=cV (cZ g)
 obtain⟨z,rfl⟩:=cV j
 obtain⟨w,rfl⟩:=cV (cZ l)
 have h':x*w=z*y:=by exact_mod_cast h
 have c:ri x y=1:=by simpa [ig]using i
 have d:ri z w=1:=by simpa [ig]using n
 have o:0<y:=by omega
 have A:0<w:=by omega
 have d1:y∣w:=iM (m:=x) (by rw[rM,lZ];exact c) (by rw[h'];exact ox ..)
 have r:w∣y:=iM (m:=z) (by rw[rM,lZ];exact d) (by rw[<-h'];exact ox ..)
 have e:y=w:=Nat.dvd_antisymm d1 r
 subst e
 have:x=z:=Nat.eq_of_mul_eq_mul_right o h'
 rw[this]
theorem zMK {u d a d':Int}(e:0<=u)(hd:0<d)(c:0<=a)(b:0<d')(h:u*d'=a*d):low u d=low a d':=by
 refine Fq.ext (j7 e hd) (j7 c b) ?_
 have f:=k9 (u:=u) hd
 have g:=k9 (u:=a) b
 generalize low u d=p at*
 generalize low a d'=q at*
 have:(p.1*q.2)*(d*d')=(q.1*p.2)*(d*d'):=by
  calc (p.1*q.2)*(d*d')=(p.1*d)*(q.2*d'):=by ac_rfl
   _=(u*p.2)*(q.2*d'):=by rw[f]
   _=(u*d')*(p.2*q.2):=by ac_rfl
   _=(a*d)*(p.2*q.2):=by rw[h]
   _=(a*q.2)*(p.2*d):=by ac_rfl
   _=(q.1*d')*(p.2*d):=by rw[g]
   _=(q.1*p.2)*(d*d'):=by ac_rfl
 exact Int.eq_of_mul_eq_mul_right (by have:=dz hd b;omega) this
theorem zGv {u d:Int}(a:0<=u)(hd:0<d):(low u d).2<=d/\(low u d).1<=u:=by
 have b:=zCF (u:=u) hd
 exact⟨oy _ (by omega),oy _ a⟩
def v5 (p q:Int×Int):Int×Int:=low (p.1*q.1) (p.2*q.2)
def lss (p q:Int×Int):Bool:=decide (p.1*q.2<q.1*p.2)
theorem zAr {p q:Int×Int}(a:Fq p)(b:Fq q):Fq (v5 p q):=j7 (d7 a.up b.up) (dz a.dn b.dn)
theorem zCG:Fq (0,1):=⟨by decide,by decide,by decide⟩
theorem gS:Fq (1,1):=⟨by decide,by decide,by decide⟩
theorem zDs {d:Int}(hd:0<d):low 0 d=(0,1):=by
 refine Fq.ext (j7 (oG _) hd) zCG ?_
 have:=k9 (u:=0) hd
 rw[jq]at this
 have a:(low 0 d).1=0:=by
  rcases Int.mul_eq_zero.mp this with h|h
  ·exact h
  ·omega
 rw[a];simp
theorem zGw {d:Int}(hd:0<d):low d d=(1,1):=by
 refine Fq.ext (j7 (cZ hd) hd) gS ?_
 have:=k9 (u:=d) hd
 rw[lY]at this
 have:=Int.eq_of_mul_eq_mul_left (by omega) this
 rw[this]
 exact lY _ _
theorem zML {q:Int×Int}(b:Fq q):v5 (0,1) q=(0,1):=by
 unfold v5
 have:((0:Int),(1:Int)).1*q.1=0:=jq _
 rw[this]
 exact zDs (dz (by decide) b.dn)
theorem zMM {p:Int×Int}(a:Fq p):v5 p (0,1)=(0,1):=by
 unfold v5
 have:p.1*((0:Int),(1:Int)).1=0:=rh _
 rw[this]
 exact zDs (dz a.dn (by decide))
theorem zMN {p q:Int×Int}(a:Fq p)(b:Fq q)(d:0<p.1)(e:0<q.1):0<(v5 p q).1:=by
 have f:=zAr a b
 have c:(v5 p q).1*(p.2*q.2)=(p.1*q.1)*(v5 p q).2:=k9 (dz a.dn b.dn)
 rcases nA f.up with h|h
 ·exact h
 ·rw[<-h,jq]at c
  have g:0<p.1*q.1:=dz d e
  have i:0<(p.1*q.1)*(v5 p q).2:=dz g f.dn
  omega
theorem zMO {u d:Int}(a:0<u)(hd:0<d):0<(low u d).1:=by
 have f:=j7 (cZ a) hd
 have c:=k9 (u:=u) hd
 rcases nA f.up with h|h
 ·exact h
 ·rw[<-h,jq]at c
  have:=dz a f.dn
  omega
theorem zGx {u d:Int}(a:0<=u)(hd:0<d)(h:u<=d):(low u d).1<=(low u d).2:=by
 have f:=j7 a hd
 have c:=k9 (u:=u) hd
 by_cases b:(low u d).1<=(low u d).2
 ·exact b
 ·exfalso
  have e:(low u d).2+1<=(low u d).1:=by omega
  have g:((low u d).2+1)*d<=(low u d).1*d:=iT e (cZ hd)
  have i:u*(low u d).2<=d*(low u d).2:=iT h (cZ f.dn)
  rw[Int.add_mul,Int.one_mul,lY (low u d).2 d]at g
  omega
theorem zMP {p q:Int×Int}(a:Fq p)(b:Fq q)(c:p.1<=p.2)(d:q.1<=q.2):(v5 p q).1<=(v5 p q).2 :=
 zGx (d7 a.up b.up) (dz a.dn b.dn) (fm c d b.up (cZ a.dn))
end Kn
end
section
set_option autoImplicit false
namespace Kn
def tot (ps:List (S×S))(e:S):Nat:=(ps.filter fun p=>p.1=e).length
def yQ (ps:List (S×S))(e l:S):Int×Int:=if ps.count (e,l)=0 then(0,1)else low (ps.count (e,l):Int) (tot ps e:Int)
def uW (ps:List (S×S))(qs:List (S×S)):Int×Int:=qs.foldl (fun w p=>v5 w (yQ ps p.1 p.2)) (1,1)
def uB (ps:List (S×S))(o:Nat)(nm:S):Int×Int:=uW ps (zM o nm)
theorem gT (b:List (S×S))(e l:S):b.count (e,l)<=tot b e:=by
 unfold tot
 rw[<-ko (l:=b) (p:=fun p=>decide (p.1=e)) (a:=(e,l)) (by simp)]
 exact List.count_le_length
theorem gA (a:List (S×S))(e l:S):Fq (yQ a e l):=by
 unfold yQ
 split
 ·exact zCG
 ·have:=gT a e l
  exact j7 (by omega) (by omega)
theorem zGy (a:List (S×S))(e l:S):(yQ a e l).1<=(yQ a e l).2:=by
 unfold yQ
 split
 ·decide
 ·have:=gT a e l
  exact zGx (by omega) (by omega) (by omega)
theorem zGz {a:List (S×S)}{e l:S}(h:(e,l)∈a):0<(yQ a e l).1:=by
 have b:=dF.mpr h
 have:=gT a e l
 unfold yQ
 rw[if_neg (by omega)]
 exact zMO (by omega) (by omega)
theorem zHA {a:List (S×S)}{e l:S}(h:(e,l)∉a):yQ a e l=(0,1):=by
 unfold yQ
 rw[if_pos (List.count_eq_zero.mpr h)]
theorem zHB {a:List (S×S)}(e l:S)(h:1<=a.length):(yQ a e l).2<=(a.length:Int):=by
 unfold yQ
 split
 ·show(1:Int)<=_;omega
 ·have b:=gT a e l
  have c:tot a e<=a.length:=bC _ _
  have:=(zGv (u:=(a.count (e,l):Int)) (d:=(tot a e:Int)) (by omega) (by omega)).1
  omega
theorem zDt (a:List (S×S)):∀(b:List (S×S)) (w:Int×Int),Fq w->Fq (b.foldl (fun w p=>v5 w (yQ a p.1 p.2)) w)
 | [],w,h=>h
 |q::b,w,h=>zDt a b _ (zAr h (gA a q.1 q.2))
theorem zDu (a:List (S×S)):∀(b:List (S×S)) (w:Int×Int),Fq w->w.1<=w.2->(b.foldl (fun w p=>v5 w (yQ a p.1 p.2)) w).1<=(b.foldl (fun w p=>v5 w (yQ a p.1 p.2)) w).2
 | [],w,_,h=>h
 |q::b,w,f,h=>zDu a b _ (zAr f (gA a q.1 q.2)) (zMP f (gA a q.1 q.2) h (zGy a q.1 q.2))
theorem zHC (a:List (S×S)):∀(b:List (S×S)) (w:Int×Int),Fq w->0<w.1->(∀q∈b,q∈a)->0<(b.foldl (fun w p=>v5 w (yQ a p.1 p.2)) w).1
 | [],w,_,h,_=>h
 |q::b,w,f,h,c=>zHC a b _ (zAr f (gA a q.1 q.2)) (zMN f (gA a q.1 q.2) h (zGz (c q (ar ..)))) fun r d=>c r (aG _ d)
theorem zHD (a:List (S×S)):∀(b:List (S×S)),b.foldl (fun w p=>v5 w (yQ a p.1 p.2)) (0,1)=(0,1)
 | []=>rfl
 |q::b=>by
  rw[eW,zML (gA a q.1 q.2)]
  exact zHD a b
theorem zHE {a:List (S×S)}(c:1<=a.length):∀(b:List (S×S)) (w:Int×Int) (k:Nat),Fq w->w.2<=(a.length:Int)^k->(b.foldl (fun w p=>v5 w (yQ a p.1 p.2)) w).2<=(a.length:Int)^(k+b.length)
 | [],w,k,_,h=>h
 |q::b,w,k,f,h=>by
  have g:=gA a q.1 q.2
  have e:k+(q::b).length=(k+1)+b.length:=by simp;omega
  rw[e,eW]
  refine zHE c b _ (k+1) (zAr f g) ?_
  have d:(v5 w (yQ a q.1 q.2)).2<=w.2*(yQ a q.1 q.2).2:=(zGv (d7 f.up g.up) (dz f.dn g.dn)).1
  have i:w.2*(yQ a q.1 q.2).2<=(a.length:Int)^k*(a.length:Int):=fm h (zHB q.1 q.2 c) (cZ g.dn) (by have:=f.dn;omega)
  rw[nV]
  omega
theorem zMQ (a:List (S×S))(o:Nat)(nm:S):Fq (uB a o nm):=zDt a _ _ gS
theorem zMR (a:List (S×S))(o:Nat)(nm:S):(uB a o nm).1<=(uB a o nm).2:=zDu a _ _ gS (by decide)
theorem zMS (o:Nat)(nm:S):∃r,zM o nm=(([]:S),nm.take 1)::r:=by
 unfold zM
 rw[l3,ba]
 have e:(zO (sI 0 nm) o,sI 1 (List.drop 0 nm))=(([]:S),nm.take 1):=by simp[zO]
 rw[e]
 exact⟨_,rfl⟩
theorem zHF (a b:S)(c:¬a<b)(d:¬b<a):a=b:=ou (iu.mp d) (iu.mp c)
theorem zMT {p:Int×Int}:lss (0,1) p=decide (0<p.1):=by
 simp only[lss]
 congr 1
 simp
end Kn
end
section
namespace Kn
open PySem L2
theorem yC {N P:List Str}{h:dS}(a:h.kind=.function:=by rfl)(b:h.isCoroutine=false:=by rfl)(c:h.isGenerator=false:=by rfl)(d:N.Nodup:=by decide+kernel)(e:N.take P.length=P:=by rfl)(f:∀x∈P,h.names.lookup x=some .local\/h.names.lookup x=some .cell:=by decide+kernel)(g:∀y∈h.names,y.2≠.free:=by decide+kernel):FnScope N P h:=⟨a,b,c,d,e,f,g⟩
def zQ (P:aP)(w:bc)(K:ae)(mg:Str->Option ah)(base:bK)(k:Nat)(x:Str)(ps:List Str)(sp:Sp):Prop :=
 ∃(f:ai) (fd:aO),FnOk P w K mg base zU k f fd ps sp/\mg x=some (.ref f)/\dB K (.ref f)=true/\qV K fd ps []
theorem zL {X:Cx}{k:Nat}{x:Str}{g:List Str}{sp:Sp}{p pos:Pos}{e:cb}{c:List cb}{t:TA}(C:zQ X.prog X.w X.K X.mg X.base k x g sp)(h:Room k X.A)(i:Gl X x)(j:PA X (e::c) t)
  (l:starEach (e::c) X.env=(false,eval e X.env)::starEach c X.env:=by rfl) (a:(backTo pos (starEach c X.env)).any (·.1)=false:=by rfl)
  (d:(x==("__debug__" : Str))=false:=by decide):PE X (.Call (.Name x p) (e::c) [] pos) (zAD sp [] E0 t):=by
 obtain⟨f,fd,G,m,kp,b⟩:=C
 exact zGE G h i m kp b .nil zGc j d l a
abbrev tx (x:S):Str:=⟨x.toArray⟩
abbrev sv (x:S):V:=.str (tx x)
theorem gB (x:S):(tx x).cps.toList=x:=by simp[tx]
theorem z8 (x:S):(tx x).length=x.length:=by simp[tx,nu]
theorem qH {n i:Nat}{x:V}(h:((bg n).map fun(i:Nat)=>V.int (0+(i:Int)))[i]?=some x):i<n/\x=.int i:=by
 have hi:i<n:=by
  have:=(aa.mp h).1
  simpa using this
 refine⟨hi,?_⟩
 rw[aF,cy hi]at h
 have:=aw h
 rw[<-this]
 show V.int (0+(i:Int))=V.int i
 rw[Int.zero_add]
theorem y0 {ys:St}(h:ys.length=1):∃y,ys=[y]:=by
 match ys,h with
 | [y],_=>exact⟨y,rfl⟩
theorem ys2 {ys:St}(h:ys.length=2):∃y z,ys=[y,z]:=by
 match ys,h with
 | [y,z],_=>exact⟨y,z,rfl⟩
structure Blt (mg:Str->Option ah):Prop where
 len:mg "len"=none
 range:mg "range"=none
 all:mg "all"=none
 isinstance:mg "isinstance"=none
 str:mg "str"=none
 tuple:mg "tuple"=none
 int:mg "int"=none
 bool:mg "bool"=none
 sorted:mg "sorted"=none
 sum:mg "sum"=none
 min:mg "min"=none
section
variable{P:aP}{w:bc}{K:ae}{mg:Str->Option ah}{base:bK}
theorem zDv (t:S)(o:Nat)(c:1<=o):vS (tx t) (some (-(o:Int))) none=tx (zO t o):=by
 unfold vS
 rw[z8,gB]
 have a:HT.sIx t.length 0 (some (-(o:Int)))=t.length-o:=by
  show(if-(o:Int)<0 then(-(o:Int)+(t.length:Int)).toNat else _)=_
  rw[if_pos (by omega)];omega
 have b:HT.sIx t.length t.length none=t.length:=rfl
 rw[a,b]
 unfold zO
 rw[c8 (by rw[cC];omega)]
theorem zAI (t:S)(p:Nat):vS (tx t) none (some (p:Int))=tx (t.take p):=by
 unfold vS
 rw[z8,gB,HT.sIx_nat]
 show tx ((t.drop 0).take (min p t.length-0))=_
 rw[fY,jo,<-mm]
theorem zBQ (t:S)(p:Nat):vS (tx t) (some (p:Int)) (some ((p:Int)+1))=tx ((t.drop p).take 1):=by
 unfold vS
 rw[z8,gB,HT.sIx_nat,show((p:Int)+1)=((p+1:Nat):Int)from rfl,HT.sIx_nat]
 congr 1
 by_cases h:p<t.length
 ·have a:min p t.length=p:=by omega
  have b:min (p+1) t.length-p=1:=by omega
  rw[a,b]
 ·have a:min p t.length=t.length:=by omega
  rw[a,fD (aH _),fD (by omega)]
  simp
def zHG:Sp:=fun vs H Q _=>∃(t:S) (o:Nat),vs=[sv t,.int o]/\1<=o/\t.length<=64/\Q (sv (zO t o)) H
abbrev zDw:cJ:=top 24
theorem zMU:FnScope ["text","order"] ["text","order"] (defScope zDw):=yC
theorem zMV {f:ai}{fd:aO}(F:Fun K "end_of" "end_of" zDw f fd):FnOk P w K mg base zU 1 f fd ["text","order"] zHG:=by
 refine F.ok zMU (fun vs H Q E h=>?_) (fun a A outer s H vs Q E c h=>?_)
 ·obtain⟨t,o,rfl,_⟩:=h;rfl
 ·obtain⟨t,o,rfl,b,hl,k⟩:=h
  refine⟨_,zH (zT (qG (pv 0) (vX (zAe zAh (pv 1))) qN)),?_⟩
  refine⟨_,rfl,_,rfl,_,rfl,_,rfl,_,rfl,?_,?_⟩
  ·rw[z8,aR];omega
  ·rw[zDv t o b];exact k
def pr (o:Nat)(t:S)(p:Nat):S×S:=(zO (t.take p) o,(t.drop p).take 1)
def v6 (p:S×S):bW:=.tuple [.str (tx p.1),.str (tx p.2)]
def zBR (K:ae):Sp:=fun vs H Q _=>∃(t:S) (o:Nat),vs=[sv t,.int o]/\1<=o/\t.length<=64/\∀a xs H',zA H H'->H a=none->H' a=some (.lst xs)->Reps K H' ((zM o t).map v6) xs->Q (.ref a) H'
abbrev zDx:cJ:=top 25
theorem zMW:FnScope ["name","order"] ["name","order"] (defScope zDx):=yC
theorem zMX:(["name","order","place"]:List Str).Nodup:=by decide+kernel
theorem zMY {f:ai}{fd:aO}(F:Fun K "ends_and_letters" "ends_and_letters" zDx f fd)(B:Blt mg)(d:zQ P w K mg base 1 "end_of" ["text","order"] zHG):FnOk P w K mg base zU 2 f fd ["name","order"] (zBR K):=by
 refine F.ok zMW (fun vs H Q E h=>?_) (fun n A outer s H vs Q E q h=>?_)
 ·obtain⟨t,o,rfl,_⟩:=h;rfl
 ·obtain⟨t,o,rfl,r,hl,k⟩:=h
  refine⟨_,zH (zT (vG (N:=["name","order","place"]) (caps:=[0,1]) rfl (yT (by kernel_rfl))
   (qF rfl B.range (zB (zP vD (zZ j4 (by rfl) B.len bQ (zB (pv 0) zC)) zF) zC))
   (fun cl C s H ex=>zY (i:=2) zMX rfl (Or.inl rfl))
   (fun cl C s H ex=>vK)
   (fun cl C s H ex=>uL (zB (zL d q rfl (zB (qG (pv 0) qN (vX (pv 2))) (zB (pv 1) zC)))
    (zB (qG (pv 0) (vX (pv 2)) (vX (zP vD (pv 2) zF))) zC))))),?_⟩
  refine⟨_,rfl,_,rfl,?_,_,_,rfl,rfl,_,rfl,?_,?_,?_⟩
  ·rw[z8,aR];omega
  ·rw[z8];omega
  ·rw[z8];omega
  have u:((tx t).length:Int)+1=((t.length+1:Nat):Int):=by rw[z8];rfl
  have b:(((tx t).length:Int)+1).toNat=t.length+1:=by rw[u];rfl
  refine vT (qA 0 _) [some (sv t),some (.int o)] 1 (by rw[af,bh,b];omega) (fun i a H'=>zA H H'/\a.length=i/\Reps K H' (((bg i).map (pr o t)).map v6) a)
   ⟨zA.refl H,rfl,rfl⟩ (fun i a H' _ h=>⟨trivial,dh h.2.1⟩) ?_ ?_
  ·rintro i x a H' ys G v l z ⟨c,e,g⟩
   obtain⟨y,rfl⟩:=y0 z
   rw[b]at l
   obtain⟨hi,rfl⟩:=qH l
   refine⟨_,rfl,_,rfl,_,rfl,_,rfl,(by rw[z8,aR];omega),_,rfl,t.take i,o,(by rw[zAI];rfl),r,(by rw[aL];omega),?_⟩
   refine⟨_,rfl,_,rfl,_,rfl,_,rfl,_,_,rfl,rfl,_,rfl,_,rfl,(by rw[z8,aR];omega),?_⟩
   refine⟨by show 2<=sizeLine;decide,fun p m=>v _ _ [some (.int i)] rfl ⟨c.upd_new (c.free m),by rw[aq,e];rfl,?_⟩⟩
   rw[cU,az,az]
   refine Reps.append (Reps.same (zA.upd1 m) _ _ g) (Reps.one ⟨p,_,rfl,.of zD,?_⟩)
   rw[zBQ]
   exact⟨_,_,rfl,rfl,_,_,rfl,rfl,rfl⟩
  ·rintro a H' ⟨c,e,g⟩ D j
   refine k D a _ (c.upd_new (c.free j)) (c.free j) zD (Reps.same (zA.upd1 j) _ _ ?_)
   rw[af,bh,b]at g
   exact g
def vW (x:S):Prop:=1<=x.length/\x.length<=8/\∀c∈x,97<=c/\c<=122
def letters:Str:=⟨#[97,98,99,100,101,102,103,104,105,106,107,108,109,110,111,112,113,114,115,116,117,118,119,120,121,122]⟩
theorem zMZ {c:Nat}(h:97<=c/\c<=122):(eA letters ⟨#[c]⟩ 0 letters.length 1).isEmpty=false:=by
 have all:∀d:_root_.Fin 26,(eA letters ⟨#[97+d.val]⟩ 0 letters.length 1).isEmpty=false:=by decide+kernel
 have:=all ⟨c-97,by omega⟩
 have e:97+(c-97)=c:=by omega
 simpa [e]using this
structure Cst (K:ae) (mg:Str->Option ah):Prop where
 letters:∃t,mg "LETTERS"=some (.str letters t)
 ml:∃t,mg "MOST_LETTERS"=some (.int 8 t)
 mn:∃t,mg "MOST_NAMES"=some (.int 8 t)
 mo:∃t,mg "MOST_ORDER"=some (.int 3 t)
 ib:bx K (.type "int") (.type "bool")=some false
def zDy:Sp:=fun vs H Q _=>∃x:S,vs=[sv x]/\vW x/\∀H',zA H H'->Q (.bl true) H'
abbrev zCH:cJ:=top 15
theorem zHH:FnScope ["thing"] ["thing"] (defScope zCH):=yC
theorem nd1:(["letter"]:List Str).Nodup:=by decide+kernel
theorem zMa {f:ai}{fd:aO}(F:Fun K "is_name" "is_name" zCH f fd)(B:Blt mg)(C:Cst K mg):FnOk P w K mg base zU 1 f fd ["thing"] zDy:=by
 obtain⟨q,hl⟩:=C.letters
 obtain⟨r,j⟩:=C.ml
 refine F.ok zHH (fun vs H Q E h=>?_) (fun l A outer s H vs Q E u h=>?_)
 ·obtain⟨t,rfl,_⟩:=h;rfl
 ·obtain⟨x,rfl,⟨z,G,m⟩,k⟩:=h
  refine⟨_,zG (yK (PW.pt (jO (vP (vC (zZ u9 (by rfl) B.isinstance aJ (zB (pv 0) (zB (uU (v:=.ty "str") (by rfl) B.str mq rfl) zC)))))
    (jX (vP (zBo qM qM zF (zZ j4 (by rfl) B.len bQ (zB (pv 0) zC)) (v3 (v:=.int 8) (by rfl) j ⟨_,rfl⟩))))))
    (zH (zT v9)) yJ)
   (zH (zT (zZ (gQ rfl) (by rfl) B.all da (zB (vG (N:=["letter"]) (caps:=[]) rfl (yT (by kernel_rfl)) (zGp (pv 0))
    (fun cl C s H ex=>zY (i:=0) nd1 rfl (Or.inl rfl)) (fun cl C s H ex=>vK)
    (fun cl C s H ex=>kQ zFz (pv 0) (v3 (v:=.str letters) (by rfl) hl ⟨_,rfl⟩) (by with_unfolding_all rfl))) zC)))),?_⟩
  refine⟨_,rfl,_,_,_,true,rfl,.str _,(by rfl),_,rfl,?_⟩
  refine yI ?_
  refine⟨_,rfl,_,rfl,(by rw[z8,aR];omega),_,_,rfl,rfl,_,rfl,?_⟩
  refine vY (by rw[z8];omega) ⟨_,_,rfl,rfl,_,rfl,qW (by rw[z8];omega) ?_⟩
  refine⟨_,rfl,_,rfl,?_⟩
  refine vT (zGr (tx x)) [] 1 (by rw[af,gB];omega) (fun i a H'=>zA H H'/\a=aU i (.bl true)) ⟨zA.refl H,rfl⟩ (fun i a H' _ h=>⟨trivial,by rw[h.2];simp⟩) ?_ ?_
  ·rintro i y a H' ys I n b o ⟨d,rfl⟩
   obtain⟨J,rfl⟩:=y0 o
   rw[aF,gB]at b
   cases e:x[i]? with
   |none=>rw[e]at b;cases b
   |some c=>
    rw[e]at b
    have g:y=.str ⟨#[c]⟩:=(aw b).symm
    subst g
    refine⟨_,rfl,_,_,rfl,rfl,?_⟩
    rw[zMZ (m c (aS e))]
    exact n _ _ [some (.str ⟨#[c]⟩)] rfl ⟨d,by rw[eZ];rfl⟩
  ·rintro a H' ⟨d,rfl⟩ D p
   refine⟨D,aU _ true,rfl,.of (by rw[zD,nB]),?_⟩
   have:(aU ((tx x).cps.toList.map fun c=>V.str ⟨#[c]⟩).length true).all id=true:=by simp
   rw[this]
   exact k _ (d.upd_new (d.free p))
def zR (bk:List S):List V:=bk.map sv
structure isBk (bk:List S):Prop where
 lo:1<=bk.length
 hi:bk.length<=8
 nm:∀x∈bk,vW x
def zHI:Sp:=fun vs H Q _=>∃(a:ai) (bk:List S),vs=[.ref a]/\H a=some (.tup (zR bk))/\isBk bk/\∀H',zA H H'->Q (.bl true) H'
abbrev zCI:cJ:=top 16
theorem zHJ:FnScope ["thing"] ["thing"] (defScope zCI):=yC
theorem nd2:(["name"]:List Str).Nodup:=by decide+kernel
theorem zMb {f:ai}{fd:aO}(F:Fun K "is_book" "is_book" zCI f fd)(B:Blt mg)(C:Cst K mg)(d:zQ P w K mg base 1 "is_name" ["thing"] zDy):FnOk P w K mg base zU 2 f fd ["thing"] zHI:=by
 obtain⟨z,o⟩:=C.mn
 refine F.ok zHJ (fun vs H Q E h=>?_) (fun p A outer s H vs Q E q h=>?_)
 ·obtain⟨a,bk,rfl,_⟩:=h;rfl
 ·obtain⟨a,bk,rfl,j,⟨G,I,r⟩,k⟩:=h
  refine⟨_,zG (yK (PW.pt (jO (vP (vC (zZ u9 (by rfl) B.isinstance aJ (zB (pv 0) (zB (uU (v:=.ty "tuple") (by rfl) B.tuple lF rfl) zC)))))
    (jX (vP (zBo qM qM zF (zZ jE (by rfl) B.len bQ (zB (pv 0) zC)) (v3 (v:=.int 8) (by rfl) o ⟨_,rfl⟩))))))
    (zH (zT v9)) yJ)
   (zH (zT (zZ (gQ rfl) (by rfl) B.all da (zB (vG (N:=["name"]) (caps:=[]) rfl (yT (by kernel_rfl)) (zAd (pv 0))
    (fun cl C s H ex=>zY (i:=0) nd2 rfl (Or.inl rfl)) (fun cl C s H ex=>vK)
    (fun cl C s H ex=>zL d q rfl (zB (pv 0) zC))) zC)))),?_⟩
  refine⟨_,rfl,_,_,_,true,rfl,.tup j,(by rfl),_,rfl,?_⟩
  refine yI ?_
  refine⟨_,rfl,_,_,rfl,.inr (.of j),_,_,rfl,rfl,_,rfl,?_⟩
  have hl:(zR bk).length=bk.length:=by simp[zR]
  refine vY (by rw[hl];omega) ⟨_,_,rfl,rfl,_,rfl,qW (by rw[hl];omega) ?_⟩
  refine⟨_,rfl,_,rfl,⟨_,.of j⟩,?_⟩
  refine vT (zAp _ a (zR bk)) [] 1 (by rw[hl];omega) (fun i b H'=>zA H H'/\b=aU i (.bl true)) ⟨zA.refl H,rfl⟩ (fun i b H' _ h=>⟨.of (h.1 _ _ j),by rw[h.2];simp⟩) ?_ ?_
  ·rintro i y b H' ys J t g u ⟨l,rfl⟩
   obtain⟨L,rfl⟩:=y0 u
   rw[zR,aF]at g
   cases e:bk[i]? with
   |none=>rw[e]at g;cases g
   |some c=>
    rw[e]at g
    have m:y=sv c:=(aw g).symm
    subst m
    exact⟨_,rfl,c,rfl,r c (aS e),fun M n=>t _ _ [some (sv c)] rfl ⟨l.trans n,by rw[eZ]⟩⟩
  ·rintro b H' ⟨l,rfl⟩ D x
   refine⟨D,aU _ true,rfl,.of (by rw[zD,nB]),?_⟩
   have:(aU (zR bk).length true).all id=true:=by simp
   rw[this]
   exact k _ (l.upd_new (l.free x))
def zHK:Sp:=fun vs H Q _=>∃o a b:Nat,vs=[.int o,.int a,.int b]/\a<=o/\o<=b/\Q (.bl true) H
abbrev zBS:cJ:=top 17
theorem zDz:FnScope ["thing","least","most"] ["thing","least","most"] (defScope zBS):=yC
theorem zMc {f:ai}{fd:aO}(F:Fun K "is_whole" "is_whole" zBS f fd)(B:Blt mg)(C:Cst K mg):FnOk P w K mg base zU 1 f fd ["thing","least","most"] zHK:=by
 refine F.ok zDz (fun vs H Q E h=>?_) (fun c A outer s H vs Q E d h=>?_)
 ·obtain⟨o,a,b,rfl,_⟩:=h;rfl
 ·obtain⟨o,a,b,rfl,g,i,k⟩:=h
  refine⟨_,zG (yK (PW.pt (jO (vP (vC (zZ u9 (by rfl) B.isinstance aJ (zB (pv 0) (zB (uU (v:=.ty "int") (by rfl) B.int iQ rfl) zC)))))
    (jX (vC (zZ u9 (by rfl) B.isinstance aJ (zB (pv 0) (zB (uU (v:=.ty "bool") (by rfl) B.bool fE rfl) zC)))))))
    (zH (zT v9)) yJ)
   (zH (zT (zDK qM qM (pv 1) (pv 0) (pv 2)))),?_⟩
  refine⟨_,rfl,_,_,_,true,rfl,.int _,(by rfl),_,rfl,?_⟩
  refine yI ?_
  refine⟨_,rfl,_,_,_,false,rfl,.int _,C.ib,_,rfl,?_⟩
  refine yI ?_
  refine⟨_,rfl,_,rfl,_,_,rfl,rfl,_,rfl,?_⟩
  refine vY (by omega) ⟨_,rfl,_,_,rfl,rfl,?_⟩
  have e:decide ((o:Int)<=b)=true:=decide_eq_true (by omega)
  show Q (.bl (decide ((o:Int)<=b))) H
  rw[e]
  exact k
def zHL:Sp:=fun vs H Q _=>∃o:Nat,vs=[.int o]/\1<=o/\o<=3/\Q (.bl true) H
abbrev zCJ:cJ:=top 18
theorem zHM:FnScope ["thing"] ["thing"] (defScope zCJ):=yC
theorem zMd {f:ai}{fd:aO}(F:Fun K "is_order" "is_order" zCJ f fd)(C:Cst K mg)(a:zQ P w K mg base 1 "is_whole" ["thing","least","most"] zHK):FnOk P w K mg base zU 2 f fd ["thing"] zHL:=by
 obtain⟨i,b⟩:=C.mo
 refine F.ok zHM (fun vs H Q E h=>?_) (fun c A outer s H vs Q E d h=>?_)
 ·obtain⟨o,rfl,_⟩:=h;rfl
 ·obtain⟨o,rfl,e,g,k⟩:=h
  refine⟨_,zH (zT (zL a d rfl (zB (pv 0) (zB zF (zB (v3 (v:=.int 3) (by rfl) b ⟨_,rfl⟩) zC))))),?_⟩
  exact⟨_,rfl,o,1,3,rfl,e,g,k⟩
def zCK:Sp:=fun vs H Q _=>∃(a:ai) (bk:List S),vs=[.ref a]/\H a=some (.tup (zR bk))/\isBk bk/\∀H',zA H H'->Q .non H'
abbrev zCL:cJ:=top 20
theorem zHN:FnScope ["thing"] ["thing"] (defScope zCL):=yC
theorem zMe {f:ai}{fd:aO}(F:Fun K "need_book" "need_book" zCL f fd)(b:zQ P w K mg base 2 "is_book" ["thing"] zHI):FnOk P w K mg base zU 3 f fd ["thing"] zCK:=by
 refine F.ok zHN (fun vs H Q E h=>?_) (fun c A outer s H vs Q E d h=>?_)
 ·obtain⟨a,bk,rfl,_⟩:=h;rfl
 ·obtain⟨a,bk,rfl,e,g,k⟩:=h
  refine⟨_,zH (yK (vP (vC (zL b d rfl (zB (pv 0) zC)))) (zH zBM) yJ),?_⟩
  exact⟨_,rfl,a,bk,rfl,e,g,fun H' i=>⟨true,rfl,yI (k H' i)⟩⟩
def zCM:Sp:=fun vs H Q _=>∃o:Nat,vs=[.int o]/\1<=o/\o<=3/\Q .non H
abbrev zCN:cJ:=top 22
theorem zHO:FnScope ["thing"] ["thing"] (defScope zCN):=yC
theorem zMf {f:ai}{fd:aO}(F:Fun K "need_order" "need_order" zCN f fd)(a:zQ P w K mg base 2 "is_order" ["thing"] zHL):FnOk P w K mg base zU 3 f fd ["thing"] zCM:=by
 refine F.ok zHO (fun vs H Q E h=>?_) (fun b A outer s H vs Q E c h=>?_)
 ·obtain⟨o,rfl,_⟩:=h;rfl
 ·obtain⟨o,rfl,d,e,k⟩:=h
  refine⟨_,zH (yK (vP (vC (zL a c rfl (zB (pv 0) zC)))) (zH zBM) yJ),?_⟩
  exact⟨_,rfl,o,rfl,d,e,true,rfl,yI k⟩
def zBT:Sp:=fun vs H Q _=>∃x:S,vs=[sv x]/\vW x/\∀H',zA H H'->Q .non H'
abbrev zCO:cJ:=top 23
theorem zHP:FnScope ["thing"] ["thing"] (defScope zCO):=yC
theorem zMg {f:ai}{fd:aO}(F:Fun K "need_name" "need_name" zCO f fd)(a:zQ P w K mg base 1 "is_name" ["thing"] zDy):FnOk P w K mg base zU 2 f fd ["thing"] zBT:=by
 refine F.ok zHP (fun vs H Q E h=>?_) (fun b A outer s H vs Q E c h=>?_)
 ·obtain⟨x,rfl,_⟩:=h;rfl
 ·obtain⟨x,rfl,d,k⟩:=h
  refine⟨_,zH (yK (vP (vC (zL a c rfl (zB (pv 0) zC)))) (zH zBM) yJ),?_⟩
  exact⟨_,rfl,x,rfl,d,fun H' e=>⟨true,rfl,yI (k H' e)⟩⟩
end
theorem zAs {a b:S}(h:tx a=tx b):a=b:=by
 have:=congrArg (fun z:Str=>z.cps.toList) h
 simpa [tx]using this
section
variable{α:Type}
def vN (f:α->V)(l:List (S×α)):List (z0×V):=gP (l.map fun p=>(tx p.1,f p.2))
theorem zAJ (f:α->V)(p:S×α)(l:List (S×α)):vN f (p::l)=((Sum.inr (tx p.1):z0),f p.2)::vN f l:=rfl
theorem zAK (f:α->V)(l:List (S×α)):(vN f l).length=l.length:=by simp[vN,gP]
theorem zAt {a b:S}:((Sum.inr (tx a):z0)=Sum.inr (tx b))↔a=b:=⟨fun h=>zAs (oF h),fun h=>by rw[h]⟩
theorem qB (f:α->V)(l:List (S×α))(k:S):yU (vN f l) (Sum.inr (tx k))=(zV l k).map f:=by
 induction l with
 |nil=>rfl
 |cons p r ih=>
  rw[zAJ]
  by_cases e:p.1=k
  ·rw[jF (zAt.mpr e)]
   obtain⟨a,b⟩:=p
   have c:a=k:=e
   subst c
   simp[zV]
  ·rw[jG (fun z=>e (zAt.mp z)),ih]
   obtain⟨a,b⟩:=p
   have c:¬a=k:=e
   simp[zV,c]
theorem zMh (f:α->V)(l:List (S×α))(k:S):((vN f l).any fun a=>decide (a.1=(Sum.inr (tx k):z0)))=decide (k∈l.map (·.1)):=by
 induction l with
 |nil=>rfl
 |cons p r ih=>
  rw[zAJ,e8,ih]
  by_cases e:p.1=k
  ·have:decide ((Sum.inr (tx p.1):z0)=Sum.inr (tx k))=true:=decide_eq_true (zAt.mpr e)
   rw[this,qz]
   exact(decide_eq_true (by rw[<-e];exact ar ..)).symm
  ·have:decide ((Sum.inr (tx p.1):z0)=Sum.inr (tx k))=false:=decide_eq_false (fun z=>e (zAt.mp z))
   rw[this,qi]
   congr 1
   have b:¬k=p.1:=fun z=>e z.symm
   simp[b]
theorem zAu (f:α->V)(l:List (S×α))(k:S)(v:α)(nd:(l.map (·.1)).Nodup):uJ (vN f l) (Sum.inr (tx k)) (f v)=vN f (yA l k v):=by
 unfold uJ
 rw[zMh]
 by_cases c:k∈l.map (·.1)
 ·rw[if_pos (decide_eq_true c)]
  induction l with
  |nil=>cases c
  |cons p r ih=>
   obtain⟨a,b⟩:=p
   have d:=cx.mp nd
   rw[zAJ,ba]
   by_cases e:a=k
   ·subst e
    have g:yA ((a,b)::r) a v=(a,v)::r:=by simp[yA]
    rw[g,zAJ]
    congr 1
    ·simp
    ·have:∀q∈vN f r,(if q.1=(Sum.inr (tx a):z0)then(q.1,f v)else q)=q:=fun q i=>by
      rw[if_neg]
      intro z
      obtain⟨s,j,m⟩:=aX.mp i
      obtain⟨s',h,n⟩:=aX.mp j
      have:s.1=tx s'.1:=by rw[<-n]
      have o:q.1=(Sum.inr (tx s'.1):z0):=by rw[<-m,this]
      rw[o]at z
      exact d.1 (aX.mpr ⟨s',h,zAt.mp z⟩)
     have t:=dw this
     rw[t];simp
   ·have g:yA ((a,b)::r) k v=(a,b)::yA r k v:=by simp[yA,e]
    rw[g,zAJ]
    congr 1
    ·rw[if_neg (fun z=>e (zAt.mp z))]
    ·exact ih d.2 (by
      rcases aQ.mp c with z|z
      ·exact absurd z.symm e
      ·exact z)
 ·rw[if_neg (by simpa using c)]
  clear nd
  induction l with
  |nil=>rfl
  |cons p r ih=>
   obtain⟨a,b⟩:=p
   have e:¬a=k:=fun z=>c (by rw[<-z];exact ar ..)
   have g:yA ((a,b)::r) k v=(a,b)::yA r k v:=by simp[yA,e]
   rw[g,zAJ,zAJ,dt,ih fun z=>c (aG _ z)]
theorem zHQ {β:Type}(l:List (S×β))(k:S)(v:β):(yA l k v).length<=l.length+1:=by
 induction l with
 |nil=>simp[yA]
 |cons p r ih=>
  obtain⟨a,b⟩:=p
  by_cases e:a=k
  ·simp[yA,e]
  ·simp[yA,e];omega
theorem zMi {β γ:Type}(g:β->γ)(l:List (S×β))(k:S)(v:β):(yA l k v).map (fun p=>(p.1,g p.2))=yA (l.map fun p=>(p.1,g p.2)) k (g v):=by
 induction l with
 |nil=>rfl
 |cons p r ih=>
  obtain⟨a,b⟩:=p
  by_cases e:a=k
  ·simp[yA,e]
  ·simp[yA,e,ih]
theorem zHR {β γ:Type}(g:β->γ)(l:List (S×β))(k:S):zV (l.map fun p=>(p.1,g p.2)) k=(zV l k).map g:=by
 induction l with
 |nil=>rfl
 |cons p r ih=>
  obtain⟨a,b⟩:=p
  by_cases e:a=k
  ·simp[zV,e]
  ·simp[zV,e,ih]
theorem zCP {β:Type}{l:List (S×β)}{k:S}{v:β}{q:S×β}(h:q∈yA l k v):q=(k,v)\/(q∈l/\(q.1≠k\/(l.map (·.1)).Nodup->q.1≠k)):=by
 induction l with
 |nil=>simp[yA]at h;exact .inl h
 |cons p r ih=>
  obtain⟨a,b⟩:=p
  by_cases e:a=k
  ·subst e
   have c:yA ((a,b)::r) a v=(a,v)::r:=by simp[yA]
   rw[c]at h
   rcases aQ.mp h with z|z
   ·exact .inl z
   ·refine .inr ⟨aG _ z,?_⟩
    rintro(w|w)
    ·exact w
    ·intro d
     exact(cx.mp w).1 (by rw[<-d];exact mW (f:=(·.1)) z)
  ·have c:yA ((a,b)::r) k v=(a,b)::yA r k v:=by simp[yA,e]
   rw[c]at h
   rcases aQ.mp h with z|z
   ·subst z
    exact .inr ⟨ar ..,fun _=>e⟩
   ·rcases ih z with w|⟨g,i⟩
    ·exact .inl w
    ·refine .inr ⟨aG _ g,?_⟩
     rintro(u|u)
     ·exact u
     ·exact i (.inr (cx.mp u).2)
theorem zAL {β:Type}(l:List (S×β))(k:S)(v:β)(h:k∉l.map (·.1)):yA l k v=l++[(k,v)]:=by
 induction l with
 |nil=>rfl
 |cons q r ih=>
  obtain⟨a,b⟩:=q
  have e:¬a=k:=fun z=>h (by rw[<-z];exact ar ..)
  have c:yA ((a,b)::r) k v=(a,b)::yA r k v:=by simp[yA,e]
  rw[c,ih fun z=>h (aG _ z)];rfl
theorem zHS {β γ:Type}(g:β->γ)(l:List (S×β))(k:S)(v u:β)(h:zV l k=some u)(e:g v=g u):(yA l k v).map (fun p=>(p.1,g p.2))=l.map fun p=>(p.1,g p.2):=by
 induction l with
 |nil=>cases h
 |cons p r ih=>
  obtain⟨a,b⟩:=p
  by_cases c:a=k
  ·have:b=u:=by simpa [zV,c]using h
   subst this
   simp[yA,c,e]
  ·have h':zV r k=some u:=by simpa [zV,c]using h
   simp[yA,c,ih h']
theorem zCQ (d:List (S×S)):(qP d).length<=d.length/\∀r∈qP d,r.2.length<=d.length:=by
 have key:∀(c:List (S×S)) (rows:List (S×List (S×Int))) (n:Nat),(rows.length<=n/\∀r∈rows,r.2.length<=n)->(c.foldl qX rows).length<=n+c.length/\∀r∈c.foldl qX rows,r.2.length<=n+c.length:=by
  intro c
  induction c with
  |nil=>intro rows n h;simpa using h
  |cons q c ih=>
   intro rows n h
   have:=ih (qX rows q) (n+1) ⟨?_,fun r j=>?_⟩
   ·rw[eW,bJ]
    have e:n+(c.length+1)=n+1+c.length:=by omega
    rw[e];exact this
   ·have:=zHQ rows q.1 (vV ((zV rows q.1).getD []) q.2)
    unfold qX;omega
   ·rcases zCP j with e|⟨e,_⟩
    ·rw[e]
     have l:=zHQ ((zV rows q.1).getD []) q.2 ((zV ((zV rows q.1).getD []) q.2).getD 0+1)
     have o:((zV rows q.1).getD []).length<=n:=by
      cases g:zV rows q.1 with
      |none=>simp
      |some row=>
       have m:(q.1,row)∈rows:=by
        clear h j e l
        induction rows with
        |nil=>cases g
        |cons p r f=>
         obtain⟨a,b⟩:=p
         by_cases i:a=q.1
         ·have:b=row:=by simpa [zV,i]using g
          subst this;subst i
          exact ar ..
         ·exact aG _ (f (by simpa [zV,i]using g))
       exact h.2 _ m
     show(vV _ _).length<=_
     unfold vV;omega
    ·have:=h.2 r e;omega
 have:=key d [] 0 ⟨aH _,by simp⟩
 simpa [qP]using this
end
abbrev yG (row:List (S×Int)):List (z0×V):=vN V.int row
structure RA (H0 H:Hp) (d:ai) (ps:List (S×S)) (ra:List (S×ai×List (S×Int))):Prop where
 rows:ra.map (fun r=>(r.1,r.2.2))=qP ps
 top:H d=some (.dK (vN (fun v:ai×List (S×Int)=>V.ref v.1) ra))
 row:∀r∈ra,H r.2.1=some (.dK (yG r.2.2))
 new:∀r∈ra,H0 r.2.1=none/\r.2.1≠d
 nda:(ra.map fun r=>r.2.1).Nodup
def j8 (H:Hp)(d:ai)(ps:List (S×S)):Prop:=∃ra:List (S×ai×List (S×Int)),ra.map (fun r=>(r.1,r.2.2))=qP ps/\H d=some (.dK (vN (fun v:ai×List (S×Int)=>V.ref v.1) ra))/\∀r∈ra,H r.2.1=some (.dK (yG r.2.2))
theorem j8.same {H H':Hp}{d:ai}{a:List (S×S)}(h:j8 H d a)(e:zA H H'):j8 H' d a:=by
 obtain⟨b,c,f,g⟩:=h
 exact⟨b,c,e _ _ f,fun r i=>e _ _ (g r i)⟩
section
variable{P:aP}{w:bc}{K:ae}{mg:Str->Option ah}{base:bK}
def zBU:Sp:=fun vs H Q _=>∃(a:ai) (bk:List S) (o:Nat),vs=[.ref a,.int o]/\H a=some (.tup (zR bk))/\bk.length<=8/\(∀x∈bk,x.length<=8)/\1<=o/\∀d H',zA H H'->H d=none->j8 H' d (zJ o bk)->Q (.ref d) H'
abbrev zEA:cJ:=top 26
theorem zHT:FnScope ["book","order","rows","name","end","letter","row"] ["book","order"] (defScope zEA):=yC
theorem zBV {c H:Hp}{d:ai}{a:List (S×S)}{b:List (S×ai×List (S×Int))}(R:RA c H d a b):(b.map (·.1)).Nodup:=by
 have h:=(zAq a).nd
 rw[<-R.rows,cp]at h
 exact h
theorem RA.step {s H q:Hp}{d ad:ai}{z:List (S×S)}{c:List (S×ai×List (S×Int))}(R:RA s H d z c)(p:S×S)(row:List (S×Int))(n:row=((zV c p.1).map (·.2)).getD [])
  (l:∀v,zV c p.1=some v->v.1=ad) (f:zV c p.1=none->s ad=none/\ad≠d/\ad∉c.map fun r=>r.2.1)
  (C:q ad=some (.dK (yG (vV row p.2)))) (D:q d=some (.dK (vN (fun v:ai×List (S×Int)=>V.ref v.1) (yA c p.1 (ad,vV row p.2))))) (E:∀r∈c,r.2.1≠ad->q r.2.1=some (.dK (yG r.2.2))) :
  RA s q d (z++[p]) (yA c p.1 (ad,vV row p.2)):=by
 have nd:=zBV R
 have h:∀v,zV c p.1=some v->(p.1,v)∈c:=fun v t=>(k8 nd p.1 v).mpr t
 have u:∀r∈c,r.1≠p.1->r.2.1≠ad:=fun r m x e=>by
  cases g:zV c p.1 with
  |none=>exact(f g).2.2 (aX.mpr ⟨r,m,e⟩)
  |some v=>
   have t:=h v g
   have ev:=l v g
   have:r=(p.1,v):=by
    obtain⟨i,hi,A⟩:=dv m
    obtain⟨j,F,B⟩:=dv t
    have y:i=j:=by
     refine(fh (xs:=c.map fun r=>r.2.1) (h₀:=by simpa using hi) (h₁:=by simpa using F) R.nda).mp ?_
     rw[f9,f9,A,B]
     show r.2.1=v.1
     rw[e,ev]
    subst y
    rw[<-A,<-B]
   exact x (by rw[this])
 refine⟨?_,D,fun r m=>?_,fun r m=>?_,?_⟩
 ·rw[zMI,<-R.rows]
  unfold qX
  have e:=zMi (fun v:ai×List (S×Int)=>v.2) c p.1 (ad,vV row p.2)
  rw[e]
  have o:=zHR (fun v:ai×List (S×Int)=>v.2) c p.1
  rw[o,<-n]
 ·rcases zCP m with e|⟨e,G⟩
  ·rw[e];exact C
  ·exact E r e (u r e (G (.inr nd)))
 ·rcases zCP m with e|⟨e,_⟩
  ·rw[e]
   cases g:zV c p.1 with
   |none=>exact⟨(f g).1,(f g).2.1⟩
   |some v=>
    have:=R.new _ (h v g)
    rw[<-l v g];exact this
  ·exact R.new r e
 ·cases g:zV c p.1 with
  |none=>
   have I:p.1∉c.map (·.1):=zCC.mp g
   have e:=zAL c p.1 (ad,vV row p.2) I
   rw[e,az]
   refine iH.mpr ⟨R.nda,by simp,fun a J b L o=>?_⟩
   have:b=ad:=by simpa using L
   exact(f g).2.2 (by rw[<-this,<-o];exact J)
  |some v=>
   have e:=zHS (fun v:ai×List (S×Int)=>v.1) c p.1 (ad,vV row p.2) v g (l v g).symm
   have o:(yA c p.1 (ad,vV row p.2)).map (fun r=>r.2.1)=c.map fun r=>r.2.1:=by
    have:=congrArg (sN lE) e
    rw[cp,cp]at this
    exact this
   rw[o];exact R.nda
def j9 (H H':Hp):Prop:=∀b o,H b=some o->(∀kvs,o≠.dK kvs)->H' b=some o
theorem j9.upd {H:Hp}{a:ai}{kvs:List (z0×V)}{u:HO}(h:H a=some (.dK kvs)):j9 H (upd H a u):=fun b o e c=>by
 rw[zN]
 ·exact e
 ·rintro rfl;rw[h]at e;exact c kvs (aw e).symm
theorem j9.sqL {H H':Hp}(e:j9 H H'){a:ai}{xs:List V}(h:z9 K H a xs):z9 K H' a xs:=by
 rcases h with(h|⟨o,h⟩)|h
 ·exact .inl (.inl (e _ _ h (by intro z w;cases w)))
 ·exact .inl (.inr ⟨o,e _ _ h (by intro z w;cases w)⟩)
 ·exact .inr h
theorem j9.sqT {H H':Hp}(e:j9 H H'){a:ai}{xs:List V}(h:yH K H a xs):yH K H' a xs:=by
 rcases h with(h|⟨o,h⟩)|h
 ·exact .inl (.inl (e _ _ h (by intro z w;cases w)))
 ·exact .inl (.inr ⟨o,e _ _ h (by intro z w;cases w)⟩)
 ·exact .inr h
mutual
theorem yD.sameQ {H H':Hp}(e:j9 H H'):∀(d:bW) (v:V),yD K H d v->yD K H' d v
 | .none,v,h=>h
 | .bool b,v,h=>h
 | .int i,v,h=>h
 | .str x,v,h=>h
 | .list ds,v,h=>by
  obtain⟨a,xs,c,f,g⟩:=h
  exact⟨a,xs,c,e.sqL f,Reps.sameQ e ds xs g⟩
 | .tuple ds,v,h=>by
  obtain⟨a,xs,c,f,g⟩:=h
  exact⟨a,xs,c,e.sqT f,Reps.sameQ e ds xs g⟩
 | .dict _,v,h=>h
theorem Reps.sameQ {H H':Hp}(e:j9 H H'):∀(ds:List bW) (xs:List V),Reps K H ds xs->Reps K H' ds xs
 | [],xs,h=>h
 |d::ds,xs,h=>by
  obtain⟨y,ys,a,b,c⟩:=h
  exact⟨y,ys,a,yD.sameQ e d y b,Reps.sameQ e ds ys c⟩
end
theorem zEB {β:Type}(g:β->V)(l:List (S×β))(k:S)(v u:β)(h:zV l k=some u)(e:g v=g u):vN g (yA l k v)=vN g l:=by
 have:=zHS g l k v u h e
 unfold vN
 have a:∀m:List (S×β),m.map (fun p=>(tx p.1,g p.2))=(m.map fun p=>(p.1,g p.2)).map fun q=>(tx q.1,q.2):=fun m=>by rw[cp];rfl
 rw[a,a,this]
theorem zEC {f H:Hp}{d:ai}{a:List (S×S)}{g:List (S×ai×List (S×Int))}(R:RA f H d a g){e:S}{v:ai×List (S×Int)}(h:zV g e=some v) :
  H v.1=some (.dK (yG v.2))/\(v.2.map (·.1)).Nodup/\v.2.length<=a.length/\f v.1=none/\v.1≠d:=by
 have c:=(k8 (zBV R) e v).mpr h
 have b:(e,v.2)∈qP a:=by rw[<-R.rows];exact aX.mpr ⟨(e,v),c,rfl⟩
 exact⟨R.row _ c,(zAq a).ndr e v.2 b,(zCQ a).2 _ b,(R.new _ c).1,(R.new _ c).2⟩
theorem zMj {f:ai}{fd:aO}(F:Fun K "counted_rows" "counted_rows" zEA f fd)(ac:zQ P w K mg base 2 "ends_and_letters" ["name","order"] (zBR K)):FnOk P w K mg base zU 3 f fd ["book","order"] zBU:=by
 refine F.ok zHT (fun vs H Q E h=>?_) (fun bl A outer s H vs Q E m h=>?_)
 ·obtain⟨a,bk,o,rfl,_⟩:=h;rfl
 ·obtain⟨a,bk,o,rfl,ha,bm,ap,ho,k⟩:=h
  have hu:=jT m
  have nd:=zHT.nd
  refine⟨_,zG (zX (i:=2) nd rfl (Or.inl rfl) kU)
   (zG (uA bI rfl (zAd (pv 0)) (zY (i:=3) nd rfl (Or.inl rfl))
    (zH (uA bI rfl (vQ (zL ac m rfl (zB (pv 3) (zB (pv 1) zC))))
     (zDE rfl (u6 (zY (i:=4) nd rfl (Or.inl rfl)) (u6 (zY (i:=5) nd rfl (Or.inl rfl)) gJ)))
     (zG (zX (i:=6) nd rfl (Or.inl rfl) (zAE ir jc PySem.F.type_dict_setdefault zMA (pv 2) (zB (pv 4) (zB kU zC))))
      (zH (zBO hu (pv 6) (pv 5) (zP vD (gO hu (pv 6) (pv 5) zF ⟨rfl,rfl,rfl,rfl⟩) zF) rfl))))))
   (zH (zT (pv 2)))),?_⟩
  intro d hd
  have s1:zA H (upd H d (.dK [])):=zA.upd1 hd
  refine⟨_,rfl,a,rfl,⟨_,.of (s1 _ _ ha)⟩,?_⟩
  refine uG (zAp K a (zR bk)) (fun i σ H'=>(∃x y z u:Option V,σ=[some (.ref a),some (.int o),some (.ref d),x,y,z,u])/\zA H H'/\∃T,RA H H' d (zJ o (bk.take i)) T)
   ⟨⟨_,_,_,_,rfl⟩,s1,[],⟨rfl,zD,by simp,by simp,by simp⟩⟩ (fun i σ H' _ h=>.of (h.2.1 _ _ ha)) ?_ ?_
  ·rintro i x σ H' Nx hN hx ⟨⟨x1,x2,x3,x4,rfl⟩,sm,T,R⟩
   rw[zR,aF]at hx
   cases e:bk[i]? with
   |none=>rw[e]at hx;cases hx
   |some nm=>
   rw[e]at hx
   have aB:x=sv nm:=(aw hx).symm
   subst aB
   have bn:=ap nm (aS e)
   have hi:i<bk.length:=(aa.mp e).1
   have aj:bk.take (i+1)=bk.take i++[nm]:=by
    rw[ak hi]
    have:=(aa.mp e).2
    rw[this]
   have n:zJ o (bk.take (i+1))=zJ o (bk.take i)++zM o nm:=by
    rw[aj,zDr];simp[zJ]
   have aC:((zJ o (bk.take (i+1))).length:Int)<=100:=by
    rw[zCE]
    have go:∀l:List S,(∀x∈l,x.length<=8)->(l.map fun x=>(x.length:Int)+1).sum<=9*(l.length:Int):=by
     intro l
     induction l with
     |nil=>intro _;simp
     |cons x r ih=>
      intro hl
      have h1:=hl x (ar ..)
      have h2:=ih fun y hy=>hl y (aG _ hy)
      rw[ba,dD,bJ]
      have:((r.length+1:Nat):Int)=(r.length:Int)+1:=rfl
      omega
    have:=go (bk.take (i+1)) fun x hx=>ap x (dk hx)
    have h3:(bk.take (i+1)).length<=8:=by rw[aL];omega
    omega
   refine⟨_,rfl,_,rfl,nm,o,rfl,ho,by omega,fun l xs Hl sml aD U rp=>?_⟩
   refine⟨l,rfl,⟨_,.of U⟩,?_⟩
   have R1:RA H Hl d (zJ o (bk.take i)) T:=⟨R.rows,sml _ _ R.top,fun r m=>sml _ _ (R.row r m),R.new,R.nda⟩
   have bo:H l=none:=sm.free aD
   have aE:l≠d:=zBK U (sml _ _ R.top) (by intro z;cases z)
   refine uG (vH K l xs) (fun j σ q=>(∃y z u:Option V,σ=[some (.ref a),some (.int o),some (.ref d),some (sv nm),y,z,u])/\zA H q/\q l=some (.lst xs)/\Reps K q ((zM o nm).map v6) xs/\∃T,RA H q d (zJ o (bk.take i)++(zM o nm).take j) T/\∀r∈T,r.2.1≠l)
    ⟨⟨_,_,_,rfl⟩,sm.trans sml,U,rp,T,by simpa using R1,fun r m=>zBK (R1.row r m) U (by intro z;cases z)⟩ (fun j σ q _ h=>.of h.2.2.1) ?_ ?_
   ·rintro j x σ q al aK hx2 ⟨⟨y,z,u,rfl⟩,C,hl2,D,b,R2,aN⟩
    obtain⟨dd,G,rx⟩:=D.get hx2
    rw[aF]at G
    cases ep:(zM o nm)[j]? with
    |none=>rw[ep]at G;cases G
    |some p=>
    rw[ep]at G
    have aW:dd=v6 p:=(aw G).symm
    subst aW
    obtain⟨a0,bp,rfl,a1,y1,bi,rfl,a2,y2,as,rfl,a3,av⟩:=rx
    have a4:y1=sv p.1:=a2
    have a5:y2=sv p.2:=a3
    have en:as=[]:=av
    subst a4 a5 en
    have hj:j<(zM o nm).length:=(aa.mp ep).1
    have ay:zJ o (bk.take i)++(zM o nm).take (j+1)=(zJ o (bk.take i)++(zM o nm).take j)++[p]:=by
     rw[ak hj,(aa.mp ep).2,fK]
    generalize a6:zJ o (bk.take i)++(zM o nm).take j=ps at R2 ay
    have bt:ps.length<=100:=by
     have h1:ps.length<=(zJ o (bk.take (i+1))).length:=by
      rw[<-a6,n,aq,aq,aL];omega
     omega
    have bj:b.length<=100:=by
     have h1:=(zCQ ps).1
     rw[<-R2.rows,af]at h1
     omega
    refine⟨a0,[sv p.1,sv p.2],rfl,a1,rfl,_,_,rfl,_,_,rfl,rfl,?_⟩
    refine⟨_,rfl,.inr (.inr (.inl ⟨rfl,.inl ⟨_,R2.top⟩⟩)),_,rfl,fun t W=>?_⟩
    have Z:H t=none:=C.free W
    have X:d≠t:=vJ R2.top W
    have s3:zA q (upd q t (.dK [])):=zA.upd1 W
    have fin:∀(ad:ai) (row:List (S×Int)) (I:Hp),I ad=some (.dK (yG row))->(row.map (·.1)).Nodup->row.length<=100->(∀J,J=upd I ad (.dK (yG (vV row p.2)))->al [some (.ref a),some (.int o),some (.ref d),some (sv nm),some (sv p.1),some (sv p.2),some (.ref ad)] J)->
      zBv (v8 6) (v8 5) (gK (jY fun i j=>V.int (i+j)) (zBw (v8 6) (v8 5) (tC (.int 0))) (tC (.int 1))) {nx:=al,rt:=Q,bk:=fun _ _=>False,ct:=fun _ _=>False} [some (.ref a),some (.int o),some (.ref d),some (sv nm),some (sv p.1),some (sv p.2),some (.ref ad)] I:=by
     intro ad row I c a7 bv hq
     refine⟨_,rfl,ad,rfl,.inl ⟨_,.inl c⟩,_,rfl,_,vR.k (k:=Sum.inr (tx p.2)) c,(zV row p.2).getD 0,1,?_,rfl,?_⟩
     ·rw[qB]
      cases zV row p.2<;>rfl
     ·refine⟨_,rfl,_,rfl,ad,_,rfl,kT.k (k:=Sum.inr (tx p.2)) c (by rw[zAK,aR];omega),hq _ ?_⟩
      rw[zAu V.int row p.2 _ a7]
      rfl
    have B:∀(ad:ai) (row:List (S×Int)) (I J:Hp),zA H I->H ad=none->I l=some (.lst xs)->Reps K I ((zM o nm).map v6) xs->J=upd I ad (.dK (yG (vV row p.2)))->I ad=some (.dK (yG row))->RA H J d (ps++[p]) (yA b p.1 (ad,vV row p.2))->
      al [some (.ref a),some (.int o),some (.ref d),some (sv nm),some (sv p.1),some (sv p.2),some (.ref ad)] J:=by
     intro ad row I J sx a8 Y a9 L c RR
     have ab:ad≠l:=zBK c Y (by intro z;cases z)
     subst L
     refine aK _ _ ⟨⟨_,_,_,rfl⟩,sx.upd_new a8,by rw[zN ab.symm];exact Y,Reps.sameQ (j9.upd c) _ _ a9,_,by rw[ay];exact RR,fun r m=>?_⟩
     rcases zCP m with e|⟨e,_⟩
     ·rw[e];exact ab
     ·exact aN r e
    have hx3:upd q t (.dK []) d=some (.dK (vN (fun v:ai×List (S×Int)=>V.ref v.1) b)):=by rw[zN X];exact R2.top
    have hl3:upd q t (.dK []) l=some (.lst xs):=s3 _ _ hl2
    have hr3:∀r∈b,upd q t (.dK []) r.2.1=some (.dK (yG r.2.2)):=fun r m=>s3 _ _ (R2.row r m)
    have bb:∀r∈b,r.2.1≠t:=fun r m=>vJ (R2.row r m) W
    refine⟨d,_,Sum.inr (tx p.1),_,rfl,rfl,hx3,by rw[zAK,aR];omega,fun yv M=>?_,fun am=>?_⟩
    ·
     rw[qB]at M
     cases g:zV b p.1 with
     |none=>rw[g]at M;cases M
     |some v=>
     rw[g]at M
     have ev:yv=.ref v.1:=(aw M).symm
     subst ev
     obtain⟨r1,r2,r3,r4,r5⟩:=zEC R2 g
     have N:upd q t (.dK []) v.1=some (.dK (yG v.2)):=s3 _ _ r1
     refine fin v.1 v.2 _ N r2 (by omega) fun J L=>B v.1 v.2 _ J (C.trans s3) r4 hl3 (Reps.same s3 _ _ D) L N ?_
     refine R2.step p v.2 (by rw[g];rfl) (fun v' O=>by rw[g]at O;rw[aw O]) (fun hn=>by rw[g]at hn;cases hn) (by rw[L,zD]) ?_ fun r m an=>?_
     ·rw[L,zN r5.symm,hx3]
      have:=zEB (fun v:ai×List (S×Int)=>V.ref v.1) b p.1 (v.1,vV v.2 p.2) v g rfl
      rw[this]
     ·rw[L,zN an];exact hr3 r m
    ·
     rw[qB]at am
     have g:zV b p.1=none:=by
      cases g:zV b p.1 with
      |none=>rfl
      |some v=>rw[g]at am;cases am
     have be:=zAu (fun v:ai×List (S×Int)=>V.ref v.1) b p.1 (t,[]) (zBV R2)
     have aA:upd (upd q t (.dK [])) d (.dK (uJ (vN (fun v:ai×List (S×Int)=>V.ref v.1) b) (Sum.inr (tx p.1)) (.ref t))) t=some (.dK (yG [])):=by
      rw[zN X.symm,zD];rfl
     refine fin t [] _ aA (by simp) (by simp) fun J L=>B t [] _ J ((C.trans s3).upd_new hd) Z (by rw[zN aE];exact hl3) (Reps.sameQ (j9.upd hx3) _ _ (Reps.same s3 _ _ D)) L aA ?_
     refine R2.step p [] (by rw[g];rfl) (fun v' O=>by rw[g]at O;cases O) (fun _=>⟨Z,X.symm,fun hm=>?_⟩) (by rw[L,zD]) ?_ fun r m an=>?_
     ·obtain⟨r,m,e⟩:=aX.mp hm
      exact bb r m e
     ·rw[L,zN X,zD,be]
      congr 2
      have hk:p.1∉b.map (·.1):=zCC.mp g
      rw[zAL _ _ _ hk,zAL _ _ _ hk]
      unfold vN gP
      rw[az,az,az,az]
      rfl
     ·rw[L,zN an,zN (R2.new r m).2];exact hr3 r m
   ·rintro σ q ⟨⟨y,z,u,rfl⟩,C,hl2,D,b,R2,_⟩
    refine hN _ _ ⟨⟨_,_,_,_,rfl⟩,C,b,?_⟩
    rw[n]
    have Y:xs.length=(zM o nm).length:=by have:=D.length;simpa using this.symm
    rw[Y,aV]at R2
    exact R2
  ·rintro σ H' ⟨⟨x1,x2,x3,x4,rfl⟩,sm,T,R⟩
   refine⟨_,rfl,k d H' sm hd ⟨T,?_,R.top,R.row⟩⟩
   rw[R.rows]
   have:(zR bk).length=bk.length:=by simp[zR]
   rw[this,aV]
theorem zHU {a b:Int}(c:0<=a)(d:0<b):ig b (a%b)=ig a b:=by
 obtain⟨x,rfl⟩:=cV c
 obtain⟨y,rfl⟩:=cV (cZ d)
 have e:((x:Int)%(y:Int))=((x%y:Nat):Int):=rfl
 rw[e]
 show ri y (x%y)=ri x y
 rw[lZ y (x%y),<-Nat.gcd_rec,lZ]
def zHV:Sp:=fun vs H Q _=>∃u d:Int,vs=[.int u,.int d]/\0<=u/\0<d/\d<1073741824/\Q (.int (vU u d)) H
abbrev zED:cJ:=top 30
theorem zHW:FnScope ["one","other","rest"] ["one","other"] (defScope zED):=yC
abbrev frO (q:Int×Int):HO:=.tup [.int q.1,.int q.2]
def zCR:Sp:=fun vs H Q _=>∃u d:Int,vs=[.int u,.int d]/\0<=u/\0<d/\d<1073741824/\∀p,H p=none->Q (.ref p) (upd H p (frO (low u d)))
abbrev zEE:cJ:=top 31
theorem zHX:FnScope ["up","down","divisor"] ["up","down"] (defScope zEE):=yC
structure Sm (q:Int×Int):Prop extends Fq q where
 u1:q.1<1073741824
 d1:q.2<1073741824
def yV (K:ae)(H:Hp)(v:V)(q:Int×Int):Prop:=∃a,v=.ref a/\yH K H a [.int q.1,.int q.2]
theorem yV.same {H H':Hp}{v:V}{q:Int×Int}(h:yV K H v q)(e:zA H H'):yV K H' v q:=by
 obtain⟨a,b,c⟩:=h
 exact⟨a,b,e.seqT c⟩
theorem yV.new {H:Hp}{p:ai}{q:Int×Int}:yV K (upd H p (frO q)) (.ref p) q:=⟨p,rfl,.of zD⟩
theorem yV.rep {H:Hp}{v:V}{q:Int×Int}(h:yV K H v q):yD K H (.tuple [.int q.1,.int q.2]) v:=by
 obtain⟨a,b,c⟩:=h
 exact⟨a,_,b,c,_,_,rfl,rfl,_,_,rfl,rfl,rfl⟩
theorem yV.of_rep {H:Hp}{v:V}{q:Int×Int}(h:yD K H (.tuple [.int q.1,.int q.2]) v):yV K H v q:=by
 obtain⟨a,xs,b,c,y,ys,rfl,d,z,e,rfl,f,g⟩:=h
 have i:y=.int q.1:=d
 have j:z=.int q.2:=f
 have l:e=[]:=g
 subst i j l
 exact⟨a,b,c⟩
def zHY (K:ae):Sp:=fun vs H Q _=>∃(x y:V) (p q:Int×Int),vs=[x,y]/\yV K H x p/\yV K H y q/\Sm p/\Sm q/\p.2*q.2<1073741824/\∀a,H a=none->Q (.ref a) (upd H a (frO (v5 p q)))
def zHZ (K:ae):Sp:=fun vs H Q _=>∃(x y:V) (p q:Int×Int),vs=[x,y]/\yV K H x p/\yV K H y q/\Sm p/\Sm q/\Q (.bl (lss p q)) H
abbrev zEF:cJ:=top 32
abbrev zCS:cJ:=top 33
theorem zMk:FnScope ["one","other"] ["one","other"] (defScope zEF):=yC
theorem zHa:FnScope ["one","other"] ["one","other"] (defScope zCS):=yC
theorem cm {p:Int}(a:0<=p)(b:p<1073741824)(q:Int):zAf p q:=.inl ⟨by omega,by omega⟩
theorem zMl {f:ai}{fd:aO}(F:Fun K "times" "times" zEF f fd)(l:zQ P w K mg base 2 "lowest" ["up","down"] zCR):FnOk P w K mg base zU 3 f fd ["one","other"] (zHY K):=by
 refine F.ok zMk (fun vs H Q E h=>?_) (fun m A outer s H vs Q E n h=>?_)
 ·obtain⟨x,y,p,q,rfl,_⟩:=h;rfl
 ·obtain⟨x,y,p,q,rfl,⟨a,rfl,d⟩,⟨b,rfl,e⟩,sp,g,c,k⟩:=h
  refine⟨_,zH (zT (zL l n rfl (zB (zP uO (yS uI (pv 0) zF (fun _ _=>rfl)) (yS uI (pv 1) zF (fun _ _=>rfl)))
   (zB (zP uO (yS uI (pv 0) zF (fun _ _=>rfl)) (yS uI (pv 1) zF (fun _ _=>rfl))) zC)))),?_⟩
  have i:=sp.up;have o:=g.up;have j:=sp.dn;have r:=g.dn
  refine⟨_,rfl,a,_,0,_,rfl,rfl,d,rfl,_,rfl,b,_,0,_,rfl,rfl,e,rfl,_,_,rfl,rfl,cm i sp.u1 _,?_⟩
  refine⟨_,rfl,a,_,1,_,rfl,rfl,d,rfl,_,rfl,b,_,1,_,rfl,rfl,e,rfl,_,_,rfl,rfl,cm (cZ j) sp.d1 _,?_⟩
  exact⟨_,_,rfl,d7 i o,dz j r,c,k⟩
theorem zMm {f:ai}{fd:aO}(F:Fun K "is_less" "is_less" zCS f fd):FnOk P w K mg base zU 1 f fd ["one","other"] (zHZ K):=by
 refine F.ok zHa (fun vs H Q E h=>?_) (fun g A outer s H vs Q E l h=>?_)
 ·obtain⟨x,y,p,q,rfl,_⟩:=h;rfl
 ·obtain⟨x,y,p,q,rfl,⟨a,rfl,c⟩,⟨b,rfl,d⟩,sp,e,k⟩:=h
  refine⟨_,zH (zT (kQ zBn (zP uO (yS uI (pv 0) zF (fun _ _=>rfl)) (yS uI (pv 1) zF (fun _ _=>rfl))) (zP uO (yS uI (pv 1) zF (fun _ _=>rfl)) (yS uI (pv 0) zF (fun _ _=>rfl))) (yY _))),?_⟩
  have i:=sp.up;have j:=e.up
  refine⟨_,rfl,a,_,0,_,rfl,rfl,c,rfl,_,rfl,b,_,1,_,rfl,rfl,d,rfl,_,_,rfl,rfl,cm i sp.u1 _,?_⟩
  exact⟨_,rfl,b,_,0,_,rfl,rfl,d,rfl,_,rfl,a,_,1,_,rfl,rfl,c,rfl,_,_,rfl,rfl,cm j e.u1 _,_,_,rfl,rfl,k⟩
end
theorem zMn {a:List (S×S)}{e:S}{xs:List (S×Int)}(nd:(xs.map (·.1)).Nodup)(mem:∀l n,(l,n)∈xs↔n=(a.count (e,l):Int)/\0<n):(xs.map (·.2)).sum=(tot a e:Int):=by
 have h:=zCD (a.filter fun p=>decide (p.1=e)) (xs.map fun p=>(e,p.1)) ?_ ?_
 ·unfold tot
  rw[<-h,cp]
  congr 1
  apply dw
  rintro⟨l,n⟩ b
  have:=((mem l n).mp b).1
  show n=(ik (e,l) (a.filter fun p=>decide (p.1=e)):Int)
  rw[ko (by simp)]
  exact this
 ·have:=nd
  rw[nz,dy]at this⊢
  exact this.imp fun{p q} c z=>c (congrArg lE z)
 ·rintro⟨f,l⟩ b
  obtain⟨g,i⟩:=bF.mp b
  have d:f=e:=by simpa using i
  subst d
  exact aX.mpr ⟨(l,(a.count (f,l):Int)),(mem l _).mpr ⟨rfl,by
   have:=dF.mpr g
   omega⟩,rfl⟩
def yO (ps:List (S×S))(e:S):List (S×Int):=(zV (qP ps) e).getD []
theorem zAv (a:List (S×S))(e:S):((yO a e).map (·.1)).Nodup:=by
 unfold yO
 cases g:zV (qP a) e with
 |none=>simp
 |some row=>exact(zAq a).ndr e row ((k8 (zAq a).nd e row).mpr g)
theorem zAw (a:List (S×S))(e l:S):zV (yO a e) l=if 0<a.count (e,l)then some (a.count (e,l):Int)else none:=(zAq a).val e l
theorem zCT (a:List (S×S))(e l:S)(n:Int):(l,n)∈yO a e↔n=(a.count (e,l):Int)/\0<n:=by
 rw[k8 (zAv a e),zAw]
 by_cases c:0<a.count (e,l)
 ·rw[if_pos c]
  constructor
  ·intro z
   have:=aw z
   omega
  ·rintro⟨z,_⟩;rw[z]
 ·rw[if_neg c]
  constructor
  ·intro z;cases z
  ·rintro⟨b,d⟩;omega
theorem zCU (a:List (S×S))(e:S):((yO a e).map (·.2)).sum=(tot a e:Int):=zMn (zAv a e) (zCT a e)
theorem tot_le (a:List (S×S))(e:S):tot a e<=a.length:=bC ..
structure Cst2 (K:ae) (mg:Str->Option ah):Prop where
 nought:∃a,mg "NOUGHT"=some (.ref a)/\∀H,yH K H a [.int 0,.int 1]
 whole:∃a,mg "WHOLE"=some (.ref a)/\∀H,yH K H a [.int 1,.int 1]
section
variable{P:aP}{w:bc}{K:ae}{mg:Str->Option ah}{base:bK}
def zEG (K:ae):Sp:=fun vs H Q _=>∃(d:ai) (ps:List (S×S)) (e l:S),vs=[.ref d,sv l]/\H d=some (.dK (yG (yO ps e)))/\ps.length<1000/\∀v H',zA H H'->yV K H' v (yQ ps e l)->Q v H'
abbrev zEH:cJ:=top 35
theorem zMo:FnScope ["row","letter"] ["row","letter"] (defScope zEH):=yC
theorem zAx {X:Cx}(c:ae){pos:Pos}{a:List cb}{k:Nat}{t:gI}(n:Nat)(d:X.K=c)(e:X.calm=true)(h:PGs X a t)
  (f:(assignEach a X.env).length=n) (b:(assignEach a X.env).findIdx? (·.1)=none):PG X (.Tuple a k pos) (zFq c n t):=by
 subst d
 exact zDE e h f b
def frD (q:Int×Int):bW:=.tuple [.int q.1,.int q.2]
def stD (ps:List (S×S))(p:S×S):bW:=.tuple [.str (tx p.1),.str (tx p.2),frD (yQ ps p.1 p.2)]
def zHb (K:ae):Sp:=fun vs H Q _=>∃(d:ai) (ps:List (S×S)) (o:Nat) (nm:S),vs=[.ref d,.int o,sv nm]/\j8 H d ps/\ps.length<1000/\1<=o/\nm.length<=64/\
 ∀a xs H',zA H H'->H a=none->H' a=some (.lst xs)->Reps K H' ((zM o nm).map (stD ps)) xs->Q (.ref a) H'
abbrev zEI:cJ:=top 36
theorem zMp:FnScope ["rows","order","name"] ["rows","order","name"] (defScope zEI):=yC
theorem nd3:(["rows","end","letter"]:List Str).Nodup:=by decide+kernel
theorem j8.get {H:Hp}{d:ai}{b:List (S×S)}(h:j8 H d b)(e:S):∃kvs:List (z0×V),H d=some (.dK kvs)/\((yU kvs (Sum.inr (tx e))=none/\yO b e=[])\/∃a,yU kvs (Sum.inr (tx e))=some (.ref a)/\H a=some (.dK (yG (yO b e)))):=by
 obtain⟨c,f,j,l⟩:=h
 refine⟨_,j,?_⟩
 rw[qB]
 have nd:(c.map (·.1)).Nodup:=by
  have h:=(zAq b).nd
  rw[<-f,cp]at h
  exact h
 have i:zV (qP b) e=(zV c e).map (·.2):=by
  rw[<-f]
  exact zHR (fun v:ai×List (S×Int)=>v.2) c e
 cases g:zV c e with
 |none=>exact .inl ⟨rfl,by unfold yO;rw[i,g];rfl⟩
 |some v=>
  refine .inr ⟨v.1,rfl,?_⟩
  have:=l _ ((k8 nd e v).mpr g)
  unfold yO
  rw[i,g]
  exact this
theorem zAy (o:Nat)(nm:S):(zM o nm).length=nm.length+1:=by simp[zM]
theorem zMq {H:Hp}{o:Nat}{nm:S}{xs:List V}{i:Nat}{x:V}(q:Reps K H ((zM o nm).map v6) xs)(r:xs[i]?=some x):∃(p:S×S) (a:ai),(zM o nm)[i]?=some p/\x=.ref a/\yH K H a [sv p.1,sv p.2]:=by
 obtain⟨dd,b,s⟩:=q.get r
 rw[aF]at b
 cases ep:(zM o nm)[i]? with
 |none=>rw[ep]at b;cases b
 |some p=>
 rw[ep]at b
 have e:dd=v6 p:=(aw b).symm
 subst e
 obtain⟨f,t,rfl,g,u,n,rfl,h,v,c,rfl,j,d⟩:=s
 have l:u=sv p.1:=h
 have m:v=sv p.2:=j
 have y:c=[]:=d
 subst l m y
 exact⟨p,f,rfl,rfl,g⟩
theorem zMr {f:ai}{fd:aO}(F:Fun K "steps_by_rows" "steps_by_rows" zEI f fd)(r:zQ P w K mg base 2 "ends_and_letters" ["name","order"] (zBR K))(t:zQ P w K mg base 3 "part_in" ["row","letter"] (zEG K)) :
  FnOk P w K mg base zU 4 f fd ["rows","order","name"] (zHb K):=by
 refine F.ok zMp (fun vs H Q E h=>?_) (fun ac A outer s H vs Q E U h=>?_)
 ·obtain⟨d,g,o,nm,rfl,_⟩:=h;rfl
 ·obtain⟨d,g,o,nm,rfl,hR,L,ho,hl,k⟩:=h
  have hu:=jT U
  have hr2:=U.mono (j:=2) (by decide)
  refine⟨_,zH (zT (vG (N:=["rows","end","letter"]) (caps:=[0]) rfl (yT (by kernel_rfl))
   (vQ (zL r hr2 rfl (zB (pv 2) (zB (pv 1) zC))))
   (fun cl C s H ex=>zAx K 2 rfl rfl (u6 (zY (i:=1) nd3 rfl (Or.inl rfl)) (u6 (zY (i:=2) nd3 rfl (Or.inl rfl)) gJ)) rfl rfl)
   (fun cl C s H ex=>vK)
   (fun cl C s H ex=>uL (zB (pv 1) (zB (pv 2) (zB (zL t U rfl (zB (gO hu (pv 0) (pv 1) kU ⟨rfl,rfl,rfl,rfl⟩) (zB (pv 2) zC))) zC)))))),?_⟩
  refine⟨_,rfl,_,rfl,nm,o,rfl,ho,hl,fun l xs Hl sml aj M rp=>?_⟩
  refine⟨l,rfl,⟨_,.of M⟩,?_⟩
  have W:xs.length=nm.length+1:=by have:=rp.length;rw[<-this,af,zAy]
  refine vT (vH K l xs) [some (.ref d)] 2 (by omega) (fun i a H'=>zA Hl H'/\a.length=i/\Reps K H' (((zM o nm).take i).map (stD g)) a)
   ⟨zA.refl _,rfl,rfl⟩ (fun i a H' _ h=>⟨.of (h.1 _ _ M),dh h.2.1⟩) ?_ ?_
  ·rintro i x a H' ys Nx hN hx hy ⟨O,R,m⟩
   obtain⟨y,z,rfl⟩:=ys2 hy
   obtain⟨p,X,ep,rfl,Y⟩:=zMq (Reps.same O _ _ rp) hx
   have hj:i<(zM o nm).length:=(aa.mp ep).1
   refine⟨X,[sv p.1,sv p.2],rfl,Y,rfl,_,_,rfl,_,_,rfl,rfl,?_⟩
   have R':j8 H' d g:=(hR.same sml).same O
   obtain⟨kvs,hd,hv⟩:=R'.get p.1
   refine⟨_,rfl,_,rfl,_,rfl,d,rfl,.inl ⟨_,.inl hd⟩,_,rfl,fun n Z=>?_⟩
   have T:zA H' (upd H' n (.dK [])):=zA.upd1 Z
   have fin:∀(u:ai),upd H' n (.dK []) u=some (.dK (yG (yO g p.1)))->∀v,v=V.ref u->(∀(B:V) (q:Hp),zA (upd H' n (.dK [])) q->yV K q B (yQ g p.1 p.2)->∀pp,q pp=none->Nx (a++[.ref pp]) [some (.ref d),some (sv p.1),some (sv p.2)] (upd q pp (.tup [sv p.1,sv p.2,B]))):=by
    intro u c v al B q J fr pp b
    refine hN _ _ [some (sv p.1),some (sv p.2)] rfl ⟨((O.trans T).trans J).trans (zA.upd1 b),by rw[aq,R];rfl,?_⟩
    rw[ak hj,(aa.mp ep).2,az]
    refine Reps.append (Reps.same ((T.trans J).trans (zA.upd1 b)) _ _ m) (Reps.one ⟨pp,_,rfl,.of zD,?_⟩)
    exact⟨_,_,rfl,rfl,_,_,rfl,rfl,_,_,rfl,(fr.same (zA.upd1 b)).rep,rfl⟩
   have ab:upd H' n (.dK []) d=some (.dK kvs):=T _ _ hd
   refine⟨_,vR.k (k:=Sum.inr (tx p.1)) ab,_,rfl,?_⟩
   rcases hv with⟨G,I⟩|⟨u,G,I⟩
   ·rw[G]
    have c:upd H' n (.dK []) n=some (.dK (yG (yO g p.1))):=by rw[zD,I];rfl
    exact⟨n,g,p.1,p.2,rfl,c,L,fun v q J fr=>⟨by show 3<=sizeLine;decide,fun pp b=>fin n c _ rfl v q J fr pp b⟩⟩
   ·rw[G]
    have c:upd H' n (.dK []) u=some (.dK (yG (yO g p.1))):=T _ _ I
    exact⟨u,g,p.1,p.2,rfl,c,L,fun v q J fr=>⟨by show 3<=sizeLine;decide,fun pp b=>fin u c _ rfl v q J fr pp b⟩⟩
  ·rintro a H' ⟨O,R,m⟩ D hD
   have e:=sml.trans O
   refine k D a _ (e.upd_new (e.free hD)) (e.free hD) zD (Reps.same (zA.upd1 hD) _ _ ?_)
   have e1:(zM o nm).take xs.length=zM o nm:=by rw[W,<-zAy o nm,aV]
   rw[e1]at m
   exact m
end
theorem zHc {a:List (S×S)}(c:1<=a.length)(b:List (S×S)):(uW a b).2<=((a.length^b.length:Nat):Int):=by
 have:=zHE c b (1,1) 0 gS (by simp)
 rw[nE]at this
 rw[Int.natCast_pow]
 exact this
theorem zMs (a b:List (S×S)):Fq (uW a b):=zDt a b _ gS
theorem zMt (a b:List (S×S)):(uW a b).1<=(uW a b).2:=zDu a b _ gS (by decide)
theorem zEJ (a b:List (S×S))(p:S×S):uW a (b++[p])=v5 (uW a b) (yQ a p.1 p.2):=by
 unfold uW;rw[iI];rfl
theorem Sm.of_le {q:Int×Int}(h:Fq q)(b:q.1<=q.2)(a:q.2<1073741824):Sm q:=⟨h,by omega,a⟩
theorem zEK {a:List (S×S)}{o:Nat}{nm:S}(b:1<=a.length)(h:a.length^(nm.length+1)<1073741824):Sm (uB a o nm):=by
 refine .of_le (zMQ ..) (zMR ..) ?_
 have:=zHc b (zM o nm)
 rw[zAy]at this
 unfold uB
 omega
section
variable{P:aP}{w:bc}{K:ae}{mg:Str->Option ah}{base:bK}
theorem zMu {H:Hp}{e:List (S×S)}{f:List (S×S)}{xs:List V}{i:Nat}{x:V}(t:Reps K H (f.map (stD e)) xs)(u:xs[i]?=some x):∃(p:S×S) (a:ai) (v:V),f[i]?=some p/\x=.ref a/\yH K H a [sv p.1,sv p.2,v]/\yV K H v (yQ e p.1 p.2):=by
 obtain⟨dd,b,y⟩:=t.get u
 rw[aF]at b
 cases ep:f[i]? with
 |none=>rw[ep]at b;cases b
 |some p=>
 rw[ep]at b
 have g:dd=stD e p:=(aw b).symm
 subst g
 obtain⟨h,z,rfl,j,A,r,rfl,l,B,s,rfl,m,C,c,rfl,n,d⟩:=y
 have o:A=sv p.1:=l
 have q:B=sv p.2:=m
 have D:c=[]:=d
 subst o q D
 exact⟨p,h,C,rfl,rfl,j,yV.of_rep n⟩
def zHd (K:ae):Sp:=fun vs H Q _=>∃(d:ai) (ps:List (S×S)) (o:Nat) (nm:S),vs=[.ref d,.int o,sv nm]/\j8 H d ps/\1<=ps.length/\ps.length<1000/\ps.length^(nm.length+1)<1073741824/\1<=o/\nm.length<=64/\
 ∀v H',zA H H'->yV K H' v (uB ps o nm)->Q v H'
abbrev zEL:cJ:=top 37
theorem zHe:FnScope ["rows","order","name","product","step"] ["rows","order","name"] (defScope zEL):=yC
theorem zMv {f:ai}{fd:aO}(F:Fun K "share_by_rows" "share_by_rows" zEL f fd)(C:Cst2 K mg)(r:zQ P w K mg base 4 "steps_by_rows" ["rows","order","name"] (zHb K))(U:zQ P w K mg base 3 "times" ["one","other"] (zHY K)) :
  FnOk P w K mg base zU 5 f fd ["rows","order","name"] (zHd K):=by
 obtain⟨M,W,X⟩:=C.whole
 refine F.ok zHe (fun vs H Q E h=>?_) (fun Y A outer s H vs Q E t h=>?_)
 ·obtain⟨d,a,o,nm,rfl,_⟩:=h;rfl
 ·obtain⟨d,a,o,nm,rfl,Z,c,z,N,ho,hl,k⟩:=h
  have hu:=jT t
  have hr3:=t.mono (j:=3) (by decide)
  have nd:=zHe.nd
  refine⟨_,zG (zX (i:=3) nd rfl (Or.inl rfl) (v3 (v:=.ref M) (by rfl) W rfl))
   (zG (uA bI rfl (vQ (zL r t rfl (zB (pv 0) (zB (pv 1) (zB (pv 2) zC))))) (zY (i:=4) nd rfl (Or.inl rfl))
    (zH (zX (i:=3) nd rfl (Or.inl rfl) (zL U hr3 rfl (zB (pv 3) (zB (yS uI (pv 4) zF (fun _ _=>rfl)) zC))))))
   (zH (zT (pv 3)))),?_⟩
  refine⟨_,rfl,_,rfl,_,rfl,d,a,o,nm,rfl,Z,z,ho,hl,fun l xs Hl sml ab g O=>?_⟩
  refine⟨l,rfl,⟨_,.of g⟩,?_⟩
  have B:xs.length=nm.length+1:=by have:=O.length;rw[<-this,af,zAy]
  refine uG (vH K l xs) (fun i σ m=>∃(v:V) (y:Option V),σ=[some (.ref d),some (.int o),some (sv nm),some v,y]/\zA Hl m/\yV K m v (uW a ((zM o nm).take i)))
   ⟨_,_,rfl,zA.refl _,⟨M,rfl,X _⟩⟩ (fun i σ H' _ h=>by obtain⟨_,_,_,h,_⟩:=h;exact .of (h _ _ g)) ?_ ?_
  ·rintro i x σ m Nx hN hx ⟨v,y,rfl,q,fr⟩
   obtain⟨p,D,u,ep,rfl,G,fu⟩:=zMu (Reps.same q _ _ O) hx
   have I:i<(zM o nm).length:=(aa.mp ep).1
   have ac:i<nm.length+1:=by rw[zAy]at I;exact I
   have J:((zM o nm).take i).length=i:=by rw[aL];omega
   have n:=zHc c ((zM o nm).take i)
   rw[J]at n
   have aj:a.length^i<=a.length^(nm.length+1):=cq c (by omega)
   have R:a.length^(i+1)<=a.length^(nm.length+1):=cq c (by omega)
   have L:=zHB p.1 p.2 c
   have s1:Sm (uW a ((zM o nm).take i)):=.of_le (zMs ..) (zMt ..) (by omega)
   have T:Sm (yQ a p.1 p.2):=.of_le (gA ..) (zGy ..) (by omega)
   refine⟨_,rfl,_,rfl,D,_,2,u,rfl,rfl,G,rfl,v,u,_,_,rfl,fr,fu,s1,T,?_,fun b hb=>hN _ _ ⟨_,_,rfl,q.trans (zA.upd1 hb),?_⟩⟩
   ·have hm:(uW a ((zM o nm).take i)).2*(yQ a p.1 p.2).2<=((a.length^i:Nat):Int)*(a.length:Int):=fm n L (cZ T.dn) (Int.natCast_nonneg _)
    have e:((a.length^i:Nat):Int)*(a.length:Int)=((a.length^(i+1):Nat):Int):=by rw[nW];rfl
    rw[e]at hm
    omega
   ·rw[ak I,(aa.mp ep).2,zEJ]
    exact yV.new
  ·rintro σ m ⟨v,y,rfl,q,fr⟩
   refine⟨_,rfl,k v m (sml.trans q) ?_⟩
   have e1:(zM o nm).take xs.length=zM o nm:=by rw[B,<-zAy o nm,aV]
   rw[e1]at fr
   exact fr
structure Bk (bk:List S) (o:Nat):Prop extends isBk bk where
 o1:1<=o
 o3:o<=3
structure Fit (bk:List S) (o:Nat) (x:S):Prop extends Bk bk o where
 nmn:vW x
 pw:(zJ o bk).length^(x.length+1)<1073741824
theorem Bk.l8 {bk:List S}{o:Nat}(h:Bk bk o):∀x∈bk,x.length<=8:=fun x a=>(h.nm x a).2.1
theorem zAz {bk:List S}{o:Nat}(h:Bk bk o):1<=(zJ o bk).length/\(zJ o bk).length<1000:=by
 have e:=zCE o bk
 have go:∀l:List S,(∀x∈l,x.length<=8)->(l.length:Int)<=(l.map fun x=>(x.length:Int)+1).sum/\(l.map fun x=>(x.length:Int)+1).sum<=9*(l.length:Int):=by
  intro l
  induction l with
  |nil=>intro _;simp
  |cons x r ih=>
   intro hl
   have a:=hl x (ar ..)
   have b:=ih fun y c=>hl y (aG _ c)
   rw[ba,dD,bJ]
   have:((r.length+1:Nat):Int)=(r.length:Int)+1:=rfl
   omega
 have:=go bk h.l8
 have a:=h.lo
 have b:=h.hi
 omega
abbrev zEM:cJ:=top 38
abbrev zEN:cJ:=top 39
theorem zMw:FnScope ["book","order","name"] ["book","order","name"] (defScope zEM):=yC
theorem zMx:FnScope ["book","order","name"] ["book","order","name"] (defScope zEN):=yC
structure Needs (P:aP) (w:bc) (K:ae) (mg:Str->Option ah) (base:bK):Prop where
 bk:zQ P w K mg base 3 "need_book" ["thing"] zCK
 od:zQ P w K mg base 3 "need_order" ["thing"] zCM
 nm:zQ P w K mg base 2 "need_name" ["thing"] zBT
 rows:zQ P w K mg base 3 "counted_rows" ["book","order"] zBU
def zEO (K:ae):Sp:=fun vs H Q _=>∃(a:ai) (bk:List S) (o:Nat) (nm:S),vs=[.ref a,.int o,sv nm]/\H a=some (.tup (zR bk))/\Fit bk o nm/\
 ∀v H',zA H H'->yV K H' v (uB (zJ o bk) o nm)->Q v H'
theorem zMy {f:ai}{fd:aO}(F:Fun K "share" "share" zEM f fd)(N:Needs P w K mg base)(e:zQ P w K mg base 5 "share_by_rows" ["rows","order","name"] (zHd K)) :
  FnOk P w K mg base zU 6 f fd ["book","order","name"] (zEO K):=by
 refine F.ok zMw (fun vs H Q E h=>?_) (fun m A outer s H vs Q E g h=>?_)
 ·obtain⟨d,u,o,nm,rfl,_⟩:=h;rfl
 ·obtain⟨a,bk,o,nm,rfl,i,b,k⟩:=h
  have hr3:=g.mono (j:=3) (by decide)
  have hr2:=g.mono (j:=2) (by decide)
  refine⟨_,zG (yP (zL N.bk hr3 rfl (zB (pv 0) zC))) (zG (yP (zL N.od hr3 rfl (zB (pv 1) zC))) (zG (yP (zL N.nm hr2 rfl (zB (pv 2) zC)))
   (zH (zT (zL e g rfl (zB (zL N.rows hr3 rfl (zB (pv 0) (zB (pv 1) zC))) (zB (pv 1) (zB (pv 2) zC)))))))),?_⟩
  refine⟨_,rfl,a,bk,rfl,i,b.toisBk,fun x n=>?_⟩
  refine⟨_,rfl,o,rfl,b.o1,b.o3,?_⟩
  refine⟨_,rfl,nm,rfl,b.nmn,fun y p=>?_⟩
  have c:=n.trans p
  have l:=zAz b.toBk
  refine⟨_,rfl,_,rfl,a,bk,o,rfl,c _ _ i,b.hi,b.toBk.l8,b.o1,fun d z q hd R=>?_⟩
  exact⟨_,rfl,_,rfl,d,_,o,nm,rfl,R,l.1,l.2,b.pw,b.o1,(by have:=b.nmn.2.1;omega),fun v r t fr=>k v r ((c.trans q).trans t) fr⟩
def zEP:Sp:=fun vs H Q _=>∃(a:ai) (bk:List S) (o:Nat) (nm:S),vs=[.ref a,.int o,sv nm]/\H a=some (.tup (zR bk))/\Fit bk o nm/\
 ∀H',zA H H'->Q (.bl (decide (0<(uB (zJ o bk) o nm).1))) H'
theorem zMz {f:ai}{fd:aO}(F:Fun K "makes" "makes" zEN f fd)(C:Cst2 K mg)(b:zQ P w K mg base 6 "share" ["book","order","name"] (zEO K))(i:zQ P w K mg base 1 "is_less" ["one","other"] (zHZ K)) :
  FnOk P w K mg base zU 7 f fd ["book","order","name"] zEP:=by
 obtain⟨e,l,m⟩:=C.nought
 refine F.ok zMx (fun vs H Q E h=>?_) (fun n A outer s H vs Q E g h=>?_)
 ·obtain⟨d,t,o,nm,rfl,_⟩:=h;rfl
 ·obtain⟨a,bk,o,nm,rfl,p,c,k⟩:=h
  have hr1:=g.mono (j:=1) (by decide)
  refine⟨_,zH (zT (zL i hr1 rfl (zB (v3 (v:=.ref e) (by rfl) l rfl) (zB (zL b g rfl (zB (pv 0) (zB (pv 1) (zB (pv 2) zC)))) zC)))),?_⟩
  refine⟨_,rfl,_,rfl,_,rfl,a,bk,o,nm,rfl,p,c,fun v q r fr=>?_⟩
  refine⟨_,v,(0,1),_,rfl,⟨e,rfl,m _⟩,fr,⟨zCG,by decide,by decide⟩,zEK (zAz c.toBk).1 c.pw,?_⟩
  rw[zMT]
  exact k q r
end
theorem zNA (x:Str):tx x.cps.toList=x:=by
 apply MyS.Str_ext
 simp[tx]
theorem zNB (l:List Str):(l.map fun x=>x.cps.toList).map tx=l:=by
 rw[cp]
 conv=>rhs;rw[<-rN l]
 apply dw
 intro x _
 exact zNA x
theorem zBW {c A B:Prop} [Decidable c] (a:¬c)(h:A):if(!decide c)=true then A else B:=by
 rw[decide_eq_false a];exact h
section
variable{P:aP}{w:bc}{K:ae}{mg:Str->Option ah}{base:bK}
theorem zEQ {H:Hp}:∀ns:List Int,Reps K H (ns.map PyData.int) (ns.map V.int)
 | []=>rfl
 |n::ns=>⟨_,_,rfl,rfl,zEQ ns⟩
theorem zCV:∀ns:List Int,cH (ns.map PyData.int)=true
 | []=>rfl
 |n::ns=>by rw[ba];simp only[cH,dC,zCV ns,dZ]
def zHf (K:ae):Sp:=fun vs H Q _=>∃(a:ai) (ns:List Int) (k:Nat),vs=[.ref a,.int k]/\z9 K H a (ns.map V.int)/\ns.length<=63/\∀(i:Int) H',zA H H'->Q (.int i) H'
abbrev zER:cJ:=top 53
theorem zNC:FnScope ["_law_script","_law_k"] ["_law_script","_law_k"] (defScope zER):=yC
theorem zES (ns:List Int):cn (.list (ns.map PyData.int))=true:=by
 unfold cn
 have a:(PyData.list (ns.map PyData.int)).canLay0=true:=by simp only[dC];exact zCV ns
 have b:(PyData.list (ns.map PyData.int)).depth<=64:=by
  have go:∀ns:List Int,dq (ns.map PyData.int)<=1:=by
   intro ns
   induction ns with
   |nil=>decide
   |cons n ns ih=>rw[ba];simp only[dq,d5];omega
  have:=go ns
  simp only[d5];omega
 rw[a,decide_eq_true b];rfl
theorem zND {f:ai}{fd:aO}(F:Fun K "_law_cell" "_law_cell" zER f fd)(B:Blt mg):FnOk P w K mg base zU 1 f fd ["_law_script","_law_k"] (zHf K):=by
 refine F.ok zNC (fun vs H Q E h=>?_) (fun g A outer s H vs Q E i h=>?_)
 ·obtain⟨a,ns,k,rfl,_⟩:=h;rfl
 ·obtain⟨a,ns,n,rfl,e,hl,k⟩:=h
  have j:=i.units
  refine⟨_,zG (yK (vF (zBy j) (pv 0) (yE zC) (yY _)) (zH (zT (zP uO zF (pv 1)))) yJ)
   (zH (zT (zP vD (yS jD (pv 0) (zP gL (pv 1) (zZ jE (by rfl) B.len bQ (zB (pv 0) zC))) (fun _ _=>rfl))
    (zP uO zF (zP zBm (pv 1) (zZ jE (by rfl) B.len bQ (zB (pv 0) zC))))))),?_⟩
  refine⟨_,rfl,by show 0<=sizeLine;decide,fun p l=>?_⟩
  have c:zA H (upd H p (.lst [])):=zA.upd1 l
  refine⟨.list (ns.map PyData.int),.list [],⟨a,_,rfl,c.seq e,zEQ ns⟩,⟨p,[],rfl,.of zD,rfl⟩,zES ns,rfl,_,rfl,?_⟩
  cases ns with
  |nil=>exact yL ⟨_,rfl,7,n,rfl,rfl,.inl ⟨by decide,by decide⟩,k _ _ c⟩
  |cons m ns=>
   refine yI ?_
   have b:((m::ns).map V.int).length=ns.length+1:=by simp
   have o:ns.length+1<=63:=by simpa using hl
   have q:((n:Int)%(((m::ns).map V.int).length:Int))=((n%(ns.length+1):Nat):Int):=by rw[b];rfl
   have d:n%(ns.length+1)<((m::ns).map V.int).length:=by rw[b];exact Nat.mod_lt _ (rj _)
   refine⟨_,rfl,_,rfl,_,rfl,a,_,rfl,.inl (c.seq e),_,_,rfl,rfl,by rw[b];omega,?_⟩
   refine⟨a,_,_,.int ((m::ns)[n%(ns.length+1)]'(by simpa using d)),rfl,rfl,c.seq e,?_,?_⟩
   ·rw[q]
    refine uH ?_
    rw[aF,ax (by simpa using d)];rfl
   ·exact⟨_,rfl,_,rfl,a,_,rfl,.inl (c.seq e),_,_,rfl,rfl,⟨by rw[b];omega,by rw[b];omega⟩,_,_,rfl,rfl,.inl ⟨by decide,by decide⟩,_,_,rfl,rfl,k _ _ c⟩
theorem lt0 {d:Int}(h:0<d):0<d:=h
theorem cmE {t d q:Int}(h:0<d)(a:d<18446744073709551616):zAf (t%d) q:=by
 have b:=jd t (show d≠0 by omega)
 have c:=il t h
 exact .inl ⟨by omega,by omega⟩
def zET (K:ae):Sp:=fun vs H Q _=>∃(a:ai) (ns:List Int) (k m:Nat),vs=[.ref a,.int k,.int m]/\z9 K H a (ns.map V.int)/\ns.length<=63/\1<=m/\m<100000/\∀(i:Nat) H',i<m->zA H H'->Q (.int i) H'
abbrev zEU:cJ:=top 54
theorem zHg:FnScope ["_law_script","_law_k","_law_many","_law_cell_here"] ["_law_script","_law_k","_law_many"] (defScope zEU):=yC
theorem zNE {f:ai}{fd:aO}(F:Fun K "_law_drawn" "_law_drawn" zEU f fd)(b:zQ P w K mg base 1 "_law_cell" ["_law_script","_law_k"] (zHf K)):FnOk P w K mg base zU 2 f fd ["_law_script","_law_k","_law_many"] (zET K):=by
 refine F.ok zHg (fun vs H Q E h=>?_) (fun c A outer s H vs Q E d h=>?_)
 ·obtain⟨a,ns,k,m,rfl,_⟩:=h;rfl
 ·obtain⟨a,ns,n,m,rfl,g,hl,j,l,k⟩:=h
  have nd:=zHg.nd
  refine⟨_,zG (zX (i:=3) nd rfl (Or.inl rfl) (zP gL (zP vD (zP uO (zP gL (zL b d rfl (zB (pv 0) (zB (pv 1) zC))) zF) zF) (zP uO zF (zP vD (pv 1) zF))) zF))
   (zG (zX (i:=3) nd rfl (Or.inl rfl) (zP gL (zP vD (zP uO (pv 3) (pv 3)) (zP zBm (pv 3) zF)) zF))
   (zH (zT (zP gL (zP zBm (zP gL (zP vD (zP uO (pv 3) (pv 3)) (zP zBm (pv 3) zF)) zF) zF) (pv 2))))),?_⟩
  refine⟨_,rfl,_,rfl,a,ns,n,rfl,g,hl,fun i H' o=>?_⟩
  have fin:∀z:Int,Q (.int (z%(m:Int))) H':=fun z=>by
   have p:0<=z%(m:Int):=jd _ (by omega)
   have q:z%(m:Int)<m:=il _ (by omega)
   have e:z%(m:Int)=((z%(m:Int)).toNat:Int):=(Int.toNat_of_nonneg p).symm
   rw[e]
   exact k _ _ (by omega) o
  refine⟨_,_,rfl,rfl,lt0 (by decide),_,_,rfl,rfl,.inr ⟨by decide,by decide⟩,?_⟩
  refine⟨_,rfl,_,_,rfl,rfl,_,_,rfl,rfl,.inl ⟨by decide,by decide⟩,_,_,rfl,rfl,_,_,rfl,rfl,lt0 (by decide),?_⟩
  refine⟨_,rfl,_,rfl,_,_,rfl,rfl,cmE (by decide) (by decide),_,rfl,_,_,rfl,rfl,⟨by decide,by decide⟩,_,_,rfl,rfl,_,_,rfl,rfl,lt0 (by decide),?_⟩
  refine⟨_,rfl,_,rfl,_,_,rfl,rfl,cmE (by decide) (by decide),_,rfl,_,_,rfl,rfl,⟨by decide,by decide⟩,_,_,rfl,rfl,_,_,rfl,rfl,lt0 (by decide),_,_,rfl,rfl,⟨by decide,by decide⟩,_,rfl,_,_,rfl,rfl,?_,fin _⟩
  show(0:Int)<(m:Int)
  omega
def zEV (K:ae):Sp:=fun vs H Q _=>∃(a:ai) (ns:List Int) (at' most:Nat),vs=[.ref a,.int at',.int most]/\z9 K H a (ns.map V.int)/\ns.length<=63/\1<=most/\most<=8/\
 ∀(x:S) H',zA H H'->vW x->(x.length<=most/\∀c∈x,(c=97\/c=98\/c=122))->Q (sv x) H'
abbrev zEW:cJ:=top 55
theorem zHh:FnScope ["_law_script","_law_at","_law_most","_law_size","_law_letters"] ["_law_script","_law_at","_law_most"] (defScope zEW):=yC
theorem ndN:(["_law_letters","_law_script","_law_at","_law_k"]:List Str).Nodup:=by decide+kernel
abbrev cDr (P:aP)(w:bc)(K:ae)(mg:Str->Option ah)(base:bK):Prop:=zQ P w K mg base 2 "_law_drawn" ["_law_script","_law_k","_law_many"] (zET K)
theorem zNF {f:ai}{fd:aO}(F:Fun K "_law_name" "_law_name" zEW f fd)(B:Blt mg)(G:cDr P w K mg base):FnOk P w K mg base zU 3 f fd ["_law_script","_law_at","_law_most"] (zEV K):=by
 refine F.ok zHh (fun vs H Q E h=>?_) (fun ac A outer s H vs Q E I h=>?_)
 ·obtain⟨a,ns,k,m,rfl,_⟩:=h;rfl
 ·obtain⟨a,ns,n,m,rfl,J,hl,M,aj,k⟩:=h
  have nd:=zHh.nd
  refine⟨_,zG (zX (i:=3) nd rfl (Or.inl rfl) (zP vD zF (zL G I rfl (zB (pv 0) (zB (pv 1) (zB (pv 2) zC))))))
   (zG (zX (i:=4) nd rfl (Or.inr rfl) (yS jD (yE (zB y9 (zB y9 (zB y9 zC)))) (zL G I rfl (zB (pv 0) (zB (zP vD (pv 1) zF) (zB zF zC)))) (fun _ _=>rfl)))
   (zH (zT (zAE PySem.F.plainAttrs_str PySem.F.slot_str_join PySem.F.type_str_join zLw y9 (zB
    (vG (N:=["_law_letters","_law_script","_law_at","_law_k"]) (caps:=[4,0,1]) rfl (yT (by kernel_rfl)) (qF rfl B.range (zB (pv 3) zC))
     (fun cl C s H ex=>zY (i:=3) ndN rfl (Or.inl rfl)) (fun cl C s H ex=>vK)
     (fun cl C s H ex=>yS zLE (pv 0) (zL G I rfl (zB (pv 1) (zB (zP vD (zP vD (pv 2) zF) (pv 3)) (zB (zZ j4 (by rfl) B.len bQ (zB (pv 0) zC)) zC)))) (fun _ _=>rfl))) zC))))),?_⟩
  refine⟨_,rfl,_,rfl,_,rfl,a,ns,n,m,rfl,J,hl,M,by omega,fun sz T hsz U=>?_⟩
  refine⟨_,_,rfl,rfl,?_⟩
  refine⟨by show 3<=sizeLine;decide,fun p hp=>?_⟩
  have W:zA T (upd T p (.lst [.str "ab",.str "ab",.str "abz"])):=zA.upd1 hp
  refine⟨_,rfl,_,rfl,_,_,rfl,rfl,a,ns,n+9,3,rfl,W.seq (U.seq J),hl,by decide,by decide,fun li H3 O X=>?_⟩
  have o:=(U.trans W).trans X
  obtain⟨L,Y,e⟩:∃L:S,(L=[97,98]\/L=[97,98,122])/\([.str "ab",.str "ab",.str "abz"]:List V)[li]?=some (sv L):=by
   match li,O with
   |0,_=>exact⟨[97,98],.inl rfl,rfl⟩
   |1,_=>exact⟨[97,98],.inl rfl,rfl⟩
   |2,_=>exact⟨[97,98,122],.inr rfl,rfl⟩
  refine⟨p,_,_,sv L,rfl,rfl,.of (X _ _ zD),uH e,?_⟩
  refine⟨rfl,_,rfl,_,rfl,by omega,by omega,?_⟩
  have al:L.length=2\/L.length=3:=by rcases Y with h|h<;>subst h<;>simp
  have R:∀c∈L,(97<=c/\c<=122)/\(c=97\/c=98\/c=122):=by rcases Y with h|h<;>subst h<;>decide
  have r:(1+(sz:Int)).toNat=sz+1:=by omega
  refine vT (qA 0 _) [some (sv L),some (.ref a),some (.int n)] 1 (by rw[af,bh,r];omega) (fun i l H'=>zA H3 H'/\∃b:S,l=b.map (fun c=>V.str (tx [c]))/\b.length=i/\∀c∈b,(97<=c/\c<=122)/\(c=97\/c=98\/c=122))
   ⟨zA.refl _,[],rfl,rfl,by simp⟩ (fun i l H' _ h=>⟨trivial,by obtain⟨_,b,rfl,h,_⟩:=h;rw[af];omega⟩) ?_ ?_
  ·rintro i x l H' ys Nx hN Z hy ⟨u,b,rfl,g,d⟩
   obtain⟨y,rfl⟩:=y0 hy
   rw[r]at Z
   obtain⟨hi,rfl⟩:=qH Z
   refine⟨_,rfl,_,rfl,_,rfl,_,_,rfl,rfl,_,rfl,_,_,rfl,rfl,_,rfl,tx L,rfl,by rw[z8,aR];omega,?_⟩
   rw[z8]
   refine⟨a,ns,n+1+i,L.length,rfl,(o.trans u).seq J,hl,by omega,by omega,fun j H5 hj s5=>?_⟩
   refine⟨tx L,_,L[j],rfl,rfl,by rw[z8,aR];omega,?_,?_⟩
   ·rw[gB]
    exact uH (ax hj)
   ·refine hN _ _ [some (.int i)] rfl ⟨u.trans s5,b++[L[j]],by rw[az];rfl,by rw[aq,g];rfl,fun c t=>?_⟩
    rcases bP.mp t with z|z
    ·exact d c z
    ·have:c=L[j]:=by simpa using z
     rw[this]
     exact R _ (cD hj)
  ·rintro l H' ⟨u,b,rfl,g,d⟩ D hD
   rw[af,bh,r]at g
   have q:((b.map fun c=>tx [c]).map (·.length)).sum=b.length:=by
    clear g d
    induction b with
    |nil=>rfl
    |cons c b ih=>rw[ba,ba,dD,ih,bJ,z8];show 1+_=_;omega
   refine⟨_,D,b.map (fun c=>tx [c]),rfl,rfl,.of (by rw[zD,cp];rfl),?_,?_⟩
   ·rw[q]
    show _+_*0<=_
    omega
   ·have ej:nT ⟨#[]⟩ (b.map fun c=>tx [c])=tx b:=by
     rw[zLy,cp]
     congr 1
     clear g d q
     congr 1
     induction b with
     |nil=>rfl
     |cons c b ih=>rw[ba,fO,ih];rfl
    have kk:∀v,zA H v->Q (.str (nT ⟨#[]⟩ (b.map fun c=>tx [c]))) v:=fun v sx=>by
     rw[ej]
     exact k b v sx ⟨by omega,by omega,fun c t=>(d c t).1⟩ ⟨by omega,fun c t=>(d c t).2⟩
    exact kk _ ((o.trans u).trans (zA.upd1 hD))
def zHi (K:ae):Sp:=fun vs H Q _=>∃(a:ai) (ns:List Int) (at' many most:Nat),vs=[.ref a,.int at',.int many,.int most]/\z9 K H a (ns.map V.int)/\ns.length<=63/\1<=many/\many<=8/\1<=most/\most<=8/\
 ∀(p:ai) (bk:List S) H',zA H H'->H' p=some (.tup (zR bk))->1<=bk.length->bk.length<=many->(∀x∈bk,vW x/\x.length<=most/\∀c∈x,c=97\/c=98\/c=122)->Q (.ref p) H'
abbrev zEX:cJ:=top 56
theorem zHj:FnScope ["_law_script","_law_at","_law_many","_law_most","_law_found","_law_k"] ["_law_script","_law_at","_law_many","_law_most"] (defScope zEX):=yC
theorem zNG {f:ai}{fd:aO}(F:Fun K "_law_book" "_law_book" zEX f fd)(B:Blt mg)(c1:cDr P w K mg base)(c2:zQ P w K mg base 3 "_law_name" ["_law_script","_law_at","_law_most"] (zEV K)):FnOk P w K mg base zU 4 f fd ["_law_script","_law_at","_law_many","_law_most"] (zHi K):=by
 refine F.ok zHj (fun vs H Q E h=>?_) (fun ab A outer s H vs Q E N h=>?_)
 ·obtain⟨a,ns,k,m,l,rfl,_⟩:=h;rfl
 ·obtain⟨a,ns,n,many,d,rfl,O,hl,G,ac,I,J,k⟩:=h
  have nd:=zHj.nd
  have hr2:=N.mono (j:=2) (by decide)
  refine⟨_,zG (zX (i:=4) nd rfl (Or.inl rfl) (uL zC))
   (zG (uA bI rfl (qF rfl B.range (zB (zP vD zF (zL c1 hr2 rfl (zB (pv 0) (zB (pv 1) (zB (pv 2) zC))))) zC)) (zY (i:=5) nd rfl (Or.inl rfl))
    (zH (zX (i:=4) nd rfl (Or.inl rfl) (zP (zMD.or zKz) (pv 4) (uL (zB (zL c2 N rfl (zB (pv 0) (zB (zP vD (zP vD (pv 1) zF) (zP uO zF (pv 5))) (zB (pv 3) zC)))) zC))))))
   (zH (zT (pv 4)))),?_⟩
  refine⟨by show 0<=sizeLine;decide,fun R L=>?_⟩
  have T:zA H (upd H R (.tup [])):=zA.upd1 L
  refine⟨_,rfl,_,rfl,_,rfl,a,ns,n,many,rfl,T.seq O,hl,G,by omega,fun sz H1 hsz U=>?_⟩
  refine⟨_,_,rfl,rfl,_,rfl,by omega,by omega,?_⟩
  have o:(1+(sz:Int)).toNat=sz+1:=by omega
  refine uG (qA 0 _) (fun i σ t=>∃(p:ai) (bk:List S) (y:Option V),σ=[some (.ref a),some (.int n),some (.int many),some (.int d),some (.ref p),y]/\zA H t/\t p=some (.tup (zR bk))/\bk.length=i/\∀x∈bk,vW x/\x.length<=d/\∀c∈x,c=97\/c=98\/c=122)
   ⟨R,[],_,rfl,T.trans U,U _ _ zD,rfl,by simp⟩ (fun _ _ _ _ _=>trivial) ?_ ?_
  ·rintro i x σ t Nx W X ⟨p,bk,y,rfl,u,v,e,g⟩
   rw[o]at X
   obtain⟨hi,rfl⟩:=qH X
   refine⟨_,rfl,_,rfl,_,rfl,_,_,rfl,rfl,_,rfl,_,_,rfl,rfl,.inl ⟨by decide,by decide⟩,_,_,rfl,rfl,_,rfl,a,ns,n+1+10*i,d,rfl,u.seq O,hl,I,J,fun x Y C hx1 hx2=>?_⟩
   refine⟨by show 1<=sizeLine;decide,fun q hq=>?_⟩
   have D:zA Y (upd Y q (.tup [sv x])):=zA.upd1 hq
   have nx:∀b∈bk++[x],vW b/\b.length<=d/\∀c∈b,c=97\/c=98\/c=122:=fun b hb=>by
    rcases bP.mp hb with z|z
    ·exact g b z
    ·have:b=x:=by simpa using z
     rw[this];exact⟨hx1,hx2⟩
   cases bk with
   |nil=>exact .inl ⟨p,q,_,rfl,rfl,.of (D _ _ (C _ _ v)),.of zD,W _ _ ⟨q,[x],_,rfl,(u.trans C).trans D,zD,by rw[<-e];rfl,nx⟩⟩
   |cons c Z=>
    refine .inr ⟨p,q,_,_,rfl,rfl,.of (D _ _ (C _ _ v)),.of zD,by simp[zR],?_,fun z=>by simp at z,fun _ r M=>W _ _ ⟨r,(c::Z)++[x],_,rfl,((u.trans C).trans D).trans (zA.upd1 M),?_,by rw[aq,e];rfl,nx⟩⟩
    ·have:(zR (c::Z)).length=i:=by rw[<-e];simp[zR]
     rw[this,aR]
     show i+1<=_
     omega
    ·rw[zD]
     unfold zR
     rw[az];rfl
  ·rintro σ t ⟨p,bk,y,rfl,u,v,e,g⟩
   rw[af,bh,o]at e
   exact⟨_,rfl,k p bk t u v (by omega) (by omega) g⟩
end
section
variable{X:Cx}{tg:cb}
theorem zHk (a:ae)(c:X.K=a){l:cb}{b:TE}(hl:PE X l b):PI X tg l (zFr a b):=by
 subst c;exact vQ hl
end
theorem zNH (a b:S):tx a++tx b=tx (a++b):=by
 apply MyS.Str_ext
 show((tx a).cps++(tx b).cps).toList=_
 simp[tx]
theorem zBX {d:bW}{A B:Prop}(hd:d.canLay0=true)(h:B):if(if true=true then !PyData.eqv d d else bV d d)=true then A else B:=by
 rw[zBz d hd];exact h
theorem zHl {t:S}(h:∀c∈t,c<=122):rm (tx t)=true:=by
 unfold rm
 rw[Array.all_eq_true']
 intro c b
 have a:c∈t:=by simpa [tx]using b
 have:=h c a
 exact decide_eq_true (by omega)
theorem zEY {ds:List bW}(h:∀d∈ds,d.canLay0=true/\d.depth<=10):cn (.list ds)=true/\(PyData.list ds).canLay0=true:=by
 have f:cH ds=true:=by
  induction ds with
  |nil=>rfl
  |cons d ds ih=>simp only[cH,(h d (ar ..)).1,ih fun e c=>h e (aG _ c),dZ]
 have j:dq ds<=10:=by
  clear f
  induction ds with
  |nil=>decide
  |cons d ds ih=>
   have a:=(h d (ar ..)).2
   have b:=ih (fun e c=>h e (aG _ c))
   simp only[dq];omega
 have g:(PyData.list ds).canLay0=true:=by simp only[dC];exact f
 have i:(PyData.list ds).depth<=64:=by simp only[d5];omega
 unfold cn
 rw[g,decide_eq_true i];exact⟨rfl,rfl⟩
theorem zEZ {o:Nat}{t:S}(h:vW t){p:S×S}(b:p∈zM o t):(∀c∈p.1,97<=c/\c<=122)/\∀c∈p.2,97<=c/\c<=122:=by
 obtain⟨i,_,rfl⟩:=aX.mp b
 refine⟨fun c a=>?_,fun c a=>?_⟩
 ·exact h.2.2 c (dk (iZ a))
 ·exact h.2.2 c (iZ (dk a))
theorem zNI {o:Nat}{bk:List S}(h:isBk bk){p:S×S}(a:p∈zJ o bk):(∀c∈p.1,97<=c/\c<=122)/\∀c∈p.2,97<=c/\c<=122:=by
 obtain⟨x,b,d⟩:=bY.mp a
 exact zEZ (h.nm x b) d
section
variable{K:ae}
theorem qC {H:Hp}{a:ai}{xs:List V}{ds:List bW}(h:H a=some (.lst xs))(b:Reps K H ds xs):yD K H (.list ds) (.ref a):=⟨a,xs,rfl,.of h,b⟩
end
theorem IsRow.len {c:List (S×S)}{e:S}{d:List (S×Int)}(r:IsRow c e d):d.length<=c.length:=by
 have i:=r.total
 have j:(c.filter fun p=>p.1=e).length<=c.length:=bC ..
 have f:∀q∈d,0<q.2:=fun q g=>((r.mem q.1 q.2).mp g).2
 have go:∀l:List (S×Int),(∀q∈l,0<q.2)->(l.length:Int)<=(l.map (·.2)).sum:=by
  intro l
  induction l with
  |nil=>intro _;simp
  |cons q l ih=>
   intro hl
   have a:=hl q (ar ..)
   have b:=ih fun x h=>hl x (aG _ h)
   rw[ba,dD,bJ]
   have:((l.length+1:Nat):Int)=(l.length:Int)+1:=rfl
   omega
 have:=go d f
 omega
structure Blt2 (mg:Str->Option ah):Prop where
 max:mg "max"=none
 dict:mg "dict"=none
 list:mg "list"=none
end Kn
end
section
namespace L2
open PySem PySem.Spec PyProof.Rows
theorem yB.freeze {P:aP}{w:bc}{H:Hp}{h:bK}{a:ai}{o:Obj}{kvs:List (z0×V)}(x:yB P w H h)(e:H a=some (.dK kvs))(g:h.get? a=some o):yB P w (upd H a (.frz o (.dK kvs))) h:=fun b u d=>by
 by_cases f:b=a
 ·subst f;rw[zD]at d;cases d
  exact⟨g,x b _ e⟩
 ·rw[zN f]at d
  refine(x b u d).stay (fun c v _ q=>q) (fun c q=>?_) fun c xs q=>?_
  ·rw[zN (by rintro rfl;rw[e]at q;cases q)];exact q
  ·rw[zN (by rintro rfl;rw[e]at q;cases q)];exact q
theorem zNJ {P:aP}{w:bc}{k:z0}{u:ah}(h:(qL P w).is k u=true):zW (kV k) u:=by
 rw[zKE]at h
 rcases jB h with⟨i,t,rfl,rfl⟩|⟨x,t,rfl,rfl⟩
 ·exact⟨_,rfl⟩
 ·exact⟨_,rfl⟩
theorem zHm {α β:Type}{F:α->β->Prop}:∀{c:List α}{d:List β}{i:Nat}{x:α},n9 F c d->c[i]?=some x->∃y,d[i]?=some y/\F x y
 | [],_,i,x,_,h=>by simp at h
 |a::l,[],i,x,p,_=>by cases p
 |a::l,b::m,0,x,p,h=>by
  cases p with
  |cons e f=>cases h;exact⟨b,rfl,e⟩
 |a::l,b::m,i+1,x,p,h=>by
  cases p with
  |cons e f=>
   obtain⟨y,g,j⟩:=zHm (i:=i) (x:=x) f (by simpa using h)
   exact⟨y,by simpa using g,j⟩
def Itd (a:ai)(o:Obj)(kvs:List (z0×V)):It where
 go:=fun i H=>H a=some (.frz o (.dK kvs))/\i<kvs.length
 yld:=fun i H x H'=>H'=H/\(kvs.map fun p=>kV p.1)[i]?=some x
 stop:=fun i H=>H a=some (.frz o (.dK kvs))/\kvs.length<=i
theorem zNK (a:ai)(o:Obj)(kvs:List (z0×V)):Known (Itd a o kvs) (kvs.map fun p=>kV p.1) (fun H=>H a=some (.frz o (.dK kvs))) :=
 ⟨fun i H h hi=>⟨h,by simpa using hi⟩,fun i H x H' h y=>⟨y.1,fun _=>y.2⟩,fun H h=>⟨h,by simp⟩⟩
theorem zNL {P:aP}{w:bc}{K:ae}{tg:cb}(a it:ai)(o:Obj)(kvs:List (z0×V))(n ep:Nat)(hn:n=kvs.length)(B:∃M,o.data=.dict M ep):Turn P w K tg (Itd a o kvs) [it] it (fun i h=>h.IsKeyIter it a i n ep) where
 mem:=by simp
 obj:=fun i h st b r=>by
  have e:b=it:=by simpa using r
  subst e
  obtain⟨o,e,c,d⟩:=st
  exact⟨o,e,fun v z=>by rw[d]at z;cases z⟩
 keep:=fun i h h' st k=>st.at fun o e=>k it (by simp) o e
 item:=by
  intro X N O R hc i m s σ H E I J st T
  subst N O R
  obtain⟨g,hi⟩:=T
  obtain⟨z,hS,vs,rel,dd⟩:=jS I.hok (.inr ⟨o,g⟩)
  obtain⟨j,_⟩:=(show s.heap.get? a=some o/\_ from I.hok a _ g)
  obtain⟨t,l⟩:=dd.dictAt
  have u:t=ep:=by
   obtain⟨o',M,C,_,U,_⟩:=id l
   obtain⟨W,D⟩:=B
   rw[j]at C;cases C
   rw[U]at D;injection D
  subst u
  have f:vs.length=n:=by rw[hn];exact(gw rel).symm
  rw[<-f]at st
  obtain⟨Y,f1,f2,Z,f4,f5⟩:=J it (by simp)
  obtain⟨q,L⟩:∃q,vs[i]?=some q:=⟨_,ax (by omega)⟩
  obtain⟨k,v⟩:=q
  refine wpAny_pyNext_dict_item st l L fun key h' F x sb=>?_
  have I1:Inv X m σ H {s with heap:=h'}:=I.turned (t':=s.toks) (fun b o r e=>(sb.2 b r).trans e) Y f1 Z f4 f5
  obtain⟨oi,e,c,d⟩:=id x
  rw[f]at x
  obtain⟨p,hp,e1,e2⟩:∃p,kvs[i]?=some p/\p.1=k/\zW p.2 v:=by
   have G:i<kvs.length:=hi
   obtain⟨y,hy,hr⟩:=zHm rel (ax G)
   rw[L]at hy;cases hy
   exact⟨_,ax G,hr.1,hr.2⟩
  refine⟨key,rfl,zAc (s:={s with heap:=h'}) e c d (by decide) ⟨kV k,H,I1,zNJ F,⟨rfl,?_⟩,x,fun b r=>(J b r).1⟩⟩
  rw[aF,hp,<-e1];rfl
 done:=by
  intro X N O R hc i m s σ H E I J st T
  subst N O R
  obtain⟨g,hi⟩:=T
  obtain⟨z,hS,vs,rel,dd⟩:=jS I.hok (.inr ⟨o,g⟩)
  obtain⟨j,_⟩:=(show s.heap.get? a=some o/\_ from I.hok a _ g)
  obtain⟨t,l⟩:=dd.dictAt
  have u:t=ep:=by
   obtain⟨o',M,C,_,U,_⟩:=id l
   obtain⟨W,D⟩:=B
   rw[j]at C;cases C
   rw[U]at D;injection D
  subst u
  have f:vs.length=n:=by rw[hn];exact(gw rel).symm
  rw[<-f]at st
  obtain⟨Y,f1,f2,Z,f4,f5⟩:=J it (by simp)
  refine wpAny_pyNext_dict_end (I.ok.hd hc) st l (by rw[mr];omega) fun h' he=>⟨rfl,?_⟩
  exact I.turned (t':=s.toks) (fun b o r e=>he b o r e) Y f1 Z f4 f5
 self:=fun A i s Q E st L=>wpAny_pyIter_keyiter st L
section
variable{X:Cx}{pins:List (ai×Obj)}{σ:St}{H:Hp}{s:au}{tg:cb}
theorem Inv.freeze {a:ai}{o:Obj}{kvs:List (z0×V)}(I:Inv X pins σ H s)(e:H a=some (.dK kvs))(g:s.heap.get? a=some o):Inv X pins σ (upd H a (.frz o (.dK kvs))) s:=by
 have ne:∀{b:ai} {u:Option HO},H b=u->u≠some (.dK kvs)->b≠a:=fun{b u} q n z=>n (by rw[<-q,z,e])
 refine⟨I.ok,I.os,I.bare,⟨I.base.keep,I.base.slot,fun b d q n h=>?_,I.base.there,fun b xs q=>?_,fun b d u q=>?_,fun b i q=>?_⟩,I.loc,I.cell,?_,fun x c q=>?_,fun p q=>?_,I.hok.freeze e g,I.len⟩
 ·have:=I.base.free b d q n h
  rw[zN (ne this (by simp))];exact this
 ·have:=I.base.tups b xs q
  rw[zN (ne this (by simp))];exact this
 ·have:=I.base.frzs b d u q
  rw[zN (ne this (by simp))];exact this
 ·obtain⟨m,z⟩:=I.base.tbls b i q
  exact⟨m,by rw[zN (ne z (by simp))];exact z⟩
 ·have:=I.free
  rw[zN (ne this (by simp))];exact this
 ·have:=I.freeC x c q
  rw[zN (ne this (by simp))];exact this
 ·obtain⟨j,f,l⟩:=I.pin p q
  exact⟨j,by rw[zN (ne f (by simp))];exact f,l⟩
def zHn (tl:TE):TI:=fun σ H R=>tl σ H fun x H1=>∃a kvs,x=.ref a/\H1 a=some (.dK kvs)/\∀o,R (Itd a o kvs) (upd H1 a (.frz o (.dK kvs)))
theorem zHo {l:cb}{m:TE}(hl:PE X l m):PI X tg l (zHn m):=by
 intro pins s σ H R I h
 refine zK (hl pins s σ H _ I h) fun v c ⟨x,n,f,p,r⟩=>?_
 obtain⟨a,kvs,e,g,q⟩:=r
 subst e
 cases p
 obtain⟨z,t,vs,rel,dd⟩:=zBu f.hok g
 obtain⟨ep,d⟩:=dd.dictAt
 obtain⟨o,u,i,_,j,_⟩:=id d
 refine wpAny_pyIter_dict t d ?_
 have w:=(f.freeze g i).kept (t':=c.toks) (h':=c.heap.push {cls:=.type "dict_keyiterator",data:=.fields #[.ref a,.int 0 0,.int vs.length 0,.int ep 0]}) fun b o e=>ag _ e
 refine⟨c.heap.objs.size,[c.heap.objs.size],_,_,upd n a (.frz o (.dK kvs)),rfl,w,zNL a _ o kvs vs.length ep (gw rel).symm ⟨u,j⟩,⟨_,aZ _ rfl,rfl,rfl⟩,fun b y=>?_,q o⟩
 have e:b=c.heap.objs.size:=by simpa using y
 subst e
 exact(f.freeze g i).fpOk (aH _) ((f.freeze g i).hok.fresh (aH _))
theorem yB.thaw {P:aP}{w:bc}{H:Hp}{h:bK}{a:ai}{o:Obj}{kvs:List (z0×V)}(x:yB P w H h)(e:H a=some (.frz o (.dK kvs))):yB P w (upd H a (.dK kvs)) h:=fun b u d=>by
 by_cases f:b=a
 ·subst f;rw[zD]at d;cases d
  exact(show h.get? b=some o/\yZ P w H h b (.dK kvs)from x b _ e).2
 ·rw[zN f]at d
  refine(x b u d).stay (fun c v _ q=>q) (fun c q=>?_) fun c xs q=>?_
  ·rw[zN (by rintro rfl;rw[e]at q;cases q)];exact q
  ·rw[zN (by rintro rfl;rw[e]at q;cases q)];exact q
theorem Inv.thaw {a:ai}{o:Obj}{kvs:List (z0×V)}{pins':List (ai×Obj)}{g:St}{H':Hp}{s':au}(I:Inv X pins σ H s)(h:Inv X pins' g H' s')(i:H' a=some (.dK kvs))(e:H a=some (.frz o (.dK kvs))):Inv X pins σ (upd H a (.dK kvs)) s:=by
 have ne:∀{b:ai} {u:Option HO},H b=u->u≠some (.frz o (.dK kvs))->b≠a:=fun{b u} q n z=>n (by rw[<-q,z,e])
 refine⟨I.ok,I.os,I.bare,⟨I.base.keep,I.base.slot,fun b d q n j=>?_,I.base.there,fun b xs q=>?_,fun b d u q=>?_,fun b l q=>?_⟩,I.loc,I.cell,?_,fun x c q=>?_,fun p q=>?_,I.hok.thaw e,I.len⟩
 ·have:=I.base.free b d q n j
  rw[zN (ne this (by simp))];exact this
 ·have:=I.base.tups b xs q
  rw[zN (ne this (by simp))];exact this
 ·have:=I.base.frzs b d u q
  rw[zN (by rintro rfl;have:=h.base.frzs _ d u q;rw[i]at this;cases this)];exact this
 ·obtain⟨m,z⟩:=I.base.tbls b l q
  exact⟨m,by rw[zN (ne z (by simp))];exact z⟩
 ·have:=I.free
  rw[zN (ne this (by simp))];exact this
 ·have:=I.freeC x c q
  rw[zN (ne this (by simp))];exact this
 ·obtain⟨r,f,t⟩:=I.pin p q
  exact⟨r,by rw[zN (ne f (by simp))];exact f,t⟩
def zHp (t:TE):TE:=fun σ H Q=>∃a kvs,H a=some (.dK kvs)/\t σ H fun y H'=>∃o,H' a=some (.frz o (.dK kvs))/\Q y (upd H' a (.dK kvs))
theorem zHq {e:cb}{t:TE}(b:PE X e t):PE X e (zHp t):=by
 intro pins s σ H Q I h
 obtain⟨a,kvs,c,h⟩:=h
 exact zK (b pins s σ H _ I h) fun u g ⟨y,H',d,r,o,f,q⟩=>⟨y,_,d.thaw I c f,r,q⟩
end
end L2
end
section
namespace Kn
theorem zHr (t l:S)(o:Nat):zO (zO t o++l) o=zO (t++l) o:=by
 unfold zO
 rw[aq,aq,cC]
 by_cases h:t.length<=o
 ·rw[show t.length-o=0 by omega,fY,jo]
 ·rw[oz,oz,List.drop_drop,cC]
  congr 1
  ·congr 1;omega
  ·congr 1;omega
def pp (o:Nat)(t:S):List (S×S):=(bg t.length).map fun p=>(zO (t.take p) o,(t.drop p).take 1)
theorem zHs (o:Nat)(t:S):zM o t=pp o t++[(zO t o,[])]:=by
 unfold zM pp
 rw[cU,az]
 simp
theorem zNM (o:Nat)(t:S)(c:Nat):pp o (t++[c])=pp o t++[(zO t o,[c])]:=by
 unfold pp
 rw[aq,dA,cU,az]
 congr 1
 ·refine dw fun p a=>?_
  have b:p<t.length:=bR.mp a
  rw[i0 (by omega),List.drop_append_of_le_length (by omega)]
  congr 1
  have:1<=(t.drop p).length:=by rw[cC];omega
  rw[i0 this]
 ·simp
theorem zNN {o:Nat}{nm e l:S}(h:(e,l)∈zM o nm):l.length<=1:=by
 unfold zM at h
 obtain⟨p,_,a⟩:=aX.mp h
 have b:(nm.drop p).take 1=l:=congrArg lE a
 rw[<-b,aL];omega
theorem zEa {o:Nat}{bk:List S}{e l:S}(h:(e,l)∈zJ o bk):l.length<=1:=by
 obtain⟨nm,b,a⟩:=bY.mp h
 exact zNN a
theorem zEb {l:S}(h:l.length<=1)(a:l≠[]):∃c,l=[c]:=by
 match l,h,a with
 | [c],_,_=>exact⟨c,rfl⟩
end Kn
end
section
namespace Kn
theorem zEc {α:Type} [DecidableEq α]:∀(l L:List α),l.Nodup->(∀x∈l,x∈L)->l.length<=L.length
 | [],L,_,_=>bX _
 |x::l,L,b,c=>by
  have d:=c x (ar ..)
  have f:=zEc l (L.erase x) (cx.mp b).2 fun y e=>by
   have a:y≠x:=fun z=>(cx.mp b).1 (by rw[<-z];exact e)
   exact(mK a).mpr (c y (aG _ e))
  rw[lq d]at f
  have g:0<L.length:=l5 d
  rw[bJ];omega
theorem zHt {t:S}(h:t≠[]):∃u c,t=u++[c]:=by
 rcases dU t with z|⟨u,c,z⟩
 ·exact absurd z h
 ·exact⟨u,c,by simpa using z⟩
def zEd (ps:List (S×S)):Prop:=∀e l,(e,l)∈ps->l.length<=1
def zHu (ps:List (S×S))(o n:Nat)(x:S):Prop:=x.length=n/\∀q∈zM o x,q∈ps
def Cl (ps:List (S×S))(o:Nat):Nat->S->Prop
 |0,e=>(e,[])∈ps
 |k+1,e=>∃l,l≠[]/\(e,l)∈ps/\Cl ps o k (zO (e++l) o)
structure AllT (ps:List (S×S)) (o n i:Nat) (A:List S):Prop where
 ris:A.Pairwise (· < ·)
 snd:∀t∈A,t.length=i/\(∀q∈pp o t,q∈ps)/\(0<i->Cl ps o (n-i) (zO t o))
 cmp:∀t,t.length=i->(∀q∈pp o t,q∈ps)->Cl ps o (n-i) (zO t o)->t∈A
theorem zEe:∀{a b:S} (x y:S),a.length=b.length->a<b->a++x<b++y
 | [],[],x,y,_,h=>absurd h (fX _)
 |c::a,d::b,x,y,hl,h=>by
  rw[dt,dt]
  rw[cO]at h⊢
  rcases h with h|⟨e,f⟩
  ·exact .inl h
  ·exact .inr ⟨e,zEe x y (by simpa using hl) f⟩
theorem zHv:∀(a:S) {x y:S},x<y->a++x<a++y
 | [],x,y,h=>h
 |c::a,x,y,h=>by
  rw[dt,dt,cO]
  exact .inr ⟨rfl,zHv a h⟩
theorem zHw (lt:S->List S):∀(A:List S),A.Pairwise (· < ·)->(∀a∈A,∀b∈A,a.length=b.length)->(∀a∈A,(lt a).Pairwise (· < ·))->(A.flatMap fun t=>(lt t).map (t++·)).Pairwise (· < ·)
 | [],_,_,_=>by simp
 |a::A,f,g,i=>by
  rw[eY,cY]
  refine⟨fP _ (fun x y h=>zHv a h) (i a (ar ..)),zHw lt A (cg.mp f).2 (fun x c y d=>g x (aG _ c) y (aG _ d)) (fun x c=>i x (aG _ c)),fun x c y d=>?_⟩
  obtain⟨l,_,rfl⟩:=aX.mp c
  obtain⟨b,j,e⟩:=bY.mp d
  obtain⟨m,_,rfl⟩:=aX.mp e
  exact zEe l m (g a (ar ..) b (aG _ j)) ((cg.mp f).1 b j)
theorem AllT.made {i:List (S×S)}{o n:Nat}{A:List S}(h:AllT i o n n A)(j:0<n):A.Nodup/\∀x,x∈A↔zHu i o n x:=by
 refine⟨h.ris.imp fun{a b} z e=>by rw[e]at z;exact fX _ z,fun x=>?_⟩
 unfold zHu
 rw[zHs]
 constructor
 ·intro l
  obtain⟨f,c,d⟩:=h.snd x l
  have d:=d j
  rw[iK]at d
  refine⟨f,fun q g=>?_⟩
  rcases bP.mp g with z|z
  ·exact c q z
  ·have:q=(zO x o,[]):=by simpa using z
   rw[this];exact d
 ·rintro⟨f,c⟩
  refine h.cmp x f (fun q g=>c q (bS _ g)) ?_
  rw[iK]
  exact c _ (aT _ (eB _))
end Kn
end
section
namespace Kn.Ln
open PySem L2 Kn
abbrev gU (ps:List (S×S))(e:S):List S:=(yO ps e).map (·.1)
theorem zCW (a:List (S×S))(e l:S):l∈gU a e↔(e,l)∈a:=by
 constructor
 ·intro h
  obtain⟨⟨b,n⟩,c,rfl⟩:=aX.mp h
  obtain⟨d,f⟩:=(zCT a e b n).mp c
  have g:0<a.count (e,b):=by rw[d]at f;omega
  exact dF.mp g
 ·intro h
  exact aX.mpr ⟨(l,(a.count (e,l):Int)),(zCT a e l _).mpr ⟨rfl,by have:=dF.mpr h;omega⟩,rfl⟩
theorem zNO (o:Nat)(bk:List S):zEd (zJ o bk):=fun e l h=>zEa h
end Kn.Ln
end
section
namespace L2
open PySem PySem.Spec PyProof.Rows
section
variable{X:Cx}
def zNP:V->List V->Hp->VK->Prop:=fun x vs H Q=>∃d kvs,x=.ref d/\vs=[]/\Rd H d (.dK kvs)/\∀p,H p=none->Q (.ref p) (upd H p (VLS p d))
theorem zNQ:MtM X "dict.values" zNP:=by
 intro c s σ H x vs v us Q I f g h
 obtain⟨d,kvs,rfl,rfl,hd,q⟩:=h
 cases f
 have a:=g.zero
 subst a
 obtain⟨z,i,j,rel,dd⟩:=jS I.hok hd
 refine lT lu dd.typeIs PySem.F.entry_dict_values (PySem.F.args_dict_values_1 _) (meets_dict_values (qL X.prog X.w) d i) ⟨⟨_,dd⟩,?_⟩
 refine⟨.ref s.heap.objs.size,_,I.laid (t':=s.toks) (o:=VLS s.heap.objs.size d) (fun b o e=>ag _ e) (aH _) ?_,rfl,q _ (I.hok.fresh (aH _))⟩
 exact⟨aZ _ rfl,⟨_,aZ _ rfl⟩,fun l m e k=>k _ e⟩
theorem zNR (L:X.calm=true):uV X (.builtin "sum") (fun xs H Q=>∃(p d:ai) (a:List (z0×Int)),xs=[.ref p]/\H p=some (VLS p d)/\Rd H d (.dK (a.map fun q=>(q.1,V.int q.2)))/\Q (.int (a.map (·.2)).sum) H):=by
 intro F s σ H xs us Q I r h
 obtain⟨p,d,a,rfl,M,hd,q⟩:=h
 obtain⟨u,rfl,N⟩:=jC r
 cases N
 obtain⟨z,y,m,rel,dd⟩:=jS I.hok hd
 obtain⟨G,_,_⟩:=I.hok p _ M
 obtain⟨ep,c⟩:=dd.dictAt
 have j:m.length=a.length:=by have:=rel.length;simpa using this.symm
 have B:∀(i:Nat) (v:ah),(∃k,m[i]?=some (k,v))->∃t,v=Value.int ((a.map (·.2)).getD i 0) t:=fun i v ⟨k,e⟩=>by
  obtain⟨x,l,O⟩:=KV.get rel e
  rw[aF]at l
  cases g:a[i]? with
  |none=>rw[g]at l;cases l
  |some n=>
   rw[g]at l
   have C:(n.1,V.int n.2)=(k,x):=aw l
   have:x=V.int n.2:=(eM C).2.symm
   subst this
   obtain⟨t,rfl⟩:=O
   refine⟨t,?_⟩
   have:(a.map (·.2)).getD i 0=n.2:=by rw[br,aF,g];rfl
   rw[this]
 have J:=PySem.W.kdl_values (knd:=qL X.prog X.w) (kvs:=m) (ep:=ep) (r:=p) (d:=d)
 obtain⟨P,St,hit,W,st⟩:=J.iter X.A.in1 s (I.ok.hd L) ⟨⟨_,G,rfl,rfl⟩,c⟩
 have D:=J.there s.heap ⟨⟨_,G,rfl,rfl⟩,c⟩
 refine nS (hit _ _ ⟨s.heap.objs.size,_,_,_,m.length,_,_,fun i=>(a.map (·.2)).getD i 0,rfl,W.toS,st,fun b E=>?_,B,fun s' t' y=>?_⟩)
 ·show b<(s.heap.push P).objs.size
  rw[size_push']
  rcases aQ.mp E with e|E
  ·rw[e];exact eO _
  ·rw[fC.mp E];exact di D.2
 have R:∀b o,s.heap.get? b=some o->s'.heap.get? b=some o:=fun b o e=>
  y.heap b o (fun T=>absurd (aM e) (by rw[fC.mp T];exact bO _)) (ag _ e)
 rw[ql y]
 refine⟨.int (a.map (·.2)).sum,H,I.kept (h':=s'.heap) (t':=s'.toks) R,⟨t',?_⟩,q⟩
 rw[j,<-af (f:=(·.2)) (as:=a),zDm _ _ (aH _),aV]
def zNS (r:V->List V->Hp->VK->Prop)(to:TE):TE:=fun σ H Q=>to σ H fun x H1=>∃a,x=.ref a/\IsD H1 a/\r x [] H1 Q
theorem zNT {o:cb}{to:TE}{name:Str}{apos b:Pos}{id:String}{r:V->List V->Hp->VK->Prop}(slot:Slot "dict" name id)(g:typeOf (.builtin id)=pure (.type "method_descriptor"))(j:MtR X id r)(l:PE X o to)
  (e:attributeBase o name X.env (eval o X.env)=eval o X.env:=by rfl) (f:(apos.endLine==b.line)=true:=by rfl):PE X (.Call (.Attribute o name apos) [] [] b) (zNS r to):=by
 intro c s σ H Q I h
 refine wpAny_Call_method0_late e f (zK (l c s σ H _ I h) fun v m ⟨x,n,i,p,a,ex,d,q⟩=>?_)
 subst ex
 cases p
 obtain⟨t,u,_⟩:=zGa i d
 exact⟨"dict",id,ir,slot,g,t,u,iC rfl (PySem.evalArgs_none (j c m σ n (.ref a) [] _ [] Q i (show zW (.ref a) (.ref a)from rfl) .nil q))⟩
end
end L2
end
section
namespace Kn.Ln
open PySem L2 Kn
section
variable{P:aP}{w:bc}{K:ae}{mg:Str->Option ah}{base:bK}
theorem zQ.imp {k:Nat}{x:Str}{a:List Str}{sp sp':Sp}(C:zQ P w K mg base k x a sp)(h:∀{vs H Q E},sp' vs H Q E->sp vs H Q E):zQ P w K mg base k x a sp' :=
 let⟨f,fd,F,r⟩:=C;⟨f,fd,F.imp fun _ _ _ _=>h,r⟩
def zHx (K:ae):Sp:=fun vs H Q _=>∃(d:ai) (ps:List (S×S)) (e l:S),vs=[.ref d,sv l]/\Rd H d (.dK (yG (yO ps e)))/\ps.length<1000/\∀v H',zA H H'->yV K H' v (yQ ps e l)->Q v H'
theorem zNU {vs:List V}{H:Hp}{Q:VK}{E:XK}(h:zEG K vs H Q E):zHx K vs H Q E:=by
 obtain⟨d,a,e,l,rfl,hd,hl,k⟩:=h
 exact⟨d,a,e,l,rfl,.inl hd,hl,k⟩
theorem zNV {f:ai}{fd:aO}(F:Fun K "part_in" "part_in" zEH f fd)(B:Blt mg)(C:Cst2 K mg)(u:zQ P w K mg base 2 "lowest" ["up","down"] zCR):FnOk P w K mg base zU 3 f fd ["row","letter"] (zHx K):=by
 obtain⟨n,x,y⟩:=C.nought
 refine F.ok zMo (fun vs H Q E h=>?_) (fun D A outer s H vs Q E r h=>?_)
 ·obtain⟨d,a,e,l,rfl,_⟩:=h;rfl
 ·obtain⟨d,a,e,l,rfl,hd,hl,k⟩:=h
  have t:=jT r
  refine⟨_,zG (yK (zBL (zDW t (pv 1) (pv 0))) (zH (zT (v3 (v:=.ref n) (by rfl) x rfl))) yJ)
   (zH (zT (zL u r rfl (zB (zAG t (pv 0) (pv 1) (fun _ _=>rfl)) (zB (zZ (zNR rfl) (by rfl) B.sum iR (zB (zNT lu PySem.F.type_dict_values zNQ (pv 0)) zC)) zC))))),?_⟩
  have b:vR H d (sv l) (yU (yG (yO a e)) (Sum.inr (tx l))):=.inl ⟨_,Sum.inr (tx l),hd,rfl,rfl⟩
  refine⟨_,rfl,_,rfl,d,_,rfl,b,_,rfl,?_⟩
  rw[qB,zAw]
  by_cases c:0<a.count (e,l)
  ·rw[if_pos c]
   refine yI ?_
   rw[qB,zAw,if_pos c]at b
   refine⟨_,rfl,_,rfl,d,.int (a.count (e,l):Int),rfl,b,?_⟩
   refine⟨_,rfl,d,rfl,.inl ⟨_,hd⟩,d,_,rfl,rfl,hd,fun p G=>?_⟩
   have g:zA H (upd H p (VLS p d)):=zA.upd1 G
   have i:Rd (upd H p (VLS p d)) d (.dK (yG (yO a e))):=by
    rcases hd with z|⟨o,z⟩
    ·exact .inl (g _ _ z)
    ·exact .inr ⟨o,g _ _ z⟩
   refine⟨p,d,(yO a e).map (fun q=>((Sum.inr (tx q.1):z0),q.2)),rfl,zD,?_,?_⟩
   ·have j:((yO a e).map (fun q=>((Sum.inr (tx q.1):z0),q.2))).map (fun q=>(q.1,V.int q.2))=yG (yO a e):=by
     unfold yG vN gP
     rw[cp,cp];rfl
    rw[j];exact i
   ·have j:(((yO a e).map fun q=>((Sum.inr (tx q.1):z0),q.2)).map (·.2)).sum=(tot a e:Int):=by
     rw[cp];exact zCU a e
    rw[j]
    have I:=gT a e l
    have J:=tot_le a e
    refine⟨_,_,rfl,by omega,by omega,by omega,fun L m=>k _ _ (g.trans (zA.upd1 m)) ?_⟩
    have:yQ a e l=low (a.count (e,l):Int) (tot a e:Int):=by unfold yQ;rw[if_neg (by omega)]
    rw[this]
    exact yV.new
  ·rw[if_neg c]
   refine yL ?_
   have:yQ a e l=(0,1):=by unfold yQ;rw[if_pos (by omega)]
   exact k _ _ (zA.refl H) (by rw[this];exact⟨n,rfl,y _⟩)
end
end Kn.Ln
end
section
namespace L2
open PySem PySem.Spec PyProof.Rows
def zEf (lo c:Int)(n:Nat):It:=⟨fun i _=>i<n,fun i H x H'=>H'=H/\x=.int (lo+(i:Int)*c),fun i _=>n<=i⟩
theorem zNW (lo c:Int)(n:Nat):Known (zEf lo c n) ((bg n).map fun(i:Nat)=>V.int (lo+(i:Int)*c)) (fun _=>True) :=
 ⟨fun i H _ hi=>by show i<n;simpa using hi,fun i H x H' _ y=>⟨y.1,fun hi=>by
  have a:i<n:=by simpa using hi
  rw[aF,cy a,y.2];rfl⟩,fun H _=>by show n<=_;simp⟩
theorem zNX {P:aP}{w:bc}{K:ae}{B:cb}(it:ai)(lo c:Int)(n:Nat):Turn P w K B (zEf lo c n) [it] it (fun i h=>mC h it (lo+(i:Nat)*c) ((n:Int)- (i:Nat)) c) where
 mem:=by simp
 obj:=fun i h st b d=>by
  have e:b=it:=by simpa using d
  subst e
  exact⟨_,st,fun v z=>by
   have C:Data.fields _=Data.cell v:=z
   cases C⟩
 keep:=fun i h h' st k=>k it (by simp) _ st
 item:=by
  intro X j l m p i a s σ H E I g st q
  subst j l m
  obtain⟨r,f1,f2,u,x,y⟩:=g it (by simp)
  have W:=rF (prog:=X.prog) (w:=X.w) (I.ok.hd p) it lo c n
  refine W.item i s _ _ q st fun v h' A D f F=>?_
  obtain⟨t,rfl⟩:=D
  have G:Inv X a σ H {s with heap:=h',toks:=A}:=I.turned (fun b o d e=>F b o (by simpa using d) e) r f1 u x y
  exact⟨_,rfl,zAc (s:={s with heap:=h',toks:=A}) (n :="range_iterator") f rfl rfl (by decide) ⟨.int (lo+i*c),H,G,⟨t,rfl⟩,⟨rfl,rfl⟩,f,fun b d=>(g b d).1⟩⟩
 done:=by
  intro X j l m p i a s σ H E I g st q
  subst j l m
  obtain⟨r,f1,f2,u,x,y⟩:=g it (by simp)
  exact lO (I.ok.hd p) st (by have:n<=i:=q;omega) fun h' J=>⟨rfl,I.turned (t':=s.toks) (fun b o d e=>J b o d e) r f1 u x y⟩
 self:=fun _ _ _ _ _ st h=>lP st h
section
variable{X:Cx}{tg:cb}
theorem zHy (a b:Int):fi a b (-1)=((a-b).toNat:Int):=by
 unfold fi
 rw[if_neg (by decide)]
 split
 ·have:(a-b-1)/ (-(-1:Int))=a-b-1:=by show(a-b-1)/1=_;exact Int.ediv_one _
  rw[this];omega
 ·omega
theorem zNY {a b:Int}(e:-1000<=a)(c:a<1000)(f:-1000<=b)(d:b<1000):mX a b (-1)=true:=by
 unfold mX
 rw[zHy]
 simp only[oX,bz,oS,decide_eq_true_eq,beq_iff_eq]
 refine⟨by omega,.inr ?_⟩
 rw[if_neg (by decide)]
 simp only[bz,decide_eq_true_eq]
 omega
def zNZ (ta:TA):TI:=fun σ H R=>ta σ H fun vs H1=>∃i j:Int,vs=[.int i,.int j,.int (-1)]/\(-1000<=i/\i<1000/\-1000<=j/\j<1000)/\R (zEf i (-1) (i-j).toNat) H1
theorem zNa {a b c:cb}{w:TA}{p pos:Pos}(y:Gl X "range")(z:X.mg "range"=none)(A:PA X [a,b,c] w)(B:starEach [a,b,c] X.env=[(false,eval a X.env),(false,eval b X.env),(false,eval c X.env)]:=by rfl)(l:starEach [b,c] X.env=[(false,eval b X.env),(false,eval c X.env)]:=by rfl) :
  PI X tg (.Call (.Name "range" p) [a,b,c] [] pos) (zNZ w):=by
 intro f s σ H R I h
 refine qu (kN I y z o9 (cK (zK (A pos f s σ H _ I h) fun us g ⟨vs,x,C,D,n⟩=>?_) (by rw[B,l]) (by rw[l];rfl)))
 obtain⟨i,j,e,⟨n,E,F,G⟩,q⟩:=n
 subst e
 cases D with
 |cons r m=>
  cases m with
  |cons J m=>
   cases m with
   |cons u m=>
   cases m
   obtain⟨t,rfl⟩:=r
   obtain⟨t',rfl⟩:=J
   obtain⟨d,rfl⟩:=u
   refine call_range_3 (by decide) ?_ (.inl (lQ (by decide)))
   refine nk (rG ..) (zNY n E F G) ?_
   have v:Inv X f σ x {g with heap:=g.heap.push {cls:=.type "range",data:=.fields #[.int i t,.int j t',.int (-1) d]},toks:=g.toks}:=C.kept fun b o e=>ag _ e
   refine⟨(g.heap.push {cls:=.type "range",data:=.fields #[.int i t,.int j t',.int (-1) d]}).objs.size,[(g.heap.push {cls:=.type "range",data:=.fields #[.int i t,.int j t',.int (-1) d]}).objs.size],_,_,x,rfl,
    v.kept (t':=g.toks) fun b o e=>ag _ e,zNX _ i (-1) (i-j).toNat,?_,fun b L=>?_,q⟩
   ·have M:i+((0:Nat):Int)*(-1)=i:=by simp
    have N:(((i-j).toNat:Nat):Int)- ((0:Nat):Int)=fi i j (-1):=by rw[zHy];omega
    show mC _ _ (i+((0:Nat):Int)*(-1)) ((((i-j).toNat:Nat):Int)- ((0:Nat):Int)) (-1)
    rw[M,N]
    exact aZ _ rfl
   ·have e:b=(g.heap.push {cls:=.type "range",data:=.fields #[.int i t,.int j t',.int (-1) d]}).objs.size:=by simpa using L
    subst e
    exact v.fpOk (aH _) (v.hok.fresh (aH _))
end
end L2
end
section
namespace Kn.Ln
open PySem L2 Kn
theorem zNb {X:Cx}(a:ae)(b:X.K=a)(c:X.A.units+64<cLine):yN X (compareOp .NotEq) (zDe a true):=by
 subst b
 exact kX c
theorem zNc (a:List (S×S))(e l:S):(yU (yG (yO a e)) (Sum.inr (tx l))).isSome=decide ((e,l)∈a):=by
 show(yU (vN V.int (yO a e)) _).isSome=_
 rw[qB,zAw]
 by_cases c:0<a.count (e,l)
 ·rw[if_pos c,decide_eq_true (dF.mp c)];rfl
 ·rw[if_neg c,decide_eq_false (fun z=>c (dF.mpr z))];rfl
def Abz (bk:List S):Prop:=∀nm∈bk,∀c∈nm,c=97\/c=98\/c=122
theorem zNd {o:Nat}{bk:List S}(f:Abz bk){L:List S}{e:S}(g:L.Pairwise (· < ·))(j:∀l∈L,l≠[]/\(e,l)∈zJ o bk):L.length<=3:=by
 refine zEc L [[97],[98],[122]] (g.imp fun{a b} h z=>by rw[z]at h;exact gR _ h) fun l hl=>?_
 obtain⟨m,d⟩:=j l hl
 obtain⟨c,rfl⟩:=zEb (zEa d) m
 obtain⟨nm,n,q⟩:=bY.mp d
 obtain⟨p,_,r⟩:=aX.mp q
 have s:(nm.drop p).take 1=[c]:=congrArg lE r
 have t:c∈nm:=iZ (i:=p) (dk (i:=1) (by rw[s];exact eB _))
 rcases f nm n c t with rfl|rfl|rfl<;>simp
theorem zHz (A:List S)(g:S->List S)(h:∀t∈A,(g t).length<=3):(A.flatMap g).length<=3*A.length:=by
 induction A with
 |nil=>simp
 |cons t A ih=>
  rw[eY,aq,bJ]
  have b:=h t (ar ..)
  have c:=ih fun u a=>h u (aG _ a)
  omega
end Kn.Ln
end
section
namespace L2
open PySem PySem.Spec PyProof.Rows
structure Flown (P:aP) (w:bc) (outer:List Env) (H:Hp) (s:au) (e:ai) (cls a0:ah) (B:bK) (H':Hp) (s':au):Prop where
 os:s'.os=s.os
 bare:jk s'.gens
 fly:ro B outer e cls a0 s'.heap
 trB:∀b u,H' b=some u->∃o,B.get? b=some o
 hok:yB P w H' s'.heap
 keep:∀b o,s.heap.get? b=some o->H b=none->b∉yW outer->B.get? b=some o
 slot:∀b o,s.heap.get? b=some o->b∈yW outer->H b=none->∃sl,s'.heap.get? b=some {o with slots:=sl}
 free:∀b o,s.heap.get? b=some o->H b=none->H' b=none
 there:∀b o,s.heap.get? b=some o->b∉yW outer->∃o',B.get? b=some o'
 tups:∀b xs,H b=some (.tup xs)->H' b=some (.tup xs)
 frzs:∀b o u,H b=some (.frz o u)->H' b=some (.frz o u)
 tbls:∀b ps,H b=some (.tbl ps)->∃more,H' b=some (.tbl (ps++more))
 ef:H' e=none
def vZ (P:aP)(w:bc):uP:=fun outer H s E ev s'=>∃(e:ai) (cls a0:ah) (B:bK) (H':Hp),ev=.ref e/\Flown P w outer H s e cls a0 B H' s'/\E cls none H'
section
variable{P:aP}{w:bc}{outer:List Env}{H H':Hp}{s s':au}{e:ai}{cls a0:ah}{B h':bK}
theorem zEg (ok:yB P w H' s'.heap)(trB:∀b u,H' b=some u->∃o,B.get? b=some o)(st:B.StaysIn s'.heap)(c:B.StaysIn h'):yB P w H' h':=fun a u q=>by
 refine(ok a u q).stay (fun b v i r=>?_) (fun _ z=>z) fun _ _ z=>z
 have d:∃f,H' b=some f:=by
  rcases i with z|z
  ·rw[z];exact⟨u,q⟩
  ·exact⟨_,z⟩
 obtain⟨f,g⟩:=d
 obtain⟨o,h⟩:=trB b f g
 have:=st b o h
 rw[r]at this
 cases this
 exact c b _ h
theorem Flown.un (F:Flown P w outer H s e cls a0 B H' s')(frf:∀b∈yW outer,H b=none):Un (yW outer) [] H H' s.heap s'.heap where
 keep:=fun b o q n a _=>F.fly.1 b o (F.keep b o q n a)
 slot:=fun b o q n a _=>F.slot b o q a n
 free:=fun b o q n _=>F.free b o q n
 there:=fun b o q _=>by
  by_cases a:b∈yW outer
  ·obtain⟨d,z⟩:=F.slot b o q a (frf b a)
   exact⟨_,z⟩
  ·obtain⟨c,z⟩:=F.there b o q a
   exact⟨c,F.fly.1 b c z⟩
 tups:=F.tups
 frzs:=F.frzs
 tbls:=F.tbls
theorem Flown.on {outer:List Env}(F:Flown P w outer H s e cls a0 B H' s')(fly:ro B outer e cls a0 h')(up:s'.heap.UpToSlots h')(a:s'.heap.FunFrames B outer):Flown P w outer H s e cls a0 B H' {s' with heap:=h'} where
 os:=F.os
 bare:=F.bare
 fly:=fly
 trB:=F.trB
 hok:=zEg F.hok F.trB F.fly.1 fly.1
 keep:=F.keep
 slot:=fun b o q f n=>by
  obtain⟨h,z⟩:=F.slot b o q f n
  obtain⟨_,i,c,hd⟩:=a.mem f
  rw[z]at c
  cases c
  obtain⟨d,g⟩:=up b _ z hd
  exact⟨d,g⟩
 free:=F.free
 there:=F.there
 tups:=F.tups
 frzs:=F.frzs
 tbls:=F.tbls
 ef:=F.ef
end
section
variable{X:Cx}{pins:List (ai×Obj)}{σ:St}{H H':Hp}{s s':au}{e:ai}{cls a0:ah}{B h':bK}
theorem Inv.nstk (I:Inv X pins σ H s){b:ai}{o:Obj}(q:X.s₀.heap.get? b=some o)(a:b∉X.fs):b∉yW X.stack:=fun z=>by
 rcases aQ.mp (I.stkSub b z)with r|r
 ·exact absurd (bw (aM q) I.ok.above) (by rw[r];exact bO _)
 ·exact a r
theorem zEh (c:X.stack=X.env::X.outer){b:ai}(a:b∈X.fs):b∈yW X.stack:=by
 rw[c]
 unfold yW
 rw[gp]
 cases X.env.frame with
 |none=>exact a
 |some L=>exact aG _ a
theorem Flown.leaves (I:Inv X pins σ H s)(j:X.stack=X.env::X.outer)(r:X.env.frame=some X.env.locals)(t:X.ex=[])(F:Flown X.prog X.w X.stack H s e cls a0 B H' s'){Q:Unit->au->Prop}{E:ah->au->Prop}{M:nF}
  (v:∀f,Flown X.prog X.w X.outer X.H₀ X.s₀ e cls a0 B H' f->Q () f):wpAny M X.A (leaving X.env (.ref e)) Q E s':=by
 have fly:=F.fly
 rw[j]at fly
 have g:=F.fly.2.2.1
 refine wpAny_leaves_onW (by rw[<-j];exact I.ok.frames) r fly fun h' c up=>v _ ?_
 have a:∀b:ai,b∉X.ex:=fun b z=>by rw[t]at z;cases z
 refine⟨F.os.trans I.os,F.bare,c,F.trB,zEg F.hok F.trB F.fly.1 c.1,fun b o q n d=>?_,fun b o q d n=>?_,fun b o q n=>?_,fun b o q d=>?_,fun b xs q=>F.tups b xs (I.base.tups b xs q),fun b o u q=>F.frzs b o u (I.base.frzs b o u q),fun b x q=>?_,F.ef⟩
 ·exact F.keep b o (I.base.keep b o q n d (a b)) (I.base.free b o q n (a b)) (I.nstk q d)
 ·obtain⟨L,z⟩:=I.base.slot b o q n d (a b)
  obtain⟨y,p⟩:=F.slot b _ z (zEh j d) (I.base.free b o q n (a b))
  obtain⟨_,l,h,hd⟩:=g.mem (show b∈X.stack.filterMap (·.frame)from zEh j d)
  rw[p]at h
  cases h
  obtain⟨i,m⟩:=up b _ p hd
  exact⟨i,m⟩
 ·obtain⟨l,z⟩:=I.base.there b o q (a b)
  exact F.free b l z (I.base.free b o q n (a b))
 ·obtain⟨l,z⟩:=I.base.there b o q (a b)
  exact F.there b l z (I.nstk q d)
 ·obtain⟨C,D⟩:=I.base.tbls b x q
  obtain⟨G,J⟩:=F.tbls b _ D
  exact⟨C++G,by rw[J,nj]⟩
theorem zNe {C:ai}{vs:List ah}(I:Inv X pins σ H s)(i:X.stack=X.env::X.outer)(v:X.env.frame=some X.env.locals)(x:X.ex=[])(j:pB s.heap h' e (.ref C) vs){Q:Unit->au->Prop}{E:ah->au->Prop}{M:nF}
  (y:∀d a0 B,Flown X.prog X.w X.outer X.H₀ X.s₀ e (.ref C) a0 B H d->Q () d):wpAny M X.A (leaving X.env (.ref e)) Q E {s with heap:=h'}:=by
 have fr:=I.stack
 have l:∀env∈X.stack,∀b,env.frame=some b->b∈yW X.stack:=fun env D b a=>jv.mpr ⟨env,D,a⟩
 have f:=PySem.W.funFrames_hide (as:=yW X.stack) fr l
 rw[i]at f
 have c:∀b:ai,b∉X.ex:=fun b z=>by rw[x]at z;cases z
 refine wpAny_leaves_madeW (base:=ia s.heap (yW X.stack)) (by rw[<-i];exact I.ok.frames) v (fun b o q=>js _ q) (by rw[i];exact f) j fun G t fly tup bt up=>y _ (.ref t) (ia s.heap (yW X.stack)) ?_
 have trB:∀b u,H b=some u->∃o,(ia s.heap (yW X.stack)).get? b=some o:=fun b u q=>by
  obtain⟨o,F⟩:=(I.hok b u q).obj
  exact⟨o,gk _ F fun z=>by rw[I.stkFree b z]at q;cases q⟩
 have m:(ia s.heap (yW X.stack)).StaysIn s.heap:=fun b o q=>js _ q
 refine⟨I.os,I.bare,fly,trB,zEg (s':=s) I.hok trB m fly.1,fun b o q n a=>?_,fun b o q a n=>?_,fun b o q n=>I.base.free b o q n (c b),fun b o q a=>?_,I.base.tups,I.base.frzs,I.base.tbls,I.hok.free j.new⟩
 ·exact gk _ (I.base.keep b o q n a (c b)) (I.nstk q a)
 ·obtain⟨J,z⟩:=I.base.slot b o q n a (c b)
  obtain⟨_,r,g,hd⟩:=fr.mem (show b∈X.stack.filterMap (·.frame)from zEh i a)
  rw[z]at g
  cases g
  obtain⟨h,p⟩:=up b _ (j.keeps b _ z) hd
  exact⟨h,p⟩
 ·obtain⟨r,z⟩:=I.base.there b o q (c b)
  exact⟨r,gk _ z (I.nstk q a)⟩
end
structure XOk (X:Cx) (E:XK):Prop where
 made:∀(pins:List (ai×Obj)) (σ:St) (H:Hp) (s:au) (h':bK) (e C:ai) (vs:List ah),Inv X pins σ H s->pB s.heap h' e (.ref C) vs->E (.ref C) none H->X.xe (.ref e) {s with heap:=h'}
 pass:gM (vZ X.prog X.w) X E
theorem zNf {P:aP}{w:bc}{K:ae}{mg:Str->Option ah}{base:bK}{N:List Str}{a:Str}{scope:dS}{f:ai}{i:ah}{A:bU}{outer:List Env}{s:au}{H:Hp}{E:XK} :
  XOk (jZ (vZ P w) P w K mg base N a scope f i A outer s H E) E where
 made:=fun b σ h j h' e C vs I l c=>zNe I rfl rfl rfl l fun d g B F=>⟨e,_,g,B,h,rfl,F,c⟩
 pass:=fun b σ h j ev s' I ⟨e,cls,g,B,H',m,F,c⟩=>by
  subst m
  exact Flown.leaves I rfl rfl rfl F fun d n=>⟨e,cls,g,B,H',rfl,n,c⟩
abbrev zAM:List ah:=[.type "ValueError",.type "Exception",.type "BaseException",.type "object"]
structure XCls (K:ae) (mg:Str->Option ah) (x:Str) (C:ai):Prop where
 bound:mg x=some (.ref C)
 exc:eN K C zAM "ValueError.__new__"=true
theorem zAN {K:ae}{h:bK}{C:ai}{a:String}{c:List ah}(X:K.In h)(q:eN K C c a=true) :
  ∃bm N nm q bs hdct sn sub ab col dd k0 k1 k2 k3 k5 mN,h.get? C=some (excClassObj nm q C N bs bm hdct sn sub ab col dd k0 k1 k2 k3 k5 a)/\h.Ns N mN/\mN "__init__"=none/\OwnTail h c bm/\∃e,K.lookup C=some ⟨.type "type",dd,.cls e,#[k0,k1,k2,k3,some (.builtin a),k5]⟩/\e.mro=.ref C::bm:=by
 unfold eN at q
 split at q
 ·rename_i dd e g i
  split at q
  ·rename_i s bm k0 k1 k2 k3 n k5 j m
   simp only[bz,beq_iff_eq,nX]at q
   obtain⟨⟨⟨⟨⟨rfl,rfl⟩,b⟩,o⟩,hok⟩,d⟩:=q
   obtain⟨nm,bs,p,ns,r,hd,sn,sub,ab,col,del⟩:=e
   dsimp only at j b hok d
   subst j b
   have f:g=#[k0,k1,k2,k3,some (.builtin n),k5]:=by
    obtain⟨l⟩:=g
    simp only at m
    rw[m]
   subst f
   exact⟨bm,ns,nm,r,bs,hd,sn,sub,ab,col,dd,k0,k1,k2,k3,k5,_,X _ _ i,.of_isNs (PySem.W.isNs_of_in X hok),PySem.W.nsMap_none_of_in X hok d,PySem.W.tail_of_in X o,_,i,rfl⟩
  ·cases q
 ·cases q
def zNg (C:ai)(E:XK)(t:TA):TS:=fun _ σ H=>t σ H fun vs H1=>vs.length<=sizeLine/\E (.ref C) none H1
section
variable{X:Cx}
theorem zEi {E:XK}{x:Str}{C:ai}{np a pos:Pos}{g:cb}{d:List cb}{t:TA}(ok:XOk X E)(o:X.calm=true)(O:XCls X.K X.mg x C)(p:Gl X x)(u:PA X (g::d) t)
  (m:starEach (g::d) X.env=(false,eval g X.env)::starEach d X.env:=by rfl) (b:(backTo a (starEach d X.env)).any (·.1)=false:=by rfl) (j:(x==("__debug__" : Str))=false:=by decide) :
  PS X (.Raise (some (.Call (.Name x np) (g::d) [] a)) none pos) (zNg C E t):=by
 intro c s σ H D I h
 obtain⟨v,N,nm,q,bs,hdct,sn,sub,ab,col,dd,k0,k1,k2,k3,k5,mN,w,z,l,T,_⟩:=zAN I.mod.kin O.exc
 refine wpAny_Raise_call_subU (C:=C) (nm:=nm) (q:=q) (N:=N) (bs:=bs) (bm:=v) (hdct:=hdct) (sn:=sn) (sub:=sub) (ab:=ab) (col:=col) (dd:=dd) (k0:=k0) (k1:=k1) (k2:=k2) (k3:=k3) (k5:=k5)
  dQ (by decide) dQ (mN:=mN) (T.hasType dQ.hasBase) (I.ok.hd o) (by rw[m];show(false||(backTo a (starEach d X.env)).any (·.1))=false;rw[b];rfl) l ?_
 refine zAa I p O.bound ⟨rfl,?_⟩ j
 have f:=u a c s σ H _ I h
 rw[m]at f⊢
 refine iX (cf f (fun vs A B=>?_) fun _ _ y=>y)
 obtain⟨us,F,i,r,n⟩:=B
 exact⟨rfl,by rw[<-r.length];exact n.1,i.bk _ _ w,z.keeps i.bk,T.keeps i.bk,fun h' e G=>ok.made c σ F A h' e C vs i G n.2⟩
end
section
variable{P:aP}{w:bc}{K:ae}{mg:Str->Option ah}{base:bK}
theorem Fun.okR {x a:Str}{st:cJ}{f:ai}{fd:aO}{N d:List Str}{k:Nat}{sp:Sp}(F:Fun K x a st f fd)(S:FnScope N d (defScope st))(len:∀vs H Q E,sp vs H Q E->vs.length=d.length)
  (c:∀(b:ah) (A:bU) (outer:List Env) (s:au) (H:Hp) (vs:List V) (Q:VK) (E:XK),Room k (A.deeper (envOfC a (defScope st) s.heap.objs.size f b))->sp vs H Q E->XOk (jZ (vZ P w) P w K mg base N a (defScope st) f b A outer s H E) E->
   ∃t,uF (jZ (vZ P w) P w K mg base N a (defScope st) f b A outer s H E) (defBody st) t/\t {nx:=fun _ H'=>Q .non H',rt:=Q} (start N vs) H):FnOk P w K mg base (vZ P w) (k+1) f fd d sp:=by
 obtain⟨m,od,kV,h,pm,n,b,ct,i,rfl,j,e⟩:=F.ex
 refine zGH j e S len fun A outer s H vs Q E l g=>?_
 exact c b A outer s H vs Q E l g zNf
def qQ (P:aP)(w:bc)(K:ae)(mg:Str->Option ah)(base:bK)(k:Nat)(x:Str)(ps:List Str)(sp:Sp):Prop :=
 ∃(f:ai) (fd:aO),FnOk P w K mg base (vZ P w) k f fd ps sp/\mg x=some (.ref f)/\dB K (.ref f)=true/\qV K fd ps []
theorem uR {X:Cx}{k:Nat}{x:Str}{g:List Str}{sp:Sp}{p pos:Pos}{e:cb}{c:List cb}{t:TA}{E:XK}(C:qQ X.prog X.w X.K X.mg X.base k x g sp)(ok:gM (vZ X.prog X.w) X E)(h:Room k X.A)(i:Gl X x)(j:PA X (e::c) t)
  (l:starEach (e::c) X.env=(false,eval e X.env)::starEach c X.env:=by rfl) (a:(backTo pos (starEach c X.env)).any (·.1)=false:=by rfl)
  (d:(x==("__debug__" : Str))=false:=by decide):PE X (.Call (.Name x p) (e::c) [] pos) (zAD sp [] E t):=by
 obtain⟨f,fd,G,m,kp,b⟩:=C
 exact zGE G h i m kp b .nil ok j d l a
end
def XO (e C:ai):HO:=.ext fun h=>∃oe vs,h.get? e=some oe/\oe.cls=.ref C/\oe.data=.fields vs
section
variable{M:nF}{A:bU}{E:ah->au->Prop}{h:bK}{g:Array o5}{d:Drawn}{t:Nat}{os:OsState}
theorem zNh {nm q:Str}{C N:ai}{bs bm:List ah}{hdct:Bool}{sn:List Str}{sub:List ah}{ab:Bool}{col:Option Bool}{dd:Option ai}{k0 k1 k2 k3 k5:Option ah}{b:String}
  {o z:Str} {L B:ai} {p c:List ah} {i:Bool} {r:List Str} {l:List ah} {s:Bool} {m:Option Bool} {u:Option ai} {D F G H I:Option ah} {a:String} {e:ai} {x:Obj} {Q:Bool->au->Prop}
  (J:h.get? C=some (excClassObj nm q C N bs bm hdct sn sub ab col dd k0 k1 k2 k3 k5 b)) (y:h.get? L=some (excClassObj o z L B p c i r l s m u D F G H I a)) (O:h.get? e=some x) (n:x.cls=.ref C) (j:c.contains (.type "BaseException")=true)
  (v:(Value.ref C::bm).contains (.ref L)=true) (P:Q true ⟨h,g,d,t,os⟩):wpAny M A (excMatches (.ref e) (.ref L)) Q E ⟨h,g,d,t,os⟩:=by
 have w:(Value.ref L::c).contains (.type "BaseException")=true:=by rw[ke,j,Bool.or_true]
 have f:=tc_notTuple
 unfold excMatches
 repeat(first|(with_reducible refine dR O ?_;rw[n])|with_reducible refine dR y ?_|(with_reducible refine gu y ?_;rw[w])|(with_reducible refine gu J ?_;rw[v])|wp_step)
 exact P
end
abbrev Cx.hand (X:Cx)(e:ai):Cx:={X with A:=X.A.mark (some (.ref e)),calm:=false,xe:=fun _ _=>False}
section
variable{X:Cx}{pins:List (ai×Obj)}{σ:St}{H:Hp}{s:au}{e:ai}
theorem Inv.hand (I:Inv X pins σ H s)(e:ai):Inv (X.hand e) pins σ H s :=
 ⟨⟨I.ok.mod,I.ok.kind,I.ok.glob,I.ok.blt,I.ok.above,I.ok.inj,I.ok.has,I.ok.cab,(fun z=>by cases z),I.ok.frames,I.ok.stk,I.ok.exf,I.ok.bs,I.ok.bsz,I.ok.noex,I.ok.exfs,I.ok.funs,I.ok.frf⟩,I.os,I.bare,I.base,I.loc,I.cell,I.free,I.freeC,I.pin,I.hok,I.len⟩
theorem Inv.unhand (I:Inv (X.hand e) pins σ H s)(ok:X.Ok):Inv X pins σ H s :=
 ⟨ok,I.os,I.bare,I.base,I.loc,I.cell,I.free,I.freeC,I.pin,I.hok,I.len⟩
theorem Inv.track {a:ai}{o:HO}(I:Inv X pins σ H s)(g:H a=none)(f:∀b d,X.s₀.heap.get? b=some d->b≠a)(h:X.env.locals≠a)(i:∀x c,X.env.cells.lookup x=some c->c≠a)(j:∀p∈X.pn++pins,p.1≠a)
  (new:yZ X.prog X.w (upd H a o) s.heap a o):Inv X pins σ (upd H a o) s :=
 ⟨I.ok,I.os,I.bare,⟨I.base.keep,I.base.slot,fun b d q n l=>by rw[zN (f b d q)];exact I.base.free b d q n l,I.base.there,fun b xs q=>by rw[zN (vJ (I.base.tups b xs q) g)];exact I.base.tups b xs q,
  fun b d u q=>by rw[zN (vJ (I.base.frzs b d u q) g)];exact I.base.frzs b d u q,fun b r q=>let⟨m,z⟩:=I.base.tbls b r q;⟨m,by rw[zN (vJ z g)];exact z⟩⟩,I.loc,I.cell,by rw[zN h];exact I.free,
  fun x c q=>by rw[zN (i x c q)];exact I.freeC x c q,fun p q=>let⟨t,v,y⟩:=I.pin p q;⟨t,by rw[zN (j p q)];exact v,y⟩,I.hok.track g new,I.len⟩
theorem Inv.forget {h':bK}{A:Str->Option ah}{t':Nat}(I:Inv X pins σ H s)(l:h'.Ns X.env.locals A)(g:jm X.env.locals s.heap h'):Inv X pins (aU X.N.length none) H {s with heap:=h',toks:=t'}:=by
 obtain⟨m,C,_⟩:=id I.loc
 obtain⟨O,_,_,D,_⟩:=id C
 have cne:=I.cne
 have a:yB X.prog X.w H h':=fun b E q=>by
  refine(I.hok b E q).stay (fun c B F r=>(g.2 c ?_).trans r) (fun _ z=>z) fun _ _ z=>z
  rintro rfl
  rcases F with z|z
  ·have:=I.free
   rw[z,q]at this;cases this
  ·rw[I.free]at z;cases z
 have f:∀b o,X.s₀.heap.get? b=some o->b≠X.env.locals:=fun b o e=>bH (bw (aM e) I.ok.above)
 refine⟨I.ok,I.os,I.bare,⟨fun b o e n t h=>?_,fun b o e n t h=>?_,I.base.free,fun b o e h=>?_,I.base.tups,I.base.frzs,I.base.tbls⟩,⟨A,l,fun i x v j u P=>?_⟩,fun y c e=>?_,I.free,I.freeC,fun p G=>?_,a,by simp⟩
 ·exact(g.2 b (f b o e)).trans (I.base.keep b o e n t h)
 ·obtain⟨J,j⟩:=I.base.slot b o e n t h
  exact⟨J,(g.2 b (f b o e)).trans j⟩
 ·obtain⟨L,j⟩:=I.base.there b o e h
  exact⟨L,(g.2 b (f b o e)).trans j⟩
 ·rw[dG]at u
  split at u<;>cases u
 ·obtain⟨B,z⟩:=I.cell y c e
  exact⟨B,z.sameBut g (cne y c e)⟩
 ·obtain⟨e,n,ne,M,d⟩:=I.pin p G
  exact⟨(g.2 p.1 ne).trans e,n,ne,M,d⟩
def zBA (K:ae)(C L:ai):Bool:=match K.lookup C with
 |some ⟨_,_,.cls cd,_⟩=>cd.mro.contains (.ref L)
 |_=>false
theorem zNi {H':Hp}{s':au}{C L:ai}{a0:ah}{B:bK}{x n:Str}{i:Nat}{np pos:Pos}{b0:cJ}{suite:List cJ}{D:Ends}(I:Inv X pins σ H s)(hs:X.stack=X.env::X.outer)(hf:X.env.frame=some X.env.locals)(hx:X.ex=[])
  (F:Flown X.prog X.w X.stack H s e (.ref C) a0 B H' s') (hC:eN X.K C zAM "ValueError.__new__"=true) (O:XCls X.K X.mg x L) (hsub:zBA X.K C L=true) (hg:Gl X x) (hN:X.N.Nodup) (hi:X.N[i]?=some n) (hl:X.env.scope.names.lookup n=some .local)
  (k:∀s2,Inv (X.hand e) pins ((aU X.N.length none).set i (some (.ref e))) (upd H' e (XO e C)) s2->H' e=none->
   wpAny (model X.prog X.w) (X.hand e).A (execs (b0::suite) X.env) (SP (X.hand e) pins {nx:=fun _ _=>False,rt:=D.rt}) (fun _ _=>False) s2) (hdb:(x==("__debug__" : Str))=false:=by decide) :
  wpAny (model X.prog X.w) X.A (noteFrame (.ref e) X.env) (fun _ s2=>wpAny (model X.prog X.w) X.A (setFlight (.ref e) none) (fun _ s3=>
   wpAny (model X.prog X.w) X.A (handleBy (.ref e) X.env [.ExceptHandler (some (.Name x np)) (some n) (b0::suite) pos]) (SP X pins D) X.xe s3) X.xe s2) X.xe s':=by
 have fly:=F.fly
 have fun':=F.fly.2.2.1
 rw[hs]at fly
 refine wpAny_looks_onW (by rw[<-hs];exact I.ok.frames) hf fly fun h4 held up4=>?_
 refine wpAny_landsW held fun h5 fly5 up5=>?_
 have F5:=F.on (h':=h5) (by rw[hs];exact fly5) (up4.trans up5) fun'
 have I5:Inv X pins σ H' {s' with heap:=h5}:=I.call' F5.os (F5.un I.stkFree) F5.hok F5.bare (fun b z=>nomatch z)
 obtain⟨tl,N,nm,q,bs,hdct,sn,sub,ab,col,dd,k0,k1,k2,k3,k5,mN,hC1,_,_,_,cd,hlk,hmro⟩:=zAN I.mod.kin hC
 obtain⟨tl',N',nm',q',bs',hdct',sn',sub',ab',col',dd',j0,j1,j2,j3,j5,mN',hL1,_,_,T',_⟩:=zAN I.mod.kin O.exc
 have hin:(Value.ref C::tl).contains (.ref L)=true:=by
  unfold zBA at hsub
  rw[hlk]at hsub
  rw[<-hmro]
  exact hsub
 have Ih:=I5.hand e
 refine wpAny_handleBy_cons (codeAny_handlers_test (zAa (X:=X.hand e) Ih hg O.bound ?_ hdb)) (by intro z;cases z)
 obtain⟨oe,ws,hoe,hoec,hoed,_⟩:=fly5.first
 have hm:∀{Q:Bool->au->Prop} {E':ah->au->Prop},Q true {s' with heap:=h5}->wpAny (model X.prog X.w) (X.A.mark (some (.ref e))) (excMatches (.ref e) (.ref L)) Q E' {s' with heap:=h5}:=fun{Q E'} hq=>by
  obtain⟨hp,gg,ddd,tt,oo⟩:=s'
  exact zNh (I5.bk _ _ hC1) (I5.bk _ _ hL1) hoe hoec (T'.hasType dQ.hasBase) hin hq
 refine hm ?_
 refine codeAny_handlers_suite_as (lands_againW fly5 fun h6 fly6 up6=>?_)
 have F6:=F5.on (h':=h6) (by rw[hs];exact fly6) up6 (by rw[hs];exact fly5.2.2.1)
 have I6:Inv X pins σ H' {s' with heap:=h6}:=I.call' F6.os (F6.un I.stkFree) F6.hok F6.bare (fun b z=>nomatch z)
 obtain⟨oe6,ws6,hoe6,hoec6,hoed6,_⟩:=fly6.first
 have neB:∀b o,s.heap.get? b=some o->b≠e:=fun b o q z=>by
  by_cases hb:b∈yW X.stack
  ·obtain⟨_,o',ho',hd⟩:=fun'.mem (show b∈X.stack.filterMap (·.frame)from hb)
   obtain⟨oe',ws',he',_,hed',_⟩:=F.fly.first
   rw[z,he']at ho'
   cases ho'
   exact hd ws' hed'
  ·obtain⟨o',ho'⟩:=F.there b o q hb
   rw[z,F.fly.2.1]at ho'
   cases ho'
 have I7:Inv X pins σ (upd H' e (XO e C)) {s' with heap:=h6}:=by
  refine I6.track F.ef (fun b ob q z=>?_) (fun z=>?_) (fun y c q z=>?_) (fun p hp z=>?_) ⟨⟨oe6,ws6,hoe6,hoec6,hoed6⟩,⟨oe6,hoe6⟩,fun h1 h2 ⟨o1,v1,a1,a2,a3⟩ kk=>⟨o1,v1,kk _ a1,a2,a3⟩⟩
  ·obtain⟨o',z'⟩:=I.base.there b ob q (by rw[hx];simp)
   exact neB b o' z' z
  ·obtain⟨m,⟨o,es,ep,ho,_⟩,_⟩:=I.loc
   exact neB _ o ho z
  ·obtain⟨v,o,ho,_⟩:=I.cell y c q
   exact neB _ o ho z
  ·obtain⟨a1,_⟩:=I.pin p hp
   exact neB _ _ a1 z
 have I8:Inv X pins (aU X.N.length none) (upd H' e (XO e C)) {s' with heap:=h6}:=I7.weak (by rw[eS,I7.len]) fun j v q=>by
  rw[dG]at q
  split at q<;>cases q
 refine zAZ (X:=X.hand e) (v:=.ref e) (I8.hand e) hN hi (.inl hl) rfl (fun s2 I9=>?_) (.inr hl)
 refine cf (k s2 I9 F.ef) (fun f s3 h3=>?_) fun _ _ z=>z.elim
 cases f with
 |next=>obtain⟨_,_,_,z⟩:=h3;exact z.elim
 |brk=>obtain⟨_,_,_,z⟩:=h3;exact z.elim
 |cont=>obtain⟨_,_,_,z⟩:=h3;exact z.elim
 |ret u=>
  obtain⟨v,σ',H2,I10,r,z⟩:=h3
  have I11:=I10.unhand I.ok
  obtain⟨m,hn,_⟩:=id I11.loc
  refine wpAny_nameGoes hl hn (by rw[I.ok.kind];rfl) fun h' m' hn' hs'=>?_
  exact⟨v,_,H2,I11.forget hn' hs',r,z⟩
def zNj (K:ae)(N:Nat)(i:Nat)(L:ai)(tb:XK->TS)(ts:TS):TS:=fun D σ H=>
 tb (fun cls _ H'=>∃C:ai,cls=.ref C/\eN K C zAM "ValueError.__new__"=true/\zBA K C L=true/\∀e,H' e=none->ts {nx:=fun _ _=>False,rt:=D.rt} ((aU N none).set i (some (.ref e))) (upd H' e (XO e C))) D σ H
abbrev Cx.tryb (X:Cx)(ET:ah->au->Prop)(pn:List (ai×Obj)):Cx:={X with xe:=ET,pn:=pn}
theorem Inv.tryb (I:Inv X pins σ H s)(b:ah->au->Prop):Inv (X.tryb b (X.pn++pins)) [] σ H s :=
 ⟨⟨I.ok.mod,I.ok.kind,I.ok.glob,I.ok.blt,I.ok.above,I.ok.inj,I.ok.has,I.ok.cab,I.ok.hd,I.ok.frames,I.ok.stk,I.ok.exf,I.ok.bs,I.ok.bsz,I.ok.noex,I.ok.exfs,I.ok.funs,I.ok.frf⟩,I.os,I.bare,I.base,I.loc,I.cell,I.free,I.freeC,fun p c=>I.pin p (by
  have a:p∈(X.pn++pins)++[]:=c
  rw[fG]at a
  exact a),I.hok,I.len⟩
theorem Inv.untryb {a:ah->au->Prop}{pins':List (ai×Obj)}(I:Inv (X.tryb a (X.pn++pins)) pins' σ H s)(ok:X.Ok):Inv X pins σ H s :=
 ⟨ok,I.os,I.bare,I.base,I.loc,I.cell,I.free,I.freeC,fun p b=>I.pin p (bS _ b),I.hok,I.len⟩
theorem zNk {x n:Str}{i:Nat}{L:ai}{np pos d:Pos}{body:List cJ}{m:cJ}{a:List cJ}{z:XK->TS}{ts:TS}(M:X.stack=X.env::X.outer)(P:X.env.frame=some X.env.locals)(Q:X.ex=[])(O:XCls X.K X.mg x L)(R:Gl X x)(T:X.N.Nodup)(hi:X.N[i]?=some n)(hl:X.env.scope.names.lookup n=some .local)
  (U:∀(E:XK) (G:ah->au->Prop) (pn:List (ai×Obj)),gM (vZ X.prog X.w) (X.tryb G pn) E->uF (X.tryb G pn) body (z E)) (o:∀e,uF (X.hand e) (m::a) ts) (p:(x==("__debug__" : Str))=false:=by decide) :
  PS X (.Try body [.ExceptHandler (some (.Name x np)) (some n) (m::a) pos] [] [] d) (zNj X.K X.N.length i L z ts):=by
 intro pins s σ H D I h
 refine wpAny_Try_except ?_
 have main:=U _ (fun ev g=>wpAny (model X.prog X.w) X.A (noteFrame ev X.env) (fun _ t=>wpAny (model X.prog X.w) X.A (setFlight ev none) (fun _ W=>
   wpAny (model X.prog X.w) X.A (handleBy ev X.env [.ExceptHandler (some (.Name x np)) (some n) (m::a) pos]) (SP X pins D) X.xe W) X.xe t) X.xe g) (X.pn++pins) ?pass [] s σ H D (I.tryb _) h
 case pass=>
  rintro pins' b H1 g ev s' Y ⟨e,cls,a0,B,H',rfl,F,C,rfl,Z,j,y⟩
  have I2:=Y.untryb I.ok
  exact zNi I2 M P Q F Z O j R T hi hl (fun t I9 hn=>o e pins t _ _ _ I9 (y e hn)) p
 refine cf main (fun f g c=>?_) fun ev g c=>c
 have l:SP X pins D f g:=by
  cases f with
  |next=>obtain⟨b,H',J,q⟩:=c;exact⟨b,H',J.untryb I.ok,q⟩
  |brk=>obtain⟨b,H',J,q⟩:=c;exact⟨b,H',J.untryb I.ok,q⟩
  |cont=>obtain⟨b,H',J,q⟩:=c;exact⟨b,H',J.untryb I.ok,q⟩
  |ret u=>obtain⟨v,b,H',J,r,q⟩:=c;exact⟨v,b,H',J.untryb I.ok,r,q⟩
 cases f with
 |next=>exact ic l
 |ret u=>exact l
 |brk=>exact l
 |cont=>exact l
end
structure RoomB (k:Nat) (A:bU):Prop where
 dp:A.depth+3*k+5<recursionLimit
 un:A.units+16*k+200<cLine
theorem RoomB.deeper {k:Nat}{A:bU}(r:RoomB (k+1) A)(env:Env):RoomB k (A.deeper env) :=
 ⟨by have:=r.dp;show A.depth+1+3*k+5<_;omega,by have:=r.un;show A.units+3+16*k+200<_;omega⟩
theorem RoomB.depth {k:Nat}{A:bU}(r:RoomB k A):A.depth<recursionLimit:=by have:=r.dp;omega
theorem Room.busy {k:Nat}{A:bU}(r:Room k A)(v:Option ah):RoomB k (A.mark v):=⟨r.dp,r.un⟩
def cxB (CX:uP)(P:aP)(w:bc)(K:ae)(mg:Str->Option ah)(base:bK)(N:List Str)(qual:Str)(scope:dS)(f:ai)(cd:ah)(A:bU)(outer:List Env)(s:au)(H:Hp)(E:XK):Cx :=
 {jZ CX P w K mg base N qual scope f cd A outer s H E with calm:=false}
structure FnB (P:aP) (w:bc) (K:ae) (mg:Str->Option ah) (base:bK) (CX:uP) (k:Nat) (f:ai) (fd:aO) (ps:List Str) (sp:Sp):Prop where
 len:∀vs H Q E,sp vs H Q E->vs.length=ps.length
 run:∀(A:bU) (outer:List Env) (s:au) (H:Hp) (args:Args) (us:List ah) (vs:List V) (Q:VK) (E:XK),RoomB k A->Env0 P w K mg base A outer s H->mR s fd args (ps.zip us)->zS vs us->sp vs H Q E->
  codeAny (model P w) A (.call (.ref f) args) (CR CX outer P w H s Q E) s
theorem zNl {CX:uP}{P:aP}{w:bc}{K:ae}{mg:Str->Option ah}{base:bK}{N l:List Str}{d:Str}{scope:dS}{f:ai}{C:ah}{A:bU}{outer:List Env}{s F:au}{H:Hp}{E:XK}{us:List ah}{vs:List V}
  (S:FnScope N l scope) (j:Env0 P w K mg base A outer s H) (hl:vs.length=l.length) (r:zS vs us)
  (x:InCallC s s.heap.objs.size (bindL (envOfC d scope s.heap.objs.size f C).kindOf (l.zip us) fun _=>none) (cellsFrom (s.heap.objs.size+1) scope.names []) (bindC (envOfC d scope s.heap.objs.size f C).kindOf (l.zip us) fun _=>none) F) :
  Inv (cxB CX P w K mg base N d scope f C A outer s H E) [] (start N vs) H F:=by
 have J:l.length<=N.length:=by have:=congrArg ki S.pre;rw[aL]at this;omega
 obtain⟨D,O,rfl,G⟩:=x.done
 have m:∀b:ai,b∉(cxB CX P w K mg base N d scope f C A outer s H E).ex:=fun b z=>absurd (show b∈([]:List ai)from z) (by simp)
 refine⟨⟨j.mod,S.kind,rfl,rfl,aH _,fun y z c D g=>?_,fun y o=>?_,fun y c _ h=>?_,(fun z=>by cases z),mE j.frames,.inr ⟨rfl,rfl⟩,fun b z=>absurd z (m b),j.bs,j.bsz,fun b _ _=>m b,fun b z=>absurd z (m b),j.funs,j.frf⟩,
  rfl,j.bare,Un.kept G,⟨_,x.toInCall.ns,fun i y v D g Q=>?_⟩,fun y c h=>⟨_,x.cell y c h⟩,j.hok.fresh (aH _),fun y c h=>?_,fun p t=>absurd (show p∈([]:List (ai×Obj))from t) (by simp),j.hok.kept G,?_⟩
 ·exact name_of_addr x.apart (ck D) (ck g)
 ·have o:scope.names.lookup y=some .cell\/scope.names.lookup y=some .free:=o
  rcases o with o|o
  ·exact zBr o
  ·exact absurd rfl (S.nofree _ (ck o))
 ·exact jl (x.above y c (ck h))
 ·have hi:i<vs.length:=by
   unfold start at g
   by_cases hi:i<vs.length
   ·exact hi
   ·rw[bD (by simpa using hi)]at g
    rw[dG]at g
    split at g<;>cases g
  have L:vs[i]?=some v:=by
   unfold start at g
   rw[bA (by simpa using hi),aF]at g
   cases e:vs[i]? with
   |none=>rw[e]at g;cases g
   |some a=>rw[e]at g;cases g;rfl
  obtain⟨u,I,M⟩:=r.get L
  have t:l[i]?=some y:=by
   rw[<-S.pre,ky (by omega)];exact D
  have B:l.Nodup:=by rw[<-S.pre];exact S.nd.sublist (nM _ _)
  refine⟨u,M,?_⟩
  rcases S.par y (aS t)with k|k
  ·exact .inl ⟨k,zDN B t I k⟩
  ·obtain⟨c,e⟩:=zBr (n:=s.heap.objs.size+1) k
   refine .inr ⟨.inl k,c,e,?_⟩
   have q:=x.cell y c e
   rw[zDO B t I (by show scope.names.lookup y≠_;rw[k];decide)]at q
   exact q
 ·exact j.hok.fresh (jl (x.above y c (ck h)))
 ·unfold start
  show _=N.length
  rw[aq,af,eS]
  omega
theorem zNm {CX:uP}{P:aP}{w:bc}{K:ae}{mg:Str->Option ah}{base:bK}{k:Nat}{f:ai}{name a:Str}{d:qt}{body:List cJ}{scope:dS}{G kV j pm c ct T:ah}{L od:Option ai}
  {B:Array (Option ah)} {N p:List Str} {sp:Sp} (U:K.lookup f=some ⟨T,od,.func (dN name a d body scope G kV j pm L c ct),B⟩) (C:fT K c a=true) (S:FnScope N p scope)
  (len:∀vs H Q E,sp vs H Q E->vs.length=p.length)
  (g:∀(A:bU) (outer:List Env) (s:au) (H:Hp) (vs:List V) (Q:VK) (E:XK),RoomB k (A.deeper (envOfC a scope s.heap.objs.size f c))->sp vs H Q E->
   ∃t,uF (cxB CX P w K mg base N a scope f c A outer s H E) body t/\t {nx:=fun _ H'=>Q .non H',rt:=Q} (start N vs) H) :
  FnB P w K mg base CX (k+1) f (dN name a d body scope G kV j pm L c ct) p sp:=by
 refine⟨len,fun A outer s H args us vs Q E M l W r m=>?_⟩
 have hl:=len _ _ _ _ m
 have O:K.In s.heap:=l.mod.kin.keeps fun b o e=>(l.bs b o e).1
 have D:s.heap.NoLimit:=l.mod.nolimit.keeps fun b o e=>(l.bs b o e).1
 have h:∀y∈p.zip us,scope.names.lookup y.1=some .local\/(scope.names.lookup y.1=some .cell/\((cellsFrom (s.heap.objs.size+1) scope.names []).lookup y.1).isSome=true):=fun⟨n,v⟩ X=>by
  rcases S.par n (ja X).1 with q|q
  ·exact .inl q
  ·exact .inr ⟨q,iA _ _ _ (.inl q)⟩
 refine mi M.depth (O _ _ U) rfl S.co S.gen rfl (nq O C) (W _ _ _ _ ?_)
 refine jz S.kind h fun env Y R x=>?_
 subst Y
 refine⟨D.keeps x.toInCall.keep,codeAny_func ?_⟩
 obtain⟨t,Z,hq⟩:=g A outer s H vs Q E (M.deeper _) m
 have I:Inv (cxB CX P w K mg base N a scope f c A outer s H E) [] (start N vs) H R:=zNl S l hl r x
 refine cf (Z [] R (start N vs) H _ I hq) (fun fl s' i=>?_) fun e s' i=>i
 have fin:∀{z:St} {H':Hp} {v:V} {u:ah},Inv (cxB CX P w K mg base N a scope f c A outer s H E) [] z H' s'->zW v u->Q v H'->CE outer P w H s Q u s' :=
  fun{z H' v u} J F q=>⟨v,H',J.os,J.bare,J.base,J.hok,F,q⟩
 cases fl with
 |ret u=>
  obtain⟨v,z,H',J,F,q⟩:=i
  exact fin J F q
 |next=>
  obtain⟨z,H',J,q⟩:=i
  exact fin (v:=V.non) (u:=Value.none) J rfl q
 |brk=>
  obtain⟨_,_,_,q⟩:=i
  exact dE q
 |cont=>
  obtain⟨_,_,_,q⟩:=i
  exact dE q
section
variable{P:aP}{w:bc}{K:ae}{mg:Str->Option ah}{base:bK}
theorem Fun.okB {x a:Str}{st:cJ}{f:ai}{fd:aO}{N d:List Str}{k:Nat}{sp:Sp}(F:Fun K x a st f fd)(S:FnScope N d (defScope st))(len:∀vs H Q E,sp vs H Q E->vs.length=d.length)
  (c:∀(b:ah) (A:bU) (outer:List Env) (s:au) (H:Hp) (vs:List V) (Q:VK) (E:XK),RoomB k (A.deeper (envOfC a (defScope st) s.heap.objs.size f b))->sp vs H Q E->
   ∃t,uF (cxB zU P w K mg base N a (defScope st) f b A outer s H E).nox (defBody st) t/\t {nx:=fun _ H'=>Q .non H',rt:=Q} (start N vs) H):FnB P w K mg base zU (k+1) f fd d sp:=by
 obtain⟨n,od,kV,i,pm,o,b,ct,j,rfl,l,e⟩:=F.ex
 refine zNm l e S len fun A outer s H vs Q E m g=>?_
 obtain⟨t,h,q⟩:=c b A outer s H vs Q E m g
 exact⟨t,h.nox,q⟩
def zCX (P:aP)(w:bc)(K:ae)(mg:Str->Option ah)(base:bK)(k:Nat)(x:Str)(ps:List Str)(sp:Sp):Prop :=
 ∃(f:ai) (fd:aO),FnB P w K mg base zU k f fd ps sp/\mg x=some (.ref f)/\dB K (.ref f)=true/\qV K fd ps []
theorem zNn {X:Cx}{k:Nat}{f:ai}{fd:aO}{c:List Str}{sp:Sp}{a:List (ai×Obj)}{σ:St}{H:Hp}{s:au}{Q:VK}{us:List ah}{vs:List V}(F:FnB X.prog X.w X.K X.mg X.base zU k f fd c sp)(g:RoomB k X.A)(i:qV X.K fd c [])
  (I:Inv X a σ H s) (r:zS vs us) (h:sp (vs++[]) H Q E0):wpAny (model X.prog X.w) X.A (call (.ref f) us) (EP X a σ Q) X.xe s:=by
 have d:zS (vs++[]) (us++[]):=r.append .nil
 have hl:(us++[]).length=c.length:=by rw[<-d.length];exact F.len _ _ _ _ h
 refine wpAny_call (iy (F.run X.A X.stack s H ⟨us,[]⟩ (us++[]) (vs++[]) Q E0 g I.env0 (i s us I.kIn hl) d h) fun r s' b=>?_)
 cases r with
 |error e=>exact dE b
 |ok j=>
  cases j with
  |ret u=>exact I.after b
  |next=>exact dE b
  |brk=>exact dE b
  |cont=>exact dE b
theorem zNo {X:Cx}{k:Nat}{x:Str}{j:List Str}{sp:Sp}{p pos:Pos}{e:cb}{c:List cb}{t:TA}(C:zCX X.prog X.w X.K X.mg X.base k x j sp)(l:RoomB k X.A)(m:Gl X x)(n:PA X (e::c) t)
  (o:starEach (e::c) X.env=(false,eval e X.env)::starEach c X.env:=by rfl) (a:(backTo pos (starEach c X.env)).any (·.1)=false:=by rfl)
  (g:(x==("__debug__" : Str))=false:=by decide):PE X (.Call (.Name x p) (e::c) [] pos) (zAD sp [] E0 t):=by
 obtain⟨f,fd,G,u,kp,b⟩:=C
 intro d s σ H Q I h
 refine fw (zAa I m u ?_ g)
 refine jy (h₀:=X.base) I.ok.mod.kin kp (zK (n pos d s σ H _ I h) fun us v ⟨vs,y,i,r,q⟩=>⟨i.kIn,?_⟩) o a
 exact zNn G l b i r q
end
def Rdy (P:aP)(w:bc)(K:ae)(mg:Str->Option ah)(base:bK)(A:bU)(x:V)(sp:Sp):Prop:=∃(k:Nat) (f:ai) (fd:aO) (ps:List Str),x=.ref f/\FnOk P w K mg base (vZ P w) k f fd ps sp/\Room k A/\dB K (.ref f)=true/\qV K fd ps []
def zNp (R:V->Sp->Prop)(E:XK)(tf:TE)(t:TA):TE:=fun σ H Q=>tf σ H fun x H1=>∃sp,R x sp/\t σ H1 fun vs H2=>sp (vs++[]) H2 Q E
section
variable{X:Cx}{E:XK}{fe e:cb}{es:List cb}{tf:TE}{t:TA}{pos:Pos}
theorem zCY (a:ae)(b:X.K=a):IxR X (zGK a):=by
 subst b;exact jD
theorem zNq (P:aP)(w:bc)(K:ae)(mg:Str->Option ah)(base:bK)(A:bU)(g:X.prog=P)(i:X.w=w)(j:X.K=K)(l:X.mg=mg)(m:X.base=base)(n:X.A=A)(o:gM (vZ X.prog X.w) X E)(p:PE X fe tf)(u:PA X (e::es) t)
  (y:eval (.Call fe (e::es) [] pos) X.env=(do callWith pos (<-eval fe X.env) [] (backTo pos (starEach (e::es) X.env)) (backToKw pos (keywordEach [] X.env))):=by rfl)
  (z:starEach (e::es) X.env=(false,eval e X.env)::starEach es X.env:=by rfl) (a:(backTo pos (starEach es X.env)).any (·.1)=false:=by rfl):PE X (.Call fe (e::es) [] pos) (zNp (Rdy P w K mg base A) E tf t):=by
 subst g i j l m n
 intro b s σ H Q I h
 refine qu (zK (p b s σ H _ I h) fun v B ⟨x,C,c,D,sp,⟨k,f,fd,N,ex,F,G,J,L⟩,q⟩=>?_) y
 subst ex
 cases D
 refine jy (h₀:=X.base) c.ok.mod.kin J (zK (u pos b B σ C _ c q) fun us O ⟨vs,R,d,r,M⟩=>⟨d.kIn,?_⟩) z a
 exact zDM F G L .nil o d r M
end
theorem zNr {i:Int}{n:Nat}(a:0<i)(h:i<2^n):i.natAbs.log2<n:=by
 refine(rO (by omega)).mpr ?_
 have e:((2^n:Nat):Int)=(2:Int)^n:=by simp
 have:(i.natAbs:Int)<((2^n:Nat):Int):=by rw[e];omega
 omega
theorem zCZ {X:Cx}:yN X (binaryOp .FloorDiv) (rI (fun _ j=>0<j/\j<2^8000) fun i j=>.int (i/j)):=opI fun i j _ _ _ _ _ a q=>by
 have b:(0:Int)<j:=a.1
 exact floordiv_int (by omega) (by rw[jw i (by omega)];exact q) (.inl (PyProof.noPylong_of_log2 (bw (zNr b a.2) (by decide))))
section
variable{X:Cx}
theorem zBB {j:Nat}{y:Str}{py spos:Pos}{tg iter elt:cb}{ifs:List cb}{scope:dS}{pos:Pos}{wi:TI}{g:TG}{tc:TT}{te:TE}{N:List Str}{caps:List Nat}(hN:X.N.Nodup)(hj:X.N[j]?=some y)(hy:Loc X.env.scope y)(hc:X.calm=true)(S:CompScope X.env.scope X.N N scope caps)
  (hi:PI X tg iter wi) (hg:∀cl C s H ex,PG (vM X N scope cl C s H ex) tg g) (hf:∀cl C s H ex,PF (vM X N scope cl C s H ex) ifs tc) (he:∀cl C s H ex,PE (vM X N scope cl C s H ex) elt te)
  (hs:∀x,foldedSetIterable iter X.env x=pure x:=by intro _;rfl) (hsw:swapsWith (.ListComp elt [⟨tg,iter,ifs,0⟩] scope pos) (some (.Name y py)) spos.line X.env=pure true:=by rfl)
  (hfn:X.fn y=true\/X.env.scope.names.lookup y=some .local:=by first|exact .inl rfl|exact .inr rfl|assumption):PS X (.Assign [.Name y py] (.ListComp elt [⟨tg,iter,ifs,0⟩] scope pos) spos) (zDF (zBx wi g tc te caps N.length) (kO j)):=by
 intro pins s σ H D0 I h
 obtain⟨cl,hcl,hcl1,hcl2⟩:=zDa (env:=X.env) (scope:=scope) fun y hy e=>I.ok.has y.1 (S.free y hy e)
 rw[exec_Assign_Name_used _ _ _ _ hsw]
 refine ao (m5 (ao ?_))
 show wpAny _ X.A (do let _<-comprehension (.ListComp elt [⟨tg,iter,ifs,0⟩] scope pos) scope X.env _ (newList []) false (eval iter X.env) (some (assign (.Name y py) X.env))) _ _ s
 refine ao (cf (gz (use:=some (assign (.Name y py) X.env)) (Q:=fun _ s'=>SP X pins D0 .next s') rfl hs hcl S.kind S.names (zK (hi pins s σ H _ I h) fun v s1 h1=>zK h1 fun itv s2 h2=>?_))
  (fun _ s' hq=>bf (bf hq)) fun _ _ e=>e)
 obtain⟨it,fp,tn,J,H2,e,I2,T,st2,f2,W,⟨m0,w0⟩,turn⟩:=h2
 subst e
 refine eX (mF S.nocell (by intro y hy;simp at hy) (fun h₁ hns hsb=>?_) S.kind)
 dsimp only at hns hsb⊢
 generalize hG:s2.heap.push {cls:=.type "list",dict:=none,data:=.seq ([]:List ah).toArray}=G at hns hsb⊢
 have hCs:G.objs.size=s2.heap.objs.size+1:=by rw[<-hG,dj]
 have hDC:s2.heap.objs.size≠G.objs.size:=by rw[hCs];exact bH (eO _)
 have old:∀b o,s2.heap.get? b=some o->h₁.get? b=some o:=fun b o e=>by
  have hb:=aM e
  refine hsb.extBut b o (by rw[hCs];exact bH (di hb)) (ag _ ?_)
  rw[<-hG]
  exact ag _ e
 have hD:h₁.get? s2.heap.objs.size=some {cls:=.type "list",dict:=none,data:=.seq ([]:List ah).toArray}:=by
  refine hsb.extBut _ _ hDC (ag _ ?_)
  rw[<-hG]
  exact aZ _ rfl
 have hfo:∀b∈fp,b<s2.heap.objs.size:=fun b hb=>let⟨o,e,_⟩:=T.obj 0 _ st2 b hb;aM e
 have hCle:s2.heap.objs.size<=G.objs.size:=by omega
 have ok:=zGd (C:=G.objs.size) I2 S hcl1 hcl2 hCle f2 hfo
 have I0:Inv (vM X N scope cl G.objs.size s2 H2 fp) [(s2.heap.objs.size,{cls:=.type "list",dict:=none,data:=.seq ([]:List ah).toArray})] (uM caps N.length σ) H2 {s2 with heap:=h₁,toks:=s2.toks+([]:List (Str×ah)).length} :=
  zGe I2 ok S hcl1 hcl2 old hns hCle hD (aH _) hDC (fun v z=>by cases z)
 have st1:tn 0 h₁:=T.keep 0 _ _ st2 fun b _ o e=>old b o e
 generalize hX:vM X N scope cl G.objs.size s2 H2 fp=X' at I0
 generalize hDa:s2.heap.objs.size=D at I0 hD hDC
 have loop:codeAny (model X.prog X.w) X.A (.compLoop (.ListComp elt [⟨tg,iter,ifs,0⟩] scope pos) 0 (.ref it) (.ref D) (compEnvC scope cl G.objs.size X.env)) (compPost (model X.prog X.w) X.A X.xe (some (assign (.Name y py) X.env)) (fun _ s'=>SP X pins D0 .next s') (.ref D) G.objs.size)
   {s2 with heap:=h₁,toks:=s2.toks+([]:List (Str×ah)).length}:=by
  subst hX
  refine zDb (J:=fun n s'=>∃i σ' H' acc its e,Inv (vM X N scope cl G.objs.size s2 H2 fp) [(D,{cls:=.type "list",data:=.seq (eI its) e})] σ' H' s'/\zS acc its/\acc.length<=sizeLine/\tn i s'.heap/\(∀b∈fp,H' b=none)/\W i n acc σ' H')
   ?_ m0 ⟨0,_,H2,[],[],0,I0,.nil,bX _,st1,fun b hb=>(f2 b hb).1,w0⟩
  rintro n s3 ⟨i,σ3,H3,acc,its,ep,I3,rv,hz,st3,fr3,w3⟩
  have stat:∀{H':Hp} {pl:List (ai×Obj)},(∀b∈fp,H' b=none)->(∀p∈pl,p.1=D)->∀b∈fp,u7 (vM X N scope cl G.objs.size s2 H2 fp) pl H' b:=fun{H' pl} hn hpl b hb=>by
   obtain⟨a1,a2⟩:=ok.exf b hb
   exact⟨hn b hb,a1,ok.exfs b hb,.inl hb,fun x c e=>a2 x c e,fun p hp=>by
    have hp':p∈pl:=hp
    rw[hpl p hp',<-hDa]
    exact dY (hfo b hb)⟩
  have one:∀p∈[(D,({cls:=.type "list",data:=.seq (eI its) ep}:Obj))],p.1=D:=fun p hp=>by
   rcases aQ.mp hp with e|e
   ·rw[e]
   ·cases e
  have pinD:∀{pl:List (ai×Obj)} {σ':St} {H':Hp} {s':au} {o:Obj},Inv (vM X N scope cl G.objs.size s2 H2 fp) pl σ' H' s'->(D,o)∈pl->s'.heap.get? D=some o/\H' D=none:=fun{pl σ' H' s' o} I' hm=>by
   obtain⟨a,b,_⟩:=I'.pin (D,o) (aT _ hm)
   exact⟨a,b⟩
  rcases turn i n acc σ3 H3 w3 with⟨stop,q⟩|⟨go,hlt,step⟩
  ·refine cf (T.done (vM X N scope cl G.objs.size s2 H2 fp) rfl rfl rfl hc i _ s3 σ3 H3 (fun _ _=>False) I3 (stat fr3 one) st3 stop) (fun r s4 ⟨hr,I4⟩=>?_) fun _ _ f=>f
   subst hr
   obtain⟨hDo,hDn⟩:=pinD I4 (ar ..)
   obtain⟨m4,hm4,_⟩:=I4.loc
   have keepC:∀b (u:Obj),b≠G.objs.size->s4.heap.get? b=some u->s4.heap.get? b=some u:=fun b u _ e=>e
   have un:Un (yW X.stack) fp H2 H3 s2.heap s4.heap:=I4.base
   have hDo':=hDo
   have hlow:∀b (o:Obj),s2.heap.get? b=some o->b≠G.objs.size/\b≠D:=fun b o e=>by
    have h0:=aM e
    exact⟨by rw[hCs];exact bH (di h0),by rw[<-hDa];exact bH h0⟩
   have un':Un (yW X.stack) fp H2 (upd H3 D (.lst acc)) s2.heap s4.heap :=
    ⟨fun b o e n' hb hx=>keepC b o (hlow b o e).1 (un.keep b o e n' hb hx),
     fun b o e n' hb hx=>let⟨sl,q⟩:=un.slot b o e n' hb hx;⟨sl,keepC b _ (hlow b o e).1 q⟩,
     fun b o e n' hx=>by rw[zN (hlow b o e).2];exact un.free b o e n' hx,
     fun b o e hx=>let⟨o',q⟩:=un.there b o e hx;⟨o',keepC b _ (hlow b o e).1 q⟩,
     fun b xs e=>by rw[zN (vJ (un.tups b xs e) hDn)];exact un.tups b xs e,
     fun b o u e=>by rw[zN (vJ (un.frzs b o u e) hDn)];exact un.frzs b o u e,
     fun b ps e=>let⟨mo,q⟩:=un.tbls b ps e;⟨mo,by rw[zN (vJ q hDn)];exact q⟩⟩
   have hok:yB X.prog X.w (upd H3 D (.lst acc)) s4.heap:=I4.hok.track hDn ⟨hz,its,ep,rv,hDo'⟩
   have IX:Inv X pins σ (upd H3 D (.lst acc)) s4:=I2.call' I4.os un' hok I4.bare (fun b hb=>by
    obtain⟨_,f1,_,f3,f4,f5⟩:=f2 b hb
    exact⟨f3,f1,f4,f5⟩)
   have hCn:upd H3 D (.lst acc) G.objs.size=none:=by
    rw[zN (d9 hDC)];exact I4.free
   have fpC:u7 X pins (upd H3 D (.lst acc)) G.objs.size:=I2.fpOk hCle hCn
   obtain⟨oC,es,epC,hoC,hdC,hsk,hnf⟩:=hm4
   have IXp:=IX.pinned (fp:=[G.objs.size]) (fun b hb=>by
    have:b=G.objs.size:=by simpa using hb
    rw[this];exact fpC) (fun b hb=>by
    have:b=G.objs.size:=by simpa using hb
    rw[this];exact⟨oC,hoC,fun v z=>by rw[hdC]at z;cases z⟩)
   refine nG (zAZ IXp hN hj hy (v:=.ref D) rfl (fun s5 I5=>?_) hfn)
   have pC:=(I5.pin (G.objs.size,oC) (aT _ (aT _ (kP (ar ..) hoC)))).1
   refine⟨m4,⟨oC,es,epC,pC,hdC,hsk,hnf⟩,fun h' hsb'=>?_⟩
   obtain⟨c0,c1,c2,c3,c4,c5⟩:=fpC
   exact⟨_,_,I5.unpinned.turned (t':=s5.toks) (fun b o hb e=>hsb'.extBut b o hb e) c0 c1 c3 c4 c5,q D hDn⟩
  ·refine cf (T.item (vM X N scope cl G.objs.size s2 H2 fp) rfl rfl rfl hc i _ s3 σ3 H3 (fun _ _=>False) I3 (stat fr3 one) st3 go) (fun r s4 ⟨u,hr,h4⟩=>?_) fun _ _ f=>f
   subst hr
   refine zK h4 fun _ s5 ⟨x,H5,I5,r5,y5,st5,fr5⟩=>?_
   have I5':=I5.pinned (stat fr5 one) (T.obj _ _ st5)
   refine zK (hg cl G.objs.size s2 H2 fp _ s5 σ3 H5 x u _ I5' r5 (step x H5 y5)) fun _ s6 ⟨σ6,H6,I6,q6⟩=>?_
   refine zK (hf cl G.objs.size s2 H2 fp _ s6 σ6 H6 _ I6 q6) fun b s7 ⟨H7,I7,q7⟩=>?_
   have fin:∀{pl:List (ai×Obj)} {σ':St} {H':Hp} {s':au},Inv (vM X N scope cl G.objs.size s2 H2 fp) (pl++zAA fp s5.heap) σ' H' s'->tn (i+1) s'.heap/\∀b∈fp,H' b=none:=fun{pl σ' H' s'} I'=>by
    refine⟨T.keep _ _ _ st5 fun b hb o e=>(I'.pin (b,o) (aT _ (aT _ (kP hb e)))).1,fun b hb=>?_⟩
    obtain⟨o,e,_⟩:=T.obj _ _ st5 b hb
    exact(I'.pin (b,o) (aT _ (aT _ (kP hb e)))).2.1
   cases b with
   |false=>
    rw[if_neg aI]at q7⊢
    obtain⟨m',hm,w7⟩:=q7
    obtain⟨a1,a2⟩:=fin I7
    exact⟨m',hm,i+1,σ6,H7,acc,its,ep,I7.unpinned,rv,hz,a1,a2,w7⟩
   |true=>
    rw[if_pos rfl]at q7⊢
    refine zK (he cl G.objs.size s2 H2 fp _ s7 σ6 H7 _ I7 q7) fun y s8 ⟨yv,H8,I8,r8,m',hm,w8⟩=>?_
    obtain⟨a1,a2⟩:=fin I8
    obtain⟨b1,b2⟩:=pinD I8 (bS _ (ar ..))
    have hl:=rv.length
    refine fU ij ⟨_,b1,rfl⟩ gq (fV _ _) (iD D its.toArray ep y (by rw[aY];omega)) ⟨b1,?_⟩
    have q9:=iS b1 (·.push y)
    have kp:∀b o,b≠D->s8.heap.get? b=some o->(s8.heap.update D (cz (·.push y))).get? b=some o:=fun b o hb e=>(cF s8.heap (cz (·.push y)) (d9 hb)).trans e
    have I9:Inv (vM X N scope cl G.objs.size s2 H2 fp) [] σ6 H8 {s8 with heap:=s8.heap.update D (cz (·.push y))} :=
     (I8.pins_of (pins':=[]) fun p hp=>by cases hp).turned (t':=s8.toks) kp b2 hDC (.inr (by rw[<-hDa];exact aH _)) (fun x c e z=>by
      have e':X.env.cells.lookup x=some c:=hcl1 x c e
      obtain⟨v',hv'⟩:=I2.cell x c e'
      have h0:=hv'.lt
      rw[z,<-hDa]at h0
      exact bO _ h0) fun p hp=>by
       have:p∈([]:List (ai×Obj)):=hp
       cases this
    have hpu:its.toArray.push y=(its++[y]).toArray:=by simp
    rw[hpu]at q9
    obtain⟨e9,q9⟩:∃e9,(s8.heap.update D (cz (·.push y))).get? D=some {cls:=.type "list",data:=.seq (its++[y]).toArray e9}:=⟨_,q9⟩
    refine⟨m',hm,i+1,σ6,H8,acc++[yv],its++[y],e9,I9.pins_of fun p hp=>?_,rv.append (.cons r8 .nil),?_,T.keep _ _ _ a1 fun b hb o e=>kp b o ?_ e,a2,w8⟩
    ·obtain rfl:p=(D,{cls:=.type "list",data:=.seq (its++[y]).toArray e9}):=by
      rcases aQ.mp hp with e|e
      ·exact e
      ·cases e
     obtain⟨_,_,c3,c4,_⟩:=I8.pin (D,_) (aT _ (bS _ (ar ..)))
     exact⟨q9,b2,c3,c4,fun v z=>by cases z⟩
    ·rw[aq,dA];omega
    ·rintro rfl
     have h0:=hfo b hb
     rw[hDa]at h0
     exact bO _ h0
 exact iE loop (T.self X.A 0 _ _ _ st1 loop)
end
end L2
end
section
namespace Kn.Ln
open PySem L2 Kn
theorem zIA {a b:Nat}(h:a<=b):(2:Int)^a<=2^b:=by
 have c:2^a<=2^b:=cq (by decide) h
 have d:((2^a:Nat):Int)=(2:Int)^a:=by simp
 have e:((2^b:Nat):Int)=(2:Int)^b:=by simp
 rw[<-d,<-e];exact Int.ofNat_le.mpr c
section
variable{P:aP}{w:bc}{K:ae}{mg:Str->Option ah}{base:bK}
def zEj:Sp:=fun vs H Q _=>∃u d:Int,vs=[.int u,.int d]/\0<=u/\0<d/\Q (.int (vU u d)) H
def zBY:Sp:=fun vs H Q _=>∃u d:Int,vs=[.int u,.int d]/\0<=u/\0<d/\d<2^8000/\∀p,H p=none->Q (.ref p) (upd H p (frO (low u d)))
theorem zNs {vs:List V}{H:Hp}{Q:VK}{E:XK}(h:zHV vs H Q E):zEj vs H Q E:=by
 obtain⟨u,d,rfl,a,b,c,k⟩:=h
 exact⟨u,d,rfl,a,b,k⟩
theorem zNt {vs:List V}{H:Hp}{Q:VK}{E:XK}(h:zCR vs H Q E):zBY vs H Q E:=by
 obtain⟨u,d,rfl,c,e,f,k⟩:=h
 refine⟨u,d,rfl,c,e,?_,k⟩
 have g:=zIA (a:=30) (b:=8000) (by decide)
 have i:(2:Int)^30=1073741824:=by decide
 omega
theorem zNu {f:ai}{fd:aO}(F:Fun K "greatest_divisor" "greatest_divisor" zED f fd):FnOk P w K mg base zU 1 f fd ["one","other"] zEj:=by
 refine F.ok zHW (fun vs H Q E h=>?_) (fun v A outer s H vs Q E D h=>?_)
 ·obtain⟨a,b,rfl,_⟩:=h;rfl
 ·obtain⟨u,d,rfl,j,l,k⟩:=h
  have nd:=zHW.nd
  refine⟨_,zG (zDG bI (vF zAB (pv 1) zF (yY _))
    (zG (zX (i:=2) nd rfl (Or.inl rfl) (zP gL (pv 0) (pv 1))) (zG (zX (i:=0) nd rfl (Or.inl rfl) (pv 1)) (zH (zX (i:=1) nd rfl (Or.inl rfl) (pv 2))))))
   (zH (zT (pv 0))),?_⟩
  refine⟨fun m σ H'=>H'=H/\∃(a b:Int) (r:Option V),σ=[some (.int a),some (.int b),r]/\m=b.toNat/\0<=a/\0<=b/\ig a b=ig u d,⟨_,rfl,u,d,none,rfl,rfl,j,cZ l,rfl⟩,?_⟩
  rintro m σ H' ⟨rfl,a,b,r,rfl,rfl,p,y,q⟩
  refine⟨_,rfl,rfl,_,rfl,?_⟩
  by_cases n:b=0
  ·subst n
   refine qW rfl ⟨_,rfl,?_⟩
   have e:a=vU u d:=by
    unfold vU
    rw[<-q]
    obtain⟨x,rfl⟩:=cV p
    simp
   show Q (.int a) H'
   rw[e]
   exact k
  ·have c:0<b:=by omega
   have o:¬(V.int b=V.int 0):=fun z=>n (V.int.inj z)
   have B:(!decide (V.int b=V.int 0))=true:=by rw[decide_eq_false o];rfl
   show if(!decide (V.int b=V.int 0))=true then _ else _
   rw[if_pos B]
   refine⟨fun t g=>g=H'/\t=[some (.int b),some (.int (a%b)),some (.int (a%b))],?_,?_⟩
   ·rintro t g ⟨rfl,rfl⟩
    have C:=jd a n
    have G:=il a c
    exact⟨(a%b).toNat,by omega,rfl,b,a%b,_,rfl,rfl,y,C,by rw[zHU p c];exact q⟩
   ·exact⟨_,rfl,_,rfl,_,_,rfl,rfl,c,_,rfl,_,rfl,rfl,rfl⟩
theorem zNv {f:ai}{fd:aO}(F:Fun K "lowest" "lowest" zEE f fd)(g:zQ P w K mg base 1 "greatest_divisor" ["one","other"] zEj):FnOk P w K mg base zU 2 f fd ["up","down"] zBY:=by
 refine F.ok zHX (fun vs H Q E h=>?_) (fun j A outer s H vs Q E l h=>?_)
 ·obtain⟨a,b,rfl,_⟩:=h;rfl
 ·obtain⟨u,d,rfl,e,c,m,k⟩:=h
  have nd:=zHX.nd
  refine⟨_,zG (zX (i:=2) nd rfl (Or.inl rfl) (zL g l rfl (zB (pv 0) (zB (pv 1) zC))))
   (zH (zT (uL (zB (zP zCZ (pv 0) (pv 2)) (zB (zP zCZ (pv 1) (pv 2)) zC))))),?_⟩
  have g1:=zCF (u:=u) c
  have g2:vU u d<=d:=qm c (iJ ..)
  refine⟨_,rfl,_,rfl,u,d,rfl,e,c,?_⟩
  exact⟨_,rfl,_,rfl,_,_,rfl,rfl,⟨g1,by omega⟩,_,rfl,_,rfl,_,_,rfl,rfl,⟨g1,by omega⟩,by show 2<=sizeLine;decide,k⟩
end
theorem zNw {o:Nat}{bk:List S}(l:1<=o)(b:∀x∈bk,1<=x.length):(([],[]):S×S)∉zJ o bk:=fun h=>by
 obtain⟨nm,c,d⟩:=bY.mp h
 obtain⟨p,f,e⟩:=aX.mp d
 have g:zO (nm.take p) o=[]:=congrArg nU e
 have i:(nm.drop p).take 1=[]:=congrArg lE e
 have j:(nm.drop p).length=0:=by
  have:=congrArg ki i
  rw[aL]at this
  simp at this⊢;omega
 rw[cC]at j
 have a:=congrArg ki g
 unfold zO at a
 rw[cC,aL]at a
 have:=b nm c
 simp at a;omega
end Kn.Ln
end
section
namespace L2
open PySem PySem.Spec PyProof.Rows
section
variable{prog:aP}{w:bc}{A:bU}{E:ah->au->Prop}{s:au}
theorem zNx {it t:ai}{i:Nat}{items}{x:ah}{Q:ah->au->Prop}(hit:s.heap.IsTupleIter it t i)(d:s.heap.IsTuple t items)(e:items[i]?=some x)
  (f:∀h',h'.IsTupleIter it t (i+1)->jm it s.heap h'->Q x {s with heap:=h'}):wpAny (model prog w) A (cj (.ref it)) Q E s:=by
 obtain⟨o,a,g,hd⟩:=id hit
 obtain⟨ol,b,_,nl,c⟩:=d
 unfold cj
 refine ao (eC (name:=gc "__next__") hit.typeIs eQ (eP eQ hit.typeIs jr ?_ (je _)))
 show wpAny _ _ (field (.ref it) 0>>=_) _ _ s
 refine ao (dm a hd (x:=.ref t) rfl ?_)
 show wpAny _ _ (if(Value.ref t==Value.none)=true then _ else _) _ _ s
 rw[if_neg (show ¬((Value.ref t==Value.none)=true)from aI)]
 show wpAny _ _ (field (.ref it) 1>>=_) _ _ s
 refine ao (dm a hd (x:=.int i 0) rfl ?_)
 show wpAny _ _ (seqItems? (.ref t)>>=_) _ _ s
 refine ao (d8 b c ?_)
 simp only[kj,e]
 refine ao (pD a hd (by simp) (bf ⟨x,rfl,bf (f _ ?_ (mY ..))⟩))
 exact⟨_,Heap.get?_update_self _ a (Obj.isFreed_of_fields (nC hd _)),(Obj.cls_mapFields ..).trans g,by rw[nC hd];simp[rawInt]⟩
theorem zNy {it t:ai}{i:Nat}{items}{Q:ah->au->Prop}(f:A.handled=none)(hit:s.heap.IsTupleIter it t i)(g:s.heap.IsTuple t items)(h:items[i]?=none)
  (j:∀h' e,Heap.ExtBut it s.heap h'->(∃o,h'.get? e=some o/\o.cls=.type "StopIteration")->E (.ref e) {s with heap:=h'}):wpAny (model prog w) A (cj (.ref it)) Q E s:=by
 obtain⟨o,b,l,hd⟩:=id hit
 obtain⟨ol,c,_,nl,d⟩:=g
 unfold cj
 refine ao (eC (name:=gc "__next__") hit.typeIs eQ (eP eQ hit.typeIs jr ?_ (je _)))
 show wpAny _ _ (field (.ref it) 0>>=_) _ _ s
 refine ao (dm b hd (x:=.ref t) rfl ?_)
 show wpAny _ _ (if(Value.ref t==Value.none)=true then _ else _) _ _ s
 rw[if_neg (show ¬((Value.ref t==Value.none)=true)from aI)]
 show wpAny _ _ (field (.ref it) 1>>=_) _ _ s
 refine ao (dm b hd (x:=.int i 0) rfl ?_)
 show wpAny _ _ (seqItems? (.ref t)>>=_) _ _ s
 refine ao (d8 c d ?_)
 simp only[kj,h]
 refine ao (lN (ao (pD b hd (by simp) ?_)))
 show wpAny _ _ (newExc (.type "StopIteration") []>>=_) _ _ _
 refine ao ?_
 simp only[newExc,newTuple]
 refine ao (eX ?_ (by size_fits))
 refine ao (m:=firstArgMember _ _) (wpAny_of_eq (a:=Value.none) (by first|rfl|(simp only[firstArgMember];rfl)) ?_)
 refine eX ?_ (by size_fits)
 simp only[raiseNew]
 refine ao (wpAny_handled ?_)
 first|rw[show A.in1.handled=none from f]|rw[f]
 refine ao (bf (wpAny_throw ?_))
 exact j _ _ (((mY ..).extBut.push _).push _) ⟨_,aZ _ rfl,rfl⟩
end
theorem zEk {prog:aP}{w:bc}{A:bU}(f:A.handled=none)(it l:ai)(c:l≠it)(items:Array ah) :
  mH prog w A it [it,l] items.size (fun i v=>items[i]?=some v) (fun i h=>h.IsTupleIter it l i/\h.IsTuple l items) where
 live:=fun _ _ st=>let⟨o,g,_⟩:=st.1;⟨o,g⟩
 frame:=fun _ _ _ st d=>⟨st.1.at fun o e=>d it (by simp) o e,let⟨o,e,r⟩:=st.2;⟨o,d l (by simp) o e,r⟩⟩
 item:=fun i s Q E hi st j=>zNx st.1 st.2 (x:=items[i]) (by simp[hi]) fun h' a b=>j _ h' s.toks (by simp[hi]) ⟨a,st.2.extBut b.extBut c⟩ b
 done:=fun s Q E st m=>zNy f st.1 st.2 (by simp) m
structure Side (z TI TO i1 i2:ai) (fp1 fp2:List ai):Prop where
 TIz:TI≠z
 TOz:TO≠z
 i1z:i1≠z
 i2z:i2≠z
 TITO:TI≠TO
 TIi1:TI≠i1
 TIi2:TI≠i2
 TOi1:TO≠i1
 TOi2:TO≠i2
 i12:i1≠i2
 f1:∀c∈fp1,c≠z/\c≠TO/\c≠i2
 f2:∀c∈fp2,c≠z/\c≠TO/\c≠i1
section
variable{prog:aP}{w:bc}{A:bU}{E:ah->au->Prop}{s:au}{z TI TO i1 i2:ai}{fp1 fp2:List ai}{n1 n2:Nat}{P1 P2:Nat->ah->Prop}{T1 T2:Nat->bK->Prop}{k:Nat}{a b:ah}
theorem zNz {Q:ah->au->Prop}(O:mH prog w A i1 fp1 n1 P1 T1)(H:mH prog w A i2 fp2 n2 P2 T2)(D:Side z TI TO i1 i2 fp1 fp2)
  (I:i8 s.heap z TI TO .none) (R:eJ s.heap TI (.ref i1) (.ref i2)) (T:eJ s.heap TO a b) (t1:T1 k s.heap) (t2:T2 k s.heap) (l1:k<n1) (l2:k<n2)
  (hQ:∀x y h' tk,P1 k x->P2 k y->i8 h' z TI TO (rawInt s.heap.objs.size)->eJ h' TO x y->T1 (k+1) h'->T2 (k+1) h'->eJ h' s.heap.objs.size x y->h'.objs.size=s.heap.objs.size+1->
   (∀c o,c≠z->c≠TO->c≠i1->c≠i2->s.heap.get? c=some o->h'.get? c=some o)->Q (.ref s.heap.objs.size) {s with heap:=h',toks:=tk}) :
  wpAny (model prog w) A (dX.«zip.__next__» ⟨[.ref z],[]⟩) (fun fin s'=>∃v,fin=.done (.ret v)/\Q v s') E s:=by
 show wpAny _ _ (field (.ref z) 2>>=_) _ _ _
 refine ao (dm I rfl (x:=.bool false) rfl ?_)
 show wpAny _ _ (field (.ref z) 3>>=_) _ _ _
 refine ao (dm I rfl (x:=.ref TI) rfl ?_)
 refine ao (d8 R rfl ?_)
 show wpAny _ _ (cu (.ref z)>>=_) _ _ _
 refine ao ?_
 unfold cu
 refine ao (dm I rfl (x:=.none) rfl (bf ?_))
 simp only[if_true]
 refine ao (lN ?_)
 refine ao (dm I rfl (x:=.ref TO) rfl ?_)
 refine ao (dW I (by simp) fun h₁ u h=>?_)
 replace u:i8 h₁ z TI TO .ellipsis:=u
 refine ao ?_
 simp only[lG,ma,ie,fW]
 refine ao (ao (iV ?_))
 show wpAny _ _ (cj (.ref i1)>>=_) _ _ _
 have U:T1 k h₁:=O.frame _ _ _ t1 fun c d o e=>h.extBut _ _ (D.f1 c d).1 e
 have W:T2 k h₁:=H.frame _ _ _ t2 fun c d o e=>h.extBut _ _ (D.f2 c d).1 e
 refine ao (O.item k _ _ _ l1 U fun x h₂ am px X i=>bf ?_)
 have q:eJ h₂ TO a b:=i.extBut _ _ D.TOi1 (h.extBut _ _ D.TOz T)
 refine ao (d8 q rfl ?_)
 refine ao (i9 q fun h₃ j l=>?_)
 replace j:eJ h₃ TO x b:=j
 refine ao (oH (bf ?_))
 refine ao (ao (iV ?_))
 show wpAny _ _ (cj (.ref i2)>>=_) _ _ _
 have Y:T2 k h₃:=H.frame _ _ _ W fun c d o e=>l.extBut _ _ (D.f2 c d).2.1 (i.extBut _ _ (D.f2 c d).2.2 e)
 refine ao (H.item k _ _ _ l2 Y fun y h₄ an py Z m=>bf ?_)
 have r:eJ h₄ TO x b:=m.extBut _ _ D.TOi2 j
 refine ao (d8 r rfl ?_)
 refine ao (i9 r fun f g n=>?_)
 replace g:eJ f TO x y:=g
 refine ao (oH (bf (bf ?_)))
 refine ao (d8 g rfl ?_)
 refine ao (mG ?_)
 have hsz:f.objs.size=s.heap.objs.size:=by rw[n.1,m.1,l.1,i.1,h.1]
 have J:i8 f z TI TO .ellipsis:=n.extBut _ _ D.TOz.symm (m.extBut _ _ D.i2z.symm (l.extBut _ _ D.TOz.symm (i.extBut _ _ D.i1z.symm u)))
 have ab:∀c o,c≠z->c≠TO->c≠i1->c≠i2->s.heap.get? c=some o->f.get? c=some o:=fun c o B P c3 c4 e=>
  n.extBut _ _ P (m.extBut _ _ c4 (l.extBut _ _ P (i.extBut _ _ c3 (h.extBut _ _ B e))))
 have ac:T1 (k+1) f:=O.frame _ _ _ X fun c d o e=>n.extBut _ _ (D.f1 c d).2.1 (m.extBut _ _ (D.f1 c d).2.2 (l.extBut _ _ (D.f1 c d).2.1 e))
 have aj:T2 (k+1) f:=H.frame _ _ _ Z fun c d o e=>n.extBut _ _ (D.f2 c d).2.1 e
 have t:z<f.objs.size:=aM J
 show wpAny _ _ (gv (.ref z) (.ref f.objs.size)>>=_) _ _ _
 refine ao ?_
 unfold gv
 have al:i8 (f.push {cls:=.type "tuple",data:=.seq #[x,y]}) z TI TO .ellipsis:=ag _ J
 refine ao (dW al (by simp) fun h₇ C F=>?_)
 replace C:i8 h₇ z TI TO (rawInt f.objs.size):=C
 refine dW C (by simp) fun L p G=>?_
 replace p:i8 L z TI TO (rawInt f.objs.size):=p
 have up:∀c o,c≠z->f.get? c=some o->L.get? c=some o:=fun c o B e=>G.extBut _ _ B (F.extBut _ _ B (ag _ e))
 have M:eJ L f.objs.size x y:=G.extBut _ _ (dY t) (F.extBut _ _ (dY t) (aZ _ rfl))
 have N:L.objs.size=f.objs.size+1:=by rw[G.1,F.1,dj]
 rw[hsz]at p M N
 refine bf ⟨_,rfl,?_⟩
 show Q (.ref f.objs.size) _
 rw[hsz]
 exact hQ x y L _ px py p (up _ _ D.TOz g) (O.frame _ _ _ ac fun c d o e=>up c o (D.f1 c d).1 e) (H.frame _ _ _ aj fun c d o e=>up c o (D.f2 c d).1 e) M N fun c o B P c3 c4 e=>up c o B (ab c o B P c3 c4 e)
theorem zOA {Q:Fin->au->Prop}(r:mH prog w A i1 fp1 n1 P1 T1)(J:mH prog w A i2 fp2 n2 P2 T2)(D:Side z TI TO i1 i2 fp1 fp2)
  (g:i8 s.heap z TI TO .none) (n:eJ s.heap TI (.ref i1) (.ref i2)) (u:eJ s.heap TO a b) (v:T1 n1 s.heap)
  (y:∀h' e,(∀c o,c≠z->c≠TO->c≠i1->c≠i2->s.heap.get? c=some o->h'.get? c=some o)->(∃o,h'.get? e=some o/\o.cls=.type "StopIteration")->E (.ref e) {s with heap:=h'}) :
  wpAny (model prog w) A (dX.«zip.__next__» ⟨[.ref z],[]⟩) Q E s:=by
 show wpAny _ _ (field (.ref z) 2>>=_) _ _ _
 refine ao (dm g rfl (x:=.bool false) rfl ?_)
 show wpAny _ _ (field (.ref z) 3>>=_) _ _ _
 refine ao (dm g rfl (x:=.ref TI) rfl ?_)
 refine ao (d8 n rfl ?_)
 show wpAny _ _ (cu (.ref z)>>=_) _ _ _
 refine ao ?_
 unfold cu
 refine ao (dm g rfl (x:=.none) rfl (bf ?_))
 simp only[if_true]
 refine ao (lN ?_)
 refine ao (dm g rfl (x:=.ref TO) rfl ?_)
 refine ao (dW g (by simp) fun h₁ d h=>?_)
 replace d:i8 h₁ z TI TO .ellipsis:=d
 refine ao ?_
 simp only[lG,ma,ie,fW]
 refine ao (ao (iV ?_))
 show wpAny _ _ (cj (.ref i1)>>=_) _ _ _
 have p:T1 n1 h₁:=r.frame _ _ _ v fun c B o e=>h.extBut _ _ (D.f1 c B).1 e
 refine ao (r.done _ _ _ p fun C e i F=>?_)
 obtain⟨G,f,j⟩:=F
 have l:i8 C z TI TO .ellipsis:=i _ _ D.i1z.symm d
 have q:e≠z:=fun x=>by subst x;rw[l]at f;cases f;simp at j
 refine dW l (by simp) fun H _ m=>y H e (fun c o t _ I _ x=>m.extBut _ _ t (i _ _ I (h.extBut _ _ t x))) ⟨G,m.extBut _ _ q f,j⟩
theorem zOB {Q:Fin->au->Prop}(G:mH prog w A i1 fp1 n1 P1 T1)(t:mH prog w A i2 fp2 n2 P2 T2)(D:Side z TI TO i1 i2 fp1 fp2)
  (m:i8 s.heap z TI TO .none) (u:eJ s.heap TI (.ref i1) (.ref i2)) (v:eJ s.heap TO a b) (J:T1 n2 s.heap) (L:n2<n1) (M:T2 n2 s.heap)
  (N:∀h' e O,(∀c o,c≠z->c≠TO->c≠i1->c≠i2->s.heap.get? c=some o->h'.get? c=some o)->(∃o,h'.get? e=some o/\o.cls=.type "StopIteration")->E (.ref e) {s with heap:=h',toks:=O}) :
  wpAny (model prog w) A (dX.«zip.__next__» ⟨[.ref z],[]⟩) Q E s:=by
 show wpAny _ _ (field (.ref z) 2>>=_) _ _ _
 refine ao (dm m rfl (x:=.bool false) rfl ?_)
 show wpAny _ _ (field (.ref z) 3>>=_) _ _ _
 refine ao (dm m rfl (x:=.ref TI) rfl ?_)
 refine ao (d8 u rfl ?_)
 show wpAny _ _ (cu (.ref z)>>=_) _ _ _
 refine ao ?_
 unfold cu
 refine ao (dm m rfl (x:=.none) rfl (bf ?_))
 simp only[if_true]
 refine ao (lN ?_)
 refine ao (dm m rfl (x:=.ref TO) rfl ?_)
 refine ao (dW m (by simp) fun h₁ h d=>?_)
 replace h:i8 h₁ z TI TO .ellipsis:=h
 refine ao ?_
 simp only[lG,ma,ie,fW]
 refine ao (ao (iV ?_))
 show wpAny _ _ (cj (.ref i1)>>=_) _ _ _
 have y:T1 n2 h₁:=G.frame _ _ _ J fun c l o e=>d.extBut _ _ (D.f1 c l).1 e
 have B:T2 n2 h₁:=t.frame _ _ _ M fun c l o e=>d.extBut _ _ (D.f2 c l).1 e
 refine ao (G.item n2 _ _ _ L y fun x P R px T f=>bf ?_)
 have g:eJ P TO a b:=f.extBut _ _ D.TOi1 (d.extBut _ _ D.TOz v)
 refine ao (d8 g rfl ?_)
 refine ao (i9 g fun U H i=>?_)
 refine ao (oH (bf ?_))
 refine ao (ao (iV ?_))
 show wpAny _ _ (cj (.ref i2)>>=_) _ _ _
 have C:T2 n2 U:=t.frame _ _ _ B fun c l o e=>i.extBut _ _ (D.f2 c l).2.1 (f.extBut _ _ (D.f2 c l).2.2 e)
 refine ao (t.done _ _ _ C fun W e n X=>?_)
 obtain⟨Y,j,p⟩:=X
 have q:i8 W z TI TO .ellipsis:=n _ _ D.i2z.symm (i.extBut _ _ D.TOz.symm (f.extBut _ _ D.i1z.symm h))
 have F:e≠z:=fun x=>by subst x;rw[q]at j;cases j;simp at p
 refine dW q (by simp) fun Z _ r=>N Z e _ (fun c o I c2 c3 c4 x=>r.extBut _ _ I (n _ _ c4 (i.extBut _ _ c2 (f.extBut _ _ c3 (d.extBut _ _ I x))))) ⟨Y,r.extBut _ _ F j,p⟩
theorem zOC {Q:Option ah->au->Prop}(i:mH prog w A.in1 i1 fp1 n1 P1 T1)(j:mH prog w A.in1 i2 fp2 n2 P2 T2)(D:Side z TI TO i1 i2 fp1 fp2)
  (g:i8 s.heap z TI TO .none) (d:eJ s.heap TI (.ref i1) (.ref i2)) (e:eJ s.heap TO a b) (l:T1 k s.heap) (m:T2 k s.heap) (n:k<n1) (p:k<n2)
  (q:∀x y h' f,P1 k x->P2 k y->i8 h' z TI TO (rawInt s.heap.objs.size)->eJ h' TO x y->T1 (k+1) h'->T2 (k+1) h'->eJ h' s.heap.objs.size x y->h'.objs.size=s.heap.objs.size+1->
   (∀c o,c≠z->c≠TO->c≠i1->c≠i2->s.heap.get? c=some o->h'.get? c=some o)->Q (some (.ref s.heap.objs.size)) {s with heap:=h',toks:=f}):wpAny (model prog w) A (pyNext (.ref z)) Q E s:=by
 have h:s.TypeIs (.ref z) "zip" :=⟨_,g,rfl⟩
 unfold pyNext
 exact ao (nc (eC (name:=gc "__next__") h fH
  (eP fH h lH (zNz i j D g d e l m n p fun x y h' f r t u v B C F G H=>bf (q x y h' f r t u v B C F G H)) (kr _))))
theorem zOD {Q:Option ah->au->Prop}(p:mH prog w A.in1 i1 fp1 n1 P1 T1)(q:mH prog w A.in1 i2 fp2 n2 P2 T2)(D:Side z TI TO i1 i2 fp1 fp2)
  (i:i8 s.heap z TI TO .none) (d:eJ s.heap TI (.ref i1) (.ref i2)) (f:eJ s.heap TO a b) (r:T1 k s.heap) (u:T2 k s.heap) (g:k=n1\/k<n1/\k=n2)
  (t:∀h' j,(∀c o,c≠z->c≠TO->c≠i1->c≠i2->s.heap.get? c=some o->h'.get? c=some o)->Q none {s with heap:=h',toks:=j}):wpAny (model prog w) A (pyNext (.ref z)) Q E s:=by
 have h:s.TypeIs (.ref z) "zip" :=⟨_,i,rfl⟩
 unfold pyNext
 rcases g with rfl|⟨v,rfl⟩
 ·refine ao (nc (eC (name:=gc "__next__") h fH
   (eP fH h lH (zOA p q D i d f r fun h' e g l=>?_) (kr _))))
  obtain⟨o,m,n⟩:=l
  refine ao (oA (T :="StopIteration") (b:=true) ⟨o,m,n⟩ pE ?_)
  exact bf (t _ s.toks g)
 ·refine ao (nc (eC (name:=gc "__next__") h fH
   (eP fH h lH (zOB p q D i d f r v u fun h' e j g l=>?_) (kr _))))
  obtain⟨o,m,n⟩:=l
  refine ao (oA (T :="StopIteration") (b:=true) ⟨o,m,n⟩ pE ?_)
  exact bf (t _ j g)
end
theorem zOE (a b:ai)(xs ys:Array ah) :
  Meets (dX.«zip.__new__» ⟨[.type "zip",.ref a,.ref b],[]⟩) (fun _ R s=>s.heap.IsList a xs/\s.heap.IsTuple b ys/\
   R (.ok (.ret (.ref (s.heap.objs.size+4)))) {s with heap:=((((s.heap.push {cls:=.type "list_iterator",data:=.fields #[.ref a,.int 0 0]}).push {cls:=.type "tuple_iterator",data:=.fields #[.ref b,.int 0 0]}).push {cls:=.type "tuple",data:=.seq #[.ref s.heap.objs.size,.ref (s.heap.objs.size+1)]}).push {cls:=.type "tuple",data:=.seq #[.none,.none]}).push {cls:=.type "zip",data:=.fields #[.none,.bool false,.bool false,.ref (s.heap.objs.size+2),.ref (s.heap.objs.size+3)]}}) :=
 .of_wp fun prog w A R s h=>by
  obtain⟨f,g,d,i,os⟩:=s;obtain⟨hl1,hl2,h⟩:=h
  have j:=sub_zip
  have c:Heap.IsList (oJ ⟨f,g,d,i,os⟩) a xs:=hl1
  have e:rA (oJ ⟨f.push {cls:=.type "list_iterator",data:=.fields #[.ref a,.int 0 0]},g,d,i,os⟩) b ys:=su hl2 _
  wp_walk using fL c,ft e
  refine⟨_,rfl,?_⟩
  simp only[dj]at*
  exact h
section
variable{prog:aP}{w:bc}{A:bU}{E:ah->au->Prop}{s:au}
theorem zOF {a b:ai}{xs ys:Array ah}{Q:ah->au->Prop}(hl1:s.heap.IsList a xs)(hl2:s.heap.IsTuple b ys)
  (h:∀h',i8 h' (s.heap.objs.size+4) (s.heap.objs.size+2) (s.heap.objs.size+3) .none->eJ h' (s.heap.objs.size+2) (.ref s.heap.objs.size) (.ref (s.heap.objs.size+1))->
   eJ h' (s.heap.objs.size+3) .none .none->h'.IsListIter s.heap.objs.size a 0->h'.IsTupleIter (s.heap.objs.size+1) b 0->
   (∀c o,s.heap.get? c=some o->h'.get? c=some o)->Q (.ref (s.heap.objs.size+4)) {s with heap:=h'}) :
  wpAny (model prog w) A (call (.type "zip") [.ref a,.ref b]) Q E s:=by
 refine callType_new F.called_zip (by decide) (F.typeCall_zip_2 _ _) (F.newCall_zip_2 _ _) (fun obj=>F.args_object_init_3 obj _ _) F.entry_zip_new (zOE a b xs ys) ⟨hl1,hl2,?_⟩
 have d:∀(h:bK) (o:Obj) (n:Nat),h.objs.size=n->o.isFreed=false->(h.push o).get? n=some o:=fun h o n e f=>by subst e;exact aZ _ f
 have g:∀(h:bK) (o:Obj) (n:Nat),h.objs.size=n->(h.push o).objs.size=n+1:=fun h o n e=>by rw[dj,e]
 have i:=g s.heap {cls:=.type "list_iterator",data:=.fields #[.ref a,.int 0 0]} _ rfl
 have j:=g _ {cls:=.type "tuple_iterator",data:=.fields #[.ref b,.int 0 0]} _ i
 have l:=g _ {cls:=.type "tuple",data:=.seq #[.ref s.heap.objs.size,.ref (s.heap.objs.size+1)]} _ j
 have p:=g _ {cls:=.type "tuple",data:=.seq #[.none,.none]} _ l
 have m:=d _ {cls:=.type "zip",data:=.fields #[.none,.bool false,.bool false,.ref (s.heap.objs.size+2),.ref (s.heap.objs.size+3)]} _ p rfl
 show _/\_
 exact⟨⟨_,m,rfl⟩,h _ m (ag _ (ag _ (d _ _ _ j rfl))) (ag _ (d _ _ _ l rfl))
  ⟨_,ag _ (ag _ (ag _ (ag _ (d _ _ _ rfl rfl)))),rfl,rfl⟩
  ⟨_,ag _ (ag _ (ag _ (d _ _ _ i rfl))),rfl,rfl⟩
  fun c o x=>ag _ (ag _ (ag _ (ag _ (ag _ x))))⟩
end
theorem Inv.turnedF {X:Cx}{a:List (ai×Obj)}{σ:St}{H:Hp}{s:au}{fp:List ai}{h':bK}{t':Nat}(I:Inv X a σ H s)(k:∀b u,b∉fp->s.heap.get? b=some u->h'.get? b=some u)(g:∀b∈fp,u7 X a H b):Inv X a σ H {s with heap:=h',toks:=t'}:=by
 have f:∀b u,H b=some u->b∉fp:=fun b u e z=>by rw[(g b z).1]at e;cases e
 refine I.step (g':=s.gens) (d':=s.drawn) (ch:=fp) (fun b h=>?_) (fun b o _ _ d e _=>k b o d e) (fun b o _ _ d e _=>⟨o.slots,k b o d e⟩) (fun _ _ _ _ n=>n)
  (fun b o d e=>⟨o,k b o d e⟩) (fun _ _ e=>e) (fun _ _ _ e=>e) (fun b x e=>⟨#[],by rw[e];simp⟩) (fun m i=>?_) (fun b u e=>?_) I.bare
 ·obtain⟨y,f1,f2,j,l,p⟩:=g b h
  exact⟨j,f1,l,p⟩
 ·obtain⟨o,t,ep,w,r⟩:=i
  exact⟨o,t,ep,k _ o (fun z=>(g _ z).2.1 rfl) w,r⟩
 ·refine(I.hok b u e).stay (fun c v d q=>k c v ?_ q) (fun c q=>q) fun c xs q=>q
  rcases d with z|z
  ·rw[z];exact f b u e
  ·exact f c _ z
def jI (tp:Bool)(K:ae)(H:Hp)(b:ai)(ys:List V):Prop:=if tp=true then yH K H b ys else z9 K H b ys
def gW (tp:Bool)(h:bK)(it b:ai)(i:Nat):Prop:=if tp=true then h.IsTupleIter it b i else h.IsListIter it b i
def Itz (K:ae)(tp:Bool)(a b:ai):It :=
 ⟨fun i H=>∃xs ys x y,z9 K H a xs/\jI tp K H b ys/\xs[i]?=some x/\ys[i]?=some y,
  fun i H x H'=>∃T x1 y1,x=.ref T/\H T=none/\H'=upd H T (.tup [x1,y1])/\(∀xs,z9 K H a xs->xs[i]?=some x1)/\(∀ys,jI tp K H b ys->ys[i]?=some y1),
  fun i H=>∃xs ys,z9 K H a xs/\jI tp K H b ys/\(i=xs.length\/i<xs.length/\i=ys.length)⟩
theorem qD {n i j:Nat}(h:i≠j):n+i≠n+j:=by omega
theorem jJ {a n:Nat}(i:Nat)(h:a<n):a≠n+i:=by omega
theorem zEl {n a b:Nat}(d:a<n)(e:b<n):Side (n+4) (n+2) (n+3) n (n+1) [n,a] [n+1,b] where
 TIz:=qD (by decide)
 TOz:=qD (by decide)
 i1z:=qD (n:=n) (i:=0) (by decide)
 i2z:=qD (by decide)
 TITO:=qD (by decide)
 TIi1:=qD (n:=n) (j:=0) (by decide)
 TIi2:=qD (by decide)
 TOi1:=qD (n:=n) (j:=0) (by decide)
 TOi2:=qD (by decide)
 i12:=qD (n:=n) (i:=0) (by decide)
 f1:=fun c f=>by
  rcases aQ.mp f with z|z
  ·subst z;exact⟨qD (i:=0) (by decide),qD (i:=0) (by decide),qD (i:=0) (by decide)⟩
  ·have g:c=a:=by simpa using z
   subst g;exact⟨jJ 4 d,jJ 3 d,jJ 1 d⟩
 f2:=fun c f=>by
  rcases aQ.mp f with z|z
  ·subst z;exact⟨qD (by decide),qD (by decide),qD (j:=0) (by decide)⟩
  ·have g:c=b:=by simpa using z
   subst g;exact⟨jJ 4 e,jJ 3 e,jJ 0 e⟩
theorem zIB {X:Cx}{c:List (ai×Obj)}{σ:St}{H:Hp}{s:au}(I:Inv X c σ H s)(o:X.calm=true){f:Bool}{b it:ai}{ys:List V}(q:jI f X.K H b ys)(d:b≠it) :
  ∃(a:List ah) (g:Nat->bK->Prop),zS ys a/\mH X.prog X.w X.A.in1 it [it,b] a.length (fun i v=>a[i]?=some v) g/\(∀i,gW f s.heap it b i->g i s.heap)/\∀i h,g i h->gW f h it b i:=by
 cases f with
 |true=>
  obtain⟨a,j,p,r⟩:=I.tuple (show yH X.K H b ys from q)
  have D:=zEk (prog:=X.prog) (w:=X.w) (A:=X.A.in1) (show X.A.in1.handled=none from I.ok.hd o) it b d a.toArray
  refine⟨a,fun i h=>h.IsTupleIter it b i/\h.IsTuple b a.toArray,j,?_,fun i h=>⟨h,(show s.heap.IsTuple b a.toArray from p)⟩,fun i h t=>t.1⟩
  have e:a.toArray.size=a.length:=aY
  rw[e]at D
  exact⟨D.live,D.frame,fun i s Q E hi st l=>D.item i s Q E hi st fun x h' m n=>l x h' m (by simpa using n),D.done⟩
 |false=>
  obtain⟨a,j,p,r⟩:=I.list (show z9 X.K H b ys from q)
  have D:=lW (prog:=X.prog) (w:=X.w) (A:=X.A.in1) (show X.A.in1.handled=none from I.ok.hd o) it b d a.toArray
  refine⟨a,fun i h=>h.IsListIter it b i/\h.IsList b a.toArray,j,?_,fun i h=>⟨h,p.isList⟩,fun i h t=>t.1⟩
  have e:a.toArray.size=a.length:=aY
  rw[e]at D
  exact⟨D.live,D.frame,fun i s Q E hi st l=>D.item i s Q E hi st fun x h' m n=>l x h' m (by simpa using n),D.done⟩
theorem jI.inj {X:Cx}{a:List (ai×Obj)}{σ:St}{H:Hp}{s:au}(I:Inv X a σ H s){d:Bool}{b:ai}{ys c:List V}(e:jI d X.K H b ys)(f:jI d X.K H b c):ys=c:=by
 cases d with
 |true=>exact I.tuple_inj (show yH X.K H b ys from e) (show yH X.K H b c from f)
 |false=>exact I.list_inj (show z9 X.K H b ys from e) (show z9 X.K H b c from f)
theorem gW.keep {a:Bool}{h h':bK}{it b:ai}{i:Nat}(x:gW a h it b i)(e:∀o,h.get? it=some o->h'.get? it=some o):gW a h' it b i:=by
 cases a with
 |true=>exact(show h.IsTupleIter it b i from x).at e
 |false=>exact(show h.IsListIter it b i from x).at e
theorem gW.obj {a:Bool}{h:bK}{it b:ai}{i:Nat}(x:gW a h it b i):∃o,h.get? it=some o/\∀v,o.data≠.cell v:=by
 cases a with
 |true=>obtain⟨o,e,c,d⟩:=(show h.IsTupleIter it b i from x);exact⟨o,e,fun v z=>by rw[d]at z;cases z⟩
 |false=>obtain⟨o,e,c,d⟩:=(show h.IsListIter it b i from x);exact⟨o,e,fun v z=>by rw[d]at z;cases z⟩
structure Zn (n a b:Nat) (tp:Bool) (i:Nat) (h:bK):Prop where
 zz:i8 h (n+4) (n+2) (n+3) .none
 ti:eJ h (n+2) (.ref n) (.ref (n+1))
 to:∃u v,eJ h (n+3) u v
 i1:h.IsListIter n a i
 i2:gW tp h (n+1) b i
theorem zIC {P:aP}{w:bc}{K:ae}{F:List cb}{kk:Nat}{pos:Pos}{n a b:Nat}(tp:Bool)(G:a<n)(J:b<n):Turn P w K (.Tuple F kk pos) (Itz K tp a b) [n+4,n+2,n+3,n,n+1] (n+4) (Zn n a b tp) where
 mem:=by simp
 obj:=fun i h st c m=>by
  have L:c=n+4\/c=n+2\/c=n+3\/c=n\/c=n+1:=by simpa using m
  rcases L with z|z|z|z|z
  ·rw[z];exact⟨_,st.zz,fun v z=>by cases z⟩
  ·rw[z];exact⟨_,st.ti,fun v z=>by cases z⟩
  ·rw[z];obtain⟨u,v,e⟩:=st.to;exact⟨_,e,fun v z=>by cases z⟩
  ·rw[z];obtain⟨o,e,c,d⟩:=st.i1;exact⟨o,e,fun v z=>by rw[d]at z;cases z⟩
  ·rw[z];exact st.i2.obj
 keep:=fun i h h' st k=>⟨k _ (by simp) _ st.zz,k _ (by simp) _ st.ti,let⟨u,v,e⟩:=st.to;⟨u,v,k _ (by simp) _ e⟩,st.i1.at fun o e=>k _ (by simp) o e,st.i2.keep fun o e=>k _ (by simp) o e⟩
 item:=by
  intro X Y Z hK m i M s σ H E I R st hg
  subst Y Z hK
  obtain⟨xs,ys,x,y,hq1,hq2,hx,hy⟩:=hg
  obtain⟨l,rv,p,hz⟩:=I.list hq1
  obtain⟨u,hu,ru⟩:=rv.get hx
  obtain⟨r,T2,t,D2,B,N⟩:=zIB I m hq2 (jJ 1 J)
  obtain⟨v,hv,ab⟩:=t.get hy
  have D1:=lW (prog:=X.prog) (w:=X.w) (A:=X.A.in1) (show X.A.in1.handled=none from I.ok.hd m) n a (jJ 0 G) l.toArray
  obtain⟨t0,ac,C⟩:=st.to
  have l1:i<l.toArray.size:=by have:=(aa.mp hu).1;simpa using this
  have l2:i<r.length:=(aa.mp hv).1
  refine zOC D1 D2 (zEl G J) st.zz st.ti C ⟨st.i1,p.isList⟩ (B _ st.i2) l1 l2 fun T U h' tk px py a1 a2 a3 a4 a5 a6 W=>?_
  have aj:T=u:=by
   have:l[i]?=some T:=by simpa using px
   rw[hu]at this;exact(aw this).symm
  have al:U=v:=by
   have:r[i]?=some U:=py
   rw[hv]at this;exact(aw this).symm
  subst aj al
  refine⟨_,rfl,wpAny_letOwnedTupleGo_zip a1 fun h2 am j=>?_⟩
  have O:s.heap.get? s.heap.objs.size=none:=by
   cases g:s.heap.get? s.heap.objs.size with
   |none=>rfl
   |some o=>exact absurd (aM g) (bO _)
  have an:n+4<s.heap.objs.size:=aM st.zz
  have ap:eJ h2 s.heap.objs.size T U:=(j.2 _ (dY an)).trans a5
  have S:=zEl G J
  refine⟨.ref s.heap.objs.size,upd H s.heap.objs.size (.tup [x,y]),I.turnedT (fp:=[n+4,n+2,n+3,n,n+1]) (h':=h2) (t':=tk) (fun c o f q=>?_) R O ⟨by show 2<=sizeLine;decide,[T,U],.cons ru (.cons ab .nil),⟨_,ap,rfl,_,rfl⟩⟩,rfl,
   ⟨_,x,y,rfl,I.hok.free O,rfl,(fun zs D=>by rw[I.list_inj D hq1];exact hx),(fun zs D=>by rw[jI.inj I D hq2];exact hy)⟩,
   ⟨am,(j.2 _ S.TIz).trans (W _ _ S.TIz S.TITO S.TIi1 S.TIi2 st.ti),⟨_,_,(j.2 _ S.TOz).trans a2⟩,a3.1.at fun o q=>(j.2 n S.i1z).trans q,(N _ _ a4).keep fun o q=>(j.2 (n+1) S.i2z).trans q⟩,fun c f=>?_⟩
  ·have c1:c≠n+4:=fun z=>f (by simp[z])
   have c2:c≠n+3:=fun z=>f (by simp[z])
   have c3:c≠n:=fun z=>f (by simp[z])
   have c4:c≠n+1:=fun z=>f (by simp[z])
   exact(j.2 c c1).trans (W c o c1 c2 c3 c4 q)
  ·rw[zN]
   ·exact(R c f).1
   ·rintro rfl
    have L:s.heap.objs.size=n+4\/s.heap.objs.size=n+2\/s.heap.objs.size=n+3\/s.heap.objs.size=n\/s.heap.objs.size=n+1:=by simpa using f
    omega
 done:=by
  intro X Y Z hK m i M s σ H E I R st hg
  subst Y Z hK
  obtain⟨xs,ys,hq1,hq2,hx⟩:=hg
  obtain⟨l,rv,p,hz⟩:=I.list hq1
  obtain⟨r,T2,t,D2,B,N⟩:=zIB I m hq2 (jJ 1 J)
  have e1:=rv.length
  have e2:=t.length
  have D1:=lW (prog:=X.prog) (w:=X.w) (A:=X.A.in1) (show X.A.in1.handled=none from I.ok.hd m) n a (jJ 0 G) l.toArray
  obtain⟨t0,ac,C⟩:=st.to
  refine zOD D1 D2 (zEl G J) st.zz st.ti C ⟨st.i1,p.isList⟩ (B _ st.i2) (by rw[aY];omega) fun h' tk W=>⟨rfl,I.turnedF (fp:=[n+4,n+2,n+3,n,n+1]) (fun c o f q=>?_) R⟩
  exact W c o (fun z=>f (by simp[z])) (fun z=>f (by simp[z])) (fun z=>f (by simp[z])) (fun z=>f (by simp[z])) q
 self:=fun A i s Q E st h=>lI st.zz h
section
variable{X:Cx}{elts:List cb}{k:Nat}{tpos:Pos}
def zOG (K:ae)(tp:Bool)(ta:TA):TI:=fun σ H R=>ta σ H fun vs H1=>∃a b xs ys,vs=[.ref a,.ref b]/\z9 K H1 a xs/\jI tp K H1 b ys/\R (Itz K tp a b) H1
theorem zOH {e f:cb}{E:TA}{p pos:Pos}(F:Bool)(L:Gl X "zip")(M:X.mg "zip"=none)(N:PA X [e,f] E)(O:starEach [e,f] X.env=[(false,eval e X.env),(false,eval f X.env)]:=by rfl)(l:starEach [f] X.env=[(false,eval f X.env)]:=by rfl) :
  PI X (.Tuple elts k tpos) (.Call (.Name "zip" p) [e,f] [] pos) (zOG X.K F E):=by
 intro g s σ H R I h
 refine qu (kN I L M boot_zip (cK (zK (N pos g s σ H _ I h) fun us d ⟨vs,m,i,P,Q⟩=>?_) (by rw[O,l]) (by rw[l];rfl)))
 obtain⟨a,b,xs,ys,rfl,hl,G,q⟩:=Q
 cases P with
 |cons T U=>
 cases U with
 |cons W Y=>
 cases Y
 cases T
 cases W
 obtain⟨Z,rv,w,hz⟩:=i.list hl
 have fresh:∀(h':bK),(∀c o,d.heap.get? c=some o->h'.get? c=some o)->∀c∈[d.heap.objs.size+4,d.heap.objs.size+2,d.heap.objs.size+3,d.heap.objs.size,d.heap.objs.size+1],u7 X g m c:=fun h' j c hc=>by
  have n:d.heap.objs.size<=c:=by
   have:c=d.heap.objs.size+4\/c=d.heap.objs.size+2\/c=d.heap.objs.size+3\/c=d.heap.objs.size\/c=d.heap.objs.size+1:=by simpa using hc
   omega
  exact i.fpOk n (i.hok.fresh n)
 have J:a<d.heap.objs.size:=let⟨o,e,_⟩:=w.isList;aM e
 cases F with
 |true=>
  obtain⟨r,x,v,y⟩:=i.tuple (show yH X.K m b ys from G)
  have t:d.heap.IsTuple b r.toArray:=v
  have z:b<d.heap.objs.size:=let⟨o,e,_⟩:=t;aM e
  refine zOF w.isList t fun h' u A B C D j=>?_
  exact lI u ⟨_,[d.heap.objs.size+4,d.heap.objs.size+2,d.heap.objs.size+3,d.heap.objs.size,d.heap.objs.size+1],_,_,m,rfl,i.kept (t':=d.toks) j,zIC true J z,⟨u,A,⟨_,_,B⟩,C,D⟩,fresh h' j,q⟩
 |false=>
  obtain⟨r,x,v,y⟩:=i.list (show z9 X.K m b ys from G)
  have z:b<d.heap.objs.size:=let⟨o,e,_⟩:=v.isList;aM e
  refine call_zip_2 w.isList v.isList fun h' u A B C D _ j=>?_
  exact lI u ⟨_,[d.heap.objs.size+4,d.heap.objs.size+2,d.heap.objs.size+3,d.heap.objs.size,d.heap.objs.size+1],_,_,m,rfl,i.kept (t':=d.toks) j,zIC false J z,⟨u,A,⟨_,_,B⟩,C,D⟩,fresh h' j,q⟩
end
open AutoSeq1 (wpAny_loadPart')
theorem zOI (l:ai)(items:Array ah)(n:Nat)(dd:Option ai)(e:Array (Option ah)) :
  Meets (dX.«enumerate.__new__» ⟨[.type "enumerate",.ref l],[]⟩) (fun _ R s=>s.heap.get? l=some {cls:=.type "tuple",dict:=dd,data:=.seq items n,slots:=e}/\
   R (.ok (.ret (.ref (s.heap.push {cls:=.type "tuple_iterator",data:=.fields #[.ref l,.int 0 0]}).objs.size)))
    {s with heap:=(s.heap.push {cls:=.type "tuple_iterator",data:=.fields #[.ref l,.int 0 0]}).push {cls:=.type "enumerate",data:=.fields #[.none,.bool false,.ref s.heap.objs.size,rawInt 0,.none,.none]}}) :=
 .of_wp fun prog w A R s h=>by
  obtain⟨f,g,d,i,os⟩:=s;obtain⟨hl,h⟩:=h
  have b:=sub_enumerate
  have a:rA (oJ ⟨f,g,d,i,os⟩) l items:=⟨_,hl,rfl,n,rfl⟩
  wp_walk using bZ hl
  refine wpAny_stack_any fun st=>bf ?_
  split
  ·rename_i c _ _ _ _ _
   cases(c==Value.type "enumerate")
   ·wp_walk using bZ hl,ft a
    exact⟨_,rfl,h⟩
   ·wp_walk using bZ hl,ft a
    exact⟨_,rfl,h⟩
  ·wp_walk using bZ hl,ft a
   exact⟨_,rfl,h⟩
section
variable{prog:aP}{w:bc}{A:bU}{E:ah->au->Prop}{s:au}
theorem zOJ {l:ai}{items:Array ah}{Q:ah->au->Prop}(hl:s.heap.IsTuple l items)
  (h:∀h',IsEnum h' (s.heap.objs.size+1) s.heap.objs.size 0 .none->h'.IsTupleIter s.heap.objs.size l 0->(∀b o,s.heap.get? b=some o->h'.get? b=some o)->Q (.ref (s.heap.objs.size+1)) {s with heap:=h'}) :
  wpAny (model prog w) A (call (.type "enumerate") [.ref l]) Q E s:=by
 obtain⟨⟨cls,dd,data,f⟩,g,i,n,hd⟩:=hl
 have a:cls=.type "tuple" :=i
 have c:data=.seq items n:=hd
 subst a c
 refine callType_new F.called_enumerate (by decide) (F.typeCall_enumerate_1 _) (F.newCall_enumerate_1 _) (fun obj=>F.args_object_init_2 obj _) F.entry_enumerate_new (zOI l items n dd f) ⟨g,?_⟩
 have d:(s.heap.push {cls:=.type "tuple_iterator",data:=.fields #[.ref l,.int 0 0]}).objs.size=s.heap.objs.size+1:=dj ..
 show _/\_
 rw[d]
 have e:IsEnum ((s.heap.push {cls:=.type "tuple_iterator",data:=.fields #[.ref l,.int 0 0]}).push {cls:=.type "enumerate",data:=.fields #[.none,.bool false,.ref s.heap.objs.size,rawInt 0,.none,.none]}) (s.heap.objs.size+1) s.heap.objs.size 0 .none:=by
  have:=aZ (s.heap.push {cls:=.type "tuple_iterator",data:=.fields #[.ref l,.int 0 0]}) (o:={cls:=.type "enumerate",data:=.fields #[.none,.bool false,.ref s.heap.objs.size,rawInt 0,.none,.none]}) rfl
  rw[d]at this;exact this
 exact⟨⟨_,e,rfl⟩,h _ e ⟨_,ag _ (aZ _ rfl),rfl,rfl⟩ fun b o x=>ag _ (ag _ x)⟩
end
def zEm (K:ae)(a:ai):It :=
 ⟨fun i H=>∃xs x,yH K H a xs/\xs[i]?=some x,fun i H x H'=>∃T y,x=.ref T/\H T=none/\H'=upd H T (.tup [.int i,y])/\∀xs,yH K H a xs->xs[i]?=some y,fun i H=>∃xs,yH K H a xs/\xs.length=i⟩
theorem zOK {P:aP}{w:bc}{K:ae}{t:List cb}{k:Nat}{pos:Pos}{n a:Nat}(O:a<n):Turn P w K (.Tuple t k pos) (zEm K a) [n+1,n] (n+1) (fun i h=>(∃old,IsEnum h (n+1) n i old)/\h.IsTupleIter n a i) where
 mem:=by simp
 obj:=fun i h st b l=>by
  obtain⟨⟨old,j⟩,hit⟩:=st
  rcases aQ.mp l with z|z
  ·subst z;exact⟨_,j,fun v z=>by cases z⟩
  ·have z':b=n:=by simpa using z
   subst z'
   obtain⟨o,e,c,d⟩:=hit
   exact⟨o,e,fun v z=>by rw[d]at z;cases z⟩
 keep:=fun i h h' st kk=>⟨let⟨old,j⟩:=st.1;⟨old,kk _ (by simp) _ j⟩,st.2.at fun o x=>kk n (by simp) o x⟩
 item:=by
  intro X B R T U i C s σ H E I J st W
  subst B R T
  obtain⟨xs,x,L,Y⟩:=W
  obtain⟨f,Z,p,hz⟩:=I.tuple L
  obtain⟨u,hu,ru⟩:=Z.get Y
  obtain⟨⟨old,j⟩,hit⟩:=id st
  have m:n+1≠n:=by omega
  have D:=zEk (prog:=X.prog) (w:=X.w) (A:=X.A.in1) (show X.A.in1.handled=none from I.ok.hd U) n a (jJ 0 O) f.toArray
  have ab:i<f.toArray.size:=by
   have:=(aa.mp hu).1
   simpa using this
  refine lD D j ⟨hit,(show s.heap.IsTuple a f.toArray from p)⟩ ab m (fun z=>by
   rcases aQ.mp z with y|y
   ·exact m y
   ·have y':n+1=a:=by simpa using y
    exact absurd O (by rw[<-y'];exact pF.mpr (mI n))) fun M h' N B ho ac hT hsz hk=>?_
  have aj:M=u:=by
   have:f[i]?=some M:=by simpa using B
   rw[hu]at this;exact(aw this).symm
  subst aj
  refine⟨_,rfl,kc ho fun h2 al r=>?_⟩
  have F:s.heap.get? s.heap.objs.size=none:=by
   cases g:s.heap.get? s.heap.objs.size with
   |none=>rfl
   |some o=>exact absurd (aM g) (bO _)
  have am:n+1<s.heap.objs.size:=aM j
  have an:h2.get? s.heap.objs.size=some {cls:=.type "tuple",data:=.seq #[.int i N,M]}:=(r.2 _ (dY am)).trans hT
  refine⟨.ref s.heap.objs.size,upd H s.heap.objs.size (.tup [.int i,x]),I.turnedT (fp:=[n+1,n]) (h':=h2) (t':=N+1) (fun b o l q=>?_) J F ⟨by show 2<=sizeLine;decide,[.int i N,M],.cons ⟨N,rfl⟩ (.cons ru .nil),⟨_,an,rfl,_,rfl⟩⟩,rfl,
   ⟨_,x,rfl,I.hok.free F,rfl,fun ys hy=>by rw[I.tuple_inj hy L];exact Y⟩,⟨⟨_,by simpa using al⟩,ac.1.at fun o q=>(r.2 n (d9 m)).trans q⟩,fun b l=>?_⟩
  ·have G:b≠n+1:=fun z=>l (by simp[z])
   have ap:b≠n:=fun z=>l (by simp[z])
   exact(r.2 b G).trans (hk b o G ap q)
  ·rw[zN]
   ·exact(J b l).1
   ·rintro rfl
    have as:s.heap.objs.size=n+1\/s.heap.objs.size=n:=by simpa using l
    omega
 done:=by
  intro X B R T U i C s σ H E I J st W
  subst B R T
  obtain⟨xs,L,Y⟩:=W
  obtain⟨f,Z,p,hz⟩:=I.tuple L
  obtain⟨⟨old,j⟩,hit⟩:=id st
  have hl:=Z.length
  have D:=zEk (prog:=X.prog) (w:=X.w) (A:=X.A.in1) (show X.A.in1.handled=none from I.ok.hd U) n a (jJ 0 O) f.toArray
  obtain⟨f0,f1,f2,f3,f4,f5⟩:=J n (by simp)
  have hi:f.toArray.size=i:=by rw[aY];omega
  refine lX D j ⟨by rw[hi];exact hit,(show s.heap.IsTuple a f.toArray from p)⟩ fun h' eb=>⟨rfl,I.turned (t':=s.toks) (fun b o l e=>eb b o l e) f0 f1 f3 f4 f5⟩
 self:=fun A i s Q E st h=>let⟨old,j⟩:=st.1;iG j h
section
variable{X:Cx}{elts:List cb}{k:Nat}{tpos:Pos}
def zOL (K:ae)(ta:TA):TI:=fun σ H R=>ta σ H fun vs H1=>∃a xs,vs=[.ref a]/\yH K H1 a xs/\R (zEm K a) H1
theorem zOM {e:cb}{j:TA}{p pos:Pos}(r:Gl X "enumerate")(t:X.mg "enumerate"=none)(v:PA X [e] j)(w:starEach [e] X.env=[(false,eval e X.env)]:=by rfl):PI X (.Tuple elts k tpos) (.Call (.Name "enumerate" p) [e] [] pos) (zOL X.K j):=by
 intro d s σ H R I h
 refine qu (kN I r t pA (cK (zK (v pos d s σ H _ I h) fun us c ⟨vs,l,g,x,y⟩=>?_) w rfl))
 obtain⟨a,xs,rfl,hl,q⟩:=y
 obtain⟨u,rfl,A⟩:=jC x
 cases A
 obtain⟨i,G,B,J⟩:=g.tuple hl
 have m:c.heap.IsTuple a i.toArray:=B
 have C:a<c.heap.objs.size:=let⟨o,e,_⟩:=m;aM e
 refine zOJ m fun h' n hit D=>?_
 have E:Inv X d σ l {c with heap:=h'}:=g.kept (t':=c.toks) D
 refine iG n ⟨_,[c.heap.objs.size+1,c.heap.objs.size],_,_,l,rfl,E,zOK C,⟨⟨_,n⟩,hit⟩,fun b F=>?_,q⟩
 have f:c.heap.objs.size<=b:=by
  have:b=c.heap.objs.size+1\/b=c.heap.objs.size:=by simpa using F
  rcases this with z|z
  ·rw[z];exact mI _
  ·rw[z];exact aH _
 exact g.fpOk f (g.hok.fresh f)
end
theorem zCa {J:It}{xs ys:List V}{len:Nat}{Hk:Hp->Prop}(u:∀i H,Hk H->i<len->J.go i H)(v:∀i H,Hk H->i=len->J.stop i H)(w:∀i H x H',Hk H->J.yld i H x H'->∃T s t,x=.ref T/\H T=none/\H'=upd H T (.tup [s,t])/\xs[i]?=some s/\ys[i]?=some t)
  {caps:List Nat} {n:Nat} {σ:St} {g:TG} {I:TT} {L:TE} {F:List V->Hp->Prop} {M:Hp} (l:St) (k:Nat) (Y:len<1000)
  (Pv:Nat->List V->Hp->Prop) (N:Pv 0 [] M) (O:∀i a H,i<=len->Pv i a H->Hk H/\a.length<=i)
  (o:∀(i:Nat) (x y:V) (T:ai) (a:List V) (H:Hp) (f:St) (z:List V->St->Hp->Prop),(∀c H' f,f.length=k->Pv (i+1) c H'->z c (l++f) H')->xs[i]?=some x->ys[i]?=some y->f.length=k->Pv i a H->H T=none->
   g (.ref T) (l++f) (upd H T (.tup [x,y])) fun d A=>I d A fun b q=>if b=true then L d q fun y j=>z (a++[y]) d j else z a d q)
  (fin:∀a H,Pv len a H->F a H) (B:uM caps n σ=l++aU k none:=by rfl) :
  ∃W:Nat->Nat->List V->St->Hp->Prop,(∃m,W 0 m [] (uM caps n σ) M)/\∀i m a r H',W i m a r H'->
   (J.stop i H'/\F a H')\/
   (J.go i H'/\a.length<sizeLine/\∀x C,J.yld i H' x C->g x r C fun d A=>I d A fun b q=>if b=true then L d q fun y j=>∃h,h<m/\W (i+1) h (a++[y]) d j else∃h,h<m/\W (i+1) h a d q):=by
 refine⟨fun i m a r H'=>i<=len/\m=len-i/\(∃ys,ys.length=k/\r=l++ys)/\Pv i a H',⟨len,bX _,rfl,⟨_,by simp,B⟩,N⟩,?_⟩
 rintro i m a r H' ⟨hi,rfl,⟨f,P,rfl⟩,pv⟩
 obtain⟨D,Z⟩:=O i a H' hi pv
 by_cases e:i=len
 ·subst e
  exact .inl ⟨v _ _ D rfl,fin a H' pv⟩
 ·have E:i<len:=by omega
  refine .inr ⟨u _ _ D E,by rw[aR];omega,fun x C G=>?_⟩
  obtain⟨T,s,t,rfl,Q,rfl,R,U⟩:=w _ _ _ _ D G
  exact o i s t T a H' f (fun c d j=>∃h,h<len-i/\(i+1<=len/\h=len- (i+1)/\(∃ys,ys.length=k/\d=l++ys)/\Pv (i+1) c j)) (fun c j f X p=>⟨len- (i+1),by omega,by omega,rfl,⟨f,X,rfl⟩,p⟩) R U P pv Q
section
variable{X:Cx}
theorem zID (m:X.calm=true):uV X (.builtin "any") (fun xs H Q=>∃(p:ai) (bs:List Bool),xs=[.ref p]/\z9 X.K H p (bs.map V.bl)/\Q (.bl (bs.any id)) H):=by
 intro g s σ H xs us Q I r h
 obtain⟨p,bs,rfl,t,q⟩:=h
 obtain⟨u,rfl,w⟩:=jC r
 cases w
 obtain⟨a,d,f,J⟩:=I.list t
 have y:p≠s.heap.objs.size:=by
  obtain⟨o,n,e,_⟩:=f
  exact bH (aM e)
 have c:∀(i:Nat) (v:ah),a.toArray[i]?=some v->v=.bool (bs.getD i false):=fun i v e=>by
  have j:a[i]?=some v:=by simpa using e
  have hl:=d.length
  have hi:i<bs.length:=by
   have:=(aa.mp j).1
   simp at hl;omega
  obtain⟨u,l,B⟩:=d.get (i:=i) (x:=.bl (bs.getD i false)) (by rw[aF];simp[hi])
  rw[j]at l
  cases l
  exact B
 refine call_any_walk (fL f.isList ?_)
 refine⟨s.heap.objs.size,_,_,a.toArray.size,_,_,fun i=>bs.getD i false,rfl,pk (A:=X.A.in1) (I.ok.hd m) _ p y a.toArray,⟨⟨_,aZ _ rfl,rfl,rfl⟩,?_⟩,fun i v s' L M C D=>?_,fun h' E F=>?_⟩
 ·exact f.isList.at fun o e=>ag _ e
 ·rw[c i v C];exact de D
 ·refine⟨.bl (bs.any id),H,I.kept (t':=E) (h':=h') fun b o e=>F b o (fun z=>?_) (ag _ e),?_,q⟩
  ·have:b=s.heap.objs.size:=by simpa using z
   exact absurd (aM e) (by rw[this];exact bO _)
  ·have hl:=d.length
   have hsz:a.toArray.size=bs.length:=by simp at hl;simp[hl]
   have:(bg a.toArray.size).any (fun i=>bs.getD i false)=bs.any id:=by
    rw[hsz]
    rw[eE]
    simp only[gf,bR,id]
    constructor
    ·rintro⟨i,hi,h⟩
     exact⟨bs[i],cD hi,by simpa [hi]using h⟩
    ·rintro⟨b,G,h⟩
     obtain⟨i,hi,e⟩:=dv G
     exact⟨i,hi,by simpa [hi,e]using h⟩
   rw[this];rfl
end
def zIE (K:ae):R2:=fun x y H Q=>∃d ds,yD K H d x/\yD K H (.list ds) y/\cn d=true/\cn (.list ds)=true/\Q (.bl (ds.any fun e=>bV e d)) H
section
variable{X:Cx}
theorem zON (c:X.A.units+65<cLine):yN X (compareOp .In) (zIE X.K):=by
 intro a s σ H x y v u Q I e f h
 obtain⟨d,ds,g,i,b,j,q⟩:=h
 obtain⟨as,l⟩:=yD.reads I d x v g e
 obtain⟨bs,m⟩:=yD.reads I (.list ds) y u i f
 exact SeqAt.in_list_reads m l (fF j) (fF b) (room_in_shaped b c) ⟨.bl _,H,I,rfl,q⟩
theorem zIF (a:ae)(b:X.K=a)(c:X.A.units+65<cLine):yN X (compareOp .In) (zIE a):=by
 subst b;exact zON c
end
theorem Room.units65 {k:Nat}{A:bU}(r:Room k A):A.units+65<cLine:=by have:=r.un;omega
open PySem.AutoSeq1 (wpAny_loadPart')
open PySem.MeetsSeq PySem.MeetsSeq2 PySem.MeetsSeq3 PySem.SeqAt
theorem zEn:∀{vs:List ah}{ns:List Int},fN vs ns->∀{i:Nat},i<vs.length->∃t,vs[i]?=some (.int (ns.getD i 0) t)
 |_,_,.nil,i,h=>absurd h (me _)
 |_,_,.cons a t r,0,_=>⟨t,rfl⟩
 |_,_,.cons a t r,i+1,h=>by
  obtain⟨u,e⟩:=zEn r (i:=i) (Nat.lt_of_succ_lt_succ h)
  exact⟨u,by simpa using e⟩
theorem zOO (l b:ai)(items a:Array ah)(n E:Nat)(dd v:Option ai)(F x:Array (Option ah))(ns c:List Int)(hi:fN items.toList ns)(D:fN a.toList c)(hsz:items.size=a.size)(k:Nat) :
  ∀i:Nat,items.size-i=k->Meets (dX.«list.__eq__.loop» ⟨[.ref l,.ref b,rawInt i,rawInt 0],[]⟩)
   (fun A R s=>s.heap.get? l=some {cls:=.type "list",dict:=dd,data:=.seq items n,slots:=F}/\s.heap.get? b=some {cls:=.type "list",dict:=v,data:=.seq a E,slots:=x}/\
    R (.ok (.ret (.bool (HT.lexLt (ns.drop i) (c.drop i))))) s):=by
 have M:items.size=ns.length:=by rw[<-hi.length];simp
 have N:a.size=c.length:=by rw[<-D.length];simp
 induction k with
 |zero=>
  intro i G prog w A R s h
  obtain⟨y,g,d,z,os⟩:=s;obtain⟨hl,p,h⟩:=h
  wp_walk using bZ hl,bZ p
  have f:items[((i:Nat):Int).toNat]?=none:=by simp;omega
  have j:a[((i:Nat):Int).toNat]?=none:=by simp;omega
  have hd:ns.drop i=[]:=by simp;omega
  have o:c.drop i=[]:=by simp;omega
  rw[hd,o,HT.lexLt_nil_nil]at h
  rw[f,j]
  wp_walk using bZ hl,bZ p
  show R (.ok (.ret (.bool (decide (items.size<a.size))))) _
  rw[hsz]
  simpa using h
 |succ k ih=>
  intro i G prog w A R s h
  obtain⟨y,g,d,z,os⟩:=s;obtain⟨hl,p,h⟩:=h
  wp_walk using bZ hl,bZ p
  have B:i<items.size:=by omega
  have r:i<a.size:=by omega
  obtain⟨t,H⟩:=zEn hi (i:=i) (by simpa using B)
  obtain⟨u,I⟩:=zEn D (i:=i) (by simpa using r)
  have f:items[((i:Nat):Int).toNat]?=some (.int (ns.getD i 0) t):=by simpa using H
  have j:a[((i:Nat):Int).toNat]?=some (.int (c.getD i 0) u):=by simpa using I
  have hd:ns.drop i=ns.getD i 0::ns.drop (i+1):=by
   rw[gj (by omega)]
   simp[show i<ns.length by omega]
  have o:c.drop i=c.getD i 0::c.drop (i+1):=by
   rw[gj (by omega)]
   simp[show i<c.length by omega]
  have J:((i:Int)+1)=((i+1:Nat):Int):=by push_cast;rfl
  rw[hd,o,HT.lexLt_cons]at h
  rw[f,j]
  obtain⟨e,L,m⟩:=HT.eqAt_int A.in1 ⟨y,g,d,z,os⟩ (ns.getD i 0) t (c.getD i 0) u
  refine ao (L prog w _ _ ?_)
  cases e with
  |true=>
   rw[if_pos (m.mp rfl)]at h
   wp_walk
   rw[J]
   exact⟨qo plain_eq_loop _,mf entry_eq_loop (by
    rw[mL plain_eq_loop _]
    exact ih (i+1) (by omega) prog w A R _ ⟨hl,p,h⟩)⟩
  |false=>
   rw[if_neg (fun q=>absurd (m.mpr q) aI)]at h
   wp_walk using bZ hl,bZ p
   rw[f,j]
   have C:=HT.rcLt_int A.in1 ⟨y,g,d,z,os⟩ (ns.getD i 0) t (c.getD i 0) u prog w
   wp_walk using C
   simpa using h
theorem zOP (l b:ai)(items a:Array ah)(n i:Nat)(dd c:Option ai)(j e:Array (Option ah))(ns f:List Int)(hi:fN items.toList ns)(o:fN a.toList f)(hsz:items.size=a.size) :
  Meets (dX.«list.__lt__» ⟨[.ref l,.ref b],[]⟩)
   (fun A R s=>s.heap.get? l=some {cls:=.type "list",dict:=dd,data:=.seq items n,slots:=j}/\s.heap.get? b=some {cls:=.type "list",dict:=c,data:=.seq a i,slots:=e}/\
    R (.ok (.ret (.bool (HT.lexLt ns f)))) s):=by
 intro prog w A R s h
 obtain⟨p,g,d,q,os⟩:=s;obtain⟨hl,m,h⟩:=h
 have r:=AutoSeq1.sub_list_list
 wp_walk using bZ hl,bZ m
 exact⟨qo plain_eq_loop _,mf entry_eq_loop (by
  rw[mL plain_eq_loop _]
  exact zOO l b items a n i dd c j e ns f hi o hsz _ 0 rfl prog w A R _ ⟨hl,m,by simpa using h⟩)⟩
section
variable{prog:aP}{w:bc}{A:bU}{E:ah->au->Prop}{s:au}
theorem zOQ {l b:ai}{items a:Array ah}{ns c:List Int}{Q:ah->au->Prop}(hl:s.heap.IsList l items)(p:s.heap.IsList b a)(hi:fN items.toList ns)(q:fN a.toList c)(hsz:items.size=a.size)
  (r:A.units<cLine) (h:Q (.bool (HT.lexLt ns c)) s):wpAny (model prog w) A (compareOp .Lt (.ref l) (.ref b)) Q E s:=by
 obtain⟨⟨cls,dd,data,t⟩,j,m,n,hd⟩:=id hl
 obtain⟨⟨o,g,data2,i⟩,d,e,u,f⟩:=id p
 simp only at m hd e f
 subst m hd e f
 exact richCompare_meets_room (op:=.Lt) ⟨_,j,rfl⟩ ⟨_,d,rfl⟩ PySem.F.slot_list_lt PySem.F.entry_list_lt (PySem.F.args_list_lt_2 _ _) (zOP l b items a n u dd g t i ns c hi q hsz)
  ⟨j,d,show Value.bool (HT.lexLt ns c)≠Value.notImplemented/\Q (.bool (HT.lexLt ns c)) s from⟨(fun x=>nomatch x),h⟩⟩ r
end
section
open MyS PySem.W
variable{prog:aP}{w:bc}{A:bU}{E:ah->au->Prop}{s:au}
theorem zOR {κ:pj}{a:ai}{vs:List ah}{lt:Nat->Nat->Bool}{n:Nat}{P:mS->au->Prop}(z:s.heap.get? a=some (seqObj "list" vs.toArray n))(O:TotalOn lt vs.length)(D:vs.length<64)
  (U:∀G,(∀b o,b≠a->s.heap.get? b=some o->G.get? b=some o)->2<=vs.length->∀(Q:pj->au->Prop) (W:ah->au->Prop),Q κ {s with heap:=G}->wpAny (model prog w) A (keyKind' vs.toArray) Q W {s with heap:=G})
  (X:∀G,(∀b o,b≠a->s.heap.get? b=some o->G.get? b=some o)->∀i j,i<vs.length->j<vs.length->i≠j->∀C,C (lt i j) {s with heap:=G}->kas_ask prog w A κ vs i j C {s with heap:=G})
  (h:∀(p:List Nat) (h':bK) (e:Nat),p.Perm (bg vs.length)->p.Pairwise (fun i j=>lt i j=true)->(∀b o,b≠a->s.heap.get? b=some o->h'.get? b=some o)->
   h'.get? a=some (seqObj "list" (p.map fun i=>vs.getD i Value.none).toArray e)->P (.done (.ret .none)) {s with heap:=h'}) :
  wpAny (model prog w) A (dX.«list.sort» ⟨[.ref a],[]⟩) P E s:=by
 have ha:a<s.heap.objs.size:=aM z
 rw[oO]
 refine ao (listItems_at z rfl ?_)
 refine ao (hU z rfl ?_ (by rw[aY,aR];omega) (bX _))
 obtain⟨F,t⟩:∃F,(s.heap.update a (cz fun _=>(#[]:Array ah))).get? a=some (seqObj "list" #[] F):=⟨_,jb z fun _=>#[]⟩
 refine ao (iY t rfl ?_)
 refine ao (mG ?_ (by rw[aR];simp;omega))
 refine ao (lh ?_ (by simp))
 refine ll ?_
 show wpAny (model prog w) A _ P E {s with heap:=((s.heap.update a (cz fun _=>#[])).push (seqObj "tuple" vs.toArray 0)).push (seqObj "list" #[] 0)}
 generalize T:((s.heap.update a (cz fun _=>(#[]:Array ah))).push (seqObj "tuple" vs.toArray 0)).push (seqObj "list" #[] 0)=G
 have d:G.get? a=some (seqObj "list" #[] F):=by
  rw[<-T]
  exact ag _ (ag _ t)
 have m:∀b o,b≠a->s.heap.get? b=some o->G.get? b=some o:=fun b o B e=>by
  rw[<-T]
  exact ag _ (ag _ ((cF _ _ (d9 B)).trans e))
 have fin:∀(p:List Nat) (q:Array ah) (c:q=(p.map fun i=>vs.getD i Value.none).toArray),p.Perm (bg vs.length)->p.Pairwise (fun i j=>lt i j=true)->
   P (.done (.ret .none)) {s with heap:=G.update a (cz fun _=>q)}:=fun p q c Y f=>by
  subst c
  have Z:=jb d fun _=>(p.map fun i=>vs.getD i Value.none).toArray
  exact h p _ _ Y f (fun b o B e=>(cF _ _ (d9 B)).trans (m b o B e)) Z
 dsimp only
 by_cases f:vs.toArray.size<2
 ·rw[if_pos f,if_pos f]
  refine ao (bf ?_)
  rw[oP]
  refine ao (bf ?_)
  dsimp only
  refine ao (iY d rfl ?_)
  refine ao (hU d rfl ?_ (by simp) (by
   show((vs.toArray.zip vs.toArray).map (·.2)).size<=sizeLine+1
   rw[aR];simp;omega))
  simp only[bne_self_eq_false,fA,if_false]
  refine bf (fin (bg vs.length) _ ?_ (kb _) ?_)
  ·show(vs.toArray.zip vs.toArray).map (·.2)=_
   match vs,f with
   | [],_=>simp
   | [v],_=>simp[cU]
   |_::_::_,f=>simp at f;omega
  ·have:vs.length<2:=by simpa using f
   match hv:vs.length,this with
   |0,_=>simp
   |1,_=>simp[cU]
 ·rw[if_neg f,if_neg f]
  have g:2<=vs.length:=by simpa using f
  refine ao (U G m g _ _ ?_)
  show wpAny _ _ (sk sortRuns' (so κ (vs.toArray.zip vs.toArray) #[] 7 none)>>=_) _ _ _
  obtain⟨H,I⟩:=zGn O g
  refine ao (cf (kat_run (ks:=vs) (vs:=vs) (Q:=fun l s'=>s'={s with heap:=G}/\failedOf l=none/\∃p:Array Nat,Pm p vs.length/\Up lt p vs.length/\arrOf l=p.map (kas_item (vs.toArray.zip vs.toArray)))
   (G:=fun p s'=>s'={s with heap:=G}/\Pm p vs.length/\Up lt p vs.length) rfl g D (fun p l s' _ u J x=>⟨x.1,J,p,x.2.1,x.2.2,u⟩) ?_) ?_ fun _ _ e=>e)
  ·refine zDk (N:=vs.length) (lt:=lt) (fun i j hi L r C M=>?_) _ _ (zGm O g) ⟨rfl,H,I⟩
   exact X G m i j hi L r C M
  ·rintro⟨⟨⟩,l⟩ s' ⟨rfl,hf,p,u,J,x⟩
   dsimp only
   have c:=kat_snds (ks:=vs) (vs:=vs) rfl x
   refine ao (iY d rfl ?_)
   refine ao (hU d rfl ?_ (by simp) (by
    rw[c,aY,af,aR]
    have:=u.size
    simp
    omega))
   rw[hf]
   simp only[bne_self_eq_false,fA,if_false]
   refine bf (fin p.toList _ c u ?_)
   rw[kf]
   intro i j hi L r
   have R:i<p.size:=by simpa using hi
   have y:j<p.size:=by simpa using L
   have:=J i j r (by rw[<-u.size];exact y)
   rw[zAH R,zAH y]at this
   simpa using this
end
def gX (a b:List Int):Bool:=if a.length=b.length then HT.lexLt a b else decide (a.length<b.length)
def zAO (ks:List (List Int))(i j:Nat):Bool:=gX (ks.getD i []) (ks.getD j [])
theorem zIG:∀a:List Int,HT.lexLt a a=false
 | []=>rfl
 |x::a=>by rw[HT.lexLt_cons,if_pos rfl];exact zIG a
theorem zIH:∀{a b c:List Int},a.length=b.length->b.length=c.length->HT.lexLt a b=true->HT.lexLt b c=true->HT.lexLt a c=true
 | [],[],_,_,_,h,_=>by cases h
 | [],_::_,_,e,_,_,_=>by cases e
 |_::_,[],_,e,_,_,_=>by cases e
 |x::a,y::b,[],_,e,_,_=>by cases e
 |x::a,y::b,z::c,j,l,g,d=>by
  rw[HT.lexLt_cons]at g d⊢
  by_cases i:x=y
  ·rw[if_pos i]at g
   by_cases f:y=z
   ·rw[if_pos f]at d
    rw[if_pos (i.trans f)]
    exact zIH (iL j) (iL l) g d
   ·rw[if_neg f]at d
    rw[i,if_neg f];exact d
  ·rw[if_neg i]at g
   have m:=of_decide_eq_true g
   by_cases f:y=z
   ·rw[<-f,if_neg i];exact g
   ·rw[if_neg f]at d
    have n:=of_decide_eq_true d
    rw[if_neg (by omega)];exact decide_eq_true (by omega)
theorem zII:∀{a b:List Int},a.length=b.length->a≠b->HT.lexLt a b=true\/HT.lexLt b a=true
 | [],[],_,h=>absurd rfl h
 | [],_::_,e,_=>by cases e
 |_::_,[],e,_=>by cases e
 |x::a,y::b,e,h=>by
  rw[HT.lexLt_cons,HT.lexLt_cons]
  by_cases c:x=y
  ·subst c
   rw[if_pos rfl,if_pos rfl]
   exact zII (iL e) fun z=>h (by rw[z])
  ·rw[if_neg c,if_neg (d9 c)]
   rcases Int.lt_or_gt_of_ne c with z|z
   ·exact .inl (decide_eq_true z)
   ·exact .inr (decide_eq_true z)
theorem zOS {ks:List (List Int)}(nd:ks.Nodup):MyS.TotalOn (zAO ks) ks.length where
 irr:=fun i _=>by unfold zAO gX;rw[if_pos rfl];exact zIG _
 tr:=fun i j k _ _ _ g h=>by
  unfold zAO gX at*
  generalize ks.getD i []=a at*
  generalize ks.getD j []=b at*
  generalize ks.getD k []=c at*
  by_cases d:a.length=b.length<;>by_cases f:b.length=c.length
  ·rw[if_pos d]at g;rw[if_pos f]at h
   rw[if_pos (d.trans f)];exact zIH d f g h
  ·rw[if_neg f]at h
   have:=of_decide_eq_true h
   rw[if_neg (by omega)];exact decide_eq_true (by omega)
  ·rw[if_neg d]at g
   have:=of_decide_eq_true g
   rw[if_neg (by omega)];exact decide_eq_true (by omega)
  ·rw[if_neg d]at g;rw[if_neg f]at h
   have:=of_decide_eq_true g
   have:=of_decide_eq_true h
   rw[if_neg (by omega)];exact decide_eq_true (by omega)
 tot:=fun i j hi m l=>by
  have d:ks.getD i []=ks[i]:=by simp[hi]
  have f:ks.getD j []=ks[j]:=by simp[m]
  have n:ks[i]≠ks[j]:=fun z=>l ((fh nd).mp z)
  unfold zAO gX
  rw[d,f]
  by_cases e:ks[i].length=ks[j].length
  ·rw[if_pos e,if_pos e.symm];exact zII e n
  ·rw[if_neg e,if_neg (d9 e)]
   rcases Nat.lt_or_gt_of_ne e with z|z
   ·exact .inl (decide_eq_true z)
   ·exact .inr (decide_eq_true z)
def gY (h:bK)(a:ai)(v:ah)(k:List Int):Prop:=∃b o t n lb items,v=Value.ref b/\b≠a/\h.get? b=some o/\o.cls=.type "tuple"/\o.data=.seq #[.int (k.length:Int) t,.ref lb] n/\lb≠a/\h.IsList lb items/\fN items.toList k
theorem gY.keep {h h':bK}{a:ai}{v:ah}{k:List Int}(p:gY h a v k)(e:∀b o,b≠a->h.get? b=some o->h'.get? b=some o):gY h' a v k:=by
 obtain⟨b,o,t,n,c,items,g,d,i,j,l,f,m,r⟩:=p
 exact⟨b,o,t,n,c,items,g,d,e b o d i,j,l,f,m.at fun o q=>e c o f q,r⟩
section
variable{prog:aP}{w:bc}{A:bU}{E:ah->au->Prop}{s:au}
theorem zEo {h:bK}:∀{vs:List ah}{ns:List Int},fN vs ns->∃as,ReadsAll h vs (ns.map PyData.int) as
 |_,_,.nil=>⟨_,.nil⟩
 |_,_,.cons a t r=>let⟨as,b⟩:=zEo r;⟨_,.cons (.int a t) b⟩
theorem zCb:∀(a b:List Int),bV (.list (a.map PyData.int)) (.list (b.map PyData.int))=decide (a=b)
 | [],[]=>rfl
 | [],_::_=>rfl
 |_::_,[]=>rfl
 |x::a,y::b=>by
  have ih:=zCb a b
  simp only[bV]at ih
  simp only[ba,bV,fc]
  rw[ih]
  by_cases c:x=y<;>by_cases d:a=b<;>simp[c,d]
end
section
open MyS PySem.W
variable{prog:aP}{w:bc}{A:bU}{E:ah->au->Prop}{s:au}
theorem zIJ (ns:List Int):(PyData.list (ns.map PyData.int)).depth<=5/\(PyData.list (ns.map PyData.int)).canLay0=true:=by
 have g1:∀ns:List Int,dq (ns.map PyData.int)<=1:=by
  intro ns
  induction ns with
  |nil=>decide
  |cons n ns ih=>rw[ba];simp only[dq,d5];omega
 have g2:∀ns:List Int,cH (ns.map PyData.int)=true:=by
  intro ns
  induction ns with
  |nil=>rfl
  |cons n ns ih=>rw[ba];simp only[cH,dC,ih,dZ]
 have:=g1 ns
 exact⟨by simp only[d5];omega,by simp only[dC];exact g2 ns⟩
theorem zOT {v u:ah}{k l:List Int}{a:ai}{C:Bool->au->Prop}(B:gY s.heap a v k)(D:gY s.heap a u l)(e:k≠l)(hun:A.units+20<cLine)(h:C (gX k l) s) :
  wpAny (model prog w) A (keyLt' (tuples' true) v u) C E s:=by
 obtain⟨b,o,t,n,F,items,G,X,H,Y,I,Z,x,g⟩:=B
 obtain⟨b',o',t',n',i,c,j,J,m,L,p,M,f,d⟩:=D
 subst G;subst j
 refine kat_lt H I m p ?_
 unfold gX at h
 have z1:items.size=k.length:=by rw[<-g.length];simp
 have z2:c.size=l.length:=by rw[<-d.length];simp
 have q:=ka (A:=A) (s:=s) (k.length:Int) t (l.length:Int) t'
 by_cases hl:k.length=l.length
 ·rw[if_pos hl]at h
  have r:((k.length:Int)==(l.length:Int))=true:=by rw[hl];simp
  rw[r]at q
  refine rP (q prog w _ _ (kat_yes ?_))
  obtain⟨as,N⟩:=zEo (h:=s.heap) g
  obtain⟨bs,O⟩:=zEo (h:=s.heap) d
  obtain⟨o1,i1,i2,m1,P⟩:=id x
  obtain⟨o2,Q,R,m2,T⟩:=id f
  obtain⟨d1,U⟩:=zIJ k
  obtain⟨d2,W⟩:=zIJ l
  have y:=SeqAt.eqAt_reads _ _ A s (.ref F) (.ref i) _ _ (.list i1 i2 P N) (.list Q R T O) U W (by omega)
  rw[zCb,decide_eq_false e]at y
  refine rP (y prog w _ _ (kat_no ?_))
  refine kat_one _ _ (zOQ x f g d (by omega) (by omega) ?_)
  exact h
 ·rw[if_neg hl]at h
  have r:((k.length:Int)==(l.length:Int))=false:=beq_eq_false_iff_ne.mpr (fun z=>hl (by omega))
  rw[r]at q
  refine rP (q prog w _ _ (kat_no ?_))
  refine oneLt_int ?_
  have:decide ((k.length:Int)<(l.length:Int))=decide (k.length<l.length):=decide_eq_decide.mpr (by omega)
  rw[this];exact h
theorem zOU {a:ai}{vs:List ah}{ks:List (List Int)}{n:Nat}{P:mS->au->Prop}(D:s.heap.get? a=some (seqObj "list" vs.toArray n))(hl:ks.length=vs.length)
  (F:∀(i:Nat) (v:ah),vs[i]?=some v->∃k,ks[i]?=some k/\gY s.heap a v k) (nd:ks.Nodup) (r:vs.length<64) (hun:A.units+20<cLine)
  (h:∀(p:List Nat) (h':bK) (e:Nat),p.Perm (bg vs.length)->p.Pairwise (fun i j=>zAO ks i j=true)->(∀b o,b≠a->s.heap.get? b=some o->h'.get? b=some o)->
   h'.get? a=some (seqObj "list" (p.map fun i=>vs.getD i Value.none).toArray e)->P (.done (.ret .none)) {s with heap:=h'}) :
  wpAny (model prog w) A (dX.«list.sort» ⟨[.ref a],[]⟩) P E s:=by
 have c:∀G,(∀b o,b≠a->s.heap.get? b=some o->G.get? b=some o)->∀i,i<vs.length->gY G a (vs.getD i Value.none) (ks.getD i []):=fun G f i hi=>by
  obtain⟨k,e,q⟩:=F i vs[i] (ax hi)
  have g:vs.getD i Value.none=vs[i]:=by simp[hi]
  have x:ks.getD i []=k:=by rw[br,e];rfl
  rw[g,x]
  exact q.keep f
 have ne:∀i j,i<vs.length->j<vs.length->i≠j->ks.getD i []≠ks.getD j []:=fun i j hi y d e=>by
  have g:ks.getD i []=ks[i]:=by simp[show i<ks.length by omega]
  have x:ks.getD j []=ks[j]:=by simp[show j<ks.length by omega]
  rw[g,x]at e
  exact d ((fh nd).mp e)
 have O:=zOS nd
 rw[hl]at O
 refine zOR (κ:=tuples' true) D O r (fun G f R Q U H=>?_) (fun G f i j hi y d C I=>zOT (s:={s with heap:=G}) (c G f i hi) (c G f j y) (ne i j hi y d) hun I) h
 have go:∀l:List ah,(∀v∈l,∃k,gY G a v k)->∃fs,KatTups G l fs/\(∀v∈fs,∃k t,v=Value.int k t)/\fs.length=l.length:=by
  intro l
  induction l with
  |nil=>intro _;exact⟨[],.nil,by simp,rfl⟩
  |cons v l ih=>
   intro hl
   obtain⟨k,b,o,t,n,W,items,J,X,L,M,N,_⟩:=hl v (ar ..)
   obtain⟨fs,f1,f2,B⟩:=ih fun u m=>hl u (aG _ m)
   subst J
   refine⟨.int (k.length:Int) t::fs,.cons L M N rfl f1,fun u m=>?_,by simp[B]⟩
   rcases aQ.mp m with rfl|m
   ·exact⟨_,t,rfl⟩
   ·exact f2 u m
 obtain⟨fs,f1,f2,B⟩:=go vs fun v z=>by
  obtain⟨i,hi,e⟩:=dv z
  have:=c G f i hi
  have g:vs.getD i Value.none=v:=by simp[hi,e]
  rw[g]at this
  exact⟨_,this⟩
 refine kat_kind (s:={s with heap:=G}) (T:=.type "int") f1 (by omega) (fun v z=>?_) rfl H
 obtain⟨k,t,rfl⟩:=f2 v z
 exact .now
end
section
variable{X:Cx}
def zOV (K:ae):List V->Hp->VK->Prop:=fun xs H Q=>∃p ts ks,xs=[.ref p]/\z9 K H p ts/\ts.length=ks.length/\(∀(i:Nat) (k:List Int),ks[i]?=some k->∃a lb,ts[i]?=some (.ref a)/\yH K H a [.int (k.length:Int),.ref lb]/\z9 K H lb (k.map V.int))/\ks.Nodup/\ks.length<64/\
 ∀(pm:List Nat) (l:ai),pm.Perm (bg ks.length)->pm.Pairwise (fun i j=>zAO ks i j=true)->H l=none->Q (.ref l) (upd H l (.lst (pm.map fun i=>ts.getD i .non)))
theorem zOW (hc:X.calm=true)(hu:X.A.units+64<cLine):uV X (.builtin "sorted") (zOV X.K):=by
 intro Z s σ H xs us Q I rx h
 obtain⟨p,ts,ks,rfl,hp,g,r,nd,ac,q⟩:=h
 obtain⟨u,rfl,ru⟩:=jC rx
 cases ru
 obtain⟨a,J,pl,_⟩:=I.list hp
 have c:a.length=ks.length:=by rw[<-J.length];exact g
 refine kg kind_sorted plain_sorted entry_sorted (args_sorted1 _) ?_
 unfold dX.«sorted»
 refine ao (m:=checkCount "sorted" 1 1 _) (bf ?_)
 refine ao (collect_list pl.isList ?_ (by rw[c,aR];omega))
 obtain⟨G,w,hG,L⟩:∃G,G=(s.heap.push (seqObj "list" #[] 0)).update s.heap.objs.size (cz (·++a.toArray))/\(∀b o,s.heap.get? b=some o->G.get? b=some o)/\s.heap.objs.size<=G.objs.size :=
  ⟨_,rfl,fun b o e=>(cF _ _ (dY (aM e))).trans (ag _ e),by rw[Heap.size_update,dj];exact mI _⟩
 rw[<-w]
 clear w
 refine ao (lh ?_ (by rw[c,aR];omega))
 dsimp only
 generalize M:G.objs.size=B
 have x:(G.push {cls:=.type "list",data:=.seq a.toArray}).get? B=some (seqObj "list" a.toArray 0):=by
  rw[<-M];exact aZ _ rfl
 have y:s.heap.objs.size<=B:=by rw[<-M];exact L
 have old:∀b o,s.heap.get? b=some o->(G.push {cls:=.type "list",data:=.seq a.toArray}).get? b=some o/\b≠B:=fun b o e=>⟨ag _ (hG _ _ e),by rw[<-M];exact bH (aM (hG _ _ e))⟩
 refine ao (ll (eP pq ⟨_,x,rfl⟩ oR (zOU (ks:=ks) x c.symm (fun i v e=>?_) nd (by omega) ?hun fun pm h2 e2 N O P R=>⟨_,rfl,?_⟩) (pz _)))
 case hun=>first|exact ny (by show X.A.units+1+20<=X.A.units+64;omega) hu|(show X.A.units+20<cLine;omega)|(show X.A.units+2+20<cLine;omega)|(show X.A.units+1+20<cLine;omega)
 ·have hi:i<ks.length:=by rw[<-c];exact(aa.mp e).1
  obtain⟨T,lb,f1,f2,f3⟩:=r i ks[i] (ax hi)
  obtain⟨u',g1,g2⟩:=J.get f1
  rw[e]at g1
  cases g1
  cases g2
  obtain⟨ab,r2,⟨o,ho,U,n,hd⟩,_⟩:=I.tuple f2
  obtain⟨y1,y2,rfl,W,Y⟩:=zAi r2
  obtain⟨t,rfl⟩:=W
  cases Y
  obtain⟨z,r3,p3,_⟩:=I.list f3
  obtain⟨ol,C,d⟩:=p3.isList
  refine⟨ks[i],ax hi,T,o,t,n,lb,z.toArray,rfl,(old _ _ ho).2,(old _ _ ho).1,U,hd,(old _ _ C).2,⟨ol,(old _ _ C).1,d⟩,?_⟩
  exact zGJ r3
 ·refine bf ⟨_,rfl,?_⟩
  have f:pm.Perm (bg ks.length):=by rw[<-c];exact N
  have D:∀b o,s.heap.get? b=some o->h2.get? b=some o:=fun b o e=>P b o (old _ _ e).2 (old _ _ e).1
  refine⟨.ref B,_,I.laid (t':=s.toks) (o:=.lst (pm.map fun i=>ts.getD i .non)) D y ⟨?_,_,_,?_,R⟩,rfl,q pm B f O (I.hok.fresh y)⟩
  ·rw[af,f.length_eq,bh,aR];omega
  ·have go:∀l:List Nat,(∀i∈l,i<ks.length)->zS (l.map fun i=>ts.getD i .non) (l.map fun i=>a.getD i Value.none):=by
    intro l
    induction l with
    |nil=>intro _;exact .nil
    |cons i l ih=>
     intro E
     have hi:i<ks.length:=E i (ar ..)
     have F:i<ts.length:=by rw[g];exact hi
     refine .cons ?_ (ih fun j hj=>E j (aG _ hj))
     obtain⟨u,e1,e2⟩:=J.get (ax F)
     have T:ts.getD i .non=ts[i]:=by simp[F]
     have a2:a.getD i Value.none=u:=by rw[br,e1];rfl
     show zW (ts.getD i .non) (a.getD i Value.none)
     rw[T,a2]
     exact e2
   exact go pm fun i hi=>bR.mp (f.mem_iff.mp hi)
end
section
open MyS PySem.W
variable{prog:aP}{w:bc}{A:bU}{E:ah->au->Prop}{s:au}
end
section
open MyS PySem.W
variable{X:Cx}
end
section
open MyS PySem.W
variable{X:Cx}{pins:List (ai×Obj)}{σ:List (Option V)}{H:Hp}{s:au}
end
open MyS PySem.W
open MyS PySem.W
end L2
end
section
namespace Kn.Ln
open PySem L2 Kn
theorem zIK:∀{l m:List S},l.Pairwise (· < ·)->m.Pairwise (· < ·)->(∀x,x∈l↔x∈m)->l=m
 | [],[],_,_,_=>rfl
 | [],y::ys,_,_,h=>absurd ((h y).mpr (ar ..)) (by simp)
 |x::xs,[],_,_,h=>absurd ((h x).mp (ar ..)) (by simp)
 |x::xs,y::ys,f,g,h=>by
  have hx1:=cg.mp f
  have a:=cg.mp g
  have c:x=y:=by
   rcases aQ.mp ((h x).mp (ar ..))with e|e
   ·exact e
   ·rcases aQ.mp ((h y).mpr (ar ..))with d|d
    ·exact d.symm
    ·exact absurd (zDq (a.1 x e) (hx1.1 y d)) (gR y)
  subst c
  have:xs=ys:=zIK hx1.2 a.2 fun p=>by
   constructor
   ·intro b
    rcases aQ.mp ((h p).mp (aG _ b))with e|e
    ·subst e;exact absurd (hx1.1 p b) (gR p)
    ·exact e
   ·intro b
    rcases aQ.mp ((h p).mpr (aG _ b))with e|e
    ·subst e;exact absurd (a.1 p b) (gR p)
    ·exact e
  rw[this]
theorem zBZ {c:Bool}{A B:Prop}(a:c=false)(h:B):if c=true then A else B:=by rw[a];exact yI h
theorem zIL {t u:TS}{D:Ends}{σ:St}{H:Hp}(R:St->Hp->Prop)(b:∀a H',R a H'->u D a H')(c:∀N:St->Hp->Prop,(∀a H',R a H'->N a H')->t {D with nx:=N} σ H):zBl t u D σ H:=c (u D) b
theorem gnR {i:Nat}{v:V}{σ:St}{H:Hp}{Q:St->Hp->Prop}(h:Q (σ.set i (some v)) H):kO i v σ H Q:=h
theorem zOX {i:Nat}{v v':V}{σ:St}{H:Hp}{Q:St->Hp->Prop}(e:v=v')(h:kO i v' σ H Q):kO i v σ H Q:=e▸h
end Kn.Ln
end
section
namespace L2
open PySem PySem.Spec PyProof.Rows
structure XLook (K:ae) (C:ai):Prop where
 exc:eN K C zAM "ValueError.__new__"=true
 ga:d6 K (.ref C) "__getattribute__"=some (some (.builtin "BaseException.__getattribute__"))
 gn:d6 K (.ref C) "__getattr__"=some none
 cl:d6 K (.ref C) "__class__"=some (some (.builtin "object.__class__"))
 mo:m6 K C (.type "object")=some true
section
variable{prog:aP}{w:bc}{A:bU}{E:ah->au->Prop}{h:bK}{g:Array o5}{d:Drawn}{t:Nat}{os:OsState}{K:ae}{C a:ai}{o:Obj}{vs:Array ah}
theorem zEp {M:nF}{name:Str}{r:Option ah}{Q:Option ah->au->Prop}(X:K.In h)(e:d6 K (.ref C) name=some r)(b:Q r ⟨h,g,d,t,os⟩):wpAny M A (typeLookup (.ref C) name) Q E ⟨h,g,d,t,os⟩ :=
 PySem.W.looks_findIn X e A Q E _ (fun _ _ z=>z) b
theorem zOY {M:nF}{b:ah}{Q:Unit->au->Prop}(X:K.In h)(L:XLook K C)(f:h.get? a=some o)(i:o.cls=.ref C)(j:Q () ⟨h,g,d,t,os⟩) :
  wpAny M A (checkBuiltinCall "BaseException.__getattribute__" ⟨[.ref a,b],[]⟩) Q E ⟨h,g,d,t,os⟩:=by
 obtain⟨l,N,nm,q,bs,hdct,sn,sub,ab,col,dd,k0,k1,k2,k3,k5,mN,m,r,n,T,_⟩:=zAN X L.exc
 have p:builtinKind "BaseException.__getattribute__"=some .slot:=by decide+kernel
 have c:splitId "BaseException.__getattribute__"=some ("BaseException","__getattribute__"):=by decide+kernel
 have e:(Value.ref C::l).contains (.type "BaseException")=true:=by rw[ke,T.hasType dQ.hasBase];rfl
 have s:=PySem.F.args_bexc_ga (.ref a) b
 simp only[checkBuiltinCall,p,c]
 refine ao ?_
 ·unfold isInstance
  repeat(first|(with_reducible refine dR f ?_;rw[i])|(with_reducible refine gu m ?_;rw[e])|wp_step)
  exact j
theorem zOZ {R:Result->au->Prop}(X:K.In h)(L:XLook K C)(f:h.get? a=some o)(i:o.cls=.ref C)(n:R (.ok (.ret (.ref C))) ⟨h,g,d,t,os⟩) :
  codeAny (model prog w) A (.call (.builtin "getset_descriptor.__get__") ⟨[.builtin "object.__class__",.ref a,.ref C],[]⟩) R ⟨h,g,d,t,os⟩:=by
 obtain⟨j,N,nm,q,bs,hdct,sn,sub,ab,col,dd,k0,k1,k2,k3,k5,mN,l,p,m,T,_⟩:=zAN X L.exc
 have c:(⟨h,g,d,t,os⟩:au).TypeIs (.builtin "object.__class__") "getset_descriptor" :=fQ
 have e:(Value.ref C::j).contains (.type (".".intercalate ("object.__class__".cutAt '.').dropLast))=true:=by
  rw[PySem.F.owner_object_class,ke,T.hasType (X :="object") (b:=true) (by decide)];rfl
 refine mO ji.plain PySem.F.entry_gs_get (ji.check _ _ _ _ _ _ _ _ c (PySem.F.args_gs_get _ _ _) ?_)
 repeat(any_goals (first|assumption|(with_reducible refine dR f ?_;rw[i])|(with_reducible refine gu l ?_;rw[e])|wp_step))
 refine⟨Code.quiet_builtin _ (by decide+kernel),mf PySem.F.entry_object_class ?_⟩
 repeat(any_goals (first|assumption|(with_reducible refine dR f ?_;rw[i])|wp_step))
theorem zOa {e:Tok}{Q:mS->au->Prop}(X:K.In h)(L:XLook K C)(b:h.get? a=some o)(c:o.cls=.ref C)(i:Q (.done (.ret (.ref C))) ⟨h,g,d,t,os⟩) :
  wpAny (model prog w) A (dX.«object.__getattribute__» ⟨[.ref a,.str "__class__" e],[]⟩) Q E ⟨h,g,d,t,os⟩:=by
 have f:(⟨h,g,d,t,os⟩:au).TypeIs (.builtin "object.__class__") "getset_descriptor" :=fQ
 have j:=fQ
 have l:=ji.lookup
 have m:=PySem.F.slot_gs_set.lookup
 repeat(any_goals (first|assumption|(with_reducible refine dR b ?_;rw[c])|with_reducible refine zEp X L.cl ?_|wp_step))
 refine zOZ X L b c ?_
 repeat(any_goals (first|assumption|wp_step))
theorem zOb {e:Tok}{fill expr:Bool}{Q:ah->au->Prop}(X:K.In h)(L:XLook K C)(b:h.get? a=some o)(c:o.cls=.ref C)(f:Q (.ref C) ⟨h,g,d,t,os⟩) :
  wpAny (model prog w) A (getAttrBy (.ref a) (.str "__class__" e) fill expr) Q E ⟨h,g,d,t,os⟩:=by
 have i:=lJ.ga.bind (.ref a)
 have hx0:(expr&&onTheHeap (Value.builtin "BaseException.__getattribute__"))=false:=by cases expr<;>rfl
 have hx2:(Value.builtin "BaseException.__getattribute__"==Value.builtin "object.__getattribute__")=false:=by decide+kernel
 have hx1:(onTheHeap (Value.ref C)&&Value.builtin "BaseException.__getattribute__"==Value.builtin "object.__getattribute__")=false:=by rw[hx2];rfl
 repeat(any_goals (first|assumption|(with_reducible refine dR b ?_;rw[c])|with_reducible refine zEp X L.ga ?_|with_reducible refine zEp X L.gn ?_|wp_step))
 refine mO lJ.ga.plain PySem.F.entry_bexc_ga (zOY X L b c (zOa X L b c ?_))
 repeat(any_goals (first|assumption|wp_step))
theorem zOc {Q:Option ah->au->Prop}(X:K.In h)(L:XLook K C)(b:h.get? a=some o)(c:o.cls=.ref C)(e:Q (some (.ref C)) ⟨h,g,d,t+1,os⟩) :
  wpAny (model prog w) A (getAttr? (.ref a) "__class__") Q E ⟨h,g,d,t,os⟩:=by
 unfold getAttr? getAttrBy?
 repeat(any_goals (first|assumption|with_reducible apply zOb X L b c|wp_step))
end
theorem zIM {K:ae}{e C:ai}(L:XLook K C):PySem.W.KitX K (.ref e) (.ref C) (fun h=>∃a vs,h.get? e=some a/\a.cls=.ref C/\a.data=.fields vs) where
 ty:=fun M h X ⟨a,vs,f,i,o⟩=>by
  intro A Q E s k b
  obtain⟨p,g,d,t,os⟩:=s
  have j:=k _ _ f
  repeat(first|(with_reducible refine dR j ?_;rw[i])|wp_step)
  exact b
 it:=fun M h X _=>by
  obtain⟨r,N,nm,q,bs,hdct,sn,sub,ab,col,dd,k0,k1,k2,k3,k5,mN,l,u,m,T,_⟩:=zAN X L.exc
  intro A Q E s k b
  unfold isType loadHead
  exact ao (wpAny_loadPart (k _ _ l) (bf b))
 ne:=fun h v dd x n F X c=>by
  obtain⟨r,N,nm,q,bs,hdct,sn,sub,ab,col,y,k0,k1,k2,k3,k5,mN,l,u,m,T,_⟩:=zAN X L.exc
  refine nY.mpr fun z=>?_
  have B:C=v:=sQ (beq_iff_eq.mp z)
  subst B
  rw[l]at c
  have D:Value.type "type"=Value.type "tuple" :=congrArg Obj.cls (aw c)
  exact absurd (sO D) (by decide)
 ca:=fun{prog w A E Q s} X ⟨a,vs,f,i,o⟩ b=>by
  obtain⟨p,g,d,t,os⟩:=s
  exact zOc X L f i b
section
variable{X:Cx}
theorem gC:uV X (.builtin "isinstance") (fun xs H Q=>∃e C c b,xs=[.ref e,c]/\H e=some (XO e C)/\XLook X.K C/\((∃D,c=.ref D/\bx X.K (.ref C) (.ref D)=some b)\/(∃T,c=.ty T/\bx X.K (.ref C) (.type T)=some b))/\Q (.bl b) H):=by
 intro f s σ H xs us Q I r h
 obtain⟨e,C,c,b,rfl,i,L,j,q⟩:=h
 obtain⟨u,m,rfl,l,g⟩:=zAi r
 cases l
 obtain⟨p,_,_⟩:=I.hok e _ i
 rcases j with⟨D,rfl,a⟩|⟨T,rfl,a⟩
 ·cases g
  exact cQ (zIM L) I.kIn p a (fun z=>nomatch z) fun d=>⟨.bl b,H,I.tok d,rfl,q⟩
 ·cases g
  exact cQ (zIM L) I.kIn p a (fun z=>nomatch z) fun d=>⟨.bl b,H,I.tok d,rfl,q⟩
theorem zIN (a b:Bool):rB (.bool a) (.bool b) (a==b):=fun prog w A E s Q h=>iW a b prog w _ _ h
theorem zIO {bs:List Bool}:∀{us:List ah},zS (bs.map V.bl) us->us=bs.map Value.bool:=by
 induction bs with
 |nil=>intro us r;cases r;rfl
 |cons b bs ih=>
  intro us r
  rw[ba]at r
  cases r with
  |cons a c=>rw[ba,<-ih c,(show _=Value.bool b from a)]
def isB (b:Bool):ah->Bool
 | .bool a=>a==b
 |_=>false
theorem zOd:MtM X "list.count" (fun x vs H Q=>∃(l:ai) (bs:List Bool) (b:Bool),x=.ref l/\vs=[.bl b]/\H l=some (.lst (bs.map V.bl))/\Q (.int (bs.count b:Nat)) H):=by
 intro c s σ H x vs v us Q I d f h
 obtain⟨l,bs,b,rfl,rfl,g,q⟩:=h
 cases d
 obtain⟨u,rfl,i⟩:=f.one
 cases i
 obtain⟨z,j,n,r,hl,e⟩:=I.lstM g
 have hi:=zIO r
 subst hi
 refine fU lK ⟨_,e,rfl⟩ PySem.F.entry_list_count (PySem.F.args_list_count_2 _ _) (MeetsSeq.list_count l _ n _ (isB b) (fun y m=>?_)) ⟨e,?_⟩
 ·obtain⟨a,_,rfl⟩:=aX.mp (by simpa using m:y∈bs.map Value.bool)
  exact zIN a b
 ·refine⟨.int (bs.count b:Nat),H,I.tok _,⟨s.toks,?_⟩,q⟩
  have:(bs.map Value.bool).countP (isB b)=bs.count b:=by
   rw[List.countP_map,ik]
   rfl
  simp only[List.toList_toArray,this]
theorem zOe:MtM X "list.index" (fun x vs H Q=>∃(l:ai) (bs:List Bool) (b:Bool) (j:Nat),x=.ref l/\vs=[.bl b]/\H l=some (.lst (bs.map V.bl))/\bs[j]?=some b/\(∀i,i<j->bs[i]?≠some b)/\j<1000/\Q (.int (j:Nat)) H):=by
 intro o s σ H x vs v us Q I t w h
 obtain⟨l,bs,b,j,rfl,rfl,A,p,c,J,q⟩:=h
 cases t
 obtain⟨u,rfl,B⟩:=w.one
 cases B
 obtain⟨z,C,n,r,hl,e⟩:=I.lstM A
 have hi:=zIO r
 subst hi
 have d:j<bs.length:=(aa.mp p).1
 refine fU lL ⟨_,e,rfl⟩ PySem.F.entry_list_index (PySem.F.args_list_index_2 _ _) (MeetsSeq.list_index l _ n _ (isB b) (fun y D=>?_) j (by simpa using d) (by omega) ?_ (fun m E f=>?_)) ⟨e,?_⟩
 ·obtain⟨a,_,rfl⟩:=aX.mp (by simpa using D:y∈bs.map Value.bool)
  exact zIN a b
 ·have:=(aa.mp p).2
  simp[isB,this]
 ·have g:m<bs.length:=by simpa using E
  have:=c m f
  rw[ax g]at this
  have G:bs[m]≠b:=fun z=>this (by rw[z])
  simp[isB,G]
 ·exact⟨.int (j:Nat),H,I.tok _,⟨_,rfl⟩,q⟩
end
end L2
end
section
namespace Kn
open PySem L2
mutual
def yF (H:Hp):bW->V->Prop
 | .none,v=>v=.non
 | .bool b,v=>v=.bl b
 | .int i,v=>v=.int i
 | .str x,v=>v=.str x
 | .list ds,v=>∃a xs,v=.ref a/\H a=some (.lst xs)/\Thgs H ds xs
 | .tuple ds,v=>∃a xs,v=.ref a/\H a=some (.tup xs)/\Thgs H ds xs
 | .dict _,_=>False
def Thgs (H:Hp):List bW->List V->Prop
 | [],xs=>xs=[]
 |d::ds,xs=>∃y ys,xs=y::ys/\yF H d y/\Thgs H ds ys
end
mutual
theorem yF.same {H H':Hp}(e:zA H H'):∀(d:bW) (v:V),yF H d v->yF H' d v
 | .none,v,h=>h
 | .bool b,v,h=>h
 | .int i,v,h=>h
 | .str x,v,h=>h
 | .list ds,v,h=>by
  obtain⟨a,xs,c,f,g⟩:=h
  exact⟨a,xs,c,e _ _ f,Thgs.same e ds xs g⟩
 | .tuple ds,v,h=>by
  obtain⟨a,xs,c,f,g⟩:=h
  exact⟨a,xs,c,e _ _ f,Thgs.same e ds xs g⟩
 | .dict _,v,h=>h
theorem Thgs.same {H H':Hp}(e:zA H H'):∀(ds:List bW) (xs:List V),Thgs H ds xs->Thgs H' ds xs
 | [],xs,h=>h
 |d::ds,xs,h=>by
  obtain⟨y,ys,a,b,c⟩:=h
  exact⟨y,ys,a,yF.same e d y b,Thgs.same e ds ys c⟩
end
theorem Thgs.length {H:Hp}:∀{ds:List bW}{xs:List V},Thgs H ds xs->ds.length=xs.length
 | [],xs,h=>by rw[show xs=[]from h];rfl
 |d::ds,xs,h=>by
  obtain⟨y,ys,a,_,b⟩:=h
  rw[a,bJ,bJ,Thgs.length b]
theorem Thgs.get {H:Hp}:∀{ds:List bW}{xs:List V}{i:Nat}{y:V},Thgs H ds xs->xs[i]?=some y->∃d,ds[i]?=some d/\yF H d y
 | [],xs,i,y,h,e=>by rw[show xs=[]from h]at e;simp at e
 |d::ds,xs,i,y,h,e=>by
  obtain⟨z,j,a,b,c⟩:=h
  subst a
  cases i with
  |zero=>
   have:z=y:=by simpa using e
   subst this
   exact⟨d,rfl,b⟩
  |succ i=>
   obtain⟨d',f,g⟩:=Thgs.get (i:=i) c (by simpa using e)
   exact⟨d',by simpa using f,g⟩
theorem Thgs.strs {H:Hp}:∀(l:List S),Thgs H (l.map fun x=>PyData.str (tx x)) (l.map sv)
 | []=>rfl
 |x::l=>⟨_,_,rfl,rfl,Thgs.strs l⟩
mutual
def sml:bW->Bool
 | .str x=>decide (x.length<=900)&&x.cps.toList.all fun c=>decide (c<128)
 | .list ds=>decide (ds.length<=900)&&smls ds
 | .tuple ds=>decide (ds.length<=900)&&smls ds
 | .dict _=>false
 |_=>true
def smls:List bW->Bool
 | []=>true
 |d::ds=>sml d&&smls ds
end
theorem zEq:∀{ds:List bW}{d:bW},smls ds=true->d∈ds->sml d=true
 |e::ds,d,h,a=>by
  have h':sml e=true/\smls ds=true:=by simpa [smls]using h
  rcases aQ.mp a with z|z
  ·rw[z];exact h'.1
  ·exact zEq h'.2 z
def zBC (c:Nat):Bool:=decide (97<=c)&&decide (c<=122)
def v2:bW->Bool
 | .str x=>(decide (1<=x.length)&&decide (x.length<=8))&&x.cps.toList.all zBC
 |_=>false
def vA:bW->Bool
 | .tuple ds=>(decide (1<=ds.length)&&decide (ds.length<=8))&&ds.all v2
 |_=>false
def uX:bW->Bool
 | .int i=>decide (1<=i)&&decide (i<=3)
 |_=>false
theorem zOf {x:S}(h:vW x):v2 (.str (tx x))=true:=by
 simp only[v2,bz,decide_eq_true_eq,cw,zBC,z8,gB]
 exact⟨⟨h.1,h.2.1⟩,h.2.2⟩
theorem zOg {bk:List S}(h:isBk bk):vA (.tuple (bk.map fun x=>PyData.str (tx x)))=true:=by
 simp only[vA,bz,decide_eq_true_eq,cw,af]
 refine⟨⟨h.lo,h.hi⟩,fun d hd=>?_⟩
 obtain⟨x,a,rfl⟩:=aX.mp hd
 exact zOf (h.nm x a)
structure KitF (K:ae):Prop where
 ns:bx K (.type "NoneType") (.type "str")=some false
 bs:bx K (.type "bool") (.type "str")=some false
 is:bx K (.type "int") (.type "str")=some false
 ls:bx K (.type "list") (.type "str")=some false
 ts:bx K (.type "tuple") (.type "str")=some false
 nt:bx K (.type "NoneType") (.type "tuple")=some false
 bt:bx K (.type "bool") (.type "tuple")=some false
 it:bx K (.type "int") (.type "tuple")=some false
 lt:bx K (.type "list") (.type "tuple")=some false
 st:bx K (.type "str") (.type "tuple")=some false
 ni:bx K (.type "NoneType") (.type "int")=some false
 bi:bx K (.type "bool") (.type "int")=some true
 li:bx K (.type "list") (.type "int")=some false
 ti:bx K (.type "tuple") (.type "int")=some false
 si:bx K (.type "str") (.type "int")=some false
theorem zOh {c:Nat}(h:c<128):(eA letters ⟨#[c]⟩ 0 letters.length 1).isEmpty=!zBC c:=by
 have all:∀d:_root_.Fin 128,(eA letters ⟨#[d.val]⟩ 0 letters.length 1).isEmpty=!zBC d.val:=by decide+kernel
 exact all ⟨c,h⟩
section
variable{P:aP}{w:bc}{K:ae}{mg:Str->Option ah}{base:bK}
theorem zOi (KF:KitF K){H:Hp}:∀{d:bW}{v:V},yF H d v->∃t b,TyOf K H v t/\bx K t (.type "str")=some b/\(b=true↔∃x,d=.str x)
 | .none,v,h=>by cases(show v=.non from h);exact⟨_,_,.non,KF.ns,by simp⟩
 | .bool b,v,h=>by cases(show v=.bl b from h);exact⟨_,_,.bl _,KF.bs,by simp⟩
 | .int i,v,h=>by cases(show v=.int i from h);exact⟨_,_,.int _,KF.is,by simp⟩
 | .str x,v,h=>by cases(show v=.str x from h);exact⟨_,true,.str _,rfl,by simp⟩
 | .list ds,v,h=>by obtain⟨a,xs,rfl,c,_⟩:=h;exact⟨_,_,.lst c,KF.ls,by simp⟩
 | .tuple ds,v,h=>by obtain⟨a,xs,rfl,c,_⟩:=h;exact⟨_,_,.tup c,KF.ts,by simp⟩
 | .dict _,v,h=>h.elim
theorem zOj (KF:KitF K){H:Hp}:∀{d:bW}{v:V},yF H d v->∃t b,TyOf K H v t/\bx K t (.type "tuple")=some b/\(b=true↔∃ds,d=.tuple ds)
 | .none,v,h=>by cases(show v=.non from h);exact⟨_,_,.non,KF.nt,by simp⟩
 | .bool b,v,h=>by cases(show v=.bl b from h);exact⟨_,_,.bl _,KF.bt,by simp⟩
 | .int i,v,h=>by cases(show v=.int i from h);exact⟨_,_,.int _,KF.it,by simp⟩
 | .str x,v,h=>by cases(show v=.str x from h);exact⟨_,_,.str _,KF.st,by simp⟩
 | .list ds,v,h=>by obtain⟨a,xs,rfl,c,_⟩:=h;exact⟨_,_,.lst c,KF.lt,by simp⟩
 | .tuple ds,v,h=>by obtain⟨a,xs,rfl,c,_⟩:=h;exact⟨_,true,.tup c,rfl,by simp⟩
 | .dict _,v,h=>h.elim
def zEr:Sp:=fun vs H Q _=>∃v d,vs=[v]/\yF H d v/\sml d=true/\∀H',zA H H'->Q (.bl (v2 d)) H'
theorem zOk {f:ai}{fd:aO}(F:Fun K "is_name" "is_name" zCH f fd)(B:Blt mg)(C:Cst K mg)(KF:KitF K):FnOk P w K mg base zU 1 f fd ["thing"] zEr:=by
 obtain⟨W,hl⟩:=C.letters
 obtain⟨X,J⟩:=C.ml
 refine F.ok zHH (fun vs H Q E h=>?_) (fun L A outer s H vs Q E Y h=>?_)
 ·obtain⟨v,d,rfl,_⟩:=h;rfl
 ·obtain⟨v,d,rfl,u,G,k⟩:=h
  refine⟨_,zG (yK (PW.pt (jO (vP (vC (zZ u9 (by rfl) B.isinstance aJ (zB (pv 0) (zB (uU (v:=.ty "str") (by rfl) B.str mq rfl) zC)))))
    (jX (vP (zBo qM qM zF (zZ j4 (by rfl) B.len bQ (zB (pv 0) zC)) (v3 (v:=.int 8) (by rfl) J ⟨_,rfl⟩))))))
    (zH (zT v9)) yJ)
   (zH (zT (zZ (gQ rfl) (by rfl) B.all da (zB (vG (N:=["letter"]) (caps:=[]) rfl (yT (by kernel_rfl)) (zGp (pv 0))
    (fun cl C s H ex=>zY (i:=0) nd1 rfl (Or.inl rfl)) (fun cl C s H ex=>vK)
    (fun cl C s H ex=>kQ zFz (pv 0) (v3 (v:=.str letters) (by rfl) hl ⟨_,rfl⟩) (by with_unfolding_all rfl))) zC)))),?_⟩
  obtain⟨t,b,m,g,I⟩:=zOi KF u
  refine⟨_,rfl,_,_,t,b,rfl,m,g,b,rfl,?_⟩
  cases b with
  |false=>
   have hd:v2 d=false:=by
    cases d with
    |str x=>exact absurd (I.mpr ⟨x,rfl⟩) (by decide)
    |_=>rfl
   rw[hd]at k
   exact yL (yL (k H (zA.refl H)))
  |true=>
   obtain⟨x,rfl⟩:=I.mp rfl
   have n:v=.str x:=u
   subst n
   have o:x.length<=900/\∀c∈x.cps.toList,c<128:=by
    simp only[sml,bz,decide_eq_true_eq,cw]at G
    exact G
   refine yI ?_
   refine⟨_,rfl,x,rfl,(by rw[aR];omega),_,_,rfl,rfl,_,rfl,?_⟩
   by_cases p:1<=x.length
   ·refine vY (by omega) ⟨_,_,rfl,rfl,_,rfl,?_⟩
    by_cases q:x.length<=8
    ·refine qW (by omega) ?_
     refine⟨_,rfl,_,rfl,?_⟩
     have M:x.cps.toList.length=x.length:=by simp[nu]
     refine vT (zGr x) [] 1 (by rw[af];omega) (fun i a H'=>zA H H'/\a=((x.cps.toList.take i).map zBC).map V.bl) ⟨zA.refl H,rfl⟩ (fun i a H' _ h=>⟨trivial,by rw[h.2,af,af,aL];omega⟩) ?_ ?_
     ·rintro i y a H' ys Z O j R ⟨l,rfl⟩
      obtain⟨y',rfl⟩:=y0 R
      rw[aF]at j
      cases e:x.cps.toList[i]? with
      |none=>rw[e]at j;cases j
      |some c=>
       rw[e]at j
       have r:y=.str ⟨#[c]⟩:=(aw j).symm
       subst r
       have hi:i<x.cps.toList.length:=(aa.mp e).1
       refine⟨_,rfl,_,_,rfl,rfl,?_⟩
       rw[zOh (o.2 c (aS e)),Bool.not_not]
       refine O _ _ [some (.str ⟨#[c]⟩)] rfl ⟨l,?_⟩
       rw[ak hi,(aa.mp e).2,az,az];rfl
     ·rintro a H' ⟨l,rfl⟩ D T
      rw[af,aV]
      refine⟨D,_,rfl,.of zD,?_⟩
      have U:((x.cps.toList.map zBC).all id)=v2 (.str x):=by
       simp only[v2,decide_eq_true p,decide_eq_true q,dZ,fI,gh]
       rfl
      rw[U]
      exact k _ (l.upd_new (l.free T))
    ·have hd:v2 (.str x)=false:=by simp[v2,q]
     rw[hd]at k
     refine zBW (fun z=>q (by omega)) (k H (zA.refl H))
   ·have hd:v2 (.str x)=false:=by simp[v2,p]
    rw[hd]at k
    refine v4 (fun z=>p (by omega)) ?_
    exact⟨false,rfl,yL (k H (zA.refl H))⟩
def zIP:Sp:=fun vs H Q _=>∃v d,vs=[v]/\yF H d v/\sml d=true/\∀H',zA H H'->Q (.bl (vA d)) H'
theorem zOl {f:ai}{fd:aO}(F:Fun K "is_book" "is_book" zCI f fd)(B:Blt mg)(C:Cst K mg)(KF:KitF K)(j:zQ P w K mg base 1 "is_name" ["thing"] zEr):FnOk P w K mg base zU 2 f fd ["thing"] zIP:=by
 obtain⟨t8,R⟩:=C.mn
 refine F.ok zHJ (fun vs H Q E h=>?_) (fun T A outer s H vs Q E U h=>?_)
 ·obtain⟨v,d,rfl,_⟩:=h;rfl
 ·obtain⟨v,d,rfl,L,M,k⟩:=h
  refine⟨_,zG (yK (PW.pt (jO (vP (vC (zZ u9 (by rfl) B.isinstance aJ (zB (pv 0) (zB (uU (v:=.ty "tuple") (by rfl) B.tuple lF rfl) zC)))))
    (jX (vP (zBo qM qM zF (zZ jE (by rfl) B.len bQ (zB (pv 0) zC)) (v3 (v:=.int 8) (by rfl) R ⟨_,rfl⟩))))))
    (zH (zT v9)) yJ)
   (zH (zT (zZ (gQ rfl) (by rfl) B.all da (zB (vG (N:=["name"]) (caps:=[]) rfl (yT (by kernel_rfl)) (zAd (pv 0))
    (fun cl C s H ex=>zY (i:=0) nd2 rfl (Or.inl rfl)) (fun cl C s H ex=>vK)
    (fun cl C s H ex=>zL j U rfl (zB (pv 0) zC))) zC)))),?_⟩
  obtain⟨t,b,o,l,O⟩:=zOj KF L
  refine⟨_,rfl,_,_,t,b,rfl,o,l,b,rfl,?_⟩
  cases b with
  |false=>
   have hd:vA d=false:=by
    cases d with
    |tuple x=>exact absurd (O.mpr ⟨x,rfl⟩) (by decide)
    |_=>rfl
   rw[hd]at k
   exact yL (yL (k H (zA.refl H)))
  |true=>
   obtain⟨ds,rfl⟩:=O.mp rfl
   obtain⟨a,xs,rfl,p,m⟩:=L
   have q:ds.length<=900/\smls ds=true:=by
    simp only[sml,bz,decide_eq_true_eq]at M
    exact M
   have c:xs.length=ds.length:=m.length.symm
   refine yI ?_
   refine⟨_,rfl,_,_,rfl,.inr (.of p),_,_,rfl,rfl,_,rfl,?_⟩
   by_cases r:1<=ds.length
   ·refine vY (by rw[c];omega) ⟨_,_,rfl,rfl,_,rfl,?_⟩
    by_cases u:ds.length<=8
    ·refine qW (by rw[c];omega) ?_
     refine⟨_,rfl,a,rfl,⟨_,.of p⟩,?_⟩
     refine vT (zAp _ a xs) [] 1 (by omega) (fun i g H'=>zA H H'/\g=((ds.take i).map v2).map V.bl) ⟨zA.refl H,rfl⟩ (fun i g H' _ h=>⟨.of (h.1 _ _ p),by rw[h.2,af,af,aL];omega⟩) ?_ ?_
     ·rintro i y g H' ys Nx W X Y ⟨n,rfl⟩
      obtain⟨y',rfl⟩:=y0 Y
      obtain⟨e,G,I⟩:=m.get X
      have hi:i<ds.length:=(aa.mp G).1
      refine⟨_,rfl,y,e,rfl,yF.same n _ _ I,zEq q.2 (aS G),fun H5 J=>W _ _ [some y] rfl ⟨n.trans J,?_⟩⟩
      rw[ak hi,(aa.mp G).2,az,az];rfl
     ·rintro g H' ⟨n,rfl⟩ D Z
      rw[c,aV]
      refine⟨D,_,rfl,.of zD,?_⟩
      have e2:((ds.map v2).all id)=vA (.tuple ds):=by
       simp only[vA,decide_eq_true r,decide_eq_true u,dZ,fI,gh]
       rfl
      rw[e2]
      exact k _ (n.upd_new (n.free Z))
    ·have hd:vA (.tuple ds)=false:=by simp[vA,u]
     rw[hd]at k
     refine zBW (fun z=>u (by rw[c]at z;omega)) (k H (zA.refl H))
   ·have hd:vA (.tuple ds)=false:=by simp[vA,r]
    rw[hd]at k
    refine v4 (fun z=>r (by rw[c]at z;omega)) ?_
    exact⟨false,rfl,yL (k H (zA.refl H))⟩
def jK (a b:Int):bW->Bool
 | .int i=>decide (a<=i)&&decide (i<=b)
 |_=>false
theorem zOm (d:bW):uX d=jK 1 3 d:=by
 cases d<;>rfl
def zEs:Sp:=fun vs H Q _=>∃v d a b,vs=[v,.int a,.int b]/\yF H d v/\Q (.bl (jK a b d)) H
theorem zOn {f:ai}{fd:aO}(F:Fun K "is_whole" "is_whole" zBS f fd)(B:Blt mg)(C:Cst K mg)(KF:KitF K):FnOk P w K mg base zU 1 f fd ["thing","least","most"] zEs:=by
 refine F.ok zDz (fun vs H Q E h=>?_) (fun j A outer s H vs Q E l h=>?_)
 ·obtain⟨v,d,a,b,rfl,_⟩:=h;rfl
 ·obtain⟨v,d,a,b,rfl,g,k⟩:=h
  refine⟨_,zG (yK (PW.pt (jO (vP (vC (zZ u9 (by rfl) B.isinstance aJ (zB (pv 0) (zB (uU (v:=.ty "int") (by rfl) B.int iQ rfl) zC)))))
    (jX (vC (zZ u9 (by rfl) B.isinstance aJ (zB (pv 0) (zB (uU (v:=.ty "bool") (by rfl) B.bool fE rfl) zC)))))))
    (zH (zT v9)) yJ)
   (zH (zT (zDK qM qM (pv 1) (pv 0) (pv 2)))),?_⟩
  cases d with
  |none=>cases(show v=.non from g);exact⟨_,rfl,_,_,_,false,rfl,.non,KF.ni,_,rfl,yL (yL k)⟩
  |str x=>cases(show v=.str x from g);exact⟨_,rfl,_,_,_,false,rfl,.str _,KF.si,_,rfl,yL (yL k)⟩
  |list ds=>obtain⟨a,xs,rfl,c,_⟩:=g;exact⟨_,rfl,_,_,_,false,rfl,.lst c,KF.li,_,rfl,yL (yL k)⟩
  |tuple ds=>obtain⟨a,xs,rfl,c,_⟩:=g;exact⟨_,rfl,_,_,_,false,rfl,.tup c,KF.ti,_,rfl,yL (yL k)⟩
  |dict _=>exact g.elim
  |bool b=>
   cases(show v=.bl b from g)
   exact⟨_,rfl,_,_,_,true,rfl,.bl _,KF.bi,_,rfl,yI ⟨_,rfl,_,_,_,true,rfl,.bl _,(by rfl),_,rfl,yL k⟩⟩
  |int i=>
   cases(show v=.int i from g)
   refine⟨_,rfl,_,_,_,true,rfl,.int _,(by rfl),_,rfl,?_⟩
   refine yI ?_
   refine⟨_,rfl,_,_,_,false,rfl,.int _,C.ib,_,rfl,?_⟩
   refine yI ?_
   refine⟨_,rfl,_,rfl,_,_,rfl,rfl,_,rfl,?_⟩
   by_cases c:a<=i
   ·refine vY c ⟨_,rfl,_,_,rfl,rfl,?_⟩
    have e:jK a b (.int i)=decide (i<=b):=by simp[jK,c]
    rw[e]at k
    exact k
   ·have e:jK a b (.int i)=false:=by simp[jK,c]
    rw[e]at k
    exact v4 c k
def zIQ:Sp:=fun vs H Q _=>∃v d,vs=[v]/\yF H d v/\Q (.bl (uX d)) H
theorem zOo {f:ai}{fd:aO}(F:Fun K "is_order" "is_order" zCJ f fd)(C:Cst K mg)(a:zQ P w K mg base 1 "is_whole" ["thing","least","most"] zEs):FnOk P w K mg base zU 2 f fd ["thing"] zIQ:=by
 obtain⟨i,b⟩:=C.mo
 refine F.ok zHM (fun vs H Q E h=>?_) (fun c A outer s H vs Q E e h=>?_)
 ·obtain⟨v,d,rfl,_⟩:=h;rfl
 ·obtain⟨v,d,rfl,g,k⟩:=h
  refine⟨_,zH (zT (zL a e rfl (zB (pv 0) (zB zF (zB (v3 (v:=.int 3) (by rfl) b ⟨_,rfl⟩) zC))))),?_⟩
  rw[zOm]at k
  exact⟨_,rfl,v,d,1,3,rfl,g,k⟩
def zAP (C:ai)(ok:bW->Bool):Sp:=fun vs H Q E=>∃v d,vs=[v]/\yF H d v/\sml d=true/\(ok d=true->∀H',zA H H'->Q .non H')/\(ok d=false->∀H',zA H H'->E (.ref C) none H')
theorem zOp {f:ai}{fd:aO}{C:ai}(F:Fun K "need_book" "need_book" zCL f fd)(O:XCls K mg "NoBook" C)(b:zQ P w K mg base 2 "is_book" ["thing"] zIP):FnOk P w K mg base (vZ P w) 3 f fd ["thing"] (zAP C vA):=by
 refine F.okR zHN (fun vs H Q E h=>?_) (fun c A outer s H vs Q E g h ok=>?_)
 ·obtain⟨v,d,rfl,_⟩:=h;rfl
 ·obtain⟨v,d,rfl,i,j,k1,k2⟩:=h
  refine⟨_,zH (yK (vP (vC (zL b g rfl (zB (pv 0) zC)))) (zH (zEi ok rfl O (by rfl) (zB y9 zC))) yJ),?_⟩
  refine⟨_,rfl,v,d,rfl,i,j,fun H' a=>⟨_,rfl,?_⟩⟩
  cases e:vA d with
  |true=>exact yI (k1 e H' a)
  |false=>exact yL ⟨by show 1<=sizeLine;decide,k2 e H' a⟩
theorem zOq {f:ai}{fd:aO}{C:ai}(F:Fun K "need_order" "need_order" zCN f fd)(O:XCls K mg "NoOrder" C)(a:zQ P w K mg base 2 "is_order" ["thing"] zIQ):FnOk P w K mg base (vZ P w) 3 f fd ["thing"] (zAP C uX):=by
 refine F.okR zHO (fun vs H Q E h=>?_) (fun b A outer s H vs Q E c h ok=>?_)
 ·obtain⟨v,d,rfl,_⟩:=h;rfl
 ·obtain⟨v,d,rfl,g,i,k1,k2⟩:=h
  refine⟨_,zH (yK (vP (vC (zL a c rfl (zB (pv 0) zC)))) (zH (zEi ok rfl O (by rfl) (zB y9 zC))) yJ),?_⟩
  refine⟨_,rfl,v,d,rfl,g,_,rfl,?_⟩
  cases e:uX d with
  |true=>exact yI (k1 e H (zA.refl H))
  |false=>exact yL ⟨by show 1<=sizeLine;decide,k2 e H (zA.refl H)⟩
theorem zOr {f:ai}{fd:aO}{C:ai}(F:Fun K "need_name" "need_name" zCO f fd)(O:XCls K mg "NoName" C)(b:zQ P w K mg base 1 "is_name" ["thing"] zEr):FnOk P w K mg base (vZ P w) 2 f fd ["thing"] (zAP C v2):=by
 refine F.okR zHP (fun vs H Q E h=>?_) (fun c A outer s H vs Q E g h ok=>?_)
 ·obtain⟨v,d,rfl,_⟩:=h;rfl
 ·obtain⟨v,d,rfl,i,j,k1,k2⟩:=h
  refine⟨_,zH (yK (vP (vC (zL b g rfl (zB (pv 0) zC)))) (zH (zEi ok rfl O (by rfl) (zB y9 zC))) yJ),?_⟩
  refine⟨_,rfl,v,d,rfl,i,j,fun H' a=>⟨_,rfl,?_⟩⟩
  cases e:v2 d with
  |true=>exact yI (k1 e H' a)
  |false=>exact yL ⟨by show 1<=sizeLine;decide,k2 e H' a⟩
structure NeedsR (P:aP) (w:bc) (K:ae) (mg:Str->Option ah) (base:bK) (nb no nn:ai):Prop where
 bk:qQ P w K mg base 3 "need_book" ["thing"] (zAP nb vA)
 od:qQ P w K mg base 3 "need_order" ["thing"] (zAP no uX)
 nm:qQ P w K mg base 2 "need_name" ["thing"] (zAP nn v2)
 rows:zQ P w K mg base 3 "counted_rows" ["book","order"] zBU
end
def zEt (K:ae)(cs:List ai)(L:ai):Bool :=
 eN K L zAM "ValueError.__new__"&&cs.all (fun c=>eN K c zAM "ValueError.__new__"&&zBA K c L&& (d6 K (.ref c) "__getattribute__"==some (some (.builtin "BaseException.__getattribute__")))&& (d6 K (.ref c) "__getattr__"==some none)
  && (d6 K (.ref c) "__class__"==some (some (.builtin "object.__class__")))&& (m6 K c (.type "object")==some true)&& (bx K (.ref c) (.type "ValueError")==some true))
 && (bg cs.length).all fun i=>(bg cs.length).all fun j=>bx K (.ref (cs.getD i 0)) (.ref (cs.getD j 0))==some (decide (j=i))
def zIR:List Str:=["NoBook","NoOrder","NoName","NoWish","NoNumber","NotMade","TooShort","Nothing"]
structure ErrX (K:ae) (mg:Str->Option ah) (cs:List ai) (L:ai):Prop where
 len:cs.length=8
 like:XCls K mg "LikeError" L
 at_:∀i,i<8->XCls K mg (zIR.getD i ⟨#[]⟩) (cs.getD i 0)/\XLook K (cs.getD i 0)/\zBA K (cs.getD i 0) L=true/\bx K (.ref (cs.getD i 0)) (.type "ValueError")=some true
 kit:∀i j,i<8->j<8->bx K (.ref (cs.getD i 0)) (.ref (cs.getD j 0))=some (decide (j=i))
theorem zOs {K:ae}{mg:Str->Option ah}{c0 a b c d e f g L:ai}(n:mg "NoBook"=some (.ref c0))(o:mg "NoOrder"=some (.ref a))(p:mg "NoName"=some (.ref b))(q:mg "NoWish"=some (.ref c))(r:mg "NoNumber"=some (.ref d))
  (s:mg "NotMade"=some (.ref e)) (t:mg "TooShort"=some (.ref f)) (u:mg "Nothing"=some (.ref g)) (v:mg "LikeError"=some (.ref L)) (h:zEt K [c0,a,b,c,d,e,f,g] L=true):ErrX K mg [c0,a,b,c,d,e,f,g] L:=by
 unfold zEt at h
 simp only[bz,cw,beq_iff_eq]at h
 obtain⟨⟨w,x⟩,y⟩:=h
 refine⟨rfl,⟨v,w⟩,fun i hi=>?_,fun i j hi z=>y i (bR.mpr hi) j (bR.mpr z)⟩
 have A:([c0,a,b,c,d,e,f,g].getD i 0)∈[c0,a,b,c,d,e,f,g]:=by
  have l:i< [c0,a,b,c,d,e,f,g].length:=hi
  rw[br,ax l]
  exact cD l
 obtain⟨⟨⟨⟨⟨⟨m,B⟩,C⟩,D⟩,E⟩,F⟩,G⟩:=x _ A
 refine⟨⟨?_,m⟩,⟨m,C,D,E,F⟩,B,G⟩
 match i,hi with
 |0,_=>exact n
 |1,_=>exact o
 |2,_=>exact p
 |3,_=>exact q
 |4,_=>exact r
 |5,_=>exact s
 |6,_=>exact t
 |7,_=>exact u
theorem zOt {K:ae}{c0 a b c d e f g L:ai}(i:bq K mainGlobals "NoBook"=some (some (.ref c0)))(j:bq K mainGlobals "NoOrder"=some (some (.ref a)))(l:bq K mainGlobals "NoName"=some (some (.ref b)))(m:bq K mainGlobals "NoWish"=some (some (.ref c)))
  (n:bq K mainGlobals "NoNumber"=some (some (.ref d))) (o:bq K mainGlobals "NotMade"=some (some (.ref e))) (p:bq K mainGlobals "TooShort"=some (some (.ref f))) (q:bq K mainGlobals "Nothing"=some (some (.ref g))) (r:bq K mainGlobals "LikeError"=some (some (.ref L)))
  (h:zEt K [c0,a,b,c,d,e,f,g] L=true):∃s L,∀(h:bK) (mg:Str->Option ah),K.In h->h.Ns mainGlobals mg->ErrX K mg s L :=
 ⟨_,_,fun t mg X G=>zOs (cc X G i) (cc X G j) (cc X G l) (cc X G m) (cc X G n) (cc X G o) (cc X G p) (cc X G q) (cc X G r) h⟩
section
variable{P:aP}{w:bc}{K:ae}{mg:Str->Option ah}{base:bK}
def zEu (H:Hp)(p:ai)(j:Nat):Prop:=H p=some (.tup [.str "refused",.int j])
def zEv (cs:List ai):Sp:=fun vs H Q _=>∃(e:ai) (j:Nat),vs=[.ref e]/\j<8/\H e=some (XO e (cs.getD j 0))/\∀p H',zA H H'->H p=none->zEu H' p j->Q (.ref p) H'
abbrev zEw:cJ:=top 63
theorem zIS:FnScope ["_law_e","_law_flags"] ["_law_e"] (defScope zEw):=yC
structure BltE (mg:Str->Option ah):Prop where
 isinstance:mg "isinstance"=none
 ve:mg "ValueError"=none
def kA (j:Nat):List Bool:=[decide (0=j),decide (1=j),decide (2=j),decide (3=j),decide (4=j),decide (5=j),decide (6=j),decide (7=j)]
theorem zOu {j:Nat}(h:j<8):(kA j).count true=1/\(kA j)[j]?=some true/\∀i,i<j->(kA j)[i]?≠some true:=by
 have all:∀d:_root_.Fin 8,(kA d.val).count true=1/\(kA d.val)[d.val]?=some true/\∀i:_root_.Fin 8,i<d->(kA d.val)[i.val]?≠some true:=by decide+kernel
 obtain⟨a,b,c⟩:=all ⟨j,h⟩
 exact⟨a,b,fun i hi=>c ⟨i,by omega⟩ hi⟩
theorem zOv {f:ai}{fd:aO}{a:List ai}{L:ai}(F:Fun K "_law_refused" "_law_refused" zEw f fd)(B:BltE mg)(E:ErrX K mg a L):FnB P w K mg base zU 1 f fd ["_law_e"] (zEv a):=by
 have g:∀i (hi:i<8),mg (zIR.getD i ⟨#[]⟩)=some (.ref (a.getD i 0)):=fun i hi=>(E.at_ i hi).1.bound
 refine F.okB zIS (fun vs H Q E h=>?_) (fun I A outer s H vs Q X Y h=>?_)
 ·obtain⟨e,j,rfl,_⟩:=h;rfl
 ·obtain⟨e,j,rfl,l,b,k⟩:=h
  have nd:=zIS.nd
  refine⟨_,zG (zX (i:=1) nd rfl (Or.inl rfl) (yE (zB (zZ gC (by rfl) B.isinstance aJ (zB (pv 0) (zB (v3 (v:=.ref (a.getD 0 0)) (by rfl) (g 0 (by decide)) rfl) zC)))
    (zB (zZ gC (by rfl) B.isinstance aJ (zB (pv 0) (zB (v3 (v:=.ref (a.getD 1 0)) (by rfl) (g 1 (by decide)) rfl) zC)))
    (zB (zZ gC (by rfl) B.isinstance aJ (zB (pv 0) (zB (v3 (v:=.ref (a.getD 2 0)) (by rfl) (g 2 (by decide)) rfl) zC))) zC)))))
   (zG (zX (i:=1) nd rfl (Or.inl rfl) (zP jR (pv 1) (yE (zB (zZ gC (by rfl) B.isinstance aJ (zB (pv 0) (zB (v3 (v:=.ref (a.getD 3 0)) (by rfl) (g 3 (by decide)) rfl) zC)))
    (zB (zZ gC (by rfl) B.isinstance aJ (zB (pv 0) (zB (v3 (v:=.ref (a.getD 4 0)) (by rfl) (g 4 (by decide)) rfl) zC)))
    (zB (zZ gC (by rfl) B.isinstance aJ (zB (pv 0) (zB (v3 (v:=.ref (a.getD 5 0)) (by rfl) (g 5 (by decide)) rfl) zC))) zC))))))
   (zG (zX (i:=1) nd rfl (Or.inl rfl) (zP jR (pv 1) (yE (zB (zZ gC (by rfl) B.isinstance aJ (zB (pv 0) (zB (v3 (v:=.ref (a.getD 6 0)) (by rfl) (g 6 (by decide)) rfl) zC)))
    (zB (zZ gC (by rfl) B.isinstance aJ (zB (pv 0) (zB (v3 (v:=.ref (a.getD 7 0)) (by rfl) (g 7 (by decide)) rfl) zC))) zC)))))
   (zG (yK (PW.pt (jO (vF zAB (zAE eD lK PySem.F.type_list_count zOd (pv 1) (zB v9 zC)) zF (yY _))
     (jX (vP (vC (zZ gC (by rfl) B.isinstance aJ (zB (pv 0) (zB (uU (v:=.ty "ValueError") (by rfl) B.ve PyProof.Rows.Boot.«ValueError» rfl) zC)))))))) (zH (zT (uL (zB y9 (zB (zAe zAh zF) zC))))) yJ)
   (zH (zT (uL (zB y9 (zB (zAE eD lL PySem.F.type_list_index zOe (pv 1) (zB v9 zC)) zC)))))))),?_⟩
  have kit:∀i,i<8->bx K (.ref (a.getD j 0)) (.ref (a.getD i 0))=some (decide (i=j)):=fun i hi=>E.kit j i l hi
  have c:=(E.at_ j l).2.1
  refine⟨_,rfl,e,_,_,_,rfl,b,c,.inl ⟨_,rfl,kit 0 (by decide)⟩,_,rfl,e,_,_,_,rfl,b,c,.inl ⟨_,rfl,kit 1 (by decide)⟩,_,rfl,e,_,_,_,rfl,b,c,.inl ⟨_,rfl,kit 2 (by decide)⟩,?_⟩
  refine⟨by show 3<=sizeLine;decide,fun J r=>?_⟩
  have m:=zA.upd1 (o:=.lst [V.bl (decide (0=j)),V.bl (decide (1=j)),V.bl (decide (2=j))]) r
  refine⟨_,rfl,_,rfl,e,_,_,_,rfl,m _ _ b,c,.inl ⟨_,rfl,kit 3 (by decide)⟩,_,rfl,e,_,_,_,rfl,m _ _ b,c,.inl ⟨_,rfl,kit 4 (by decide)⟩,_,rfl,e,_,_,_,rfl,m _ _ b,c,.inl ⟨_,rfl,kit 5 (by decide)⟩,?_⟩
  refine⟨by show 3<=sizeLine;decide,fun M t=>?_⟩
  have C:=zA.upd1 (o:=.lst [V.bl (decide (3=j)),V.bl (decide (4=j)),V.bl (decide (5=j))]) t
  refine⟨J,M,_,_,rfl,rfl,C _ _ zD,zD,by show 6<=sizeLine;decide,fun N u=>?_⟩
  have O:=zA.upd1 (o:=.lst ([V.bl (decide (0=j)),V.bl (decide (1=j)),V.bl (decide (2=j))]++[V.bl (decide (3=j)),V.bl (decide (4=j)),V.bl (decide (5=j))])) u
  have x:=(m.trans C).trans O
  refine⟨_,rfl,_,rfl,e,_,_,_,rfl,x _ _ b,c,.inl ⟨_,rfl,kit 6 (by decide)⟩,_,rfl,e,_,_,_,rfl,x _ _ b,c,.inl ⟨_,rfl,kit 7 (by decide)⟩,?_⟩
  refine⟨by show 2<=sizeLine;decide,fun R y=>?_⟩
  have D:=zA.upd1 (o:=.lst [V.bl (decide (6=j)),V.bl (decide (7=j))]) y
  refine⟨N,R,_,_,rfl,rfl,D _ _ zD,zD,by show 8<=sizeLine;decide,fun n z=>?_⟩
  have T:=zA.upd1 (o:=.lst ((kA j).map V.bl)) z
  have p:=(x.trans D).trans T
  obtain⟨f1,f2,U⟩:=zOu l
  have q:∀{G:Hp},upd G n (.lst ([V.bl (decide (0=j)),V.bl (decide (1=j)),V.bl (decide (2=j))]++[V.bl (decide (3=j)),V.bl (decide (4=j)),V.bl (decide (5=j))]++[V.bl (decide (6=j)),V.bl (decide (7=j))])) n=some (.lst ((kA j).map V.bl)):=fun{G}=>by rw[zD];rfl
  refine⟨_,rfl,.inl ⟨rfl,_,.of q⟩,n,kA j,true,rfl,rfl,q,rfl,_,rfl,qW (by rw[f1];rfl) ?_⟩
  refine⟨_,rfl,e,_,_,true,rfl,p _ _ b,c,.inr ⟨_,rfl,(E.at_ j l).2.2.2⟩,true,rfl,yI ?_⟩
  refine⟨_,rfl,.inl ⟨rfl,_,.of q⟩,n,kA j,true,j,rfl,rfl,q,f2,U,by omega,by show 2<=sizeLine;decide,fun W d=>?_⟩
  exact k W _ (p.upd_new (p.free d)) (p.free d) zD
end
end Kn
end
section
namespace L2
open PySem PySem.Spec PyProof.Rows
theorem FnOk.calm {P:aP}{w:bc}{K:ae}{mg:Str->Option ah}{base:bK}{k:Nat}{f:ai}{fd:aO}{a:List Str}{sp sp':Sp}(F:FnOk P w K mg base (vZ P w) k f fd a sp)
  (h:∀vs H Q E,sp' vs H Q E->sp vs H Q (fun _ _ _=>False)):FnOk P w K mg base zU k f fd a sp':=by
 refine⟨fun vs H Q E q=>F.len vs H Q _ (h _ _ _ _ q),fun A outer s H args us vs Q E b d g i j=>?_⟩
 refine iy (F.run A outer s H args us vs Q (fun _ _ _=>False) b d g i (h _ _ _ _ j)) fun res s' c=>?_
 cases res with
 |error e=>
  obtain⟨_,_,_,_,_,_,_,z⟩:=c
  exact z.elim
 |ok l=>cases l<;>exact c
end L2
end
section
namespace Kn
open PySem L2
section
variable{P:aP}{w:bc}{K:ae}{mg:Str->Option ah}{base:bK}
abbrev zCc:cJ:=top 57
theorem zCd:FnScope ["_law_book_here","_law_order","_law_found","_law_name_here","_law_size","_law_end","_law_letter"] ["_law_book_here","_law_order"] (defScope zCc):=yC
theorem zCe (t:S)(o n:Nat)(a:1<=o)(b:1<=n)(hl:t.length=n):vS (tx t) (some (0- (if(n:Int)<(o:Int)then(n:Int)else(o:Int)))) none=tx (zO t o):=by
 by_cases h:n<o
 ·rw[if_pos (by omega)]
  have e:(0:Int)- (n:Int)=-(n:Int):=by omega
  rw[e,zDv t n b,zGt (by omega),zGt (by omega)]
 ·rw[if_neg (by omega)]
  have e:(0:Int)- (o:Int)=-(o:Int):=by omega
  rw[e,zDv t o a]
theorem zCf {o:Nat}{t:S}{j:Nat}(h:j<t.length+1):(zM o t)[j]?=some (zO (t.take j) o,(t.drop j).take 1):=by
 unfold zM
 rw[aF,cy h];rfl
theorem gZ (o:Nat)(t:S):(zM o t).length=t.length+1:=by unfold zM;rw[af,bh]
theorem zOw {f:ai}{fd:aO}(F:Fun K "_law_counts" "_law_counts" zCc f fd)(B:Blt mg):FnOk P w K mg base zU 1 f fd ["_law_book_here","_law_order"] zBU:=by
 refine F.ok zCd (fun vs H Q E h=>?_) (fun a1 A outer s H vs Q E hr h=>?_)
 ·obtain⟨a,bk,o,rfl,_⟩:=h;rfl
 ·obtain⟨a,bk,o,rfl,ha,a2,ab,ho,k⟩:=h
  have Y:=jT hr
  have nd:=zCd.nd
  refine⟨_,zG (zX (i:=2) nd rfl (Or.inl rfl) kU)
   (zG (uA bI rfl (zAd (pv 0)) (zY (i:=3) nd rfl (Or.inl rfl))
    (zH (uA bI rfl (qF rfl B.range (zB (zP vD (zZ j4 (by rfl) B.len bQ (zB (pv 3) zC)) zF) zC)) (zY (i:=4) nd rfl (Or.inl rfl))
     (zG (zX (i:=5) nd rfl (Or.inl rfl) (g9 (vF zAC (pv 4) zF (yY _)) (qG (qG (pv 3) qN (vX (pv 4))) (vX (zP zAg zF (zZ (zBp rfl) (by rfl) B.min fJ (zB (pv 1) (zB (pv 4) zC))))) qN) y9))
     (zG (zX (i:=6) nd rfl (Or.inl rfl) (qG (pv 3) (vX (pv 4)) (vX (zP vD (pv 4) zF))))
     (zG (yK (zBL (zDW Y (pv 5) (pv 2))) (zH (zBO Y (pv 2) (pv 5) kU rfl)) yJ)
     (zH (zBO Y (zAG Y (pv 2) (pv 5) (fun _ _=>rfl)) (pv 6) (zP vD (gO Y (zAG Y (pv 2) (pv 5) (fun _ _=>rfl)) (pv 6) zF ⟨rfl,rfl,rfl,rfl⟩) zF) rfl))))))))
   (zH (zT (pv 2)))),?_⟩
  intro d hd
  have s1:zA H (upd H d (.dK [])):=zA.upd1 hd
  refine⟨_,rfl,a,rfl,⟨_,.of (s1 _ _ ha)⟩,?_⟩
  refine uG (zAp K a (zR bk)) (fun i σ H'=>(∃x y z u:Option V,σ=[some (.ref a),some (.int o),some (.ref d),x,y,z,u])/\zA H H'/\∃M,RA H H' d (zJ o (bk.take i)) M)
   ⟨⟨_,_,_,_,rfl⟩,s1,[],⟨rfl,zD,by simp,by simp,by simp⟩⟩ (fun i σ H' _ h=>.of (h.2.1 _ _ ha)) ?_ ?_
  ·rintro i x σ H' Nx hN N ⟨⟨x1,x2,x3,x4,rfl⟩,sm,M,R⟩
   rw[zR,aF]at N
   cases e:bk[i]? with
   |none=>rw[e]at N;cases N
   |some nm=>
   rw[e]at N
   have ay:x=sv nm:=(aw N).symm
   subst ay
   have a3:=ab nm (aS e)
   have hi:i<bk.length:=(aa.mp e).1
   have O:bk.take (i+1)=bk.take i++[nm]:=by
    rw[ak hi]
    have:=(aa.mp e).2
    rw[this]
   have m:zJ o (bk.take (i+1))=zJ o (bk.take i)++zM o nm:=by
    rw[O,zDr];simp[zJ]
   have aA:((zJ o (bk.take (i+1))).length:Int)<=100:=by
    rw[zCE]
    have go:∀l:List S,(∀x∈l,x.length<=8)->(l.map fun x=>(x.length:Int)+1).sum<=9*(l.length:Int):=by
     intro l
     induction l with
     |nil=>intro _;simp
     |cons x r ih=>
      intro hl
      have h1:=hl x (ar ..)
      have h2:=ih fun y hy=>hl y (aG _ hy)
      rw[ba,dD,bJ]
      have:((r.length+1:Nat):Int)=(r.length:Int)+1:=rfl
      omega
    have:=go (bk.take (i+1)) fun x N=>ab x (dk N)
    have h3:(bk.take (i+1)).length<=8:=by rw[aL];omega
    omega
   refine⟨_,rfl,tx nm,rfl,by rw[z8,aR];omega,_,_,rfl,rfl,_,rfl,by rw[z8];omega,by rw[z8];omega,?_⟩
   have ac:(((tx nm).length:Int)+1).toNat=nm.length+1:=by rw[z8];omega
   refine uG (qA 0 _) (fun j σ G=>(∃y z u:Option V,σ=[some (.ref a),some (.int o),some (.ref d),some (sv nm),y,z,u])/\zA H G/\∃M,RA H G d (zJ o (bk.take i)++(zM o nm).take j) M)
    ⟨⟨_,_,_,rfl⟩,sm,M,by simpa using R⟩ (fun _ _ _ _ _=>trivial) ?_ ?_
   ·rintro j x σ G aj al hx2 ⟨⟨y,z,u,rfl⟩,t,b,R2⟩
    rw[ac]at hx2
    obtain⟨hj,rfl⟩:=qH hx2
    have ep:=zCf (o:=o) hj
    generalize hp:((zO (nm.take j) o,(nm.drop j).take 1):S×S)=p at ep
    have am:zO (nm.take j) o=p.1:=by rw[<-hp]
    have aB:(nm.drop j).take 1=p.2:=by rw[<-hp]
    have aC:j<(zM o nm).length:=by rw[gZ];exact hj
    have T:zJ o (bk.take i)++(zM o nm).take (j+1)=(zJ o (bk.take i)++(zM o nm).take j)++[p]:=by
     rw[ak aC,(aa.mp ep).2,fK]
    generalize aD:zJ o (bk.take i)++(zM o nm).take j=ps at R2 T
    have a4:ps.length<=100:=by
     have h1:ps.length<=(zJ o (bk.take (i+1))).length:=by
      rw[<-aD,m,aq,aq,aL];omega
     omega
    have a0:b.length<=100:=by
     have h1:=(zCQ ps).1
     rw[<-R2.rows,af]at h1
     omega
    refine⟨_,rfl,_,_,rfl,rfl,_,rfl,?_⟩
    refine' (fun(cont:∀q:V,q=sv p.1->(_:V->Prop) q)=>?main) ?cont
    case main=>
     by_cases h0:0<j
     ·refine vY (by omega) ?_
      refine⟨_,rfl,_,rfl,_,rfl,tx nm,rfl,by rw[z8,aR];omega,_,rfl,_,rfl,_,_,rfl,_,_,rfl,rfl,_,rfl,_,rfl,?_,?_⟩
      ·rw[zAI,z8,aR,aL];omega
      ·have ec:vS (vS (tx nm) none (some (j:Int))) (some (0- (if(j:Int)<(o:Int)then(j:Int)else(o:Int)))) none=tx p.1:=by
        rw[zAI,zCe (nm.take j) o j ho h0 (by rw[aL];omega),am]
       have ev:V.str (vS (vS (tx nm) none (some (j:Int))) (some (0- (if(j:Int)<(o:Int)then(j:Int)else(o:Int)))) none)=sv p.1:=congrArg V.str ec
       revert ev
       generalize V.str (vS (vS (tx nm) none (some (j:Int))) (some (0- (if(j:Int)<(o:Int)then(j:Int)else(o:Int)))) none)=q
       intro ev
       exact cont q ev
     ·have aE:j=0:=by omega
      subst aE
      refine v4 (by omega) ?_
      have n:p.1=[]:=by rw[<-am];simp[zO]
      have ev:V.str ""=sv p.1:=by rw[n];rfl
      revert ev
      generalize V.str ""=q
      intro ev
      exact cont q ev
    case cont=>
     intro q hq
     subst hq
     refine⟨_,rfl,_,rfl,_,rfl,_,rfl,_,_,rfl,rfl,_,rfl,tx nm,rfl,by rw[z8,aR];omega,?_⟩
     have an:vS (tx nm) (some (j:Int)) (some ((j:Int)+1))=tx p.2:=by rw[zBQ,aB]
     rw[an]
     refine⟨_,rfl,_,rfl,d,_,rfl,vR.k (k:=Sum.inr (tx p.1)) R2.top,_,rfl,?_⟩
     rw[qB]
     have fin:∀(ad:ai) (row:List (S×Int)) (Z:Hp) (U:List (z0×V)),Z d=some (.dK U)->yU U (Sum.inr (tx p.1))=some (.ref ad)->Z ad=some (.dK (yG row))->(row.map (·.1)).Nodup->row.length<=100->(∀H4,H4=upd Z ad (.dK (yG (vV row p.2)))->aj [some (.ref a),some (.int o),some (.ref d),some (sv nm),some (.int j),some (sv p.1),some (sv p.2)] H4)->
       zBv (zAl (v8 2) (v8 5)) (v8 6) (gK (jY fun i j=>V.int (i+j)) (zBw (zAl (v8 2) (v8 5)) (v8 6) (tC (.int 0))) (tC (.int 1))) {nx:=aj,rt:=Q,bk:=fun _ _=>False,ct:=fun _ _=>False} [some (.ref a),some (.int o),some (.ref d),some (sv nm),some (.int j),some (sv p.1),some (sv p.2)] Z:=by
      intro ad row Z U ap as C aK a5 hq
      have dg:vR Z d (sv p.1) (some (.ref ad)):=by
       have:=vR.k (k:=Sum.inr (tx p.1)) ap
       rw[as]at this
       exact this
      refine⟨_,rfl,_,rfl,d,_,rfl,dg,ad,rfl,.inl ⟨_,.inl C⟩,_,rfl,_,vR.k (k:=Sum.inr (tx p.2)) C,(zV row p.2).getD 0,1,?_,rfl,?_⟩
      ·rw[qB]
       cases zV row p.2<;>rfl
      ·refine⟨_,rfl,_,rfl,d,_,rfl,dg,_,rfl,ad,_,rfl,kT.k (k:=Sum.inr (tx p.2)) C (by rw[zAK,aR];omega),hq _ ?_⟩
       rw[zAu V.int row p.2 _ aK]
       rfl
     cases g:zV b p.1 with
     |some v=>
      obtain⟨r1,r2,r3,r4,r5⟩:=zEC R2 g
      refine yI ?_
      refine fin v.1 v.2 G _ R2.top (by rw[qB,g];rfl) r1 r2 (by omega) fun H4 I=>?_
      have RR:RA H H4 d (ps++[p]) (yA b p.1 (v.1,vV v.2 p.2)):=by
       refine R2.step p v.2 (by rw[g];rfl) (fun v' D=>by rw[g]at D;rw[aw D]) (fun hn=>by rw[g]at hn;cases hn) (by rw[I,zD]) ?_ fun r c W=>?_
       ·rw[I,zN r5.symm,R2.top]
        have:=zEB (fun v:ai×List (S×Int)=>V.ref v.1) b p.1 (v.1,vV v.2 p.2) v g rfl
        rw[this]
       ·rw[I,zN W];exact R2.row r c
      refine al _ _ ⟨⟨_,_,_,rfl⟩,?_,_,by rw[T];exact RR⟩
      rw[I]
      exact t.upd_new r4
     |none=>
      refine yL ?_
      intro n J
      have L:H n=none:=t.free J
      have X:d≠n:=vJ R2.top J
      have s3:zA G (upd G n (.dK [])):=zA.upd1 J
      have hx3:upd G n (.dK []) d=some (.dK (vN (fun v:ai×List (S×Int)=>V.ref v.1) b)):=s3 _ _ R2.top
      have aN:∀r∈b,r.2.1≠n:=fun r c=>vJ (R2.row r c) J
      refine⟨_,rfl,_,rfl,d,_,rfl,kT.k (k:=Sum.inr (tx p.1)) hx3 (by rw[zAK,aR];omega),?_⟩
      have av:=zAu (fun v:ai×List (S×Int)=>V.ref v.1) b p.1 (n,[]) (zBV R2)
      have aW:upd (upd G n (.dK [])) d (.dK (uJ (vN (fun v:ai×List (S×Int)=>V.ref v.1) b) (Sum.inr (tx p.1)) (.ref n))) n=some (.dK (yG [])):=by
       rw[zN X.symm,zD];rfl
      refine fin n [] _ _ zD (by rw[zGV,if_pos rfl]) aW (by simp) (by simp) fun H4 I=>?_
      have RR:RA H H4 d (ps++[p]) (yA b p.1 (n,vV [] p.2)):=by
       refine R2.step p [] (by rw[g];rfl) (fun v' D=>by rw[g]at D;cases D) (fun _=>⟨L,X.symm,fun hm=>?_⟩) (by rw[I,zD]) ?_ fun r c W=>?_
       ·obtain⟨r,c,e⟩:=aX.mp hm
        exact aN r c e
       ·rw[I,zN X,zD,av]
        congr 2
        have hk:p.1∉b.map (·.1):=zCC.mp g
        rw[zAL _ _ _ hk,zAL _ _ _ hk]
        unfold vN gP
        rw[az,az,az,az]
        rfl
       ·rw[I,zN W,zN (R2.new r c).2];exact s3 _ _ (R2.row r c)
      refine al _ _ ⟨⟨_,_,_,rfl⟩,?_,_,by rw[T];exact RR⟩
      rw[I]
      exact((t.trans s3).upd_new hd).upd_new L
   ·rintro σ G ⟨⟨y,z,u,rfl⟩,t,b,R2⟩
    refine hN _ _ ⟨⟨_,_,_,_,rfl⟩,t,b,?_⟩
    rw[m]
    rw[af,bh,ac,<-gZ o nm,aV]at R2
    exact R2
  ·rintro σ H' ⟨⟨x1,x2,x3,x4,rfl⟩,sm,M,R⟩
   refine⟨_,rfl,k d H' sm hd ⟨M,?_,R.top,R.row⟩⟩
   rw[R.rows]
   have:(zR bk).length=bk.length:=by simp[zR]
   rw[this,aV]
abbrev zCg:cJ:=top 58
theorem zCh:FnScope ["_law_book_here","_law_order","_law_text","_law_end"] ["_law_book_here","_law_order","_law_text"] (defScope zCg):=yC
def zEx:Sp:=fun vs H Q _=>∃(a:ai) (bk:List S) (o:Nat) (x:S),vs=[.ref a,.int o,sv x]/\H a=some (.tup (zR bk))/\bk.length<=8/\(∀y∈bk,y.length<=8)/\1<=o/\x.length<=64/\∀ra H',zA H H'->H' ra=some (.dK (yG (yO (zJ o bk) (zO x o))))->Q (.ref ra) H'
theorem zOx {f:ai}{fd:aO}(F:Fun K "_law_row" "_law_row" zCg f fd)(B:Blt mg)(G:zQ P w K mg base 1 "_law_counts" ["_law_book_here","_law_order"] zBU):FnOk P w K mg base zU 2 f fd ["_law_book_here","_law_order","_law_text"] zEx:=by
 refine F.ok zCh (fun vs H Q E h=>?_) (fun I A outer s H vs Q E C h=>?_)
 ·obtain⟨a,bk,o,x,rfl,_⟩:=h;rfl
 ·obtain⟨a,bk,o,x,rfl,J,m,n,D,U,k⟩:=h
  have L:=jT C
  have nd:=zCh.nd
  refine⟨_,zG (zX (i:=3) nd rfl (Or.inl rfl) (g9 (vF zAB (pv 2) y9 (yY _)) (qG (pv 2) (vX (zP zAg zF (zZ (zBp rfl) (by rfl) B.min fJ (zB (pv 1) (zB (zZ j4 (by rfl) B.len bQ (zB (pv 2) zC)) zC))))) qN) y9))
   (zH (zT (gO L (zL G C rfl (zB (pv 0) (zB (pv 1) zC))) (pv 3) kU ⟨rfl,rfl,rfl,rfl⟩))),?_⟩
  refine⟨_,rfl,rfl,_,rfl,?_⟩
  refine' (fun(cont:∀q:V,q=sv (zO x o)->(_:V->Prop) q)=>?main) ?cont
  case main=>
   by_cases p:x=[]
   ·subst p
    refine qW rfl ?_
    have ev:V.str ""=sv (zO [] o):=by simp[zO];rfl
    revert ev
    generalize V.str ""=q
    intro ev
    exact cont q ev
   ·have r:¬V.str (tx x)=V.str "" :=fun z=>p (zAs (V.str.inj z))
    have g:1<=x.length:=by
     have:x.length≠0:=fun z=>p (cX.mp z)
     omega
    refine zBW r ?_
    refine⟨_,rfl,_,rfl,_,rfl,tx x,rfl,by rw[z8,aR];omega,_,_,rfl,_,_,rfl,rfl,_,rfl,tx x,rfl,by rw[z8,aR];omega,?_⟩
    have ev:V.str (vS (tx x) (some (0- (if((tx x).length:Int)<(o:Int)then((tx x).length:Int)else(o:Int)))) none)=sv (zO x o):=by
     rw[z8]
     exact congrArg V.str (zCe x o x.length D g rfl)
    revert ev
    generalize V.str (vS (tx x) (some (0- (if((tx x).length:Int)<(o:Int)then((tx x).length:Int)else(o:Int)))) none)=q
    intro ev
    exact cont q ev
  case cont=>
   intro q M
   subst M
   refine⟨_,rfl,_,rfl,a,bk,o,rfl,J,m,n,D,fun d t N hd R=>?_⟩
   obtain⟨kvs,j,O⟩:=R.get (zO x o)
   refine⟨d,rfl,.inl ⟨_,.inl j⟩,_,rfl,fun l u=>?_⟩
   have v:zA t (upd t l (.dK [])):=zA.upd1 u
   obtain⟨e,T,y⟩:∃e,(yU kvs (Sum.inr (tx (zO x o)))).getD (.ref l)=.ref e/\upd t l (.dK []) e=some (.dK (yG (yO (zJ o bk) (zO x o)))):=by
    rcases O with⟨b,c⟩|⟨e,b,c⟩
    ·exact⟨l,by rw[b];rfl,by rw[zD,c];rfl⟩
    ·exact⟨e,by rw[b];rfl,v _ _ c⟩
   refine⟨_,vR.k (k:=Sum.inr (tx (zO x o))) (v _ _ j),?_⟩
   rw[T]
   exact k e _ (N.trans v) y
end
end Kn
end
section
namespace Kn
def Go (ps:List (S×S))(o:Nat)(t:S):Prop:=∀q∈pp o t,q∈ps
instance (ps:List (S×S)) (o:Nat) (t:S):Decidable (Go ps o t):=by unfold Go;infer_instance
def Mk (ps:List (S×S))(o:Nat)(t:S):Prop:=∀q∈zM o t,q∈ps
theorem zOy (a:List (S×S))(o:Nat):Go a o []:=fun q b=>by cases b
theorem zBD {a:List (S×S)}{o:Nat}{t:S}{c:Nat}:Go a o (t++[c])↔Go a o t/\(zO t o,[c])∈a:=by
 unfold Go
 rw[zNM]
 constructor
 ·intro h
  exact⟨fun q b=>h q (bS _ b),h _ (aT _ (eB _))⟩
 ·rintro⟨d,e⟩ q b
  rcases bP.mp b with z|z
  ·exact d q z
  ·have:q=(zO t o,[c]):=by simpa using z
   rw[this];exact e
theorem qY {a:List (S×S)}{o:Nat}{t:S}:Mk a o t↔Go a o t/\(zO t o,[])∈a:=by
 unfold Mk Go
 rw[zHs]
 constructor
 ·intro h
  exact⟨fun q b=>h q (bS _ b),h _ (aT _ (eB _))⟩
 ·rintro⟨c,d⟩ q b
  rcases bP.mp b with z|z
  ·exact c q z
  ·have:q=(zO t o,[]):=by simpa using z
   rw[this];exact d
theorem zOz {a b c:S}(d:¬a<b)(e:¬b<c):¬a<c:=iu.mpr (List.le_trans (iu.mp e) (iu.mp d))
abbrev St2:=(S×Bool)×S
structure FoldM (C:List St2) (R:List St2):Prop where
 nd:(R.map (·.1)).Nodup
 snd:∀p∈R,p∈C
 all:∀p∈C,∃u,(p.1,u)∈R/\¬p.2<u
structure Fst (ps1 ps2:List (S×S)) (o n:Nat) (F:List St2):Prop where
 nd:(F.map (·.1)).Nodup
 snd:∀p∈F,p.2.length=n/\Go ps2 o p.2/\p.1=(zO p.2 o,decide (Go ps1 o p.2))
 all:∀t,t.length=n->Go ps2 o t->∃u,((zO t o,decide (Go ps1 o t)),u)∈F/\¬t<u
def zIT (ps1:List (S×S))(nx:S->List S)(o:Nat)(p:St2):List St2:=((nx p.1.1).filter fun l=>decide (l≠[])).map fun l=>((zO (p.2++l) o,p.1.2&&decide ((p.1.1,l)∈ps1)),p.2++l)
theorem Fst.step {a b:List (S×S)}{nx:S->List S}{o n:Nat}{F R:List St2}(h:Fst a b o n F)(x:∀e l,l∈nx e↔(e,l)∈b)(C:zEd b)(d:FoldM (F.flatMap (zIT a nx o)) R):Fst a b o (n+1) R:=by
 refine⟨d.nd,fun p D=>?_,fun t f E=>?_⟩
 ·obtain⟨q,G,g⟩:=bY.mp (d.snd p D)
  obtain⟨l,hl,rfl⟩:=aX.mp g
  obtain⟨hl1,hl2⟩:=bF.mp hl
  have hl3:=(x _ _).mp hl1
  obtain⟨c,rfl⟩:=zEb (C _ _ hl3) (of_decide_eq_true hl2)
  obtain⟨H,I,y⟩:=h.snd q G
  have A:q.1.1=zO q.2 o:=by rw[y]
  have J:q.1.2=decide (Go a o q.2):=by rw[y]
  refine⟨by simp[H],zBD.mpr ⟨I,by rw[<-A];exact hl3⟩,?_⟩
  show(_,_)=(_,_)
  congr 1
  rw[A,J]
  by_cases g1:Go a o q.2<;>by_cases g2:(zO q.2 o,[c])∈a<;>simp[g1,g2,zBD]
 ·have i:t≠[]:=fun z=>by rw[z]at f;cases f
  obtain⟨u,c,rfl⟩:=zHt i
  obtain⟨g1,g2⟩:=zBD.mp E
  have j:u.length=n:=by rw[aq,dA]at f;omega
  obtain⟨v,B,m⟩:=h.all u j g1
  obtain⟨k1,k2,k3⟩:=h.snd _ B
  have L:v.length=n:=k1
  have M:zO v o=zO u o:=(congrArg (fun z=>z.1) k3).symm
  have T:decide (Go a o u)=decide (Go a o v):=congrArg (fun z=>z.2) k3
  have N:zO (v++[c]) o=zO (u++[c]) o:=by rw[<-zHr,M,zHr]
  have O:(decide (Go a o u)&&decide ((zO u o,[c])∈a))=decide (Go a o (u++[c])):=by
   by_cases g1:Go a o u<;>by_cases g2:(zO u o,[c])∈a<;>simp[g1,g2,zBD]
  have P:((zO (u++[c]) o,decide (Go a o (u++[c]))),v++[c])∈F.flatMap (zIT a nx o):=by
   refine bY.mpr ⟨_,B,aX.mpr ⟨[c],bF.mpr ⟨(x _ _).mpr g2,by simp⟩,?_⟩⟩
   show((zO (v++[c]) o,_),_)=_
   rw[N]
   show((_,decide (Go a o u)&&decide ((zO u o,[c])∈a)),_)=_
   rw[O]
  obtain⟨w,Q,r⟩:=d.all _ P
  refine⟨w,Q,zOz (fun z=>?_) r⟩
  by_cases e:u=v
  ·subst e;exact gR _ z
  ·have s:v<u:=by
    by_cases q:v<u
    ·exact q
    ·exact absurd (zHF _ _ m q) e
   exact gR _ (zDq (zEe [c] [c] (by omega) s) z)
def alone (ps1 ps2:List (S×S))(k:S×Bool):Bool:=decide ((k.1,[])∈ps2)&&!(k.2&&decide ((k.1,[])∈ps1))
structure Lev (ps:List (S×S)) (o n:Nat) (A:List S):Prop where
 ris:A.Pairwise (· < ·)
 mem:∀t,t∈A↔t.length=n/\Go ps o t
theorem Lev.start (a:List (S×S))(o:Nat):Lev a o 0 [[]]:=by
 refine⟨by simp,fun t=>?_⟩
 constructor
 ·intro h
  have:t=[]:=by simpa using h
  subst this;exact⟨rfl,zOy _ _⟩
 ·rintro⟨h,_⟩
  rw[cX.mp h];exact eB _
theorem Lev.step {d:List (S×S)}{o n:Nat}{A:List S}(h:Lev d o n A)(i:zEd d)(lt:S->List S)(j:∀e,(lt e).Pairwise (· < ·))(g:∀e l,l∈lt e↔l≠[]/\(e,l)∈d) :
  Lev d o (n+1) (A.flatMap fun t=>(lt (zO t o)).map (t++·)):=by
 refine⟨zHw (fun t=>lt (zO t o)) A h.ris (fun a m b p=>by rw[((h.mem a).mp m).1,((h.mem b).mp p).1]) (fun a _=>j _),fun t=>?_⟩
 rw[bY]
 constructor
 ·rintro⟨u,q,r⟩
  obtain⟨l,hl,rfl⟩:=aX.mp r
  obtain⟨g1,g2⟩:=(h.mem u).mp q
  obtain⟨k1,k2⟩:=(g _ l).mp hl
  obtain⟨c,rfl⟩:=zEb (i _ _ k2) k1
  exact⟨by rw[aq,g1];rfl,zBD.mpr ⟨g2,k2⟩⟩
 ·rintro⟨g1,g2⟩
  have f:t≠[]:=fun z=>by rw[z]at g1;cases g1
  obtain⟨u,c,rfl⟩:=zHt f
  obtain⟨g3,s⟩:=zBD.mp g2
  rw[aq,dA]at g1
  exact⟨u,(h.mem u).mpr ⟨by omega,g3⟩,aX.mpr ⟨[c],(g _ _).mpr ⟨by simp,s⟩,rfl⟩⟩
def Bef (a b:S):Prop:=a.length<b.length\/a.length=b.length/\a<b
structure MadeL (ps:List (S×S)) (o n:Nat) (L:List S):Prop where
 ris:L.Pairwise Bef
 mem:∀t,t∈L↔1<=t.length/\t.length<n/\Mk ps o t
theorem MadeL.start (a:List (S×S))(o:Nat):MadeL a o 0 []:=⟨by simp,fun t=>by simp⟩
theorem MadeL.step {g:List (S×S)}{o n:Nat}{L A:List S}(h:MadeL g o n L)(f:Lev g o n A):MadeL g o (n+1) (L++A.filter fun t=>decide ((zO t o,[])∈g)&&decide (t≠[])):=by
 refine⟨?_,fun t=>?_⟩
 ·rw[cY]
  refine⟨h.ris,?_,fun a i b j=>?_⟩
  ·refine(fZ _ f.ris).imp_of_mem fun{a b} i j l=>.inr ⟨?_,l⟩
   rw[((f.mem a).mp (bF.mp i).1).1,((f.mem b).mp (bF.mp j).1).1]
  ·have m:=(h.mem a).mp i
   have p:=(f.mem b).mp (bF.mp j).1
   exact .inl (by omega)
 ·rw[bP,h.mem,bF,f.mem,qY]
  constructor
  ·rintro(⟨a,b,c⟩|⟨⟨a,b⟩,c⟩)
   ·exact⟨a,by omega,c⟩
   ·rw[bz,decide_eq_true_eq,decide_eq_true_eq]at c
    have:t.length≠0:=fun z=>c.2 (cX.mp z)
    exact⟨by omega,by omega,b,c.1⟩
  ·rintro⟨a,b,c,d⟩
   by_cases e:t.length=n
   ·refine .inr ⟨⟨e,c⟩,?_⟩
    rw[bz,decide_eq_true_eq,decide_eq_true_eq]
    exact⟨d,fun z=>by rw[z]at a;cases a⟩
   ·exact .inl ⟨a,by omega,c,d⟩
end Kn
end
section
namespace Kn.Ln
open PySem L2 Kn
theorem zIU {d:Int}(h:d<1073741824):d<2^8000:=by
 have c:=zIA (a:=30) (b:=8000) (by decide)
 have e:(2:Int)^30=1073741824:=by decide
 omega
theorem cmW {p:Int}(a:0<=p)(b:p<1152921504606846976)(q:Int):zAf p q:=.inl ⟨by omega,by omega⟩
theorem zIV (a:List (S×S))(e l:S):yQ a e l=low (a.count (e,l):Int) (if(tot a e:Int)>1 then(tot a e:Int)else 1):=by
 have h:=gT a e l
 unfold yQ
 by_cases c:a.count (e,l)=0
 ·rw[if_pos c,c]
  show(0,1)=low 0 _
  rw[zDs]
  split<;>omega
 ·rw[if_neg c]
  have:(if(tot a e:Int)>1 then(tot a e:Int)else 1)=(tot a e:Int):=by split<;>omega
  rw[this]
theorem zPA {a b c d u v x y:Int}(e:a*v=u*b)(f:c*y=x*d):a*c*(v*y)=u*x*(b*d):=by grind
theorem zIW {u v x y:Int}(c:0<=u)(a:0<v)(d:0<=x)(b:0<y):v5 (low u v) (low x y)=low (u*x) (v*y):=by
 have f:=j7 c a
 have g:=j7 d b
 exact zMK (d7 f.up g.up) (dz f.dn g.dn) (d7 c d) (dz a b) (zPA (k9 a) (k9 b))
section
variable{P:aP}{w:bc}{K:ae}{mg:Str->Option ah}{base:bK}
abbrev zEy:cJ:=top 59
theorem zIX:FnScope ["_law_up","_law_down","_law_one","_law_other"] ["_law_up","_law_down"] (defScope zEy):=yC
theorem zPB {f:ai}{fd:aO}(F:Fun K "_law_lowest" "_law_lowest" zEy f fd):FnOk P w K mg base zU 1 f fd ["_law_up","_law_down"] zBY:=by
 refine F.ok zIX (fun vs H Q E h=>?_) (fun v A outer s H vs Q E D h=>?_)
 ·obtain⟨a,b,rfl,_⟩:=h;rfl
 ·obtain⟨u,d,rfl,n,g,y,k⟩:=h
  have nd:=zIX.nd
  refine⟨_,zG (zX (i:=2) nd rfl (Or.inl rfl) (pv 0)) (zG (zX (i:=3) nd rfl (Or.inl rfl) (pv 1))
   (zG (zDG bI (vF zAC (pv 3) zF (yY _))
    (zH (zKc (i:=2) (j:=3) rfl nd rfl rfl (by decide) rfl rfl (zB (pv 3) (zB (zP gL (pv 2) (pv 3)) zC)) rfl)))
   (zH (zT (uL (zB (zP zCZ (pv 0) (pv 2)) (zB (zP zCZ (pv 1) (pv 2)) zC))))))),?_⟩
  refine⟨_,rfl,_,rfl,?_⟩
  refine⟨fun m σ H'=>H'=H/\∃(a b:Int),σ=[some (.int u),some (.int d),some (.int a),some (.int b)]/\m=b.toNat/\0<=a/\0<=b/\ig a b=ig u d,⟨_,rfl,u,d,rfl,rfl,n,cZ g,rfl⟩,?_⟩
  rintro m σ H' ⟨rfl,a,b,rfl,rfl,o,z,q⟩
  refine⟨_,rfl,_,_,rfl,rfl,_,rfl,?_⟩
  by_cases r:b=0
  ·subst r
   refine v4 (by decide) ?_
   have e:a=vU u d:=by
    unfold vU
    rw[<-q]
    obtain⟨x,rfl⟩:=cV o
    simp
   have g1:=zCF (u:=u) g
   have g2:vU u d<=d:=qm g (iJ ..)
   rw[<-e]at g1 g2
   refine⟨_,rfl,_,rfl,_,_,rfl,rfl,⟨g1,by omega⟩,_,rfl,_,rfl,_,_,rfl,rfl,⟨g1,by omega⟩,by show 2<=sizeLine;decide,fun p B=>?_⟩
   have:=k p B
   unfold low at this
   rw[<-e]at this
   exact this
  ·have c:0<b:=by omega
   refine vY c ?_
   refine⟨fun t l=>l=H'/\t=[some (.int u),some (.int d),some (.int b),some (.int (a%b))],?_,?_⟩
   ·rintro t l ⟨rfl,rfl⟩
    have C:=jd a r
    have G:=il a c
    exact⟨(a%b).toNat,by omega,rfl,b,a%b,rfl,rfl,z,C,by rw[zHU o c];exact q⟩
   ·exact⟨_,rfl,_,rfl,_,rfl,_,_,rfl,rfl,c,_,_,rfl,rfl,rfl⟩
theorem zPC {row:List (S×Int)}{i:Nat}{x:V}(h:((yG row).map fun p=>kV p.1)[i]?=some x):∃(hi:i<row.length),x=sv row[i].1:=by
 unfold yG vN gP at h
 rw[aF,aF,aF]at h
 cases e:row[i]? with
 |none=>rw[e]at h;cases h
 |some q=>
  rw[e]at h
  obtain⟨hi,a⟩:=aa.mp e
  refine⟨hi,?_⟩
  rw[a]
  exact(aw h).symm
theorem zIY {σ:St}{H:Hp}{Q:V->Hp->Prop}{n:Nat}{a:ai}{row:List (S×Int)}(r:σ[n]?=some (some (.ref a)))(g:H a=some (.dK (yG row)))(j:(row.map (·.1)).Nodup)(hl:row.length<1000)
  (k:∀D H',zA H H'->H' D=some (.lst ((row.map (·.2)).map V.int))->Q (.ref D) H'):zHp (zBx (zHn (v8 n)) (kO 1) zAm (zAl (v8 0) (v8 1)) [n] 2) σ H Q:=by
 refine⟨a,yG row,g,_,r,a,_,rfl,g,fun o=>?_⟩
 have d:((yG row).map fun p=>kV p.1).length=row.length:=by rw[af];exact zAK _ _
 refine vT (zNK a o (yG row)) [some (.ref a)] 1 (by rw[d];exact hl) (fun i c H'=>H'=upd H a (.frz o (.dK (yG row)))/\c=((row.take i).map (·.2)).map V.int) ⟨rfl,rfl⟩ (fun i c H' _ h=>⟨by rw[h.1,zD],by rw[h.2,af,af,aL];omega⟩) ?_ ?_ (by simp[uM,r])
 ·rintro i x c H' ys A s t v ⟨rfl,rfl⟩
  obtain⟨B,rfl⟩:=y0 v
  obtain⟨hi,rfl⟩:=zPC t
  refine⟨_,rfl,_,rfl,a,.int row[i].2,rfl,.inl ⟨yG row,Sum.inr (tx row[i].1),.inr ⟨o,zD⟩,rfl,?_⟩,s _ _ [some (sv row[i].1)] rfl ⟨rfl,?_⟩⟩
  ·unfold yG
   have y:zV row row[i].1=some row[i].2:=(k8 j _ _).mp (cD hi)
   rw[qB,y];rfl
  ·rw[ak hi,az,az];rfl
 ·rintro c H' ⟨rfl,rfl⟩ D f
  rw[d,aV]
  have e:a≠D:=fun z=>by rw[<-z,zD]at f;cases f
  have l:H D=none:=by rw[zN e.symm]at f;exact f
  refine⟨o,by rw[zN e,zD],k D _ (fun b u q=>?_) (by rw[zN e.symm,zD])⟩
  by_cases m:b=a
  ·subst m;rw[zD,<-q,g]
  ·rw[zN m,zN (vJ q l),zN m];exact q
theorem zIZ (a:List (S×S))(e:S):(yO a e).length<=a.length:=by
 have c:=zCU a e
 have b:∀p∈yO a e,(1:Int)<=p.2:=fun p d=>by
  have:=((zCT a e p.1 p.2).mp d).2
  omega
 have go:∀l:List (S×Int),(∀p∈l,(1:Int)<=p.2)->(l.length:Int)<=(l.map (·.2)).sum:=by
  intro l
  induction l with
  |nil=>intro _;simp
  |cons x r ih=>
   intro hl
   have c:=hl x (ar ..)
   have b:=ih fun y f=>hl y (aG _ f)
   rw[ba,dD,bJ]
   have:((r.length+1:Nat):Int)=(r.length:Int)+1:=rfl
   omega
 have g:=go _ b
 have h:tot a e<=a.length:=bC ..
 omega
def zIa (K:ae):Sp:=fun vs H Q _=>∃(a:ai) (bk:List S) (o:Nat) (nm:S),vs=[.ref a,.int o,sv nm]/\H a=some (.tup (zR bk))/\Fit bk o nm/\(zJ o bk).length<64/\
 ∀v H',zA H H'->yV K H' v (uB (zJ o bk) o nm)->Q v H'
abbrev zCi:cJ:=top 60
theorem zCj:FnScope ["_law_book_here","_law_order","_law_name_here","_law_up","_law_down","_law_size","_law_row_here"] ["_law_book_here","_law_order","_law_name_here"] (defScope zCi):=yC
theorem zIb:(["_law_row_here","_law_letter"]:List Str).Nodup:=by decide+kernel
theorem zPD {f:ai}{fd:aO}(F:Fun K "_law_share" "_law_share" zCi f fd)(B:Blt mg)(B2:Blt2 mg)(cR:zQ P w K mg base 2 "_law_row" ["_law_book_here","_law_order","_law_text"] zEx)(cL:zQ P w K mg base 1 "_law_lowest" ["_law_up","_law_down"] zBY) :
  FnOk P w K mg base zU 3 f fd ["_law_book_here","_law_order","_law_name_here"] (zIa K):=by
 refine F.ok zCj (fun vs H Q E h=>?_) (fun al A outer s H vs Q E O h=>?_)
 ·obtain⟨a,bk,o,nm,rfl,_⟩:=h;rfl
 ·obtain⟨a,bk,o,nm,rfl,ha,r,R,k⟩:=h
  have hu:=jT O
  have nd:=zCj.nd
  have hr1:=O.mono (j:=1) (by decide)
  refine⟨_,zG (zX (i:=3) nd rfl (Or.inl rfl) zF) (zG (zX (i:=4) nd rfl (Or.inl rfl) zF)
   (zG (uA bI rfl (qF rfl B.range (zB (zP vD (zZ j4 (by rfl) B.len bQ (zB (pv 2) zC)) zF) zC)) (zY (i:=5) nd rfl (Or.inl rfl))
    (zG (zX (i:=6) nd rfl (Or.inr rfl) (zL cR O rfl (zB (pv 0) (zB (pv 1) (zB (qG (pv 2) qN (vX (pv 5))) zC)))))
    (zG (zX (i:=3) nd rfl (Or.inl rfl) (zP uO (pv 3) (gO hu (pv 6) (qG (pv 2) (vX (pv 5)) (vX (zP vD (pv 5) zF))) zF ⟨rfl,rfl,rfl,rfl⟩)))
    (zH (zX (i:=4) nd rfl (Or.inl rfl) (zP uO (pv 4) (zZ (zGC rfl) (by rfl) B2.max mv (zB zF (zB (zZ (zGq rfl) (by rfl) B.sum iR (zB
     (zHq (vG (N:=["_law_row_here","_law_letter"]) (caps:=[6]) rfl (yT (by kernel_rfl)) (zHo (pv 6)) (fun cl X s H ex=>zY (i:=1) zIb rfl (Or.inl rfl)) (fun cl X s H ex=>vK) (fun cl X s H ex=>zAG hu (pv 0) (pv 1) (fun _ _=>rfl)))) zC)) zC)))))))))
   (zH (zT (zL cL hr1 rfl (zB (pv 3) (zB (pv 4) zC))))))),?_⟩
  have pl:=zAz r.toBk
  have W:=r.toBk.hi
  have Y:=r.toBk.l8
  have am:=r.nmn.2.1
  have m:∀v H',zA H H'->yV K H' v (uW (zJ o bk) (zM o nm))->Q v H':=k
  have ho:1<=o:=r.toBk.o1
  have Z:=r.pw
  generalize ab:zJ o bk=b at m pl Z R
  refine⟨_,rfl,tx nm,rfl,by rw[z8,aR];omega,_,_,rfl,rfl,_,rfl,by rw[z8];omega,by rw[z8];omega,?_⟩
  have t:(((tx nm).length:Int)+1).toNat=nm.length+1:=by rw[z8];omega
  refine uG (qA 0 _) (fun i σ H'=>(∃(U D:Int) (y z:Option V),σ=[some (.ref a),some (.int o),some (sv nm),some (.int U),some (.int D),y,z]/\0<=U/\0<D/\U<=D/\D<=(b.length:Int)^i/\low U D=uW b ((zM o nm).take i))/\zA H H')
   ⟨⟨1,1,_,_,rfl,by decide,by decide,by decide,by simp,by simp[uW,zGw]⟩,zA.refl H⟩ (fun _ _ _ _ _=>trivial) ?_ ?_
  ·rintro i x σ H' Nx hN hx2 ⟨⟨U,D,y,z,rfl,u,L,ud,dp,d⟩,C⟩
   rw[t]at hx2
   obtain⟨hi,rfl⟩:=qH hx2
   have ep:=zCf (o:=o) hi
   have ac:i<(zM o nm).length:=by rw[gZ];exact hi
   have n:(zM o nm).take (i+1)=(zM o nm).take i++[(zO (nm.take i) o,(nm.drop i).take 1)]:=by
    rw[ak ac,(aa.mp ep).2]
   have G:D<1073741824:=by
    have e1:b.length^i<=b.length^(nm.length+1):=cq pl.1 (by omega)
    have e2:((b.length^i:Nat):Int)=(b.length:Int)^i:=by simp
    omega
   refine⟨_,rfl,_,rfl,_,rfl,_,rfl,_,rfl,tx nm,rfl,by rw[z8,aR];omega,a,bk,o,nm.take i,by rw[zAI];rfl,C _ _ ha,W,Y,ho,by rw[aL];omega,fun ra H2 s2 g=>?_⟩
   rw[ab]at g
   generalize aj:zO (nm.take i) o=e at g n
   generalize I:(nm.drop i).take 1=l at n
   have an:tot b e<=b.length:=bC ..
   have ap:=gT b e l
   refine⟨_,rfl,_,rfl,ra,rfl,.inl ⟨_,.inl g⟩,_,rfl,_,rfl,_,rfl,_,rfl,_,_,rfl,rfl,_,rfl,tx nm,rfl,by rw[z8,aR];omega,?_⟩
   rw[zBQ,I]
   have J:yU (yG (yO b e)) (Sum.inr (tx l))=(zV (yO b e) l).map V.int:=qB _ _ _
   refine⟨_,vR.k (k:=Sum.inr (tx l)) g,U,(b.count (e,l):Int),rfl,?_,cmW u (by omega) _,?_⟩
   ·rw[J,zAw]
    by_cases c:0<b.count (e,l)
    ·rw[if_pos c];rfl
    ·rw[if_neg c,show b.count (e,l)=0 by omega];rfl
   refine⟨_,rfl,zIY rfl g (zAv _ _) (by have:=zIZ b e;omega) fun Dl H3 s3 hD=>?_⟩
   refine⟨Dl,(yO b e).map (·.2),rfl,.of hD,1,_,rfl,D,_,rfl,rfl,cmW (by omega) (by omega) _,?_⟩
   rw[zCU]
   have hT:(if(tot b e:Int)>1 then(tot b e:Int)else 1)=(if(tot b e:Int)>1 then(tot b e:Int)else 1):=rfl
   have M:=zIV b e l
   generalize q:(if(tot b e:Int)>1 then(tot b e:Int)else 1)=T at M
   have t1:1<=T:=by rw[<-q];split<;>omega
   have t2:T<=(b.length:Int):=by rw[<-q];split<;>omega
   have t3:(b.count (e,l):Int)<=T:=by rw[<-q];split<;>omega
   refine hN _ _ ⟨⟨U*(b.count (e,l):Int),D*T,_,_,rfl,d7 u (by omega),dz L (by omega),?_,?_,?_⟩,(C.trans s2).trans s3⟩
   ·exact fm ud t3 (by omega) (by omega)
   ·rw[nV]
    exact fm dp t2 (by omega) (pG (by omega))
   ·rw[n,zEJ,<-d,M]
    exact(zIW u L (by omega) (by omega)).symm
  ·rintro σ H' ⟨⟨U,D,y,z,rfl,u,L,ud,dp,d⟩,C⟩
   rw[af,bh,t]at dp d
   rw[<-gZ o nm,aV]at d
   have G:D<1073741824:=by
    have e2:((b.length^(nm.length+1):Nat):Int)=(b.length:Int)^(nm.length+1):=by simp
    omega
   refine⟨_,rfl,_,rfl,U,D,rfl,u,L,zIU G,fun p M=>m _ _ (C.upd_new (C.free M)) ?_⟩
   rw[<-d]
   exact yV.new
end
theorem zIc:∀l:List S,∃r:List S,r.Pairwise (· < ·)/\∀x,x∈r↔x∈l
 | []=>⟨[],by simp,by simp⟩
 |a::l=>by
  obtain⟨r,g,j⟩:=zIc l
  refine⟨r.filter (fun x=>decide (x<a))++a::r.filter (fun x=>decide (a<x)),?_,fun x=>?_⟩
  ·rw[cY]
   refine⟨fZ _ g,cg.mpr ⟨fun b e=>of_decide_eq_true (bF.mp e).2,fZ _ g⟩,fun b e c f=>?_⟩
   have d:b<a:=of_decide_eq_true (bF.mp e).2
   rcases aQ.mp f with rfl|f
   ·exact d
   ·exact zDq d (of_decide_eq_true (bF.mp f).2)
  ·rw[bP,aQ,bF,bF,aQ,<-j]
   constructor
   ·rintro(z|z|z)
    ·exact .inr z.1
    ·exact .inl z
    ·exact .inr z.1
   ·rintro(z|z)
    ·exact .inr (.inl z)
    ·by_cases h:x<a
     ·exact .inl ⟨z,decide_eq_true h⟩
     ·by_cases i:a<x
      ·exact .inr (.inr ⟨z,decide_eq_true i⟩)
      ·exact .inr (.inl (zHF _ _ h i))
theorem zPE (a:List (S×S)):∃lt:S->List S,∀e,(lt e).Pairwise (· < ·)/\∀l,l∈lt e↔l≠[]/\(e,l)∈a:=by
 have h:∀e,∃r:List S,r.Pairwise (· < ·)/\∀l,l∈r↔l≠[]/\(e,l)∈a:=fun e=>by
  obtain⟨r,b,c⟩:=zIc ((gU a e).filter fun l=>decide (l≠[]))
  refine⟨r,b,fun l=>?_⟩
  rw[c,bF,zCW,decide_eq_true_eq]
  exact And.comm
 exact⟨fun e=>sJ (h e),fun e=>rC (h e)⟩
theorem zEz {o:Nat}{bk:List S}(b:Abz bk){lt:S->List S}(a:∀e,(lt e).Pairwise (· < ·)/\∀l,l∈lt e↔l≠[]/\(e,l)∈zJ o bk)(e:S):(lt e).length<=3:=zNd b (e:=e) (a e).1 fun l hl=>((a e).2 l).mp hl
abbrev zBE (lt:S->List S)(o:Nat)(t:S):List S:=(lt (zO t o)).map (t++·)
abbrev gD (ps:List (S×S))(o:Nat)(t:S):Bool:=decide ((zO t o,[])∈ps)&&decide (t≠[])
theorem zPF {b:Bool}{A B:Prop}(c:b=true)(h:A):if b=true then A else B:=by rw[if_pos c];exact h
theorem zPG {b:Bool}{A B:Prop}(c:¬b=true)(h:B):if b=true then A else B:=by rw[if_neg c];exact h
section
variable{P:aP}{w:bc}{K:ae}{mg:Str->Option ah}{base:bK}
abbrev zFA:cJ:=top 62
theorem zId:FnScope ["_law_book_here","_law_order","_law_most","_law_found","_law_texts","_law_size","_law_longer","_law_text","_law_row_here"] ["_law_book_here","_law_order","_law_most"] (defScope zFA):=yC
theorem zPH:(["_law_text","_law_letter"]:List Str).Nodup:=by decide+kernel
end
end Kn.Ln
end
section
namespace Kn
open PySem L2
theorem zIe (x y:S):bV (.str (tx x)) (.str (tx y))=decide (x=y):=by
 by_cases h:x=y
 ·subst h;simp[bV]
 ·have a:¬tx x=tx y:=fun z=>h (zAs z)
  rw[decide_eq_false h]
  simp[bV,a]
theorem zPI (p q:S×S):bV (v6 p) (v6 q)=decide (p=q):=by
 unfold v6
 have a:=zIe p.1 q.1
 have b:=zIe p.2 q.2
 simp only[bV,fc,qp]at a b⊢
 rw[a,b]
 obtain⟨c,d⟩:=p
 obtain⟨e,f⟩:=q
 by_cases g:c=e<;>by_cases h:d=f<;>simp[g,h]
theorem zPJ (l:List (S×S))(q:S×S):((l.map v6).any fun e=>bV e (v6 q))=decide (q∈l):=by
 rw[l6]
 induction l with
 |nil=>rfl
 |cons p l ih=>
  rw[e8,ih]
  show(bV (v6 p) (v6 q)||_)=_
  rw[zPI]
  by_cases a:p=q
  ·subst a;simp
  ·by_cases b:q∈l<;>simp[a,b,d9 a]
abbrev zIf (x:S):Prop:=∀c∈x,97<=c/\c<=122
def plW (bk:List S)(o:Nat)(q:S×S):List Nat:=(bg bk.length).filter fun i=>match bk[i]? with|some t=>decide (q∈zM o t)|none=>false
def zI (l:List Nat):List V:=l.map fun(i:Nat)=>V.int (i:Int)
theorem zPK (bk:List S)(o:Nat)(q:S×S)(i:Nat){t:S}(e:bk[i]?=some t):((bg (i+1)).filter fun i=>match bk[i]? with|some t=>decide (q∈zM o t)|none=>false)=((bg i).filter fun i=>match bk[i]? with|some t=>decide (q∈zM o t)|none=>false)++(if q∈zM o t then [i]else []):=by
 rw[cU,bN]
 congr 1
 by_cases h:q∈zM o t
 ·rw[if_pos h];simp[mP,e,h]
 ·rw[if_neg h];simp[mP,e,h]
section
variable{P:aP}{w:bc}{K:ae}{mg:Str->Option ah}{base:bK}
theorem zIg {p:S×S}(a:∀c∈p.1,c<=122)(b:∀c∈p.2,c<=122):(v6 p).canLay0=true/\(v6 p).depth<=10:=by
 unfold v6
 simp only[dC,cH,d5,dq,zHl a,zHl b,dZ,true_and]
 decide
theorem zPL {p:S×S}(d:∀c∈p.1,c<=122)(e:∀c∈p.2,c<=122):cn (v6 p)=true:=by
 obtain⟨a,b⟩:=zIg d e
 unfold cn
 rw[a,decide_eq_true (show(v6 p).depth<=64 by omega)];rfl
def zIh (K:ae):Sp:=fun vs H Q _=>∃(b:ai) (bk:List S) (o:Nat) (v:V) (q:S×S),vs=[.ref b,.int o,v]/\H b=some (.tup (zR bk))/\Bk bk o/\yD K H (v6 q) v/\zIf q.1/\zIf q.2/\∀l H',zA H H'->H' l=some (.lst (zI (plW bk o q)))->Q (.ref l) H'
abbrev zFB:cJ:=top 44
theorem zPM:FnScope ["book","order","step"] ["book","order","step"] (defScope zFB):=yC
theorem zIi:(["order","step","place","told"]:List Str).Nodup:=by decide+kernel
theorem zPN {f:ai}{fd:aO}(F:Fun K "places_with" "places_with" zFB f fd)(I:mg "enumerate"=none)(cE:zQ P w K mg base 2 "ends_and_letters" ["name","order"] (zBR K)):FnOk P w K mg base zU 3 f fd ["book","order","step"] (zIh K):=by
 refine F.ok zPM (fun vs H Q E h=>?_) (fun ab A outer s H vs Q E R h=>?_)
 ·obtain⟨b,bk,o,v,q,rfl,_⟩:=h;rfl
 ·obtain⟨b,bk,o,v,q,rfl,U,B,rq,q1,q2,k⟩:=h
  refine⟨_,zH (zT (vG (N:=["order","step","place","told"]) (caps:=[1,2]) rfl (yT (by kernel_rfl)) (zOM rfl I (zB (pv 0) zC))
    (fun cl C s H ex=>zAx K 2 rfl rfl (u6 (zY (i:=2) zIi rfl (Or.inl rfl)) (u6 (zY (i:=3) zIi rfl (Or.inl rfl)) gJ)) rfl rfl)
    (fun cl C s H ex=>kW (vF (zIF K rfl R.units65) (pv 1) (zL cE R rfl (zB (pv 3) (zB (pv 0) zC))) (by with_unfolding_all rfl)))
    (fun cl C s H ex=>pv 2))),?_⟩
  refine⟨_,rfl,b,_,rfl,.of U,?_⟩
  have a:(zR bk).length=bk.length:=af ..
  have h8:=B.hi
  refine zCa (J:=zEm K b) (xs:=zI (bg bk.length)) (ys:=zR bk) (len:=bk.length) (Hk:=fun H'=>yH K H' b (zR bk))
   (fun i H' n hi=>⟨zR bk,(zR bk)[i]'(by rw[a];exact hi),n,ax _⟩) (fun i H' n e=>⟨zR bk,n,by rw[a,e]⟩)
   (fun i H' x ac n ⟨T,y,e1,e2,e3,W⟩=>⟨T,.int i,y,e1,e2,e3,by
    have hi:i<bk.length:=by
     have:=(aa.mp (W _ n)).1
     rw[a]at this;exact this
    unfold zI;rw[aF,cy hi];rfl,W _ n⟩)
   [some (.int o),some v] 2 (by omega) (fun i g H'=>zA H H'/\g=zI ((bg i).filter fun i=>match bk[i]? with|some t=>decide (q∈zM o t)|none=>false))
   ⟨zA.refl H,rfl⟩ (fun i g H' _ h=>⟨.of (h.1 _ _ U),by rw[h.2];unfold zI;rw[af];exact b8 (bC ..) (by rw[bh];exact aH _)⟩) ?_ ?_
  ·rintro i x y T g H' zs Nx X L r hz ⟨u,rfl⟩ Y
   obtain⟨z1,z2,rfl⟩:=ys2 hz
   rw[zR,aF]at r
   cases e:bk[i]? with
   |none=>rw[e]at r;cases r
   |some t=>
   rw[e]at r
   have M:y=sv t:=(aw r).symm
   subst M
   have hi:i<bk.length:=(aa.mp e).1
   have hx2:x=.int i:=by
    unfold zI at L
    rw[aF,cy hi]at L
    exact(aw L).symm
   subst hx2
   have Z:=aS e
   have t1:zA H' (upd H' T (.tup [.int (i:Int),sv t])):=zA.upd1 Y
   have z:=u.trans t1
   refine⟨T,_,rfl,.of zD,rfl,_,_,rfl,_,_,rfl,rfl,?_⟩
   generalize upd H' T (.tup [.int (i:Int),sv t])=HA at z
   clear t1 Y u H'
   have G:=zPK bk o q i e
   have l8:=B.l8 t Z
   refine⟨_,rfl,_,rfl,_,rfl,t,o,rfl,B.o1,by omega,fun l xs H5 s5 aj h5 O=>?_⟩
   have j:=z.trans s5
   refine⟨v6 q,(zM o t).map v6,yD.same j _ _ rq,⟨l,xs,rfl,.of h5,O⟩,zPL (fun c m=>(q1 c m).2) (fun c m=>(q2 c m).2),?_,_,rfl,?_⟩
   ·refine(zEY fun d hd=>?_).1
    obtain⟨p,hp,rfl⟩:=aX.mp hd
    have pc:=zEZ (B.nm t Z) hp
    exact zIg (fun c m=>(pc.1 c m).2) fun c m=>(pc.2 c m).2
   ·rw[zPJ]
    by_cases h:q∈zM o t
    ·rw[if_pos h]at G
     refine vY h ⟨_,rfl,X _ _ [some (.int (i:Int)),some (sv t)] rfl ⟨j,?_⟩⟩
     rw[G];unfold zI;rw[az];rfl
    ·rw[if_neg h,fG]at G
     exact v4 h (X _ _ [some (.int (i:Int)),some (sv t)] rfl ⟨j,by rw[G]⟩)
  ·rintro g H' ⟨u,rfl⟩ D hD
   exact k D _ (u.upd_new (u.free hD)) zD
def vI (bk:List S)(o:Nat)(nm:S):List (List Nat):=(zM o nm).map (plW bk o)
structure LsAt (H:Hp) (vs:List V) (ls:List (List Nat)):Prop where
 len:vs.length=ls.length
 at_:∀(i:Nat) (v:V) (l:List Nat),vs[i]?=some v->ls[i]?=some l->∃a,v=.ref a/\H a=some (.lst (zI l))
theorem LsAt.same {H H':Hp}{vs:List V}{ls:List (List Nat)}(h:LsAt H vs ls)(e:zA H H'):LsAt H' vs ls:=⟨h.len,fun i v l b c=>let⟨a,d,f⟩:=h.at_ i v l b c;⟨a,d,e _ _ f⟩⟩
theorem LsAt.nil {H:Hp}:LsAt H [] []:=⟨rfl,fun i v l h=>by cases h⟩
theorem LsAt.snoc {H:Hp}{vs:List V}{ls:List (List Nat)}{a:ai}{l:List Nat}(h:LsAt H vs ls)(f:H a=some (.lst (zI l))):LsAt H (vs++[.ref a]) (ls++[l]):=by
 refine⟨by rw[aq,aq,h.len];rfl,fun i u r b c=>?_⟩
 by_cases hi:i<vs.length
 ·rw[bA hi]at b
  rw[bA (by rw[<-h.len];exact hi)]at c
  exact h.at_ i u r b c
 ·have j:i=vs.length:=by
   have:=(aa.mp b).1
   rw[aq]at this
   have e:([V.ref a]:List V).length=1:=rfl
   omega
  subst j
  rw[bD (aH _),iK]at b
  rw[bD (by rw[h.len];exact aH _),h.len,iK]at c
  have d:V.ref a=u:=aw b
  have g:l=r:=aw c
  subst d g
  exact⟨a,rfl,f⟩
theorem LsAt.get {H:Hp}{vs:List V}{ls:List (List Nat)}{i:Nat}{v:V}(h:LsAt H vs ls)(e:vs[i]?=some v):∃a l,ls[i]?=some l/\v=.ref a/\H a=some (.lst (zI l)):=by
 have hi:i<ls.length:=by rw[<-h.len];exact(aa.mp e).1
 obtain⟨a,b,c⟩:=h.at_ i v ls[i] e (ax hi)
 exact⟨a,ls[i],ax hi,b,c⟩
def zFC:Sp:=fun vs H Q _=>∃(b:ai) (bk:List S) (o:Nat) (nm:S),vs=[.ref b,.int o,sv nm]/\H b=some (.tup (zR bk))/\Bk bk o/\vW nm/\∀l xs H',zA H H'->H' l=some (.lst xs)->LsAt H' xs (vI bk o nm)->Q (.ref l) H'
abbrev zFD:cJ:=top 45
theorem zPO:FnScope ["book","order","name"] ["book","order","name"] (defScope zFD):=yC
theorem zPP:(["book","order","step"]:List Str).Nodup:=by decide+kernel
theorem zPQ {f:ai}{fd:aO}(F:Fun K "places_by_step" "places_by_step" zFD f fd)(G:zQ P w K mg base 2 "ends_and_letters" ["name","order"] (zBR K))(I:zQ P w K mg base 3 "places_with" ["book","order","step"] (zIh K)):FnOk P w K mg base zU 4 f fd ["book","order","name"] zFC:=by
 refine F.ok zPO (fun vs H Q E h=>?_) (fun J A outer s H vs Q E p h=>?_)
 ·obtain⟨b,bk,o,nm,rfl,_⟩:=h;rfl
 ·obtain⟨b,bk,o,nm,rfl,L,r,t,k⟩:=h
  have hr2:=p.mono (j:=2) (by decide)
  refine⟨_,zH (zT (vG (N:=["book","order","step"]) (caps:=[0,1]) rfl (yT (by kernel_rfl)) (vQ (zL G hr2 rfl (zB (pv 2) (zB (pv 1) zC))))
    (fun cl C s H ex=>zY (i:=2) zPP rfl (Or.inl rfl)) (fun cl C s H ex=>vK)
    (fun cl C s H ex=>zL I p rfl (zB (pv 0) (zB (pv 1) (zB (pv 2) zC)))))),?_⟩
  have Z:=t.2.1
  refine⟨_,rfl,_,rfl,nm,o,rfl,r.o1,by omega,fun u xs M v hl0 x d=>?_⟩
  refine⟨u,rfl,⟨_,.of x⟩,?_⟩
  have O:xs.length=(zM o nm).length:=by have:=d.length;rw[<-this,af]
  have pl:(zM o nm).length=nm.length+1:=by unfold zM;rw[af,bh]
  refine vT (vH K u xs) [some (.ref b),some (.int o)] 1 (by omega) (fun i a H'=>zA M H'/\a.length=i/\LsAt H' a (((zM o nm).take i).map (plW bk o)))
   ⟨zA.refl _,rfl,LsAt.nil⟩ (fun i a H' _ h=>⟨.of (h.1 _ _ x),dh h.2.1⟩) ?_ ?_
  ·rintro i y a H' ys Nx R T U ⟨g,m,ls⟩
   obtain⟨y',rfl⟩:=y0 U
   obtain⟨dd,c,W⟩:=d.get T
   rw[aF]at c
   cases e:(zM o nm)[i]? with
   |none=>rw[e]at c;cases c
   |some q=>
   rw[e]at c
   have n:dd=v6 q:=(aw c).symm
   subst n
   have hi:i<(zM o nm).length:=(aa.mp e).1
   have z:=zEZ t (aS e)
   refine⟨_,rfl,_,rfl,_,rfl,b,bk,o,y,q,rfl,g _ _ (v _ _ L),r,yD.same g _ _ W,z.1,z.2,fun l H5 B X=>R _ _ [some y] rfl ⟨g.trans B,by rw[aq,m];rfl,?_⟩⟩
   rw[ak hi,(aa.mp e).2,az]
   exact(ls.same B).snoc X
  ·rintro a H' ⟨g,m,ls⟩ D Y
   rw[O,aV]at ls
   have u1:zA H' (upd H' D (.lst a)):=zA.upd1 Y
   exact k D a _ ((v.trans g).trans u1) zD (ls.same u1)
def gE (hv pl:List Nat):Bool:=pl.any fun p=>decide (p∈hv)
def yX (rows:List (List Nat))(pl:List Nat):Bool:=rows.all fun hv=>gE hv pl
theorem zPR (p:Nat)(l:List Nat):inV (.int (p:Int)) (zI l)=decide (p∈l):=by
 unfold inV zI
 rw[l6]
 induction l with
 |nil=>rfl
 |cons x l ih=>
  rw[e8,ih]
  show(jP (V.int (x:Int)) (V.int (p:Int))||_)=_
  by_cases b:x=p
  ·subst b;simp[jP]
  ·have a:¬(x:Int)=(p:Int):=by omega
   by_cases c:p∈l<;>simp[jP,a,c,d9 b]
theorem zPS (l:List Nat):(zI l).all kS=true:=by unfold zI;rw[gh,cw];intro n _;rfl
theorem vL (l:List Nat):(zI l).length=l.length:=af ..
theorem gF {l:List Nat}{i:Nat}{x:V}(h:(zI l)[i]?=some x):∃n,l[i]?=some n/\x=.int (n:Int):=by
 unfold zI at h
 rw[aF]at h
 cases e:l[i]? with
 |none=>rw[e]at h;cases h
 |some n=>rw[e]at h;exact⟨n,rfl,(aw h).symm⟩
def zIj:Sp:=fun vs H Q _=>∃(a b:ai) (hv pl:List Nat),vs=[.ref a,.ref b]/\H a=some (.lst (zI hv))/\H b=some (.lst (zI pl))/\pl.length<=100/\∀H',zA H H'->Q (.bl (gE hv pl)) H'
abbrev zFE:cJ:=top 46
theorem zPT:FnScope ["having","places"] ["having","places"] (defScope zFE):=yC
theorem zPU:(["having","place"]:List Str).Nodup:=by decide+kernel
theorem zPV {X:Cx}(a:ae)(b:X.K=a):yN X (compareOp .In) (rIn a false):=by
 subst b;exact zLI
theorem zPW {f:ai}{fd:aO}(F:Fun K "any_has" "any_has" zFE f fd)(j:mg "any"=none):FnOk P w K mg base zU 1 f fd ["having","places"] zIj:=by
 refine F.ok zPT (fun vs H Q E h=>?_) (fun q A outer s H vs Q E z h=>?_)
 ·obtain⟨a,b,d,g,rfl,_⟩:=h;rfl
 ·obtain⟨a,b,d,g,rfl,r,l,m,k⟩:=h
  refine⟨_,zH (zT (zZ (zID rfl) (by rfl) j mw (zB (vG (N:=["having","place"]) (caps:=[0]) rfl (yT (by kernel_rfl)) (vQ (pv 1))
    (fun cl C s H ex=>zY (i:=1) zPU rfl (Or.inl rfl)) (fun cl C s H ex=>vK)
    (fun cl C s H ex=>kQ (zPV K rfl) (pv 1) (pv 0) (by with_unfolding_all rfl))) zC))),?_⟩
  refine⟨_,rfl,b,rfl,⟨_,.of l⟩,?_⟩
  refine vT (vH K b (zI g)) [some (.ref a)] 1 (by rw[vL];omega) (fun i c H'=>H'=H/\c=((g.take i).map fun p=>decide (p∈d)).map V.bl) ⟨rfl,rfl⟩ (fun i c H' _ h=>⟨by rw[h.1];exact .of l,by rw[h.2,af,af,aL];omega⟩) ?_ ?_
  ·rintro i y c H' ys B t u v ⟨rfl,rfl⟩
   obtain⟨G,rfl⟩:=y0 v
   obtain⟨n,o,rfl⟩:=gF u
   refine⟨_,rfl,_,rfl,a,zI d,rfl,.inl (.of r),rfl,zPS d,t _ _ [some (.int (n:Int))] rfl ⟨rfl,?_⟩⟩
   rw[ak (aa.mp o).1,(aa.mp o).2,az,az]
   show _++[V.bl (inV _ _)]=_
   rw[zPR];rfl
  ·rintro c H' ⟨rfl,rfl⟩ D x
   rw[vL,aV]
   refine⟨D,g.map fun p=>decide (p∈d),rfl,.of zD,?_⟩
   have e:(g.map fun p=>decide (p∈d)).any id=gE d g:=by unfold gE;rw[l6];rfl
   rw[e]
   exact k _ (zA.upd1 x)
def zFF:Sp:=fun vs H Q _=>∃(a b:ai) (xs:List V) (rows:List (List Nat)) (pl:List Nat),vs=[.ref a,.ref b]/\H a=some (.lst xs)/\LsAt H xs rows/\rows.length<=100/\H b=some (.lst (zI pl))/\pl.length<=100/\∀H',zA H H'->Q (.bl (yX rows pl)) H'
abbrev zFG:cJ:=top 47
theorem zPX:FnScope ["by_step","places"] ["by_step","places"] (defScope zFG):=yC
theorem zPY:(["places","having"]:List Str).Nodup:=by decide+kernel
theorem zPZ {f:ai}{fd:aO}(F:Fun K "alone_make" "alone_make" zFG f fd)(B:Blt mg)(q:zQ P w K mg base 1 "any_has" ["having","places"] zIj):FnOk P w K mg base zU 2 f fd ["by_step","places"] zFF:=by
 refine F.ok zPX (fun vs H Q E h=>?_) (fun r A outer s H vs Q E t h=>?_)
 ·obtain⟨a,b,xs,rows,g,rfl,_⟩:=h;rfl
 ·obtain⟨a,b,xs,rows,g,rfl,n,ls,o,u,l,k⟩:=h
  refine⟨_,zH (zT (zZ (gQ rfl) (by rfl) B.all da (zB (vG (N:=["places","having"]) (caps:=[1]) rfl (yT (by kernel_rfl)) (vQ (pv 0))
    (fun cl C s H ex=>zY (i:=1) zPY rfl (Or.inl rfl)) (fun cl C s H ex=>vK)
    (fun cl C s H ex=>zL q t rfl (zB (pv 1) (zB (pv 0) zC)))) zC))),?_⟩
  have v:=ls.len
  refine⟨_,rfl,a,rfl,⟨_,.of n⟩,?_⟩
  refine vT (vH K a xs) [some (.ref b)] 1 (by omega) (fun i c H'=>zA H H'/\c=((rows.take i).map fun d=>gE d g).map V.bl) ⟨zA.refl H,rfl⟩ (fun i c H' _ h=>⟨.of (h.1 _ _ n),by rw[h.2,af,af,aL];omega⟩) ?_ ?_
  ·rintro i y c H' ys M x z G ⟨j,rfl⟩
   obtain⟨O,rfl⟩:=y0 G
   obtain⟨p,d,m,rfl,I⟩:=ls.get z
   refine⟨_,rfl,_,rfl,p,b,d,g,rfl,j _ _ I,j _ _ u,l,fun R J=>x _ _ [some (.ref p)] rfl ⟨j.trans J,?_⟩⟩
   rw[ak (aa.mp m).1,(aa.mp m).2,az,az];rfl
  ·rintro c H' ⟨j,rfl⟩ D L
   rw[v,aV]
   refine⟨D,rows.map fun d=>gE d g,rfl,.of zD,?_⟩
   have e:(rows.map fun d=>gE d g).all id=yX rows g:=by unfold yX;rw[gh];rfl
   rw[e]
   exact k _ (j.upd_new (j.free L))
end
def zBF (l:List Nat):Bool:=(l.zip (l.drop 1)).all fun p=>decide (p.1<p.2)
def zAQ (n:Nat)(l:List Nat):Bool:=(l.all fun p=>decide (p<n))&&zBF l
def v7 (l:List Nat):List (List Nat):=(bg l.length).map fun i=>l.take i++l.drop (i+1)
def zAR (rows:List (List Nat))(n:Nat)(l:List Nat):Bool:=zAQ n l&&yX rows l&&!((v7 l).any fun m=>yX rows m)
section
variable{P:aP}{w:bc}{K:ae}{mg:Str->Option ah}{base:bK}
def zIk:Sp:=fun vs H Q _=>∃i a b:Int,vs=[.int i,.int a,.int b]/\Q (.bl (decide (a<=i)&&decide (i<=b))) H
theorem zPa {f:ai}{fd:aO}(F:Fun K "is_whole" "is_whole" zBS f fd)(B:Blt mg)(C:Cst K mg):FnOk P w K mg base zU 1 f fd ["thing","least","most"] zIk:=by
 refine F.ok zDz (fun vs H Q E h=>?_) (fun c A outer s H vs Q E d h=>?_)
 ·obtain⟨i,a,b,rfl,_⟩:=h;rfl
 ·obtain⟨i,a,b,rfl,k⟩:=h
  refine⟨_,zG (yK (PW.pt (jO (vP (vC (zZ u9 (by rfl) B.isinstance aJ (zB (pv 0) (zB (uU (v:=.ty "int") (by rfl) B.int iQ rfl) zC)))))
    (jX (vC (zZ u9 (by rfl) B.isinstance aJ (zB (pv 0) (zB (uU (v:=.ty "bool") (by rfl) B.bool fE rfl) zC)))))))
    (zH (zT v9)) yJ)
   (zH (zT (zDK qM qM (pv 1) (pv 0) (pv 2)))),?_⟩
  refine⟨_,rfl,_,_,_,true,rfl,.int _,(by rfl),_,rfl,?_⟩
  refine yI ?_
  refine⟨_,rfl,_,_,_,false,rfl,.int _,C.ib,_,rfl,?_⟩
  refine yI ?_
  refine⟨_,rfl,_,rfl,_,_,rfl,rfl,_,rfl,?_⟩
  by_cases h:a<=i
  ·rw[decide_eq_true h]at k
   refine vY h ⟨_,rfl,_,_,rfl,rfl,?_⟩
   exact k
  ·rw[decide_eq_false h]at k
   exact v4 h k
def zFH:Sp:=fun vs H Q _=>∃(a:ai) (l:List Nat),vs=[.ref a]/\H a=some (.lst (zI l))/\l.length<=100/\∀H',zA H H'->Q (.bl (zBF l)) H'
abbrev zFI:cJ:=top 19
theorem zPb:FnScope ["things"] ["things"] (defScope zFI):=yC
theorem zIl:(["one","other"]:List Str).Nodup:=by decide+kernel
theorem zPc (l:List Nat):qO (zI l) (some 1) none=zI (l.drop 1):=by
 unfold qO
 have e:HT.sIx (zI l).length 0 (some 1)=min 1 (zI l).length:=HT.sIx_nat _ _ 1
 have a:HT.sIx (zI l).length (zI l).length none=(zI l).length:=rfl
 rw[e,a]
 unfold zI
 rw[qq,af]
 cases l with
 |nil=>rfl
 |cons x l=>
  rw[bJ,eG (by omega)]
  rw[c8 (by rw[cC,af,bJ];omega)]
theorem zPd {f:ai}{fd:aO}(F:Fun K "is_rising" "is_rising" zFI f fd)(B:Blt mg)(M:mg "zip"=none):FnOk P w K mg base zU 1 f fd ["things"] zFH:=by
 refine F.ok zPb (fun vs H Q E h=>?_) (fun O A outer s H vs Q E hr h=>?_)
 ·obtain⟨a,l,rfl,_⟩:=h;rfl
 ·obtain⟨a,l,rfl,z,G,k⟩:=h
  refine⟨_,zH (zT (zZ (gQ rfl) (by rfl) B.all da (zB (vG (N:=["one","other"]) (caps:=[]) rfl (yT (by kernel_rfl)) (zOH false rfl M (zB (pv 0) (zB (zBs zDQ (pv 0) (vX zF) qN) zC)))
    (fun cl C s H ex=>zAx K 2 rfl rfl (u6 (zY (i:=0) zIl rfl (Or.inl rfl)) (u6 (zY (i:=1) zIl rfl (Or.inl rfl)) gJ)) rfl rfl)
    (fun cl C s H ex=>vK)
    (fun cl C s H ex=>kQ zBn (pv 0) (pv 1) (yY _))) zC))),?_⟩
  refine⟨_,rfl,_,rfl,_,rfl,a,_,rfl,.of z,fun b R=>?_⟩
  rw[zPc]
  have o:zA H (upd H b (.lst (zI (l.drop 1)))):=zA.upd1 R
  have g:=o _ _ z
  have j:(upd H b (.lst (zI (l.drop 1)))) b=some (.lst (zI (l.drop 1))):=zD
  generalize upd H b (.lst (zI (l.drop 1)))=I at o g j
  refine⟨a,b,_,_,rfl,.of g,(show jI false K I b (zI (l.drop 1))from .of j),?_⟩
  have dl:(l.drop 1).length=l.length-1:=by rw[cC]
  refine zCa (J:=Itz K false a b) (xs:=zI l) (ys:=zI (l.drop 1)) (len:=(l.drop 1).length) (Hk:=fun H'=>z9 K H' a (zI l)/\jI false K H' b (zI (l.drop 1)))
   (fun i H' d hi=>⟨zI l,zI (l.drop 1),(zI l)[i]'(by rw[vL];omega),(zI (l.drop 1))[i]'(by rw[vL];exact hi),d.1,d.2,ax _,ax _⟩)
   (fun i H' d e=>⟨zI l,zI (l.drop 1),d.1,d.2,by rw[vL,vL];omega⟩)
   (fun i H' x U d ⟨T,W,X,r,t,u,Y,Z⟩=>⟨T,W,X,r,t,u,Y _ d.1,Z _ d.2⟩)
   [] 2 (by omega) (fun i c H'=>zA I H'/\c=(((l.zip (l.drop 1)).take i).map fun p=>decide (p.1<p.2)).map V.bl)
   ⟨zA.refl _,rfl⟩ (fun i c H' hi h=>⟨⟨.of (h.1 _ _ g),(show jI false K H' b (zI (l.drop 1))from .of (h.1 _ _ j))⟩,by rw[h.2,af,af,aL];omega⟩) ?_ ?_
  ·rintro i x y T c H' zs Nx hN hx hy v ⟨q,rfl⟩ hT
   obtain⟨z1,z2,rfl⟩:=ys2 v
   obtain⟨m,r,rfl⟩:=gF hx
   obtain⟨n,t,rfl⟩:=gF hy
   have t2:zA H' (upd H' T (.tup [.int (m:Int),.int (n:Int)])):=zA.upd1 hT
   refine⟨T,_,rfl,.of zD,rfl,_,_,rfl,_,_,rfl,rfl,?_⟩
   unfold zAm
   dsimp only
   rw[if_pos rfl]
   refine⟨_,rfl,_,rfl,_,_,rfl,rfl,hN _ _ [_,_] rfl ⟨q.trans t2,?_⟩⟩
   have L:(l.zip (l.drop 1))[i]?=some (m,n):=by
    rw[List.getElem?_zip_eq_some];exact⟨r,t⟩
   rw[ak (aa.mp L).1,(aa.mp L).2,az,az]
   show _++[V.bl (decide ((m:Int)<(n:Int)))]=_
   have:decide ((m:Int)<(n:Int))=decide (m<n):=decide_eq_decide.mpr (by omega)
   rw[this];rfl
  ·rintro c H' ⟨q,rfl⟩ D hD
   have e:(l.zip (l.drop 1)).take (l.drop 1).length=l.zip (l.drop 1):=c8 (by rw[List.length_zip];omega)
   rw[e]
   refine⟨D,(l.zip (l.drop 1)).map fun p=>decide (p.1<p.2),rfl,.of zD,?_⟩
   have u:((l.zip (l.drop 1)).map fun p=>decide (p.1<p.2)).all id=zBF l:=by unfold zBF;rw[gh];rfl
   rw[u]
   exact k _ ((o.trans q).upd_new ((o.trans q).free hD))
def zIm:Sp:=fun vs H Q _=>∃(v:V) (n:Nat),vs=[v,.int (n:Int)]/\((v=.non/\Q (.bl false) H)\/∃(a:ai) (l:List Nat),v=.ref a/\H a=some (.lst (zI l))/\l.length<=100/\∀H',zA H H'->Q (.bl (zAQ n l)) H')
abbrev zCk:cJ:=top 50
theorem zIn:FnScope ["thing","many"] ["thing","many"] (defScope zCk):=yC
theorem zIo:(["many","place"]:List Str).Nodup:=by decide+kernel
theorem zPe {f:ai}{fd:aO}(F:Fun K "is_list_of_places" "is_list_of_places" zCk f fd)(B:Blt mg)(g:mg "list"=none)(q:zQ P w K mg base 1 "is_whole" ["thing","least","most"] zIk)(r:zQ P w K mg base 1 "is_rising" ["things"] zFH):FnOk P w K mg base zU 2 f fd ["thing","many"] zIm:=by
 refine F.ok zIn (fun vs H Q E h=>?_) (fun t A outer s H vs Q E m h=>?_)
 ·obtain⟨v,n,rfl,_⟩:=h;rfl
 ·obtain⟨v,n,rfl,h⟩:=h
  refine⟨_,zG (yK (vP (vC (zZ u9 (by rfl) B.isinstance aJ (zB (pv 0) (zB (uU (v:=.ty "list") (by rfl) g du rfl) zC))))) (zH (zT v9)) yJ)
   (zH (zT (zFn (zZ (gQ rfl) (by rfl) B.all da (zB (vG (N:=["many","place"]) (caps:=[1]) rfl (yT (by kernel_rfl)) (vQ (pv 0))
     (fun cl C s H ex=>zY (i:=1) zIo rfl (Or.inl rfl)) (fun cl C s H ex=>vK)
     (fun cl C s H ex=>zL q m rfl (zB (pv 1) (zB zF (zB (zP zAg (pv 0) zF) zC))))) zC))
    (zFm (zL r m rfl (zB (pv 0) zC)))))),?_⟩
  rcases h with⟨rfl,k⟩|⟨a,l,rfl,d,c,k⟩
  ·exact⟨_,rfl,_,_,_,false,rfl,.non,(by rfl),_,rfl,yL k⟩
  ·refine⟨_,rfl,_,_,_,true,rfl,.lst d,(by rfl),_,rfl,yI ?_⟩
   refine⟨_,rfl,a,rfl,⟨_,.of d⟩,?_⟩
   refine vT (vH K a (zI l)) [some (.int (n:Int))] 1 (by rw[vL];omega) (fun i b H'=>H'=H/\b=((l.take i).map fun p=>decide (p<n)).map V.bl) ⟨rfl,rfl⟩ (fun i b H' _ h=>⟨by rw[h.1];exact .of d,by rw[h.2,af,af,aL];omega⟩) ?_ ?_
   ·rintro i y b H' ys L u x z ⟨rfl,rfl⟩
    obtain⟨M,rfl⟩:=y0 z
    obtain⟨p,ep,rfl⟩:=gF x
    refine⟨_,rfl,_,rfl,_,_,rfl,rfl,(p:Int),0,(n:Int)-1,rfl,u _ _ [some (.int (p:Int))] rfl ⟨rfl,?_⟩⟩
    rw[ak (aa.mp ep).1,(aa.mp ep).2,az,az]
    have e:(decide ((0:Int)<=(p:Int))&&decide ((p:Int)<=(n:Int)-1))=decide (p<n):=by
     rw[decide_eq_true (by omega:(0:Int)<=(p:Int)),fI]
     exact decide_eq_decide.mpr (by omega)
    rw[e];rfl
   ·rintro b H' ⟨rfl,rfl⟩ D G
    rw[vL,aV]
    refine⟨D,l.map fun p=>decide (p<n),rfl,.of zD,?_⟩
    have e:(l.map fun p=>decide (p<n)).all id=l.all fun p=>decide (p<n):=by rw[gh];rfl
    rw[e]
    have j:zA H' (upd H' D (.lst ((l.map fun p=>decide (p<n)).map V.bl))):=zA.upd1 G
    cases o:l.all fun p=>decide (p<n)with
    |true=>
     refine⟨true,rfl,yL ⟨_,rfl,a,l,rfl,j _ _ d,c,fun I J=>?_⟩⟩
     have:=k I (j.trans J)
     unfold zAQ at this
     rw[o,fI]at this
     exact this
    |false=>
     refine⟨false,rfl,yI ?_⟩
     have:=k _ j
     unfold zAQ at this
     rw[o,fS]at this
     exact this
end
theorem zPf (l:List Nat)(k:Nat):qO (zI l) none (some (k:Int))=zI (l.take k):=by
 unfold qO
 rw[HT.sIx_nat]
 show((zI l).drop 0).take (min k (zI l).length-0)=_
 rw[fY,jo]
 unfold zI
 rw[hV,af]
 by_cases h:k<=l.length
 ·rw[eG h]
 ·rw[oB (by omega),c8 (by rw[af];omega),c8 (by rw[af];omega)]
theorem zPg (l:List Nat)(k:Nat):qO (zI l) (some (k:Int)) none=zI (l.drop k):=by
 unfold qO
 have a:HT.sIx (zI l).length (zI l).length none=(zI l).length:=rfl
 rw[HT.sIx_nat,a]
 unfold zI
 rw[qq,af]
 by_cases h:k<=l.length
 ·rw[eG h,c8 (by rw[cC,af];omega)]
 ·rw[oB (by omega),fD (by rw[af];omega),fD (by rw[af];omega),List.take_nil]
section
variable{P:aP}{w:bc}{K:ae}{mg:Str->Option ah}{base:bK}
theorem zIp {X:Cx}(a:ae)(b:X.K=a):SlR X (zGM a):=by
 subst b;exact zDQ
def zFJ:Sp:=fun vs H Q _=>∃(b:ai) (bk:List S) (o:Nat) (nm:S) (v:V),vs=[.ref b,.int o,sv nm,v]/\H b=some (.tup (zR bk))/\Bk bk o/\vW nm/\
 ((v=.non/\∀H',zA H H'->Q (.bl false) H')\/∃(a:ai) (l:List Nat),v=.ref a/\H a=some (.lst (zI l))/\l.length<=50/\∀H',zA H H'->Q (.bl (zAR (vI bk o nm) bk.length l)) H')
abbrev zBa:cJ:=top 51
theorem zCl:FnScope ["book","order","name","thing","by_step","fewer"] ["book","order","name","thing"] (defScope zBa):=yC
theorem zPh:(["thing","place"]:List Str).Nodup:=by decide+kernel
theorem zPi:(["by_step","places"]:List Str).Nodup:=by decide+kernel
theorem zPj {f:ai}{fd:aO}(F:Fun K "shows" "shows" zBa f fd)(B:Blt mg)(C:mg "any"=none)(N:Needs P w K mg base)(cI:zQ P w K mg base 2 "is_list_of_places" ["thing","many"] zIm)(cP:zQ P w K mg base 4 "places_by_step" ["book","order","name"] zFC)(cA:zQ P w K mg base 2 "alone_make" ["by_step","places"] zFF) :
  FnOk P w K mg base zU 5 f fd ["book","order","name","thing"] zFJ:=by
 refine F.ok zCl (fun vs H Q E h=>?_) (fun am A outer s H vs Q E hr h=>?_)
 ·obtain⟨b,bk,o,nm,v,rfl,_⟩:=h;rfl
 ·obtain⟨b,bk,o,nm,v,rfl,hb,U,hn,h⟩:=h
  have nd:=zCl.nd
  have hr3:=hr.mono (j:=3) (by decide)
  have hr2:=hr.mono (j:=2) (by decide)
  refine⟨_,zG (yP (zL N.bk hr3 rfl (zB (pv 0) zC))) (zG (yP (zL N.od hr3 rfl (zB (pv 1) zC))) (zG (yP (zL N.nm hr2 rfl (zB (pv 2) zC)))
   (zG (yK (vP (vC (zL cI hr2 rfl (zB (pv 3) (zB (zZ jE (by rfl) B.len bQ (zB (pv 0) zC)) zC))))) (zH (zT v9)) yJ)
   (zG (zX (i:=4) nd rfl (Or.inr rfl) (zL cP hr rfl (zB (pv 0) (zB (pv 1) (zB (pv 2) zC)))))
   (zG (yK (vP (vC (zL cA hr2 rfl (zB (pv 4) (zB (pv 3) zC))))) (zH (zT v9)) yJ)
   (zG (zBB (j:=5) (N:=["thing","place"]) (caps:=[3]) nd rfl (Or.inl rfl) rfl (yT (by kernel_rfl)) (qF rfl B.range (zB (zZ jE (by rfl) B.len bQ (zB (pv 3) zC)) zC))
     (fun cl X s H ex=>zY (i:=1) zPh rfl (Or.inl rfl)) (fun cl X s H ex=>vK)
     (fun cl X s H ex=>zP jR (zBs (zIp K rfl) (pv 0) qN (vX (pv 1))) (zBs (zIp K rfl) (pv 0) (vX (zP vD (pv 1) zF)) qN)))
   (zH (zT (zKU (zZ (zID rfl) (by rfl) C mw (zB (vG (N:=["by_step","places"]) (caps:=[4]) rfl (yT (by kernel_rfl)) (vQ (pv 5))
     (fun cl X s H ex=>zY (i:=1) zPi rfl (Or.inl rfl)) (fun cl X s H ex=>vK)
     (fun cl X s H ex=>zL cA hr2 rfl (zB (pv 0) (zB (pv 1) zC)))) zC))))))))))),?_⟩
  refine⟨_,rfl,b,bk,rfl,hb,U.toisBk,fun H1 s1=>?_⟩
  refine⟨_,rfl,o,rfl,U.o1,U.o3,?_⟩
  refine⟨_,rfl,nm,rfl,hn,fun H2 s2=>?_⟩
  have e:=s1.trans s2
  have ab:(zR bk).length=bk.length:=af ..
  refine⟨_,rfl,_,rfl,b,zR bk,rfl,.inr (.of (e _ _ hb)),v,bk.length,by rw[ab];rfl,?_⟩
  rcases h with⟨rfl,k⟩|⟨a,l,rfl,W,an,k⟩
  ·exact .inl ⟨rfl,_,rfl,yL (k _ e)⟩
  refine .inr ⟨a,l,rfl,e _ _ W,by omega,fun H3 s3=>⟨_,rfl,?_⟩⟩
  have r:=e.trans s3
  cases e1:zAQ bk.length l with
  |false=>
   refine yL ?_
   have:=k _ r
   unfold zAR at this
   rw[e1,fS,fS]at this
   exact this
  |true=>
  refine yI ?_
  refine⟨_,rfl,_,rfl,_,rfl,b,bk,o,nm,rfl,r _ _ hb,U,hn,fun lr xr H4 s4 G I=>?_⟩
  have J:=r.trans s4
  have rl:(vI bk o nm).length<=100:=by
   unfold vI zM
   rw[af,af,bh]
   have:=hn.2.1;omega
  refine⟨_,rfl,_,rfl,lr,a,xr,vI bk o nm,l,rfl,G,I,rl,J _ _ W,by omega,fun H5 s5=>⟨_,rfl,?_⟩⟩
  have g:=J.trans s5
  cases e2:yX (vI bk o nm) l with
  |false=>
   refine yL ?_
   have:=k _ g
   unfold zAR at this
   rw[e1,e2,pf,fS]at this
   exact this
  |true=>
  refine yI ?_
  refine⟨_,rfl,a,zI l,rfl,.inl (.of (g _ _ W)),_,rfl,by rw[vL];omega,by rw[vL];omega,?_⟩
  have t:((zI l).length:Int).toNat=l.length:=by rw[vL];omega
  refine vT (qA 0 _) [some (.ref a)] 1 (by rw[af,bh,t];omega) (fun i c H'=>zA H5 H'/\c.length=i/\LsAt H' c ((v7 l).take i))
   ⟨zA.refl _,rfl,LsAt.nil⟩ (fun i c H' _ h=>⟨trivial,dh h.2.1⟩) ?_ ?_
  ·rintro i y c H' ys Nx hN Y hy ⟨u,n,ls⟩
   obtain⟨y',rfl⟩:=y0 hy
   rw[t]at Y
   obtain⟨hi,rfl⟩:=qH Y
   have L:=(g.trans u) _ _ W
   refine⟨_,rfl,_,rfl,_,rfl,a,_,rfl,.of L,fun p1 ac=>?_⟩
   rw[zPf]
   have t1:zA H' (upd H' p1 (.lst (zI (l.take i)))):=zA.upd1 ac
   refine⟨_,rfl,_,rfl,_,_,rfl,rfl,_,rfl,a,_,rfl,.of (t1 _ _ L),fun p2 aj=>?_⟩
   have ec:qO (zI l) (some ((i:Int)+1)) none=zI (l.drop (i+1)):=zPg l (i+1)
   rw[ec]
   have t2:=zA.upd1 (o:=.lst (zI (l.drop (i+1)))) aj
   refine⟨p1,p2,_,_,rfl,rfl,t2 _ _ zD,zD,by rw[vL,vL,aL,cC,aR];omega,fun p3 M=>hN _ _ [some (.int (i:Int))] rfl ⟨((u.trans t1).trans t2).trans (zA.upd1 M),by rw[aq,n];rfl,?_⟩⟩
   have ef:(v7 l).take (i+1)=(v7 l).take i++[l.take i++l.drop (i+1)]:=by
    unfold v7
    rw[<-hV,<-hV,jf,jf,eG (by omega),eG (by omega),cU,az];rfl
   rw[ef]
   refine(ls.same ((t1.trans t2).trans (zA.upd1 M))).snoc ?_
   rw[zD];unfold zI;rw[az]
  rintro c Z ⟨s6,n,ls⟩ D hD
  rw[af,bh,t]at n ls
  have O:(v7 l).take l.length=v7 l:=c8 (by unfold v7;rw[af,bh];exact aH _)
  rw[O]at ls
  have u1:zA Z (upd Z D (.lst c)):=zA.upd1 hD
  have x:=(g.trans s6).trans u1
  have p:=I.same ((s5.trans s6).trans u1)
  have q:=((s5.trans s6).trans u1) _ _ G
  have R:=ls.same u1
  have z:(upd Z D (.lst c)) D=some (.lst c):=zD
  generalize upd Z D (.lst c)=H7 at x p q R z
  refine⟨_,rfl,D,rfl,⟨_,.of z⟩,?_⟩
  refine vT (vH K D c) [some (.ref lr)] 1 (by omega) (fun i d H'=>zA H7 H'/\d=(((v7 l).take i).map fun m=>yX (vI bk o nm) m).map V.bl)
   ⟨zA.refl _,rfl⟩ (fun i d H' _ h=>⟨.of (h.1 _ _ z),by rw[h.2,af,af,aL];omega⟩) ?_ ?_
  ·rintro i y d H' ys Nx hN Y hy ⟨u,rfl⟩
   obtain⟨y',rfl⟩:=y0 hy
   obtain⟨a1,m,em,rfl,h1⟩:=R.get Y
   have ml:m.length<=100:=by
    have hm:=aS em
    unfold v7 at hm
    obtain⟨j,_,rfl⟩:=aX.mp hm
    rw[aq,aL,cC];omega
   refine⟨_,rfl,_,rfl,lr,a1,xr,vI bk o nm,m,rfl,u _ _ q,p.same u,rl,u _ _ h1,ml,fun H8 s8=>hN _ _ [some (.ref a1)] rfl ⟨u.trans s8,?_⟩⟩
   rw[ak (aa.mp em).1,(aa.mp em).2,az,az];rfl
  ·rintro d H8 ⟨s8,rfl⟩ D2 al
   have T:(v7 l).take c.length=v7 l:=by rw[n];exact O
   rw[T]
   refine⟨D2,(v7 l).map fun m=>yX (vI bk o nm) m,rfl,.of zD,?_⟩
   have e3:((v7 l).map fun m=>yX (vI bk o nm) m).any id=(v7 l).any fun m=>yX (vI bk o nm) m:=by rw[l6];rfl
   rw[e3]
   refine⟨_,rfl,?_⟩
   have:=k _ ((x.trans s8).upd_new (o:=.lst (((v7 l).map fun m=>yX (vI bk o nm) m).map V.bl)) ((x.trans s8).free al))
   unfold zAR at this
   rw[e1,e2,fI,fI]at this
   exact this
end
def vO (l:List Nat):Nat:=match l.getLast? with|some p=>p+1|none=>0
def qI (l:List Nat)(n:Nat):List (List Nat):=(bg (n-vO l)).map fun j=>l++[vO l+j]
def qZ (ls:List (List Nat))(n:Nat):List (List Nat):=ls.flatMap fun l=>qI l n
def yR (l:List Nat):bW:=.list ((l.map fun(i:Nat)=>(i:Int)).map PyData.int)
theorem zPk (l:List Nat):zI l=(l.map fun(i:Nat)=>(i:Int)).map V.int:=by unfold zI;rw[cp];rfl
section
variable{P:aP}{w:bc}{K:ae}{mg:Str->Option ah}{base:bK}
theorem jL {H:Hp}{a:ai}{l:List Nat}(h:H a=some (.lst (zI l))):yD K H (yR l) (.ref a):=⟨a,_,rfl,.of h,by rw[zPk];exact zEQ _⟩
theorem zPl (ds:List bW):bV (.list ds) (.list [])=ds.isEmpty:=by cases ds<;>rfl
theorem zPm {t u:TS}{D:Ends}{σ:St}{H:Hp}(R:St->Hp->Prop)(b:∀a H',R a H'->u D a H')(c:∀N:St->Hp->Prop,(∀a H',R a H'->N a H')->t {D with nx:=N} σ H):zBl t u D σ H:=c (u D) b
theorem zPn {j:Nat}{v:V}{σ:St}{H:Hp}{Q:St->Hp->Prop}(h:Q (σ.set j (some v)) H):kO j v σ H Q:=h
structure LsX (p:ai) (H:Hp) (vs:List V) (ls:List (List Nat)):Prop where
 len:vs.length=ls.length
 at_:∀(i:Nat) (v:V) (l:List Nat),vs[i]?=some v->ls[i]?=some l->∃a,v=.ref a/\a≠p/\H a=some (.lst (zI l))
theorem LsX.ls {p:ai}{H:Hp}{vs:List V}{ls:List (List Nat)}(h:LsX p H vs ls):LsAt H vs ls:=⟨h.len,fun i v l b c=>let⟨a,e,_,f⟩:=h.at_ i v l b c;⟨a,e,f⟩⟩
theorem LsX.same {p:ai}{H H':Hp}{vs:List V}{ls:List (List Nat)}(h:LsX p H vs ls)(e:zA H H'):LsX p H' vs ls:=⟨h.len,fun i v l b c=>let⟨a,d,n,f⟩:=h.at_ i v l b c;⟨a,d,n,e _ _ f⟩⟩
theorem LsX.upd {p:ai}{H:Hp}{o:HO}{vs:List V}{ls:List (List Nat)}(h:LsX p H vs ls):LsX p (upd H p o) vs ls:=⟨h.len,fun i v l b c=>let⟨a,d,n,f⟩:=h.at_ i v l b c;⟨a,d,n,by rw[zN n];exact f⟩⟩
theorem LsX.append {p:ai}{H:Hp}{vs us:List V}{ls c:List (List Nat)}(h:LsX p H vs ls)(g:LsX p H us c):LsX p H (vs++us) (ls++c):=by
 refine⟨by rw[aq,aq,h.len,g.len],fun i v l a b=>?_⟩
 by_cases hi:i<vs.length
 ·rw[bA hi]at a
  rw[bA (by rw[<-h.len];exact hi)]at b
  exact h.at_ i v l a b
 ·rw[bD (by omega)]at a
  rw[bD (by rw[<-h.len];omega),<-h.len]at b
  exact g.at_ _ v l a b
theorem LsX.one {p:ai}{H:Hp}{a:ai}{l:List Nat}(g:a≠p)(f:H a=some (.lst (zI l))):LsX p H [.ref a] [l]:=by
 refine⟨rfl,fun i v m b c=>?_⟩
 match i,b,c with
 |0,b,c=>
  have d:V.ref a=v:=aw b
  have e:l=m:=aw c
  subst d e
  exact⟨a,rfl,g,f⟩
 |n+1,b,_=>simp at b
theorem LsX.nil {p:ai}{H:Hp}:LsX p H [] []:=⟨rfl,fun i v l h=>by simp at h⟩
def zIq:Sp:=fun vs H Q _=>∃(a:ai) (xs:List V) (ls:List (List Nat)) (n:Nat),vs=[.ref a,.int (n:Int)]/\H a=some (.lst xs)/\LsAt H xs ls/\ls.length<=1000/\n<=8/\(∀l∈ls,l.length<=100/\vO l<=100)/\∀p ys H',zA H H'->H' p=some (.lst ys)->LsAt H' ys (qZ ls n)->Q (.ref p) H'
abbrev zFK:cJ:=top 48
theorem zIr:FnScope ["lists","many","longer","places","least"] ["lists","many"] (defScope zFK):=yC
theorem zPo:(["places","place"]:List Str).Nodup:=by decide+kernel
theorem zPp (l:List Nat)(n:Nat):(qI l n).length<=n:=by unfold qI;rw[af,bh];omega
theorem zFL (n:Nat):∀ls:List (List Nat),(qZ ls n).length<=ls.length*n
 | []=>by simp[qZ]
 |l::ls=>by
  have ih:=zFL n ls
  have e:qZ (l::ls) n=qI l n++qZ ls n:=by unfold qZ;rw[eY]
  rw[e,aq,bJ,qy]
  have:=zPp l n
  omega
theorem zPq {f:ai}{fd:aO}(F:Fun K "longer_lists" "longer_lists" zFK f fd)(B:Blt mg):FnOk P w K mg base zU 1 f fd ["lists","many"] zIq:=by
 refine F.ok zIr (fun vs H Q E h=>?_) (fun aA A outer s H vs Q E hr h=>?_)
 ·obtain⟨a,xs,ls,n,rfl,_⟩:=h;rfl
 ·obtain⟨a,xs,ls,n,rfl,ha,J,aB,W,hb,k⟩:=h
  have nd:=zIr.nd
  have hu:=hr.units
  refine⟨_,zG (zX (i:=2) nd rfl (Or.inl rfl) (yE zC))
   (zG (uA bI rfl (vQ (pv 0)) (zY (i:=3) nd rfl (Or.inr rfl))
    (zG (zX (i:=4) nd rfl (Or.inl rfl) (g9 (vF (kX hu) (pv 3) (yE zC) (yY _)) (zP vD (yS jD (pv 3) (zAe zAh zF) (fun _ _=>rfl)) zF) zF))
    (zH (yP (zAE eD PySem.F.slot_list_extend PySem.F.type_list_extend zLM (pv 2) (zB
     (vG (N:=["places","place"]) (caps:=[3]) rfl (yT (by kernel_rfl)) (zKk rfl B.range (zB (pv 4) (zB (pv 1) zC)))
      (fun cl X s H ex=>zY (i:=1) zPo rfl (Or.inl rfl)) (fun cl X s H ex=>vK)
      (fun cl X s H ex=>zP jR (pv 0) (yE (zB (pv 1) zC)))) zC))))))
   (zH (zT (pv 2)))),?_⟩
  refine⟨by show 0<=sizeLine;decide,fun p R=>?_⟩
  refine⟨_,rfl,a,rfl,⟨_,.of (zA.upd1 R _ _ ha)⟩,?_⟩
  have xl:=J.len
  refine uG (vH K a xs) (fun i σ H'=>(∃(y z:Option V),σ=[some (.ref a),some (.int (n:Int)),some (.ref p),y,z])/\zA H H'/\∃ys,H' p=some (.lst ys)/\LsX p H' ys (qZ (ls.take i) n))
   ⟨⟨_,_,rfl⟩,zA.upd1 R,[],zD,LsX.nil⟩ (fun i σ H' _ h=>.of (h.2.1 _ _ ha)) ?_ ?_
  ·rintro i x σ H' Nx hN hx ⟨⟨y,z,rfl⟩,T,ys,o,g⟩
   obtain⟨L,l,Y,rfl,Z⟩:=J.get hx
   have ab:=aS Y
   obtain⟨ay,ac⟩:=hb l ab
   have q:=T _ _ Z
   have aC:L≠p:=fun z=>by rw[z,R]at Z;cases Z
   have u:qZ (ls.take (i+1)) n=qZ (ls.take i) n++qI l n:=by
    unfold qZ
    rw[ak (aa.mp Y).1,(aa.mp Y).2,gr]
    simp
   refine zPn ?_
   dsimp only
   refine zPm (fun σ' aj=>σ'=[some (.ref a),some (.int (n:Int)),some (.ref p),some (.ref L),some (.int (vO l:Int))]/\zA H' aj) ?cont fun N M=>?main
   case main=>
    refine⟨_,rfl,by show 0<=sizeLine;decide,fun e1 al=>?_⟩
    have d:zA H' (upd H' e1 (.lst [])):=zA.upd1 al
    refine⟨yR l,.list [],jL (d _ _ q),⟨e1,[],rfl,.of zD,rfl⟩,zES _,rfl,_,rfl,?_⟩
    cases l with
    |nil=>exact yI (M _ _ ⟨rfl,d⟩)
    |cons x0 l0=>
     obtain⟨r,t,er⟩:∃r t,x0::l0=r++[t]:=by
      rcases dU (x0::l0)with z|⟨r,t,z⟩
      ·cases z
      ·exact⟨r,t,by rw[z,eT]⟩
     refine yL ⟨_,rfl,_,rfl,L,_,-1,.int (t:Int),rfl,rfl,.of (d _ _ q),by rw[er];unfold zI;rw[az];exact zLB _ _,_,_,rfl,rfl,M _ _ ⟨?_,d⟩⟩
     have:vO (x0::l0)=t+1:=by rw[er];unfold vO;rw[mQ];rfl
     rw[this];rfl
   case cont=>
    rintro σ' H2 ⟨rfl,U⟩
    have h2:=U _ _ q
    have v:=U _ _ o
    have O:=g.same U
    have am:=T.trans U
    refine⟨_,rfl,.inl ⟨rfl,_,.of v⟩,_,rfl,_,rfl,_,_,rfl,⟨by omega,by omega,by omega,by omega⟩,?_⟩
    have C:((n:Int)- (vO l:Int)).toNat=n-vO l:=by omega
    refine vT (qA (vO l:Int) _) [some (.ref L)] 1 (by rw[af,bh,C];omega) (fun j b H'=>zA H2 H'/\b.length=j/\LsX p H' b ((qI l n).take j))
     ⟨zA.refl _,rfl,LsX.nil⟩ (fun j b H' _ h=>⟨trivial,dh h.2.1⟩) ?_ ?_
    ·rintro j y b I aD aE an hx2 hy ⟨c,G,m⟩
     obtain⟨y',rfl⟩:=y0 hy
     rw[C,aF]at hx2
     have hj:j<n-vO l:=by
      cases ej:(bg (n-vO l))[j]? with
      |none=>rw[ej]at hx2;cases hx2
      |some j'=>have:=(aa.mp ej).1;rw[bh]at this;exact this
     rw[cy hj]at hx2
     have ap:y=.int ((vO l+j:Nat):Int):=by
      have:=(aw hx2).symm
      rw[this];rfl
     subst ap
     have h3:=c _ _ h2
     refine⟨_,rfl,_,rfl,by show 1<=sizeLine;decide,fun p1 as=>?_⟩
     have d:zA I (upd I p1 (.lst [.int ((vO l+j:Nat):Int)])):=zA.upd1 as
     refine⟨L,p1,_,_,rfl,rfl,d _ _ h3,zD,by rw[vL,aR];show _+1<=16777216;omega,fun p3 e=>an _ _ [some (.int ((vO l+j:Nat):Int))] rfl ⟨(c.trans d).trans (zA.upd1 e),by rw[aq,G];rfl,?_⟩⟩
     have et:(qI l n).take (j+1)=(qI l n).take j++[l++[vO l+j]]:=by
      unfold qI
      rw[<-hV,<-hV,jf,jf,eG (by omega),eG (by omega),cU,az];rfl
     rw[et]
     have av:p3≠p:=fun z=>by
      have:(upd I p1 (.lst [.int ((vO l+j:Nat):Int)])) p=some (.lst ys):=d _ _ (c _ _ v)
      rw[z,this]at e;cases e
     refine(m.same (d.trans (zA.upd1 e))).append (LsX.one av ?_)
     rw[zD];unfold zI;rw[az];rfl
    ·rintro b I ⟨c,G,m⟩ D hD
     rw[af,bh,C]at G m
     have et:(qI l n).take (n-vO l)=qI l n:=c8 (by unfold qI;rw[af,bh];exact aH _)
     rw[et]at m
     have d:zA I (upd I D (.lst b)):=zA.upd1 hD
     have e:=d _ _ (c _ _ v)
     have b1:=zFL n (ls.take i)
     have b2:=g.len
     have b3:(ls.take i).length<=1000:=by rw[aL];omega
     have b4:(ls.take i).length*n<=1000*8:=Nat.mul_le_mul b3 W
     refine⟨p,D,ys,b,rfl,rfl,e,zD,by rw[aR];omega,hN _ _ ⟨⟨_,_,rfl⟩,((am.trans c).trans d).upd_new R,ys++b,zD,?_⟩⟩
     rw[u]
     exact((O.same (c.trans d)).append (m.same d)).upd
  ·rintro σ H' ⟨⟨y,z,rfl⟩,T,ys,o,g⟩
   rw[xl,aV]at g
   exact⟨_,rfl,k p ys H' T o g.ls⟩
end
def yM (n:Nat):Nat->List (List Nat)
 |0=>[[]]
 |k+1=>qZ (yM n k) n
def zBb (rows:List (List Nat))(n:Nat):Option (List Nat):=((bg n).flatMap fun k=>yM n (k+1)).find? (yX rows)
theorem zCm (l:List Nat)(x:Nat):vO (l++[x])=x+1:=by unfold vO;rw[mQ];rfl
theorem zCn {n:Nat}:∀{k:Nat}{l:List Nat},l∈yM n k->l.length=k/\k<=vO l/\vO l<=n
 |0,l,h=>by
  have:l=[]:=by simpa [yM]using h
  subst this
  exact⟨rfl,aH _,bX _⟩
 |k+1,l,h=>by
  obtain⟨m,a,hl⟩:=bY.mp (show l∈(yM n k).flatMap _ from h)
  obtain⟨j,b,rfl⟩:=aX.mp hl
  have c:=bR.mp b
  obtain⟨d,e,f⟩:=zCn a
  refine⟨by rw[aq,d];rfl,?_,?_⟩
  ·rw[zCm];omega
  ·rw[zCm];omega
theorem zFM {n k:Nat}{l:List Nat}(h:l∈yM n k):k<=n:=by obtain⟨_,a,b⟩:=zCn h;omega
theorem zIs (n:Nat):∀k,(yM n k).length<=n^k
 |0=>by simp[yM]
 |k+1=>by
  have:=zFL n (yM n k)
  have ih:=zIs n k
  show(qZ (yM n k) n).length<=n^k*n
  exact b8 this (Nat.mul_le_mul_right n ih)
theorem zIt {n k:Nat}(h:yM n k=[]):∀j,yM n (k+j)=[]
 |0=>h
 |j+1=>by
  show qZ (yM n (k+j)) n=[]
  rw[zIt h j];rfl
theorem zPr {α:Type}{p:α->Bool}{l:List α}{i:Nat}{x:α}(e:l[i]?=some x)(a:p x=true)(h:∀y∈l.take i,p y=false):l.find? p=some x:=by
 have hi:=(aa.mp e).1
 have hd:l=l.take i++x::l.drop (i+1):=by
  have b:l.take (i+1)=l.take i++[x]:=by rw[ak hi,(aa.mp e).2]
  have:=(mx (i+1) l).symm
  rw[b]at this
  simpa using this
 rw[hd,ku]
 have c:(l.take i).find? p=none:=eR.mpr fun y d=>by rw[h y d];exact aI
 rw[c]
 simp[eF,a]
theorem zPs {α:Type}{p:α->Bool}{f:Nat->List α}{n k:Nat}{x:α}(r:k<n)(h:∀j,j<k->(f j).find? p=none)(b:(f k).find? p=some x):((bg n).flatMap f).find? p=some x:=by
 have e:bg n=bg k++k::(bg (n-k-1)).map (fun j=>k+1+j):=by
  have c:n=k+(n-k):=by omega
  have d:n-k=(n-k-1)+1:=by omega
  rw[c,List.range_add]
  congr 1
  have g:k+(n-k)-k-1=n-k-1:=by omega
  rw[g,d,l3,ba,cp]
  congr 1
  have i:n-k-1+1-1=n-k-1:=by omega
  rw[i]
  refine dw fun a _=>?_
  show k+(a+1)=k+1+a
  omega
 rw[e,gr,ku]
 have l:((bg k).flatMap f).find? p=none:=by
  refine eR.mpr fun y m=>?_
  obtain⟨j,o,q⟩:=bY.mp m
  exact eR.mp (h j (bR.mp o)) y q
 rw[l,eY,ku,b];rfl
section
variable{P:aP}{w:bc}{K:ae}{mg:Str->Option ah}{base:bK}
theorem zFN {H:Hp}:∀{ls:List (List Nat)}{vs:List V},LsAt H vs ls->Reps K H (ls.map yR) vs
 | [],vs,h=>by
  have:vs=[]:=cX.mp h.len
  exact this
 |l::ls,[],h=>by have:=h.len;simp at this
 |l::ls,v::vs,h=>by
  obtain⟨a,e,f⟩:=h.at_ 0 v l rfl rfl
  refine⟨v,vs,rfl,by rw[e];exact jL f,zFN ⟨by have:=h.len;simpa using this,fun i u m b c=>h.at_ (i+1) u m (by simpa using b) (by simpa using c)⟩⟩
theorem zIu (ls:List (List Nat)):cn (.list (ls.map yR))=true:=by
 refine(zEY fun d hd=>?_).1
 obtain⟨l,_,rfl⟩:=aX.mp hd
 unfold yR
 have go:∀ns:List Int,dq (ns.map PyData.int)<=1:=by
  intro ns
  induction ns with
  |nil=>decide
  |cons n ns ih=>rw[ba];simp only[dq,d5];omega
 have g:=go (l.map fun(i:Nat)=>(i:Int))
 simp only[dC,d5]
 exact⟨zCV _,by omega⟩
def zPt (H:Hp)(v:V):Option (List Nat)->Prop
 |none=>v=.non
 |some l=>∃a,v=.ref a/\H a=some (.lst (zI l))
def zFO:Sp:=fun vs H Q _=>∃(b:ai) (bk:List S) (o:Nat) (nm:S),vs=[.ref b,.int o,sv nm]/\H b=some (.tup (zR bk))/\Bk bk o/\vW nm/\bk.length<=4/\∀v H',zA H H'->zPt H' v (zBb (vI bk o nm) bk.length)->Q v H'
abbrev zCo:cJ:=top 49
theorem zFP:FnScope ["book","order","name","by_step","lists","places"] ["book","order","name"] (defScope zCo):=yC
theorem zPu {f:ai}{fd:aO}(F:Fun K "needed" "needed" zCo f fd)(B:Blt mg)(N:Needs P w K mg base)(cP:zQ P w K mg base 4 "places_by_step" ["book","order","name"] zFC)(cA:zQ P w K mg base 2 "alone_make" ["by_step","places"] zFF)(cL:zQ P w K mg base 1 "longer_lists" ["lists","many"] zIq) :
  FnOk P w K mg base zU 5 f fd ["book","order","name"] zFO:=by
 refine F.ok zFP (fun vs H Q E h=>?_) (fun cdv A outer s H vs Q E hr h=>?_)
 ·obtain⟨b,bk,o,nm,rfl,_⟩:=h;rfl
 ·obtain⟨b,bk,o,nm,rfl,hb,hB,hn,h4,k⟩:=h
  have nd:=zFP.nd
  have hu:=hr.units
  have hr3:=hr.mono (j:=3) (by decide)
  have hr2:=hr.mono (j:=2) (by decide)
  have hr1:=hr.mono (j:=1) (by decide)
  refine⟨_,zG (yP (zL N.bk hr3 rfl (zB (pv 0) zC))) (zG (yP (zL N.od hr3 rfl (zB (pv 1) zC))) (zG (yP (zL N.nm hr2 rfl (zB (pv 2) zC)))
   (zG (zX (i:=3) nd rfl (Or.inl rfl) (zL cP hr rfl (zB (pv 0) (zB (pv 1) (zB (pv 2) zC)))))
   (zG (zX (i:=4) nd rfl (Or.inl rfl) (yE (zB (yE zC) zC)))
   (zG (zDG bI (vF (kX hu) (pv 4) (yE zC) (yY _))
    (zG (zX (i:=4) nd rfl (Or.inl rfl) (zL cL hr1 rfl (zB (pv 4) (zB (zZ jE (by rfl) B.len bQ (zB (pv 0) zC)) zC))))
    (zH (uA bI rfl (vQ (pv 4)) (zY (i:=5) nd rfl (Or.inl rfl))
     (zH (yK (vC (zL cA hr2 rfl (zB (pv 3) (zB (pv 5) zC)))) (zH (zT (pv 5))) yJ))))))
   (zH (zT uS))))))),?_⟩
  refine⟨_,rfl,b,bk,rfl,hb,hB.toisBk,fun H1 s1=>?_⟩
  refine⟨_,rfl,o,rfl,hB.o1,hB.o3,?_⟩
  refine⟨_,rfl,nm,rfl,hn,fun H2 s2=>?_⟩
  have s02:=s1.trans s2
  refine⟨_,rfl,_,rfl,_,rfl,b,bk,o,nm,rfl,s02 _ _ hb,hB,hn,fun lr xr H3 s3 hlr lsr=>?_⟩
  have s03:=s02.trans s3
  have rl:(vI bk o nm).length<=100:=by
   unfold vI zM
   rw[af,af,bh]
   have:=hn.2.1;omega
  generalize hrows:vI bk o nm=rows at k lsr rl
  have ebk:(zR bk).length=bk.length:=af ..
  obtain⟨n,en⟩:∃n,n=bk.length:=⟨_,rfl⟩
  rw[<-en]at k h4 ebk
  refine⟨by show 0<=sizeLine;decide,fun p0 hp0=>?_⟩
  have t0:zA H3 (upd H3 p0 (.lst [])):=zA.upd1 hp0
  refine⟨by show 1<=sizeLine;decide,fun p1 hp1=>?_⟩
  have t1:=t0.trans (zA.upd1 (o:=.lst [.ref p0]) hp1)
  have ls0:LsAt (upd (upd H3 p0 (.lst [])) p1 (.lst [.ref p0])) [.ref p0] (yM n 0):=LsAt.snoc LsAt.nil (zA.upd1 hp1 _ _ zD)
  have hp11:(upd (upd H3 p0 (.lst [])) p1 (.lst [.ref p0])) p1=some (.lst [.ref p0]):=zD
  have hlr1:=t1 _ _ hlr
  have lsr1:=lsr.same t1
  have s04:=s03.trans t1
  generalize upd (upd H3 p0 (.lst [])) p1 (.lst [.ref p0])=H4 at t1 ls0 hp11 hlr1 lsr1 s04
  clear t1 t0 hp0 hp1 lsr hlr s03 s3 s02 s2 s1 H1 H2 H3
  refine⟨fun m σ H'=>∃(j:Nat) (lk:ai) (xk:List V) (y:Option V),m=n+2-j/\j<=n+1/\σ=[some (.ref b),some (.int (o:Int)),some (sv nm),some (.ref lr),some (.ref lk),y]/\zA H4 H'/\H' lk=some (.lst xk)/\LsAt H' xk (yM n j)/\∀i,i<j->(yM n (i+1)).find? (yX rows)=none,
   ⟨n+2,0,p1,_,_,rfl,by omega,rfl,zA.refl _,hp11,ls0,fun i hi=>absurd hi (me _)⟩,?_⟩
  rintro m σ H' ⟨j,lk,xk,y,rfl,hj,rfl,sm,hlk,lsk,hno⟩
  refine⟨_,rfl,by show 0<=sizeLine;decide,fun e1 he1=>?_⟩
  have t1:zA H' (upd H' e1 (.lst [])):=zA.upd1 he1
  refine⟨.list ((yM n j).map yR),.list [],⟨lk,_,rfl,.of (t1 _ _ hlk),zFN (lsk.same t1)⟩,⟨e1,[],rfl,.of zD,rfl⟩,zIu _,rfl,_,rfl,?_⟩
  rw[zPl,List.isEmpty_map]
  have hlk1:=t1 _ _ hlk
  have lsk1:=lsk.same t1
  have sm1:=sm.trans t1
  generalize upd H' e1 (.lst [])=HA at hlk1 lsk1 sm1
  clear t1 he1 hlk lsk sm H'
  cases hem:(yM n j).isEmpty with
  |true=>
   refine yI ?_
   refine k .non HA (s04.trans sm1) ?_
   have hnil:yM n j=[]:=List.isEmpty_iff.mp hem
   have:zBb rows n=none:=by
    unfold zBb
    refine eR.mpr fun x hx=>?_
    obtain⟨i,_,hm⟩:=bY.mp hx
    by_cases hi:i<j
    ·exact eR.mp (hno i hi) x hm
    ·have e:i+1=j+(i+1-j):=by omega
     rw[e,zIt hnil]at hm;cases hm
   rw[this];exact rfl
  |false=>
   obtain⟨l0,hl0⟩:∃l,l∈yM n j:=by
    cases e:yM n j with
    |nil=>rw[e]at hem;cases hem
    |cons x r=>exact⟨x,ar ..⟩
   have hjn:j<=n:=zFM hl0
   refine yL ⟨fun σ' H''=>∃(lk:ai) (xk:List V) (y:Option V),σ'=[some (.ref b),some (.int (o:Int)),some (sv nm),some (.ref lr),some (.ref lk),y]/\zA H4 H''/\H'' lk=some (.lst xk)/\LsAt H'' xk (yM n (j+1))/\∀i,i<j+1->(yM n (i+1)).find? (yX rows)=none,?_,?_⟩
   ·rintro σ' H'' ⟨lk',xk',y',rfl,sm',h1,h2,h3⟩
    exact⟨n+2- (j+1),by omega,j+1,lk',xk',y',rfl,by omega,rfl,sm',h1,h2,h3⟩
   ·have lim:(yM n j).length<=1000:=by
     have h1:=zIs n j
     have h2:n^j<=4^j:=mZ h4 _
     have h3:(4:Nat)^j<=4^4:=cq (by decide) (by omega)
     have h5:(4:Nat)^4=256:=by decide
     omega
    refine⟨_,rfl,_,rfl,b,zR bk,rfl,.inr (.of (s04.trans sm1 _ _ hb)),lk,xk,yM n j,n,by rw[ebk];rfl,hlk1,lsk1,lim,by omega,fun l hl=>?_,fun p2 ys HB sB hp2 ls2=>?_⟩
    ·obtain⟨c1,c2,c3⟩:=zCn hl
     exact⟨by omega,by omega⟩
    have sm2:=sm1.trans sB
    refine⟨_,rfl,p2,rfl,⟨_,.of hp2⟩,?_⟩
    have yl:=ls2.len
    refine uG (vH K p2 ys) (fun i σ H'=>(∃y:Option V,σ=[some (.ref b),some (.int (o:Int)),some (sv nm),some (.ref lr),some (.ref p2),y])/\zA HB H'/\∀l∈(yM n (j+1)).take i,yX rows l=false)
     ⟨⟨_,rfl⟩,zA.refl _,fun l hl=>by cases hl⟩ (fun i σ H' _ h=>.of (h.2.1 _ _ hp2)) ?_ ?_
    ·rintro i x σ H' Nx hN hx ⟨⟨y1,rfl⟩,sm,hal⟩
     obtain⟨a1,l,el0,rfl,h1⟩:=ls2.get hx
     have el:(yM n (j+1))[i]?=some l:=el0
     have hlm:l∈yM n (j+1):=aS el
     obtain⟨c1,_,_⟩:=zCn hlm
     have hjn1:=zFM hlm
     refine⟨_,rfl,_,rfl,lr,a1,xr,rows,l,rfl,(sm2.trans sm) _ _ hlr1,lsr1.same (sm2.trans sm),rl,sm _ _ h1,by omega,fun HC sC=>⟨_,rfl,?_⟩⟩
     cases ea:yX rows l with
     |true=>
      refine yL ⟨_,rfl,?_⟩
      refine k _ HC (((s04.trans sm2).trans sm).trans sC) ?_
      have:zBb rows n=some l:=zPs (k:=j) (by omega) (fun i hi=>hno i hi) (zPr el ea hal)
      rw[this]
      exact⟨a1,rfl,sC _ _ (sm _ _ h1)⟩
     |false=>
      refine yI (hN _ _ ⟨⟨_,rfl⟩,sm.trans sC,fun l' hl'=>?_⟩)
      rw[ak (aa.mp el).1,(aa.mp el).2]at hl'
      rcases bP.mp hl' with z|z
      ·exact hal l' z
      ·have:l'=l:=by simpa using z
       rw[this];exact ea
    ·rintro σ H' ⟨⟨y1,rfl⟩,sm,hal⟩
     have yl':ys.length=(yM n (j+1)).length:=yl
     rw[yl',aV]at hal
     refine⟨p2,ys,_,rfl,sm2.trans sm,sm _ _ hp2,ls2.same sm,fun i hi=>?_⟩
     by_cases hij:i<j
     ·exact hno i hij
     ·have:i=j:=by omega
      subst this
      exact eR.mpr fun x hx=>by rw[hal x hx];exact aI
end
end Kn
end
section
namespace Kn
theorem zPv (a:List (S×S))(e l:S):yQ a e l=(0,1)\/0<(yQ a e l).1:=by
 by_cases h:(e,l)∈a
 ·exact .inr (zGz h)
 ·exact .inl (zHA h)
theorem zIv (a:List (S×S)):∀(b:List (S×S)) (w:Int×Int),Fq w->(∃q∈b,(yQ a q.1 q.2).1=0)->b.foldl (fun w p=>v5 w (yQ a p.1 p.2)) w=(0,1)
 | [],_,_,h=>by obtain⟨q,d,_⟩:=h;cases d
 |q::b,w,f,h=>by
  rw[eW]
  rcases zPv a q.1 q.2 with e|e
  ·rw[e,zMM f];exact zHD a b
  ·refine zIv a b _ (zAr f (gA ..)) ?_
   obtain⟨r,g,c⟩:=h
   rcases aQ.mp g with z|z
   ·rw[z]at c;omega
   ·exact⟨r,z,c⟩
end Kn
end
section
namespace Kn
open PySem L2
def vB:Nat->List (List Nat)
 |0=>[[]]
 |k+1=>vB k++(vB k).map fun l=>l++[k]
theorem zPw {l:List Nat}:zBF l=true↔l.Pairwise (· < ·):=by
 unfold zBF
 induction l with
 |nil=>simp
 |cons x l ih=>
  cases l with
  |nil=>simp
  |cons y r=>
   have e:(x::y::r).zip ((x::y::r).drop 1)=(x,y)::(y::r).zip ((y::r).drop 1):=rfl
   rw[e,kz,bz,ih]
   constructor
   ·rintro⟨c,b⟩
    have a:x<y:=of_decide_eq_true c
    refine cg.mpr ⟨fun z d=>?_,b⟩
    rcases aQ.mp d with e|e
    ·rw[e];exact a
    ·exact rf a ((cg.mp b).1 z e)
   ·intro h
    obtain⟨c,b⟩:=cg.mp h
    exact⟨decide_eq_true (c y (ar ..)),b⟩
theorem zPx {n:Nat}{l:List Nat}:zAQ n l=true↔(∀p∈l,p<n)/\l.Pairwise (· < ·):=by
 unfold zAQ
 rw[bz,zPw,cw]
 constructor
 ·rintro⟨a,b⟩;exact⟨fun p c=>of_decide_eq_true (a p c),b⟩
 ·rintro⟨a,b⟩;exact⟨fun p c=>decide_eq_true (a p c),b⟩
theorem qR:∀{n:Nat}{l:List Nat},l∈vB n↔(∀p∈l,p<n)/\l.Pairwise (· < ·)
 |0,l=>by
  show l∈[[]]↔_
  constructor
  ·intro h
   have:l=[]:=by simpa using h
   subst this;exact⟨fun p c=>(by cases c),List.Pairwise.nil⟩
  ·rintro⟨h,_⟩
   cases l with
   |nil=>simp
   |cons x r=>exact absurd (h x (ar ..)) (me _)
 |n+1,l=>by
  show l∈vB n++(vB n).map (fun l=>l++[n])↔_
  rw[bP,qR,aX]
  constructor
  ·rintro(⟨d,f⟩|⟨m,g,rfl⟩)
   ·exact⟨fun p c=>di (d p c),f⟩
   ·obtain⟨d,f⟩:=qR.mp g
    refine⟨fun p c=>?_,cY.mpr ⟨f,iw _ _,fun a i b j=>?_⟩⟩
    ·rcases bP.mp c with z|z
     ·exact di (d p z)
     ·have:p=n:=by simpa using z
      omega
    ·have:b=n:=by simpa using j
     rw[this];exact d a i
  ·rintro⟨d,f⟩
   rcases dU l with rfl|⟨m,x,rfl⟩
   ·exact .inl ⟨fun p c=>(by cases c),List.Pairwise.nil⟩
   ·rw[eT]at*
    obtain⟨g1,_,g3⟩:=cY.mp f
    have o:=d x (by simp)
    have below:∀p∈m,p<x:=fun p c=>g3 p c x (by simp)
    by_cases e:x=n
    ·subst e
     exact .inr ⟨m,qR.mpr ⟨below,g1⟩,rfl⟩
    ·refine .inl ⟨fun p c=>?_,f⟩
     rcases bP.mp c with z|z
     ·have:=below p z;omega
     ·have:p=x:=by simpa using z
      omega
theorem zIw {c l:List Nat}:gE c l=true↔∃p∈l,p∈c:=by
 unfold gE
 rw[gf]
 constructor
 ·rintro⟨p,a,b⟩;exact⟨p,a,of_decide_eq_true b⟩
 ·rintro⟨p,a,b⟩;exact⟨p,a,decide_eq_true b⟩
theorem zFQ {rows:List (List Nat)}{l:List Nat}:yX rows l=true↔∀a∈rows,∃p∈l,p∈a:=by
 unfold yX
 rw[cw]
 constructor
 ·intro h a b;exact zIw.mp (h a b)
 ·intro h a b;exact zIw.mpr (h a b)
theorem zIx {rows:List (List Nat)}{l m:List Nat}(h:∀p∈l,p∈m)(a:yX rows l=true):yX rows m=true :=
 zFQ.mpr fun b c=>let⟨p,d,e⟩:=zFQ.mp a b c;⟨p,h p d,e⟩
theorem zFR {l m:List Nat}:m∈v7 l↔∃i,i<l.length/\m=l.take i++l.drop (i+1):=by
 unfold v7
 rw[aX]
 constructor
 ·rintro⟨i,h,e⟩;exact⟨i,bR.mp h,e.symm⟩
 ·rintro⟨i,h,e⟩;exact⟨i,bR.mpr h,e.symm⟩
theorem zFS {l:List Nat}{i:Nat}(h:i<l.length):l=l.take i++l[i]::l.drop (i+1):=by
 have a:l.take (i+1)=l.take i++[l[i]]:=ak h
 have:=(mx (i+1) l).symm
 rw[a]at this
 simpa using this
theorem zPy {l m:List Nat}(h:m∈v7 l):m.Sublist l/\m.length+1=l.length:=by
 obtain⟨i,hi,rfl⟩:=zFR.mp h
 refine⟨?_,by rw[aq,aL,cC];omega⟩
 have:=zFS hi
 conv=>rhs;rw[this]
 exact r0 (sy _) (List.sublist_cons_self _ _)
theorem zPz {l:List Nat}(d:l.Pairwise (· < ·)){x:Nat}(c:x∈l):∃m∈v7 l,∀p∈l,p≠x->p∈m:=by
 obtain⟨i,hi,e⟩:=dv c
 refine⟨_,zFR.mpr ⟨i,hi,rfl⟩,fun p b a=>?_⟩
 rw[zFS hi]at b
 rcases bP.mp b with z|z
 ·exact bS _ z
 ·rcases aQ.mp z with y|y
  ·exact absurd (y.trans e) a
  ·exact aT _ y
theorem zQA {rows:List (List Nat)}{n:Nat}{l:List Nat}:zAR rows n l=true↔l∈vB n/\yX rows l=true/\∀m∈v7 l,yX rows m=false:=by
 unfold zAR
 rw[bz,bz,zPx,<-qR]
 constructor
 ·rintro⟨⟨b,c⟩,a⟩
  refine⟨b,c,fun m d=>?_⟩
  cases e:yX rows m with
  |false=>rfl
  |true=>
   have:(v7 l).any (fun m=>yX rows m)=true:=gf.mpr ⟨m,d,e⟩
   rw[this]at a;cases a
 ·rintro⟨b,c,a⟩
  refine⟨⟨b,c⟩,?_⟩
  have:(v7 l).any (fun m=>yX rows m)=false:=nI.mpr fun m d=>by rw[a m d];exact aI
  rw[this];rfl
theorem zIy {bk:List S}{o:Nat}{q:S×S}{p:Nat}:p∈plW bk o q↔∃t,bk[p]?=some t/\q∈zM o t:=by
 unfold plW
 rw[bF,bR]
 constructor
 ·rintro⟨b,a⟩
  have e:bk[p]?=some bk[p]:=ax b
  rw[e]at a
  exact⟨bk[p],e,of_decide_eq_true a⟩
 ·rintro⟨t,e,h⟩
  refine⟨(aa.mp e).1,?_⟩
  rw[e];exact decide_eq_true h
theorem zIz {bk:List S}{o:Nat}{nm:S}{a:List Nat}:a∈vI bk o nm↔∃q∈zM o nm,a=plW bk o q:=by
 unfold vI
 rw[aX]
 constructor
 ·rintro⟨q,h,e⟩;exact⟨q,h,e.symm⟩
 ·rintro⟨q,h,e⟩;exact⟨q,h,e.symm⟩
theorem zJA {bk:List S}{o:Nat}{nm:S}{l:List Nat}:yX (vI bk o nm) l=true↔∀q∈zM o nm,∃p∈l,∃t,bk[p]?=some t/\q∈zM o t:=by
 rw[zFQ]
 constructor
 ·intro h q a
  obtain⟨p,b,c⟩:=h _ (zIz.mpr ⟨q,a,rfl⟩)
  exact⟨p,b,zIy.mp c⟩
 ·intro h e d
  obtain⟨q,a,rfl⟩:=zIz.mp d
  obtain⟨p,b,c⟩:=h q a
  exact⟨p,b,zIy.mpr c⟩
theorem zJB {a:List (S×S)}{o:Nat}{nm:S}:0<(uB a o nm).1↔∀q∈zM o nm,q∈a:=by
 constructor
 ·intro h q b
  refine pU fun c=>?_
  have e:uB a o nm=(0,1):=zIv a (zM o nm) (1,1) gS ⟨q,b,by rw[zHA c]⟩
  rw[e]at h;cases h
 ·intro h;exact zHC a (zM o nm) (1,1) gS (by decide) h
theorem zQB {bk:List S}{o:Nat}{nm:S}:yX (vI bk o nm) []=false:=by
 cases e:yX (vI bk o nm) []with
 |false=>rfl
 |true=>
  obtain⟨r,a⟩:=zMS o nm
  obtain⟨p,b,_⟩:=zJA.mp e _ (by rw[a];exact ar ..)
  cases b
theorem zQC:∀{l:List Nat},l.Pairwise (· < ·)->∀p∈l,p<vO l:=by
 intro l b p a
 rcases dU l with rfl|⟨m,x,rfl⟩
 ·cases a
 ·rw[eT]at*
  rw[zCm]
  rcases bP.mp a with z|z
  ·have:=(cY.mp b).2.2 p z x (by simp)
   omega
  ·have:p=x:=by simpa using z
   omega
theorem zQD {l:List Nat}{x:Nat}(h:∀p∈l,p<x):vO l<=x:=by
 rcases dU l with rfl|⟨m,y,rfl⟩
 ·exact bX _
 ·rw[eT]at*
  rw[zCm];exact h y (by simp)
theorem kG {n:Nat}:∀{k:Nat}{l:List Nat},l∈yM n k↔l∈vB n/\l.length=k
 |0,l=>by
  show l∈[[]]↔_
  constructor
  ·intro h
   have:l=[]:=by simpa using h
   subst this
   exact⟨qR.mpr ⟨fun p c=>(by cases c),List.Pairwise.nil⟩,rfl⟩
  ·rintro⟨_,h⟩
   rw[cX.mp h];simp
 |k+1,l=>by
  show l∈(yM n k).flatMap (fun l=>qI l n)↔_
  rw[bY]
  constructor
  ·rintro⟨m,g,hl⟩
   obtain⟨j,o,rfl⟩:=aX.mp hl
   have q:=bR.mp o
   obtain⟨i,d⟩:=kG.mp g
   obtain⟨e,f⟩:=qR.mp i
   refine⟨qR.mpr ⟨fun p c=>?_,cY.mpr ⟨f,iw _ _,fun a r b s=>?_⟩⟩,by rw[aq,d];rfl⟩
   ·rcases bP.mp c with z|z
    ·exact e p z
    ·have:p=vO m+j:=by simpa using z
     omega
   ·have:b=vO m+j:=by simpa using s
    have:=zQC f a r
    omega
  ·rintro⟨i,d⟩
   obtain⟨e,f⟩:=qR.mp i
   rcases dU l with rfl|⟨m,x,rfl⟩
   ·cases d
   ·rw[eT]at*
    obtain⟨g1,_,g3⟩:=cY.mp f
    have u:=e x (by simp)
    have g:m∈yM n k:=kG.mpr ⟨qR.mpr ⟨fun p c=>e p (by simp[c]),g1⟩,by rw[aq]at d;exact iL d⟩
    have t:=zQD (l:=m) (x:=x) fun p c=>g3 p c x (by simp)
    refine⟨m,g,aX.mpr ⟨x-vO m,bR.mpr (by omega),?_⟩⟩
    show m++[vO m+(x-vO m)]=m++[x]
    congr 2;omega
theorem zJC:∀{l m u v:List Nat},l.length=m.length->l<m->l++u<m++v
 | [],[],_,_,_,h=>absurd h (fX _)
 | [],_::_,_,_,e,_=>by cases e
 |_::_,[],_,_,e,_=>by cases e
 |a::l,b::m,u,v,e,h=>by
  rw[dt,dt]
  rcases cO.mp h with c|⟨c,d⟩
  ·exact cO.mpr (.inl c)
  ·exact cO.mpr (.inr ⟨c,zJC (iL e) d⟩)
theorem zQE (l:List Nat){a b:Nat}(h:a<b):l++[a]<l++[b]:=by
 induction l with
 |nil=>exact cO.mpr (.inl h)
 |cons x l ih=>rw[dt,dt];exact cO.mpr (.inr ⟨rfl,ih⟩)
theorem zJD (n:Nat):∀k,(yM n k).Pairwise (· < ·)
 |0=>iw _ _
 |k+1=>by
  show((yM n k).flatMap fun l=>qI l n).Pairwise (· < ·)
  rw[my]
  refine⟨fun l _=>?_,?_⟩
  ·unfold qI
   rw[dy]
   exact l7.imp fun h=>zQE l (by omega)
  ·refine(zJD n k).imp_of_mem fun{a b} d e c x f y g=>?_
   obtain⟨i,_,rfl⟩:=aX.mp f
   obtain⟨j,_,rfl⟩:=aX.mp g
   exact zJC ((kG.mp d).2.trans (kG.mp e).2.symm) c
def ltK (a b:List Nat):Prop:=a.length<b.length\/(a.length=b.length/\a<b)
def qJ (n:Nat):List (List Nat):=(bg n).flatMap fun k=>yM n (k+1)
theorem zJE (n:Nat):(qJ n).Pairwise ltK:=by
 unfold qJ
 rw[my]
 refine⟨fun k _=>(zJD n (k+1)).imp_of_mem fun{a b} d e c=>.inr ⟨(kG.mp d).2.trans (kG.mp e).2.symm,c⟩,?_⟩
 exact l7.imp fun{i j} f x g y h=>.inl (by rw[(kG.mp g).2,(kG.mp h).2];omega)
theorem zCp {n:Nat}{l:List Nat}:l∈qJ n↔l∈vB n/\l≠[]:=by
 unfold qJ
 rw[bY]
 constructor
 ·rintro⟨k,_,h⟩
  obtain⟨b,a⟩:=kG.mp h
  exact⟨b,fun z=>by rw[z]at a;cases a⟩
 ·rintro⟨b,a⟩
  have hl:0<l.length:=List.length_pos_iff.mpr a
  have c:l∈yM n (l.length-1+1):=kG.mpr ⟨b,by omega⟩
  exact⟨l.length-1,bR.mpr (by have:=zFM c;omega),c⟩
theorem zJF {a b:List Nat}(c:ltK a b)(d:ltK b a):False:=by
 rcases c with c|⟨e,c⟩<;>rcases d with d|⟨f,d⟩
 ·omega
 ·omega
 ·omega
 ·exact absurd (m9 c d) (fX _)
end Kn
end
section
namespace L2
open PySem PySem.Spec PyProof.Rows
def zBG (i:Int):Prop:=0<=i/\i<1606938044258990275541962092341162602522202993782792835301376
theorem zBG.bits {i:Int}(h:zBG i):m3 i<=2^20:=by
 unfold m3
 split
 ·exact bX _
 ·rename_i hz
  have hz':¬i=0:=fun z=>hz (by rw[z];rfl)
  have h0:=h.1
  have h1:=h.2
  have h3 : i.natAbs.log2<200 :=(Nat.log2_lt (by omega)).mpr (by have e : 2^200=1606938044258990275541962092341162602522202993782792835301376 :=by decide
                                                                 rw[e];omega)
  have e2:2^20=1048576:=by decide
  omega
theorem zJG {X:Cx}:yN X (binaryOp .Mult) (rI (fun i j=>zBG i/\zBG j) fun i j=>.int (i*j)):=opI fun _ _ _ _ _ _ _ a q=>mul_int q (IntMulOk.of_bits a.1.bits a.2.bits)
end L2
end
section
namespace Kn
open PySem L2
section
variable{P:aP}{w:bc}{K:ae}{mg:Str->Option ah}{base:bK}
structure Vx (q:Int×Int):Prop extends Fq q where
 u1:q.1<1267650600228229401496703205376
 d1:q.2<1267650600228229401496703205376
theorem Sm.vx {q:Int×Int}(h:Sm q):Vx q:=⟨h.toFq,by have:=h.u1;omega,by have:=h.d1;omega⟩
theorem Vx.bu {p:Int×Int}(a:Vx p):zBG p.1:=⟨a.up,by have:=a.u1;omega⟩
theorem Vx.bd {p:Int×Int}(a:Vx p):zBG p.2:=⟨cZ a.dn,by have:=a.d1;omega⟩
def zJH (K:ae):Sp:=fun vs H Q _=>∃(x y:V) (p q:Int×Int),vs=[x,y]/\yV K H x p/\yV K H y q/\Vx p/\Vx q/\Q (.bl (lss p q)) H
theorem zQF {f:ai}{fd:aO}(F:Fun K "is_less" "is_less" zCS f fd):FnOk P w K mg base zU 1 f fd ["one","other"] (zJH K):=by
 refine F.ok zHa (fun vs H Q E h=>?_) (fun g A outer s H vs Q E i h=>?_)
 ·obtain⟨x,y,p,q,rfl,_⟩:=h;rfl
 ·obtain⟨x,y,p,q,rfl,⟨a,rfl,d⟩,⟨b,rfl,e⟩,sp,c,k⟩:=h
  refine⟨_,zH (zT (kQ zBn (zP zJG (yS uI (pv 0) zF (fun _ _=>rfl)) (yS uI (pv 1) zF (fun _ _=>rfl))) (zP zJG (yS uI (pv 1) zF (fun _ _=>rfl)) (yS uI (pv 0) zF (fun _ _=>rfl))) (yY _))),?_⟩
  have j:=sp.up;have l:=c.up
  refine⟨_,rfl,a,_,0,_,rfl,rfl,d,rfl,_,rfl,b,_,1,_,rfl,rfl,e,rfl,_,_,rfl,rfl,⟨sp.bu,c.bd⟩,?_⟩
  exact⟨_,rfl,b,_,0,_,rfl,rfl,e,rfl,_,rfl,a,_,1,_,rfl,rfl,d,rfl,_,_,rfl,rfl,⟨c.bu,sp.bd⟩,_,_,rfl,rfl,k⟩
end
def jU (st:Option Nat×(Int×Int))(i:Nat)(q:Int×Int):Option Nat×(Int×Int):=if lss st.2 q=true then(some i,q)else st
def uK:List (Int×Int)->Nat->Option Nat×(Int×Int)->Option Nat×(Int×Int)
 | [],_,st=>st
 |q::qs,i,st=>uK qs (i+1) (jU st i q)
def zCq (qs:List (Int×Int)):Option Nat:=(uK qs 0 (none,(0,1))).1
theorem zFT:∀(a:List (Int×Int)) (q:Int×Int) (i:Nat) (st:Option Nat×(Int×Int)),uK (a++[q]) i st=jU (uK a i st) (i+a.length) q
 | [],q,i,st=>rfl
 |r::a,q,i,st=>by
  show uK (a++[q]) (i+1) (jU st i r)=jU (uK a (i+1) (jU st i r)) (i+(a.length+1)) q
  rw[zFT a q (i+1)]
  congr 1;omega
def qS:Option Nat->V
 |none=>.non
 |some i=>.int i
section
variable{P:aP}{w:bc}{K:ae}{mg:Str->Option ah}{base:bK}
structure FrsAt (K:ae) (H:Hp) (vs:List V) (qs:List (Int×Int)):Prop where
 len:vs.length=qs.length
 at_:∀(i:Nat) (v:V) (q:Int×Int),vs[i]?=some v->qs[i]?=some q->yV K H v q
def zJI (K:ae):Sp:=fun vs H Q _=>∃(l:ai) (xs:List V) (qs:List (Int×Int)),vs=[.ref l]/\H l=some (.lst xs)/\FrsAt K H xs qs/\(∀q∈qs,Vx q)/\∀H',zA H H'->Q (qS (zCq qs)) H'
abbrev zFU:cJ:=top 34
theorem zJJ:FnScope ["fractions","found","greatest","place","fraction"] ["fractions"] (defScope zFU):=yC
theorem zQG {f:ai}{fd:aO}(F:Fun K "place_of_greatest" "place_of_greatest" zFU f fd)(m:mg "enumerate"=none)(C:Cst2 K mg)(G:zQ P w K mg base 1 "is_less" ["one","other"] (zJH K)):FnOk P w K mg base zU 2 f fd ["fractions"] (zJI K):=by
 obtain⟨r,n,I⟩:=C.nought
 refine F.ok zJJ (fun vs H Q E h=>?_) (fun J A outer s H vs Q E L h=>?_)
 ·obtain⟨l,xs,a,rfl,_⟩:=h;rfl
 ·obtain⟨l,xs,a,rfl,hl,fr,M,k⟩:=h
  have nd:=zJJ.nd
  refine⟨_,zG (zX (i:=1) nd rfl (Or.inl rfl) uS)
   (zG (zX (i:=2) nd rfl (Or.inl rfl) (v3 (v:=.ref r) (by rfl) n rfl))
   (zG (uA bI rfl (zDo rfl m (zB (pv 0) zC)) (zDE rfl (u6 (zY (i:=3) nd rfl (Or.inl rfl)) (u6 (zY (i:=4) nd rfl (Or.inl rfl)) gJ)))
    (zH (yK (vC (zL G L rfl (zB (pv 2) (zB (pv 4) zC)))) (zG (zX (i:=1) nd rfl (Or.inl rfl) (pv 3)) (zH (zX (i:=2) nd rfl (Or.inl rfl) (pv 4)))) yJ)))
   (zH (zT (pv 1))))),?_⟩
  refine⟨_,rfl,l,xs,rfl,hl,?_⟩
  refine zMG (K:=K) (xs:=xs) (fun i σ H'=>∃(g:V) (y z:Option V),σ=[some (.ref l),some (qS (uK (a.take i) 0 (none,(0,1))).1),some g,y,z]/\zA H H'/\yV K H' g (uK (a.take i) 0 (none,(0,1))).2/\Vx (uK (a.take i) 0 (none,(0,1))).2)
   ⟨_,_,_,rfl,zA.refl H,⟨r,rfl,I _⟩,⟨zCG,(by show(0:Int)<_;decide),(by show(1:Int)<_;decide)⟩⟩ (fun i σ H' _ h=>by obtain⟨_,_,_,_,h,_⟩:=h;exact .of (h _ _ hl)) ?_ ?_
  ·rintro i x T σ H' O t u ⟨g,y,z,rfl,d,o,p⟩ N
   have hi:i<xs.length:=(aa.mp u).1
   have c:i<a.length:=by rw[<-fr.len];exact hi
   have eq:a[i]?=some a[i]:=ax c
   have e:zA H' (upd H' T (.tup [.int i,x])):=zA.upd1 N
   have B:=M a[i] (cD c)
   have D:yV K (upd H' T (.tup [.int i,x])) x a[i]:=(fr.at_ i x a[i] u eq).same (d.trans e)
   have b:uK (a.take (i+1)) 0 (none,(0,1))=jU (uK (a.take i) 0 (none,(0,1))) i a[i]:=by
    rw[ak c,zFT]
    congr 1
    rw[aL];omega
   refine⟨T,_,rfl,.of zD,rfl,_,_,rfl,_,_,rfl,rfl,?_⟩
   refine⟨_,rfl,_,rfl,g,x,_,a[i],rfl,o.same e,D,p,B,?_⟩
   cases j:lss (uK (a.take i) 0 (none,(0,1))).2 a[i]with
   |true=>
    have q:jU (uK (a.take i) 0 (none,(0,1))) i a[i]=(some i,a[i]):=by unfold jU;rw[if_pos j]
    rw[q]at b
    refine⟨true,rfl,yL ⟨_,rfl,_,rfl,t _ _ ⟨x,some (.int (i:Int)),some x,?_,d.trans e,?_,?_⟩⟩⟩
    ·rw[b];rfl
    ·rw[b];exact D
    ·rw[b];exact B
   |false=>
    have q:jU (uK (a.take i) 0 (none,(0,1))) i a[i]=uK (a.take i) 0 (none,(0,1)):=by unfold jU;rw[if_neg (by rw[j];exact aI)]
    rw[q]at b
    refine⟨false,rfl,yI (t _ _ ⟨g,some (.int (i:Int)),some x,?_,d.trans e,?_,?_⟩)⟩
    ·rw[b];rfl
    ·rw[b];exact o.same e
    ·rw[b];exact p
  ·rintro σ H' ⟨g,y,z,rfl,d,o,p⟩
   rw[fr.len,aV]
   exact⟨_,rfl,k H' d⟩
end
structure BksAt (H:Hp) (l:ai) (bks:List (ai×List S)):Prop where
 lst:H l=some (.lst (bks.map fun p=>V.ref p.1))
 at_:∀p∈bks,H p.1=some (.tup (zR p.2))
theorem BksAt.same {H H':Hp}{l:ai}{bks:List (ai×List S)}(h:BksAt H l bks)(e:zA H H'):BksAt H' l bks:=⟨e _ _ h.lst,fun p a=>e _ _ (h.at_ p a)⟩
theorem zCr {bks:List (ai×List S)}{i:Nat}{x:V}(h:(bks.map fun p=>V.ref p.1)[i]?=some x):∃p,bks[i]?=some p/\x=.ref p.1:=by
 rw[aF]at h
 cases e:bks[i]? with
 |none=>rw[e]at h;cases h
 |some p=>rw[e]at h;exact⟨p,rfl,(aw h).symm⟩
section
variable{P:aP}{w:bc}{K:ae}{mg:Str->Option ah}{base:bK}
theorem FrsAt.same {H H':Hp}{vs:List V}{a:List (Int×Int)}(h:FrsAt K H vs a)(e:zA H H'):FrsAt K H' vs a:=⟨h.len,fun i v q b c=>(h.at_ i v q b c).same e⟩
theorem FrsAt.snoc {H:Hp}{vs:List V}{g:List (Int×Int)}{v:V}{q:Int×Int}(h:FrsAt K H vs g)(f:yV K H v q):FrsAt K H (vs++[v]) (g++[q]):=by
 refine⟨by rw[aq,aq,h.len];rfl,fun i u r a b=>?_⟩
 by_cases hi:i<vs.length
 ·rw[bA hi]at a
  rw[bA (by rw[<-h.len];exact hi)]at b
  exact h.at_ i u r a b
 ·have j:i=vs.length:=by
   have:=(aa.mp a).1
   rw[aq]at this
   have e:([v]:List V).length=1:=rfl
   omega
  subst j
  rw[bD (aH _),iK]at a
  rw[bD (by rw[h.len];exact aH _),h.len,iK]at b
  have c:v=u:=aw a
  have d:q=r:=aw b
  subst c d
  exact f
theorem FrsAt.nil {H:Hp}:FrsAt K H [] []:=⟨rfl,fun i v q h=>by cases h⟩
def zFV:Sp:=fun vs H Q _=>∃(l:ai) (bks:List (ai×List S)),vs=[.ref l]/\BksAt H l bks/\(∀p∈bks,isBk p.2)/\∀H',zA H H'->Q .non H'
abbrev zCs:cJ:=top 21
theorem zCt:FnScope ["thing","book"] ["thing"] (defScope zCs):=yC
theorem zQH {f:ai}{fd:aO}(F:Fun K "need_books" "need_books" zCs f fd)(B:Blt mg)(c:mg "list"=none)(e:zQ P w K mg base 3 "need_book" ["thing"] zCK):FnOk P w K mg base zU 4 f fd ["thing"] zFV:=by
 refine F.ok zCt (fun vs H Q E h=>?_) (fun g A outer s H vs Q E j h=>?_)
 ·obtain⟨l,bks,rfl,_⟩:=h;rfl
 ·obtain⟨l,bks,rfl,a,hi,k⟩:=h
  have nd:=zCt.nd
  refine⟨_,zG (yK (vP (vC (zZ u9 (by rfl) B.isinstance aJ (zB (pv 0) (zB (uU (v:=.ty "list") (by rfl) c du rfl) zC))))) (zH zBM) yJ)
   (zH (uA bI rfl (vQ (pv 0)) (zY (i:=1) nd rfl (Or.inl rfl)) (zH (yP (zL e j rfl (zB (pv 1) zC)))))),?_⟩
  refine⟨_,rfl,_,_,_,true,rfl,.lst a.lst,(by rfl),true,rfl,yI ?_⟩
  refine⟨_,rfl,l,rfl,⟨_,.of a.lst⟩,?_⟩
  refine uG (vH K l (bks.map fun p=>V.ref p.1)) (fun i σ H'=>(∃y:Option V,σ=[some (.ref l),y])/\zA H H') ⟨⟨_,rfl⟩,zA.refl H⟩ (fun i σ H' _ h=>.of (h.2 _ _ a.lst)) ?_ ?_
  ·rintro i x σ H' q m n ⟨⟨y,rfl⟩,b⟩
   obtain⟨p,ep,rfl⟩:=zCr n
   have d:=aS ep
   exact⟨_,rfl,p.1,p.2,rfl,b _ _ (a.at_ p d),hi p d,fun r o=>m _ _ ⟨⟨_,rfl⟩,b.trans o⟩⟩
  ·rintro σ H' ⟨⟨y,rfl⟩,b⟩
   exact k H' b
def zFW (K:ae):Sp:=fun vs H Q _=>∃(l:ai) (bks:List (ai×List S)) (o:Nat) (nm:S),vs=[.ref l,.int o,sv nm]/\BksAt H l bks/\bks.length<=100/\1<=o/\o<=3/\vW nm/\
 (∀p∈bks,Fit p.2 o nm)/\∀H',zA H H'->Q (qS (zCq (bks.map fun p=>uB (zJ o p.2) o nm))) H'
abbrev zCu:cJ:=top 42
theorem zJK:FnScope ["books","order","name"] ["books","order","name"] (defScope zCu):=yC
theorem zQI:(["order","name","book"]:List Str).Nodup:=by decide+kernel
theorem zQJ {f:ai}{fd:aO}(F:Fun K "best_maker" "best_maker" zCu f fd)(t:zQ P w K mg base 4 "need_books" ["thing"] zFV)(u:zQ P w K mg base 3 "need_order" ["thing"] zCM)(x:zQ P w K mg base 2 "need_name" ["thing"] zBT)
  (L:zQ P w K mg base 6 "share" ["book","order","name"] (zEO K)) (M:zQ P w K mg base 2 "place_of_greatest" ["fractions"] (zJI K)):FnOk P w K mg base zU 7 f fd ["books","order","name"] (zFW K):=by
 refine F.ok zJK (fun vs H Q E h=>?_) (fun O A outer s H vs Q E m h=>?_)
 ·obtain⟨l,bks,o,nm,rfl,_⟩:=h;rfl
 ·obtain⟨l,bks,o,nm,rfl,G,I,z,B,R,n,k⟩:=h
  have hr4:=m.mono (j:=4) (by decide)
  have hr3:=m.mono (j:=3) (by decide)
  have hr2:=m.mono (j:=2) (by decide)
  refine⟨_,zG (yP (zL t hr4 rfl (zB (pv 0) zC))) (zG (yP (zL u hr3 rfl (zB (pv 1) zC))) (zG (yP (zL x hr2 rfl (zB (pv 2) zC)))
   (zH (zT (zL M hr2 rfl (zB (vG (N:=["order","name","book"]) (caps:=[1,2]) rfl (yT (by kernel_rfl)) (vQ (pv 0))
     (fun cl C s H ex=>zY (i:=2) zQI rfl (Or.inl rfl)) (fun cl C s H ex=>vK)
     (fun cl C s H ex=>zL L m rfl (zB (pv 2) (zB (pv 0) (zB (pv 1) zC))))) zC)))))),?_⟩
  refine⟨_,rfl,l,bks,rfl,G,fun p b=>(n p b).toBk.toisBk,fun H1 T=>?_⟩
  refine⟨_,rfl,o,rfl,z,B,?_⟩
  refine⟨_,rfl,nm,rfl,R,fun U W=>?_⟩
  have d:=T.trans W
  have c:=G.same d
  have e:(bks.map fun p=>V.ref p.1).length=bks.length:=af ..
  refine⟨_,rfl,l,rfl,⟨_,.of c.lst⟩,?_⟩
  refine vT (vH K l (bks.map fun p=>V.ref p.1)) [some (.int o),some (sv nm)] 1 (by rw[e];omega) (fun i a H'=>zA U H'/\a.length=i/\FrsAt K H' a ((bks.take i).map fun p=>uB (zJ o p.2) o nm))
   ⟨zA.refl _,rfl,FrsAt.nil⟩ (fun i a H' _ h=>⟨.of (h.1 _ _ c.lst),dh h.2.1⟩) ?_ ?_
  ·rintro i y a H' ys Nx X Y Z ⟨r,g,fr⟩
   obtain⟨y',rfl⟩:=y0 Z
   obtain⟨p,ep,rfl⟩:=zCr Y
   have b:=aS ep
   have hj:i<bks.length:=(aa.mp ep).1
   refine⟨_,rfl,_,rfl,_,rfl,p.1,p.2,o,nm,rfl,r _ _ (c.at_ p b),n p b,fun v H5 J fv=>X _ _ [some (.ref p.1)] rfl ⟨r.trans J,by rw[aq,g];rfl,?_⟩⟩
   rw[ak hj,(aa.mp ep).2,az]
   exact(fr.same J).snoc fv
  ·rintro a H' ⟨r,g,fr⟩ D hD
   rw[e,aV]at fr
   have u1:zA H' (upd H' D (.lst a)):=zA.upd1 hD
   refine⟨D,a,_,rfl,zD,fr.same u1,fun q hq=>?_,fun H6 s6=>k H6 (((d.trans r).trans u1).trans s6)⟩
   obtain⟨p,b,rfl⟩:=aX.mp hq
   exact(zEK (zAz (n p b).toBk).1 (n p b).pw).vx
end
end Kn
end
section
namespace Kn.Ln
open PySem L2 Kn
def uY (bk:List S)(o:Nat)(nm:S):Prop:=0<(uB (zJ o bk) o nm).1
instance (bk:List S) (o:Nat) (nm:S):Decidable (uY bk o nm):=by unfold uY;infer_instance
def zJL (bk:List S)(nm:S):Option Nat->Prop
 |none=>∀o,1<=o->o<=3->¬uY bk o nm
 |some o=>1<=o/\o<=3/\uY bk o nm/\∀p,o<p->p<=3->¬uY bk p nm
def mkrs (bks:List (List S))(o:Nat)(nm:S):List Nat:=(bg bks.length).filter fun i=>match bks[i]? with|some t=>decide (uY t o nm)|none=>false
def g0 (bks:List (List S))(o:Nat)(nm:S)(i:Nat):List Nat:=(bg i).filter fun i=>match bks[i]? with|some t=>decide (uY t o nm)|none=>false
theorem zQK {bks:List (List S)}{o:Nat}{nm:S}{i:Nat}{t:List S}(e:bks[i]?=some t):g0 bks o nm (i+1)=g0 bks o nm i++if uY t o nm then [i]else []:=by
 unfold g0
 rw[cU,bN]
 congr 1
 by_cases h:uY t o nm
 ·rw[if_pos h];simp[mP,e,h]
 ·rw[if_neg h];simp[mP,e,h]
section
variable{P:aP}{w:bc}{K:ae}{mg:Str->Option ah}{base:bK}
def zCv:Sp:=fun vs H Q _=>∃(a:ai) (bk:List S) (nm:S),vs=[.ref a,sv nm]/\H a=some (.tup (zR bk))/\isBk bk/\vW nm/\(∀o,1<=o->o<=3->Fit bk o nm)/\∀r H',zA H H'->zJL bk nm r->Q (qS r) H'
abbrev sGO:cJ:=top 43
theorem zFX:FnScope ["book","name","order"] ["book","name"] (defScope sGO):=yC
theorem zJM {f:ai}{fd:aO}(F:Fun K "greatest_order" "greatest_order" sGO f fd)(B:Blt mg)(C:Cst K mg)(m:zQ P w K mg base 3 "need_book" ["thing"] zCK)(n:zQ P w K mg base 2 "need_name" ["thing"] zBT)(z:zQ P w K mg base 7 "makes" ["book","order","name"] zEP) :
  FnOk P w K mg base zU 8 f fd ["book","name"] zCv:=by
 obtain⟨U,D⟩:=C.mo
 refine F.ok zFX (fun vs H Q E h=>?_) (fun G A outer s H vs Q E o h=>?_)
 ·obtain⟨a,bk,nm,rfl,_⟩:=h;rfl
 ·obtain⟨a,bk,nm,rfl,t,I,J,L,k⟩:=h
  have nd:=zFX.nd
  have hr3:=o.mono (j:=3) (by decide)
  have hr2:=o.mono (j:=2) (by decide)
  refine⟨_,zG (yP (zL m hr3 rfl (zB (pv 0) zC))) (zG (yP (zL n hr2 rfl (zB (pv 1) zC)))
   (zG (uA bI rfl (zNa rfl B.range (zB (v3 (v:=.int 3) (by rfl) D ⟨_,rfl⟩) (zB zF (zB (zAe zAh zF) zC)))) (zY (i:=2) nd rfl (Or.inl rfl))
    (zH (yK (vC (zL z o rfl (zB (pv 0) (zB (pv 2) (zB (pv 1) zC))))) (zH (zT (pv 2))) yJ)))
   (zH (zT uS)))),?_⟩
  refine⟨_,rfl,a,bk,rfl,t,I,fun W M=>?_⟩
  refine⟨_,rfl,nm,rfl,J,fun N O=>?_⟩
  have c:=M.trans O
  refine⟨_,rfl,3,0,rfl,⟨by decide,by decide,by decide,by decide⟩,?_⟩
  refine uG (zNW _ _ _) (fun i σ H'=>(∃q:Option V,σ=[some (.ref a),some (sv nm),q])/\zA N H'/\∀p,3<p+i->p<=3->¬uY bk p nm)
   ⟨⟨_,rfl⟩,zA.refl _,fun p r d=>by omega⟩ (fun _ _ _ _ _=>trivial) ?_ ?_
  ·rintro i x σ H' X R u ⟨⟨q,rfl⟩,g,b⟩
   have hi:i<3:=by
    have:=(aa.mp u).1
    simpa using this
   have hx2:x=.int ((3-i:Nat):Int):=by
    rcases(by omega:i=0\/i=1\/i=2)with rfl|rfl|rfl<;>exact(aw u).symm
   subst hx2
   refine⟨_,rfl,_,rfl,_,rfl,a,bk,3-i,nm,rfl,(c.trans g) _ _ t,L (3-i) (by omega) (by omega),fun T y=>⟨_,rfl,?_⟩⟩
   by_cases l:uY bk (3-i) nm
   ·exact vY l ⟨_,rfl,k (some (3-i)) T (c.trans (g.trans y)) ⟨by omega,by omega,l,fun p r d=>b p (by omega) d⟩⟩
   ·refine v4 l (R _ _ ⟨⟨_,rfl⟩,g.trans y,fun p r d=>?_⟩)
    by_cases e:p=3-i
    ·rw[e];exact l
    ·exact b p (by omega) d
  ·rintro σ H' ⟨⟨q,rfl⟩,g,b⟩
   exact k none H' (c.trans g) fun p r d=>b p (by show 3<p+3;omega) d
def zFY:Sp:=fun vs H Q _=>∃(l:ai) (bks:List (ai×List S)) (o:Nat) (nm:S),vs=[.ref l,.int o,sv nm]/\BksAt H l bks/\bks.length<=100/\1<=o/\o<=3/\vW nm/\(∀p∈bks,Fit p.2 o nm)/\
 ∀a H',zA H H'->H' a=some (.lst (zI (g0 (bks.map (·.2)) o nm bks.length)))->Q (.ref a) H'
abbrev zCw:cJ:=top 41
theorem zJN:FnScope ["books","order","name"] ["books","order","name"] (defScope zCw):=yC
theorem zJO:(["order","name","place","book"]:List Str).Nodup:=by decide+kernel
theorem zQL {f:ai}{fd:aO}(F:Fun K "makers" "makers" zCw f fd)(v:mg "enumerate"=none)(z:zQ P w K mg base 4 "need_books" ["thing"] zFV)(B:zQ P w K mg base 3 "need_order" ["thing"] zCM)(G:zQ P w K mg base 2 "need_name" ["thing"] zBT)
  (cM:zQ P w K mg base 7 "makes" ["book","order","name"] zEP):FnOk P w K mg base zU 8 f fd ["books","order","name"] zFY:=by
 refine F.ok zJN (fun vs H Q E h=>?_) (fun ab A outer s H vs Q E q h=>?_)
 ·obtain⟨l,bks,o,nm,rfl,_⟩:=h;rfl
 ·obtain⟨l,bks,o,nm,rfl,O,R,I,L,hn,U,k⟩:=h
  have hr4:=q.mono (j:=4) (by decide)
  have hr3:=q.mono (j:=3) (by decide)
  have hr2:=q.mono (j:=2) (by decide)
  refine⟨_,zG (yP (zL z hr4 rfl (zB (pv 0) zC))) (zG (yP (zL B hr3 rfl (zB (pv 1) zC))) (zG (yP (zL G hr2 rfl (zB (pv 2) zC)))
   (zH (zT (vG (N:=["order","name","place","book"]) (caps:=[1,2]) rfl (yT (by kernel_rfl)) (zDo rfl v (zB (pv 0) zC))
     (fun cl C s H ex=>zAx K 2 rfl rfl (u6 (zY (i:=2) zJO rfl (Or.inl rfl)) (u6 (zY (i:=3) zJO rfl (Or.inl rfl)) gJ)) rfl rfl)
     (fun cl C s H ex=>kW (vC (zL cM q rfl (zB (pv 3) (zB (pv 0) (zB (pv 1) zC))))))
     (fun cl C s H ex=>pv 2)))))),?_⟩
  refine⟨_,rfl,l,bks,rfl,O,fun p r=>(U p r).toBk.toisBk,fun H1 s1=>?_⟩
  refine⟨_,rfl,o,rfl,I,L,?_⟩
  refine⟨_,rfl,nm,rfl,hn,fun H2 s2=>?_⟩
  have d:=s1.trans s2
  have g:=O.same d
  have a:(bks.map fun p=>V.ref p.1).length=bks.length:=af ..
  refine⟨_,rfl,l,_,rfl,g.lst,?_⟩
  refine zCa (J:=Ite K l) (xs:=zI (bg bks.length)) (ys:=bks.map fun p=>V.ref p.1) (len:=bks.length) (Hk:=fun H'=>z9 K H' l (bks.map fun p=>V.ref p.1))
   (fun i H' m hi=>⟨_,(bks.map fun p=>V.ref p.1)[i]'(by rw[a];exact hi),m,ax _⟩) (fun i H' m e=>⟨_,m,by rw[a,e]⟩)
   (fun i H' x ac m ⟨T,y,e1,e2,e3,W⟩=>⟨T,.int i,y,e1,e2,e3,by
    have hi:i<bks.length:=by
     have:=(aa.mp (W _ m)).1
     rw[a]at this;exact this
    unfold zI;rw[aF,cy hi];rfl,W _ m⟩)
   [some (.int o),some (sv nm)] 2 (by omega) (fun i b H'=>zA H2 H'/\b=zI (g0 (bks.map (·.2)) o nm i))
   ⟨zA.refl _,rfl⟩ (fun i b H' _ h=>⟨.of (h.1 _ _ g.lst),by rw[h.2];unfold zI g0;rw[af];exact b8 (bC ..) (by rw[bh];exact aH _)⟩) ?_ ?_
  ·rintro i x y T b H' zs Nx X M hy hz ⟨n,rfl⟩ Y
   obtain⟨z1,z2,rfl⟩:=ys2 hz
   obtain⟨p,ep,rfl⟩:=zCr hy
   have hi:i<bks.length:=(aa.mp ep).1
   have hx2:x=.int i:=by
    unfold zI at M
    rw[aF,cy hi]at M
    exact(aw M).symm
   subst hx2
   have r:=aS ep
   have Z:zA H' (upd H' T (.tup [.int (i:Int),.ref p.1])):=zA.upd1 Y
   have c:=n.trans Z
   refine⟨T,_,rfl,.of zD,rfl,_,_,rfl,_,_,rfl,rfl,?_⟩
   generalize upd H' T (.tup [.int (i:Int),.ref p.1])=HA at c
   clear Z Y n H'
   have u:=zQK (bks:=bks.map (·.2)) (o:=o) (nm:=nm) (i:=i) (t:=p.2) (by rw[aF,ep];rfl)
   refine⟨_,rfl,_,rfl,_,rfl,p.1,p.2,o,nm,rfl,c _ _ (g.at_ p r),U p r,fun H5 s5=>⟨_,rfl,?_⟩⟩
   by_cases h:uY p.2 o nm
   ·rw[if_pos h]at u
    refine vY h ⟨_,rfl,X _ _ [some (.int (i:Int)),some (.ref p.1)] rfl ⟨c.trans s5,?_⟩⟩
    rw[u];unfold zI;rw[az];rfl
   ·rw[if_neg h,fG]at u
    exact v4 h (X _ _ [some (.int (i:Int)),some (.ref p.1)] rfl ⟨c.trans s5,by rw[u]⟩)
  ·rintro b H' ⟨n,rfl⟩ D hD
   exact k D _ ((d.trans n).upd_new ((d.trans n).free hD)) zD
theorem zBc {k:Nat}{f:ai}{fd:aO}{a:List Str}{sp sp':Sp}(F:FnOk P w K mg base zU k f fd a sp)(G:FnOk P w K mg base (vZ P w) k f fd a sp'):FnOk P w K mg base (vZ P w) k f fd a (fun vs H Q E=>sp vs H Q E\/sp' vs H Q E):=by
 refine⟨fun vs H Q E h=>h.elim (F.len _ _ _ _) (G.len _ _ _ _),fun A outer s H args us vs Q E b d g i j=>?_⟩
 rcases j with h|h
 ·refine iy (F.run A outer s H args us vs Q E b d g i h) fun res s' c=>?_
  cases res with
  |error e=>exact c.elim
  |ok l=>cases l<;>exact c
 ·exact G.run A outer s H args us vs Q E b d g i h
theorem zQM {CX:uP}{k:Nat}{f:ai}{fd:aO}{a:List Str}{sp sp':Sp}(F:FnOk P w K mg base CX k f fd a sp)(G:FnOk P w K mg base CX k f fd a sp'):FnOk P w K mg base CX k f fd a (fun vs H Q E=>sp vs H Q E\/sp' vs H Q E) :=
 ⟨fun vs H Q E h=>h.elim (F.len _ _ _ _) (G.len _ _ _ _),fun A outer s H args us vs Q E b c d e g=>g.elim (F.run A outer s H args us vs Q E b c d e) (G.run A outer s H args us vs Q E b c d e)⟩
theorem zQN {α:Type}{f:α->Bool}{l:List α}{i:Nat}{d:α}(e:l[i]?=some d):(l.take (i+1)).all f=((l.take i).all f&&f d):=by
 rw[ak (aa.mp e).1,(aa.mp e).2,List.all_append];simp
theorem zQO {α:Type}{f:α->Bool}{l:List α}{i:Nat}{d:α}(e:l[i]?=some d)(h:f d=false):l.all f=false:=by
 cases g:l.all f with
 |false=>rfl
 |true=>rw[cw.mp g d (aS e)]at h;cases h
def zFZ (nb:ai):Sp:=fun vs H Q E=>∃(l:ai) (xs:List V) (ds:List bW),vs=[.ref l]/\H l=some (.lst xs)/\Thgs H ds xs/\smls ds=true/\(ds.all vA=true->∀H',zA H H'->Q .non H')/\(ds.all vA=false->∀H',zA H H'->E (.ref nb) none H')
theorem zQP {f:ai}{fd:aO}{nb:ai}(F:Fun K "need_books" "need_books" zCs f fd)(B:Blt mg)(e:mg "list"=none)(n:qQ P w K mg base 3 "need_book" ["thing"] (zAP nb vA)):FnOk P w K mg base (vZ P w) 4 f fd ["thing"] (zFZ nb):=by
 refine F.okR zCt (fun vs H Q E h=>?_) (fun o A outer s H vs Q E p h ok=>?_)
 ·obtain⟨l,xs,ds,rfl,_⟩:=h;rfl
 ·obtain⟨l,xs,ds,rfl,hl,m,q,k1,k2⟩:=h
  have nd:=zCt.nd
  refine⟨_,zG (yK (vP (vC (zZ u9 (by rfl) B.isinstance aJ (zB (pv 0) (zB (uU (v:=.ty "list") (by rfl) e du rfl) zC))))) (zH zBM) yJ)
   (zH (uA sA rfl (vQ (pv 0)) (zY (i:=1) nd rfl (Or.inl rfl)) (zH (yP (uR n ok.pass p rfl (zB (pv 1) zC)))))),?_⟩
  refine⟨_,rfl,_,_,_,true,rfl,.lst hl,(by rfl),true,rfl,yI ?_⟩
  refine⟨_,rfl,l,rfl,⟨_,.of hl⟩,?_⟩
  have a:=m.length
  refine uG (vH K l xs) (fun i σ H'=>(∃y:Option V,σ=[some (.ref l),y])/\zA H H'/\(ds.take i).all vA=true) ⟨⟨_,rfl⟩,zA.refl H,rfl⟩ (fun i σ H' _ h=>.of (h.2.1 _ _ hl)) ?_ ?_
  ·rintro i x σ H' C r t ⟨⟨y,rfl⟩,b,c⟩
   obtain⟨d,g,td⟩:=m.get t
   refine⟨_,rfl,x,d,rfl,yF.same b _ _ td,zEq q (aS g),fun u z j=>r _ _ ⟨⟨_,rfl⟩,b.trans j,?_⟩,fun bad z j=>k2 (zQO g bad) _ (b.trans j)⟩
   rw[zQN g,c,u];rfl
  ·rintro σ H' ⟨⟨y,rfl⟩,b,c⟩
   rw[<-a,aV]at c
   exact k1 c H' b
def zAS (nb no nn:ai):Sp:=fun vs H Q E=>∃(v u y:V) (d e g:bW),vs=[v,u,y]/\yF H d v/\yF H e u/\yF H g y/\sml d=true/\sml e=true/\sml g=true/\
 ((vA d=false/\∀H',zA H H'->E (.ref nb) none H')\/(vA d=true/\uX e=false/\∀H',zA H H'->E (.ref no) none H')\/(vA d=true/\uX e=true/\v2 g=false/\∀H',zA H H'->E (.ref nn) none H'))
def zAT (nb no nn:ai):Sp:=fun vs H Q E=>∃(v u y z:V) (d e g:bW),vs=[v,u,y,z]/\yF H d v/\yF H e u/\yF H g y/\sml d=true/\sml e=true/\sml g=true/\
 ((vA d=false/\∀H',zA H H'->E (.ref nb) none H')\/(vA d=true/\uX e=false/\∀H',zA H H'->E (.ref no) none H')\/(vA d=true/\uX e=true/\v2 g=false/\∀H',zA H H'->E (.ref nn) none H'))
def zAU (nb nn:ai):Sp:=fun vs H Q E=>∃(v y:V) (d g:bW),vs=[v,y]/\yF H d v/\yF H g y/\sml d=true/\sml g=true/\
 ((vA d=false/\∀H',zA H H'->E (.ref nb) none H')\/(vA d=true/\v2 g=false/\∀H',zA H H'->E (.ref nn) none H'))
def jV (nb no nn:ai):Sp:=fun vs H Q E=>∃(l:ai) (xs:List V) (u y:V) (ds:List bW) (e g:bW),vs=[.ref l,u,y]/\H l=some (.lst xs)/\Thgs H ds xs/\yF H e u/\yF H g y/\smls ds=true/\sml e=true/\sml g=true/\
 ((ds.all vA=false/\∀H',zA H H'->E (.ref nb) none H')\/(ds.all vA=true/\uX e=false/\∀H',zA H H'->E (.ref no) none H')\/(ds.all vA=true/\uX e=true/\v2 g=false/\∀H',zA H H'->E (.ref nn) none H'))
theorem tf {b:Bool}{A:Prop}(h:b=true)(z:b=false):A:=by rw[h]at z;cases z
theorem zQQ {f:ai}{fd:aO}{nb no i:ai}(F:Fun K "needed" "needed" zCo f fd)(N:NeedsR P w K mg base nb no i):FnOk P w K mg base (vZ P w) 5 f fd ["book","order","name"] (zAS nb no i):=by
 refine F.okR zFP (fun vs H Q E h=>?_) (fun q A outer s H vs Q E l h ok=>?_)
 ·obtain⟨v,u,y,d,e,g,rfl,_⟩:=h;rfl
 ·obtain⟨v,u,y,d,e,g,rfl,r,t,x,z,B,C,h⟩:=h
  have hr3:=l.mono (j:=3) (by decide)
  have hr2:=l.mono (j:=2) (by decide)
  refine⟨_,zG (yP (uR N.bk ok.pass hr3 rfl (zB (pv 0) zC))) (zG (yP (uR N.od ok.pass hr3 rfl (zB (pv 1) zC))) (zG (yP (uR N.nm ok.pass hr2 rfl (zB (pv 2) zC))) zAb)),?_⟩
  refine⟨_,rfl,v,d,rfl,r,z,fun c m a=>?_,fun bad m a=>?_⟩
  ·refine⟨_,rfl,u,e,rfl,yF.same a _ _ t,B,fun go n b=>?_,fun bad n b=>?_⟩
   ·refine⟨_,rfl,y,g,rfl,yF.same (a.trans b) _ _ x,C,fun gn o p=>?_,fun bad o p=>?_⟩
    ·rcases h with h|h|h
     ·exact tf c h.1
     ·exact tf go h.2.1
     ·exact tf gn h.2.2.1
    ·rcases h with h|h|h
     ·exact tf c h.1
     ·exact tf go h.2.1
     ·exact h.2.2.2 o ((a.trans b).trans p)
   ·rcases h with h|h|h
    ·exact tf c h.1
    ·exact h.2.2 n (a.trans b)
    ·exact tf h.2.1 bad
  ·rcases h with h|h|h
   ·exact h.2 m a
   ·exact tf h.1 bad
   ·exact tf h.1 bad
theorem zQR {f:ai}{fd:aO}{nb no i:ai}(F:Fun K "shows" "shows" zBa f fd)(N:NeedsR P w K mg base nb no i):FnOk P w K mg base (vZ P w) 5 f fd ["book","order","name","thing"] (zAT nb no i):=by
 refine F.okR zCl (fun vs H Q E h=>?_) (fun q A outer s H vs Q E l h ok=>?_)
 ·obtain⟨v,u,y,z,d,e,g,rfl,_⟩:=h;rfl
 ·obtain⟨v,u,y,z,d,e,g,rfl,r,t,x,B,C,D,h⟩:=h
  have hr3:=l.mono (j:=3) (by decide)
  have hr2:=l.mono (j:=2) (by decide)
  refine⟨_,zG (yP (uR N.bk ok.pass hr3 rfl (zB (pv 0) zC))) (zG (yP (uR N.od ok.pass hr3 rfl (zB (pv 1) zC))) (zG (yP (uR N.nm ok.pass hr2 rfl (zB (pv 2) zC))) zAb)),?_⟩
  refine⟨_,rfl,v,d,rfl,r,B,fun c m a=>?_,fun bad m a=>?_⟩
  ·refine⟨_,rfl,u,e,rfl,yF.same a _ _ t,C,fun go n b=>?_,fun bad n b=>?_⟩
   ·refine⟨_,rfl,y,g,rfl,yF.same (a.trans b) _ _ x,D,fun gn o p=>?_,fun bad o p=>?_⟩
    ·rcases h with h|h|h
     ·exact tf c h.1
     ·exact tf go h.2.1
     ·exact tf gn h.2.2.1
    ·rcases h with h|h|h
     ·exact tf c h.1
     ·exact tf go h.2.1
     ·exact h.2.2.2 o ((a.trans b).trans p)
   ·rcases h with h|h|h
    ·exact tf c h.1
    ·exact h.2.2 n (a.trans b)
    ·exact tf h.2.1 bad
  ·rcases h with h|h|h
   ·exact h.2 m a
   ·exact tf h.1 bad
   ·exact tf h.1 bad
theorem zQS {f:ai}{fd:aO}{nb no b:ai}(F:Fun K "greatest_order" "greatest_order" sGO f fd)(N:NeedsR P w K mg base nb no b):FnOk P w K mg base (vZ P w) 8 f fd ["book","name"] (zAU nb b):=by
 refine F.okR zFX (fun vs H Q E h=>?_) (fun n A outer s H vs Q E c h ok=>?_)
 ·obtain⟨v,y,d,g,rfl,_⟩:=h;rfl
 ·obtain⟨v,y,d,g,rfl,o,p,q,r,h⟩:=h
  have hr3:=c.mono (j:=3) (by decide)
  have hr2:=c.mono (j:=2) (by decide)
  refine⟨_,zG (yP (uR N.bk ok.pass hr3 rfl (zB (pv 0) zC))) (zG (yP (uR N.nm ok.pass hr2 rfl (zB (pv 1) zC))) zAb),?_⟩
  refine⟨_,rfl,v,d,rfl,o,q,fun e i a=>?_,fun bad i a=>?_⟩
  ·refine⟨_,rfl,y,g,rfl,yF.same a _ _ p,r,fun gn l m=>?_,fun bad l m=>?_⟩
   ·rcases h with h|h
    ·exact tf e h.1
    ·exact tf gn h.2.1
   ·rcases h with h|h
    ·exact tf e h.1
    ·exact h.2.2 l (a.trans m)
  ·rcases h with h|h
   ·exact h.2 i a
   ·exact tf h.1 bad
theorem zQT {f:ai}{fd:aO}{nb no i:ai}(F:Fun K "makers" "makers" zCw f fd)(q:qQ P w K mg base 4 "need_books" ["thing"] (zFZ nb))(N:NeedsR P w K mg base nb no i):FnOk P w K mg base (vZ P w) 8 f fd ["books","order","name"] (jV nb no i):=by
 refine F.okR zJN (fun vs H Q E h=>?_) (fun r A outer s H vs Q E c h ok=>?_)
 ·obtain⟨l,xs,u,y,ds,e,g,rfl,_⟩:=h;rfl
 ·obtain⟨l,xs,u,y,ds,e,g,rfl,hl,t,v,x,z,B,C,h⟩:=h
  have hr4:=c.mono (j:=4) (by decide)
  have hr3:=c.mono (j:=3) (by decide)
  have hr2:=c.mono (j:=2) (by decide)
  refine⟨_,zG (yP (uR q ok.pass hr4 rfl (zB (pv 0) zC))) (zG (yP (uR N.od ok.pass hr3 rfl (zB (pv 1) zC))) (zG (yP (uR N.nm ok.pass hr2 rfl (zB (pv 2) zC))) zAb)),?_⟩
  refine⟨_,rfl,l,xs,ds,rfl,hl,t,z,fun d m a=>?_,fun bad m a=>?_⟩
  ·refine⟨_,rfl,u,e,rfl,yF.same a _ _ v,B,fun go n b=>?_,fun bad n b=>?_⟩
   ·refine⟨_,rfl,y,g,rfl,yF.same (a.trans b) _ _ x,C,fun gn o p=>?_,fun bad o p=>?_⟩
    ·rcases h with h|h|h
     ·exact tf d h.1
     ·exact tf go h.2.1
     ·exact tf gn h.2.2.1
    ·rcases h with h|h|h
     ·exact tf d h.1
     ·exact tf go h.2.1
     ·exact h.2.2.2 o ((a.trans b).trans p)
   ·rcases h with h|h|h
    ·exact tf d h.1
    ·exact h.2.2 n (a.trans b)
    ·exact tf h.2.1 bad
  ·rcases h with h|h|h
   ·exact h.2 m a
   ·exact tf h.1 bad
   ·exact tf h.1 bad
theorem zQU {f:ai}{fd:aO}{nb no i:ai}(F:Fun K "best_maker" "best_maker" zCu f fd)(q:qQ P w K mg base 4 "need_books" ["thing"] (zFZ nb))(N:NeedsR P w K mg base nb no i):FnOk P w K mg base (vZ P w) 7 f fd ["books","order","name"] (jV nb no i):=by
 refine F.okR zJK (fun vs H Q E h=>?_) (fun r A outer s H vs Q E c h ok=>?_)
 ·obtain⟨l,xs,u,y,ds,e,g,rfl,_⟩:=h;rfl
 ·obtain⟨l,xs,u,y,ds,e,g,rfl,hl,t,v,x,z,B,C,h⟩:=h
  have hr4:=c.mono (j:=4) (by decide)
  have hr3:=c.mono (j:=3) (by decide)
  have hr2:=c.mono (j:=2) (by decide)
  refine⟨_,zG (yP (uR q ok.pass hr4 rfl (zB (pv 0) zC))) (zG (yP (uR N.od ok.pass hr3 rfl (zB (pv 1) zC))) (zG (yP (uR N.nm ok.pass hr2 rfl (zB (pv 2) zC))) zAb)),?_⟩
  refine⟨_,rfl,l,xs,ds,rfl,hl,t,z,fun d m a=>?_,fun bad m a=>?_⟩
  ·refine⟨_,rfl,u,e,rfl,yF.same a _ _ v,B,fun go n b=>?_,fun bad n b=>?_⟩
   ·refine⟨_,rfl,y,g,rfl,yF.same (a.trans b) _ _ x,C,fun gn o p=>?_,fun bad o p=>?_⟩
    ·rcases h with h|h|h
     ·exact tf d h.1
     ·exact tf go h.2.1
     ·exact tf gn h.2.2.1
    ·rcases h with h|h|h
     ·exact tf d h.1
     ·exact tf go h.2.1
     ·exact h.2.2.2 o ((a.trans b).trans p)
   ·rcases h with h|h|h
    ·exact tf d h.1
    ·exact h.2.2 n (a.trans b)
    ·exact tf h.2.1 bad
  ·rcases h with h|h|h
   ·exact h.2 m a
   ·exact tf h.1 bad
   ·exact tf h.1 bad
def zBH (H:Hp)(n:Nat)(v:V):Prop:=(∃(a:ai) (xs:List V),v=.ref a/\H a=some (.tup xs))\/∃(a:ai) (xs:List V) (ds:List bW),v=.ref a/\H a=some (.lst xs)/\Thgs H ds xs/\xs.length<=100/\ds.all (jK 0 ((n:Int)-1))=false
theorem zBH.same {H H':Hp}{n:Nat}{v:V}(h:zBH H n v)(s:zA H H'):zBH H' n v:=by
 rcases h with⟨a,xs,rfl,h⟩|⟨a,xs,ds,rfl,b,c,d⟩
 ·exact .inl ⟨a,xs,rfl,s _ _ h⟩
 ·exact .inr ⟨a,xs,ds,rfl,s _ _ b,Thgs.same s _ _ c,d⟩
def zJP:Sp:=fun vs H Q _=>∃(v:V) (n:Nat),vs=[v,.int (n:Int)]/\zBH H n v/\∀H',zA H H'->Q (.bl false) H'
theorem zQV {f:ai}{fd:aO}(F:Fun K "is_list_of_places" "is_list_of_places" zCk f fd)(B:Blt mg)(l:mg "list"=none)(r:zQ P w K mg base 1 "is_whole" ["thing","least","most"] zEs)(t:zQ P w K mg base 1 "is_rising" ["things"] zFH):FnOk P w K mg base zU 2 f fd ["thing","many"] zJP:=by
 refine F.ok zIn (fun vs H Q E h=>?_) (fun u A outer s H vs Q E m h=>?_)
 ·obtain⟨v,n,rfl,_⟩:=h;rfl
 ·obtain⟨v,n,rfl,h,k⟩:=h
  refine⟨_,zG (yK (vP (vC (zZ u9 (by rfl) B.isinstance aJ (zB (pv 0) (zB (uU (v:=.ty "list") (by rfl) l du rfl) zC))))) (zH (zT v9)) yJ)
   (zH (zT (zFn (zZ (gQ rfl) (by rfl) B.all da (zB (vG (N:=["many","place"]) (caps:=[1]) rfl (yT (by kernel_rfl)) (vQ (pv 0))
     (fun cl C s H ex=>zY (i:=1) zIo rfl (Or.inl rfl)) (fun cl C s H ex=>vK)
     (fun cl C s H ex=>zL r m rfl (zB (pv 1) (zB zF (zB (zP zAg (pv 0) zF) zC))))) zC))
    (zFm (zL t m rfl (zB (pv 0) zC)))))),?_⟩
  rcases h with⟨a,xs,rfl,c⟩|⟨a,xs,ds,rfl,c,o,p,g⟩
  ·exact⟨_,rfl,_,_,_,false,rfl,.tup c,(by rfl),_,rfl,yL (k _ (zA.refl _))⟩
  ·refine⟨_,rfl,_,_,_,true,rfl,.lst c,(by rfl),_,rfl,yI ?_⟩
   have j:=o.length
   refine⟨_,rfl,a,rfl,⟨_,.of c⟩,?_⟩
   refine vT (vH K a xs) [some (.int (n:Int))] 1 (by omega) (fun i b H'=>H'=H/\b=((ds.take i).map (jK 0 ((n:Int)-1))).map V.bl) ⟨rfl,rfl⟩ (fun i b H' _ h=>⟨by rw[h.1];exact .of c,by rw[h.2,af,af,aL];omega⟩) ?_ ?_
   ·rintro i y b H' ys J x z G ⟨rfl,rfl⟩
    obtain⟨L,rfl⟩:=y0 G
    obtain⟨d,q,td⟩:=o.get z
    refine⟨_,rfl,_,rfl,_,_,rfl,rfl,y,d,0,(n:Int)-1,rfl,td,x _ _ [some y] rfl ⟨rfl,?_⟩⟩
    rw[ak (aa.mp q).1,(aa.mp q).2,az,az];rfl
   ·rintro b H' ⟨rfl,rfl⟩ D I
    rw[<-j,aV]
    refine⟨D,ds.map (jK 0 ((n:Int)-1)),rfl,.of zD,?_⟩
    have e:(ds.map (jK 0 ((n:Int)-1))).all id=ds.all (jK 0 ((n:Int)-1)):=by rw[gh];rfl
    rw[e,g]
    exact⟨false,rfl,yI (k _ (zA.upd1 I))⟩
def zFa:Sp:=fun vs H Q _=>∃(b:ai) (bk:List S) (o:Nat) (nm:S) (v:V),vs=[.ref b,.int o,sv nm,v]/\H b=some (.tup (zR bk))/\Bk bk o/\vW nm/\zBH H bk.length v/\∀H',zA H H'->Q (.bl false) H'
theorem zQW {f:ai}{fd:aO}(F:Fun K "shows" "shows" zBa f fd)(B:Blt mg)(N:Needs P w K mg base)(i:zQ P w K mg base 2 "is_list_of_places" ["thing","many"] zJP) :
  FnOk P w K mg base zU 5 f fd ["book","order","name","thing"] zFa:=by
 refine F.ok zCl (fun vs H Q E h=>?_) (fun l A outer s H vs Q E e h=>?_)
 ·obtain⟨b,bk,o,nm,v,rfl,_⟩:=h;rfl
 ·obtain⟨b,bk,o,nm,v,rfl,g,c,m,n,k⟩:=h
  have hr3:=e.mono (j:=3) (by decide)
  have hr2:=e.mono (j:=2) (by decide)
  refine⟨_,zG (yP (zL N.bk hr3 rfl (zB (pv 0) zC))) (zG (yP (zL N.od hr3 rfl (zB (pv 1) zC))) (zG (yP (zL N.nm hr2 rfl (zB (pv 2) zC)))
   (zG (yK (vP (vC (zL i hr2 rfl (zB (pv 3) (zB (zZ jE (by rfl) B.len bQ (zB (pv 0) zC)) zC))))) (zH (zT v9)) yJ) zAb))),?_⟩
  refine⟨_,rfl,b,bk,rfl,g,c.toisBk,fun t p=>?_⟩
  refine⟨_,rfl,o,rfl,c.o1,c.o3,?_⟩
  refine⟨_,rfl,nm,rfl,m,fun u q=>?_⟩
  have a:=p.trans q
  have d:(zR bk).length=bk.length:=af ..
  exact⟨_,rfl,_,rfl,b,zR bk,rfl,.inr (.of (a _ _ g)),v,bk.length,by rw[d];rfl,n.same a,fun x r=>⟨_,rfl,yL (k _ (a.trans r))⟩⟩
def zJQ:Sp:=fun vs H Q _=>∃(a:ai) (bk:List S) (o:Nat),vs=[.ref a,.int o]/\H a=some (.lst (zR bk))/\bk.length<=8/\(∀x∈bk,x.length<=8)/\1<=o/\∀d H',zA H H'->H d=none->j8 H' d (zJ o bk)->Q (.ref d) H'
theorem zQX {f:ai}{fd:aO}(F:Fun K "_law_counts" "_law_counts" zCc f fd)(B:Blt mg):FnOk P w K mg base zU 1 f fd ["_law_book_here","_law_order"] zJQ:=by
 refine F.ok zCd (fun vs H Q E h=>?_) (fun a1 A outer s H vs Q E hr h=>?_)
 ·obtain⟨a,bk,o,rfl,_⟩:=h;rfl
 ·obtain⟨a,bk,o,rfl,ha,a2,ab,ho,k⟩:=h
  have Y:=jT hr
  have nd:=zCd.nd
  refine⟨_,zG (zX (i:=2) nd rfl (Or.inl rfl) kU)
   (zG (uA bI rfl (vQ (pv 0)) (zY (i:=3) nd rfl (Or.inl rfl))
    (zH (uA bI rfl (qF rfl B.range (zB (zP vD (zZ j4 (by rfl) B.len bQ (zB (pv 3) zC)) zF) zC)) (zY (i:=4) nd rfl (Or.inl rfl))
     (zG (zX (i:=5) nd rfl (Or.inl rfl) (g9 (vF zAC (pv 4) zF (yY _)) (qG (qG (pv 3) qN (vX (pv 4))) (vX (zP zAg zF (zZ (zBp rfl) (by rfl) B.min fJ (zB (pv 1) (zB (pv 4) zC))))) qN) y9))
     (zG (zX (i:=6) nd rfl (Or.inl rfl) (qG (pv 3) (vX (pv 4)) (vX (zP vD (pv 4) zF))))
     (zG (yK (zBL (zDW Y (pv 5) (pv 2))) (zH (zBO Y (pv 2) (pv 5) kU rfl)) yJ)
     (zH (zBO Y (zAG Y (pv 2) (pv 5) (fun _ _=>rfl)) (pv 6) (zP vD (gO Y (zAG Y (pv 2) (pv 5) (fun _ _=>rfl)) (pv 6) zF ⟨rfl,rfl,rfl,rfl⟩) zF) rfl))))))))
   (zH (zT (pv 2)))),?_⟩
  intro d hd
  have s1:zA H (upd H d (.dK [])):=zA.upd1 hd
  refine⟨_,rfl,a,rfl,⟨_,.of (s1 _ _ ha)⟩,?_⟩
  refine uG (vH K a (zR bk)) (fun i σ H'=>(∃x y z u:Option V,σ=[some (.ref a),some (.int o),some (.ref d),x,y,z,u])/\zA H H'/\∃M,RA H H' d (zJ o (bk.take i)) M)
   ⟨⟨_,_,_,_,rfl⟩,s1,[],⟨rfl,zD,by simp,by simp,by simp⟩⟩ (fun i σ H' _ h=>.of (h.2.1 _ _ ha)) ?_ ?_
  ·rintro i x σ H' Nx hN N ⟨⟨x1,x2,x3,x4,rfl⟩,sm,M,R⟩
   rw[zR,aF]at N
   cases e:bk[i]? with
   |none=>rw[e]at N;cases N
   |some nm=>
   rw[e]at N
   have ay:x=sv nm:=(aw N).symm
   subst ay
   have a3:=ab nm (aS e)
   have hi:i<bk.length:=(aa.mp e).1
   have O:bk.take (i+1)=bk.take i++[nm]:=by
    rw[ak hi]
    have:=(aa.mp e).2
    rw[this]
   have m:zJ o (bk.take (i+1))=zJ o (bk.take i)++zM o nm:=by
    rw[O,zDr];simp[zJ]
   have aA:((zJ o (bk.take (i+1))).length:Int)<=100:=by
    rw[zCE]
    have go:∀l:List S,(∀x∈l,x.length<=8)->(l.map fun x=>(x.length:Int)+1).sum<=9*(l.length:Int):=by
     intro l
     induction l with
     |nil=>intro _;simp
     |cons x r ih=>
      intro hl
      have h1:=hl x (ar ..)
      have h2:=ih fun y hy=>hl y (aG _ hy)
      rw[ba,dD,bJ]
      have:((r.length+1:Nat):Int)=(r.length:Int)+1:=rfl
      omega
    have:=go (bk.take (i+1)) fun x N=>ab x (dk N)
    have h3:(bk.take (i+1)).length<=8:=by rw[aL];omega
    omega
   refine⟨_,rfl,tx nm,rfl,by rw[z8,aR];omega,_,_,rfl,rfl,_,rfl,by rw[z8];omega,by rw[z8];omega,?_⟩
   have ac:(((tx nm).length:Int)+1).toNat=nm.length+1:=by rw[z8];omega
   refine uG (qA 0 _) (fun j σ G=>(∃y z u:Option V,σ=[some (.ref a),some (.int o),some (.ref d),some (sv nm),y,z,u])/\zA H G/\∃M,RA H G d (zJ o (bk.take i)++(zM o nm).take j) M)
    ⟨⟨_,_,_,rfl⟩,sm,M,by simpa using R⟩ (fun _ _ _ _ _=>trivial) ?_ ?_
   ·rintro j x σ G aj al hx2 ⟨⟨y,z,u,rfl⟩,t,b,R2⟩
    rw[ac]at hx2
    obtain⟨hj,rfl⟩:=qH hx2
    have ep:=zCf (o:=o) hj
    generalize hp:((zO (nm.take j) o,(nm.drop j).take 1):S×S)=p at ep
    have am:zO (nm.take j) o=p.1:=by rw[<-hp]
    have aB:(nm.drop j).take 1=p.2:=by rw[<-hp]
    have aC:j<(zM o nm).length:=by rw[gZ];exact hj
    have T:zJ o (bk.take i)++(zM o nm).take (j+1)=(zJ o (bk.take i)++(zM o nm).take j)++[p]:=by
     rw[ak aC,(aa.mp ep).2,fK]
    generalize aD:zJ o (bk.take i)++(zM o nm).take j=ps at R2 T
    have a4:ps.length<=100:=by
     have h1:ps.length<=(zJ o (bk.take (i+1))).length:=by
      rw[<-aD,m,aq,aq,aL];omega
     omega
    have a0:b.length<=100:=by
     have h1:=(zCQ ps).1
     rw[<-R2.rows,af]at h1
     omega
    refine⟨_,rfl,_,_,rfl,rfl,_,rfl,?_⟩
    refine' (fun(cont:∀q:V,q=sv p.1->(_:V->Prop) q)=>?main) ?cont
    case main=>
     by_cases h0:0<j
     ·refine vY (by omega) ?_
      refine⟨_,rfl,_,rfl,_,rfl,tx nm,rfl,by rw[z8,aR];omega,_,rfl,_,rfl,_,_,rfl,_,_,rfl,rfl,_,rfl,_,rfl,?_,?_⟩
      ·rw[zAI,z8,aR,aL];omega
      ·have ec:vS (vS (tx nm) none (some (j:Int))) (some (0- (if(j:Int)<(o:Int)then(j:Int)else(o:Int)))) none=tx p.1:=by
        rw[zAI,zCe (nm.take j) o j ho h0 (by rw[aL];omega),am]
       have ev:V.str (vS (vS (tx nm) none (some (j:Int))) (some (0- (if(j:Int)<(o:Int)then(j:Int)else(o:Int)))) none)=sv p.1:=congrArg V.str ec
       revert ev
       generalize V.str (vS (vS (tx nm) none (some (j:Int))) (some (0- (if(j:Int)<(o:Int)then(j:Int)else(o:Int)))) none)=q
       intro ev
       exact cont q ev
     ·have aE:j=0:=by omega
      subst aE
      refine v4 (by omega) ?_
      have n:p.1=[]:=by rw[<-am];simp[zO]
      have ev:V.str ""=sv p.1:=by rw[n];rfl
      revert ev
      generalize V.str ""=q
      intro ev
      exact cont q ev
    case cont=>
     intro q hq
     subst hq
     refine⟨_,rfl,_,rfl,_,rfl,_,rfl,_,_,rfl,rfl,_,rfl,tx nm,rfl,by rw[z8,aR];omega,?_⟩
     have an:vS (tx nm) (some (j:Int)) (some ((j:Int)+1))=tx p.2:=by rw[zBQ,aB]
     rw[an]
     refine⟨_,rfl,_,rfl,d,_,rfl,vR.k (k:=Sum.inr (tx p.1)) R2.top,_,rfl,?_⟩
     rw[qB]
     have fin:∀(ad:ai) (row:List (S×Int)) (Z:Hp) (U:List (z0×V)),Z d=some (.dK U)->yU U (Sum.inr (tx p.1))=some (.ref ad)->Z ad=some (.dK (yG row))->(row.map (·.1)).Nodup->row.length<=100->(∀H4,H4=upd Z ad (.dK (yG (vV row p.2)))->aj [some (.ref a),some (.int o),some (.ref d),some (sv nm),some (.int j),some (sv p.1),some (sv p.2)] H4)->
       zBv (zAl (v8 2) (v8 5)) (v8 6) (gK (jY fun i j=>V.int (i+j)) (zBw (zAl (v8 2) (v8 5)) (v8 6) (tC (.int 0))) (tC (.int 1))) {nx:=aj,rt:=Q,bk:=fun _ _=>False,ct:=fun _ _=>False} [some (.ref a),some (.int o),some (.ref d),some (sv nm),some (.int j),some (sv p.1),some (sv p.2)] Z:=by
      intro ad row Z U ap as C aK a5 hq
      have dg:vR Z d (sv p.1) (some (.ref ad)):=by
       have:=vR.k (k:=Sum.inr (tx p.1)) ap
       rw[as]at this
       exact this
      refine⟨_,rfl,_,rfl,d,_,rfl,dg,ad,rfl,.inl ⟨_,.inl C⟩,_,rfl,_,vR.k (k:=Sum.inr (tx p.2)) C,(zV row p.2).getD 0,1,?_,rfl,?_⟩
      ·rw[qB]
       cases zV row p.2<;>rfl
      ·refine⟨_,rfl,_,rfl,d,_,rfl,dg,_,rfl,ad,_,rfl,kT.k (k:=Sum.inr (tx p.2)) C (by rw[zAK,aR];omega),hq _ ?_⟩
       rw[zAu V.int row p.2 _ aK]
       rfl
     cases g:zV b p.1 with
     |some v=>
      obtain⟨r1,r2,r3,r4,r5⟩:=zEC R2 g
      refine yI ?_
      refine fin v.1 v.2 G _ R2.top (by rw[qB,g];rfl) r1 r2 (by omega) fun H4 I=>?_
      have RR:RA H H4 d (ps++[p]) (yA b p.1 (v.1,vV v.2 p.2)):=by
       refine R2.step p v.2 (by rw[g];rfl) (fun v' D=>by rw[g]at D;rw[aw D]) (fun hn=>by rw[g]at hn;cases hn) (by rw[I,zD]) ?_ fun r c W=>?_
       ·rw[I,zN r5.symm,R2.top]
        have:=zEB (fun v:ai×List (S×Int)=>V.ref v.1) b p.1 (v.1,vV v.2 p.2) v g rfl
        rw[this]
       ·rw[I,zN W];exact R2.row r c
      refine al _ _ ⟨⟨_,_,_,rfl⟩,?_,_,by rw[T];exact RR⟩
      rw[I]
      exact t.upd_new r4
     |none=>
      refine yL ?_
      intro n J
      have L:H n=none:=t.free J
      have X:d≠n:=vJ R2.top J
      have s3:zA G (upd G n (.dK [])):=zA.upd1 J
      have hx3:upd G n (.dK []) d=some (.dK (vN (fun v:ai×List (S×Int)=>V.ref v.1) b)):=s3 _ _ R2.top
      have aN:∀r∈b,r.2.1≠n:=fun r c=>vJ (R2.row r c) J
      refine⟨_,rfl,_,rfl,d,_,rfl,kT.k (k:=Sum.inr (tx p.1)) hx3 (by rw[zAK,aR];omega),?_⟩
      have av:=zAu (fun v:ai×List (S×Int)=>V.ref v.1) b p.1 (n,[]) (zBV R2)
      have aW:upd (upd G n (.dK [])) d (.dK (uJ (vN (fun v:ai×List (S×Int)=>V.ref v.1) b) (Sum.inr (tx p.1)) (.ref n))) n=some (.dK (yG [])):=by
       rw[zN X.symm,zD];rfl
      refine fin n [] _ _ zD (by rw[zGV,if_pos rfl]) aW (by simp) (by simp) fun H4 I=>?_
      have RR:RA H H4 d (ps++[p]) (yA b p.1 (n,vV [] p.2)):=by
       refine R2.step p [] (by rw[g];rfl) (fun v' D=>by rw[g]at D;cases D) (fun _=>⟨L,X.symm,fun hm=>?_⟩) (by rw[I,zD]) ?_ fun r c W=>?_
       ·obtain⟨r,c,e⟩:=aX.mp hm
        exact aN r c e
       ·rw[I,zN X,zD,av]
        congr 2
        have hk:p.1∉b.map (·.1):=zCC.mp g
        rw[zAL _ _ _ hk,zAL _ _ _ hk]
        unfold vN gP
        rw[az,az,az,az]
        rfl
       ·rw[I,zN W,zN (R2.new r c).2];exact s3 _ _ (R2.row r c)
      refine al _ _ ⟨⟨_,_,_,rfl⟩,?_,_,by rw[T];exact RR⟩
      rw[I]
      exact((t.trans s3).upd_new hd).upd_new L
   ·rintro σ G ⟨⟨y,z,u,rfl⟩,t,b,R2⟩
    refine hN _ _ ⟨⟨_,_,_,_,rfl⟩,t,b,?_⟩
    rw[m]
    rw[af,bh,ac,<-gZ o nm,aV]at R2
    exact R2
  ·rintro σ H' ⟨⟨x1,x2,x3,x4,rfl⟩,sm,M,R⟩
   refine⟨_,rfl,k d H' sm hd ⟨M,?_,R.top,R.row⟩⟩
   rw[R.rows]
   have:(zR bk).length=bk.length:=by simp[zR]
   rw[this,aV]
def zJR:Sp:=fun vs H Q _=>∃(a:ai) (bk:List S) (o:Nat) (x:S),vs=[.ref a,.int o,sv x]/\H a=some (.lst (zR bk))/\bk.length<=8/\(∀y∈bk,y.length<=8)/\1<=o/\x.length<=64/\∀ra H',zA H H'->H' ra=some (.dK (yG (yO (zJ o bk) (zO x o))))->Q (.ref ra) H'
theorem zQY {f:ai}{fd:aO}(F:Fun K "_law_row" "_law_row" zCg f fd)(B:Blt mg)(G:zQ P w K mg base 1 "_law_counts" ["_law_book_here","_law_order"] zJQ):FnOk P w K mg base zU 2 f fd ["_law_book_here","_law_order","_law_text"] zJR:=by
 refine F.ok zCh (fun vs H Q E h=>?_) (fun I A outer s H vs Q E C h=>?_)
 ·obtain⟨a,bk,o,x,rfl,_⟩:=h;rfl
 ·obtain⟨a,bk,o,x,rfl,J,m,n,D,U,k⟩:=h
  have L:=jT C
  have nd:=zCh.nd
  refine⟨_,zG (zX (i:=3) nd rfl (Or.inl rfl) (g9 (vF zAB (pv 2) y9 (yY _)) (qG (pv 2) (vX (zP zAg zF (zZ (zBp rfl) (by rfl) B.min fJ (zB (pv 1) (zB (zZ j4 (by rfl) B.len bQ (zB (pv 2) zC)) zC))))) qN) y9))
   (zH (zT (gO L (zL G C rfl (zB (pv 0) (zB (pv 1) zC))) (pv 3) kU ⟨rfl,rfl,rfl,rfl⟩))),?_⟩
  refine⟨_,rfl,rfl,_,rfl,?_⟩
  refine' (fun(cont:∀q:V,q=sv (zO x o)->(_:V->Prop) q)=>?main) ?cont
  case main=>
   by_cases p:x=[]
   ·subst p
    refine qW rfl ?_
    have ev:V.str ""=sv (zO [] o):=by simp[zO];rfl
    revert ev
    generalize V.str ""=q
    intro ev
    exact cont q ev
   ·have r:¬V.str (tx x)=V.str "" :=fun z=>p (zAs (V.str.inj z))
    have g:1<=x.length:=by
     have:x.length≠0:=fun z=>p (cX.mp z)
     omega
    refine zBW r ?_
    refine⟨_,rfl,_,rfl,_,rfl,tx x,rfl,by rw[z8,aR];omega,_,_,rfl,_,_,rfl,rfl,_,rfl,tx x,rfl,by rw[z8,aR];omega,?_⟩
    have ev:V.str (vS (tx x) (some (0- (if((tx x).length:Int)<(o:Int)then((tx x).length:Int)else(o:Int)))) none)=sv (zO x o):=by
     rw[z8]
     exact congrArg V.str (zCe x o x.length D g rfl)
    revert ev
    generalize V.str (vS (tx x) (some (0- (if((tx x).length:Int)<(o:Int)then((tx x).length:Int)else(o:Int)))) none)=q
    intro ev
    exact cont q ev
  case cont=>
   intro q M
   subst M
   refine⟨_,rfl,_,rfl,a,bk,o,rfl,J,m,n,D,fun d t N hd R=>?_⟩
   obtain⟨kvs,j,O⟩:=R.get (zO x o)
   refine⟨d,rfl,.inl ⟨_,.inl j⟩,_,rfl,fun l u=>?_⟩
   have v:zA t (upd t l (.dK [])):=zA.upd1 u
   obtain⟨e,T,y⟩:∃e,(yU kvs (Sum.inr (tx (zO x o)))).getD (.ref l)=.ref e/\upd t l (.dK []) e=some (.dK (yG (yO (zJ o bk) (zO x o)))):=by
    rcases O with⟨b,c⟩|⟨e,b,c⟩
    ·exact⟨l,by rw[b];rfl,by rw[zD,c];rfl⟩
    ·exact⟨e,by rw[b];rfl,v _ _ c⟩
   refine⟨_,vR.k (k:=Sum.inr (tx (zO x o))) (v _ _ j),?_⟩
   rw[T]
   exact k e _ (N.trans v) y
def zJS (K:ae):Sp:=fun vs H Q _=>∃(a:ai) (bk:List S) (o:Nat) (nm:S),vs=[.ref a,.int o,sv nm]/\H a=some (.lst (zR bk))/\Fit bk o nm/\(zJ o bk).length<64/\
 ∀v H',zA H H'->yV K H' v (uB (zJ o bk) o nm)->Q v H'
theorem zQZ {f:ai}{fd:aO}(F:Fun K "_law_share" "_law_share" zCi f fd)(B:Blt mg)(B2:Blt2 mg)(cR:zQ P w K mg base 2 "_law_row" ["_law_book_here","_law_order","_law_text"] zJR)(cL:zQ P w K mg base 1 "_law_lowest" ["_law_up","_law_down"] zBY) :
  FnOk P w K mg base zU 3 f fd ["_law_book_here","_law_order","_law_name_here"] (zJS K):=by
 refine F.ok zCj (fun vs H Q E h=>?_) (fun al A outer s H vs Q E O h=>?_)
 ·obtain⟨a,bk,o,nm,rfl,_⟩:=h;rfl
 ·obtain⟨a,bk,o,nm,rfl,ha,r,R,k⟩:=h
  have hu:=jT O
  have nd:=zCj.nd
  have hr1:=O.mono (j:=1) (by decide)
  refine⟨_,zG (zX (i:=3) nd rfl (Or.inl rfl) zF) (zG (zX (i:=4) nd rfl (Or.inl rfl) zF)
   (zG (uA bI rfl (qF rfl B.range (zB (zP vD (zZ j4 (by rfl) B.len bQ (zB (pv 2) zC)) zF) zC)) (zY (i:=5) nd rfl (Or.inl rfl))
    (zG (zX (i:=6) nd rfl (Or.inr rfl) (zL cR O rfl (zB (pv 0) (zB (pv 1) (zB (qG (pv 2) qN (vX (pv 5))) zC)))))
    (zG (zX (i:=3) nd rfl (Or.inl rfl) (zP uO (pv 3) (gO hu (pv 6) (qG (pv 2) (vX (pv 5)) (vX (zP vD (pv 5) zF))) zF ⟨rfl,rfl,rfl,rfl⟩)))
    (zH (zX (i:=4) nd rfl (Or.inl rfl) (zP uO (pv 4) (zZ (zGC rfl) (by rfl) B2.max mv (zB zF (zB (zZ (zGq rfl) (by rfl) B.sum iR (zB
     (zHq (vG (N:=["_law_row_here","_law_letter"]) (caps:=[6]) rfl (yT (by kernel_rfl)) (zHo (pv 6)) (fun cl X s H ex=>zY (i:=1) zIb rfl (Or.inl rfl)) (fun cl X s H ex=>vK) (fun cl X s H ex=>zAG hu (pv 0) (pv 1) (fun _ _=>rfl)))) zC)) zC)))))))))
   (zH (zT (zL cL hr1 rfl (zB (pv 3) (zB (pv 4) zC))))))),?_⟩
  have pl:=zAz r.toBk
  have W:=r.toBk.hi
  have Y:=r.toBk.l8
  have am:=r.nmn.2.1
  have m:∀v H',zA H H'->yV K H' v (uW (zJ o bk) (zM o nm))->Q v H':=k
  have ho:1<=o:=r.toBk.o1
  have Z:=r.pw
  generalize ab:zJ o bk=b at m pl Z R
  refine⟨_,rfl,tx nm,rfl,by rw[z8,aR];omega,_,_,rfl,rfl,_,rfl,by rw[z8];omega,by rw[z8];omega,?_⟩
  have t:(((tx nm).length:Int)+1).toNat=nm.length+1:=by rw[z8];omega
  refine uG (qA 0 _) (fun i σ H'=>(∃(U D:Int) (y z:Option V),σ=[some (.ref a),some (.int o),some (sv nm),some (.int U),some (.int D),y,z]/\0<=U/\0<D/\U<=D/\D<=(b.length:Int)^i/\low U D=uW b ((zM o nm).take i))/\zA H H')
   ⟨⟨1,1,_,_,rfl,by decide,by decide,by decide,by simp,by simp[uW,zGw]⟩,zA.refl H⟩ (fun _ _ _ _ _=>trivial) ?_ ?_
  ·rintro i x σ H' Nx hN hx2 ⟨⟨U,D,y,z,rfl,u,L,ud,dp,d⟩,C⟩
   rw[t]at hx2
   obtain⟨hi,rfl⟩:=qH hx2
   have ep:=zCf (o:=o) hi
   have ac:i<(zM o nm).length:=by rw[gZ];exact hi
   have n:(zM o nm).take (i+1)=(zM o nm).take i++[(zO (nm.take i) o,(nm.drop i).take 1)]:=by
    rw[ak ac,(aa.mp ep).2]
   have G:D<1073741824:=by
    have e1:b.length^i<=b.length^(nm.length+1):=cq pl.1 (by omega)
    have e2:((b.length^i:Nat):Int)=(b.length:Int)^i:=by simp
    omega
   refine⟨_,rfl,_,rfl,_,rfl,_,rfl,_,rfl,tx nm,rfl,by rw[z8,aR];omega,a,bk,o,nm.take i,by rw[zAI];rfl,C _ _ ha,W,Y,ho,by rw[aL];omega,fun ra H2 s2 g=>?_⟩
   rw[ab]at g
   generalize aj:zO (nm.take i) o=e at g n
   generalize I:(nm.drop i).take 1=l at n
   have an:tot b e<=b.length:=bC ..
   have ap:=gT b e l
   refine⟨_,rfl,_,rfl,ra,rfl,.inl ⟨_,.inl g⟩,_,rfl,_,rfl,_,rfl,_,rfl,_,_,rfl,rfl,_,rfl,tx nm,rfl,by rw[z8,aR];omega,?_⟩
   rw[zBQ,I]
   have J:yU (yG (yO b e)) (Sum.inr (tx l))=(zV (yO b e) l).map V.int:=qB _ _ _
   refine⟨_,vR.k (k:=Sum.inr (tx l)) g,U,(b.count (e,l):Int),rfl,?_,cmW u (by omega) _,?_⟩
   ·rw[J,zAw]
    by_cases c:0<b.count (e,l)
    ·rw[if_pos c];rfl
    ·rw[if_neg c,show b.count (e,l)=0 by omega];rfl
   refine⟨_,rfl,zIY rfl g (zAv _ _) (by have:=zIZ b e;omega) fun Dl H3 s3 hD=>?_⟩
   refine⟨Dl,(yO b e).map (·.2),rfl,.of hD,1,_,rfl,D,_,rfl,rfl,cmW (by omega) (by omega) _,?_⟩
   rw[zCU]
   have hT:(if(tot b e:Int)>1 then(tot b e:Int)else 1)=(if(tot b e:Int)>1 then(tot b e:Int)else 1):=rfl
   have M:=zIV b e l
   generalize q:(if(tot b e:Int)>1 then(tot b e:Int)else 1)=T at M
   have t1:1<=T:=by rw[<-q];split<;>omega
   have t2:T<=(b.length:Int):=by rw[<-q];split<;>omega
   have t3:(b.count (e,l):Int)<=T:=by rw[<-q];split<;>omega
   refine hN _ _ ⟨⟨U*(b.count (e,l):Int),D*T,_,_,rfl,d7 u (by omega),dz L (by omega),?_,?_,?_⟩,(C.trans s2).trans s3⟩
   ·exact fm ud t3 (by omega) (by omega)
   ·rw[nV]
    exact fm dp t2 (by omega) (pG (by omega))
   ·rw[n,zEJ,<-d,M]
    exact(zIW u L (by omega) (by omega)).symm
  ·rintro σ H' ⟨⟨U,D,y,z,rfl,u,L,ud,dp,d⟩,C⟩
   rw[af,bh,t]at dp d
   rw[<-gZ o nm,aV]at d
   have G:D<1073741824:=by
    have e2:((b.length^(nm.length+1):Nat):Int)=(b.length:Int)^(nm.length+1):=by simp
    omega
   refine⟨_,rfl,_,rfl,U,D,rfl,u,L,zIU G,fun p M=>m _ _ (C.upd_new (C.free M)) ?_⟩
   rw[<-d]
   exact yV.new
def zJT:Sp:=fun vs H Q _=>∃(a:ai) (bk:List S) (o:Nat),vs=[.ref a,.int o,.int 4]/\H a=some (.tup (zR bk))/\Bk bk o/\Abz bk/\(zJ o bk).length<64/\∀L p H',MadeL (zJ o bk) o 5 L->L.length<=500->zA H H'->H p=none->H' p=some (.lst (L.map sv))->Q (.ref p) H'
theorem zQa {f:ai}{fd:aO}(F:Fun K "_law_made" "_law_made" zFA f fd)(B:Blt mg)(cR:zQ P w K mg base 2 "_law_row" ["_law_book_here","_law_order","_law_text"] zEx):FnOk P w K mg base zU 3 f fd ["_law_book_here","_law_order","_law_most"] zJT:=by
 refine F.ok zId (fun vs H Q E h=>?_) (fun b2 A outer s H vs Q E hr h=>?_)
 ·obtain⟨a,bk,o,rfl,_⟩:=h;rfl
 ·obtain⟨a,bk,o,rfl,hH,hb,ha,b3,k⟩:=h
  have hu:=jT hr
  have nd:=zId.nd
  refine⟨_,zG (zX (i:=3) nd rfl (Or.inl rfl) (yE zC)) (zG (zX (i:=4) nd rfl (Or.inl rfl) (yE (zB y9 zC)))
   (zG (uA bI rfl (qF rfl B.range (zB (zP vD (pv 2) zF) zC)) (zY (i:=5) nd rfl (Or.inl rfl))
    (zG (zX (i:=6) nd rfl (Or.inl rfl) (yE zC))
    (zG (uA bI rfl (vQ (pv 4)) (zY (i:=7) nd rfl (Or.inr rfl))
     (zG (zX (i:=8) nd rfl (Or.inl rfl) (zL cR hr rfl (zB (pv 0) (zB (pv 1) (zB (pv 7) zC)))))
     (zG (yK (zBL (zLZ hu y9 (pv 8))) (zH (yP (zAE eD lx ly zGR (pv 3) (zB (pv 7) zC)))) yJ)
     (zH (zX (i:=6) nd rfl (Or.inl rfl) (zP jR (pv 6)
       (vG (N:=["_law_text","_law_letter"]) (caps:=[7]) rfl (yT (by kernel_rfl)) (vQ (zZ (zMC rfl) (by rfl) B.sorted lz (zB (pv 8) zC)))
        (fun cl X s H ex=>zY (i:=1) zPH rfl (Or.inl rfl)) (fun cl X s H ex=>kW (vF zAB (pv 1) y9 (yY _))) (fun cl X s H ex=>zP zKo (pv 0) (pv 1)))))))))
    (zH (zX (i:=4) nd rfl (Or.inl rfl) (pv 6))))))
   (zH (zT (pv 3))))),?_⟩
  obtain⟨lt,n⟩:=zPE (zJ o bk)
  have bj:(([],[]):S×S)∉zJ o bk:=zNw hb.o1 fun x q=>(hb.nm x q).1
  refine⟨by show 0<=sizeLine;decide,fun g aD=>?_⟩
  have t1:zA H (upd H g (.lst [])):=zA.upd1 aD
  refine⟨by show 1<=sizeLine;decide,fun te Y=>?_⟩
  have t2:zA (upd H g (.lst [])) (upd (upd H g (.lst [])) te (.lst [.str ""])):=zA.upd1 Y
  have bl:g≠te:=fun z=>by subst z;rw[zD]at Y;cases Y
  refine⟨_,rfl,_,_,rfl,rfl,5,rfl,by decide,by decide,?_⟩
  refine uG (qA 0 5) (fun m σ H'=>∃(I:ai) (x5 x6 x7 x8:Option V) (A L:List S),σ=[some (.ref a),some (.int o),some (.int 4),some (.ref g),some (.ref I),x5,x6,x7,x8]/\zA H H'/\H I=none/\g≠I/\H' I=some (.lst (A.map sv))/\H' g=some (.lst (L.map sv))/\Lev (zJ o bk) o m A/\A.length<=3^m/\MadeL (zJ o bk) o m L/\L.length<=m*81)
   ⟨te,_,_,_,_,[[]],[],rfl,t1.trans t2,t1.free Y,bl,zD,t2 _ _ zD,Lev.start _ _,by simp,MadeL.start _ _,by simp⟩ (fun _ _ _ _ _=>trivial) ?_ ?_
  ·rintro m x σ H' Nx hN q ⟨I,x5,x6,x7,x8,A,L,rfl,sm,bm,am,aE,Z,yM,a0,r,a1⟩
   obtain⟨hm,rfl⟩:=qH q
   have b4:A.length<=81:=b8 a0 (by
    have:(3:Nat)^m<=3^4:=cq (by decide) (by omega)
    simpa using this)
   refine⟨by show 0<=sizeLine;decide,fun lo aK=>?_⟩
   have t3:zA H' (upd H' lo (.lst [])):=zA.upd1 aK
   have a2:lo≠g:=(vJ Z aK).symm
   have a3:H lo=none:=sm.free aK
   refine⟨_,rfl,I,rfl,⟨_,.of (t3 _ _ aE)⟩,?_⟩
   refine uG (vH K I (A.map sv)) (fun j σ H2=>∃(U:ai) (x7 x8:Option V),σ=[some (.ref a),some (.int o),some (.int 4),some (.ref g),some (.ref I),some (.int (m:Int)),some (.ref U),x7,x8]/\zA H H2/\H U=none/\g≠U/\H2 I=some (.lst (A.map sv))/\H2 g=some (.lst ((L++(A.take j).filter (gD (zJ o bk) o)).map sv))/\H2 U=some (.lst (((A.take j).flatMap (zBE lt o)).map sv)))
    ⟨lo,_,_,rfl,sm.trans t3,a3,a2.symm,t3 _ _ aE,by rw[t3 _ _ Z];simp,by rw[zD];simp⟩ (fun j σ H2 _ h=>let⟨_,_,_,_,_,_,_,z,_⟩:=h;.of z) ?_ ?_
   ·rintro j x σ H2 b5 bn q ⟨U,x7,x8,rfl,ab,an,J,ap,u,v⟩
    rw[aF]at q
    cases ej:A[j]? with
    |none=>rw[ej]at q;cases q
    |some t=>
    rw[ej]at q
    have hx2:x=sv t:=(aw q).symm
    subst hx2
    have hj:j<A.length:=(aa.mp ej).1
    have aN:A.take (j+1)=A.take j++[t]:=by
     rw[ak hj,(aa.mp ej).2]
    obtain⟨b6,b7⟩:=(yM.mem t).mp (aS ej)
    refine⟨_,rfl,_,rfl,_,rfl,a,bk,o,t,rfl,ab _ _ hH,hb.hi,hb.l8,hb.o1,by omega,fun ra H3 s3 ac=>?_⟩
    have a4:=ab.trans s3
    have as:=s3 _ _ ap
    have C:=s3 _ _ u
    have av:=s3 _ _ v
    have bo:g≠ra:=zBK C ac (by simp)
    have b0:(L++(A.take j).filter (gD (zJ o bk) o)).length<=1000:=by
     rw[aq]
     have h1:=bC (gD (zJ o bk) o) (A.take j)
     rw[aL]at h1
     omega
    refine gnR ?_
    dsimp only
    refine zIL (fun σ' W=>σ'=[some (.ref a),some (.int o),some (.int 4),some (.ref g),some (.ref I),some (.int (m:Int)),some (.ref U),some (sv t),some (.ref ra)]/\zA H W/\W I=some (.lst (A.map sv))/\W g=some (.lst ((L++(A.take (j+1)).filter (gD (zJ o bk) o)).map sv))/\W U=some (.lst (((A.take j).flatMap (zBE lt o)).map sv))/\W ra=some (.dK (yG (yO (zJ o bk) (zO t o))))) ?cont fun N a5=>?main
    case main=>
     refine⟨_,rfl,ra,_,rfl,vR.k (k:=Sum.inr (tx [])) ac,_,rfl,?_⟩
     rw[zNc]
     by_cases c:(zO t o,([]:S))∈zJ o bk
     ·have hz:t≠[]:=fun z=>by
       subst z
       have e0:zO ([]:S) o=[]:=by unfold zO;simp
       rw[e0]at c
       exact bj c
      refine zPF (decide_eq_true c) ?_
      refine⟨_,rfl,.inl ⟨rfl,_,.of C⟩,_,rfl,g,_,_,rfl,rfl,C,by rw[af,aR];omega,a5 _ _ ⟨rfl,a4.upd_new aD,by rw[zN am.symm];exact as,?_,by rw[zN J.symm];exact av,by rw[zN bo.symm];exact ac⟩⟩
      rw[zD,aN,bN]
      have:[t].filter (gD (zJ o bk) o)=[t]:=by simp[c9,gD,c,hz]
      rw[this];simp
     ·refine zPG (by simpa using c) (a5 _ _ ⟨rfl,a4,as,?_,av,ac⟩)
      rw[aN,bN]
      have:[t].filter (gD (zJ o bk) o)=[]:=by simp[c9,gD,c]
      rw[this,fG];exact C
    case cont=>
     rintro σ' W ⟨rfl,bp,a6,a7,a8,a9⟩
     refine⟨_,rfl,_,rfl,?_⟩
     have M:(((yO (zJ o bk) (zO t o)).map fun p=>(tx p.1,V.int p.2)).map (·.1))=(gU (zJ o bk) (zO t o)).map tx:=by rw[cp,cp];rfl
     have bt:(((yO (zJ o bk) (zO t o)).map fun p=>(tx p.1,V.int p.2)).map (·.1)).Nodup:=by
      rw[M]
      exact fP tx (fun a b bv z=>bv (zAs z)) (zAv _ _)
     have bB:(yO (zJ o bk) (zO t o)).length<64:=by
      have h1:=zEc (gU (zJ o bk) (zO t o)) ((zJ o bk).map (·.2)) (zAv _ _) fun l hl=>aX.mpr ⟨_,(zCW _ _ _).mp hl,rfl⟩
      rw[af,af]at h1
      omega
     refine⟨ra,(yO (zJ o bk) (zO t o)).map (fun p:S×Int=>(tx p.1,V.int p.2)),rfl,a9,bt,by rw[af];exact bB,fun G l O bb hl=>?_⟩
     rw[M]at O
     have d:(G.map fun x=>x.cps.toList).Perm (gU (zJ o bk) (zO t o)):=by
      have:=O.map fun x:Str=>x.cps.toList
      rw[cp]at this
      have e:(gU (zJ o bk) (zO t o)).map ((fun x:Str=>x.cps.toList) ∘ tx)=gU (zJ o bk) (zO t o):=by
       conv=>rhs;rw[<-rN (gU (zJ o bk) (zO t o))]
       apply dw
       intro x _
       exact gB x
      rw[e]at this
      exact this
     have R:(G.map fun x=>x.cps.toList).Pairwise (· < ·):=dy.mpr bb
     have ay:G=(G.map fun x=>x.cps.toList).map tx:=(zNB G).symm
     generalize(G.map fun x=>x.cps.toList)=os at d R ay
     subst ay
     have bL:os.filter (fun l=>decide (l≠[]))=lt (zO t o):=zIK (fZ _ R) (n _).1 fun l=>by
      rw[bF,d.mem_iff,zCW,(n _).2,decide_eq_true_eq]
      exact And.comm
     have b9:os.length<64:=by have:=d.length_eq;rw[af]at this;omega
     have sl:zA W (upd W l (.lst ((os.map tx).map V.str))):=zA.upd1 hl
     refine⟨l,rfl,⟨_,.of zD⟩,?_⟩
     have be:upd W l (.lst ((os.map tx).map V.str)) l=some (.lst ((os.map tx).map V.str)):=zD
     have aA:=sl _ _ a8
     have T:=sl _ _ a7
     have aB:=sl _ _ a6
     have aW:=bp.trans sl
     generalize upd W l (.lst ((os.map tx).map V.str))=H6 at be aA T aB aW
     refine kZ (vH K l ((os.map tx).map V.str)) [some (sv t)] 1 (by rw[af,af];omega) (fun i aj H'=>H'=H6/\aj=(((os.take i).filter fun l=>decide (l≠[])).map (t++·)).map sv)
      ⟨rfl,rfl⟩ (fun i aj H' _ h=>⟨.of (by rw[h.1];exact be),by
       rw[h.2,af,af]
       have h1:=bC (fun l=>decide (l≠[])) (os.take i)
       rw[aL]at h1
       omega⟩) ?_ ?_
     ·rintro i y aj H' ys Nx hN q hy ⟨rfl,rfl⟩
      obtain⟨y',rfl⟩:=y0 hy
      rw[aF,aF]at q
      cases ep:os[i]? with
      |none=>rw[ep]at q;cases q
      |some c=>
      rw[ep]at q
      have hx2:y=sv c:=(aw q).symm
      subst hx2
      have ca:c.length<=1:=zEa ((zCW _ _ _).mp (d.mem_iff.mp (aS ep)))
      have aC:os.take (i+1)=os.take i++[c]:=by
       rw[ak (aa.mp ep).1,(aa.mp ep).2]
      refine⟨_,rfl,rfl,_,rfl,?_⟩
      by_cases hz:c=[]
      ·subst hz
       refine qW rfl (hN _ _ [some (sv [])] rfl ⟨rfl,?_⟩)
       rw[aC,bN];simp
      ·have bM:¬V.str (tx c)=V.str "" :=fun z=>hz (zAs (V.str.inj z))
       refine zBW bM ⟨_,rfl,_,rfl,tx t,tx c,rfl,rfl,by rw[z8,z8,aR];omega,hN _ _ [some (sv c)] rfl ⟨rfl,?_⟩⟩
       rw[aC,bN,az,az,zNH]
       have:[c].filter (fun l=>decide (l≠[]))=[c]:=by simp[hz]
       rw[this];rfl
     ·rintro aj H' ⟨rfl,rfl⟩ D hD
      rw[af,af,aV,bL]
      have sD:zA H' (upd H' D (.lst (((lt (zO t o)).map (t++·)).map sv))):=zA.upd1 hD
      have bi:(((A.take j).flatMap (zBE lt o)).map sv).length+(((lt (zO t o)).map (t++·)).map sv).length<=sizeLine:=by
       have h4:=zHz (A.take j) (zBE lt o) fun t _=>by rw[af];exact zEz ha n _
       have h3:=zEz ha n (zO t o)
       rw[aL]at h4
       rw[af,af,af,aR];omega
      refine⟨U,D,_,_,rfl,rfl,sD _ _ aA,zD,bi,fun p hp=>?_⟩
      have sP:zA (upd H' D (.lst (((lt (zO t o)).map (t++·)).map sv))) (upd (upd H' D (.lst (((lt (zO t o)).map (t++·)).map sv))) p (.lst ((((A.take j).flatMap (zBE lt o)).map sv)++(((lt (zO t o)).map (t++·)).map sv)))):=zA.upd1 hp
      refine bn _ _ ⟨p,_,_,rfl,(aW.trans sD).trans sP,(aW.trans sD).free hp,vJ (sD _ _ T) hp,sP _ _ (sD _ _ aB),sP _ _ (sD _ _ T),?_⟩
      rw[zD,aN,gr,<-az]
      simp
   ·rintro σ H2 ⟨U,x7,x8,rfl,ab,an,J,ap,u,v⟩
    rw[af,aV]at u v
    refine⟨_,rfl,hN _ _ ⟨U,_,_,_,_,_,_,rfl,ab,an,J,v,u,yM.step (zNO o bk) lt (fun e=>(n e).1) (fun e=>(n e).2),?_,r.step yM,?_⟩⟩
    ·have:=zHz A (zBE lt o) fun t _=>by rw[af];exact zEz ha n _
     rw[nW];omega
    ·rw[aq]
     have h1:=bC (gD (zJ o bk) o) A
     have h2:(A.filter fun t=>decide ((zO t o,[])∈zJ o bk)&&decide (t≠[])).length<=A.length:=h1
     omega
  ·rintro σ H' ⟨I,x5,x6,x7,x8,A,L,rfl,sm,bm,am,aE,Z,yM,a0,r,a1⟩
   have al:MadeL (zJ o bk) o 5 L:=by simpa using r
   have b1:L.length<=5*81:=by simpa using a1
   exact⟨_,rfl,k L g H' al (by omega) sm aD Z⟩
end
end Kn.Ln
end
section
namespace Kn
open PySem L2
section
variable{X:Cx}{e:cb}{es:List cb}{te:TE}{t:TA}{pos:Pos}
def zJU:cb->Bool
 | .Starred ..=>false
 |_=>true
theorem zQb (h:zJU e=true)(env):starEach (e::es) env=(false,eval e env)::starEach es env:=by
 cases e<;>first|rfl|(cases h)
theorem zE (a:PE X e te)(b:PA X es t)(c:zJU e=true:=by rfl):PA X (e::es) (zDL te t):=zB a b (zQb c _)
end
section
variable{P:aP}{w:bc}{K:ae}{mg:Str->Option ah}{base:bK}
theorem zFb {X:Cx}(a:ae)(b:X.K=a):IxR X (zGL a):=by
 subst b;exact uI
theorem zQc {X:Cx}(a:ae)(b:X.K=a):uV X (.builtin "len") (fun xs H Q=>∃p ys,xs=[.ref p]/\(z9 a H p ys\/yH a H p ys)/\Q (.int ys.length) H):=by
 subst b;exact jE
theorem LsAt.append {H:Hp}{vs us:List V}{ls c:List (List Nat)}(h:LsAt H vs ls)(g:LsAt H us c):LsAt H (vs++us) (ls++c):=by
 refine⟨by rw[aq,aq,h.len,g.len],fun i v l a b=>?_⟩
 by_cases hi:i<vs.length
 ·rw[bA hi]at a
  rw[bA (by rw[<-h.len];exact hi)]at b
  exact h.at_ i v l a b
 ·rw[bD (by omega)]at a
  rw[bD (by rw[<-h.len];omega),<-h.len]at b
  exact g.at_ _ v l a b
theorem zCx:∀n,(vB n).length=2^n
 |0=>rfl
 |n+1=>by
  show(vB n++(vB n).map _).length=_
  rw[aq,af,zCx n,nW];omega
theorem zFc:∀n,(vB n).Nodup
 |0=>by simp[vB]
 |n+1=>by
  show(vB n++(vB n).map _).Nodup
  rw[iH]
  refine⟨zFc n,fP (fun l=>l++[n]) (fun a b c h=>c (List.append_cancel_right h)) (zFc n),fun a d b f e=>?_⟩
  obtain⟨m,_,rfl⟩:=aX.mp f
  have:=(qR.mp d).1 n (by rw[e];simp)
  omega
theorem zAV (l:List Nat):cn (yR l)=true/\(yR l).canLay0=true:=by
 unfold yR
 exact⟨zES _,by simp only[dC];exact zCV _⟩
theorem zBd (a b:List Nat):bV (yR a) (yR b)=decide (a=b):=by
 unfold yR
 rw[zCb]
 refine decide_eq_decide.mpr ⟨fun h=>?_,fun h=>by rw[h]⟩
 have:∀a b:List Nat,(a.map fun(i:Nat)=>(i:Int))=(b.map fun(i:Nat)=>(i:Int))->a=b:=by
  intro a
  induction a with
  |nil=>intro b h;cases b with|nil=>rfl|cons _ _=>cases h
  |cons x a ih=>
   intro b h
   cases b with
   |nil=>cases h
   |cons y b=>
    have c:=qr h
    have d:(x:Int)=(y:Int):=c.1
    rw[ih b c.2,show x=y by omega]
 exact this a b h
theorem zBe:∀{n:Nat}{l:List Nat},l∈vB n->l.length<=n
 |0,l,h=>by
  have:l=[]:=by simpa [vB]using h
  rw[this];exact aH _
 |n+1,l,h=>by
  rcases bP.mp (show l∈vB n++(vB n).map (fun l=>l++[n])from h)with z|z
  ·exact Nat.le_succ_of_le (zBe z)
  ·obtain⟨m,a,rfl⟩:=aX.mp z
   rw[aq]
   exact oD (zBe a)
theorem zBf {c:Bool}{A B:Prop}(a:c=true)(h:A):if c=true then A else B:=by rw[a];exact yL h
theorem getElem?_getD {bk:List S}{p:Nat}(h:p<bk.length):bk[p]?=some (bk.getD p []):=by
 rw[br,ax h];rfl
structure PrAt (H:Hp) (vs:List V) (ls:List (List Nat)):Prop where
 len:vs.length=ls.length
 at_:∀(i:Nat) (l:List Nat),ls[i]?=some l->∃a lb,vs[i]?=some (.ref a)/\H a=some (.tup [.int (l.length:Int),.ref lb])/\H lb=some (.lst (zI l))
theorem PrAt.same {H H':Hp}{vs:List V}{ls:List (List Nat)}(h:PrAt H vs ls)(e:zA H H'):PrAt H' vs ls:=⟨h.len,fun i l b=>let⟨a,c,d,f,g⟩:=h.at_ i l b;⟨a,c,d,e _ _ f,e _ _ g⟩⟩
theorem PrAt.nil {H:Hp}:PrAt H [] []:=⟨rfl,fun i l h=>by cases h⟩
theorem PrAt.snoc {H:Hp}{vs:List V}{ls:List (List Nat)}{a c:ai}{l:List Nat}(h:PrAt H vs ls)(f:H a=some (.tup [.int (l.length:Int),.ref c]))(g:H c=some (.lst (zI l))):PrAt H (vs++[.ref a]) (ls++[l]):=by
 refine⟨by rw[aq,aq,h.len];rfl,fun i m b=>?_⟩
 by_cases hi:i<ls.length
 ·rw[bA hi]at b
  rw[bA (by rw[h.len];exact hi)]
  exact h.at_ i m b
 ·rw[bD (by omega)]at b
  rw[bD (by rw[h.len];omega),h.len]
  cases e:i-ls.length with
  |zero=>rw[e]at b;cases b;exact⟨a,c,rfl,f,g⟩
  |succ k=>rw[e]at b;cases b
abbrev toI (l:List Nat):List Int:=l.map fun(i:Nat)=>(i:Int)
theorem zJV:∀{a b:List Nat},a.length=b.length->HT.lexLt (toI a) (toI b)=true->a<b
 | [],[],_,h=>by cases h
 | [],_::_,e,_=>by cases e
 |_::_,[],e,_=>by cases e
 |x::a,y::b,e,h=>by
  have h':(if(x:Int)=(y:Int)then HT.lexLt (toI a) (toI b)else decide ((x:Int)<(y:Int)))=true:=h
  by_cases c:x=y
  ·subst c
   rw[if_pos rfl]at h'
   exact cO.mpr (.inr ⟨rfl,zJV (iL e) h'⟩)
  ·rw[if_neg (by omega)]at h'
   have:=of_decide_eq_true h'
   exact cO.mpr (.inl (by omega))
theorem zQd {a b:List Nat}(h:gX (toI a) (toI b)=true):ltK a b:=by
 unfold gX at h
 rw[af,af]at h
 by_cases e:a.length=b.length
 ·rw[if_pos e]at h;exact .inr ⟨e,zJV e h⟩
 ·rw[if_neg e]at h;exact .inl (of_decide_eq_true h)
theorem zJW (good:List (List Nat))(i:Nat):(good.map toI).getD i []=toI (good.getD i []):=by
 rw[br,br,aF]
 cases good[i]? <;>rfl
theorem zQe {good:List (List Nat)}{pm:List Nat}(h:pm.Perm (bg good.length)):(pm.map fun i=>good.getD i []).Perm good:=by
 have a:=h.map fun i=>good.getD i []
 have e:((bg good.length).map fun i=>good.getD i [])=good:=by
  refine lC (by simp) fun i a b=>?_
  rw[f9,List.getElem_range,br,ax b];rfl
 rw[e]at a;exact a
theorem toI_inj {a b:List Nat}(h:toI a=toI b):a=b:=by
 have:=zBd a b
 unfold yR at this
 rw[show(a.map fun(i:Nat)=>(i:Int))=(b.map fun(i:Nat)=>(i:Int))from h,zCb]at this
 exact of_decide_eq_true (by rw[<-this];simp)
theorem PrAt.perm {H:Hp}{vs:List V}{ls:List (List Nat)}{pm:List Nat}(h:PrAt H vs ls)(b:∀i∈pm,i<ls.length):PrAt H (pm.map fun i=>vs.getD i .non) (pm.map fun i=>ls.getD i []):=by
 refine⟨by rw[af,af],fun i l hl=>?_⟩
 rw[aF]at hl⊢
 cases e:pm[i]? with
 |none=>rw[e]at hl;cases hl
 |some q=>
  rw[e]at hl
  have c:=b q (aS e)
  have d:ls.getD q []=l:=aw hl
  obtain⟨a,f,g,j,m⟩:=h.at_ q l (by rw[<-d,br,ax c];rfl)
  refine⟨a,f,?_,j,m⟩
  show some (vs.getD q .non)=_
  rw[br,g];rfl
end
end Kn
end
section
namespace Kn.Ln
open PySem L2 Kn
theorem zJX {α:Type}{R:α->α->Prop}(d:∀a b,R a b->¬R b a):∀{l m:List α},l.Pairwise R->m.Pairwise R->(∀x,x∈l↔x∈m)->l=m
 | [],[],_,_,_=>rfl
 | [],y::m,_,_,h=>by have:=(h y).mpr (ar ..);cases this
 |x::l,[],_,_,h=>by have:=(h x).mp (ar ..);cases this
 |x::l,y::m,hl,n,h=>by
  obtain⟨i,o⟩:=cg.mp hl
  obtain⟨j,p⟩:=cg.mp n
  have f:x=y:=by
   rcases aQ.mp ((h x).mp (ar ..))with e|e
   ·exact e
   ·rcases aQ.mp ((h y).mpr (ar ..))with g|g
    ·exact g.symm
    ·exact absurd (i y g) (d _ _ (j x e))
  subst f
  rw[zJX d o p fun z=>?_]
  constructor
  ·intro c
   rcases aQ.mp ((h z).mp (aG _ c))with e|e
   ·subst e;exact absurd (i z c) (fun q=>d _ _ q q)
   ·exact e
  ·intro c
   rcases aQ.mp ((h z).mpr (aG _ c))with e|e
   ·subst e;exact absurd (j z c) (fun q=>d _ _ q q)
   ·exact e
abbrev g7 (bk:List S)(l:List Nat):List S:=l.map fun p=>bk.getD p []
theorem zQf {bk:List S}{o:Nat}{nm:S}{l:List Nat}(hl:∀p∈l,p<bk.length):0<(uB (zJ o (g7 bk l)) o nm).1↔yX (vI bk o nm) l=true:=by
 rw[zJB,zJA]
 refine forall_congr' fun q=>imp_congr_right fun _=>?_
 unfold zJ
 rw[bY]
 constructor
 ·rintro⟨t,c,b⟩
  obtain⟨p,a,rfl⟩:=aX.mp c
  exact⟨p,a,_,getElem?_getD (hl p a),b⟩
 ·rintro⟨p,a,t,d,b⟩
  refine⟨t,aX.mpr ⟨p,a,?_⟩,b⟩
  rw[br,d];rfl
theorem zBg {bk:List S}{o:Nat}(h:∀x∈bk,x.length<=4):(zJ o bk).length<=5*bk.length:=by
 induction bk with
 |nil=>exact aH _
 |cons x r ih=>
  have a:=ih fun y b=>h y (aG _ b)
  have d:=h x (ar ..)
  have c:zJ o (x::r)=zM o x++zJ o r:=rfl
  rw[c,aq,bJ]
  have e:(zM o x).length=x.length+1:=by simp[zM]
  omega
theorem zBh {bk:List S}{o:Nat}{x:S}(a:Bk bk o)(d:bk.length<=3)(b:∀x∈bk,x.length<=4)(c:vW x)(hl:x.length<=6):Fit bk o x:=by
 refine⟨a,c,?_⟩
 have e:=zBg (o:=o) b
 have f:(zJ o bk).length^(x.length+1)<=15^(x.length+1):=mZ (by omega) _
 have g:(15:Nat)^(x.length+1)<=15^7:=cq (by decide) (by omega)
 have h:(15:Nat)^7=170859375:=by decide
 omega
section
variable{P:aP}{w:bc}{K:ae}{mg:Str->Option ah}{base:bK}
abbrev zFd:cJ:=top 65
theorem zJY:FnScope ["_law_book_here","_law_order","_law_name_here","_law_found","_law_place","_law_rows"] ["_law_book_here","_law_order","_law_name_here"] (defScope zFd):=yC
theorem zQg:(["_law_place","_law_row_here"]:List Str).Nodup:=by decide+kernel
theorem zJZ:(["_law_size","_law_row_here"]:List Str).Nodup:=by decide+kernel
theorem zQh:(["_law_row_here"]:List Str).Nodup:=by decide+kernel
theorem zQi:(["_law_book_here","_law_order","_law_name_here","_law_row_here"]:List Str).Nodup:=by decide+kernel
theorem zQj:(["_law_book_here","_law_at"]:List Str).Nodup:=by decide+kernel
def q8 (bk:List S)(o:Nat)(nm:S):List (List Nat):=(qJ bk.length).filter (yX (vI bk o nm))
def zJa:Sp:=fun vs H Q _=>∃(b:ai) (bk:List S) (o:Nat) (nm:S),vs=[.ref b,.int o,sv nm]/\H b=some (.tup (zR bk))/\Bk bk o/\bk.length<=3/\(∀x∈bk,x.length<=4)/\vW nm/\nm.length<=4/\
 ∀l ys H',zA H H'->H l=none->H' l=some (.lst ys)->LsAt H' ys (q8 bk o nm)->Q (.ref l) H'
theorem zQk {f:ai}{fd:aO}(F:Fun K "_law_good" "_law_good" zFd f fd)(B:Blt mg)(cS:zQ P w K mg base 3 "_law_share" ["_law_book_here","_law_order","_law_name_here"] (zJS K)):FnOk P w K mg base zU 4 f fd ["_law_book_here","_law_order","_law_name_here"] zJa:=by
 refine F.ok zJY (fun vs H Q E h=>?_) (fun cdv A outer s H vs Q E hr h=>?_)
 ·obtain⟨b,bk,o,nm,rfl,_⟩:=h;rfl
 ·obtain⟨b,bk,o,nm,rfl,hb,hB,h3,h4,hn,hn4,k⟩:=h
  have nd:=zJY.nd
  have hu:=hr.units
  refine⟨_,zG (zX (i:=3) nd rfl (Or.inl rfl) (yE (zE (yE zC) zC)))
   (zG (uA bI rfl (qF rfl B.range (zB (zZ jE (by rfl) B.len bQ (zE (pv 0) zC)) zC)) (zY (i:=4) nd rfl (Or.inr rfl))
    (zH (zX (i:=3) nd rfl (Or.inl rfl) (zP jR (pv 3) (vG (N:=["_law_place","_law_row_here"]) (caps:=[4]) rfl (yT (by kernel_rfl)) (vQ (pv 3))
     (fun cl X s H ex=>zY (i:=1) zQg rfl (Or.inl rfl)) (fun cl X s H ex=>vK)
     (fun cl X s H ex=>zP jR (pv 1) (yE (zE (pv 0) zC))))))))
   (zG (zBB (j:=5) (N:=["_law_size","_law_row_here"]) (caps:=[]) nd rfl (Or.inl rfl) rfl (yT (by kernel_rfl))
     (vQ (zZ (zOW rfl hu) (by rfl) B.sorted lz (zE (vG (N:=["_law_row_here"]) (caps:=[]) rfl (yT (by kernel_rfl)) (vQ (pv 3))
      (fun cl X s H ex=>zY (i:=0) zQh rfl (Or.inl rfl)) (fun cl X s H ex=>vK)
      (fun cl X s H ex=>uL (zE (zZ (zQc K rfl) (by rfl) B.len bQ (zE (pv 0) zC)) (zE (pv 0) zC)))) zC)))
     (fun cl X s H ex=>zAx K 2 rfl rfl (u6 (zY (i:=0) zJZ rfl (Or.inl rfl)) (u6 (zY (i:=1) zJZ rfl (Or.inl rfl)) gJ)) rfl rfl)
     (fun cl X s H ex=>kW (vF (zNb K rfl hu) (pv 1) (yE zC) (yY _))) (fun cl X s H ex=>pv 1))
   (zH (zT (vG (N:=["_law_book_here","_law_order","_law_name_here","_law_row_here"]) (caps:=[0,1,2]) rfl (yT (by kernel_rfl)) (vQ (pv 5))
     (fun cl X s H ex=>zY (i:=3) zQi rfl (Or.inl rfl))
     (fun cl X s H ex=>kW (vF zAC (yS (zFb K rfl) (zL cS hr rfl (zE (vG (N:=["_law_book_here","_law_at"]) (caps:=[0]) rfl (yT (by kernel_rfl)) (zHk K rfl (pv 3))
       (fun cl X s H ex=>zY (i:=1) zQj rfl (Or.inl rfl)) (fun cl X s H ex=>vK)
       (fun cl X s H ex=>yS (zFb K rfl) (pv 0) (pv 1) (fun _ _=>rfl))) (zE (pv 1) (zE (pv 2) zC)))) zF (fun _ _=>rfl)) zF (yY _)))
     (fun cl X s H ex=>pv 3)))))),?_⟩
  have ebk:(zR bk).length=bk.length:=af ..
  refine⟨by show 0<=sizeLine;decide,fun p0 hp0=>?_⟩
  have u0:zA H (upd H p0 (.lst [])):=zA.upd1 hp0
  refine⟨by show 1<=sizeLine;decide,fun p1 hp1=>?_⟩
  have u1:=u0.trans (zA.upd1 (o:=.lst [.ref p0]) hp1)
  have ls0:LsAt (upd (upd H p0 (.lst [])) p1 (.lst [.ref p0])) [.ref p0] (vB 0):=LsAt.snoc LsAt.nil (zA.upd1 hp1 _ _ zD)
  have hp11:(upd (upd H p0 (.lst [])) p1 (.lst [.ref p0])) p1=some (.lst [.ref p0]):=zD
  generalize upd (upd H p0 (.lst [])) p1 (.lst [.ref p0])=H4 at u1 ls0 hp11
  refine⟨_,rfl,b,zR bk,rfl,.inr (.of (u1 _ _ hb)),_,rfl,by rw[ebk];omega,by rw[ebk];omega,?_⟩
  have enn:((zR bk).length:Int).toNat=bk.length:=by rw[ebk];omega
  refine uG (qA 0 _) (fun i σ H'=>(∃(lk:ai) (xk:List V) (y:Option V),σ=[some (.ref b),some (.int (o:Int)),some (sv nm),some (.ref lk),y,none]/\H' lk=some (.lst xk)/\LsAt H' xk (vB i))/\zA H4 H')
   ⟨⟨p1,_,_,rfl,hp11,ls0⟩,zA.refl _⟩ (fun i σ H' _ h=>trivial) ?_ ?_
  ·rintro i x σ H' Nx2 hN2 hx ⟨⟨lk,xk,y,rfl,hlk,lsk⟩,sm⟩
   rw[enn]at hx
   obtain⟨hi,rfl⟩:=qH hx
   have xl:=lsk.len
   have p16:(vB i).length<=16:=by
    rw[zCx]
    have:(2:Nat)^i<=2^4:=cq (by decide) (by omega)
    have e:(2:Nat)^4=16:=by decide
    omega
   refine⟨_,rfl,_,rfl,lk,rfl,⟨_,.of hlk⟩,?_⟩
   refine vT (vH K lk xk) [some (.int (i:Int))] 1 (by omega) (fun j acc H''=>zA H' H''/\acc.length=j/\LsAt H'' acc (((vB i).take j).map fun l=>l++[i]))
    ⟨zA.refl _,rfl,LsAt.nil⟩ (fun j acc H'' _ h=>⟨.of (h.1 _ _ hlk),dh h.2.1⟩) ?_ ?_
   ·rintro j y' acc H'' ys Nx3 hN3 hx3 hy ⟨sm',hal,ls'⟩
    obtain⟨y'',rfl⟩:=y0 hy
    obtain⟨a1,l,el,rfl,h1⟩:=lsk.get hx3
    have hll:l.length<=100:=by have:=zBe (aS el);omega
    have h1':=sm' _ _ h1
    refine⟨_,rfl,_,rfl,by show 1<=sizeLine;decide,fun p2 hp2=>?_⟩
    have t1:zA H'' (upd H'' p2 (.lst [.int (i:Int)])):=zA.upd1 hp2
    refine⟨a1,p2,_,_,rfl,rfl,t1 _ _ h1',zD,by rw[vL,aR];show _+1<=16777216;omega,fun p3 hp3=>hN3 _ _ [some (.ref a1)] rfl ⟨(sm'.trans t1).trans (zA.upd1 hp3),by rw[aq,hal];rfl,?_⟩⟩
    rw[ak (aa.mp el).1,(aa.mp el).2,az]
    refine(ls'.same (t1.trans (zA.upd1 hp3))).snoc ?_
    rw[zD];unfold zI;rw[az];rfl
   ·rintro acc H'' ⟨sm',hal,ls'⟩ D hD
    rw[xl,aV]at ls'
    rw[xl]at hal
    have t1:zA H'' (upd H'' D (.lst acc)):=zA.upd1 hD
    refine⟨lk,D,_,_,rfl,rfl,t1 _ _ (sm' _ _ hlk),zD,by rw[aR];omega,fun p4 hp4=>hN2 _ _ ⟨⟨p4,_,_,rfl,zD,?_⟩,((sm.trans sm').trans t1).trans (zA.upd1 hp4)⟩⟩
    exact((lsk.same (sm'.trans t1)).append (ls'.same t1)).same (zA.upd1 hp4)
  rintro σ H5 ⟨⟨lk,xk,y,rfl,hlk,lsk⟩,sm5'⟩
  rw[af,bh,enn]at lsk
  have sm5:=u1.trans sm5'
  obtain⟨n,en⟩:∃n,n=bk.length:=⟨_,rfl⟩
  have xl:=lsk.len
  rw[<-en]at lsk xl
  have p16:(vB n).length<=16:=by
   rw[zCx]
   have:(2:Nat)^n<=2^4:=cq (by decide) (by omega)
   have e:(2:Nat)^4=16:=by decide
   omega
  refine⟨_,rfl,lk,rfl,⟨_,.of hlk⟩,?_⟩
  refine vT (vH K lk xk) [] 1 (by omega) (fun j acc H''=>zA H5 H''/\acc.length=j/\PrAt H'' acc ((vB n).take j))
   ⟨zA.refl _,rfl,PrAt.nil⟩ (fun j acc H'' _ h=>⟨.of (h.1 _ _ hlk),dh h.2.1⟩) ?_ ?_
  ·rintro j y' acc H'' ys Nx3 hN3 hx3 hy ⟨sm',hal,pr⟩
   obtain⟨y'',rfl⟩:=y0 hy
   obtain⟨a1,l,el,rfl,h1⟩:=lsk.get hx3
   have h1':=sm' _ _ h1
   refine⟨_,rfl,a1,zI l,rfl,.inl (.of h1'),_,rfl,by show 2<=sizeLine;decide,fun T hT=>hN3 _ _ [some (.ref a1)] rfl ⟨sm'.trans (zA.upd1 hT),by rw[aq,hal];rfl,?_⟩⟩
   rw[ak (aa.mp el).1,(aa.mp el).2]
   exact(pr.same (zA.upd1 hT)).snoc (by rw[zD,vL]) (zA.upd1 hT _ _ h1')
  rintro ts H10 ⟨s10,hts,pr⟩ D hD
  rw[xl,aV]at pr
  have t1:zA H10 (upd H10 D (.lst ts)):=zA.upd1 hD
  have pr1:=pr.same t1
  refine⟨D,ts,(vB n).map toI,rfl,.of zD,by rw[af];exact pr.len,fun i k hk=>?_,?_,by rw[af];omega,fun pm d hpm hpw hd=>?_⟩
  ·rw[aF]at hk
   cases e:(vB n)[i]? with
   |none=>rw[e]at hk;cases hk
   |some l=>
    rw[e]at hk
    have ek:toI l=k:=aw hk
    obtain⟨a1,lb,e1,e2,e3⟩:=pr1.at_ i l e
    refine⟨a1,lb,e1,.of (by rw[e2,<-ek,af]),.of (by rw[e3,<-ek];unfold zI;rw[cp];rfl)⟩
  ·exact fP toI (fun a b hab h=>hab (toI_inj h)) (zFc n)
  rw[af]at hpm
  have t2:=t1.trans (zA.upd1 (o:=.lst (pm.map fun i=>ts.getD i .non)) hd)
  have prs:=(pr.same t2).perm (pm:=pm) fun i hi=>bR.mp (hpm.mem_iff.mp hi)
  have gperm:=zQe hpm
  have gsort:(pm.map fun i=>(vB n).getD i []).Pairwise ltK:=fP _ (fun i j h=>by
   unfold zAO at h
   rw[zJW,zJW]at h
   exact zQd h) hpw
  have hdd:(upd (upd H10 D (.lst ts)) d (.lst (pm.map fun i=>ts.getD i .non))) d=some (.lst (pm.map fun i=>ts.getD i .non)):=zD
  generalize(pm.map fun i=>(vB n).getD i [])=gs at prs gperm gsort
  generalize(pm.map fun i=>ts.getD i .non)=vs at prs t2 hdd⊢
  generalize upd (upd H10 D (.lst ts)) d (.lst vs)=H11 at prs t2 hdd⊢
  have sm11:=sm5.trans (s10.trans t2)
  have eall:gs.filter (fun l=>decide (l≠[]))=qJ n:=by
   refine zJX (fun a b h1 h2=>zJF h1 h2) (gsort.filter _) (zJE n) fun l=>?_
   rw[bF,zCp,gperm.mem_iff]
   simp
  have gl:vs.length=gs.length:=prs.len
  have gl16:gs.length<=16:=by rw[gperm.length_eq];exact p16
  refine⟨d,rfl,⟨_,.of hdd⟩,?_⟩
  refine kZ (vH K d vs) [] 2 (by omega) (fun j acc H''=>zA H11 H''/\acc.length<=j/\LsAt H'' acc ((gs.take j).filter (fun l=>decide (l≠[]))))
   ⟨zA.refl _,aH _,LsAt.nil⟩ (fun j acc H'' _ h=>⟨.of (h.1 _ _ hdd),h.2.1⟩) ?_ ?_
  ·rintro j y' acc H'' ys Nx3 hN3 hx3 hy ⟨sm',hal,ls'⟩
   obtain⟨z1,z2,rfl⟩:=ys2 hy
   have hj:j<gs.length:=by rw[<-gl];exact(aa.mp hx3).1
   obtain⟨a1,lb,e1,e2,e3⟩:=prs.at_ j _ (ax hj)
   rw[hx3]at e1
   cases e1
   have etk:gs.take (j+1)=gs.take j++[gs[j]]:=ak hj
   refine⟨a1,[.int ((gs[j]).length:Int),.ref lb],rfl,.of (sm' _ _ e2),rfl,_,_,rfl,_,_,rfl,rfl,?_⟩
   refine⟨_,rfl,by show 0<=sizeLine;decide,fun q hq=>?_⟩
   have uq:=zA.upd1 (o:=.lst []) hq
   have e3':=uq _ _ (sm' _ _ e3)
   refine⟨yR gs[j],yR [],jL e3',jL (l:=[]) zD,(zAV _).1,rfl,_,rfl,?_⟩
   rw[zBd]
   by_cases c:gs[j]=[]
   ·refine zBZ (by rw[c];rfl) (hN3 _ _ [_,_] rfl ⟨sm'.trans uq,by omega,?_⟩)
    rw[etk,bN,dI (by simpa using c)]
    simpa using ls'.same uq
   ·refine zBf (by simp[c]) ⟨_,rfl,hN3 _ _ [_,_] rfl ⟨sm'.trans uq,by rw[aq];show _+1<=_;omega,?_⟩⟩
    rw[etk,bN,dJ (by simpa using c)]
    exact(ls'.same uq).snoc e3'
  rintro rs H12 ⟨s12,_,lsr⟩ Dr hDr
  rw[gl,aV,eall]at lsr
  have u12:=zA.upd1 (o:=.lst rs) hDr
  have lsr2:=lsr.same u12
  have sm12:=sm11.trans (s12.trans u12)
  have hrl:=lsr.len
  have hall16:(qJ n).length<=16:=by
   rw[<-eall]
   exact b8 (bC ..) gl16
  refine⟨_,rfl,Dr,rfl,⟨_,.of zD⟩,?_⟩
  refine kZ (vH K Dr rs) [some (.ref b),some (.int (o:Int)),some (sv nm)] 1 (by omega) (fun j acc H''=>zA (upd H12 Dr (.lst rs)) H''/\acc.length<=j/\LsAt H'' acc (((qJ n).take j).filter (yX (vI bk o nm))))
   ⟨zA.refl _,aH _,LsAt.nil⟩ (fun j acc H'' _ h=>⟨.of (h.1 _ _ zD),h.2.1⟩) ?_ ?_
  ·rintro j y' acc H'' ys Nx3 hN3 hx3 hy ⟨sm',hal,ls'⟩
   obtain⟨y1,rfl⟩:=y0 hy
   obtain⟨a1,l,el,rfl,h1⟩:=lsr2.get hx3
   have hj:j<(qJ n).length:=(aa.mp el).1
   obtain⟨hls,hlne⟩:=zCp.mp (aS el)
   obtain⟨hlp,hlr⟩:=qR.mp hls
   have hll:=zBe hls
   have etk:(qJ n).take (j+1)=(qJ n).take j++[l]:=by rw[ak hj,(aa.mp el).2]
   have h1':=sm' _ _ h1
   have hb':=sm' _ _ (sm12 _ _ hb)
   refine⟨_,rfl,a1,rfl,⟨_,.of h1'⟩,?_⟩
   refine vT (vH K a1 (zI l)) [some (.ref b)] 1 (by rw[vL];omega) (fun i acc H2=>H2=H''/\acc=((l.take i).map fun p=>bk.getD p []).map sv) ⟨rfl,rfl⟩
    (fun i acc H2 _ h=>⟨by rw[h.1];exact .of h1',by rw[h.2,af,af,aL];omega⟩) ?_ ?_
   ·rintro i y2 acc2 H2 ys2' Nx4 hN4 hx4 hy4 ⟨rfl,rfl⟩
    obtain⟨y3,rfl⟩:=y0 hy4
    obtain⟨p,ep,rfl⟩:=gF hx4
    have hp:p<bk.length:=by rw[<-en];exact hlp p (aS ep)
    refine⟨_,rfl,_,rfl,b,_,_,sv (bk.getD p []),rfl,rfl,.of hb',?_,hN4 _ _ [_] rfl ⟨rfl,?_⟩⟩
    ·refine uH ?_
     rw[zR,aF,getElem?_getD hp];rfl
    ·rw[ak (aa.mp ep).1,(aa.mp ep).2,az,az];rfl
   rintro acc2 H2 ⟨rfl,rfl⟩ D2 hD2
   rw[vL,aV]
   have u2:=zA.upd1 (o:=.lst ((g7 bk l).map sv)) hD2
   have hsb:∀x∈g7 bk l,x∈bk:=fun x hx=>by
    obtain⟨p,hp,rfl⟩:=aX.mp hx
    exact aS (getElem?_getD (by rw[<-en];exact hlp p hp))
   have hsl:(g7 bk l).length=l.length:=af ..
   have hl1:1<=l.length:=by
    cases l with
    |nil=>exact absurd rfl hlne
    |cons _ _=>exact oD (bX _)
   have hSB:Bk (g7 bk l) o:=⟨⟨by rw[hsl];exact hl1,by rw[hsl];omega,fun x hx=>hB.nm x (hsb x hx)⟩,hB.o1,hB.o3⟩
   have hs4:∀x∈g7 bk l,x.length<=4:=fun x hx=>h4 x (hsb x hx)
   refine⟨_,rfl,_,rfl,D2,g7 bk l,o,nm,rfl,zD,zBh hSB (by rw[hsl];omega) hs4 hn (by omega),?_,fun v H3 s3 fv=>?_⟩
   ·have:=zBg (o:=o) hs4
    rw[hsl]at this
    omega
   obtain⟨av,rfl,hav⟩:=fv
   refine⟨av,_,0,.int (uB (zJ o (g7 bk l)) o nm).1,rfl,rfl,hav,rfl,_,_,rfl,rfl,_,rfl,?_⟩
   have hiff:=zQf (bk:=bk) (o:=o) (nm:=nm) (l:=l) fun p hp=>by rw[<-en];exact hlp p hp
   have sm3:=sm'.trans (u2.trans s3)
   by_cases c:yX (vI bk o nm) l=true
   ·refine vY (hiff.mpr c) ⟨_,rfl,hN3 _ _ [_] rfl ⟨sm3,by rw[aq];show _+1<=_;omega,?_⟩⟩
    rw[etk,bN,dJ c]
    exact(ls'.same (u2.trans s3)).snoc ((u2.trans s3) _ _ h1')
   ·refine v4 (fun z=>c (hiff.mp z)) (hN3 _ _ [_] rfl ⟨sm3,by omega,?_⟩)
    rw[etk,bN,dI c]
    simpa using ls'.same (u2.trans s3)
  rintro gs2 H13 ⟨s13,_,lsg⟩ Dg hDg
  rw[hrl,aV]at lsg
  have u13:=zA.upd1 (o:=.lst gs2) hDg
  refine k Dg gs2 _ (sm12.trans (s13.trans u13)) ((sm12.trans s13).free hDg) zD ?_
  unfold q8
  rw[<-en]
  exact lsg.same u13
end
def zAW (cs:List ai)(Q:VK):XK:=fun c _ H'=>∃j,j<8/\c=.ref (cs.getD j 0)/\∀p H'',zA H' H''->zEu H'' p j->Q (.ref p) H''
theorem zAS.mono {nb no b:ai}{vs:List V}{H:Hp}{Q i:VK}{E f:XK}(a:∀c o H',E c o H'->f c o H')(h:zAS nb no b vs H Q E):zAS nb no b vs H i f:=by
 obtain⟨v,u,y,d,e,g,j,l,m,n,p,q,r,h⟩:=h
 refine⟨v,u,y,d,e,g,j,l,m,n,p,q,r,?_⟩
 rcases h with h|h|h
 ·exact .inl ⟨h.1,fun H' s=>a _ _ _ (h.2 H' s)⟩
 ·exact .inr (.inl ⟨h.1,h.2.1,fun H' s=>a _ _ _ (h.2.2 H' s)⟩)
 ·exact .inr (.inr ⟨h.1,h.2.1,h.2.2.1,fun H' s=>a _ _ _ (h.2.2.2 H' s)⟩)
theorem zAT.mono {nb no b:ai}{vs:List V}{H:Hp}{Q i:VK}{E f:XK}(a:∀c o H',E c o H'->f c o H')(h:zAT nb no b vs H Q E):zAT nb no b vs H i f:=by
 obtain⟨v,u,y,z,d,e,g,j,l,m,n,p,q,r,h⟩:=h
 refine⟨v,u,y,z,d,e,g,j,l,m,n,p,q,r,?_⟩
 rcases h with h|h|h
 ·exact .inl ⟨h.1,fun H' s=>a _ _ _ (h.2 H' s)⟩
 ·exact .inr (.inl ⟨h.1,h.2.1,fun H' s=>a _ _ _ (h.2.2 H' s)⟩)
 ·exact .inr (.inr ⟨h.1,h.2.1,h.2.2.1,fun H' s=>a _ _ _ (h.2.2.2 H' s)⟩)
theorem zAU.mono {nb a:ai}{vs:List V}{H:Hp}{Q f:VK}{E b:XK}(e:∀c o H',E c o H'->b c o H')(h:zAU nb a vs H Q E):zAU nb a vs H f b:=by
 obtain⟨v,y,d,g,i,j,l,m,n,h⟩:=h
 refine⟨v,y,d,g,i,j,l,m,n,?_⟩
 rcases h with h|h
 ·exact .inl ⟨h.1,fun H' s=>e _ _ _ (h.2 H' s)⟩
 ·exact .inr ⟨h.1,h.2.1,fun H' s=>e _ _ _ (h.2.2 H' s)⟩
theorem jV.mono {nb no b:ai}{vs:List V}{H:Hp}{Q f:VK}{E d:XK}(a:∀c o H',E c o H'->d c o H')(h:jV nb no b vs H Q E):jV nb no b vs H f d:=by
 obtain⟨l,xs,u,y,ds,e,g,i,j,m,n,p,q,r,t,h⟩:=h
 refine⟨l,xs,u,y,ds,e,g,i,j,m,n,p,q,r,t,?_⟩
 rcases h with h|h|h
 ·exact .inl ⟨h.1,fun H' s=>a _ _ _ (h.2 H' s)⟩
 ·exact .inr (.inl ⟨h.1,h.2.1,fun H' s=>a _ _ _ (h.2.2 H' s)⟩)
 ·exact .inr (.inr ⟨h.1,h.2.1,h.2.2.1,fun H' s=>a _ _ _ (h.2.2.2 H' s)⟩)
section
variable{P:aP}{w:bc}{K:ae}{mg:Str->Option ah}{base:bK}
abbrev jM (sp sp':Sp):Sp:=fun vs H Q E=>sp vs H Q E\/sp' vs H Q E
def zFe (K:ae)(cs:List ai):Sp:=fun vs H Q _=>∃(way:Nat) (v u y z:V),vs=[.int way,v,u,y,z]/\way<5/\
 (way=0->∀H2,zA H H2->jM zFY (jV (cs.getD 0 0) (cs.getD 1 0) (cs.getD 2 0)) [v,u,y] H2 Q (zAW cs Q))/\
 (way=1->∀H2,zA H H2->jM (zFW K) (jV (cs.getD 0 0) (cs.getD 1 0) (cs.getD 2 0)) [v,u,y] H2 Q (zAW cs Q))/\
 (way=2->jM zFO (zAS (cs.getD 0 0) (cs.getD 1 0) (cs.getD 2 0)) [v,u,y] H Q (zAW cs Q))/\
 (way=3->jM (jM zFJ zFa) (zAT (cs.getD 0 0) (cs.getD 1 0) (cs.getD 2 0)) [v,u,y,z] H Q (zAW cs Q))/\
 (way=4->jM zCv (zAU (cs.getD 0 0) (cs.getD 2 0)) [v,y] H Q (zAW cs Q))
abbrev zCy:cJ:=top 64
theorem zJb:FnScope ["_law_way","_law_book_here","_law_order","_law_name_here","_law_thing","_law_e"] ["_law_way","_law_book_here","_law_order","_law_name_here","_law_thing"] (defScope zCy):=yC
theorem zQl {f:ai}{fd:aO}{b:List ai}{L:ai}(F:Fun K "_law_told" "_law_told" zCy f fd)(E:ErrX K mg b L)
  (O:qQ P w K mg base 8 "makers" ["books","order","name"] (jM zFY (jV (b.getD 0 0) (b.getD 1 0) (b.getD 2 0))))
  (R:qQ P w K mg base 7 "best_maker" ["books","order","name"] (jM (zFW K) (jV (b.getD 0 0) (b.getD 1 0) (b.getD 2 0))))
  (T:qQ P w K mg base 5 "needed" ["book","order","name"] (jM zFO (zAS (b.getD 0 0) (b.getD 1 0) (b.getD 2 0))))
  (U:qQ P w K mg base 5 "shows" ["book","order","name","thing"] (jM (jM zFJ zFa) (zAT (b.getD 0 0) (b.getD 1 0) (b.getD 2 0))))
  (W:qQ P w K mg base 8 "greatest_order" ["book","name"] (jM zCv (zAU (b.getD 0 0) (b.getD 2 0))))
  (X:zCX P w K mg base 1 "_law_refused" ["_law_e"] (zEv b)) :
  FnOk P w K mg base zU 9 f fd ["_law_way","_law_book_here","_law_order","_law_name_here","_law_thing"] (zFe K b):=by
 obtain⟨g,x,B,Y,Z,bM⟩:=id O
 obtain⟨m,D,okB,mB,kB,bB⟩:=id R
 refine F.ok zJb (fun vs H Q E h=>?_) (fun G A outer s H vs Q E' n h=>?_)
 ·obtain⟨q,v,u,y,z,rfl,_⟩:=h;rfl
 ·obtain⟨q,v,u,y,z,rfl,hw,k0,k1,k2,k3,k4⟩:=h
  have nd:=zJb.nd
  have hr1:=n.mono (j:=1) (by decide)
  have r:=n.mono (j:=5) (by decide)
  have I:=n.mono (j:=7) (by decide)
  refine⟨_,zH (zNk (i:=5) rfl rfl rfl E.like (by rfl) nd rfl rfl
   (fun E1 ET pn ok=>zG (yK (vF zBn (pv 0) zF (yY _)) (zH (zT (zNq P w K mg base (A.deeper (r6 "_law_told" (defScope zCy) s.heap.objs.size f G)) rfl rfl rfl rfl rfl rfl ok (yS (zCY K rfl) (yE (zB (v3 (v:=.ref g) (by rfl) Y rfl) (zB (v3 (v:=.ref m) (by rfl) mB rfl) zC))) (pv 0) (fun _ _=>rfl)) (zB (pv 1) (zB (pv 2) (zB (pv 3) zC)))))) yJ)
    (zG (yK (vF zDJ (pv 0) zF (yY _)) (zH (zT (uR T ok r rfl (zB (pv 1) (zB (pv 2) (zB (pv 3) zC)))))) yJ)
    (zH (zT (g9 (vF zDJ (pv 0) zF (yY _)) (uR U ok r rfl (zB (pv 1) (zB (pv 2) (zB (pv 3) (zB (pv 4) zC))))) (uR W ok n rfl (zB (pv 1) (zB (pv 3) zC))))))))
   (fun e=>zH (zT (zNo X (hr1.busy _) rfl (zB (pv 5) zC))))),?_⟩
  have a:∀(c:ah) (o:Option ai) (t:Hp),zAW b Q c o t->∃C:ai,c=.ref C/\eN K C zAM "ValueError.__new__"=true/\zBA K C L=true/\∀d,t d=none->
    zFo (zAD (zEv b) [] E0 (zDL (v8 5) zBq)) {nx:=fun _ _=>False,rt:=Q} ((aU 6 none).set 5 (some (.ref d))) (upd t d (XO d C)):=by
   rintro c o t ⟨j,N,rfl,kk⟩
   obtain⟨a1,a2,a3,_⟩:=E.at_ j N
   refine⟨_,rfl,a1.exc,a3,fun d J=>?_⟩
   refine⟨_,rfl,d,j,rfl,N,zD,fun p H' sm _ hp=>kk p H' ((zA.upd1 J).trans sm) hp⟩
  refine⟨_,rfl,_,_,rfl,rfl,_,rfl,?_⟩
  match q,hw with
  |0,_=>
   refine vY (by decide) ⟨by show 2<=sizeLine;decide,fun l hl=>?_⟩
   have M:=zA.upd1 (o:=.lst [.ref g,.ref m]) hl
   refine⟨_,rfl,l,_,_,.ref g,rfl,rfl,.of zD,uH (j:=0) rfl,_,⟨8,g,x,_,rfl,B,n,Z,bM⟩,?_⟩
   refine⟨_,rfl,_,rfl,_,rfl,?_⟩
   exact(k0 rfl _ M).imp id (jV.mono a)
  |1,_=>
   refine vY (by decide) ⟨by show 2<=sizeLine;decide,fun l hl=>?_⟩
   have M:=zA.upd1 (o:=.lst [.ref g,.ref m]) hl
   refine⟨_,rfl,l,_,_,.ref m,rfl,rfl,.of zD,uH (j:=1) rfl,_,⟨7,m,D,_,rfl,okB,I,kB,bB⟩,?_⟩
   refine⟨_,rfl,_,rfl,_,rfl,?_⟩
   exact(k1 rfl _ M).imp id (jV.mono a)
  |2,_=>
   refine v4 (by decide) ⟨_,rfl,rfl,_,rfl,vY rfl ?_⟩
   refine⟨_,rfl,_,rfl,_,rfl,?_⟩
   exact(k2 rfl).imp id (zAS.mono a)
  |3,_=>
   refine v4 (by decide) ⟨_,rfl,rfl,_,rfl,v4 (by intro z;cases z) ?_⟩
   refine⟨_,rfl,rfl,_,rfl,vY rfl ?_⟩
   refine⟨_,rfl,_,rfl,_,rfl,_,rfl,?_⟩
   exact(k3 rfl).imp id (zAT.mono a)
  |4,_=>
   refine v4 (by decide) ⟨_,rfl,rfl,_,rfl,v4 (by intro z;cases z) ?_⟩
   refine⟨_,rfl,rfl,_,rfl,v4 (by intro z;cases z) ?_⟩
   refine⟨_,rfl,_,rfl,?_⟩
   exact(k4 rfl).imp id (zAU.mono a)
end
def zAX (qs:List (Int×Int))(b:Option Nat)(i:Nat):Option Nat :=
 let t:=match b with|some j=>qs.getD j (0,1)|none=>(-1,1)
 if(qs.getD i (0,1)).1*t.2>t.1*(qs.getD i (0,1)).2 then some i else b
def uC (qs:List (Int×Int))(pls:List Nat):Option Nat:=pls.foldl (zAX qs) none
theorem zQm {a:List (Int×Int)}(n:∀q∈a,0<=q.1/\0<q.2):uC a ((bg a.length).filter fun i=>decide (0<(a.getD i (0,1)).1))=zCq a:=by
 have key:∀m,m<=a.length->uC a ((bg m).filter fun i=>decide (0<(a.getD i (0,1)).1))=(uK (a.take m) 0 (none,(0,1))).1/\
   (match(uK (a.take m) 0 (none,(0,1))).1 with|some j=>(uK (a.take m) 0 (none,(0,1))).2=a.getD j (0,1)|none=>(uK (a.take m) 0 (none,(0,1))).2=(0,1)):=by
  intro m
  induction m with
  |zero=>intro _;exact⟨rfl,rfl⟩
  |succ m ih=>
   intro t
   obtain⟨i1,i2⟩:=ih (by omega)
   have d:m<a.length:=by omega
   have e:a.getD m (0,1)=a[m]:=by simp[d]
   obtain⟨u,p⟩:=n _ (cD d)
   rw[ak d,zFT,aL,eG (by omega),nE,cU,bN]
   generalize uK (a.take m) 0 (none,(0,1))=st at i1 i2⊢
   obtain⟨f,b⟩:=st
   unfold uC at i1⊢
   rw[iI,i1]
   dsimp only at i2⊢
   unfold jU lss
   dsimp only
   by_cases c:0<(a[m]).1
   ·have l:[m].filter (fun i=>decide (0<(a.getD i (0,1)).1))=[m]:=by simp[c9,e,c,d]
    rw[l,eW,pH]
    unfold zAX
    rw[e]
    cases f with
    |none=>
     dsimp only at i2⊢
     subst i2
     rw[if_pos (by simp;omega),if_pos (by simp;omega)]
     exact⟨rfl,e.symm⟩
    |some j=>
     dsimp only at i2⊢
     subst i2
     by_cases g:(a.getD j (0,1)).1*(a[m]).2<(a[m]).1*(a.getD j (0,1)).2
     ·rw[if_pos g,if_pos (by simpa using g)]
      exact⟨rfl,e.symm⟩
     ·rw[if_neg g,if_neg (by simpa using g)]
      exact⟨rfl,rfl⟩
   ·have l:[m].filter (fun i=>decide (0<(a.getD i (0,1)).1))=[]:=by simp[c9,e,c,d]
    have r:(a[m]).1=0:=by omega
    rw[l,pH]
    have nl:¬(b.1*(a[m]).2<(a[m]).1*b.2):=by
     rw[r,jq]
     have s:0<=b.1:=by
      cases f with
      |none=>dsimp only at i2;rw[i2];exact oG _
      |some j=>
       dsimp only at i2
       rw[i2]
       by_cases o:j<a.length
       ·have:a.getD j (0,1)=a[j]:=by simp[o]
        rw[this];exact(n _ (cD o)).1
       ·have:a.getD j (0,1)=(0,1):=by rw[br,mr (by omega)];rfl
        rw[this];exact oG _
     have:=d7 s (cZ p)
     omega
    rw[if_neg (by simpa using nl)]
    exact⟨rfl,i2⟩
 have h:=(key a.length (aH _)).1
 rw[aV]at h
 exact h
def zQn (K:ae):R2:=fun x y H Q=>∃d ds,yD K H d x/\yD K H (.list ds) y/\cn d=true/\cn (.list ds)=true/\Q (.bl (!(ds.any fun e=>bV e d))) H
theorem zQo {X:Cx}(c:X.A.units+65<cLine):yN X (compareOp .NotIn) (zQn X.K):=by
 intro a s σ H x y v u Q I e f h
 obtain⟨d,ds,g,i,b,j,q⟩:=h
 obtain⟨as,l⟩:=yD.reads I d x v g e
 obtain⟨bs,m⟩:=yD.reads I (.list ds) y u i f
 exact SeqAt.notIn_list_reads m l (fF j) (fF b) (oY b c) ⟨.bl _,H,I,rfl,q⟩
theorem zQp {X:Cx}(a:ae)(d:X.K=a):uV X (.builtin "isinstance") (fun xs H Q=>∃x c t b,xs=[x,.ty c]/\TyOf a H x t/\bx a t (.type c)=some b/\Q (.bl b) H):=by
 subst d;exact u9
section
variable{P:aP}{w:bc}{K:ae}{mg:Str->Option ah}{base:bK}
abbrev zFf:cJ:=top 66
theorem zJc:FnScope ["_law_parts","_law_places","_law_best_here","_law_at","_law_top"] ["_law_parts","_law_places"] (defScope zFf):=yC
def zJd (K:ae):Sp:=fun vs H Q _=>∃(lp ls:ai) (xs:List V) (qs:List (Int×Int)) (pls:List Nat),vs=[.ref lp,.ref ls]/\H lp=some (.lst xs)/\FrsAt K H xs qs/\H ls=some (.lst (zI pls))/\(∀p∈pls,p<qs.length)/\pls.length<=100/\
 (∀q∈qs,0<=q.1/\q.1<1152921504606846976/\0<q.2/\q.2<1152921504606846976)/\∀H',zA H H'->Q (qS (uC qs pls)) H'
theorem zQq {f:ai}{fd:aO}(F:Fun K "_law_best" "_law_best" zFf f fd):FnOk P w K mg base zU 1 f fd ["_law_parts","_law_places"] (zJd K):=by
 refine F.ok zJc (fun vs H Q E h=>?_) (fun Z A outer s H vs Q E hr h=>?_)
 ·obtain⟨u,ls,xs,a,b,rfl,_⟩:=h;rfl
 ·obtain⟨u,ls,xs,a,b,rfl,g,fr,B,M,X,hq,k⟩:=h
  have nd:=zJc.nd
  refine⟨_,zG (zX (i:=2) nd rfl (Or.inl rfl) uS)
   (zG (uA bI rfl (vQ (pv 1)) (zY (i:=3) nd rfl (Or.inl rfl))
    (zG (zX (i:=4) nd rfl (Or.inl rfl) (g9 (zBL (zKQ (pv 2))) (yS jD (pv 0) (pv 2) (fun _ _=>rfl)) (uL (zE (zAe zAh zF) (zE zF zC)))))
    (zH (yK (vF zAC (zP uO (yS uI (yS jD (pv 0) (pv 3) (fun _ _=>rfl)) zF (fun _ _=>rfl)) (yS uI (pv 4) zF (fun _ _=>rfl))) (zP uO (yS uI (pv 4) zF (fun _ _=>rfl)) (yS uI (yS jD (pv 0) (pv 3) (fun _ _=>rfl)) zF (fun _ _=>rfl))) (yY _))
     (zH (zX (i:=2) nd rfl (Or.inl rfl) (pv 3))) yJ))))
   (zH (zT (pv 2)))),?_⟩
  have ab:=fr.len
  refine⟨_,rfl,ls,rfl,⟨_,.of B⟩,?_⟩
  refine uG (vH K ls (zI b)) (fun i σ H'=>(∃N O:Option V,σ=[some (.ref u),some (.ref ls),some (qS (uC a (b.take i))),N,O])/\zA H H'/\∀j,uC a (b.take i)=some j->j<a.length)
   ⟨⟨_,_,rfl⟩,zA.refl _,fun j z=>by cases z⟩ (fun i σ H' _ h=>.of (h.2.1 _ _ B)) ?_ ?_
  ·rintro i x σ H' Nx J hx ⟨⟨N,O,rfl⟩,q,Y⟩
   obtain⟨p,ep,rfl⟩:=gF hx
   have L:=M p (aS ep)
   have hi:i<b.length:=(aa.mp ep).1
   have d:uC a (b.take (i+1))=zAX a (uC a (b.take i)) p:=by
    unfold uC
    rw[ak hi,(aa.mp ep).2,iI];rfl
   have at_:∀j,j<a.length->∃v,xs[j]?=some v/\yV K H v (a.getD j (0,1)):=fun j C=>by
    have D:j<xs.length:=by omega
    refine⟨xs[j],ax D,fr.at_ j _ _ (ax D) ?_⟩
    rw[ax C];simp[C]
   have G:∀j,j<a.length->0<=(a.getD j (0,1)).1/\(a.getD j (0,1)).1<1152921504606846976/\0<(a.getD j (0,1)).2/\(a.getD j (0,1)).2<1152921504606846976:=fun j C=>by
    have e:a.getD j (0,1)=a[j]:=by simp[C]
    rw[e];exact hq _ (cD C)
   obtain⟨vp,r,fp⟩:=at_ p L
   have bp:=G p L
   cases R:uC a (b.take i)with
   |none=>
    rw[R]at d
    refine⟨_,rfl,_,rfl,yI ?_⟩
    refine⟨_,rfl,by show 2<=sizeLine;decide,fun T hT=>?_⟩
    have uT:=zA.upd1 (o:=.tup [.int (-1),.int 1]) hT
    have l:=q.trans uT
    obtain⟨ap,rfl,m⟩:=(fp.same l)
    refine⟨_,rfl,_,rfl,u,xs,_,.ref ap,rfl,rfl,.of (l _ _ g),uH r,ap,_,0,.int (a.getD p (0,1)).1,rfl,rfl,m,rfl,?_⟩
    refine⟨_,rfl,T,_,1,.int ((-1,1):Int×Int).2,rfl,rfl,.of zD,rfl,_,_,rfl,rfl,.inl ⟨by omega,by omega⟩,?_⟩
    refine⟨_,rfl,T,_,0,.int ((-1,1):Int×Int).1,rfl,rfl,.of zD,rfl,?_⟩
    refine⟨_,rfl,_,rfl,u,xs,_,.ref ap,rfl,rfl,.of (l _ _ g),uH r,ap,_,1,.int (a.getD p (0,1)).2,rfl,rfl,m,rfl,_,_,rfl,rfl,.inr ⟨by omega,by omega⟩,?_⟩
    refine⟨_,_,rfl,rfl,_,rfl,?_⟩
    by_cases c:(a.getD p (0,1)).1*((-1,1):Int×Int).2> ((-1,1):Int×Int).1*(a.getD p (0,1)).2
    ·have n:uC a (b.take (i+1))=some p:=by rw[d];unfold zAX;dsimp only;rw[if_pos c]
     refine vY c ⟨_,rfl,J _ _ ⟨⟨_,_,by rw[n];rfl⟩,l,fun j z=>?_⟩⟩
     rw[n]at z;cases z;exact L
    ·have n:uC a (b.take (i+1))=none:=by rw[d];unfold zAX;dsimp only;rw[if_neg c]
     refine v4 c (J _ _ ⟨⟨_,_,by rw[n];rfl⟩,l,fun j z=>?_⟩)
     rw[n]at z;cases z
   |some t=>
    rw[R]at d
    have y:=Y t R
    obtain⟨vj,U,fj⟩:=at_ t y
    have bj:=G t y
    refine⟨_,rfl,_,rfl,yL ?_⟩
    obtain⟨W,rfl,I⟩:=fj.same q
    refine⟨_,rfl,_,rfl,u,xs,_,.ref W,rfl,rfl,.of (q _ _ g),uH U,?_⟩
    obtain⟨ap,rfl,m⟩:=(fp.same q)
    refine⟨_,rfl,_,rfl,u,xs,_,.ref ap,rfl,rfl,.of (q _ _ g),uH r,ap,_,0,.int (a.getD p (0,1)).1,rfl,rfl,m,rfl,?_⟩
    refine⟨_,rfl,W,_,1,.int (a.getD t (0,1)).2,rfl,rfl,I,rfl,_,_,rfl,rfl,.inl ⟨by omega,by omega⟩,?_⟩
    refine⟨_,rfl,W,_,0,.int (a.getD t (0,1)).1,rfl,rfl,I,rfl,?_⟩
    refine⟨_,rfl,_,rfl,u,xs,_,.ref ap,rfl,rfl,.of (q _ _ g),uH r,ap,_,1,.int (a.getD p (0,1)).2,rfl,rfl,m,rfl,_,_,rfl,rfl,.inr ⟨by omega,by omega⟩,?_⟩
    refine⟨_,_,rfl,rfl,_,rfl,?_⟩
    by_cases c:(a.getD p (0,1)).1*(a.getD t (0,1)).2> (a.getD t (0,1)).1*(a.getD p (0,1)).2
    ·have n:uC a (b.take (i+1))=some p:=by rw[d];unfold zAX;dsimp only;rw[if_pos c]
     refine vY c ⟨_,rfl,J _ _ ⟨⟨_,_,by rw[n];rfl⟩,q,fun j z=>?_⟩⟩
     rw[n]at z;cases z;exact L
    ·have n:uC a (b.take (i+1))=some t:=by rw[d];unfold zAX;dsimp only;rw[if_neg c]
     refine v4 c (J _ _ ⟨⟨_,_,by rw[n];rfl⟩,q,fun j z=>?_⟩)
     rw[n]at z;cases z;exact y
  ·rintro σ H' ⟨⟨N,O,rfl⟩,q,Y⟩
   rw[vL,aV]
   exact⟨_,rfl,k H' q⟩
end
end Kn.Ln
end
section
namespace L2
open PySem PySem.Spec PyProof.Rows
def qE (x0:Str)(X:Cx)(N:List Str)(scope:dS)(cl:List (Str×ai))(C:ai)(s:au)(H:Hp)(ex:List ai):Cx:={vM X N scope cl C s H ex with fn:=fun y=>decide (y=x0)}
structure CompScopeC (x0:Str) (sc:dS) (XN N:List Str) (scope:dS) (caps:List Nat):Prop where
 kind:scope.kind=.function
 nd:N.Nodup
 one:scope.names.filter (fun y=>y.2== .cell)=[(x0,.cell)]
 own:scope.names.lookup x0=some .cell
 names:∀y∈scope.names,y.2=.local->scope.names.lookup y.1=some .local
 free:∀y∈scope.names,y.2=.free->sc.names.lookup y.1=some .cell\/sc.names.lookup y.1=some .free
 cap:∀(i:Nat),i<caps.length->∃x,N[i]?=some x/\XN[caps.getD i 0]?=some x/\scope.names.lookup x=some .free/\(sc.names.lookup x=some .cell\/sc.names.lookup x=some .free)
 len:caps.length<=N.length
def zJe (x0:Str)(sc:dS)(XN N:List Str)(scope:dS)(caps:List Nat):Bool :=
 decide (scope.kind=.function)&&decide N.Nodup&&decide (scope.names.filter (fun y=>y.2== .cell)=[(x0,.cell)])&&decide (scope.names.lookup x0=some .cell)&&scope.names.all (fun y=>decide (y.2=.local->scope.names.lookup y.1=some .local))&&
 scope.names.all (fun y=>decide (y.2=.free->sc.names.lookup y.1=some .cell\/sc.names.lookup y.1=some .free))&&zBP sc XN N scope 0 caps&&decide (caps.length<=N.length)
theorem zQr {x0:Str}{j:dS}{l N:List Str}{scope:dS}{caps:List Nat}(h:zJe x0 j l N scope caps=true):CompScopeC x0 j l N scope caps:=by
 unfold zJe at h
 simp only[bz,decide_eq_true_eq,cw]at h
 obtain⟨⟨⟨⟨⟨⟨⟨a,b⟩,c⟩,m⟩,d⟩,e⟩,f⟩,g⟩:=h
 exact⟨a,b,c,m,d,e,fun i hi=>by simpa using zDn f i hi,g⟩
theorem zJf:∀(names:List (Str×iz)),names.filter (fun y=>y.2== .cell)=[]->(∀n a,cellsFrom n names a=a)/\∀h,pushCells h names=h
 | [],_=>⟨fun _ _=>rfl,fun _=>rfl⟩
 |(x,k)::r,e=>by
  rw[c9]at e
  cases c:(k==NameKind.cell)with
  |true=>rw[show((x,k).2==NameKind.cell)=true from c,if_pos rfl]at e;cases e
  |false=>
   rw[show((x,k).2==NameKind.cell)=false from c,if_neg aI]at e
   obtain⟨b,d⟩:=zJf r e
   refine⟨fun n a=>?_,fun h=>?_⟩
   ·unfold cellsFrom;rw[c,if_neg aI];exact b n a
   ·unfold pushCells;rw[c,if_neg aI];exact d h
theorem zJg {x0:Str}:∀(names:List (Str×iz)),names.filter (fun y=>y.2== .cell)=[(x0,.cell)]->(∀n a,cellsFrom n names a=(x0,n)::a)/\∀h,pushCells h names=h.push {cls:=.type "cell",data:=.cell none}
 | [],e=>by cases e
 |(x,k)::r,e=>by
  rw[c9]at e
  cases c:(k==NameKind.cell)with
  |true=>
   rw[show((x,k).2==NameKind.cell)=true from c,if_pos rfl]at e
   obtain⟨f,g⟩:=qr e
   obtain⟨b,d⟩:=zJf r g
   have ex:x=x0:=congrArg nU f
   subst ex
   refine⟨fun n a=>?_,fun h=>?_⟩
   ·unfold cellsFrom;rw[c,if_pos rfl];exact b _ _
   ·unfold pushCells;rw[c,if_pos rfl];exact d _
  |false=>
   rw[show((x,k).2==NameKind.cell)=false from c,if_neg aI]at e
   obtain⟨b,d⟩:=zJg r e
   refine⟨fun n a=>?_,fun h=>?_⟩
   ·unfold cellsFrom;rw[c,if_neg aI];exact b n a
   ·unfold pushCells;rw[c,if_neg aI];exact d h
theorem zQs {M:nF}{A:bU}{E:ah->au->Prop}{s:au}{x0:Str}{scope:dS}{a:ai}{cl:List (Str×ai)}{b:Str}{env:Env}{Q:Env->au->Prop}(f:scope.names.filter (fun y=>y.2== .cell)=[(x0,.cell)])
  (g:Q (newEnv scope s.heap.objs.size a ((x0,s.heap.objs.size+1)::cl) b none .none (some env) builtinsNs) {s with heap:=(s.heap.push {cls:=.type "dict",data:=.dict #[]}).push {cls:=.type "cell",data:=.cell none}}) :
  wpAny M A (newFunctionEnv scope a cl [] b none .none (some env)) Q E s:=by
 obtain⟨h,i⟩:=zJg scope.names f
 simp only[newFunctionEnv,nv,if_true]
 refine ao (wpAny_alloc ?_)
 refine ao (wpAny_layCells _ (fun name kind c=>by cases d:kind==NameKind.cell<;>simp[d]) _ _ _ _ ?_)
 rw[h,i]
 refine ao ?_
 rw[fW]
 refine bf (bf ?_)
 have e:(s.heap.push {cls:=.type "dict",data:=.dict #[]}).objs.size=s.heap.objs.size+1:=dj ..
 dsimp only
 rw[e]
 exact g
section
variable{X:Cx}{pins:List (ai×Obj)}{σ:St}{H:Hp}{s:au}{N:List Str}{scope:dS}{cl:List (Str×ai)}{C c0:ai}{x0:Str}{fp:List ai}{caps:List Nat}
theorem g8 {x:Str}{c:ai}(h:((x0,c0)::cl).lookup x=some c):(x=x0/\c=c0)\/(x≠x0/\cl.lookup x=some c):=by
 rw[bT]at h
 cases e:x==x0 with
 |true=>rw[e]at h;exact .inl ⟨by simpa using e,(aw h).symm⟩
 |false=>rw[e]at h;exact .inr ⟨by simpa using e,h⟩
theorem zJh {x:Str}(h:x≠x0):((x0,c0)::cl).lookup x=cl.lookup x:=by
 rw[bT]
 have:(x==x0)=false:=by simpa using h
 rw[this]
theorem zQt (I:Inv X pins σ H s)(S:CompScopeC x0 X.env.scope X.N N scope caps)(i:∀x c,cl.lookup x=some c->X.env.cells.lookup x=some c)(v:∀x,(x,NameKind.free)∈scope.names->∃c,cl.lookup x=some c)
  (t:s.heap.objs.size<=C) (d:s.heap.objs.size<=c0) (l:∀b∈fp,u7 X pins H b) (g:∀b∈fp,b<s.heap.objs.size):(qE x0 X N scope ((x0,c0)::cl) C s H fp).Ok where
 mod:=I.ok.mod
 kind:=S.kind
 glob:=I.ok.glob
 blt:=I.ok.blt
 above:=t
 inj:=fun x y c a b=>by
  have old:∀z,cl.lookup z=some c->c<s.heap.objs.size:=fun z w=>let⟨_,q⟩:=I.cell z c (i z c w);q.lt
  rcases g8 a with⟨A,h⟩|⟨_,u⟩
  ·rcases g8 b with⟨B,_⟩|⟨_,p⟩
   ·rw[A,B]
   ·have:=old y p;rw[h]at this;exact absurd this (pF.mpr d)
  ·rcases g8 b with⟨_,D⟩|⟨_,p⟩
   ·have:=old x u;rw[D]at this;exact absurd this (pF.mpr d)
   ·exact I.ok.inj x y c (i x c u) (i y c p)
 has:=fun x E=>by
  by_cases ex:x=x0
  ·subst ex;exact⟨c0,by show((x,c0)::cl).lookup x=some c0;rw[bT];simp⟩
  have r:∃j,(j=NameKind.cell\/j=.free)/\(relabel scope X.env).names.lookup x=some j:=by
   rcases E with z|z
   ·exact⟨_,.inl rfl,z⟩
   ·exact⟨_,.inr rfl,z⟩
  obtain⟨j,F,z⟩:=r
  obtain⟨k,m,e⟩:=zDd F z
  rcases e with e|e
  ·subst e
   have:(x,NameKind.cell)∈scope.names.filter (fun y=>y.2== .cell):=bF.mpr ⟨m,rfl⟩
   rw[S.one]at this
   have:=congrArg nU (fC.mp this)
   exact absurd this ex
  ·subst e
   obtain⟨c,G⟩:=v x m
   exact⟨c,by rw[show(qE x0 X N scope ((x0,c0)::cl) C s H fp).env.cells=(x0,c0)::cl from rfl,zJh ex];exact G⟩
 cab:=fun x c z e=>by
  have ex:x=x0:=of_decide_eq_true z
  subst ex
  rcases g8 e with⟨_,h⟩|⟨n,_⟩
  ·rw[h];exact d
  ·exact absurd rfl n
 hd:=I.ok.hd
 frames:=I.ok.frames
 stk:=.inl rfl
 exf:=fun b f=>by
  obtain⟨_,_,_,_,J,_⟩:=l b f
  refine⟨bH (bw (g b f) t),fun x c e=>?_⟩
  rcases g8 e with⟨_,h⟩|⟨_,L⟩
  ·rw[h];exact dY (bw (g b f) d)
  ·exact J x c (i x c L)
 bs:=I.bs
 bsz:=b8 I.ok.bsz I.sz
 noex:=fun b o e f=>by
  obtain⟨_,_,_,M,_⟩:=l b f
  rcases M with z|z
  ·exact I.ok.noex b o e z
  ·exact absurd (bw (aM e) (b8 I.ok.bsz z)) (bO _)
 exfs:=fun b f z=>by
  obtain⟨_,f1,f2,_⟩:=l b f
  rcases aQ.mp (I.stkSub b z)with e|e
  ·exact f1 e
  ·exact f2 e
 funs:=I.stack
 frf:=I.stkFree
theorem zQu {j:bK}{D:ai}{od:Obj}{t:Nat}{m:Str->Option ah}(I:Inv X pins σ H s)(ok:(qE x0 X N scope ((x0,c0)::cl) C s H fp).Ok)(S:CompScopeC x0 X.env.scope X.N N scope caps)
  (g:∀x c,cl.lookup x=some c->X.env.cells.lookup x=some c) (n:∀x,(x,NameKind.free)∈scope.names->∃c,cl.lookup x=some c)
  (keep:∀b o,s.heap.get? b=some o->j.get? b=some o) (U:j.Ns C m) (W:s.heap.objs.size<=C) (Y:j.get? D=some od) (w:s.heap.objs.size<=D) (F:D≠C) (G:∀v,od.data≠.cell v) (J:s.heap.objs.size<=c0) (L:j.IsCell c0 none) :
  Inv (qE x0 X N scope ((x0,c0)::cl) C s H fp) [(D,od)] (uM caps N.length σ) H {s with heap:=j,toks:=t}:=by
 have d:∀x c,cl.lookup x=some c->∀v,s.heap.IsCell c v->j.IsCell c v:=fun x c e v ⟨o,M,hd⟩=>⟨o,keep c o M,hd⟩
 refine⟨ok,rfl,I.bare,Un.kept keep,⟨m,U,fun i x v Z a e3=>?_⟩,fun x c e=>?_,I.hok.fresh W,fun x c e=>by
  rcases g8 e with⟨_,a⟩|⟨_,B⟩
  ·rw[a];exact I.hok.fresh J
  ·exact I.freeC x c (g x c B),fun p hp=>?_,I.hok.kept keep,?_⟩
 ·have hi:i<caps.length:=by
   by_cases hi:i<caps.length
   ·exact hi
   ·exfalso
    unfold uM at a
    rw[bD (by simpa using hi),dG]at a
    split at a<;>cases a
  obtain⟨y,y1,y2,E,R⟩:=S.cap i hi
  have O:x=y:=by
   have A:N[i]?=some x:=Z
   rw[y1]at A;exact(aw A).symm
  subst O
  have e4:σ[caps.getD i 0]?=some (some v):=by
   unfold uM at a
   rw[bA (by simpa using hi),aF]at a
   have:caps[i]?=some (caps.getD i 0):=by rw[br];simp[hi]
   rw[this]at a
   have f:(σ[caps.getD i 0]?).join=some v:=by simpa using a
   cases q:σ[caps.getD i 0]? with
   |none=>rw[q]at f;cases f
   |some z=>rw[q]at f;have:z=some v:=f;rw[this]
  obtain⟨m',_,hl⟩:=I.loc
  obtain⟨u,r,l⟩:=hl _ x v y2 e4 (R.elim (fun z=>.inr (.inl z)) fun z=>.inr (.inr z))
  refine⟨u,r,?_⟩
  have nl:X.env.kindOf x≠some .local:=by
   rcases R with z|z
   ·show X.env.scope.names.lookup x≠_;rw[z];decide
   ·show X.env.scope.names.lookup x≠_;rw[z];decide
  rcases l with⟨k,_⟩|⟨_,c,hc,z⟩
  ·exact absurd k nl
  ·obtain⟨T,h⟩:=n x (ck E)
   have:c=T:=aw (hc.symm.trans (g x T h))
   subst this
   have P:x≠x0:=fun q=>by rw[q,S.own]at E;cases E
   refine .inr ⟨?_,c,(zJh P).trans h,d x c h _ z⟩
   exact zDc (env:=X.env) E
 ·rcases g8 e with⟨_,a⟩|⟨_,B⟩
  ·rw[a];exact⟨_,L⟩
  ·obtain⟨v,z⟩:=I.cell x c (g x c B)
   exact⟨v,d x c B v z⟩
 ·have:p=(D,od):=by
   have Q:p∈[(D,od)]:=hp
   simpa using Q
  subst this
  refine⟨Y,I.hok.fresh w,F,fun z=>?_,G⟩
  have z':D∈yW X.stack:=z
  obtain⟨_,o,M,_⟩:=I.stack.mem z'
  exact absurd (bw (aM M) w) (bO _)
 ·unfold uM
  show _=N.length
  rw[aq,af,eS]
  have:=S.len
  omega
end
section
variable{X:Cx}
theorem zQv {x0:Str}{tg iter elt:cb}{ifs:List cb}{scope:dS}{pos:Pos}{wi:TI}{g:TG}{tc:TT}{te:TE}{N:List Str}{caps:List Nat}(hc:X.calm=true)(S:CompScopeC x0 X.env.scope X.N N scope caps)
  (hi:PI X tg iter wi) (hg:∀cl C s H ex,PG (qE x0 X N scope cl C s H ex) tg g) (hf:∀cl C s H ex,PF (qE x0 X N scope cl C s H ex) ifs tc) (he:∀cl C s H ex,PE (qE x0 X N scope cl C s H ex) elt te)
  (hs:∀x,foldedSetIterable iter X.env x=pure x:=by intro _;rfl):PE X (.ListComp elt [⟨tg,iter,ifs,0⟩] scope pos) (zBx wi g tc te caps N.length):=by
 intro pins s σ H Q I h
 obtain⟨cl,hcl,hcl1,hcl2⟩:=zDa (env:=X.env) (scope:=scope) fun y hy e=>I.ok.has y.1 (S.free y hy e)
 rw[qk]
 refine gz (use:=none) rfl hs hcl S.kind S.names (zK (hi pins s σ H _ I h) fun v s1 h1=>zK h1 fun itv s2 h2=>?_)
 obtain⟨it,fp,tn,J,H2,e,I2,T,st2,f2,W,⟨m0,w0⟩,turn⟩:=h2
 subst e
 refine eX (zQs S.one ?_)
 dsimp only
 generalize hG:s2.heap.push {cls:=.type "list",dict:=none,data:=.seq ([]:List ah).toArray}=G
 have hCs:G.objs.size=s2.heap.objs.size+1:=by rw[<-hG,dj]
 have hDC:s2.heap.objs.size≠G.objs.size:=by rw[hCs];exact bH (eO _)
 obtain⟨h₁,eh1⟩:∃h₁,h₁=(G.push {cls:=.type "dict",data:=.dict #[]}).push {cls:=.type "cell",data:=.cell none}:=⟨_,rfl⟩
 rw[<-eh1]
 have old0:∀b o,G.get? b=some o->h₁.get? b=some o:=fun b o e=>by rw[eh1];exact ag _ (ag _ e)
 have hns:h₁.Ns G.objs.size (fun _=>none):=by
  rw[eh1]
  exact(Heap.Ns.new G (.type "dict")).keeps fun b o e=>ag _ e
 have hce:h₁.IsCell (G.objs.size+1) none:=by
  rw[eh1]
  have e:(G.push {cls:=.type "dict",data:=.dict #[]}).objs.size=G.objs.size+1:=dj ..
  exact⟨_,by rw[<-e];exact aZ _ rfl,rfl⟩
 have old:∀b o,s2.heap.get? b=some o->h₁.get? b=some o:=fun b o e=>old0 b o (by rw[<-hG];exact ag _ e)
 have hD:h₁.get? s2.heap.objs.size=some {cls:=.type "list",dict:=none,data:=.seq ([]:List ah).toArray}:=old0 _ _ (by rw[<-hG];exact aZ _ rfl)
 have hfo:∀b∈fp,b<s2.heap.objs.size:=fun b hb=>let⟨o,e,_⟩:=T.obj 0 _ st2 b hb;aM e
 have hCle:s2.heap.objs.size<=G.objs.size:=by omega
 have ok:=zQt (C:=G.objs.size) (c0:=G.objs.size+1) I2 S hcl1 hcl2 hCle (by omega) f2 hfo
 have I0:Inv (qE x0 X N scope ((x0,G.objs.size+1)::cl) G.objs.size s2 H2 fp) [(s2.heap.objs.size,{cls:=.type "list",dict:=none,data:=.seq ([]:List ah).toArray})] (uM caps N.length σ) H2 {s2 with heap:=h₁} :=
  zQu I2 ok S hcl1 hcl2 old hns hCle hD (aH _) hDC (fun v z=>by cases z) (by omega) hce
 have st1:tn 0 h₁:=T.keep 0 _ _ st2 fun b _ o e=>old b o e
 generalize hX:qE x0 X N scope ((x0,G.objs.size+1)::cl) G.objs.size s2 H2 fp=X' at I0
 generalize hDa:s2.heap.objs.size=D at I0 hD hDC
 have loop:codeAny (model X.prog X.w) X.A (.compLoop (.ListComp elt [⟨tg,iter,ifs,0⟩] scope pos) 0 (.ref it) (.ref D) (compEnvC scope ((x0,G.objs.size+1)::cl) G.objs.size X.env)) (compPost (model X.prog X.w) X.A X.xe none (EP X pins σ Q) (.ref D) G.objs.size)
   {s2 with heap:=h₁}:=by
  subst hX
  refine zDb (J:=fun n s'=>∃i σ' H' acc its e,Inv (qE x0 X N scope ((x0,G.objs.size+1)::cl) G.objs.size s2 H2 fp) [(D,{cls:=.type "list",data:=.seq (eI its) e})] σ' H' s'/\zS acc its/\acc.length<=sizeLine/\tn i s'.heap/\(∀b∈fp,H' b=none)/\W i n acc σ' H')
   ?_ m0 ⟨0,_,H2,[],[],0,I0,.nil,bX _,st1,fun b hb=>(f2 b hb).1,w0⟩
  rintro n s3 ⟨i,σ3,H3,acc,its,ep,I3,rv,hz,st3,fr3,w3⟩
  have stat:∀{H':Hp} {pl:List (ai×Obj)},(∀b∈fp,H' b=none)->(∀p∈pl,p.1=D)->∀b∈fp,u7 (qE x0 X N scope ((x0,G.objs.size+1)::cl) G.objs.size s2 H2 fp) pl H' b:=fun{H' pl} hn hpl b hb=>by
   obtain⟨a1,a2⟩:=ok.exf b hb
   exact⟨hn b hb,a1,ok.exfs b hb,.inl hb,fun x c e=>a2 x c e,fun p hp=>by
    have hp':p∈pl:=hp
    rw[hpl p hp',<-hDa]
    exact dY (hfo b hb)⟩
  have one:∀p∈[(D,({cls:=.type "list",data:=.seq (eI its) ep}:Obj))],p.1=D:=fun p hp=>by
   rcases aQ.mp hp with e|e
   ·rw[e]
   ·cases e
  have pinD:∀{pl:List (ai×Obj)} {σ':St} {H':Hp} {s':au} {o:Obj},Inv (qE x0 X N scope ((x0,G.objs.size+1)::cl) G.objs.size s2 H2 fp) pl σ' H' s'->(D,o)∈pl->s'.heap.get? D=some o/\H' D=none:=fun{pl σ' H' s' o} I' hm=>by
   obtain⟨a,b,_⟩:=I'.pin (D,o) (aT _ hm)
   exact⟨a,b⟩
  rcases turn i n acc σ3 H3 w3 with⟨stop,q⟩|⟨go,hlt,step⟩
  ·refine cf (T.done (qE x0 X N scope ((x0,G.objs.size+1)::cl) G.objs.size s2 H2 fp) rfl rfl rfl hc i _ s3 σ3 H3 (fun _ _=>False) I3 (stat fr3 one) st3 stop) (fun r s4 ⟨hr,I4⟩=>?_) fun _ _ f=>f
   subst hr
   obtain⟨hDo,hDn⟩:=pinD I4 (ar ..)
   obtain⟨m4,hm4,_⟩:=I4.loc
   refine⟨m4,hm4,fun h' hsb'=>?_⟩
   have keepC:∀b u,b≠G.objs.size->s4.heap.get? b=some u->h'.get? b=some u:=fun b u hb e=>hsb'.extBut b u hb e
   have un:Un (yW X.stack) fp H2 H3 s2.heap s4.heap:=I4.base
   have hDo':h'.get? D=some {cls:=.type "list",data:=.seq (eI its) ep}:=keepC D _ hDC hDo
   have hlow:∀b (o:Obj),s2.heap.get? b=some o->b≠G.objs.size/\b≠D:=fun b o e=>by
    have h0:=aM e
    exact⟨by rw[hCs];exact bH (di h0),by rw[<-hDa];exact bH h0⟩
   have un':Un (yW X.stack) fp H2 (upd H3 D (.lst acc)) s2.heap h' :=
    ⟨fun b o e n' hb hx=>keepC b o (hlow b o e).1 (un.keep b o e n' hb hx),
     fun b o e n' hb hx=>let⟨sl,q⟩:=un.slot b o e n' hb hx;⟨sl,keepC b _ (hlow b o e).1 q⟩,
     fun b o e n' hx=>by rw[zN (hlow b o e).2];exact un.free b o e n' hx,
     fun b o e hx=>let⟨o',q⟩:=un.there b o e hx;⟨o',keepC b _ (hlow b o e).1 q⟩,
     fun b xs e=>by rw[zN (vJ (un.tups b xs e) hDn)];exact un.tups b xs e,
     fun b o u e=>by rw[zN (vJ (un.frzs b o u e) hDn)];exact un.frzs b o u e,
     fun b ps e=>let⟨mo,q⟩:=un.tbls b ps e;⟨mo,by rw[zN (vJ q hDn)];exact q⟩⟩
   have hok:yB X.prog X.w (upd H3 D (.lst acc)) h':=(I4.hok.but I4.free keepC).track hDn ⟨hz,its,ep,rv,hDo'⟩
   refine⟨.ref D,upd H3 D (.lst acc),I2.call' (s':={s4 with heap:=h'}) I4.os un' hok I4.bare (fun b hb=>?_),rfl,q D hDn⟩
   obtain⟨_,f1,_,f3,f4,f5⟩:=f2 b hb
   exact⟨f3,f1,f4,f5⟩
  ·refine cf (T.item (qE x0 X N scope ((x0,G.objs.size+1)::cl) G.objs.size s2 H2 fp) rfl rfl rfl hc i _ s3 σ3 H3 (fun _ _=>False) I3 (stat fr3 one) st3 go) (fun r s4 ⟨u,hr,h4⟩=>?_) fun _ _ f=>f
   subst hr
   refine zK h4 fun _ s5 ⟨x,H5,I5,r5,y5,st5,fr5⟩=>?_
   have I5':=I5.pinned (stat fr5 one) (T.obj _ _ st5)
   refine zK (hg ((x0,G.objs.size+1)::cl) G.objs.size s2 H2 fp _ s5 σ3 H5 x u _ I5' r5 (step x H5 y5)) fun _ s6 ⟨σ6,H6,I6,q6⟩=>?_
   refine zK (hf ((x0,G.objs.size+1)::cl) G.objs.size s2 H2 fp _ s6 σ6 H6 _ I6 q6) fun b s7 ⟨H7,I7,q7⟩=>?_
   have fin:∀{pl:List (ai×Obj)} {σ':St} {H':Hp} {s':au},Inv (qE x0 X N scope ((x0,G.objs.size+1)::cl) G.objs.size s2 H2 fp) (pl++zAA fp s5.heap) σ' H' s'->tn (i+1) s'.heap/\∀b∈fp,H' b=none:=fun{pl σ' H' s'} I'=>by
    refine⟨T.keep _ _ _ st5 fun b hb o e=>(I'.pin (b,o) (aT _ (aT _ (kP hb e)))).1,fun b hb=>?_⟩
    obtain⟨o,e,_⟩:=T.obj _ _ st5 b hb
    exact(I'.pin (b,o) (aT _ (aT _ (kP hb e)))).2.1
   cases b with
   |false=>
    rw[if_neg aI]at q7⊢
    obtain⟨m',hm,w7⟩:=q7
    obtain⟨a1,a2⟩:=fin I7
    exact⟨m',hm,i+1,σ6,H7,acc,its,ep,I7.unpinned,rv,hz,a1,a2,w7⟩
   |true=>
    rw[if_pos rfl]at q7⊢
    refine zK (he ((x0,G.objs.size+1)::cl) G.objs.size s2 H2 fp _ s7 σ6 H7 _ I7 q7) fun y s8 ⟨yv,H8,I8,r8,m',hm,w8⟩=>?_
    obtain⟨a1,a2⟩:=fin I8
    obtain⟨b1,b2⟩:=pinD I8 (bS _ (ar ..))
    have hl:=rv.length
    refine fU ij ⟨_,b1,rfl⟩ gq (fV _ _) (iD D its.toArray ep y (by rw[aY];omega)) ⟨b1,?_⟩
    have q9:=iS b1 (·.push y)
    have kp:∀b o,b≠D->s8.heap.get? b=some o->(s8.heap.update D (cz (·.push y))).get? b=some o:=fun b o hb e=>(cF s8.heap (cz (·.push y)) (d9 hb)).trans e
    have I9:Inv (qE x0 X N scope ((x0,G.objs.size+1)::cl) G.objs.size s2 H2 fp) [] σ6 H8 {s8 with heap:=s8.heap.update D (cz (·.push y))} :=
     (I8.pins_of (pins':=[]) fun p hp=>by cases hp).turned (t':=s8.toks) kp b2 hDC (.inr (by rw[<-hDa];exact aH _)) (fun x c e z=>by
      rcases g8 e with⟨_,e2⟩|⟨_,e0⟩
      ·rw[z]at e2
       rw[<-hDa,hCs]at e2
       exact bH (di (eO _)) e2
      have e':X.env.cells.lookup x=some c:=hcl1 x c e0
      obtain⟨v',hv'⟩:=I2.cell x c e'
      have h0:=hv'.lt
      rw[z,<-hDa]at h0
      exact bO _ h0) fun p hp=>by
       have:p∈([]:List (ai×Obj)):=hp
       cases this
    have hpu:its.toArray.push y=(its++[y]).toArray:=by simp
    rw[hpu]at q9
    obtain⟨e9,q9⟩:∃e9,(s8.heap.update D (cz (·.push y))).get? D=some {cls:=.type "list",data:=.seq (its++[y]).toArray e9}:=⟨_,q9⟩
    refine⟨m',hm,i+1,σ6,H8,acc++[yv],its++[y],e9,I9.pins_of fun p hp=>?_,rv.append (.cons r8 .nil),?_,T.keep _ _ _ a1 fun b hb o e=>kp b o ?_ e,a2,w8⟩
    ·obtain rfl:p=(D,{cls:=.type "list",data:=.seq (its++[y]).toArray e9}):=by
      rcases aQ.mp hp with e|e
      ·exact e
      ·cases e
     obtain⟨_,_,c3,c4,_⟩:=I8.pin (D,_) (aT _ (bS _ (ar ..)))
     exact⟨q9,b2,c3,c4,fun v z=>by cases z⟩
    ·rw[aq,dA];omega
    ·rintro rfl
     have h0:=hfo b hb
     rw[hDa]at h0
     exact bO _ h0
 exact iE loop (T.self X.A 0 _ _ _ st1 loop)
end
end L2
end
section
namespace Kn.Ln
open PySem L2 Kn
def zAY (gd:List (List Nat))(l:List Nat):Bool:=decide (l∈gd)&&decide ((l.filter fun p=>decide ((l.filter fun q=>decide (q≠p))∈gd))=[])
theorem zCz {bk:List S}{o:Nat}{nm:S}{l:List Nat}:l∈q8 bk o nm↔l∈vB bk.length/\yX (vI bk o nm) l=true:=by
 unfold q8
 rw[bF,zCp]
 constructor
 ·rintro⟨⟨b,_⟩,a⟩;exact⟨b,a⟩
 ·rintro⟨b,a⟩
  exact⟨⟨b,fun z=>by rw[z,zQB]at a;cases a⟩,a⟩
theorem zQw {bk:List S}{o:Nat}{nm:S}(l:List Nat):zAY (q8 bk o nm) l=zAR (vI bk o nm) bk.length l:=by
 rw[eE,zQA]
 unfold zAY
 rw[bz,decide_eq_true_eq,decide_eq_true_eq,zCz,List.filter_eq_nil_iff]
 constructor
 ·rintro⟨⟨b,g⟩,h⟩
  refine⟨b,g,fun m f=>?_⟩
  cases e:yX (vI bk o nm) m with
  |false=>rfl
  |true=>
   exfalso
   obtain⟨i,hi,rfl⟩:=zFR.mp f
   obtain⟨n,c⟩:=qR.mp b
   have d:∀p∈l.take i++l.drop (i+1),p∈l.filter fun q=>decide (q≠l[i]):=fun p a=>by
    refine bF.mpr ⟨(zPy f).1.subset a,?_⟩
    have r:=zFS hi
    rw[r]at c
    obtain⟨A,s,t⟩:=cY.mp c
    obtain⟨u,B⟩:=cg.mp s
    rcases bP.mp a with z|z
    ·have:=t p z l[i] (ar ..)
     simp;omega
    ·have:=u p z
     simp;omega
   refine h l[i] (cD hi) ?_
   rw[decide_eq_true_eq,zCz]
   refine⟨qR.mpr ⟨fun p a=>n p (bF.mp a).1,c.filter _⟩,zIx d e⟩
 ·rintro⟨b,g,h⟩
  refine⟨⟨b,g⟩,fun x v z=>?_⟩
  rw[decide_eq_true_eq,zCz]at z
  obtain⟨n,c⟩:=qR.mp b
  obtain⟨m,f,j⟩:=zPz c v
  have:yX (vI bk o nm) m=true:=zIx (fun p a=>by
   obtain⟨w,y⟩:=bF.mp a
   exact j p w (by simpa using y)) z.2
  rw[h m f]at this;cases this
theorem zJi (gd:List (List Nat))(l:List Nat):((gd.map yR).any fun e=>bV e (yR l))=decide (l∈gd):=by
 rw[eE,gf,decide_eq_true_eq]
 constructor
 ·rintro⟨e,a,h⟩
  obtain⟨m,b,rfl⟩:=aX.mp a
  rw[zBd,decide_eq_true_eq]at h
  rw[<-h];exact b
 ·intro h
  exact⟨_,aX.mpr ⟨l,h,rfl⟩,by rw[zBd];simp⟩
theorem zQx (gd:List (List Nat)){d:bW}(hd:d=.int (-1)\/d=.str "0"\/d=.none):((gd.map yR).any fun e=>bV e (.list [d]))=false:=by
 rw[nY]
 intro h
 obtain⟨e,a,h⟩:=gf.mp h
 obtain⟨m,b,rfl⟩:=aX.mp a
 unfold yR at h
 cases m with
 |nil=>simp[bV,fc]at h
 |cons x m=>
  rcases hd with rfl|rfl|rfl
  ·simp only[ba,bV,fc,bz,decide_eq_true_eq,beq_iff_eq]at h
   have:=h.1
   omega
  ·simp[bV,fc]at h
  ·simp[bV,fc]at h
structure KitM (K:ae):Prop where
 bb:bx K (.type "bool") (.type "bool")=some true
 sb:bx K (.type "str") (.type "bool")=some false
 nb:bx K (.type "NoneType") (.type "bool")=some false
section
variable{P:aP}{w:bc}{K:ae}{mg:Str->Option ah}{base:bK}
abbrev zFg:cJ:=top 67
theorem zQy:FnScope ["_law_good_here","_law_row_here"] ["_law_good_here","_law_row_here"] (defScope zFg):=yC
theorem zQz:(["_law_one"]:List Str).Nodup:=by decide+kernel
theorem zRA:(["_law_row_here","_law_good_here","_law_one"]:List Str).Nodup:=by decide+kernel
theorem zRB:(["_law_one","_law_other"]:List Str).Nodup:=by decide+kernel
def zBi (H:Hp)(v:V):Prop:=v=.non\/(∃(a:ai) (xs:List V),v=.ref a/\H a=some (.tup xs))\/(∃a:ai,v=.ref a/\H a=some (.lst [.bl true]))\/∃(a:ai) (x:V),v=.ref a/\H a=some (.lst [x])/\(x=.int (-1)\/x=.str "0"\/x=.non)
def zJj:Sp:=fun vs H Q _=>∃(g:ai) (ys:List V) (gd:List (List Nat)) (v:V),vs=[.ref g,v]/\H g=some (.lst ys)/\LsAt H ys gd/\
 ((zBi H v/\∀H',zA H H'->Q (.bl false) H')\/∃(a:ai) (l:List Nat),v=.ref a/\H a=some (.lst (zI l))/\l.length<=50/\∀H',zA H H'->Q (.bl (zAY gd l)) H')
theorem zRC {f:ai}{fd:aO}(F:Fun K "_law_is_shown" "_law_is_shown" zFg f fd)(B:Blt mg)(C:Cst K mg)(KM:KitM K)(aj:mg "list"=none):FnOk P w K mg base zU 1 f fd ["_law_good_here","_law_row_here"] zJj:=by
 refine F.ok zQy (fun vs H Q E h=>?_) (fun as A outer s H vs Q E hr h=>?_)
 ·obtain⟨g,ys,gd,v,rfl,_⟩:=h;rfl
 ·obtain⟨g,ys,gd,v,rfl,hg,al,h⟩:=h
  have hu:=hr.units
  have O:=hr.units65
  refine⟨_,zG (yK (PW.pt (jO (vP (vC (zZ u9 (by rfl) B.isinstance aJ (zB (pv 1) (zB (uU (v:=.ty "list") (by rfl) aj du rfl) zC)))))
    (jO (vF (kX hu) (vG (N:=["_law_one"]) (caps:=[]) rfl (yT (by kernel_rfl)) (vQ (pv 1)) (fun cl X s H ex=>zY (i:=0) zQz rfl (Or.inl rfl))
      (fun cl X s H ex=>kW (vC (zZ (zQp K rfl) (by rfl) B.isinstance aJ (zB (pv 0) (zB (uU (v:=.ty "bool") (by rfl) B.bool fE rfl) zC)))))
      (fun cl X s H ex=>pv 0)) (yE zC) (yY _))
     (jX (vF (zQo O) (pv 1) (pv 0) (by with_unfolding_all rfl)))))) (zH (zT v9)) yJ)
   (zH (zT (kQ (zBy hu) (zQv (x0 :="_law_one") (N:=["_law_row_here","_law_good_here","_law_one"]) (caps:=[1,0]) rfl (zQr (by kernel_rfl)) (vQ (pv 1)) (fun cl X s H ex=>zY (i:=2) zRA rfl (Or.inr rfl))
     (fun cl X s H ex=>kW (vF (zIF K rfl O) (vG (N:=["_law_one","_law_other"]) (caps:=[2]) rfl (yT (by kernel_rfl)) (zHk K rfl (pv 0)) (fun cl X s H ex=>zY (i:=1) zRB rfl (Or.inl rfl))
       (fun cl X s H ex=>kW (vF zAB (pv 1) (pv 0) (yY _))) (fun cl X s H ex=>pv 1)) (pv 1) (by with_unfolding_all rfl)))
     (fun cl X s H ex=>pv 2)) (yE zC) (yY _)))),?_⟩
  have n:∀H',zA H H'->yD K H' (.list (gd.map yR)) (.ref g):=fun H' s=>qC (s _ _ hg) (zFN (al.same s))
  have r:cn (.list (gd.map yR))=true:=zIu gd
  rcases h with⟨odd,k⟩|⟨a,l,rfl,m,av,k⟩
  ·rcases odd with rfl|⟨a,xs,rfl,m⟩|⟨a,rfl,m⟩|⟨a,x,rfl,m,R⟩
   ·exact⟨_,rfl,_,_,_,false,rfl,.non,(by rfl),_,rfl,yL (yL (k _ (zA.refl _)))⟩
   ·exact⟨_,rfl,_,_,_,false,rfl,.tup m,(by rfl),_,rfl,yL (yL (k _ (zA.refl _)))⟩
   ·refine⟨_,rfl,_,_,_,true,rfl,.lst m,(by rfl),_,rfl,yI ?_⟩
    refine⟨_,rfl,a,rfl,⟨_,.of m⟩,?_⟩
    refine kZ (vH K a [.bl true]) [] 1 (by show 1<1000;decide) (fun i b H'=>H'=H/\b=([V.bl true]).take i) ⟨rfl,rfl⟩ (fun i b H' hi h=>⟨by rw[h.1];exact .of m,by rw[h.2,aL];exact jg ..⟩) ?_ ?_
    ·rintro i y b H' zs Nx u R J ⟨rfl,rfl⟩
     obtain⟨y',rfl⟩:=y0 J
     have hi:i=0:=by
      have:=(aa.mp R).1
      have h1:i<1:=this
      omega
     subst hi
     have t:y=.bl true:=(aw R).symm
     subst t
     exact⟨_,rfl,_,_,_,true,rfl,.bl _,KM.bb,_,rfl,yL ⟨_,rfl,u _ _ [_] rfl ⟨rfl,rfl⟩⟩⟩
    ·rintro b H' ⟨rfl,rfl⟩ D T
     have u1:=zA.upd1 (o:=.lst [.bl true]) T
     refine⟨by show 0<=sizeLine;decide,fun p U=>?_⟩
     have z:=zA.upd1 (o:=.lst []) U
     refine⟨.list [.bool true],.list [],qC (z _ _ zD) ⟨_,_,rfl,rfl,rfl⟩,qC zD rfl,rfl,rfl,_,rfl,zBf rfl (yL (k _ (u1.trans z)))⟩
   ·refine⟨_,rfl,_,_,_,true,rfl,.lst m,(by rfl),_,rfl,yI ?_⟩
    refine⟨_,rfl,a,rfl,⟨_,.of m⟩,?_⟩
    refine kZ (vH K a [x]) [] 1 (by show 1<1000;decide) (fun i b H'=>H'=H/\b=[]) ⟨rfl,rfl⟩ (fun i b H' hi h=>⟨by rw[h.1];exact .of m,by rw[h.2];exact bX _⟩) ?_ ?_
    ·rintro i y b H' zs Nx u hx2 J ⟨rfl,rfl⟩
     obtain⟨y',rfl⟩:=y0 J
     have hi:i=0:=by
      have:=(aa.mp hx2).1
      have h1:i<1:=this
      omega
     subst hi
     have t:y=x:=(aw hx2).symm
     subst t
     rcases R with rfl|rfl|rfl
     ·exact⟨_,rfl,_,_,_,false,rfl,.int _,C.ib,_,rfl,yI (u _ _ [_] rfl ⟨rfl,rfl⟩)⟩
     ·exact⟨_,rfl,_,_,_,false,rfl,.str _,KM.sb,_,rfl,yI (u _ _ [_] rfl ⟨rfl,rfl⟩)⟩
     ·exact⟨_,rfl,_,_,_,false,rfl,.non,KM.nb,_,rfl,yI (u _ _ [_] rfl ⟨rfl,rfl⟩)⟩
    ·rintro b H' ⟨rfl,rfl⟩ D T
     have u1:=zA.upd1 (o:=.lst []) T
     refine⟨by show 0<=sizeLine;decide,fun p U=>?_⟩
     have z:=zA.upd1 (o:=.lst []) U
     refine⟨.list [],.list [],qC (z _ _ zD) rfl,qC zD rfl,rfl,rfl,_,rfl,zBZ rfl ?_⟩
     have G:=(u1.trans z) _ _ m
     obtain⟨d,hd,rd,sd⟩:∃d:bW,(d=.int (-1)\/d=.str "0"\/d=.none)/\yD K (upd (upd H' D (.lst [])) p (.lst [])) d x/\cn (.list [d])=true:=by
      rcases R with rfl|rfl|rfl
      ·exact⟨.int (-1),.inl rfl,rfl,by decide+kernel⟩
      ·exact⟨.str "0",.inr (.inl rfl),rfl,by decide+kernel⟩
      ·exact⟨.none,.inr (.inr rfl),rfl,by decide+kernel⟩
     refine⟨_,rfl,_,rfl,.list [d],_,qC G ⟨_,_,rfl,rd,rfl⟩,n _ (u1.trans z),sd,r,_,rfl,zBf (by rw[zQx gd hd];rfl) (k _ (u1.trans z))⟩
  ·refine⟨_,rfl,_,_,_,true,rfl,.lst m,(by rfl),_,rfl,yI ?_⟩
   refine⟨_,rfl,a,rfl,⟨_,.of m⟩,?_⟩
   refine kZ (vH K a (zI l)) [] 1 (by rw[vL];omega) (fun i b H'=>H'=H/\b=[]) ⟨rfl,rfl⟩ (fun i b H' hi h=>⟨by rw[h.1];exact .of m,by rw[h.2];exact bX _⟩) ?_ ?_
   ·rintro i y b H' zs Nx u hx2 J ⟨rfl,rfl⟩
    obtain⟨y',rfl⟩:=y0 J
    obtain⟨p,ep,rfl⟩:=gF hx2
    exact⟨_,rfl,_,_,_,false,rfl,.int _,C.ib,_,rfl,yI (u _ _ [_] rfl ⟨rfl,rfl⟩)⟩
   rintro b H' ⟨rfl,rfl⟩ D T
   have u1:=zA.upd1 (o:=.lst []) T
   refine⟨by show 0<=sizeLine;decide,fun p U=>?_⟩
   have z:=zA.upd1 (o:=.lst []) U
   have e:=u1.trans z
   refine⟨.list [],.list [],qC (z _ _ zD) rfl,qC zD rfl,rfl,rfl,_,rfl,zBZ rfl ?_⟩
   refine⟨_,rfl,_,rfl,yR l,_,jL (e _ _ m),n _ e,(zAV l).1,r,_,rfl,?_⟩
   rw[zJi]
   by_cases c:l∈gd
   ·have e0:zAY gd l=decide ((l.filter fun p=>decide ((l.filter fun q=>decide (q≠p))∈gd))=[]):=by unfold zAY;rw[decide_eq_true c,fI]
    rw[e0]at k
    refine zBZ (by simp[c]) ?_
    refine⟨_,rfl,a,rfl,⟨_,.of (e _ _ m)⟩,?_⟩
    generalize upd (upd H' D (.lst [])) p (.lst [])=HB at e
    refine kZ (vH K a (zI l)) [some (.ref a),some (.ref g)] 1 (by rw[vL];omega) (fun i b W=>zA HB W/\b=zI ((l.take i).filter fun p=>decide ((l.filter fun q=>decide (q≠p))∈gd))) ⟨zA.refl _,rfl⟩
     (fun i b W hi h=>⟨.of (h.1 _ _ (e _ _ m)),by rw[h.2,vL];exact b8 (bC ..) (by rw[aL];exact jg ..)⟩) ?_ ?_
    ·rintro i y b W zs Nx u hx2 J ⟨M,rfl⟩
     obtain⟨y',rfl⟩:=y0 J
     obtain⟨L,ep,rfl⟩:=gF hx2
     have hi:i<l.length:=(aa.mp ep).1
     have Y:l.take (i+1)=l.take i++[L]:=by rw[ak hi,(aa.mp ep).2]
     have G:=M _ _ (e _ _ m)
     refine⟨_,rfl,a,rfl,⟨_,.of G⟩,?_⟩
     refine kZ (vH K a (zI l)) [some (.int (L:Int))] 1 (by rw[vL];omega) (fun i b H3=>H3=W/\b=zI ((l.take i).filter fun q=>decide (q≠L))) ⟨rfl,rfl⟩
      (fun i b H3 hi h=>⟨by rw[h.1];exact .of G,by rw[h.2,vL];exact b8 (bC ..) (by rw[aL];exact jg ..)⟩) ?_ ?_
     ·rintro j y2 Z H3 ay aA ab hx3 t ⟨rfl,rfl⟩
      obtain⟨y3,rfl⟩:=y0 t
      obtain⟨p2,ac,rfl⟩:=gF hx3
      have hj:j<l.length:=(aa.mp ac).1
      have I:l.take (j+1)=l.take j++[p2]:=by rw[ak hj,(aa.mp ac).2]
      refine⟨_,rfl,_,rfl,rfl,_,rfl,?_⟩
      by_cases c2:p2=L
      ·subst c2
       refine qW rfl (ab _ _ [_] rfl ⟨rfl,?_⟩)
       rw[I,bN,dI (by simp)];simp
      ·refine zBf (by simp;omega) ⟨_,rfl,ab _ _ [_] rfl ⟨rfl,?_⟩⟩
       rw[I,bN,dJ (by simpa using c2)]
       unfold zI;rw[az];rfl
     rintro Z H3 ⟨rfl,rfl⟩ D3 am
     rw[vL,aV]
     have u3:=zA.upd1 (o:=.lst (zI (l.filter fun q=>decide (q≠L)))) am
     refine⟨_,rfl,yR (l.filter fun q=>decide (q≠L)),_,jL zD,n _ (e.trans (M.trans u3)),(zAV _).1,r,_,rfl,?_⟩
     rw[zJi]
     by_cases c3:(l.filter fun q=>decide (q≠L))∈gd
     ·refine vY c3 ⟨_,rfl,u _ _ [_] rfl ⟨M.trans u3,?_⟩⟩
      rw[Y,bN,dJ (by simpa using c3)]
      unfold zI;rw[az];rfl
     ·refine v4 c3 (u _ _ [_] rfl ⟨M.trans u3,?_⟩)
      rw[Y,bN,dI (by simpa using c3)];simp
    rintro b W ⟨M,rfl⟩ D2 an
    rw[vL,aV]
    have u4:=zA.upd1 (o:=.lst (zI (l.filter fun p=>decide ((l.filter fun q=>decide (q≠p))∈gd)))) an
    refine⟨by show 0<=sizeLine;decide,fun p5 ap=>?_⟩
    have u5:=zA.upd1 (o:=.lst []) ap
    refine⟨yR (l.filter fun p=>decide ((l.filter fun q=>decide (q≠p))∈gd)),yR [],jL (u5 _ _ zD),jL (l:=[]) zD,(zAV _).1,rfl,?_⟩
    have e3:(if false=true then !PyData.eqv (yR (l.filter fun p=>decide ((l.filter fun q=>decide (q≠p))∈gd))) (yR [])else bV (yR (l.filter fun p=>decide ((l.filter fun q=>decide (q≠p))∈gd))) (yR []))=decide ((l.filter fun p=>decide ((l.filter fun q=>decide (q≠p))∈gd))=[]):=by
     rw[if_neg aI,zBd]
    rw[e3]
    exact k _ (e.trans (M.trans (u4.trans u5)))
   ·have e0:zAY gd l=false:=by unfold zAY;rw[decide_eq_false c,fS]
    rw[e0]at k
    exact zBf (by simp[c]) (k _ e)
end
abbrev qT (bk:List S):List bW:=bk.map fun x=>PyData.str (tx x)
theorem zRD {x:S}(h:vW x):sml (.str (tx x))=true:=by
 simp only[sml,z8,gB,bz,decide_eq_true_eq,cw]
 exact⟨by have:=h.2.1;omega,fun c a=>by have:=h.2.2 c a;omega⟩
theorem zRE {bk:List S}(h:∀x∈bk,vW x):smls (qT bk)=true:=by
 induction bk with
 |nil=>rfl
 |cons x r ih=>
  show smls (.str (tx x)::qT r)=true
  simp only[smls,zRD (h x (ar ..)),ih fun y a=>h y (aG _ a),dZ]
theorem zDA {bk:List S}(h:isBk bk):sml (.tuple (qT bk))=true/\sml (.list (qT bk))=true:=by
 have:=zRE h.nm
 have hl:(qT bk).length<=900:=by have:=h.hi;rw[af];omega
 simp only[sml,this,qp]
 exact⟨decide_eq_true hl,decide_eq_true hl⟩
def qK (j:Int):bW:=.tuple [.str "refused",.int j]
theorem zJk {K:ae}{b:Hp}{D pt d pr:ai}{c:List V}{j:Int}(r:b D=none)(s:Reps K b (aU 5 (qK j)) c)(h:upd b D (.lst c) pt=none)(i:upd (upd b D (.lst c)) pt (.tup [.str "refused",.int j]) d=none)
  (l:upd (upd (upd b D (.lst c)) pt (.tup [.str "refused",.int j])) d (.lst [.ref pt]) pr=none):∃e,upd (upd (upd (upd b D (.lst c)) pt (.tup [.str "refused",.int j])) d (.lst [.ref pt])) pr (.lst (aU (5:Int).toNat [V.ref pt]).flatten)=e/\zA b e/\
   yD K e (.list (aU 5 (qK j))) (.ref D)/\yD K e (.list (aU 5 (qK j))) (.ref pr):=by
 have u1:=zA.upd1 (o:=.lst c) r
 have m:=zA.upd1 (o:=.tup [.str "refused",.int j]) h
 have f:=zA.upd1 (o:=.lst [.ref pt]) i
 have g:=zA.upd1 (o:=.lst (aU (5:Int).toNat [V.ref pt]).flatten) l
 have n:=g _ _ (f _ _ (m _ _ (zD (H:=b) (a:=D) (o:=.lst c))))
 have p:=Reps.same (((u1.trans m).trans f).trans g) _ _ s
 have q:=g _ _ (f _ _ (zD (H:=upd b D (.lst c)) (a:=pt) (o:=.tup [.str "refused",.int j])))
 refine⟨_,rfl,((u1.trans m).trans f).trans g,qC n p,qC zD ?_⟩
 have one:yD K (upd (upd (upd (upd b D (.lst c)) pt (.tup [.str "refused",.int j])) d (.lst [.ref pt])) pr (.lst (aU (5:Int).toNat [V.ref pt]).flatten)) (qK j) (.ref pt):=⟨pt,_,rfl,.of q,_,_,rfl,rfl,_,_,rfl,rfl,rfl⟩
 exact⟨_,_,rfl,one,_,_,rfl,one,_,_,rfl,one,_,_,rfl,one,_,_,rfl,one,rfl⟩
theorem zRF {K:ae}{b:Hp}{D pt d pr:ai}{c:List V}{j:Int}(r:b D=none)(s:Reps K b (aU 4 (qK j)) c)(h:upd b D (.lst c) pt=none)(i:upd (upd b D (.lst c)) pt (.tup [.str "refused",.int j]) d=none)
  (l:upd (upd (upd b D (.lst c)) pt (.tup [.str "refused",.int j])) d (.lst [.ref pt]) pr=none):∃e,upd (upd (upd (upd b D (.lst c)) pt (.tup [.str "refused",.int j])) d (.lst [.ref pt])) pr (.lst (aU (4:Int).toNat [V.ref pt]).flatten)=e/\zA b e/\
   yD K e (.list (aU 4 (qK j))) (.ref D)/\yD K e (.list (aU 4 (qK j))) (.ref pr):=by
 have u1:=zA.upd1 (o:=.lst c) r
 have m:=zA.upd1 (o:=.tup [.str "refused",.int j]) h
 have f:=zA.upd1 (o:=.lst [.ref pt]) i
 have g:=zA.upd1 (o:=.lst (aU (4:Int).toNat [V.ref pt]).flatten) l
 have n:=g _ _ (f _ _ (m _ _ (zD (H:=b) (a:=D) (o:=.lst c))))
 have p:=Reps.same (((u1.trans m).trans f).trans g) _ _ s
 have q:=g _ _ (f _ _ (zD (H:=upd b D (.lst c)) (a:=pt) (o:=.tup [.str "refused",.int j])))
 refine⟨_,rfl,((u1.trans m).trans f).trans g,qC n p,qC zD ?_⟩
 have one:yD K (upd (upd (upd (upd b D (.lst c)) pt (.tup [.str "refused",.int j])) d (.lst [.ref pt])) pr (.lst (aU (4:Int).toNat [V.ref pt]).flatten)) (qK j) (.ref pt):=⟨pt,_,rfl,.of q,_,_,rfl,rfl,_,_,rfl,rfl,rfl⟩
 exact⟨_,_,rfl,one,_,_,rfl,one,_,_,rfl,one,_,_,rfl,one,rfl⟩
theorem zRG {o:Nat}(a:1<=o)(b:o<=3):uX (.int (o:Int))=true:=by simp only[uX,bz,decide_eq_true_eq];omega
def jN (bk:List S)(o:Nat)(nm:S):Bool:=(zM o nm).all fun q=>decide (q∈zJ o bk)
theorem qY {bk:List S}{o:Nat}{nm:S}:uY bk o nm↔jN bk o nm=true:=by
 unfold uY jN
 rw[zJB,cw]
 simp only[decide_eq_true_eq]
def topF (bk:List S)(nm:S):Option Nat:=if jN bk 3 nm=true then some 3 else if jN bk 2 nm=true then some 2 else if jN bk 1 nm=true then some 1 else none
theorem top_eq {bk:List S}{nm:S}{r:Option Nat}(h:zJL bk nm r):r=topF bk nm:=by
 unfold topF
 cases r with
 |none=>
  have h':∀o,1<=o->o<=3->¬uY bk o nm:=h
  rw[if_neg (fun z=>h' 3 (by omega) (by omega) (qY.mpr z)),if_neg (fun z=>h' 2 (by omega) (by omega) (qY.mpr z)),if_neg (fun z=>h' 1 (by omega) (by omega) (qY.mpr z))]
 |some o=>
  obtain⟨c,d,a,b⟩:=(show 1<=o/\o<=3/\uY bk o nm/\∀p,o<p->p<=3->¬uY bk p nm from h)
  rcases(by omega:o=3\/o=2\/o=1)with rfl|rfl|rfl
  ·rw[if_pos (qY.mp a)]
  ·rw[if_neg (fun z=>b 3 (by omega) (by omega) (qY.mpr z)),if_pos (qY.mp a)]
  ·rw[if_neg (fun z=>b 3 (by omega) (by omega) (qY.mpr z)),if_neg (fun z=>b 2 (by omega) (by omega) (qY.mpr z)),if_pos (qY.mp a)]
def uN:Option Nat->bW
 |none=>.none
 |some i=>.int (i:Int)
theorem zDB {K:ae}{H:Hp}(r:Option Nat):yD K H (uN r) (qS r):=by cases r<;>rfl
def gG:List S:=[[97,98,97],[98,97,98]]
def jA:List S:=[[97,98,97,98],[97,98,97],[97,98,97,98,97,98],[98],[98,97],[97,98,98]]
def tops6:List (Option Nat):=[some 2,some 3,some 2,some 1,some 2,none]
theorem tops6_ok:jA.map (topF gG)=tops6:=by decide+kernel
theorem zRH:∀x∈jA,vW x/\x.length<=6:=by
 have h:∀x∈jA,(1<=x.length/\x.length<=8/\∀c∈x,97<=c/\c<=122)/\x.length<=6:=by decide+kernel
 exact h
theorem zJl (o:Nat)(a:1<=o)(b:o<=3):Bk gG o:=by
 have h:1<=gG.length/\gG.length<=8/\∀x∈gG,(1<=x.length/\x.length<=8/\∀c∈x,97<=c/\c<=122):=by decide+kernel
 exact⟨⟨h.1,h.2.1,h.2.2⟩,a,b⟩
theorem zRI:∀x∈gG,x.length<=4:=by decide+kernel
section
variable{P:aP}{w:bc}{K:ae}{mg:Str->Option ah}{base:bK}
abbrev zFh:cJ:=top 68
theorem zJm:FnScope ["_law_names"] [] (defScope zFh):=yC
theorem zRJ:(["_law_name_here"]:List Str).Nodup:=by decide+kernel
def zJn:Sp:=fun vs H Q _=>vs=[]/\∀H',zA H H'->Q (.bl true) H'
theorem zRK {X:Cx}{k:Nat}{x:Str}{sp:Sp}{p pos:Pos}(C:zQ X.prog X.w X.K X.mg X.base k x [] sp)(c:Room k X.A)(d:Gl X x)(a:(x==("__debug__" : Str))=false:=by decide):PE X (.Call (.Name x p) [] [] pos) (zAD sp [] E0 zBq):=by
 obtain⟨f,fd,G,e,kp,b⟩:=C
 exact zKt G c d e kp b .nil zGc a
theorem zRL {f:ai}{fd:aO}(F:Fun K "_law_orders" "_law_orders" zFh f fd)(t:zQ P w K mg base 8 "greatest_order" ["book","name"] zCv):FnOk P w K mg base zU 9 f fd [] zJn:=by
 refine F.ok zJm (fun vs H Q E h=>?_) (fun u A outer s H vs Q E j h=>?_)
 ·obtain⟨rfl,_⟩:=h;rfl
 ·obtain⟨rfl,k⟩:=h
  have nd:=zJm.nd
  have v:=j.units
  refine⟨_,zG (zX (i:=0) nd rfl (Or.inl rfl) (uL (zE y9 (zE y9 (zE y9 (zE y9 (zE y9 (zE y9 zC))))))))
   (zH (zT (kQ (zBy v) (vG (N:=["_law_name_here"]) (caps:=[]) rfl (yT (by kernel_rfl)) (zAd (pv 0)) (fun cl X s H ex=>zY (i:=0) zRJ rfl (Or.inl rfl)) (fun cl X s H ex=>vK)
     (fun cl X s H ex=>zL t j rfl (zE (uL (zE y9 (zE y9 zC))) (zE (pv 0) zC))))
    (yE (zE zF (zE zF (zE zF (zE zF (zE zF (zE uS zC))))))) (yY _)))),?_⟩
  refine⟨by show 6<=sizeLine;decide,fun p y=>?_⟩
  have u1:=zA.upd1 (o:=.tup (jA.map sv)) y
  have b:upd H p (.tup (jA.map sv)) p=some (.tup (jA.map sv)):=zD
  refine⟨_,rfl,p,rfl,⟨_,.of b⟩,?_⟩
  refine vT (zAp K p (jA.map sv)) [] 1 (by decide) (fun i a H'=>zA (upd H p (.tup (jA.map sv))) H'/\a=((jA.take i).map (topF gG)).map qS) ⟨zA.refl _,rfl⟩
   (fun i a H' _ h=>⟨.of (h.1 _ _ b),by rw[h.2,af,af,aL];exact jg ..⟩) ?_ ?_
  ·rintro i x a H' ys T z c B ⟨C,rfl⟩
   obtain⟨U,rfl⟩:=y0 B
   rw[aF]at c
   cases ep:jA[i]? with
   |none=>rw[ep]at c;cases c
   |some nm=>
   rw[ep]at c
   have hx2:x=sv nm:=(aw c).symm
   subst hx2
   have hi:i<jA.length:=(aa.mp ep).1
   obtain⟨g1,g2⟩:=zRH nm (aS ep)
   refine⟨by show 2<=sizeLine;decide,fun q d=>⟨_,rfl,q,gG,nm,rfl,zD,(zJl 1 (by omega) (by omega)).toisBk,g1,fun o G I=>zBh (zJl o G I) (by decide) zRI g1 g2,fun r J g L=>?_⟩⟩
   refine z _ _ [_] rfl ⟨C.trans ((zA.upd1 d).trans g),?_⟩
   rw[ak hi,(aa.mp ep).2,az,az,top_eq L];rfl
  rintro a J ⟨g,rfl⟩ D M
  have O:(jA.take ((jA.map sv).length)).map (topF gG)=tops6:=by rw[af,aV,tops6_ok]
  rw[O]
  have R:=zA.upd1 (o:=.lst (tops6.map qS)) M
  refine⟨by show 6<=sizeLine;decide,fun q d=>?_⟩
  have l:=zA.upd1 (o:=.lst (tops6.map qS)) d
  have m:∀n,Reps K n (tops6.map uN) (tops6.map qS):=fun n=>⟨_,_,rfl,rfl,_,_,rfl,rfl,_,_,rfl,rfl,_,_,rfl,rfl,_,_,rfl,rfl,_,_,rfl,rfl,rfl⟩
  refine⟨.list (tops6.map uN),.list (tops6.map uN),qC (l _ _ zD) (m _),qC zD (m _),by decide+kernel,by decide+kernel,?_⟩
  have e:(if false=true then !PyData.eqv (.list (tops6.map uN)) (.list (tops6.map uN))else bV (.list (tops6.map uN)) (.list (tops6.map uN)))=true:=by
   rw[if_neg aI];exact zBz _ (by decide+kernel)
  rw[e]
  exact k _ (u1.trans (g.trans (R.trans l)))
theorem zRM {X:Cx}{i:Nat}{x:Str}{b e f g:Pos}{a:cb}{c:List cb}{d:TE}{t:TA}{uZ:List cJ}{u:TS}(h:X.N.Nodup)(hi:X.N[i]?=some x)(j:Loc X.env.scope x)(l:X.fn x=true\/X.env.scope.names.lookup x=some .local)(m:PE X a d)(n:PA X c t)(o:uF X uZ u) :
  uF X (.Assign [.Name x b] (.BinOp a .Add (.List c e) g) f::uZ) (zBl (zDF (gK zGS d (zGD t)) (kO i)) u):=zG (zX h hi j (zP jR m (yE n)) rfl l) o
theorem zRN (xs:List V)(n:Nat):qO xs none (some (n:Int))=xs.take n:=by
 unfold qO
 rw[HT.sIx_nat]
 show(xs.drop 0).take (min n xs.length-0)=_
 rw[fY,jo,<-mm]
structure GB (bk:List S):Prop where
 lo:1<=bk.length
 hi:bk.length<=3
 nm:∀x∈bk,vW x
 l4:∀x∈bk,x.length<=4
 abz:∀x∈bk,∀c∈x,c=97\/c=98\/c=122
theorem GB.bk {bk:List S}(h:GB bk){o:Nat}(a:1<=o)(b:o<=3):Bk bk o:=⟨⟨h.lo,by have:=h.hi;omega,h.nm⟩,a,b⟩
theorem zRO {bk:List S}{o:Nat}{t:S}(h:isBk bk)(b:Mk (zJ o bk) o t):∀c∈t,97<=c/\c<=122:=fun c d=>by
 obtain⟨i,hi,rfl⟩:=dv d
 have e:(zO (t.take i) o,(t.drop i).take 1)∈zM o t:=by
  unfold zM
  exact aX.mpr ⟨i,bR.mpr (by omega),rfl⟩
 have a:t[i]∈(t.drop i).take 1:=by
  rw[gj hi,List.take_succ_cons]
  exact ar ..
 exact(zNI h (b _ e)).2 _ a
theorem zJo {α:Type}(p:α->Bool):∀l:List α,l.find? p=(l.filter p).head?
 | []=>rfl
 |x::l=>by
  rw[eF,c9]
  cases h:p x with
  |true=>rfl
  |false=>simpa using zJo p l
def zJp (j:Nat)(bb bo bn:Bool):Prop:=(j=0/\bb=false)\/(j=1/\bb=true/\bo=false)\/(j=2/\bb=true/\bo=true/\bn=false)
def zBj (H:Hp)(j way:Nat)(v u y:V):Prop:=∃(e g:bW),yF H e u/\yF H g y/\sml e=true/\sml g=true/\
 ((way<2/\∃(l:ai) (xs:List V) (ds:List bW),v=.ref l/\H l=some (.lst xs)/\Thgs H ds xs/\smls ds=true/\zJp j (ds.all vA) (uX e) (v2 g))\/
  (2<=way/\∃d:bW,yF H d v/\sml d=true/\zJp j (vA d) (uX e) (v2 g)/\(way=4->j≠1)))
theorem told_refu {K:ae}{B:List ai}{H:Hp}{j m:Nat}{v u y z:V}{Q:VK}{E:XK}(J:m<5)(h:zBj H j m v u y)(L:∀p H',zA H H'->zEu H' p j->Q (.ref p) H'):zFe K B [.int m,v,u,y,z] H Q E:=by
 obtain⟨e,g,x,r,A,s,h⟩:=h
 have fin:∀t,t<8->j=t->∀i,zA H i->∀H',zA i H'->zAW B Q (.ref (B.getD t 0)) none H':=fun t C M i c H' s'=>⟨t,C,rfl,fun p D F rt=>L p D (c.trans (s'.trans F)) (M▸rt)⟩
 refine⟨m,v,u,y,z,rfl,J,fun R i c=>?_,fun T i c=>?_,fun U=>?_,fun W=>?_,fun N=>?_⟩
 ·rcases h with⟨_,l,xs,ds,rfl,hl,td,n,o⟩|⟨O,_⟩
  ·refine .inr ⟨l,xs,u,y,ds,e,g,rfl,c _ _ hl,Thgs.same c _ _ td,yF.same c _ _ x,yF.same c _ _ r,n,A,s,?_⟩
   rcases o with⟨a,b⟩|⟨a,b,f⟩|⟨a,b,f,q⟩
   ·exact .inl ⟨b,fin 0 (by decide) a i c⟩
   ·exact .inr (.inl ⟨b,f,fin 1 (by decide) a i c⟩)
   ·exact .inr (.inr ⟨b,f,q,fin 2 (by decide) a i c⟩)
  ·omega
 ·rcases h with⟨_,l,xs,ds,rfl,hl,td,n,o⟩|⟨O,_⟩
  ·refine .inr ⟨l,xs,u,y,ds,e,g,rfl,c _ _ hl,Thgs.same c _ _ td,yF.same c _ _ x,yF.same c _ _ r,n,A,s,?_⟩
   rcases o with⟨a,b⟩|⟨a,b,f⟩|⟨a,b,f,q⟩
   ·exact .inl ⟨b,fin 0 (by decide) a i c⟩
   ·exact .inr (.inl ⟨b,f,fin 1 (by decide) a i c⟩)
   ·exact .inr (.inr ⟨b,f,q,fin 2 (by decide) a i c⟩)
  ·omega
 ·rcases h with⟨I,_⟩|⟨_,d,td,n,o,_⟩
  ·omega
  ·refine .inr ⟨v,u,y,d,e,g,rfl,td,x,r,n,A,s,?_⟩
   rcases o with⟨a,b⟩|⟨a,b,f⟩|⟨a,b,f,q⟩
   ·exact .inl ⟨b,fin 0 (by decide) a H (zA.refl _)⟩
   ·exact .inr (.inl ⟨b,f,fin 1 (by decide) a H (zA.refl _)⟩)
   ·exact .inr (.inr ⟨b,f,q,fin 2 (by decide) a H (zA.refl _)⟩)
 ·rcases h with⟨I,_⟩|⟨_,d,td,n,o,_⟩
  ·omega
  ·refine .inr ⟨v,u,y,z,d,e,g,rfl,td,x,r,n,A,s,?_⟩
   rcases o with⟨a,b⟩|⟨a,b,f⟩|⟨a,b,f,q⟩
   ·exact .inl ⟨b,fin 0 (by decide) a H (zA.refl _)⟩
   ·exact .inr (.inl ⟨b,f,fin 1 (by decide) a H (zA.refl _)⟩)
   ·exact .inr (.inr ⟨b,f,q,fin 2 (by decide) a H (zA.refl _)⟩)
 ·rcases h with⟨I,_⟩|⟨_,d,td,n,o,G⟩
  ·omega
  ·refine .inr ⟨v,y,d,g,rfl,td,r,n,s,?_⟩
   rcases o with⟨a,b⟩|⟨a,b,f⟩|⟨a,b,f,q⟩
   ·exact .inl ⟨b,fin 0 (by decide) a H (zA.refl _)⟩
   ·exact absurd a (G N)
   ·exact .inr ⟨b,q,fin 2 (by decide) a H (zA.refl _)⟩
theorem zJq {H:Hp}{p:ai}{bk:List S}(h:H p=some (.tup (zR bk))):yF H (.tuple (qT bk)) (.ref p):=⟨p,_,rfl,h,Thgs.strs bk⟩
theorem zFi {bk:List S}(h:isBk bk):vA (.tuple (qT bk))=true:=zOg h
theorem zJr {H:Hp}:∀{bks:List (ai×List S)},(∀p∈bks,H p.1=some (.tup (zR p.2)))->Thgs H (bks.map fun p=>.tuple (qT p.2)) (bks.map fun p=>V.ref p.1)
 | [],_=>rfl
 |p::r,h=>⟨_,_,rfl,zJq (h p (ar ..)),zJr fun q a=>h q (aG _ a)⟩
theorem zJs:∀{bks:List (ai×List S)},(∀p∈bks,isBk p.2)->smls (bks.map fun p=>.tuple (qT p.2))=true/\(bks.map fun p=>PyData.tuple (qT p.2)).all vA=true
 | [],_=>⟨rfl,rfl⟩
 |p::r,h=>by
  obtain⟨b,c⟩:=zJs (bks:=r) fun q d=>h q (aG _ d)
  have a:=h p (ar ..)
  rw[ba]
  simp only[smls,(zDA a).1,b,kz,zFi a,c,dZ,and_self]
theorem zRP (l:List Nat):(yR l).depth<=10:=by
 unfold yR
 have go:∀ns:List Int,dq (ns.map PyData.int)<=1:=by
  intro ns
  induction ns with
  |nil=>decide
  |cons n ns ih=>rw[ba];simp only[dq,d5];omega
 have g:=go (l.map fun(i:Nat)=>(i:Int))
 simp only[d5]
 omega
theorem zDC (r:Option Nat):(uN r).canLay0=true/\(uN r).depth<=10:=by
 cases r with
 |none=>exact⟨rfl,by decide⟩
 |some i=>exact⟨rfl,by show(PyData.int (i:Int)).depth<=10;simp only[d5];decide⟩
theorem zJt {α:Type} [BEq α] [LawfulBEq α]:∀(l L:List α),l.Nodup->(∀x∈l,x∈L)->l.length<=L.length
 | [],L,_,_=>bX _
 |x::l,L,b,c=>by
  have d:=c x (ar ..)
  have f:=zJt l (L.erase x) (cx.mp b).2 fun y e=>by
   have a:y≠x:=fun z=>(cx.mp b).1 (by rw[<-z];exact e)
   exact(mK a).mpr (c y (aG _ e))
  rw[lq d]at f
  have:=l5 d
  rw[bJ];omega
abbrev jW (bk:List S)(nm:S)(l:List Nat):List Nat:=l.filter fun p=>jN bk p nm
theorem zRQ (bk:List S)(nm:S):(zI (jW bk nm [3,2,1])++[V.non])[0]?=some (qS (topF bk nm)):=by
 unfold topF jW zI
 cases a:jN bk 3 nm with
 |true=>simp[c9,a];rfl
 |false=>
  cases b:jN bk 2 nm with
  |true=>simp[c9,a,b];rfl
  |false=>
   cases c:jN bk 1 nm with
   |true=>simp[c9,a,b,c];rfl
   |false=>simp[c9,a,b,c];rfl
theorem zJu (r:Option Nat):cn (uN r)=true:=by
 unfold cn
 rw[(zDC r).1,decide_eq_true (by have:=(zDC r).2;omega)];rfl
def zBI (H:Hp)(n:Nat)(v:V):Prop:=(∃(a:ai) (l:List Nat),v=.ref a/\H a=some (.lst (zI l))/\l.length<=50)\/(zBi H v/\(v=.non\/zBH H n v))
theorem zBi.same {H H':Hp}{v:V}(h:zBi H v)(s:zA H H'):zBi H' v:=by
 rcases h with h|⟨a,xs,b,c⟩|⟨a,b,c⟩|⟨a,x,b,c,d⟩
 ·exact .inl h
 ·exact .inr (.inl ⟨a,xs,b,s _ _ c⟩)
 ·exact .inr (.inr (.inl ⟨a,b,s _ _ c⟩))
 ·exact .inr (.inr (.inr ⟨a,x,b,s _ _ c,d⟩))
theorem zBI.same {H H':Hp}{n:Nat}{v:V}(h:zBI H n v)(s:zA H H'):zBI H' n v:=by
 rcases h with⟨a,l,b,c,d⟩|⟨b,c⟩
 ·exact .inl ⟨a,l,b,s _ _ c,d⟩
 ·exact .inr ⟨b.same s,c.imp id fun z=>z.same s⟩
theorem zDD {H:Hp}{n:Nat}{a:ai}{x:V}{d:bW}(h:H a=some (.lst [x]))(td:yF H d x)(hd:jK 0 ((n:Int)-1) d=false)(b:x=.bl true\/x=.int (-1)\/x=.str "0"\/x=.non):zBI H n (.ref a):=by
 refine .inr ⟨?_,.inr (.inr ⟨a,[x],[d],rfl,h,⟨_,_,rfl,td,rfl⟩,by show 1<=100;decide,by simp[hd]⟩)⟩
 rcases b with rfl|b
 ·exact .inr (.inr (.inl ⟨a,rfl,h⟩))
 ·exact .inr (.inr (.inr ⟨a,x,rfl,h,b⟩))
def zFj:List bW:=[.str "",.str "A",.none]
theorem zRR:∀d∈zFj,sml d=true/\v2 d=false:=by
 have all:zFj.all (fun d=>sml d&&!v2 d)=true:=by decide+kernel
 intro d hd
 have:=cw.mp all d hd
 simp only[bz,nX]at this
 exact this
structure LawC (P:aP) (w:bc) (K:ae) (mg:Str->Option ah) (base:bK) (cs:List ai):Prop where
 dr:zQ P w K mg base 2 "_law_drawn" ["_law_script","_law_k","_law_many"] (zET K)
 nm:zQ P w K mg base 3 "_law_name" ["_law_script","_law_at","_law_most"] (zEV K)
 bk:zQ P w K mg base 4 "_law_book" ["_law_script","_law_at","_law_many","_law_most"] (zHi K)
 md:zQ P w K mg base 3 "_law_made" ["_law_book_here","_law_order","_law_most"] zJT
 sh:zQ P w K mg base 3 "_law_share" ["_law_book_here","_law_order","_law_name_here"] (zIa K)
 be:zQ P w K mg base 1 "_law_best" ["_law_parts","_law_places"] (zJd K)
 gd:zQ P w K mg base 4 "_law_good" ["_law_book_here","_law_order","_law_name_here"] zJa
 sw:zQ P w K mg base 1 "_law_is_shown" ["_law_good_here","_law_row_here"] zJj
 td:zQ P w K mg base 9 "_law_told" ["_law_way","_law_book_here","_law_order","_law_name_here","_law_thing"] (zFe K cs)
 og:zQ P w K mg base 9 "_law_orders" [] zJn
abbrev kH:cJ:=top 69
theorem zJv:FnScope ["_law_script","_law_books","_law_book_here","_law_order","_law_name_here","_law_made_here","_law_parts","_law_places","_law_told_here","_law_good_here","_law_orders_here","_law_some","_law_rows","_law_row_here","_law_odd","_law_things","_law_none"] ["_law_script"] (defScope kH):=yC
theorem ndA:(["_law_script","_law_k"]:List Str).Nodup:=by decide+kernel
theorem ndB:(["_law_order","_law_name_here","_law_some"]:List Str).Nodup:=by decide+kernel
theorem ndC:(["_law_at","_law_part"]:List Str).Nodup:=by decide+kernel
theorem ndD:(["_law_books","_law_order","_law_name_here","_law_way"]:List Str).Nodup:=by decide+kernel
theorem ndE:(["_law_order","_law_odd","_law_things","_law_way"]:List Str).Nodup:=by decide+kernel
theorem ndF:(["_law_odd","_law_things","_law_way"]:List Str).Nodup:=by decide+kernel
theorem ndG:(["_law_odd","_law_none","_law_way"]:List Str).Nodup:=by decide+kernel
def zBk (K:ae):Sp:=fun vs H Q _=>∃(a:ai) (ns:List Int),vs=[.ref a]/\z9 K H a (ns.map V.int)/\ns.length<=63/\∀H',Q (.bl true) H'
theorem zRS {f:ai}{fd:aO}{cs:List ai}(F:Fun K "law" "law" kH f fd)(B:Blt mg)(hlist:mg "list"=none)(hen:mg "enumerate"=none)(C:LawC P w K mg base cs):FnOk P w K mg base zU 10 f fd ["_law_script"] (zBk K):=by
 refine F.ok zJv (fun vs H Q E h=>?_) (fun cdv A outer s H vs Q E hr h=>?_)
 ·obtain⟨a,ns,rfl,_⟩:=h;rfl
 ·obtain⟨a,ns,rfl,ha,hl,k⟩:=h
  have nd:=zJv.nd
  have hu:=hr.units
  have r4:=hr.mono (j:=4) (by decide)
  have r3:=hr.mono (j:=3) (by decide)
  have r2:=hr.mono (j:=2) (by decide)
  have r1:=hr.mono (j:=1) (by decide)
  refine⟨_,zG (zX (i :=1) nd rfl (Or.inr rfl) (zBs zDQ (vG (N := ["_law_script","_law_k"]) (caps := [0]) rfl (yT (by kernel_rfl)) (qF rfl B.range (zE zF zC)) (fun cl X s H ex=>zY (i :=1) ndA rfl (Or.inl rfl)) (fun cl X s H ex=>vK)
        (fun cl X s H ex=>zL C.bk r4 rfl (zE (pv 0) (zE (zP uO zF (pv 1)) (zE zF (zE zF zC)))))) qN (vX (zP vD zF (zL C.dr r2 rfl (zE (pv 0) (zE zF (zE zF zC))))))))
   (zG (zX (i:=2) nd rfl (Or.inl rfl) (yS jD (pv 1) zF (fun _ _=>rfl)))
   (zG (zX (i:=3) nd rfl (Or.inr rfl) (zP vD zF (zL C.dr r2 rfl (zE (pv 0) (zE zF (zE zF zC))))))
   (zG (zX (i:=4) nd rfl (Or.inr rfl) (zL C.nm r3 rfl (zE (pv 0) (zE zF (zE zF zC)))))
   (zG (yK (vF zDJ (zL C.dr r2 rfl (zE (pv 0) (zE zF (zE zF zC)))) zF (yY _))
     (zG (zX (i:=5) nd rfl (Or.inl rfl) (zL C.md r3 rfl (zE (pv 2) (zE (pv 3) (zE zF zC)))))
     (zH (zX (i:=4) nd rfl (Or.inr rfl) (yS jD (zP jR (pv 5) (yE (zE (yS uI (pv 2) zF (fun _ _=>rfl)) zC))) (zL C.dr r2 rfl (zE (pv 0) (zE zF (zE (zP vD (zZ jE (by rfl) B.len bQ (zE (pv 5) zC)) zF) zC)))) (fun _ _=>rfl))))) yJ)
   (zG (zBB (j:=6) (N:=["_law_order","_law_name_here","_law_some"]) (caps:=[3,4]) nd rfl (Or.inl rfl) rfl (yT (by kernel_rfl)) (vQ (pv 1)) (fun cl X s H ex=>zY (i:=2) ndB rfl (Or.inl rfl)) (fun cl X s H ex=>vK)
     (fun cl X s H ex=>zL C.sh r3 rfl (zE (pv 2) (zE (pv 0) (zE (pv 1) zC)))))
   (zG (zBB (j:=7) (N:=["_law_at","_law_part"]) (caps:=[]) nd rfl (Or.inl rfl) rfl (yT (by kernel_rfl)) (zDo rfl hen (zE (pv 6) zC))
     (fun cl X s H ex=>zAx K 2 rfl rfl (u6 (zY (i:=0) ndC rfl (Or.inl rfl)) (u6 (zY (i:=1) ndC rfl (Or.inl rfl)) gJ)) rfl rfl)
     (fun cl X s H ex=>kW (vF zAC (yS (zFb K rfl) (pv 1) zF (fun _ _=>rfl)) zF (yY _))) (fun cl X s H ex=>pv 0))
   (zG (zBB (j:=8) (N:=["_law_books","_law_order","_law_name_here","_law_way"]) (caps:=[1,3,4]) nd rfl (Or.inl rfl) rfl (yT (by kernel_rfl)) (qF rfl B.range (zE zF zC)) (fun cl X s H ex=>zY (i:=3) ndD rfl (Or.inl rfl)) (fun cl X s H ex=>vK)
     (fun cl X s H ex=>zL C.td hr rfl (zE (pv 3) (zE (pv 0) (zE (pv 1) (zE (pv 2) (zE uS zC)))))))
   (zG (yK (PW.pt (jO (vF (kX hu) (pv 8) (yE (zE (pv 7) (zE (zL C.be r1 rfl (zE (pv 6) (zE (pv 7) zC))) zC))) (yY _)) (jX (vP (vC (zRK C.og hr rfl)))))) (zH (zT v9)) yJ)
   (zG (zX (i:=9) nd rfl (Or.inl rfl) (zL C.gd r4 rfl (zE (pv 2) (zE (pv 3) (zE (pv 4) zC)))))
   (zG (yK (vF (kX hu) (zL C.td hr rfl (zE zF (zE (pv 2) (zE (pv 3) (zE (pv 4) (zE uS zC)))))) (yS jD (zP jR (pv 9) (yE (zE uS zC))) zF (fun _ _=>rfl)) (yY _)) (zH (zT v9)) yJ)
   (zG (zX (i:=10) nd rfl (Or.inl rfl) (yE zC))
   (zG (uA bI rfl (zAd (uL (zE zF (zE zF (zE zF zC))))) (zY (i:=11) nd rfl (Or.inl rfl))
    (zH (yK (vF zAC (yS uI (zL C.sh r3 rfl (zE (pv 2) (zE (pv 11) (zE (pv 4) zC)))) zF (fun _ _=>rfl)) zF (yY _))
     (zH (yP (zAE eD lx ly zGR (pv 10) (zE (pv 11) zC)))) yJ)))
   (zG (yK (vF (kX hu) (zL C.td hr rfl (zE zF (zE (pv 2) (zE (pv 3) (zE (pv 4) (zE uS zC)))))) (yS jD (zP jR (pv 10) (yE (zE uS zC))) zF (fun _ _=>rfl)) (yY _)) (zH (zT v9)) yJ)
   (@zRM _ 12 _ _ _ _ _ _ _ _ _ _ _ nd rfl (Or.inl rfl) (Or.inr rfl) (pv 9) (@zE _ _ _ _ _ (yE (zE zF zC)) (@zE _ _ _ _ _ (yE zC) (@zE _ _ _ _ _ (yE (zE zF (zE zF zC))) (@zE _ _ _ _ _ (yE (zE (zZ jE (by rfl) B.len bQ (zE (pv 2) zC)) zC)) (@zE _ _ _ _ _ (yE (zE (zAe zAh zF) zC)) (@zE _ _ _ _ _ (yE (zE v9 zC)) (@zE _ _ _ _ _ uS (@zE _ _ _ _ _ (uL (zE zF zC)) (@zE _ _ _ _ _ (yE (zE zF (zE zF zC))) (@zE _ _ _ _ _ (yE (zE zF (zE zF zC))) (@zE _ _ _ _ _ (yE (zE y9 zC)) (@zE _ _ _ _ _ (yE (zE uS zC)) zC rfl) rfl) rfl) rfl) rfl) rfl) rfl) rfl) rfl) rfl) rfl) rfl)
   (zG (uA bI rfl (vQ (pv 12)) (zY (i:=13) nd rfl (Or.inl rfl))
    (zH (yK (vF zAB (zL C.td hr rfl (zE zF (zE (pv 2) (zE (pv 3) (zE (pv 4) (zE (pv 13) zC)))))) (zL C.sw r1 rfl (zE (pv 9) (zE (pv 13) zC))) (yY _)) (zH (zT v9)) yJ)))
   (zG (zX (i:=14) nd rfl (Or.inr rfl) (yS jD (yE (zE y9 (zE y9 (zE uS zC)))) (zL C.dr r2 rfl (zE (pv 0) (zE zF (zE zF zC)))) (fun _ _=>rfl)))
   (zG (zX (i:=15) nd rfl (Or.inr rfl) (yE (zE (pv 1) (zE (pv 1) (zE (pv 2) (zE (pv 2) (zE (pv 2) zC)))))))
   (zG (yK (vF (kX hu) (vG (N := ["_law_order","_law_odd","_law_things","_law_way"]) (caps := [3,14,15]) rfl (yT (by kernel_rfl)) (qF rfl B.range (zE zF zC)) (fun cl X s H ex=>zY (i :=3) ndE rfl (Or.inl rfl)) (fun cl X s H ex=>vK)
         (fun cl X s H ex=>zL C.td hr rfl (zE (pv 3) (zE (yS (zCY K rfl) (pv 2) (pv 3) (fun _ _=>rfl)) (zE (pv 0) (zE (pv 1) (zE uS zC))))))) (zP zDT (yE (zE (uL (zE y9 (zE zF zC))) zC)) zF) (yY _)) (zH (zT v9)) yJ)
   (zG (zBB (j:=8) (N:=["_law_odd","_law_things","_law_way"]) (caps:=[14,15]) nd rfl (Or.inl rfl) rfl (yT (by kernel_rfl)) (qF rfl B.range (zE zF zC)) (fun cl X s H ex=>zY (i:=2) ndF rfl (Or.inl rfl)) (fun cl X s H ex=>vK)
     (fun cl X s H ex=>zL C.td hr rfl (zE (pv 2) (zE (yS (zCY K rfl) (pv 1) (pv 2) (fun _ _=>rfl)) (zE zF (zE (pv 0) (zE uS zC)))))))
   (zG (yK (vF (kX hu) (pv 8) (zP zDT (yE (zE (uL (zE y9 (zE zF zC))) zC)) zF) (yY _)) (zH (zT v9)) yJ)
   (zG (zX (i:=16) nd rfl (Or.inr rfl) (yE (zE (yE (zE (zGI zGO (by rfl) hlist du (zE (pv 2) zC)) zC)) (zE (yE (zE (uL zC) zC)) (zE (uL zC) (zE (zGI zGO (by rfl) hlist du (zE (pv 2) zC)) (zE uS zC)))))))
   (zH (zT (kQ (zBy hu) (vG (N := ["_law_odd","_law_none","_law_way"]) (caps := [14,16]) rfl (yT (by kernel_rfl)) (qF rfl B.range (zE zF zC)) (fun cl X s H ex=>zY (i :=2) ndG rfl (Or.inl rfl)) (fun cl X s H ex=>vK)
         (fun cl X s H ex=>zL C.td hr rfl (zE (pv 2) (zE (yS (zCY K rfl) (pv 1) (pv 2) (fun _ _=>rfl)) (zE zF (zE (pv 0) (zE uS zC))))))) (zP zDT (yE (zE (uL (zE y9 (zE zF zC))) zC)) zF) (yY _)))))))))))))))))))))))))
   ,?_⟩
  have sz:∀n,n<=1000->n<=sizeLine:=fun n h=>by rw[aR];omega
  refine⟨3,rfl,by decide,by decide,?_⟩
  refine vT (qA 0 _) [some (.ref a)] 1 (by decide) (fun i acc H''=>zA H H''/\∃bks:List (ai×List S),acc=bks.map (fun p=>V.ref p.1)/\bks.length=i/\∀p∈bks,H'' p.1=some (.tup (zR p.2))/\GB p.2) ⟨zA.refl _,[],rfl,rfl,fun p hp=>by cases hp⟩
   (fun i acc H'' _ h=>⟨trivial,by obtain⟨_,bks,rfl,hl,_⟩:=h;rw[af,hl];exact aH _⟩) ?_ ?_
  ·rintro i z acc H'' ys Nx' hN' hz hys ⟨smc,bks,rfl,hbl,hbk⟩
   obtain⟨y1,rfl⟩:=y0 hys
   obtain⟨hi,rfl⟩:=qH (n:=3) hz
   refine⟨_,rfl,_,rfl,_,_,rfl,rfl,.inl ⟨by decide,by decide⟩,a,ns,45*i,3,4,rfl,smc.seq ha,hl,by decide,by decide,by decide,by decide,fun b bk H3 s3 hb bl1 bl2 bn=>?_⟩
   refine hN' _ _ [some (.int (i:Int))] rfl ⟨smc.trans s3,bks++[(b,bk)],by rw[az];rfl,by rw[aq,hbl];rfl,fun p hp=>?_⟩
   rcases bP.mp hp with q|q
   ·exact⟨s3 _ _ (hbk p q).1,(hbk p q).2⟩
   ·have:p=(b,bk):=by simpa using q
    subst this
    exact⟨hb,bl1,bl2,fun x hx=>(bn x hx).1,fun x hx=>(bn x hx).2.1,fun x hx=>(bn x hx).2.2⟩
  rintro acc H1 ⟨s1,bks,rfl,hbl,hbk⟩ D hD
  have hb3:bks.length=3:=by simpa using hbl
  have u1:=zA.upd1 (o:=.lst (bks.map fun p=>V.ref p.1)) hD
  refine⟨_,rfl,a,ns,140,3,rfl,(s1.trans u1).seq ha,hl,by decide,by decide,fun n0 H2 hn0 s2=>⟨_,_,rfl,rfl,_,rfl,?_⟩⟩
  refine⟨D,_,rfl,.of (s2 _ _ zD),fun pb hpb=>?_⟩
  have ecut:qO (bks.map fun p=>V.ref p.1) none (some (1+(n0:Int)))=(bks.take (1+n0)).map fun p=>V.ref p.1:=by
   have e:(1:Int)+(n0:Int)=((1+n0:Nat):Int):=by omega
   rw[e,zRN,hV]
  rw[ecut]
  have u2:=zA.upd1 (o:=.lst ((bks.take (1+n0)).map fun p=>V.ref p.1)) hpb
  have sm2:=s1.trans (u1.trans (s2.trans u2))
  have hbs:BksAt (upd H2 pb (.lst ((bks.take (1+n0)).map fun p=>V.ref p.1))) pb (bks.take (1+n0)):=⟨zD,fun p hp=>u2 _ _ (s2 _ _ (u1 _ _ (hbk p (dk hp)).1))⟩
  have hgb:∀p∈bks.take (1+n0),GB p.2:=fun p hp=>(hbk p (dk hp)).2
  obtain⟨b0,bs,ebs⟩:∃b0 bs,bks.take (1+n0)=b0::bs:=by
   cases e:bks.take (1+n0)with
   |nil=>
    have:=congrArg ki e
    rw[aL,hb3,oN]at this
    omega
   |cons x r=>exact⟨x,r,rfl⟩
  have hbl3:(bks.take (1+n0)).length<=3:=by rw[aL];omega
  rw[ebs]at hbs hgb hbl3 sm2⊢
  generalize upd H2 pb (.lst ((b0::bs).map fun p=>V.ref p.1))=H3 at*
  obtain⟨b,bk⟩:=b0
  have gb0:GB bk:=hgb (b,bk) (ar ..)
  have hb0:H3 b=some (.tup (zR bk)):=hbs.at_ (b,bk) (ar ..)
  generalize hBK:(b,bk)::bs=BK at*
  refine⟨_,rfl,pb,_,0,.ref b,rfl,rfl,.of hbs.lst,by rw[<-hBK];exact uH (j:=0) rfl,?_⟩
  refine⟨_,rfl,a,ns,141,3,rfl,sm2.seq ha,hl,by decide,by decide,fun d2 H4 hd2 s4=>⟨_,_,rfl,rfl,?_⟩⟩
  obtain⟨o,eo⟩:∃o:Nat,1+(d2:Int)=(o:Int):=⟨1+d2,by omega⟩
  have ho1:1<=o:=by omega
  have ho3:o<=3:=by omega
  refine zOX (v':=.int (o:Int)) (by show V.int (1+(d2:Int))=_;rw[eo]) ?_
  have sm4:=sm2.trans s4
  refine⟨_,rfl,a,ns,150,4,rfl,sm4.seq ha,hl,by decide,by decide,fun nm0 H5 s5 hn0 hn04=>?_⟩
  have sm5:=sm4.trans s5
  have s35:=s4.trans s5
  refine gnR ?_
  dsimp only
  refine zIL (fun σ' H'=>∃(nm:S) (x5:Option V),σ'=[some (.ref a),some (.ref pb),some (.ref b),some (.int (o:Int)),some (sv nm),x5,none,none,none,none,none,none,none,none,none,none,none]/\zA H5 H'/\vW nm/\nm.length<=4) ?cont fun N hN'=>?main
  case main=>
   refine⟨_,rfl,a,ns,142,2,rfl,sm5.seq ha,hl,by decide,by decide,fun d3 H6 hd3 s6=>⟨rfl,_,rfl,?_⟩⟩
   by_cases c:d3=0
   ·subst c
    refine vY rfl ?_
    have hbO:=gb0.bk ho1 ho3
    have p15:=zBg (o:=o) gb0.l4
    have h15:=gb0.hi
    refine⟨_,rfl,_,rfl,b,bk,o,rfl,s6 _ _ (s35 _ _ hb0),hbO,gb0.abz,by omega,fun L pm H7 hL hLl s7 hpm0 hpm=>?_⟩
    have s57:=s6.trans s7
    have hb7:=s57 _ _ (s35 _ _ hb0)
    obtain⟨x0,bk',ebk0⟩:∃x r,bk=x::r:=by
     cases e:bk with
     |nil=>have:=gb0.lo;rw[e]at this;simp at this
     |cons x r=>exact⟨x,r,rfl⟩
    refine⟨_,rfl,_,rfl,b,zR bk,0,sv x0,rfl,rfl,.of hb7,by rw[ebk0];exact uH (j:=0) rfl,sz 1 (by decide),fun p1 hp1=>?_⟩
    have t1:=zA.upd1 (o:=.lst [sv x0]) hp1
    refine⟨pm,p1,_,_,rfl,rfl,t1 _ _ hpm,zD,by rw[af,aR];show _+1<=_;omega,fun p2 hp2=>?_⟩
    have t2:=zA.upd1 (o:=.lst (L.map sv++[sv x0])) hp2
    have t12:=t1.trans t2
    refine⟨_,rfl,_,rfl,pm,L.map sv,rfl,.inl (.of (t12 _ _ hpm)),_,_,rfl,rfl,a,ns,143,L.length+1,by rw[af];rfl,(sm5.trans (s57.trans t12)).seq ha,hl,by omega,by omega,fun d4 H8 hd4 s8=>?_⟩
    obtain⟨nm,enm,hnm,hn4⟩:∃nm,(L++[x0])[d4]?=some nm/\vW nm/\nm.length<=4:=by
     have hl8:d4<(L++[x0]).length:=by rw[aq];exact hd4
     refine⟨(L++[x0])[d4],ax hl8,?_⟩
     rcases bP.mp (cD hl8)with z|z
     ·obtain⟨z1,z2,z3⟩:=(hL.mem _).mp z
      refine⟨⟨z1,by omega,fun ch hch=>?_⟩,by omega⟩
      exact zRO hbO.toisBk z3 ch hch
     ·have:(L++[x0])[d4]=x0:=by simpa using z
      rw[this]
      exact⟨gb0.nm x0 (by rw[ebk0];exact ar ..),gb0.l4 x0 (by rw[ebk0];exact ar ..)⟩
    refine⟨p2,L.map sv++[sv x0],_,sv nm,rfl,rfl,.of (s8 _ _ zD),?_,hN' _ _ ⟨nm,_,rfl,s57.trans (t12.trans s8),hnm,hn4⟩⟩
    refine uH ?_
    have e:L.map sv++[sv x0]=(L++[x0]).map sv:=by rw[az];rfl
    rw[e,aF,enm];rfl
   ·refine v4 (by intro z;exact c (by have:=V.int.inj z;omega)) ?_
    exact hN' _ _ ⟨nm0,_,rfl,s6,hn0,hn04.1⟩
  case cont=>
   rintro σ' H' ⟨nm,x5,rfl,s7,hnm,hn4⟩
   have hbk7:=s7 _ _ (s35 _ _ hb0)
   have hbs7:=(hbs.same s35).same s7
   have sm7:=sm5.trans s7
   have fitB:∀p∈BK,Fit p.2 o nm:=fun p hp=>zBh ((hgb p hp).bk ho1 ho3) (hgb p hp).hi (hgb p hp).l4 hnm (by omega)
   have plB:∀p∈BK,(zJ o p.2).length<64:=fun p hp=>by
    have h1:=zBg (o:=o) (hgb p hp).l4
    have h2:=(hgb p hp).hi
    omega
   obtain⟨qs,eqs⟩:∃qs,qs=BK.map fun p=>uB (zJ o p.2) o nm:=⟨_,rfl⟩
   have hql:qs.length=BK.length:=by rw[eqs,af]
   have hqb:∀q∈qs,0<=q.1/\q.1<1152921504606846976/\0<q.2/\q.2<1152921504606846976:=fun q hq=>by
    rw[eqs]at hq
    obtain⟨p,hp,rfl⟩:=aX.mp hq
    have sm:=zEK (o:=o) (zAz (fitB p hp).toBk).1 (fitB p hp).pw
    have h1:=sm.u1
    have h2:=sm.d1
    have h3:=sm.up
    have h4:=sm.dn
    exact⟨h3,by omega,h4,by omega⟩
   refine⟨_,rfl,pb,rfl,⟨_,.of hbs7.lst⟩,?_⟩
   have hlm:(BK.map fun p=>V.ref p.1).length=BK.length:=af ..
   refine vT (vH K pb (BK.map fun p=>V.ref p.1)) [some (.int (o:Int)),some (sv nm)] 1 (by rw[hlm];omega) (fun i acc H''=>zA H' H''/\acc.length=i/\FrsAt K H'' acc ((BK.take i).map fun p=>uB (zJ o p.2) o nm))
    ⟨zA.refl _,rfl,FrsAt.nil⟩ (fun i acc H'' _ h=>⟨.of (h.1 _ _ hbs7.lst),dh h.2.1⟩) ?_ ?_
   ·rintro i y acc H'' ys Nx hN hx hy ⟨sm,hal,fr⟩
    obtain⟨y',rfl⟩:=y0 hy
    obtain⟨p,ep,rfl⟩:=zCr hx
    have hp:=aS ep
    have hj:i<BK.length:=(aa.mp ep).1
    refine⟨_,rfl,_,rfl,_,rfl,p.1,p.2,o,nm,rfl,sm _ _ (hbs7.at_ p hp),fitB p hp,plB p hp,fun v H5 s5 fv=>hN _ _ [some (.ref p.1)] rfl ⟨sm.trans s5,by rw[aq,hal];rfl,?_⟩⟩
    rw[ak hj,(aa.mp ep).2,az]
    exact(fr.same s5).snoc fv
   rintro pv H8 ⟨s8,hpl,fr8⟩ DP hDP
   rw[hlm,aV,<-eqs]at fr8
   have u8:=zA.upd1 (o:=.lst pv) hDP
   have s78:=s8.trans u8
   have hDPv:(upd H8 DP (.lst pv)) DP=some (.lst pv):=zD
   have fr9:=fr8.same u8
   generalize upd H8 DP (.lst pv)=H9 at*
   have hpvl:pv.length=qs.length:=fr9.len
   obtain⟨pls,epls⟩:∃pls,pls=(bg qs.length).filter fun i=>decide (0<(qs.getD i (0,1)).1):=⟨_,rfl⟩
   refine⟨_,rfl,DP,_,rfl,hDPv,?_⟩
   refine zCa (J:=Ite K DP) (xs:=zI (bg qs.length)) (ys:=pv) (len:=qs.length) (Hk:=fun H'=>z9 K H' DP pv)
    (fun i H' hk hi=>⟨_,pv[i]'(by omega),hk,ax _⟩) (fun i H' hk e=>⟨_,hk,by omega⟩)
    (fun i H' x H'' hk ⟨T,y,e1,e2,e3,e4⟩=>⟨T,.int i,y,e1,e2,e3,by
     have hi:i<qs.length:=by
      have:=(aa.mp (e4 _ hk)).1
      omega
     unfold zI;rw[aF,cy hi];rfl,e4 _ hk⟩)
    [] 2 (by omega) (fun i acc H'=>zA H9 H'/\acc=zI ((bg i).filter fun i=>decide (0<(qs.getD i (0,1)).1)))
    ⟨zA.refl _,rfl⟩ (fun i acc H' _ h=>⟨.of (h.1 _ _ hDPv),by rw[h.2,vL];exact b8 (bC ..) (by rw[bh];exact aH _)⟩) ?_ ?_
   ·rintro i x y T acc H' zs Nx hN hx hy hz ⟨sm,rfl⟩ hT
    obtain⟨z1,z2,rfl⟩:=ys2 hz
    have hi:i<qs.length:=by
     have:=(aa.mp hy).1
     omega
    have hx2:x=.int i:=by
     unfold zI at hx
     rw[aF,cy hi]at hx
     exact(aw hx).symm
    subst hx2
    have fq:=fr9.at_ i y _ hy (ax hi)
    have t1:zA H' (upd H' T (.tup [.int (i:Int),y])):=zA.upd1 hT
    have sm1:=sm.trans t1
    obtain⟨ay,rfl,hay⟩:=fq.same sm1
    have gi:qs.getD i (0,1)=qs[i]:=by simp[hi]
    have ers:(bg (i+1)).filter (fun i=>decide (0<(qs.getD i (0,1)).1))=(bg i).filter (fun i=>decide (0<(qs.getD i (0,1)).1))++if 0<(qs[i]).1 then [i]else []:=by
     rw[cU,bN]
     congr 1
     by_cases c:0<(qs[i]).1
     ·rw[if_pos c,dJ (by rw[gi];simpa using c)];rfl
     ·rw[if_neg c,dI (by rw[gi];simpa using c)];rfl
    refine⟨T,_,rfl,.of zD,rfl,_,_,rfl,_,_,rfl,rfl,?_⟩
    refine⟨_,rfl,ay,_,0,.int (qs[i]).1,rfl,rfl,hay,rfl,_,_,rfl,rfl,_,rfl,?_⟩
    by_cases c:0<(qs[i]).1
    ·refine vY c ⟨_,rfl,hN _ _ [_,_] rfl ⟨sm1,?_⟩⟩
     rw[ers,if_pos c];unfold zI;rw[az];rfl
    ·refine v4 c (hN _ _ [_,_] rfl ⟨sm1,?_⟩)
     rw[ers,if_neg c,fG]
   rintro acc H10 ⟨s10,rfl⟩ DQ hDQ
   rw[<-epls]
   have u10:=zA.upd1 (o:=.lst (zI pls)) hDQ
   have s9A:=s10.trans u10
   have hDQv:(upd H10 DQ (.lst (zI pls))) DQ=some (.lst (zI pls)):=zD
   have hDP10:=s9A _ _ hDPv
   have fr10:=fr9.same s9A
   generalize upd H10 DQ (.lst (zI pls))=H11 at*
   have hbs11:=hbs7.same (s78.trans s9A)
   have sm11:=sm7.trans (s78.trans s9A)
   have emk:g0 (BK.map (·.2)) o nm BK.length=pls:=by
    rw[epls,hql]
    unfold g0
    apply List.filter_congr
    intro i hi
    have hi':=bR.mp hi
    rw[aF,ax hi']
    have gi:qs.getD i (0,1)=uB (zJ o (BK[i]).2) o nm:=by rw[eqs];simp[hi']
    rw[gi];rfl
   have ebest:zCq (BK.map fun p=>uB (zJ o p.2) o nm)=uC qs pls:=by
    rw[<-eqs,epls]
    exact(zQm fun q hq=>⟨(hqb q hq).1,(hqb q hq).2.2.1⟩).symm
   refine⟨2,rfl,by decide,by decide,?_⟩
   refine vT (qA 0 _) [some (.ref pb),some (.int (o:Int)),some (sv nm)] 1 (by decide) (fun i acc H''=>zA H11 H''/\acc.length=i/\Reps K H'' ([yR pls,uN (uC qs pls)].take i) acc) ⟨zA.refl _,rfl,rfl⟩ (fun i acc H'' _ h=>⟨trivial,dh h.2.1⟩) ?_ ?_
   ·rintro i z acc H'' ys Nx' hNx hz hys ⟨smc,hal,rp⟩
    obtain⟨y1,rfl⟩:=y0 hys
    obtain⟨hi,rfl⟩:=qH (n:=2) hz
    refine⟨_,rfl,_,rfl,_,rfl,_,rfl,i,.ref pb,.int o,sv nm,.non,rfl,by omega,fun h0 H2 s2=>.inl ⟨pb,BK,o,nm,rfl,(hbs11.same smc).same s2,by omega,ho1,ho3,hnm,fitB,fun av H3 s3 hav=>?_⟩,fun h1 H2 s2=>.inl ⟨pb,BK,o,nm,rfl,(hbs11.same smc).same s2,by omega,ho1,ho3,hnm,fitB,fun H3 s3=>?_⟩,(fun z=>by omega),(fun z=>by omega),fun z=>by omega⟩
    ·subst h0
     refine hNx _ _ [some (.int 0)] rfl ⟨smc.trans (s2.trans s3),by rw[aq,hal];rfl,?_⟩
     have ea:acc=[]:=cX.mp hal
     subst ea
     rw[emk]at hav
     exact⟨_,_,rfl,jL hav,rfl⟩
    ·subst h1
     refine hNx _ _ [some (.int 1)] rfl ⟨smc.trans (s2.trans s3),by rw[aq,hal];rfl,?_⟩
     rw[ebest]
     exact Reps.append (ds:=[yR pls]) (Reps.same (s2.trans s3) _ _ rp) (Reps.one (zDB _))
   rintro acc H12 ⟨s12,_,rp12⟩ DT hDT
   have u12:=zA.upd1 (o:=.lst acc) hDT
   have s11C:=s12.trans u12
   have rpT:yD K (upd H12 DT (.lst acc)) (.list [yR pls,uN (uC qs pls)]) (.ref DT):=qC zD (Reps.same u12 _ _ rp12)
   generalize upd H12 DT (.lst acc)=H13 at*
   have hDP13:=s11C _ _ hDP10
   have fr13:=fr10.same s11C
   have hDQ13:=s11C _ _ hDQv
   refine⟨_,rfl,_,rfl,_,rfl,_,rfl,DP,DQ,pv,qs,pls,rfl,hDP13,fr13,hDQ13,fun p hp=>?_,?_,hqb,fun H14 s14=>⟨sz 2 (by decide),fun pl2 hpl2=>?_⟩⟩
   ·rw[epls]at hp
    exact bR.mp (bF.mp hp).1
   ·rw[epls]
    exact b8 (bC ..) (by rw[bh];omega)
   have u14:=zA.upd1 (o:=.lst [.ref DQ,qS (uC qs pls)]) hpl2
   have s13E:=s14.trans u14
   have layT:cn (.list [yR pls,uN (uC qs pls)])=true/\(PyData.list [yR pls,uN (uC qs pls)]).canLay0=true:=by
    refine zEY fun d hd=>?_
    simp only[aQ,oE,or_false]at hd
    rcases hd with rfl|rfl
    ·exact⟨(zAV _).2,zRP _⟩
    ·exact zDC _
   refine⟨.list [yR pls,uN (uC qs pls)],.list [yR pls,uN (uC qs pls)],yD.same s13E _ _ rpT,qC zD ⟨_,_,rfl,jL (s13E _ _ hDQ13),_,_,rfl,zDB _,rfl⟩,layT.1,layT.1,_,rfl,zBX layT.2 ?_⟩
   refine⟨rfl,fun H15 s15=>⟨_,rfl,zBZ rfl ?_⟩⟩
   have s5F:=s7.trans (s78.trans (s9A.trans (s11C.trans (s13E.trans s15))))
   have hb15:=s5F _ _ (s35 _ _ hb0)
   have hbs15:=(hbs.same s35).same s5F
   have sm15:=sm5.trans s5F
   clear s13E u14 hpl2 s14 rpT hDQ13 fr13 hDP13 s11C u12 rp12 s12 fr10 hDP10 hDQv s9A u10 s10 fr9 hDPv s78 u8 fr8 s8 hbs11 sm11
   refine⟨_,rfl,_,rfl,_,rfl,b,bk,o,nm,rfl,hb15,gb0.bk ho1 ho3,gb0.hi,gb0.l4,hnm,hn4,fun lg gy H16 s16 hlg hlgv lsg=>?_⟩
   have hb16:=s16 _ _ hb15
   have hgl:gy.length=(q8 bk o nm).length:=lsg.len
   have hg16:(q8 bk o nm).length<=100:=by
    unfold q8
    refine b8 (bC ..) ?_
    have h1:(qJ bk.length).length<=16:=by
     have hsub:∀l∈qJ bk.length,l∈vB bk.length:=fun l hl=>(zCp.mp hl).1
     have nd1:(qJ bk.length).Nodup:=(zJE bk.length).imp fun{a b} h z=>by subst z;exact zJF h h
     have h2:=zJt (qJ bk.length) (vB bk.length) nd1 hsub
     have h3:=zCx bk.length
     have h4:(2:Nat)^bk.length<=2^3:=cq (by decide) gb0.hi
     have h5:(2:Nat)^3=8:=by decide
     omega
    omega
   refine⟨_,rfl,_,rfl,_,rfl,2,.ref b,.int o,sv nm,.non,rfl,by decide,(fun z=>by cases z),(fun z=>by cases z),fun _=>.inl ⟨b,bk,o,nm,rfl,hb16,gb0.bk ho1 ho3,hnm,by have:=gb0.hi;omega,fun v H17 s17 tn=>?_⟩,(fun z=>by cases z),fun z=>by cases z⟩
   refine⟨_,rfl,sz 1 (by decide),fun p1 hp1=>?_⟩
   have t1:=zA.upd1 (o:=.lst [.non]) hp1
   refine⟨lg,p1,gy,[.non],rfl,rfl,t1 _ _ (s17 _ _ hlgv),zD,by rw[aR];show _+1<=_;omega,fun p2 hp2=>?_⟩
   have t2:=zA.upd1 (o:=.lst (gy++[.non])) hp2
   have s16I:=s17.trans (t1.trans t2)
   have lsg2:=lsg.same s16I
   have hn:zBb (vI bk o nm) bk.length=(q8 bk o nm).head?:=zJo _ _
   obtain⟨dd,v0,hv0,r1,r2,sd,cd⟩:∃(dd:bW) (v0:V),(gy++[V.non])[0]?=some v0/\yD K (upd (upd H17 p1 (.lst [.non])) p2 (.lst (gy++[.non]))) dd v/\yD K (upd (upd H17 p1 (.lst [.non])) p2 (.lst (gy++[.non]))) dd v0/\cn dd=true/\dd.canLay0=true:=by
    rw[hn]at tn
    cases eg:q8 bk o nm with
    |nil=>
     rw[eg]at tn
     have ev:v=.non:=tn
     subst ev
     have eg2:gy=[]:=cX.mp (by rw[hgl,eg];rfl)
     subst eg2
     exact⟨.none,.non,rfl,rfl,rfl,rfl,rfl⟩
    |cons l0 ls=>
     rw[eg]at tn
     obtain⟨av,rfl,hav⟩:=(show∃a,v=.ref a/\H17 a=some (.lst (zI l0))from tn)
     have hl0:0<gy.length:=by rw[hgl,eg];exact rj _
     obtain⟨a0,l0',e1,e2,e3⟩:=lsg2.get (i:=0) (ax hl0)
     rw[eg]at e1
     cases e1
     refine⟨yR l0,.ref a0,?_,jL ((t1.trans t2) _ _ hav),jL e3,(zAV _).1,(zAV _).2⟩
     rw[bA hl0,ax hl0,e2]
   refine⟨p2,gy++[.non],0,v0,rfl,rfl,.of zD,uH (j:=0) hv0,dd,dd,r1,r2,sd,sd,_,rfl,zBX cd ?_⟩
   have hb18:=s16I _ _ hb16
   have hlg18:=s16I _ _ hlgv
   have hbs18:=(hbs15.same s16).same s16I
   have sm18:=sm15.trans (s16.trans s16I)
   generalize upd (upd H17 p1 (.lst [.non])) p2 (.lst (gy++[.non]))=H18 at*
   have hol:∀l,(jW bk nm l).length<=l.length:=fun l=>bC ..
   refine⟨sz 0 (by decide),fun q0 hq0=>?_⟩
   have v0':=zA.upd1 (o:=.lst []) hq0
   refine⟨sz 3 (by decide),fun pt hpt=>?_⟩
   have v1:=zA.upd1 (o:=.tup [.int 3,.int 2,.int 1]) hpt
   refine⟨pt,rfl,⟨_,.of zD⟩,?_⟩
   have hptv:(upd (upd H18 q0 (.lst [])) pt (.tup [.int 3,.int 2,.int 1])) pt=some (.tup [.int 3,.int 2,.int 1]):=zD
   have hq0v:(upd (upd H18 q0 (.lst [])) pt (.tup [.int 3,.int 2,.int 1])) q0=some (.lst []):=v1 _ _ zD
   have ptn:H18 pt=none:=v0'.free hpt
   have v01:=v0'.trans v1
   generalize upd (upd H18 q0 (.lst [])) pt (.tup [.int 3,.int 2,.int 1])=H19 at*
   refine uG (zAp K pt [.int 3,.int 2,.int 1]) (fun i σ H'=>(∃x11:Option V,σ=[some (.ref a),some (.ref pb),some (.ref b),some (.int (o:Int)),some (sv nm),x5,some (.ref DP),some (.ref DQ),some (.ref DT),some (.ref lg),some (.ref q0),x11,none,none,none,none,none])/\zA H18 H'/\H' pt=some (.tup [.int 3,.int 2,.int 1])/\H' q0=some (.lst (zI (jW bk nm ([3,2,1].take i)))))
    ⟨⟨_,rfl⟩,v01,hptv,hq0v⟩ (fun i σ H' _ h=>.of h.2.2.1) ?_ ?_
   ·rintro i x σ H' Nx hN hx ⟨⟨x11,rfl⟩,sm,hpt',hq'⟩
    obtain⟨n,hn1,hn3,rfl,etk⟩:∃n:Nat,1<=n/\n<=3/\x=.int (n:Int)/\([3,2,1]:List Nat).take (i+1)=([3,2,1]:List Nat).take i++[n]:=by
     match i,hx with
     |0,hx=>exact⟨3,by decide,by decide,(aw hx).symm,rfl⟩
     |1,hx=>exact⟨2,by decide,by decide,(aw hx).symm,rfl⟩
     |2,hx=>exact⟨1,by decide,by decide,(aw hx).symm,rfl⟩
     |n+3,hx=>simp at hx
    have hbO:=gb0.bk hn1 hn3
    have p15:=zBg (o:=n) gb0.l4
    have h15:=gb0.hi
    refine⟨_,rfl,_,rfl,_,rfl,b,bk,n,nm,rfl,sm _ _ hb18,zBh hbO gb0.hi gb0.l4 hnm (by omega),by omega,fun v H2 s2 fv=>?_⟩
    obtain⟨av,rfl,hav⟩:=fv
    refine⟨av,_,0,.int (uB (zJ n bk) n nm).1,rfl,rfl,hav,rfl,_,_,rfl,rfl,_,rfl,?_⟩
    have hq2:=s2 _ _ hq'
    have hpt2:=s2 _ _ hpt'
    have hne:pt≠q0:=fun z=>by rw[z,hq']at hpt';cases hpt'
    by_cases c:jN bk n nm=true
    ·refine vY (qY.mpr c) ?_
     refine⟨_,rfl,.inl ⟨rfl,_,.of hq2⟩,_,rfl,q0,_,_,rfl,rfl,hq2,?_,hN _ _ ⟨⟨_,rfl⟩,(sm.trans s2).upd_new hq0,by rw[zN hne];exact hpt2,?_⟩⟩
     ·rw[vL,aR]
      have h1':=hol (([3,2,1]:List Nat).take i)
      have h2':(([3,2,1]:List Nat).take i).length<=3:=by rw[aL];exact om ..
      omega
     ·rw[zD]
      show some (HO.lst (zI (jW bk nm (([3,2,1]:List Nat).take i))++[V.int (n:Int)]))=_
      rw[etk]
      unfold jW
      rw[bN,dJ (p:=fun p=>jN bk p nm) c]
      unfold zI
      rw[az];rfl
    ·refine v4 (fun z=>c (qY.mp z)) (hN _ _ ⟨⟨_,rfl⟩,sm.trans s2,hpt2,?_⟩)
     rw[hq2,etk]
     unfold jW
     rw[bN,dI (p:=fun p=>jN bk p nm) c];simp
   rintro σ H20 ⟨⟨x11,rfl⟩,s20,_,hq20⟩
   have hq20':H20 q0=some (.lst (zI (jW bk nm [3,2,1]))):=hq20
   have hb20:=s20 _ _ hb18
   refine⟨_,rfl,_,rfl,_,rfl,4,.ref b,.int o,sv nm,.non,rfl,by decide,(fun z=>by cases z),(fun z=>by cases z),(fun z=>by cases z),(fun z=>by cases z),fun _=>.inl ⟨b,bk,nm,rfl,hb20,(gb0.bk ho1 ho3).toisBk,hnm,fun o h1 h3=>zBh (gb0.bk h1 h3) gb0.hi gb0.l4 hnm (by omega),fun r H21 s21 ht=>?_⟩⟩
   have er:=top_eq ht
   subst er
   refine⟨_,rfl,sz 1 (by decide),fun p1 hp1=>?_⟩
   have t1:=zA.upd1 (o:=.lst [.non]) hp1
   refine⟨q0,p1,_,[.non],rfl,rfl,t1 _ _ (s21 _ _ hq20'),zD,?_,fun p2 hp2=>?_⟩
   ·rw[vL,aR]
    have h1':(jW bk nm [3,2,1]).length<=3:=hol [3,2,1]
    show _+1<=_
    omega
   have t2:=zA.upd1 (o:=.lst (zI (jW bk nm [3,2,1])++[.non])) hp2
   refine⟨p2,_,0,qS (topF bk nm),rfl,rfl,.of zD,uH (j:=0) (zRQ bk nm),uN (topF bk nm),uN (topF bk nm),zDB _,zDB _,?_,?_,_,rfl,zBX (zDC _).1 ?_⟩
   ·exact zJu _
   ·exact zJu _
   have s18L:=s20.trans (s21.trans (t1.trans t2))
   have hb22:=s18L _ _ hb18
   have hlg22:=s18L _ _ hlg18
   have lsg22:=lsg2.same s18L
   have hbs22:=hbs18.same s18L
   have sm22:=sm18.trans s18L
   generalize upd (upd H21 p1 (.lst [.non])) p2 (.lst (zI (jW bk nm [3,2,1])++[.non]))=H22 at*
   refine⟨_,rfl,?_⟩
   refine⟨sz 1 (by decide),fun a1 h1=>⟨sz 0 (by decide),fun a2 h2=>⟨sz 2 (by decide),fun a3 h3=>⟨_,rfl,b,zR bk,rfl,?_,sz 1 (by decide),fun a4 h4=>⟨_,rfl,sz 1 (by decide),fun a5 h5=>⟨sz 1 (by decide),fun a6 h6=>⟨sz 1 (by decide),fun a8 h8=>⟨sz 2 (by decide),fun a9 h9=>⟨sz 2 (by decide),fun aA hA=>⟨sz 1 (by decide),fun aB hB=>⟨sz 1 (by decide),fun aC hC=>⟨sz 12 (by decide),fun aD hD=>?_⟩⟩⟩⟩⟩⟩⟩⟩⟩⟩⟩⟩
   ·exact .inr (.of ((zA.upd1 h3) _ _ ((zA.upd1 h2) _ _ ((zA.upd1 h1) _ _ hb22))))
   have t1:=zA.upd1 (o:=.lst [.int 0]) h1
   have t2:=zA.upd1 (o:=.lst []) h2
   have t3:=zA.upd1 (o:=.lst [.int 0,.int 1]) h3
   have t4:=zA.upd1 (o:=.lst [.int ((zR bk).length:Int)]) h4
   have t5:=zA.upd1 (o:=.lst [.int (-1)]) h5
   have t6:=zA.upd1 (o:=.lst [.bl true]) h6
   have t8:=zA.upd1 (o:=.tup [.int 0]) h8
   have t9:=zA.upd1 (o:=.lst [.int 1,.int 0]) h9
   have tA:=zA.upd1 (o:=.lst [.int 0,.int 0]) hA
   have tB:=zA.upd1 (o:=.lst [.str "0"]) hB
   have tC:=zA.upd1 (o:=.lst [.non]) hC
   have tD:=zA.upd1 (o:=.lst [.ref a1,.ref a2,.ref a3,.ref a4,.ref a5,.ref a6,.non,.ref a8,.ref a9,.ref aA,.ref aB,.ref aC]) hD
   have wC:=tC.trans tD
   have wB:=tB.trans wC
   have wA:=tA.trans wB
   have w9:=t9.trans wA
   have w8:=t8.trans w9
   have w6:=t6.trans w8
   have w5:=t5.trans w6
   have w4:=t4.trans w5
   have w3:=t3.trans w4
   have w2:=t2.trans w3
   have w1:=t1.trans w2
   have ebk:(zR bk).length=bk.length:=af ..
   have hrows:∀HZ,zA (upd (upd (upd (upd (upd (upd (upd (upd (upd (upd (upd (upd H22 a1 (.lst [.int 0])) a2 (.lst [])) a3 (.lst [.int 0,.int 1])) a4 (.lst [.int ((zR bk).length:Int)])) a5 (.lst [.int (-1)])) a6 (.lst [.bl true])) a8 (.tup [.int 0])) a9 (.lst [.int 1,.int 0])) aA (.lst [.int 0,.int 0])) aB (.lst [.str "0"])) aC (.lst [.non])) aD (.lst [.ref a1,.ref a2,.ref a3,.ref a4,.ref a5,.ref a6,.non,.ref a8,.ref a9,.ref aA,.ref aB,.ref aC])) HZ->
     ∀v∈([.ref a1,.ref a2,.ref a3,.ref a4,.ref a5,.ref a6,.non,.ref a8,.ref a9,.ref aA,.ref aB,.ref aC]:List V),zBI HZ bk.length v:=fun HZ sZ v hv=>by
    simp only[aQ,oE,or_false]at hv
    rcases hv with rfl|rfl|rfl|rfl|rfl|rfl|rfl|rfl|rfl|rfl|rfl|rfl
    ·exact .inl ⟨a1,[0],rfl,(w2.trans sZ) _ _ zD,by decide⟩
    ·exact .inl ⟨a2,[],rfl,(w3.trans sZ) _ _ zD,by decide⟩
    ·exact .inl ⟨a3,[0,1],rfl,(w4.trans sZ) _ _ zD,by decide⟩
    ·refine .inl ⟨a4,[bk.length],rfl,?_,by show 1<=50;decide⟩
     have:=(w5.trans sZ) _ _ (zD (H:=upd (upd (upd H22 a1 (.lst [.int 0])) a2 (.lst [])) a3 (.lst [.int 0,.int 1])) (a:=a4) (o:=.lst [.int ((zR bk).length:Int)]))
     rw[this,ebk];rfl
    ·exact zDD ((w6.trans sZ) _ _ zD) (d:=.int (-1)) rfl rfl (.inr (.inl rfl))
    ·exact zDD ((w8.trans sZ) _ _ zD) (d:=.bool true) rfl rfl (.inl rfl)
    ·exact .inr ⟨.inl rfl,.inl rfl⟩
    ·have:=(w9.trans sZ) _ _ (zD (H:=upd (upd (upd (upd (upd (upd H22 a1 (.lst [.int 0])) a2 (.lst [])) a3 (.lst [.int 0,.int 1])) a4 (.lst [.int ((zR bk).length:Int)])) a5 (.lst [.int (-1)])) a6 (.lst [.bl true])) (a:=a8) (o:=.tup [.int 0]))
     exact .inr ⟨.inr (.inl ⟨a8,_,rfl,this⟩),.inr (.inl ⟨a8,_,rfl,this⟩)⟩
    ·exact .inl ⟨a9,[1,0],rfl,(wA.trans sZ) _ _ zD,by decide⟩
    ·exact .inl ⟨aA,[0,0],rfl,(wB.trans sZ) _ _ zD,by decide⟩
    ·exact zDD ((wC.trans sZ) _ _ zD) (d:=.str "0") rfl rfl (.inr (.inr (.inl rfl)))
    ·exact zDD ((tD.trans sZ) _ _ zD) (d:=.none) rfl rfl (.inr (.inr (.inr rfl)))
   have hDv:(upd (upd (upd (upd (upd (upd (upd (upd (upd (upd (upd (upd H22 a1 (.lst [.int 0])) a2 (.lst [])) a3 (.lst [.int 0,.int 1])) a4 (.lst [.int ((zR bk).length:Int)])) a5 (.lst [.int (-1)])) a6 (.lst [.bl true])) a8 (.tup [.int 0])) a9 (.lst [.int 1,.int 0])) aA (.lst [.int 0,.int 0])) aB (.lst [.str "0"])) aC (.lst [.non])) aD (.lst [.ref a1,.ref a2,.ref a3,.ref a4,.ref a5,.ref a6,.non,.ref a8,.ref a9,.ref aA,.ref aB,.ref aC])) aD=some (.lst [.ref a1,.ref a2,.ref a3,.ref a4,.ref a5,.ref a6,.non,.ref a8,.ref a9,.ref aA,.ref aB,.ref aC]):=zD
   clear w2 w3 w4 w5 w6 w8 w9 wA wB wC t1 t2 t3 t4 t5 t6 t8 t9 tA tB tC tD
   generalize upd (upd (upd (upd (upd (upd (upd (upd (upd (upd (upd (upd H22 a1 (.lst [.int 0])) a2 (.lst [])) a3 (.lst [.int 0,.int 1])) a4 (.lst [.int ((zR bk).length:Int)])) a5 (.lst [.int (-1)])) a6 (.lst [.bl true])) a8 (.tup [.int 0])) a9 (.lst [.int 1,.int 0])) aA (.lst [.int 0,.int 0])) aB (.lst [.str "0"])) aC (.lst [.non])) aD (.lst [.ref a1,.ref a2,.ref a3,.ref a4,.ref a5,.ref a6,.non,.ref a8,.ref a9,.ref aA,.ref aB,.ref aC])=HY at hrows w1 hDv⊢
   clear hD hC hB hA h9 h8 h6 h5 h4 h3 h2 h1
   obtain⟨rw12,erw⟩:∃r12:List V,r12=[.ref a1,.ref a2,.ref a3,.ref a4,.ref a5,.ref a6,.non,.ref a8,.ref a9,.ref aA,.ref aB,.ref aC]:=⟨_,rfl⟩
   have hrl:rw12.length=12:=by rw[erw];rfl
   rw[<-erw]at hrows hDv
   refine⟨lg,aD,gy,rw12,rfl,rfl,w1 _ _ hlg22,hDv,by rw[hrl,aR];omega,fun aE hE=>?_⟩
   have uE:=zA.upd1 (o:=.lst (gy++rw12)) hE
   have s22E:=w1.trans uE
   have hEv:(upd HY aE (.lst (gy++rw12))) aE=some (.lst (gy++rw12)):=zD
   have hrows2:∀v∈gy++rw12,zBI (upd HY aE (.lst (gy++rw12))) bk.length v:=fun v hv=>by
    rcases bP.mp hv with z|z
    ·obtain⟨i,hi⟩:=List.mem_iff_getElem?.mp z
     obtain⟨a0,l,e1,e2,e3⟩:=(lsg22.same s22E).get hi
     have hl0:=(zCz.mp (aS e1)).1
     have h3':=zBe hl0
     have h4':=gb0.hi
     exact .inl ⟨a0,l,e2,e3,by omega⟩
    ·exact hrows _ uE v z
   generalize upd HY aE (.lst (gy++rw12))=HZ at*
   have hb23:=s22E _ _ hb22
   have hlg23:=s22E _ _ hlg22
   have lsg23:=lsg22.same s22E
   have hbs23:=hbs22.same s22E
   have sm23:=sm22.trans s22E
   refine⟨_,rfl,aE,rfl,⟨_,.of hEv⟩,?_⟩
   refine uG (vH K aE (gy++rw12)) (fun i σ H'=>(∃x13:Option V,σ=[some (.ref a),some (.ref pb),some (.ref b),some (.int (o:Int)),some (sv nm),x5,some (.ref DP),some (.ref DQ),some (.ref DT),some (.ref lg),some (.ref q0),x11,some (.ref aE),x13,none,none,none])/\zA HZ H')
    ⟨⟨_,rfl⟩,zA.refl _⟩ (fun i σ H' _ h=>.of (h.2 _ _ hEv)) ?_ ?_
   ·rintro i v σ H' Nx hN hx ⟨⟨x13,rfl⟩,sm⟩
    have rk:=(hrows2 v (aS hx)).same sm
    have hbO:=gb0.bk ho1 ho3
    have hb':=sm _ _ hb23
    refine⟨_,rfl,_,rfl,_,rfl,_,rfl,3,.ref b,.int o,sv nm,v,rfl,by decide,(fun z=>by cases z),(fun z=>by cases z),(fun z=>by cases z),fun _=>.inl ?_,fun z=>by cases z⟩
    rcases rk with⟨a0,l,rfl,ha0,hl50⟩|⟨odd,hnp⟩
    ·refine .inl ⟨b,bk,o,nm,.ref a0,rfl,hb',hbO,hnm,.inr ⟨a0,l,rfl,ha0,hl50,fun H2 s2=>?_⟩⟩
     refine⟨_,rfl,_,rfl,lg,gy,q8 bk o nm,.ref a0,rfl,(sm.trans s2) _ _ hlg23,lsg23.same (sm.trans s2),.inr ⟨a0,l,rfl,s2 _ _ ha0,hl50,fun H3 s3=>⟨rfl,_,rfl,qW (by rw[zQw]) ?_⟩⟩⟩
     exact hN _ _ ⟨⟨_,rfl⟩,sm.trans (s2.trans s3)⟩
    ·rcases hnp with rfl|hnp
     ·refine .inl ⟨b,bk,o,nm,.non,rfl,hb',hbO,hnm,.inl ⟨rfl,fun H2 s2=>?_⟩⟩
      refine⟨_,rfl,_,rfl,lg,gy,q8 bk o nm,.non,rfl,(sm.trans s2) _ _ hlg23,lsg23.same (sm.trans s2),.inl ⟨odd.same s2,fun H3 s3=>⟨rfl,_,rfl,qW rfl ?_⟩⟩⟩
      exact hN _ _ ⟨⟨_,rfl⟩,sm.trans (s2.trans s3)⟩
     ·refine .inr ⟨b,bk,o,nm,v,rfl,hb',hbO,hnm,hnp,fun H2 s2=>?_⟩
      refine⟨_,rfl,_,rfl,lg,gy,q8 bk o nm,v,rfl,(sm.trans s2) _ _ hlg23,lsg23.same (sm.trans s2),.inl ⟨odd.same s2,fun H3 s3=>⟨rfl,_,rfl,qW rfl ?_⟩⟩⟩
      exact hN _ _ ⟨⟨_,rfl⟩,sm.trans (s2.trans s3)⟩
   rintro σ H24 ⟨⟨x13,rfl⟩,s24⟩
   have hb24:=s24 _ _ hb23
   have hbs24:=hbs23.same s24
   have sm24:=sm23.trans s24
   refine⟨sz 3 (by decide),fun lo hlo=>⟨_,rfl,a,ns,144,3,rfl,(sm24.trans (zA.upd1 hlo)).seq ha,hl,by decide,by decide,fun oi H25 hoi s25=>?_⟩⟩
   have w4:zA H24 (upd H24 lo (.lst [V.str "",V.str "A",V.non])):=zA.upd1 hlo
   have oT:∀Hx,Thgs Hx zFj [V.str "",V.str "A",V.non]:=fun Hx=>⟨_,_,rfl,rfl,_,_,rfl,rfl,_,_,rfl,rfl,rfl⟩
   obtain⟨ov,hov⟩:∃v,([V.str "",V.str "A",V.non]:List V)[oi]?=some v:=⟨_,ax hoi⟩
   obtain⟨od',hod',_⟩:=(oT H25).get hov
   have odT:∀Hx,yF Hx od' ov:=fun Hx=>by
    obtain⟨e,he,ht⟩:=(oT Hx).get hov
    rw[hod']at he
    cases he
    exact ht
   obtain⟨osm,onm⟩:=zRR od' (aS hod')
   refine⟨lo,[V.str "",V.str "A",V.non],_,ov,rfl,rfl,.of (s25 _ _ zD),uH hov,?_⟩
   have y25:zA H24 H25:=w4.trans s25
   have hb25:=y25 _ _ hb24
   have hbs25:=hbs24.same y25
   have sm25:=sm24.trans y25
   refine⟨_,rfl,_,rfl,_,rfl,_,rfl,_,rfl,sz 5 (by decide),fun pT hpT=>?_⟩
   have uT:=zA.upd1 (o:=.lst [.ref pb,.ref pb,.ref b,.ref b,.ref b]) hpT
   have hpTv:(upd H25 pT (.lst [.ref pb,.ref pb,.ref b,.ref b,.ref b])) pT=some (.lst [.ref pb,.ref pb,.ref b,.ref b,.ref b]):=zD
   have hb26:=uT _ _ hb25
   have hbs26:=hbs25.same uT
   have sm26:=sm25.trans uT
   generalize upd H25 pT (.lst [.ref pb,.ref pb,.ref b,.ref b,.ref b])=H26 at*
   have isB:∀p∈BK,isBk p.2:=fun p hp=>((hgb p hp).bk ho1 ho3).toisBk
   have isb:isBk bk:=(gb0.bk ho1 ho3).toisBk
   have sBs:=zJs isB
   have thing:∀(H'':Hp) (i j:Nat) (u:V) (e:bW),zA H26 H''->i<5->yF H'' e u->sml e=true->(j=2/\uX e=true\/j=1/\uX e=false/\i<4)->∃v,([.ref pb,.ref pb,.ref b,.ref b,.ref b]:List V)[i]?=some v/\zBj H'' j i v u ov:=fun H'' i j u e sH hi te se hj=>by
    have l1:zBj H'' j i (.ref pb) u ov\/2<=i:=by
     by_cases c:i<2
     ·refine .inl ⟨e,od',te,odT _,se,osm,.inl ⟨c,pb,_,_,rfl,(hbs26.same sH).lst,zJr (hbs26.same sH).at_,sBs.1,?_⟩⟩
      rcases hj with⟨q1,q2⟩|⟨q1,q2,_⟩
      ·exact .inr (.inr ⟨q1,sBs.2,q2,onm⟩)
      ·exact .inr (.inl ⟨q1,sBs.2,q2⟩)
     ·exact .inr (by omega)
    have l2:2<=i->zBj H'' j i (.ref b) u ov:=fun c=>by
     refine⟨e,od',te,odT _,se,osm,.inr ⟨c,.tuple (qT bk),zJq (sH _ _ hb26),(zDA isb).1,?_,fun z=>?_⟩⟩
     ·rcases hj with⟨q1,q2⟩|⟨q1,q2,_⟩
      ·exact .inr (.inr ⟨q1,zFi isb,q2,onm⟩)
      ·exact .inr (.inl ⟨q1,zFi isb,q2⟩)
     ·rcases hj with⟨q1,_⟩|⟨_,_,q3⟩<;>omega
    match i,hi with
    |0,_=>exact⟨_,rfl,l1.resolve_right (by decide)⟩
    |1,_=>exact⟨_,rfl,l1.resolve_right (by decide)⟩
    |2,_=>exact⟨_,rfl,l2 (by decide)⟩
    |3,_=>exact⟨_,rfl,l2 (by decide)⟩
    |4,_=>exact⟨_,rfl,l2 (by decide)⟩
   refine⟨5,rfl,by decide,by decide,?_⟩
   refine vT (qA 0 _) [some (.int (o:Int)),some ov,some (.ref pT)] 1 (by decide) (fun i acc H''=>zA H26 H''/\acc.length=i/\Reps K H'' (aU i (qK 2)) acc) ⟨zA.refl _,rfl,rfl⟩ (fun i acc H'' _ h=>⟨trivial,dh h.2.1⟩) ?_ ?_
   ·rintro i z acc H'' ys Nx' hNx hz hys ⟨smc,hal,rp⟩
    obtain⟨y1,rfl⟩:=y0 hys
    obtain⟨hi,rfl⟩:=qH (n:=5) hz
    obtain⟨v,hv,hrf⟩:=thing H'' i 2 (.int (o:Int)) (.int (o:Int)) smc hi rfl rfl (.inl ⟨rfl,zRG ho1 ho3⟩)
    refine⟨_,rfl,_,rfl,_,rfl,pT,_,_,v,rfl,rfl,.of (smc _ _ hpTv),uH hv,_,rfl,_,rfl,?_⟩
    refine told_refu (E:=E0) hi hrf fun pr H3 s3 rt=>hNx _ _ [some (.int (i:Int))] rfl ⟨smc.trans s3,by rw[aq,hal];rfl,?_⟩
    rw[eZ]
    exact Reps.append (Reps.same s3 _ _ rp) (Reps.one ⟨pr,_,rfl,.of rt,_,_,rfl,rfl,_,_,rfl,rfl,rfl⟩)
   rintro acc H27 ⟨s27,_,rp27⟩ D7 hD7
   refine⟨sz 2 (by decide),fun pt7 hpt7=>⟨sz 1 (by decide),fun pl7 hpl7=>⟨pl7,5,[.ref pt7],rfl,rfl,zD,by decide,by decide,sz 5 (by decide),fun pr7 hpr7=>?_⟩⟩⟩
   obtain⟨J5,eJ5,y5,q1,q2⟩:=zJk hD7 rp27 hpt7 hpl7 hpr7
   rw[eJ5]
   refine⟨_,_,q1,q2,by decide+kernel,by decide+kernel,_,rfl,zBX (by decide+kernel) ?_⟩
   have y26:=s27.trans y5
   clear eJ5 q1 q2 hpr7 hpl7 hpt7 hD7 rp27
   refine⟨4,rfl,by decide,by decide,?_⟩
   refine vT (qA 0 _) [some ov,some (.ref pT)] 1 (by decide) (fun i acc H''=>zA J5 H''/\acc.length=i/\Reps K H'' (aU i (qK 1)) acc) ⟨zA.refl _,rfl,rfl⟩ (fun i acc H'' _ h=>⟨trivial,dh h.2.1⟩) ?_ ?_
   ·rintro i z acc H'' ys Nx' hNx hz hys ⟨smc,hal,rp⟩
    obtain⟨y1,rfl⟩:=y0 hys
    obtain⟨hi,rfl⟩:=qH (n:=4) hz
    obtain⟨v,hv,hrf⟩:=thing H'' i 1 (.int 0) (.int 0) (y26.trans smc) (by omega) rfl rfl (.inr ⟨rfl,rfl,hi⟩)
    refine⟨_,rfl,_,rfl,_,rfl,pT,_,_,v,rfl,rfl,.of ((y26.trans smc) _ _ hpTv),uH hv,_,rfl,?_⟩
    refine told_refu (E:=E0) (by omega) hrf fun pr H3 s3 rt=>hNx _ _ [some (.int (i:Int))] rfl ⟨smc.trans s3,by rw[aq,hal];rfl,?_⟩
    rw[eZ]
    exact Reps.append (Reps.same s3 _ _ rp) (Reps.one ⟨pr,_,rfl,.of rt,_,_,rfl,rfl,_,_,rfl,rfl,rfl⟩)
   rintro acc H28 ⟨s28,_,rp28⟩ D8' hD8'
   refine⟨_,rfl,sz 2 (by decide),fun pt8 hpt8=>⟨sz 1 (by decide),fun pl8 hpl8=>⟨pl8,4,[.ref pt8],rfl,rfl,zD,by decide,by decide,sz 4 (by decide),fun pr8 hpr8=>?_⟩⟩⟩
   obtain⟨J6,eJ6,y6,q1,q2⟩:=zRF hD8' rp28 hpt8 hpl8 hpr8
   rw[eJ6]
   refine⟨_,_,q1,q2,by decide+kernel,by decide+kernel,_,rfl,zBX (by decide+kernel) ?_⟩
   have y27:=y26.trans (s28.trans y6)
   have hb29:=y27 _ _ hb26
   clear eJ6 q1 q2 hpr8 hpl8 hpt8 hD8' rp28
   refine⟨_,rfl,b,zR bk,rfl,.inr (.of hb29),fun l1 hl1=>⟨sz 1 (by decide),fun n1 hn1=>⟨sz 0 (by decide),fun e0 he0=>⟨sz 1 (by decide),fun n2 hn2=>⟨sz 0 (by decide),fun n3 hn3=>⟨_,rfl,b,zR bk,rfl,?_,fun n4 hn4'=>⟨sz 5 (by decide),fun pN hpN=>?_⟩⟩⟩⟩⟩⟩⟩
   ·exact .inr (.of ((zA.upd1 hn3) _ _ ((zA.upd1 hn2) _ _ ((zA.upd1 he0) _ _ ((zA.upd1 hn1) _ _ ((zA.upd1 hl1) _ _ hb29))))))
   have k1:=zA.upd1 (o:=.lst (zR bk)) hl1
   have k2:=zA.upd1 (o:=.lst [.ref l1]) hn1
   have k3:=zA.upd1 (o:=.tup []) he0
   have k4:=zA.upd1 (o:=.lst [.ref e0]) hn2
   have k5:=zA.upd1 (o:=.tup []) hn3
   have k6:=zA.upd1 (o:=.lst (zR bk)) hn4'
   have k7:=zA.upd1 (o:=.lst [.ref n1,.ref n2,.ref n3,.ref n4,.non]) hpN
   have g6:=k6.trans k7
   have g5:=k5.trans g6
   have g4:=k4.trans g5
   have g3:=k3.trans g4
   have g2:=k2.trans g3
   have hl1v:=g2 _ _ (zD (H:=J6) (a:=l1) (o:=.lst (zR bk)))
   have hn1v:=g3 _ _ (zD (H:=upd J6 l1 (.lst (zR bk))) (a:=n1) (o:=.lst [.ref l1]))
   have he0v:=g4 _ _ (zD (H:=upd (upd J6 l1 (.lst (zR bk))) n1 (.lst [.ref l1])) (a:=e0) (o:=.tup []))
   have hn2v:=g5 _ _ (zD (H:=upd (upd (upd J6 l1 (.lst (zR bk))) n1 (.lst [.ref l1])) e0 (.tup [])) (a:=n2) (o:=.lst [.ref e0]))
   have hn3v:=g6 _ _ (zD (H:=upd (upd (upd (upd J6 l1 (.lst (zR bk))) n1 (.lst [.ref l1])) e0 (.tup [])) n2 (.lst [.ref e0])) (a:=n3) (o:=.tup []))
   have hn4v:=k7 _ _ (zD (H:=upd (upd (upd (upd (upd J6 l1 (.lst (zR bk))) n1 (.lst [.ref l1])) e0 (.tup [])) n2 (.lst [.ref e0])) n3 (.tup [])) (a:=n4) (o:=.lst (zR bk)))
   have hpNv:=zD (H:=upd (upd (upd (upd (upd (upd J6 l1 (.lst (zR bk))) n1 (.lst [.ref l1])) e0 (.tup [])) n2 (.lst [.ref e0])) n3 (.tup [])) n4 (.lst (zR bk))) (a:=pN) (o:=.lst [.ref n1,.ref n2,.ref n3,.ref n4,.non])
   generalize upd (upd (upd (upd (upd (upd (upd J6 l1 (.lst (zR bk))) n1 (.lst [.ref l1])) e0 (.tup [])) n2 (.lst [.ref e0])) n3 (.tup [])) n4 (.lst (zR bk))) pN (.lst [.ref n1,.ref n2,.ref n3,.ref n4,.non])=J7 at hl1v hn1v he0v hn2v hn3v hn4v hpNv⊢
   have tL:∀(Hx:Hp) (q:ai),Hx q=some (.lst (zR bk))->yF Hx (.list (qT bk)) (.ref q):=fun Hx q h=>⟨q,_,rfl,h,Thgs.strs bk⟩
   have none5:∀(H'':Hp) (i:Nat),zA J7 H''->i<5->∃v,([.ref n1,.ref n2,.ref n3,.ref n4,.non]:List V)[i]?=some v/\zBj H'' 0 i v (.int 0) ov:=fun H'' i sH hi=>by
    match i,hi with
    |0,_=>exact⟨_,rfl,.int 0,od',rfl,odT _,rfl,osm,.inl ⟨by decide,n1,_,[.list (qT bk)],rfl,sH _ _ hn1v,⟨_,_,rfl,tL _ _ (sH _ _ hl1v),rfl⟩,by simp only[smls,(zDA isb).2,dZ],.inl ⟨rfl,rfl⟩⟩⟩
    |1,_=>exact⟨_,rfl,.int 0,od',rfl,odT _,rfl,osm,.inl ⟨by decide,n2,_,[.tuple []],rfl,sH _ _ hn2v,⟨_,_,rfl,⟨e0,_,rfl,sH _ _ he0v,rfl⟩,rfl⟩,rfl,.inl ⟨rfl,rfl⟩⟩⟩
    |2,_=>exact⟨_,rfl,.int 0,od',rfl,odT _,rfl,osm,.inr ⟨by decide,.tuple [],⟨n3,_,rfl,sH _ _ hn3v,rfl⟩,rfl,.inl ⟨rfl,rfl⟩,fun z=>by cases z⟩⟩
    |3,_=>exact⟨_,rfl,.int 0,od',rfl,odT _,rfl,osm,.inr ⟨by decide,.list (qT bk),tL _ _ (sH _ _ hn4v),(zDA isb).2,.inl ⟨rfl,rfl⟩,fun z=>by cases z⟩⟩
    |4,_=>exact⟨_,rfl,.int 0,od',rfl,odT _,rfl,osm,.inr ⟨by decide,.none,rfl,rfl,.inl ⟨rfl,rfl⟩,fun _=>by decide⟩⟩
   refine⟨5,rfl,by decide,by decide,?_⟩
   refine vT (qA 0 _) [some ov,some (.ref pN)] 1 (by decide) (fun i acc H''=>zA J7 H''/\acc.length=i/\Reps K H'' (aU i (qK 0)) acc) ⟨zA.refl _,rfl,rfl⟩ (fun i acc H'' _ h=>⟨trivial,dh h.2.1⟩) ?_ ?_
   ·rintro i z acc H'' ys Nx' hNx hz hys ⟨smc,hal,rp⟩
    obtain⟨y1,rfl⟩:=y0 hys
    obtain⟨hi,rfl⟩:=qH (n:=5) hz
    obtain⟨v,hv,hrf⟩:=none5 H'' i smc hi
    refine⟨_,rfl,_,rfl,_,rfl,pN,_,_,v,rfl,rfl,.of (smc _ _ hpNv),uH hv,_,rfl,?_⟩
    refine told_refu (E:=E0) hi hrf fun pr H3 s3 rt=>hNx _ _ [some (.int (i:Int))] rfl ⟨smc.trans s3,by rw[aq,hal];rfl,?_⟩
    rw[eZ]
    exact Reps.append (Reps.same s3 _ _ rp) (Reps.one ⟨pr,_,rfl,.of rt,_,_,rfl,rfl,_,_,rfl,rfl,rfl⟩)
   rintro acc H29 ⟨s29,_,rp29⟩ D9 hD9
   refine⟨sz 2 (by decide),fun pt9 hpt9=>⟨sz 1 (by decide),fun pl9 hpl9=>⟨pl9,5,[.ref pt9],rfl,rfl,zD,by decide,by decide,sz 5 (by decide),fun pr9 hpr9=>?_⟩⟩⟩
   obtain⟨J8,eJ8,y8,q5,q6⟩:=zJk hD9 rp29 hpt9 hpl9 hpr9
   rw[eJ8]
   refine⟨_,_,q5,q6,by decide+kernel,by decide+kernel,?_⟩
   have e:(if false=true then !PyData.eqv (.list (aU 5 (qK 0))) (.list (aU 5 (qK 0)))else bV (.list (aU 5 (qK 0))) (.list (aU 5 (qK 0))))=true:=by
    rw[if_neg aI];exact zBz _ (by decide+kernel)
   rw[e]
   exact k _
end
end Kn.Ln
end
section
namespace Kn
open PySem L2 Ln
def z7 (K:ae)(x:Str)(st:cJ)(ps:List Str):Prop :=
 ∃(f:ai) (fd:aO),bq K mainGlobals x=some (some (.ref f))/\Fun K x x st f fd/\dB K (.ref f)=true/\qV K fd ps []
theorem zBJ {K:ae}{x:Str}{st:cJ}{f:ai}{e kV g pm b ct:ah}{od h:Option ai}{i:Array (Option ah)}(d:List Str)
  (j:∀(fd:aO),Fun K x x st f fd->qV K fd d [])
  (a:bq K mainGlobals x=some (some (.ref f))) (l:K.lookup f=some ⟨e,od,.func (dN x x (defArgs st) (defBody st) (defScope st) .none kV g pm h b ct),i⟩) (c:fT K b x=true) (k:dB K (.ref f)=true):z7 K x st d :=
 ⟨f,_,a,zDY (st:=st) l c k,k,j _ (zDY (st:=st) l c k)⟩
structure Top (K:ae):Prop where
 is_name:z7 K "is_name" zCH ["thing"]
 is_book:z7 K "is_book" zCI ["thing"]
 is_whole:z7 K "is_whole" zBS ["thing","least","most"]
 is_order:z7 K "is_order" zCJ ["thing"]
 is_rising:z7 K "is_rising" zFI ["things"]
 need_book:z7 K "need_book" zCL ["thing"]
 need_books:z7 K "need_books" zCs ["thing"]
 need_order:z7 K "need_order" zCN ["thing"]
 need_name:z7 K "need_name" zCO ["thing"]
 end_of:z7 K "end_of" zDw ["text","order"]
 ends:z7 K "ends_and_letters" zDx ["name","order"]
 rows:z7 K "counted_rows" zEA ["book","order"]
 gcd:z7 K "greatest_divisor" zED ["one","other"]
 low:z7 K "lowest" zEE ["up","down"]
 times:z7 K "times" zEF ["one","other"]
 is_less:z7 K "is_less" zCS ["one","other"]
 place:z7 K "place_of_greatest" zFU ["fractions"]
 part_in:z7 K "part_in" zEH ["row","letter"]
 stepsR:z7 K "steps_by_rows" zEI ["rows","order","name"]
 shareR:z7 K "share_by_rows" zEL ["rows","order","name"]
 share:z7 K "share" zEM ["book","order","name"]
 makes:z7 K "makes" zEN ["book","order","name"]
 mkrs:z7 K "makers" zCw ["books","order","name"]
 maker:z7 K "best_maker" zCu ["books","order","name"]
 go:z7 K "greatest_order" sGO ["book","name"]
 plw:z7 K "places_with" zFB ["book","order","step"]
 pbs:z7 K "places_by_step" zFD ["book","order","name"]
 anyhas:z7 K "any_has" zFE ["having","places"]
 alone:z7 K "alone_make" zFG ["by_step","places"]
 longer:z7 K "longer_lists" zFK ["lists","many"]
 needed:z7 K "needed" zCo ["book","order","name"]
 ispl:z7 K "is_list_of_places" zCk ["thing","many"]
 shows:z7 K "shows" zBa ["book","order","name","thing"]
 cell:z7 K "_law_cell" zER ["_law_script","_law_k"]
 drawn:z7 K "_law_drawn" zEU ["_law_script","_law_k","_law_many"]
 lname:z7 K "_law_name" zEW ["_law_script","_law_at","_law_most"]
 lbook:z7 K "_law_book" zEX ["_law_script","_law_at","_law_many","_law_most"]
 lcounts:z7 K "_law_counts" zCc ["_law_book_here","_law_order"]
 lrow:z7 K "_law_row" zCg ["_law_book_here","_law_order","_law_text"]
 llow:z7 K "_law_lowest" zEy ["_law_up","_law_down"]
 lshare:z7 K "_law_share" zCi ["_law_book_here","_law_order","_law_name_here"]
 lmade:z7 K "_law_made" zFA ["_law_book_here","_law_order","_law_most"]
 lrefused:z7 K "_law_refused" zEw ["_law_e"]
 ltold:z7 K "_law_told" zCy ["_law_way","_law_book_here","_law_order","_law_name_here","_law_thing"]
 lgood:z7 K "_law_good" zFd ["_law_book_here","_law_order","_law_name_here"]
 lbest:z7 K "_law_best" zFf ["_law_parts","_law_places"]
 lshown:z7 K "_law_is_shown" zFg ["_law_good_here","_law_row_here"]
 lorders:z7 K "_law_orders" zFh []
 letters:∃t,bq K mainGlobals "LETTERS"=some (some (.str letters t))
 ml:∃t,bq K mainGlobals "MOST_LETTERS"=some (some (.int 8 t))
 mn:∃t,bq K mainGlobals "MOST_NAMES"=some (some (.int 8 t))
 mo:∃t,bq K mainGlobals "MOST_ORDER"=some (some (.int 3 t))
 ib:bx K (.type "int") (.type "bool")=some false
 nought:∃a,bq K mainGlobals "NOUGHT"=some (some (.ref a))/\∀H,yH K H a [.int 0,.int 1]
 whole:∃a,bq K mainGlobals "WHOLE"=some (some (.ref a))/\∀H,yH K H a [.int 1,.int 1]
 errs:∃cs L,∀(h:bK) (mg:Str->Option ah),K.In h->h.Ns mainGlobals mg->ErrX K mg cs L
 kitf:KitF K
 kitm:KitM K
 zlen:bq K mainGlobals "len"=some none
 zrange:bq K mainGlobals "range"=some none
 zall:bq K mainGlobals "all"=some none
 zisinstance:bq K mainGlobals "isinstance"=some none
 zstr:bq K mainGlobals "str"=some none
 ztuple:bq K mainGlobals "tuple"=some none
 zint:bq K mainGlobals "int"=some none
 zbool:bq K mainGlobals "bool"=some none
 zsorted:bq K mainGlobals "sorted"=some none
 zsum:bq K mainGlobals "sum"=some none
 zmin:bq K mainGlobals "min"=some none
 zmax:bq K mainGlobals "max"=some none
 zdict:bq K mainGlobals "dict"=some none
 zlist:bq K mainGlobals "list"=some none
 zenumerate:bq K mainGlobals "enumerate"=some none
 zany:bq K mainGlobals "any"=some none
 zzip:bq K mainGlobals "zip"=some none
 zValueError:bq K mainGlobals "ValueError"=some none
theorem zRT:(gc "abcdefghijklmnopqrstuvwxyz")=letters:=by decide+kernel
theorem zRU {K:ae}{t:Tok}(h:bq K mainGlobals "LETTERS"=some (some (.str (gc "abcdefghijklmnopqrstuvwxyz") t))):∃t,bq K mainGlobals "LETTERS"=some (some (.str letters t)):=by
 rw[zRT]at h;exact⟨t,h⟩
theorem zRV {K:ae}{x:Str}{i:Int}{t:Tok}(h:bq K mainGlobals x=some (some (.int i t))):∃t,bq K mainGlobals x=some (some (.int i t)):=⟨t,h⟩
theorem zRW {K:ae}{x:Str}{a:ai}{i j:Int}{t t':Tok}{n:Nat}{dd:Option ai}{b:Array (Option ah)}(h:bq K mainGlobals x=some (some (.ref a)))
  (l:K.lookup a=some ⟨.type "tuple",dd,.seq #[.int i t,.int j t'] n,b⟩):∃a,bq K mainGlobals x=some (some (.ref a))/\∀H,yH K H a [.int i,.int j] :=
 ⟨a,h,fun H=>.inr ⟨_,_,_,l,rfl,rfl,by show 2<=sizeLine;decide,.cons ⟨t,rfl⟩ (.cons ⟨t',rfl⟩ .nil)⟩⟩
section
variable{P:aP}{w:bc}{K:ae}{mg:Str->Option ah}{base:bK}{h:bK}
theorem zRX {x:Str}{st:cJ}{c:List Str}{k:Nat}{sp:Sp}(X:K.In h)(G:h.Ns mainGlobals mg)(H:z7 K x st c)(ok:∀(f:ai) (fd:aO),Fun K x x st f fd->FnOk P w K mg base zU k f fd c sp):zQ P w K mg base k x c sp:=by
 obtain⟨f,fd,a,F,kp,b⟩:=H
 exact⟨f,fd,ok f fd F,cc X G a,kp,b⟩
theorem zRY {x:Str}{st:cJ}{c:List Str}{k:Nat}{sp:Sp}(X:K.In h)(G:h.Ns mainGlobals mg)(H:z7 K x st c)(ok:∀(f:ai) (fd:aO),Fun K x x st f fd->FnOk P w K mg base (vZ P w) k f fd c sp):qQ P w K mg base k x c sp:=by
 obtain⟨f,fd,a,F,kp,b⟩:=H
 exact⟨f,fd,ok f fd F,cc X G a,kp,b⟩
theorem zRZ {x:Str}{st:cJ}{c:List Str}{k:Nat}{sp:Sp}(X:K.In h)(G:h.Ns mainGlobals mg)(H:z7 K x st c)(ok:∀(f:ai) (fd:aO),Fun K x x st f fd->FnB P w K mg base zU k f fd c sp):zCX P w K mg base k x c sp:=by
 obtain⟨f,fd,a,F,kp,b⟩:=H
 exact⟨f,fd,ok f fd F,cc X G a,kp,b⟩
theorem zRa (X:K.In h)(G:h.Ns mainGlobals mg)(T:Top K){f:ai}{fd:aO}(F:Fun K "law" "law" kH f fd):FnOk P w K mg base zU 10 f fd ["_law_script"] (zBk K):=by
 have B:Blt mg:=⟨bE X G T.zlen,bE X G T.zrange,bE X G T.zall,bE X G T.zisinstance,bE X G T.zstr,bE X G T.ztuple,bE X G T.zint,bE X G T.zbool,bE X G T.zsorted,bE X G T.zsum,bE X G T.zmin⟩
 have C:Cst K mg:=⟨let⟨t,e⟩:=T.letters;⟨t,cc X G e⟩,let⟨t,e⟩:=T.ml;⟨t,cc X G e⟩,let⟨t,e⟩:=T.mn;⟨t,cc X G e⟩,let⟨t,e⟩:=T.mo;⟨t,cc X G e⟩,T.ib⟩
 have c {x:Str} {st:cJ} {z:List Str} {k:Nat} {sp:Sp} (a:z7 K x st z) (b:∀(f:ai) (fd:aO),Fun K x x st f fd->FnOk P w K mg base zU k f fd z sp):zQ P w K mg base k x z sp:=zRX X G a b
 have d {x:Str} {st:cJ} {z:List Str} {k:Nat} {sp:Sp} (a:z7 K x st z) (b:∀(f:ai) (fd:aO),Fun K x x st f fd->FnOk P w K mg base (vZ P w) k f fd z sp):qQ P w K mg base k x z sp:=zRY X G a b
 have aD {x:Str} {st:cJ} {z:List Str} {k:Nat} {sp:Sp} (a:z7 K x st z) (b:∀(f:ai) (fd:aO),Fun K x x st f fd->FnB P w K mg base zU k f fd z sp):zCX P w K mg base k x z sp:=zRZ X G a b
 have C2:Cst2 K mg:=⟨let⟨a,e,q⟩:=T.nought;⟨a,cc X G e,q⟩,let⟨a,e,q⟩:=T.whole;⟨a,cc X G e,q⟩⟩
 have b2:=bE X G T.zdict
 have r:=bE X G T.zlist
 have W:=bE X G T.zenumerate
 have av:=bE X G T.zany
 have hz:=bE X G T.zzip
 obtain⟨cs,L,hE⟩:=T.errs
 have E:=hE h mg X G
 have KF:=T.kitf
 have KM:=T.kitm
 have BE:BltE mg:=⟨bE X G T.zisinstance,bE X G T.zValueError⟩
 have B2:Blt2 mg:=⟨bE X G T.zmax,bE X G T.zdict,bE X G T.zlist⟩
 have bb:=c T.end_of fun f fd F=>zMV F
 have j:=c T.ends fun f fd F=>zMY F B bb
 have m:=c T.is_name fun f fd F=>zMa F B C
 have A:=c T.is_book fun f fd F=>zMb F B C m
 have n:=c T.is_whole fun f fd F=>zPa F B C
 have s:=c T.is_whole fun f fd F=>zMc F B C
 have u:=c T.is_order fun f fd F=>zMd F C s
 have D:=c T.is_rising fun f fd F=>zPd F B hz
 have i:=c T.is_name fun f fd F=>zOk F B C KF
 have v:=c T.is_book fun f fd F=>zOl F B C KF i
 have g:=c T.is_whole fun f fd F=>zOn F B C KF
 have o:=c T.is_order fun f fd F=>zOo F C g
 have Y:=c T.need_book fun f fd F=>zMe F A
 have ay:=c T.need_books fun f fd F=>zQH F B r Y
 have aE:=c T.need_order fun f fd F=>zMf F u
 have H:=c T.need_name fun f fd F=>zMg F m
 have aA:=d T.need_book fun f fd F=>zOp F (E.at_ 0 (by decide)).1 v
 have be:=d T.need_order fun f fd F=>zOq F (E.at_ 1 (by decide)).1 o
 have bi:=d T.need_name fun f fd F=>zOr F (E.at_ 2 (by decide)).1 i
 have I:=d T.need_books fun f fd F=>zQP F B r aA
 have J:=c T.rows fun f fd F=>zMj F j
 have N:Needs P w K mg base:=⟨Y,aE,H,J⟩
 have NR:NeedsR P w K mg base (cs.getD 0 0) (cs.getD 1 0) (cs.getD 2 0):=⟨aA,be,bi,J⟩
 have M:=c T.gcd fun f fd F=>zNu F
 have b1:=Ln.zQ.imp (sp':=zHV) M fun h=>zNs h
 have aK:=c T.low fun f fd F=>zNv F M
 have aB:=Ln.zQ.imp (sp':=zCR) aK fun h=>zNt h
 have Z:=c T.times fun f fd F=>zMl F aB
 have aN:=c T.is_less fun f fd F=>zMm F
 have ab:=c T.is_less fun f fd F=>zQF F
 have ac:=c T.part_in fun f fd F=>zNV F B C2 aB
 have aW:=Ln.zQ.imp (sp':=zEG K) ac fun h=>zNU h
 have bj:=c T.stepsR fun f fd F=>zMr F j aW
 have bl:=c T.shareR fun f fd F=>zMv F C2 bj Z
 have bm:=c T.share fun f fd F=>zMy F N bl
 have a0:=c T.makes fun f fd F=>zMz F C2 bm aN
 have bM:=c T.place fun f fd F=>zQG F W C2 ab
 have b0:=c T.go fun f fd F=>zJM F B C Y H a0
 have O:=d T.maker fun f fd F=>zBc (zQJ F ay aE H bm bM) (zQU F I NR)
 have aj:=d T.mkrs fun f fd F=>zBc (zQL F W ay aE H a0) (zQT F I NR)
 have bn:=d T.go fun f fd F=>zBc (zJM F B C Y H a0) (zQS F NR)
 have bo:=c T.plw fun f fd F=>zPN F W j
 have aC:=c T.pbs fun f fd F=>zPQ F j bo
 have bp:=c T.anyhas fun f fd F=>zPW F av
 have p:=c T.alone fun f fd F=>zPZ F B bp
 have a1:=c T.longer fun f fd F=>zPq F B
 have al:=d T.needed fun f fd F=>zBc (zPu F B N aC p a1) (zQQ F NR)
 have a2:=c T.ispl fun f fd F=>zPe F B r n D
 have am:=c T.ispl fun f fd F=>zQV F B r g D
 have an:=d T.shows fun f fd F=>zBc (zQM (zPj F B av N a2 aC p) (zQW F B N am)) (zQR F NR)
 have a3:=c T.cell fun f fd F=>zND F B
 have l:=c T.drawn fun f fd F=>zNE F a3
 have Q:=c T.lname fun f fd F=>zNF F B l
 have a4:=c T.lbook fun f fd F=>zNG F B l Q
 have R:=c T.lcounts fun f fd F=>zOw F B
 have U:=c T.lrow fun f fd F=>zOx F B R
 have y:=c T.lcounts fun f fd F=>zQX F B
 have ap:=c T.lrow fun f fd F=>zQY F B y
 have bt:=c T.llow fun f fd F=>zPB F
 have bv:=c T.lshare fun f fd F=>zPD F B B2 U bt
 have a5:=c T.lshare fun f fd F=>zQZ F B B2 ap bt
 have a6:=c T.lmade fun f fd F=>zQa F B U
 have bB:=aD T.lrefused fun f fd F=>zOv F BE E
 have a7:=c T.ltold fun f fd F=>zQl F E aj O al an bn bB
 have a8:=c T.lgood fun f fd F=>zQk F B a5
 have a9:=c T.lbest fun f fd F=>zQq F
 have as:=c T.lshown fun f fd F=>zRC F B C KM r
 have bL:=c T.lorders fun f fd F=>zRL F b0
 exact zRS F B r W ⟨l,Q,a4,a6,bv,a9,a8,as,a7,bL⟩
end
theorem zRb {l:l9}{w:bc}{K:ae}{h:bK}{mg:Str->Option ah}{p i:ai}(X:K.In h)(G:h.Ns mainGlobals mg)(j:mg "law"=some (.ref p))
  {m b:Option ai} {n:Array (Option ah)} {o c d f a g:ah} (T:Top K)
  (q:bq K mainGlobals "law"=some (some (.ref i))) (l4:K.lookup i=some ⟨o,m,.func (dN "law" "law" (defArgs kH) (defBody kH) (defScope kH) .none c d f b a g),n⟩) (r:fT K a "law"=true) (t:dB K (.ref i)=true) :
  ∃fd:aO,(∀(s:au) (v:ah),mR s fd ⟨[v],[]⟩ [("_law_script",v)])/\∀base:bK,K.In base->base.Ns mainGlobals mg->FnOk l.prog w K mg base zU 10 p fd ["_law_script"] (zBk K):=by
 have e:=j.symm.trans (cc X G q)
 cases e
 have u:=zDY (st:=kH) l4 r t
 exact⟨dN "law" "law" (defArgs kH) (defBody kH) (defScope kH) .none c d f b a g,fun s v=>.of_eq rfl,fun base _ _=>zRa X G T u⟩
theorem zRc {l:l9}{q:aP}{loose:List Str}{XP:(Str->Option ah)->bK->Prop}{YP:bc->bK->Prop}{d:DefRec}{K:oZ->ae}(e:l.most=some 63)(b:d.params.defaults=[])
  (g:∀(w:bc) (h:bK),YP w h->(K w.params).In h)
  (F:∀(w:bc) (mg:Str->Option ah) (c:ai) (h:bK),(K w.params).In h->h.Ns mainGlobals mg->mg d.name=some (.ref c)->
   ∃fd:aO,(∀(s:au) (u:ah),mR s fd ⟨[u],[]⟩ [("_law_script",u)])/\∀base:bK,(K w.params).In base->base.Ns mainGlobals mg->FnOk l.prog w (K w.params) mg base zU 10 c fd ["_law_script"] (zBk (K w.params))) :
  qj q loose XP YP l.row.toRowW d [] (fun f vs=>ph f vs) :=
 L2.zLh (n:=63) (k:=10) (x :="_law_script") (CX:=fun _=>zU) (sp:=fun w=>zBk (K w.params)) e (by decide) b ⟨rfl,by decide,by decide⟩ g F (fun _ _ a ns hl _ i=>⟨a,ns,rfl,i,hl,fun _=>rfl⟩) fun _ _ _ _ _ z=>z
end Kn
end
section
open PySem PySem.W PyProof.Rows
set_option maxRecDepth 100000 in
set_option maxHeartbeats 0 in
theorem PySem.Challenge.cw_kinnames_k50_makers_holds : PySem.Challenge.rw_kinnames_k50_makers.Holds := by
 w_on;o_law
 refine PySem.W.holds_open (q:=Kn.kq) (loose:=Kn.klo) (Xt:=fun s=>xlAt Kn.kq [] s&&recOk [] s) (XP:=XL Kn.kq []) (Yf:=Hook.obs (kHook Kn.kfr Kn.kas Kn.kas_e)) (Ya:=Hook.val (kHook Kn.kfr Kn.kas Kn.kas_e)) (YP:=Hook.says (kHook Kn.kfr Kn.kas Kn.kas_e)) (N:=7030) Kn.hl (Hook.of (kHook Kn.kfr Kn.kas Kn.kas_e)) (Hook.keeps (kHook Kn.kfr Kn.kas Kn.kas_e)) (fun s e=>xl_of s (Bool.and_eq_true_iff.mp e).1) XL.keeps (by rfl) (by rfl) (by rfl) (fun s e=>recFacts_of (Bool.and_eq_true_iff.mp e).2) (by rfl) (by first|assumption|decide+kernel) (by decide+kernel) ⟨rfl,rfl,rfl,rfl,rfl,by decide+kernel⟩ ?hw ?hc
 (case hw=>w_witness2)
 k_fill
 refine Kn.zRc (l:=PySem.Challenge.rw_kinnames_k50_makers) rfl rfl (fun w h Y=>PySem.W.kIn_of Y) ?F
 case F=>
  intro w mg fa h KX G hmg
  refine' Kn.zRb KX G hmg ?T ?a4 ?l4 ?c4 ?k4
  (case T=>
   refine' ⟨?is_name,?is_book,?is_whole,?is_order,?is_rising,?need_book,?need_books,?need_order,?need_name,?end_of,?ends,?rows,?gcd,?low,?times,?is_less,?place,?part_in,?stepsR,?shareR,?share,?makes,?mkrs,?maker,?go,?plw,?pbs,?anyhas,?alone,?longer,?needed,?ispl,?shows,?cell,?drawn,?lname,?lbook,?lcounts,?lrow,?llow,?lshare,?lmade,?lrefused,?ltold,?lgood,?lbest,?lshown,?lorders,?letters,?ml,?mn,?mo,?ib,?nought,?whole,?errs,?kitf,?kitm,?zlen,?zrange,?zall,?zisinstance,?zstr,?ztuple,?zint,?zbool,?zsorted,?zsum,?zmin,?zmax,?zdict,?zlist,?zenumerate,?zany,?zzip,?zValueError⟩
   (case lorders=>refine' Kn.zBJ _ (fun fd F=>F.binds fun _ _ _ _ _ _ us hl=>match us,hl with| [],_=>rfl) ?kna ?knl ?knc ?knk;(case kna=>k_is);(case knl=>k_is);(case knc=>k_is);(case knk=>k_is))
   (case is_name|is_book|is_order|is_rising|need_book|need_books|need_order|need_name|place|lrefused=>refine' Kn.zBJ _ (fun fd F=>F.binds fun _ _ _ _ _ _ us hl=>match us,hl with| [_],_=>rfl) ?kna ?knl ?knc ?knk;(case kna=>k_is);(case knl=>k_is);(case knc=>k_is);(case knk=>k_is))
   (case end_of|ends|rows|gcd|low|times|is_less|part_in|go|anyhas|alone|longer|ispl|cell|lcounts|llow|lbest|lshown=>refine' Kn.zBJ _ (fun fd F=>F.binds fun _ _ _ _ _ _ us hl=>match us,hl with| [_,_],_=>rfl) ?kna ?knl ?knc ?knk;(case kna=>k_is);(case knl=>k_is);(case knc=>k_is);(case knk=>k_is))
   (case is_whole|stepsR|shareR|share|makes|mkrs|maker|plw|pbs|needed|drawn|lname|lrow|lshare|lmade|lgood=>refine' Kn.zBJ _ (fun fd F=>F.binds fun _ _ _ _ _ _ us hl=>match us,hl with| [_,_,_],_=>rfl) ?kna ?knl ?knc ?knk;(case kna=>k_is);(case knl=>k_is);(case knc=>k_is);(case knk=>k_is))
   (case shows|lbook=>refine' Kn.zBJ _ (fun fd F=>F.binds fun _ _ _ _ _ _ us hl=>match us,hl with| [_,_,_,_],_=>rfl) ?kna ?knl ?knc ?knk;(case kna=>k_is);(case knl=>k_is);(case knc=>k_is);(case knk=>k_is))
   (case ltold=>refine' Kn.zBJ _ (fun fd F=>F.binds fun _ _ _ _ _ _ us hl=>match us,hl with| [_,_,_,_,_],_=>rfl) ?kna ?knl ?knc ?knk;(case kna=>k_is);(case knl=>k_is);(case knc=>k_is);(case knk=>k_is))
   (case letters=>refine' Kn.zRU ?knq;(case knq=>k_is))
   (case ml|mn|mo=>refine' Kn.zRV ?knq;(case knq=>k_is))
   (case ib=>first|rfl|kernel_rfl|decide+kernel)
   (case nought|whole=>refine' Kn.zRW ?knq ?knr;(case knq=>k_is);(case knr=>k_is))
   (case errs=>refine' Kn.zOt ?e0 ?e1 ?e2 ?e3 ?e4 ?e5 ?e6 ?e7 ?eL ?eK;(case e0=>k_is);(case e1=>k_is);(case e2=>k_is);(case e3=>k_is);(case e4=>k_is);(case e5=>k_is);(case e6=>k_is);(case e7=>k_is);(case eL=>k_is);(case eK=>first|rfl|kernel_rfl|decide+kernel))
   (case kitf|kitm=>constructor<;>first|rfl|kernel_rfl|decide+kernel)
   (case zlen|zrange|zall|zisinstance|zstr|ztuple|zint|zbool|zsorted|zsum|zmin|zmax|zdict|zlist|zenumerate|zany|zzip|zValueError=>k_is))
  (case a4=>k_is);(case l4=>k_is);(case c4=>k_is);(case k4=>k_is)
end
