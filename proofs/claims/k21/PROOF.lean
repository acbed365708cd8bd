import PyProof.Rows.All
import Wide.All
import OpenK.AllK
import Wide.FinOn
import Lean
import PyProof.EqAt
import PyProof.EqKinds
import PyProof.TupleCall
import PyProof.CompFree
import KE.KSortAsk
import KE.KSortTup
import KE.KRevSl
import PyProof.AttrMissSeq
import KE.KDictOf
import KE.KxText
import PyProof.Rows.Range3
import PyProof.WalksMore
import PyProof.StationsW
import PyProof.Rows.Catch
import PyProof.ExcClass3
import PyProof.ExcBaseAll.ValueError
import OpenK.KOwn
import KE.KIsAll
import PyProof.FitsBits
import PyProof.ZipIter
import PyProof.Draws
import PyProof.TupleIter
import PyProof.Rows.ZipGen
import PyProof.Rows.InDataRows
import PyProof.Rows.SetFrom
import PyProof.ListMulRoad
import PyProof.StrOps2
import PyProof.FactsAll.tuple_2
import PySem.Challenge.RW_kinnames_k21_whole_lengths
open List renaming length_map→aa,getElem?_eq_some_iff→ai,mem_cons_self→aj,mem_cons_of_mem→ak,getElem?_map→aq,mem_map→au,take_succ_eq_append_getElem→az,map_cons→aC,replicate→aD,map_append→aF,getElem?_eq_getElem→aG,mem_cons→aH,length_append→aI,map_map→aJ,sum_cons→aO,mem_append_right→aP,length_take→aQ,mem_of_getElem?→aV,length_cons→aX,range→ba,mem_flatMap→bb,take_length→bc,mem_singleton→bf,mem_filter→bg,size_toArray→bq,nodup_cons→br,mem_append→bt,mem_range→bz,mem_singleton_self→bA,getElem?_append_right→bB,mem_append_left→bG,lookup_cons→bJ,length_range→bK,length_drop→bQ,foldl_cons→bR,map_congr_left→bT,getElem?_append_left→bU,count_pos_iff→bV,getD_eq_getElem?_getD→bY,length_filter_le→cb,pairwise_map→cf,foldl_append→cg,length_eq_zero_iff→cn,getElem_mem→cA,not_mem_nil→cD,length_singleton→cK,replicate_succ→c7,getElem_of_mem→c8,pairwise_cons→di,replicate_succ'→dt,mem_of_mem_take→du,take_sublist→dy,getElem?_range→dE,isEmpty_eq_false_iff_exists_mem→dF,filter_cons→dM,length_replicate→dU,append_assoc→dZ,flatten_cons→d4,nodup_append→d6,flatMap_cons→d8,any_cons→ef,map_take→eh,ext_getElem→eE,getElem_map→eF,filter_cons_of_pos→eJ,filter_cons_of_neg→eK,take_of_length_le→eX,find?_cons→eZ,range_succ→e6,getElem?_eq_none→fc,getElem_inj→fw,toArray→fA,cons_append→fC,map_eq_nil_iff→fE,sum_append→fJ,filter_append→fK,length→fN,findIdx?_eq_some_iff_getElem→fR,drop_of_length_le→fY,lookup_cons_self→gf,take_append_drop→gi,all_eq_true→gk,map→gq,take_append_of_le_length→gs,count_eq_zero_of_not_mem→gu,mem_of_mem_drop→gv,dropLast_concat_getLast→hE,filterMap_cons→ic,flatMap_append→ig,lt_irrefl→iE,drop_zero→iF,count→iI,perm_append_singleton→iK,length_eraseIdx_of_lt→iL,findIdx?_eq_none_iff→iP,drop_eq_getElem_cons→iQ,count_append→iW,length_erase_of_mem→ja,getElem?_replicate→je,getElem?_set_self→js,map_nil→jx,length_pos_of_mem→kh,of_mem_zip→kl,forIn_cons→kr,count_cons→kx,count_cons_of_ne→ll,cons_lt_cons_iff→lq,getElem?_toArray→lu,getElem?_set_ne→lC,forIn_nil→lH,drop_drop→lO,mem_erase_of_ne→lP,pairwise_append→lQ,mem_map_of_mem→l7,mem_filterMap→my,map_replicate→mB,reverse_cons→mL,count_filter→mW,drop_append→nA,map_id→nJ,nil_append→nK,foldl→oe,take_zero→om,nodup_nil→ot,all_cons→o5,lt_trans→pb,findIdx?→px,map_drop→pB,any_map→pS,all_map→pT,not_lt→qa,Nodup→qu
open PySem.W renaming Frag→ae,nsIn→bh,mg_none_of→bM,kia_one→cz,kas_place→cO,fnOf→dG,mg_of→dJ,keepIn→eB,kas_desc→eD,looks_pair→fk,codeIn→fU,kas_asc→fX,kas_descPart→il,kitOne→iB,methodObj→iS,cellsFrom_some→jw,kas_rev→kc,instObj→kj,OpenLaw→ko,lookIn→lE,kitx_list→mH,kitx_dict→mI,kas_bin→mM,kas_sort→mN,plainGet→nr,kas_count→nu,SharedT→nT,findIn→n4,WalkO→o7
open PySem renaming wpAny_bind→af,Value→ah,Addr→ao,Shared→ar,wpAny_pure→av,Program→aL,World→aU,FuncData→aY,sizeLine_eq→aZ,Heap→bx,Expr→bO,Around→bS,codeAny_builtin→bX,boot_len→b0,wpAny_holding→b7,wpAny_mono→b8,Builtin→cp,Stmt→cq,wpAny_call_entry→cB,wpAny_newObj_type→cG,wpAny_setState_of→cJ,plainId_quiet→cX,wpAny_truthy_bool→cY,wpAny_Call_Name_kw→de,codeAny_mono→dk,SetTable→dw,fits_of_scanBound→dz,wpAny_ite_split→dB,mem_of_lookup→dD,PyData→dN,wpAny_setField_rec→dR,wpAny_passesOwn→dY,wpAny_pyIter_list→d3,Spec→ee,wpAny_setEntries_of→eu,tupleKind_room_in1→eU,strKind→e7,intKind→fb,Scope→fi,wpAny_callSpecial?_slot→fQ,call_meetsIn→fW,wpAny_pyIter_slot→f6,isSubtype_type→f9,builtinLookup_eq_fast→gh,call_meets→gj,wpAny_execs_nil→gx,wpAny_updateSeq→hV,wpAny_typeOf→ip,NameKind→iC,wpAny_rule→iH,wpAny_runValue→iM,list_append→iU,wpAny_storeSet_of→iY,wpAny_setEpoch_of→iZ,wpAny_comprehension_free→i0,wpAny_newList→i8,noFill_tuple_add→jf,wpAny_Call_method0_late→jg,wpAny_askSetting→jm,wpAny_pyNext_range_end→jt,wpAny_pyIter_rangeiter→ju,codeAny_compStart_list→kb,wpAny_loadPart'→km,codeAny_of_tree→kz,typeLookup_type→lg,wpAny_isTrue_Compare1→lh,hashByValue_scannable→lr,weight_type_call_type→lx,GenState→lB,IsRangeIter→lD,Result→lF,wpAny_newFunctionEnv→lI,wpAny_seqItems→lL,entryFor_alias→lN,wpAny_fieldsOf→lU,codeAny_extend_loopS→lV,codeAny_call_builtin→lW,Keyword→lX,evalArgs_none→l5,wpAny_dictSet_pairs→l6,seq_tuple_add→mh,wpAny_attempt→mm,Paired→mw,wpAny_pyIter_range→mx,wpAny_assign_Name→mG,BindsTo→mJ,concat_meets→mK,call_sum_walkAnyS→mP,meets_dict_values→mQ,wpAny_pyHash_str→nj,wpAny_eqBool_str→nk,wpAny_execs_cons→nq,entryFor_of_tree→nv,wpAny_setScan_of→nC,wpAny_isInstance→nD,check_set_init_1→nG,wpAny_specialOf→nN,Params→nW,wpAny_Name→nX,CmpOp→nY,wpAny_load→nZ,wpAny_call→n5,typeIs_int→n9,PlainAttrs→oa,call→oh,wpAny_newTuple→oj,KeyKind→oN,intBits_le_64→oO,evalPart_none→o4,wpAny_standAt→o8,signature?_of→pA,Walks→pD,Fin→pE,Within→pI
open PySem.Heap renaming get?_push_of_some→ag,get?_push_size→aB,lt_size→aE,get?_update_other→bw,size_push→bF,get?_update_self→dW,SameBut→fz
open Option.some renaming inj→aw
open Nat renaming le_refl→ay,ne_of_lt→aS,lt_of_lt_of_le→bp,lt_succ_of_lt→bC,zero_le→bD,lt_irrefl→bE,lt_succ_self→b6,pow_le_pow_right→cQ,ne_of_gt→dj,le_of_eq→d5,le_trans→eP,le_succ→gw,sub_self→ir,le_of_lt→jr,lt_trans→jz,add_zero→kf,gcd_comm→kg,sub_zero→mO,le_of_succ_le→ng,dvd_mul_left→ny,mod_lt→oq,zero_add→pH,gcd→pN,pow_succ→pQ,Coprime→qb,not_lt→qv
open Array renaming length_toList→aR,getElem?_eq_getElem→bN,getElem?_toList→da,getElem?_eq_none→gb,getElem?_eq_some_iff→iN,toList_push→iR,toList_inj→ni,toList→pJ,ext→rf
open Bool renaming false_ne_true→aT,and_eq_true→bH,false_eq_true→cw,eq_iff_iff→eY,not_eq_true'→iX,and_self→mi,or_eq_true→nQ,and_false→og,false_or→o6,true_or→pK
open PySem.Challenge renaming pw_kinnames_k21_whole_lengths→bj
open Int renaming le_of_lt→bo,eq_ofNat_of_zero_le→ck,mul_pos→cx,toNat_natCast→cZ,mul_nonneg→c6,pow_pos→c9,mul_le_mul_of_nonneg_right→dh,dvd_trans→dq,mul_comm→dH,eq_of_mul_eq_mul_right→dQ,gcd_dvd_right→d7,mul_le_mul→eI,pow_succ→fB,add_mul→fP,dvd_refl→f7,gcd→gm,zero_mul→iq,fdiv_eq_ediv_of_nonneg→iA,emod_lt_of_pos→iJ,gcd_dvd_left→jk,emod_nonneg→ky,mul_ediv_cancel'→lM,pow_add→lR,ediv_mul_cancel→ma,lt_or_eq_of_le→mz,dvd_mul_right→mY,ediv_le_self→nz,ediv_nonneg→nR,add_nonneg→oo,mul_assoc→ph,le_of_dvd→pj,mul_zero→pM,zero_add→pO,le_trans→pU,ofNat_le→pV,lt_trans→pW,one_pow→qc
open PySem.F renaming plainAttrs_dict→bI,called_set→bZ,slot_dict_items→cj,type_dict_items→cR,slot_dict_values→dm,plain_extend_loop→dX,slot_list_getattribute→eG,plain_list_iadd→eO,slot_set_iter→fh,args_tuple_add_2→fF,type_dict_values→fH,entry_tuple_add→fO,slot_tuple_add→fV,slot_dict_get→gd,args_list_append_2→gp,slot_dict_itemiterator_iter→gr,slot_dict_setdefault→gy,entry_list_append→ie,entry_proto_collect→ix,plain_proto_collect→iy,slot_list_append→iD,args_dict_values_1→iG,entry_dict_values→iO,args_dict_get_3→ji,plainAttrs_list→jl,args_set_iter_1→jn,entry_list_iadd→jq,entry_dict_get→ka,entry_type_call→nh,typeCall_set_1→nE,entry_set_init→nF,slot_int_rmul→nM,plain_set_new→nS
open PySem.PassesOwn renaming never→bL
open PySem.Around renaming under_plainId→bP,under_plain→mE
open Prod.mk renaming inj→bW
open PySem.SetTable renaming below→b5,insertAt→d9,grown→eM,fits→gn,fill→jd,orStandIn→mC,laid→pq
open PyProof.Rows renaming callWith_type1→cc,boot_isinstance→dA,callWith_builtin1→eC,boot_sum→fg,boot_sorted→fI,IntsAre→ik,AllBare→iT,subscriptTail_builtinR→jy,boot_dict→ki,entry_list_sort→ku,boot_all→lp,boot_set→ly,slot_list_sort→lJ,args_list_sort→lK,listUpdate_at→mj,plain_sorted→mS,entry_sorted→mT,args_sorted1→mU,seqEpoch_at→nH,kind_sorted→nI,get?_update_seq→nP,StrsAre→nU,boot_range→n0,Subscript_→n6,boot_tuple→pG,boot_bool→pP,boot_str→pY,boot_int→pZ
open PySem.Obj renaming mapSeq→cu,putSet→ou
open PySem.Paired renaming length→cy,snoc→p9
open PySem.PyData renaming canLayAll0→cI,eqv→dO,canLay0→fm,depthAll→gz,depth→mX,eqvAll→o9,strOk→pR
open PySem.Value renaming isStrOf→cM,isStrOf_shape→dC,isInt→d0
open PyProof.Rows.F renaming plain_set_update_loop→cU,entry_set_update_loop→eN
open PySem.Builtin.Str renaming strSliceIndices→cV,occurrences→fM
open PySem.Builtin.List renaming listExtendWith→dI,listTooLong→eg,listSameRef→er,listLengthHint→iw
open List.Perm renaming refl→dP,append_left→p3,length_eq→qm,nodup_iff→qo,mem_iff→qw,map→ri
open Ne renaming symm→dS
open PySem.Builtin.Range renaming rangeSize→eA,small→md,rangeFitsLong→nV
open False renaming elim→eQ
open PySem.Calls renaming spliced_cons→eR,callWith_builtin→eT,call_function_entry→fD,spliced_nil→fT,Name_function_global→iz,evalArgs_plain→lG
open PySem.SeqAt renaming shaped→eV,EqAt→qp
open List.Pairwise renaming map→fj,filter→lT
open PySem.Shared renaming TypeIs→fG
open Option renaming bind_eq_some_iff→fL,map_eq_some_iff→fS,isSome_map→iV,getD_some→nB,map_some→nL
open Prod renaming snd→fZ,fst→mV,ext→rh
open Nat.Coprime renaming dvd_of_dvd_mul_left→gc
open PySem.Builtin.Frozenset renaming updateFrom→ia,sizeOf→jc,slot0→jo,newClass→ox
open PySem.Heap.SameBut renaming update→ij,refl→mZ
open PySem.Str renaming ofString→iu,length→n8,empty→qz
open PySem.Moved renaming eq_with→i9,trans→qd
open List.cons renaming inj→jb
open PySem.IsL renaming update→jh
open PySem.Builtin.Dict renaming updateFrom→jj,addKeywords→pe,selfAndRest→pf,pairItems→pL
open PyProof renaming noPylong_small→jv
open PySem.Walks renaming list→ke,range→p5
open Sum.inr renaming inj→lz
open PySem.SeqAt.EqAt renaming bool_bool→lA,str_bool→lY,bool_str→lZ,int_str→mq,str_int→mr,none_bool→p7,bool_none→p8,none_int→qg,none_str→qh,bool_int→qi,int_none→qj,int_bool→qk,str_none→ql,int_int→qq,str_str→qr,same→rg
open PySem.Builtin.Int renaming intBits→me
open PySem.Code renaming quiet_builtin→mD
open PySem.AutoListH renaming list___mul___list_int_3→mF
open PySem.Txt renaming join→mR,slice→pF
open String renaming splitOnAux→m8,splitOn→oy
open PySem.pickOrder renaming go→m9
open PySem.SetTable.below renaming go→nc
open PySem.Heap.DictOf renaming new→nO
open PySem.EqNone renaming eq_none_none→oz,eq_none_bool→oA,eq_bool_none→oB,ne_none_none→oF,ne_none_bool→oG,ne_bool_none→oH,eq_none_int→oP,eq_none_str→oQ,eq_int_none→oR,eq_str_none→oT,ne_none_int→oV,ne_none_str→oW,ne_int_none→oX,ne_str_none→oZ
open PySem.EqMixed renaming eq_bool_str→oD,eq_str_bool→oE,ne_bool_str→oJ,ne_str_bool→oK,eq_int_str→oS,eq_str_int→oU,ne_int_str→oY,ne_str_int→o2
open Decidable renaming byContradiction→oM
open PySem.ElemsOf renaming push→pX
open Sum.inl renaming inj→p4
open PySem.IsRange renaming new→p6
open PySem.ItemsOf renaming nil→qe
open Classical renaming not_forall→qf,not_imp→qx
open PySem.W.WShape renaming has→qt
open PySem.DictEntry renaming refKey→qy
set_option Elab.async false
set_option linter.all false
set_option maxRecDepth 100000
set_option maxHeartbeats 4000000
section
namespace L2
open PySem
def inClass (s:cq)(j:Nat):cq:=match s with
 | .ClassDef _ _ _ body _ _ _ _ _ _ _=>body.getD j (.Pass ⟨0,0,0,0⟩)
 |_=>.Pass ⟨0,0,0,0⟩
def defArgs (s:cq):Arguments:=match s with
 | .FunctionDef _ a _ _ _ _ _ _ _ _=>a
 |_=>{posonlyargs:=[],args:=[],vararg:=none,kwonlyargs:=[],kw_defaults:=[],kwarg:=none,defaults:=[]}
def defBody (s:cq):List cq:=match s with
 | .FunctionDef _ _ b _ _ _ _ _ _ _=>b
 |_=>[]
def defScope (s:cq):fi:=match s with
 | .FunctionDef _ _ _ _ _ _ sc _ _ _=>sc
 |_=>{kind:=.function,names:=[],isGenerator:=false,isCoroutine:=false}
end L2
namespace Kn
open PySem
def top (i:Nat):cq:=bj.main.body.getD i (.Pass ⟨0,0,0,0⟩)
end Kn
namespace Kn
open PySem PySem.W PyProof.Rows
def topRunT (tb:String->Option cp)(p:aL)(w:aU)(n₀:Nat)(ann:Option ah):Nat->nT->Thread->Option nT
 |0,_,_=>none
 |n+1,s,t=>match through t with
  |true=>some s
  |false=>match stepOk n₀ ann t with
   |false=>none
   |true=>match stepT (denote tb) p w s t with
    |some (s',t')=>topRunT tb p w n₀ ann n s' t'
    |none=>none
theorem topRun_of {tb:String->Option cp}{p:aL}{w:aU}{n₀:Nat}{ann:Option ah}:∀{n:Nat}{s s':nT}{t:Thread},topRunT tb p w n₀ ann n s t=some s'->topRun tb p w n₀ ann n s.abs t=some s'.abs
 |0,_,_,_,h=>by cases h
 |n+1,s,s',t,h=>by
  unfold topRunT at h
  unfold topRun
  cases he:through t with
  |true=>rw[he]at h;cases h;rfl
  |false=>
   rw[he]at h
   cases hk:stepOk n₀ ann t with
   |false=>rw[hk]at h;cases h
   |true=>
    rw[hk]at h
    cases hs:stepT (denote tb) p w s t with
    |none=>rw[hs]at h;cases h
    |some r=>obtain⟨s₂,t₂⟩:=r;rw[hs]at h;rw[stepT_spec hs];exact topRun_of h
def insAll:List Obj->Nat->BT->Option BT
 | [],_,T=>some T
 |o::os,n,T=>match((T.ins n o).get n).isSome with
  |true=>insAll os (n+1) (T.ins n o)
  |false=>none
theorem insAll_abs {life:Life}:∀{os:List Obj}{n:Nat}{T T':BT},insAll os n T=some T'->(absHeap T' (n+os.length) life).objs.toList=(absHeap T n life).objs.toList++os
 | [],n,T,T',h=>by cases h;simp
 |o::os,n,T,T',h=>by
  unfold insAll at h
  cases hi:((T.ins n o).get n).isSome with
  |false=>rw[hi]at h;cases h
  |true=>
   rw[hi]at h
   have h1:=insAll_abs (life:=life) h
   have h2:=absHeap_ins (life:=life) hi
   have e:n+1+os.length=n+(o::os).length:=by rw[aX];omega
   rw[<-e,h1,h2]
   show((absHeap T n life).objs.push o).toList++os=_
   rw[iR,dZ];rfl
theorem insAll_of {s:ar}{T:BT}(h:insAll s.heap.objs.toList 0 .nil=some T):(SharedT.mk T s.heap.objs.size s.heap.life s.gens s.drawn s.toks s.os).abs=s:=by
 have h1:=insAll_abs (life:=s.heap.life) h
 have e0:(absHeap .nil 0 s.heap.life).objs.toList=[]:=rfl
 have e1:0+s.heap.objs.toList.length=s.heap.objs.size:=by rw[pH];rfl
 rw[e0,nK,e1]at h1
 have h2:absHeap T s.heap.objs.size s.heap.life=s.heap:=by
  have h3:(absHeap T s.heap.objs.size s.heap.life).objs=s.heap.objs:=ni.mp h1
  have h4:(absHeap T s.heap.objs.size s.heap.life).life=s.heap.life:=rfl
  generalize absHeap T s.heap.objs.size s.heap.life=A at h3 h4
  cases A
  obtain⟨⟨o,l⟩,_,_,_,_⟩:=s
  subst h3 h4
  rfl
 unfold SharedT.abs
 dsimp only
 rw[h2]
def topFromT (tb:String->Option cp)(p:aL)(w:aU)(N:Nat)(s₀:ar)(T₀:nT):Option ar :=
 match s₀.heap.isNs mainGlobals&&s₀.gens.size==0 with
 |true=>(topRunT tb p w s₀.heap.objs.size (s₀.heap.nsMap mainGlobals "__annotations__") N T₀ (topStub p)).bind fun t₁=>match staticsOk (importedModules p.main.body) s₀.heap t₁.abs.heap&&namesBound p t₁.abs.heap&&gensDone t₁.abs&&laidKept s₀.heap t₁.abs.heap with
   |true=>some t₁.abs
   |false=>none
 |false=>none
theorem topFrom_of {tb:String->Option cp}{p:aL}{w:aU}{N:Nat}{s₀:ar}{T₀:nT}{s₁:ar}(e:T₀.abs=s₀)(h:topFromT tb p w N s₀ T₀=some s₁):topFrom tb p w N s₀=some s₁:=by
 unfold topFromT at h
 unfold topFrom
 cases hb:s₀.heap.isNs mainGlobals&&s₀.gens.size==0 with
 |false=>rw[hb]at h;cases h
 |true=>
  rw[hb]at h
  dsimp only at h⊢
  obtain⟨t₁,h1,h2⟩:=fL.mp h
  have h3:=topRun_of h1
  rw[e]at h3
  rw[h3]
  exact h2
def openEndsT (tb:String->Option cp)(p:aL)(w:aU)(N:Nat):Option ar:=(fencedOpening tb p w N).bind fun s₀=>(insAll s₀.heap.objs.toList 0 .nil).bind fun T=>topFromT tb p w N s₀ ⟨T,s₀.heap.objs.size,s₀.heap.life,s₀.gens,s₀.drawn,s₀.toks,s₀.os⟩
theorem openEnds_of {tb:String->Option cp}{p:aL}{w:aU}{N:Nat}{s₁:ar}(h:openEndsT tb p w N=some s₁):openEnds tb p w N=some s₁:=by
 obtain⟨s₀,h1,h2⟩:=fL.mp h
 obtain⟨T,h3,h4⟩:=fL.mp h2
 unfold openEnds
 rw[h1]
 exact topFrom_of (insAll_of h3) h4
theorem openMap_of {tb:String->Option cp}{p:aL}{w:aU}{N:Nat}{α:Type}{F:ar->α}{r:α}(h:(openEndsT tb p w N).map F=some r):(openEnds tb p w N).map F=some r:=by
 obtain⟨s₁,h1,h2⟩:=fS.mp h
 rw[openEnds_of h1,nL,h2]
end Kn
open PySem PySem.W PyProof.Rows
namespace Kn
open L2
def kE (P:nW)(x:Str)(t:Nat)(v:ah):DictEntry:=⟨PyData.keyHash P x,.str x t,v⟩
def kF (s:cq)(nm qn:Str)(df kd doc pm:ah)(an:Option ao)(cd ct:ah)(c:ah)(d:Option ao)(sl:Array (Option ah)):Obj :=
 ⟨c,d,.func (dG nm qn (defArgs s) (defBody s) (defScope s) df kd doc pm an cd ct),sl⟩
def kC (n:Str)(a b c:Nat)(i3 i4 i5 i6 i7:Int)(r8:ao)(b9:Bool)(i10:Int)(r11 r13 r14 r15:ao)(i16 i17:Int)(e:Nat):Obj :=
 ⟨.type "code",none,.fields #[.str n a,.str n b,.str (.ofString "/claim/cut.py") c,.int i3 0,.int i4 0,.int i5 0,.int i6 0,.int i7 0,.ref r8,.bool b9,.int i10 0,.ref r11,.none,.ref r13,.ref r14,.ref r15,.int i16 0,.int i17 0,.str (.ofString "/claim/cut.py") e],#[]⟩
def kD (s:cq)(n m:Str)(t:Nat)(c:ao):Obj:=kF s n n .none .none .none (.str m t) none (.ref c) .none (.type "function") none #[]
noncomputable def kfr:nW->Frag:=fun P=>(nat_lit 2,⟨.none,none,.dict #[] 0,#[]⟩)::
 (nat_lit 3,⟨(.type "dict"),none,.dict #[kE P (.ofString "__name__") 165 (.str (.ofString "law_kinnames_k21_whole_lengths") 618),kE P (.ofString "__doc__") 166 .none,kE P (.ofString "__package__") 167 .none,kE P (.ofString "__loader__") 168 (.builtin "__main__.__loader__#opaque"),kE P (.ofString "__spec__") 169 .none,kE P (.ofString "__annotations__") 170 (.ref 6),kE P (.ofString "__builtins__") 171 (.ref 4),kE P (.ofString "__file__") 173 (.str (.ofString "/claim/cut.py") 172),kE P (.ofString "__cached__") 174 .none,kE P (.ofString "LikeError") 206 (.ref 24),kE P (.ofString "NoBook") 222 (.ref 37),kE P (.ofString "NoOrder") 238 (.ref 49),kE P (.ofString "NoName") 254 (.ref 61),kE P (.ofString "NoNumber") 270 (.ref 73),kE P (.ofString "LETTERS") 274 (.str (.ofString "abcdefghijklmnopqrstuvwxyz") 273),kE P (.ofString "MOST_LETTERS") 276 (.int (8) 275),kE P (.ofString "MOST_NAMES") 278 (.int (8) 277),kE P (.ofString "MOST_ORDER") 280 (.int (3) 279),kE P (.ofString "is_name") 286 (.ref 80),kE P (.ofString "is_book") 292 (.ref 85),kE P (.ofString "is_whole") 301 (.ref 92),kE P (.ofString "is_order") 308 (.ref 99),kE P (.ofString "need_book") 315 (.ref 106),kE P (.ofString "need_order") 322 (.ref 113),kE P (.ofString "need_whole") 331 (.ref 120),kE P (.ofString "need_name") 338 (.ref 127),kE P (.ofString "end_of") 346 (.ref 134),kE P (.ofString "ends_and_letters") 352 (.ref 139),kE P (.ofString "counted_rows") 365 (.ref 146),kE P (.ofString "NOUGHT") 370 (.ref 147),kE P (.ofString "WHOLE") 373 (.ref 148),kE P (.ofString "greatest_divisor") 382 (.ref 155),kE P (.ofString "lowest") 391 (.ref 162),kE P (.ofString "added") 399 (.ref 169),kE P (.ofString "times") 407 (.ref 176),kE P (.ofString "is_less") 415 (.ref 183),kE P (.ofString "part_in") 423 (.ref 190),kE P (.ofString "steps_by_rows") 429 (.ref 195),kE P (.ofString "share_by_rows") 440 (.ref 202),kE P (.ofString "share") 449 (.ref 209),kE P (.ofString "makes") 458 (.ref 216),kE P (.ofString "ANY") 462 (.str (.ofString "") 461),kE P (.ofString "common_multiple") 470 (.ref 223),kE P (.ofString "whole_weight") 479 (.ref 230),kE P (.ofString "parts_by_rows") 485 (.ref 235),kE P (.ofString "even_parts") 491 (.ref 240),kE P (.ofString "left_of") 499 (.ref 247),kE P (.ofString "may_follow") 507 (.ref 254),kE P (.ofString "next_sums") 523 (.ref 261),kE P (.ofString "sum_along") 529 (.ref 266),kE P (.ofString "need_length") 538 (.ref 273),kE P (.ofString "how_many_by_rows") 547 (.ref 280),kE P (.ofString "how_many") 556 (.ref 287),kE P (.ofString "share_from_to") 562 (.ref 292),kE P (.ofString "share_of_length") 571 (.ref 299),kE P (.ofString "share_up_to") 580 (.ref 306),kE P (.ofString "letters_towards") 586 (.ref 311),kE P (.ofString "closing_ends") 592 (.ref 316),kE P (.ofString "lengthened") 598 (.ref 321),kE P (.ofString "all_made") 611 (.ref 328),kE P (.ofString "lengths") 617 (.ref 333),kE P (.ofString "_law_cell") 627 (.ref 340),kE P (.ofString "_law_drawn") 637 (.ref 347),kE P (.ofString "_law_name") 643 (.ref 352),kE P (.ofString "_law_book") 655 (.ref 359),kE P (.ofString "law") 661 (.ref 364)] 66,#[]⟩)::
 (nat_lit 23,⟨(.type "dict"),none,.dict #[kE P (.ofString "__module__") 196 (.str (.ofString "kinnames.errors") 187),kE P (.ofString "__firstlineno__") 200 (.int (2) 199),kE P (.ofString "__static_attributes__") 201 (.ref 22),kE P (.ofString "__weakref__") 203 (.ref 25),kE P (.ofString "__doc__") 204 .none] 3,#[]⟩)::
 (nat_lit 24,⟨(.type "type"),none,.cls ⟨(.ofString "LikeError"),[(.type "ValueError")],[(.ref 24),(.type "ValueError"),(.type "Exception"),(.type "BaseException"),(.type "object")],23,(.ofString "LikeError"),true,[],[(.ref 37),(.ref 49),(.ref 61),(.ref 73)],false,none,false⟩,#[(some (.ref 15)),none,(some (.str (.ofString "LikeError") 189)),(some (.str (.ofString "LikeError") 197)),(some (.builtin "ValueError.__new__")),(some (.bool true))]⟩)::
 (nat_lit 25,⟨(.type "getset_descriptor"),none,.fields #[(.str (.ofString "__weakref__") 202),(.ref 24),(.builtin "ExceptionGroup.__weakref__"),.none],#[]⟩)::
 (nat_lit 36,⟨(.type "dict"),none,.dict #[kE P (.ofString "__module__") 214 (.str (.ofString "kinnames.errors") 187),kE P (.ofString "__firstlineno__") 218 (.int (4) 217),kE P (.ofString "__static_attributes__") 219 (.ref 35),kE P (.ofString "__doc__") 220 .none] 2,#[]⟩)::
 (nat_lit 37,⟨(.type "type"),none,.cls ⟨(.ofString "NoBook"),[(.ref 24)],[(.ref 37),(.ref 24),(.type "ValueError"),(.type "Exception"),(.type "BaseException"),(.type "object")],36,(.ofString "NoBook"),true,[],[],false,none,false⟩,#[(some (.ref 28)),none,(some (.str (.ofString "NoBook") 207)),(some (.str (.ofString "NoBook") 215)),(some (.builtin "ValueError.__new__")),(some (.bool true))]⟩)::
 (nat_lit 48,⟨(.type "dict"),none,.dict #[kE P (.ofString "__module__") 230 (.str (.ofString "kinnames.errors") 187),kE P (.ofString "__firstlineno__") 234 (.int (6) 233),kE P (.ofString "__static_attributes__") 235 (.ref 47),kE P (.ofString "__doc__") 236 .none] 2,#[]⟩)::
 (nat_lit 49,⟨(.type "type"),none,.cls ⟨(.ofString "NoOrder"),[(.ref 24)],[(.ref 49),(.ref 24),(.type "ValueError"),(.type "Exception"),(.type "BaseException"),(.type "object")],48,(.ofString "NoOrder"),true,[],[],false,none,false⟩,#[(some (.ref 40)),none,(some (.str (.ofString "NoOrder") 223)),(some (.str (.ofString "NoOrder") 231)),(some (.builtin "ValueError.__new__")),(some (.bool true))]⟩)::
 (nat_lit 60,⟨(.type "dict"),none,.dict #[kE P (.ofString "__module__") 246 (.str (.ofString "kinnames.errors") 187),kE P (.ofString "__firstlineno__") 250 (.int (8) 249),kE P (.ofString "__static_attributes__") 251 (.ref 59),kE P (.ofString "__doc__") 252 .none] 2,#[]⟩)::
 (nat_lit 61,⟨(.type "type"),none,.cls ⟨(.ofString "NoName"),[(.ref 24)],[(.ref 61),(.ref 24),(.type "ValueError"),(.type "Exception"),(.type "BaseException"),(.type "object")],60,(.ofString "NoName"),true,[],[],false,none,false⟩,#[(some (.ref 52)),none,(some (.str (.ofString "NoName") 239)),(some (.str (.ofString "NoName") 247)),(some (.builtin "ValueError.__new__")),(some (.bool true))]⟩)::
 (nat_lit 72,⟨(.type "dict"),none,.dict #[kE P (.ofString "__module__") 262 (.str (.ofString "kinnames.errors") 187),kE P (.ofString "__firstlineno__") 266 (.int (10) 265),kE P (.ofString "__static_attributes__") 267 (.ref 71),kE P (.ofString "__doc__") 268 .none] 2,#[]⟩)::
 (nat_lit 73,⟨(.type "type"),none,.cls ⟨(.ofString "NoNumber"),[(.ref 24)],[(.ref 73),(.ref 24),(.type "ValueError"),(.type "Exception"),(.type "BaseException"),(.type "object")],72,(.ofString "NoNumber"),true,[],[],false,none,false⟩,#[(some (.ref 64)),none,(some (.str (.ofString "NoNumber") 255)),(some (.str (.ofString "NoNumber") 263)),(some (.builtin "ValueError.__new__")),(some (.bool true))]⟩)::
 (nat_lit 79,⟨(.type "code"),none,.fields #[(.str (.ofString "is_name") 281),(.str (.ofString "is_name") 282),(.str (.ofString "/claim/cut.py") 283),(.int (17) 0),(.int (1) 0),(.int (0) 0),(.int (0) 0),(.int (3) 0),(.ref 76),(.bool true),(.int (181) 0),(.ref 77),.none,.none,.none,(.ref 78),(.int (284) 0),(.int (17) 0),(.str (.ofString "/claim/cut.py") 285)],#[]⟩)::
 (nat_lit 80,kD (top 11) "is_name" "kinnames.books" 271 79)::
 (nat_lit 84,⟨(.type "code"),none,.fields #[(.str (.ofString "is_book") 287),(.str (.ofString "is_book") 288),(.str (.ofString "/claim/cut.py") 289),(.int (21) 0),(.int (1) 0),(.int (0) 0),(.int (0) 0),(.int (3) 0),(.ref 81),(.bool true),(.int (181) 0),(.ref 82),.none,.none,.none,(.ref 83),(.int (290) 0),(.int (21) 0),(.str (.ofString "/claim/cut.py") 291)],#[]⟩)::
 (nat_lit 85,kD (top 12) "is_book" "kinnames.books" 271 84)::
 (nat_lit 91,kC "is_whole" 293 294 295 25 3 0 0 3 86 true 181 87 88 89 90 299 25 300)::
 (nat_lit 92,kD (top 13) "is_whole" "kinnames.books" 271 91)::
 (nat_lit 98,kC "is_order" 302 303 304 29 1 0 0 3 93 true 181 94 95 96 97 306 29 307)::
 (nat_lit 99,kD (top 14) "is_order" "kinnames.books" 271 98)::
 (nat_lit 105,kC "need_book" 309 310 311 31 1 0 0 3 100 true 181 101 102 103 104 313 31 314)::
 (nat_lit 106,kD (top 15) "need_book" "kinnames.books" 271 105)::
 (nat_lit 112,kC "need_order" 316 317 318 34 1 0 0 3 107 true 181 108 109 110 111 320 34 321)::
 (nat_lit 113,kD (top 16) "need_order" "kinnames.books" 271 112)::
 (nat_lit 119,kC "need_whole" 323 324 325 37 3 0 0 3 114 true 181 115 116 117 118 329 37 330)::
 (nat_lit 120,kD (top 17) "need_whole" "kinnames.books" 271 119)::
 (nat_lit 126,kC "need_name" 332 333 334 40 1 0 0 3 121 true 181 122 123 124 125 336 40 337)::
 (nat_lit 127,kD (top 18) "need_name" "kinnames.books" 271 126)::
 (nat_lit 133,kC "end_of" 339 340 341 43 2 0 0 3 128 true 181 129 130 131 132 344 43 345)::
 (nat_lit 134,kD (top 19) "end_of" "kinnames.books" 271 133)::
 (nat_lit 138,⟨(.type "code"),none,.fields #[(.str (.ofString "ends_and_letters") 347),(.str (.ofString "ends_and_letters") 348),(.str (.ofString "/claim/cut.py") 349),(.int (45) 0),(.int (2) 0),(.int (0) 0),(.int (0) 0),(.int (3) 0),(.ref 135),(.bool true),(.int (181) 0),(.ref 136),.none,.none,.none,(.ref 137),(.int (350) 0),(.int (45) 0),(.str (.ofString "/claim/cut.py") 351)],#[]⟩)::
 (nat_lit 139,kD (top 20) "ends_and_letters" "kinnames.books" 271 138)::
 (nat_lit 145,kC "counted_rows" 353 354 355 47 2 0 0 3 140 true 181 141 142 143 144 363 47 364)::
 (nat_lit 146,kD (top 21) "counted_rows" "kinnames.books" 271 145)::
 (nat_lit 147,⟨(.type "tuple"),none,.seq #[(.int (0) 368),(.int (1) 369)] 0,#[]⟩)::
 (nat_lit 148,⟨(.type "tuple"),none,.seq #[(.int (1) 371),(.int (1) 372)] 0,#[]⟩)::
 (nat_lit 154,kC "greatest_divisor" 374 375 376 57 2 0 0 3 149 true 181 150 151 152 153 380 57 381)::
 (nat_lit 155,kD (top 25) "greatest_divisor" "kinnames.shares" 366 154)::
 (nat_lit 161,kC "lowest" 383 384 385 63 2 0 0 3 156 true 181 157 158 159 160 389 63 390)::
 (nat_lit 162,kD (top 26) "lowest" "kinnames.shares" 366 161)::
 (nat_lit 168,kC "added" 392 393 394 66 2 0 0 3 163 true 181 164 165 166 167 397 66 398)::
 (nat_lit 169,kD (top 27) "added" "kinnames.shares" 366 168)::
 (nat_lit 175,kC "times" 400 401 402 68 2 0 0 3 170 true 181 171 172 173 174 405 68 406)::
 (nat_lit 176,kD (top 28) "times" "kinnames.shares" 366 175)::
 (nat_lit 182,kC "is_less" 408 409 410 70 2 0 0 3 177 true 181 178 179 180 181 413 70 414)::
 (nat_lit 183,kD (top 29) "is_less" "kinnames.shares" 366 182)::
 (nat_lit 189,kC "part_in" 416 417 418 72 2 0 0 3 184 true 181 185 186 187 188 421 72 422)::
 (nat_lit 190,kD (top 30) "part_in" "kinnames.shares" 366 189)::
 (nat_lit 194,⟨(.type "code"),none,.fields #[(.str (.ofString "steps_by_rows") 424),(.str (.ofString "steps_by_rows") 425),(.str (.ofString "/claim/cut.py") 426),(.int (76) 0),(.int (3) 0),(.int (0) 0),(.int (0) 0),(.int (3) 0),(.ref 191),(.bool true),(.int (181) 0),(.ref 192),.none,.none,.none,(.ref 193),(.int (427) 0),(.int (76) 0),(.str (.ofString "/claim/cut.py") 428)],#[]⟩)::
 (nat_lit 195,kD (top 31) "steps_by_rows" "kinnames.shares" 366 194)::
 (nat_lit 201,kC "share_by_rows" 430 431 432 78 3 0 0 3 196 true 181 197 198 199 200 438 78 439)::
 (nat_lit 202,kD (top 32) "share_by_rows" "kinnames.shares" 366 201)::
 (nat_lit 208,kC "share" 441 442 443 83 3 0 0 3 203 true 181 204 205 206 207 447 83 448)::
 (nat_lit 209,kD (top 33) "share" "kinnames.shares" 366 208)::
 (nat_lit 215,kC "makes" 450 451 452 88 3 0 0 3 210 true 181 211 212 213 214 456 88 457)::
 (nat_lit 216,kD (top 34) "makes" "kinnames.shares" 366 215)::
 (nat_lit 222,kC "common_multiple" 463 464 465 92 2 0 0 3 217 true 181 218 219 220 221 468 92 469)::
 (nat_lit 223,kD (top 37) "common_multiple" "kinnames.ways" 459 222)::
 (nat_lit 229,kC "whole_weight" 471 472 473 94 1 0 0 3 224 true 181 225 226 227 228 477 94 478)::
 (nat_lit 230,kD (top 38) "whole_weight" "kinnames.ways" 459 229)::
 (nat_lit 234,⟨(.type "code"),none,.fields #[(.str (.ofString "parts_by_rows") 480),(.str (.ofString "parts_by_rows") 481),(.str (.ofString "/claim/cut.py") 482),(.int (99) 0),(.int (1) 0),(.int (0) 0),(.int (0) 0),(.int (3) 0),(.ref 231),(.bool true),(.int (181) 0),(.ref 232),.none,.none,.none,(.ref 233),(.int (483) 0),(.int (99) 0),(.str (.ofString "/claim/cut.py") 484)],#[]⟩)::
 (nat_lit 235,kD (top 39) "parts_by_rows" "kinnames.ways" 459 234)::
 (nat_lit 239,⟨(.type "code"),none,.fields #[(.str (.ofString "even_parts") 486),(.str (.ofString "even_parts") 487),(.str (.ofString "/claim/cut.py") 488),(.int (104) 0),(.int (1) 0),(.int (0) 0),(.int (0) 0),(.int (3) 0),(.ref 236),(.bool true),(.int (181) 0),(.ref 237),.none,.none,.none,(.ref 238),(.int (489) 0),(.int (104) 0),(.str (.ofString "/claim/cut.py") 490)],#[]⟩)::
 (nat_lit 240,kD (top 40) "even_parts" "kinnames.ways" 459 239)::
 (nat_lit 246,kC "left_of" 492 493 494 109 2 0 0 3 241 true 181 242 243 244 245 497 109 498)::
 (nat_lit 247,kD (top 41) "left_of" "kinnames.ways" 459 246)::
 (nat_lit 253,kC "may_follow" 500 501 502 111 2 0 0 3 248 true 181 249 250 251 252 505 111 506)::
 (nat_lit 254,kD (top 42) "may_follow" "kinnames.ways" 459 253)::
 (nat_lit 260,kC "next_sums" 508 509 510 113 4 0 0 3 255 true 181 256 257 258 259 521 113 522)::
 (nat_lit 261,kD (top 43) "next_sums" "kinnames.ways" 459 260)::
 (nat_lit 265,⟨(.type "code"),none,.fields #[(.str (.ofString "sum_along") 524),(.str (.ofString "sum_along") 525),(.str (.ofString "/claim/cut.py") 526),(.int (121) 0),(.int (4) 0),(.int (0) 0),(.int (0) 0),(.int (3) 0),(.ref 262),(.bool true),(.int (181) 0),(.ref 263),.none,.none,.none,(.ref 264),(.int (527) 0),(.int (121) 0),(.str (.ofString "/claim/cut.py") 528)],#[]⟩)::
 (nat_lit 266,kD (top 44) "sum_along" "kinnames.ways" 459 265)::
 (nat_lit 272,kC "need_length" 532 533 534 127 1 0 0 3 267 true 181 268 269 270 271 536 127 537)::
 (nat_lit 273,kD (top 46) "need_length" "kinnames.lengths" 530 272)::
 (nat_lit 279,kC "how_many_by_rows" 539 540 541 129 3 0 0 3 274 true 181 275 276 277 278 545 129 546)::
 (nat_lit 280,kD (top 47) "how_many_by_rows" "kinnames.lengths" 530 279)::
 (nat_lit 286,kC "how_many" 548 549 550 131 3 0 0 3 281 true 181 282 283 284 285 554 131 555)::
 (nat_lit 287,kD (top 48) "how_many" "kinnames.lengths" 530 286)::
 (nat_lit 291,⟨(.type "code"),none,.fields #[(.str (.ofString "share_from_to") 557),(.str (.ofString "share_from_to") 558),(.str (.ofString "/claim/cut.py") 559),(.int (136) 0),(.int (4) 0),(.int (0) 0),(.int (0) 0),(.int (3) 0),(.ref 288),(.bool true),(.int (181) 0),(.ref 289),.none,.none,.none,(.ref 290),(.int (560) 0),(.int (136) 0),(.str (.ofString "/claim/cut.py") 561)],#[]⟩)::
 (nat_lit 292,kD (top 49) "share_from_to" "kinnames.lengths" 530 291)::
 (nat_lit 298,kC "share_of_length" 563 564 565 142 3 0 0 3 293 true 181 294 295 296 297 569 142 570)::
 (nat_lit 299,kD (top 50) "share_of_length" "kinnames.lengths" 530 298)::
 (nat_lit 305,kC "share_up_to" 572 573 574 147 3 0 0 3 300 true 181 301 302 303 304 578 147 579)::
 (nat_lit 306,kD (top 51) "share_up_to" "kinnames.lengths" 530 305)::
 (nat_lit 310,⟨(.type "code"),none,.fields #[(.str (.ofString "letters_towards") 581),(.str (.ofString "letters_towards") 582),(.str (.ofString "/claim/cut.py") 583),(.int (152) 0),(.int (4) 0),(.int (0) 0),(.int (0) 0),(.int (3) 0),(.ref 307),(.bool true),(.int (181) 0),(.ref 308),.none,.none,.none,(.ref 309),(.int (584) 0),(.int (152) 0),(.str (.ofString "/claim/cut.py") 585)],#[]⟩)::
 (nat_lit 311,kD (top 52) "letters_towards" "kinnames.lengths" 530 310)::
 (nat_lit 315,⟨(.type "code"),none,.fields #[(.str (.ofString "closing_ends") 587),(.str (.ofString "closing_ends") 588),(.str (.ofString "/claim/cut.py") 589),(.int (154) 0),(.int (3) 0),(.int (0) 0),(.int (0) 0),(.int (3) 0),(.ref 312),(.bool true),(.int (181) 0),(.ref 313),.none,.none,.none,(.ref 314),(.int (590) 0),(.int (154) 0),(.str (.ofString "/claim/cut.py") 591)],#[]⟩)::
 (nat_lit 316,kD (top 53) "closing_ends" "kinnames.lengths" 530 315)::
 (nat_lit 320,⟨(.type "code"),none,.fields #[(.str (.ofString "lengthened") 593),(.str (.ofString "lengthened") 594),(.str (.ofString "/claim/cut.py") 595),(.int (160) 0),(.int (4) 0),(.int (0) 0),(.int (0) 0),(.int (3) 0),(.ref 317),(.bool true),(.int (181) 0),(.ref 318),.none,.none,.none,(.ref 319),(.int (596) 0),(.int (160) 0),(.str (.ofString "/claim/cut.py") 597)],#[]⟩)::
 (nat_lit 321,kD (top 54) "lengthened" "kinnames.lengths" 530 320)::
 (nat_lit 327,kC "all_made" 599 600 601 168 3 0 0 3 322 true 181 323 324 325 326 609 168 610)::
 (nat_lit 328,kD (top 55) "all_made" "kinnames.lengths" 530 327)::
 (nat_lit 332,⟨(.type "code"),none,.fields #[(.str (.ofString "lengths") 612),(.str (.ofString "lengths") 613),(.str (.ofString "/claim/cut.py") 614),(.int (178) 0),(.int (2) 0),(.int (0) 0),(.int (0) 0),(.int (3) 0),(.ref 329),(.bool true),(.int (181) 0),(.ref 330),.none,.none,.none,(.ref 331),(.int (615) 0),(.int (178) 0),(.str (.ofString "/claim/cut.py") 616)],#[]⟩)::
 (nat_lit 333,kD (top 56) "lengths" "kinnames.lengths" 530 332)::
 (nat_lit 339,kC "_law_cell" 620 621 622 184 2 0 0 3 334 true 181 335 336 337 338 625 184 626)::
 (nat_lit 340,kD (top 58) "_law_cell" "law_kinnames_k21_whole_lengths" 618 339)::
 (nat_lit 346,kC "_law_drawn" 628 629 630 188 3 0 0 3 341 true 181 342 343 344 345 635 188 636)::
 (nat_lit 347,kD (top 59) "_law_drawn" "law_kinnames_k21_whole_lengths" 618 346)::
 (nat_lit 351,⟨(.type "code"),none,.fields #[(.str (.ofString "_law_name") 638),(.str (.ofString "_law_name") 639),(.str (.ofString "/claim/cut.py") 640),(.int (192) 0),(.int (3) 0),(.int (0) 0),(.int (0) 0),(.int (3) 0),(.ref 348),(.bool true),(.int (181) 0),(.ref 349),.none,.none,.none,(.ref 350),(.int (641) 0),(.int (192) 0),(.str (.ofString "/claim/cut.py") 642)],#[]⟩)::
 (nat_lit 352,kD (top 60) "_law_name" "law_kinnames_k21_whole_lengths" 618 351)::
 (nat_lit 358,kC "_law_book" 644 645 646 196 4 0 0 3 353 true 181 354 355 356 357 653 196 654)::
 (nat_lit 359,kD (top 61) "_law_book" "law_kinnames_k21_whole_lengths" 618 358)::
 (nat_lit 363,⟨(.type "code"),none,.fields #[(.str (.ofString "law") 656),(.str (.ofString "law") 657),(.str (.ofString "/claim/cut.py") 658),(.int (201) 0),(.int (1) 0),(.int (0) 0),(.int (0) 0),(.int (3) 0),(.ref 360),(.bool true),(.int (181) 0),(.ref 361),.none,.none,.none,(.ref 362),(.int (659) 0),(.int (201) 0),(.str (.ofString "/claim/cut.py") 660)],#[]⟩)::
 (nat_lit 364,kD (top 62) "law" "law_kinnames_k21_whole_lengths" 618 363)::[]
def kas:List ao:=[2,3,23,24,25,36,37,48,49,60,61,72,73,79,80,84,85,91,92,98,99,105,106,112,113,119,120,126,127,133,134,138,139,145,146,147,148,154,155,161,162,168,169,175,176,182,183,189,190,194,195,201,202,208,209,215,216,222,223,229,230,234,235,239,240,246,247,253,254,260,261,265,266,272,273,279,280,286,287,291,292,298,299,305,306,310,311,315,316,320,321,327,328,332,333,339,340,346,347,351,352,358,359,363,364]
def kq:aL:=view bj [1,2,3,4,5,7,8,9,10,11,12,13,14,15,16,17,18,19,20,21,23,24,25,26,27,28,29,30,31,32,33,34,36,37,38,39,40,41,42,43,44,46,47,48,49,50,51,52,53,54,55,56,58,59,60,61,62]
def klo:List Str:=[]
theorem kas_e:∀P,kas=(kfr P).map (·.1):=fun _=>by kernel_rfl
noncomputable def hl0 (w:aU):=(openEndsT treeTable bj w 5102).map (fun s=>(seen ((recsOf kq).map (·.name)) (ownsOf kq) [] {s with gens:=#[]},s.heap.bltView,(s.heap.keysOk (looseW kq klo) ((recsOf kq).map (·.name)) ((litsOf kq).map (·.1)) ((clssOf kq (looseW kq klo)).map (·.name))&&s.heap.accountedOkI (importedModules bj.main.body)&&s.heap.isNs mainGlobals&&s.heap.isNs builtinsNs&&tablesOk kq s.heap&& (xlAt kq [] s&&recOk [] s)&& (if true=true then s.gens.size==0 else !leftWithCleanup s.gens))))
noncomputable def hr0 (w:aU):=some (expectedOf kq,bltViewBooted,true)
theorem hl0_e:hl0=hl0:=rfl
theorem hr0_e:hr0=hr0:=rfl
noncomputable def hl1 (w:aU):=(openEndsT treeTable bj w 5102).map (fun s=>(tabsOk kq s,pinSeenD kq (drecsOf kq) s,plainSeenE kq (looseW kq klo) s,plainSeenD kq klo s,wideSeen kq s,clsSeenW kq klo s))
noncomputable def hr1 (w:aU):=some (true,pinGoodD (drecsOf kq),plainGoodE kq (looseW kq klo),plainGoodD kq klo,wideGood kq,clsGoodW kq klo)
theorem hl1_e:hl1=hl1:=rfl
theorem hr1_e:hr1=hr1:=rfl
noncomputable def hl2 (w:aU):=(openEndsT treeTable bj w 5102).map (fun s=>(kas.map s.heap.get?))
noncomputable def hr2 (w:aU):=some ((kfr w.params).map fun p=>some p.2)
theorem hl2_e:hl2=hl2:=rfl
theorem hr2_e:hr2=hr2:=rfl
end Kn
name_quick hl0Q for Kn.hl0 by Kn.hl0_e
name_quick hr0Q for Kn.hr0 by Kn.hr0_e
theorem Kn.hq0 (w:aU):PySem.W.Fast.hl0Q w=PySem.W.Fast.hr0Q w:=by kernel_rfl
theorem Kn.hx0 (w:aU):Kn.hl0 w=Kn.hr0 w:=((congrFun PySem.W.Fast.hl0Q_eq w).trans (Kn.hq0 w)).trans (congrFun PySem.W.Fast.hr0Q_eq w).symm
name_quick hl1Q for Kn.hl1 by Kn.hl1_e
name_quick hr1Q for Kn.hr1 by Kn.hr1_e
theorem Kn.hq1 (w:aU):PySem.W.Fast.hl1Q w=PySem.W.Fast.hr1Q w:=by kernel_rfl
theorem Kn.hx1 (w:aU):Kn.hl1 w=Kn.hr1 w:=((congrFun PySem.W.Fast.hl1Q_eq w).trans (Kn.hq1 w)).trans (congrFun PySem.W.Fast.hr1Q_eq w).symm
name_quick hl2Q for Kn.hl2 by Kn.hl2_e
name_quick hr2Q for Kn.hr2 by Kn.hr2_e
theorem Kn.hq2 (w:aU):PySem.W.Fast.hl2Q w=PySem.W.Fast.hr2Q w:=by kernel_rfl
theorem Kn.hx2 (w:aU):Kn.hl2 w=Kn.hr2 w:=((congrFun PySem.W.Fast.hl2Q_eq w).trans (Kn.hq2 w)).trans (congrFun PySem.W.Fast.hr2Q_eq w).symm
theorem Kn.hl:LeftO bj Kn.kq Kn.klo (fun s=>xlAt Kn.kq [] s&&recOk [] s) (Hook.obs (kHook Kn.kfr Kn.kas Kn.kas_e)) (Hook.val (kHook Kn.kfr Kn.kas Kn.kas_e)) 5102:=fun w=>by
 refine Kn.openMap_of ?_
 obtain⟨s,e,x0⟩:=fS.mp (Kn.hx0 w)
 have y1:=Kn.hx1 w
 unfold Kn.hl1 at y1
 rw[e]at y1
 have x1:=aw y1
 have y2:=Kn.hx2 w
 unfold Kn.hl2 at y2
 rw[e]at y2
 have x2:=aw y2
 obtain⟨a1,z0_0⟩:=bW x0
 obtain⟨a2,z0_1⟩:=bW z0_0
 have a3:=z0_1
 obtain⟨a4,z1_0⟩:=bW x1
 obtain⟨a5,z1_1⟩:=bW z1_0
 obtain⟨a6,z1_2⟩:=bW z1_1
 obtain⟨a7,z1_3⟩:=bW z1_2
 obtain⟨a8,z1_4⟩:=bW z1_3
 have a9:=z1_4
 have aK:=x2
 rw[e]
 exact congrArg some (fk (fk a1 (fk a2 (fk a3 (fk a4 (fk a5 (fk a6 (fk a7 (fk a8 a9)))))))) aK)
end
section
namespace L2
open PySem PySem.Spec PyProof.Rows
abbrev zI:=Sum Int Str
def qS:zI->ah->Bool
 | .inl k,v=>d0 k v
 | .inr x,v=>cM x v
def zIQ (w:aU):zI->Int
 | .inl k=>hashInt k
 | .inr x=>hashStr w x
theorem uH:∀{k:zI}{v:ah},qS k v=true->(∃i t,k=Sum.inl i/\v=Value.int i t)\/(∃x t,k=Sum.inr x/\v=Value.str x t)
 | .inl i,v,h=>by
  obtain⟨t,e⟩:=Value.isInt_shape (k:=i) (v:=v) h
  exact .inl ⟨i,t,rfl,e⟩
 | .inr x,v,h=>by
  obtain⟨t,e⟩:=dC (x:=x) (v:=v) h
  exact .inr ⟨x,t,rfl,e⟩
theorem zIR (i:Int)(t:Tok):qS (.inl i) (.int i t)=true:=by simp[qS,d0]
theorem zIS (x:Str)(t:Tok):qS (.inr x) (.str x t)=true:=by simp[qS,cM]
theorem zIT (a b:Int):decide ((Sum.inl a:zI)=Sum.inl b)=(a==b):=by
 by_cases e:a=b
 ·subst e;simp
 ·have h:¬(Sum.inl a:zI)=Sum.inl b:=fun q=>e (p4 q)
  rw[decide_eq_false h]
  exact(beq_eq_false_iff_ne.mpr e).symm
theorem zIU (a b:Str):decide ((Sum.inr a:zI)=Sum.inr b)=decide (a=b):=by
 by_cases e:a=b
 ·subst e;simp
 ·have h:¬(Sum.inr a:zI)=Sum.inr b:=fun q=>e (lz q)
  rw[decide_eq_false h,decide_eq_false e]
theorem zIV (a:Int)(b:Str):decide ((Sum.inl a:zI)=Sum.inr b)=false:=decide_eq_false (fun q=>nomatch q)
theorem zIW (a:Str)(b:Int):decide ((Sum.inr a:zI)=Sum.inl b)=false:=decide_eq_false (fun q=>nomatch q)
def y0 (prog:aL)(w:aU):oN prog w zI where
 is:=qS
 hash:=zIQ w
 inj:=fun v a b ha hb=>by
  rcases uH ha with⟨i,t,rfl,rfl⟩|⟨x,t,rfl,rfl⟩
  ·rcases uH hb with⟨j,u,rfl,e⟩|⟨y,u,rfl,e⟩
   ·injection e with e1 _;rw[e1]
   ·exact nomatch e
  ·rcases uH hb with⟨j,u,rfl,e⟩|⟨y,u,rfl,e⟩
   ·exact nomatch e
   ·injection e with e1 _;rw[e1]
 byValue:=fun k v h=>by
  rcases uH h with⟨i,t,rfl,rfl⟩|⟨x,t,rfl,rfl⟩<;>rfl
 pyHash:=fun hv h=>by
  rcases uH hv with⟨i,t,rfl,rfl⟩|⟨x,t,rfl,rfl⟩
  ·exact wpAny_pyHash_int h
  ·exact nj h
 eqBool:=fun hu hv h=>by
  rcases uH hu with⟨i,t,rfl,rfl⟩|⟨x,t,rfl,rfl⟩
  ·rcases uH hv with⟨j,u,rfl,rfl⟩|⟨y,u,rfl,rfl⟩
   ·rw[zIT]at h;exact wpAny_eqBool_int h
   ·rw[zIV]at h;exact mq i t y u _ _ _ _ h
  ·rcases uH hv with⟨j,u,rfl,rfl⟩|⟨y,u,rfl,rfl⟩
   ·rw[zIW]at h;exact mr x t j u _ _ _ _ h
   ·rw[zIU]at h;exact nk h
 «strs»:=fun k x t v h=>by
  rcases uH h with⟨i,u,rfl,e⟩|⟨y,u,rfl,e⟩
  ·exact nomatch e
  ·injection e with e1 _
   subst e1
   cases v<;>rfl
abbrev yG:=Sum Str Bool
def zEA:yG->ah->Bool
 | .inl x,v=>cM x v
 | .inr b,v=>v==Value.bool b
theorem qT:∀{k:yG}{v:ah},zEA k v=true->(∃x t,k=Sum.inl x/\v=Value.str x t)\/(∃b,k=Sum.inr b/\v=Value.bool b)
 | .inl x,v,h=>by
  obtain⟨t,e⟩:=dC (x:=x) (v:=v) h
  exact .inl ⟨x,t,rfl,e⟩
 | .inr b,v,h=>.inr ⟨b,rfl,eq_of_beq h⟩
def tkH (w:aU):yG->Int
 | .inl x=>hashStr w x
 | .inr b=>reduceHash (if b then 1 else 0)
theorem zIX {prog:aL}{w:aU}{A:bS}{E:ah->ar->Prop}{s:ar}{b:Bool}{Q:Int->ar->Prop}(h:Q (reduceHash (if b then 1 else 0)) {s with toks:=s.toks+1}) :
  wpAny (model prog w) A (pyHash (.bool b)) Q E s:=by
 refine PySem.W.pyHash_slot (T :="bool") rfl F.slot_bool_hash F.entry_int_hash (F.args_int_hash_1 _) (by decide) (.inl (by cases b<;>rfl)) ?_
 unfold cp.«int.__hash__»
 cases b
 ·wp_walk
  exact⟨_,_,rfl,h⟩
 ·wp_walk
  exact⟨_,_,rfl,h⟩
def jF (prog:aL)(w:aU):oN prog w yG where
 is:=zEA
 hash:=tkH w
 inj:=fun v a b ha hb=>by
  rcases qT ha with⟨x,t,rfl,rfl⟩|⟨c,rfl,rfl⟩
  ·rcases qT hb with⟨y,u,rfl,e⟩|⟨d,rfl,e⟩
   ·injection e with e1 _;rw[e1]
   ·exact nomatch e
  ·rcases qT hb with⟨y,u,rfl,e⟩|⟨d,rfl,e⟩
   ·exact nomatch e
   ·injection e with e1;rw[e1]
 byValue:=fun k v h=>by
  rcases qT h with⟨x,t,rfl,rfl⟩|⟨c,rfl,rfl⟩<;>rfl
 pyHash:=fun hv h=>by
  rcases qT hv with⟨x,t,rfl,rfl⟩|⟨c,rfl,rfl⟩
  ·exact nj h
  ·exact zIX h
 eqBool:=fun hu hv h=>by
  rcases qT hu with⟨x,t,rfl,rfl⟩|⟨c,rfl,rfl⟩
  ·rcases qT hv with⟨y,u,rfl,rfl⟩|⟨d,rfl,rfl⟩
   ·have e:decide ((Sum.inl x:yG)=Sum.inl y)=decide (x=y):=by
     by_cases q:x=y
     ·subst q;simp
     ·rw[decide_eq_false q,decide_eq_false fun z=>q (p4 z)]
    rw[e]at h;exact nk h
   ·rw[decide_eq_false (fun q=>nomatch q)]at h;exact lY x t d _ _ _ _ h
  ·rcases qT hv with⟨y,u,rfl,rfl⟩|⟨d,rfl,rfl⟩
   ·rw[decide_eq_false (fun q=>nomatch q)]at h;exact lZ c y u _ _ _ _ h
   ·refine lA c d _ _ _ _ ?_
    have e:decide ((Sum.inr c:yG)=Sum.inr d)=(c==d):=by cases c<;>cases d<;>rfl
    rw[<-e];exact h
 «strs»:=fun k x t v h=>by
  rcases qT h with⟨y,u,rfl,e⟩|⟨d,rfl,e⟩
  ·injection e with e1 _
   subst e1
   cases v<;>rfl
  ·exact nomatch e
theorem zIY (prog:aL)(w:aU)(k:zI)(v:ah):(y0 prog w).is k v=qS k v:=rfl
theorem zIZ (prog:aL)(w:aU)(i:Int)(t:Tok):(y0 prog w).is (.inl i) (.int i t)=true:=zIR i t
theorem zEB (prog:aL)(w:aU)(x:Str)(t:Tok):(y0 prog w).is (.inr x) (.str x t)=true:=zIS x t
inductive V where
 |non|bl (b:Bool)|int (i:Int)|str (x:Str)|byt (b:Array UInt8)|flt (b:UInt64)|ref (a:ao)|ty (n:String)
 deriving DecidableEq
def zS:V->ah->Prop
 | .non,u=>u=Value.none
 | .bl b,u=>u=Value.bool b
 | .int i,u=>∃t,u=Value.int i t
 | .str x,u=>∃t,u=Value.str x t
 | .byt b,u=>∃t,u=Value.bytes b t
 | .flt b,u=>∃t,u=Value.float b t
 | .ref a,u=>u=Value.ref a
 | .ty n,u=>u=Value.type n
abbrev zN:List V->List ah->Prop:=mw zS
theorem zN.length {xs:List V}{a:List ah}(r:zN xs a):xs.length=a.length:=cy r
theorem zN.get:∀{xs:List V}{a:List ah}{i:Nat}{x:V},zN xs a->xs[i]?=some x->∃u,a[i]?=some u/\zS x u
 |_,_,_,_,.nil,e=>by simp at e
 |_,_,0,_,.cons r _,e=>by simp at e;subst e;exact⟨_,rfl,r⟩
 |_,_,i+1,x,.cons _ t,e=>by
  obtain⟨u,b,c⟩:=zN.get (i:=i) (x:=x) t (by simpa using e)
  exact⟨u,by simpa using b,c⟩
theorem zN.set {x:V}{u:ah}(r:zS x u):∀{xs:List V}{a:List ah} (i:Nat),zN xs a->zN (xs.set i x) (a.set i u)
 |_,_,_,.nil=>.nil
 |_,_,0,.cons _ t=>.cons r t
 |_,_,i+1,.cons q t=>.cons q (zN.set r i t)
theorem zN.append:∀{xs ys:List V}{a b:List ah},zN xs a->zN ys b->zN (xs++ys) (a++b)
 |_,_,_,_,.nil,s=>s
 |_,_,_,_,.cons r t,s=>.cons r (zN.append t s)
theorem zN.take:∀{xs:List V}{a:List ah} (n:Nat),zN xs a->zN (xs.take n) (a.take n)
 |_,_,0,_=>.nil
 |_,_,_+1,.nil=>.nil
 |_,_,n+1,.cons r t=>.cons r (zN.take n t)
theorem zN.drop:∀{xs:List V}{a:List ah} (n:Nat),zN xs a->zN (xs.drop n) (a.drop n)
 |_,_,0,r=>r
 |_,_,_+1,.nil=>.nil
 |_,_,n+1,.cons _ t=>zN.drop n t
def uB:Option V->Option ah->Prop
 |some v,some u=>zS v u
 |none,none=>True
 |_,_=>False
def KV {κ:Type}:List (κ×V)->List (κ×ah)->Prop:=mw fun(p:κ×V) (q:κ×ah)=>p.1=q.1/\zS p.2 q.2
def kV:zI->V
 | .inl i=>.int i
 | .inr x=>.str x
def qU:yG->V
 | .inl x=>.str x
 | .inr b=>.bl b
inductive HO where
 |lst (xs:List V)
 |tup (xs:List V)
 |dK (kvs:List (zI×V))|dT (kvs:List (List yG×V))
 |set (S:Int->Bool) (n:Nat)
 |ins (C dx:ao) (fs:List (Str×V))
 |own (x:ao)
 |xd (fs:List (Str×V))
 |met (f x:ao)
 |rng (lo hi:Int)
 |frz (o:Obj) (u:HO)
 |tbl (ps:Array ah)
 |ext (φ:bx->Prop)
abbrev Hp:=ao->Option HO
def upd (H:Hp)(a:ao)(o:HO):Hp:=fun b=>if b=a then some o else H b
theorem zE {H:Hp}{a:ao}{o:HO}:upd H a o a=some o:=by unfold upd;rw[if_pos rfl]
theorem zG {H:Hp}{a b:ao}{o:HO}(h:b≠a):upd H a o b=H b:=by unfold upd;rw[if_neg h]
theorem zAb {H:Hp}{a b:ao}{o u:HO}(h:H a=some o)(h':H b=some u)(d:o≠u):a≠b:=by
 intro e;subst e;rw[h]at h';exact d (aw h')
theorem yI {H:Hp}{a b:ao}{o:HO}(h:H a=some o)(h':H b=none):a≠b:=by
 intro e;subst e;rw[h]at h';cases h'
section
variable(P:aL)(w:aU)
def yJ (H:Hp)(h:bx)(a:ao):HO->Prop
 | .lst xs=>xs.length<=sizeLine/\∃(its:List ah) (n:Nat),zN xs its/\h.get? a=some {cls:=.type "list",data:=.seq its.toArray n}
 | .tup xs=>xs.length<=sizeLine/\∃its:List ah,zN xs its/\IsTup h a its.toArray
 | .dK kvs=>kvs.length<=sizeLine/\(a==sysModules)=false/\∃vs,KV kvs vs/\h.DictOf (y0 P w) a vs
 | .dT kvs=>kvs.length<=sizeLine/\(a==sysModules)=false/\∃xs:List (List yG×ao×ah),
   mw (fun(p:List yG×V) (q:List yG×ao×ah)=>p.1=q.1/\H q.2.1=some (.tup (p.1.map qU))/\zS p.2 q.2.2) kvs xs/\
   ∃o es ep,h.get? a=some o/\o.ExactDict/\o.data=.dict es ep/\es.toList=xs.map (entryOfKey (tupleKind (jF P w)))/\(xs.map (·.1)).Nodup
 | .set S n=>h.SetOf (intKind P w) a S n
 | .ins C dx fs=>H dx=some (.own a)/\fs.length<=1000/\dx≠a/\h.get? a=some (kj C dx)/\
   ∃mA,h.Ns1 dx mA/\(∀f,uB (fs.lookup f) (mA f))/\pI mA (fs.map (·.1))
 | .own _=>∃o,h.get? a=some o
 | .xd fs=>∃mA,h.Ns1 a mA/\∀f,uB (fs.lookup f) (mA f)
 | .rng lo hi=>∃t u v,h.get? a=some {cls:=.type "range",data:=.fields #[.int lo t,.int hi u,.int 1 v]}
 | .frz o u=>h.get? a=some o/\yJ H h a u
 | .tbl ps=>h.get? a=some {cls:=.none,data:=.fields ps}
 | .met f x=>h.get? a=some (iS (.ref f) (.ref x))
 | .ext φ=>φ h/\(∃o,h.get? a=some o)/\∀h1 h2:bx,φ h1->(∀o,h1.get? a=some o->h2.get? a=some o)->φ h2
def z6 (H:Hp)(h:bx):Prop:=∀a o,H a=some o->yJ P w H h a o
end
section
variable{P:aL}{w:aU}{H H':Hp}{h h':bx}{a:ao}{o:HO}
theorem yJ.lt (x:yJ P w H h a o):a<h.objs.size:=by
 cases o with
 |lst xs=>obtain⟨_,_,_,_,e⟩:=x;exact aE e
 |tup xs=>obtain⟨_,_,_,p⟩:=x;exact p.lt
 |dK kvs=>obtain⟨_,_,_,_,o,_,_,e,_⟩:=x;exact aE e
 |dT kvs=>obtain⟨_,_,_,_,o,_,_,e,_⟩:=x;exact aE e
 |set S n=>obtain⟨o,_,_,_,e,_⟩:=x;exact aE e
 |ins C b fs=>obtain⟨_,_,_,e,_⟩:=x;exact aE e
 |own y=>obtain⟨_,e⟩:=x;exact aE e
 |xd fs=>obtain⟨_,⟨_,_,_,e,_⟩,_⟩:=x;exact aE e
 |rng lo hi=>obtain⟨_,_,_,e⟩:=x;exact aE e
 |frz c u=>obtain⟨e,_⟩:=x;exact aE e
 |tbl ps=>exact aE (show h.get? a=some _ from x)
 |met f y=>exact aE (show h.get? a=some _ from x)
 |ext φ=>obtain⟨_,⟨_,e⟩,_⟩:=x;exact aE e
theorem Paired.mapP {α β:Type}{F G:α->β->Prop}:∀{l₁:List α}{c:List β},mw F l₁ c->(∀a b,F a b->G a b)->mw G l₁ c
 |_,_,.nil,_=>.nil
 |_,_,.cons r t,f=>.cons (f _ _ r) (Paired.mapP t f)
theorem yJ.stay (x:yJ P w H h a o)(k:∀b u,(b=a\/H b=some (.own a))->h.get? b=some u->h'.get? b=some u)
  (l:∀b,H b=some (.own a)->H' b=some (.own a)) (m:∀b xs,H b=some (.tup xs)->H' b=some (.tup xs)):yJ P w H' h' a o:=by
 induction o with
 |lst xs=>obtain⟨z,its,n,r,e⟩:=x;exact⟨z,its,n,r,k _ _ (.inl rfl) e⟩
 |tup xs=>obtain⟨z,its,r,g,e,c⟩:=x;exact⟨z,its,r,g,k _ _ (.inl rfl) e,c⟩
 |dK kvs=>obtain⟨z,y,vs,r,g,i,ep,e,c⟩:=x;exact⟨z,y,vs,r,g,i,ep,k _ _ (.inl rfl) e,c⟩
 |dT kvs=>
  obtain⟨z,y,xs,r,g,i,ep,e,c⟩:=x
  exact⟨z,y,xs,Paired.mapP r fun p q z=>⟨z.1,m _ _ z.2.1,z.2.2⟩,g,i,ep,k _ _ (.inl rfl) e,c⟩
 |set S n=>obtain⟨g,i,ep,t,e,c⟩:=x;exact⟨g,i,ep,t,k _ _ (.inl rfl) e,c⟩
 |ins C A fs=>
  obtain⟨d,z,ne,e,j,⟨od,i,ep,s,c⟩,r⟩:=x
  exact⟨l _ d,z,ne,k _ _ (.inl rfl) e,j,⟨od,i,ep,k _ _ (.inr d) s,c⟩,r⟩
 |own y=>obtain⟨g,e⟩:=x;exact⟨g,k _ _ (.inl rfl) e⟩
 |xd fs=>obtain⟨j,⟨od,i,ep,e,c⟩,r⟩:=x;exact⟨j,⟨od,i,ep,k _ _ (.inl rfl) e,c⟩,r⟩
 |rng lo hi=>obtain⟨t,u,v,e⟩:=x;exact⟨t,u,v,k _ _ (.inl rfl) e⟩
 |frz g u ih=>obtain⟨e,q⟩:=x;exact⟨k _ _ (.inl rfl) e,ih q⟩
 |tbl ps=>
  have e:h.get? a=some {cls:=.none,data:=.fields ps}:=x
  show h'.get? a=some {cls:=.none,data:=.fields ps}
  exact k a _ (.inl rfl) e
 |met f y=>
  have e:h.get? a=some (iS (.ref f) (.ref y)):=x
  show h'.get? a=some (iS (.ref f) (.ref y))
  exact k a _ (.inl rfl) e
 |ext φ=>obtain⟨p,⟨o,e⟩,st⟩:=x;exact⟨st _ _ p fun o q=>k _ _ (.inl rfl) q,⟨o,k _ _ (.inl rfl) e⟩,st⟩
theorem z6.lt (x:z6 P w H h)(e:H a=some o):a<h.objs.size:=(x a o e).lt
theorem z6.fresh (x:z6 P w H h)(e:h.objs.size<=a):H a=none:=by
 cases q:H a with
 |none=>rfl
 |some u=>exact absurd (bp (x.lt q) e) (bE _)
theorem z6.kept (x:z6 P w H h)(k:∀b u,h.get? b=some u->h'.get? b=some u):z6 P w H h':=fun a o e=>
 (x a o e).stay (fun b u _ q=>k b u q) (fun _ q=>q) fun _ _ q=>q
theorem z6.laid (x:z6 P w H h)(k:∀b u,h.get? b=some u->h'.get? b=some u)(g:h.objs.size<=a)(new:yJ P w (upd H a o) h' a o):z6 P w (upd H a o) h':=fun b u e=>by
 have d:=x.fresh g
 by_cases f:b=a
 ·subst f;rw[zE]at e;cases e;exact new
 ·rw[zG f]at e
  exact(x b u e).stay (fun c v _ q=>k c v q) (fun c q=>by rw[zG (yI q d)];exact q) fun c xs q=>by rw[zG (yI q d)];exact q
end
def Rd (H:Hp)(a:ao)(u:HO):Prop:=H a=some u\/∃o,H a=some (.frz o u)
theorem Rd.ok {P:aL}{w:aU}{H:Hp}{h:bx}{a:ao}{u:HO}(r:Rd H a u)(x:z6 P w H h):yJ P w H h a u:=by
 rcases r with r|⟨o,r⟩
 ·exact x a u r
 ·obtain⟨_,q⟩:=x a _ r
  exact q
def gY:Option HO->Prop
 |some (.lst _)=>True
 |some (.dK _)=>True
 |some (.dT _)=>True
 |some (.set _ _)=>True
 |some (.ins _ _ _)=>True
 |some (.ext _)=>True
 |_=>False
section
variable{P:aL}{w:aU}{H:Hp}{h h':bx}{x e:ao}{o':HO}
theorem z6.write (ok:z6 P w H h)(g:gY (H x))(m:e=x\/H e=some (.own x))(k:∀b u,b≠e->h.get? b=some u->h'.get? b=some u)(l:∃u,h'.get? e=some u)
  (new:yJ P w (upd H x o') h' x o'):z6 P w (upd H x o') h':=fun b u q=>by
 have d:∀c y,H c=some (.own y)->c≠x:=fun c y r z=>by subst z;rw[r]at g;exact g
 have f:∀c xs,H c=some (.tup xs)->c≠x:=fun c xs r z=>by subst z;rw[r]at g;exact g
 by_cases i:b=x
 ·subst i;rw[zE]at q;cases q;exact new
 ·rw[zG i]at q
  by_cases a:b=e
  ·have n:H b=some (.own x):=by
    rcases m with z|z
    ·exact absurd (a.trans z) i
    ·rw[a];exact z
   rw[q]at n;cases n
   obtain⟨v,o⟩:=l
   exact⟨v,by rw[a];exact o⟩
  ·refine(ok b u q).stay (fun c v j r=>k c v ?_ r) (fun c r=>by rw[zG (d c b r)];exact r) fun c xs r=>by rw[zG (f c xs r)];exact r
   rcases j with rfl|j
   ·exact a
   ·rintro rfl
    rcases m with z|z
    ·exact d c b j z
    ·rw[j]at z;cases z;exact i rfl
end
structure Un (fs ex:List ao) (H H':Hp) (h h':bx):Prop where
 keep:∀b o,h.get? b=some o->H b=none->b∉fs->b∉ex->h'.get? b=some o
 slot:∀b o,h.get? b=some o->H b=none->b∈fs->b∉ex->∃sl,h'.get? b=some {o with slots:=sl}
 free:∀b o,h.get? b=some o->H b=none->b∉ex->H' b=none
 there:∀b o,h.get? b=some o->b∉ex->∃o',h'.get? b=some o'
 tups:∀b xs,H b=some (.tup xs)->H' b=some (.tup xs)
 frzs:∀b o u,H b=some (.frz o u)->H' b=some (.frz o u)
 tbls:∀b ps,H b=some (.tbl ps)->∃more,H' b=some (.tbl (ps++more))
section
variable{fs fs' ex ex':List ao}{H H1 H2:Hp}{h h1 h2 h':bx}{a x e:ao}{o:HO}
theorem Un.any (u:Un fs ex H H1 h h1){b:ao}{c:Obj}(q:h.get? b=some c)(n:H b=none)(d:b∉ex):∃g,h1.get? b=some {c with slots:=g}:=by
 by_cases f:b∈fs
 ·exact u.slot b c q n f d
 ·exact⟨c.slots,u.keep b c q n f d⟩
theorem Un.kept (k:∀b u,h.get? b=some u->h'.get? b=some u):Un fs ex H H h h' :=
 ⟨fun b c q _ _ _=>k b c q,fun b c q _ _ _=>⟨c.slots,k b c q⟩,fun _ _ _ n _=>n,fun b c q _=>⟨c,k b c q⟩,fun _ _ q=>q,fun _ _ _ q=>q,fun _ ps q=>⟨#[],by rw[q];simp⟩⟩
theorem Un.refl:Un fs ex H H h h:=Un.kept fun _ _ q=>q
theorem Un.laid (k:∀b u,h.get? b=some u->h'.get? b=some u)(d:h.objs.size<=a)(c:H a=none):Un fs ex H (upd H a o) h h' where
 keep:=fun b u q _ _ _=>k b u q
 slot:=fun b u q _ _ _=>⟨u.slots,k b u q⟩
 free:=fun b u q n _=>by rw[zG (aS (bp (aE q) d))];exact n
 there:=fun b u q _=>⟨u,k b u q⟩
 tups:=fun b xs q=>by rw[zG (yI q c)];exact q
 frzs:=fun b u xs q=>by rw[zG (yI q c)];exact q
 tbls:=fun b ps q=>⟨#[],by rw[zG (yI q c),q];simp⟩
theorem Un.write (d:gY (H x))(j:e=x\/H e=some (.own x))(k:∀b u,b≠e->h.get? b=some u->h'.get? b=some u)(f:∃u,h'.get? e=some u):Un fs ex H (upd H x o) h h':=by
 have g:∀b,H b=none->b≠x:=fun b n z=>by subst z;rw[n]at d;exact d
 have i:∀b,H b=none->b≠e:=fun b n z=>by
  subst z
  rcases j with r|r
  ·exact g b n r
  ·rw[n]at r;cases r
 have hm:∀b u,H b=some u->¬gY (some u)->b≠x:=fun b u q nm z=>by subst z;rw[q]at d;exact nm d
 refine⟨fun b u q n _ _=>k b u (i b n) q,fun b u q n _ _=>⟨u.slots,k b u (i b n) q⟩,fun b u q n _=>by rw[zG (g b n)];exact n,fun b u q _=>?_,
  fun b xs q=>by rw[zG (hm b _ q fun z=>z)];exact q,fun b u xs q=>by rw[zG (hm b _ q fun z=>z)];exact q,fun b ps q=>⟨#[],by rw[zG (hm b _ q fun z=>z),q];simp⟩⟩
 by_cases c:b=e
 ·subst c;exact f
 ·exact⟨u,k b u c q⟩
end
def trk (h:bx)(H:Hp):List ao:=(ba h.objs.size).filter fun a=>(H a).isSome
def qV (h:bx)(H:Hp):bx:=PySem.W.hideAll h (trk h H)
theorem zIa (h:bx)(H:Hp):(qV h H).objs.size=h.objs.size:=PySem.W.hideAll_size _ _
theorem zIb {h:bx}{H:Hp}{b:ao}{o:Obj}(e:h.get? b=some o)(n:H b=none):(qV h H).get? b=some o :=
 PySem.W.hideAll_get _ e fun hm=>by
  have q:(H b).isSome=true:=(bg.mp hm).2
  rw[n]at q;simp at q
theorem zIc {h:bx}{H:Hp}{b:ao}{o:Obj}(e:(qV h H).get? b=some o):h.get? b=some o/\H b=none:=by
 have a:h.get? b=some o:=PySem.W.of_hideAll (trk h H) e
 refine⟨a,?_⟩
 cases q:H b with
 |none=>rfl
 |some x=>
  have hm:b∈trk h H:=bg.mpr ⟨bz.mpr (aE a),by simp[q]⟩
  have z:(qV h H).get? b=none:=PySem.W.hideAll_none (trk h H) hm
  rw[z]at e;cases e
def zId (g h:bx)(L:ao):List (ao×Obj):=(ba h.objs.size).filterMap fun a=>if a=L\/(g.get? a).isSome=true then none else(h.get? a).map fun o=>(a,o)
def vB (g h:bx)(L d:ao):List (ao×Obj):=(zId g h L).filter fun p=>decide (p.1≠d)
structure Mod (K:ae) (mg:Str->Option ah) (base:bx):Prop where
 kin:K.In base
 glob:base.Ns mainGlobals mg
 blt:∃mb,base.Ns builtinsNs mb/\∀x:Str,x≠"__name__"->mb x=bootBuiltins x
 nolimit:base.NoLimit
structure Cx where
 prog:aL
 w:aU
 K:ae
 mg:Str->Option ah
 base:bx
 A:bS
 N:List Str
 s₀:ar
 H₀:Hp
 env:Env
 outer:List Env
 stack:List Env
 ex:List ao
 fn:Str->Bool
 calm:Bool
 pn:List (ao×Obj)
 xe:ah->ar->Prop
def vU (l:List Env):List ao:=l.filterMap (·.frame)
abbrev Cx.fs (X:Cx):List ao:=vU X.outer
def Vis (sc:fi)(x:Str):Prop:=sc.names.lookup x=some .local\/sc.names.lookup x=some .cell\/sc.names.lookup x=some .free
def gZ (sc:fi)(x:Str):Prop:=sc.names.lookup x=some .local\/sc.names.lookup x=some .cell
def zIe (env:Env)(h:bx)(m:Str->Option ah)(x:Str)(u:ah):Prop :=
 (env.kindOf x=some .local/\m x=some u)\/((env.kindOf x=some .cell\/env.kindOf x=some .free)/\∃c,env.cells.lookup x=some c/\h.IsCell c (some u))
structure Cx.Ok (X:Cx):Prop where
 mod:Mod X.K X.mg X.base
 kind:X.env.scope.kind=.function
 glob:X.env.globals=mainGlobals
 blt:X.env.builtins=builtinsNs
 above:X.s₀.heap.objs.size<=X.env.locals
 inj:∀x y c,X.env.cells.lookup x=some c->X.env.cells.lookup y=some c->x=y
 has:∀x,(X.env.kindOf x=some .cell\/X.env.kindOf x=some .free)->∃c,X.env.cells.lookup x=some c
 cab:∀x c,X.fn x=true->X.env.cells.lookup x=some c->X.s₀.heap.objs.size<=c
 hd:X.calm=true->X.A.handled=none
 frames:X.A.frames=some X.stack
 stk:X.stack=X.outer\/(X.stack=X.env::X.outer/\X.env.frame=some X.env.locals)
 exf:∀b∈X.ex,b≠X.env.locals/\∀x c,X.env.cells.lookup x=some c->c≠b
 bs:∀b o,X.base.get? b=some o->X.s₀.heap.get? b=some o/\X.H₀ b=none
 bsz:X.base.objs.size<=X.s₀.heap.objs.size
 noex:∀b o,X.base.get? b=some o->b∉X.ex
 exfs:∀b∈X.ex,b∉X.fs
 funs:X.s₀.heap.FunFrames X.base X.outer
 frf:∀b∈X.fs,X.H₀ b=none
structure Inv (X:Cx) (pins:List (ao×Obj)) (σ:List (Option V)) (H:Hp) (s:ar):Prop where
 ok:X.Ok
 os:s.os=X.s₀.os
 bare:iT s.gens
 base:Un X.fs X.ex X.H₀ H X.s₀.heap s.heap
 loc:∃m,s.heap.Ns X.env.locals m/\∀(i:Nat) (x:Str) (v:V),X.N[i]?=some x->σ[i]?=some (some v)->Vis X.env.scope x->∃u,zS v u/\zIe X.env s.heap m x u
 cell:∀x c,X.env.cells.lookup x=some c->∃v,s.heap.IsCell c v
 free:H X.env.locals=none
 freeC:∀x c,X.env.cells.lookup x=some c->H c=none
 pin:∀p∈X.pn++pins,s.heap.get? p.1=some p.2/\H p.1=none/\p.1≠X.env.locals/\p.1∉X.fs/\∀v,p.2.data≠.cell v
 hok:z6 X.prog X.w H s.heap
 len:σ.length=X.N.length
section
variable{X:Cx}{pins:List (ao×Obj)}{σ:List (Option V)}{H H':Hp}{s:ar}{h':bx}
theorem Cx.Ok.nofr (ok:X.Ok){b:ao}{o:Obj}(e:X.base.get? b=some o):b∉X.fs:=fun a=>by
 have:=(ok.funs.mem a).1
 rw[e]at this;cases this
theorem Inv.bs (I:Inv X pins σ H s):∀b o,X.base.get? b=some o->s.heap.get? b=some o/\H b=none:=fun b o e=>
 ⟨I.base.keep b o (I.ok.bs b o e).1 (I.ok.bs b o e).2 (I.ok.nofr e) (I.ok.noex b o e),I.base.free b o (I.ok.bs b o e).1 (I.ok.bs b o e).2 (I.ok.noex b o e)⟩
theorem Inv.bk (I:Inv X pins σ H s):∀b o,X.base.get? b=some o->s.heap.get? b=some o:=fun b o e=>(I.bs b o e).1
theorem Inv.mod (I:Inv X pins σ H s):Mod X.K X.mg X.base:=I.ok.mod
theorem Inv.kIn (I:Inv X pins σ H s):X.K.In s.heap:=I.ok.mod.kin.keeps I.bk
theorem Inv.nolimit (I:Inv X pins σ H s):s.heap.NoLimit:=I.ok.mod.nolimit.keeps I.bk
theorem Inv.lt (I:Inv X pins σ H s):X.env.locals<s.heap.objs.size:=let⟨_,a,_⟩:=I.loc;a.lt
theorem Inv.sz (I:Inv X pins σ H s):X.s₀.heap.objs.size<=s.heap.objs.size:=eP I.ok.above (jr I.lt)
theorem Inv.nofs (I:Inv X pins σ H s){a:ao}(h:s.heap.objs.size<=a):a∉X.fs:=fun b=>by
 obtain⟨_,o,c,_⟩:=I.ok.funs.mem b
 exact absurd (bp (aE c) (eP I.sz h)) (bE _)
theorem Inv.cne (I:Inv X pins σ H s):∀x c,X.env.cells.lookup x=some c->c≠X.env.locals:=fun x c e z=>by
 obtain⟨v,o,d,hd⟩:=I.cell x c e
 obtain⟨m,⟨f,g,ep,a,b,_⟩,_⟩:=I.loc
 rw[z,a]at d;cases d;rw[b]at hd;cases hd
theorem Inv.funs (I:Inv X pins σ H s):s.heap.FunFrames X.base X.outer:=by
 have all:∀(l:List Env),(∀b∈vU l,b∈X.fs)->X.s₀.heap.FunFrames X.base l->s.heap.FunFrames X.base l:=by
  intro l
  induction l with
  |nil=>intro _ _;trivial
  |cons env r ih=>
   intro f hl
   obtain⟨g,⟨L,o,a,h,i,hd⟩,j⟩:=hl
   have c:L∈X.fs:=f L (by unfold vU;rw[ic,a];exact aj)
   obtain⟨m,e⟩:=I.base.slot L o i (I.ok.frf L c) c fun z=>I.ok.exfs L z c
   exact⟨g,⟨L,_,a,h,e,hd⟩,ih (fun b d=>f b (by unfold vU;rw[ic,a];exact ak _ d)) j⟩
 exact all X.outer (fun _ d=>d) I.ok.funs
theorem Inv.stack (I:Inv X pins σ H s):s.heap.FunFrames X.base X.stack:=by
 rcases I.ok.stk with e|⟨e,a⟩
 ·rw[e];exact I.funs
 ·rw[e]
  obtain⟨m,b,_⟩:=I.loc
  refine .cons (by rw[I.ok.kind];decide) a b ?_ I.funs
  exact Heap.get?_none_of_le (eP I.ok.bsz I.ok.above)
theorem Inv.stkSub (I:Inv X pins σ H s):∀b∈vU X.stack,b∈X.env.locals::X.fs:=fun b a=>by
 rcases I.ok.stk with e|⟨e,c⟩
 ·rw[e]at a;exact ak _ a
 ·rw[e]at a
  unfold vU at a
  rw[ic,c]at a
  exact a
theorem Inv.stkFree (I:Inv X pins σ H s):∀b∈vU X.stack,H b=none:=fun b a=>by
 rcases aH.mp (I.stkSub b a)with e|a
 ·rw[e];exact I.free
 ·obtain⟨_,o,c,_⟩:=I.ok.funs.mem a
  exact I.base.free b o c (I.ok.frf b a) fun z=>I.ok.exfs b z a
theorem Inv.step {g':Array lB}{t':Nat}{d':Drawn}{ch:List ao}(I:Inv X pins σ H s)
  (f:∀b∈ch,(b∈X.ex\/X.s₀.heap.objs.size<=b)/\b≠X.env.locals/\(∀x c,X.env.cells.lookup x=some c->c≠b)/\∀p∈X.pn++pins,p.1≠b)
  (keep:∀b o,b≠X.env.locals->b∉X.fs->b∉ch->s.heap.get? b=some o->H b=none->h'.get? b=some o)
  (slot:∀b o,b≠X.env.locals->b∈X.fs->b∉ch->s.heap.get? b=some o->H b=none->∃D,h'.get? b=some {o with slots:=D}) (free:∀b o,b∉ch->s.heap.get? b=some o->H b=none->H' b=none)
  (there:∀b o,b∉ch->s.heap.get? b=some o->∃A,h'.get? b=some A)
  (tups:∀b xs,H b=some (.tup xs)->H' b=some (.tup xs)) (frzs:∀b o u,H b=some (.frz o u)->H' b=some (.frz o u)) (tbls:∀b ps,H b=some (.tbl ps)->∃more,H' b=some (.tbl (ps++more)))
  (ns:∀m,s.heap.Ns X.env.locals m->h'.Ns X.env.locals m) (hok:z6 X.prog X.w H' h') (L:iT g') :
  Inv X pins σ H' {s with heap:=h',gens:=g',drawn:=d',toks:=t'}:=by
 have B:∀b o,X.s₀.heap.get? b=some o->b≠X.env.locals:=fun b o e=>aS (bp (aE e) I.ok.above)
 have j:∀b o,X.s₀.heap.get? b=some o->b∉X.ex->b∉ch:=fun b o e a t=>by
  rcases(f b t).1 with z|z
  ·exact a z
  ·exact absurd (bp (aE e) z) (bE _)
 have g:∀x c,X.env.cells.lookup x=some c->∀v,s.heap.IsCell c v->h'.IsCell c v:=fun x c e v ⟨o,y,hd⟩=>by
  have h:c∉ch:=fun z=>(f c z).2.2.1 x c e rfl
  by_cases F:c∈X.fs
  ·obtain⟨D,q⟩:=slot c o (I.cne x c e) F h y (I.freeC x c e)
   exact⟨_,q,hd⟩
  ·exact⟨o,keep c o (I.cne x c e) F h y (I.freeC x c e),hd⟩
 refine⟨I.ok,I.os,L,⟨fun b o e n t a=>?_,fun b o e n t a=>?_,fun b o e n a=>?_,fun b o e a=>?_,fun b xs e=>tups b xs (I.base.tups b xs e),fun b o xs e=>frzs b o xs (I.base.frzs b o xs e),fun b ps e=>?_⟩,?_,fun x c e=>?_,?_,fun x c e=>?_,fun p G=>?_,hok,I.len⟩
 ·exact keep b o (B b o e) t (j b o e a) (I.base.keep b o e n t a) (I.base.free b o e n a)
 ·obtain⟨D,e1⟩:=I.base.slot b o e n t a
  obtain⟨E,C⟩:=slot b _ (B b o e) t (j b o e a) e1 (I.base.free b o e n a)
  exact⟨E,C⟩
 ·obtain⟨A,e1⟩:=I.base.there b o e a
  exact free b A (j b o e a) e1 (I.base.free b o e n a)
 ·obtain⟨A,e1⟩:=I.base.there b o e a
  exact there b A (j b o e a) e1
 ·obtain⟨m1,e1⟩:=I.base.tbls b ps e
  obtain⟨m2,C⟩:=tbls b _ e1
  exact⟨m1++m2,by rw[C,Array.append_assoc]⟩
 ·obtain⟨m,M,hl⟩:=I.loc
  refine⟨m,ns m M,fun i x v e1 C N=>?_⟩
  obtain⟨u,r,l⟩:=hl i x v e1 C N
  refine⟨u,r,?_⟩
  rcases l with l|⟨k,c,e,z⟩
  ·exact .inl l
  ·exact .inr ⟨k,c,e,g x c e _ z⟩
 ·obtain⟨v,z⟩:=I.cell x c e
  exact⟨v,g x c e v z⟩
 ·obtain⟨m,⟨o,_,_,y,_⟩,_⟩:=I.loc
  exact free _ o (fun z=>(f _ z).2.1 rfl) y I.free
 ·obtain⟨v,o,y,hd⟩:=I.cell x c e
  exact free c o (fun z=>(f c z).2.2.1 x c e rfl) y (I.freeC x c e)
 ·obtain⟨e,n,ne,J,d⟩:=I.pin p G
  have h:p.1∉ch:=fun z=>(f p.1 z).2.2.2 p G rfl
  exact⟨keep p.1 p.2 ne J h e n,free p.1 p.2 h e n,ne,J,d⟩
theorem Inv.un {t':Nat}(I:Inv X pins σ H s)(u:Un X.fs [] H H' s.heap h')(hok:z6 X.prog X.w H' h'):Inv X pins σ H' {s with heap:=h',toks:=t'}:=by
 obtain⟨m,⟨o,i,ep,f,r⟩,_⟩:=id I.loc
 obtain⟨j,g⟩:=u.any f I.free (by simp)
 exact I.step (g':=s.gens) (d':=s.drawn) (ch:=[]) (fun _ z=>nomatch z) (fun b o _ c _ e n=>u.keep b o e n c (by simp)) (fun b o _ c _ e n=>u.slot b o e n c (by simp)) (fun b o _ e n=>u.free b o e n (by simp)) (fun b o _ e=>u.there b o e (by simp)) u.tups u.frzs u.tbls (fun l hm=>by
  obtain⟨p,es',d,a,h⟩:=hm
  rw[f]at a;cases a
  exact⟨_,es',d,g,h⟩) hok I.bare
theorem Inv.call {g':Array lB}{t':Nat}{d':Drawn}{ch:List ao}(I:Inv X pins σ H s)(u:Un (vU X.stack) ch H H' s.heap h')(hok:z6 X.prog X.w H' h')(j:iT g')
  (d:∀b∈ch,(b∈X.ex\/X.s₀.heap.objs.size<=b)/\b≠X.env.locals/\(∀x c,X.env.cells.lookup x=some c->c≠b)/\∀p∈X.pn++pins,p.1≠b) :
  Inv X pins σ H' {s with heap:=h',gens:=g',drawn:=d',toks:=t'}:=by
 obtain⟨m,⟨o,t,ep,i,r⟩,_⟩:=id I.loc
 obtain⟨v,g⟩:=u.any i I.free fun z=>(d _ z).2.1 rfl
 exact I.step (ch:=ch) d (fun b o g l a e n=>u.keep b o e n (fun z=>(aH.mp (I.stkSub b z)).elim g l) a) (fun b o _ _ a e n=>u.any e n a) (fun b o a e n=>u.free b o e n a) (fun b o a e=>u.there b o e a) u.tups u.frzs u.tbls (fun y hm=>by
  obtain⟨A,es',h,f,q⟩:=hm
  rw[i]at f;cases f
  exact⟨_,es',h,g,q⟩) hok j
theorem Inv.turned {t':Nat}{a:ao}(I:Inv X pins σ H s)(k:∀b o,b≠a->s.heap.get? b=some o->h'.get? b=some o)(h:H a=none)(g:a≠X.env.locals)
  (i:a∈X.ex\/X.s₀.heap.objs.size<=a) (j:∀x c,X.env.cells.lookup x=some c->c≠a) (l:∀p∈X.pn++pins,p.1≠a):Inv X pins σ H {s with heap:=h',toks:=t'}:=by
 have f:∀b u,H b=some u->b≠a:=fun b u e z=>by rw[z,h]at e;cases e
 refine I.step (g':=s.gens) (d':=s.drawn) (ch:=[a]) (fun b t=>?_) (fun b o _ _ d e _=>k b o (fun z=>d (by simp[z])) e) (fun b o _ _ d e _=>⟨o.slots,k b o (fun z=>d (by simp[z])) e⟩) (fun _ _ _ _ n=>n)
  (fun b o d e=>⟨o,k b o (fun z=>d (by simp[z])) e⟩) (fun _ _ e=>e) (fun _ _ _ e=>e) (fun b ps e=>⟨#[],by rw[e];simp⟩) (fun m hm=>?_) (fun b u e=>?_) I.bare
 ·have e:b=a:=by simpa using t
  subst e
  exact⟨i,g,j,l⟩
 ·obtain⟨o,w,ep,y,r⟩:=hm
  exact⟨o,w,ep,k _ o (dS g) y,r⟩
 ·refine(I.hok b u e).stay (fun c v d q=>k c v ?_ q) (fun _ q=>q) fun _ _ q=>q
  rcases d with z|z
  ·rw[z];exact f b u e
  ·exact f c _ z
theorem Inv.tok (I:Inv X pins σ H s)(t:Nat):Inv X pins σ H {s with toks:=t}:=I.un (h':=s.heap) (t':=t) Un.refl I.hok
theorem Inv.kept {t':Nat}(I:Inv X pins σ H s)(k:∀b u,s.heap.get? b=some u->h'.get? b=some u):Inv X pins σ H {s with heap:=h',toks:=t'}:=I.un (Un.kept k) (I.hok.kept k)
theorem Inv.laid {a:ao}{o:HO}{t':Nat}(I:Inv X pins σ H s)(k:∀b u,s.heap.get? b=some u->h'.get? b=some u)(c:s.heap.objs.size<=a)(new:yJ X.prog X.w (upd H a o) h' a o) :
  Inv X pins σ (upd H a o) {s with heap:=h',toks:=t'}:=I.un (Un.laid k c (I.hok.fresh c)) (I.hok.laid k c new)
theorem Inv.write {x e:ao}{o:HO}{t':Nat}(I:Inv X pins σ H s)(c:gY (H x))(d:e=x\/H e=some (.own x))(k:∀b u,b≠e->s.heap.get? b=some u->h'.get? b=some u)(a:∃u,h'.get? e=some u)
  (new:yJ X.prog X.w (upd H x o) h' x o):Inv X pins σ (upd H x o) {s with heap:=h',toks:=t'}:=I.un (Un.write c d k a) (I.hok.write c d k a new)
theorem Inv.pins_of {pins':List (ao×Obj)}(I:Inv X pins σ H s)(h:∀p∈pins',s.heap.get? p.1=some p.2/\H p.1=none/\p.1≠X.env.locals/\p.1∉X.fs/\∀v,p.2.data≠.cell v):Inv X pins' σ H s :=
 ⟨I.ok,I.os,I.bare,I.base,I.loc,I.cell,I.free,I.freeC,fun p a=>(bt.mp a).elim (fun z=>I.pin p (bG _ z)) (h p),I.hok,I.len⟩
theorem zEC {N:List Str}(c:N.Nodup){i j:Nat}{x:Str}(a:N[i]?=some x)(b:N[j]?=some x):i=j:=by
 obtain⟨e,e1⟩:=ai.mp a
 obtain⟨f,d⟩:=ai.mp b
 exact(fw c).mp (e1.trans d.symm)
theorem zIf {M:Model}{A:bS}{E:ah->ar->Prop}{i:Nat}{x:Str}{v:V}{u:ah}{Q:Unit->ar->Prop}(I:Inv X pins σ H s)(hN:X.N.Nodup)(hi:X.N[i]?=some x)(t:gZ X.env.scope x)(r:zS v u)
  (h:∀s',Inv X pins (σ.set i (some v)) H s'->(∃a,fz a s.heap s'.heap/\(a=X.env.locals\/X.env.cells.lookup x=some a))->Q () s') (hf:X.fn x=true\/X.env.scope.names.lookup x=some .local:=by first|exact .inl rfl|exact .inr rfl|assumption):wpAny M A (storeName X.env x u) Q E s:=by
 obtain⟨m,Z,hl⟩:=id I.loc
 have L:(X.env.scope.kind== .class||(X.env.scope.kind== .module&&X.env.locals !=X.env.globals))=false:=by rw[I.ok.kind];rfl
 have O:i<σ.length:=by rw[I.len];exact(ai.mp hi).1
 have cne:=I.cne
 have g:∀{a:ao} {h':bx},(∃o,s.heap.get? a=some o/\H a=none)->fz a s.heap h'->z6 X.prog X.w H h':=fun{a h'} ha f b ob e=>by
  obtain⟨_,_,B⟩:=ha
  refine(I.hok b ob e).stay (fun c W l q=>(f.2 c ?_).trans q) (fun _ q=>q) fun _ _ q=>q
  rintro rfl
  rcases l with rfl|l
  ·rw[B]at e;cases e
  ·rw[B]at l;cases l
 rcases t with D|D
 ·refine wpAny_storeName_local D Z (fun h' ab f=>?_) L
  obtain⟨oL,_,_,ac,_⟩:=id Z
  refine h _ ⟨I.ok,I.os,I.bare,⟨fun b o e n F t=>?_,fun b o e n F t=>?_,I.base.free,fun b o e t=>?_,I.base.tups,I.base.frzs,I.base.tbls⟩,⟨_,ab,fun j y v' e1 C e3=>?_⟩,fun y c e=>?_,I.free,I.freeC,fun p hp=>?_,g ⟨oL,ac,I.free⟩ f,by simpa using I.len⟩ ⟨_,f,.inl rfl⟩
  ·exact(f.2 b (aS (bp (aE e) I.ok.above))).trans (I.base.keep b o e n F t)
  ·obtain⟨sl,e1⟩:=I.base.slot b o e n F t
   exact⟨sl,(f.2 b (aS (bp (aE e) I.ok.above))).trans e1⟩
  ·obtain⟨o',e1⟩:=I.base.there b o e t
   exact⟨o',(f.2 b (aS (bp (aE e) I.ok.above))).trans e1⟩
  ·by_cases G:j=i
   ·subst G
    rw[hi]at e1;cases e1
    rw[js O]at C
    cases C
    exact⟨u,r,.inl ⟨D,by simp⟩⟩
   ·rw[lC (dS G)]at C
    obtain⟨u',r',q⟩:=hl j y v' e1 C e3
    refine⟨u',r',?_⟩
    rcases q with⟨k,e⟩|⟨k,c,e,z⟩
    ·refine .inl ⟨k,?_⟩
     have:y≠x:=fun e=>G (zEC hN e1 (e▸hi))
     simp[this,e]
    ·exact .inr ⟨k,c,e,z.sameBut f (cne y c e)⟩
  ·obtain⟨W,z⟩:=I.cell y c e
   exact⟨W,z.sameBut f (cne y c e)⟩
  ·obtain⟨e,n,ne,nf,d⟩:=I.pin p hp
   exact⟨(f.2 p.1 ne).trans e,n,ne,nf,d⟩
 ·have J:X.fn x=true:=by
   rcases hf with z|z
   ·exact z
   ·rw[z]at D;cases D
  obtain⟨c,l⟩:=I.ok.has x (.inl D)
  obtain⟨W,z⟩:=I.cell x c l
  refine wpAny_storeName_cell I.ok.kind D l z (fun h' P f=>?_)
  obtain⟨oc,R,T⟩:=id z
  refine h {s with heap:=h'} ⟨I.ok,I.os,I.bare,⟨fun b o e n F t=>?_,fun b o e n F t=>?_,I.base.free,fun b o e t=>?_,I.base.tups,I.base.frzs,I.base.tbls⟩,⟨m,Z.sameBut f (dS (cne x c l)),fun j y v' e1 C e3=>?_⟩,fun y Y e=>?_,I.free,I.freeC,fun p hp=>?_,g ⟨oc,R,I.freeC x c l⟩ f,by simpa using I.len⟩ ⟨c,f,.inr l⟩
  ·exact(f.2 b (aS (bp (aE e) (I.ok.cab x c J l)))).trans (I.base.keep b o e n F t)
  ·obtain⟨sl,e1⟩:=I.base.slot b o e n F t
   exact⟨sl,(f.2 b (aS (bp (aE e) (I.ok.cab x c J l)))).trans e1⟩
  ·obtain⟨o',e1⟩:=I.base.there b o e t
   exact⟨o',(f.2 b (aS (bp (aE e) (I.ok.cab x c J l)))).trans e1⟩
  ·by_cases G:j=i
   ·subst G
    rw[hi]at e1;cases e1
    rw[js O]at C
    cases C
    exact⟨u,r,.inr ⟨.inl D,c,l,P⟩⟩
   ·rw[lC (dS G)]at C
    obtain⟨u',r',q⟩:=hl j y v' e1 C e3
    refine⟨u',r',?_⟩
    rcases q with q|⟨k,Y,e,z'⟩
    ·exact .inl q
    ·refine .inr ⟨k,Y,e,z'.sameBut f ?_⟩
     rintro rfl
     exact G (zEC hN e1 (I.ok.inj _ _ _ e l▸hi))
  ·by_cases U:Y=c
   ·subst U;exact⟨_,P⟩
   ·obtain⟨w2,z2⟩:=I.cell y Y e
    exact⟨w2,z2.sameBut f U⟩
  ·obtain⟨e,n,ne,nf,d⟩:=I.pin p hp
   refine⟨(f.2 p.1 ?_).trans e,n,ne,nf,d⟩
   intro q
   rw[q,R]at e
   have q':oc=p.2:=aw e
   exact d W (by rw[<-q'];exact T)
theorem zBX {M:Model}{A:bS}{E:ah->ar->Prop}{i:Nat}{x:Str}{v:V}{u:ah}{Q:Unit->ar->Prop}(I:Inv X pins σ H s)(a:X.N.Nodup)(hi:X.N[i]?=some x)(b:gZ X.env.scope x)(r:zS v u)
  (h:∀s',Inv X pins (σ.set i (some v)) H s'->Q () s') (c:X.fn x=true\/X.env.scope.names.lookup x=some .local:=by first|exact .inl rfl|exact .inr rfl|assumption):wpAny M A (storeName X.env x u) Q E s :=
 zIf I a hi b r (fun s' d _=>h s' d) c
theorem Inv.call' {s':ar}{ch:List ao}(I:Inv X pins σ H s)(d:s'.os=s.os)(u:Un (vU X.stack) ch H H' s.heap s'.heap)(hok:z6 X.prog X.w H' s'.heap)(f:iT s'.gens)
  (a:∀b∈ch,(b∈X.ex\/X.s₀.heap.objs.size<=b)/\b≠X.env.locals/\(∀x c,X.env.cells.lookup x=some c->c≠b)/\∀p∈X.pn++pins,p.1≠b):Inv X pins σ H' s':=by
 obtain⟨h',g',d',t',g⟩:=s'
 have e:g=s.os:=d
 subst e
 exact I.call (g':=g') (t':=t') (d':=d') u hok f a
end
abbrev XK:=ah->Option ao->Hp->Prop
abbrev St:=List (Option V)
abbrev VK:=V->Hp->Prop
abbrev TE:=St->Hp->VK->Prop
abbrev TT:=St->Hp->(Bool->Hp->Prop)->Prop
abbrev TA:=St->Hp->(List V->Hp->Prop)->Prop
structure Ends where
 nx:St->Hp->Prop
 rt:VK
 bk:St->Hp->Prop:=fun _ _=>False
 ct:St->Hp->Prop:=fun _ _=>False
abbrev TS:=Ends->St->Hp->Prop
def EP (X:Cx)(pins:List (ao×Obj))(σ:St)(Q:VK)(u:ah)(s':ar):Prop:=∃v H',Inv X pins σ H' s'/\zS v u/\Q v H'
def TP (X:Cx)(pins:List (ao×Obj))(σ:St)(Q:Bool->Hp->Prop)(b:Bool)(s':ar):Prop:=∃H',Inv X pins σ H' s'/\Q b H'
def AP (X:Cx)(pins:List (ao×Obj))(σ:St)(Q:List V->Hp->Prop)(us:List ah)(s':ar):Prop:=∃vs H',Inv X pins σ H' s'/\zN vs us/\Q vs H'
def SP (X:Cx)(pins:List (ao×Obj))(D:Ends)(f:Flow)(s':ar):Prop :=
 match f with
 | .next=>∃σ' H',Inv X pins σ' H' s'/\D.nx σ' H'
 | .brk=>∃σ' H',Inv X pins σ' H' s'/\D.bk σ' H'
 | .cont=>∃σ' H',Inv X pins σ' H' s'/\D.ct σ' H'
 | .ret u=>∃v σ' H',Inv X pins σ' H' s'/\zS v u/\D.rt v H'
def PE (X:Cx)(e:bO)(t:TE):Prop :=
 ∀(pins:List (ao×Obj)) (s:ar) (σ:St) (H:Hp) (Q:VK),Inv X pins σ H s->t σ H Q->wpAny (model X.prog X.w) X.A (eval e X.env) (EP X pins σ Q) X.xe s
def PT (X:Cx)(e:bO)(t:TT):Prop :=
 ∀(pins:List (ao×Obj)) (s:ar) (σ:St) (H:Hp) (Q:Bool->Hp->Prop),Inv X pins σ H s->t σ H Q->wpAny (model X.prog X.w) X.A (isTrue e X.env (eval e X.env)) (TP X pins σ Q) X.xe s
def PW (X:Cx)(e:bO)(t:TT):Prop :=
 ∀(whole:Sem ah) (pins:List (ao×Obj)) (s:ar) (σ:St) (H:Hp) (Q:Bool->Hp->Prop),Inv X pins σ H s->t σ H Q->wpAny (model X.prog X.w) X.A (isTrue e X.env whole) (TP X pins σ Q) X.xe s
theorem PW.pt {X:Cx}{e:bO}{t:TT}(h:PW X e t):PT X e t:=h _
def PA (X:Cx)(es:List bO)(t:TA):Prop :=
 ∀(pos:Pos) (pins:List (ao×Obj)) (s:ar) (σ:St) (H:Hp) (Q:List V->Hp->Prop),Inv X pins σ H s->t σ H Q->wpAny (model X.prog X.w) X.A (spliced (backTo pos (starEach es X.env))) (AP X pins σ Q) X.xe s
def PS (X:Cx)(st:cq)(t:TS):Prop :=
 ∀(pins:List (ao×Obj)) (s:ar) (σ:St) (H:Hp) (D:Ends),Inv X pins σ H s->t D σ H->wpAny (model X.prog X.w) X.A (exec st X.env) (SP X pins D) X.xe s
def uC (X:Cx)(st:List cq)(t:TS):Prop :=
 ∀(pins:List (ao×Obj)) (s:ar) (σ:St) (H:Hp) (D:Ends),Inv X pins σ H s->t D σ H->wpAny (model X.prog X.w) X.A (execs st X.env) (SP X pins D) X.xe s
theorem zH {α:Type}{t:Sem α}{Q b:α->ar->Prop}{M:Model}{A:bS}{E:ah->ar->Prop}{s:ar}(h:wpAny M A t Q E s)(c:∀a s,Q a s->b a s):wpAny M A t b E s:=b8 h c fun _ _ x=>x
section
variable{X:Cx}
def qW (i:Nat):TE:=fun σ H Q=>∃v,σ[i]?=some (some v)/\Q v H
def tC (v:V):TE:=fun _ H Q=>Q v H
theorem zIg {i:Nat}{x:Str}{pos:Pos}(j:X.N[i]?=some x)(n:Vis X.env.scope x)(hd:(x==("__debug__" : Str))=false:=by decide)(f:(x==("__classdict__" : Str))=false:=by decide):PE X (.Name x pos) (qW i):=by
 intro d s σ H Q I h
 obtain⟨v,e,h⟩:=h
 obtain⟨m,o,hl⟩:=I.loc
 obtain⟨u,r,l⟩:=hl i x v j e n
 have fin:EP X d σ Q u s:=⟨v,H,I,r,h⟩
 rcases l with⟨b,hm⟩|⟨b,c,g,a⟩
 ·exact nX (wpAny_loadName_local I.ok.kind b o hm fin) hd
 ·rcases b with b|b
  ·exact nX (wpAny_loadName_cell I.ok.kind b g a fin) hd
  ·exact nX (wpAny_loadName_free I.ok.kind b g a fin f) hd
theorem zL {i j pos}:PE X (.Constant (.int i) j pos) (tC (.int i)):=fun _ _ _ H _ I h=>wpAny_Constant_int ⟨.int i,H,I.tok _,⟨_,rfl⟩,h⟩
theorem uU {b j pos}:PE X (.Constant (.bool b) j pos) (tC (.bl b)):=fun _ _ _ H _ I h=>Constant_bool ⟨.bl b,H,I,rfl,h⟩
theorem u9 {x j pos}:PE X (.Constant (.str x) j pos) (tC (.str x)):=fun _ _ _ H _ I h=>Calls.Constant_str ⟨.str x,H,I.tok _,⟨_,rfl⟩,h⟩
def Gl (X:Cx)(x:Str):Prop:=X.env.kindOf x=some .globalImplicit
theorem zED {E:ah->ar->Prop}{a:List (ao×Obj)}{s:ar}{σ:St}{H:Hp}{x:Str}{u:ah}{pos:Pos}{Q:ah->ar->Prop}(I:Inv X a σ H s)(b:Gl X x)(hm:X.mg x=some u)(h:Q u s)
  (hd:(x==("__debug__" : Str))=false:=by decide):wpAny (model X.prog X.w) X.A (eval (.Name x pos) X.env) Q E s :=
 iz I.ok.kind b (Calls.loadGlobal_global (by rw[I.ok.glob];exact I.mod.glob.keeps I.bk) hm h) hd
theorem qA {E:ah->ar->Prop}{a:List (ao×Obj)}{s:ar}{σ:St}{H:Hp}{x:Str}{u:ah}{pos:Pos}{Q:ah->ar->Prop}(I:Inv X a σ H s)(b:Gl X x)(hm:X.mg x=none)(c:bootBuiltins x=some u)(h:Q u s)
  (d:x≠"__name__" :=by decide) (hd:(x==("__debug__" : Str))=false:=by decide):wpAny (model X.prog X.w) X.A (eval (.Name x pos) X.env) Q E s:=by
 obtain⟨g,e,f⟩:=I.mod.blt
 exact iz I.ok.kind b (Calls.loadGlobal_builtin (by rw[I.ok.glob];exact I.mod.glob.keeps I.bk) hm (by rw[I.ok.blt];exact e.keeps I.bk) ((f x d).trans c) h) hd
theorem v7 {x:Str}{v:V}{u:ah}{pos:Pos}(a:Gl X x)(hm:X.mg x=some u)(r:zS v u)(hd:(x==("__debug__" : Str))=false:=by decide):PE X (.Name x pos) (tC v) :=
 fun _ _ _ H _ I h=>zED I a hm ⟨v,H,I,r,h⟩ hd
theorem zAc {x:Str}{v:V}{u:ah}{pos:Pos}(a:Gl X x)(hm:X.mg x=none)(b:bootBuiltins x=some u)(r:zS v u)(c:x≠"__name__" :=by decide)(hd:(x==("__debug__" : Str))=false:=by decide):PE X (.Name x pos) (tC v) :=
 fun _ _ _ H _ I h=>qA I a hm b ⟨v,H,I,r,h⟩ c hd
variable{a b:bO}{ta tb:TE}{pos:Pos}
def PC (X:Cx)(op:nY)(a b:bO)(t:TE):Prop :=
 ∀(pins:List (ao×Obj)) (s:ar) (σ:St) (H:Hp) (Q:VK),Inv X pins σ H s->t σ H Q->
  wpAny (model X.prog X.w) X.A (eval a X.env) (fun v s₁=>wpAny (model X.prog X.w) X.A (eval b X.env) (fun u s₂=>wpAny (model X.prog X.w) X.A (compareOp op v u) (EP X pins σ Q) X.xe s₂) X.xe s₁) X.xe s
theorem zIh (b:bO){op:nY}(h:op≠.In)(c:op≠.NotIn):behindInMarks op b=false:=by
 have e1:(op==CmpOp.In)=false:=by cases op<;>first|rfl|exact absurd rfl h
 have d:(op==CmpOp.NotIn)=false:=by cases op<;>first|rfl|exact absurd rfl c
 cases b<;>simp[behindInMarks,e1,d]
def tB (t:TE):TT:=fun σ H Q=>t σ H fun x H1=>∃c,x=.bl c/\Q c H1
theorem zEE {op:nY}{t:TE}(h:PC X op a b t)(f:behindInMarks op b=false:=by first|exact zIh _ (by decide) (by decide)|rfl):PT X (.Compare a [op] [b] pos) (tB t):=by
 intro e s σ H Q I g
 refine lh (zH (h e s σ H _ I g) fun v o f=>zH f fun u p i=>zH i fun c r ⟨x,j,l,m,n⟩=>?_) f
 obtain⟨d,rfl,q⟩:=n
 cases m
 exact cY ⟨j,l,q⟩
theorem uV {e:bO}{t:TE}(h:PE X e t)(f:∀whole,isTrue e X.env whole=(do let v<-whole;standAt e.pos;holding [v] (truthy v)):=by intro _;rfl):PT X e (tB t):=by
 intro c s σ H Q I g
 refine isTrue_plain (zH (h c s σ H _ I g) fun v n ⟨x,i,j,l,m⟩=>?_) (f _)
 obtain⟨d,rfl,q⟩:=m
 cases l
 exact cY ⟨i,j,q⟩
variable{tA tB':TT}{vB:List bO}
def zIi (t u:TT):TT:=fun σ H Q=>t σ H fun c H1=>if c=true then u σ H1 Q else Q false H1
def tOr (t u:TT):TT:=fun σ H Q=>t σ H fun c H1=>if c=true then Q true H1 else u σ H1 Q
def zIj (t:TT):TT:=fun σ H Q=>t σ H fun c H1=>Q (!c) H1
theorem zBY (f:PT X a tA):PW X (.BoolOp .And [a] pos) tA:=by
 intro g d s σ H Q I h
 refine isTrue_and (zH (f d s σ H Q I h) fun c i e=>?_)
 cases c with
 |true=>exact isTrue_and_nil e
 |false=>exact e
theorem kM (f:PT X a tA):PW X (.BoolOp .Or [a] pos) tA:=by
 intro g d s σ H Q I h
 refine isTrue_or (zH (f d s σ H Q I h) fun c i e=>?_)
 cases c with
 |false=>exact isTrue_or_nil e
 |true=>exact e
theorem zBZ (i:PT X a tA)(j:PW X (.BoolOp .And (b::vB) pos) tB'):PW X (.BoolOp .And (a::b::vB) pos) (zIi tA tB'):=by
 intro l d s σ H Q I h
 refine isTrue_and (zH (i d s σ H _ I h) fun c m ⟨e,f,g⟩=>?_)
 cases c with
 |true=>exact j l d m σ e Q f g
 |false=>exact⟨e,f,g⟩
theorem kN (i:PT X a tA)(j:PW X (.BoolOp .Or (b::vB) pos) tB'):PW X (.BoolOp .Or (a::b::vB) pos) (tOr tA tB'):=by
 intro l d s σ H Q I h
 refine isTrue_or (zH (i d s σ H _ I h) fun c m ⟨e,f,g⟩=>?_)
 cases c with
 |true=>exact⟨e,f,g⟩
 |false=>exact j l d m σ e Q f g
theorem qB (e:PT X a tA):PT X (.UnaryOp .Not a pos) (zIj tA):=by
 intro d s σ H Q I h
 exact isTrue_not (e d s σ H (fun c f=>Q (!c) f) I h)
def zIk (ta tb:TE):TE:=fun σ H Q=>ta σ H fun x H1=>∃c,x=.bl c/\if c=true then tb σ H1 Q else Q (.bl false) H1
theorem zEF {op}{t:TE}(h:PE X a t):PE X (.BoolOp op [a] pos) t:=fun c s σ H Q I d=>BoolOp_one (h c s σ H Q I d)
theorem zEG (i:PE X a ta)(j:PE X (.BoolOp .And (b::vB) pos) tb):PE X (.BoolOp .And (a::b::vB) pos) (zIk ta tb):=by
 intro d s σ H Q I h
 refine BoolOp_and (zH (i d s σ H _ I h) fun v l ⟨x,f,g,m,e⟩=>?_)
 obtain⟨c,rfl,e⟩:=e
 cases m
 refine cY ?_
 cases c with
 |true=>exact j d l σ f Q g e
 |false=>exact⟨.bl false,f,g,rfl,e⟩
def tIf (t:TT)(ta tb:TE):TE:=fun σ H Q=>t σ H fun c H1=>if c=true then ta σ H1 Q else tb σ H1 Q
theorem zEH {c:bO}(l:PT X c tA)(m:PE X a ta)(n:PE X b tb):PE X (.IfExp c a b pos) (tIf tA ta tb):=by
 intro e s σ H Q I h
 refine wpAny_IfExp (zH (l e s σ H _ I h) fun d f ⟨g,i,j⟩=>?_)
 cases d with
 |true=>exact m e f σ g Q i j
 |false=>exact n e f σ g Q i j
end
def yF (K:ae)(H:Hp)(a:ao)(xs:List V):Prop :=
 Rd H a (.lst xs)\/
  ∃(o:Obj) (its:Array ah) (n:Nat),K.lookup a=some o/\o.cls=.type "list"/\o.dict=none/\o.data=.seq its n/\its.size<=sizeLine/\zN xs its.toList
def yE (K:ae)(H:Hp)(a:ao)(xs:List V):Prop :=
 Rd H a (.tup xs)\/
  ∃(o:Obj) (its:Array ah) (n:Nat),K.lookup a=some o/\o.cls=.type "tuple"/\o.data=.seq its n/\its.size<=sizeLine/\zN xs its.toList
def zIl:ah->Option V
 | .none=>some .non
 | .bool b=>some (.bl b)
 | .int i _=>some (.int i)
 | .str x _=>some (.str x)
 | .bytes b _=>some (.byt b)
 | .float b _=>some (.flt b)
 | .ref a=>some (.ref a)
 | .type n=>some (.ty n)
 |_=>none
theorem zS.abs {x:V}{u:ah}(r:zS x u):zIl u=some x:=by
 cases x with
 |non=>cases r;rfl
 |bl _=>cases r;rfl
 |int _=>obtain⟨t,rfl⟩:=r;rfl
 |str _=>obtain⟨t,rfl⟩:=r;rfl
 |byt _=>obtain⟨t,rfl⟩:=r;rfl
 |flt _=>obtain⟨t,rfl⟩:=r;rfl
 |ref _=>cases r;rfl
 |ty _=>cases r;rfl
theorem zS.inj {x y:V}{u:ah}(r:zS x u)(q:zS y u):x=y:=aw (r.abs.symm.trans q.abs)
theorem zN.inj:∀{xs ys:List V}{a:List ah},zN xs a->zN ys a->xs=ys
 |_,_,_,.nil,.nil=>rfl
 |_,_,_,.cons r t,.cons b t'=>by rw[r.inj b,zN.inj t t']
section
variable{X:Cx}{pins:List (ao×Obj)}{σ:St}{H:Hp}{s:ar}{a:ao}{xs ys:List V}
theorem yF.of {K:ae}(h:H a=some (.lst xs)):yF K H a xs:=.inl (.inl h)
theorem yE.of {K:ae}(h:H a=some (.tup xs)):yE K H a xs:=.inl (.inl h)
theorem Inv.list (I:Inv X pins σ H s)(h:yF X.K H a xs):∃its:List ah,zN xs its/\PlainL s.heap a its.toArray/\xs.length<=sizeLine:=by
 rcases h with h|⟨o,its,n,b,c,hd,d,hz,r⟩
 ·obtain⟨z,its,n,r,e⟩:=h.ok I.hok
  exact⟨its,r,⟨_,n,e,rfl,rfl,rfl⟩,z⟩
 ·refine⟨its.toList,r,⟨o,n,I.kIn a o b,c,hd,by simpa using d⟩,?_⟩
  have e:=r.length
  simp only[aR]at e
  omega
theorem Inv.tuple (I:Inv X pins σ H s)(h:yE X.K H a xs):∃its:List ah,zN xs its/\IsTup s.heap a its.toArray/\xs.length<=sizeLine:=by
 rcases h with h|⟨o,its,n,b,c,d,hz,r⟩
 ·obtain⟨z,its,r,p⟩:=h.ok I.hok
  exact⟨its,r,p,z⟩
 ·refine⟨its.toList,r,⟨o,I.kIn a o b,c,n,by simpa using d⟩,?_⟩
  have e:=r.length
  simp only[aR]at e
  omega
theorem Inv.list_inj (I:Inv X pins σ H s)(h:yF X.K H a xs)(h':yF X.K H a ys):xs=ys:=by
 obtain⟨its,r,⟨o,n,e,_,_,d⟩,_⟩:=I.list h
 obtain⟨its',c,⟨f,g,b,_,_,d'⟩,_⟩:=I.list h'
 rw[e]at b;cases b
 rw[d]at d'
 injection d' with d1 _
 have:its=its':=by simpa using congrArg pJ d1
 subst this
 exact r.inj c
theorem Inv.tuple_inj (I:Inv X pins σ H s)(h:yE X.K H a xs)(h':yE X.K H a ys):xs=ys:=by
 obtain⟨its,r,⟨o,e,_,n,d⟩,_⟩:=I.tuple h
 obtain⟨its',c,⟨f,b,_,g,d'⟩,_⟩:=I.tuple h'
 rw[e]at b;cases b
 rw[d]at d'
 injection d' with d1 _
 have:its=its':=by simpa using congrArg pJ d1
 subst this
 exact r.inj c
end
abbrev Cx.wish (X:Cx)(E:ah->ar->Prop):Cx:={X with xe:=E}
abbrev Cx.nox (X:Cx):Cx:=X.wish fun _ _=>False
theorem Cx.Ok.wish {X:Cx}(ok:X.Ok)(E:ah->ar->Prop):(X.wish E).Ok :=
 ⟨ok.mod,ok.kind,ok.glob,ok.blt,ok.above,ok.inj,ok.has,ok.cab,ok.hd,ok.frames,ok.stk,ok.exf,ok.bs,ok.bsz,ok.noex,ok.exfs,ok.funs,ok.frf⟩
theorem Cx.Ok.unwish {X:Cx}{E:ah->ar->Prop}(ok:(X.wish E).Ok):X.Ok :=
 ⟨ok.mod,ok.kind,ok.glob,ok.blt,ok.above,ok.inj,ok.has,ok.cab,ok.hd,ok.frames,ok.stk,ok.exf,ok.bs,ok.bsz,ok.noex,ok.exfs,ok.funs,ok.frf⟩
section
variable{X:Cx}{pins:List (ao×Obj)}{σ:St}{H:Hp}{s:ar}{E:ah->ar->Prop}
theorem Inv.wish (I:Inv X pins σ H s)(E:ah->ar->Prop):Inv (X.wish E) pins σ H s:=⟨I.ok.wish E,I.os,I.bare,I.base,I.loc,I.cell,I.free,I.freeC,I.pin,I.hok,I.len⟩
theorem Inv.unwish (I:Inv (X.wish E) pins σ H s):Inv X pins σ H s:=⟨I.ok.unwish,I.os,I.bare,I.base,I.loc,I.cell,I.free,I.freeC,I.pin,I.hok,I.len⟩
theorem SP.unwish {D:Ends}{f:Flow}{s':ar}(h:SP (X.wish E) pins D f s'):SP X pins D f s':=by
 cases f with
 |next=>obtain⟨a,H',I,q⟩:=h;exact⟨a,H',I.unwish,q⟩
 |brk=>obtain⟨a,H',I,q⟩:=h;exact⟨a,H',I.unwish,q⟩
 |cont=>obtain⟨a,H',I,q⟩:=h;exact⟨a,H',I.unwish,q⟩
 |ret u=>obtain⟨v,a,H',I,r,q⟩:=h;exact⟨v,a,H',I.unwish,r,q⟩
theorem uC.nox {st:List cq}{t:TS}(h:uC X.nox st t):uC X st t:=fun pins s σ H D I a=>
 b8 (h pins s σ H D (I.wish _) a) (fun _ _ q=>q.unwish) fun _ _ z=>eQ z
end
section
variable{X:Cx}{st:cq}{vB:List cq}{t u:TS}{e:bO}{te:TE}{pos:Pos}
def zEI:TS:=fun D σ H=>D.nx σ H
def zEJ (t u:TS):TS:=fun D σ H=>t {D with nx:=u D} σ H
theorem vH:uC X [] zEI:=fun _ _ σ H _ I h=>gx ⟨σ,H,I,h⟩
theorem zO (b:PS X st t)(c:uC X vB u):uC X (st::vB) (zEJ t u):=by
 intro a s σ H D I h
 refine nq (zH (b a s σ H {D with nx:=u D} I h) fun f d q=>?_)
 cases f with
 |next=>
  obtain⟨g,H',i,q⟩:=q
  exact c a d g H' D i q
 |ret v=>exact q
 |brk=>exact q
 |cont=>exact q
theorem zP (b:PS X st t):uC X [st] t:=by
 intro a s σ H D I h
 refine nq (zH (b a s σ H D I h) fun f c q=>?_)
 cases f with
 |next=>exact gx q
 |ret v=>exact q
 |brk=>exact q
 |cont=>exact q
theorem Inv.quiet {a:List (ao×Obj)}{σ:St}{H:Hp}{s:ar}(I:Inv X a σ H s):interactive X.env=false:=by simp[interactive,I.ok.kind]
def zIm (te:TE):TS:=fun D σ H=>te σ H fun _ H1=>D.nx σ H1
theorem vE (b:PE X e te)(c:swapsWith e none pos.line X.env=pure false:=by rfl):PS X (.Expr e pos) (zIm te):=by
 intro a s σ H D I h
 exact wpAny_Expr_any (zH (b a s σ H _ I h) fun v i ⟨x,d,f,j,g⟩=>⟨σ,d,f,g⟩) I.quiet c
def zIn (te:TE):TS:=fun D σ H=>te σ H D.rt
theorem zZ (b:PE X e te):PS X (.Return (some e) pos) (zIn te):=by
 intro a s σ H D I h
 exact wpAny_Return_some (zH (b a s σ H _ I h) fun v i ⟨x,c,d,f,g⟩=>⟨x,σ,c,d,f,g⟩)
def zIo (c:TT)(t u:TS):TS:=fun D σ H=>c σ H fun b H1=>if b=true then t D σ H1 else u D σ H1
theorem vI {c:bO}{a b:List cq}{g:TT}(n:PT X c g)(o:uC X a t)(p:uC X b u):PS X (.If c a b pos) (zIo g t u):=by
 intro f s σ H D I h
 refine wpAny_If (zH (n f s σ H _ I h) fun d i ⟨j,l,m⟩=>?_)
 cases d with
 |true=>exact o f i σ j D l m
 |false=>exact p f i σ j D l m
def zIp:TS:=fun _ _ _=>False
theorem zAd:PS X st zIp:=fun _ _ _ _ _ _ h=>h.elim
end
abbrev TG:=V->St->Hp->(St->Hp->Prop)->Prop
abbrev jG:=List V->St->Hp->(St->Hp->Prop)->Prop
def PG (X:Cx)(target:bO)(t:TG):Prop :=
 ∀(pins:List (ao×Obj)) (s:ar) (σ:St) (H:Hp) (v:V) (u:ah) (Q:St->Hp->Prop),Inv X pins σ H s->zS v u->t v σ H Q->
  wpAny (model X.prog X.w) X.A (assign target X.env u) (fun _ s'=>∃σ' H',Inv X pins σ' H' s'/\Q σ' H') X.xe s
def g0 (X:Cx)(ts:List bO)(t:jG):Prop :=
 ∀(pins:List (ao×Obj)) (s:ar) (σ:St) (H:Hp) (vs:List V) (us:List ah) (Q:St->Hp->Prop),Inv X pins σ H s->zN vs us->t vs σ H Q->
  wpAny (model X.prog X.w) X.A (assignInOrder ((assignEach ts X.env).map (·.2)) us) (fun _ s'=>∃σ' H',Inv X pins σ' H' s'/\Q σ' H') X.xe s
section
variable{X:Cx}{pos:Pos}
def qX (i:Nat):TG:=fun v σ H Q=>Q (σ.set i (some v)) H
theorem z9 {i:Nat}{x:Str}(b:X.N.Nodup)(hi:X.N[i]?=some x)(c:gZ X.env.scope x)(d:X.fn x=true\/X.env.scope.names.lookup x=some .local:=by first|exact .inl rfl|exact .inr rfl|assumption):PG X (.Name x pos) (qX i):=by
 intro a s σ H v u Q I r h
 exact mG (zBX I b hi c r (fun s' e=>⟨_,H,e,h⟩) d)
def zIq:jG:=fun vs σ H Q=>vs=[]/\Q σ H
def zIr (t:TG)(u:jG):jG:=fun vs σ H Q=>∃v r,vs=v::r/\t v σ H fun σ' H'=>u r σ' H' Q
theorem jH:g0 X [] zIq:=by
 intro a s σ H vs b Q I r h
 obtain⟨e,h⟩:=h
 subst e
 cases r
 exact assignInOrder_nil ⟨σ,H,I,h⟩
theorem vV {e:bO}{b:List bO}{t:TG}{u:jG}(c:PG X e t)(d:g0 X b u)
  (f:(assignEach (e::b) X.env).map (·.2)=assign e X.env::(assignEach b X.env).map (·.2):=by rfl):g0 X (e::b) (zIr t u):=by
 intro a s σ H vs o Q I r h
 obtain⟨v,p,e1,h⟩:=h
 subst e1
 cases r with
 |cons r g=>
  rw[f]
  refine assignInOrder_cons (zH (c a s σ H _ _ _ I r h) fun _ i ⟨j,l,m,n⟩=>?_)
  exact d a i j l _ _ Q m g n
def zEK (K:ae)(n:Nat)(t:jG):TG:=fun v σ H Q=>∃a xs,v=.ref a/\yE K H a xs/\xs.length=n/\t xs σ H Q
theorem jT {d:List bO}{k:Nat}{t:jG}{n:Nat}(j:X.calm=true)(h:g0 X d t)
  (l:(assignEach d X.env).length=n:=by rfl) (f:(assignEach d X.env).findIdx? (·.1)=none:=by rfl):PG X (.Tuple d k pos) (zEK X.K n t):=by
 intro c s σ H v u Q I r g
 obtain⟨a,xs,e1,m,hl,g⟩:=g
 subst e1
 cases r
 obtain⟨its,i,p,hz⟩:=I.tuple m
 refine assign_Tuple_tuple (I.ok.hd j) p (by simp[l,<-hl,i.length]) f fun h' q=>?_
 have w:Inv X c σ H {s with heap:=h'}:=I.kept (t':=s.toks) fun b o e=>q b o (aS (aE e)) e
 exact h c _ σ H xs _ Q w (by simpa using i) g
def zEL (te:TE)(g:TG):TS:=fun D σ H=>te σ H fun x H1=>g x σ H1 D.nx
theorem z8 {i:Nat}{x:Str}{e:bO}{c:TE}{a:Pos}(d:X.N.Nodup)(hi:X.N[i]?=some x)(f:gZ X.env.scope x)(g:PE X e c)(j:swapsWith e (some (.Name x a)) pos.line X.env=pure false:=by rfl)(l:X.fn x=true\/X.env.scope.names.lookup x=some .local:=by first|exact .inl rfl|exact .inr rfl|assumption) :
  PS X (.Assign [.Name x a] e pos) (zEL c (qX i)):=by
 intro b s σ H D I h
 refine wpAny_Assign_Name (zH (g b s σ H _ I h) fun v r ⟨y,m,n,o,p⟩=>?_) j
 exact zBX n d hi f o (fun t q=>⟨_,m,q,p⟩) l
def zIs (c:TT)(tb:TS):TS:=fun D σ H=>∃W:Nat->St->Hp->Prop,(∃m,W m σ H)/\∀m σ H,W m σ H->
 c σ H fun b H1=>if b=true then∃N:St->Hp->Prop,(∀σ' H',N σ' H'->∃m',m'<m/\W m' σ' H')/\tb {D with nx:=N,ct:=N,bk:=D.nx} σ H1 else D.nx σ H1
theorem zEM {c:bO}{body:List cq}{r:TT}{t:TS}(u:PassesOwn (model X.prog X.w) X.A X.env X.xe)(E:PT X c r)(F:uC X body t):PS X (.While c body [] pos) (zIs r t):=by
 intro a s σ H D I h
 obtain⟨W,⟨G,J⟩,d⟩:=h
 refine wpAny_While (codeAny_whileLoop (fun n s'=>∃x H',Inv X a x H' s'/\W n x H') ?_ G ⟨σ,H,I,J⟩)
 rintro n L ⟨i,y,M,O⟩
 refine dY u (zH (E a L i y _ M (d n i y O)) fun b P ⟨z,B,j⟩=>?_)
 cases b with
 |true=>
  obtain⟨N,C,j⟩:=j
  rw[if_pos rfl]
  refine dY u (zH (F a P i z _ B j) fun f Q l=>?_)
  cases f with
  |next=>
   obtain⟨e,g,m,o⟩:=l
   obtain⟨p,hm,q⟩:=C e g o
   exact⟨p,hm,e,g,m,q⟩
  |cont=>
   obtain⟨e,g,m,o⟩:=l
   obtain⟨p,hm,q⟩:=C e g o
   exact⟨p,hm,e,g,m,q⟩
  |brk=>exact l
  |ret v=>exact l
 |false=>
  rw[if_neg aT]
  exact gx ⟨i,z,B,j⟩
end
structure It where
 go:Nat->Hp->Prop
 yld:Nat->Hp->V->Hp->Prop
 stop:Nat->Hp->Prop
def uI (X:Cx)(pins:List (ao×Obj))(H:Hp)(b:ao):Prop :=
 H b=none/\b≠X.env.locals/\b∉X.fs/\(b∈X.ex\/X.s₀.heap.objs.size<=b)/\(∀x c,X.env.cells.lookup x=some c->c≠b)/\∀p∈X.pn++pins,p.1≠b
theorem Inv.fpOk {X:Cx}{a:List (ao×Obj)}{σ:St}{H H':Hp}{s:ar}{b:ao}(I:Inv X a σ H s)(d:s.heap.objs.size<=b)(f:H' b=none):uI X a H' b:=by
 refine⟨f,dj (bp I.lt d),I.nofs d,.inr (eP I.sz d),fun x c e z=>?_,fun p g z=>?_⟩
 ·obtain⟨v,q⟩:=I.cell x c e
  exact absurd (bp q.lt (by rw[z];exact d)) (bE _)
 ·exact absurd (bp (aE (I.pin p g).1) (by rw[z];exact d)) (bE _)
structure Turn (P:aL) (w:aU) (K:ae) (tg:bO) (J:It) (fp:List ao) (it:ao) (tn:Nat->bx->Prop):Prop where
 mem:it∈fp
 obj:∀i h,tn i h->∀b∈fp,∃o,h.get? b=some o/\∀v,o.data≠.cell v
 keep:∀i h h',tn i h->(∀b∈fp,∀o,h.get? b=some o->h'.get? b=some o)->tn i h'
 item:∀(X:Cx),X.prog=P->X.w=w->X.K=K->X.calm=true->∀(i:Nat) (pins:List (ao×Obj)) (s:ar) (σ:St) (H:Hp) (E:ah->ar->Prop),Inv X pins σ H s->(∀b∈fp,uI X pins H b)->tn i s.heap->J.go i H->
  wpAny (model P w) X.A (pyNext (.ref it)) (fun r s1=>∃u,r=some u/\
   wpAny (model P w) X.A (letOwnedTupleGo tg (.ref it) u) (fun _ s2=>∃x H',Inv X pins σ H' s2/\zS x u/\J.yld i H x H'/\tn (i+1) s2.heap/\∀b∈fp,H' b=none) E s1) E s
 done:∀(X:Cx),X.prog=P->X.w=w->X.K=K->X.calm=true->∀(i:Nat) (pins:List (ao×Obj)) (s:ar) (σ:St) (H:Hp) (E:ah->ar->Prop),Inv X pins σ H s->(∀b∈fp,uI X pins H b)->tn i s.heap->J.stop i H->
  wpAny (model P w) X.A (pyNext (.ref it)) (fun r s1=>r=none/\Inv X pins σ H s1) E s
 self:∀(A:bS) (i:Nat) (s:ar) (Q:ah->ar->Prop) (E:ah->ar->Prop),tn i s.heap->Q (.ref it) s->wpAny (model P w) A (pyIter (.ref it)) Q E s
abbrev TI:=St->Hp->(It->Hp->Prop)->Prop
def PIE (X:Cx)(pins:List (ao×Obj))(σ:St)(tg:bO)(R:It->Hp->Prop)(itv:ah)(s2:ar):Prop :=
 ∃(it:ao) (fp:List ao) (tn:Nat->bx->Prop) (J:It) (H':Hp),itv=.ref it/\Inv X pins σ H' s2/\Turn X.prog X.w X.K tg J fp it tn/\tn 0 s2.heap/\(∀b∈fp,uI X pins H' b)/\R J H'
def PI (X:Cx)(tg iter:bO)(wi:TI):Prop :=
 ∀(pins:List (ao×Obj)) (s:ar) (σ:St) (H:Hp) (R:It->Hp->Prop),Inv X pins σ H s->wi σ H R->
  wpAny (model X.prog X.w) X.A (eval iter X.env) (fun v s1=>wpAny (model X.prog X.w) X.A (pyIter v) (PIE X pins σ tg R) X.xe s1) X.xe s
theorem jU {M:Model}{A:bS}{E:ah->ar->Prop}{s:ar}{b:bO}{c:ao}{u:ah}{o:Obj}{n:String}{vs:Array ah}{Q:Unit->ar->Prop}(d:s.heap.get? c=some o)(e:o.cls=.type n)(hd:o.data=.fields vs)
  (f:["enumerate","zip","dict_itemiterator","dict_reverseitemiterator","odict_iterator","itertools.zip_longest","itertools.pairwise"].contains n=false) (a:Q () s):wpAny M A (letOwnedTupleGo b (.ref c) u) Q E s:=by
 unfold letOwnedTupleGo
 cases b<;>first
  |exact av a
  |(cases u<;>first
    |exact av a
    |(refine af (nZ d ?_)
      rw[e,hd]
      show wpAny M A (if(["enumerate","zip","dict_itemiterator","dict_reverseitemiterator","odict_iterator","itertools.zip_longest","itertools.pairwise"].contains n&&vs[0]? ==some (rawInt _))=true then _ else _) Q E s
      rw[if_neg (by intro h;rw[f,Bool.false_and]at h;cases h)]
      exact av a))
def Itl (K:ae)(a:ao):It :=
 ⟨fun i H=>∃xs x,yF K H a xs/\xs[i]?=some x,fun i H x H'=>H'=H/\∀xs,yF K H a xs->xs[i]?=some x,fun i H=>∃xs,yF K H a xs/\xs.length<=i⟩
def Itt (K:ae)(a:ao):It :=
 ⟨fun i H=>∃xs x,yE K H a xs/\xs[i]?=some x,fun i H x H'=>H'=H/\∀xs,yE K H a xs->xs[i]?=some x,fun i H=>∃xs,yE K H a xs/\xs.length<=i⟩
def g6 (lo:Int)(n:Nat):It:=⟨fun i _=>i<n,fun i H x H'=>H'=H/\x=.int (lo+i),fun i _=>n<=i⟩
theorem zIt {P:aL}{w:aU}{K:ae}{L:bO}(a g:ao):Turn P w K L (Itl K a) [g] g (fun i h=>h.IsListIter g a i) where
 mem:=by simp
 obj:=fun i h st b j=>by
  have e:b=g:=by simpa using j
  subst e
  obtain⟨o,e,c,d⟩:=st
  exact⟨o,e,fun v z=>by rw[d]at z;cases z⟩
 keep:=fun i h h' st k=>st.at fun o e=>k g (by simp) o e
 item:=by
  intro X q r t J i f s σ H E I m st y
  subst q r t
  obtain⟨xs,x,n,A⟩:=y
  obtain⟨its,B,p,hz⟩:=I.list n
  obtain⟨u,M,N⟩:=B.get A
  obtain⟨C,f1,f2,D,F,G⟩:=m g (by simp)
  refine wpAny_pyNext_list_item st p.isList (x:=u) (by simpa using M) fun h' l O=>?_
  have Q:Inv X f σ H {s with heap:=h'}:=I.turned (t':=s.toks) (fun b o j e=>(O.2 b j).trans e) C f1 D F G
  obtain⟨o,e,c,d⟩:=id l
  exact⟨u,rfl,jU (s:={s with heap:=h'}) e c d (by decide) ⟨x,H,Q,N,⟨rfl,fun ys R=>by rw[I.list_inj R n];exact A⟩,l,fun b j=>(m b j).1⟩⟩
 done:=by
  intro X q r t J i f s σ H E I m st y
  subst q r t
  obtain⟨xs,n,A⟩:=y
  obtain⟨its,B,p,hz⟩:=I.list n
  obtain⟨C,f1,f2,D,F,G⟩:=m g (by simp)
  have hl:=B.length
  exact wpAny_pyNext_list_end (I.ok.hd J) st p.isList (by simp;omega) fun h' T=>⟨rfl,I.turned (t':=s.toks) (fun b o j e=>T b o j e) C f1 D F G⟩
 self:=fun _ _ _ _ _ st h=>wpAny_pyIter_listiter st h
theorem zIu {P:aL}{w:aU}{K:ae}{L:bO}(a g:ao):Turn P w K L (Itt K a) [g] g (fun i h=>h.IsTupleIter g a i) where
 mem:=by simp
 obj:=fun i h st b j=>by
  have e:b=g:=by simpa using j
  subst e
  obtain⟨o,e,c,d⟩:=st
  exact⟨o,e,fun v z=>by rw[d]at z;cases z⟩
 keep:=fun i h h' st k=>st.at fun o e=>k g (by simp) o e
 item:=by
  intro X q r t J i f s σ H E I m st y
  subst q r t
  obtain⟨xs,x,n,A⟩:=y
  obtain⟨its,B,p,hz⟩:=I.tuple n
  obtain⟨u,M,N⟩:=B.get A
  obtain⟨C,f1,f2,D,F,G⟩:=m g (by simp)
  refine wpAny_pyNext_tuple_item st (show s.heap.IsTuple a its.toArray from p) (x:=u) (by simpa using M) fun h' l O=>?_
  have Q:Inv X f σ H {s with heap:=h'}:=I.turned (t':=s.toks) (fun b o j e=>(O.2 b j).trans e) C f1 D F G
  obtain⟨o,e,c,d⟩:=id l
  exact⟨u,rfl,jU (s:={s with heap:=h'}) e c d (by decide) ⟨x,H,Q,N,⟨rfl,fun ys R=>by rw[I.tuple_inj R n];exact A⟩,l,fun b j=>(m b j).1⟩⟩
 done:=by
  intro X q r t J i f s σ H E I m st y
  subst q r t
  obtain⟨xs,n,A⟩:=y
  obtain⟨its,B,p,hz⟩:=I.tuple n
  obtain⟨C,f1,f2,D,F,G⟩:=m g (by simp)
  have hl:=B.length
  exact wpAny_pyNext_tuple_end (I.ok.hd J) st (show s.heap.IsTuple a its.toArray from p) (by simp;omega) fun h' T=>⟨rfl,I.turned (t':=s.toks) (fun b o j e=>T b o j e) C f1 D F G⟩
 self:=fun _ _ _ _ _ st h=>wpAny_pyIter_tupleiter st h
theorem zIv {P:aL}{w:aU}{K:ae}{A:bO}(a:ao)(lo:Int)(n:Nat):Turn P w K A (g6 lo n) [a] a (fun i h=>lD h a (lo+(i:Nat)*1) ((n:Int)- (i:Nat)) 1) where
 mem:=by simp
 obj:=fun i h st b d=>by
  have e:b=a:=by simpa using d
  subst e
  exact⟨_,st,fun v z=>by
   have B:Data.fields _=Data.cell v:=z
   cases B⟩
 keep:=fun i h h' st k=>k a (by simp) _ st
 item:=by
  intro X j l m p i c s σ H E I g st q
  subst j l m
  obtain⟨r,f1,f2,u,x,y⟩:=g a (by simp)
  have W:=p5 (prog:=X.prog) (w:=X.w) (I.ok.hd p) a lo 1 n
  refine W.item i s _ _ q st fun v h' tk C f D=>?_
  obtain⟨t,rfl⟩:=C
  have F:Inv X c σ H {s with heap:=h',toks:=tk}:=I.turned (fun b o d e=>D b o (by simpa using d) e) r f1 u x y
  refine⟨_,rfl,jU (s:={s with heap:=h',toks:=tk}) (n :="range_iterator") f rfl rfl (by decide) ⟨.int (lo+i),H,F,⟨t,?_⟩,⟨rfl,rfl⟩,f,fun b d=>(g b d).1⟩⟩
  rw[Int.mul_one]
 done:=by
  intro X j l m p i c s σ H E I g st q
  subst j l m
  obtain⟨r,f1,f2,u,x,y⟩:=g a (by simp)
  exact jt (I.ok.hd p) st (by have:n<=i:=q;omega) fun h' G=>⟨rfl,I.turned (t':=s.toks) (fun b o d e=>G b o d e) r f1 u x y⟩
 self:=fun _ _ _ _ _ st h=>ju st h
section
variable{X:Cx}{tg:bO}
def zIw (K:ae)(tl:TE):TI:=fun σ H R=>tl σ H fun x H1=>∃a,x=.ref a/\(∃xs,yF K H1 a xs)/\R (Itl K a) H1
def zIx (K:ae)(tl:TE):TI:=fun σ H R=>tl σ H fun x H1=>∃a,x=.ref a/\(∃xs,yE K H1 a xs)/\R (Itt K a) H1
theorem qC {l:bO}{g:TE}(hl:PE X l g):PI X tg l (zIw X.K g):=by
 intro c s σ H R I h
 refine zH (hl c s σ H _ I h) fun v d ⟨x,i,f,j,m⟩=>?_
 obtain⟨a,e,⟨xs,n⟩,q⟩:=m
 subst e
 cases j
 obtain⟨its,t,p,hz⟩:=f.list n
 refine d3 p.isList ?_
 refine⟨d.heap.objs.size,[d.heap.objs.size],_,_,i,rfl,f.kept (t':=d.toks) fun b o e=>ag _ e,zIt a _,⟨_,aB _ rfl,rfl,rfl⟩,fun b r=>?_,q⟩
 have e:b=d.heap.objs.size:=by simpa using r
 subst e
 exact f.fpOk (ay _) (f.hok.fresh (ay _))
theorem kO {l:bO}{g:TE}(hl:PE X l g):PI X tg l (zIx X.K g):=by
 intro c s σ H R I h
 refine zH (hl c s σ H _ I h) fun v d ⟨x,i,f,j,m⟩=>?_
 obtain⟨a,e,⟨xs,n⟩,q⟩:=m
 subst e
 cases j
 obtain⟨its,t,p,hz⟩:=f.tuple n
 refine wpAny_pyIter_tuple (show d.heap.IsTuple a its.toArray from p) ?_
 refine⟨d.heap.objs.size,[d.heap.objs.size],_,_,i,rfl,f.kept (t':=d.toks) fun b o e=>ag _ e,zIu a _,⟨_,aB _ rfl,rfl,rfl⟩,fun b r=>?_,q⟩
 have e:b=d.heap.objs.size:=by simpa using r
 subst e
 exact f.fpOk (ay _) (f.hok.fresh (ay _))
theorem zEN {a:List (ao×Obj)}{σ:St}{H:Hp}{s:ar}{R:It->Hp->Prop}{E:ah->ar->Prop}{lo hi:Int}{t u v:Tok}{tk:Nat}(I:Inv X a σ H s)(d:-(2^62)<=lo)(f:lo<2^62)(g:-(2^62)<=hi)(h:hi<2^62)
  (q:R (g6 lo (hi-lo).toNat) H):wpAny (model X.prog X.w) X.A (pyIter (.ref s.heap.objs.size)) (PIE X a σ tg R) E {s with heap:=s.heap.push {cls:=.type "range",data:=.fields #[.int lo t,.int hi u,.int 1 v]},toks:=tk}:=by
 refine mx (p6 ..) (small_one d f g h) ?_
 have c:Inv X a σ H {s with heap:=s.heap.push {cls:=.type "range",data:=.fields #[.int lo t,.int hi u,.int 1 v]},toks:=tk}:=I.kept fun b o e=>ag _ e
 refine⟨(s.heap.push {cls:=.type "range",data:=.fields #[.int lo t,.int hi u,.int 1 v]}).objs.size,[(s.heap.push {cls:=.type "range",data:=.fields #[.int lo t,.int hi u,.int 1 v]}).objs.size],_,_,H,rfl,
  c.kept (t':=tk) fun b o e=>ag _ e,zIv _ lo (hi-lo).toNat,?_,fun b i=>?_,q⟩
 ·have e1:lo+((0:Nat):Int)*1=lo:=by simp
  have j:(((hi-lo).toNat:Nat):Int)- ((0:Nat):Int)=eA lo hi 1:=by rw[rangeSize_one];split<;>omega
  show lD _ _ (lo+((0:Nat):Int)*1) ((((hi-lo).toNat:Nat):Int)- ((0:Nat):Int)) 1
  rw[e1,j]
  exact aB _ rfl
 ·have e:b=(s.heap.push {cls:=.type "range",data:=.fields #[.int lo t,.int hi u,.int 1 v]}).objs.size:=by simpa using i
  subst e
  exact c.fpOk (ay _) (c.hok.fresh (ay _))
def zIy (ta:TA):TI:=fun σ H R=>ta σ H fun vs H1=>∃j:Int,vs=[.int j]/\-(2^62)<=j/\j<2^62/\R (g6 0 j.toNat) H1
def zIz (ta:TA):TI:=fun σ H R=>ta σ H fun vs H1=>∃i j:Int,vs=[.int i,.int j]/\(-(2^62)<=i/\i<2^62/\-(2^62)<=j/\j<2^62)/\R (g6 i (j-i).toNat) H1
theorem zBa {a:bO}{d:TA}{p pos:Pos}(f:Gl X "range")(hm:X.mg "range"=none)(g:PA X [a] d)(i:starEach [a] X.env=[(false,eval a X.env)]:=by rfl):PI X tg (.Call (.Name "range" p) [a] [] pos) (zIy d):=by
 intro b s σ H R I h
 refine Call_ (qA I f hm n0 (cc (zH (g pos b s σ H _ I h) fun u v ⟨vs,w,l,m,c⟩=>?_) i rfl))
 obtain⟨j,e,c,n,q⟩:=c
 subst e
 cases m with
 |cons r o=>
  cases o
  obtain⟨t,rfl⟩:=r
  exact call_range_1 (zEN l (by omega) (by omega) c n (by simpa using q))
theorem zEO {a b:bO}{l:TA}{p pos:Pos}(m:Gl X "range")(hm:X.mg "range"=none)(n:PA X [a,b] l)(o:starEach [a,b] X.env=[(false,eval a X.env),(false,eval b X.env)]:=by rfl)(c:starEach [b] X.env=[(false,eval b X.env)]:=by rfl) :
  PI X tg (.Call (.Name "range" p) [a,b] [] pos) (zIz l):=by
 intro d s σ H R I h
 refine Call_ (qA I m hm n0 (cc (zH (n pos d s σ H _ I h) fun A B ⟨vs,C,u,v,f⟩=>?_) (by rw[o,c]) (by rw[c];rfl)))
 obtain⟨i,j,e,⟨f,w,x,y⟩,q⟩:=f
 subst e
 cases v with
 |cons r g=>
  cases g with
  |cons z g=>
   cases g
   obtain⟨t,rfl⟩:=r
   obtain⟨t',rfl⟩:=z
   exact call_range_2 (zEN u f w x y q)
def zJA (wi:TI)(g:TG)(tb:TS):TS:=fun D σ H=>wi σ H fun J H1=>∃W:Nat->Nat->St->Hp->Prop,(∃m,W 0 m σ H1)/\∀i m σ H,W i m σ H->
 (J.stop i H/\D.nx σ H)\/(J.go i H/\∃N:St->Hp->Prop,(∀σ' H',N σ' H'->∃m',m'<m/\W (i+1) m' σ' H')/\∀x H',J.yld i H x H'->g x σ H' fun σ2 H2=>tb {D with nx:=N,ct:=N,bk:=D.nx} σ2 H2)
def kP (fp:List ao)(h:bx):List (ao×Obj):=fp.filterMap fun b=>(h.get? b).map fun o=>(b,o)
theorem jV {fp:List ao}{h:bx}{b:ao}{o:Obj}(a:b∈fp)(e:h.get? b=some o):(b,o)∈kP fp h:=my.mpr ⟨b,a,by rw[e];rfl⟩
theorem zJB {fp:List ao}{h:bx}{p:ao×Obj}(a:p∈kP fp h):p.1∈fp/\h.get? p.1=some p.2:=by
 obtain⟨b,c,e⟩:=my.mp a
 cases q:h.get? b with
 |none=>rw[q]at e;cases e
 |some o=>
  rw[q]at e
  have d:(b,o)=p:=aw e
  subst d
  exact⟨c,q⟩
theorem Inv.pinned {a:List (ao×Obj)}{σ:St}{H:Hp}{s:ar}{fp:List ao}(I:Inv X a σ H s)(g:∀b∈fp,uI X a H b)(h:∀b∈fp,∃o,s.heap.get? b=some o/\∀v,o.data≠.cell v):Inv X (a++kP fp s.heap) σ H s :=
 I.pins_of fun p i=>(bt.mp i).elim (fun z=>I.pin p (aP _ z)) fun z=>by
  obtain⟨c,e⟩:=zJB z
  obtain⟨j,f1,f2,_⟩:=g p.1 c
  obtain⟨o,f,d⟩:=h p.1 c
  rw[e]at f;cases f
  exact⟨e,j,f1,f2,d⟩
theorem Inv.unpinned {a pl:List (ao×Obj)}{σ:St}{H:Hp}{s:ar}(I:Inv X (a++pl) σ H s):Inv X a σ H s:=I.pins_of fun p b=>I.pin p (aP _ (bG _ b))
theorem v8 {iter:bO}{body:List cq}{Y:TI}{g:TG}{Z:TS}{pos:Pos}(z:PassesOwn (model X.prog X.w) X.A X.env X.xe)(hc:X.calm=true)(hi:PI X tg iter Y)(hg:PG X tg g)(c:uC X body Z)
  (hs:∀x,foldedSetIterable iter X.env x=pure x:=by intro _;rfl):PS X (.For tg iter body [] pos) (zJA Y g Z):=by
 intro a s σ H D I h
 refine wpAny_For (zH (hi a s σ H _ I h) fun v s1 h1=>zH h1 fun ab s2 h2=>?_) hs
 obtain⟨it,fp,tn,J,H2,e,I2,T,O,f2,W,⟨m0,w0⟩,B⟩:=h2
 subst e
 have j:∀{H':Hp},(∀b∈fp,H' b=none)->∀b∈fp,uI X a H' b:=fun hn b c=>⟨hn b c,(f2 b c).2⟩
 refine codeAny_forLoop_any (fun n s'=>∃i C H',Inv X a C H' s'/\tn i s'.heap/\(∀b∈fp,H' b=none)/\W i n C H') ?_ m0 ⟨0,σ,H2,I2,O,fun b c=>(f2 b c).1,w0⟩
 rintro n s3 ⟨i,E,M,I3,F,G,w3⟩
 rcases B i n E M w3 with⟨stop,qn⟩|⟨go,N,hN,step⟩
 ·refine dY z (zH (T.done X rfl rfl rfl hc i a s3 E M X.xe I3 (j G) F stop) fun r s4 ⟨P,I4⟩=>?_)
  subst P
  exact gx ⟨E,M,I4,qn⟩
 ·refine dY z (zH (T.item X rfl rfl rfl hc i a s3 E M X.xe I3 (j G) F go) fun r s4 ⟨u,P,h4⟩=>?_)
  subst P
  refine dY z (zH h4 fun _ s5 ⟨x,H5,I5,r5,y5,y,Q⟩=>?_)
  have R:=I5.pinned (j Q) (T.obj _ _ y)
  refine dY z (zH (hg _ s5 E H5 x u _ R r5 (step x H5 y5)) fun _ s6 ⟨σ6,H6,I6,q6⟩=>?_)
  refine dY z (zH (c _ s6 σ6 H6 _ I6 q6) fun f U t=>?_)
  have again:∀{l:St} {p:Hp},Inv X (a++kP fp s5.heap) l p U->N l p->∃m,m<n/\∃i C H',Inv X a C H' U/\tn i U.heap/\(∀b∈fp,H' b=none)/\W i m C H':=fun{l p} q L=>by
   obtain⟨m',hm,w7⟩:=hN l p L
   refine⟨m',hm,i+1,l,p,q.unpinned,T.keep _ _ _ y fun b c o e=>(q.pin (b,o) (aP _ (aP _ (jV c e)))).1,fun b c=>?_,w7⟩
   obtain⟨o,e,d⟩:=T.obj _ _ y b c
   exact(q.pin (b,o) (aP _ (aP _ (jV c e)))).2.1
  cases f with
  |next=>obtain⟨l,p,q,L⟩:=t;exact again q L
  |cont=>obtain⟨l,p,q,L⟩:=t;exact again q L
  |brk=>obtain⟨l,p,q,t⟩:=t;exact⟨l,p,q.unpinned,t⟩
  |ret v=>obtain⟨x7,l,p,q,r7,t⟩:=t;exact⟨x7,l,p,q.unpinned,r7,t⟩
end
abbrev R2:=V->V->Hp->VK->Prop
def yB (X:Cx)(f:ah->ah->Sem ah)(r:R2):Prop :=
 ∀(pins:List (ao×Obj)) (s:ar) (σ:St) (H:Hp) (x y:V) (v u:ah) (Q:VK),Inv X pins σ H s->zS x v->zS y u->r x y H Q->
  wpAny (model X.prog X.w) X.A (f v u) (EP X pins σ Q) X.xe s
def UnR (X:Cx)(f:ah->Sem ah)(r:V->Hp->VK->Prop):Prop :=
 ∀(pins:List (ao×Obj)) (s:ar) (σ:St) (H:Hp) (x:V) (v:ah) (Q:VK),Inv X pins σ H s->zS x v->r x H Q->
  wpAny (model X.prog X.w) X.A (f v) (EP X pins σ Q) X.xe s
def qD (X:Cx)(f:ah)(r:List V->Hp->VK->Prop):Prop :=
 ∀(pins:List (ao×Obj)) (s:ar) (σ:St) (H:Hp) (xs:List V) (us:List ah) (Q:VK),Inv X pins σ H s->zN xs us->r xs H Q->
  wpAny (model X.prog X.w) X.A (call f us) (EP X pins σ Q) X.xe s
def g7 (r:R2)(ta tb:TE):TE:=fun σ H Q=>ta σ H fun x H1=>tb σ H1 fun y H2=>r x y H2 Q
def tUn (r:V->Hp->VK->Prop)(ta:TE):TE:=fun σ H Q=>ta σ H fun x H1=>r x H1 Q
def rI (C:Int->Int->Prop)(g:Int->Int->V):R2:=fun x y H Q=>∃i j,x=.int i/\y=.int j/\C i j/\Q (g i j) H
def jI (g:Int->Int->V):R2:=fun x y H Q=>∃i j,x=.int i/\y=.int j/\Q (g i j) H
def rU (g:Int->V):V->Hp->VK->Prop:=fun x H Q=>∃i,x=.int i/\Q (g i) H
section
variable{X:Cx}{a b c:bO}{ta tb tc:TE}{pos:Pos}
theorem zBb (j:PE X a ta)(l:PE X b tb){d:List (ao×Obj)}{s:ar}{σ:St}{H:Hp}{R:V->V->Hp->Prop}(I:Inv X d σ H s)
  (h:ta σ H fun x i=>tb σ i fun y e=>R x y e) {Q:ah->ar->Prop} {f:ah->ah->Sem ah}
  (m:∀v u g x y e,Inv X d σ e g->zS x v->zS y u->R x y e->wpAny (model X.prog X.w) X.A (f v u) Q X.xe g) :
  wpAny (model X.prog X.w) X.A (eval a X.env) (fun v n=>wpAny (model X.prog X.w) X.A (eval b X.env) (fun u o=>wpAny (model X.prog X.w) X.A (f v u) Q X.xe o) X.xe n) X.xe s:=by
 refine zH (j d s σ H _ I h) fun v p ⟨x,i,q,r,t⟩=>?_
 refine zH (l d p σ i _ q t) fun u g ⟨y,e,z,B,C⟩=>?_
 exact m v u g x y e z r B C
theorem zW {op:Operator}{r:R2}(e:yB X (binaryOp op) r)(f:PE X a ta)(g:PE X b tb):PE X (.BinOp a op b pos) (g7 r ta tb):=by
 intro d s σ H Q I h
 exact wpAny_BinOp (zBb f g I h fun v u i x y j l m n q=>e d i σ j x y v u Q l m n q)
theorem g8 {op:UnaryOp}{r:V->Hp->VK->Prop}(e:UnR X (unaryOp op) r)(f:PE X a ta):PE X (.UnaryOp op a pos) (tUn r ta):=by
 intro d s σ H Q I h
 exact UnaryOp_ (zH (f d s σ H _ I h) fun v g ⟨x,i,j,l,m⟩=>e d g σ i x v Q j l m)
theorem kQ {f:ah->ah->Sem ah}{C:Int->Int->Prop}{g:Int->Int->Int}
  (rule:∀(i j:Int) (t u:Tok) (s:ar) (Q:ah->ar->Prop) (E:ah->ar->Prop),C i j->Q (.int (g i j) s.toks) {s with toks:=s.toks+1}->wpAny (model X.prog X.w) X.A (f (.int i t) (.int j u)) Q E s) :
  yB X f (rI C fun i j=>.int (g i j)):=by
 intro d s σ H x y v u Q I e l h
 obtain⟨i,j,rfl,rfl,m,q⟩:=h
 obtain⟨t,rfl⟩:=e
 obtain⟨t',rfl⟩:=l
 exact rule i j t t' s _ _ m ⟨.int (g i j),H,I.tok _,⟨_,rfl⟩,q⟩
theorem zEP {f:ah->ah->Sem ah}{g:Int->Int->Int}
  (rule:∀(i j:Int) (t u:Tok) (s:ar) (Q:ah->ar->Prop) (E:ah->ar->Prop),Q (.int (g i j) s.toks) {s with toks:=s.toks+1}->wpAny (model X.prog X.w) X.A (f (.int i t) (.int j u)) Q E s) :
  yB X f (jI fun i j=>.int (g i j)):=by
 intro d s σ H x y v u Q I e l h
 obtain⟨i,j,rfl,rfl,q⟩:=h
 obtain⟨t,rfl⟩:=e
 obtain⟨t',rfl⟩:=l
 exact rule i j t t' s _ _ ⟨.int (g i j),H,I.tok _,⟨_,rfl⟩,q⟩
theorem zBc {f:ah->ah->Sem ah}{g:Int->Int->Bool}
  (rule:∀(i j:Int) (t u:Tok) (s:ar) (Q:ah->ar->Prop) (E:ah->ar->Prop),Q (.bool (g i j)) s->wpAny (model X.prog X.w) X.A (f (.int i t) (.int j u)) Q E s) :
  yB X f (jI fun i j=>.bl (g i j)):=by
 intro d s σ H x y v u Q I e l h
 obtain⟨i,j,rfl,rfl,q⟩:=h
 obtain⟨t,rfl⟩:=e
 obtain⟨t',rfl⟩:=l
 exact rule i j t t' s _ _ ⟨.bl (g i j),H,I,rfl,q⟩
def zJC (i j:Int):Prop:=0<j/\j<1073741824
def zJD (i j:Int):Prop:=0<=j/\j<=1000000/\i.natAbs<2^64
def g9 (i j:Int):Prop:=(-(2^64)<i/\i<2^64)\/(-(2^64)<j/\j<2^64)
theorem g9.ok {i j:Int}(h:g9 i j):IntMulOk i j:=by
 rcases h with⟨d,e⟩|⟨d,e⟩
 ·exact .of_left (oO d e)
 ·exact .of_right (oO d e)
theorem y9:yB X (binaryOp .Add) (jI fun i j=>.int (i+j)):=zEP fun _ _ _ _ _ _ _ q=>add_int q
theorem zJE:yB X (binaryOp .Sub) (jI fun i j=>.int (i-j)):=zEP fun _ _ _ _ _ _ _ q=>sub_int q
theorem uD:yB X (binaryOp .Mult) (rI g9 fun i j=>.int (i*j)):=kQ fun _ _ _ _ _ _ _ d q=>mul_int q d.ok
theorem kR:yB X (binaryOp .FloorDiv) (rI zJC fun i j=>.int (i/j)):=kQ fun i j _ _ _ _ _ d q=>by
 have e:(0:Int)<j:=d.1
 have f:j<1073741824:=d.2
 exact floordiv_int (by omega) (by rw[iA i (by omega)];exact q) (.inl (jv (by omega)))
theorem jW:yB X (binaryOp .Mod) (rI (fun _ j=>0<j) fun i j=>.int (i%j)):=kQ fun i j _ _ _ _ _ d q=>by
 have e:(0:Int)<j:=d
 exact mod_int' (by omega) (by rw[Int.fmod_eq_emod_of_nonneg i (by omega)];exact q)
theorem zJF:yB X (binaryOp .Pow) (rI zJD fun i j=>.int (i^j.toNat)):=kQ fun _ _ _ _ _ _ _ d q=>pow_int_small d.1 d.2.1 d.2.2 q
theorem unI {f:ah->Sem ah}{g:Int->Int}
  (rule:∀(i:Int) (t:Tok) (s:ar) (Q:ah->ar->Prop) (E:ah->ar->Prop),Q (.int (g i) s.toks) {s with toks:=s.toks+1}->wpAny (model X.prog X.w) X.A (f (.int i t)) Q E s) :
  UnR X f (rU fun i=>.int (g i)):=by
 intro d s σ H x v Q I e h
 obtain⟨i,rfl,q⟩:=h
 obtain⟨t,rfl⟩:=e
 exact rule i t s _ _ ⟨.int (g i),H,I.tok _,⟨_,rfl⟩,q⟩
theorem zAA:UnR X (unaryOp .USub) (rU fun i=>.int (-i)):=unI fun _ _ _ _ _ q=>neg_int q
end
def zEQ:V->V->Bool
 | .non,.non=>true| .non,.int _=>true| .int _,.non=>true| .non,.bl _=>true| .bl _,.non=>true| .non,.str _=>true| .str _,.non=>true
 | .int _,.int _=>true| .bl _,.bl _=>true| .str _,.str _=>true| .byt _,.byt _=>true
 | .int _,.str _=>true| .str _,.int _=>true| .bl _,.str _=>true| .str _,.bl _=>true
 |_,_=>false
def rEq:R2:=fun x y H Q=>zEQ x y=true/\Q (.bl (decide (x=y))) H
def rNe:R2:=fun x y H Q=>zEQ x y=true/\Q (.bl (!decide (x=y))) H
theorem zER {i j:Int}:decide (V.int i=V.int j)=(i==j):=by
 rw[eY]
 simp
theorem zES {i j:Bool}:decide (V.bl i=V.bl j)=(i==j):=by
 rw[eY]
 simp
theorem zET {i j:Str}:decide (V.str i=V.str j)=(i==j):=by
 rw[eY]
 simp
theorem zEU {i j:Array UInt8}:decide (V.byt i=V.byt j)=(i.toList==j.toList):=by
 rw[eY]
 cases i
 cases j
 simp
section
variable{X:Cx}{a b c:bO}{ta tb tc:TE}{pos:Pos}
theorem yK {d:List (ao×Obj)}{σ:St}{H:Hp}{s:ar}{Q:VK}{k f:Bool}(I:Inv X d σ H s)(q:Q (.bl k) H)(e:k=f):EP X d σ Q (.bool f) s:=by
 subst e
 exact⟨.bl k,H,I,rfl,q⟩
theorem zJG:yB X (compareOp .Eq) rEq:=by
 intro g s σ H x y v u Q I f d h
 obtain⟨e,q⟩:=h
 cases x with
 |non=>
  cases f
  cases y with
  |non=>cases d;exact oz (yK I q (by simp))
  |bl j=>cases d;exact oA (yK I q (by simp))
  |int j=>obtain⟨t',rfl⟩:=d;exact oP (yK I q (by simp))
  |str j=>obtain⟨t',rfl⟩:=d;exact oQ (yK I q (by simp))
  |_=>exact absurd (show false=true from e) aT
 |bl i=>
  cases f
  cases y with
  |non=>cases d;exact oB (yK I q (by simp))
  |bl j=>cases d;exact eq_bool (yK I q zES)
  |str j=>obtain⟨t',rfl⟩:=d;exact oD (yK I q (by simp))
  |_=>exact absurd (show false=true from e) aT
 |int i=>
  obtain⟨t,rfl⟩:=f
  cases y with
  |non=>cases d;exact oR (yK I q (by simp))
  |int j=>obtain⟨t',rfl⟩:=d;exact eq_int (yK I q zER)
  |str j=>obtain⟨t',rfl⟩:=d;exact oS (yK I q (by simp))
  |_=>exact absurd (show false=true from e) aT
 |str i=>
  obtain⟨t,rfl⟩:=f
  cases y with
  |non=>cases d;exact oT (yK I q (by simp))
  |bl j=>cases d;exact oE (yK I q (by simp))
  |int j=>obtain⟨t',rfl⟩:=d;exact oU (yK I q (by simp))
  |str j=>obtain⟨t',rfl⟩:=d;exact eq_str (yK I q zET)
  |_=>exact absurd (show false=true from e) aT
 |byt i=>
  obtain⟨t,rfl⟩:=f
  cases y with
  |byt j=>obtain⟨t',rfl⟩:=d;exact PySem.W.eq_bytes (yK I q zEU)
  |_=>exact absurd (show false=true from e) aT
 |_=>cases y<;>exact absurd (show false=true from e) aT
theorem zAB:yB X (compareOp .NotEq) rNe:=by
 intro g s σ H x y v u Q I f d h
 obtain⟨e,q⟩:=h
 cases x with
 |non=>
  cases f
  cases y with
  |non=>cases d;exact oF (yK I q (by simp))
  |bl j=>cases d;exact oG (yK I q (by simp))
  |int j=>obtain⟨t',rfl⟩:=d;exact oV (yK I q (by simp))
  |str j=>obtain⟨t',rfl⟩:=d;exact oW (yK I q (by simp))
  |_=>exact absurd (show false=true from e) aT
 |bl i=>
  cases f
  cases y with
  |non=>cases d;exact oH (yK I q (by simp))
  |bl j=>cases d;exact ne_bool (yK I q (congrArg not zES))
  |str j=>obtain⟨t',rfl⟩:=d;exact oJ (yK I q (by simp))
  |_=>exact absurd (show false=true from e) aT
 |int i=>
  obtain⟨t,rfl⟩:=f
  cases y with
  |non=>cases d;exact oX (yK I q (by simp))
  |int j=>obtain⟨t',rfl⟩:=d;exact ne_int (yK I q (congrArg not zER))
  |str j=>obtain⟨t',rfl⟩:=d;exact oY (yK I q (by simp))
  |_=>exact absurd (show false=true from e) aT
 |str i=>
  obtain⟨t,rfl⟩:=f
  cases y with
  |non=>cases d;exact oZ (yK I q (by simp))
  |bl j=>cases d;exact oK (yK I q (by simp))
  |int j=>obtain⟨t',rfl⟩:=d;exact o2 (yK I q (by simp))
  |str j=>obtain⟨t',rfl⟩:=d;exact ne_str (yK I q (congrArg not zET))
  |_=>exact absurd (show false=true from e) aT
 |byt i=>
  obtain⟨t,rfl⟩:=f
  cases y with
  |byt j=>obtain⟨t',rfl⟩:=d;exact PySem.W.ne_bytes (yK I q (congrArg not zEU))
  |_=>exact absurd (show false=true from e) aT
 |_=>cases y<;>exact absurd (show false=true from e) aT
theorem zAe:yB X (compareOp .Lt) (jI fun i j=>.bl (decide (i<j))):=zBc fun _ _ _ _ _ _ _ q=>lt_int q
theorem kS:yB X (compareOp .LtE) (jI fun i j=>.bl (decide (i<=j))):=zBc fun _ _ _ _ _ _ _ q=>le_int q
theorem zBd:yB X (compareOp .Gt) (jI fun i j=>.bl (decide (j<i))):=zBc fun _ _ _ _ _ _ _ q=>gt_int q
theorem zJH:yB X (compareOp .In) (fun x y H Q=>∃i j,x=.str i/\y=.str j/\Q (.bl (!(fM j i 0 j.length 1).isEmpty)) H):=by
 intro d s σ H x y v u Q I e f h
 obtain⟨i,j,rfl,rfl,q⟩:=h
 obtain⟨t,rfl⟩:=e
 obtain⟨t',rfl⟩:=f
 exact in_str (yK I q rfl)
theorem yB.or {f:ah->ah->Sem ah}{r e:R2}(h:yB X f r)(h':yB X f e):yB X f (fun x y H Q=>r x y H Q\/e x y H Q):=by
 intro d s σ H x y v u Q I g i q
 rcases q with q|q
 ·exact h d s σ H x y v u Q I g i q
 ·exact h' d s σ H x y v u Q I g i q
theorem yQ (b:bO){op:nY}(h:op≠.In:=by decide)(d:op≠.NotIn:=by decide):behindInMarks op b=false:=by
 have e1:(op==CmpOp.In)=false:=by cases op<;>first|rfl|exact absurd rfl h
 have e:(op==CmpOp.NotIn)=false:=by cases op<;>first|rfl|exact absurd rfl d
 cases b<;>simp[behindInMarks,e1,e]
theorem jX {op:nY}{r:R2}(e:yB X (compareOp op) r)(f:PE X a ta)(g:PE X b tb)(hm:behindInMarks op b=false):PE X (.Compare a [op] [b] pos) (g7 r ta tb):=by
 intro d s σ H Q I h
 exact wpAny_Compare1 (zBb f g I h fun v u i x y j l m n q=>e d i σ j x y v u Q l m n q) hm
def zEV (t:TE):TT:=fun σ H Q=>t σ H fun x H'=>∃k,x=.bl k/\Q k H'
theorem yS {op:nY}{r:R2}(f:yB X (compareOp op) r)(g:PE X a ta)(i:PE X b tb)(hm:behindInMarks op b=false):PT X (.Compare a [op] [b] pos) (zEV (g7 r ta tb)):=by
 intro d s σ H Q I h
 refine lh (zH (g d s σ H _ I h) fun v j ⟨x,l,m,n,o⟩=>zH (i d j σ l _ m o) fun u p ⟨y,q,t,w,A⟩=>
  zH (f d p σ q x y v u _ t n w A) fun c F ⟨z,B,C,D,k,e,E⟩=>?_) hm
 subst e
 cases D
 exact cY ⟨B,C,E⟩
def zEW (r r':R2)(ta tb tc:TE):TE:=fun σ H Q=>ta σ H fun x H1=>tb σ H1 fun y H2=>r x y H2 fun z H3=>∃k,z=.bl k/\
 (if k=true then tc σ H3 fun w' H4=>r' y w' H4 Q else Q (.bl false) H3)
theorem zJI {op g:nY}{r j:R2}(p:yB X (compareOp op) r)(i:yB X (compareOp g) j)(q:PE X a ta)(t:PE X b tb)(w:PE X c tc)
  (hm:lastMarks [op,g] [b,c]=false:=by with_unfolding_all rfl):PE X (.Compare a [op,g] [b,c] pos) (zEW r j ta tb tc):=by
 intro f s σ H Q I h
 refine Compare_chain (zH (q f s σ H _ I h) fun v A ⟨x,B,C,D,E⟩=>chain_link (zH (t f A σ B _ C E) fun u F ⟨y,G,J,l,L⟩=>
  zH (p f F σ G x y v u _ J D l L) fun d M ⟨z,m,n,N,k,e,o⟩=>?_)) hm
 subst e
 cases N
 refine cY ?_
 cases k with
 |false=>exact ite_ff ⟨.bl false,m,n,rfl,o⟩
 |true=>exact ite_tt (chain_last (zH (w f M σ m _ n o) fun O P ⟨R,T,U,W,Y⟩=>i f P σ T y R u O Q U l W Y))
theorem zEX {op g:nY}{r j:R2}(p:yB X (compareOp op) r)(i:yB X (compareOp g) j)(q:PE X a ta)(t:PE X b tb)(w:PE X c tc)
  (hm:lastMarks [op,g] [b,c]=false:=by with_unfolding_all rfl):PT X (.Compare a [op,g] [b,c] pos) (zEV (zEW r j ta tb tc)):=by
 intro f s σ H Q I h
 refine isTrue_chain (zH (q f s σ H _ I h) fun v A ⟨x,B,C,D,E⟩=>test_link (zH (t f A σ B _ C E) fun u F ⟨y,G,J,l,L⟩=>
  zH (p f F σ G x y v u _ J D l L) fun d M ⟨z,m,n,N,k,e,o⟩=>?_)) hm
 subst e
 cases N
 refine cY ?_
 cases k with
 |false=>
  obtain⟨k',O,P⟩:=o
  cases O
  exact ite_ff ⟨m,n,P⟩
 |true=>
  refine ite_tt (test_last (zH (w f M σ m _ n o) fun R T ⟨U,W,Y,Z,q4⟩=>zH (i f T σ W y U u R _ Y l Z q4) fun d' s5 ⟨z2,H5,I5,r5,k2,e2,q5⟩=>?_))
  subst e2
  cases r5
  exact cY ⟨H5,I5,q5⟩
theorem zAC:(sizeLine:Nat)<2^63:=by rw[aZ];decide
theorem zBe:yB X (binaryOp .Add) (fun x y H Q=>∃i j,x=.str i/\y=.str j/\i.length+j.length<=sizeLine/\Q (.str (i++j)) H):=by
 intro d s σ H x y v u Q I e f h
 obtain⟨i,j,rfl,rfl,hz,q⟩:=h
 obtain⟨t,rfl⟩:=e
 obtain⟨t',rfl⟩:=f
 exact add_str (fun t' tk=>⟨.str (i++j),H,I.tok _,⟨_,rfl⟩,q⟩) hz
theorem qE {x:V}{d:List ah}(r:zN [x] d):∃u,d=[u]/\zS x u:=by
 cases r with
 |cons e f=>cases f;exact⟨_,rfl,e⟩
theorem zBf {x y:V}{d:List ah}(r:zN [x,y] d):∃u e,d=[u,e]/\zS x u/\zS y e:=by
 cases r with
 |cons f g=>
  cases g with
  |cons h i=>cases i;exact⟨_,_,rfl,f,h⟩
end
structure ObjM (h:bx) (x dx C:ao) (mA:Str->Option ah):Prop where
 obj:h.get? x=some (kj C dx)
 ns:h.Ns1 dx mA
 ne:dx≠x
theorem zJJ {h:bx}{c:ao}{d:Str->Option ah}(n:h.Ns1 c d):∃od,h.get? c=some od/\∀name,lE name od=some (d name):=by
 obtain⟨o,f,ep,g,hd,i,_,hm⟩:=n
 refine⟨o,g,fun name=>?_⟩
 have e:=hm name
 unfold nsFind findBy at e
 rw[<-Array.find?_toList]at e
 unfold lE
 rw[hd]
 dsimp only
 split
 ·rename_i y q
  rw[q]at e
  exact congrArg some e
 ·rename_i q
  rw[q]at e
  have a:f.toList.any (·.refKey)=false:=by
   rw[List.any_eq_false]
   intro y j
   obtain⟨z,t,b⟩:=i y (Array.mem_toList_iff.mp j)
   simp[qy,b]
  have l:¬f.toList.any (·.refKey)=true:=by rw[a];exact aT
  rw[if_neg l]
  exact congrArg some e
theorem ObjM.look {h:bx}{x a C:ao}{b:Str->Option ah}(I:ObjM h x a C b):∃od,PySem.W.InstAt h x (kj C a) C (some od)/\∀name,lE name od=some (b name) :=
 let⟨od,c,hl⟩:=zJJ I.ns
 ⟨od,⟨I.obj,rfl,rfl,c⟩,hl⟩
theorem uB.some_of {v:V}{o:Option ah}(r:uB (some v) o):∃u,o=some u/\zS v u:=by
 cases o with
 |none=>exact(show False from r).elim
 |some u=>exact⟨u,rfl,r⟩
section
variable{P:aL}{w:aU}{H H':Hp}{h h':bx}{a C dx:ao}{fs fs':List (Str×V)}
theorem zJK (hok:z6 P w H h)(e:H a=some (.ins C dx fs)):∃b,ObjM h a dx C b/\(∀f,uB (fs.lookup f) (b f))/\pI b (fs.map (·.1))/\fs.length<=1000/\H dx=some (.own a):=by
 obtain⟨d,z,ne,c,b,n,r,q⟩:=(show yJ P w H h a (.ins C dx fs)from hok a _ e)
 exact⟨b,⟨c,n,ne⟩,r,q,z,d⟩
end
structure Cls (K:ae) (C:ao):Prop where
 pg:nr K C qz=true
 hd:PySem.W.hasDictIn K C=true
 po:PySem.W.plainOver K C=true
 sa:n4 K (.ref C) "__setattr__"=some (some (.builtin "object.__setattr__"))
theorem Cls.get {K:ae}{C:ao}(c:Cls K C)(f:Str):nr K C f=true:=c.pg
section
variable{X:Cx}{pins:List (ao×Obj)}{σ:St}{H:Hp}{s:ar}{A:bS}{E:ah->ar->Prop}{Q:ah->ar->Prop}{c:ah}{b:Bool}
inductive TyOf (K:ae) (H:Hp):V->ah->Prop where
 |non:TyOf K H .non (.type "NoneType")
 |bl (x:Bool):TyOf K H (.bl x) (.type "bool")
 |int (i:Int):TyOf K H (.int i) (.type "int")
 |str (x:Str):TyOf K H (.str x) (.type "str")
 |flt (x:UInt64):TyOf K H (.flt x) (.type "float")
 |lst {a:ao} {xs:List V} (e:H a=some (.lst xs)):TyOf K H (.ref a) (.type "list")
 |frz {a:ao} {o:Obj} {xs:List V} (e:H a=some (.frz o (.lst xs))):TyOf K H (.ref a) (.type "list")
 |tup {a:ao} {xs:List V} (e:H a=some (.tup xs)):TyOf K H (.ref a) (.type "tuple")
 |dK {a:ao} {kvs:List (zI×V)} (e:H a=some (.dK kvs)):TyOf K H (.ref a) (.type "dict")
 |dT {a:ao} {kvs:List (List yG×V)} (e:H a=some (.dT kvs)):TyOf K H (.ref a) (.type "dict")
 |ins {a C dx:ao} {fs:List (Str×V)} (e:H a=some (.ins C dx fs)) (cl:Cls K C) (ha:n4 K (.ref C) "__class__"=some (some (.builtin "object.__class__")))
   (hn:PySem.W.specialIn K (.builtin "object.__class__") "__get__"=some (some (.builtin "getset_descriptor.__get__"))) (htk:PySem.W.takesIn K (.builtin "object.__class__")=some true)
   (hm:PySem.W.mroIn K C (.type "object")=some true):TyOf K H (.ref a) (.ref C)
theorem zJL {x:V}{u t:ah}(I:Inv X pins σ H s)(d:zS x u)(ty:TyOf X.K H x t)(e:iB X.K t c=some b)(h:∀tk,Q (.bool b) {s with toks:=tk}) :
  wpAny (model X.prog X.w) A (call (.builtin "isinstance") [u,c]) Q E s:=by
 cases ty with
 |non=>cases(show u=Value.none from d);exact cz PySem.W.kitx_none I.kIn True.intro e (fun z=>nomatch z) h
 |bl y=>cases(show u=Value.bool y from d);exact cz PySem.W.kitx_bool I.kIn True.intro e (fun z=>nomatch z) h
 |int i=>obtain⟨t,q⟩:=(show∃t,u=Value.int i t from d);cases q;exact cz PySem.W.kitx_int I.kIn True.intro e (fun z=>nomatch z) h
 |str y=>obtain⟨t,q⟩:=(show∃t,u=Value.str y t from d);cases q;exact cz PySem.W.kitx_str I.kIn True.intro e (fun z=>nomatch z) h
 |flt y=>obtain⟨t,q⟩:=(show∃t,u=Value.float y t from d);cases q;exact cz PySem.W.kitx_float I.kIn True.intro e (fun z=>nomatch z) h
 | @lst a xs f=>
  cases(show u=Value.ref a from d)
  obtain⟨_,_,n,_,g⟩:=(show yJ X.prog X.w H s.heap a (.lst xs)from I.hok a _ f)
  exact cz mH I.kIn ⟨_,g,rfl⟩ e (fun z=>nomatch z) h
 | @frz a r xs f=>
  cases(show u=Value.ref a from d)
  obtain⟨_,_,_,n,_,g⟩:=(show yJ X.prog X.w H s.heap a (.frz r (.lst xs))from I.hok a _ f)
  exact cz mH I.kIn ⟨_,g,rfl⟩ e (fun z=>nomatch z) h
 | @tup a xs f=>
  cases(show u=Value.ref a from d)
  obtain⟨_,_,_,p⟩:=(show yJ X.prog X.w H s.heap a (.tup xs)from I.hok a _ f)
  obtain⟨o,g,j,_⟩:=p
  exact cz PySem.W.kitx_tuple I.kIn ⟨o,g,j⟩ e (fun z=>nomatch z) h
 | @dK a kvs f=>
  cases(show u=Value.ref a from d)
  obtain⟨_,_,vs,_,p⟩:=(show yJ X.prog X.w H s.heap a (.dK kvs)from I.hok a _ f)
  obtain⟨o,v,ep,g,j,_⟩:=p
  exact cz mI I.kIn ⟨o,g,j.1⟩ e (fun z=>nomatch z) h
 | @dT a kvs f=>
  cases(show u=Value.ref a from d)
  obtain⟨_,_,xs,_,o,v,ep,g,j,_⟩:=(show yJ X.prog X.w H s.heap a (.dT kvs)from I.hok a _ f)
  exact cz mI I.kIn ⟨o,g,j.1⟩ e (fun z=>nomatch z) h
 | @ins a C F fs f m B D l hm=>
  cases(show u=Value.ref a from d)
  obtain⟨G,O,_⟩:=zJK I.hok f
  obtain⟨od,J,_⟩:=O.look
  exact cz (PySem.W.kitx_own (m.get _) m.hd B D l hm) I.kIn J e (fun z=>nomatch z) h
end
structure Room (k:Nat) (A:bS):Prop where
 hd:A.handled=none
 dp:A.depth+3*k+5<recursionLimit
 un:A.units+16*k+200<cLine
theorem Room.mono {j k:Nat}{A:bS}(r:Room k A)(h:j<=k):Room j A:=⟨r.hd,by have:=r.dp;omega,by have:=r.un;omega⟩
theorem Room.deeper {k:Nat}{A:bS}(r:Room (k+1) A)(env:Env):Room k (A.deeper env) :=
 ⟨r.hd,by have:=r.dp;show A.depth+1+3*k+5<_;omega,by have:=r.un;show A.units+3+16*k+200<_;omega⟩
theorem Room.in1 {k:Nat}{A:bS}(r:Room (k+1) A):Room k A.in1 :=
 ⟨r.hd,by have:=r.dp;show A.depth+3*k+5<_;omega,by have:=r.un;show A.units+1+16*k+200<_;omega⟩
theorem Room.depth {k:Nat}{A:bS}(r:Room k A):A.depth<recursionLimit:=by have:=r.dp;omega
theorem Room.units {k:Nat}{A:bS}(r:Room k A):A.units+64<cLine:=by have:=r.un;omega
def zJM:TA:=fun _ H Q=>Q [] H
def zJN (ta:TE)(tr:TA):TA:=fun σ H Q=>ta σ H fun x H1=>tr σ H1 fun xs H2=>Q (x::xs) H2
section
variable{X:Cx}{e:bO}{es:List bO}{te:TE}{t:TA}{pos:Pos}
theorem zD:PA X [] zJM:=fun _ _ _ _ H Q I h=>fT ⟨[],H,I,.nil,h⟩
theorem zB (b:PE X e te)(c:PA X es t)(d:starEach (e::es) X.env=(false,eval e X.env)::starEach es X.env:=by rfl):PA X (e::es) (zJN te t):=by
 intro pos a s σ H Q I h
 rw[d]
 show wpAny _ _ (spliced ((false,eval e X.env)::backTo pos (starEach es X.env))) _ _ s
 refine eR (zH (b a s σ H _ I h) fun u f ⟨x,g,i,j,l⟩=>?_)
 exact zH (c pos a f σ g _ i l) fun q r ⟨xs,m,n,o,p⟩=>⟨x::xs,m,n,.cons j o,p⟩
def zJO (t:TA):TE:=fun σ H Q=>t σ H fun xs H1=>xs.length<=sizeLine/\∀p,H1 p=none->Q (.ref p) (upd H1 p (.tup xs))
def zJP (t:TA):TE:=fun σ H Q=>t σ H fun xs H1=>xs.length<=sizeLine/\∀p,H1 p=none->Q (.ref p) (upd H1 p (.lst xs))
theorem uJ {g}(h:PA X es t):PE X (.Tuple es g pos) (zJO t):=by
 intro a s σ H Q I i
 refine wpAny_Tuple_spliced (zH (h pos a s σ H _ I i) fun j c ⟨xs,d,f,r,z,q⟩=>⟨by rw[<-r.length];exact z,?_⟩)
 have l:d c.heap.objs.size=none:=f.hok.fresh (ay _)
 refine⟨.ref c.heap.objs.size,upd d c.heap.objs.size (.tup xs),f.laid (t':=c.toks) (fun b u e=>ag _ e) (ay _) ?_,rfl,q _ l⟩
 exact⟨z,j,r,⟨_,aB _ rfl,rfl,_,rfl⟩⟩
theorem vJ (h:PA X es t):PE X (.List es pos) (zJP t):=by
 intro a s σ H Q I g
 refine wpAny_List_spliced (zH (h pos a s σ H _ I g) fun i c ⟨xs,d,f,r,z,q⟩=>⟨by rw[<-r.length];exact z,?_⟩)
 have j:d c.heap.objs.size=none:=f.hok.fresh (ay _)
 refine⟨.ref c.heap.objs.size,upd d c.heap.objs.size (.lst xs),f.laid (t':=c.toks) (fun b u e=>ag _ e) (ay _) ?_,rfl,q _ j⟩
 exact⟨z,i,0,r,aB _ rfl⟩
end
abbrev Sp:=List V->Hp->VK->XK->Prop
abbrev uK:=List Env->Hp->ar->XK->ah->ar->Prop
structure Env0 (P:aL) (w:aU) (K:ae) (mg:Str->Option ah) (base:bx) (A:bS) (outer:List Env) (s:ar) (H:Hp):Prop where
 frames:A.frames=some outer
 mod:Mod K mg base
 bs:∀b o,base.get? b=some o->s.heap.get? b=some o/\H b=none
 bsz:base.objs.size<=s.heap.objs.size
 funs:s.heap.FunFrames base outer
 frf:∀b∈vU outer,H b=none
 hok:z6 P w H s.heap
 bare:iT s.gens
def CE (outer:List Env)(P:aL)(w:aU)(H:Hp)(s:ar)(Q:VK)(u:ah)(s':ar):Prop :=
 ∃v H',s'.os=s.os/\iT s'.gens/\Un (vU outer) [] H H' s.heap s'.heap/\z6 P w H' s'.heap/\zS v u/\Q v H'
def CR (CX:uK)(outer:List Env)(P:aL)(w:aU)(H:Hp)(s:ar)(Q:VK)(E:XK)(r:lF)(s':ar):Prop :=
 match r with
 | .ok (.ret u)=>CE outer P w H s Q u s'
 | .ok _=>False
 | .error e=>CX outer H s E e s'
structure FnOk (P:aL) (w:aU) (K:ae) (mg:Str->Option ah) (base:bx) (CX:uK) (k:Nat) (f:ao) (fd:aY) (ps:List Str) (sp:Sp):Prop where
 len:∀vs H Q E,sp vs H Q E->vs.length=ps.length
 run:∀(A:bS) (outer:List Env) (s:ar) (H:Hp) (args:Args) (us:List ah) (vs:List V) (Q:VK) (E:XK),Room k A->Env0 P w K mg base A outer s H->mJ s fd args (ps.zip us)->zN vs us->sp vs H Q E->
  codeAny (model P w) A (.call (.ref f) args) (CR CX outer P w H s Q E) s
theorem FnOk.imp {P:aL}{w:aU}{K:ae}{mg:Str->Option ah}{base:bx}{CX:uK}{k:Nat}{f:ao}{fd:aY}{ps:List Str}{sp sp':Sp}(F:FnOk P w K mg base CX k f fd ps sp)
  (h:∀vs H Q E,sp' vs H Q E->sp vs H Q E):FnOk P w K mg base CX k f fd ps sp' :=
 ⟨fun vs H Q E q=>F.len vs H Q E (h _ _ _ _ q),fun A outer s H args a vs Q E b c d e g=>F.run A outer s H args a vs Q E b c d e (h _ _ _ _ g)⟩
theorem Env0.in1 {P:aL}{w:aU}{K:ae}{mg:Str->Option ah}{base:bx}{A:bS}{outer:List Env}{s:ar}{H:Hp}(e:Env0 P w K mg base A outer s H) :
  Env0 P w K mg base A.in1 outer s H:=⟨e.frames,e.mod,e.bs,e.bsz,e.funs,e.frf,e.hok,e.bare⟩
section
variable{X:Cx}{pins:List (ao×Obj)}{σ:St}{H:Hp}{s s':ar}
theorem Inv.env0 (I:Inv X pins σ H s):Env0 X.prog X.w X.K X.mg X.base X.A X.stack s H :=
 ⟨I.ok.frames,I.ok.mod,I.bs,eP I.ok.bsz I.sz,I.stack,I.stkFree,I.hok,I.bare⟩
theorem Inv.after {Q:VK}{u:ah}(I:Inv X pins σ H s)(h:CE X.stack X.prog X.w H s Q u s'):EP X pins σ Q u s':=by
 obtain⟨v,H',os,bare,un,hok,r,q⟩:=h
 obtain⟨c,g,d,t,a⟩:=s'
 obtain rfl:a=s.os:=os
 exact⟨v,H',I.call (h':=c) (g':=g) (d':=d) (t':=t) (ch:=[]) un hok bare (fun b z=>absurd z (by simp)),r,q⟩
end
def zEY (sp:Sp)(dvs:List V)(E:XK)(t:TA):TE:=fun σ H Q=>t σ H fun vs H1=>sp (vs++dvs) H1 Q E
def jJ (K:ae)(fd:aY)(ps:List Str)(ds:List ah):Prop :=
 ∀(s:ar) (us:List ah),K.In s.heap->(us++ds).length=ps.length->mJ s fd ⟨us,[]⟩ (ps.zip (us++ds))
theorem jJ.all {K:ae}{fd:aY}{ps:List Str}(h:∀a:List ah,a.length=ps.length->bindArgs fd ⟨a,[]⟩=pure (ps.zip a)):jJ K fd ps []:=fun s a _ hl=>by
 rw[List.append_nil]at hl⊢
 exact .of_eq (h a hl)
def zBg (CX:uK)(X:Cx)(E:XK):Prop:=∀(pins:List (ao×Obj)) (σ:St) (H:Hp) (s:ar) (e:ah) (s':ar),Inv X pins σ H s->CX X.stack H s E e s'->X.xe e s'
section
variable{X:Cx}{CX:uK}{k:Nat}{f C:ao}{fd:aY}{ps:List Str}{sp:Sp}{dvs:List V}{ds:List ah}{E:XK}{x m:Str}{p pos apos:Pos}{e o:bO}{es:List bO}{ta:TE}{t:TA}
theorem zJQ {a:List (ao×Obj)}{σ:St}{H:Hp}{s:ar}{Q:VK}{b:List ah}{vs:List V}(F:FnOk X.prog X.w X.K X.mg X.base CX k f fd ps sp)(g:Room k X.A)(i:jJ X.K fd ps ds)(hd:zN dvs ds)(j:zBg CX X E)
  (I:Inv X a σ H s) (r:zN vs b) (h:sp (vs++dvs) H Q E):wpAny (model X.prog X.w) X.A (call (.ref f) b) (EP X a σ Q) X.xe s:=by
 have d:zN (vs++dvs) (b++ds):=r.append hd
 have hl:(b++ds).length=ps.length:=by rw[<-d.length];exact F.len _ _ _ _ h
 refine n5 (dk (F.run X.A X.stack s H ⟨b,[]⟩ (b++ds) (vs++dvs) Q E g I.env0 (i s b I.kIn hl) d h) fun r s' c=>?_)
 cases r with
 |error e=>exact j a σ H s e s' I c
 |ok l=>
  cases l with
  |ret u=>exact I.after c
  |next=>exact eQ c
  |brk=>exact eQ c
  |cont=>exact eQ c
theorem zJR (F:FnOk X.prog X.w X.K X.mg X.base CX k f fd ps sp)(g:Room k X.A)(i:Gl X x)(hm:X.mg x=some (.ref f))(j:eB X.K (.ref f)=true)(l:jJ X.K fd ps ds)(hd:zN dvs ds)(n:zBg CX X E)
  (u:PA X (e::es) t) (b:(x==("__debug__" : Str))=false:=by decide) (v:starEach (e::es) X.env=(false,eval e X.env)::starEach es X.env:=by rfl) (c:(backTo pos (starEach es X.env)).any (·.1)=false:=by rfl) :
  PE X (.Call (.Name x p) (e::es) [] pos) (zEY sp dvs E t):=by
 intro a s σ H Q I h
 refine de (zED I i hm ?_ b)
 refine PySem.W.callWith_K (h₀:=X.base) I.ok.mod.kin j (zH (u pos a s σ H _ I h) fun y z ⟨vs,B,d,r,q⟩=>⟨d.kIn,?_⟩) v c
 exact zJQ F g l hd n d r q
end
section
variable{X:Cx}{CX:uK}{k:Nat}{f C:ao}{fd:aY}{ps ks:List Str}{sp:Sp}{E:XK}{x m:Str}{p pos apos kpos:Pos}{e o:bO}{es:List bO}{kws:List lX}{te ta:TE}{t tk:TA}{nm:Option Str}
variable{g:List ah->List ah->List ah}{gV:List V->List V->List V}
end
structure FnScope (N P:List Str) (sc:fi):Prop where
 kind:sc.kind=.function
 co:sc.isCoroutine=false
 gen:sc.isGenerator=false
 nd:N.Nodup
 pre:N.take P.length=P
 par:∀x∈P,sc.names.lookup x=some .local\/sc.names.lookup x=some .cell
 nofree:∀y∈sc.names,y.2≠.free
theorem zEZ {kindOf:Str->Option iC}{x:Str}:∀{binds:List (Str×ah)}{m:Str->Option ah},(∀v,(x,v)∉binds)->bindL kindOf binds m x=m x
 | [],_,_=>rfl
 |(n,v)::r,m,h=>by
  unfold bindL
  rw[zEZ fun w a=>h w (ak _ a)]
  split
  ·have:x≠n:=by rintro rfl;exact h v aj
   simp[this]
  ·rfl
theorem zEa {kindOf:Str->Option iC}{x:Str}:∀{binds:List (Str×ah)}{m:Str->Option ah},(∀v,(x,v)∉binds)->bindC kindOf binds m x=m x
 | [],_,_=>rfl
 |(n,v)::r,m,h=>by
  unfold bindC
  rw[zEa fun w a=>h w (ak _ a)]
  split
  ·rfl
  ·have:x≠n:=by rintro rfl;exact h v aj
   simp[this]
theorem zEb {kindOf:Str->Option iC}{x:Str}{v:ah}:∀{P:List Str}{vs:List ah}{i:Nat}{m:Str->Option ah},P.Nodup->P[i]?=some x->vs[i]?=some v->kindOf x=some .local->
  bindL kindOf (P.zip vs) m x=some v
 | [],_,_,_,_,h,_,_=>by simp at h
 |_::_,[],_,_,_,_,h,_=>by simp at h
 |p::P,w::vs,0,m,nd,a,b,c=>by
  simp at a b;subst a;subst b
  show bindL kindOf ((p,w)::P.zip vs) m p=_
  unfold bindL
  rw[zEZ fun v d=>(br.mp nd).1 (kl d).1,if_pos c]
  simp
 |p::P,w::vs,i+1,m,nd,a,b,c=>by
  show bindL kindOf ((p,w)::P.zip vs) m x=_
  unfold bindL
  exact zEb (i:=i) (br.mp nd).2 (by simpa using a) (by simpa using b) c
theorem zEc {kindOf:Str->Option iC}{x:Str}{v:ah}:∀{P:List Str}{vs:List ah}{i:Nat}{m:Str->Option ah},P.Nodup->P[i]?=some x->vs[i]?=some v->kindOf x≠some .local->
  bindC kindOf (P.zip vs) m x=some v
 | [],_,_,_,_,h,_,_=>by simp at h
 |_::_,[],_,_,_,_,h,_=>by simp at h
 |p::P,w::vs,0,m,nd,a,b,c=>by
  simp at a b;subst a;subst b
  show bindC kindOf ((p,w)::P.zip vs) m p=_
  unfold bindC
  rw[zEa fun v d=>(br.mp nd).1 (kl d).1,if_neg c]
  simp
 |p::P,w::vs,i+1,m,nd,a,b,c=>by
  show bindC kindOf ((p,w)::P.zip vs) m x=_
  unfold bindC
  exact zEc (i:=i) (br.mp nd).2 (by simpa using a) (by simpa using b) c
def start (N:List Str)(vs:List V):St:=vs.map some++aD (N.length-vs.length) none
def kT (CX:uK)(P:aL)(w:aU)(K:ae)(mg:Str->Option ah)(base:bx)(N:List Str)(qual:Str)(scope:fi)(f:ao)(cd:ah)(A:bS)(outer:List Env)(s:ar)(H:Hp)(E:XK):Cx where
 prog:=P
 w:=w
 K:=K
 mg:=mg
 base:=base
 A:=A.deeper (envOfC qual scope s.heap.objs.size f cd)
 N:=N
 s₀:=s
 H₀:=H
 env:=envOfC qual scope s.heap.objs.size f cd
 outer:=outer
 stack:=envOfC qual scope s.heap.objs.size f cd::outer
 ex:=[]
 calm:=true
 fn:=fun _=>true
 pn:=[]
 xe:=fun e s'=>wpAny (model P w) (A.deeper (envOfC qual scope s.heap.objs.size f cd)) (leaving (envOfC qual scope s.heap.objs.size f cd) e) (fun _ s''=>CX outer H s E e s'') (fun e' s''=>CX outer H s E e' s'') s'
theorem zEd {a:fi}{n:Nat}{x:Str}(h:a.names.lookup x=some .cell):∃c,(cellsFrom n a.names []).lookup x=some c:=by
 have q:=jw a.names n [] (.inl h)
 exact Option.isSome_iff_exists.mp q
theorem zJS {CX:uK}{P:aL}{w:aU}{K:ae}{mg:Str->Option ah}{base:bx}{N ps:List Str}{d:Str}{scope:fi}{f:ao}{B:ah}{A:bS}{outer:List Env}{s F:ar}{H:Hp}{E:XK}{D:List ah}{vs:List V}
  (S:FnScope N ps scope) (hd:A.handled=none) (j:Env0 P w K mg base A outer s H) (hl:vs.length=ps.length) (r:zN vs D)
  (x:InCallC s s.heap.objs.size (bindL (envOfC d scope s.heap.objs.size f B).kindOf (ps.zip D) fun _=>none) (cellsFrom (s.heap.objs.size+1) scope.names []) (bindC (envOfC d scope s.heap.objs.size f B).kindOf (ps.zip D) fun _=>none) F) :
  Inv (kT CX P w K mg base N d scope f B A outer s H E) [] (start N vs) H F:=by
 have J:ps.length<=N.length:=by have:=congrArg fN S.pre;rw[aQ]at this;omega
 obtain⟨C,tk,rfl,G⟩:=x.done
 have l:∀b:ao,b∉(kT CX P w K mg base N d scope f B A outer s H E).ex:=fun b z=>absurd (show b∈([]:List ao)from z) (by simp)
 refine⟨⟨j.mod,S.kind,rfl,rfl,ay _,fun y z c C g=>?_,fun y m=>?_,fun y c _ h=>?_,fun _=>hd,Around.frames_deeper j.frames,.inr ⟨rfl,rfl⟩,fun b z=>absurd z (l b),j.bs,j.bsz,fun b _ _=>l b,fun b z=>absurd z (l b),j.funs,j.frf⟩,
  rfl,j.bare,Un.kept G,⟨_,x.toInCall.ns,fun i y v C g O=>?_⟩,fun y c h=>⟨_,x.cell y c h⟩,j.hok.fresh (ay _),fun y c h=>?_,fun p o=>absurd (show p∈([]:List (ao×Obj))from o) (by simp),j.hok.kept G,?_⟩
 ·exact name_of_addr x.apart (dD C) (dD g)
 ·have m:scope.names.lookup y=some .cell\/scope.names.lookup y=some .free:=m
  rcases m with m|m
  ·exact zEd m
  ·exact absurd rfl (S.nofree _ (dD m))
 ·exact jr (x.above y c (dD h))
 ·have hi:i<vs.length:=by
   unfold start at g
   by_cases hi:i<vs.length
   ·exact hi
   ·rw[bB (by simpa using hi)]at g
    rw[je]at g
    split at g<;>cases g
  have L:vs[i]?=some v:=by
   unfold start at g
   rw[bU (by simpa using hi),aq]at g
   cases e:vs[i]? with
   |none=>rw[e]at g;cases g
   |some a=>rw[e]at g;cases g;rfl
  obtain⟨u,I,M⟩:=r.get L
  have o:ps[i]?=some y:=by
   rw[<-S.pre,List.getElem?_take_of_lt (by omega)];exact C
  have t:ps.Nodup:=by rw[<-S.pre];exact S.nd.sublist (dy _ _)
  refine⟨u,M,?_⟩
  rcases S.par y (aV o)with k|k
  ·exact .inl ⟨k,zEb t o I k⟩
  ·obtain⟨c,e⟩:=zEd (n:=s.heap.objs.size+1) k
   refine .inr ⟨.inl k,c,e,?_⟩
   have q:=x.cell y c e
   rw[zEc t o I (by show scope.names.lookup y≠_;rw[k];decide)]at q
   exact q
 ·exact j.hok.fresh (jr (x.above y c (dD h)))
 ·unfold start
  show _=N.length
  rw[aI,aa,dU]
  omega
theorem zJT {CX:uK}{P:aL}{w:aU}{K:ae}{mg:Str->Option ah}{base:bx}{k:Nat}{f:ao}{name a:Str}{d:Arguments}{body:List cq}{scope:fi}{G kV j pm c ct R:ah}{L od:Option ao}
  {z:Array (Option ah)} {N ps:List Str} {sp:Sp} (T:K.lookup f=some ⟨R,od,.func (dG name a d body scope G kV j pm L c ct),z⟩) (B:fU K c a=true) (S:FnScope N ps scope)
  (len:∀vs H Q E,sp vs H Q E->vs.length=ps.length)
  (g:∀(A:bS) (outer:List Env) (s:ar) (H:Hp) (vs:List V) (Q:VK) (E:XK),Room k (A.deeper (envOfC a scope s.heap.objs.size f c))->sp vs H Q E->
   ∃t,uC (kT CX P w K mg base N a scope f c A outer s H E) body t/\t {nx:=fun _ H'=>Q .non H',rt:=Q} (start N vs) H) :
  FnOk P w K mg base CX (k+1) f (dG name a d body scope G kV j pm L c ct) ps sp:=by
 refine⟨len,fun A outer s H args U vs Q E C l X r m=>?_⟩
 have hl:=len _ _ _ _ m
 have M:K.In s.heap:=l.mod.kin.keeps fun b o e=>(l.bs b o e).1
 have D:s.heap.NoLimit:=l.mod.nolimit.keeps fun b o e=>(l.bs b o e).1
 have h:∀y∈ps.zip U,scope.names.lookup y.1=some .local\/(scope.names.lookup y.1=some .cell/\((cellsFrom (s.heap.objs.size+1) scope.names []).lookup y.1).isSome=true):=fun⟨n,v⟩ Y=>by
  rcases S.par n (kl Y).1 with q|q
  ·exact .inl q
  ·exact .inr ⟨q,jw _ _ _ (.inl q)⟩
 refine codeAny_call_function C.depth (M _ _ T) rfl S.co S.gen rfl (PySem.W.codeRec_of M B) (X _ _ _ _ ?_)
 refine wpAny_newFunctionEnv_cells S.kind h fun env Z O x=>?_
 subst Z
 refine⟨D.keeps x.toInCall.keep,codeAny_func ?_⟩
 obtain⟨t,ht,hq⟩:=g A outer s H vs Q E (C.deeper _) m
 have I:Inv (kT CX P w K mg base N a scope f c A outer s H E) [] (start N vs) H O:=zJS S C.hd l hl r x
 refine b8 (ht [] O (start N vs) H _ I hq) (fun fl s' i=>?_) fun e s' i=>i
 have fin:∀{p:St} {H':Hp} {v:V} {u:ah},Inv (kT CX P w K mg base N a scope f c A outer s H E) [] p H' s'->zS v u->Q v H'->CE outer P w H s Q u s' :=
  fun{p H' v u} J F q=>⟨v,H',J.os,J.bare,J.base,J.hok,F,q⟩
 cases fl with
 |ret u=>
  obtain⟨v,p,H',J,F,q⟩:=i
  exact fin J F q
 |next=>
  obtain⟨p,H',J,q⟩:=i
  exact fin (v:=V.non) (u:=Value.none) J rfl q
 |brk=>
  obtain⟨_,_,_,q⟩:=i
  exact eQ q
 |cont=>
  obtain⟨_,_,_,q⟩:=i
  exact eQ q
section
variable{X:Cx}{x:Str}{p pos:Pos}{e:bO}{es:List bO}{t:TA}{id T:String}{r:List V->Hp->VK->Prop}
def tCB (r:List V->Hp->VK->Prop)(t:TA):TE:=fun σ H Q=>t σ H fun vs H1=>r vs H1 Q
theorem yX (d:qD X (.builtin id) r)(f:Gl X x)(hm:X.mg x=none)(g:bootBuiltins x=some (.builtin id))(i:PA X (e::es) t)(j:x≠"__name__" :=by decide)(b:(x==("__debug__" : Str))=false:=by decide)
  (l:starEach (e::es) X.env=(false,eval e X.env)::starEach es X.env:=by rfl) (c:(backTo pos (starEach es X.env)).any (·.1)=false:=by rfl):PE X (.Call (.Name x p) (e::es) [] pos) (tCB r t):=by
 intro a s σ H Q I h
 refine de (qA I f hm g ?_ j b)
 exact eC (zH (i pos a s σ H _ I h) fun m n ⟨vs,o,q,u,v⟩=>d a n σ o vs m Q q u v) l c
theorem zEe (d:qD X (.type T) r)(f:Gl X x)(hm:X.mg x=none)(g:bootBuiltins x=some (.type T))(i:PA X (e::es) t)(j:x≠"__name__" :=by decide)(b:(x==("__debug__" : Str))=false:=by decide)
  (l:starEach (e::es) X.env=(false,eval e X.env)::starEach es X.env:=by rfl) (c:(backTo pos (starEach es X.env)).any (·.1)=false:=by rfl):PE X (.Call (.Name x p) (e::es) [] pos) (tCB r t):=by
 intro a s σ H Q I h
 refine de (qA I f hm g ?_ j b)
 exact cc (zH (i pos a s σ H _ I h) fun m n ⟨vs,o,q,u,v⟩=>d a n σ o vs m Q q u v) l c
end
end L2
namespace HT
open PySem PyProof.Rows
section
open PySem.SeqAt
open PySem.AutoSeq1 (wpAny_loadPart')
open PySem.MeetsSeq PySem.MeetsSeq2 PySem.MeetsSeq3
end
section
variable{prog:aL}{w:aU}{A:bS}{E:ah->ar->Prop}{s:ar}
theorem cat_tup {t b:ao}{vs a:List ah}{Q:ah->ar->Prop}(u:IsTup s.heap t vs.toArray)(v:IsTup s.heap b a.toArray)(l:vs≠[])
  (x:a=[]->Q (.ref t) s) (y:a≠[]->Q (.ref s.heap.objs.size) {s with heap:=s.heap.push {cls:=.type "tuple",data:=.seq (vs++a).toArray}})
  (hsz:vs.length+a.length<=sizeLine):wpAny (model prog w) A (binaryOp .Add (.ref t) (.ref b)) Q E s:=by
 obtain⟨⟨cls,m,data,o⟩,i,p,n,hd⟩:=id u
 obtain⟨⟨q,d,data2,f⟩,c,g,r,h⟩:=id v
 simp only at p hd g h
 subst p hd g h
 have e:vs.toArray++a.toArray=(vs++a).toArray:=by simp
 by_cases j:a=[]
 ·exact mK ⟨_,i,rfl⟩ ⟨_,c,rfl⟩ jf mh fV fO (fF _ _)
   (tuple_addW1 t b vs.toArray a.toArray n r m d o f (by simpa using l) (by simp[j])) ⟨i,c,x j⟩
 ·refine mK ⟨_,i,rfl⟩ ⟨_,c,rfl⟩ jf mh fV fO (fF _ _)
   (tuple_addW2 t b vs.toArray a.toArray n r m d o f (by simpa using l) (by simpa using j) (by rw[bq,bq];exact hsz)) ⟨i,c,?_⟩
  rw[e]
  exact y j
def sIx (n d:Nat):Option Int->Nat
 |none=>d
 |some v=>if v<0 then(v+(n:Int)).toNat else min v.toNat n
theorem sIx_nat (n d k:Nat):sIx n d (some (k:Int))=min k n:=by
 show(if(k:Int)<0 then((k:Int)+(n:Int)).toNat else min (k:Int).toNat n)=min k n
 rw[if_neg (by omega),cZ]
theorem sIx_le (n d:Nat)(hd:d<=n)(o:Option Int):sIx n d o<=n:=by
 cases o with
 |none=>exact hd
 |some v=>
  show(if v<0 then(v+(n:Int)).toNat else min v.toNat n)<=n
  by_cases a:v<0
  ·rw[if_pos a];omega
  ·rw[if_neg a];exact Nat.min_le_right _ _
end
end HT
namespace L2
open PySem PySem.Spec PyProof.Rows
abbrev TO:=St->Hp->(Option Int->Hp->Prop)->Prop
def PO (X:Cx)(e:Option bO)(t:TO):Prop :=
 ∀(pins:List (ao×Obj)) (s:ar) (σ:St) (H:Hp) (Q:Option Int->Hp->Prop),Inv X pins σ H s->t σ H Q->
  wpAny (model X.prog X.w) X.A (evalPart e X.env) (fun u s'=>∃o H',Inv X pins σ H' s'/\IsPart u o/\Q o H') X.xe s
def zJU:TO:=fun _ H Q=>Q none H
def zJV (t:TE):TO:=fun σ H Q=>t σ H fun x H1=>∃i,x=.int i/\Q (some i) H1
theorem zJW {ns:List Int}:∀{a:List ah},zN (ns.map V.int) a->ik a ns:=by
 induction ns with
 |nil=>intro a r;rw[jx]at r;cases r;exact .nil
 |cons n ns ih=>
  intro a r
  rw[aC]at r
  cases r with
  |cons b c=>
   obtain⟨t,e⟩:=b
   subst e
   exact .cons n t (ih c)
section
variable{X:Cx}{e:bO}{te:TE}{lo hi:Option bO}{tl th:TO}{pos p2:Pos}
theorem zEf:PO X none zJU:=by
 intro a s σ H Q I h
 rw[o4]
 exact av ⟨none,H,I,.none,h⟩
theorem zAf (h:PE X e te):PO X (some e) (zJV te):=by
 intro a s σ H Q I b
 rw[evalPart_some]
 refine zH (h a s σ H _ I b) fun u j ⟨x,c,d,f,g⟩=>?_
 obtain⟨i,rfl,q⟩:=g
 obtain⟨t,rfl⟩:=f
 exact⟨some i,c,d,.int i t,q⟩
def zJX (K:ae):R2:=fun x y H Q=>∃a b xs ys,x=.ref a/\y=.ref b/\yE K H a xs/\yE K H b ys/\xs≠[]/\xs.length+ys.length<=sizeLine/\
 (ys=[]->Q (.ref a) H)/\(ys≠[]->∀p,H p=none->Q (.ref p) (upd H p (.tup (xs++ys))))
theorem zN.nil_iff {xs:List V}{a:List ah}(r:zN xs a):a=[]↔xs=[]:=by
 cases r with
 |nil=>simp
 |cons _ _=>simp
theorem zJY:yB X (binaryOp .Add) (zJX X.K):=by
 intro f s σ H x y v u Q I i j h
 obtain⟨a,b,xs,ys,rfl,rfl,l,m,n,hz,p,r⟩:=h
 cases i
 cases j
 obtain⟨its,d,t,_⟩:=I.tuple l
 obtain⟨g,c,p2,_⟩:=I.tuple m
 refine HT.cat_tup t p2 (fun z=>n (d.nil_iff.mp z)) (fun z=>⟨.ref a,H,I,rfl,p (c.nil_iff.mp z)⟩) (fun z=>?_) (by rw[<-d.length,<-c.length];exact hz)
 refine⟨.ref s.heap.objs.size,_,I.laid (t':=s.toks) (o:=.tup (xs++ys)) (fun b A q=>ag _ q) (ay _) ?_,rfl,r (fun w=>z (c.nil_iff.mpr w)) _ (I.hok.fresh (ay _))⟩
 exact⟨by rw[aI];exact hz,_,d.append c,IsTup.new _ _⟩
end
def jK (n:Nat)(i:Int):Option Nat:=if 0<=i then(if i<n then some i.toNat else none)else if-(n:Int)<=i then some (i+n).toNat else none
def uW {α:Type}(xs:List α)(i:Int):Option α:=(jK xs.length i).bind fun j=>xs[j]?
theorem zJZ {n:Nat}{i:Int}{j:Nat}(h:jK n i=some j):seqIndex? i n=some j/\j<n/\-(n:Int)<=i/\i<n:=by
 unfold jK at h
 by_cases b:0<=i
 ·rw[if_pos b]at h
  by_cases a:i<n
  ·rw[if_pos a]at h
   have e:i.toNat=j:=aw h
   exact⟨by rw[seqIndex_of b a,e],by omega,by omega,a⟩
  ·rw[if_neg a]at h;cases h
 ·rw[if_neg b]at h
  by_cases a:-(n:Int)<=i
  ·rw[if_pos a]at h
   have e:(i+n).toNat=j:=aw h
   exact⟨by rw[seqIndex_neg (by omega) a,e],by omega,a,by omega⟩
  ·rw[if_neg a]at h;cases h
theorem zBh {α:Type}{xs:List α}{i:Int}{v:α}(h:uW xs i=some v):∃j,seqIndex? i xs.length=some j/\xs[j]?=some v/\j<xs.length/\-(xs.length:Int)<=i/\i<xs.length:=by
 unfold uW at h
 cases e:jK xs.length i with
 |none=>rw[e]at h;cases h
 |some j=>
  rw[e]at h
  obtain⟨a,b,c,d⟩:=zJZ e
  exact⟨j,a,h,b,c,d⟩
theorem zAg {α:Type}{xs:List α}{j:Nat}{v:α}(h:xs[j]?=some v):uW xs (j:Int)=some v:=by
 have a:j<xs.length:=(ai.mp h).1
 have e:jK xs.length (j:Int)=some j:=by
  unfold jK
  rw[if_pos (by omega),if_pos (by omega)];simp
 unfold uW;rw[e];exact h
theorem zEg {α:Type}(xs:List α)(v:α):uW (xs++[v]) (-1)=some v:=by
 have hl:(xs++[v]).length=xs.length+1:=by simp
 have e:jK (xs++[v]).length (-1)=some xs.length:=by
  unfold jK
  rw[hl,if_neg (by decide),if_pos (by omega)]
  congr 1
  omega
 unfold uW
 rw[e]
 show(xs++[v])[xs.length]?=some v
 simp
def zJa (b:bO):Prop:=∀o i,subscripted b false o i=operate [o,i] (getItem o i)
def IxR (X:Cx)(r:R2):Prop :=
 ∀(value slice:bO) (pins:List (ao×Obj)) (s:ar) (σ:St) (H:Hp) (x y:V) (v u:ah) (Q:VK),Inv X pins σ H s->zS x v->zS y u->r x y H Q->
  subscripted slice false v u=operate [v,u] (getItem v u)->wpAny (model X.prog X.w) X.A (subscriptTail value slice v u) (EP X pins σ Q) X.xe s
def MtR (X:Cx)(id:String)(r:V->List V->Hp->VK->Prop):Prop :=
 ∀(pins:List (ao×Obj)) (s:ar) (σ:St) (H:Hp) (x:V) (xs:List V) (v:ah) (us:List ah) (Q:VK),Inv X pins σ H s->zS x v->zN xs us->r x xs H Q->
  wpAny (model X.prog X.w) X.A (call (.builtin id) (v::us)) (EP X pins σ Q) X.xe s
section
variable{X:Cx}{a b:bO}{ta tb:TE}{pos:Pos}
theorem yM {r:R2}(d:IxR X r)(e:PE X a ta)(f:PE X b tb)(g:zJa b):PE X (.Subscript a b pos) (g7 r ta tb):=by
 intro c s σ H Q I h
 exact n6 (zBb e f I h fun v u i x y j l m n q=>d a b c i σ j x y v u Q l m n q (g _ _))
def zJb (K:ae):R2:=fun x y H Q=>∃p xs i v,x=.ref p/\y=.int i/\yF K H p xs/\uW xs i=some v/\Q v H
def zJc (K:ae):R2:=fun x y H Q=>∃p xs i v,x=.ref p/\y=.int i/\yE K H p xs/\uW xs i=some v/\Q v H
def zJd:R2:=fun x y H Q=>∃z i c,x=.str z/\y=.int i/\z.length<=sizeLine/\uW z.cps.toList i=some c/\Q (.str ⟨#[c]⟩) H
theorem jY:IxR X (zJb X.K):=by
 intro value slice c s σ H x y v u Q I n o h g
 obtain⟨p,xs,i,z,rfl,rfl,A,B,q⟩:=h
 cases n
 obtain⟨t,rfl⟩:=o
 obtain⟨its,r,pl,hz⟩:=I.list A
 obtain⟨j,d,C,F,D,E⟩:=zBh B
 obtain⟨w,l,e⟩:=r.get C
 have hl:=r.length
 have G:=zAC
 have fin:EP X c σ Q w s:=⟨z,H,I,e,q⟩
 by_cases m:0<=i
 ·have f:i.toNat=j:=by
   rw[seqIndex_of m E]at d
   exact aw d
  exact item_listR pl.isList m (by omega) (by rw[f];simpa using l) fin g
 ·have f:(i+(its.toArray.size:Int)).toNat=j:=by
   rw[seqIndex_neg (by omega) D]at d
   rw[bq,<-hl]
   exact aw d
  exact jy (x:=w) pl.isList.typeIs slot_list_getitem.lookup
   (wpAny_getItem_list_neg (Q:=fun r s'=>r=w/\EP X c σ Q r s') pl.isList (by omega) (by rw[bq]<;>omega) (by omega) (by rw[f];simpa using l) ⟨rfl,fin⟩) g
theorem vC:IxR X (zJc X.K):=by
 intro value slice c s σ H x y v u Q I e f h g
 obtain⟨p,xs,i,z,rfl,rfl,l,m,q⟩:=h
 cases e
 obtain⟨t,rfl⟩:=f
 obtain⟨its,r,pl,hz⟩:=I.tuple l
 obtain⟨j,n,o,B,C,D⟩:=zBh m
 obtain⟨w,A,d⟩:=r.get o
 have hl:=r.length
 have E:=zAC
 have fin:EP X c σ Q w s:=⟨z,H,I,d,q⟩
 exact jy (x:=w) pl.typeIs slot_tuple_getitem.lookup
  (getItem_tuple (j:=j) (Q:=fun r s'=>r=w/\EP X c σ Q r s') pl (by omega) (by omega) (by rw[bq,<-hl];exact n) (by simpa using A) ⟨rfl,fin⟩) g
theorem zJe:IxR X zJd:=by
 intro value slice d s σ H x y v u Q I f g h l
 obtain⟨z,i,c,rfl,rfl,hz,m,q⟩:=h
 obtain⟨t,rfl⟩:=f
 obtain⟨t',rfl⟩:=g
 obtain⟨j,e,n,w,o,p⟩:=zBh m
 have hl:z.cps.toList.length=z.length:=by simp[n8]
 rw[hl]at e o p
 have A:=zAC
 exact tail_any (typeIs_str s z t) slot_str_getitem.lookup (getItem_str (c:=c) (by
  have e1:decide (i< -(2^63:Int))=false:=decide_eq_false (by omega)
  have r:decide (i>=2^63)=false:=decide_eq_false (by omega)
  rw[e1,r,Bool.or_false]) (by rw[e];simpa using n) ⟨.str ⟨#[c]⟩,H,I.tok _,⟨_,rfl⟩,q⟩) l
theorem Inv.lst {c:List (ao×Obj)}{σ:St}{H:Hp}{s:ar}{p:ao}{xs:List V}(I:Inv X c σ H s)(h:H p=some (.lst xs)) :
  ∃(its:List ah) (n:Nat),zN xs its/\s.heap.get? p=some {cls:=.type "list",data:=.seq its.toArray n}/\xs.length<=sizeLine:=by
 obtain⟨z,its,n,r,e⟩:=I.hok p _ h
 exact⟨its,n,r,e,z⟩
def qF:V->Bool
 | .non=>true
 | .bl _=>true
 | .int _=>true
 | .str _=>true
 |_=>false
def uX:V->V->Bool
 | .non,.non=>true
 | .bl a,.bl b=>a==b
 | .bl a,.int b=>(if a then 1 else 0)==b
 | .int a,.bl b=>a==(if b then 1 else 0)
 | .int a,.int b=>a==b
 | .str a,.str b=>a==b
 |_,_=>false
theorem zJf {A:bS}{s:ar}{y x:V}{u v:ah}(d:zS y u)(c:zS x v)(f:qF y=true)(e:qF x=true):qp A s u v (uX y x):=by
 cases y with
 |non=>
  cases d
  cases x with
  |non=>cases c;exact rg _
  |bl b=>cases c;exact p7 b
  |int b=>obtain⟨t,rfl⟩:=c;exact qg b t
  |str b=>obtain⟨t,rfl⟩:=c;exact qh b t
  |_=>exact absurd (show false=true from e) aT
 |bl a=>
  cases d
  cases x with
  |non=>cases c;exact p8 a
  |bl b=>cases c;exact lA a b
  |int b=>obtain⟨t,rfl⟩:=c;exact qi a b t
  |str b=>obtain⟨t,rfl⟩:=c;exact lZ a b t
  |_=>exact absurd (show false=true from e) aT
 |int a=>
  obtain⟨t',rfl⟩:=d
  cases x with
  |non=>cases c;exact qj a t'
  |bl b=>cases c;exact qk a t' b
  |int b=>obtain⟨t,rfl⟩:=c;exact qq a t' b t
  |str b=>obtain⟨t,rfl⟩:=c;exact mq a t' b t
  |_=>exact absurd (show false=true from e) aT
 |str a=>
  obtain⟨t',rfl⟩:=d
  cases x with
  |non=>cases c;exact ql a t'
  |bl b=>cases c;exact lY a t' b
  |int b=>obtain⟨t,rfl⟩:=c;exact mr a t' b t
  |str b=>obtain⟨t,rfl⟩:=c;exact qr a t' b t
  |_=>exact absurd (show false=true from e) aT
 |_=>exact absurd (show false=true from f) aT
def vQ (x:V)(u:ah):Bool:=match u with
 | .none=>uX .non x
 | .bool b=>uX (.bl b) x
 | .int i _=>uX (.int i) x
 | .str z _=>uX (.str z) x
 |_=>false
theorem zEh {x y:V}{u:ah}(r:zS y u)(f:qF y=true):vQ x u=uX y x:=by
 cases y with
 |non=>cases r;rfl
 |bl b=>cases r;rfl
 |int i=>obtain⟨t,rfl⟩:=r;rfl
 |str z=>obtain⟨t,rfl⟩:=r;rfl
 |_=>exact absurd (show false=true from f) aT
theorem zAD {x:V}:∀{xs:List V}{c:List ah},zN xs c->xs.all qF=true->c.any (vQ x)=xs.any fun y=>uX y x
 |_,_,.nil,_=>rfl
 |y::xs,u::c,.cons r t,f=>by
  rw[o5,bH]at f
  rw[ef,ef,zEh r f.1,zAD t f.2]
theorem zAE {A:bS}{s:ar}{x:V}{v:ah}(e:zS x v)(g:qF x=true):∀{xs:List V}{d:List ah},zN xs d->xs.all qF=true->∀u∈d,qp A s u v (vQ x u)
 |_,_,.nil,_=>fun u c=>by cases c
 |y::xs,u::d,.cons r t,f=>fun h c=>by
  rw[o5,bH]at f
  rcases aH.mp c with rfl|c
  ·rw[zEh r f.1];exact zJf r e f.1 g
  ·exact zAE e g t f.2 h c
def uL (x:V)(xs:List V):Bool:=xs.any fun y=>uX y x
def rIn (K:ae)(neg:Bool):R2:=fun x y H Q=>∃p xs,y=.ref p/\(yF K H p xs\/yE K H p xs)/\qF x=true/\xs.all qF=true/\Q (.bl (if neg then !uL x xs else uL x xs)) H
theorem zEi:yB X (compareOp .In) (rIn X.K false):=by
 intro e s σ H x y v u Q I f i h
 obtain⟨p,xs,rfl,c,g,fs,q⟩:=h
 cases i
 rcases c with c|c
 ·obtain⟨its,r,pl,hz⟩:=I.list c
  refine SeqAt.in_listAt (vQ x) pl.isList (fun w d=>zAE f g r fs w (by simpa using d)) ⟨.bl _,H,I,rfl,?_⟩
  rw[show its.toArray.any (vQ x)=its.any (vQ x) by simp,zAD r fs]
  exact q
 ·obtain⟨its,r,pl,hz⟩:=I.tuple c
  refine SeqAt.in_tupleAt (vQ x) pl (fun w d=>zAE f g r fs w (by simpa using d)) ⟨.bl _,H,I,rfl,?_⟩
  rw[show its.toArray.any (vQ x)=its.any (vQ x) by simp,zAD r fs]
  exact q
theorem zJg:yB X (compareOp .NotIn) (rIn X.K true):=by
 intro e s σ H x y v u Q I f i h
 obtain⟨p,xs,rfl,c,g,fs,q⟩:=h
 cases i
 rcases c with c|c
 ·obtain⟨its,r,pl,hz⟩:=I.list c
  refine SeqAt.notIn_listAt (vQ x) pl.isList (fun w d=>zAE f g r fs w (by simpa using d)) ⟨.bl _,H,I,rfl,?_⟩
  rw[show its.toArray.any (vQ x)=its.any (vQ x) by simp,zAD r fs]
  exact q
 ·obtain⟨its,r,pl,hz⟩:=I.tuple c
  refine SeqAt.notIn_tupleAt (vQ x) pl (fun w d=>zAE f g r fs w (by simpa using d)) ⟨.bl _,H,I,rfl,?_⟩
  rw[show its.toArray.any (vQ x)=its.any (vQ x) by simp,zAD r fs]
  exact q
theorem zAF:qD X (.builtin "len") (fun xs H Q=>∃p ys,xs=[.ref p]/\(yF X.K H p ys\/yE X.K H p ys)/\Q (.int ys.length) H):=by
 intro f s σ H xs i Q I r h
 obtain⟨p,ys,rfl,d,q⟩:=h
 obtain⟨u,rfl,g⟩:=qE r
 cases g
 have j:=zAC
 rcases d with d|d
 ·obtain⟨its,e,pl,hz⟩:=I.list d
  have c:=e.length
  exact Calls.call_len_list pl.isList (by simp only[bq]<;>omega) ⟨.int ys.length,H,I.tok _,⟨s.toks+1,by rw[bq,c]⟩,q⟩
 ·obtain⟨its,e,pl,hz⟩:=I.tuple d
  have c:=e.length
  exact len_tuple pl (by simp only[bq]<;>omega) ⟨.int ys.length,H,I.tok _,⟨s.toks+1,by rw[bq,c]⟩,q⟩
theorem jL:qD X (.builtin "len") (fun xs H Q=>∃z,xs=[.str z]/\z.length<=sizeLine/\Q (.int z.length) H):=by
 intro c s σ H xs d Q I r h
 obtain⟨z,rfl,hz,q⟩:=h
 obtain⟨u,rfl,t,rfl⟩:=qE r
 have e:=zAC
 exact len_str (by omega) ⟨.int z.length,H,I.tok _,⟨_,rfl⟩,q⟩
def tyV (K:ae)(T:String)(x:V)(H:Hp):Prop:=match x with
 | .str _=>T="str"
 | .int _=>T="int"
 | .ref p=>(T="list"/\ ∃xs,yF K H p xs)\/(T="tuple"/\ ∃o,K.lookup p=some o/\o.cls=.type "tuple"/\o.dict=none)\/
   (T="dict"/\ ((∃kvs,H p=some (.dK kvs))\/∃kvs,H p=some (.dT kvs)))\/(T="set"/\ ∃S n,H p=some (.set S n))
 |_=>False
theorem zEj {f:List (ao×Obj)}{σ:St}{H:Hp}{s:ar}{T:String}{x:V}{v:ah}(I:Inv X f σ H s)(r:zS x v)(ty:tyV X.K T x H) :
  s.TypeIs v T/\∀a,v=.ref a->∃h,s.heap.get? a=some h/\h.dict=none:=by
 cases x with
 |str z=>
  obtain⟨t,rfl⟩:=r
  cases(show T="str"from ty)
  exact⟨typeIs_str s z t,fun _ e=>nomatch e⟩
 |int i=>
  obtain⟨t,rfl⟩:=r
  cases(show T="int"from ty)
  exact⟨n9 s i t,fun _ e=>nomatch e⟩
 |ref p=>
  cases r
  rcases ty with⟨rfl,xs,j⟩|⟨rfl,o,d,l,hd⟩|⟨rfl,d⟩|⟨rfl,S,n,d⟩
  ·obtain⟨its,_,pl,_⟩:=I.list j
   refine⟨pl.isList.typeIs,fun a e=>?_⟩
   cases e
   obtain⟨o,n,e,c,hd,_⟩:=pl
   exact⟨o,e,hd⟩
  ·refine⟨⟨o,I.kIn p o d,l⟩,fun a e=>?_⟩
   cases e
   exact⟨o,I.kIn _ o d,hd⟩
  ·have z:∃o,s.heap.get? p=some o/\o.ExactDict:=by
    rcases d with⟨kvs,d⟩|⟨kvs,d⟩
    ·obtain⟨_,_,_,_,o,_,_,e,ex,_⟩:=I.hok p _ d
     exact⟨o,e,ex⟩
    ·obtain⟨_,_,_,_,o,_,_,e,ex,_⟩:=I.hok p _ d
     exact⟨o,e,ex⟩
   obtain⟨o,e,ex⟩:=z
   refine⟨⟨o,e,ex.1⟩,fun a g=>?_⟩
   cases g
   exact⟨o,e,ex.2.1⟩
  ·obtain⟨o,_,_,_,e,ex,_⟩:=I.hok p _ d
   refine⟨⟨o,e,ex.1⟩,fun a g=>?_⟩
   cases g
   exact⟨o,e,ex.2.1⟩
 |_=>exact eQ ty
def zEk (K:ae)(T:String)(r:V->List V->Hp->VK->Prop)(to:TE):TE:=fun σ H Q=>to σ H fun x H1=>tyV K T x H1/\r x [] H1 Q
def tBM (K:ae)(T:String)(r:V->List V->Hp->VK->Prop)(to:TE)(t:TA):TE:=fun σ H Q=>to σ H fun x H1=>tyV K T x H1/\t σ H1 fun xs H2=>r x xs H2 Q
variable{o e:bO}{es:List bO}{to:TE}{t:TA}{name:Str}{apos cpos:Pos}{T id:String}{r:V->List V->Hp->VK->Prop}
theorem zJh (l:oa T)(slot:Slot T name id)(g:typeOf (.builtin id)=pure (.type "method_descriptor"))(hm:MtR X id r)(m:PE X o to)
  (d:attributeBase o name X.env (eval o X.env)=eval o X.env:=by rfl) (f:(apos.endLine==cpos.line)=true:=by rfl):PE X (.Call (.Attribute o name apos) [] [] cpos) (zEk X.K T r to):=by
 intro c s σ H Q I h
 refine jg d f (zH (m c s σ H _ I h) fun v n ⟨x,p,i,j,ty,q⟩=>?_)
 obtain⟨u,w⟩:=zEj i j ty
 exact⟨T,id,l,slot,g,u,w,eT rfl (l5 (hm c n σ p x [] v [] Q i j .nil q))⟩
theorem zAh (p:oa T)(slot:Slot T name id)(j:typeOf (.builtin id)=pure (.type "method_descriptor"))(hm:MtR X id r)(q:PE X o to)(u:PA X (e::es) t)
  (f:attributeBase o name X.env (eval o X.env)=eval o X.env:=by rfl)
  (i:((backTo cpos (starEach (e::es) X.env)).all (fun x=>!x.1)&& (backToKw cpos (keywordEach [] X.env)).all (fun x=>x.1.isSome)
   &&decide ((e::es).length+([]:List lX).length+(if([]:List lX).isEmpty then 0 else 1)<30))=true:=by rfl)
  (g:(apos.endLine==cpos.line)=true:=by rfl) (w:starEach (e::es) X.env=(false,eval e X.env)::starEach es X.env:=by rfl) (d:(backTo cpos (starEach es X.env)).any (·.1)=false:=by rfl) :
  PE X (.Call (.Attribute o name apos) (e::es) [] cpos) (tBM X.K T r to t):=by
 intro c s σ H Q I h
 refine wpAny_Call_method_late f i g rfl (zH (q c s σ H _ I h) fun v y ⟨x,z,l,m,ty,A⟩=>?_)
 obtain⟨B,C⟩:=zEj l m ty
 refine⟨T,id,p,slot,j,B,C,?_⟩
 have n:=u cpos c y σ z _ l A
 rw[w]at n⊢
 refine eT (by show(false||(backTo cpos (starEach es X.env)).any (·.1))=false;rw[d]<;>rfl) (lG ?_)
 exact zH n fun D E ⟨vs,F,G,J,L⟩=>hm c E σ F x vs v D Q G m J L
end
def kU (X:Cx)(id:String)(r:V->List V->Hp->VK->Prop):Prop :=
 ∀(pins:List (ao×Obj)) (s:ar) (σ:St) (H:Hp) (x:V) (xs:List V) (v:ah) (us:List ah) (Q:VK),Inv X pins σ H s->zS x v->zN xs us->r x xs H Q->
  wpAny (model X.prog X.w) X.A (call (.builtin id) (v::us)) (EP X pins σ Q) X.xe s
theorem zN.one:∀{x:V}{a:List ah},zN [x] a->∃u,a=[u]/\zS x u
 |_,_,.cons r .nil=>⟨_,rfl,r⟩
theorem zN.zero:∀{a:List ah},zN [] a->a=[]
 |_,.nil=>rfl
theorem zN.dropLast {xs:List V}{a:List ah}(h:zN xs a):zN xs.dropLast a.dropLast:=by
 induction h with
 |nil=>exact .nil
 |cons r t ih=>
  cases t with
  |nil=>exact .nil
  |cons q t'=>exact .cons r ih
theorem zN.eraseIdx:∀{xs:List V}{a:List ah} (i:Nat),zN xs a->zN (xs.eraseIdx i) (a.eraseIdx i)
 |_,_,_,.nil=>.nil
 |_,_,0,.cons _ t=>t
 |_,_,i+1,.cons r t=>.cons r (zN.eraseIdx i t)
theorem zN.reverse {xs:List V}{a:List ah}(h:zN xs a):zN xs.reverse a.reverse:=by
 induction h with
 |nil=>exact .nil
 |cons r t ih=>rw[mL,mL];exact zN.append ih (.cons r .nil)
theorem zN.rep {xs:List V}{a:List ah}(h:zN xs a):∀k:Nat,zN (aD k xs).flatten (aD k a).flatten
 |0=>.nil
 |k+1=>by
  rw[c7,c7,d4,d4]
  exact zN.append h (zN.rep h k)
theorem zEl (its:List ah):∀(k:Nat) (a:List ah),
  oe (fun b c=>b++c) a.toArray (aD k its.toArray)=(a++(aD k its).flatten).toArray
 |0,a=>by simp
 |k+1,a=>by
  have e:a.toArray++its.toArray=(a++its).toArray:=by simp
  have d:(a++its)++(aD k its).flatten=a++(aD (k+1) its).flatten:=by
   rw[c7,d4,dZ]
  rw[<-d,<-zEl its k (a++its),<-e,c7,bR]
section
variable{X:Cx}{pins:List (ao×Obj)}{σ:St}{H:Hp}{s:ar}{l b:ao}{xs ys zs:List V}
theorem Inv.lset {its its':List ah}{n:Nat}{f:Array ah->Array ah}{t':Nat}(I:Inv X pins σ H s)(a:H l=some (.lst xs))
  (e:s.heap.get? l=some {cls:=.type "list",data:=.seq its.toArray n}) (c:f its.toArray=its'.toArray) (d:zN ys its') (hz:ys.length<=sizeLine) :
  Inv X pins σ (upd H l (.lst ys)) {s with heap:=s.heap.update l (cu f),toks:=t'}:=by
 have q:=jh e f
 rw[c]at q
 refine I.write (x:=l) (e:=l) (by rw[a];exact trivial) (.inl rfl) (fun i u g h=>(bw s.heap (cu f) (dS g)).trans h) ⟨_,q⟩ ?_
 exact⟨hz,its',_,d,q⟩
theorem Inv.lnew {its:List ah}{t':Nat}(I:Inv X pins σ H s)(a:zN ys its)(hz:ys.length<=sizeLine) :
  Inv X pins σ (upd H s.heap.objs.size (.lst ys)) {s with heap:=s.heap.push {cls:=.type "list",data:=.seq its.toArray},toks:=t'} :=
 I.laid (fun _ _ q=>ag _ q) (ay _) ⟨hz,its,0,a,aB _ rfl⟩
theorem Inv.fresh (I:Inv X pins σ H s):H s.heap.objs.size=none:=I.hok.fresh (ay _)
theorem Inv.lstM (I:Inv X pins σ H s)(a:H l=some (.lst xs)):xs.length<=sizeLine/\∃(its:List ah) (n:Nat),zN xs its/\xs.length=its.length/\s.heap.get? l=some {cls:=.type "list",data:=.seq its.toArray n}:=by
 obtain⟨z,its,n,r,e⟩:=I.hok l _ a
 exact⟨z,its,n,r,r.length,e⟩
theorem zEm {n:Nat}(h:n<=sizeLine):eg n=false:=by
 unfold eg
 exact decide_eq_false (by omega)
end
section
variable{X:Cx}
def zJi:V->List V->Hp->VK->Prop:=fun x vs H Q=>∃l xs y,x=.ref l/\vs=[y]/\H l=some (.lst xs)/\xs.length<sizeLine/\Q .non (upd H l (.lst (xs++[y])))
theorem zJj:kU X "list.append" zJi:=by
 intro a s σ H x vs v g Q I c d h
 obtain⟨l,xs,y,rfl,rfl,b,hz,q⟩:=h
 cases c
 obtain⟨u,rfl,f⟩:=d.one
 obtain⟨z,its,n,r,hl,e⟩:=I.lstM b
 refine gj iD ⟨_,e,rfl⟩ ie (gp _ _) (iU l its.toArray n u (by rw[bq];omega)) ⟨e,?_⟩
 refine⟨.non,_,I.lset (its':=its++[u]) b e (by simp) (r.append (.cons f .nil)) ?_,rfl,q⟩
 rw[aI,cK]
 omega
def zJk:V->List V->Hp->VK->Prop:=fun x vs H Q=>∃l b xs zs,x=.ref l/\vs=[.ref b]/\H l=some (.lst xs)/\H b=some (.lst zs)/\xs.length+zs.length<=sizeLine/\Q .non (upd H l (.lst (xs++zs)))
theorem zJl:kU X "list.extend" zJk:=by
 intro d s σ H x vs v w Q I g i h
 obtain⟨l,b,xs,y,rfl,rfl,f,j,hz,q⟩:=h
 cases g
 obtain⟨u,rfl,m⟩:=i.one
 cases m
 obtain⟨z,its,n,r,hl,e⟩:=I.lstM f
 obtain⟨A,a,o,p,hl2,t⟩:=I.lstM j
 have hsz:its.toArray.size+a.toArray.size<=sizeLine:=by rw[bq,bq];omega
 have c:¬(!its.toArray.isEmpty&&eg (its.toArray.size+a.toArray.size))=true:=by
  rw[zEm hsz,og]
  exact aT
 refine gj F.slot_list_extend ⟨_,e,rfl⟩ F.entry_list_extend (F.args_list_extend_2 _ _)
  (AutoSeq1.list_extend_list_list_0 l its.toArray n b a.toArray o c (by rw[bq];omega) (by omega)) ⟨e,t,?_⟩
 refine⟨.non,_,I.lset (its':=its++a) f e (by simp) (r.append p) ?_,rfl,q⟩
 rw[aI]
 omega
def zJm:R2:=fun x y H Q=>∃l k xs,x=.ref l/\y=.int k/\H l=some (.lst xs)/\-(2^63)<=k/\k<2^63/\xs.length*k.toNat<=sizeLine/\
 ∀p,H p=none->Q (.ref p) (upd H p (.lst (aD k.toNat xs).flatten))
theorem zJn {α:Type}(xs:List α)(k:Nat):(aD k xs).flatten.length=k*xs.length:=by
 induction k with
 |zero=>simp
 |succ k ih=>rw[c7,d4,aI,ih,Nat.succ_mul,Nat.add_comm]
theorem zEn:yB X (binaryOp .Mult) zJm:=by
 intro o s σ H x y v u Q I p w h
 obtain⟨l,k,xs,rfl,rfl,A,B,C,hz,q⟩:=h
 cases p
 obtain⟨t,rfl⟩:=w
 obtain⟨z,its,n,r,hl,e⟩:=I.lstM A
 have c:its.toArray.size*k.toNat<=sizeLine:=by rw[bq,<-hl];exact hz
 have d:¬its.toArray.size*k.toNat> (2^63-1)/8:=by
  have:(sizeLine:Nat)<=(2^63-1)/8:=by decide
  omega
 have f:¬(!Builtin.List.listFitsIndex k)=true:=by
  rw[fitsIndex_both B C]
  exact aT
 have b:¬eg (its.toArray.size*k.toNat)=true:=by
  rw[zEm c]
  exact aT
 have g:oe (fun i j=>i++j) #[] (aD (if its.toArray.isEmpty=true then 0 else k.toNat) its.toArray)=(aD k.toNat its).flatten.toArray:=by
  have D:∀m:Nat,oe (fun i j=>i++j) #[] (aD m its.toArray)=(aD m its).flatten.toArray:=fun m=>by
   have:=zEl its m []
   rw[nK]at this
   exact this
  rw[D]
  cases its with
  |nil=>simp
  |cons a E=>rw[if_neg (by simp)]
 refine wpAny_binaryOp_repeat_ref (T :="list") (U :="int") (by decide) ⟨_,e,rfl⟩ (fun s'=>n9 s' k t) noFill_list_mul F.fills_int_mul nM repeat_list F.slot_int_index.lookup
  (gj nM (n9 s k t) F.entry_int_rmul (F.args_int_rmul_2 _ _) (int___rmul___int_list k t l its.toArray n)
   ⟨e,rfl,⟨_,e,rfl⟩,gj F.slot_list_mul ⟨_,e,rfl⟩ F.entry_list_mul (F.args_list_mul_2 _ _) (mF l its.toArray n k t f d b) ⟨e,?_⟩⟩)
 rw[g]
 exact⟨.ref _,_,I.lnew (t':=s.toks) (r.rep k.toNat) (by rw[zJn,Nat.mul_comm];exact hz),rfl,q _ I.fresh⟩
end
section
variable{κ:Type} [DecidableEq κ]
def yY (kvs:List (κ×V))(k:κ):Option V:=(kvs.find? fun kv=>decide (kv.1=k)).map (·.2)
def vG (kvs:List (κ×V))(k:κ)(v:V):List (κ×V) :=
 if(kvs.any fun kv=>decide (kv.1=k))=true then kvs.map (fun kv=>if kv.1=k then(kv.1,v)else kv)else kvs++[(k,v)]
def zEo (kvs:List (κ×V))(k:κ):List (κ×V):=kvs.filter fun kv=>decide (kv.1≠k)
theorem zAi {p:κ×V}{r:List (κ×V)}{k:κ}(e:p.1=k):yY (p::r) k=some p.2:=by simp[yY,eZ,e]
theorem zAj {p:κ×V}{r:List (κ×V)}{k:κ}(e:¬p.1=k):yY (p::r) k=yY r k:=by simp[yY,eZ,e]
theorem zEp (k:κ):∀kvs:List (κ×V),(kvs.any fun a=>decide (a.1=k))=(yY kvs k).isSome
 | []=>rfl
 |p::r=>by
  rw[ef]
  by_cases e:p.1=k
  ·simp only[zAi e,decide_eq_true e,pK,Option.isSome_some]
  ·rw[zAj e,decide_eq_false e,o6];exact zEp k r
theorem zBi (kvs:List (κ×V))(k:κ)(v:V):(vG kvs k v).length<=kvs.length+1:=by
 unfold vG
 split
 ·rw[aa];omega
 ·rw[aI,aX,List.length_nil];omega
theorem uB.isSome_eq {o:Option V}{u:Option ah}(r:uB o u):o.isSome=u.isSome:=by
 cases o with
 |none=>cases u with
  |none=>rfl
  |some _=>exact(show False from r).elim
 |some _=>cases u with
  |none=>exact(show False from r).elim
  |some _=>rfl
theorem uB.getD {o:Option V}{u:Option ah}{d:V}{d':ah}(r:uB o u)(a:zS d d'):zS (o.getD d) (u.getD d'):=by
 cases o with
 |none=>cases u with
  |none=>exact a
  |some _=>exact(show False from r).elim
 |some _=>cases u with
  |none=>exact(show False from r).elim
  |some _=>exact r
theorem KV.val {kvs:List (κ×V)}{vs:List (κ×ah)}(r:KV kvs vs)(k:κ):uB (yY kvs k) (valueAt vs k):=by
 unfold KV at r
 induction r with
 |nil=>exact True.intro
 | @cons p q ps a h t ih=>
  obtain⟨d,f⟩:=h
  by_cases e:p.1=k
  ·have c:q.1=k:=d.symm.trans e
   have b:valueAt (q::a) k=some q.2:=by simp[valueAt,eZ,c]
   rw[zAi e,b];exact f
  ·have c:¬q.1=k:=fun z=>e (d.trans z)
   have b:valueAt (q::a) k=valueAt a k:=by simp[valueAt,eZ,c]
   rw[zAj e,b];exact ih
theorem KV.any {kvs:List (κ×V)}{vs:List (κ×ah)}(r:KV kvs vs)(k:κ):(kvs.any fun a=>decide (a.1=k))=vs.any fun a=>decide (a.1=k):=by
 unfold KV at r
 induction r with
 |nil=>rfl
 |cons h t ih=>rw[ef,ef,ih,h.1]
theorem KV.repl {kvs:List (κ×V)}{vs:List (κ×ah)}(r:KV kvs vs)(k:κ){y:V}{u:ah}(c:zS y u) :
  KV (kvs.map fun a=>if a.1=k then(a.1,y)else a) (vs.map fun a=>if a.1=k then(a.1,u)else a):=by
 unfold KV at r⊢
 induction r with
 |nil=>exact .nil
 | @cons p q ps f h t ih=>
  rw[aC,aC]
  refine .cons ?_ ih
  obtain⟨b,d⟩:=h
  by_cases e:p.1=k
  ·rw[if_pos e,if_pos (b.symm.trans e)];exact⟨b,c⟩
  ·rw[if_neg e,if_neg (fun z=>e (b.trans z))];exact⟨b,d⟩
theorem KV.put {kvs:List (κ×V)}{vs:List (κ×ah)}(r:KV kvs vs)(k:κ){y:V}{u:ah}(a:zS y u):KV (vG kvs k y) (stored vs k u):=by
 unfold vG stored
 rw[r.any k]
 by_cases e:(vs.any fun b=>decide (b.1=k))=true
 ·rw[if_pos e,if_pos e];exact r.repl k a
 ·rw[if_neg e,if_neg e];exact p9 r ⟨rfl,a⟩
theorem KV.drop {kvs:List (κ×V)}{vs:List (κ×ah)}(r:KV kvs vs)(k:κ):KV (zEo kvs k) (without vs k):=by
 unfold KV at r⊢
 unfold zEo without
 induction r with
 |nil=>exact .nil
 | @cons p q ps g h t ih=>
  obtain⟨c,d⟩:=h
  rw[dM,dM]
  by_cases e:p.1=k
  ·have a:¬decide (p.1≠k)=true:=by simp[e]
   have b:¬decide (q.1≠k)=true:=by simp[c.symm.trans e]
   rw[if_neg a,if_neg b];exact ih
  ·have f:¬q.1=k:=fun z=>e (c.trans z)
   have a:decide (p.1≠k)=true:=by simp[e]
   have b:decide (q.1≠k)=true:=by simp[f]
   rw[if_pos a,if_pos b];exact .cons ⟨c,d⟩ ih
theorem KV.keys {kvs:List (κ×V)}{vs:List (κ×ah)}(r:KV kvs vs):kvs.map (·.1)=vs.map (·.1):=by
 unfold KV at r
 induction r with
 |nil=>rfl
 |cons h t ih=>rw[aC,aC,ih,h.1]
theorem KV.length {kvs:List (κ×V)}{vs:List (κ×ah)}(r:KV kvs vs):kvs.length=vs.length:=cy r
end
theorem jZ {P:aL}{w:aU}{k:zI}{u:ah}(r:zS (kV k) u):(y0 P w).is k u=true:=by
 cases k with
 |inl i=>obtain⟨t,e⟩:=(show∃t,u=Value.int i t from r);subst e;exact zIZ P w i t
 |inr x=>obtain⟨t,e⟩:=(show∃t,u=Value.str x t from r);subst e;exact zEB P w x t
theorem zJo {P:aL}{w:aU}{k:yG}{u:ah}(r:zS (qU k) u):(jF P w).is k u=true:=by
 cases k with
 |inl x=>obtain⟨t,e⟩:=(show∃t,u=Value.str x t from r);subst e;show cM x (.str x t)=true;simp[cM]
 |inr b=>have e:u=Value.bool b:=r;subst e;exact beq_self_eq_true _
theorem zEq {P:aL}{w:aU}:∀{ks:List yG}{a:List ah},zN (ks.map qU) a->ItemsAre (jF P w) ks a
 | [],_,r=>by rw[jx]at r;cases r;exact .nil
 |k::ks,_,r=>by
  rw[aC]at r
  cases r with
  |cons h t=>exact .cons (zJo h) (zEq t)
abbrev KT (H:Hp):List (List yG×V)->List (List yG×ao×ah)->Prop:=mw fun p q=>p.1=q.1/\H q.2.1=some (.tup (p.1.map qU))/\zS p.2 q.2.2
theorem KT.val {H:Hp}{kvs:List (List yG×V)}{xs:List (List yG×ao×ah)}(r:KT H kvs xs)(k:List yG):uB (yY kvs k) ((atKey xs k).map (·.2)):=by
 induction r with
 |nil=>exact True.intro
 | @cons p q ps a h t ih=>
  obtain⟨d,_,f⟩:=h
  by_cases e:p.1=k
  ·have c:q.1=k:=d.symm.trans e
   have b:atKey (q::a) k=some q.2:=by simp[atKey,eZ,c]
   rw[zAi e,b];exact f
  ·have c:¬q.1=k:=fun z=>e (d.trans z)
   have b:atKey (q::a) k=atKey a k:=by simp[atKey,eZ,c]
   rw[zAj e,b];exact ih
theorem KT.repl {H:Hp}{kvs:List (List yG×V)}{xs:List (List yG×ao×ah)}(r:KT H kvs xs)(k:List yG){y:V}{u:ah}(d:zS y u) :
  KT H (kvs.map fun b=>if b.1=k then(b.1,y)else b) (xs.map (putAt k u)):=by
 induction r with
 |nil=>exact .nil
 | @cons p q ps g h t ih=>
  rw[aC,aC]
  refine .cons ?_ ih
  obtain⟨a,c,f⟩:=h
  unfold putAt
  by_cases e:p.1=k
  ·rw[if_pos e,if_pos (a.symm.trans e)];exact⟨a,c,d⟩
  ·rw[if_neg e,if_neg (fun z=>e (a.trans z))];exact⟨a,c,f⟩
theorem KT.put {H:Hp}{kvs:List (List yG×V)}{xs:List (List yG×ao×ah)}(r:KT H kvs xs)(k:List yG){b:ao}{y:V}{u:ah}(c:H b=some (.tup (k.map qU)))(a:zS y u) :
  KT H (vG kvs k y) (storedH xs k b u):=by
 have e:(kvs.any fun d=>decide (d.1=k))=(atKey xs k).isSome:=by
  rw[zEp,(r.val k).isSome_eq,iV]
 unfold vG storedH
 rw[e]
 by_cases q:(atKey xs k).isSome=true
 ·rw[if_pos q,if_pos q];exact r.repl k a
 ·rw[if_neg q,if_neg q];exact p9 r ⟨rfl,c,a⟩
theorem KT.keeps {H H':Hp}{kvs:List (List yG×V)}{xs:List (List yG×ao×ah)}(r:KT H kvs xs)(a:∀b ys,H b=some (.tup ys)->H' b=some (.tup ys)):KT H' kvs xs :=
 Paired.mapP r fun _ _ z=>⟨z.1,a _ _ z.2.1,z.2.2⟩
section
variable{P:aL}{w:aU}{H:Hp}{h:bx}{a:ao}
theorem zEr {u:HO}(ok:z6 P w H h)(e:Rd H a u):yJ P w H h a u:=e.ok ok
theorem vZ {kvs:List (zI×V)}(ok:z6 P w H h)(e:Rd H a (.dK kvs)):kvs.length<=sizeLine/\(a==sysModules)=false/\∃vs,KV kvs vs/\h.DictOf (y0 P w) a vs :=
 show yJ P w H h a (.dK kvs)from zEr ok e
theorem qY {kvs:List (zI×V)}(ok:z6 P w H h)(e:H a=some (.dK kvs)):kvs.length<=sizeLine/\(a==sysModules)=false/\∃vs,KV kvs vs/\h.DictOf (y0 P w) a vs:=vZ ok (.inl e)
theorem kW {ks:List yG}(ok:z6 P w H h)(e:H a=some (.tup (ks.map qU))):(tupleKind (jF P w)).is h ks a:=by
 obtain⟨_,its,r,o,b,c,n,d⟩:=(show yJ P w H h a (.tup (ks.map qU))from ok a _ e)
 exact⟨o,its.toArray,n,b,c,d,by simpa using zEq r⟩
theorem j0 {kvs:List (List yG×V)}(ok:z6 P w H h)(e:Rd H a (.dT kvs)):kvs.length<=sizeLine/\(a==sysModules)=false/\
  ∃xs,KT H kvs xs/\h.DictOfH (tupleKind (jF P w)) a xs:=by
 obtain⟨z,y,xs,r,o,d,ep,f,g,i,j,n⟩:=(show yJ P w H h a (.dT kvs)from zEr ok e)
 refine⟨z,y,xs,r,o,d,ep,f,g,i,j,fun x b=>?_,n⟩
 have all:∀{l:List (List yG×V)} {m:List (List yG×ao×ah)},KT H l m->∀x∈m,(tupleKind (jF P w)).is h x.1 x.2.1:=by
  intro l m q
  induction q with
  |nil=>intro x b;exact nomatch b
  | @cons p q ps s c t ih=>
   intro x b
   rcases aH.mp b with e|b
   ·subst e
    exact kW ok (by rw[<-c.1];exact c.2.1)
   ·exact ih x b
 exact all r x b
theorem zJp {kvs:List (List yG×V)}(ok:z6 P w H h)(e:H a=some (.dT kvs)):kvs.length<=sizeLine/\(a==sysModules)=false/\
  ∃xs,KT H kvs xs/\h.DictOfH (tupleKind (jF P w)) a xs:=j0 ok (.inl e)
end
def yZ (H:Hp)(a:ao)(y:V)(r:Option V):Prop :=
 (∃kvs k,Rd H a (.dK kvs)/\y=kV k/\r=yY kvs k)\/∃kvs k b,Rd H a (.dT kvs)/\y=.ref b/\H b=some (.tup (k.map qU))/\r=yY kvs k
def qZ (H:Hp)(a:ao)(y v:V)(H':Hp):Prop :=
 (∃kvs k,H a=some (.dK kvs)/\y=kV k/\kvs.length<sizeLine/\H'=upd H a (.dK (vG kvs k v)))\/
 ∃kvs k b,H a=some (.dT kvs)/\y=.ref b/\H b=some (.tup (k.map qU))/\kvs.length<sizeLine/\H'=upd H a (.dT (vG kvs k v))
theorem yZ.k {H:Hp}{a:ao}{kvs:List (zI×V)}{k:zI}(e:H a=some (.dK kvs)):yZ H a (kV k) (yY kvs k):=.inl ⟨kvs,k,.inl e,rfl,rfl⟩
theorem qZ.k {H:Hp}{a:ao}{kvs:List (zI×V)}{k:zI}{v:V}(e:H a=some (.dK kvs))(hl:kvs.length<sizeLine):qZ H a (kV k) v (upd H a (.dK (vG kvs k v))):=.inl ⟨kvs,k,e,rfl,hl,rfl⟩
section
variable{X:Cx}{pins:List (ao×Obj)}{σ:St}{H:Hp}{s:ar}{a:ao}{y v:V}{u r:ah}{o:Option V}{A:bS}{E:ah->ar->Prop}
theorem Inv.big (I:Inv X pins σ H s):sysModules<s.heap.objs.size:=by
 have h:mainGlobals<s.heap.objs.size:=(I.mod.glob.keeps I.bk).lt
 exact jz (by decide) h
theorem zJq {Q:ah->ar->Prop}(q:A.units+1<cLine)(I:Inv X pins σ H s)(g:yZ H a y (some v))(n:zS y u)(h:∀d s',Inv X pins σ H s'->zS v d->Q d s') :
  wpAny (model X.prog X.w) A (getItem (.ref a) u) Q E s:=by
 rcases g with⟨kvs,k,e,f,l⟩|⟨kvs,k,b,e,f,t,l⟩
 ·subst f
  obtain⟨z,hd,vs,rel,i⟩:=vZ I.hok e
  obtain⟨d,j,c⟩:=uB.some_of (v:=v) (o:=valueAt vs k) (by rw[l];exact rel.val k)
  exact wpAny_getItem_of (jZ n) i.mapOf j (h d _ (I.tok _) c)
 ·subst f
  cases(show u=Value.ref b from n)
  obtain⟨z,hd,xs,rel,i⟩:=j0 I.hok e
  obtain⟨d,j,c⟩:=uB.some_of (v:=v) (o:=(atKey xs k).map (·.2)) (by rw[l];exact rel.val k)
  obtain⟨p,x,m⟩:=fS.mp j
  refine wpAny_getItem_heap (eU q) (kW I.hok t) i x ?_
  rw[m]
  exact h d _ (I.tok _) c
theorem zJr {Q:ah->ar->Prop}(i:A.units+1<cLine)(I:Inv X pins σ H s)(g:yZ H a y o)(f:zS y u)(h:∀s',Inv X pins σ H s'->Q (.bool o.isSome) s') :
  wpAny (model X.prog X.w) A (compareOp .In u (.ref a)) Q E s:=by
 rcases g with⟨kvs,k,e,c,l⟩|⟨kvs,k,b,e,c,j,l⟩
 ·subst c
  obtain⟨z,hd,vs,rel,d⟩:=vZ I.hok e
  refine wpAny_in_of (jZ f) hd d.mapOf ?_
  rw[<- (rel.val k).isSome_eq,<-l]
  exact h _ (I.tok _)
 ·subst c
  cases(show u=Value.ref b from f)
  obtain⟨z,hd,xs,rel,d⟩:=j0 I.hok e
  refine wpAny_in_heap (eU i) (kW I.hok j) hd d ?_
  have q:=(rel.val k).isSome_eq
  rw[iV]at q
  rw[<-q,<-l]
  exact h _ (I.tok _)
theorem zJs {Q:ah->ar->Prop}(i:A.units+1<cLine)(I:Inv X pins σ H s)(g:yZ H a y o)(f:zS y u)(h:∀s',Inv X pins σ H s'->Q (.bool (!o.isSome)) s') :
  wpAny (model X.prog X.w) A (compareOp .NotIn u (.ref a)) Q E s:=by
 rcases g with⟨kvs,k,e,c,l⟩|⟨kvs,k,b,e,c,j,l⟩
 ·subst c
  obtain⟨z,hd,vs,rel,d⟩:=vZ I.hok e
  refine wpAny_notIn_of (jZ f) hd d.mapOf ?_
  rw[<- (rel.val k).isSome_eq,<-l]
  exact h _ (I.tok _)
 ·subst c
  cases(show u=Value.ref b from f)
  obtain⟨z,hd,xs,rel,d⟩:=j0 I.hok e
  refine wpAny_notIn_heap (eU i) (kW I.hok j) hd d ?_
  have q:=(rel.val k).isSome_eq
  rw[iV]at q
  rw[<-q,<-l]
  exact h _ (I.tok _)
theorem zAk {h':bx}{t':Nat}{c:HO}(I:Inv X pins σ H s)(d:gY (H a))(f:fz a s.heap h')(g:∃q,h'.get? a=some q)(new:yJ X.prog X.w (upd H a c) h' a c) :
  Inv X pins σ (upd H a c) {s with heap:=h',toks:=t'} :=
 I.write (x:=a) (e:=a) d (.inl rfl) (fun b q h z=>(f.2 b h).trans z) g new
theorem zAl {P:aL}{w:aU}{H':Hp}{h':bx}{kvs:List (zI×V)}{vs:List (zI×ah)}(z:kvs.length<=sizeLine)(hd:(a==sysModules)=false)(rel:KV kvs vs)(b:h'.DictOf (y0 P w) a vs) :
  yJ P w H' h' a (.dK kvs):=⟨z,hd,vs,rel,b⟩
theorem zJt {H':Hp}{Q:Unit->ar->Prop}(C:A.units+1<cLine)(I:Inv X pins σ H s)(g:qZ H a y v H')(p:zS y u)(t:zS v r)(h:∀s',Inv X pins σ H' s'->Q () s') :
  wpAny (model X.prog X.w) A (setItem (.ref a) u r) Q E s:=by
 rcases g with⟨kvs,k,e,i,l,j⟩|⟨kvs,k,b,e,i,x,l,j⟩
 ·subst i j
  obtain⟨z,hd,vs,rel,m⟩:=qY I.hok e
  have hz:vs.length<=sizeLine:=by rw[<-rel.length];exact z
  have hl:(vG kvs k v).length<=sizeLine:=by have:=zBi kvs k v;omega
  refine wpAny_setItem_pairs (hsz:=hz) (jZ p) m fun h' d n=>h _ ?_
  have D:∃q,h'.get? a=some q:=let⟨q,_,_,f,_⟩:=d;⟨q,f⟩
  exact zAk I (by rw[e];exact True.intro) n D (zAl hl hd (rel.put k t) d)
 ·subst i j
  cases(show u=Value.ref b from p)
  obtain⟨z,hd,xs,rel,m⟩:=zJp I.hok e
  have hz:xs.length<=sizeLine:=by rw[<-cy rel];exact z
  have hl:(vG kvs k v).length<=sizeLine:=by have:=zBi kvs k v;omega
  refine wpAny_setItem_heap (hsz:=hz) (eU C) (kW I.hok x) m fun h' d n=>h _ ?_
  obtain⟨q,F,ep,f,G,J,L,_,M⟩:=d
  refine zAk I (by rw[e];exact True.intro) n ⟨q,f⟩ ⟨hl,hd,_,(rel.put k x t).keeps fun c ys B=>?_,q,F,ep,f,G,J,L,M⟩
  rw[zG (zAb B e (fun z=>nomatch z))]
  exact B
end
def zEs (i:bO):Prop:=∀ov iv,subscripted i false ov iv=operate [ov,iv] (getItem ov iv)
theorem zJu {prog:aL}{w:aU}{A:bS}{E:ah->ar->Prop}{s:ar}{env:Env}{value slice:bO}{pos:Pos}{T id:String}{Q:ah->ar->Prop}
  (hl:typeLookup (.type T) "__getitem__"=pure (some (.builtin id))) (f:zEs slice)
  (h:wpAny (model prog w) A (eval value env) (fun o c=>wpAny (model prog w) A (eval slice env) (fun i a=>a.TypeIs o T/\wpAny (model prog w) A (getItem o i) Q E a) E c) E s) :
  wpAny (model prog w) A (eval (.Subscript value slice pos) env) Q E s:=by
 refine n6 (b8 h (fun o c h₁=>b8 h₁ (fun i a b=>?_) fun _ _ x=>x) fun _ _ x=>x)
 obtain⟨d,b⟩:=b
 unfold subscriptTail
 refine af ?_
 rw[getitemInPython_of_ne d.not_modules]
 refine af (nN d hl ?_)
 have fin:wpAny (model prog w) A (subscripted slice false o i) (fun r e=>wpAny (model prog w) A (letTemporaryGo value o r>>=fun _=>pure r) Q E e) E a:=by
  rw[f o i]
  exact wpAny_operating (b8 b (fun r e g=>af (wpAny_letTemporaryGo (av g))) fun _ _ x=>x)
 first
  |exact av (af fin)
  |exact af (av (af fin))
  |exact af fin
theorem zJv {X:Cx}{c:List (ao×Obj)}{σ:St}{H:Hp}{s:ar}{a:ao}{y:V}{o:Option V}(I:Inv X c σ H s)(g:yZ H a y o):s.TypeIs (.ref a) "dict" :=by
 rcases g with⟨kvs,k,e,_,_⟩|⟨kvs,k,b,e,_,_,_⟩
 ·obtain⟨_,_,vs,_,d⟩:=vZ I.hok e
  exact d.typeIs
 ·obtain⟨_,_,xs,_,d⟩:=j0 I.hok e
  exact d.typeIs
def zJw (td ty:TE):TE:=fun σ H Q=>td σ H fun x H1=>ty σ H1 fun y H2=>∃a v,x=.ref a/\yZ H2 a y (some v)/\Q v H2
def zJx (ty td:TE):TE:=fun σ H Q=>ty σ H fun y H1=>td σ H1 fun x H2=>∃a o,x=.ref a/\yZ H2 a y o/\Q (.bl o.isSome) H2
def zJy (ty td:TE):TE:=fun σ H Q=>ty σ H fun y H1=>td σ H1 fun x H2=>∃a o,x=.ref a/\yZ H2 a y o/\Q (.bl (!o.isSome)) H2
def zEt (td ty tv:TE):TS:=fun D σ H=>tv σ H fun v H1=>td σ H1 fun x H2=>ty σ H2 fun y H3=>∃a H4,x=.ref a/\qZ H3 a y v H4/\D.nx σ H4
section
variable{X:Cx}{o i e value:bO}{pos pos' tpos:Pos}{td ty tv:TE}
theorem kX (f:X.A.units+1<cLine)(j:PE X o td)(hi:PE X i ty)(l:zEs i):PE X (.Subscript o i pos) (zJw td ty):=by
 intro b s σ H Q I h
 refine zJu PySem.F.slot_dict_getitem.lookup l (zH (j b s σ H _ I h) fun u m ⟨x,n,p,q,r⟩=>zH (hi b m σ n _ p r) fun C D ⟨y,t,d,w,a,v,ex,g,z⟩=>?_)
 subst ex
 obtain rfl:u=Value.ref a:=q
 exact⟨zJv d g,zJq f d g w fun E G B c=>⟨v,t,B,c,z⟩⟩
theorem zJz (c:X.A.units+1<cLine)(hi:PE X i ty)(d:PE X o td):PC X .In i o (zJx ty td):=by
 intro b s σ H Q I h
 refine zH (hi b s σ H _ I h) fun z f ⟨y,j,l,m,n⟩=>zH (d b f σ j _ l n) fun u B ⟨x,p,q,r,a,t,ex,g,v⟩=>?_
 subst ex
 obtain rfl:u=Value.ref a:=r
 exact zJr c q g m fun C w=>⟨.bl t.isSome,p,w,rfl,v⟩
theorem zKA (c:X.A.units+1<cLine)(hi:PE X i ty)(d:PE X o td):PC X .NotIn i o (zJy ty td):=by
 intro b s σ H Q I h
 refine zH (hi b s σ H _ I h) fun z f ⟨y,j,l,m,n⟩=>zH (d b f σ j _ l n) fun u B ⟨x,p,q,r,a,t,ex,g,v⟩=>?_
 subst ex
 obtain rfl:u=Value.ref a:=r
 exact zJs c q g m fun C w=>⟨.bl (!t.isSome),p,w,rfl,v⟩
theorem zAG (c:X.A.units+1<cLine)(d:PE X o td)(hi:PE X i ty)(f:PE X value tv)(j:swapsWith value (some (.Subscript o i pos')) pos.line X.env=pure false) :
  PS X (.Assign [.Subscript o i pos'] value pos) (zEt td ty tv):=by
 intro b s σ H D I h
 refine wpAny_Assign_Subscript (zH (f b s σ H _ I h) fun r l ⟨v,m,n,p,q⟩=>zH (d b l σ m _ n q) fun u t ⟨x,w,z,B,C⟩=>zH (hi b t σ w _ z C) fun M N ⟨y,O,E,F,a,G,ex,g,J⟩=>?_) j
 subst ex
 obtain rfl:u=Value.ref a:=B
 exact zJt c E g F p fun P L=>⟨σ,G,L,J⟩
end
theorem zEu {P:aL}{w:aU}{H:Hp}(h:bx)(a:sysModules<h.objs.size):yJ P w H (h.push {cls:=.type "dict",data:=.dict #[]}) h.objs.size (.dK []) :=
 ⟨bD _,beq_eq_false_iff_ne.mpr (dS (aS a)),[],.nil,nO h⟩
def zKB:TE:=fun _ H Q=>∀p,H p=none->Q (.ref p) (upd H p (.dK []))
section
variable{X:Cx}{pos:Pos}
theorem j1:PE X (.Dict [] [] pos) zKB:=fun b s σ H Q I h=>
 wpAny_Dict_empty ⟨.ref s.heap.objs.size,_,I.laid (a:=s.heap.objs.size) (o:=.dK []) (t':=s.toks) (fun _ _ q=>ag _ q) (ay _) (zEu s.heap I.big),rfl,h _ (I.hok.fresh (ay _))⟩
end
def zEv:List (TE×TE)->St->Hp->(List (V×V)->Hp->Prop)->Prop
 | [],_,H,Q=>Q [] H
 |(tk,tv)::r,σ,H,Q=>tk σ H fun x H1=>tv σ H1 fun y H2=>zEv r σ H2 fun ps H3=>Q ((x,y)::ps) H3
abbrev VV:List (V×V)->List (ah×ah)->Prop:=mw fun p q=>zS p.1 q.1/\zS p.2 q.2
def PPs (X:Cx)(pos:Pos)(keys:List (Option bO))(values:List bO)(trs:List (TE×TE)):Prop :=
 ∀(pins:List (ao×Obj)) (s:ar) (σ:St) (H:Hp) (Q:List (V×V)->Hp->Prop),Inv X pins σ H s->zEv trs σ H Q->
  wpAny (model X.prog X.w) X.A (evalPairs (pairTrees keys values X.env pos)) (fun vs s'=>∃ps H',Inv X pins σ H' s'/\VV ps vs/\Q ps H') X.xe s
theorem zKC {X:Cx}{pos:Pos}:PPs X pos [] [] []:=fun a s σ H Q I h=>pairTrees_nil_walk ⟨[],H,I,.nil,h⟩
theorem zKD {X:Cx}{pos:Pos}{k v:bO}{ks:List (Option bO)}{vs:List bO}{tk c:TE}{b:List (TE×TE)}(d:PE X k tk)(e:PE X v c)(f:PPs X pos ks vs b) :
  PPs X pos (some k::ks) (v::vs) ((tk,c)::b):=fun a s σ H Q I h=>
 pairTrees_cons_walk (zH (d a s σ H _ I h) fun u g ⟨x,i,j,l,m⟩=>zH (e a g σ i _ j m) fun A n ⟨y,o,p,q,r⟩=>
  zH (f a n σ o _ p r) fun B C ⟨ps,t,w,rel,z⟩=>⟨(x,y)::ps,t,w,.cons ⟨l,q⟩ rel,z⟩)
structure M1 (X:Cx) (o:bO) (m:Str) (apos:Pos) (e:bO) (cpos:Pos):Prop where
 base:attributeBase o m X.env (eval o X.env)=eval o X.env
 few:((backTo cpos (starEach [e] X.env)).all (fun x=>!x.1)&& (backToKw cpos (keywordEach [] X.env)).all (fun x=>x.1.isSome)
  &&decide (([e]:List bO).length+([]:List lX).length+(if([]:List lX).isEmpty then 0 else 1)<30))=true
 line:(apos.endLine==cpos.line)=true
 trees:backTo cpos (starEach [e] X.env)=[(false,eval e X.env)]
structure M2 (X:Cx) (o:bO) (m:Str) (apos:Pos) (e f:bO) (cpos:Pos):Prop where
 base:attributeBase o m X.env (eval o X.env)=eval o X.env
 few:((backTo cpos (starEach [e,f] X.env)).all (fun x=>!x.1)&& (backToKw cpos (keywordEach [] X.env)).all (fun x=>x.1.isSome)
  &&decide (([e,f]:List bO).length+([]:List lX).length+(if([]:List lX).isEmpty then 0 else 1)<30))=true
 line:(apos.endLine==cpos.line)=true
 trees:backTo cpos (starEach [e,f] X.env)=[(false,eval e X.env),(false,eval f X.env)]
def IsD (H:Hp)(a:ao):Prop:=(∃kvs,Rd H a (.dK kvs))\/∃kvs,Rd H a (.dT kvs)
theorem zEw {X:Cx}{f:List (ao×Obj)}{σ:St}{H:Hp}{s:ar}{a:ao}(I:Inv X f σ H s)(d:IsD H a) :
  s.TypeIs (.ref a) "dict"/\ (∀b,Value.ref a=.ref b->∃c,s.heap.get? b=some c/\c.dict=none)/\(a==sysModules)=false:=by
 rcases d with⟨kvs,e⟩|⟨kvs,e⟩
 ·obtain⟨_,hd,vs,_,g⟩:=vZ I.hok e
  refine⟨g.typeIs,fun b q=>?_,hd⟩
  cases q
  obtain⟨c,_,_,h,i,_⟩:=g
  exact⟨c,h,i.2.1⟩
 ·obtain⟨_,hd,xs,_,g⟩:=j0 I.hok e
  refine⟨g.typeIs,fun b q=>?_,hd⟩
  cases q
  obtain⟨c,_,_,h,i,_⟩:=g
  exact⟨c,h,i.2.1⟩
section
variable{X:Cx}{pins:List (ao×Obj)}{σ:St}{H:Hp}{s:ar}{a:ao}{y d:V}{u r:ah}{o:Option V}{A:bS}{E:ah->ar->Prop}
theorem zKE {Q:ah->ar->Prop}(n:A.units+1<cLine)(I:Inv X pins σ H s)(g:yZ H a y o)(i:zS y u)(j:zS d r)(h:∀m s',Inv X pins σ H s'->zS (o.getD d) m->Q m s') :
  wpAny (model X.prog X.w) A (call (.builtin "dict.get") [.ref a,u,r]) Q E s:=by
 rcases g with⟨kvs,k,e,f,l⟩|⟨kvs,k,b,e,f,p,l⟩
 ·subst f
  obtain⟨z,hd,vs,rel,c⟩:=vZ I.hok e
  refine fW gd c.typeIs ka (ji _ _ _) (meets_dict_get_default (y0 X.prog X.w) a (jZ i) hd r) ⟨_,c.mapOf,h _ _ (I.tok _) ?_⟩
  rw[l]
  exact(rel.val k).getD j
 ·subst f
  cases(show u=Value.ref b from i)
  obtain⟨z,hd,xs,rel,c⟩:=j0 I.hok e
  refine fW gd c.typeIs ka (ji _ _ _) (meetsH_dict_get_default (tupleKind (jF X.prog X.w)) a b hd r) ⟨eU n,k,xs,kW I.hok p,c,h _ _ (I.tok _) ?_⟩
  rw[l]
  exact(rel.val k).getD j
end
def zEx (td ty tx:TE):TE:=fun σ H Q=>td σ H fun x H1=>∃a,x=.ref a/\IsD H1 a/\ty σ H1 fun y H2=>tx σ H2 fun z H3=>∃o,yZ H3 a y o/\Q (o.getD z) H3
section
variable{X:Cx}{o e f:bO}{apos cpos:Pos}{td ty tx:TE}
theorem zAm (j:X.A.units+1<cLine)(l:PE X o td)(n:PE X e ty)(p:PE X f tx)(m:M2 X o "get" apos e f cpos):PE X (.Call (.Attribute o "get" apos) [e,f] [] cpos) (zEx td ty tx):=by
 intro b s σ H Q I h
 refine wpAny_Call_method m.base m.few m.line bI gd PySem.F.type_dict_get (zH (l b s σ H _ I h) fun u q ⟨x,r,i,t,a,ex,d,v⟩=>?_)
 subst ex
 obtain rfl:u=Value.ref a:=t
 obtain⟨w,B,_⟩:=zEw i d
 refine⟨w,B,?_⟩
 rw[m.trees]
 refine eT rfl (lG (eR (zH (n b q σ r _ i v) fun R C ⟨y,D,E,G,J⟩=>
  eR (zH (p b C σ D _ E J) fun T U ⟨z,L,M,N,W,g,O⟩=>fT ?_))))
 exact zKE j M g G N fun Y Z P c=>⟨_,L,P,c,O⟩
end
end L2
namespace Att
open PySem PySem.W PySem.Calls PyProof.Rows
theorem zKF {P:nW}{h:bx}:∀(ns:List Int) (vs:List ah),WellAll P h vs (ns.map WData.int)->ik vs ns:=by
 intro ns
 induction ns with
 |nil=>
  intro vs w
  rw[jx]at w
  cases w
  exact .nil
 |cons n ns ih=>
  intro vs w
  rw[aC]at w
  cases w with
  |cons a b=>
   cases a
   exact .cons _ _ (ih _ b)
theorem zKG {l:OpenLaw}{n:Nat}(p:l.most=some n){P:nW}{h:bx}{args:List WData}{b:List ah}
  (c:l.row.toRowW.claim.pre args=true) (j:WellAll P h b args) :
  ∃a vs ns,b=[Value.ref a]/\args=[WData.list (ns.map WData.int)]/\h.get? a=some {cls:=.type "list",data:=.seq vs.toArray}/\ik vs ns/\ns.length<=n:=by
 have m:WShape.hasAll [] args [.list .int]=true:=(pre_splitW c).1
 have o:l.pre.holds [] {args:=args}=true:=(pre_splitW c).2
 obtain⟨d,r,rfl,s,t⟩:=hasAllW_cons m
 obtain rfl:=hasAllW_nil t
 obtain⟨xs,rfl,u⟩:=hasW_list s
 obtain⟨ns,rfl⟩:=items_int u
 have e:ns.length<=n:=by
  unfold OpenLaw.pre at o
  have g:(WTm.not (.lt (.lit (.int (n:Int))) (.len (.arg 0)))).holds [] {args:=[.list (ns.map .int)]}=true:=by
   have g:=(holds_andW o).1
   rw[p]at g
   exact g
  have i:=condW_of g (w_not (w_lt w_lit (w_len_list (w_arg rfl))))
  rw[aa]at i
  refine Nat.le_of_not_lt fun q=>?_
  have v:(n:Int)<((ns.length:Nat):Int):=by omega
  first
   |(rw[decide_eq_true v]at i;exact absurd i (by decide))
   |(simp at i;omega)
 cases j with
 |cons w x=>
  cases x
  cases w with
  |list y f=>exact⟨_,_,ns,rfl,rfl,y,zKF ns _ f,e⟩
theorem zKH (l:OpenLaw)(args:List WData):l.row.toRowW.claim.post args (.bool true) args=true :=
 postW_of (r:=l.row.toRowW) (X:=(true==true))
  (show qt [] (.bool true) .bool=true by first|rfl|decide|simp[qt,WShape.arms,WShape.armsAll])
  (show(WTm.eq .res (.lit (.bool true))).value [] {args:=args,res:=some (.bool true),after:=args}=some (.bool (true==true))from w_eq_bool (w_res rfl) w_lit) rfl
theorem attach_call {l:OpenLaw}{n:Nat}{q:aL}{loose:List Str}{XP:(Str->Option ah)->bx->Prop}{YP:aU->bx->Prop}{d:DefRec}
  (A:l.most=some n) (p:d.params.defaults=[])
  (call:∀(w:aU) (s₀ b:ar) (mg s:Str->Option ah) (g:ao) (o:Obj) (pm m c:ah) (a:ao) (vs:List ah) (ns:List Int),
   Ground q loose [] XP w s₀ mg s b.heap->YP w b.heap->
   b.heap.get? g=some o->o.data=.func (docDef d.name d.params d.body d.scope pm m c)->b.heap.CodeRec m d.name->mg d.name=some (.ref g)->
   b.heap.get? a=some {cls:=.type "list",data:=.seq vs.toArray}->ik vs ns->ns.length<=n->b.gens=#[]->
   codeAny (model l.prog w) callerA (.call (.ref g) ⟨[.ref a],[]⟩) (fun r s'=>r=.ok (.ret (.bool true))/\OldK b.heap s'.heap/\s'.os=b.os/\iT s'.gens) b) :
  WalkO q loose XP YP l.row.toRowW d [] (fun f vs=>oh f vs):=by
 intro w s₀ b mg s G Y g o pm m c B kV C hd t x u D args y as h z E v F
 obtain rfl:B=.none:=Dflts.none x p
 obtain rfl:kV=.none:=Dflts.noKw x
 obtain⟨a,vs,ns,rfl,rfl,i,e,j⟩:=zKG A h v
 refine enter_call (dk (call w s₀ b mg s g o pm m c a vs ns G Y C (fd_plain hd) t u i e j D) fun r s' H=>?_)
 obtain⟨rfl,I,J,L⟩:=H
 exact⟨.inl ⟨.bool true,.bool true,[],rfl,fun _=>rfl,.bool true,zKH l _,fun _=>⟨List.Pairwise.nil,fun _ hm=>(nomatch hm)⟩⟩,I,J,L⟩
end Att
namespace L2
open PySem PySem.Spec PyProof.Rows
theorem zEy:∀{vs:List ah}{ns:List Int},ik vs ns->zN (ns.map V.int) vs
 |_,_,.nil=>.nil
 |_,_,.cons n t h=>.cons ⟨t,rfl⟩ (zEy h)
def zBj (H:Hp):Prop:=∀b,H b=none\/∃o xs,H b=some (.frz o (.lst xs))
theorem zKI {P:aL}{w:aU}{K:ae}{mg D:Str->Option ah}{CX:uK}{k:Nat}{E a:ao}{fd:aY}{x:Str}{sp:Sp}{c:ar}{vs:List ah}{ns:List Int}
  (O:K.In c.heap) (j:c.heap.Ns mainGlobals mg) (f:c.heap.Ns builtinsNs D) (G:∀x:Str,x≠"__name__"->D x=bootBuiltins x) (l:c.heap.NoLimit) (U:c.gens=#[])
  (C:c.heap.get? a=some {cls:=.type "list",data:=.seq vs.toArray}) (hi:ik vs ns) (hl:ns.length<=sizeLine) (W:Room k callerA)
  (F:∀base:bx,K.In base->base.Ns mainGlobals mg->FnOk P w K mg base CX k E fd [x] sp) (i:∀(s:ar) (u:ah),mJ s fd ⟨[u],[]⟩ [(x,u)])
  (I:∀H:Hp,zBj H->yF K H a (ns.map V.int)->sp [.ref a] H (fun v _=>v=.bl true) fun _ _ _=>False)
  (J:∀H e s',CX [] H c (fun _ _ _=>False) e s'->False) :
  codeAny (model P w) callerA (.call (.ref E) ⟨[.ref a],[]⟩) (fun r s'=>r=.ok (.ret (.bool true))/\OldK c.heap s'.heap/\s'.os=c.os/\iT s'.gens) c:=by
 have Q:=zEy hi
 have p:=hi.length
 have core:∀H:Hp,zBj H->yF K H a (ns.map V.int)->z6 P w H c.heap->(∀b,H b≠none->b=a)->(H a≠none->K.lookup a=none)->
   codeAny (model P w) callerA (.call (.ref E) ⟨[.ref a],[]⟩) (fun r s'=>r=.ok (.ret (.bool true))/\OldK c.heap s'.heap/\s'.os=c.os/\iT s'.gens) c:=by
  intro H R X hok T Y
  have base_of:∀{b:ao} {o:Obj},c.heap.get? b=some o->H b=none->(qV c.heap H).get? b=some o:=fun e n=>zIb e n
  have L:∀{b:ao} {o:Obj} {t:Array DictEntry} {ep:Nat},c.heap.get? b=some o->o.data=.dict t ep->H b=none:=fun{b o t ep} e d=>by
   cases q:H b with
   |none=>rfl
   |some u=>
    have M:b=a:=T b (by rw[q];simp)
    subst M
    rw[C]at e;cases e
    have d':Data.seq vs.toArray _=Data.dict t ep:=d
    cases d'
  have g:∀{b:ao} {m:Str->Option ah},c.heap.Ns b m->(qV c.heap H).Ns b m:=fun{b m} ⟨o,t,ep,e,d,r⟩=>⟨o,t,ep,base_of e (L e d),d,r⟩
  have y:K.In (qV c.heap H):=fun b o e=>base_of (O b o e) (by
   cases q:H b with
   |none=>rfl
   |some u=>
    have M:b=a:=T b (by rw[q];simp)
    subst M
    rw[Y (by rw[q];simp)]at e;cases e)
  have Z:Mod K mg (qV c.heap H):=⟨y,g j,⟨D,g f,G⟩,let⟨mc,h1,h2⟩:=l;⟨mc,g h1,h2⟩⟩
  have e0:Env0 P w K mg (qV c.heap H) callerA [] c H:=⟨rfl,Z,fun b o e=>zIc e,d5 (zIa _ _),trivial,fun b f=>absurd (show b∈([]:List ao)from f) (by simp),hok,.of_eq U⟩
  refine dk ((F _ y (g j)).run callerA [] c H ⟨[.ref a],[]⟩ [.ref a] [.ref a] _ _ W e0 (i c (.ref a)) (.cons rfl .nil) (I H R X)) fun r s' h=>?_
  cases r with
  |error e=>exact(J H e s' h).elim
  |ok fl=>
   cases fl with
   |next=>exact eQ h
   |brk=>exact eQ h
   |cont=>exact eQ h
   |ret u=>
    obtain⟨v,H',os,bare,un,A,r',q⟩:=h
    have q':v=.bl true:=q
    subst q'
    obtain rfl:u=Value.bool true:=r'
    refine⟨rfl,OldK.of_keep fun b o e=>?_,os,bare⟩
    cases q:H b with
    |none=>exact un.keep b o e q (by intro z;exact absurd (show b∈([]:List ao)from z) (by simp)) (by simp)
    |some u=>
     rcases R b with z|⟨ob,xs,z⟩
     ·rw[q]at z;cases z
     ·have z2:=un.frzs b ob _ z
      obtain⟨e1,_⟩:=hok b _ z
      obtain⟨e2,_⟩:=A b _ z2
      rw[e]at e1;cases e1
      exact e2
 cases N:K.lookup a with
 |some o=>
  have e:=O a o N
  rw[C]at e
  cases e
  refine core (fun _=>none) (fun _=>.inl rfl) (.inr ⟨_,vs.toArray,_,N,rfl,rfl,rfl,by rw[bq,p];exact hl,by simpa using Q⟩) (fun b u z=>by have B:(none:Option HO)=some u:=z;cases B) (fun b z=>absurd rfl z) fun z=>absurd rfl z
 |none=>
  refine core (fun b=>if b=a then some (.frz {cls:=.type "list",data:=.seq vs.toArray} (.lst (ns.map V.int)))else none) (fun b=>?_) (.inl (.inr ⟨{cls:=.type "list",data:=.seq vs.toArray},if_pos rfl⟩)) (fun b u z=>?_) (fun b z=>?_) fun _=>N
  ·by_cases f:b=a
   ·exact .inr ⟨_,_,if_pos f⟩
   ·exact .inl (if_neg f)
  ·by_cases f:b=a
   ·have B:=(if_pos f).symm.trans z
    cases B
    subst f
    exact⟨C,by rw[aa];exact hl,vs,_,Q,C⟩
   ·have B:=(if_neg f).symm.trans z
    cases B
  ·by_cases f:b=a
   ·exact f
   ·exact absurd (if_neg f) z
theorem zKJ {l:ko}{n k:Nat}{q:aL}{loose:List Str}{XP:(Str->Option ah)->bx->Prop}{YP:aU->bx->Prop}{d:DefRec}{K:nW->ae}{CX:aU->uK}{sp:aU->Sp}{x:Str}
  (B:l.most=some n) (p:n<=sizeLine) (r:d.params.defaults=[]) (C:Room k callerA)
  (D:∀(w:aU) (h:bx),YP w h->(K w.params).In h)
  (F:∀(w:aU) (mg:Str->Option ah) (m:ao) (h:bx),(K w.params).In h->h.Ns mainGlobals mg->mg d.name=some (.ref m)->
   ∃fd:aY,(∀(s:ar) (u:ah),mJ s fd ⟨[u],[]⟩ [(x,u)])/\
    ∀base:bx,(K w.params).In base->base.Ns mainGlobals mg->FnOk l.prog w (K w.params) mg base (CX w) k m fd [x] (sp w))
  (t:∀(w:aU) (H:Hp) (a:ao) (ns:List Int),ns.length<=n->zBj H->yF (K w.params) H a (ns.map V.int)->sp w [.ref a] H (fun v _=>v=.bl true) fun _ _ _=>False)
  (y:∀(w:aU) (H:Hp) (s:ar) (e:ah) (s':ar),CX w [] H s (fun _ _ _=>False) e s'->False) :
  o7 q loose XP YP l.row.toRowW d [] (fun f vs=>oh f vs):=by
 refine Att.attach_call B r fun w s₀ E mg Q m o pm R I a vs ns G Y U hd J z j i c L=>?_
 have A:=D w _ Y
 obtain⟨fd,M,N⟩:=F w mg m _ A G.T.g z
 exact zKI A G.T.g G.T.b G.T.builtins G.T.nolimit L j i (eP c p) C N M (fun H O P=>t w H a ns c O P) fun H e s'=>y w H E e s'
abbrev zY:uK:=fun _ _ _ _ _ _=>False
abbrev E0:XK:=fun _ _ _=>False
theorem zKK {X:Cx}:zBg zY X E0:=fun _ _ _ _ _ _ _ h=>h.elim
structure Fun (K:ae) (x qual:Str) (st:cq) (f:ao) (fd:aY):Prop where
 ex:∃(oc:ah) (od:Option ao) (kV doc pm:ah) (an:Option ao) (cdv ct:ah) (osl:Array (Option ah)),
  fd=dG x qual (defArgs st) (defBody st) (defScope st) .none kV doc pm an cdv ct/\K.lookup f=some ⟨oc,od,.func fd,osl⟩/\fU K cdv qual=true
 kp:eB K (.ref f)=true
section
variable{P:aL}{w:aU}{K:ae}{mg:Str->Option ah}{base:bx}
theorem Fun.ok {x a:Str}{st:cq}{f:ao}{fd:aY}{N ps:List Str}{k:Nat}{sp:Sp}(F:Fun K x a st f fd)(S:FnScope N ps (defScope st))(len:∀vs H Q E,sp vs H Q E->vs.length=ps.length)
  (c:∀(b:ah) (A:bS) (outer:List Env) (s:ar) (H:Hp) (vs:List V) (Q:VK) (E:XK),Room k (A.deeper (envOfC a (defScope st) s.heap.objs.size f b))->sp vs H Q E->
   ∃t,uC (kT zY P w K mg base N a (defScope st) f b A outer s H E).nox (defBody st) t/\t {nx:=fun _ H'=>Q .non H',rt:=Q} (start N vs) H):FnOk P w K mg base zY (k+1) f fd ps sp:=by
 obtain⟨m,od,kV,g,pm,n,b,ct,i,rfl,j,d⟩:=F.ex
 refine zJT j d S len fun A outer s H vs Q E l e=>?_
 obtain⟨t,h,q⟩:=c b A outer s H vs Q E l e
 exact⟨t,h.nox,q⟩
theorem Fun.binds {x a:Str}{st:cq}{f:ao}{fd:aY}{ps:List Str}(F:Fun K x a st f fd)
  (h:∀(kV b pm:ah) (d:Option ao) (c ct:ah) (e:List ah),e.length=ps.length->bindArgs (dG x a (defArgs st) (defBody st) (defScope st) .none kV b pm d c ct) ⟨e,[]⟩=pure (ps.zip e)):jJ K fd ps []:=by
 obtain⟨j,od,kV,b,pm,d,c,ct,g,rfl,l,i⟩:=F.ex
 exact .all (h kV b pm d c ct)
theorem zBk {x a:Str}{st:cq}{f:ao}{h:ah}{od g:Option ao}{e:Array (Option ah)}{kV d pm b ct:ah}(l:K.lookup f=some ⟨h,od,.func (dG x a (defArgs st) (defBody st) (defScope st) .none kV d pm g b ct),e⟩)
  (c:fU K b a=true) (k:eB K (.ref f)=true):Fun K x a st f (dG x a (defArgs st) (defBody st) (defScope st) .none kV d pm g b ct):=⟨⟨h,od,kV,d,pm,g,b,ct,e,rfl,l,c⟩,k⟩
end
theorem uM {A:bS}{k:Nat}(a:Room k A):A.units+1<cLine:=Nat.lt_of_le_of_lt (Nat.add_le_add_left (by decide:1<=64) _) a.units
section
variable{X:Cx}
theorem pv (i:Nat){x:Str}{pos:Pos}(b:X.N[i]?=some x:=by rfl)(c:Vis X.env.scope x:=by first|exact Or.inl rfl|exact Or.inr (Or.inl rfl)|exact Or.inr (Or.inr rfl))(hd:(x==("__debug__" : Str))=false:=by decide)
  (a:(x==("__classdict__" : Str))=false:=by decide):PE X (.Name x pos) (qW i):=zIg b c hd a
end
theorem vK {A B:Prop}(h:B):if false=true then A else B:=by
 rw[if_neg aT]
 exact h
theorem zBl {A B:Prop}(h:A):if true=true then A else B:=by
 rw[if_pos rfl]
 exact h
theorem zKL {c A B:Prop} [Decidable c] (a:c->A)(b:¬c->B):if c then A else B:=by
 by_cases h:c
 ·rw[if_pos h]
  exact a h
 ·rw[if_neg h]
  exact b h
theorem j2 {c A B:Prop} [Decidable c] (a:c)(h:B):if(!decide c)=true then A else B:=by
 rw[decide_eq_true a]
 exact vK h
def zA (H H':Hp):Prop:=∀b o,H b=some o->H' b=some o
theorem zA.refl (H:Hp):zA H H:=fun _ _ h=>h
theorem zA.trans {H d e:Hp}(a:zA H d)(b:zA d e):zA H e:=fun c o h=>b c o (a c o h)
theorem zA.free {H H':Hp}(e:zA H H'){l:ao}(h:H' l=Option.none):H l=Option.none:=by
 cases q:H l with
 |none=>rfl
 |some o=>
  rw[e l o q]at h
  cases h
theorem zA.seq {K:ae}{H H':Hp}{a:ao}{xs:List V}(e:zA H H')(h:yF K H a xs):yF K H' a xs:=by
 rcases h with(h|⟨o,h⟩)|h
 ·exact .inl (.inl (e _ _ h))
 ·exact .inl (.inr ⟨o,e _ _ h⟩)
 ·exact .inr h
end L2
end
section
namespace L2
open PySem
section
variable{env:Env}
theorem zBm:∀(l:List (Str×iC)) (d:List (Str×ao)),(∀x∈l,x.2=.free->∃c,env.cells.lookup x.1=some c)->(∀x c,d.lookup x=some c->env.cells.lookup x=some c)->
  ∃f,(forIn l d (fun x r=>if(x.2==NameKind.free)=true then do let a<-cellOf env x.1;pure (ForInStep.yield ((x.1,a)::r))else pure (ForInStep.yield r)):Sem (List (Str×ao)))=pure f/\
   (∀x c,f.lookup x=some c->env.cells.lookup x=some c)/\∀x,((x,NameKind.free)∈l\/∃c,d.lookup x=some c)->∃c,f.lookup x=some c
 | [],d,_,j=>⟨d,rfl,j,fun x h=>h.elim (fun z=>by cases z) id⟩
 |(n,k)::l,d,h,j=>by
  have hl:∀x∈l,x.2=.free->∃c,env.cells.lookup x.1=some c:=fun x b=>h x (ak _ b)
  rw[kr]
  by_cases m:k=.free
  ·subst m
   obtain⟨c,s⟩:=h (n,.free) (aj ..) rfl
   obtain⟨f,e,o,p⟩:=zBm l ((n,c)::d) hl fun x q z=>by
    by_cases b:x=n
    ·subst b
     rw[gf]at z
     cases z;exact s
    ·have g:(x==n)=false:=by simpa using b
     rw[bJ,g]at z
     exact j x q z
   refine⟨f,?_,o,fun x b=>p x ?_⟩
   ·have t:cellOf env n=pure c:=by unfold cellOf;rw[s]
    simp only[beq_self_eq_true,if_true,t,pure_bind]
    exact e
   ·rcases b with b|⟨q,b⟩
    ·rcases aH.mp b with b|b
     ·have:x=n:=(bW b).1
      subst this
      exact .inr ⟨c,gf⟩
     ·exact .inl b
    ·by_cases i:x=n
     ·subst i;exact .inr ⟨c,gf⟩
     ·have g:(x==n)=false:=by simpa using i
      exact .inr ⟨q,by rw[bJ,g];exact b⟩
  ·obtain⟨f,e,o,p⟩:=zBm l d hl j
   have u:(k==NameKind.free)=false:=by simpa using m
   refine⟨f,?_,o,fun x b=>p x ?_⟩
   ·simp only[u,cw,if_false,pure_bind]
    exact e
   ·rcases b with b|b
    ·rcases aH.mp b with b|b
     ·exact absurd (bW b).2.symm m
     ·exact .inl b
    ·exact .inr b
theorem zEz {scope:fi}(h:∀x∈scope.names,x.2=.free->∃c,env.cells.lookup x.1=some c) :
  ∃a,closureFor scope env=pure a/\(∀x c,a.lookup x=some c->env.cells.lookup x=some c)/\∀x,(x,NameKind.free)∈scope.names->∃c,a.lookup x=some c:=by
 obtain⟨a,e,b,d⟩:=zBm scope.names [] h (fun x c z=>by simp at z)
 refine⟨a,?_,b,fun x f=>d x (.inl f)⟩
 unfold closureFor
 dsimp only
 refine Eq.trans (congrArg (· >>=pure) ?_) (Eq.trans (congrArg (· >>=pure) e) (by simp))
 rfl
end
section
variable{prog:aL}{w:aU}{A:bS}{R:lF->ar->Prop}{s:ar}
theorem zFA {a target iter:bO}{b:List bO}{scope:fi}{pos:Pos}{g d:ah}{env:Env}(J:Nat->ar->Prop)
  (e:∀n s,J n s->wpAny (model prog w) A (pyNext g) (fun r i=>match r with
   |none=>R (.ok .next) i
   |some v=>wpAny (model prog w) A (letOwnedTupleGo target g v) (fun _ l=>wpAny (model prog w) A (assign target env v) (fun _ o=>
     wpAny (model prog w) A (forIn b true fun c r=>if r=true then do let ok<-isTrue c env (eval c env);pure (ForInStep.yield ok)else pure (ForInStep.yield r)) (fun ok j=>
      if ok=true then wpAny (model prog w) A (eval a env) (fun x p=>wpAny (model prog w) A (call (.builtin "list.append") [d,x]) (fun _ u=>∃m,m<n/\J m u) (fun _ _=>False) p) (fun _ _=>False) j
      else∃m,m<n/\J m j) (fun _ _=>False) o) (fun _ _=>False) l) (fun _ _=>False) i) (fun _ _=>False) s)
  (n:Nat) (h:J n s):codeAny (model prog w) A (.compLoop (.ListComp a [⟨target,iter,b,0⟩] scope pos) 0 g d env) R s:=by
 refine codeAny_loop rfl J (fun n s B=>?_) n h
 show wpAny _ A ((compTurn (.ListComp a [⟨target,iter,b,0⟩] scope pos) 0 g d env).onRaise (fun x=>noteFrame x env>>=fun _=>theTreesLotGoes x)) _ _ s
 refine wpAny_noted ?_
 have no:∀{α:Type} {t:Sem α} {Q:α->ar->Prop} {E:ah->ar->Prop} {s:ar},wpAny (model prog w) A t Q (fun _ _=>False) s->wpAny (model prog w) A t Q E s:=fun h=>b8 h (fun _ _ q=>q) fun _ _ f=>f.elim
 rw[compTurn_list]
 refine af (o8 (af (no (b8 (e n s B) (fun r i y=>?_) fun _ _ f=>f))))
 cases r with
 |none=>exact av y
 |some v=>
  refine af (no (b8 y (fun _ l C=>?_) fun _ _ f=>f))
  refine af (no (b8 C (fun _ o D=>?_) fun _ _ f=>f))
  refine af (no (b8 D (fun ok j z=>?_) fun _ _ f=>f))
  cases ok with
  |false=>exact av ⟨rfl,z⟩
  |true=>
   refine af (af (no (b8 z (fun x p F=>?_) fun _ _ f=>f)))
   exact af (no (b8 F (fun _ u G=>av (av ⟨rfl,G⟩)) fun _ _ f=>f))
end
end L2
end
section
namespace L2
open PySem PySem.Spec PyProof.Rows
theorem z6.track {P:aL}{w:aU}{H:Hp}{h:bx}{a:ao}{o:HO}(x:z6 P w H h)(d:H a=none)(new:yJ P w (upd H a o) h a o):z6 P w (upd H a o) h:=fun b u e=>by
 by_cases f:b=a
 ·subst f;rw[zE]at e;cases e;exact new
 ·rw[zG f]at e
  refine(x b u e).stay (fun c v _ q=>q) (fun c q=>?_) fun c xs q=>?_
  ·rw[zG (yI q d)];exact q
  ·rw[zG (yI q d)];exact q
theorem z6.but {P:aL}{w:aU}{H:Hp}{h h':bx}{C:ao}(x:z6 P w H h)(a:H C=none)(k:∀b u,b≠C->h.get? b=some u->h'.get? b=some u):z6 P w H h':=fun b u e=>by
 refine(x b u e).stay (fun c v d q=>k c v ?_ q) (fun _ q=>q) fun _ _ q=>q
 rintro rfl
 rcases d with z|z
 ·rw[z,e]at a;cases a
 ·rw[z]at a;cases a
theorem zFB {env:Env}:∀{names:List (Str×iC)}{x:Str},names.lookup x=some .free->
  (names.map fun(n,k)=>if(k==NameKind.free&&env.scope.kind== .function&&env.kindOf n==some .cell)then(n,NameKind.cell)else(n,k)).lookup x=some .cell\/
  (names.map fun(n,k)=>if(k==NameKind.free&&env.scope.kind== .function&&env.kindOf n==some .cell)then(n,NameKind.cell)else(n,k)).lookup x=some .free
 | [],_,h=>by simp at h
 |(n,k)::r,x,h=>by
  rw[aC]
  cases a:x==n with
  |true=>
   rw[bJ,a]at h
   cases h
   dsimp only
   split
   ·left;rw[bJ,a]
   ·right;rw[bJ,a]
  |false=>
   rw[bJ,a]at h
   have ih:=zFB (env:=env) h
   dsimp only
   split
   ·rw[bJ,a];exact ih
   ·rw[bJ,a];exact ih
theorem zFC {env:Env}:∀{names:List (Str×iC)}{x:Str}{a:iC},(a=.cell\/a=.free)->
  (names.map fun(n,k)=>if(k==NameKind.free&&env.scope.kind== .function&&env.kindOf n==some .cell)then(n,NameKind.cell)else(n,k)).lookup x=some a->∃k,(x,k)∈names/\(k=.cell\/k=.free)
 | [],_,_,_,h=>by simp at h
 |(n,k)::r,x,a,c,h=>by
  rw[aC]at h
  cases b:x==n with
  |true=>
   have e:x=n:=by simpa using b
   subst e
   dsimp only at h
   split at h
   ·rename_i d
    have:k=.free:=by
     rw[bH,bH]at d
     simpa using d.1.1
    exact⟨k,aj ..,.inr this⟩
   ·rw[bJ,b]at h
    cases h
    exact⟨k,aj ..,c⟩
  |false=>
   have h':(r.map fun(n,k)=>if(k==NameKind.free&&env.scope.kind== .function&&env.kindOf n==some .cell)then(n,NameKind.cell)else(n,k)).lookup x=some a:=by
    dsimp only at h
    split at h
    ·rw[bJ,b]at h;exact h
    ·rw[bJ,b]at h;exact h
   obtain⟨f,g,i⟩:=zFC (env:=env) c h'
   exact⟨f,ak _ g,i⟩
def yP (X:Cx)(N:List Str)(scope:fi)(cl:List (Str×ao))(C:ao)(s:ar)(H:Hp)(ex:List ao):Cx where
 prog:=X.prog
 w:=X.w
 K:=X.K
 mg:=X.mg
 base:=X.base
 A:=X.A
 N:=N
 s₀:=s
 H₀:=H
 env:=compEnvC scope cl C X.env
 outer:=X.stack
 stack:=X.stack
 ex:=ex
 fn:=fun _=>false
 calm:=X.calm
 pn:=[]
 xe:=fun _ _=>False
structure CompScope (sc:fi) (XN N:List Str) (scope:fi) (caps:List Nat):Prop where
 kind:scope.kind=.function
 nd:N.Nodup
 nocell:∀y∈scope.names,y.2≠.cell
 names:∀y∈scope.names,y.2=.local->scope.names.lookup y.1=some .local
 free:∀y∈scope.names,y.2=.free->sc.names.lookup y.1=some .cell\/sc.names.lookup y.1=some .free
 cap:∀(i:Nat),i<caps.length->∃x,N[i]?=some x/\XN[caps.getD i 0]?=some x/\scope.names.lookup x=some .free/\(sc.names.lookup x=some .cell\/sc.names.lookup x=some .free)
 len:caps.length<=N.length
def vL (caps:List Nat)(n:Nat)(σ:St):St:=caps.map (fun j=>(σ[j]?).join)++aD (n-caps.length) none
def PF (X:Cx)(ifs:List bO)(tc:TT):Prop :=
 ∀(pins:List (ao×Obj)) (s:ar) (σ:St) (H:Hp) (Q:Bool->Hp->Prop),Inv X pins σ H s->tc σ H Q->
  wpAny (model X.prog X.w) X.A (forIn ifs true fun c r=>if r=true then do let ok<-isTrue c X.env (eval c X.env);pure (ForInStep.yield ok)else pure (ForInStep.yield r)) (TP X pins σ Q) X.xe s
def j3:TT:=fun _ H Q=>Q true H
theorem uY {X:Cx}:PF X [] j3:=fun a s σ H Q I h=>by
 rw[lH]
 exact av ⟨H,I,h⟩
theorem q8 {X:Cx}{c:bO}{b:TT}(d:PT X c b):PF X [c] b:=fun a s σ H Q I h=>by
 rw[kr]
 refine af ?_
 rw[if_pos rfl]
 refine af (zH (d a s σ H Q I h) fun ok e q=>av ?_)
 show wpAny _ _ (forIn [] ok _) _ _ _
 rw[lH]
 exact av q
def zBn (wi:TI)(g:TG)(tc:TT)(te:TE)(caps:List Nat)(n:Nat):TE:=fun σ H Q=>wi σ H fun J H1=>∃W:Nat->Nat->List V->St->Hp->Prop,(∃m,W 0 m [] (vL caps n σ) H1)/\∀i m acc σ' H',W i m acc σ' H'->
 (J.stop i H'/\∀D,H' D=none->Q (.ref D) (upd H' D (.lst acc)))\/
 (J.go i H'/\acc.length<sizeLine/\∀x H2,J.yld i H' x H2->g x σ' H2 fun σ2 H3=>tc σ2 H3 fun b H4=>if b=true then te σ2 H4 fun y H5=>∃m',m'<m/\W (i+1) m' (acc++[y]) σ2 H5 else∃m',m'<m/\W (i+1) m' acc σ2 H4)
section
variable{X:Cx}{pins:List (ao×Obj)}{σ:St}{H:Hp}{s:ar}{N:List Str}{scope:fi}{cl:List (Str×ao)}{C:ao}{fp:List ao}{caps:List Nat}
theorem zFD (I:Inv X pins σ H s)(S:CompScope X.env.scope X.N N scope caps)(g:∀x c,cl.lookup x=some c->X.env.cells.lookup x=some c)(n:∀x,(x,NameKind.free)∈scope.names->∃c,cl.lookup x=some c)
  (l:s.heap.objs.size<=C) (h:∀b∈fp,uI X pins H b) (i:∀b∈fp,b<s.heap.objs.size):(yP X N scope cl C s H fp).Ok where
 mod:=I.ok.mod
 kind:=S.kind
 glob:=I.ok.glob
 blt:=I.ok.blt
 above:=l
 inj:=fun x y c a b=>I.ok.inj x y c (g x c a) (g y c b)
 has:=fun x p=>by
  have j:∃f,(f=NameKind.cell\/f=.free)/\(relabel scope X.env).names.lookup x=some f:=by
   rcases p with z|z
   ·exact⟨_,.inl rfl,z⟩
   ·exact⟨_,.inr rfl,z⟩
  obtain⟨f,q,z⟩:=j
  obtain⟨k,m,e⟩:=zFC q z
  rcases e with e|e
  ·exact absurd e (S.nocell _ m)
  ·subst e;exact n x m
 cab:=fun x c z=>by cases z
 hd:=I.ok.hd
 frames:=I.ok.frames
 stk:=.inl rfl
 exf:=fun b d=>by
  obtain⟨_,_,_,_,r,_⟩:=h b d
  exact⟨aS (bp (i b d) l),fun x c e=>r x c (g x c e)⟩
 bs:=I.bs
 bsz:=eP I.ok.bsz I.sz
 noex:=fun b o e d=>by
  obtain⟨_,_,_,t,_⟩:=h b d
  rcases t with z|z
  ·exact I.ok.noex b o e z
  ·exact absurd (bp (aE e) (eP I.ok.bsz z)) (bE _)
 exfs:=fun b d z=>by
  obtain⟨_,f1,f2,_⟩:=h b d
  rcases aH.mp (I.stkSub b z)with e|e
  ·exact f1 e
  ·exact f2 e
 funs:=I.stack
 frf:=I.stkFree
theorem zFE {j:bx}{D:ao}{od:Obj}{t:Nat}{m:Str->Option ah}(I:Inv X pins σ H s)(ok:(yP X N scope cl C s H fp).Ok)(S:CompScope X.env.scope X.N N scope caps)
  (g:∀x c,cl.lookup x=some c->X.env.cells.lookup x=some c) (n:∀x,(x,NameKind.free)∈scope.names->∃c,cl.lookup x=some c)
  (keep:∀b o,s.heap.get? b=some o->j.get? b=some o) (P:j.Ns C m) (Q:s.heap.objs.size<=C) (R:j.get? D=some od) (w:s.heap.objs.size<=D) (B:D≠C) (E:∀v,od.data≠.cell v) :
  Inv (yP X N scope cl C s H fp) [(D,od)] (vL caps N.length σ) H {s with heap:=j,toks:=t}:=by
 have a:∀x c,cl.lookup x=some c->∀v,s.heap.IsCell c v->j.IsCell c v:=fun x c e v ⟨o,F,hd⟩=>⟨o,keep c o F,hd⟩
 refine⟨ok,rfl,I.bare,Un.kept keep,⟨m,P,fun i x v e1 f e3=>?_⟩,fun x c e=>?_,I.hok.fresh Q,fun x c e=>I.freeC x c (g x c e),fun p T=>?_,I.hok.kept keep,?_⟩
 ·have hi:i<caps.length:=by
   by_cases hi:i<caps.length
   ·exact hi
   ·exfalso
    unfold vL at f
    rw[bB (by simpa using hi),je]at f
    split at f<;>cases f
  obtain⟨y,U,W,L,M⟩:=S.cap i hi
  have G:x=y:=by
   have A:N[i]?=some x:=e1
   rw[U]at A;exact(aw A).symm
  subst G
  have Y:σ[caps.getD i 0]?=some (some v):=by
   unfold vL at f
   rw[bU (by simpa using hi),aq]at f
   have:caps[i]?=some (caps.getD i 0):=by rw[bY];simp[hi]
   rw[this]at f
   have d:(σ[caps.getD i 0]?).join=some v:=by simpa using f
   cases q:σ[caps.getD i 0]? with
   |none=>rw[q]at d;cases d
   |some z=>rw[q]at d;have:z=some v:=d;rw[this]
  obtain⟨m',_,hl⟩:=I.loc
  obtain⟨u,r,l⟩:=hl _ x v W Y (M.elim (fun z=>.inr (.inl z)) fun z=>.inr (.inr z))
  refine⟨u,r,?_⟩
  have nl:X.env.kindOf x≠some .local:=by
   rcases M with z|z
   ·show X.env.scope.names.lookup x≠_;rw[z];decide
   ·show X.env.scope.names.lookup x≠_;rw[z];decide
  rcases l with⟨k,_⟩|⟨_,c,Z,z⟩
  ·exact absurd k nl
  ·obtain⟨O,h⟩:=n x (dD L)
   have:c=O:=aw (Z.symm.trans (g x O h))
   subst this
   refine .inr ⟨?_,c,h,a x c h _ z⟩
   exact zFB (env:=X.env) L
 ·obtain⟨v,z⟩:=I.cell x c (g x c e)
  exact⟨v,a x c e v z⟩
 ·have:p=(D,od):=by
   have J:p∈[(D,od)]:=T
   simpa using J
  subst this
  refine⟨R,I.hok.fresh w,B,fun z=>?_,E⟩
  have z':D∈vU X.stack:=z
  obtain⟨_,o,F,_⟩:=I.stack.mem z'
  exact absurd (bp (aE F) w) (bE _)
 ·unfold vL
  show _=N.length
  rw[aI,aa,dU]
  have:=S.len
  omega
end
section
variable{X:Cx}
theorem vM {tg iter elt:bO}{ifs:List bO}{scope:fi}{pos:Pos}{wi:TI}{g:TG}{tc:TT}{te:TE}{N:List Str}{caps:List Nat}(hc:X.calm=true)(S:CompScope X.env.scope X.N N scope caps)
  (hi:PI X tg iter wi) (hg:∀cl C s H ex,PG (yP X N scope cl C s H ex) tg g) (hf:∀cl C s H ex,PF (yP X N scope cl C s H ex) ifs tc) (he:∀cl C s H ex,PE (yP X N scope cl C s H ex) elt te)
  (hs:∀x,foldedSetIterable iter X.env x=pure x:=by intro _;rfl):PE X (.ListComp elt [⟨tg,iter,ifs,0⟩] scope pos) (zBn wi g tc te caps N.length):=by
 intro pins s σ H Q I h
 obtain⟨cl,hcl,hcl1,hcl2⟩:=zEz (env:=X.env) (scope:=scope) fun y hy e=>I.ok.has y.1 (S.free y hy e)
 rw[eval_ListComp]
 refine i0 (use:=none) rfl hs hcl S.kind S.names (zH (hi pins s σ H _ I h) fun v s1 h1=>zH h1 fun itv s2 h2=>?_)
 obtain⟨it,fp,tn,J,H2,e,I2,T,st2,f2,W,⟨m0,w0⟩,turn⟩:=h2
 subst e
 refine cG (lI S.nocell (by intro y hy;simp at hy) (fun h₁ hns hsb=>?_) S.kind)
 dsimp only at hns hsb⊢
 generalize hG:s2.heap.push {cls:=.type "list",dict:=none,data:=.seq ([]:List ah).toArray}=G at hns hsb⊢
 have hCs:G.objs.size=s2.heap.objs.size+1:=by rw[<-hG,bF]
 have hDC:s2.heap.objs.size≠G.objs.size:=by rw[hCs];exact aS (b6 _)
 have old:∀b o,s2.heap.get? b=some o->h₁.get? b=some o:=fun b o e=>by
  have hb:=aE e
  refine hsb.extBut b o (by rw[hCs];exact aS (bC hb)) (ag _ ?_)
  rw[<-hG]
  exact ag _ e
 have hD:h₁.get? s2.heap.objs.size=some {cls:=.type "list",dict:=none,data:=.seq ([]:List ah).toArray}:=by
  refine hsb.extBut _ _ hDC (ag _ ?_)
  rw[<-hG]
  exact aB _ rfl
 have hfo:∀b∈fp,b<s2.heap.objs.size:=fun b hb=>let⟨o,e,_⟩:=T.obj 0 _ st2 b hb;aE e
 have hCle:s2.heap.objs.size<=G.objs.size:=by omega
 have ok:=zFD (C:=G.objs.size) I2 S hcl1 hcl2 hCle f2 hfo
 have I0:Inv (yP X N scope cl G.objs.size s2 H2 fp) [(s2.heap.objs.size,{cls:=.type "list",dict:=none,data:=.seq ([]:List ah).toArray})] (vL caps N.length σ) H2 {s2 with heap:=h₁,toks:=s2.toks+([]:List (Str×ah)).length} :=
  zFE I2 ok S hcl1 hcl2 old hns hCle hD (ay _) hDC (fun v z=>by cases z)
 have st1:tn 0 h₁:=T.keep 0 _ _ st2 fun b _ o e=>old b o e
 generalize hX:yP X N scope cl G.objs.size s2 H2 fp=X' at I0
 generalize hDa:s2.heap.objs.size=D at I0 hD hDC
 have loop:codeAny (model X.prog X.w) X.A (.compLoop (.ListComp elt [⟨tg,iter,ifs,0⟩] scope pos) 0 (.ref it) (.ref D) (compEnvC scope cl G.objs.size X.env)) (compPost (model X.prog X.w) X.A X.xe none (EP X pins σ Q) (.ref D) G.objs.size)
   {s2 with heap:=h₁,toks:=s2.toks+([]:List (Str×ah)).length}:=by
  subst hX
  refine zFA (J:=fun n s'=>∃i σ' H' acc its e,Inv (yP X N scope cl G.objs.size s2 H2 fp) [(D,{cls:=.type "list",data:=.seq (fA its) e})] σ' H' s'/\zN acc its/\acc.length<=sizeLine/\tn i s'.heap/\(∀b∈fp,H' b=none)/\W i n acc σ' H')
   ?_ m0 ⟨0,_,H2,[],[],0,I0,.nil,bD _,st1,fun b hb=>(f2 b hb).1,w0⟩
  rintro n s3 ⟨i,σ3,H3,acc,its,ep,I3,rv,hz,st3,fr3,w3⟩
  have stat:∀{H':Hp} {pl:List (ao×Obj)},(∀b∈fp,H' b=none)->(∀p∈pl,p.1=D)->∀b∈fp,uI (yP X N scope cl G.objs.size s2 H2 fp) pl H' b:=fun{H' pl} hn hpl b hb=>by
   obtain⟨a1,a2⟩:=ok.exf b hb
   exact⟨hn b hb,a1,ok.exfs b hb,.inl hb,fun x c e=>a2 x c e,fun p hp=>by
    have hp':p∈pl:=hp
    rw[hpl p hp',<-hDa]
    exact dj (hfo b hb)⟩
  have one:∀p∈[(D,({cls:=.type "list",data:=.seq (fA its) ep}:Obj))],p.1=D:=fun p hp=>by
   rcases aH.mp hp with e|e
   ·rw[e]
   ·cases e
  have pinD:∀{pl:List (ao×Obj)} {σ':St} {H':Hp} {s':ar} {o:Obj},Inv (yP X N scope cl G.objs.size s2 H2 fp) pl σ' H' s'->(D,o)∈pl->s'.heap.get? D=some o/\H' D=none:=fun{pl σ' H' s' o} I' hm=>by
   obtain⟨a,b,_⟩:=I'.pin (D,o) (aP _ hm)
   exact⟨a,b⟩
  rcases turn i n acc σ3 H3 w3 with⟨stop,q⟩|⟨go,hlt,step⟩
  ·refine b8 (T.done (yP X N scope cl G.objs.size s2 H2 fp) rfl rfl rfl hc i _ s3 σ3 H3 (fun _ _=>False) I3 (stat fr3 one) st3 stop) (fun r s4 ⟨hr,I4⟩=>?_) fun _ _ f=>f
   subst hr
   obtain⟨hDo,hDn⟩:=pinD I4 (aj ..)
   obtain⟨m4,hm4,_⟩:=I4.loc
   refine⟨m4,hm4,fun h' hsb'=>?_⟩
   have keepC:∀b u,b≠G.objs.size->s4.heap.get? b=some u->h'.get? b=some u:=fun b u hb e=>hsb'.extBut b u hb e
   have un:Un (vU X.stack) fp H2 H3 s2.heap s4.heap:=I4.base
   have hDo':h'.get? D=some {cls:=.type "list",data:=.seq (fA its) ep}:=keepC D _ hDC hDo
   have hlow:∀b (o:Obj),s2.heap.get? b=some o->b≠G.objs.size/\b≠D:=fun b o e=>by
    have h0:=aE e
    exact⟨by rw[hCs];exact aS (bC h0),by rw[<-hDa];exact aS h0⟩
   have un':Un (vU X.stack) fp H2 (upd H3 D (.lst acc)) s2.heap h' :=
    ⟨fun b o e n' hb hx=>keepC b o (hlow b o e).1 (un.keep b o e n' hb hx),
     fun b o e n' hb hx=>let⟨sl,q⟩:=un.slot b o e n' hb hx;⟨sl,keepC b _ (hlow b o e).1 q⟩,
     fun b o e n' hx=>by rw[zG (hlow b o e).2];exact un.free b o e n' hx,
     fun b o e hx=>let⟨o',q⟩:=un.there b o e hx;⟨o',keepC b _ (hlow b o e).1 q⟩,
     fun b xs e=>by rw[zG (yI (un.tups b xs e) hDn)];exact un.tups b xs e,
     fun b o u e=>by rw[zG (yI (un.frzs b o u e) hDn)];exact un.frzs b o u e,
     fun b ps e=>let⟨mo,q⟩:=un.tbls b ps e;⟨mo,by rw[zG (yI q hDn)];exact q⟩⟩
   have hok:z6 X.prog X.w (upd H3 D (.lst acc)) h':=(I4.hok.but I4.free keepC).track hDn ⟨hz,its,ep,rv,hDo'⟩
   refine⟨.ref D,upd H3 D (.lst acc),I2.call' (s':={s4 with heap:=h'}) I4.os un' hok I4.bare (fun b hb=>?_),rfl,q D hDn⟩
   obtain⟨_,f1,_,f3,f4,f5⟩:=f2 b hb
   exact⟨f3,f1,f4,f5⟩
  ·refine b8 (T.item (yP X N scope cl G.objs.size s2 H2 fp) rfl rfl rfl hc i _ s3 σ3 H3 (fun _ _=>False) I3 (stat fr3 one) st3 go) (fun r s4 ⟨u,hr,h4⟩=>?_) fun _ _ f=>f
   subst hr
   refine zH h4 fun _ s5 ⟨x,H5,I5,r5,y5,st5,fr5⟩=>?_
   have I5':=I5.pinned (stat fr5 one) (T.obj _ _ st5)
   refine zH (hg cl G.objs.size s2 H2 fp _ s5 σ3 H5 x u _ I5' r5 (step x H5 y5)) fun _ s6 ⟨σ6,H6,I6,q6⟩=>?_
   refine zH (hf cl G.objs.size s2 H2 fp _ s6 σ6 H6 _ I6 q6) fun b s7 ⟨H7,I7,q7⟩=>?_
   have fin:∀{pl:List (ao×Obj)} {σ':St} {H':Hp} {s':ar},Inv (yP X N scope cl G.objs.size s2 H2 fp) (pl++kP fp s5.heap) σ' H' s'->tn (i+1) s'.heap/\∀b∈fp,H' b=none:=fun{pl σ' H' s'} I'=>by
    refine⟨T.keep _ _ _ st5 fun b hb o e=>(I'.pin (b,o) (aP _ (aP _ (jV hb e)))).1,fun b hb=>?_⟩
    obtain⟨o,e,_⟩:=T.obj _ _ st5 b hb
    exact(I'.pin (b,o) (aP _ (aP _ (jV hb e)))).2.1
   cases b with
   |false=>
    rw[if_neg aT]at q7⊢
    obtain⟨m',hm,w7⟩:=q7
    obtain⟨a1,a2⟩:=fin I7
    exact⟨m',hm,i+1,σ6,H7,acc,its,ep,I7.unpinned,rv,hz,a1,a2,w7⟩
   |true=>
    rw[if_pos rfl]at q7⊢
    refine zH (he cl G.objs.size s2 H2 fp _ s7 σ6 H7 _ I7 q7) fun y s8 ⟨yv,H8,I8,r8,m',hm,w8⟩=>?_
    obtain⟨a1,a2⟩:=fin I8
    obtain⟨b1,b2⟩:=pinD I8 (bG _ (aj ..))
    have hl:=rv.length
    refine gj iD ⟨_,b1,rfl⟩ ie (gp _ _) (iU D its.toArray ep y (by rw[bq];omega)) ⟨b1,?_⟩
    have q9:=jh b1 (·.push y)
    have kp:∀b o,b≠D->s8.heap.get? b=some o->(s8.heap.update D (cu (·.push y))).get? b=some o:=fun b o hb e=>(bw s8.heap (cu (·.push y)) (dS hb)).trans e
    have I9:Inv (yP X N scope cl G.objs.size s2 H2 fp) [] σ6 H8 {s8 with heap:=s8.heap.update D (cu (·.push y))} :=
     (I8.pins_of (pins':=[]) fun p hp=>by cases hp).turned (t':=s8.toks) kp b2 hDC (.inr (by rw[<-hDa];exact ay _)) (fun x c e z=>by
      have e':X.env.cells.lookup x=some c:=hcl1 x c e
      obtain⟨v',hv'⟩:=I2.cell x c e'
      have h0:=hv'.lt
      rw[z,<-hDa]at h0
      exact bE _ h0) fun p hp=>by
       have:p∈([]:List (ao×Obj)):=hp
       cases this
    have hpu:its.toArray.push y=(its++[y]).toArray:=by simp
    rw[hpu]at q9
    obtain⟨e9,q9⟩:∃e9,(s8.heap.update D (cu (·.push y))).get? D=some {cls:=.type "list",data:=.seq (its++[y]).toArray e9}:=⟨_,q9⟩
    refine⟨m',hm,i+1,σ6,H8,acc++[yv],its++[y],e9,I9.pins_of fun p hp=>?_,rv.append (.cons r8 .nil),?_,T.keep _ _ _ a1 fun b hb o e=>kp b o ?_ e,a2,w8⟩
    ·obtain rfl:p=(D,{cls:=.type "list",data:=.seq (its++[y]).toArray e9}):=by
      rcases aH.mp hp with e|e
      ·exact e
      ·cases e
     obtain⟨_,_,c3,c4,_⟩:=I8.pin (D,_) (aP _ (bG _ (aj ..)))
     exact⟨q9,b2,c3,c4,fun v z=>by cases z⟩
    ·rw[aI,cK];omega
    ·rintro rfl
     have h0:=hfo b hb
     rw[hDa]at h0
     exact bE _ h0
 exact kb loop (T.self X.A 0 _ _ _ st1 loop)
end
theorem zA.seqT {K:ae}{H H':Hp}{a:ao}{xs:List V}(e:zA H H')(h:yE K H a xs):yE K H' a xs:=by
 rcases h with(h|⟨o,h⟩)|h
 ·exact .inl (.inl (e _ _ h))
 ·exact .inl (.inr ⟨o,e _ _ h⟩)
 ·exact .inr h
mutual
def yT (K:ae)(H:Hp):dN->V->Prop
 | .none,v=>v=.non
 | .bool b,v=>v=.bl b
 | .int i,v=>v=.int i
 | .str x,v=>v=.str x
 | .list ds,v=>∃a xs,v=.ref a/\yF K H a xs/\Reps K H ds xs
 | .tuple ds,v=>∃a xs,v=.ref a/\yE K H a xs/\Reps K H ds xs
 | .dict _,_=>False
def Reps (K:ae)(H:Hp):List dN->List V->Prop
 | [],xs=>xs=[]
 |d::ds,xs=>∃y ys,xs=y::ys/\yT K H d y/\Reps K H ds ys
end
mutual
theorem yT.same {K:ae}{H H':Hp}(e:zA H H'):∀(d:dN) (v:V),yT K H d v->yT K H' d v
 | .none,v,h=>h
 | .bool b,v,h=>h
 | .int i,v,h=>h
 | .str x,v,h=>h
 | .list ds,v,h=>by
  obtain⟨a,xs,c,f,g⟩:=h
  exact⟨a,xs,c,e.seq f,Reps.same e ds xs g⟩
 | .tuple ds,v,h=>by
  obtain⟨a,xs,c,f,g⟩:=h
  exact⟨a,xs,c,e.seqT f,Reps.same e ds xs g⟩
 | .dict _,v,h=>h
theorem Reps.same {K:ae}{H H':Hp}(e:zA H H'):∀(ds:List dN) (xs:List V),Reps K H ds xs->Reps K H' ds xs
 | [],xs,h=>h
 |d::ds,xs,h=>by
  obtain⟨y,ys,a,b,c⟩:=h
  exact⟨y,ys,a,yT.same e d y b,Reps.same e ds ys c⟩
end
theorem Reps.length {K:ae}{H:Hp}:∀{ds:List dN}{xs:List V},Reps K H ds xs->ds.length=xs.length
 | [],xs,h=>by rw[show xs=[]from h];rfl
 |d::ds,xs,h=>by
  obtain⟨y,ys,a,_,b⟩:=h
  rw[a,aX,aX,Reps.length b]
theorem Reps.get {K:ae}{H:Hp}:∀{ds:List dN}{xs:List V}{i:Nat}{y:V},Reps K H ds xs->xs[i]?=some y->∃d,ds[i]?=some d/\yT K H d y
 | [],xs,i,y,h,e=>by rw[show xs=[]from h]at e;simp at e
 |d::ds,xs,i,y,h,e=>by
  obtain⟨z,g,a,b,c⟩:=h
  subst a
  cases i with
  |zero=>
   have:z=y:=by simpa using e
   subst this
   exact⟨d,rfl,b⟩
  |succ i=>
   obtain⟨d',e1,f⟩:=Reps.get (i:=i) c (by simpa using e)
   exact⟨d',by simpa using e1,f⟩
theorem Reps.append {K:ae}{H:Hp}:∀{ds a:List dN}{xs ys:List V},Reps K H ds xs->Reps K H a ys->Reps K H (ds++a) (xs++ys)
 | [],a,xs,ys,h,h'=>by rw[show xs=[]from h];exact h'
 |d::ds,a,xs,ys,h,h'=>by
  obtain⟨z,b,c,e,f⟩:=h
  subst c
  exact⟨z,b++ys,rfl,e,Reps.append f h'⟩
theorem Reps.one {K:ae}{H:Hp}{d:dN}{v:V}(h:yT K H d v):Reps K H [d] [v]:=⟨v,[],rfl,h,rfl⟩
theorem Reps.drop {K:ae}{H:Hp}:∀{ds:List dN}{xs:List V} (k:Nat),Reps K H ds xs->Reps K H (ds.drop k) (xs.drop k)
 | [],xs,k,h=>by rw[show xs=[]from h];simp[Reps]
 |d::ds,xs,0,h=>h
 |d::ds,xs,k+1,h=>by
  obtain⟨z,c,a,_,b⟩:=h
  subst a
  exact Reps.drop k b
theorem Reps.take {K:ae}{H:Hp}:∀{ds:List dN}{xs:List V} (k:Nat),Reps K H ds xs->Reps K H (ds.take k) (xs.take k)
 | [],xs,k,h=>by rw[show xs=[]from h];simp[Reps]
 |d::ds,xs,0,h=>by simp[Reps]
 |d::ds,xs,k+1,h=>by
  obtain⟨z,a,b,c,e⟩:=h
  subst b
  exact⟨z,a.take k,rfl,c,Reps.take k e⟩
theorem Reps.strs {K:ae}{H:Hp}:∀{ss:List Str}{xs:List V},Reps K H (ss.map PyData.str) xs↔xs=ss.map V.str
 | [],xs=>Iff.rfl
 |s::ss,xs=>by
  constructor
  ·rintro⟨y,ys,b,c,d⟩
   have a:y=.str s:=c
   rw[b,a,Reps.strs.mp d];rfl
  ·intro e
   exact⟨.str s,ss.map V.str,e,rfl,Reps.strs.mpr rfl⟩
section
variable{X:Cx}{pins:List (ao×Obj)}{σ:St}{H:Hp}{s:ar}
mutual
theorem yT.reads (I:Inv X pins σ H s):∀(d:dN) (v:V) (u:ah),yT X.K H d v->zS v u->∃as,Reads s.heap u d as
 | .none,v,u,h,r=>by
  have h':v=.non:=h
  subst h'
  cases r
  exact⟨_,.none⟩
 | .bool b,v,u,h,r=>by
  have h':v=.bl b:=h
  subst h'
  cases r
  exact⟨_,.bool b⟩
 | .int i,v,u,h,r=>by
  have h':v=.int i:=h
  subst h'
  obtain⟨t,rfl⟩:=r
  exact⟨_,.int i t⟩
 | .str x,v,u,h,r=>by
  have h':v=.str x:=h
  subst h'
  obtain⟨t,rfl⟩:=r
  exact⟨_,.str x t⟩
 | .list ds,v,u,h,r=>by
  obtain⟨a,xs,c,f,g⟩:=h
  subst c
  cases r
  obtain⟨its,j,⟨o,n,e,l,_,hd⟩,_⟩:=I.list f
  obtain⟨as,ra⟩:=Reps.reads I ds xs its g j
  exact⟨_,.list e l hd (by simpa using ra)⟩
 | .tuple ds,v,u,h,r=>by
  obtain⟨a,xs,c,f,g⟩:=h
  subst c
  cases r
  obtain⟨its,j,⟨o,e,l,n,hd⟩,_⟩:=I.tuple f
  obtain⟨as,ra⟩:=Reps.reads I ds xs its g j
  exact⟨_,.tuple e l hd (by simpa using ra)⟩
 | .dict _,v,u,h,r=>h.elim
theorem Reps.reads (I:Inv X pins σ H s):∀(ds:List dN) (xs:List V) (a:List ah),Reps X.K H ds xs->zN xs a->∃as,ReadsAll s.heap a ds as
 | [],xs,a,h,r=>by
  have h':xs=[]:=h
  subst h'
  cases r
  exact⟨_,.nil⟩
 |d::ds,xs,a,h,r=>by
  obtain⟨y,ys,b,c,e⟩:=h
  subst b
  cases r with
  |cons f g=>
   obtain⟨as,ra⟩:=yT.reads I d y _ c f
   obtain⟨bs,i⟩:=Reps.reads I ds ys _ e g
   exact⟨_,.cons ra i⟩
end
def zBo (K:ae)(neg:Bool):R2:=fun x y H Q=>∃d e,yT K H d x/\yT K H e y/\eV d=true/\eV e=true/\Q (.bl (if neg=true then !PyData.eqv d e else dO d e)) H
theorem zBp (a:X.A.units+64<cLine):yB X (compareOp .Eq) (zBo X.K false):=by
 intro pins s σ H x y v u Q I b c h
 obtain⟨d,e,f,g,i,j,q⟩:=h
 obtain⟨as,ra⟩:=yT.reads I d x v f b
 obtain⟨bs,l⟩:=yT.reads I e y u g c
 exact eq_dataH ra l i j a ⟨.bl _,H,I,rfl,q⟩
theorem qG (a:X.A.units+64<cLine):yB X (compareOp .NotEq) (zBo X.K true):=by
 intro pins s σ H x y v u Q I b c h
 obtain⟨d,e,f,g,i,j,q⟩:=h
 obtain⟨as,ra⟩:=yT.reads I d x v f b
 obtain⟨bs,l⟩:=yT.reads I e y u g c
 exact ne_dataH ra l i j a ⟨.bl _,H,I,rfl,q⟩
end
mutual
theorem zBq:∀d:dN,d.canLay0=true->dO d d=true
 | .none,_=>rfl
 | .bool b,_=>by simp[dO]
 | .int i,_=>by simp[dO]
 | .str x,_=>by simp[dO]
 | .list ds,h=>by
  have h':cI ds=true:=by simpa [fm]using h
  simp only[dO];exact eqvAll_refl ds h'
 | .tuple ds,h=>by
  have h':cI ds=true:=by simpa [fm]using h
  simp only[dO];exact eqvAll_refl ds h'
 | .dict _,h=>by simp[fm]at h
theorem eqvAll_refl:∀ds:List dN,cI ds=true->o9 ds ds=true
 | [],_=>rfl
 |d::ds,h=>by
  have h':d.canLay0=true/\cI ds=true:=by simpa [cI]using h
  simp only[o9,zBq d h'.1,eqvAll_refl ds h'.2,mi]
end
end L2
end
section
open PySem PySem.W PyProof.Rows
namespace MyS
def ev {α:Type}(lt:Nat->Nat->Bool):KasT α->α
 | .ret a=>a
 | .ask i j k=>ev lt (k (lt i j))
theorem kY {α β:Type}(lt:Nat->Nat->Bool)(f:α->KasT β):∀t:KasT α,ev lt (t.bind f)=ev lt (f (ev lt t))
 | .ret _=>rfl
 | .ask i j k=>kY lt f (k (lt i j))
def vN {α:Type}(lt:Nat->Nat->Bool)(N:Nat):KasT α->Prop
 | .ret _=>True
 | .ask i j k=>i<N/\j<N/\i≠j/\vN lt N (k (lt i j))
theorem kZ {α β:Type}{lt:Nat->Nat->Bool}{N:Nat}{f:α->KasT β}:∀(t:KasT α),vN lt N t->vN lt N (f (ev lt t))->vN lt N (t.bind f)
 | .ret _,_,h=>h
 | .ask i j k,h,h'=>⟨h.1,h.2.1,h.2.2.1,kZ (k (lt i j)) h.2.2.2 h'⟩
structure TotalOn (lt:Nat->Nat->Bool) (n:Nat):Prop where
 irr:∀i,i<n->lt i i=false
 tr:∀i j k,i<n->j<n->k<n->lt i j=true->lt j k=true->lt i k=true
 tot:∀i j,i<n->j<n->i≠j->lt i j=true\/lt j i=true
abbrev gg (p:Array Nat)(i:Nat):Nat:=p.getD i 0
def Pm (p:Array Nat)(n:Nat):Prop:=p.toList.Perm (ba n)
theorem Pm.size {p:Array Nat}{n:Nat}(h:Pm p n):p.size=n:=by
 have:=qm h
 simpa using this
theorem zAH {p:Array Nat}{i:Nat}(h:i<p.size):gg p i=p[i]:=by simp[gg,Array.getD,h]
theorem Pm.lt {p:Array Nat}{n i:Nat}(h:Pm p n)(hi:i<n):gg p i<n:=by
 have a:i<p.size:=by rw[h.size];exact hi
 have hm:p[i]∈ba n:=(qw h).mp (by simp)
 rw[zAH a]
 exact bz.mp hm
theorem Pm.ne {p:Array Nat}{n i j:Nat}(h:Pm p n)(hi:i<n)(d:j<n)(c:i≠j):gg p i≠gg p j:=by
 have a:i<p.size:=by rw[h.size];exact hi
 have b:j<p.size:=by rw[h.size];exact d
 have nd:p.toList.Nodup:=(qo h).mpr List.nodup_range
 rw[zAH a,zAH b]
 intro e
 apply c
 have f:p.toList[i]'(by simpa using a)=p.toList[j]'(by simpa using b):=by simpa using e
 exact(fw nd).mp f
theorem Pm.perm {p q:Array Nat}{n:Nat}(h:Pm p n)(e:q.Perm p):Pm q n:=(Array.perm_iff_toList_perm.mp e).trans h
def Up (lt:Nat->Nat->Bool)(p:Array Nat)(k:Nat):Prop:=∀i j,i<j->j<k->lt (gg p i) (gg p j)=true
def Dn (lt:Nat->Nat->Bool)(p:Array Nat)(k:Nat):Prop:=∀i j,i<j->j<k->lt (gg p j) (gg p i)=true
section
variable{lt:Nat->Nat->Bool}{N:Nat}{p:Array Nat}
theorem TotalOn.flip (O:TotalOn lt N){i j:Nat}(hi:i<N)(b:j<N)(a:i≠j)(h:lt i j=false):lt j i=true:=by
 rcases O.tot i j hi b a with h'|h'
 ·rw[h]at h';cases h'
 ·exact h'
theorem Up.more (O:TotalOn lt N)(P:Pm p N){n:Nat}(d:1<=n)(b:n<N)(u:Up lt p n)(h:lt (gg p (n-1)) (gg p n)=true):Up lt p (n+1):=by
 intro i j a f
 by_cases e:j=n
 ·subst e
  by_cases c:i=j-1
  ·subst c;exact h
  ·exact O.tr _ _ _ (P.lt (by omega)) (P.lt (by omega)) (P.lt b) (u i (j-1) (by omega) (by omega)) h
 ·exact u i j a (by omega)
theorem Dn.more (O:TotalOn lt N)(P:Pm p N){n:Nat}(d:1<=n)(b:n<N)(u:Dn lt p n)(h:lt (gg p n) (gg p (n-1))=true):Dn lt p (n+1):=by
 intro i j a f
 by_cases e:j=n
 ·subst e
  by_cases c:i=j-1
  ·subst c;exact h
  ·exact O.tr _ _ _ (P.lt b) (P.lt (by omega)) (P.lt (by omega)) h (u i (j-1) (by omega) (by omega))
 ·exact u i j a (by omega)
theorem zFF:Up lt p 1:=fun i j a b=>by omega
theorem zAn (O:TotalOn lt N)(P:Pm p N):∀(f n:Nat),1<=n->n+f<=N->Up lt p n->
  n<=ev lt (fX p f n)/\ev lt (fX p f n)<=n+f/\Up lt p (ev lt (fX p f n))/\(ev lt (fX p f n)<n+f->lt (gg p (ev lt (fX p f n))) (gg p (ev lt (fX p f n)-1))=true)
 |0,n,_,_,u=>⟨ay _,ay _,u,fun h=>absurd h (bE _)⟩
 |f+1,n,a,i,u=>by
  have e:ev lt (fX p (f+1) n)=ev lt (if lt (gg p n) (gg p (n-1))=true then KasT.ret n else fX p f (n+1)):=rfl
  rw[e]
  cases c:lt (gg p n) (gg p (n-1))with
  |true=>
   rw[if_pos rfl]
   exact⟨ay _,Nat.le_add_right _ _,u,fun _=>c⟩
  |false=>
   rw[if_neg (by simp)]
   have b:=O.flip (P.lt (by omega)) (P.lt (by omega)) (P.ne (by omega) (by omega) (by omega)) c
   obtain⟨j,l,d,g⟩:=zAn O P f (n+1) (by omega) (by omega) (u.more O P a (by omega) b)
   exact⟨by omega,by omega,d,fun h=>g (by omega)⟩
theorem zBr (P:Pm p N):∀(f n:Nat),1<=n->n+f<=N->vN lt N (fX p f n)
 |0,n,_,_=>trivial
 |f+1,n,a,b=>by
  refine⟨P.lt (by omega),P.lt (by omega),P.ne (by omega) (by omega) (by omega),?_⟩
  show vN lt N (if lt (gg p n) (gg p (n-1))=true then KasT.ret n else fX p f (n+1))
  split
  ·trivial
  ·exact zBr P f (n+1) (by omega) (by omega)
theorem zFG (O:TotalOn lt N)(P:Pm p N):∀(f n:Nat),1<=n->n+f<=N->vN lt N (eD f p n 0)
 |0,n,_,_=>trivial
 |f+1,n,b,e=>by
  refine⟨P.lt (by omega),P.lt (by omega),P.ne (by omega) (by omega) (by omega),?_⟩
  show vN lt N (if lt (gg p n) (gg p (n-1))=true then(if 0>0 then eD f (kc p (n- (0+1)) n) (n+1) 0 else eD f p (n+1) 0)
   else .ask (gg p (n-1)) (gg p n) fun d=>if d=true then .ret (p,n,0)else eD f p (n+1) (0+1))
  cases c:lt (gg p n) (gg p (n-1))with
  |true=>
   rw[if_pos rfl,if_neg (by omega)]
   exact zFG O P f (n+1) (by omega) (by omega)
  |false=>
   rw[if_neg (by simp)]
   have a:=O.flip (P.lt (by omega)) (P.lt (by omega)) (P.ne (by omega) (by omega) (by omega)) c
   refine⟨P.lt (by omega),P.lt (by omega),P.ne (by omega) (by omega) (by omega),?_⟩
   show vN lt N (if lt (gg p (n-1)) (gg p n)=true then KasT.ret (p,n,0)else eD f p (n+1) (0+1))
   rw[a,if_pos rfl]
   trivial
theorem zBs (O:TotalOn lt N)(P:Pm p N):∀(f n:Nat),1<=n->n+f<=N->Dn lt p n->
  ∃m,ev lt (eD f p n 0)=(p,m,0)/\n<=m/\m<=n+f/\Dn lt p m
 |0,n,_,_,u=>⟨n,rfl,ay _,ay _,u⟩
 |f+1,n,a,j,u=>by
  have e:ev lt (eD (f+1) p n 0)=ev lt (if lt (gg p n) (gg p (n-1))=true then(if 0>0 then eD f (kc p (n- (0+1)) n) (n+1) 0 else eD f p (n+1) 0)
   else .ask (gg p (n-1)) (gg p n) fun d=>if d=true then .ret (p,n,0)else eD f p (n+1) (0+1)):=rfl
  rw[e]
  cases c:lt (gg p n) (gg p (n-1))with
  |true=>
   rw[if_pos rfl,if_neg (by omega)]
   obtain⟨m,b,l,o,g⟩:=zBs O P f (n+1) (by omega) (by omega) (u.more O P a (by omega) c)
   exact⟨m,b,by omega,by omega,g⟩
  |false=>
   rw[if_neg (by simp)]
   have h:=O.flip (P.lt (by omega)) (P.lt (by omega)) (P.ne (by omega) (by omega) (by omega)) c
   have i:ev lt (.ask (gg p (n-1)) (gg p n) fun d=>if d=true then KasT.ret (p,n,0)else eD f p (n+1) (0+1))=ev lt (if lt (gg p (n-1)) (gg p n)=true then KasT.ret (p,n,0)else eD f p (n+1) (0+1)):=rfl
   rw[i,h,if_pos rfl]
   exact⟨n,rfl,ay _,by omega,u⟩
theorem zFH {m k:Nat}(hm:m<=p.size):gg (kc p 0 m) k=if k<m then gg p (m-1-k)else gg p k:=by
 have e:=getElem?_mirror_all (i:=0) hm k
 have a:∀(q:Array Nat) (x:Nat),gg q x=(q[x]?).getD 0:=fun q x=>by simp[gg]
 rw[a,a,a]
 show((mirror p 0 m ((m-0)/2))[k]?).getD 0=_
 rw[e]
 by_cases h:k<m
 ·rw[if_pos ⟨bD _,h⟩,if_pos h]
  simp
 ·rw[if_neg (fun z=>h z.2),if_neg h]
theorem zKM (P:Pm p N){m:Nat}(hm:m<=N)(d:Dn lt p m):Up lt (kc p 0 m) m:=by
 intro i j b c
 have a:m<=p.size:=by rw[P.size];exact hm
 rw[zFH a,zFH a,if_pos (by omega),if_pos c]
 exact d _ _ (by omega) (by omega)
theorem zBt (P:Pm p N)(i j:Nat):Pm (kc p i j) N:=P.perm (mirror_perm p i j _)
theorem zFI (O:TotalOn lt N)(P:Pm p N)(v:2<=N):∃m q,ev lt (nu N p)=(m,q)/\1<=m/\m<=N/\Pm q N/\Up lt q m:=by
 obtain⟨b,h,a,f⟩:=zAn O P (N-1) 1 (ay _) (by omega) zFF
 unfold nu
 rw[kY]
 generalize w:ev lt (fX p (N-1) 1)=n at b h a f
 by_cases e1:(n==N)=true
 ·rw[if_pos e1]
  exact⟨n,p,rfl,b,by omega,P,a⟩
 ·rw[if_neg e1]
  have l:n≠N:=by simpa using e1
  by_cases g:n>1
  ·rw[if_pos g]
   have c:lt (gg p 0) (gg p (n-1))=true:=a 0 (n-1) (by omega) (by omega)
   have o:ev lt (KasT.ask (p.getD 0 0) (p.getD (n-1) 0) fun c=>if c=true then KasT.ret (n,p)else il n N (kc p 0 n))=ev lt (if lt (gg p 0) (gg p (n-1))=true then KasT.ret (n,p)else il n N (kc p 0 n)):=rfl
   rw[o,c,if_pos rfl]
   exact⟨n,p,rfl,b,by omega,P,a⟩
  ·rw[if_neg g]
   have e:n=1:=by omega
   subst e
   have c:=f (by omega)
   have r:Dn lt p 2:=fun i j s x=>by
    have:i=0:=by omega
    have:j=1:=by omega
    subst i;subst j;exact c
   obtain⟨m,t,y,z,u⟩:=zBs O P (N-2) 2 (by omega) (by omega) r
   unfold il
   rw[kY]
   have d:ev lt (eD (N- (1+1)) p (1+1) 0)=(p,m,0):=t
   rw[d]
   dsimp only
   rw[if_neg (by omega)]
   unfold kas_tail3
   rw[kY]
   obtain⟨c1,c2,c3,_⟩:=zAn O (zBt P 0 m) (N-m) m (by omega) (by omega) (zKM P (by omega) u)
   exact⟨_,_,rfl,by omega,by omega,zBt P 0 m,c3⟩
theorem zKN (O:TotalOn lt N)(P:Pm p N)(s:2<=N):vN lt N (nu N p):=by
 obtain⟨g,h,b,d⟩:=zAn O P (N-1) 1 (ay _) (by omega) zFF
 unfold nu
 refine kZ _ (zBr P _ _ (ay _) (by omega)) ?_
 generalize t:ev lt (fX p (N-1) 1)=n at g h b d
 by_cases e1:(n==N)=true
 ·rw[if_pos e1];trivial
 ·rw[if_neg e1]
  have l:n≠N:=by simpa using e1
  by_cases f:n>1
  ·rw[if_pos f]
   have c:lt (gg p 0) (gg p (n-1))=true:=b 0 (n-1) (by omega) (by omega)
   refine⟨P.lt (by omega),P.lt (by omega),P.ne (by omega) (by omega) (by omega),?_⟩
   show vN lt N (if lt (gg p 0) (gg p (n-1))=true then KasT.ret (n,p)else il n N (kc p 0 n))
   rw[c,if_pos rfl]
   trivial
  ·rw[if_neg f]
   have e:n=1:=by omega
   subst e
   have c:=d (by omega)
   have o:Dn lt p 2:=fun i j q u=>by
    have:i=0:=by omega
    have:j=1:=by omega
    subst i;subst j;exact c
   obtain⟨m,r,v,w,x⟩:=zBs O P (N-2) 2 (by omega) (by omega) o
   unfold il
   refine kZ _ (zFG O P _ _ (by omega) (by omega)) ?_
   have a:ev lt (eD (N- (1+1)) p (1+1) 0)=(p,m,0):=r
   rw[a]
   dsimp only
   rw[if_neg (by omega)]
   unfold kas_tail3
   exact kZ _ (zBr (zBt P 0 m) _ _ (by omega) (by omega)) trivial
theorem zBu (P:Pm p N){k:Nat}(b:k<N):∀(f l r:Nat),r<=k->vN lt N (cO p k f l r)
 |0,l,r,_=>trivial
 |f+1,l,r,h=>by
  show vN lt N (if l>=r then KasT.ret l else .ask (p.getD k 0) (p.getD ((l+r)/2) 0) fun c=>if c=true then cO p k f l ((l+r)/2)else cO p k f ((l+r)/2+1) r)
  by_cases a:l>=r
  ·rw[if_pos a];trivial
  ·rw[if_neg a]
   refine⟨P.lt b,P.lt (by omega),P.ne b (by omega) (by omega),?_⟩
   show vN lt N (if lt (gg p k) (gg p ((l+r)/2))=true then cO p k f l ((l+r)/2)else cO p k f ((l+r)/2+1) r)
   split
   ·exact zBu P b f l _ (by omega)
   ·exact zBu P b f _ r h
theorem zBv (O:TotalOn lt N)(P:Pm p N){k:Nat}(d:k<N)(u:Up lt p k):∀(f l r:Nat),l<=r->r<=k->r-l<=f->(∀i,i<l->lt (gg p i) (gg p k)=true)->(∀i,r<=i->i<k->lt (gg p k) (gg p i)=true)->
  ev lt (cO p k f l r)<=k/\(∀i,i<ev lt (cO p k f l r)->lt (gg p i) (gg p k)=true)/\∀i,ev lt (cO p k f l r)<=i->i<k->lt (gg p k) (gg p i)=true
 |0,l,r,q,h,s,a,b=>by
  have:l=r:=by omega
  subst this
  exact⟨h,a,b⟩
 |f+1,l,r,q,h,s,a,b=>by
  have e:ev lt (cO p k (f+1) l r)=ev lt (if l>=r then KasT.ret l else .ask (p.getD k 0) (p.getD ((l+r)/2) 0) fun c=>if c=true then cO p k f l ((l+r)/2)else cO p k f ((l+r)/2+1) r):=rfl
  rw[e]
  by_cases g:l>=r
  ·rw[if_pos g]
   have:l=r:=by omega
   subst this
   exact⟨h,a,b⟩
  ·rw[if_neg g]
   have t:ev lt (KasT.ask (p.getD k 0) (p.getD ((l+r)/2) 0) fun c=>if c=true then cO p k f l ((l+r)/2)else cO p k f ((l+r)/2+1) r)=ev lt (if lt (gg p k) (gg p ((l+r)/2))=true then cO p k f l ((l+r)/2)else cO p k f ((l+r)/2+1) r):=rfl
   rw[t]
   generalize hm:(l+r)/2=m
   have m1:l<=m:=by omega
   have m2:m<r:=by omega
   cases c:lt (gg p k) (gg p m)with
   |true=>
    rw[if_pos rfl]
    refine zBv O P d u f l m m1 (by omega) (by omega) a fun i hi j=>?_
    by_cases n:i=m
    ·subst n;exact c
    ·exact O.tr _ _ _ (P.lt d) (P.lt (by omega)) (P.lt (by omega)) c (u m i (by omega) j)
   |false=>
    rw[if_neg (by simp)]
    have o:=O.flip (P.lt d) (P.lt (by omega)) (P.ne d (by omega) (by omega)) c
    refine zBv O P d u f (m+1) r (by omega) h (by omega) (fun i hi=>?_) b
    by_cases n:i=m
    ·subst n;exact o
    ·exact O.tr _ _ _ (P.lt (by omega)) (P.lt (by omega)) (P.lt d) (u i m (by omega) (by omega)) o
theorem zFJ {k d x:Nat}(b:k<p.size)(hd:d<=k):gg (bubble p k d) x=if x=k-d then gg p k else if k-d<x/\x<=k then gg p (x-1)else gg p x:=by
 have e:=getElem?_bubble b d hd x
 have a:∀(q:Array Nat) (x:Nat),gg q x=(q[x]?).getD 0:=fun q x=>by simp[gg]
 rw[a,a,a,a,e]
 split
 ·rfl
 ·split<;>rfl
theorem zFK (O:TotalOn lt N):∀(f:Nat) (p:Array Nat) (k:Nat),Pm p N->k+f=N->Up lt p k->Pm (ev lt (mM f p k)) N/\Up lt (ev lt (mM f p k)) N
 |0,p,k,P,e,u=>by
  have:k=N:=by omega
  subst this
  exact⟨P,u⟩
 |f+1,p,k,P,e,u=>by
  have e1:mM (f+1) p k=(cO p k k 0 k).bind fun l=>mM f (bubble p k (k-l)) (k+1):=rfl
  rw[e1,kY]
  have g:k<N:=by omega
  obtain⟨r,h,m⟩:=zBv O P g u k 0 k (bD _) (ay _) (by omega) (fun i hi=>by omega) (fun i a b=>by omega)
  generalize ev lt (cO p k k 0 k)=l at r h m
  have n:k<p.size:=by rw[P.size];exact g
  refine zFK O f _ (k+1) (P.perm (bubble_perm p k _)) (by omega) fun i j c s=>?_
  rw[zFJ n (by omega),zFJ n (by omega)]
  have d:k- (k-l)=l:=by omega
  rw[d]
  by_cases a:i=l
  ·rw[if_pos a,if_neg (by omega),if_pos (by omega)]
   exact m _ (by omega) (by omega)
  ·rw[if_neg a]
   by_cases b:l<i/\i<=k
   ·rw[if_pos b,if_neg (by omega),if_pos (by omega)]
    exact u _ _ (by omega) (by omega)
   ·rw[if_neg b]
    by_cases o:j=l
    ·rw[if_pos o]
     exact h i (by omega)
    ·rw[if_neg o]
     by_cases q:l<j/\j<=k
     ·rw[if_pos q]
      by_cases t:i=j-1
      ·omega
      ·exact u _ _ (by omega) (by omega)
     ·rw[if_neg q]
      exact u _ _ c (by omega)
theorem zFL (O:TotalOn lt N):∀(f:Nat) (p:Array Nat) (k:Nat),Pm p N->k+f=N->vN lt N (mM f p k)
 |0,p,k,P,e=>trivial
 |f+1,p,k,P,e=>by
  show vN lt N ((cO p k k 0 k).bind fun l=>mM f (bubble p k (k-l)) (k+1))
  exact kZ _ (zBu P (by omega) _ _ _ (ay _)) (zFL O f _ (k+1) (P.perm (bubble_perm p k _)) (by omega))
theorem zKO (O:TotalOn lt N)(a:2<=N):vN lt N (mN N):=by
 have b:Pm (fA (ba N)) N:=dP _
 obtain⟨m,q,e,m1,m2,c,f⟩:=zFI O b a
 unfold mN
 refine kZ _ (zKN O b a) ?_
 rw[e]
 dsimp only
 by_cases hm:m<N
 ·rw[if_pos hm]
  have d:max m 1=m:=by omega
  rw[d]
  exact zFL O (N-m) q m c (by omega)
 ·rw[if_neg hm];trivial
theorem zKP (O:TotalOn lt N)(c:2<=N):Pm (ev lt (mN N)) N/\Up lt (ev lt (mN N)) N:=by
 have d:Pm (fA (ba N)) N:=dP _
 obtain⟨m,q,e,m1,m2,a,b⟩:=zFI O d c
 unfold mN
 rw[kY,e]
 dsimp only
 by_cases hm:m<N
 ·rw[if_pos hm]
  have f:max m 1=m:=by omega
  rw[f]
  exact zFK O (N-m) q m a (by omega) b
 ·rw[if_neg hm]
  have:m=N:=by omega
  subst this
  exact⟨a,b⟩
end
end MyS
end
section
namespace MyS
open PySem PySem.W PyProof.Rows PySem.Spec
theorem zFM {α:Type}{N:Nat}{cmp:Nat->Nat->(Bool->ar->Prop)->ar->Prop}{lt:Nat->Nat->Bool}{s:ar}(b:∀i j,i<N->j<N->i≠j->∀C,C (lt i j) s->cmp i j C s) :
  ∀(t:KasT α) (Q:α->ar->Prop),vN lt N t->Q (ev lt t) s->t.kasWp cmp Q s
 | .ret a,Q,_,h=>h
 | .ask i j k,Q,o,h=>b i j o.1 o.2.1 o.2.2.1 _ (zFM b (k (lt i j)) Q o.2.2.2 h)
def qH (ks:List Str)(i:Nat):List Nat:=(ks.getD i ⟨#[]⟩).cps.toList
def jA (ks:List Str)(i j:Nat):Bool:=decide (qH ks i<qH ks j)
theorem Str_ext {a b:Str}(h:a.cps.toList=b.cps.toList):a=b:=by
 cases a;cases b
 congr 1
 exact ni.mp h
theorem zKQ (a b:List Nat)(e:¬a<b)(f:¬b<a):a=b:=by
 have c:b<=a:=qa.mp e
 have d:a<=b:=qa.mp f
 exact List.le_antisymm d c
theorem zKR {ks:List Str}(nd:ks.Nodup):TotalOn (jA ks) ks.length where
 irr:=fun i _=>by simp[jA,iE]
 tr:=fun i j k _ _ _ a b=>by
  simp only[jA,decide_eq_true_eq]at*
  exact pb a b
 tot:=fun i j hi f c=>by
  simp only[jA,decide_eq_true_eq]
  by_cases a:qH ks i<qH ks j
  ·exact .inl a
  ·by_cases b:qH ks j<qH ks i
   ·exact .inr b
   ·exfalso
    have e:=zKQ _ _ a b
    unfold qH at e
    have d:=Str_ext e
    have e1:ks.getD i ⟨#[]⟩=ks[i]:=by simp[hi]
    have g:ks.getD j ⟨#[]⟩=ks[j]:=by simp[f]
    rw[e1,g]at d
    exact c ((fw nd).mp d)
def zBw (h:bx)(a:ao)(v:ah)(k:Str):Prop:=∃b o t x n,v=Value.ref b/\b≠a/\h.get? b=some o/\o.cls=.type "tuple"/\o.data=.seq #[.str k t,x] n
theorem zBw.keep {h h':bx}{a:ao}{v:ah}{k:Str}(p:zBw h a v k)(e:∀b o,b≠a->h.get? b=some o->h'.get? b=some o):zBw h' a v k:=by
 obtain⟨b,o,t,x,n,d,c,f,g⟩:=p
 exact⟨b,o,t,x,n,d,c,e b o c f,g⟩
section
variable{prog:aL}{w:aU}{A:bS}{E:ah->ar->Prop}{s:ar}
theorem zKS {κ:SortKind}{a:ao}{vs:List ah}{ks:List Str}{n:Nat}{P:pE->ar->Prop}(y:s.heap.get? a=some (seqObj "list" vs.toArray n))(hl:ks.length=vs.length)(nd:ks.Nodup)(B:vs.length<64)
  (R:∀G,(∀b o,b≠a->s.heap.get? b=some o->G.get? b=some o)->2<=vs.length->∀(Q:SortKind->ar->Prop) (T:ah->ar->Prop),Q κ {s with heap:=G}->wpAny (model prog w) A (keyKind' vs.toArray) Q T {s with heap:=G})
  (U:∀G,(∀b o,b≠a->s.heap.get? b=some o->G.get? b=some o)->∀i j,i<vs.length->j<vs.length->i≠j->∀C,C (jA ks i j) {s with heap:=G}->kas_ask prog w A κ vs i j C {s with heap:=G})
  (h:∀(p:List Nat) (h':bx) (e:Nat),p.Perm (ba vs.length)->(p.map (qH ks)).Pairwise (· < ·)->(∀b o,b≠a->s.heap.get? b=some o->h'.get? b=some o)->
   h'.get? a=some (seqObj "list" (p.map fun i=>vs.getD i Value.none).toArray e)->P (.done (.ret .none)) {s with heap:=h'}) :
  wpAny (model prog w) A (cp.«list.sort» ⟨[.ref a],[]⟩) P E s:=by
 have Z:a<s.heap.objs.size:=aE y
 rw[list_sort_plain]
 refine af (listItems_at y rfl ?_)
 refine af (mj y rfl ?_ (by rw[bq,aZ];omega) (bD _))
 obtain⟨e1,r⟩:∃e1,(s.heap.update a (cu fun _=>(#[]:Array ah))).get? a=some (seqObj "list" #[] e1):=⟨_,nP y fun _=>#[]⟩
 refine af (nH r rfl ?_)
 refine af (oj ?_ (by rw[aZ];simp;omega))
 refine af (i8 ?_ (by simp))
 refine b7 ?_
 show wpAny (model prog w) A _ P E {s with heap:=((s.heap.update a (cu fun _=>#[])).push (seqObj "tuple" vs.toArray 0)).push (seqObj "list" #[] 0)}
 generalize M:((s.heap.update a (cu fun _=>(#[]:Array ah))).push (seqObj "tuple" vs.toArray 0)).push (seqObj "list" #[] 0)=G
 have d:G.get? a=some (seqObj "list" #[] e1):=by
  rw[<-M]
  exact ag _ (ag _ r)
 have m:∀b o,b≠a->s.heap.get? b=some o->G.get? b=some o:=fun b o z e=>by
  rw[<-M]
  exact ag _ (ag _ ((bw _ _ (dS z)).trans e))
 have hsz:vs.toArray.size=vs.length:=by simp
 have fin:∀(p:List Nat) (out:Array ah) (c:out=(p.map fun i=>vs.getD i Value.none).toArray),p.Perm (ba vs.length)->(p.map (qH ks)).Pairwise (· < ·)->
   P (.done (.ret .none)) {s with heap:=G.update a (cu fun _=>out)}:=fun p out c W f=>by
  subst c
  have X:=nP d fun _=>(p.map fun i=>vs.getD i Value.none).toArray
  exact h p _ _ W f (fun b o z e=>(bw _ _ (dS z)).trans (m b o z e)) X
 dsimp only
 by_cases f:vs.toArray.size<2
 ·rw[if_pos f,if_pos f]
  refine af (av ?_)
  rw[StateT.run_pure]
  refine af (av ?_)
  dsimp only
  refine af (nH d rfl ?_)
  refine af (mj d rfl ?_ (by simp) (by
   show((vs.toArray.zip vs.toArray).map (·.2)).size<=sizeLine+1
   rw[aZ];simp;omega))
  simp only[bne_self_eq_false,cw,if_false]
  refine av (fin (ba vs.length) _ ?_ (dP _) ?_)
  ·show(vs.toArray.zip vs.toArray).map (·.2)=_
   match vs,f with
   | [],_=>simp
   | [v],_=>simp[e6]
   |_::_::_,f=>simp at f;omega
  ·have:vs.length<2:=by simpa using f
   match hv:vs.length,this with
   |0,_=>simp
   |1,_=>simp[e6]
 ·rw[if_neg f,if_neg f]
  have g:2<=vs.length:=by simpa using f
  refine af (R G m g _ _ ?_)
  show wpAny _ _ (StateT.run sortRuns' (SortSt.mk' κ (vs.toArray.zip vs.toArray) #[] 7 none)>>=_) _ _ _
  have O:=zKR nd
  rw[hl]at O
  obtain⟨D,F⟩:=zKP O g
  refine af (b8 (kat_run (ks:=vs) (vs:=vs) (Q:=fun l s'=>s'={s with heap:=G}/\failedOf l=none/\∃p:Array Nat,Pm p vs.length/\Up (jA ks) p vs.length/\arrOf l=p.map (kas_item (vs.toArray.zip vs.toArray)))
   (G:=fun p s'=>s'={s with heap:=G}/\Pm p vs.length/\Up (jA ks) p vs.length) rfl g B (fun p l s' _ t H u=>⟨u.1,H,p,u.2.1,u.2.2,t⟩) ?_) ?_ fun _ _ e=>e)
  ·refine zFM (N:=vs.length) (lt:=jA ks) (fun i j hi I q C J=>?_) _ _ (zKO O g) ⟨rfl,D,F⟩
   exact U G m i j hi I q C J
  ·rintro⟨⟨⟩,l⟩ s' ⟨rfl,Y,p,t,H,u⟩
   dsimp only
   have c:=kat_snds (ks:=vs) (vs:=vs) rfl u
   refine af (nH d rfl ?_)
   refine af (mj d rfl ?_ (by simp) (by
    rw[c,bq,aa,aZ]
    have:=t.size
    simp
    omega))
   rw[Y]
   simp only[bne_self_eq_false,cw,if_false]
   refine av (fin p.toList _ c t ?_)
   rw[cf,List.pairwise_iff_getElem]
   intro i j hi I q
   have L:i<p.size:=by simpa using hi
   have x:j<p.size:=by simpa using I
   have:=H i j q (by rw[<-t.size];exact x)
   rw[zAH L,zAH x]at this
   simpa [jA]using this
theorem sort_strs {a:ao}{vs:List ah}{ks:List Str}{n:Nat}{P:pE->ar->Prop}(q:s.heap.get? a=some (seqObj "list" vs.toArray n))(f:nU vs ks)(nd:ks.Nodup)(m:vs.length<64)
  (h:∀(p:List Nat) (h':bx) (e:Nat),p.Perm (ba vs.length)->(p.map (qH ks)).Pairwise (· < ·)->(∀b o,b≠a->s.heap.get? b=some o->h'.get? b=some o)->
   h'.get? a=some (seqObj "list" (p.map fun i=>vs.getD i Value.none).toArray e)->P (.done (.ret .none)) {s with heap:=h'}) :
  wpAny (model prog w) A (cp.«list.sort» ⟨[.ref a],[]⟩) P E s:=by
 have d:ks.length=vs.length:=by rw[<-f.strs];simp
 have c:∀i,i<vs.length->∃t,vs.getD i Value.none=.str (ks.getD i ⟨#[]⟩) t:=fun i hi=>by
  obtain⟨x,t,e⟩:=f.all vs[i] (cA hi)
  refine⟨t,?_⟩
  have e1:vs.getD i Value.none=vs[i]:=by simp[hi]
  have r:ks.getD i ⟨#[]⟩=x:=by
   rw[<-f.strs,bY,aq,aG hi,e];rfl
  rw[e1,r,e]
 refine zKS (κ:=oneType') q d nd m (fun G u v Q H y=>?_) (fun G u i j hi z B C D=>?_) h
 ·obtain⟨g,l,vB,rfl⟩:∃g l vB,vs=g::l::vB:=by
   match vs,v with
   |g::l::vB,_=>exact⟨g,l,vB,rfl⟩
  rw[keyKind_strs f]
  exact av y
 ·obtain⟨t,e⟩:=c i hi
  obtain⟨t',F⟩:=c j z
  unfold kas_ask
  rw[e,F,keyLt'_oneType]
  exact strKind_oneLt prog w A _ _ _ _ _ _ rfl rfl D
end
end MyS
end
section
namespace L2
open PySem PySem.Spec PyProof.Rows
def uN (H:Hp)(news:List (ao×HO)):Hp:=fun b=>match news.lookup b with
 |some o=>some o
 |none=>H b
theorem zBx {H:Hp}{a:List (ao×HO)}{b:ao}(h:b∉a.map (·.1)):uN H a b=H b:=by
 unfold uN
 have:a.lookup b=none:=by
  induction a with
  |nil=>rfl
  |cons p r ih=>
   rw[aC,aH,not_or]at h
   have c:(b==p.1)=false:=by simpa using h.1
   obtain⟨x,y⟩:=p
   rw[bJ,c]
   exact ih h.2
 rw[this]
theorem zKT {H:Hp}{a:List (ao×HO)}{b:ao}{o:HO}(h:uN H a b=some o):(b,o)∈a\/(b∉a.map (·.1)/\H b=some o):=by
 by_cases d:b∈a.map (·.1)
 ·left
  unfold uN at h
  cases e:a.lookup b with
  |some u=>
   rw[e]at h
   have:u=o:=aw h
   subst this
   clear h d
   induction a with
   |nil=>cases e
   |cons p r ih=>
    obtain⟨x,y⟩:=p
    rw[bJ]at e
    cases c:b==x with
    |true=>
     rw[c]at e
     have e1:b=x:=by simpa using c
     have f:y=u:=aw e
     subst e1;subst f
     exact aj ..
    |false=>
     rw[c]at e
     exact ak _ (ih e)
  |none=>
   exfalso
   clear h
   induction a with
   |nil=>cases d
   |cons p r ih=>
    obtain⟨x,y⟩:=p
    rw[bJ]at e
    cases c:b==x with
    |true=>rw[c]at e;cases e
    |false=>
     rw[c]at e
     rw[aC,aH]at d
     rcases d with z|z
     ·have:(b==x)=true:=by simpa using z
      rw[this]at c;cases c
     ·exact ih z e
 ·rw[zBx d]at h
  exact .inr ⟨d,h⟩
theorem zKU {H:Hp}{a:List (ao×HO)}(c:∀p∈a,H p.1=none):zA H (uN H a):=fun b o e=>by
 rw[zBx fun z=>?_]
 ·exact e
 ·obtain⟨p,d,rfl⟩:=au.mp z
  rw[c p d]at e;cases e
theorem yJ.obj {P:aL}{w:aU}{H:Hp}{h:bx}{a:ao}{o:HO}(x:yJ P w H h a o):∃u,h.get? a=some u:=by
 cases o with
 |lst xs=>obtain⟨_,_,_,_,e⟩:=x;exact⟨_,e⟩
 |tup xs=>obtain⟨_,_,_,_,e,_⟩:=x;exact⟨_,e⟩
 |dK kvs=>obtain⟨_,_,_,_,o,_,_,e,_⟩:=x;exact⟨_,e⟩
 |dT kvs=>obtain⟨_,_,_,_,o,_,_,e,_⟩:=x;exact⟨_,e⟩
 |set S n=>obtain⟨o,_,_,_,e,_⟩:=x;exact⟨_,e⟩
 |ins C b fs=>obtain⟨_,_,_,e,_⟩:=x;exact⟨_,e⟩
 |own y=>exact x
 |xd fs=>obtain⟨_,⟨_,_,_,e,_⟩,_⟩:=x;exact⟨_,e⟩
 |rng lo hi=>obtain⟨_,_,_,e⟩:=x;exact⟨_,e⟩
 |frz c u=>obtain⟨e,_⟩:=x;exact⟨_,e⟩
 |tbl ps=>exact⟨_,(show h.get? a=some _ from x)⟩
 |met f y=>exact⟨_,(show h.get? a=some _ from x)⟩
 |ext φ=>obtain⟨_,e,_⟩:=x;exact e
theorem z6.free {P:aL}{w:aU}{H:Hp}{h:bx}{a:ao}(x:z6 P w H h)(e:h.get? a=none):H a=none:=by
 cases q:H a with
 |none=>rfl
 |some u=>
  obtain⟨v,b⟩:=(x a u q).obj
  rw[b]at e;cases e
section
variable{X:Cx}{pins:List (ao×Obj)}{σ:St}{H:Hp}{s:ar}
theorem Inv.many {h':bx}{t':Nat}{a:List (ao×HO)}(I:Inv X pins σ H s)(k:∀b u,s.heap.get? b=some u->h'.get? b=some u)(d:∀p∈a,s.heap.get? p.1=none)
  (new:∀p∈a,yJ X.prog X.w (uN H a) h' p.1 p.2):Inv X pins σ (uN H a) {s with heap:=h',toks:=t'}:=by
 have i:∀p∈a,H p.1=none:=fun p h=>I.hok.free (d p h)
 have f:=zKU i
 have g:∀b (o:Obj),s.heap.get? b=some o->uN H a b=H b:=fun b o e=>zBx fun z=>by
  obtain⟨p,h,rfl⟩:=au.mp z
  rw[d p h]at e;cases e
 refine I.un (H':=uN H a) ⟨fun b o e _ _ _=>k b o e,fun b o e _ _ _=>⟨o.slots,k b o e⟩,fun b o e n _=>by rw[g b o e];exact n,fun b o e _=>⟨o,k b o e⟩,fun b xs e=>f b _ e,fun b o u e=>f b _ e,fun b ps e=>⟨#[],by rw[f b _ e];simp⟩⟩ fun b u e=>?_
 rcases zKT e with z|⟨_,z⟩
 ·exact new (b,u) z
 ·exact(I.hok b u z).stay (fun c v _ q=>k c v q) (fun c q=>f c _ q) fun c xs q=>f c _ q
end
def zFN (d:ao):Obj:={cls:=.type "dict_items",data:=.fields #[.ref d]}
def VW (p d:ao):HO:=.ext fun h=>h.get? p=some (zFN d)
section
variable{X:Cx}
def zKV:V->List V->Hp->VK->Prop:=fun x vs H Q=>∃d kvs,x=.ref d/\vs=[]/\H d=some (.dK kvs)/\∀p,H p=none->Q (.ref p) (upd H p (VW p d))
theorem k5:kU X "dict.items" zKV:=by
 intro c s σ H x vs v j Q I g i h
 obtain⟨d,kvs,rfl,rfl,hd,q⟩:=h
 cases g
 have a:=i.zero
 subst a
 obtain⟨z,hm,l,rel,f⟩:=qY I.hok hd
 refine fW cj f.typeIs PySem.F.entry_dict_items (PySem.F.args_dict_items_1 _) (meets_dict_items (y0 X.prog X.w) d hm) ⟨⟨_,f⟩,?_⟩
 refine⟨.ref s.heap.objs.size,_,I.laid (t':=s.toks) (o:=VW s.heap.objs.size d) (fun b o e=>ag _ e) (ay _) ?_,rfl,q _ (I.hok.fresh (ay _))⟩
 exact⟨aB _ rfl,⟨_,aB _ rfl⟩,fun m n e k=>k _ e⟩
abbrev yN (kvs:List (Str×V)):List (zI×V):=kvs.map fun q=>(Sum.inr q.1,q.2)
theorem KV.get {kvs:List (zI×V)}{vs:List (zI×ah)}:∀{i:Nat}{k:zI}{x:ah},KV kvs vs->vs[i]?=some (k,x)->∃v,kvs[i]?=some (k,v)/\zS v x:=by
 intro i k x r
 induction r generalizing i with
 |nil=>intro e;simp at e
 |cons h t ih=>
  intro e
  cases i with
  |zero=>
   have a:=aw (by simpa using e)
   rename_i p q _ _
   obtain⟨b,c⟩:=p
   subst a
   have d:b=k:=h.1
   subst d
   exact⟨c,rfl,h.2⟩
  |succ i=>
   obtain⟨v,e1,f⟩:=ih (by simpa using e)
   exact⟨v,by simpa using e1,f⟩
end
def Its (z:Str):It:=⟨fun i _=>i<z.cps.size,fun i H x H'=>H'=H/\∃c,z.cps[i]?=some c/\x=.str ⟨#[c]⟩,fun i _=>i=z.cps.size⟩
theorem zFO {P:aL}{w:aU}{K:ae}{M:bO}(a:ao)(z:Str)(t:Tok)(ty:String)(m:["enumerate","zip","dict_itemiterator","dict_reverseitemiterator","odict_iterator","itertools.zip_longest","itertools.pairwise"].contains ty=false)
  (L:∀A:bS,A.handled=none->pD P w A a [a] [a] z.cps.size (SignAt z) (fun i h=>h.IsStrIter a ty z t i))
  (N:∀(A:bS) (i:Nat) (s:ar) (Q:ah->ar->Prop) (E:ah->ar->Prop),s.heap.IsStrIter a ty z t i->Q (.ref a) s->wpAny (model P w) A (pyIter (.ref a)) Q E s):Turn P w K M (Its z) [a] a (fun i h=>h.IsStrIter a ty z t i) where
 mem:=by simp
 obj:=fun i h st b g=>by
  have e:b=a:=by simpa using g
  subst e
  obtain⟨o,e,c,d⟩:=st
  exact⟨o,e,fun v z=>by rw[d]at z;cases z⟩
 keep:=fun i h h' st k=>let⟨o,e,r⟩:=st;⟨o,k a (by simp) o e,r⟩
 item:=by
  intro X n p q x i f s σ H E I l st y
  subst n p q
  obtain⟨B,f1,f2,C,D,F⟩:=l a (by simp)
  refine(L X.A (I.ok.hd x)).item i s _ _ y st fun v h' tk O j G=>?_
  obtain⟨c,u,J,rfl⟩:=O
  have R:Inv X f σ H {s with heap:=h',toks:=tk}:=I.turned (fun b o g e=>G b o (by simpa using g) e) B f1 C D F
  obtain⟨o,e,T,od⟩:=id j
  exact⟨_,rfl,jU (s:={s with heap:=h',toks:=tk}) e T od m ⟨.str ⟨#[c]⟩,H,R,⟨u,rfl⟩,⟨rfl,c,J,rfl⟩,j,fun b g=>(l b g).1⟩⟩
 done:=by
  intro X n p q x i f s σ H E I l st y
  subst n p q
  obtain⟨B,f1,f2,C,D,F⟩:=l a (by simp)
  have hi:i=z.cps.size:=y
  subst hi
  exact(L X.A (I.ok.hd x)).done s _ _ st fun h' tk G=>⟨rfl,I.turned (fun b o g e=>G b o (by simpa using g) e) B f1 C D F⟩
 self:=N
section
variable{X:Cx}{tg:bO}
def zKW (tl:TE):TI:=fun σ H R=>tl σ H fun x H1=>∃z,x=.str z/\R (Its z) H1
theorem zKX {l:bO}{j:TE}(hl:PE X l j):PI X tg l (zKW j):=by
 intro a s σ H R I h
 refine zH (hl a s σ H _ I h) fun v c ⟨x,f,d,p,z,r,q⟩=>?_
 subst r
 obtain⟨t,rfl⟩:=p
 have m:∀b∈[c.heap.objs.size],uI X a f b:=fun b u=>by
  have e:b=c.heap.objs.size:=by simpa using u
  subst e
  exact d.fpOk (ay _) (d.hok.fresh (ay _))
 cases n:z.cps.all (· <128)with
 |false=>
  refine wpAny_pyIter_wide n ⟨c.heap.objs.size,[c.heap.objs.size],_,_,f,rfl,d.kept (t':=c.toks) fun b o e=>ag _ e,zFO _ z t "str_iterator" (by decide) (fun A g=>Walks.strWide g _ z t) (fun A i s Q E st h=>wpAny_pyIter_striter_wide st h),⟨_,aB _ rfl,rfl,rfl⟩,m,q⟩
 |true=>
  refine wpAny_pyIter_ascii n ⟨c.heap.objs.size,[c.heap.objs.size],_,_,f,rfl,d.kept (t':=c.toks) fun b o e=>ag _ e,zFO _ z t "str_ascii_iterator" (by decide) (fun A g=>Walks.strAscii g _ z t) (fun A i s Q E st h=>wpAny_pyIter_striter_ascii st h),⟨_,aB _ rfl,rfl,rfl⟩,m,q⟩
end
theorem zKY (lo hi:Option Int)(n:Nat):cV lo hi 1 n=cV (some ((HT.sIx n 0 lo:Nat):Int)) (some ((HT.sIx n n hi:Nat):Int)) 1 n:=by
 have hl:=HT.sIx_le n 0 (bD _) lo
 have q:=HT.sIx_le n n (ay _) hi
 have key:∀(o:Option Int) (d:Nat),d<=n->(match o with|none=>(d:Int)|some i=>(let i:=if i<0 then i+(n:Int)else i;max 0 (min i (n:Int))))=((HT.sIx n d o:Nat):Int):=by
  intro o d hd
  cases o with
  |none=>rfl
  |some i=>
   show max 0 (min (if i<0 then i+(n:Int)else i) (n:Int))=(((if i<0 then(i+(n:Int)).toNat else min i.toNat n):Nat):Int)
   by_cases h:i<0
   ·rw[if_pos h,if_pos h];omega
   ·rw[if_neg h,if_neg h];omega
 have e1:=key lo 0 (bD _)
 have r:=key hi n (ay _)
 have c:max (0:Int) (min ((HT.sIx n 0 lo:Nat):Int) (n:Int))=((HT.sIx n 0 lo:Nat):Int):=by omega
 have e:max (0:Int) (min ((HT.sIx n n hi:Nat):Int) (n:Int))=((HT.sIx n n hi:Nat):Int):=by omega
 have f:¬(((HT.sIx n 0 lo:Nat):Int)<0):=by omega
 have g:¬(((HT.sIx n n hi:Nat):Int)<0):=by omega
 unfold cV
 simp only[show((1:Int)>0)=True from by simp,if_true,f,g,if_false,c,e]
 have a:∀i:Int,(max 0 (min (if i<0 then i+(n:Int)else i) (n:Int)))=((HT.sIx n 0 (some i):Nat):Int):=fun i=>key (some i) 0 (bD _)
 have b:∀i:Int,(max 0 (min (if i<0 then i+(n:Int)else i) (n:Int)))=((HT.sIx n n (some i):Nat):Int):=fun i=>key (some i) n (ay _)
 have l:((HT.sIx n 0 none:Nat):Int)=0:=rfl
 have m:((HT.sIx n n none:Nat):Int)=n:=rfl
 cases lo with
 |none=>
  cases hi with
  |none=>rfl
  |some j=>dsimp only;rw[b,l]
 |some i=>
  cases hi with
  |none=>dsimp only;rw[a,m]
  |some j=>
   dsimp only
   have p:=a i
   rw[p]
   rw[b]
theorem zKZ (x:Str)(lo hi:Option Int):pF x lo hi=⟨((x.cps.toList.drop (HT.sIx x.length 0 lo)).take (HT.sIx x.length x.length hi-HT.sIx x.length 0 lo)).toArray⟩:=by
 have hl:=HT.sIx_le x.length 0 (bD _) lo
 have f:=HT.sIx_le x.length x.length (ay _) hi
 unfold pF
 rw[zKY lo hi]
 generalize HT.sIx x.length 0 lo=a at*
 generalize HT.sIx x.length x.length hi=b at*
 have g:x.cps.toList.length=x.length:=by simp[n8]
 by_cases c:a<=b
 ·have sp:=StrLaws.sliced_plain x c f
  split
  ·rename_i h
   rw[StrLaws.strSliceIndices_plain c f]at h
   have h':b-a=x.length:=by simpa using h
   have i:a=0:=by omega
   have d:b=x.cps.toList.length:=by omega
   subst i
   apply MyS.Str_ext
   show x.cps.toList=((x.cps.toList.drop 0).take (b-0)).toArray.toList
   rw[iF,mO,d,bc]
  ·rw[sp]
 ·have d:b-a=0:=by omega
  have e:cV (some (a:Int)) (some (b:Int)) 1 x.length=[]:=by
   have j:¬((a:Int)<0):=by omega
   have l:¬((b:Int)<0):=by omega
   have e1:max (0:Int) (min (a:Int) (x.length:Int))=a:=by omega
   have m:max (0:Int) (min (b:Int) (x.length:Int))=b:=by omega
   simp only[cV,sliceRange,j,l,if_false,e1,m,show((1:Int)>0)=True from by simp,if_true]
   rw[if_neg (by omega)]
   rfl
  rw[e,d]
  split
  ·rename_i h
   have h':0=x.length:=by simpa using h
   omega
  ·simp
section
variable{X:Cx}{e:bO}{te:TE}{lo hi:Option bO}{tl th:TO}{pos p2:Pos}
def jM (z:Str)(lo hi:Option Int):Str:=⟨((z.cps.toList.drop (HT.sIx z.length 0 lo)).take (HT.sIx z.length z.length hi-HT.sIx z.length 0 lo)).toArray⟩
def zKa (te:TE)(tl th:TO):TE:=fun σ H Q=>te σ H fun x H1=>tl σ H1 fun l H2=>th σ H2 fun u H3=>∃z,x=.str z/\z.length<=sizeLine/\Q (.str (jM z l u)) H3
theorem zBy (m:PE X e te)(hl:PO X lo tl)(n:PO X hi th):PE X (.Subscript e (.Slice lo hi none p2) pos) (zKa te tl th):=by
 intro a s σ H Q I h
 refine n6 (zH (m a s σ H _ I h) fun v p ⟨x,r,y,B,C⟩=>?_)
 refine wpAny_Slice (zH (hl a p σ r _ y C) fun D E ⟨l,F,G,pl,J⟩=>zH (n a E σ F _ G J) fun L c ⟨u,M,N,g,O⟩=>?_)
 rw[o4]
 refine av ?_
 obtain⟨z,rfl,hz,q⟩:=O
 obtain⟨t,rfl⟩:=B
 have d:KeptH (fun h=>∀b o,c.heap.get? b=some o->h.get? b=some o):=fun h Y f b o q=>ag _ (f b o q)
 have fin:∀h' t' k,(∀b o,c.heap.get? b=some o->h'.get? b=some o)->EP X a σ Q (.str (pF z l u) t') {c with heap:=h',toks:=k}:=fun h' t' k f=>by
  refine⟨.str (jM z l u),M,N.kept f,⟨t',?_⟩,q⟩
  rw[zKZ];rfl
 have go:ItemOn (model X.prog X.w) X.A X.xe (.str z t) (.ref c.heap.objs.size) (EP X a σ Q) {c with heap:=c.heap.push {cls:=.type "slice",data:=.fields #[D,L,.none]}}:=by
  cases pl with
  |none=>
   cases g with
   |none=>exact SBH.sliceItem_nn d (fun _ _ q=>q) fin hz
   |int j P=>exact SBH.sliceItem_ns d (fun _ _ q=>q) fin hz
  |int i Z=>
   cases g with
   |none=>exact SBH.sliceItem_sn d (fun _ _ q=>q) fin hz
   |int j P=>exact SBH.sliceItem_ss d (fun _ _ q=>q) fin hz
 obtain⟨T,id,R,U,W⟩:=go
 exact tail_any (ops:=[.ref c.heap.objs.size,.str z t]) U R W (by with_unfolding_all rfl)
end
section
variable{X:Cx}
theorem zFP (g:X.calm=true):qD X (.builtin "all") (fun xs H Q=>∃(p:ao) (bs:List Bool),xs=[.ref p]/\yF X.K H p (bs.map V.bl)/\Q (.bl (bs.all id)) H):=by
 intro d s σ H xs D Q I r h
 obtain⟨p,bs,rfl,j,q⟩:=h
 obtain⟨u,rfl,l⟩:=qE r
 cases l
 obtain⟨its,c,pl,hz⟩:=I.list j
 have m:p≠s.heap.objs.size:=by
  obtain⟨o,n,e,_⟩:=pl
  exact aS (aE e)
 have a:∀(i:Nat) (v:ah),its.toArray[i]?=some v->v=.bool (bs.getD i false):=fun i v e=>by
  have f:its[i]?=some v:=by simpa using e
  have hl:=c.length
  have hi:i<bs.length:=by
   have:=(ai.mp f).1
   simp at hl;omega
  obtain⟨u,e1,t⟩:=c.get (i:=i) (x:=.bl (bs.getD i false)) (by rw[aq];simp[hi])
  rw[f]at e1
  cases e1
  exact t
 refine call_all_walk (d3 pl.isList ?_)
 refine⟨s.heap.objs.size,_,_,its.toArray.size,_,_,fun i=>bs.getD i false,rfl,ke (A:=X.A.in1) (I.ok.hd g) _ p m its.toArray,⟨⟨_,aB _ rfl,rfl,rfl⟩,?_⟩,fun i v s' E F w y=>?_,fun h' tk B=>?_⟩
 ·exact pl.isList.at fun o e=>ag _ e
 ·rw[a i v w];exact cY y
 ·refine⟨.bl (bs.all id),H,I.kept (t':=tk) (h':=h') fun b o e=>B b o (fun z=>?_) (ag _ e),?_,q⟩
  ·have:b=s.heap.objs.size:=by simpa using z
   exact absurd (aE e) (by rw[this];exact bE _)
  ·have hl:=c.length
   have hsz:its.toArray.size=bs.length:=by simp at hl;simp[hl]
   have:(ba its.toArray.size).all (fun i=>bs.getD i false)=bs.all id:=by
    rw[hsz]
    rw[eY]
    simp only[gk,bz,id]
    constructor
    ·intro h b C
     obtain⟨i,hi,e⟩:=c8 C
     have:=h i hi
     simpa [hi,e]using this
    ·intro h i hi
     have:=h bs[i] (cA hi)
     simpa [hi]using this
   rw[this];rfl
theorem zBz (ns:List Int):∀k,k<=ns.length->preSum (fun i=>ns.getD i 0) k=(ns.take k).sum
 |0,_=>by simp[preSum]
 |k+1,h=>by
  show preSum (fun i=>ns.getD i 0) k+ns.getD k 0=_
  have a:k<ns.length:=h
  rw[zBz ns k (by omega),az a,fJ]
  simp[a]
theorem zFQ (j:X.calm=true):qD X (.builtin "sum") (fun xs H Q=>∃(p:ao) (ns:List Int),xs=[.ref p]/\yF X.K H p (ns.map V.int)/\Q (.int ns.sum) H):=by
 intro f s σ H xs C Q I r h
 obtain⟨p,ns,rfl,l,q⟩:=h
 obtain⟨u,rfl,m⟩:=qE r
 cases m
 obtain⟨its,c,pl,hz⟩:=I.list l
 have a:p<s.heap.objs.size:=by
  obtain⟨o,n,e,_⟩:=pl
  exact aE e
 have hl:=c.length
 have hsz:its.toArray.size=ns.length:=by simp at hl;simp[hl]
 have t:=zJW c
 refine mP (d3 pl.isList ?_)
 refine⟨s.heap.objs.size,_,_,_,its.toArray.size,_,_,fun i=>ns.getD i 0,rfl,(ke (A:=X.A.in1) (I.ok.hd j) _ p (aS a) its.toArray).toS,⟨⟨_,aB _ rfl,rfl,rfl⟩,?_⟩,fun b d=>?_,fun i v w=>?_,fun s' t' hm=>?_⟩
 ·exact pl.isList.at fun o e=>ag _ e
 ·show b<(s.heap.push _).objs.size
  rw[size_push']
  rcases aH.mp d with e|d
  ·rw[e];exact b6 _
  ·rw[bf.mp d];exact bC a
 ·have g:its[i]?=some v:=by simpa using w
  have hi:i<ns.length:=by
   have:=(ai.mp g).1
   simp at hl;omega
  obtain⟨u,e1,y⟩:=c.get (i:=i) (x:=.int (ns.getD i 0)) (by rw[aq];simp[hi])
  rw[g]at e1
  cases e1
  exact y
 ·have z:∀b o,s.heap.get? b=some o->s'.heap.get? b=some o:=fun b o e=>
   hm.heap b o (fun B=>absurd (aE e) (by rw[bf.mp B];exact bE _)) (ag _ e)
  rw[i9 hm]
  refine⟨.int ns.sum,H,I.kept (h':=s'.heap) (t':=s'.toks) z,⟨t',?_⟩,q⟩
  rw[hsz,zBz ns ns.length (ay _),bc]
def zFR (d:ao):Obj:={cls:=.type "dict_values",data:=.fields #[.ref d]}
def uZ (p d:ao):HO:=.ext fun h=>h.get? p=some (zFR d)
def zKb:V->List V->Hp->VK->Prop:=fun x vs H Q=>∃d kvs,x=.ref d/\vs=[]/\H d=some (.dK kvs)/\∀p,H p=none->Q (.ref p) (upd H p (uZ p d))
theorem zKc:kU X "dict.values" zKb:=by
 intro c s σ H x vs v j Q I g i h
 obtain⟨d,kvs,rfl,rfl,hd,q⟩:=h
 cases g
 have a:=i.zero
 subst a
 obtain⟨z,hm,l,rel,f⟩:=qY I.hok hd
 refine fW dm f.typeIs iO (iG _) (mQ (y0 X.prog X.w) d hm) ⟨⟨_,f⟩,?_⟩
 refine⟨.ref s.heap.objs.size,_,I.laid (t':=s.toks) (o:=uZ s.heap.objs.size d) (fun b o e=>ag _ e) (ay _) ?_,rfl,q _ (I.hok.fresh (ay _))⟩
 exact⟨aB _ rfl,⟨_,aB _ rfl⟩,fun m n e k=>k _ e⟩
theorem zAo:qD X (.builtin "isinstance") (fun xs H Q=>∃x c t b,xs=[x,.ty c]/\TyOf X.K H x t/\iB X.K t (.type c)=some b/\Q (.bl b) H):=by
 intro a s σ H xs g Q I r h
 obtain⟨x,c,t,b,rfl,ty,e,q⟩:=h
 obtain⟨u,i,rfl,d,f⟩:=zBf r
 cases f
 exact zJL I d ty e fun tk=>⟨.bl b,H,I.tok tk,rfl,q⟩
theorem zKd {ss:List Str}:∀{a:List ah},zN (ss.map V.str) a->nU a ss:=by
 induction ss with
 |nil=>intro a r;rw[jx]at r;cases r;exact .nil
 |cons x ss ih=>
  intro a r
  rw[aC]at r
  cases r with
  |cons b c=>
   obtain⟨t,e⟩:=b
   subst e
   exact .cons x t (ih c)
def zKe (K:ae):V->List V->Hp->VK->Prop:=fun x vs H Q=>∃(sep:Str) (l:ao) (ss:List Str),x=.str sep/\vs=[.ref l]/\yF K H l (ss.map V.str)/\(ss.map (·.length)).sum+ss.length*sep.length<=16777216/\Q (.str (mR sep ss)) H
theorem zKf:MtR X "str.join" (zKe X.K):=by
 intro a s σ H x vs v g Q I b c h
 obtain⟨sep,l,ss,rfl,rfl,d,hz,q⟩:=h
 obtain⟨t,rfl⟩:=b
 obtain⟨u,rfl,e⟩:=qE c
 cases e
 obtain⟨its,f,pl,_⟩:=I.list d
 exact join_list pl.isList (by simpa using zKd f) hz fun t' k=>⟨.str (mR sep ss),H,I.tok k,⟨t',rfl⟩,q⟩
theorem zKg (l:List Str):∀a:Array Nat,(l.foldl (fun b p=>b++(⟨#[]⟩:Str).cps++p.cps) a).toList=a.toList++(l.map (·.cps.toList)).flatten:=by
 induction l with
 |nil=>intro a;simp
 |cons x r ih=>intro a;rw[bR,ih];simp
theorem zKh (ss:List Str):mR ⟨#[]⟩ ss=⟨(ss.map (·.cps.toList)).flatten.toArray⟩:=by
 apply MyS.Str_ext
 show((ss.drop 1).foldl (fun a p=>a++(⟨#[]⟩:Str).cps++p.cps) (ss.headD qz).cps).toList=(ss.map (·.cps.toList)).flatten.toArray.toList
 rw[zKg]
 cases ss with
 |nil=>rfl
 |cons x r=>simp
def zKi:V->List V->Hp->VK->Prop:=fun x vs H Q=>∃d kvs k v,x=.ref d/\vs=[kV k,v]/\H d=some (.dK kvs)/\kvs.length<sizeLine/\(∀y,yY kvs k=some y->Q y H)/\(yY kvs k=none->Q v (upd H d (.dK (vG kvs k v))))
theorem zKj:kU X "dict.setdefault" zKi:=by
 intro i s σ H x vs v G Q I m n h
 obtain⟨d,kvs,k,y,rfl,rfl,hd,hz,o,p⟩:=h
 cases m
 obtain⟨u,r,rfl,t,b⟩:=zBf n
 obtain⟨z,hm,j,rel,l⟩:=qY I.hok hd
 have f:j.length<=sizeLine:=by rw[<-rel.length];exact z
 refine fW gy l.typeIs PySem.F.entry_dict_setdefault (PySem.F.args_dict_setdefault_3 _ _ _) (kt_meets_setdefault (y0 X.prog X.w) d (jZ t) hm r) ⟨j,l,f,fun v' A=>?_,fun B h' c C=>?_⟩
 ·have a:=rel.val k
  rw[A]at a
  cases e:yY kvs k with
  |none=>rw[e]at a;exact a.elim
  |some g=>
   rw[e]at a
   exact⟨g,H,I.tok _,a,o g e⟩
 ·have a:=rel.val k
  rw[B]at a
  cases e:yY kvs k with
  |some g=>rw[e]at a;exact a.elim
  |none=>
   have D:∃q,h'.get? d=some q:=let⟨q,_,_,E,_⟩:=c;⟨q,E⟩
   have hl:(vG kvs k y).length<=sizeLine:=by have:=zBi kvs k y;omega
   exact⟨y,_,zAk I (by rw[hd];exact True.intro) C D (zAl hl hm (rel.put k b) c),b,p e⟩
def zKk:List V->Hp->VK->Prop:=fun xs H Q=>∃d kvs,xs=[.ref d]/\H d=some (.dK (yN kvs))/\(kvs.map (·.1)).Nodup/\kvs.length<64/\
 ∀(out:List Str) (l:ao),out.Perm (kvs.map (·.1))->out.Pairwise (fun a b=>a.cps.toList<b.cps.toList)->H l=none->Q (.ref l) (upd H l (.lst (out.map V.str)))
theorem zKl (hc:X.calm=true):qD X (.builtin "sorted") zKk:=by
 intro G s σ H xs us Q I rx h
 obtain⟨d,kvs,rfl,hd,nd,T,q⟩:=h
 obtain⟨u,rfl,ru⟩:=qE rx
 cases ru
 obtain⟨z,hm,ws,rel,dd⟩:=qY I.hok hd
 have r:ws.length=kvs.length:=by have:=rel.length;simpa using this.symm
 obtain⟨ep,U⟩:=dd.dictAt
 refine fD nI mS mT (mU _) ?_
 unfold cp.«sorted»
 refine af (m:=checkCount "sorted" 1 1 _) (av ?_)
 refine af (PySem.W.kdu_collect (A:=X.A.in1) (PySem.W.kdl_dict (knd:=y0 X.prog X.w) (kvs:=ws) (ep:=ep) hm) (I.ok.hd hc) U (by rw[r,aZ];omega) fun h' tk a hk c=>?_)
 have f:a.toList.length=kvs.length:=by rw[aR];exact c.1.trans r
 have Y:nU a.toList (kvs.map (·.1)):=by
  have J:∀v∈a.toList,∃x t,v=Value.str x t:=fun v hv=>by
   obtain⟨i,hi,e⟩:=c8 hv
   obtain⟨k,x,e1,E⟩:=c.2 i v (by rw[<-da,aG hi,e])
   obtain⟨y,f1,_⟩:=KV.get rel e1
   rw[aq]at f1
   cases g:kvs[i]? with
   |none=>rw[g]at f1;cases f1
   |some p=>
    rw[g]at f1
    have:(Sum.inr p.1:zI)=k:=(bW (aw f1)).1
    subst this
    have C:qS (Sum.inr p.1) v=true:=E
    rcases uH C with⟨j,t,F,_⟩|⟨w,t,F,Z⟩
    ·cases F
    ·exact⟨w,t,Z⟩
  have e0:=strsAre_map a.toList J
  have:a.toList.map strOf=kvs.map (·.1):=by
   apply eE
   ·simp only[aa,f]
   ·intro i h1 L
    have hi:i<a.toList.length:=by simpa using h1
    have ab:i<kvs.length:=by simpa using L
    obtain⟨k,x,e1,E⟩:=c.2 i a.toList[i] (by rw[<-da,aG hi])
    obtain⟨y,f1,_⟩:=KV.get rel e1
    rw[aq,aG ab]at f1
    have:(Sum.inr kvs[i].1:zI)=k:=(bW (aw f1)).1
    subst this
    have C:qS (Sum.inr kvs[i].1) a.toList[i]=true:=E
    rcases uH C with⟨j,t,F,_⟩|⟨w,t,F,Z⟩
    ·cases F
    ·have:kvs[i].1=w:=lz F
     rw[eF,eF,Z,this]
     rfl
  rw[this]at e0
  exact e0
 refine af (i8 ?_ (by rw[f,aZ];omega))
 generalize hB:h'.objs.size=B
 have M:(h'.push {cls:=.type "list",data:=.seq a.toList.toArray}).get? B=some (seqObj "list" a.toList.toArray 0):=by
  rw[<-hB];exact aB _ rfl
 refine af (b7 (cB lJ ⟨_,M,rfl⟩ ku (MyS.sort_strs (ks:=kvs.map (·.1)) M Y nd (by rw[f];exact T) fun pm L E n N ac al=>⟨_,rfl,?_⟩) (lK _)))
 refine av ⟨_,rfl,?_⟩
 rw[f]at n
 have O:∀i∈pm,i<kvs.length:=fun i hi=>bz.mp (n.mem_iff.mp hi)
 have P:∀b o,s.heap.get? b=some o->L.get? b=some o:=fun b o e=>by
  have e1:=hk b o e
  refine ac b o ?_ (ag _ e1)
  rw[<-hB];exact aS (aE e1)
 have R:s.heap.get? B=none:=by
  cases g:s.heap.get? B with
  |none=>rfl
  |some o=>
   have h0:=aE (hk B o g)
   rw[hB]at h0
   exact absurd h0 (bE _)
 have vQ:upd H B (.lst ((pm.map fun i=>(kvs.map (·.1)).getD i ⟨#[]⟩).map V.str))=uN H [(B,.lst ((pm.map fun i=>(kvs.map (·.1)).getD i ⟨#[]⟩).map V.str))]:=by
  funext b
  unfold upd uN
  by_cases hb:b=B
  ·subst hb;simp
  ·have am:(b==B)=false:=by simpa using hb
   rw[if_neg hb,bJ,am]
   rfl
 have IM:Inv X G σ (uN H [(B,.lst ((pm.map fun i=>(kvs.map (·.1)).getD i ⟨#[]⟩).map V.str))]) {s with heap:=L,toks:=tk}:=by
  refine I.many P (fun p hp=>?_) fun p hp=>?_
  ·rcases aH.mp hp with e|e
   ·rw[e];exact R
   ·cases e
  ·rcases aH.mp hp with e|e
   ·subst e
    refine⟨?_,(pm.map fun i=>a.toList.getD i Value.none),_,?_,al⟩
    ·show(gq V.str (pm.map _)).length<=_
     rw[aa,aa,n.length_eq,bK,aZ];omega
    ·have go:∀l:List Nat,(∀i∈l,i<kvs.length)->zN ((l.map fun i=>(kvs.map (·.1)).getD i ⟨#[]⟩).map V.str) (l.map fun i=>a.toList.getD i Value.none):=by
      intro l
      induction l with
      |nil=>intro _;exact .nil
      |cons i l ih=>
       intro hl
       have hi:=hl i (aj ..)
       have D:i<a.toList.length:=by omega
       refine .cons ?_ (ih fun j hj=>hl j (ak _ hj))
       obtain⟨x,t,e⟩:=Y.all a.toList[i] (cA D)
       refine⟨t,?_⟩
       have e1:a.toList.getD i Value.none=a.toList[i]:=by
        rw[bY,aG D];rfl
       have E:(kvs.map (·.1)).getD i ⟨#[]⟩=x:=by
        rw[<-Y.strs,bY,aq,aG D,e];rfl
       dsimp only
       rw[e1,E,e]
     exact go pm O
   ·cases e
 refine⟨.ref B,_,IM,rfl,?_⟩
 rw[<-vQ]
 refine q _ B ?_ ?_ (I.hok.free R)
 ·have e1:(ba kvs.length).map (fun i=>(kvs.map (·.1)).getD i (⟨#[]⟩:Str))=kvs.map (·.1):=by
   apply eE
   ·simp
   ·intro i h1 L
    have hi:i<kvs.length:=by simpa using h1
    simp[hi]
  have:=n.map (fun i=>(kvs.map (·.1)).getD i (⟨#[]⟩:Str))
  rw[e1]at this
  exact this
 ·rw[cf]
  rw[cf]at N
  exact N
theorem zKm:yB X (binaryOp .Add) (fun x y H Q=>∃a b ys,x=.ref a/\y=.ref b/\yE X.K H a []/\yE X.K H b ys/\Q (.ref b) H):=by
 intro j s σ H x y v u Q I p r h
 obtain⟨a,b,ys,rfl,rfl,t,w,q⟩:=h
 cases p
 cases r
 obtain⟨its,z,A,_⟩:=I.tuple t
 obtain⟨c,G,B,_⟩:=I.tuple w
 have C:its=[]:=by cases z;rfl
 subst C
 obtain⟨⟨cls,D,data,E⟩,l,m,n,hd⟩:=id A
 obtain⟨⟨o,g,data2,i⟩,d,e,F,f⟩:=id B
 simp only at m hd e f
 subst m hd e f
 exact mK ⟨_,l,rfl⟩ ⟨_,d,rfl⟩ jf mh fV fO (fF _ _)
  (tuple_addW0 a b _ c.toArray n F D g E i (by simp)) ⟨l,d,⟨.ref b,H,I,rfl,q⟩⟩
end
structure Known (J:It) (items:List V) (Hk:Hp->Prop):Prop where
 go:∀i H,Hk H->i<items.length->J.go i H
 yld:∀i H x H',Hk H->J.yld i H x H'->H'=H/\(i<items.length->items[i]?=some x)
 stop:∀H,Hk H->J.stop items.length H
theorem zAI (lo:Int)(n:Nat):Known (g6 lo n) ((ba n).map fun(i:Nat)=>V.int (lo+(i:Int))) (fun _=>True) :=
 ⟨fun i H _ h=>by show i<n;simpa using h,fun i H x H' _ h=>⟨h.1,fun hi=>by
  have a:i<n:=by simpa using hi
  rw[aq,dE a,h.2];rfl⟩,fun H _=>by show n<=_;simp⟩
theorem qI (K:ae)(a:ao)(xs:List V):Known (Itl K a) xs (fun H=>yF K H a xs) :=
 ⟨fun i H h hi=>⟨xs,xs[i],h,aG hi⟩,fun i H x H' h y=>⟨y.1,fun _=>y.2 xs h⟩,fun H h=>⟨xs,h,ay _⟩⟩
theorem k6 (K:ae)(a:ao)(xs:List V):Known (Itt K a) xs (fun H=>yE K H a xs) :=
 ⟨fun i H h hi=>⟨xs,xs[i],h,aG hi⟩,fun i H x H' h y=>⟨y.1,fun _=>y.2 xs h⟩,fun H h=>⟨xs,h,ay _⟩⟩
theorem zKn (z:Str):Known (Its z) (z.cps.toList.map fun c=>V.str ⟨#[c]⟩) (fun _=>True) :=
 ⟨fun i H _ h=>by show i<z.cps.size;simpa using h,fun i H x H' _ h=>⟨h.1,fun _=>by
  obtain⟨c,e1,a⟩:=h.2
  rw[aq,da,e1,a];rfl⟩,fun H _=>by show _=z.cps.size;simp⟩
theorem j4 {J:It}{items:List V}{B:Hp->Prop}(t:Known J items B){caps:List Nat}{n:Nat}{σ:St}{g:TG}{C:TT}{D:TE}{F:List V->Hp->Prop}{E:Hp}(cv:St)(k:Nat)(O:items.length<1000)
  (Pv:Nat->List V->Hp->Prop) (G:Pv 0 [] E) (I:∀i a H,i<=items.length->Pv i a H->B H/\a.length<=i)
  (j:∀(i:Nat) (x:V) (a:List V) (H:Hp) (ys:St) (u:List V->St->Hp->Prop),(∀c H' s,s.length=k->Pv (i+1) c H'->u c (cv++s) H')->items[i]?=some x->ys.length=k->Pv i a H->
   g x (cv++ys) H fun d v=>C d v fun b l=>if b=true then D d l fun y h=>u (a++[y]) d h else u a d l)
  (fin:∀a H,Pv items.length a H->F a H) (w:vL caps n σ=cv++aD k none:=by rfl) :
  ∃W:Nat->Nat->List V->St->Hp->Prop,(∃m,W 0 m [] (vL caps n σ) E)/\∀i m a o H',W i m a o H'->
   (J.stop i H'/\F a H')\/
   (J.go i H'/\a.length<sizeLine/\∀x q,J.yld i H' x q->g x o q fun d v=>C d v fun b l=>if b=true then D d l fun y h=>∃f,f<m/\W (i+1) f (a++[y]) d h else∃f,f<m/\W (i+1) f a d l):=by
 refine⟨fun i m a o H'=>i<=items.length/\m=items.length-i/\(∃ys,ys.length=k/\o=cv++ys)/\Pv i a H',⟨items.length,bD _,rfl,⟨_,by simp,w⟩,G⟩,?_⟩
 rintro i m a o H' ⟨hi,rfl,⟨ys,L,rfl⟩,pv⟩
 obtain⟨z,P⟩:=I i a H' hi pv
 by_cases e:i=items.length
 ·subst e
  exact .inl ⟨t.stop H' z,fin a H' pv⟩
 ·have r:i<items.length:=by omega
  refine .inr ⟨t.go i H' z r,by rw[aZ];omega,fun x q A=>?_⟩
  obtain⟨M,N⟩:=t.yld i H' x q z A
  subst M
  exact j i x a q ys (fun c d h=>∃f,f<items.length-i/\(i+1<=items.length/\f=items.length- (i+1)/\(∃ys,ys.length=k/\d=cv++ys)/\Pv (i+1) c h)) (fun c h s hz p=>⟨items.length- (i+1),by omega,by omega,rfl,⟨s,hz,rfl⟩,p⟩) (N r) L pv
theorem qJ {J:It}{items:List V}{t:Hp->Prop}(A:Known J items t){caps:List Nat}{n:Nat}{σ:St}{g:TG}{r:TE}{F:List V->Hp->Prop}{u:Hp}(cv:St)(k:Nat)(B:items.length<1000)
  (Pv:Nat->List V->Hp->Prop) (C:Pv 0 [] u) (D:∀i a H,i<=items.length->Pv i a H->t H/\a.length<=i)
  (l:∀(i:Nat) (x:V) (a:List V) (H:Hp) (ys:St) (h:List V->St->Hp->Prop),(∀d H' v,v.length=k->Pv (i+1) d H'->h d (cv++v) H')->items[i]?=some x->ys.length=k->Pv i a H->
   g x (cv++ys) H fun c f=>r c f fun y j=>h (a++[y]) c j)
  (fin:∀a H,Pv items.length a H->F a H) (s:vL caps n σ=cv++aD k none:=by rfl) :
  ∃W:Nat->Nat->List V->St->Hp->Prop,(∃m,W 0 m [] (vL caps n σ) u)/\∀i m a w H',W i m a w H'->
   (J.stop i H'/\F a H')\/
   (J.go i H'/\a.length<sizeLine/\∀x z,J.yld i H' x z->g x w z fun c f=>j3 c f fun b o=>if b=true then r c o fun y j=>∃q,q<m/\W (i+1) q (a++[y]) c j else∃q,q<m/\W (i+1) q a c o):=by
 refine j4 A cv k B Pv C D (fun i x a H ys h E G I p=>?_) fin s
 have:=l i x a H ys h E G I p
 have e:(fun(c:St) (f:Hp)=>j3 c f fun b o=>if b=true then r c o fun y j=>h (a++[y]) c j else h a c o)=fun c f=>r c f fun y j=>h (a++[y]) c j:=by
  funext c f
  unfold j3
  exact if_pos rfl
 rw[e]
 exact this
theorem jB {J:It}{items:List V}{o:Hp->Prop}(f:Known J items o){g:TG}{q:TS}{D:Ends}{σ:St}{H:Hp}(Pv:Nat->St->Hp->Prop)(s:Pv 0 σ H)(t:∀i σ H,i<=items.length->Pv i σ H->o H)
  (c:∀(i:Nat) (x:V) (σ:St) (H:Hp) (h:St->Hp->Prop),(∀a H',Pv (i+1) a H'->h a H')->items[i]?=some x->Pv i σ H->g x σ H fun j b=>q {D with nx:=h,ct:=h,bk:=D.nx} j b)
  (fin:∀σ H,Pv items.length σ H->D.nx σ H) :
  ∃W:Nat->Nat->St->Hp->Prop,(∃m,W 0 m σ H)/\∀i m σ H,W i m σ H->
   (J.stop i H/\D.nx σ H)\/(J.go i H/\∃N:St->Hp->Prop,(∀a H',N a H'->∃r,r<m/\W (i+1) r a H')/\∀x H',J.yld i H x H'->g x σ H' fun j b=>q {D with nx:=N,ct:=N,bk:=D.nx} j b):=by
 refine⟨fun i m σ H=>i<=items.length/\m=items.length-i/\Pv i σ H,⟨items.length,bD _,rfl,s⟩,?_⟩
 rintro i m σ H ⟨hi,rfl,pv⟩
 have l:=t i σ H hi pv
 by_cases e:i=items.length
 ·subst e
  exact .inl ⟨f.stop H l,fin σ H pv⟩
 ·have d:i<items.length:=by omega
  refine .inr ⟨f.go i H l d,Pv (i+1),fun a H' p=>⟨items.length- (i+1),by omega,by omega,rfl,p⟩,fun x b n=>?_⟩
  obtain⟨u,v⟩:=f.yld i H x b l n
  subst u
  exact c i x σ b (Pv (i+1)) (fun _ _ p=>p) (v d) pv
theorem k7 {c A B:Prop} [Decidable c] (a:c)(h:A):if decide c=true then A else B:=by
 rw[if_pos (decide_eq_true a)];exact h
theorem zAp {c A B:Prop} [Decidable c] (a:¬c)(h:B):if decide c=true then A else B:=by
 rw[if_neg (fun z=>a (of_decide_eq_true z))];exact h
theorem zA.upd_new {H H':Hp}{a:ao}{o:HO}(e:zA H H')(h:H a=none):zA H (upd H' a o):=fun b u q=>by
 rw[zG (yI q h)];exact e b u q
theorem zA.upd1 {H:Hp}{a:ao}{o:HO}(h:H a=none):zA H (upd H a o):=(zA.refl H).upd_new h
def zAq (sc:fi)(XN N:List Str)(scope:fi):Nat->List Nat->Bool
 |_,[]=>true
 |i,c::cs=>(match N[i]? with
  |some x=>decide (XN[c]?=some x)&&decide (scope.names.lookup x=some .free)&& (decide (sc.names.lookup x=some .cell)||decide (sc.names.lookup x=some .free))
  |none=>false)&&zAq sc XN N scope (i+1) cs
def zFS (sc:fi)(XN N:List Str)(scope:fi)(caps:List Nat):Bool :=
 decide (scope.kind=.function)&&decide N.Nodup&&scope.names.all (fun y=>decide (y.2≠.cell))&&scope.names.all (fun y=>decide (y.2=.local->scope.names.lookup y.1=some .local))&&
 scope.names.all (fun y=>decide (y.2=.free->sc.names.lookup y.1=some .cell\/sc.names.lookup y.1=some .free))&&zAq sc XN N scope 0 caps&&decide (caps.length<=N.length)
theorem zFT {g:fi}{l N:List Str}{scope:fi}:∀{caps:List Nat}{j:Nat},zAq g l N scope j caps=true->∀i,i<caps.length->
  ∃x,N[j+i]?=some x/\l[caps.getD i 0]?=some x/\scope.names.lookup x=some .free/\(g.names.lookup x=some .cell\/g.names.lookup x=some .free)
 | [],_,_,i,hi=>by simp at hi
 |c::o,j,h,i,hi=>by
  unfold zAq at h
  rw[bH]at h
  obtain⟨f,m⟩:=h
  cases i with
  |zero=>
   cases e:N[j]? with
   |none=>rw[e]at f;cases f
   |some x=>
    rw[e]at f
    simp only[bH,nQ,decide_eq_true_eq]at f
    exact⟨x,by simpa using e,by simpa using f.1.1,f.1.2,f.2⟩
  |succ i=>
   obtain⟨x,a,b,n,d⟩:=zFT m i (by simpa using hi)
   exact⟨x,by rw[<-a];congr 1;omega,by simpa using b,n,d⟩
theorem vF {j:fi}{l N:List Str}{scope:fi}{caps:List Nat}(h:zFS j l N scope caps=true):CompScope j l N scope caps:=by
 unfold zFS at h
 simp only[bH,decide_eq_true_eq,gk]at h
 obtain⟨⟨⟨⟨⟨⟨a,b⟩,c⟩,d⟩,e⟩,f⟩,g⟩:=h
 exact⟨a,b,c,d,e,fun i hi=>by simpa using zFT f i hi,g⟩
section
variable{X:Cx}{pins:List (ao×Obj)}{σ:St}{H:Hp}{s:ar}
theorem Inv.turnedT {fp:List ao}{h':bx}{t':Nat}{T:ao}{o:HO}(I:Inv X pins σ H s)(k:∀b u,b∉fp->s.heap.get? b=some u->h'.get? b=some u)(h:∀b∈fp,uI X pins H b)(i:s.heap.get? T=none)
  (new:yJ X.prog X.w (upd H T o) h' T o):Inv X pins σ (upd H T o) {s with heap:=h',toks:=t'}:=by
 have j:H T=none:=I.hok.free i
 have d:∀b u,H b=some u->b∉fp:=fun b u e z=>by rw[(h b z).1]at e;cases e
 have f:zA H (upd H T o):=zA.upd1 j
 have old:∀b (u:Obj),s.heap.get? b=some u->upd H T o b=H b:=fun b u e=>by
  rw[zG]
  rintro rfl
  rw[i]at e;cases e
 refine I.step (g':=s.gens) (d':=s.drawn) (ch:=fp) (fun b g=>?_) (fun b o _ _ a e _=>k b o a e) (fun b o _ _ a e _=>⟨o.slots,k b o a e⟩) (fun b u _ e n=>by rw[old b u e];exact n)
  (fun b o a e=>⟨o,k b o a e⟩) (fun b xs e=>f _ _ e) (fun b u v e=>f _ _ e) (fun b ps e=>⟨#[],by rw[f _ _ e];simp⟩) (fun m hm=>?_) (fun b u e=>?_) I.bare
 ·obtain⟨A,f1,f2,l,p,t⟩:=h b g
  exact⟨l,f1,p,t⟩
 ·obtain⟨o,x,ep,y,r⟩:=hm
  exact⟨o,x,ep,k _ o (fun z=>(h _ z).2.1 rfl) y,r⟩
 ·by_cases g:b=T
  ·subst g;rw[zE]at e;cases e;exact new
  ·rw[zG g]at e
   refine(I.hok b u e).stay (fun c v a q=>k c v ?_ q) (fun c q=>?_) fun c xs q=>?_
   ·rcases a with z|z
    ·rw[z];exact d b u e
    ·exact d c _ z
   ·exact f _ _ q
   ·exact f _ _ q
end
theorem zKo:typeLookup (.type "list") "keys"=pure none:=am_miss_of_fast (by kernel_rfl)
theorem zKp {prog:aL}{w:aU}{A:bS}{E:ah->ar->Prop}{s:ar}{a:ao}{o:Obj}{xs:Array ah}{k:Nat}{name:Str}{Q:Option ah->ar->Prop}
  (n:s.heap.get? a=some o) (p:o.cls=.type "list") (f:o.data=.seq xs k) (hd:o.dict=none) (i:typeLookup (.type "list") name=pure none) (j:(["__module__","__name__","__qualname__","__doc__","__annotations__"]:List Str).contains name=false) (t:A.handled=none)
  (h:∀h' tk,(∀b q,s.heap.get? b=some q->h'.get? b=some q)->Q none {s with heap:=h',toks:=tk}) (hsz:name.length+100<=sizeLine:=by size_fits) :
  wpAny (model prog w) A (getAttr? (.ref a) name) Q E s:=by
 obtain⟨c,u,v,x⟩:=o
 simp only at p f hd
 subst p f hd
 obtain⟨y,g,d,tk,os⟩:=s
 have r:∀l,(⟨y,g,d,l,os⟩:ar).TypeIs (.ref a) "list" :=fun _=>⟨_,n,rfl⟩
 have f1:=sub_AttributeError
 have z:=eG.lookup
 have B:=eG.bind (.ref a)
 have C:=am_list_getattr_none
 unfold getAttr? getAttrBy? getAttrBy
 repeat(any_goals (first|assumption|exact r _|((with_reducible show wpAny _ _ (call (Value.builtin "list.__getattribute__") _ _) _ _ _);refine gj eG (r _) am_entry_list_getattribute (PySem.F.args_list_getattribute_2 _ _) (meets_getattribute_miss_list a xs k x name _ i j hsz) ⟨n,t,fun h' l e m=>?_⟩)|wp_step))
 obtain⟨t',D,G⟩:=m.there
 show wpAny _ _ (getattributeRaised _ _ _ _ _ _ _) _ _ _
 unfold getattributeRaised
 repeat(any_goals (first|assumption|wp_step))
 exact h _ _ m.of.keeps
theorem zFU:entryFor table "dict.update.loop"=some cp.«dict.update.loop»:=nv (by kernel_rfl)
theorem zAr:plainId "dict.update.loop"=true:=by decide+kernel
theorem zKq {κ:Type} [DecidableEq κ] {kvs:List (κ×ah)}{k:κ}{v:ah}(h:k∉kvs.map (·.1)):stored kvs k v=kvs++[(k,v)]:=by
 unfold stored
 rw[if_neg]
 rw[List.any_eq_true]
 rintro⟨b,a,c⟩
 exact h (au.mpr ⟨b,a,of_decide_eq_true c⟩)
section
variable{prog:aL}{w:aU}{A:bS}{R:lF->ar->Prop}
theorem zKr {I ax D:ao}{items:Array ah}{kvs:List (Str×ah)}(hh:A.in1.handled=none)(G:ax≠I)(a:D≠I)(H:D≠ax)(h:kvs.length=items.size)(hz:kvs.length<=1000)(nd:(kvs.map (·.1)).Nodup) :
  ∀(m i:Nat) (s:ar),items.size-i=m->i<=items.size->(s.heap.IsListIter I ax i/\s.heap.IsList ax items)->
   (∀(j:Nat) (v:ah),items[j]?=some v->∃q,kvs[j]?=some q/\∃b o t n,v=Value.ref b/\b≠D/\b≠I/\s.heap.get? b=some o/\o.cls=.type "tuple"/\o.data=.seq #[.str q.1 t,q.2] n)->
   s.heap.DictOf (y0 prog w) D ((kvs.take i).map fun q=>((Sum.inr q.1:zI),q.2))->
   (∀h' tk,(∀b o,b≠D->b≠I->s.heap.get? b=some o->h'.get? b=some o)->h'.DictOf (y0 prog w) D (kvs.map fun q=>((Sum.inr q.1:zI),q.2))->R (.ok (.ret .none)) {s with heap:=h',toks:=tk})->
   ∀n:Tok,codeAny (model prog w) A (.builtin "dict.update.loop" ⟨[.ref D,.ref I,.int (i:Int) n,.none],[]⟩) R s:=by
 have W:=ke (prog:=prog) (w:=w) (A:=A.in1) hh I ax G items
 intro m
 induction m with
 |zero=>
  intro i s hm hi st J hd L n
  have M:i=items.size:=by omega
  subst M
  refine bX zFU ?_
  rw[bP zAr _]
  show wpAny _ A.in1 (pyNext (.ref I)>>=_) _ _ s
  refine af (W.done s _ _ st fun h' tk f=>?_)
  show wpAny _ A.in1 (pe D []>>=_) _ _ _
  refine af (av (av (L h' tk (fun b o g l e=>f b o (by simpa using l) e) ?_)))
  rw[<-h,bc]at hd
  obtain⟨o,N,ep,O,vB⟩:=hd
  exact⟨o,N,ep,f D o (by simpa using a) O,vB⟩
 |succ m ih=>
  intro i s hm hi st J hd L n
  have r:i<items.size:=by omega
  refine bX zFU ?_
  rw[bP zAr _]
  show wpAny _ A.in1 (pyNext (.ref I)>>=_) _ _ s
  refine af (W.item i s _ _ r st fun v g tk P Q f=>?_)
  obtain⟨q,hq,b,o,t,nn,rfl,as,T,O,U,X⟩:=J i v P
  have u:g.get? b=some o:=f b o (by simpa using T) O
  have Y:g.DictOf (y0 prog w) D ((kvs.take i).map fun q=>((Sum.inr q.1:zI),q.2)):=by
   obtain⟨x,N,ep,Z,vB⟩:=hd
   exact⟨x,N,ep,f D x (by simpa using a) Z,vB⟩
  show wpAny _ A.in1 (holding [Value.ref b] _>>=_) _ _ _
  refine af (b7 ?_)
  have hT:fG {s with heap:=g,toks:=tk} (.ref b) "tuple" :=⟨o,u,U⟩
  refine af (wpAny_tryCatch ?_)
  unfold pL
  refine af (ip hT ?_)
  rw[if_pos (by decide)]
  refine af (lL u X (av ?_))
  show wpAny _ A.in1 (holding [Value.str q.1 t,q.2] (dictSet D (.str q.1 t) q.2)) _ _ _
  have y:kvs[i]?=some q:=hq
  have B:i<kvs.length:=(ai.mp y).1
  have C:kvs[i]=q:=(ai.mp y).2
  refine b7 (l6 (knd:=y0 prog w) (k:=Sum.inr q.1) (s:={s with heap:=g,toks:=tk}) (zEB prog w q.1 t) Y (fun l c E=>?_) (by rw[aa,aQ,aZ];omega))
  have F:(Sum.inr q.1:zI)∉(((kvs.take i).map fun q=>((Sum.inr q.1:zI),q.2)).map (·.1)):=by
   rw[aJ]
   intro hm
   obtain⟨p,ab,e⟩:=au.mp hm
   have e':p.1=q.1:=lz e
   obtain⟨j,hj,ej⟩:=c8 ab
   have aA:j<i:=by rw[aQ]at hj;omega
   have ac:j<kvs.length:=by omega
   rw[List.getElem_take]at ej
   have:=(fw (xs:=kvs.map (·.1)) (h₀:=by simpa using ac) (h₁:=by simpa using B) nd).mp (by rw[eF,eF,ej,C];exact e')
   omega
  rw[zKq F]at c
  have ed:((kvs.take i).map fun q=>((Sum.inr q.1:zI),q.2))++[((Sum.inr q.1:zI),q.2)]=(kvs.take (i+1)).map fun q=>((Sum.inr q.1:zI),q.2):=by
   rw[az B,C,aF];rfl
  rw[ed]at c
  show wpAny _ A.in1 (again _) _ _ _
  refine av ⟨cX zAr _,?_⟩
  have keep:∀b o,b≠D->b≠I->s.heap.get? b=some o->l.get? b=some o:=fun b o e1 d e=>by
   rw[E.2 b e1];exact f b o (by simpa using d) e
  refine ih (i+1) {s with heap:=l,toks:=tk+1} (by omega) r (W.frame _ g l Q fun b hb o e=>?_) (fun j v P=>?_) c (fun h' al am an=>L h' al (fun b o e1 d e=>am b o e1 d (keep b o e1 d e)) an) _
  ·rw[E.2 b]
   ·exact e
   ·rintro rfl
    rcases aH.mp hb with z|z
    ·exact a z
    ·exact H (by simpa using z)
  ·obtain⟨q',ap,b',x,t',n',e1,d,e3,e4,e5⟩:=J j v P
   exact⟨q',ap,b',x,t',n',e1,d,e3,keep b' x d e3 e4,e5⟩
theorem zKs {E:ah->ar->Prop}{s:ar}{l:ao}{items:Array ah}{kvs:List (Str×ah)}{Q:ah->ar->Prop}(H:A.handled=none)(hl:PlainL s.heap l items)(m:kvs.length=items.size)(hz:kvs.length<=1000)(nd:(kvs.map (·.1)).Nodup)
  (O:∀(j:Nat) (v:ah),items[j]?=some v->∃q,kvs[j]?=some q/\∃b o t n,v=Value.ref b/\s.heap.get? b=some o/\o.cls=.type "tuple"/\o.data=.seq #[.str q.1 t,q.2] n)
  (h:∀h' tk,(∀b o,s.heap.get? b=some o->h'.get? b=some o)->h'.DictOf (y0 prog w) s.heap.objs.size (kvs.map fun q=>((Sum.inr q.1:zI),q.2))->Q (.ref s.heap.objs.size) {s with heap:=h',toks:=tk}) :
  wpAny (model prog w) A (call (.type "dict") [.ref l]) Q E s:=by
 refine callType_codes (Q₁:=fun obj J=>obj=.ref s.heap.objs.size/\J={s with heap:=s.heap.push {cls:=.type "dict",data:=.dict #[]}}) PySem.F.kt_called_dict (PySem.F.kt_typeCall_dict_1 _) PySem.F.entry_dict_init (kt_code_dict_new _ ⟨rfl,rfl⟩) ?_
 rintro obj J ⟨rfl,rfl⟩
 have a:(s.heap.push {cls:=.type "dict",data:=.dict #[]}).DictOf (y0 prog w) s.heap.objs.size []:=nO s.heap
 obtain⟨o,n,L,u,x,hd⟩:=id hl
 have p:l<s.heap.objs.size:=aE L
 have f:(s.heap.push {cls:=.type "dict",data:=.dict #[]}).get? l=some o:=ag _ L
 refine⟨a.typeIs,PySem.F.args_dict_init_2 _ _,?_⟩
 unfold cp.«dict.__init__»
 refine af ?_
 unfold pf
 refine af (wpAny_notOrdered_dict a.typeIs ?_)
 show wpAny _ _ (pure (s.heap.objs.size,[Value.ref l])) _ _ _
 refine av ?_
 show wpAny _ _ (jj "dict.__init__" s.heap.objs.size (.ref l) [] .none) _ _ _
 unfold jj
 have P:fG {s with heap:=s.heap.push {cls:=.type "dict",data:=.dict #[]}} (.ref l) "list" :=⟨o,f,u⟩
 refine af (ip P ?_)
 rw[if_pos (by decide)]
 refine af (zKp f u hd x zKo (by decide) (by simp[H]) (fun i y d=>?_))
 rw[if_pos (show(none:Option ah).isNone=true from rfl)]
 refine af (iH (af ?_))
 have hl2:i.IsList l items:=⟨o,d _ _ f,u,n,hd⟩
 refine d3 (s:={s with heap:=i,toks:=y}) hl2 ?_
 have c:s.heap.objs.size<i.objs.size:=by
  obtain⟨M,N,ep,g,_⟩:=a
  exact aE (d _ _ g)
 have r:l<i.objs.size:=jz p c
 refine av ⟨cX zAr _,?_⟩
 have old:∀b o,s.heap.get? b=some o->i.get? b=some o:=fun b o e=>d b o (ag _ e)
 refine zKr (I:=i.objs.size) (ax:=l) (D:=s.heap.objs.size) (items:=items) (kvs:=kvs) (by simp[H]) (aS r) (aS c) (dj p) m hz nd items.size 0 _ rfl (bD _)
  ⟨⟨_,aB _ rfl,rfl,rfl⟩,hl2.push _⟩ (fun j v T=>?_) ?_ (fun h' z B C=>⟨rfl,h h' z (fun b o e=>?_) C⟩) _
 ·obtain⟨q,U,b,W,t,X,e1,G,Y,Z⟩:=O j v T
  exact⟨q,U,b,W,t,X,e1,aS (aE G),aS (jz (aE G) c),ag _ (old _ _ G),Y,Z⟩
 ·rw[om]
  obtain⟨M,N,ep,g,vB⟩:=a
  exact⟨M,N,ep,ag _ (d _ _ g),vB⟩
 ·exact B b o (aS (aE e)) (aS (jz (aE e) c)) (ag _ (old _ _ e))
end
section
variable{X:Cx}
def zAs (K:ae)(H:Hp)(ts:List V)(kvs:List (Str×V)):Prop:=ts.length=kvs.length/\∀(i:Nat) (q:Str×V),kvs[i]?=some q->∃a,ts[i]?=some (.ref a)/\yE K H a [.str q.1,q.2]
theorem zKt {c:List (ao×Obj)}{σ:St}{H:Hp}{s:ar}(I:Inv X c σ H s){w:List V}{kvs:List (Str×V)}{its:List ah}(f:zAs X.K H w kvs)(g:zN w its) :
  ∃e:List (Str×ah),KV kvs e/\∀(j:Nat) (v:ah),its[j]?=some v->∃q,e[j]?=some q/\∃b o t n,v=Value.ref b/\s.heap.get? b=some o/\o.cls=.type "tuple"/\o.data=.seq #[.str q.1 t,q.2] n:=by
 have one:∀(i:Nat) (q:Str×V) (u:ah),kvs[i]?=some q->its[i]?=some u->∃x,zS q.2 x/\∃b o t n,u=Value.ref b/\s.heap.get? b=some o/\o.cls=.type "tuple"/\o.data=.seq #[.str q.1 t,x] n:=fun i q u A B=>by
  obtain⟨a,C,D⟩:=f.2 i q A
  obtain⟨y,e1,h⟩:=g.get C
  rw[B]at e1
  cases e1
  cases h
  obtain⟨z,E,⟨o,F,G,n,hd⟩,_⟩:=I.tuple D
  obtain⟨Q,J,rfl,l,m⟩:=zBf E
  obtain⟨t,rfl⟩:=l
  exact⟨J,m,a,o,t,n,rfl,F,G,hd⟩
 have hl:its.length=kvs.length:=by rw[<-g.length];exact f.1
 clear f g
 induction kvs generalizing its with
 |nil=>
  refine⟨[],.nil,fun j v d=>?_⟩
  have:its=[]:=by simpa using hl
  rw[this]at d;simp at d
 |cons q kvs ih=>
  cases its with
  |nil=>simp at hl
  |cons u its=>
   obtain⟨x,L,M⟩:=one 0 q u rfl rfl
   obtain⟨e,N,p⟩:=ih (its:=its) (fun i r y O P=>one (i+1) r y (by simpa using O) (by simpa using P)) (by simpa using hl)
   refine⟨(q.1,x)::e,.cons ⟨rfl,L⟩ N,fun j v d=>?_⟩
   cases j with
   |zero=>
    have:u=v:=by simpa using d
    subst this
    exact⟨_,rfl,M⟩
   |succ j=>
    obtain⟨r,e1,h⟩:=p j v (by simpa using d)
    exact⟨r,by simpa using e1,h⟩
theorem KV.enc {kvs:List (Str×V)}{a:List (Str×ah)}(h:KV kvs a):KV (yN kvs) (a.map fun q=>((Sum.inr q.1:zI),q.2)):=by
 induction h with
 |nil=>exact .nil
 |cons h t ih=>exact .cons ⟨congrArg Sum.inr h.1,h.2⟩ ih
def zKu (K:ae):List V->Hp->VK->Prop:=fun xs H Q=>∃p ts kvs,xs=[.ref p]/\yF K H p ts/\zAs K H ts kvs/\(kvs.map (·.1)).Nodup/\kvs.length<=1000/\∀d,H d=none->Q (.ref d) (upd H d (.dK (yN kvs)))
theorem zFV (l:X.calm=true):qD X (.type "dict") (zKu X.K):=by
 intro f s σ H xs z Q I m h
 obtain⟨p,A,kvs,rfl,n,a,nd,hz,q⟩:=h
 obtain⟨u,rfl,r⟩:=qE m
 cases r
 obtain⟨its,g,pl,_⟩:=I.list n
 obtain⟨i,c,d⟩:=zKt I a g
 have hl:i.length=kvs.length:=(cy c).symm
 have b:its.length=kvs.length:=by rw[<-g.length];exact a.1
 refine zKs (kvs:=i) (I.ok.hd l) pl (by rw[hl];simp[b]) (by omega) (by rw[<-c.keys];exact nd) (fun j v t=>d j v (by simpa using t)) fun h' tk w hd=>?_
 have e:(s.heap.objs.size==sysModules)=false:=by
  have x:=I.big
  have y:s.heap.objs.size≠sysModules:=dj x
  simpa using y
 exact⟨.ref s.heap.objs.size,_,I.laid (t':=tk) (o:=.dK (yN kvs)) w (ay _) (zAl (by simp[yN];rw[aZ];omega) e c.enc hd),rfl,q _ (I.hok.fresh (ay _))⟩
end
end L2
end
section
set_option autoImplicit false
namespace Kn
abbrev S:=List Nat
section
variable{κ α:Type} [DecidableEq κ]
def zX:List (κ×α)->κ->α->List (κ×α)
 | [],k,v=>[(k,v)]
 |(k',v')::r,k,v=>if k'=k then(k',v)::r else(k',v')::zX r k v
def zK:List (κ×α)->κ->Option α
 | [],_=>none
 |(k',v')::r,k=>if k'=k then some v' else zK r k
theorem zAt (l:List (κ×α))(k a:κ)(v:α):zK (zX l k v) a=if k=a then some v else zK l a:=by
 induction l with
 |nil=>simp[zX,zK]
 |cons p r ih=>
  obtain⟨b,v0⟩:=p
  by_cases h:b=k
  ·subst h
   by_cases h':b=a<;>simp[zX,zK,h']
  ·simp only[zX,if_neg h,zK,ih]
   by_cases c:b=a
   ·subst c
    rw[if_pos rfl,if_pos rfl,if_neg (fun e=>h e.symm)]
   ·rw[if_neg c,if_neg c]
theorem zFW (l:List (κ×α))(k:κ)(v:α):(zX l k v).map (·.1)=if k∈l.map (·.1)then l.map (·.1)else l.map (·.1)++[k]:=by
 induction l with
 |nil=>simp[zX]
 |cons p r ih=>
  obtain⟨a,v0⟩:=p
  by_cases h:a=k
  ·subst h;simp[zX]
  ·have h':¬k=a:=fun e=>h e.symm
   simp only[zX,if_neg h,aC,ih,aH,h',false_or]
   split<;>simp
theorem zAu {l:List (κ×α)}{k:κ}{v:α}(h:(l.map (·.1)).Nodup):((zX l k v).map (·.1)).Nodup:=by
 rw[zFW]
 split
 ·exact h
 ·rename_i c
  exact d6.mpr ⟨h,by simp,fun a d b f e=>by
   have:b=k:=by simpa using f
   subst this;subst e;exact c d⟩
theorem vA {l:List (κ×α)}(h:(l.map (·.1)).Nodup)(k:κ)(v:α):(k,v)∈l↔zK l k=some v:=by
 induction l with
 |nil=>simp[zK]
 |cons p r ih=>
  obtain⟨a,v0⟩:=p
  have b:a∉r.map (·.1):=(br.mp h).1
  have c:=ih (br.mp h).2
  by_cases e:a=k
  ·subst e
   have g:zK ((a,v0)::r) a=some v0:=by simp[zK]
   rw[g,aH]
   constructor
   ·rintro(z|z)
    ·rw[(bW z).2]
    ·exact absurd (l7 (f:=(·.1)) z) b
   ·intro z;rw[aw z];exact .inl rfl
  ·simp only[zK,if_neg e,aH,Prod.mk.injEq]
   rw[<-c]
   constructor
   ·rintro(z|z)
    ·exact absurd z.1.symm e
    ·exact z
   ·intro z;exact .inr z
theorem zFX {l:List (κ×α)}{k:κ}:zK l k=none↔k∉l.map (·.1):=by
 induction l with
 |nil=>simp[zK]
 |cons p r ih=>
  obtain⟨a,v0⟩:=p
  by_cases e:a=k
  ·subst e;simp[zK]
  ·have b:¬k=a:=fun z=>e z.symm
   simp only[zK,if_neg e,ih,aC,aH,b,false_or]
end
def vR (row:List (S×Int))(l:S):List (S×Int):=zX row l ((zK row l).getD 0+1)
def yU (rows:List (S×List (S×Int)))(p:S×S):List (S×List (S×Int)):=zX rows p.1 (vR ((zK rows p.1).getD []) p.2)
def y6 (ps:List (S×S)):List (S×List (S×Int)):=ps.foldl yU []
theorem zKv (ps:List (S×S))(p:S×S):y6 (ps++[p])=yU (y6 ps) p:=by
 unfold y6;rw[cg];rfl
def zF (t:S)(o:Nat):S:=t.drop (t.length-o)
def z0 (o:Nat)(nm:S):List (S×S):=(ba (nm.length+1)).map fun p=>(zF (nm.take p) o,(nm.drop p).take 1)
def zC (o:Nat)(bk:List S):List (S×S):=bk.flatMap (z0 o)
structure RowsOk (ps:List (S×S)) (rows:List (S×List (S×Int))):Prop where
 nd:(rows.map (·.1)).Nodup
 ndr:∀e row,(e,row)∈rows->(row.map (·.1)).Nodup
 val:∀e l,zK ((zK rows e).getD []) l=if 0<ps.count (e,l)then some (ps.count (e,l):Int)else none
 has:∀e,(∃row,zK rows e=some row)↔∃l,(e,l)∈ps
theorem yH (ps:List (S×S)):RowsOk ps (y6 ps):=by
 suffices h:∀(f ps:List (S×S)) rows,RowsOk ps rows->RowsOk (ps++f) (f.foldl yU rows) by
  have:=h ps [] [] ⟨by simp,by simp,by simp[zK],by simp[zK]⟩
  simpa [y6]using this
 intro f
 induction f with
 |nil=>intro ps rows h;simpa using h
 |cons q f ih=>
  intro ps rows h
  obtain⟨a,b⟩:=q
  have step:RowsOk (ps++[(a,b)]) (yU rows (a,b)):=by
   have i:((((zK rows a).getD []).map (·.1))).Nodup:=by
    cases g:zK rows a with
    |none=>simp
    |some row=>exact h.ndr a row ((vA h.nd a row).mpr g)
   refine⟨zAu h.nd,fun e row hm=>?_,fun e l=>?_,fun e=>?_⟩
   ·have c:=(vA (zAu h.nd) e row).mp hm
    unfold yU at c
    rw[zAt]at c
    split at c
    ·have:=aw c
     rw[<-this]
     exact zAu i
    ·exact h.ndr e row ((vA h.nd e row).mpr c)
   ·unfold yU
    rw[zAt]
    by_cases d:a=e
    ·subst d
     rw[if_pos rfl]
     show zK (vR ((zK rows a).getD []) b) l=_
     unfold vR
     rw[zAt,h.val a b]
     by_cases hl:b=l
     ·subst hl
      rw[if_pos rfl,iW]
      have e1:iI (a,b) [(a,b)]=1:=by simp
      rw[e1]
      by_cases j:0<iI (a,b) ps
      ·simp[j]
      ·have:iI (a,b) ps=0:=by omega
       simp[this]
     ·rw[if_neg hl,h.val a l,iW]
      have e1:iI (a,l) [(a,b)]=0:=by
       simp[kx,hl]
      rw[e1,kf]
    ·rw[if_neg d]
     rw[h.val e l,iW]
     have e1:iI (e,l) [(a,b)]=0:=by
      simp[kx,d]
     rw[e1,kf]
   ·unfold yU
    rw[zAt]
    by_cases d:a=e
    ·subst d
     rw[if_pos rfl]
     exact⟨fun _=>⟨b,by simp⟩,fun _=>⟨_,rfl⟩⟩
    ·rw[if_neg d,h.has e]
     constructor
     ·rintro⟨l,hl⟩;exact⟨l,bG _ hl⟩
     ·rintro⟨l,hl⟩
      rcases bt.mp hl with z|z
      ·exact⟨l,z⟩
      ·have:(e,l)=(a,b):=by simpa using z
       exact absurd (congrArg mV this).symm d
  have:=ih (ps++[(a,b)]) (yU rows (a,b)) step
  simpa using this
def Ris {α:Type}(xs:List (S×α)):Prop:=xs.Pairwise fun a b=>a.1<b.1
theorem k8 (a:S):¬a<a:=iE a
theorem zKw {a b c:S}(d:a<b)(e:b<c):a<c:=pb d e
theorem Ris.keys {α:Type}{xs:List (S×α)}(h:Ris xs):(xs.map (·.1)).Nodup:=by
 unfold Ris at h
 rw[qu,cf]
 exact h.imp fun{a b} c (e:a.1=b.1)=>k8 b.1 (e▸c)
theorem zFY {β:Type} [BEq β] [LawfulBEq β]:∀(ps ks:List β),ks.Nodup->(∀x∈ps,x∈ks)->(ks.map fun k=>(ps.count k:Int)).sum=(ps.length:Int)
 | [],ks,_,_=>by
  have:(ks.map fun k=>(([]:List β).count k:Int))=ks.map fun _=>(0:Int):=by simp
  rw[this]
  induction ks with
  |nil=>rfl
  |cons k r ih=>simp_all
 |x::ps,ks,nd,h=>by
  have ih:=zFY ps ks nd fun y c=>h y (ak _ c)
  have no:∀(ks:List β),x∉ks->(ks.map fun k=>((x::ps).count k:Int)).sum=(ks.map fun k=>(ps.count k:Int)).sum:=by
   intro ks
   induction ks with
   |nil=>intro _;rfl
   |cons k r ih=>
    intro a
    have hx1:¬x=k:=fun e=>a (e▸aj ..)
    have hx2:x∉r:=fun e=>a (ak _ e)
    simp only[aC,aO,ih hx2,ll hx1]
  have one:∀(ks:List β),ks.Nodup->x∈ks->(ks.map fun k=>((x::ps).count k:Int)).sum=(ks.map fun k=>(ps.count k:Int)).sum+1:=by
   intro ks
   induction ks with
   |nil=>intro _ a;cases a
   |cons k r ih=>
    intro nd a
    have d:=(br.mp nd).1
    by_cases e:x=k
    ·subst e
     simp only[aC,aO,no r d,List.count_cons_self]
     omega
    ·have b:x∈r:=(aH.mp a).elim (fun z=>absurd z e) id
     simp only[aC,aO,ih (br.mp nd).2 b,ll e]
     omega
  rw[one ks nd (h x (aj ..)),ih,aX]
  omega
theorem zKx (o:Nat)(a b:List S):zC o (a++b)=zC o a++zC o b:=by
 unfold zC;rw[ig]
theorem zAv (o:Nat)(a:List S):((zC o a).length:Int)=(a.map fun x=>(x.length:Int)+1).sum:=by
 induction a with
 |nil=>rfl
 |cons x r ih=>
  have e1:zC o (x::r)=z0 o x++zC o r:=rfl
  rw[e1,aI,aC,aO,<-ih]
  simp[z0]
theorem zKy (t:S)(o:Nat):(zF t o).length<=o:=by unfold zF;rw[bQ];omega
theorem zAw {t:S}{o:Nat}(h:t.length<=o):zF t o=t:=by
 unfold zF
 have:t.length-o=0:=by omega
 rw[this,iF]
end Kn
end
section
set_option autoImplicit false
namespace Kn
def yA (a b:Int):Int:=(gm a b:Int)
def low (u d:Int):Int×Int:=(u/yA u d,d/yA u d)
structure Fq (q:Int×Int):Prop where
 up:0<=q.1
 dn:0<q.2
 co:gm q.1 q.2=1
theorem zAJ {u d:Int}(hd:0<d):0<yA u d:=by
 have:0<gm u d:=Int.gcd_pos_iff.mpr (.inr (by omega))
 unfold yA;omega
theorem zKz (u d:Int):u=yA u d*(u/yA u d):=(lM (by unfold yA;exact jk ..)).symm
theorem zFZ (u d:Int):d=yA u d*(d/yA u d):=(lM (by unfold yA;exact d7 ..)).symm
theorem uE {u d:Int}(hd:0<d):(low u d).1*d=u*(low u d).2:=by
 have c:=zKz u d
 have e:=zFZ u d
 show u/yA u d*d=u*(d/yA u d)
 generalize yA u d=g at*
 generalize u/g=a at*
 generalize d/g=b at*
 rw[c,e,<-ph,dH a g]
theorem uF {u d:Int}(c:0<=u)(hd:0<d):Fq (low u d):=by
 have b:=zAJ (u:=u) hd
 refine⟨nR c (bo b),?_,?_⟩
 ·have e:=zFZ u d
  show 0<d/yA u d
  rcases Int.lt_trichotomy (d/yA u d) 0 with h|h|h
  ·have:=Int.mul_neg_of_pos_of_neg b h
   omega
  ·rw[h,pM]at e;omega
  ·exact h
 ·show gm (u/yA u d) (d/yA u d)=1
  unfold yA at*
  have a:0<gm u d:=by omega
  rw[Int.gcd_ediv (jk ..) (d7 ..)]
  simp
  exact Nat.div_self a
theorem Fq.ext {p q:Int×Int}(a:Fq p)(b:Fq q)(h:p.1*q.2=q.1*p.2):p=q:=by
 obtain⟨s,t⟩:=p
 obtain⟨u,v⟩:=q
 obtain⟨f,g,i⟩:=a
 obtain⟨j,l,n⟩:=b
 dsimp only at*
 obtain⟨x,rfl⟩:=ck f
 obtain⟨y,rfl⟩:=ck (bo g)
 obtain⟨z,rfl⟩:=ck j
 obtain⟨w,rfl⟩:=ck (bo l)
 have h':x*w=z*y:=by exact_mod_cast h
 have c:pN x y=1:=by simpa [gm]using i
 have d:pN z w=1:=by simpa [gm]using n
 have o:0<y:=by omega
 have A:0<w:=by omega
 have d1:y∣w:=gc (m:=x) (by rw[qb,kg];exact c) (by rw[h'];exact ny ..)
 have r:w∣y:=gc (m:=z) (by rw[qb,kg];exact d) (by rw[<-h'];exact ny ..)
 have e:y=w:=Nat.dvd_antisymm d1 r
 subst e
 have:x=z:=Nat.eq_of_mul_eq_mul_right o h'
 rw[this]
theorem zCA {u d a d':Int}(e:0<=u)(hd:0<d)(c:0<=a)(b:0<d')(h:u*d'=a*d):low u d=low a d':=by
 refine Fq.ext (uF e hd) (uF c b) ?_
 have c1:=uE (u:=u) hd
 have c2:=uE (u:=a) b
 generalize low u d=p at*
 generalize low a d'=q at*
 have:(p.1*q.2)*(d*d')=(q.1*p.2)*(d*d'):=by
  calc (p.1*q.2)*(d*d')=(p.1*d)*(q.2*d'):=by ac_rfl
   _=(u*p.2)*(q.2*d'):=by rw[c1]
   _=(u*d')*(p.2*q.2):=by ac_rfl
   _=(a*d)*(p.2*q.2):=by rw[h]
   _=(a*q.2)*(p.2*d):=by ac_rfl
   _=(q.1*d')*(p.2*d):=by rw[c2]
   _=(q.1*p.2)*(d*d'):=by ac_rfl
 exact dQ (by have:=cx hd b;omega) this
theorem zCB {u d:Int}(a:0<=u)(hd:0<d):(low u d).2<=d/\(low u d).1<=u:=by
 have b:=zAJ (u:=u) hd
 exact⟨nz _ (by omega),nz _ a⟩
def yR (p q:Int×Int):Int×Int:=low (p.1*q.1) (p.2*q.2)
def jN (p q:Int×Int):Int×Int:=low (p.1*q.2+q.1*p.2) (p.2*q.2)
def k9 (p q:Int×Int):Bool:=decide (p.1*q.2<q.1*p.2)
theorem gA {p q:Int×Int}(a:Fq p)(b:Fq q):Fq (yR p q):=uF (c6 a.up b.up) (cx a.dn b.dn)
theorem zCC:Fq (0,1):=⟨by decide,by decide,by decide⟩
theorem jO:Fq (1,1):=⟨by decide,by decide,by decide⟩
theorem zAx {d:Int}(hd:0<d):low 0 d=(0,1):=by
 refine Fq.ext (uF (Int.le_refl _) hd) zCC ?_
 have:=uE (u:=0) hd
 rw[iq]at this
 have a:(low 0 d).1=0:=by
  rcases Int.mul_eq_zero.mp this with h|h
  ·exact h
  ·omega
 rw[a];simp
theorem zFa {d:Int}(hd:0<d):low d d=(1,1):=by
 refine Fq.ext (uF (bo hd) hd) jO ?_
 have:=uE (u:=d) hd
 rw[dH]at this
 have:=Int.eq_of_mul_eq_mul_left (by omega) this
 rw[this]
 exact dH _ _
theorem zLA {q:Int×Int}(b:Fq q):yR (0,1) q=(0,1):=by
 unfold yR
 have:((0:Int),(1:Int)).1*q.1=0:=iq _
 rw[this]
 exact zAx (cx (by decide) b.dn)
theorem zLB {p:Int×Int}(a:Fq p):yR p (0,1)=(0,1):=by
 unfold yR
 have:p.1*((0:Int),(1:Int)).1=0:=pM _
 rw[this]
 exact zAx (cx a.dn (by decide))
theorem zLC {p q:Int×Int}(a:Fq p)(b:Fq q)(d:0<p.1)(e:0<q.1):0<(yR p q).1:=by
 have f:=gA a b
 have c:(yR p q).1*(p.2*q.2)=(p.1*q.1)*(yR p q).2:=uE (cx a.dn b.dn)
 rcases mz f.up with h|h
 ·exact h
 ·rw[<-h,iq]at c
  have g:0<p.1*q.1:=cx d e
  have i:0<(p.1*q.1)*(yR p q).2:=cx g f.dn
  omega
theorem zLD {u d:Int}(a:0<u)(hd:0<d):0<(low u d).1:=by
 have f:=uF (bo a) hd
 have c:=uE (u:=u) hd
 rcases mz f.up with h|h
 ·exact h
 ·rw[<-h,iq]at c
  have:=cx a f.dn
  omega
theorem zAy {u d:Int}(a:0<=u)(hd:0<d)(h:u<=d):(low u d).1<=(low u d).2:=by
 have f:=uF a hd
 have c:=uE (u:=u) hd
 by_cases b:(low u d).1<=(low u d).2
 ·exact b
 ·exfalso
  have e:(low u d).2+1<=(low u d).1:=by omega
  have g:((low u d).2+1)*d<=(low u d).1*d:=dh e (bo hd)
  have i:u*(low u d).2<=d*(low u d).2:=dh h (bo f.dn)
  rw[fP,Int.one_mul,dH (low u d).2 d]at g
  omega
theorem zLE {p q:Int×Int}(a:Fq p)(b:Fq q)(c:p.1<=p.2)(d:q.1<=q.2):(yR p q).1<=(yR p q).2 :=
 zAy (c6 a.up b.up) (cx a.dn b.dn) (eI c d b.up (bo a.dn))
theorem zFb {T:Int}(a:0<T){S n:Int}(b:0<=S)(c:0<=n):jN (low S T) (low n T)=low (S+n) T:=by
 have f1:=uF b a
 have f2:=uF c a
 have c1:=uE (u:=S) a
 have c2:=uE (u:=n) a
 unfold jN
 generalize low S T=p at*
 generalize low n T=q at*
 refine zCA (oo (c6 f1.up (bo f2.dn)) (c6 f2.up (bo f1.dn))) (cx f1.dn f2.dn) (by omega) a ?_
 calc (p.1*q.2+q.1*p.2)*T=(p.1*T)*q.2+(q.1*T)*p.2:=by rw[fP];congr 1<;>ac_rfl
  _=(S*p.2)*q.2+(n*q.2)*p.2:=by rw[c1,c2]
  _=(S+n)*(p.2*q.2):=by rw[fP];congr 1<;>ac_rfl
end Kn
end
section
set_option autoImplicit false
namespace Kn
def tot (ps:List (S×S))(e:S):Nat:=(ps.filter fun p=>p.1=e).length
def zJ (ps:List (S×S))(e l:S):Int×Int:=if ps.count (e,l)=0 then(0,1)else low (ps.count (e,l):Int) (tot ps e:Int)
def v4 (ps:List (S×S))(qs:List (S×S)):Int×Int:=qs.foldl (fun w p=>yR w (zJ ps p.1 p.2)) (1,1)
def v9 (ps:List (S×S))(o:Nat)(nm:S):Int×Int:=v4 ps (z0 o nm)
theorem qK (ps:List (S×S))(e l:S):ps.count (e,l)<=tot ps e:=by
 unfold tot
 rw[<-mW (l:=ps) (p:=fun p=>decide (p.1=e)) (a:=(e,l)) (by simp)]
 exact List.count_le_length
theorem v5 (ps:List (S×S))(e l:S):Fq (zJ ps e l):=by
 unfold zJ
 split
 ·exact zCC
 ·have:=qK ps e l
  exact uF (by omega) (by omega)
theorem zFc (ps:List (S×S))(e l:S):(zJ ps e l).1<=(zJ ps e l).2:=by
 unfold zJ
 split
 ·decide
 ·have:=qK ps e l
  exact zAy (by omega) (by omega) (by omega)
theorem zLF {ps:List (S×S)}{e l:S}(h:(e,l)∈ps):0<(zJ ps e l).1:=by
 have a:=bV.mpr h
 have:=qK ps e l
 unfold zJ
 rw[if_neg (by omega)]
 exact zLD (by omega) (by omega)
theorem zAz {ps:List (S×S)}{e l:S}(h:(e,l)∉ps):zJ ps e l=(0,1):=by
 unfold zJ
 rw[if_pos (List.count_eq_zero.mpr h)]
theorem zCD {ps:List (S×S)}(e l:S)(h:1<=ps.length):(zJ ps e l).2<=(ps.length:Int):=by
 unfold zJ
 split
 ·show(1:Int)<=_;omega
 ·have a:=qK ps e l
  have b:tot ps e<=ps.length:=cb _ _
  have:=(zCB (u:=(ps.count (e,l):Int)) (d:=(tot ps e:Int)) (by omega) (by omega)).1
  omega
theorem zCE (ps:List (S×S)):∀(a:List (S×S)) (w:Int×Int),Fq w->Fq (a.foldl (fun w p=>yR w (zJ ps p.1 p.2)) w)
 | [],w,h=>h
 |q::a,w,h=>zCE ps a _ (gA h (v5 ps q.1 q.2))
theorem zCF (ps:List (S×S)):∀(a:List (S×S)) (w:Int×Int),Fq w->w.1<=w.2->(a.foldl (fun w p=>yR w (zJ ps p.1 p.2)) w).1<=(a.foldl (fun w p=>yR w (zJ ps p.1 p.2)) w).2
 | [],w,_,h=>h
 |q::a,w,f,h=>zCF ps a _ (gA f (v5 ps q.1 q.2)) (zLE f (v5 ps q.1 q.2) h (zFc ps q.1 q.2))
theorem zFd (ps:List (S×S)):∀(a:List (S×S)) (w:Int×Int),Fq w->0<w.1->(∀q∈a,q∈ps)->0<(a.foldl (fun w p=>yR w (zJ ps p.1 p.2)) w).1
 | [],w,_,h,_=>h
 |q::a,w,f,h,b=>zFd ps a _ (gA f (v5 ps q.1 q.2)) (zLC f (v5 ps q.1 q.2) h (zLF (b q (aj ..)))) fun r c=>b r (ak _ c)
theorem zFe (ps:List (S×S)):∀(a:List (S×S)),a.foldl (fun w p=>yR w (zJ ps p.1 p.2)) (0,1)=(0,1)
 | []=>rfl
 |q::a=>by
  rw[bR,zLA (v5 ps q.1 q.2)]
  exact zFe ps a
theorem zFf {ps:List (S×S)}(b:1<=ps.length):∀(a:List (S×S)) (w:Int×Int) (k:Nat),Fq w->w.2<=(ps.length:Int)^k->(a.foldl (fun w p=>yR w (zJ ps p.1 p.2)) w).2<=(ps.length:Int)^(k+a.length)
 | [],w,k,_,h=>h
 |q::a,w,k,f,h=>by
  have g:=v5 ps q.1 q.2
  have e:k+(q::a).length=(k+1)+a.length:=by simp;omega
  rw[e,bR]
  refine zFf b a _ (k+1) (gA f g) ?_
  have c:(yR w (zJ ps q.1 q.2)).2<=w.2*(zJ ps q.1 q.2).2:=(zCB (c6 f.up g.up) (cx f.dn g.dn)).1
  have d:w.2*(zJ ps q.1 q.2).2<=(ps.length:Int)^k*(ps.length:Int):=eI h (zCD q.1 q.2 b) (bo g.dn) (by have:=f.dn;omega)
  rw[fB]
  omega
theorem zLG (ps:List (S×S))(o:Nat)(nm:S):Fq (v9 ps o nm):=zCE ps _ _ jO
theorem zLH (ps:List (S×S))(o:Nat)(nm:S):(v9 ps o nm).1<=(v9 ps o nm).2:=zCF ps _ _ jO (by decide)
theorem zLI {o:Nat}{bk:List S}{nm:S}(h:nm∈bk):∀q∈z0 o nm,q∈zC o bk:=fun q a=>bb.mpr ⟨nm,h,a⟩
theorem zLJ {p:Int×Int}:k9 (0,1) p=decide (0<p.1):=by
 simp only[k9]
 congr 1
 simp
end Kn
end
section
namespace Kn
open PySem L2
theorem z7 {N P:List Str}{h:fi}(a:h.kind=.function:=by rfl)(b:h.isCoroutine=false:=by rfl)(c:h.isGenerator=false:=by rfl)(d:N.Nodup:=by decide+kernel)(e:N.take P.length=P:=by rfl)(f:∀x∈P,h.names.lookup x=some .local\/h.names.lookup x=some .cell:=by decide+kernel)(g:∀y∈h.names,y.2≠.free:=by decide+kernel):FnScope N P h:=⟨a,b,c,d,e,f,g⟩
def zR (P:aL)(w:aU)(K:ae)(mg:Str->Option ah)(base:bx)(k:Nat)(x:Str)(ps:List Str)(sp:Sp):Prop :=
 ∃(f:ao) (fd:aY),FnOk P w K mg base zY k f fd ps sp/\mg x=some (.ref f)/\eB K (.ref f)=true/\jJ K fd ps []
theorem zM {X:Cx}{k:Nat}{x:Str}{ps:List Str}{sp:Sp}{p pos:Pos}{e:bO}{c:List bO}{t:TA}(C:zR X.prog X.w X.K X.mg X.base k x ps sp)(g:Room k X.A)(h:Gl X x)(i:PA X (e::c) t)
  (j:starEach (e::c) X.env=(false,eval e X.env)::starEach c X.env:=by rfl) (a:(backTo pos (starEach c X.env)).any (·.1)=false:=by rfl)
  (d:(x==("__debug__" : Str))=false:=by decide):PE X (.Call (.Name x p) (e::c) [] pos) (zEY sp [] E0 t):=by
 obtain⟨f,fd,G,hm,kp,b⟩:=C
 exact zJR G g h hm kp b .nil zKK i d j a
abbrev tx (x:S):Str:=⟨x.toArray⟩
abbrev sv (x:S):V:=.str (tx x)
theorem qL (x:S):(tx x).cps.toList=x:=by simp[tx]
theorem yL (x:S):(tx x).length=x.length:=by simp[tx,n8]
theorem zCG {n i:Nat}{x:V}(h:((ba n).map fun(i:Nat)=>V.int (0+(i:Int)))[i]?=some x):i<n/\x=.int i:=by
 have hi:i<n:=by
  have:=(ai.mp h).1
  simpa using this
 refine⟨hi,?_⟩
 rw[aq,dE hi]at h
 have:=aw h
 rw[<-this]
 show V.int (0+(i:Int))=V.int i
 rw[pO]
theorem ys1 {ys:St}(h:ys.length=1):∃y,ys=[y]:=by
 match ys,h with
 | [y],_=>exact⟨y,rfl⟩
theorem ys2 {ys:St}(h:ys.length=2):∃y z,ys=[y,z]:=by
 match ys,h with
 | [y,z],_=>exact⟨y,z,rfl⟩
structure Blt (mg:Str->Option ah):Prop where
 len:mg "len"=none
 range:mg "range"=none
 all:mg "all"=none
 isinstance:mg "isinstance"=none
 str:mg "str"=none
 tuple:mg "tuple"=none
 int:mg "int"=none
 bool:mg "bool"=none
 sorted:mg "sorted"=none
 sum:mg "sum"=none
 min:mg "min"=none
section
variable{P:aL}{w:aU}{K:ae}{mg:Str->Option ah}{base:bx}
theorem zLK (t:S)(o:Nat)(b:1<=o):jM (tx t) (some (-(o:Int))) none=tx (zF t o):=by
 unfold jM
 rw[yL,qL]
 have e1:HT.sIx t.length 0 (some (-(o:Int)))=t.length-o:=by
  show(if-(o:Int)<0 then(-(o:Int)+(t.length:Int)).toNat else _)=_
  rw[if_pos (by omega)];omega
 have a:HT.sIx t.length t.length none=t.length:=rfl
 rw[e1,a]
 unfold zF
 rw[eX (by rw[bQ];omega)]
theorem zLL (t:S)(p:Nat):jM (tx t) none (some (p:Int))=tx (t.take p):=by
 unfold jM
 rw[yL,qL,HT.sIx_nat]
 show tx ((t.drop 0).take (min p t.length-0))=_
 rw[iF,mO,<-List.take_eq_take_min]
theorem zLM (t:S)(p:Nat):jM (tx t) (some (p:Int)) (some ((p:Int)+1))=tx ((t.drop p).take 1):=by
 unfold jM
 rw[yL,qL,HT.sIx_nat,show((p:Int)+1)=((p+1:Nat):Int)from rfl,HT.sIx_nat]
 congr 1
 by_cases h:p<t.length
 ·have e1:min p t.length=p:=by omega
  have a:min (p+1) t.length-p=1:=by omega
  rw[e1,a]
 ·have e1:min p t.length=t.length:=by omega
  rw[e1,fY (ay _),fY (by omega)]
  simp
def zAK:Sp:=fun vs H Q _=>∃(t:S) (o:Nat),vs=[sv t,.int o]/\1<=o/\t.length<=64/\Q (sv (zF t o)) H
abbrev zCH:cq:=top 19
theorem zLN:FnScope ["text","order"] ["text","order"] (defScope zCH):=z7
theorem zLO {f:ao}{fd:aY}(F:Fun K "end_of" "end_of" zCH f fd):FnOk P w K mg base zY 1 f fd ["text","order"] zAK:=by
 refine F.ok zLN (fun vs H Q E h=>?_) (fun a A outer s H vs Q E c h=>?_)
 ·obtain⟨t,o,rfl,_⟩:=h;rfl
 ·obtain⟨t,o,rfl,b,hl,k⟩:=h
  refine⟨_,zP (zZ (zBy (pv 0) (zAf (g8 zAA (pv 1))) zEf)),?_⟩
  refine⟨_,rfl,_,rfl,_,rfl,_,rfl,_,rfl,?_,?_⟩
  ·rw[yL,aZ];omega
  ·rw[zLK t o b];exact k
def pr (o:Nat)(t:S)(p:Nat):S×S:=(zF (t.take p) o,(t.drop p).take 1)
def j5 (p:S×S):dN:=.tuple [.str (tx p.1),.str (tx p.2)]
def zCI (K:ae):Sp:=fun vs H Q _=>∃(t:S) (o:Nat),vs=[sv t,.int o]/\1<=o/\t.length<=64/\∀a xs H',zA H H'->H a=none->H' a=some (.lst xs)->Reps K H' ((z0 o t).map j5) xs->Q (.ref a) H'
abbrev zCJ:cq:=top 20
theorem zLP:FnScope ["name","order"] ["name","order"] (defScope zCJ):=z7
theorem zLQ:(["name","order","place"]:List Str).Nodup:=by decide+kernel
theorem zLR {f:ao}{fd:aY}(F:Fun K "ends_and_letters" "ends_and_letters" zCJ f fd)(B:Blt mg)(d:zR P w K mg base 1 "end_of" ["text","order"] zAK):FnOk P w K mg base zY 2 f fd ["name","order"] (zCI K):=by
 refine F.ok zLP (fun vs H Q E h=>?_) (fun q A outer s H vs Q E r h=>?_)
 ·obtain⟨t,o,rfl,_⟩:=h;rfl
 ·obtain⟨t,o,rfl,u,hl,k⟩:=h
  refine⟨_,zP (zZ (vM (N:=["name","order","place"]) (caps:=[0,1]) rfl (vF (by kernel_rfl))
   (zBa rfl B.range (zB (zW y9 (yX jL (by rfl) B.len b0 (zB (pv 0) zD)) zL) zD))
   (fun l C s H ex=>z9 (i:=2) zLQ rfl (Or.inl rfl))
   (fun l C s H ex=>uY)
   (fun l C s H ex=>uJ (zB (zM d r rfl (zB (zBy (pv 0) zEf (zAf (pv 2))) (zB (pv 1) zD)))
    (zB (zBy (pv 0) (zAf (pv 2)) (zAf (zW y9 (pv 2) zL))) zD))))),?_⟩
  refine⟨_,rfl,_,rfl,?_,_,_,rfl,rfl,_,rfl,?_,?_,?_⟩
  ·rw[yL,aZ];omega
  ·rw[yL];omega
  ·rw[yL];omega
  have v:((tx t).length:Int)+1=((t.length+1:Nat):Int):=by rw[yL];rfl
  have b:(((tx t).length:Int)+1).toNat=t.length+1:=by rw[v];rfl
  refine qJ (zAI 0 _) [some (sv t),some (.int o)] 1 (by rw[aa,bK,b];omega) (fun i a H'=>zA H H'/\a.length=i/\Reps K H' (((ba i).map (pr o t)).map j5) a)
   ⟨zA.refl H,rfl,rfl⟩ (fun i a H' _ h=>⟨trivial,d5 h.2.1⟩) ?_ ?_
  ·rintro i x a H' ys I z m G ⟨c,e,g⟩
   obtain⟨y,rfl⟩:=ys1 G
   rw[b]at m
   obtain⟨hi,rfl⟩:=zCG m
   refine⟨_,rfl,_,rfl,_,rfl,_,rfl,(by rw[yL,aZ];omega),_,rfl,t.take i,o,(by rw[zLL];rfl),u,(by rw[aQ];omega),?_⟩
   refine⟨_,rfl,_,rfl,_,rfl,_,rfl,_,_,rfl,rfl,_,rfl,_,rfl,(by rw[yL,aZ];omega),?_⟩
   refine⟨by show 2<=sizeLine;decide,fun p n=>z _ _ [some (.int i)] rfl ⟨c.upd_new (c.free n),by rw[aI,e];rfl,?_⟩⟩
   rw[e6,aF,aF]
   refine Reps.append (Reps.same (zA.upd1 n) _ _ g) (Reps.one ⟨p,_,rfl,.of zE,?_⟩)
   rw[zLM]
   exact⟨_,_,rfl,rfl,_,_,rfl,rfl,rfl⟩
  ·rintro a H' ⟨c,e,g⟩ D j
   refine k D a _ (c.upd_new (c.free j)) (c.free j) zE (Reps.same (zA.upd1 j) _ _ ?_)
   rw[aa,bK,b]at g
   exact g
def jP (x:S):Prop:=1<=x.length/\x.length<=8/\∀c∈x,97<=c/\c<=122
def letters:Str:=⟨#[97,98,99,100,101,102,103,104,105,106,107,108,109,110,111,112,113,114,115,116,117,118,119,120,121,122]⟩
theorem zLS {c:Nat}(h:97<=c/\c<=122):(fM letters ⟨#[c]⟩ 0 letters.length 1).isEmpty=false:=by
 have all:∀d:_root_.Fin 26,(fM letters ⟨#[97+d.val]⟩ 0 letters.length 1).isEmpty=false:=by decide+kernel
 have:=all ⟨c-97,by omega⟩
 have e:97+(c-97)=c:=by omega
 simpa [e]using this
structure Cst (K:ae) (mg:Str->Option ah):Prop where
 letters:∃t,mg "LETTERS"=some (.str letters t)
 ml:∃t,mg "MOST_LETTERS"=some (.int 8 t)
 mn:∃t,mg "MOST_NAMES"=some (.int 8 t)
 mo:∃t,mg "MOST_ORDER"=some (.int 3 t)
 ib:iB K (.type "int") (.type "bool")=some false
def zCK:Sp:=fun vs H Q _=>∃x:S,vs=[sv x]/\jP x/\∀H',zA H H'->Q (.bl true) H'
abbrev zCL:cq:=top 11
theorem zLT:FnScope ["thing"] ["thing"] (defScope zCL):=z7
theorem nd1:(["letter"]:List Str).Nodup:=by decide+kernel
theorem zLU {f:ao}{fd:aY}(F:Fun K "is_name" "is_name" zCL f fd)(B:Blt mg)(C:Cst K mg):FnOk P w K mg base zY 1 f fd ["thing"] zCK:=by
 obtain⟨r,hl⟩:=C.letters
 obtain⟨u,l⟩:=C.ml
 refine F.ok zLT (fun vs H Q E h=>?_) (fun m A outer s H vs Q E z h=>?_)
 ·obtain⟨t,rfl,_⟩:=h;rfl
 ·obtain⟨x,rfl,⟨G,I,n⟩,k⟩:=h
  refine⟨_,zO (vI (PW.pt (kN (qB (uV (yX zAo (by rfl) B.isinstance dA (zB (pv 0) (zB (zAc (v:=.ty "str") (by rfl) B.str pY rfl) zD)))))
    (kM (qB (zEX kS kS zL (yX jL (by rfl) B.len b0 (zB (pv 0) zD)) (v7 (v:=.int 8) (by rfl) l ⟨_,rfl⟩))))))
    (zP (zZ uU)) vH)
   (zP (zZ (yX (zFP rfl) (by rfl) B.all lp (zB (vM (N:=["letter"]) (caps:=[]) rfl (vF (by kernel_rfl)) (zKX (pv 0))
    (fun j C s H ex=>z9 (i:=0) nd1 rfl (Or.inl rfl)) (fun j C s H ex=>uY)
    (fun j C s H ex=>jX zJH (pv 0) (v7 (v:=.str letters) (by rfl) hl ⟨_,rfl⟩) (by with_unfolding_all rfl))) zD)))),?_⟩
  refine⟨_,rfl,_,_,_,true,rfl,.str _,(by rfl),_,rfl,?_⟩
  refine vK ?_
  refine⟨_,rfl,_,rfl,(by rw[yL,aZ];omega),_,_,rfl,rfl,_,rfl,?_⟩
  refine k7 (by rw[yL];omega) ⟨_,_,rfl,rfl,_,rfl,j2 (by rw[yL];omega) ?_⟩
  refine⟨_,rfl,_,rfl,?_⟩
  refine qJ (zKn (tx x)) [] 1 (by rw[aa,qL];omega) (fun i a H'=>zA H H'/\a=aD i (.bl true)) ⟨zA.refl H,rfl⟩ (fun i a H' _ h=>⟨trivial,by rw[h.2];simp⟩) ?_ ?_
  ·rintro i y a H' ys J o b p ⟨d,rfl⟩
   obtain⟨L,rfl⟩:=ys1 p
   rw[aq,qL]at b
   cases e:x[i]? with
   |none=>rw[e]at b;cases b
   |some c=>
    rw[e]at b
    have g:y=.str ⟨#[c]⟩:=(aw b).symm
    subst g
    refine⟨_,rfl,_,_,rfl,rfl,?_⟩
    rw[zLS (n c (aV e))]
    exact o _ _ [some (.str ⟨#[c]⟩)] rfl ⟨d,by rw[dt];rfl⟩
  ·rintro a H' ⟨d,rfl⟩ D q
   refine⟨D,aD _ true,rfl,.of (by rw[zE,mB]),?_⟩
   have:(aD ((tx x).cps.toList.map fun c=>V.str ⟨#[c]⟩).length true).all id=true:=by simp
   rw[this]
   exact k _ (d.upd_new (d.free q))
def zU (bk:List S):List V:=bk.map sv
structure isBk (bk:List S):Prop where
 lo:1<=bk.length
 hi:bk.length<=8
 nm:∀x∈bk,jP x
def zFg:Sp:=fun vs H Q _=>∃(a:ao) (bk:List S),vs=[.ref a]/\H a=some (.tup (zU bk))/\isBk bk/\∀H',zA H H'->Q (.bl true) H'
abbrev zCM:cq:=top 12
theorem zLV:FnScope ["thing"] ["thing"] (defScope zCM):=z7
theorem nd2:(["name"]:List Str).Nodup:=by decide+kernel
theorem zLW {f:ao}{fd:aY}(F:Fun K "is_book" "is_book" zCM f fd)(B:Blt mg)(C:Cst K mg)(d:zR P w K mg base 1 "is_name" ["thing"] zCK):FnOk P w K mg base zY 2 f fd ["thing"] zFg:=by
 obtain⟨G,p⟩:=C.mn
 refine F.ok zLV (fun vs H Q E h=>?_) (fun q A outer s H vs Q E r h=>?_)
 ·obtain⟨a,bk,rfl,_⟩:=h;rfl
 ·obtain⟨a,bk,rfl,j,⟨I,J,t⟩,k⟩:=h
  refine⟨_,zO (vI (PW.pt (kN (qB (uV (yX zAo (by rfl) B.isinstance dA (zB (pv 0) (zB (zAc (v:=.ty "tuple") (by rfl) B.tuple pG rfl) zD)))))
    (kM (qB (zEX kS kS zL (yX zAF (by rfl) B.len b0 (zB (pv 0) zD)) (v7 (v:=.int 8) (by rfl) p ⟨_,rfl⟩))))))
    (zP (zZ uU)) vH)
   (zP (zZ (yX (zFP rfl) (by rfl) B.all lp (zB (vM (N:=["name"]) (caps:=[]) rfl (vF (by kernel_rfl)) (kO (pv 0))
    (fun o C s H ex=>z9 (i:=0) nd2 rfl (Or.inl rfl)) (fun o C s H ex=>uY)
    (fun o C s H ex=>zM d r rfl (zB (pv 0) zD))) zD)))),?_⟩
  refine⟨_,rfl,_,_,_,true,rfl,.tup j,(by rfl),_,rfl,?_⟩
  refine vK ?_
  refine⟨_,rfl,_,_,rfl,.inr (.of j),_,_,rfl,rfl,_,rfl,?_⟩
  have hl:(zU bk).length=bk.length:=by simp[zU]
  refine k7 (by rw[hl];omega) ⟨_,_,rfl,rfl,_,rfl,j2 (by rw[hl];omega) ?_⟩
  refine⟨_,rfl,_,rfl,⟨_,.of j⟩,?_⟩
  refine qJ (k6 _ a (zU bk)) [] 1 (by rw[hl];omega) (fun i b H'=>zA H H'/\b=aD i (.bl true)) ⟨zA.refl H,rfl⟩ (fun i b H' _ h=>⟨.of (h.1 _ _ j),by rw[h.2];simp⟩) ?_ ?_
  ·rintro i y b H' ys L u g x ⟨l,rfl⟩
   obtain⟨M,rfl⟩:=ys1 x
   rw[zU,aq]at g
   cases e:bk[i]? with
   |none=>rw[e]at g;cases g
   |some c=>
    rw[e]at g
    have m:y=sv c:=(aw g).symm
    subst m
    exact⟨_,rfl,c,rfl,t c (aV e),fun O n=>u _ _ [some (sv c)] rfl ⟨l.trans n,by rw[dt]⟩⟩
  ·rintro b H' ⟨l,rfl⟩ D z
   refine⟨D,aD _ true,rfl,.of (by rw[zE,mB]),?_⟩
   have:(aD (zU bk).length true).all id=true:=by simp
   rw[this]
   exact k _ (l.upd_new (l.free z))
def zCN:Sp:=fun vs H Q _=>∃o a b:Nat,vs=[.int o,.int a,.int b]/\a<=o/\o<=b/\Q (.bl true) H
abbrev zCO:cq:=top 13
theorem zLX:FnScope ["thing","least","most"] ["thing","least","most"] (defScope zCO):=z7
theorem zLY {f:ao}{fd:aY}(F:Fun K "is_whole" "is_whole" zCO f fd)(B:Blt mg)(C:Cst K mg):FnOk P w K mg base zY 1 f fd ["thing","least","most"] zCN:=by
 refine F.ok zLX (fun vs H Q E h=>?_) (fun c A outer s H vs Q E d h=>?_)
 ·obtain⟨o,a,b,rfl,_⟩:=h;rfl
 ·obtain⟨o,a,b,rfl,g,i,k⟩:=h
  refine⟨_,zO (vI (PW.pt (kN (qB (uV (yX zAo (by rfl) B.isinstance dA (zB (pv 0) (zB (zAc (v:=.ty "int") (by rfl) B.int pZ rfl) zD)))))
    (kM (uV (yX zAo (by rfl) B.isinstance dA (zB (pv 0) (zB (zAc (v:=.ty "bool") (by rfl) B.bool pP rfl) zD)))))))
    (zP (zZ uU)) vH)
   (zP (zZ (zJI kS kS (pv 1) (pv 0) (pv 2)))),?_⟩
  refine⟨_,rfl,_,_,_,true,rfl,.int _,(by rfl),_,rfl,?_⟩
  refine vK ?_
  refine⟨_,rfl,_,_,_,false,rfl,.int _,C.ib,_,rfl,?_⟩
  refine vK ?_
  refine⟨_,rfl,_,rfl,_,_,rfl,rfl,_,rfl,?_⟩
  refine k7 (by omega) ⟨_,rfl,_,_,rfl,rfl,?_⟩
  have e:decide ((o:Int)<=b)=true:=decide_eq_true (by omega)
  show Q (.bl (decide ((o:Int)<=b))) H
  rw[e]
  exact k
def zFh:Sp:=fun vs H Q _=>∃o:Nat,vs=[.int o]/\1<=o/\o<=3/\Q (.bl true) H
abbrev zCP:cq:=top 14
theorem zLZ:FnScope ["thing"] ["thing"] (defScope zCP):=z7
theorem zLa {f:ao}{fd:aY}(F:Fun K "is_order" "is_order" zCP f fd)(C:Cst K mg)(a:zR P w K mg base 1 "is_whole" ["thing","least","most"] zCN):FnOk P w K mg base zY 2 f fd ["thing"] zFh:=by
 obtain⟨i,b⟩:=C.mo
 refine F.ok zLZ (fun vs H Q E h=>?_) (fun c A outer s H vs Q E d h=>?_)
 ·obtain⟨o,rfl,_⟩:=h;rfl
 ·obtain⟨o,rfl,e,g,k⟩:=h
  refine⟨_,zP (zZ (zM a d rfl (zB (pv 0) (zB zL (zB (v7 (v:=.int 3) (by rfl) b ⟨_,rfl⟩) zD))))),?_⟩
  exact⟨_,rfl,o,1,3,rfl,e,g,k⟩
def zCQ:Sp:=fun vs H Q _=>∃(a:ao) (bk:List S),vs=[.ref a]/\H a=some (.tup (zU bk))/\isBk bk/\∀H',zA H H'->Q .non H'
abbrev zCR:cq:=top 15
theorem zLb:FnScope ["thing"] ["thing"] (defScope zCR):=z7
theorem zLc {f:ao}{fd:aY}(F:Fun K "need_book" "need_book" zCR f fd)(c1:zR P w K mg base 2 "is_book" ["thing"] zFg):FnOk P w K mg base zY 3 f fd ["thing"] zCQ:=by
 refine F.ok zLb (fun vs H Q E h=>?_) (fun b A outer s H vs Q E c h=>?_)
 ·obtain⟨a,bk,rfl,_⟩:=h;rfl
 ·obtain⟨a,bk,rfl,d,e,k⟩:=h
  refine⟨_,zP (vI (qB (uV (zM c1 c rfl (zB (pv 0) zD)))) (zP zAd) vH),?_⟩
  exact⟨_,rfl,a,bk,rfl,d,e,fun H' g=>⟨true,rfl,vK (k H' g)⟩⟩
def zCS:Sp:=fun vs H Q _=>∃o:Nat,vs=[.int o]/\1<=o/\o<=3/\Q .non H
abbrev zCT:cq:=top 16
theorem zLd:FnScope ["thing"] ["thing"] (defScope zCT):=z7
theorem zLe {f:ao}{fd:aY}(F:Fun K "need_order" "need_order" zCT f fd)(c1:zR P w K mg base 2 "is_order" ["thing"] zFh):FnOk P w K mg base zY 3 f fd ["thing"] zCS:=by
 refine F.ok zLd (fun vs H Q E h=>?_) (fun a A outer s H vs Q E b h=>?_)
 ·obtain⟨o,rfl,_⟩:=h;rfl
 ·obtain⟨o,rfl,c,d,k⟩:=h
  refine⟨_,zP (vI (qB (uV (zM c1 b rfl (zB (pv 0) zD)))) (zP zAd) vH),?_⟩
  exact⟨_,rfl,o,rfl,c,d,true,rfl,vK k⟩
def zFi:Sp:=fun vs H Q _=>∃x:S,vs=[sv x]/\jP x/\∀H',zA H H'->Q .non H'
abbrev zCU:cq:=top 18
theorem zLf:FnScope ["thing"] ["thing"] (defScope zCU):=z7
theorem zLg {f:ao}{fd:aY}(F:Fun K "need_name" "need_name" zCU f fd)(c1:zR P w K mg base 1 "is_name" ["thing"] zCK):FnOk P w K mg base zY 2 f fd ["thing"] zFi:=by
 refine F.ok zLf (fun vs H Q E h=>?_) (fun a A outer s H vs Q E b h=>?_)
 ·obtain⟨x,rfl,_⟩:=h;rfl
 ·obtain⟨x,rfl,c,k⟩:=h
  refine⟨_,zP (vI (qB (uV (zM c1 b rfl (zB (pv 0) zD)))) (zP zAd) vH),?_⟩
  exact⟨_,rfl,x,rfl,c,fun H' d=>⟨true,rfl,vK (k H' d)⟩⟩
end
theorem j6 {a b:S}(h:tx a=tx b):a=b:=by
 have:=congrArg (fun z:Str=>z.cps.toList) h
 simpa [tx]using this
section
variable{α:Type}
def zT (f:α->V)(l:List (S×α)):List (zI×V):=yN (l.map fun p=>(tx p.1,f p.2))
theorem j7 (f:α->V)(p:S×α)(l:List (S×α)):zT f (p::l)=((Sum.inr (tx p.1):zI),f p.2)::zT f l:=rfl
theorem vW (f:α->V)(l:List (S×α)):(zT f l).length=l.length:=by simp[zT,yN]
theorem gB {a b:S}:((Sum.inr (tx a):zI)=Sum.inr (tx b))↔a=b:=⟨fun h=>j6 (lz h),fun h=>by rw[h]⟩
theorem uO (f:α->V)(l:List (S×α))(k:S):yY (zT f l) (Sum.inr (tx k))=(zK l k).map f:=by
 induction l with
 |nil=>rfl
 |cons p r ih=>
  rw[j7]
  by_cases e:p.1=k
  ·rw[zAi (gB.mpr e)]
   obtain⟨a,b⟩:=p
   have c:a=k:=e
   subst c
   simp[zK]
  ·rw[zAj (fun z=>e (gB.mp z)),ih]
   obtain⟨a,b⟩:=p
   have c:¬a=k:=e
   simp[zK,c]
theorem zLh (f:α->V)(l:List (S×α))(k:S):((zT f l).any fun a=>decide (a.1=(Sum.inr (tx k):zI)))=decide (k∈l.map (·.1)):=by
 induction l with
 |nil=>rfl
 |cons p r ih=>
  rw[j7,ef,ih]
  by_cases e:p.1=k
  ·have:decide ((Sum.inr (tx p.1):zI)=Sum.inr (tx k))=true:=decide_eq_true (gB.mpr e)
   rw[this,pK]
   exact(decide_eq_true (by rw[<-e];exact aj ..)).symm
  ·have:decide ((Sum.inr (tx p.1):zI)=Sum.inr (tx k))=false:=decide_eq_false (fun z=>e (gB.mp z))
   rw[this,o6]
   congr 1
   have b:¬k=p.1:=fun z=>e z.symm
   simp[b]
theorem gC (f:α->V)(l:List (S×α))(k:S)(v:α)(nd:(l.map (·.1)).Nodup):vG (zT f l) (Sum.inr (tx k)) (f v)=zT f (zX l k v):=by
 unfold vG
 rw[zLh]
 by_cases c:k∈l.map (·.1)
 ·rw[if_pos (decide_eq_true c)]
  induction l with
  |nil=>cases c
  |cons p r ih=>
   obtain⟨a,b⟩:=p
   have d:=br.mp nd
   rw[j7,aC]
   by_cases e:a=k
   ·subst e
    have e1:zX ((a,b)::r) a v=(a,v)::r:=by simp[zX]
    rw[e1,j7]
    congr 1
    ·simp
    ·have:∀q∈zT f r,(if q.1=(Sum.inr (tx a):zI)then(q.1,f v)else q)=q:=fun q h=>by
      rw[if_neg]
      intro z
      obtain⟨s,i,j⟩:=au.mp h
      obtain⟨s',g,m⟩:=au.mp i
      have:s.1=tx s'.1:=by rw[<-m]
      have n:q.1=(Sum.inr (tx s'.1):zI):=by rw[<-j,this]
      rw[n]at z
      exact d.1 (au.mpr ⟨s',g,gB.mp z⟩)
     have o:=bT this
     rw[o];simp
   ·have e1:zX ((a,b)::r) k v=(a,b)::zX r k v:=by simp[zX,e]
    rw[e1,j7]
    congr 1
    ·rw[if_neg (fun z=>e (gB.mp z))]
    ·exact ih d.2 (by
      rcases aH.mp c with z|z
      ·exact absurd z.symm e
      ·exact z)
 ·rw[if_neg (by simpa using c)]
  clear nd
  induction l with
  |nil=>rfl
  |cons p r ih=>
   obtain⟨a,b⟩:=p
   have e:¬a=k:=fun z=>c (by rw[<-z];exact aj ..)
   have e1:zX ((a,b)::r) k v=(a,b)::zX r k v:=by simp[zX,e]
   rw[e1,j7,j7,fC,ih fun z=>c (ak _ z)]
theorem zFj {β:Type}(l:List (S×β))(k:S)(v:β):(zX l k v).length<=l.length+1:=by
 induction l with
 |nil=>simp[zX]
 |cons p r ih=>
  obtain⟨a,b⟩:=p
  by_cases e:a=k
  ·simp[zX,e]
  ·simp[zX,e];omega
theorem zLi {β γ:Type}(g:β->γ)(l:List (S×β))(k:S)(v:β):(zX l k v).map (fun p=>(p.1,g p.2))=zX (l.map fun p=>(p.1,g p.2)) k (g v):=by
 induction l with
 |nil=>rfl
 |cons p r ih=>
  obtain⟨a,b⟩:=p
  by_cases e:a=k
  ·simp[zX,e]
  ·simp[zX,e,ih]
theorem zFk {β γ:Type}(g:β->γ)(l:List (S×β))(k:S):zK (l.map fun p=>(p.1,g p.2)) k=(zK l k).map g:=by
 induction l with
 |nil=>rfl
 |cons p r ih=>
  obtain⟨a,b⟩:=p
  by_cases e:a=k
  ·simp[zK,e]
  ·simp[zK,e,ih]
theorem zBA {β:Type}{l:List (S×β)}{k:S}{v:β}{q:S×β}(h:q∈zX l k v):q=(k,v)\/(q∈l/\(q.1≠k\/(l.map (·.1)).Nodup->q.1≠k)):=by
 induction l with
 |nil=>simp[zX]at h;exact .inl h
 |cons p r ih=>
  obtain⟨a,b⟩:=p
  by_cases e:a=k
  ·subst e
   have e1:zX ((a,b)::r) a v=(a,v)::r:=by simp[zX]
   rw[e1]at h
   rcases aH.mp h with z|z
   ·exact .inl z
   ·refine .inr ⟨ak _ z,?_⟩
    rintro(w|w)
    ·exact w
    ·intro c
     exact(br.mp w).1 (by rw[<-c];exact l7 (f:=(·.1)) z)
  ·have e1:zX ((a,b)::r) k v=(a,b)::zX r k v:=by simp[zX,e]
   rw[e1]at h
   rcases aH.mp h with z|z
   ·subst z
    exact .inr ⟨aj ..,fun _=>e⟩
   ·rcases ih z with w|⟨d,g⟩
    ·exact .inl w
    ·refine .inr ⟨ak _ d,?_⟩
     rintro(u|u)
     ·exact u
     ·exact g (.inr (br.mp u).2)
theorem gD {β:Type}(l:List (S×β))(k:S)(v:β)(h:k∉l.map (·.1)):zX l k v=l++[(k,v)]:=by
 induction l with
 |nil=>rfl
 |cons q r ih=>
  obtain⟨a,b⟩:=q
  have e:¬a=k:=fun z=>h (by rw[<-z];exact aj ..)
  have e1:zX ((a,b)::r) k v=(a,b)::zX r k v:=by simp[zX,e]
  rw[e1,ih fun z=>h (ak _ z)];rfl
theorem zFl {β γ:Type}(g:β->γ)(l:List (S×β))(k:S)(v u:β)(h:zK l k=some u)(e:g v=g u):(zX l k v).map (fun p=>(p.1,g p.2))=l.map fun p=>(p.1,g p.2):=by
 induction l with
 |nil=>cases h
 |cons p r ih=>
  obtain⟨a,b⟩:=p
  by_cases c:a=k
  ·have:b=u:=by simpa [zK,c]using h
   subst this
   simp[zX,c,e]
  ·have h':zK r k=some u:=by simpa [zK,c]using h
   simp[zX,c,ih h']
theorem zFm (ps:List (S×S)):(y6 ps).length<=ps.length/\∀r∈y6 ps,r.2.length<=ps.length:=by
 have key:∀(c:List (S×S)) (rows:List (S×List (S×Int))) (n:Nat),(rows.length<=n/\∀r∈rows,r.2.length<=n)->(c.foldl yU rows).length<=n+c.length/\∀r∈c.foldl yU rows,r.2.length<=n+c.length:=by
  intro c
  induction c with
  |nil=>intro rows n h;simpa using h
  |cons q c ih=>
   intro rows n h
   have:=ih (yU rows q) (n+1) ⟨?_,fun r i=>?_⟩
   ·rw[bR,aX]
    have e:n+(c.length+1)=n+1+c.length:=by omega
    rw[e];exact this
   ·have:=zFj rows q.1 (vR ((zK rows q.1).getD []) q.2)
    unfold yU;omega
   ·rcases zBA i with e|⟨e,_⟩
    ·rw[e]
     have j:=zFj ((zK rows q.1).getD []) q.2 ((zK ((zK rows q.1).getD []) q.2).getD 0+1)
     have l:((zK rows q.1).getD []).length<=n:=by
      cases g:zK rows q.1 with
      |none=>simp
      |some row=>
       have hm:(q.1,row)∈rows:=by
        clear h i e j
        induction rows with
        |nil=>cases g
        |cons p r d=>
         obtain⟨a,b⟩:=p
         by_cases f:a=q.1
         ·have:b=row:=by simpa [zK,f]using g
          subst this;subst f
          exact aj ..
         ·exact ak _ (d (by simpa [zK,f]using g))
       exact h.2 _ hm
     show(vR _ _).length<=_
     unfold vR;omega
    ·have:=h.2 r e;omega
 have:=key ps [] 0 ⟨ay _,by simp⟩
 simpa [y6]using this
end
abbrev zQ (row:List (S×Int)):List (zI×V):=zT V.int row
structure RA (H0 H:Hp) (d:ao) (ps:List (S×S)) (ra:List (S×ao×List (S×Int))):Prop where
 rows:ra.map (fun r=>(r.1,r.2.2))=y6 ps
 top:H d=some (.dK (zT (fun v:ao×List (S×Int)=>V.ref v.1) ra))
 row:∀r∈ra,H r.2.1=some (.dK (zQ r.2.2))
 new:∀r∈ra,H0 r.2.1=none/\r.2.1≠d
 nda:(ra.map fun r=>r.2.1).Nodup
def v6 (H:Hp)(d:ao)(ps:List (S×S)):Prop:=∃ra:List (S×ao×List (S×Int)),ra.map (fun r=>(r.1,r.2.2))=y6 ps/\H d=some (.dK (zT (fun v:ao×List (S×Int)=>V.ref v.1) ra))/\∀r∈ra,H r.2.1=some (.dK (zQ r.2.2))
theorem v6.same {H H':Hp}{d:ao}{ps:List (S×S)}(h:v6 H d ps)(e:zA H H'):v6 H' d ps:=by
 obtain⟨ra,a,b,c⟩:=h
 exact⟨ra,a,e _ _ b,fun r f=>e _ _ (c r f)⟩
section
variable{P:aL}{w:aU}{K:ae}{mg:Str->Option ah}{base:bx}
def zBB:Sp:=fun vs H Q _=>∃(a:ao) (bk:List S) (o:Nat),vs=[.ref a,.int o]/\H a=some (.tup (zU bk))/\bk.length<=8/\(∀x∈bk,x.length<=8)/\1<=o/\∀d H',zA H H'->H d=none->v6 H' d (zC o bk)->Q (.ref d) H'
abbrev zCV:cq:=top 21
theorem zFn:FnScope ["book","order","rows","name","end","letter","row"] ["book","order"] (defScope zCV):=z7
theorem zCW {a H:Hp}{d:ao}{ps:List (S×S)}{ra:List (S×ao×List (S×Int))}(R:RA a H d ps ra):(ra.map (·.1)).Nodup:=by
 have h:=(yH ps).nd
 rw[<-R.rows,aJ]at h
 exact h
theorem RA.step {q H o:Hp}{d ad:ao}{ps:List (S×S)}{ra:List (S×ao×List (S×Int))}(R:RA q H d ps ra)(p:S×S)(row:List (S×Int))(m:row=((zK ra p.1).map (·.2)).getD [])
  (h:∀v,zK ra p.1=some v->v.1=ad) (c:zK ra p.1=none->q ad=none/\ad≠d/\ad∉ra.map fun r=>r.2.1)
  (A:o ad=some (.dK (zQ (vR row p.2)))) (B:o d=some (.dK (zT (fun v:ao×List (S×Int)=>V.ref v.1) (zX ra p.1 (ad,vR row p.2))))) (C:∀r∈ra,r.2.1≠ad->o r.2.1=some (.dK (zQ r.2.2))) :
  RA q o d (ps++[p]) (zX ra p.1 (ad,vR row p.2)):=by
 have nd:=zCW R
 have f:∀v,zK ra p.1=some v->(p.1,v)∈ra:=fun v s=>(vA nd p.1 v).mpr s
 have t:∀r∈ra,r.1≠p.1->r.2.1≠ad:=fun r l u e=>by
  cases g:zK ra p.1 with
  |none=>exact(c g).2.2 (au.mpr ⟨r,l,e⟩)
  |some v=>
   have s:=f v g
   have ev:=h v g
   have:r=(p.1,v):=by
    obtain⟨i,hi,y⟩:=c8 l
    obtain⟨j,D,z⟩:=c8 s
    have x:i=j:=by
     refine(fw (xs:=ra.map fun r=>r.2.1) (h₀:=by simpa using hi) (h₁:=by simpa using D) R.nda).mp ?_
     rw[eF,eF,y,z]
     show r.2.1=v.1
     rw[e,ev]
    subst x
    rw[<-y,<-z]
   exact u (by rw[this])
 refine⟨?_,B,fun r l=>?_,fun r l=>?_,?_⟩
 ·rw[zKv,<-R.rows]
  unfold yU
  have e:=zLi (fun v:ao×List (S×Int)=>v.2) ra p.1 (ad,vR row p.2)
  rw[e]
  have n:=zFk (fun v:ao×List (S×Int)=>v.2) ra p.1
  rw[n,<-m]
 ·rcases zBA l with e|⟨e,E⟩
  ·rw[e];exact A
  ·exact C r e (t r e (E (.inr nd)))
 ·rcases zBA l with e|⟨e,_⟩
  ·rw[e]
   cases g:zK ra p.1 with
   |none=>exact⟨(c g).1,(c g).2.1⟩
   |some v=>
    have:=R.new _ (f v g)
    rw[<-h v g];exact this
  ·exact R.new r e
 ·cases g:zK ra p.1 with
  |none=>
   have F:p.1∉ra.map (·.1):=zFX.mp g
   have e:=gD ra p.1 (ad,vR row p.2) F
   rw[e,aF]
   refine d6.mpr ⟨R.nda,by simp,fun a G b I n=>?_⟩
   have:b=ad:=by simpa using I
   exact(c g).2.2 (by rw[<-this,<-n];exact G)
  |some v=>
   have e:=zFl (fun v:ao×List (S×Int)=>v.1) ra p.1 (ad,vR row p.2) v g (h v g).symm
   have n:(zX ra p.1 (ad,vR row p.2)).map (fun r=>r.2.1)=ra.map fun r=>r.2.1:=by
    have:=congrArg (gq fZ) e
    rw[aJ,aJ]at this
    exact this
   rw[n];exact R.nda
def qM (H H':Hp):Prop:=∀b o,H b=some o->(∀kvs,o≠.dK kvs)->H' b=some o
theorem qM.upd {H:Hp}{a:ao}{kvs:List (zI×V)}{u:HO}(h:H a=some (.dK kvs)):qM H (upd H a u):=fun b o e c=>by
 rw[zG]
 ·exact e
 ·rintro rfl;rw[h]at e;exact c kvs (aw e).symm
theorem qM.sqL {H H':Hp}(e:qM H H'){a:ao}{xs:List V}(h:yF K H a xs):yF K H' a xs:=by
 rcases h with(h|⟨o,h⟩)|h
 ·exact .inl (.inl (e _ _ h (by intro z w;cases w)))
 ·exact .inl (.inr ⟨o,e _ _ h (by intro z w;cases w)⟩)
 ·exact .inr h
theorem qM.sqT {H H':Hp}(e:qM H H'){a:ao}{xs:List V}(h:yE K H a xs):yE K H' a xs:=by
 rcases h with(h|⟨o,h⟩)|h
 ·exact .inl (.inl (e _ _ h (by intro z w;cases w)))
 ·exact .inl (.inr ⟨o,e _ _ h (by intro z w;cases w)⟩)
 ·exact .inr h
mutual
theorem yT.sameQ {H H':Hp}(e:qM H H'):∀(d:dN) (v:V),yT K H d v->yT K H' d v
 | .none,v,h=>h
 | .bool b,v,h=>h
 | .int i,v,h=>h
 | .str x,v,h=>h
 | .list ds,v,h=>by
  obtain⟨a,xs,c,f,g⟩:=h
  exact⟨a,xs,c,e.sqL f,Reps.sameQ e ds xs g⟩
 | .tuple ds,v,h=>by
  obtain⟨a,xs,c,f,g⟩:=h
  exact⟨a,xs,c,e.sqT f,Reps.sameQ e ds xs g⟩
 | .dict _,v,h=>h
theorem Reps.sameQ {H H':Hp}(e:qM H H'):∀(ds:List dN) (xs:List V),Reps K H ds xs->Reps K H' ds xs
 | [],xs,h=>h
 |d::ds,xs,h=>by
  obtain⟨y,ys,a,b,c⟩:=h
  exact⟨y,ys,a,yT.sameQ e d y b,Reps.sameQ e ds ys c⟩
end
theorem zLj {β:Type}(g:β->V)(l:List (S×β))(k:S)(v u:β)(h:zK l k=some u)(e:g v=g u):zT g (zX l k v)=zT g l:=by
 have:=zFl g l k v u h e
 unfold zT
 have a:∀m:List (S×β),m.map (fun p=>(tx p.1,g p.2))=(m.map fun p=>(p.1,g p.2)).map fun q=>(tx q.1,q.2):=fun m=>by rw[aJ];rfl
 rw[a,a,this]
theorem zLk {b H:Hp}{d:ao}{ps:List (S×S)}{ra:List (S×ao×List (S×Int))}(R:RA b H d ps ra){e:S}{v:ao×List (S×Int)}(h:zK ra e=some v) :
  H v.1=some (.dK (zQ v.2))/\(v.2.map (·.1)).Nodup/\v.2.length<=ps.length/\b v.1=none/\v.1≠d:=by
 have hm:=(vA (zCW R) e v).mpr h
 have a:(e,v.2)∈y6 ps:=by rw[<-R.rows];exact au.mpr ⟨(e,v),hm,rfl⟩
 exact⟨R.row _ hm,(yH ps).ndr e v.2 a,(zFm ps).2 _ a,(R.new _ hm).1,(R.new _ hm).2⟩
theorem zLl {f:ao}{fd:aY}(F:Fun K "counted_rows" "counted_rows" zCV f fd)(ac:zR P w K mg base 2 "ends_and_letters" ["name","order"] (zCI K)):FnOk P w K mg base zY 3 f fd ["book","order"] zBB:=by
 refine F.ok zFn (fun vs H Q E h=>?_) (fun cd A outer s H vs Q E m h=>?_)
 ·obtain⟨a,bk,o,rfl,_⟩:=h;rfl
 ·obtain⟨a,bk,o,rfl,ha,ce,ax,ho,k⟩:=h
  have hu:=uM m
  have nd:=zFn.nd
  refine⟨_,zO (z8 (i:=2) nd rfl (Or.inl rfl) j1)
   (zO (v8 bL rfl (kO (pv 0)) (z9 (i:=3) nd rfl (Or.inl rfl))
    (zP (v8 bL rfl (qC (zM ac m rfl (zB (pv 3) (zB (pv 1) zD))))
     (jT rfl (vV (z9 (i:=4) nd rfl (Or.inl rfl)) (vV (z9 (i:=5) nd rfl (Or.inl rfl)) jH)))
     (zO (z8 (i:=6) nd rfl (Or.inl rfl) (zAh bI gy PySem.F.type_dict_setdefault zKj (pv 2) (zB (pv 4) (zB j1 zD))))
      (zP (zAG hu (pv 6) (pv 5) (zW y9 (zAm hu (pv 6) (pv 5) zL ⟨rfl,rfl,rfl,rfl⟩) zL) rfl))))))
   (zP (zZ (pv 2)))),?_⟩
  intro d hd
  have s1:zA H (upd H d (.dK [])):=zA.upd1 hd
  refine⟨_,rfl,a,rfl,⟨_,.of (s1 _ _ ha)⟩,?_⟩
  refine jB (k6 K a (zU bk)) (fun i σ H'=>(∃x y z u:Option V,σ=[some (.ref a),some (.int o),some (.ref d),x,y,z,u])/\zA H H'/\∃ra,RA H H' d (zC o (bk.take i)) ra)
   ⟨⟨_,_,_,_,rfl⟩,s1,[],⟨rfl,zE,by simp,by simp,by simp⟩⟩ (fun i σ H' _ h=>.of (h.2.1 _ _ ha)) ?_ ?_
  ·rintro i x σ H' Nx hN hx ⟨⟨x1,x2,x3,x4,rfl⟩,sm,ra,R⟩
   rw[zU,aq]at hx
   cases e:bk[i]? with
   |none=>rw[e]at hx;cases hx
   |some nm=>
   rw[e]at hx
   have a1:x=sv nm:=(aw hx).symm
   subst a1
   have ch:=ax nm (aV e)
   have hi:i<bk.length:=(ai.mp e).1
   have al:bk.take (i+1)=bk.take i++[nm]:=by
    rw[az hi]
    have:=(ai.mp e).2
    rw[this]
   have n:zC o (bk.take (i+1))=zC o (bk.take i)++z0 o nm:=by
    rw[al,zKx];simp[zC]
   have a2:((zC o (bk.take (i+1))).length:Int)<=100:=by
    rw[zAv]
    have go:∀l:List S,(∀x∈l,x.length<=8)->(l.map fun x=>(x.length:Int)+1).sum<=9*(l.length:Int):=by
     intro l
     induction l with
     |nil=>intro _;simp
     |cons x r ih=>
      intro hl
      have h1:=hl x (aj ..)
      have h2:=ih fun y hy=>hl y (ak _ hy)
      rw[aC,aO,aX]
      have:((r.length+1:Nat):Int)=(r.length:Int)+1:=rfl
      omega
    have:=go (bk.take (i+1)) fun x hx=>ax x (du hx)
    have h3:(bk.take (i+1)).length<=8:=by rw[aQ];omega
    omega
   refine⟨_,rfl,_,rfl,nm,o,rfl,ho,by omega,fun l xs Hl T a3 U rp=>?_⟩
   refine⟨l,rfl,⟨_,.of U⟩,?_⟩
   have R1:RA H Hl d (zC o (bk.take i)) ra:=⟨R.rows,T _ _ R.top,fun r m=>T _ _ (R.row r m),R.new,R.nda⟩
   have ci:H l=none:=sm.free a3
   have a4:l≠d:=zAb U (T _ _ R.top) (by intro z;cases z)
   refine jB (qI K l xs) (fun j σ q=>(∃y z u:Option V,σ=[some (.ref a),some (.int o),some (.ref d),some (sv nm),y,z,u])/\zA H q/\q l=some (.lst xs)/\Reps K q ((z0 o nm).map j5) xs/\∃ra,RA H q d (zC o (bk.take i)++(z0 o nm).take j) ra/\∀r∈ra,r.2.1≠l)
    ⟨⟨_,_,_,rfl⟩,sm.trans T,U,rp,ra,by simpa using R1,fun r m=>zAb (R1.row r m) U (by intro z;cases z)⟩ (fun j σ q _ h=>.of h.2.2.1) ?_ ?_
   ·rintro j x σ q am a5 hx2 ⟨⟨y,z,u,rfl⟩,C,hl2,D,b,R2,a6⟩
    obtain⟨dd,G,rx⟩:=D.get hx2
    rw[aq]at G
    cases ep:(z0 o nm)[j]? with
    |none=>rw[ep]at G;cases G
    |some p=>
    rw[ep]at G
    have a7:dd=j5 p:=(aw G).symm
    subst a7
    obtain⟨a8,cl,rfl,a9,y1,b9,rfl,be,y2,aA,rfl,bi,aK⟩:=rx
    have bl:y1=sv p.1:=be
    have bm:y2=sv p.2:=bi
    have en:aA=[]:=aK
    subst bl bm en
    have hj:j<(z0 o nm).length:=(ai.mp ep).1
    have aM:zC o (bk.take i)++(z0 o nm).take (j+1)=(zC o (bk.take i)++(z0 o nm).take j)++[p]:=by
     rw[az hj,(ai.mp ep).2,dZ]
    generalize bn:zC o (bk.take i)++(z0 o nm).take j=ps at R2 aM
    have co:ps.length<=100:=by
     have h1:ps.length<=(zC o (bk.take (i+1))).length:=by
      rw[<-bn,n,aI,aI,aQ];omega
     omega
    have ca:b.length<=100:=by
     have h1:=(zFm ps).1
     rw[<-R2.rows,aa]at h1
     omega
    refine⟨a8,[sv p.1,sv p.2],rfl,a9,rfl,_,_,rfl,_,_,rfl,rfl,?_⟩
    refine⟨_,rfl,.inr (.inr (.inl ⟨rfl,.inl ⟨_,R2.top⟩⟩)),_,rfl,fun t W=>?_⟩
    have Z:H t=none:=C.free W
    have X:d≠t:=yI R2.top W
    have s3:zA q (upd q t (.dK [])):=zA.upd1 W
    have fin:∀(ad:ao) (row:List (S×Int)) (I:Hp),I ad=some (.dK (zQ row))->(row.map (·.1)).Nodup->row.length<=100->(∀J,J=upd I ad (.dK (zQ (vR row p.2)))->am [some (.ref a),some (.int o),some (.ref d),some (sv nm),some (sv p.1),some (sv p.2),some (.ref ad)] J)->
      zEt (qW 6) (qW 5) (g7 (jI fun i j=>V.int (i+j)) (zEx (qW 6) (qW 5) (tC (.int 0))) (tC (.int 1))) {nx:=am,rt:=Q,bk:=fun _ _=>False,ct:=fun _ _=>False} [some (.ref a),some (.int o),some (.ref d),some (sv nm),some (sv p.1),some (sv p.2),some (.ref ad)] I:=by
     intro ad row I c bv cr hq
     refine⟨_,rfl,ad,rfl,.inl ⟨_,.inl c⟩,_,rfl,_,yZ.k (k:=Sum.inr (tx p.2)) c,(zK row p.2).getD 0,1,?_,rfl,?_⟩
     ·rw[uO]
      cases zK row p.2<;>rfl
     ·refine⟨_,rfl,_,rfl,ad,_,rfl,qZ.k (k:=Sum.inr (tx p.2)) c (by rw[vW,aZ];omega),hq _ ?_⟩
      rw[gC V.int row p.2 _ bv]
      rfl
    have B:∀(ad:ao) (row:List (S×Int)) (I J:Hp),zA H I->H ad=none->I l=some (.lst xs)->Reps K I ((z0 o nm).map j5) xs->J=upd I ad (.dK (zQ (vR row p.2)))->I ad=some (.dK (zQ row))->RA H J d (ps++[p]) (zX b p.1 (ad,vR row p.2))->
      am [some (.ref a),some (.int o),some (.ref d),some (sv nm),some (sv p.1),some (sv p.2),some (.ref ad)] J:=by
     intro ad row I J sx b1 Y b2 L c RR
     have ab:ad≠l:=zAb c Y (by intro z;cases z)
     subst L
     refine a5 _ _ ⟨⟨_,_,_,rfl⟩,sx.upd_new b1,by rw[zG ab.symm];exact Y,Reps.sameQ (qM.upd c) _ _ b2,_,by rw[aM];exact RR,fun r m=>?_⟩
     rcases zBA m with e|⟨e,_⟩
     ·rw[e];exact ab
     ·exact a6 r e
    have an:upd q t (.dK []) d=some (.dK (zT (fun v:ao×List (S×Int)=>V.ref v.1) b)):=by rw[zG X];exact R2.top
    have aN:upd q t (.dK []) l=some (.lst xs):=s3 _ _ hl2
    have aW:∀r∈b,upd q t (.dK []) r.2.1=some (.dK (zQ r.2.2)):=fun r m=>s3 _ _ (R2.row r m)
    have b3:∀r∈b,r.2.1≠t:=fun r m=>yI (R2.row r m) W
    refine⟨d,_,Sum.inr (tx p.1),_,rfl,rfl,an,by rw[vW,aZ];omega,fun yv M=>?_,fun ap=>?_⟩
    ·
     rw[uO]at M
     cases g:zK b p.1 with
     |none=>rw[g]at M;cases M
     |some v=>
     rw[g]at M
     have ev:yv=.ref v.1:=(aw M).symm
     subst ev
     obtain⟨r1,r2,r3,r4,r5⟩:=zLk R2 g
     have N:upd q t (.dK []) v.1=some (.dK (zQ v.2)):=s3 _ _ r1
     refine fin v.1 v.2 _ N r2 (by omega) fun J L=>B v.1 v.2 _ J (C.trans s3) r4 aN (Reps.same s3 _ _ D) L N ?_
     refine R2.step p v.2 (by rw[g];rfl) (fun v' O=>by rw[g]at O;rw[aw O]) (fun hn=>by rw[g]at hn;cases hn) (by rw[L,zE]) ?_ fun r m as=>?_
     ·rw[L,zG r5.symm,an]
      have:=zLj (fun v:ao×List (S×Int)=>V.ref v.1) b p.1 (v.1,vR v.2 p.2) v g rfl
      rw[this]
     ·rw[L,zG as];exact aW r m
    ·
     rw[uO]at ap
     have g:zK b p.1=none:=by
      cases g:zK b p.1 with
      |none=>rfl
      |some v=>rw[g]at ap;cases ap
     have b4:=gC (fun v:ao×List (S×Int)=>V.ref v.1) b p.1 (t,[]) (zCW R2)
     have a0:upd (upd q t (.dK [])) d (.dK (vG (zT (fun v:ao×List (S×Int)=>V.ref v.1) b) (Sum.inr (tx p.1)) (.ref t))) t=some (.dK (zQ [])):=by
      rw[zG X.symm,zE];rfl
     refine fin t [] _ a0 (by simp) (by simp) fun J L=>B t [] _ J ((C.trans s3).upd_new hd) Z (by rw[zG a4];exact aN) (Reps.sameQ (qM.upd an) _ _ (Reps.same s3 _ _ D)) L a0 ?_
     refine R2.step p [] (by rw[g];rfl) (fun v' O=>by rw[g]at O;cases O) (fun _=>⟨Z,X.symm,fun hm=>?_⟩) (by rw[L,zE]) ?_ fun r m as=>?_
     ·obtain⟨r,m,e⟩:=au.mp hm
      exact b3 r m e
     ·rw[L,zG X,zE,b4]
      congr 2
      have hk:p.1∉b.map (·.1):=zFX.mp g
      rw[gD _ _ _ hk,gD _ _ _ hk]
      unfold zT yN
      rw[aF,aF,aF,aF]
      rfl
     ·rw[L,zG as,zG (R2.new r m).2];exact aW r m
   ·rintro σ q ⟨⟨y,z,u,rfl⟩,C,hl2,D,b,R2,_⟩
    refine hN _ _ ⟨⟨_,_,_,_,rfl⟩,C,b,?_⟩
    rw[n]
    have Y:xs.length=(z0 o nm).length:=by have:=D.length;simpa using this.symm
    rw[Y,bc]at R2
    exact R2
  ·rintro σ H' ⟨⟨x1,x2,x3,x4,rfl⟩,sm,ra,R⟩
   refine⟨_,rfl,k d H' sm hd ⟨ra,?_,R.top,R.row⟩⟩
   rw[R.rows]
   have:(zU bk).length=bk.length:=by simp[zU]
   rw[this,bc]
theorem zLm {a b:Int}(c:0<=a)(d:0<b):gm b (a%b)=gm a b:=by
 obtain⟨x,rfl⟩:=ck c
 obtain⟨y,rfl⟩:=ck (bo d)
 have e:((x:Int)%(y:Int))=((x%y:Nat):Int):=rfl
 rw[e]
 show pN y (x%y)=pN x y
 rw[kg y (x%y),<-Nat.gcd_rec,kg]
def zCX:Sp:=fun vs H Q _=>∃u d:Int,vs=[.int u,.int d]/\0<=u/\0<d/\d<1073741824/\Q (.int (yA u d)) H
abbrev zCY:cq:=top 25
theorem zFo:FnScope ["one","other","rest"] ["one","other"] (defScope zCY):=z7
abbrev jQ (q:Int×Int):HO:=.tup [.int q.1,.int q.2]
def zBC:Sp:=fun vs H Q _=>∃u d:Int,vs=[.int u,.int d]/\0<=u/\0<d/\d<1073741824/\∀p,H p=none->Q (.ref p) (upd H p (jQ (low u d)))
abbrev zCZ:cq:=top 26
theorem zFp:FnScope ["up","down","divisor"] ["up","down"] (defScope zCZ):=z7
structure Sm (q:Int×Int):Prop extends Fq q where
 u1:q.1<1073741824
 d1:q.2<1073741824
def z3 (K:ae)(H:Hp)(v:V)(q:Int×Int):Prop:=∃a,v=.ref a/\yE K H a [.int q.1,.int q.2]
theorem z3.same {H H':Hp}{v:V}{q:Int×Int}(h:z3 K H v q)(e:zA H H'):z3 K H' v q:=by
 obtain⟨a,b,c⟩:=h
 exact⟨a,b,e.seqT c⟩
theorem z3.new {H:Hp}{p:ao}{q:Int×Int}:z3 K (upd H p (jQ q)) (.ref p) q:=⟨p,rfl,.of zE⟩
theorem z3.rep {H:Hp}{v:V}{q:Int×Int}(h:z3 K H v q):yT K H (.tuple [.int q.1,.int q.2]) v:=by
 obtain⟨a,b,c⟩:=h
 exact⟨a,_,b,c,_,_,rfl,rfl,_,_,rfl,rfl,rfl⟩
theorem z3.of_rep {H:Hp}{v:V}{q:Int×Int}(h:yT K H (.tuple [.int q.1,.int q.2]) v):z3 K H v q:=by
 obtain⟨a,xs,b,c,y,ys,rfl,d,z,e,rfl,f,g⟩:=h
 have e1:y=.int q.1:=d
 have i:z=.int q.2:=f
 have j:e=[]:=g
 subst e1 i j
 exact⟨a,b,c⟩
def zFq (K:ae):Sp:=fun vs H Q _=>∃(x y:V) (p q:Int×Int),vs=[x,y]/\z3 K H x p/\z3 K H y q/\Sm p/\Sm q/\p.2*q.2<1073741824/\∀a,H a=none->Q (.ref a) (upd H a (jQ (yR p q)))
def zFr (K:ae):Sp:=fun vs H Q _=>∃(x y:V) (p q:Int×Int),vs=[x,y]/\z3 K H x p/\z3 K H y q/\Sm p/\Sm q/\Q (.bl (k9 p q)) H
abbrev zCa:cq:=top 27
abbrev zCb:cq:=top 28
abbrev zBD:cq:=top 29
theorem zLn:FnScope ["one","other"] ["one","other"] (defScope zCa):=z7
theorem zLo:FnScope ["one","other"] ["one","other"] (defScope zCb):=z7
theorem zFs:FnScope ["one","other"] ["one","other"] (defScope zBD):=z7
theorem cm {p:Int}(a:0<=p)(b:p<1073741824)(q:Int):g9 p q:=.inl ⟨by omega,by omega⟩
theorem zLp {f:ao}{fd:aY}(F:Fun K "times" "times" zCb f fd)(c1:zR P w K mg base 2 "lowest" ["up","down"] zBC):FnOk P w K mg base zY 3 f fd ["one","other"] (zFq K):=by
 refine F.ok zLo (fun vs H Q E h=>?_) (fun l A outer s H vs Q E m h=>?_)
 ·obtain⟨x,y,p,q,rfl,_⟩:=h;rfl
 ·obtain⟨x,y,p,q,rfl,⟨a,rfl,d⟩,⟨b,rfl,e⟩,sp,g,c,k⟩:=h
  refine⟨_,zP (zZ (zM c1 m rfl (zB (zW uD (yM vC (pv 0) zL (fun _ _=>rfl)) (yM vC (pv 1) zL (fun _ _=>rfl)))
   (zB (zW uD (yM vC (pv 0) zL (fun _ _=>rfl)) (yM vC (pv 1) zL (fun _ _=>rfl))) zD)))),?_⟩
  have i:=sp.up;have n:=g.up;have j:=sp.dn;have o:=g.dn
  refine⟨_,rfl,a,_,0,_,rfl,rfl,d,rfl,_,rfl,b,_,0,_,rfl,rfl,e,rfl,_,_,rfl,rfl,cm i sp.u1 _,?_⟩
  refine⟨_,rfl,a,_,1,_,rfl,rfl,d,rfl,_,rfl,b,_,1,_,rfl,rfl,e,rfl,_,_,rfl,rfl,cm (bo j) sp.d1 _,?_⟩
  exact⟨_,_,rfl,c6 i n,cx j o,c,k⟩
theorem zLq {f:ao}{fd:aY}(F:Fun K "is_less" "is_less" zBD f fd):FnOk P w K mg base zY 1 f fd ["one","other"] (zFr K):=by
 refine F.ok zFs (fun vs H Q E h=>?_) (fun g A outer s H vs Q E l h=>?_)
 ·obtain⟨x,y,p,q,rfl,_⟩:=h;rfl
 ·obtain⟨x,y,p,q,rfl,⟨a,rfl,c⟩,⟨b,rfl,d⟩,sp,e,k⟩:=h
  refine⟨_,zP (zZ (jX zAe (zW uD (yM vC (pv 0) zL (fun _ _=>rfl)) (yM vC (pv 1) zL (fun _ _=>rfl))) (zW uD (yM vC (pv 1) zL (fun _ _=>rfl)) (yM vC (pv 0) zL (fun _ _=>rfl))) (yQ _))),?_⟩
  have i:=sp.up;have j:=e.up
  refine⟨_,rfl,a,_,0,_,rfl,rfl,c,rfl,_,rfl,b,_,1,_,rfl,rfl,d,rfl,_,_,rfl,rfl,cm i sp.u1 _,?_⟩
  exact⟨_,rfl,b,_,0,_,rfl,rfl,d,rfl,_,rfl,a,_,1,_,rfl,rfl,c,rfl,_,_,rfl,rfl,cm j e.u1 _,_,_,rfl,rfl,k⟩
end
theorem zLr {ps:List (S×S)}{e:S}{xs:List (S×Int)}(nd:(xs.map (·.1)).Nodup)(mem:∀l n,(l,n)∈xs↔n=(ps.count (e,l):Int)/\0<n):(xs.map (·.2)).sum=(tot ps e:Int):=by
 have h:=zFY (ps.filter fun p=>decide (p.1=e)) (xs.map fun p=>(e,p.1)) ?_ ?_
 ·unfold tot
  rw[<-h,aJ]
  congr 1
  apply bT
  rintro⟨l,n⟩ hm
  have:=((mem l n).mp hm).1
  show n=(iI (e,l) (ps.filter fun p=>decide (p.1=e)):Int)
  rw[mW (by simp)]
  exact this
 ·have:=nd
  rw[qu,cf]at this⊢
  exact this.imp fun{p q} a z=>a (congrArg fZ z)
 ·rintro⟨c,l⟩ hm
  obtain⟨d,f⟩:=bg.mp hm
  have b:c=e:=by simpa using f
  subst b
  exact au.mpr ⟨(l,(ps.count (c,l):Int)),(mem l _).mpr ⟨rfl,by
   have:=bV.mpr d
   omega⟩,rfl⟩
def yD (ps:List (S×S))(e:S):List (S×Int):=(zK (y6 ps) e).getD []
theorem jR (ps:List (S×S))(e:S):((yD ps e).map (·.1)).Nodup:=by
 unfold yD
 cases g:zK (y6 ps) e with
 |none=>simp
 |some row=>exact(yH ps).ndr e row ((vA (yH ps).nd e row).mpr g)
theorem zBE (ps:List (S×S))(e l:S):zK (yD ps e) l=if 0<ps.count (e,l)then some (ps.count (e,l):Int)else none:=(yH ps).val e l
theorem zCc (ps:List (S×S))(e l:S)(n:Int):(l,n)∈yD ps e↔n=(ps.count (e,l):Int)/\0<n:=by
 rw[vA (jR ps e),zBE]
 by_cases c:0<ps.count (e,l)
 ·rw[if_pos c]
  constructor
  ·intro z
   have:=aw z
   omega
  ·rintro⟨z,_⟩;rw[z]
 ·rw[if_neg c]
  constructor
  ·intro z;cases z
  ·rintro⟨a,b⟩;omega
theorem zFt (ps:List (S×S))(e:S):((yD ps e).map (·.2)).sum=(tot ps e:Int):=zLr (jR ps e) (zCc ps e)
theorem tot_le (ps:List (S×S))(e:S):tot ps e<=ps.length:=cb ..
structure Cst2 (K:ae) (mg:Str->Option ah):Prop where
 nought:∃a,mg "NOUGHT"=some (.ref a)/\∀H,yE K H a [.int 0,.int 1]
 whole:∃a,mg "WHOLE"=some (.ref a)/\∀H,yE K H a [.int 1,.int 1]
section
variable{P:aL}{w:aU}{K:ae}{mg:Str->Option ah}{base:bx}
def zCd (K:ae):Sp:=fun vs H Q _=>∃(d:ao) (ps:List (S×S)) (e l:S),vs=[.ref d,sv l]/\H d=some (.dK (zQ (yD ps e)))/\ps.length<1000/\∀v H',zA H H'->z3 K H' v (zJ ps e l)->Q v H'
abbrev zCe:cq:=top 30
theorem zLs:FnScope ["row","letter"] ["row","letter"] (defScope zCe):=z7
theorem zFu {X:Cx}(c:ae){pos:Pos}{a:List bO}{k:Nat}{t:jG}(n:Nat)(d:X.K=c)(e:X.calm=true)(h:g0 X a t)
  (f:(assignEach a X.env).length=n) (b:(assignEach a X.env).findIdx? (·.1)=none):PG X (.Tuple a k pos) (zEK c n t):=by
 subst d
 exact jT e h f b
def frD (q:Int×Int):dN:=.tuple [.int q.1,.int q.2]
def stD (ps:List (S×S))(p:S×S):dN:=.tuple [.str (tx p.1),.str (tx p.2),frD (zJ ps p.1 p.2)]
def zFv (K:ae):Sp:=fun vs H Q _=>∃(d:ao) (ps:List (S×S)) (o:Nat) (nm:S),vs=[.ref d,.int o,sv nm]/\v6 H d ps/\ps.length<1000/\1<=o/\nm.length<=64/\
 ∀a xs H',zA H H'->H a=none->H' a=some (.lst xs)->Reps K H' ((z0 o nm).map (stD ps)) xs->Q (.ref a) H'
abbrev zCf:cq:=top 31
theorem zLt:FnScope ["rows","order","name"] ["rows","order","name"] (defScope zCf):=z7
theorem nd3:(["rows","end","letter"]:List Str).Nodup:=by decide+kernel
theorem v6.get {H:Hp}{d:ao}{ps:List (S×S)}(h:v6 H d ps)(e:S):∃kvs:List (zI×V),H d=some (.dK kvs)/\((yY kvs (Sum.inr (tx e))=none/\yD ps e=[])\/∃a,yY kvs (Sum.inr (tx e))=some (.ref a)/\H a=some (.dK (zQ (yD ps e)))):=by
 obtain⟨ra,b,f,i⟩:=h
 refine⟨_,f,?_⟩
 rw[uO]
 have nd:(ra.map (·.1)).Nodup:=by
  have h:=(yH ps).nd
  rw[<-b,aJ]at h
  exact h
 have c:zK (y6 ps) e=(zK ra e).map (·.2):=by
  rw[<-b]
  exact zFk (fun v:ao×List (S×Int)=>v.2) ra e
 cases g:zK ra e with
 |none=>exact .inl ⟨rfl,by unfold yD;rw[c,g];rfl⟩
 |some v=>
  refine .inr ⟨v.1,rfl,?_⟩
  have:=i _ ((vA nd e v).mpr g)
  unfold yD
  rw[c,g]
  exact this
theorem gE (o:Nat)(nm:S):(z0 o nm).length=nm.length+1:=by simp[z0]
theorem zLu {H:Hp}{o:Nat}{nm:S}{xs:List V}{i:Nat}{x:V}(q:Reps K H ((z0 o nm).map j5) xs)(r:xs[i]?=some x):∃(p:S×S) (a:ao),(z0 o nm)[i]?=some p/\x=.ref a/\yE K H a [sv p.1,sv p.2]:=by
 obtain⟨s,b,t⟩:=q.get r
 rw[aq]at b
 cases ep:(z0 o nm)[i]? with
 |none=>rw[ep]at b;cases b
 |some p=>
 rw[ep]at b
 have e:s=j5 p:=(aw b).symm
 subst e
 obtain⟨f,u,rfl,g,v,n,rfl,h,y,c,rfl,j,d⟩:=t
 have l:v=sv p.1:=h
 have m:y=sv p.2:=j
 have z:c=[]:=d
 subst l m z
 exact⟨p,f,rfl,rfl,g⟩
theorem zLv {f:ao}{fd:aY}(F:Fun K "steps_by_rows" "steps_by_rows" zCf f fd)(q:zR P w K mg base 2 "ends_and_letters" ["name","order"] (zCI K))(r:zR P w K mg base 3 "part_in" ["row","letter"] (zCd K)) :
  FnOk P w K mg base zY 4 f fd ["rows","order","name"] (zFv K):=by
 refine F.ok zLt (fun vs H Q E h=>?_) (fun ac A outer s H vs Q E U h=>?_)
 ·obtain⟨d,ps,o,nm,rfl,_⟩:=h;rfl
 ·obtain⟨d,ps,o,nm,rfl,hR,I,ho,hl,k⟩:=h
  have hu:=uM U
  have hr2:=U.mono (j:=2) (by decide)
  refine⟨_,zP (zZ (vM (N:=["rows","end","letter"]) (caps:=[0]) rfl (vF (by kernel_rfl))
   (qC (zM q hr2 rfl (zB (pv 2) (zB (pv 1) zD))))
   (fun cl C s H ex=>zFu K 2 rfl rfl (vV (z9 (i:=1) nd3 rfl (Or.inl rfl)) (vV (z9 (i:=2) nd3 rfl (Or.inl rfl)) jH)) rfl rfl)
   (fun cl C s H ex=>uY)
   (fun cl C s H ex=>uJ (zB (pv 1) (zB (pv 2) (zB (zM r U rfl (zB (zAm hu (pv 0) (pv 1) j1 ⟨rfl,rfl,rfl,rfl⟩) (zB (pv 2) zD))) zD)))))),?_⟩
  refine⟨_,rfl,_,rfl,nm,o,rfl,ho,hl,fun l xs Hl J al L rp=>?_⟩
  refine⟨l,rfl,⟨_,.of L⟩,?_⟩
  have W:xs.length=nm.length+1:=by have:=rp.length;rw[<-this,aa,gE]
  refine qJ (qI K l xs) [some (.ref d)] 2 (by omega) (fun i a H'=>zA Hl H'/\a.length=i/\Reps K H' (((z0 o nm).take i).map (stD ps)) a)
   ⟨zA.refl _,rfl,rfl⟩ (fun i a H' _ h=>⟨.of (h.1 _ _ L),d5 h.2.1⟩) ?_ ?_
  ·rintro i x a H' ys Nx hN hx hy ⟨M,O,g⟩
   obtain⟨y,z,rfl⟩:=ys2 hy
   obtain⟨p,X,ep,rfl,Y⟩:=zLu (Reps.same M _ _ rp) hx
   have hj:i<(z0 o nm).length:=(ai.mp ep).1
   refine⟨X,[sv p.1,sv p.2],rfl,Y,rfl,_,_,rfl,_,_,rfl,rfl,?_⟩
   have R':v6 H' d ps:=(hR.same J).same M
   obtain⟨kvs,hd,hv⟩:=R'.get p.1
   refine⟨_,rfl,_,rfl,_,rfl,d,rfl,.inl ⟨_,.inl hd⟩,_,rfl,fun m Z=>?_⟩
   have T:zA H' (upd H' m (.dK [])):=zA.upd1 Z
   have fin:∀(ra:ao),upd H' m (.dK []) ra=some (.dK (zQ (yD ps p.1)))->∀v,v=V.ref ra->(∀(t:V) (n:Hp),zA (upd H' m (.dK [])) n->z3 K n t (zJ ps p.1 p.2)->∀pp,n pp=none->Nx (a++[.ref pp]) [some (.ref d),some (sv p.1),some (sv p.2)] (upd n pp (.tup [sv p.1,sv p.2,t]))):=by
    intro ra c v am t n G R pp b
    refine hN _ _ [some (sv p.1),some (sv p.2)] rfl ⟨((M.trans T).trans G).trans (zA.upd1 b),by rw[aI,O];rfl,?_⟩
    rw[az hj,(ai.mp ep).2,aF]
    refine Reps.append (Reps.same ((T.trans G).trans (zA.upd1 b)) _ _ g) (Reps.one ⟨pp,_,rfl,.of zE,?_⟩)
    exact⟨_,_,rfl,rfl,_,_,rfl,rfl,_,_,rfl,(R.same (zA.upd1 b)).rep,rfl⟩
   have ab:upd H' m (.dK []) d=some (.dK kvs):=T _ _ hd
   refine⟨_,yZ.k (k:=Sum.inr (tx p.1)) ab,_,rfl,?_⟩
   rcases hv with⟨u,B⟩|⟨ra,u,B⟩
   ·rw[u]
    have c:upd H' m (.dK []) m=some (.dK (zQ (yD ps p.1))):=by rw[zE,B];rfl
    exact⟨m,ps,p.1,p.2,rfl,c,I,fun v n G R=>⟨by show 3<=sizeLine;decide,fun pp b=>fin m c _ rfl v n G R pp b⟩⟩
   ·rw[u]
    have c:upd H' m (.dK []) ra=some (.dK (zQ (yD ps p.1))):=T _ _ B
    exact⟨ra,ps,p.1,p.2,rfl,c,I,fun v n G R=>⟨by show 3<=sizeLine;decide,fun pp b=>fin ra c _ rfl v n G R pp b⟩⟩
  ·rintro a H' ⟨M,O,g⟩ D hD
   have e:=J.trans M
   refine k D a _ (e.upd_new (e.free hD)) (e.free hD) zE (Reps.same (zA.upd1 hD) _ _ ?_)
   have e1:(z0 o nm).take xs.length=z0 o nm:=by rw[W,<-gE o nm,bc]
   rw[e1]at g
   exact g
end
theorem zFw {ps:List (S×S)}(b:1<=ps.length)(a:List (S×S)):(v4 ps a).2<=((ps.length^a.length:Nat):Int):=by
 have:=zFf b a (1,1) 0 jO (by simp)
 rw[pH]at this
 rw[Int.natCast_pow]
 exact this
theorem zLw (ps a:List (S×S)):Fq (v4 ps a):=zCE ps a _ jO
theorem zLx (ps a:List (S×S)):(v4 ps a).1<=(v4 ps a).2:=zCF ps a _ jO (by decide)
theorem zLy (ps a:List (S×S))(p:S×S):v4 ps (a++[p])=yR (v4 ps a) (zJ ps p.1 p.2):=by
 unfold v4;rw[cg];rfl
theorem Sm.of_le {q:Int×Int}(h:Fq q)(b:q.1<=q.2)(a:q.2<1073741824):Sm q:=⟨h,by omega,a⟩
theorem zLz {ps:List (S×S)}{o:Nat}{nm:S}(a:1<=ps.length)(h:ps.length^(nm.length+1)<1073741824):Sm (v9 ps o nm):=by
 refine .of_le (zLG ..) (zLH ..) ?_
 have:=zFw a (z0 o nm)
 rw[gE]at this
 unfold v9
 omega
section
variable{P:aL}{w:aU}{K:ae}{mg:Str->Option ah}{base:bx}
theorem zMA {H:Hp}{ps:List (S×S)}{e:List (S×S)}{xs:List V}{i:Nat}{x:V}(s:Reps K H (e.map (stD ps)) xs)(t:xs[i]?=some x):∃(p:S×S) (a:ao) (v:V),e[i]?=some p/\x=.ref a/\yE K H a [sv p.1,sv p.2,v]/\z3 K H v (zJ ps p.1 p.2):=by
 obtain⟨u,b,y⟩:=s.get t
 rw[aq]at b
 cases ep:e[i]? with
 |none=>rw[ep]at b;cases b
 |some p=>
 rw[ep]at b
 have f:u=stD ps p:=(aw b).symm
 subst f
 obtain⟨g,z,rfl,h,A,q,rfl,j,B,r,rfl,l,C,c,rfl,m,d⟩:=y
 have n:A=sv p.1:=j
 have o:B=sv p.2:=l
 have D:c=[]:=d
 subst n o D
 exact⟨p,g,C,rfl,rfl,h,z3.of_rep m⟩
def zFx (K:ae):Sp:=fun vs H Q _=>∃(d:ao) (ps:List (S×S)) (o:Nat) (nm:S),vs=[.ref d,.int o,sv nm]/\v6 H d ps/\1<=ps.length/\ps.length<1000/\ps.length^(nm.length+1)<1073741824/\1<=o/\nm.length<=64/\
 ∀v H',zA H H'->z3 K H' v (v9 ps o nm)->Q v H'
abbrev zCg:cq:=top 32
theorem zFy:FnScope ["rows","order","name","product","step"] ["rows","order","name"] (defScope zCg):=z7
theorem zMB {f:ao}{fd:aY}(F:Fun K "share_by_rows" "share_by_rows" zCg f fd)(C:Cst2 K mg)(r:zR P w K mg base 4 "steps_by_rows" ["rows","order","name"] (zFv K))(X:zR P w K mg base 3 "times" ["one","other"] (zFq K)) :
  FnOk P w K mg base zY 5 f fd ["rows","order","name"] (zFx K):=by
 obtain⟨O,Y,Z⟩:=C.whole
 refine F.ok zFy (fun vs H Q E h=>?_) (fun ab A outer s H vs Q E t h=>?_)
 ·obtain⟨d,ps,o,nm,rfl,_⟩:=h;rfl
 ·obtain⟨d,ps,o,nm,rfl,hR,a,z,R,ho,hl,k⟩:=h
  have hu:=uM t
  have B:=t.mono (j:=3) (by decide)
  have nd:=zFy.nd
  refine⟨_,zO (z8 (i:=3) nd rfl (Or.inl rfl) (v7 (v:=.ref O) (by rfl) Y rfl))
   (zO (v8 bL rfl (qC (zM r t rfl (zB (pv 0) (zB (pv 1) (zB (pv 2) zD))))) (z9 (i:=4) nd rfl (Or.inl rfl))
    (zP (z8 (i:=3) nd rfl (Or.inl rfl) (zM X B rfl (zB (pv 3) (zB (yM vC (pv 4) zL (fun _ _=>rfl)) zD))))))
   (zP (zZ (pv 3)))),?_⟩
  refine⟨_,rfl,_,rfl,_,rfl,d,ps,o,nm,rfl,hR,z,ho,hl,fun l xs Hl D ac c T=>?_⟩
  refine⟨l,rfl,⟨_,.of c⟩,?_⟩
  have G:xs.length=nm.length+1:=by have:=T.length;rw[<-this,aa,gE]
  refine jB (qI K l xs) (fun i σ g=>∃(v:V) (y:Option V),σ=[some (.ref d),some (.int o),some (sv nm),some v,y]/\zA Hl g/\z3 K g v (v4 ps ((z0 o nm).take i)))
   ⟨_,_,rfl,zA.refl _,⟨O,rfl,Z _⟩⟩ (fun i σ H' _ h=>by obtain⟨_,_,_,h,_⟩:=h;exact .of (h _ _ c)) ?_ ?_
  ·rintro i x σ g Nx hN hx ⟨v,y,rfl,n,q⟩
   obtain⟨p,I,u,ep,rfl,J,fu⟩:=zMA (Reps.same n _ _ T) hx
   have L:i<(z0 o nm).length:=(ai.mp ep).1
   have al:i<nm.length+1:=by rw[gE]at L;exact L
   have M:((z0 o nm).take i).length=i:=by rw[aQ];omega
   have m:=zFw a ((z0 o nm).take i)
   rw[M]at m
   have am:ps.length^i<=ps.length^(nm.length+1):=cQ a (by omega)
   have U:ps.length^(i+1)<=ps.length^(nm.length+1):=cQ a (by omega)
   have N:=zCD p.1 p.2 a
   have s1:Sm (v4 ps ((z0 o nm).take i)):=.of_le (zLw ..) (zLx ..) (by omega)
   have W:Sm (zJ ps p.1 p.2):=.of_le (v5 ..) (zFc ..) (by omega)
   refine⟨_,rfl,_,rfl,I,_,2,u,rfl,rfl,J,rfl,v,u,_,_,rfl,q,fu,s1,W,?_,fun b hb=>hN _ _ ⟨_,_,rfl,n.trans (zA.upd1 hb),?_⟩⟩
   ·have hm:(v4 ps ((z0 o nm).take i)).2*(zJ ps p.1 p.2).2<=((ps.length^i:Nat):Int)*(ps.length:Int):=eI m N (bo W.dn) (Int.natCast_nonneg _)
    have e:((ps.length^i:Nat):Int)*(ps.length:Int)=((ps.length^(i+1):Nat):Int):=by rw[pQ];rfl
    rw[e]at hm
    omega
   ·rw[az L,(ai.mp ep).2,zLy]
    exact z3.new
  ·rintro σ g ⟨v,y,rfl,n,q⟩
   refine⟨_,rfl,k v g (D.trans n) ?_⟩
   have e1:(z0 o nm).take xs.length=z0 o nm:=by rw[G,<-gE o nm,bc]
   rw[e1]at q
   exact q
structure Bk (bk:List S) (o:Nat):Prop extends isBk bk where
 o1:1<=o
 o3:o<=3
structure Fit (bk:List S) (o:Nat) (x:S):Prop extends Bk bk o where
 nmn:jP x
 pw:(zC o bk).length^(x.length+1)<1073741824
theorem Bk.l8 {bk:List S}{o:Nat}(h:Bk bk o):∀x∈bk,x.length<=8:=fun x a=>(h.nm x a).2.1
theorem zCh {bk:List S}{o:Nat}(h:Bk bk o):1<=(zC o bk).length/\(zC o bk).length<1000:=by
 have e:=zAv o bk
 have go:∀l:List S,(∀x∈l,x.length<=8)->(l.length:Int)<=(l.map fun x=>(x.length:Int)+1).sum/\(l.map fun x=>(x.length:Int)+1).sum<=9*(l.length:Int):=by
  intro l
  induction l with
  |nil=>intro _;simp
  |cons x r ih=>
   intro hl
   have a:=hl x (aj ..)
   have b:=ih fun y c=>hl y (ak _ c)
   rw[aC,aO,aX]
   have:((r.length+1:Nat):Int)=(r.length:Int)+1:=rfl
   omega
 have:=go bk h.l8
 have a:=h.lo
 have b:=h.hi
 omega
abbrev zCi:cq:=top 33
abbrev zCj:cq:=top 34
theorem zMC:FnScope ["book","order","name"] ["book","order","name"] (defScope zCi):=z7
theorem zMD:FnScope ["book","order","name"] ["book","order","name"] (defScope zCj):=z7
structure Needs (P:aL) (w:aU) (K:ae) (mg:Str->Option ah) (base:bx):Prop where
 bk:zR P w K mg base 3 "need_book" ["thing"] zCQ
 od:zR P w K mg base 3 "need_order" ["thing"] zCS
 nm:zR P w K mg base 2 "need_name" ["thing"] zFi
 rows:zR P w K mg base 3 "counted_rows" ["book","order"] zBB
def zFz (K:ae):Sp:=fun vs H Q _=>∃(a:ao) (bk:List S) (o:Nat) (nm:S),vs=[.ref a,.int o,sv nm]/\H a=some (.tup (zU bk))/\Fit bk o nm/\
 ∀v H',zA H H'->z3 K H' v (v9 (zC o bk) o nm)->Q v H'
theorem zME {f:ao}{fd:aY}(F:Fun K "share" "share" zCi f fd)(N:Needs P w K mg base)(g:zR P w K mg base 5 "share_by_rows" ["rows","order","name"] (zFx K)) :
  FnOk P w K mg base zY 6 f fd ["book","order","name"] (zFz K):=by
 refine F.ok zMC (fun vs H Q E h=>?_) (fun m A outer s H vs Q E i h=>?_)
 ·obtain⟨d,ps,o,nm,rfl,_⟩:=h;rfl
 ·obtain⟨a,bk,o,nm,rfl,l,b,k⟩:=h
  have c:=i.mono (j:=3) (by decide)
  have hr2:=i.mono (j:=2) (by decide)
  refine⟨_,zO (vE (zM N.bk c rfl (zB (pv 0) zD))) (zO (vE (zM N.od c rfl (zB (pv 1) zD))) (zO (vE (zM N.nm hr2 rfl (zB (pv 2) zD)))
   (zP (zZ (zM g i rfl (zB (zM N.rows c rfl (zB (pv 0) (zB (pv 1) zD))) (zB (pv 1) (zB (pv 2) zD)))))))),?_⟩
  refine⟨_,rfl,a,bk,rfl,l,b.toisBk,fun x n=>?_⟩
  refine⟨_,rfl,o,rfl,b.o1,b.o3,?_⟩
  refine⟨_,rfl,nm,rfl,b.nmn,fun y p=>?_⟩
  have e:=n.trans p
  have pl:=zCh b.toBk
  refine⟨_,rfl,_,rfl,a,bk,o,rfl,e _ _ l,b.hi,b.toBk.l8,b.o1,fun d z q hd R=>?_⟩
  exact⟨_,rfl,_,rfl,d,_,o,nm,rfl,R,pl.1,pl.2,b.pw,b.o1,(by have:=b.nmn.2.1;omega),fun v r t u=>k v r ((e.trans q).trans t) u⟩
def zGA:Sp:=fun vs H Q _=>∃(a:ao) (bk:List S) (o:Nat) (nm:S),vs=[.ref a,.int o,sv nm]/\H a=some (.tup (zU bk))/\Fit bk o nm/\
 ∀H',zA H H'->Q (.bl (decide (0<(v9 (zC o bk) o nm).1))) H'
theorem zMF {f:ao}{fd:aY}(F:Fun K "makes" "makes" zCj f fd)(C:Cst2 K mg)(b:zR P w K mg base 6 "share" ["book","order","name"] (zFz K))(i:zR P w K mg base 1 "is_less" ["one","other"] (zFr K)) :
  FnOk P w K mg base zY 7 f fd ["book","order","name"] zGA:=by
 obtain⟨e,l,m⟩:=C.nought
 refine F.ok zMD (fun vs H Q E h=>?_) (fun n A outer s H vs Q E g h=>?_)
 ·obtain⟨d,ps,o,nm,rfl,_⟩:=h;rfl
 ·obtain⟨a,bk,o,nm,rfl,p,c,k⟩:=h
  have hr1:=g.mono (j:=1) (by decide)
  refine⟨_,zP (zZ (zM i hr1 rfl (zB (v7 (v:=.ref e) (by rfl) l rfl) (zB (zM b g rfl (zB (pv 0) (zB (pv 1) (zB (pv 2) zD)))) zD)))),?_⟩
  refine⟨_,rfl,_,rfl,_,rfl,a,bk,o,nm,rfl,p,c,fun v q r t=>?_⟩
  refine⟨_,v,(0,1),_,rfl,⟨e,rfl,m _⟩,t,⟨zCC,by decide,by decide⟩,zLz (zCh c.toBk).1 c.pw,?_⟩
  rw[zLJ]
  exact k q r
end
theorem zMG (x:Str):tx x.cps.toList=x:=by
 apply MyS.Str_ext
 simp[tx]
theorem zMH (l:List Str):(l.map fun x=>x.cps.toList).map tx=l:=by
 rw[aJ]
 conv=>rhs;rw[<-nJ l]
 apply bT
 intro x _
 exact zMG x
section
variable{P:aL}{w:aU}{K:ae}{mg:Str->Option ah}{base:bx}
theorem j8 {X:Cx}(e:ae)(g:X.K=e){o:bO}{f:TE}{name:Str}{apos a:Pos}{T id:String}{r:V->List V->Hp->VK->Prop}(h:oa T)(slot:Slot T name id)(d:typeOf (.builtin id)=pure (.type "method_descriptor"))(hm:MtR X id r)(i:PE X o f)
  (b:attributeBase o name X.env (eval o X.env)=eval o X.env:=by rfl) (c:(apos.endLine==a.line)=true:=by rfl):PE X (.Call (.Attribute o name apos) [] [] a) (zEk e T r f):=by
 subst g
 exact zJh h slot d hm i b c
end
theorem zGB {c A B:Prop} [Decidable c] (a:¬c)(h:A):if(!decide c)=true then A else B:=by
 rw[decide_eq_false a];exact h
section
variable{P:aL}{w:aU}{K:ae}{mg:Str->Option ah}{base:bx}
theorem zCk {H:Hp}:∀ns:List Int,Reps K H (ns.map PyData.int) (ns.map V.int)
 | []=>rfl
 |n::ns=>⟨_,_,rfl,rfl,zCk ns⟩
theorem zGC:∀ns:List Int,cI (ns.map PyData.int)=true
 | []=>rfl
 |n::ns=>by rw[aC];simp only[cI,fm,zGC ns,mi]
def zGD (K:ae):Sp:=fun vs H Q _=>∃(a:ao) (ns:List Int) (k:Nat),vs=[.ref a,.int k]/\yF K H a (ns.map V.int)/\ns.length<=63/\∀(i:Int) H',zA H H'->Q (.int i) H'
abbrev zCl:cq:=top 58
theorem zMI:FnScope ["_law_script","_law_k"] ["_law_script","_law_k"] (defScope zCl):=z7
theorem zCm (ns:List Int):eV (.list (ns.map PyData.int))=true:=by
 unfold eV
 have a:(PyData.list (ns.map PyData.int)).canLay0=true:=by simp only[fm];exact zGC ns
 have b:(PyData.list (ns.map PyData.int)).depth<=64:=by
  have go:∀ns:List Int,gz (ns.map PyData.int)<=1:=by
   intro ns
   induction ns with
   |nil=>decide
   |cons n ns ih=>rw[aC];simp only[gz,mX];omega
  have:=go ns
  simp only[mX];omega
 rw[a,decide_eq_true b];rfl
theorem zMJ {f:ao}{fd:aY}(F:Fun K "_law_cell" "_law_cell" zCl f fd)(B:Blt mg):FnOk P w K mg base zY 1 f fd ["_law_script","_law_k"] (zGD K):=by
 refine F.ok zMI (fun vs H Q E h=>?_) (fun g A outer s H vs Q E i h=>?_)
 ·obtain⟨a,ns,k,rfl,_⟩:=h;rfl
 ·obtain⟨a,ns,n,rfl,e,hl,k⟩:=h
  have j:=i.units
  refine⟨_,zO (vI (yS (zBp j) (pv 0) (vJ zD) (yQ _)) (zP (zZ (zW uD zL (pv 1)))) vH)
   (zP (zZ (zW y9 (yM jY (pv 0) (zW jW (pv 1) (yX zAF (by rfl) B.len b0 (zB (pv 0) zD))) (fun _ _=>rfl))
    (zW uD zL (zW kR (pv 1) (yX zAF (by rfl) B.len b0 (zB (pv 0) zD))))))),?_⟩
  refine⟨_,rfl,by show 0<=sizeLine;decide,fun p l=>?_⟩
  have c:zA H (upd H p (.lst [])):=zA.upd1 l
  refine⟨.list (ns.map PyData.int),.list [],⟨a,_,rfl,c.seq e,zCk ns⟩,⟨p,[],rfl,.of zE,rfl⟩,zCm ns,rfl,_,rfl,?_⟩
  cases ns with
  |nil=>exact zBl ⟨_,rfl,7,n,rfl,rfl,.inl ⟨by decide,by decide⟩,k _ _ c⟩
  |cons m ns=>
   refine vK ?_
   have b:((m::ns).map V.int).length=ns.length+1:=by simp
   have o:ns.length+1<=63:=by simpa using hl
   have hm:((n:Int)%(((m::ns).map V.int).length:Int))=((n%(ns.length+1):Nat):Int):=by rw[b];rfl
   have d:n%(ns.length+1)<((m::ns).map V.int).length:=by rw[b];exact oq _ (Nat.succ_pos _)
   refine⟨_,rfl,_,rfl,_,rfl,a,_,rfl,.inl (c.seq e),_,_,rfl,rfl,by rw[b];omega,?_⟩
   refine⟨a,_,_,.int ((m::ns)[n%(ns.length+1)]'(by simpa using d)),rfl,rfl,c.seq e,?_,?_⟩
   ·rw[hm]
    refine zAg ?_
    rw[aq,aG (by simpa using d)];rfl
   ·exact⟨_,rfl,_,rfl,a,_,rfl,.inl (c.seq e),_,_,rfl,rfl,⟨by rw[b];omega,by rw[b];omega⟩,_,_,rfl,rfl,.inl ⟨by decide,by decide⟩,_,_,rfl,rfl,k _ _ c⟩
theorem lt0 {d:Int}(h:0<d):0<d:=h
theorem cmE {t d q:Int}(h:0<d)(a:d<18446744073709551616):g9 (t%d) q:=by
 have b:=ky t (show d≠0 by omega)
 have c:=iJ t h
 exact .inl ⟨by omega,by omega⟩
def zCn (K:ae):Sp:=fun vs H Q _=>∃(a:ao) (ns:List Int) (k m:Nat),vs=[.ref a,.int k,.int m]/\yF K H a (ns.map V.int)/\ns.length<=63/\1<=m/\m<100000/\∀(i:Nat) H',i<m->zA H H'->Q (.int i) H'
abbrev zCo:cq:=top 59
theorem zGE:FnScope ["_law_script","_law_k","_law_many","_law_cell_here"] ["_law_script","_law_k","_law_many"] (defScope zCo):=z7
theorem zMK {f:ao}{fd:aY}(F:Fun K "_law_drawn" "_law_drawn" zCo f fd)(c1:zR P w K mg base 1 "_law_cell" ["_law_script","_law_k"] (zGD K)):FnOk P w K mg base zY 2 f fd ["_law_script","_law_k","_law_many"] (zCn K):=by
 refine F.ok zGE (fun vs H Q E h=>?_) (fun b A outer s H vs Q E c h=>?_)
 ·obtain⟨a,ns,k,m,rfl,_⟩:=h;rfl
 ·obtain⟨a,ns,n,m,rfl,d,hl,g,j,k⟩:=h
  have nd:=zGE.nd
  refine⟨_,zO (z8 (i:=3) nd rfl (Or.inl rfl) (zW jW (zW y9 (zW uD (zW jW (zM c1 c rfl (zB (pv 0) (zB (pv 1) zD))) zL) zL) (zW uD zL (zW y9 (pv 1) zL))) zL))
   (zO (z8 (i:=3) nd rfl (Or.inl rfl) (zW jW (zW y9 (zW uD (pv 3) (pv 3)) (zW kR (pv 3) zL)) zL))
   (zP (zZ (zW jW (zW kR (zW jW (zW y9 (zW uD (pv 3) (pv 3)) (zW kR (pv 3) zL)) zL) zL) (pv 2))))),?_⟩
  refine⟨_,rfl,_,rfl,a,ns,n,rfl,d,hl,fun i H' l=>?_⟩
  have fin:∀z:Int,Q (.int (z%(m:Int))) H':=fun z=>by
   have o:0<=z%(m:Int):=ky _ (by omega)
   have p:z%(m:Int)<m:=iJ _ (by omega)
   have e:z%(m:Int)=((z%(m:Int)).toNat:Int):=(Int.toNat_of_nonneg o).symm
   rw[e]
   exact k _ _ (by omega) l
  refine⟨_,_,rfl,rfl,lt0 (by decide),_,_,rfl,rfl,.inr ⟨by decide,by decide⟩,?_⟩
  refine⟨_,rfl,_,_,rfl,rfl,_,_,rfl,rfl,.inl ⟨by decide,by decide⟩,_,_,rfl,rfl,_,_,rfl,rfl,lt0 (by decide),?_⟩
  refine⟨_,rfl,_,rfl,_,_,rfl,rfl,cmE (by decide) (by decide),_,rfl,_,_,rfl,rfl,⟨by decide,by decide⟩,_,_,rfl,rfl,_,_,rfl,rfl,lt0 (by decide),?_⟩
  refine⟨_,rfl,_,rfl,_,_,rfl,rfl,cmE (by decide) (by decide),_,rfl,_,_,rfl,rfl,⟨by decide,by decide⟩,_,_,rfl,rfl,_,_,rfl,rfl,lt0 (by decide),_,_,rfl,rfl,⟨by decide,by decide⟩,_,rfl,_,_,rfl,rfl,?_,fin _⟩
  show(0:Int)<(m:Int)
  omega
def zGF (K:ae):Sp:=fun vs H Q _=>∃(a:ao) (ns:List Int) (at' most:Nat),vs=[.ref a,.int at',.int most]/\yF K H a (ns.map V.int)/\ns.length<=63/\1<=most/\most<=8/\
 ∀(x:S) H',zA H H'->jP x->(x.length<=most/\∀c∈x,(c=97\/c=98\/c=122))->Q (sv x) H'
abbrev zCp:cq:=top 60
theorem zGG:FnScope ["_law_script","_law_at","_law_most","_law_size","_law_letters"] ["_law_script","_law_at","_law_most"] (defScope zCp):=z7
theorem ndN:(["_law_letters","_law_script","_law_at","_law_k"]:List Str).Nodup:=by decide+kernel
abbrev cDr (P:aL)(w:aU)(K:ae)(mg:Str->Option ah)(base:bx):Prop:=zR P w K mg base 2 "_law_drawn" ["_law_script","_law_k","_law_many"] (zCn K)
theorem zML {f:ao}{fd:aY}(F:Fun K "_law_name" "_law_name" zCp f fd)(B:Blt mg)(c1:cDr P w K mg base):FnOk P w K mg base zY 3 f fd ["_law_script","_law_at","_law_most"] (zGF K):=by
 refine F.ok zGG (fun vs H Q E h=>?_) (fun ac A outer s H vs Q E G h=>?_)
 ·obtain⟨a,ns,k,m,rfl,_⟩:=h;rfl
 ·obtain⟨a,ns,n,m,rfl,I,hl,J,al,k⟩:=h
  have nd:=zGG.nd
  refine⟨_,zO (z8 (i:=3) nd rfl (Or.inl rfl) (zW y9 zL (zM c1 G rfl (zB (pv 0) (zB (pv 1) (zB (pv 2) zD))))))
   (zO (z8 (i:=4) nd rfl (Or.inr rfl) (yM jY (vJ (zB u9 (zB u9 (zB u9 zD)))) (zM c1 G rfl (zB (pv 0) (zB (zW y9 (pv 1) zL) (zB zL zD)))) (fun _ _=>rfl)))
   (zP (zZ (zAh PySem.F.plainAttrs_str PySem.F.slot_str_join PySem.F.type_str_join zKf u9 (zB
    (vM (N:=["_law_letters","_law_script","_law_at","_law_k"]) (caps:=[4,0,1]) rfl (vF (by kernel_rfl)) (zBa rfl B.range (zB (pv 3) zD))
     (fun R C s H ex=>z9 (i:=3) ndN rfl (Or.inl rfl)) (fun R C s H ex=>uY)
     (fun R C s H ex=>yM zJe (pv 0) (zM c1 G rfl (zB (pv 1) (zB (zW y9 (zW y9 (pv 2) zL) (pv 3)) (zB (yX jL (by rfl) B.len b0 (zB (pv 0) zD)) zD)))) (fun _ _=>rfl))) zD))))),?_⟩
  refine⟨_,rfl,_,rfl,_,rfl,a,ns,n,m,rfl,I,hl,J,by omega,fun sz T hsz U=>?_⟩
  refine⟨_,_,rfl,rfl,?_⟩
  refine⟨by show 3<=sizeLine;decide,fun p hp=>?_⟩
  have W:zA T (upd T p (.lst [.str "ab",.str "ab",.str "abz"])):=zA.upd1 hp
  refine⟨_,rfl,_,rfl,_,_,rfl,rfl,a,ns,n+9,3,rfl,W.seq (U.seq I),hl,by decide,by decide,fun X H3 M Y=>?_⟩
  have o:=(U.trans W).trans Y
  obtain⟨L,Z,e⟩:∃L:S,(L=[97,98]\/L=[97,98,122])/\([.str "ab",.str "ab",.str "abz"]:List V)[X]?=some (sv L):=by
   match X,M with
   |0,_=>exact⟨[97,98],.inl rfl,rfl⟩
   |1,_=>exact⟨[97,98],.inl rfl,rfl⟩
   |2,_=>exact⟨[97,98,122],.inr rfl,rfl⟩
  refine⟨p,_,_,sv L,rfl,rfl,.of (Y _ _ zE),zAg e,?_⟩
  refine⟨rfl,_,rfl,_,rfl,by omega,by omega,?_⟩
  have am:L.length=2\/L.length=3:=by rcases Z with h|h<;>subst h<;>simp
  have O:∀c∈L,(97<=c/\c<=122)/\(c=97\/c=98\/c=122):=by rcases Z with h|h<;>subst h<;>decide
  have r:(1+(sz:Int)).toNat=sz+1:=by omega
  refine qJ (zAI 0 _) [some (sv L),some (.ref a),some (.int n)] 1 (by rw[aa,bK,r];omega) (fun i l H'=>zA H3 H'/\∃b:S,l=b.map (fun c=>V.str (tx [c]))/\b.length=i/\∀c∈b,(97<=c/\c<=122)/\(c=97\/c=98\/c=122))
   ⟨zA.refl _,[],rfl,rfl,by simp⟩ (fun i l H' _ h=>⟨trivial,by obtain⟨_,b,rfl,h,_⟩:=h;rw[aa];omega⟩) ?_ ?_
  ·rintro i x l H' ys Nx hN hx hy ⟨u,b,rfl,g,d⟩
   obtain⟨y,rfl⟩:=ys1 hy
   rw[r]at hx
   obtain⟨hi,rfl⟩:=zCG hx
   refine⟨_,rfl,_,rfl,_,rfl,_,_,rfl,rfl,_,rfl,_,_,rfl,rfl,_,rfl,tx L,rfl,by rw[yL,aZ];omega,?_⟩
   rw[yL]
   refine⟨a,ns,n+1+i,L.length,rfl,(o.trans u).seq I,hl,by omega,by omega,fun j H5 hj s5=>?_⟩
   refine⟨tx L,_,L[j],rfl,rfl,by rw[yL,aZ];omega,?_,?_⟩
   ·rw[qL]
    exact zAg (aG hj)
   ·refine hN _ _ [some (.int i)] rfl ⟨u.trans s5,b++[L[j]],by rw[aF];rfl,by rw[aI,g];rfl,fun c t=>?_⟩
    rcases bt.mp t with z|z
    ·exact d c z
    ·have:c=L[j]:=by simpa using z
     rw[this]
     exact O _ (cA hj)
  ·rintro l H' ⟨u,b,rfl,g,d⟩ D hD
   rw[aa,bK,r]at g
   have q:((b.map fun c=>tx [c]).map (·.length)).sum=b.length:=by
    clear g d
    induction b with
    |nil=>rfl
    |cons c b ih=>rw[aC,aC,aO,ih,aX,yL];show 1+_=_;omega
   refine⟨_,D,b.map (fun c=>tx [c]),rfl,rfl,.of (by rw[zE,aJ];rfl),?_,?_⟩
   ·rw[q]
    show _+_*0<=_
    omega
   ·have ej:mR ⟨#[]⟩ (b.map fun c=>tx [c])=tx b:=by
     rw[zKh,aJ]
     congr 1
     clear g d q
     congr 1
     induction b with
     |nil=>rfl
     |cons c b ih=>rw[aC,d4,ih];rfl
    have kk:∀v,zA H v->Q (.str (mR ⟨#[]⟩ (b.map fun c=>tx [c]))) v:=fun v sx=>by
     rw[ej]
     exact k b v sx ⟨by omega,by omega,fun c t=>(d c t).1⟩ ⟨by omega,fun c t=>(d c t).2⟩
    exact kk _ ((o.trans u).trans (zA.upd1 hD))
def zGH (K:ae):Sp:=fun vs H Q _=>∃(a:ao) (ns:List Int) (at' many most:Nat),vs=[.ref a,.int at',.int many,.int most]/\yF K H a (ns.map V.int)/\ns.length<=63/\1<=many/\many<=8/\1<=most/\most<=8/\
 ∀(p:ao) (bk:List S) H',zA H H'->H' p=some (.tup (zU bk))->1<=bk.length->bk.length<=many->(∀x∈bk,jP x/\x.length<=most/\∀c∈x,c=97\/c=98\/c=122)->Q (.ref p) H'
abbrev zCq:cq:=top 61
theorem zGI:FnScope ["_law_script","_law_at","_law_many","_law_most","_law_found","_law_k"] ["_law_script","_law_at","_law_many","_law_most"] (defScope zCq):=z7
theorem zMM {f:ao}{fd:aY}(F:Fun K "_law_book" "_law_book" zCq f fd)(B:Blt mg)(c1:cDr P w K mg base)(c2:zR P w K mg base 3 "_law_name" ["_law_script","_law_at","_law_most"] (zGF K)):FnOk P w K mg base zY 4 f fd ["_law_script","_law_at","_law_many","_law_most"] (zGH K):=by
 refine F.ok zGI (fun vs H Q E h=>?_) (fun ab A outer s H vs Q E N h=>?_)
 ·obtain⟨a,ns,k,m,l,rfl,_⟩:=h;rfl
 ·obtain⟨a,ns,n,many,d,rfl,O,hl,G,ac,I,J,k⟩:=h
  have nd:=zGI.nd
  have hr2:=N.mono (j:=2) (by decide)
  refine⟨_,zO (z8 (i:=4) nd rfl (Or.inl rfl) (uJ zD))
   (zO (v8 bL rfl (zBa rfl B.range (zB (zW y9 zL (zM c1 hr2 rfl (zB (pv 0) (zB (pv 1) (zB (pv 2) zD))))) zD)) (z9 (i:=5) nd rfl (Or.inl rfl))
    (zP (z8 (i:=4) nd rfl (Or.inl rfl) (zW (zKm.or zJY) (pv 4) (uJ (zB (zM c2 N rfl (zB (pv 0) (zB (zW y9 (zW y9 (pv 1) zL) (zW uD zL (pv 5))) (zB (pv 3) zD)))) zD))))))
   (zP (zZ (pv 4)))),?_⟩
  refine⟨by show 0<=sizeLine;decide,fun R L=>?_⟩
  have T:zA H (upd H R (.tup [])):=zA.upd1 L
  refine⟨_,rfl,_,rfl,_,rfl,a,ns,n,many,rfl,T.seq O,hl,G,by omega,fun sz H1 hsz U=>?_⟩
  refine⟨_,_,rfl,rfl,_,rfl,by omega,by omega,?_⟩
  have o:(1+(sz:Int)).toNat=sz+1:=by omega
  refine jB (zAI 0 _) (fun i σ t=>∃(p:ao) (bk:List S) (y:Option V),σ=[some (.ref a),some (.int n),some (.int many),some (.int d),some (.ref p),y]/\zA H t/\t p=some (.tup (zU bk))/\bk.length=i/\∀x∈bk,jP x/\x.length<=d/\∀c∈x,c=97\/c=98\/c=122)
   ⟨R,[],_,rfl,T.trans U,U _ _ zE,rfl,by simp⟩ (fun _ _ _ _ _=>trivial) ?_ ?_
  ·rintro i x σ t Nx W X ⟨p,bk,y,rfl,u,v,e,g⟩
   rw[o]at X
   obtain⟨hi,rfl⟩:=zCG X
   refine⟨_,rfl,_,rfl,_,rfl,_,_,rfl,rfl,_,rfl,_,_,rfl,rfl,.inl ⟨by decide,by decide⟩,_,_,rfl,rfl,_,rfl,a,ns,n+1+10*i,d,rfl,u.seq O,hl,I,J,fun x Y C hx1 hx2=>?_⟩
   refine⟨by show 1<=sizeLine;decide,fun q hq=>?_⟩
   have D:zA Y (upd Y q (.tup [sv x])):=zA.upd1 hq
   have nx:∀b∈bk++[x],jP b/\b.length<=d/\∀c∈b,c=97\/c=98\/c=122:=fun b hb=>by
    rcases bt.mp hb with z|z
    ·exact g b z
    ·have:b=x:=by simpa using z
     rw[this];exact⟨hx1,hx2⟩
   cases bk with
   |nil=>exact .inl ⟨p,q,_,rfl,rfl,.of (D _ _ (C _ _ v)),.of zE,W _ _ ⟨q,[x],_,rfl,(u.trans C).trans D,zE,by rw[<-e];rfl,nx⟩⟩
   |cons c Z=>
    refine .inr ⟨p,q,_,_,rfl,rfl,.of (D _ _ (C _ _ v)),.of zE,by simp[zU],?_,fun z=>by simp at z,fun _ r M=>W _ _ ⟨r,(c::Z)++[x],_,rfl,((u.trans C).trans D).trans (zA.upd1 M),?_,by rw[aI,e];rfl,nx⟩⟩
    ·have:(zU (c::Z)).length=i:=by rw[<-e];simp[zU]
     rw[this,aZ]
     show i+1<=_
     omega
    ·rw[zE]
     unfold zU
     rw[aF];rfl
  ·rintro σ t ⟨p,bk,y,rfl,u,v,e,g⟩
   rw[aa,bK,o]at e
   exact⟨_,rfl,k p bk t u v (by omega) (by omega) g⟩
end
theorem zCr (a b:S):tx a++tx b=tx (a++b):=by
 apply MyS.Str_ext
 show((tx a).cps++(tx b).cps).toList=_
 simp[tx]
theorem gF {d:dN}{A B:Prop}(hd:d.canLay0=true)(h:B):if(if true=true then !PyData.eqv d d else dO d d)=true then A else B:=by
 rw[zBq d hd];exact h
theorem zGJ {t:S}(h:∀c∈t,c<=122):pR (tx t)=true:=by
 unfold pR
 rw[Array.all_eq_true']
 intro c b
 have a:c∈t:=by simpa [tx]using b
 have:=h c a
 exact decide_eq_true (by omega)
theorem zCs {ds:List dN}(h:∀d∈ds,d.canLay0=true/\d.depth<=10):eV (.list ds)=true/\(PyData.list ds).canLay0=true:=by
 have f:cI ds=true:=by
  induction ds with
  |nil=>rfl
  |cons d ds ih=>simp only[cI,(h d (aj ..)).1,ih fun e c=>h e (ak _ c),mi]
 have j:gz ds<=10:=by
  clear f
  induction ds with
  |nil=>decide
  |cons d ds ih=>
   have a:=(h d (aj ..)).2
   have b:=ih (fun e c=>h e (ak _ c))
   simp only[gz];omega
 have g:(PyData.list ds).canLay0=true:=by simp only[fm];exact f
 have i:(PyData.list ds).depth<=64:=by simp only[mX];omega
 unfold eV
 rw[g,decide_eq_true i];exact⟨rfl,rfl⟩
end Kn
end
section
namespace L2
open PySem PySem.Spec PyProof.Rows
theorem z6.freeze {P:aL}{w:aU}{H:Hp}{h:bx}{a:ao}{o:Obj}{kvs:List (zI×V)}(x:z6 P w H h)(e:H a=some (.dK kvs))(g:h.get? a=some o):z6 P w (upd H a (.frz o (.dK kvs))) h:=fun b u d=>by
 by_cases f:b=a
 ·subst f;rw[zE]at d;cases d
  exact⟨g,x b _ e⟩
 ·rw[zG f]at d
  refine(x b u d).stay (fun c v _ q=>q) (fun c q=>?_) fun c xs q=>?_
  ·rw[zG (by rintro rfl;rw[e]at q;cases q)];exact q
  ·rw[zG (by rintro rfl;rw[e]at q;cases q)];exact q
theorem zGK {P:aL}{w:aU}{k:zI}{u:ah}(h:(y0 P w).is k u=true):zS (kV k) u:=by
 rw[zIY]at h
 rcases uH h with⟨i,t,rfl,rfl⟩|⟨x,t,rfl,rfl⟩
 ·exact⟨_,rfl⟩
 ·exact⟨_,rfl⟩
theorem zBF {α β:Type}{F:α->β->Prop}:∀{l₁:List α}{c:List β}{i:Nat}{x:α},mw F l₁ c->l₁[i]?=some x->∃y,c[i]?=some y/\F x y
 | [],_,i,x,_,h=>by simp at h
 |a::l,[],i,x,p,_=>by cases p
 |a::l,b::m,0,x,p,h=>by
  cases p with
  |cons d e=>cases h;exact⟨b,rfl,d⟩
 |a::l,b::m,i+1,x,p,h=>by
  cases p with
  |cons d e=>
   obtain⟨y,e1,f⟩:=zBF (i:=i) (x:=x) e (by simpa using h)
   exact⟨y,by simpa using e1,f⟩
def Itd (a:ao)(o:Obj)(kvs:List (zI×V)):It where
 go:=fun i H=>H a=some (.frz o (.dK kvs))/\i<kvs.length
 yld:=fun i H x H'=>H'=H/\(kvs.map fun p=>kV p.1)[i]?=some x
 stop:=fun i H=>H a=some (.frz o (.dK kvs))/\kvs.length<=i
theorem zCt (a:ao)(o:Obj)(kvs:List (zI×V)):Known (Itd a o kvs) (kvs.map fun p=>kV p.1) (fun H=>H a=some (.frz o (.dK kvs))) :=
 ⟨fun i H h hi=>⟨h,by simpa using hi⟩,fun i H x H' h y=>⟨y.1,fun _=>y.2⟩,fun H h=>⟨h,by simp⟩⟩
theorem zMN {P:aL}{w:aU}{K:ae}{tg:bO}(a r:ao)(o:Obj)(kvs:List (zI×V))(n ep:Nat)(hn:n=kvs.length)(C:∃N,o.data=.dict N ep):Turn P w K tg (Itd a o kvs) [r] r (fun i h=>h.IsKeyIter r a i n ep) where
 mem:=by simp
 obj:=fun i h st b t=>by
  have e:b=r:=by simpa using t
  subst e
  obtain⟨o,e,c,d⟩:=st
  exact⟨o,e,fun v z=>by rw[d]at z;cases z⟩
 keep:=fun i h h' st k=>st.at fun o e=>k r (by simp) o e
 item:=by
  intro X O R T hc i m s σ H E I L st U
  subst O R T
  obtain⟨g,hi⟩:=U
  obtain⟨z,hS,vs,rel,W⟩:=vZ I.hok (.inr ⟨o,g⟩)
  obtain⟨j,_⟩:=(show s.heap.get? a=some o/\_ from I.hok a _ g)
  obtain⟨u,l⟩:=W.dictAt
  have x:u=ep:=by
   obtain⟨o',N,D,_,Y,_⟩:=id l
   obtain⟨es',F⟩:=C
   rw[j]at D;cases D
   rw[Y]at F;injection F
  subst x
  have f:vs.length=n:=by rw[hn];exact(cy rel).symm
  rw[<-f]at st
  obtain⟨Z,f1,f2,f3,f4,f5⟩:=L r (by simp)
  obtain⟨q,M⟩:∃q,vs[i]?=some q:=⟨_,aG (by omega)⟩
  obtain⟨k,v⟩:=q
  refine wpAny_pyNext_dict_item st l M fun key h' G B sb=>?_
  have I1:Inv X m σ H {s with heap:=h'}:=I.turned (t':=s.toks) (fun b o t e=>(sb.2 b t).trans e) Z f1 f3 f4 f5
  obtain⟨oi,e,c,d⟩:=id B
  rw[f]at B
  obtain⟨p,hp,e1,e2⟩:∃p,kvs[i]?=some p/\p.1=k/\zS p.2 v:=by
   have J:i<kvs.length:=hi
   obtain⟨y,hy,hr⟩:=zBF rel (aG J)
   rw[M]at hy;cases hy
   exact⟨_,aG J,hr.1,hr.2⟩
  refine⟨key,rfl,jU (s:={s with heap:=h'}) e c d (by decide) ⟨kV k,H,I1,zGK G,⟨rfl,?_⟩,B,fun b t=>(L b t).1⟩⟩
  rw[aq,hp,<-e1];rfl
 done:=by
  intro X O R T hc i m s σ H E I L st U
  subst O R T
  obtain⟨g,hi⟩:=U
  obtain⟨z,hS,vs,rel,W⟩:=vZ I.hok (.inr ⟨o,g⟩)
  obtain⟨j,_⟩:=(show s.heap.get? a=some o/\_ from I.hok a _ g)
  obtain⟨u,l⟩:=W.dictAt
  have x:u=ep:=by
   obtain⟨o',N,D,_,Y,_⟩:=id l
   obtain⟨es',F⟩:=C
   rw[j]at D;cases D
   rw[Y]at F;injection F
  subst x
  have f:vs.length=n:=by rw[hn];exact(cy rel).symm
  rw[<-f]at st
  obtain⟨Z,f1,f2,f3,f4,f5⟩:=L r (by simp)
  refine wpAny_pyNext_dict_end (I.ok.hd hc) st l (by rw[fc];omega) fun h' he=>⟨rfl,?_⟩
  exact I.turned (t':=s.toks) (fun b o t e=>he b o t e) Z f1 f3 f4 f5
 self:=fun A i s Q E st M=>wpAny_pyIter_keyiter st M
section
variable{X:Cx}{pins:List (ao×Obj)}{σ:St}{H:Hp}{s:ar}{tg:bO}
theorem Inv.freeze {a:ao}{o:Obj}{kvs:List (zI×V)}(I:Inv X pins σ H s)(e:H a=some (.dK kvs))(g:s.heap.get? a=some o):Inv X pins σ (upd H a (.frz o (.dK kvs))) s:=by
 have ne:∀{b:ao} {u:Option HO},H b=u->u≠some (.dK kvs)->b≠a:=fun{b u} q n z=>n (by rw[<-q,z,e])
 refine⟨I.ok,I.os,I.bare,⟨I.base.keep,I.base.slot,fun b d q n h=>?_,I.base.there,fun b xs q=>?_,fun b d u q=>?_,fun b ps q=>?_⟩,I.loc,I.cell,?_,fun x c q=>?_,fun p q=>?_,I.hok.freeze e g,I.len⟩
 ·have:=I.base.free b d q n h
  rw[zG (ne this (by simp))];exact this
 ·have:=I.base.tups b xs q
  rw[zG (ne this (by simp))];exact this
 ·have:=I.base.frzs b d u q
  rw[zG (ne this (by simp))];exact this
 ·obtain⟨m,z⟩:=I.base.tbls b ps q
  exact⟨m,by rw[zG (ne z (by simp))];exact z⟩
 ·have:=I.free
  rw[zG (ne this (by simp))];exact this
 ·have:=I.freeC x c q
  rw[zG (ne this (by simp))];exact this
 ·obtain⟨i,f,j⟩:=I.pin p q
  exact⟨i,by rw[zG (ne f (by simp))];exact f,j⟩
def zGL (tl:TE):TI:=fun σ H R=>tl σ H fun x H1=>∃a kvs,x=.ref a/\H1 a=some (.dK kvs)/\∀o,R (Itd a o kvs) (upd H1 a (.frz o (.dK kvs)))
theorem zBG {l:bO}{m:TE}(hl:PE X l m):PI X tg l (zGL m):=by
 intro pins s σ H R I h
 refine zH (hl pins s σ H _ I h) fun v c ⟨x,n,f,p,r⟩=>?_
 obtain⟨a,kvs,e,g,q⟩:=r
 subst e
 cases p
 obtain⟨z,t,vs,rel,u⟩:=qY f.hok g
 obtain⟨ep,d⟩:=u.dictAt
 obtain⟨o,w,i,_,j,_⟩:=id d
 refine wpAny_pyIter_dict t d ?_
 have y:=(f.freeze g i).kept (t':=c.toks) (h':=c.heap.push {cls:=.type "dict_keyiterator",data:=.fields #[.ref a,.int 0 0,.int vs.length 0,.int ep 0]}) fun b o e=>ag _ e
 refine⟨c.heap.objs.size,[c.heap.objs.size],_,_,upd n a (.frz o (.dK kvs)),rfl,y,zMN a _ o kvs vs.length ep (cy rel).symm ⟨w,j⟩,⟨_,aB _ rfl,rfl,rfl⟩,fun b A=>?_,q o⟩
 have e:b=c.heap.objs.size:=by simpa using A
 subst e
 exact(f.freeze g i).fpOk (ay _) ((f.freeze g i).hok.fresh (ay _))
theorem z6.thaw {P:aL}{w:aU}{H:Hp}{h:bx}{a:ao}{o:Obj}{kvs:List (zI×V)}(x:z6 P w H h)(e:H a=some (.frz o (.dK kvs))):z6 P w (upd H a (.dK kvs)) h:=fun b u d=>by
 by_cases f:b=a
 ·subst f;rw[zE]at d;cases d
  exact(show h.get? b=some o/\yJ P w H h b (.dK kvs)from x b _ e).2
 ·rw[zG f]at d
  refine(x b u d).stay (fun c v _ q=>q) (fun c q=>?_) fun c xs q=>?_
  ·rw[zG (by rintro rfl;rw[e]at q;cases q)];exact q
  ·rw[zG (by rintro rfl;rw[e]at q;cases q)];exact q
theorem Inv.thaw {a:ao}{o:Obj}{kvs:List (zI×V)}{pins':List (ao×Obj)}{g:St}{H':Hp}{s':ar}(I:Inv X pins σ H s)(h:Inv X pins' g H' s')(i:H' a=some (.dK kvs))(e:H a=some (.frz o (.dK kvs))):Inv X pins σ (upd H a (.dK kvs)) s:=by
 have ne:∀{b:ao} {u:Option HO},H b=u->u≠some (.frz o (.dK kvs))->b≠a:=fun{b u} q n z=>n (by rw[<-q,z,e])
 refine⟨I.ok,I.os,I.bare,⟨I.base.keep,I.base.slot,fun b d q n j=>?_,I.base.there,fun b xs q=>?_,fun b d u q=>?_,fun b ps q=>?_⟩,I.loc,I.cell,?_,fun x c q=>?_,fun p q=>?_,I.hok.thaw e,I.len⟩
 ·have:=I.base.free b d q n j
  rw[zG (ne this (by simp))];exact this
 ·have:=I.base.tups b xs q
  rw[zG (ne this (by simp))];exact this
 ·have:=I.base.frzs b d u q
  rw[zG (by rintro rfl;have:=h.base.frzs _ d u q;rw[i]at this;cases this)];exact this
 ·obtain⟨m,z⟩:=I.base.tbls b ps q
  exact⟨m,by rw[zG (ne z (by simp))];exact z⟩
 ·have:=I.free
  rw[zG (ne this (by simp))];exact this
 ·have:=I.freeC x c q
  rw[zG (ne this (by simp))];exact this
 ·obtain⟨l,f,r⟩:=I.pin p q
  exact⟨l,by rw[zG (ne f (by simp))];exact f,r⟩
def zGM (t:TE):TE:=fun σ H Q=>∃a kvs,H a=some (.dK kvs)/\t σ H fun y H'=>∃o,H' a=some (.frz o (.dK kvs))/\Q y (upd H' a (.dK kvs))
theorem zAL {e:bO}{t:TE}(b:PE X e t):PE X e (zGM t):=by
 intro pins s σ H Q I h
 obtain⟨a,kvs,c,h⟩:=h
 exact zH (b pins s σ H _ I h) fun u g ⟨y,H',d,r,o,f,q⟩=>⟨y,_,d.thaw I c f,r,q⟩
end
theorem zMO:entryFor table "dict_itemiterator.__iter__"=some cp.«dict_keyiterator.__iter__» :=
 lN (id' :="dict_keyiterator.__iter__") (by kernel_rfl) rfl (by decide+kernel) (by kernel_rfl)
def jS (a:ao)(o:Obj)(kvs:List (zI×V)):It where
 go:=fun i H=>H a=some (.frz o (.dK kvs))/\i<kvs.length
 yld:=fun i H x H'=>∃T q,x=.ref T/\H T=none/\H'=upd H T (.tup [kV q.1,q.2])/\kvs[i]?=some q
 stop:=fun i H=>H a=some (.frz o (.dK kvs))/\kvs.length<=i
theorem zMP {P:aL}{w:aU}{K:ae}{B:List bO}{k:Nat}{pos:Pos}(a d:ao)(o:Obj)(kvs:List (zI×V))(n ep:Nat)(hn:n=kvs.length)(C:∃es,o.data=.dict es ep) :
  Turn P w K (.Tuple B k pos) (jS a o kvs) [d] d (fun i h=>∃ok r,IsItemIter h d a i n ep ok r) where
 mem:=by simp
 obj:=fun i h st b m=>by
  have e:b=d:=by simpa using m
  subst e
  obtain⟨ok,r,st⟩:=st
  exact⟨_,st,fun v z=>by
   have z':Data.fields _=Data.cell v:=z
   cases z'⟩
 keep:=fun i h h' st kk=>let⟨ok,r,st⟩:=st;⟨ok,r,kk d (by simp) _ st⟩
 item:=by
  intro X hP hw hK hc i D s σ H E I Z st hg
  subst hP hw hK
  obtain⟨f,hi⟩:=hg
  obtain⟨ok,r,st⟩:=st
  obtain⟨z,hS,vs,rel,dd⟩:=vZ I.hok (.inr ⟨o,f⟩)
  obtain⟨j,_⟩:=(show s.heap.get? a=some o/\_ from I.hok a _ f)
  obtain⟨t,l⟩:=dd.dictAt
  have u:t=ep:=by
   obtain⟨o',es,G,_,x,_⟩:=id l
   obtain⟨es',J⟩:=C
   rw[j]at G;cases G
   rw[x]at J;injection J
  subst u
  have c:vs.length=n:=by rw[hn];exact(cy rel).symm
  rw[<-c]at st
  obtain⟨q,hq⟩:∃q,vs[i]?=some q:=⟨_,aG (by omega)⟩
  obtain⟨k,v⟩:=q
  obtain⟨p,hp,e1,e2⟩:∃p,kvs[i]?=some p/\p.1=k/\zS p.2 v:=by
   have L:i<kvs.length:=hi
   obtain⟨y,hy,hr⟩:=zBF rel (aG L)
   rw[hq]at hy;cases hy
   exact⟨_,aG L,hr.1,hr.2⟩
  refine wpAny_pyNext_items_item st l hq fun key h' M N O hsz hk=>?_
  refine⟨_,rfl,wpAny_letOwnedTupleGo_items N fun x R T=>?_⟩
  have U:s.heap.get? s.heap.objs.size=none:=by
   cases g:s.heap.get? s.heap.objs.size with
   |none=>rfl
   |some o=>exact absurd (aE g) (bE _)
  have W:d<s.heap.objs.size:=aE st
  have ab:x.get? s.heap.objs.size=some {cls:=.type "tuple",data:=.seq #[key,v]}:=(T.2 _ (dj W)).trans O
  refine⟨.ref s.heap.objs.size,upd H s.heap.objs.size (.tup [kV p.1,p.2]),I.turnedT (fp:=[d]) (h':=x) (t':=s.toks) (fun b ob m q=>?_) Z U ⟨by show 2<=sizeLine;decide,[key,v],.cons (by rw[e1];exact zGK M) (.cons e2 .nil),⟨_,ab,rfl,_,rfl⟩⟩,rfl,
   ⟨_,p,rfl,I.hok.free U,rfl,hp⟩,⟨_,_,by rw[c]at R;exact R⟩,fun b m=>?_⟩
  ·have Y:b≠d:=fun z=>m (by simp[z])
   exact(T.2 b Y).trans (hk b ob Y q)
  ·rw[zG]
   ·exact(Z b m).1
   ·rintro rfl
    have z':s.heap.objs.size=d:=by simpa using m
    exact absurd W (by rw[z'];exact bE _)
 done:=by
  intro X hP hw hK hc i D s σ H E I Z st hg
  subst hP hw hK
  obtain⟨f,hi⟩:=hg
  obtain⟨ok,r,st⟩:=st
  obtain⟨z,hS,vs,rel,dd⟩:=vZ I.hok (.inr ⟨o,f⟩)
  obtain⟨j,_⟩:=(show s.heap.get? a=some o/\_ from I.hok a _ f)
  obtain⟨t,l⟩:=dd.dictAt
  have u:t=ep:=by
   obtain⟨o',es,G,_,x,_⟩:=id l
   obtain⟨es',J⟩:=C
   rw[j]at G;cases G
   rw[x]at J;injection J
  subst u
  have c:vs.length=n:=by rw[hn];exact(cy rel).symm
  rw[<-c]at st
  obtain⟨f0,f1,f2,f3,f4,f5⟩:=Z d (by simp)
  refine wpAny_pyNext_items_end (I.ok.hd hc) st l (by rw[fc];omega) fun h' he=>⟨rfl,?_⟩
  exact I.turned (t':=s.toks) (fun b o m e=>he b o m e) f0 f1 f3 f4 f5
 self:=fun A i s Q E st hq=>by
  obtain⟨ok,r,st⟩:=st
  have O:s.TypeIs (.ref d) "dict_itemiterator" :=⟨_,st,rfl⟩
  refine f6 O gr (cB gr O zMO ?_ (F.args_dict_itemiterator_iter_1 _))
  show wpAny _ _ (ret (.ref d)) _ _ s
  exact av ⟨_,rfl,"dict_itemiterator",_,O,F.slot_dict_itemiterator_next.lookup,hq⟩
section
variable{X:Cx}{elts:List bO}{kk:Nat}{tpos:Pos}{tg:bO}
def zMQ (tl:TE):TI:=fun σ H R=>tl σ H fun x H1=>∃p a kvs,x=.ref p/\H1 p=some (VW p a)/\H1 a=some (.dK kvs)/\∀o,R (jS a o kvs) (upd H1 a (.frz o (.dK kvs)))
theorem gG {l:bO}{r:TE}(hl:PE X l r):PI X (.Tuple elts kk tpos) l (zMQ r):=by
 intro d s σ H R I h
 refine zH (hl d s σ H _ I h) fun v c ⟨x,t,f,u,w⟩=>?_
 obtain⟨p,a,kvs,e,y,i,q⟩:=w
 subst e
 cases u
 obtain⟨z,E,vs,rel,A⟩:=qY f.hok i
 obtain⟨ep,g⟩:=A.dictAt
 obtain⟨o,B,j,_,m,_⟩:=id g
 have n:c.heap.get? p=some (zFN a):=(f.hok p _ y).1
 refine wpAny_pyIter_items (v:=p) ⟨_,n,rfl,rfl⟩ g ?_
 have C:=(f.freeze i j).kept (t':=c.toks) (h':=c.heap.push {cls:=.type "dict_itemiterator",data:=.fields #[.none,.bool false,.ref a,.int 0 0,.int vs.length 0,.int ep 0,.none,.none]}) fun b o e=>ag _ e
 refine⟨c.heap.objs.size,[c.heap.objs.size],_,_,upd t a (.frz o (.dK kvs)),rfl,C,zMP a _ o kvs vs.length ep (cy rel).symm ⟨B,m⟩,⟨_,_,aB _ rfl⟩,fun b D=>?_,q o⟩
 have e:b=c.heap.objs.size:=by simpa using D
 subst e
 exact(f.freeze i j).fpOk (ay _) ((f.freeze i j).hok.fresh (ay _))
theorem zAM {a:ao}{o:Obj}{kvs:List (zI×V)}{g:TG}{n:TS}{D:Ends}{σ:St}{H:Hp}(Pv:Nat->St->Hp->Prop)(t:Pv 0 σ H)(u:∀i σ H,i<=kvs.length->Pv i σ H->H a=some (.frz o (.dK kvs)))
  (c:∀(i:Nat) (q:zI×V) (T:ao) (σ:St) (H:Hp) (f:St->Hp->Prop),(∀b H',Pv (i+1) b H'->f b H')->kvs[i]?=some q->Pv i σ H->H T=none->g (.ref T) σ (upd H T (.tup [kV q.1,q.2])) fun h d=>n {D with nx:=f,ct:=f,bk:=D.nx} h d)
  (fin:∀σ H,Pv kvs.length σ H->D.nx σ H) :
  ∃W:Nat->Nat->St->Hp->Prop,(∃m,W 0 m σ H)/\∀i m σ H,W i m σ H->
   ((jS a o kvs).stop i H/\D.nx σ H)\/((jS a o kvs).go i H/\∃N:St->Hp->Prop,(∀b H',N b H'->∃r,r<m/\W (i+1) r b H')/\∀x H',(jS a o kvs).yld i H x H'->g x σ H' fun h d=>n {D with nx:=N,ct:=N,bk:=D.nx} h d):=by
 refine⟨fun i m σ H=>i<=kvs.length/\m=kvs.length-i/\Pv i σ H,⟨kvs.length,bD _,rfl,t⟩,?_⟩
 rintro i m σ H ⟨hi,rfl,pv⟩
 have s:=u i σ H hi pv
 by_cases e:i=kvs.length
 ·subst e
  exact .inl ⟨⟨s,ay _⟩,fin σ H pv⟩
 ·have j:i<kvs.length:=by omega
  refine .inr ⟨⟨s,j⟩,Pv (i+1),fun b H' p=>⟨kvs.length- (i+1),by omega,by omega,rfl,p⟩,fun x d l=>?_⟩
  obtain⟨T,q,rfl,v,rfl,w⟩:=l
  exact c i q T σ H (Pv (i+1)) (fun _ _ p=>p) w pv v
theorem zMR {a:ao}{o:Obj}{kvs:List (zI×V)}{caps:List Nat}{n:Nat}{σ:St}{g:TG}{u:TE}{F:List V->Hp->Prop}{C:Hp}(cv:St)(k:Nat)(N:kvs.length<1000)
  (Pv:Nat->List V->Hp->Prop) (G:Pv 0 [] C) (I:∀i c H,i<=kvs.length->Pv i c H->H a=some (.frz o (.dK kvs))/\c.length<=i)
  (r:∀(i:Nat) (q:zI×V) (T:ao) (c:List V) (H:Hp) (ys:St) (D:List V->St->Hp->Prop),(∀f H' v,v.length=k->Pv (i+1) f H'->D f (cv++v) H')->kvs[i]?=some q->ys.length=k->Pv i c H->H T=none->
   g (.ref T) (cv++ys) (upd H T (.tup [kV q.1,q.2])) fun d l=>u d l fun y j=>D (c++[y]) d j)
  (fin:∀c H,Pv kvs.length c H->F c H) (w:vL caps n σ=cv++aD k none:=by rfl) :
  ∃W:Nat->Nat->List V->St->Hp->Prop,(∃m,W 0 m [] (vL caps n σ) C)/\∀i m c s H',W i m c s H'->
   ((jS a o kvs).stop i H'/\F c H')\/
   ((jS a o kvs).go i H'/\c.length<sizeLine/\∀x z,(jS a o kvs).yld i H' x z->g x s z fun d l=>j3 d l fun b t=>if b=true then u d t fun y j=>∃h,h<m/\W (i+1) h (c++[y]) d j else∃h,h<m/\W (i+1) h c d t):=by
 refine⟨fun i m c s H'=>i<=kvs.length/\m=kvs.length-i/\(∃ys,ys.length=k/\s=cv++ys)/\Pv i c H',⟨kvs.length,bD _,rfl,⟨_,by simp,w⟩,G⟩,?_⟩
 rintro i m c s H' ⟨hi,rfl,⟨ys,J,rfl⟩,pv⟩
 obtain⟨E,O⟩:=I i c H' hi pv
 by_cases e:i=kvs.length
 ·subst e
  exact .inl ⟨⟨E,ay _⟩,fin c H' pv⟩
 ·have A:i<kvs.length:=by omega
  refine .inr ⟨⟨E,A⟩,by rw[aZ];omega,fun x z B=>?_⟩
  obtain⟨T,q,rfl,L,rfl,M⟩:=B
  have:=r i q T c H' ys (fun f d j=>∃h,h<kvs.length-i/\(i+1<=kvs.length/\h=kvs.length- (i+1)/\(∃ys,ys.length=k/\d=cv++ys)/\Pv (i+1) f j)) (fun f j v hz p=>⟨kvs.length- (i+1),by omega,by omega,rfl,⟨v,hz,rfl⟩,p⟩) M J pv L
  have e:(fun(d:St) (l:Hp)=>j3 d l fun b t=>if b=true then u d t fun y j=>∃h,h<kvs.length-i/\(i+1<=kvs.length/\h=kvs.length- (i+1)/\(∃ys,ys.length=k/\d=cv++ys)/\Pv (i+1) (c++[y]) j)else∃h,h<kvs.length-i/\(i+1<=kvs.length/\h=kvs.length- (i+1)/\(∃ys,ys.length=k/\d=cv++ys)/\Pv (i+1) c t))=fun d l=>u d l fun y j=>∃h,h<kvs.length-i/\(i+1<=kvs.length/\h=kvs.length- (i+1)/\(∃ys,ys.length=k/\d=cv++ys)/\Pv (i+1) (c++[y]) j):=by
   funext d l
   unfold j3
   simp
  rw[e]
  exact this
def Itv (a:ao)(o:Obj)(kvs:List (zI×V)):It where
 go:=fun i H=>H a=some (.frz o (.dK kvs))/\i<kvs.length
 yld:=fun i H x H'=>H'=H/\(kvs.map fun p=>p.2)[i]?=some x
 stop:=fun i H=>H a=some (.frz o (.dK kvs))/\kvs.length<=i
theorem zMS (a:ao)(o:Obj)(kvs:List (zI×V)):Known (Itv a o kvs) (kvs.map fun p=>p.2) (fun H=>H a=some (.frz o (.dK kvs))) :=
 ⟨fun i H h hi=>⟨h,by simpa using hi⟩,fun i H x H' h y=>⟨y.1,fun _=>y.2⟩,fun H h=>⟨h,by simp⟩⟩
theorem zMT {P:aL}{w:aU}{K:ae}{tg:bO}(a r:ao)(o:Obj)(kvs:List (zI×V))(n ep:Nat)(hn:n=kvs.length)(C:∃M,o.data=.dict M ep):Turn P w K tg (Itv a o kvs) [r] r (fun i h=>h.IsValIter r a i n ep) where
 mem:=by simp
 obj:=fun i h st b t=>by
  have e:b=r:=by simpa using t
  subst e
  obtain⟨o,e,c,d⟩:=st
  exact⟨o,e,fun v z=>by rw[d]at z;cases z⟩
 keep:=fun i h h' st k=>st.at fun o e=>k r (by simp) o e
 item:=by
  intro X N O R hc i m s σ H E I J st T
  subst N O R
  obtain⟨g,hi⟩:=T
  obtain⟨z,hS,vs,rel,U⟩:=vZ I.hok (.inr ⟨o,g⟩)
  obtain⟨j,_⟩:=(show s.heap.get? a=some o/\_ from I.hok a _ g)
  obtain⟨u,l⟩:=U.dictAt
  have x:u=ep:=by
   obtain⟨o',M,D,_,W,_⟩:=id l
   obtain⟨es',F⟩:=C
   rw[j]at D;cases D
   rw[W]at F;injection F
  subst x
  have f:vs.length=n:=by rw[hn];exact(cy rel).symm
  rw[<-f]at st
  obtain⟨Y,f1,f2,Z,f4,f5⟩:=J r (by simp)
  obtain⟨q,L⟩:∃q,vs[i]?=some q:=⟨_,aG (by omega)⟩
  obtain⟨k,v⟩:=q
  refine wpAny_pyNext_values_item st l L fun h' B sb=>?_
  have I1:Inv X m σ H {s with heap:=h'}:=I.turned (t':=s.toks) (fun b o t e=>(sb.2 b t).trans e) Y f1 Z f4 f5
  obtain⟨oi,e,c,d⟩:=id B
  rw[f]at B
  obtain⟨p,hp,e1,e2⟩:∃p,kvs[i]?=some p/\p.1=k/\zS p.2 v:=by
   have G:i<kvs.length:=hi
   obtain⟨y,hy,hr⟩:=zBF rel (aG G)
   rw[L]at hy;cases hy
   exact⟨_,aG G,hr.1,hr.2⟩
  refine⟨v,rfl,jU (s:={s with heap:=h'}) e c d (by decide) ⟨p.2,H,I1,e2,⟨rfl,?_⟩,B,fun b t=>(J b t).1⟩⟩
  rw[aq,hp];rfl
 done:=by
  intro X N O R hc i m s σ H E I J st T
  subst N O R
  obtain⟨g,hi⟩:=T
  obtain⟨z,hS,vs,rel,U⟩:=vZ I.hok (.inr ⟨o,g⟩)
  obtain⟨j,_⟩:=(show s.heap.get? a=some o/\_ from I.hok a _ g)
  obtain⟨u,l⟩:=U.dictAt
  have x:u=ep:=by
   obtain⟨o',M,D,_,W,_⟩:=id l
   obtain⟨es',F⟩:=C
   rw[j]at D;cases D
   rw[W]at F;injection F
  subst x
  have f:vs.length=n:=by rw[hn];exact(cy rel).symm
  rw[<-f]at st
  obtain⟨Y,f1,f2,Z,f4,f5⟩:=J r (by simp)
  refine wpAny_pyNext_values_end (I.ok.hd hc) st l (by rw[fc];omega) fun h' he=>⟨rfl,?_⟩
  exact I.turned (t':=s.toks) (fun b o t e=>he b o t e) Y f1 Z f4 f5
 self:=fun A i s Q E st L=>wpAny_pyIter_valiter st L
def zMU (tl:TE):TI:=fun σ H R=>tl σ H fun x H1=>∃p a kvs,x=.ref p/\H1 p=some (uZ p a)/\H1 a=some (.dK kvs)/\∀o,R (Itv a o kvs) (upd H1 a (.frz o (.dK kvs)))
theorem zMV {l:bO}{r:TE}(hl:PE X l r):PI X tg l (zMU r):=by
 intro d s σ H R I h
 refine zH (hl d s σ H _ I h) fun v c ⟨x,t,f,u,w⟩=>?_
 obtain⟨p,a,kvs,e,y,i,q⟩:=w
 subst e
 cases u
 obtain⟨z,E,vs,rel,A⟩:=qY f.hok i
 obtain⟨ep,g⟩:=A.dictAt
 obtain⟨o,B,j,_,m,_⟩:=id g
 have n:c.heap.get? p=some (zFR a):=(f.hok p _ y).1
 refine wpAny_pyIter_values (v:=p) ⟨_,n,rfl,rfl⟩ g ?_
 have C:=(f.freeze i j).kept (t':=c.toks) (h':=c.heap.push {cls:=.type "dict_valueiterator",data:=.fields #[.ref a,.int 0 0,.int vs.length 0,.int ep 0]}) fun b o e=>ag _ e
 refine⟨c.heap.objs.size,[c.heap.objs.size],_,_,upd t a (.frz o (.dK kvs)),rfl,C,zMT a _ o kvs vs.length ep (cy rel).symm ⟨B,m⟩,⟨_,aB _ rfl,rfl,rfl⟩,fun b D=>?_,q o⟩
 have e:b=c.heap.objs.size:=by simpa using D
 subst e
 exact(f.freeze i j).fpOk (ay _) ((f.freeze i j).hok.fresh (ay _))
def zMW (t:TS):TS:=fun D σ H=>∃a kvs,H a=some (.dK kvs)/\t {D with nx:=fun σ' H'=>∃o,H' a=some (.frz o (.dK kvs))/\D.nx σ' (upd H' a (.dK kvs))} σ H
theorem gH {st:cq}{t:TS}(h:PS X st t):PS X st (zMW t):=by
 intro b s σ H D I q
 obtain⟨a,kvs,d,q⟩:=q
 refine zH (h b s σ H _ I q) fun f l c=>?_
 cases f with
 |next=>
  obtain⟨e,H',g,o,i,j⟩:=c
  exact⟨e,_,g.thaw I d i,j⟩
 |brk=>exact c
 |cont=>exact c
 |ret u=>exact c
theorem zA.thaw {H H':Hp}{a:ao}{o:Obj}{kvs:List (zI×V)}(e:zA (upd H a (.frz o (.dK kvs))) H')(h:H a=some (.dK kvs)):zA H (upd H' a (.dK kvs)):=fun b u q=>by
 by_cases c:b=a
 ·subst c;rw[zE,<-q,h]
 ·rw[zG c];exact e b u (by rw[zG c];exact q)
end
end L2
end
section
namespace Kn
theorem zAN (t l:S)(o:Nat):zF (zF t o++l) o=zF (t++l) o:=by
 unfold zF
 rw[aI,aI,bQ]
 by_cases h:t.length<=o
 ·rw[show t.length-o=0 by omega,iF,mO]
 ·rw[nA,nA,lO,bQ]
  congr 1
  ·congr 1;omega
  ·congr 1;omega
theorem zGN (t:S)(o:Nat):zF (zF t (o+1)) o=zF t o:=by
 unfold zF
 rw[bQ,lO]
 congr 1;omega
def pp (o:Nat)(t:S):List (S×S):=(ba t.length).map fun p=>(zF (t.take p) o,(t.drop p).take 1)
theorem gI (o:Nat)(t:S):z0 o t=pp o t++[(zF t o,[])]:=by
 unfold z0 pp
 rw[e6,aF]
 simp
theorem j9 (o:Nat)(t:S)(c:Nat):pp o (t++[c])=pp o t++[(zF t o,[c])]:=by
 unfold pp
 rw[aI,cK,e6,aF]
 congr 1
 ·refine bT fun p a=>?_
  have b:p<t.length:=bz.mp a
  rw[gs (by omega),List.drop_append_of_le_length (by omega)]
  congr 1
  have:1<=(t.drop p).length:=by rw[bQ];omega
  rw[gs this]
 ·simp
theorem zMX {o:Nat}{nm e:S}{c:Nat}(h:(e,[c])∈z0 o nm):∃l,(zF (e++[c]) o,l)∈z0 o nm:=by
 unfold z0 at h
 obtain⟨p,b,e1⟩:=au.mp h
 have d:p<nm.length+1:=bz.mp b
 have f:zF (nm.take p) o=e:=congrArg mV e1
 have a:(nm.drop p).take 1=[c]:=congrArg fZ e1
 have hl:p<nm.length:=by
  by_cases h:p<nm.length
  ·exact h
  ·rw[fY (by omega)]at a;cases a
 have g:nm.take (p+1)=nm.take p++[c]:=by
  rw[<-a,<-List.take_add]
 refine⟨(nm.drop (p+1)).take 1,?_⟩
 rw[<-f,zAN,<-g]
 exact au.mpr ⟨p+1,bz.mpr (by omega),rfl⟩
theorem zGO {o:Nat}{bk:List S}{e:S}{c:Nat}(h:(e,[c])∈zC o bk):∃l,(zF (e++[c]) o,l)∈zC o bk:=by
 obtain⟨nm,a,b⟩:=bb.mp h
 obtain⟨l,hl⟩:=zMX b
 exact⟨l,bb.mpr ⟨nm,a,hl⟩⟩
theorem zMY {o:Nat}{nm e l:S}(h:(e,l)∈z0 o nm):l.length<=1:=by
 unfold z0 at h
 obtain⟨p,_,e1⟩:=au.mp h
 have a:(nm.drop p).take 1=l:=congrArg fZ e1
 rw[<-a,aQ];omega
theorem gJ {o:Nat}{bk:List S}{e l:S}(h:(e,l)∈zC o bk):l.length<=1:=by
 obtain⟨nm,b,a⟩:=bb.mp h
 exact zMY a
theorem kA {l:S}(h:l.length<=1)(a:l≠[]):∃c,l=[c]:=by
 match l,h,a with
 | [c],_,_=>exact⟨c,rfl⟩
theorem zGP {o:Nat}{bk:List S}{x:S}(h:∀q∈z0 (o+1) x,q∈zC (o+1) bk):∀q∈z0 o x,q∈zC o bk:=by
 intro q a
 unfold z0 at a
 obtain⟨p,c,e1⟩:=au.mp a
 have d:=h (zF (x.take p) (o+1),(x.drop p).take 1) (au.mpr ⟨p,c,rfl⟩)
 obtain⟨nm,e,f⟩:=bb.mp d
 obtain⟨j,g,b⟩:=au.mp f
 have i:zF (nm.take j) (o+1)=zF (x.take p) (o+1):=congrArg mV b
 have l:(nm.drop j).take 1=(x.drop p).take 1:=congrArg fZ b
 refine bb.mpr ⟨nm,e,au.mpr ⟨j,g,?_⟩⟩
 rw[<-e1]
 have m:zF (nm.take j) o=zF (x.take p) o:=by rw[<-zGN,i,zGN]
 rw[m,l]
theorem zGQ (ps:List (S×S)):∀(a:List (S×S)) (w:Int×Int),Fq w->(∃q∈a,q∉ps)->a.foldl (fun w p=>yR w (zJ ps p.1 p.2)) w=(0,1)
 | [],_,_,h=>by obtain⟨q,b,_⟩:=h;cases b
 |p::a,w,d,h=>by
  rw[bR]
  by_cases f:p∈ps
  ·refine zGQ ps a _ (gA d (v5 ..)) ?_
   obtain⟨q,b,c⟩:=h
   rcases aH.mp b with e|e
   ·rw[e]at c;exact absurd f c
   ·exact⟨q,e,c⟩
  ·have:zJ ps p.1 p.2=(0,1):=zAz f
   rw[this,zLB d]
   exact zFe ps a
theorem zMZ {ps:List (S×S)}{o:Nat}{x:S}:0<(v9 ps o x).1↔∀q∈z0 o x,q∈ps:=by
 constructor
 ·intro h q b
  by_cases a:q∈ps
  ·exact a
  ·have:=zGQ ps (z0 o x) (1,1) jO ⟨q,b,a⟩
   unfold v9 v4 at h
   rw[this]at h
   exact absurd h (by decide)
 ·intro h
  exact zFd _ _ _ jO (by decide) h
def mf (w l:S):Bool:=decide (l≠[])&& (decide (w=[])||decide (w=l))
def gK (nx:S->List S)(o:Nat)(ts:List S)(w:S):List S:=ts.flatMap fun t=>((nx (zF t o)).filter (mf w)).map (t++·)
def Tx (nx:S->List S)(o:Nat)(pat:List S):List S:=pat.foldl (gK nx o) [[]]
def zV (w:Int)(q:Int×Int):Int:=w*q.1/q.2
def kB (nx:S->List S)(f:S->S->Int×Int)(o:Nat)(L:List (S×Int))(w:S):List (S×Int):=L.flatMap fun p=>((nx (zF p.1 o)).filter (mf w)).map fun l=>(p.1++l,zV p.2 (f (zF p.1 o) l))
def Ws (nx:S->List S)(f:S->S->Int×Int)(o:Nat)(wt:Int)(pat:List S):List (S×Int):=pat.foldl (kB nx f o) [([],wt)]
def qN (acc:List (S×Int))(p:S×Int):List (S×Int):=zX acc p.1 ((zK acc p.1).getD 0+p.2)
def vO (L:List (S×Int)):List (S×Int):=L.foldl qN []
def vS (nx:S->List S)(f:S->S->Int×Int)(o:Nat)(w:S)(p:S×Int):List (S×Int):=((nx p.1).filter (mf w)).map fun l=>(zF (p.1++l) o,zV p.2 (f p.1 l))
def kG (nx:S->List S)(f:S->S->Int×Int)(o:Nat)(ss:List (S×Int))(w:S):List (S×Int):=vO (ss.flatMap (vS nx f o w))
def Ss (nx:S->List S)(f:S->S->Int×Int)(o:Nat)(wt:Int)(pat:List S):List (S×Int):=pat.foldl (kG nx f o) [([],wt)]
structure Addt (D:Int) (φ:S->Int->Int):Prop where
 zero:∀e,φ e 0=0
 add:∀e a b,D∣a->D∣b->φ e (a+b)=φ e a+φ e b
abbrev tots (φ:S->Int->Int)(L:List (S×Int)):Int:=(L.map fun p=>φ p.1 p.2).sum
theorem tots_putA (φ:S->Int->Int):∀(a:List (S×Int)) (e:S) (v:Int),tots φ (zX a e v)=tots φ a- ((zK a e).map (φ e)).getD 0+φ e v
 | [],e,v=>by simp[tots,zX,zK]
 |(k,x)::r,e,v=>by
  have ih:=tots_putA φ r e v
  unfold tots at ih⊢
  by_cases h:k=e
  ·subst h
   simp only[zX,zK,if_true,aC,aO,nL,nB]
   omega
  ·simp only[zX,zK,if_neg h,aC,aO]
   rw[ih];omega
theorem zGR {D:Int}:∀{b:List (S×Int)}{e:S}{v:Int},(∀p∈b,D∣p.2)->D∣v->∀p∈zX b e v,D∣p.2
 | [],e,v,_,c,p,a=>by
  have:p=(e,v):=by simpa [zX]using a
  rw[this];exact c
 |(k,x)::r,e,v,d,c,p,a=>by
  by_cases h:k=e
  ·simp only[zX,if_pos h]at a
   rcases aH.mp a with z|z
   ·rw[z];exact c
   ·exact d p (ak _ z)
  ·simp only[zX,if_neg h]at a
   rcases aH.mp a with z|z
   ·rw[z];exact d _ (aj ..)
   ·exact zGR (fun q f=>d q (ak _ f)) c p z
theorem zMa {D:Int}{a:List (S×Int)}(b:∀p∈a,D∣p.2)(e:S):D∣ (zK a e).getD 0:=by
 induction a with
 |nil=>exact Int.dvd_zero _
 |cons p r ih=>
  obtain⟨k,x⟩:=p
  by_cases h:k=e
  ·simp only[zK,if_pos h,nB];exact b _ (aj ..)
  ·simp only[zK,if_neg h];exact ih fun q c=>b q (ak _ c)
theorem zGS {D:Int}{φ:S->Int->Int}(A:Addt D φ):∀(L a:List (S×Int)),(∀p∈L,D∣p.2)->(∀p∈a,D∣p.2)->tots φ (L.foldl qN a)=tots φ a+tots φ L/\∀p∈L.foldl qN a,D∣p.2
 | [],a,_,b=>⟨by simp[tots],b⟩
 |p::L,a,d,b=>by
  have e:=d p (aj ..)
  have f:=zMa b p.1
  have c:∀q∈qN a p,D∣q.2:=zGR b (Int.dvd_add f e)
  obtain⟨h,i⟩:=zGS A L (qN a p) (fun q j=>d q (ak _ j)) c
  refine⟨?_,i⟩
  rw[bR,h]
  unfold qN
  rw[tots_putA]
  have e1:φ p.1 ((zK a p.1).getD 0+p.2)=φ p.1 ((zK a p.1).getD 0)+φ p.1 p.2:=A.add _ _ _ f e
  have l:φ p.1 ((zK a p.1).getD 0)=((zK a p.1).map (φ p.1)).getD 0:=by
   cases zK a p.1 with
   |none=>exact A.zero _
   |some g=>rfl
  have m:tots φ (p::L)=φ p.1 p.2+tots φ L:=by unfold tots;rw[aC,aO]
  rw[e1,l,m]
  omega
theorem zGT {D:Int}{φ:S->Int->Int}(A:Addt D φ){L:List (S×Int)}(c:∀p∈L,D∣p.2):tots φ (vO L)=tots φ L/\∀p∈vO L,D∣p.2:=by
 obtain⟨a,b⟩:=zGS A L [] c (fun p d=>by cases d)
 exact⟨by rw[show vO L=L.foldl qN []from rfl,a];simp[tots],b⟩
theorem tots_flat {α:Type}(φ:S->Int->Int)(g:α->List (S×Int)):∀L:List α,tots φ (L.flatMap g)=(L.map fun p=>tots φ (g p)).sum
 | []=>rfl
 |p::L=>by
  rw[d8,aC,aO,<-tots_flat φ g L]
  unfold tots
  rw[aF,fJ]
theorem zCu {D a b:Int}{q:Int×Int}(c:q.2∣D)(d:D∣a):zV (a+b) q=zV a q+zV b q:=by
 unfold zV
 rw[fP]
 exact Int.add_ediv_of_dvd_left (dq (dq c d) (mY ..))
theorem zCv (q:Int×Int):zV 0 q=0:=by unfold zV;rw[iq,Int.zero_ediv]
theorem zAO {U a:Int}{m:Nat}{q:Int×Int}(b:q.2∣U)(f:0<q.2)(e:U^(m+1)∣a):U^m∣zV a q:=by
 obtain⟨c,rfl⟩:=e
 obtain⟨d,hd⟩:=b
 unfold zV
 refine⟨d*c*q.1,?_⟩
 refine Int.ediv_eq_of_eq_mul_right (by omega) ?_
 rw[fB]
 conv=>lhs;rw[hd]
 conv=>rhs;rw[hd]
 grind
structure Rel (U:Int) (o m:Nat) (ss L:List (S×Int)):Prop where
 sum:∀φ,Addt (U^m) φ->tots φ ss=tots (fun t w=>φ (zF t o) w) L
 ds:∀p∈ss,U^m∣p.2
 dl:∀p∈L,U^m∣p.2
structure Exact (nx:S->List S) (f:S->S->Int×Int) (U:Int):Prop where
 dv:∀e l,l∈nx e->(f e l).2∣U
 pos:∀e l,l∈nx e->0<(f e l).2
theorem Rel.step {nx:S->List S}{f:S->S->Int×Int}{U:Int}{o m:Nat}{ss L:List (S×Int)}(X:Exact nx f U)(R:Rel U o (m+1) ss L)(w:S):Rel U o m (kG nx f o ss w) (kB nx f o L w):=by
 have c:∀{e l},l∈(nx e).filter (mf w)->l∈nx e:=fun h=>(bg.mp h).1
 have d1:∀p∈ss.flatMap (vS nx f o w),U^m∣p.2:=fun p j=>by
  obtain⟨q,n,s⟩:=bb.mp j
  obtain⟨l,hl,rfl⟩:=au.mp s
  exact zAO (X.dv _ _ (c hl)) (X.pos _ _ (c hl)) (R.ds q n)
 have y:∀p∈kB nx f o L w,U^m∣p.2:=fun p j=>by
  obtain⟨q,n,s⟩:=bb.mp j
  obtain⟨l,hl,rfl⟩:=au.mp s
  exact zAO (X.dv _ _ (c hl)) (X.pos _ _ (c hl)) (R.dl q n)
 refine⟨fun φ A=>?_,(zGT (φ:=fun _ _=>0) ⟨fun _=>rfl,fun _ _ _ _ _=>rfl⟩ d1).2,y⟩
 unfold kG
 rw[(zGT A d1).1,tots_flat]
 have g:Addt (U^(m+1)) (fun e v=>tots φ (vS nx f o w (e,v))):=by
  constructor
  ·intro e
   unfold vS tots
   rw[aJ]
   have:∀l:List S,(l.map ((fun p:S×Int=>φ p.1 p.2) ∘ fun l=>(zF (e++l) o,zV 0 (f e l)))).sum=0:=by
    intro l
    induction l with
    |nil=>rfl
    |cons x r ih=>
     rw[aC,aO,ih]
     show φ _ (zV 0 _)+0=0
     rw[zCv,A.zero];rfl
   exact this _
  ·intro e a b t z
   unfold vS tots
   rw[aJ,aJ,aJ]
   have go:∀d:List S,(∀l∈d,l∈nx e)->(d.map ((fun p:S×Int=>φ p.1 p.2) ∘ fun l=>(zF (e++l) o,zV (a+b) (f e l)))).sum=(d.map ((fun p:S×Int=>φ p.1 p.2) ∘ fun l=>(zF (e++l) o,zV a (f e l)))).sum+(d.map ((fun p:S×Int=>φ p.1 p.2) ∘ fun l=>(zF (e++l) o,zV b (f e l)))).sum:=by
    intro d
    induction d with
    |nil=>intro _;rfl
    |cons x r ih=>
     intro u
     have i:=u x (aj ..)
     rw[aC,aC,aC,aO,aO,aO,ih fun l hl=>u l (ak _ hl)]
     have e1:φ (zF (e++x) o) (zV (a+b) (f e x))=φ (zF (e++x) o) (zV a (f e x))+φ (zF (e++x) o) (zV b (f e x)):=by
      rw[zCu (D:=U^(m+1)) (dq (X.dv _ _ i) ⟨U^m,by rw[fB,dH]⟩) t]
      exact A.add _ _ _ (zAO (X.dv _ _ i) (X.pos _ _ i) t) (zAO (X.dv _ _ i) (X.pos _ _ i) z)
     show φ (zF (e++x) o) (zV (a+b) (f e x))+_=φ (zF (e++x) o) (zV a (f e x))+_+(φ (zF (e++x) o) (zV b (f e x))+_)
     rw[e1];omega
   exact go _ fun l hl=>c hl
 have B:=R.sum _ g
 have e1:tots (fun e v=>tots φ (vS nx f o w (e,v))) ss=(ss.map fun p=>tots φ (vS nx f o w p)).sum:=rfl
 rw[<-e1,B]
 unfold kB
 rw[tots_flat]
 show(L.map fun p=>tots φ (vS nx f o w (zF p.1 o,p.2))).sum=_
 congr 1
 refine bT fun p j=>?_
 unfold vS tots
 rw[aJ,aJ]
 congr 1
 refine bT fun l hl=>?_
 show φ (zF (zF p.1 o++l) o) _=φ (zF (p.1++l) o) _
 rw[zAN]
theorem Rel.all {nx:S->List S}{f:S->S->Int×Int}{U:Int}{o:Nat}(X:Exact nx f U):∀(a:List S) (m:Nat) (ss L:List (S×Int)),Rel U o (m+a.length) ss L->Rel U o m (a.foldl (kG nx f o) ss) (a.foldl (kB nx f o) L)
 | [],m,ss,L,R=>R
 |w::a,m,ss,L,R=>by
  rw[bR,bR]
  exact Rel.all X a m _ _ (R.step X w)
theorem Rel.start {U wt:Int}{o n:Nat}(h:U^n∣wt):Rel U o n [([],wt)] [([],wt)]:=by
 refine⟨fun φ _=>?_,fun p a=>?_,fun p a=>?_⟩
 ·simp[tots,zF]
 ·have:p=([],wt):=by simpa using a
  rw[this];exact h
 ·have:p=([],wt):=by simpa using a
  rw[this];exact h
theorem zGU {nx:S->List S}{f:S->S->Int×Int}{U wt:Int}{o m:Nat}(X:Exact nx f U)(a:List S)(h:U^(m+a.length)∣wt):Rel U o m (Ss nx f o wt a) (Ws nx f o wt a):=Rel.all X a m _ _ (Rel.start h)
theorem zMb {α:Type}{a:List (S×α)}{e:S}{v:α}{k:S}(h:k∈(zX a e v).map (·.1)):k∈a.map (·.1)\/k=e:=by
 rw[zFW]at h
 split at h
 ·exact .inl h
 ·rcases bt.mp h with z|z
  ·exact .inl z
  ·exact .inr (by simpa using z)
theorem zGV:∀(L c:List (S×Int)),(c.map (·.1)).Nodup->((L.foldl qN c).map (·.1)).Nodup/\∀k∈(L.foldl qN c).map (·.1),k∈c.map (·.1)\/k∈L.map (·.1)
 | [],c,h=>⟨h,fun k d=>.inl d⟩
 |p::L,c,h=>by
  obtain⟨a,b⟩:=zGV L (qN c p) (zAu h)
  refine⟨a,fun k d=>?_⟩
  rcases b k d with z|z
  ·rcases zMb z with y|y
   ·exact .inl y
   ·exact .inr (by rw[aC,y];exact aj ..)
  ·exact .inr (by rw[aC];exact ak _ z)
theorem zGW (L:List (S×Int)):((vO L).map (·.1)).Nodup/\∀k∈(vO L).map (·.1),k∈L.map (·.1):=by
 obtain⟨a,b⟩:=zGV L [] (by simp)
 exact⟨a,fun k c=>(b k c).elim (fun z=>by cases z) id⟩
end Kn
end
section
namespace Kn
theorem gL {α:Type} [DecidableEq α]:∀(l L:List α),l.Nodup->(∀x∈l,x∈L)->l.length<=L.length
 | [],L,_,_=>bD _
 |x::l,L,b,c=>by
  have d:=c x (aj ..)
  have f:=gL l (L.erase x) (br.mp b).2 fun y e=>by
   have a:y≠x:=fun z=>(br.mp b).1 (by rw[<-z];exact e)
   exact(lP a).mpr (c y (ak _ e))
  rw[ja d]at f
  have g:0<L.length:=kh d
  rw[aX];omega
theorem zCw {t:S}(h:t≠[]):∃u c,t=u++[c]:=by
 rcases List.eq_nil_or_concat t with z|⟨u,c,z⟩
 ·exact absurd z h
 ·exact⟨u,c,by simpa using z⟩
theorem zBH (nx:S->List S)(o:Nat)(a:List S)(w:S):Tx nx o (a++[w])=gK nx o (Tx nx o a) w:=by
 unfold Tx;rw[cg];rfl
theorem zMc (nx:S->List S)(f:S->S->Int×Int)(o:Nat)(wt:Int)(a:List S)(w:S):Ws nx f o wt (a++[w])=kB nx f o (Ws nx f o wt a) w:=by
 unfold Ws;rw[cg];rfl
theorem zGX (nx:S->List S)(f:S->S->Int×Int)(o:Nat)(wt:Int)(a:List S)(w:S):Ss nx f o wt (a++[w])=kG nx f o (Ss nx f o wt a) w:=by
 unfold Ss;rw[cg];rfl
structure Lts (ps:List (S×S)) (nx:S->List S):Prop where
 nd:∀e,(nx e).Nodup
 mem:∀e l,l∈nx e↔(e,l)∈ps
def y7 (ps:List (S×S)):Prop:=∀e l,(e,l)∈ps->l.length<=1
theorem kH {l:S}:mf [] l=true↔l≠[]:=by unfold mf;simp
theorem gM {ps:List (S×S)}{nx:S->List S}(N:Lts ps nx)(e:y7 ps)(o:Nat):∀(n:Nat) (t:S),t∈Tx nx o (aD n [])↔t.length=n/\∀q∈pp o t,q∈ps
 |0,t=>by
  show t∈[[]]↔_
  constructor
  ·intro h
   have:t=[]:=by simpa using h
   rw[this];exact⟨rfl,fun q a=>by cases a⟩
  ·rintro⟨h,_⟩
   rw[cn.mp h];exact bA _
 |n+1,t=>by
  rw[dt,zBH]
  unfold gK
  rw[bb]
  constructor
  ·rintro⟨u,i,h⟩
   obtain⟨l,hl,rfl⟩:=au.mp h
   obtain⟨b,d⟩:=(gM N e o n u).mp i
   obtain⟨j,m⟩:=bg.mp hl
   have g:=(N.mem _ _).mp j
   obtain⟨c,rfl⟩:=kA (e _ _ g) (kH.mp m)
   refine⟨by rw[aI,b];rfl,fun q a=>?_⟩
   rw[j9]at a
   rcases bt.mp a with z|z
   ·exact d q z
   ·have:q=(zF u o,[c]):=by simpa using z
    rw[this];exact g
  ·rintro⟨b,d⟩
   have f:t≠[]:=fun z=>by rw[z]at b;cases b
   obtain⟨u,c,rfl⟩:∃u c,t=u++[c]:=zCw f
   rw[aI,cK]at b
   rw[j9]at d
   refine⟨u,(gM N e o n u).mpr ⟨by omega,fun q a=>d q (bG _ a)⟩,au.mpr ⟨[c],bg.mpr ⟨(N.mem _ _).mpr (d _ (aP _ (bA _))),kH.mpr (by simp)⟩,rfl⟩⟩
theorem zGY {α β:Type}(g:α->List β):∀(L:List α),L.Nodup->(∀a∈L,(g a).Nodup)->(∀a∈L,∀b∈L,∀x,x∈g a->x∈g b->a=b)->(L.flatMap g).Nodup
 | [],_,_,_=>by simp
 |a::L,f,i,j=>by
  rw[d8]
  refine d6.mpr ⟨i a (aj ..),zGY g L (br.mp f).2 (fun b d=>i b (ak _ d)) (fun b d c l=>j b (ak _ d) c (ak _ l)),fun x m y n e=>?_⟩
  subst e
  obtain⟨b,d,h⟩:=bb.mp n
  have:=j a (aj ..) b (ak _ d) x m h
  rw[this]at f
  exact(br.mp f).1 d
theorem zMd {u v:S}{c d:Nat}(h:u++[c]=v++[d]):u=v/\c=d:=by
 have:=List.append_inj' h rfl
 exact⟨this.1,by simpa using this.2⟩
theorem zAP {ps:List (S×S)}{nx:S->List S}(N:Lts ps nx)(h:y7 ps)(o:Nat):∀(n:Nat),(Tx nx o (aD n [])).Nodup
 |0=>by show([[]]:List S).Nodup;simp
 |n+1=>by
  rw[dt,zBH]
  unfold gK
  have one:∀(u l:S),l∈(nx (zF u o)).filter (mf [])->∃c,l=[c]:=fun u l hl=>by
   obtain⟨i,j⟩:=bg.mp hl
   exact kA (h _ _ ((N.mem _ _).mp i)) (kH.mp j)
  refine zGY _ _ (zAP N h o n) (fun u _=>?_) (fun u _ v _ x m p=>?_)
  ·refine fj _ (fun a b f z=>f (List.append_cancel_left z)) ((N.nd _).filter _)
  ·obtain⟨l,hl,rfl⟩:=au.mp m
   obtain⟨q,g,e⟩:=au.mp p
   obtain⟨c,rfl⟩:=one u l hl
   obtain⟨d,rfl⟩:=one v q g
   exact(zMd e).1.symm
def y8 (ps:List (S×S))(o n:Nat)(x:S):Prop:=x.length=n/\∀q∈z0 o x,q∈ps
theorem gN {ps:List (S×S)}{nx:S->List S}(N:Lts ps nx)(d:y7 ps)(o n:Nat)(x:S):y8 ps o n x↔x∈(Tx nx o (aD n [])).filter fun t=>decide ((zF t o,[])∈ps):=by
 rw[bg,gM N d]
 unfold y8
 rw[gI]
 constructor
 ·rintro⟨b,a⟩
  exact⟨⟨b,fun q c=>a q (bG _ c)⟩,decide_eq_true (a _ (aP _ (bA _)))⟩
 ·rintro⟨⟨b,a⟩,e⟩
  refine⟨b,fun q c=>?_⟩
  rcases bt.mp c with z|z
  ·exact a q z
  ·have:q=(zF x o,[]):=by simpa using z
   rw[this];exact of_decide_eq_true e
def Wt (f:S->S->Int×Int)(o:Nat)(wt:Int)(t:S):Int:=(pp o t).foldl (fun w q=>zV w (f q.1 q.2)) wt
theorem zCx {ps:List (S×S)}{nx:S->List S}(N:Lts ps nx)(a:y7 ps)(f:S->S->Int×Int)(o:Nat)(wt:Int):∀n,Ws nx f o wt (aD n [])=(Tx nx o (aD n [])).map fun t=>(t,Wt f o wt t)
 |0=>rfl
 |n+1=>by
  rw[dt,zMc,zBH,zCx N a f o wt n]
  unfold kB gK
  rw[List.flatMap_map,List.map_flatMap]
  refine congrArg (fun g=>List.flatMap g (Tx nx o (aD n []))) ?_
  funext t
  rw[aJ]
  refine bT fun l hl=>?_
  obtain⟨b,d⟩:=bg.mp hl
  obtain⟨c,rfl⟩:=kA (a _ _ ((N.mem _ _).mp b)) (kH.mp d)
  show(t++[c],_)=(t++[c],Wt f o wt (t++[c]))
  unfold Wt
  rw[j9,cg];rfl
theorem zGZ {U w:Int}{m:Nat}{q:Int×Int}(a:q.2∣U)(h:U^(m+1)∣w):zV w q*q.2=w*q.1:=by
 unfold zV
 refine ma (dq (dq a ?_) (dq h (mY ..)))
 exact⟨U^m,by rw[fB,dH]⟩
theorem zGa {U w T:Int}{m:Nat}{q:Int×Int}(d:0<T)(g:0<=w)(c:Fq q)(j:q.2∣U)(h:U^(m+1)∣w):0<=zV w q/\low (zV w q) T=yR (low w T) q:=by
 have e:=zGZ j h
 have f:=uF g d
 have cr:=uE (u:=w) d
 have i:0<=zV w q:=nR (c6 g c.up) (bo c.dn)
 refine⟨i,?_⟩
 unfold yR
 refine zCA i d (c6 f.up c.up) (cx f.dn c.dn) ?_
 generalize zV w q=a at e
 generalize low w T=b at cr
 grind
theorem zMe (ps a:List (S×S))(p:S×S):v4 ps (a++[p])=yR (v4 ps a) (zJ ps p.1 p.2):=by
 unfold v4;rw[cg];rfl
theorem zCy {ps:List (S×S)}{U T:Int}(i:0<T)(g:∀e l,(zJ ps e l).2∣U):∀(d:List (S×S)) (m:Nat) (w:Int),0<=w->U^(m+d.length)∣w->0<=d.foldl (fun w q=>zV w (zJ ps q.1 q.2)) w/\U^m∣d.foldl (fun w q=>zV w (zJ ps q.1 q.2)) w/\
  low (d.foldl (fun w q=>zV w (zJ ps q.1 q.2)) w) T=d.foldl (fun w p=>yR w (zJ ps p.1 p.2)) (low w T)
 | [],m,w,h,hd=>⟨h,hd,rfl⟩
 |q::d,m,w,h,hd=>by
  have f:U^(m+d.length+1)∣w:=hd
  obtain⟨j,n⟩:=zGa i h (v5 ps q.1 q.2) (g q.1 q.2) f
  have o:=zAO (g q.1 q.2) (v5 ps q.1 q.2).dn f
  obtain⟨a,b,c⟩:=zCy i g d m (zV w (zJ ps q.1 q.2)) j o
  refine⟨a,b,?_⟩
  rw[bR,bR,c,n]
def Wn (ps:List (S×S))(o:Nat)(T:Int)(x:S):Int:=zV (Wt (zJ ps) o T x) (zJ ps (zF x o) [])
theorem zGb {ps:List (S×S)}{o:Nat}{U:Int}(f:0<U)(g:∀e l,(zJ ps e l).2∣U){x:S}(j:x.length<=8):0<=Wn ps o (U^9) x/\low (Wn ps o (U^9) x) (U^9)=v9 ps o x:=by
 have d:0<U^9:=c9 f
 have hl:(pp o x).length=x.length:=by unfold pp;simp
 have hd:U^((8-x.length)+1+(pp o x).length)∣U^9:=by rw[hl,show(8-x.length)+1+x.length=9 by omega];exact f7 _
 obtain⟨a,b,c⟩:=zCy d g (pp o x) (8-x.length+1) (U^9) (bo d) hd
 obtain⟨h,i⟩:=zGa d a (v5 ps (zF x o) []) (g _ _) b
 refine⟨h,?_⟩
 show low (zV _ _) _=_
 unfold v9
 rw[gI,zMe]
 unfold Wt
 rw[i,c,zFa d];rfl
theorem zGc {ps:List (S×S)}{o:Nat}{U:Int}(c:0<U)(f:∀e l,(zJ ps e l).2∣U):∀(M:List S) (d:Int),0<=d->(∀x∈M,x.length<=8)->M.foldl (fun w x=>jN w (v9 ps o x)) (low d (U^9))=low (d+(M.map (Wn ps o (U^9))).sum) (U^9)/\0<=d+(M.map (Wn ps o (U^9))).sum
 | [],d,h,_=>by simp[h]
 |x::M,d,h,hl=>by
  obtain⟨a,b⟩:=zGb (o:=o) c f (hl x (aj ..))
  have g:0<U^9:=c9 c
  obtain⟨i,m⟩:=zGc (o:=o) c f M (d+Wn ps o (U^9) x) (by omega) fun y j=>hl y (ak _ j)
  rw[bR,<-b,zFb g h a,i,aC,aO,Int.add_assoc]
  exact⟨rfl,by omega⟩
theorem zGd {α:Type} [DecidableEq α] {l:List α}{a:α}(h:l.Nodup)(b:a∈l):l.count a=1:=by
 have c:=List.nodup_iff_count.mp h a
 have d:=bV.mpr b
 omega
theorem zCz {α:Type} [DecidableEq α] {l m:List α}(c:l.Nodup)(d:m.Nodup)(h:∀x,x∈l↔x∈m):l.Perm m:=by
 refine(List.perm_iff_count).mpr fun a=>?_
 by_cases b:a∈l
 ·rw[zGd c b,zGd d ((h a).mp b)]
 ·rw[gu b,gu fun z=>b ((h a).mpr z)]
theorem zBI {α:Type}(c:α->Bool)(g:α->Int):∀L:List α,(∀a∈L,c a=false->g a=0)->(L.map g).sum=((L.filter c).map g).sum
 | [],_=>rfl
 |a::L,h=>by
  have ih:=zBI c g L fun b d=>h b (ak _ d)
  rw[aC,aO,ih]
  cases e:c a with
  |true=>rw[eJ e,aC,aO]
  |false=>rw[eK (by rw[e];decide),h a (aj ..) e];omega
theorem zMf {l m:List Int}(h:l.Perm m):l.sum=m.sum:=by
 induction h with
 |nil=>rfl
 |cons x _ ih=>rw[aO,aO,ih]
 |swap x y l=>rw[aO,aO,aO,aO];omega
 |trans _ _ a b=>rw[a,b]
theorem zMg {ps:List (S×S)}{nx:S->List S}(N:Lts ps nx)(c:y7 ps){o n:Nat}{U:Int}(f:0<U)(d:∀e l,(zJ ps e l).2∣U)(j:n<=8){M:List S}(g:M.Nodup)(hm:∀x,x∈M↔y8 ps o n x) :
  tots (fun e h=>zV h (zJ ps e [])) (Ss nx (zJ ps) o (U^9) (aD n []))=(M.map (Wn ps o (U^9))).sum:=by
 have X:Exact nx (zJ ps) U:=⟨fun e l _=>d e l,fun e l _=>(v5 ps e l).dn⟩
 have R:Rel U o (8-n+1) (Ss nx (zJ ps) o (U^9) (aD n [])) (Ws nx (zJ ps) o (U^9) (aD n [])):=zGU X _ (by rw[dU,show 8-n+1+n=9 by omega];exact f7 _)
 rw[R.sum _ ⟨fun e=>zCv _,fun e a b i m=>zCu (D:=U^(8-n+1)) (dq (d e []) ⟨U^(8-n),by rw[fB,dH]⟩) i⟩,zCx N c]
 show(((Tx nx o (aD n [])).map fun t=>(t,Wt (zJ ps) o (U^9) t)).map fun p=>zV p.2 (zJ ps (zF p.1 o) [])).sum=_
 rw[aJ]
 show((Tx nx o (aD n [])).map (Wn ps o (U^9))).sum=_
 rw[zBI (fun t=>decide ((zF t o,[])∈ps)) (Wn ps o (U^9)) _ fun t _ h=>by
  have:zJ ps (zF t o) []=(0,1):=zAz (of_decide_eq_false h)
  unfold Wn
  rw[this];simp[zV]]
 refine zMf (ri _ ?_)
 exact zCz ((zAP N c o n).filter _) g fun x=>by rw[<-gN N c,hm]
theorem zMh (o:Nat)(t:S):Wt (fun _ _=>(1,1)) o 1 t=1:=by
 unfold Wt
 have:∀a:List (S×S),a.foldl (fun w q=>zV w ((fun _ _=>((1:Int),(1:Int))) q.1 q.2)) 1=1:=by
  intro a
  induction a with
  |nil=>rfl
  |cons q a ih=>rw[bR];exact ih
 exact this _
theorem zMi {ps:List (S×S)}{nx:S->List S}(N:Lts ps nx)(d:y7 ps){o n:Nat}{M:List S}(f:M.Nodup)(hm:∀x,x∈M↔y8 ps o n x) :
  tots (fun e h=>zV h (if(e,[])∈ps then(1,1)else(0,1))) (Ss nx (fun _ _=>(1,1)) o 1 (aD n []))=(M.length:Int):=by
 have X:Exact nx (fun _ _=>(1,1)) 1:=⟨fun e l _=>f7 _,fun e l _=>by decide⟩
 have R:Rel 1 o 0 (Ss nx (fun _ _=>(1,1)) o 1 (aD n [])) (Ws nx (fun _ _=>(1,1)) o 1 (aD n [])):=zGU X _ (by rw[qc];exact f7 _)
 have one:∀(e:S),(if(e,[])∈ps then((1:Int),(1:Int))else(0,1)).2∣ (1:Int):=fun e=>by split<;>exact f7 _
 rw[R.sum _ ⟨fun e=>zCv _,fun e a b g j=>zCu (D:=1^0) (by rw[qc];exact one e) g⟩,zCx N d]
 show(((Tx nx o (aD n [])).map fun t=>(t,Wt (fun _ _=>(1,1)) o 1 t)).map fun p=>zV p.2 (if(zF p.1 o,[])∈ps then(1,1)else(0,1))).sum=_
 rw[aJ]
 have e1:((fun p:S×Int=>zV p.2 (if(zF p.1 o,[])∈ps then(1,1)else(0,1))) ∘ fun t=>(t,Wt (fun _ _=>(1,1)) o 1 t))=fun t=>if(zF t o,[])∈ps then(1:Int)else 0:=by
  funext t
  show zV (Wt (fun _ _=>(1,1)) o 1 t) (if(zF t o,[])∈ps then(1,1)else(0,1))=_
  rw[zMh]
  split<;>rfl
 rw[e1,zBI (fun t=>decide ((zF t o,[])∈ps)) _ _ fun t _ h=>if_neg (of_decide_eq_false h)]
 have i:∀L:List S,((L.filter fun t=>decide ((zF t o,[])∈ps)).map fun t=>if(zF t o,[])∈ps then(1:Int)else 0).sum=((L.filter fun t=>decide ((zF t o,[])∈ps)).length:Int):=by
  intro L
  induction L with
  |nil=>rfl
  |cons t L ih=>
   by_cases c:(zF t o,[])∈ps
   ·rw[eJ (by simpa using c),aC,aO,ih,if_pos c,aX]
    have:∀k:Nat,(1:Int)+(k:Int)=((k+1:Nat):Int):=fun k=>by omega
    exact this _
   ·rw[eK (by simpa using c),ih]
 rw[i]
 have:=(zCz ((zAP N d o n).filter _) f fun x=>by rw[<-gN N d,hm]).length_eq
 rw[this]
def Cl (ps:List (S×S))(o:Nat):Nat->S->Prop
 |0,e=>(e,[])∈ps
 |k+1,e=>∃l,l≠[]/\(e,l)∈ps/\Cl ps o k (zF (e++l) o)
structure AllT (ps:List (S×S)) (o n i:Nat) (A:List S):Prop where
 ris:A.Pairwise (· < ·)
 snd:∀t∈A,t.length=i/\(∀q∈pp o t,q∈ps)/\(0<i->Cl ps o (n-i) (zF t o))
 cmp:∀t,t.length=i->(∀q∈pp o t,q∈ps)->Cl ps o (n-i) (zF t o)->t∈A
theorem zGe:∀{a b:S} (x y:S),a.length=b.length->a<b->a++x<b++y
 | [],[],x,y,_,h=>absurd h (iE _)
 |c::a,d::b,x,y,hl,h=>by
  rw[fC,fC]
  rw[lq]at h⊢
  rcases h with h|⟨e,f⟩
  ·exact .inl h
  ·exact .inr ⟨e,zGe x y (by simpa using hl) f⟩
theorem zGf:∀(a:S) {x y:S},x<y->a++x<a++y
 | [],x,y,h=>h
 |c::a,x,y,h=>by
  rw[fC,fC,lq]
  exact .inr ⟨rfl,zGf a h⟩
theorem zGg (lt:S->List S):∀(A:List S),A.Pairwise (· < ·)->(∀a∈A,∀b∈A,a.length=b.length)->(∀a∈A,(lt a).Pairwise (· < ·))->(A.flatMap fun t=>(lt t).map (t++·)).Pairwise (· < ·)
 | [],_,_,_=>by simp
 |a::A,f,g,i=>by
  rw[d8,lQ]
  refine⟨fj _ (fun x y h=>zGf a h) (i a (aj ..)),zGg lt A (di.mp f).2 (fun x c y d=>g x (ak _ c) y (ak _ d)) (fun x c=>i x (ak _ c)),fun x c y d=>?_⟩
  obtain⟨l,_,rfl⟩:=au.mp c
  obtain⟨b,j,e⟩:=bb.mp d
  obtain⟨m,_,rfl⟩:=au.mp e
  exact zGe l m (g a (aj ..) b (ak _ j)) ((di.mp f).1 b j)
theorem AllT.start (ps:List (S×S))(o n:Nat):AllT ps o n 0 [[]]:=by
 refine⟨by simp,fun t a=>?_,fun t a _ _=>?_⟩
 ·have:t=[]:=by simpa using a
  rw[this];exact⟨rfl,(fun q b=>by cases b),fun h=>absurd h (bE _)⟩
 ·rw[cn.mp a];exact bA _
theorem AllT.step {ps:List (S×S)}{o n i:Nat}{A:List S}(s:y7 ps)(h:AllT ps o n i A)(hi:i<n)(lt:S->List S)(v:∀t∈A,(lt (zF t o)).Pairwise (· < ·))(g:∀t∈A,∀l,l∈lt (zF t o)↔l≠[]/\(zF t o,l)∈ps/\Cl ps o (n- (i+1)) (zF (zF t o++l) o)) :
  AllT ps o n (i+1) (A.flatMap fun t=>(lt (zF t o)).map (t++·)):=by
 refine⟨zGg (fun t=>lt (zF t o)) A h.ris (fun a w b x=>by rw[(h.snd a w).1,(h.snd b x).1]) v,fun t y=>?_,fun t g1 g2 g3=>?_⟩
 ·obtain⟨u,d,B⟩:=bb.mp y
  obtain⟨l,hl,rfl⟩:=au.mp B
  obtain⟨g1,g2,g3⟩:=h.snd u d
  obtain⟨C,j,m⟩:=(g u d l).mp hl
  obtain⟨c,rfl⟩:=kA (s _ _ j) C
  rw[zAN]at m
  refine⟨by rw[aI,g1];rfl,fun q e=>?_,fun _=>m⟩
  rw[j9]at e
  rcases bt.mp e with z|z
  ·exact g2 q z
  ·have:q=(zF u o,[c]):=by simpa using z
   rw[this];exact j
 ·have f:t≠[]:=fun z=>by rw[z]at g1;cases g1
  obtain⟨u,c,rfl⟩:∃u c,t=u++[c]:=zCw f
  rw[aI,cK]at g1
  rw[j9]at g2
  have p:(zF u o,[c])∈ps:=g2 _ (aP _ (bA _))
  have r:Cl ps o (n- (i+1)) (zF (zF u o++[c]) o):=by rw[zAN];exact g3
  have d:u∈A:=h.cmp u (by omega) (fun q e=>g2 q (bG _ e)) (by
   rw[show n-i=(n- (i+1))+1 by omega]
   exact⟨[c],by simp,p,r⟩)
  exact bb.mpr ⟨u,d,au.mpr ⟨[c],(g u d [c]).mpr ⟨by simp,p,r⟩,rfl⟩⟩
theorem AllT.made {ps:List (S×S)}{o n:Nat}{A:List S}(h:AllT ps o n n A)(i:0<n):A.Nodup/\∀x,x∈A↔y8 ps o n x:=by
 refine⟨h.ris.imp fun{a b} z e=>by rw[e]at z;exact iE _ z,fun x=>?_⟩
 unfold y8
 rw[gI]
 constructor
 ·intro j
  obtain⟨f,c,d⟩:=h.snd x j
  have d:=d i
  rw[ir]at d
  refine⟨f,fun q g=>?_⟩
  rcases bt.mp g with z|z
  ·exact c q z
  ·have:q=(zF x o,[]):=by simpa using z
   rw[this];exact d
 ·rintro⟨f,c⟩
  refine h.cmp x f (fun q g=>c q (bG _ g)) ?_
  rw[ir]
  exact c _ (aP _ (bA _))
end Kn
end
section
namespace Kn.Ln
open PySem L2 Kn
theorem zMj {K:ae}{x z:Str}{t:Tok}(h:bh K mainGlobals x=some (some (.str z t))):∃t,bh K mainGlobals x=some (some (.str z t)):=⟨t,h⟩
def yC (f:ao)(H H':Hp):Prop:=∀b u,b≠f->H b=some u->H' b=some u
theorem yC.refl {f:ao}(H:Hp):yC f H H:=fun b u _ h=>h
theorem yC.updf {f:ao}{H H':Hp}{u:HO}(s:yC f H H'):yC f H (upd H' f u):=fun b v a e=>by rw[zG a];exact s b v a e
theorem yC.trans {f:ao}{H H' a:Hp}(s:yC f H H')(t:yC f H' a):yC f H a:=fun b v c e=>t b v c (s b v c e)
theorem yC.of {f:ao}{H H':Hp}(s:zA H H'):yC f H H':=fun b v _ e=>s b v e
theorem yC.seqT {K:ae}{f:ao}{H H':Hp}{a:ao}{xs:List V}(s:yC f H H')(c:∀ys,¬Rd H f (.tup ys))(h:yE K H a xs):yE K H' a xs:=by
 rcases h with h|h
 ·have b:a≠f:=fun z=>by subst z;exact c _ h
  rcases h with h|⟨o,h⟩
  ·exact .inl (.inl (s _ _ b h))
  ·exact .inl (.inr ⟨o,s _ _ b h⟩)
 ·exact .inr h
theorem yC.frA {K:ae}{f:ao}{H H':Hp}{v:V}{q:Int×Int}(s:yC f H H')(b:∀ys,¬Rd H f (.tup ys))(h:z3 K H v q):z3 K H' v q:=by
 obtain⟨a,rfl,h⟩:=h
 exact⟨a,rfl,s.seqT b h⟩
theorem kI {H:Hp}{f:ao}{kvs:List (zI×V)}(h:H f=some (.dK kvs)):∀ys,¬Rd H f (.tup ys):=fun ys z=>by
 rcases z with z|⟨o,z⟩<;>rw[h]at z<;>cases z
abbrev z4 (ps:List (S×S))(e:S):List S:=(yD ps e).map (·.1)
theorem uP (ps:List (S×S))(e l:S):l∈z4 ps e↔(e,l)∈ps:=by
 constructor
 ·intro h
  obtain⟨⟨a,n⟩,b,rfl⟩:=au.mp h
  obtain⟨c,d⟩:=(zCc ps e a n).mp b
  have f:0<ps.count (e,a):=by rw[c]at d;omega
  exact bV.mp f
 ·intro h
  exact au.mpr ⟨(l,(ps.count (e,l):Int)),(zCc ps e l _).mpr ⟨rfl,by have:=bV.mpr h;omega⟩,rfl⟩
theorem uQ (ps:List (S×S)):Lts ps (z4 ps):=⟨fun e=>jR ps e,fun e l=>uP ps e l⟩
theorem u4 (o:Nat)(bk:List S):y7 (zC o bk):=fun e l h=>gJ h
theorem zBJ (ps:List (S×S))(e:S):(yD ps e).length<=ps.length:=by
 have a:=gL (z4 ps e) (ps.map (·.2)) (jR _ _) fun l hl=>au.mpr ⟨_,(uP _ _ _).mp hl,rfl⟩
 rw[aa,aa]at a
 exact a
theorem zBK (x:S)(l:List S):uL (sv x) (zU l)=decide (x∈l):=by
 unfold uL zU
 rw[pS]
 induction l with
 |nil=>simp
 |cons y l ih=>
  rw[ef,ih]
  have e:uX (sv y) (sv x)=decide (x=y):=by
   show((tx y)==(tx x))=_
   by_cases z:x=y
   ·subst z;simp
   ·rw[decide_eq_false z,beq_eq_false_iff_ne]
    exact fun q=>z (j6 q).symm
  show(uX (sv y) (sv x)||_)=_
  rw[e]
  by_cases z:x=y
  ·subst z;simp
  ·simp[z]
theorem zBL (l:List S):(zU l).all qF=true:=by
 unfold zU
 rw[pT]
 exact gk.mpr fun _ _=>rfl
theorem u5 {ys:St}(h:ys.length=1):∃y,ys=[y]:=by
 match ys,h with
 | [y],_=>exact⟨y,rfl⟩
def u6 (K:ae)(H:Hp)(pd:ao)(ps:List (S×S))(f:S->S->Int×Int)(r:S×ao×List (S×V)):Prop :=
 r.2.1≠pd/\H r.2.1=some (.dK (zT id r.2.2))/\r.2.2.map (·.1)=z4 ps r.1/\∀q∈r.2.2,z3 K H q.2 (f r.1 q.1)
def jC (K:ae)(H:Hp)(pd:ao)(ps:List (S×S))(f:S->S->Int×Int):Prop:=∃pa:List (S×ao×List (S×V)),pa.map (·.1)=(y6 ps).map (·.1)/\H pd=some (.dK (zT (fun v:ao×List (S×V)=>V.ref v.1) pa))/\∀r∈pa,u6 K H pd ps f r
theorem u6.same {K:ae}{H H':Hp}{a:ao}{ps:List (S×S)}{f:S->S->Int×Int}{r:S×ao×List (S×V)}(h:u6 K H a ps f r)(e:zA H H'):u6 K H' a ps f r :=
 ⟨h.1,e _ _ h.2.1,h.2.2.1,fun q b=>(h.2.2.2 q b).same e⟩
theorem jC.same {K:ae}{H H':Hp}{a:ao}{ps:List (S×S)}{f:S->S->Int×Int}(h:jC K H a ps f)(e:zA H H'):jC K H' a ps f:=by
 obtain⟨b,c,d,g⟩:=h
 exact⟨b,c,e _ _ d,fun r i=>(g r i).same e⟩
theorem u6.sameX {K:ae}{H H':Hp}{a:ao}{ps:List (S×S)}{f:S->S->Int×Int}{r:S×ao×List (S×V)}(h:u6 K H a ps f r)(hd:∀ys,¬Rd H a (.tup ys))(e:yC a H H'):u6 K H' a ps f r :=
 ⟨h.1,e _ _ h.1 h.2.1,h.2.2.1,fun q b=>e.frA hd (h.2.2.2 q b)⟩
theorem gO {ps:List (S×S)}{ra:List (S×ao×List (S×Int))}(h:ra.map (fun r=>(r.1,r.2.2))=y6 ps){r:S×ao×List (S×Int)}(a:r∈ra):r.2.2=yD ps r.1:=by
 have b:(r.1,r.2.2)∈y6 ps:=by rw[<-h];exact au.mpr ⟨r,a,rfl⟩
 have c:=(vA (yH ps).nd _ _).mp b
 unfold yD
 rw[c];rfl
theorem zBM {ps:List (S×S)}:(y6 ps).length<=ps.length:=by
 have a:=gL ((y6 ps).map (·.1)) (ps.map (·.1)) (yH ps).nd fun e b=>by
  obtain⟨⟨c,row⟩,d,rfl⟩:=au.mp b
  obtain⟨l,hl⟩:=((yH ps).has c).mp ⟨row,(vA (yH ps).nd _ _).mp d⟩
  exact au.mpr ⟨_,hl,rfl⟩
 rw[aa,aa]at a
 exact a
theorem zMk {ra:List (S×ao×List (S×Int))}{row:List (S×Int)}(h:zT (fun v:ao×List (S×Int)=>V.ref v.1) ra=zQ row):ra=[]:=by
 cases ra with
 |nil=>rfl
 |cons r ra=>
  cases row with
  |nil=>cases h
  |cons q row=>
   have a:=(jb h).1
   have b:V.ref r.2.1=V.int q.2:=(bW a).2
   cases b
theorem zAQ {H:Hp}{d:ao}{ra:List (S×ao×List (S×Int))}(hd:H d=some (.dK (zT (fun v:ao×List (S×Int)=>V.ref v.1) ra)))(b:∀r∈ra,H r.2.1=some (.dK (zQ r.2.2))):∀r∈ra,r.2.1≠d:=fun r a z=>by
 have h:=b r a
 rw[z,hd]at h
 have:=zMk (HO.dK.inj (aw h))
 rw[this]at a;cases a
section
variable{P:aL}{w:aU}{K:ae}{mg:Str->Option ah}{base:bx}
abbrev zDA:cq:=top 41
theorem zMl:FnScope ["weight","part"] ["weight","part"] (defScope zDA):=z7
def zDB (K:ae):Sp:=fun vs H Q _=>∃(x:Int) (v:V) (q:Int×Int),vs=[.int x,v]/\z3 K H v q/\0<=q.1/\q.1<1000000/\0<q.2/\q.2<1000000/\Q (.int (zV x q)) H
theorem zMm {f:ao}{fd:aY}(F:Fun K "left_of" "left_of" zDA f fd):FnOk P w K mg base zY 1 f fd ["weight","part"] (zDB K):=by
 refine F.ok zMl (fun vs H Q E h=>?_) (fun c A outer s H vs Q E e h=>?_)
 ·obtain⟨x,v,q,rfl,_⟩:=h;rfl
 ·obtain⟨x,v,q,rfl,⟨a,rfl,b⟩,g,i,d,j,k⟩:=h
  refine⟨_,zP (zZ (zW kR (zW uD (pv 0) (yM vC (pv 1) zL (fun _ _=>rfl))) (yM vC (pv 1) zL (fun _ _=>rfl)))),?_⟩
  exact⟨_,rfl,_,rfl,a,_,0,_,rfl,rfl,b,rfl,_,_,rfl,rfl,.inr ⟨by omega,by omega⟩,_,rfl,a,_,1,_,rfl,rfl,b,rfl,_,_,rfl,rfl,⟨d,by omega⟩,k⟩
abbrev zDC:cq:=top 42
theorem zMn:FnScope ["letter","wanted"] ["letter","wanted"] (defScope zDC):=z7
def zGh:Sp:=fun vs H Q _=>∃(l x:S),vs=[sv l,sv x]/\∀H',zA H H'->Q (.bl (mf x l)) H'
theorem zMo {f:ao}{fd:aY}(F:Fun K "may_follow" "may_follow" zDC f fd)(a:∃t,mg "ANY"=some (.str "" t)):FnOk P w K mg base zY 1 f fd ["letter","wanted"] zGh:=by
 obtain⟨u,a⟩:=a
 refine F.ok zMn (fun vs H Q E h=>?_) (fun g A outer s H vs Q E j h=>?_)
 ·obtain⟨x,v,rfl,_⟩:=h;rfl
 ·obtain⟨l,x,rfl,k⟩:=h
  refine⟨_,zP (zZ (zEG (jX zAB (pv 0) u9 (yQ _)) (zEF (jX zEi (pv 1) (uJ (zB (v7 (v:=.str "") (by rfl) a ⟨_,rfl⟩) (zB (pv 0) zD))) (by with_unfolding_all rfl))))),?_⟩
  refine⟨_,rfl,rfl,_,rfl,?_⟩
  by_cases hl:l=[]
  ·subst hl
   refine j2 rfl ?_
   have e:mf x []=false:=by unfold mf;simp
   have:=k H (zA.refl H)
   rw[e]at this
   exact this
  ·have b:¬V.str (tx l)=V.str "" :=fun z=>hl (j6 (V.str.inj z))
   refine zGB b ⟨_,rfl,_,rfl,by show 2<=sizeLine;decide,fun p i=>⟨p,zU [[],l],rfl,.inr (.of zE),rfl,zBL _,?_⟩⟩
   have e:(if false=true then !uL (sv x) (zU [[],l])else uL (sv x) (zU [[],l]))=mf x l:=by
    rw[if_neg (by simp),zBK]
    unfold mf
    rw[decide_eq_true hl,Bool.true_and]
    by_cases c:x=[]
    ·subst c;simp
    ·by_cases d:x=l
     ·subst d;simp
     ·simp[c,d]
   show Q (.bl (if false=true then !uL (sv x) (zU [[],l])else uL (sv x) (zU [[],l]))) _
   rw[e]
   exact k _ (zA.upd1 i)
abbrev zDD:cq:=top 40
theorem zGi:FnScope ["rows","parts","end","row"] ["rows"] (defScope zDD):=z7
theorem zMp:(["letter"]:List Str).Nodup:=by decide+kernel
def zGj (K:ae):Sp:=fun vs H Q _=>∃(d:ao) (ps:List (S×S)),vs=[.ref d]/\v6 H d ps/\ps.length<900/\∀pd H',zA H H'->H pd=none->jC K H' pd ps (fun _ _=>(1,1))->Q (.ref pd) H'
theorem zGk {row:List (S×Int)}{i:Nat}{x:V}(h:((zQ row).map fun p=>kV p.1)[i]?=some x):∃(hi:i<row.length),x=sv row[i].1:=by
 unfold zQ zT yN at h
 rw[aq,aq,aq]at h
 cases e:row[i]? with
 |none=>rw[e]at h;cases h
 |some q=>
  rw[e]at h
  obtain⟨hi,a⟩:=ai.mp e
  refine⟨hi,?_⟩
  rw[a]
  exact(aw h).symm
theorem zGl (a:List (S×V)):yN (a.map fun q=>(tx q.1,q.2))=zT id a:=rfl
theorem zMq {f:ao}{fd:aY}(F:Fun K "even_parts" "even_parts" zDD f fd)(C:Cst2 K mg)(hdi:mg "dict"=none):FnOk P w K mg base zY 1 f fd ["rows"] (zGj K):=by
 obtain⟨aW,hW,tW⟩:=C.whole
 refine F.ok zGi (fun vs H Q E h=>?_) (fun cdv A outer s H vs Q E hr h=>?_)
 ·obtain⟨d,ps,rfl,_⟩:=h;rfl
 ·obtain⟨d,ps,rfl,⟨ra,r1,r2,r3⟩,hps,k⟩:=h
  have hu:=uM hr
  have nd:=zGi.nd
  refine⟨_,zO (z8 (i:=1) nd rfl (Or.inl rfl) j1)
   (zO (gH (v8 bL rfl (gG (j8 K rfl bI cj cR k5 (pv 0)))
     (jT rfl (vV (z9 (i:=2) nd rfl (Or.inl rfl)) (vV (z9 (i:=3) nd rfl (Or.inl rfl)) jH)))
     (zP (zAG hu (pv 1) (pv 2) (zEe (zFV rfl) (by rfl) hdi ki (zB
      (zAL (vM (N:=["letter"]) (caps:=[]) rfl (vF (by kernel_rfl)) (zBG (pv 3)) (fun cl X s H ex=>z9 (i:=0) zMp rfl (Or.inl rfl)) (fun cl X s H ex=>uY) (fun cl X s H ex=>uJ (zB (pv 0) (zB (v7 (v:=.ref aW) (by rfl) hW rfl) zD))))) zD)) rfl))))
   (zP (zZ (pv 1)))),?_⟩
  intro pd hpd
  have sH1:zA H (upd H pd (.dK [])):=zA.upd1 hpd
  have hd1:=sH1 _ _ r2
  have hdpd:pd≠d:=(yI r2 hpd).symm
  refine⟨d,_,hd1,?_⟩
  refine⟨_,rfl,.inr (.inr (.inl ⟨rfl,.inl ⟨_,hd1⟩⟩)),d,_,rfl,rfl,hd1,fun p hp=>?_⟩
  have hp0:H p=none:=sH1.free hp
  have hppd:p≠pd:=fun z=>by subst z;rw[zE]at hp;cases hp
  have sH2:zA (upd H pd (.dK [])) (upd (upd H pd (.dK [])) p (VW p d)):=zA.upd1 hp
  refine⟨p,d,_,rfl,zE,sH2 _ _ hd1,fun ob=>?_⟩
  generalize hkv:zT (fun v:ao×List (S×Int)=>V.ref v.1) ra=kvs at r2 hd1
  generalize hH3:upd (upd (upd H pd (.dK [])) p (VW p d)) d (.frz ob (.dK kvs))=H3
  have s3:zA (upd H d (.frz ob (.dK kvs))) H3:=fun b u e=>by
   rw[<-hH3]
   by_cases hb:b=d
   ·subst hb;rw[zE]at e⊢;exact e
   ·rw[zG hb]at e⊢
    exact sH2 _ _ (sH1 _ _ e)
  have hpd3:H3 pd=some (.dK (zT (fun v:ao×List (S×V)=>V.ref v.1) [])):=by
   rw[<-hH3,zG hdpd,zG hppd.symm,zE];rfl
  have hpd0:upd H d (.frz ob (.dK kvs)) pd=none:=by rw[zG hdpd];exact hpd
  have rne:=zAQ (by rw[hkv];exact r2) r3
  have ral:ra.length<=ps.length:=by
   have h1:=zBM (ps:=ps)
   rw[<-r1,aa]at h1;exact h1
  refine zAM (fun i σ H'=>(∃x2 x3:Option V,σ=[some (.ref d),some (.ref pd),x2,x3])/\zA (upd H d (.frz ob (.dK kvs))) H'/\∃pa:List (S×ao×List (S×V)),H' pd=some (.dK (zT (fun v:ao×List (S×V)=>V.ref v.1) pa))/\pa.map (·.1)=(ra.take i).map (·.1)/\∀r∈pa,u6 K H' pd ps (fun _ _=>(1,1)) r)
   ⟨⟨_,_,rfl⟩,s3,[],hpd3,rfl,fun r hr=>by cases hr⟩ (fun i σ H' _ h=>h.2.1 _ _ zE) ?_ ?_
  ·rintro i q T σ H' Nx hN hq ⟨⟨x2,x3,rfl⟩,sm,pa,hpa,hpk,hpr⟩ hT
   rw[<-hkv]at hq
   unfold zT yN at hq
   rw[aq,aq]at hq
   cases ei:ra[i]? with
   |none=>rw[ei]at hq;cases hq
   |some r0=>
   rw[ei]at hq
   have hq2:q=(Sum.inr (tx r0.1),V.ref r0.2.1):=(aw hq).symm
   subst hq2
   have hmem:r0∈ra:=aV ei
   have hi:i<ra.length:=(ai.mp ei).1
   have etk:ra.take (i+1)=ra.take i++[r0]:=by rw[az hi,(ai.mp ei).2]
   have hrow:=gO r1 hmem
   have h0r:upd H d (.frz ob (.dK kvs)) r0.2.1=some (.dK (zQ r0.2.2)):=by rw[zG (rne r0 hmem)];exact r3 r0 hmem
   refine⟨T,[sv r0.1,.ref r0.2.1],rfl,.of zE,rfl,_,_,rfl,_,_,rfl,rfl,?_⟩
   generalize hH4:upd H' T (HO.tup [kV ((Sum.inr (tx r0.1):zI),V.ref r0.2.1).1,((Sum.inr (tx r0.1):zI),V.ref r0.2.1).2])=H4
   have s4:zA H' H4:=by rw[<-hH4];exact zA.upd1 hT
   have hr4:H4 r0.2.1=some (.dK (zQ r0.2.2)):=s4 _ _ (sm _ _ h0r)
   have sm4:=sm.trans s4
   have hpa4:=s4 _ _ hpa
   have hpr4:∀r∈pa,u6 K H4 pd ps (fun _ _=>(1,1)) r:=fun r hr=>(hpr r hr).same s4
   have nrp:r0.2.1≠pd:=fun z=>by rw[z]at h0r;rw[hpd0]at h0r;cases h0r
   refine⟨r0.2.1,zQ r0.2.2,hr4,_,rfl,r0.2.1,_,rfl,hr4,fun ob2=>?_⟩
   have hlen:((zQ r0.2.2).map fun p=>kV p.1).length=r0.2.2.length:=by rw[aa];exact vW _ _
   have hl2:r0.2.2.length<=ps.length:=by rw[hrow];exact zBJ ps r0.1
   refine qJ (zCt r0.2.1 ob2 (zQ r0.2.2)) [] 1 (by rw[hlen];omega) (fun j acc H5=>zA (upd H4 r0.2.1 (.frz ob2 (.dK (zQ r0.2.2)))) H5/\acc.length=j/\∀(m:Nat) (x:S×Int),(r0.2.2.take j)[m]?=some x->∃a,acc[m]?=some (.ref a)/\H5 a=some (.tup [sv x.1,.ref aW]))
    ⟨zA.refl _,rfl,fun m x hm=>by simp at hm⟩ (fun j acc H5 _ h=>⟨h.1 _ _ zE,d5 h.2.1⟩) ?_ ?_
   ·rintro j x acc H5 ys Nx2 hN2 hx hy ⟨sj,hal,hac⟩
    obtain⟨y',rfl⟩:=u5 hy
    obtain⟨hj,rfl⟩:=zGk hx
    refine⟨_,rfl,by show 2<=sizeLine;decide,fun t ht=>?_⟩
    have s6:zA H5 (upd H5 t (.tup [sv r0.2.2[j].1,.ref aW])):=zA.upd1 ht
    refine hN2 _ _ [some (sv r0.2.2[j].1)] rfl ⟨sj.trans s6,by rw[aI,hal];rfl,fun m x hm=>?_⟩
    rw[az hj]at hm
    have hjl:(r0.2.2.take j).length=j:=by rw[aQ];omega
    by_cases hmj:m<j
    ·rw[bU (by omega)]at hm
     obtain⟨a,h1,h2⟩:=hac m x hm
     exact⟨a,by rw[bU (by omega)];exact h1,s6 _ _ h2⟩
    ·rw[bB (by omega),hjl]at hm
     have hm0:m-j=0:=by
      have:=(ai.mp hm).1
      simp at this;omega
     rw[hm0]at hm
     have hx2:r0.2.2[j]=x:=aw hm
     subst hx2
     exact⟨t,by rw[bB (by omega),hal,hm0];rfl,zE⟩
   ·rintro acc H5 ⟨sj,hal,hac⟩ D hD
    rw[hlen,bc]at hac
    rw[hlen]at hal
    have hfz:H5 r0.2.1=some (.frz ob2 (.dK (zQ r0.2.2))):=sj _ _ zE
    have hneD:r0.2.1≠D:=yI hfz hD
    have sD:zA H5 (upd H5 D (.lst acc)):=zA.upd1 hD
    refine⟨ob2,by rw[zG hneD];exact hfz,?_⟩
    have s7:zA H4 (upd (upd H5 D (.lst acc)) r0.2.1 (.dK (zQ r0.2.2))):=zA.thaw (sj.trans sD) hr4
    generalize hH7:upd (upd H5 D (.lst acc)) r0.2.1 (.dK (zQ r0.2.2))=H7 at s7
    have hD7:H7 D=some (.lst acc):=by rw[<-hH7,zG hneD.symm,zE]
    have hac7:zAs K H7 acc (r0.2.2.map fun x=>(tx x.1,V.ref aW)):=by
     refine⟨by rw[aa];exact hal,fun m x hm=>?_⟩
     rw[aq]at hm
     cases em:r0.2.2[m]? with
     |none=>rw[em]at hm;cases hm
     |some x0=>
      rw[em]at hm
      have hx:(tx x0.1,V.ref aW)=x:=aw hm
      subst hx
      obtain⟨a,h1,h2⟩:=hac m x0 em
      have hna:a≠r0.2.1:=fun z=>by rw[z,hfz]at h2;cases h2
      exact⟨a,h1,.of (by rw[<-hH7,zG hna];exact sD _ _ h2)⟩
    refine⟨D,acc,_,rfl,.of hD7,hac7,?_,by rw[aa];omega,fun rd hrd=>?_⟩
    ·have hnd:(r0.2.2.map (·.1)).Nodup:=by rw[hrow];exact jR ps r0.1
     have e:gq (·.1) (r0.2.2.map fun x=>(tx x.1,V.ref aW))=(r0.2.2.map (·.1)).map tx:=by rw[aJ,aJ];rfl
     rw[e]
     exact fj tx (fun a b hab z=>hab (j6 z)) hnd
    have s8:zA H7 (upd H7 rd (.dK (yN (r0.2.2.map fun x=>(tx x.1,V.ref aW))))):=zA.upd1 hrd
    have hpa7:=s8 _ _ (s7 _ _ hpa4)
    refine⟨_,rfl,_,rfl,pd,_,rfl,qZ.k (k:=Sum.inr (tx r0.1)) hpa7 (by rw[vW,<-aa (f:=(·.1)),hpk,aa,aQ,aZ];omega),?_⟩
    have hnrd:pd≠rd:=yI (s7 _ _ hpa4) hrd
    have knd:(pa.map (·.1)).Nodup:=by
     rw[hpk,eh]
     have h:=(yH ps).nd
     rw[<-r1,aJ]at h
     exact h.sublist (dy _ _)
    have fresh:r0.1∉pa.map (·.1):=fun h1=>by
     rw[hpk]at h1
     have h:=(yH ps).nd
     rw[<-r1,aJ]at h
     have h2:((ra.take (i+1)).map (·.1)).Nodup:=by rw[eh];exact h.sublist (dy _ _)
     rw[etk,aF]at h2
     exact(d6.mp h2).2.2 _ h1 _ (by simp) rfl
    have eput:=gC (fun v:ao×List (S×V)=>V.ref v.1) pa r0.1 (rd,r0.2.2.map fun x=>(x.1,V.ref aW)) knd
    have eputA:zX pa r0.1 (rd,r0.2.2.map fun x=>(x.1,V.ref aW))=pa++[(r0.1,rd,r0.2.2.map fun x=>(x.1,V.ref aW))]:=gD pa _ _ fresh
    rw[eputA]at eput
    have sx:yC pd (upd H7 rd (.dK (yN (r0.2.2.map fun x=>(tx x.1,V.ref aW))))) (upd (upd H7 rd (.dK (yN (r0.2.2.map fun x=>(tx x.1,V.ref aW))))) pd (.dK (vG (zT (fun v:ao×List (S×V)=>V.ref v.1) pa) (Sum.inr (tx r0.1)) (V.ref rd)))):=(yC.refl _).updf
    refine hN _ _ ⟨⟨_,_,rfl⟩,fun b u e=>?_,pa++[(r0.1,rd,r0.2.2.map fun x=>(x.1,V.ref aW))],?_,?_,fun r hr=>?_⟩
    ·have hb:b≠pd:=fun z=>by rw[z,hpd0]at e;cases e
     exact sx _ _ hb (s8 _ _ (s7 _ _ (sm4 _ _ e)))
    ·rw[zE]
     exact congrArg (fun z=>some (HO.dK z)) eput
    ·rw[aF,hpk,etk,aF];rfl
    ·rcases bt.mp hr with z|z
     ·exact(((hpr4 r z).same s7).same s8).sameX (kI hpa7) sx
     ·have hr2:r=(r0.1,rd,r0.2.2.map fun x=>(x.1,V.ref aW)):=bf.mp z
      subst hr2
      refine⟨hnrd.symm,?_,?_,fun q hq=>?_⟩
      ·refine sx _ _ hnrd.symm ?_
       rw[zE,<-zGl,aJ];rfl
      ·show gq (·.1) (r0.2.2.map fun x=>(x.1,V.ref aW))=_
       rw[aJ,hrow];rfl
      ·obtain⟨x,_,rfl⟩:=au.mp hq
       exact⟨aW,rfl,tW _⟩
  ·rintro σ H' ⟨⟨x2,x3,rfl⟩,sm,pa,hpa,hpk,hpr⟩
   refine⟨ob,sm _ _ zE,_,rfl,?_⟩
   have sfin:zA H (upd H' d (.dK kvs)):=zA.thaw sm r2
   have hel:(zT (fun v:ao×List (S×Int)=>V.ref v.1) ra).length=ra.length:=vW _ _
   rw[<-hkv,hel,bc]at hpk
   have tfz:∀ys,¬Rd H' d (.tup ys):=fun ys z=>by
    have:=sm _ _ zE
    rcases z with z|⟨o,z⟩<;>rw[this]at z<;>cases z
   refine k pd _ sfin hpd ⟨pa,?_,?_,fun r hr=>?_⟩
   ·rw[hpk,<-r1,aJ];rfl
   ·rw[zG hdpd];exact hpa
   ·obtain⟨h1,h2,h3,h4⟩:=hpr r hr
    have hrd:r.2.1≠d:=fun z=>by
     rw[z]at h2
     rw[sm _ _ zE]at h2;cases h2
    have sx:yC d H' (upd H' d (.dK kvs)):=(yC.refl _).updf
    exact⟨h1,by rw[zG hrd];exact h2,h3,fun q hq=>sx.frA tfz (h4 q hq)⟩
end
end Kn.Ln
end
section
namespace L2
open PySem PySem.Spec PyProof.Rows
section
variable{X:Cx}
def zMr:V->List V->Hp->VK->Prop:=fun x vs H Q=>∃d kvs,x=.ref d/\vs=[]/\Rd H d (.dK kvs)/\∀p,H p=none->Q (.ref p) (upd H p (uZ p d))
theorem zGm:kU X "dict.values" zMr:=by
 intro c s σ H x vs v j Q I g i h
 obtain⟨d,kvs,rfl,rfl,hd,q⟩:=h
 cases g
 have a:=i.zero
 subst a
 obtain⟨z,hm,l,rel,f⟩:=vZ I.hok hd
 refine fW dm f.typeIs iO (iG _) (mQ (y0 X.prog X.w) d hm) ⟨⟨_,f⟩,?_⟩
 refine⟨.ref s.heap.objs.size,_,I.laid (t':=s.toks) (o:=uZ s.heap.objs.size d) (fun b o e=>ag _ e) (ay _) ?_,rfl,q _ (I.hok.fresh (ay _))⟩
 exact⟨aB _ rfl,⟨_,aB _ rfl⟩,fun m n e k=>k _ e⟩
theorem zGn (G:X.calm=true):qD X (.builtin "sum") (fun xs H Q=>∃(p d:ao) (a:List (zI×Int)),xs=[.ref p]/\H p=some (uZ p d)/\Rd H d (.dK (a.map fun q=>(q.1,V.int q.2)))/\Q (.int (a.map (·.2)).sum) H):=by
 intro D s σ H xs T Q I r h
 obtain⟨p,d,a,rfl,J,hd,q⟩:=h
 obtain⟨u,rfl,L⟩:=qE r
 cases L
 obtain⟨z,hm,l,rel,M⟩:=vZ I.hok hd
 obtain⟨E,_,_⟩:=I.hok p _ J
 obtain⟨ep,c⟩:=M.dictAt
 have j:l.length=a.length:=by have:=rel.length;simpa using this.symm
 have n:∀(i:Nat) (v:ah),(∃k,l[i]?=some (k,v))->∃t,v=Value.int ((a.map (·.2)).getD i 0) t:=fun i v ⟨k,e⟩=>by
  obtain⟨x,e1,N⟩:=KV.get rel e
  rw[aq]at e1
  cases g:a[i]? with
  |none=>rw[g]at e1;cases e1
  |some m=>
   rw[g]at e1
   have y:(m.1,V.int m.2)=(k,x):=aw e1
   have:x=V.int m.2:=(bW y).2.symm
   subst this
   obtain⟨t,rfl⟩:=N
   refine⟨t,?_⟩
   have:(a.map (·.2)).getD i 0=m.2:=by rw[bY,aq,g];rfl
   rw[this]
 have F:=PySem.W.kdl_values (knd:=y0 X.prog X.w) (kvs:=l) (ep:=ep) (r:=p) (d:=d)
 obtain⟨O,St,hit,W,st⟩:=F.iter X.A.in1 s (I.ok.hd G) ⟨⟨_,E,rfl,rfl⟩,c⟩
 have B:=F.there s.heap ⟨⟨_,E,rfl,rfl⟩,c⟩
 refine mP (hit _ _ ⟨s.heap.objs.size,_,_,_,l.length,_,_,fun i=>(a.map (·.2)).getD i 0,rfl,W.toS,st,fun b C=>?_,n,fun s' t' hm=>?_⟩)
 ·show b<(s.heap.push O).objs.size
  rw[size_push']
  rcases aH.mp C with e|C
  ·rw[e];exact b6 _
  ·rw[bf.mp C];exact bC B.2
 have P:∀b o,s.heap.get? b=some o->s'.heap.get? b=some o:=fun b o e=>
  hm.heap b o (fun R=>absurd (aE e) (by rw[bf.mp R];exact bE _)) (ag _ e)
 rw[i9 hm]
 refine⟨.int (a.map (·.2)).sum,H,I.kept (h':=s'.heap) (t':=s'.toks) P,⟨t',?_⟩,q⟩
 rw[j,<-aa (f:=(·.2)) (as:=a),zBz _ _ (ay _),bc]
def zMs (r:V->List V->Hp->VK->Prop)(to:TE):TE:=fun σ H Q=>to σ H fun x H1=>∃a,x=.ref a/\IsD H1 a/\r x [] H1 Q
theorem zGo {o:bO}{i:TE}{name:Str}{apos b:Pos}{id:String}{r:V->List V->Hp->VK->Prop}(slot:Slot "dict" name id)(g:typeOf (.builtin id)=pure (.type "method_descriptor"))(hm:MtR X id r)(l:PE X o i)
  (e:attributeBase o name X.env (eval o X.env)=eval o X.env:=by rfl) (f:(apos.endLine==b.line)=true:=by rfl):PE X (.Call (.Attribute o name apos) [] [] b) (zMs r i):=by
 intro c s σ H Q I h
 refine jg e f (zH (l c s σ H _ I h) fun v m ⟨x,n,j,p,a,ex,d,q⟩=>?_)
 subst ex
 cases p
 obtain⟨t,u,_⟩:=zEw j d
 exact⟨"dict",id,bI,slot,g,t,u,eT rfl (l5 (hm c m σ n (.ref a) [] _ [] Q j (show zS (.ref a) (.ref a)from rfl) .nil q))⟩
def zMt (tk tv:TE):TE:=fun σ H Q=>∀p,H p=none->tk σ (upd H p (.dK [])) fun x H1=>tv σ H1 fun y H2=>H2 p=some (.dK [])/\∃k:zI,x=kV k/\Q (.ref p) (upd H2 p (.dK [(k,y)]))
theorem zMu {k v:bO}{pos:Pos}{tk f:TE}(m:PE X k tk)(n:PE X v f):PE X (.Dict [some k] [v] pos) (zMt tk f):=by
 intro b s σ H Q I q
 have p:=I.hok.fresh (ay s.heap.objs.size)
 have r:=I.laid (a:=s.heap.objs.size) (o:=.dK []) (h':=s.heap.push {cls:=.type "dict",data:=.dict #[]}) (t':=s.toks) (fun _ _ q=>ag _ q) (ay _) (zEu s.heap I.big)
 have t:PPs X pos [some k] [v] [(tk,f)]:=zKD m n zKC
 refine wpAny_Dict_any rfl rfl (by simp) (by simp) (zH (t b _ σ _ (fun ps g=>match ps with| [(x,y)]=>g s.heap.objs.size=some (.dK [])/\∃e:zI,x=kV e/\Q (.ref s.heap.objs.size) (upd g s.heap.objs.size (.dK [(e,y)]))|_=>False) r (q _ p)) fun G J ⟨ps,g,i,rel,c⟩=>?_)
 match ps,rel,c with
 | [(x,y)],rel,c=>
  obtain⟨j,e,ex,c⟩:=c
  cases rel with
  | @cons _ l _ u h A=>
  cases A
  obtain⟨L,l⟩:=l
  obtain⟨h,B⟩:=h
  subst ex
  obtain⟨z,hd,vs,rel,C⟩:=qY i.hok j
  cases rel
  unfold storeAll
  rw[kr]
  refine af (af (l6 (knd:=y0 X.prog X.w) (hsz:=bD _) (jZ h) C (fun h' d D=>av ?_)))
  show wpAny _ _ (forIn [] _ _) _ _ _
  rw[lH]
  refine av ⟨.ref s.heap.objs.size,_,?_,rfl,c⟩
  have E:∃q,h'.get? s.heap.objs.size=some q:=let⟨q,_,_,F,_⟩:=d;⟨q,F⟩
  exact zAk i (by rw[j];exact True.intro) D E (zAl (by show 1<=sizeLine;decide) hd (KV.put .nil e B) d)
end
end L2
end
section
namespace Kn.Ln
open PySem L2 Kn
def vX (row:List (S×Int))(vv:List V):List (S×V):=(row.map (·.1)).zip vv
def uR (row:List (S×Int))(vv:List V):List (Str×V):=(vX row vv).map fun q=>(tx q.1,q.2)
theorem zGp {row:List (S×Int)}{a:List V}(h:row.length=a.length):(vX row a).map (·.1)=row.map (·.1):=by
 unfold vX
 exact List.map_fst_zip (by rw[aa];omega)
theorem zMv {row:List (S×Int)}{a:List V}(h:row.length=a.length):(uR row a).map (·.1)=(row.map (·.1)).map tx:=by
 unfold uR
 rw[<-zGp h,aJ,aJ];rfl
theorem zGq {row:List (S×Int)}{a:List V}(h:row.length=a.length):(uR row a).length=row.length:=by
 unfold uR vX
 rw[aa,List.length_zip,aa];omega
theorem zGr {row:List (S×Int)}{b:List V}{m:Nat}{q:S×V}(h:(vX row b)[m]?=some q):∃(x:S×Int) (v:V),row[m]?=some x/\b[m]?=some v/\q=(x.1,v):=by
 unfold vX at h
 rw[List.getElem?_zip_eq_some]at h
 obtain⟨a,c⟩:=h
 rw[aq]at a
 cases e:row[m]? with
 |none=>rw[e]at a;cases a
 |some x=>
  rw[e]at a
  exact⟨x,q.2,rfl,c,rh (aw a).symm rfl⟩
theorem zMw {row:List (S×Int)}{a:List V}{m:Nat}{q:Str×V}(h:(uR row a)[m]?=some q):∃(x:S×Int) (v:V),row[m]?=some x/\a[m]?=some v/\q=(tx x.1,v):=by
 unfold uR at h
 rw[aq]at h
 cases e:(vX row a)[m]? with
 |none=>rw[e]at h;cases h
 |some r=>
  rw[e]at h
  obtain⟨x,v,b,c,rfl⟩:=zGr e
  exact⟨x,v,b,c,(aw h).symm⟩
theorem zMx {row:List (S×Int)}{a:List V}{q:S×V}(h:q∈vX row a):∃(m:Nat) (x:S×Int) (v:V),row[m]?=some x/\a[m]?=some v/\q=(x.1,v):=by
 obtain⟨m,hm,e⟩:=c8 h
 obtain⟨x,v,b,c,d⟩:=zGr (ai.mpr ⟨hm,e⟩)
 exact⟨m,x,v,b,c,d⟩
theorem zMy (row:List (S×Int))(a:List V):yN (uR row a)=yN ((vX row a).map fun q=>(tx q.1,q.2)):=rfl
section
variable{P:aL}{w:aU}{K:ae}{mg:Str->Option ah}{base:bx}
theorem zR.imp {k:Nat}{x:Str}{ps:List Str}{sp sp':Sp}(C:zR P w K mg base k x ps sp)(h:∀{vs H Q E},sp' vs H Q E->sp vs H Q E):zR P w K mg base k x ps sp' :=
 let⟨f,fd,F,r⟩:=C;⟨f,fd,F.imp fun _ _ _ _=>h,r⟩
def zDE (K:ae):Sp:=fun vs H Q _=>∃(d:ao) (ps:List (S×S)) (e l:S),vs=[.ref d,sv l]/\Rd H d (.dK (zQ (yD ps e)))/\ps.length<1000/\∀v H',zA H H'->z3 K H' v (zJ ps e l)->Q v H'
theorem zMz {vs:List V}{H:Hp}{Q:VK}{E:XK}(h:zCd K vs H Q E):zDE K vs H Q E:=by
 obtain⟨d,ps,e,l,rfl,hd,hl,k⟩:=h
 exact⟨d,ps,e,l,rfl,.inl hd,hl,k⟩
theorem zNA {f:ao}{fd:aY}(F:Fun K "part_in" "part_in" zCe f fd)(B:Blt mg)(C:Cst2 K mg)(c1:zR P w K mg base 2 "lowest" ["up","down"] zBC):FnOk P w K mg base zY 3 f fd ["row","letter"] (zDE K):=by
 obtain⟨j,r,t⟩:=C.nought
 refine F.ok zLs (fun vs H Q E h=>?_) (fun u A outer s H vs Q E m h=>?_)
 ·obtain⟨d,ps,e,l,rfl,_⟩:=h;rfl
 ·obtain⟨d,ps,e,l,rfl,hd,hl,k⟩:=h
  have n:=uM m
  refine⟨_,zO (vI (zEE (zKA n (pv 1) (pv 0))) (zP (zZ (v7 (v:=.ref j) (by rfl) r rfl))) vH)
   (zP (zZ (zM c1 m rfl (zB (kX n (pv 0) (pv 1) (fun _ _=>rfl)) (zB (yX (zGn rfl) (by rfl) B.sum fg (zB (zGo dm fH zGm (pv 0)) zD)) zD))))),?_⟩
  have a:yZ H d (sv l) (yY (zQ (yD ps e)) (Sum.inr (tx l))):=.inl ⟨_,Sum.inr (tx l),hd,rfl,rfl⟩
  refine⟨_,rfl,_,rfl,d,_,rfl,a,_,rfl,?_⟩
  rw[uO,zBE]
  by_cases c:0<ps.count (e,l)
  ·rw[if_pos c]
   refine vK ?_
   rw[uO,zBE,if_pos c]at a
   refine⟨_,rfl,_,rfl,d,.int (ps.count (e,l):Int),rfl,a,?_⟩
   refine⟨_,rfl,d,rfl,.inl ⟨_,hd⟩,d,_,rfl,rfl,hd,fun p x=>?_⟩
   have b:zA H (upd H p (uZ p d)):=zA.upd1 x
   have g:Rd (upd H p (uZ p d)) d (.dK (zQ (yD ps e))):=by
    rcases hd with z|⟨o,z⟩
    ·exact .inl (b _ _ z)
    ·exact .inr ⟨o,b _ _ z⟩
   refine⟨p,d,(yD ps e).map (fun q=>((Sum.inr (tx q.1):zI),q.2)),rfl,zE,?_,?_⟩
   ·have e1:((yD ps e).map (fun q=>((Sum.inr (tx q.1):zI),q.2))).map (fun q=>(q.1,V.int q.2))=zQ (yD ps e):=by
     unfold zQ zT yN
     rw[aJ,aJ];rfl
    rw[e1];exact g
   ·have e1:(((yD ps e).map fun q=>((Sum.inr (tx q.1):zI),q.2)).map (·.2)).sum=(tot ps e:Int):=by
     rw[aJ];exact zFt ps e
    rw[e1]
    have y:=qK ps e l
    have D:=tot_le ps e
    refine⟨_,_,rfl,by omega,by omega,by omega,fun G i=>k _ _ (b.trans (zA.upd1 i)) ?_⟩
    have:zJ ps e l=low (ps.count (e,l):Int) (tot ps e:Int):=by unfold zJ;rw[if_neg (by omega)]
    rw[this]
    exact z3.new
  ·rw[if_neg c]
   refine zBl ?_
   have:zJ ps e l=(0,1):=by unfold zJ;rw[if_pos (by omega)]
   exact k _ _ (zA.refl H) (by rw[this];exact⟨j,rfl,t _⟩)
abbrev zDF:cq:=top 39
theorem zGs:FnScope ["rows","parts","end","row"] ["rows"] (defScope zDF):=z7
theorem zNB:(["row","letter"]:List Str).Nodup:=by decide+kernel
def zGt (K:ae):Sp:=fun vs H Q _=>∃(d:ao) (ps:List (S×S)),vs=[.ref d]/\v6 H d ps/\ps.length<900/\∀pd H',zA H H'->H pd=none->jC K H' pd ps (zJ ps)->Q (.ref pd) H'
theorem zNC {f:ao}{fd:aY}(F:Fun K "parts_by_rows" "parts_by_rows" zDF f fd)(cP:zR P w K mg base 3 "part_in" ["row","letter"] (zDE K))(hdi:mg "dict"=none):FnOk P w K mg base zY 4 f fd ["rows"] (zGt K):=by
 refine F.ok zGs (fun vs H Q E h=>?_) (fun cdv A outer s H vs Q E hr h=>?_)
 ·obtain⟨d,ps,rfl,_⟩:=h;rfl
 ·obtain⟨d,ps,rfl,⟨ra,r1,r2,r3⟩,hps,k⟩:=h
  have hu:=uM hr
  have nd:=zGs.nd
  refine⟨_,zO (z8 (i:=1) nd rfl (Or.inl rfl) j1)
   (zO (gH (v8 bL rfl (gG (j8 K rfl bI cj cR k5 (pv 0)))
     (jT rfl (vV (z9 (i:=2) nd rfl (Or.inl rfl)) (vV (z9 (i:=3) nd rfl (Or.inr rfl)) jH)))
     (zP (zAG hu (pv 1) (pv 2) (zEe (zFV rfl) (by rfl) hdi ki (zB
      (zAL (vM (N:=["row","letter"]) (caps:=[3]) rfl (vF (by kernel_rfl)) (zBG (pv 3)) (fun cl X s H ex=>z9 (i:=1) zNB rfl (Or.inl rfl)) (fun cl X s H ex=>uY) (fun cl X s H ex=>uJ (zB (pv 1) (zB (zM cP hr rfl (zB (pv 0) (zB (pv 1) zD))) zD))))) zD)) rfl))))
   (zP (zZ (pv 1)))),?_⟩
  intro pd hpd
  have sH1:zA H (upd H pd (.dK [])):=zA.upd1 hpd
  have hd1:=sH1 _ _ r2
  have hdpd:pd≠d:=(yI r2 hpd).symm
  refine⟨d,_,hd1,?_⟩
  refine⟨_,rfl,.inr (.inr (.inl ⟨rfl,.inl ⟨_,hd1⟩⟩)),d,_,rfl,rfl,hd1,fun p hp=>?_⟩
  have hp0:H p=none:=sH1.free hp
  have hppd:p≠pd:=fun z=>by subst z;rw[zE]at hp;cases hp
  have sH2:zA (upd H pd (.dK [])) (upd (upd H pd (.dK [])) p (VW p d)):=zA.upd1 hp
  refine⟨p,d,_,rfl,zE,sH2 _ _ hd1,fun ob=>?_⟩
  generalize hkv:zT (fun v:ao×List (S×Int)=>V.ref v.1) ra=kvs at r2 hd1
  generalize hH3:upd (upd (upd H pd (.dK [])) p (VW p d)) d (.frz ob (.dK kvs))=H3
  have s3:zA (upd H d (.frz ob (.dK kvs))) H3:=fun b u e=>by
   rw[<-hH3]
   by_cases hb:b=d
   ·subst hb;rw[zE]at e⊢;exact e
   ·rw[zG hb]at e⊢
    exact sH2 _ _ (sH1 _ _ e)
  have hpd3:H3 pd=some (.dK (zT (fun v:ao×List (S×V)=>V.ref v.1) [])):=by
   rw[<-hH3,zG hdpd,zG hppd.symm,zE];rfl
  have hpd0:upd H d (.frz ob (.dK kvs)) pd=none:=by rw[zG hdpd];exact hpd
  have rne:=zAQ (by rw[hkv];exact r2) r3
  have ral:ra.length<=ps.length:=by
   have h1:=zBM (ps:=ps)
   rw[<-r1,aa]at h1;exact h1
  refine zAM (fun i σ H'=>(∃x2 x3:Option V,σ=[some (.ref d),some (.ref pd),x2,x3])/\zA (upd H d (.frz ob (.dK kvs))) H'/\∃pa:List (S×ao×List (S×V)),H' pd=some (.dK (zT (fun v:ao×List (S×V)=>V.ref v.1) pa))/\pa.map (·.1)=(ra.take i).map (·.1)/\∀r∈pa,u6 K H' pd ps (zJ ps) r)
   ⟨⟨_,_,rfl⟩,s3,[],hpd3,rfl,fun r hr=>by cases hr⟩ (fun i σ H' _ h=>h.2.1 _ _ zE) ?_ ?_
  ·rintro i q T σ H' Nx hN hq ⟨⟨x2,x3,rfl⟩,sm,pa,hpa,hpk,hpr⟩ hT
   rw[<-hkv]at hq
   unfold zT yN at hq
   rw[aq,aq]at hq
   cases ei:ra[i]? with
   |none=>rw[ei]at hq;cases hq
   |some r0=>
   rw[ei]at hq
   have hq2:q=(Sum.inr (tx r0.1),V.ref r0.2.1):=(aw hq).symm
   subst hq2
   have hmem:r0∈ra:=aV ei
   have hi:i<ra.length:=(ai.mp ei).1
   have etk:ra.take (i+1)=ra.take i++[r0]:=by rw[az hi,(ai.mp ei).2]
   have hrow:=gO r1 hmem
   have h0r:upd H d (.frz ob (.dK kvs)) r0.2.1=some (.dK (zQ r0.2.2)):=by rw[zG (rne r0 hmem)];exact r3 r0 hmem
   refine⟨T,[sv r0.1,.ref r0.2.1],rfl,.of zE,rfl,_,_,rfl,_,_,rfl,rfl,?_⟩
   generalize hH4:upd H' T (HO.tup [kV ((Sum.inr (tx r0.1):zI),V.ref r0.2.1).1,((Sum.inr (tx r0.1):zI),V.ref r0.2.1).2])=H4
   have s4:zA H' H4:=by rw[<-hH4];exact zA.upd1 hT
   have hr4:H4 r0.2.1=some (.dK (zQ r0.2.2)):=s4 _ _ (sm _ _ h0r)
   have sm4:=sm.trans s4
   have hpa4:=s4 _ _ hpa
   have hpr4:∀r∈pa,u6 K H4 pd ps (zJ ps) r:=fun r hr=>(hpr r hr).same s4
   have nrp:r0.2.1≠pd:=fun z=>by rw[z]at h0r;rw[hpd0]at h0r;cases h0r
   refine⟨r0.2.1,zQ r0.2.2,hr4,_,rfl,r0.2.1,_,rfl,hr4,fun ob2=>?_⟩
   have hlen:((zQ r0.2.2).map fun p=>kV p.1).length=r0.2.2.length:=by rw[aa];exact vW _ _
   have hl2:r0.2.2.length<=ps.length:=by rw[hrow];exact zBJ ps r0.1
   have nh5:∀{H5:Hp} {ys:List V},zA (upd H4 r0.2.1 (.frz ob2 (.dK (zQ r0.2.2)))) H5->Rd H5 r0.2.1 (.dK (zQ (yD ps r0.1))):=fun{H5 ys} sj=>.inr ⟨ob2,by rw[<-hrow];exact sj _ _ zE⟩
   refine qJ (zCt r0.2.1 ob2 (zQ r0.2.2)) [some (.ref r0.2.1)] 1 (by rw[hlen];omega) (fun j acc H5=>zA (upd H4 r0.2.1 (.frz ob2 (.dK (zQ r0.2.2)))) H5/\acc.length=j/\∃vv:List V,vv.length=j/\∀(m:Nat) (x:S×Int),(r0.2.2.take j)[m]?=some x->∃a v,acc[m]?=some (.ref a)/\vv[m]?=some v/\H5 a=some (.tup [sv x.1,v])/\z3 K H5 v (zJ ps r0.1 x.1))
    ⟨zA.refl _,rfl,[],rfl,fun m x hm=>by simp at hm⟩ (fun j acc H5 _ h=>⟨h.1 _ _ zE,d5 h.2.1⟩) ?_ ?_
   ·rintro j x acc H5 ys Nx2 hN2 hx hy ⟨sj,hal,vv,hvl,hac⟩
    obtain⟨y',rfl⟩:=u5 hy
    obtain⟨hj,rfl⟩:=zGk hx
    refine⟨_,rfl,_,rfl,_,rfl,r0.2.1,ps,r0.1,r0.2.2[j].1,rfl,nh5 (ys:=[]) sj,by omega,fun v H5b s5 hv=>?_⟩
    refine⟨by show 2<=sizeLine;decide,fun t ht=>?_⟩
    have s6:zA H5b (upd H5b t (.tup [sv r0.2.2[j].1,v])):=zA.upd1 ht
    refine hN2 _ _ [some (sv r0.2.2[j].1)] rfl ⟨(sj.trans s5).trans s6,by rw[aI,hal];rfl,vv++[v],by rw[aI,hvl];rfl,fun m x hm=>?_⟩
    rw[az hj]at hm
    have hjl:(r0.2.2.take j).length=j:=by rw[aQ];omega
    by_cases hmj:m<j
    ·rw[bU (by omega)]at hm
     obtain⟨a,u,h1,h2,h3,h4⟩:=hac m x hm
     exact⟨a,u,by rw[bU (by omega)];exact h1,by rw[bU (by omega)];exact h2,(s5.trans s6) _ _ h3,h4.same (s5.trans s6)⟩
    ·rw[bB (by omega),hjl]at hm
     have hm0:m-j=0:=by
      have:=(ai.mp hm).1
      simp at this;omega
     rw[hm0]at hm
     have hx2:r0.2.2[j]=x:=aw hm
     subst hx2
     exact⟨t,v,by rw[bB (by omega),hal,hm0];rfl,by rw[bB (by omega),hvl,hm0];rfl,zE,hv.same s6⟩
   ·rintro acc H5 ⟨sj,hal,vv,hvl,hac⟩ D hD
    rw[hlen,bc]at hac
    rw[hlen]at hal hvl
    have tfz5:∀ys,¬Rd H5 r0.2.1 (.tup ys):=fun ys z=>by
     have:=sj _ _ zE
     rcases z with z|⟨o,z⟩<;>rw[this]at z<;>cases z
    have hfz:H5 r0.2.1=some (.frz ob2 (.dK (zQ r0.2.2))):=sj _ _ zE
    have hneD:r0.2.1≠D:=yI hfz hD
    have sD:zA H5 (upd H5 D (.lst acc)):=zA.upd1 hD
    refine⟨ob2,by rw[zG hneD];exact hfz,?_⟩
    have s7:zA H4 (upd (upd H5 D (.lst acc)) r0.2.1 (.dK (zQ r0.2.2))):=zA.thaw (sj.trans sD) hr4
    generalize hH7:upd (upd H5 D (.lst acc)) r0.2.1 (.dK (zQ r0.2.2))=H7 at s7
    have hD7:H7 D=some (.lst acc):=by rw[<-hH7,zG hneD.symm,zE]
    have sx7:yC r0.2.1 H5 H7:=by
     rw[<-hH7]
     exact(yC.of sD).trans (yC.refl _).updf
    have hac7:zAs K H7 acc (uR r0.2.2 vv):=by
     refine⟨by rw[zGq hvl.symm];exact hal,fun m x hm=>?_⟩
     obtain⟨x0,v0,em,ev,rfl⟩:=zMw hm
     obtain⟨a,v,h1,h2,h3,h4⟩:=hac m x0 em
     rw[ev]at h2
     cases h2
     have hna:a≠r0.2.1:=fun z=>by rw[z,hfz]at h3;cases h3
     exact⟨a,h1,.of (sx7 _ _ hna h3)⟩
    have hfr7:∀q∈vX r0.2.2 vv,z3 K H7 q.2 (zJ ps r0.1 q.1):=fun q hq=>by
     obtain⟨m,x0,v0,em,ev,rfl⟩:=zMx hq
     obtain⟨a,v,h1,h2,h3,h4⟩:=hac m x0 em
     rw[ev]at h2
     cases h2
     exact sx7.frA tfz5 h4
    refine⟨D,acc,_,rfl,.of hD7,hac7,?_,by rw[zGq hvl.symm];omega,fun rd hrd=>?_⟩
    ·have hnd:(r0.2.2.map (·.1)).Nodup:=by rw[hrow];exact jR ps r0.1
     have e:gq (·.1) (uR r0.2.2 vv)=(r0.2.2.map (·.1)).map tx:=zMv hvl.symm
     rw[e]
     exact fj tx (fun a b hab z=>hab (j6 z)) hnd
    have s8:zA H7 (upd H7 rd (.dK (yN (uR r0.2.2 vv)))):=zA.upd1 hrd
    have hpa7:=s8 _ _ (s7 _ _ hpa4)
    refine⟨_,rfl,_,rfl,pd,_,rfl,qZ.k (k:=Sum.inr (tx r0.1)) hpa7 (by rw[vW,<-aa (f:=(·.1)),hpk,aa,aQ,aZ];omega),?_⟩
    have hnrd:pd≠rd:=yI (s7 _ _ hpa4) hrd
    have knd:(pa.map (·.1)).Nodup:=by
     rw[hpk,eh]
     have h:=(yH ps).nd
     rw[<-r1,aJ]at h
     exact h.sublist (dy _ _)
    have fresh:r0.1∉pa.map (·.1):=fun h1=>by
     rw[hpk]at h1
     have h:=(yH ps).nd
     rw[<-r1,aJ]at h
     have h2:((ra.take (i+1)).map (·.1)).Nodup:=by rw[eh];exact h.sublist (dy _ _)
     rw[etk,aF]at h2
     exact(d6.mp h2).2.2 _ h1 _ (by simp) rfl
    have eput:=gC (fun v:ao×List (S×V)=>V.ref v.1) pa r0.1 (rd,vX r0.2.2 vv) knd
    have eputA:zX pa r0.1 (rd,vX r0.2.2 vv)=pa++[(r0.1,rd,vX r0.2.2 vv)]:=gD pa _ _ fresh
    rw[eputA]at eput
    have sx:yC pd (upd H7 rd (.dK (yN (uR r0.2.2 vv)))) (upd (upd H7 rd (.dK (yN (uR r0.2.2 vv)))) pd (.dK (vG (zT (fun v:ao×List (S×V)=>V.ref v.1) pa) (Sum.inr (tx r0.1)) (V.ref rd)))):=(yC.refl _).updf
    refine hN _ _ ⟨⟨_,_,rfl⟩,fun b u e=>?_,pa++[(r0.1,rd,vX r0.2.2 vv)],?_,?_,fun r hr=>?_⟩
    ·have hb:b≠pd:=fun z=>by rw[z,hpd0]at e;cases e
     exact sx _ _ hb (s8 _ _ (s7 _ _ (sm4 _ _ e)))
    ·rw[zE]
     exact congrArg (fun z=>some (HO.dK z)) eput
    ·rw[aF,hpk,etk,aF];rfl
    ·rcases bt.mp hr with z|z
     ·exact(((hpr4 r z).same s7).same s8).sameX (kI hpa7) sx
     ·have hr2:r=(r0.1,rd,vX r0.2.2 vv):=bf.mp z
      subst hr2
      refine⟨hnrd.symm,?_,?_,fun q hq=>?_⟩
      ·refine sx _ _ hnrd.symm ?_
       rw[zE,<-zGl,zMy]
      ·show gq (·.1) (vX r0.2.2 vv)=_
       rw[zGp hvl.symm,hrow]
      ·exact sx.frA (kI hpa7) ((hfr7 q hq).same s8)
  ·rintro σ H' ⟨⟨x2,x3,rfl⟩,sm,pa,hpa,hpk,hpr⟩
   refine⟨ob,sm _ _ zE,_,rfl,?_⟩
   have sfin:zA H (upd H' d (.dK kvs)):=zA.thaw sm r2
   have hel:(zT (fun v:ao×List (S×Int)=>V.ref v.1) ra).length=ra.length:=vW _ _
   rw[<-hkv,hel,bc]at hpk
   have tfz:∀ys,¬Rd H' d (.tup ys):=fun ys z=>by
    have:=sm _ _ zE
    rcases z with z|⟨o,z⟩<;>rw[this]at z<;>cases z
   refine k pd _ sfin hpd ⟨pa,?_,?_,fun r hr=>?_⟩
   ·rw[hpk,<-r1,aJ];rfl
   ·rw[zG hdpd];exact hpa
   ·obtain⟨h1,h2,h3,h4⟩:=hpr r hr
    have hrd:r.2.1≠d:=fun z=>by
     rw[z]at h2
     rw[sm _ _ zE]at h2;cases h2
    have sx:yC d H' (upd H' d (.dK kvs)):=(yC.refl _).updf
    exact⟨h1,by rw[zG hrd];exact h2,h3,fun q hq=>sx.frA tfz (h4 q hq)⟩
end
theorem tots_le (ps:List (S×S)):∀a:List S,a.Nodup->(a.map (tot ps)).sum<=ps.length:=by
 induction ps with
 |nil=>
  intro a _
  have:∀a:List S,(a.map (tot [])).sum=0:=by
   intro a
   induction a with
   |nil=>rfl
   |cons e a ih=>rw[aC,aO,ih];rfl
  rw[this];exact bD _
 |cons p ps ih=>
  intro a b
  have l:=ih a b
  have go:∀a:List S,a.Nodup->(a.map (tot (p::ps))).sum=(a.map (tot ps)).sum+(if p.1∈a then 1 else 0):=by
   intro a
   induction a with
   |nil=>intro _;rfl
   |cons e a d=>
    intro i
    obtain⟨f,g⟩:=br.mp i
    rw[aC,aO,d g,aC,aO]
    have j:tot (p::ps) e=tot ps e+(if p.1=e then 1 else 0):=by
     unfold tot
     by_cases c:p.1=e
     ·rw[eJ (by simpa using c),if_pos c,aX]
     ·rw[eK (by simpa using c),if_neg c,kf]
    rw[j]
    by_cases c:p.1=e
    ·have h:p.1∉a:=fun z=>f (c▸z)
     rw[if_pos c,if_neg h,if_pos (by rw[c];exact aj ..)]
     omega
    ·rw[if_neg c]
     by_cases c2:p.1∈a
     ·rw[if_pos c2,if_pos (ak _ c2)];omega
     ·rw[if_neg c2,if_neg (fun z=>by rcases aH.mp z with z|z<;>contradiction)];omega
  rw[go a b,aX]
  split<;>omega
theorem zGu {ps:List (S×S)}{U:Int}(h:∀e,(∃l,(e,l)∈ps)->(tot ps e:Int)∣U)(e l:S):(zJ ps e l).2∣U:=by
 unfold zJ
 by_cases c:ps.count (e,l)=0
 ·rw[if_pos c];exact Int.one_dvd _
 ·rw[if_neg c]
  have hm:(e,l)∈ps:=bV.mp (by omega)
  refine dq ?_ (h e ⟨l,hm⟩)
  show(tot ps e:Int)/yA (ps.count (e,l):Int) (tot ps e:Int)∣_
  have a:yA (ps.count (e,l):Int) (tot ps e:Int)∣ (tot ps e:Int):=d7 ..
  exact⟨yA (ps.count (e,l):Int) (tot ps e:Int),(ma a).symm⟩
section
variable{P:aL}{w:aU}{K:ae}{mg:Str->Option ah}{base:bx}
abbrev sCM:cq:=top 37
theorem zND:FnScope ["one","other"] ["one","other"] (defScope sCM):=z7
def zGv:Sp:=fun vs H Q _=>∃u d:Int,vs=[.int u,.int d]/\0<=u/\0<d/\d<1073741824/\Q (.int (u/yA u d*d)) H
theorem zNE {f:ao}{fd:aY}(F:Fun K "common_multiple" "common_multiple" sCM f fd)(c1:zR P w K mg base 1 "greatest_divisor" ["one","other"] zCX):FnOk P w K mg base zY 2 f fd ["one","other"] zGv:=by
 refine F.ok zND (fun vs H Q E h=>?_) (fun b A outer s H vs Q E c h=>?_)
 ·obtain⟨u,d,rfl,_⟩:=h;rfl
 ·obtain⟨u,d,rfl,e,a,g,k⟩:=h
  refine⟨_,zP (zZ (zW uD (zW kR (pv 0) (zM c1 c rfl (zB (pv 0) (zB (pv 1) zD)))) (pv 1))),?_⟩
  have g1:=zAJ (u:=u) a
  have g2:yA u d<=d:=pj a (d7 ..)
  exact⟨_,rfl,_,rfl,_,rfl,u,d,rfl,e,a,g,_,_,rfl,rfl,⟨g1,by omega⟩,_,rfl,_,_,rfl,rfl,.inr ⟨by omega,by omega⟩,k⟩
theorem zNF {u d:Int}(h:0<u)(hd:0<d):0<u/yA u d*d/\u∣u/yA u d*d/\d∣u/yA u d*d/\u/yA u d*d<=u*d:=by
 have g1:=zAJ (u:=u) hd
 obtain⟨a,f⟩:yA u d∣u:=jk ..
 obtain⟨b,g⟩:yA u d∣d:=d7 ..
 have e1:u/yA u d=a:=by
  have:u/yA u d=(yA u d*a)/yA u d:=by rw[<-f]
  rw[this];exact Int.mul_ediv_cancel_left _ (by omega)
 rw[e1]
 have e:0<a:=by
  by_cases c:0<a
  ·exact c
  ·have:yA u d*a<=0:=Int.mul_nonpos_of_nonneg_of_nonpos (by omega) (by omega)
   omega
 refine⟨cx e hd,⟨b,?_⟩,⟨a,dH ..⟩,?_⟩
 ·calc a*d=a*(yA u d*b):=by rw[<-g]
   _=(yA u d*a)*b:=by rw[<-ph,dH a]
   _=u*b:=by rw[<-f]
 ·refine dh ?_ (by omega)
  have:1*a<=yA u d*a:=dh (by omega) (by omega)
  omega
abbrev sWW:cq:=top 38
theorem zGw:FnScope ["rows","unit","row"] ["rows"] (defScope sWW):=z7
def zGx:Sp:=fun vs H Q _=>∃(d:ao) (ps:List (S×S)),vs=[.ref d]/\v6 H d ps/\ps.length<=60/\∀U H',zA H H'->0<U->(∀e l,(zJ ps e l).2∣U)->U<=2^60->Q (.int (U^9)) H'
theorem zGy (t:Nat)(h:0<t):(t:Int)<=2^t:=by
 have a:t<2^t:=Nat.lt_two_pow_self
 have b:((2^t:Nat):Int)=(2:Int)^t:=by simp
 omega
theorem zNG {f:ao}{fd:aY}(F:Fun K "whole_weight" "whole_weight" sWW f fd)(B:Blt mg)(c1:zR P w K mg base 2 "common_multiple" ["one","other"] zGv):FnOk P w K mg base zY 3 f fd ["rows"] zGx:=by
 refine F.ok zGw (fun vs H Q E h=>?_) (fun al A outer s H vs Q E j h=>?_)
 ·obtain⟨d,ps,rfl,_⟩:=h;rfl
 ·obtain⟨d,ps,rfl,⟨ra,N,m,r3⟩,am,k⟩:=h
  have hu:=uM j
  have nd:=zGw.nd
  refine⟨_,zO (z8 (i:=1) nd rfl (Or.inl rfl) zL)
   (zO (gH (v8 bL rfl (zMV (j8 K rfl bI dm fH zKc (pv 0))) (z9 (i:=2) nd rfl (Or.inl rfl))
     (zP (z8 (i:=1) nd rfl (Or.inl rfl) (zM c1 j rfl (zB (pv 1) (zB (yX (zGn rfl) (by rfl) B.sum fg (zB (zGo dm fH zGm (pv 2)) zD)) zD)))))))
   (zP (zZ (zW zJF (pv 1) zL)))),?_⟩
  refine⟨d,_,m,?_⟩
  refine⟨_,rfl,.inr (.inr (.inl ⟨rfl,.inl ⟨_,m⟩⟩)),d,_,rfl,rfl,m,fun p hp=>?_⟩
  have C:zA H (upd H p (uZ p d)):=zA.upd1 hp
  refine⟨p,d,_,rfl,zE,C _ _ m,fun D=>?_⟩
  have T:=zAQ m r3
  generalize G:zT (fun v:ao×List (S×Int)=>V.ref v.1) ra=kvs at m
  have s3:zA (upd H d (.frz D (.dK kvs))) (upd (upd H p (uZ p d)) d (.frz D (.dK kvs))):=fun b u e=>by
   by_cases O:b=d
   ·subst O;rw[zE]at e⊢;exact e
   ·rw[zG O]at e⊢
    exact C _ _ e
  have knd:(ra.map (·.1)).Nodup:=by
   have h:=(yH ps).nd
   rw[<-N,aJ]at h
   exact h
  refine jB (zMS d D kvs) (fun i σ H'=>(∃(U:Int) (W:Option V),σ=[some (.ref d),some (.int U),W]/\0<U/\(∀r∈ra.take i,(tot ps r.1:Int)∣U)/\U<=2^(((ra.take i).map (·.1)).map (tot ps)).sum)/\zA (upd H d (.frz D (.dK kvs))) H')
   ⟨⟨1,_,rfl,by decide,fun r j=>(by cases j),by simp⟩,s3⟩ (fun i σ H' _ h=>h.2 _ _ zE) ?_ ?_
  ·rintro i x σ H' Nx hN n ⟨⟨U,W,rfl,o,g,t⟩,I⟩
   rw[<-G]at n
   unfold zT yN at n
   rw[aq,aq,aq]at n
   cases J:ra[i]? with
   |none=>rw[J]at n;cases n
   |some a=>
   rw[J]at n
   have hx2:x=V.ref a.2.1:=(aw n).symm
   subst hx2
   have c:a∈ra:=aV J
   have hi:i<ra.length:=(ai.mp J).1
   have L:ra.take (i+1)=ra.take i++[a]:=by rw[az hi,(ai.mp J).2]
   have M:=gO N c
   have y:H' a.2.1=some (.dK (zQ a.2.2)):=I _ _ (by rw[zG (T a c)];exact r3 a c)
   refine⟨_,rfl,_,rfl,a.2.1,rfl,.inl ⟨_,.inl y⟩,a.2.1,_,rfl,rfl,.inl y,fun X Y=>?_⟩
   have s5:zA H' (upd H' X (uZ X a.2.1)):=zA.upd1 Y
   refine⟨X,a.2.1,a.2.2.map (fun q=>((Sum.inr (tx q.1):zI),q.2)),rfl,zE,.inl ?_,?_⟩
   ·rw[s5 _ _ y]
    unfold zQ zT yN
    rw[aJ,aJ];rfl
   ·have e1:((a.2.2.map fun q=>((Sum.inr (tx q.1):zI),q.2)).map (·.2)).sum=(tot ps a.1:Int):=by
     rw[aJ,M];exact zFt ps a.1
    rw[e1]
    have Z:0<tot ps a.1:=by
     obtain⟨l,hl⟩:=((yH ps).has a.1).mp ⟨a.2.2,(vA (yH ps).nd _ _).mp (by rw[<-N];exact au.mpr ⟨a,c,rfl⟩)⟩
     have h1:=qK ps a.1 l
     have h2:=bV.mpr hl
     omega
    have an:tot ps a.1<=ps.length:=cb ..
    obtain⟨q1,q2,q3,q4⟩:=zNF o (d:=(tot ps a.1:Int)) (by omega)
    refine⟨U,(tot ps a.1:Int),rfl,by omega,by omega,by omega,hN _ _ ⟨⟨_,_,rfl,q1,fun r j=>?_,?_⟩,I.trans s5⟩⟩
    ·rw[L]at j
     rcases bt.mp j with z|z
     ·exact dq (g r z) q2
     ·rw[bf.mp z];exact q3
    ·rw[L,aF,aF,fJ,lR]
     refine pU q4 ?_
     have h2:=zGy (tot ps a.1) Z
     have e2:(gq (tot ps) (gq (·.1) [a])).sum=tot ps a.1:=by simp
     rw[e2]
     exact eI t h2 (by omega) (Int.pow_nonneg (by decide))
  ·rintro σ H' ⟨⟨U,W,rfl,o,g,t⟩,I⟩
   have ab:(kvs.map fun p=>p.2).length=ra.length:=by rw[aa,<-G];exact vW _ _
   rw[ab,bc]at g t
   have O:U<=2^60:=by
    have h1:=tots_le ps (ra.map (·.1)) knd
    have R:2^((ra.map (·.1)).map (tot ps)).sum<=2^60:=cQ (by decide) (by omega)
    have h4:((2^((ra.map (·.1)).map (tot ps)).sum:Nat):Int)=(2:Int)^((ra.map (·.1)).map (tot ps)).sum:=by simp
    have h5:((2^60:Nat):Int)=(2:Int)^60:=by simp
    have h2:(2:Int)^((ra.map (·.1)).map (tot ps)).sum<=2^60:=by rw[<-h4,<-h5];exact pV.mpr R
    omega
   refine⟨D,I _ _ zE,_,rfl,_,_,rfl,rfl,⟨by decide,by decide,by omega⟩,?_⟩
   refine k U _ (zA.thaw I m) o (zGu fun e ⟨l,hl⟩=>?_) O
   obtain⟨row,ac⟩:=((yH ps).has e).mpr ⟨l,hl⟩
   have R:=(vA (yH ps).nd _ _).mpr ac
   rw[<-N]at R
   obtain⟨r,hr1,hr2⟩:=au.mp R
   have he:r.1=e:=(bW hr2).1
   rw[<-he]
   exact g r hr1
end
theorem zDG {bk:List S}{o:Nat}(a:Bk bk o):(zC o bk).length<=72:=by
 have b:((zC o bk).length:Int)<=72:=by
  rw[zAv]
  have go:∀l:List S,(∀x∈l,x.length<=8)->(l.map fun x=>(x.length:Int)+1).sum<=9*(l.length:Int):=by
   intro l
   induction l with
   |nil=>intro _;simp
   |cons x r ih=>
    intro hl
    have d:=hl x (aj ..)
    have b:=ih fun y c=>hl y (ak _ c)
    rw[aC,aO,aX]
    have:((r.length+1:Nat):Int)=(r.length:Int)+1:=rfl
    omega
  have:=go bk a.l8
  have:=a.hi
  omega
 omega
theorem zDH {o:Nat}{bk:List S}{e l:S}(h:(e,l)∈zC o bk):e.length<=o:=by
 obtain⟨x,_,h⟩:=bb.mp h
 obtain⟨p,_,h⟩:=au.mp h
 rw[<- (bW h).1]
 exact zKy _ _
structure SumsOk (ps:List (S×S)) (ss:List (S×Int)):Prop where
 nd:(ss.map (·.1)).Nodup
 rows:∀p∈ss,∃l,(p.1,l)∈ps
theorem zDI {o:Nat}{bk:List S}{f:S->S->Int×Int}{x:S}{p q:S×Int}(b:q∈vS (z4 (zC o bk)) f o x p):∃l,(q.1,l)∈zC o bk:=by
 obtain⟨l,hl,rfl⟩:=au.mp b
 obtain⟨d,a⟩:=bg.mp hl
 have hm:=(uP _ _ _).mp d
 have e:l≠[]:=fun z=>by
  unfold mf at a
  rw[z]at a;simp at a
 obtain⟨c,rfl⟩:=kA (gJ hm) e
 exact zGO hm
theorem SumsOk.step {o:Nat}{bk:List S}{f:S->S->Int×Int}{ss:List (S×Int)}{x:S}(h:SumsOk (zC o bk) ss):SumsOk (zC o bk) (kG (z4 (zC o bk)) f o ss x):=by
 obtain⟨b,c⟩:=zGW (ss.flatMap (vS (z4 (zC o bk)) f o x))
 refine⟨b,fun p d=>?_⟩
 obtain⟨q,a,e⟩:=au.mp (c p.1 (au.mpr ⟨p,d,rfl⟩))
 obtain⟨g,_,a⟩:=bb.mp a
 rw[<-e]
 exact zDI a
theorem SumsOk.len {ps:List (S×S)}{ss:List (S×Int)}(h:SumsOk ps ss):ss.length<=ps.length:=by
 have a:=gL (ss.map (·.1)) (ps.map (·.1)) h.nd fun e b=>by
  obtain⟨p,c,rfl⟩:=au.mp b
  obtain⟨l,hl⟩:=h.rows p c
  exact au.mpr ⟨_,hl,rfl⟩
 rw[aa,aa]at a
 exact a
def Smf (f:S->S->Int×Int):Prop:=∀e l,0<=(f e l).1/\(f e l).1<1000000/\0<(f e l).2/\(f e l).2<1000000
theorem jC.row {K:ae}{H:Hp}{a:ao}{ps:List (S×S)}{f:S->S->Int×Int}(h:jC K H a ps f){e l:S}(hl:(e,l)∈ps) :
  ∃(ra:ao) (b:List (S×V)),yZ H a (sv e) (some (.ref ra))/\ra≠a/\H ra=some (.dK (zT id b))/\b.map (·.1)=z4 ps e/\∀q∈b,z3 K H q.2 (f e q.1):=by
 obtain⟨d,g,j,m⟩:=h
 have knd:(d.map (·.1)).Nodup:=by rw[g];exact(yH ps).nd
 obtain⟨row,c⟩:=((yH ps).has e).mpr ⟨l,hl⟩
 have n:e∈d.map (·.1):=by rw[g];exact au.mpr ⟨_,(vA (yH ps).nd _ _).mpr c,rfl⟩
 obtain⟨r,i,rfl⟩:=au.mp n
 obtain⟨g1,g2,g3,o⟩:=m r i
 refine⟨r.2.1,r.2.2,?_,g1,g2,g3,o⟩
 have:=yZ.k (k:=Sum.inr (tx r.1)) j
 rw[uO,(vA knd r.1 r.2).mp i]at this
 exact this
theorem zGz {ss:List (S×Int)}{α:Type}{g:α->V}(d:∀a,∃x,g a=V.ref x){b:List (S×α)}(h:zQ ss=zT g b)(e:ss≠[]):False:=by
 cases ss with
 |nil=>exact e rfl
 |cons p ss=>
  cases b with
  |nil=>cases h
  |cons r b=>
   have f:=(jb h).1
   have c:V.int p.2=g r.2:=(bW f).2
   obtain⟨x,i⟩:=d r.2
   rw[i]at c;cases c
section
variable{P:aL}{w:aU}{K:ae}{mg:Str->Option ah}{base:bx}
abbrev zDJ:cq:=top 43
theorem zHA:FnScope ["parts","order","sums","wanted","found","end","weight","letter","part","reached"] ["parts","order","sums","wanted"] (defScope zDJ):=z7
def zHB (K:ae):Sp:=fun vs H Q _=>∃(pd sd:ao) (o:Nat) (bk:List S) (f:S->S->Int×Int) (ss:List (S×Int)) (x:S),vs=[.ref pd,.int o,.ref sd,sv x]/\Bk bk o/\jC K H pd (zC o bk) f/\Smf f/\H sd=some (.dK (zQ ss))/\SumsOk (zC o bk) ss/\
 ∀fo H',zA H H'->H fo=none->H' fo=some (.dK (zQ (kG (z4 (zC o bk)) f o ss x)))->Q (.ref fo) H'
theorem zNH {f:ao}{fd:aY}(F:Fun K "next_sums" "next_sums" zDJ f fd)(cF:zR P w K mg base 1 "may_follow" ["letter","wanted"] zGh)(cEnd:zR P w K mg base 1 "end_of" ["text","order"] zAK)(cL:zR P w K mg base 1 "left_of" ["weight","part"] (zDB K)) :
  FnOk P w K mg base zY 2 f fd ["parts","order","sums","wanted"] (zHB K):=by
 refine F.ok zHA (fun vs H Q E h=>?_) (fun cdv A outer s H vs Q E hr h=>?_)
 ·obtain⟨pd,sd,o,bk,f,ss,x,rfl,_⟩:=h;rfl
 ·obtain⟨pd,sd,o,bk,ff,ss,x,rfl,hb,hP,hS,hsd,hss,k⟩:=h
  have hu:=uM hr
  have nd:=zHA.nd
  refine⟨_,zO (z8 (i:=4) nd rfl (Or.inl rfl) j1)
   (zO (gH (v8 bL rfl (gG (j8 K rfl bI cj cR k5 (pv 2)))
     (jT rfl (vV (z9 (i:=5) nd rfl (Or.inl rfl)) (vV (z9 (i:=6) nd rfl (Or.inl rfl)) jH)))
     (zP (gH (v8 bL rfl (gG (j8 K rfl bI cj cR k5 (kX hu (pv 0) (pv 5) (fun _ _=>rfl))))
      (jT rfl (vV (z9 (i:=7) nd rfl (Or.inl rfl)) (vV (z9 (i:=8) nd rfl (Or.inl rfl)) jH)))
      (zP (vI (uV (zM cF hr rfl (zB (pv 7) (zB (pv 3) zD))))
       (zO (z8 (i:=9) nd rfl (Or.inl rfl) (zM cEnd hr rfl (zB (zW zBe (pv 5) (pv 7)) (zB (pv 1) zD))))
       (zP (zAG hu (pv 4) (pv 9) (zW y9 (zAm hu (pv 4) (pv 9) zL ⟨rfl,rfl,rfl,rfl⟩) (zM cL hr rfl (zB (pv 6) (zB (pv 8) zD)))) rfl)))
       vH)))))))
   (zP (zZ (pv 4)))),?_⟩
  intro fo hfo
  have sH1:zA H (upd H fo (.dK [])):=zA.upd1 hfo
  have hd1:=sH1 _ _ hsd
  have hsfo:fo≠sd:=(yI hsd hfo).symm
  refine⟨sd,_,hd1,?_⟩
  refine⟨_,rfl,.inr (.inr (.inl ⟨rfl,.inl ⟨_,hd1⟩⟩)),sd,_,rfl,rfl,hd1,fun p hp=>?_⟩
  have hpfo:p≠fo:=fun z=>by subst z;rw[zE]at hp;cases hp
  have sH2:zA (upd H fo (.dK [])) (upd (upd H fo (.dK [])) p (VW p sd)):=zA.upd1 hp
  refine⟨p,sd,_,rfl,zE,sH2 _ _ hd1,fun ob=>?_⟩
  generalize hH3:upd (upd (upd H fo (.dK [])) p (VW p sd)) sd (.frz ob (.dK (zQ ss)))=H3
  have s3:zA (upd H sd (.frz ob (.dK (zQ ss)))) H3:=fun b u e=>by
   rw[<-hH3]
   by_cases hb:b=sd
   ·subst hb;rw[zE]at e⊢;exact e
   ·rw[zG hb]at e⊢
    exact sH2 _ _ (sH1 _ _ e)
  have hfo3:H3 fo=some (.dK (zQ [])):=by
   rw[<-hH3,zG hsfo,zG hpfo.symm,zE];rfl
  have hfo0:upd H sd (.frz ob (.dK (zQ ss))) fo=none:=by rw[zG hsfo];exact hfo
  have h72:=zDG hb
  have hsl:=hss.len
  refine zAM (fun i σ H'=>(∃x5 x6 x7 x8 x9:Option V,σ=[some (.ref pd),some (.int o),some (.ref sd),some (sv x),some (.ref fo),x5,x6,x7,x8,x9])/\zA (upd H sd (.frz ob (.dK (zQ ss)))) H'/\H' fo=some (.dK (zQ (vO ((ss.take i).flatMap (vS (z4 (zC o bk)) ff o x))))))
   ⟨⟨_,_,_,_,_,rfl⟩,s3,hfo3⟩ (fun i σ H' _ h=>h.2.1 _ _ zE) ?_ ?_
  ·rintro i q T σ H' Nx hN hq ⟨⟨x5,x6,x7,x8,x9,rfl⟩,sm,hR⟩ hT
   unfold zQ zT yN at hq
   rw[aq,aq]at hq
   cases ei:ss[i]? with
   |none=>rw[ei]at hq;cases hq
   |some p0=>
   rw[ei]at hq
   have hq2:q=(Sum.inr (tx p0.1),V.int p0.2):=(aw hq).symm
   subst hq2
   have hmem:p0∈ss:=aV ei
   have hi:i<ss.length:=(ai.mp ei).1
   have sne:ss≠[]:=fun z=>by rw[z]at hmem;cases hmem
   have etk:(ss.take (i+1)).flatMap (vS (z4 (zC o bk)) ff o x)=(ss.take i).flatMap (vS (z4 (zC o bk)) ff o x)++vS (z4 (zC o bk)) ff o x p0:=by
    rw[az hi,(ai.mp ei).2,ig];simp
   have hCr:∀c∈(ss.take i).flatMap (vS (z4 (zC o bk)) ff o x),∃l,(c.1,l)∈zC o bk:=fun c hc=>by
    obtain⟨p1,_,hc1⟩:=bb.mp hc
    exact zDI hc1
   generalize(ss.take i).flatMap (vS (z4 (zC o bk)) ff o x)=C0 at hR etk hCr
   obtain⟨l0,hl0⟩:=hss.rows p0 hmem
   have hel:p0.1.length<=3:=by have:=zDH hl0;have:=hb.o3;omega
   have pne:pd≠sd:=fun z=>by
    obtain⟨pa,_,h2,_⟩:=hP
    rw[z,hsd]at h2
    exact zGz (fun a=>⟨_,rfl⟩) (HO.dK.inj (aw h2)) sne
   obtain⟨ra,kv,g1,g2,g3,g4,g5⟩:=hP.row hl0
   have rne:ra≠sd:=fun z=>by
    rw[z,hsd]at g3
    have h2:=HO.dK.inj (aw g3)
    cases kv with
    |nil=>exact sne (fE.mp (fE.mp h2))
    |cons q kv=>
     cases ss with
     |nil=>exact sne rfl
     |cons p ss=>
      have h3:=(bW (jb h2).1).2
      obtain⟨a,ha,_⟩:=g5 q (aj ..)
      have h4:V.int p.2=q.2:=h3
      rw[ha]at h4;cases h4
   refine⟨T,[sv p0.1,.int p0.2],rfl,.of zE,rfl,_,_,rfl,_,_,rfl,rfl,?_⟩
   generalize hH4:upd H' T (HO.tup [kV ((Sum.inr (tx p0.1):zI),V.int p0.2).1,((Sum.inr (tx p0.1):zI),V.int p0.2).2])=H4
   have s4:zA H' H4:=by rw[<-hH4];exact zA.upd1 hT
   have sm4:=sm.trans s4
   have at4:∀b u,b≠sd->H b=some u->H4 b=some u:=fun b u hb' e=>sm4 _ _ (by rw[zG hb'];exact e)
   have hra4:=at4 _ _ rne g3
   have hR4:=s4 _ _ hR
   have dg4:yZ H4 pd (sv p0.1) (some (.ref ra)):=by
    rcases g1 with⟨kvs,kk,e1,e2,e3⟩|⟨kvs,kk,b,e1,e2,_⟩
    ·refine .inl ⟨kvs,kk,?_,e2,e3⟩
     rcases e1 with e1|⟨o',e1⟩
     ·exact .inl (at4 _ _ pne e1)
     ·exact .inr ⟨o',at4 _ _ pne e1⟩
    ·cases e2
   have sx4:yC sd H H4:=fun b u hb' e=>at4 b u hb' e
   have fr4:∀q∈kv,z3 K H4 q.2 (ff p0.1 q.1):=fun q hq=>sx4.frA (kI hsd) (g5 q hq)
   have rafo:ra≠fo:=fun z=>by rw[z,hfo]at g3;cases g3
   refine⟨ra,_,hra4,?_⟩
   refine⟨_,rfl,_,rfl,pd,.ref ra,rfl,dg4,.inr (.inr (.inl ⟨rfl,.inl ⟨_,hra4⟩⟩)),ra,_,rfl,rfl,hra4,fun p2 hp2=>?_⟩
   have s5:zA H4 (upd H4 p2 (VW p2 ra)):=zA.upd1 hp2
   refine⟨p2,ra,_,rfl,zE,s5 _ _ hra4,fun ob2=>?_⟩
   generalize hH5:upd (upd H4 p2 (VW p2 ra)) ra (.frz ob2 (.dK (zT id kv)))=H5
   have h5ra:H5 ra=some (.frz ob2 (.dK (zT id kv))):=by rw[<-hH5,zE]
   have sx5:yC ra H4 H5:=fun b u hb' e=>by rw[<-hH5,zG hb'];exact s5 _ _ e
   have hR5:H5 fo=some (.dK (zQ (vO C0))):=sx5 _ _ rafo.symm hR4
   have fr5:∀q∈kv,z3 K H5 q.2 (ff p0.1 q.1):=fun q hq=>sx5.frA (kI hra4) (fr4 q hq)
   have hkl:kv.length<=(zC o bk).length:=by
    have h1:=zBJ (zC o bk) p0.1
    have h2:(kv.map (·.1)).length=((yD (zC o bk) p0.1).map (·.1)).length:=by rw[g4]
    rw[aa,aa]at h2
    omega
   refine zAM (fun j σ H6=>(∃x7 x8 x9:Option V,σ=[some (.ref pd),some (.int o),some (.ref sd),some (sv x),some (.ref fo),some (sv p0.1),some (.int p0.2),x7,x8,x9])/\yC fo H5 H6/\
     H6 fo=some (.dK (zQ (vO (C0++(((z4 (zC o bk) p0.1).take j).filter (mf x)).map fun l=>(zF (p0.1++l) o,zV p0.2 (ff p0.1 l)))))))
    ⟨⟨_,_,_,rfl⟩,yC.refl _,by simpa using hR5⟩ (fun j σ H6 _ h=>h.2.1 _ _ rafo h5ra) ?_ ?_
   ·rintro j q T2 σ H6 Nx2 hN2 hq ⟨⟨x7,x8,x9,rfl⟩,sx,hR6⟩ hT2
    unfold zT yN at hq
    rw[aq,aq]at hq
    cases el:kv[j]? with
    |none=>rw[el]at hq;cases hq
    |some q0=>
    rw[el]at hq
    have hq2:q=(Sum.inr (tx q0.1),q0.2):=(aw hq).symm
    subst hq2
    have hqm:q0∈kv:=aV el
    have hnx:(z4 (zC o bk) p0.1)[j]?=some q0.1:=by rw[<-g4,aq,el];rfl
    have hj:j<(z4 (zC o bk) p0.1).length:=(ai.mp hnx).1
    have hlm:q0.1∈z4 (zC o bk) p0.1:=aV hnx
    have hl1:q0.1.length<=1:=gJ ((uP _ _ _).mp hlm)
    have etk2:(z4 (zC o bk) p0.1).take (j+1)=(z4 (zC o bk) p0.1).take j++[q0.1]:=by
     rw[az hj,(ai.mp hnx).2]
    refine⟨T2,[sv q0.1,q0.2],rfl,.of zE,rfl,_,_,rfl,_,_,rfl,rfl,?_⟩
    generalize hH7:upd H6 T2 (HO.tup [kV ((Sum.inr (tx q0.1):zI),q0.2).1,((Sum.inr (tx q0.1):zI),q0.2).2])=H7
    have s7:zA H6 H7:=by rw[<-hH7];exact zA.upd1 hT2
    refine⟨_,rfl,_,rfl,q0.1,x,rfl,fun H8 s8=>⟨mf x q0.1,rfl,?_⟩⟩
    have s78:=s7.trans s8
    have hR8:=s78 _ _ hR6
    have sx8:yC fo H5 H8:=sx.trans (yC.of s78)
    refine zKL (fun hm=>?_) (fun hm=>?_)
    ·have hcl:(tx p0.1).length+(tx q0.1).length<=sizeLine:=by rw[yL,yL,aZ];omega
     have hll:(p0.1++q0.1).length<=64:=by rw[aI];omega
     refine⟨_,rfl,_,rfl,tx p0.1,tx q0.1,rfl,rfl,hcl,_,rfl,p0.1++q0.1,o,by rw[zCr];rfl,hb.o1,hll,?_⟩
     generalize hLL:C0++(((z4 (zC o bk) p0.1).take j).filter (mf x)).map (fun l=>(zF (p0.1++l) o,zV p0.2 (ff p0.1 l)))=LL at hR8
     have hLr:∀c∈LL,∃l,(c.1,l)∈zC o bk:=fun c hc=>by
      rw[<-hLL]at hc
      rcases bt.mp hc with z|z
      ·exact hCr c z
      ·obtain⟨l,hl,rfl⟩:=au.mp z
       obtain⟨z1,z2⟩:=bg.mp hl
       exact zDI (f:=ff) (x:=x) (p:=p0) (au.mpr ⟨l,bg.mpr ⟨du z1,z2⟩,rfl⟩)
     obtain⟨knd,ksub⟩:=zGW LL
     have hal:(vO LL).length<=(zC o bk).length:=by
      have h1:=gL ((vO LL).map (·.1)) ((zC o bk).map (·.1)) knd fun e he=>by
       obtain⟨c,hc,rfl⟩:=au.mp (ksub e he)
       obtain⟨l,hl⟩:=hLr c hc
       exact au.mpr ⟨_,hl,rfl⟩
      rw[aa,aa]at h1
      exact h1
     have fr8:z3 K H8 q0.2 (ff p0.1 q0.1):=sx8.frA (kI hR5) (fr5 q0 hqm)
     obtain⟨b1,b2,b3,b4⟩:=hS p0.1 q0.1
     refine⟨_,rfl,fo,rfl,.inl ⟨_,.inl hR8⟩,_,rfl,_,yZ.k (k:=Sum.inr (tx (zF (p0.1++q0.1) o))) hR8,_,rfl,_,rfl,p0.2,q0.2,ff p0.1 q0.1,rfl,fr8,b1,b2,b3,b4,?_⟩
     refine⟨(zK (vO LL) (zF (p0.1++q0.1) o)).getD 0,_,?_,rfl,?_⟩
     ·show(yY (zT V.int (vO LL)) _).getD (V.int 0)=_
      rw[uO]
      cases zK (vO LL) (zF (p0.1++q0.1) o)<;>rfl
     refine⟨_,rfl,_,rfl,fo,_,rfl,qZ.k (k:=Sum.inr (tx (zF (p0.1++q0.1) o))) hR8 (by show(zT V.int (vO LL)).length<_;rw[vW,aZ];omega),hN2 _ _ ⟨⟨_,_,_,rfl⟩,sx8.updf,?_⟩⟩
     rw[zE]
     have e1:=gC V.int (vO LL) (zF (p0.1++q0.1) o) ((zK (vO LL) (zF (p0.1++q0.1) o)).getD 0+zV p0.2 (ff p0.1 q0.1)) knd
     refine congrArg (fun z=>some (HO.dK z)) (e1.trans ?_)
     have e2:C0++(((z4 (zC o bk) p0.1).take (j+1)).filter (mf x)).map (fun l=>(zF (p0.1++l) o,zV p0.2 (ff p0.1 l)))=LL++[(zF (p0.1++q0.1) o,zV p0.2 (ff p0.1 q0.1))]:=by
      rw[etk2,fK,aF,<-dZ,hLL]
      simp[hm]
     rw[e2]
     unfold vO
     rw[cg]
     rfl
    ·have hm':mf x q0.1=false:=by simpa using hm
     refine hN2 _ _ ⟨⟨_,_,_,rfl⟩,sx8,?_⟩
     rw[etk2,fK]
     simpa [hm']using hR8
   ·rintro σ H6 ⟨⟨x7,x8,x9,rfl⟩,sx,hR6⟩
    refine⟨ob2,sx _ _ rafo h5ra,hN _ _ ⟨⟨_,_,_,_,_,rfl⟩,fun c u e=>?_,?_⟩⟩
    ·have hcf:c≠fo:=fun z=>by rw[z,hfo0]at e;cases e
     have e4:=sm4 _ _ e
     by_cases hc:c=ra
     ·subst hc
      rw[zE,<-e4,hra4]
     ·rw[zG hc]
      exact sx _ _ hcf (sx5 _ _ hc e4)
    ·rw[zG rafo.symm]
     have e1:(zT id kv).length=(z4 (zC o bk) p0.1).length:=by
      rw[vW,<-g4,aa]
     rw[e1,bc]at hR6
     rw[etk]
     exact hR6
  ·rintro σ H' ⟨⟨x5,x6,x7,x8,x9,rfl⟩,sm,hR⟩
   refine⟨ob,sm _ _ zE,_,rfl,?_⟩
   have sfin:zA H (upd H' sd (.dK (zQ ss))):=zA.thaw sm hsd
   refine k fo _ sfin hfo ?_
   rw[zG hsfo]
   have e1:(zQ ss).length=ss.length:=vW _ _
   rw[e1,bc]at hR
   exact hR
end
theorem zNI {ys:St}(h:ys.length=2):∃y z,ys=[y,z]:=by
 match ys,h with
 | [y,z],_=>exact⟨y,z,rfl⟩
theorem zHC {o:Nat}{bk:List S}(a:Bk bk o):∃l,(([]:S),l)∈zC o bk:=by
 have b:=a.lo
 match bk,b with
 |x::bk,_=>
  refine⟨(x.drop 0).take 1,bb.mpr ⟨x,aj ..,au.mpr ⟨0,bz.mpr (by omega),?_⟩⟩⟩
  rw[om]
  have:zF ([]:S) o=[]:=by unfold zF;simp
  rw[this]
def vY (ps:List (S×S))(f:S->S->Int×Int)(e:S):Int×Int:=if(e,[])∈ps then f e []else(0,1)
theorem zNJ {o:Nat}{bk:List S}(a:Bk bk o)(wt:Int):SumsOk (zC o bk) [([],wt)]:=by
 refine⟨by simp,fun p b=>?_⟩
 rw[bf.mp b]
 exact zHC a
section
variable{P:aL}{w:aU}{K:ae}{mg:Str->Option ah}{base:bx}
abbrev zDK:cq:=top 44
theorem zHD:FnScope ["parts","order","weight","pattern","sums","wanted"] ["parts","order","weight","pattern"] (defScope zDK):=z7
theorem zHE:(["parts","end","heavy"]:List Str).Nodup:=by decide+kernel
def zDL (K:ae):Sp:=fun vs H Q _=>∃(pd pl:ao) (o:Nat) (bk:List S) (f:S->S->Int×Int) (wt:Int) (pat:List S),vs=[.ref pd,.int o,.int wt,.ref pl]/\Bk bk o/\jC K H pd (zC o bk) f/\Smf f/\H pl=some (.lst (pat.map sv))/\pat.length<=900/\
 ∀H',zA H H'->Q (.int (tots (fun e h=>zV h (vY (zC o bk) f e)) (Ss (z4 (zC o bk)) f o wt pat))) H'
theorem zNK {f:ao}{fd:aY}(F:Fun K "sum_along" "sum_along" zDK f fd)(B:Blt mg)(C:Cst2 K mg)(cN:zR P w K mg base 2 "next_sums" ["parts","order","sums","wanted"] (zHB K))(cL:zR P w K mg base 1 "left_of" ["weight","part"] (zDB K)) :
  FnOk P w K mg base zY 3 f fd ["parts","order","weight","pattern"] (zDL K):=by
 obtain⟨aN,hN,tN⟩:=C.nought
 refine F.ok zHD (fun vs H Q E h=>?_) (fun cdv A outer s H vs Q E hr h=>?_)
 ·obtain⟨pd,pl,o,bk,f,wt,pat,rfl,_⟩:=h;rfl
 ·obtain⟨pd,pl,o,bk,ff,wt,pat,rfl,hb,hP,hS,hpl,hpn,k⟩:=h
  have hu:=uM hr
  have nd:=zHD.nd
  have r1:=hr.mono (j:=1) (by decide)
  refine⟨_,zO (z8 (i:=4) nd rfl (Or.inl rfl) (zMu u9 (pv 2)))
   (zO (v8 bL rfl (qC (pv 3)) (z9 (i:=5) nd rfl (Or.inl rfl))
     (zP (z8 (i:=4) nd rfl (Or.inl rfl) (zM cN hr rfl (zB (pv 0) (zB (pv 1) (zB (pv 4) (zB (pv 5) zD))))))))
   (zP (zZ (yX (zFQ rfl) (by rfl) B.sum fg (zB
    (zAL (vM (N:=["parts","end","heavy"]) (caps:=[0]) rfl (vF (by kernel_rfl)) (gG (j8 K rfl bI cj cR k5 (pv 4)))
     (fun cl X s H ex=>zFu K 2 rfl rfl (vV (z9 (i:=1) zHE rfl (Or.inl rfl)) (vV (z9 (i:=2) zHE rfl (Or.inl rfl)) jH)) rfl rfl) (fun cl X s H ex=>uY)
     (fun cl X s H ex=>zM cL r1 rfl (zB (pv 2) (zB (zAm hu (kX hu (pv 0) (pv 1) (fun _ _=>rfl)) u9 (v7 (v:=.ref aN) (by rfl) hN rfl) ⟨rfl,rfl,rfl,rfl⟩) zD))))) zD))))),?_⟩
  intro sd0 hsd0
  have u0:zA H (upd H sd0 (.dK [])):=zA.upd1 hsd0
  refine⟨_,rfl,zE,Sum.inr (tx []),rfl,?_⟩
  have hs0:upd (upd H sd0 (.dK [])) sd0 (.dK [((Sum.inr (tx []):zI),V.int wt)]) sd0=some (.dK (zQ [([],wt)])):=by rw[zE];rfl
  have u1:zA H (upd (upd H sd0 (.dK [])) sd0 (.dK [((Sum.inr (tx []):zI),V.int wt)])):=fun b u e=>by
   rw[zG (yI e hsd0)];exact u0 _ _ e
  generalize upd (upd H sd0 (.dK [])) sd0 (.dK [((Sum.inr (tx []):zI),V.int wt)])=H1 at hs0 u1
  refine⟨_,rfl,pl,rfl,⟨_,.of (u1 _ _ hpl)⟩,?_⟩
  refine jB (qI K pl (pat.map sv)) (fun i σ H'=>∃(sd:ao) (x5:Option V),σ=[some (.ref pd),some (.int o),some (.int wt),some (.ref pl),some (.ref sd),x5]/\H' sd=some (.dK (zQ (Ss (z4 (zC o bk)) ff o wt (pat.take i))))/\SumsOk (zC o bk) (Ss (z4 (zC o bk)) ff o wt (pat.take i))/\zA H H')
   ⟨sd0,_,rfl,hs0,zNJ hb wt,u1⟩ (fun i σ H' _ h=>.of (h.choose_spec.choose_spec.2.2.2 _ _ hpl)) ?_ ?_
  ·rintro i y σ H' Nx hNx hy ⟨sd,x5,rfl,hsd,hok,sm⟩
   rw[aq]at hy
   cases ei:pat[i]? with
   |none=>rw[ei]at hy;cases hy
   |some wd=>
   rw[ei]at hy
   have hy2:y=sv wd:=(aw hy).symm
   subst hy2
   have hi:i<pat.length:=(ai.mp ei).1
   have etk:pat.take (i+1)=pat.take i++[wd]:=by rw[az hi,(ai.mp ei).2]
   refine⟨_,rfl,_,rfl,_,rfl,_,rfl,pd,sd,o,bk,ff,_,wd,rfl,hb,hP.same sm,hS,hsd,hok,fun fo H2 s2 hfo h2=>hNx _ _ ⟨fo,_,rfl,?_,?_,sm.trans s2⟩⟩
   ·rw[etk,zGX];exact h2
   ·rw[etk,zGX];exact hok.step
  ·rintro σ H' ⟨sd,x5,rfl,hsd,hok,sm⟩
   rw[aa,bc]at hsd hok
   have hres:=fun H2 (s2:zA H' H2)=>k H2 (sm.trans s2)
   have hP':=hP.same sm
   generalize Ss (z4 (zC o bk)) ff o wt pat=ss at hsd hok hres
   refine⟨sd,_,hsd,?_⟩
   refine⟨_,rfl,.inr (.inr (.inl ⟨rfl,.inl ⟨_,hsd⟩⟩)),sd,_,rfl,rfl,hsd,fun p hp=>?_⟩
   have s1:zA H' (upd H' p (VW p sd)):=zA.upd1 hp
   refine⟨p,sd,_,rfl,zE,s1 _ _ hsd,fun ob=>?_⟩
   have h72:=zDG hb
   have hsl:=hok.len
   have hlen:(zQ ss).length=ss.length:=vW _ _
   generalize hH2:upd (upd H' p (VW p sd)) sd (.frz ob (.dK (zQ ss)))=H2
   have s2:zA (upd H' sd (.frz ob (.dK (zQ ss)))) H2:=fun b u e=>by
    rw[<-hH2]
    by_cases hb':b=sd
    ·subst hb';rw[zE]at e⊢;exact e
    ·rw[zG hb']at e⊢
     exact s1 _ _ e
   refine zMR [some (.ref pd)] 2 (by rw[hlen];omega) (fun i acc H3=>zA (upd H' sd (.frz ob (.dK (zQ ss)))) H3/\acc=((ss.take i).map fun q=>zV q.2 (vY (zC o bk) ff q.1)).map V.int)
    ⟨s2,rfl⟩ (fun i acc H3 _ h=>⟨h.1 _ _ zE,by rw[h.2,aa,aa,aQ];omega⟩) ?_ ?_
   ·rintro i q T acc H3 ys Nx2 hN2 hq hy ⟨sm3,rfl⟩ hT
    obtain⟨y1,y2,rfl⟩:=zNI hy
    unfold zQ zT yN at hq
    rw[aq,aq]at hq
    cases ei:ss[i]? with
    |none=>rw[ei]at hq;cases hq
    |some p0=>
    rw[ei]at hq
    have hq2:q=(Sum.inr (tx p0.1),V.int p0.2):=(aw hq).symm
    subst hq2
    have hmem:p0∈ss:=aV ei
    have hi:i<ss.length:=(ai.mp ei).1
    have etk:ss.take (i+1)=ss.take i++[p0]:=by rw[az hi,(ai.mp ei).2]
    have sne:ss≠[]:=fun z=>by rw[z]at hmem;cases hmem
    obtain⟨l0,hl0⟩:=hok.rows p0 hmem
    have pne:pd≠sd:=fun z=>by
     obtain⟨pa,_,h2,_⟩:=hP'
     rw[z,hsd]at h2
     exact zGz (fun a=>⟨_,rfl⟩) (HO.dK.inj (aw h2)) sne
    obtain⟨ra,kv,g1,g2,g3,g4,g5⟩:=hP'.row hl0
    have rne:ra≠sd:=fun z=>by
     rw[z,hsd]at g3
     have h2:=HO.dK.inj (aw g3)
     cases kv with
     |nil=>exact sne (fE.mp (fE.mp h2))
     |cons q kv=>
      cases ss with
      |nil=>exact sne rfl
      |cons p ss=>
       have h3:=(bW (jb h2).1).2
       obtain⟨a,ha,_⟩:=g5 q (aj ..)
       have h4:V.int p.2=q.2:=h3
       rw[ha]at h4;cases h4
    refine⟨T,[sv p0.1,.int p0.2],rfl,.of zE,rfl,_,_,rfl,_,_,rfl,rfl,?_⟩
    generalize hH4:upd H3 T (HO.tup [kV ((Sum.inr (tx p0.1):zI),V.int p0.2).1,((Sum.inr (tx p0.1):zI),V.int p0.2).2])=H4
    have s4:zA H3 H4:=by rw[<-hH4];exact zA.upd1 hT
    have sm4:=sm3.trans s4
    have at4:∀b u,b≠sd->H' b=some u->H4 b=some u:=fun b u hb' e=>sm4 _ _ (by rw[zG hb'];exact e)
    have hra4:=at4 _ _ rne g3
    have dg4:yZ H4 pd (sv p0.1) (some (.ref ra)):=by
     rcases g1 with⟨kvs,kk,e1,e2,e3⟩|⟨kvs,kk,b,e1,e2,_⟩
     ·refine .inl ⟨kvs,kk,?_,e2,e3⟩
      rcases e1 with e1|⟨o',e1⟩
      ·exact .inl (at4 _ _ pne e1)
      ·exact .inr ⟨o',at4 _ _ pne e1⟩
     ·cases e2
    have sx4:yC sd H' H4:=fun b u hb' e=>at4 b u hb' e
    have knd:(kv.map (·.1)).Nodup:=by rw[g4];exact jR _ _
    obtain⟨v,hv,fv,bv⟩:∃v,(yY (zT id kv) (Sum.inr (tx []))).getD (.ref aN)=v/\z3 K H4 v (vY (zC o bk) ff p0.1)/\(0<=(vY (zC o bk) ff p0.1).1/\(vY (zC o bk) ff p0.1).1<1000000/\0<(vY (zC o bk) ff p0.1).2/\(vY (zC o bk) ff p0.1).2<1000000):=by
     refine⟨_,rfl,?_,?_⟩
     ·rw[uO]
      unfold vY
      by_cases c:(p0.1,[])∈zC o bk
      ·rw[if_pos c]
       have h1:([]:S)∈kv.map (·.1):=by rw[g4];exact(uP _ _ _).mpr c
       obtain⟨q,hq,e⟩:=au.mp h1
       have h2:zK kv []=some q.2:=(vA knd _ _).mp (by rw[<-e];exact hq)
       rw[h2]
       have h3:=g5 q hq
       rw[e]at h3
       exact sx4.frA (kI hsd) h3
      ·rw[if_neg c]
       have h2:zK kv []=none:=by
        cases e:zK kv []with
        |none=>rfl
        |some v=>
         exfalso
         have h3:=(vA knd _ _).mpr e
         exact c ((uP _ _ _).mp (by rw[<-g4];exact au.mpr ⟨_,h3,rfl⟩))
       rw[h2]
       exact⟨aN,rfl,tN _⟩
     ·unfold vY
      split
      ·exact hS _ _
      ·decide
    refine⟨_,rfl,_,rfl,_,rfl,pd,.ref ra,rfl,dg4,ra,rfl,.inl ⟨_,.inl hra4⟩,_,yZ.k (k:=Sum.inr (tx [])) hra4,p0.2,v,vY (zC o bk) ff p0.1,?_,fv,bv.1,bv.2.1,bv.2.2.1,bv.2.2.2,?_⟩
    ·rw[<-hv];rfl
    ·refine hN2 _ _ [some (sv p0.1),some (.int p0.2)] rfl ⟨sm4,?_⟩
     rw[etk,aF,aF];rfl
   ·rintro acc H3 ⟨sm3,rfl⟩ D hD
    rw[hlen,bc]
    have hfz:=sm3 _ _ zE
    have hneD:sd≠D:=yI hfz hD
    have sD:zA H3 (upd H3 D (.lst ((ss.map fun q=>zV q.2 (vY (zC o bk) ff q.1)).map V.int))):=zA.upd1 hD
    refine⟨ob,by rw[zG hneD];exact hfz,?_⟩
    have s7:zA H' (upd (upd H3 D (.lst ((ss.map fun q=>zV q.2 (vY (zC o bk) ff q.1)).map V.int))) sd (.dK (zQ ss))):=zA.thaw (sm3.trans sD) hsd
    refine⟨D,_,rfl,.of (by rw[zG hneD.symm,zE]),?_⟩
    exact hres _ s7
end
end Kn.Ln
end
section
namespace L2
open PySem PySem.Spec PyProof.Rows
def zDM (lo c:Int)(n:Nat):It:=⟨fun i _=>i<n,fun i H x H'=>H'=H/\x=.int (lo+(i:Int)*c),fun i _=>n<=i⟩
theorem zNL (lo c:Int)(n:Nat):Known (zDM lo c n) ((ba n).map fun(i:Nat)=>V.int (lo+(i:Int)*c)) (fun _=>True) :=
 ⟨fun i H _ hi=>by show i<n;simpa using hi,fun i H x H' _ y=>⟨y.1,fun hi=>by
  have a:i<n:=by simpa using hi
  rw[aq,dE a,y.2];rfl⟩,fun H _=>by show n<=_;simp⟩
theorem zNM {P:aL}{w:aU}{K:ae}{B:bO}(a:ao)(lo c:Int)(n:Nat):Turn P w K B (zDM lo c n) [a] a (fun i h=>lD h a (lo+(i:Nat)*c) ((n:Int)- (i:Nat)) c) where
 mem:=by simp
 obj:=fun i h st b f=>by
  have e:b=a:=by simpa using f
  subst e
  exact⟨_,st,fun v z=>by
   have C:Data.fields _=Data.cell v:=z
   cases C⟩
 keep:=fun i h h' st k=>k a (by simp) _ st
 item:=by
  intro X l m p q i d s σ H E I j st r
  subst l m p
  obtain⟨u,f1,f2,x,y,A⟩:=j a (by simp)
  have W:=p5 (prog:=X.prog) (w:=X.w) (I.ok.hd q) a lo c n
  refine W.item i s _ _ r st fun v h' tk D g F=>?_
  obtain⟨t,rfl⟩:=D
  have G:Inv X d σ H {s with heap:=h',toks:=tk}:=I.turned (fun b o f e=>F b o (by simpa using f) e) u f1 x y A
  exact⟨_,rfl,jU (s:={s with heap:=h',toks:=tk}) (n :="range_iterator") g rfl rfl (by decide) ⟨.int (lo+i*c),H,G,⟨t,rfl⟩,⟨rfl,rfl⟩,g,fun b f=>(j b f).1⟩⟩
 done:=by
  intro X l m p q i d s σ H E I j st r
  subst l m p
  obtain⟨u,f1,f2,x,y,A⟩:=j a (by simp)
  exact jt (I.ok.hd q) st (by have:n<=i:=r;omega) fun h' J=>⟨rfl,I.turned (t':=s.toks) (fun b o f e=>J b o f e) u f1 x y A⟩
 self:=fun _ _ _ _ _ st h=>ju st h
section
variable{X:Cx}{tg:bO}
theorem zHF (a b:Int):eA a b (-1)=((a-b).toNat:Int):=by
 unfold eA
 rw[if_neg (by decide)]
 split
 ·have:(a-b-1)/ (-(-1:Int))=a-b-1:=by show(a-b-1)/1=_;exact Int.ediv_one _
  rw[this];omega
 ·omega
theorem zNN {a b:Int}(e:-1000<=a)(c:a<1000)(f:-1000<=b)(d:b<1000):md a b (-1)=true:=by
 unfold md
 rw[zHF]
 simp only[nV,bH,nQ,decide_eq_true_eq,beq_iff_eq]
 refine⟨by omega,.inr ?_⟩
 rw[if_neg (by decide)]
 simp only[bH,decide_eq_true_eq]
 omega
def zNO (ta:TA):TI:=fun σ H R=>ta σ H fun vs H1=>∃i j:Int,vs=[.int i,.int j,.int (-1)]/\(-1000<=i/\i<1000/\-1000<=j/\j<1000)/\R (zDM i (-1) (i-j).toNat) H1
theorem zNP {a b c:bO}{w:TA}{p pos:Pos}(y:Gl X "range")(hm:X.mg "range"=none)(z:PA X [a,b,c] w)(A:starEach [a,b,c] X.env=[(false,eval a X.env),(false,eval b X.env),(false,eval c X.env)]:=by rfl)(l:starEach [b,c] X.env=[(false,eval b X.env),(false,eval c X.env)]:=by rfl) :
  PI X tg (.Call (.Name "range" p) [a,b,c] [] pos) (zNO w):=by
 intro f s σ H R I h
 refine Call_ (qA I y hm n0 (cc (zH (z pos f s σ H _ I h) fun M g ⟨vs,x,B,C,n⟩=>?_) (by rw[A,l]) (by rw[l];rfl)))
 obtain⟨i,j,e,⟨n,D,E,F⟩,q⟩:=n
 subst e
 cases C with
 |cons r m=>
  cases m with
  |cons G m=>
   cases m with
   |cons u m=>
   cases m
   obtain⟨t,rfl⟩:=r
   obtain⟨t',rfl⟩:=G
   obtain⟨d,rfl⟩:=u
   refine call_range_3 (by decide) ?_ (.inl (jv (by decide)))
   refine mx (p6 ..) (zNN n D E F) ?_
   have v:Inv X f σ x {g with heap:=g.heap.push {cls:=.type "range",data:=.fields #[.int i t,.int j t',.int (-1) d]},toks:=g.toks}:=B.kept fun b o e=>ag _ e
   refine⟨(g.heap.push {cls:=.type "range",data:=.fields #[.int i t,.int j t',.int (-1) d]}).objs.size,[(g.heap.push {cls:=.type "range",data:=.fields #[.int i t,.int j t',.int (-1) d]}).objs.size],_,_,x,rfl,
    v.kept (t':=g.toks) fun b o e=>ag _ e,zNM _ i (-1) (i-j).toNat,?_,fun b J=>?_,q⟩
   ·have e1:i+((0:Nat):Int)*(-1)=i:=by simp
    have L:(((i-j).toNat:Nat):Int)- ((0:Nat):Int)=eA i j (-1):=by rw[zHF];omega
    show lD _ _ (i+((0:Nat):Int)*(-1)) ((((i-j).toNat:Nat):Int)- ((0:Nat):Int)) (-1)
    rw[e1,L]
    exact aB _ rfl
   ·have e:b=(g.heap.push {cls:=.type "range",data:=.fields #[.int i t,.int j t',.int (-1) d]}).objs.size:=by simpa using J
    subst e
    exact v.fpOk (ay _) (v.hok.fresh (ay _))
end
end L2
end
section
namespace Kn.Ln
open PySem L2 Kn
theorem zNQ {X:Cx}(a:ae)(b:X.K=a):yB X (compareOp .In) (rIn a false):=by
 subst b
 exact zEi
theorem zDN {X:Cx}(a:ae)(b:X.K=a):yB X (compareOp .NotIn) (rIn a true):=by
 subst b
 exact zJg
theorem zDO {α:Type}(p:α->Bool)(l:List α)(a:α)(h:p a=true):(l++[a]).filter p=l.filter p++[a]:=by
 rw[fK];simp[h]
theorem zBN {α:Type}(p:α->Bool)(l:List α)(a:α)(h:p a=false):(l++[a]).filter p=l.filter p:=by
 rw[fK];simp[h]
section
variable{P:aL}{w:aU}{K:ae}{mg:Str->Option ah}{base:bx}
abbrev sLT:cq:=top 52
theorem zNR:FnScope ["row","end","order","targets"] ["row","end","order","targets"] (defScope sLT):=z7
theorem zNS:(["end","order","targets","letter"]:List Str).Nodup:=by decide+kernel
abbrev towB (o:Nat)(e:S)(T:List S)(l:S):Bool:=decide (l≠[])&&decide (zF (e++l) o∈T)
def zDP:Sp:=fun vs H Q _=>∃(ra tl:ao) (e:S) (o:Nat) (bk T:List S),vs=[.ref ra,sv e,.int o,.ref tl]/\Bk bk o/\(zC o bk).length<64/\H ra=some (.dK (zQ (yD (zC o bk) e)))/\e.length<=3/\H tl=some (.lst (T.map sv))/\
 ∀(l:ao) (out:List S) (H':Hp),zA H H'->H l=none->H' l=some (.lst (out.map sv))->out.Pairwise (· < ·)->(∀x,x∈out↔x≠[]/\(e,x)∈zC o bk/\zF (e++x) o∈T)->Q (.ref l) H'
theorem zNT {f:ao}{fd:aY}(F:Fun K "letters_towards" "letters_towards" sLT f fd)(B:Blt mg)(u:zR P w K mg base 1 "end_of" ["text","order"] zAK):FnOk P w K mg base zY 2 f fd ["row","end","order","targets"] zDP:=by
 refine F.ok zNR (fun vs H Q E h=>?_) (fun ac A outer s H vs Q E hr h=>?_)
 ·obtain⟨ra,J,e,o,bk,T,rfl,_⟩:=h;rfl
 ·obtain⟨ra,J,e,o,bk,T,rfl,hb,al,L,am,M,k⟩:=h
  have hu:=uM hr
  refine⟨_,zP (zZ (vM (N:=["end","order","targets","letter"]) (caps:=[1,2,3]) rfl (vF (by kernel_rfl)) (qC (yX (zKl rfl) (by rfl) B.sorted fI (zB (pv 0) zD)))
   (fun cl X s H ex=>z9 (i:=3) zNS rfl (Or.inl rfl)) (fun cl X s H ex=>q8 (PW.pt (zBZ (yS zAB (pv 3) u9 (yQ _)) (zBY (yS (zNQ K rfl) (zM u hr rfl (zB (zW zBe (pv 0) (pv 3)) (zB (pv 1) zD))) (pv 2) (by with_unfolding_all rfl))))))
   (fun cl X s H ex=>pv 3))),?_⟩
  have g:(((yD (zC o bk) e).map fun p=>(tx p.1,V.int p.2)).map (·.1))=(z4 (zC o bk) e).map tx:=by rw[aJ,aJ];rfl
  have O:(((yD (zC o bk) e).map fun p=>(tx p.1,V.int p.2)).map (·.1)).Nodup:=by
   rw[g]
   exact fj tx (fun a b R z=>R (j6 z)) (jR _ _)
  have U:(yD (zC o bk) e).length<64:=by have:=zBJ (zC o bk) e;omega
  refine⟨_,rfl,ra,(yD (zC o bk) e).map (fun p:S×Int=>(tx p.1,V.int p.2)),rfl,L,O,by rw[aa];exact U,fun out l j v hl=>?_⟩
  rw[g]at j
  have d:(out.map fun x=>x.cps.toList).Perm (z4 (zC o bk) e):=by
   have:=j.map fun x:Str=>x.cps.toList
   rw[aJ]at this
   have e1:(z4 (zC o bk) e).map ((fun x:Str=>x.cps.toList) ∘ tx)=z4 (zC o bk) e:=by
    conv=>rhs;rw[<-nJ (z4 (zC o bk) e)]
    apply bT
    intro x _
    exact qL x
   rw[e1]at this
   exact this
  have m:(out.map fun x=>x.cps.toList).Pairwise (· < ·):=cf.mpr v
  have r:out=(out.map fun x=>x.cps.toList).map tx:=(zMH out).symm
  generalize(out.map fun x=>x.cps.toList)=os at d m r
  subst r
  have an:os.length<64:=by have:=d.length_eq;rw[aa]at this;omega
  have I:zA H (upd H l (.lst ((os.map tx).map V.str))):=zA.upd1 hl
  refine⟨l,rfl,⟨_,.of zE⟩,?_⟩
  have C:upd H l (.lst ((os.map tx).map V.str)) l=some (.lst ((os.map tx).map V.str)):=zE
  have t:=I _ _ M
  generalize upd H l (.lst ((os.map tx).map V.str))=H6 at C t I
  refine j4 (qI K l ((os.map tx).map V.str)) [some (sv e),some (.int o),some (.ref J)] 1 (by rw[aa,aa];omega) (fun i q H'=>H'=H6/\q=((os.take i).filter (towB o e T)).map sv)
   ⟨rfl,rfl⟩ (fun i q H' _ h=>⟨.of (by rw[h.1];exact C),by
    rw[h.2,aa]
    have h1:=cb (towB o e T) (os.take i)
    rw[aQ]at h1
    omega⟩) ?_ ?_
  ·rintro i y q H' ys Nx W G hy ⟨rfl,rfl⟩
   obtain⟨y',rfl⟩:=u5 hy
   rw[aq,aq]at G
   cases ep:os[i]? with
   |none=>rw[ep]at G;cases G
   |some c=>
   rw[ep]at G
   have hx2:y=sv c:=(aw G).symm
   subst hx2
   have ap:c.length<=1:=gJ ((uP _ _ _).mp (d.mem_iff.mp (aV ep)))
   have n:os.take (i+1)=os.take i++[c]:=by
    rw[az (ai.mp ep).1,(ai.mp ep).2]
   refine⟨_,rfl,rfl,_,rfl,?_⟩
   by_cases hz:c=[]
   ·subst hz
    refine j2 rfl (vK (W _ _ [some (sv [])] rfl ⟨rfl,?_⟩))
    rw[n,zBN _ _ _ (by simp[towB])]
   ·have Y:¬V.str (tx c)=V.str "" :=fun z=>hz (j6 (V.str.inj z))
    have Z:(tx e).length+(tx c).length<=sizeLine:=by rw[yL,yL,aZ];omega
    have ab:(e++c).length<=64:=by rw[aI];omega
    refine zGB Y ⟨_,rfl,_,rfl,tx e,tx c,rfl,rfl,Z,_,rfl,e++c,o,by rw[zCr];rfl,hb.o1,ab,_,rfl,J,zU T,rfl,.inl (.of t),rfl,zBL _,_,rfl,?_⟩
    have e1:(if false=true then !uL (sv (zF (e++c) o)) (zU T)else uL (sv (zF (e++c) o)) (zU T))=decide (zF (e++c) o∈T):=by
     rw[if_neg (by simp),zBK]
    rw[e1]
    by_cases hm:zF (e++c) o∈T
    ·refine k7 hm ⟨_,rfl,W _ _ [some (sv c)] rfl ⟨rfl,?_⟩⟩
     rw[n,zDO _ _ _ (by simp[towB,hz,hm]),aF];rfl
    ·refine zAp hm (W _ _ [some (sv c)] rfl ⟨rfl,?_⟩)
     rw[n,zBN _ _ _ (by simp[towB,hm])]
  ·rintro q H' ⟨rfl,rfl⟩ D hD
   rw[aa,aa,bc]
   have sD:zA H' (upd H' D (.lst ((os.filter (towB o e T)).map sv))):=zA.upd1 hD
   refine k D _ _ (I.trans sD) (I.free hD) zE (lT _ m) fun x=>?_
   rw[bg,d.mem_iff,uP,bH,decide_eq_true_eq,decide_eq_true_eq]
   exact⟨fun⟨a,b,c⟩=>⟨b,a,c⟩,fun⟨a,b,c⟩=>⟨b,a,c⟩⟩
end
theorem zNU {X:Cx}(a:ae)(b:X.K=a)(c:X.A.units+64<cLine):yB X (compareOp .NotEq) (zBo a true):=by
 subst b
 exact qG c
theorem zHG (ds:List dN):dO (.list ds) (.list [])=ds.isEmpty:=by
 cases ds with
 |nil=>rfl
 |cons d ds=>rfl
theorem zDQ {cv:St}{y x:Option V}{m:Nat}(h:cv.length=m):(cv++[y]).set m x=cv++[x]:=by
 subst h
 rw[List.set_append_right _ _ (ay _),ir];rfl
theorem zNV {cv:St}{x:Option V}{m:Nat}(h:cv.length=m):(cv++[x])[m]?=some x:=by
 subst h
 rw[bB (ay _),ir];rfl
theorem zHH {σ:St}{H:Hp}{Q:V->Hp->Prop}{d:ao}{ra:List (S×ao×List (S×Int))}{z:TT}{caps:List Nat}{m n:Nat}{cv:St}(J:σ[0]?=some (some (.ref d)))
  (w:H d=some (.dK (zT (fun v:ao×List (S×Int)=>V.ref v.1) ra))) (l:ra.length<1000) (A:vL caps n σ=cv++aD 1 none) (hm:cv.length=m) (b:S->Bool)
  (e:∀(a:S×ao×List (S×Int)) (L:Obj) (B:Hp) (Z:Bool->Hp->Prop),a∈ra->zA (upd H d (.frz L (.dK (zT (fun v:ao×List (S×Int)=>V.ref v.1) ra)))) B->(∀C,zA B C->Z (b a.1) C)->z (cv++[some (sv a.1)]) B Z)
  (k:∀D H',zA H H'->H D=none->H' D=some (.lst (((ra.map (·.1)).filter b).map sv))->Q (.ref D) H'):zGM (zBn (zGL (qW 0)) (qX m) z (qW m) caps n) σ H Q:=by
 refine⟨d,_,w,_,J,d,_,rfl,w,fun o=>?_⟩
 generalize q:zT (fun v:ao×List (S×Int)=>V.ref v.1) ra=kvs at w e
 have hl2:(kvs.map fun p=>kV p.1).length=ra.length:=by rw[aa,<-q];exact vW _ _
 refine j4 (zCt d o kvs) cv 1 (by rw[hl2];exact l) (fun i c H'=>zA (upd H d (.frz o (.dK kvs))) H'/\c=(((ra.take i).map (·.1)).filter b).map sv) ⟨zA.refl _,rfl⟩
  (fun i c H' _ h=>⟨h.1 _ _ zE,by
   rw[h.2,aa]
   have y:=cb b ((ra.take i).map (·.1))
   rw[aa,aQ]at y
   omega⟩) ?_ ?_ A
 ·rintro i x c H' ys P G f M ⟨g,rfl⟩
  obtain⟨N,rfl⟩:=u5 M
  rw[<-q]at f
  unfold zT yN at f
  rw[aq,aq,aq]at f
  cases r:ra[i]? with
  |none=>rw[r]at f;cases f
  |some a=>
  rw[r]at f
  have hx2:x=sv a.1:=(aw f).symm
  subst hx2
  have hi:i<ra.length:=(ai.mp r).1
  have s:(ra.take (i+1)).map (·.1)=(ra.take i).map (·.1)++[a.1]:=by rw[az hi,(ai.mp r).2,aF];rfl
  show z ((cv++[N]).set m (some (sv a.1))) H' _
  rw[zDQ hm]
  refine e a o H' _ (aV r) g fun C I=>?_
  cases t:b a.1 with
  |true=>
   refine zBl ⟨_,zNV hm,G _ _ [some (sv a.1)] rfl ⟨g.trans I,?_⟩⟩
   rw[s,zDO _ _ _ t,aF];rfl
  |false=>
   refine vK (G _ _ [some (sv a.1)] rfl ⟨g.trans I,?_⟩)
   rw[s,zBN _ _ _ t]
 ·rintro c H' ⟨g,rfl⟩ D E
  rw[hl2,bc]
  have u:=g _ _ zE
  have j:d≠D:=yI u E
  have O:zA H' (upd H' D (.lst (((ra.map (·.1)).filter b).map sv))):=zA.upd1 E
  have F:H D=none:=by
   have y:=g.free E
   rw[zG j.symm]at y;exact y
  exact⟨o,by rw[zG j];exact u,k D _ (zA.thaw (g.trans O) w) F (by rw[zG j.symm,zE])⟩
theorem zAR {ps:List (S×S)}{ra:List (S×ao×List (S×Int))}(a:ra.map (fun r=>(r.1,r.2.2))=y6 ps)(e:S):e∈ra.map (·.1)↔∃l,(e,l)∈ps:=by
 rw[<- (yH ps).has e]
 have b:ra.map (·.1)=(y6 ps).map (·.1):=by rw[<-a,aJ];rfl
 rw[b]
 constructor
 ·intro h
  obtain⟨q,c,rfl⟩:=au.mp h
  exact⟨q.2,(vA (yH ps).nd _ _).mp c⟩
 ·rintro⟨row,h⟩
  exact au.mpr ⟨_,(vA (yH ps).nd _ _).mpr h,rfl⟩
theorem zNW {ps:List (S×S)}{ra:List (S×ao×List (S×Int))}(a:ra.map (fun r=>(r.1,r.2.2))=y6 ps){r:S×ao×List (S×Int)}(b:r∈ra):yY (zT (fun v:ao×List (S×Int)=>V.ref v.1) ra) (Sum.inr (tx r.1))=some (.ref r.2.1):=by
 have knd:(ra.map (·.1)).Nodup:=by
  have h:=(yH ps).nd
  rw[<-a,aJ]at h
  exact h
 rw[uO,(vA knd r.1 r.2).mp b];rfl
theorem zNX {ps:List (S×S)}{o:Nat}:∀{k:Nat}{e:S},Cl ps o k e->∃l,(e,l)∈ps
 |0,e,h=>⟨[],h⟩
 |k+1,e,⟨l,_,h,_⟩=>⟨l,h⟩
theorem zNY {bk:List S}{o:Nat}(b:Bk bk o){e l:S}(h:(e,l)∈zC o bk):∀c∈l,c<=122:=fun c a=>by
 obtain⟨nm,d,f⟩:=bb.mp h
 obtain⟨p,_,e1⟩:=au.mp f
 have g:(nm.drop p).take 1=l:=congrArg fZ e1
 rw[<-g]at a
 exact((b.nm nm d).2.2 c (gv (du a))).2
theorem zHI {L:List S}(h:∀x∈L,∀c∈x,c<=122):eV (.list (L.map fun x=>PyData.str (tx x)))=true :=
 (zCs fun d hd=>by
  obtain⟨x,a,rfl⟩:=au.mp hd
  exact⟨zGJ (h x a),by show 0<=10;decide⟩).1
theorem gP {K:ae}{H:Hp}{l:ao}{L:List S}(h:H l=some (.lst (L.map sv))):yT K H (.list (L.map fun x=>PyData.str (tx x))) (.ref l):=by
 refine⟨l,L.map sv,rfl,.of h,?_⟩
 have:=(Reps.strs (K:=K) (H:=H) (ss:=L.map tx) (xs:=L.map sv)).mpr (by rw[aJ];rfl)
 rw[aJ]at this
 exact this
theorem zNZ (ps:List (S×S))(e l:S):(yY (zQ (yD ps e)) (Sum.inr (tx l))).isSome=decide ((e,l)∈ps):=by
 show(yY (zT V.int (yD ps e)) _).isSome=_
 rw[uO,zBE]
 by_cases c:0<ps.count (e,l)
 ·rw[if_pos c,decide_eq_true (bV.mp c)];rfl
 ·rw[if_neg c,decide_eq_false (fun z=>c (bV.mpr z))];rfl
abbrev kJ (ps:List (S×S))(o:Nat)(T:List S)(e:S):Bool:=!((z4 ps e).filter (towB o e T)).isEmpty
theorem zHJ {ps:List (S×S)}{o:Nat}{T:List S}{e:S}:kJ ps o T e=true↔∃l,l≠[]/\(e,l)∈ps/\zF (e++l) o∈T:=by
 unfold kJ
 rw[iX,dF]
 constructor
 ·rintro⟨l,hl⟩
  obtain⟨b,a⟩:=bg.mp hl
  rw[bH,decide_eq_true_eq,decide_eq_true_eq]at a
  exact⟨l,a.1,(uP _ _ _).mp b,a.2⟩
 ·rintro⟨l,b,a,c⟩
  exact⟨l,bg.mpr ⟨(uP _ _ _).mpr a,by rw[bH,decide_eq_true_eq,decide_eq_true_eq];exact⟨b,c⟩⟩⟩
theorem zNa {ps:List (S×S)}{o:Nat}{T:List S}{e:S}{out:List S}(h:∀x,x∈out↔x≠[]/\(e,x)∈ps/\zF (e++x) o∈T):(!out.isEmpty)=kJ ps o T e:=by
 rw[eY,zHJ,iX,dF]
 exact⟨fun⟨l,hl⟩=>⟨l,(h l).mp hl⟩,fun⟨l,hl⟩=>⟨l,(h l).mpr hl⟩⟩
def zDR (H:Hp)(c:ao)(ps:List (S×S))(o:Nat)(cl:List (ao×List S)):Prop:=H c=some (.lst (cl.map fun q=>V.ref q.1))/\∀(k:Nat) (q:ao×List S),cl[k]?=some q->q.1≠c/\H q.1=some (.lst (q.2.map sv))/\∀e,e∈q.2↔Cl ps o k e
section
variable{P:aL}{w:aU}{K:ae}{mg:Str->Option ah}{base:bx}
abbrev sCE:cq:=top 53
theorem zHK:FnScope ["rows","order","length","closing","targets"] ["rows","order","length"] (defScope sCE):=z7
theorem zNb:(["rows","end"]:List Str).Nodup:=by decide+kernel
theorem zNc:(["rows","order","targets","end"]:List Str).Nodup:=by decide+kernel
def zHL:Sp:=fun vs H Q _=>∃(d:ao) (o n:Nat) (bk:List S),vs=[.ref d,.int o,.int n]/\Bk bk o/\(zC o bk).length<64/\v6 H d (zC o bk)/\1<=n/\n<=8/\
 ∀(c:ao) (cl:List (ao×List S)) (H':Hp),zA H H'->H c=none->zDR H' c (zC o bk) o cl->cl.length=n->Q (.ref c) H'
theorem zNd {f:ao}{fd:aY}(F:Fun K "closing_ends" "closing_ends" sCE f fd)(B:Blt mg)(aM:zR P w K mg base 2 "letters_towards" ["row","end","order","targets"] zDP):FnOk P w K mg base zY 3 f fd ["rows","order","length"] zHL:=by
 refine F.ok zHK (fun vs H Q E h=>?_) (fun a8 A outer s H vs Q E hr h=>?_)
 ·obtain⟨d,o,n,bk,rfl,_⟩:=h;rfl
 ·obtain⟨d,o,n,bk,rfl,hb,aN,⟨ra,G,r2,r3⟩,aW,a9,k⟩:=h
  have hu:=uM hr
  have a0:=hr.units
  have nd:=zHK.nd
  refine⟨_,zO (z8 (i:=3) nd rfl (Or.inl rfl) (vJ (zB (zAL (vM (N:=["rows","end"]) (caps:=[0]) rfl (vF (by kernel_rfl)) (zBG (pv 0)) (fun g X s H ex=>z9 (i:=1) zNb rfl (Or.inl rfl))
    (fun g X s H ex=>q8 (zEE (zJz hu u9 (kX hu (pv 0) (pv 1) (fun _ _=>rfl))))) (fun g X s H ex=>pv 1))) zD)))
   (zO (zEM bL (yS zAe (yX zAF (by rfl) B.len b0 (zB (pv 3) zD)) (pv 2) (yQ _))
    (zO (z8 (i:=4) nd rfl (Or.inr rfl) (yM jY (pv 3) (g8 zAA zL) (fun _ _=>rfl)))
    (zP (vE (zAh jl PySem.F.slot_list_append PySem.F.type_list_append zJj (pv 3) (zB
     (zAL (vM (N:=["rows","order","targets","end"]) (caps:=[0,1,4]) rfl (vF (by kernel_rfl)) (zBG (pv 0)) (fun g X s H ex=>z9 (i:=3) zNc rfl (Or.inl rfl))
      (fun g X s H ex=>q8 (yS (zNU K rfl a0) (zM aM hr rfl (zB (kX hu (pv 0) (pv 3) (fun _ _=>rfl)) (zB (pv 3) (zB (pv 1) (zB (pv 2) zD))))) (vJ zD) (yQ _))) (fun g X s H ex=>pv 3))) zD))))))
   (zP (zZ (pv 3)))),?_⟩
  have be:ra.length<64:=by
   have T:=zBM (ps:=zC o bk)
   rw[<-G,aa]at T;omega
  have U:=zAQ r2 r3
  have W:∀{H0 I:Hp} {Y:Obj} {a:S×ao×List (S×Int)},a∈ra->H0 d=some (.dK (zT (fun v:ao×List (S×Int)=>V.ref v.1) ra))->zA (upd H0 d (.frz Y (.dK (zT (fun v:ao×List (S×Int)=>V.ref v.1) ra)))) I->yZ I d (sv a.1) (some (.ref a.2.1)):=fun{H0 I Y a} hr0 _ r=>
   .inl ⟨_,Sum.inr (tx a.1),.inr ⟨Y,r _ _ zE⟩,rfl,(zNW G hr0).symm⟩
  refine zHH (d:=d) (ra:=ra) (cv:=[some (.ref d)]) (m:=1) rfl r2 (by omega) rfl rfl (fun e=>decide ((e,[])∈zC o bk)) (fun a Y I Z hr0 r z=>?_) (fun D H1 s1 hD ab=>?_)
  ·have J:I a.2.1=some (.dK (zQ (yD (zC o bk) a.1))):=by
    rw[<-gO G hr0]
    exact r _ _ (by rw[zG (U a hr0)];exact r3 a hr0)
   refine⟨_,rfl,_,rfl,d,.ref a.2.1,rfl,W hr0 r2 r,a.2.1,_,rfl,yZ.k (k:=Sum.inr (tx [])) J,_,rfl,?_⟩
   rw[zNZ]
   exact z _ (zA.refl _)
  refine⟨by show 1<=sizeLine;decide,fun c hc=>?_⟩
  have s2:zA H1 (upd H1 c (.lst [V.ref D])):=zA.upd1 hc
  have ac:H c=none:=s1.free hc
  have a1:D≠c:=yI ab hc
  have al:∀e,e∈(ra.map (·.1)).filter (fun e=>decide ((e,[])∈zC o bk))↔Cl (zC o bk) o 0 e:=fun e=>by
   rw[bg,zAR G,decide_eq_true_eq]
   exact⟨fun h=>h.2,fun h=>⟨⟨[],h⟩,h⟩⟩
  refine⟨fun m σ H'=>∃(g:List (ao×List S)) (x4:Option V),σ=[some (.ref d),some (.int o),some (.int n),some (.ref c),x4]/\zDR H' c (zC o bk) o g/\1<=g.length/\g.length<=n/\m=n-g.length/\zA H H',
   ⟨n-1,[(D,(ra.map (·.1)).filter (fun e=>decide ((e,[])∈zC o bk)))],_,rfl,⟨zE,fun k q t=>?_⟩,ay _,aW,rfl,s1.trans s2⟩,?_⟩
  ·cases k with
   |zero=>
    have hq:(D,(ra.map (·.1)).filter (fun e=>decide ((e,[])∈zC o bk)))=q:=aw t
    subst hq
    exact⟨a1,s2 _ _ ab,al⟩
   |succ k=>simp at t
  rintro m σ H' ⟨g,x4,rfl,⟨j,L⟩,am,bi,rfl,r⟩
  refine⟨_,rfl,c,_,rfl,.inl (.of j),_,rfl,_,_,rfl,rfl,_,rfl,?_⟩
  by_cases bl:g.length<n
  ·refine k7 (by rw[aa];omega) ⟨fun σ' M=>∃(u:List (ao×List S)) (x4:Option V),σ'=[some (.ref d),some (.int o),some (.int n),some (.ref c),x4]/\zDR M c (zC o bk) o u/\u.length=g.length+1/\zA H M,?_,?_⟩
   ·rintro σ' M ⟨u,bm,rfl,T,h2,h3⟩
    exact⟨n- (g.length+1),by omega,u,_,rfl,T,by omega,by omega,by omega,h3⟩
   ·obtain⟨b,q,rfl⟩:∃b q,g=b++[q]:=by
     have an:g≠[]:=fun z=>by rw[z]at am;cases am
     exact⟨g.dropLast,g.getLast an,(hE an).symm⟩
    have hq:(b++[q])[b.length]?=some q:=by rw[bB (ay _),ir];rfl
    obtain⟨q1,q2,q3⟩:=L _ _ hq
    have a2:uW (gq (fun q:ao×List S=>V.ref q.1) (b++[q])) (-1)=some (V.ref q.1):=by
     rw[aF]
     exact zEg _ _
    refine⟨_,rfl,_,rfl,c,_,-1,V.ref q.1,rfl,rfl,.of j,a2,?_⟩
    have O:=r _ _ r2
    refine⟨_,rfl,.inl ⟨rfl,_,.of j⟩,zHH (d:=d) (ra:=ra) (cv:=[some (.ref d),some (.int o),some (.ref q.1)]) (m:=3) rfl O (by omega) rfl rfl (kJ (zC o bk) o q.2) (fun a Y I Z hr0 R z=>?_) (fun D2 H3 s3 ap a3=>?_)⟩
    ·have a4:q.1≠d:=fun z=>by rw[z,O]at q2;cases q2
     have J:I a.2.1=some (.dK (zQ (yD (zC o bk) a.1))):=by
      rw[<-gO G hr0]
      exact R _ _ (by rw[zG (U a hr0)];exact r _ _ (r3 a hr0))
     obtain⟨l0,hl0⟩:=(zAR G a.1).mp (au.mpr ⟨a,hr0,rfl⟩)
     have a5:a.1.length<=3:=by have:=zDH hl0;have:=hb.o3;omega
     refine⟨_,rfl,_,rfl,d,.ref a.2.1,rfl,W hr0 O R,_,rfl,_,rfl,_,rfl,a.2.1,q.1,a.1,o,bk,q.2,rfl,hb,aN,J,a5,R _ _ (by rw[zG a4];exact q2),fun l out H6 s6 bn as a7 y=>?_⟩
     refine⟨by show 0<=sizeLine;decide,fun e0 a6=>?_⟩
     have s7:zA H6 (upd H6 e0 (.lst [])):=zA.upd1 a6
     refine⟨.list (out.map fun x=>PyData.str (tx x)),.list [],gP (s7 _ _ as),⟨e0,[],rfl,.of zE,rfl⟩,zHI fun x hx=>zNY hb ((y x).mp hx).2.1,rfl,_,rfl,?_⟩
     have e1:(if true=true then !PyData.eqv (.list (out.map fun x=>PyData.str (tx x))) (.list [])else dO (.list (out.map fun x=>PyData.str (tx x))) (.list []))=kJ (zC o bk) o q.2 a.1:=by
      rw[if_pos rfl,zHG,List.isEmpty_map]
      exact zNa y
     rw[e1]
     exact z _ (s6.trans s7)
    ·have ax:=s3 _ _ j
     have C:D2≠c:=fun z=>by rw[z,j]at ap;cases ap
     refine⟨c,_,_,rfl,rfl,ax,by rw[aa,aZ];omega,(b++[q])++[(D2,(ra.map (·.1)).filter (kJ (zC o bk) o q.2))],_,rfl,⟨?_,fun k p t=>?_⟩,by simp,(r.trans s3).upd_new ac⟩
     ·rw[zE,aF (l₁:=b++[q])];rfl
     ·by_cases aA:k<(b++[q]).length
      ·rw[bU aA]at t
       obtain⟨T,h2,h3⟩:=L k p t
       exact⟨T,by rw[zG T];exact s3 _ _ h2,h3⟩
      ·rw[bB (by omega)]at t
       have aK:k- (b++[q]).length=0:=by
        have:=(ai.mp t).1
        simp at this
        simp;omega
       rw[aK]at t
       have hp:(D2,(ra.map (·.1)).filter (kJ (zC o bk) o q.2))=p:=aw t
       subst hp
       refine⟨C,by rw[zG C];exact a3,fun e=>?_⟩
       have ek:k=b.length+1:=by simp at aK aA;omega
       rw[ek,bg,zAR G,zHJ]
       show _↔∃l,l≠[]/\(e,l)∈zC o bk/\Cl (zC o bk) o b.length (zF (e++l) o)
       constructor
       ·rintro⟨_,l,g1,g2,g3⟩
        exact⟨l,g1,g2,(q3 _).mp g3⟩
       ·rintro⟨l,g1,g2,g3⟩
        exact⟨⟨l,g2⟩,l,g1,g2,(q3 _).mpr g3⟩
  ·refine zAp (by rw[aa];omega) ⟨_,rfl,k c g H' r ac ⟨j,L⟩ (by omega)⟩
end
def Abz (bk:List S):Prop:=∀nm∈bk,∀c∈nm,c=97\/c=98\/c=122
theorem zDS {o:Nat}{bk:List S}(f:Abz bk){L:List S}{e:S}(g:L.Pairwise (· < ·))(hm:∀l∈L,l≠[]/\(e,l)∈zC o bk):L.length<=3:=by
 refine gL L [[97],[98],[122]] (g.imp fun{a b} h z=>by rw[z]at h;exact k8 _ h) fun l hl=>?_
 obtain⟨j,d⟩:=hm l hl
 obtain⟨c,rfl⟩:=kA (gJ d) j
 obtain⟨nm,m,n⟩:=bb.mp d
 obtain⟨p,_,e1⟩:=au.mp n
 have q:(nm.drop p).take 1=[c]:=congrArg fZ e1
 have r:c∈nm:=gv (i:=p) (du (i:=1) (by rw[q];exact bA _))
 rcases f nm m c r with rfl|rfl|rfl<;>simp
theorem zHM (A:List S)(g:S->List S)(h:∀t∈A,(g t).length<=3):(A.flatMap g).length<=3*A.length:=by
 induction A with
 |nil=>simp
 |cons t A ih=>
  rw[d8,aI,aX]
  have b:=h t (aj ..)
  have c:=ih fun u a=>h u (ak _ a)
  omega
def zAS (ps:List (S×S))(o:Nat)(T:List S)(e:S)(L:List S):Prop:=L.Pairwise (· < ·)/\∀x,x∈L↔x≠[]/\(e,x)∈ps/\zF (e++x) o∈T
section
variable{P:aL}{w:aU}{K:ae}{mg:Str->Option ah}{base:bx}
abbrev zDT:cq:=top 54
theorem zHN:FnScope ["rows","order","texts","targets","leading","end","row","longer","text"] ["rows","order","texts","targets"] (defScope zDT):=z7
theorem zNe:(["text","letter"]:List Str).Nodup:=by decide+kernel
def zHO:Sp:=fun vs H Q _=>∃(d ta tl:ao) (o:Nat) (bk A T:List S),vs=[.ref d,.int o,.ref ta,.ref tl]/\Bk bk o/\Abz bk/\(zC o bk).length<64/\v6 H d (zC o bk)/\H ta=some (.lst (A.map sv))/\H tl=some (.lst (T.map sv))/\A.length<=100000/\
 (∀t∈A,t.length<=8/\∃l,(zF t o,l)∈zC o bk)/\
 ∀(l:ao) (lt:S->List S) (H':Hp),zA H H'->H l=none->(∀e,(∃l,(e,l)∈zC o bk)->zAS (zC o bk) o T e (lt e))->H' l=some (.lst ((A.flatMap fun t=>(lt (zF t o)).map (t++·)).map sv))->Q (.ref l) H'
theorem zNf {f:ao}{fd:aY}(F:Fun K "lengthened" "lengthened" zDT f fd)(cLT:zR P w K mg base 2 "letters_towards" ["row","end","order","targets"] zDP)(cEnd:zR P w K mg base 1 "end_of" ["text","order"] zAK):FnOk P w K mg base zY 3 f fd ["rows","order","texts","targets"] zHO:=by
 refine F.ok zHN (fun vs H Q E h=>?_) (fun cdv A outer s H vs Q E hr h=>?_)
 ·obtain⟨d,ta,tl,o,bk,A,T,rfl,_⟩:=h;rfl
 ·obtain⟨d,ta,tl,o,bk,A,T,rfl,hb,habz,h64,⟨ra,r1,r2,r3⟩,hta,htl,hAl,hAr,k⟩:=h
  have hu:=uM hr
  have hr1:=hr.mono (j:=1) (by decide)
  have nd:=zHN.nd
  refine⟨_,zO (z8 (i:=4) nd rfl (Or.inl rfl) j1)
   (zO (gH (v8 bL rfl (gG (j8 K rfl bI cj cR k5 (pv 0)))
     (jT rfl (vV (z9 (i:=5) nd rfl (Or.inl rfl)) (vV (z9 (i:=6) nd rfl (Or.inl rfl)) jH)))
     (zP (zAG hu (pv 4) (pv 5) (zM cLT hr rfl (zB (pv 6) (zB (pv 5) (zB (pv 1) (zB (pv 3) zD))))) rfl))))
   (zO (z8 (i:=7) nd rfl (Or.inl rfl) (vJ zD))
   (zO (v8 bL rfl (qC (pv 2)) (z9 (i:=8) nd rfl (Or.inr rfl))
     (zP (vE (zAh jl PySem.F.slot_list_extend PySem.F.type_list_extend zJl (pv 7) (zB
      (vM (N:=["text","letter"]) (caps:=[8]) rfl (vF (by kernel_rfl)) (qC (kX hu (pv 4) (zM cEnd hr1 rfl (zB (pv 8) (zB (pv 1) zD))) (fun _ _=>rfl)))
       (fun cl X s H ex=>z9 (i:=1) zNe rfl (Or.inl rfl)) (fun cl X s H ex=>uY) (fun cl X s H ex=>zW zBe (pv 0) (pv 1))) zD)))))
   (zP (zZ (pv 7)))))),?_⟩
  intro ld hld
  have sH1:zA H (upd H ld (.dK [])):=zA.upd1 hld
  have hd1:=sH1 _ _ r2
  have hdld:ld≠d:=(yI r2 hld).symm
  refine⟨d,_,hd1,?_⟩
  refine⟨_,rfl,.inr (.inr (.inl ⟨rfl,.inl ⟨_,hd1⟩⟩)),d,_,rfl,rfl,hd1,fun p hp=>?_⟩
  have hppd:p≠ld:=fun z=>by subst z;rw[zE]at hp;cases hp
  have sH2:zA (upd H ld (.dK [])) (upd (upd H ld (.dK [])) p (VW p d)):=zA.upd1 hp
  refine⟨p,d,_,rfl,zE,sH2 _ _ hd1,fun ob=>?_⟩
  have rne:=zAQ r2 r3
  generalize hkv:zT (fun v:ao×List (S×Int)=>V.ref v.1) ra=kvs at r2 hd1
  generalize hH3:upd (upd (upd H ld (.dK [])) p (VW p d)) d (.frz ob (.dK kvs))=H3
  have s3:zA (upd H d (.frz ob (.dK kvs))) H3:=fun b u e=>by
   rw[<-hH3]
   by_cases hb':b=d
   ·subst hb';rw[zE]at e⊢;exact e
   ·rw[zG hb']at e⊢
    exact sH2 _ _ (sH1 _ _ e)
  have hld3:H3 ld=some (.dK (zT (fun v:ao×List S=>V.ref v.1) [])):=by
   rw[<-hH3,zG hdld,zG hppd.symm,zE];rfl
  have hld0:upd H d (.frz ob (.dK kvs)) ld=none:=by rw[zG hdld];exact hld
  have ral:ra.length<64:=by
   have h1:=zBM (ps:=zC o bk)
   rw[<-r1,aa]at h1;omega
  have htld:tl≠d:=fun z=>by rw[z,r2]at htl;cases htl
  have knd0:(ra.map (·.1)).Nodup:=by
   have h:=(yH (zC o bk)).nd
   rw[<-r1,aJ]at h
   exact h
  refine zAM (fun i σ H'=>(∃x5 x6 x7 x8:Option V,σ=[some (.ref d),some (.int o),some (.ref ta),some (.ref tl),some (.ref ld),x5,x6,x7,x8])/\zA (upd H d (.frz ob (.dK kvs))) H'/\∃pa:List (S×ao×List S),H' ld=some (.dK (zT (fun v:ao×List S=>V.ref v.1) pa))/\pa.map (·.1)=(ra.take i).map (·.1)/\∀r∈pa,H' r.2.1=some (.lst (r.2.2.map sv))/\zAS (zC o bk) o T r.1 r.2.2)
   ⟨⟨_,_,_,_,rfl⟩,s3,[],hld3,rfl,fun r hr=>by cases hr⟩ (fun i σ H' _ h=>h.2.1 _ _ zE) ?_ ?_
  ·rintro i q T0 σ H' Nx hN hq ⟨⟨x5,x6,x7,x8,rfl⟩,sm,pa,hpa,hpk,hpr⟩ hT0
   rw[<-hkv]at hq
   unfold zT yN at hq
   rw[aq,aq]at hq
   cases ei:ra[i]? with
   |none=>rw[ei]at hq;cases hq
   |some r0=>
   rw[ei]at hq
   have hq2:q=(Sum.inr (tx r0.1),V.ref r0.2.1):=(aw hq).symm
   subst hq2
   have hmem:r0∈ra:=aV ei
   have hi:i<ra.length:=(ai.mp ei).1
   have etk:ra.take (i+1)=ra.take i++[r0]:=by rw[az hi,(ai.mp ei).2]
   have h0r:upd H d (.frz ob (.dK kvs)) r0.2.1=some (.dK (zQ r0.2.2)):=by rw[zG (rne r0 hmem)];exact r3 r0 hmem
   refine⟨T0,[sv r0.1,.ref r0.2.1],rfl,.of zE,rfl,_,_,rfl,_,_,rfl,rfl,?_⟩
   generalize hH4:upd H' T0 (HO.tup [kV ((Sum.inr (tx r0.1):zI),V.ref r0.2.1).1,((Sum.inr (tx r0.1):zI),V.ref r0.2.1).2])=H4
   have s4:zA H' H4:=by rw[<-hH4];exact zA.upd1 hT0
   have sm4:=sm.trans s4
   have hrw:H4 r0.2.1=some (.dK (zQ (yD (zC o bk) r0.1))):=by rw[<-gO r1 hmem];exact sm4 _ _ h0r
   obtain⟨l0,hl0⟩:=(zAR r1 r0.1).mp (au.mpr ⟨r0,hmem,rfl⟩)
   have hel:r0.1.length<=3:=by have:=zDH hl0;have:=hb.o3;omega
   refine⟨_,rfl,_,rfl,_,rfl,_,rfl,r0.2.1,tl,r0.1,o,bk,T,rfl,hb,h64,hrw,hel,sm4 _ _ (by rw[zG htld];exact htl),fun l out H5 s5 hl5 hout hris hmem2=>?_⟩
   have s45:=s4.trans s5
   have hpa5:=s45 _ _ hpa
   have hlld:l≠ld:=fun z=>by rw[z]at hl5;rw[s4 _ _ hpa]at hl5;cases hl5
   have knd:(pa.map (·.1)).Nodup:=by
    rw[hpk,eh]
    exact knd0.sublist (dy _ _)
   have fresh:r0.1∉pa.map (·.1):=fun h1=>by
    rw[hpk]at h1
    have h2:((ra.take (i+1)).map (·.1)).Nodup:=by rw[eh];exact knd0.sublist (dy _ _)
    rw[etk,aF]at h2
    exact(d6.mp h2).2.2 _ h1 _ (by simp) rfl
   refine⟨_,rfl,_,rfl,ld,_,rfl,qZ.k (k:=Sum.inr (tx r0.1)) hpa5 (by rw[vW,<-aa (f:=(·.1)),hpk,aa,aQ,aZ];omega),?_⟩
   have eput:=gC (fun v:ao×List S=>V.ref v.1) pa r0.1 (l,out) knd
   rw[gD pa _ _ fresh]at eput
   have sx:yC ld H5 (upd H5 ld (.dK (vG (zT (fun v:ao×List S=>V.ref v.1) pa) (Sum.inr (tx r0.1)) (V.ref l)))):=(yC.refl _).updf
   refine hN _ _ ⟨⟨_,_,_,_,rfl⟩,fun b u e=>?_,pa++[(r0.1,l,out)],?_,?_,fun r hr=>?_⟩
   ·have hb':b≠ld:=fun z=>by rw[z,hld0]at e;cases e
    exact sx _ _ hb' (s5 _ _ (sm4 _ _ e))
   ·rw[zE]
    exact congrArg (fun z=>some (HO.dK z)) eput
   ·rw[aF,hpk,etk,aF];rfl
   ·rcases bt.mp hr with z|z
    ·obtain⟨g1,g2⟩:=hpr r z
     have g3:=s45 _ _ g1
     have hne:r.2.1≠ld:=fun z=>by rw[z,hpa5]at g3;cases g3
     exact⟨sx _ _ hne g3,g2⟩
    ·have hr2:r=(r0.1,l,out):=bf.mp z
     subst hr2
     exact⟨sx _ _ hlld hout,hris,hmem2⟩
  ·rintro σ H' ⟨⟨x5,x6,x7,x8,rfl⟩,sm,pa,hpa,hpk,hpr⟩
   refine⟨ob,sm _ _ zE,?_⟩
   have sfin:zA H (upd H' d (.dK kvs)):=zA.thaw sm r2
   have hpa':upd H' d (.dK kvs) ld=some (.dK (zT (fun v:ao×List S=>V.ref v.1) pa)):=by rw[zG hdld];exact hpa
   have hpr':∀r∈pa,upd H' d (.dK kvs) r.2.1=some (.lst (r.2.2.map sv))/\zAS (zC o bk) o T r.1 r.2.2:=fun r hr=>by
    obtain⟨g1,g2⟩:=hpr r hr
    have hne:r.2.1≠d:=fun z=>by rw[z,sm _ _ zE]at g1;cases g1
    exact⟨by rw[zG hne];exact g1,g2⟩
   have hel:(zT (fun v:ao×List (S×Int)=>V.ref v.1) ra).length=ra.length:=vW _ _
   rw[<-hkv,hel,bc]at hpk
   clear hpr hpa sm
   generalize upd H' d (.dK kvs)=H4 at sfin hpa' hpr'
   clear H'
   have knd:(pa.map (·.1)).Nodup:=by rw[hpk];exact knd0
   have hlt:∀e,(∃l,(e,l)∈zC o bk)->∃r∈pa,r.1=e/\zK pa e=some r.2:=fun e he=>by
    have h1:=(zAR r1 e).mpr he
    rw[<-hpk]at h1
    obtain⟨r,hr,rfl⟩:=au.mp h1
    exact⟨r,hr,rfl,(vA knd _ _).mp hr⟩
   have hlead:∀e,(∃l,(e,l)∈zC o bk)->zAS (zC o bk) o T e (((zK pa e).map (·.2)).getD []):=fun e he=>by
    obtain⟨r,hr,rfl,hg⟩:=hlt e he
    rw[hg]
    exact(hpr' r hr).2
   refine⟨by show 0<=sizeLine;decide,fun lo hlo=>?_⟩
   have s5:zA H4 (upd H4 lo (.lst [])):=zA.upd1 hlo
   have hloH:H lo=none:=sfin.free hlo
   have hlold:lo≠ld:=fun z=>by rw[z,hpa']at hlo;cases hlo
   refine⟨_,rfl,ta,rfl,⟨_,.of (s5 _ _ (sfin _ _ hta))⟩,?_⟩
   have htaH4:=sfin _ _ hta
   have htalo:ta≠lo:=yI htaH4 hlo
   refine jB (qI K ta (A.map sv)) (fun i σ H'=>(∃x5 x6 x8:Option V,σ=[some (.ref d),some (.int o),some (.ref ta),some (.ref tl),some (.ref ld),x5,x6,some (.ref lo),x8])/\yC lo (upd H4 lo (.lst [])) H'/\H' lo=some (.lst (((A.take i).flatMap fun t=>(((zK pa (zF t o)).map (·.2)).getD []).map (t++·)).map sv)))
    ⟨⟨_,_,_,rfl⟩,yC.refl _,zE⟩ (fun i σ H' _ h=>.of (h.2.1 _ _ htalo (s5 _ _ htaH4))) ?_ ?_
   ·rintro i x σ H' Nx hN hx ⟨⟨x5,x6,x8,rfl⟩,sx,hlo'⟩
    rw[aq]at hx
    cases ei:A[i]? with
    |none=>rw[ei]at hx;cases hx
    |some t=>
    rw[ei]at hx
    have hx2:x=sv t:=(aw hx).symm
    subst hx2
    have hi:i<A.length:=(ai.mp ei).1
    have etk:A.take (i+1)=A.take i++[t]:=by rw[az hi,(ai.mp ei).2]
    obtain⟨ht8,hrow⟩:=hAr t (aV ei)
    obtain⟨r,hr,hre,hg⟩:=hlt _ hrow
    obtain⟨g1,g2⟩:=hpr' r hr
    have hr1lo:r.2.1≠lo:=yI g1 hlo
    have g1':=sx _ _ hr1lo (s5 _ _ g1)
    have hpaH:=sx _ _ hlold.symm (s5 _ _ hpa')
    have dg:yZ H' ld (sv (zF t o)) (some (.ref r.2.1)):=by
     have:=yZ.k (k:=Sum.inr (tx (zF t o))) hpaH
     rw[uO,hg]at this
     exact this
    refine⟨_,rfl,.inl ⟨rfl,_,.of hlo'⟩,_,rfl,_,rfl,_,rfl,t,o,rfl,hb.o1,by omega,ld,.ref r.2.1,rfl,dg,r.2.1,rfl,⟨_,.of g1'⟩,?_⟩
    have h3:r.2.2.length<=3:=zDS habz (e:=r.1) g2.1 fun l hl=>⟨((g2.2 l).mp hl).1,((g2.2 l).mp hl).2.1⟩
    refine qJ (qI K r.2.1 (r.2.2.map sv)) [some (sv t)] 1 (by rw[aa];omega) (fun j acc H6=>H6=H'/\acc=((r.2.2.take j).map (t++·)).map sv)
     ⟨rfl,rfl⟩ (fun j acc H6 _ h=>⟨.of (by rw[h.1];exact g1'),by rw[h.2,aa,aa,aQ];omega⟩) ?_ ?_
    ·rintro j y acc H6 ys Nx2 hN2 hy hys ⟨rfl,rfl⟩
     obtain⟨y',rfl⟩:=u5 hys
     rw[aq]at hy
     cases ej:r.2.2[j]? with
     |none=>rw[ej]at hy;cases hy
     |some c=>
     rw[ej]at hy
     have hy2:y=sv c:=(aw hy).symm
     subst hy2
     have hj:j<r.2.2.length:=(ai.mp ej).1
     have hc1:c.length<=1:=gJ ((g2.2 c).mp (aV ej)).2.1
     refine⟨_,rfl,_,rfl,tx t,tx c,rfl,rfl,by rw[yL,yL,aZ];omega,hN2 _ _ [some (sv c)] rfl ⟨rfl,?_⟩⟩
     rw[az hj,(ai.mp ej).2,aF,aF,zCr];rfl
    ·rintro acc H6 ⟨rfl,rfl⟩ D hD
     rw[aa,bc]
     have sD:zA H6 (upd H6 D (.lst ((r.2.2.map (t++·)).map sv))):=zA.upd1 hD
     have hlen:(((A.take i).flatMap fun t=>(((zK pa (zF t o)).map (·.2)).getD []).map (t++·)).map sv).length+((r.2.2.map (t++·)).map sv).length<=sizeLine:=by
      have h4:=zHM (A.take i) (fun t=>(((zK pa (zF t o)).map (·.2)).getD []).map (t++·)) fun u hu=>by
       obtain⟨_,hrow2⟩:=hAr u (du hu)
       have g3:=hlead _ hrow2
       rw[aa]
       exact zDS habz (e:=zF u o) g3.1 fun l hl=>⟨((g3.2 l).mp hl).1,((g3.2 l).mp hl).2.1⟩
      rw[aQ]at h4
      rw[aa,aa,aa,aZ];omega
     refine⟨lo,D,_,_,rfl,rfl,sD _ _ hlo',zE,hlen,hN _ _ ⟨⟨_,_,_,rfl⟩,(sx.trans (yC.of sD)).updf,?_⟩⟩
     rw[zE,etk,ig,<-aF]
     have e1:((zK pa (zF t o)).map (·.2)).getD []=r.2.2:=by rw[hg];rfl
     simp[e1]
   ·rintro σ H' ⟨⟨x5,x6,x8,rfl⟩,sx,hlo'⟩
    rw[aa,bc]at hlo'
    refine⟨_,rfl,k lo (fun e=>((zK pa e).map (·.2)).getD []) H' (fun b u e=>?_) hloH hlead hlo'⟩
    have hbl:b≠lo:=yI e hloH
    exact sx _ _ hbl (s5 _ _ (sfin _ _ e))
end
end Kn.Ln
end
section
namespace L2
open PySem PySem.Spec PyProof.Rows
theorem zHP {i:Int}{n:Nat}(a:0<i)(h:i<2^n):i.natAbs.log2<n:=by
 refine(Nat.log2_lt (by omega)).mpr ?_
 have e:((2^n:Nat):Int)=(2:Int)^n:=by simp
 have:(i.natAbs:Int)<((2^n:Nat):Int):=by rw[e];omega
 omega
theorem zHQ {X:Cx}:yB X (binaryOp .FloorDiv) (rI (fun _ j=>0<j/\j<2^8000) fun i j=>.int (i/j)):=kQ fun i j _ _ _ _ _ a q=>by
 have b:(0:Int)<j:=a.1
 exact floordiv_int (by omega) (by rw[iA i (by omega)];exact q) (.inl (PyProof.noPylong_of_log2 (bp (zHP b a.2) (by decide))))
def Bg (i:Int):Prop:=0<=i/\i<2^8000
theorem Bg.bits {i:Int}(h:Bg i):me i<=2^20:=by
 unfold me
 split
 ·exact bD _
 ·rename_i hz
  have a:¬i=0:=fun z=>hz (by rw[z];rfl)
  have b:=zHP (i:=i) (n:=8000) (by have:=h.1;omega) h.2
  have c:2^20=1048576:=by decide
  omega
theorem zAT {X:Cx}:yB X (binaryOp .Mult) (rI (fun i j=>Bg i/\Bg j) fun i j=>.int (i*j)):=kQ fun _ _ _ _ _ _ _ a q=>mul_int q (IntMulOk.of_bits a.1.bits a.2.bits)
section
variable{X:Cx}
theorem zHR {j:Nat}{y:Str}{py spos:Pos}{tg iter elt:bO}{ifs:List bO}{scope:fi}{pos:Pos}{wi:TI}{g:TG}{tc:TT}{te:TE}{N:List Str}{caps:List Nat}(hN:X.N.Nodup)(hj:X.N[j]?=some y)(hy:gZ X.env.scope y)(hc:X.calm=true)(S:CompScope X.env.scope X.N N scope caps)
  (hi:PI X tg iter wi) (hg:∀cl C s H ex,PG (yP X N scope cl C s H ex) tg g) (hf:∀cl C s H ex,PF (yP X N scope cl C s H ex) ifs tc) (he:∀cl C s H ex,PE (yP X N scope cl C s H ex) elt te)
  (hs:∀x,foldedSetIterable iter X.env x=pure x:=by intro _;rfl) (hsw:swapsWith (.ListComp elt [⟨tg,iter,ifs,0⟩] scope pos) (some (.Name y py)) spos.line X.env=pure true:=by rfl)
  (hfn:X.fn y=true\/X.env.scope.names.lookup y=some .local:=by first|exact .inl rfl|exact .inr rfl|assumption):PS X (.Assign [.Name y py] (.ListComp elt [⟨tg,iter,ifs,0⟩] scope pos) spos) (zEL (zBn wi g tc te caps N.length) (qX j)):=by
 intro pins s σ H D0 I h
 obtain⟨cl,hcl,hcl1,hcl2⟩:=zEz (env:=X.env) (scope:=scope) fun y hy e=>I.ok.has y.1 (S.free y hy e)
 rw[exec_Assign_Name_used _ _ _ _ hsw]
 refine af (o8 (af ?_))
 show wpAny _ X.A (do let _<-comprehension (.ListComp elt [⟨tg,iter,ifs,0⟩] scope pos) scope X.env _ (newList []) false (eval iter X.env) (some (assign (.Name y py) X.env))) _ _ s
 refine af (b8 (i0 (use:=some (assign (.Name y py) X.env)) (Q:=fun _ s'=>SP X pins D0 .next s') rfl hs hcl S.kind S.names (zH (hi pins s σ H _ I h) fun v s1 h1=>zH h1 fun itv s2 h2=>?_))
  (fun _ s' hq=>av (av hq)) fun _ _ e=>e)
 obtain⟨it,fp,tn,J,H2,e,I2,T,st2,f2,W,⟨m0,w0⟩,turn⟩:=h2
 subst e
 refine cG (lI S.nocell (by intro y hy;simp at hy) (fun h₁ hns hsb=>?_) S.kind)
 dsimp only at hns hsb⊢
 generalize hG:s2.heap.push {cls:=.type "list",dict:=none,data:=.seq ([]:List ah).toArray}=G at hns hsb⊢
 have hCs:G.objs.size=s2.heap.objs.size+1:=by rw[<-hG,bF]
 have hDC:s2.heap.objs.size≠G.objs.size:=by rw[hCs];exact aS (b6 _)
 have old:∀b o,s2.heap.get? b=some o->h₁.get? b=some o:=fun b o e=>by
  have hb:=aE e
  refine hsb.extBut b o (by rw[hCs];exact aS (bC hb)) (ag _ ?_)
  rw[<-hG]
  exact ag _ e
 have hD:h₁.get? s2.heap.objs.size=some {cls:=.type "list",dict:=none,data:=.seq ([]:List ah).toArray}:=by
  refine hsb.extBut _ _ hDC (ag _ ?_)
  rw[<-hG]
  exact aB _ rfl
 have hfo:∀b∈fp,b<s2.heap.objs.size:=fun b hb=>let⟨o,e,_⟩:=T.obj 0 _ st2 b hb;aE e
 have hCle:s2.heap.objs.size<=G.objs.size:=by omega
 have ok:=zFD (C:=G.objs.size) I2 S hcl1 hcl2 hCle f2 hfo
 have I0:Inv (yP X N scope cl G.objs.size s2 H2 fp) [(s2.heap.objs.size,{cls:=.type "list",dict:=none,data:=.seq ([]:List ah).toArray})] (vL caps N.length σ) H2 {s2 with heap:=h₁,toks:=s2.toks+([]:List (Str×ah)).length} :=
  zFE I2 ok S hcl1 hcl2 old hns hCle hD (ay _) hDC (fun v z=>by cases z)
 have st1:tn 0 h₁:=T.keep 0 _ _ st2 fun b _ o e=>old b o e
 generalize hX:yP X N scope cl G.objs.size s2 H2 fp=X' at I0
 generalize hDa:s2.heap.objs.size=D at I0 hD hDC
 have loop:codeAny (model X.prog X.w) X.A (.compLoop (.ListComp elt [⟨tg,iter,ifs,0⟩] scope pos) 0 (.ref it) (.ref D) (compEnvC scope cl G.objs.size X.env)) (compPost (model X.prog X.w) X.A X.xe (some (assign (.Name y py) X.env)) (fun _ s'=>SP X pins D0 .next s') (.ref D) G.objs.size)
   {s2 with heap:=h₁,toks:=s2.toks+([]:List (Str×ah)).length}:=by
  subst hX
  refine zFA (J:=fun n s'=>∃i σ' H' acc its e,Inv (yP X N scope cl G.objs.size s2 H2 fp) [(D,{cls:=.type "list",data:=.seq (fA its) e})] σ' H' s'/\zN acc its/\acc.length<=sizeLine/\tn i s'.heap/\(∀b∈fp,H' b=none)/\W i n acc σ' H')
   ?_ m0 ⟨0,_,H2,[],[],0,I0,.nil,bD _,st1,fun b hb=>(f2 b hb).1,w0⟩
  rintro n s3 ⟨i,σ3,H3,acc,its,ep,I3,rv,hz,st3,fr3,w3⟩
  have stat:∀{H':Hp} {pl:List (ao×Obj)},(∀b∈fp,H' b=none)->(∀p∈pl,p.1=D)->∀b∈fp,uI (yP X N scope cl G.objs.size s2 H2 fp) pl H' b:=fun{H' pl} hn hpl b hb=>by
   obtain⟨a1,a2⟩:=ok.exf b hb
   exact⟨hn b hb,a1,ok.exfs b hb,.inl hb,fun x c e=>a2 x c e,fun p hp=>by
    have hp':p∈pl:=hp
    rw[hpl p hp',<-hDa]
    exact dj (hfo b hb)⟩
  have one:∀p∈[(D,({cls:=.type "list",data:=.seq (fA its) ep}:Obj))],p.1=D:=fun p hp=>by
   rcases aH.mp hp with e|e
   ·rw[e]
   ·cases e
  have pinD:∀{pl:List (ao×Obj)} {σ':St} {H':Hp} {s':ar} {o:Obj},Inv (yP X N scope cl G.objs.size s2 H2 fp) pl σ' H' s'->(D,o)∈pl->s'.heap.get? D=some o/\H' D=none:=fun{pl σ' H' s' o} I' hm=>by
   obtain⟨a,b,_⟩:=I'.pin (D,o) (aP _ hm)
   exact⟨a,b⟩
  rcases turn i n acc σ3 H3 w3 with⟨stop,q⟩|⟨go,hlt,step⟩
  ·refine b8 (T.done (yP X N scope cl G.objs.size s2 H2 fp) rfl rfl rfl hc i _ s3 σ3 H3 (fun _ _=>False) I3 (stat fr3 one) st3 stop) (fun r s4 ⟨hr,I4⟩=>?_) fun _ _ f=>f
   subst hr
   obtain⟨hDo,hDn⟩:=pinD I4 (aj ..)
   obtain⟨m4,hm4,_⟩:=I4.loc
   have keepC:∀b (u:Obj),b≠G.objs.size->s4.heap.get? b=some u->s4.heap.get? b=some u:=fun b u _ e=>e
   have un:Un (vU X.stack) fp H2 H3 s2.heap s4.heap:=I4.base
   have hDo':=hDo
   have hlow:∀b (o:Obj),s2.heap.get? b=some o->b≠G.objs.size/\b≠D:=fun b o e=>by
    have h0:=aE e
    exact⟨by rw[hCs];exact aS (bC h0),by rw[<-hDa];exact aS h0⟩
   have un':Un (vU X.stack) fp H2 (upd H3 D (.lst acc)) s2.heap s4.heap :=
    ⟨fun b o e n' hb hx=>keepC b o (hlow b o e).1 (un.keep b o e n' hb hx),
     fun b o e n' hb hx=>let⟨sl,q⟩:=un.slot b o e n' hb hx;⟨sl,keepC b _ (hlow b o e).1 q⟩,
     fun b o e n' hx=>by rw[zG (hlow b o e).2];exact un.free b o e n' hx,
     fun b o e hx=>let⟨o',q⟩:=un.there b o e hx;⟨o',keepC b _ (hlow b o e).1 q⟩,
     fun b xs e=>by rw[zG (yI (un.tups b xs e) hDn)];exact un.tups b xs e,
     fun b o u e=>by rw[zG (yI (un.frzs b o u e) hDn)];exact un.frzs b o u e,
     fun b ps e=>let⟨mo,q⟩:=un.tbls b ps e;⟨mo,by rw[zG (yI q hDn)];exact q⟩⟩
   have hok:z6 X.prog X.w (upd H3 D (.lst acc)) s4.heap:=I4.hok.track hDn ⟨hz,its,ep,rv,hDo'⟩
   have IX:Inv X pins σ (upd H3 D (.lst acc)) s4:=I2.call' I4.os un' hok I4.bare (fun b hb=>by
    obtain⟨_,f1,_,f3,f4,f5⟩:=f2 b hb
    exact⟨f3,f1,f4,f5⟩)
   have hCn:upd H3 D (.lst acc) G.objs.size=none:=by
    rw[zG (dS hDC)];exact I4.free
   have fpC:uI X pins (upd H3 D (.lst acc)) G.objs.size:=I2.fpOk hCle hCn
   obtain⟨oC,es,epC,hoC,hdC,hsk,hnf⟩:=hm4
   have IXp:=IX.pinned (fp:=[G.objs.size]) (fun b hb=>by
    have:b=G.objs.size:=by simpa using hb
    rw[this];exact fpC) (fun b hb=>by
    have:b=G.objs.size:=by simpa using hb
    rw[this];exact⟨oC,hoC,fun v z=>by rw[hdC]at z;cases z⟩)
   refine mG (zBX IXp hN hj hy (v:=.ref D) rfl (fun s5 I5=>?_) hfn)
   have pC:=(I5.pin (G.objs.size,oC) (aP _ (aP _ (jV (aj ..) hoC)))).1
   refine⟨m4,⟨oC,es,epC,pC,hdC,hsk,hnf⟩,fun h' hsb'=>?_⟩
   obtain⟨c0,c1,c2,c3,c4,c5⟩:=fpC
   exact⟨_,_,I5.unpinned.turned (t':=s5.toks) (fun b o hb e=>hsb'.extBut b o hb e) c0 c1 c3 c4 c5,q D hDn⟩
  ·refine b8 (T.item (yP X N scope cl G.objs.size s2 H2 fp) rfl rfl rfl hc i _ s3 σ3 H3 (fun _ _=>False) I3 (stat fr3 one) st3 go) (fun r s4 ⟨u,hr,h4⟩=>?_) fun _ _ f=>f
   subst hr
   refine zH h4 fun _ s5 ⟨x,H5,I5,r5,y5,st5,fr5⟩=>?_
   have I5':=I5.pinned (stat fr5 one) (T.obj _ _ st5)
   refine zH (hg cl G.objs.size s2 H2 fp _ s5 σ3 H5 x u _ I5' r5 (step x H5 y5)) fun _ s6 ⟨σ6,H6,I6,q6⟩=>?_
   refine zH (hf cl G.objs.size s2 H2 fp _ s6 σ6 H6 _ I6 q6) fun b s7 ⟨H7,I7,q7⟩=>?_
   have fin:∀{pl:List (ao×Obj)} {σ':St} {H':Hp} {s':ar},Inv (yP X N scope cl G.objs.size s2 H2 fp) (pl++kP fp s5.heap) σ' H' s'->tn (i+1) s'.heap/\∀b∈fp,H' b=none:=fun{pl σ' H' s'} I'=>by
    refine⟨T.keep _ _ _ st5 fun b hb o e=>(I'.pin (b,o) (aP _ (aP _ (jV hb e)))).1,fun b hb=>?_⟩
    obtain⟨o,e,_⟩:=T.obj _ _ st5 b hb
    exact(I'.pin (b,o) (aP _ (aP _ (jV hb e)))).2.1
   cases b with
   |false=>
    rw[if_neg aT]at q7⊢
    obtain⟨m',hm,w7⟩:=q7
    obtain⟨a1,a2⟩:=fin I7
    exact⟨m',hm,i+1,σ6,H7,acc,its,ep,I7.unpinned,rv,hz,a1,a2,w7⟩
   |true=>
    rw[if_pos rfl]at q7⊢
    refine zH (he cl G.objs.size s2 H2 fp _ s7 σ6 H7 _ I7 q7) fun y s8 ⟨yv,H8,I8,r8,m',hm,w8⟩=>?_
    obtain⟨a1,a2⟩:=fin I8
    obtain⟨b1,b2⟩:=pinD I8 (bG _ (aj ..))
    have hl:=rv.length
    refine gj iD ⟨_,b1,rfl⟩ ie (gp _ _) (iU D its.toArray ep y (by rw[bq];omega)) ⟨b1,?_⟩
    have q9:=jh b1 (·.push y)
    have kp:∀b o,b≠D->s8.heap.get? b=some o->(s8.heap.update D (cu (·.push y))).get? b=some o:=fun b o hb e=>(bw s8.heap (cu (·.push y)) (dS hb)).trans e
    have I9:Inv (yP X N scope cl G.objs.size s2 H2 fp) [] σ6 H8 {s8 with heap:=s8.heap.update D (cu (·.push y))} :=
     (I8.pins_of (pins':=[]) fun p hp=>by cases hp).turned (t':=s8.toks) kp b2 hDC (.inr (by rw[<-hDa];exact ay _)) (fun x c e z=>by
      have e':X.env.cells.lookup x=some c:=hcl1 x c e
      obtain⟨v',hv'⟩:=I2.cell x c e'
      have h0:=hv'.lt
      rw[z,<-hDa]at h0
      exact bE _ h0) fun p hp=>by
       have:p∈([]:List (ao×Obj)):=hp
       cases this
    have hpu:its.toArray.push y=(its++[y]).toArray:=by simp
    rw[hpu]at q9
    obtain⟨e9,q9⟩:∃e9,(s8.heap.update D (cu (·.push y))).get? D=some {cls:=.type "list",data:=.seq (its++[y]).toArray e9}:=⟨_,q9⟩
    refine⟨m',hm,i+1,σ6,H8,acc++[yv],its++[y],e9,I9.pins_of fun p hp=>?_,rv.append (.cons r8 .nil),?_,T.keep _ _ _ a1 fun b hb o e=>kp b o ?_ e,a2,w8⟩
    ·obtain rfl:p=(D,{cls:=.type "list",data:=.seq (its++[y]).toArray e9}):=by
      rcases aH.mp hp with e|e
      ·exact e
      ·cases e
     obtain⟨_,_,c3,c4,_⟩:=I8.pin (D,_) (aP _ (bG _ (aj ..)))
     exact⟨q9,b2,c3,c4,fun v z=>by cases z⟩
    ·rw[aI,cK];omega
    ·rintro rfl
     have h0:=hfo b hb
     rw[hDa]at h0
     exact bE _ h0
 exact kb loop (T.self X.A 0 _ _ _ st1 loop)
end
end L2
end
section
namespace Kn.Ln
open PySem L2 Kn
theorem zBO (n:Nat):(0:Int)<2^n:=c9 (by decide)
theorem zDU {a b:Nat}(h:a<=b):(2:Int)^a<=2^b:=by
 have c:2^a<=2^b:=cQ (by decide) h
 have d:((2^a:Nat):Int)=(2:Int)^a:=by simp
 have e:((2^b:Nat):Int)=(2:Int)^b:=by simp
 rw[<-d,<-e];exact pV.mpr c
theorem zHS {U:Int}{n:Nat}(a:0<U)(h:U<=2^n):U^9<=2^(n*9):=by
 have go:∀k:Nat,U^k<=2^(n*k):=by
  intro k
  induction k with
  |zero=>simp
  |succ k ih=>
   rw[fB,Nat.mul_succ,lR]
   exact eI ih h (bo a) (bo (zBO _))
 exact go 9
section
variable{P:aL}{w:aU}{K:ae}{mg:Str->Option ah}{base:bx}
def zDV:Sp:=fun vs H Q _=>∃u d:Int,vs=[.int u,.int d]/\0<=u/\0<d/\Q (.int (yA u d)) H
def zBP:Sp:=fun vs H Q _=>∃u d:Int,vs=[.int u,.int d]/\0<=u/\0<d/\d<2^8000/\∀p,H p=none->Q (.ref p) (upd H p (jQ (low u d)))
theorem zNg {vs:List V}{H:Hp}{Q:VK}{E:XK}(h:zCX vs H Q E):zDV vs H Q E:=by
 obtain⟨u,d,rfl,a,b,c,k⟩:=h
 exact⟨u,d,rfl,a,b,k⟩
theorem zNh {vs:List V}{H:Hp}{Q:VK}{E:XK}(h:zBC vs H Q E):zBP vs H Q E:=by
 obtain⟨u,d,rfl,c,e,f,k⟩:=h
 refine⟨u,d,rfl,c,e,?_,k⟩
 have g:=zDU (a:=30) (b:=8000) (by decide)
 have i:(2:Int)^30=1073741824:=by decide
 omega
theorem zNi {f:ao}{fd:aY}(F:Fun K "greatest_divisor" "greatest_divisor" zCY f fd):FnOk P w K mg base zY 1 f fd ["one","other"] zDV:=by
 refine F.ok zFo (fun vs H Q E h=>?_) (fun t A outer s H vs Q E C h=>?_)
 ·obtain⟨a,b,rfl,_⟩:=h;rfl
 ·obtain⟨u,d,rfl,j,l,k⟩:=h
  have nd:=zFo.nd
  refine⟨_,zO (zEM bL (yS zAB (pv 1) zL (yQ _))
    (zO (z8 (i:=2) nd rfl (Or.inl rfl) (zW jW (pv 0) (pv 1))) (zO (z8 (i:=0) nd rfl (Or.inl rfl) (pv 1)) (zP (z8 (i:=1) nd rfl (Or.inl rfl) (pv 2))))))
   (zP (zZ (pv 0))),?_⟩
  refine⟨fun m σ H'=>H'=H/\∃(a b:Int) (r:Option V),σ=[some (.int a),some (.int b),r]/\m=b.toNat/\0<=a/\0<=b/\gm a b=gm u d,⟨_,rfl,u,d,none,rfl,rfl,j,bo l,rfl⟩,?_⟩
  rintro m σ H' ⟨rfl,a,b,r,rfl,rfl,o,v,p⟩
  refine⟨_,rfl,rfl,_,rfl,?_⟩
  by_cases hz:b=0
  ·subst hz
   refine j2 rfl ⟨_,rfl,?_⟩
   have e:a=yA u d:=by
    unfold yA
    rw[<-p]
    obtain⟨x,rfl⟩:=ck o
    simp
   show Q (.int a) H'
   rw[e]
   exact k
  ·have c:0<b:=by omega
   have n:¬(V.int b=V.int 0):=fun z=>hz (V.int.inj z)
   have y:(!decide (V.int b=V.int 0))=true:=by rw[decide_eq_false n];rfl
   show if(!decide (V.int b=V.int 0))=true then _ else _
   rw[if_pos y]
   refine⟨fun q g=>g=H'/\q=[some (.int b),some (.int (a%b)),some (.int (a%b))],?_,?_⟩
   ·rintro q g ⟨rfl,rfl⟩
    have B:=ky a hz
    have D:=iJ a c
    exact⟨(a%b).toNat,by omega,rfl,b,a%b,_,rfl,rfl,v,B,by rw[zLm o c];exact p⟩
   ·exact⟨_,rfl,_,rfl,_,_,rfl,rfl,c,_,rfl,_,rfl,rfl,rfl⟩
theorem zNj {f:ao}{fd:aY}(F:Fun K "lowest" "lowest" zCZ f fd)(c1:zR P w K mg base 1 "greatest_divisor" ["one","other"] zDV):FnOk P w K mg base zY 2 f fd ["up","down"] zBP:=by
 refine F.ok zFp (fun vs H Q E h=>?_) (fun g A outer s H vs Q E j h=>?_)
 ·obtain⟨a,b,rfl,_⟩:=h;rfl
 ·obtain⟨u,d,rfl,e,c,l,k⟩:=h
  have nd:=zFp.nd
  refine⟨_,zO (z8 (i:=2) nd rfl (Or.inl rfl) (zM c1 j rfl (zB (pv 0) (zB (pv 1) zD))))
   (zP (zZ (uJ (zB (zW zHQ (pv 0) (pv 2)) (zB (zW zHQ (pv 1) (pv 2)) zD))))),?_⟩
  have g1:=zAJ (u:=u) c
  have g2:yA u d<=d:=pj c (d7 ..)
  refine⟨_,rfl,_,rfl,u,d,rfl,e,c,?_⟩
  exact⟨_,rfl,_,rfl,_,_,rfl,rfl,⟨g1,by omega⟩,_,rfl,_,rfl,_,_,rfl,rfl,⟨g1,by omega⟩,by show 2<=sizeLine;decide,k⟩
def zHT:Sp:=fun vs H Q _=>∃o a b:Nat,vs=[.int o,.int a,.int b]/\a<=o/\o<=b/\Q .non H
abbrev zDW:cq:=top 17
theorem zNk:FnScope ["thing","least","most"] ["thing","least","most"] (defScope zDW):=z7
theorem zNl {f:ao}{fd:aY}(F:Fun K "need_whole" "need_whole" zDW f fd)(c1:zR P w K mg base 1 "is_whole" ["thing","least","most"] zCN):FnOk P w K mg base zY 2 f fd ["thing","least","most"] zHT:=by
 refine F.ok zNk (fun vs H Q E h=>?_) (fun c A outer s H vs Q E d h=>?_)
 ·obtain⟨o,a,b,rfl,_⟩:=h;rfl
 ·obtain⟨o,a,b,rfl,e,g,k⟩:=h
  refine⟨_,zP (vI (qB (uV (zM c1 d rfl (zB (pv 0) (zB (pv 1) (zB (pv 2) zD)))))) (zP zAd) vH),?_⟩
  exact⟨_,rfl,_,rfl,_,rfl,o,a,b,rfl,e,g,true,rfl,vK k⟩
def zHU:Sp:=fun vs H Q _=>∃n:Nat,vs=[.int n]/\1<=n/\n<=8/\Q .non H
abbrev zDX:cq:=top 46
theorem zNm:FnScope ["thing"] ["thing"] (defScope zDX):=z7
theorem zNn {f:ao}{fd:aY}(F:Fun K "need_length" "need_length" zDX f fd)(C:Cst K mg)(c1:zR P w K mg base 2 "need_whole" ["thing","least","most"] zHT):FnOk P w K mg base zY 3 f fd ["thing"] zHU:=by
 obtain⟨g,a⟩:=C.ml
 refine F.ok zNm (fun vs H Q E h=>?_) (fun b A outer s H vs Q E c h=>?_)
 ·obtain⟨n,rfl,_⟩:=h;rfl
 ·obtain⟨n,rfl,d,e,k⟩:=h
  refine⟨_,zP (vE (zM c1 c rfl (zB (pv 0) (zB zL (zB (v7 (v:=.int 8) (by rfl) a ⟨_,rfl⟩) zD))))),?_⟩
  exact⟨_,rfl,n,1,8,rfl,d,e,k⟩
theorem kK (ps:List (S×S))(a:y7 ps)(o n:Nat):∃M:List S,M.Nodup/\∀x,x∈M↔y8 ps o n x :=
 ⟨_,(zAP (uQ ps) a o n).filter _,fun x=>(gN (uQ ps) a o n x).symm⟩
theorem zNo {ps:List (S×S)}{o n:Nat}{M a:List S}(b:M.Nodup)(c:∀x,x∈M↔y8 ps o n x)(d:a.Nodup)(e:∀x,x∈a↔y8 ps o n x):M.length=a.length :=
 (zCz b d fun x=>by rw[c,e]).length_eq
theorem zHV (n:Nat):(aD n [V.str ""]).flatten=(aD n ([]:S)).map sv:=by
 induction n with
 |zero=>rfl
 |succ n ih=>rw[c7,d4,ih,c7,aC];rfl
abbrev zDY:cq:=top 47
theorem zNp:FnScope ["rows","order","length"] ["rows","order","length"] (defScope zDY):=z7
def zAU (ps:List (S×S))(o n N:Nat):Prop:=∀M:List S,M.Nodup->(∀x,x∈M↔y8 ps o n x)->N=M.length
def zDZ:Sp:=fun vs H Q _=>∃(d:ao) (o n:Nat) (bk:List S),vs=[.ref d,.int o,.int n]/\Bk bk o/\v6 H d (zC o bk)/\n<=8/\∀(N:Nat) (H':Hp),zA H H'->zAU (zC o bk) o n N->Q (.int N) H'
theorem zNq {f:ao}{fd:aY}(F:Fun K "how_many_by_rows" "how_many_by_rows" zDY f fd)(i:∃t,mg "ANY"=some (.str "" t))(x:zR P w K mg base 1 "even_parts" ["rows"] (zGj K))(y:zR P w K mg base 3 "sum_along" ["parts","order","weight","pattern"] (zDL K)):FnOk P w K mg base zY 4 f fd ["rows","order","length"] zDZ:=by
 obtain⟨u,i⟩:=i
 refine F.ok zNp (fun vs H Q E h=>?_) (fun z A outer s H vs Q E m h=>?_)
 ·obtain⟨d,o,n,bk,rfl,_⟩:=h;rfl
 ·obtain⟨d,o,n,bk,rfl,p,R,B,k⟩:=h
  have C:=m.mono (j:=1) (by decide)
  have D:=zDG p
  refine⟨_,zP (zZ (zM y m rfl (zB (zM x C rfl (zB (pv 0) zD)) (zB (pv 1) (zB zL (zB (zW zEn (vJ (zB (v7 (v:=.str "") (by rfl) i ⟨_,rfl⟩) zD)) (pv 2)) zD)))))),?_⟩
  refine⟨_,rfl,d,zC o bk,rfl,R,by omega,fun G c I J L=>?_⟩
  refine⟨_,rfl,by show 1<=sizeLine;decide,fun g hl0=>?_⟩
  have q:zA c (upd c g (.lst [V.str ""])):=zA.upd1 hl0
  refine⟨_,rfl,g,n,[V.str ""],rfl,rfl,zE,by omega,by omega,by rw[aZ];show 1*(n:Int).toNat<=_;omega,fun pl l=>?_⟩
  have r:zA (upd c g (.lst [V.str ""])) (upd (upd c g (.lst [V.str ""])) pl (.lst (aD (n:Int).toNat [V.str ""]).flatten)):=zA.upd1 l
  refine⟨G,pl,o,bk,fun _ _=>(1,1),1,aD n [],rfl,p,(L.same q).same r,fun _ _=>(by decide:(0:Int)<=1/\(1:Int)<1000000/\(0:Int)<1/\(1:Int)<1000000),?_,by rw[dU];omega,fun N O=>?_⟩
  ·rw[zE]
   have:(n:Int).toNat=n:=by omega
   rw[this,zHV]
  ·obtain⟨M,a,b⟩:=kK (zC o bk) (u4 o bk) o n
   have e:tots (fun e h=>zV h (vY (zC o bk) (fun _ _=>(1,1)) e)) (Ss (z4 (zC o bk)) (fun _ _=>(1,1)) o 1 (aD n []))=(M.length:Int):=zMi (uQ _) (u4 o bk) a b
   rw[e]
   exact k M.length N ((I.trans q).trans (r.trans O)) fun W T U=>zNo a b T U
abbrev sHM:cq:=top 48
theorem zNr:FnScope ["book","order","length"] ["book","order","length"] (defScope sHM):=z7
def zHW:Sp:=fun vs H Q _=>∃(a:ao) (bk:List S) (o n:Nat),vs=[.ref a,.int o,.int n]/\H a=some (.tup (zU bk))/\Bk bk o/\1<=n/\n<=8/\∀(N:Nat) (H':Hp),zA H H'->zAU (zC o bk) o n N->Q (.int N) H'
structure NeedL (P:aL) (w:aU) (K:ae) (mg:Str->Option ah) (base:bx):Prop where
 bk:zR P w K mg base 3 "need_book" ["thing"] zCQ
 od:zR P w K mg base 3 "need_order" ["thing"] zCS
 ln:zR P w K mg base 3 "need_length" ["thing"] zHU
 rows:zR P w K mg base 3 "counted_rows" ["book","order"] zBB
theorem zNs {f:ao}{fd:aY}(F:Fun K "how_many" "how_many" sHM f fd)(N:NeedL P w K mg base)(p:zR P w K mg base 4 "how_many_by_rows" ["rows","order","length"] zDZ):FnOk P w K mg base zY 5 f fd ["book","order","length"] zHW:=by
 refine F.ok zNr (fun vs H Q E h=>?_) (fun q A outer s H vs Q E i h=>?_)
 ·obtain⟨a,bk,o,n,rfl,_⟩:=h;rfl
 ·obtain⟨a,bk,o,n,rfl,l,b,g,c,k⟩:=h
  have e:=i.mono (j:=3) (by decide)
  refine⟨_,zO (vE (zM N.bk e rfl (zB (pv 0) zD))) (zO (vE (zM N.od e rfl (zB (pv 1) zD))) (zO (vE (zM N.ln e rfl (zB (pv 2) zD)))
   (zP (zZ (zM p i rfl (zB (zM N.rows e rfl (zB (pv 0) (zB (pv 1) zD))) (zB (pv 1) (zB (pv 2) zD)))))))),?_⟩
  refine⟨_,rfl,a,bk,rfl,l,b.toisBk,fun x m=>?_⟩
  refine⟨_,rfl,o,rfl,b.o1,b.o3,?_⟩
  refine⟨_,rfl,n,rfl,g,c,?_⟩
  refine⟨_,rfl,_,rfl,a,bk,o,rfl,m _ _ l,b.hi,b.l8,b.o1,fun d y r hd R=>?_⟩
  exact⟨_,rfl,_,rfl,d,o,n,bk,rfl,b,R,c,fun N t u v=>k N t ((m.trans r).trans u) v⟩
abbrev sAM:cq:=top 55
theorem zHX:FnScope ["book","order","length","rows","closing","texts","left"] ["book","order","length"] (defScope sAM):=z7
def zHY:Sp:=fun vs H Q _=>∃(a:ao) (bk:List S) (o n:Nat),vs=[.ref a,.int o,.int n]/\H a=some (.tup (zU bk))/\Bk bk o/\Abz bk/\(zC o bk).length<64/\1<=n/\n<=8/\
 ∀(l:ao) (A:List S) (H':Hp),zA H H'->H l=none->H' l=some (.lst (A.map sv))->AllT (zC o bk) o n n A->A.length<=3^n->Q (.ref l) H'
theorem zNt {f:ao}{fd:aY}(F:Fun K "all_made" "all_made" sAM f fd)(B:Blt mg)(N:NeedL P w K mg base)(cC:zR P w K mg base 3 "closing_ends" ["rows","order","length"] zHL)(cL:zR P w K mg base 3 "lengthened" ["rows","order","texts","targets"] zHO):FnOk P w K mg base zY 4 f fd ["book","order","length"] zHY:=by
 refine F.ok zHX (fun vs H Q E h=>?_) (fun an A outer s H vs Q E G h=>?_)
 ·obtain⟨a,bk,o,n,rfl,_⟩:=h;rfl
 ·obtain⟨a,bk,o,n,rfl,ha,p,r,I,J,L,k⟩:=h
  have nd:=zHX.nd
  refine⟨_,zO (vE (zM N.bk G rfl (zB (pv 0) zD))) (zO (vE (zM N.od G rfl (zB (pv 1) zD))) (zO (vE (zM N.ln G rfl (zB (pv 2) zD)))
   (zO (z8 (i:=3) nd rfl (Or.inl rfl) (zM N.rows G rfl (zB (pv 0) (zB (pv 1) zD))))
   (zO (z8 (i:=4) nd rfl (Or.inl rfl) (zM cC G rfl (zB (pv 3) (zB (pv 1) (zB (pv 2) zD)))))
   (zO (z8 (i:=5) nd rfl (Or.inl rfl) (vJ (zB u9 zD)))
   (zO (v8 bL rfl (zNP rfl B.range (zB (zW zJE (pv 2) zL) (zB (g8 zAA zL) (zB (g8 zAA zL) zD)))) (z9 (i:=6) nd rfl (Or.inl rfl))
     (zP (z8 (i:=5) nd rfl (Or.inl rfl) (zM cL G rfl (zB (pv 3) (zB (pv 1) (zB (pv 5) (zB (yM jY (pv 4) (pv 6) (fun _ _=>rfl)) zD))))))))
   (zP (zZ (pv 5))))))))),?_⟩
  refine⟨_,rfl,a,bk,rfl,ha,p.toisBk,fun H1 s1=>?_⟩
  refine⟨_,rfl,o,rfl,p.o1,p.o3,?_⟩
  refine⟨_,rfl,n,rfl,J,L,?_⟩
  refine⟨_,rfl,_,rfl,a,bk,o,rfl,s1 _ _ ha,p.hi,p.l8,p.o1,fun d H2 s2 hd R=>?_⟩
  refine⟨_,rfl,_,rfl,_,rfl,d,o,n,bk,rfl,p,I,R,J,L,fun c cl W s3 hc X ap=>?_⟩
  have u:=(s1.trans s2).trans s3
  refine⟨by show 1<=sizeLine;decide,fun Y M=>?_⟩
  have s4:zA W (upd W Y (.lst [V.str ""])):=zA.upd1 M
  refine⟨_,rfl,_,_,rfl,rfl,_,rfl,_,rfl,(n:Int)-1,-1,rfl,⟨by omega,by omega,by decide,by decide⟩,?_⟩
  have O:((n:Int)-1- -1).toNat=n:=by omega
  have Z:H Y=none:=u.free M
  obtain⟨ab,ac⟩:=X
  refine jB (zNL _ _ _) (fun i σ H'=>∃(v:ao) (x6:Option V) (A:List S),σ=[some (.ref a),some (.int o),some (.int n),some (.ref d),some (.ref c),some (.ref v),x6]/\H v=none/\H' v=some (.lst (A.map sv))/\AllT (zC o bk) o n i A/\A.length<=3^i/\zA W H')
   ⟨Y,_,[[]],rfl,Z,zE,AllT.start _ _ _,by simp,s4⟩ (fun _ _ _ _ _=>trivial) ?_ ?_
  ·rintro i x σ H' Nx hN y ⟨v,x6,A,rfl,T,hA,b,z,C⟩
   rw[O]at y
   have hi:i<n:=by
    have:=(ai.mp y).1
    simpa using this
   rw[aq,dE hi]at y
   have hx2:x=V.int ((n-1-i:Nat):Int):=by
    have h1:V.int ((n:Int)-1+(i:Int)* -1)=x:=aw y
    rw[<-h1]
    congr 1
    omega
   subst hx2
   obtain⟨q,hq⟩:∃q,cl[n-1-i]?=some q:=⟨_,aG (by omega)⟩
   obtain⟨_,q2,q3⟩:=ac _ _ hq
   have al:uW (cl.map fun q=>V.ref q.1) ((n-1-i:Nat):Int)=some (V.ref q.1):=zAg (by rw[aq,hq];rfl)
   have as:A.length<=6561:=by
    have h1:3^i<=3^8:=cQ (by decide) (by omega)
    have h2:3^8=6561:=by decide
    omega
   have g:∀t∈A,t.length<=8/\∃l,(zF t o,l)∈zC o bk:=fun t j=>by
    obtain⟨g1,g2,g3⟩:=b.snd t j
    refine⟨by omega,?_⟩
    by_cases am:0<i
    ·exact zNX (g3 am)
    ·have:t=[]:=cn.mp (by omega)
     rw[this]
     have e0:zF ([]:S) o=[]:=by unfold zF;simp
     rw[e0]
     exact zHC p
   refine⟨_,rfl,_,rfl,_,rfl,_,rfl,_,rfl,c,_,((n-1-i:Nat):Int),V.ref q.1,rfl,rfl,.of (C _ _ ab),al,d,v,q.1,o,bk,A,q.2,rfl,p,r,I,(R.same s3).same C,hA,C _ _ q2,by omega,g,fun l lt H5 s5 hl D U=>?_⟩
   have m:∀t∈A,zAS (zC o bk) o q.2 (zF t o) (lt (zF t o)):=fun t j=>D _ (g t j).2
   refine hN _ _ ⟨l,_,_,rfl,(u.trans C).free hl,U,b.step (u4 o bk) hi lt (fun t j=>(m t j).1) (fun t j x=>?_),?_,C.trans s5⟩
   ·rw[(m t j).2,q3,show n- (i+1)=n-1-i by omega]
   ·have h1:=zHM A (fun t=>(lt (zF t o)).map (t++·)) fun t j=>by
     rw[aa]
     exact zDS r (e:=zF t o) (m t j).1 fun x y=>⟨(((m t j).2 x).mp y).1,(((m t j).2 x).mp y).2.1⟩
    rw[pQ];omega
  ·rintro σ H' ⟨v,x6,A,rfl,T,hA,b,z,C⟩
   rw[aa,bK,O]at b z
   exact⟨_,rfl,k v A H' (u.trans C) T hA b z⟩
end
theorem zNu (ps:List (S×S))(e:S):vY ps (zJ ps) e=zJ ps e []:=by
 unfold vY
 by_cases c:(e,[])∈ps
 ·rw[if_pos c]
 ·rw[if_neg c,zAz c]
def yO (ps:List (S×S))(o:Nat)(U:Int)(n:Nat):Int:=tots (fun e h=>zV h (zJ ps e [])) (Ss (z4 ps) (zJ ps) o (U^9) (aD n []))
structure Unit9 (ps:List (S×S)) (U:Int):Prop where
 pos:0<U
 dvd:∀e l,(zJ ps e l).2∣U
 le:U<=2^60
theorem zBQ {ps:List (S×S)}(b:y7 ps){o n:Nat}{U:Int}(a:Unit9 ps U)(c:n<=8){M:List S}(d:M.Nodup)(e:∀x,x∈M↔y8 ps o n x):yO ps o U n=(M.map (Wn ps o (U^9))).sum:=zMg (uQ ps) b a.pos a.dvd c d e
theorem zHZ {ps:List (S×S)}{o:Nat}{U:Int}(a:Unit9 ps U):∀{M:List S},(∀x∈M,x.length<=8)->0<=(M.map (Wn ps o (U^9))).sum
 | [],_=>by simp
 |x::M,h=>by
  rw[aC,aO]
  have c:=(zGb (o:=o) a.pos a.dvd (h x (aj ..))).1
  have d:=zHZ (o:=o) a (M:=M) fun y b=>h y (ak _ b)
  omega
theorem gQ {ps:List (S×S)}(a:y7 ps){o n:Nat}{U:Int}(b:Unit9 ps U)(c:n<=8):0<=yO ps o U n:=by
 obtain⟨M,e,d⟩:=kK ps a o n
 rw[zBQ a b c e d]
 exact zHZ b fun x f=>by rw[((d x).mp f).1];exact c
def zAV (ps:List (S×S))(o:Nat)(ns:List Nat)(q:Int×Int):Prop:=∃U,Unit9 ps U/\q=low (ns.map (yO ps o U)).sum (U^9)
theorem zNv {ps:List (S×S)}(a:1<=ps.length)(b:ps.length<900):Smf (zJ ps):=fun e l=>by
 have f:=v5 ps e l
 have d:=zCD (ps:=ps) e l a
 refine⟨f.up,?_,f.dn,by omega⟩
 have c:(zJ ps e l).1<=(zJ ps e l).2:=by
  unfold zJ
  split
  ·decide
  ·have g:=qK ps e l
   exact zAy (by omega) (by omega) (by omega)
 omega
section
variable{P:aL}{w:aU}{K:ae}{mg:Str->Option ah}{base:bx}
abbrev zDa:cq:=top 49
theorem zHa:FnScope ["book","order","least","most","rows","parts","whole","weights"] ["book","order","least","most"] (defScope zDa):=z7
theorem zNw:(["parts","order","whole","length"]:List Str).Nodup:=by decide+kernel
def zDb (K:ae):Sp:=fun vs H Q _=>∃(a:ao) (bk:List S) (o lo hi:Nat),vs=[.ref a,.int o,.int lo,.int hi]/\H a=some (.tup (zU bk))/\Bk bk o/\(zC o bk).length<=60/\1<=lo/\lo<=hi/\hi<=8/\
 ∀(v:V) (q:Int×Int) (H':Hp),zA H H'->z3 K H' v q->zAV (zC o bk) o ((ba (hi+1-lo)).map (lo+·)) q->Q v H'
structure WayC (P:aL) (w:aU) (K:ae) (mg:Str->Option ah) (base:bx):Prop where
 rows:zR P w K mg base 3 "counted_rows" ["book","order"] zBB
 parts:zR P w K mg base 4 "parts_by_rows" ["rows"] (zGt K)
 wt:zR P w K mg base 3 "whole_weight" ["rows"] zGx
 sum:zR P w K mg base 3 "sum_along" ["parts","order","weight","pattern"] (zDL K)
 low:zR P w K mg base 2 "lowest" ["up","down"] zBP
theorem zNx {f:ao}{fd:aY}(F:Fun K "share_from_to" "share_from_to" zDa f fd)(B:Blt mg)(M:∃t,mg "ANY"=some (.str "" t))(C:WayC P w K mg base):FnOk P w K mg base zY 5 f fd ["book","order","least","most"] (zDb K):=by
 obtain⟨u,M⟩:=M
 refine F.ok zHa (fun vs H Q E h=>?_) (fun ap A outer s H vs Q E O h=>?_)
 ·obtain⟨a,bk,o,lo,hi,rfl,_⟩:=h;rfl
 ·obtain⟨a,bk,o,lo,hi,rfl,ha,q,T,hl1,as,ax,k⟩:=h
  have nd:=zHa.nd
  have W:=O.mono (j:=3) (by decide)
  have r2:=O.mono (j:=2) (by decide)
  refine⟨_,zO (z8 (i:=4) nd rfl (Or.inl rfl) (zM C.rows W rfl (zB (pv 0) (zB (pv 1) zD))))
   (zO (z8 (i:=5) nd rfl (Or.inr rfl) (zM C.parts O rfl (zB (pv 4) zD)))
   (zO (z8 (i:=6) nd rfl (Or.inr rfl) (zM C.wt W rfl (zB (pv 4) zD)))
   (zO (zHR (j:=7) (N:=["parts","order","whole","length"]) (caps:=[5,1,6]) nd rfl (Or.inl rfl) rfl (vF (by kernel_rfl)) (zEO rfl B.range (zB (pv 2) (zB (zW y9 (pv 3) zL) zD)))
     (fun cl X s H ex=>z9 (i:=3) zNw rfl (Or.inl rfl)) (fun cl X s H ex=>uY)
     (fun cl X s H ex=>zM C.sum W rfl (zB (pv 0) (zB (pv 1) (zB (pv 2) (zB (zW zEn (vJ (zB (v7 (v:=.str "") (by rfl) M ⟨_,rfl⟩) zD)) (pv 3)) zD))))))
   (zP (zZ (zM C.low r2 rfl (zB (yX (zFQ rfl) (by rfl) B.sum fg (zB (pv 7) zD)) (zB (pv 6) zD)))))))),?_⟩
  refine⟨_,rfl,_,rfl,a,bk,o,rfl,ha,q.hi,q.l8,q.o1,fun d H1 s1 hd R=>?_⟩
  refine⟨_,rfl,d,zC o bk,rfl,R,by omega,fun pd H2 s2 aA hP=>?_⟩
  refine⟨_,rfl,d,zC o bk,rfl,R.same s2,T,fun U H3 s3 g Y r=>?_⟩
  have hU:Unit9 (zC o bk) U:=⟨g,Y,r⟩
  have Z:=hP.same s3
  have ab:Smf (zJ (zC o bk)):=zNv (zCh q).1 (by omega)
  refine⟨_,rfl,_,rfl,_,_,rfl,rfl,lo,(hi:Int)+1,rfl,⟨by omega,by omega,by omega,by omega⟩,?_⟩
  have l:((hi:Int)+1- (lo:Int)).toNat=hi+1-lo:=by omega
  refine qJ (zAI (lo:Int) _) [some (.ref pd),some (.int o),some (.int (U^9))] 1 (by rw[aa,bK,l];omega) (fun i c H'=>zA H3 H'/\c=((((ba (hi+1-lo)).map (lo+·)).take i).map (yO (zC o bk) o U)).map V.int)
   ⟨zA.refl _,rfl⟩ (fun i c H' _ h=>⟨trivial,by rw[h.2,aa,aa,aQ];omega⟩) ?_ ?_
  ·rintro i x c H' ys Nx hN G hy ⟨I,rfl⟩
   obtain⟨y',rfl⟩:=u5 hy
   rw[l]at G
   have y:i<hi+1-lo:=by
    have:=(ai.mp G).1
    simpa using this
   rw[aq,dE y]at G
   have hx2:x=V.int ((lo+i:Nat):Int):=(aw G).symm
   subst hx2
   have ac:i<((ba (hi+1-lo)).map (lo+·)).length:=by rw[aa,bK];exact y
   have al:((ba (hi+1-lo)).map (lo+·)).take (i+1)=((ba (hi+1-lo)).map (lo+·)).take i++[lo+i]:=by
    rw[az ac]
    congr 1
    simp
   refine⟨_,rfl,_,rfl,_,rfl,by show 1<=sizeLine;decide,fun J hl0=>?_⟩
   have t2:zA H' (upd H' J (.lst [V.str ""])):=zA.upd1 hl0
   refine⟨_,rfl,J,((lo+i:Nat):Int),[V.str ""],rfl,rfl,zE,by omega,by omega,by rw[aZ];show 1*((lo+i:Nat):Int).toNat<=_;omega,fun pl am=>?_⟩
   have t3:zA (upd H' J (.lst [V.str ""])) (upd (upd H' J (.lst [V.str ""])) pl (.lst (aD ((lo+i:Nat):Int).toNat [V.str ""]).flatten)):=zA.upd1 am
   refine⟨pd,pl,o,bk,zJ (zC o bk),U^9,aD (lo+i) [],rfl,q,((Z.same I).same t2).same t3,ab,?_,by rw[dU];omega,fun H4 s4=>?_⟩
   ·rw[zE]
    have:((lo+i:Nat):Int).toNat=lo+i:=by omega
    rw[this,zHV]
   ·refine hN _ _ [some (V.int ((lo+i:Nat):Int))] rfl ⟨(I.trans t2).trans (t3.trans s4),?_⟩
    rw[al,aF,aF]
    have e1:(fun e h=>zV h (vY (zC o bk) (zJ (zC o bk)) e))=fun e h=>zV h (zJ (zC o bk) e []):=by
     funext e h;rw[zNu]
    rw[e1];rfl
  ·rintro c H' ⟨I,rfl⟩ D hD
   rw[aa,bK,l]
   have z:((ba (hi+1-lo)).map (lo+·)).take (hi+1-lo)=(ba (hi+1-lo)).map (lo+·):=eX (by rw[aa,bK];exact ay _)
   rw[z]
   have sD:zA H' (upd H' D (.lst ((((ba (hi+1-lo)).map (lo+·)).map (yO (zC o bk) o U)).map V.int))):=zA.upd1 hD
   have an:0<=(((ba (hi+1-lo)).map (lo+·)).map (yO (zC o bk) o U)).sum:=by
    have go:∀L:List Nat,(∀n∈L,n<=8)->0<=(L.map (yO (zC o bk) o U)).sum:=by
     intro L
     induction L with
     |nil=>intro _;simp
     |cons n L ih=>
      intro h
      rw[aC,aO]
      have h1:=gQ (u4 o bk) (o:=o) hU (h n (aj ..))
      have h2:=ih fun m hm=>h m (ak _ hm)
      omega
    refine go _ fun n hn=>?_
    obtain⟨m,hm,rfl⟩:=au.mp hn
    have:=bz.mp hm
    omega
   have aK:=zHS g r
   have aM:=zDU (a:=60*9) (b:=7999) (by decide)
   have aN:(2:Int)^7999<2^8000:=by
    rw[fB 2 7999]
    have:=zBO 7999
    omega
   refine⟨_,rfl,D,_,rfl,.of zE,_,rfl,_,U^9,rfl,an,c9 g,by omega,fun p hp=>?_⟩
   exact k _ _ _ ((s1.trans (s2.trans s3)).trans (I.trans (sD.trans (zA.upd1 hp)))) z3.new ⟨U,hU,rfl⟩
abbrev zDc:cq:=top 50
theorem zNy:FnScope ["book","order","length"] ["book","order","length"] (defScope zDc):=z7
def zHb (K:ae):Sp:=fun vs H Q _=>∃(a:ao) (bk:List S) (o n:Nat),vs=[.ref a,.int o,.int n]/\H a=some (.tup (zU bk))/\Bk bk o/\(zC o bk).length<=60/\1<=n/\n<=8/\
 ∀(v:V) (q:Int×Int) (H':Hp),zA H H'->z3 K H' v q->zAV (zC o bk) o [n] q->Q v H'
theorem zNz {f:ao}{fd:aY}(F:Fun K "share_of_length" "share_of_length" zDc f fd)(N:NeedL P w K mg base)(r:zR P w K mg base 5 "share_from_to" ["book","order","least","most"] (zDb K)):FnOk P w K mg base zY 6 f fd ["book","order","length"] (zHb K):=by
 refine F.ok zNy (fun vs H Q E h=>?_) (fun t A outer s H vs Q E i h=>?_)
 ·obtain⟨a,bk,o,n,rfl,_⟩:=h;rfl
 ·obtain⟨a,bk,o,n,rfl,l,d,e,b,c,k⟩:=h
  have g:=i.mono (j:=3) (by decide)
  refine⟨_,zO (vE (zM N.bk g rfl (zB (pv 0) zD))) (zO (vE (zM N.od g rfl (zB (pv 1) zD))) (zO (vE (zM N.ln g rfl (zB (pv 2) zD)))
   (zP (zZ (zM r i rfl (zB (pv 0) (zB (pv 1) (zB (pv 2) (zB (pv 2) zD))))))))),?_⟩
  refine⟨_,rfl,a,bk,rfl,l,d.toisBk,fun z m=>?_⟩
  refine⟨_,rfl,o,rfl,d.o1,d.o3,?_⟩
  refine⟨_,rfl,n,rfl,b,c,?_⟩
  refine⟨_,rfl,_,rfl,_,rfl,_,rfl,a,bk,o,n,n,rfl,m _ _ l,d,e,b,ay _,c,fun v q u x y p=>k v q u (m.trans x) y ?_⟩
  have:(ba (n+1-n)).map (n+·)=[n]:=by rw[show n+1-n=1 by omega];simp
  rw[this]at p
  exact p
abbrev zDd:cq:=top 56
theorem zHc:FnScope ["book","order","rows"] ["book","order"] (defScope zDd):=z7
theorem zOA:(["rows","order","length"]:List Str).Nodup:=by decide+kernel
def zHd:Sp:=fun vs H Q _=>∃(a:ao) (bk:List S) (o:Nat),vs=[.ref a,.int o]/\H a=some (.tup (zU bk))/\Bk bk o/\
 ∀(l:ao) (L:List Nat) (H':Hp),zA H H'->H l=none->H' l=some (.lst (L.map fun(n:Nat)=>V.int (n:Int)))->L.Pairwise (· < ·)->(∀n,n∈L↔1<=n/\n<=8/\∃x,y8 (zC o bk) o n x)->Q (.ref l) H'
theorem zOB {f:ao}{fd:aY}(F:Fun K "lengths" "lengths" zDd f fd)(B:Blt mg)(C:Cst K mg)(N:NeedL P w K mg base)(cH:zR P w K mg base 4 "how_many_by_rows" ["rows","order","length"] zDZ):FnOk P w K mg base zY 5 f fd ["book","order"] zHd:=by
 obtain⟨t8,h8⟩:=C.ml
 refine F.ok zHc (fun vs H Q E h=>?_) (fun ab A outer s H vs Q E W h=>?_)
 ·obtain⟨a,bk,o,rfl,_⟩:=h;rfl
 ·obtain⟨a,bk,o,rfl,Y,l,k⟩:=h
  have nd:=zHc.nd
  have G:=W.mono (j:=3) (by decide)
  refine⟨_,zO (vE (zM N.bk G rfl (zB (pv 0) zD))) (zO (vE (zM N.od G rfl (zB (pv 1) zD)))
   (zO (z8 (i:=2) nd rfl (Or.inr rfl) (zM N.rows G rfl (zB (pv 0) (zB (pv 1) zD))))
   (zP (zZ (vM (N:=["rows","order","length"]) (caps:=[2,1]) rfl (vF (by kernel_rfl)) (zEO rfl B.range (zB zL (zB (zW y9 (v7 (v:=.int 8) (by rfl) h8 ⟨_,rfl⟩) zL) zD)))
     (fun Z X s H ex=>z9 (i:=2) zOA rfl (Or.inl rfl)) (fun Z X s H ex=>q8 (yS zBd (zM cH W rfl (zB (pv 0) (zB (pv 1) (zB (pv 2) zD)))) zL (yQ _))) (fun Z X s H ex=>pv 2)))))),?_⟩
  refine⟨_,rfl,a,bk,rfl,Y,l.toisBk,fun H1 I=>?_⟩
  refine⟨_,rfl,o,rfl,l.o1,l.o3,?_⟩
  refine⟨_,rfl,_,rfl,a,bk,o,rfl,I _ _ Y,l.hi,l.l8,l.o1,fun d H2 s2 hd R=>?_⟩
  refine⟨_,_,rfl,rfl,1,9,rfl,⟨by decide,by decide,by decide,by decide⟩,?_⟩
  obtain⟨b,r⟩:∃b:Nat->Bool,∀n,b n=true↔∃x,y8 (zC o bk) o n x:=by
   refine⟨fun n=>!(((Tx (z4 (zC o bk)) o (aD n [])).filter fun t=>decide ((zF t o,[])∈zC o bk)).isEmpty),fun n=>?_⟩
   rw[iX,dF]
   exact⟨fun⟨x,c⟩=>⟨x,(gN (uQ _) (u4 o bk) o n x).mpr c⟩,fun⟨x,c⟩=>⟨x,(gN (uQ _) (u4 o bk) o n x).mp c⟩⟩
  refine j4 (zAI 1 _) [some (.ref d),some (.int o)] 1 (by decide) (fun i e H'=>zA H2 H'/\e=((((ba 8).map (1+·)).take i).filter b).map fun(n:Nat)=>V.int (n:Int))
   ⟨zA.refl _,rfl⟩ (fun i e H' _ h=>⟨trivial,by
    rw[h.2,aa]
    have u:=cb b (((ba 8).map (1+·)).take i)
    rw[aQ]at u
    omega⟩) ?_ ?_
  ·rintro i x e H' ys Nx hN c hy ⟨q,rfl⟩
   obtain⟨y',rfl⟩:=u5 hy
   have y:i<8:=by
    have:=(ai.mp c).1
    simpa using this
   have hx2:x=V.int ((1+i:Nat):Int):=by
    have u:((ba 8).map fun(i:Nat)=>V.int (1+(i:Int)))[i]?=some x:=c
    rw[aq,dE y]at u
    exact(aw u).symm
   subst hx2
   have J:i<((ba 8).map (1+·)).length:=by rw[aa,bK];exact y
   have z:((ba 8).map (1+·)).take (i+1)=((ba 8).map (1+·)).take i++[1+i]:=by
    rw[az J]
    congr 1
    simp
   refine⟨_,rfl,_,rfl,_,rfl,d,o,1+i,bk,rfl,l,R.same q,by omega,fun Nn H3 s3 L=>⟨_,_,rfl,rfl,_,rfl,?_⟩⟩
   obtain⟨M,O,p⟩:=kK (zC o bk) (u4 o bk) o (1+i)
   have T:=L M O p
   have g:(0<Nn)↔b (1+i)=true:=by
    rw[r,T,List.length_pos_iff_exists_mem]
    exact⟨fun⟨x,c⟩=>⟨x,(p x).mp c⟩,fun⟨x,c⟩=>⟨x,(p x).mpr c⟩⟩
   by_cases hp:0<Nn
   ·refine k7 (by omega) ⟨_,rfl,hN _ _ [some (V.int ((1+i:Nat):Int))] rfl ⟨q.trans s3,?_⟩⟩
    rw[z,zDO _ _ _ (g.mp hp),aF];rfl
   ·refine zAp (by omega) (hN _ _ [some (V.int ((1+i:Nat):Int))] rfl ⟨q.trans s3,?_⟩)
    rw[z,zBN _ _ _ (by cases U:b (1+i)with|false=>rfl|true=>exact absurd (g.mpr U) hp)]
  ·rintro e H' ⟨q,rfl⟩ D hD
   have e8:(((ba 8).map (1+·)).take ((ba ((9:Int)-1).toNat).map fun(i:Nat)=>V.int (1+(i:Int))).length)=(ba 8).map (1+·):=rfl
   rw[e8]
   have sD:zA H' (upd H' D (.lst (((((ba 8).map (1+·)).filter b).map fun(n:Nat)=>V.int (n:Int))))):=zA.upd1 hD
   refine k D (((ba 8).map (1+·)).filter b) _ ((I.trans s2).trans (q.trans sD)) ((I.trans s2).free (q.free hD)) zE (lT _ (by decide)) fun n=>?_
   rw[bg,r]
   have:n∈(ba 8).map (1+·)↔1<=n/\n<=8:=by
    rw[au]
    constructor
    ·rintro⟨m,hm,rfl⟩
     have:=bz.mp hm
     omega
    ·rintro⟨u,h2⟩
     exact⟨n-1,bz.mpr (by omega),by omega⟩
   rw[this,and_assoc]
end
theorem zDe {J:It}{items:List V}{r:Hp->Prop}(v:Known J items r){caps:List Nat}{m n:Nat}{σ:St}{l:TT}{d:Hp}{F:List V->Hp->Prop}(cv:St)(w:items.length<1000)
  (z:∀H',zA d H'->r H') (e:∀(i:Nat) (x:V) (f:Hp) (Z:Bool->Hp->Prop),items[i]?=some x->zA d f->(∀o,zA f o->Z false o)->l (cv++[some x]) f Z)
  (k:∀H',zA d H'->F [] H') (p:vL caps n σ=cv++aD 1 none:=by rfl) (hm:cv.length=m:=by rfl) :
  ∃W:Nat->Nat->List V->St->Hp->Prop,(∃m,W 0 m [] (vL caps n σ) d)/\∀i q a s H',W i q a s H'->
   (J.stop i H'/\F a H')\/
   (J.go i H'/\a.length<sizeLine/\∀x t,J.yld i H' x t->qX m x s t fun g A=>l g A fun b u=>if b=true then qW m g u fun y f=>∃c,c<q/\W (i+1) c (a++[y]) g f else∃c,c<q/\W (i+1) c a g u):=by
 refine j4 v cv 1 w (fun i a H'=>zA d H'/\a=[]) ⟨zA.refl _,rfl⟩ (fun i a H' _ h=>⟨z H' h.1,by rw[h.2];exact bD _⟩) ?_ ?_ p
 ·rintro i x a H' ys H B C D ⟨j,rfl⟩
  obtain⟨E,rfl⟩:=u5 D
  show l ((cv++[E]).set m (some x)) H' _
  rw[zDQ hm]
  exact e i x H' _ C j fun o G=>vK (B _ _ [some x] rfl ⟨j.trans G,rfl⟩)
 ·rintro a H' ⟨j,rfl⟩
  exact k H' j
theorem zHe {ps:List (S×S)}(h:ps.length<=60):∃U,Unit9 ps U:=by
 have go:∀a:List S,(∀e∈a,0<tot ps e)->∃U:Int,0<U/\(∀e∈a,(tot ps e:Int)∣U)/\U<=2^(a.map (tot ps)).sum:=by
  intro a
  induction a with
  |nil=>intro _;exact⟨1,by decide,(fun e b=>by cases b),by simp⟩
  |cons e a ih=>
   intro m
   obtain⟨U,c,g,i⟩:=ih fun x d=>m x (ak _ d)
   have b:=m e (aj ..)
   refine⟨(tot ps e:Int)*U,cx (by omega) c,fun x d=>?_,?_⟩
   ·rcases aH.mp d with rfl|d
    ·exact⟨U,rfl⟩
    ·exact dq (g x d) ⟨(tot ps e:Int),dH ..⟩
   ·rw[aC,aO,lR]
    exact eI (zGy _ b) i (bo c) (bo (zBO _))
 have f:∀e∈(y6 ps).map (·.1),0<tot ps e:=fun e b=>by
  obtain⟨q,n,rfl⟩:=au.mp b
  obtain⟨l,hl⟩:=((yH ps).has q.1).mp ⟨q.2,(vA (yH ps).nd _ _).mp n⟩
  have c:=qK ps q.1 l
  have g:=bV.mpr hl
  omega
 obtain⟨U,c,g,i⟩:=go _ f
 refine⟨U,c,zGu fun e ⟨l,hl⟩=>g e ?_,?_⟩
 ·obtain⟨row,j⟩:=((yH ps).has e).mpr ⟨l,hl⟩
  exact au.mpr ⟨_,(vA (yH ps).nd _ _).mpr j,rfl⟩
 ·have o:=tots_le ps _ (yH ps).nd
  exact pU i (zDU (by omega))
structure FG (q:Int×Int):Prop where
 up:0<=q.1
 dn:0<q.2
 u1:q.1<2^1000
 d1:q.2<2^1000
theorem zBR {a b:Nat}(h:a<b):(2:Int)^a<2^b:=by
 have c:2^a<2^b:=Nat.pow_lt_pow_right (by decide) h
 have d:((2^a:Nat):Int)=(2:Int)^a:=by simp
 have e:((2^b:Nat):Int)=(2:Int)^b:=by simp
 rw[<-d,<-e];exact Int.ofNat_lt.mpr c
theorem FG.bu {q:Int×Int}(h:FG q):Bg q.1:=⟨h.up,pW h.u1 (zBR (by decide))⟩
theorem FG.bd {q:Int×Int}(h:FG q):Bg q.2:=⟨bo h.dn,pW h.d1 (zBR (by decide))⟩
theorem FG.prod {p q:Int×Int}(a:FG p)(b:FG q):p.2*q.2<2^8000:=by
 have c:p.2*q.2<=2^1000*2^1000:=eI (bo a.d1) (bo b.d1) (bo b.dn) (bo (zBO _))
 rw[<-lR]at c
 exact Int.lt_of_le_of_lt c (zBR (by decide))
theorem zHf {ps:List (S×S)}(d:y7 ps){o n:Nat}(b:n<=8){q:Int×Int}(h:zAV ps o [n] q){M:List S}(f:M.Nodup)(c:∀x,x∈M↔y8 ps o n x):q=M.foldl (fun w x=>jN w (v9 ps o x)) (0,1):=by
 obtain⟨U,a,rfl⟩:=h
 have g:0<U^9:=c9 a.pos
 have e:=(zGc (o:=o) a.pos a.dvd M 0 (by decide) fun x i=>by rw[((c x).mp i).1];exact b)
 rw[zAx g]at e
 rw[e.1,pO]
 have j:([n].map (yO ps o U)).sum=yO ps o U n:=by simp
 rw[j,zBQ d a b f c]
section
variable{P:aL}{w:aU}{K:ae}{mg:Str->Option ah}{base:bx}
def zHg (K:ae):Sp:=fun vs H Q _=>∃(x y:V) (p q:Int×Int),vs=[x,y]/\z3 K H x p/\z3 K H y q/\FG p/\FG q/\∀a,H a=none->Q (.ref a) (upd H a (jQ (jN p q)))
theorem zOC {f:ao}{fd:aY}(F:Fun K "added" "added" zCa f fd)(c1:zR P w K mg base 2 "lowest" ["up","down"] zBP):FnOk P w K mg base zY 3 f fd ["one","other"] (zHg K):=by
 refine F.ok zLn (fun vs H Q E h=>?_) (fun j A outer s H vs Q E l h=>?_)
 ·obtain⟨x,y,p,q,rfl,_⟩:=h;rfl
 ·obtain⟨x,y,p,q,rfl,⟨a,rfl,d⟩,⟨b,rfl,e⟩,sp,c,k⟩:=h
  refine⟨_,zP (zZ (zM c1 l rfl (zB (zW y9 (zW zAT (yM vC (pv 0) zL (fun _ _=>rfl)) (yM vC (pv 1) zL (fun _ _=>rfl))) (zW zAT (yM vC (pv 1) zL (fun _ _=>rfl)) (yM vC (pv 0) zL (fun _ _=>rfl))))
   (zB (zW zAT (yM vC (pv 0) zL (fun _ _=>rfl)) (yM vC (pv 1) zL (fun _ _=>rfl))) zD)))),?_⟩
  have m:=sp.up;have n:=c.up;have g:=sp.dn;have i:=c.dn
  refine⟨_,rfl,a,_,0,_,rfl,rfl,d,rfl,_,rfl,b,_,1,_,rfl,rfl,e,rfl,_,_,rfl,rfl,⟨sp.bu,c.bd⟩,?_⟩
  refine⟨_,rfl,b,_,0,_,rfl,rfl,e,rfl,_,rfl,a,_,1,_,rfl,rfl,d,rfl,_,_,rfl,rfl,⟨c.bu,sp.bd⟩,_,_,rfl,rfl,?_⟩
  refine⟨_,rfl,a,_,1,_,rfl,rfl,d,rfl,_,rfl,b,_,1,_,rfl,rfl,e,rfl,_,_,rfl,rfl,⟨sp.bd,c.bd⟩,?_⟩
  exact⟨_,_,rfl,oo (c6 m (bo i)) (c6 n (bo g)),cx g i,sp.prod c,k⟩
end
theorem zOD (f:S->S->Int×Int)(o:Nat)(wt:Int)(t:S)(c:Nat):Wt f o wt (t++[c])=zV (Wt f o wt t) (f (zF t o) [c]):=by
 unfold Wt;rw[j9,cg];rfl
theorem zHh {ps:List (S×S)}{o:Nat}{U:Int}(c:0<U)(d:∀e l,(zJ ps e l).2∣U){t:S}{m:Nat}(h:m+t.length=9):0<=Wt (zJ ps) o (U^9) t/\U^m∣Wt (zJ ps) o (U^9) t:=by
 have hl:(pp o t).length=t.length:=by unfold pp;simp
 obtain⟨a,b,_⟩:=zCy (T:=1) (by decide) d (pp o t) m (U^9) (bo (c9 c)) (by rw[hl,h];exact f7 _)
 exact⟨a,b⟩
section
variable{ps:List (S×S)}{o:Nat}{U:Int}
theorem zHi (e:S):∀(ps:List (S×S)) (L:List S),L.Nodup->(∀l,(e,l)∈ps->l∈L)->(L.map fun l=>ps.count (e,l)).sum=tot ps e
 | [],L,_,_=>by
  have:∀L:List S,(L.map fun l=>([]:List (S×S)).count (e,l)).sum=0:=by
   intro L
   induction L with
   |nil=>rfl
   |cons a L ih=>rw[aC,aO,ih];rfl
  rw[this];rfl
 |p::ps,L,nd,g=>by
  have ih:=zHi e ps L nd fun l hl=>g l (ak _ hl)
  have go:∀L:List S,L.Nodup->(L.map fun l=>(p::ps).count (e,l)).sum=(L.map fun l=>ps.count (e,l)).sum+(if p.1=e/\p.2∈L then 1 else 0):=by
   intro L
   induction L with
   |nil=>intro _;simp
   |cons a L b=>
    intro i
    obtain⟨d,f⟩:=br.mp i
    rw[aC,aO,b f,aC,aO,kx]
    by_cases c:p=(e,a)
    ·have c1:p.1=e:=by rw[c]
     have c2:p.2=a:=by rw[c]
     rw[if_pos (by simpa using c),if_neg (fun z=>d (by rw[<-c2];exact z.2)),if_pos ⟨c1,by rw[c2];exact aj ..⟩]
     omega
    ·rw[if_neg (by simpa using c)]
     by_cases c2:p.1=e/\p.2∈L
     ·rw[if_pos c2,if_pos ⟨c2.1,ak _ c2.2⟩];omega
     ·rw[if_neg c2,if_neg]
      ·omega
      ·rintro⟨h,j⟩
       rcases aH.mp j with z|z
       ·exact c (rh h z)
       ·exact c2 ⟨h,z⟩
  rw[go L nd]
  have m:tot (p::ps) e=tot ps e+(if p.1=e then 1 else 0):=by
   unfold tot
   by_cases c:p.1=e
   ·rw[eJ (by simpa using c),if_pos c,aX]
   ·rw[eK (by simpa using c),if_neg c,kf]
  rw[m]
  by_cases c:p.1=e
  ·have n:p.2∈L:=g p.2 (by rw[<-c];exact aj ..)
   rw[if_pos c,if_pos ⟨c,n⟩,ih]
  ·rw[if_neg c,if_neg (fun z=>c z.1),ih]
theorem zOE {w:Int}{m:Nat}(b:∀e l,(zJ ps e l).2∣U)(hd:U^(m+1)∣w)(e l:S):zV w (zJ ps e l)*(tot ps e:Int)=w*(ps.count (e,l):Int):=by
 have ex:=zGZ (b e l) hd
 have f:=v5 ps e l
 by_cases c:ps.count (e,l)=0
 ·have a:zJ ps e l=(0,1):=by unfold zJ;rw[if_pos c]
  rw[a,c];simp[zV]
 ·have g:=qK ps e l
  have a:zJ ps e l=low (ps.count (e,l):Int) (tot ps e:Int):=by unfold zJ;rw[if_neg c]
  have cr:=uE (u:=(ps.count (e,l):Int)) (d:=(tot ps e:Int)) (by omega)
  rw[<-a]at cr
  generalize zJ ps e l=q at*
  have:(zV w q*(tot ps e:Int))*q.2=(w*(ps.count (e,l):Int))*q.2:=by
   calc (zV w q*(tot ps e:Int))*q.2=(zV w q*q.2)*(tot ps e:Int):=by ac_rfl
    _=(w*q.1)*(tot ps e:Int):=by rw[ex]
    _=w*(q.1*(tot ps e:Int)):=by ac_rfl
    _=w*((ps.count (e,l):Int)*q.2):=by rw[cr]
    _=(w*(ps.count (e,l):Int))*q.2:=by ac_rfl
  exact dQ (by have:=f.dn;omega) this
theorem zOF {w:Int}{m:Nat}(c:∀e l,(zJ ps e l).2∣U)(hd:U^(m+1)∣w)(e:S){L:List S}(nd:L.Nodup)(d:∀l,(e,l)∈ps->l∈L)(f:0<tot ps e):(L.map fun l=>zV w (zJ ps e l)).sum=w:=by
 have go:∀L:List S,(L.map fun l=>zV w (zJ ps e l)).sum*(tot ps e:Int)=w*((L.map fun l=>ps.count (e,l)).sum:Nat):=by
  intro L
  induction L with
  |nil=>simp
  |cons a L ih=>
   rw[aC,aO,aC,aO,fP,ih,zOE c hd,<-Int.mul_add]
   congr 1
 have b:=go L
 rw[zHi e ps L nd d]at b
 exact dQ (by omega) b
def uS (ps:List (S×S))(o:Nat)(U:Int)(n:Nat):Int:=((Tx (z4 ps) o (aD n [])).map (Wt (zJ ps) o (U^9))).sum
theorem zHj {α β:Type}(g:α->List β)(v:β->Int):∀L:List α,((L.flatMap g).map v).sum=(L.map fun a=>((g a).map v).sum).sum
 | []=>rfl
 |a::L=>by rw[d8,aF,fJ,zHj g v L,aC,aO]
theorem zHk {α:Type}{f g h:α->Int}:∀L:List α,(∀a∈L,f a+g a=h a)->(L.map f).sum+(L.map g).sum=(L.map h).sum
 | [],_=>by simp
 |a::L,hl=>by
  rw[aC,aO,aC,aO,aC,aO]
  have d:=hl a (aj ..)
  have e:=zHk L fun b c=>hl b (ak _ c)
  omega
theorem zOG {t:S}(h:(zF t o,[])∉ps):Wn ps o (U^9) t=0:=by
 unfold Wn
 rw[zAz h]
 unfold zV
 simp
def zDf (ps:List (S×S))(o:Nat):Prop:=∀t:S,(∀q∈pp o t,q∈ps)->0<tot ps (zF t o)
theorem zHl (d:y7 ps)(i:zDf ps o)(e:Unit9 ps U){n:Nat}(j:n<=8):yO ps o U n+uS ps o U (n+1)=uS ps o U n:=by
 have g:∀t∈Tx (z4 ps) o (aD n []),t.length=n/\∀q∈pp o t,q∈ps:=fun t f=>(gM (uQ ps) d o n t).mp f
 have e1:uS ps o U (n+1)=((Tx (z4 ps) o (aD n [])).map fun t=>(((z4 ps (zF t o)).filter (mf [])).map fun l=>zV (Wt (zJ ps) o (U^9) t) (zJ ps (zF t o) l)).sum).sum:=by
  unfold uS
  rw[dt,zBH]
  unfold gK
  rw[zHj]
  congr 1
  refine bT fun t _=>?_
  rw[aJ]
  congr 1
  refine bT fun l hl=>?_
  obtain⟨p,r⟩:=bg.mp hl
  obtain⟨c,rfl⟩:=kA (d _ _ ((uP _ _ _).mp p)) (kH.mp r)
  exact zOD _ _ _ _ _
 have s:yO ps o U n=((Tx (z4 ps) o (aD n [])).map (Wn ps o (U^9))).sum:=by
  rw[zBQ d e j ((zAP (uQ ps) d o n).filter fun t=>decide ((zF t o,[])∈ps)) fun x=>(gN (uQ ps) d o n x).symm]
  exact(zBI (fun t=>decide ((zF t o,[])∈ps)) (Wn ps o (U^9)) _ fun t _ h=>zOG (of_decide_eq_false h)).symm
 rw[e1,s]
 unfold uS
 refine zHk _ fun t f=>?_
 obtain⟨a,b⟩:=zHh (o:=o) e.pos e.dvd (t:=t) (m:=8-n+1) (by rw[(g t f).1];omega)
 have h:=zOF e.dvd b (zF t o) (L:=[]::(z4 ps (zF t o)).filter (mf [])) (br.mpr ⟨fun z=>kH.mp (bg.mp z).2 rfl,((uQ ps).nd _).filter _⟩) (fun l hl=>by
  by_cases z:l=[]
  ·rw[z];exact aj ..
  ·exact ak _ (bg.mpr ⟨(uP _ _ _).mpr hl,kH.mpr z⟩)) (i t (g t f).2)
 rw[aC,aO]at h
 exact h
theorem zOH (c:y7 ps)(b:Unit9 ps U){n:Nat}(f:n<=9):0<=uS ps o U n:=by
 unfold uS
 have a:∀t∈Tx (z4 ps) o (aD n []),t.length=n:=fun t d=>((gM (uQ ps) c o n t).mp d).1
 generalize Tx (z4 ps) o (aD n [])=L at a
 induction L with
 |nil=>simp
 |cons t L ih=>
  rw[aC,aO]
  have g:=(zHh (o:=o) b.pos b.dvd (t:=t) (m:=9-n) (by rw[a t (aj ..)];omega)).1
  have h:=ih fun u e=>a u (ak _ e)
  omega
def vP (ps:List (S×S))(o:Nat)(U:Int)(n:Nat):Int:=(((ba n).map (1+·)).map (yO ps o U)).sum
theorem zDg (n:Nat):vP ps o U (n+1)=vP ps o U n+yO ps o U (1+n):=by
 unfold vP
 rw[e6,aF,aF,fJ]
 simp
theorem zDh (a:y7 ps)(c:zDf ps o)(d:([],[])∉ps)(b:Unit9 ps U):∀n,n<=8->vP ps o U n+uS ps o U (n+1)=U^9
 |0,_=>by
  have h:=zHl (o:=o) a c b (n:=0) (by decide)
  have i:uS ps o U 0=U^9:=by
   show([U^9]:List Int).sum=_
   simp
  have j:yO ps o U 0=0:=by
   rw[zBQ a b (by decide) (M:=[]) ot fun x=>?_]
   ·rfl
   ·constructor
    ·intro z;cases z
    ·rintro⟨f,g⟩
     have:x=[]:=cn.mp f
     subst this
     exact absurd (g ([],[]) (by rw[gI];exact aP _ (bf.mpr (by simp[zF])))) d
  show(0:Int)+_=_
  omega
 |n+1,h=>by
  have ih:=zDh a c d b n (by omega)
  have st:=zHl (o:=o) a c b (n:=n+1) h
  rw[zDg]
  have e:1+n=n+1:=by omega
  rw[e]
  omega
theorem zHm (a:y7 ps)(b:Unit9 ps U):∀n,n<=8->0<=vP ps o U n
 |0,_=>by show(0:Int)<=0;decide
 |n+1,h=>by
  have c:=zHm a b n (by omega)
  have d:=gQ (o:=o) a b (n:=1+n) (by omega)
  rw[zDg];omega
end
theorem tot_of {ps:List (S×S)}{e l:S}(h:(e,l)∈ps):0<tot ps e:=by
 have:=qK ps e l
 have:=bV.mpr h
 omega
theorem zHn {o:Nat}{bk:List S}(a:bk≠[]):zDf (zC o bk) o:=fun t b=>by
 by_cases z:t=[]
 ·subst z
  obtain⟨nm,r,rfl⟩:=List.exists_cons_of_ne_nil a
  refine tot_of (l:=(nm.drop 0).take 1) (bb.mpr ⟨nm,aj ..,au.mpr ⟨0,bz.mpr (by omega),?_⟩⟩)
  rfl
 ·obtain⟨u,c,rfl⟩:=zCw z
  have d:=b (zF u o,[c]) (by rw[j9];exact aP _ (bA _))
  obtain⟨l,hl⟩:=zGO d
  rw[zAN]at hl
  exact tot_of hl
theorem zHo {o:Nat}{bk:List S}(i:1<=o)(b:∀x∈bk,1<=x.length):(([],[]):S×S)∉zC o bk:=fun h=>by
 obtain⟨nm,hm,c⟩:=bb.mp h
 obtain⟨p,d,e⟩:=au.mp c
 have e1:zF (nm.take p) o=[]:=congrArg mV e
 have f:(nm.drop p).take 1=[]:=congrArg fZ e
 have g:(nm.drop p).length=0:=by
  have:=congrArg fN f
  rw[aQ]at this
  simp at this⊢;omega
 rw[bQ]at g
 have a:=congrArg fN e1
 unfold zF at a
 rw[bQ,aQ]at a
 have:=b nm hm
 simp at a;omega
theorem zOI {a b c d:Int}(e:0<b)(hd:0<d)(g:0<=a)(h:low a b=low c d):a*d=c*b:=by
 have c1:=uE (u:=a) e
 have c2:=uE (u:=c) hd
 have f:=uF g e
 rw[<-h]at c2
 generalize low a b=q at*
 have:(a*d)*q.2=(c*b)*q.2:=by
  calc (a*d)*q.2=(a*q.2)*d:=by ac_rfl
   _=(q.1*b)*d:=by rw[<-c1]
   _=(q.1*d)*b:=by ac_rfl
   _=(c*q.2)*b:=by rw[c2]
   _=(c*b)*q.2:=by ac_rfl
 exact dQ (by have:=f.dn;omega) this
section
variable{ps:List (S×S)}{o:Nat}{U U0:Int}
theorem zOJ (a:y7 ps)(b:Unit9 ps U)(d:Unit9 ps U0){n:Nat}(c:n<=8):yO ps o U n*U0^9=yO ps o U0 n*U^9:=by
 obtain⟨M,m1,m2⟩:=kK ps a o n
 have e1:=zHf a c (q:=low ([n].map (yO ps o U)).sum (U^9)) ⟨U,b,rfl⟩ m1 m2
 have e:=zHf a c (q:=low ([n].map (yO ps o U0)).sum (U0^9)) ⟨U0,d,rfl⟩ m1 m2
 have f:([n].map (yO ps o U)).sum=yO ps o U n:=by simp
 have g:([n].map (yO ps o U0)).sum=yO ps o U0 n:=by simp
 rw[f]at e1
 rw[g]at e
 exact zOI (c9 b.pos) (c9 d.pos) (gQ a b c) (e1.trans e.symm)
theorem zDi {f:Nat->Int}:∀ns:List Nat,(∀n∈ns,0<=f n)->0<=(ns.map f).sum
 | [],_=>by simp
 |n::ns,h=>by
  rw[aC,aO]
  have a:=h n (aj ..)
  have b:=zDi ns fun m hm=>h m (ak _ hm)
  omega
theorem zDj (a:y7 ps)(b:Unit9 ps U0){ns:List Nat}{q:Int×Int}(h:zAV ps o ns q)(c:∀n∈ns,n<=8):q=low (ns.map (yO ps o U0)).sum (U0^9):=by
 obtain⟨U,d,rfl⟩:=h
 refine zCA (zDi ns fun n e=>gQ a d (c n e)) (c9 d.pos) (zDi ns fun n e=>gQ a b (c n e)) (c9 b.pos) ?_
 have go:∀ns:List Nat,(∀n∈ns,n<=8)->(ns.map (yO ps o U)).sum*U0^9=(ns.map (yO ps o U0)).sum*U^9:=by
  intro ns
  induction ns with
  |nil=>intro _;simp
  |cons n ns ih=>
   intro h
   rw[aC,aO,aC,aO,fP,fP,zOJ a d b (h n (aj ..)),ih fun m hm=>h m (ak _ hm)]
 exact go ns c
theorem zDk (c:Unit9 ps U0){a:Int}(d:0<=a)(g:a<=U0^9):FG (low a (U0^9))/\k9 (1,1) (low a (U0^9))=false:=by
 have e:0<U0^9:=c9 c.pos
 have h:U0^9<=2^540:=zHS c.pos c.le
 obtain⟨i,j⟩:=zCB d e
 have f:=uF d e
 have l:=zBR (a:=540) (b:=1000) (by decide)
 refine⟨⟨f.up,f.dn,by omega,by omega⟩,?_⟩
 have le:=zAy d e g
 unfold k9
 refine decide_eq_false ?_
 show ¬(1:Int)*_<_*1
 omega
end
theorem gR {α:Type} [DecidableEq α]:∀(l L:List α),l.Nodup->(∀x∈l,x∈L)->l.length<=L.length
 | [],L,_,_=>bD _
 |x::l,L,b,c=>by
  have d:=c x (aj ..)
  have f:=gR l (L.erase x) (br.mp b).2 fun y e=>by
   have a:y≠x:=fun z=>(br.mp b).1 (by rw[<-z];exact e)
   exact(lP a).mpr (c y (ak _ e))
  rw[ja d]at f
  have:=kh d
  rw[aX];omega
theorem zOK {o n N a:Nat}{bk:List S}(b:y7 (zC o bk))(c:y7 (zC (o+1) bk))(h:zAU (zC o bk) o n N)(h':zAU (zC (o+1) bk) (o+1) n a):a<=N:=by
 obtain⟨M,m1,m2⟩:=kK (zC o bk) b o n
 obtain⟨d,m3,m4⟩:=kK (zC (o+1) bk) c (o+1) n
 rw[h M m1 m2,h' d m3 m4]
 refine gR _ _ m3 fun x e=>(m2 x).mpr ?_
 have:=(m4 x).mp e
 exact⟨this.1,zGP this.2⟩
theorem zHp {bk:List S}(b:∀x∈bk,x.length<=3){t l:S}(i:t.length<=3)(h:(t,l)∈zC 3 bk):∃nm∈bk,nm.take t.length=t/\(nm.drop t.length).take 1=l:=by
 obtain⟨nm,hm,c⟩:=bb.mp h
 obtain⟨p,a,e⟩:=au.mp c
 have d:=bz.mp a
 have e1:zF (nm.take p) 3=t:=congrArg mV e
 have f:(nm.drop p).take 1=l:=congrArg fZ e
 rw[zAw (by rw[aQ];have:=b nm hm;omega)]at e1
 have g:p=t.length:=by rw[<-e1,aQ];omega
 subst g
 exact⟨nm,hm,e1,f⟩
theorem zHq {bk:List S}(a:∀x∈bk,x.length<=3){t:S}(f:4<=t.length):¬ ∀q∈pp 3 t,q∈zC 3 bk:=fun h=>by
 have b:=h (zF (t.take 3) 3,(t.drop 3).take 1) (au.mpr ⟨3,bz.mpr (by omega),rfl⟩)
 rw[zAw (by rw[aQ];omega)]at b
 obtain⟨nm,hm,e1,c⟩:=zHp a (by rw[aQ];omega) b
 have d:(t.take 3).length=3:=by rw[aQ];omega
 rw[d]at c
 have e:=congrArg fN c
 rw[aQ,aQ,bQ,bQ]at e
 have:=a nm hm
 omega
theorem zOL {bk:List S}(b:∀x∈bk,x.length<=3){n:Nat}{x:S}:y8 (zC 3 bk) 3 n x↔x.length=n/\x∈bk:=by
 constructor
 ·rintro⟨hl,h⟩
  refine⟨hl,?_⟩
  have a:x.length<=3:=oM fun z=>zHq b (t:=x) (by omega) fun q d=>h q (by rw[gI];exact bG _ d)
  have c:=h (zF x 3,[]) (by rw[gI];exact aP _ (bA _))
  rw[zAw a]at c
  obtain⟨nm,hm,e1,e⟩:=zHp b a c
  have f:(nm.drop x.length).length=0:=by
   have:=congrArg fN e
   rw[aQ]at this
   simp at this⊢;omega
  rw[bQ]at f
  rw[eX (by omega)]at e1
  rw[<-e1];exact hm
 ·rintro⟨hl,h⟩
  exact⟨hl,zLI h⟩
theorem up3 {bk:List S}(c:∀x∈bk,x.length<=3)(d:∀x∈bk,1<=x.length)(f:bk≠[])(a:y7 (zC 3 bk)){U:Int}(b:Unit9 (zC 3 bk) U):low (vP (zC 3 bk) 3 U 3) (U^9)=(1,1):=by
 have h:=zDh (o:=3) a (zHn f) (zHo (by decide) d) b 3 (by decide)
 have e:uS (zC 3 bk) 3 U 4=0:=by
  unfold uS
  have:Tx (z4 (zC 3 bk)) 3 (aD 4 [])=[]:=by
   cases g:Tx (z4 (zC 3 bk)) 3 (aD 4 [])with
   |nil=>rfl
   |cons t r=>
    have i:=(gM (uQ (zC 3 bk)) a 3 4 t).mp (by rw[g];exact aj ..)
    exact absurd i.2 (zHq c (by omega))
  rw[this];rfl
 have j:vP (zC 3 bk) 3 U 3=U^9:=by
  have h':vP (zC 3 bk) 3 U 3+uS (zC 3 bk) 3 U 4=U^9:=h
  omega
 rw[j,zFa (c9 b.pos)]
end Kn.Ln
end
section
namespace L2
open PySem PySem.Spec PyProof.Rows
def ItB (tp:Bool)(h:bx)(it b:ao)(i:Nat):Prop:=if tp=true then h.IsTupleIter it b i else h.IsListIter it b i
theorem ItB.keep {c:Bool}{h h':bx}{a b:ao}{i:Nat}(x:ItB c h a b i)(e:∀o,h.get? a=some o->h'.get? a=some o):ItB c h' a b i:=by
 cases c with
 |true=>exact(show h.IsTupleIter a b i from x).at e
 |false=>exact(show h.IsListIter a b i from x).at e
open AutoSeq1 (wpAny_loadPart')
open PySem.AutoSeq1 (wpAny_loadPart')
open PySem.MeetsSeq PySem.MeetsSeq2 PySem.MeetsSeq3 PySem.SeqAt
section
open MyS PySem.W
variable{prog:aL}{w:aU}{A:bS}{E:ah->ar->Prop}{s:ar}
end
def zDl (h:bx)(a:ao)(v:ah)(k:List Int):Prop:=∃b o t n lb items,v=Value.ref b/\b≠a/\h.get? b=some o/\o.cls=.type "tuple"/\o.data=.seq #[.int (k.length:Int) t,.ref lb] n/\lb≠a/\h.IsList lb items/\ik items.toList k
theorem zDl.keep {h h':bx}{a:ao}{v:ah}{k:List Int}(p:zDl h a v k)(e:∀b o,b≠a->h.get? b=some o->h'.get? b=some o):zDl h' a v k:=by
 obtain⟨b,o,t,n,c,items,g,d,i,j,l,f,m,r⟩:=p
 exact⟨b,o,t,n,c,items,g,d,e b o d i,j,l,f,m.at fun o q=>e c o f q,r⟩
section
open MyS PySem.W
variable{prog:aL}{w:aU}{A:bS}{E:ah->ar->Prop}{s:ar}
end
section
open MyS PySem.W
variable{prog:aL}{w:aU}{A:bS}{E:ah->ar->Prop}{s:ar}
def zDm (h:bx)(a:ao)(v:ah)(k:Int×Str):Prop:=∃b o t t2 n,v=Value.ref b/\b≠a/\h.get? b=some o/\o.cls=.type "tuple"/\o.data=.seq #[.int k.1 t,.str k.2 t2] n
theorem zDm.keep {h h':bx}{a:ao}{v:ah}{k:Int×Str}(p:zDm h a v k)(e:∀b o,b≠a->h.get? b=some o->h'.get? b=some o):zDm h' a v k:=by
 obtain⟨b,o,t,d,n,f,c,g,i⟩:=p
 exact⟨b,o,t,d,n,f,c,e b o c g,i⟩
end
section
open MyS PySem.W
variable{X:Cx}
end
theorem zOM (t:dw)(a:Array (Int×ah))(h:Int)(x:ah):(layNew t a h x).2.1.led=t.led/\(t.plain=false->(layNew t a h x).2.1.plain=false):=by
 unfold layNew
 split
 ·dsimp only
  unfold mC
  split
  ·exact⟨rfl,fun e=>e⟩
  ·exact⟨rfl,fun _=>rfl⟩
 ·exact⟨rfl,fun _=>rfl⟩
theorem zON {mask finger moves:Nat}{led plain:Bool}{a:Array Int}{t:dw}{o:Array Nat}(e:pq mask finger moves led plain a=some (t,o)):t.led=led/\t.plain=plain:=by
 unfold pq at e
 cases q:SetTable.layClean mask a with
 |none=>rw[q]at e;cases e
 |some b=>
  rw[q]at e
  injection e with e
  injection e with e1 c
  subst e1
  exact⟨rfl,rfl⟩
theorem zOO (t:dw)(a:Array (Int×ah))(n:Nat):(relayAll t a n).2.1.led=t.led/\(t.plain=false->(relayAll t a n).2.1.plain=false):=by
 unfold relayAll
 split
 ·rename_i t' o e
  dsimp only
  have k:=zON e
  split
  ·exact⟨k.1,fun q=>k.2.trans q⟩
  ·exact⟨rfl,fun _=>rfl⟩
 ·exact⟨rfl,fun _=>rfl⟩
abbrev vD (es:Array (Int×ah))(ep:Nat)(t:dw):Obj:={cls:=.type "set",dict:=none,data:=.set es ep t}
def zOP (w:aU)(es:Array (Int×ah))(t:dw):Prop:=t.fits es.size=true/\t.led=!w.params.followText "set-order"/\ (es.size=0\/t.plain=false)
def gS (prog:aL)(w:aU)(h:bx)(a:ao)(es:Array (Int×ah)):Prop :=
 ∃ep t,h.get? a=some (vD es ep t)/\ElemsOf (e7 prog w) es.toList/\es.size<scanBound/\zOP w es t
def vT:ah->Str
 | .str x _=>x
 |_=>⟨#[]⟩
abbrev uT (es:Array (Int×ah)):List Str:=es.toList.map fun e=>vT e.2
theorem zDn {k:Str}{x:ah}(h:cM k x=true):vT x=k:=by
 obtain⟨t,rfl⟩:=dC h;rfl
theorem zOQ {k:Str}{x:ah}(h:cM k x=true):x.scannable=true:=by
 obtain⟨t,rfl⟩:=dC h;rfl
section
variable{prog:aL}{w:aU}{A:bS}{E:ah->ar->Prop}{s:ar}
theorem zDo {h:bx}{a:ao}{b es':Array (Int×ah)}{ep:Nat}{t t':dw}(c:h.get? a=some (vD b ep t)):(h.update a (ou es' t')).get? a=some (vD es' (ep+1) t'):=by
 have:=dW (ou es' t') c rfl
 exact this
theorem zOR {a:ao}{l:Array (Int×ah)}{k:Str}{x:ah}{Q:Bool->ar->Prop}(m:cM k x=true)(hS:gS prog w s.heap a l)(z:l.size+1<scanBound)
  (h:∀b h' es',fz a s.heap h'->gS prog w h' a es'->(k∈uT l/\es'.toList.Perm l.toList\/k∉uT l/\(uT es').Perm (k::uT l))->Q b {s with heap:=h'}) :
  wpAny (model prog w) A (setAddHashed a x (hashStr w k)) Q E s:=by
 obtain⟨ep,t,U,o,hb,hf,u,al⟩:=id hS
 have B:=zOQ m
 have e:s={s with heap:=s.heap}:=by cases s;rfl
 unfold setAddHashed setAddHashedIn
 refine b7 (af (cJ U rfl hf ?_))
 dsimp only
 rw[byScan_of (knd:=e7 prog w) B hb o]
 simp only[↓reduceIte]
 unfold setAddByScan
 refine af ?_
 refine af (iH ?_)
 refine af (nC (knd:=e7 prog w) (k:=k) m U rfl hf o ?_)
 cases hr:px (fun e=>(e7 prog w).is k e.2) l.toList with
 |some j=>
  dsimp only
  obtain⟨hj,W,_⟩:=fR.mp hr
  refine av (av ?_)
  rw[e]
  exact h _ s.heap l (mZ a s.heap) hS (.inl ⟨au.mpr ⟨l.toList[j],cA hj,zDn W⟩,dP _⟩)
 |none=>
  dsimp only
  have I:k∉uT l:=fun q=>by
   obtain⟨y,hy,q⟩:=au.mp q
   obtain⟨⟨k',J,_⟩,_⟩:=o y hy
   have e1:k'=k:=(zDn J).symm.trans q
   have:=iP.mp hr y hy
   rw[<-e1,J]at this
   cases this
  have d:=layNew_perm t l (hashStr w k) x
  have g:=layNew_fits t l (hashStr w k) x
  have i:=zOM t l (hashStr w k) x
  show wpAny _ _ _ _ _ _
  change wpAny _ _ (match layNew t l (hashStr w k) x with|(l,t,f,M)=>_) _ _ _
  generalize hL:layNew t l (hashStr w k) x=L at d g i⊢
  obtain⟨c,X,f,M⟩:=L
  dsimp only at d g i⊢
  rw[iR]at d
  have v:ElemsOf (e7 prog w) c.toList:=(pX (knd:=e7 prog w) o m B).perm d
  have hsz:c.size=l.size+1:=by rw[<-aR,d.length_eq,aI,aR];rfl
  have C:c.size<scanBound:=by rw[hsz];exact z
  have N:(uT c).Perm (k::uT l):=by
   have:=d.map fun e:Int×ah=>vT e.2
   rw[aF]at this
   refine this.trans ?_
   rw[List.map_singleton,zDn m]
   exact iK _ _
  have O:∀(b:Bool) {Y:ar} {Z:Unit->ar->Prop},Z () Y->wpAny (model prog w) A (match b with|true=>rule "set.scan.the-table-gave-way"|false=>pure ()) Z E Y :=
   fun b Y Z hq=>by cases b<;>first|exact av hq|exact iH hq
  refine af (O _ ?_)
  have tail:∀n:dw,n.fits c.size=true->n.led=t.led->n.plain=false->∀wd:Bool,wpAny (model prog w) A (do
    storeSet a c n
    if(!wd&&n.tooFull)=true then do
      (match(relayAll n c (eM c.size)).2.2 with|true=>rule "set.scan.the-table-gave-way"|false=>pure ())
      storeSet a (relayAll n c (eM c.size)).1 (relayAll n c (eM c.size)).2.1
      pure (some true)
     else pure (some true)) (fun r s'=>wpAny (model prog w) A (match r with|some added=>pure added|none=>setAddHashedIn a x (hashStr w k) 99999) Q E s') E s:=by
   intro n f2 l2 p2 wd
   refine af (iY U rfl ?_ (dz C))
   have D:=zDo (es':=c) (t':=n) U
   have P:=ij s.heap a (ou c n)
   split
   ·have R:=relayAll_perm n c (eM c.size)
    have F:=relayAll_fits n c (eM c.size)
    have p:=zOO n c (eM c.size)
    generalize am:relayAll n c (eM c.size)=Rl at R F p⊢
    obtain⟨G,t3,ab⟩:=Rl
    dsimp only at R F p⊢
    have ac:G.size=c.size:=by rw[<-aR,R.length_eq,aR]
    have T:G.size<scanBound:=by rw[ac];exact C
    refine af (O _ ?_)
    refine af (iY D rfl ?_ (dz T))
    refine av (av ?_)
    exact h _ _ G (P.trans (ij _ a _)) ⟨_,t3,zDo D,v.perm R,T,F,(p.1.trans l2).trans u,.inr (p.2 p2)⟩ (.inr ⟨I,(R.map _).trans N⟩)
   ·exact av (av (h _ _ c P ⟨_,n,D,v,C,f2,l2.trans u,.inr p2⟩ (.inr ⟨I,N⟩)))
  obtain⟨tk,rfl⟩:=dC m
  by_cases H:X.plain=true
  ·rw[if_pos H]
   refine af ?_
   rw[lr 8 B]
   refine av ?_
   exact tail {X with plain:=false} g i.1 rfl f
  ·rw[if_neg H]
   refine af (av ?_)
   simp only[↓reduceIte]
   exact tail X g i.1 (by simpa using H) f
end
def u7 (prog:aL)(w:aU)(h:bx)(a:ao)(ks:List Str):Prop:=∃es,gS prog w h a es/\(uT es).Nodup/\(∀x,x∈uT es↔x∈ks)/\es.size<=ks.length
theorem u7.stay {prog:aL}{w:aU}{h h':bx}{S:ao}{ks:List Str}(x:u7 prog w h S ks)(e:∀o,h.get? S=some o->h'.get? S=some o):u7 prog w h' S ks:=by
 obtain⟨a,⟨ep,t,b,r⟩,q⟩:=x
 exact⟨a,⟨ep,t,e _ b,r⟩,q⟩
section
variable{prog:aL}{w:aU}{A:bS}{R:lF->ar->Prop}{I:ao}{fp wr:List ao}{G:Array lB->Array lB->Prop}{P:Nat->ah->Prop}{St:Nat->ar->Prop}
theorem zOS {ks:List Str}(W:WalksS prog w A.in1 I fp wr G ks.length P St)(S:ao)(u:S∉fp)(E:∀i v,P i v->cM (ks.getD i ⟨#[]⟩) v=true)(N:ks.length+1<scanBound) :
  ∀(m i:Nat) (s:ar),ks.length-i=m->i<=ks.length->St i s->u7 prog w s.heap S (ks.take i)->
   (∀s',Moved (S::wr) G s s'->u7 prog w s'.heap S ks->R (.ok (.ret .none)) s')->
   codeAny (model prog w) A (.builtin "set.update.loop" ⟨[.ref S,.ref I],[]⟩) R s:=by
 have B:S∉wr:=fun z=>u (W.sub _ z)
 have more:∀b∈wr,b∈S::wr:=fun b z=>ak _ z
 intro m
 induction m with
 |zero=>
  intro i s e1 F st x g
  obtain rfl:i=ks.length:=by omega
  refine bX eN ?_
  rw[bP cU _]
  refine af (m:=pyNext (.ref I)) (W.done s _ _ st fun s' a=>?_)
  rw[bc]at x
  exact av (g s' (a.mono more) (x.stay fun o h=>a.heap S _ B h))
 |succ m ih=>
  intro i s e1 F st x g
  have lt:i<ks.length:=by omega
  refine bX eN ?_
  rw[bP cU _]
  refine af (m:=pyNext (.ref I)) (W.item i s _ _ lt st fun v s' H j a=>?_)
  have C:=E i v H
  obtain⟨l,J,nd,mem,sz⟩:=x.stay fun o h=>a.heap S _ B h
  have c:l.size+1<scanBound:=by rw[aQ]at sz;omega
  refine af (m:=holding [v] (setAdd S v)) (b7 ?_)
  unfold setAdd
  refine b7 (af ((e7 prog w).pyHash (k:=ks.getD i ⟨#[]⟩) C ?_))
  refine zOR (s:={s' with toks:=s'.toks+1}) C J c fun b h' es' D y L=>?_
  have f:ks.take (i+1)=ks.take i++[ks.getD i ⟨#[]⟩]:=by
   rw[az lt];simp[lt]
  have M:u7 prog w h' S (ks.take (i+1)):=by
   rcases L with⟨n,pm⟩|⟨p,pm⟩
   ·have pt:(uT es').Perm (uT l):=pm.map _
    refine⟨es',y,pt.nodup_iff.mpr nd,fun z=>?_,?_⟩
    ·rw[pt.mem_iff,mem z,f,bt,bf]
     exact⟨.inl,fun q=>q.elim id fun q=>q▸ (mem _).mp n⟩
    ·have:es'.size=l.size:=by rw[<-aR,pm.length_eq,aR]
     rw[this,f,aI];omega
   ·refine⟨es',y,pm.nodup_iff.mpr (br.mpr ⟨p,nd⟩),fun z=>?_,?_⟩
    ·rw[pm.mem_iff,aH,mem z,f,bt,bf]
     exact Or.comm
    ·have:=pm.length_eq
     simp only[aa,aR,aX]at this
     rw[this,f,aI,cK];omega
  refine av ⟨cX cU _,ih (i+1) _ (by omega) lt (W.frame _ s' _ _ j (gw _) fun b r o e=>?_) M fun t d z=>?_⟩
  ·exact(D.2 b (fun q=>u (by rw[<-q];exact r))).trans e
  ·refine g t (qd W.gtrans ((a.mono more).then_heap (gw _) fun b o r e=>?_) d) z
   exact(D.2 b (fun q=>r (by rw[q];exact aj))).trans e
end
section
variable{prog:aL}{w:aU}{A:bS}{E:ah->ar->Prop}{s:ar}
abbrev yV (w:aU):Obj:=vD #[] 0 (.fresh 0 0 (!w.params.followText "set-order"))
theorem zOT (prog:aL)(w:aU){h:bx}{a:ao}(e:h.get? a=some (yV w)):u7 prog w h a [] :=
 ⟨#[],⟨0,_,e,(fun _ q=>nomatch q),(by unfold scanBound;decide),rfl,rfl,.inl rfl⟩,ot,(fun _=>Iff.rfl),ay _⟩
theorem zHr (a:ah){Q₁:ah->ar->Prop}(h:Q₁ (.ref s.heap.objs.size) {s with heap:=s.heap.push (yV w)}) :
  codeAny (model prog w) A (.call (.builtin "set.__new__") ⟨[.type "set",a],[]⟩) (wants Q₁ E) s:=by
 refine kz ?_
 show wpAny _ A.in1 (do checkBuiltinCall "set.__new__" ⟨[.type "set",a],[]⟩;again (.builtin "set.__new__" ⟨[.type "set",a],[]⟩)) _ _ s
 refine af (wpAny_of_eq (F.newCall_set_1 a) (av ⟨cX nS _,bX F.entry_set_new ?_⟩))
 rw[bP nS _]
 unfold cp.«set.__new__» ox
 have b:=sub_set_self
 obtain⟨c,g,d,tk,os⟩:=s
 dsimp only
 wp_walk
 refine jm (av ?_)
 dsimp only
 simp only[newObj]
 refine af (wpAny_alloc (av ?_))
 exact av h
end
theorem zHs:Manifest.owners.lookup (String.ofList ['r','o','t','a','r','e','t','i','_','t','e','s'].reverse)=some Manifest.sig_set_iterator:=by kernel_rfl
theorem qO:Slot "set_iterator" "__next__" "set_iterator.__next__" :=
 .of (owner :="set_iterator") (n :="__next__") (by rw[lg,gh];kernel_rfl) (by decide+kernel) (by decide+kernel) (by decide+kernel)
  (by first|exact .inl (by decide+kernel)|exact .inr (by decide+kernel)) (by rw[f9];kernel_rfl)
theorem zDp:entryFor table "set_iterator.__next__"=some cp.«set_iterator.__next__»:=nv (by kernel_rfl)
theorem zDq (a:ah):argsOk "set_iterator.__next__" ⟨[a],[]⟩:=by
 unfold argsOk;rw[pA (id :="set_iterator.__next__") (n:=['_','_','t','x','e','n','_','_']) (o:=['r','o','t','a','r','e','t','i','_','t','e','s']) (by kernel_rfl) zHs];kernel_rfl
theorem zHt:Slot "set_iterator" "__iter__" "set_iterator.__iter__" :=
 .of (owner :="set_iterator") (n :="__iter__") (by rw[lg,gh];kernel_rfl) (by decide+kernel) (by decide+kernel) (by decide+kernel)
  (by first|exact .inl (by decide+kernel)|exact .inr (by decide+kernel)) (by rw[f9];kernel_rfl)
theorem zOU:entryFor table "set_iterator.__iter__"=some cp.«dict_keyiterator.__iter__» :=
 lN (id' :="dict_keyiterator.__iter__") (by kernel_rfl) (by first|rfl|decide+kernel|(unfold oy;simp+decide [m8])) (by decide+kernel) (by kernel_rfl)
theorem zOV (a:ah):argsOk "set_iterator.__iter__" ⟨[a],[]⟩:=by
 unfold argsOk;rw[pA (id :="set_iterator.__iter__") (n:=['_','_','r','e','t','i','_','_']) (o:=['r','o','t','a','r','e','t','i','_','t','e','s']) (by kernel_rfl) zHs];kernel_rfl
theorem zHu:entryFor table "set.__iter__"=some cp.«frozenset.__iter__» :=
 lN (id' :="frozenset.__iter__") (by kernel_rfl) (by first|rfl|decide+kernel|(unfold oy;simp+decide [m8])) (by decide+kernel) (by kernel_rfl)
abbrev qP (f:ah)(i:Nat)(a:ao)(n ep:Nat):Obj:={cls:=.type "set_iterator",dict:=none,data:=.fields #[f,.int i 0,.ref a,.int n 0,.int ep 0]}
section
variable{prog:aL}{w:aU}{A:bS}{E:ah->ar->Prop}{s:ar}
theorem zOW {I a T:ao}{i ep:Nat}{b:Array (Int×ah)}{t:dw}{pl:List Nat}{e1 j:Nat}{x:Int×ah}{Q:Option ah->ar->Prop}
  (hi:s.heap.get? I=some (qP (.ref T) i a b.size ep)) (c:s.heap.get? a=some (vD b ep t)) (d:t.fits b.size=true) (e:s.heap.get? T=some (seqObj "tuple" (pl.map fun(i:Nat)=>rawInt i).toArray e1)) (f:pl[i]?=some j) (g:b[j]?=some x)
  (h:∀h',h'.get? I=some (qP (.ref T) (i+1) a b.size ep)->fz I s.heap h'->Q (some x.2) {s with heap:=h'}) :
  wpAny (model prog w) A (pyNext (.ref I)) Q E s:=by
 have ty:s.TypeIs (.ref I) "set_iterator" :=⟨_,hi,rfl⟩
 unfold pyNext
 refine af (mm (fQ (name:=iu "__next__") ty qO (cB qO ty zDp ?_ (zDq _))))
 unfold cp.«set_iterator.__next__»
 refine af (m:=slotArgs "__next__" 0 _) (av ?_)
 refine af (lU hi rfl ?_)
 dsimp only
 refine af (eu c rfl d ?_)
 rw[if_neg (by simp)]
 refine af (lL e rfl ?_)
 have l:((pl.map fun(i:Nat)=>rawInt i).toArray)[((i:Nat):Int).toNat]?=some (.int (j:Int) 0):=by
  rw[cZ,lu,aq,f];rfl
 dsimp only
 rw[l]
 dsimp only
 unfold setNextDrawn
 refine af (af (cJ c rfl d ?_))
 dsimp only
 rw[cZ,cZ,if_neg (by simp),g]
 refine av ?_
 refine af (dR hi (by simp) fun h' n o=>?_)
 exact av ⟨_,rfl,av (h h' (by rw[n];rfl) o)⟩
theorem zHv {Q:Option ah->ar->Prop}{R:pE->ar->Prop}(c:A.handled=none)(d:∀h',(∀b o,s.heap.get? b=some o->h'.get? b=some o)->Q none {s with heap:=h'}) :
  wpAny (model prog w) A.in1 (do let e<-newExc (.type "StopIteration") [];raiseNew e) R (fun e s'=>wpAny (model prog w) A (do let b<-isInstance e (.type "StopIteration");if b=true then pure none else throw e) Q E s') s:=by
 refine af ?_
 simp only[newExc,newTuple]
 refine af (cG ?_ (by size_fits))
 refine af (m:=firstArgMember _ _) (wpAny_of_eq (a:=Value.none) (by first|rfl|(simp only[firstArgMember];rfl)) ?_)
 refine cG ?_ (by size_fits)
 simp only[raiseNew]
 refine af (wpAny_handled ?_)
 rw[show A.in1.handled=none from c]
 refine af (av (wpAny_throw ?_))
 refine af (nD (T :="StopIteration") (b:=true) ⟨_,aB _ rfl,rfl⟩ isSubtype_stop ?_)
 exact av (d _ fun b o e=>ag _ (ag _ e))
theorem zOX {I a T:ao}{i ep:Nat}{c:Array (Int×ah)}{t:dw}{pl:List Nat}{e1:Nat}{Q:Option ah->ar->Prop}(h:A.handled=none)
  (hi:s.heap.get? I=some (qP (.ref T) i a c.size ep)) (j:s.heap.get? a=some (vD c ep t)) (l:t.fits c.size=true) (n:s.heap.get? T=some (seqObj "tuple" (pl.map fun(i:Nat)=>rawInt i).toArray e1)) (p:pl[i]?=none)
  (q:∀h',(∀b o,b≠I->s.heap.get? b=some o->h'.get? b=some o)->Q none {s with heap:=h'}) :
  wpAny (model prog w) A (pyNext (.ref I)) Q E s:=by
 have ty:s.TypeIs (.ref I) "set_iterator" :=⟨_,hi,rfl⟩
 unfold pyNext
 refine af (mm (fQ (name:=iu "__next__") ty qO (cB qO ty zDp ?_ (zDq _))))
 unfold cp.«set_iterator.__next__»
 refine af (m:=slotArgs "__next__" 0 _) (av ?_)
 refine af (lU hi rfl ?_)
 dsimp only
 refine af (eu j rfl l ?_)
 rw[if_neg (by simp)]
 refine af (lL n rfl ?_)
 have r:((pl.map fun(i:Nat)=>rawInt i).toArray)[((i:Nat):Int).toNat]?=none:=by
  rw[cZ,lu,aq,p];rfl
 dsimp only
 rw[r]
 dsimp only
 refine af (dR hi (by simp) fun u v d=>?_)
 refine af (dR (s:={s with heap:=u}) v (by simp) fun x z f=>?_)
 refine zHv (s:={s with heap:=x}) h fun y ex=>q y fun b o g e=>ex b o ?_
 exact(f.2 b g).trans ((d.2 b g).trans e)
theorem gT {Q:Bool->ar->Prop}(h:Q (w.params.followText "set-order") s):wpAny (model prog w) A setsByText Q E s:=by
 unfold setsByText
 exact af (jm (av h))
theorem zOY {a:ao}{ep:Nat}{b:Array (Int×ah)}{t:dw}{Q:Array (Int×ah)->ar->Prop}(c:s.heap.get? a=some (vD b ep t))(d:t.fits b.size=true)(e:w.params.followText "set-order"=true)(h:Q (pickOrder (w.params.setOrder a ep) b) s) :
  wpAny (model prog w) A (setWalk a) Q E s:=by
 unfold setWalk
 refine af (cJ c rfl d ?_)
 dsimp only
 refine af (gT ?_)
 rw[e]
 exact af (jm (av h))
theorem gU {I a:ao}{f i ep:Nat}{d:Array (Int×ah)}{t:dw}{r:Option (ah×Nat)}{Q:Option ah->ar->Prop}(q:A.handled=none)
  (hi:s.heap.get? I=some (qP (.int f 0) i a d.size ep)) (u:s.heap.get? a=some (vD d ep t)) (v:t.fits d.size=true)
  (y:∀(A:bS) (E:ah->ar->Prop) (Q:Option (ah×Nat)->ar->Prop),Q r s->wpAny (model prog w) A (setNext a f i ep) Q E s)
  (g:∀x j,r=some (x,j)->∀h',h'.get? I=some (qP (.int j 0) (i+1) a d.size ep)->fz I s.heap h'->Q (some x) {s with heap:=h'})
  (h:r=none->∀h',(∀b o,b≠I->s.heap.get? b=some o->h'.get? b=some o)->Q none {s with heap:=h'}) :
  wpAny (model prog w) A (pyNext (.ref I)) Q E s:=by
 have ty:s.TypeIs (.ref I) "set_iterator" :=⟨_,hi,rfl⟩
 unfold pyNext
 refine af (mm (fQ (name:=iu "__next__") ty qO (cB qO ty zDp ?_ (zDq _))))
 unfold cp.«set_iterator.__next__»
 refine af (m:=slotArgs "__next__" 0 _) (av ?_)
 refine af (lU hi rfl ?_)
 dsimp only
 refine af (eu u rfl v ?_)
 rw[if_neg (by simp)]
 rw[cZ,cZ,cZ]
 refine af (y _ _ _ ?_)
 match r,g,h with
 |none,_,h=>
  dsimp only
  refine af (dR hi (by simp) fun l p c=>?_)
  exact zHv (s:={s with heap:=l}) q fun z ex=>h rfl z fun b o B e=>ex b o ((c.2 b B).trans e)
 |some (x,j),g,_=>
  dsimp only
  refine af (dR hi (by simp) fun l p c=>?_)
  refine af (dR (s:={s with heap:=l}) p (by simp) fun C D n=>?_)
  exact av ⟨_,rfl,av (g x j rfl C (by rw[D];rfl) (c.trans n))⟩
theorem zHw {a:ao}{f i ep:Nat}{b:Array (Int×ah)}{t:dw}{Q:Option (ah×Nat)->ar->Prop}(c:s.heap.get? a=some (vD b ep t))(d:t.fits b.size=true)(g:w.params.followText "set-order"=true)
  (h:Q (((pickOrder (w.params.setOrder a ep) b)[i]?).map fun e=>(e.2,f)) s):wpAny (model prog w) A (setNext a f i ep) Q E s:=by
 unfold setNext
 refine af (cJ c rfl d ?_)
 dsimp only
 refine af (gT ?_)
 rw[g,if_pos rfl,if_neg (by simp)]
 refine af (zOY c d g ?_)
 exact av h
theorem zHx {a:ao}{f i ep:Nat}{b:Array (Int×ah)}{t:dw}{Q:Option (ah×Nat)->ar->Prop}(d:s.heap.get? a=some (vD b ep t))(e:t.fits b.size=true)(g:w.params.followText "set-order"=false)(hl:t.led=true)(l:b.size<=1)
  (h:Q (match b[b5 t.place f]?,t.place[b5 t.place f]? with|some (_,x),some j=>some (x,j+1)|_,_=>none) s):wpAny (model prog w) A (setNext a f i ep) Q E s:=by
 unfold setNext
 refine af (cJ d rfl e ?_)
 dsimp only
 refine af (gT ?_)
 rw[g,if_neg (by decide)]
 refine dB (fun hd=>?_) (fun _=>?_)
 ·have c:(!t.plain&&decide (b.size>1))=true:=hd
  simp only[bH,decide_eq_true_eq]at c
  omega
 ·show wpAny _ _ ((if(!t.led&&!b.isEmpty)=true then unsupported "set:maker-not-led"else pure ())>>=_) _ _ _
  rw[hl,if_neg (by simp)]
  exact af (av (av h))
theorem zDr {α:Type}:∀{l:List α}{i:Nat} (h:i<l.length),(l[i]::l.eraseIdx i).Perm l
 |x::l,0,h=>dP _
 |x::l,i+1,h=>by
  have q:=zDr (l:=l) (i:=i) (by simpa using h)
  exact(List.Perm.swap ..).trans (q.cons x)
theorem zBS {α:Type}(next:Nat->Nat)(xs:Array α):(pickOrder next xs).toList.Perm xs.toList:=by
 have go:∀(a k:Nat) (left:List α) (out:Array α),left.length=a->(m9 next a k left out).toList.Perm (out.toList++left):=by
  intro a
  induction a with
  |zero=>
   intro k left out e
   rw[cn.mp e]
   simp[m9]
  |succ a ih=>
   intro k left out e
   have lt:next k%left.length<left.length:=oq _ (by omega)
   unfold m9
   rw[aG lt]
   dsimp only
   refine(ih _ _ _ (by rw[iL lt,e];rfl)).trans ?_
   rw[iR,dZ]
   refine p3 _ ?_
   exact zDr lt
 have:=go xs.size 0 xs.toList #[] rfl
 simpa [pickOrder]using this
theorem zOZ {a:Source}{n:Nat}{Q:Nat->ar->Prop}(b:0<n)(h:∀d r,r<n->Q r {s with drawn:=d}):wpAny (model prog w) A (choose a n) Q E s :=
 fun Γ p c=>⟨dj b,h _ _ (oq _ b)⟩
theorem zHy {α:Type}:∀(n:Nat) (xs:List α) {s:ar}{Q:List α->ar->Prop},xs.length=n->(∀d ord,ord.Perm xs->Q ord {s with drawn:=d})->wpAny (model prog w) A (drawOrder n xs) Q E s
 |0,xs,s,Q,e,h=>by
  rw[cn.mp e]at h
  unfold drawOrder
  have:s={s with drawn:=s.drawn}:=rfl
  exact av (h s.drawn [] (dP _))
 |n+1,[],s,Q,e,h=>by cases e
 |n+1,x::xs,s,Q,e,h=>by
  unfold drawOrder
  refine af (zOZ (by rw[e];omega) fun d r a=>?_)
  rw[aG a]
  dsimp only
  refine af (zHy n _ (by rw[iL a,e];rfl) fun b ord pm=>?_)
  refine av (h b _ ?_)
  exact(pm.cons _).trans (zDr a)
theorem zBT {I:ao}{f:ah}{i:Nat}{a:ao}{n ep:Nat}{Q:ah->ar->Prop}(hi:s.heap.get? I=some (qP f i a n ep))(h:Q (.ref I) s):wpAny (model prog w) A (pyIter (.ref I)) Q E s:=by
 have ty:s.TypeIs (.ref I) "set_iterator" :=⟨_,hi,rfl⟩
 refine f6 ty zHt (cB zHt ty zOU ?_ (zOV _))
 show wpAny _ _ (ret (.ref I)) _ _ s
 exact av ⟨_,rfl,"set_iterator",_,ty,qO.lookup,h⟩
theorem zHz {I a:ao}{ep:Nat}{c:Array (Int×ah)}{t:dw}(n:A.handled=none)(ne:a≠I)(l:t.fits c.size=true)(d:w.params.followText "set-order"=true) :
  pD prog w A I [I,a] [I] c.size (fun i v=>((pickOrder (w.params.setOrder a ep) c).toList.map (·.2))[i]?=some v) (fun i h=>h.get? I=some (qP (.int 0 0) i a c.size ep)/\h.get? a=some (vD c ep t)) where
 sub:=fun b d=>by simp at d;simp[d]
 frame:=fun _ _ _ st p=>⟨p I (by simp) _ st.1,p a (by simp) _ st.2⟩
 item:=fun i s Q E lt st g=>by
  have m:(pickOrder (w.params.setOrder a ep) c).size=c.size:=by rw[<-aR,(zBS _ c).length_eq,aR]
  have u:i<(pickOrder (w.params.setOrder a ep) c).size:=by rw[m];exact lt
  refine gU (f:=0) (r:=some ((pickOrder (w.params.setOrder a ep) c)[i].2,0)) n st.1 st.2 l (fun A E Q q=>zHw st.2 l d (by rw[bN u];exact q)) (fun x j e h' e1 y=>?_) (fun e=>nomatch e)
  injection e with e
  injection e with z B
  subst z B
  refine g _ h' s.toks ?_ ⟨e1,(y.2 a ne).trans st.2⟩ fun b o d e=>(y.2 b (by simpa using d)).trans e
  rw[aq,da,bN u];rfl
 done:=fun s Q E st g=>by
  have m:(pickOrder (w.params.setOrder a ep) c).size=c.size:=by rw[<-aR,(zBS _ c).length_eq,aR]
  refine gU (f:=0) (r:=none) n st.1 st.2 l (fun A E Q q=>zHw st.2 l d (by rw[gb (by rw[m];exact ay _)];exact q)) (fun _ _ e=>nomatch e) (fun _ h' k=>?_)
  exact g h' s.toks fun b o d e=>k b o (by simpa using d) e
 self:=fun _ _ _ _ st g=>zBT st.1 g
theorem zOa {I a T:ao}{ep e1:Nat}{c:Array (Int×ah)}{t:dw}{pl:List Nat}(q:A.handled=none)(ne:a≠I)(nt:T≠I)(n:t.fits c.size=true)(hl:pl.length=c.size)(r:∀j∈pl,j<c.size) :
  pD prog w A I [I,a,T] [I] c.size (fun i v=>(pl.map fun j=>(c.getD j (0,.none)).2)[i]?=some v) (fun i h=>h.get? I=some (qP (.ref T) i a c.size ep)/\h.get? a=some (vD c ep t)/\h.get? T=some (seqObj "tuple" (pl.map fun(i:Nat)=>rawInt i).toArray e1)) where
 sub:=fun b d=>by simp at d;simp[d]
 frame:=fun _ _ _ st g=>⟨g I (by simp) _ st.1,g a (by simp) _ st.2.1,g T (by simp) _ st.2.2⟩
 item:=fun i s Q E lt st f=>by
  have l:i<pl.length:=by rw[hl];exact lt
  have p:pl[i]<c.size:=r _ (cA l)
  refine zOW (j:=pl[i]) (x:=c[pl[i]]) st.1 st.2.1 n st.2.2 (aG l) (bN p) fun h' u m=>?_
  refine f _ h' s.toks ?_ ⟨u,(m.2 a ne).trans st.2.1,(m.2 T nt).trans st.2.2⟩ fun b o d e=>(m.2 b (by simpa using d)).trans e
  rw[aq,aG l]
  simp[p]
 done:=fun s Q E st f=>zOX q st.1 st.2.1 n st.2.2 (fc (by rw[hl];exact ay _)) fun h' k=>f h' s.toks fun b o d e=>k b o (by simpa using d) e
 self:=fun _ _ _ _ st f=>zBT st.1 f
theorem zOb (j:Nat):b5 #[j] (j+1)=1:=by
 unfold b5
 simp[nc]
theorem zOc (j:Nat):b5 #[j] 0=0:=by
 unfold b5
 simp[nc]
theorem zOd {I a:ao}{ep:Nat}{es:Array (Int×ah)}{t:dw}(hh:A.handled=none)(ne:a≠I)(hf:t.fits es.size=true)(hb:w.params.followText "set-order"=false)(hl:t.led=true)(h1:es.size<=1) :
  pD prog w A I [I,a] [I] es.size (fun i v=>(es.toList.map (·.2))[i]?=some v) (fun i h=>h.get? I=some (qP (.int ((if i=0 then 0 else t.place.getD 0 0+1:Nat):Int) 0) i a es.size ep)/\h.get? a=some (vD es ep t)) where
 sub:=fun b hb=>by simp at hb;simp[hb]
 frame:=fun _ _ _ st hk=>⟨hk I (by simp) _ st.1,hk a (by simp) _ st.2⟩
 item:=fun i s Q E lt st hQ=>by
  obtain rfl:i=0:=by omega
  have z1:es.size=1:=by omega
  have pz:t.place.size=1:=by
   simp only[gn,bH,beq_iff_eq]at hf
   rw[hf.1,z1]
  obtain⟨j,hj⟩ : ∃j,t.place= #[j] :=⟨t.place[0],by apply Array.ext<;>simp[pz];intro i hi;have : i=0 :=by omega
                                                   subst this;rfl⟩
  have li:0<es.size:=by omega
  refine gU (f:=0) (r:=some (es[0].2,j+1)) hh st.1 st.2 hf (fun A E Q q=>zHx st.2 hf hb hl h1 (by rw[hj,zOc,bN li];exact q)) (fun x j' e h' e1 sb=>?_) (fun e=>nomatch e)
  injection e with e
  injection e with e2 e3
  subst e2 e3
  refine hQ _ h' s.toks ?_ ⟨?_,(sb.2 a ne).trans st.2⟩ fun b o hb e=>(sb.2 b (by simpa using hb)).trans e
  ·rw[aq,da,bN li];rfl
  ·rw[e1,hj];rfl
 done:=fun s Q E st hQ=>by
  have nx:(match es[b5 t.place (if es.size=0 then 0 else t.place.getD 0 0+1)]?,t.place[b5 t.place (if es.size=0 then 0 else t.place.getD 0 0+1)]? with|some (_,x),some j=>some (x,j+1)|_,_=>(none:Option (ah×Nat)))=none:=by
   have hz:t.place.size=es.size:=by
    simp only[gn,bH,beq_iff_eq]at hf
    exact hf.1
   by_cases z:es.size=0
   ·have:es=#[]:=Array.size_eq_zero_iff.mp z
    subst this
    simp
   ·have z1:es.size=1:=by omega
    obtain⟨j,hj⟩ : ∃j,t.place= #[j] :=⟨t.place[0],by apply Array.ext<;>simp[hz,z1];intro i hi;have : i=0 :=by omega
                                                     subst this;rfl⟩
    rw[if_neg z,hj]
    have e4:(#[j]:Array Nat).getD 0 0=j:=rfl
    rw[e4,zOb,gb (by rw[z1];exact ay _)]
  refine gU (r:=none) hh st.1 st.2 hf (fun A E Q q=>zHx st.2 hf hb hl h1 (by rw[nx];exact q)) (fun _ _ e=>nomatch e) (fun _ h' k=>?_)
  exact hQ h' s.toks fun b o hb e=>k b o (by simpa using hb) e
 self:=fun _ _ _ _ st hQ=>zBT st.1 hQ
theorem zOe {a:ao}{c:Array (Int×ah)}{Q:ah->ar->Prop}(y:A.handled=none)(G:gS prog w s.heap a c)
  (B:∀(I:ao) (g:bx) (d:Drawn) (ord:List ah) (fp:List ao) (St:Nat->bx->Prop),ord.Perm (c.toList.map (·.2))->pD prog w A I fp [I] c.size (fun i v=>ord[i]?=some v) St->St 0 g->s.heap.objs.size<=I->(∀b∈fp,b=a\/s.heap.objs.size<=b)->
   (∀b∈fp,b<g.objs.size)->(∀b o,s.heap.get? b=some o->g.get? b=some o)->Q (.ref I) {s with heap:=g,drawn:=d}) :
  wpAny (model prog w) A (pyIter (.ref a)) Q E s:=by
 obtain⟨ep,t,h,H,C,l,q,D⟩:=id G
 have ty:s.TypeIs (.ref a) "set" :=⟨_,h,rfl⟩
 have x:a<s.heap.objs.size:=aE h
 refine f6 ty fh (cB fh ty zHu ?_ (jn _))
 unfold cp.«frozenset.__iter__» jo jc
 refine af (af (m:=slotArgs "__iter__" 0 _) (av (av ?_)))
 refine af (af (eu h rfl l (av ?_)))
 unfold setDrawn
 refine af (af (cJ h rfl l ?_))
 dsimp only
 refine af (gT (av ?_))
 have F:c.size<=sizeLine:=dz C
 refine dB (fun hd=>?_) (fun hd=>?_)
 ·refine af (zHy c.size (ba c.size) (by simp) fun d pl pm=>?_)
  have pl_len:pl.length=c.size:=by rw[pm.length_eq,bK]
  refine af (oj ?_ (by rw[aa,pl_len];exact F))
  have r:(s.heap.push (seqObj "tuple" (pl.map fun(i:Nat)=>rawInt i).toArray 0)).get? a=some (vD c ep t):=ag _ h
  refine af (iZ r rfl l ?_)
  refine af (cG (av ⟨_,rfl,"set_iterator",_,⟨_,aB _ rfl,rfl⟩,qO.lookup,B _ _ d _ _ _ ?pm (zOa (a:=a) (T:=s.heap.objs.size) (t:=t) (ep:=ep) (e1:=0) (pl:=pl) y ?ne ?nt l pl_len fun j J=>bz.mp (pm.mem_iff.mp J)) ?st ?ge ?fp ?lt ?kp⟩))
  case pm=>
   refine(pm.map _).trans ?_
   rw[show(ba c.size).map (fun j=>(c.getD j (0,Value.none)).2)=c.toList.map (·.2)from ?_]
   apply eE
   ·simp
   ·intro i g L
    have hi:i<c.size:=by simpa using g
    simp[hi]
  case ne=>show a≠(s.heap.push _).objs.size;rw[bF];exact aS (bC x)
  case nt=>show s.heap.objs.size≠(s.heap.push _).objs.size;rw[bF];exact aS (b6 _)
  case st=>exact⟨aB _ rfl,ag _ r,ag _ (aB _ rfl)⟩
  case ge=>show s.heap.objs.size<=(s.heap.push _).objs.size;rw[bF];exact gw _
  case fp=>
   intro b f
   simp only[aH,cD,or_false]at f
   rcases f with rfl|rfl|rfl
   ·right;show s.heap.objs.size<=(s.heap.push _).objs.size;rw[bF];exact gw _
   ·exact .inl rfl
   ·exact .inr (ay _)
  case lt=>
   intro b f
   simp only[aH,cD,or_false]at f
   rw[bF]
   rcases f with rfl|rfl|rfl
   ·exact b6 _
   ·rw[bF];exact bC (bC x)
   ·rw[bF];exact bC (b6 _)
  case kp=>exact fun b o e=>ag _ (ag _ e)
 ·refine af (av ?_)
  refine af (iZ h rfl l ?_)
  refine af (cG (av ⟨_,rfl,"set_iterator",_,⟨_,aB _ rfl,rfl⟩,qO.lookup,?_⟩))
  have ne:a≠s.heap.objs.size:=aS x
  have u:∀b∈[s.heap.objs.size,a],b=a\/s.heap.objs.size<=b:=fun b f=>by
   simp only[aH,cD,or_false]at f
   rcases f with rfl|rfl
   ·exact .inr (ay _)
   ·exact .inl rfl
  have flt:∀(o:Obj),∀b∈[s.heap.objs.size,a],b<(s.heap.push o).objs.size:=fun o b f=>by
   simp only[aH,cD,or_false]at f
   rw[bF]
   rcases f with rfl|rfl
   ·exact b6 _
   ·exact bC x
  by_cases f:w.params.followText "set-order"=true
  ·exact B _ _ s.drawn _ _ _ ((zBS _ c).map _) (zHz (a:=a) (ep:=ep) (t:=t) y ne l f) ⟨aB _ rfl,ag _ h⟩ (ay _) u (flt _) fun b o e=>ag _ e
  ·have n:w.params.followText "set-order"=false:=by simpa using f
   have g:c.size<=1:=by
    have p:¬(!w.params.followText "set-order"&& (!t.plain&&decide (c.size>1)))=true:=hd
    rw[n]at p
    rcases D with z|z
    ·omega
    ·rw[z]at p
     simpa using p
   have hl:t.led=true:=by rw[q,n];rfl
   exact B _ _ s.drawn _ _ _ (dP _) (zOd (a:=a) (ep:=ep) (t:=t) y ne l n hl g) ⟨aB _ rfl,ag _ h⟩ (ay _) u (flt _) fun b o e=>ag _ e
theorem zOf:typeLookup (.type "set") "__len__"=pure (some (.builtin "set.__len__")):=by rw[lg,gh];kernel_rfl
theorem zIA {r:ao}{Q:Bool->ar->Prop}(d:s.TypeIs (.ref r) "set")(h:Q false s):wpAny (model prog w) A (iw (.ref r)) Q E s:=by
 unfold iw
 refine af (nN d zOf ?_)
 generalize c:("set.__len__" : String)=e
 wp_delta
 rw[show splitId e=some ("set","__len__")from by subst c;decide+kernel]
 subst c
 refine af (nD (T :="set") (b:=true) d (by rw[f9];kernel_rfl) ?_)
 refine dB (fun a=>absurd a (by decide)) (fun _=>?_)
 refine dB (fun _=>?_) (fun a=>absurd (by decide+kernel) a)
 refine af (ip d ?_)
 exact av h
theorem zOg {a:ao}{es:Array (Int×ah)}{R:List ah->ar->Prop}(hh:A.handled=none)(hS:gS prog w s.heap a es)
  (h:∀h' tk d ord,ord.Perm (es.toList.map (·.2))->(∀b o,s.heap.get? b=some o->h'.get? b=some o)->R ord {s with heap:=h',toks:=tk,drawn:=d}) :
  wpAny (model prog w) A (collect (.ref a)) R E s:=by
 obtain⟨ep,t,ho,hel,hbd,hf,hled,hpl⟩:=id hS
 have la:a<s.heap.objs.size:=aE ho
 unfold collect
 refine af (iM (bX ix ?_))
 rw[bP iy _]
 show wpAny _ A.in1 (newList []>>=fun l=>again (.builtin "list.__iadd__" ⟨[l,.ref a],[]⟩)) _ _ s
 refine af (cG ?_)
 refine av ⟨cX eO _,bX jq ?_⟩
 rw[bP eO _]
 show wpAny _ A.in1 (dI (.ref s.heap.objs.size) (.ref a) (.ref s.heap.objs.size)) _ _ _
 have ho1:(s.heap.push {cls:=.type "list",data:=.seq ([]:List ah).toArray}).get? a=some (vD es ep t):=ag _ ho
 have hS1:gS prog w (s.heap.push {cls:=.type "list",data:=.seq ([]:List ah).toArray}) a es:=⟨ep,t,ho1,hel,hbd,hf,hled,hpl⟩
 have hL:(s.heap.push {cls:=.type "list",data:=.seq ([]:List ah).toArray}).get? s.heap.objs.size=some {cls:=.type "list",data:=.seq #[]}:=aB _ rfl
 unfold dI
 refine af (ip (T :="set") ⟨_,ho1,rfl⟩ ?_)
 have ne:s.heap.objs.size≠a:=dj la
 have q1:er (.ref s.heap.objs.size) (.ref a)=false:=by simp[er,ne]
 rw[if_neg (by rw[q1];decide)]
 refine af (zOe (A:=A.in1) (s:={s with heap:=s.heap.push {cls:=.type "list",data:=.seq ([]:List ah).toArray}}) hh hS1 fun I h1 d ord fp St pm W st ge fpo flt kp=>?_)
 dsimp only at ge fpo kp
 rw[bF]at ge fpo
 have nf:s.heap.objs.size∉fp:=fun z=>by
  rcases fpo _ z with e|e
  ·exact ne e
  ·exact bE _ e
 have hn:es.size<=sizeLine:=dz hbd
 have ol:ord.length=es.size:=by rw[pm.length_eq,aa,aR]
 have key:∀(g:bx) (c₁:Nat),St 0 g->(∀b o,b≠s.heap.objs.size->h1.get? b=some o->g.get? b=some o)->g.get? s.heap.objs.size=some {cls:=.type "list",data:=.seq #[] c₁}->
   codeAny (model prog w) A (.builtin "list.extend.loop" ⟨[.ref s.heap.objs.size,.ref I,.ref s.heap.objs.size],[]⟩) (fun q s'=>∃(h':bx) (tk:Nat) (acc:Array ah) (c':Nat),q=.ok (.ret (.ref s.heap.objs.size))/\s'={s with heap:=h',toks:=tk,drawn:=d}/\
    (∀b o,s.heap.get? b=some o->h'.get? b=some o)/\h'.get? s.heap.objs.size=some {cls:=.type "list",dict:=none,data:=.seq acc c',slots:=#[]}/\acc.toList=ord) {s with heap:=g,drawn:=d}:=by
  intro g c₁ hst hk hg
  refine lV W.toS hn _ nf _ es.size 0 _ #[] c₁ rfl (bD _) hst hg (qe _) fun s' acc' c' hm hS' hacc=>?_
  have e1:acc'.toList=ord:=by
   apply eE
   ·rw[aR,hacc.1,ol]
   ·intro i i1 i2
    have:ord[i]?=some (acc'[i]'(by simpa using i1)):=hacc.2 i _ (bN (by simpa using i1))
    rw[aG i2]at this
    injection this with this
    simpa using this.symm
  refine⟨s'.heap,s'.toks,acc',c',rfl,i9 hm,fun b o e=>?_,hS',e1⟩
  have nb:b≠s.heap.objs.size:=aS (aE e)
  refine hm.heap b o (fun z=>?_) (hk b o nb (kp b o (ag _ e)))
  rcases aH.mp z with e'|z
  ·exact nb e'
  ·rw[bf.mp z]at e
   exact absurd (aE e) (qv.mpr (ng ge))
 have fin : ∀(q : Result) (s' : Shared),(∃(h' : Heap) (tk : Nat) (acc : Array Value) (c' : Nat),q= .ok (.ret (.ref s.heap.objs.size))/\s'={s with heap :=h',toks :=tk,drawn :=d}/\
       (∀b o,s.heap.get? b=some o->h'.get? b=some o)/\h'.get? s.heap.objs.size=some {cls:=.type "list",dict:=none,data:=.seq acc c',slots:=#[]}/\acc.toList=ord)->
   q=.ok (.ret (.ref s.heap.objs.size))/\wpAny (model prog w) A (load s.heap.objs.size>>=fun o=>match o.data with| .seq xs _=>pure xs.toList|_=>unsupported "internal:collect") R E s':=by
  rintro q s' ⟨h',tk,acc,c',rfl,rfl,kk,hg,e1⟩
  refine⟨rfl,af (nZ hg ?_)⟩
  show wpAny _ _ (pure acc.toList) _ _ _
  rw[e1]
  exact av (h h' tk d ord pm kk)
 have hL1:=kp _ _ hL
 have hoa:=kp _ _ ho1
 refine af (b7 (zIA (s:={s with heap:=h1,drawn:=d}) ⟨_,hoa,rfl⟩ ?_))
 refine dB (fun _=>?_) (fun _=>av ⟨cX dX _,dk (key h1 _ st (fun b o _ e=>e) hL1) fun q s' y=>?_⟩)
 ·refine af (iH ?_)
  refine af ?_
  show wpAny _ _ (updateSeq s.heap.objs.size (·.push .none)>>=fun _=>updateSeq s.heap.objs.size (·.pop)) _ _ _
  refine af (hV hL1 rfl ?_)
  have hL2:=dW (cu (·.push Value.none)) hL1 rfl
  refine hV (hz:=by seq_fits) hL2 rfl ?_
  have hL3:=dW (cu (·.pop)) hL2 rfl
  refine av ⟨cX dX _,dk (key _ _ ?_ (fun b o hb e=>?_) hL3) fun q s' y=>?_⟩
  ·refine W.frame 0 _ _ st fun b hb o e=>?_
   have hbS:b≠s.heap.objs.size:=fun z=>nf (z▸hb)
   exact(bw _ _ (dS hbS)).trans ((bw _ _ (dS hbS)).trans e)
  ·exact(bw _ _ (dS hb)).trans ((bw _ _ (dS hb)).trans e)
  ·obtain⟨rfl,y2⟩:=fin q s' y
   exact y2
 ·obtain⟨rfl,y2⟩:=fin q s' y
  exact y2
end
section
open MyS PySem.W
variable{X:Cx}{pins:List (ao×Obj)}{σ:List (Option V)}{H:Hp}{s:ar}
theorem Inv.draw {h':bx}{tk:Nat}{d:Drawn}(I:Inv X pins σ H {s with heap:=h',toks:=tk}):Inv X pins σ H {s with heap:=h',toks:=tk,drawn:=d} :=
 ⟨I.ok,I.os,I.bare,I.base,I.loc,I.cell,I.free,I.freeC,I.pin,I.hok,I.len⟩
theorem Inv.grown {h':bx}{tk:Nat}(I:Inv X pins σ H s)(k:∀b u,s.heap.get? b=some u->h'.get? b=some u):Inv X pins σ H {s with heap:=h',toks:=tk} :=
 I.un (Un.kept k) (I.hok.kept k)
theorem zOh (U:X.calm=true){a:ao}{ks:List Str}{Q:VK}(I:Inv X pins σ H s)(C:u7 X.prog X.w s.heap a ks)(W:ks.length<64)
  (q:∀(out:List Str) (l:ao),(∀x,x∈out↔x∈ks)->out.Pairwise (fun a b=>a.cps.toList<b.cps.toList)->H l=none->Q (.ref l) (upd H l (.lst (out.map V.str)))) :
  wpAny (model X.prog X.w) X.A (call (.builtin "sorted") [.ref a]) (EP X pins σ Q) X.xe s:=by
 obtain⟨M,N,nd,mem,sz⟩:=C
 refine fD nI mS mT (mU _) ?_
 unfold cp.«sorted»
 refine af (m:=checkCount "sorted" 1 1 _) (av ?_)
 refine af (zOg (A:=X.A.in1) (I.ok.hd U) N fun h' tk d ord pm Y=>?_)
 have O:Inv X pins σ H {s with heap:=h',toks:=tk,drawn:=d}:=(I.grown Y).draw
 obtain⟨ep,t,ho,D,_⟩:=N
 have c:∀v∈ord,∃x u,v=Value.str x u:=fun v E=>by
  obtain⟨e,Z,rfl⟩:=au.mp (pm.mem_iff.mp E)
  obtain⟨⟨k,F,_⟩,_⟩:=D e Z
  obtain⟨u,P⟩:=dC F
  exact⟨k,u,P⟩
 have C:nU ord (ord.map vT):=by
  have go:∀l:List ah,(∀v∈l,∃x u,v=Value.str x u)->nU l (l.map vT):=by
   intro l
   induction l with
   |nil=>intro _;exact .nil
   |cons v l ih=>
    intro hl
    obtain⟨x,u,rfl⟩:=hl v (aj ..)
    exact .cons _ _ (ih fun v E=>hl v (ak _ E))
  exact go ord c
 have pt:(ord.map vT).Perm (uT M):=by
  have:=pm.map vT
  rw[aJ]at this
  exact this
 have G:(ord.map vT).Nodup:=pt.nodup_iff.mpr nd
 have ol:ord.length=M.size:=by rw[pm.length_eq,aa,aR]
 have g:ord.length<64:=by omega
 refine af (i8 ?_ (by rw[aZ];omega))
 dsimp only
 generalize z:h'.objs.size=B
 have h:(h'.push {cls:=.type "list",data:=.seq ord.toArray}).get? B=some (seqObj "list" ord.toArray 0):=by
  rw[<-z];exact aB _ rfl
 have old:∀b o,h'.get? b=some o->(h'.push {cls:=.type "list",data:=.seq ord.toArray}).get? b=some o/\b≠B:=fun b o e=>⟨ag _ e,by rw[<-z];exact aS (aE e)⟩
 refine af (b7 (cB lJ ⟨_,h,rfl⟩ ku (sort_strs (ks:=ord.map vT) h C G g fun p R P f n J L=>⟨_,rfl,?_⟩) (lK _)))
 refine av ⟨_,rfl,?_⟩
 have r:∀b o,h'.get? b=some o->R.get? b=some o:=fun b o e=>J b o (old _ _ e).2 (old _ _ e).1
 refine⟨.ref B,_,O.laid (t':=tk) (o:=.lst ((p.map fun i=>(ord.map vT).getD i ⟨#[]⟩).map V.str)) r (d5 z) ⟨?_,_,_,?_,L⟩,rfl,q _ B ?_ ?_ (O.hok.fresh (d5 z))⟩
 ·rw[aa,aa,f.length_eq,bK,aZ];omega
 ·have go:∀l:List Nat,(∀i∈l,i<ord.length)->zN ((l.map fun i=>(ord.map vT).getD i ⟨#[]⟩).map V.str) (l.map fun i=>ord.getD i Value.none):=by
   intro l
   induction l with
   |nil=>intro _;exact .nil
   |cons i l ih=>
    intro y
    have hi:i<ord.length:=y i (aj ..)
    refine .cons ?_ (ih fun j hj=>y j (ak _ hj))
    obtain⟨x,u,e⟩:=c ord[i] (cA hi)
    have a1:ord.getD i Value.none=Value.str x u:=by simp[hi,e]
    have a2:(ord.map vT).getD i ⟨#[]⟩=x:=by simp[hi,e,vT]
    show zS (V.str ((ord.map vT).getD i ⟨#[]⟩)) (ord.getD i Value.none)
    rw[a1,a2]
    exact⟨_,rfl⟩
  exact go p fun i hi=>bz.mp (f.mem_iff.mp hi)
 ·intro x
  have e1:(ba ord.length).map (fun i=>(ord.map vT).getD i (⟨#[]⟩:Str))=ord.map vT:=by
   apply eE
   ·simp
   ·intro i h1 R
    have hi:i<ord.length:=by simpa using h1
    simp[hi]
  have T:=f.map (fun i=>(ord.map vT).getD i (⟨#[]⟩:Str))
  rw[e1]at T
  rw[T.mem_iff,pt.mem_iff]
  exact mem x
 ·rw[cf]
  rw[cf]at n
  exact n
end
open MyS PySem.W
section
variable{prog:aL}{w:aU}{A:bS}{E:ah->ar->Prop}{s:ar}
theorem zIB:isSubtype (.type "list") (.type "set")=pure false:=by
 rw[f9];kernel_rfl
theorem zIC:isSubtype (.type "list") (.type "frozenset")=pure false:=by
 rw[f9];kernel_rfl
theorem zOi {D:bS}{R:lF->ar->Prop}{l:ao}{items:Array ah}{ks:List Str}(F:A.handled=none)(hl:s.heap.IsList l items)(d:items.size=ks.length)(G:∀i v,items[i]?=some v->cM (ks.getD i ⟨#[]⟩) v=true)(m:ks.length+1<scanBound)
  (H:∀h' tk,u7 prog w h' s.heap.objs.size ks->(∀b o,b<s.heap.objs.size->s.heap.get? b=some o->h'.get? b=some o)->R (.ok (.ret .none)) {s with heap:=h',toks:=tk}) :
  wpAny (model prog w) A (cp.«set.__init__» ⟨[.ref s.heap.objs.size,.ref l],[]⟩) (fun fin s'=>match fin with| .done f=>R (.ok f) s'| .again u=>u.quiet=true/\codeAny (model prog w) D u R s') (fun e s'=>R (.error e) s') {s with heap:=s.heap.push (yV w)}:=by
 have new:(s.heap.push (yV w)).get? s.heap.objs.size=some (yV w):=aB _ rfl
 have ty:fG {s with heap:=s.heap.push (yV w)} (.ref s.heap.objs.size) "set" :=⟨_,new,rfl⟩
 obtain⟨ol,g,h,nl,j⟩:=id hl
 obtain⟨y,c,p,a⟩:=ol
 simp only at h j
 subst h;subst j
 have old:(s.heap.push (yV w)).get? l=some {cls:=.type "list",dict:=c,data:=.seq items nl,slots:=a}:=ag _ g
 have N:=zIB
 have O:=zIC
 have P:(Value.type "list"==Value.type "dict")=false:=by decide
 have z:(s.heap.push (yV w)).IsList l items:=⟨_,old,rfl,nl,rfl⟩
 unfold cp.«set.__init__» noKeywords ia
 generalize q:pyIter=PI
 wp_walk
 subst q
 refine d3 z (af (iM ?_))
 have B:l<s.heap.objs.size:=aE g
 have I:A.in1.handled=none:=by simp[F]
 have ne:l≠(s.heap.push (yV w)).objs.size:=by
  rw[bF]
  exact aS (bC B)
 have J:s.heap.objs.size∉ [(s.heap.push (yV w)).objs.size,l]:=by
  rw[bF]
  simp only[aH,bf,cD,or_false,not_or]
  exact⟨aS (b6 _),dj B⟩
 have C:=(ke (prog:=prog) (w:=w) (A:=A.in1) I _ l ne items).toS
 rw[d]at C
 refine zOS C s.heap.objs.size J G m (ks.length-0) 0 _ (by omega) (bD _) ?st0 ?x0 fun s' n x=>?_
 case st0=>exact⟨⟨_,aB _ rfl,rfl,rfl⟩,z.push _⟩
 case x0=>exact zOT prog w (ag _ new)
 obtain⟨h',g',d',r,t⟩:=s'
 obtain rfl:g'=s.gens:=n.gens
 obtain rfl:d'=s.drawn:=n.drawn
 obtain rfl:t=s.os:=n.os
 refine av ?_
 refine av (H h' r x fun b o m e=>?_)
 have L:b≠s.heap.objs.size:=aS m
 have M:b≠(s.heap.push (yV w)).objs.size:=by
  rw[bF]
  exact aS (bC m)
 refine n.heap b o ?_ (ag _ (ag _ e))
 simp only[aH,bf,cD,or_false,not_or]
 exact⟨L,M⟩
theorem zOj {l:ao}{items:Array ah}{ks:List Str}{Q:ah->ar->Prop}(j:A.handled=none)(hl:s.heap.IsList l items)(d:items.size=ks.length)(m:∀i v,items[i]?=some v->cM (ks.getD i ⟨#[]⟩) v=true)(n:ks.length+1<scanBound)
  (h:∀h' tk,u7 prog w h' s.heap.objs.size ks->(∀b o,b<s.heap.objs.size->s.heap.get? b=some o->h'.get? b=some o)->Q (.ref s.heap.objs.size) {s with heap:=h',toks:=tk}) :
  wpAny (model prog w) A (call (.type "set") [.ref l]) Q E s:=by
 obtain⟨u,p,y⟩:=bZ.mro
 have m1:=bZ.made
 have m2:=bZ.sub
 refine n5 (kz (?_:wpAny _ _ (callAny (.type "set") _) _ _ _))
 refine av (And.intro (mD _ (by decide+kernel)) (bX nh ?_))
 rw[mE (lx "set" [Value.ref l] []) rfl]
 have m3:=bZ.notType
 have m4:=bZ.canCreate
 have z:=nE (.ref l)
 all_goals (repeat(any_goals (first|assumption|wp_step)))
 refine dk (zHr (w:=w) (.ref l) (E:=E) (Q₁:=fun v f=>v=.ref s.heap.objs.size/\f={s with heap:=s.heap.push (yV w)}) ⟨rfl,rfl⟩) fun r f c=>?_
 match r,c with
 | .error e,c=>exact c
 | .ok (.ret v),c=>
  obtain⟨rfl,rfl⟩:=c
  have ty:fG {s with heap:=s.heap.push (yV w)} (.ref s.heap.objs.size) "set" :=⟨_,aB _ rfl,rfl⟩
  have B:=bZ.init.lookup
  have C:=bZ.init.bind (.ref s.heap.objs.size)
  all_goals (repeat(any_goals (first|assumption|wp_step)))
  refine dk (lW (R:=wants (fun q g=>q=.none/\∃h' tk,g={s with heap:=h',toks:=tk}/\u7 prog w h' s.heap.objs.size ks/\∀b o,b<s.heap.objs.size->s.heap.get? b=some o->h'.get? b=some o) E)
   bZ.init.plain nF (nG ty (zOi (by simp[j]) hl d m n fun h' tk x k=>⟨rfl,h',tk,rfl,x,k⟩))) fun t g a=>?_
  match t,a with
  | .error e,a=>exact a
  | .ok (.ret q),a=>
   obtain⟨rfl,h',tk,rfl,x,k⟩:=a
   all_goals (repeat(any_goals (first|assumption|wp_step)))
   exact h _ _ x k
  | .ok .next,a=>exact a.elim
  | .ok .brk,a=>exact a.elim
  | .ok .cont,a=>exact a.elim
 | .ok .next,c=>exact c.elim
 | .ok .brk,c=>exact c.elim
 | .ok .cont,c=>exact c.elim
end
open MyS PySem.W
theorem isInt_shape {k:Int}{v:ah}(h:d0 k v=true):∃t,v=Value.int k t:=by
 cases v with
 |int i t=>exact⟨t,by rw[eq_of_beq (show(i==k)=true from h)]⟩
 |_=>exact absurd (show false=true from h) aT
theorem zOk {k:Int}{x:ah}(h:d0 k x=true):x.scannable=true:=by
 obtain⟨t,rfl⟩:=isInt_shape h;rfl
def gW:ah->Int
 | .int x _=>x
 |_=>0
theorem zID {k:Int}{x:ah}(h:d0 k x=true):gW x=k:=by
 obtain⟨t,rfl⟩:=isInt_shape h;rfl
abbrev zAW (es:Array (Int×ah)):List Int:=es.toList.map fun e=>gW e.2
def yW (P:List Nat)(L:Bool):dw:={mask:=7,place:=P.toArray,dummies:=#[],finger:=0,led:=L,moves:=0,plain:=true}
def jD:List (List Nat):=[[],[1],[2],[3],[4],[1,2],[1,3],[1,4],[2,3],[2,4],[3,4],[1,2,3],[1,2,4],[1,3,4],[2,3,4]]
def u8 (k:Nat)(P:List Nat):List Nat:=P.filter (· <k)++k::P.filter (k< ·)
def jE (k:Nat)(P:List Nat):Nat:=(P.filter (· <k)).length
theorem zIE:∀P∈jD,∀k∈[1,2,3,4],∀L:Bool,k∉P->P.length<=2->(yW P L).freeSlot (k:Int)=some (k,false)/\(yW P L).put k=(yW (u8 k P) L,jE k P)/\u8 k P∈jD/\(u8 k P).length=P.length+1:=by decide+kernel
theorem zIF:∀P∈jD,∀i∈ba (P.length+1),b5 P.toArray (if i=0 then 0 else P.getD (i-1) 0+1)=i:=by decide+kernel
theorem kL:∀P∈jD,P.length<=3/\P.Pairwise (· < ·):=by decide+kernel
theorem zDs {α:Type}(xs:Array α)(p:Nat)(x:α)(a:p<=xs.size):(d9 xs p x).toList=xs.toList.take p++x::xs.toList.drop p:=by
 unfold d9
 simp
 exact eX (by rw[bQ,aR];exact ay _)
theorem zOl {P:List Nat}{k:Nat}{L:Bool}{a:Array (Int×ah)}{x:ah}(c:P∈jD)(d:k∈[1,2,3,4])(e:k∉P)(f:P.length<=2)(g:a.size=P.length) :
  layNew (yW P L) a (k:Int) x=(d9 a (jE k P) ((k:Int),x),yW (u8 k P) L,false,false):=by
 obtain⟨f1,f2,i,h⟩:=zIE P c k d L e f
 have hi:jE k P<=a.size:=by rw[g];exact cb ..
 have sz:(d9 a (jE k P) ((k:Int),x)).size=P.length+1:=by
  rw[<-aR,zDs _ _ _ hi,aI,aX,aQ,bQ,aR];omega
 have b:(yW (u8 k P) L).fits (P.length+1)=true:=by
  unfold gn jd yW
  simp[h]
  omega
 unfold layNew
 rw[f1]
 dsimp only
 rw[f2]
 dsimp only
 rw[sz]
 unfold mC
 rw[if_pos b,b];rfl
def uG (prog:aL)(w:aU)(h:bx)(a:ao)(P:List Nat):Prop:=P∈jD/\∃es ep,h.get? a=some (vD es ep (yW P (!w.params.followText "set-order")))/\ElemsOf (fb prog w) es.toList/\zAW es=P.map fun(i:Nat)=>(i:Int)
def yU (P:List Nat)(k:Nat):List Nat:=if k∈P then P else u8 k P
section
variable{prog:aL}{w:aU}{A:bS}{E:ah->ar->Prop}{s:ar}
theorem zOm {a:ao}{P:List Nat}{k:Nat}{x:ah}{Q:Bool->ar->Prop}(f:d0 (k:Int) x=true)(J:k∈[1,2,3,4])(R:uG prog w s.heap a P)(o:P.length<=2)
  (h:∀b h',fz a s.heap h'->uG prog w h' a (yU P k)->Q b {s with heap:=h'}) :
  wpAny (model prog w) A (setAddHashed a x (hashInt (k:Int))) Q E s:=by
 obtain⟨G,g,ep,H,m,d⟩:=id R
 have hsz:g.size=P.length:=by
  have:=congrArg fN d
  rw[aa,aa,aR]at this;exact this
 have l3:=(kL P G).1
 have hb:g.size<scanBound:=by unfold scanBound;omega
 have T:(yW P (!w.params.followText "set-order")).fits g.size=true:=by
  unfold gn jd yW
  simp[hsz]
  omega
 have p:=zOk f
 have e:s={s with heap:=s.heap}:=by cases s;rfl
 have U:hashInt (k:Int)=(k:Int):=by
  have:∀j∈[1,2,3,4],hashInt ((j:Nat):Int)=(j:Int):=by decide+kernel
  exact this k J
 unfold setAddHashed setAddHashedIn
 refine b7 (af (cJ H rfl T ?_))
 dsimp only
 rw[byScan_of (knd:=fb prog w) p hb m]
 simp only[↓reduceIte]
 unfold setAddByScan
 refine af ?_
 refine af (iH ?_)
 refine af (nC (knd:=fb prog w) (k:=(k:Int)) f H rfl T m ?_)
 cases W:px (fun e=>(fb prog w).is (k:Int) e.2) g.toList with
 |some j=>
  dsimp only
  obtain⟨hj,M,_⟩:=fR.mp W
  refine av (av ?_)
  rw[e]
  refine h _ s.heap (mZ a s.heap) ?_
  have B:(k:Int)∈zAW g:=au.mpr ⟨g.toList[j],cA hj,zID M⟩
  rw[d]at B
  obtain⟨i,hi,e1⟩:=au.mp B
  have:i=k:=by omega
  subst this
  unfold yU
  rw[if_pos hi];exact R
 |none=>
  dsimp only
  have n:k∉P:=fun q=>by
   have q2:(k:Int)∈zAW g:=by rw[d];exact au.mpr ⟨k,q,rfl⟩
   obtain⟨y,u,q3⟩:=au.mp q2
   obtain⟨⟨k',C,_⟩,_⟩:=m y u
   have e1:k'=(k:Int):=(zID C).symm.trans q3
   have:=iP.mp W y u
   rw[<-e1,C]at this
   cases this
  obtain⟨f1,f2,f3,f4⟩:=zIE P G k J (!w.params.followText "set-order") n o
  have D:=zOl (L:=!w.params.followText "set-order") (x:=x) G J n o hsz
  have hi:jE k P<=g.size:=by rw[hsz];exact cb ..
  rw[U]
  change wpAny _ _ (match layNew (yW P (!w.params.followText "set-order")) g (k:Int) x with|(g,t,v,X)=>_) _ _ _
  rw[D]
  dsimp only
  have N:∀{Y:ar} {Z:Unit->ar->Prop},Z () Y->wpAny (model prog w) A (match false with|true=>rule "set.scan.the-table-gave-way"|false=>pure ()) Z E Y:=fun hq=>av hq
  refine af (N ?_)
  rw[if_pos (show(yW (u8 k P) (!w.params.followText "set-order")).plain=true from rfl)]
  have sz:(d9 g (jE k P) ((k:Int),x)).size=P.length+1:=by
   rw[<-aR,zDs _ _ _ hi,aI,aX,aQ,bQ,aR];omega
  have O:=f
  obtain⟨tk,rfl⟩:=isInt_shape f
  refine af ?_
  rw[lr 8 p]
  refine av ?_
  have nt:(yW (u8 k P) (!w.params.followText "set-order")).tooFull=false:=by
   unfold SetTable.tooFull jd yW
   simp[f4]
   omega
  have pk:plainKind (Value.int (k:Int) tk)=true:=rfl
  simp only[pk,↓reduceIte,nt,og,cw]
  refine af (iY H rfl ?_ (dz (by rw[sz];unfold scanBound;omega)))
  refine av (av ?_)
  refine h _ _ (ij s.heap a _) ?_
  unfold yU
  rw[if_neg n]
  have l:=zDs g (jE k P) ((k:Int),Value.int (k:Int) tk) hi
  refine⟨f3,_,_,zDo H,?_,?_⟩
  ·have hp:(d9 g (jE k P) ((k:Int),Value.int (k:Int) tk)).toList.Perm (g.toList++[((k:Int),Value.int (k:Int) tk)]):=by
    rw[l]
    refine List.perm_middle.trans ?_
    rw[gi]
    exact(iK _ _).symm
   have I:=pX (knd:=fb prog w) (k:=(k:Int)) (x:=Value.int (k:Int) tk) m O p
   have o:(fb prog w).hash (k:Int)=(k:Int):=U
   rw[o]at I
   exact I.perm hp
  ·unfold zAW at d⊢
   rw[l,aF,aC,eh,pB,d]
   have hs:=(kL P G).2
   unfold u8 jE
   rw[aF,aC]
   have t1:∀P:List Nat,P.Pairwise (· < ·)->k∉P->P.take (P.filter (· <k)).length=P.filter (· <k)/\P.drop (P.filter (· <k)).length=P.filter (k< ·):=by
    intro P
    induction P with
    |nil=>intro _ _;exact⟨rfl,rfl⟩
    |cons a r ih=>
     intro I o
     obtain⟨h3,h4⟩:=di.mp I
     have F:=ih h4 fun z=>o (ak _ z)
     by_cases c:a<k
     ·have c2:¬k<a:=by omega
      simp only[dM,c,c2,decide_true,decide_false,if_true,cw,if_false,aX,List.take_succ_cons,List.drop_succ_cons]
      exact⟨by rw[F.1],F.2⟩
     ·have c2:k<a:=by have:a≠k:=fun z=>o (by rw[z];exact aj ..);omega
      have e0:r.filter (· <k)=[]:=List.filter_eq_nil_iff.mpr fun y u=>by have:=h3 y u;simp;omega
      have e1:r.filter (k< ·)=r:=List.filter_eq_self.mpr fun y u=>by have:=h3 y u;simp;omega
      simp only[dM,c,c2,decide_true,decide_false,if_true,cw,if_false,e0,e1]
      exact⟨rfl,rfl⟩
   obtain⟨u1,u2⟩:=t1 P hs n
   rw[<-eh,<-pB,u1,u2]
   rfl
end
theorem uG.stay {prog:aL}{w:aU}{h h':bx}{S:ao}{P:List Nat}(x:uG prog w h S P)(e:∀o,h.get? S=some o->h'.get? S=some o):uG prog w h' S P:=by
 obtain⟨a,b,ep,c,r⟩:=x
 exact⟨a,b,ep,e _ c,r⟩
def qQ (ks:List Nat):List Nat:=ks.foldl yU []
theorem zOn (P:List Nat)(k:Nat):(yU P k).length<=P.length+1:=by
 unfold yU
 split
 ·omega
 ·unfold u8
  rw[aI,aX]
  have go:∀P:List Nat,(P.filter (· <k)).length+(P.filter (k< ·)).length<=P.length:=by
   intro P
   induction P with
   |nil=>simp
   |cons a r ih=>
    by_cases c:a<k
    ·have c2:¬k<a:=by omega
     simp only[dM,c,c2,decide_true,decide_false,if_true,cw,if_false,aX];omega
    ·by_cases c2:k<a
     ·simp only[dM,c,c2,decide_true,decide_false,if_true,cw,if_false,aX];omega
     ·simp only[dM,c,c2,decide_false,cw,if_false,aX];omega
  have:=go P
  omega
theorem zIG:∀(ks P:List Nat),(ks.foldl yU P).length<=P.length+ks.length
 | [],P=>by simp
 |k::ks,P=>by
  rw[bR,aX]
  have a:=zIG ks (yU P k)
  have b:=zOn P k
  omega
theorem zOo (P:List Nat)(k x:Nat):x∈yU P k↔x∈P\/x=k:=by
 unfold yU
 split
 ·rename_i h
  exact⟨.inl,fun z=>z.elim id fun e=>by rw[e];exact h⟩
 ·rename_i h
  unfold u8
  rw[bt,aH,bg,bg]
  simp only[decide_eq_true_eq]
  constructor
  ·rintro(z|z|z)
   ·exact .inl z.1
   ·exact .inr z
   ·exact .inl z.1
  ·rintro(z|z)
   ·rcases Nat.lt_trichotomy x k with c|c|c
    ·exact .inl ⟨z,c⟩
    ·exact .inr (.inl c)
    ·exact .inr (.inr ⟨z,c⟩)
   ·exact .inr (.inl z)
theorem zIH (x:Nat):∀(ks P:List Nat),x∈ks.foldl yU P↔x∈P\/x∈ks
 | [],P=>by simp
 |k::ks,P=>by
  rw[bR,zIH x ks,zOo,aH,or_assoc]
section
variable{prog:aL}{w:aU}{A:bS}{R:lF->ar->Prop}{I:ao}{fp wr:List ao}{G:Array lB->Array lB->Prop}{P:Nat->ah->Prop}{St:Nat->ar->Prop}
theorem zOp {ks:List Nat}(W:WalksS prog w A.in1 I fp wr G ks.length P St)(S:ao)(p:S∉fp)(B:∀i v,P i v->d0 ((ks.getD i 0:Nat):Int) v=true)(L:ks.length<=3)(C:∀k∈ks,k∈[1,2,3,4]) :
  ∀(m i:Nat) (s:ar),ks.length-i=m->i<=ks.length->St i s->uG prog w s.heap S (qQ (ks.take i))->
   (∀s',Moved (S::wr) G s s'->uG prog w s'.heap S (qQ ks)->R (.ok (.ret .none)) s')->
   codeAny (model prog w) A (.builtin "set.update.loop" ⟨[.ref S,.ref I],[]⟩) R s:=by
 have r:S∉wr:=fun z=>p (W.sub _ z)
 have more:∀b∈wr,b∈S::wr:=fun b z=>ak _ z
 intro m
 induction m with
 |zero=>
  intro i s e1 D st x f
  obtain rfl:i=ks.length:=by omega
  refine bX eN ?_
  rw[bP cU _]
  refine af (m:=pyNext (.ref I)) (W.done s _ _ st fun s' a=>?_)
  rw[bc]at x
  exact av (f s' (a.mono more) (x.stay fun o g=>a.heap S _ r g))
 |succ m ih=>
  intro i s e1 D st x f
  have lt:i<ks.length:=by omega
  refine bX eN ?_
  rw[bP cU _]
  refine af (m:=pyNext (.ref I)) (W.item i s _ _ lt st fun v s' E h a=>?_)
  have t:=B i v E
  have F:=x.stay fun o g=>a.heap S _ r g
  have c:(qQ (ks.take i)).length<=2:=by
   have:=zIG (ks.take i) []
   rw[aQ]at this
   unfold qQ
   simp at this⊢;omega
  have j:ks.getD i 0∈[1,2,3,4]:=C _ (by rw[bY,aG lt];exact cA lt)
  refine af (m:=holding [v] (setAdd S v)) (b7 ?_)
  unfold setAdd
  refine b7 (af ((fb prog w).pyHash (k:=((ks.getD i 0:Nat):Int)) t ?_))
  refine zOm (s:={s' with toks:=s'.toks+1}) t j F c fun b h' u y=>?_
  have H:ks.take (i+1)=ks.take i++[ks.getD i 0]:=by
   rw[az lt];simp[lt]
  have J:uG prog w h' S (qQ (ks.take (i+1))):=by
   unfold qQ at y⊢
   rw[H,cg]
   exact y
  refine av ⟨cX cU _,ih (i+1) _ (by omega) lt (W.frame _ s' _ _ h (gw _) fun b l o e=>?_) J fun n d z=>?_⟩
  ·exact(u.2 b (fun q=>p (by rw[<-q];exact l))).trans e
  ·refine f n (qd W.gtrans ((a.mono more).then_heap (gw _) fun b o l e=>?_) d) z
   exact(u.2 b (fun q=>l (by rw[q];exact aj))).trans e
end
section
variable{prog:aL}{w:aU}{A:bS}{E:ah->ar->Prop}{s:ar}
theorem zOq (prog:aL)(w:aU){h:bx}{a:ao}(e:h.get? a=some (yV w)):uG prog w h a [] :=
 ⟨by decide,#[],0,e,(fun _ q=>nomatch q),rfl⟩
theorem zOr {D:bS}{R:lF->ar->Prop}{l:ao}{items:Array ah}{ks:List Nat}(F:A.handled=none)(hl:s.heap.IsList l items)(d:items.size=ks.length)(G:∀i v,items[i]?=some v->d0 ((ks.getD i 0:Nat):Int) v=true)(m:ks.length<=3)(H:∀k∈ks,k∈[1,2,3,4])
  (I:∀h' tk,uG prog w h' s.heap.objs.size (qQ ks)->(∀b o,b<s.heap.objs.size->s.heap.get? b=some o->h'.get? b=some o)->R (.ok (.ret .none)) {s with heap:=h',toks:=tk}) :
  wpAny (model prog w) A (cp.«set.__init__» ⟨[.ref s.heap.objs.size,.ref l],[]⟩) (fun fin s'=>match fin with| .done f=>R (.ok f) s'| .again u=>u.quiet=true/\codeAny (model prog w) D u R s') (fun e s'=>R (.error e) s') {s with heap:=s.heap.push (yV w)}:=by
 have new:(s.heap.push (yV w)).get? s.heap.objs.size=some (yV w):=aB _ rfl
 have ty:fG {s with heap:=s.heap.push (yV w)} (.ref s.heap.objs.size) "set" :=⟨_,new,rfl⟩
 obtain⟨ol,g,h,nl,j⟩:=id hl
 obtain⟨y,c,p,a⟩:=ol
 simp only at h j
 subst h;subst j
 have old:(s.heap.push (yV w)).get? l=some {cls:=.type "list",dict:=c,data:=.seq items nl,slots:=a}:=ag _ g
 have O:=zIB
 have P:=zIC
 have Q:(Value.type "list"==Value.type "dict")=false:=by decide
 have z:(s.heap.push (yV w)).IsList l items:=⟨_,old,rfl,nl,rfl⟩
 unfold cp.«set.__init__» noKeywords ia
 generalize q:pyIter=PI
 wp_walk
 subst q
 refine d3 z (af (iM ?_))
 have B:l<s.heap.objs.size:=aE g
 have J:A.in1.handled=none:=by simp[F]
 have ne:l≠(s.heap.push (yV w)).objs.size:=by
  rw[bF]
  exact aS (bC B)
 have L:s.heap.objs.size∉ [(s.heap.push (yV w)).objs.size,l]:=by
  rw[bF]
  simp only[aH,bf,cD,or_false,not_or]
  exact⟨aS (b6 _),dj B⟩
 have C:=(ke (prog:=prog) (w:=w) (A:=A.in1) J _ l ne items).toS
 rw[d]at C
 refine zOp C s.heap.objs.size L G m H (ks.length-0) 0 _ (by omega) (bD _) ?st0 ?x0 fun s' n x=>?_
 case st0=>exact⟨⟨_,aB _ rfl,rfl,rfl⟩,z.push _⟩
 case x0=>exact zOq prog w (ag _ new)
 obtain⟨h',g',d',r,t⟩:=s'
 obtain rfl:g'=s.gens:=n.gens
 obtain rfl:d'=s.drawn:=n.drawn
 obtain rfl:t=s.os:=n.os
 refine av ?_
 refine av (I h' r x fun b o m e=>?_)
 have M:b≠s.heap.objs.size:=aS m
 have N:b≠(s.heap.push (yV w)).objs.size:=by
  rw[bF]
  exact aS (bC m)
 refine n.heap b o ?_ (ag _ (ag _ e))
 simp only[aH,bf,cD,or_false,not_or]
 exact⟨M,N⟩
theorem zOs {l:ao}{items:Array ah}{ks:List Nat}{Q:ah->ar->Prop}(j:A.handled=none)(hl:s.heap.IsList l items)(d:items.size=ks.length)(m:∀i v,items[i]?=some v->d0 ((ks.getD i 0:Nat):Int) v=true)(n:ks.length<=3)(p:∀k∈ks,k∈[1,2,3,4])
  (h:∀h' tk,uG prog w h' s.heap.objs.size (qQ ks)->(∀b o,b<s.heap.objs.size->s.heap.get? b=some o->h'.get? b=some o)->Q (.ref s.heap.objs.size) {s with heap:=h',toks:=tk}) :
  wpAny (model prog w) A (call (.type "set") [.ref l]) Q E s:=by
 obtain⟨y,t,z⟩:=bZ.mro
 have m1:=bZ.made
 have m2:=bZ.sub
 refine n5 (kz (?_:wpAny _ _ (callAny (.type "set") _) _ _ _))
 refine av (And.intro (mD _ (by decide+kernel)) (bX nh ?_))
 rw[mE (lx "set" [Value.ref l] []) rfl]
 have m3:=bZ.notType
 have m4:=bZ.canCreate
 have B:=nE (.ref l)
 all_goals (repeat(any_goals (first|assumption|wp_step)))
 refine dk (zHr (w:=w) (.ref l) (E:=E) (Q₁:=fun v f=>v=.ref s.heap.objs.size/\f={s with heap:=s.heap.push (yV w)}) ⟨rfl,rfl⟩) fun r f c=>?_
 match r,c with
 | .error e,c=>exact c
 | .ok (.ret v),c=>
  obtain⟨rfl,rfl⟩:=c
  have ty:fG {s with heap:=s.heap.push (yV w)} (.ref s.heap.objs.size) "set" :=⟨_,aB _ rfl,rfl⟩
  have C:=bZ.init.lookup
  have D:=bZ.init.bind (.ref s.heap.objs.size)
  all_goals (repeat(any_goals (first|assumption|wp_step)))
  refine dk (lW (R:=wants (fun q g=>q=.none/\∃h' tk,g={s with heap:=h',toks:=tk}/\uG prog w h' s.heap.objs.size (qQ ks)/\∀b o,b<s.heap.objs.size->s.heap.get? b=some o->h'.get? b=some o) E)
   bZ.init.plain nF (nG ty (zOr (by simp[j]) hl d m n p fun h' tk x k=>⟨rfl,h',tk,rfl,x,k⟩))) fun u g a=>?_
  match u,a with
  | .error e,a=>exact a
  | .ok (.ret q),a=>
   obtain⟨rfl,h',tk,rfl,x,k⟩:=a
   all_goals (repeat(any_goals (first|assumption|wp_step)))
   exact h _ _ x k
  | .ok .next,a=>exact a.elim
  | .ok .brk,a=>exact a.elim
  | .ok .cont,a=>exact a.elim
 | .ok .next,c=>exact c.elim
 | .ok .brk,c=>exact c.elim
 | .ok .cont,c=>exact c.elim
theorem zII {a:ao}{f i ep:Nat}{b:Array (Int×ah)}{t:dw}{Q:Option (ah×Nat)->ar->Prop}(d:s.heap.get? a=some (vD b ep t))(e:t.fits b.size=true)(g:w.params.followText "set-order"=false)(hl:t.led=true)(l:t.plain=true)
  (h:Q (match b[b5 t.place f]?,t.place[b5 t.place f]? with|some (_,x),some j=>some (x,j+1)|_,_=>none) s):wpAny (model prog w) A (setNext a f i ep) Q E s:=by
 unfold setNext
 refine af (cJ d rfl e ?_)
 dsimp only
 refine af (gT ?_)
 rw[g,if_neg (by decide)]
 refine dB (fun hd=>?_) (fun _=>?_)
 ·have c:(!t.plain&&decide (b.size>1))=true:=hd
  rw[l]at c
  exact absurd c (by simp)
 ·show wpAny _ _ ((if(!t.led&&!b.isEmpty)=true then unsupported "set:maker-not-led"else pure ())>>=_) _ _ _
  rw[hl,if_neg (by simp)]
  exact af (av (av h))
def zAX (P:List Nat)(i:Nat):Nat:=if i=0 then 0 else P.getD (i-1) 0+1
theorem zOt {I a:ao}{ep:Nat}{c:Array (Int×ah)}{P:List Nat}(m:A.handled=none)(ne:a≠I)(n:P∈jD)(u:c.size=P.length)(l:(yW P true).fits c.size=true)(d:w.params.followText "set-order"=false) :
  pD prog w A I [I,a] [I] c.size (fun i v=>(c.toList.map (·.2))[i]?=some v) (fun i h=>h.get? I=some (qP (.int ((zAX P i:Nat):Int) 0) i a c.size ep)/\h.get? a=some (vD c ep (yW P true))) where
 sub:=fun b d=>by simp at d;simp[d]
 frame:=fun _ _ _ st p=>⟨p I (by simp) _ st.1,p a (by simp) _ st.2⟩
 item:=fun i s Q E lt st g=>by
  have bl:b5 (yW P true).place (zAX P i)=i:=zIF P n i (bz.mpr (by omega))
  have j:i<P.length:=by omega
  have pl:(yW P true).place[i]?=some P[i]:=by
   show P.toArray[i]?=_
   simp[j]
  refine gU (f:=zAX P i) (r:=some (c[i].2,P[i]+1)) m st.1 st.2 l (fun A E Q q=>zII st.2 l d rfl rfl (by rw[bl,bN lt,pl];exact q)) (fun x B e h' e1 t=>?_) (fun e=>nomatch e)
  injection e with e
  injection e with y z
  subst y z
  refine g _ h' s.toks ?_ ⟨?_,(t.2 a ne).trans st.2⟩ fun b o d e=>(t.2 b (by simpa using d)).trans e
  ·rw[aq,da,bN lt];rfl
  ·rw[e1]
   unfold zAX
   rw[if_neg (by omega),Nat.add_sub_cancel,bY,aG j];rfl
 done:=fun s Q E st g=>by
  have bl:b5 (yW P true).place (zAX P c.size)=c.size:=by rw[u];exact zIF P n P.length (bz.mpr (by omega))
  refine gU (r:=none) m st.1 st.2 l (fun A E Q q=>zII st.2 l d rfl rfl (by rw[bl,gb (ay _)];exact q)) (fun _ _ e=>nomatch e) (fun _ h' k=>?_)
  exact g h' s.toks fun b o d e=>k b o (by simpa using d) e
 self:=fun _ _ _ _ st g=>zBT st.1 g
theorem zOu {a:ao}{c:Array (Int×ah)}{Q:ah->ar->Prop}(r:A.handled=none){P:List Nat}{ep:Nat}(p:P∈jD)(hsz:c.size=P.length)(f:s.heap.get? a=some (vD c ep (yW P (!w.params.followText "set-order"))))
  (u:∀(I:ao) (n:bx) (d:Drawn) (ord:List ah) (fp:List ao) (St:Nat->bx->Prop),ord.Perm (c.toList.map (·.2))->pD prog w A I fp [I] c.size (fun i v=>ord[i]?=some v) St->St 0 n->s.heap.objs.size<=I->(∀b∈fp,b=a\/s.heap.objs.size<=b)->
   (∀b∈fp,b<n.objs.size)->(∀b o,s.heap.get? b=some o->n.get? b=some o)->Q (.ref I) {s with heap:=n,drawn:=d}) :
  wpAny (model prog w) A (pyIter (.ref a)) Q E s:=by
 have q:c.size<scanBound:=by have:=(kL P p).1;unfold scanBound;omega
 have h:(yW P (!w.params.followText "set-order")).fits c.size=true:=by
  have:=(kL P p).1
  unfold gn jd yW
  simp[hsz]
  omega
 have ty:s.TypeIs (.ref a) "set" :=⟨_,f,rfl⟩
 have x:a<s.heap.objs.size:=aE f
 refine f6 ty fh (cB fh ty zHu ?_ (jn _))
 unfold cp.«frozenset.__iter__» jo jc
 refine af (af (m:=slotArgs "__iter__" 0 _) (av (av ?_)))
 refine af (af (eu f rfl h (av ?_)))
 unfold setDrawn
 refine af (af (cJ f rfl h ?_))
 dsimp only
 refine af (gT (av ?_))
 have y:c.size<=sizeLine:=dz q
 refine dB (fun hd=>?_) (fun hd=>?_)
 ·exact absurd (show(!w.params.followText "set-order"&& (!true&&decide (c.size>1)))=true from hd) (by simp)
 ·refine af (av ?_)
  refine af (iZ f rfl h ?_)
  refine af (cG (av ⟨_,rfl,"set_iterator",_,⟨_,aB _ rfl,rfl⟩,qO.lookup,?_⟩))
  have ne:a≠s.heap.objs.size:=aS x
  have j:∀b∈[s.heap.objs.size,a],b=a\/s.heap.objs.size<=b:=fun b g=>by
   simp only[aH,cD,or_false]at g
   rcases g with rfl|rfl
   ·exact .inr (ay _)
   ·exact .inl rfl
  have flt:∀(o:Obj),∀b∈[s.heap.objs.size,a],b<(s.heap.push o).objs.size:=fun o b g=>by
   simp only[aH,cD,or_false]at g
   rw[bF]
   rcases g with rfl|rfl
   ·exact b6 _
   ·exact bC x
  by_cases g:w.params.followText "set-order"=true
  ·exact u _ _ s.drawn _ _ _ ((zBS _ c).map _) (zHz (a:=a) (ep:=ep) (t:=yW P (!w.params.followText "set-order")) r ne h g) ⟨aB _ rfl,ag _ f⟩ (ay _) j (flt _) fun b o e=>ag _ e
  ·have l:w.params.followText "set-order"=false:=by simpa using g
   rw[l]at f h
   exact u _ _ s.drawn _ _ _ (dP _) (zOt (a:=a) (ep:=ep) r ne p hsz h l) ⟨aB _ rfl,ag _ f⟩ (ay _) j (flt _) fun b o e=>ag _ e
theorem zOv {a:ao}{es:Array (Int×ah)}{R:List ah->ar->Prop}(hh:A.handled=none){P:List Nat}{ep:Nat}(hP:P∈jD)(hsz:es.size=P.length)(ho:s.heap.get? a=some (vD es ep (yW P (!w.params.followText "set-order"))))
  (h:∀h' tk d ord,ord.Perm (es.toList.map (·.2))->(∀b o,s.heap.get? b=some o->h'.get? b=some o)->R ord {s with heap:=h',toks:=tk,drawn:=d}) :
  wpAny (model prog w) A (collect (.ref a)) R E s:=by
 have hbd:es.size<scanBound:=by have:=(kL P hP).1;unfold scanBound;omega
 have la:a<s.heap.objs.size:=aE ho
 unfold collect
 refine af (iM (bX ix ?_))
 rw[bP iy _]
 show wpAny _ A.in1 (newList []>>=fun l=>again (.builtin "list.__iadd__" ⟨[l,.ref a],[]⟩)) _ _ s
 refine af (cG ?_)
 refine av ⟨cX eO _,bX jq ?_⟩
 rw[bP eO _]
 show wpAny _ A.in1 (dI (.ref s.heap.objs.size) (.ref a) (.ref s.heap.objs.size)) _ _ _
 have ho1:(s.heap.push {cls:=.type "list",data:=.seq ([]:List ah).toArray}).get? a=some (vD es ep (yW P (!w.params.followText "set-order"))):=ag _ ho
 have hL:(s.heap.push {cls:=.type "list",data:=.seq ([]:List ah).toArray}).get? s.heap.objs.size=some {cls:=.type "list",data:=.seq #[]}:=aB _ rfl
 unfold dI
 refine af (ip (T :="set") ⟨_,ho1,rfl⟩ ?_)
 have ne:s.heap.objs.size≠a:=dj la
 have q1:er (.ref s.heap.objs.size) (.ref a)=false:=by simp[er,ne]
 rw[if_neg (by rw[q1];decide)]
 refine af (zOu (A:=A.in1) (s:={s with heap:=s.heap.push {cls:=.type "list",data:=.seq ([]:List ah).toArray}}) hh hP hsz ho1 fun I h1 d ord fp St pm W st ge fpo flt kp=>?_)
 dsimp only at ge fpo kp
 rw[bF]at ge fpo
 have nf:s.heap.objs.size∉fp:=fun z=>by
  rcases fpo _ z with e|e
  ·exact ne e
  ·exact bE _ e
 have hn:es.size<=sizeLine:=dz hbd
 have ol:ord.length=es.size:=by rw[pm.length_eq,aa,aR]
 have key:∀(g:bx) (c₁:Nat),St 0 g->(∀b o,b≠s.heap.objs.size->h1.get? b=some o->g.get? b=some o)->g.get? s.heap.objs.size=some {cls:=.type "list",data:=.seq #[] c₁}->
   codeAny (model prog w) A (.builtin "list.extend.loop" ⟨[.ref s.heap.objs.size,.ref I,.ref s.heap.objs.size],[]⟩) (fun q s'=>∃(h':bx) (tk:Nat) (acc:Array ah) (c':Nat),q=.ok (.ret (.ref s.heap.objs.size))/\s'={s with heap:=h',toks:=tk,drawn:=d}/\
    (∀b o,s.heap.get? b=some o->h'.get? b=some o)/\h'.get? s.heap.objs.size=some {cls:=.type "list",dict:=none,data:=.seq acc c',slots:=#[]}/\acc.toList=ord) {s with heap:=g,drawn:=d}:=by
  intro g c₁ hst hk hg
  refine lV W.toS hn _ nf _ es.size 0 _ #[] c₁ rfl (bD _) hst hg (qe _) fun s' acc' c' hm hS' hacc=>?_
  have e1:acc'.toList=ord:=by
   apply eE
   ·rw[aR,hacc.1,ol]
   ·intro i i1 i2
    have:ord[i]?=some (acc'[i]'(by simpa using i1)):=hacc.2 i _ (bN (by simpa using i1))
    rw[aG i2]at this
    injection this with this
    simpa using this.symm
  refine⟨s'.heap,s'.toks,acc',c',rfl,i9 hm,fun b o e=>?_,hS',e1⟩
  have nb:b≠s.heap.objs.size:=aS (aE e)
  refine hm.heap b o (fun z=>?_) (hk b o nb (kp b o (ag _ e)))
  rcases aH.mp z with e'|z
  ·exact nb e'
  ·rw[bf.mp z]at e
   exact absurd (aE e) (qv.mpr (ng ge))
 have fin : ∀(q : Result) (s' : Shared),(∃(h' : Heap) (tk : Nat) (acc : Array Value) (c' : Nat),q= .ok (.ret (.ref s.heap.objs.size))/\s'={s with heap :=h',toks :=tk,drawn :=d}/\
       (∀b o,s.heap.get? b=some o->h'.get? b=some o)/\h'.get? s.heap.objs.size=some {cls:=.type "list",dict:=none,data:=.seq acc c',slots:=#[]}/\acc.toList=ord)->
   q=.ok (.ret (.ref s.heap.objs.size))/\wpAny (model prog w) A (load s.heap.objs.size>>=fun o=>match o.data with| .seq xs _=>pure xs.toList|_=>unsupported "internal:collect") R E s':=by
  rintro q s' ⟨h',tk,acc,c',rfl,rfl,kk,hg,e1⟩
  refine⟨rfl,af (nZ hg ?_)⟩
  show wpAny _ _ (pure acc.toList) _ _ _
  rw[e1]
  exact av (h h' tk d ord pm kk)
 have hL1:=kp _ _ hL
 have hoa:=kp _ _ ho1
 refine af (b7 (zIA (s:={s with heap:=h1,drawn:=d}) ⟨_,hoa,rfl⟩ ?_))
 refine dB (fun _=>?_) (fun _=>av ⟨cX dX _,dk (key h1 _ st (fun b o _ e=>e) hL1) fun q s' y=>?_⟩)
 ·refine af (iH ?_)
  refine af ?_
  show wpAny _ _ (updateSeq s.heap.objs.size (·.push .none)>>=fun _=>updateSeq s.heap.objs.size (·.pop)) _ _ _
  refine af (hV hL1 rfl ?_)
  have hL2:=dW (cu (·.push Value.none)) hL1 rfl
  refine hV (hz:=by seq_fits) hL2 rfl ?_
  have hL3:=dW (cu (·.pop)) hL2 rfl
  refine av ⟨cX dX _,dk (key _ _ ?_ (fun b o hb e=>?_) hL3) fun q s' y=>?_⟩
  ·refine W.frame 0 _ _ st fun b hb o e=>?_
   have hbS:b≠s.heap.objs.size:=fun z=>nf (z▸hb)
   exact(bw _ _ (dS hbS)).trans ((bw _ _ (dS hbS)).trans e)
  ·exact(bw _ _ (dS hb)).trans ((bw _ _ (dS hb)).trans e)
  ·obtain⟨rfl,y2⟩:=fin q s' y
   exact y2
 ·obtain⟨rfl,y2⟩:=fin q s' y
  exact y2
end
section
variable{X:Cx}{pins:List (ao×Obj)}{σ:List (Option V)}{H:Hp}{s:ar}
theorem zOw (O:X.calm=true){a:ao}{P:List Nat}{Q:VK}(I:Inv X pins σ H s)(R:uG X.prog X.w s.heap a P)
  (q:∀l:ao,H l=none->Q (.ref l) (upd H l (.lst (P.map fun(i:Nat)=>V.int (i:Int))))) :
  wpAny (model X.prog X.w) X.A (call (.builtin "sorted") [.ref a]) (EP X pins σ Q) X.xe s:=by
 obtain⟨J,z,ep,T,C,f⟩:=R
 have hsz:z.size=P.length:=by
  have:=congrArg fN f
  rw[aa,aa,aR]at this;exact this
 have U:=kL P J
 refine fD nI mS mT (mU _) ?_
 unfold cp.«sorted»
 refine af (m:=checkCount "sorted" 1 1 _) (av ?_)
 refine af (zOv (A:=X.A.in1) (I.ok.hd O) J hsz T fun h' tk d ord pm W=>?_)
 have L:Inv X pins σ H {s with heap:=h',toks:=tk,drawn:=d}:=(I.grown W).draw
 have hint:∀v∈ord,∃x u,v=Value.int x u:=fun v j=>by
  obtain⟨e,Y,rfl⟩:=au.mp (pm.mem_iff.mp j)
  obtain⟨⟨k,D,_⟩,_⟩:=C e Y
  obtain⟨u,E⟩:=isInt_shape D
  exact⟨k,u,E⟩
 have Z:ik ord (ord.map gW):=by
  have go:∀l:List ah,(∀v∈l,∃x u,v=Value.int x u)->ik l (l.map gW):=by
   intro l
   induction l with
   |nil=>intro _;exact .nil
   |cons v l ih=>
    intro hl
    obtain⟨x,u,rfl⟩:=hl v (aj ..)
    exact .cons _ _ (ih fun v j=>hl v (ak _ j))
  exact go ord hint
 have pt:(ord.map gW).Perm (zAW z):=by
  have:=pm.map gW
  rw[aJ]at this
  exact this
 have ol:ord.length=z.size:=by rw[pm.length_eq,aa,aR]
 have n:ord.length<64:=by omega
 refine af (i8 ?_ (by rw[aZ];omega))
 dsimp only
 generalize r:h'.objs.size=B
 have g:(h'.push {cls:=.type "list",data:=.seq ord.toArray}).get? B=some (seqObj "list" ord.toArray 0):=by
  rw[<-r];exact aB _ rfl
 have old:∀b o,h'.get? b=some o->(h'.push {cls:=.type "list",data:=.seq ord.toArray}).get? b=some o/\b≠B:=fun b o e=>⟨ag _ e,by rw[<-r];exact aS (aE e)⟩
 refine af (b7 (cB lJ ⟨_,g,rfl⟩ ku (list_sort_tree g Z n fun out c a1 M a3=>⟨_,rfl,?_⟩) (lK _)))
 refine av ⟨_,rfl,?_⟩
 have p:∀b o,h'.get? b=some o->(sortedHeap (h'.push {cls:=.type "list",data:=.seq ord.toArray}) B ord out).get? b=some o:=fun b o e=>by
  rw[sortedHeap_old (old _ _ e).2 (aE (old _ _ e).1)];exact(old _ _ e).1
 obtain⟨E,F⟩:=sortedHeap_at (out:=out) g
 have N:c.length=ord.length:=by rw[M.length_eq,aa]
 have j:∀{vs:List ah} {ns:List Int},ik vs ns->zN (ns.map V.int) vs:=by
  intro vs ns h
  induction h with
  |nil=>exact .nil
  |cons i t _ ih=>exact .cons ⟨_,rfl⟩ ih
 have G:c=P.map fun(i:Nat)=>(i:Int):=by
  have p1:c.Perm (P.map fun(i:Nat)=>(i:Int)):=by rw[<-f];exact M.trans pt
  have s2:(P.map fun(i:Nat)=>(i:Int)).Pairwise (·<=·):=cf.mpr (U.2.imp fun{x y} h=>by omega)
  exact p1.eq_of_pairwise (fun x y _ _ h1 h2=>by omega) a3 s2
 refine⟨.ref B,_,L.laid (t':=tk) (o:=.lst (c.map V.int)) p (d5 r) ⟨by rw[aa,aZ];omega,out.toList,E,j a1,by rw[Array.toArray_toList];exact F⟩,rfl,?_⟩
 have:=q B (L.hok.fresh (d5 r))
 rw[G,aJ]
 exact this
def zDt (K:ae)(x:V)(H:Hp)(Q:VK):Prop:=∃(p:ao) (ks:List Nat),x=.ref p/\yF K H p (ks.map fun(i:Nat)=>V.int (i:Int))/\ks.length<=3/\(∀k∈ks,k∈[1,2,3,4])/\
 ∀(out:List Nat) (l:ao),(∀x,x∈out↔x∈ks)->out.Pairwise (· < ·)->H l=none->Q (.ref l) (upd H l (.lst (out.map fun(i:Nat)=>V.int (i:Int))))
def zOx (K:ae)(t:TE):TE:=fun σ H Q=>t σ H fun x H1=>zDt K x H1 Q
theorem zOy {x y:Str}{e:bO}{F:TE}{p m pos c:Pos}(G:X.calm=true)(O:PE X e F)(P:Gl X x)(hm:X.mg x=none)(n:bootBuiltins x=some (.builtin "sorted"))(r:Gl X y)(w:X.mg y=none)(z:bootBuiltins y=some (.type "set"))
  (R:x≠"__name__" :=by decide) (B:(x==("__debug__" : Str))=false:=by decide) (C:y≠"__name__" :=by decide) (g:(y==("__debug__" : Str))=false:=by decide)
  (J:starEach [e] X.env=(false,eval e X.env)::starEach [] X.env:=by rfl)
  (j:starEach [Expr.Call (.Name y m) [e] [] c] X.env=(false,eval (Expr.Call (.Name y m) [e] [] c) X.env)::starEach [] X.env:=by rfl) :
  PE X (.Call (.Name x p) [.Call (.Name y m) [e] [] c] [] pos) (zOx X.K F):=by
 intro pins s σ H Q I h
 refine de (qA I P hm n ?_ R B)
 refine eC ?_ j rfl
 rw[j]
 show wpAny _ _ (spliced ((false,eval (Expr.Call (.Name y m) [e] [] c) X.env)::backTo pos (starEach [] X.env))) _ _ s
 refine eR ?_
 refine de (qA I r w z ?_ C g)
 refine cc (zH (zB O zD J c pins s σ H (fun xs D=>match xs with| [x]=>zDt X.K x D Q|_=>False) I ?_) fun us s1 ⟨vs,D,L,T,d⟩=>?_) J rfl
 ·exact h
 ·obtain⟨x,rfl,d⟩:∃x,vs=[x]/\zDt X.K x D Q:=by
   match vs,d with
   | [x],d=>exact⟨x,rfl,d⟩
   | [],d=>exact d.elim
   |_::_::_,d=>exact d.elim
  obtain⟨a,ks,rfl,E,U,W,q⟩:=d
  obtain⟨u,rfl,Y⟩:=qE T
  cases Y
  obtain⟨its,M,Z,_⟩:=L.list E
  have f:its.toArray.size=ks.length:=by have:=M.length;simp at this;simp[this]
  refine zOs (A:=X.A) (I.ok.hd G) Z.isList f (fun i v n=>?_) U W fun h' tk N k=>?_
  ·have hi:i<ks.length:=by
    rw[<-f]
    exact(iN.mp n).1
   obtain⟨u,e1,e2⟩:=M.get (i:=i) (x:=.int ((ks.getD i 0:Nat):Int)) (by rw[aq];simp[hi])
   have o:its[i]?=some v:=by simpa using n
   rw[e1]at o
   injection o with o
   subst o
   obtain⟨t,rfl⟩:=e2
   simp[d0]
  ·refine fT ?_
   refine zOw G (L.grown (tk:=tk) fun b u e=>k b u (aE e) e) N fun l hl=>q _ l (fun x=>?_) (kL _ N.1).2 hl
   unfold qQ
   rw[zIH]
   simp
end
end L2
end
section
namespace L2
open PySem
section
variable{X:Cx}
def zDu (K:ae)(x:V)(H:Hp)(Q:VK):Prop:=∃(p:ao) (ks:List Str),x=.ref p/\yF K H p (ks.map V.str)/\ks.length<64/\
 ∀(out:List Str) (l:ao),(∀x,x∈out↔x∈ks)->out.Pairwise (fun a b=>a.cps.toList<b.cps.toList)->H l=none->Q (.ref l) (upd H l (.lst (out.map V.str)))
def zOz (K:ae)(t:TE):TE:=fun σ H Q=>t σ H fun x H1=>zDu K x H1 Q
theorem zPA {x y:Str}{e:bO}{G:TE}{p m pos c:Pos}(J:X.calm=true)(O:PE X e G)(P:Gl X x)(hm:X.mg x=none)(n:bootBuiltins x=some (.builtin "sorted"))(r:Gl X y)(w:X.mg y=none)(z:bootBuiltins y=some (.type "set"))
  (R:x≠"__name__" :=by decide) (B:(x==("__debug__" : Str))=false:=by decide) (C:y≠"__name__" :=by decide) (g:(y==("__debug__" : Str))=false:=by decide)
  (L:starEach [e] X.env=(false,eval e X.env)::starEach [] X.env:=by rfl)
  (j:starEach [Expr.Call (.Name y m) [e] [] c] X.env=(false,eval (Expr.Call (.Name y m) [e] [] c) X.env)::starEach [] X.env:=by rfl) :
  PE X (.Call (.Name x p) [.Call (.Name y m) [e] [] c] [] pos) (zOz X.K G):=by
 intro l s σ H Q I h
 refine de (qA I P hm n ?_ R B)
 refine eC ?_ j rfl
 rw[j]
 show wpAny _ _ (spliced ((false,eval (Expr.Call (.Name y m) [e] [] c) X.env)::backTo pos (starEach [] X.env))) _ _ s
 refine eR ?_
 refine de (qA I r w z ?_ C g)
 refine cc (zH (zB O zD L c l s σ H (fun xs D=>match xs with| [x]=>zDu X.K x D Q|_=>False) I ?_) fun us s1 ⟨vs,D,M,T,d⟩=>?_) L rfl
 ·exact h
 ·obtain⟨x,rfl,d⟩:∃x,vs=[x]/\zDu X.K x D Q:=by
   match vs,d with
   | [x],d=>exact⟨x,rfl,d⟩
   | [],d=>exact d.elim
   |_::_::_,d=>exact d.elim
  obtain⟨a,ks,rfl,E,F,q⟩:=d
  obtain⟨u,rfl,U⟩:=qE T
  cases U
  obtain⟨its,N,W,_⟩:=M.list E
  have f:its.toArray.size=ks.length:=by have:=N.length;simp at this;simp[this]
  refine zOj (A:=X.A) (I.ok.hd J) W.isList f (fun i v n=>?_) (by unfold scanBound;omega) fun h' tk Y k=>?_
  ·have hi:i<ks.length:=by
    rw[<-f]
    exact(iN.mp n).1
   obtain⟨u,e1,Z⟩:=N.get (i:=i) (x:=.str (ks.getD i ⟨#[]⟩)) (by rw[aq];simp[hi])
   have o:its[i]?=some v:=by simpa using n
   rw[e1]at o
   injection o with o
   subst o
   obtain⟨t,rfl⟩:=Z
   simp[cM]
  ·refine fT ?_
   exact zOh J (M.grown (tk:=tk) fun b u e=>k b u (aE e) e) Y F q
end
end L2
end
section
namespace Kn.Ln
open PySem L2 Kn
section
variable{P:aL}{w:aU}{K:ae}{mg:Str->Option ah}{base:bx}
abbrev zDv:cq:=top 51
theorem zPB:FnScope ["book","order","length"] ["book","order","length"] (defScope zDv):=z7
def zIJ (K:ae):Sp:=fun vs H Q _=>∃(a:ao) (bk:List S) (o n:Nat),vs=[.ref a,.int o,.int n]/\H a=some (.tup (zU bk))/\Bk bk o/\(zC o bk).length<=60/\1<=n/\n<=8/\
 ∀(v:V) (q:Int×Int) (H':Hp),zA H H'->z3 K H' v q->zAV (zC o bk) o ((ba n).map (1+·)) q->Q v H'
theorem zPC {f:ao}{fd:aY}(F:Fun K "share_up_to" "share_up_to" zDv f fd)(N:NeedL P w K mg base)(p:zR P w K mg base 5 "share_from_to" ["book","order","least","most"] (zDb K)):FnOk P w K mg base zY 6 f fd ["book","order","length"] (zIJ K):=by
 refine F.ok zPB (fun vs H Q E h=>?_) (fun r A outer s H vs Q E i h=>?_)
 ·obtain⟨a,bk,o,n,rfl,_⟩:=h;rfl
 ·obtain⟨a,bk,o,n,rfl,l,d,e,b,c,k⟩:=h
  have g:=i.mono (j:=3) (by decide)
  refine⟨_,zO (vE (zM N.bk g rfl (zB (pv 0) zD))) (zO (vE (zM N.od g rfl (zB (pv 1) zD))) (zO (vE (zM N.ln g rfl (zB (pv 2) zD)))
   (zP (zZ (zM p i rfl (zB (pv 0) (zB (pv 1) (zB zL (zB (pv 2) zD))))))))),?_⟩
  refine⟨_,rfl,a,bk,rfl,l,d.toisBk,fun z m=>?_⟩
  refine⟨_,rfl,o,rfl,d.o1,d.o3,?_⟩
  refine⟨_,rfl,n,rfl,b,c,?_⟩
  refine⟨_,rfl,_,rfl,_,rfl,a,bk,o,1,n,rfl,m _ _ l,d,e,ay _,b,c,fun v q t u x y=>k v q t (m.trans u) x y⟩
end
def uA:Nat->List S
 |0=>[[]]
 |n+1=>[97,98,122].flatMap fun c=>(uA n).map (c::·)
theorem zIK:∀(n:Nat) (x:S),x.length=n->(∀c∈x,c∈[97,98,122])->x∈uA n
 |0,x,h,_=>by rw[cn.mp h];exact bA _
 |n+1,x,h,d=>by
  cases x with
  |nil=>cases h
  |cons a r=>
   exact bb.mpr ⟨a,d a (aj ..),au.mpr ⟨r,zIK n r (by simpa using h) (fun c b=>d c (ak _ b)),rfl⟩⟩
def zDw (bk:List S):Prop:=∀x∈bk,∀c∈x,c∈[97,98,122]
theorem zAY {bk:List S}(a:zDw bk){o n:Nat}{x:S}(h:y8 (zC o bk) o n x):∀c∈x,c∈[97,98,122]:=fun c b=>by
 obtain⟨i,hi,rfl⟩:=c8 b
 have d:=h.2 (zF (x.take i) o,(x.drop i).take 1) (au.mpr ⟨i,bz.mpr (by omega),rfl⟩)
 obtain⟨nm,hm,f⟩:=bb.mp d
 obtain⟨p,_,e⟩:=au.mp f
 have g:(nm.drop p).take 1=(x.drop i).take 1:=congrArg fZ e
 have j:(x.drop i).take 1=[x[i]]:=by rw[iQ hi];rfl
 have:x[i]∈(nm.drop p).take 1:=by rw[g,j];exact bA _
 exact a nm hm _ (gv (du this))
def fif:List (S×S):=([97,98,122].map fun c=>(([]:S),[c]))++([97,98,122].flatMap fun c=>[97,98,122].map fun d=>([c],[d]))++([97,98,122].map fun c=>([c],[]))
theorem zPD:∀m∈fif,((uA 4).filter fun x=>!(z0 1 x).contains m).length<=63:=by decide+kernel
theorem zPE:∀x∈uA 4,∀q∈z0 1 x,q∈fif:=by decide+kernel
theorem zPF:(uA 1).length=3/\(uA 2).length=9/\(uA 3).length=27/\(uA 4).length=81/\(uA 4).Nodup/\∀x∈uA 4,x.length=4:=by decide+kernel
theorem gap {o n N:Nat}{bk:List S}(l:o=1\/o=2)(p:1<=n)(C:n<=4)(i:zDw bk)(s:(zC o bk).length<=15)(t:y7 (zC o bk))(h:zAU (zC o bk) o n N):N<64\/80<=N:=by
 obtain⟨M,m1,m2⟩:=kK (zC o bk) t o n
 rw[h M m1 m2]
 have j:∀x∈M,x∈uA n:=fun x a=>zIK n x ((m2 x).mp a).1 (zAY i ((m2 x).mp a))
 obtain⟨D,E,F,G,u,v⟩:=zPF
 have w:=gR M (uA n) m1 j
 rcases(by omega:n=1\/n=2\/n=3\/n=4)with rfl|rfl|rfl|rfl
 ·omega
 ·omega
 ·omega
 rcases l with rfl|rfl
 ·by_cases b:∀m∈fif,m∈zC 1 bk
  ·right
   have:=gR (uA 4) M u fun x a=>(m2 x).mpr ⟨v x a,fun q y=>b q (zPE x a q y)⟩
   omega
  ·left
   obtain⟨m,hm⟩:=qf.mp b
   obtain⟨e,f⟩:=qx.mp hm
   have H:=zPD m e
   have A:=gR M ((uA 4).filter fun x=>!(z0 1 x).contains m) m1 fun x a=>bg.mpr ⟨j x a,by
    have:m∉z0 1 x:=fun z=>f (((m2 x).mp a).2 m z)
    simp[this]⟩
   omega
 ·left
  have A:=gR M ((zC 2 bk).flatMap fun q=>[97,98,122].map fun c=>q.1++q.2++[c]) m1 fun x a=>by
   have hm:=(m2 x).mp a
   have hl:=hm.1
   have d:=zAY i hm
   have g:=hm.2 (zF (x.take 2) 2,(x.drop 2).take 1) (au.mpr ⟨2,bz.mpr (by omega),rfl⟩)
   rw[zAw (by rw[aQ];omega)]at g
   refine bb.mpr ⟨_,g,au.mpr ⟨x[3]'(by omega),d _ (cA _),?_⟩⟩
   have e1:x=x.take 2++((x.drop 2).take 1++((x.drop 2).drop 1)):=by rw[gi,gi]
   have B:(x.drop 2).drop 1=[x[3]'(by omega)]:=by
    rw[lO,iQ (by omega),List.drop_eq_nil_of_le (by omega)]
   rw[B]at e1
   conv=>rhs;rw[e1]
   rw[dZ]
  have g:((zC 2 bk).flatMap fun q=>[97,98,122].map fun c=>q.1++q.2++[c]).length<=45:=by
   have go:∀L:List (S×S),(L.flatMap fun q=>([97,98,122]:List Nat).map fun c=>q.1++q.2++[c]).length=3*L.length:=by
    intro L
    induction L with
    |nil=>rfl
    |cons q r ih=>rw[d8,aI,ih,aX];simp;omega
   rw[go];omega
  omega
theorem zPG (n:Nat)(L:List Nat):uL (V.int (n:Int)) (L.map fun(k:Nat)=>V.int (k:Int))=decide (n∈L):=by
 unfold uL
 rw[pS]
 induction L with
 |nil=>simp
 |cons y l ih=>
  rw[ef,ih]
  have e:((fun y=>uX y (V.int (n:Int))) ∘ fun(k:Nat)=>V.int (k:Int)) y=decide (n=y):=by
   show((y:Int)==(n:Int))=_
   by_cases z:n=y
   ·subst z;simp
   ·rw[decide_eq_false z,beq_eq_false_iff_ne]
    omega
  rw[e]
  by_cases z:n=y
  ·subst z;simp
  ·simp[z]
theorem zPH (L:List Nat):(L.map fun(k:Nat)=>V.int (k:Int)).all qF=true:=by
 rw[pT]
 exact gk.mpr fun _ _=>rfl
theorem zPI {o n:Nat}{bk:List S}{x:S}(h:y8 (zC (o+1) bk) (o+1) n x):y8 (zC o bk) o n x:=⟨h.1,zGP h.2⟩
theorem zDx {o:Nat}{bk:List S}{x:S}(h:x∈bk):y8 (zC o bk) o x.length x:=⟨rfl,fun q a=>bb.mpr ⟨x,h,a⟩⟩
theorem zBU {K:ae}{H:Hp}{v:V}{q:Int×Int}(h:z3 K H v q):yT K H (.tuple [.int q.1,.int q.2]) v:=by
 obtain⟨a,rfl,h⟩:=h
 exact⟨a,_,rfl,h,_,_,rfl,rfl,_,_,rfl,rfl,rfl⟩
theorem zIL:∀{l m:List S},l.Pairwise (· < ·)->m.Pairwise (· < ·)->(∀x,x∈l↔x∈m)->l=m
 | [],[],_,_,_=>rfl
 | [],y::ys,_,_,h=>absurd ((h y).mpr (aj ..)) (by simp)
 |x::xs,[],_,_,h=>absurd ((h x).mp (aj ..)) (by simp)
 |x::xs,y::ys,f,g,h=>by
  have hx1:=di.mp f
  have a:=di.mp g
  have c:x=y:=by
   rcases aH.mp ((h x).mp (aj ..))with e|e
   ·exact e
   ·rcases aH.mp ((h y).mpr (aj ..))with d|d
    ·exact d.symm
    ·exact absurd (zKw (a.1 x e) (hx1.1 y d)) (k8 y)
  subst c
  have:xs=ys:=zIL hx1.2 a.2 fun p=>by
   constructor
   ·intro b
    rcases aH.mp ((h p).mp (ak _ b))with e|e
    ·subst e;exact absurd (hx1.1 p b) (k8 p)
    ·exact e
   ·intro b
    rcases aH.mp ((h p).mpr (ak _ b))with e|e
    ·subst e;exact absurd (a.1 p b) (k8 p)
    ·exact e
  rw[this]
theorem zIM:∀{l m:List Nat},l.Pairwise (· < ·)->m.Pairwise (· < ·)->(∀x,x∈l↔x∈m)->l=m
 | [],[],_,_,_=>rfl
 | [],y::ys,_,_,h=>absurd ((h y).mpr (aj ..)) (by simp)
 |x::xs,[],_,_,h=>absurd ((h x).mp (aj ..)) (by simp)
 |x::xs,y::ys,f,g,h=>by
  have hx1:=di.mp f
  have a:=di.mp g
  have c:x=y:=by
   rcases aH.mp ((h x).mp (aj ..))with e|e
   ·exact e
   ·rcases aH.mp ((h y).mpr (aj ..))with d|d
    ·exact d.symm
    ·have:=a.1 x e;have:=hx1.1 y d;omega
  subst c
  have:xs=ys:=zIM hx1.2 a.2 fun p=>by
   constructor
   ·intro b
    rcases aH.mp ((h p).mp (ak _ b))with e|e
    ·have:=hx1.1 p b;omega
    ·exact e
   ·intro b
    rcases aH.mp ((h p).mpr (ak _ b))with e|e
    ·have:=a.1 p b;omega
    ·exact e
  rw[this]
theorem zPJ {A:List S}{out:List Str}(f:A.Pairwise (· < ·))(c:∀x,x∈out↔x∈A.map tx)(g:out.Pairwise (fun a b=>a.cps.toList<b.cps.toList)):out.map V.str=A.map sv:=by
 have e1:out.map (fun s:Str=>s.cps.toList)=A:=zIL (cf.mpr g) f fun x=>by
  constructor
  ·intro h
   obtain⟨s,d,rfl⟩:=au.mp h
   obtain⟨y,e,rfl⟩:=au.mp ((c s).mp d)
   rw[qL];exact e
  ·intro h
   exact au.mpr ⟨tx x,(c _).mpr (au.mpr ⟨x,h,rfl⟩),qL x⟩
 have i:A.map tx=out:=by
  rw[<-e1,aJ]
  conv=>rhs;rw[<-nJ out]
  refine bT fun s d=>?_
  obtain⟨y,e,rfl⟩:=au.mp ((c s).mp d)
  show tx (tx y).cps.toList=tx y
  rw[qL]
 rw[<-i,aJ];rfl
theorem zDy {A:List S}{f:S->dN}{X Y:Prop}(b:A≠[]->X)(c:A=[]->Y):if(if true=true then !PyData.eqv (.list (A.map f)) (.list [])else dO (.list (A.map f)) (.list []))=true then X else Y:=by
 rw[if_pos rfl,zHG]
 cases A with
 |nil=>rw[if_neg (by simp)];exact c rfl
 |cons a A=>rw[if_pos (by simp)];exact b (by simp)
theorem zDz {p A B:Prop} [Decidable p] (a:p->A)(b:¬p->B):if decide p=true then A else B:=by
 by_cases h:p
 ·rw[if_pos (decide_eq_true h)];exact a h
 ·rw[if_neg (by simp[h])];exact b h
theorem zPK {c:Bool}{A B:Prop}(a:c=false)(h:B):if c=true then A else B:=by rw[a];exact vK h
theorem zBV {t u:TS}{D:Ends}{σ:St}{H:Hp}(R:St->Hp->Prop)(b:∀a H',R a H'->u D a H')(c:∀N:St->Hp->Prop,(∀a H',R a H'->N a H')->t {D with nx:=N} σ H):zEJ t u D σ H:=c (u D) b
theorem gnR {i:Nat}{v:V}{σ:St}{H:Hp}{Q:St->Hp->Prop}(h:Q (σ.set i (some v)) H):qX i v σ H Q:=h
theorem zPL {i:Nat}{v v':V}{σ:St}{H:Hp}{Q:St->Hp->Prop}(e:v=v')(h:qX i v' σ H Q):qX i v σ H Q:=e▸h
theorem zPM {L:List S}(h:∀x∈L,∀c∈x,c<=122):(PyData.list (L.map fun x=>PyData.str (tx x))).canLay0=true :=
 (zCs fun d hd=>by
  obtain⟨x,a,rfl⟩:=au.mp hd
  exact⟨zGJ (h x a),by show 0<=10;decide⟩).2
theorem zPN (L:List Int):(PyData.list (L.map PyData.int)).canLay0=true :=
 (zCs fun d hd=>by
  obtain⟨x,a,rfl⟩:=au.mp hd
  exact⟨rfl,by show 0<=10;decide⟩).2
theorem zPO {d:dN}{A B:Prop}(hd:d.canLay0=true)(h:A):if(if false=true then !PyData.eqv d d else dO d d)=true then A else B:=by
 rw[zBq d hd];exact h
theorem zAZ {D:Ends}{σ:St}{H:Hp}(h:D.nx σ H):zEI D σ H:=h
theorem gX {l:List S}{i:Nat}{x:V}(h:(zU l)[i]?=some x):∃y,l[i]?=some y/\x=sv y:=by
 unfold zU at h
 rw[aq]at h
 cases e:l[i]? with
 |none=>rw[e]at h;cases h
 |some y=>rw[e]at h;exact⟨y,rfl,(aw h).symm⟩
theorem zPP {J:It}{items:List V}{r:Hp->Prop}(v:Known J items r){caps:List Nat}{m n:Nat}{σ:St}{l:TT}{w:TE}{d:Hp}{F:List V->Hp->Prop}(cv:St)(z:items.length<1000)
  (A:∀H',zA d H'->r H') (e:∀(i:Nat) (x:V) (f:Hp) (Z:Bool->Hp->Prop),items[i]?=some x->zA d f->(∀o,zA f o->Z false o)->l (cv++[some x]) f Z)
  (k:∀H',zA d H'->F [] H') (p:vL caps n σ=cv++aD 1 none:=by rfl) (hm:cv.length=m:=by rfl) :
  ∃W:Nat->Nat->List V->St->Hp->Prop,(∃m,W 0 m [] (vL caps n σ) d)/\∀i q a s H',W i q a s H'->
   (J.stop i H'/\F a H')\/
   (J.go i H'/\a.length<sizeLine/\∀x t,J.yld i H' x t->qX m x s t fun g B=>l g B fun b u=>if b=true then w g u fun y f=>∃c,c<q/\W (i+1) c (a++[y]) g f else∃c,c<q/\W (i+1) c a g u):=by
 refine j4 v cv 1 z (fun i a H'=>zA d H'/\a=[]) ⟨zA.refl _,rfl⟩ (fun i a H' _ h=>⟨A H' h.1,by rw[h.2];exact bD _⟩) ?_ ?_ p
 ·rintro i x a H' ys I C D E ⟨j,rfl⟩
  obtain⟨G,rfl⟩:=u5 E
  show l ((cv++[G]).set m (some x)) H' _
  rw[zDQ hm]
  exact e i x H' _ D j fun o H=>vK (C _ _ [some x] rfl ⟨j.trans H,rfl⟩)
 ·rintro a H' ⟨j,rfl⟩
  exact k H' j
theorem zIN {K:ae}{H:Hp}{a:ao}{L:List Nat}(h:H a=some (.lst (L.map fun(n:Nat)=>V.int (n:Int)))):yT K H (.list ((L.map fun(n:Nat)=>(n:Int)).map PyData.int)) (.ref a):=by
 refine⟨a,(L.map fun(n:Nat)=>(n:Int)).map V.int,rfl,.of ?_,zCk _⟩
 rw[h,aJ];rfl
structure SomeT (bk:List S) (o n:Nat) (A:List S):Prop where
 ris:A.Pairwise (· < ·)
 len:A.length<64
 snd:∀x∈A,y8 (zC o bk) o n x
 cmp:A≠[]->∀x,y8 (zC o bk) o n x->x∈A
theorem SomeT.nil {bk:List S}{o n:Nat}:SomeT bk o n []:=⟨List.Pairwise.nil,by decide,fun x a=>(by cases a),fun h=>absurd rfl h⟩
theorem SomeT.nd {bk:List S}{o n:Nat}{A:List S}(h:SomeT bk o n A):A.Nodup:=h.ris.imp fun{a b} h z=>by rw[z]at h;exact k8 _ h
theorem zPQ:FG (1,1):=⟨by decide,by decide,by decide+kernel,by decide+kernel⟩
section
variable{P:aL}{w:aU}{K:ae}{mg:Str->Option ah}{base:bx}
def zIO (K:ae):Sp:=fun vs H Q _=>∃(x y:V) (p q:Int×Int),vs=[x,y]/\z3 K H x p/\z3 K H y q/\FG p/\FG q/\Q (.bl (k9 p q)) H
theorem zPR {f:ao}{fd:aY}(F:Fun K "is_less" "is_less" zBD f fd):FnOk P w K mg base zY 1 f fd ["one","other"] (zIO K):=by
 refine F.ok zFs (fun vs H Q E h=>?_) (fun g A outer s H vs Q E i h=>?_)
 ·obtain⟨x,y,p,q,rfl,_⟩:=h;rfl
 ·obtain⟨x,y,p,q,rfl,⟨a,rfl,c⟩,⟨b,rfl,d⟩,sp,e,k⟩:=h
  refine⟨_,zP (zZ (jX zAe (zW zAT (yM vC (pv 0) zL (fun _ _=>rfl)) (yM vC (pv 1) zL (fun _ _=>rfl))) (zW zAT (yM vC (pv 1) zL (fun _ _=>rfl)) (yM vC (pv 0) zL (fun _ _=>rfl))) (yQ _))),?_⟩
  refine⟨_,rfl,a,_,0,_,rfl,rfl,c,rfl,_,rfl,b,_,1,_,rfl,rfl,d,rfl,_,_,rfl,rfl,⟨sp.bu,e.bd⟩,?_⟩
  exact⟨_,rfl,b,_,0,_,rfl,rfl,d,rfl,_,rfl,a,_,1,_,rfl,rfl,c,rfl,_,_,rfl,rfl,⟨e.bu,sp.bd⟩,_,_,rfl,rfl,k⟩end
end Kn.Ln
end
section
namespace Kn.Ln
open PySem L2 Kn
section
variable{P:aL}{w:aU}{K:ae}{mg:Str->Option ah}{base:bx}
structure LawC (P:aL) (w:aU) (K:ae) (mg:Str->Option ah) (base:bx):Prop where
 dr:zR P w K mg base 2 "_law_drawn" ["_law_script","_law_k","_law_many"] (zCn K)
 bk:zR P w K mg base 4 "_law_book" ["_law_script","_law_at","_law_many","_law_most"] (zGH K)
 am:zR P w K mg base 4 "all_made" ["book","order","length"] zHY
 hm:zR P w K mg base 5 "how_many" ["book","order","length"] zHW
 ln:zR P w K mg base 5 "lengths" ["book","order"] zHd
 ad:zR P w K mg base 3 "added" ["one","other"] (zHg K)
 le:zR P w K mg base 1 "is_less" ["one","other"] (zIO K)
 so:zR P w K mg base 6 "share_of_length" ["book","order","length"] (zHb K)
 su:zR P w K mg base 6 "share_up_to" ["book","order","length"] (zIJ K)
 mks:zR P w K mg base 7 "makes" ["book","order","name"] zGA
abbrev qR:cq:=top 62
theorem zIP:FnScope ["_law_script","_law_book_here","_law_order","_law_whole","_law_length","_law_some","_law_many","_law_told","_law_more","_law_rows","_law_sizes"] ["_law_script"] (defScope qR):=z7
theorem ndA:(["_law_length","_law_book_here","_law_order","_law_name_here"]:List Str).Nodup:=by decide+kernel
theorem ndB:(["_law_length","_law_name_here"]:List Str).Nodup:=by decide+kernel
theorem ndC:(["_law_some","_law_name_here"]:List Str).Nodup:=by decide+kernel
theorem ndE:(["_law_rows","_law_name_here"]:List Str).Nodup:=by decide+kernel
theorem ndF:(["_law_name_here"]:List Str).Nodup:=by decide+kernel
def zAa (K:ae):Sp:=fun vs H Q _=>∃(a:ao) (ns:List Int),vs=[.ref a]/\yF K H a (ns.map V.int)/\ns.length<=63/\∀H',Q (.bl true) H'
theorem zPS {f:ao}{fd:aY}(F:Fun K "law" "law" qR f fd)(B:Blt mg)(hset:mg "set"=none)(C:LawC P w K mg base):FnOk P w K mg base zY 8 f fd ["_law_script"] (zAa K):=by
 refine F.ok zIP (fun vs H Q E h=>?_) (fun cdv A outer s H vs Q E hr h=>?_)
 ·obtain⟨a,ns,rfl,_⟩:=h;rfl
 ·obtain⟨a,ns,rfl,ha,hl,k⟩:=h
  have nd:=zIP.nd
  have hu:=hr.units
  have r6:=hr.mono (j:=6) (by decide)
  have r5:=hr.mono (j:=5) (by decide)
  have r4:=hr.mono (j:=4) (by decide)
  have r3:=hr.mono (j:=3) (by decide)
  have r2:=hr.mono (j:=2) (by decide)
  have r1:=hr.mono (j:=1) (by decide)
  refine⟨_,zO (z8 (i:=1) nd rfl (Or.inr rfl) (zM C.bk r4 rfl (zB (pv 0) (zB zL (zB zL (zB zL zD))))))
   (zO (z8 (i:=2) nd rfl (Or.inr rfl) (zW y9 zL (zM C.dr r2 rfl (zB (pv 0) (zB zL (zB zL zD))))))
   (zO (z8 (i:=3) nd rfl (Or.inl rfl) (uJ (zB zL (zB zL zD))))
   (zO (v8 bL rfl (kO (uJ (zB zL (zB zL (zB zL (zB zL zD)))))) (z9 (i:=4) nd rfl (Or.inr rfl))
    (zO (z8 (i:=5) nd rfl (Or.inr rfl) (zEH (yS zAe (zM C.hm r5 rfl (zB (pv 1) (zB (pv 2) (zB (pv 4) zD)))) zL (yQ _)) (zM C.am r4 rfl (zB (pv 1) (zB (pv 2) (zB (pv 4) zD)))) (vJ zD)))
    (zO (z8 (i:=3) nd rfl (Or.inl rfl) (zM C.ad r3 rfl (zB (pv 3) (zB (zM C.so r6 rfl (zB (pv 1) (zB (pv 2) (zB (pv 4) zD)))) zD))))
    (zO (vI (PW.pt (kN (yS (qG hu) (zM C.su r6 rfl (zB (pv 1) (zB (pv 2) (zB (pv 4) zD)))) (pv 3) (yQ _)) (kM (uV (zM C.le r1 rfl (zB (uJ (zB zL (zB zL zD))) (zB (pv 3) zD))))))) (zP (zZ uU)) vH)
    (zO (z8 (i:=6) nd rfl (Or.inl rfl) (vJ (zB (zM C.hm r5 rfl (zB (pv 1) (zB (pv 2) (zB (pv 4) zD)))) (zB (zM C.hm r5 rfl (zB (pv 1) (zB (zW y9 (pv 2) zL) (zB (pv 4) zD)))) zD))))
    (zO (vI (PW.pt (kN (yS (qG hu) (pv 5) (zPA rfl (pv 5) (by rfl) B.sorted fI (by rfl) hset ly) (yQ _)) (kM (yS zBd (yM jY (pv 6) zL (fun _ _=>rfl)) (yM jY (pv 6) zL (fun _ _=>rfl)) (yQ _))))) (zP (zZ uU)) vH)
    (zO (vI (PW.pt (zBZ (yS (qG hu) (pv 5) (vJ zD) (yQ _)) (zBY (yS zAB (yX zAF (by rfl) B.len b0 (zB (pv 5) zD)) (zM C.hm r5 rfl (zB (pv 1) (zB (pv 2) (zB (pv 4) zD)))) (yQ _))))) (zP (zZ uU)) vH)
    (zO (vI (yS (qG hu) (vM (N:=["_law_length","_law_book_here","_law_order","_law_name_here"]) (caps:=[4,1,2]) rfl (vF (by kernel_rfl)) (qC (pv 5)) (fun cl X s H ex=>z9 (i:=3) ndA rfl (Or.inl rfl))
      (fun cl X s H ex=>q8 (PW.pt (kN (yS zAB (yX jL (by rfl) B.len b0 (zB (pv 3) zD)) (pv 0) (yQ _)) (kM (qB (uV (zM C.mks hr rfl (zB (pv 1) (zB (pv 2) (zB (pv 3) zD)))))))))) (fun cl X s H ex=>pv 3)) (vJ zD) (yQ _)) (zP (zZ uU)) vH)
    (zO (zHR (j:=7) (N:=["_law_length","_law_name_here"]) (caps:=[4]) nd rfl (Or.inl rfl) rfl (vF (by kernel_rfl)) (kO (pv 1)) (fun cl X s H ex=>z9 (i:=1) ndB rfl (Or.inl rfl))
      (fun cl X s H ex=>q8 (yS zJG (yX jL (by rfl) B.len b0 (zB (pv 1) zD)) (pv 0) (yQ _))) (fun cl X s H ex=>pv 1))
    (zO (vI (PW.pt (zBZ (yS (qG hu) (pv 5) (vJ zD) (yQ _)) (zBY (yS (qG hu) (vM (N:=["_law_some","_law_name_here"]) (caps:=[5]) rfl (vF (by kernel_rfl)) (qC (pv 7)) (fun cl X s H ex=>z9 (i:=1) ndC rfl (Or.inl rfl))
      (fun cl X s H ex=>q8 (yS (zDN K rfl) (pv 1) (pv 0) (by with_unfolding_all rfl))) (fun cl X s H ex=>pv 1)) (vJ zD) (yQ _))))) (zP (zZ uU)) vH)
    (zO (z8 (i:=8) nd rfl (Or.inl rfl) (zEH (yS (qG hu) (pv 5) (vJ zD) (yQ _)) (zM C.am r4 rfl (zB (pv 1) (zB (zW y9 (pv 2) zL) (zB (pv 4) zD)))) (vJ zD)))
    (zP (vI (yS (qG hu) (vM (N:=["_law_some","_law_name_here"]) (caps:=[5]) rfl (vF (by kernel_rfl)) (qC (pv 8)) (fun cl X s H ex=>z9 (i:=1) ndC rfl (Or.inl rfl))
      (fun cl X s H ex=>q8 (yS (zDN K rfl) (pv 1) (pv 0) (by with_unfolding_all rfl))) (fun cl X s H ex=>pv 1)) (vJ zD) (yQ _)) (zP (zZ uU)) vH)))))))))))))
   (zO (z8 (i:=9) nd rfl (Or.inr rfl) (zM C.ln r5 rfl (zB (pv 1) (zB (pv 2) zD))))
   (zO (vI (yS (qG hu) (vM (N := ["_law_rows","_law_name_here"]) (caps := [9]) rfl (vF (by kernel_rfl)) (kO (pv 1)) (fun cl X s H ex=>z9 (i :=1) ndE rfl (Or.inl rfl))
         (fun cl X s H ex=>q8 (yS (zDN K rfl) (yX jL (by rfl) B.len b0 (zB (pv 1) zD)) (pv 0) (by with_unfolding_all rfl))) (fun cl X s H ex=>yX jL (by rfl) B.len b0 (zB (pv 1) zD))) (vJ zD) (yQ _)) (zP (zZ uU)) vH)
   (zO (z8 (i :=10) nd rfl (Or.inl rfl) (zOy rfl (vM (N := ["_law_name_here"]) (caps := []) rfl (vF (by kernel_rfl)) (kO (pv 1)) (fun cl X s H ex=>z9 (i :=0) ndF rfl (Or.inl rfl))
         (fun cl X s H ex=>uY) (fun cl X s H ex=>yX jL (by rfl) B.len b0 (zB (pv 0) zD))) (by rfl) B.sorted fI (by rfl) hset ly))
   (zO (vI (yS zBd (yM jY (pv 10) (g8 zAA zL) (fun _ _=>rfl)) zL (yQ _)) (zP (zZ uU)) vH)
   (zP (zZ (zEG (jX (zBp hu) (zM C.ln r5 rfl (zB (pv 1) (zB zL zD))) (pv 10) (yQ _)) (zEF (jX (zBp hu) (zM C.su r6 rfl (zB (pv 1) (zB zL (zB zL zD)))) (uJ (zB zL (zB zL zD))) (yQ _))))))))))))),?_⟩
  refine⟨_,rfl,a,ns,0,3,4,rfl,ha,hl,by decide,by decide,by decide,by decide,fun b bk H1 s1 hb1 bl1 bl2 bn=>?_⟩
  refine⟨_,rfl,a,ns,50,2,rfl,s1.seq ha,hl,by decide,by decide,fun i2 H2 hi2 s2=>?_⟩
  refine⟨_,_,rfl,rfl,?_⟩
  obtain⟨o,eo⟩:∃o:Nat,1+(i2:Int)=(o:Int):=⟨1+i2,by omega⟩
  have ho:o=1\/o=2:=by omega
  have ho1:1<=o:=by omega
  have ho3:o<=3:=by omega
  have ho4:o+1<=3:=by omega
  refine zPL (v':=.int (o:Int)) (by show V.int (1+(i2:Int))=_;rw[eo]) ?_
  clear eo hi2
  have isb:isBk bk:=⟨bl1,by omega,fun x hx=>(bn x hx).1⟩
  have bkO:∀{o:Nat},1<=o->o<=3->Bk bk o:=fun h1 h3=>⟨isb,h1,h3⟩
  have abz:Abz bk:=fun x hx c hc=>(bn x hx).2.2 c hc
  have abz3:zDw bk:=fun x hx c hc=>by
   rcases(bn x hx).2.2 c hc with h|h|h<;>simp[h]
  have p15:∀o,(zC o bk).length<=15:=fun o=>by
   have h2:((zC o bk).length:Int)<=5*(bk.length:Int):=by
    rw[zAv]
    have go:∀l:List S,(∀x∈l,x.length<=4)->(l.map fun x=>(x.length:Int)+1).sum<=5*(l.length:Int):=by
     intro l
     induction l with
     |nil=>intro _;simp
     |cons x r ih=>
      intro hl
      have h1:=hl x (aj ..)
      have h2:=ih fun y hy=>hl y (ak _ hy)
      rw[aC,aO,aX]
      have:((r.length+1:Nat):Int)=(r.length:Int)+1:=rfl
      omega
    exact go bk fun x hx=>(bn x hx).2.1
   omega
  have fit:∀{o n:Nat} {x:S},1<=o->o<=3->y8 (zC o bk) o n x->1<=n->n<=4->Fit bk o x:=fun{o n x} h1 h3 hx hn1 hn4=>by
   refine⟨bkO h1 h3,⟨by rw[hx.1];exact hn1,by rw[hx.1];omega,fun c hc=>?_⟩,?_⟩
   ·have:=zAY abz3 hx c hc
    have h5:∀c∈[97,98,122],97<=c/\c<=122:=by decide
    exact h5 c this
   ·have h5:(zC o bk).length^(x.length+1)<=15^(x.length+1):=Nat.pow_le_pow_left (p15 o) _
    have h6:15^(x.length+1)<=15^5:=cQ (by decide) (by rw[hx.1];omega)
    have h7:15^5=759375:=by decide
    omega
  have abc122:∀c∈[97,98,122],c<=122:=by decide
  have lay:∀{o n:Nat} {A:List S},(∀x∈A,y8 (zC o bk) o n x)->eV (.list (A.map fun x=>PyData.str (tx x)))=true:=fun h=>zHI fun x hx c hc=>by
   have h5:∀c∈[97,98,122],c<=122:=by decide
   exact h5 c (zAY abz3 (h x hx) c hc)
  have bne:bk≠[]:=fun z=>by rw[z]at bl1;exact absurd bl1 (by decide)
  have bl0:∀x∈bk,1<=x.length:=fun x hx=>(bn x hx).1.1
  have O1:y7 (zC o bk):=u4 o bk
  obtain⟨U,hU⟩:=zHe (ps:=zC o bk) (by have:=p15 o;omega)
  have hT:0<U^9:=c9 hU.pos
  have upn:∀j,j<=8->0<=vP (zC o bk) o U j:=fun j hj=>zHm O1 hU j hj
  have upl:∀j,j<=8->vP (zC o bk) o U j<=U^9:=fun j hj=>by
   have h1:=zDh (o:=o) O1 (zHn bne) (zHo ho1 bl0) hU j hj
   have h2:=zOH (o:=o) O1 hU (n:=j+1) (by omega)
   omega
  refine⟨by show 2<=sizeLine;decide,fun w0 hw0=>?_⟩
  have u3:zA H2 (upd H2 w0 (.tup [V.int 0,V.int 1])):=zA.upd1 hw0
  have fr0:z3 K (upd H2 w0 (.tup [V.int 0,V.int 1])) (.ref w0) (low (vP (zC o bk) o U 0) (U^9)):=by
   show z3 K _ _ (low 0 (U^9))
   rw[zAx hT]
   exact⟨w0,rfl,.of zE⟩
  have hb3:=u3 _ _ (s2 _ _ hb1)
  generalize upd H2 w0 (.tup [V.int 0,V.int 1])=H3 at fr0 hb3
  clear u3 s2 s1 hb1 hw0 ha hl
  refine⟨by show 4<=sizeLine;decide,fun tp htp=>?_⟩
  refine⟨tp,rfl,⟨_,.of zE⟩,?_⟩
  have v1:zA H3 (upd H3 tp (.tup [V.int 1,V.int 2,V.int 3,V.int 4])):=zA.upd1 htp
  have htp1:upd H3 tp (.tup [V.int 1,V.int 2,V.int 3,V.int 4]) tp=some (.tup [V.int 1,V.int 2,V.int 3,V.int 4]):=zE
  have hb4:=v1 _ _ hb3
  have fr1:=fr0.same v1
  generalize upd H3 tp (.tup [V.int 1,V.int 2,V.int 3,V.int 4])=H4 at htp1 hb4 fr1
  clear v1 fr0 hb3 htp
  refine jB (k6 K tp [V.int 1,V.int 2,V.int 3,V.int 4]) (fun j σ G=>(∃(v:V) (x4 x5 x6 x7 x8 x9 x10:Option V),σ=[some (.ref a),some (.ref b),some (.int (o:Int)),some v,x4,x5,x6,x7,x8,x9,x10]/\z3 K G v (low (vP (zC o bk) o U j) (U^9)))/\zA H4 G)
   ⟨⟨_,_,_,_,_,_,_,_,rfl,fr1⟩,zA.refl _⟩ (fun j σ G _ h=>.of (h.2 _ _ htp1)) ?_ ?_
  ·rintro j z σ G Nx hN hz ⟨⟨v,x4,x5,x6,x7,x8,x9,x10,rfl,hv⟩,sG⟩
   have hj4:j<4:=(ai.mp hz).1
   have hz2:z=V.int ((1+j:Nat):Int):=by
    rcases(by omega:j=0\/j=1\/j=2\/j=3)with rfl|rfl|rfl|rfl<;>exact(aw hz).symm
   subst hz2
   clear hz
   obtain⟨n,hn⟩:∃n,n=1+j:=⟨_,rfl⟩
   rw[<-hn]
   have hn1:1<=n:=by omega
   have hn4:n<=4:=by omega
   have hn8:n<=8:=by omega
   have ej:n=j+1:=by omega
   have hbG:∀{G':Hp},zA G G'->G' b=some (.tup (zU bk)):=fun s'=>s' _ _ (sG _ _ hb4)
   have p60:∀o,(zC o bk).length<=60:=fun o=>by have:=p15 o;omega
   have p64:∀o,(zC o bk).length<64:=fun o=>by have:=p15 o;omega
   refine gnR ?_
   refine zBV (fun σ' G'=>∃(l:ao) (A:List S),σ'=[some (.ref a),some (.ref b),some (.int (o:Int)),some v,some (.int (n:Int)),some (.ref l),x6,x7,x8,x9,x10]/\zA G G'/\G' l=some (.lst (A.map sv))/\SomeT bk o n A) ?c1 fun N1 h1=>?m1
   case m1=>
    refine⟨_,rfl,_,rfl,_,rfl,b,bk,o,n,rfl,hbG (zA.refl _),bkO ho1 ho3,hn1,hn8,fun N G1 s1 hNm=>?_⟩
    refine⟨_,_,rfl,rfl,_,rfl,zDz (fun hlt=>?_) fun hge=>?_⟩
    ·refine⟨_,rfl,_,rfl,_,rfl,b,bk,o,n,rfl,hbG s1,bkO ho1 ho3,abz,p64 o,hn1,hn8,fun l A G2 s2 hl hA aA _=>?_⟩
     obtain⟨m1,m2⟩:=aA.made hn1
     have e1:=hNm A m1 m2
     have g:=gap ho hn1 hn4 abz3 (p15 o) O1 hNm
     exact h1 _ _ ⟨l,A,rfl,s1.trans s2,hA,aA.ris,by omega,fun x hx=>(m2 x).mp hx,fun _ x hx=>(m2 x).mpr hx⟩
    ·exact⟨by show 0<=sizeLine;decide,fun l hl=>h1 _ _ ⟨l,[],rfl,s1.trans (zA.upd1 hl),zE,SomeT.nil⟩⟩
   case c1=>
    rintro σ' G1 ⟨l,A,rfl,s1,hA1,sA⟩
    refine⟨_,rfl,_,rfl,_,rfl,_,rfl,b,bk,o,n,rfl,hbG s1,bkO ho1 ho3,p60 o,hn1,hn8,fun v2 q2 G2 s2 hv2 hq2=>?_⟩
    have e2:=zDj O1 hU hq2 (by simp;omega)
    have e2':q2=low (yO (zC o bk) o U (1+j)) (U^9):=by rw[e2,<-hn];simp
    have wn:0<=yO (zC o bk) o U (1+j):=gQ O1 hU (by omega)
    have us:=zDg (ps:=zC o bk) (o:=o) (U:=U) j
    have wl:yO (zC o bk) o U (1+j)<=U^9:=by have:=upl (j+1) (by omega);have:=upn j (by omega);omega
    refine⟨v,v2,_,_,rfl,(hv.same s1).same s2,hv2,(zDk hU (upn j (by omega)) (upl j (by omega))).1,by rw[e2'];exact(zDk hU wn wl).1,fun p hp=>?_⟩
    have s3:zA G2 (upd G2 p (jQ (jN (low (vP (zC o bk) o U j) (U^9)) q2))):=zA.upd1 hp
    have hw:z3 K (upd G2 p (jQ (jN (low (vP (zC o bk) o U j) (U^9)) q2))) (.ref p) (low (vP (zC o bk) o U (j+1)) (U^9)):=by
     rw[us,<-zFb hT (upn j (by omega)) wn,<-e2']
     exact z3.new
    have s13:=s1.trans (s2.trans s3)
    have hA3:=(s2.trans s3) _ _ hA1
    generalize upd G2 p (jQ (jN (low (vP (zC o bk) o U j) (U^9)) q2))=G3 at hw s13 hA3
    clear s3 hp hv2 hq2 e2 e2' s2 hA1 s1
    refine⟨_,rfl,_,rfl,_,rfl,b,bk,o,n,rfl,hbG s13,bkO ho1 ho3,p60 o,hn1,hn8,fun v3 q3 G4 s4 hv3 hq3=>?_⟩
    have e3:q3=low (vP (zC o bk) o U (j+1)) (U^9):=by
     rw[zDj O1 hU hq3 (fun m hm=>by
      obtain⟨i,hi,rfl⟩:=au.mp hm
      have:=bz.mp hi
      show 1+i<=8
      omega),ej]
     rfl
    rw[e3]at hv3
    have hw4:=hw.same s4
    have fgw:=zDk hU (upn (j+1) (by omega)) (upl (j+1) (by omega))
    generalize eW:low (vP (zC o bk) o U (j+1)) (U^9)=W at hv3 hw hw4 fgw
    refine⟨_,rfl,.tuple [.int W.1,.int W.2],.tuple [.int W.1,.int W.2],zBU hv3,zBU hw4,rfl,rfl,_,rfl,gF rfl ?_⟩
    refine⟨by show 2<=sizeLine;decide,fun t1 ht1=>?_⟩
    have s5:zA G4 (upd G4 t1 (.tup [V.int 1,V.int 1])):=zA.upd1 ht1
    refine⟨_,rfl,.ref t1,.ref p,(1,1),W,rfl,⟨t1,rfl,.of zE⟩,hw4.same s5,zPQ,fgw.1,_,rfl,zPK fgw.2 ?_⟩
    refine zAZ ?_
    have s15:=s13.trans (s4.trans s5)
    have hA5:=(s4.trans s5) _ _ hA3
    have hw5:=hw4.same s5
    generalize upd G4 t1 (.tup [V.int 1,V.int 1])=G5 at s15 hA5 hw5
    clear s5 ht1 hw4 hv3 hq3 e3 s4 hw hA3 s13
    refine⟨_,rfl,_,rfl,_,rfl,b,bk,o,n,rfl,hbG s15,bkO ho1 ho3,hn1,hn8,fun M1 G6 s6 hM1=>?_⟩
    refine⟨_,rfl,_,rfl,_,_,rfl,rfl,_,rfl,b,bk,o+1,n,rfl,hbG (s15.trans s6),bkO (by omega) ho4,hn1,hn8,fun M2 G7 s7 hM2=>?_⟩
    have hle:M2<=M1:=zOK O1 (u4 (o+1) bk) hM1 hM2
    refine⟨by show 2<=sizeLine;decide,fun ml hml=>?_⟩
    have s8:zA G7 (upd G7 ml (.lst [V.int (M1:Int),V.int (M2:Int)])):=zA.upd1 hml
    have hml1:upd G7 ml (.lst [V.int (M1:Int),V.int (M2:Int)]) ml=some (.lst [V.int (M1:Int),V.int (M2:Int)]):=zE
    have s18:=s15.trans (s6.trans (s7.trans s8))
    have hA8:=(s6.trans (s7.trans s8)) _ _ hA5
    have hw8:=hw5.same (s6.trans (s7.trans s8))
    generalize upd G7 ml (.lst [V.int (M1:Int),V.int (M2:Int)])=G8 at hml1 s18 hA8 hw8
    clear s8 hml s7 s6 hA5 hw5 s15 hM2
    refine⟨_,rfl,_,rfl,l,A.map tx,rfl,.of (by rw[hA8,aJ];rfl),by rw[aa];exact sA.len,fun out lo hmem hris hlo=>?_⟩
    have eS:=zPJ sA.ris hmem hris
    have s9:zA G8 (upd G8 lo (.lst (out.map V.str))):=zA.upd1 hlo
    refine⟨.list (A.map fun x=>PyData.str (tx x)),.list (A.map fun x=>PyData.str (tx x)),gP (s9 _ _ hA8),gP (by rw[zE,eS]),lay sA.snd,lay sA.snd,_,rfl,gF (zPM fun x hx c hc=>abc122 c (zAY abz3 (sA.snd x hx) c hc)) ?_⟩
    refine⟨_,rfl,ml,_,1,V.int (M2:Int),rfl,rfl,.of (s9 _ _ hml1),rfl,_,rfl,ml,_,0,V.int (M1:Int),rfl,rfl,.of (s9 _ _ hml1),rfl,_,_,rfl,rfl,_,rfl,zAp (by omega) ?_⟩
    refine zAZ ?_
    have s19:=s18.trans s9
    have hA9:=s9 _ _ hA8
    have hw9:=hw8.same s9
    generalize upd G8 lo (.lst (out.map V.str))=G9 at s19 hA9 hw9
    clear s9 hlo hmem hris eS hA8 hw8 s18 hml1
    dsimp only
    refine zBV (fun σ' G'=>σ'=[some (.ref a),some (.ref b),some (.int (o:Int)),some (.ref p),some (.int (n:Int)),some (.ref l),some (.ref ml),x7,x8,x9,x10]/\zA G9 G') ?c2 fun N2 h2=>?m2
    case m2=>
     refine⟨_,rfl,by show 0<=sizeLine;decide,fun e0 he0=>?_⟩
     have t0:zA G9 (upd G9 e0 (.lst [])):=zA.upd1 he0
     refine⟨.list (A.map fun x=>PyData.str (tx x)),.list [],gP (t0 _ _ hA9),⟨e0,[],rfl,.of zE,rfl⟩,lay sA.snd,rfl,_,rfl,zDy (fun hne=>?_) fun _=>?_⟩
     ·refine⟨_,rfl,l,_,rfl,.inl (.of (t0 _ _ hA9)),_,rfl,_,rfl,_,rfl,b,bk,o,n,rfl,hbG (s19.trans t0),bkO ho1 ho3,hn1,hn8,fun N' G10 t1 hN'=>?_⟩
      refine⟨rfl,_,rfl,j2 ?_ (h2 _ _ ⟨rfl,t0.trans t1⟩)⟩
      rw[aa,hN' A sA.nd fun x=>⟨sA.snd x,sA.cmp hne x⟩]
     ·exact vK (h2 _ _ ⟨rfl,t0⟩)
    case c2=>
     rintro σ' G10 ⟨rfl,t10⟩
     have s20:=s19.trans t10
     have hA10:=t10 _ _ hA9
     have hw10:=hw9.same t10
     clear t10 hA9 hw9 s19 G9
     refine⟨_,rfl,l,rfl,⟨_,.of hA10⟩,?_⟩
     refine zDe (qI K l (A.map sv)) [some (.int (n:Int)),some (.ref b),some (.int (o:Int))] (by rw[aa];have:=sA.len;omega) (fun G5 s5=>.of (s5 _ _ hA10)) (fun k0 z G5 Z hz s5 hZ=>?_) (fun G11 s11 D2 hD2=>?_)
     ·obtain⟨x,ex,rfl⟩:=gX hz
      have hx:=sA.snd x (aV ex)
      refine⟨_,rfl,tx x,rfl,by rw[yL,aZ,hx.1];omega,_,rfl,rfl,_,rfl,j2 (by rw[yL,hx.1]) ?_⟩
      refine⟨_,rfl,_,rfl,_,rfl,b,bk,o,x,rfl,hbG (s20.trans s5),fit ho1 ho3 hx hn1 hn4,fun G15 s15=>⟨_,rfl,?_⟩⟩
      rw[decide_eq_true (zMZ.mpr hx.2)]
      exact hZ _ s15
     have w1:zA G11 (upd G11 D2 (.lst [])):=zA.upd1 hD2
     refine⟨by show 0<=sizeLine;decide,fun e1' he1'=>?_⟩
     have w2:zA (upd G11 D2 (.lst [])) (upd (upd G11 D2 (.lst [])) e1' (.lst [])):=zA.upd1 he1'
     refine⟨.list [],.list [],⟨D2,[],rfl,.of (w2 _ _ zE),rfl⟩,⟨e1',[],rfl,.of zE,rfl⟩,rfl,rfl,_,rfl,gF rfl ?_⟩
     have t12:=s11.trans (w1.trans w2)
     generalize upd (upd G11 D2 (.lst [])) e1' (.lst [])=G12 at t12
     have s22:=s20.trans t12
     have hA12:=t12 _ _ hA10
     have hw12:=hw10.same t12
     clear w1 w2 he1' hD2 s11 t12 s20 hA10 hw10 G10
     refine zAZ ?_
     refine⟨_,rfl,b,rfl,⟨_,.of (hbG s22)⟩,?_⟩
     refine j4 (k6 K b (zU bk)) [some (.int (n:Int))] 1 (by unfold zU;rw[aa];omega) (fun i acc G'=>zA G12 G'/\∃T:List S,acc=zU T/\T.length<=i/\∀x∈T,x∈bk/\x.length=n)
      ⟨zA.refl _,[],rfl,ay _,fun x hx=>by cases hx⟩ (fun i acc G' _ h=>⟨.of (hbG (s22.trans h.1)),by obtain⟨_,T,h1,h2,_⟩:=h;rw[h1];unfold zU;rw[aa];exact h2⟩) ?_ ?_
     ·rintro i z acc G' ys Nx2 hN2 hz hys ⟨sm,T,rfl,hT1,hT2⟩
      obtain⟨y',rfl⟩:=u5 hys
      obtain⟨x,ex,rfl⟩:=gX hz
      have hxb:=aV ex
      refine⟨_,rfl,tx x,rfl,by rw[yL,aZ];have:=(bn x hxb).2.1;omega,_,rfl,rfl,_,rfl,zDz (fun hq=>?_) fun _=>?_⟩
      ·have hq:((tx x).length:Int)=(n:Int):=V.int.inj hq
       rw[yL]at hq
       refine⟨_,rfl,hN2 _ _ [some (sv x)] rfl ⟨sm,T++[x],by unfold zU;rw[aF];rfl,by rw[aI];show T.length+1<=_;omega,fun y hy=>?_⟩⟩
       rcases bt.mp hy with hy|hy
       ·exact hT2 y hy
       ·rw[bf.mp hy];exact⟨hxb,by omega⟩
      ·exact hN2 _ _ [some (sv x)] rfl ⟨sm,T,rfl,by omega,hT2⟩
     rintro acc G13 ⟨s13,T,rfl,hT1,hT2⟩ tl htl
     have w3:zA G13 (upd G13 tl (.lst (zU T))):=zA.upd1 htl
     have htl1:upd G13 tl (.lst (zU T)) tl=some (.lst (zU T)):=zE
     have t14:=s13.trans w3
     generalize upd G13 tl (.lst (zU T))=G14 at htl1 t14
     have s24:=s22.trans t14
     have hA14:=t14 _ _ hA12
     have hw14:=hw12.same t14
     have hT3:T.length<1000:=by
      have:(zU bk).length=bk.length:=by unfold zU;rw[aa]
      omega
     clear w3 htl s13 t14 hA12 hw12 s22 hT1
     refine gnR ?_
     dsimp only
     refine zBV (fun σ' G'=>σ'=[some (.ref a),some (.ref b),some (.int (o:Int)),some (.ref p),some (.int (n:Int)),some (.ref l),some (.ref ml),some (.ref tl),x8,x9,x10]/\zA G14 G') ?c3 fun N3 h3=>?m3
     case m3=>
      refine⟨_,rfl,by show 0<=sizeLine;decide,fun e0 he0=>?_⟩
      have t0:zA G14 (upd G14 e0 (.lst [])):=zA.upd1 he0
      refine⟨.list (A.map fun x=>PyData.str (tx x)),.list [],gP (t0 _ _ hA14),⟨e0,[],rfl,.of zE,rfl⟩,lay sA.snd,rfl,_,rfl,zDy (fun hne=>?_) fun _=>?_⟩
      ·refine⟨_,rfl,tl,rfl,⟨_,.of (t0 _ _ htl1)⟩,?_⟩
       refine zDe (qI K tl (zU T)) [some (.ref l)] (by unfold zU;rw[aa];exact hT3) (fun G5 s5=>.of (s5 _ _ (t0 _ _ htl1))) (fun k0 z G5 Z hz s5 hZ=>?_) (fun G11 s11 D2 hD2=>?_)
       ·obtain⟨x,ex,rfl⟩:=gX hz
        obtain⟨hx1,hx2⟩:=hT2 x (aV ex)
        have hin:x∈A:=sA.cmp hne x (hx2▸zDx hx1)
        refine⟨_,rfl,_,rfl,l,zU A,rfl,.inl (.of ((t0.trans s5) _ _ hA14)),rfl,zBL _,_,rfl,?_⟩
        rw[zBK,decide_eq_true hin]
        exact hZ _ (zA.refl _)
       have w1:zA G11 (upd G11 D2 (.lst [])):=zA.upd1 hD2
       refine⟨by show 0<=sizeLine;decide,fun e1' he1'=>?_⟩
       have w2:zA (upd G11 D2 (.lst [])) (upd (upd G11 D2 (.lst [])) e1' (.lst [])):=zA.upd1 he1'
       exact⟨.list [],.list [],⟨D2,[],rfl,.of (w2 _ _ zE),rfl⟩,⟨e1',[],rfl,.of zE,rfl⟩,rfl,rfl,_,rfl,gF rfl (h3 _ _ ⟨rfl,t0.trans (s11.trans (w1.trans w2))⟩)⟩
      ·exact vK (h3 _ _ ⟨rfl,t0⟩)
     case c3=>
      rintro σ' G15 ⟨rfl,t15⟩
      have s25:=s24.trans t15
      have hA15:=t15 _ _ hA14
      have hw15:=hw14.same t15
      clear t15 s24 hA14 hw14 htl1 G14
      refine zBV (fun σ' G'=>∃(mo:ao) (M:List S),σ'=[some (.ref a),some (.ref b),some (.int (o:Int)),some (.ref p),some (.int (n:Int)),some (.ref l),some (.ref ml),some (.ref tl),some (.ref mo),x9,x10]/\zA G15 G'/\G' mo=some (.lst (zU M))/\M.length<=81/\∀x∈M,x∈A) ?c4 fun N4 h4=>?m4
      case m4=>
       refine⟨_,rfl,by show 0<=sizeLine;decide,fun e0 he0=>?_⟩
       have t0:zA G15 (upd G15 e0 (.lst [])):=zA.upd1 he0
       refine⟨.list (A.map fun x=>PyData.str (tx x)),.list [],gP (t0 _ _ hA15),⟨e0,[],rfl,.of zE,rfl⟩,lay sA.snd,rfl,_,rfl,zDy (fun hne=>?_) fun _=>?_⟩
       ·refine⟨_,rfl,_,rfl,_,_,rfl,rfl,_,rfl,b,bk,o+1,n,rfl,hbG (s25.trans t0),bkO (by omega) ho4,abz,p64 _,hn1,hn8,fun mo M G2 s2 hl hM aM hMl=>?_⟩
        have h81:3^n<=3^4:=cQ (by decide) hn4
        have h82:3^4=81:=by decide
        exact h4 _ _ ⟨mo,M,rfl,t0.trans s2,hM,by omega,fun x hx=>sA.cmp hne x (zPI (((aM.made hn1).2 x).mp hx))⟩
       ·exact⟨by show 0<=sizeLine;decide,fun mo hmo=>h4 _ _ ⟨mo,[],rfl,t0.trans (zA.upd1 hmo),zE,by decide,fun x hx=>by cases hx⟩⟩
      case c4=>
       rintro σ' G16 ⟨mo,M,rfl,t16,hM,hM81,hMA⟩
       refine⟨_,rfl,mo,rfl,⟨_,.of hM⟩,?_⟩
       refine zDe (qI K mo (zU M)) [some (.ref l)] (by unfold zU;rw[aa];omega) (fun G5 s5=>.of (s5 _ _ hM)) (fun k0 z G5 Z hz s5 hZ=>?_) (fun G11 s11 D2 hD2=>?_)
       ·obtain⟨x,ex,rfl⟩:=gX hz
        have hin:x∈A:=hMA x (aV ex)
        refine⟨_,rfl,_,rfl,l,zU A,rfl,.inl (.of ((t16.trans s5) _ _ hA15)),rfl,zBL _,_,rfl,?_⟩
        rw[zBK,decide_eq_true hin]
        exact hZ _ (zA.refl _)
       have w1:zA G11 (upd G11 D2 (.lst [])):=zA.upd1 hD2
       refine⟨by show 0<=sizeLine;decide,fun e1' he1'=>?_⟩
       have w2:zA (upd G11 D2 (.lst [])) (upd (upd G11 D2 (.lst [])) e1' (.lst [])):=zA.upd1 he1'
       have tE:=t16.trans (s11.trans (w1.trans w2))
       refine⟨.list [],.list [],⟨D2,[],rfl,.of (w2 _ _ zE),rfl⟩,⟨e1',[],rfl,.of zE,rfl⟩,rfl,rfl,_,rfl,gF rfl (hN _ _ ⟨⟨_,_,_,_,_,_,_,_,rfl,?_⟩,sG.trans (s25.trans tE)⟩)⟩
       rw[eW]
       exact hw15.same tE
  ·rintro σ G ⟨⟨v,x4,x5,x6,x7,x8,x9,x10,rfl,hv⟩,sG⟩
   have hbG:=sG _ _ hb4
   clear hv sG fr1 hb4 htp1
   refine⟨_,rfl,_,rfl,b,bk,o,rfl,hbG,bkO ho1 ho3,fun l9 L9 G9 s9 _ hL9 _ hm9=>?_⟩
   have hb9:=s9 _ _ hbG
   refine⟨_,rfl,b,rfl,⟨_,.of hb9⟩,?_⟩
   refine zPP (k6 K b (zU bk)) [some (.ref l9)] (by unfold zU;rw[aa];omega) (fun G5 s5=>.of (s5 _ _ hb9)) (fun k0 z G5 Z hz s5 hZ=>?_) (fun G10 s10 D2 hD2=>?_)
   ·obtain⟨x,ex,rfl⟩:=gX hz
    have hxb:=aV ex
    have hx:=bn x hxb
    have hx1:=hx.1.1
    have hx4:=hx.2.1
    have hin:x.length∈L9:=(hm9 _).mpr ⟨hx1,by omega,x,zDx hxb⟩
    refine⟨_,rfl,tx x,rfl,by rw[yL,aZ];omega,_,rfl,l9,_,rfl,.inl (.of (s5 _ _ hL9)),rfl,zPH _,_,rfl,?_⟩
    rw[yL,zPG,decide_eq_true hin]
    exact hZ _ (zA.refl _)
   have w1:zA G10 (upd G10 D2 (.lst [])):=zA.upd1 hD2
   refine⟨by show 0<=sizeLine;decide,fun e1' he1'=>?_⟩
   have w2:zA (upd G10 D2 (.lst [])) (upd (upd G10 D2 (.lst [])) e1' (.lst [])):=zA.upd1 he1'
   refine⟨.list [],.list [],⟨D2,[],rfl,.of (w2 _ _ zE),rfl⟩,⟨e1',[],rfl,.of zE,rfl⟩,rfl,rfl,_,rfl,gF rfl ?_⟩
   have t11:=s10.trans (w1.trans w2)
   generalize upd (upd G10 D2 (.lst [])) e1' (.lst [])=G11 at t11
   have hb11:=t11 _ _ hb9
   clear w1 w2 he1' hD2 s10 t11 hb9 hL9 s9 hbG
   refine zAZ ?_
   refine⟨_,rfl,b,rfl,⟨_,.of hb11⟩,?_⟩
   refine qJ (k6 K b (zU bk)) [] 1 (by unfold zU;rw[aa];omega) (fun i acc G'=>zA G11 G'/\acc=((bk.take i).map fun x=>x.length).map fun(n:Nat)=>V.int (n:Int))
    ⟨zA.refl _,rfl⟩ (fun i acc G' _ h=>⟨.of (h.1 _ _ hb11),by rw[h.2,aa,aa,aQ];omega⟩) ?_ ?_
   ·rintro i z acc G' ys Nx2 hN2 hz hys ⟨sm,rfl⟩
    obtain⟨y',rfl⟩:=u5 hys
    obtain⟨x,ex,rfl⟩:=gX hz
    have hxb:=aV ex
    have hib:i<bk.length:=(ai.mp ex).1
    have etk:bk.take (i+1)=bk.take i++[x]:=by rw[az hib,(ai.mp ex).2]
    refine⟨_,rfl,tx x,rfl,by rw[yL,aZ];have:=(bn x hxb).2.1;omega,hN2 _ _ [some (sv x)] rfl ⟨sm,?_⟩⟩
    rw[etk,aF,aF,yL];rfl
   rintro acc G12 ⟨s12,rfl⟩ D3 hD3
   have w3:zA G12 (upd G12 D3 (.lst (((bk.take (zU bk).length).map fun x=>x.length).map fun(n:Nat)=>V.int (n:Int)))):=zA.upd1 hD3
   have eb:bk.take (zU bk).length=bk:=by unfold zU;rw[aa,bc]
   rw[eb]at w3⊢
   refine⟨D3,bk.map fun x=>x.length,rfl,.of zE,by rw[aa];exact bl2,fun m hm=>?_,fun out lo hmem hris hlo=>?_⟩
   ·obtain⟨x,hx,rfl⟩:=au.mp hm
    have h1:=(bn x hx).1.1
    have h2:=(bn x hx).2.1
    have h3:x.length=1\/x.length=2\/x.length=3\/x.length=4:=by omega
    rcases h3 with h|h|h|h<;>simp[h]
   have hb13:=(s12.trans w3) _ _ hb11
   generalize upd G12 D3 (.lst ((bk.map fun x=>x.length).map fun(n:Nat)=>V.int (n:Int)))=G13 at hb13 hlo
   have w4:zA G13 (upd G13 lo (.lst (out.map fun(i:Nat)=>V.int (i:Int)))):=zA.upd1 hlo
   have hlo1:upd G13 lo (.lst (out.map fun(i:Nat)=>V.int (i:Int))) lo=some (.lst (out.map fun(i:Nat)=>V.int (i:Int))):=zE
   have hb14:=w4 _ _ hb13
   generalize upd G13 lo (.lst (out.map fun(i:Nat)=>V.int (i:Int)))=G14 at hlo1 hb14
   clear w4 hb13 hlo w3 hD3 s12 hb11
   obtain⟨x0,hx0⟩:=List.exists_mem_of_ne_nil bk bne
   have one:out≠[]:=fun z=>by
    have:=(hmem x0.length).mpr (au.mpr ⟨x0,hx0,rfl⟩)
    rw[z]at this;cases this
   obtain⟨ini,m,eo⟩:∃ini m,out=ini++[m]:=⟨out.dropLast,out.getLast one,(hE one).symm⟩
   have top:∀x∈out,x<=m:=fun x hx=>by
    rw[eo]at hx hris
    rcases bt.mp hx with h|h
    ·exact jr ((lQ.mp hris).2.2 x h m (bA _))
    ·rw[bf.mp h];exact ay _
   refine⟨_,rfl,_,rfl,lo,_,-1,V.int (m:Int),rfl,rfl,.of hlo1,by rw[eo,aF];exact zEg _ _,_,_,rfl,rfl,_,rfl,zDz (fun _=>k _) fun h3=>?_⟩
   have b3:∀x∈bk,x.length<=3:=fun x hx=>by
    have:=top x.length ((hmem _).mpr (au.mpr ⟨x,hx,rfl⟩))
    omega
   refine zAZ ?_
   refine⟨_,rfl,b,bk,3,rfl,hb14,bkO (by decide) (by decide),fun l8 L8 G8 s8 _ hL8 hr8 hm8=>?_⟩
   have eL:L8=out:=zIM hr8 hris fun x=>by
    rw[hm8,hmem]
    constructor
    ·rintro⟨_,_,y,hy⟩
     obtain⟨h1,h2⟩:=(zOL b3).mp hy
     exact au.mpr ⟨y,h2,h1⟩
    ·intro h
     obtain⟨y,hy,rfl⟩:=au.mp h
     exact⟨bl0 y hy,by have:=b3 y hy;omega,y,zDx hy⟩
   rw[eL]at hL8
   refine⟨_,rfl,_,_,zIN hL8,zIN (s8 _ _ hlo1),zCm _,zCm _,_,rfl,?_⟩
   refine zPO (zPN _) ?_
   obtain⟨U3,hU3⟩:=zHe (ps:=zC 3 bk) (by have:=p15 3;omega)
   refine⟨_,rfl,b,bk,3,3,rfl,s8 _ _ hb14,bkO (by decide) (by decide),by have:=p15 3;omega,by decide,by decide,fun v q G10 s10 hv hq=>?_⟩
   have eq1:q=(1,1):=by
    rw[zDj (u4 3 bk) hU3 hq (by decide)]
    exact up3 b3 bl0 bne (u4 3 bk) hU3
   rw[eq1]at hv
   refine⟨by show 2<=sizeLine;decide,fun t1 ht1=>?_⟩
   have s11:zA G10 (upd G10 t1 (.tup [V.int 1,V.int 1])):=zA.upd1 ht1
   exact⟨.tuple [.int 1,.int 1],.tuple [.int 1,.int 1],zBU (hv.same s11),zBU (q:=(1,1)) ⟨t1,rfl,.of zE⟩,rfl,rfl,k _⟩
end
end Kn.Ln
end
section
namespace Kn
open PySem L2 Ln
def z5 (K:ae)(x:Str)(st:cq)(ps:List Str):Prop :=
 ∃(f:ao) (fd:aY),bh K mainGlobals x=some (some (.ref f))/\Fun K x x st f fd/\eB K (.ref f)=true/\jJ K fd ps []
theorem zBW {K:ae}{x:Str}{st:cq}{f:ao}{d kV e pm b ct:ah}{od g:Option ao}{h:Array (Option ah)}(ps:List Str)
  (i:∀(fd:aY),Fun K x x st f fd->jJ K fd ps [])
  (a:bh K mainGlobals x=some (some (.ref f))) (l:K.lookup f=some ⟨d,od,.func (dG x x (defArgs st) (defBody st) (defScope st) .none kV e pm g b ct),h⟩) (c:fU K b x=true) (k:eB K (.ref f)=true):z5 K x st ps :=
 ⟨f,_,a,zBk (st:=st) l c k,k,i _ (zBk (st:=st) l c k)⟩
structure Top (K:ae):Prop where
 is_name:z5 K "is_name" zCL ["thing"]
 is_book:z5 K "is_book" zCM ["thing"]
 is_whole:z5 K "is_whole" zCO ["thing","least","most"]
 is_order:z5 K "is_order" zCP ["thing"]
 need_book:z5 K "need_book" zCR ["thing"]
 need_order:z5 K "need_order" zCT ["thing"]
 need_whole:z5 K "need_whole" zDW ["thing","least","most"]
 need_name:z5 K "need_name" zCU ["thing"]
 end_of:z5 K "end_of" zCH ["text","order"]
 ends:z5 K "ends_and_letters" zCJ ["name","order"]
 rows:z5 K "counted_rows" zCV ["book","order"]
 gcd:z5 K "greatest_divisor" zCY ["one","other"]
 low:z5 K "lowest" zCZ ["up","down"]
 added:z5 K "added" zCa ["one","other"]
 times:z5 K "times" zCb ["one","other"]
 is_less:z5 K "is_less" zBD ["one","other"]
 part_in:z5 K "part_in" zCe ["row","letter"]
 stepsR:z5 K "steps_by_rows" zCf ["rows","order","name"]
 shareR:z5 K "share_by_rows" zCg ["rows","order","name"]
 share:z5 K "share" zCi ["book","order","name"]
 makes:z5 K "makes" zCj ["book","order","name"]
 cm:z5 K "common_multiple" sCM ["one","other"]
 ww:z5 K "whole_weight" sWW ["rows"]
 partsR:z5 K "parts_by_rows" zDF ["rows"]
 even:z5 K "even_parts" zDD ["rows"]
 left:z5 K "left_of" zDA ["weight","part"]
 follow:z5 K "may_follow" zDC ["letter","wanted"]
 nexts:z5 K "next_sums" zDJ ["parts","order","sums","wanted"]
 suma:z5 K "sum_along" zDK ["parts","order","weight","pattern"]
 needlen:z5 K "need_length" zDX ["thing"]
 hmr:z5 K "how_many_by_rows" zDY ["rows","order","length"]
 hm:z5 K "how_many" sHM ["book","order","length"]
 sft:z5 K "share_from_to" zDa ["book","order","least","most"]
 sol:z5 K "share_of_length" zDc ["book","order","length"]
 sut:z5 K "share_up_to" zDv ["book","order","length"]
 lt:z5 K "letters_towards" sLT ["row","end","order","targets"]
 ce:z5 K "closing_ends" sCE ["rows","order","length"]
 lng:z5 K "lengthened" zDT ["rows","order","texts","targets"]
 am:z5 K "all_made" sAM ["book","order","length"]
 lens:z5 K "lengths" zDd ["book","order"]
 cell:z5 K "_law_cell" zCl ["_law_script","_law_k"]
 drawn:z5 K "_law_drawn" zCo ["_law_script","_law_k","_law_many"]
 lname:z5 K "_law_name" zCp ["_law_script","_law_at","_law_most"]
 lbook:z5 K "_law_book" zCq ["_law_script","_law_at","_law_many","_law_most"]
 letters:∃t,bh K mainGlobals "LETTERS"=some (some (.str letters t))
 ml:∃t,bh K mainGlobals "MOST_LETTERS"=some (some (.int 8 t))
 mn:∃t,bh K mainGlobals "MOST_NAMES"=some (some (.int 8 t))
 mo:∃t,bh K mainGlobals "MOST_ORDER"=some (some (.int 3 t))
 ib:iB K (.type "int") (.type "bool")=some false
 nought:∃a,bh K mainGlobals "NOUGHT"=some (some (.ref a))/\∀H,yE K H a [.int 0,.int 1]
 whole:∃a,bh K mainGlobals "WHOLE"=some (some (.ref a))/\∀H,yE K H a [.int 1,.int 1]
 anyC:∃t,bh K mainGlobals "ANY"=some (some (.str "" t))
 zlen:bh K mainGlobals "len"=some none
 zrange:bh K mainGlobals "range"=some none
 zall:bh K mainGlobals "all"=some none
 zisinstance:bh K mainGlobals "isinstance"=some none
 zstr:bh K mainGlobals "str"=some none
 ztuple:bh K mainGlobals "tuple"=some none
 zint:bh K mainGlobals "int"=some none
 zbool:bh K mainGlobals "bool"=some none
 zsorted:bh K mainGlobals "sorted"=some none
 zsum:bh K mainGlobals "sum"=some none
 zmin:bh K mainGlobals "min"=some none
 zdict:bh K mainGlobals "dict"=some none
 zset:bh K mainGlobals "set"=some none
theorem zPT:(iu "abcdefghijklmnopqrstuvwxyz")=letters:=by decide+kernel
theorem zPU {K:ae}{t:Tok}(h:bh K mainGlobals "LETTERS"=some (some (.str (iu "abcdefghijklmnopqrstuvwxyz") t))):∃t,bh K mainGlobals "LETTERS"=some (some (.str letters t)):=by
 rw[zPT]at h;exact⟨t,h⟩
theorem zPV {K:ae}{x:Str}{i:Int}{t:Tok}(h:bh K mainGlobals x=some (some (.int i t))):∃t,bh K mainGlobals x=some (some (.int i t)):=⟨t,h⟩
theorem zPW {K:ae}{x:Str}{a:ao}{i j:Int}{t t':Tok}{n:Nat}{b:Option ao}{c:Array (Option ah)}(h:bh K mainGlobals x=some (some (.ref a)))
  (l:K.lookup a=some ⟨.type "tuple",b,.seq #[.int i t,.int j t'] n,c⟩):∃a,bh K mainGlobals x=some (some (.ref a))/\∀H,yE K H a [.int i,.int j] :=
 ⟨a,h,fun H=>.inr ⟨_,_,_,l,rfl,rfl,by show 2<=sizeLine;decide,.cons ⟨t,rfl⟩ (.cons ⟨t',rfl⟩ .nil)⟩⟩
section
variable{P:aL}{w:aU}{K:ae}{mg:Str->Option ah}{base:bx}{h:bx}
theorem zPX {x:Str}{st:cq}{ps:List Str}{k:Nat}{sp:Sp}(X:K.In h)(G:h.Ns mainGlobals mg)(H:z5 K x st ps)(ok:∀(f:ao) (fd:aY),Fun K x x st f fd->FnOk P w K mg base zY k f fd ps sp):zR P w K mg base k x ps sp:=by
 obtain⟨f,fd,a,F,kp,b⟩:=H
 exact⟨f,fd,ok f fd F,dJ X G a,kp,b⟩
theorem zPY (X:K.In h)(G:h.Ns mainGlobals mg)(T:Top K){f:ao}{fd:aY}(F:Fun K "law" "law" qR f fd):FnOk P w K mg base zY 8 f fd ["_law_script"] (zAa K):=by
 have B:Blt mg:=⟨bM X G T.zlen,bM X G T.zrange,bM X G T.zall,bM X G T.zisinstance,bM X G T.zstr,bM X G T.ztuple,bM X G T.zint,bM X G T.zbool,bM X G T.zsorted,bM X G T.zsum,bM X G T.zmin⟩
 have C:Cst K mg:=⟨let⟨t,e⟩:=T.letters;⟨t,dJ X G e⟩,let⟨t,e⟩:=T.ml;⟨t,dJ X G e⟩,let⟨t,e⟩:=T.mn;⟨t,dJ X G e⟩,let⟨t,e⟩:=T.mo;⟨t,dJ X G e⟩,T.ib⟩
 have c {x:Str} {st:cq} {ps:List Str} {k:Nat} {sp:Sp} (a:z5 K x st ps) (b:∀(f:ao) (fd:aY),Fun K x x st f fd->FnOk P w K mg base zY k f fd ps sp):zR P w K mg base k x ps sp:=zPX X G a b
 have L:Cst2 K mg:=⟨let⟨a,e,q⟩:=T.nought;⟨a,dJ X G e,q⟩,let⟨a,e,q⟩:=T.whole;⟨a,dJ X G e,q⟩⟩
 have hA:∃t,mg "ANY"=some (.str "" t):=let⟨t,e⟩:=T.anyC;⟨t,dJ X G e⟩
 have M:=bM X G T.zdict
 have aA:=bM X G T.zset
 have m:=c T.end_of fun f fd F=>zLO F
 have p:=c T.ends fun f fd F=>zLR F B m
 have i:=c T.is_name fun f fd F=>zLU F B C
 have r:=c T.is_book fun f fd F=>zLW F B C i
 have d:=c T.is_whole fun f fd F=>zLY F B C
 have o:=c T.is_order fun f fd F=>zLa F C d
 have O:=c T.need_book fun f fd F=>zLc F r
 have Q:=c T.need_order fun f fd F=>zLe F o
 have aK:=c T.need_whole fun f fd F=>zNl F d
 have aM:=c T.need_name fun f fd F=>zLg F i
 have j:=c T.rows fun f fd F=>zLl F p
 have N:Needs P w K mg base:=⟨O,Q,aM,j⟩
 have s:=c T.gcd fun f fd F=>zNi F
 have R:=Ln.zR.imp (sp':=zCX) s fun h=>zNg h
 have l:=c T.low fun f fd F=>zNj F s
 have y:=Ln.zR.imp (sp':=zBC) l fun h=>zNh h
 have U:=c T.added fun f fd F=>zOC F l
 have u:=c T.times fun f fd F=>zLp F y
 have D:=c T.is_less fun f fd F=>zLq F
 have v:=c T.is_less fun f fd F=>zPR F
 have n:=c T.part_in fun f fd F=>zNA F B L y
 have E:=Ln.zR.imp (sp':=zCd K) n fun h=>zMz h
 have W:=c T.stepsR fun f fd F=>zLv F p E
 have Y:=c T.shareR fun f fd F=>zMB F L W u
 have aN:=c T.share fun f fd F=>zME F N Y
 have aW:=c T.makes fun f fd F=>zMF F L aN D
 have a0:=c T.cm fun f fd F=>zNE F R
 have a1:=c T.ww fun f fd F=>zNG F B a0
 have Z:=c T.partsR fun f fd F=>zNC F n M
 have a2:=c T.even fun f fd F=>zMq F L M
 have ab:=c T.left fun f fd F=>zMm F
 have a3:=c T.follow fun f fd F=>zMo F hA
 have a4:=c T.nexts fun f fd F=>zNH F a3 m ab
 have ac:=c T.suma fun f fd F=>zNK F B L a4 ab
 have a5:=c T.needlen fun f fd F=>zNn F C aK
 have NL:NeedL P w K mg base:=⟨O,Q,a5,j⟩
 have z:=c T.hmr fun f fd F=>zNq F hA a2 ac
 have a6:=c T.hm fun f fd F=>zNs F NL z
 have A:=c T.sft fun f fd F=>zNx F B hA ⟨j,Z,a1,ac,l⟩
 have al:=c T.sol fun f fd F=>zNz F NL A
 have an:=c T.sut fun f fd F=>zPC F NL A
 have ap:=c T.lt fun f fd F=>zNT F B m
 have a7:=c T.ce fun f fd F=>zNd F B ap
 have as:=c T.lng fun f fd F=>zNf F ap m
 have a8:=c T.am fun f fd F=>zNt F B NL a7 as
 have ax:=c T.lens fun f fd F=>zOB F B C NL z
 have H:=c T.cell fun f fd F=>zMJ F B
 have g:=c T.drawn fun f fd F=>zMK F H
 have I:=c T.lname fun f fd F=>zML F B g
 have J:=c T.lbook fun f fd F=>zMM F B g I
 exact zPS F B aA ⟨g,J,a8,a6,ax,U,v,al,an,aW⟩
end
theorem zPZ {l:ko}{w:aU}{K:ae}{h:bx}{mg:Str->Option ah}{p i:ao}(X:K.In h)(G:h.Ns mainGlobals mg)(j:mg "law"=some (.ref p))
  {m b:Option ao} {n:Array (Option ah)} {o c d f a g:ah} (T:Top K)
  (q:bh K mainGlobals "law"=some (some (.ref i))) (r:K.lookup i=some ⟨o,m,.func (dG "law" "law" (defArgs qR) (defBody qR) (defScope qR) .none c d f b a g),n⟩) (c4:fU K a "law"=true) (t:eB K (.ref i)=true) :
  ∃fd:aY,(∀(s:ar) (v:ah),mJ s fd ⟨[v],[]⟩ [("_law_script",v)])/\∀base:bx,K.In base->base.Ns mainGlobals mg->FnOk l.prog w K mg base zY 8 p fd ["_law_script"] (zAa K):=by
 have e:=j.symm.trans (dJ X G q)
 cases e
 have u:=zBk (st:=qR) r c4 t
 exact⟨dG "law" "law" (defArgs qR) (defBody qR) (defScope qR) .none c d f b a g,fun s v=>.of_eq rfl,fun base _ _=>zPY X G T u⟩
theorem zPa {l:ko}{q:aL}{loose:List Str}{XP:(Str->Option ah)->bx->Prop}{YP:aU->bx->Prop}{d:DefRec}{K:nW->ae}(e:l.most=some 63)(b:d.params.defaults=[])
  (g:∀(w:aU) (h:bx),YP w h->(K w.params).In h)
  (F:∀(w:aU) (mg:Str->Option ah) (c:ao) (h:bx),(K w.params).In h->h.Ns mainGlobals mg->mg d.name=some (.ref c)->
   ∃fd:aY,(∀(s:ar) (u:ah),mJ s fd ⟨[u],[]⟩ [("_law_script",u)])/\∀base:bx,(K w.params).In base->base.Ns mainGlobals mg->FnOk l.prog w (K w.params) mg base zY 8 c fd ["_law_script"] (zAa (K w.params))) :
  o7 q loose XP YP l.row.toRowW d [] (fun f vs=>oh f vs) :=
 L2.zKJ (n:=63) (k:=8) (x :="_law_script") (CX:=fun _=>zY) (sp:=fun w=>zAa (K w.params)) e (by decide) b ⟨rfl,by decide,by decide⟩ g F (fun _ _ a ns hl _ i=>⟨a,ns,rfl,i,hl,fun _=>rfl⟩) fun _ _ _ _ _ z=>z
end Kn
end
section
open PySem PySem.W PyProof.Rows
set_option maxRecDepth 100000 in
set_option maxHeartbeats 0 in
theorem PySem.Challenge.cw_kinnames_k21_whole_lengths_holds : PySem.Challenge.rw_kinnames_k21_whole_lengths.Holds := by
 w_on;o_law
 refine PySem.W.holds_open (q:=Kn.kq) (loose:=Kn.klo) (Xt:=fun s=>xlAt Kn.kq [] s&&recOk [] s) (XP:=XL Kn.kq []) (Yf:=Hook.obs (kHook Kn.kfr Kn.kas Kn.kas_e)) (Ya:=Hook.val (kHook Kn.kfr Kn.kas Kn.kas_e)) (YP:=Hook.says (kHook Kn.kfr Kn.kas Kn.kas_e)) (N:=5102) Kn.hl (Hook.of (kHook Kn.kfr Kn.kas Kn.kas_e)) (Hook.keeps (kHook Kn.kfr Kn.kas Kn.kas_e)) (fun s e=>xl_of s (Bool.and_eq_true_iff.mp e).1) XL.keeps (by rfl) (by rfl) (by rfl) (fun s e=>recFacts_of (Bool.and_eq_true_iff.mp e).2) (by rfl) (by first|assumption|decide+kernel) (by decide+kernel) ⟨rfl,rfl,rfl,rfl,rfl,by decide+kernel⟩ ?hw ?hc
 (case hw=>w_witness2)
 k_fill
 refine Kn.zPa (l:=PySem.Challenge.rw_kinnames_k21_whole_lengths) rfl rfl (fun w h Y=>PySem.W.kIn_of Y) ?F
 case F=>
  intro w mg fa h KX G hmg
  refine' Kn.zPZ KX G hmg ?T ?a4 ?l4 ?c4 ?k4
  (case T=>
   refine' ⟨?is_name,?is_book,?is_whole,?is_order,?need_book,?need_order,?need_whole,?need_name,?end_of,?ends,?rows,?gcd,?low,?added,?times,?is_less,?part_in,?stepsR,?shareR,?share,?makes,?cm,?ww,?partsR,?even,?left,?follow,?nexts,?suma,?needlen,?hmr,?hm,?sft,?sol,?sut,?lt,?ce,?lng,?am,?lens,?cell,?drawn,?lname,?lbook,?letters,?ml,?mn,?mo,?ib,?nought,?whole,?anyC,?zlen,?zrange,?zall,?zisinstance,?zstr,?ztuple,?zint,?zbool,?zsorted,?zsum,?zmin,?zdict,?zset⟩
   (case is_name|is_book|is_order|need_book|need_order|need_name|ww|partsR|even|needlen=>refine' Kn.zBW _ (fun fd F=>F.binds fun _ _ _ _ _ _ us hl=>match us,hl with| [_],_=>rfl) ?kna ?knl ?knc ?knk;(case kna=>k_is);(case knl=>k_is);(case knc=>k_is);(case knk=>k_is))
   (case end_of|ends|rows|gcd|low|added|times|is_less|part_in|cm|left|follow|lens|cell=>refine' Kn.zBW _ (fun fd F=>F.binds fun _ _ _ _ _ _ us hl=>match us,hl with| [_,_],_=>rfl) ?kna ?knl ?knc ?knk;(case kna=>k_is);(case knl=>k_is);(case knc=>k_is);(case knk=>k_is))
   (case is_whole|need_whole|stepsR|shareR|share|makes|hmr|hm|sol|sut|ce|am|drawn|lname=>refine' Kn.zBW _ (fun fd F=>F.binds fun _ _ _ _ _ _ us hl=>match us,hl with| [_,_,_],_=>rfl) ?kna ?knl ?knc ?knk;(case kna=>k_is);(case knl=>k_is);(case knc=>k_is);(case knk=>k_is))
   (case nexts|suma|sft|lt|lng|lbook=>refine' Kn.zBW _ (fun fd F=>F.binds fun _ _ _ _ _ _ us hl=>match us,hl with| [_,_,_,_],_=>rfl) ?kna ?knl ?knc ?knk;(case kna=>k_is);(case knl=>k_is);(case knc=>k_is);(case knk=>k_is))
   (case letters=>refine' Kn.zPU ?knq;(case knq=>k_is))
   (case ml|mn|mo=>refine' Kn.zPV ?knq;(case knq=>k_is))
   (case ib=>first|rfl|kernel_rfl|decide+kernel)
   (case nought|whole=>refine' Kn.zPW ?knq ?knr;(case knq=>k_is);(case knr=>k_is))
   (case anyC=>refine' Kn.Ln.zMj ?knq;(case knq=>k_is))
   (case zlen|zrange|zall|zisinstance|zstr|ztuple|zint|zbool|zsorted|zsum|zmin|zdict|zset=>k_is))
  (case a4=>k_is);(case l4=>k_is);(case c4=>k_is);(case k4=>k_is)
end
