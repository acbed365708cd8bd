import PyProof.Rows.All
import Wide.All
import OpenK.AllK
import Wide.FinOn
import Lean
import PyProof.EqAt
import PyProof.EqKinds
import PyProof.TupleCall
import PyProof.CompFree
import KE.KSortAsk
import KE.KSortTup
import KE.KRevSl
import PyProof.AttrMissSeq
import KE.KDictOf
import KE.KxText
import PyProof.StationsW
import PyProof.Rows.Catch
import PyProof.ExcClass3
import PyProof.ExcBaseAll.ValueError
import OpenK.KOwn
import KE.KIsAll
import PyProof.ExcAttrAll.ValueError
import PyProof.Rows.Range3
import PyProof.ZipIter
import PyProof.Draws
import PyProof.TupleIter
import PyProof.Rows.ZipGen
import PyProof.WalksMore
import PyProof.Rows.InDataRows
import PyProof.ListMulRoad
import PyProof.StrOps2
import PyProof.FactsAll.tuple_2
import PyProof.FitsBits
import PyProof.Rows.SetFrom
import PySem.Challenge.RW_kinnames_k91_whole_ledgers
open PySem.W renaming Frag→aa,nsIn→aT,kitOne→br,mg_none_of→bB,findIn→bT,keepIn→bU,kia_one→cp,emptyDict→cz,mg_of→cE,kas_place→cH,fnOf→cQ,instObj→di,codeIn→dU,kas_desc→dW,looks_pair→eJ,hideAll_get→eS,hideAll→eX,callWith_K→eZ,kas_asc→fD,methodCall_KW→fQ,plainGet→fW,plainGet_of→gw,kas_descPart→hU,of_hideAll→ie,lookIn→il,methodObj→iL,hasDictIn→iM,specialIn→iN,excIn→iU,isFn→jk,cellsFrom_some→jm,kas_rev→jr,takerIn→ka,makesIn→kc,OpenLaw→kh,plainOver→mO,kitx_list→mP,kitx_dict→mQ,kas_bin→nj,kas_sort→nq,handedIn→nK,kas_count→nP,readsIn→oq,findCls→ot,SharedT→oA,WalkO→pT
open PySem renaming Value→ae,wpAny_bind→ah,Addr→ai,Shared→ak,wpAny_pure→ax,Program→aB,FuncData→aE,World→aL,Heap→ba,sizeLine_eq→bg,Expr→bD,Around→bJ,PyData→bN,boot_len→bQ,wpAny_setField_rec→bR,Stmt→bY,wpAny_call_entry→b5,wpAny_mono→b8,Builtin→cc,wpAny_truthy_bool→cy,wpAny_newObj_type→c9,wpAny_callSpecial?_slot→da,Spec→dh,mem_of_lookup→dt,wpAny_Call_Name_kw→dw,SetTable→dA,wpAny_passesOwn→dF,codeAny_mono→dI,wpAny_setState_of→dJ,wpAny_holding→dP,tupleKind_room_in1→d9,Scope→eA,codeAny_builtin→eD,strKind→eF,DictEntry→eM,wpAny_setEntries_of→eU,wpAny_ite_split→eY,wpAny_pyIter_list→fq,wpAny_isOneOf_itemiter→fI,wpAny_pyIter_slot→fL,fits_of_scanBound→fM,isSubtype_type→fN,builtinLookup_eq_fast→fU,IsItemIter→fZ,wpAny_attempt→gc,plainId_quiet→gh,wpAny_execs_nil→gp,call_meetsIn→gz,Fin→ic,NameKind→iq,call_meets→iu,list_append→iO,wpAny_comprehension_free→iS,noFill_tuple_add→iZ,wpAny_isInstance→jb,wpAny_askSetting→jf,Keyword→jl,codeAny_compStart_list→jq,wpAny_loadPart'→kf,typeLookup_type→kl,wpAny_isTrue_Compare1→km,wpAny_newFunctionEnv→lF,wpAny_newTuple→lH,entryFor_alias→lK,wpAny_fieldsOf→lM,BindsTo→lN,seq_tuple_add→lW,evalPart_none→lX,wpAny_newList→me,Paired→mr,wpAny_pyIter_tuple→my,Within→mK,wpAny_assign_Name→mM,concat_meets→mV,slot_list_getitem→mX,wpAny_Call_method→ng,wpAny_pyIter_enum→nu,wpAny_storeSet_of→nB,wpAny_setEpoch_of→nF,wpAny_pyHash_str→nH,wpAny_eqBool_str→nI,wpAny_execs_cons→nJ,wpAny_Dict_empty→nN,CmpOp→nX,wpAny_field→nZ,wpAny_specialOf→oh,codeAny_of_tree→ou,wpAny_updateSeq→oy,Params→oE,GenState→oF,wpAny_Name→oG,wpAny_Compare1→oH,Result→oK,wpAny_call→oM,typeIs_int→oN,PlainAttrs→oO,call→oQ,isSubtype_stop→oX,wpAny_rule→oZ,wpAny_seqItems→o5,wpAny_runValue→o6,KeyKind→pD,intBits_le_64→pF,wpAny_standAt→pU,IsItemIterOut→pX,signature?_of→p3,Model→qm
open List renaming getElem?_eq_some_iff→af,length_map→aj,getElem?_eq_getElem→ao,mem_cons_self→aq,getElem?_map→ar,take_succ_eq_append_getElem→av,mem_cons_of_mem→az,length_append→aA,mem_cons→aD,mem_of_getElem?→aF,mem_map→aG,mem_append_right→aI,map_append→aJ,length_cons→aO,map_cons→aP,take_length→aQ,size_toArray→aR,replicate→aS,map_map→aV,length_take→aX,mem_append→bj,mem_append_left→bC,getElem_mem→bE,mem_singleton→bF,mem_filter→bH,nodup_cons→bI,lookup_cons→bK,length_singleton→bM,range→bP,length_filter_le→bS,filter_append→bX,getD_eq_getElem?_getD→b0,getElem?_append_left→b7,mem_flatMap→cf,pairwise_map→cg,length_range→cj,mem_singleton_self→cm,mem_of_mem_take→cn,cons_append→cu,all_eq_true→cI,mem_range→cU,map_congr_left→cY,count_pos_iff→c6,sum_cons→c7,nil_append→de,not_mem_nil→dv,getElem?_append_right→dy,any_cons→dN,replicate_succ→dQ,getElem_of_mem→dR,getElem?_range→dS,length_eq_zero_iff→dY,find?_cons→eB,range_succ→eC,append_assoc→eG,flatten_cons→eI,length_drop→eO,toArray→eP,ext_getElem→eQ,filterMap_cons→eT,lookup→fb,not_lt→fh,lt_irrefl→fE,drop_of_length_le→fH,lookup_cons_self→fS,getElem_inj→fV,getElem_map→fY,replicate_succ'→gj,take_append_of_le_length→gn,append_nil→gr,foldl_cons→gs,mem_filterMap→ij,drop_zero→ix,count→iy,map_replicate→iA,length_eraseIdx_of_lt→iD,pairwise_iff_getElem→iE,isEmpty_eq_false_iff→iI,foldl_append→iP,count_append→iQ,length_erase_of_mem→iV,getElem?_replicate→iY,getElem?_set_self→jj,length_pos_of_mem→jx,of_mem_zip→ke,forIn_cons→ki,length_replicate→kr,count_cons_of_ne→kx,getElem?_eq_none→lg,getElem?_toArray→ll,getElem?_set_ne→ly,nodup_nil→lD,forIn_nil→lE,mem_erase_of_ne→lL,mem_map_of_mem→lQ,flatMap_append→lR,length_pos_iff→lT,lt_trans→lZ,map_singleton→mG,pairwise_cons→mH,reverse_cons→mY,map_nil→nc,nodup_append→nv,count_filter→ny,all_map→nA,filter_cons→nM,le_antisymm→nQ,drop_append→nV,filter→oa,count_cons→oo,foldl→oP,Nodup→oU,all_cons→pS,length→qp,map→qv,take→rN
open PySem.Heap renaming get?_push_of_some→ag,get?_push_size→ay,lt_size→aC,size_push→bz,get?_update_other→bV,SameBut→eN,get?_update_self→fT,MadeExcOf→oW,ExtBut→qx
open Option.some renaming inj→au
open Nat renaming le_refl→aw,ne_of_lt→aM,lt_of_lt_of_le→bc,zero_le→bh,lt_irrefl→bw,lt_succ_of_lt→bL,lt_succ_self→bO,le_trans→bZ,ne_of_gt→dH,le_of_eq→d5,le_succ→fc,pow_le_pow_right→gk,zero_add→ji,sub_zero→js,gcd_comm→jt,lt_of_le_of_lt→mD,le_of_lt→mL,le_add_right→nO,dvd_mul_left→nS,mod_lt→oV,lt_trans→qa,add_zero→qb,gcd→qc,sub_self→qg,Coprime→qw,log2_lt→qy,not_lt→rC
open Bool renaming false_ne_true→aH,and_eq_true→aY,eq_iff_iff→dG,false_eq_true→e7,and_self→f7,true_and→gb,false_or→lY,true_or→mZ,false_and→oJ,and_true→pY
open PySem.Challenge renaming pw_kinnames_k91_whole_ledgers→aU
open Array renaming length_toList→aZ,getElem?_eq_getElem→cw,getElem?_toList→dD,getElem?_eq_none→fK,toList_push→iJ,append_assoc→mw,all_eq_true'→mF,toList_inj→nG,toList→p9,ext→rO
open PyProof.Rows renaming boot_isinstance→bq,callWith_type1→cJ,boot_all→dE,callWith_builtin1→fX,AllBare→gy,boot_sorted→iW,boot_tuple→ja,subscriptTail_builtinR→jn,boot_bool→ju,boot_list→jy,boot_dict→jz,boot_str→ky,boot_int→kz,boot_min→lh,listUpdate_at→md,Subscript_→mz,IntsAre→nh,seqEpoch_at→nY,get?_update_seq→oj,entry_list_sort→om,StrsAre→oB,slot_list_sort→oS,args_list_sort→oT,Constant_none→pE,boot_sum→qi,boot_set→qk,tail_any→qq
open Int renaming le_of_lt→bW,eq_ofNat_of_zero_le→ck,mul_assoc→cq,toNat_natCast→cV,mul_le_mul_of_nonneg_right→cZ,mul_lt_mul_of_pos_right→du,mul_pos→d0,mul_comm→ed,mul_nonneg→fF,gcd→f9,fdiv_eq_ediv_of_nonneg→ik,mul_le_mul→iz,emod_lt_of_pos→iB,gcd_dvd_right→iR,emod_nonneg→kj,mul_ediv_cancel'→lI,one_mul→lJ,lt_or_eq_of_le→mE,gcd_dvd_left→nR,ediv_le_self→nT,zero_mul→qd,pow_succ→qe,zero_add→qf,not_lt→rE
open PySem.F renaming slot_dict_itemiterator_next→b6,plainAttrs_dict→cG,called_set→eu,excBase_ValueError→eL,args_tuple_add_2→eV,entry_tuple_add→ff,slot_dict_items→fj,slot_tuple_add→fA,args_dict_itemiterator_next_1→fP,slot_dict_get→fR,entry_dict_itemiterator_next→f6,args_list_append_2→gi,slot_dict_itemiterator_iter→gm,slot_dict_setdefault→gu,entry_list_append→gx,slot_list_append→iw,plain_extend_loop→iG,slot_dict_values→iT,args_dict_get_3→i9,type_dict_items→jc,plainAttrs_list→jd,plain_list_iadd→jg,slot_list_index→jh,entry_dict_get→jo,slot_dict_items_iter→jw,slot_dict_pop→ku,slot_set_iter→lu,slot_int_rmul→og,plain_set_new→ox
open PySem.PassesOwn renaming never→cb,leaving→rH
open Prod.mk renaming inj→cx
open PySem.PyData renaming canLayAll0→cC,canLay0→dz,eqv→dO,depthAll→gv,depth→hV,strOk→jv,eqvAll→pV
open PySem.Value renaming isStrOf→cD,isStrOf_shape→dm,isInt→ql
open PySem.Obj renaming mapSeq→cF,putSet→oY
open PySem.Builtin.Str renaming strSliceIndices→cK,occurrences→c8
open PySem.SeqAt renaming shaped→cX,EqAt→rn
open False renaming elim→dj
open PySem.SetTable renaming below→dB,grown→dZ,laid→pZ,fits→p4
open Ne renaming symm→dC
open PySem.Around renaming under_plainId→dM,under→mR
open List.Perm renaming refl→dX,append_left→qj,length_eq→rl,nodup_iff→rm,mem_iff→rG
open PySem.Calls renaming spliced_cons→d6,callWith_builtin→d8,evalArgs_plain→eK,spliced_nil→fz,Name_function_global→ig,call_function_entry→iF
open PySem.Paired renaming length→eE,snoc→qu
open PySem.Str renaming ofString→eR,length→ir,empty→rM
open PySem.Builtin.List renaming listTooLong→eW,listLengthHint→hZ,listExtendWith→ia,listSameRef→iX
open Option renaming bind_eq_some_iff→e8,map_eq_some_iff→fm,isSome_map→fC,isSome_some→mC,getD_none→nL
open PyProof.Rows.F renaming plain_set_update_loop→fk,entry_set_update_loop→je
open PySem.Builtin.Dict_items renaming pairFromOwner→fJ,isOneOf→iC,ownedTupleIsFree→mj,newIterator→nU,dictOf→px
open Nat.Coprime renaming dvd_of_dvd_mul_left→fO
open List.cons renaming inj→gf
open Decidable renaming byContradiction→iH
open Sum.inr renaming inj→iK
open PySem.IsL renaming update→i8
open PySem.SeqAt.EqAt renaming bool_bool→lx,str_bool→lO,bool_str→lP,int_str→mm,str_int→mq,str_str→mB,none_bool→qr,bool_none→qt,none_int→rf,none_str→rg,bool_int→rh,int_none→ri,int_bool→rj,str_none→rk,int_int→rA,same→rP
open PySem.Builtin.Int renaming intBits→lU
open PySem.Heap.SameBut renaming update→lV,refl→rK
open PySem.Shared renaming TypeIs→mh
open PySem.AutoListH renaming list___mul___list_int_3→mJ
open PySem.Code renaming isFrame→mU,frames→qo
open PySem.Txt renaming join→nr,slice→p7
open Prod renaming snd→nz,ext→qz,fst→rR
open String renaming splitOnAux→nC,splitOn→o4
open PySem.pickOrder renaming go→nD
open PySem.SetTable.below renaming go→nE
open Sum.inl renaming inj→nW
open PySem.Builtin.Frozenset renaming updateFrom→oz,newClass→o2,sizeOf→p5,slot0→p8
open PySem.Walks renaming list→oR
open PySem.EqNone renaming eq_none_none→o7,eq_none_bool→o8,eq_bool_none→o9,ne_none_none→pf,ne_none_bool→ph,ne_bool_none→pj,eq_none_int→pG,eq_none_str→pH,eq_int_none→pI,eq_str_none→pK,ne_none_int→pM,ne_none_str→pN,ne_int_none→pO,ne_str_none→pQ
open PySem.EqMixed renaming eq_bool_str→pd,eq_str_bool→pe,ne_bool_str→pk,ne_str_bool→pq,eq_int_str→pJ,eq_str_int→pL,ne_int_str→pP,ne_str_int→pR
open PySem.Moved renaming eq_with→pW
open PySem.Builtin.Range renaming rangeSize→p6
open PySem.MeetsSeq renaming EqGives→qh
open PySem.W.Looks renaming here→ro
open PySem.Heap.IsSliceOf renaming new→rq
open PySem.W.WShape renaming has→rB
open PySem.Draws renaming list→rD
open PySem.Within renaming cons→rF
open List.Pairwise renaming imp→rJ
open PySem.DictEntry renaming refKey→rL
open PySem.Heap.DictOf renaming new→rQ
set_option Elab.async false
set_option linter.all false
set_option maxRecDepth 100000
set_option maxHeartbeats 4000000
section
namespace L2
open PySem
def inClass (s:bY)(j:Nat):bY:=match s with
 | .ClassDef _ _ _ body _ _ _ _ _ _ _=>body.getD j (.Pass ⟨0,0,0,0⟩)
 |_=>.Pass ⟨0,0,0,0⟩
def defArgs (s:bY):Arguments:=match s with
 | .FunctionDef _ a _ _ _ _ _ _ _ _=>a
 |_=>{posonlyargs:=[],args:=[],vararg:=none,kwonlyargs:=[],kw_defaults:=[],kwarg:=none,defaults:=[]}
def defBody (s:bY):List bY:=match s with
 | .FunctionDef _ _ b _ _ _ _ _ _ _=>b
 |_=>[]
def defScope (s:bY):eA:=match s with
 | .FunctionDef _ _ _ _ _ _ sc _ _ _=>sc
 |_=>{kind:=.function,names:=[],isGenerator:=false,isCoroutine:=false}
end L2
namespace Kn
open PySem
def top (i:Nat):bY:=aU.main.body.getD i (.Pass ⟨0,0,0,0⟩)
end Kn
namespace Kn
open PySem PySem.W PyProof.Rows
def topRunT (tb:String->Option cc)(p:aB)(w:aL)(n₀:Nat)(ann:Option ae):Nat->oA->Thread->Option oA
 |0,_,_=>none
 |n+1,s,t=>match through t with
  |true=>some s
  |false=>match stepOk n₀ ann t with
   |false=>none
   |true=>match stepT (denote tb) p w s t with
    |some (s',t')=>topRunT tb p w n₀ ann n s' t'
    |none=>none
theorem topRun_of {tb:String->Option cc}{p:aB}{w:aL}{n₀:Nat}{ann:Option ae}:∀{n:Nat}{s s':oA}{t:Thread},topRunT tb p w n₀ ann n s t=some s'->topRun tb p w n₀ ann n s.abs t=some s'.abs
 |0,_,_,_,h=>by cases h
 |n+1,s,s',t,h=>by
  unfold topRunT at h
  unfold topRun
  cases he:through t with
  |true=>rw[he]at h;cases h;rfl
  |false=>
   rw[he]at h
   cases hk:stepOk n₀ ann t with
   |false=>rw[hk]at h;cases h
   |true=>
    rw[hk]at h
    cases hs:stepT (denote tb) p w s t with
    |none=>rw[hs]at h;cases h
    |some r=>obtain⟨s₂,t₂⟩:=r;rw[hs]at h;rw[stepT_spec hs];exact topRun_of h
def insAll:List Obj->Nat->BT->Option BT
 | [],_,T=>some T
 |o::os,n,T=>match((T.ins n o).get n).isSome with
  |true=>insAll os (n+1) (T.ins n o)
  |false=>none
theorem insAll_abs {life:Life}:∀{os:List Obj}{n:Nat}{T T':BT},insAll os n T=some T'->(absHeap T' (n+os.length) life).objs.toList=(absHeap T n life).objs.toList++os
 | [],n,T,T',h=>by cases h;simp
 |o::os,n,T,T',h=>by
  unfold insAll at h
  cases hi:((T.ins n o).get n).isSome with
  |false=>rw[hi]at h;cases h
  |true=>
   rw[hi]at h
   have h1:=insAll_abs (life:=life) h
   have h2:=absHeap_ins (life:=life) hi
   have e:n+1+os.length=n+(o::os).length:=by rw[aO];omega
   rw[<-e,h1,h2]
   show((absHeap T n life).objs.push o).toList++os=_
   rw[iJ,eG];rfl
theorem insAll_of {s:ak}{T:BT}(h:insAll s.heap.objs.toList 0 .nil=some T):(SharedT.mk T s.heap.objs.size s.heap.life s.gens s.drawn s.toks s.os).abs=s:=by
 have h1:=insAll_abs (life:=s.heap.life) h
 have e0:(absHeap .nil 0 s.heap.life).objs.toList=[]:=rfl
 have e1:0+s.heap.objs.toList.length=s.heap.objs.size:=by rw[ji];rfl
 rw[e0,de,e1]at h1
 have h2:absHeap T s.heap.objs.size s.heap.life=s.heap:=by
  have h3:(absHeap T s.heap.objs.size s.heap.life).objs=s.heap.objs:=nG.mp h1
  have h4:(absHeap T s.heap.objs.size s.heap.life).life=s.heap.life:=rfl
  generalize absHeap T s.heap.objs.size s.heap.life=A at h3 h4
  cases A
  obtain⟨⟨o,l⟩,_,_,_,_⟩:=s
  subst h3 h4
  rfl
 unfold SharedT.abs
 dsimp only
 rw[h2]
def topFromT (tb:String->Option cc)(p:aB)(w:aL)(N:Nat)(s₀:ak)(T₀:oA):Option ak :=
 match s₀.heap.isNs mainGlobals&&s₀.gens.size==0 with
 |true=>(topRunT tb p w s₀.heap.objs.size (s₀.heap.nsMap mainGlobals "__annotations__") N T₀ (topStub p)).bind fun t₁=>match staticsOk (importedModules p.main.body) s₀.heap t₁.abs.heap&&namesBound p t₁.abs.heap&&gensDone t₁.abs&&laidKept s₀.heap t₁.abs.heap with
   |true=>some t₁.abs
   |false=>none
 |false=>none
theorem topFrom_of {tb:String->Option cc}{p:aB}{w:aL}{N:Nat}{s₀:ak}{T₀:oA}{s₁:ak}(e:T₀.abs=s₀)(h:topFromT tb p w N s₀ T₀=some s₁):topFrom tb p w N s₀=some s₁:=by
 unfold topFromT at h
 unfold topFrom
 cases hb:s₀.heap.isNs mainGlobals&&s₀.gens.size==0 with
 |false=>rw[hb]at h;cases h
 |true=>
  rw[hb]at h
  dsimp only at h⊢
  obtain⟨t₁,h1,h2⟩:=e8.mp h
  have h3:=topRun_of h1
  rw[e]at h3
  rw[h3]
  exact h2
def openEndsT (tb:String->Option cc)(p:aB)(w:aL)(N:Nat):Option ak:=(fencedOpening tb p w N).bind fun s₀=>(insAll s₀.heap.objs.toList 0 .nil).bind fun T=>topFromT tb p w N s₀ ⟨T,s₀.heap.objs.size,s₀.heap.life,s₀.gens,s₀.drawn,s₀.toks,s₀.os⟩
theorem openEnds_of {tb:String->Option cc}{p:aB}{w:aL}{N:Nat}{s₁:ak}(h:openEndsT tb p w N=some s₁):openEnds tb p w N=some s₁:=by
 obtain⟨s₀,h1,h2⟩:=e8.mp h
 obtain⟨T,h3,h4⟩:=e8.mp h2
 unfold openEnds
 rw[h1]
 exact topFrom_of (insAll_of h3) h4
theorem openMap_of {tb:String->Option cc}{p:aB}{w:aL}{N:Nat}{α:Type}{F:ak->α}{r:α}(h:(openEndsT tb p w N).map F=some r):(openEnds tb p w N).map F=some r:=by
 obtain⟨s₁,h1,h2⟩:=fm.mp h
 rw[openEnds_of h1,Option.map_some,h2]
end Kn
open PySem PySem.W PyProof.Rows
namespace Kn
open L2
def kE (P:oE)(x:Str)(t:Nat)(v:ae):eM:=⟨PyData.keyHash P x,.str x t,v⟩
def kF (s:bY)(nm qn:Str)(df kd doc pm:ae)(an:Option ai)(cd ct:ae)(c:ae)(d:Option ai)(sl:Array (Option ae)):Obj :=
 ⟨c,d,.func (cQ nm qn (defArgs s) (defBody s) (defScope s) df kd doc pm an cd ct),sl⟩
def kC (n:Str)(a b c:Nat)(i3 i4 i5 i6 i7:Int)(r8:ai)(b9:Bool)(i10:Int)(r11 r13 r14 r15:ai)(i16 i17:Int)(e:Nat):Obj :=
 ⟨.type "code",none,.fields #[.str n a,.str n b,.str (.ofString "/claim/cut.py") c,.int i3 0,.int i4 0,.int i5 0,.int i6 0,.int i7 0,.ref r8,.bool b9,.int i10 0,.ref r11,.none,.ref r13,.ref r14,.ref r15,.int i16 0,.int i17 0,.str (.ofString "/claim/cut.py") e],#[]⟩
def kD (s:bY)(n m:Str)(t:Nat)(c:ai):Obj:=kF s n n .none .none .none (.str m t) none (.ref c) .none (.type "function") none #[]
noncomputable def kfr:oE->Frag:=fun P=>(nat_lit 2,⟨.none,none,.dict #[] 0,#[]⟩)::
 (nat_lit 3,⟨(.type "dict"),none,.dict #[kE P (.ofString "__name__") 165 (.str (.ofString "law_kinnames_k91_whole_ledgers") 743),kE P (.ofString "__doc__") 166 .none,kE P (.ofString "__package__") 167 .none,kE P (.ofString "__loader__") 168 (.builtin "__main__.__loader__#opaque"),kE P (.ofString "__spec__") 169 .none,kE P (.ofString "__annotations__") 170 (.ref 6),kE P (.ofString "__builtins__") 171 (.ref 4),kE P (.ofString "__file__") 173 (.str (.ofString "/claim/cut.py") 172),kE P (.ofString "__cached__") 174 .none,kE P (.ofString "_wall") 193 (.ref 21),kE P (.ofString "LikeError") 213 (.ref 31),kE P (.ofString "NoBook") 229 (.ref 44),kE P (.ofString "NoOrder") 245 (.ref 56),kE P (.ofString "NoName") 261 (.ref 68),kE P (.ofString "Nothing") 277 (.ref 80),kE P (.ofString "LETTERS") 281 (.str (.ofString "abcdefghijklmnopqrstuvwxyz") 280),kE P (.ofString "MOST_LETTERS") 283 (.int (8) 282),kE P (.ofString "MOST_NAMES") 285 (.int (8) 284),kE P (.ofString "MOST_ORDER") 287 (.int (3) 286),kE P (.ofString "is_name") 293 (.ref 87),kE P (.ofString "is_book") 299 (.ref 92),kE P (.ofString "is_whole") 308 (.ref 99),kE P (.ofString "is_order") 315 (.ref 106),kE P (.ofString "need_book") 322 (.ref 113),kE P (.ofString "need_books") 330 (.ref 120),kE P (.ofString "need_order") 337 (.ref 127),kE P (.ofString "need_name") 344 (.ref 134),kE P (.ofString "end_of") 352 (.ref 141),kE P (.ofString "ends_and_letters") 358 (.ref 146),kE P (.ofString "counted_rows") 371 (.ref 153),kE P (.ofString "NOUGHT") 376 (.ref 154),kE P (.ofString "WHOLE") 379 (.ref 155),kE P (.ofString "greatest_divisor") 388 (.ref 162),kE P (.ofString "lowest") 397 (.ref 169),kE P (.ofString "times") 405 (.ref 176),kE P (.ofString "is_less") 413 (.ref 183),kE P (.ofString "place_of_greatest") 424 (.ref 190),kE P (.ofString "part_in") 432 (.ref 197),kE P (.ofString "steps_by_rows") 438 (.ref 202),kE P (.ofString "share_by_rows") 449 (.ref 209),kE P (.ofString "share") 458 (.ref 216),kE P (.ofString "makes") 467 (.ref 223),kE P (.ofString "Stepper") 538 (.ref 275),kE P (.ofString "Ledger") 653 (.ref 367),kE P (.ofString "makers") 661 (.ref 374),kE P (.ofString "best_maker") 667 (.ref 379),kE P (.ofString "mixed") 678 (.ref 386),kE P (.ofString "next_firsts") 694 (.ref 393),kE P (.ofString "ends_by_rows_alone") 703 (.ref 400),kE P (.ofString "lacking") 709 (.ref 405),kE P (.ofString "makes_all") 718 (.ref 412),kE P (.ofString "need_names") 724 (.ref 417),kE P (.ofString "share_of_all") 736 (.ref 424),kE P (.ofString "best_for") 742 (.ref 429),kE P (.ofString "_law_cell") 752 (.ref 436),kE P (.ofString "_law_drawn") 762 (.ref 443),kE P (.ofString "_law_name") 768 (.ref 448),kE P (.ofString "_law_book") 780 (.ref 455),kE P (.ofString "_law_step") 792 (.ref 462),kE P (.ofString "law") 798 (.ref 467)] 60,#[]⟩)::
 (nat_lit 20,kC "_wall" 187 188 189 1 1 0 0 3 15 true 181 16 17 18 19 191 1 192)::
 (nat_lit 21,kD (top 0) "_wall" "__main__" 164 20)::
 (nat_lit 30,⟨(.type "dict"),none,.dict #[kE P (.ofString "__module__") 203 (.str (.ofString "kinnames.errors") 194),kE P (.ofString "__firstlineno__") 207 (.int (5) 206),kE P (.ofString "__static_attributes__") 208 (.ref 29),kE P (.ofString "__weakref__") 210 (.ref 32),kE P (.ofString "__doc__") 211 .none] 3,#[]⟩)::
 (nat_lit 31,⟨(.type "type"),none,.cls ⟨(.ofString "LikeError"),[(.type "ValueError")],[(.ref 31),(.type "ValueError"),(.type "Exception"),(.type "BaseException"),(.type "object")],30,(.ofString "LikeError"),true,[],[(.ref 44),(.ref 56),(.ref 68),(.ref 80)],false,none,false⟩,#[(some (.ref 22)),none,(some (.str (.ofString "LikeError") 196)),(some (.str (.ofString "LikeError") 204)),(some (.builtin "ValueError.__new__")),(some (.bool true))]⟩)::
 (nat_lit 32,⟨(.type "getset_descriptor"),none,.fields #[(.str (.ofString "__weakref__") 209),(.ref 31),(.builtin "ExceptionGroup.__weakref__"),.none],#[]⟩)::
 (nat_lit 43,⟨(.type "dict"),none,.dict #[kE P (.ofString "__module__") 221 (.str (.ofString "kinnames.errors") 194),kE P (.ofString "__firstlineno__") 225 (.int (7) 224),kE P (.ofString "__static_attributes__") 226 (.ref 42),kE P (.ofString "__doc__") 227 .none] 2,#[]⟩)::
 (nat_lit 44,⟨(.type "type"),none,.cls ⟨(.ofString "NoBook"),[(.ref 31)],[(.ref 44),(.ref 31),(.type "ValueError"),(.type "Exception"),(.type "BaseException"),(.type "object")],43,(.ofString "NoBook"),true,[],[],false,none,false⟩,#[(some (.ref 35)),none,(some (.str (.ofString "NoBook") 214)),(some (.str (.ofString "NoBook") 222)),(some (.builtin "ValueError.__new__")),(some (.bool true))]⟩)::
 (nat_lit 55,⟨(.type "dict"),none,.dict #[kE P (.ofString "__module__") 237 (.str (.ofString "kinnames.errors") 194),kE P (.ofString "__firstlineno__") 241 (.int (9) 240),kE P (.ofString "__static_attributes__") 242 (.ref 54),kE P (.ofString "__doc__") 243 .none] 2,#[]⟩)::
 (nat_lit 56,⟨(.type "type"),none,.cls ⟨(.ofString "NoOrder"),[(.ref 31)],[(.ref 56),(.ref 31),(.type "ValueError"),(.type "Exception"),(.type "BaseException"),(.type "object")],55,(.ofString "NoOrder"),true,[],[],false,none,false⟩,#[(some (.ref 47)),none,(some (.str (.ofString "NoOrder") 230)),(some (.str (.ofString "NoOrder") 238)),(some (.builtin "ValueError.__new__")),(some (.bool true))]⟩)::
 (nat_lit 67,⟨(.type "dict"),none,.dict #[kE P (.ofString "__module__") 253 (.str (.ofString "kinnames.errors") 194),kE P (.ofString "__firstlineno__") 257 (.int (11) 256),kE P (.ofString "__static_attributes__") 258 (.ref 66),kE P (.ofString "__doc__") 259 .none] 2,#[]⟩)::
 (nat_lit 68,⟨(.type "type"),none,.cls ⟨(.ofString "NoName"),[(.ref 31)],[(.ref 68),(.ref 31),(.type "ValueError"),(.type "Exception"),(.type "BaseException"),(.type "object")],67,(.ofString "NoName"),true,[],[],false,none,false⟩,#[(some (.ref 59)),none,(some (.str (.ofString "NoName") 246)),(some (.str (.ofString "NoName") 254)),(some (.builtin "ValueError.__new__")),(some (.bool true))]⟩)::
 (nat_lit 79,⟨(.type "dict"),none,.dict #[kE P (.ofString "__module__") 269 (.str (.ofString "kinnames.errors") 194),kE P (.ofString "__firstlineno__") 273 (.int (13) 272),kE P (.ofString "__static_attributes__") 274 (.ref 78),kE P (.ofString "__doc__") 275 .none] 2,#[]⟩)::
 (nat_lit 80,⟨(.type "type"),none,.cls ⟨(.ofString "Nothing"),[(.ref 31)],[(.ref 80),(.ref 31),(.type "ValueError"),(.type "Exception"),(.type "BaseException"),(.type "object")],79,(.ofString "Nothing"),true,[],[],false,none,false⟩,#[(some (.ref 71)),none,(some (.str (.ofString "Nothing") 262)),(some (.str (.ofString "Nothing") 270)),(some (.builtin "ValueError.__new__")),(some (.bool true))]⟩)::
 (nat_lit 86,⟨(.type "code"),none,.fields #[(.str (.ofString "is_name") 288),(.str (.ofString "is_name") 289),(.str (.ofString "/claim/cut.py") 290),(.int (20) 0),(.int (1) 0),(.int (0) 0),(.int (0) 0),(.int (3) 0),(.ref 83),(.bool true),(.int (181) 0),(.ref 84),.none,.none,.none,(.ref 85),(.int (291) 0),(.int (20) 0),(.str (.ofString "/claim/cut.py") 292)],#[]⟩)::
 (nat_lit 87,kD (top 12) "is_name" "kinnames.books" 278 86)::
 (nat_lit 91,⟨(.type "code"),none,.fields #[(.str (.ofString "is_book") 294),(.str (.ofString "is_book") 295),(.str (.ofString "/claim/cut.py") 296),(.int (24) 0),(.int (1) 0),(.int (0) 0),(.int (0) 0),(.int (3) 0),(.ref 88),(.bool true),(.int (181) 0),(.ref 89),.none,.none,.none,(.ref 90),(.int (297) 0),(.int (24) 0),(.str (.ofString "/claim/cut.py") 298)],#[]⟩)::
 (nat_lit 92,kD (top 13) "is_book" "kinnames.books" 278 91)::
 (nat_lit 98,kC "is_whole" 300 301 302 28 3 0 0 3 93 true 181 94 95 96 97 306 28 307)::
 (nat_lit 99,kD (top 14) "is_whole" "kinnames.books" 278 98)::
 (nat_lit 105,kC "is_order" 309 310 311 32 1 0 0 3 100 true 181 101 102 103 104 313 32 314)::
 (nat_lit 106,kD (top 15) "is_order" "kinnames.books" 278 105)::
 (nat_lit 112,kC "need_book" 316 317 318 34 1 0 0 3 107 true 181 108 109 110 111 320 34 321)::
 (nat_lit 113,kD (top 16) "need_book" "kinnames.books" 278 112)::
 (nat_lit 119,kC "need_books" 323 324 325 37 1 0 0 3 114 true 181 115 116 117 118 328 37 329)::
 (nat_lit 120,kD (top 17) "need_books" "kinnames.books" 278 119)::
 (nat_lit 126,kC "need_order" 331 332 333 42 1 0 0 3 121 true 181 122 123 124 125 335 42 336)::
 (nat_lit 127,kD (top 18) "need_order" "kinnames.books" 278 126)::
 (nat_lit 133,kC "need_name" 338 339 340 45 1 0 0 3 128 true 181 129 130 131 132 342 45 343)::
 (nat_lit 134,kD (top 19) "need_name" "kinnames.books" 278 133)::
 (nat_lit 140,kC "end_of" 345 346 347 48 2 0 0 3 135 true 181 136 137 138 139 350 48 351)::
 (nat_lit 141,kD (top 20) "end_of" "kinnames.books" 278 140)::
 (nat_lit 145,⟨(.type "code"),none,.fields #[(.str (.ofString "ends_and_letters") 353),(.str (.ofString "ends_and_letters") 354),(.str (.ofString "/claim/cut.py") 355),(.int (50) 0),(.int (2) 0),(.int (0) 0),(.int (0) 0),(.int (3) 0),(.ref 142),(.bool true),(.int (181) 0),(.ref 143),.none,.none,.none,(.ref 144),(.int (356) 0),(.int (50) 0),(.str (.ofString "/claim/cut.py") 357)],#[]⟩)::
 (nat_lit 146,kD (top 21) "ends_and_letters" "kinnames.books" 278 145)::
 (nat_lit 152,kC "counted_rows" 359 360 361 52 2 0 0 3 147 true 181 148 149 150 151 369 52 370)::
 (nat_lit 153,kD (top 22) "counted_rows" "kinnames.books" 278 152)::
 (nat_lit 154,⟨(.type "tuple"),none,.seq #[(.int (0) 374),(.int (1) 375)] 0,#[]⟩)::
 (nat_lit 155,⟨(.type "tuple"),none,.seq #[(.int (1) 377),(.int (1) 378)] 0,#[]⟩)::
 (nat_lit 161,kC "greatest_divisor" 380 381 382 62 2 0 0 3 156 true 181 157 158 159 160 386 62 387)::
 (nat_lit 162,kD (top 26) "greatest_divisor" "kinnames.shares" 372 161)::
 (nat_lit 168,kC "lowest" 389 390 391 68 2 0 0 3 163 true 181 164 165 166 167 395 68 396)::
 (nat_lit 169,kD (top 27) "lowest" "kinnames.shares" 372 168)::
 (nat_lit 175,kC "times" 398 399 400 71 2 0 0 3 170 true 181 171 172 173 174 403 71 404)::
 (nat_lit 176,kD (top 28) "times" "kinnames.shares" 372 175)::
 (nat_lit 182,kC "is_less" 406 407 408 73 2 0 0 3 177 true 181 178 179 180 181 411 73 412)::
 (nat_lit 183,kD (top 29) "is_less" "kinnames.shares" 372 182)::
 (nat_lit 189,kC "place_of_greatest" 414 415 416 75 1 0 0 3 184 true 181 185 186 187 188 422 75 423)::
 (nat_lit 190,kD (top 30) "place_of_greatest" "kinnames.shares" 372 189)::
 (nat_lit 196,kC "part_in" 425 426 427 83 2 0 0 3 191 true 181 192 193 194 195 430 83 431)::
 (nat_lit 197,kD (top 31) "part_in" "kinnames.shares" 372 196)::
 (nat_lit 201,⟨(.type "code"),none,.fields #[(.str (.ofString "steps_by_rows") 433),(.str (.ofString "steps_by_rows") 434),(.str (.ofString "/claim/cut.py") 435),(.int (87) 0),(.int (3) 0),(.int (0) 0),(.int (0) 0),(.int (3) 0),(.ref 198),(.bool true),(.int (181) 0),(.ref 199),.none,.none,.none,(.ref 200),(.int (436) 0),(.int (87) 0),(.str (.ofString "/claim/cut.py") 437)],#[]⟩)::
 (nat_lit 202,kD (top 32) "steps_by_rows" "kinnames.shares" 372 201)::
 (nat_lit 208,kC "share_by_rows" 439 440 441 89 3 0 0 3 203 true 181 204 205 206 207 447 89 448)::
 (nat_lit 209,kD (top 33) "share_by_rows" "kinnames.shares" 372 208)::
 (nat_lit 215,kC "share" 450 451 452 94 3 0 0 3 210 true 181 211 212 213 214 456 94 457)::
 (nat_lit 216,kD (top 34) "share" "kinnames.shares" 372 215)::
 (nat_lit 222,kC "makes" 459 460 461 99 3 0 0 3 217 true 181 218 219 220 221 465 99 466)::
 (nat_lit 223,kD (top 35) "makes" "kinnames.shares" 372 222)::
 (nat_lit 236,⟨(.type "code"),none,.fields #[(.str (.ofString "__init__") 482),(.str (.ofString "Stepper.__init__") 483),(.str (.ofString "/claim/cut.py") 484),(.int (104) 0),(.int (2) 0),(.int (0) 0),(.int (0) 0),(.int (3) 0),(.ref 231),(.bool true),(.int (181) 0),(.ref 232),.none,(.ref 233),(.ref 234),(.ref 235),(.int (487) 0),(.int (104) 0),(.str (.ofString "/claim/cut.py") 488)],#[]⟩)::
 (nat_lit 237,kF (inClass (top 37) 0) (.ofString "__init__") (.ofString "Stepper.__init__") .none .none .none (.str (.ofString "kinnames.pens") 468) none (.ref 236) .none (.type "function") none #[])::
 (nat_lit 243,⟨(.type "code"),none,.fields #[(.str (.ofString "step_to") 490),(.str (.ofString "Stepper.step_to") 491),(.str (.ofString "/claim/cut.py") 492),(.int (109) 0),(.int (3) 0),(.int (0) 0),(.int (0) 0),(.int (3) 0),(.ref 238),(.bool true),(.int (181) 0),(.ref 239),.none,(.ref 240),(.ref 241),(.ref 242),(.int (496) 0),(.int (109) 0),(.str (.ofString "/claim/cut.py") 497)],#[]⟩)::
 (nat_lit 244,kF (inClass (top 37) 1) (.ofString "step_to") (.ofString "Stepper.step_to") .none .none .none (.str (.ofString "kinnames.pens") 468) none (.ref 243) .none (.type "function") none #[])::
 (nat_lit 250,⟨(.type "code"),none,.fields #[(.str (.ofString "back") 499),(.str (.ofString "Stepper.back") 500),(.str (.ofString "/claim/cut.py") 501),(.int (114) 0),(.int (1) 0),(.int (0) 0),(.int (0) 0),(.int (3) 0),(.ref 245),(.bool true),(.int (181) 0),(.ref 246),.none,(.ref 247),(.ref 248),(.ref 249),(.int (503) 0),(.int (114) 0),(.str (.ofString "/claim/cut.py") 504)],#[]⟩)::
 (nat_lit 251,kF (inClass (top 37) 2) (.ofString "back") (.ofString "Stepper.back") .none .none .none (.str (.ofString "kinnames.pens") 468) none (.ref 250) .none (.type "function") none #[])::
 (nat_lit 257,⟨(.type "code"),none,.fields #[(.str (.ofString "forth") 506),(.str (.ofString "Stepper.forth") 507),(.str (.ofString "/claim/cut.py") 508),(.int (117) 0),(.int (1) 0),(.int (0) 0),(.int (0) 0),(.int (3) 0),(.ref 252),(.bool true),(.int (181) 0),(.ref 253),.none,(.ref 254),(.ref 255),(.ref 256),(.int (510) 0),(.int (117) 0),(.str (.ofString "/claim/cut.py") 511)],#[]⟩)::
 (nat_lit 258,kF (inClass (top 37) 3) (.ofString "forth") (.ofString "Stepper.forth") .none .none .none (.str (.ofString "kinnames.pens") 468) none (.ref 257) .none (.type "function") none #[])::
 (nat_lit 264,⟨(.type "code"),none,.fields #[(.str (.ofString "many") 513),(.str (.ofString "Stepper.many") 514),(.str (.ofString "/claim/cut.py") 515),(.int (120) 0),(.int (1) 0),(.int (0) 0),(.int (0) 0),(.int (3) 0),(.ref 259),(.bool true),(.int (181) 0),(.ref 260),.none,(.ref 261),(.ref 262),(.ref 263),(.int (517) 0),(.int (120) 0),(.str (.ofString "/claim/cut.py") 518)],#[]⟩)::
 (nat_lit 265,kF (inClass (top 37) 4) (.ofString "many") (.ofString "Stepper.many") .none .none .none (.str (.ofString "kinnames.pens") 468) none (.ref 264) .none (.type "function") none #[])::
 (nat_lit 271,⟨(.type "code"),none,.fields #[(.str (.ofString "become") 520),(.str (.ofString "Stepper.become") 521),(.str (.ofString "/claim/cut.py") 522),(.int (123) 0),(.int (2) 0),(.int (0) 0),(.int (0) 0),(.int (3) 0),(.ref 266),(.bool true),(.int (181) 0),(.ref 267),.none,(.ref 268),(.ref 269),(.ref 270),(.int (525) 0),(.int (123) 0),(.str (.ofString "/claim/cut.py") 526)],#[]⟩)::
 (nat_lit 272,kF (inClass (top 37) 5) (.ofString "become") (.ofString "Stepper.become") .none .none .none (.str (.ofString "kinnames.pens") 468) none (.ref 271) .none (.type "function") none #[])::
 (nat_lit 274,⟨(.type "dict"),none,.dict #[kE P (.ofString "__module__") 477 (.str (.ofString "kinnames.pens") 468),kE P (.ofString "__firstlineno__") 481 (.int (102) 480),kE P (.ofString "__init__") 489 (.ref 237),kE P (.ofString "step_to") 498 (.ref 244),kE P (.ofString "back") 505 (.ref 251),kE P (.ofString "forth") 512 (.ref 258),kE P (.ofString "many") 519 (.ref 265),kE P (.ofString "become") 527 (.ref 272),kE P (.ofString "__static_attributes__") 531 (.ref 273),kE P (.ofString "__dict__") 533 (.ref 276),kE P (.ofString "__weakref__") 535 (.ref 277),kE P (.ofString "__doc__") 536 .none] 4,#[]⟩)::
 (nat_lit 275,⟨(.type "type"),none,.cls ⟨(.ofString "Stepper"),[(.type "object")],[(.ref 275),(.type "object")],274,(.ofString "Stepper"),true,[],[(.ref 367)],false,none,false⟩,#[none,none,(some (.str (.ofString "Stepper") 470)),(some (.str (.ofString "Stepper") 478)),(some (.builtin "object.__new__")),(some (.bool true))]⟩)::
 (nat_lit 276,⟨(.type "getset_descriptor"),none,.fields #[(.str (.ofString "__dict__") 532),(.ref 275),(.builtin "function.__dict__"),(.builtin "function.__dict__#set")],#[]⟩)::
 (nat_lit 277,⟨(.type "getset_descriptor"),none,.fields #[(.str (.ofString "__weakref__") 534),(.ref 275),(.builtin "ExceptionGroup.__weakref__"),.none],#[]⟩)::
 (nat_lit 292,⟨(.type "code"),none,.fields #[(.str (.ofString "__init__") 553),(.str (.ofString "Ledger.__init__") 554),(.str (.ofString "/claim/cut.py") 555),(.int (128) 0),(.int (2) 0),(.int (0) 0),(.int (0) 0),(.int (3) 0),(.ref 287),(.bool true),(.int (181) 0),(.ref 288),.none,(.ref 289),(.ref 290),(.ref 291),(.int (558) 0),(.int (128) 0),(.str (.ofString "/claim/cut.py") 559)],#[]⟩)::
 (nat_lit 293,kF (inClass (top 39) 0) (.ofString "__init__") (.ofString "Ledger.__init__") .none .none .none (.str (.ofString "kinnames.ledgers") 539) none (.ref 292) .none (.type "function") none #[])::
 (nat_lit 299,⟨(.type "code"),none,.fields #[(.str (.ofString "need_title") 561),(.str (.ofString "Ledger.need_title") 562),(.str (.ofString "/claim/cut.py") 563),(.int (133) 0),(.int (2) 0),(.int (0) 0),(.int (0) 0),(.int (3) 0),(.ref 294),(.bool true),(.int (181) 0),(.ref 295),.none,(.ref 296),(.ref 297),(.ref 298),(.int (566) 0),(.int (133) 0),(.str (.ofString "/claim/cut.py") 567)],#[]⟩)::
 (nat_lit 300,kF (inClass (top 39) 1) (.ofString "need_title") (.ofString "Ledger.need_title") .none .none .none (.str (.ofString "kinnames.ledgers") 539) none (.ref 299) .none (.type "function") none #[])::
 (nat_lit 306,⟨(.type "code"),none,.fields #[(.str (.ofString "with_book") 569),(.str (.ofString "Ledger.with_book") 570),(.str (.ofString "/claim/cut.py") 571),(.int (137) 0),(.int (3) 0),(.int (0) 0),(.int (0) 0),(.int (3) 0),(.ref 301),(.bool true),(.int (181) 0),(.ref 302),.none,(.ref 303),(.ref 304),(.ref 305),(.int (576) 0),(.int (137) 0),(.str (.ofString "/claim/cut.py") 577)],#[]⟩)::
 (nat_lit 307,kF (inClass (top 39) 2) (.ofString "with_book") (.ofString "Ledger.with_book") .none .none .none (.str (.ofString "kinnames.ledgers") 539) none (.ref 306) .none (.type "function") none #[])::
 (nat_lit 313,⟨(.type "code"),none,.fields #[(.str (.ofString "keep") 579),(.str (.ofString "Ledger.keep") 580),(.str (.ofString "/claim/cut.py") 581),(.int (142) 0),(.int (3) 0),(.int (0) 0),(.int (0) 0),(.int (3) 0),(.ref 308),(.bool true),(.int (181) 0),(.ref 309),.none,(.ref 310),(.ref 311),(.ref 312),(.int (586) 0),(.int (142) 0),(.str (.ofString "/claim/cut.py") 587)],#[]⟩)::
 (nat_lit 314,kF (inClass (top 39) 3) (.ofString "keep") (.ofString "Ledger.keep") .none .none .none (.str (.ofString "kinnames.ledgers") 539) none (.ref 313) .none (.type "function") none #[])::
 (nat_lit 320,⟨(.type "code"),none,.fields #[(.str (.ofString "drop") 589),(.str (.ofString "Ledger.drop") 590),(.str (.ofString "/claim/cut.py") 591),(.int (149) 0),(.int (2) 0),(.int (0) 0),(.int (0) 0),(.int (3) 0),(.ref 315),(.bool true),(.int (181) 0),(.ref 316),.none,(.ref 317),(.ref 318),(.ref 319),(.int (596) 0),(.int (149) 0),(.str (.ofString "/claim/cut.py") 597)],#[]⟩)::
 (nat_lit 321,kF (inClass (top 39) 4) (.ofString "drop") (.ofString "Ledger.drop") .none .none .none (.str (.ofString "kinnames.ledgers") 539) none (.ref 320) .none (.type "function") none #[])::
 (nat_lit 327,⟨(.type "code"),none,.fields #[(.str (.ofString "hear") 599),(.str (.ofString "Ledger.hear") 600),(.str (.ofString "/claim/cut.py") 601),(.int (157) 0),(.int (3) 0),(.int (0) 0),(.int (0) 0),(.int (3) 0),(.ref 322),(.bool true),(.int (181) 0),(.ref 323),.none,(.ref 324),(.ref 325),(.ref 326),(.int (606) 0),(.int (157) 0),(.str (.ofString "/claim/cut.py") 607)],#[]⟩)::
 (nat_lit 328,kF (inClass (top 39) 5) (.ofString "hear") (.ofString "Ledger.hear") .none .none .none (.str (.ofString "kinnames.ledgers") 539) none (.ref 327) .none (.type "function") none #[])::
 (nat_lit 334,⟨(.type "code"),none,.fields #[(.str (.ofString "titles") 609),(.str (.ofString "Ledger.titles") 610),(.str (.ofString "/claim/cut.py") 611),(.int (166) 0),(.int (1) 0),(.int (0) 0),(.int (0) 0),(.int (3) 0),(.ref 329),(.bool true),(.int (181) 0),(.ref 330),.none,(.ref 331),(.ref 332),(.ref 333),(.int (613) 0),(.int (166) 0),(.str (.ofString "/claim/cut.py") 614)],#[]⟩)::
 (nat_lit 335,kF (inClass (top 39) 6) (.ofString "titles") (.ofString "Ledger.titles") .none .none .none (.str (.ofString "kinnames.ledgers") 539) none (.ref 334) .none (.type "function") none #[])::
 (nat_lit 341,⟨(.type "code"),none,.fields #[(.str (.ofString "book") 616),(.str (.ofString "Ledger.book") 617),(.str (.ofString "/claim/cut.py") 618),(.int (169) 0),(.int (2) 0),(.int (0) 0),(.int (0) 0),(.int (3) 0),(.ref 336),(.bool true),(.int (181) 0),(.ref 337),.none,(.ref 338),(.ref 339),(.ref 340),(.int (621) 0),(.int (169) 0),(.str (.ofString "/claim/cut.py") 622)],#[]⟩)::
 (nat_lit 342,kF (inClass (top 39) 7) (.ofString "book") (.ofString "Ledger.book") .none .none .none (.str (.ofString "kinnames.ledgers") 539) none (.ref 341) .none (.type "function") none #[])::
 (nat_lit 346,⟨(.type "code"),none,.fields #[(.str (.ofString "tellers") 624),(.str (.ofString "Ledger.tellers") 625),(.str (.ofString "/claim/cut.py") 626),(.int (174) 0),(.int (2) 0),(.int (0) 0),(.int (0) 0),(.int (3) 0),(.ref 343),(.bool true),(.int (181) 0),(.ref 344),.none,.none,.none,(.ref 345),(.int (627) 0),(.int (174) 0),(.str (.ofString "/claim/cut.py") 628)],#[]⟩)::
 (nat_lit 347,kF (inClass (top 39) 8) (.ofString "tellers") (.ofString "Ledger.tellers") .none .none .none (.str (.ofString "kinnames.ledgers") 539) none (.ref 346) .none (.type "function") none #[])::
 (nat_lit 351,⟨(.type "code"),none,.fields #[(.str (.ofString "makers_of") 630),(.str (.ofString "Ledger.makers_of") 631),(.str (.ofString "/claim/cut.py") 632),(.int (178) 0),(.int (2) 0),(.int (0) 0),(.int (0) 0),(.int (3) 0),(.ref 348),(.bool true),(.int (181) 0),(.ref 349),.none,.none,.none,(.ref 350),(.int (633) 0),(.int (178) 0),(.str (.ofString "/claim/cut.py") 634)],#[]⟩)::
 (nat_lit 352,kF (inClass (top 39) 9) (.ofString "makers_of") (.ofString "Ledger.makers_of") .none .none .none (.str (.ofString "kinnames.ledgers") 539) none (.ref 351) .none (.type "function") none #[])::
 (nat_lit 356,⟨(.type "code"),none,.fields #[(.str (.ofString "best_of") 636),(.str (.ofString "Ledger.best_of") 637),(.str (.ofString "/claim/cut.py") 638),(.int (182) 0),(.int (2) 0),(.int (0) 0),(.int (0) 0),(.int (3) 0),(.ref 353),(.bool true),(.int (181) 0),(.ref 354),.none,.none,.none,(.ref 355),(.int (639) 0),(.int (182) 0),(.str (.ofString "/claim/cut.py") 640)],#[]⟩)::
 (nat_lit 357,kF (inClass (top 39) 10) (.ofString "best_of") (.ofString "Ledger.best_of") .none .none .none (.str (.ofString "kinnames.ledgers") 539) none (.ref 356) .none (.type "function") none #[])::
 (nat_lit 363,⟨(.type "code"),none,.fields #[(.str (.ofString "twin") 642),(.str (.ofString "Ledger.twin") 643),(.str (.ofString "/claim/cut.py") 644),(.int (188) 0),(.int (1) 0),(.int (0) 0),(.int (0) 0),(.int (3) 0),(.ref 358),(.bool true),(.int (181) 0),(.ref 359),.none,(.ref 360),(.ref 361),(.ref 362),(.int (646) 0),(.int (188) 0),(.str (.ofString "/claim/cut.py") 647)],#[]⟩)::
 (nat_lit 364,kF (inClass (top 39) 11) (.ofString "twin") (.ofString "Ledger.twin") .none .none .none (.str (.ofString "kinnames.ledgers") 539) none (.ref 363) .none (.type "function") none #[])::
 (nat_lit 366,⟨(.type "dict"),none,.dict #[kE P (.ofString "__module__") 548 (.str (.ofString "kinnames.ledgers") 539),kE P (.ofString "__firstlineno__") 552 (.int (126) 551),kE P (.ofString "__init__") 560 (.ref 293),kE P (.ofString "need_title") 568 (.ref 300),kE P (.ofString "with_book") 578 (.ref 307),kE P (.ofString "keep") 588 (.ref 314),kE P (.ofString "drop") 598 (.ref 321),kE P (.ofString "hear") 608 (.ref 328),kE P (.ofString "titles") 615 (.ref 335),kE P (.ofString "book") 623 (.ref 342),kE P (.ofString "tellers") 629 (.ref 347),kE P (.ofString "makers_of") 635 (.ref 352),kE P (.ofString "best_of") 641 (.ref 357),kE P (.ofString "twin") 648 (.ref 364),kE P (.ofString "__static_attributes__") 650 (.ref 365),kE P (.ofString "__doc__") 651 .none] 2,#[]⟩)::
 (nat_lit 367,⟨(.type "type"),none,.cls ⟨(.ofString "Ledger"),[(.ref 275)],[(.ref 367),(.ref 275),(.type "object")],366,(.ofString "Ledger"),true,[],[],false,none,false⟩,#[(some (.ref 280)),none,(some (.str (.ofString "Ledger") 541)),(some (.str (.ofString "Ledger") 549)),(some (.builtin "object.__new__")),(some (.bool true))]⟩)::
 (nat_lit 373,⟨(.type "code"),none,.fields #[(.str (.ofString "makers") 656),(.str (.ofString "makers") 657),(.str (.ofString "/claim/cut.py") 658),(.int (191) 0),(.int (3) 0),(.int (0) 0),(.int (0) 0),(.int (3) 0),(.ref 370),(.bool true),(.int (181) 0),(.ref 371),.none,.none,.none,(.ref 372),(.int (659) 0),(.int (191) 0),(.str (.ofString "/claim/cut.py") 660)],#[]⟩)::
 (nat_lit 374,kD (top 41) "makers" "kinnames.supports" 654 373)::
 (nat_lit 378,⟨(.type "code"),none,.fields #[(.str (.ofString "best_maker") 662),(.str (.ofString "best_maker") 663),(.str (.ofString "/claim/cut.py") 664),(.int (196) 0),(.int (3) 0),(.int (0) 0),(.int (0) 0),(.int (3) 0),(.ref 375),(.bool true),(.int (181) 0),(.ref 376),.none,.none,.none,(.ref 377),(.int (665) 0),(.int (196) 0),(.str (.ofString "/claim/cut.py") 666)],#[]⟩)::
 (nat_lit 379,kD (top 42) "best_maker" "kinnames.supports" 654 378)::
 (nat_lit 385,kC "mixed" 670 671 672 202 2 0 0 3 380 true 181 381 382 383 384 676 202 677)::
 (nat_lit 386,kD (top 44) "mixed" "kinnames.together" 668 385)::
 (nat_lit 392,kC "next_firsts" 679 680 681 208 4 0 0 3 387 true 181 388 389 390 391 692 208 693)::
 (nat_lit 393,kD (top 45) "next_firsts" "kinnames.together" 668 392)::
 (nat_lit 399,kC "ends_by_rows_alone" 695 696 697 217 3 0 0 3 394 true 181 395 396 397 398 701 217 702)::
 (nat_lit 400,kD (top 46) "ends_by_rows_alone" "kinnames.together" 668 399)::
 (nat_lit 404,⟨(.type "code"),none,.fields #[(.str (.ofString "lacking") 704),(.str (.ofString "lacking") 705),(.str (.ofString "/claim/cut.py") 706),(.int (219) 0),(.int (3) 0),(.int (0) 0),(.int (0) 0),(.int (3) 0),(.ref 401),(.bool true),(.int (181) 0),(.ref 402),.none,.none,.none,(.ref 403),(.int (707) 0),(.int (219) 0),(.str (.ofString "/claim/cut.py") 708)],#[]⟩)::
 (nat_lit 405,kD (top 47) "lacking" "kinnames.together" 668 404)::
 (nat_lit 411,kC "makes_all" 710 711 712 232 3 0 0 3 406 true 181 407 408 409 410 716 232 717)::
 (nat_lit 412,kD (top 48) "makes_all" "kinnames.together" 668 411)::
 (nat_lit 416,⟨(.type "code"),none,.fields #[(.str (.ofString "need_names") 719),(.str (.ofString "need_names") 720),(.str (.ofString "/claim/cut.py") 721),(.int (234) 0),(.int (1) 0),(.int (0) 0),(.int (0) 0),(.int (3) 0),(.ref 413),(.bool true),(.int (181) 0),(.ref 414),.none,.none,.none,(.ref 415),(.int (722) 0),(.int (234) 0),(.str (.ofString "/claim/cut.py") 723)],#[]⟩)::
 (nat_lit 417,kD (top 49) "need_names" "kinnames.together" 668 416)::
 (nat_lit 423,kC "share_of_all" 725 726 727 237 3 0 0 3 418 true 181 419 420 421 422 734 237 735)::
 (nat_lit 424,kD (top 50) "share_of_all" "kinnames.together" 668 423)::
 (nat_lit 428,⟨(.type "code"),none,.fields #[(.str (.ofString "best_for") 737),(.str (.ofString "best_for") 738),(.str (.ofString "/claim/cut.py") 739),(.int (243) 0),(.int (3) 0),(.int (0) 0),(.int (0) 0),(.int (3) 0),(.ref 425),(.bool true),(.int (181) 0),(.ref 426),.none,.none,.none,(.ref 427),(.int (740) 0),(.int (243) 0),(.str (.ofString "/claim/cut.py") 741)],#[]⟩)::
 (nat_lit 429,kD (top 51) "best_for" "kinnames.together" 668 428)::
 (nat_lit 435,kC "_law_cell" 745 746 747 249 2 0 0 3 430 true 181 431 432 433 434 750 249 751)::
 (nat_lit 436,kD (top 53) "_law_cell" "law_kinnames_k91_whole_ledgers" 743 435)::
 (nat_lit 442,kC "_law_drawn" 753 754 755 253 3 0 0 3 437 true 181 438 439 440 441 760 253 761)::
 (nat_lit 443,kD (top 54) "_law_drawn" "law_kinnames_k91_whole_ledgers" 743 442)::
 (nat_lit 447,⟨(.type "code"),none,.fields #[(.str (.ofString "_law_name") 763),(.str (.ofString "_law_name") 764),(.str (.ofString "/claim/cut.py") 765),(.int (257) 0),(.int (3) 0),(.int (0) 0),(.int (0) 0),(.int (3) 0),(.ref 444),(.bool true),(.int (181) 0),(.ref 445),.none,.none,.none,(.ref 446),(.int (766) 0),(.int (257) 0),(.str (.ofString "/claim/cut.py") 767)],#[]⟩)::
 (nat_lit 448,kD (top 55) "_law_name" "law_kinnames_k91_whole_ledgers" 743 447)::
 (nat_lit 454,kC "_law_book" 769 770 771 261 4 0 0 3 449 true 181 450 451 452 453 778 261 779)::
 (nat_lit 455,kD (top 56) "_law_book" "law_kinnames_k91_whole_ledgers" 743 454)::
 (nat_lit 461,kC "_law_step" 781 782 783 266 3 0 0 3 456 true 181 457 458 459 460 790 266 791)::
 (nat_lit 462,kD (top 57) "_law_step" "law_kinnames_k91_whole_ledgers" 743 461)::
 (nat_lit 466,⟨(.type "code"),none,.fields #[(.str (.ofString "law") 793),(.str (.ofString "law") 794),(.str (.ofString "/claim/cut.py") 795),(.int (278) 0),(.int (1) 0),(.int (0) 0),(.int (0) 0),(.int (3) 0),(.ref 463),(.bool true),(.int (181) 0),(.ref 464),.none,.none,.none,(.ref 465),(.int (796) 0),(.int (278) 0),(.str (.ofString "/claim/cut.py") 797)],#[]⟩)::
 (nat_lit 467,kD (top 58) "law" "law_kinnames_k91_whole_ledgers" 743 466)::[]
def kas:List ai:=[2,3,20,21,30,31,32,43,44,55,56,67,68,79,80,86,87,91,92,98,99,105,106,112,113,119,120,126,127,133,134,140,141,145,146,152,153,154,155,161,162,168,169,175,176,182,183,189,190,196,197,201,202,208,209,215,216,222,223,236,237,243,244,250,251,257,258,264,265,271,272,274,275,276,277,292,293,299,300,306,307,313,314,320,321,327,328,334,335,341,342,346,347,351,352,356,357,363,364,366,367,373,374,378,379,385,386,392,393,399,400,404,405,411,412,416,417,423,424,428,429,435,436,442,443,447,448,454,455,461,462,466,467]
def kq:aB:=view aU [0,2,3,4,5,6,8,9,10,11,12,13,14,15,16,17,18,19,20,21,22,24,25,26,27,28,29,30,31,32,33,34,35,37,39,41,42,44,45,46,47,48,49,50,51,53,54,55,56,57,58]
def klo:List Str:=[]
theorem kas_e:∀P,kas=(kfr P).map (·.1):=fun _=>by kernel_rfl
noncomputable def hl0 (w:aL):=(openEndsT treeTable aU w 6676).map (fun s=>(seen ((recsOf kq).map (·.name)) (ownsOf kq) [] {s with gens:=#[]},s.heap.bltView,(s.heap.keysOk (looseW kq klo) ((recsOf kq).map (·.name)) ((litsOf kq).map (·.1)) ((clssOf kq (looseW kq klo)).map (·.name))&&s.heap.accountedOkI (importedModules aU.main.body)&&s.heap.isNs mainGlobals&&s.heap.isNs builtinsNs&&tablesOk kq s.heap&& (xlAt kq [] s&&recOk [] s)&& (if true=true then s.gens.size==0 else !leftWithCleanup s.gens))))
noncomputable def hr0 (w:aL):=some (expectedOf kq,bltViewBooted,true)
theorem hl0_e:hl0=hl0:=rfl
theorem hr0_e:hr0=hr0:=rfl
noncomputable def hl1 (w:aL):=(openEndsT treeTable aU w 6676).map (fun s=>(tabsOk kq s,pinSeenD kq (drecsOf kq) s,plainSeenE kq (looseW kq klo) s,plainSeenD kq klo s,wideSeen kq s,clsSeenW kq klo s))
noncomputable def hr1 (w:aL):=some (true,pinGoodD (drecsOf kq),plainGoodE kq (looseW kq klo),plainGoodD kq klo,wideGood kq,clsGoodW kq klo)
theorem hl1_e:hl1=hl1:=rfl
theorem hr1_e:hr1=hr1:=rfl
noncomputable def hl2 (w:aL):=(openEndsT treeTable aU w 6676).map (fun s=>(kas.map s.heap.get?))
noncomputable def hr2 (w:aL):=some ((kfr w.params).map fun p=>some p.2)
theorem hl2_e:hl2=hl2:=rfl
theorem hr2_e:hr2=hr2:=rfl
end Kn
name_quick hl0Q for Kn.hl0 by Kn.hl0_e
name_quick hr0Q for Kn.hr0 by Kn.hr0_e
theorem Kn.hq0 (w:aL):PySem.W.Fast.hl0Q w=PySem.W.Fast.hr0Q w:=by kernel_rfl
theorem Kn.hx0 (w:aL):Kn.hl0 w=Kn.hr0 w:=((congrFun PySem.W.Fast.hl0Q_eq w).trans (Kn.hq0 w)).trans (congrFun PySem.W.Fast.hr0Q_eq w).symm
name_quick hl1Q for Kn.hl1 by Kn.hl1_e
name_quick hr1Q for Kn.hr1 by Kn.hr1_e
theorem Kn.hq1 (w:aL):PySem.W.Fast.hl1Q w=PySem.W.Fast.hr1Q w:=by kernel_rfl
theorem Kn.hx1 (w:aL):Kn.hl1 w=Kn.hr1 w:=((congrFun PySem.W.Fast.hl1Q_eq w).trans (Kn.hq1 w)).trans (congrFun PySem.W.Fast.hr1Q_eq w).symm
name_quick hl2Q for Kn.hl2 by Kn.hl2_e
name_quick hr2Q for Kn.hr2 by Kn.hr2_e
theorem Kn.hq2 (w:aL):PySem.W.Fast.hl2Q w=PySem.W.Fast.hr2Q w:=by kernel_rfl
theorem Kn.hx2 (w:aL):Kn.hl2 w=Kn.hr2 w:=((congrFun PySem.W.Fast.hl2Q_eq w).trans (Kn.hq2 w)).trans (congrFun PySem.W.Fast.hr2Q_eq w).symm
theorem Kn.hl:LeftO aU Kn.kq Kn.klo (fun s=>xlAt Kn.kq [] s&&recOk [] s) (Hook.obs (kHook Kn.kfr Kn.kas Kn.kas_e)) (Hook.val (kHook Kn.kfr Kn.kas Kn.kas_e)) 6676:=fun w=>by
 refine Kn.openMap_of ?_
 obtain⟨s,e,x0⟩:=fm.mp (Kn.hx0 w)
 have y1:=Kn.hx1 w
 unfold Kn.hl1 at y1
 rw[e]at y1
 have x1:=au y1
 have y2:=Kn.hx2 w
 unfold Kn.hl2 at y2
 rw[e]at y2
 have x2:=au y2
 obtain⟨a1,z0_0⟩:=cx x0
 obtain⟨a2,z0_1⟩:=cx z0_0
 have a3:=z0_1
 obtain⟨a4,z1_0⟩:=cx x1
 obtain⟨a5,z1_1⟩:=cx z1_0
 obtain⟨a6,z1_2⟩:=cx z1_1
 obtain⟨a7,z1_3⟩:=cx z1_2
 obtain⟨a8,z1_4⟩:=cx z1_3
 have a9:=z1_4
 have aK:=x2
 rw[e]
 exact congrArg some (eJ (eJ a1 (eJ a2 (eJ a3 (eJ a4 (eJ a5 (eJ a6 (eJ a7 (eJ a8 a9)))))))) aK)
end
section
namespace L2
open PySem PySem.Spec PyProof.Rows
abbrev zU:=Sum Int Str
def jU:zU->ae->Bool
 | .inl k,v=>ql k v
 | .inr x,v=>cD x v
def zIX (w:aL):zU->Int
 | .inl k=>hashInt k
 | .inr x=>hashStr w x
theorem qD:∀{k:zU}{v:ae},jU k v=true->(∃i t,k=Sum.inl i/\v=Value.int i t)\/(∃x t,k=Sum.inr x/\v=Value.str x t)
 | .inl i,v,h=>by
  obtain⟨t,e⟩:=Value.isInt_shape (k:=i) (v:=v) h
  exact .inl ⟨i,t,rfl,e⟩
 | .inr x,v,h=>by
  obtain⟨t,e⟩:=dm (x:=x) (v:=v) h
  exact .inr ⟨x,t,rfl,e⟩
theorem zIY (i:Int)(t:Tok):jU (.inl i) (.int i t)=true:=by simp[jU,ql]
theorem zIZ (x:Str)(t:Tok):jU (.inr x) (.str x t)=true:=by simp[jU,cD]
theorem zIa (a b:Int):decide ((Sum.inl a:zU)=Sum.inl b)=(a==b):=by
 by_cases e:a=b
 ·subst e;simp
 ·have h:¬(Sum.inl a:zU)=Sum.inl b:=fun q=>e (nW q)
  rw[decide_eq_false h]
  exact(beq_eq_false_iff_ne.mpr e).symm
theorem zIb (a b:Str):decide ((Sum.inr a:zU)=Sum.inr b)=decide (a=b):=by
 by_cases e:a=b
 ·subst e;simp
 ·have h:¬(Sum.inr a:zU)=Sum.inr b:=fun q=>e (iK q)
  rw[decide_eq_false h,decide_eq_false e]
theorem zIc (a:Int)(b:Str):decide ((Sum.inl a:zU)=Sum.inr b)=false:=decide_eq_false (fun q=>nomatch q)
theorem zId (a:Str)(b:Int):decide ((Sum.inr a:zU)=Sum.inl b)=false:=decide_eq_false (fun q=>nomatch q)
def uJ (prog:aB)(w:aL):pD prog w zU where
 is:=jU
 hash:=zIX w
 inj:=fun v a b ha hb=>by
  rcases qD ha with⟨i,t,rfl,rfl⟩|⟨x,t,rfl,rfl⟩
  ·rcases qD hb with⟨j,u,rfl,e⟩|⟨y,u,rfl,e⟩
   ·injection e with e1 _;rw[e1]
   ·exact nomatch e
  ·rcases qD hb with⟨j,u,rfl,e⟩|⟨y,u,rfl,e⟩
   ·exact nomatch e
   ·injection e with e1 _;rw[e1]
 byValue:=fun k v h=>by
  rcases qD h with⟨i,t,rfl,rfl⟩|⟨x,t,rfl,rfl⟩<;>rfl
 pyHash:=fun hv h=>by
  rcases qD hv with⟨i,t,rfl,rfl⟩|⟨x,t,rfl,rfl⟩
  ·exact wpAny_pyHash_int h
  ·exact nH h
 eqBool:=fun hu hv h=>by
  rcases qD hu with⟨i,t,rfl,rfl⟩|⟨x,t,rfl,rfl⟩
  ·rcases qD hv with⟨j,u,rfl,rfl⟩|⟨y,u,rfl,rfl⟩
   ·rw[zIa]at h;exact wpAny_eqBool_int h
   ·rw[zIc]at h;exact mm i t y u _ _ _ _ h
  ·rcases qD hv with⟨j,u,rfl,rfl⟩|⟨y,u,rfl,rfl⟩
   ·rw[zId]at h;exact mq x t j u _ _ _ _ h
   ·rw[zIb]at h;exact nI h
 «strs»:=fun k x t v h=>by
  rcases qD h with⟨i,u,rfl,e⟩|⟨y,u,rfl,e⟩
  ·exact nomatch e
  ·injection e with e1 _
   subst e1
   cases v<;>rfl
abbrev zW:=Sum Str Bool
def zEj:zW->ae->Bool
 | .inl x,v=>cD x v
 | .inr b,v=>v==Value.bool b
theorem jV:∀{k:zW}{v:ae},zEj k v=true->(∃x t,k=Sum.inl x/\v=Value.str x t)\/(∃b,k=Sum.inr b/\v=Value.bool b)
 | .inl x,v,h=>by
  obtain⟨t,e⟩:=dm (x:=x) (v:=v) h
  exact .inl ⟨x,t,rfl,e⟩
 | .inr b,v,h=>.inr ⟨b,rfl,eq_of_beq h⟩
def tkH (w:aL):zW->Int
 | .inl x=>hashStr w x
 | .inr b=>reduceHash (if b then 1 else 0)
theorem zIe {prog:aB}{w:aL}{A:bJ}{E:ae->ak->Prop}{s:ak}{b:Bool}{Q:Int->ak->Prop}(h:Q (reduceHash (if b then 1 else 0)) {s with toks:=s.toks+1}) :
  wpAny (model prog w) A (pyHash (.bool b)) Q E s:=by
 refine PySem.W.pyHash_slot (T :="bool") rfl F.slot_bool_hash F.entry_int_hash (F.args_int_hash_1 _) (by decide) (.inl (by cases b<;>rfl)) ?_
 unfold cc.«int.__hash__»
 cases b
 ·wp_walk
  exact⟨_,_,rfl,h⟩
 ·wp_walk
  exact⟨_,_,rfl,h⟩
def jA (prog:aB)(w:aL):pD prog w zW where
 is:=zEj
 hash:=tkH w
 inj:=fun v a b ha hb=>by
  rcases jV ha with⟨x,t,rfl,rfl⟩|⟨c,rfl,rfl⟩
  ·rcases jV hb with⟨y,u,rfl,e⟩|⟨d,rfl,e⟩
   ·injection e with e1 _;rw[e1]
   ·exact nomatch e
  ·rcases jV hb with⟨y,u,rfl,e⟩|⟨d,rfl,e⟩
   ·exact nomatch e
   ·injection e with e1;rw[e1]
 byValue:=fun k v h=>by
  rcases jV h with⟨x,t,rfl,rfl⟩|⟨c,rfl,rfl⟩<;>rfl
 pyHash:=fun hv h=>by
  rcases jV hv with⟨x,t,rfl,rfl⟩|⟨c,rfl,rfl⟩
  ·exact nH h
  ·exact zIe h
 eqBool:=fun hu hv h=>by
  rcases jV hu with⟨x,t,rfl,rfl⟩|⟨c,rfl,rfl⟩
  ·rcases jV hv with⟨y,u,rfl,rfl⟩|⟨d,rfl,rfl⟩
   ·have e:decide ((Sum.inl x:zW)=Sum.inl y)=decide (x=y):=by
     by_cases q:x=y
     ·subst q;simp
     ·rw[decide_eq_false q,decide_eq_false fun z=>q (nW z)]
    rw[e]at h;exact nI h
   ·rw[decide_eq_false (fun q=>nomatch q)]at h;exact lO x t d _ _ _ _ h
  ·rcases jV hv with⟨y,u,rfl,rfl⟩|⟨d,rfl,rfl⟩
   ·rw[decide_eq_false (fun q=>nomatch q)]at h;exact lP c y u _ _ _ _ h
   ·refine lx c d _ _ _ _ ?_
    have e:decide ((Sum.inr c:zW)=Sum.inr d)=(c==d):=by cases c<;>cases d<;>rfl
    rw[<-e];exact h
 «strs»:=fun k x t v h=>by
  rcases jV h with⟨y,u,rfl,e⟩|⟨d,rfl,e⟩
  ·injection e with e1 _
   subst e1
   cases v<;>rfl
  ·exact nomatch e
theorem zIf (prog:aB)(w:aL)(k:zU)(v:ae):(uJ prog w).is k v=jU k v:=rfl
theorem zIg (prog:aB)(w:aL)(i:Int)(t:Tok):(uJ prog w).is (.inl i) (.int i t)=true:=zIY i t
theorem zIh (prog:aB)(w:aL)(x:Str)(t:Tok):(uJ prog w).is (.inr x) (.str x t)=true:=zIZ x t
inductive V where
 |non|bl (b:Bool)|int (i:Int)|str (x:Str)|byt (b:Array UInt8)|flt (b:UInt64)|ref (a:ai)|ty (n:String)
 deriving DecidableEq
def zP:V->ae->Prop
 | .non,u=>u=Value.none
 | .bl b,u=>u=Value.bool b
 | .int i,u=>∃t,u=Value.int i t
 | .str x,u=>∃t,u=Value.str x t
 | .byt b,u=>∃t,u=Value.bytes b t
 | .flt b,u=>∃t,u=Value.float b t
 | .ref a,u=>u=Value.ref a
 | .ty n,u=>u=Value.type n
abbrev zK:List V->List ae->Prop:=mr zP
theorem zK.length {xs:List V}{us:List ae}(r:zK xs us):xs.length=us.length:=eE r
theorem zK.get:∀{xs:List V}{us:List ae}{i:Nat}{x:V},zK xs us->xs[i]?=some x->∃u,us[i]?=some u/\zP x u
 |_,_,_,_,.nil,e=>by simp at e
 |_,_,0,_,.cons r _,e=>by simp at e;subst e;exact⟨_,rfl,r⟩
 |_,_,i+1,x,.cons _ t,e=>by
  obtain⟨u,a,b⟩:=zK.get (i:=i) (x:=x) t (by simpa using e)
  exact⟨u,by simpa using a,b⟩
theorem zK.set {x:V}{u:ae}(r:zP x u):∀{xs:List V}{us:List ae} (i:Nat),zK xs us->zK (xs.set i x) (us.set i u)
 |_,_,_,.nil=>.nil
 |_,_,0,.cons _ t=>.cons r t
 |_,_,i+1,.cons q t=>.cons q (zK.set r i t)
theorem zK.append:∀{xs ys:List V}{us a:List ae},zK xs us->zK ys a->zK (xs++ys) (us++a)
 |_,_,_,_,.nil,s=>s
 |_,_,_,_,.cons r t,s=>.cons r (zK.append t s)
theorem zK.take:∀{xs:List V}{us:List ae} (n:Nat),zK xs us->zK (xs.take n) (us.take n)
 |_,_,0,_=>.nil
 |_,_,_+1,.nil=>.nil
 |_,_,n+1,.cons r t=>.cons r (zK.take n t)
theorem zK.drop:∀{xs:List V}{us:List ae} (n:Nat),zK xs us->zK (xs.drop n) (us.drop n)
 |_,_,0,r=>r
 |_,_,_+1,.nil=>.nil
 |_,_,n+1,.cons _ t=>zK.drop n t
def vR:Option V->Option ae->Prop
 |some v,some u=>zP v u
 |none,none=>True
 |_,_=>False
def KV {κ:Type}:List (κ×V)->List (κ×ae)->Prop:=mr fun(p:κ×V) (q:κ×ae)=>p.1=q.1/\zP p.2 q.2
def kV:zU->V
 | .inl i=>.int i
 | .inr x=>.str x
def vV:zW->V
 | .inl x=>.str x
 | .inr b=>.bl b
inductive HO where
 |lst (xs:List V)
 |tup (xs:List V)
 |dK (kvs:List (zU×V))|dT (kvs:List (List zW×V))
 |set (S:Int->Bool) (n:Nat)
 |ins (C dx:ai) (fs:List (Str×V))
 |own (x:ai)
 |xd (fs:List (Str×V))
 |met (f x:ai)
 |rng (lo hi:Int)
 |frz (o:Obj) (u:HO)
 |tbl (ps:Array ae)
 |ext (φ:ba->Prop)
abbrev Hp:=ai->Option HO
def upd (H:Hp)(a:ai)(o:HO):Hp:=fun b=>if b=a then some o else H b
theorem zI {H:Hp}{a:ai}{o:HO}:upd H a o a=some o:=by unfold upd;rw[if_pos rfl]
theorem zF {H:Hp}{a b:ai}{o:HO}(h:b≠a):upd H a o b=H b:=by unfold upd;rw[if_neg h]
theorem uT {H:Hp}{a b:ai}{o u:HO}(h:H a=some o)(h':H b=some u)(d:o≠u):a≠b:=by
 intro e;subst e;rw[h]at h';exact d (au h')
theorem vK {H:Hp}{a b:ai}{o:HO}(h:H a=some o)(h':H b=none):a≠b:=by
 intro e;subst e;rw[h]at h';cases h'
section
variable(P:aB)(w:aL)
def yA (H:Hp)(h:ba)(a:ai):HO->Prop
 | .lst xs=>xs.length<=sizeLine/\∃(its:List ae) (n:Nat),zK xs its/\h.get? a=some {cls:=.type "list",data:=.seq its.toArray n}
 | .tup xs=>xs.length<=sizeLine/\∃its:List ae,zK xs its/\IsTup h a its.toArray
 | .dK kvs=>kvs.length<=sizeLine/\(a==sysModules)=false/\∃vs,KV kvs vs/\h.DictOf (uJ P w) a vs
 | .dT kvs=>kvs.length<=sizeLine/\(a==sysModules)=false/\∃xs:List (List zW×ai×ae),
   mr (fun(p:List zW×V) (q:List zW×ai×ae)=>p.1=q.1/\H q.2.1=some (.tup (p.1.map vV))/\zP p.2 q.2.2) kvs xs/\
   ∃o es ep,h.get? a=some o/\o.ExactDict/\o.data=.dict es ep/\es.toList=xs.map (entryOfKey (tupleKind (jA P w)))/\(xs.map (·.1)).Nodup
 | .set S n=>h.SetOf (intKind P w) a S n
 | .ins C dx fs=>H dx=some (.own a)/\fs.length<=1000/\dx≠a/\h.get? a=some (di C dx)/\
   ∃mA,h.Ns1 dx mA/\(∀f,vR (fs.lookup f) (mA f))/\mK mA (fs.map (·.1))
 | .own _=>∃o,h.get? a=some o
 | .xd fs=>∃mA,h.Ns1 a mA/\∀f,vR (fs.lookup f) (mA f)
 | .rng lo hi=>∃t u v,h.get? a=some {cls:=.type "range",data:=.fields #[.int lo t,.int hi u,.int 1 v]}
 | .frz o u=>h.get? a=some o/\yA H h a u
 | .tbl ps=>h.get? a=some {cls:=.none,data:=.fields ps}
 | .met f x=>h.get? a=some (iL (.ref f) (.ref x))
 | .ext φ=>φ h/\(∃o,h.get? a=some o)/\∀h1 h2:ba,φ h1->(∀o,h1.get? a=some o->h2.get? a=some o)->φ h2
def zV (H:Hp)(h:ba):Prop:=∀a o,H a=some o->yA P w H h a o
end
section
variable{P:aB}{w:aL}{H H':Hp}{h h':ba}{a:ai}{o:HO}
theorem yA.lt (x:yA P w H h a o):a<h.objs.size:=by
 cases o with
 |lst xs=>obtain⟨_,_,_,_,e⟩:=x;exact aC e
 |tup xs=>obtain⟨_,_,_,p⟩:=x;exact p.lt
 |dK kvs=>obtain⟨_,_,_,_,o,_,_,e,_⟩:=x;exact aC e
 |dT kvs=>obtain⟨_,_,_,_,o,_,_,e,_⟩:=x;exact aC e
 |set S n=>obtain⟨o,_,_,_,e,_⟩:=x;exact aC e
 |ins C b fs=>obtain⟨_,_,_,e,_⟩:=x;exact aC e
 |own y=>obtain⟨_,e⟩:=x;exact aC e
 |xd fs=>obtain⟨_,⟨_,_,_,e,_⟩,_⟩:=x;exact aC e
 |rng lo hi=>obtain⟨_,_,_,e⟩:=x;exact aC e
 |frz ob u=>obtain⟨e,_⟩:=x;exact aC e
 |tbl c=>exact aC (show h.get? a=some _ from x)
 |met f y=>exact aC (show h.get? a=some _ from x)
 |ext φ=>obtain⟨_,⟨_,e⟩,_⟩:=x;exact aC e
theorem Paired.mapP {α β:Type}{F G:α->β->Prop}:∀{c:List α}{d:List β},mr F c d->(∀a b,F a b->G a b)->mr G c d
 |_,_,.nil,_=>.nil
 |_,_,.cons r t,f=>.cons (f _ _ r) (Paired.mapP t f)
theorem yA.stay (x:yA P w H h a o)(k:∀b u,(b=a\/H b=some (.own a))->h.get? b=some u->h'.get? b=some u)
  (m:∀b,H b=some (.own a)->H' b=some (.own a)) (s:∀b xs,H b=some (.tup xs)->H' b=some (.tup xs)):yA P w H' h' a o:=by
 induction o with
 |lst xs=>obtain⟨z,i,n,r,e⟩:=x;exact⟨z,i,n,r,k _ _ (.inl rfl) e⟩
 |tup xs=>obtain⟨z,i,r,ob,e,c⟩:=x;exact⟨z,i,r,ob,k _ _ (.inl rfl) e,c⟩
 |dK kvs=>obtain⟨z,y,vs,r,ob,g,ep,e,c⟩:=x;exact⟨z,y,vs,r,ob,g,ep,k _ _ (.inl rfl) e,c⟩
 |dT kvs=>
  obtain⟨z,y,xs,r,ob,g,ep,e,c⟩:=x
  exact⟨z,y,xs,Paired.mapP r fun p q z=>⟨z.1,s _ _ z.2.1,z.2.2⟩,ob,g,ep,k _ _ (.inl rfl) e,c⟩
 |set S n=>obtain⟨ob,g,ep,t,e,c⟩:=x;exact⟨ob,g,ep,t,k _ _ (.inl rfl) e,c⟩
 |ins C B fs=>
  obtain⟨d,z,ne,e,j,⟨od,g,ep,A,c⟩,r⟩:=x
  exact⟨m _ d,z,ne,k _ _ (.inl rfl) e,j,⟨od,g,ep,k _ _ (.inr d) A,c⟩,r⟩
 |own y=>obtain⟨ob,e⟩:=x;exact⟨ob,k _ _ (.inl rfl) e⟩
 |xd fs=>obtain⟨j,⟨od,g,ep,e,c⟩,r⟩:=x;exact⟨j,⟨od,g,ep,k _ _ (.inl rfl) e,c⟩,r⟩
 |rng lo hi=>obtain⟨t,u,v,e⟩:=x;exact⟨t,u,v,k _ _ (.inl rfl) e⟩
 |frz ob u ih=>obtain⟨e,q⟩:=x;exact⟨k _ _ (.inl rfl) e,ih q⟩
 |tbl l=>
  have e:h.get? a=some {cls:=.none,data:=.fields l}:=x
  show h'.get? a=some {cls:=.none,data:=.fields l}
  exact k a _ (.inl rfl) e
 |met f y=>
  have e:h.get? a=some (iL (.ref f) (.ref y)):=x
  show h'.get? a=some (iL (.ref f) (.ref y))
  exact k a _ (.inl rfl) e
 |ext φ=>obtain⟨p,⟨o,e⟩,st⟩:=x;exact⟨st _ _ p fun o q=>k _ _ (.inl rfl) q,⟨o,k _ _ (.inl rfl) e⟩,st⟩
theorem zV.lt (x:zV P w H h)(e:H a=some o):a<h.objs.size:=(x a o e).lt
theorem zV.fresh (x:zV P w H h)(e:h.objs.size<=a):H a=none:=by
 cases q:H a with
 |none=>rfl
 |some u=>exact absurd (bc (x.lt q) e) (bw _)
theorem zV.kept (x:zV P w H h)(k:∀b u,h.get? b=some u->h'.get? b=some u):zV P w H h':=fun a o e=>
 (x a o e).stay (fun b u _ q=>k b u q) (fun _ q=>q) fun _ _ q=>q
theorem zV.laid (x:zV P w H h)(k:∀b u,h.get? b=some u->h'.get? b=some u)(g:h.objs.size<=a)(new:yA P w (upd H a o) h' a o):zV P w (upd H a o) h':=fun b u e=>by
 have d:=x.fresh g
 by_cases f:b=a
 ·subst f;rw[zI]at e;cases e;exact new
 ·rw[zF f]at e
  exact(x b u e).stay (fun c v _ q=>k c v q) (fun c q=>by rw[zF (vK q d)];exact q) fun c xs q=>by rw[zF (vK q d)];exact q
end
def Rd (H:Hp)(a:ai)(u:HO):Prop:=H a=some u\/∃o,H a=some (.frz o u)
theorem Rd.ok {P:aB}{w:aL}{H:Hp}{h:ba}{a:ai}{u:HO}(r:Rd H a u)(x:zV P w H h):yA P w H h a u:=by
 rcases r with r|⟨o,r⟩
 ·exact x a u r
 ·obtain⟨_,q⟩:=x a _ r
  exact q
def Mut:Option HO->Prop
 |some (.lst _)=>True
 |some (.dK _)=>True
 |some (.dT _)=>True
 |some (.set _ _)=>True
 |some (.ins _ _ _)=>True
 |some (.ext _)=>True
 |_=>False
section
variable{P:aB}{w:aL}{H:Hp}{h h':ba}{x e:ai}{o':HO}
theorem zV.write (ok:zV P w H h)(g:Mut (H x))(he:e=x\/H e=some (.own x))(k:∀b u,b≠e->h.get? b=some u->h'.get? b=some u)(l:∃u,h'.get? e=some u)
  (new:yA P w (upd H x o') h' x o'):zV P w (upd H x o') h':=fun b u q=>by
 have d:∀c y,H c=some (.own y)->c≠x:=fun c y r z=>by subst z;rw[r]at g;exact g
 have f:∀c xs,H c=some (.tup xs)->c≠x:=fun c xs r z=>by subst z;rw[r]at g;exact g
 by_cases i:b=x
 ·subst i;rw[zI]at q;cases q;exact new
 ·rw[zF i]at q
  by_cases a:b=e
  ·have m:H b=some (.own x):=by
    rcases he with z|z
    ·exact absurd (a.trans z) i
    ·rw[a];exact z
   rw[q]at m;cases m
   obtain⟨v,n⟩:=l
   exact⟨v,by rw[a];exact n⟩
  ·refine(ok b u q).stay (fun c v j r=>k c v ?_ r) (fun c r=>by rw[zF (d c b r)];exact r) fun c xs r=>by rw[zF (f c xs r)];exact r
   rcases j with rfl|j
   ·exact a
   ·rintro rfl
    rcases he with z|z
    ·exact d c b j z
    ·rw[j]at z;cases z;exact i rfl
end
structure Un (fs ex:List ai) (H H':Hp) (h h':ba):Prop where
 keep:∀b o,h.get? b=some o->H b=none->b∉fs->b∉ex->h'.get? b=some o
 slot:∀b o,h.get? b=some o->H b=none->b∈fs->b∉ex->∃sl,h'.get? b=some {o with slots:=sl}
 free:∀b o,h.get? b=some o->H b=none->b∉ex->H' b=none
 there:∀b o,h.get? b=some o->b∉ex->∃o',h'.get? b=some o'
 tups:∀b xs,H b=some (.tup xs)->H' b=some (.tup xs)
 frzs:∀b o u,H b=some (.frz o u)->H' b=some (.frz o u)
 tbls:∀b ps,H b=some (.tbl ps)->∃more,H' b=some (.tbl (ps++more))
section
variable{fs fs' ex ex':List ai}{H H1 H2:Hp}{h h1 h2 h':ba}{a x e:ai}{o:HO}
theorem Un.any (u:Un fs ex H H1 h h1){b:ai}{ob:Obj}(q:h.get? b=some ob)(n:H b=none)(c:b∉ex):∃f,h1.get? b=some {ob with slots:=f}:=by
 by_cases d:b∈fs
 ·exact u.slot b ob q n d c
 ·exact⟨ob.slots,u.keep b ob q n d c⟩
theorem Un.kept (k:∀b u,h.get? b=some u->h'.get? b=some u):Un fs ex H H h h' :=
 ⟨fun b ob q _ _ _=>k b ob q,fun b ob q _ _ _=>⟨ob.slots,k b ob q⟩,fun _ _ _ n _=>n,fun b ob q _=>⟨ob,k b ob q⟩,fun _ _ q=>q,fun _ _ _ q=>q,fun _ c q=>⟨#[],by rw[q];simp⟩⟩
theorem Un.refl:Un fs ex H H h h:=Un.kept fun _ _ q=>q
theorem Un.laid (k:∀b u,h.get? b=some u->h'.get? b=some u)(d:h.objs.size<=a)(c:H a=none):Un fs ex H (upd H a o) h h' where
 keep:=fun b u q _ _ _=>k b u q
 slot:=fun b u q _ _ _=>⟨u.slots,k b u q⟩
 free:=fun b u q n _=>by rw[zF (aM (bc (aC q) d))];exact n
 there:=fun b u q _=>⟨u,k b u q⟩
 tups:=fun b xs q=>by rw[zF (vK q c)];exact q
 frzs:=fun b u xs q=>by rw[zF (vK q c)];exact q
 tbls:=fun b f q=>⟨#[],by rw[zF (vK q c),q];simp⟩
theorem Un.write (d:Mut (H x))(he:e=x\/H e=some (.own x))(k:∀b u,b≠e->h.get? b=some u->h'.get? b=some u)(f:∃u,h'.get? e=some u):Un fs ex H (upd H x o) h h':=by
 have i:∀b,H b=none->b≠x:=fun b n z=>by subst z;rw[n]at d;exact d
 have j:∀b,H b=none->b≠e:=fun b n z=>by
  subst z
  rcases he with r|r
  ·exact i b n r
  ·rw[n]at r;cases r
 have g:∀b u,H b=some u->¬Mut (some u)->b≠x:=fun b u q nm z=>by subst z;rw[q]at d;exact nm d
 refine⟨fun b u q n _ _=>k b u (j b n) q,fun b u q n _ _=>⟨u.slots,k b u (j b n) q⟩,fun b u q n _=>by rw[zF (i b n)];exact n,fun b u q _=>?_,
  fun b xs q=>by rw[zF (g b _ q fun z=>z)];exact q,fun b u xs q=>by rw[zF (g b _ q fun z=>z)];exact q,fun b l q=>⟨#[],by rw[zF (g b _ q fun z=>z),q];simp⟩⟩
 by_cases c:b=e
 ·subst c;exact f
 ·exact⟨u,k b u c q⟩
end
def trk (h:ba)(H:Hp):List ai:=(bP h.objs.size).filter fun a=>(H a).isSome
def jW (h:ba)(H:Hp):ba:=eX h (trk h H)
theorem zIi (h:ba)(H:Hp):(jW h H).objs.size=h.objs.size:=PySem.W.hideAll_size _ _
theorem zIj {h:ba}{H:Hp}{b:ai}{o:Obj}(e:h.get? b=some o)(n:H b=none):(jW h H).get? b=some o :=
 eS _ e fun a=>by
  have q:(H b).isSome=true:=(bH.mp a).2
  rw[n]at q;simp at q
theorem zIk {h:ba}{H:Hp}{b:ai}{o:Obj}(e:(jW h H).get? b=some o):h.get? b=some o/\H b=none:=by
 have a:h.get? b=some o:=ie (trk h H) e
 refine⟨a,?_⟩
 cases q:H b with
 |none=>rfl
 |some x=>
  have c:b∈trk h H:=bH.mpr ⟨cU.mpr (aC a),by simp[q]⟩
  have z:(jW h H).get? b=none:=PySem.W.hideAll_none (trk h H) c
  rw[z]at e;cases e
def zIl (g h:ba)(L:ai):List (ai×Obj):=(bP h.objs.size).filterMap fun a=>if a=L\/(g.get? a).isSome=true then none else(h.get? a).map fun o=>(a,o)
def uK (g h:ba)(L d:ai):List (ai×Obj):=(zIl g h L).filter fun p=>decide (p.1≠d)
structure Mod (K:aa) (mg:Str->Option ae) (base:ba):Prop where
 kin:K.In base
 glob:base.Ns mainGlobals mg
 blt:∃mb,base.Ns builtinsNs mb/\∀x:Str,x≠"__name__"->mb x=bootBuiltins x
 nolimit:base.NoLimit
structure Cx where
 prog:aB
 w:aL
 K:aa
 mg:Str->Option ae
 base:ba
 A:bJ
 N:List Str
 s₀:ak
 H₀:Hp
 env:Env
 outer:List Env
 stack:List Env
 ex:List ai
 fn:Str->Bool
 calm:Bool
 pn:List (ai×Obj)
 xe:ae->ak->Prop
def yV (l:List Env):List ai:=l.filterMap (·.frame)
abbrev Cx.fs (X:Cx):List ai:=yV X.outer
def Vis (sc:eA)(x:Str):Prop:=sc.names.lookup x=some .local\/sc.names.lookup x=some .cell\/sc.names.lookup x=some .free
def Loc (sc:eA)(x:Str):Prop:=sc.names.lookup x=some .local\/sc.names.lookup x=some .cell
def zIm (env:Env)(h:ba)(m:Str->Option ae)(x:Str)(u:ae):Prop :=
 (env.kindOf x=some .local/\m x=some u)\/((env.kindOf x=some .cell\/env.kindOf x=some .free)/\∃c,env.cells.lookup x=some c/\h.IsCell c (some u))
structure Cx.Ok (X:Cx):Prop where
 mod:Mod X.K X.mg X.base
 kind:X.env.scope.kind=.function
 glob:X.env.globals=mainGlobals
 blt:X.env.builtins=builtinsNs
 above:X.s₀.heap.objs.size<=X.env.locals
 inj:∀x y c,X.env.cells.lookup x=some c->X.env.cells.lookup y=some c->x=y
 has:∀x,(X.env.kindOf x=some .cell\/X.env.kindOf x=some .free)->∃c,X.env.cells.lookup x=some c
 cab:∀x c,X.fn x=true->X.env.cells.lookup x=some c->X.s₀.heap.objs.size<=c
 hd:X.calm=true->X.A.handled=none
 frames:X.A.frames=some X.stack
 stk:X.stack=X.outer\/(X.stack=X.env::X.outer/\X.env.frame=some X.env.locals)
 exf:∀b∈X.ex,b≠X.env.locals/\∀x c,X.env.cells.lookup x=some c->c≠b
 bs:∀b o,X.base.get? b=some o->X.s₀.heap.get? b=some o/\X.H₀ b=none
 bsz:X.base.objs.size<=X.s₀.heap.objs.size
 noex:∀b o,X.base.get? b=some o->b∉X.ex
 exfs:∀b∈X.ex,b∉X.fs
 funs:X.s₀.heap.FunFrames X.base X.outer
 frf:∀b∈X.fs,X.H₀ b=none
structure Inv (X:Cx) (pins:List (ai×Obj)) (σ:List (Option V)) (H:Hp) (s:ak):Prop where
 ok:X.Ok
 os:s.os=X.s₀.os
 bare:gy s.gens
 base:Un X.fs X.ex X.H₀ H X.s₀.heap s.heap
 loc:∃m,s.heap.Ns X.env.locals m/\∀(i:Nat) (x:Str) (v:V),X.N[i]?=some x->σ[i]?=some (some v)->Vis X.env.scope x->∃u,zP v u/\zIm X.env s.heap m x u
 cell:∀x c,X.env.cells.lookup x=some c->∃v,s.heap.IsCell c v
 free:H X.env.locals=none
 freeC:∀x c,X.env.cells.lookup x=some c->H c=none
 pin:∀p∈X.pn++pins,s.heap.get? p.1=some p.2/\H p.1=none/\p.1≠X.env.locals/\p.1∉X.fs/\∀v,p.2.data≠.cell v
 hok:zV X.prog X.w H s.heap
 len:σ.length=X.N.length
section
variable{X:Cx}{pins:List (ai×Obj)}{σ:List (Option V)}{H H':Hp}{s:ak}{h':ba}
theorem Cx.Ok.nofr (ok:X.Ok){b:ai}{o:Obj}(e:X.base.get? b=some o):b∉X.fs:=fun a=>by
 have:=(ok.funs.mem a).1
 rw[e]at this;cases this
theorem Inv.bs (I:Inv X pins σ H s):∀b o,X.base.get? b=some o->s.heap.get? b=some o/\H b=none:=fun b o e=>
 ⟨I.base.keep b o (I.ok.bs b o e).1 (I.ok.bs b o e).2 (I.ok.nofr e) (I.ok.noex b o e),I.base.free b o (I.ok.bs b o e).1 (I.ok.bs b o e).2 (I.ok.noex b o e)⟩
theorem Inv.bk (I:Inv X pins σ H s):∀b o,X.base.get? b=some o->s.heap.get? b=some o:=fun b o e=>(I.bs b o e).1
theorem Inv.mod (I:Inv X pins σ H s):Mod X.K X.mg X.base:=I.ok.mod
theorem Inv.kIn (I:Inv X pins σ H s):X.K.In s.heap:=I.ok.mod.kin.keeps I.bk
theorem Inv.nolimit (I:Inv X pins σ H s):s.heap.NoLimit:=I.ok.mod.nolimit.keeps I.bk
theorem Inv.lt (I:Inv X pins σ H s):X.env.locals<s.heap.objs.size:=let⟨_,a,_⟩:=I.loc;a.lt
theorem Inv.sz (I:Inv X pins σ H s):X.s₀.heap.objs.size<=s.heap.objs.size:=bZ I.ok.above (mL I.lt)
theorem Inv.nofs (I:Inv X pins σ H s){a:ai}(h:s.heap.objs.size<=a):a∉X.fs:=fun b=>by
 obtain⟨_,o,c,_⟩:=I.ok.funs.mem b
 exact absurd (bc (aC c) (bZ I.sz h)) (bw _)
theorem Inv.cne (I:Inv X pins σ H s):∀x c,X.env.cells.lookup x=some c->c≠X.env.locals:=fun x c e z=>by
 obtain⟨v,o,d,hd⟩:=I.cell x c e
 obtain⟨m,⟨f,g,ep,a,b,_⟩,_⟩:=I.loc
 rw[z,a]at d;cases d;rw[b]at hd;cases hd
theorem Inv.funs (I:Inv X pins σ H s):s.heap.FunFrames X.base X.outer:=by
 have all:∀(l:List Env),(∀b∈yV l,b∈X.fs)->X.s₀.heap.FunFrames X.base l->s.heap.FunFrames X.base l:=by
  intro l
  induction l with
  |nil=>intro _ _;trivial
  |cons env r ih=>
   intro f hl
   obtain⟨g,⟨L,o,a,h,i,hd⟩,j⟩:=hl
   have c:L∈X.fs:=f L (by unfold yV;rw[eT,a];exact aq)
   obtain⟨m,e⟩:=I.base.slot L o i (I.ok.frf L c) c fun z=>I.ok.exfs L z c
   exact⟨g,⟨L,_,a,h,e,hd⟩,ih (fun b d=>f b (by unfold yV;rw[eT,a];exact az _ d)) j⟩
 exact all X.outer (fun _ d=>d) I.ok.funs
theorem Inv.stack (I:Inv X pins σ H s):s.heap.FunFrames X.base X.stack:=by
 rcases I.ok.stk with e|⟨e,a⟩
 ·rw[e];exact I.funs
 ·rw[e]
  obtain⟨m,b,_⟩:=I.loc
  refine .cons (by rw[I.ok.kind];decide) a b ?_ I.funs
  exact Heap.get?_none_of_le (bZ I.ok.bsz I.ok.above)
theorem Inv.stkSub (I:Inv X pins σ H s):∀b∈yV X.stack,b∈X.env.locals::X.fs:=fun b a=>by
 rcases I.ok.stk with e|⟨e,c⟩
 ·rw[e]at a;exact az _ a
 ·rw[e]at a
  unfold yV at a
  rw[eT,c]at a
  exact a
theorem Inv.stkFree (I:Inv X pins σ H s):∀b∈yV X.stack,H b=none:=fun b a=>by
 rcases aD.mp (I.stkSub b a)with e|a
 ·rw[e];exact I.free
 ·obtain⟨_,o,c,_⟩:=I.ok.funs.mem a
  exact I.base.free b o c (I.ok.frf b a) fun z=>I.ok.exfs b z a
theorem Inv.step {g':Array oF}{t':Nat}{d':Drawn}{ch:List ai}(I:Inv X pins σ H s)
  (f:∀b∈ch,(b∈X.ex\/X.s₀.heap.objs.size<=b)/\b≠X.env.locals/\(∀x c,X.env.cells.lookup x=some c->c≠b)/\∀p∈X.pn++pins,p.1≠b)
  (keep:∀b o,b≠X.env.locals->b∉X.fs->b∉ch->s.heap.get? b=some o->H b=none->h'.get? b=some o)
  (slot:∀b o,b≠X.env.locals->b∈X.fs->b∉ch->s.heap.get? b=some o->H b=none->∃F,h'.get? b=some {o with slots:=F}) (free:∀b o,b∉ch->s.heap.get? b=some o->H b=none->H' b=none)
  (there:∀b o,b∉ch->s.heap.get? b=some o->∃B,h'.get? b=some B)
  (tups:∀b xs,H b=some (.tup xs)->H' b=some (.tup xs)) (frzs:∀b o u,H b=some (.frz o u)->H' b=some (.frz o u)) (tbls:∀b E,H b=some (.tbl E)->∃more,H' b=some (.tbl (E++more)))
  (ns:∀m,s.heap.Ns X.env.locals m->h'.Ns X.env.locals m) (hok:zV X.prog X.w H' h') (N:gy g') :
  Inv X pins σ H' {s with heap:=h',gens:=g',drawn:=d',toks:=t'}:=by
 have C:∀b o,X.s₀.heap.get? b=some o->b≠X.env.locals:=fun b o e=>aM (bc (aC e) I.ok.above)
 have j:∀b o,X.s₀.heap.get? b=some o->b∉X.ex->b∉ch:=fun b o e a y=>by
  rcases(f b y).1 with z|z
  ·exact a z
  ·exact absurd (bc (aC e) z) (bw _)
 have g:∀x c,X.env.cells.lookup x=some c->∀v,s.heap.IsCell c v->h'.IsCell c v:=fun x c e v zq=>by
  obtain⟨o,A,hd⟩:=zq
  have h:c∉ch:=fun z=>(f c z).2.2.1 x c e rfl
  by_cases J:c∈X.fs
  ·obtain⟨F,q⟩:=slot c o (I.cne x c e) J h A (I.freeC x c e)
   exact⟨_,q,hd⟩
  ·exact⟨o,keep c o (I.cne x c e) J h A (I.freeC x c e),hd⟩
 refine⟨I.ok,I.os,N,⟨fun b o e n y a=>?_,fun b o e n y a=>?_,fun b o e n a=>?_,fun b o e a=>?_,fun b xs e=>tups b xs (I.base.tups b xs e),fun b o xs e=>frzs b o xs (I.base.frzs b o xs e),fun b E e=>?_⟩,?_,fun x c e=>?_,?_,fun x c e=>?_,fun p L=>?_,hok,I.len⟩
 ·exact keep b o (C b o e) y (j b o e a) (I.base.keep b o e n y a) (I.base.free b o e n a)
 ·obtain⟨F,e1⟩:=I.base.slot b o e n y a
  obtain⟨G,D⟩:=slot b _ (C b o e) y (j b o e a) e1 (I.base.free b o e n a)
  exact⟨G,D⟩
 ·obtain⟨B,e1⟩:=I.base.there b o e a
  exact free b B (j b o e a) e1 (I.base.free b o e n a)
 ·obtain⟨B,e1⟩:=I.base.there b o e a
  exact there b B (j b o e a) e1
 ·obtain⟨m1,e1⟩:=I.base.tbls b E e
  obtain⟨m2,D⟩:=tbls b _ e1
  exact⟨m1++m2,by rw[D,mw]⟩
 ·obtain⟨m,O,hl⟩:=I.loc
  refine⟨m,ns m O,fun i x v e1 D P=>?_⟩
  obtain⟨u,r,l⟩:=hl i x v e1 D P
  refine⟨u,r,?_⟩
  rcases l with l|⟨k,c,e,z⟩
  ·exact .inl l
  ·exact .inr ⟨k,c,e,g x c e _ z⟩
 ·obtain⟨v,z⟩:=I.cell x c e
  exact⟨v,g x c e v z⟩
 ·obtain⟨m,⟨o,_,_,A,_⟩,_⟩:=I.loc
  exact free _ o (fun z=>(f _ z).2.1 rfl) A I.free
 ·obtain⟨v,o,A,hd⟩:=I.cell x c e
  exact free c o (fun z=>(f c z).2.2.1 x c e rfl) A (I.freeC x c e)
 ·obtain⟨e,n,ne,M,d⟩:=I.pin p L
  have h:p.1∉ch:=fun z=>(f p.1 z).2.2.2 p L rfl
  exact⟨keep p.1 p.2 ne M h e n,free p.1 p.2 h e n,ne,M,d⟩
theorem Inv.un {t':Nat}(I:Inv X pins σ H s)(u:Un X.fs [] H H' s.heap h')(hok:zV X.prog X.w H' h'):Inv X pins σ H' {s with heap:=h',toks:=t'}:=by
 obtain⟨m,⟨o,j,ep,f,r⟩,_⟩:=id I.loc
 obtain⟨l,g⟩:=u.any f I.free (by simp)
 exact I.step (g':=s.gens) (d':=s.drawn) (ch:=[]) (fun _ z=>nomatch z) (fun b o _ c _ e n=>u.keep b o e n c (by simp)) (fun b o _ c _ e n=>u.slot b o e n c (by simp)) (fun b o _ e n=>u.free b o e n (by simp)) (fun b o _ e=>u.there b o e (by simp)) u.tups u.frzs u.tbls (fun p h=>by
  obtain⟨q,es',d,a,i⟩:=h
  rw[f]at a;cases a
  exact⟨_,es',d,g,i⟩) hok I.bare
theorem Inv.call {g':Array oF}{t':Nat}{d':Drawn}{ch:List ai}(I:Inv X pins σ H s)(u:Un (yV X.stack) ch H H' s.heap h')(hok:zV X.prog X.w H' h')(j:gy g')
  (d:∀b∈ch,(b∈X.ex\/X.s₀.heap.objs.size<=b)/\b≠X.env.locals/\(∀x c,X.env.cells.lookup x=some c->c≠b)/\∀p∈X.pn++pins,p.1≠b) :
  Inv X pins σ H' {s with heap:=h',gens:=g',drawn:=d',toks:=t'}:=by
 obtain⟨m,⟨o,y,ep,i,r⟩,_⟩:=id I.loc
 obtain⟨A,g⟩:=u.any i I.free fun z=>(d _ z).2.1 rfl
 exact I.step (ch:=ch) d (fun b o g l a e n=>u.keep b o e n (fun z=>(aD.mp (I.stkSub b z)).elim g l) a) (fun b o _ _ a e n=>u.any e n a) (fun b o a e n=>u.free b o e n a) (fun b o a e=>u.there b o e a) u.tups u.frzs u.tbls (fun B q=>by
  obtain⟨C,es',h,f,v⟩:=q
  rw[i]at f;cases f
  exact⟨_,es',h,g,v⟩) hok j
theorem Inv.turned {t':Nat}{it:ai}(I:Inv X pins σ H s)(k:∀b o,b≠it->s.heap.get? b=some o->h'.get? b=some o)(g:H it=none)(f:it≠X.env.locals)
  (h:it∈X.ex\/X.s₀.heap.objs.size<=it) (i:∀x c,X.env.cells.lookup x=some c->c≠it) (j:∀p∈X.pn++pins,p.1≠it):Inv X pins σ H {s with heap:=h',toks:=t'}:=by
 have d:∀b u,H b=some u->b≠it:=fun b u e z=>by rw[z,g]at e;cases e
 refine I.step (g':=s.gens) (d':=s.drawn) (ch:=[it]) (fun b l=>?_) (fun b o _ _ a e _=>k b o (fun z=>a (by simp[z])) e) (fun b o _ _ a e _=>⟨o.slots,k b o (fun z=>a (by simp[z])) e⟩) (fun _ _ _ _ n=>n)
  (fun b o a e=>⟨o,k b o (fun z=>a (by simp[z])) e⟩) (fun _ _ e=>e) (fun _ _ _ e=>e) (fun b B e=>⟨#[],by rw[e];simp⟩) (fun m w=>?_) (fun b u e=>?_) I.bare
 ·have e:b=it:=by simpa using l
  subst e
  exact⟨h,f,i,j⟩
 ·obtain⟨o,y,ep,A,r⟩:=w
  exact⟨o,y,ep,k _ o (dC f) A,r⟩
 ·refine(I.hok b u e).stay (fun c v a q=>k c v ?_ q) (fun _ q=>q) fun _ _ q=>q
  rcases a with z|z
  ·rw[z];exact d b u e
  ·exact d c _ z
theorem Inv.tok (I:Inv X pins σ H s)(t:Nat):Inv X pins σ H {s with toks:=t}:=I.un (h':=s.heap) (t':=t) Un.refl I.hok
theorem Inv.kept {t':Nat}(I:Inv X pins σ H s)(k:∀b u,s.heap.get? b=some u->h'.get? b=some u):Inv X pins σ H {s with heap:=h',toks:=t'}:=I.un (Un.kept k) (I.hok.kept k)
theorem Inv.laid {a:ai}{o:HO}{t':Nat}(I:Inv X pins σ H s)(k:∀b u,s.heap.get? b=some u->h'.get? b=some u)(c:s.heap.objs.size<=a)(new:yA X.prog X.w (upd H a o) h' a o) :
  Inv X pins σ (upd H a o) {s with heap:=h',toks:=t'}:=I.un (Un.laid k c (I.hok.fresh c)) (I.hok.laid k c new)
theorem Inv.write {x e:ai}{o:HO}{t':Nat}(I:Inv X pins σ H s)(c:Mut (H x))(he:e=x\/H e=some (.own x))(k:∀b u,b≠e->s.heap.get? b=some u->h'.get? b=some u)(a:∃u,h'.get? e=some u)
  (new:yA X.prog X.w (upd H x o) h' x o):Inv X pins σ (upd H x o) {s with heap:=h',toks:=t'}:=I.un (Un.write c he k a) (I.hok.write c he k a new)
theorem Inv.pins_of {pins':List (ai×Obj)}(I:Inv X pins σ H s)(h:∀p∈pins',s.heap.get? p.1=some p.2/\H p.1=none/\p.1≠X.env.locals/\p.1∉X.fs/\∀v,p.2.data≠.cell v):Inv X pins' σ H s :=
 ⟨I.ok,I.os,I.bare,I.base,I.loc,I.cell,I.free,I.freeC,fun p a=>(bj.mp a).elim (fun z=>I.pin p (bC _ z)) (h p),I.hok,I.len⟩
theorem zEk {N:List Str}(c:N.Nodup){i j:Nat}{x:Str}(a:N[i]?=some x)(b:N[j]?=some x):i=j:=by
 obtain⟨e,e1⟩:=af.mp a
 obtain⟨f,d⟩:=af.mp b
 exact(fV c).mp (e1.trans d.symm)
theorem zIn {M:qm}{A:bJ}{E:ae->ak->Prop}{i:Nat}{x:Str}{v:V}{u:ae}{Q:Unit->ak->Prop}(I:Inv X pins σ H s)(hN:X.N.Nodup)(hi:X.N[i]?=some x)(B:Loc X.env.scope x)(r:zP v u)
  (h:∀s',Inv X pins (σ.set i (some v)) H s'->(∃a,eN a s.heap s'.heap/\(a=X.env.locals\/X.env.cells.lookup x=some a))->Q () s') (hf:X.fn x=true\/X.env.scope.names.lookup x=some .local:=by first|exact .inl rfl|exact .inr rfl|assumption):wpAny M A (storeName X.env x u) Q E s:=by
 obtain⟨m,hn,hl⟩:=id I.loc
 have O:(X.env.scope.kind== .class||(X.env.scope.kind== .module&&X.env.locals !=X.env.globals))=false:=by rw[I.ok.kind];rfl
 have P:i<σ.length:=by rw[I.len];exact(af.mp hi).1
 have cne:=I.cne
 have g:∀{a:ai} {h':ba},(∃o,s.heap.get? a=some o/\H a=none)->eN a s.heap h'->zV X.prog X.w H h':=fun{a h'} ha f b ob e=>by
  obtain⟨_,_,C⟩:=ha
  refine(I.hok b ob e).stay (fun c Y l q=>(f.2 c ?_).trans q) (fun _ q=>q) fun _ _ q=>q
  rintro rfl
  rcases l with rfl|l
  ·rw[C]at e;cases e
  ·rw[C]at l;cases l
 rcases B with F|F
 ·refine wpAny_storeName_local F hn (fun h' ab f=>?_) O
  obtain⟨oL,_,_,ac,_⟩:=id hn
  refine h _ ⟨I.ok,I.os,I.bare,⟨fun b o e n G B=>?_,fun b o e n G B=>?_,I.base.free,fun b o e B=>?_,I.base.tups,I.base.frzs,I.base.tbls⟩,⟨_,ab,fun j y v' e1 D e3=>?_⟩,fun y c e=>?_,I.free,I.freeC,fun p hp=>?_,g ⟨oL,ac,I.free⟩ f,by simpa using I.len⟩ ⟨_,f,.inl rfl⟩
  ·exact(f.2 b (aM (bc (aC e) I.ok.above))).trans (I.base.keep b o e n G B)
  ·obtain⟨sl,e1⟩:=I.base.slot b o e n G B
   exact⟨sl,(f.2 b (aM (bc (aC e) I.ok.above))).trans e1⟩
  ·obtain⟨o',e1⟩:=I.base.there b o e B
   exact⟨o',(f.2 b (aM (bc (aC e) I.ok.above))).trans e1⟩
  ·by_cases J:j=i
   ·subst J
    rw[hi]at e1;cases e1
    rw[jj P]at D
    cases D
    exact⟨u,r,.inl ⟨F,by simp⟩⟩
   ·rw[ly (dC J)]at D
    obtain⟨u',r',q⟩:=hl j y v' e1 D e3
    refine⟨u',r',?_⟩
    rcases q with⟨k,e⟩|⟨k,c,e,z⟩
    ·refine .inl ⟨k,?_⟩
     have:y≠x:=fun e=>J (zEk hN e1 (e▸hi))
     simp[this,e]
    ·exact .inr ⟨k,c,e,z.sameBut f (cne y c e)⟩
  ·obtain⟨Y,z⟩:=I.cell y c e
   exact⟨Y,z.sameBut f (cne y c e)⟩
  ·obtain⟨e,n,ne,nf,d⟩:=I.pin p hp
   exact⟨(f.2 p.1 ne).trans e,n,ne,nf,d⟩
 ·have L:X.fn x=true:=by
   rcases hf with z|z
   ·exact z
   ·rw[z]at F;cases F
  obtain⟨c,l⟩:=I.ok.has x (.inl F)
  obtain⟨Y,z⟩:=I.cell x c l
  refine wpAny_storeName_cell I.ok.kind F l z (fun h' R f=>?_)
  obtain⟨oc,T,U⟩:=id z
  refine h {s with heap:=h'} ⟨I.ok,I.os,I.bare,⟨fun b o e n G B=>?_,fun b o e n G B=>?_,I.base.free,fun b o e B=>?_,I.base.tups,I.base.frzs,I.base.tbls⟩,⟨m,hn.sameBut f (dC (cne x c l)),fun j y v' e1 D e3=>?_⟩,fun y Z e=>?_,I.free,I.freeC,fun p hp=>?_,g ⟨oc,T,I.freeC x c l⟩ f,by simpa using I.len⟩ ⟨c,f,.inr l⟩
  ·exact(f.2 b (aM (bc (aC e) (I.ok.cab x c L l)))).trans (I.base.keep b o e n G B)
  ·obtain⟨sl,e1⟩:=I.base.slot b o e n G B
   exact⟨sl,(f.2 b (aM (bc (aC e) (I.ok.cab x c L l)))).trans e1⟩
  ·obtain⟨o',e1⟩:=I.base.there b o e B
   exact⟨o',(f.2 b (aM (bc (aC e) (I.ok.cab x c L l)))).trans e1⟩
  ·by_cases J:j=i
   ·subst J
    rw[hi]at e1;cases e1
    rw[jj P]at D
    cases D
    exact⟨u,r,.inr ⟨.inl F,c,l,R⟩⟩
   ·rw[ly (dC J)]at D
    obtain⟨u',r',q⟩:=hl j y v' e1 D e3
    refine⟨u',r',?_⟩
    rcases q with q|⟨k,Z,e,z'⟩
    ·exact .inl q
    ·refine .inr ⟨k,Z,e,z'.sameBut f ?_⟩
     rintro rfl
     exact J (zEk hN e1 (I.ok.inj _ _ _ e l▸hi))
  ·by_cases W:Z=c
   ·subst W;exact⟨_,R⟩
   ·obtain⟨w2,z2⟩:=I.cell y Z e
    exact⟨w2,z2.sameBut f W⟩
  ·obtain⟨e,n,ne,nf,d⟩:=I.pin p hp
   refine⟨(f.2 p.1 ?_).trans e,n,ne,nf,d⟩
   intro q
   rw[q,T]at e
   have q':oc=p.2:=au e
   exact d Y (by rw[<-q'];exact U)
theorem zCA {M:qm}{A:bJ}{E:ae->ak->Prop}{i:Nat}{x:Str}{v:V}{u:ae}{Q:Unit->ak->Prop}(I:Inv X pins σ H s)(a:X.N.Nodup)(hi:X.N[i]?=some x)(b:Loc X.env.scope x)(r:zP v u)
  (h:∀s',Inv X pins (σ.set i (some v)) H s'->Q () s') (c:X.fn x=true\/X.env.scope.names.lookup x=some .local:=by first|exact .inl rfl|exact .inr rfl|assumption):wpAny M A (storeName X.env x u) Q E s :=
 zIn I a hi b r (fun s' d _=>h s' d) c
theorem Inv.call' {s':ak}{ch:List ai}(I:Inv X pins σ H s)(d:s'.os=s.os)(u:Un (yV X.stack) ch H H' s.heap s'.heap)(hok:zV X.prog X.w H' s'.heap)(f:gy s'.gens)
  (a:∀b∈ch,(b∈X.ex\/X.s₀.heap.objs.size<=b)/\b≠X.env.locals/\(∀x c,X.env.cells.lookup x=some c->c≠b)/\∀p∈X.pn++pins,p.1≠b):Inv X pins σ H' s':=by
 obtain⟨h',g',d',t',g⟩:=s'
 have e:g=s.os:=d
 subst e
 exact I.call (g':=g') (t':=t') (d':=d') u hok f a
end
abbrev XK:=ae->Option ai->Hp->Prop
abbrev St:=List (Option V)
abbrev VK:=V->Hp->Prop
abbrev TE:=St->Hp->VK->Prop
abbrev TT:=St->Hp->(Bool->Hp->Prop)->Prop
abbrev TA:=St->Hp->(List V->Hp->Prop)->Prop
structure Ends where
 nx:St->Hp->Prop
 rt:VK
 bk:St->Hp->Prop:=fun _ _=>False
 ct:St->Hp->Prop:=fun _ _=>False
abbrev TS:=Ends->St->Hp->Prop
def EP (X:Cx)(pins:List (ai×Obj))(σ:St)(Q:VK)(u:ae)(s':ak):Prop:=∃v H',Inv X pins σ H' s'/\zP v u/\Q v H'
def TP (X:Cx)(pins:List (ai×Obj))(σ:St)(Q:Bool->Hp->Prop)(b:Bool)(s':ak):Prop:=∃H',Inv X pins σ H' s'/\Q b H'
def AP (X:Cx)(pins:List (ai×Obj))(σ:St)(Q:List V->Hp->Prop)(us:List ae)(s':ak):Prop:=∃vs H',Inv X pins σ H' s'/\zK vs us/\Q vs H'
def SP (X:Cx)(pins:List (ai×Obj))(D:Ends)(f:Flow)(s':ak):Prop :=
 match f with
 | .next=>∃σ' H',Inv X pins σ' H' s'/\D.nx σ' H'
 | .brk=>∃σ' H',Inv X pins σ' H' s'/\D.bk σ' H'
 | .cont=>∃σ' H',Inv X pins σ' H' s'/\D.ct σ' H'
 | .ret u=>∃v σ' H',Inv X pins σ' H' s'/\zP v u/\D.rt v H'
def PE (X:Cx)(e:bD)(t:TE):Prop :=
 ∀(pins:List (ai×Obj)) (s:ak) (σ:St) (H:Hp) (Q:VK),Inv X pins σ H s->t σ H Q->wpAny (model X.prog X.w) X.A (eval e X.env) (EP X pins σ Q) X.xe s
def PT (X:Cx)(e:bD)(t:TT):Prop :=
 ∀(pins:List (ai×Obj)) (s:ak) (σ:St) (H:Hp) (Q:Bool->Hp->Prop),Inv X pins σ H s->t σ H Q->wpAny (model X.prog X.w) X.A (isTrue e X.env (eval e X.env)) (TP X pins σ Q) X.xe s
def PW (X:Cx)(e:bD)(t:TT):Prop :=
 ∀(whole:Sem ae) (pins:List (ai×Obj)) (s:ak) (σ:St) (H:Hp) (Q:Bool->Hp->Prop),Inv X pins σ H s->t σ H Q->wpAny (model X.prog X.w) X.A (isTrue e X.env whole) (TP X pins σ Q) X.xe s
theorem PW.pt {X:Cx}{e:bD}{t:TT}(h:PW X e t):PT X e t:=h _
def PA (X:Cx)(es:List bD)(t:TA):Prop :=
 ∀(pos:Pos) (pins:List (ai×Obj)) (s:ak) (σ:St) (H:Hp) (Q:List V->Hp->Prop),Inv X pins σ H s->t σ H Q->wpAny (model X.prog X.w) X.A (spliced (backTo pos (starEach es X.env))) (AP X pins σ Q) X.xe s
def PS (X:Cx)(st:bY)(t:TS):Prop :=
 ∀(pins:List (ai×Obj)) (s:ak) (σ:St) (H:Hp) (D:Ends),Inv X pins σ H s->t D σ H->wpAny (model X.prog X.w) X.A (exec st X.env) (SP X pins D) X.xe s
def uU (X:Cx)(st:List bY)(t:TS):Prop :=
 ∀(pins:List (ai×Obj)) (s:ak) (σ:St) (H:Hp) (D:Ends),Inv X pins σ H s->t D σ H->wpAny (model X.prog X.w) X.A (execs st X.env) (SP X pins D) X.xe s
theorem zG {α:Type}{t:Sem α}{Q b:α->ak->Prop}{M:qm}{A:bJ}{E:ae->ak->Prop}{s:ak}(h:wpAny M A t Q E s)(c:∀a s,Q a s->b a s):wpAny M A t b E s:=b8 h c fun _ _ x=>x
section
variable{X:Cx}
def qQ (i:Nat):TE:=fun σ H Q=>∃v,σ[i]?=some (some v)/\Q v H
def tC (v:V):TE:=fun _ H Q=>Q v H
theorem zIo {i:Nat}{x:Str}{pos:Pos}(j:X.N[i]?=some x)(n:Vis X.env.scope x)(hd:(x==("__debug__" : Str))=false:=by decide)(f:(x==("__classdict__" : Str))=false:=by decide):PE X (.Name x pos) (qQ i):=by
 intro d s σ H Q I h
 obtain⟨v,e,h⟩:=h
 obtain⟨m,o,hl⟩:=I.loc
 obtain⟨u,r,l⟩:=hl i x v j e n
 have fin:EP X d σ Q u s:=⟨v,H,I,r,h⟩
 rcases l with⟨b,p⟩|⟨b,c,g,a⟩
 ·exact oG (wpAny_loadName_local I.ok.kind b o p fin) hd
 ·rcases b with b|b
  ·exact oG (wpAny_loadName_cell I.ok.kind b g a fin) hd
  ·exact oG (wpAny_loadName_free I.ok.kind b g a fin f) hd
theorem zO {i j pos}:PE X (.Constant (.int i) j pos) (tC (.int i)):=fun _ _ _ H _ I h=>wpAny_Constant_int ⟨.int i,H,I.tok _,⟨_,rfl⟩,h⟩
theorem uV {b j pos}:PE X (.Constant (.bool b) j pos) (tC (.bl b)):=fun _ _ _ H _ I h=>Constant_bool ⟨.bl b,H,I,rfl,h⟩
theorem kP {j pos}:PE X (.Constant .none j pos) (tC .non):=fun _ _ _ H _ I h=>pE ⟨.non,H,I,rfl,h⟩
theorem vW {x j pos}:PE X (.Constant (.str x) j pos) (tC (.str x)):=fun _ _ _ H _ I h=>Calls.Constant_str ⟨.str x,H,I.tok _,⟨_,rfl⟩,h⟩
def Gl (X:Cx)(x:Str):Prop:=X.env.kindOf x=some .globalImplicit
theorem zAt {E:ae->ak->Prop}{a:List (ai×Obj)}{s:ak}{σ:St}{H:Hp}{x:Str}{u:ae}{pos:Pos}{Q:ae->ak->Prop}(I:Inv X a σ H s)(b:Gl X x)(c:X.mg x=some u)(h:Q u s)
  (hd:(x==("__debug__" : Str))=false:=by decide):wpAny (model X.prog X.w) X.A (eval (.Name x pos) X.env) Q E s :=
 ig I.ok.kind b (Calls.loadGlobal_global (by rw[I.ok.glob];exact I.mod.glob.keeps I.bk) c h) hd
theorem kA {E:ae->ak->Prop}{a:List (ai×Obj)}{s:ak}{σ:St}{H:Hp}{x:Str}{u:ae}{pos:Pos}{Q:ae->ak->Prop}(I:Inv X a σ H s)(b:Gl X x)(c:X.mg x=none)(d:bootBuiltins x=some u)(h:Q u s)
  (e:x≠"__name__" :=by decide) (hd:(x==("__debug__" : Str))=false:=by decide):wpAny (model X.prog X.w) X.A (eval (.Name x pos) X.env) Q E s:=by
 obtain⟨i,f,g⟩:=I.mod.blt
 exact ig I.ok.kind b (Calls.loadGlobal_builtin (by rw[I.ok.glob];exact I.mod.glob.keeps I.bk) c (by rw[I.ok.blt];exact f.keeps I.bk) ((g x e).trans d) h) hd
theorem uL {x:Str}{v:V}{u:ae}{pos:Pos}(a:Gl X x)(b:X.mg x=some u)(r:zP v u)(hd:(x==("__debug__" : Str))=false:=by decide):PE X (.Name x pos) (tC v) :=
 fun _ _ _ H _ I h=>zAt I a b ⟨v,H,I,r,h⟩ hd
theorem jB {x:Str}{v:V}{u:ae}{pos:Pos}(a:Gl X x)(b:X.mg x=none)(c:bootBuiltins x=some u)(r:zP v u)(d:x≠"__name__" :=by decide)(hd:(x==("__debug__" : Str))=false:=by decide):PE X (.Name x pos) (tC v) :=
 fun _ _ _ H _ I h=>kA I a b c ⟨v,H,I,r,h⟩ d hd
variable{a b:bD}{ta tb:TE}{pos:Pos}
def PC (X:Cx)(op:nX)(a b:bD)(t:TE):Prop :=
 ∀(pins:List (ai×Obj)) (s:ak) (σ:St) (H:Hp) (Q:VK),Inv X pins σ H s->t σ H Q->
  wpAny (model X.prog X.w) X.A (eval a X.env) (fun v s₁=>wpAny (model X.prog X.w) X.A (eval b X.env) (fun u s₂=>wpAny (model X.prog X.w) X.A (compareOp op v u) (EP X pins σ Q) X.xe s₂) X.xe s₁) X.xe s
theorem zEl (b:bD){op:nX}(h:op≠.In)(c:op≠.NotIn):behindInMarks op b=false:=by
 have e1:(op==CmpOp.In)=false:=by cases op<;>first|rfl|exact absurd rfl h
 have d:(op==CmpOp.NotIn)=false:=by cases op<;>first|rfl|exact absurd rfl c
 cases b<;>simp[behindInMarks,e1,d]
def zIp (ta:TE):TE:=fun σ H Q=>ta σ H fun x H1=>Q (.bl (decide (x=.non))) H1
theorem zP.none_iff {x:V}{v:ae}(r:zP x v):(v==Value.none)=decide (x=.non):=by
 cases x with
 |non=>cases r;rfl
 |bl _=>cases r;rfl
 |int _=>obtain⟨t,rfl⟩:=r;rfl
 |str _=>obtain⟨t,rfl⟩:=r;rfl
 |byt _=>obtain⟨t,rfl⟩:=r;rfl
 |flt _=>obtain⟨t,rfl⟩:=r;rfl
 |ref _=>cases r;rfl
 |ty _=>cases r;rfl
theorem zIq {j c}(e:PE X a ta):PC X .Is a (.Constant .none j c) (zIp ta):=by
 intro d s σ H Q I h
 refine zG (e d s σ H _ I h) fun v m zq=>?_
 obtain⟨x,f,g,i,l⟩:=zq
 exact pE (is_none_gen ⟨.bl _,f,g,by rw[i.none_iff];rfl,l⟩)
def tB (t:TE):TT:=fun σ H Q=>t σ H fun x H1=>∃c,x=.bl c/\Q c H1
theorem zAO {op:nX}{t:TE}(h:PC X op a b t)(d:behindInMarks op b=false:=by first|exact zEl _ (by decide) (by decide)|rfl):PE X (.Compare a [op] [b] pos) t:=fun c s σ H Q I e=>oH (h c s σ H Q I e) d
theorem zEm {op:nX}{t:TE}(h:PC X op a b t)(f:behindInMarks op b=false:=by first|exact zEl _ (by decide) (by decide)|rfl):PT X (.Compare a [op] [b] pos) (tB t):=by
 intro e s σ H Q I g
 refine km (zG (h e s σ H _ I g) fun v o f=>zG f fun u p i=>zG i fun c r zq=>?_) f
 obtain⟨x,j,l,m,n⟩:=zq
 obtain⟨d,rfl,q⟩:=n
 cases m
 exact cy ⟨j,l,q⟩
theorem vC {e:bD}{t:TE}(h:PE X e t)(he:∀whole,isTrue e X.env whole=(do let v<-whole;standAt e.pos;holding [v] (truthy v)):=by intro _;rfl):PT X e (tB t):=by
 intro c s σ H Q I f
 refine isTrue_plain (zG (h c s σ H _ I f) fun v m zq=>?_) (he _)
 obtain⟨x,g,i,j,l⟩:=zq
 obtain⟨d,rfl,q⟩:=l
 cases j
 exact cy ⟨g,i,q⟩
variable{tA tB':TT}{uK:List bD}
def zIr (t u:TT):TT:=fun σ H Q=>t σ H fun c H1=>if c=true then u σ H1 Q else Q false H1
def tOr (t u:TT):TT:=fun σ H Q=>t σ H fun c H1=>if c=true then Q true H1 else u σ H1 Q
def zIs (t:TT):TT:=fun σ H Q=>t σ H fun c H1=>Q (!c) H1
theorem zCB (f:PT X a tA):PW X (.BoolOp .And [a] pos) tA:=by
 intro g d s σ H Q I h
 refine isTrue_and (zG (f d s σ H Q I h) fun c i e=>?_)
 cases c with
 |true=>exact isTrue_and_nil e
 |false=>exact e
theorem kB (f:PT X a tA):PW X (.BoolOp .Or [a] pos) tA:=by
 intro g d s σ H Q I h
 refine isTrue_or (zG (f d s σ H Q I h) fun c i e=>?_)
 cases c with
 |false=>exact isTrue_or_nil e
 |true=>exact e
theorem zCC (i:PT X a tA)(j:PW X (.BoolOp .And (b::uK) pos) tB'):PW X (.BoolOp .And (a::b::uK) pos) (zIr tA tB'):=by
 intro l d s σ H Q I h
 refine isTrue_and (zG (i d s σ H _ I h) fun c m zq=>?_)
 obtain⟨e,f,g⟩:=zq
 cases c with
 |true=>exact j l d m σ e Q f g
 |false=>exact⟨e,f,g⟩
theorem kG (i:PT X a tA)(j:PW X (.BoolOp .Or (b::uK) pos) tB'):PW X (.BoolOp .Or (a::b::uK) pos) (tOr tA tB'):=by
 intro l d s σ H Q I h
 refine isTrue_or (zG (i d s σ H _ I h) fun c m zq=>?_)
 obtain⟨e,f,g⟩:=zq
 cases c with
 |true=>exact⟨e,f,g⟩
 |false=>exact j l d m σ e Q f g
theorem vL (e:PT X a tA):PT X (.UnaryOp .Not a pos) (zIs tA):=by
 intro d s σ H Q I h
 exact isTrue_not (e d s σ H (fun c f=>Q (!c) f) I h)
def zIt (ta tb:TE):TE:=fun σ H Q=>ta σ H fun x H1=>∃c,x=.bl c/\if c=true then tb σ H1 Q else Q (.bl false) H1
def zIu (ta:TE):TE:=fun σ H Q=>ta σ H fun x H1=>∃c,x=.bl c/\Q (.bl (!c)) H1
theorem zCD {op}{t:TE}(h:PE X a t):PE X (.BoolOp op [a] pos) t:=fun c s σ H Q I d=>BoolOp_one (h c s σ H Q I d)
theorem zCE (i:PE X a ta)(j:PE X (.BoolOp .And (b::uK) pos) tb):PE X (.BoolOp .And (a::b::uK) pos) (zIt ta tb):=by
 intro d s σ H Q I h
 refine BoolOp_and (zG (i d s σ H _ I h) fun v l zq=>?_)
 obtain⟨x,f,g,m,e⟩:=zq
 obtain⟨c,rfl,e⟩:=e
 cases m
 refine cy ?_
 cases c with
 |true=>exact j d l σ f Q g e
 |false=>exact⟨.bl false,f,g,rfl,e⟩
theorem zIv (f:PE X a ta):PE X (.UnaryOp .Not a pos) (zIu ta):=by
 intro d s σ H Q I h
 refine UnaryOp_ (zG (f d s σ H _ I h) fun v l zq=>?_)
 obtain⟨x,g,i,j,e⟩:=zq
 obtain⟨c,rfl,e⟩:=e
 cases j
 exact not_of (cy ⟨.bl (!c),g,i,rfl,e⟩)
def tIf (t:TT)(ta tb:TE):TE:=fun σ H Q=>t σ H fun c H1=>if c=true then ta σ H1 Q else tb σ H1 Q
theorem zEn {c:bD}(l:PT X c tA)(m:PE X a ta)(n:PE X b tb):PE X (.IfExp c a b pos) (tIf tA ta tb):=by
 intro e s σ H Q I h
 refine wpAny_IfExp (zG (l e s σ H _ I h) fun d f zq=>?_)
 obtain⟨g,i,j⟩:=zq
 cases d with
 |true=>exact m e f σ g Q i j
 |false=>exact n e f σ g Q i j
end
def z7 (K:aa)(H:Hp)(a:ai)(xs:List V):Prop :=
 Rd H a (.lst xs)\/
  ∃(o:Obj) (its:Array ae) (n:Nat),K.lookup a=some o/\o.cls=.type "list"/\o.dict=none/\o.data=.seq its n/\its.size<=sizeLine/\zK xs its.toList
def yH (K:aa)(H:Hp)(a:ai)(xs:List V):Prop :=
 Rd H a (.tup xs)\/
  ∃(o:Obj) (its:Array ae) (n:Nat),K.lookup a=some o/\o.cls=.type "tuple"/\o.data=.seq its n/\its.size<=sizeLine/\zK xs its.toList
def zIw:ae->Option V
 | .none=>some .non
 | .bool b=>some (.bl b)
 | .int i _=>some (.int i)
 | .str x _=>some (.str x)
 | .bytes b _=>some (.byt b)
 | .float b _=>some (.flt b)
 | .ref a=>some (.ref a)
 | .type n=>some (.ty n)
 |_=>none
theorem zP.abs {x:V}{u:ae}(r:zP x u):zIw u=some x:=by
 cases x with
 |non=>cases r;rfl
 |bl _=>cases r;rfl
 |int _=>obtain⟨t,rfl⟩:=r;rfl
 |str _=>obtain⟨t,rfl⟩:=r;rfl
 |byt _=>obtain⟨t,rfl⟩:=r;rfl
 |flt _=>obtain⟨t,rfl⟩:=r;rfl
 |ref _=>cases r;rfl
 |ty _=>cases r;rfl
theorem zP.inj {x y:V}{u:ae}(r:zP x u)(q:zP y u):x=y:=au (r.abs.symm.trans q.abs)
theorem zK.inj:∀{xs ys:List V}{us:List ae},zK xs us->zK ys us->xs=ys
 |_,_,_,.nil,.nil=>rfl
 |_,_,_,.cons r t,.cons a t'=>by rw[r.inj a,zK.inj t t']
section
variable{X:Cx}{pins:List (ai×Obj)}{σ:St}{H:Hp}{s:ak}{a:ai}{xs ys:List V}
theorem z7.of {K:aa}(h:H a=some (.lst xs)):z7 K H a xs:=.inl (.inl h)
theorem yH.of {K:aa}(h:H a=some (.tup xs)):yH K H a xs:=.inl (.inl h)
theorem Inv.list (I:Inv X pins σ H s)(h:z7 X.K H a xs):∃b:List ae,zK xs b/\PlainL s.heap a b.toArray/\xs.length<=sizeLine:=by
 rcases h with h|⟨o,b,n,c,d,hd,f,hz,r⟩
 ·obtain⟨z,b,n,r,e⟩:=h.ok I.hok
  exact⟨b,r,⟨_,n,e,rfl,rfl,rfl⟩,z⟩
 ·refine⟨b.toList,r,⟨o,n,I.kIn a o c,d,hd,by simpa using f⟩,?_⟩
  have e:=r.length
  simp only[aZ]at e
  omega
theorem Inv.tuple (I:Inv X pins σ H s)(h:yH X.K H a xs):∃b:List ae,zK xs b/\IsTup s.heap a b.toArray/\xs.length<=sizeLine:=by
 rcases h with h|⟨o,b,n,c,d,f,hz,r⟩
 ·obtain⟨z,b,r,p⟩:=h.ok I.hok
  exact⟨b,r,p,z⟩
 ·refine⟨b.toList,r,⟨o,I.kIn a o c,d,n,by simpa using f⟩,?_⟩
  have e:=r.length
  simp only[aZ]at e
  omega
theorem Inv.list_inj (I:Inv X pins σ H s)(h:z7 X.K H a xs)(h':z7 X.K H a ys):xs=ys:=by
 obtain⟨b,r,⟨o,n,e,_,_,d⟩,_⟩:=I.list h
 obtain⟨its',f,⟨g,i,c,_,_,d'⟩,_⟩:=I.list h'
 rw[e]at c;cases c
 rw[d]at d'
 injection d' with d1 _
 have:b=its':=by simpa using congrArg p9 d1
 subst this
 exact r.inj f
theorem Inv.tuple_inj (I:Inv X pins σ H s)(h:yH X.K H a xs)(h':yH X.K H a ys):xs=ys:=by
 obtain⟨b,r,⟨o,e,_,n,d⟩,_⟩:=I.tuple h
 obtain⟨its',f,⟨g,c,_,i,d'⟩,_⟩:=I.tuple h'
 rw[e]at c;cases c
 rw[d]at d'
 injection d' with d1 _
 have:b=its':=by simpa using congrArg p9 d1
 subst this
 exact r.inj f
end
abbrev Cx.wish (X:Cx)(E:ae->ak->Prop):Cx:={X with xe:=E}
abbrev Cx.nox (X:Cx):Cx:=X.wish fun _ _=>False
theorem Cx.Ok.wish {X:Cx}(ok:X.Ok)(E:ae->ak->Prop):(X.wish E).Ok :=
 ⟨ok.mod,ok.kind,ok.glob,ok.blt,ok.above,ok.inj,ok.has,ok.cab,ok.hd,ok.frames,ok.stk,ok.exf,ok.bs,ok.bsz,ok.noex,ok.exfs,ok.funs,ok.frf⟩
theorem Cx.Ok.unwish {X:Cx}{E:ae->ak->Prop}(ok:(X.wish E).Ok):X.Ok :=
 ⟨ok.mod,ok.kind,ok.glob,ok.blt,ok.above,ok.inj,ok.has,ok.cab,ok.hd,ok.frames,ok.stk,ok.exf,ok.bs,ok.bsz,ok.noex,ok.exfs,ok.funs,ok.frf⟩
section
variable{X:Cx}{pins:List (ai×Obj)}{σ:St}{H:Hp}{s:ak}{E:ae->ak->Prop}
theorem Inv.wish (I:Inv X pins σ H s)(E:ae->ak->Prop):Inv (X.wish E) pins σ H s:=⟨I.ok.wish E,I.os,I.bare,I.base,I.loc,I.cell,I.free,I.freeC,I.pin,I.hok,I.len⟩
theorem Inv.unwish (I:Inv (X.wish E) pins σ H s):Inv X pins σ H s:=⟨I.ok.unwish,I.os,I.bare,I.base,I.loc,I.cell,I.free,I.freeC,I.pin,I.hok,I.len⟩
theorem SP.unwish {D:Ends}{f:Flow}{s':ak}(h:SP (X.wish E) pins D f s'):SP X pins D f s':=by
 cases f with
 |next=>obtain⟨a,H',I,q⟩:=h;exact⟨a,H',I.unwish,q⟩
 |brk=>obtain⟨a,H',I,q⟩:=h;exact⟨a,H',I.unwish,q⟩
 |cont=>obtain⟨a,H',I,q⟩:=h;exact⟨a,H',I.unwish,q⟩
 |ret u=>obtain⟨v,a,H',I,r,q⟩:=h;exact⟨v,a,H',I.unwish,r,q⟩
theorem uU.nox {st:List bY}{t:TS}(h:uU X.nox st t):uU X st t:=fun pins s σ H D I a=>
 b8 (h pins s σ H D (I.wish _) a) (fun _ _ q=>q.unwish) fun _ _ z=>dj z
end
section
variable{X:Cx}{st:bY}{uK:List bY}{t u:TS}{e:bD}{te:TE}{pos:Pos}
def zIx:TS:=fun D σ H=>D.nx σ H
def zCF (t u:TS):TS:=fun D σ H=>t {D with nx:=u D} σ H
theorem yQ:uU X [] zIx:=fun _ _ σ H _ I h=>gp ⟨σ,H,I,h⟩
theorem zH (b:PS X st t)(c:uU X uK u):uU X (st::uK) (zCF t u):=by
 intro a s σ H D I h
 refine nJ (zG (b a s σ H {D with nx:=u D} I h) fun f d q=>?_)
 cases f with
 |next=>
  obtain⟨g,H',i,q⟩:=q
  exact c a d g H' D i q
 |ret v=>exact q
 |brk=>exact q
 |cont=>exact q
theorem zJ (b:PS X st t):uU X [st] t:=by
 intro a s σ H D I h
 refine nJ (zG (b a s σ H D I h) fun f c q=>?_)
 cases f with
 |next=>exact gp q
 |ret v=>exact q
 |brk=>exact q
 |cont=>exact q
theorem Inv.quiet {a:List (ai×Obj)}{σ:St}{H:Hp}{s:ak}(I:Inv X a σ H s):interactive X.env=false:=by simp[interactive,I.ok.kind]
def zIy (te:TE):TS:=fun D σ H=>te σ H fun _ H1=>D.nx σ H1
theorem yB (he:PE X e te)(b:swapsWith e none pos.line X.env=pure false:=by rfl):PS X (.Expr e pos) (zIy te):=by
 intro a s σ H D I h
 exact wpAny_Expr_any (zG (he a s σ H _ I h) fun v g ⟨x,c,d,i,f⟩=>⟨σ,c,d,f⟩) I.quiet b
def zIz (te:TE):TS:=fun D σ H=>te σ H D.rt
theorem zS (he:PE X e te):PS X (.Return (some e) pos) (zIz te):=by
 intro a s σ H D I h
 exact wpAny_Return_some (zG (he a s σ H _ I h) fun v g ⟨x,b,c,d,f⟩=>⟨x,σ,b,c,d,f⟩)
def zJA (c:TT)(t u:TS):TS:=fun D σ H=>c σ H fun b H1=>if b=true then t D σ H1 else u D σ H1
theorem yR {c:bD}{a b:List bY}{g:TT}(n:PT X c g)(o:uU X a t)(p:uU X b u):PS X (.If c a b pos) (zJA g t u):=by
 intro f s σ H D I h
 refine wpAny_If (zG (n f s σ H _ I h) fun d i zq=>?_)
 obtain⟨j,l,m⟩:=zq
 cases d with
 |true=>exact o f i σ j D l m
 |false=>exact p f i σ j D l m
def zJB:TS:=fun _ _ _=>False
theorem gQ:PS X st zJB:=fun _ _ _ _ _ _ h=>h.elim
end
abbrev TG:=V->St->Hp->(St->Hp->Prop)->Prop
abbrev kH:=List V->St->Hp->(St->Hp->Prop)->Prop
def PG (X:Cx)(target:bD)(t:TG):Prop :=
 ∀(pins:List (ai×Obj)) (s:ak) (σ:St) (H:Hp) (v:V) (u:ae) (Q:St->Hp->Prop),Inv X pins σ H s->zP v u->t v σ H Q->
  wpAny (model X.prog X.w) X.A (assign target X.env u) (fun _ s'=>∃σ' H',Inv X pins σ' H' s'/\Q σ' H') X.xe s
def PGs (X:Cx)(ts:List bD)(t:kH):Prop :=
 ∀(pins:List (ai×Obj)) (s:ak) (σ:St) (H:Hp) (vs:List V) (us:List ae) (Q:St->Hp->Prop),Inv X pins σ H s->zK vs us->t vs σ H Q->
  wpAny (model X.prog X.w) X.A (assignInOrder ((assignEach ts X.env).map (·.2)) us) (fun _ s'=>∃σ' H',Inv X pins σ' H' s'/\Q σ' H') X.xe s
section
variable{X:Cx}{pos:Pos}
def zAu (i:Nat):TG:=fun v σ H Q=>Q (σ.set i (some v)) H
theorem yC {i:Nat}{x:Str}(b:X.N.Nodup)(hi:X.N[i]?=some x)(c:Loc X.env.scope x)(d:X.fn x=true\/X.env.scope.names.lookup x=some .local:=by first|exact .inl rfl|exact .inr rfl|assumption):PG X (.Name x pos) (zAu i):=by
 intro a s σ H v u Q I r h
 exact mM (zCA I b hi c r (fun s' e=>⟨_,H,e,h⟩) d)
def zJC:kH:=fun vs σ H Q=>vs=[]/\Q σ H
def zJD (t:TG)(u:kH):kH:=fun vs σ H Q=>∃v r,vs=v::r/\t v σ H fun σ' H'=>u r σ' H' Q
theorem gR:PGs X [] zJC:=by
 intro a s σ H vs us Q I r h
 obtain⟨e,h⟩:=h
 subst e
 cases r
 exact assignInOrder_nil ⟨σ,H,I,h⟩
theorem qE {e:bD}{b:List bD}{t:TG}{u:kH}(c:PG X e t)(d:PGs X b u)
  (f:(assignEach (e::b) X.env).map (·.2)=assign e X.env::(assignEach b X.env).map (·.2):=by rfl):PGs X (e::b) (zJD t u):=by
 intro a s σ H vs us Q I r h
 obtain⟨v,o,e1,h⟩:=h
 subst e1
 cases r with
 |cons r g=>
  rw[f]
  refine assignInOrder_cons (zG (c a s σ H _ _ _ I r h) fun _ i zq=>?_)
  obtain⟨j,l,m,n⟩:=zq
  exact d a i j l _ _ Q m g n
def zEo (K:aa)(n:Nat)(t:kH):TG:=fun v σ H Q=>∃a xs,v=.ref a/\yH K H a xs/\xs.length=n/\t xs σ H Q
theorem zAv {d:List bD}{k:Nat}{t:kH}{n:Nat}(j:X.calm=true)(h:PGs X d t)
  (l:(assignEach d X.env).length=n:=by rfl) (f:(assignEach d X.env).findIdx? (·.1)=none:=by rfl):PG X (.Tuple d k pos) (zEo X.K n t):=by
 intro c s σ H v u Q I r g
 obtain⟨a,xs,e1,m,hl,g⟩:=g
 subst e1
 cases r
 obtain⟨p,i,q,hz⟩:=I.tuple m
 refine assign_Tuple_tuple (I.ok.hd j) q (by simp[l,<-hl,i.length]) f fun h' w=>?_
 have x:Inv X c σ H {s with heap:=h'}:=I.kept (t':=s.toks) fun b o e=>w b o (aM (aC e)) e
 exact h c _ σ H xs _ Q x (by simpa using i) g
def zCG (te:TE)(g:TG):TS:=fun D σ H=>te σ H fun x H1=>g x σ H1 D.nx
theorem zZ {i:Nat}{x:Str}{e:bD}{te:TE}{a:Pos}(c:X.N.Nodup)(hi:X.N[i]?=some x)(d:Loc X.env.scope x)(he:PE X e te)(f:swapsWith e (some (.Name x a)) pos.line X.env=pure false:=by rfl)(g:X.fn x=true\/X.env.scope.names.lookup x=some .local:=by first|exact .inl rfl|exact .inr rfl|assumption) :
  PS X (.Assign [.Name x a] e pos) (zCG te (zAu i)):=by
 intro b s σ H D I h
 refine wpAny_Assign_Name (zG (he b s σ H _ I h) fun v p zq=>?_) f
 obtain⟨y,j,l,m,n⟩:=zq
 exact zCA l c hi d m (fun q o=>⟨_,j,o,n⟩) g
def zJE (c:TT)(tb:TS):TS:=fun D σ H=>∃W:Nat->St->Hp->Prop,(∃m,W m σ H)/\∀m σ H,W m σ H->
 c σ H fun b H1=>if b=true then∃N:St->Hp->Prop,(∀σ' H',N σ' H'->∃m',m'<m/\W m' σ' H')/\tb {D with nx:=N,ct:=N,bk:=D.nx} σ H1 else D.nx σ H1
theorem zJF {c:bD}{body:List bY}{u:TT}{x:TS}(y:PassesOwn (model X.prog X.w) X.A X.env X.xe)(G:PT X c u)(J:uU X body x):PS X (.While c body [] pos) (zJE u x):=by
 intro a s σ H D I h
 obtain⟨W,⟨L,M⟩,d⟩:=h
 refine wpAny_While (codeAny_whileLoop (fun n s'=>∃z H',Inv X a z H' s'/\W n z H') ?_ L ⟨σ,H,I,M⟩)
 rintro n O ⟨i,B,P,Q⟩
 refine dF y (zG (G a O i B _ P (d n i B Q)) fun b R zq=>?_)
 obtain⟨C,E,j⟩:=zq
 cases b with
 |true=>
  obtain⟨N,F,j⟩:=j
  rw[if_pos rfl]
  refine dF y (zG (J a R i C _ E j) fun f T l=>?_)
  cases f with
  |next=>
   obtain⟨e,g,m,o⟩:=l
   obtain⟨p,q,r⟩:=F e g o
   exact⟨p,q,e,g,m,r⟩
  |cont=>
   obtain⟨e,g,m,o⟩:=l
   obtain⟨p,q,r⟩:=F e g o
   exact⟨p,q,e,g,m,r⟩
  |brk=>exact l
  |ret v=>exact l
 |false=>
  rw[if_neg aH]
  exact gp ⟨i,C,E,j⟩
end
structure It where
 go:Nat->Hp->Prop
 yld:Nat->Hp->V->Hp->Prop
 stop:Nat->Hp->Prop
def qF (X:Cx)(pins:List (ai×Obj))(H:Hp)(b:ai):Prop :=
 H b=none/\b≠X.env.locals/\b∉X.fs/\(b∈X.ex\/X.s₀.heap.objs.size<=b)/\(∀x c,X.env.cells.lookup x=some c->c≠b)/\∀p∈X.pn++pins,p.1≠b
theorem Inv.fpOk {X:Cx}{a:List (ai×Obj)}{σ:St}{H H':Hp}{s:ak}{b:ai}(I:Inv X a σ H s)(d:s.heap.objs.size<=b)(f:H' b=none):qF X a H' b:=by
 refine⟨f,dH (bc I.lt d),I.nofs d,.inr (bZ I.sz d),fun x c e z=>?_,fun p g z=>?_⟩
 ·obtain⟨v,q⟩:=I.cell x c e
  exact absurd (bc q.lt (by rw[z];exact d)) (bw _)
 ·exact absurd (bc (aC (I.pin p g).1) (by rw[z];exact d)) (bw _)
structure Turn (P:aB) (w:aL) (K:aa) (tg:bD) (J:It) (fp:List ai) (it:ai) (tn:Nat->ba->Prop):Prop where
 mem:it∈fp
 obj:∀i h,tn i h->∀b∈fp,∃o,h.get? b=some o/\∀v,o.data≠.cell v
 keep:∀i h h',tn i h->(∀b∈fp,∀o,h.get? b=some o->h'.get? b=some o)->tn i h'
 item:∀(X:Cx),X.prog=P->X.w=w->X.K=K->X.calm=true->∀(i:Nat) (pins:List (ai×Obj)) (s:ak) (σ:St) (H:Hp) (E:ae->ak->Prop),Inv X pins σ H s->(∀b∈fp,qF X pins H b)->tn i s.heap->J.go i H->
  wpAny (model P w) X.A (pyNext (.ref it)) (fun r s1=>∃u,r=some u/\
   wpAny (model P w) X.A (letOwnedTupleGo tg (.ref it) u) (fun _ s2=>∃x H',Inv X pins σ H' s2/\zP x u/\J.yld i H x H'/\tn (i+1) s2.heap/\∀b∈fp,H' b=none) E s1) E s
 done:∀(X:Cx),X.prog=P->X.w=w->X.K=K->X.calm=true->∀(i:Nat) (pins:List (ai×Obj)) (s:ak) (σ:St) (H:Hp) (E:ae->ak->Prop),Inv X pins σ H s->(∀b∈fp,qF X pins H b)->tn i s.heap->J.stop i H->
  wpAny (model P w) X.A (pyNext (.ref it)) (fun r s1=>r=none/\Inv X pins σ H s1) E s
 self:∀(A:bJ) (i:Nat) (s:ak) (Q:ae->ak->Prop) (E:ae->ak->Prop),tn i s.heap->Q (.ref it) s->wpAny (model P w) A (pyIter (.ref it)) Q E s
abbrev TI:=St->Hp->(It->Hp->Prop)->Prop
def PIE (X:Cx)(pins:List (ai×Obj))(σ:St)(tg:bD)(R:It->Hp->Prop)(itv:ae)(s2:ak):Prop :=
 ∃(it:ai) (fp:List ai) (tn:Nat->ba->Prop) (J:It) (H':Hp),itv=.ref it/\Inv X pins σ H' s2/\Turn X.prog X.w X.K tg J fp it tn/\tn 0 s2.heap/\(∀b∈fp,qF X pins H' b)/\R J H'
def PI (X:Cx)(tg iter:bD)(wi:TI):Prop :=
 ∀(pins:List (ai×Obj)) (s:ak) (σ:St) (H:Hp) (R:It->Hp->Prop),Inv X pins σ H s->wi σ H R->
  wpAny (model X.prog X.w) X.A (eval iter X.env) (fun v s1=>wpAny (model X.prog X.w) X.A (pyIter v) (PIE X pins σ tg R) X.xe s1) X.xe s
theorem zAP {M:qm}{A:bJ}{E:ae->ak->Prop}{s:ak}{b:bD}{it:ai}{u:ae}{o:Obj}{n:String}{vs:Array ae}{Q:Unit->ak->Prop}(c:s.heap.get? it=some o)(d:o.cls=.type n)(hd:o.data=.fields vs)
  (e:["enumerate","zip","dict_itemiterator","dict_reverseitemiterator","odict_iterator","itertools.zip_longest","itertools.pairwise"].contains n=false) (a:Q () s):wpAny M A (letOwnedTupleGo b (.ref it) u) Q E s:=by
 unfold letOwnedTupleGo
 cases b<;>first
  |exact ax a
  |(cases u<;>first
    |exact ax a
    |(refine ah (wpAny_load c ?_)
      rw[d,hd]
      show wpAny M A (if(["enumerate","zip","dict_itemiterator","dict_reverseitemiterator","odict_iterator","itertools.zip_longest","itertools.pairwise"].contains n&&vs[0]? ==some (rawInt _))=true then _ else _) Q E s
      rw[if_neg (by intro h;rw[e,oJ]at h;cases h)]
      exact ax a))
def Itl (K:aa)(a:ai):It :=
 ⟨fun i H=>∃xs x,z7 K H a xs/\xs[i]?=some x,fun i H x H'=>H'=H/\∀xs,z7 K H a xs->xs[i]?=some x,fun i H=>∃xs,z7 K H a xs/\xs.length<=i⟩
def Itt (K:aa)(a:ai):It :=
 ⟨fun i H=>∃xs x,yH K H a xs/\xs[i]?=some x,fun i H x H'=>H'=H/\∀xs,yH K H a xs->xs[i]?=some x,fun i H=>∃xs,yH K H a xs/\xs.length<=i⟩
def Itr (lo:Int)(n:Nat):It:=⟨fun i _=>i<n,fun i H x H'=>H'=H/\x=.int (lo+i),fun i _=>n<=i⟩
theorem zJG {P:aB}{w:aL}{K:aa}{M:bD}(a it:ai):Turn P w K M (Itl K a) [it] it (fun i h=>h.IsListIter it a i) where
 mem:=by simp
 obj:=fun i h st b g=>by
  have e:b=it:=by simpa using g
  subst e
  obtain⟨o,e,c,d⟩:=st
  exact⟨o,e,fun v z=>by rw[d]at z;cases z⟩
 keep:=fun i h h' st k=>st.at fun o e=>k it (by simp) o e
 item:=by
  intro X n q r L i f s σ H E I l st y
  subst n q r
  obtain⟨xs,x,m,A⟩:=y
  obtain⟨B,C,p,hz⟩:=I.list m
  obtain⟨u,N,O⟩:=C.get A
  obtain⟨D,f1,f2,F,G,J⟩:=l it (by simp)
  refine wpAny_pyNext_list_item st p.isList (x:=u) (by simpa using N) fun h' j Q=>?_
  have R:Inv X f σ H {s with heap:=h'}:=I.turned (t':=s.toks) (fun b o g e=>(Q.2 b g).trans e) D f1 F G J
  obtain⟨o,e,c,d⟩:=id j
  exact⟨u,rfl,zAP (s:={s with heap:=h'}) e c d (by decide) ⟨x,H,R,O,⟨rfl,fun ys T=>by rw[I.list_inj T m];exact A⟩,j,fun b g=>(l b g).1⟩⟩
 done:=by
  intro X n q r L i f s σ H E I l st y
  subst n q r
  obtain⟨xs,m,A⟩:=y
  obtain⟨B,C,p,hz⟩:=I.list m
  obtain⟨D,f1,f2,F,G,J⟩:=l it (by simp)
  have hl:=C.length
  exact wpAny_pyNext_list_end (I.ok.hd L) st p.isList (by simp;omega) fun h' eb=>⟨rfl,I.turned (t':=s.toks) (fun b o g e=>eb b o g e) D f1 F G J⟩
 self:=fun _ _ _ _ _ st h=>wpAny_pyIter_listiter st h
theorem zJH {P:aB}{w:aL}{K:aa}{M:bD}(a it:ai):Turn P w K M (Itt K a) [it] it (fun i h=>h.IsTupleIter it a i) where
 mem:=by simp
 obj:=fun i h st b g=>by
  have e:b=it:=by simpa using g
  subst e
  obtain⟨o,e,c,d⟩:=st
  exact⟨o,e,fun v z=>by rw[d]at z;cases z⟩
 keep:=fun i h h' st k=>st.at fun o e=>k it (by simp) o e
 item:=by
  intro X q r y L i f s σ H E I m st A
  subst q r y
  obtain⟨xs,x,n,B⟩:=A
  obtain⟨j,C,p,hz⟩:=I.tuple n
  obtain⟨u,N,O⟩:=C.get B
  obtain⟨D,f1,f2,F,G,J⟩:=m it (by simp)
  refine wpAny_pyNext_tuple_item st (show s.heap.IsTuple a j.toArray from p) (x:=u) (by simpa using N) fun h' l Q=>?_
  have R:Inv X f σ H {s with heap:=h'}:=I.turned (t':=s.toks) (fun b o g e=>(Q.2 b g).trans e) D f1 F G J
  obtain⟨o,e,c,d⟩:=id l
  exact⟨u,rfl,zAP (s:={s with heap:=h'}) e c d (by decide) ⟨x,H,R,O,⟨rfl,fun ys T=>by rw[I.tuple_inj T n];exact B⟩,l,fun b g=>(m b g).1⟩⟩
 done:=by
  intro X q r y L i f s σ H E I m st A
  subst q r y
  obtain⟨xs,n,B⟩:=A
  obtain⟨j,C,p,hz⟩:=I.tuple n
  obtain⟨D,f1,f2,F,G,J⟩:=m it (by simp)
  have hl:=C.length
  exact wpAny_pyNext_tuple_end (I.ok.hd L) st (show s.heap.IsTuple a j.toArray from p) (by simp;omega) fun h' eb=>⟨rfl,I.turned (t':=s.toks) (fun b o g e=>eb b o g e) D f1 F G J⟩
 self:=fun _ _ _ _ _ st h=>wpAny_pyIter_tupleiter st h
theorem zJI {P:aB}{w:aL}{K:aa}{y:bD}(it:ai)(lo:Int)(n:Nat):Turn P w K y (Itr lo n) [it] it (fun i h=>IsRangeIter h it (lo+(i:Nat)*1) ((n:Int)- (i:Nat)) 1) where
 mem:=by simp
 obj:=fun i h st b c=>by
  have e:b=it:=by simpa using c
  subst e
  exact⟨_,st,fun v z=>by
   have A:Data.fields _=Data.cell v:=z
   cases A⟩
 keep:=fun i h h' st k=>k it (by simp) _ st
 item:=by
  intro X g j l m i a s σ H E I f st p
  subst g j l
  obtain⟨q,f1,f2,r,u,x⟩:=f it (by simp)
  have W:=Walks.range (prog:=X.prog) (w:=X.w) (I.ok.hd m) it lo 1 n
  refine W.item i s _ _ p st fun v h' tk B d C=>?_
  obtain⟨t,rfl⟩:=B
  have D:Inv X a σ H {s with heap:=h',toks:=tk}:=I.turned (fun b o c e=>C b o (by simpa using c) e) q f1 r u x
  refine⟨_,rfl,zAP (s:={s with heap:=h',toks:=tk}) (n :="range_iterator") d rfl rfl (by decide) ⟨.int (lo+i),H,D,⟨t,?_⟩,⟨rfl,rfl⟩,d,fun b c=>(f b c).1⟩⟩
  rw[Int.mul_one]
 done:=by
  intro X g j l m i a s σ H E I f st p
  subst g j l
  obtain⟨q,f1,f2,r,u,x⟩:=f it (by simp)
  exact wpAny_pyNext_range_end (I.ok.hd m) st (by have:n<=i:=p;omega) fun h' eb=>⟨rfl,I.turned (t':=s.toks) (fun b o c e=>eb b o c e) q f1 r u x⟩
 self:=fun _ _ _ _ _ st h=>wpAny_pyIter_rangeiter st h
section
variable{X:Cx}{tg:bD}
def zJJ (K:aa)(tl:TE):TI:=fun σ H R=>tl σ H fun x H1=>∃a,x=.ref a/\(∃xs,z7 K H1 a xs)/\R (Itl K a) H1
def zJK (K:aa)(tl:TE):TI:=fun σ H R=>tl σ H fun x H1=>∃a,x=.ref a/\(∃xs,yH K H1 a xs)/\R (Itt K a) H1
theorem v3 {l:bD}{g:TE}(hl:PE X l g):PI X tg l (zJJ X.K g):=by
 intro c s σ H R I h
 refine zG (hl c s σ H _ I h) fun v d zq=>?_
 obtain⟨x,i,f,j,m⟩:=zq
 obtain⟨a,e,⟨xs,n⟩,q⟩:=m
 subst e
 cases j
 obtain⟨r,w,p,hz⟩:=f.list n
 refine fq p.isList ?_
 refine⟨d.heap.objs.size,[d.heap.objs.size],_,_,i,rfl,f.kept (t':=d.toks) fun b o e=>ag _ e,zJG a _,⟨_,ay _ rfl,rfl,rfl⟩,fun b u=>?_,q⟩
 have e:b=d.heap.objs.size:=by simpa using u
 subst e
 exact f.fpOk (aw _) (f.hok.fresh (aw _))
theorem zCH {l:bD}{i:TE}(hl:PE X l i):PI X tg l (zJK X.K i):=by
 intro c s σ H R I h
 refine zG (hl c s σ H _ I h) fun v d zq=>?_
 obtain⟨x,j,f,m,n⟩:=zq
 obtain⟨a,e,⟨xs,r⟩,q⟩:=n
 subst e
 cases m
 obtain⟨g,w,p,hz⟩:=f.tuple r
 refine my (show d.heap.IsTuple a g.toArray from p) ?_
 refine⟨d.heap.objs.size,[d.heap.objs.size],_,_,j,rfl,f.kept (t':=d.toks) fun b o e=>ag _ e,zJH a _,⟨_,ay _ rfl,rfl,rfl⟩,fun b u=>?_,q⟩
 have e:b=d.heap.objs.size:=by simpa using u
 subst e
 exact f.fpOk (aw _) (f.hok.fresh (aw _))
theorem zEp {a:List (ai×Obj)}{σ:St}{H:Hp}{s:ak}{R:It->Hp->Prop}{E:ae->ak->Prop}{lo hi:Int}{t u v:Tok}{tk:Nat}(I:Inv X a σ H s)(d:-(2^62)<=lo)(f:lo<2^62)(g:-(2^62)<=hi)(h:hi<2^62)
  (q:R (Itr lo (hi-lo).toNat) H):wpAny (model X.prog X.w) X.A (pyIter (.ref s.heap.objs.size)) (PIE X a σ tg R) E {s with heap:=s.heap.push {cls:=.type "range",data:=.fields #[.int lo t,.int hi u,.int 1 v]},toks:=tk}:=by
 refine wpAny_pyIter_range (IsRange.new ..) (small_one d f g h) ?_
 have c:Inv X a σ H {s with heap:=s.heap.push {cls:=.type "range",data:=.fields #[.int lo t,.int hi u,.int 1 v]},toks:=tk}:=I.kept fun b o e=>ag _ e
 refine⟨(s.heap.push {cls:=.type "range",data:=.fields #[.int lo t,.int hi u,.int 1 v]}).objs.size,[(s.heap.push {cls:=.type "range",data:=.fields #[.int lo t,.int hi u,.int 1 v]}).objs.size],_,_,H,rfl,
  c.kept (t':=tk) fun b o e=>ag _ e,zJI _ lo (hi-lo).toNat,?_,fun b i=>?_,q⟩
 ·have e1:lo+((0:Nat):Int)*1=lo:=by simp
  have j:(((hi-lo).toNat:Nat):Int)- ((0:Nat):Int)=p6 lo hi 1:=by rw[rangeSize_one];split<;>omega
  show IsRangeIter _ _ (lo+((0:Nat):Int)*1) ((((hi-lo).toNat:Nat):Int)- ((0:Nat):Int)) 1
  rw[e1,j]
  exact ay _ rfl
 ·have e:b=(s.heap.push {cls:=.type "range",data:=.fields #[.int lo t,.int hi u,.int 1 v]}).objs.size:=by simpa using i
  subst e
  exact c.fpOk (aw _) (c.hok.fresh (aw _))
def zJL (ta:TA):TI:=fun σ H R=>ta σ H fun vs H1=>∃j:Int,vs=[.int j]/\-(2^62)<=j/\j<2^62/\R (Itr 0 j.toNat) H1
def zJM (ta:TA):TI:=fun σ H R=>ta σ H fun vs H1=>∃i j:Int,vs=[.int i,.int j]/\(-(2^62)<=i/\i<2^62/\-(2^62)<=j/\j<2^62)/\R (Itr i (j-i).toNat) H1
theorem zAw {a:bD}{d:TA}{p pos:Pos}(f:Gl X "range")(g:X.mg "range"=none)(i:PA X [a] d)(l:starEach [a] X.env=[(false,eval a X.env)]:=by rfl):PI X tg (.Call (.Name "range" p) [a] [] pos) (zJL d):=by
 intro b s σ H R I h
 refine Call_ (kA I f g boot_range (cJ (zG (i pos b s σ H _ I h) fun us v zq=>?_) l rfl))
 obtain⟨vs,w,m,n,c⟩:=zq
 obtain⟨j,e,c,o,q⟩:=c
 subst e
 cases n with
 |cons r u=>
  cases u
  obtain⟨t,rfl⟩:=r
  exact call_range_1 (zEp m (by omega) (by omega) c o (by simpa using q))
theorem zJN {a b:bD}{l:TA}{p pos:Pos}(m:Gl X "range")(n:X.mg "range"=none)(o:PA X [a,b] l)(u:starEach [a,b] X.env=[(false,eval a X.env),(false,eval b X.env)]:=by rfl)(c:starEach [b] X.env=[(false,eval b X.env)]:=by rfl) :
  PI X tg (.Call (.Name "range" p) [a,b] [] pos) (zJM l):=by
 intro d s σ H R I h
 refine Call_ (kA I m n boot_range (cJ (zG (o pos d s σ H _ I h) fun us B ⟨vs,C,v,w,f⟩=>?_) (by rw[u,c]) (by rw[c];rfl)))
 obtain⟨i,j,e,⟨f,x,y,z⟩,q⟩:=f
 subst e
 cases w with
 |cons r g=>
  cases g with
  |cons A g=>
   cases g
   obtain⟨t,rfl⟩:=r
   obtain⟨t',rfl⟩:=A
   exact call_range_2 (zEp v f x y z q)
def zJO (wi:TI)(g:TG)(tb:TS):TS:=fun D σ H=>wi σ H fun J H1=>∃W:Nat->Nat->St->Hp->Prop,(∃m,W 0 m σ H1)/\∀i m σ H,W i m σ H->
 (J.stop i H/\D.nx σ H)\/(J.go i H/\∃N:St->Hp->Prop,(∀σ' H',N σ' H'->∃m',m'<m/\W (i+1) m' σ' H')/\∀x H',J.yld i H x H'->g x σ H' fun σ2 H2=>tb {D with nx:=N,ct:=N,bk:=D.nx} σ2 H2)
def gT (fp:List ai)(h:ba):List (ai×Obj):=fp.filterMap fun b=>(h.get? b).map fun o=>(b,o)
theorem kS {fp:List ai}{h:ba}{b:ai}{o:Obj}(a:b∈fp)(e:h.get? b=some o):(b,o)∈gT fp h:=ij.mpr ⟨b,a,by rw[e];rfl⟩
theorem zJP {fp:List ai}{h:ba}{p:ai×Obj}(a:p∈gT fp h):p.1∈fp/\h.get? p.1=some p.2:=by
 obtain⟨b,c,e⟩:=ij.mp a
 cases q:h.get? b with
 |none=>rw[q]at e;cases e
 |some o=>
  rw[q]at e
  have d:(b,o)=p:=au e
  subst d
  exact⟨c,q⟩
theorem Inv.pinned {a:List (ai×Obj)}{σ:St}{H:Hp}{s:ak}{fp:List ai}(I:Inv X a σ H s)(g:∀b∈fp,qF X a H b)(h:∀b∈fp,∃o,s.heap.get? b=some o/\∀v,o.data≠.cell v):Inv X (a++gT fp s.heap) σ H s :=
 I.pins_of fun p i=>(bj.mp i).elim (fun z=>I.pin p (aI _ z)) fun z=>by
  obtain⟨c,e⟩:=zJP z
  obtain⟨j,f1,f2,_⟩:=g p.1 c
  obtain⟨o,f,d⟩:=h p.1 c
  rw[e]at f;cases f
  exact⟨e,j,f1,f2,d⟩
theorem Inv.unpinned {a pl:List (ai×Obj)}{σ:St}{H:Hp}{s:ak}(I:Inv X (a++pl) σ H s):Inv X a σ H s:=I.pins_of fun p b=>I.pin p (aI _ (bC _ b))
theorem qG {iter:bD}{body:List bY}{Z:TI}{g:TG}{tb:TS}{pos:Pos}(B:PassesOwn (model X.prog X.w) X.A X.env X.xe)(hc:X.calm=true)(hi:PI X tg iter Z)(hg:PG X tg g)(c:uU X body tb)
  (hs:∀x,foldedSetIterable iter X.env x=pure x:=by intro _;rfl):PS X (.For tg iter body [] pos) (zJO Z g tb):=by
 intro a s σ H D I h
 refine wpAny_For (zG (hi a s σ H _ I h) fun v s1 h1=>zG h1 fun ab s2 h2=>?_) hs
 obtain⟨it,fp,tn,J,H2,e,I2,T,P,f2,W,⟨m0,w0⟩,C⟩:=h2
 subst e
 have j:∀{H':Hp},(∀b∈fp,H' b=none)->∀b∈fp,qF X a H' b:=fun hn b c=>⟨hn b c,(f2 b c).2⟩
 refine codeAny_forLoop_any (fun n s'=>∃i E H',Inv X a E H' s'/\tn i s'.heap/\(∀b∈fp,H' b=none)/\W i n E H') ?_ m0 ⟨0,σ,H2,I2,P,fun b c=>(f2 b c).1,w0⟩
 rintro n s3 ⟨i,F,O,I3,G,L,w3⟩
 rcases C i n F O w3 with⟨stop,qn⟩|⟨go,N,hN,step⟩
 ·refine dF B (zG (T.done X rfl rfl rfl hc i a s3 F O X.xe I3 (j L) G stop) fun r s4 zq=>?_)
  obtain⟨Q,I4⟩:=zq
  subst Q
  exact gp ⟨F,O,I4,qn⟩
 ·refine dF B (zG (T.item X rfl rfl rfl hc i a s3 F O X.xe I3 (j L) G go) fun r s4 zq=>?_)
  obtain⟨u,Q,h4⟩:=zq
  subst Q
  refine dF B (zG h4 fun _ s5 zq=>?_)
  obtain⟨x,H5,I5,r5,y5,z,R⟩:=zq
  have U:=I5.pinned (j R) (T.obj _ _ z)
  refine dF B (zG (hg _ s5 F H5 x u _ U r5 (step x H5 y5)) fun _ s6 ⟨σ6,H6,I6,q6⟩=>?_)
  refine dF B (zG (c _ s6 σ6 H6 _ I6 q6) fun f Y y=>?_)
  have again:∀{l:St} {p:Hp},Inv X (a++gT fp s5.heap) l p Y->N l p->∃m,m<n/\∃i E H',Inv X a E H' Y/\tn i Y.heap/\(∀b∈fp,H' b=none)/\W i m E H':=fun{l p} q M=>by
   obtain⟨m',hm,w7⟩:=hN l p M
   refine⟨m',hm,i+1,l,p,q.unpinned,T.keep _ _ _ z fun b c o e=>(q.pin (b,o) (aI _ (aI _ (kS c e)))).1,fun b c=>?_,w7⟩
   obtain⟨o,e,d⟩:=T.obj _ _ z b c
   exact(q.pin (b,o) (aI _ (aI _ (kS c e)))).2.1
  cases f with
  |next=>obtain⟨l,p,q,M⟩:=y;exact again q M
  |cont=>obtain⟨l,p,q,M⟩:=y;exact again q M
  |brk=>obtain⟨l,p,q,y⟩:=y;exact⟨l,p,q.unpinned,y⟩
  |ret v=>obtain⟨x7,l,p,q,r7,y⟩:=y;exact⟨x7,l,p,q.unpinned,r7,y⟩
end
abbrev R2:=V->V->Hp->VK->Prop
def z9 (X:Cx)(f:ae->ae->Sem ae)(r:R2):Prop :=
 ∀(pins:List (ai×Obj)) (s:ak) (σ:St) (H:Hp) (x y:V) (v u:ae) (Q:VK),Inv X pins σ H s->zP x v->zP y u->r x y H Q->
  wpAny (model X.prog X.w) X.A (f v u) (EP X pins σ Q) X.xe s
def UnR (X:Cx)(f:ae->Sem ae)(r:V->Hp->VK->Prop):Prop :=
 ∀(pins:List (ai×Obj)) (s:ak) (σ:St) (H:Hp) (x:V) (v:ae) (Q:VK),Inv X pins σ H s->zP x v->r x H Q->
  wpAny (model X.prog X.w) X.A (f v) (EP X pins σ Q) X.xe s
def qR (X:Cx)(f:ae)(r:List V->Hp->VK->Prop):Prop :=
 ∀(pins:List (ai×Obj)) (s:ak) (σ:St) (H:Hp) (xs:List V) (us:List ae) (Q:VK),Inv X pins σ H s->zK xs us->r xs H Q->
  wpAny (model X.prog X.w) X.A (call f us) (EP X pins σ Q) X.xe s
def kT (r:R2)(ta tb:TE):TE:=fun σ H Q=>ta σ H fun x H1=>tb σ H1 fun y H2=>r x y H2 Q
def tUn (r:V->Hp->VK->Prop)(ta:TE):TE:=fun σ H Q=>ta σ H fun x H1=>r x H1 Q
def rI (C:Int->Int->Prop)(g:Int->Int->V):R2:=fun x y H Q=>∃i j,x=.int i/\y=.int j/\C i j/\Q (g i j) H
def kI (g:Int->Int->V):R2:=fun x y H Q=>∃i j,x=.int i/\y=.int j/\Q (g i j) H
def rU (g:Int->V):V->Hp->VK->Prop:=fun x H Q=>∃i,x=.int i/\Q (g i) H
section
variable{X:Cx}{a b c:bD}{ta tb tc:TE}{pos:Pos}
theorem zCI (j:PE X a ta)(l:PE X b tb){d:List (ai×Obj)}{s:ak}{σ:St}{H:Hp}{R:V->V->Hp->Prop}(I:Inv X d σ H s)
  (h:ta σ H fun x i=>tb σ i fun y e=>R x y e) {Q:ae->ak->Prop} {f:ae->ae->Sem ae}
  (m:∀v u g x y e,Inv X d σ e g->zP x v->zP y u->R x y e->wpAny (model X.prog X.w) X.A (f v u) Q X.xe g) :
  wpAny (model X.prog X.w) X.A (eval a X.env) (fun v n=>wpAny (model X.prog X.w) X.A (eval b X.env) (fun u o=>wpAny (model X.prog X.w) X.A (f v u) Q X.xe o) X.xe n) X.xe s:=by
 refine zG (j d s σ H _ I h) fun v p zq=>?_
 obtain⟨x,i,q,r,z⟩:=zq
 refine zG (l d p σ i _ q z) fun u g zq=>?_
 obtain⟨y,e,B,C,D⟩:=zq
 exact m v u g x y e B r C D
theorem zT {op:Operator}{r:R2}(e:z9 X (binaryOp op) r)(f:PE X a ta)(g:PE X b tb):PE X (.BinOp a op b pos) (kT r ta tb):=by
 intro d s σ H Q I h
 exact wpAny_BinOp (zCI f g I h fun v u i x y j l m n q=>e d i σ j x y v u Q l m n q)
theorem zEq {op:UnaryOp}{r:V->Hp->VK->Prop}(e:UnR X (unaryOp op) r)(f:PE X a ta):PE X (.UnaryOp op a pos) (tUn r ta):=by
 intro d s σ H Q I h
 exact UnaryOp_ (zG (f d s σ H _ I h) fun v g ⟨x,i,j,l,m⟩=>e d g σ i x v Q j l m)
theorem opI {f:ae->ae->Sem ae}{C:Int->Int->Prop}{g:Int->Int->Int}
  (rule:∀(i j:Int) (t u:Tok) (s:ak) (Q:ae->ak->Prop) (E:ae->ak->Prop),C i j->Q (.int (g i j) s.toks) {s with toks:=s.toks+1}->wpAny (model X.prog X.w) X.A (f (.int i t) (.int j u)) Q E s) :
  z9 X f (rI C fun i j=>.int (g i j)):=by
 intro d s σ H x y v u Q I e l h
 obtain⟨i,j,rfl,rfl,m,q⟩:=h
 obtain⟨t,rfl⟩:=e
 obtain⟨t',rfl⟩:=l
 exact rule i j t t' s _ _ m ⟨.int (g i j),H,I.tok _,⟨_,rfl⟩,q⟩
theorem zJQ {f:ae->ae->Sem ae}{g:Int->Int->Int}
  (rule:∀(i j:Int) (t u:Tok) (s:ak) (Q:ae->ak->Prop) (E:ae->ak->Prop),Q (.int (g i j) s.toks) {s with toks:=s.toks+1}->wpAny (model X.prog X.w) X.A (f (.int i t) (.int j u)) Q E s) :
  z9 X f (kI fun i j=>.int (g i j)):=by
 intro d s σ H x y v u Q I e l h
 obtain⟨i,j,rfl,rfl,q⟩:=h
 obtain⟨t,rfl⟩:=e
 obtain⟨t',rfl⟩:=l
 exact rule i j t t' s _ _ ⟨.int (g i j),H,I.tok _,⟨_,rfl⟩,q⟩
theorem zCJ {f:ae->ae->Sem ae}{g:Int->Int->Bool}
  (rule:∀(i j:Int) (t u:Tok) (s:ak) (Q:ae->ak->Prop) (E:ae->ak->Prop),Q (.bool (g i j)) s->wpAny (model X.prog X.w) X.A (f (.int i t) (.int j u)) Q E s) :
  z9 X f (kI fun i j=>.bl (g i j)):=by
 intro d s σ H x y v u Q I e l h
 obtain⟨i,j,rfl,rfl,q⟩:=h
 obtain⟨t,rfl⟩:=e
 obtain⟨t',rfl⟩:=l
 exact rule i j t t' s _ _ ⟨.bl (g i j),H,I,rfl,q⟩
def zJR (i j:Int):Prop:=0<j/\j<1073741824
def zAx (i j:Int):Prop:=(-(2^64)<i/\i<2^64)\/(-(2^64)<j/\j<2^64)
theorem zAx.ok {i j:Int}(h:zAx i j):IntMulOk i j:=by
 rcases h with⟨d,e⟩|⟨d,e⟩
 ·exact .of_left (pF d e)
 ·exact .of_right (pF d e)
theorem vA:z9 X (binaryOp .Add) (kI fun i j=>.int (i+j)):=zJQ fun _ _ _ _ _ _ _ q=>add_int q
theorem jX:z9 X (binaryOp .Mult) (rI zAx fun i j=>.int (i*j)):=opI fun _ _ _ _ _ _ _ d q=>mul_int q d.ok
theorem zAy:z9 X (binaryOp .FloorDiv) (rI zJR fun i j=>.int (i/j)):=opI fun i j _ _ _ _ _ d q=>by
 have e:(0:Int)<j:=d.1
 have f:j<1073741824:=d.2
 exact floordiv_int (by omega) (by rw[ik i (by omega)];exact q) (.inl (PyProof.noPylong_small (by omega)))
theorem kU:z9 X (binaryOp .Mod) (rI (fun _ j=>0<j) fun i j=>.int (i%j)):=opI fun i j _ _ _ _ _ d q=>by
 have e:(0:Int)<j:=d
 exact mod_int' (by omega) (by rw[Int.fmod_eq_emod_of_nonneg i (by omega)];exact q)
theorem unI {f:ae->Sem ae}{g:Int->Int}
  (rule:∀(i:Int) (t:Tok) (s:ak) (Q:ae->ak->Prop) (E:ae->ak->Prop),Q (.int (g i) s.toks) {s with toks:=s.toks+1}->wpAny (model X.prog X.w) X.A (f (.int i t)) Q E s) :
  UnR X f (rU fun i=>.int (g i)):=by
 intro d s σ H x v Q I e h
 obtain⟨i,rfl,q⟩:=h
 obtain⟨t,rfl⟩:=e
 exact rule i t s _ _ ⟨.int (g i),H,I.tok _,⟨_,rfl⟩,q⟩
theorem zEr:UnR X (unaryOp .USub) (rU fun i=>.int (-i)):=unI fun _ _ _ _ _ q=>neg_int q
end
def zEs:V->V->Bool
 | .non,.non=>true| .non,.int _=>true| .int _,.non=>true| .non,.bl _=>true| .bl _,.non=>true| .non,.str _=>true| .str _,.non=>true
 | .int _,.int _=>true| .bl _,.bl _=>true| .str _,.str _=>true| .byt _,.byt _=>true
 | .int _,.str _=>true| .str _,.int _=>true| .bl _,.str _=>true| .str _,.bl _=>true
 |_,_=>false
def rEq:R2:=fun x y H Q=>zEs x y=true/\Q (.bl (decide (x=y))) H
def rNe:R2:=fun x y H Q=>zEs x y=true/\Q (.bl (!decide (x=y))) H
theorem zEt {i j:Int}:decide (V.int i=V.int j)=(i==j):=by
 rw[dG]
 simp
theorem zEu {i j:Bool}:decide (V.bl i=V.bl j)=(i==j):=by
 rw[dG]
 simp
theorem zEv {i j:Str}:decide (V.str i=V.str j)=(i==j):=by
 rw[dG]
 simp
theorem zEw {i j:Array UInt8}:decide (V.byt i=V.byt j)=(i.toList==j.toList):=by
 rw[dG]
 cases i
 cases j
 simp
section
variable{X:Cx}{a b c:bD}{ta tb tc:TE}{pos:Pos}
theorem yI {d:List (ai×Obj)}{σ:St}{H:Hp}{s:ak}{Q:VK}{k f:Bool}(I:Inv X d σ H s)(q:Q (.bl k) H)(e:k=f):EP X d σ Q (.bool f) s:=by
 subst e
 exact⟨.bl k,H,I,rfl,q⟩
theorem zAz:z9 X (compareOp .Eq) rEq:=by
 intro g s σ H x y v u Q I f d h
 obtain⟨e,q⟩:=h
 cases x with
 |non=>
  cases f
  cases y with
  |non=>cases d;exact o7 (yI I q (by simp))
  |bl j=>cases d;exact o8 (yI I q (by simp))
  |int j=>obtain⟨t',rfl⟩:=d;exact pG (yI I q (by simp))
  |str j=>obtain⟨t',rfl⟩:=d;exact pH (yI I q (by simp))
  |_=>exact absurd (show false=true from e) aH
 |bl i=>
  cases f
  cases y with
  |non=>cases d;exact o9 (yI I q (by simp))
  |bl j=>cases d;exact eq_bool (yI I q zEu)
  |str j=>obtain⟨t',rfl⟩:=d;exact pd (yI I q (by simp))
  |_=>exact absurd (show false=true from e) aH
 |int i=>
  obtain⟨t,rfl⟩:=f
  cases y with
  |non=>cases d;exact pI (yI I q (by simp))
  |int j=>obtain⟨t',rfl⟩:=d;exact eq_int (yI I q zEt)
  |str j=>obtain⟨t',rfl⟩:=d;exact pJ (yI I q (by simp))
  |_=>exact absurd (show false=true from e) aH
 |str i=>
  obtain⟨t,rfl⟩:=f
  cases y with
  |non=>cases d;exact pK (yI I q (by simp))
  |bl j=>cases d;exact pe (yI I q (by simp))
  |int j=>obtain⟨t',rfl⟩:=d;exact pL (yI I q (by simp))
  |str j=>obtain⟨t',rfl⟩:=d;exact eq_str (yI I q zEv)
  |_=>exact absurd (show false=true from e) aH
 |byt i=>
  obtain⟨t,rfl⟩:=f
  cases y with
  |byt j=>obtain⟨t',rfl⟩:=d;exact PySem.W.eq_bytes (yI I q zEw)
  |_=>exact absurd (show false=true from e) aH
 |_=>cases y<;>exact absurd (show false=true from e) aH
theorem zCK:z9 X (compareOp .NotEq) rNe:=by
 intro g s σ H x y v u Q I f d h
 obtain⟨e,q⟩:=h
 cases x with
 |non=>
  cases f
  cases y with
  |non=>cases d;exact pf (yI I q (by simp))
  |bl j=>cases d;exact ph (yI I q (by simp))
  |int j=>obtain⟨t',rfl⟩:=d;exact pM (yI I q (by simp))
  |str j=>obtain⟨t',rfl⟩:=d;exact pN (yI I q (by simp))
  |_=>exact absurd (show false=true from e) aH
 |bl i=>
  cases f
  cases y with
  |non=>cases d;exact pj (yI I q (by simp))
  |bl j=>cases d;exact ne_bool (yI I q (congrArg not zEu))
  |str j=>obtain⟨t',rfl⟩:=d;exact pk (yI I q (by simp))
  |_=>exact absurd (show false=true from e) aH
 |int i=>
  obtain⟨t,rfl⟩:=f
  cases y with
  |non=>cases d;exact pO (yI I q (by simp))
  |int j=>obtain⟨t',rfl⟩:=d;exact ne_int (yI I q (congrArg not zEt))
  |str j=>obtain⟨t',rfl⟩:=d;exact pP (yI I q (by simp))
  |_=>exact absurd (show false=true from e) aH
 |str i=>
  obtain⟨t,rfl⟩:=f
  cases y with
  |non=>cases d;exact pQ (yI I q (by simp))
  |bl j=>cases d;exact pq (yI I q (by simp))
  |int j=>obtain⟨t',rfl⟩:=d;exact pR (yI I q (by simp))
  |str j=>obtain⟨t',rfl⟩:=d;exact ne_str (yI I q (congrArg not zEv))
  |_=>exact absurd (show false=true from e) aH
 |byt i=>
  obtain⟨t,rfl⟩:=f
  cases y with
  |byt j=>obtain⟨t',rfl⟩:=d;exact PySem.W.ne_bytes (yI I q (congrArg not zEw))
  |_=>exact absurd (show false=true from e) aH
 |_=>cases y<;>exact absurd (show false=true from e) aH
theorem zCL:z9 X (compareOp .Lt) (kI fun i j=>.bl (decide (i<j))):=zCJ fun _ _ _ _ _ _ _ q=>lt_int q
theorem qH:z9 X (compareOp .LtE) (kI fun i j=>.bl (decide (i<=j))):=zCJ fun _ _ _ _ _ _ _ q=>le_int q
theorem zJS:z9 X (compareOp .Gt) (kI fun i j=>.bl (decide (j<i))):=zCJ fun _ _ _ _ _ _ _ q=>gt_int q
theorem zEx:z9 X (compareOp .In) (fun x y H Q=>∃i j,x=.str i/\y=.str j/\Q (.bl (!(c8 j i 0 j.length 1).isEmpty)) H):=by
 intro d s σ H x y v u Q I e f h
 obtain⟨i,j,rfl,rfl,q⟩:=h
 obtain⟨t,rfl⟩:=e
 obtain⟨t',rfl⟩:=f
 exact in_str (yI I q rfl)
theorem zCM:z9 X (compareOp .Is) (fun x y H Q=>y=.non/\Q (.bl (decide (x=.non))) H):=by
 intro d s σ H x y v u Q I e f h
 obtain⟨rfl,q⟩:=h
 cases f
 refine is_none_gen (yI I q ?_)
 cases x<;>first
  |(cases e;rfl)
  |(obtain⟨t,rfl⟩:=e;rfl)
theorem z9.or {f:ae->ae->Sem ae}{r e:R2}(h:z9 X f r)(h':z9 X f e):z9 X f (fun x y H Q=>r x y H Q\/e x y H Q):=by
 intro d s σ H x y v u Q I g i q
 rcases q with q|q
 ·exact h d s σ H x y v u Q I g i q
 ·exact h' d s σ H x y v u Q I g i q
theorem vB (b:bD){op:nX}(h:op≠.In:=by decide)(d:op≠.NotIn:=by decide):behindInMarks op b=false:=by
 have e1:(op==CmpOp.In)=false:=by cases op<;>first|rfl|exact absurd rfl h
 have e:(op==CmpOp.NotIn)=false:=by cases op<;>first|rfl|exact absurd rfl d
 cases b<;>simp[behindInMarks,e1,e]
theorem jC {op:nX}{r:R2}(e:z9 X (compareOp op) r)(f:PE X a ta)(g:PE X b tb)(i:behindInMarks op b=false):PE X (.Compare a [op] [b] pos) (kT r ta tb):=by
 intro d s σ H Q I h
 exact oH (zCI f g I h fun v u j x y l m n o q=>e d j σ l x y v u Q m n o q) i
def zEy (t:TE):TT:=fun σ H Q=>t σ H fun x H'=>∃k,x=.bl k/\Q k H'
theorem vN {op:nX}{r:R2}(f:z9 X (compareOp op) r)(g:PE X a ta)(i:PE X b tb)(j:behindInMarks op b=false):PT X (.Compare a [op] [b] pos) (zEy (kT r ta tb)):=by
 intro d s σ H Q I h
 refine km (zG (g d s σ H _ I h) fun v l ⟨x,m,n,o,p⟩=>zG (i d l σ m _ n p) fun u q ⟨y,w,A,B,C⟩=>
  zG (f d q σ w x y v u _ A o B C) fun c J ⟨z,D,E,F,k,e,G⟩=>?_) j
 subst e
 cases F
 exact cy ⟨D,E,G⟩
def zEz (r r':R2)(ta tb tc:TE):TE:=fun σ H Q=>ta σ H fun x H1=>tb σ H1 fun y H2=>r x y H2 fun z H3=>∃k,z=.bl k/\
 (if k=true then tc σ H3 fun w' H4=>r' y w' H4 Q else Q (.bl false) H3)
theorem zFA {op g:nX}{r j:R2}(p:z9 X (compareOp op) r)(i:z9 X (compareOp g) j)(q:PE X a ta)(w:PE X b tb)(A:PE X c tc)
  (B:lastMarks [op,g] [b,c]=false:=by with_unfolding_all rfl):PE X (.Compare a [op,g] [b,c] pos) (zEz r j ta tb tc):=by
 intro f s σ H Q I h
 refine Compare_chain (zG (q f s σ H _ I h) fun v C ⟨x,D,E,F,G⟩=>chain_link (zG (w f C σ D _ E G) fun u J ⟨y,L,M,l,N⟩=>
  zG (p f J σ L x y v u _ M F l N) fun d O ⟨z,m,n,P,k,e,o⟩=>?_)) B
 subst e
 cases P
 refine cy ?_
 cases k with
 |false=>exact ite_ff ⟨.bl false,m,n,rfl,o⟩
 |true=>exact ite_tt (chain_last (zG (A f O σ m _ n o) fun R T ⟨U,W,Y,Z,q4⟩=>i f T σ W y U u R Q Y l Z q4))
theorem zBA {op g:nX}{r j:R2}(p:z9 X (compareOp op) r)(i:z9 X (compareOp g) j)(q:PE X a ta)(w:PE X b tb)(A:PE X c tc)
  (B:lastMarks [op,g] [b,c]=false:=by with_unfolding_all rfl):PT X (.Compare a [op,g] [b,c] pos) (zEy (zEz r j ta tb tc)):=by
 intro f s σ H Q I h
 refine isTrue_chain (zG (q f s σ H _ I h) fun v C ⟨x,D,E,F,G⟩=>test_link (zG (w f C σ D _ E G) fun u J ⟨y,L,M,l,N⟩=>
  zG (p f J σ L x y v u _ M F l N) fun d O ⟨z,m,n,P,k,e,o⟩=>?_)) B
 subst e
 cases P
 refine cy ?_
 cases k with
 |false=>
  obtain⟨k',R,T⟩:=o
  cases R
  exact ite_ff ⟨m,n,T⟩
 |true=>
  refine ite_tt (test_last (zG (A f O σ m _ n o) fun U W ⟨Y,Z,I4,r4,q4⟩=>zG (i f W σ Z y Y u U _ I4 l r4 q4) fun d' s5 zq=>?_))
  obtain⟨z2,H5,I5,r5,k2,e2,q5⟩:=zq
  subst e2
  cases r5
  exact cy ⟨H5,I5,q5⟩
theorem zAQ:(sizeLine:Nat)<2^63:=by rw[bg];decide
theorem zCN:z9 X (binaryOp .Add) (fun x y H Q=>∃i j,x=.str i/\y=.str j/\i.length+j.length<=sizeLine/\Q (.str (i++j)) H):=by
 intro d s σ H x y v u Q I e f h
 obtain⟨i,j,rfl,rfl,hz,q⟩:=h
 obtain⟨t,rfl⟩:=e
 obtain⟨t',rfl⟩:=f
 exact add_str (fun t' tk=>⟨.str (i++j),H,I.tok _,⟨_,rfl⟩,q⟩) hz
theorem jD {x:V}{us:List ae}(r:zK [x] us):∃u,us=[u]/\zP x u:=by
 cases r with
 |cons d e=>cases e;exact⟨_,rfl,d⟩
theorem zCO {x y:V}{us:List ae}(r:zK [x,y] us):∃u d,us=[u,d]/\zP x u/\zP y d:=by
 cases r with
 |cons e f=>
  cases f with
  |cons g h=>cases h;exact⟨_,_,rfl,e,g⟩
end
structure ObjM (h:ba) (x dx C:ai) (mA:Str->Option ae):Prop where
 obj:h.get? x=some (di C dx)
 ns:h.Ns1 dx mA
 ne:dx≠x
theorem zJT {h:ba}{c:ai}{d:Str->Option ae}(n:h.Ns1 c d):∃od,h.get? c=some od/\∀name,il name od=some (d name):=by
 obtain⟨o,f,ep,g,hd,i,_,j⟩:=n
 refine⟨o,g,fun name=>?_⟩
 have e:=j name
 unfold nsFind findBy at e
 rw[<-Array.find?_toList]at e
 unfold il
 rw[hd]
 dsimp only
 split
 ·rename_i y q
  rw[q]at e
  exact congrArg some e
 ·rename_i q
  rw[q]at e
  have a:f.toList.any (·.refKey)=false:=by
   rw[List.any_eq_false]
   intro y l
   obtain⟨z,t,b⟩:=i y (Array.mem_toList_iff.mp l)
   simp[rL,b]
  have m:¬f.toList.any (·.refKey)=true:=by rw[a];exact aH
  rw[if_neg m]
  exact congrArg some e
theorem ObjM.look {h:ba}{x a C:ai}{b:Str->Option ae}(I:ObjM h x a C b):∃od,PySem.W.InstAt h x (di C a) C (some od)/\∀name,il name od=some (b name) :=
 let⟨od,c,hl⟩:=zJT I.ns
 ⟨od,⟨I.obj,rfl,rfl,c⟩,hl⟩
section
variable{prog:aB}{w:aL}{A:bJ}{E:ae->ak->Prop}{s:ak}{K:aa}{x dx C f:ai}{mA:Str->Option ae}{name:Str}{v:ae}
theorem zJU {expr:Bool}{Q:ae->ak->Prop}(X:K.In s.heap)(I:ObjM s.heap x dx C mA)(b:fW K C name=true)(c:iM K C=true)
  (d:bT K (.ref C) name=some none) (e:mA name=some v) (a:nK v=true) (h:Q v {s with toks:=s.toks+1}) :
  wpAny (model prog w) A (getAttr (.ref x) name expr) Q E s:=by
 obtain⟨od,J,hl⟩:=I.look
 exact PySem.W.get_value X J (gw b).1 (PySem.W.findObj_own c d rfl (by rw[hl,e])) a h
theorem zJV {pl:Sem Bool}{Q:ae×List ae->ak->Prop}(X:K.In s.heap)(I:ObjM s.heap x dx C mA)(a:fW K C name=true)
  (b:bT K (.ref C) name=some (some (.ref f))) (c:jk K (.ref f)=true) (d:mA name=none) (h:Q (.ref f,[.ref x]) s) :
  wpAny (model prog w) A (getMethod (.ref x) name pl) Q E s:=by
 obtain⟨od,J,hl⟩:=I.look
 exact PySem.W.method_fn X J (gw a).1 (gw a).2 b (beq_iff_eq.mp c) (by show(il name od).map (·.isSome)=some false;rw[hl,d];rfl) h
theorem zJW {ns:List Str}{Q:Unit->ak->Prop}(X:K.In s.heap)(I:ObjM s.heap x dx C mA)
  (l:bT K (.ref C) "__setattr__"=some (some (.builtin "object.__setattr__"))) (m:mO K C=true) (n:ka K C name=some none) (o:iM K C=true)
  (p:mK mA ns) (hsz:ns.length<=sizeLine)
  (h:∀h',ObjM h' x dx C (fun y=>if y=name then some v else mA y)->eN dx s.heap h'->Q () {s with heap:=h',toks:=s.toks+2}) :
  wpAny (model prog w) A (setAttr (.ref x) name v) Q E s:=by
 obtain⟨od,J,hl⟩:=I.look
 refine PySem.W.set_plain X J l (PySem.W.osa_open (s:={s with toks:=s.toks+1}) (r:=none) X J m n fun b=>?_)
 obtain⟨D,q,e⟩:=PySem.W.any_some o
 have u:s.heap.get? x=some ⟨.ref C,some dx,.plain,#[]⟩:=I.obj
 refine ah (ax (ah (ah (wpAny_loadPart u (ah (ro (s:={s with toks:=s.toks+1}) (PySem.W.looks_clsIn X q) ?_))))))
 rw[e]
 refine ax (a:=some dx) (ah (ax (ah ?_)))
 refine wpAny_nsSet1 (s:={s with toks:=s.toks+1}) I.ns fun h' c d=>?_
 obtain⟨F,z,B,g,i,j⟩:=c.count (rF name v p)
 refine ah (wpAny_lookBehind g (by rw[i];exact pastItsLine_dict (bZ j (by rw[aO];omega))) ?_)
 exact ax (h _ ⟨(d.2 _ (dC I.ne)).trans I.obj,c,I.ne⟩ d)
theorem zJX {R:oK->ak->Prop}{vs:List ae}{a:List (Str×ae)}(X:K.In s.heap)(b:kc K C=true)
  (hi:bT K (.ref C) "__init__"=some (some (.ref f))) (c:PySem.W.typeIn K (.ref f)=some (.type "function"))
  (h:codeAny (model prog w) (A.under (.builtin "type.__call__" ⟨.ref C::vs,a⟩)) (.call (.ref f) ⟨.ref (s.heap.objs.size+1)::vs,a⟩) (PySem.W.InitBack (s.heap.objs.size+1) R)
   {s with heap:=(s.heap.push cz).push (di C s.heap.objs.size)}) :
  codeAny (model prog w) A (.call (.ref C) ⟨vs,a⟩) R s:=by
 obtain⟨e,g,d,t,os⟩:=s
 exact PySem.W.make_core (PySem.W.makes_of X b) (PySem.W.looks_findIn X hi) (fun self=>PySem.W.bind_fn X self c) (.inl rfl) h
end
def vF (f:Str)(v:V):List (Str×V)->List (Str×V)
 | []=>[(f,v)]
 |(g,x)::r=>if g=f then(g,v)::r else(g,x)::vF f v r
theorem zFB (f g:Str)(v:V):∀fs:List (Str×V),(vF f v fs).lookup g=if g=f then some v else fs.lookup g
 | []=>by
  show fb g [(f,v)]=_
  by_cases h:g=f
  ·have a:(g==f)=true:=beq_iff_eq.mpr h
   simp only[fb,a,if_pos h]
  ·have a:(g==f)=false:=beq_eq_false_iff_ne.mpr h
   simp only[fb,a,if_neg h]
 |(k,x)::r=>by
  have ih:=zFB f g v r
  rw[show vF f v ((k,x)::r)=(if k=f then(k,v)::r else(k,x)::vF f v r)from rfl]
  by_cases b:k=f
  ·rw[if_pos b]
   by_cases h:g=k
   ·have a:(g==k)=true:=beq_iff_eq.mpr h
    simp only[fb,a,if_pos (h.trans b)]
   ·have a:(g==k)=false:=beq_eq_false_iff_ne.mpr h
    simp only[fb,a,if_neg (fun e:g=f=>h (e.trans b.symm))]
  ·rw[if_neg b]
   by_cases h:g=k
   ·have a:(g==k)=true:=beq_iff_eq.mpr h
    simp only[fb,a,if_neg (fun e:g=f=>b (h.symm.trans e))]
   ·have a:(g==k)=false:=beq_eq_false_iff_ne.mpr h
    simp only[fb,a]
    exact ih
theorem zCP (f:Str)(v:V):∀fs:List (Str×V),f∈(vF f v fs).map (·.1)/\∀g,g∈fs.map (·.1)->g∈(vF f v fs).map (·.1)
 | []=>⟨by simp[vF],fun g h=>by simp at h⟩
 |(k,x)::r=>by
  obtain⟨b,c⟩:=zCP f v r
  rw[show vF f v ((k,x)::r)=(if k=f then(k,v)::r else(k,x)::vF f v r)from rfl]
  by_cases a:k=f
  ·rw[if_pos a]
   subst a
   exact⟨by simp,fun g h=>by simpa using h⟩
  ·rw[if_neg a]
   refine⟨?_,fun g h=>?_⟩
   ·rw[aP]
    exact az _ b
   ·rw[aP]at h⊢
    rcases aD.mp h with e|e
    ·exact aD.mpr (.inl e)
    ·exact az _ (c g e)
theorem zFC (f:Str)(v:V):∀fs:List (Str×V),(vF f v fs).length<=fs.length+1
 | []=>by simp[vF]
 |(k,x)::r=>by
  have ih:=zFC f v r
  rw[show vF f v ((k,x)::r)=(if k=f then(k,v)::r else(k,x)::vF f v r)from rfl]
  by_cases a:k=f
  ·rw[if_pos a,aO,aO];omega
  ·rw[if_neg a,aO,aO];omega
theorem vR.some_of {v:V}{o:Option ae}(r:vR (some v) o):∃u,o=some u/\zP v u:=by
 cases o with
 |none=>exact(show False from r).elim
 |some u=>exact⟨u,rfl,r⟩
theorem vR.none_of {o:Option ae}(r:vR none o):o=none:=by
 cases o with
 |none=>rfl
 |some u=>exact(show False from r).elim
theorem zJY {v:V}{u:ae}(r:zP v u):nK u=true:=by
 cases v with
 |non=>cases(show u=Value.none from r);rfl
 |bl b=>cases(show u=Value.bool b from r);rfl
 |int i=>obtain⟨t,e⟩:=(show∃t,u=Value.int i t from r);cases e;rfl
 |str x=>obtain⟨t,e⟩:=(show∃t,u=Value.str x t from r);cases e;rfl
 |byt b=>obtain⟨t,e⟩:=(show∃t,u=Value.bytes b t from r);cases e;rfl
 |flt b=>obtain⟨t,e⟩:=(show∃t,u=Value.float b t from r);cases e;rfl
 |ref a=>cases(show u=Value.ref a from r);rfl
 |ty n=>cases(show u=Value.type n from r);rfl
section
variable{P:aB}{w:aL}{H H':Hp}{h h':ba}{a C dx:ai}{fs fs':List (Str×V)}
theorem zBB (hok:zV P w H h)(e:H a=some (.ins C dx fs)):∃b,ObjM h a dx C b/\(∀f,vR (fs.lookup f) (b f))/\mK b (fs.map (·.1))/\fs.length<=1000/\H dx=some (.own a):=by
 obtain⟨d,z,ne,ob,b,n,r,q⟩:=(show yA P w H h a (.ins C dx fs)from hok a _ e)
 exact⟨b,⟨ob,n,ne⟩,r,q,z,d⟩
end
structure Cls (K:aa) (C:ai):Prop where
 pg:fW K C rM=true
 hd:iM K C=true
 po:mO K C=true
 sa:bT K (.ref C) "__setattr__"=some (some (.builtin "object.__setattr__"))
theorem Cls.get {K:aa}{C:ai}(c:Cls K C)(f:Str):fW K C f=true:=c.pg
def jE (K:aa)(C:ai)(f:Str):Prop:=bT K (.ref C) f=some none
theorem jE.taker {K:aa}{C:ai}{f:Str}(n:jE K C f):ka K C f=some none:=by
 unfold ka
 rw[show bT K (.ref C) f=some none from n]
 rfl
structure Meth (K:aa) (C:ai) (m:Str) (f:ai):Prop where
 at_:bT K (.ref C) m=some (some (.ref f))
 fn:jk K (.ref f)=true
 kp:bU K (.ref f)=true
section
variable{X:Cx}{pins:List (ai×Obj)}{σ:St}{H:Hp}{s:ak}{a C dx:ai}{fs:List (Str×V)}{f:Str}{v:V}{A:bJ}{E:ae->ak->Prop}
theorem zJZ {b:Bool}{Q:ae->ak->Prop}(I:Inv X pins σ H s)(e:H a=some (.ins C dx fs))(c:Cls X.K C)(n:jE X.K C f)(l:fs.lookup f=some v)
  (h:∀u s',Inv X pins σ H s'->zP v u->Q u s'):wpAny (model X.prog X.w) A (getAttr (.ref a) f b) Q E s:=by
 obtain⟨g,O,r,_,_,_⟩:=zBB I.hok e
 obtain⟨u,i,d⟩:=vR.some_of (v:=v) (o:=g f) (by rw[<-l];exact r f)
 exact zJU I.kIn O (c.get f) c.hd n i (zJY d) (h u _ (I.tok _) d)
theorem zFD {m:Str}{g:ai}{pl:Sem Bool}{Q:ae×List ae->ak->Prop}(I:Inv X pins σ H s)(e:H a=some (.ins C dx fs))(c:Cls X.K C)(k:Meth X.K C m g)(l:fs.lookup m=none)
  (h:Q (.ref g,[.ref a]) s):wpAny (model X.prog X.w) A (getMethod (.ref a) m pl) Q E s:=by
 obtain⟨b,O,r,_,_,_⟩:=zBB I.hok e
 have d:b m=none:=vR.none_of (by rw[<-l];exact r m)
 exact zJV I.kIn O (c.get m) k.at_ k.fn d h
theorem zJa {y:V}{u:ae}{Q:Unit->ak->Prop}(I:Inv X pins σ H s)(e:H a=some (.ins C dx fs))(c:Cls X.K C)(n:jE X.K C f)(hl:fs.length<1000)(m:zP y u)
  (h:∀s',Inv X pins σ (upd H a (.ins C dx (vF f y fs))) s'->Q () s'):wpAny (model X.prog X.w) A (setAttr (.ref a) f u) Q E s:=by
 obtain⟨i,O,r,j,_,l⟩:=zBB I.hok e
 have hz:(fs.map (·.1)).length<=sizeLine:=by rw[aj,bg];omega
 refine zJW I.kIn O c.sa c.po n.taker c.hd j hz fun h' d p=>h _ ?_
 have hd:∃o,h'.get? dx=some o:=let⟨o,_,_,B,_⟩:=d.ns;⟨o,B⟩
 refine I.write (x:=a) (e:=dx) (by rw[e];exact True.intro) (.inr l) (fun b q D z=>(p.2 b D).trans z) hd ?_
 refine⟨by rw[zF O.ne];exact l,?_,O.ne,d.obj,_,d.ns,fun g=>?_,fun g F=>?_⟩
 ·have:=zFC f y fs;omega
 ·show vR ((vF f y fs).lookup g) (if g=f then some u else i g)
  rw[zFB]
  by_cases q:g=f
  ·rw[if_pos q,if_pos q];exact m
  ·rw[if_neg q,if_neg q];exact r g
 ·by_cases q:g=f
  ·rw[q];exact(zCP f y fs).1
  ·refine(zCP f y fs).2 g (j g fun z=>F ?_)
   show(if g=f then some u else i g)=none
   rw[if_neg q];exact z
theorem Inv.made (I:Inv X pins σ H s):Inv X pins σ (upd (upd H s.heap.objs.size (.own (s.heap.objs.size+1))) (s.heap.objs.size+1) (.ins C s.heap.objs.size []))
  {s with heap:=(s.heap.push cz).push (di C s.heap.objs.size)}:=by
 have e1:(s.heap.push cz).get? s.heap.objs.size=some cz:=ay s.heap rfl
 have c:((s.heap.push cz).push (di C s.heap.objs.size)).get? (s.heap.objs.size+1)=some (di C s.heap.objs.size):=by
  have:=ay (s.heap.push cz) (o:=di C s.heap.objs.size) rfl
  rwa [bz]at this
 have d:(s.heap.push cz).Ns s.heap.objs.size (fun _=>none):=⟨cz,#[],_,e1,rfl,(fun e he=>absurd he (by simp)),fun _=>rfl⟩
 have g:=I.laid (a:=s.heap.objs.size) (o:=.own (s.heap.objs.size+1)) (h':=s.heap.push cz) (t':=s.toks) (fun b u q=>ag _ q) (aw _) ⟨_,e1⟩
 refine g.laid (a:=s.heap.objs.size+1) (o:=.ins C s.heap.objs.size []) (t':=s.toks) (fun b u q=>ag _ q) (d5 (bz _ _)) ?_
 have ne:s.heap.objs.size≠s.heap.objs.size+1:=aM (bO _)
 refine⟨by rw[zF ne,zI],bh _,ne,c,fun _=>none,(Heap.Ns1.of_empty d).at fun o q=>ag _ q,fun _=>True.intro,fun y h=>absurd rfl h⟩
theorem zJb {prog:aB}{w:aL}{env:Env}{e:bD}{f:Str}{pos:Pos}{s:ak}{Q:ae->ak->Prop}(b:attributeBase e f env (eval e env)=eval e env)
  (h:wpAny (model prog w) A (eval e env) (fun o c=>wpAny (model prog w) A (getAttr o f true) Q E c) E s):wpAny (model prog w) A (eval (.Attribute e f pos) env) Q E s :=
 Attribute_any_ h (by rw[arm_eval_Attribute,b])
end
def zFE (K:aa)(ta:TE)(f:Str):TE:=fun σ H Q=>ta σ H fun x H1=>∃a C dx fs v,x=.ref a/\H1 a=some (.ins C dx fs)/\Cls K C/\jE K C f/\fs.lookup f=some v/\Q v H1
def zJc (K:aa)(ta tv:TE)(f:Str):TS:=fun D σ H=>tv σ H fun y H1=>ta σ H1 fun x H2=>∃a C dx fs,x=.ref a/\H2 a=some (.ins C dx fs)/\Cls K C/\jE K C f/\fs.length<1000/\
 D.nx σ (upd H2 a (.ins C dx (vF f y fs)))
section
variable{X:Cx}{o e value:bD}{f:Str}{pos pos' tpos:Pos}{ta tv:TE}
theorem jF (he:PE X e ta)(d:attributeBase e f X.env (eval e X.env)=eval e X.env):PE X (.Attribute e f pos) (zFE X.K ta f):=by
 intro b s σ H Q I h
 refine zJb d (zG (he b s σ H _ I h) fun u w zq=>?_)
 obtain⟨x,g,i,j,a,C,y,fs,v,ex,m,c,n,l,q⟩:=zq
 subst ex
 obtain rfl:u=Value.ref a:=j
 exact zJZ i m c n l fun z A p r=>⟨v,g,p,r,q⟩
theorem gU (d:PE X o ta)(g:PE X value tv)(i:swapsWith value (some (.Attribute o f pos')) pos.line X.env=pure false):PS X (.Assign [.Attribute o f pos'] value pos) (zJc X.K ta tv f):=by
 intro b s σ H D I h
 refine plainObj_wpAny_Assign_Attribute (zG (g b s σ H _ I h) fun u j ⟨y,m,p,r,q⟩=>zG (d b j σ m _ p q) fun v F zq=>?_) i
 obtain⟨x,G,w,z,a,C,J,fs,ex,A,c,n,l,B⟩:=zq
 subst ex
 obtain rfl:v=Value.ref a:=z
 exact zJa w A c n l r fun L E=>⟨σ,_,E,B⟩
end
section
variable{X:Cx}{pins:List (ai×Obj)}{σ:St}{H:Hp}{s:ak}{A:bJ}{E:ae->ak->Prop}{Q:ae->ak->Prop}{c:ae}{b:Bool}
inductive TyOf (K:aa) (H:Hp):V->ae->Prop where
 |non:TyOf K H .non (.type "NoneType")
 |bl (x:Bool):TyOf K H (.bl x) (.type "bool")
 |int (i:Int):TyOf K H (.int i) (.type "int")
 |str (x:Str):TyOf K H (.str x) (.type "str")
 |flt (x:UInt64):TyOf K H (.flt x) (.type "float")
 |lst {a:ai} {xs:List V} (e:H a=some (.lst xs)):TyOf K H (.ref a) (.type "list")
 |frz {a:ai} {o:Obj} {xs:List V} (e:H a=some (.frz o (.lst xs))):TyOf K H (.ref a) (.type "list")
 |tup {a:ai} {xs:List V} (e:H a=some (.tup xs)):TyOf K H (.ref a) (.type "tuple")
 |dK {a:ai} {kvs:List (zU×V)} (e:H a=some (.dK kvs)):TyOf K H (.ref a) (.type "dict")
 |dT {a:ai} {kvs:List (List zW×V)} (e:H a=some (.dT kvs)):TyOf K H (.ref a) (.type "dict")
 |ins {a C dx:ai} {fs:List (Str×V)} (e:H a=some (.ins C dx fs)) (cl:Cls K C) (ha:bT K (.ref C) "__class__"=some (some (.builtin "object.__class__")))
   (hn:iN K (.builtin "object.__class__") "__get__"=some (some (.builtin "getset_descriptor.__get__"))) (htk:PySem.W.takesIn K (.builtin "object.__class__")=some true)
   (hm:PySem.W.mroIn K C (.type "object")=some true):TyOf K H (.ref a) (.ref C)
theorem zJd {x:V}{u t:ae}(I:Inv X pins σ H s)(d:zP x u)(ty:TyOf X.K H x t)(e:br X.K t c=some b)(h:∀tk,Q (.bool b) {s with toks:=tk}) :
  wpAny (model X.prog X.w) A (call (.builtin "isinstance") [u,c]) Q E s:=by
 cases ty with
 |non=>cases(show u=Value.none from d);exact cp PySem.W.kitx_none I.kIn True.intro e (fun z=>nomatch z) h
 |bl y=>cases(show u=Value.bool y from d);exact cp PySem.W.kitx_bool I.kIn True.intro e (fun z=>nomatch z) h
 |int i=>obtain⟨t,q⟩:=(show∃t,u=Value.int i t from d);cases q;exact cp PySem.W.kitx_int I.kIn True.intro e (fun z=>nomatch z) h
 |str y=>obtain⟨t,q⟩:=(show∃t,u=Value.str y t from d);cases q;exact cp PySem.W.kitx_str I.kIn True.intro e (fun z=>nomatch z) h
 |flt y=>obtain⟨t,q⟩:=(show∃t,u=Value.float y t from d);cases q;exact cp PySem.W.kitx_float I.kIn True.intro e (fun z=>nomatch z) h
 | @lst a xs f=>
  cases(show u=Value.ref a from d)
  obtain⟨_,_,n,_,g⟩:=(show yA X.prog X.w H s.heap a (.lst xs)from I.hok a _ f)
  exact cp mP I.kIn ⟨_,g,rfl⟩ e (fun z=>nomatch z) h
 | @frz a ob xs f=>
  cases(show u=Value.ref a from d)
  obtain⟨_,_,_,n,_,g⟩:=(show yA X.prog X.w H s.heap a (.frz ob (.lst xs))from I.hok a _ f)
  exact cp mP I.kIn ⟨_,g,rfl⟩ e (fun z=>nomatch z) h
 | @tup a xs f=>
  cases(show u=Value.ref a from d)
  obtain⟨_,_,_,p⟩:=(show yA X.prog X.w H s.heap a (.tup xs)from I.hok a _ f)
  obtain⟨o,g,j,_⟩:=p
  exact cp PySem.W.kitx_tuple I.kIn ⟨o,g,j⟩ e (fun z=>nomatch z) h
 | @dK a kvs f=>
  cases(show u=Value.ref a from d)
  obtain⟨_,_,vs,_,p⟩:=(show yA X.prog X.w H s.heap a (.dK kvs)from I.hok a _ f)
  obtain⟨o,r,ep,g,j,_⟩:=p
  exact cp mQ I.kIn ⟨o,g,j.1⟩ e (fun z=>nomatch z) h
 | @dT a kvs f=>
  cases(show u=Value.ref a from d)
  obtain⟨_,_,xs,_,o,r,ep,g,j,_⟩:=(show yA X.prog X.w H s.heap a (.dT kvs)from I.hok a _ f)
  exact cp mQ I.kIn ⟨o,g,j.1⟩ e (fun z=>nomatch z) h
 | @ins a C F fs f m v B l D=>
  cases(show u=Value.ref a from d)
  obtain⟨G,O,_⟩:=zBB I.hok f
  obtain⟨od,J,_⟩:=O.look
  exact cp (PySem.W.kitx_own (m.get _) m.hd v B l D) I.kIn J e (fun z=>nomatch z) h
end
structure Room (k:Nat) (A:bJ):Prop where
 hd:A.handled=none
 dp:A.depth+3*k+5<recursionLimit
 un:A.units+16*k+200<cLine
theorem Room.mono {j k:Nat}{A:bJ}(r:Room k A)(h:j<=k):Room j A:=⟨r.hd,by have:=r.dp;omega,by have:=r.un;omega⟩
theorem Room.deeper {k:Nat}{A:bJ}(r:Room (k+1) A)(env:Env):Room k (A.deeper env) :=
 ⟨r.hd,by have:=r.dp;show A.depth+1+3*k+5<_;omega,by have:=r.un;show A.units+3+16*k+200<_;omega⟩
theorem Room.in1 {k:Nat}{A:bJ}(r:Room (k+1) A):Room k A.in1 :=
 ⟨r.hd,by have:=r.dp;show A.depth+3*k+5<_;omega,by have:=r.un;show A.units+1+16*k+200<_;omega⟩
theorem zJe {A:bJ}{C:ai}{us:List ae}{a:List (Str×ae)}:(A.under (.builtin "type.__call__" ⟨.ref C::us,a⟩)).depth=A.depth+1:=by
 first|rfl|simp[mR,Code.weight,Code.isCreation,Code.isGuard,Code.isCaller,qo,mU,guardIds]
theorem zJf {A:bJ}{C:ai}{us:List ae}{a:List (Str×ae)}:(A.under (.builtin "type.__call__" ⟨.ref C::us,a⟩)).units=A.units+1:=by
 first|rfl|simp[mR,Code.cUnits,qo,mU]
theorem Room.make {k:Nat}{A:bJ}(r:Room (k+1) A)(C:ai)(us:List ae)(a:List (Str×ae)):Room k (A.under (.builtin "type.__call__" ⟨.ref C::us,a⟩)) :=
 ⟨r.hd,by have:=r.dp;rw[zJe];omega,by have:=r.un;rw[zJf];omega⟩
theorem Room.depth {k:Nat}{A:bJ}(r:Room k A):A.depth<recursionLimit:=by have:=r.dp;omega
theorem Room.units {k:Nat}{A:bJ}(r:Room k A):A.units+64<cLine:=by have:=r.un;omega
def qI:TA:=fun _ H Q=>Q [] H
def qJ (ta:TE)(tr:TA):TA:=fun σ H Q=>ta σ H fun x H1=>tr σ H1 fun xs H2=>Q (x::xs) H2
section
variable{X:Cx}{e:bD}{es:List bD}{te:TE}{t:TA}{pos:Pos}
theorem zC:PA X [] qI:=fun _ _ _ _ H Q I h=>fz ⟨[],H,I,.nil,h⟩
theorem zA (b:PE X e te)(c:PA X es t)(d:starEach (e::es) X.env=(false,eval e X.env)::starEach es X.env:=by rfl):PA X (e::es) (qJ te t):=by
 intro pos a s σ H Q I h
 rw[d]
 show wpAny _ _ (spliced ((false,eval e X.env)::backTo pos (starEach es X.env))) _ _ s
 refine d6 (zG (b a s σ H _ I h) fun u f zq=>?_)
 obtain⟨x,g,i,j,l⟩:=zq
 exact zG (c pos a f σ g _ i l) fun us q ⟨xs,m,n,o,p⟩=>⟨x::xs,m,n,.cons j o,p⟩
def zJg (t:TA):TE:=fun σ H Q=>t σ H fun xs H1=>xs.length<=sizeLine/\∀p,H1 p=none->Q (.ref p) (upd H1 p (.tup xs))
def zJh (t:TA):TE:=fun σ H Q=>t σ H fun xs H1=>xs.length<=sizeLine/\∀p,H1 p=none->Q (.ref p) (upd H1 p (.lst xs))
theorem jY {g}(h:PA X es t):PE X (.Tuple es g pos) (zJg t):=by
 intro a s σ H Q I i
 refine wpAny_Tuple_spliced (zG (h pos a s σ H _ I i) fun us c ⟨xs,d,f,r,z,q⟩=>⟨by rw[<-r.length];exact z,?_⟩)
 have j:d c.heap.objs.size=none:=f.hok.fresh (aw _)
 refine⟨.ref c.heap.objs.size,upd d c.heap.objs.size (.tup xs),f.laid (t':=c.toks) (fun b u e=>ag _ e) (aw _) ?_,rfl,q _ j⟩
 exact⟨z,us,r,⟨_,ay _ rfl,rfl,_,rfl⟩⟩
theorem uM (h:PA X es t):PE X (.List es pos) (zJh t):=by
 intro a s σ H Q I g
 refine wpAny_List_spliced (zG (h pos a s σ H _ I g) fun us c ⟨xs,d,f,r,z,q⟩=>⟨by rw[<-r.length];exact z,?_⟩)
 have i:d c.heap.objs.size=none:=f.hok.fresh (aw _)
 refine⟨.ref c.heap.objs.size,upd d c.heap.objs.size (.lst xs),f.laid (t':=c.toks) (fun b u e=>ag _ e) (aw _) ?_,rfl,q _ i⟩
 exact⟨z,us,0,r,ay _ rfl⟩
end
abbrev Sp:=List V->Hp->VK->XK->Prop
abbrev uN:=List Env->Hp->ak->XK->ae->ak->Prop
structure Env0 (P:aB) (w:aL) (K:aa) (mg:Str->Option ae) (base:ba) (A:bJ) (outer:List Env) (s:ak) (H:Hp):Prop where
 frames:A.frames=some outer
 mod:Mod K mg base
 bs:∀b o,base.get? b=some o->s.heap.get? b=some o/\H b=none
 bsz:base.objs.size<=s.heap.objs.size
 funs:s.heap.FunFrames base outer
 frf:∀b∈yV outer,H b=none
 hok:zV P w H s.heap
 bare:gy s.gens
def CE (outer:List Env)(P:aB)(w:aL)(H:Hp)(s:ak)(Q:VK)(u:ae)(s':ak):Prop :=
 ∃v H',s'.os=s.os/\gy s'.gens/\Un (yV outer) [] H H' s.heap s'.heap/\zV P w H' s'.heap/\zP v u/\Q v H'
def CR (CX:uN)(outer:List Env)(P:aB)(w:aL)(H:Hp)(s:ak)(Q:VK)(E:XK)(r:oK)(s':ak):Prop :=
 match r with
 | .ok (.ret u)=>CE outer P w H s Q u s'
 | .ok _=>False
 | .error e=>CX outer H s E e s'
structure FnOk (P:aB) (w:aL) (K:aa) (mg:Str->Option ae) (base:ba) (CX:uN) (k:Nat) (f:ai) (fd:aE) (ps:List Str) (sp:Sp):Prop where
 len:∀vs H Q E,sp vs H Q E->vs.length=ps.length
 run:∀(A:bJ) (outer:List Env) (s:ak) (H:Hp) (args:Args) (us:List ae) (vs:List V) (Q:VK) (E:XK),Room k A->Env0 P w K mg base A outer s H->lN s fd args (ps.zip us)->zK vs us->sp vs H Q E->
  codeAny (model P w) A (.call (.ref f) args) (CR CX outer P w H s Q E) s
theorem FnOk.imp {P:aB}{w:aL}{K:aa}{mg:Str->Option ae}{base:ba}{CX:uN}{k:Nat}{f:ai}{fd:aE}{b:List Str}{sp a:Sp}(F:FnOk P w K mg base CX k f fd b sp)
  (h:∀vs H Q E,a vs H Q E->sp vs H Q E):FnOk P w K mg base CX k f fd b a :=
 ⟨fun vs H Q E q=>F.len vs H Q E (h _ _ _ _ q),fun A outer s H args us vs Q E c he d e g=>F.run A outer s H args us vs Q E c he d e (h _ _ _ _ g)⟩
theorem Env0.make {P:aB}{w:aL}{K:aa}{mg:Str->Option ae}{base:ba}{A:bJ}{outer:List Env}{s:ak}{H:Hp}(e:Env0 P w K mg base A outer s H)(C:ai)(us:List ae)(a:List (Str×ae)) :
  Env0 P w K mg base (A.under (.builtin "type.__call__" ⟨.ref C::us,a⟩)) outer s H:=⟨by first|exact e.frames|(simpa [mR,Code.envs,mU,pushEnvs]using e.frames),e.mod,e.bs,e.bsz,e.funs,e.frf,e.hok,e.bare⟩
theorem Env0.in1 {P:aB}{w:aL}{K:aa}{mg:Str->Option ae}{base:ba}{A:bJ}{outer:List Env}{s:ak}{H:Hp}(e:Env0 P w K mg base A outer s H) :
  Env0 P w K mg base A.in1 outer s H:=⟨e.frames,e.mod,e.bs,e.bsz,e.funs,e.frf,e.hok,e.bare⟩
section
variable{X:Cx}{pins:List (ai×Obj)}{σ:St}{H:Hp}{s s':ak}
theorem Inv.env0 (I:Inv X pins σ H s):Env0 X.prog X.w X.K X.mg X.base X.A X.stack s H :=
 ⟨I.ok.frames,I.ok.mod,I.bs,bZ I.ok.bsz I.sz,I.stack,I.stkFree,I.hok,I.bare⟩
theorem Inv.after {Q:VK}{u:ae}(I:Inv X pins σ H s)(h:CE X.stack X.prog X.w H s Q u s'):EP X pins σ Q u s':=by
 obtain⟨v,H',os,bare,un,hok,r,q⟩:=h
 obtain⟨c,g,d,t,a⟩:=s'
 obtain rfl:a=s.os:=os
 exact⟨v,H',I.call (h':=c) (g':=g) (d':=d) (t':=t) (ch:=[]) un hok bare (fun b z=>absurd z (by simp)),r,q⟩
end
def jG (sp:Sp)(dvs:List V)(E:XK)(t:TA):TE:=fun σ H Q=>t σ H fun vs H1=>sp (vs++dvs) H1 Q E
def zBC (C:ai)(m:Str)(sp:Sp)(dvs:List V)(E:XK)(ta:TE)(t:TA):TE:=fun σ H Q=>ta σ H fun x H1=>∃a dx fs,x=.ref a/\H1 a=some (.ins C dx fs)/\fs.lookup m=none/\
 t σ H1 fun vs H2=>sp (x::(vs++dvs)) H2 Q E
def zCQ (C:ai)(sp:Sp)(dvs:List V)(E:XK)(t:TA):TE:=fun σ H Q=>t σ H fun vs H1=>∀x dx,H1 x=none->H1 dx=none->dx≠x->
 sp (.ref x::(vs++dvs)) (upd (upd H1 dx (.own x)) x (.ins C dx [])) (fun v H2=>v=.non/\Q (.ref x) H2) E
def vG (K:aa)(fd:aE)(ps:List Str)(ds:List ae):Prop :=
 ∀(s:ak) (us:List ae),K.In s.heap->(us++ds).length=ps.length->lN s fd ⟨us,[]⟩ (ps.zip (us++ds))
theorem vG.all {K:aa}{fd:aE}{a:List Str}(h:∀us:List ae,us.length=a.length->bindArgs fd ⟨us,[]⟩=pure (a.zip us)):vG K fd a []:=fun s us _ hl=>by
 rw[gr]at hl⊢
 exact .of_eq (h us hl)
def jH (CX:uN)(X:Cx)(E:XK):Prop:=∀(pins:List (ai×Obj)) (σ:St) (H:Hp) (s:ak) (e:ae) (s':ak),Inv X pins σ H s->CX X.stack H s E e s'->X.xe e s'
section
variable{X:Cx}{CX:uN}{k:Nat}{f C:ai}{fd:aE}{ps:List Str}{sp:Sp}{dvs:List V}{ds:List ae}{E:XK}{x m:Str}{p pos apos:Pos}{e o:bD}{es:List bD}{ta:TE}{t:TA}
theorem zBD {a:List (ai×Obj)}{σ:St}{H:Hp}{s:ak}{Q:VK}{us:List ae}{vs:List V}(F:FnOk X.prog X.w X.K X.mg X.base CX k f fd ps sp)(d:Room k X.A)(g:vG X.K fd ps ds)(hd:zK dvs ds)(i:jH CX X E)
  (I:Inv X a σ H s) (r:zK vs us) (h:sp (vs++dvs) H Q E):wpAny (model X.prog X.w) X.A (call (.ref f) us) (EP X a σ Q) X.xe s:=by
 have c:zK (vs++dvs) (us++ds):=r.append hd
 have hl:(us++ds).length=ps.length:=by rw[<-c.length];exact F.len _ _ _ _ h
 refine oM (dI (F.run X.A X.stack s H ⟨us,[]⟩ (us++ds) (vs++dvs) Q E d I.env0 (g s us I.kIn hl) c h) fun r s' b=>?_)
 cases r with
 |error e=>exact i a σ H s e s' I b
 |ok j=>
  cases j with
  |ret u=>exact I.after b
  |next=>exact dj b
  |brk=>exact dj b
  |cont=>exact dj b
theorem zFF (F:FnOk X.prog X.w X.K X.mg X.base CX k f fd ps sp)(g:Room k X.A)(i:Gl X x)(j:X.mg x=some (.ref f))(l:bU X.K (.ref f)=true)(n:vG X.K fd ps ds)(hd:zK dvs ds)(u:jH CX X E)
  (v:PA X (e::es) t) (b:(x==("__debug__" : Str))=false:=by decide) (he:starEach (e::es) X.env=(false,eval e X.env)::starEach es X.env:=by rfl) (c:(backTo pos (starEach es X.env)).any (·.1)=false:=by rfl) :
  PE X (.Call (.Name x p) (e::es) [] pos) (jG sp dvs E t):=by
 intro a s σ H Q I h
 refine dw (zAt I i j ?_ b)
 refine eZ (h₀:=X.base) I.ok.mod.kin l (zG (v pos a s σ H _ I h) fun us y ⟨vs,z,d,r,q⟩=>⟨d.kIn,?_⟩) he c
 exact zBD F g n hd u d r q
theorem zJi {pl:Sem Bool}(he:PE X o ta)(c:Cls X.K C)(i:Meth X.K C m f)(F:FnOk X.prog X.w X.K X.mg X.base CX k f fd ps sp)(y:Room k X.A)(z:vG X.K fd ps ds)(hd:zK dvs ds)(B:jH CX X E)(D:PA X (e::es) t)
  (d:starEach (e::es) X.env=(false,eval e X.env)::starEach es X.env:=by rfl) (g:(backTo pos (starEach es X.env)).any (·.1)=false:=by rfl)
  (G:eval (.Call (.Attribute o m apos) (e::es) [] pos) X.env=(do
   let j<-eval o X.env
   standAt apos.atName
   let(f,first)<-holding [j] (getMethod j m pl)
   callWith pos f first (backTo pos (starEach (e::es) X.env)) (backToKw pos (keywordEach [] X.env))):=by rfl) :
  PE X (.Call (.Attribute o m apos) (e::es) [] pos) (zBC C m sp dvs E ta t):=by
 intro b s σ H Q I h
 refine fQ (pl:=pl) (zG (he b s σ H _ I h) fun u J zq=>?_) G
 obtain⟨x,L,n,M,a,P,fs,ex,N,l,q⟩:=zq
 subst ex
 obtain rfl:u=Value.ref a:=M
 refine zFD n N c i l ?_
 refine eZ (first:=[.ref a]) (h₀:=X.base) I.ok.mod.kin i.kp (zG (D pos b J σ L _ n q) fun us R ⟨vs,T,v,r,O⟩=>⟨v.kIn,?_⟩) d g
 exact zBD (us:=.ref a::us) (vs:=.ref a::vs) F y z hd B v (.cons rfl r) O
theorem zJj {pl:Sem Bool}(he:PE X o ta)(c:Cls X.K C)(g:Meth X.K C m f)(F:FnOk X.prog X.w X.K X.mg X.base CX k f fd ps sp)(j:Room k X.A)(n:vG X.K fd ps ds)(hd:zK dvs ds)(r:jH CX X E)
  (v:eval (.Call (.Attribute o m apos) [] [] pos) X.env=(do
   let i<-eval o X.env
   standAt apos.atName
   let(f,first)<-holding [i] (getMethod i m pl)
   callWith pos f first (backTo pos (starEach [] X.env)) (backToKw pos (keywordEach [] X.env))):=by rfl) :
  PE X (.Call (.Attribute o m apos) [] [] pos) (zBC C m sp dvs E ta qI):=by
 intro b s σ H Q I h
 refine fQ (pl:=pl) (zG (he b s σ H _ I h) fun u B zq=>?_) v
 obtain⟨x,D,d,y,a,G,fs,ex,z,l,q⟩:=zq
 subst ex
 obtain rfl:u=Value.ref a:=y
 refine zFD d z c g l ?_
 exact PySem.W.callWith_K0 (first:=[.ref a]) d.kIn g.kp (zBD (us:=[.ref a]) (vs:=[.ref a]) F j n hd r d (.cons rfl .nil) q)
structure Mk (K:aa) (C f:ai):Prop where
 makes:kc K C=true
 init:bT K (.ref C) "__init__"=some (some (.ref f))
 fn:jk K (.ref f)=true
 kp:bU K (.ref C)=true
theorem zJk {a:List (ai×Obj)}{σ:St}{H:Hp}{s:ak}{Q:VK}{us:List ae}{vs:List V}(M:Mk X.K C f)(F:FnOk X.prog X.w X.K X.mg X.base CX k f fd ps sp)(j:Room (k+1) X.A)(l:vG X.K fd ps ds)(hd:zK dvs ds)
  (n:jH CX X E) (I:Inv X a σ H s) (r:zK vs us)
  (h:∀x c,H x=none->H c=none->c≠x->sp (.ref x::(vs++dvs)) (upd (upd H c (.own x)) x (.ins C c [])) (fun v q=>v=.non/\Q (.ref x) q) E) :
  wpAny (model X.prog X.w) X.A (call (.ref C) us) (EP X a σ Q) X.xe s:=by
 have g:=h (s.heap.objs.size+1) s.heap.objs.size (I.hok.fresh (fc _)) (I.hok.fresh (aw _)) (aM (bO _))
 have d:=Inv.made (C:=C) I
 have i:zK (V.ref (s.heap.objs.size+1)::(vs++dvs)) (Value.ref (s.heap.objs.size+1)::(us++ds)):=.cons rfl (r.append hd)
 have hl:(Value.ref (s.heap.objs.size+1)::us++ds).length=ps.length:=by
  have e:=i.length
  rw[F.len _ _ _ _ g]at e
  exact e.symm
 refine oM (zJX (f:=f) I.kIn M.makes M.init (beq_iff_eq.mp M.fn) (dI (F.run _ X.stack _ _ ⟨Value.ref (s.heap.objs.size+1)::us,[]⟩ (Value.ref (s.heap.objs.size+1)::(us++ds)) _ _ E (j.make C us [])
  (d.env0.make C us []) (l _ (Value.ref (s.heap.objs.size+1)::us) d.kIn hl) i g) fun r s' b=>?_))
 cases r with
 |error e=>exact n a σ _ _ e s' d b
 |ok y=>
  cases y with
  |ret u=>
   obtain⟨v,H',z,B,ev,D⟩:=d.after b
   subst ev
   exact⟨B,⟨V.ref (s.heap.objs.size+1),H',z,rfl,D⟩⟩
  |next=>exact dj b
  |brk=>exact dj b
  |cont=>exact dj b
theorem zJl (M:Mk X.K C f)(F:FnOk X.prog X.w X.K X.mg X.base CX k f fd ps sp)(g:Room (k+1) X.A)(i:Gl X x)(j:X.mg x=some (.ref C))(l:vG X.K fd ps ds)(hd:zK dvs ds)(n:jH CX X E)
  (u:PA X (e::es) t) (b:(x==("__debug__" : Str))=false:=by decide) (he:starEach (e::es) X.env=(false,eval e X.env)::starEach es X.env:=by rfl) (c:(backTo pos (starEach es X.env)).any (·.1)=false:=by rfl) :
  PE X (.Call (.Name x p) (e::es) [] pos) (zCQ C sp dvs E t):=by
 intro a s σ H Q I h
 refine dw (zAt I i j ?_ b)
 refine eZ (h₀:=X.base) I.ok.mod.kin M.kp (zG (u pos a s σ H _ I h) fun us v ⟨vs,y,d,r,q⟩=>⟨d.kIn,?_⟩) he c
 exact zJk M F g l hd n d r q
end
def PK (X:Cx)(kws:List jl)(t:TA):Prop :=
 ∀(pos:Pos) (pins:List (ai×Obj)) (s:ak) (σ:St) (H:Hp) (Q:List V->Hp->Prop),Inv X pins σ H s->t σ H Q->wpAny (model X.prog X.w) X.A (evalAll ((backToKw pos (keywordEach kws X.env)).map (·.2))) (AP X pins σ Q) X.xe s
section
variable{X:Cx}{CX:uN}{k:Nat}{f C:ai}{fd:aE}{ps ks:List Str}{sp:Sp}{E:XK}{x m:Str}{p pos apos kpos:Pos}{e o:bD}{es:List bD}{kws:List jl}{te ta:TE}{t tk:TA}{nm:Option Str}
variable{g:List ae->List ae->List ae}{gV:List V->List V->List V}
end
structure FnScope (N P:List Str) (sc:eA):Prop where
 kind:sc.kind=.function
 co:sc.isCoroutine=false
 gen:sc.isGenerator=false
 nd:N.Nodup
 pre:N.take P.length=P
 par:∀x∈P,sc.names.lookup x=some .local\/sc.names.lookup x=some .cell
 nofree:∀y∈sc.names,y.2≠.free
theorem zFG {kindOf:Str->Option iq}{x:Str}:∀{binds:List (Str×ae)}{m:Str->Option ae},(∀v,(x,v)∉binds)->bindL kindOf binds m x=m x
 | [],_,_=>rfl
 |(n,v)::r,m,h=>by
  unfold bindL
  rw[zFG fun w a=>h w (az _ a)]
  split
  ·have:x≠n:=by rintro rfl;exact h v aq
   simp[this]
  ·rfl
theorem zFH {kindOf:Str->Option iq}{x:Str}:∀{binds:List (Str×ae)}{m:Str->Option ae},(∀v,(x,v)∉binds)->bindC kindOf binds m x=m x
 | [],_,_=>rfl
 |(n,v)::r,m,h=>by
  unfold bindC
  rw[zFH fun w a=>h w (az _ a)]
  split
  ·rfl
  ·have:x≠n:=by rintro rfl;exact h v aq
   simp[this]
theorem zFI {kindOf:Str->Option iq}{x:Str}{v:ae}:∀{P:List Str}{vs:List ae}{i:Nat}{m:Str->Option ae},P.Nodup->P[i]?=some x->vs[i]?=some v->kindOf x=some .local->
  bindL kindOf (P.zip vs) m x=some v
 | [],_,_,_,_,h,_,_=>by simp at h
 |_::_,[],_,_,_,_,h,_=>by simp at h
 |p::P,w::vs,0,m,nd,a,b,c=>by
  simp at a b;subst a;subst b
  show bindL kindOf ((p,w)::P.zip vs) m p=_
  unfold bindL
  rw[zFG fun v d=>(bI.mp nd).1 (ke d).1,if_pos c]
  simp
 |p::P,w::vs,i+1,m,nd,a,b,c=>by
  show bindL kindOf ((p,w)::P.zip vs) m x=_
  unfold bindL
  exact zFI (i:=i) (bI.mp nd).2 (by simpa using a) (by simpa using b) c
theorem zFJ {kindOf:Str->Option iq}{x:Str}{v:ae}:∀{P:List Str}{vs:List ae}{i:Nat}{m:Str->Option ae},P.Nodup->P[i]?=some x->vs[i]?=some v->kindOf x≠some .local->
  bindC kindOf (P.zip vs) m x=some v
 | [],_,_,_,_,h,_,_=>by simp at h
 |_::_,[],_,_,_,_,h,_=>by simp at h
 |p::P,w::vs,0,m,nd,a,b,c=>by
  simp at a b;subst a;subst b
  show bindC kindOf ((p,w)::P.zip vs) m p=_
  unfold bindC
  rw[zFH fun v d=>(bI.mp nd).1 (ke d).1,if_neg c]
  simp
 |p::P,w::vs,i+1,m,nd,a,b,c=>by
  show bindC kindOf ((p,w)::P.zip vs) m x=_
  unfold bindC
  exact zFJ (i:=i) (bI.mp nd).2 (by simpa using a) (by simpa using b) c
def start (N:List Str)(vs:List V):St:=vs.map some++aS (N.length-vs.length) none
def jZ (CX:uN)(P:aB)(w:aL)(K:aa)(mg:Str->Option ae)(base:ba)(N:List Str)(qual:Str)(scope:eA)(f:ai)(cd:ae)(A:bJ)(outer:List Env)(s:ak)(H:Hp)(E:XK):Cx where
 prog:=P
 w:=w
 K:=K
 mg:=mg
 base:=base
 A:=A.deeper (envOfC qual scope s.heap.objs.size f cd)
 N:=N
 s₀:=s
 H₀:=H
 env:=envOfC qual scope s.heap.objs.size f cd
 outer:=outer
 stack:=envOfC qual scope s.heap.objs.size f cd::outer
 ex:=[]
 calm:=true
 fn:=fun _=>true
 pn:=[]
 xe:=fun e s'=>wpAny (model P w) (A.deeper (envOfC qual scope s.heap.objs.size f cd)) (leaving (envOfC qual scope s.heap.objs.size f cd) e) (fun _ s''=>CX outer H s E e s'') (fun e' s''=>CX outer H s E e' s'') s'
theorem zFK {a:eA}{n:Nat}{x:Str}(h:a.names.lookup x=some .cell):∃c,(cellsFrom n a.names []).lookup x=some c:=by
 have q:=jm a.names n [] (.inl h)
 exact Option.isSome_iff_exists.mp q
theorem zJm {CX:uN}{P:aB}{w:aL}{K:aa}{mg:Str->Option ae}{base:ba}{N l:List Str}{d:Str}{scope:eA}{f:ai}{D:ae}{A:bJ}{outer:List Env}{s G:ak}{H:Hp}{E:XK}{us:List ae}{vs:List V}
  (S:FnScope N l scope) (hd:A.handled=none) (j:Env0 P w K mg base A outer s H) (hl:vs.length=l.length) (r:zK vs us)
  (x:InCallC s s.heap.objs.size (bindL (envOfC d scope s.heap.objs.size f D).kindOf (l.zip us) fun _=>none) (cellsFrom (s.heap.objs.size+1) scope.names []) (bindC (envOfC d scope s.heap.objs.size f D).kindOf (l.zip us) fun _=>none) G) :
  Inv (jZ CX P w K mg base N d scope f D A outer s H E) [] (start N vs) H G:=by
 have L:l.length<=N.length:=by have:=congrArg qp S.pre;rw[aX]at this;omega
 obtain⟨F,tk,rfl,I⟩:=x.done
 have m:∀b:ai,b∉(jZ CX P w K mg base N d scope f D A outer s H E).ex:=fun b z=>absurd (show b∈([]:List ai)from z) (by simp)
 refine⟨⟨j.mod,S.kind,rfl,rfl,aw _,fun y z c F g=>?_,fun y o=>?_,fun y c _ h=>?_,fun _=>hd,Around.frames_deeper j.frames,.inr ⟨rfl,rfl⟩,fun b z=>absurd z (m b),j.bs,j.bsz,fun b _ _=>m b,fun b z=>absurd z (m b),j.funs,j.frf⟩,
  rfl,j.bare,Un.kept I,⟨_,x.toInCall.ns,fun i y v F g Q=>?_⟩,fun y c h=>⟨_,x.cell y c h⟩,j.hok.fresh (aw _),fun y c h=>?_,fun p B=>absurd (show p∈([]:List (ai×Obj))from B) (by simp),j.hok.kept I,?_⟩
 ·exact name_of_addr x.apart (dt F) (dt g)
 ·have o:scope.names.lookup y=some .cell\/scope.names.lookup y=some .free:=o
  rcases o with o|o
  ·exact zFK o
  ·exact absurd rfl (S.nofree _ (dt o))
 ·exact mL (x.above y c (dt h))
 ·have hi:i<vs.length:=by
   unfold start at g
   by_cases hi:i<vs.length
   ·exact hi
   ·rw[dy (by simpa using hi)]at g
    rw[iY]at g
    split at g<;>cases g
  have M:vs[i]?=some v:=by
   unfold start at g
   rw[b7 (by simpa using hi),ar]at g
   cases e:vs[i]? with
   |none=>rw[e]at g;cases g
   |some a=>rw[e]at g;cases g;rfl
  obtain⟨u,J,O⟩:=r.get M
  have B:l[i]?=some y:=by
   rw[<-S.pre,List.getElem?_take_of_lt (by omega)];exact F
  have C:l.Nodup:=by rw[<-S.pre];exact S.nd.sublist (List.take_sublist _ _)
  refine⟨u,O,?_⟩
  rcases S.par y (aF B)with k|k
  ·exact .inl ⟨k,zFI C B J k⟩
  ·obtain⟨c,e⟩:=zFK (n:=s.heap.objs.size+1) k
   refine .inr ⟨.inl k,c,e,?_⟩
   have q:=x.cell y c e
   rw[zFJ C B J (by show scope.names.lookup y≠_;rw[k];decide)]at q
   exact q
 ·exact j.hok.fresh (mL (x.above y c (dt h)))
 ·unfold start
  show _=N.length
  rw[aA,aj,kr]
  omega
theorem zFL {CX:uN}{P:aB}{w:aL}{K:aa}{mg:Str->Option ae}{base:ba}{k:Nat}{f:ai}{name a:Str}{d:Arguments}{body:List bY}{scope:eA}{L kV j pm c ct T:ae}{M od:Option ai}
  {B:Array (Option ae)} {N p:List Str} {sp:Sp} (U:K.lookup f=some ⟨T,od,.func (cQ name a d body scope L kV j pm M c ct),B⟩) (C:dU K c a=true) (S:FnScope N p scope)
  (len:∀vs H Q E,sp vs H Q E->vs.length=p.length)
  (g:∀(A:bJ) (outer:List Env) (s:ak) (H:Hp) (vs:List V) (Q:VK) (E:XK),Room k (A.deeper (envOfC a scope s.heap.objs.size f c))->sp vs H Q E->
   ∃t,uU (jZ CX P w K mg base N a scope f c A outer s H E) body t/\t {nx:=fun _ H'=>Q .non H',rt:=Q} (start N vs) H) :
  FnOk P w K mg base CX (k+1) f (cQ name a d body scope L kV j pm M c ct) p sp:=by
 refine⟨len,fun A outer s H args us vs Q E D l X r m=>?_⟩
 have hl:=len _ _ _ _ m
 have O:K.In s.heap:=l.mod.kin.keeps fun b o e=>(l.bs b o e).1
 have F:s.heap.NoLimit:=l.mod.nolimit.keeps fun b o e=>(l.bs b o e).1
 have h:∀y∈p.zip us,scope.names.lookup y.1=some .local\/(scope.names.lookup y.1=some .cell/\((cellsFrom (s.heap.objs.size+1) scope.names []).lookup y.1).isSome=true):=fun⟨n,v⟩ Y=>by
  rcases S.par n (ke Y).1 with q|q
  ·exact .inl q
  ·exact .inr ⟨q,jm _ _ _ (.inl q)⟩
 refine codeAny_call_function D.depth (O _ _ U) rfl S.co S.gen rfl (PySem.W.codeRec_of O C) (X _ _ _ _ ?_)
 refine wpAny_newFunctionEnv_cells S.kind h fun env he R x=>?_
 subst he
 refine⟨F.keeps x.toInCall.keep,codeAny_func ?_⟩
 obtain⟨t,Z,hq⟩:=g A outer s H vs Q E (D.deeper _) m
 have I:Inv (jZ CX P w K mg base N a scope f c A outer s H E) [] (start N vs) H R:=zJm S D.hd l hl r x
 refine b8 (Z [] R (start N vs) H _ I hq) (fun fl s' i=>?_) fun e s' i=>i
 have fin:∀{z:St} {H':Hp} {v:V} {u:ae},Inv (jZ CX P w K mg base N a scope f c A outer s H E) [] z H' s'->zP v u->Q v H'->CE outer P w H s Q u s' :=
  fun{z H' v u} J G q=>⟨v,H',J.os,J.bare,J.base,J.hok,G,q⟩
 cases fl with
 |ret u=>
  obtain⟨v,z,H',J,G,q⟩:=i
  exact fin J G q
 |next=>
  obtain⟨z,H',J,q⟩:=i
  exact fin (v:=V.non) (u:=Value.none) J rfl q
 |brk=>
  obtain⟨_,_,_,q⟩:=i
  exact dj q
 |cont=>
  obtain⟨_,_,_,q⟩:=i
  exact dj q
section
variable{X:Cx}{x:Str}{p pos:Pos}{e:bD}{es:List bD}{t:TA}{id T:String}{r:List V->Hp->VK->Prop}
def tCB (r:List V->Hp->VK->Prop)(t:TA):TE:=fun σ H Q=>t σ H fun vs H1=>r vs H1 Q
theorem yF (d:qR X (.builtin id) r)(f:Gl X x)(g:X.mg x=none)(i:bootBuiltins x=some (.builtin id))(j:PA X (e::es) t)(l:x≠"__name__" :=by decide)(b:(x==("__debug__" : Str))=false:=by decide)
  (he:starEach (e::es) X.env=(false,eval e X.env)::starEach es X.env:=by rfl) (c:(backTo pos (starEach es X.env)).any (·.1)=false:=by rfl):PE X (.Call (.Name x p) (e::es) [] pos) (tCB r t):=by
 intro a s σ H Q I h
 refine dw (kA I f g i ?_ l b)
 exact fX (zG (j pos a s σ H _ I h) fun us m ⟨vs,n,o,q,u⟩=>d a m σ n vs us Q o q u) he c
theorem zFM (d:qR X (.type T) r)(f:Gl X x)(g:X.mg x=none)(i:bootBuiltins x=some (.type T))(j:PA X (e::es) t)(l:x≠"__name__" :=by decide)(b:(x==("__debug__" : Str))=false:=by decide)
  (he:starEach (e::es) X.env=(false,eval e X.env)::starEach es X.env:=by rfl) (c:(backTo pos (starEach es X.env)).any (·.1)=false:=by rfl):PE X (.Call (.Name x p) (e::es) [] pos) (tCB r t):=by
 intro a s σ H Q I h
 refine dw (kA I f g i ?_ l b)
 exact cJ (zG (j pos a s σ H _ I h) fun us m ⟨vs,n,o,q,u⟩=>d a m σ n vs us Q o q u) he c
end
end L2
namespace HT
open PySem PyProof.Rows
section
open PySem.SeqAt
open PySem.AutoSeq1 (wpAny_loadPart')
open PySem.MeetsSeq PySem.MeetsSeq2 PySem.MeetsSeq3
end
section
variable{prog:aB}{w:aL}{A:bJ}{E:ae->ak->Prop}{s:ak}
theorem cat_tup {t b:ai}{vs a:List ae}{Q:ae->ak->Prop}(r:IsTup s.heap t vs.toArray)(u:IsTup s.heap b a.toArray)(l:vs≠[])
  (v:a=[]->Q (.ref t) s) (x:a≠[]->Q (.ref s.heap.objs.size) {s with heap:=s.heap.push {cls:=.type "tuple",data:=.seq (vs++a).toArray}})
  (hsz:vs.length+a.length<=sizeLine):wpAny (model prog w) A (binaryOp .Add (.ref t) (.ref b)) Q E s:=by
 obtain⟨⟨cls,dd,data,m⟩,i,o,n,hd⟩:=id r
 obtain⟨⟨p,d,data2,f⟩,c,g,q,h⟩:=id u
 simp only at o hd g h
 subst o hd g h
 have e:vs.toArray++a.toArray=(vs++a).toArray:=by simp
 by_cases j:a=[]
 ·exact mV ⟨_,i,rfl⟩ ⟨_,c,rfl⟩ iZ lW fA ff (eV _ _)
   (tuple_addW1 t b vs.toArray a.toArray n q dd d m f (by simpa using l) (by simp[j])) ⟨i,c,v j⟩
 ·refine mV ⟨_,i,rfl⟩ ⟨_,c,rfl⟩ iZ lW fA ff (eV _ _)
   (tuple_addW2 t b vs.toArray a.toArray n q dd d m f (by simpa using l) (by simpa using j) (by rw[aR,aR];exact hsz)) ⟨i,c,?_⟩
  rw[e]
  exact x j
def sIx (n d:Nat):Option Int->Nat
 |none=>d
 |some v=>if v<0 then(v+(n:Int)).toNat else min v.toNat n
theorem sIx_nat (n d k:Nat):sIx n d (some (k:Int))=min k n:=by
 show(if(k:Int)<0 then((k:Int)+(n:Int)).toNat else min (k:Int).toNat n)=min k n
 rw[if_neg (by omega),cV]
theorem sIx_le (n d:Nat)(hd:d<=n)(o:Option Int):sIx n d o<=n:=by
 cases o with
 |none=>exact hd
 |some v=>
  show(if v<0 then(v+(n:Int)).toNat else min v.toNat n)<=n
  by_cases a:v<0
  ·rw[if_pos a];omega
  ·rw[if_neg a];exact Nat.min_le_right _ _
end
end HT
namespace L2
open PySem PySem.Spec PyProof.Rows
abbrev TO:=St->Hp->(Option Int->Hp->Prop)->Prop
def PO (X:Cx)(e:Option bD)(t:TO):Prop :=
 ∀(pins:List (ai×Obj)) (s:ak) (σ:St) (H:Hp) (Q:Option Int->Hp->Prop),Inv X pins σ H s->t σ H Q->
  wpAny (model X.prog X.w) X.A (evalPart e X.env) (fun u s'=>∃o H',Inv X pins σ H' s'/\IsPart u o/\Q o H') X.xe s
def zJn:TO:=fun _ H Q=>Q none H
def zJo (t:TE):TO:=fun σ H Q=>t σ H fun x H1=>∃i,x=.int i/\Q (some i) H1
section
variable{X:Cx}{e:bD}{te:TE}{lo hi:Option bD}{tl th:TO}{pos p2:Pos}
theorem zCR:PO X none zJn:=by
 intro a s σ H Q I h
 rw[lX]
 exact ax ⟨none,H,I,.none,h⟩
theorem zAR (h:PE X e te):PO X (some e) (zJo te):=by
 intro a s σ H Q I b
 rw[evalPart_some]
 refine zG (h a s σ H _ I b) fun u j zq=>?_
 obtain⟨x,c,d,f,g⟩:=zq
 obtain⟨i,rfl,q⟩:=g
 obtain⟨t,rfl⟩:=f
 exact⟨some i,c,d,.int i t,q⟩
def SlR (X:Cx)(r:V->Option Int->Option Int->Hp->VK->Prop):Prop :=
 ∀(pins:List (ai×Obj)) (s:ak) (σ:St) (H:Hp) (x:V) (v vl vu:ae) (lo hi:Option Int) (sl:ai) (Q:VK),Inv X pins σ H s->zP x v->s.heap.IsSliceOf sl vl vu .none->IsPart vl lo->IsPart vu hi->r x lo hi H Q->
  ∃T id,typeLookup (.type T) "__getitem__"=pure (some (.builtin id))/\s.TypeIs v T/\wpAny (model X.prog X.w) X.A (getItem v (.ref sl)) (EP X pins σ Q) X.xe s
def tSl (r:V->Option Int->Option Int->Hp->VK->Prop)(te:TE)(tl th:TO):TE:=fun σ H Q=>te σ H fun x H1=>tl σ H1 fun l H2=>th σ H2 fun u H3=>r x l u H3 Q
theorem zJp {r:V->Option Int->Option Int->Hp->VK->Prop}(i:SlR X r)(he:PE X e te)(hl:PO X lo tl)(j:PO X hi th):PE X (.Subscript e (.Slice lo hi none p2) pos) (tSl r te tl th):=by
 intro a s σ H Q I h
 refine mz (zG (he a s σ H _ I h) fun v m zq=>?_)
 obtain⟨x,n,o,p,y⟩:=zq
 refine wpAny_Slice (zG (hl a m σ n _ o y) fun d z ⟨l,B,C,pl,D⟩=>zG (j a z σ B _ C D) fun f c zq=>?_)
 obtain⟨u,g,E,F,G⟩:=zq
 rw[lX]
 refine ax ?_
 have J:Inv X a σ g {c with heap:=c.heap.push {cls:=.type "slice",data:=.fields #[d,f,.none]}}:=E.kept (t':=c.toks) fun b ob q=>ag _ q
 obtain⟨T,id,L,M,N⟩:=i a {c with heap:=c.heap.push {cls:=.type "slice",data:=.fields #[d,f,.none]}} σ g x v d f l u c.heap.objs.size Q J p (rq ..) pl F G
 show wpAny (model X.prog X.w) X.A (subscriptTail e (.Slice lo hi none p2) v (.ref c.heap.objs.size)) (EP X a σ Q) X.xe {c with heap:=c.heap.push {cls:=.type "slice",data:=.fields #[d,f,.none]}}
 exact qq (ops:=[.ref c.heap.objs.size,v]) M L N (by with_unfolding_all rfl)
def kW (xs:List V)(lo hi:Option Int):List V:=(xs.drop (HT.sIx xs.length 0 lo)).take (HT.sIx xs.length xs.length hi-HT.sIx xs.length 0 lo)
theorem zJq (xs:List V)(lo hi:Option Int):(kW xs lo hi).length<=xs.length:=by
 unfold kW
 rw[aX,eO]
 omega
def zJr (K:aa):R2:=fun x y H Q=>∃a b xs ys,x=.ref a/\y=.ref b/\yH K H a xs/\yH K H b ys/\xs≠[]/\xs.length+ys.length<=sizeLine/\
 (ys=[]->Q (.ref a) H)/\(ys≠[]->∀p,H p=none->Q (.ref p) (upd H p (.tup (xs++ys))))
theorem zK.nil_iff {xs:List V}{us:List ae}(r:zK xs us):us=[]↔xs=[]:=by
 cases r with
 |nil=>simp
 |cons _ _=>simp
theorem zFN:z9 X (binaryOp .Add) (zJr X.K):=by
 intro f s σ H x y v u Q I i j h
 obtain⟨a,b,xs,ys,rfl,rfl,l,m,n,hz,p,r⟩:=h
 cases i
 cases j
 obtain⟨A,d,B,_⟩:=I.tuple l
 obtain⟨g,c,p2,_⟩:=I.tuple m
 refine HT.cat_tup B p2 (fun z=>n (d.nil_iff.mp z)) (fun z=>⟨.ref a,H,I,rfl,p (c.nil_iff.mp z)⟩) (fun z=>?_) (by rw[<-d.length,<-c.length];exact hz)
 refine⟨.ref s.heap.objs.size,_,I.laid (t':=s.toks) (o:=.tup (xs++ys)) (fun b ob q=>ag _ q) (aw _) ?_,rfl,r (fun w=>z (c.nil_iff.mpr w)) _ (I.hok.fresh (aw _))⟩
 exact⟨by rw[aA];exact hz,_,d.append c,IsTup.new _ _⟩
end
def kJ (n:Nat)(i:Int):Option Nat:=if 0<=i then(if i<n then some i.toNat else none)else if-(n:Int)<=i then some (i+n).toNat else none
def u0 {α:Type}(xs:List α)(i:Int):Option α:=(kJ xs.length i).bind fun j=>xs[j]?
theorem zJs {n:Nat}{i:Int}{j:Nat}(h:kJ n i=some j):seqIndex? i n=some j/\j<n/\-(n:Int)<=i/\i<n:=by
 unfold kJ at h
 by_cases b:0<=i
 ·rw[if_pos b]at h
  by_cases a:i<n
  ·rw[if_pos a]at h
   have e:i.toNat=j:=au h
   exact⟨by rw[seqIndex_of b a,e],by omega,by omega,a⟩
  ·rw[if_neg a]at h;cases h
 ·rw[if_neg b]at h
  by_cases a:-(n:Int)<=i
  ·rw[if_pos a]at h
   have e:(i+n).toNat=j:=au h
   exact⟨by rw[seqIndex_neg (by omega) a,e],by omega,a,by omega⟩
  ·rw[if_neg a]at h;cases h
theorem zCS {α:Type}{xs:List α}{i:Int}{v:α}(h:u0 xs i=some v):∃j,seqIndex? i xs.length=some j/\xs[j]?=some v/\j<xs.length/\-(xs.length:Int)<=i/\i<xs.length:=by
 unfold u0 at h
 cases e:kJ xs.length i with
 |none=>rw[e]at h;cases h
 |some j=>
  rw[e]at h
  obtain⟨a,b,c,d⟩:=zJs e
  exact⟨j,a,h,b,c,d⟩
theorem kX {α:Type}{xs:List α}{j:Nat}{v:α}(h:xs[j]?=some v):u0 xs (j:Int)=some v:=by
 have a:j<xs.length:=(af.mp h).1
 have e:kJ xs.length (j:Int)=some j:=by
  unfold kJ
  rw[if_pos (by omega),if_pos (by omega)];simp
 unfold u0;rw[e];exact h
theorem zJt {α:Type}(xs:List α)(v:α):u0 (xs++[v]) (-1)=some v:=by
 have hl:(xs++[v]).length=xs.length+1:=by simp
 have e:kJ (xs++[v]).length (-1)=some xs.length:=by
  unfold kJ
  rw[hl,if_neg (by decide),if_pos (by omega)]
  congr 1
  omega
 unfold u0
 rw[e]
 show(xs++[v])[xs.length]?=some v
 simp
def zJu (b:bD):Prop:=∀o i,subscripted b false o i=operate [o,i] (getItem o i)
def gW (X:Cx)(r:R2):Prop :=
 ∀(value slice:bD) (pins:List (ai×Obj)) (s:ak) (σ:St) (H:Hp) (x y:V) (v u:ae) (Q:VK),Inv X pins σ H s->zP x v->zP y u->r x y H Q->
  subscripted slice false v u=operate [v,u] (getItem v u)->wpAny (model X.prog X.w) X.A (subscriptTail value slice v u) (EP X pins σ Q) X.xe s
def MtR (X:Cx)(id:String)(r:V->List V->Hp->VK->Prop):Prop :=
 ∀(pins:List (ai×Obj)) (s:ak) (σ:St) (H:Hp) (x:V) (xs:List V) (v:ae) (us:List ae) (Q:VK),Inv X pins σ H s->zP x v->zK xs us->r x xs H Q->
  wpAny (model X.prog X.w) X.A (call (.builtin id) (v::us)) (EP X pins σ Q) X.xe s
section
variable{X:Cx}{a b:bD}{ta tb:TE}{pos:Pos}
theorem yS {r:R2}(d:gW X r)(e:PE X a ta)(f:PE X b tb)(g:zJu b):PE X (.Subscript a b pos) (kT r ta tb):=by
 intro c s σ H Q I h
 exact mz (zCI e f I h fun v u i x y j l m n q=>d a b c i σ j x y v u Q l m n q (g _ _))
def zCT (K:aa):R2:=fun x y H Q=>∃p xs i v,x=.ref p/\y=.int i/\z7 K H p xs/\u0 xs i=some v/\Q v H
def zFO (K:aa):R2:=fun x y H Q=>∃p xs i v,x=.ref p/\y=.int i/\yH K H p xs/\u0 xs i=some v/\Q v H
def zJv:R2:=fun x y H Q=>∃z i c,x=.str z/\y=.int i/\z.length<=sizeLine/\u0 z.cps.toList i=some c/\Q (.str ⟨#[c]⟩) H
theorem u5:gW X (zCT X.K):=by
 intro value slice c s σ H x y v u Q I o A h l
 obtain⟨p,xs,i,z,rfl,rfl,B,he,q⟩:=h
 cases o
 obtain⟨t,rfl⟩:=A
 obtain⟨e,r,pl,hz⟩:=I.list B
 obtain⟨j,d,C,F,D,E⟩:=zCS he
 obtain⟨w,m,f⟩:=r.get C
 have hl:=r.length
 have G:=zAQ
 have fin:EP X c σ Q w s:=⟨z,H,I,f,q⟩
 by_cases n:0<=i
 ·have g:i.toNat=j:=by
   rw[seqIndex_of n E]at d
   exact au d
  exact item_listR pl.isList n (by omega) (by rw[g];simpa using m) fin l
 ·have g:(i+(e.toArray.size:Int)).toNat=j:=by
   rw[seqIndex_neg (by omega) D]at d
   rw[aR,<-hl]
   exact au d
  exact jn (x:=w) pl.isList.typeIs mX.lookup
   (wpAny_getItem_list_neg (Q:=fun r s'=>r=w/\EP X c σ Q r s') pl.isList (by omega) (by rw[aR]<;>omega) (by omega) (by rw[g];simpa using m) ⟨rfl,fin⟩) l
theorem uA:gW X (zFO X.K):=by
 intro value slice c s σ H x y v u Q I e f h g
 obtain⟨p,xs,i,z,rfl,rfl,l,he,q⟩:=h
 cases e
 obtain⟨t,rfl⟩:=f
 obtain⟨m,r,pl,hz⟩:=I.tuple l
 obtain⟨j,n,o,B,C,D⟩:=zCS he
 obtain⟨w,A,d⟩:=r.get o
 have hl:=r.length
 have E:=zAQ
 have fin:EP X c σ Q w s:=⟨z,H,I,d,q⟩
 exact jn (x:=w) pl.typeIs slot_tuple_getitem.lookup
  (getItem_tuple (j:=j) (Q:=fun r s'=>r=w/\EP X c σ Q r s') pl (by omega) (by omega) (by rw[aR,<-hl];exact n) (by simpa using A) ⟨rfl,fin⟩) g
theorem zJw:gW X zJv:=by
 intro value slice d s σ H x y v u Q I f g h l
 obtain⟨z,i,c,rfl,rfl,hz,he,q⟩:=h
 obtain⟨t,rfl⟩:=f
 obtain⟨t',rfl⟩:=g
 obtain⟨j,e,m,r,n,o⟩:=zCS he
 have hl:z.cps.toList.length=z.length:=by simp[ir]
 rw[hl]at e n o
 have w:=zAQ
 exact qq (typeIs_str s z t) slot_str_getitem.lookup (getItem_str (c:=c) (by
  have e1:decide (i< -(2^63:Int))=false:=decide_eq_false (by omega)
  have p:decide (i>=2^63)=false:=decide_eq_false (by omega)
  rw[e1,p,Bool.or_false]) (by rw[e];simpa using m) ⟨.str ⟨#[c]⟩,H,I.tok _,⟨_,rfl⟩,q⟩) l
theorem Inv.lst {d:List (ai×Obj)}{σ:St}{H:Hp}{s:ak}{p:ai}{xs:List V}(I:Inv X d σ H s)(h:H p=some (.lst xs)) :
  ∃(c:List ae) (n:Nat),zK xs c/\s.heap.get? p=some {cls:=.type "list",data:=.seq c.toArray n}/\xs.length<=sizeLine:=by
 obtain⟨z,c,n,r,e⟩:=I.hok p _ h
 exact⟨c,n,r,e,z⟩
theorem zJx (lo hi:Option Int)(n:Nat):(sliceBounds lo hi none n).1=((HT.sIx n 0 lo:Nat):Int)/\(sliceBounds lo hi none n).2.1=((HT.sIx n n hi:Nat):Int)/\(sliceBounds lo hi none n).2.2=1:=by
 refine⟨?_,?_,rfl⟩
 ·cases lo with
  |none=>simp[sliceBounds,HT.sIx]
  |some i=>
   simp only[sliceBounds,HT.sIx,nL,show(1:Int)>0 by decide,if_true]
   by_cases h:i<0
   ·simp only[h,if_true]<;>omega
   ·simp only[h,if_false]<;>omega
 ·cases hi with
  |none=>simp[sliceBounds,HT.sIx]
  |some i=>
   simp only[sliceBounds,HT.sIx,nL,show(1:Int)>0 by decide,if_true]
   by_cases h:i<0
   ·simp only[h,if_true]<;>omega
   ·simp only[h,if_false]<;>omega
theorem zJy (c:List ae)(lo hi:Option Int):slicePick c.toArray lo hi none=((c.drop (HT.sIx c.length 0 lo)).take (HT.sIx c.length c.length hi-HT.sIx c.length 0 lo)).toArray:=by
 obtain⟨d,e,f⟩:=zJx lo hi c.toArray.size
 unfold slicePick
 rw[d,e,f]
 simp only[sliceRange_one,pick_run,aR]<;>rfl
def zJz (K:aa):V->Option Int->Option Int->Hp->VK->Prop:=fun x lo hi H Q=>∃a xs,x=.ref a/\z7 K H a xs/\∀p,H p=none->Q (.ref p) (upd H p (.lst (kW xs lo hi)))
theorem zKA:SlR X (zJz X.K):=by
 intro d s σ H x v m n lo hi p Q I f g pl i h
 obtain⟨a,xs,rfl,j,q⟩:=h
 cases f
 obtain⟨l,r,e,hz⟩:=I.list j
 have c:=r.length
 refine⟨"list",_,mX.lookup,e.isList.typeIs,?_⟩
 refine wpAny_getItem_list_slice e.isList g pl i .none (by simp) ?_ (by rw[aR]<;>omega)
 rw[zJy,<-c]
 refine⟨.ref s.heap.objs.size,_,I.laid (t':=s.toks) (o:=.lst (kW xs lo hi)) (fun b ob q=>ag _ q) (aw _) ?_,rfl,q _ (I.hok.fresh (aw _))⟩
 exact⟨bZ (zJq xs lo hi) hz,_,0,(r.drop (HT.sIx xs.length 0 lo)).take (HT.sIx xs.length xs.length hi-HT.sIx xs.length 0 lo),ay _ rfl⟩
def j0:V->Bool
 | .non=>true
 | .bl _=>true
 | .int _=>true
 | .str _=>true
 |_=>false
def jI:V->V->Bool
 | .non,.non=>true
 | .bl a,.bl b=>a==b
 | .bl a,.int b=>(if a then 1 else 0)==b
 | .int a,.bl b=>a==(if b then 1 else 0)
 | .int a,.int b=>a==b
 | .str a,.str b=>a==b
 |_,_=>false
theorem zKB {A:bJ}{s:ak}{y x:V}{u v:ae}(d:zP y u)(c:zP x v)(f:j0 y=true)(e:j0 x=true):rn A s u v (jI y x):=by
 cases y with
 |non=>
  cases d
  cases x with
  |non=>cases c;exact rP _
  |bl b=>cases c;exact qr b
  |int b=>obtain⟨t,rfl⟩:=c;exact rf b t
  |str b=>obtain⟨t,rfl⟩:=c;exact rg b t
  |_=>exact absurd (show false=true from e) aH
 |bl a=>
  cases d
  cases x with
  |non=>cases c;exact qt a
  |bl b=>cases c;exact lx a b
  |int b=>obtain⟨t,rfl⟩:=c;exact rh a b t
  |str b=>obtain⟨t,rfl⟩:=c;exact lP a b t
  |_=>exact absurd (show false=true from e) aH
 |int a=>
  obtain⟨t',rfl⟩:=d
  cases x with
  |non=>cases c;exact ri a t'
  |bl b=>cases c;exact rj a t' b
  |int b=>obtain⟨t,rfl⟩:=c;exact rA a t' b t
  |str b=>obtain⟨t,rfl⟩:=c;exact mm a t' b t
  |_=>exact absurd (show false=true from e) aH
 |str a=>
  obtain⟨t',rfl⟩:=d
  cases x with
  |non=>cases c;exact rk a t'
  |bl b=>cases c;exact lO a t' b
  |int b=>obtain⟨t,rfl⟩:=c;exact mq a t' b t
  |str b=>obtain⟨t,rfl⟩:=c;exact mB a t' b t
  |_=>exact absurd (show false=true from e) aH
 |_=>exact absurd (show false=true from f) aH
def v4 (x:V)(u:ae):Bool:=match u with
 | .none=>jI .non x
 | .bool b=>jI (.bl b) x
 | .int i _=>jI (.int i) x
 | .str z _=>jI (.str z) x
 |_=>false
theorem zFP {x y:V}{u:ae}(r:zP y u)(f:j0 y=true):v4 x u=jI y x:=by
 cases y with
 |non=>cases r;rfl
 |bl b=>cases r;rfl
 |int i=>obtain⟨t,rfl⟩:=r;rfl
 |str z=>obtain⟨t,rfl⟩:=r;rfl
 |_=>exact absurd (show false=true from f) aH
theorem zAS {x:V}:∀{xs:List V}{us:List ae},zK xs us->xs.all j0=true->us.any (v4 x)=xs.any fun y=>jI y x
 |_,_,.nil,_=>rfl
 |y::xs,u::us,.cons r t,f=>by
  rw[pS,aY]at f
  rw[dN,dN,zFP r f.1,zAS t f.2]
theorem zAT {A:bJ}{s:ak}{x:V}{v:ae}(d:zP x v)(e:j0 x=true):∀{xs:List V}{us:List ae},zK xs us->xs.all j0=true->∀u∈us,rn A s u v (v4 x u)
 |_,_,.nil,_=>fun u c=>by cases c
 |y::xs,u::us,.cons r t,f=>fun g c=>by
  rw[pS,aY]at f
  rcases aD.mp c with rfl|c
  ·rw[zFP r f.1];exact zKB r d f.1 e
  ·exact zAT d e t f.2 g c
def inV (x:V)(xs:List V):Bool:=xs.any fun y=>jI y x
def rIn (K:aa)(neg:Bool):R2:=fun x y H Q=>∃p xs,y=.ref p/\(z7 K H p xs\/yH K H p xs)/\j0 x=true/\xs.all j0=true/\Q (.bl (if neg then !inV x xs else inV x xs)) H
theorem zFQ:z9 X (compareOp .In) (rIn X.K false):=by
 intro f s σ H x y v u Q I g j h
 obtain⟨p,xs,rfl,d,i,fs,q⟩:=h
 cases j
 rcases d with d|d
 ·obtain⟨c,r,pl,hz⟩:=I.list d
  refine SeqAt.in_listAt (v4 x) pl.isList (fun w e=>zAT g i r fs w (by simpa using e)) ⟨.bl _,H,I,rfl,?_⟩
  rw[show c.toArray.any (v4 x)=c.any (v4 x) by simp,zAS r fs]
  exact q
 ·obtain⟨c,r,pl,hz⟩:=I.tuple d
  refine SeqAt.in_tupleAt (v4 x) pl (fun w e=>zAT g i r fs w (by simpa using e)) ⟨.bl _,H,I,rfl,?_⟩
  rw[show c.toArray.any (v4 x)=c.any (v4 x) by simp,zAS r fs]
  exact q
theorem zKC:z9 X (compareOp .NotIn) (rIn X.K true):=by
 intro f s σ H x y v u Q I g j h
 obtain⟨p,xs,rfl,d,i,fs,q⟩:=h
 cases j
 rcases d with d|d
 ·obtain⟨c,r,pl,hz⟩:=I.list d
  refine SeqAt.notIn_listAt (v4 x) pl.isList (fun w e=>zAT g i r fs w (by simpa using e)) ⟨.bl _,H,I,rfl,?_⟩
  rw[show c.toArray.any (v4 x)=c.any (v4 x) by simp,zAS r fs]
  exact q
 ·obtain⟨c,r,pl,hz⟩:=I.tuple d
  refine SeqAt.notIn_tupleAt (v4 x) pl (fun w e=>zAT g i r fs w (by simpa using e)) ⟨.bl _,H,I,rfl,?_⟩
  rw[show c.toArray.any (v4 x)=c.any (v4 x) by simp,zAS r fs]
  exact q
theorem qK:qR X (.builtin "len") (fun xs H Q=>∃p ys,xs=[.ref p]/\(z7 X.K H p ys\/yH X.K H p ys)/\Q (.int ys.length) H):=by
 intro g s σ H xs us Q I r h
 obtain⟨p,ys,rfl,d,q⟩:=h
 obtain⟨u,rfl,i⟩:=jD r
 cases i
 have j:=zAQ
 rcases d with d|d
 ·obtain⟨e,f,pl,hz⟩:=I.list d
  have c:=f.length
  exact Calls.call_len_list pl.isList (by simp only[aR]<;>omega) ⟨.int ys.length,H,I.tok _,⟨s.toks+1,by rw[aR,c]⟩,q⟩
 ·obtain⟨e,f,pl,hz⟩:=I.tuple d
  have c:=f.length
  exact len_tuple pl (by simp only[aR]<;>omega) ⟨.int ys.length,H,I.tok _,⟨s.toks+1,by rw[aR,c]⟩,q⟩
theorem zBE:qR X (.builtin "len") (fun xs H Q=>∃z,xs=[.str z]/\z.length<=sizeLine/\Q (.int z.length) H):=by
 intro c s σ H xs us Q I r h
 obtain⟨z,rfl,hz,q⟩:=h
 obtain⟨u,rfl,t,rfl⟩:=jD r
 have d:=zAQ
 exact len_str (by omega) ⟨.int z.length,H,I.tok _,⟨_,rfl⟩,q⟩
def tyV (K:aa)(T:String)(x:V)(H:Hp):Prop:=match x with
 | .str _=>T="str"
 | .int _=>T="int"
 | .ref p=>(T="list"/\ ∃xs,z7 K H p xs)\/(T="tuple"/\ ∃o,K.lookup p=some o/\o.cls=.type "tuple"/\o.dict=none)\/
   (T="dict"/\ ((∃kvs,H p=some (.dK kvs))\/∃kvs,H p=some (.dT kvs)))\/(T="set"/\ ∃S n,H p=some (.set S n))
 |_=>False
theorem zFR {f:List (ai×Obj)}{σ:St}{H:Hp}{s:ak}{T:String}{x:V}{v:ae}(I:Inv X f σ H s)(r:zP x v)(ty:tyV X.K T x H) :
  s.TypeIs v T/\∀a,v=.ref a->∃ob,s.heap.get? a=some ob/\ob.dict=none:=by
 cases x with
 |str z=>
  obtain⟨t,rfl⟩:=r
  cases(show T="str"from ty)
  exact⟨typeIs_str s z t,fun _ e=>nomatch e⟩
 |int i=>
  obtain⟨t,rfl⟩:=r
  cases(show T="int"from ty)
  exact⟨oN s i t,fun _ e=>nomatch e⟩
 |ref p=>
  cases r
  rcases ty with⟨rfl,xs,h⟩|⟨rfl,o,d,j,hd⟩|⟨rfl,d⟩|⟨rfl,S,n,d⟩
  ·obtain⟨l,_,pl,_⟩:=I.list h
   refine⟨pl.isList.typeIs,fun a e=>?_⟩
   cases e
   obtain⟨o,n,e,c,hd,_⟩:=pl
   exact⟨o,e,hd⟩
  ·refine⟨⟨o,I.kIn p o d,j⟩,fun a e=>?_⟩
   cases e
   exact⟨o,I.kIn _ o d,hd⟩
  ·have z:∃o,s.heap.get? p=some o/\o.ExactDict:=by
    rcases d with⟨kvs,d⟩|⟨kvs,d⟩
    ·obtain⟨_,_,_,_,o,_,_,e,ex,_⟩:=I.hok p _ d
     exact⟨o,e,ex⟩
    ·obtain⟨_,_,_,_,o,_,_,e,ex,_⟩:=I.hok p _ d
     exact⟨o,e,ex⟩
   obtain⟨o,e,ex⟩:=z
   refine⟨⟨o,e,ex.1⟩,fun a g=>?_⟩
   cases g
   exact⟨o,e,ex.2.1⟩
  ·obtain⟨o,_,_,_,e,ex,_⟩:=I.hok p _ d
   refine⟨⟨o,e,ex.1⟩,fun a g=>?_⟩
   cases g
   exact⟨o,e,ex.2.1⟩
 |_=>exact dj ty
def zFS (K:aa)(T:String)(r:V->List V->Hp->VK->Prop)(to:TE):TE:=fun σ H Q=>to σ H fun x H1=>tyV K T x H1/\r x [] H1 Q
def tBM (K:aa)(T:String)(r:V->List V->Hp->VK->Prop)(to:TE)(t:TA):TE:=fun σ H Q=>to σ H fun x H1=>tyV K T x H1/\t σ H1 fun xs H2=>r x xs H2 Q
variable{o e:bD}{es:List bD}{to:TE}{t:TA}{name:Str}{apos cpos:Pos}{T id:String}{r:V->List V->Hp->VK->Prop}
theorem zFT (l:oO T)(slot:Slot T name id)(g:typeOf (.builtin id)=pure (.type "method_descriptor"))(m:MtR X id r)(n:PE X o to)
  (d:attributeBase o name X.env (eval o X.env)=eval o X.env:=by rfl) (f:(apos.endLine==cpos.line)=true:=by rfl):PE X (.Call (.Attribute o name apos) [] [] cpos) (zFS X.K T r to):=by
 intro c s σ H Q I h
 refine wpAny_Call_method0_late d f (zG (n c s σ H _ I h) fun v p zq=>?_)
 obtain⟨x,q,i,j,ty,u⟩:=zq
 obtain⟨w,y⟩:=zFR i j ty
 exact⟨T,id,l,slot,g,w,y,d8 rfl (PySem.evalArgs_none (m c p σ q x [] v [] Q i j .nil u))⟩
theorem zBF (p:oO T)(slot:Slot T name id)(j:typeOf (.builtin id)=pure (.type "method_descriptor"))(q:MtR X id r)(u:PE X o to)(w:PA X (e::es) t)
  (f:attributeBase o name X.env (eval o X.env)=eval o X.env:=by rfl)
  (i:((backTo cpos (starEach (e::es) X.env)).all (fun x=>!x.1)&& (backToKw cpos (keywordEach [] X.env)).all (fun x=>x.1.isSome)
   &&decide ((e::es).length+([]:List jl).length+(if([]:List jl).isEmpty then 0 else 1)<30))=true:=by rfl)
  (g:(apos.endLine==cpos.line)=true:=by rfl) (y:starEach (e::es) X.env=(false,eval e X.env)::starEach es X.env:=by rfl) (d:(backTo cpos (starEach es X.env)).any (·.1)=false:=by rfl) :
  PE X (.Call (.Attribute o name apos) (e::es) [] cpos) (tBM X.K T r to t):=by
 intro c s σ H Q I h
 refine wpAny_Call_method_late f i g rfl (zG (u c s σ H _ I h) fun v z zq=>?_)
 obtain⟨x,A,l,m,ty,B⟩:=zq
 obtain⟨C,D⟩:=zFR l m ty
 refine⟨T,id,p,slot,j,C,D,?_⟩
 have n:=w cpos c z σ A _ l B
 rw[y]at n⊢
 refine d8 (by show(false||(backTo cpos (starEach es X.env)).any (·.1))=false;rw[d]<;>rfl) (eK ?_)
 exact zG n fun us E ⟨vs,F,G,J,L⟩=>q c E σ F x vs v us Q G m J L
end
def MtM (X:Cx)(id:String)(r:V->List V->Hp->VK->Prop):Prop :=
 ∀(pins:List (ai×Obj)) (s:ak) (σ:St) (H:Hp) (x:V) (xs:List V) (v:ae) (us:List ae) (Q:VK),Inv X pins σ H s->zP x v->zK xs us->r x xs H Q->
  wpAny (model X.prog X.w) X.A (call (.builtin id) (v::us)) (EP X pins σ Q) X.xe s
theorem zK.one:∀{x:V}{us:List ae},zK [x] us->∃u,us=[u]/\zP x u:=fun h=>by
 cases h with
 | cons r t=>cases t;exact⟨_,rfl,r⟩
theorem zK.zero:∀{us:List ae},zK [] us->us=[]
 |_,.nil=>rfl
theorem zK.dropLast {xs:List V}{us:List ae}(h:zK xs us):zK xs.dropLast us.dropLast:=by
 induction h with
 |nil=>exact .nil
 |cons r t ih=>
  cases t with
  |nil=>exact .nil
  |cons q t'=>exact .cons r ih
theorem zK.eraseIdx:∀{xs:List V}{us:List ae} (i:Nat),zK xs us->zK (xs.eraseIdx i) (us.eraseIdx i)
 |_,_,_,.nil=>.nil
 |_,_,0,.cons _ t=>t
 |_,_,i+1,.cons r t=>.cons r (zK.eraseIdx i t)
theorem zK.reverse {xs:List V}{us:List ae}(h:zK xs us):zK xs.reverse us.reverse:=by
 induction h with
 |nil=>exact .nil
 |cons r t ih=>rw[mY,mY];exact zK.append ih (.cons r .nil)
theorem zK.rep {xs:List V}{us:List ae}(h:zK xs us):∀k:Nat,zK (aS k xs).flatten (aS k us).flatten
 |0=>.nil
 |k+1=>by
  rw[dQ,dQ,eI,eI]
  exact zK.append h (zK.rep h k)
theorem zFU (a:List ae):∀(k:Nat) (b:List ae),
  oP (fun c d=>c++d) b.toArray (aS k a.toArray)=(b++(aS k a).flatten).toArray
 |0,b=>by simp
 |k+1,b=>by
  have e:b.toArray++a.toArray=(b++a).toArray:=by simp
  have f:(b++a)++(aS k a).flatten=b++(aS (k+1) a).flatten:=by
   rw[dQ,eI,eG]
  rw[<-f,<-zFU a k (b++a),<-e,dQ,gs]
section
variable{X:Cx}{pins:List (ai×Obj)}{σ:St}{H:Hp}{s:ak}{l b:ai}{xs ys zs:List V}
theorem Inv.lset {a its':List ae}{n:Nat}{f:Array ae->Array ae}{t':Nat}(I:Inv X pins σ H s)(c:H l=some (.lst xs))
  (e:s.heap.get? l=some {cls:=.type "list",data:=.seq a.toArray n}) (d:f a.toArray=its'.toArray) (g:zK ys its') (hz:ys.length<=sizeLine) :
  Inv X pins σ (upd H l (.lst ys)) {s with heap:=s.heap.update l (cF f),toks:=t'}:=by
 have q:=i8 e f
 rw[d]at q
 refine I.write (x:=l) (e:=l) (by rw[c];exact trivial) (.inl rfl) (fun j u h i=>(bV s.heap (cF f) (dC h)).trans i) ⟨_,q⟩ ?_
 exact⟨hz,its',_,g,q⟩
theorem Inv.lnew {a:List ae}{t':Nat}(I:Inv X pins σ H s)(c:zK ys a)(hz:ys.length<=sizeLine) :
  Inv X pins σ (upd H s.heap.objs.size (.lst ys)) {s with heap:=s.heap.push {cls:=.type "list",data:=.seq a.toArray},toks:=t'} :=
 I.laid (fun _ _ q=>ag _ q) (aw _) ⟨hz,a,0,c,ay _ rfl⟩
theorem Inv.fresh (I:Inv X pins σ H s):H s.heap.objs.size=none:=I.hok.fresh (aw _)
theorem Inv.lstM (I:Inv X pins σ H s)(c:H l=some (.lst xs)):xs.length<=sizeLine/\∃(a:List ae) (n:Nat),zK xs a/\xs.length=a.length/\s.heap.get? l=some {cls:=.type "list",data:=.seq a.toArray n}:=by
 obtain⟨z,a,n,r,e⟩:=I.hok l _ c
 exact⟨z,a,n,r,r.length,e⟩
theorem zKD {n:Nat}(h:n<=sizeLine):eW n=false:=by
 unfold eW
 exact decide_eq_false (by omega)
end
section
variable{X:Cx}
def zKE:V->List V->Hp->VK->Prop:=fun x vs H Q=>∃l xs y,x=.ref l/\vs=[y]/\H l=some (.lst xs)/\xs.length<sizeLine/\Q .non (upd H l (.lst (xs++[y])))
theorem zKF:MtM X "list.append" zKE:=by
 intro b s σ H x vs v us Q I d f h
 obtain⟨l,xs,y,rfl,rfl,c,hz,q⟩:=h
 cases d
 obtain⟨u,rfl,g⟩:=f.one
 obtain⟨z,a,n,r,hl,e⟩:=I.lstM c
 refine iu iw ⟨_,e,rfl⟩ gx (gi _ _) (iO l a.toArray n u (by rw[aR];omega)) ⟨e,?_⟩
 refine⟨.non,_,I.lset (its':=a++[u]) c e (by simp) (r.append (.cons g .nil)) ?_,rfl,q⟩
 rw[aA,bM]
 omega
def rExtend:V->List V->Hp->VK->Prop:=fun x vs H Q=>∃l b xs zs,x=.ref l/\vs=[.ref b]/\H l=some (.lst xs)/\H b=some (.lst zs)/\xs.length+zs.length<=sizeLine/\Q .non (upd H l (.lst (xs++zs)))
def zKG:R2:=fun x y H Q=>∃l b xs zs,x=.ref l/\y=.ref b/\H l=some (.lst xs)/\H b=some (.lst zs)/\xs.length+zs.length<=sizeLine/\∀p,H p=none->Q (.ref p) (upd H p (.lst (xs++zs)))
theorem zKH:z9 X (binaryOp .Add) zKG:=by
 intro d s σ H x y v u Q I f g h
 obtain⟨l,b,xs,w,rfl,rfl,i,j,hz,q⟩:=h
 cases f
 cases g
 obtain⟨z,c,n,r,hl,e⟩:=I.lstM i
 obtain⟨A,a,B,m,hl2,o⟩:=I.lstM j
 refine PySem.P.add_list e o ?_ (by rw[aR,aR];omega)
 have p:c.toArray++a.toArray=(c++a).toArray:=by simp
 rw[p]
 exact⟨.ref _,_,I.lnew (t':=s.toks) (r.append m) (by rw[aA];omega),rfl,q _ I.fresh⟩
def zKI:R2:=fun x y H Q=>∃l k xs,x=.ref l/\y=.int k/\H l=some (.lst xs)/\-(2^63)<=k/\k<2^63/\xs.length*k.toNat<=sizeLine/\
 ∀p,H p=none->Q (.ref p) (upd H p (.lst (aS k.toNat xs).flatten))
theorem zKJ {α:Type}(xs:List α)(k:Nat):(aS k xs).flatten.length=k*xs.length:=by
 induction k with
 |zero=>simp
 |succ k ih=>rw[dQ,eI,aA,ih,Nat.succ_mul,Nat.add_comm]
theorem zKK:z9 X (binaryOp .Mult) zKI:=by
 intro p s σ H x y v u Q I w A h
 obtain⟨l,k,xs,rfl,rfl,B,C,D,hz,q⟩:=h
 cases w
 obtain⟨t,rfl⟩:=A
 obtain⟨z,b,n,r,hl,e⟩:=I.lstM B
 have d:b.toArray.size*k.toNat<=sizeLine:=by rw[aR,<-hl];exact hz
 have f:¬b.toArray.size*k.toNat> (2^63-1)/8:=by
  have:(sizeLine:Nat)<=(2^63-1)/8:=by decide
  omega
 have g:¬(!Builtin.List.listFitsIndex k)=true:=by
  rw[fitsIndex_both C D]
  exact aH
 have c:¬eW (b.toArray.size*k.toNat)=true:=by
  rw[zKD d]
  exact aH
 have i:oP (fun j o=>j++o) #[] (aS (if b.toArray.isEmpty=true then 0 else k.toNat) b.toArray)=(aS k.toNat b).flatten.toArray:=by
  have E:∀m:Nat,oP (fun j o=>j++o) #[] (aS m b.toArray)=(aS m b).flatten.toArray:=fun m=>by
   have:=zFU b m []
   rw[de]at this
   exact this
  rw[E]
  cases b with
  |nil=>simp
  |cons a G=>rw[if_neg (by simp)]
 refine wpAny_binaryOp_repeat_ref (T :="list") (U :="int") (by decide) ⟨_,e,rfl⟩ (fun s'=>oN s' k t) noFill_list_mul F.fills_int_mul og repeat_list F.slot_int_index.lookup
  (iu og (oN s k t) F.entry_int_rmul (F.args_int_rmul_2 _ _) (int___rmul___int_list k t l b.toArray n)
   ⟨e,rfl,⟨_,e,rfl⟩,iu F.slot_list_mul ⟨_,e,rfl⟩ F.entry_list_mul (F.args_list_mul_2 _ _) (mJ l b.toArray n k t g f c) ⟨e,?_⟩⟩)
 rw[i]
 exact⟨.ref _,_,I.lnew (t':=s.toks) (r.rep k.toNat) (by rw[zKJ,Nat.mul_comm];exact hz),rfl,q _ I.fresh⟩
end
section
variable{κ:Type} [DecidableEq κ]
def yW (kvs:List (κ×V))(k:κ):Option V:=(kvs.find? fun kv=>decide (kv.1=k)).map (·.2)
def vO (kvs:List (κ×V))(k:κ)(v:V):List (κ×V) :=
 if(kvs.any fun kv=>decide (kv.1=k))=true then kvs.map (fun kv=>if kv.1=k then(kv.1,v)else kv)else kvs++[(k,v)]
def kY (kvs:List (κ×V))(k:κ):List (κ×V):=kvs.filter fun kv=>decide (kv.1≠k)
theorem zAU {p:κ×V}{r:List (κ×V)}{k:κ}(e:p.1=k):yW (p::r) k=some p.2:=by simp[yW,eB,e]
theorem zAV {p:κ×V}{r:List (κ×V)}{k:κ}(e:¬p.1=k):yW (p::r) k=yW r k:=by simp[yW,eB,e]
theorem zFV (k:κ):∀kvs:List (κ×V),(kvs.any fun a=>decide (a.1=k))=(yW kvs k).isSome
 | []=>rfl
 |p::r=>by
  rw[dN]
  by_cases e:p.1=k
  ·simp only[zAU e,decide_eq_true e,mZ,mC]
  ·rw[zAV e,decide_eq_false e,lY];exact zFV k r
theorem zCU (kvs:List (κ×V))(k:κ)(v:V):(vO kvs k v).length<=kvs.length+1:=by
 unfold vO
 split
 ·rw[aj];omega
 ·rw[aA,aO,List.length_nil];omega
theorem vR.isSome_eq {o:Option V}{u:Option ae}(r:vR o u):o.isSome=u.isSome:=by
 cases o with
 |none=>cases u with
  |none=>rfl
  |some _=>exact(show False from r).elim
 |some _=>cases u with
  |none=>exact(show False from r).elim
  |some _=>rfl
theorem vR.getD {o:Option V}{u:Option ae}{d:V}{d':ae}(r:vR o u)(rd:zP d d'):zP (o.getD d) (u.getD d'):=by
 cases o with
 |none=>cases u with
  |none=>exact rd
  |some _=>exact(show False from r).elim
 |some _=>cases u with
  |none=>exact(show False from r).elim
  |some _=>exact r
theorem KV.val {kvs:List (κ×V)}{vs:List (κ×ae)}(r:KV kvs vs)(k:κ):vR (yW kvs k) (valueAt vs k):=by
 unfold KV at r
 induction r with
 |nil=>exact True.intro
 | @cons p q g a h t ih=>
  obtain⟨d,f⟩:=h
  by_cases e:p.1=k
  ·have c:q.1=k:=d.symm.trans e
   have b:valueAt (q::a) k=some q.2:=by simp[valueAt,eB,c]
   rw[zAU e,b];exact f
  ·have c:¬q.1=k:=fun z=>e (d.trans z)
   have b:valueAt (q::a) k=valueAt a k:=by simp[valueAt,eB,c]
   rw[zAV e,b];exact ih
theorem KV.any {kvs:List (κ×V)}{vs:List (κ×ae)}(r:KV kvs vs)(k:κ):(kvs.any fun a=>decide (a.1=k))=vs.any fun a=>decide (a.1=k):=by
 unfold KV at r
 induction r with
 |nil=>rfl
 |cons h t ih=>rw[dN,dN,ih,h.1]
theorem KV.repl {kvs:List (κ×V)}{vs:List (κ×ae)}(r:KV kvs vs)(k:κ){y:V}{u:ae}(c:zP y u) :
  KV (kvs.map fun a=>if a.1=k then(a.1,y)else a) (vs.map fun a=>if a.1=k then(a.1,u)else a):=by
 unfold KV at r⊢
 induction r with
 |nil=>exact .nil
 | @cons p q f g h t ih=>
  rw[aP,aP]
  refine .cons ?_ ih
  obtain⟨b,d⟩:=h
  by_cases e:p.1=k
  ·rw[if_pos e,if_pos (b.symm.trans e)];exact⟨b,c⟩
  ·rw[if_neg e,if_neg (fun z=>e (b.trans z))];exact⟨b,d⟩
theorem KV.put {kvs:List (κ×V)}{vs:List (κ×ae)}(r:KV kvs vs)(k:κ){y:V}{u:ae}(a:zP y u):KV (vO kvs k y) (stored vs k u):=by
 unfold vO stored
 rw[r.any k]
 by_cases e:(vs.any fun b=>decide (b.1=k))=true
 ·rw[if_pos e,if_pos e];exact r.repl k a
 ·rw[if_neg e,if_neg e];exact qu r ⟨rfl,a⟩
theorem KV.drop {kvs:List (κ×V)}{vs:List (κ×ae)}(r:KV kvs vs)(k:κ):KV (kY kvs k) (without vs k):=by
 unfold KV at r⊢
 unfold kY without
 induction r with
 |nil=>exact .nil
 | @cons p q g i h t ih=>
  obtain⟨c,d⟩:=h
  rw[nM,nM]
  by_cases e:p.1=k
  ·have a:¬decide (p.1≠k)=true:=by simp[e]
   have b:¬decide (q.1≠k)=true:=by simp[c.symm.trans e]
   rw[if_neg a,if_neg b];exact ih
  ·have f:¬q.1=k:=fun z=>e (c.trans z)
   have a:decide (p.1≠k)=true:=by simp[e]
   have b:decide (q.1≠k)=true:=by simp[f]
   rw[if_pos a,if_pos b];exact .cons ⟨c,d⟩ ih
theorem KV.length {kvs:List (κ×V)}{vs:List (κ×ae)}(r:KV kvs vs):kvs.length=vs.length:=eE r
theorem zKL (kvs:List (κ×V))(k:κ):(kY kvs k).length<=kvs.length:=bS _ _
end
theorem kZ {P:aB}{w:aL}{k:zU}{u:ae}(r:zP (kV k) u):(uJ P w).is k u=true:=by
 cases k with
 |inl i=>obtain⟨t,e⟩:=(show∃t,u=Value.int i t from r);subst e;exact zIg P w i t
 |inr x=>obtain⟨t,e⟩:=(show∃t,u=Value.str x t from r);subst e;exact zIh P w x t
theorem zKM {P:aB}{w:aL}{k:zW}{u:ae}(r:zP (vV k) u):(jA P w).is k u=true:=by
 cases k with
 |inl x=>obtain⟨t,e⟩:=(show∃t,u=Value.str x t from r);subst e;show cD x (.str x t)=true;simp[cD]
 |inr b=>have e:u=Value.bool b:=r;subst e;exact beq_self_eq_true _
theorem zFW {P:aB}{w:aL}:∀{ks:List zW}{us:List ae},zK (ks.map vV) us->ItemsAre (jA P w) ks us
 | [],_,r=>by rw[nc]at r;cases r;exact .nil
 |k::ks,_,r=>by
  rw[aP]at r
  cases r with
  |cons h t=>exact .cons (zKM h) (zFW t)
abbrev KT (H:Hp):List (List zW×V)->List (List zW×ai×ae)->Prop:=mr fun p q=>p.1=q.1/\H q.2.1=some (.tup (p.1.map vV))/\zP p.2 q.2.2
theorem KT.val {H:Hp}{kvs:List (List zW×V)}{xs:List (List zW×ai×ae)}(r:KT H kvs xs)(k:List zW):vR (yW kvs k) ((atKey xs k).map (·.2)):=by
 induction r with
 |nil=>exact True.intro
 | @cons p q g a h t ih=>
  obtain⟨d,_,f⟩:=h
  by_cases e:p.1=k
  ·have c:q.1=k:=d.symm.trans e
   have b:atKey (q::a) k=some q.2:=by simp[atKey,eB,c]
   rw[zAU e,b];exact f
  ·have c:¬q.1=k:=fun z=>e (d.trans z)
   have b:atKey (q::a) k=atKey a k:=by simp[atKey,eB,c]
   rw[zAV e,b];exact ih
theorem KT.repl {H:Hp}{kvs:List (List zW×V)}{xs:List (List zW×ai×ae)}(r:KT H kvs xs)(k:List zW){y:V}{u:ae}(d:zP y u) :
  KT H (kvs.map fun b=>if b.1=k then(b.1,y)else b) (xs.map (putAt k u)):=by
 induction r with
 |nil=>exact .nil
 | @cons p q g i h t ih=>
  rw[aP,aP]
  refine .cons ?_ ih
  obtain⟨a,c,f⟩:=h
  unfold putAt
  by_cases e:p.1=k
  ·rw[if_pos e,if_pos (a.symm.trans e)];exact⟨a,c,d⟩
  ·rw[if_neg e,if_neg (fun z=>e (a.trans z))];exact⟨a,c,f⟩
theorem KT.put {H:Hp}{kvs:List (List zW×V)}{xs:List (List zW×ai×ae)}(r:KT H kvs xs)(k:List zW){b:ai}{y:V}{u:ae}(c:H b=some (.tup (k.map vV)))(a:zP y u) :
  KT H (vO kvs k y) (storedH xs k b u):=by
 have e:(kvs.any fun d=>decide (d.1=k))=(atKey xs k).isSome:=by
  rw[zFV,(r.val k).isSome_eq,fC]
 unfold vO storedH
 rw[e]
 by_cases q:(atKey xs k).isSome=true
 ·rw[if_pos q,if_pos q];exact r.repl k a
 ·rw[if_neg q,if_neg q];exact qu r ⟨rfl,c,a⟩
theorem KT.keeps {H H':Hp}{kvs:List (List zW×V)}{xs:List (List zW×ai×ae)}(r:KT H kvs xs)(a:∀b ys,H b=some (.tup ys)->H' b=some (.tup ys)):KT H' kvs xs :=
 Paired.mapP r fun _ _ z=>⟨z.1,a _ _ z.2.1,z.2.2⟩
section
variable{P:aB}{w:aL}{H:Hp}{h:ba}{a:ai}
theorem zFX {u:HO}(ok:zV P w H h)(e:Rd H a u):yA P w H h a u:=e.ok ok
theorem jJ {kvs:List (zU×V)}(ok:zV P w H h)(e:Rd H a (.dK kvs)):kvs.length<=sizeLine/\(a==sysModules)=false/\∃vs,KV kvs vs/\h.DictOf (uJ P w) a vs :=
 show yA P w H h a (.dK kvs)from zFX ok e
theorem k8 {kvs:List (zU×V)}(ok:zV P w H h)(e:H a=some (.dK kvs)):kvs.length<=sizeLine/\(a==sysModules)=false/\∃vs,KV kvs vs/\h.DictOf (uJ P w) a vs:=jJ ok (.inl e)
theorem k9 {ks:List zW}(ok:zV P w H h)(e:H a=some (.tup (ks.map vV))):(tupleKind (jA P w)).is h ks a:=by
 obtain⟨_,b,r,o,c,d,n,f⟩:=(show yA P w H h a (.tup (ks.map vV))from ok a _ e)
 exact⟨o,b.toArray,n,c,d,f,by simpa using zFW r⟩
theorem gA {kvs:List (List zW×V)}(ok:zV P w H h)(e:Rd H a (.dT kvs)):kvs.length<=sizeLine/\(a==sysModules)=false/\
  ∃xs,KT H kvs xs/\h.DictOfH (tupleKind (jA P w)) a xs:=by
 obtain⟨z,y,xs,r,o,d,ep,f,g,i,j,n⟩:=(show yA P w H h a (.dT kvs)from zFX ok e)
 refine⟨z,y,xs,r,o,d,ep,f,g,i,j,fun x b=>?_,n⟩
 have all:∀{l:List (List zW×V)} {m:List (List zW×ai×ae)},KT H l m->∀x∈m,(tupleKind (jA P w)).is h x.1 x.2.1:=by
  intro l m q
  induction q with
  |nil=>intro x b;exact nomatch b
  | @cons p q s u c t ih=>
   intro x b
   rcases aD.mp b with e|b
   ·subst e
    exact k9 ok (by rw[<-c.1];exact c.2.1)
   ·exact ih x b
 exact all r x b
theorem zFY {kvs:List (List zW×V)}(ok:zV P w H h)(e:H a=some (.dT kvs)):kvs.length<=sizeLine/\(a==sysModules)=false/\
  ∃xs,KT H kvs xs/\h.DictOfH (tupleKind (jA P w)) a xs:=gA ok (.inl e)
end
def yG (H:Hp)(a:ai)(y:V)(r:Option V):Prop :=
 (∃kvs k,Rd H a (.dK kvs)/\y=kV k/\r=yW kvs k)\/∃kvs k b,Rd H a (.dT kvs)/\y=.ref b/\H b=some (.tup (k.map vV))/\r=yW kvs k
def j1 (H:Hp)(a:ai)(y v:V)(H':Hp):Prop :=
 (∃kvs k,H a=some (.dK kvs)/\y=kV k/\kvs.length<sizeLine/\H'=upd H a (.dK (vO kvs k v)))\/
 ∃kvs k b,H a=some (.dT kvs)/\y=.ref b/\H b=some (.tup (k.map vV))/\kvs.length<sizeLine/\H'=upd H a (.dT (vO kvs k v))
theorem yG.k {H:Hp}{a:ai}{kvs:List (zU×V)}{k:zU}(e:H a=some (.dK kvs)):yG H a (kV k) (yW kvs k):=.inl ⟨kvs,k,.inl e,rfl,rfl⟩
theorem yG.t {H:Hp}{a b:ai}{kvs:List (List zW×V)}{k:List zW}(e:H a=some (.dT kvs))(eb:H b=some (.tup (k.map vV))):yG H a (.ref b) (yW kvs k):=.inr ⟨kvs,k,b,.inl e,rfl,eb,rfl⟩
theorem j1.k {H:Hp}{a:ai}{kvs:List (zU×V)}{k:zU}{v:V}(e:H a=some (.dK kvs))(hl:kvs.length<sizeLine):j1 H a (kV k) v (upd H a (.dK (vO kvs k v))):=.inl ⟨kvs,k,e,rfl,hl,rfl⟩
theorem j1.t {H:Hp}{a b:ai}{kvs:List (List zW×V)}{k:List zW}{v:V}(e:H a=some (.dT kvs))(eb:H b=some (.tup (k.map vV)))(hl:kvs.length<sizeLine) :
  j1 H a (.ref b) v (upd H a (.dT (vO kvs k v))):=.inr ⟨kvs,k,b,e,rfl,eb,hl,rfl⟩
section
variable{X:Cx}{pins:List (ai×Obj)}{σ:St}{H:Hp}{s:ak}{a:ai}{y v:V}{u r:ae}{o:Option V}{A:bJ}{E:ae->ak->Prop}
theorem Inv.big (I:Inv X pins σ H s):sysModules<s.heap.objs.size:=by
 have h:mainGlobals<s.heap.objs.size:=(I.mod.glob.keeps I.bk).lt
 exact qa (by decide) h
theorem zKN {Q:ae->ak->Prop}(n:A.units+1<cLine)(I:Inv X pins σ H s)(g:yG H a y (some v))(m:zP y u)(h:∀d s',Inv X pins σ H s'->zP v d->Q d s') :
  wpAny (model X.prog X.w) A (getItem (.ref a) u) Q E s:=by
 rcases g with⟨kvs,k,e,f,l⟩|⟨kvs,k,b,e,f,eb,l⟩
 ·subst f
  obtain⟨z,hd,vs,rel,dd⟩:=jJ I.hok e
  obtain⟨d,i,c⟩:=vR.some_of (v:=v) (o:=valueAt vs k) (by rw[l];exact rel.val k)
  exact wpAny_getItem_of (kZ m) dd.mapOf i (h d _ (I.tok _) c)
 ·subst f
  cases(show u=Value.ref b from m)
  obtain⟨z,hd,xs,rel,dd⟩:=gA I.hok e
  obtain⟨d,i,c⟩:=vR.some_of (v:=v) (o:=(atKey xs k).map (·.2)) (by rw[l];exact rel.val k)
  obtain⟨p,q,j⟩:=fm.mp i
  refine wpAny_getItem_heap (d9 n) (k9 I.hok eb) dd q ?_
  rw[j]
  exact h d _ (I.tok _) c
theorem zKO {Q:ae->ak->Prop}(f:A.units+1<cLine)(I:Inv X pins σ H s)(g:yG H a y o)(d:zP y u)(h:∀s',Inv X pins σ H s'->Q (.bool o.isSome) s') :
  wpAny (model X.prog X.w) A (compareOp .In u (.ref a)) Q E s:=by
 rcases g with⟨kvs,k,e,c,l⟩|⟨kvs,k,b,e,c,eb,l⟩
 ·subst c
  obtain⟨z,hd,vs,rel,dd⟩:=jJ I.hok e
  refine wpAny_in_of (kZ d) hd dd.mapOf ?_
  rw[<- (rel.val k).isSome_eq,<-l]
  exact h _ (I.tok _)
 ·subst c
  cases(show u=Value.ref b from d)
  obtain⟨z,hd,xs,rel,dd⟩:=gA I.hok e
  refine wpAny_in_heap (d9 f) (k9 I.hok eb) hd dd ?_
  have q:=(rel.val k).isSome_eq
  rw[fC]at q
  rw[<-q,<-l]
  exact h _ (I.tok _)
theorem zKP {Q:ae->ak->Prop}(f:A.units+1<cLine)(I:Inv X pins σ H s)(g:yG H a y o)(d:zP y u)(h:∀s',Inv X pins σ H s'->Q (.bool (!o.isSome)) s') :
  wpAny (model X.prog X.w) A (compareOp .NotIn u (.ref a)) Q E s:=by
 rcases g with⟨kvs,k,e,c,l⟩|⟨kvs,k,b,e,c,eb,l⟩
 ·subst c
  obtain⟨z,hd,vs,rel,dd⟩:=jJ I.hok e
  refine wpAny_notIn_of (kZ d) hd dd.mapOf ?_
  rw[<- (rel.val k).isSome_eq,<-l]
  exact h _ (I.tok _)
 ·subst c
  cases(show u=Value.ref b from d)
  obtain⟨z,hd,xs,rel,dd⟩:=gA I.hok e
  refine wpAny_notIn_heap (d9 f) (k9 I.hok eb) hd dd ?_
  have q:=(rel.val k).isSome_eq
  rw[fC]at q
  rw[<-q,<-l]
  exact h _ (I.tok _)
theorem zAW {h':ba}{t':Nat}{ob:HO}(I:Inv X pins σ H s)(c:Mut (H a))(d:eN a s.heap h')(he:∃q,h'.get? a=some q)(new:yA X.prog X.w (upd H a ob) h' a ob) :
  Inv X pins σ (upd H a ob) {s with heap:=h',toks:=t'} :=
 I.write (x:=a) (e:=a) c (.inl rfl) (fun b q f z=>(d.2 b f).trans z) he new
theorem zBG {P:aB}{w:aL}{H':Hp}{h':ba}{kvs:List (zU×V)}{vs:List (zU×ae)}(z:kvs.length<=sizeLine)(hd:(a==sysModules)=false)(rel:KV kvs vs)(dd:h'.DictOf (uJ P w) a vs) :
  yA P w H' h' a (.dK kvs):=⟨z,hd,vs,rel,dd⟩
theorem zKQ {H':Hp}{Q:Unit->ak->Prop}(B:A.units+1<cLine)(I:Inv X pins σ H s)(g:j1 H a y v H')(n:zP y u)(p:zP v r)(h:∀s',Inv X pins σ H' s'->Q () s') :
  wpAny (model X.prog X.w) A (setItem (.ref a) u r) Q E s:=by
 rcases g with⟨kvs,k,e,i,l,j⟩|⟨kvs,k,b,e,i,eb,l,j⟩
 ·subst i j
  obtain⟨z,hd,vs,rel,dd⟩:=k8 I.hok e
  have hz:vs.length<=sizeLine:=by rw[<-rel.length];exact z
  have hl:(vO kvs k v).length<=sizeLine:=by have:=zCU kvs k v;omega
  refine wpAny_setItem_pairs (hsz:=hz) (kZ n) dd fun h' d m=>h _ ?_
  have he:∃q,h'.get? a=some q:=let⟨q,_,_,f,_⟩:=d;⟨q,f⟩
  exact zAW I (by rw[e];exact True.intro) m he (zBG hl hd (rel.put k p) d)
 ·subst i j
  cases(show u=Value.ref b from n)
  obtain⟨z,hd,xs,rel,dd⟩:=zFY I.hok e
  have hz:xs.length<=sizeLine:=by rw[<-eE rel];exact z
  have hl:(vO kvs k v).length<=sizeLine:=by have:=zCU kvs k v;omega
  refine wpAny_setItem_heap (hsz:=hz) (d9 B) (k9 I.hok eb) dd fun h' d m=>h _ ?_
  obtain⟨q,C,ep,f,D,F,G,_,J⟩:=d
  refine zAW I (by rw[e];exact True.intro) m ⟨q,f⟩ ⟨hl,hd,_,(rel.put k eb p).keeps fun c ys x=>?_,q,C,ep,f,D,F,G,J⟩
  rw[zF (uT x e (fun z=>nomatch z))]
  exact x
end
section
variable{X:Cx}{pins:List (ai×Obj)}{σ:St}{H:Hp}{s:ak}{a:ai}{kvs:List (zU×V)}{k:zU}{u:ae}{A:bJ}{E:ae->ak->Prop}
theorem zKR {v:V}{more:List ae}{Q:ae->ak->Prop}(I:Inv X pins σ H s)(e:H a=some (.dK kvs))(d:zP (kV k) u)(l:yW kvs k=some v)(g:more=[]\/∃x,more=[x])
  (h:∀b s',Inv X pins σ (upd H a (.dK (kY kvs k))) s'->zP v b->Q b s'):wpAny (model X.prog X.w) A (call (.builtin "dict.pop") (.ref a::u::more)) Q E s:=by
 obtain⟨z,hd,vs,rel,dd⟩:=k8 I.hok e
 obtain⟨b,j,f⟩:=vR.some_of (v:=v) (o:=valueAt vs k) (by rw[<-l];exact rel.val k)
 have m:(keyPart u).isSome=true:=by
  cases k with
  |inl i=>obtain⟨t,q⟩:=(show∃t,u=Value.int i t from d);subst q;rfl
  |inr x=>obtain⟨t,q⟩:=(show∃t,u=Value.str x t from d);subst q;rfl
 have n:argsOk "dict.pop" ⟨.ref a::u::more,[]⟩:=by
  rcases g with q|⟨x,q⟩
  ·subst q;exact PySem.F.args_dict_pop_2 _ _
  ·subst q;exact PySem.F.args_dict_pop_3 _ _ _
 refine gz ku dd.typeIs PySem.F.entry_dict_pop n (meets_dict_pop_there (uJ X.prog X.w) a (kZ d) more g m)
  ⟨vs,b,dd,by rw[<-rel.length];exact z,j,fun h' c p=>h b _ ?_ f⟩
 have he:∃q,h'.get? a=some q:=let⟨q,_,_,r,_⟩:=c;⟨q,r⟩
 exact zAW I (by rw[e];exact True.intro) p he (zBG (bZ (zKL kvs k) z) hd (rel.drop k) c)
end
def zFZ (i:bD):Prop:=∀ov iv,subscripted i false ov iv=operate [ov,iv] (getItem ov iv)
theorem zKS {prog:aB}{w:aL}{A:bJ}{E:ae->ak->Prop}{s:ak}{env:Env}{value slice:bD}{pos:Pos}{T id:String}{Q:ae->ak->Prop}
  (hl:typeLookup (.type T) "__getitem__"=pure (some (.builtin id))) (f:zFZ slice)
  (h:wpAny (model prog w) A (eval value env) (fun o c=>wpAny (model prog w) A (eval slice env) (fun i a=>a.TypeIs o T/\wpAny (model prog w) A (getItem o i) Q E a) E c) E s) :
  wpAny (model prog w) A (eval (.Subscript value slice pos) env) Q E s:=by
 refine mz (b8 h (fun o c h₁=>b8 h₁ (fun i a b=>?_) fun _ _ x=>x) fun _ _ x=>x)
 obtain⟨d,b⟩:=b
 unfold subscriptTail
 refine ah ?_
 rw[getitemInPython_of_ne d.not_modules]
 refine ah (oh d hl ?_)
 have fin:wpAny (model prog w) A (subscripted slice false o i) (fun r e=>wpAny (model prog w) A (letTemporaryGo value o r>>=fun _=>pure r) Q E e) E a:=by
  rw[f o i]
  exact wpAny_operating (b8 b (fun r e g=>ah (wpAny_letTemporaryGo (ax g))) fun _ _ x=>x)
 first
  |exact ax (ah fin)
  |exact ah (ax (ah fin))
  |exact ah fin
theorem zKT {X:Cx}{c:List (ai×Obj)}{σ:St}{H:Hp}{s:ak}{a:ai}{y:V}{o:Option V}(I:Inv X c σ H s)(g:yG H a y o):s.TypeIs (.ref a) "dict" :=by
 rcases g with⟨kvs,k,e,_,_⟩|⟨kvs,k,b,e,_,_,_⟩
 ·obtain⟨_,_,vs,_,dd⟩:=jJ I.hok e
  exact dd.typeIs
 ·obtain⟨_,_,xs,_,dd⟩:=gA I.hok e
  exact dd.typeIs
def zKU (td ty:TE):TE:=fun σ H Q=>td σ H fun x H1=>ty σ H1 fun y H2=>∃a v,x=.ref a/\yG H2 a y (some v)/\Q v H2
def zKV (ty td:TE):TE:=fun σ H Q=>ty σ H fun y H1=>td σ H1 fun x H2=>∃a o,x=.ref a/\yG H2 a y o/\Q (.bl o.isSome) H2
def zKW (ty td:TE):TE:=fun σ H Q=>ty σ H fun y H1=>td σ H1 fun x H2=>∃a o,x=.ref a/\yG H2 a y o/\Q (.bl (!o.isSome)) H2
def zFa (td ty tv:TE):TS:=fun D σ H=>tv σ H fun v H1=>td σ H1 fun x H2=>ty σ H2 fun y H3=>∃a H4,x=.ref a/\j1 H3 a y v H4/\D.nx σ H4
section
variable{X:Cx}{o i e value:bD}{pos pos' tpos:Pos}{td ty tv:TE}
theorem jK (f:X.A.units+1<cLine)(j:PE X o td)(hi:PE X i ty)(l:zFZ i):PE X (.Subscript o i pos) (zKU td ty):=by
 intro b s σ H Q I h
 refine zKS PySem.F.slot_dict_getitem.lookup l (zG (j b s σ H _ I h) fun u m ⟨x,n,p,q,r⟩=>zG (hi b m σ n _ p r) fun D E zq=>?_)
 obtain⟨y,w,d,z,a,v,ex,g,B⟩:=zq
 subst ex
 obtain rfl:u=Value.ref a:=q
 exact⟨zKT d g,zKN f d g z fun G J C c=>⟨v,w,C,c,B⟩⟩
theorem zBH (c:X.A.units+1<cLine)(hi:PE X i ty)(d:PE X o td):PC X .In i o (zKV ty td):=by
 intro b s σ H Q I h
 refine zG (hi b s σ H _ I h) fun B f ⟨y,j,l,m,n⟩=>zG (d b f σ j _ l n) fun u C zq=>?_
 obtain⟨x,p,q,r,a,v,ex,g,w⟩:=zq
 subst ex
 obtain rfl:u=Value.ref a:=r
 exact zKO c q g m fun D z=>⟨.bl v.isSome,p,z,rfl,w⟩
theorem zFb (c:X.A.units+1<cLine)(hi:PE X i ty)(d:PE X o td):PC X .NotIn i o (zKW ty td):=by
 intro b s σ H Q I h
 refine zG (hi b s σ H _ I h) fun B f ⟨y,j,l,m,n⟩=>zG (d b f σ j _ l n) fun u C zq=>?_
 obtain⟨x,p,q,r,a,v,ex,g,w⟩:=zq
 subst ex
 obtain rfl:u=Value.ref a:=r
 exact zKP c q g m fun D z=>⟨.bl (!v.isSome),p,z,rfl,w⟩
theorem zCV (c:X.A.units+1<cLine)(d:PE X o td)(hi:PE X i ty)(f:PE X value tv)(j:swapsWith value (some (.Subscript o i pos')) pos.line X.env=pure false) :
  PS X (.Assign [.Subscript o i pos'] value pos) (zFa td ty tv):=by
 intro b s σ H D I h
 refine wpAny_Assign_Subscript (zG (f b s σ H _ I h) fun r l ⟨v,m,n,p,q⟩=>zG (d b l σ m _ n q) fun u w ⟨x,z,B,C,E⟩=>zG (hi b w σ z _ B E) fun N O zq=>?_) j
 obtain⟨y,P,F,G,a,J,ex,g,L⟩:=zq
 subst ex
 obtain rfl:u=Value.ref a:=C
 exact zKQ c F g G p fun Q M=>⟨σ,J,M,L⟩
end
theorem zKX {P:aB}{w:aL}{H:Hp}(h:ba)(a:sysModules<h.objs.size):yA P w H (h.push {cls:=.type "dict",data:=.dict #[]}) h.objs.size (.dK []) :=
 ⟨bh _,beq_eq_false_iff_ne.mpr (dC (aM a)),[],.nil,rQ h⟩
theorem zFc {P:aB}{w:aL}{H:Hp}(h:ba)(a:sysModules<h.objs.size):yA P w H (h.push {cls:=.type "dict",data:=.dict #[]}) h.objs.size (.dT []) :=
 ⟨bh _,beq_eq_false_iff_ne.mpr (dC (aM a)),[],.nil,_,#[],0,ay _ rfl,⟨rfl,rfl,rfl⟩,rfl,rfl,lD⟩
def zKY:TE:=fun _ H Q=>∀p,H p=none->Q (.ref p) (upd H p (.dK []))
def zKZ:TE:=fun _ H Q=>∀p,H p=none->Q (.ref p) (upd H p (.dT []))
section
variable{X:Cx}{pos:Pos}
theorem zBI:PE X (.Dict [] [] pos) zKY:=fun b s σ H Q I h=>
 nN ⟨.ref s.heap.objs.size,_,I.laid (a:=s.heap.objs.size) (o:=.dK []) (t':=s.toks) (fun _ _ q=>ag _ q) (aw _) (zKX s.heap I.big),rfl,h _ (I.hok.fresh (aw _))⟩
theorem zKa:PE X (.Dict [] [] pos) zKZ:=fun b s σ H Q I h=>
 nN ⟨.ref s.heap.objs.size,_,I.laid (a:=s.heap.objs.size) (o:=.dT []) (t':=s.toks) (fun _ _ q=>ag _ q) (aw _) (zFc s.heap I.big),rfl,h _ (I.hok.fresh (aw _))⟩
end
def zFd:List (TE×TE)->St->Hp->(List (V×V)->Hp->Prop)->Prop
 | [],_,H,Q=>Q [] H
 |(tk,tv)::r,σ,H,Q=>tk σ H fun x H1=>tv σ H1 fun y H2=>zFd r σ H2 fun ps H3=>Q ((x,y)::ps) H3
abbrev VV:List (V×V)->List (ae×ae)->Prop:=mr fun p q=>zP p.1 q.1/\zP p.2 q.2
def PPs (X:Cx)(pos:Pos)(keys:List (Option bD))(values:List bD)(trs:List (TE×TE)):Prop :=
 ∀(pins:List (ai×Obj)) (s:ak) (σ:St) (H:Hp) (Q:List (V×V)->Hp->Prop),Inv X pins σ H s->zFd trs σ H Q->
  wpAny (model X.prog X.w) X.A (evalPairs (pairTrees keys values X.env pos)) (fun vs s'=>∃ps H',Inv X pins σ H' s'/\VV ps vs/\Q ps H') X.xe s
theorem zKb {X:Cx}{pos:Pos}:PPs X pos [] [] []:=fun a s σ H Q I h=>pairTrees_nil_walk ⟨[],H,I,.nil,h⟩
theorem zKc {X:Cx}{pos:Pos}{k v:bD}{ks:List (Option bD)}{vs:List bD}{tk c:TE}{b:List (TE×TE)}(d:PE X k tk)(e:PE X v c)(f:PPs X pos ks vs b) :
  PPs X pos (some k::ks) (v::vs) ((tk,c)::b):=fun a s σ H Q I h=>
 pairTrees_cons_walk (zG (d a s σ H _ I h) fun u g ⟨x,i,j,l,m⟩=>zG (e a g σ i _ j m) fun C n ⟨y,o,p,q,r⟩=>
  zG (f a n σ o _ p r) fun D E ⟨w,z,A,rel,B⟩=>⟨(x,y)::w,z,A,.cons ⟨l,q⟩ rel,B⟩)
structure M1 (X:Cx) (o:bD) (m:Str) (apos:Pos) (e:bD) (cpos:Pos):Prop where
 base:attributeBase o m X.env (eval o X.env)=eval o X.env
 few:((backTo cpos (starEach [e] X.env)).all (fun x=>!x.1)&& (backToKw cpos (keywordEach [] X.env)).all (fun x=>x.1.isSome)
  &&decide (([e]:List bD).length+([]:List jl).length+(if([]:List jl).isEmpty then 0 else 1)<30))=true
 line:(apos.endLine==cpos.line)=true
 trees:backTo cpos (starEach [e] X.env)=[(false,eval e X.env)]
structure M2 (X:Cx) (o:bD) (m:Str) (apos:Pos) (e f:bD) (cpos:Pos):Prop where
 base:attributeBase o m X.env (eval o X.env)=eval o X.env
 few:((backTo cpos (starEach [e,f] X.env)).all (fun x=>!x.1)&& (backToKw cpos (keywordEach [] X.env)).all (fun x=>x.1.isSome)
  &&decide (([e,f]:List bD).length+([]:List jl).length+(if([]:List jl).isEmpty then 0 else 1)<30))=true
 line:(apos.endLine==cpos.line)=true
 trees:backTo cpos (starEach [e,f] X.env)=[(false,eval e X.env),(false,eval f X.env)]
def IsD (H:Hp)(a:ai):Prop:=(∃kvs,Rd H a (.dK kvs))\/∃kvs,Rd H a (.dT kvs)
theorem zFe {X:Cx}{c:List (ai×Obj)}{σ:St}{H:Hp}{s:ak}{a:ai}(I:Inv X c σ H s)(d:IsD H a) :
  s.TypeIs (.ref a) "dict"/\ (∀b,Value.ref a=.ref b->∃ob,s.heap.get? b=some ob/\ob.dict=none)/\(a==sysModules)=false:=by
 rcases d with⟨kvs,e⟩|⟨kvs,e⟩
 ·obtain⟨_,hd,vs,_,dd⟩:=jJ I.hok e
  refine⟨dd.typeIs,fun b q=>?_,hd⟩
  cases q
  obtain⟨ob,_,_,f,g,_⟩:=dd
  exact⟨ob,f,g.2.1⟩
 ·obtain⟨_,hd,xs,_,dd⟩:=gA I.hok e
  refine⟨dd.typeIs,fun b q=>?_,hd⟩
  cases q
  obtain⟨ob,_,_,f,g,_⟩:=dd
  exact⟨ob,f,g.2.1⟩
section
variable{X:Cx}{pins:List (ai×Obj)}{σ:St}{H:Hp}{s:ak}{a:ai}{y d:V}{u r:ae}{o:Option V}{A:bJ}{E:ae->ak->Prop}
theorem zKd {Q:ae->ak->Prop}(j:A.units+1<cLine)(I:Inv X pins σ H s)(g:yG H a y o)(f:zP y u)(rd:zP d r)(h:∀i s',Inv X pins σ H s'->zP (o.getD d) i->Q i s') :
  wpAny (model X.prog X.w) A (call (.builtin "dict.get") [.ref a,u,r]) Q E s:=by
 rcases g with⟨kvs,k,e,c,l⟩|⟨kvs,k,b,e,c,eb,l⟩
 ·subst c
  obtain⟨z,hd,vs,rel,dd⟩:=jJ I.hok e
  refine gz fR dd.typeIs jo (i9 _ _ _) (meets_dict_get_default (uJ X.prog X.w) a (kZ f) hd r) ⟨_,dd.mapOf,h _ _ (I.tok _) ?_⟩
  rw[l]
  exact(rel.val k).getD rd
 ·subst c
  cases(show u=Value.ref b from f)
  obtain⟨z,hd,xs,rel,dd⟩:=gA I.hok e
  refine gz fR dd.typeIs jo (i9 _ _ _) (meetsH_dict_get_default (tupleKind (jA X.prog X.w)) a b hd r) ⟨d9 j,k,xs,k9 I.hok eb,dd,h _ _ (I.tok _) ?_⟩
  rw[l]
  exact(rel.val k).getD rd
end
def zFf (td ty tx:TE):TE:=fun σ H Q=>td σ H fun x H1=>∃a,x=.ref a/\IsD H1 a/\ty σ H1 fun y H2=>tx σ H2 fun z H3=>∃o,yG H3 a y o/\Q (o.getD z) H3
def zKe (td ty:TE):TE:=fun σ H Q=>td σ H fun x H1=>∃a,x=.ref a/\IsD H1 a/\ty σ H1 fun y H2=>∃kvs k v,H2 a=some (.dK kvs)/\y=kV k/\yW kvs k=some v/\Q v (upd H2 a (.dK (kY kvs k)))
section
variable{X:Cx}{o e f:bD}{apos cpos:Pos}{td ty tx:TE}
theorem zCW (j:X.A.units+1<cLine)(l:PE X o td)(he:PE X e ty)(n:PE X f tx)(m:M2 X o "get" apos e f cpos):PE X (.Call (.Attribute o "get" apos) [e,f] [] cpos) (zFf td ty tx):=by
 intro b s σ H Q I h
 refine ng m.base m.few m.line cG fR PySem.F.type_dict_get (zG (l b s σ H _ I h) fun u p zq=>?_)
 obtain⟨x,q,i,r,a,ex,d,v⟩:=zq
 subst ex
 obtain rfl:u=Value.ref a:=r
 obtain⟨w,B,_⟩:=zFe i d
 refine⟨w,B,?_⟩
 rw[m.trees]
 refine d8 rfl (eK (d6 (zG (he b p σ q _ i v) fun R C ⟨y,D,E,G,J⟩=>
  d6 (zG (n b C σ D _ E J) fun T U ⟨z,L,M,N,W,g,O⟩=>fz ?_))))
 exact zKd j M g G N fun Y Z P c=>⟨_,L,P,c,O⟩
theorem zKf (i:PE X o td)(he:PE X e ty)(m:M1 X o "pop" apos e cpos):PE X (.Call (.Attribute o "pop" apos) [e] [] cpos) (zKe td ty):=by
 intro b s σ H Q I h
 refine ng m.base m.few m.line cG ku PySem.F.type_dict_pop (zG (i b s σ H _ I h) fun u j zq=>?_)
 obtain⟨x,n,g,p,a,ex,d,q⟩:=zq
 subst ex
 obtain rfl:u=Value.ref a:=p
 obtain⟨r,w,_⟩:=zFe g d
 refine⟨r,w,?_⟩
 rw[m.trees]
 refine d8 rfl (eK (d6 (zG (he b j σ n _ g q) fun G J ⟨y,L,z,A,kvs,k,v,B,C,l,D⟩=>fz ?_)))
 subst C
 exact zKR z B A l (.inl rfl) fun M N E c=>⟨v,_,E,c,D⟩
end
section
variable{X:Cx}{pins:List (ai×Obj)}{σ:St}{H:Hp}{s:ak}{a:ai}{kvs:List (zU×V)}{A:bJ}{E:ae->ak->Prop}
theorem zKg {Q:ae->ak->Prop}(I:Inv X pins σ H s)(e:Rd H a (.dK kvs))(h:∀p s',H p=none->Inv X pins σ (upd H p (.dK kvs)) s'->Q (.ref p) s'):wpAny (model X.prog X.w) A (call (.type "dict") [.ref a]) Q E s:=by
 obtain⟨z,hd,vs,rel,dd⟩:=jJ I.hok e
 refine kt_call_dict hd dd (by rw[<-rel.length];exact z) fun h' c f=>?_
 refine h _ _ (I.hok.fresh (aw _)) (I.laid (a:=s.heap.objs.size) (o:=.dK kvs) (t':=s.toks) (fun b q d=>?_) (aw _) (zBG z (beq_eq_false_iff_ne.mpr (dC (aM I.big))) rel c))
 exact(f.2 b (aM (aC d))).trans (ag _ d)
end
end L2
namespace Att
open PySem PySem.W PySem.Calls PyProof.Rows
theorem zKh {P:oE}{h:ba}:∀(ns:List Int) (vs:List ae),WellAll P h vs (ns.map WData.int)->nh vs ns:=by
 intro ns
 induction ns with
 |nil=>
  intro vs w
  rw[nc]at w
  cases w
  exact .nil
 |cons n ns ih=>
  intro vs w
  rw[aP]at w
  cases w with
  |cons a b=>
   cases a
   exact .cons _ _ (ih _ b)
theorem zKi {l:OpenLaw}{n:Nat}(p:l.most=some n){P:oE}{h:ba}{args:List WData}{b:List ae}
  (c:l.row.toRowW.claim.pre args=true) (j:WellAll P h b args) :
  ∃a vs ns,b=[Value.ref a]/\args=[WData.list (ns.map WData.int)]/\h.get? a=some {cls:=.type "list",data:=.seq vs.toArray}/\nh vs ns/\ns.length<=n:=by
 have m:WShape.hasAll [] args [.list .int]=true:=(pre_splitW c).1
 have o:l.pre.holds [] {args:=args}=true:=(pre_splitW c).2
 obtain⟨d,r,rfl,s,u⟩:=hasAllW_cons m
 obtain rfl:=hasAllW_nil u
 obtain⟨xs,rfl,v⟩:=hasW_list s
 obtain⟨ns,rfl⟩:=items_int v
 have e:ns.length<=n:=by
  unfold OpenLaw.pre at o
  have g:(WTm.not (.lt (.lit (.int (n:Int))) (.len (.arg 0)))).holds [] {args:=[.list (ns.map .int)]}=true:=by
   have g:=(holds_andW o).1
   rw[p]at g
   exact g
  have i:=condW_of g (w_not (w_lt w_lit (w_len_list (w_arg rfl))))
  rw[aj]at i
  refine Nat.le_of_not_lt fun q=>?_
  have w:(n:Int)<((ns.length:Nat):Int):=by omega
  first
   |(rw[decide_eq_true w]at i;exact absurd i (by decide))
   |(simp at i;omega)
 cases j with
 |cons x y=>
  cases y
  cases x with
  |list z f=>exact⟨_,_,ns,rfl,rfl,z,zKh ns _ f,e⟩
theorem zKj (l:OpenLaw)(args:List WData):l.row.toRowW.claim.post args (.bool true) args=true :=
 postW_of (r:=l.row.toRowW) (X:=(true==true))
  (show rB [] (.bool true) .bool=true by first|rfl|decide|simp[rB,WShape.arms,WShape.armsAll])
  (show(WTm.eq .res (.lit (.bool true))).value [] {args:=args,res:=some (.bool true),after:=args}=some (.bool (true==true))from w_eq_bool (w_res rfl) w_lit) rfl
theorem attach_call {l:OpenLaw}{n:Nat}{q:aB}{loose:List Str}{XP:(Str->Option ae)->ba->Prop}{YP:aL->ba->Prop}{d:DefRec}
  (B:l.most=some n) (p:d.params.defaults=[])
  (call:∀(w:aL) (s₀ b:ak) (mg s:Str->Option ae) (g:ai) (o:Obj) (pm m c:ae) (a:ai) (vs:List ae) (ns:List Int),
   Ground q loose [] XP w s₀ mg s b.heap->YP w b.heap->
   b.heap.get? g=some o->o.data=.func (docDef d.name d.params d.body d.scope pm m c)->b.heap.CodeRec m d.name->mg d.name=some (.ref g)->
   b.heap.get? a=some {cls:=.type "list",data:=.seq vs.toArray}->nh vs ns->ns.length<=n->b.gens=#[]->
   codeAny (model l.prog w) callerA (.call (.ref g) ⟨[.ref a],[]⟩) (fun r s'=>r=.ok (.ret (.bool true))/\OldK b.heap s'.heap/\s'.os=b.os/\gy s'.gens) b) :
  WalkO q loose XP YP l.row.toRowW d [] (fun f vs=>oQ f vs):=by
 intro w s₀ b mg s G Y g o pm m c C kV D hd u y v E args z as h A F x H
 obtain rfl:C=.none:=Dflts.none y p
 obtain rfl:kV=.none:=Dflts.noKw y
 obtain⟨a,vs,ns,rfl,rfl,i,e,j⟩:=zKi B h x
 refine enter_call (dI (call w s₀ b mg s g o pm m c a vs ns G Y D (fd_plain hd) u v i e j E) fun r s' I=>?_)
 obtain⟨rfl,J,L,M⟩:=I
 exact⟨.inl ⟨.bool true,.bool true,[],rfl,fun _=>rfl,.bool true,zKj l _,fun _=>⟨List.Pairwise.nil,fun _ N=>(nomatch N)⟩⟩,J,L,M⟩
end Att
namespace L2
open PySem PySem.Spec PyProof.Rows
theorem zFg:∀{vs:List ae}{ns:List Int},nh vs ns->zK (ns.map V.int) vs
 |_,_,.nil=>.nil
 |_,_,.cons n t h=>.cons ⟨t,rfl⟩ (zFg h)
def zCX (H:Hp):Prop:=∀b,H b=none\/∃o xs,H b=some (.frz o (.lst xs))
theorem zKk {P:aB}{w:aL}{K:aa}{mg E:Str->Option ae}{CX:uN}{k:Nat}{G a:ai}{fd:aE}{x:Str}{sp:Sp}{c:ak}{vs:List ae}{ns:List Int}
  (Q:K.In c.heap) (j:c.heap.Ns mainGlobals mg) (f:c.heap.Ns builtinsNs E) (I:∀x:Str,x≠"__name__"->E x=bootBuiltins x) (l:c.heap.NoLimit) (W:c.gens=#[])
  (D:c.heap.get? a=some {cls:=.type "list",data:=.seq vs.toArray}) (hi:nh vs ns) (hl:ns.length<=sizeLine) (X:Room k callerA)
  (F:∀base:ba,K.In base->base.Ns mainGlobals mg->FnOk P w K mg base CX k G fd [x] sp) (i:∀(s:ak) (u:ae),lN s fd ⟨[u],[]⟩ [(x,u)])
  (J:∀H:Hp,zCX H->z7 K H a (ns.map V.int)->sp [.ref a] H (fun v _=>v=.bl true) fun _ _ _=>False)
  (L:∀H e s',CX [] H c (fun _ _ _=>False) e s'->False) :
  codeAny (model P w) callerA (.call (.ref G) ⟨[.ref a],[]⟩) (fun r s'=>r=.ok (.ret (.bool true))/\OldK c.heap s'.heap/\s'.os=c.os/\gy s'.gens) c:=by
 have R:=zFg hi
 have p:=hi.length
 have core:∀H:Hp,zCX H->z7 K H a (ns.map V.int)->zV P w H c.heap->(∀b,H b≠none->b=a)->(H a≠none->K.lookup a=none)->
   codeAny (model P w) callerA (.call (.ref G) ⟨[.ref a],[]⟩) (fun r s'=>r=.ok (.ret (.bool true))/\OldK c.heap s'.heap/\s'.os=c.os/\gy s'.gens) c:=by
  intro H T Y hok U Z
  have base_of:∀{b:ai} {o:Obj},c.heap.get? b=some o->H b=none->(jW c.heap H).get? b=some o:=fun e n=>zIj e n
  have M:∀{b:ai} {o:Obj} {y:Array eM} {ep:Nat},c.heap.get? b=some o->o.data=.dict y ep->H b=none:=fun{b o y ep} e d=>by
   cases q:H b with
   |none=>rfl
   |some u=>
    have N:b=a:=U b (by rw[q];simp)
    subst N
    rw[D]at e;cases e
    have d':Data.seq vs.toArray _=Data.dict y ep:=d
    cases d'
  have g:∀{b:ai} {m:Str->Option ae},c.heap.Ns b m->(jW c.heap H).Ns b m:=fun{b m} ⟨o,y,ep,e,d,r⟩=>⟨o,y,ep,base_of e (M e d),d,r⟩
  have A:K.In (jW c.heap H):=fun b o e=>base_of (Q b o e) (by
   cases q:H b with
   |none=>rfl
   |some u=>
    have N:b=a:=U b (by rw[q];simp)
    subst N
    rw[Z (by rw[q];simp)]at e;cases e)
  have hM:Mod K mg (jW c.heap H):=⟨A,g j,⟨E,g f,I⟩,let⟨mc,h1,h2⟩:=l;⟨mc,g h1,h2⟩⟩
  have e0:Env0 P w K mg (jW c.heap H) callerA [] c H:=⟨rfl,hM,fun b o e=>zIk e,d5 (zIi _ _),trivial,fun b f=>absurd (show b∈([]:List ai)from f) (by simp),hok,.of_eq W⟩
  refine dI ((F _ A (g j)).run callerA [] c H ⟨[.ref a],[]⟩ [.ref a] [.ref a] _ _ X e0 (i c (.ref a)) (.cons rfl .nil) (J H T Y)) fun r s' h=>?_
  cases r with
  |error e=>exact(L H e s' h).elim
  |ok fl=>
   cases fl with
   |next=>exact dj h
   |brk=>exact dj h
   |cont=>exact dj h
   |ret u=>
    obtain⟨v,H',os,bare,un,B,r',q⟩:=h
    have q':v=.bl true:=q
    subst q'
    obtain rfl:u=Value.bool true:=r'
    refine⟨rfl,OldK.of_keep fun b o e=>?_,os,bare⟩
    cases q:H b with
    |none=>exact un.keep b o e q (by intro z;exact absurd (show b∈([]:List ai)from z) (by simp)) (by simp)
    |some u=>
     rcases T b with z|⟨ob,xs,z⟩
     ·rw[q]at z;cases z
     ·have z2:=un.frzs b ob _ z
      obtain⟨e1,_⟩:=hok b _ z
      obtain⟨e2,_⟩:=B b _ z2
      rw[e]at e1;cases e1
      exact e2
 cases O:K.lookup a with
 |some o=>
  have e:=Q a o O
  rw[D]at e
  cases e
  refine core (fun _=>none) (fun _=>.inl rfl) (.inr ⟨_,vs.toArray,_,O,rfl,rfl,rfl,by rw[aR,p];exact hl,by simpa using R⟩) (fun b u z=>by have C:(none:Option HO)=some u:=z;cases C) (fun b z=>absurd rfl z) fun z=>absurd rfl z
 |none=>
  refine core (fun b=>if b=a then some (.frz {cls:=.type "list",data:=.seq vs.toArray} (.lst (ns.map V.int)))else none) (fun b=>?_) (.inl (.inr ⟨{cls:=.type "list",data:=.seq vs.toArray},if_pos rfl⟩)) (fun b u z=>?_) (fun b z=>?_) fun _=>O
  ·by_cases f:b=a
   ·exact .inr ⟨_,_,if_pos f⟩
   ·exact .inl (if_neg f)
  ·by_cases f:b=a
   ·have C:=(if_pos f).symm.trans z
    cases C
    subst f
    exact⟨D,by rw[aj];exact hl,vs,_,R,D⟩
   ·have C:=(if_neg f).symm.trans z
    cases C
  ·by_cases f:b=a
   ·exact f
   ·exact absurd (if_neg f) z
theorem zKl {l:kh}{n k:Nat}{q:aB}{loose:List Str}{XP:(Str->Option ae)->ba->Prop}{YP:aL->ba->Prop}{d:DefRec}{K:oE->aa}{CX:aL->uN}{sp:aL->Sp}{x:Str}
  (C:l.most=some n) (p:n<=sizeLine) (r:d.params.defaults=[]) (D:Room k callerA)
  (E:∀(w:aL) (h:ba),YP w h->(K w.params).In h)
  (F:∀(w:aL) (mg:Str->Option ae) (m:ai) (h:ba),(K w.params).In h->h.Ns mainGlobals mg->mg d.name=some (.ref m)->
   ∃fd:aE,(∀(s:ak) (u:ae),lN s fd ⟨[u],[]⟩ [(x,u)])/\
    ∀base:ba,(K w.params).In base->base.Ns mainGlobals mg->FnOk l.prog w (K w.params) mg base (CX w) k m fd [x] (sp w))
  (y:∀(w:aL) (H:Hp) (a:ai) (ns:List Int),ns.length<=n->zCX H->z7 (K w.params) H a (ns.map V.int)->sp w [.ref a] H (fun v _=>v=.bl true) fun _ _ _=>False)
  (z:∀(w:aL) (H:Hp) (s:ak) (e:ae) (s':ak),CX w [] H s (fun _ _ _=>False) e s'->False) :
  pT q loose XP YP l.row.toRowW d [] (fun f vs=>oQ f vs):=by
 refine Att.attach_call C r fun w s₀ I mg R m o pm U J a vs ns G Y W hd L A j i c M=>?_
 have B:=E w _ Y
 obtain⟨fd,N,O⟩:=F w mg m _ B G.T.g A
 exact zKk B G.T.g G.T.b G.T.builtins G.T.nolimit M j i (bZ c p) D O N (fun H P Q=>y w H a ns c P Q) fun H e s'=>z w H I e s'
abbrev zR:uN:=fun _ _ _ _ _ _=>False
abbrev E0:XK:=fun _ _ _=>False
theorem zAX {X:Cx}:jH zR X E0:=fun _ _ _ _ _ _ _ h=>h.elim
structure Fun (K:aa) (x qual:Str) (st:bY) (f:ai) (fd:aE):Prop where
 ex:∃(oc:ae) (od:Option ai) (kV doc pm:ae) (an:Option ai) (cdv ct:ae) (osl:Array (Option ae)),
  fd=cQ x qual (defArgs st) (defBody st) (defScope st) .none kV doc pm an cdv ct/\K.lookup f=some ⟨oc,od,.func fd,osl⟩/\dU K cdv qual=true
 kp:bU K (.ref f)=true
section
variable{P:aB}{w:aL}{K:aa}{mg:Str->Option ae}{base:ba}
theorem Fun.ok {x a:Str}{st:bY}{f:ai}{fd:aE}{N d:List Str}{k:Nat}{sp:Sp}(F:Fun K x a st f fd)(S:FnScope N d (defScope st))(len:∀vs H Q E,sp vs H Q E->vs.length=d.length)
  (c:∀(b:ae) (A:bJ) (outer:List Env) (s:ak) (H:Hp) (vs:List V) (Q:VK) (E:XK),Room k (A.deeper (envOfC a (defScope st) s.heap.objs.size f b))->sp vs H Q E->
   ∃t,uU (jZ zR P w K mg base N a (defScope st) f b A outer s H E).nox (defBody st) t/\t {nx:=fun _ H'=>Q .non H',rt:=Q} (start N vs) H):FnOk P w K mg base zR (k+1) f fd d sp:=by
 obtain⟨n,od,kV,i,pm,o,b,ct,j,rfl,l,e⟩:=F.ex
 refine zFL l e S len fun A outer s H vs Q E m g=>?_
 obtain⟨t,h,q⟩:=c b A outer s H vs Q E m g
 exact⟨t,h.nox,q⟩
theorem Fun.binds {x a:Str}{st:bY}{f:ai}{fd:aE}{d:List Str}(F:Fun K x a st f fd)
  (h:∀(kV b pm:ae) (e:Option ai) (c ct:ae) (us:List ae),us.length=d.length->bindArgs (cQ x a (defArgs st) (defBody st) (defScope st) .none kV b pm e c ct) ⟨us,[]⟩=pure (d.zip us)):vG K fd d []:=by
 obtain⟨j,od,kV,b,pm,e,c,ct,g,rfl,l,i⟩:=F.ex
 exact .all (h kV b pm e c ct)
theorem gB {x a:Str}{st:bY}{f:ai}{h:ae}{od g:Option ai}{e:Array (Option ae)}{kV d pm b ct:ae}(l:K.lookup f=some ⟨h,od,.func (cQ x a (defArgs st) (defBody st) (defScope st) .none kV d pm g b ct),e⟩)
  (c:dU K b a=true) (k:bU K (.ref f)=true):Fun K x a st f (cQ x a (defArgs st) (defBody st) (defScope st) .none kV d pm g b ct):=⟨⟨h,od,kV,d,pm,g,b,ct,e,rfl,l,c⟩,k⟩
end
theorem uW {A:bJ}{k:Nat}(a:Room k A):A.units+1<cLine:=mD (Nat.add_le_add_left (by decide:1<=64) _) a.units
section
variable{X:Cx}
theorem pv (i:Nat){x:Str}{pos:Pos}(b:X.N[i]?=some x:=by rfl)(c:Vis X.env.scope x:=by first|exact Or.inl rfl|exact Or.inr (Or.inl rfl)|exact Or.inr (Or.inr rfl))(hd:(x==("__debug__" : Str))=false:=by decide)
  (a:(x==("__classdict__" : Str))=false:=by decide):PE X (.Name x pos) (qQ i):=zIo b c hd a
end
theorem yJ {A B:Prop}(h:B):if false=true then A else B:=by
 rw[if_neg aH]
 exact h
theorem vH {A B:Prop}(h:A):if true=true then A else B:=by
 rw[if_pos rfl]
 exact h
theorem gC {c A B:Prop} [Decidable c] (a:c)(h:B):if(!decide c)=true then A else B:=by
 rw[decide_eq_true a]
 exact yJ h
def zB (H H':Hp):Prop:=∀b o,H b=some o->H' b=some o
theorem zB.refl (H:Hp):zB H H:=fun _ _ h=>h
theorem zB.trans {H d e:Hp}(a:zB H d)(b:zB d e):zB H e:=fun c o h=>b c o (a c o h)
theorem zB.free {H H':Hp}(e:zB H H'){l:ai}(h:H' l=Option.none):H l=Option.none:=by
 cases q:H l with
 |none=>rfl
 |some o=>
  rw[e l o q]at h
  cases h
theorem zB.seq {K:aa}{H H':Hp}{a:ai}{xs:List V}(e:zB H H')(h:z7 K H a xs):z7 K H' a xs:=by
 rcases h with(h|⟨o,h⟩)|h
 ·exact .inl (.inl (e _ _ h))
 ·exact .inl (.inr ⟨o,e _ _ h⟩)
 ·exact .inr h
end L2
end
section
namespace L2
open PySem
section
variable{env:Env}
theorem zCY:∀(l:List (Str×iq)) (d:List (Str×ai)),(∀x∈l,x.2=.free->∃c,env.cells.lookup x.1=some c)->(∀x c,d.lookup x=some c->env.cells.lookup x=some c)->
  ∃f,(forIn l d (fun x r=>if(x.2==NameKind.free)=true then do let a<-cellOf env x.1;pure (ForInStep.yield ((x.1,a)::r))else pure (ForInStep.yield r)):Sem (List (Str×ai)))=pure f/\
   (∀x c,f.lookup x=some c->env.cells.lookup x=some c)/\∀x,((x,NameKind.free)∈l\/∃c,d.lookup x=some c)->∃c,f.lookup x=some c
 | [],d,_,j=>⟨d,rfl,j,fun x h=>h.elim (fun z=>by cases z) id⟩
 |(n,k)::l,d,h,j=>by
  have hl:∀x∈l,x.2=.free->∃c,env.cells.lookup x.1=some c:=fun x b=>h x (az _ b)
  rw[ki]
  by_cases m:k=.free
  ·subst m
   obtain⟨c,s⟩:=h (n,.free) (aq ..) rfl
   obtain⟨f,e,o,p⟩:=zCY l ((n,c)::d) hl fun x q z=>by
    by_cases b:x=n
    ·subst b
     rw[fS]at z
     cases z;exact s
    ·have g:(x==n)=false:=by simpa using b
     rw[bK,g]at z
     exact j x q z
   refine⟨f,?_,o,fun x b=>p x ?_⟩
   ·have u:cellOf env n=pure c:=by unfold cellOf;rw[s]
    simp only[beq_self_eq_true,if_true,u,pure_bind]
    exact e
   ·rcases b with b|⟨q,b⟩
    ·rcases aD.mp b with b|b
     ·have:x=n:=(cx b).1
      subst this
      exact .inr ⟨c,fS⟩
     ·exact .inl b
    ·by_cases i:x=n
     ·subst i;exact .inr ⟨c,fS⟩
     ·have g:(x==n)=false:=by simpa using i
      exact .inr ⟨q,by rw[bK,g];exact b⟩
  ·obtain⟨f,e,o,p⟩:=zCY l d hl j
   have v:(k==NameKind.free)=false:=by simpa using m
   refine⟨f,?_,o,fun x b=>p x ?_⟩
   ·simp only[v,e7,if_false,pure_bind]
    exact e
   ·rcases b with b|b
    ·rcases aD.mp b with b|b
     ·exact absurd (cx b).2.symm m
     ·exact .inl b
    ·exact .inr b
theorem zFh {scope:eA}(h:∀x∈scope.names,x.2=.free->∃c,env.cells.lookup x.1=some c) :
  ∃a,closureFor scope env=pure a/\(∀x c,a.lookup x=some c->env.cells.lookup x=some c)/\∀x,(x,NameKind.free)∈scope.names->∃c,a.lookup x=some c:=by
 obtain⟨a,e,b,d⟩:=zCY scope.names [] h (fun x c z=>by simp at z)
 refine⟨a,?_,b,fun x f=>d x (.inl f)⟩
 unfold closureFor
 dsimp only
 refine Eq.trans (congrArg (· >>=pure) ?_) (Eq.trans (congrArg (· >>=pure) e) (by simp))
 rfl
end
section
variable{prog:aB}{w:aL}{A:bJ}{R:oK->ak->Prop}{s:ak}
theorem zFi {a target iter:bD}{b:List bD}{scope:eA}{pos:Pos}{it d:ae}{env:Env}(J:Nat->ak->Prop)
  (e:∀n s,J n s->wpAny (model prog w) A (pyNext it) (fun r g=>match r with
   |none=>R (.ok .next) g
   |some v=>wpAny (model prog w) A (letOwnedTupleGo target it v) (fun _ j=>wpAny (model prog w) A (assign target env v) (fun _ l=>
     wpAny (model prog w) A (forIn b true fun c r=>if r=true then do let ok<-isTrue c env (eval c env);pure (ForInStep.yield ok)else pure (ForInStep.yield r)) (fun ok i=>
      if ok=true then wpAny (model prog w) A (eval a env) (fun x o=>wpAny (model prog w) A (call (.builtin "list.append") [d,x]) (fun _ p=>∃m,m<n/\J m p) (fun _ _=>False) o) (fun _ _=>False) i
      else∃m,m<n/\J m i) (fun _ _=>False) l) (fun _ _=>False) j) (fun _ _=>False) g) (fun _ _=>False) s)
  (n:Nat) (h:J n s):codeAny (model prog w) A (.compLoop (.ListComp a [⟨target,iter,b,0⟩] scope pos) 0 it d env) R s:=by
 refine codeAny_loop rfl J (fun n s z=>?_) n h
 show wpAny _ A ((compTurn (.ListComp a [⟨target,iter,b,0⟩] scope pos) 0 it d env).onRaise (fun x=>noteFrame x env>>=fun _=>theTreesLotGoes x)) _ _ s
 refine wpAny_noted ?_
 have no:∀{α:Type} {t:Sem α} {Q:α->ak->Prop} {E:ae->ak->Prop} {s:ak},wpAny (model prog w) A t Q (fun _ _=>False) s->wpAny (model prog w) A t Q E s:=fun h=>b8 h (fun _ _ q=>q) fun _ _ f=>f.elim
 rw[compTurn_list]
 refine ah (pU (ah (no (b8 (e n s z) (fun r g u=>?_) fun _ _ f=>f))))
 cases r with
 |none=>exact ax u
 |some v=>
  refine ah (no (b8 u (fun _ j B=>?_) fun _ _ f=>f))
  refine ah (no (b8 B (fun _ l C=>?_) fun _ _ f=>f))
  refine ah (no (b8 C (fun ok i y=>?_) fun _ _ f=>f))
  cases ok with
  |false=>exact ax ⟨rfl,y⟩
  |true=>
   refine ah (ah (no (b8 y (fun x o D=>?_) fun _ _ f=>f)))
   exact ah (no (b8 D (fun _ p F=>ax (ax ⟨rfl,F⟩)) fun _ _ f=>f))
end
end L2
end
section
namespace L2
open PySem PySem.Spec PyProof.Rows
theorem zV.track {P:aB}{w:aL}{H:Hp}{h:ba}{a:ai}{o:HO}(x:zV P w H h)(d:H a=none)(new:yA P w (upd H a o) h a o):zV P w (upd H a o) h:=fun b u e=>by
 by_cases f:b=a
 ·subst f;rw[zI]at e;cases e;exact new
 ·rw[zF f]at e
  refine(x b u e).stay (fun c v _ q=>q) (fun c q=>?_) fun c xs q=>?_
  ·rw[zF (vK q d)];exact q
  ·rw[zF (vK q d)];exact q
theorem zV.but {P:aB}{w:aL}{H:Hp}{h h':ba}{C:ai}(x:zV P w H h)(a:H C=none)(k:∀b u,b≠C->h.get? b=some u->h'.get? b=some u):zV P w H h':=fun b u e=>by
 refine(x b u e).stay (fun c v d q=>k c v ?_ q) (fun _ q=>q) fun _ _ q=>q
 rintro rfl
 rcases d with z|z
 ·rw[z,e]at a;cases a
 ·rw[z]at a;cases a
theorem zFj {env:Env}:∀{names:List (Str×iq)}{x:Str},names.lookup x=some .free->
  (names.map fun(n,k)=>if(k==NameKind.free&&env.scope.kind== .function&&env.kindOf n==some .cell)then(n,NameKind.cell)else(n,k)).lookup x=some .cell\/
  (names.map fun(n,k)=>if(k==NameKind.free&&env.scope.kind== .function&&env.kindOf n==some .cell)then(n,NameKind.cell)else(n,k)).lookup x=some .free
 | [],_,h=>by simp at h
 |(n,k)::r,x,h=>by
  rw[aP]
  cases a:x==n with
  |true=>
   rw[bK,a]at h
   cases h
   dsimp only
   split
   ·left;rw[bK,a]
   ·right;rw[bK,a]
  |false=>
   rw[bK,a]at h
   have ih:=zFj (env:=env) h
   dsimp only
   split
   ·rw[bK,a];exact ih
   ·rw[bK,a];exact ih
theorem zFk {env:Env}:∀{names:List (Str×iq)}{x:Str}{a:iq},(a=.cell\/a=.free)->
  (names.map fun(n,k)=>if(k==NameKind.free&&env.scope.kind== .function&&env.kindOf n==some .cell)then(n,NameKind.cell)else(n,k)).lookup x=some a->∃k,(x,k)∈names/\(k=.cell\/k=.free)
 | [],_,_,_,h=>by simp at h
 |(n,k)::r,x,a,c,h=>by
  rw[aP]at h
  cases b:x==n with
  |true=>
   have e:x=n:=by simpa using b
   subst e
   dsimp only at h
   split at h
   ·rename_i d
    have:k=.free:=by
     rw[aY,aY]at d
     simpa using d.1.1
    exact⟨k,aq ..,.inr this⟩
   ·rw[bK,b]at h
    cases h
    exact⟨k,aq ..,c⟩
  |false=>
   have h':(r.map fun(n,k)=>if(k==NameKind.free&&env.scope.kind== .function&&env.kindOf n==some .cell)then(n,NameKind.cell)else(n,k)).lookup x=some a:=by
    dsimp only at h
    split at h
    ·rw[bK,b]at h;exact h
    ·rw[bK,b]at h;exact h
   obtain⟨k0,f,g⟩:=zFk (env:=env) c h'
   exact⟨k0,az _ f,g⟩
def yY (X:Cx)(N:List Str)(scope:eA)(cl:List (Str×ai))(C:ai)(s:ak)(H:Hp)(ex:List ai):Cx where
 prog:=X.prog
 w:=X.w
 K:=X.K
 mg:=X.mg
 base:=X.base
 A:=X.A
 N:=N
 s₀:=s
 H₀:=H
 env:=compEnvC scope cl C X.env
 outer:=X.stack
 stack:=X.stack
 ex:=ex
 fn:=fun _=>false
 calm:=X.calm
 pn:=[]
 xe:=fun _ _=>False
structure CompScope (sc:eA) (XN N:List Str) (scope:eA) (caps:List Nat):Prop where
 kind:scope.kind=.function
 nd:N.Nodup
 nocell:∀y∈scope.names,y.2≠.cell
 names:∀y∈scope.names,y.2=.local->scope.names.lookup y.1=some .local
 free:∀y∈scope.names,y.2=.free->sc.names.lookup y.1=some .cell\/sc.names.lookup y.1=some .free
 cap:∀(i:Nat),i<caps.length->∃x,N[i]?=some x/\XN[caps.getD i 0]?=some x/\scope.names.lookup x=some .free/\(sc.names.lookup x=some .cell\/sc.names.lookup x=some .free)
 len:caps.length<=N.length
def uO (caps:List Nat)(n:Nat)(σ:St):St:=caps.map (fun j=>(σ[j]?).join)++aS (n-caps.length) none
def PF (X:Cx)(ifs:List bD)(tc:TT):Prop :=
 ∀(pins:List (ai×Obj)) (s:ak) (σ:St) (H:Hp) (Q:Bool->Hp->Prop),Inv X pins σ H s->tc σ H Q->
  wpAny (model X.prog X.w) X.A (forIn ifs true fun c r=>if r=true then do let ok<-isTrue c X.env (eval c X.env);pure (ForInStep.yield ok)else pure (ForInStep.yield r)) (TP X pins σ Q) X.xe s
def zBJ:TT:=fun _ H Q=>Q true H
theorem uX {X:Cx}:PF X [] zBJ:=fun a s σ H Q I h=>by
 rw[lE]
 exact ax ⟨H,I,h⟩
theorem gX {X:Cx}{c:bD}{b:TT}(d:PT X c b):PF X [c] b:=fun a s σ H Q I h=>by
 rw[ki]
 refine ah ?_
 rw[if_pos rfl]
 refine ah (zG (d a s σ H Q I h) fun ok e q=>ax ?_)
 show wpAny _ _ (forIn [] ok _) _ _ _
 rw[lE]
 exact ax q
def zFl (wi:TI)(g:TG)(tc:TT)(te:TE)(caps:List Nat)(n:Nat):TE:=fun σ H Q=>wi σ H fun J H1=>∃W:Nat->Nat->List V->St->Hp->Prop,(∃m,W 0 m [] (uO caps n σ) H1)/\∀i m acc σ' H',W i m acc σ' H'->
 (J.stop i H'/\∀D,H' D=none->Q (.ref D) (upd H' D (.lst acc)))\/
 (J.go i H'/\acc.length<sizeLine/\∀x H2,J.yld i H' x H2->g x σ' H2 fun σ2 H3=>tc σ2 H3 fun b H4=>if b=true then te σ2 H4 fun y H5=>∃m',m'<m/\W (i+1) m' (acc++[y]) σ2 H5 else∃m',m'<m/\W (i+1) m' acc σ2 H4)
section
variable{X:Cx}{pins:List (ai×Obj)}{σ:St}{H:Hp}{s:ak}{N:List Str}{scope:eA}{cl:List (Str×ai)}{C:ai}{fp:List ai}{caps:List Nat}
theorem zFm (I:Inv X pins σ H s)(S:CompScope X.env.scope X.N N scope caps)(g:∀x c,cl.lookup x=some c->X.env.cells.lookup x=some c)(n:∀x,(x,NameKind.free)∈scope.names->∃c,cl.lookup x=some c)
  (l:s.heap.objs.size<=C) (h:∀b∈fp,qF X pins H b) (i:∀b∈fp,b<s.heap.objs.size):(yY X N scope cl C s H fp).Ok where
 mod:=I.ok.mod
 kind:=S.kind
 glob:=I.ok.glob
 blt:=I.ok.blt
 above:=l
 inj:=fun x y c a b=>I.ok.inj x y c (g x c a) (g y c b)
 has:=fun x p=>by
  have j:∃f,(f=NameKind.cell\/f=.free)/\(relabel scope X.env).names.lookup x=some f:=by
   rcases p with z|z
   ·exact⟨_,.inl rfl,z⟩
   ·exact⟨_,.inr rfl,z⟩
  obtain⟨f,q,z⟩:=j
  obtain⟨k,m,e⟩:=zFk q z
  rcases e with e|e
  ·exact absurd e (S.nocell _ m)
  ·subst e;exact n x m
 cab:=fun x c z=>by cases z
 hd:=I.ok.hd
 frames:=I.ok.frames
 stk:=.inl rfl
 exf:=fun b d=>by
  obtain⟨_,_,_,_,r,_⟩:=h b d
  exact⟨aM (bc (i b d) l),fun x c e=>r x c (g x c e)⟩
 bs:=I.bs
 bsz:=bZ I.ok.bsz I.sz
 noex:=fun b o e d=>by
  obtain⟨_,_,_,u,_⟩:=h b d
  rcases u with z|z
  ·exact I.ok.noex b o e z
  ·exact absurd (bc (aC e) (bZ I.ok.bsz z)) (bw _)
 exfs:=fun b d z=>by
  obtain⟨_,f1,f2,_⟩:=h b d
  rcases aD.mp (I.stkSub b z)with e|e
  ·exact f1 e
  ·exact f2 e
 funs:=I.stack
 frf:=I.stkFree
theorem zFn {j:ba}{D:ai}{od:Obj}{t:Nat}{m:Str->Option ae}(I:Inv X pins σ H s)(ok:(yY X N scope cl C s H fp).Ok)(S:CompScope X.env.scope X.N N scope caps)
  (g:∀x c,cl.lookup x=some c->X.env.cells.lookup x=some c) (n:∀x,(x,NameKind.free)∈scope.names->∃c,cl.lookup x=some c)
  (keep:∀b o,s.heap.get? b=some o->j.get? b=some o) (P:j.Ns C m) (Q:s.heap.objs.size<=C) (R:j.get? D=some od) (w:s.heap.objs.size<=D) (B:D≠C) (E:∀v,od.data≠.cell v) :
  Inv (yY X N scope cl C s H fp) [(D,od)] (uO caps N.length σ) H {s with heap:=j,toks:=t}:=by
 have a:∀x c,cl.lookup x=some c->∀v,s.heap.IsCell c v->j.IsCell c v:=fun x c e v ⟨o,F,hd⟩=>⟨o,keep c o F,hd⟩
 refine⟨ok,rfl,I.bare,Un.kept keep,⟨m,P,fun i x v e1 f e3=>?_⟩,fun x c e=>?_,I.hok.fresh Q,fun x c e=>I.freeC x c (g x c e),fun p T=>?_,I.hok.kept keep,?_⟩
 ·have hi:i<caps.length:=by
   by_cases hi:i<caps.length
   ·exact hi
   ·exfalso
    unfold uO at f
    rw[dy (by simpa using hi),iY]at f
    split at f<;>cases f
  obtain⟨y,U,W,L,M⟩:=S.cap i hi
  have G:x=y:=by
   have A:N[i]?=some x:=e1
   rw[U]at A;exact(au A).symm
  subst G
  have Y:σ[caps.getD i 0]?=some (some v):=by
   unfold uO at f
   rw[b7 (by simpa using hi),ar]at f
   have:caps[i]?=some (caps.getD i 0):=by rw[b0];simp[hi]
   rw[this]at f
   have d:(σ[caps.getD i 0]?).join=some v:=by simpa using f
   cases q:σ[caps.getD i 0]? with
   |none=>rw[q]at d;cases d
   |some z=>rw[q]at d;have:z=some v:=d;rw[this]
  obtain⟨m',_,hl⟩:=I.loc
  obtain⟨u,r,l⟩:=hl _ x v W Y (M.elim (fun z=>.inr (.inl z)) fun z=>.inr (.inr z))
  refine⟨u,r,?_⟩
  have nl:X.env.kindOf x≠some .local:=by
   rcases M with z|z
   ·show X.env.scope.names.lookup x≠_;rw[z];decide
   ·show X.env.scope.names.lookup x≠_;rw[z];decide
  rcases l with⟨k,_⟩|⟨_,c,Z,z⟩
  ·exact absurd k nl
  ·obtain⟨O,h⟩:=n x (dt L)
   have:c=O:=au (Z.symm.trans (g x O h))
   subst this
   refine .inr ⟨?_,c,h,a x c h _ z⟩
   exact zFj (env:=X.env) L
 ·obtain⟨v,z⟩:=I.cell x c (g x c e)
  exact⟨v,a x c e v z⟩
 ·have:p=(D,od):=by
   have J:p∈[(D,od)]:=T
   simpa using J
  subst this
  refine⟨R,I.hok.fresh w,B,fun z=>?_,E⟩
  have z':D∈yV X.stack:=z
  obtain⟨_,o,F,_⟩:=I.stack.mem z'
  exact absurd (bc (aC F) w) (bw _)
 ·unfold uO
  show _=N.length
  rw[aA,aj,kr]
  have:=S.len
  omega
end
section
variable{X:Cx}
theorem vX {tg iter elt:bD}{ifs:List bD}{scope:eA}{pos:Pos}{wi:TI}{g:TG}{tc:TT}{te:TE}{N:List Str}{caps:List Nat}(hc:X.calm=true)(S:CompScope X.env.scope X.N N scope caps)
  (hi:PI X tg iter wi) (hg:∀cl C s H ex,PG (yY X N scope cl C s H ex) tg g) (hf:∀cl C s H ex,PF (yY X N scope cl C s H ex) ifs tc) (he:∀cl C s H ex,PE (yY X N scope cl C s H ex) elt te)
  (hs:∀x,foldedSetIterable iter X.env x=pure x:=by intro _;rfl):PE X (.ListComp elt [⟨tg,iter,ifs,0⟩] scope pos) (zFl wi g tc te caps N.length):=by
 intro pins s σ H Q I h
 obtain⟨cl,hcl,hcl1,hcl2⟩:=zFh (env:=X.env) (scope:=scope) fun y hy e=>I.ok.has y.1 (S.free y hy e)
 rw[eval_ListComp]
 refine iS (use:=none) rfl hs hcl S.kind S.names (zG (hi pins s σ H _ I h) fun v s1 h1=>zG h1 fun itv s2 h2=>?_)
 obtain⟨it,fp,tn,J,H2,e,I2,T,st2,f2,W,⟨m0,w0⟩,turn⟩:=h2
 subst e
 refine c9 (lF S.nocell (by intro y hy;simp at hy) (fun h₁ hns hsb=>?_) S.kind)
 dsimp only at hns hsb⊢
 generalize hG:s2.heap.push {cls:=.type "list",dict:=none,data:=.seq ([]:List ae).toArray}=G at hns hsb⊢
 have hCs:G.objs.size=s2.heap.objs.size+1:=by rw[<-hG,bz]
 have hDC:s2.heap.objs.size≠G.objs.size:=by rw[hCs];exact aM (bO _)
 have old:∀b o,s2.heap.get? b=some o->h₁.get? b=some o:=fun b o e=>by
  have hb:=aC e
  refine hsb.extBut b o (by rw[hCs];exact aM (bL hb)) (ag _ ?_)
  rw[<-hG]
  exact ag _ e
 have hD:h₁.get? s2.heap.objs.size=some {cls:=.type "list",dict:=none,data:=.seq ([]:List ae).toArray}:=by
  refine hsb.extBut _ _ hDC (ag _ ?_)
  rw[<-hG]
  exact ay _ rfl
 have hfo:∀b∈fp,b<s2.heap.objs.size:=fun b hb=>let⟨o,e,_⟩:=T.obj 0 _ st2 b hb;aC e
 have hCle:s2.heap.objs.size<=G.objs.size:=by omega
 have ok:=zFm (C:=G.objs.size) I2 S hcl1 hcl2 hCle f2 hfo
 have I0:Inv (yY X N scope cl G.objs.size s2 H2 fp) [(s2.heap.objs.size,{cls:=.type "list",dict:=none,data:=.seq ([]:List ae).toArray})] (uO caps N.length σ) H2 {s2 with heap:=h₁,toks:=s2.toks+([]:List (Str×ae)).length} :=
  zFn I2 ok S hcl1 hcl2 old hns hCle hD (aw _) hDC (fun v z=>by cases z)
 have st1:tn 0 h₁:=T.keep 0 _ _ st2 fun b _ o e=>old b o e
 generalize hX:yY X N scope cl G.objs.size s2 H2 fp=X' at I0
 generalize hDa:s2.heap.objs.size=D at I0 hD hDC
 have loop:codeAny (model X.prog X.w) X.A (.compLoop (.ListComp elt [⟨tg,iter,ifs,0⟩] scope pos) 0 (.ref it) (.ref D) (compEnvC scope cl G.objs.size X.env)) (compPost (model X.prog X.w) X.A X.xe none (EP X pins σ Q) (.ref D) G.objs.size)
   {s2 with heap:=h₁,toks:=s2.toks+([]:List (Str×ae)).length}:=by
  subst hX
  refine zFi (J:=fun n s'=>∃i σ' H' acc its e,Inv (yY X N scope cl G.objs.size s2 H2 fp) [(D,{cls:=.type "list",data:=.seq (eP its) e})] σ' H' s'/\zK acc its/\acc.length<=sizeLine/\tn i s'.heap/\(∀b∈fp,H' b=none)/\W i n acc σ' H')
   ?_ m0 ⟨0,_,H2,[],[],0,I0,.nil,bh _,st1,fun b hb=>(f2 b hb).1,w0⟩
  rintro n s3 ⟨i,σ3,H3,acc,its,ep,I3,rv,hz,st3,fr3,w3⟩
  have stat:∀{H':Hp} {pl:List (ai×Obj)},(∀b∈fp,H' b=none)->(∀p∈pl,p.1=D)->∀b∈fp,qF (yY X N scope cl G.objs.size s2 H2 fp) pl H' b:=fun{H' pl} hn hpl b hb=>by
   obtain⟨a1,a2⟩:=ok.exf b hb
   exact⟨hn b hb,a1,ok.exfs b hb,.inl hb,fun x c e=>a2 x c e,fun p hp=>by
    have hp':p∈pl:=hp
    rw[hpl p hp',<-hDa]
    exact dH (hfo b hb)⟩
  have one:∀p∈[(D,({cls:=.type "list",data:=.seq (eP its) ep}:Obj))],p.1=D:=fun p hp=>by
   rcases aD.mp hp with e|e
   ·rw[e]
   ·cases e
  have pinD:∀{pl:List (ai×Obj)} {σ':St} {H':Hp} {s':ak} {o:Obj},Inv (yY X N scope cl G.objs.size s2 H2 fp) pl σ' H' s'->(D,o)∈pl->s'.heap.get? D=some o/\H' D=none:=fun{pl σ' H' s' o} I' hm=>by
   obtain⟨a,b,_⟩:=I'.pin (D,o) (aI _ hm)
   exact⟨a,b⟩
  rcases turn i n acc σ3 H3 w3 with⟨stop,q⟩|⟨go,hlt,step⟩
  ·refine b8 (T.done (yY X N scope cl G.objs.size s2 H2 fp) rfl rfl rfl hc i _ s3 σ3 H3 (fun _ _=>False) I3 (stat fr3 one) st3 stop) (fun r s4 zq=>?_) fun _ _ f=>f
   obtain⟨hr,I4⟩:=zq
   subst hr
   obtain⟨hDo,hDn⟩:=pinD I4 (aq ..)
   obtain⟨m4,hm4,_⟩:=I4.loc
   refine⟨m4,hm4,fun h' hsb'=>?_⟩
   have keepC:∀b u,b≠G.objs.size->s4.heap.get? b=some u->h'.get? b=some u:=fun b u hb e=>hsb'.extBut b u hb e
   have un:Un (yV X.stack) fp H2 H3 s2.heap s4.heap:=I4.base
   have hDo':h'.get? D=some {cls:=.type "list",data:=.seq (eP its) ep}:=keepC D _ hDC hDo
   have hlow:∀b (o:Obj),s2.heap.get? b=some o->b≠G.objs.size/\b≠D:=fun b o e=>by
    have h0:=aC e
    exact⟨by rw[hCs];exact aM (bL h0),by rw[<-hDa];exact aM h0⟩
   have un':Un (yV X.stack) fp H2 (upd H3 D (.lst acc)) s2.heap h' :=
    ⟨fun b o e n' hb hx=>keepC b o (hlow b o e).1 (un.keep b o e n' hb hx),
     fun b o e n' hb hx=>let⟨sl,q⟩:=un.slot b o e n' hb hx;⟨sl,keepC b _ (hlow b o e).1 q⟩,
     fun b o e n' hx=>by rw[zF (hlow b o e).2];exact un.free b o e n' hx,
     fun b o e hx=>let⟨o',q⟩:=un.there b o e hx;⟨o',keepC b _ (hlow b o e).1 q⟩,
     fun b xs e=>by rw[zF (vK (un.tups b xs e) hDn)];exact un.tups b xs e,
     fun b o u e=>by rw[zF (vK (un.frzs b o u e) hDn)];exact un.frzs b o u e,
     fun b ps e=>let⟨mo,q⟩:=un.tbls b ps e;⟨mo,by rw[zF (vK q hDn)];exact q⟩⟩
   have hok:zV X.prog X.w (upd H3 D (.lst acc)) h':=(I4.hok.but I4.free keepC).track hDn ⟨hz,its,ep,rv,hDo'⟩
   refine⟨.ref D,upd H3 D (.lst acc),I2.call' (s':={s4 with heap:=h'}) I4.os un' hok I4.bare (fun b hb=>?_),rfl,q D hDn⟩
   obtain⟨_,f1,_,f3,f4,f5⟩:=f2 b hb
   exact⟨f3,f1,f4,f5⟩
  ·refine b8 (T.item (yY X N scope cl G.objs.size s2 H2 fp) rfl rfl rfl hc i _ s3 σ3 H3 (fun _ _=>False) I3 (stat fr3 one) st3 go) (fun r s4 zq=>?_) fun _ _ f=>f
   obtain⟨u,hr,h4⟩:=zq
   subst hr
   refine zG h4 fun _ s5 zq=>?_
   obtain⟨x,H5,I5,r5,y5,st5,fr5⟩:=zq
   have I5':=I5.pinned (stat fr5 one) (T.obj _ _ st5)
   refine zG (hg cl G.objs.size s2 H2 fp _ s5 σ3 H5 x u _ I5' r5 (step x H5 y5)) fun _ s6 ⟨σ6,H6,I6,q6⟩=>?_
   refine zG (hf cl G.objs.size s2 H2 fp _ s6 σ6 H6 _ I6 q6) fun b s7 zq=>?_
   obtain⟨H7,I7,q7⟩:=zq
   have fin:∀{pl:List (ai×Obj)} {σ':St} {H':Hp} {s':ak},Inv (yY X N scope cl G.objs.size s2 H2 fp) (pl++gT fp s5.heap) σ' H' s'->tn (i+1) s'.heap/\∀b∈fp,H' b=none:=fun{pl σ' H' s'} I'=>by
    refine⟨T.keep _ _ _ st5 fun b hb o e=>(I'.pin (b,o) (aI _ (aI _ (kS hb e)))).1,fun b hb=>?_⟩
    obtain⟨o,e,_⟩:=T.obj _ _ st5 b hb
    exact(I'.pin (b,o) (aI _ (aI _ (kS hb e)))).2.1
   cases b with
   |false=>
    rw[if_neg aH]at q7⊢
    obtain⟨m',hm,w7⟩:=q7
    obtain⟨a1,a2⟩:=fin I7
    exact⟨m',hm,i+1,σ6,H7,acc,its,ep,I7.unpinned,rv,hz,a1,a2,w7⟩
   |true=>
    rw[if_pos rfl]at q7⊢
    refine zG (he cl G.objs.size s2 H2 fp _ s7 σ6 H7 _ I7 q7) fun y s8 zq=>?_
    obtain⟨yv,H8,I8,r8,m',hm,w8⟩:=zq
    obtain⟨a1,a2⟩:=fin I8
    obtain⟨b1,b2⟩:=pinD I8 (bC _ (aq ..))
    have hl:=rv.length
    refine iu iw ⟨_,b1,rfl⟩ gx (gi _ _) (iO D its.toArray ep y (by rw[aR];omega)) ⟨b1,?_⟩
    have q9:=i8 b1 (·.push y)
    have kp:∀b o,b≠D->s8.heap.get? b=some o->(s8.heap.update D (cF (·.push y))).get? b=some o:=fun b o hb e=>(bV s8.heap (cF (·.push y)) (dC hb)).trans e
    have I9:Inv (yY X N scope cl G.objs.size s2 H2 fp) [] σ6 H8 {s8 with heap:=s8.heap.update D (cF (·.push y))} :=
     (I8.pins_of (pins':=[]) fun p hp=>by cases hp).turned (t':=s8.toks) kp b2 hDC (.inr (by rw[<-hDa];exact aw _)) (fun x c e z=>by
      have e':X.env.cells.lookup x=some c:=hcl1 x c e
      obtain⟨v',hv'⟩:=I2.cell x c e'
      have h0:=hv'.lt
      rw[z,<-hDa]at h0
      exact bw _ h0) fun p hp=>by
       have:p∈([]:List (ai×Obj)):=hp
       cases this
    have hpu:its.toArray.push y=(its++[y]).toArray:=by simp
    rw[hpu]at q9
    obtain⟨e9,q9⟩:∃e9,(s8.heap.update D (cF (·.push y))).get? D=some {cls:=.type "list",data:=.seq (its++[y]).toArray e9}:=⟨_,q9⟩
    refine⟨m',hm,i+1,σ6,H8,acc++[yv],its++[y],e9,I9.pins_of fun p hp=>?_,rv.append (.cons r8 .nil),?_,T.keep _ _ _ a1 fun b hb o e=>kp b o ?_ e,a2,w8⟩
    ·obtain rfl:p=(D,{cls:=.type "list",data:=.seq (its++[y]).toArray e9}):=by
      rcases aD.mp hp with e|e
      ·exact e
      ·cases e
     obtain⟨_,_,c3,c4,_⟩:=I8.pin (D,_) (aI _ (bC _ (aq ..)))
     exact⟨q9,b2,c3,c4,fun v z=>by cases z⟩
    ·rw[aA,bM];omega
    ·rintro rfl
     have h0:=hfo b hb
     rw[hDa]at h0
     exact bw _ h0
 exact jq loop (T.self X.A 0 _ _ _ st1 loop)
end
theorem zB.seqT {K:aa}{H H':Hp}{a:ai}{xs:List V}(e:zB H H')(h:yH K H a xs):yH K H' a xs:=by
 rcases h with(h|⟨o,h⟩)|h
 ·exact .inl (.inl (e _ _ h))
 ·exact .inl (.inr ⟨o,e _ _ h⟩)
 ·exact .inr h
mutual
def yZ (K:aa)(H:Hp):bN->V->Prop
 | .none,v=>v=.non
 | .bool b,v=>v=.bl b
 | .int i,v=>v=.int i
 | .str x,v=>v=.str x
 | .list ds,v=>∃a xs,v=.ref a/\z7 K H a xs/\Reps K H ds xs
 | .tuple ds,v=>∃a xs,v=.ref a/\yH K H a xs/\Reps K H ds xs
 | .dict _,_=>False
def Reps (K:aa)(H:Hp):List bN->List V->Prop
 | [],xs=>xs=[]
 |d::ds,xs=>∃y ys,xs=y::ys/\yZ K H d y/\Reps K H ds ys
end
mutual
theorem yZ.same {K:aa}{H H':Hp}(e:zB H H'):∀(d:bN) (v:V),yZ K H d v->yZ K H' d v
 | .none,v,h=>h
 | .bool b,v,h=>h
 | .int i,v,h=>h
 | .str x,v,h=>h
 | .list c,v,h=>by
  obtain⟨a,xs,f,g,j⟩:=h
  exact⟨a,xs,f,e.seq g,Reps.same e c xs j⟩
 | .tuple c,v,h=>by
  obtain⟨a,xs,f,g,j⟩:=h
  exact⟨a,xs,f,e.seqT g,Reps.same e c xs j⟩
 | .dict _,v,h=>h
theorem Reps.same {K:aa}{H H':Hp}(e:zB H H'):∀(a:List bN) (xs:List V),Reps K H a xs->Reps K H' a xs
 | [],xs,h=>h
 |d::a,xs,h=>by
  obtain⟨y,ys,b,c,f⟩:=h
  exact⟨y,ys,b,yZ.same e d y c,Reps.same e a ys f⟩
end
theorem Reps.length {K:aa}{H:Hp}:∀{a:List bN}{xs:List V},Reps K H a xs->a.length=xs.length
 | [],xs,h=>by rw[show xs=[]from h];rfl
 |d::a,xs,h=>by
  obtain⟨y,ys,b,_,c⟩:=h
  rw[b,aO,aO,Reps.length c]
theorem Reps.get {K:aa}{H:Hp}:∀{a:List bN}{xs:List V}{i:Nat}{y:V},Reps K H a xs->xs[i]?=some y->∃d,a[i]?=some d/\yZ K H d y
 | [],xs,i,y,h,e=>by rw[show xs=[]from h]at e;simp at e
 |d::a,xs,i,y,h,e=>by
  obtain⟨z,j,b,c,f⟩:=h
  subst b
  cases i with
  |zero=>
   have:z=y:=by simpa using e
   subst this
   exact⟨d,rfl,c⟩
  |succ i=>
   obtain⟨d',e1,g⟩:=Reps.get (i:=i) f (by simpa using e)
   exact⟨d',by simpa using e1,g⟩
theorem Reps.append {K:aa}{H:Hp}:∀{b a:List bN}{xs ys:List V},Reps K H b xs->Reps K H a ys->Reps K H (b++a) (xs++ys)
 | [],a,xs,ys,h,h'=>by rw[show xs=[]from h];exact h'
 |d::b,a,xs,ys,h,h'=>by
  obtain⟨z,c,e,f,g⟩:=h
  subst e
  exact⟨z,c++ys,rfl,f,Reps.append g h'⟩
theorem Reps.one {K:aa}{H:Hp}{d:bN}{v:V}(h:yZ K H d v):Reps K H [d] [v]:=⟨v,[],rfl,h,rfl⟩
section
variable{X:Cx}{pins:List (ai×Obj)}{σ:St}{H:Hp}{s:ak}
mutual
theorem yZ.reads (I:Inv X pins σ H s):∀(d:bN) (v:V) (u:ae),yZ X.K H d v->zP v u->∃as,Reads s.heap u d as
 | .none,v,u,h,r=>by
  have h':v=.non:=h
  subst h'
  cases r
  exact⟨_,.none⟩
 | .bool b,v,u,h,r=>by
  have h':v=.bl b:=h
  subst h'
  cases r
  exact⟨_,.bool b⟩
 | .int i,v,u,h,r=>by
  have h':v=.int i:=h
  subst h'
  obtain⟨t,rfl⟩:=r
  exact⟨_,.int i t⟩
 | .str x,v,u,h,r=>by
  have h':v=.str x:=h
  subst h'
  obtain⟨t,rfl⟩:=r
  exact⟨_,.str x t⟩
 | .list f,v,u,h,r=>by
  obtain⟨a,xs,g,j,l⟩:=h
  subst g
  cases r
  obtain⟨c,m,⟨o,n,e,p,_,hd⟩,_⟩:=I.list j
  obtain⟨as,q⟩:=Reps.reads I f xs c l m
  exact⟨_,.list e p hd (by simpa using q)⟩
 | .tuple f,v,u,h,r=>by
  obtain⟨a,xs,g,j,l⟩:=h
  subst g
  cases r
  obtain⟨c,m,⟨o,e,p,n,hd⟩,_⟩:=I.tuple j
  obtain⟨as,q⟩:=Reps.reads I f xs c l m
  exact⟨_,.tuple e p hd (by simpa using q)⟩
 | .dict _,v,u,h,r=>h.elim
theorem Reps.reads (I:Inv X pins σ H s):∀(a:List bN) (xs:List V) (us:List ae),Reps X.K H a xs->zK xs us->∃as,ReadsAll s.heap us a as
 | [],xs,us,h,r=>by
  have h':xs=[]:=h
  subst h'
  cases r
  exact⟨_,.nil⟩
 |d::a,xs,us,h,r=>by
  obtain⟨y,ys,b,c,e⟩:=h
  subst b
  cases r with
  |cons f g=>
   obtain⟨as,i⟩:=yZ.reads I d y _ c f
   obtain⟨bs,j⟩:=Reps.reads I a ys _ e g
   exact⟨_,.cons i j⟩
end
def zFo (K:aa)(neg:Bool):R2:=fun x y H Q=>∃d e,yZ K H d x/\yZ K H e y/\cX d=true/\cX e=true/\Q (.bl (if neg=true then !PyData.eqv d e else dO d e)) H
theorem zBK (a:X.A.units+64<cLine):z9 X (compareOp .Eq) (zFo X.K false):=by
 intro pins s σ H x y v u Q I b c h
 obtain⟨d,e,f,g,i,j,q⟩:=h
 obtain⟨as,l⟩:=yZ.reads I d x v f b
 obtain⟨bs,m⟩:=yZ.reads I e y u g c
 exact eq_dataH l m i j a ⟨.bl _,H,I,rfl,q⟩
theorem gD (a:X.A.units+64<cLine):z9 X (compareOp .NotEq) (zFo X.K true):=by
 intro pins s σ H x y v u Q I b c h
 obtain⟨d,e,f,g,i,j,q⟩:=h
 obtain⟨as,l⟩:=yZ.reads I d x v f b
 obtain⟨bs,m⟩:=yZ.reads I e y u g c
 exact ne_dataH l m i j a ⟨.bl _,H,I,rfl,q⟩
end
mutual
theorem zBL:∀d:bN,d.canLay0=true->dO d d=true
 | .none,_=>rfl
 | .bool b,_=>by simp[dO]
 | .int i,_=>by simp[dO]
 | .str x,_=>by simp[dO]
 | .list a,h=>by
  have h':cC a=true:=by simpa [dz]using h
  simp only[dO];exact eqvAll_refl a h'
 | .tuple a,h=>by
  have h':cC a=true:=by simpa [dz]using h
  simp only[dO];exact eqvAll_refl a h'
 | .dict _,h=>by simp[dz]at h
theorem eqvAll_refl:∀a:List bN,cC a=true->pV a a=true
 | [],_=>rfl
 |d::a,h=>by
  have h':d.canLay0=true/\cC a=true:=by simpa [cC]using h
  simp only[pV,zBL d h'.1,eqvAll_refl a h'.2,f7]
end
end L2
end
section
open PySem PySem.W PyProof.Rows
namespace MyS
def ev {α:Type}(lt:Nat->Nat->Bool):KasT α->α
 | .ret a=>a
 | .ask i j k=>ev lt (k (lt i j))
theorem gY {α β:Type}(lt:Nat->Nat->Bool)(f:α->KasT β):∀t:KasT α,ev lt (t.bind f)=ev lt (f (ev lt t))
 | .ret _=>rfl
 | .ask i j k=>gY lt f (k (lt i j))
def vY {α:Type}(lt:Nat->Nat->Bool)(N:Nat):KasT α->Prop
 | .ret _=>True
 | .ask i j k=>i<N/\j<N/\i≠j/\vY lt N (k (lt i j))
theorem gZ {α β:Type}{lt:Nat->Nat->Bool}{N:Nat}{f:α->KasT β}:∀(t:KasT α),vY lt N t->vY lt N (f (ev lt t))->vY lt N (t.bind f)
 | .ret _,_,h=>h
 | .ask i j k,h,h'=>⟨h.1,h.2.1,h.2.2.1,gZ (k (lt i j)) h.2.2.2 h'⟩
structure TotalOn (lt:Nat->Nat->Bool) (n:Nat):Prop where
 irr:∀i,i<n->lt i i=false
 tr:∀i j k,i<n->j<n->k<n->lt i j=true->lt j k=true->lt i k=true
 tot:∀i j,i<n->j<n->i≠j->lt i j=true\/lt j i=true
abbrev gg (p:Array Nat)(i:Nat):Nat:=p.getD i 0
def Pm (p:Array Nat)(n:Nat):Prop:=p.toList.Perm (bP n)
theorem Pm.size {p:Array Nat}{n:Nat}(h:Pm p n):p.size=n:=by
 have:=rl h
 simpa using this
theorem zAY {p:Array Nat}{i:Nat}(h:i<p.size):gg p i=p[i]:=by simp[gg,Array.getD,h]
theorem Pm.lt {p:Array Nat}{n i:Nat}(h:Pm p n)(hi:i<n):gg p i<n:=by
 have a:i<p.size:=by rw[h.size];exact hi
 have b:p[i]∈bP n:=(rG h).mp (by simp)
 rw[zAY a]
 exact cU.mp b
theorem Pm.ne {p:Array Nat}{n i j:Nat}(h:Pm p n)(hi:i<n)(d:j<n)(c:i≠j):gg p i≠gg p j:=by
 have a:i<p.size:=by rw[h.size];exact hi
 have b:j<p.size:=by rw[h.size];exact d
 have nd:p.toList.Nodup:=(rm h).mpr List.nodup_range
 rw[zAY a,zAY b]
 intro e
 apply c
 have f:p.toList[i]'(by simpa using a)=p.toList[j]'(by simpa using b):=by simpa using e
 exact(fV nd).mp f
theorem Pm.perm {p q:Array Nat}{n:Nat}(h:Pm p n)(e:q.Perm p):Pm q n:=(Array.perm_iff_toList_perm.mp e).trans h
def Up (lt:Nat->Nat->Bool)(p:Array Nat)(k:Nat):Prop:=∀i j,i<j->j<k->lt (gg p i) (gg p j)=true
def Dn (lt:Nat->Nat->Bool)(p:Array Nat)(k:Nat):Prop:=∀i j,i<j->j<k->lt (gg p j) (gg p i)=true
section
variable{lt:Nat->Nat->Bool}{N:Nat}{p:Array Nat}
theorem TotalOn.flip (O:TotalOn lt N){i j:Nat}(hi:i<N)(b:j<N)(a:i≠j)(h:lt i j=false):lt j i=true:=by
 rcases O.tot i j hi b a with h'|h'
 ·rw[h]at h';cases h'
 ·exact h'
theorem Up.more (O:TotalOn lt N)(P:Pm p N){n:Nat}(d:1<=n)(b:n<N)(u:Up lt p n)(h:lt (gg p (n-1)) (gg p n)=true):Up lt p (n+1):=by
 intro i j a f
 by_cases e:j=n
 ·subst e
  by_cases c:i=j-1
  ·subst c;exact h
  ·exact O.tr _ _ _ (P.lt (by omega)) (P.lt (by omega)) (P.lt b) (u i (j-1) (by omega) (by omega)) h
 ·exact u i j a (by omega)
theorem Dn.more (O:TotalOn lt N)(P:Pm p N){n:Nat}(d:1<=n)(b:n<N)(u:Dn lt p n)(h:lt (gg p n) (gg p (n-1))=true):Dn lt p (n+1):=by
 intro i j a f
 by_cases e:j=n
 ·subst e
  by_cases c:i=j-1
  ·subst c;exact h
  ·exact O.tr _ _ _ (P.lt b) (P.lt (by omega)) (P.lt (by omega)) h (u i (j-1) (by omega) (by omega))
 ·exact u i j a (by omega)
theorem zFp:Up lt p 1:=fun i j a b=>by omega
theorem zBM (O:TotalOn lt N)(P:Pm p N):∀(f n:Nat),1<=n->n+f<=N->Up lt p n->
  n<=ev lt (fD p f n)/\ev lt (fD p f n)<=n+f/\Up lt p (ev lt (fD p f n))/\(ev lt (fD p f n)<n+f->lt (gg p (ev lt (fD p f n))) (gg p (ev lt (fD p f n)-1))=true)
 |0,n,_,_,u=>⟨aw _,aw _,u,fun h=>absurd h (bw _)⟩
 |f+1,n,a,i,u=>by
  have e:ev lt (fD p (f+1) n)=ev lt (if lt (gg p n) (gg p (n-1))=true then KasT.ret n else fD p f (n+1)):=rfl
  rw[e]
  cases c:lt (gg p n) (gg p (n-1))with
  |true=>
   rw[if_pos rfl]
   exact⟨aw _,nO _ _,u,fun _=>c⟩
  |false=>
   rw[if_neg (by simp)]
   have b:=O.flip (P.lt (by omega)) (P.lt (by omega)) (P.ne (by omega) (by omega) (by omega)) c
   obtain⟨j,l,d,g⟩:=zBM O P f (n+1) (by omega) (by omega) (u.more O P a (by omega) b)
   exact⟨by omega,by omega,d,fun h=>g (by omega)⟩
theorem zCZ (P:Pm p N):∀(f n:Nat),1<=n->n+f<=N->vY lt N (fD p f n)
 |0,n,_,_=>trivial
 |f+1,n,a,b=>by
  refine⟨P.lt (by omega),P.lt (by omega),P.ne (by omega) (by omega) (by omega),?_⟩
  show vY lt N (if lt (gg p n) (gg p (n-1))=true then KasT.ret n else fD p f (n+1))
  split
  ·trivial
  ·exact zCZ P f (n+1) (by omega) (by omega)
theorem zFq (O:TotalOn lt N)(P:Pm p N):∀(f n:Nat),1<=n->n+f<=N->vY lt N (dW f p n 0)
 |0,n,_,_=>trivial
 |f+1,n,b,e=>by
  refine⟨P.lt (by omega),P.lt (by omega),P.ne (by omega) (by omega) (by omega),?_⟩
  show vY lt N (if lt (gg p n) (gg p (n-1))=true then(if 0>0 then dW f (jr p (n- (0+1)) n) (n+1) 0 else dW f p (n+1) 0)
   else .ask (gg p (n-1)) (gg p n) fun d=>if d=true then .ret (p,n,0)else dW f p (n+1) (0+1))
  cases c:lt (gg p n) (gg p (n-1))with
  |true=>
   rw[if_pos rfl,if_neg (by omega)]
   exact zFq O P f (n+1) (by omega) (by omega)
  |false=>
   rw[if_neg (by simp)]
   have a:=O.flip (P.lt (by omega)) (P.lt (by omega)) (P.ne (by omega) (by omega) (by omega)) c
   refine⟨P.lt (by omega),P.lt (by omega),P.ne (by omega) (by omega) (by omega),?_⟩
   show vY lt N (if lt (gg p (n-1)) (gg p n)=true then KasT.ret (p,n,0)else dW f p (n+1) (0+1))
   rw[a,if_pos rfl]
   trivial
theorem zCa (O:TotalOn lt N)(P:Pm p N):∀(f n:Nat),1<=n->n+f<=N->Dn lt p n->
  ∃m,ev lt (dW f p n 0)=(p,m,0)/\n<=m/\m<=n+f/\Dn lt p m
 |0,n,_,_,u=>⟨n,rfl,aw _,aw _,u⟩
 |f+1,n,a,j,u=>by
  have e:ev lt (dW (f+1) p n 0)=ev lt (if lt (gg p n) (gg p (n-1))=true then(if 0>0 then dW f (jr p (n- (0+1)) n) (n+1) 0 else dW f p (n+1) 0)
   else .ask (gg p (n-1)) (gg p n) fun d=>if d=true then .ret (p,n,0)else dW f p (n+1) (0+1)):=rfl
  rw[e]
  cases c:lt (gg p n) (gg p (n-1))with
  |true=>
   rw[if_pos rfl,if_neg (by omega)]
   obtain⟨m,b,l,o,g⟩:=zCa O P f (n+1) (by omega) (by omega) (u.more O P a (by omega) c)
   exact⟨m,b,by omega,by omega,g⟩
  |false=>
   rw[if_neg (by simp)]
   have h:=O.flip (P.lt (by omega)) (P.lt (by omega)) (P.ne (by omega) (by omega) (by omega)) c
   have i:ev lt (.ask (gg p (n-1)) (gg p n) fun d=>if d=true then KasT.ret (p,n,0)else dW f p (n+1) (0+1))=ev lt (if lt (gg p (n-1)) (gg p n)=true then KasT.ret (p,n,0)else dW f p (n+1) (0+1)):=rfl
   rw[i,h,if_pos rfl]
   exact⟨n,rfl,aw _,by omega,u⟩
theorem zFr {m k:Nat}(b:m<=p.size):gg (jr p 0 m) k=if k<m then gg p (m-1-k)else gg p k:=by
 have e:=getElem?_mirror_all (i:=0) b k
 have a:∀(q:Array Nat) (x:Nat),gg q x=(q[x]?).getD 0:=fun q x=>by simp[gg]
 rw[a,a,a]
 show((mirror p 0 m ((m-0)/2))[k]?).getD 0=_
 rw[e]
 by_cases h:k<m
 ·rw[if_pos ⟨bh _,h⟩,if_pos h]
  simp
 ·rw[if_neg (fun z=>h z.2),if_neg h]
theorem zKm (P:Pm p N){m:Nat}(b:m<=N)(d:Dn lt p m):Up lt (jr p 0 m) m:=by
 intro i j c e
 have a:m<=p.size:=by rw[P.size];exact b
 rw[zFr a,zFr a,if_pos (by omega),if_pos e]
 exact d _ _ (by omega) (by omega)
theorem zCb (P:Pm p N)(i j:Nat):Pm (jr p i j) N:=P.perm (mirror_perm p i j _)
theorem zFs (O:TotalOn lt N)(P:Pm p N)(x:2<=N):∃m q,ev lt (nP N p)=(m,q)/\1<=m/\m<=N/\Pm q N/\Up lt q m:=by
 obtain⟨b,h,a,f⟩:=zBM O P (N-1) 1 (aw _) (by omega) zFp
 unfold nP
 rw[gY]
 generalize y:ev lt (fD p (N-1) 1)=n at b h a f
 by_cases e1:(n==N)=true
 ·rw[if_pos e1]
  exact⟨n,p,rfl,b,by omega,P,a⟩
 ·rw[if_neg e1]
  have l:n≠N:=by simpa using e1
  by_cases g:n>1
  ·rw[if_pos g]
   have c:lt (gg p 0) (gg p (n-1))=true:=a 0 (n-1) (by omega) (by omega)
   have o:ev lt (KasT.ask (p.getD 0 0) (p.getD (n-1) 0) fun c=>if c=true then KasT.ret (n,p)else hU n N (jr p 0 n))=ev lt (if lt (gg p 0) (gg p (n-1))=true then KasT.ret (n,p)else hU n N (jr p 0 n)):=rfl
   rw[o,c,if_pos rfl]
   exact⟨n,p,rfl,b,by omega,P,a⟩
  ·rw[if_neg g]
   have e:n=1:=by omega
   subst e
   have c:=f (by omega)
   have r:Dn lt p 2:=fun i j s z=>by
    have:i=0:=by omega
    have:j=1:=by omega
    subst i;subst j;exact c
   obtain⟨m,u,A,B,v⟩:=zCa O P (N-2) 2 (by omega) (by omega) r
   unfold hU
   rw[gY]
   have d:ev lt (dW (N- (1+1)) p (1+1) 0)=(p,m,0):=u
   rw[d]
   dsimp only
   rw[if_neg (by omega)]
   unfold kas_tail3
   rw[gY]
   obtain⟨c1,c2,w,_⟩:=zBM O (zCb P 0 m) (N-m) m (by omega) (by omega) (zKm P (by omega) v)
   exact⟨_,_,rfl,by omega,by omega,zCb P 0 m,w⟩
theorem zKn (O:TotalOn lt N)(P:Pm p N)(s:2<=N):vY lt N (nP N p):=by
 obtain⟨g,h,b,d⟩:=zBM O P (N-1) 1 (aw _) (by omega) zFp
 unfold nP
 refine gZ _ (zCZ P _ _ (aw _) (by omega)) ?_
 generalize u:ev lt (fD p (N-1) 1)=n at g h b d
 by_cases e1:(n==N)=true
 ·rw[if_pos e1];trivial
 ·rw[if_neg e1]
  have l:n≠N:=by simpa using e1
  by_cases f:n>1
  ·rw[if_pos f]
   have c:lt (gg p 0) (gg p (n-1))=true:=b 0 (n-1) (by omega) (by omega)
   refine⟨P.lt (by omega),P.lt (by omega),P.ne (by omega) (by omega) (by omega),?_⟩
   show vY lt N (if lt (gg p 0) (gg p (n-1))=true then KasT.ret (n,p)else hU n N (jr p 0 n))
   rw[c,if_pos rfl]
   trivial
  ·rw[if_neg f]
   have e:n=1:=by omega
   subst e
   have c:=d (by omega)
   have o:Dn lt p 2:=fun i j q v=>by
    have:i=0:=by omega
    have:j=1:=by omega
    subst i;subst j;exact c
   obtain⟨m,r,w,x,y⟩:=zCa O P (N-2) 2 (by omega) (by omega) o
   unfold hU
   refine gZ _ (zFq O P _ _ (by omega) (by omega)) ?_
   have a:ev lt (dW (N- (1+1)) p (1+1) 0)=(p,m,0):=r
   rw[a]
   dsimp only
   rw[if_neg (by omega)]
   unfold kas_tail3
   exact gZ _ (zCZ (zCb P 0 m) _ _ (by omega) (by omega)) trivial
theorem zCc (P:Pm p N){k:Nat}(b:k<N):∀(f l r:Nat),r<=k->vY lt N (cH p k f l r)
 |0,l,r,_=>trivial
 |f+1,l,r,h=>by
  show vY lt N (if l>=r then KasT.ret l else .ask (p.getD k 0) (p.getD ((l+r)/2) 0) fun c=>if c=true then cH p k f l ((l+r)/2)else cH p k f ((l+r)/2+1) r)
  by_cases a:l>=r
  ·rw[if_pos a];trivial
  ·rw[if_neg a]
   refine⟨P.lt b,P.lt (by omega),P.ne b (by omega) (by omega),?_⟩
   show vY lt N (if lt (gg p k) (gg p ((l+r)/2))=true then cH p k f l ((l+r)/2)else cH p k f ((l+r)/2+1) r)
   split
   ·exact zCc P b f l _ (by omega)
   ·exact zCc P b f _ r h
theorem zCd (O:TotalOn lt N)(P:Pm p N){k:Nat}(d:k<N)(u:Up lt p k):∀(f l r:Nat),l<=r->r<=k->r-l<=f->(∀i,i<l->lt (gg p i) (gg p k)=true)->(∀i,r<=i->i<k->lt (gg p k) (gg p i)=true)->
  ev lt (cH p k f l r)<=k/\(∀i,i<ev lt (cH p k f l r)->lt (gg p i) (gg p k)=true)/\∀i,ev lt (cH p k f l r)<=i->i<k->lt (gg p k) (gg p i)=true
 |0,l,r,q,h,s,a,b=>by
  have:l=r:=by omega
  subst this
  exact⟨h,a,b⟩
 |f+1,l,r,q,h,s,a,b=>by
  have e:ev lt (cH p k (f+1) l r)=ev lt (if l>=r then KasT.ret l else .ask (p.getD k 0) (p.getD ((l+r)/2) 0) fun c=>if c=true then cH p k f l ((l+r)/2)else cH p k f ((l+r)/2+1) r):=rfl
  rw[e]
  by_cases g:l>=r
  ·rw[if_pos g]
   have:l=r:=by omega
   subst this
   exact⟨h,a,b⟩
  ·rw[if_neg g]
   have v:ev lt (KasT.ask (p.getD k 0) (p.getD ((l+r)/2) 0) fun c=>if c=true then cH p k f l ((l+r)/2)else cH p k f ((l+r)/2+1) r)=ev lt (if lt (gg p k) (gg p ((l+r)/2))=true then cH p k f l ((l+r)/2)else cH p k f ((l+r)/2+1) r):=rfl
   rw[v]
   generalize w:(l+r)/2=m
   have m1:l<=m:=by omega
   have m2:m<r:=by omega
   cases c:lt (gg p k) (gg p m)with
   |true=>
    rw[if_pos rfl]
    refine zCd O P d u f l m m1 (by omega) (by omega) a fun i hi j=>?_
    by_cases n:i=m
    ·subst n;exact c
    ·exact O.tr _ _ _ (P.lt d) (P.lt (by omega)) (P.lt (by omega)) c (u m i (by omega) j)
   |false=>
    rw[if_neg (by simp)]
    have o:=O.flip (P.lt d) (P.lt (by omega)) (P.ne d (by omega) (by omega)) c
    refine zCd O P d u f (m+1) r (by omega) h (by omega) (fun i hi=>?_) b
    by_cases n:i=m
    ·subst n;exact o
    ·exact O.tr _ _ _ (P.lt (by omega)) (P.lt (by omega)) (P.lt d) (u i m (by omega) (by omega)) o
theorem zFt {k d x:Nat}(b:k<p.size)(hd:d<=k):gg (bubble p k d) x=if x=k-d then gg p k else if k-d<x/\x<=k then gg p (x-1)else gg p x:=by
 have e:=getElem?_bubble b d hd x
 have a:∀(q:Array Nat) (x:Nat),gg q x=(q[x]?).getD 0:=fun q x=>by simp[gg]
 rw[a,a,a,a,e]
 split
 ·rfl
 ·split<;>rfl
theorem zFu (O:TotalOn lt N):∀(f:Nat) (p:Array Nat) (k:Nat),Pm p N->k+f=N->Up lt p k->Pm (ev lt (nj f p k)) N/\Up lt (ev lt (nj f p k)) N
 |0,p,k,P,e,u=>by
  have:k=N:=by omega
  subst this
  exact⟨P,u⟩
 |f+1,p,k,P,e,u=>by
  have e1:nj (f+1) p k=(cH p k k 0 k).bind fun l=>nj f (bubble p k (k-l)) (k+1):=rfl
  rw[e1,gY]
  have g:k<N:=by omega
  obtain⟨r,h,m⟩:=zCd O P g u k 0 k (bh _) (aw _) (by omega) (fun i hi=>by omega) (fun i a b=>by omega)
  generalize ev lt (cH p k k 0 k)=l at r h m
  have n:k<p.size:=by rw[P.size];exact g
  refine zFu O f _ (k+1) (P.perm (bubble_perm p k _)) (by omega) fun i j c s=>?_
  rw[zFt n (by omega),zFt n (by omega)]
  have d:k- (k-l)=l:=by omega
  rw[d]
  by_cases a:i=l
  ·rw[if_pos a,if_neg (by omega),if_pos (by omega)]
   exact m _ (by omega) (by omega)
  ·rw[if_neg a]
   by_cases b:l<i/\i<=k
   ·rw[if_pos b,if_neg (by omega),if_pos (by omega)]
    exact u _ _ (by omega) (by omega)
   ·rw[if_neg b]
    by_cases o:j=l
    ·rw[if_pos o]
     exact h i (by omega)
    ·rw[if_neg o]
     by_cases q:l<j/\j<=k
     ·rw[if_pos q]
      by_cases v:i=j-1
      ·omega
      ·exact u _ _ (by omega) (by omega)
     ·rw[if_neg q]
      exact u _ _ c (by omega)
theorem zFv (O:TotalOn lt N):∀(f:Nat) (p:Array Nat) (k:Nat),Pm p N->k+f=N->vY lt N (nj f p k)
 |0,p,k,P,e=>trivial
 |f+1,p,k,P,e=>by
  show vY lt N ((cH p k k 0 k).bind fun l=>nj f (bubble p k (k-l)) (k+1))
  exact gZ _ (zCc P (by omega) _ _ _ (aw _)) (zFv O f _ (k+1) (P.perm (bubble_perm p k _)) (by omega))
theorem zKo (O:TotalOn lt N)(a:2<=N):vY lt N (nq N):=by
 have b:Pm (eP (bP N)) N:=dX _
 obtain⟨m,q,e,m1,m2,d,g⟩:=zFs O b a
 unfold nq
 refine gZ _ (zKn O b a) ?_
 rw[e]
 dsimp only
 by_cases c:m<N
 ·rw[if_pos c]
  have f:max m 1=m:=by omega
  rw[f]
  exact zFv O (N-m) q m d (by omega)
 ·rw[if_neg c];trivial
theorem zKp (O:TotalOn lt N)(d:2<=N):Pm (ev lt (nq N)) N/\Up lt (ev lt (nq N)) N:=by
 have f:Pm (eP (bP N)) N:=dX _
 obtain⟨m,q,e,m1,m2,a,b⟩:=zFs O f d
 unfold nq
 rw[gY,e]
 dsimp only
 by_cases c:m<N
 ·rw[if_pos c]
  have g:max m 1=m:=by omega
  rw[g]
  exact zFu O (N-m) q m a (by omega) b
 ·rw[if_neg c]
  have:m=N:=by omega
  subst this
  exact⟨a,b⟩
end
end MyS
end
section
namespace MyS
open PySem PySem.W PyProof.Rows PySem.Spec
theorem zFw {α:Type}{N:Nat}{cmp:Nat->Nat->(Bool->ak->Prop)->ak->Prop}{lt:Nat->Nat->Bool}{s:ak}(b:∀i j,i<N->j<N->i≠j->∀C,C (lt i j) s->cmp i j C s) :
  ∀(t:KasT α) (Q:α->ak->Prop),vY lt N t->Q (ev lt t) s->t.kasWp cmp Q s
 | .ret a,Q,_,h=>h
 | .ask i j k,Q,o,h=>b i j o.1 o.2.1 o.2.2.1 _ (zFw b (k (lt i j)) Q o.2.2.2 h)
def jL (ks:List Str)(i:Nat):List Nat:=(ks.getD i ⟨#[]⟩).cps.toList
def j2 (ks:List Str)(i j:Nat):Bool:=decide (jL ks i<jL ks j)
theorem Str_ext {a b:Str}(h:a.cps.toList=b.cps.toList):a=b:=by
 cases a;cases b
 congr 1
 exact nG.mp h
theorem zKq (a b:List Nat)(e:¬a<b)(f:¬b<a):a=b:=by
 have c:b<=a:=fh.mp e
 have d:a<=b:=fh.mp f
 exact nQ d c
theorem zKr {ks:List Str}(nd:ks.Nodup):TotalOn (j2 ks) ks.length where
 irr:=fun i _=>by simp[j2,fE]
 tr:=fun i j k _ _ _ a b=>by
  simp only[j2,decide_eq_true_eq]at*
  exact lZ a b
 tot:=fun i j hi f c=>by
  simp only[j2,decide_eq_true_eq]
  by_cases a:jL ks i<jL ks j
  ·exact .inl a
  ·by_cases b:jL ks j<jL ks i
   ·exact .inr b
   ·exfalso
    have e:=zKq _ _ a b
    unfold jL at e
    have d:=Str_ext e
    have e1:ks.getD i ⟨#[]⟩=ks[i]:=by simp[hi]
    have g:ks.getD j ⟨#[]⟩=ks[j]:=by simp[f]
    rw[e1,g]at d
    exact c ((fV nd).mp d)
def zCe (h:ba)(a:ai)(v:ae)(k:Str):Prop:=∃b o t x n,v=Value.ref b/\b≠a/\h.get? b=some o/\o.cls=.type "tuple"/\o.data=.seq #[.str k t,x] n
theorem zCe.keep {h h':ba}{a:ai}{v:ae}{k:Str}(p:zCe h a v k)(e:∀b o,b≠a->h.get? b=some o->h'.get? b=some o):zCe h' a v k:=by
 obtain⟨b,o,t,x,n,d,c,f,g⟩:=p
 exact⟨b,o,t,x,n,d,c,e b o c f,g⟩
section
variable{prog:aB}{w:aL}{A:bJ}{E:ae->ak->Prop}{s:ak}
theorem zKs {κ:SortKind}{a:ai}{vs:List ae}{ks:List Str}{n:Nat}{P:ic->ak->Prop}(B:s.heap.get? a=some (seqObj "list" vs.toArray n))(hl:ks.length=vs.length)(nd:ks.Nodup)(F:vs.length<64)
  (U:∀G,(∀b o,b≠a->s.heap.get? b=some o->G.get? b=some o)->2<=vs.length->∀(Q:SortKind->ak->Prop) (W:ae->ak->Prop),Q κ {s with heap:=G}->wpAny (model prog w) A (keyKind' vs.toArray) Q W {s with heap:=G})
  (X:∀G,(∀b o,b≠a->s.heap.get? b=some o->G.get? b=some o)->∀i j,i<vs.length->j<vs.length->i≠j->∀C,C (j2 ks i j) {s with heap:=G}->kas_ask prog w A κ vs i j C {s with heap:=G})
  (h:∀(p:List Nat) (h':ba) (e:Nat),p.Perm (bP vs.length)->(p.map (jL ks)).Pairwise (· < ·)->(∀b o,b≠a->s.heap.get? b=some o->h'.get? b=some o)->
   h'.get? a=some (seqObj "list" (p.map fun i=>vs.getD i Value.none).toArray e)->P (.done (.ret .none)) {s with heap:=h'}) :
  wpAny (model prog w) A (cc.«list.sort» ⟨[.ref a],[]⟩) P E s:=by
 have ha:a<s.heap.objs.size:=aC B
 rw[list_sort_plain]
 refine ah (listItems_at B rfl ?_)
 refine ah (md B rfl ?_ (by rw[aR,bg];omega) (bh _))
 obtain⟨e1,u⟩:∃e1,(s.heap.update a (cF fun _=>(#[]:Array ae))).get? a=some (seqObj "list" #[] e1):=⟨_,oj B fun _=>#[]⟩
 refine ah (nY u rfl ?_)
 refine ah (lH ?_ (by rw[bg];simp;omega))
 refine ah (me ?_ (by simp))
 refine dP ?_
 show wpAny (model prog w) A _ P E {s with heap:=((s.heap.update a (cF fun _=>#[])).push (seqObj "tuple" vs.toArray 0)).push (seqObj "list" #[] 0)}
 generalize T:((s.heap.update a (cF fun _=>(#[]:Array ae))).push (seqObj "tuple" vs.toArray 0)).push (seqObj "list" #[] 0)=G
 have d:G.get? a=some (seqObj "list" #[] e1):=by
  rw[<-T]
  exact ag _ (ag _ u)
 have m:∀b o,b≠a->s.heap.get? b=some o->G.get? b=some o:=fun b o D e=>by
  rw[<-T]
  exact ag _ (ag _ ((bV _ _ (dC D)).trans e))
 have hsz:vs.toArray.size=vs.length:=by simp
 have fin:∀(p:List Nat) (q:Array ae) (c:q=(p.map fun i=>vs.getD i Value.none).toArray),p.Perm (bP vs.length)->(p.map (jL ks)).Pairwise (· < ·)->
   P (.done (.ret .none)) {s with heap:=G.update a (cF fun _=>q)}:=fun p q c Y f=>by
  subst c
  have Z:=oj d fun _=>(p.map fun i=>vs.getD i Value.none).toArray
  exact h p _ _ Y f (fun b o D e=>(bV _ _ (dC D)).trans (m b o D e)) Z
 dsimp only
 by_cases f:vs.toArray.size<2
 ·rw[if_pos f,if_pos f]
  refine ah (ax ?_)
  rw[StateT.run_pure]
  refine ah (ax ?_)
  dsimp only
  refine ah (nY d rfl ?_)
  refine ah (md d rfl ?_ (by simp) (by
   show((vs.toArray.zip vs.toArray).map (·.2)).size<=sizeLine+1
   rw[bg];simp;omega))
  simp only[bne_self_eq_false,e7,if_false]
  refine ax (fin (bP vs.length) _ ?_ (dX _) ?_)
  ·show(vs.toArray.zip vs.toArray).map (·.2)=_
   match vs,f with
   | [],_=>simp
   | [v],_=>simp[eC]
   |_::_::_,f=>simp at f;omega
  ·have:vs.length<2:=by simpa using f
   match hv:vs.length,this with
   |0,_=>simp
   |1,_=>simp[eC]
 ·rw[if_neg f,if_neg f]
  have g:2<=vs.length:=by simpa using f
  refine ah (U G m g _ _ ?_)
  show wpAny _ _ (StateT.run sortRuns' (SortSt.mk' κ (vs.toArray.zip vs.toArray) #[] 7 none)>>=_) _ _ _
  have O:=zKr nd
  rw[hl]at O
  obtain⟨H,I⟩:=zKp O g
  refine ah (b8 (kat_run (ks:=vs) (vs:=vs) (Q:=fun l s'=>s'={s with heap:=G}/\failedOf l=none/\∃p:Array Nat,Pm p vs.length/\Up (j2 ks) p vs.length/\arrOf l=p.map (kas_item (vs.toArray.zip vs.toArray)))
   (G:=fun p s'=>s'={s with heap:=G}/\Pm p vs.length/\Up (j2 ks) p vs.length) rfl g F (fun p l s' _ x J y=>⟨y.1,J,p,y.2.1,y.2.2,x⟩) ?_) ?_ fun _ _ e=>e)
  ·refine zFw (N:=vs.length) (lt:=j2 ks) (fun i j hi L r C M=>?_) _ _ (zKo O g) ⟨rfl,H,I⟩
   exact X G m i j hi L r C M
  ·rintro⟨⟨⟩,l⟩ s' ⟨rfl,hf,p,x,J,y⟩
   dsimp only
   have c:=kat_snds (ks:=vs) (vs:=vs) rfl y
   refine ah (nY d rfl ?_)
   refine ah (md d rfl ?_ (by simp) (by
    rw[c,aR,aj,bg]
    have:=x.size
    simp
    omega))
   rw[hf]
   simp only[bne_self_eq_false,e7,if_false]
   refine ax (fin p.toList _ c x ?_)
   rw[cg,iE]
   intro i j hi L r
   have R:i<p.size:=by simpa using hi
   have z:j<p.size:=by simpa using L
   have:=J i j r (by rw[<-x.size];exact z)
   rw[zAY R,zAY z]at this
   simpa [j2]using this
theorem sort_strs {a:ai}{vs:List ae}{ks:List Str}{n:Nat}{P:ic->ak->Prop}(q:s.heap.get? a=some (seqObj "list" vs.toArray n))(f:oB vs ks)(nd:ks.Nodup)(m:vs.length<64)
  (h:∀(p:List Nat) (h':ba) (e:Nat),p.Perm (bP vs.length)->(p.map (jL ks)).Pairwise (· < ·)->(∀b o,b≠a->s.heap.get? b=some o->h'.get? b=some o)->
   h'.get? a=some (seqObj "list" (p.map fun i=>vs.getD i Value.none).toArray e)->P (.done (.ret .none)) {s with heap:=h'}) :
  wpAny (model prog w) A (cc.«list.sort» ⟨[.ref a],[]⟩) P E s:=by
 have d:ks.length=vs.length:=by rw[<-f.strs];simp
 have c:∀i,i<vs.length->∃t,vs.getD i Value.none=.str (ks.getD i ⟨#[]⟩) t:=fun i hi=>by
  obtain⟨x,t,e⟩:=f.all vs[i] (bE hi)
  refine⟨t,?_⟩
  have e1:vs.getD i Value.none=vs[i]:=by simp[hi]
  have r:ks.getD i ⟨#[]⟩=x:=by
   rw[<-f.strs,b0,ar,ao hi,e];rfl
  rw[e1,r,e]
 refine zKs (κ:=oneType') q d nd m (fun G u v Q H y=>?_) (fun G u i j hi z B C D=>?_) h
 ·obtain⟨g,l,uK,rfl⟩:∃g l uK,vs=g::l::uK:=by
   match vs,v with
   |g::l::uK,_=>exact⟨g,l,uK,rfl⟩
  rw[keyKind_strs f]
  exact ax y
 ·obtain⟨t,e⟩:=c i hi
  obtain⟨t',F⟩:=c j z
  unfold kas_ask
  rw[e,F,keyLt'_oneType]
  exact strKind_oneLt prog w A _ _ _ _ _ _ rfl rfl D
end
end MyS
end
section
namespace L2
open PySem PySem.Spec PyProof.Rows
def qL (H:Hp)(news:List (ai×HO)):Hp:=fun b=>match news.lookup b with
 |some o=>some o
 |none=>H b
theorem zCf {H:Hp}{a:List (ai×HO)}{b:ai}(h:b∉a.map (·.1)):qL H a b=H b:=by
 unfold qL
 have:a.lookup b=none:=by
  induction a with
  |nil=>rfl
  |cons p r ih=>
   rw[aP,aD,not_or]at h
   have c:(b==p.1)=false:=by simpa using h.1
   obtain⟨x,y⟩:=p
   rw[bK,c]
   exact ih h.2
 rw[this]
theorem zKt {H:Hp}{a:List (ai×HO)}{b:ai}{o:HO}(h:qL H a b=some o):(b,o)∈a\/(b∉a.map (·.1)/\H b=some o):=by
 by_cases d:b∈a.map (·.1)
 ·left
  unfold qL at h
  cases e:a.lookup b with
  |some u=>
   rw[e]at h
   have:u=o:=au h
   subst this
   clear h d
   induction a with
   |nil=>cases e
   |cons p r ih=>
    obtain⟨x,y⟩:=p
    rw[bK]at e
    cases c:b==x with
    |true=>
     rw[c]at e
     have e1:b=x:=by simpa using c
     have f:y=u:=au e
     subst e1;subst f
     exact aq ..
    |false=>
     rw[c]at e
     exact az _ (ih e)
  |none=>
   exfalso
   clear h
   induction a with
   |nil=>cases d
   |cons p r ih=>
    obtain⟨x,y⟩:=p
    rw[bK]at e
    cases c:b==x with
    |true=>rw[c]at e;cases e
    |false=>
     rw[c]at e
     rw[aP,aD]at d
     rcases d with z|z
     ·have:(b==x)=true:=by simpa using z
      rw[this]at c;cases c
     ·exact ih z e
 ·rw[zCf d]at h
  exact .inr ⟨d,h⟩
theorem zKu {H:Hp}{a:List (ai×HO)}(c:∀p∈a,H p.1=none):zB H (qL H a):=fun b o e=>by
 rw[zCf fun z=>?_]
 ·exact e
 ·obtain⟨p,d,rfl⟩:=aG.mp z
  rw[c p d]at e;cases e
theorem yA.obj {P:aB}{w:aL}{H:Hp}{h:ba}{a:ai}{o:HO}(x:yA P w H h a o):∃u,h.get? a=some u:=by
 cases o with
 |lst xs=>obtain⟨_,_,_,_,e⟩:=x;exact⟨_,e⟩
 |tup xs=>obtain⟨_,_,_,_,e,_⟩:=x;exact⟨_,e⟩
 |dK kvs=>obtain⟨_,_,_,_,o,_,_,e,_⟩:=x;exact⟨_,e⟩
 |dT kvs=>obtain⟨_,_,_,_,o,_,_,e,_⟩:=x;exact⟨_,e⟩
 |set S n=>obtain⟨o,_,_,_,e,_⟩:=x;exact⟨_,e⟩
 |ins C b fs=>obtain⟨_,_,_,e,_⟩:=x;exact⟨_,e⟩
 |own y=>exact x
 |xd fs=>obtain⟨_,⟨_,_,_,e,_⟩,_⟩:=x;exact⟨_,e⟩
 |rng lo hi=>obtain⟨_,_,_,e⟩:=x;exact⟨_,e⟩
 |frz ob u=>obtain⟨e,_⟩:=x;exact⟨_,e⟩
 |tbl c=>exact⟨_,(show h.get? a=some _ from x)⟩
 |met f y=>exact⟨_,(show h.get? a=some _ from x)⟩
 |ext φ=>obtain⟨_,e,_⟩:=x;exact e
theorem zV.free {P:aB}{w:aL}{H:Hp}{h:ba}{a:ai}(x:zV P w H h)(e:h.get? a=none):H a=none:=by
 cases q:H a with
 |none=>rfl
 |some u=>
  obtain⟨v,b⟩:=(x a u q).obj
  rw[b]at e;cases e
section
variable{X:Cx}{pins:List (ai×Obj)}{σ:St}{H:Hp}{s:ak}
theorem Inv.many {h':ba}{t':Nat}{a:List (ai×HO)}(I:Inv X pins σ H s)(k:∀b u,s.heap.get? b=some u->h'.get? b=some u)(d:∀p∈a,s.heap.get? p.1=none)
  (new:∀p∈a,yA X.prog X.w (qL H a) h' p.1 p.2):Inv X pins σ (qL H a) {s with heap:=h',toks:=t'}:=by
 have i:∀p∈a,H p.1=none:=fun p h=>I.hok.free (d p h)
 have f:=zKu i
 have g:∀b (o:Obj),s.heap.get? b=some o->qL H a b=H b:=fun b o e=>zCf fun z=>by
  obtain⟨p,h,rfl⟩:=aG.mp z
  rw[d p h]at e;cases e
 refine I.un (H':=qL H a) ⟨fun b o e _ _ _=>k b o e,fun b o e _ _ _=>⟨o.slots,k b o e⟩,fun b o e n _=>by rw[g b o e];exact n,fun b o e _=>⟨o,k b o e⟩,fun b xs e=>f b _ e,fun b o u e=>f b _ e,fun b j e=>⟨#[],by rw[f b _ e];simp⟩⟩ fun b u e=>?_
 rcases zKt e with z|⟨_,z⟩
 ·exact new (b,u) z
 ·exact(I.hok b u z).stay (fun c v _ q=>k c v q) (fun c q=>f c _ q) fun c xs q=>f c _ q
end
def zFx (d:ai):Obj:={cls:=.type "dict_items",data:=.fields #[.ref d]}
def VW (p d:ai):HO:=.ext fun h=>h.get? p=some (zFx d)
section
variable{X:Cx}
abbrev gE (kvs:List (Str×V)):List (zU×V):=kvs.map fun q=>(Sum.inr q.1,q.2)
theorem KV.get {kvs:List (zU×V)}{vs:List (zU×ae)}:∀{i:Nat}{k:zU}{x:ae},KV kvs vs->vs[i]?=some (k,x)->∃v,kvs[i]?=some (k,v)/\zP v x:=by
 intro i k x r
 induction r generalizing i with
 |nil=>intro e;simp at e
 |cons h t ih=>
  intro e
  cases i with
  |zero=>
   have a:=au (by simpa using e)
   rename_i p q _ _
   obtain⟨b,c⟩:=p
   subst a
   have d:b=k:=h.1
   subst d
   exact⟨c,rfl,h.2⟩
  |succ i=>
   obtain⟨v,e1,f⟩:=ih (by simpa using e)
   exact⟨v,by simpa using e1,f⟩
end
def Its (z:Str):It:=⟨fun i _=>i<z.cps.size,fun i H x H'=>H'=H/\∃c,z.cps[i]?=some c/\x=.str ⟨#[c]⟩,fun i _=>i=z.cps.size⟩
theorem zFy {P:aB}{w:aL}{K:aa}{L:bD}(it:ai)(z:Str)(t:Tok)(ty:String)(l:["enumerate","zip","dict_itemiterator","dict_reverseitemiterator","odict_iterator","itertools.zip_longest","itertools.pairwise"].contains ty=false)
  (J:∀A:bJ,A.handled=none->Walks P w A it [it] [it] z.cps.size (SignAt z) (fun i h=>h.IsStrIter it ty z t i))
  (M:∀(A:bJ) (i:Nat) (s:ak) (Q:ae->ak->Prop) (E:ae->ak->Prop),s.heap.IsStrIter it ty z t i->Q (.ref it) s->wpAny (model P w) A (pyIter (.ref it)) Q E s):Turn P w K L (Its z) [it] it (fun i h=>h.IsStrIter it ty z t i) where
 mem:=by simp
 obj:=fun i h st b f=>by
  have e:b=it:=by simpa using f
  subst e
  obtain⟨o,e,c,d⟩:=st
  exact⟨o,e,fun v z=>by rw[d]at z;cases z⟩
 keep:=fun i h h' st k=>let⟨o,e,r⟩:=st;⟨o,k it (by simp) o e,r⟩
 item:=by
  intro X m n p q i a s σ H E I j st x
  subst m n p
  obtain⟨y,f1,f2,B,C,D⟩:=j it (by simp)
  refine(J X.A (I.ok.hd q)).item i s _ _ x st fun v h' tk N g F=>?_
  obtain⟨c,u,G,rfl⟩:=N
  have O:Inv X a σ H {s with heap:=h',toks:=tk}:=I.turned (fun b o f e=>F b o (by simpa using f) e) y f1 B C D
  obtain⟨o,e,R,od⟩:=id g
  exact⟨_,rfl,zAP (s:={s with heap:=h',toks:=tk}) e R od l ⟨.str ⟨#[c]⟩,H,O,⟨u,rfl⟩,⟨rfl,c,G,rfl⟩,g,fun b f=>(j b f).1⟩⟩
 done:=by
  intro X m n p q i a s σ H E I j st x
  subst m n p
  obtain⟨y,f1,f2,B,C,D⟩:=j it (by simp)
  have hi:i=z.cps.size:=x
  subst hi
  exact(J X.A (I.ok.hd q)).done s _ _ st fun h' tk F=>⟨rfl,I.turned (fun b o f e=>F b o (by simpa using f) e) y f1 B C D⟩
 self:=M
section
variable{X:Cx}{tg:bD}
def zKv (tl:TE):TI:=fun σ H R=>tl σ H fun x H1=>∃z,x=.str z/\R (Its z) H1
theorem zFz {l:bD}{j:TE}(hl:PE X l j):PI X tg l (zKv j):=by
 intro a s σ H R I h
 refine zG (hl a s σ H _ I h) fun v c zq=>?_
 obtain⟨x,f,d,p,z,r,q⟩:=zq
 subst r
 obtain⟨t,rfl⟩:=p
 have m:∀b∈[c.heap.objs.size],qF X a f b:=fun b u=>by
  have e:b=c.heap.objs.size:=by simpa using u
  subst e
  exact d.fpOk (aw _) (d.hok.fresh (aw _))
 cases n:z.cps.all (· <128)with
 |false=>
  refine wpAny_pyIter_wide n ⟨c.heap.objs.size,[c.heap.objs.size],_,_,f,rfl,d.kept (t':=c.toks) fun b o e=>ag _ e,zFy _ z t "str_iterator" (by decide) (fun A g=>Walks.strWide g _ z t) (fun A i s Q E st h=>wpAny_pyIter_striter_wide st h),⟨_,ay _ rfl,rfl,rfl⟩,m,q⟩
 |true=>
  refine wpAny_pyIter_ascii n ⟨c.heap.objs.size,[c.heap.objs.size],_,_,f,rfl,d.kept (t':=c.toks) fun b o e=>ag _ e,zFy _ z t "str_ascii_iterator" (by decide) (fun A g=>Walks.strAscii g _ z t) (fun A i s Q E st h=>wpAny_pyIter_striter_ascii st h),⟨_,ay _ rfl,rfl,rfl⟩,m,q⟩
end
theorem zKw (lo hi:Option Int)(n:Nat):cK lo hi 1 n=cK (some ((HT.sIx n 0 lo:Nat):Int)) (some ((HT.sIx n n hi:Nat):Int)) 1 n:=by
 have hl:=HT.sIx_le n 0 (bh _) lo
 have m:=HT.sIx_le n n (aw _) hi
 have key:∀(o:Option Int) (d:Nat),d<=n->(match o with|none=>(d:Int)|some i=>(let i:=if i<0 then i+(n:Int)else i;max 0 (min i (n:Int))))=((HT.sIx n d o:Nat):Int):=by
  intro o d hd
  cases o with
  |none=>rfl
  |some i=>
   show max 0 (min (if i<0 then i+(n:Int)else i) (n:Int))=(((if i<0 then(i+(n:Int)).toNat else min i.toNat n):Nat):Int)
   by_cases h:i<0
   ·rw[if_pos h,if_pos h];omega
   ·rw[if_neg h,if_neg h];omega
 have e1:=key lo 0 (bh _)
 have p:=key hi n (aw _)
 have k1:max (0:Int) (min ((HT.sIx n 0 lo:Nat):Int) (n:Int))=((HT.sIx n 0 lo:Nat):Int):=by omega
 have k2:max (0:Int) (min ((HT.sIx n n hi:Nat):Int) (n:Int))=((HT.sIx n n hi:Nat):Int):=by omega
 have c:¬(((HT.sIx n 0 lo:Nat):Int)<0):=by omega
 have e:¬(((HT.sIx n n hi:Nat):Int)<0):=by omega
 unfold cK
 simp only[show((1:Int)>0)=True from by simp,if_true,c,e,if_false,k1,k2]
 have a:∀i:Int,(max 0 (min (if i<0 then i+(n:Int)else i) (n:Int)))=((HT.sIx n 0 (some i):Nat):Int):=fun i=>key (some i) 0 (bh _)
 have b:∀i:Int,(max 0 (min (if i<0 then i+(n:Int)else i) (n:Int)))=((HT.sIx n n (some i):Nat):Int):=fun i=>key (some i) n (aw _)
 have f:((HT.sIx n 0 none:Nat):Int)=0:=rfl
 have g:((HT.sIx n n none:Nat):Int)=n:=rfl
 cases lo with
 |none=>
  cases hi with
  |none=>rfl
  |some j=>dsimp only;rw[b,f]
 |some i=>
  cases hi with
  |none=>dsimp only;rw[a,g]
  |some j=>
   dsimp only
   have l:=a i
   rw[l]
   rw[b]
theorem zKx (x:Str)(lo hi:Option Int):p7 x lo hi=⟨((x.cps.toList.drop (HT.sIx x.length 0 lo)).take (HT.sIx x.length x.length hi-HT.sIx x.length 0 lo)).toArray⟩:=by
 have hl:=HT.sIx_le x.length 0 (bh _) lo
 have f:=HT.sIx_le x.length x.length (aw _) hi
 unfold p7
 rw[zKw lo hi]
 generalize HT.sIx x.length 0 lo=a at*
 generalize HT.sIx x.length x.length hi=b at*
 have g:x.cps.toList.length=x.length:=by simp[ir]
 by_cases c:a<=b
 ·have sp:=StrLaws.sliced_plain x c f
  split
  ·rename_i h
   rw[StrLaws.strSliceIndices_plain c f]at h
   have h':b-a=x.length:=by simpa using h
   have i:a=0:=by omega
   have d:b=x.cps.toList.length:=by omega
   subst i
   apply MyS.Str_ext
   show x.cps.toList=((x.cps.toList.drop 0).take (b-0)).toArray.toList
   rw[ix,js,d,aQ]
  ·rw[sp]
 ·have d:b-a=0:=by omega
  have e:cK (some (a:Int)) (some (b:Int)) 1 x.length=[]:=by
   have j:¬((a:Int)<0):=by omega
   have l:¬((b:Int)<0):=by omega
   have e1:max (0:Int) (min (a:Int) (x.length:Int))=a:=by omega
   have m:max (0:Int) (min (b:Int) (x.length:Int))=b:=by omega
   simp only[cK,sliceRange,j,l,if_false,e1,m,show((1:Int)>0)=True from by simp,if_true]
   rw[if_neg (by omega)]
   rfl
  rw[e,d]
  split
  ·rename_i h
   have h':0=x.length:=by simpa using h
   omega
  ·simp
section
variable{X:Cx}{e:bD}{te:TE}{lo hi:Option bD}{tl th:TO}{pos p2:Pos}
def kK (z:Str)(lo hi:Option Int):Str:=⟨((z.cps.toList.drop (HT.sIx z.length 0 lo)).take (HT.sIx z.length z.length hi-HT.sIx z.length 0 lo)).toArray⟩
def zKy (te:TE)(tl th:TO):TE:=fun σ H Q=>te σ H fun x H1=>tl σ H1 fun l H2=>th σ H2 fun u H3=>∃z,x=.str z/\z.length<=sizeLine/\Q (.str (kK z l u)) H3
theorem zCg (he:PE X e te)(hl:PO X lo tl)(m:PO X hi th):PE X (.Subscript e (.Slice lo hi none p2) pos) (zKy te tl th):=by
 intro a s σ H Q I h
 refine mz (zG (he a s σ H _ I h) fun v n zq=>?_)
 obtain⟨x,p,r,y,B⟩:=zq
 refine wpAny_Slice (zG (hl a n σ p _ r B) fun C D ⟨l,E,F,pl,G⟩=>zG (m a D σ E _ F G) fun J c zq=>?_)
 obtain⟨u,L,M,g,N⟩:=zq
 rw[lX]
 refine ax ?_
 obtain⟨z,rfl,hz,q⟩:=N
 obtain⟨t,rfl⟩:=y
 have d:KeptH (fun h=>∀b o,c.heap.get? b=some o->h.get? b=some o):=fun h ob f b o q=>ag _ (f b o q)
 have fin:∀h' t' k,(∀b o,c.heap.get? b=some o->h'.get? b=some o)->EP X a σ Q (.str (p7 z l u) t') {c with heap:=h',toks:=k}:=fun h' t' k f=>by
  refine⟨.str (kK z l u),L,M.kept f,⟨t',?_⟩,q⟩
  rw[zKx];rfl
 have go:ItemOn (model X.prog X.w) X.A X.xe (.str z t) (.ref c.heap.objs.size) (EP X a σ Q) {c with heap:=c.heap.push {cls:=.type "slice",data:=.fields #[C,J,.none]}}:=by
  cases pl with
  |none=>
   cases g with
   |none=>exact SBH.sliceItem_nn d (fun _ _ q=>q) fin hz
   |int j O=>exact SBH.sliceItem_ns d (fun _ _ q=>q) fin hz
  |int i W=>
   cases g with
   |none=>exact SBH.sliceItem_sn d (fun _ _ q=>q) fin hz
   |int j O=>exact SBH.sliceItem_ss d (fun _ _ q=>q) fin hz
 obtain⟨T,id,P,R,U⟩:=go
 exact qq (ops:=[.ref c.heap.objs.size,.str z t]) R P U (by with_unfolding_all rfl)
end
section
variable{X:Cx}
theorem zAZ (j:X.calm=true):qR X (.builtin "all") (fun xs H Q=>∃(p:ai) (bs:List Bool),xs=[.ref p]/\z7 X.K H p (bs.map V.bl)/\Q (.bl (bs.all id)) H):=by
 intro f s σ H xs us Q I r h
 obtain⟨p,bs,rfl,l,q⟩:=h
 obtain⟨u,rfl,m⟩:=jD r
 cases m
 obtain⟨a,d,pl,hz⟩:=I.list l
 have w:p≠s.heap.objs.size:=by
  obtain⟨o,n,e,_⟩:=pl
  exact aM (aC e)
 have c:∀(i:Nat) (v:ae),a.toArray[i]?=some v->v=.bool (bs.getD i false):=fun i v e=>by
  have g:a[i]?=some v:=by simpa using e
  have hl:=d.length
  have hi:i<bs.length:=by
   have:=(af.mp g).1
   simp at hl;omega
  obtain⟨u,e1,y⟩:=d.get (i:=i) (x:=.bl (bs.getD i false)) (by rw[ar];simp[hi])
  rw[g]at e1
  cases e1
  exact y
 refine call_all_walk (fq pl.isList ?_)
 refine⟨s.heap.objs.size,_,_,a.toArray.size,_,_,fun i=>bs.getD i false,rfl,oR (A:=X.A.in1) (I.ok.hd j) _ p w a.toArray,⟨⟨_,ay _ rfl,rfl,rfl⟩,?_⟩,fun i v s' F G B C=>?_,fun h' tk D=>?_⟩
 ·exact pl.isList.at fun o e=>ag _ e
 ·rw[c i v B];exact cy C
 ·refine⟨.bl (bs.all id),H,I.kept (t':=tk) (h':=h') fun b o e=>D b o (fun z=>?_) (ag _ e),?_,q⟩
  ·have:b=s.heap.objs.size:=by simpa using z
   exact absurd (aC e) (by rw[this];exact bw _)
  ·have hl:=d.length
   have hsz:a.toArray.size=bs.length:=by simp at hl;simp[hl]
   have:(bP a.toArray.size).all (fun i=>bs.getD i false)=bs.all id:=by
    rw[hsz]
    rw[dG]
    simp only[cI,cU,id]
    constructor
    ·intro h b E
     obtain⟨i,hi,e⟩:=dR E
     have:=h i hi
     simpa [hi,e]using this
    ·intro h i hi
     have:=h bs[i] (bE hi)
     simpa [hi]using this
   rw[this];rfl
theorem zGA (ns:List Int):∀k,k<=ns.length->preSum (fun i=>ns.getD i 0) k=(ns.take k).sum
 |0,_=>by simp[preSum]
 |k+1,h=>by
  show preSum (fun i=>ns.getD i 0) k+ns.getD k 0=_
  have a:k<ns.length:=h
  rw[zGA ns k (by omega),av a,List.sum_append]
  simp[a]
def zKz (d:ai):Obj:={cls:=.type "dict_values",data:=.fields #[.ref d]}
def VLS (p d:ai):HO:=.ext fun h=>h.get? p=some (zKz d)
def zLA:V->List V->Hp->VK->Prop:=fun x vs H Q=>∃d kvs,x=.ref d/\vs=[]/\H d=some (.dK kvs)/\∀p,H p=none->Q (.ref p) (upd H p (VLS p d))
theorem zLB:MtM X "dict.values" zLA:=by
 intro c s σ H x vs v us Q I f g h
 obtain⟨d,kvs,rfl,rfl,hd,q⟩:=h
 cases f
 have a:=g.zero
 subst a
 obtain⟨z,i,j,rel,dd⟩:=k8 I.hok hd
 refine gz iT dd.typeIs PySem.F.entry_dict_values (PySem.F.args_dict_values_1 _) (meets_dict_values (uJ X.prog X.w) d i) ⟨⟨_,dd⟩,?_⟩
 refine⟨.ref s.heap.objs.size,_,I.laid (t':=s.toks) (o:=VLS s.heap.objs.size d) (fun b o e=>ag _ e) (aw _) ?_,rfl,q _ (I.hok.fresh (aw _))⟩
 exact⟨ay _ rfl,⟨_,ay _ rfl⟩,fun l m e k=>k _ e⟩
theorem zLC (J:X.calm=true):qR X (.builtin "sum") (fun xs H Q=>∃(p d:ai) (a:List (zU×Int)),xs=[.ref p]/\H p=some (VLS p d)/\H d=some (.dK (a.map fun q=>(q.1,V.int q.2)))/\Q (.int (a.map (·.2)).sum) H):=by
 intro E s σ H xs us Q I r h
 obtain⟨p,d,a,rfl,L,hd,q⟩:=h
 obtain⟨u,rfl,M⟩:=jD r
 cases M
 obtain⟨z,n,l,rel,dd⟩:=k8 I.hok hd
 obtain⟨F,_,_⟩:=I.hok p _ L
 obtain⟨ep,c⟩:=dd.dictAt
 have j:l.length=a.length:=by have:=rel.length;simpa using this.symm
 have y:∀(i:Nat) (v:ae),(∃k,l[i]?=some (k,v))->∃t,v=Value.int ((a.map (·.2)).getD i 0) t:=fun i v zq=>by
  obtain⟨k,e⟩:=zq
  obtain⟨x,e1,N⟩:=KV.get rel e
  rw[ar]at e1
  cases g:a[i]? with
  |none=>rw[g]at e1;cases e1
  |some m=>
   rw[g]at e1
   have B:(m.1,V.int m.2)=(k,x):=au e1
   have:x=V.int m.2:=(cx B).2.symm
   subst this
   obtain⟨t,rfl⟩:=N
   refine⟨t,?_⟩
   have:(a.map (·.2)).getD i 0=m.2:=by rw[b0,ar,g];rfl
   rw[this]
 have G:=PySem.W.kdl_values (knd:=uJ X.prog X.w) (kvs:=l) (ep:=ep) (r:=p) (d:=d)
 obtain⟨O,St,hit,W,st⟩:=G.iter X.A.in1 s (I.ok.hd J) ⟨⟨_,F,rfl,rfl⟩,c⟩
 have C:=G.there s.heap ⟨⟨_,F,rfl,rfl⟩,c⟩
 refine call_sum_walkAnyS (hit _ _ ⟨s.heap.objs.size,_,_,_,l.length,_,_,fun i=>(a.map (·.2)).getD i 0,rfl,W.toS,st,fun b D=>?_,y,fun s' t' n=>?_⟩)
 ·show b<(s.heap.push O).objs.size
  rw[size_push']
  rcases aD.mp D with e|D
  ·rw[e];exact bO _
  ·rw[bF.mp D];exact bL C.2
 have P:∀b o,s.heap.get? b=some o->s'.heap.get? b=some o:=fun b o e=>
  n.heap b o (fun R=>absurd (aC e) (by rw[bF.mp R];exact bw _)) (ag _ e)
 rw[pW n]
 refine⟨.int (a.map (·.2)).sum,H,I.kept (h':=s'.heap) (t':=s'.toks) P,⟨t',?_⟩,q⟩
 rw[j,<-aj (f:=(·.2)) (as:=a),zGA _ _ (aw _),aQ]
theorem jM:qR X (.builtin "isinstance") (fun xs H Q=>∃x c t b,xs=[x,.ty c]/\TyOf X.K H x t/\br X.K t (.type c)=some b/\Q (.bl b) H):=by
 intro a s σ H xs us Q I r h
 obtain⟨x,c,t,b,rfl,ty,e,q⟩:=h
 obtain⟨u,g,rfl,d,f⟩:=zCO r
 cases f
 exact zJd I d ty e fun tk=>⟨.bl b,H,I.tok tk,rfl,q⟩
theorem zLD {a:List Str}:∀{us:List ae},zK (a.map V.str) us->oB us a:=by
 induction a with
 |nil=>intro us r;rw[nc]at r;cases r;exact .nil
 |cons x a ih=>
  intro us r
  rw[aP]at r
  cases r with
  |cons b c=>
   obtain⟨t,e⟩:=b
   subst e
   exact .cons x t (ih c)
def zLE (K:aa):V->List V->Hp->VK->Prop:=fun x vs H Q=>∃(sep:Str) (l:ai) (ss:List Str),x=.str sep/\vs=[.ref l]/\z7 K H l (ss.map V.str)/\(ss.map (·.length)).sum+ss.length*sep.length<=16777216/\Q (.str (nr sep ss)) H
theorem zLF:MtR X "str.join" (zLE X.K):=by
 intro a s σ H x vs v us Q I b c h
 obtain⟨sep,l,d,rfl,rfl,e,hz,q⟩:=h
 obtain⟨t,rfl⟩:=b
 obtain⟨u,rfl,f⟩:=jD c
 cases f
 obtain⟨g,i,pl,_⟩:=I.list e
 exact join_list pl.isList (by simpa using zLD i) hz fun t' k=>⟨.str (nr sep d),H,I.tok k,⟨t',rfl⟩,q⟩
theorem zLG (l:List Str):∀a:Array Nat,(l.foldl (fun b p=>b++(⟨#[]⟩:Str).cps++p.cps) a).toList=a.toList++(l.map (·.cps.toList)).flatten:=by
 induction l with
 |nil=>intro a;simp
 |cons x r ih=>intro a;rw[gs,ih];simp
theorem zLH (a:List Str):nr ⟨#[]⟩ a=⟨(a.map (·.cps.toList)).flatten.toArray⟩:=by
 apply MyS.Str_ext
 show((a.drop 1).foldl (fun b p=>b++(⟨#[]⟩:Str).cps++p.cps) (a.headD rM).cps).toList=(a.map (·.cps.toList)).flatten.toArray.toList
 rw[zLG]
 cases a with
 |nil=>rfl
 |cons x r=>simp
def zLI:V->List V->Hp->VK->Prop:=fun x vs H Q=>∃d kvs k v,x=.ref d/\vs=[kV k,v]/\H d=some (.dK kvs)/\kvs.length<sizeLine/\(∀y,yW kvs k=some y->Q y H)/\(yW kvs k=none->Q v (upd H d (.dK (vO kvs k v))))
theorem zLJ:MtM X "dict.setdefault" zLI:=by
 intro i s σ H x vs v us Q I m n h
 obtain⟨d,kvs,k,y,rfl,rfl,hd,hz,o,p⟩:=h
 cases m
 obtain⟨u,r,rfl,A,b⟩:=zCO n
 obtain⟨z,j,l,rel,dd⟩:=k8 I.hok hd
 have f:l.length<=sizeLine:=by rw[<-rel.length];exact z
 refine gz gu dd.typeIs PySem.F.entry_dict_setdefault (PySem.F.args_dict_setdefault_3 _ _ _) (kt_meets_setdefault (uJ X.prog X.w) d (kZ A) j r) ⟨l,dd,f,fun v' B=>?_,fun C h' c D=>?_⟩
 ·have a:=rel.val k
  rw[B]at a
  cases e:yW kvs k with
  |none=>rw[e]at a;exact a.elim
  |some g=>
   rw[e]at a
   exact⟨g,H,I.tok _,a,o g e⟩
 ·have a:=rel.val k
  rw[C]at a
  cases e:yW kvs k with
  |some g=>rw[e]at a;exact a.elim
  |none=>
   have he:∃q,h'.get? d=some q:=let⟨q,_,_,E,_⟩:=c;⟨q,E⟩
   have hl:(vO kvs k y).length<=sizeLine:=by have:=zCU kvs k y;omega
   exact⟨y,_,zAW I (by rw[hd];exact True.intro) D he (zBG hl j (rel.put k b) c),b,p e⟩
def zLK:List V->Hp->VK->Prop:=fun xs H Q=>∃d kvs,xs=[.ref d]/\H d=some (.dK (gE kvs))/\(kvs.map (·.1)).Nodup/\kvs.length<64/\
 ∀(out:List Str) (l:ai),out.Perm (kvs.map (·.1))->out.Pairwise (fun a b=>a.cps.toList<b.cps.toList)->H l=none->Q (.ref l) (upd H l (.lst (out.map V.str)))
theorem zLL (hc:X.calm=true):qR X (.builtin "sorted") zLK:=by
 intro G s σ H xs us Q I rx h
 obtain⟨d,kvs,rfl,hd,nd,T,q⟩:=h
 obtain⟨u,rfl,ru⟩:=jD rx
 cases ru
 obtain⟨z,hm,ws,rel,dd⟩:=k8 I.hok hd
 have r:ws.length=kvs.length:=by have:=rel.length;simpa using this.symm
 obtain⟨ep,U⟩:=dd.dictAt
 refine iF kind_sorted plain_sorted entry_sorted (args_sorted1 _) ?_
 unfold cc.«sorted»
 refine ah (m:=checkCount "sorted" 1 1 _) (ax ?_)
 refine ah (PySem.W.kdu_collect (A:=X.A.in1) (PySem.W.kdl_dict (knd:=uJ X.prog X.w) (kvs:=ws) (ep:=ep) hm) (I.ok.hd hc) U (by rw[r,bg];omega) fun h' tk a hk c=>?_)
 have f:a.toList.length=kvs.length:=by rw[aZ];exact c.1.trans r
 have Y:oB a.toList (kvs.map (·.1)):=by
  have J:∀v∈a.toList,∃x t,v=Value.str x t:=fun v hv=>by
   obtain⟨i,hi,e⟩:=dR hv
   obtain⟨k,x,e1,E⟩:=c.2 i v (by rw[<-dD,ao hi,e])
   obtain⟨y,f1,_⟩:=KV.get rel e1
   rw[ar]at f1
   cases g:kvs[i]? with
   |none=>rw[g]at f1;cases f1
   |some p=>
    rw[g]at f1
    have:(Sum.inr p.1:zU)=k:=(cx (au f1)).1
    subst this
    have C:jU (Sum.inr p.1) v=true:=E
    rcases qD C with⟨j,t,F,_⟩|⟨w,t,F,Z⟩
    ·cases F
    ·exact⟨w,t,Z⟩
  have e0:=strsAre_map a.toList J
  have:a.toList.map strOf=kvs.map (·.1):=by
   apply eQ
   ·simp only[aj,f]
   ·intro i h1 L
    have hi:i<a.toList.length:=by simpa using h1
    have ab:i<kvs.length:=by simpa using L
    obtain⟨k,x,e1,E⟩:=c.2 i a.toList[i] (by rw[<-dD,ao hi])
    obtain⟨y,f1,_⟩:=KV.get rel e1
    rw[ar,ao ab]at f1
    have:(Sum.inr kvs[i].1:zU)=k:=(cx (au f1)).1
    subst this
    have C:jU (Sum.inr kvs[i].1) a.toList[i]=true:=E
    rcases qD C with⟨j,t,F,_⟩|⟨w,t,F,Z⟩
    ·cases F
    ·have:kvs[i].1=w:=iK F
     rw[fY,fY,Z,this]
     rfl
  rw[this]at e0
  exact e0
 refine ah (me ?_ (by rw[f,bg];omega))
 generalize hB:h'.objs.size=B
 have M:(h'.push {cls:=.type "list",data:=.seq a.toList.toArray}).get? B=some (seqObj "list" a.toList.toArray 0):=by
  rw[<-hB];exact ay _ rfl
 refine ah (dP (b5 oS ⟨_,M,rfl⟩ om (MyS.sort_strs (ks:=kvs.map (·.1)) M Y nd (by rw[f];exact T) fun pm L E n N ac al=>⟨_,rfl,?_⟩) (oT _)))
 refine ax ⟨_,rfl,?_⟩
 rw[f]at n
 have O:∀i∈pm,i<kvs.length:=fun i hi=>cU.mp (n.mem_iff.mp hi)
 have P:∀b o,s.heap.get? b=some o->L.get? b=some o:=fun b o e=>by
  have e1:=hk b o e
  refine ac b o ?_ (ag _ e1)
  rw[<-hB];exact aM (aC e1)
 have R:s.heap.get? B=none:=by
  cases g:s.heap.get? B with
  |none=>rfl
  |some o=>
   have h0:=aC (hk B o g)
   rw[hB]at h0
   exact absurd h0 (bw _)
 have v4:upd H B (.lst ((pm.map fun i=>(kvs.map (·.1)).getD i ⟨#[]⟩).map V.str))=qL H [(B,.lst ((pm.map fun i=>(kvs.map (·.1)).getD i ⟨#[]⟩).map V.str))]:=by
  funext b
  unfold upd qL
  by_cases hb:b=B
  ·subst hb;simp
  ·have am:(b==B)=false:=by simpa using hb
   rw[if_neg hb,bK,am]
   rfl
 have IM:Inv X G σ (qL H [(B,.lst ((pm.map fun i=>(kvs.map (·.1)).getD i ⟨#[]⟩).map V.str))]) {s with heap:=L,toks:=tk}:=by
  refine I.many P (fun p hp=>?_) fun p hp=>?_
  ·rcases aD.mp hp with e|e
   ·rw[e];exact R
   ·cases e
  ·rcases aD.mp hp with e|e
   ·subst e
    refine⟨?_,(pm.map fun i=>a.toList.getD i Value.none),_,?_,al⟩
    ·show(qv V.str (pm.map _)).length<=_
     rw[aj,aj,n.length_eq,cj,bg];omega
    ·have go:∀l:List Nat,(∀i∈l,i<kvs.length)->zK ((l.map fun i=>(kvs.map (·.1)).getD i ⟨#[]⟩).map V.str) (l.map fun i=>a.toList.getD i Value.none):=by
      intro l
      induction l with
      |nil=>intro _;exact .nil
      |cons i l ih=>
       intro hl
       have hi:=hl i (aq ..)
       have D:i<a.toList.length:=by omega
       refine .cons ?_ (ih fun j hj=>hl j (az _ hj))
       obtain⟨x,t,e⟩:=Y.all a.toList[i] (bE D)
       refine⟨t,?_⟩
       have e1:a.toList.getD i Value.none=a.toList[i]:=by
        rw[b0,ao D];rfl
       have E:(kvs.map (·.1)).getD i ⟨#[]⟩=x:=by
        rw[<-Y.strs,b0,ar,ao D,e];rfl
       dsimp only
       rw[e1,E,e]
     exact go pm O
   ·cases e
 refine⟨.ref B,_,IM,rfl,?_⟩
 rw[<-v4]
 refine q _ B ?_ ?_ (I.hok.free R)
 ·have e1:(bP kvs.length).map (fun i=>(kvs.map (·.1)).getD i (⟨#[]⟩:Str))=kvs.map (·.1):=by
   apply eQ
   ·simp
   ·intro i h1 L
    have hi:i<kvs.length:=by simpa using h1
    simp[hi]
  have:=n.map (fun i=>(kvs.map (·.1)).getD i (⟨#[]⟩:Str))
  rw[e1]at this
  exact this
 ·rw[cg]
  rw[cg]at N
  exact N
theorem zLM (hc:X.calm=true):qR X (.builtin "min") (fun xs H Q=>∃x y,xs=[.str x,.str y]/\Q (.str (if y.cps.toList<x.cps.toList then y else x)) H):=by
 intro pins s σ H xs us Q I r h
 obtain⟨x,y,rfl,q⟩:=h
 obtain⟨u,w',rfl,⟨t,rfl⟩,⟨t',rfl⟩⟩:=zCO r
 have hT:(s.heap.push {cls:=.type "tuple",data:=.seq #[.str x t,.str y t']}).IsTuple s.heap.objs.size #[.str x t,.str y t']:=⟨_,ay _ rfl,rfl,0,rfl⟩
 refine call_min_two (my hT ?_)
 have hsz:(s.heap.push {cls:=.type "tuple",data:=.seq #[.str x t,.str y t']}).objs.size=s.heap.objs.size+1:=bz ..
 have at2:∀(i:Nat) (v:ae),(#[Value.str x t,.str y t']:Array ae)[i]?=some v->∃tk,v=.str (if i=0 then x else y) tk:=fun i v e=>by
  match i,e with
  |0,e=>have : Value.str x t=v :=by simpa using e
        exact⟨t,this.symm⟩
  |1,e=>have : Value.str y t'=v :=by simpa using e
        exact⟨t',this.symm⟩
  |i+2,e=>simp at e
 refine⟨_,[_,s.heap.objs.size],[_],_,_,_,fun i j=>decide ((if i=0 then x else y).cps.toList<(if j=0 then x else y).cps.toList),rfl,Walks.tuple (A:=X.A.in1) (I.ok.hd hc) _ s.heap.objs.size (by rw[hsz];exact aM (bO _)) #[.str x t,.str y t'],
  ⟨⟨_,ay _ rfl,rfl,rfl⟩,hT.push _⟩,fun c hcm=>?_,by simp,fun i j vi vj s' Q' E' hi hj hQ=>?_,fun v h' tk hP hk=>?_⟩
 ·show c<((s.heap.push _).push _).objs.size
  rw[bz,hsz]
  rcases aD.mp hcm with rfl|hcm
  ·rw[hsz];exact bO _
  ·rcases aD.mp hcm with rfl|hcm
   ·exact bL (bO _)
   ·cases hcm
 ·obtain⟨a,rfl⟩:=at2 i vi hi
  obtain⟨b,rfl⟩:=at2 j vj hj
  exact lt_str hQ
 ·have hold:∀c o,s.heap.get? c=some o->h'.get? c=some o:=fun c o e=>by
   refine hk c o (fun hm=>?_) (ag _ (ag _ e))
   have hlt:=aC e
   have:c=(s.heap.push {cls:=.type "tuple",data:=.seq #[.str x t,.str y t']}).objs.size:=by simpa using hm
   rw[hsz]at this
   exact absurd hlt (by rw[this];exact rC.mpr (fc _))
  refine⟨.str (if y.cps.toList<x.cps.toList then y else x),H,I.kept hold,?_,q⟩
  obtain⟨tk',e⟩:=at2 _ v hP
  refine⟨tk',?_⟩
  rw[e]
  congr 1
  show(if argBest (fun i j=>decide ((if i=0 then x else y).cps.toList<(if j=0 then x else y).cps.toList)) 1=0 then x else y)=_
  show(if(if decide (y.cps.toList<x.cps.toList)=true then 1 else 0)=0 then x else y)=_
  by_cases hlt:y.cps.toList<x.cps.toList
  ·simp[hlt]
  ·simp[hlt]
theorem zGB:z9 X (binaryOp .Add) (fun x y H Q=>∃a b ys,x=.ref a/\y=.ref b/\yH X.K H a []/\yH X.K H b ys/\Q (.ref b) H):=by
 intro l s σ H x y v u Q I r w h
 obtain⟨a,b,ys,rfl,rfl,z,A,q⟩:=h
 cases r
 cases w
 obtain⟨g,B,C,_⟩:=I.tuple z
 obtain⟨c,J,D,_⟩:=I.tuple A
 have E:g=[]:=by cases B;rfl
 subst E
 obtain⟨⟨cls,dd,data,F⟩,m,o,n,hd⟩:=id C
 obtain⟨⟨p,i,data2,j⟩,d,e,G,f⟩:=id D
 simp only at o hd e f
 subst o hd e f
 exact mV ⟨_,m,rfl⟩ ⟨_,d,rfl⟩ iZ lW fA ff (eV _ _)
  (tuple_addW0 a b _ c.toArray n G dd i F j (by simp)) ⟨m,d,⟨.ref b,H,I,rfl,q⟩⟩
end
structure Known (J:It) (items:List V) (Hk:Hp->Prop):Prop where
 go:∀i H,Hk H->i<items.length->J.go i H
 yld:∀i H x H',Hk H->J.yld i H x H'->H'=H/\(i<items.length->items[i]?=some x)
 stop:∀H,Hk H->J.stop items.length H
theorem zAa (lo:Int)(n:Nat):Known (Itr lo n) ((bP n).map fun(i:Nat)=>V.int (lo+(i:Int))) (fun _=>True) :=
 ⟨fun i H _ h=>by show i<n;simpa using h,fun i H x H' _ h=>⟨h.1,fun hi=>by
  have a:i<n:=by simpa using hi
  rw[ar,dS a,h.2];rfl⟩,fun H _=>by show n<=_;simp⟩
theorem v5 (K:aa)(a:ai)(xs:List V):Known (Itl K a) xs (fun H=>z7 K H a xs) :=
 ⟨fun i H h hi=>⟨xs,xs[i],h,ao hi⟩,fun i H x H' h y=>⟨y.1,fun _=>y.2 xs h⟩,fun H h=>⟨xs,h,aw _⟩⟩
theorem zCh (K:aa)(a:ai)(xs:List V):Known (Itt K a) xs (fun H=>yH K H a xs) :=
 ⟨fun i H h hi=>⟨xs,xs[i],h,ao hi⟩,fun i H x H' h y=>⟨y.1,fun _=>y.2 xs h⟩,fun H h=>⟨xs,h,aw _⟩⟩
theorem zGC (z:Str):Known (Its z) (z.cps.toList.map fun c=>V.str ⟨#[c]⟩) (fun _=>True) :=
 ⟨fun i H _ h=>by show i<z.cps.size;simpa using h,fun i H x H' _ h=>⟨h.1,fun _=>by
  obtain⟨c,e1,a⟩:=h.2
  rw[ar,dD,e1,a];rfl⟩,fun H _=>by show _=z.cps.size;simp⟩
theorem zAb {J:It}{items:List V}{Hk:Hp->Prop}(v:Known J items Hk){caps:List Nat}{n:Nat}{σ:St}{g:TG}{D:TT}{te:TE}{F:List V->Hp->Prop}{E:Hp}(j:St)(k:Nat)(O:items.length<1000)
  (Pv:Nat->List V->Hp->Prop) (G:Pv 0 [] E) (I:∀i a H,i<=items.length->Pv i a H->Hk H/\a.length<=i)
  (l:∀(i:Nat) (x:V) (a:List V) (H:Hp) (ys:St) (w:List V->St->Hp->Prop),(∀c H' u,u.length=k->Pv (i+1) c H'->w c (j++u) H')->items[i]?=some x->ys.length=k->Pv i a H->
   g x (j++ys) H fun d z=>D d z fun b o=>if b=true then te d o fun y h=>w (a++[y]) d h else w a d o)
  (fin:∀a H,Pv items.length a H->F a H) (A:uO caps n σ=j++aS k none:=by rfl) :
  ∃W:Nat->Nat->List V->St->Hp->Prop,(∃m,W 0 m [] (uO caps n σ) E)/\∀i m a q H',W i m a q H'->
   (J.stop i H'/\F a H')\/
   (J.go i H'/\a.length<sizeLine/\∀x r,J.yld i H' x r->g x q r fun d z=>D d z fun b o=>if b=true then te d o fun y h=>∃f,f<m/\W (i+1) f (a++[y]) d h else∃f,f<m/\W (i+1) f a d o):=by
 refine⟨fun i m a q H'=>i<=items.length/\m=items.length-i/\(∃ys,ys.length=k/\q=j++ys)/\Pv i a H',⟨items.length,bh _,rfl,⟨_,by simp,A⟩,G⟩,?_⟩
 rintro i m a q H' ⟨hi,rfl,⟨ys,L,rfl⟩,pv⟩
 obtain⟨B,P⟩:=I i a H' hi pv
 by_cases e:i=items.length
 ·subst e
  exact .inl ⟨v.stop H' B,fin a H' pv⟩
 ·have s:i<items.length:=by omega
  refine .inr ⟨v.go i H' B s,by rw[bg];omega,fun x r C=>?_⟩
  obtain⟨M,N⟩:=v.yld i H' x r B C
  subst M
  exact l i x a r ys (fun c d h=>∃f,f<items.length-i/\(i+1<=items.length/\f=items.length- (i+1)/\(∃ys,ys.length=k/\d=j++ys)/\Pv (i+1) c h)) (fun c h u hz p=>⟨items.length- (i+1),by omega,by omega,rfl,⟨u,hz,rfl⟩,p⟩) (N s) L pv
theorem uY {J:It}{items:List V}{Hk:Hp->Prop}(A:Known J items Hk){caps:List Nat}{n:Nat}{σ:St}{g:TG}{te:TE}{F:List V->Hp->Prop}{u:Hp}(r:St)(k:Nat)(B:items.length<1000)
  (Pv:Nat->List V->Hp->Prop) (C:Pv 0 [] u) (D:∀i a H,i<=items.length->Pv i a H->Hk H/\a.length<=i)
  (l:∀(i:Nat) (x:V) (a:List V) (H:Hp) (ys:St) (h:List V->St->Hp->Prop),(∀d H' v,v.length=k->Pv (i+1) d H'->h d (r++v) H')->items[i]?=some x->ys.length=k->Pv i a H->
   g x (r++ys) H fun c f=>te c f fun y j=>h (a++[y]) c j)
  (fin:∀a H,Pv items.length a H->F a H) (s:uO caps n σ=r++aS k none:=by rfl) :
  ∃W:Nat->Nat->List V->St->Hp->Prop,(∃m,W 0 m [] (uO caps n σ) u)/\∀i m a w H',W i m a w H'->
   (J.stop i H'/\F a H')\/
   (J.go i H'/\a.length<sizeLine/\∀x z,J.yld i H' x z->g x w z fun c f=>zBJ c f fun b o=>if b=true then te c o fun y j=>∃q,q<m/\W (i+1) q (a++[y]) c j else∃q,q<m/\W (i+1) q a c o):=by
 refine zAb A r k B Pv C D (fun i x a H ys h E G I p=>?_) fin s
 have:=l i x a H ys h E G I p
 have e:(fun(c:St) (f:Hp)=>zBJ c f fun b o=>if b=true then te c o fun y j=>h (a++[y]) c j else h a c o)=fun c f=>te c f fun y j=>h (a++[y]) c j:=by
  funext c f
  unfold zBJ
  exact if_pos rfl
 rw[e]
 exact this
theorem jN {J:It}{items:List V}{Hk:Hp->Prop}(f:Known J items Hk){g:TG}{o:TS}{D:Ends}{σ:St}{H:Hp}(Pv:Nat->St->Hp->Prop)(r:Pv 0 σ H)(s:∀i σ H,i<=items.length->Pv i σ H->Hk H)
  (c:∀(i:Nat) (x:V) (σ:St) (H:Hp) (h:St->Hp->Prop),(∀a H',Pv (i+1) a H'->h a H')->items[i]?=some x->Pv i σ H->g x σ H fun j b=>o {D with nx:=h,ct:=h,bk:=D.nx} j b)
  (fin:∀σ H,Pv items.length σ H->D.nx σ H) :
  ∃W:Nat->Nat->St->Hp->Prop,(∃m,W 0 m σ H)/\∀i m σ H,W i m σ H->
   (J.stop i H/\D.nx σ H)\/(J.go i H/\∃N:St->Hp->Prop,(∀a H',N a H'->∃q,q<m/\W (i+1) q a H')/\∀x H',J.yld i H x H'->g x σ H' fun j b=>o {D with nx:=N,ct:=N,bk:=D.nx} j b):=by
 refine⟨fun i m σ H=>i<=items.length/\m=items.length-i/\Pv i σ H,⟨items.length,bh _,rfl,r⟩,?_⟩
 rintro i m σ H ⟨hi,rfl,pv⟩
 have l:=s i σ H hi pv
 by_cases e:i=items.length
 ·subst e
  exact .inl ⟨f.stop H l,fin σ H pv⟩
 ·have d:i<items.length:=by omega
  refine .inr ⟨f.go i H l d,Pv (i+1),fun a H' p=>⟨items.length- (i+1),by omega,by omega,rfl,p⟩,fun x b n=>?_⟩
  obtain⟨u,v⟩:=f.yld i H x b l n
  subst u
  exact c i x σ b (Pv (i+1)) (fun _ _ p=>p) (v d) pv
theorem uB {c A B:Prop} [Decidable c] (a:c)(h:A):if decide c=true then A else B:=by
 rw[if_pos (decide_eq_true a)];exact h
theorem u7 {c A B:Prop} [Decidable c] (a:¬c)(h:B):if decide c=true then A else B:=by
 rw[if_neg (fun z=>a (of_decide_eq_true z))];exact h
theorem zB.upd_new {H H':Hp}{a:ai}{o:HO}(e:zB H H')(h:H a=none):zB H (upd H' a o):=fun b u q=>by
 rw[zF (vK q h)];exact e b u q
theorem zB.upd1 {H:Hp}{a:ai}{o:HO}(h:H a=none):zB H (upd H a o):=(zB.refl H).upd_new h
def zBN (sc:eA)(XN N:List Str)(scope:eA):Nat->List Nat->Bool
 |_,[]=>true
 |i,c::cs=>(match N[i]? with
  |some x=>decide (XN[c]?=some x)&&decide (scope.names.lookup x=some .free)&& (decide (sc.names.lookup x=some .cell)||decide (sc.names.lookup x=some .free))
  |none=>false)&&zBN sc XN N scope (i+1) cs
def zGD (sc:eA)(XN N:List Str)(scope:eA)(caps:List Nat):Bool :=
 decide (scope.kind=.function)&&decide N.Nodup&&scope.names.all (fun y=>decide (y.2≠.cell))&&scope.names.all (fun y=>decide (y.2=.local->scope.names.lookup y.1=some .local))&&
 scope.names.all (fun y=>decide (y.2=.free->sc.names.lookup y.1=some .cell\/sc.names.lookup y.1=some .free))&&zBN sc XN N scope 0 caps&&decide (caps.length<=N.length)
theorem zGE {g:eA}{l N:List Str}{scope:eA}:∀{caps:List Nat}{j:Nat},zBN g l N scope j caps=true->∀i,i<caps.length->
  ∃x,N[j+i]?=some x/\l[caps.getD i 0]?=some x/\scope.names.lookup x=some .free/\(g.names.lookup x=some .cell\/g.names.lookup x=some .free)
 | [],_,_,i,hi=>by simp at hi
 |c::o,j,h,i,hi=>by
  unfold zBN at h
  rw[aY]at h
  obtain⟨f,m⟩:=h
  cases i with
  |zero=>
   cases e:N[j]? with
   |none=>rw[e]at f;cases f
   |some x=>
    rw[e]at f
    simp only[aY,Bool.or_eq_true,decide_eq_true_eq]at f
    exact⟨x,by simpa using e,by simpa using f.1.1,f.1.2,f.2⟩
  |succ i=>
   obtain⟨x,a,b,n,d⟩:=zGE m i (by simpa using hi)
   exact⟨x,by rw[<-a];congr 1;omega,by simpa using b,n,d⟩
theorem vP {j:eA}{l N:List Str}{scope:eA}{caps:List Nat}(h:zGD j l N scope caps=true):CompScope j l N scope caps:=by
 unfold zGD at h
 simp only[aY,decide_eq_true_eq,cI]at h
 obtain⟨⟨⟨⟨⟨⟨a,b⟩,c⟩,d⟩,e⟩,f⟩,g⟩:=h
 exact⟨a,b,c,d,e,fun i hi=>by simpa using zGE f i hi,g⟩
section
variable{X:Cx}{pins:List (ai×Obj)}{σ:St}{H:Hp}{s:ak}
theorem Inv.turnedT {fp:List ai}{h':ba}{t':Nat}{T:ai}{o:HO}(I:Inv X pins σ H s)(k:∀b u,b∉fp->s.heap.get? b=some u->h'.get? b=some u)(h:∀b∈fp,qF X pins H b)(i:s.heap.get? T=none)
  (new:yA X.prog X.w (upd H T o) h' T o):Inv X pins σ (upd H T o) {s with heap:=h',toks:=t'}:=by
 have j:H T=none:=I.hok.free i
 have d:∀b u,H b=some u->b∉fp:=fun b u e z=>by rw[(h b z).1]at e;cases e
 have f:zB H (upd H T o):=zB.upd1 j
 have old:∀b (u:Obj),s.heap.get? b=some u->upd H T o b=H b:=fun b u e=>by
  rw[zF]
  rintro rfl
  rw[i]at e;cases e
 refine I.step (g':=s.gens) (d':=s.drawn) (ch:=fp) (fun b g=>?_) (fun b o _ _ a e _=>k b o a e) (fun b o _ _ a e _=>⟨o.slots,k b o a e⟩) (fun b u _ e n=>by rw[old b u e];exact n)
  (fun b o a e=>⟨o,k b o a e⟩) (fun b xs e=>f _ _ e) (fun b u v e=>f _ _ e) (fun b C e=>⟨#[],by rw[f _ _ e];simp⟩) (fun m l=>?_) (fun b u e=>?_) I.bare
 ·obtain⟨D,f1,f2,p,x,y⟩:=h b g
  exact⟨p,f1,x,y⟩
 ·obtain⟨o,A,ep,B,r⟩:=l
  exact⟨o,A,ep,k _ o (fun z=>(h _ z).2.1 rfl) B,r⟩
 ·by_cases g:b=T
  ·subst g;rw[zI]at e;cases e;exact new
  ·rw[zF g]at e
   refine(I.hok b u e).stay (fun c v a q=>k c v ?_ q) (fun c q=>?_) fun c xs q=>?_
   ·rcases a with z|z
    ·rw[z];exact d b u e
    ·exact d c _ z
   ·exact f _ _ q
   ·exact f _ _ q
end
def g7 (K:aa)(a:ai):It :=
 ⟨fun i H=>∃xs x,z7 K H a xs/\xs[i]?=some x,fun i H x H'=>∃T y,x=.ref T/\H T=none/\H'=upd H T (.tup [.int i,y])/\∀xs,z7 K H a xs->xs[i]?=some y,fun i H=>∃xs,z7 K H a xs/\xs.length=i⟩
theorem zLN {P:aB}{w:aL}{K:aa}{F:List bD}{k:Nat}{pos:Pos}(a e it:ai)(n:e≠it):Turn P w K (.Tuple F k pos) (g7 K a) [e,it] e (fun i h=>(∃old,IsEnum h e it i old)/\h.IsListIter it a i) where
 mem:=by simp
 obj:=fun i h st b j=>by
  obtain⟨⟨old,he⟩,hit⟩:=st
  rcases aD.mp j with z|z
  ·subst z;exact⟨_,he,fun v z=>by cases z⟩
  ·have U:b=it:=by simpa using z
   subst U
   obtain⟨o,e,c,d⟩:=hit
   exact⟨o,e,fun v z=>by rw[d]at z;cases z⟩
 keep:=fun i h h' st kk=>⟨let⟨old,he⟩:=st.1;⟨old,kk e (by simp) _ he⟩,st.2.at fun o x=>kk it (by simp) o x⟩
 item:=by
  intro X G W Y Z i J s σ H E I O st hg
  subst G W Y
  obtain⟨xs,x,R,hx⟩:=hg
  obtain⟨f,rv,p,hz⟩:=I.list R
  obtain⟨u,hu,ru⟩:=rv.get hx
  obtain⟨⟨old,he⟩,hit⟩:=id st
  have ab:e≠a:=fun z=>by
   subst z
   obtain⟨o,C,l,_⟩:=p.isList
   rw[he]at C;cases C
   have ac:Value.type "enumerate"=Value.type "list" :=l
   exact absurd ac (by decide)
  have r:a≠it:=fun z=>by
   subst z
   obtain⟨o,C,l,_⟩:=p.isList
   obtain⟨o',m,L,_⟩:=hit
   rw[C]at m;cases m;rw[l]at L;exact absurd L (by decide)
  have D:=rD (prog:=X.prog) (w:=X.w) (A:=X.A.in1) (show X.A.in1.handled=none from I.ok.hd Z) it a r f.toArray
  have al:i<f.toArray.size:=by
   have:=(af.mp hu).1
   simpa using this
  refine wpAny_pyNext_enum_itemD D he ⟨hit,p.isList⟩ al n (by simp[n,ab]) fun T h' tk G ho am hT hsz hk=>?_
  have an:T=u:=by
   have:f[i]?=some T:=by simpa using G
   rw[hu]at this;exact(au this).symm
  subst an
  refine⟨_,rfl,wpAny_letOwnedTupleGo_enum ho fun l ap y=>?_⟩
  have B:s.heap.get? s.heap.objs.size=none:=by
   cases g:s.heap.get? s.heap.objs.size with
   |none=>rfl
   |some o=>exact absurd (aC g) (bw _)
  have M:e<s.heap.objs.size:=aC he
  have as:l.get? s.heap.objs.size=some {cls:=.type "tuple",data:=.seq #[.int i tk,T]}:=(y.2 _ (dH M)).trans hT
  refine⟨.ref s.heap.objs.size,upd H s.heap.objs.size (.tup [.int i,x]),I.turnedT (fp:=[e,it]) (h':=l) (t':=tk+1) (fun b o j q=>?_) O B ⟨by show 2<=sizeLine;decide,[.int i tk,T],.cons ⟨tk,rfl⟩ (.cons ru .nil),⟨_,as,rfl,_,rfl⟩⟩,rfl,
   ⟨_,x,rfl,I.hok.free B,rfl,fun ys hy=>by rw[I.list_inj hy R];exact hx⟩,⟨⟨_,by simpa using ap⟩,am.1.at fun o q=>(y.2 it (dC n)).trans q⟩,fun b j=>?_⟩
  ·have N:b≠e:=fun z=>j (by simp[z])
   have aK:b≠it:=fun z=>j (by simp[z])
   exact(y.2 b N).trans (hk b o N aK q)
  ·rw[zF]
   ·exact(O b j).1
   ·rintro rfl
    rcases aD.mp j with z|z
    ·exact absurd M (by rw[z];exact bw _)
    ·have U:s.heap.objs.size=it:=by simpa using z
     obtain⟨o,m,_⟩:=hit
     rw[<-U,B]at m;cases m
 done:=by
  intro X G W Y Z i J s σ H E I O st hg
  subst G W Y
  obtain⟨xs,R,hx⟩:=hg
  obtain⟨f,rv,p,hz⟩:=I.list R
  obtain⟨⟨old,he⟩,hit⟩:=id st
  have hl:=rv.length
  have r:a≠it:=fun z=>by
   subst z
   obtain⟨o,C,l,_⟩:=p.isList
   obtain⟨o',m,L,_⟩:=hit
   rw[C]at m;cases m;rw[l]at L;exact absurd L (by decide)
  have D:=rD (prog:=X.prog) (w:=X.w) (A:=X.A.in1) (show X.A.in1.handled=none from I.ok.hd Z) it a r f.toArray
  obtain⟨f0,f1,f2,f3,f4,f5⟩:=O it (by simp)
  have hi:f.toArray.size=i:=by rw[aR];omega
  refine wpAny_pyNext_enum_endD D he ⟨by rw[hi];exact hit,p.isList⟩ fun h' eb=>⟨rfl,I.turned (t':=s.toks) (fun b o j e=>eb b o j e) f0 f1 f3 f4 f5⟩
 self:=fun A i s Q E st h=>let⟨old,he⟩:=st.1;nu he h
section
variable{X:Cx}{elts:List bD}{k:Nat}{tpos:Pos}
def zLO (K:aa)(ta:TA):TI:=fun σ H R=>ta σ H fun vs H1=>∃a xs,vs=[.ref a]/\H1 a=some (.lst xs)/\R (g7 K a) H1
theorem zGF {e:bD}{i:TA}{p pos:Pos}(l:Gl X "enumerate")(m:X.mg "enumerate"=none)(o:PA X [e] i)(v:starEach [e] X.env=[(false,eval e X.env)]:=by rfl):PI X (.Tuple elts k tpos) (.Call (.Name "enumerate" p) [e] [] pos) (zLO X.K i):=by
 intro c s σ H R I h
 refine Call_ (kA I l m boot_enumerate (cJ (zG (o pos c s σ H _ I h) fun us d zq=>?_) v rfl))
 obtain⟨vs,j,g,w,x⟩:=zq
 obtain⟨a,xs,rfl,hl,q⟩:=x
 obtain⟨u,rfl,y⟩:=jD w
 cases y
 obtain⟨z,A,n,r,B⟩:=g.hok a _ hl
 refine call_enumerate_1 B fun h' he hit hsz C=>?_
 have D:Inv X c σ j {d with heap:=h'}:=g.kept (t':=d.toks) C
 refine nu he ⟨_,[d.heap.objs.size+1,d.heap.objs.size],_,_,j,rfl,D,zLN a _ _ (Nat.succ_ne_self _),⟨⟨_,he⟩,hit⟩,fun b E=>?_,q⟩
 have f:d.heap.objs.size<=b:=by
  rcases aD.mp E with z|z
  ·rw[z];exact fc _
  ·have:b=d.heap.objs.size:=by simpa using z
   rw[this];exact aw _
 exact g.fpOk f (g.hok.fresh f)
theorem zLP {K:aa}{a:ai}{xs:List V}{g:TG}{o:TS}{D:Ends}{σ:St}{H:Hp}(Pv:Nat->St->Hp->Prop)(r:Pv 0 σ H)(s:∀i σ H,i<=xs.length->Pv i σ H->z7 K H a xs)
  (c:∀(i:Nat) (x:V) (T:ai) (σ:St) (H:Hp) (f:St->Hp->Prop),(∀b H',Pv (i+1) b H'->f b H')->xs[i]?=some x->Pv i σ H->H T=none->g (.ref T) σ (upd H T (.tup [.int i,x])) fun h d=>o {D with nx:=f,ct:=f,bk:=D.nx} h d)
  (fin:∀σ H,Pv xs.length σ H->D.nx σ H) :
  ∃W:Nat->Nat->St->Hp->Prop,(∃m,W 0 m σ H)/\∀i m σ H,W i m σ H->
   ((g7 K a).stop i H/\D.nx σ H)\/((g7 K a).go i H/\∃N:St->Hp->Prop,(∀b H',N b H'->∃q,q<m/\W (i+1) q b H')/\∀x H',(g7 K a).yld i H x H'->g x σ H' fun h d=>o {D with nx:=N,ct:=N,bk:=D.nx} h d):=by
 refine⟨fun i m σ H=>i<=xs.length/\m=xs.length-i/\Pv i σ H,⟨xs.length,bh _,rfl,r⟩,?_⟩
 rintro i m σ H ⟨hi,rfl,pv⟩
 have j:=s i σ H hi pv
 by_cases e:i=xs.length
 ·subst e
  exact .inl ⟨⟨xs,j,rfl⟩,fin σ H pv⟩
 ·have l:i<xs.length:=by omega
  refine .inr ⟨⟨xs,xs[i],j,ao l⟩,Pv (i+1),fun b H' p=>⟨xs.length- (i+1),by omega,by omega,rfl,p⟩,fun x d n=>?_⟩
  obtain⟨T,y,rfl,u,rfl,v⟩:=n
  exact c i y T σ H (Pv (i+1)) (fun _ _ p=>p) (v xs j) pv u
end
end L2
end
section
set_option autoImplicit false
namespace Kn
abbrev S:=List Nat
section
variable{κ α:Type} [DecidableEq κ]
def zQ:List (κ×α)->κ->α->List (κ×α)
 | [],k,v=>[(k,v)]
 |(k',v')::r,k,v=>if k'=k then(k',v)::r else(k',v')::zQ r k v
def zL:List (κ×α)->κ->Option α
 | [],_=>none
 |(k',v')::r,k=>if k'=k then some v' else zL r k
theorem g9 (l:List (κ×α))(k a:κ)(v:α):zL (zQ l k v) a=if k=a then some v else zL l a:=by
 induction l with
 |nil=>simp[zQ,zL]
 |cons p r ih=>
  obtain⟨k0,v0⟩:=p
  by_cases h:k0=k
  ·subst h
   by_cases h':k0=a<;>simp[zQ,zL,h']
  ·simp only[zQ,if_neg h,zL,ih]
   by_cases b:k0=a
   ·subst b
    rw[if_pos rfl,if_pos rfl,if_neg (fun e=>h e.symm)]
   ·rw[if_neg b,if_neg b]
theorem zLQ (l:List (κ×α))(k:κ)(v:α):(zQ l k v).map (·.1)=if k∈l.map (·.1)then l.map (·.1)else l.map (·.1)++[k]:=by
 induction l with
 |nil=>simp[zQ]
 |cons p r ih=>
  obtain⟨k0,v0⟩:=p
  by_cases h:k0=k
  ·subst h;simp[zQ]
  ·have h':¬k=k0:=fun e=>h e.symm
   simp only[zQ,if_neg h,aP,ih,aD,h',false_or]
   split<;>simp
theorem zAA {l:List (κ×α)}{k:κ}{v:α}(h:(l.map (·.1)).Nodup):((zQ l k v).map (·.1)).Nodup:=by
 rw[zLQ]
 split
 ·exact h
 ·rename_i c
  exact nv.mpr ⟨h,by simp,fun a d b f e=>by
   have:b=k:=by simpa using f
   subst this;subst e;exact c d⟩
theorem uC {l:List (κ×α)}(h:(l.map (·.1)).Nodup)(k:κ)(v:α):(k,v)∈l↔zL l k=some v:=by
 induction l with
 |nil=>simp[zL]
 |cons p r ih=>
  obtain⟨k0,v0⟩:=p
  have a:k0∉r.map (·.1):=(bI.mp h).1
  have b:=ih (bI.mp h).2
  by_cases e:k0=k
  ·subst e
   have g:zL ((k0,v0)::r) k0=some v0:=by simp[zL]
   rw[g,aD]
   constructor
   ·rintro(z|z)
    ·rw[(cx z).2]
    ·exact absurd (lQ (f:=(·.1)) z) a
   ·intro z;rw[au z];exact .inl rfl
  ·simp only[zL,if_neg e,aD,Prod.mk.injEq]
   rw[<-b]
   constructor
   ·rintro(z|z)
    ·exact absurd z.1.symm e
    ·exact z
   ·intro z;exact .inr z
theorem gF {l:List (κ×α)}{k:κ}:zL l k=none↔k∉l.map (·.1):=by
 induction l with
 |nil=>simp[zL]
 |cons p r ih=>
  obtain⟨k0,v0⟩:=p
  by_cases e:k0=k
  ·subst e;simp[zL]
  ·have a:¬k=k0:=fun z=>e z.symm
   simp only[zL,if_neg e,ih,aP,aD,a,false_or]
end
def v6 (row:List (S×Int))(l:S):List (S×Int):=zQ row l ((zL row l).getD 0+1)
def u8 (rows:List (S×List (S×Int)))(p:S×S):List (S×List (S×Int)):=zQ rows p.1 (v6 ((zL rows p.1).getD []) p.2)
def uD (ps:List (S×S)):List (S×List (S×Int)):=ps.foldl u8 []
theorem zLR (a:List (S×S))(p:S×S):uD (a++[p])=u8 (uD a) p:=by
 unfold uD;rw[iP];rfl
def z0 (t:S)(o:Nat):S:=t.drop (t.length-o)
def z3 (o:Nat)(nm:S):List (S×S):=(bP (nm.length+1)).map fun p=>(z0 (nm.take p) o,(nm.drop p).take 1)
def zD (o:Nat)(bk:List S):List (S×S):=bk.flatMap (z3 o)
structure RowsOk (ps:List (S×S)) (rows:List (S×List (S×Int))):Prop where
 nd:(rows.map (·.1)).Nodup
 ndr:∀e row,(e,row)∈rows->(row.map (·.1)).Nodup
 val:∀e l,zL ((zL rows e).getD []) l=if 0<ps.count (e,l)then some (ps.count (e,l):Int)else none
 has:∀e,(∃row,zL rows e=some row)↔∃l,(e,l)∈ps
theorem j3 (c:List (S×S)):RowsOk c (uD c):=by
 suffices h:∀(f c:List (S×S)) rows,RowsOk c rows->RowsOk (c++f) (f.foldl u8 rows) by
  have:=h c [] [] ⟨by simp,by simp,by simp[zL],by simp[zL]⟩
  simpa [uD]using this
 intro f
 induction f with
 |nil=>intro c rows h;simpa using h
 |cons q f ih=>
  intro c rows h
  obtain⟨a,b⟩:=q
  have step:RowsOk (c++[(a,b)]) (u8 rows (a,b)):=by
   have i:((((zL rows a).getD []).map (·.1))).Nodup:=by
    cases g:zL rows a with
    |none=>simp
    |some row=>exact h.ndr a row ((uC h.nd a row).mpr g)
   refine⟨zAA h.nd,fun e row j=>?_,fun e l=>?_,fun e=>?_⟩
   ·have d:=(uC (zAA h.nd) e row).mp j
    unfold u8 at d
    rw[g9]at d
    split at d
    ·have:=au d
     rw[<-this]
     exact zAA i
    ·exact h.ndr e row ((uC h.nd e row).mpr d)
   ·unfold u8
    rw[g9]
    by_cases he:a=e
    ·subst he
     rw[if_pos rfl]
     show zL (v6 ((zL rows a).getD []) b) l=_
     unfold v6
     rw[g9,h.val a b]
     by_cases hl:b=l
     ·subst hl
      rw[if_pos rfl,iQ]
      have e1:iy (a,b) [(a,b)]=1:=by simp
      rw[e1]
      by_cases m:0<iy (a,b) c
      ·simp[m]
      ·have:iy (a,b) c=0:=by omega
       simp[this]
     ·rw[if_neg hl,h.val a l,iQ]
      have e1:iy (a,l) [(a,b)]=0:=by
       simp[oo,hl]
      rw[e1,qb]
    ·rw[if_neg he]
     rw[h.val e l,iQ]
     have e1:iy (e,l) [(a,b)]=0:=by
      simp[oo,he]
     rw[e1,qb]
   ·unfold u8
    rw[g9]
    by_cases he:a=e
    ·subst he
     rw[if_pos rfl]
     exact⟨fun _=>⟨b,by simp⟩,fun _=>⟨_,rfl⟩⟩
    ·rw[if_neg he,h.has e]
     constructor
     ·rintro⟨l,hl⟩;exact⟨l,bC _ hl⟩
     ·rintro⟨l,hl⟩
      rcases bj.mp hl with z|z
      ·exact⟨l,z⟩
      ·have:(e,l)=(a,b):=by simpa using z
       exact absurd (congrArg rR this).symm he
  have:=ih (c++[(a,b)]) (u8 rows (a,b)) step
  simpa using this
def Ris {α:Type}(xs:List (S×α)):Prop:=xs.Pairwise fun a b=>a.1<b.1
theorem qM (a:S):¬a<a:=fE a
theorem zCi {a b c:S}(d:a<b)(e:b<c):a<c:=lZ d e
theorem Ris.keys {α:Type}{xs:List (S×α)}(h:Ris xs):(xs.map (·.1)).Nodup:=by
 unfold Ris at h
 rw[oU,cg]
 exact h.imp fun{a b} c (e:a.1=b.1)=>qM b.1 (e▸c)
theorem zGG {β:Type} [BEq β] [LawfulBEq β]:∀(a ks:List β),ks.Nodup->(∀x∈a,x∈ks)->(ks.map fun k=>(a.count k:Int)).sum=(a.length:Int)
 | [],ks,_,_=>by
  have:(ks.map fun k=>(([]:List β).count k:Int))=ks.map fun _=>(0:Int):=by simp
  rw[this]
  induction ks with
  |nil=>rfl
  |cons k r ih=>simp_all
 |x::a,ks,nd,h=>by
  have ih:=zGG a ks nd fun y d=>h y (az _ d)
  have no:∀(ks:List β),x∉ks->(ks.map fun k=>((x::a).count k:Int)).sum=(ks.map fun k=>(a.count k:Int)).sum:=by
   intro ks
   induction ks with
   |nil=>intro _;rfl
   |cons k r ih=>
    intro b
    have hx1:¬x=k:=fun e=>b (e▸aq ..)
    have hx2:x∉r:=fun e=>b (az _ e)
    simp only[aP,c7,ih hx2,kx hx1]
  have one:∀(ks:List β),ks.Nodup->x∈ks->(ks.map fun k=>((x::a).count k:Int)).sum=(ks.map fun k=>(a.count k:Int)).sum+1:=by
   intro ks
   induction ks with
   |nil=>intro _ b;cases b
   |cons k r ih=>
    intro nd b
    have f:=(bI.mp nd).1
    by_cases e:x=k
    ·subst e
     simp only[aP,c7,no r f,List.count_cons_self]
     omega
    ·have c:x∈r:=(aD.mp b).elim (fun z=>absurd z e) id
     simp only[aP,c7,ih (bI.mp nd).2 c,kx e]
     omega
  rw[one ks nd (h x (aq ..)),ih,aO]
  omega
theorem zLS (o:Nat)(a b:List S):zD o (a++b)=zD o a++zD o b:=by
 unfold zD;rw[lR]
theorem zAc (o:Nat)(a:List S):((zD o a).length:Int)=(a.map fun x=>(x.length:Int)+1).sum:=by
 induction a with
 |nil=>rfl
 |cons x r ih=>
  have e1:zD o (x::r)=z3 o x++zD o r:=rfl
  rw[e1,aA,aP,c7,<-ih]
  simp[z3]
end Kn
end
section
set_option autoImplicit false
namespace Kn
def vI (a b:Int):Int:=(f9 a b:Int)
def low (u d:Int):Int×Int:=(u/vI u d,d/vI u d)
structure Fq (q:Int×Int):Prop where
 up:0<=q.1
 dn:0<q.2
 co:f9 q.1 q.2=1
theorem zCj {u d:Int}(hd:0<d):0<vI u d:=by
 have:0<f9 u d:=Int.gcd_pos_iff.mpr (.inr (by omega))
 unfold vI;omega
theorem zLT (u d:Int):u=vI u d*(u/vI u d):=(lI (by unfold vI;exact nR ..)).symm
theorem zGH (u d:Int):d=vI u d*(d/vI u d):=(lI (by unfold vI;exact iR ..)).symm
theorem zBO {u d:Int}(hd:0<d):(low u d).1*d=u*(low u d).2:=by
 have c:=zLT u d
 have e:=zGH u d
 show u/vI u d*d=u*(d/vI u d)
 generalize vI u d=g at*
 generalize u/g=a at*
 generalize d/g=b at*
 rw[c,e,<-cq,ed a g]
theorem zBP {u d:Int}(c:0<=u)(hd:0<d):Fq (low u d):=by
 have b:=zCj (u:=u) hd
 refine⟨Int.ediv_nonneg c (bW b),?_,?_⟩
 ·have e:=zGH u d
  show 0<d/vI u d
  rcases Int.lt_trichotomy (d/vI u d) 0 with h|h|h
  ·have:=Int.mul_neg_of_pos_of_neg b h
   omega
  ·rw[h,Int.mul_zero]at e;omega
  ·exact h
 ·show f9 (u/vI u d) (d/vI u d)=1
  unfold vI at*
  have a:0<f9 u d:=by omega
  rw[Int.gcd_ediv (nR ..) (iR ..)]
  simp
  exact Nat.div_self a
theorem Fq.ext {p q:Int×Int}(a:Fq p)(b:Fq q)(h:p.1*q.2=q.1*p.2):p=q:=by
 obtain⟨s,u⟩:=p
 obtain⟨v,A⟩:=q
 obtain⟨f,g,i⟩:=a
 obtain⟨j,l,n⟩:=b
 dsimp only at*
 obtain⟨x,rfl⟩:=ck f
 obtain⟨y,rfl⟩:=ck (bW g)
 obtain⟨z,rfl⟩:=ck j
 obtain⟨w,rfl⟩:=ck (bW l)
 have h':x*w=z*y:=by exact_mod_cast h
 have c:qc x y=1:=by simpa [f9]using i
 have d:qc z w=1:=by simpa [f9]using n
 have o:0<y:=by omega
 have B:0<w:=by omega
 have d1:y∣w:=fO (m:=x) (by rw[qw,jt];exact c) (by rw[h'];exact nS ..)
 have r:w∣y:=fO (m:=z) (by rw[qw,jt];exact d) (by rw[<-h'];exact nS ..)
 have e:y=w:=Nat.dvd_antisymm d1 r
 subst e
 have:x=z:=Nat.eq_of_mul_eq_mul_right o h'
 rw[this]
theorem zCk {u d:Int}(a:0<=u)(hd:0<d):(low u d).2<=d/\(low u d).1<=u:=by
 have b:=zCj (u:=u) hd
 exact⟨nT _ (by omega),nT _ a⟩
def y0 (p q:Int×Int):Int×Int:=low (p.1*q.1) (p.2*q.2)
def yX (p q:Int×Int):Bool:=decide (p.1*q.2<q.1*p.2)
theorem kL {p q:Int×Int}(a:Fq p)(b:Fq q):Fq (y0 p q):=zBP (fF a.up b.up) (d0 a.dn b.dn)
theorem zCl:Fq (0,1):=⟨by decide,by decide,by decide⟩
theorem jO:Fq (1,1):=⟨by decide,by decide,by decide⟩
theorem zLU {p q:Int×Int}(a:Fq p)(b:Fq q)(d:0<p.1)(e:0<q.1):0<(y0 p q).1:=by
 have f:=kL a b
 have c:(y0 p q).1*(p.2*q.2)=(p.1*q.1)*(y0 p q).2:=zBO (d0 a.dn b.dn)
 rcases mE f.up with h|h
 ·exact h
 ·rw[<-h,qd]at c
  have g:0<p.1*q.1:=d0 d e
  have i:0<(p.1*q.1)*(y0 p q).2:=d0 g f.dn
  omega
theorem zLV {u d:Int}(a:0<u)(hd:0<d):0<(low u d).1:=by
 have f:=zBP (bW a) hd
 have c:=zBO (u:=u) hd
 rcases mE f.up with h|h
 ·exact h
 ·rw[<-h,qd]at c
  have:=d0 a f.dn
  omega
theorem zGI {u d:Int}(a:0<=u)(hd:0<d)(h:u<=d):(low u d).1<=(low u d).2:=by
 have f:=zBP a hd
 have c:=zBO (u:=u) hd
 by_cases b:(low u d).1<=(low u d).2
 ·exact b
 ·exfalso
  have e:(low u d).2+1<=(low u d).1:=by omega
  have g:((low u d).2+1)*d<=(low u d).1*d:=cZ e (bW hd)
  have i:u*(low u d).2<=d*(low u d).2:=cZ h (bW f.dn)
  rw[Int.add_mul,lJ,ed (low u d).2 d]at g
  omega
theorem zGJ {p q:Int×Int}(a:Fq p)(b:Fq q)(c:p.1<=p.2)(d:q.1<=q.2):(y0 p q).1<=(y0 p q).2 :=
 zGI (fF a.up b.up) (d0 a.dn b.dn) (iz c d b.up (bW a.dn))
theorem zGK (p:Int×Int):yX p p=false:=by simp[yX]
end Kn
end
section
set_option autoImplicit false
namespace Kn
def tot (ps:List (S×S))(e:S):Nat:=(ps.filter fun p=>p.1=e).length
def yU (ps:List (S×S))(e l:S):Int×Int:=if ps.count (e,l)=0 then(0,1)else low (ps.count (e,l):Int) (tot ps e:Int)
def qS (ps:List (S×S))(qs:List (S×S)):Int×Int:=qs.foldl (fun w p=>y0 w (yU ps p.1 p.2)) (1,1)
def z5 (ps:List (S×S))(o:Nat)(nm:S):Int×Int:=qS ps (z3 o nm)
theorem zAd (b:List (S×S))(e l:S):b.count (e,l)<=tot b e:=by
 unfold tot
 rw[<-ny (l:=b) (p:=fun p=>decide (p.1=e)) (a:=(e,l)) (by simp)]
 exact List.count_le_length
theorem gH (a:List (S×S))(e l:S):Fq (yU a e l):=by
 unfold yU
 split
 ·exact zCl
 ·have:=zAd a e l
  exact zBP (by omega) (by omega)
theorem zGL (a:List (S×S))(e l:S):(yU a e l).1<=(yU a e l).2:=by
 unfold yU
 split
 ·decide
 ·have:=zAd a e l
  exact zGI (by omega) (by omega) (by omega)
theorem zLW {a:List (S×S)}{e l:S}(h:(e,l)∈a):0<(yU a e l).1:=by
 have b:=c6.mpr h
 have:=zAd a e l
 unfold yU
 rw[if_neg (by omega)]
 exact zLV (by omega) (by omega)
theorem zGM {a:List (S×S)}(e l:S)(h:1<=a.length):(yU a e l).2<=(a.length:Int):=by
 unfold yU
 split
 ·show(1:Int)<=_;omega
 ·have b:=zAd a e l
  have c:tot a e<=a.length:=bS _ _
  have:=(zCk (u:=(a.count (e,l):Int)) (d:=(tot a e:Int)) (by omega) (by omega)).1
  omega
theorem zCm (a:List (S×S)):∀(b:List (S×S)) (w:Int×Int),Fq w->Fq (b.foldl (fun w p=>y0 w (yU a p.1 p.2)) w)
 | [],w,h=>h
 |q::b,w,h=>zCm a b _ (kL h (gH a q.1 q.2))
theorem zCn (a:List (S×S)):∀(b:List (S×S)) (w:Int×Int),Fq w->w.1<=w.2->(b.foldl (fun w p=>y0 w (yU a p.1 p.2)) w).1<=(b.foldl (fun w p=>y0 w (yU a p.1 p.2)) w).2
 | [],w,_,h=>h
 |q::b,w,f,h=>zCn a b _ (kL f (gH a q.1 q.2)) (zGJ f (gH a q.1 q.2) h (zGL a q.1 q.2))
theorem zGN (a:List (S×S)):∀(b:List (S×S)) (w:Int×Int),Fq w->0<w.1->(∀q∈b,q∈a)->0<(b.foldl (fun w p=>y0 w (yU a p.1 p.2)) w).1
 | [],w,_,h,_=>h
 |q::b,w,f,h,c=>zGN a b _ (kL f (gH a q.1 q.2)) (zLU f (gH a q.1 q.2) h (zLW (c q (aq ..)))) fun r d=>c r (az _ d)
theorem zCo {a:List (S×S)}(c:1<=a.length):∀(b:List (S×S)) (w:Int×Int) (k:Nat),Fq w->w.2<=(a.length:Int)^k->(b.foldl (fun w p=>y0 w (yU a p.1 p.2)) w).2<=(a.length:Int)^(k+b.length)
 | [],w,k,_,h=>h
 |q::b,w,k,f,h=>by
  have g:=gH a q.1 q.2
  have e:k+(q::b).length=(k+1)+b.length:=by simp;omega
  rw[e,gs]
  refine zCo c b _ (k+1) (kL f g) ?_
  have d:(y0 w (yU a q.1 q.2)).2<=w.2*(yU a q.1 q.2).2:=(zCk (fF f.up g.up) (d0 f.dn g.dn)).1
  have i:w.2*(yU a q.1 q.2).2<=(a.length:Int)^k*(a.length:Int):=iz h (zGM q.1 q.2 c) (bW g.dn) (by have:=f.dn;omega)
  rw[qe]
  omega
theorem jP (a:List (S×S))(o:Nat)(nm:S):Fq (z5 a o nm):=zCm a _ _ jO
theorem zCp (a:List (S×S))(o:Nat)(nm:S):(z5 a o nm).1<=(z5 a o nm).2:=zCn a _ _ jO (by decide)
theorem zLX {o:Nat}{bk:List S}{nm:S}(h:nm∈bk):∀q∈z3 o nm,q∈zD o bk:=fun q a=>cf.mpr ⟨nm,h,a⟩
theorem zLY {o:Nat}{bk:List S}{nm:S}(h:nm∈bk):0<(z5 (zD o bk) o nm).1:=zGN _ _ _ jO (by decide) (zLX h)
theorem zLZ (o:Nat)(nm:S):∃r,z3 o nm=(([]:S),nm.take 1)::r:=by
 unfold z3
 rw[List.range_succ_eq_map,aP]
 have e:(z0 (rN 0 nm) o,rN 1 (List.drop 0 nm))=(([]:S),nm.take 1):=by simp[z0]
 rw[e]
 exact⟨_,rfl⟩
def qN (a b:S):S:=if b<a then b else a
theorem zLa (a b:S)(c:¬a<b)(d:¬b<a):a=b:=nQ (fh.mp d) (fh.mp c)
theorem zGO (a b:S):qN a b=a\/qN a b=b:=by
 unfold qN;split
 ·exact .inr rfl
 ·exact .inl rfl
theorem zLb {p:Int×Int}:yX (0,1) p=decide (0<p.1):=by
 simp only[yX]
 congr 1
 simp
end Kn
end
section
namespace Kn
open PySem L2
theorem zX {N P:List Str}{h:eA}(a:h.kind=.function:=by rfl)(b:h.isCoroutine=false:=by rfl)(c:h.isGenerator=false:=by rfl)(d:N.Nodup:=by decide+kernel)(e:N.take P.length=P:=by rfl)(f:∀x∈P,h.names.lookup x=some .local\/h.names.lookup x=some .cell:=by decide+kernel)(g:∀y∈h.names,y.2≠.free:=by decide+kernel):FnScope N P h:=⟨a,b,c,d,e,f,g⟩
def zN (P:aB)(w:aL)(K:aa)(mg:Str->Option ae)(base:ba)(k:Nat)(x:Str)(ps:List Str)(sp:Sp):Prop :=
 ∃(f:ai) (fd:aE),FnOk P w K mg base zR k f fd ps sp/\mg x=some (.ref f)/\bU K (.ref f)=true/\vG K fd ps []
theorem zM {X:Cx}{k:Nat}{x:Str}{g:List Str}{sp:Sp}{p pos:Pos}{e:bD}{c:List bD}{t:TA}(C:zN X.prog X.w X.K X.mg X.base k x g sp)(h:Room k X.A)(i:Gl X x)(j:PA X (e::c) t)
  (l:starEach (e::c) X.env=(false,eval e X.env)::starEach c X.env:=by rfl) (a:(backTo pos (starEach c X.env)).any (·.1)=false:=by rfl)
  (d:(x==("__debug__" : Str))=false:=by decide):PE X (.Call (.Name x p) (e::c) [] pos) (jG sp [] E0 t):=by
 obtain⟨f,fd,G,m,kp,b⟩:=C
 exact zFF G h i m kp b .nil zAX j d l a
abbrev tx (x:S):Str:=⟨x.toArray⟩
abbrev sv (x:S):V:=.str (tx x)
theorem uE (x:S):(tx x).cps.toList=x:=by simp[tx]
theorem vM (x:S):(tx x).length=x.length:=by simp[tx,ir]
theorem zCq {n i:Nat}{x:V}(h:((bP n).map fun(i:Nat)=>V.int (0+(i:Int)))[i]?=some x):i<n/\x=.int i:=by
 have hi:i<n:=by
  have:=(af.mp h).1
  simpa using this
 refine⟨hi,?_⟩
 rw[ar,dS hi]at h
 have:=au h
 rw[<-this]
 show V.int (0+(i:Int))=V.int i
 rw[qf]
theorem v7 {ys:St}(h:ys.length=1):∃y,ys=[y]:=by
 cases ys with
 | nil=>simp at h
 | cons q0 q1=>cases q1 with
  | nil=>exact⟨q0,rfl⟩
  | cons=>simp at h
theorem ys2 {ys:St}(h:ys.length=2):∃y z,ys=[y,z]:=by
 cases ys with
 | nil=>simp at h
 | cons q0 q1=>cases q1 with
  | nil=>simp at h
  | cons q2 q3=>cases q3 with
   | nil=>exact⟨q0,q2,rfl⟩
   | cons=>simp at h
structure Blt (mg:Str->Option ae):Prop where
 len:mg "len"=none
 range:mg "range"=none
 all:mg "all"=none
 isinstance:mg "isinstance"=none
 str:mg "str"=none
 tuple:mg "tuple"=none
 int:mg "int"=none
 bool:mg "bool"=none
 sorted:mg "sorted"=none
 sum:mg "sum"=none
 min:mg "min"=none
section
variable{P:aB}{w:aL}{K:aa}{mg:Str->Option ae}{base:ba}
theorem zLc (t:S)(o:Nat)(b:1<=o):kK (tx t) (some (-(o:Int))) none=tx (z0 t o):=by
 unfold kK
 rw[vM,uE]
 have e1:HT.sIx t.length 0 (some (-(o:Int)))=t.length-o:=by
  show(if-(o:Int)<0 then(-(o:Int)+(t.length:Int)).toNat else _)=_
  rw[if_pos (by omega)];omega
 have a:HT.sIx t.length t.length none=t.length:=rfl
 rw[e1,a]
 unfold z0
 rw[List.take_of_length_le (by rw[eO];omega)]
theorem zLd (t:S)(p:Nat):kK (tx t) none (some (p:Int))=tx (t.take p):=by
 unfold kK
 rw[vM,uE,HT.sIx_nat]
 show tx ((t.drop 0).take (min p t.length-0))=_
 rw[ix,js,<-List.take_eq_take_min]
theorem zLe (t:S)(p:Nat):kK (tx t) (some (p:Int)) (some ((p:Int)+1))=tx ((t.drop p).take 1):=by
 unfold kK
 rw[vM,uE,HT.sIx_nat,show((p:Int)+1)=((p+1:Nat):Int)from rfl,HT.sIx_nat]
 congr 1
 by_cases h:p<t.length
 ·have e1:min p t.length=p:=by omega
  have a:min (p+1) t.length-p=1:=by omega
  rw[e1,a]
 ·have e1:min p t.length=t.length:=by omega
  rw[e1,fH (aw _),fH (by omega)]
  simp
def zCr:Sp:=fun vs H Q _=>∃(t:S) (o:Nat),vs=[sv t,.int o]/\1<=o/\t.length<=64/\Q (sv (z0 t o)) H
abbrev zCs:bY:=top 20
theorem zLf:FnScope ["text","order"] ["text","order"] (defScope zCs):=zX
theorem zLg {f:ai}{fd:aE}(F:Fun K "end_of" "end_of" zCs f fd):FnOk P w K mg base zR 1 f fd ["text","order"] zCr:=by
 refine F.ok zLf (fun vs H Q E h=>?_) (fun a A outer s H vs Q E c h=>?_)
 ·obtain⟨t,o,rfl,_⟩:=h;rfl
 ·obtain⟨t,o,rfl,b,hl,k⟩:=h
  refine⟨_,zJ (zS (zCg (pv 0) (zAR (zEq zEr (pv 1))) zCR)),?_⟩
  refine⟨_,rfl,_,rfl,_,rfl,_,rfl,_,rfl,?_,?_⟩
  ·rw[vM,bg];omega
  ·rw[zLc t o b];exact k
def pr (o:Nat)(t:S)(p:Nat):S×S:=(z0 (t.take p) o,(t.drop p).take 1)
def gI (p:S×S):bN:=.tuple [.str (tx p.1),.str (tx p.2)]
def zCt (K:aa):Sp:=fun vs H Q _=>∃(t:S) (o:Nat),vs=[sv t,.int o]/\1<=o/\t.length<=64/\∀a xs H',zB H H'->H a=none->H' a=some (.lst xs)->Reps K H' ((z3 o t).map gI) xs->Q (.ref a) H'
abbrev zCu:bY:=top 21
theorem zLh:FnScope ["name","order"] ["name","order"] (defScope zCu):=zX
theorem zLi:(["name","order","place"]:List Str).Nodup:=by decide+kernel
theorem zLj {f:ai}{fd:aE}(F:Fun K "ends_and_letters" "ends_and_letters" zCu f fd)(B:Blt mg)(d:zN P w K mg base 1 "end_of" ["text","order"] zCr):FnOk P w K mg base zR 2 f fd ["name","order"] (zCt K):=by
 refine F.ok zLh (fun vs H Q E h=>?_) (fun q A outer s H vs Q E r h=>?_)
 ·obtain⟨t,o,rfl,_⟩:=h;rfl
 ·obtain⟨t,o,rfl,u,hl,k⟩:=h
  refine⟨_,zJ (zS (vX (N:=["name","order","place"]) (caps:=[0,1]) rfl (vP (by kernel_rfl))
   (zAw rfl B.range (zA (zT vA (yF zBE (by rfl) B.len bQ (zA (pv 0) zC)) zO) zC))
   (fun l C s H ex=>yC (i:=2) zLi rfl (Or.inl rfl))
   (fun l C s H ex=>uX)
   (fun l C s H ex=>jY (zA (zM d r rfl (zA (zCg (pv 0) zCR (zAR (pv 2))) (zA (pv 1) zC)))
    (zA (zCg (pv 0) (zAR (pv 2)) (zAR (zT vA (pv 2) zO))) zC))))),?_⟩
  refine⟨_,rfl,_,rfl,?_,_,_,rfl,rfl,_,rfl,?_,?_,?_⟩
  ·rw[vM,bg];omega
  ·rw[vM];omega
  ·rw[vM];omega
  have v:((tx t).length:Int)+1=((t.length+1:Nat):Int):=by rw[vM];rfl
  have b:(((tx t).length:Int)+1).toNat=t.length+1:=by rw[v];rfl
  refine uY (zAa 0 _) [some (sv t),some (.int o)] 1 (by rw[aj,cj,b];omega) (fun i a H'=>zB H H'/\a.length=i/\Reps K H' (((bP i).map (pr o t)).map gI) a)
   ⟨zB.refl H,rfl,rfl⟩ (fun i a H' _ h=>⟨trivial,d5 h.2.1⟩) ?_ ?_
  ·rintro i x a H' ys I z m G ⟨c,e,g⟩
   obtain⟨y,rfl⟩:=v7 G
   rw[b]at m
   obtain⟨hi,rfl⟩:=zCq m
   refine⟨_,rfl,_,rfl,_,rfl,_,rfl,(by rw[vM,bg];omega),_,rfl,t.take i,o,(by rw[zLd];rfl),u,(by rw[aX];omega),?_⟩
   refine⟨_,rfl,_,rfl,_,rfl,_,rfl,_,_,rfl,rfl,_,rfl,_,rfl,(by rw[vM,bg];omega),?_⟩
   refine⟨by show 2<=sizeLine;decide,fun p n=>z _ _ [some (.int i)] rfl ⟨c.upd_new (c.free n),by rw[aA,e];rfl,?_⟩⟩
   rw[eC,aJ,aJ]
   refine Reps.append (Reps.same (zB.upd1 n) _ _ g) (Reps.one ⟨p,_,rfl,.of zI,?_⟩)
   rw[zLe]
   exact⟨_,_,rfl,rfl,_,_,rfl,rfl,rfl⟩
  ·rintro a H' ⟨c,e,g⟩ D j
   refine k D a _ (c.upd_new (c.free j)) (c.free j) zI (Reps.same (zB.upd1 j) _ _ ?_)
   rw[aj,cj,b]at g
   exact g
def yE (x:S):Prop:=1<=x.length/\x.length<=8/\∀c∈x,97<=c/\c<=122
def letters:Str:=⟨#[97,98,99,100,101,102,103,104,105,106,107,108,109,110,111,112,113,114,115,116,117,118,119,120,121,122]⟩
theorem zLk {c:Nat}(h:97<=c/\c<=122):(c8 letters ⟨#[c]⟩ 0 letters.length 1).isEmpty=false:=by
 have all:∀d:_root_.Fin 26,(c8 letters ⟨#[97+d.val]⟩ 0 letters.length 1).isEmpty=false:=by decide+kernel
 have:=all ⟨c-97,by omega⟩
 have e:97+(c-97)=c:=by omega
 simpa [e]using this
structure Cst (K:aa) (mg:Str->Option ae):Prop where
 letters:∃t,mg "LETTERS"=some (.str letters t)
 ml:∃t,mg "MOST_LETTERS"=some (.int 8 t)
 mn:∃t,mg "MOST_NAMES"=some (.int 8 t)
 mo:∃t,mg "MOST_ORDER"=some (.int 3 t)
 ib:br K (.type "int") (.type "bool")=some false
def zBQ:Sp:=fun vs H Q _=>∃x:S,vs=[sv x]/\yE x/\∀H',zB H H'->Q (.bl true) H'
abbrev zBR:bY:=top 12
theorem zGP:FnScope ["thing"] ["thing"] (defScope zBR):=zX
theorem nd1:(["letter"]:List Str).Nodup:=by decide+kernel
theorem zLl {f:ai}{fd:aE}(F:Fun K "is_name" "is_name" zBR f fd)(B:Blt mg)(C:Cst K mg):FnOk P w K mg base zR 1 f fd ["thing"] zBQ:=by
 obtain⟨r,hl⟩:=C.letters
 obtain⟨u,l⟩:=C.ml
 refine F.ok zGP (fun vs H Q E h=>?_) (fun m A outer s H vs Q E z h=>?_)
 ·obtain⟨t,rfl,_⟩:=h;rfl
 ·obtain⟨x,rfl,⟨G,I,n⟩,k⟩:=h
  refine⟨_,zH (yR (PW.pt (kG (vL (vC (yF jM (by rfl) B.isinstance bq (zA (pv 0) (zA (jB (v:=.ty "str") (by rfl) B.str ky rfl) zC)))))
    (kB (vL (zBA qH qH zO (yF zBE (by rfl) B.len bQ (zA (pv 0) zC)) (uL (v:=.int 8) (by rfl) l ⟨_,rfl⟩))))))
    (zJ (zS uV)) yQ)
   (zJ (zS (yF (zAZ rfl) (by rfl) B.all dE (zA (vX (N:=["letter"]) (caps:=[]) rfl (vP (by kernel_rfl)) (zFz (pv 0))
    (fun j C s H ex=>yC (i:=0) nd1 rfl (Or.inl rfl)) (fun j C s H ex=>uX)
    (fun j C s H ex=>jC zEx (pv 0) (uL (v:=.str letters) (by rfl) hl ⟨_,rfl⟩) (by with_unfolding_all rfl))) zC)))),?_⟩
  refine⟨_,rfl,_,_,_,true,rfl,.str _,(by rfl),_,rfl,?_⟩
  refine yJ ?_
  refine⟨_,rfl,_,rfl,(by rw[vM,bg];omega),_,_,rfl,rfl,_,rfl,?_⟩
  refine uB (by rw[vM];omega) ⟨_,_,rfl,rfl,_,rfl,gC (by rw[vM];omega) ?_⟩
  refine⟨_,rfl,_,rfl,?_⟩
  refine uY (zGC (tx x)) [] 1 (by rw[aj,uE];omega) (fun i a H'=>zB H H'/\a=aS i (.bl true)) ⟨zB.refl H,rfl⟩ (fun i a H' _ h=>⟨trivial,by rw[h.2];simp⟩) ?_ ?_
  ·rintro i y a H' ys J o b p ⟨d,rfl⟩
   obtain⟨L,rfl⟩:=v7 p
   rw[ar,uE]at b
   cases e:x[i]? with
   |none=>rw[e]at b;cases b
   |some c=>
    rw[e]at b
    have g:y=.str ⟨#[c]⟩:=(au b).symm
    subst g
    refine⟨_,rfl,_,_,rfl,rfl,?_⟩
    rw[zLk (n c (aF e))]
    exact o _ _ [some (.str ⟨#[c]⟩)] rfl ⟨d,by rw[gj];rfl⟩
  ·rintro a H' ⟨d,rfl⟩ D q
   refine⟨D,aS _ true,rfl,.of (by rw[zI,iA]),?_⟩
   have:(aS ((tx x).cps.toList.map fun c=>V.str ⟨#[c]⟩).length true).all id=true:=by simp
   rw[this]
   exact k _ (d.upd_new (d.free q))
def zE (bk:List S):List V:=bk.map sv
structure isBk (bk:List S):Prop where
 lo:1<=bk.length
 hi:bk.length<=8
 nm:∀x∈bk,yE x
def zGQ:Sp:=fun vs H Q _=>∃(a:ai) (bk:List S),vs=[.ref a]/\H a=some (.tup (zE bk))/\isBk bk/\∀H',zB H H'->Q (.bl true) H'
abbrev zBS:bY:=top 13
theorem zGR:FnScope ["thing"] ["thing"] (defScope zBS):=zX
theorem nd2:(["name"]:List Str).Nodup:=by decide+kernel
theorem zLm {f:ai}{fd:aE}(F:Fun K "is_book" "is_book" zBS f fd)(B:Blt mg)(C:Cst K mg)(d:zN P w K mg base 1 "is_name" ["thing"] zBQ):FnOk P w K mg base zR 2 f fd ["thing"] zGQ:=by
 obtain⟨I,p⟩:=C.mn
 refine F.ok zGR (fun vs H Q E h=>?_) (fun q A outer s H vs Q E r h=>?_)
 ·obtain⟨a,bk,rfl,_⟩:=h;rfl
 ·obtain⟨a,bk,rfl,j,⟨J,L,u⟩,k⟩:=h
  refine⟨_,zH (yR (PW.pt (kG (vL (vC (yF jM (by rfl) B.isinstance bq (zA (pv 0) (zA (jB (v:=.ty "tuple") (by rfl) B.tuple ja rfl) zC)))))
    (kB (vL (zBA qH qH zO (yF qK (by rfl) B.len bQ (zA (pv 0) zC)) (uL (v:=.int 8) (by rfl) p ⟨_,rfl⟩))))))
    (zJ (zS uV)) yQ)
   (zJ (zS (yF (zAZ rfl) (by rfl) B.all dE (zA (vX (N:=["name"]) (caps:=[]) rfl (vP (by kernel_rfl)) (zCH (pv 0))
    (fun o C s H ex=>yC (i:=0) nd2 rfl (Or.inl rfl)) (fun o C s H ex=>uX)
    (fun o C s H ex=>zM d r rfl (zA (pv 0) zC))) zC)))),?_⟩
  refine⟨_,rfl,_,_,_,true,rfl,.tup j,(by rfl),_,rfl,?_⟩
  refine yJ ?_
  refine⟨_,rfl,_,_,rfl,.inr (.of j),_,_,rfl,rfl,_,rfl,?_⟩
  have hl:(zE bk).length=bk.length:=by simp[zE]
  refine uB (by rw[hl];omega) ⟨_,_,rfl,rfl,_,rfl,gC (by rw[hl];omega) ?_⟩
  refine⟨_,rfl,_,rfl,⟨_,.of j⟩,?_⟩
  refine uY (zCh _ a (zE bk)) [] 1 (by rw[hl];omega) (fun i b H'=>zB H H'/\b=aS i (.bl true)) ⟨zB.refl H,rfl⟩ (fun i b H' _ h=>⟨.of (h.1 _ _ j),by rw[h.2];simp⟩) ?_ ?_
  ·rintro i y b H' ys M x g z ⟨l,rfl⟩
   obtain⟨O,rfl⟩:=v7 z
   rw[zE,ar]at g
   cases e:bk[i]? with
   |none=>rw[e]at g;cases g
   |some c=>
    rw[e]at g
    have m:y=sv c:=(au g).symm
    subst m
    exact⟨_,rfl,c,rfl,u c (aF e),fun R n=>x _ _ [some (sv c)] rfl ⟨l.trans n,by rw[gj]⟩⟩
  ·rintro b H' ⟨l,rfl⟩ D G
   refine⟨D,aS _ true,rfl,.of (by rw[zI,iA]),?_⟩
   have:(aS (zE bk).length true).all id=true:=by simp
   rw[this]
   exact k _ (l.upd_new (l.free G))
def zGS:Sp:=fun vs H Q _=>∃o a b:Nat,vs=[.int o,.int a,.int b]/\a<=o/\o<=b/\Q (.bl true) H
abbrev zBT:bY:=top 14
theorem zGT:FnScope ["thing","least","most"] ["thing","least","most"] (defScope zBT):=zX
theorem zLn {f:ai}{fd:aE}(F:Fun K "is_whole" "is_whole" zBT f fd)(B:Blt mg)(C:Cst K mg):FnOk P w K mg base zR 1 f fd ["thing","least","most"] zGS:=by
 refine F.ok zGT (fun vs H Q E h=>?_) (fun c A outer s H vs Q E d h=>?_)
 ·obtain⟨o,a,b,rfl,_⟩:=h;rfl
 ·obtain⟨o,a,b,rfl,g,i,k⟩:=h
  refine⟨_,zH (yR (PW.pt (kG (vL (vC (yF jM (by rfl) B.isinstance bq (zA (pv 0) (zA (jB (v:=.ty "int") (by rfl) B.int kz rfl) zC)))))
    (kB (vC (yF jM (by rfl) B.isinstance bq (zA (pv 0) (zA (jB (v:=.ty "bool") (by rfl) B.bool ju rfl) zC)))))))
    (zJ (zS uV)) yQ)
   (zJ (zS (zFA qH qH (pv 1) (pv 0) (pv 2)))),?_⟩
  refine⟨_,rfl,_,_,_,true,rfl,.int _,(by rfl),_,rfl,?_⟩
  refine yJ ?_
  refine⟨_,rfl,_,_,_,false,rfl,.int _,C.ib,_,rfl,?_⟩
  refine yJ ?_
  refine⟨_,rfl,_,rfl,_,_,rfl,rfl,_,rfl,?_⟩
  refine uB (by omega) ⟨_,rfl,_,_,rfl,rfl,?_⟩
  have e:decide ((o:Int)<=b)=true:=decide_eq_true (by omega)
  show Q (.bl (decide ((o:Int)<=b))) H
  rw[e]
  exact k
def zGU:Sp:=fun vs H Q _=>∃o:Nat,vs=[.int o]/\1<=o/\o<=3/\Q (.bl true) H
abbrev zBU:bY:=top 15
theorem zGV:FnScope ["thing"] ["thing"] (defScope zBU):=zX
theorem zLo {f:ai}{fd:aE}(F:Fun K "is_order" "is_order" zBU f fd)(C:Cst K mg)(a:zN P w K mg base 1 "is_whole" ["thing","least","most"] zGS):FnOk P w K mg base zR 2 f fd ["thing"] zGU:=by
 obtain⟨i,b⟩:=C.mo
 refine F.ok zGV (fun vs H Q E h=>?_) (fun c A outer s H vs Q E d h=>?_)
 ·obtain⟨o,rfl,_⟩:=h;rfl
 ·obtain⟨o,rfl,e,g,k⟩:=h
  refine⟨_,zJ (zS (zM a d rfl (zA (pv 0) (zA zO (zA (uL (v:=.int 3) (by rfl) b ⟨_,rfl⟩) zC))))),?_⟩
  exact⟨_,rfl,o,1,3,rfl,e,g,k⟩
def zAe:Sp:=fun vs H Q _=>∃(a:ai) (bk:List S),vs=[.ref a]/\H a=some (.tup (zE bk))/\isBk bk/\∀H',zB H H'->Q .non H'
abbrev zBV:bY:=top 16
theorem zGW:FnScope ["thing"] ["thing"] (defScope zBV):=zX
theorem zLp {f:ai}{fd:aE}(F:Fun K "need_book" "need_book" zBV f fd)(c1:zN P w K mg base 2 "is_book" ["thing"] zGQ):FnOk P w K mg base zR 3 f fd ["thing"] zAe:=by
 refine F.ok zGW (fun vs H Q E h=>?_) (fun b A outer s H vs Q E c h=>?_)
 ·obtain⟨a,bk,rfl,_⟩:=h;rfl
 ·obtain⟨a,bk,rfl,d,e,k⟩:=h
  refine⟨_,zJ (yR (vL (vC (zM c1 c rfl (zA (pv 0) zC)))) (zJ gQ) yQ),?_⟩
  exact⟨_,rfl,a,bk,rfl,d,e,fun H' g=>⟨true,rfl,yJ (k H' g)⟩⟩
def zAB:Sp:=fun vs H Q _=>∃o:Nat,vs=[.int o]/\1<=o/\o<=3/\Q .non H
abbrev zBW:bY:=top 18
theorem zGX:FnScope ["thing"] ["thing"] (defScope zBW):=zX
theorem zLq {f:ai}{fd:aE}(F:Fun K "need_order" "need_order" zBW f fd)(c1:zN P w K mg base 2 "is_order" ["thing"] zGU):FnOk P w K mg base zR 3 f fd ["thing"] zAB:=by
 refine F.ok zGX (fun vs H Q E h=>?_) (fun a A outer s H vs Q E b h=>?_)
 ·obtain⟨o,rfl,_⟩:=h;rfl
 ·obtain⟨o,rfl,c,d,k⟩:=h
  refine⟨_,zJ (yR (vL (vC (zM c1 b rfl (zA (pv 0) zC)))) (zJ gQ) yQ),?_⟩
  exact⟨_,rfl,o,rfl,c,d,true,rfl,yJ k⟩
def qT:Sp:=fun vs H Q _=>∃x:S,vs=[sv x]/\yE x/\∀H',zB H H'->Q .non H'
abbrev zCv:bY:=top 19
theorem zLr:FnScope ["thing"] ["thing"] (defScope zCv):=zX
theorem zLs {f:ai}{fd:aE}(F:Fun K "need_name" "need_name" zCv f fd)(c1:zN P w K mg base 1 "is_name" ["thing"] zBQ):FnOk P w K mg base zR 2 f fd ["thing"] qT:=by
 refine F.ok zLr (fun vs H Q E h=>?_) (fun a A outer s H vs Q E b h=>?_)
 ·obtain⟨x,rfl,_⟩:=h;rfl
 ·obtain⟨x,rfl,c,k⟩:=h
  refine⟨_,zJ (yR (vL (vC (zM c1 b rfl (zA (pv 0) zC)))) (zJ gQ) yQ),?_⟩
  exact⟨_,rfl,x,rfl,c,fun H' d=>⟨true,rfl,yJ (k H' d)⟩⟩
end
theorem kM {a b:S}(h:tx a=tx b):a=b:=by
 have:=congrArg (fun z:Str=>z.cps.toList) h
 simpa [tx]using this
section
variable{α:Type}
def vD (f:α->V)(l:List (S×α)):List (zU×V):=gE (l.map fun p=>(tx p.1,f p.2))
theorem gJ (f:α->V)(p:S×α)(l:List (S×α)):vD f (p::l)=((Sum.inr (tx p.1):zU),f p.2)::vD f l:=rfl
theorem zAf (f:α->V)(l:List (S×α)):(vD f l).length=l.length:=by simp[vD,gE]
theorem zAC {a b:S}:((Sum.inr (tx a):zU)=Sum.inr (tx b))↔a=b:=⟨fun h=>kM (iK h),fun h=>by rw[h]⟩
theorem j4 (f:α->V)(l:List (S×α))(k:S):yW (vD f l) (Sum.inr (tx k))=(zL l k).map f:=by
 induction l with
 |nil=>rfl
 |cons p r ih=>
  rw[gJ]
  by_cases e:p.1=k
  ·rw[zAU (zAC.mpr e)]
   obtain⟨a,b⟩:=p
   have c:a=k:=e
   subst c
   simp[zL]
  ·rw[zAV (fun z=>e (zAC.mp z)),ih]
   obtain⟨a,b⟩:=p
   have c:¬a=k:=e
   simp[zL,c]
theorem zLt (f:α->V)(l:List (S×α))(k:S):((vD f l).any fun a=>decide (a.1=(Sum.inr (tx k):zU)))=decide (k∈l.map (·.1)):=by
 induction l with
 |nil=>rfl
 |cons p r ih=>
  rw[gJ,dN,ih]
  by_cases e:p.1=k
  ·have:decide ((Sum.inr (tx p.1):zU)=Sum.inr (tx k))=true:=decide_eq_true (zAC.mpr e)
   rw[this,mZ]
   exact(decide_eq_true (by rw[<-e];exact aq ..)).symm
  ·have:decide ((Sum.inr (tx p.1):zU)=Sum.inr (tx k))=false:=decide_eq_false (fun z=>e (zAC.mp z))
   rw[this,lY]
   congr 1
   have b:¬k=p.1:=fun z=>e z.symm
   simp[b]
theorem zCw (f:α->V)(l:List (S×α))(k:S)(v:α)(nd:(l.map (·.1)).Nodup):vO (vD f l) (Sum.inr (tx k)) (f v)=vD f (zQ l k v):=by
 unfold vO
 rw[zLt]
 by_cases c:k∈l.map (·.1)
 ·rw[if_pos (decide_eq_true c)]
  induction l with
  |nil=>cases c
  |cons p r ih=>
   obtain⟨a,b⟩:=p
   have d:=bI.mp nd
   rw[gJ,aP]
   by_cases e:a=k
   ·subst e
    have e1:zQ ((a,b)::r) a v=(a,v)::r:=by simp[zQ]
    rw[e1,gJ]
    congr 1
    ·simp
    ·have:∀q∈vD f r,(if q.1=(Sum.inr (tx a):zU)then(q.1,f v)else q)=q:=fun q h=>by
      rw[if_neg]
      intro z
      obtain⟨s,i,j⟩:=aG.mp h
      obtain⟨s',g,m⟩:=aG.mp i
      have:s.1=tx s'.1:=by rw[<-m]
      have n:q.1=(Sum.inr (tx s'.1):zU):=by rw[<-j,this]
      rw[n]at z
      exact d.1 (aG.mpr ⟨s',g,zAC.mp z⟩)
     have o:=cY this
     rw[o];simp
   ·have e1:zQ ((a,b)::r) k v=(a,b)::zQ r k v:=by simp[zQ,e]
    rw[e1,gJ]
    congr 1
    ·rw[if_neg (fun z=>e (zAC.mp z))]
    ·exact ih d.2 (by
      rcases aD.mp c with z|z
      ·exact absurd z.symm e
      ·exact z)
 ·rw[if_neg (by simpa using c)]
  clear nd
  induction l with
  |nil=>rfl
  |cons p r ih=>
   obtain⟨a,b⟩:=p
   have e:¬a=k:=fun z=>c (by rw[<-z];exact aq ..)
   have e1:zQ ((a,b)::r) k v=(a,b)::zQ r k v:=by simp[zQ,e]
   rw[e1,gJ,gJ,cu,ih fun z=>c (az _ z)]
theorem zGY {β:Type}(l:List (S×β))(k:S)(v:β):(zQ l k v).length<=l.length+1:=by
 induction l with
 |nil=>simp[zQ]
 |cons p r ih=>
  obtain⟨a,b⟩:=p
  by_cases e:a=k
  ·simp[zQ,e]
  ·simp[zQ,e];omega
theorem zLu {β γ:Type}(g:β->γ)(l:List (S×β))(k:S)(v:β):(zQ l k v).map (fun p=>(p.1,g p.2))=zQ (l.map fun p=>(p.1,g p.2)) k (g v):=by
 induction l with
 |nil=>rfl
 |cons p r ih=>
  obtain⟨a,b⟩:=p
  by_cases e:a=k
  ·simp[zQ,e]
  ·simp[zQ,e,ih]
theorem zGZ {β γ:Type}(g:β->γ)(l:List (S×β))(k:S):zL (l.map fun p=>(p.1,g p.2)) k=(zL l k).map g:=by
 induction l with
 |nil=>rfl
 |cons p r ih=>
  obtain⟨a,b⟩:=p
  by_cases e:a=k
  ·simp[zL,e]
  ·simp[zL,e,ih]
theorem zBX {β:Type}{l:List (S×β)}{k:S}{v:β}{q:S×β}(h:q∈zQ l k v):q=(k,v)\/(q∈l/\(q.1≠k\/(l.map (·.1)).Nodup->q.1≠k)):=by
 induction l with
 |nil=>simp[zQ]at h;exact .inl h
 |cons p r ih=>
  obtain⟨a,b⟩:=p
  by_cases e:a=k
  ·subst e
   have e1:zQ ((a,b)::r) a v=(a,v)::r:=by simp[zQ]
   rw[e1]at h
   rcases aD.mp h with z|z
   ·exact .inl z
   ·refine .inr ⟨az _ z,?_⟩
    rintro(w|w)
    ·exact w
    ·intro c
     exact(bI.mp w).1 (by rw[<-c];exact lQ (f:=(·.1)) z)
  ·have e1:zQ ((a,b)::r) k v=(a,b)::zQ r k v:=by simp[zQ,e]
   rw[e1]at h
   rcases aD.mp h with z|z
   ·subst z
    exact .inr ⟨aq ..,fun _=>e⟩
   ·rcases ih z with w|⟨d,g⟩
    ·exact .inl w
    ·refine .inr ⟨az _ d,?_⟩
     rintro(u|u)
     ·exact u
     ·exact g (.inr (bI.mp u).2)
theorem zCx {β:Type}(l:List (S×β))(k:S)(v:β)(h:k∉l.map (·.1)):zQ l k v=l++[(k,v)]:=by
 induction l with
 |nil=>rfl
 |cons q r ih=>
  obtain⟨a,b⟩:=q
  have e:¬a=k:=fun z=>h (by rw[<-z];exact aq ..)
  have e1:zQ ((a,b)::r) k v=(a,b)::zQ r k v:=by simp[zQ,e]
  rw[e1,ih fun z=>h (az _ z)];rfl
theorem zGa {β γ:Type}(g:β->γ)(l:List (S×β))(k:S)(v u:β)(h:zL l k=some u)(e:g v=g u):(zQ l k v).map (fun p=>(p.1,g p.2))=l.map fun p=>(p.1,g p.2):=by
 induction l with
 |nil=>cases h
 |cons p r ih=>
  obtain⟨a,b⟩:=p
  by_cases c:a=k
  ·have:b=u:=by simpa [zL,c]using h
   subst this
   simp[zQ,c,e]
  ·have h':zL r k=some u:=by simpa [zL,c]using h
   simp[zQ,c,ih h']
theorem zCy (d:List (S×S)):(uD d).length<=d.length/\∀r∈uD d,r.2.length<=d.length:=by
 have key:∀(c:List (S×S)) (rows:List (S×List (S×Int))) (n:Nat),(rows.length<=n/\∀r∈rows,r.2.length<=n)->(c.foldl u8 rows).length<=n+c.length/\∀r∈c.foldl u8 rows,r.2.length<=n+c.length:=by
  intro c
  induction c with
  |nil=>intro rows n h;simpa using h
  |cons q c ih=>
   intro rows n h
   have:=ih (u8 rows q) (n+1) ⟨?_,fun r j=>?_⟩
   ·rw[gs,aO]
    have e:n+(c.length+1)=n+1+c.length:=by omega
    rw[e];exact this
   ·have:=zGY rows q.1 (v6 ((zL rows q.1).getD []) q.2)
    unfold u8;omega
   ·rcases zBX j with e|⟨e,_⟩
    ·rw[e]
     have l:=zGY ((zL rows q.1).getD []) q.2 ((zL ((zL rows q.1).getD []) q.2).getD 0+1)
     have o:((zL rows q.1).getD []).length<=n:=by
      cases g:zL rows q.1 with
      |none=>simp
      |some row=>
       have m:(q.1,row)∈rows:=by
        clear h j e l
        induction rows with
        |nil=>cases g
        |cons p r f=>
         obtain⟨a,b⟩:=p
         by_cases i:a=q.1
         ·have:b=row:=by simpa [zL,i]using g
          subst this;subst i
          exact aq ..
         ·exact az _ (f (by simpa [zL,i]using g))
       exact h.2 _ m
     show(v6 _ _).length<=_
     unfold v6;omega
    ·have:=h.2 r e;omega
 have:=key d [] 0 ⟨aw _,by simp⟩
 simpa [uD]using this
end
abbrev yT (row:List (S×Int)):List (zU×V):=vD V.int row
structure RA (H0 H:Hp) (d:ai) (ps:List (S×S)) (ra:List (S×ai×List (S×Int))):Prop where
 rows:ra.map (fun r=>(r.1,r.2.2))=uD ps
 top:H d=some (.dK (vD (fun v:ai×List (S×Int)=>V.ref v.1) ra))
 row:∀r∈ra,H r.2.1=some (.dK (yT r.2.2))
 new:∀r∈ra,H0 r.2.1=none/\r.2.1≠d
 nda:(ra.map fun r=>r.2.1).Nodup
def vE (H:Hp)(d:ai)(ps:List (S×S)):Prop:=∃ra:List (S×ai×List (S×Int)),ra.map (fun r=>(r.1,r.2.2))=uD ps/\H d=some (.dK (vD (fun v:ai×List (S×Int)=>V.ref v.1) ra))/\∀r∈ra,H r.2.1=some (.dK (yT r.2.2))
theorem vE.same {H H':Hp}{d:ai}{a:List (S×S)}(h:vE H d a)(e:zB H H'):vE H' d a:=by
 obtain⟨b,c,f,g⟩:=h
 exact⟨b,c,e _ _ f,fun r i=>e _ _ (g r i)⟩
section
variable{P:aB}{w:aL}{K:aa}{mg:Str->Option ae}{base:ba}
def zBY:Sp:=fun vs H Q _=>∃(a:ai) (bk:List S) (o:Nat),vs=[.ref a,.int o]/\H a=some (.tup (zE bk))/\bk.length<=8/\(∀x∈bk,x.length<=8)/\1<=o/\∀d H',zB H H'->H d=none->vE H' d (zD o bk)->Q (.ref d) H'
abbrev zCz:bY:=top 22
theorem zGb:FnScope ["book","order","rows","name","end","letter","row"] ["book","order"] (defScope zCz):=zX
theorem zDA {c H:Hp}{d:ai}{a:List (S×S)}{b:List (S×ai×List (S×Int))}(R:RA c H d a b):(b.map (·.1)).Nodup:=by
 have h:=(j3 a).nd
 rw[<-R.rows,aV]at h
 exact h
theorem RA.step {s H q:Hp}{d ad:ai}{A:List (S×S)}{c:List (S×ai×List (S×Int))}(R:RA s H d A c)(p:S×S)(row:List (S×Int))(n:row=((zL c p.1).map (·.2)).getD [])
  (l:∀v,zL c p.1=some v->v.1=ad) (f:zL c p.1=none->s ad=none/\ad≠d/\ad∉c.map fun r=>r.2.1)
  (D:q ad=some (.dK (yT (v6 row p.2)))) (E:q d=some (.dK (vD (fun v:ai×List (S×Int)=>V.ref v.1) (zQ c p.1 (ad,v6 row p.2))))) (F:∀r∈c,r.2.1≠ad->q r.2.1=some (.dK (yT r.2.2))) :
  RA s q d (A++[p]) (zQ c p.1 (ad,v6 row p.2)):=by
 have nd:=zDA R
 have h:∀v,zL c p.1=some v->(p.1,v)∈c:=fun v u=>(uC nd p.1 v).mpr u
 have x:∀r∈c,r.1≠p.1->r.2.1≠ad:=fun r m y e=>by
  cases g:zL c p.1 with
  |none=>exact(f g).2.2 (aG.mpr ⟨r,m,e⟩)
  |some v=>
   have u:=h v g
   have ev:=l v g
   have:r=(p.1,v):=by
    obtain⟨i,hi,B⟩:=dR m
    obtain⟨j,G,C⟩:=dR u
    have z:i=j:=by
     refine(fV (xs:=c.map fun r=>r.2.1) (h₀:=by simpa using hi) (h₁:=by simpa using G) R.nda).mp ?_
     rw[fY,fY,B,C]
     show r.2.1=v.1
     rw[e,ev]
    subst z
    rw[<-B,<-C]
   exact y (by rw[this])
 refine⟨?_,E,fun r m=>?_,fun r m=>?_,?_⟩
 ·rw[zLR,<-R.rows]
  unfold u8
  have e:=zLu (fun v:ai×List (S×Int)=>v.2) c p.1 (ad,v6 row p.2)
  rw[e]
  have o:=zGZ (fun v:ai×List (S×Int)=>v.2) c p.1
  rw[o,<-n]
 ·rcases zBX m with e|⟨e,I⟩
  ·rw[e];exact D
  ·exact F r e (x r e (I (.inr nd)))
 ·rcases zBX m with e|⟨e,_⟩
  ·rw[e]
   cases g:zL c p.1 with
   |none=>exact⟨(f g).1,(f g).2.1⟩
   |some v=>
    have:=R.new _ (h v g)
    rw[<-l v g];exact this
  ·exact R.new r e
 ·cases g:zL c p.1 with
  |none=>
   have J:p.1∉c.map (·.1):=gF.mp g
   have e:=zCx c p.1 (ad,v6 row p.2) J
   rw[e,aJ]
   refine nv.mpr ⟨R.nda,by simp,fun a L b M o=>?_⟩
   have:b=ad:=by simpa using M
   exact(f g).2.2 (by rw[<-this,<-o];exact L)
  |some v=>
   have e:=zGa (fun v:ai×List (S×Int)=>v.1) c p.1 (ad,v6 row p.2) v g (l v g).symm
   have o:(zQ c p.1 (ad,v6 row p.2)).map (fun r=>r.2.1)=c.map fun r=>r.2.1:=by
    have:=congrArg (qv nz) e
    rw[aV,aV]at this
    exact this
   rw[o];exact R.nda
def jQ (H H':Hp):Prop:=∀b o,H b=some o->(∀kvs,o≠.dK kvs)->H' b=some o
theorem jQ.upd {H:Hp}{a:ai}{kvs:List (zU×V)}{u:HO}(h:H a=some (.dK kvs)):jQ H (upd H a u):=fun b o e c=>by
 rw[zF]
 ·exact e
 ·rintro rfl;rw[h]at e;exact c kvs (au e).symm
theorem jQ.sqL {H H':Hp}(e:jQ H H'){a:ai}{xs:List V}(h:z7 K H a xs):z7 K H' a xs:=by
 rcases h with(h|⟨o,h⟩)|h
 ·exact .inl (.inl (e _ _ h (by intro z w;cases w)))
 ·exact .inl (.inr ⟨o,e _ _ h (by intro z w;cases w)⟩)
 ·exact .inr h
theorem jQ.sqT {H H':Hp}(e:jQ H H'){a:ai}{xs:List V}(h:yH K H a xs):yH K H' a xs:=by
 rcases h with(h|⟨o,h⟩)|h
 ·exact .inl (.inl (e _ _ h (by intro z w;cases w)))
 ·exact .inl (.inr ⟨o,e _ _ h (by intro z w;cases w)⟩)
 ·exact .inr h
mutual
theorem yZ.sameQ {H H':Hp}(e:jQ H H'):∀(d:bN) (v:V),yZ K H d v->yZ K H' d v
 | .none,v,h=>h
 | .bool b,v,h=>h
 | .int i,v,h=>h
 | .str x,v,h=>h
 | .list c,v,h=>by
  obtain⟨a,xs,f,g,j⟩:=h
  exact⟨a,xs,f,e.sqL g,Reps.sameQ e c xs j⟩
 | .tuple c,v,h=>by
  obtain⟨a,xs,f,g,j⟩:=h
  exact⟨a,xs,f,e.sqT g,Reps.sameQ e c xs j⟩
 | .dict _,v,h=>h
theorem Reps.sameQ {H H':Hp}(e:jQ H H'):∀(a:List bN) (xs:List V),Reps K H a xs->Reps K H' a xs
 | [],xs,h=>h
 |d::a,xs,h=>by
  obtain⟨y,ys,b,c,f⟩:=h
  exact⟨y,ys,b,yZ.sameQ e d y c,Reps.sameQ e a ys f⟩
end
theorem zLv {β:Type}(g:β->V)(l:List (S×β))(k:S)(v u:β)(h:zL l k=some u)(e:g v=g u):vD g (zQ l k v)=vD g l:=by
 have:=zGa g l k v u h e
 unfold vD
 have a:∀m:List (S×β),m.map (fun p=>(tx p.1,g p.2))=(m.map fun p=>(p.1,g p.2)).map fun q=>(tx q.1,q.2):=fun m=>by rw[aV];rfl
 rw[a,a,this]
theorem zLw {f H:Hp}{d:ai}{a:List (S×S)}{g:List (S×ai×List (S×Int))}(R:RA f H d a g){e:S}{v:ai×List (S×Int)}(h:zL g e=some v) :
  H v.1=some (.dK (yT v.2))/\(v.2.map (·.1)).Nodup/\v.2.length<=a.length/\f v.1=none/\v.1≠d:=by
 have c:=(uC (zDA R) e v).mpr h
 have b:(e,v.2)∈uD a:=by rw[<-R.rows];exact aG.mpr ⟨(e,v),c,rfl⟩
 exact⟨R.row _ c,(j3 a).ndr e v.2 b,(zCy a).2 _ b,(R.new _ c).1,(R.new _ c).2⟩
theorem zLx {f:ai}{fd:aE}(F:Fun K "counted_rows" "counted_rows" zCz f fd)(al:zN P w K mg base 2 "ends_and_letters" ["name","order"] (zCt K)):FnOk P w K mg base zR 3 f fd ["book","order"] zBY:=by
 refine F.ok zGb (fun vs H Q E h=>?_) (fun b3 A outer s H vs Q E m h=>?_)
 ·obtain⟨a,bk,o,rfl,_⟩:=h;rfl
 ·obtain⟨a,bk,o,rfl,ha,b4,aN,ho,k⟩:=h
  have hu:=uW m
  have nd:=zGb.nd
  refine⟨_,zH (zZ (i:=2) nd rfl (Or.inl rfl) zBI)
   (zH (qG cb rfl (zCH (pv 0)) (yC (i:=3) nd rfl (Or.inl rfl))
    (zJ (qG cb rfl (v3 (zM al m rfl (zA (pv 3) (zA (pv 1) zC))))
     (zAv rfl (qE (yC (i:=4) nd rfl (Or.inl rfl)) (qE (yC (i:=5) nd rfl (Or.inl rfl)) gR)))
     (zH (zZ (i:=6) nd rfl (Or.inl rfl) (zBF cG gu PySem.F.type_dict_setdefault zLJ (pv 2) (zA (pv 4) (zA zBI zC))))
      (zJ (zCV hu (pv 6) (pv 5) (zT vA (zCW hu (pv 6) (pv 5) zO ⟨rfl,rfl,rfl,rfl⟩) zO) rfl))))))
   (zJ (zS (pv 2)))),?_⟩
  intro d hd
  have s1:zB H (upd H d (.dK [])):=zB.upd1 hd
  refine⟨_,rfl,a,rfl,⟨_,.of (s1 _ _ ha)⟩,?_⟩
  refine jN (zCh K a (zE bk)) (fun i σ H'=>(∃x y z u:Option V,σ=[some (.ref a),some (.int o),some (.ref d),x,y,z,u])/\zB H H'/\∃U,RA H H' d (zD o (bk.take i)) U)
   ⟨⟨_,_,_,_,rfl⟩,s1,[],⟨rfl,zI,by simp,by simp,by simp⟩⟩ (fun i σ H' _ h=>.of (h.2.1 _ _ ha)) ?_ ?_
  ·rintro i x σ H' Nx hN hx ⟨⟨x1,x2,x3,x4,rfl⟩,sm,U,R⟩
   rw[zE,ar]at hx
   cases e:bk[i]? with
   |none=>rw[e]at hx;cases hx
   |some nm=>
   rw[e]at hx
   have a5:x=sv nm:=(au hx).symm
   subst a5
   have b9:=aN nm (aF e)
   have hi:i<bk.length:=(af.mp e).1
   have am:bk.take (i+1)=bk.take i++[nm]:=by
    rw[av hi]
    have:=(af.mp e).2
    rw[this]
   have n:zD o (bk.take (i+1))=zD o (bk.take i)++z3 o nm:=by
    rw[am,zLS];simp[zD]
   have a6:((zD o (bk.take (i+1))).length:Int)<=100:=by
    rw[zAc]
    have go:∀l:List S,(∀x∈l,x.length<=8)->(l.map fun x=>(x.length:Int)+1).sum<=9*(l.length:Int):=by
     intro l
     induction l with
     |nil=>intro _;simp
     |cons x r ih=>
      intro hl
      have h1:=hl x (aq ..)
      have h2:=ih fun y hy=>hl y (az _ hy)
      rw[aP,c7,aO]
      have:((r.length+1:Nat):Int)=(r.length:Int)+1:=rfl
      omega
    have:=go (bk.take (i+1)) fun x hx=>aN x (cn hx)
    have h3:(bk.take (i+1)).length<=8:=by rw[aX];omega
    omega
   refine⟨_,rfl,_,rfl,nm,o,rfl,ho,by omega,fun l xs Hl sml a7 W rp=>?_⟩
   refine⟨l,rfl,⟨_,.of W⟩,?_⟩
   have R1:RA H Hl d (zD o (bk.take i)) U:=⟨R.rows,sml _ _ R.top,fun r m=>sml _ _ (R.row r m),R.new,R.nda⟩
   have ca:H l=none:=sm.free a7
   have a8:l≠d:=uT W (sml _ _ R.top) (by intro z;cases z)
   refine jN (v5 K l xs) (fun j σ q=>(∃y z u:Option V,σ=[some (.ref a),some (.int o),some (.ref d),some (sv nm),y,z,u])/\zB H q/\q l=some (.lst xs)/\Reps K q ((z3 o nm).map gI) xs/\∃U,RA H q d (zD o (bk.take i)++(z3 o nm).take j) U/\∀r∈U,r.2.1≠l)
    ⟨⟨_,_,_,rfl⟩,sm.trans sml,W,rp,U,by simpa using R1,fun r m=>uT (R1.row r m) W (by intro z;cases z)⟩ (fun j σ q _ h=>.of h.2.2.1) ?_ ?_
   ·rintro j x σ q an a9 hx2 ⟨⟨y,z,u,rfl⟩,D,hl2,G,b,R2,bb⟩
    obtain⟨dd,I,rx⟩:=G.get hx2
    rw[ar]at I
    cases ep:(z3 o nm)[j]? with
    |none=>rw[ep]at I;cases I
    |some p=>
    rw[ep]at I
    have be:dd=gI p:=(au I).symm
    subst be
    obtain⟨bf,cd,rfl,bi,y1,b1,rfl,bl,y2,aW,rfl,bm,a0⟩:=rx
    have bn:y1=sv p.1:=bl
    have bo:y2=sv p.2:=bm
    have en:aW=[]:=a0
    subst bn bo en
    have hj:j<(z3 o nm).length:=(af.mp ep).1
    have a1:zD o (bk.take i)++(z3 o nm).take (j+1)=(zD o (bk.take i)++(z3 o nm).take j)++[p]:=by
     rw[av hj,(af.mp ep).2,eG]
    generalize bp:zD o (bk.take i)++(z3 o nm).take j=ps at R2 a1
    have ce:ps.length<=100:=by
     have h1:ps.length<=(zD o (bk.take (i+1))).length:=by
      rw[<-bp,n,aA,aA,aX];omega
     omega
    have b2:b.length<=100:=by
     have h1:=(zCy ps).1
     rw[<-R2.rows,aj]at h1
     omega
    refine⟨bf,[sv p.1,sv p.2],rfl,bi,rfl,_,_,rfl,_,_,rfl,rfl,?_⟩
    refine⟨_,rfl,.inr (.inr (.inl ⟨rfl,.inl ⟨_,R2.top⟩⟩)),_,rfl,fun B X=>?_⟩
    have ab:H B=none:=D.free X
    have Y:d≠B:=vK R2.top X
    have s3:zB q (upd q B (.dK [])):=zB.upd1 X
    have fin:∀(ad:ai) (row:List (S×Int)) (J:Hp),J ad=some (.dK (yT row))->(row.map (·.1)).Nodup->row.length<=100->(∀L,L=upd J ad (.dK (yT (v6 row p.2)))->an [some (.ref a),some (.int o),some (.ref d),some (sv nm),some (sv p.1),some (sv p.2),some (.ref ad)] L)->
      zFa (qQ 6) (qQ 5) (kT (kI fun i j=>V.int (i+j)) (zFf (qQ 6) (qQ 5) (tC (.int 0))) (tC (.int 1))) {nx:=an,rt:=Q,bk:=fun _ _=>False,ct:=fun _ _=>False} [some (.ref a),some (.int o),some (.ref d),some (sv nm),some (sv p.1),some (sv p.2),some (.ref ad)] J:=by
     intro ad row J c bt ch hq
     refine⟨_,rfl,ad,rfl,.inl ⟨_,.inl c⟩,_,rfl,_,yG.k (k:=Sum.inr (tx p.2)) c,(zL row p.2).getD 0,1,?_,rfl,?_⟩
     ·rw[j4]
      cases zL row p.2<;>rfl
     ·refine⟨_,rfl,_,rfl,ad,_,rfl,j1.k (k:=Sum.inr (tx p.2)) c (by rw[zAf,bg];omega),hq _ ?_⟩
      rw[zCw V.int row p.2 _ bt]
      rfl
    have C:∀(ad:ai) (row:List (S×Int)) (J L:Hp),zB H J->H ad=none->J l=some (.lst xs)->Reps K J ((z3 o nm).map gI) xs->L=upd J ad (.dK (yT (v6 row p.2)))->J ad=some (.dK (yT row))->RA H L d (ps++[p]) (zQ b p.1 (ad,v6 row p.2))->
      an [some (.ref a),some (.int o),some (.ref d),some (sv nm),some (sv p.1),some (sv p.2),some (.ref ad)] L:=by
     intro ad row J L sx bv Z bx M c RR
     have ac:ad≠l:=uT c Z (by intro z;cases z)
     subst M
     refine a9 _ _ ⟨⟨_,_,_,rfl⟩,sx.upd_new bv,by rw[zF ac.symm];exact Z,Reps.sameQ (jQ.upd c) _ _ bx,_,by rw[a1];exact RR,fun r m=>?_⟩
     rcases zBX m with e|⟨e,_⟩
     ·rw[e];exact ac
     ·exact bb r e
    have ap:upd q B (.dK []) d=some (.dK (vD (fun v:ai×List (S×Int)=>V.ref v.1) b)):=by rw[zF Y];exact R2.top
    have a2:upd q B (.dK []) l=some (.lst xs):=s3 _ _ hl2
    have a3:∀r∈b,upd q B (.dK []) r.2.1=some (.dK (yT r.2.2)):=fun r m=>s3 _ _ (R2.row r m)
    have bA:∀r∈b,r.2.1≠B:=fun r m=>vK (R2.row r m) X
    refine⟨d,_,Sum.inr (tx p.1),_,rfl,rfl,ap,by rw[zAf,bg];omega,fun yv N=>?_,fun as=>?_⟩
    ·
     rw[j4]at N
     cases g:zL b p.1 with
     |none=>rw[g]at N;cases N
     |some v=>
     rw[g]at N
     have ev:yv=.ref v.1:=(au N).symm
     subst ev
     obtain⟨r1,r2,r3,r4,r5⟩:=zLw R2 g
     have O:upd q B (.dK []) v.1=some (.dK (yT v.2)):=s3 _ _ r1
     refine fin v.1 v.2 _ O r2 (by omega) fun L M=>C v.1 v.2 _ L (D.trans s3) r4 a2 (Reps.same s3 _ _ G) M O ?_
     refine R2.step p v.2 (by rw[g];rfl) (fun v' T=>by rw[g]at T;rw[au T]) (fun hn=>by rw[g]at hn;cases hn) (by rw[M,zI]) ?_ fun r m aK=>?_
     ·rw[M,zF r5.symm,ap]
      have:=zLv (fun v:ai×List (S×Int)=>V.ref v.1) b p.1 (v.1,v6 v.2 p.2) v g rfl
      rw[this]
     ·rw[M,zF aK];exact a3 r m
    ·
     rw[j4]at as
     have g:zL b p.1=none:=by
      cases g:zL b p.1 with
      |none=>rfl
      |some v=>rw[g]at as;cases as
     have bG:=zCw (fun v:ai×List (S×Int)=>V.ref v.1) b p.1 (B,[]) (zDA R2)
     have a4:upd (upd q B (.dK [])) d (.dK (vO (vD (fun v:ai×List (S×Int)=>V.ref v.1) b) (Sum.inr (tx p.1)) (.ref B))) B=some (.dK (yT [])):=by
      rw[zF Y.symm,zI];rfl
     refine fin B [] _ a4 (by simp) (by simp) fun L M=>C B [] _ L ((D.trans s3).upd_new hd) ab (by rw[zF a8];exact a2) (Reps.sameQ (jQ.upd ap) _ _ (Reps.same s3 _ _ G)) M a4 ?_
     refine R2.step p [] (by rw[g];rfl) (fun v' T=>by rw[g]at T;cases T) (fun _=>⟨ab,Y.symm,fun hm=>?_⟩) (by rw[M,zI]) ?_ fun r m aK=>?_
     ·obtain⟨r,m,e⟩:=aG.mp hm
      exact bA r m e
     ·rw[M,zF Y,zI,bG]
      congr 2
      have hk:p.1∉b.map (·.1):=gF.mp g
      rw[zCx _ _ _ hk,zCx _ _ _ hk]
      unfold vD gE
      rw[aJ,aJ,aJ,aJ]
      rfl
     ·rw[M,zF aK,zF (R2.new r m).2];exact a3 r m
   ·rintro σ q ⟨⟨y,z,u,rfl⟩,D,hl2,G,b,R2,_⟩
    refine hN _ _ ⟨⟨_,_,_,_,rfl⟩,D,b,?_⟩
    rw[n]
    have Z:xs.length=(z3 o nm).length:=by have:=G.length;simpa using this.symm
    rw[Z,aQ]at R2
    exact R2
  ·rintro σ H' ⟨⟨x1,x2,x3,x4,rfl⟩,sm,U,R⟩
   refine⟨_,rfl,k d H' sm hd ⟨U,?_,R.top,R.row⟩⟩
   rw[R.rows]
   have:(zE bk).length=bk.length:=by simp[zE]
   rw[this,aQ]
theorem zLy {a b:Int}(c:0<=a)(d:0<b):f9 b (a%b)=f9 a b:=by
 obtain⟨x,rfl⟩:=ck c
 obtain⟨y,rfl⟩:=ck (bW d)
 have e:((x:Int)%(y:Int))=((x%y:Nat):Int):=rfl
 rw[e]
 show qc y (x%y)=qc x y
 rw[jt y (x%y),<-Nat.gcd_rec,jt]
abbrev zDB:bY:=top 26
theorem zGc:FnScope ["one","other","rest"] ["one","other"] (defScope zDB):=zX
abbrev frO (q:Int×Int):HO:=.tup [.int q.1,.int q.2]
def zGd:Sp:=fun vs H Q _=>∃u d:Int,vs=[.int u,.int d]/\0<=u/\0<d/\d<1073741824/\∀p,H p=none->Q (.ref p) (upd H p (frO (low u d)))
abbrev zDC:bY:=top 27
theorem zGe:FnScope ["up","down","divisor"] ["up","down"] (defScope zDC):=zX
structure Sm (q:Int×Int):Prop extends Fq q where
 u1:q.1<1073741824
 d1:q.2<1073741824
def yK (K:aa)(H:Hp)(v:V)(q:Int×Int):Prop:=∃a,v=.ref a/\yH K H a [.int q.1,.int q.2]
theorem yK.same {H H':Hp}{v:V}{q:Int×Int}(h:yK K H v q)(e:zB H H'):yK K H' v q:=by
 obtain⟨a,b,c⟩:=h
 exact⟨a,b,e.seqT c⟩
theorem yK.new {H:Hp}{p:ai}{q:Int×Int}:yK K (upd H p (frO q)) (.ref p) q:=⟨p,rfl,.of zI⟩
theorem yK.rep {H:Hp}{v:V}{q:Int×Int}(h:yK K H v q):yZ K H (.tuple [.int q.1,.int q.2]) v:=by
 obtain⟨a,b,c⟩:=h
 exact⟨a,_,b,c,_,_,rfl,rfl,_,_,rfl,rfl,rfl⟩
theorem yK.of_rep {H:Hp}{v:V}{q:Int×Int}(h:yZ K H (.tuple [.int q.1,.int q.2]) v):yK K H v q:=by
 obtain⟨a,xs,b,c,y,ys,rfl,d,z,e,rfl,f,g⟩:=h
 have e1:y=.int q.1:=d
 have i:z=.int q.2:=f
 have j:e=[]:=g
 subst e1 i j
 exact⟨a,b,c⟩
def zGf (K:aa):Sp:=fun vs H Q _=>∃(x y:V) (p q:Int×Int),vs=[x,y]/\yK K H x p/\yK K H y q/\Sm p/\Sm q/\p.2*q.2<1073741824/\∀a,H a=none->Q (.ref a) (upd H a (frO (y0 p q)))
def zGg (K:aa):Sp:=fun vs H Q _=>∃(x y:V) (p q:Int×Int),vs=[x,y]/\yK K H x p/\yK K H y q/\Sm p/\Sm q/\Q (.bl (yX p q)) H
abbrev zDD:bY:=top 28
abbrev zDE:bY:=top 29
theorem zLz:FnScope ["one","other"] ["one","other"] (defScope zDD):=zX
theorem zMA:FnScope ["one","other"] ["one","other"] (defScope zDE):=zX
end
theorem zMB {a:List (S×S)}{e:S}{xs:List (S×Int)}(nd:(xs.map (·.1)).Nodup)(mem:∀l n,(l,n)∈xs↔n=(a.count (e,l):Int)/\0<n):(xs.map (·.2)).sum=(tot a e:Int):=by
 have h:=zGG (a.filter fun p=>decide (p.1=e)) (xs.map fun p=>(e,p.1)) ?_ ?_
 ·unfold tot
  rw[<-h,aV]
  congr 1
  apply cY
  rintro⟨l,n⟩ b
  have:=((mem l n).mp b).1
  show n=(iy (e,l) (a.filter fun p=>decide (p.1=e)):Int)
  rw[ny (by simp)]
  exact this
 ·have:=nd
  rw[oU,cg]at this⊢
  exact this.imp fun{p q} c z=>c (congrArg nz z)
 ·rintro⟨f,l⟩ b
  obtain⟨g,i⟩:=bH.mp b
  have d:f=e:=by simpa using i
  subst d
  exact aG.mpr ⟨(l,(a.count (f,l):Int)),(mem l _).mpr ⟨rfl,by
   have:=c6.mpr g
   omega⟩,rfl⟩
def y6 (ps:List (S×S))(e:S):List (S×Int):=(zL (uD ps) e).getD []
theorem zDF (a:List (S×S))(e:S):((y6 a e).map (·.1)).Nodup:=by
 unfold y6
 cases g:zL (uD a) e with
 |none=>simp
 |some row=>exact(j3 a).ndr e row ((uC (j3 a).nd e row).mpr g)
theorem zBZ (a:List (S×S))(e l:S):zL (y6 a e) l=if 0<a.count (e,l)then some (a.count (e,l):Int)else none:=(j3 a).val e l
theorem zBa (a:List (S×S))(e l:S)(n:Int):(l,n)∈y6 a e↔n=(a.count (e,l):Int)/\0<n:=by
 rw[uC (zDF a e),zBZ]
 by_cases c:0<a.count (e,l)
 ·rw[if_pos c]
  constructor
  ·intro z
   have:=au z
   omega
  ·rintro⟨z,_⟩;rw[z]
 ·rw[if_neg c]
  constructor
  ·intro z;cases z
  ·rintro⟨b,d⟩;omega
theorem zMC (a:List (S×S))(e:S):((y6 a e).map (·.2)).sum=(tot a e:Int):=zMB (zDF a e) (zBa a e)
theorem tot_le (a:List (S×S))(e:S):tot a e<=a.length:=bS ..
structure Cst2 (K:aa) (mg:Str->Option ae):Prop where
 nought:∃a,mg "NOUGHT"=some (.ref a)/\∀H,yH K H a [.int 0,.int 1]
 whole:∃a,mg "WHOLE"=some (.ref a)/\∀H,yH K H a [.int 1,.int 1]
section
variable{P:aB}{w:aL}{K:aa}{mg:Str->Option ae}{base:ba}
def zGh (K:aa):Sp:=fun vs H Q _=>∃(d:ai) (ps:List (S×S)) (e l:S),vs=[.ref d,sv l]/\H d=some (.dK (yT (y6 ps e)))/\ps.length<1000/\∀v H',zB H H'->yK K H' v (yU ps e l)->Q v H'
abbrev zDG:bY:=top 31
theorem zMD:FnScope ["row","letter"] ["row","letter"] (defScope zDG):=zX
theorem zME {f:ai}{fd:aE}(F:Fun K "part_in" "part_in" zDG f fd)(B:Blt mg)(C:Cst2 K mg)(c1:zN P w K mg base 2 "lowest" ["up","down"] zGd):FnOk P w K mg base zR 3 f fd ["row","letter"] (zGh K):=by
 obtain⟨g,n,o⟩:=C.nought
 refine F.ok zMD (fun vs H Q E h=>?_) (fun r A outer s H vs Q E i h=>?_)
 ·obtain⟨d,a,e,l,rfl,_⟩:=h;rfl
 ·obtain⟨d,a,e,l,rfl,hd,hl,k⟩:=h
  have j:=uW i
  refine⟨_,zH (yR (zEm (zFb j (pv 1) (pv 0))) (zJ (zS (uL (v:=.ref g) (by rfl) n rfl))) yQ)
   (zJ (zS (zM c1 i rfl (zA (jK j (pv 0) (pv 1) (fun _ _=>rfl)) (zA (yF (zLC rfl) (by rfl) B.sum qi (zA (zFT cG iT PySem.F.type_dict_values zLB (pv 0)) zC)) zC))))),?_⟩
  refine⟨_,rfl,_,rfl,d,_,rfl,yG.k (k:=Sum.inr (tx l)) hd,_,rfl,?_⟩
  rw[j4,zBZ]
  by_cases c:0<a.count (e,l)
  ·rw[if_pos c]
   refine yJ ?_
   refine⟨_,rfl,_,rfl,d,.int (a.count (e,l):Int),rfl,?_,?_⟩
   ·have:=yG.k (k:=Sum.inr (tx l)) hd
    rw[j4,zBZ,if_pos c]at this
    exact this
   refine⟨_,rfl,.inr (.inr (.inl ⟨rfl,.inl ⟨_,hd⟩⟩)),d,_,rfl,rfl,hd,fun p u=>?_⟩
   have m:zB H (upd H p (VLS p d)):=zB.upd1 u
   refine⟨p,d,(y6 a e).map (fun q=>((Sum.inr (tx q.1):zU),q.2)),rfl,zI,?_,?_⟩
   ·rw[m _ _ hd]
    unfold yT vD gE
    rw[aV,aV];rfl
   ·have e1:(((y6 a e).map fun q=>((Sum.inr (tx q.1):zU),q.2)).map (·.2)).sum=(tot a e:Int):=by
     rw[aV];exact zMC a e
    rw[e1]
    have x:=zAd a e l
    have y:=tot_le a e
    refine⟨_,_,rfl,by omega,by omega,by omega,fun z b=>k _ _ (m.trans (zB.upd1 b)) ?_⟩
    have:yU a e l=low (a.count (e,l):Int) (tot a e:Int):=by unfold yU;rw[if_neg (by omega)]
    rw[this]
    exact yK.new
  ·rw[if_neg c]
   refine vH ?_
   have:yU a e l=(0,1):=by unfold yU;rw[if_pos (by omega)]
   exact k _ _ (zB.refl H) (by rw[this];exact⟨g,rfl,o _⟩)
theorem zDH {X:Cx}(c:aa){pos:Pos}{a:List bD}{k:Nat}{t:kH}(n:Nat)(d:X.K=c)(e:X.calm=true)(h:PGs X a t)
  (f:(assignEach a X.env).length=n) (b:(assignEach a X.env).findIdx? (·.1)=none):PG X (.Tuple a k pos) (zEo c n t):=by
 subst d
 exact zAv e h f b
def frD (q:Int×Int):bN:=.tuple [.int q.1,.int q.2]
def stD (ps:List (S×S))(p:S×S):bN:=.tuple [.str (tx p.1),.str (tx p.2),frD (yU ps p.1 p.2)]
def zGi (K:aa):Sp:=fun vs H Q _=>∃(d:ai) (ps:List (S×S)) (o:Nat) (nm:S),vs=[.ref d,.int o,sv nm]/\vE H d ps/\ps.length<1000/\1<=o/\nm.length<=64/\
 ∀a xs H',zB H H'->H a=none->H' a=some (.lst xs)->Reps K H' ((z3 o nm).map (stD ps)) xs->Q (.ref a) H'
abbrev zDI:bY:=top 32
theorem zMF:FnScope ["rows","order","name"] ["rows","order","name"] (defScope zDI):=zX
theorem nd3:(["rows","end","letter"]:List Str).Nodup:=by decide+kernel
theorem vE.get {H:Hp}{d:ai}{b:List (S×S)}(h:vE H d b)(e:S):∃kvs:List (zU×V),H d=some (.dK kvs)/\((yW kvs (Sum.inr (tx e))=none/\y6 b e=[])\/∃a,yW kvs (Sum.inr (tx e))=some (.ref a)/\H a=some (.dK (yT (y6 b e)))):=by
 obtain⟨c,f,j,l⟩:=h
 refine⟨_,j,?_⟩
 rw[j4]
 have nd:(c.map (·.1)).Nodup:=by
  have h:=(j3 b).nd
  rw[<-f,aV]at h
  exact h
 have i:zL (uD b) e=(zL c e).map (·.2):=by
  rw[<-f]
  exact zGZ (fun v:ai×List (S×Int)=>v.2) c e
 cases g:zL c e with
 |none=>exact .inl ⟨rfl,by unfold y6;rw[i,g];rfl⟩
 |some v=>
  refine .inr ⟨v.1,rfl,?_⟩
  have:=l _ ((uC nd e v).mpr g)
  unfold y6
  rw[i,g]
  exact this
theorem gK (o:Nat)(nm:S):(z3 o nm).length=nm.length+1:=by simp[z3]
theorem zMG {H:Hp}{o:Nat}{nm:S}{xs:List V}{i:Nat}{x:V}(q:Reps K H ((z3 o nm).map gI) xs)(r:xs[i]?=some x):∃(p:S×S) (a:ai),(z3 o nm)[i]?=some p/\x=.ref a/\yH K H a [sv p.1,sv p.2]:=by
 obtain⟨dd,b,s⟩:=q.get r
 rw[ar]at b
 cases ep:(z3 o nm)[i]? with
 |none=>rw[ep]at b;cases b
 |some p=>
 rw[ep]at b
 have e:dd=gI p:=(au b).symm
 subst e
 obtain⟨f,u,rfl,g,v,n,rfl,h,y,c,rfl,j,d⟩:=s
 have l:v=sv p.1:=h
 have m:y=sv p.2:=j
 have z:c=[]:=d
 subst l m z
 exact⟨p,f,rfl,rfl,g⟩
theorem zMH {f:ai}{fd:aE}(F:Fun K "steps_by_rows" "steps_by_rows" zDI f fd)(r:zN P w K mg base 2 "ends_and_letters" ["name","order"] (zCt K))(u:zN P w K mg base 3 "part_in" ["row","letter"] (zGh K)) :
  FnOk P w K mg base zR 4 f fd ["rows","order","name"] (zGi K):=by
 refine F.ok zMF (fun vs H Q E h=>?_) (fun am A outer s H vs Q E X h=>?_)
 ·obtain⟨d,g,o,nm,rfl,_⟩:=h;rfl
 ·obtain⟨d,g,o,nm,rfl,hR,M,ho,hl,k⟩:=h
  have hu:=uW X
  have hr2:=X.mono (j:=2) (by decide)
  refine⟨_,zJ (zS (vX (N:=["rows","end","letter"]) (caps:=[0]) rfl (vP (by kernel_rfl))
   (v3 (zM r hr2 rfl (zA (pv 2) (zA (pv 1) zC))))
   (fun cl C s H ex=>zDH K 2 rfl rfl (qE (yC (i:=1) nd3 rfl (Or.inl rfl)) (qE (yC (i:=2) nd3 rfl (Or.inl rfl)) gR)) rfl rfl)
   (fun cl C s H ex=>uX)
   (fun cl C s H ex=>jY (zA (pv 1) (zA (pv 2) (zA (zM u X rfl (zA (zCW hu (pv 0) (pv 1) zBI ⟨rfl,rfl,rfl,rfl⟩) (zA (pv 2) zC))) zC)))))),?_⟩
  refine⟨_,rfl,_,rfl,nm,o,rfl,ho,hl,fun l xs Hl sml an O rp=>?_⟩
  refine⟨l,rfl,⟨_,.of O⟩,?_⟩
  have Y:xs.length=nm.length+1:=by have:=rp.length;rw[<-this,aj,gK]
  refine uY (v5 K l xs) [some (.ref d)] 2 (by omega) (fun i a H'=>zB Hl H'/\a.length=i/\Reps K H' (((z3 o nm).take i).map (stD g)) a)
   ⟨zB.refl _,rfl,rfl⟩ (fun i a H' _ h=>⟨.of (h.1 _ _ O),d5 h.2.1⟩) ?_ ?_
  ·rintro i x a H' ys Nx hN hx hy ⟨R,T,m⟩
   obtain⟨y,z,rfl⟩:=ys2 hy
   obtain⟨p,Z,ep,rfl,ab⟩:=zMG (Reps.same R _ _ rp) hx
   have hj:i<(z3 o nm).length:=(af.mp ep).1
   refine⟨Z,[sv p.1,sv p.2],rfl,ab,rfl,_,_,rfl,_,_,rfl,rfl,?_⟩
   have R':vE H' d g:=(hR.same sml).same R
   obtain⟨kvs,hd,hv⟩:=R'.get p.1
   refine⟨_,rfl,_,rfl,_,rfl,d,rfl,.inl ⟨_,.inl hd⟩,_,rfl,fun n ac=>?_⟩
   have W:zB H' (upd H' n (.dK [])):=zB.upd1 ac
   have fin:∀(B:ai),upd H' n (.dK []) B=some (.dK (yT (y6 g p.1)))->∀v,v=V.ref B->(∀(G:V) (q:Hp),zB (upd H' n (.dK [])) q->yK K q G (yU g p.1 p.2)->∀pp,q pp=none->Nx (a++[.ref pp]) [some (.ref d),some (sv p.1),some (sv p.2)] (upd q pp (.tup [sv p.1,sv p.2,G]))):=by
    intro B c v ap G q L U pp b
    refine hN _ _ [some (sv p.1),some (sv p.2)] rfl ⟨((R.trans W).trans L).trans (zB.upd1 b),by rw[aA,T];rfl,?_⟩
    rw[av hj,(af.mp ep).2,aJ]
    refine Reps.append (Reps.same ((W.trans L).trans (zB.upd1 b)) _ _ m) (Reps.one ⟨pp,_,rfl,.of zI,?_⟩)
    exact⟨_,_,rfl,rfl,_,_,rfl,rfl,_,_,rfl,(U.same (zB.upd1 b)).rep,rfl⟩
   have al:upd H' n (.dK []) d=some (.dK kvs):=W _ _ hd
   refine⟨_,yG.k (k:=Sum.inr (tx p.1)) al,_,rfl,?_⟩
   rcases hv with⟨I,J⟩|⟨B,I,J⟩
   ·rw[I]
    have c:upd H' n (.dK []) n=some (.dK (yT (y6 g p.1))):=by rw[zI,J];rfl
    exact⟨n,g,p.1,p.2,rfl,c,M,fun v q L U=>⟨by show 3<=sizeLine;decide,fun pp b=>fin n c _ rfl v q L U pp b⟩⟩
   ·rw[I]
    have c:upd H' n (.dK []) B=some (.dK (yT (y6 g p.1))):=W _ _ J
    exact⟨B,g,p.1,p.2,rfl,c,M,fun v q L U=>⟨by show 3<=sizeLine;decide,fun pp b=>fin B c _ rfl v q L U pp b⟩⟩
  ·rintro a H' ⟨R,T,m⟩ D hD
   have e:=sml.trans R
   refine k D a _ (e.upd_new (e.free hD)) (e.free hD) zI (Reps.same (zB.upd1 hD) _ _ ?_)
   have e1:(z3 o nm).take xs.length=z3 o nm:=by rw[Y,<-gK o nm,aQ]
   rw[e1]at m
   exact m
end
theorem zGj {a:List (S×S)}(c:1<=a.length)(b:List (S×S)):(qS a b).2<=((a.length^b.length:Nat):Int):=by
 have:=zCo c b (1,1) 0 jO (by simp)
 rw[ji]at this
 rw[Int.natCast_pow]
 exact this
theorem zMI (a b:List (S×S)):Fq (qS a b):=zCm a b _ jO
theorem zMJ (a b:List (S×S)):(qS a b).1<=(qS a b).2:=zCn a b _ jO (by decide)
theorem zMK (a b:List (S×S))(p:S×S):qS a (b++[p])=y0 (qS a b) (yU a p.1 p.2):=by
 unfold qS;rw[iP];rfl
theorem Sm.of_le {q:Int×Int}(h:Fq q)(b:q.1<=q.2)(a:q.2<1073741824):Sm q:=⟨h,by omega,a⟩
theorem zDJ {a:List (S×S)}{o:Nat}{nm:S}(b:1<=a.length)(h:a.length^(nm.length+1)<1073741824):Sm (z5 a o nm):=by
 refine .of_le (jP ..) (zCp ..) ?_
 have:=zGj b (z3 o nm)
 rw[gK]at this
 unfold z5
 omega
section
variable{P:aB}{w:aL}{K:aa}{mg:Str->Option ae}{base:ba}
theorem zML {H:Hp}{e:List (S×S)}{f:List (S×S)}{xs:List V}{i:Nat}{x:V}(u:Reps K H (f.map (stD e)) xs)(y:xs[i]?=some x):∃(p:S×S) (a:ai) (v:V),f[i]?=some p/\x=.ref a/\yH K H a [sv p.1,sv p.2,v]/\yK K H v (yU e p.1 p.2):=by
 obtain⟨dd,b,z⟩:=u.get y
 rw[ar]at b
 cases ep:f[i]? with
 |none=>rw[ep]at b;cases b
 |some p=>
 rw[ep]at b
 have g:dd=stD e p:=(au b).symm
 subst g
 obtain⟨h,A,rfl,j,B,r,rfl,l,C,s,rfl,m,D,c,rfl,n,d⟩:=z
 have o:B=sv p.1:=l
 have q:C=sv p.2:=m
 have E:c=[]:=d
 subst o q E
 exact⟨p,h,D,rfl,rfl,j,yK.of_rep n⟩
def zDK (K:aa):Sp:=fun vs H Q _=>∃(d:ai) (ps:List (S×S)) (o:Nat) (nm:S),vs=[.ref d,.int o,sv nm]/\vE H d ps/\1<=ps.length/\ps.length<1000/\ps.length^(nm.length+1)<1073741824/\1<=o/\nm.length<=64/\
 ∀v H',zB H H'->yK K H' v (z5 ps o nm)->Q v H'
abbrev zDL:bY:=top 33
theorem zGk:FnScope ["rows","order","name","product","step"] ["rows","order","name"] (defScope zDL):=zX
theorem zMM {f:ai}{fd:aE}(F:Fun K "share_by_rows" "share_by_rows" zDL f fd)(C:Cst2 K mg)(z:zN P w K mg base 4 "steps_by_rows" ["rows","order","name"] (zGi K))(Y:zN P w K mg base 3 "times" ["one","other"] (zGf K)) :
  FnOk P w K mg base zR 5 f fd ["rows","order","name"] (zDK K):=by
 obtain⟨R,Z,tW⟩:=C.whole
 refine F.ok zGk (fun vs H Q E h=>?_) (fun ab A outer s H vs Q E B h=>?_)
 ·obtain⟨d,a,o,nm,rfl,_⟩:=h;rfl
 ·obtain⟨d,a,o,nm,rfl,hR,c,D,T,ho,hl,k⟩:=h
  have hu:=uW B
  have G:=B.mono (j:=3) (by decide)
  have nd:=zGk.nd
  refine⟨_,zH (zZ (i:=3) nd rfl (Or.inl rfl) (uL (v:=.ref R) (by rfl) Z rfl))
   (zH (qG cb rfl (v3 (zM z B rfl (zA (pv 0) (zA (pv 1) (zA (pv 2) zC))))) (yC (i:=4) nd rfl (Or.inl rfl))
    (zJ (zZ (i:=3) nd rfl (Or.inl rfl) (zM Y G rfl (zA (pv 3) (zA (yS uA (pv 4) zO (fun _ _=>rfl)) zC))))))
   (zJ (zS (pv 3)))),?_⟩
  refine⟨_,rfl,_,rfl,_,rfl,d,a,o,nm,rfl,hR,D,ho,hl,fun l xs Hl sml ac g U=>?_⟩
  refine⟨l,rfl,⟨_,.of g⟩,?_⟩
  have I:xs.length=nm.length+1:=by have:=U.length;rw[<-this,aj,gK]
  refine jN (v5 K l xs) (fun i σ m=>∃(v:V) (y:Option V),σ=[some (.ref d),some (.int o),some (sv nm),some v,y]/\zB Hl m/\yK K m v (qS a ((z3 o nm).take i)))
   ⟨_,_,rfl,zB.refl _,⟨R,rfl,tW _⟩⟩ (fun i σ H' _ h=>by obtain⟨_,_,_,h,_⟩:=h;exact .of (h _ _ g)) ?_ ?_
  ·rintro i x σ m Nx hN hx ⟨v,y,rfl,q,r⟩
   obtain⟨p,J,u,ep,rfl,L,fu⟩:=zML (Reps.same q _ _ U) hx
   have M:i<(z3 o nm).length:=(af.mp ep).1
   have al:i<nm.length+1:=by rw[gK]at M;exact M
   have N:((z3 o nm).take i).length=i:=by rw[aX];omega
   have n:=zGj c ((z3 o nm).take i)
   rw[N]at n
   have am:a.length^i<=a.length^(nm.length+1):=gk c (by omega)
   have W:a.length^(i+1)<=a.length^(nm.length+1):=gk c (by omega)
   have O:=zGM p.1 p.2 c
   have s1:Sm (qS a ((z3 o nm).take i)):=.of_le (zMI ..) (zMJ ..) (by omega)
   have X:Sm (yU a p.1 p.2):=.of_le (gH ..) (zGL ..) (by omega)
   refine⟨_,rfl,_,rfl,J,_,2,u,rfl,rfl,L,rfl,v,u,_,_,rfl,r,fu,s1,X,?_,fun b hb=>hN _ _ ⟨_,_,rfl,q.trans (zB.upd1 hb),?_⟩⟩
   ·have hm:(qS a ((z3 o nm).take i)).2*(yU a p.1 p.2).2<=((a.length^i:Nat):Int)*(a.length:Int):=iz n O (bW X.dn) (Int.natCast_nonneg _)
    have e:((a.length^i:Nat):Int)*(a.length:Int)=((a.length^(i+1):Nat):Int):=by rw[Nat.pow_succ];rfl
    rw[e]at hm
    omega
   ·rw[av M,(af.mp ep).2,zMK]
    exact yK.new
  ·rintro σ m ⟨v,y,rfl,q,r⟩
   refine⟨_,rfl,k v m (sml.trans q) ?_⟩
   have e1:(z3 o nm).take xs.length=z3 o nm:=by rw[I,<-gK o nm,aQ]
   rw[e1]at r
   exact r
structure Bk (bk:List S) (o:Nat):Prop extends isBk bk where
 o1:1<=o
 o3:o<=3
structure Fit (bk:List S) (o:Nat) (x:S):Prop extends Bk bk o where
 nmn:yE x
 pw:(zD o bk).length^(x.length+1)<1073741824
theorem Bk.l8 {bk:List S}{o:Nat}(h:Bk bk o):∀x∈bk,x.length<=8:=fun x a=>(h.nm x a).2.1
theorem zAD {bk:List S}{o:Nat}(h:Bk bk o):1<=(zD o bk).length/\(zD o bk).length<1000:=by
 have e:=zAc o bk
 have go:∀l:List S,(∀x∈l,x.length<=8)->(l.length:Int)<=(l.map fun x=>(x.length:Int)+1).sum/\(l.map fun x=>(x.length:Int)+1).sum<=9*(l.length:Int):=by
  intro l
  induction l with
  |nil=>intro _;simp
  |cons x r ih=>
   intro hl
   have a:=hl x (aq ..)
   have b:=ih fun y c=>hl y (az _ c)
   rw[aP,c7,aO]
   have:((r.length+1:Nat):Int)=(r.length:Int)+1:=rfl
   omega
 have:=go bk h.l8
 have a:=h.lo
 have b:=h.hi
 omega
abbrev zDM:bY:=top 34
abbrev zDN:bY:=top 35
theorem zMN:FnScope ["book","order","name"] ["book","order","name"] (defScope zDM):=zX
theorem zMO:FnScope ["book","order","name"] ["book","order","name"] (defScope zDN):=zX
structure Needs (P:aB) (w:aL) (K:aa) (mg:Str->Option ae) (base:ba):Prop where
 bk:zN P w K mg base 3 "need_book" ["thing"] zAe
 od:zN P w K mg base 3 "need_order" ["thing"] zAB
 nm:zN P w K mg base 2 "need_name" ["thing"] qT
 rows:zN P w K mg base 3 "counted_rows" ["book","order"] zBY
def zBb (K:aa):Sp:=fun vs H Q _=>∃(a:ai) (bk:List S) (o:Nat) (nm:S),vs=[.ref a,.int o,sv nm]/\H a=some (.tup (zE bk))/\Fit bk o nm/\
 ∀v H',zB H H'->yK K H' v (z5 (zD o bk) o nm)->Q v H'
theorem zMP {f:ai}{fd:aE}(F:Fun K "share" "share" zDM f fd)(N:Needs P w K mg base)(g:zN P w K mg base 5 "share_by_rows" ["rows","order","name"] (zDK K)) :
  FnOk P w K mg base zR 6 f fd ["book","order","name"] (zBb K):=by
 refine F.ok zMN (fun vs H Q E h=>?_) (fun m A outer s H vs Q E i h=>?_)
 ·obtain⟨d,y,o,nm,rfl,_⟩:=h;rfl
 ·obtain⟨a,bk,o,nm,rfl,l,b,k⟩:=h
  have c:=i.mono (j:=3) (by decide)
  have hr2:=i.mono (j:=2) (by decide)
  refine⟨_,zH (yB (zM N.bk c rfl (zA (pv 0) zC))) (zH (yB (zM N.od c rfl (zA (pv 1) zC))) (zH (yB (zM N.nm hr2 rfl (zA (pv 2) zC)))
   (zJ (zS (zM g i rfl (zA (zM N.rows c rfl (zA (pv 0) (zA (pv 1) zC))) (zA (pv 1) (zA (pv 2) zC)))))))),?_⟩
  refine⟨_,rfl,a,bk,rfl,l,b.toisBk,fun z n=>?_⟩
  refine⟨_,rfl,o,rfl,b.o1,b.o3,?_⟩
  refine⟨_,rfl,nm,rfl,b.nmn,fun B p=>?_⟩
  have e:=n.trans p
  have pl:=zAD b.toBk
  refine⟨_,rfl,_,rfl,a,bk,o,rfl,e _ _ l,b.hi,b.toBk.l8,b.o1,fun d C q hd R=>?_⟩
  exact⟨_,rfl,_,rfl,d,_,o,nm,rfl,R,pl.1,pl.2,b.pw,b.o1,(by have:=b.nmn.2.1;omega),fun v r u x=>k v r ((e.trans q).trans u) x⟩
def zBc:Sp:=fun vs H Q _=>∃(a:ai) (bk:List S) (o:Nat) (nm:S),vs=[.ref a,.int o,sv nm]/\H a=some (.tup (zE bk))/\Fit bk o nm/\
 ∀H',zB H H'->Q (.bl (decide (0<(z5 (zD o bk) o nm).1))) H'
theorem zMQ {f:ai}{fd:aE}(F:Fun K "makes" "makes" zDN f fd)(C:Cst2 K mg)(b:zN P w K mg base 6 "share" ["book","order","name"] (zBb K))(i:zN P w K mg base 1 "is_less" ["one","other"] (zGg K)) :
  FnOk P w K mg base zR 7 f fd ["book","order","name"] zBc:=by
 obtain⟨e,l,m⟩:=C.nought
 refine F.ok zMO (fun vs H Q E h=>?_) (fun n A outer s H vs Q E g h=>?_)
 ·obtain⟨d,x,o,nm,rfl,_⟩:=h;rfl
 ·obtain⟨a,bk,o,nm,rfl,p,c,k⟩:=h
  have hr1:=g.mono (j:=1) (by decide)
  refine⟨_,zJ (zS (zM i hr1 rfl (zA (uL (v:=.ref e) (by rfl) l rfl) (zA (zM b g rfl (zA (pv 0) (zA (pv 1) (zA (pv 2) zC)))) zC)))),?_⟩
  refine⟨_,rfl,_,rfl,_,rfl,a,bk,o,nm,rfl,p,c,fun v q r u=>?_⟩
  refine⟨_,v,(0,1),_,rfl,⟨e,rfl,m _⟩,u,⟨zCl,by decide,by decide⟩,zDJ (zAD c.toBk).1 c.pw,?_⟩
  rw[zLb]
  exact k q r
end
theorem zMR (x:Str):tx x.cps.toList=x:=by
 apply MyS.Str_ext
 simp[tx]
section
variable{P:aB}{w:aL}{K:aa}{mg:Str->Option ae}{base:ba}
theorem zGl {X:Cx}(e:aa)(g:X.K=e){o:bD}{f:TE}{name:Str}{apos a:Pos}{T id:String}{r:V->List V->Hp->VK->Prop}(h:oO T)(slot:Slot T name id)(d:typeOf (.builtin id)=pure (.type "method_descriptor"))(i:MtR X id r)(j:PE X o f)
  (b:attributeBase o name X.env (eval o X.env)=eval o X.env:=by rfl) (c:(apos.endLine==a.line)=true:=by rfl):PE X (.Call (.Attribute o name apos) [] [] a) (zFS e T r f):=by
 subst g
 exact zFT h slot d i j b c
end
theorem zDO {c A B:Prop} [Decidable c] (a:¬c)(h:A):if(!decide c)=true then A else B:=by
 rw[decide_eq_false a];exact h
section
variable{P:aB}{w:aL}{K:aa}{mg:Str->Option ae}{base:ba}
theorem zGm {H:Hp}:∀ns:List Int,Reps K H (ns.map PyData.int) (ns.map V.int)
 | []=>rfl
 |n::ns=>⟨_,_,rfl,rfl,zGm ns⟩
theorem zGn:∀ns:List Int,cC (ns.map PyData.int)=true
 | []=>rfl
 |n::ns=>by rw[aP];simp only[cC,dz,zGn ns,f7]
def zGo (K:aa):Sp:=fun vs H Q _=>∃(a:ai) (ns:List Int) (k:Nat),vs=[.ref a,.int k]/\z7 K H a (ns.map V.int)/\ns.length<=63/\∀(i:Int) H',zB H H'->Q (.int i) H'
abbrev zDP:bY:=top 53
theorem zMS:FnScope ["_law_script","_law_k"] ["_law_script","_law_k"] (defScope zDP):=zX
theorem zMT (ns:List Int):cX (.list (ns.map PyData.int))=true:=by
 unfold cX
 have a:(PyData.list (ns.map PyData.int)).canLay0=true:=by simp only[dz];exact zGn ns
 have b:(PyData.list (ns.map PyData.int)).depth<=64:=by
  have go:∀ns:List Int,gv (ns.map PyData.int)<=1:=by
   intro ns
   induction ns with
   |nil=>decide
   |cons n ns ih=>rw[aP];simp only[gv,hV];omega
  have:=go ns
  simp only[hV];omega
 rw[a,decide_eq_true b];rfl
theorem zMU {f:ai}{fd:aE}(F:Fun K "_law_cell" "_law_cell" zDP f fd)(B:Blt mg):FnOk P w K mg base zR 1 f fd ["_law_script","_law_k"] (zGo K):=by
 refine F.ok zMS (fun vs H Q E h=>?_) (fun g A outer s H vs Q E i h=>?_)
 ·obtain⟨a,ns,k,rfl,_⟩:=h;rfl
 ·obtain⟨a,ns,n,rfl,e,hl,k⟩:=h
  have j:=i.units
  refine⟨_,zH (yR (vN (zBK j) (pv 0) (uM zC) (vB _)) (zJ (zS (zT jX zO (pv 1)))) yQ)
   (zJ (zS (zT vA (yS u5 (pv 0) (zT kU (pv 1) (yF qK (by rfl) B.len bQ (zA (pv 0) zC))) (fun _ _=>rfl))
    (zT jX zO (zT zAy (pv 1) (yF qK (by rfl) B.len bQ (zA (pv 0) zC))))))),?_⟩
  refine⟨_,rfl,by show 0<=sizeLine;decide,fun p l=>?_⟩
  have c:zB H (upd H p (.lst [])):=zB.upd1 l
  refine⟨.list (ns.map PyData.int),.list [],⟨a,_,rfl,c.seq e,zGm ns⟩,⟨p,[],rfl,.of zI,rfl⟩,zMT ns,rfl,_,rfl,?_⟩
  cases ns with
  |nil=>exact vH ⟨_,rfl,7,n,rfl,rfl,.inl ⟨by decide,by decide⟩,k _ _ c⟩
  |cons m ns=>
   refine yJ ?_
   have b:((m::ns).map V.int).length=ns.length+1:=by simp
   have o:ns.length+1<=63:=by simpa using hl
   have q:((n:Int)%(((m::ns).map V.int).length:Int))=((n%(ns.length+1):Nat):Int):=by rw[b];rfl
   have d:n%(ns.length+1)<((m::ns).map V.int).length:=by rw[b];exact oV _ (Nat.succ_pos _)
   refine⟨_,rfl,_,rfl,_,rfl,a,_,rfl,.inl (c.seq e),_,_,rfl,rfl,by rw[b];omega,?_⟩
   refine⟨a,_,_,.int ((m::ns)[n%(ns.length+1)]'(by simpa using d)),rfl,rfl,c.seq e,?_,?_⟩
   ·rw[q]
    refine kX ?_
    rw[ar,ao (by simpa using d)];rfl
   ·exact⟨_,rfl,_,rfl,a,_,rfl,.inl (c.seq e),_,_,rfl,rfl,⟨by rw[b];omega,by rw[b];omega⟩,_,_,rfl,rfl,.inl ⟨by decide,by decide⟩,_,_,rfl,rfl,k _ _ c⟩
theorem lt0 {d:Int}(h:0<d):0<d:=h
theorem cmE {t d q:Int}(h:0<d)(a:d<18446744073709551616):zAx (t%d) q:=by
 have b:=kj t (show d≠0 by omega)
 have c:=iB t h
 exact .inl ⟨by omega,by omega⟩
def zBd (K:aa):Sp:=fun vs H Q _=>∃(a:ai) (ns:List Int) (k m:Nat),vs=[.ref a,.int k,.int m]/\z7 K H a (ns.map V.int)/\ns.length<=63/\1<=m/\m<100000/\∀(i:Nat) H',i<m->zB H H'->Q (.int i) H'
abbrev zDQ:bY:=top 54
theorem zGp:FnScope ["_law_script","_law_k","_law_many","_law_cell_here"] ["_law_script","_law_k","_law_many"] (defScope zDQ):=zX
theorem zMV {f:ai}{fd:aE}(F:Fun K "_law_drawn" "_law_drawn" zDQ f fd)(c1:zN P w K mg base 1 "_law_cell" ["_law_script","_law_k"] (zGo K)):FnOk P w K mg base zR 2 f fd ["_law_script","_law_k","_law_many"] (zBd K):=by
 refine F.ok zGp (fun vs H Q E h=>?_) (fun b A outer s H vs Q E c h=>?_)
 ·obtain⟨a,ns,k,m,rfl,_⟩:=h;rfl
 ·obtain⟨a,ns,n,m,rfl,d,hl,g,j,k⟩:=h
  have nd:=zGp.nd
  refine⟨_,zH (zZ (i:=3) nd rfl (Or.inl rfl) (zT kU (zT vA (zT jX (zT kU (zM c1 c rfl (zA (pv 0) (zA (pv 1) zC))) zO) zO) (zT jX zO (zT vA (pv 1) zO))) zO))
   (zH (zZ (i:=3) nd rfl (Or.inl rfl) (zT kU (zT vA (zT jX (pv 3) (pv 3)) (zT zAy (pv 3) zO)) zO))
   (zJ (zS (zT kU (zT zAy (zT kU (zT vA (zT jX (pv 3) (pv 3)) (zT zAy (pv 3) zO)) zO) zO) (pv 2))))),?_⟩
  refine⟨_,rfl,_,rfl,a,ns,n,rfl,d,hl,fun i H' l=>?_⟩
  have fin:∀z:Int,Q (.int (z%(m:Int))) H':=fun z=>by
   have o:0<=z%(m:Int):=kj _ (by omega)
   have p:z%(m:Int)<m:=iB _ (by omega)
   have e:z%(m:Int)=((z%(m:Int)).toNat:Int):=(Int.toNat_of_nonneg o).symm
   rw[e]
   exact k _ _ (by omega) l
  refine⟨_,_,rfl,rfl,lt0 (by decide),_,_,rfl,rfl,.inr ⟨by decide,by decide⟩,?_⟩
  refine⟨_,rfl,_,_,rfl,rfl,_,_,rfl,rfl,.inl ⟨by decide,by decide⟩,_,_,rfl,rfl,_,_,rfl,rfl,lt0 (by decide),?_⟩
  refine⟨_,rfl,_,rfl,_,_,rfl,rfl,cmE (by decide) (by decide),_,rfl,_,_,rfl,rfl,⟨by decide,by decide⟩,_,_,rfl,rfl,_,_,rfl,rfl,lt0 (by decide),?_⟩
  refine⟨_,rfl,_,rfl,_,_,rfl,rfl,cmE (by decide) (by decide),_,rfl,_,_,rfl,rfl,⟨by decide,by decide⟩,_,_,rfl,rfl,_,_,rfl,rfl,lt0 (by decide),_,_,rfl,rfl,⟨by decide,by decide⟩,_,rfl,_,_,rfl,rfl,?_,fin _⟩
  show(0:Int)<(m:Int)
  omega
def zDR (K:aa):Sp:=fun vs H Q _=>∃(a:ai) (ns:List Int) (at' most:Nat),vs=[.ref a,.int at',.int most]/\z7 K H a (ns.map V.int)/\ns.length<=63/\1<=most/\most<=8/\
 ∀(x:S) H',zB H H'->yE x->x.length<=most->Q (sv x) H'
abbrev zDS:bY:=top 55
theorem zGq:FnScope ["_law_script","_law_at","_law_most","_law_size","_law_letters"] ["_law_script","_law_at","_law_most"] (defScope zDS):=zX
theorem ndN:(["_law_letters","_law_script","_law_at","_law_k"]:List Str).Nodup:=by decide+kernel
abbrev cDr (P:aB)(w:aL)(K:aa)(mg:Str->Option ae)(base:ba):Prop:=zN P w K mg base 2 "_law_drawn" ["_law_script","_law_k","_law_many"] (zBd K)
theorem zMW {f:ai}{fd:aE}(F:Fun K "_law_name" "_law_name" zDS f fd)(B:Blt mg)(c1:cDr P w K mg base):FnOk P w K mg base zR 3 f fd ["_law_script","_law_at","_law_most"] (zDR K):=by
 refine F.ok zGq (fun vs H Q E h=>?_) (fun ac A outer s H vs Q E G h=>?_)
 ·obtain⟨a,ns,k,m,rfl,_⟩:=h;rfl
 ·obtain⟨a,ns,n,m,rfl,I,hl,J,al,k⟩:=h
  have nd:=zGq.nd
  refine⟨_,zH (zZ (i:=3) nd rfl (Or.inl rfl) (zT vA zO (zM c1 G rfl (zA (pv 0) (zA (pv 1) (zA (pv 2) zC))))))
   (zH (zZ (i:=4) nd rfl (Or.inr rfl) (yS u5 (uM (zA vW (zA vW (zA vW zC)))) (zM c1 G rfl (zA (pv 0) (zA (zT vA (pv 1) zO) (zA zO zC)))) (fun _ _=>rfl)))
   (zJ (zS (zBF PySem.F.plainAttrs_str PySem.F.slot_str_join PySem.F.type_str_join zLF vW (zA
    (vX (N:=["_law_letters","_law_script","_law_at","_law_k"]) (caps:=[4,0,1]) rfl (vP (by kernel_rfl)) (zAw rfl B.range (zA (pv 3) zC))
     (fun R C s H ex=>yC (i:=3) ndN rfl (Or.inl rfl)) (fun R C s H ex=>uX)
     (fun R C s H ex=>yS zJw (pv 0) (zM c1 G rfl (zA (pv 1) (zA (zT vA (zT vA (pv 2) zO) (pv 3)) (zA (yF zBE (by rfl) B.len bQ (zA (pv 0) zC)) zC)))) (fun _ _=>rfl))) zC))))),?_⟩
  refine⟨_,rfl,_,rfl,_,rfl,a,ns,n,m,rfl,I,hl,J,by omega,fun sz T hsz U=>?_⟩
  refine⟨_,_,rfl,rfl,?_⟩
  refine⟨by show 3<=sizeLine;decide,fun p hp=>?_⟩
  have W:zB T (upd T p (.lst [.str "ab",.str "ab",.str "abz"])):=zB.upd1 hp
  refine⟨_,rfl,_,rfl,_,_,rfl,rfl,a,ns,n+9,3,rfl,W.seq (U.seq I),hl,by decide,by decide,fun li H3 M X=>?_⟩
  have o:=(U.trans W).trans X
  obtain⟨L,Y,e⟩:∃L:S,(L=[97,98]\/L=[97,98,122])/\([.str "ab",.str "ab",.str "abz"]:List V)[li]?=some (sv L):=by
   match li,M with
   |0,_=>exact⟨[97,98],.inl rfl,rfl⟩
   |1,_=>exact⟨[97,98],.inl rfl,rfl⟩
   |2,_=>exact⟨[97,98,122],.inr rfl,rfl⟩
  refine⟨p,_,_,sv L,rfl,rfl,.of (X _ _ zI),kX e,?_⟩
  refine⟨rfl,_,rfl,_,rfl,by omega,by omega,?_⟩
  have am:L.length=2\/L.length=3:=by rcases Y with h|h<;>subst h<;>simp
  have O:∀c∈L,97<=c/\c<=122:=by rcases Y with h|h<;>subst h<;>decide
  have r:(1+(sz:Int)).toNat=sz+1:=by omega
  refine uY (zAa 0 _) [some (sv L),some (.ref a),some (.int n)] 1 (by rw[aj,cj,r];omega) (fun i l H'=>zB H3 H'/\∃b:S,l=b.map (fun c=>V.str (tx [c]))/\b.length=i/\∀c∈b,97<=c/\c<=122)
   ⟨zB.refl _,[],rfl,rfl,by simp⟩ (fun i l H' _ h=>⟨trivial,by obtain⟨_,b,rfl,h,_⟩:=h;rw[aj];omega⟩) ?_ ?_
  ·rintro i x l H' ys Nx hN Z hy ⟨u,b,rfl,d,g⟩
   obtain⟨y,rfl⟩:=v7 hy
   rw[r]at Z
   obtain⟨hi,rfl⟩:=zCq Z
   refine⟨_,rfl,_,rfl,_,rfl,_,_,rfl,rfl,_,rfl,_,_,rfl,rfl,_,rfl,tx L,rfl,by rw[vM,bg];omega,?_⟩
   rw[vM]
   refine⟨a,ns,n+1+i,L.length,rfl,(o.trans u).seq I,hl,by omega,by omega,fun j H5 hj s5=>?_⟩
   refine⟨tx L,_,L[j],rfl,rfl,by rw[vM,bg];omega,?_,?_⟩
   ·rw[uE]
    exact kX (ao hj)
   ·refine hN _ _ [some (.int i)] rfl ⟨u.trans s5,b++[L[j]],by rw[aJ];rfl,by rw[aA,d];rfl,fun c hc=>?_⟩
    rcases bj.mp hc with z|z
    ·exact g c z
    ·have:c=L[j]:=by simpa using z
     rw[this]
     exact O _ (bE hj)
  ·rintro l H' ⟨u,b,rfl,d,g⟩ D hD
   rw[aj,cj,r]at d
   have q:((b.map fun c=>tx [c]).map (·.length)).sum=b.length:=by
    clear d g
    induction b with
    |nil=>rfl
    |cons c b ih=>rw[aP,aP,c7,ih,aO,vM];show 1+_=_;omega
   refine⟨_,D,b.map (fun c=>tx [c]),rfl,rfl,.of (by rw[zI,aV];rfl),?_,?_⟩
   ·rw[q]
    show _+_*0<=_
    omega
   ·have ej:nr ⟨#[]⟩ (b.map fun c=>tx [c])=tx b:=by
     rw[zLH,aV]
     congr 1
     clear d g q
     congr 1
     induction b with
     |nil=>rfl
     |cons c b ih=>rw[aP,eI,ih];rfl
    have kk:∀v,zB H v->Q (.str (nr ⟨#[]⟩ (b.map fun c=>tx [c]))) v:=fun v sx=>by
     rw[ej]
     exact k b v sx ⟨by omega,by omega,g⟩ (by omega)
    exact kk _ ((o.trans u).trans (zB.upd1 hD))
def zGr (K:aa):Sp:=fun vs H Q _=>∃(a:ai) (ns:List Int) (at' many most:Nat),vs=[.ref a,.int at',.int many,.int most]/\z7 K H a (ns.map V.int)/\ns.length<=63/\1<=many/\many<=8/\1<=most/\most<=8/\
 ∀(p:ai) (bk:List S) H',zB H H'->H' p=some (.tup (zE bk))->1<=bk.length->bk.length<=many->(∀x∈bk,yE x/\x.length<=most)->Q (.ref p) H'
abbrev zDT:bY:=top 56
theorem zGs:FnScope ["_law_script","_law_at","_law_many","_law_most","_law_found","_law_k"] ["_law_script","_law_at","_law_many","_law_most"] (defScope zDT):=zX
theorem zMX {f:ai}{fd:aE}(F:Fun K "_law_book" "_law_book" zDT f fd)(B:Blt mg)(c1:cDr P w K mg base)(c2:zN P w K mg base 3 "_law_name" ["_law_script","_law_at","_law_most"] (zDR K)):FnOk P w K mg base zR 4 f fd ["_law_script","_law_at","_law_many","_law_most"] (zGr K):=by
 refine F.ok zGs (fun vs H Q E h=>?_) (fun ab A outer s H vs Q E O h=>?_)
 ·obtain⟨a,ns,k,m,l,rfl,_⟩:=h;rfl
 ·obtain⟨a,ns,n,many,d,rfl,R,hl,I,ac,J,L,k⟩:=h
  have nd:=zGs.nd
  have hr2:=O.mono (j:=2) (by decide)
  refine⟨_,zH (zZ (i:=4) nd rfl (Or.inl rfl) (jY zC))
   (zH (qG cb rfl (zAw rfl B.range (zA (zT vA zO (zM c1 hr2 rfl (zA (pv 0) (zA (pv 1) (zA (pv 2) zC))))) zC)) (yC (i:=5) nd rfl (Or.inl rfl))
    (zJ (zZ (i:=4) nd rfl (Or.inl rfl) (zT (zGB.or zFN) (pv 4) (jY (zA (zM c2 O rfl (zA (pv 0) (zA (zT vA (zT vA (pv 1) zO) (zT jX zO (pv 5))) (zA (pv 3) zC)))) zC))))))
   (zJ (zS (pv 4)))),?_⟩
  refine⟨by show 0<=sizeLine;decide,fun T M=>?_⟩
  have U:zB H (upd H T (.tup [])):=zB.upd1 M
  refine⟨_,rfl,_,rfl,_,rfl,a,ns,n,many,rfl,U.seq R,hl,I,by omega,fun sz H1 hsz W=>?_⟩
  refine⟨_,_,rfl,rfl,_,rfl,by omega,by omega,?_⟩
  have o:(1+(sz:Int)).toNat=sz+1:=by omega
  refine jN (zAa 0 _) (fun i σ u=>∃(p:ai) (bk:List S) (y:Option V),σ=[some (.ref a),some (.int n),some (.int many),some (.int d),some (.ref p),y]/\zB H u/\u p=some (.tup (zE bk))/\bk.length=i/\∀x∈bk,yE x/\x.length<=d)
   ⟨T,[],_,rfl,U.trans W,W _ _ zI,rfl,by simp⟩ (fun _ _ _ _ _=>trivial) ?_ ?_
  ·rintro i x σ u Nx X Y ⟨p,bk,y,rfl,v,C,e,g⟩
   rw[o]at Y
   obtain⟨hi,rfl⟩:=zCq Y
   refine⟨_,rfl,_,rfl,_,rfl,_,_,rfl,rfl,_,rfl,_,_,rfl,rfl,.inl ⟨by decide,by decide⟩,_,_,rfl,rfl,_,rfl,a,ns,n+1+10*i,d,rfl,v.seq R,hl,J,L,fun x Z D hx1 hx2=>?_⟩
   refine⟨by show 1<=sizeLine;decide,fun q hq=>?_⟩
   have G:zB Z (upd Z q (.tup [sv x])):=zB.upd1 hq
   have nx:∀b∈bk++[x],yE b/\b.length<=d:=fun b hb=>by
    rcases bj.mp hb with z|z
    ·exact g b z
    ·have:b=x:=by simpa using z
     rw[this];exact⟨hx1,hx2⟩
   cases bk with
   |nil=>exact .inl ⟨p,q,_,rfl,rfl,.of (G _ _ (D _ _ C)),.of zI,X _ _ ⟨q,[x],_,rfl,(v.trans D).trans G,zI,by rw[<-e];rfl,nx⟩⟩
   |cons c cs=>
    refine .inr ⟨p,q,_,_,rfl,rfl,.of (G _ _ (D _ _ C)),.of zI,by simp[zE],?_,fun z=>by simp at z,fun _ r N=>X _ _ ⟨r,(c::cs)++[x],_,rfl,((v.trans D).trans G).trans (zB.upd1 N),?_,by rw[aA,e];rfl,nx⟩⟩
    ·have:(zE (c::cs)).length=i:=by rw[<-e];simp[zE]
     rw[this,bg]
     show i+1<=_
     omega
    ·rw[zI]
     unfold zE
     rw[aJ];rfl
  ·rintro σ u ⟨p,bk,y,rfl,v,C,e,g⟩
   rw[aj,cj,o]at e
   exact⟨_,rfl,k p bk u v C (by omega) (by omega) g⟩
end
theorem zGt (a b:S):tx a++tx b=tx (a++b):=by
 apply MyS.Str_ext
 show((tx a).cps++(tx b).cps).toList=_
 simp[tx]
theorem zBe {d:bN}{A B:Prop}(hd:d.canLay0=true)(h:B):if(if true=true then !PyData.eqv d d else dO d d)=true then A else B:=by
 rw[zBL d hd];exact h
theorem zMY {t:S}(h:∀c∈t,c<=122):jv (tx t)=true:=by
 unfold jv
 rw[mF]
 intro c b
 have a:c∈t:=by simpa [tx]using b
 have:=h c a
 exact decide_eq_true (by omega)
theorem zGu {c:List bN}(h:∀d∈c,d.canLay0=true/\d.depth<=10):cX (.list c)=true/\(PyData.list c).canLay0=true:=by
 have f:cC c=true:=by
  induction c with
  |nil=>rfl
  |cons d c ih=>simp only[cC,(h d (aq ..)).1,ih fun e he=>h e (az _ he),f7]
 have j:gv c<=10:=by
  clear f
  induction c with
  |nil=>decide
  |cons d c ih=>
   have a:=(h d (aq ..)).2
   have b:=ih (fun e he=>h e (az _ he))
   simp only[gv];omega
 have g:(PyData.list c).canLay0=true:=by simp only[dz];exact f
 have i:(PyData.list c).depth<=64:=by simp only[hV];omega
 unfold cX
 rw[g,decide_eq_true i];exact⟨rfl,rfl⟩
end Kn
end
section
namespace L2
open PySem PySem.Spec PyProof.Rows
structure Flown (P:aB) (w:aL) (outer:List Env) (H:Hp) (s:ak) (e:ai) (cls a0:ae) (B:ba) (H':Hp) (s':ak):Prop where
 os:s'.os=s.os
 bare:gy s'.gens
 fly:Heap.FlyingW B outer e cls a0 s'.heap
 trB:∀b u,H' b=some u->∃o,B.get? b=some o
 hok:zV P w H' s'.heap
 keep:∀b o,s.heap.get? b=some o->H b=none->b∉yV outer->B.get? b=some o
 slot:∀b o,s.heap.get? b=some o->b∈yV outer->H b=none->∃sl,s'.heap.get? b=some {o with slots:=sl}
 free:∀b o,s.heap.get? b=some o->H b=none->H' b=none
 there:∀b o,s.heap.get? b=some o->b∉yV outer->∃o',B.get? b=some o'
 tups:∀b xs,H b=some (.tup xs)->H' b=some (.tup xs)
 frzs:∀b o u,H b=some (.frz o u)->H' b=some (.frz o u)
 tbls:∀b ps,H b=some (.tbl ps)->∃more,H' b=some (.tbl (ps++more))
 ef:H' e=none
def uP (P:aB)(w:aL):uN:=fun outer H s E ev s'=>∃(e:ai) (cls a0:ae) (B:ba) (H':Hp),ev=.ref e/\Flown P w outer H s e cls a0 B H' s'/\E cls none H'
section
variable{P:aB}{w:aL}{outer:List Env}{H H':Hp}{s s':ak}{e:ai}{cls a0:ae}{B h':ba}
theorem zGv (ok:zV P w H' s'.heap)(trB:∀b u,H' b=some u->∃o,B.get? b=some o)(st:B.StaysIn s'.heap)(c:B.StaysIn h'):zV P w H' h':=fun a u q=>by
 refine(ok a u q).stay (fun b v i r=>?_) (fun _ z=>z) fun _ _ z=>z
 have d:∃f,H' b=some f:=by
  rcases i with z|z
  ·rw[z];exact⟨u,q⟩
  ·exact⟨_,z⟩
 obtain⟨f,g⟩:=d
 obtain⟨o,h⟩:=trB b f g
 have:=st b o h
 rw[r]at this
 cases this
 exact c b _ h
end
section
variable{X:Cx}{pins:List (ai×Obj)}{σ:St}{H H':Hp}{s s':ak}{e:ai}{cls a0:ae}{B h':ba}
theorem Inv.nstk (I:Inv X pins σ H s){b:ai}{o:Obj}(q:X.s₀.heap.get? b=some o)(a:b∉X.fs):b∉yV X.stack:=fun z=>by
 rcases aD.mp (I.stkSub b z)with r|r
 ·exact absurd (bc (aC q) I.ok.above) (by rw[r];exact bw _)
 ·exact a r
theorem zDU (c:X.stack=X.env::X.outer){b:ai}(a:b∈X.fs):b∈yV X.stack:=by
 rw[c]
 unfold yV
 rw[eT]
 cases X.env.frame with
 |none=>exact a
 |some L=>exact az _ a
theorem Flown.leaves (I:Inv X pins σ H s)(j:X.stack=X.env::X.outer)(r:X.env.frame=some X.env.locals)(v:X.ex=[])(F:Flown X.prog X.w X.stack H s e cls a0 B H' s'){Q:Unit->ak->Prop}{E:ae->ak->Prop}{M:qm}
  (x:∀f,Flown X.prog X.w X.outer X.H₀ X.s₀ e cls a0 B H' f->Q () f):wpAny M X.A (leaving X.env (.ref e)) Q E s':=by
 have fly:=F.fly
 rw[j]at fly
 have g:=F.fly.2.2.1
 refine wpAny_leaves_onW (by rw[<-j];exact I.ok.frames) r fly fun h' c up=>x _ ?_
 have a:∀b:ai,b∉X.ex:=fun b z=>by rw[v]at z;cases z
 refine⟨F.os.trans I.os,F.bare,c,F.trB,zGv F.hok F.trB F.fly.1 c.1,fun b o q n d=>?_,fun b o q d n=>?_,fun b o q n=>?_,fun b o q d=>?_,fun b xs q=>F.tups b xs (I.base.tups b xs q),fun b o u q=>F.frzs b o u (I.base.frzs b o u q),fun b y q=>?_,F.ef⟩
 ·exact F.keep b o (I.base.keep b o q n d (a b)) (I.base.free b o q n (a b)) (I.nstk q d)
 ·obtain⟨G,z⟩:=I.base.slot b o q n d (a b)
  obtain⟨C,p⟩:=F.slot b _ z (zDU j d) (I.base.free b o q n (a b))
  obtain⟨_,l,h,hd⟩:=g.mem (show b∈X.stack.filterMap (·.frame)from zDU j d)
  rw[p]at h
  cases h
  obtain⟨i,m⟩:=up b _ p hd
  exact⟨i,m⟩
 ·obtain⟨l,z⟩:=I.base.there b o q (a b)
  exact F.free b l z (I.base.free b o q n (a b))
 ·obtain⟨l,z⟩:=I.base.there b o q (a b)
  exact F.there b l z (I.nstk q d)
 ·obtain⟨m1,e1⟩:=I.base.tbls b y q
  obtain⟨m2,D⟩:=F.tbls b _ e1
  exact⟨m1++m2,by rw[D,mw]⟩
theorem zMZ {C:ai}{vs:List ae}(I:Inv X pins σ H s)(i:X.stack=X.env::X.outer)(x:X.env.frame=some X.env.locals)(y:X.ex=[])(j:oW s.heap h' e (.ref C) vs){Q:Unit->ak->Prop}{E:ae->ak->Prop}{M:qm}
  (D:∀d a0 B,Flown X.prog X.w X.outer X.H₀ X.s₀ e (.ref C) a0 B H d->Q () d):wpAny M X.A (leaving X.env (.ref e)) Q E {s with heap:=h'}:=by
 have r:=I.stack
 have l:∀env∈X.stack,∀b,env.frame=some b->b∈yV X.stack:=fun env he b a=>ij.mpr ⟨env,he,a⟩
 have f:=PySem.W.funFrames_hide (as:=yV X.stack) r l
 rw[i]at f
 have c:∀b:ai,b∉X.ex:=fun b z=>by rw[y]at z;cases z
 refine wpAny_leaves_madeW (base:=eX s.heap (yV X.stack)) (by rw[<-i];exact I.ok.frames) x (fun b o q=>ie _ q) (by rw[i];exact f) j fun G t fly tup bt up=>D _ (.ref t) (eX s.heap (yV X.stack)) ?_
 have trB:∀b u,H b=some u->∃o,(eX s.heap (yV X.stack)).get? b=some o:=fun b u q=>by
  obtain⟨o,F⟩:=(I.hok b u q).obj
  exact⟨o,eS _ F fun z=>by rw[I.stkFree b z]at q;cases q⟩
 have m:(eX s.heap (yV X.stack)).StaysIn s.heap:=fun b o q=>ie _ q
 refine⟨I.os,I.bare,fly,trB,zGv (s':=s) I.hok trB m fly.1,fun b o q n a=>?_,fun b o q a n=>?_,fun b o q n=>I.base.free b o q n (c b),fun b o q a=>?_,I.base.tups,I.base.frzs,I.base.tbls,I.hok.free j.new⟩
 ·exact eS _ (I.base.keep b o q n a (c b)) (I.nstk q a)
 ·obtain⟨J,z⟩:=I.base.slot b o q n a (c b)
  obtain⟨_,v,g,hd⟩:=r.mem (show b∈X.stack.filterMap (·.frame)from zDU i a)
  rw[z]at g
  cases g
  obtain⟨h,p⟩:=up b _ (j.keeps b _ z) hd
  exact⟨h,p⟩
 ·obtain⟨v,z⟩:=I.base.there b o q (c b)
  exact⟨v,eS _ z (I.nstk q a)⟩
end
structure XOk (X:Cx) (E:XK):Prop where
 made:∀(pins:List (ai×Obj)) (σ:St) (H:Hp) (s:ak) (h':ba) (e C:ai) (vs:List ae),Inv X pins σ H s->oW s.heap h' e (.ref C) vs->E (.ref C) none H->X.xe (.ref e) {s with heap:=h'}
 pass:jH (uP X.prog X.w) X E
theorem zMa {P:aB}{w:aL}{K:aa}{mg:Str->Option ae}{base:ba}{N:List Str}{a:Str}{scope:eA}{f:ai}{i:ae}{A:bJ}{outer:List Env}{s:ak}{H:Hp}{E:XK} :
  XOk (jZ (uP P w) P w K mg base N a scope f i A outer s H E) E where
 made:=fun b σ h j h' e C vs I l c=>zMZ I rfl rfl rfl l fun d g B F=>⟨e,_,g,B,h,rfl,F,c⟩
 pass:=fun b σ h j ev s' I zq=>by
  obtain⟨e,cls,g,B,H',he,F,c⟩:=zq
  subst he
  exact Flown.leaves I rfl rfl rfl F fun d m=>⟨e,cls,g,B,H',rfl,m,c⟩
abbrev zGw:List ae:=[.type "ValueError",.type "Exception",.type "BaseException",.type "object"]
structure XCls (K:aa) (mg:Str->Option ae) (x:Str) (C:ai):Prop where
 bound:mg x=some (.ref C)
 exc:iU K C zGw "ValueError.__new__"=true
theorem zMb {K:aa}{h:ba}{C:ai}{a:String}{c:List ae}(X:K.In h)(q:iU K C c a=true) :
  ∃bm N nm q bs hdct sn sub ab col dd k0 k1 k2 k3 k5 mN,h.get? C=some (excClassObj nm q C N bs bm hdct sn sub ab col dd k0 k1 k2 k3 k5 a)/\h.Ns N mN/\mN "__init__"=none/\OwnTail h c bm/\∃e,K.lookup C=some ⟨.type "type",dd,.cls e,#[k0,k1,k2,k3,some (.builtin a),k5]⟩/\e.mro=.ref C::bm:=by
 unfold iU at q
 split at q
 ·rename_i dd e g i
  split at q
  ·rename_i s bm k0 k1 k2 k3 n k5 j m
   simp only[aY,beq_iff_eq,Bool.not_eq_true']at q
   obtain⟨⟨⟨⟨⟨rfl,rfl⟩,b⟩,o⟩,hok⟩,d⟩:=q
   obtain⟨nm,bs,p,ns,r,hd,sn,sub,ab,col,del⟩:=e
   dsimp only at j b hok d
   subst j b
   have f:g=#[k0,k1,k2,k3,some (.builtin n),k5]:=by
    obtain⟨l⟩:=g
    simp only at m
    rw[m]
   subst f
   exact⟨bm,ns,nm,r,bs,hd,sn,sub,ab,col,dd,k0,k1,k2,k3,k5,_,X _ _ i,.of_isNs (PySem.W.isNs_of_in X hok),PySem.W.nsMap_none_of_in X hok d,PySem.W.tail_of_in X o,_,i,rfl⟩
  ·cases q
 ·cases q
def zMc (C:ai)(E:XK)(t:TA):TS:=fun _ σ H=>t σ H fun vs H1=>vs.length<=sizeLine/\E (.ref C) none H1
section
variable{X:Cx}
theorem zGx {E:XK}{x:Str}{C:ai}{np a pos:Pos}{g:bD}{d:List bD}{t:TA}(ok:XOk X E)(n:X.calm=true)(O:XCls X.K X.mg x C)(o:Gl X x)(p:PA X (g::d) t)
  (he:starEach (g::d) X.env=(false,eval g X.env)::starEach d X.env:=by rfl) (b:(backTo a (starEach d X.env)).any (·.1)=false:=by rfl) (j:(x==("__debug__" : Str))=false:=by decide) :
  PS X (.Raise (some (.Call (.Name x np) (g::d) [] a)) none pos) (zMc C E t):=by
 intro c s σ H D I h
 obtain⟨u,N,nm,q,bs,hdct,sn,sub,ab,col,dd,k0,k1,k2,k3,k5,mN,v,w,l,T,_⟩:=zMb I.mod.kin O.exc
 refine wpAny_Raise_call_subU (C:=C) (nm:=nm) (q:=q) (N:=N) (bs:=bs) (bm:=u) (hdct:=hdct) (sn:=sn) (sub:=sub) (ab:=ab) (col:=col) (dd:=dd) (k0:=k0) (k1:=k1) (k2:=k2) (k3:=k3) (k5:=k5)
  eL (by decide) eL (mN:=mN) (T.hasType eL.hasBase) (I.ok.hd n) (by rw[he];show(false||(backTo a (starEach d X.env)).any (·.1))=false;rw[b];rfl) l ?_
 refine zAt I o O.bound ⟨rfl,?_⟩ j
 have f:=p a c s σ H _ I h
 rw[he]at f⊢
 refine eK (b8 f (fun vs z A=>?_) fun _ _ y=>y)
 obtain⟨us,B,i,r,m⟩:=A
 exact⟨rfl,by rw[<-r.length];exact m.1,i.bk _ _ v,w.keeps i.bk,T.keeps i.bk,fun h' e F=>ok.made c σ B z h' e C vs i F m.2⟩
end
section
variable{P:aB}{w:aL}{K:aa}{mg:Str->Option ae}{base:ba}
theorem Fun.okR {x a:Str}{st:bY}{f:ai}{fd:aE}{N d:List Str}{k:Nat}{sp:Sp}(F:Fun K x a st f fd)(S:FnScope N d (defScope st))(len:∀vs H Q E,sp vs H Q E->vs.length=d.length)
  (c:∀(b:ae) (A:bJ) (outer:List Env) (s:ak) (H:Hp) (vs:List V) (Q:VK) (E:XK),Room k (A.deeper (envOfC a (defScope st) s.heap.objs.size f b))->sp vs H Q E->XOk (jZ (uP P w) P w K mg base N a (defScope st) f b A outer s H E) E->
   ∃t,uU (jZ (uP P w) P w K mg base N a (defScope st) f b A outer s H E) (defBody st) t/\t {nx:=fun _ H'=>Q .non H',rt:=Q} (start N vs) H):FnOk P w K mg base (uP P w) (k+1) f fd d sp:=by
 obtain⟨m,od,kV,h,pm,n,b,ct,i,rfl,j,e⟩:=F.ex
 refine zFL j e S len fun A outer s H vs Q E l g=>?_
 exact c b A outer s H vs Q E l g zMa
def u9 (P:aB)(w:aL)(K:aa)(mg:Str->Option ae)(base:ba)(k:Nat)(x:Str)(ps:List Str)(sp:Sp):Prop :=
 ∃(f:ai) (fd:aE),FnOk P w K mg base (uP P w) k f fd ps sp/\mg x=some (.ref f)/\bU K (.ref f)=true/\vG K fd ps []
theorem gL {X:Cx}{k:Nat}{x:Str}{g:List Str}{sp:Sp}{p pos:Pos}{e:bD}{c:List bD}{t:TA}{E:XK}(C:u9 X.prog X.w X.K X.mg X.base k x g sp)(ok:jH (uP X.prog X.w) X E)(h:Room k X.A)(i:Gl X x)(j:PA X (e::c) t)
  (l:starEach (e::c) X.env=(false,eval e X.env)::starEach c X.env:=by rfl) (a:(backTo pos (starEach c X.env)).any (·.1)=false:=by rfl)
  (d:(x==("__debug__" : Str))=false:=by decide):PE X (.Call (.Name x p) (e::c) [] pos) (jG sp [] E t):=by
 obtain⟨f,fd,G,m,kp,b⟩:=C
 exact zFF G h i m kp b .nil ok j d l a
end
structure RoomB (k:Nat) (A:bJ):Prop where
 dp:A.depth+3*k+5<recursionLimit
 un:A.units+16*k+200<cLine
structure FnB (P:aB) (w:aL) (K:aa) (mg:Str->Option ae) (base:ba) (CX:uN) (k:Nat) (f:ai) (fd:aE) (ps:List Str) (sp:Sp):Prop where
 len:∀vs H Q E,sp vs H Q E->vs.length=ps.length
 run:∀(A:bJ) (outer:List Env) (s:ak) (H:Hp) (args:Args) (us:List ae) (vs:List V) (Q:VK) (E:XK),RoomB k A->Env0 P w K mg base A outer s H->lN s fd args (ps.zip us)->zK vs us->sp vs H Q E->
  codeAny (model P w) A (.call (.ref f) args) (CR CX outer P w H s Q E) s
section
variable{P:aB}{w:aL}{K:aa}{mg:Str->Option ae}{base:ba}
def CalB (P:aB)(w:aL)(K:aa)(mg:Str->Option ae)(base:ba)(k:Nat)(x:Str)(ps:List Str)(sp:Sp):Prop :=
 ∃(f:ai) (fd:aE),FnB P w K mg base zR k f fd ps sp/\mg x=some (.ref f)/\bU K (.ref f)=true/\vG K fd ps []
end
end L2
end
section
namespace Kn
open PySem L2
mutual
def yL (H:Hp):bN->V->Prop
 | .none,v=>v=.non
 | .bool b,v=>v=.bl b
 | .int i,v=>v=.int i
 | .str x,v=>v=.str x
 | .list ds,v=>∃a xs,v=.ref a/\H a=some (.lst xs)/\Thgs H ds xs
 | .tuple ds,v=>∃a xs,v=.ref a/\H a=some (.tup xs)/\Thgs H ds xs
 | .dict _,_=>False
def Thgs (H:Hp):List bN->List V->Prop
 | [],xs=>xs=[]
 |d::ds,xs=>∃y ys,xs=y::ys/\yL H d y/\Thgs H ds ys
end
mutual
theorem yL.same {H H':Hp}(e:zB H H'):∀(d:bN) (v:V),yL H d v->yL H' d v
 | .none,v,h=>h
 | .bool b,v,h=>h
 | .int i,v,h=>h
 | .str x,v,h=>h
 | .list c,v,h=>by
  obtain⟨a,xs,f,g,j⟩:=h
  exact⟨a,xs,f,e _ _ g,Thgs.same e c xs j⟩
 | .tuple c,v,h=>by
  obtain⟨a,xs,f,g,j⟩:=h
  exact⟨a,xs,f,e _ _ g,Thgs.same e c xs j⟩
 | .dict _,v,h=>h
theorem Thgs.same {H H':Hp}(e:zB H H'):∀(a:List bN) (xs:List V),Thgs H a xs->Thgs H' a xs
 | [],xs,h=>h
 |d::a,xs,h=>by
  obtain⟨y,ys,b,c,f⟩:=h
  exact⟨y,ys,b,yL.same e d y c,Thgs.same e a ys f⟩
end
mutual
theorem yL.rep {K:aa}{H:Hp}:∀(d:bN) (v:V),yL H d v->yZ K H d v
 | .none,v,h=>h
 | .bool b,v,h=>h
 | .int i,v,h=>h
 | .str x,v,h=>h
 | .list c,v,h=>by
  obtain⟨a,xs,e,f,g⟩:=h
  exact⟨a,xs,e,.of f,Thgs.reps c xs g⟩
 | .tuple c,v,h=>by
  obtain⟨a,xs,e,f,g⟩:=h
  exact⟨a,xs,e,.of f,Thgs.reps c xs g⟩
 | .dict _,v,h=>h
theorem Thgs.reps {K:aa}{H:Hp}:∀(a:List bN) (xs:List V),Thgs H a xs->Reps K H a xs
 | [],xs,h=>h
 |d::a,xs,h=>by
  obtain⟨y,ys,b,c,e⟩:=h
  exact⟨y,ys,b,yL.rep d y c,Thgs.reps a ys e⟩
end
theorem Thgs.length {H:Hp}:∀{a:List bN}{xs:List V},Thgs H a xs->a.length=xs.length
 | [],xs,h=>by rw[show xs=[]from h];rfl
 |d::a,xs,h=>by
  obtain⟨y,ys,b,_,c⟩:=h
  rw[b,aO,aO,Thgs.length c]
theorem Thgs.get {H:Hp}:∀{a:List bN}{xs:List V}{i:Nat}{y:V},Thgs H a xs->xs[i]?=some y->∃d,a[i]?=some d/\yL H d y
 | [],xs,i,y,h,e=>by rw[show xs=[]from h]at e;simp at e
 |d::a,xs,i,y,h,e=>by
  obtain⟨z,j,b,c,f⟩:=h
  subst b
  cases i with
  |zero=>
   have:z=y:=by simpa using e
   subst this
   exact⟨d,rfl,c⟩
  |succ i=>
   obtain⟨d',e1,g⟩:=Thgs.get (i:=i) f (by simpa using e)
   exact⟨d',by simpa using e1,g⟩
theorem Thgs.strs {H:Hp}:∀(l:List S),Thgs H (l.map fun x=>PyData.str (tx x)) (l.map sv)
 | []=>rfl
 |x::l=>⟨_,_,rfl,rfl,Thgs.strs l⟩
mutual
def sml:bN->Bool
 | .str x=>decide (x.length<=900)&&x.cps.toList.all fun c=>decide (c<128)
 | .list ds=>decide (ds.length<=900)&&smls ds
 | .tuple ds=>decide (ds.length<=900)&&smls ds
 | .dict _=>false
 |_=>true
def smls:List bN->Bool
 | []=>true
 |d::ds=>sml d&&smls ds
end
theorem zGy:∀{a:List bN}{d:bN},smls a=true->d∈a->sml d=true
 |e::a,d,h,b=>by
  have h':sml e=true/\smls a=true:=by simpa [smls]using h
  rcases aD.mp b with z|z
  ·rw[z];exact h'.1
  ·exact zGy h'.2 z
def gM (c:Nat):Bool:=decide (97<=c)&&decide (c<=122)
def uF:bN->Bool
 | .str x=>(decide (1<=x.length)&&decide (x.length<=8))&&x.cps.toList.all gM
 |_=>false
def yO:bN->Bool
 | .tuple ds=>(decide (1<=ds.length)&&decide (ds.length<=8))&&ds.all uF
 |_=>false
def qU:bN->Bool
 | .int i=>decide (1<=i)&&decide (i<=3)
 |_=>false
theorem zMd {d:bN}(h:uF d=true):∃x:S,d=.str (tx x)/\yE x:=by
 cases d with
 |str x=>
  simp only[uF,aY,decide_eq_true_eq,cI,gM]at h
  refine⟨x.cps.toList,by rw[zMR],?_,?_,h.2⟩
  ·have:=h.1.1;simpa [ir]using this
  ·have:=h.1.2;simpa [ir]using this
 |none=>cases h
 |bool b=>cases h
 |int i=>cases h
 |list a=>cases h
 |tuple a=>cases h
 |dict _=>cases h
theorem zMe {x:S}(h:yE x):uF (.str (tx x))=true:=by
 simp only[uF,aY,decide_eq_true_eq,cI,gM,vM,uE]
 exact⟨⟨h.1,h.2.1⟩,h.2.2⟩
theorem zMf {d:bN}(h:yO d=true):∃bk:List S,d=.tuple (bk.map fun x=>PyData.str (tx x))/\isBk bk:=by
 cases d with
 |tuple a=>
  simp only[yO,aY,decide_eq_true_eq,cI]at h
  obtain⟨⟨f,g⟩,j⟩:=h
  have go:∀a:List bN,(∀d∈a,uF d=true)->∃bk:List S,a=bk.map (fun x=>PyData.str (tx x))/\∀x∈bk,yE x:=by
   intro a
   induction a with
   |nil=>intro _;exact⟨[],rfl,by simp⟩
   |cons d a ih=>
    intro hd
    obtain⟨x,rfl,l⟩:=zMd (hd d (aq ..))
    obtain⟨bk,rfl,c⟩:=ih fun e he=>hd e (az _ he)
    refine⟨x::bk,rfl,fun y m=>?_⟩
    rcases aD.mp m with z|z
    ·rw[z];exact l
    ·exact c y z
  obtain⟨bk,rfl,c⟩:=go a j
  rw[aj]at f g
  exact⟨bk,rfl,f,g,c⟩
 |none=>cases h
 |bool b=>cases h
 |int i=>cases h
 |list a=>cases h
 |str x=>cases h
 |dict _=>cases h
theorem zAg {bk:List S}(h:isBk bk):yO (.tuple (bk.map fun x=>PyData.str (tx x)))=true:=by
 simp only[yO,aY,decide_eq_true_eq,cI,aj]
 refine⟨⟨h.lo,h.hi⟩,fun d hd=>?_⟩
 obtain⟨x,a,rfl⟩:=aG.mp hd
 exact zMe (h.nm x a)
theorem Thgs.strs_inv {H:Hp}:∀{l:List S}{xs:List V},Thgs H (l.map fun x=>PyData.str (tx x)) xs->xs=l.map sv
 | [],xs,h=>h
 |x::l,xs,h=>by
  obtain⟨y,ys,b,c,d⟩:=h
  have a:y=sv x:=c
  rw[b,a,Thgs.strs_inv d];rfl
theorem zBf {H:Hp}{d:bN}{v:V}(h:yL H d v)(c:yO d=true):∃(a:ai) (bk:List S),v=.ref a/\H a=some (.tup (zE bk))/\isBk bk/\d=.tuple (bk.map fun x=>PyData.str (tx x)):=by
 obtain⟨bk,rfl,e⟩:=zMf c
 obtain⟨a,xs,rfl,b,f⟩:=h
 rw[Thgs.strs_inv f]at b
 exact⟨a,bk,rfl,b,e,rfl⟩
theorem zMg {H:Hp}{d:bN}{v:V}(h:yL H d v)(a:qU d=true):∃o:Nat,v=.int o/\1<=o/\o<=3:=by
 cases d with
 |int i=>
  simp only[qU,aY,decide_eq_true_eq]at a
  refine⟨i.toNat,?_,by omega,by omega⟩
  rw[show v=.int i from h]
  congr 1
  omega
 |none=>cases a
 |bool b=>cases a
 |list c=>cases a
 |tuple c=>cases a
 |str x=>cases a
 |dict _=>cases a
structure KitF (K:aa):Prop where
 ns:br K (.type "NoneType") (.type "str")=some false
 bs:br K (.type "bool") (.type "str")=some false
 is:br K (.type "int") (.type "str")=some false
 ls:br K (.type "list") (.type "str")=some false
 ts:br K (.type "tuple") (.type "str")=some false
 nt:br K (.type "NoneType") (.type "tuple")=some false
 bt:br K (.type "bool") (.type "tuple")=some false
 it:br K (.type "int") (.type "tuple")=some false
 lt:br K (.type "list") (.type "tuple")=some false
 st:br K (.type "str") (.type "tuple")=some false
 ni:br K (.type "NoneType") (.type "int")=some false
 bi:br K (.type "bool") (.type "int")=some true
 li:br K (.type "list") (.type "int")=some false
 ti:br K (.type "tuple") (.type "int")=some false
 si:br K (.type "str") (.type "int")=some false
theorem zMh {c:Nat}(h:c<128):(c8 letters ⟨#[c]⟩ 0 letters.length 1).isEmpty=!gM c:=by
 have all:∀d:_root_.Fin 128,(c8 letters ⟨#[d.val]⟩ 0 letters.length 1).isEmpty=!gM d.val:=by decide+kernel
 exact all ⟨c,h⟩
section
variable{P:aB}{w:aL}{K:aa}{mg:Str->Option ae}{base:ba}
theorem zMi (KF:KitF K){H:Hp}:∀{d:bN}{v:V},yL H d v->∃t b,TyOf K H v t/\br K t (.type "str")=some b/\(b=true↔∃x,d=.str x)
 | .none,v,h=>by cases(show v=.non from h);exact⟨_,_,.non,KF.ns,by simp⟩
 | .bool b,v,h=>by cases(show v=.bl b from h);exact⟨_,_,.bl _,KF.bs,by simp⟩
 | .int i,v,h=>by cases(show v=.int i from h);exact⟨_,_,.int _,KF.is,by simp⟩
 | .str x,v,h=>by cases(show v=.str x from h);exact⟨_,true,.str _,rfl,by simp⟩
 | .list e,v,h=>by obtain⟨a,xs,rfl,c,_⟩:=h;exact⟨_,_,.lst c,KF.ls,by simp⟩
 | .tuple e,v,h=>by obtain⟨a,xs,rfl,c,_⟩:=h;exact⟨_,_,.tup c,KF.ts,by simp⟩
 | .dict _,v,h=>h.elim
theorem zMj (KF:KitF K){H:Hp}:∀{d:bN}{v:V},yL H d v->∃t b,TyOf K H v t/\br K t (.type "tuple")=some b/\(b=true↔∃c,d=.tuple c)
 | .none,v,h=>by cases(show v=.non from h);exact⟨_,_,.non,KF.nt,by simp⟩
 | .bool b,v,h=>by cases(show v=.bl b from h);exact⟨_,_,.bl _,KF.bt,by simp⟩
 | .int i,v,h=>by cases(show v=.int i from h);exact⟨_,_,.int _,KF.it,by simp⟩
 | .str x,v,h=>by cases(show v=.str x from h);exact⟨_,_,.str _,KF.st,by simp⟩
 | .list c,v,h=>by obtain⟨a,xs,rfl,e,_⟩:=h;exact⟨_,_,.lst e,KF.lt,by simp⟩
 | .tuple c,v,h=>by obtain⟨a,xs,rfl,e,_⟩:=h;exact⟨_,true,.tup e,rfl,by simp⟩
 | .dict _,v,h=>h.elim
def zGz:Sp:=fun vs H Q _=>∃v d,vs=[v]/\yL H d v/\sml d=true/\∀H',zB H H'->Q (.bl (uF d)) H'
theorem zMk {f:ai}{fd:aE}(F:Fun K "is_name" "is_name" zBR f fd)(B:Blt mg)(C:Cst K mg)(KF:KitF K):FnOk P w K mg base zR 1 f fd ["thing"] zGz:=by
 obtain⟨X,hl⟩:=C.letters
 obtain⟨Y,L⟩:=C.ml
 refine F.ok zGP (fun vs H Q E h=>?_) (fun M A outer s H vs Q E Z h=>?_)
 ·obtain⟨v,d,rfl,_⟩:=h;rfl
 ·obtain⟨v,d,rfl,u,G,k⟩:=h
  refine⟨_,zH (yR (PW.pt (kG (vL (vC (yF jM (by rfl) B.isinstance bq (zA (pv 0) (zA (jB (v:=.ty "str") (by rfl) B.str ky rfl) zC)))))
    (kB (vL (zBA qH qH zO (yF zBE (by rfl) B.len bQ (zA (pv 0) zC)) (uL (v:=.int 8) (by rfl) L ⟨_,rfl⟩))))))
    (zJ (zS uV)) yQ)
   (zJ (zS (yF (zAZ rfl) (by rfl) B.all dE (zA (vX (N:=["letter"]) (caps:=[]) rfl (vP (by kernel_rfl)) (zFz (pv 0))
    (fun I C s H ex=>yC (i:=0) nd1 rfl (Or.inl rfl)) (fun I C s H ex=>uX)
    (fun I C s H ex=>jC zEx (pv 0) (uL (v:=.str letters) (by rfl) hl ⟨_,rfl⟩) (by with_unfolding_all rfl))) zC)))),?_⟩
  obtain⟨t,b,m,g,J⟩:=zMi KF u
  refine⟨_,rfl,_,_,t,b,rfl,m,g,b,rfl,?_⟩
  cases b with
  |false=>
   have hd:uF d=false:=by
    cases d with
    |str x=>exact absurd (J.mpr ⟨x,rfl⟩) (by decide)
    |_=>rfl
   rw[hd]at k
   exact vH (vH (k H (zB.refl H)))
  |true=>
   obtain⟨x,rfl⟩:=J.mp rfl
   have n:v=.str x:=u
   subst n
   have o:x.length<=900/\∀c∈x.cps.toList,c<128:=by
    simp only[sml,aY,decide_eq_true_eq,cI]at G
    exact G
   refine yJ ?_
   refine⟨_,rfl,x,rfl,(by rw[bg];omega),_,_,rfl,rfl,_,rfl,?_⟩
   by_cases p:1<=x.length
   ·refine uB (by omega) ⟨_,_,rfl,rfl,_,rfl,?_⟩
    by_cases q:x.length<=8
    ·refine gC (by omega) ?_
     refine⟨_,rfl,_,rfl,?_⟩
     have O:x.cps.toList.length=x.length:=by simp[ir]
     refine uY (zGC x) [] 1 (by rw[aj];omega) (fun i a H'=>zB H H'/\a=((x.cps.toList.take i).map gM).map V.bl) ⟨zB.refl H,rfl⟩ (fun i a H' _ h=>⟨trivial,by rw[h.2,aj,aj,aX];omega⟩) ?_ ?_
     ·rintro i y a H' ys Nx R j T ⟨l,rfl⟩
      obtain⟨y',rfl⟩:=v7 T
      rw[ar]at j
      cases e:x.cps.toList[i]? with
      |none=>rw[e]at j;cases j
      |some c=>
       rw[e]at j
       have r:y=.str ⟨#[c]⟩:=(au j).symm
       subst r
       have hi:i<x.cps.toList.length:=(af.mp e).1
       refine⟨_,rfl,_,_,rfl,rfl,?_⟩
       rw[zMh (o.2 c (aF e)),Bool.not_not]
       refine R _ _ [some (.str ⟨#[c]⟩)] rfl ⟨l,?_⟩
       rw[av hi,(af.mp e).2,aJ,aJ];rfl
     ·rintro a H' ⟨l,rfl⟩ D U
      rw[aj,aQ]
      refine⟨D,_,rfl,.of zI,?_⟩
      have W:((x.cps.toList.map gM).all id)=uF (.str x):=by
       simp only[uF,decide_eq_true p,decide_eq_true q,f7,gb,nA]
       rfl
      rw[W]
      exact k _ (l.upd_new (l.free U))
    ·have hd:uF (.str x)=false:=by simp[uF,q]
     rw[hd]at k
     refine zDO (fun z=>q (by omega)) (k H (zB.refl H))
   ·have hd:uF (.str x)=false:=by simp[uF,p]
    rw[hd]at k
    refine u7 (fun z=>p (by omega)) ?_
    exact⟨false,rfl,vH (k H (zB.refl H))⟩
def zHA:Sp:=fun vs H Q _=>∃v d,vs=[v]/\yL H d v/\sml d=true/\∀H',zB H H'->Q (.bl (yO d)) H'
theorem zMl {f:ai}{fd:aE}(F:Fun K "is_book" "is_book" zBS f fd)(B:Blt mg)(C:Cst K mg)(KF:KitF K)(l:zN P w K mg base 1 "is_name" ["thing"] zGz):FnOk P w K mg base zR 2 f fd ["thing"] zHA:=by
 obtain⟨t8,T⟩:=C.mn
 refine F.ok zGR (fun vs H Q E h=>?_) (fun U A outer s H vs Q E W h=>?_)
 ·obtain⟨v,d,rfl,_⟩:=h;rfl
 ·obtain⟨v,d,rfl,L,M,k⟩:=h
  refine⟨_,zH (yR (PW.pt (kG (vL (vC (yF jM (by rfl) B.isinstance bq (zA (pv 0) (zA (jB (v:=.ty "tuple") (by rfl) B.tuple ja rfl) zC)))))
    (kB (vL (zBA qH qH zO (yF qK (by rfl) B.len bQ (zA (pv 0) zC)) (uL (v:=.int 8) (by rfl) T ⟨_,rfl⟩))))))
    (zJ (zS uV)) yQ)
   (zJ (zS (yF (zAZ rfl) (by rfl) B.all dE (zA (vX (N:=["name"]) (caps:=[]) rfl (vP (by kernel_rfl)) (zCH (pv 0))
    (fun O C s H ex=>yC (i:=0) nd2 rfl (Or.inl rfl)) (fun O C s H ex=>uX)
    (fun O C s H ex=>zM l W rfl (zA (pv 0) zC))) zC)))),?_⟩
  obtain⟨t,b,p,m,R⟩:=zMj KF L
  refine⟨_,rfl,_,_,t,b,rfl,p,m,b,rfl,?_⟩
  cases b with
  |false=>
   have hd:yO d=false:=by
    cases d with
    |tuple x=>exact absurd (R.mpr ⟨x,rfl⟩) (by decide)
    |_=>rfl
   rw[hd]at k
   exact vH (vH (k H (zB.refl H)))
  |true=>
   obtain⟨c,rfl⟩:=R.mp rfl
   obtain⟨a,xs,rfl,q,n⟩:=L
   have r:c.length<=900/\smls c=true:=by
    simp only[sml,aY,decide_eq_true_eq]at M
    exact M
   have g:xs.length=c.length:=n.length.symm
   refine yJ ?_
   refine⟨_,rfl,_,_,rfl,.inr (.of q),_,_,rfl,rfl,_,rfl,?_⟩
   by_cases u:1<=c.length
   ·refine uB (by rw[g];omega) ⟨_,_,rfl,rfl,_,rfl,?_⟩
    by_cases G:c.length<=8
    ·refine gC (by rw[g];omega) ?_
     refine⟨_,rfl,a,rfl,⟨_,.of q⟩,?_⟩
     refine uY (zCh _ a xs) [] 1 (by omega) (fun i j H'=>zB H H'/\j=((c.take i).map uF).map V.bl) ⟨zB.refl H,rfl⟩ (fun i j H' _ h=>⟨.of (h.1 _ _ q),by rw[h.2,aj,aj,aX];omega⟩) ?_ ?_
     ·rintro i y j H' ys Nx X Y Z ⟨o,rfl⟩
      obtain⟨y',rfl⟩:=v7 Z
      obtain⟨e,he,I⟩:=n.get Y
      have hi:i<c.length:=(af.mp he).1
      refine⟨_,rfl,y,e,rfl,yL.same o _ _ I,zGy r.2 (aF he),fun H5 J=>X _ _ [some y] rfl ⟨o.trans J,?_⟩⟩
      rw[av hi,(af.mp he).2,aJ,aJ];rfl
     ·rintro j H' ⟨o,rfl⟩ D hD
      rw[g,aQ]
      refine⟨D,_,rfl,.of zI,?_⟩
      have e2:((c.map uF).all id)=yO (.tuple c):=by
       simp only[yO,decide_eq_true u,decide_eq_true G,f7,gb,nA]
       rfl
      rw[e2]
      exact k _ (o.upd_new (o.free hD))
    ·have hd:yO (.tuple c)=false:=by simp[yO,G]
     rw[hd]at k
     refine zDO (fun z=>G (by rw[g]at z;omega)) (k H (zB.refl H))
   ·have hd:yO (.tuple c)=false:=by simp[yO,u]
    rw[hd]at k
    refine u7 (fun z=>u (by rw[g]at z;omega)) ?_
    exact⟨false,rfl,vH (k H (zB.refl H))⟩
def zAE (a b:Int):bN->Bool
 | .int i=>decide (a<=i)&&decide (i<=b)
 |_=>false
theorem zMm (d:bN):qU d=zAE 1 3 d:=by
 cases d<;>rfl
def zHB:Sp:=fun vs H Q _=>∃v d a b,vs=[v,.int a,.int b]/\yL H d v/\Q (.bl (zAE a b d)) H
theorem zMn {f:ai}{fd:aE}(F:Fun K "is_whole" "is_whole" zBT f fd)(B:Blt mg)(C:Cst K mg)(KF:KitF K):FnOk P w K mg base zR 1 f fd ["thing","least","most"] zHB:=by
 refine F.ok zGT (fun vs H Q E h=>?_) (fun j A outer s H vs Q E m h=>?_)
 ·obtain⟨v,d,a,b,rfl,_⟩:=h;rfl
 ·obtain⟨v,d,a,b,rfl,g,k⟩:=h
  refine⟨_,zH (yR (PW.pt (kG (vL (vC (yF jM (by rfl) B.isinstance bq (zA (pv 0) (zA (jB (v:=.ty "int") (by rfl) B.int kz rfl) zC)))))
    (kB (vC (yF jM (by rfl) B.isinstance bq (zA (pv 0) (zA (jB (v:=.ty "bool") (by rfl) B.bool ju rfl) zC)))))))
    (zJ (zS uV)) yQ)
   (zJ (zS (zFA qH qH (pv 1) (pv 0) (pv 2)))),?_⟩
  cases d with
  |none=>cases(show v=.non from g);exact⟨_,rfl,_,_,_,false,rfl,.non,KF.ni,_,rfl,vH (vH k)⟩
  |str x=>cases(show v=.str x from g);exact⟨_,rfl,_,_,_,false,rfl,.str _,KF.si,_,rfl,vH (vH k)⟩
  |list l=>obtain⟨a,xs,rfl,c,_⟩:=g;exact⟨_,rfl,_,_,_,false,rfl,.lst c,KF.li,_,rfl,vH (vH k)⟩
  |tuple l=>obtain⟨a,xs,rfl,c,_⟩:=g;exact⟨_,rfl,_,_,_,false,rfl,.tup c,KF.ti,_,rfl,vH (vH k)⟩
  |dict _=>exact g.elim
  |bool b=>
   cases(show v=.bl b from g)
   exact⟨_,rfl,_,_,_,true,rfl,.bl _,KF.bi,_,rfl,yJ ⟨_,rfl,_,_,_,true,rfl,.bl _,(by rfl),_,rfl,vH k⟩⟩
  |int i=>
   cases(show v=.int i from g)
   refine⟨_,rfl,_,_,_,true,rfl,.int _,(by rfl),_,rfl,?_⟩
   refine yJ ?_
   refine⟨_,rfl,_,_,_,false,rfl,.int _,C.ib,_,rfl,?_⟩
   refine yJ ?_
   refine⟨_,rfl,_,rfl,_,_,rfl,rfl,_,rfl,?_⟩
   by_cases c:a<=i
   ·refine uB c ⟨_,rfl,_,_,rfl,rfl,?_⟩
    have e:zAE a b (.int i)=decide (i<=b):=by simp[zAE,c]
    rw[e]at k
    exact k
   ·have e:zAE a b (.int i)=false:=by simp[zAE,c]
    rw[e]at k
    exact u7 c k
def zHC:Sp:=fun vs H Q _=>∃v d,vs=[v]/\yL H d v/\Q (.bl (qU d)) H
theorem zMo {f:ai}{fd:aE}(F:Fun K "is_order" "is_order" zBU f fd)(C:Cst K mg)(a:zN P w K mg base 1 "is_whole" ["thing","least","most"] zHB):FnOk P w K mg base zR 2 f fd ["thing"] zHC:=by
 obtain⟨i,b⟩:=C.mo
 refine F.ok zGV (fun vs H Q E h=>?_) (fun c A outer s H vs Q E e h=>?_)
 ·obtain⟨v,d,rfl,_⟩:=h;rfl
 ·obtain⟨v,d,rfl,g,k⟩:=h
  refine⟨_,zJ (zS (zM a e rfl (zA (pv 0) (zA zO (zA (uL (v:=.int 3) (by rfl) b ⟨_,rfl⟩) zC))))),?_⟩
  rw[zMm]at k
  exact⟨_,rfl,v,d,1,3,rfl,g,k⟩
def zAh (C:ai)(ok:bN->Bool):Sp:=fun vs H Q E=>∃v d,vs=[v]/\yL H d v/\sml d=true/\(ok d=true->∀H',zB H H'->Q .non H')/\(ok d=false->∀H',zB H H'->E (.ref C) none H')
theorem zMp {f:ai}{fd:aE}{C:ai}(F:Fun K "need_book" "need_book" zBV f fd)(O:XCls K mg "NoBook" C)(c1:zN P w K mg base 2 "is_book" ["thing"] zHA):FnOk P w K mg base (uP P w) 3 f fd ["thing"] (zAh C yO):=by
 refine F.okR zGW (fun vs H Q E h=>?_) (fun b A outer s H vs Q E c h ok=>?_)
 ·obtain⟨v,d,rfl,_⟩:=h;rfl
 ·obtain⟨v,d,rfl,g,i,k1,k2⟩:=h
  refine⟨_,zJ (yR (vL (vC (zM c1 c rfl (zA (pv 0) zC)))) (zJ (zGx ok rfl O (by rfl) (zA vW zC))) yQ),?_⟩
  refine⟨_,rfl,v,d,rfl,g,i,fun H' a=>⟨_,rfl,?_⟩⟩
  cases e:yO d with
  |true=>exact yJ (k1 e H' a)
  |false=>exact vH ⟨by show 1<=sizeLine;decide,k2 e H' a⟩
theorem zMq {f:ai}{fd:aE}{C:ai}(F:Fun K "need_order" "need_order" zBW f fd)(O:XCls K mg "NoOrder" C)(c1:zN P w K mg base 2 "is_order" ["thing"] zHC):FnOk P w K mg base (uP P w) 3 f fd ["thing"] (zAh C qU):=by
 refine F.okR zGX (fun vs H Q E h=>?_) (fun a A outer s H vs Q E b h ok=>?_)
 ·obtain⟨v,d,rfl,_⟩:=h;rfl
 ·obtain⟨v,d,rfl,c,g,k1,k2⟩:=h
  refine⟨_,zJ (yR (vL (vC (zM c1 b rfl (zA (pv 0) zC)))) (zJ (zGx ok rfl O (by rfl) (zA vW zC))) yQ),?_⟩
  refine⟨_,rfl,v,d,rfl,c,_,rfl,?_⟩
  cases e:qU d with
  |true=>exact yJ (k1 e H (zB.refl H))
  |false=>exact vH ⟨by show 1<=sizeLine;decide,k2 e H (zB.refl H)⟩
end
end Kn
end
section
namespace L2
open PySem PySem.Spec PyProof.Rows
theorem zV.freeze {P:aB}{w:aL}{H:Hp}{h:ba}{a:ai}{o:Obj}{kvs:List (zU×V)}(x:zV P w H h)(e:H a=some (.dK kvs))(f:h.get? a=some o):zV P w (upd H a (.frz o (.dK kvs))) h:=fun b u eb=>by
 by_cases d:b=a
 ·subst d;rw[zI]at eb;cases eb
  exact⟨f,x b _ e⟩
 ·rw[zF d]at eb
  refine(x b u eb).stay (fun c v _ q=>q) (fun c q=>?_) fun c xs q=>?_
  ·rw[zF (by rintro rfl;rw[e]at q;cases q)];exact q
  ·rw[zF (by rintro rfl;rw[e]at q;cases q)];exact q
theorem zMr {P:aB}{w:aL}{k:zU}{u:ae}(h:(uJ P w).is k u=true):zP (kV k) u:=by
 rw[zIf]at h
 rcases qD h with⟨i,t,rfl,rfl⟩|⟨x,t,rfl,rfl⟩
 ·exact⟨_,rfl⟩
 ·exact⟨_,rfl⟩
theorem zDV {α β:Type}{F:α->β->Prop}:∀{c:List α}{d:List β}{i:Nat}{x:α},mr F c d->c[i]?=some x->∃y,d[i]?=some y/\F x y
 | [],_,i,x,_,h=>by simp at h
 |a::l,[],i,x,p,_=>by cases p
 |a::l,b::m,0,x,p,h=>by
  cases p with
  |cons e f=>cases h;exact⟨b,rfl,e⟩
 |a::l,b::m,i+1,x,p,h=>by
  cases p with
  |cons e f=>
   obtain⟨y,e1,g⟩:=zDV (i:=i) (x:=x) f (by simpa using h)
   exact⟨y,by simpa using e1,g⟩
def Itd (a:ai)(o:Obj)(kvs:List (zU×V)):It where
 go:=fun i H=>H a=some (.frz o (.dK kvs))/\i<kvs.length
 yld:=fun i H x H'=>H'=H/\(kvs.map fun p=>kV p.1)[i]?=some x
 stop:=fun i H=>H a=some (.frz o (.dK kvs))/\kvs.length<=i
theorem zMs (a:ai)(o:Obj)(kvs:List (zU×V)):Known (Itd a o kvs) (kvs.map fun p=>kV p.1) (fun H=>H a=some (.frz o (.dK kvs))) :=
 ⟨fun i H h hi=>⟨h,by simpa using hi⟩,fun i H x H' h y=>⟨y.1,fun _=>y.2⟩,fun H h=>⟨h,by simp⟩⟩
theorem zMt {P:aB}{w:aL}{K:aa}{tg:bD}(a it:ai)(o:Obj)(kvs:List (zU×V))(n ep:Nat)(hn:n=kvs.length)(C:∃N,o.data=.dict N ep):Turn P w K tg (Itd a o kvs) [it] it (fun i h=>h.IsKeyIter it a i n ep) where
 mem:=by simp
 obj:=fun i h st b r=>by
  have e:b=it:=by simpa using r
  subst e
  obtain⟨o,e,c,d⟩:=st
  exact⟨o,e,fun v z=>by rw[d]at z;cases z⟩
 keep:=fun i h h' st k=>st.at fun o e=>k it (by simp) o e
 item:=by
  intro X O R T hc i m s σ H E I L st U
  subst O R T
  obtain⟨g,hi⟩:=U
  obtain⟨z,hS,vs,rel,dd⟩:=jJ I.hok (.inr ⟨o,g⟩)
  obtain⟨j,_⟩:=(show s.heap.get? a=some o/\_ from I.hok a _ g)
  obtain⟨u,l⟩:=dd.dictAt
  have x:u=ep:=by
   obtain⟨o',N,D,_,W,_⟩:=id l
   obtain⟨es',F⟩:=C
   rw[j]at D;cases D
   rw[W]at F;injection F
  subst x
  have f:vs.length=n:=by rw[hn];exact(eE rel).symm
  rw[<-f]at st
  obtain⟨Y,f1,f2,Z,f4,f5⟩:=L it (by simp)
  obtain⟨q,M⟩:∃q,vs[i]?=some q:=⟨_,ao (by omega)⟩
  obtain⟨k,v⟩:=q
  refine wpAny_pyNext_dict_item st l M fun key h' G B sb=>?_
  have I1:Inv X m σ H {s with heap:=h'}:=I.turned (t':=s.toks) (fun b o r e=>(sb.2 b r).trans e) Y f1 Z f4 f5
  obtain⟨oi,e,c,d⟩:=id B
  rw[f]at B
  obtain⟨p,hp,e1,e2⟩:∃p,kvs[i]?=some p/\p.1=k/\zP p.2 v:=by
   have J:i<kvs.length:=hi
   obtain⟨y,hy,hr⟩:=zDV rel (ao J)
   rw[M]at hy;cases hy
   exact⟨_,ao J,hr.1,hr.2⟩
  refine⟨key,rfl,zAP (s:={s with heap:=h'}) e c d (by decide) ⟨kV k,H,I1,zMr G,⟨rfl,?_⟩,B,fun b r=>(L b r).1⟩⟩
  rw[ar,hp,<-e1];rfl
 done:=by
  intro X O R T hc i m s σ H E I L st U
  subst O R T
  obtain⟨g,hi⟩:=U
  obtain⟨z,hS,vs,rel,dd⟩:=jJ I.hok (.inr ⟨o,g⟩)
  obtain⟨j,_⟩:=(show s.heap.get? a=some o/\_ from I.hok a _ g)
  obtain⟨u,l⟩:=dd.dictAt
  have x:u=ep:=by
   obtain⟨o',N,D,_,W,_⟩:=id l
   obtain⟨es',F⟩:=C
   rw[j]at D;cases D
   rw[W]at F;injection F
  subst x
  have f:vs.length=n:=by rw[hn];exact(eE rel).symm
  rw[<-f]at st
  obtain⟨Y,f1,f2,Z,f4,f5⟩:=L it (by simp)
  refine wpAny_pyNext_dict_end (I.ok.hd hc) st l (by rw[lg];omega) fun h' he=>⟨rfl,?_⟩
  exact I.turned (t':=s.toks) (fun b o r e=>he b o r e) Y f1 Z f4 f5
 self:=fun A i s Q E st M=>wpAny_pyIter_keyiter st M
section
variable{X:Cx}{pins:List (ai×Obj)}{σ:St}{H:Hp}{s:ak}{tg:bD}
theorem Inv.freeze {a:ai}{o:Obj}{kvs:List (zU×V)}(I:Inv X pins σ H s)(e:H a=some (.dK kvs))(f:s.heap.get? a=some o):Inv X pins σ (upd H a (.frz o (.dK kvs))) s:=by
 have ne:∀{b:ai} {u:Option HO},H b=u->u≠some (.dK kvs)->b≠a:=fun{b u} q n z=>n (by rw[<-q,z,e])
 refine⟨I.ok,I.os,I.bare,⟨I.base.keep,I.base.slot,fun b ob q n g=>?_,I.base.there,fun b xs q=>?_,fun b ob u q=>?_,fun b h q=>?_⟩,I.loc,I.cell,?_,fun x c q=>?_,fun p q=>?_,I.hok.freeze e f,I.len⟩
 ·have:=I.base.free b ob q n g
  rw[zF (ne this (by simp))];exact this
 ·have:=I.base.tups b xs q
  rw[zF (ne this (by simp))];exact this
 ·have:=I.base.frzs b ob u q
  rw[zF (ne this (by simp))];exact this
 ·obtain⟨m,z⟩:=I.base.tbls b h q
  exact⟨m,by rw[zF (ne z (by simp))];exact z⟩
 ·have:=I.free
  rw[zF (ne this (by simp))];exact this
 ·have:=I.freeC x c q
  rw[zF (ne this (by simp))];exact this
 ·obtain⟨i,d,j⟩:=I.pin p q
  exact⟨i,by rw[zF (ne d (by simp))];exact d,j⟩
def zMu (tl:TE):TI:=fun σ H R=>tl σ H fun x H1=>∃a kvs,x=.ref a/\H1 a=some (.dK kvs)/\∀o,R (Itd a o kvs) (upd H1 a (.frz o (.dK kvs)))
theorem zMv {l:bD}{m:TE}(hl:PE X l m):PI X tg l (zMu m):=by
 intro pins s σ H R I h
 refine zG (hl pins s σ H _ I h) fun v c zq=>?_
 obtain⟨x,n,f,p,r⟩:=zq
 obtain⟨a,kvs,e,g,q⟩:=r
 subst e
 cases p
 obtain⟨z,u,vs,rel,dd⟩:=k8 f.hok g
 obtain⟨ep,d⟩:=dd.dictAt
 obtain⟨o,w,i,_,j,_⟩:=id d
 refine wpAny_pyIter_dict u d ?_
 have y:=(f.freeze g i).kept (t':=c.toks) (h':=c.heap.push {cls:=.type "dict_keyiterator",data:=.fields #[.ref a,.int 0 0,.int vs.length 0,.int ep 0]}) fun b o e=>ag _ e
 refine⟨c.heap.objs.size,[c.heap.objs.size],_,_,upd n a (.frz o (.dK kvs)),rfl,y,zMt a _ o kvs vs.length ep (eE rel).symm ⟨w,j⟩,⟨_,ay _ rfl,rfl,rfl⟩,fun b A=>?_,q o⟩
 have e:b=c.heap.objs.size:=by simpa using A
 subst e
 exact(f.freeze g i).fpOk (aw _) ((f.freeze g i).hok.fresh (aw _))
theorem zV.thaw {P:aB}{w:aL}{H:Hp}{h:ba}{a:ai}{o:Obj}{kvs:List (zU×V)}(x:zV P w H h)(e:H a=some (.frz o (.dK kvs))):zV P w (upd H a (.dK kvs)) h:=fun b u eb=>by
 by_cases d:b=a
 ·subst d;rw[zI]at eb;cases eb
  exact(show h.get? b=some o/\yA P w H h b (.dK kvs)from x b _ e).2
 ·rw[zF d]at eb
  refine(x b u eb).stay (fun c v _ q=>q) (fun c q=>?_) fun c xs q=>?_
  ·rw[zF (by rintro rfl;rw[e]at q;cases q)];exact q
  ·rw[zF (by rintro rfl;rw[e]at q;cases q)];exact q
theorem Inv.thaw {a:ai}{o:Obj}{kvs:List (zU×V)}{pins':List (ai×Obj)}{f:St}{H':Hp}{s':ak}(I:Inv X pins σ H s)(g:Inv X pins' f H' s')(h:H' a=some (.dK kvs))(e:H a=some (.frz o (.dK kvs))):Inv X pins σ (upd H a (.dK kvs)) s:=by
 have ne:∀{b:ai} {u:Option HO},H b=u->u≠some (.frz o (.dK kvs))->b≠a:=fun{b u} q n z=>n (by rw[<-q,z,e])
 refine⟨I.ok,I.os,I.bare,⟨I.base.keep,I.base.slot,fun b ob q n i=>?_,I.base.there,fun b xs q=>?_,fun b ob u q=>?_,fun b j q=>?_⟩,I.loc,I.cell,?_,fun x c q=>?_,fun p q=>?_,I.hok.thaw e,I.len⟩
 ·have:=I.base.free b ob q n i
  rw[zF (ne this (by simp))];exact this
 ·have:=I.base.tups b xs q
  rw[zF (ne this (by simp))];exact this
 ·have:=I.base.frzs b ob u q
  rw[zF (by rintro rfl;have:=g.base.frzs _ ob u q;rw[h]at this;cases this)];exact this
 ·obtain⟨m,z⟩:=I.base.tbls b j q
  exact⟨m,by rw[zF (ne z (by simp))];exact z⟩
 ·have:=I.free
  rw[zF (ne this (by simp))];exact this
 ·have:=I.freeC x c q
  rw[zF (ne this (by simp))];exact this
 ·obtain⟨l,d,r⟩:=I.pin p q
  exact⟨l,by rw[zF (ne d (by simp))];exact d,r⟩
end
theorem zMw:entryFor table "dict_itemiterator.__iter__"=some cc.«dict_keyiterator.__iter__» :=
 lK (id' :="dict_keyiterator.__iter__") (by kernel_rfl) rfl (by decide+kernel) (by kernel_rfl)
section
variable{X:Cx}{elts:List bD}{kk:Nat}{tpos:Pos}{tg:bD}
def zMx (t:TS):TS:=fun D σ H=>∃a kvs,H a=some (.dK kvs)/\t {D with nx:=fun σ' H'=>∃o,H' a=some (.frz o (.dK kvs))/\D.nx σ' (upd H' a (.dK kvs))} σ H
theorem zMy {st:bY}{t:TS}(h:PS X st t):PS X st (zMx t):=by
 intro b s σ H D I q
 obtain⟨a,kvs,d,q⟩:=q
 refine zG (h b s σ H _ I q) fun f l c=>?_
 cases f with
 |next=>
  obtain⟨e,H',g,o,i,j⟩:=c
  exact⟨e,_,g.thaw I d i,j⟩
 |brk=>exact c
 |cont=>exact c
 |ret u=>exact c
end
def ItB (tp:Bool)(h:ba)(it b:ai)(i:Nat):Prop:=if tp=true then h.IsTupleIter it b i else h.IsListIter it b i
theorem ItB.keep {a:Bool}{h h':ba}{it b:ai}{i:Nat}(x:ItB a h it b i)(e:∀o,h.get? it=some o->h'.get? it=some o):ItB a h' it b i:=by
 cases a with
 |true=>exact(show h.IsTupleIter it b i from x).at e
 |false=>exact(show h.IsListIter it b i from x).at e
open AutoSeq1 (wpAny_loadPart')
theorem zMz {J:It}{xs ys:List V}{len:Nat}{Hk:Hp->Prop}(v:∀i H,Hk H->i<len->J.go i H)(w:∀i H,Hk H->i=len->J.stop i H)(z:∀i H x H',Hk H->J.yld i H x H'->∃T s u,x=.ref T/\H T=none/\H'=upd H T (.tup [s,u])/\xs[i]?=some s/\ys[i]?=some u)
  {caps:List Nat} {n:Nat} {σ:St} {g:TG} {L:TT} {te:TE} {F:List V->Hp->Prop} {M:Hp} (l:St) (k:Nat) (U:len<1000)
  (Pv:Nat->List V->Hp->Prop) (N:Pv 0 [] M) (O:∀i a H,i<=len->Pv i a H->Hk H/\a.length<=i)
  (o:∀(i:Nat) (x y:V) (T:ai) (a:List V) (H:Hp) (f:St) (A:List V->St->Hp->Prop),(∀c H' f,f.length=k->Pv (i+1) c H'->A c (l++f) H')->xs[i]?=some x->ys[i]?=some y->f.length=k->Pv i a H->H T=none->
   g (.ref T) (l++f) (upd H T (.tup [x,y])) fun d B=>L d B fun b q=>if b=true then te d q fun y j=>A (a++[y]) d j else A a d q)
  (fin:∀a H,Pv len a H->F a H) (C:uO caps n σ=l++aS k none:=by rfl) :
  ∃W:Nat->Nat->List V->St->Hp->Prop,(∃m,W 0 m [] (uO caps n σ) M)/\∀i m a r H',W i m a r H'->
   (J.stop i H'/\F a H')\/
   (J.go i H'/\a.length<sizeLine/\∀x D,J.yld i H' x D->g x r D fun d B=>L d B fun b q=>if b=true then te d q fun y j=>∃h,h<m/\W (i+1) h (a++[y]) d j else∃h,h<m/\W (i+1) h a d q):=by
 refine⟨fun i m a r H'=>i<=len/\m=len-i/\(∃ys,ys.length=k/\r=l++ys)/\Pv i a H',⟨len,bh _,rfl,⟨_,by simp,C⟩,N⟩,?_⟩
 rintro i m a r H' ⟨hi,rfl,⟨f,P,rfl⟩,pv⟩
 obtain⟨E,X⟩:=O i a H' hi pv
 by_cases e:i=len
 ·subst e
  exact .inl ⟨w _ _ E rfl,fin a H' pv⟩
 ·have G:i<len:=by omega
  refine .inr ⟨v _ _ E G,by rw[bg];omega,fun x D I=>?_⟩
  obtain⟨T,s,u,rfl,Q,rfl,e1,R⟩:=z _ _ _ _ E I
  exact o i s u T a H' f (fun c d j=>∃h,h<len-i/\(i+1<=len/\h=len- (i+1)/\(∃ys,ys.length=k/\d=l++ys)/\Pv (i+1) c j)) (fun c j f hz p=>⟨len- (i+1),by omega,by omega,rfl,⟨f,hz,rfl⟩,p⟩) e1 R P pv Q
section
variable{prog:aB}{w:aL}{A:bJ}{E:ae->ak->Prop}{s:ak}
theorem zNA {it d:ai}{i n ep:Nat}{ok j:ae}{o:Obj}{f:Array eM}{e:eM}{Q:ic->ak->Prop}
   (st:fZ s.heap it d i n ep ok j) (I:s.heap.get? d=some o) (z:o.ExactDict) (hd:o.data=.dict f ep) (B:n=f.size) (he:f[i]?=some e)
   (C:∀h':ba,pX h' it d (i+1) n ep e.key e.val s.heap.objs.size->h'.get? s.heap.objs.size=some {cls:=.type "tuple",data:=.seq #[e.key,e.val]}->h'.objs.size=s.heap.objs.size+1->(∀b o,b≠it->s.heap.get? b=some o->h'.get? b=some o)->Q (.done (.ret (.ref s.heap.objs.size))) {s with heap:=h'}) :
   wpAny (model prog w) A (cc.«dict_itemiterator.__next__» ⟨[.ref it],[]⟩) Q E s:=by
 have ty:s.TypeIs (.ref it) "dict_itemiterator" :=⟨_,st,rfl⟩
 obtain⟨y,p,r,l⟩:=o
 obtain⟨c1,c2,D⟩:=z
 simp only at c1 c2 D hd
 subst c1 c2 hd B
 unfold fZ at st
 unfold cc.«dict_itemiterator.__next__»
 wp_walk
 have e1:(if(i:Int)<0 then none else f[(i:Int).toNat]?)=some e:=by
  rw[if_neg (by omega)];simpa using he
 rw[e1]
 clear e1
 dsimp only
 refine ah (zG (Q:=fun b s'=>b=2/\s'=s) ?_ ?_)
 ·wp_walk
  all_goals exact⟨rfl,rfl⟩
 rintro b s' ⟨rfl,rfl⟩
 refine ah (fI ty ?_)
 refine ah (bR st (by simp) fun c g1 k1=>?_)
 replace g1:c.get? it=some {cls:=.type "dict_itemiterator",data:=.fields #[.none,.bool false,.ref d,.int ((i+1:Nat):Int) 0,.int f.size 0,.int ep 0,ok,j]}:=g1
 have lit:it<s'.heap.objs.size:=aC st
 have g:mh {s' with heap:=c} (.ref it) "dict_itemiterator" :=⟨_,g1,rfl⟩
 refine ah (dP ?_)
 show wpAny _ _ (iC (.ref it) _>>=_) _ _ _
 refine ah (fI g ?_)
 show wpAny _ _ (iC (.ref it) _>>=_) _ _ _
 refine ah (fI g ?_)
 show wpAny _ _ (fJ (.ref it) 6 e.key e.val) _ _ _
 unfold fJ
 refine ah (lH ?_)
 have hsz:c.objs.size=s'.heap.objs.size:=k1.1
 have g2:(c.push {cls:=.type "tuple",data:=.seq [e.key,e.val].toArray}).get? it=some {cls:=.type "dict_itemiterator",data:=.fields #[.none,.bool false,.ref d,.int ((i+1:Nat):Int) 0,.int f.size 0,.int ep 0,ok,j]}:=ag _ g1
 unfold mj
 refine ah (ah (nZ (i:=0) g2 rfl (x:=.none) rfl (ax ?_)))
 simp only[if_true]
 refine ah (nZ (i:=6) g2 rfl (x:=ok) rfl ?_)
 refine ah (nZ (i:=7) g2 rfl (x:=j) rfl ?_)
 refine ah (bR g2 (by simp) fun J g3 k3=>?_)
 refine ah (bR g3 (by simp) fun L F u=>?_)
 refine ah (bR F (by simp) fun M G k5=>?_)
 refine ah (bR G (by simp) fun m H v=>?_)
 refine ah (wpAny_letGo ?_)
 refine ax (ax ?_)
 have a:c.objs.size≠it:=by rw[hsz];exact dH lit
 have tup:m.get? c.objs.size=some {cls:=.type "tuple",data:=.seq #[e.key,e.val]} :=
  (v.2 _ a).trans ((k5.2 _ a).trans ((u.2 _ a).trans ((k3.2 _ a).trans (ay _ rfl))))
 have size:m.objs.size=c.objs.size+1:=by
  rw[v.1,k5.1,u.1,k3.1,bz]
 have keep:∀b o,b≠it->s'.heap.get? b=some o->m.get? b=some o:=fun b o h q=>
  (v.2 _ h).trans ((k5.2 _ h).trans ((u.2 _ h).trans ((k3.2 _ h).trans (ag _ ((k1.2 _ h).trans q)))))
 show Q (.done (.ret (.ref c.objs.size))) _
 rw[hsz]
 refine C m ?_ (by rw[<-hsz];exact tup) (by rw[size,hsz]) keep
 rw[<-hsz]
 exact H
theorem zNB {it d:ai}{i n ep:Nat}{ok c:ae}{o:Obj}{a:Array eM}{e:eM}{Q:Option ae->ak->Prop}
   (st:fZ s.heap it d i n ep ok c) (f:s.heap.get? d=some o) (g:o.ExactDict) (hd:o.data=.dict a ep) (h:n=a.size) (he:a[i]?=some e)
   (j:∀h':ba,pX h' it d (i+1) n ep e.key e.val s.heap.objs.size->h'.get? s.heap.objs.size=some {cls:=.type "tuple",data:=.seq #[e.key,e.val]}->h'.objs.size=s.heap.objs.size+1->(∀b o,b≠it->s.heap.get? b=some o->h'.get? b=some o)->Q (some (.ref s.heap.objs.size)) {s with heap:=h'}) :
   wpAny (model prog w) A (pyNext (.ref it)) Q E s:=by
 have ty:s.TypeIs (.ref it) "dict_itemiterator" :=⟨_,st,rfl⟩
 unfold pyNext
 exact ah (gc (da (name:=eR "__next__") ty b6 (b5 b6 ty f6 (zNA st f g hd h he fun h' l m p q=>⟨_,rfl,ax (j h' l m p q)⟩) (fP _))))
theorem zNC {it d:ai}{i n ep:Nat}{ok j:ae}{o:Obj}{a:Array eM}{Q:ic->ak->Prop}(l:A.handled=none)
   (st:fZ s.heap it d i n ep ok j) (x:s.heap.get? d=some o) (m:o.ExactDict) (hd:o.data=.dict a ep) (p:n=a.size) (he:a[i]?=none)
   (r:∀h' e,qx it s.heap h'->(∃o,h'.get? e=some o/\o.cls=.type "StopIteration")->E (.ref e) {s with heap:=h'}) :
   wpAny (model prog w) A (cc.«dict_itemiterator.__next__» ⟨[.ref it],[]⟩) Q E s:=by
 have ty:s.TypeIs (.ref it) "dict_itemiterator" :=⟨_,st,rfl⟩
 obtain⟨h,f,g,c⟩:=o
 obtain⟨c1,c2,u⟩:=m
 simp only at c1 c2 u hd
 subst c1 c2 hd p
 unfold fZ at st
 unfold cc.«dict_itemiterator.__next__»
 wp_walk
 have e1:(if(i:Int)<0 then none else a[(i:Int).toNat]?)=none:=by
  rw[if_neg (by omega)];simpa using he
 rw[e1]
 clear e1
 dsimp only
 refine ah (zG (Q:=fun b s'=>b=2/\s'=s) ?_ ?_)
 ·wp_walk
  all_goals exact⟨rfl,rfl⟩
 rintro b s' ⟨rfl,rfl⟩
 refine ah (bR st (by simp) fun y g1 k1=>?_)
 refine ah ?_
 unfold newExc
 wp_walk
 refine wpAny_raiseNew_none l (r _ _ (fun b o v q=>ag _ (ag _ ((k1.2 _ v).trans q))) ⟨_,ay _ rfl,rfl⟩)
theorem zND {it d:ai}{i n ep:Nat}{ok f:ae}{o:Obj}{a:Array eM}{Q:Option ae->ak->Prop}(g:A.handled=none)
   (st:fZ s.heap it d i n ep ok f) (h:s.heap.get? d=some o) (j:o.ExactDict) (hd:o.data=.dict a ep) (l:n=a.size) (he:a[i]?=none)
   (m:∀h',qx it s.heap h'->Q none {s with heap:=h'}):wpAny (model prog w) A (pyNext (.ref it)) Q E s:=by
 have ty:s.TypeIs (.ref it) "dict_itemiterator" :=⟨_,st,rfl⟩
 unfold pyNext
 refine ah (gc (da (name:=eR "__next__") ty b6 (b5 b6 ty f6 (zNC (by simp[g]) st h j hd l he fun h' e p q=>?_) (fP _))))
 obtain⟨r,c,u⟩:=q
 refine ah (jb (T :="StopIteration") (b:=true) ⟨r,c,u⟩ oX ?_)
 exact ax (m h' p)
theorem zNE {d:ai}{o:Obj}{f:Array eM}{ep:Nat}{Q:ic->ak->Prop}(j:(d==sysModules)=false)(l:s.heap.get? d=some o)(g:o.ExactDict)(hd:o.data=.dict f ep)
  (h:Q (.done (.ret (.ref s.heap.objs.size))) {s with heap:=s.heap.push {cls:=.type "dict_items",data:=.fields #[.ref d]}}) :
  wpAny (model prog w) A (cc.«dict.items» ⟨[.ref d],[]⟩) Q E s:=by
 obtain⟨e,b,c,a⟩:=o
 obtain⟨c1,c2,i⟩:=g
 simp only at c1 c2 i hd
 subst c1 c2 hd
 unfold cc.«dict.items»
 wp_walk
 exact h
theorem zNF {p d:ai}{o:Obj}{e:Array eM}{ep:Nat}{Q:ic->ak->Prop}(j:s.heap.get? p=some {cls:=.type "dict_items",data:=.fields #[.ref d]})(l:s.heap.get? d=some o)(g:o.ExactDict)(hd:o.data=.dict e ep)
  (h:Q (.done (.ret (.ref s.heap.objs.size))) {s with heap:=s.heap.push {cls:=.type "dict_itemiterator",data:=.fields #[.none,.bool false,.ref d,.int 0 0,.int e.size 0,.int ep 0,.none,.none]}}) :
  wpAny (model prog w) A (cc.«dict_items.__iter__» ⟨[.ref p],[]⟩) Q E s:=by
 obtain⟨f,b,c,a⟩:=o
 obtain⟨c1,c2,i⟩:=g
 simp only at c1 c2 i hd
 subst c1 c2 hd
 unfold cc.«dict_items.__iter__» px nU
 wp_walk
 exact h
end
theorem zBg {P:aB}{w:aL}{H:Hp}{h:ba}{a:ai}{o:Obj}{kvs:List (List zW×V)}(ok:yA P w H h a (.dT kvs))(g:h.get? a=some o) :
  (a==sysModules)=false/\o.ExactDict/\∃c ep,o.data=.dict c ep/\c.size=kvs.length/\∀(i:Nat) (q:List zW×V),kvs[i]?=some q->∃e b,c[i]?=some e/\e.key=.ref b/\H b=some (.tup (q.1.map vV))/\zP q.2 e.val:=by
 obtain⟨z,y,xs,r,v,c,ep,d,j,l,f,A⟩:=ok
 rw[g]at d
 cases d
 have hl:c.size=kvs.length:=by
  have e1:=congrArg qp f
  rw[aj,<-eE r]at e1
  simpa using e1
 refine⟨y,j,c,ep,l,hl,fun i q m=>?_⟩
 obtain⟨x,n,e1,p,s⟩:=zDV r m
 have u:c.toList[i]?=some (entryOfKey (tupleKind (jA P w)) x):=by rw[f,ar,n];rfl
 exact⟨_,x.2.1,by simpa using u,rfl,p,s⟩
section
variable{X:Cx}{pins:List (ai×Obj)}{σ:St}{H:Hp}{s:ak}
def zNG:V->List V->Hp->VK->Prop:=fun x vs H Q=>∃d kvs,x=.ref d/\vs=[]/\H d=some (.dT kvs)/\∀p,H p=none->Q (.ref p) (upd H p (VW p d))
theorem zHD:MtM X "dict.items" zNG:=by
 intro pins s σ H x vs v us Q I i j h
 obtain⟨d,kvs,rfl,rfl,hd,q⟩:=h
 cases i
 have c:=j.zero
 subst c
 have ok:yA X.prog X.w H s.heap d (.dT kvs):=I.hok d _ hd
 obtain⟨_,_,_,_,o,_,_,f,_⟩:=id ok
 obtain⟨l,g,m,ep,a,_⟩:=zBg ok f
 have ty:s.TypeIs (.ref d) "dict" :=⟨o,f,g.1⟩
 refine b5 fj ty PySem.F.entry_dict_items (zNE l f g a ⟨_,rfl,?_⟩) (PySem.F.args_dict_items_1 _)
 refine⟨.ref s.heap.objs.size,_,I.laid (t':=s.toks) (o:=VW s.heap.objs.size d) (fun b o e=>ag _ e) (aw _) ?_,rfl,q _ (I.hok.fresh (aw _))⟩
 exact⟨ay _ rfl,⟨_,ay _ rfl⟩,fun n p e k=>k _ e⟩
theorem zV.freezeT {P:aB}{w:aL}{H:Hp}{h:ba}{a:ai}{o:Obj}{kvs:List (List zW×V)}(x:zV P w H h)(e:H a=some (.dT kvs))(f:h.get? a=some o):zV P w (upd H a (.frz o (.dT kvs))) h:=fun b u eb=>by
 by_cases d:b=a
 ·subst d;rw[zI]at eb;cases eb
  refine⟨f,(x b _ e).stay (fun c v _ q=>q) (fun c q=>?_) fun c xs q=>?_⟩
  ·rw[zF (by rintro rfl;rw[e]at q;cases q)];exact q
  ·rw[zF (by rintro rfl;rw[e]at q;cases q)];exact q
 ·rw[zF d]at eb
  refine(x b u eb).stay (fun c v _ q=>q) (fun c q=>?_) fun c xs q=>?_
  ·rw[zF (by rintro rfl;rw[e]at q;cases q)];exact q
  ·rw[zF (by rintro rfl;rw[e]at q;cases q)];exact q
theorem Inv.freezeT {a:ai}{o:Obj}{kvs:List (List zW×V)}(I:Inv X pins σ H s)(e:H a=some (.dT kvs))(f:s.heap.get? a=some o):Inv X pins σ (upd H a (.frz o (.dT kvs))) s:=by
 have ne:∀{b:ai} {u:Option HO},H b=u->u≠some (.dT kvs)->b≠a:=fun{b u} q n z=>n (by rw[<-q,z,e])
 refine⟨I.ok,I.os,I.bare,⟨I.base.keep,I.base.slot,fun b ob q n g=>?_,I.base.there,fun b xs q=>?_,fun b ob u q=>?_,fun b h q=>?_⟩,I.loc,I.cell,?_,fun x c q=>?_,fun p q=>?_,I.hok.freezeT e f,I.len⟩
 ·have:=I.base.free b ob q n g
  rw[zF (ne this (by simp))];exact this
 ·have:=I.base.tups b xs q
  rw[zF (ne this (by simp))];exact this
 ·have:=I.base.frzs b ob u q
  rw[zF (ne this (by simp))];exact this
 ·obtain⟨m,z⟩:=I.base.tbls b h q
  exact⟨m,by rw[zF (ne z (by simp))];exact z⟩
 ·have:=I.free
  rw[zF (ne this (by simp))];exact this
 ·have:=I.freeC x c q
  rw[zF (ne this (by simp))];exact this
 ·obtain⟨i,d,j⟩:=I.pin p q
  exact⟨i,by rw[zF (ne d (by simp))];exact d,j⟩
theorem zV.thawT {P:aB}{w:aL}{H:Hp}{h:ba}{a:ai}{o:Obj}{kvs:List (List zW×V)}(x:zV P w H h)(e:H a=some (.frz o (.dT kvs))):zV P w (upd H a (.dT kvs)) h:=fun b u eb=>by
 by_cases d:b=a
 ·subst d;rw[zI]at eb;cases eb
  refine(show h.get? b=some o/\yA P w H h b (.dT kvs)from x b _ e).2.stay (fun c v _ q=>q) (fun c q=>?_) fun c xs q=>?_
  ·rw[zF (by rintro rfl;rw[e]at q;cases q)];exact q
  ·rw[zF (by rintro rfl;rw[e]at q;cases q)];exact q
 ·rw[zF d]at eb
  refine(x b u eb).stay (fun c v _ q=>q) (fun c q=>?_) fun c xs q=>?_
  ·rw[zF (by rintro rfl;rw[e]at q;cases q)];exact q
  ·rw[zF (by rintro rfl;rw[e]at q;cases q)];exact q
theorem Inv.thawT {a:ai}{o:Obj}{kvs:List (List zW×V)}{pins':List (ai×Obj)}{f:St}{H':Hp}{s':ak}(I:Inv X pins σ H s)(g:Inv X pins' f H' s')(h:H' a=some (.dT kvs))(e:H a=some (.frz o (.dT kvs))):Inv X pins σ (upd H a (.dT kvs)) s:=by
 have ne:∀{b:ai} {u:Option HO},H b=u->u≠some (.frz o (.dT kvs))->b≠a:=fun{b u} q n z=>n (by rw[<-q,z,e])
 refine⟨I.ok,I.os,I.bare,⟨I.base.keep,I.base.slot,fun b ob q n i=>?_,I.base.there,fun b xs q=>?_,fun b ob u q=>?_,fun b j q=>?_⟩,I.loc,I.cell,?_,fun x c q=>?_,fun p q=>?_,I.hok.thawT e,I.len⟩
 ·have:=I.base.free b ob q n i
  rw[zF (ne this (by simp))];exact this
 ·have:=I.base.tups b xs q
  rw[zF (ne this (by simp))];exact this
 ·have:=I.base.frzs b ob u q
  rw[zF (by rintro rfl;have:=g.base.frzs _ ob u q;rw[h]at this;cases this)];exact this
 ·obtain⟨m,z⟩:=I.base.tbls b j q
  exact⟨m,by rw[zF (ne z (by simp))];exact z⟩
 ·have:=I.free
  rw[zF (ne this (by simp))];exact this
 ·have:=I.freeC x c q
  rw[zF (ne this (by simp))];exact this
 ·obtain⟨l,d,r⟩:=I.pin p q
  exact⟨l,by rw[zF (ne d (by simp))];exact d,r⟩
end
def kN (a:ai)(o:Obj)(kvs:List (List zW×V)):It where
 go:=fun i H=>H a=some (.frz o (.dT kvs))/\i<kvs.length
 yld:=fun i H x H'=>∃T b q,x=.ref T/\H T=none/\H b=some (.tup (q.1.map vV))/\H'=upd H T (.tup [.ref b,q.2])/\kvs[i]?=some q
 stop:=fun i H=>H a=some (.frz o (.dT kvs))/\kvs.length<=i
theorem zNH {P:aB}{w:aL}{K:aa}{y:List bD}{k:Nat}{pos:Pos}(a it:ai)(o:Obj)(kvs:List (List zW×V))(n ep:Nat)(hn:n=kvs.length)(B:∃U,o.data=.dict U ep) :
  Turn P w K (.Tuple y k pos) (kN a o kvs) [it] it (fun i h=>∃ok j,fZ h it a i n ep ok j) where
 mem:=by simp
 obj:=fun i h st b f=>by
  have e:b=it:=by simpa using f
  subst e
  obtain⟨ok,j,st⟩:=st
  exact⟨_,st,fun v z=>by
   have W:Data.fields _=Data.cell v:=z
   cases W⟩
 keep:=fun i h h' st kk=>let⟨ok,j,st⟩:=st;⟨ok,j,kk it (by simp) _ st⟩
 item:=by
  intro X Y Z hK hc i C s σ H E I T st hg
  subst Y Z hK
  obtain⟨l,hi⟩:=hg
  obtain⟨ok,j,st⟩:=st
  obtain⟨c,m⟩:=(show s.heap.get? a=some o/\yA X.prog X.w H s.heap a (.dT kvs)from I.hok a _ l)
  obtain⟨hm,hx,U,p,hd,d,D⟩:=zBg m c
  have r:p=ep:=by
   obtain⟨es',u⟩:=B
   rw[hd]at u;injection u
  subst r
  have x:i<kvs.length:=hi
  obtain⟨e,b,h1,h2,u,h4⟩:=D i _ (ao x)
  refine zNB st c hx hd (by rw[hn,d]) h1 fun h' G J hsz hk=>?_
  refine⟨_,rfl,wpAny_letOwnedTupleGo_items G fun L ab M=>?_⟩
  have N:s.heap.get? s.heap.objs.size=none:=by
   cases g:s.heap.get? s.heap.objs.size with
   |none=>rfl
   |some o=>exact absurd (aC g) (bw _)
  have O:it<s.heap.objs.size:=aC st
  have ac:L.get? s.heap.objs.size=some {cls:=.type "tuple",data:=.seq #[e.key,e.val]}:=(M.2 _ (dH O)).trans J
  refine⟨.ref s.heap.objs.size,upd H s.heap.objs.size (.tup [.ref b,kvs[i].2]),I.turnedT (fp:=[it]) (h':=L) (t':=s.toks) (fun b ob f q=>?_) T N ⟨by show 2<=sizeLine;decide,[e.key,e.val],.cons (by rw[h2];rfl) (.cons h4 .nil),⟨_,ac,rfl,_,rfl⟩⟩,rfl,
   ⟨_,b,_,rfl,I.hok.free N,u,rfl,ao x⟩,⟨_,_,ab⟩,fun b f=>?_⟩
  ·have R:b≠it:=fun z=>f (by simp[z])
   exact(M.2 b R).trans (hk b ob R q)
  ·rw[zF]
   ·exact(T b f).1
   ·rintro rfl
    have W:s.heap.objs.size=it:=by simpa using f
    exact absurd O (by rw[W];exact bw _)
 done:=by
  intro X Y Z hK hc i C s σ H E I T st hg
  subst Y Z hK
  obtain⟨l,hi⟩:=hg
  obtain⟨ok,j,st⟩:=st
  obtain⟨c,m⟩:=(show s.heap.get? a=some o/\yA X.prog X.w H s.heap a (.dT kvs)from I.hok a _ l)
  obtain⟨hm,hx,U,p,hd,d,D⟩:=zBg m c
  have r:p=ep:=by
   obtain⟨es',u⟩:=B
   rw[hd]at u;injection u
  subst r
  obtain⟨f0,f1,f2,f3,f4,f5⟩:=T it (by simp)
  have x:kvs.length<=i:=hi
  refine zND (I.ok.hd hc) st c hx hd (by rw[hn,d]) (by rw[fK];omega) fun h' he=>⟨rfl,?_⟩
  exact I.turned (t':=s.toks) (fun b o f e=>he b o f e) f0 f1 f3 f4 f5
 self:=fun A i s Q E st hq=>by
  obtain⟨ok,j,st⟩:=st
  have J:s.TypeIs (.ref it) "dict_itemiterator" :=⟨_,st,rfl⟩
  refine fL J gm (b5 gm J zMw ?_ (F.args_dict_itemiterator_iter_1 _))
  show wpAny _ _ (ret (.ref it)) _ _ s
  exact ax ⟨_,rfl,"dict_itemiterator",_,J,b6.lookup,hq⟩
section
variable{X:Cx}{elts:List bD}{kk:Nat}{tpos:Pos}{tg:bD}
def zNI (tl:TE):TI:=fun σ H R=>tl σ H fun x H1=>∃p a kvs,x=.ref p/\H1 p=some (VW p a)/\H1 a=some (.dT kvs)/\∀o,R (kN a o kvs) (upd H1 a (.frz o (.dT kvs)))
theorem zHE {l:bD}{r:TE}(hl:PE X l r):PI X (.Tuple elts kk tpos) l (zNI r):=by
 intro d s σ H R I h
 refine zG (hl d s σ H _ I h) fun v c zq=>?_
 obtain⟨x,u,f,z,A⟩:=zq
 obtain⟨p,a,kvs,e,B,m,q⟩:=A
 subst e
 cases z
 have ok:yA X.prog X.w u c.heap a (.dT kvs):=f.hok a _ m
 obtain⟨_,_,_,_,o,_,_,g,_⟩:=id ok
 obtain⟨J,C,n,ep,hd,i,D⟩:=zBg ok g
 have j:c.heap.get? p=some (zFx a):=(f.hok p _ B).1
 have y:c.TypeIs (.ref p) "dict_items" :=⟨_,j,rfl⟩
 have E:=(f.freezeT m g).kept (t':=c.toks) (h':=c.heap.push {cls:=.type "dict_itemiterator",data:=.fields #[.none,.bool false,.ref a,.int 0 0,.int n.size 0,.int ep 0,.none,.none]}) fun b o e=>ag _ e
 refine fL y jw (b5 jw y F.entry_dict_items_iter (zNF j g C hd ⟨_,rfl,"dict_itemiterator",_,⟨_,ay _ rfl,rfl⟩,b6.lookup,?_⟩) (F.args_dict_items_iter_1 _))
 refine⟨c.heap.objs.size,[c.heap.objs.size],_,_,upd u a (.frz o (.dT kvs)),rfl,E,zNH a _ o kvs n.size ep i ⟨n,hd⟩,⟨_,_,ay _ rfl⟩,fun b G=>?_,q o⟩
 have e:b=c.heap.objs.size:=by simpa using G
 subst e
 exact(f.freezeT m g).fpOk (aw _) ((f.freezeT m g).hok.fresh (aw _))
theorem zNJ {a:ai}{o:Obj}{kvs:List (List zW×V)}{g:TG}{r:TS}{D:Ends}{σ:St}{H:Hp}(Pv:Nat->St->Hp->Prop)(v:Pv 0 σ H)(w:∀i σ H,i<=kvs.length->Pv i σ H->H a=some (.frz o (.dT kvs)))
  (d:∀(i:Nat) (q:List zW×V) (T b:ai) (σ:St) (H:Hp) (h:St->Hp->Prop),(∀c H',Pv (i+1) c H'->h c H')->kvs[i]?=some q->Pv i σ H->H T=none->H b=some (.tup (q.1.map vV))->g (.ref T) σ (upd H T (.tup [.ref b,q.2])) fun j f=>r {D with nx:=h,ct:=h,bk:=D.nx} j f)
  (fin:∀σ H,Pv kvs.length σ H->D.nx σ H) :
  ∃W:Nat->Nat->St->Hp->Prop,(∃m,W 0 m σ H)/\∀i m σ H,W i m σ H->
   ((kN a o kvs).stop i H/\D.nx σ H)\/((kN a o kvs).go i H/\∃N:St->Hp->Prop,(∀c H',N c H'->∃s,s<m/\W (i+1) s c H')/\∀x H',(kN a o kvs).yld i H x H'->g x σ H' fun j f=>r {D with nx:=N,ct:=N,bk:=D.nx} j f):=by
 refine⟨fun i m σ H=>i<=kvs.length/\m=kvs.length-i/\Pv i σ H,⟨kvs.length,bh _,rfl,v⟩,?_⟩
 rintro i m σ H ⟨hi,rfl,pv⟩
 have u:=w i σ H hi pv
 by_cases e:i=kvs.length
 ·subst e
  exact .inl ⟨⟨u,aw _⟩,fin σ H pv⟩
 ·have l:i<kvs.length:=by omega
  refine .inr ⟨⟨u,l⟩,Pv (i+1),fun c H' p=>⟨kvs.length- (i+1),by omega,by omega,rfl,p⟩,fun x f n=>?_⟩
  obtain⟨T,b,q,rfl,y,z,rfl,A⟩:=n
  exact d i q T b σ H (Pv (i+1)) (fun _ _ p=>p) A pv y z
theorem zNK {a:ai}{o:Obj}{kvs:List (List zW×V)}{caps:List Nat}{n:Nat}{σ:St}{g:TG}{E:TT}{te:TE}{F:List V->Hp->Prop}{G:Hp}(l:St)(k:Nat)(Q:kvs.length<1000)
  (Pv:Nat->List V->Hp->Prop) (J:Pv 0 [] G) (L:∀i c H,i<=kvs.length->Pv i c H->H a=some (.frz o (.dT kvs))/\c.length<=i)
  (r:∀(i:Nat) (q:List zW×V) (T b:ai) (c:List V) (H:Hp) (ys:St) (w:List V->St->Hp->Prop),(∀d H' v,v.length=k->Pv (i+1) d H'->w d (l++v) H')->kvs[i]?=some q->ys.length=k->Pv i c H->H T=none->H b=some (.tup (q.1.map vV))->
   g (.ref T) (l++ys) (upd H T (.tup [.ref b,q.2])) fun f z=>E f z fun b s=>if b=true then te f s fun y j=>w (c++[y]) f j else w c f s)
  (fin:∀c H,Pv kvs.length c H->F c H) (A:uO caps n σ=l++aS k none:=by rfl) :
  ∃W:Nat->Nat->List V->St->Hp->Prop,(∃m,W 0 m [] (uO caps n σ) G)/\∀i m c u H',W i m c u H'->
   ((kN a o kvs).stop i H'/\F c H')\/
   ((kN a o kvs).go i H'/\c.length<sizeLine/\∀x B,(kN a o kvs).yld i H' x B->g x u B fun f z=>E f z fun b s=>if b=true then te f s fun y j=>∃h,h<m/\W (i+1) h (c++[y]) f j else∃h,h<m/\W (i+1) h c f s):=by
 refine⟨fun i m c u H'=>i<=kvs.length/\m=kvs.length-i/\(∃ys,ys.length=k/\u=l++ys)/\Pv i c H',⟨kvs.length,bh _,rfl,⟨_,by simp,A⟩,J⟩,?_⟩
 rintro i m c u H' ⟨hi,rfl,⟨ys,M,rfl⟩,pv⟩
 obtain⟨I,R⟩:=L i c H' hi pv
 by_cases e:i=kvs.length
 ·subst e
  exact .inl ⟨⟨I,aw _⟩,fin c H' pv⟩
 ·have C:i<kvs.length:=by omega
  refine .inr ⟨⟨I,C⟩,by rw[bg];omega,fun x B D=>?_⟩
  obtain⟨T,b,q,rfl,N,O,rfl,P⟩:=D
  exact r i q T b c H' ys (fun d f j=>∃h,h<kvs.length-i/\(i+1<=kvs.length/\h=kvs.length- (i+1)/\(∃ys,ys.length=k/\f=l++ys)/\Pv (i+1) d j)) (fun d j v hz p=>⟨kvs.length- (i+1),by omega,by omega,rfl,⟨v,hz,rfl⟩,p⟩) P M pv N O
def zNL (t:TS):TS:=fun D σ H=>∃a kvs,H a=some (.dT kvs)/\t {D with nx:=fun σ' H'=>∃o,H' a=some (.frz o (.dT kvs))/\D.nx σ' (upd H' a (.dT kvs))} σ H
theorem zHF {st:bY}{t:TS}(h:PS X st t):PS X st (zNL t):=by
 intro b s σ H D I q
 obtain⟨a,kvs,d,q⟩:=q
 refine zG (h b s σ H _ I q) fun f l c=>?_
 cases f with
 |next=>
  obtain⟨e,H',g,o,i,j⟩:=c
  exact⟨e,_,g.thawT I d i,j⟩
 |brk=>exact c
 |cont=>exact c
 |ret u=>exact c
theorem zB.thawT {H H':Hp}{a:ai}{o:Obj}{kvs:List (List zW×V)}(e:zB (upd H a (.frz o (.dT kvs))) H')(h:H a=some (.dT kvs)):zB H (upd H' a (.dT kvs)):=fun b u q=>by
 by_cases c:b=a
 ·subst c;rw[zI,<-q,h]
 ·rw[zF c];exact e b u (by rw[zF c];exact q)
def zNM (tk tv:TE):TE:=fun σ H Q=>∀p,H p=none->tk σ (upd H p (.dT [])) fun x H1=>tv σ H1 fun y H2=>H2 p=some (.dT [])/\∃b k,x=.ref b/\H2 b=some (.tup (k.map vV))/\Q (.ref p) (upd H2 p (.dT [(k,y)]))
theorem zNN {k v:bD}{pos:Pos}{tk g:TE}(r:X.A.units<cLine)(u:PE X k tk)(B:PE X v g):PE X (.Dict [some k] [v] pos) (zNM tk g):=by
 intro c s σ H Q I q
 have C:=I.hok.fresh (aw s.heap.objs.size)
 have D:=I.laid (a:=s.heap.objs.size) (o:=.dT []) (h':=s.heap.push {cls:=.type "dict",data:=.dict #[]}) (t':=s.toks) (fun _ _ q=>ag _ q) (aw _) (zFc s.heap I.big)
 have E:PPs X pos [some k] [v] [(tk,g)]:=zKc u B zKb
 refine wpAny_Dict_any rfl rfl (by simp) (by simp) (zG (E c _ σ _ (fun h f=>match h with| [(x,y)]=>f s.heap.objs.size=some (.dT [])/\∃b kk,x=.ref b/\f b=some (.tup (kk.map vV))/\Q (.ref s.heap.objs.size) (upd f s.heap.objs.size (.dT [(kk,y)]))|_=>False) D (q _ C)) fun U W zq=>?_)
 obtain⟨h,f,i,rel,d⟩:=zq
 cases h with
 | nil=>exact False.elim d
 | cons q0 q1=>
 cases q1 with
 | cons=>exact False.elim d
 | nil=>
  obtain⟨x,y⟩:=q0
  obtain⟨j,b,kk,ex,eb,d⟩:=d
  cases rel with
  | @cons _ l _ F m G=>
  cases G
  obtain⟨J,l⟩:=l
  obtain⟨m,L⟩:=m
  subst ex
  have n:J=Value.ref b:=m
  subst n
  obtain⟨z,hd,xs,rel,dd⟩:=zFY i.hok j
  cases rel
  unfold storeAll
  rw[ki]
  refine ah (ah (wpAny_dictSet_heap (knd:=tupleKind (jA X.prog X.w)) r (k9 i.hok eb) dd (fun h' e M=>ax ?_) (bh _)))
  show wpAny _ _ (forIn [] _ _) _ _ _
  rw[lE]
  refine ax ⟨.ref s.heap.objs.size,_,?_,rfl,d⟩
  have he:∃q,h'.get? s.heap.objs.size=some q:=let⟨q,_,_,N,_⟩:=e;⟨q,N⟩
  have p:b≠s.heap.objs.size:=fun z=>by subst z;rw[j]at eb;cases eb
  obtain⟨O,P,ep,g1,g2,g3,R,Y,T⟩:=e
  refine zAW i (by rw[j];exact True.intro) M he ⟨by show 1<=sizeLine;decide,hd,[(kk,b,l)],.cons ⟨rfl,by rw[zF p];exact eb,L⟩ .nil,O,P,ep,g1,g2,g3,R,T⟩
end
open PySem.AutoSeq1 (wpAny_loadPart')
open PySem.MeetsSeq PySem.MeetsSeq2 PySem.MeetsSeq3 PySem.SeqAt
section
open MyS PySem.W
variable{prog:aB}{w:aL}{A:bJ}{E:ae->ak->Prop}{s:ak}
end
def zDW (h:ba)(a:ai)(v:ae)(k:List Int):Prop:=∃b o t n lb items,v=Value.ref b/\b≠a/\h.get? b=some o/\o.cls=.type "tuple"/\o.data=.seq #[.int (k.length:Int) t,.ref lb] n/\lb≠a/\h.IsList lb items/\nh items.toList k
theorem zDW.keep {h h':ba}{a:ai}{v:ae}{k:List Int}(p:zDW h a v k)(e:∀b o,b≠a->h.get? b=some o->h'.get? b=some o):zDW h' a v k:=by
 obtain⟨b,o,t,n,c,items,g,d,i,j,l,f,m,r⟩:=p
 exact⟨b,o,t,n,c,items,g,d,e b o d i,j,l,f,m.at fun o q=>e c o f q,r⟩
section
open MyS PySem.W
variable{prog:aB}{w:aL}{A:bJ}{E:ae->ak->Prop}{s:ak}
end
section
open MyS PySem.W
variable{prog:aB}{w:aL}{A:bJ}{E:ae->ak->Prop}{s:ak}
def zDX (h:ba)(a:ai)(v:ae)(k:Int×Str):Prop:=∃b o t t2 n,v=Value.ref b/\b≠a/\h.get? b=some o/\o.cls=.type "tuple"/\o.data=.seq #[.int k.1 t,.str k.2 t2] n
theorem zDX.keep {h h':ba}{a:ai}{v:ae}{k:Int×Str}(p:zDX h a v k)(e:∀b o,b≠a->h.get? b=some o->h'.get? b=some o):zDX h' a v k:=by
 obtain⟨b,o,t,d,n,f,c,g,i⟩:=p
 exact⟨b,o,t,d,n,f,c,e b o c g,i⟩
end
theorem zHG (lt:Nat->Nat->Bool):∀n,argBest lt n<=n
 |0=>aw _
 |n+1=>by
  have:=zHG lt n
  show(if lt (n+1) (argBest lt n)=true then n+1 else argBest lt n)<=n+1
  split<;>omega
theorem zHH {xs:Nat->List Nat}:∀(n i:Nat),i<=n->¬xs i<xs (argBest (fun i j=>decide (xs i<xs j)) n)
 |0,i,h=>by
  have:i=0:=by omega
  subst this
  exact fE _
 |n+1,i,h=>by
  have ih:=zHH (xs:=xs) n
  show ¬xs i<xs (if decide (xs (n+1)<xs (argBest (fun i j=>decide (xs i<xs j)) n))=true then n+1 else argBest (fun i j=>decide (xs i<xs j)) n)
  generalize argBest (fun i j=>decide (xs i<xs j)) n=b at ih⊢
  by_cases c:xs (n+1)<xs b
  ·rw[if_pos (decide_eq_true c)]
   by_cases e:i=n+1
   ·subst e;exact fE _
   ·exact fun z=>ih i (by omega) (lZ z c)
  ·rw[if_neg (by simpa using c)]
   by_cases e:i=n+1
   ·subst e;exact c
   ·exact ih i (by omega)
section
variable{X:Cx}
theorem zNO (M:X.calm=true):qR X (.builtin "min") (fun xs H Q=>∃(p:ai) (d:List Str),xs=[.ref p]/\z7 X.K H p (d.map V.str)/\d≠[]/\∀t,t∈d->(∀u∈d,¬u.cps.toList<t.cps.toList)->Q (.str t) H):=by
 intro F s σ H xs us Q I r h
 obtain⟨p,d,rfl,N,B,q⟩:=h
 obtain⟨u,rfl,O⟩:=jD r
 cases O
 obtain⟨f,G,pl,hz⟩:=I.list N
 have hl:f.length=d.length:=by have:=G.length;simpa using this.symm
 have P:p≠s.heap.objs.size:=by
  obtain⟨o,n,e,_⟩:=pl
  exact aM (aC e)
 have m:0<d.length:=lT.mpr B
 have g:∀(i:Nat) (v:ae),f.toArray[i]?=some v->∃tk,v=.str (d.getD i ⟨#[]⟩) tk:=fun i v e=>by
  have J:f[i]?=some v:=by simpa using e
  have hi:i<d.length:=by rw[<-hl];exact(af.mp J).1
  obtain⟨u,e1,R⟩:=G.get (i:=i) (x:=.str (d.getD i ⟨#[]⟩)) (by rw[ar];simp[hi])
  rw[J]at e1
  cases e1
  exact R
 refine call_min_walk (fq pl.isList ?_)
 have C:p<s.heap.objs.size:=by
  obtain⟨o,n,e,_⟩:=pl
  exact aC e
 refine⟨s.heap.objs.size,_,_,f.toArray.size,_,_,fun i j=>decide ((d.getD i ⟨#[]⟩).cps.toList<(d.getD j ⟨#[]⟩).cps.toList),rfl,oR (A:=X.A.in1) (I.ok.hd M) _ p P f.toArray,⟨⟨_,ay _ rfl,rfl,rfl⟩,?_⟩,fun c l=>?_,by rw[aR,hl];exact m,fun i j T U s' Q' E' hi W Y=>?_,fun v h' tk L Z=>?_⟩
 ·exact pl.isList.at fun o e=>ag _ e
 ·show c<(s.heap.push _).objs.size
  rw[bz]
  rcases aD.mp l with rfl|l
  ·exact bO _
  ·rcases aD.mp l with rfl|l
   ·exact bL C
   ·cases l
 ·obtain⟨a,rfl⟩:=g i T hi
  obtain⟨b,rfl⟩:=g j U W
  exact lt_str Y
 ·have w:∀c o,s.heap.get? c=some o->h'.get? c=some o:=fun c o e=>by
   refine Z c o (fun z=>?_) (ag _ e)
   have D:=aC e
   have:c=s.heap.objs.size:=by simpa using z
   exact absurd D (by rw[this];exact bw _)
  have hsz:f.toArray.size=d.length:=by rw[aR,hl]
  rw[hsz]at L
  obtain⟨E,e⟩:=g _ v L
  have hb:=zHG (fun i j=>decide ((d.getD i ⟨#[]⟩).cps.toList<(d.getD j ⟨#[]⟩).cps.toList)) (d.length-1)
  have z:=zHH (xs:=fun i=>(d.getD i ⟨#[]⟩).cps.toList) (d.length-1)
  generalize argBest (fun i j=>decide ((d.getD i ⟨#[]⟩).cps.toList<(d.getD j ⟨#[]⟩).cps.toList)) (d.length-1)=b at hb z e
  have y:b<d.length:=by omega
  refine⟨.str (d.getD b ⟨#[]⟩),H,I.kept w,⟨E,e⟩,q _ ?_ fun u hu=>?_⟩
  ·rw[b0,ao y];exact bE y
  ·obtain⟨i,hi,rfl⟩:=dR hu
   have:=z i (by omega)
   have e1:d.getD i ⟨#[]⟩=d[i]:=by simp[hi]
   rw[e1]at this
   exact this
theorem zHI:z9 X (binaryOp .Add) (fun x y H Q=>∃a b xs ys,x=.ref a/\y=.ref b/\H a=some (.tup xs)/\H b=some (.tup ys)/\xs.length+ys.length<=sizeLine/\∀p H',zB H H'->H' p=some (.tup (xs++ys))->Q (.ref p) H'):=by
 intro c s σ H x y v u Q I f g h
 obtain⟨a,b,xs,ys,rfl,rfl,d,e,hz,q⟩:=h
 by_cases i:xs=[]
 ·subst i
  exact zGB c s σ H _ _ v u Q I f g ⟨a,b,ys,rfl,rfl,.of d,.of e,q b H (zB.refl H) e⟩
 ·refine zFN c s σ H _ _ v u Q I f g ⟨a,b,xs,ys,rfl,rfl,.of d,.of e,i,hz,fun j=>q a H (zB.refl H) (by rw[j,gr];exact d),fun _ p l=>q p _ (zB.upd1 l) zI⟩
theorem zHJ {j:Nat}{y:Str}{py spos:Pos}{tg iter elt:bD}{ifs:List bD}{scope:eA}{pos:Pos}{wi:TI}{g:TG}{tc:TT}{te:TE}{N:List Str}{caps:List Nat}(hN:X.N.Nodup)(hj:X.N[j]?=some y)(hy:Loc X.env.scope y)(hc:X.calm=true)(S:CompScope X.env.scope X.N N scope caps)
  (hi:PI X tg iter wi) (hg:∀cl C s H ex,PG (yY X N scope cl C s H ex) tg g) (hf:∀cl C s H ex,PF (yY X N scope cl C s H ex) ifs tc) (he:∀cl C s H ex,PE (yY X N scope cl C s H ex) elt te)
  (hs:∀x,foldedSetIterable iter X.env x=pure x:=by intro _;rfl) (hsw:swapsWith (.ListComp elt [⟨tg,iter,ifs,0⟩] scope pos) (some (.Name y py)) spos.line X.env=pure true:=by rfl)
  (hfn:X.fn y=true\/X.env.scope.names.lookup y=some .local:=by first|exact .inl rfl|exact .inr rfl|assumption):PS X (.Assign [.Name y py] (.ListComp elt [⟨tg,iter,ifs,0⟩] scope pos) spos) (zCG (zFl wi g tc te caps N.length) (zAu j)):=by
 intro pins s σ H D0 I h
 obtain⟨cl,hcl,hcl1,hcl2⟩:=zFh (env:=X.env) (scope:=scope) fun y hy e=>I.ok.has y.1 (S.free y hy e)
 rw[exec_Assign_Name_used _ _ _ _ hsw]
 refine ah (pU (ah ?_))
 show wpAny _ X.A (do let _<-comprehension (.ListComp elt [⟨tg,iter,ifs,0⟩] scope pos) scope X.env _ (newList []) false (eval iter X.env) (some (assign (.Name y py) X.env))) _ _ s
 refine ah (b8 (iS (use:=some (assign (.Name y py) X.env)) (Q:=fun _ s'=>SP X pins D0 .next s') rfl hs hcl S.kind S.names (zG (hi pins s σ H _ I h) fun v s1 h1=>zG h1 fun itv s2 h2=>?_))
  (fun _ s' hq=>ax (ax hq)) fun _ _ e=>e)
 obtain⟨it,fp,tn,J,H2,e,I2,T,st2,f2,W,⟨m0,w0⟩,turn⟩:=h2
 subst e
 refine c9 (lF S.nocell (by intro y hy;simp at hy) (fun h₁ hns hsb=>?_) S.kind)
 dsimp only at hns hsb⊢
 generalize hG:s2.heap.push {cls:=.type "list",dict:=none,data:=.seq ([]:List ae).toArray}=G at hns hsb⊢
 have hCs:G.objs.size=s2.heap.objs.size+1:=by rw[<-hG,bz]
 have hDC:s2.heap.objs.size≠G.objs.size:=by rw[hCs];exact aM (bO _)
 have old:∀b o,s2.heap.get? b=some o->h₁.get? b=some o:=fun b o e=>by
  have hb:=aC e
  refine hsb.extBut b o (by rw[hCs];exact aM (bL hb)) (ag _ ?_)
  rw[<-hG]
  exact ag _ e
 have hD:h₁.get? s2.heap.objs.size=some {cls:=.type "list",dict:=none,data:=.seq ([]:List ae).toArray}:=by
  refine hsb.extBut _ _ hDC (ag _ ?_)
  rw[<-hG]
  exact ay _ rfl
 have hfo:∀b∈fp,b<s2.heap.objs.size:=fun b hb=>let⟨o,e,_⟩:=T.obj 0 _ st2 b hb;aC e
 have hCle:s2.heap.objs.size<=G.objs.size:=by omega
 have ok:=zFm (C:=G.objs.size) I2 S hcl1 hcl2 hCle f2 hfo
 have I0:Inv (yY X N scope cl G.objs.size s2 H2 fp) [(s2.heap.objs.size,{cls:=.type "list",dict:=none,data:=.seq ([]:List ae).toArray})] (uO caps N.length σ) H2 {s2 with heap:=h₁,toks:=s2.toks+([]:List (Str×ae)).length} :=
  zFn I2 ok S hcl1 hcl2 old hns hCle hD (aw _) hDC (fun v z=>by cases z)
 have st1:tn 0 h₁:=T.keep 0 _ _ st2 fun b _ o e=>old b o e
 generalize hX:yY X N scope cl G.objs.size s2 H2 fp=X' at I0
 generalize hDa:s2.heap.objs.size=D at I0 hD hDC
 have loop:codeAny (model X.prog X.w) X.A (.compLoop (.ListComp elt [⟨tg,iter,ifs,0⟩] scope pos) 0 (.ref it) (.ref D) (compEnvC scope cl G.objs.size X.env)) (compPost (model X.prog X.w) X.A X.xe (some (assign (.Name y py) X.env)) (fun _ s'=>SP X pins D0 .next s') (.ref D) G.objs.size)
   {s2 with heap:=h₁,toks:=s2.toks+([]:List (Str×ae)).length}:=by
  subst hX
  refine zFi (J:=fun n s'=>∃i σ' H' acc its e,Inv (yY X N scope cl G.objs.size s2 H2 fp) [(D,{cls:=.type "list",data:=.seq (eP its) e})] σ' H' s'/\zK acc its/\acc.length<=sizeLine/\tn i s'.heap/\(∀b∈fp,H' b=none)/\W i n acc σ' H')
   ?_ m0 ⟨0,_,H2,[],[],0,I0,.nil,bh _,st1,fun b hb=>(f2 b hb).1,w0⟩
  rintro n s3 ⟨i,σ3,H3,acc,its,ep,I3,rv,hz,st3,fr3,w3⟩
  have stat:∀{H':Hp} {pl:List (ai×Obj)},(∀b∈fp,H' b=none)->(∀p∈pl,p.1=D)->∀b∈fp,qF (yY X N scope cl G.objs.size s2 H2 fp) pl H' b:=fun{H' pl} hn hpl b hb=>by
   obtain⟨a1,a2⟩:=ok.exf b hb
   exact⟨hn b hb,a1,ok.exfs b hb,.inl hb,fun x c e=>a2 x c e,fun p hp=>by
    have hp':p∈pl:=hp
    rw[hpl p hp',<-hDa]
    exact dH (hfo b hb)⟩
  have one:∀p∈[(D,({cls:=.type "list",data:=.seq (eP its) ep}:Obj))],p.1=D:=fun p hp=>by
   rcases aD.mp hp with e|e
   ·rw[e]
   ·cases e
  have pinD:∀{pl:List (ai×Obj)} {σ':St} {H':Hp} {s':ak} {o:Obj},Inv (yY X N scope cl G.objs.size s2 H2 fp) pl σ' H' s'->(D,o)∈pl->s'.heap.get? D=some o/\H' D=none:=fun{pl σ' H' s' o} I' hm=>by
   obtain⟨a,b,_⟩:=I'.pin (D,o) (aI _ hm)
   exact⟨a,b⟩
  rcases turn i n acc σ3 H3 w3 with⟨stop,q⟩|⟨go,hlt,step⟩
  ·refine b8 (T.done (yY X N scope cl G.objs.size s2 H2 fp) rfl rfl rfl hc i _ s3 σ3 H3 (fun _ _=>False) I3 (stat fr3 one) st3 stop) (fun r s4 zq=>?_) fun _ _ f=>f
   obtain⟨hr,I4⟩:=zq
   subst hr
   obtain⟨hDo,hDn⟩:=pinD I4 (aq ..)
   obtain⟨m4,hm4,_⟩:=I4.loc
   have keepC:∀b (u:Obj),b≠G.objs.size->s4.heap.get? b=some u->s4.heap.get? b=some u:=fun b u _ e=>e
   have un:Un (yV X.stack) fp H2 H3 s2.heap s4.heap:=I4.base
   have hDo':=hDo
   have hlow:∀b (o:Obj),s2.heap.get? b=some o->b≠G.objs.size/\b≠D:=fun b o e=>by
    have h0:=aC e
    exact⟨by rw[hCs];exact aM (bL h0),by rw[<-hDa];exact aM h0⟩
   have un':Un (yV X.stack) fp H2 (upd H3 D (.lst acc)) s2.heap s4.heap :=
    ⟨fun b o e n' hb hx=>keepC b o (hlow b o e).1 (un.keep b o e n' hb hx),
     fun b o e n' hb hx=>let⟨sl,q⟩:=un.slot b o e n' hb hx;⟨sl,keepC b _ (hlow b o e).1 q⟩,
     fun b o e n' hx=>by rw[zF (hlow b o e).2];exact un.free b o e n' hx,
     fun b o e hx=>let⟨o',q⟩:=un.there b o e hx;⟨o',keepC b _ (hlow b o e).1 q⟩,
     fun b xs e=>by rw[zF (vK (un.tups b xs e) hDn)];exact un.tups b xs e,
     fun b o u e=>by rw[zF (vK (un.frzs b o u e) hDn)];exact un.frzs b o u e,
     fun b ps e=>let⟨mo,q⟩:=un.tbls b ps e;⟨mo,by rw[zF (vK q hDn)];exact q⟩⟩
   have hok:zV X.prog X.w (upd H3 D (.lst acc)) s4.heap:=I4.hok.track hDn ⟨hz,its,ep,rv,hDo'⟩
   have IX:Inv X pins σ (upd H3 D (.lst acc)) s4:=I2.call' I4.os un' hok I4.bare (fun b hb=>by
    obtain⟨_,f1,_,f3,f4,f5⟩:=f2 b hb
    exact⟨f3,f1,f4,f5⟩)
   have hCn:upd H3 D (.lst acc) G.objs.size=none:=by
    rw[zF (dC hDC)];exact I4.free
   have fpC:qF X pins (upd H3 D (.lst acc)) G.objs.size:=I2.fpOk hCle hCn
   obtain⟨oC,es,epC,hoC,hdC,hsk,hnf⟩:=hm4
   have IXp:=IX.pinned (fp:=[G.objs.size]) (fun b hb=>by
    have:b=G.objs.size:=by simpa using hb
    rw[this];exact fpC) (fun b hb=>by
    have:b=G.objs.size:=by simpa using hb
    rw[this];exact⟨oC,hoC,fun v z=>by rw[hdC]at z;cases z⟩)
   refine mM (zCA IXp hN hj hy (v:=.ref D) rfl (fun s5 I5=>?_) hfn)
   have pC:=(I5.pin (G.objs.size,oC) (aI _ (aI _ (kS (aq ..) hoC)))).1
   refine⟨m4,⟨oC,es,epC,pC,hdC,hsk,hnf⟩,fun h' hsb'=>?_⟩
   obtain⟨c0,c1,c2,c3,c4,c5⟩:=fpC
   exact⟨_,_,I5.unpinned.turned (t':=s5.toks) (fun b o hb e=>hsb'.extBut b o hb e) c0 c1 c3 c4 c5,q D hDn⟩
  ·refine b8 (T.item (yY X N scope cl G.objs.size s2 H2 fp) rfl rfl rfl hc i _ s3 σ3 H3 (fun _ _=>False) I3 (stat fr3 one) st3 go) (fun r s4 zq=>?_) fun _ _ f=>f
   obtain⟨u,hr,h4⟩:=zq
   subst hr
   refine zG h4 fun _ s5 zq=>?_
   obtain⟨x,H5,I5,r5,y5,st5,fr5⟩:=zq
   have I5':=I5.pinned (stat fr5 one) (T.obj _ _ st5)
   refine zG (hg cl G.objs.size s2 H2 fp _ s5 σ3 H5 x u _ I5' r5 (step x H5 y5)) fun _ s6 ⟨σ6,H6,I6,q6⟩=>?_
   refine zG (hf cl G.objs.size s2 H2 fp _ s6 σ6 H6 _ I6 q6) fun b s7 zq=>?_
   obtain⟨H7,I7,q7⟩:=zq
   have fin:∀{pl:List (ai×Obj)} {σ':St} {H':Hp} {s':ak},Inv (yY X N scope cl G.objs.size s2 H2 fp) (pl++gT fp s5.heap) σ' H' s'->tn (i+1) s'.heap/\∀b∈fp,H' b=none:=fun{pl σ' H' s'} I'=>by
    refine⟨T.keep _ _ _ st5 fun b hb o e=>(I'.pin (b,o) (aI _ (aI _ (kS hb e)))).1,fun b hb=>?_⟩
    obtain⟨o,e,_⟩:=T.obj _ _ st5 b hb
    exact(I'.pin (b,o) (aI _ (aI _ (kS hb e)))).2.1
   cases b with
   |false=>
    rw[if_neg aH]at q7⊢
    obtain⟨m',hm,w7⟩:=q7
    obtain⟨a1,a2⟩:=fin I7
    exact⟨m',hm,i+1,σ6,H7,acc,its,ep,I7.unpinned,rv,hz,a1,a2,w7⟩
   |true=>
    rw[if_pos rfl]at q7⊢
    refine zG (he cl G.objs.size s2 H2 fp _ s7 σ6 H7 _ I7 q7) fun y s8 zq=>?_
    obtain⟨yv,H8,I8,r8,m',hm,w8⟩:=zq
    obtain⟨a1,a2⟩:=fin I8
    obtain⟨b1,b2⟩:=pinD I8 (bC _ (aq ..))
    have hl:=rv.length
    refine iu iw ⟨_,b1,rfl⟩ gx (gi _ _) (iO D its.toArray ep y (by rw[aR];omega)) ⟨b1,?_⟩
    have q9:=i8 b1 (·.push y)
    have kp:∀b o,b≠D->s8.heap.get? b=some o->(s8.heap.update D (cF (·.push y))).get? b=some o:=fun b o hb e=>(bV s8.heap (cF (·.push y)) (dC hb)).trans e
    have I9:Inv (yY X N scope cl G.objs.size s2 H2 fp) [] σ6 H8 {s8 with heap:=s8.heap.update D (cF (·.push y))} :=
     (I8.pins_of (pins':=[]) fun p hp=>by cases hp).turned (t':=s8.toks) kp b2 hDC (.inr (by rw[<-hDa];exact aw _)) (fun x c e z=>by
      have e':X.env.cells.lookup x=some c:=hcl1 x c e
      obtain⟨v',hv'⟩:=I2.cell x c e'
      have h0:=hv'.lt
      rw[z,<-hDa]at h0
      exact bw _ h0) fun p hp=>by
       have:p∈([]:List (ai×Obj)):=hp
       cases this
    have hpu:its.toArray.push y=(its++[y]).toArray:=by simp
    rw[hpu]at q9
    obtain⟨e9,q9⟩:∃e9,(s8.heap.update D (cF (·.push y))).get? D=some {cls:=.type "list",data:=.seq (its++[y]).toArray e9}:=⟨_,q9⟩
    refine⟨m',hm,i+1,σ6,H8,acc++[yv],its++[y],e9,I9.pins_of fun p hp=>?_,rv.append (.cons r8 .nil),?_,T.keep _ _ _ a1 fun b hb o e=>kp b o ?_ e,a2,w8⟩
    ·obtain rfl:p=(D,{cls:=.type "list",data:=.seq (its++[y]).toArray e9}):=by
      rcases aD.mp hp with e|e
      ·exact e
      ·cases e
     obtain⟨_,_,c3,c4,_⟩:=I8.pin (D,_) (aI _ (bC _ (aq ..)))
     exact⟨q9,b2,c3,c4,fun v z=>by cases z⟩
    ·rw[aA,bM];omega
    ·rintro rfl
     have h0:=hfo b hb
     rw[hDa]at h0
     exact bw _ h0
 exact jq loop (T.self X.A 0 _ _ _ st1 loop)
end
def zNP (i j:Int):Prop:=0<j/\j<1606938044258990275541962092341162602522202993782792835301376
theorem zHK {X:Cx}:z9 X (binaryOp .FloorDiv) (rI zNP fun i j=>.int (i/j)):=opI fun i j _ _ _ _ _ hc q=>by
 have h1:(0:Int)<j:=hc.1
 have h2:j<1606938044258990275541962092341162602522202993782792835301376:=hc.2
 have h3 : j.natAbs.log2<200 :=(Nat.log2_lt (by omega)).mpr (by have e : 2^200=1606938044258990275541962092341162602522202993782792835301376 :=by decide
                                                                rw[e];omega)
 exact floordiv_int (by omega) (by rw[ik i (by omega)];exact q) (.inl (PyProof.noPylong_of_log2 (by omega)))
end L2
end
section
namespace Kn
theorem zAi (t l:S)(o:Nat):z0 (z0 t o++l) o=z0 (t++l) o:=by
 unfold z0
 rw[aA,aA,eO]
 by_cases h:t.length<=o
 ·rw[show t.length-o=0 by omega,ix,js]
 ·rw[nV,nV,List.drop_drop,eO]
  congr 1
  ·congr 1;omega
  ·congr 1;omega
def pp (o:Nat)(t:S):List (S×S):=(bP t.length).map fun p=>(z0 (t.take p) o,(t.drop p).take 1)
theorem zNQ (o:Nat)(t:S):z3 o t=pp o t++[(z0 t o,[])]:=by
 unfold z3 pp
 rw[eC,aJ]
 simp
theorem zNR (o:Nat)(t:S)(c:Nat):pp o (t++[c])=pp o t++[(z0 t o,[c])]:=by
 unfold pp
 rw[aA,bM,eC,aJ]
 congr 1
 ·refine cY fun p a=>?_
  have b:p<t.length:=cU.mp a
  rw[gn (by omega),List.drop_append_of_le_length (by omega)]
  congr 1
  have:1<=(t.drop p).length:=by rw[eO];omega
  rw[gn this]
 ·simp
theorem zNS {o:Nat}{nm e:S}{c:Nat}(h:(e,[c])∈z3 o nm):∃l,(z0 (e++[c]) o,l)∈z3 o nm:=by
 unfold z3 at h
 obtain⟨p,b,e1⟩:=aG.mp h
 have d:p<nm.length+1:=cU.mp b
 have f:z0 (nm.take p) o=e:=congrArg rR e1
 have a:(nm.drop p).take 1=[c]:=congrArg nz e1
 have hl:p<nm.length:=by
  by_cases h:p<nm.length
  ·exact h
  ·rw[fH (by omega)]at a;cases a
 have g:nm.take (p+1)=nm.take p++[c]:=by
  rw[<-a,<-List.take_add]
 refine⟨(nm.drop (p+1)).take 1,?_⟩
 rw[<-f,zAi,<-g]
 exact aG.mpr ⟨p+1,cU.mpr (by omega),rfl⟩
theorem zHL {o:Nat}{bk:List S}{e:S}{c:Nat}(h:(e,[c])∈zD o bk):∃l,(z0 (e++[c]) o,l)∈zD o bk:=by
 obtain⟨nm,a,b⟩:=cf.mp h
 obtain⟨l,hl⟩:=zNS b
 exact⟨l,cf.mpr ⟨nm,a,hl⟩⟩
theorem zNT {o:Nat}{nm e l:S}(h:(e,l)∈z3 o nm):l.length<=1:=by
 unfold z3 at h
 obtain⟨p,_,e1⟩:=aG.mp h
 have a:(nm.drop p).take 1=l:=congrArg nz e1
 rw[<-a,aX];omega
theorem zDY {o:Nat}{bk:List S}{e l:S}(h:(e,l)∈zD o bk):l.length<=1:=by
 obtain⟨nm,b,a⟩:=cf.mp h
 exact zNT a
theorem zHM {l:S}(h:l.length<=1)(a:l≠[]):∃c,l=[c]:=by
 match l,h,a with
 | [c],_,_=>exact⟨c,rfl⟩
theorem zDZ {α:Type} [DecidableEq α]:∀(l L:List α),l.Nodup->(∀x∈l,x∈L)->l.length<=L.length
 | [],L,_,_=>bh _
 |x::l,L,b,c=>by
  have d:=c x (aq ..)
  have f:=zDZ l (L.erase x) (bI.mp b).2 fun y e=>by
   have a:y≠x:=fun z=>(bI.mp b).1 (by rw[<-z];exact e)
   exact(lL a).mpr (c y (az _ e))
  rw[iV d]at f
  have g:0<L.length:=jx d
  rw[aO];omega
theorem zDa {t:S}(h:t≠[]):∃u c,t=u++[c]:=by
 rcases List.eq_nil_or_concat t with z|⟨u,c,z⟩
 ·exact absurd z h
 ·exact⟨u,c,by simpa using z⟩
def zHN (ps:List (S×S)):Prop:=∀e l,(e,l)∈ps->l.length<=1
theorem zHO:∀{a b:S} (x y:S),a.length=b.length->a<b->a++x<b++y
 | [],[],x,y,_,h=>absurd h (fE _)
 |c::a,d::b,x,y,hl,h=>by
  rw[cu,cu]
  rw[List.cons_lt_cons_iff]at h⊢
  rcases h with h|⟨e,f⟩
  ·exact .inl h
  ·exact .inr ⟨e,zHO x y (by simpa using hl) f⟩
def Go (ps:List (S×S))(o:Nat)(t:S):Prop:=∀q∈pp o t,q∈ps
instance (ps:List (S×S)) (o:Nat) (t:S):Decidable (Go ps o t):=by unfold Go;infer_instance
def Mk (ps:List (S×S))(o:Nat)(t:S):Prop:=∀q∈z3 o t,q∈ps
theorem zDb (a:List (S×S))(o:Nat):Go a o []:=fun q b=>by cases b
theorem zAF {a:List (S×S)}{o:Nat}{t:S}{c:Nat}:Go a o (t++[c])↔Go a o t/\(z0 t o,[c])∈a:=by
 unfold Go
 rw[zNR]
 constructor
 ·intro h
  exact⟨fun q b=>h q (bC _ b),h _ (aI _ (cm _))⟩
 ·rintro⟨d,e⟩ q b
  rcases bj.mp b with z|z
  ·exact d q z
  ·have:q=(z0 t o,[c]):=by simpa using z
   rw[this];exact e
theorem zBh {a:List (S×S)}{o:Nat}{t:S}:Mk a o t↔Go a o t/\(z0 t o,[])∈a:=by
 unfold Mk Go
 rw[zNQ]
 constructor
 ·intro h
  exact⟨fun q b=>h q (bC _ b),h _ (aI _ (cm _))⟩
 ·rintro⟨c,d⟩ q b
  rcases bj.mp b with z|z
  ·exact c q z
  ·have:q=(z0 t o,[]):=by simpa using z
   rw[this];exact d
theorem zHP {o:Nat}{bk:List S}(a:bk≠[]){t:S}(h:Go (zD o bk) o t):∃l,(z0 t o,l)∈zD o bk:=by
 by_cases e:t=[]
 ·subst e
  match bk,a with
  |nm::r,_=>
   obtain⟨d,e1⟩:=zLZ o nm
   refine⟨nm.take 1,cf.mpr ⟨nm,aq ..,?_⟩⟩
   rw[e1]
   have:z0 [] o=[]:=by simp[z0]
   rw[this];exact aq ..
 ·obtain⟨u,c,rfl⟩:=zDa e
  obtain⟨_,b⟩:=zAF.mp h
  obtain⟨l,hl⟩:=zHL b
  rw[zAi]at hl
  exact⟨l,hl⟩
theorem zNU (a b:S):¬a<qN a b:=by
 unfold qN;split
 ·rename_i h;exact fun z=>qM _ (zCi h z)
 ·exact qM _
theorem zNV (a b:S):¬b<qN a b:=by
 unfold qN;split
 ·exact qM _
 ·rename_i h;exact h
theorem zDc {a b c:S}(d:¬a<b)(e:¬b<c):¬a<c:=fh.mpr (List.le_trans (fh.mp e) (fh.mp d))
abbrev yD:=(S×Bool)×S
def zAj (F:List yD)(c:yD):List yD:=zQ F c.1 (qN ((zL F c.1).getD c.2) c.2)
theorem zAk {κ α:Type} [DecidableEq κ] {l:List (κ×α)}{k:κ}{v:α}(nd:(l.map (·.1)).Nodup)(q:κ×α):q∈zQ l k v↔q=(k,v)\/q∈l/\q.1≠k:=by
 obtain⟨a,v'⟩:=q
 rw[uC (zAA nd),g9,uC nd]
 by_cases e:k=a
 ·subst e
  rw[if_pos rfl]
  constructor
  ·intro h;exact .inl (by rw[au h])
  ·rintro(h|⟨_,h⟩)
   ·rw[(cx h).2]
   ·exact absurd rfl h
 ·rw[if_neg e]
  constructor
  ·intro h;exact .inr ⟨h,fun z=>e z.symm⟩
  ·rintro(h|⟨h,_⟩)
   ·exact absurd (cx h).1.symm e
   ·exact h
theorem zNW {F:List yD}(nd:(F.map (·.1)).Nodup)(c:yD):((zAj F c).map (·.1)).Nodup/\(∀p∈zAj F c,p∈F\/p=c)/\∀p,p∈F\/p=c->∃u,(p.1,u)∈zAj F c/\¬p.2<u:=by
 refine⟨zAA nd,fun p a=>?_,fun p a=>?_⟩
 ·rcases(zAk nd p).mp a with z|⟨z,_⟩
  ·cases g:zL F c.1 with
   |none=>
    rw[g]at z
    have:qN ((none:Option S).getD c.2) c.2=c.2:=by rcases zGO c.2 c.2 with e|e<;>exact e
    rw[this]at z
    exact .inr z
   |some v=>
    rw[g]at z
    rcases zGO v c.2 with e|e
    ·rw[show(some v).getD c.2=v from rfl,e]at z
     rw[z];exact .inl ((uC nd _ _).mpr g)
    ·rw[show(some v).getD c.2=v from rfl,e]at z
     exact .inr z
  ·exact .inl z
 ·by_cases e:p.1=c.1
  ·refine⟨_,(zAk nd _).mpr (.inl (by rw[e])),?_⟩
   rcases a with a|rfl
   ·have g:zL F c.1=some p.2:=(uC nd _ _).mp (by rw[<-e];exact a)
    rw[g];exact zNU _ _
   ·exact zNV _ _
  ·rcases a with a|rfl
   ·exact⟨p.2,(zAk nd _).mpr (.inr ⟨a,e⟩),qM _⟩
   ·exact absurd rfl e
structure FoldM (C:List yD) (R:List yD):Prop where
 nd:(R.map (·.1)).Nodup
 snd:∀p∈R,p∈C
 all:∀p∈C,∃u,(p.1,u)∈R/\¬p.2<u
theorem FoldM.nil:FoldM [] []:=⟨by simp,by simp,by simp⟩
theorem FoldM.snoc {C R:List yD}(h:FoldM C R)(c:yD):FoldM (C++[c]) (zAj R c):=by
 obtain⟨d,e,b⟩:=zNW h.nd c
 refine⟨d,fun p a=>?_,fun p a=>?_⟩
 ·rcases e p a with z|z
  ·exact bC _ (h.snd p z)
  ·rw[z];exact aI _ (cm _)
 ·rcases bj.mp a with z|z
  ·obtain⟨u,f,hl⟩:=h.all p z
   obtain⟨v,g,hl2⟩:=b (p.1,u) (.inl f)
   exact⟨v,g,zDc hl hl2⟩
  ·have:p=c:=by simpa using z
   subst this
   exact b p (.inr rfl)
structure Fst (ps1 ps2:List (S×S)) (o n:Nat) (F:List yD):Prop where
 nd:(F.map (·.1)).Nodup
 snd:∀p∈F,p.2.length=n/\Go ps2 o p.2/\p.1=(z0 p.2 o,decide (Go ps1 o p.2))
 all:∀t,t.length=n->Go ps2 o t->∃u,((z0 t o,decide (Go ps1 o t)),u)∈F/\¬t<u
theorem Fst.start (a b:List (S×S))(o:Nat):Fst a b o 0 [(([],true),[])]:=by
 have c:z0 [] o=[]:=by simp[z0]
 refine⟨by simp,fun p d=>?_,fun t e _=>?_⟩
 ·have:p=(([],true),[]):=by simpa using d
  subst this
  exact⟨rfl,zDb _ _,by rw[c,decide_eq_true (zDb a o)]⟩
 ·have:t=[]:=dY.mp e
  subst this
  refine⟨[],?_,qM _⟩
  rw[c,decide_eq_true (zDb a o)]
  exact cm _
def kO (ps1:List (S×S))(nx:S->List S)(o:Nat)(p:yD):List yD:=((nx p.1.1).filter fun l=>decide (l≠[])).map fun l=>((z0 (p.2++l) o,p.1.2&&decide ((p.1.1,l)∈ps1)),p.2++l)
theorem Fst.step {a b:List (S×S)}{nx:S->List S}{o n:Nat}{F R:List yD}(h:Fst a b o n F)(y:∀e l,l∈nx e↔(e,l)∈b)(C:zHN b)(f:FoldM (F.flatMap (kO a nx o)) R):Fst a b o (n+1) R:=by
 refine⟨f.nd,fun p D=>?_,fun t g E=>?_⟩
 ·obtain⟨q,G,i⟩:=cf.mp (f.snd p D)
  obtain⟨l,hl,rfl⟩:=aG.mp i
  obtain⟨hl1,hl2⟩:=bH.mp hl
  have d:=(y _ _).mp hl1
  obtain⟨c,rfl⟩:=zHM (C _ _ d) (of_decide_eq_true hl2)
  obtain⟨H,I,A⟩:=h.snd q G
  have e1:q.1.1=z0 q.2 o:=by rw[A]
  have J:q.1.2=decide (Go a o q.2):=by rw[A]
  refine⟨by simp[H],zAF.mpr ⟨I,by rw[<-e1];exact d⟩,?_⟩
  show(_,_)=(_,_)
  congr 1
  rw[e1,J]
  by_cases g1:Go a o q.2<;>by_cases g2:(z0 q.2 o,[c])∈a<;>simp[g1,g2,zAF]
 ·have j:t≠[]:=fun z=>by rw[z]at g;cases g
  obtain⟨u,c,rfl⟩:=zDa j
  obtain⟨g1,g2⟩:=zAF.mp E
  have m:u.length=n:=by rw[aA,bM]at g;omega
  obtain⟨v,B,r⟩:=h.all u m g1
  obtain⟨k1,k2,k3⟩:=h.snd _ B
  have L:v.length=n:=k1
  have M:z0 v o=z0 u o:=(congrArg (fun z=>z.1) k3).symm
  have T:decide (Go a o u)=decide (Go a o v):=congrArg (fun z=>z.2) k3
  have N:z0 (v++[c]) o=z0 (u++[c]) o:=by rw[<-zAi,M,zAi]
  have O:(decide (Go a o u)&&decide ((z0 u o,[c])∈a))=decide (Go a o (u++[c])):=by
   by_cases g1:Go a o u<;>by_cases g2:(z0 u o,[c])∈a<;>simp[g1,g2,zAF]
  have P:((z0 (u++[c]) o,decide (Go a o (u++[c]))),v++[c])∈F.flatMap (kO a nx o):=by
   refine cf.mpr ⟨_,B,aG.mpr ⟨[c],bH.mpr ⟨(y _ _).mpr g2,by simp⟩,?_⟩⟩
   show((z0 (v++[c]) o,_),_)=_
   rw[N]
   show((_,decide (Go a o u)&&decide ((z0 u o,[c])∈a)),_)=_
   rw[O]
  obtain⟨w,Q,s⟩:=f.all _ P
  refine⟨w,Q,zDc (fun z=>?_) s⟩
  by_cases e:u=v
  ·subst e;exact qM _ z
  ·have x:v<u:=by
    by_cases q:v<u
    ·exact q
    ·exact absurd (zLa _ _ r q) e
   exact qM _ (zCi (zHO [c] [c] (by omega) x) z)
def zBi (ps1 ps2:List (S×S))(o:Nat)(t:S):Prop:=1<=t.length/\t.length<=8/\Mk ps2 o t/\¬Mk ps1 o t
def j5 (ps1 ps2:List (S×S))(k:S×Bool):Bool:=decide ((k.1,[])∈ps2)&&!(k.2&&decide ((k.1,[])∈ps1))
theorem zDd {a b:List (S×S)}{o:Nat}{t:S}(c:Go b o t):j5 a b (z0 t o,decide (Go a o t))=true↔Mk b o t/\¬Mk a o t:=by
 unfold j5
 rw[zBh,zBh]
 by_cases g1:Go a o t<;>by_cases g2:(z0 t o,[])∈a<;>by_cases g3:(z0 t o,[])∈b<;>simp[g1,g2,g3,c]
def zAG (ps1 ps2:List (S×S))(o:Nat):Option S->Prop
 |none=>∀t,¬zBi ps1 ps2 o t
 |some t=>zBi ps1 ps2 o t/\∀u,zBi ps1 ps2 o u->t.length<u.length\/t.length=u.length/\¬u<t
def zAl (ps1 ps2:List (S×S))(o n:Nat):Prop:=∀t,t.length=n->¬zBi ps1 ps2 o t
def vZ (ps1 ps2:List (S×S))(F:List yD):List S:=(F.filter fun p=>j5 ps1 ps2 p.1).map (·.2)
theorem zNX {a b:List (S×S)}{o n:Nat}{F:List yD}(h:Fst a b o n F)(e:vZ a b F=[]):zAl a b o n:=by
 rintro t f ⟨j,l,c,g⟩
 have d:=(zBh.mp c).1
 obtain⟨u,i,_⟩:=h.all t f d
 have:u∈vZ a b F:=aG.mpr ⟨_,bH.mpr ⟨i,(zDd d).mpr ⟨c,g⟩⟩,rfl⟩
 rw[e]at this;cases this
theorem zNY {a b:List (S×S)}{o n:Nat}{F:List yD}(h:Fst a b o n F)(B:1<=n)(r:n<=8)(e:∀m,1<=m->m<n->zAl a b o m){t:S}(s:t∈vZ a b F)(c:∀u∈vZ a b F,¬u<t):zAG a b o (some t):=by
 obtain⟨p,w,rfl⟩:=aG.mp s
 obtain⟨f,d⟩:=bH.mp w
 obtain⟨k1,k2,k3⟩:=h.snd p f
 rw[k3]at d
 obtain⟨m1,m2⟩:=(zDd k2).mp d
 refine⟨⟨by omega,by omega,m1,m2⟩,fun u j=>?_⟩
 have x:=j
 obtain⟨u1,C,l,y⟩:=j
 rcases Nat.lt_trichotomy u.length n with z|z|z
 ·exact absurd x (e u.length u1 z u rfl)
 ·refine .inr ⟨by omega,?_⟩
  have q:=(zBh.mp l).1
  obtain⟨v,A,g⟩:=h.all u z q
  have i:v∈vZ a b F:=aG.mpr ⟨_,bH.mpr ⟨A,(zDd q).mpr ⟨l,y⟩⟩,rfl⟩
  exact zDc g (c v i)
 ·exact .inl (by omega)
theorem zNZ {a b:List (S×S)}{o:Nat}(h:∀m,1<=m->m<=8->zAl a b o m):zAG a b o none:=fun t c=>h t.length c.1 c.2.1 t rfl c
end Kn
end
section
namespace Kn
open PySem L2
abbrev sk (k:S×Bool):List zW:=[.inl (tx k.1),.inr k.2]
theorem zBj {a b:S×Bool}(h:sk a=sk b):a=b:=by
 obtain⟨e,f⟩:=a
 obtain⟨g,i⟩:=b
 have c:=(gf h).1
 have d:=(gf (gf h).2).1
 exact qz (kM (nW c)) (iK d)
def z6 (F:List yD):List (List zW×V):=F.map fun p=>(sk p.1,sv p.2)
theorem gN (p:yD)(F:List yD):z6 (p::F)=(sk p.1,sv p.2)::z6 F:=rfl
theorem zBk (F:List yD):(z6 F).length=F.length:=by simp[z6]
theorem zNa (F:List yD)(k:S×Bool):yW (z6 F) (sk k)=(zL F k).map sv:=by
 induction F with
 |nil=>rfl
 |cons p r ih=>
  rw[gN]
  by_cases e:p.1=k
  ·have d:sk p.1=sk k:=by rw[e]
   rw[zAU d]
   obtain⟨a,b⟩:=p
   have c:a=k:=e
   subst c
   simp[zL]
  ·rw[zAV (fun z=>e (zBj z)),ih]
   obtain⟨a,b⟩:=p
   have c:¬a=k:=e
   simp[zL,c]
theorem zNb (F:List yD)(k:S×Bool):((z6 F).any fun a=>decide (a.1=sk k))=decide (k∈F.map (·.1)):=by
 induction F with
 |nil=>rfl
 |cons p r ih=>
  rw[gN,dN,ih]
  by_cases e:p.1=k
  ·have:decide (sk p.1=sk k)=true:=decide_eq_true (by rw[e])
   rw[this,mZ]
   exact(decide_eq_true (by rw[<-e];exact aq ..)).symm
  ·have:decide (sk p.1=sk k)=false:=decide_eq_false (fun z=>e (zBj z))
   rw[this,lY]
   congr 1
   have b:¬k=p.1:=fun z=>e z.symm
   simp[b]
theorem zNc (F:List yD)(k:S×Bool)(t:S)(nd:(F.map (·.1)).Nodup):vO (z6 F) (sk k) (sv t)=z6 (zQ F k t):=by
 unfold vO
 rw[zNb]
 by_cases c:k∈F.map (·.1)
 ·rw[if_pos (decide_eq_true c)]
  induction F with
  |nil=>cases c
  |cons p r ih=>
   obtain⟨a,b⟩:=p
   have d:=bI.mp nd
   rw[gN,aP]
   by_cases e:a=k
   ·subst e
    have e1:zQ ((a,b)::r) a t=(a,t)::r:=by simp[zQ]
    rw[e1,gN]
    congr 1
    ·simp
    ·have:∀q∈z6 r,(if q.1=sk a then(q.1,sv t)else q)=q:=fun q f=>by
      rw[if_neg]
      intro z
      obtain⟨s,g,h⟩:=aG.mp f
      have i:q.1=sk s.1:=by rw[<-h]
      rw[i]at z
      exact d.1 (aG.mpr ⟨s,g,zBj z⟩)
     rw[cY this];simp
   ·have e1:zQ ((a,b)::r) k t=(a,b)::zQ r k t:=by simp[zQ,e]
    rw[e1,gN]
    congr 1
    ·rw[if_neg (fun z=>e (zBj z))]
    ·exact ih d.2 (by
      rcases aD.mp c with z|z
      ·exact absurd z.symm e
      ·exact z)
 ·rw[if_neg (by simpa using c)]
  clear nd
  induction F with
  |nil=>rfl
  |cons p r ih=>
   obtain⟨a,b⟩:=p
   have e:¬a=k:=fun z=>c (by rw[<-z];exact aq ..)
   have e1:zQ ((a,b)::r) k t=(a,b)::zQ r k t:=by simp[zQ,e]
   rw[e1,gN,gN,cu,ih fun z=>c (az _ z)]
theorem zHQ {a:List (S×S)}{F:List yD}(nd:(F.map (·.1)).Nodup)(h:∀p∈F,∃l,(p.1.1,l)∈a):F.length<=2*a.length:=by
 have:=zDZ (F.map (·.1)) ((a.map (·.1)).map (·,true)++(a.map (·.1)).map (·,false)) nd fun k c=>by
  obtain⟨p,d,rfl⟩:=aG.mp c
  obtain⟨l,hl⟩:=h p d
  have b:p.1.1∈a.map (·.1):=aG.mpr ⟨_,hl,rfl⟩
  cases e:p.1.2 with
  |true=>exact bC _ (aG.mpr ⟨_,b,qz rfl e.symm⟩)
  |false=>exact aI _ (aG.mpr ⟨_,b,qz rfl e.symm⟩)
 simp at this
 omega
theorem Fst.rows {o:Nat}{a:List (S×S)}{bk:List S}{n:Nat}{F:List yD}(h:Fst a (zD o bk) o n F)(b:bk≠[]){p:yD}(c:p∈F):∃l,(p.1.1,l)∈zD o bk:=by
 obtain⟨_,d,e⟩:=h.snd p c
 rw[e]
 exact zHP b d
theorem Fst.rows1 {o:Nat}{a:List (S×S)}{bk:List S}{n:Nat}{F:List yD}(h:Fst (zD o bk) a o n F)(c:bk≠[]){p:yD}(d:p∈F)(b:p.1.2=true):∃l,(p.1.1,l)∈zD o bk:=by
 obtain⟨_,f,e⟩:=h.snd p d
 rw[e]at b⊢
 exact zHP c (of_decide_eq_true b)
theorem Fst.few {o:Nat}{a:List (S×S)}{bk:List S}{n:Nat}{F:List yD}(h:Fst a (zD o bk) o n F)(b:Bk bk o):F.length<1000:=by
 have c:=zHQ h.nd fun p d=>h.rows (fun z=>by have:=b.lo;rw[z]at this;cases this) d
 have e:((zD o bk).length:Int)<=72:=by
  rw[zAc]
  have go:∀l:List S,(∀x∈l,x.length<=8)->(l.map fun x=>(x.length:Int)+1).sum<=9*(l.length:Int):=by
   intro l
   induction l with
   |nil=>intro _;simp
   |cons x r ih=>
    intro hl
    have c:=hl x (aq ..)
    have e:=ih fun y f=>hl y (az _ f)
    rw[aP,c7,aO]
    have:((r.length+1:Nat):Int)=(r.length:Int)+1:=rfl
    omega
  have:=go bk b.l8
  have:=b.hi
  omega
 omega
theorem vE.row {H:Hp}{d:ai}{a:List (S×S)}(h:vE H d a){e l:S}(hl:(e,l)∈a):∃(kvs:List (zU×V)) (b:ai),H d=some (.dK kvs)/\yW kvs (Sum.inr (tx e))=some (.ref b)/\H b=some (.dK (yT (y6 a e))):=by
 obtain⟨kvs,f,g⟩:=h.get e
 rcases g with⟨_,c⟩|⟨b,c,i⟩
 ·exfalso
  have:=(zBa a e l (a.count (e,l):Int)).mpr ⟨rfl,by have:=c6.mpr hl;omega⟩
  rw[c]at this;cases this
 ·exact⟨kvs,b,f,c,i⟩
theorem zDe (a:List (S×S))(e l:S):(yW (yT (y6 a e)) (Sum.inr (tx l))).isSome=decide ((e,l)∈a):=by
 rw[j4,zBZ]
 by_cases h:(e,l)∈a
 ·rw[if_pos (c6.mpr h),decide_eq_true h];rfl
 ·rw[if_neg (fun z=>h (c6.mp z)),decide_eq_false h];rfl
def zBl (H H':Hp):Prop:=∀b u,H b=some u->Rd H' b u
theorem zBl.frz {H:Hp}{a:ai}{o:Obj}{u:HO}(h:H a=some u):zBl H (upd H a (.frz o u)):=fun b v e=>by
 by_cases c:b=a
 ·subst c
  rw[h]at e
  cases e
  exact .inr ⟨o,zI⟩
 ·exact .inl (by rw[zF c];exact e)
theorem yG.kR {H:Hp}{a:ai}{kvs:List (zU×V)}{k:zU}(e:Rd H a (.dK kvs)):yG H a (kV k) (yW kvs k):=.inl ⟨kvs,k,e,rfl,rfl⟩
def qV (f:ai)(H H':Hp):Prop:=∀b u,b≠f->H b=some u->H' b=some u
theorem qV.refl {f:ai}(H:Hp):qV f H H:=fun b u _ h=>h
theorem qV.upd1 {f a:ai}{H H':Hp}{u:HO}(s:qV f H H')(h:H' a=none):qV f H (upd H' a u):=fun b v c e=>by
 have:=s b v c e
 rw[zF (vK this h)];exact this
theorem qV.updf {f:ai}{H H':Hp}{u:HO}(s:qV f H H'):qV f H (upd H' f u):=fun b v a e=>by rw[zF a];exact s b v a e
abbrev vS (ps:List (S×S))(e:S):List S:=(y6 ps e).map (·.1)
theorem zBm (a:List (S×S))(e l:S):l∈vS a e↔(e,l)∈a:=by
 constructor
 ·intro h
  obtain⟨⟨b,n⟩,c,rfl⟩:=aG.mp h
  obtain⟨d,f⟩:=(zBa a e b n).mp c
  have g:0<a.count (e,b):=by rw[d]at f;omega
  exact c6.mp g
 ·intro h
  exact aG.mpr ⟨(l,(a.count (e,l):Int)),(zBa a e l _).mpr ⟨rfl,by have:=c6.mpr h;omega⟩,rfl⟩
theorem zNd (o:Nat)(bk:List S):zHN (zD o bk):=fun e l h=>zDY h
abbrev jR (ps1:List (S×S))(o:Nat)(p:yD)(l:S):yD:=((z0 (p.2++l) o,p.1.2&&decide ((p.1.1,l)∈ps1)),p.2++l)
theorem zHR {o:Nat}{a:List (S×S)}{bk:List S}{n:Nat}{F:List yD}(h:Fst a (zD o bk) o n F){p:yD}(f:p∈F){l:S}(hl:l∈vS (zD o bk) p.1.1)(g:l≠[]):∃d,((jR a o p l).1.1,d)∈zD o bk:=by
 have b:=(zBm _ _ _).mp hl
 obtain⟨c,rfl⟩:=zHM (zDY b) g
 obtain⟨d,e⟩:=zHL b
 obtain⟨_,_,i⟩:=h.snd p f
 have e1:p.1.1=z0 p.2 o:=by rw[i]
 rw[e1,zAi]at e
 exact⟨d,e⟩
theorem zHS {bk:List S}{o:Nat}(a:Bk bk o):(zD o bk).length<=72:=by
 have b:((zD o bk).length:Int)<=72:=by
  rw[zAc]
  have go:∀l:List S,(∀x∈l,x.length<=8)->(l.map fun x=>(x.length:Int)+1).sum<=9*(l.length:Int):=by
   intro l
   induction l with
   |nil=>intro _;simp
   |cons x r ih=>
    intro hl
    have d:=hl x (aq ..)
    have b:=ih fun y c=>hl y (az _ c)
    rw[aP,c7,aO]
    have:((r.length+1:Nat):Int)=(r.length:Int)+1:=rfl
    omega
  have:=go bk a.l8
  have:=a.hi
  omega
 omega
theorem zNe (a b:S):(if(tx b).cps.toList<(tx a).cps.toList then tx b else tx a)=tx (qN a b):=by
 rw[uE,uE]
 unfold qN
 split<;>rfl
section
variable{P:aB}{w:aL}{K:aa}{mg:Str->Option ae}{base:ba}
abbrev zDf:bY:=top 45
theorem zHT:FnScope ["first_rows","rows","order","firsts","found","state","text","letter","held","reached"] ["first_rows","rows","order","firsts"] (defScope zDf):=zX
def zHU:Sp:=fun vs H Q _=>∃(a1 a2 d:ai) (F:List yD) (bk1 bk2:List S) (o n:Nat),vs=[.ref a1,.ref a2,.int o,.ref d]/\vE H a1 (zD o bk1)/\vE H a2 (zD o bk2)/\Bk bk1 o/\Bk bk2 o/\H d=some (.dT (z6 F))/\Fst (zD o bk1) (zD o bk2) o n F/\n<=8/\
 ∀d' R H',zB H H'->H d'=none->H' d'=some (.dT (z6 R))->Fst (zD o bk1) (zD o bk2) o (n+1) R->Q (.ref d') H'
theorem zNf {f:ai}{fd:aE}(F:Fun K "next_firsts" "next_firsts" zDf f fd)(B:Blt mg)(cEnd:zN P w K mg base 1 "end_of" ["text","order"] zCr):FnOk P w K mg base zR 2 f fd ["first_rows","rows","order","firsts"] zHU:=by
 refine F.ok zHT (fun vs H Q E h=>?_) (fun cdv A outer s H vs Q E hr h=>?_)
 ·obtain⟨a1,a2,d,F,bk1,bk2,o,n,rfl,_⟩:=h;rfl
 ·obtain⟨a1,a2,d,FF,bk1,bk2,o,n,rfl,R1,R2,hb1,hb2,hd,hF,hn8,k⟩:=h
  have hu:=uW hr
  have nd:=zHT.nd
  refine⟨_,zH (zZ (i:=4) nd rfl (Or.inl rfl) zKa)
   (zH (zHF (qG cb rfl (zHE (zGl K rfl cG fj jc zHD (pv 3)))
     (zAv rfl (qE (yC (i:=5) nd rfl (Or.inl rfl)) (qE (yC (i:=6) nd rfl (Or.inl rfl)) gR)))
     (zJ (zMy (qG cb rfl (zMv (jK hu (pv 1) (yS uA (pv 5) zO (fun _ _=>rfl)) (fun _ _=>rfl))) (yC (i:=7) nd rfl (Or.inl rfl))
      (zJ (yR (vN zCK (pv 7) vW (vB _))
       (zH (zZ (i:=8) nd rfl (Or.inl rfl) (zCE (yS uA (pv 5) zO (fun _ _=>rfl)) (zCD (zAO (zBH hu (pv 7) (jK hu (pv 0) (yS uA (pv 5) zO (fun _ _=>rfl)) (fun _ _=>rfl)))))))
       (zH (zZ (i:=9) nd rfl (Or.inl rfl) (jY (zA (zM cEnd hr rfl (zA (zT zCN (pv 6) (pv 7)) (zA (pv 2) zC))) (zA (pv 8) zC))))
       (zJ (zCV hu (pv 4) (pv 9) (yF (zLM rfl) (by rfl) B.min lh (zA (zCW hu (pv 4) (pv 9) (zT zCN (pv 6) (pv 7)) ⟨rfl,rfl,rfl,rfl⟩) (zA (zT zCN (pv 6) (pv 7)) zC))) rfl))))
       yQ)))))))
   (zJ (zS (pv 4)))),?_⟩
  intro fo hfo
  have sH1:zB H (upd H fo (.dT [])):=zB.upd1 hfo
  have hd1:upd H fo (.dT []) d=some (.dT (z6 FF)):=sH1 _ _ hd
  have hdfo:fo≠d:=(vK hd hfo).symm
  refine⟨d,z6 FF,hd1,?_⟩
  refine⟨_,rfl,.inr (.inr (.inl ⟨rfl,.inr ⟨_,hd1⟩⟩)),d,z6 FF,rfl,rfl,hd1,fun p hp=>?_⟩
  have hp0:H p=none:=sH1.free hp
  have hpfo:p≠fo:=fun z=>by subst z;rw[zI]at hp;cases hp
  have hpd:d≠p:=vK hd hp0
  have sH2:zB (upd H fo (.dT [])) (upd (upd H fo (.dT [])) p (VW p d)):=zB.upd1 hp
  refine⟨p,d,z6 FF,rfl,zI,sH2 _ _ hd1,fun ob=>?_⟩
  generalize hH3:upd (upd (upd H fo (.dT [])) p (VW p d)) d (.frz ob (.dT (z6 FF)))=H3
  have s3:zB (upd H d (.frz ob (.dT (z6 FF)))) H3:=fun b u e=>by
   rw[<-hH3]
   by_cases hb:b=d
   ·subst hb;rw[zI]at e⊢;exact e
   ·rw[zF hb]at e⊢
    exact sH2 _ _ (sH1 _ _ e)
  have hfo3:H3 fo=some (.dT (z6 [])):=by
   rw[<-hH3,zF hdfo,zF hpfo.symm,zI];rfl
  have h0:bk2≠[]:=fun z=>by have:=hb2.lo;rw[z]at this;cases this
  have h01:bk1≠[]:=fun z=>by have:=hb1.lo;rw[z]at this;cases this
  have hfo0:upd H d (.frz ob (.dT (z6 FF))) fo=none:=by rw[zF hdfo];exact hfo
  have get0:∀b u,H b=some u->b≠d->upd H d (.frz ob (.dT (z6 FF))) b=some u:=fun b u e hb=>by rw[zF hb];exact e
  have R10:vE (upd H d (.frz ob (.dT (z6 FF)))) a1 (zD o bk1):=by
   obtain⟨ra,g1,g2,g3⟩:=R1
   exact⟨ra,g1,get0 _ _ g2 (uT g2 hd (by simp)),fun r hr=>get0 _ _ (g3 r hr) (uT (g3 r hr) hd (by simp))⟩
  have R20:vE (upd H d (.frz ob (.dT (z6 FF)))) a2 (zD o bk2):=by
   obtain⟨ra,g1,g2,g3⟩:=R2
   exact⟨ra,g1,get0 _ _ g2 (uT g2 hd (by simp)),fun r hr=>get0 _ _ (g3 r hr) (uT (g3 r hr) hd (by simp))⟩
  refine zNJ (fun i σ H'=>(∃x5 x6 x7 x8 x9:Option V,σ=[some (.ref a1),some (.ref a2),some (.int o),some (.ref d),some (.ref fo),x5,x6,x7,x8,x9])/\zB (upd H d (.frz ob (.dT (z6 FF)))) H'/\∃R,H' fo=some (.dT (z6 R))/\FoldM ((FF.take i).flatMap (kO (zD o bk1) (vS (zD o bk2)) o)) R)
   ⟨⟨_,_,_,_,_,rfl⟩,s3,[],hfo3,FoldM.nil⟩ (fun i σ H' _ h=>h.2.1 _ _ zI) ?_ ?_
  ·rintro i q T b σ H' Nx hN hq ⟨⟨x5,x6,x7,x8,x9,rfl⟩,sm,R,hR,hC⟩ hT hb
   unfold z6 at hq
   rw[ar]at hq
   cases ei:FF[i]? with
   |none=>rw[ei]at hq;cases hq
   |some pp0=>
   rw[ei]at hq
   have hq2:q=(sk pp0.1,sv pp0.2):=(au hq).symm
   subst hq2
   have hmem:pp0∈FF:=aF ei
   have hi:i<FF.length:=(af.mp ei).1
   have etk:(FF.take (i+1)).flatMap (kO (zD o bk1) (vS (zD o bk2)) o)=(FF.take i).flatMap (kO (zD o bk1) (vS (zD o bk2)) o)++kO (zD o bk1) (vS (zD o bk2)) o pp0:=by
    rw[av hi,(af.mp ei).2,lR];simp
   have hCr:∀c∈(FF.take i).flatMap (kO (zD o bk1) (vS (zD o bk2)) o),∃l,(c.1.1,l)∈zD o bk2:=fun c hc=>by
    obtain⟨p1,hp1,hc1⟩:=cf.mp hc
    obtain⟨l,hl,rfl⟩:=aG.mp hc1
    obtain⟨hl1,hl2⟩:=bH.mp hl
    exact zHR hF (cn hp1) hl1 (of_decide_eq_true hl2)
   generalize(FF.take i).flatMap (kO (zD o bk1) (vS (zD o bk2)) o)=C0 at hC etk hCr
   obtain⟨k1,k2,k3⟩:=hF.snd pp0 hmem
   have htl:pp0.2.length<=8:=by omega
   obtain⟨l0,hl0⟩:=hF.rows h0 hmem
   have s4:zB H' (upd H' T (.tup [.ref b,sv pp0.2])):=zB.upd1 hT
   obtain⟨kvs2,ra,g1,g2,g3⟩:=((R20.same sm).same s4).row hl0
   have hbT:upd H' T (.tup [.ref b,sv pp0.2]) b=some (.tup [sv pp0.1.1,.bl pp0.1.2]):=s4 _ _ hb
   have hR4:=s4 _ _ hR
   have sm4:=sm.trans s4
   have hfora:fo≠ra:=uT hR4 g3 (by simp)
   refine⟨T,[.ref b,sv pp0.2],rfl,.of zI,rfl,_,_,rfl,_,_,rfl,rfl,?_⟩
   refine⟨ra,yT (y6 (zD o bk2) pp0.1.1),g3,?_⟩
   have dg2:yG (upd H' T (.tup [.ref b,sv pp0.2])) a2 (sv pp0.1.1) (some (.ref ra)):=by
    have:=yG.k (k:=Sum.inr (tx pp0.1.1)) g1
    rw[g2]at this
    exact this
   refine⟨_,rfl,_,rfl,b,_,0,sv pp0.1.1,rfl,rfl,.of hbT,rfl,a2,.ref ra,rfl,dg2,ra,_,rfl,g3,fun ob2=>?_⟩
   generalize hH4:upd H' T (.tup [.ref b,sv pp0.2])=H4 at s4 g1 g3 hbT hR4 sm4
   have rda:zBl H4 (upd H4 ra (.frz ob2 (.dK (yT (y6 (zD o bk2) pp0.1.1))))):=zBl.frz g3
   have hrl:(yT (y6 (zD o bk2) pp0.1.1)).length<1000:=by
    rw[zAf]
    have h1:=zDZ (vS (zD o bk2) pp0.1.1) ((zD o bk2).map (·.2)) (zDF _ _) fun l hl=>aG.mpr ⟨_,(zBm _ _ _).mp hl,rfl⟩
    rw[aj,aj]at h1
    have:=zHS hb2
    omega
   have R14:=R10.same sm4
   generalize hH5:upd H4 ra (.frz ob2 (.dK (yT (y6 (zD o bk2) pp0.1.1))))=H5 at rda
   have hra5:H5 ra=some (.frz ob2 (.dK (yT (y6 (zD o bk2) pp0.1.1)))):=by rw[<-hH5,zI]
   have hb5:H5 b=some (.tup [sv pp0.1.1,.bl pp0.1.2]):=by
    rw[<-hH5,zF (uT hbT g3 (by simp))];exact hbT
   have hbfo:b≠fo:=uT hbT hR4 (by simp)
   refine jN (zMs ra ob2 (yT (y6 (zD o bk2) pp0.1.1))) (fun j σ H6=>(∃x7 x8 x9:Option V,σ=[some (.ref a1),some (.ref a2),some (.int o),some (.ref d),some (.ref fo),some (.ref b),some (sv pp0.2),x7,x8,x9])/\qV fo H5 H6/\
     ∃R',H6 fo=some (.dT (z6 R'))/\FoldM (C0++(((vS (zD o bk2) pp0.1.1).take j).filter fun l=>decide (l≠[])).map (jR (zD o bk1) o pp0)) R')
    ⟨⟨_,_,_,rfl⟩,qV.refl _,R,?_,by simpa using hC⟩ (fun j σ H6 _ h=>h.2.1 _ _ hfora.symm hra5) ?_ ?_
   ·rw[<-hH5,zF hfora];exact hR4
   ·rintro j x σ H6 Nx2 hN2 hx ⟨⟨x7,x8,x9,rfl⟩,sx,R',hR',hC'⟩
    have hx1:((vS (zD o bk2) pp0.1.1).map sv)[j]?=some x:=by
     rw[<-hx]
     unfold yT vD gE vS
     rw[aV,aV,aV]
     rfl
    rw[ar]at hx1
    cases el:(vS (zD o bk2) pp0.1.1)[j]? with
    |none=>rw[el]at hx1;cases hx1
    |some l=>
    rw[el]at hx1
    have hx2:x=sv l:=(au hx1).symm
    subst hx2
    have hj:j<(vS (zD o bk2) pp0.1.1).length:=(af.mp el).1
    have hlm:l∈vS (zD o bk2) pp0.1.1:=aF el
    have hl1:l.length<=1:=zDY ((zBm _ _ _).mp hlm)
    have etk2:(vS (zD o bk2) pp0.1.1).take (j+1)=(vS (zD o bk2) pp0.1.1).take j++[l]:=by
     rw[av hj,(af.mp el).2]
    refine⟨_,rfl,rfl,_,rfl,?_⟩
    by_cases hl:l=[]
    ·subst hl
     refine gC rfl (hN2 _ _ ⟨⟨_,_,_,rfl⟩,sx,R',hR',?_⟩)
     rw[etk2,bX]
     simpa using hC'
    ·have hne:¬V.str (tx l)=V.str "" :=fun z=>hl (kM (V.str.inj z))
     refine zDO hne ?_
     have hb6:H6 b=some (.tup [sv pp0.1.1,.bl pp0.1.2]):=sx _ _ hbfo hb5
     refine⟨_,rfl,b,_,1,.bl pp0.1.2,rfl,rfl,.of hb6,rfl,pp0.1.2,rfl,?_⟩
     refine' (fun(cont:∀q:V,q=.bl (pp0.1.2&&decide ((pp0.1.1,l)∈zD o bk1))->(_:V->Prop) q)=>?main) ?cont
     case main=>
      by_cases hh:pp0.1.2=true
      ·rw[if_pos hh]
       obtain⟨l1,hl1'⟩:=hF.rows1 h01 hmem hh
       obtain⟨kvs1,ra1,q1,q2,q3⟩:=R14.row hl1'
       have rd6:∀c kv,H4 c=some (.dK kv)->Rd H6 c (.dK kv):=fun c kv e=>by
        have hc:c≠fo:=uT e hR4 (by simp)
        rcases rda c _ e with z|⟨o',z⟩
        ·exact .inl (sx _ _ hc z)
        ·exact .inr ⟨o',sx _ _ hc z⟩
       have dg1:yG H6 a1 (sv pp0.1.1) (some (.ref ra1)):=by
        have:=yG.kR (k:=Sum.inr (tx pp0.1.1)) (rd6 _ _ q1)
        rw[q2]at this
        exact this
       refine⟨_,rfl,_,rfl,_,rfl,b,_,0,sv pp0.1.1,rfl,rfl,.of hb6,rfl,a1,.ref ra1,rfl,dg1,ra1,_,rfl,yG.kR (k:=Sum.inr (tx l)) (rd6 _ _ q3),?_⟩
       have ev:V.bl (yW (yT (y6 (zD o bk1) pp0.1.1)) (Sum.inr (tx l))).isSome=.bl (pp0.1.2&&decide ((pp0.1.1,l)∈zD o bk1)):=by
        rw[zDe,hh,gb]
       revert ev
       generalize V.bl (yW (yT (y6 (zD o bk1) pp0.1.1)) (Sum.inr (tx l))).isSome=q
       intro ev
       exact cont q ev
      ·rw[if_neg hh]
       have ev:V.bl false=.bl (pp0.1.2&&decide ((pp0.1.1,l)∈zD o bk1)):=by
        have:pp0.1.2=false:=by simpa using hh
        rw[this,oJ]
       revert ev
       generalize V.bl false=q
       intro ev
       exact cont q ev
     case cont=>
      intro q hq
      subst hq
      have hcl:(tx pp0.2).length+(tx l).length<=sizeLine:=by rw[vM,vM,bg];omega
      have hll:(pp0.2++l).length<=64:=by rw[aA];omega
      refine⟨_,rfl,_,rfl,tx pp0.2,tx l,rfl,rfl,hcl,_,rfl,pp0.2++l,o,by rw[zGt];rfl,hb1.o1,hll,_,rfl,by show 2<=sizeLine;decide,fun pr hpr=>?_⟩
      have sx7:qV fo H5 (upd H6 pr (.tup [sv (z0 (pp0.2++l) o),.bl (pp0.1.2&&decide ((pp0.1.1,l)∈zD o bk1))])):=sx.upd1 hpr
      have hR7:upd H6 pr (.tup [sv (z0 (pp0.2++l) o),.bl (pp0.1.2&&decide ((pp0.1.1,l)∈zD o bk1))]) fo=some (.dT (z6 R')):=by
       rw[zF (vK hR' hpr)];exact hR'
      have hpr7:upd H6 pr (.tup [sv (z0 (pp0.2++l) o),.bl (pp0.1.2&&decide ((pp0.1.1,l)∈zD o bk1))]) pr=some (.tup ((sk (jR (zD o bk1) o pp0 l).1).map vV)):=zI
      generalize upd H6 pr (.tup [sv (z0 (pp0.2++l) o),.bl (pp0.1.2&&decide ((pp0.1.1,l)∈zD o bk1))])=H7 at sx7 hR7 hpr7
      have hRl:R'.length<=2*(zD o bk2).length:=zHQ hC'.nd fun c hc=>by
       rcases bj.mp (hC'.snd c hc)with z|z
       ·exact hCr c z
       ·obtain⟨l',hl',rfl⟩:=aG.mp z
        obtain⟨z1,z2⟩:=bH.mp hl'
        exact zHR hF hmem (cn z1) (of_decide_eq_true z2)
      have h72:=zHS hb2
      refine⟨_,rfl,fo,rfl,.inr ⟨_,.inl hR7⟩,_,rfl,_,rfl,_,rfl,tx pp0.2,tx l,rfl,rfl,hcl,_,yG.t hR7 hpr7,_,rfl,_,rfl,tx pp0.2,tx l,rfl,rfl,hcl,tx ((zL R' (jR (zD o bk1) o pp0 l).1).getD (pp0.2++l)),tx (pp0.2++l),?_,_,rfl,_,rfl,fo,_,rfl,j1.t hR7 hpr7 (by rw[zBk,bg];omega),?_⟩
      ·rw[zNa,zGt]
       cases zL R' (jR (zD o bk1) o pp0 l).1<;>rfl
      ·rw[zNe]
       have eput:=zNc R' (jR (zD o bk1) o pp0 l).1 (qN ((zL R' (jR (zD o bk1) o pp0 l).1).getD (pp0.2++l)) (pp0.2++l)) hC'.nd
       refine hN2 _ _ ⟨⟨_,_,_,rfl⟩,sx7.updf,zAj R' (jR (zD o bk1) o pp0 l),?_,?_⟩
       ·rw[zI]
        exact congrArg (fun z=>some (HO.dT z)) eput
       ·rw[etk2,bX,aJ,<-eG]
        have e1:(oa (fun l=>decide (l≠[])) [l]).map (jR (zD o bk1) o pp0)=[jR (zD o bk1) o pp0 l]:=by simp[hl]
        rw[e1]
        exact hC'.snoc _
   ·rintro σ H6 ⟨⟨x7,x8,x9,rfl⟩,sx,R',hR',hC'⟩
    refine⟨ob2,sx _ _ hfora.symm hra5,hN _ _ ⟨⟨_,_,_,_,_,rfl⟩,fun c u e=>?_,R',?_,?_⟩⟩
    ·have hcf:c≠fo:=fun z=>by rw[z,hfo0]at e;cases e
     have e4:=sm4 _ _ e
     by_cases hc:c=ra
     ·subst hc
      rw[zI,<-e4,g3]
     ·rw[zF hc]
      refine sx _ _ hcf ?_
      rw[<-hH5,zF hc];exact e4
    ·rw[zF hfora];exact hR'
    ·rw[etk]
     have e1:(qv (fun p=>kV p.1) (yT (y6 (zD o bk2) pp0.1.1))).length=(vS (zD o bk2) pp0.1.1).length:=by rw[aj,zAf,aj]
     rw[e1,aQ]at hC'
     exact hC'
  ·rintro σ H' ⟨⟨x5,x6,x7,x8,x9,rfl⟩,sm,R,hR,hC⟩
   refine⟨ob,sm _ _ zI,_,rfl,?_⟩
   have sfin:zB H (upd H' d (.dT (z6 FF))):=zB.thawT sm hd
   refine k fo R _ sfin hfo (by rw[zF hdfo];exact hR) (hF.step (nx:=vS (zD o bk2)) (fun e l=>zBm _ e l) (zNd o bk2) ?_)
   rw[zBk,aQ]at hC
   exact hC
abbrev zDg:bY:=top 46
theorem zNg:FnScope ["first_rows","rows","state"] ["first_rows","rows","state"] (defScope zDg):=zX
def zHV:Sp:=fun vs H Q _=>∃(a1 a2 b:ai) (k:S×Bool) (ps1 ps2:List (S×S)),vs=[.ref a1,.ref a2,.ref b]/\vE H a1 ps1/\vE H a2 ps2/\H b=some (.tup [sv k.1,.bl k.2])/\(∃l,(k.1,l)∈ps2)/\(k.2=true->∃l,(k.1,l)∈ps1)/\Q (.bl (j5 ps1 ps2 k)) H
theorem zNh {f:ai}{fd:aE}(F:Fun K "ends_by_rows_alone" "ends_by_rows_alone" zDg f fd):FnOk P w K mg base zR 1 f fd ["first_rows","rows","state"] zHV:=by
 refine F.ok zNg (fun vs H Q E h=>?_) (fun v A outer s H vs Q E x h=>?_)
 ·obtain⟨j,l,b,k,m,d,rfl,_⟩:=h;rfl
 ·obtain⟨j,l,b,k,m,d,rfl,y,R2,n,⟨G,hl2⟩,hl1,q⟩:=h
  have i:=uW x
  refine⟨_,zJ (zS (zCE (zAO (zBH i vW (jK i (pv 1) (yS uA (pv 2) zO (fun _ _=>rfl)) (fun _ _=>rfl))))
   (zCD (zIv (zCE (yS uA (pv 2) zO (fun _ _=>rfl)) (zCD (zAO (zBH i vW (jK i (pv 0) (yS uA (pv 2) zO (fun _ _=>rfl)) (fun _ _=>rfl)))))))))),?_⟩
  obtain⟨r,a,g1,g2,g3⟩:=R2.row hl2
  have o:yG H l (sv k.1) (some (.ref a)):=by
   have:=yG.k (k:=Sum.inr (tx k.1)) g1
   rw[g2]at this
   exact this
  refine⟨_,rfl,_,rfl,b,_,0,sv k.1,rfl,rfl,.of n,rfl,l,.ref a,rfl,o,a,_,rfl,yG.k (k:=Sum.inr (tx [])) g3,_,rfl,?_⟩
  rw[zDe]
  unfold j5 at q
  by_cases c2:(k.1,([]:S))∈d
  ·rw[if_pos (decide_eq_true c2)]
   rw[decide_eq_true c2,gb]at q
   refine⟨_,rfl,b,_,1,.bl k.2,rfl,rfl,.of n,rfl,k.2,rfl,?_⟩
   by_cases e:k.2=true
   ·rw[if_pos e]
    obtain⟨I,g⟩:=hl1 e
    obtain⟨u,c,z,B,C⟩:=y.row g
    have p:yG H j (sv k.1) (some (.ref c)):=by
     have:=yG.k (k:=Sum.inr (tx k.1)) z
     rw[B]at this
     exact this
    refine⟨_,rfl,_,rfl,b,_,0,sv k.1,rfl,rfl,.of n,rfl,j,.ref c,rfl,p,c,_,rfl,yG.k (k:=Sum.inr (tx [])) C,_,rfl,?_⟩
    rw[zDe]
    rw[e,gb]at q
    exact q
   ·rw[if_neg e]
    have D:k.2=false:=by simpa using e
    rw[D]at q
    exact⟨_,rfl,q⟩
  ·rw[if_neg (by simpa using c2)]
   rw[decide_eq_false c2]at q
   exact q
theorem zNi {b:Bool}{A B:Prop}(c:b=true)(h:A):if b=true then A else B:=by rw[if_pos c];exact h
theorem zNj {b:Bool}{A B:Prop}(c:¬b=true)(h:B):if b=true then A else B:=by rw[if_neg c];exact h
theorem zNk {o:Nat}{bk:List S}{e:S}{c:Nat}(h:(e,[c])∈zD o bk):∃nm∈bk,c∈nm:=by
 obtain⟨nm,b,a⟩:=cf.mp h
 unfold z3 at a
 obtain⟨p,_,e1⟩:=aG.mp a
 have d:(nm.drop p).take 1=[c]:=congrArg nz e1
 refine⟨nm,b,List.mem_of_mem_drop (i:=p) (cn (i:=1) ?_)⟩
 rw[d];exact cm _
theorem zHW {o:Nat}{bk:List S}:∀(n:Nat) (t:S),t.length=n->Go (zD o bk) o t->∀c∈t,∃nm∈bk,c∈nm
 |0,t,a,_,c,b=>by rw[dY.mp a]at b;cases b
 |n+1,t,a,d,c,b=>by
  obtain⟨u,x,rfl⟩:=zDa (t:=t) (fun z=>by rw[z]at a;cases a)
  obtain⟨g1,g2⟩:=zAF.mp d
  rw[aA,bM]at a
  rcases bj.mp b with z|z
  ·exact zHW n u (by omega) g1 c z
  ·have:c=x:=by simpa using z
   subst this
   exact zNk g2
theorem zNl {o:Nat}{bk:List S}(a:isBk bk){t:S}(b:Go (zD o bk) o t):∀c∈t,97<=c/\c<=122:=fun c d=>by
 obtain⟨nm,e,f⟩:=zHW t.length t rfl b c d
 have:=(a.nm nm e).2.2 c f
 simpa using this
theorem zNm {t:S}(h:∀c∈t,c<=122):(PyData.str (tx t)).canLay0=true/\(PyData.str (tx t)).depth<=10:=by
 have ok:jv (tx t)=true:=by
  unfold jv
  rw[mF]
  intro c b
  have a:c∈t:=by simpa [tx]using b
  have:=h c a
  exact decide_eq_true (by omega)
 exact⟨by simp only[dz,ok],by simp[hV]⟩
theorem zNn {l:List S}(h:∀t∈l,∀c∈t,c<=122):cX (.list (l.map fun t=>PyData.str (tx t)))=true:=by
 refine(zGu fun d hd=>?_).1
 obtain⟨t,a,rfl⟩:=aG.mp hd
 exact zNm (h t a)
theorem vE.frzT {H:Hp}{a d:ai}{b:List (S×S)}{F:List (List zW×V)}{ob:Obj}(R:vE H a b)(hd:H d=some (.dT F)):vE (upd H d (.frz ob (.dT F))) a b:=by
 obtain⟨e,g1,g2,g3⟩:=R
 exact⟨e,g1,by rw[zF (uT g2 hd (by simp))];exact g2,fun r c=>by rw[zF (uT (g3 r c) hd (by simp))];exact g3 r c⟩
theorem zHX {a b:List (S×S)}{F:List yD}{j:Nat}{p:yD}(e:F[j]?=some p):vZ a b (F.take (j+1))=vZ a b (F.take j)++if j5 a b p.1=true then [p.2]else []:=by
 unfold vZ
 rw[av (af.mp e).1,(af.mp e).2,bX,aJ]
 congr 1
 by_cases c:j5 a b p.1=true<;>simp[c]
def zNo:Option S->V
 |none=>.non
 |some t=>sv t
abbrev zDh:bY:=top 47
theorem zHY:FnScope ["one","other","order","first_rows","rows","firsts","length","names"] ["one","other","order"] (defScope zDh):=zX
theorem zHZ:(["first_rows","rows","state","name"]:List Str).Nodup:=by decide+kernel
def zHa (nb no:ai):Sp:=fun vs H Q E=>∃(v u x:V) (d e g:bN),vs=[v,u,x]/\yL H d v/\yL H e u/\yL H g x/\sml d=true/\sml e=true/\sml g=true/\
 (yO d=false->∀H',zB H H'->E (.ref nb) none H')/\(yO d=true->yO e=false->∀H',zB H H'->E (.ref nb) none H')/\(yO d=true->yO e=true->qU g=false->∀H',zB H H'->E (.ref no) none H')/\
 (∀(a b:ai) (bk1 bk2:List S) (o:Nat),v=.ref a->u=.ref b->x=.int o->H a=some (.tup (zE bk1))->H b=some (.tup (zE bk2))->Bk bk1 o->Bk bk2 o->∀r H',zAG (zD o bk1) (zD o bk2) o r->zB H H'->Q (zNo r) H')
theorem zNp {f:ai}{fd:aE}{nb no:ai}(F:Fun K "lacking" "lacking" zDh f fd)(B:Blt mg)(C:Cst K mg)(cNB:u9 P w K mg base 3 "need_book" ["thing"] (zAh nb yO))(cNO:u9 P w K mg base 3 "need_order" ["thing"] (zAh no qU))(cRows:zN P w K mg base 3 "counted_rows" ["book","order"] zBY)
  (cN:zN P w K mg base 2 "next_firsts" ["first_rows","rows","order","firsts"] zHU) (cA:zN P w K mg base 1 "ends_by_rows_alone" ["first_rows","rows","state"] zHV):FnOk P w K mg base (uP P w) 4 f fd ["one","other","order"] (zHa nb no):=by
 refine F.okR zHY (fun vs H Q E h=>?_) (fun cdv A outer s H vs Q E hr h ok=>?_)
 ·obtain⟨v,u,x,d,e,g,rfl,_⟩:=h;rfl
 ·obtain⟨v,u,x,d,e,g,rfl,tv,tu,tx',sd,se,sg,kb,kb2,ko,kg⟩:=h
  have hu:=hr.units
  have hr2:=hr.mono (j:=2) (by decide)
  have hr1:=hr.mono (j:=1) (by decide)
  obtain⟨tml,hml⟩:=C.ml
  have nd:=zHY.nd
  refine⟨_,zH (yB (gL cNB ok.pass hr rfl (zA (pv 0) zC))) (zH (yB (gL cNB ok.pass hr rfl (zA (pv 1) zC))) (zH (yB (gL cNO ok.pass hr rfl (zA (pv 2) zC)))
   (zH (zZ (i:=3) nd rfl (Or.inr rfl) (zM cRows hr rfl (zA (pv 0) (zA (pv 2) zC))))
   (zH (zZ (i:=4) nd rfl (Or.inr rfl) (zM cRows hr rfl (zA (pv 1) (zA (pv 2) zC))))
   (zH (zZ (i:=5) nd rfl (Or.inl rfl) (zNN (mD (nO _ _) hu) (jY (zA vW (zA uV zC))) vW))
   (zH (qG rH rfl (zJN rfl B.range (zA zO (zA (zT vA (uL (v:=.int 8) (by rfl) hml ⟨tml,rfl⟩) zO) zC))) (yC (i:=6) nd rfl (Or.inl rfl))
    (zH (zZ (i:=5) nd rfl (Or.inl rfl) (zM cN hr2 rfl (zA (pv 3) (zA (pv 4) (zA (pv 2) (zA (pv 5) zC))))))
    (zH (zHF (zHJ (j:=7) (N:=["first_rows","rows","state","name"]) (caps:=[3,4]) nd rfl (Or.inl rfl) rfl (vP (by kernel_rfl)) (zHE (zGl K rfl cG fj jc zHD (pv 5)))
      (fun cl C s H ex=>zDH K 2 rfl rfl (qE (yC (i:=2) zHZ rfl (Or.inl rfl)) (qE (yC (i:=3) zHZ rfl (Or.inl rfl)) gR)) rfl rfl)
      (fun cl C s H ex=>gX (vC (zM cA hr1 rfl (zA (pv 0) (zA (pv 1) (zA (pv 2) zC))))))
      (fun cl C s H ex=>pv 3)))
    (zJ (yR (vN (gD hu) (pv 7) (uM zC) (vB _)) (zJ (zS (yF (zNO rfl) (by rfl) B.min lh (zA (pv 7) zC)))) yQ)))))
   (zJ (zS kP)))))))),?_⟩
  refine⟨_,rfl,v,d,rfl,tv,sd,fun gd H1 s1=>?_,fun bad H1 s1=>kb bad H1 s1⟩
  refine⟨_,rfl,u,e,rfl,yL.same s1 _ _ tu,se,fun ge H2 s2=>?_,fun bad H2 s2=>kb2 gd bad H2 (s1.trans s2)⟩
  refine⟨_,rfl,x,g,rfl,yL.same (s1.trans s2) _ _ tx',sg,fun gg H3 s3=>?_,fun bad H3 s3=>ko gd ge bad H3 ((s1.trans s2).trans s3)⟩
  have s03:=(s1.trans s2).trans s3
  obtain⟨a,bk1,rfl,ha,hbk1,rfl⟩:=zBf tv gd
  obtain⟨b,bk2,rfl,hb,hbk2,rfl⟩:=zBf tu ge
  obtain⟨o,rfl,ho1,ho3⟩:=zMg tx' gg
  have hb1:Bk bk1 o:=⟨hbk1,ho1,ho3⟩
  have hb2:Bk bk2 o:=⟨hbk2,ho1,ho3⟩
  have h0:bk2≠[]:=fun z=>by have:=hb2.lo;rw[z]at this;cases this
  have h01:bk1≠[]:=fun z=>by have:=hb1.lo;rw[z]at this;cases this
  have k:=kg a b bk1 bk2 o rfl rfl rfl ha hb hb1 hb2
  refine⟨_,rfl,_,rfl,a,bk1,o,rfl,s03 _ _ ha,hb1.hi,hb1.l8,ho1,fun r1 H4 s4 hr1' R1=>?_⟩
  have s04:=s03.trans s4
  refine⟨_,rfl,_,rfl,b,bk2,o,rfl,s04 _ _ hb,hb2.hi,hb2.l8,ho1,fun r2 H5 s5 hr2' R2=>?_⟩
  have s05:=s04.trans s5
  have R15:=R1.same s5
  intro fo hfo
  refine⟨by show 2<=sizeLine;decide,fun pt hpt=>?_⟩
  have hfp:fo≠pt:=fun z=>by subst z;rw[zI]at hpt;cases hpt
  have u6:zB H5 (upd (upd H5 fo (.dT [])) pt (.tup [.str "",.bl true])):=(zB.upd1 hfo).trans (zB.upd1 hpt)
  refine⟨by rw[zF hfp,zI],pt,sk ([],true),rfl,zI,?_⟩
  have s6:zB H5 (upd (upd (upd H5 fo (.dT [])) pt (.tup [.str "",.bl true])) fo (.dT [(sk ([],true),.str "")])):=u6.upd_new hfo
  have hf6:upd (upd (upd H5 fo (.dT [])) pt (.tup [.str "",.bl true])) fo (.dT [(sk ([],true),.str "")]) fo=some (.dT (z6 [(([],true),[])])):=zI
  generalize upd (upd (upd H5 fo (.dT [])) pt (.tup [.str "",.bl true])) fo (.dT [(sk ([],true),.str "")])=H6 at s6 hf6
  refine⟨8,1,rfl,rfl,1,9,rfl,by decide,?_⟩
  refine jN (zAa 1 8) (fun i σ H'=>(∃(x6 x7:Option V) (fi:ai) (FF:List yD),σ=[some (.ref a),some (.ref b),some (.int o),some (.ref r1),some (.ref r2),some (.ref fi),x6,x7]/\H' fi=some (.dT (z6 FF))/\Fst (zD o bk1) (zD o bk2) o i FF)/\zB H5 H'/\∀m,1<=m->m<=i->zAl (zD o bk1) (zD o bk2) o m)
   ⟨⟨_,_,fo,_,rfl,hf6,Fst.start _ _ _⟩,s6,fun m h1 h2=>by omega⟩ (fun _ _ _ _ _=>trivial) ?_ ?_
  ·rintro i x σ H' Nx hN hx ⟨⟨x6,x7,fi,FF,rfl,hfi,hF⟩,sm,hno⟩
   have hi:i<8:=by
    have:=(af.mp hx).1
    simpa using this
   refine⟨_,rfl,_,rfl,_,rfl,_,rfl,r1,r2,fi,FF,bk1,bk2,o,i,rfl,R15.same sm,R2.same sm,hb1,hb2,hfi,hF,by omega,fun d' R H7 s7 hd' hR' hF'=>?_⟩
   refine⟨d',z6 R,hR',?_⟩
   refine⟨_,rfl,.inr (.inr (.inl ⟨rfl,.inr ⟨_,hR'⟩⟩)),d',z6 R,rfl,rfl,hR',fun p hp=>?_⟩
   have s8:zB H7 (upd H7 p (VW p d')):=zB.upd1 hp
   have hd8:=s8 _ _ hR'
   refine⟨p,d',z6 R,rfl,zI,hd8,fun ob=>?_⟩
   have R18:=((R15.same (sm.trans s7)).same s8).frzT (ob:=ob) hd8
   have R28:=((R2.same (sm.trans s7)).same s8).frzT (ob:=ob) hd8
   have hd9:upd (upd H7 p (VW p d')) d' (.frz ob (.dT (z6 R))) d'=some (.frz ob (.dT (z6 R))):=zI
   have back:∀H9,zB (upd (upd H7 p (VW p d')) d' (.frz ob (.dT (z6 R)))) H9->zB H7 (upd H9 d' (.dT (z6 R))):=fun H9 s9=>s8.trans (zB.thawT s9 hd8)
   generalize upd (upd H7 p (VW p d')) d' (.frz ob (.dT (z6 R)))=H8 at R18 R28 hd9 back
   refine zNK [some (.ref r1),some (.ref r2)] 2 (by rw[zBk];exact hF'.few hb2) (fun j acc H9=>zB H8 H9/\acc=(vZ (zD o bk1) (zD o bk2) (R.take j)).map sv) ⟨zB.refl _,rfl⟩ (fun j acc H9 _ h=>⟨h.1 _ _ hd9,?_⟩) ?_ ?_
   ·rw[h.2,aj]
    unfold vZ
    rw[aj]
    have h1:=bS (fun p:yD=>j5 (zD o bk1) (zD o bk2) p.1) (R.take j)
    rw[aX]at h1
    omega
   ·rintro j q T b' acc H9 ys Nx2 hN2 hq hy ⟨s9,rfl⟩ hT hb'
    obtain⟨y1,y2,rfl⟩:=ys2 hy
    unfold z6 at hq
    rw[ar]at hq
    cases ej:R[j]? with
    |none=>rw[ej]at hq;cases hq
    |some pp0=>
    rw[ej]at hq
    have hq2:q=(sk pp0.1,sv pp0.2):=(au hq).symm
    subst hq2
    have hmem:pp0∈R:=aF ej
    have t10:zB H9 (upd H9 T (.tup [.ref b',sv pp0.2])):=zB.upd1 hT
    refine⟨T,[.ref b',sv pp0.2],rfl,.of zI,rfl,_,_,rfl,_,_,rfl,rfl,?_⟩
    refine⟨_,rfl,_,rfl,_,rfl,r1,r2,b',pp0.1,_,_,rfl,R18.same (s9.trans t10),R28.same (s9.trans t10),t10 _ _ hb',hF'.rows h0 hmem,fun hh=>hF'.rows1 h01 hmem hh,_,rfl,?_⟩
    by_cases c:j5 (zD o bk1) (zD o bk2) pp0.1=true
    ·refine zNi c ?_
     refine⟨_,rfl,hN2 _ _ [some (.ref b'),some (sv pp0.2)] rfl ⟨s9.trans t10,?_⟩⟩
     rw[zHX ej,if_pos c,aJ];rfl
    ·refine zNj c ?_
     refine hN2 _ _ [some (.ref b'),some (sv pp0.2)] rfl ⟨s9.trans t10,?_⟩
     rw[zHX ej,if_neg c,gr]
   ·rintro acc H9 ⟨s9,rfl⟩ D hD
    rw[zBk,aQ]
    have s10:zB H9 (upd H9 D (.lst ((vZ (zD o bk1) (zD o bk2) R).map sv))):=zB.upd1 hD
    refine⟨ob,s10 _ _ (s9 _ _ hd9),?_⟩
    have s11:=back _ (s9.trans s10)
    have hDd:D≠d':=(vK (s9 _ _ hd9) hD).symm
    have hD11:upd (upd H9 D (.lst ((vZ (zD o bk1) (zD o bk2) R).map sv))) d' (.dT (z6 R)) D=some (.lst ((vZ (zD o bk1) (zD o bk2) R).map sv)):=by rw[zF hDd,zI]
    have hd11:upd (upd H9 D (.lst ((vZ (zD o bk1) (zD o bk2) R).map sv))) d' (.dT (z6 R)) d'=some (.dT (z6 R)):=zI
    generalize upd (upd H9 D (.lst ((vZ (zD o bk1) (zD o bk2) R).map sv))) d' (.dT (z6 R))=H11 at s11 hD11 hd11
    have s12:=(sm.trans s7).trans s11
    refine⟨_,rfl,by show 0<=sizeLine;decide,fun e1 he1=>?_⟩
    have t1:zB H11 (upd H11 e1 (.lst [])):=zB.upd1 he1
    have shp:cX (.list ((vZ (zD o bk1) (zD o bk2) R).map fun t=>PyData.str (tx t)))=true:=zNn fun t ht c hc=>by
     obtain⟨p1,hp1,rfl⟩:=aG.mp ht
     exact(zNl hb2.toisBk (hF'.snd p1 (bH.mp hp1).1).2.1 c hc).2
    refine⟨.list ((vZ (zD o bk1) (zD o bk2) R).map fun t=>PyData.str (tx t)),.list [],yL.rep _ _ ⟨D,_,rfl,t1 _ _ hD11,Thgs.strs _⟩,⟨e1,[],rfl,.of zI,rfl⟩,shp,rfl,_,rfl,?_⟩
    cases en:vZ (zD o bk1) (zD o bk2) R with
    |nil=>
     refine yJ (hN _ _ ⟨⟨_,_,d',R,rfl,t1 _ _ hd11,hF'⟩,s12.trans t1,fun m h1 h2=>?_⟩)
     by_cases e:m=i+1
     ·subst e;exact zNX hF' en
     ·exact hno m h1 (by omega)
    |cons n0 ns=>
     have hcons:∀{A B:Prop},A->if(if true=true then !PyData.eqv (.list ((n0::ns).map fun t=>PyData.str (tx t))) (.list [])else dO (.list ((n0::ns).map fun t=>PyData.str (tx t))) (.list []))=true then A else B:=fun{A B} ha=>by
      have:dO (.list ((n0::ns).map fun t=>PyData.str (tx t))) (.list [])=false:=rfl
      rw[this];exact ha
     refine hcons ⟨_,rfl,D,(n0::ns).map tx,rfl,?_,by simp,fun t ht hmin=>?_⟩
     ·rw[aV]
      rw[en]at hD11
      exact .of (t1 _ _ hD11)
     ·obtain⟨t',ht',rfl⟩:=aG.mp ht
      refine k (some t') _ (zNY hF' (by omega) (by omega) (fun m h1 h2=>hno m h1 (by omega)) (by rw[en];exact ht') fun u hu=>?_) ((s05.trans s12).trans t1)
      have:=hmin (tx u) (aG.mpr ⟨u,by rw[en]at hu;exact hu,rfl⟩)
      rw[uE,uE]at this
      exact this
  ·rintro σ H' ⟨⟨x6,x7,fi,FF,rfl,hfi,hF⟩,sm,hno⟩
   have hno':∀m,1<=m->m<=8->zAl (zD o bk1) (zD o bk2) o m:=by simpa using hno
   exact k none _ (zNZ hno') (s05.trans sm)
end
end Kn
end
section
namespace L2
open PySem PySem.Spec PyProof.Rows
section
open MyS PySem.W
variable{X:Cx}
end
end L2
end
section
namespace Kn
open PySem L2
theorem zAm {bk:List S}(h:∀x∈bk,yE x)(hl:bk.length<=900):sml (.tuple (bk.map fun x=>PyData.str (tx x)))=true:=by
 have go:∀l:List S,(∀x∈l,yE x)->smls (l.map fun x=>PyData.str (tx x))=true:=by
  intro l
  induction l with
  |nil=>intro _;rfl
  |cons x l ih=>
   intro a
   have b:=a x (aq ..)
   have d:=ih fun y e=>a y (az _ e)
   rw[aP]
   simp only[smls,sml,d,pY,aY,decide_eq_true_eq,cI,vM,uE]
   refine⟨by have:=b.2.1;omega,fun c f=>?_⟩
   have:=b.2.2 c f
   have g:97<=c/\c<=122:=by simpa using this
   omega
 simp only[sml,go bk h,pY,decide_eq_true_eq,aj]
 exact hl
section
variable{P:aB}{w:aL}{K:aa}{mg:Str->Option ae}{base:ba}
abbrev zDi:bY:=top 48
theorem zNq:FnScope ["one","other","order"] ["one","other","order"] (defScope zDi):=zX
def zHb (nb no:ai):Sp:=fun vs H Q E=>∃(v u x:V) (d e g:bN),vs=[v,u,x]/\yL H d v/\yL H e u/\yL H g x/\sml d=true/\sml e=true/\sml g=true/\
 (yO d=false->∀H',zB H H'->E (.ref nb) none H')/\(yO d=true->yO e=false->∀H',zB H H'->E (.ref nb) none H')/\(yO d=true->yO e=true->qU g=false->∀H',zB H H'->E (.ref no) none H')/\
 (∀(a b:ai) (bk1 bk2:List S) (o:Nat),v=.ref a->u=.ref b->x=.int o->H a=some (.tup (zE bk1))->H b=some (.tup (zE bk2))->Bk bk1 o->Bk bk2 o->∀r H',zAG (zD o bk1) (zD o bk2) o r->zB H H'->Q (.bl r.isNone) H')
theorem zNr {f:ai}{fd:aE}{n no:ai}(F:Fun K "makes_all" "makes_all" zDi f fd)(p:u9 P w K mg base 4 "lacking" ["one","other","order"] (zHa n no)):FnOk P w K mg base (uP P w) 5 f fd ["one","other","order"] (zHb n no):=by
 refine F.okR zNq (fun vs H Q E h=>?_) (fun q A outer s H vs Q E y h ok=>?_)
 ·obtain⟨v,u,x,d,e,g,rfl,_⟩:=h;rfl
 ·obtain⟨v,u,x,d,e,g,rfl,z,B,c,C,D,G,I,i,J,L⟩:=h
  refine⟨_,zJ (zS (zAO (zIq (gL p ok.pass y rfl (zA (pv 0) (zA (pv 1) (zA (pv 2) zC))))))),?_⟩
  refine⟨_,rfl,_,rfl,_,rfl,v,u,x,d,e,g,rfl,z,B,c,C,D,G,I,i,J,fun a b j l o M N O R T U W r H' m X=>?_⟩
  have:=L a b j l o M N O R T U W r H' m X
  cases r with
  |none=>exact this
  |some t=>exact this
abbrev zDj:bY:=top 44
theorem zHc:FnScope ["one","other","both"] ["one","other"] (defScope zDj):=zX
def zHd (nb:ai):Sp:=fun vs H Q E=>∃(v u:V) (d e:bN),vs=[v,u]/\yL H d v/\yL H e u/\sml d=true/\sml e=true/\
 (yO d=false->∀H',zB H H'->E (.ref nb) none H')/\(yO d=true->yO e=false->∀H',zB H H'->E (.ref nb) none H')/\
 (∀(a b:ai) (bk1 bk2:List S),v=.ref a->u=.ref b->H a=some (.tup (zE bk1))->H b=some (.tup (zE bk2))->isBk bk1->isBk bk2->(bk1.length+bk2.length<=8->∀p H',zB H H'->H' p=some (.tup (zE (bk1++bk2)))->Q (.ref p) H')/\(8<bk1.length+bk2.length->∀H',zB H H'->E (.ref nb) none H'))
theorem zNs {f:ai}{fd:aE}{J:ai}(F:Fun K "mixed" "mixed" zDj f fd)(o:u9 P w K mg base 3 "need_book" ["thing"] (zAh J yO)):FnOk P w K mg base (uP P w) 4 f fd ["one","other"] (zHd J):=by
 refine F.okR zHc (fun vs H Q E h=>?_) (fun Z A outer s H vs Q E C h ok=>?_)
 ·obtain⟨v,u,d,e,rfl,_⟩:=h;rfl
 ·obtain⟨v,u,d,e,rfl,L,M,sd,se,kb,D,kg⟩:=h
  have nd:=zHc.nd
  refine⟨_,zH (yB (gL o ok.pass C rfl (zA (pv 0) zC))) (zH (yB (gL o ok.pass C rfl (zA (pv 1) zC)))
   (zH (zZ (i:=2) nd rfl (Or.inl rfl) (zT zHI (pv 0) (pv 1)))
   (zH (yB (gL o ok.pass C rfl (zA (pv 2) zC))) (zJ (zS (pv 2)))))),?_⟩
  refine⟨_,rfl,v,d,rfl,L,sd,fun N O q=>?_,fun bad O q=>kb bad O q⟩
  refine⟨_,rfl,u,e,rfl,yL.same q _ _ M,se,fun ge R G=>?_,fun bad R G=>D N bad R (q.trans G)⟩
  obtain⟨a,c,rfl,T,l,rfl⟩:=zBf L N
  obtain⟨b,j,rfl,U,m,rfl⟩:=zBf M ge
  obtain⟨k1,k2⟩:=kg a b c j rfl rfl T U l m
  have n:=q.trans G
  have hl:(zE c).length+(zE j).length<=sizeLine:=by
   have:=l.hi
   have:=m.hi
   simp[zE,bg];omega
  refine⟨_,rfl,_,rfl,a,b,_,_,rfl,rfl,n _ _ T,n _ _ U,hl,fun p H3 W hp=>?_⟩
  have r:H3 p=some (.tup (zE (c++j))):=by rw[hp];simp[zE]
  have y:∀x∈c++j,yE x:=fun x hx=>by
   rcases bj.mp hx with z|z
   ·exact l.nm x z
   ·exact m.nm x z
  have X:(c++j).length=c.length+j.length:=aA ..
  have h1:=l.hi
  have h2:=m.hi
  have h3:=l.lo
  refine⟨_,rfl,.ref p,.tuple ((c++j).map fun x=>PyData.str (tx x)),rfl,⟨p,_,rfl,r,Thgs.strs _⟩,zAm y (by omega),fun g I B=>?_,fun bad I B=>?_⟩
  ·have Y:c.length+j.length<=8:=by
    simp only[yO,aY,decide_eq_true_eq,aj]at g
    omega
   exact⟨_,rfl,k1 Y p I ((n.trans W).trans B) (B _ _ r)⟩
  ·by_cases Y:c.length+j.length<=8
   ·rw[zAg ⟨by omega,by omega,y⟩]at bad;cases bad
   ·exact k2 (by omega) I ((n.trans W).trans B)
theorem vE.keys {H:Hp}{d:ai}{a:List (S×S)}(R:vE H d a):∃b:List (S×ai×List (S×Int)),H d=some (.dK (vD (fun v:ai×List (S×Int)=>V.ref v.1) b))/\(b.map (·.1)).Nodup/\b.length<=a.length/\∀e,e∈b.map (·.1)↔∃l,(e,l)∈a:=by
 obtain⟨b,c,f,i⟩:=R
 have j:b.map (·.1)=(uD a).map (·.1):=by rw[<-c,aV];rfl
 refine⟨b,f,by rw[j];exact(j3 a).nd,?_,fun e=>?_⟩
 ·have m:=(zCy a).1
  rw[<-c,aj]at m
  exact m
 ·rw[j,<- (j3 a).has e]
  constructor
  ·intro h
   cases g:zL (uD a) e with
   |none=>exact absurd h (gF.mp g)
   |some r=>exact⟨r,rfl⟩
  ·rintro⟨r,g⟩
   exact aG.mpr ⟨_,(uC (j3 a).nd e r).mpr g,rfl⟩
theorem vE.has {H:Hp}{d:ai}{a:List (S×S)}(R:vE H d a)(e:S):∃o,yG H d (sv e) o/\(o.isSome=true↔∃l,(e,l)∈a):=by
 obtain⟨b,c,f,_,h⟩:=R.keys
 refine⟨_,yG.k (k:=Sum.inr (tx e)) c,?_⟩
 rw[j4,<-h e]
 cases g:zL b e with
 |none=>simp[gF.mp g]
 |some v=>simp;exact⟨v.1,v.2,(uC f e v).mpr g⟩
end
end Kn
end
section
namespace L2
open PySem PySem.Spec PyProof.Rows
theorem FnOk.calm {P:aB}{w:aL}{K:aa}{mg:Str->Option ae}{base:ba}{k:Nat}{f:ai}{fd:aE}{b:List Str}{sp a:Sp}(F:FnOk P w K mg base (uP P w) k f fd b sp)
  (h:∀vs H Q E,a vs H Q E->sp vs H Q (fun _ _ _=>False)):FnOk P w K mg base zR k f fd b a:=by
 refine⟨fun vs H Q E q=>F.len vs H Q _ (h _ _ _ _ q),fun A outer s H args us vs Q E d he g i j=>?_⟩
 refine dI (F.run A outer s H args us vs Q (fun _ _ _=>False) d he g i (h _ _ _ _ j)) fun res s' c=>?_
 cases res with
 |error e=>
  obtain⟨_,_,_,_,_,_,_,z⟩:=c
  exact z.elim
 |ok l=>cases l<;>exact c
end L2
end
section
namespace Kn.Ln
open PySem L2 Kn
theorem zNt {K:aa}{x:Str}{c:ai}(b:aT K mainGlobals x=some (some (.ref c)))(h:iU K c zGw "ValueError.__new__"=true):∃C,∀(h:ba) (mg:Str->Option ae),K.In h->h.Ns mainGlobals mg->XCls K mg x C :=
 ⟨c,fun a mg X G=>⟨cE X G b,h⟩⟩
theorem zHe:∀{a b:List S},zE a=zE b->a=b
 | [],[],_=>rfl
 | [],_::_,h=>by cases h
 |_::_,[],h=>by cases h
 |x::a,y::b,h=>by
  have c:=(gf h).1
  have d:zE a=zE b:=(gf h).2
  rw[zHe d,kM (V.str.inj c)]
theorem zBn {H:Hp}{p:ai}{bk:List S}(h:H p=some (.tup (zE bk))):yL H (.tuple (bk.map fun x=>PyData.str (tx x))) (.ref p):=⟨p,_,rfl,h,Thgs.strs bk⟩
theorem zAn {b:Bool}{A:Prop}(h:b=true):b=false->A:=fun z=>by rw[h]at z;cases z
theorem zNu {o:Nat}(a:1<=o)(b:o<=3):qU (.int (o:Int))=true:=by simp only[qU,aY,decide_eq_true_eq];omega
theorem zBo {H:Hp}{p a:ai}{bk b:List S}(h:H p=some (.tup (zE bk)))(e:V.ref p=.ref a)(h':H a=some (.tup (zE b))):b=bk:=by
 have c:p=a:=V.ref.inj e
 subst c
 rw[h]at h'
 exact(zHe (HO.tup.inj (au h'))).symm
theorem zNv {o a:Nat}(e:V.int (o:Int)=.int (a:Int)):a=o:=by have:=V.int.inj e;omega
def zHf:Sp:=fun vs H Q _=>∃(a b:ai) (bk1 bk2:List S),vs=[.ref a,.ref b]/\H a=some (.tup (zE bk1))/\H b=some (.tup (zE bk2))/\isBk bk1/\isBk bk2/\bk1.length+bk2.length<=8/\∀p H',zB H H'->H' p=some (.tup (zE (bk1++bk2)))->Q (.ref p) H'
def zHg:Sp:=fun vs H Q _=>∃(a b:ai) (bk1 bk2:List S) (o:Nat),vs=[.ref a,.ref b,.int o]/\H a=some (.tup (zE bk1))/\H b=some (.tup (zE bk2))/\Bk bk1 o/\Bk bk2 o/\∀r H',zAG (zD o bk1) (zD o bk2) o r->zB H H'->Q (.bl r.isNone) H'
section
variable{P:aB}{w:aL}{K:aa}{mg:Str->Option ae}{base:ba}
theorem u9.calm {k:Nat}{x:Str}{b:List Str}{sp a:Sp}(C:u9 P w K mg base k x b sp)(h:∀vs H Q E,a vs H Q E->sp vs H Q (fun _ _ _=>False)):zN P w K mg base k x b a :=
 let⟨f,fd,F,r⟩:=C
 ⟨f,fd,F.calm h,r⟩
theorem zNw {j:ai}(C:u9 P w K mg base 4 "mixed" ["one","other"] (zHd j)):zN P w K mg base 4 "mixed" ["one","other"] zHf:=by
 refine u9.calm C fun vs H Q E h=>?_
 obtain⟨a,b,l,m,rfl,e,f,c,d,s,k⟩:=h
 have n:=zAm c.nm (by have:=c.hi;omega)
 have o:=zAm d.nm (by have:=d.hi;omega)
 refine⟨_,_,_,_,rfl,zBn e,zBn f,n,o,zAn (zAg c),fun _=>zAn (zAg d),fun u v g i e1 p g1 g2 g3 x=>?_⟩
 have q:=zBo e e1 g1
 have r:=zBo f p g2
 subst q r
 exact⟨fun _=>k,fun z=>by omega⟩
theorem zNx {j no:ai}(C:u9 P w K mg base 5 "makes_all" ["one","other","order"] (zHb j no)):zN P w K mg base 5 "makes_all" ["one","other","order"] zHg:=by
 refine u9.calm C fun vs H Q E h=>?_
 obtain⟨a,b,l,m,o,rfl,e,f,c,d,k⟩:=h
 have n:=zAm c.nm (by have:=c.hi;omega)
 have p:=zAm d.nm (by have:=d.hi;omega)
 refine⟨_,_,_,_,_,.int o,rfl,zBn e,zBn f,rfl,n,p,rfl,zAn (zAg c.toisBk),fun _=>zAn (zAg d.toisBk),fun _ _=>zAn (zNu c.o1 c.o3),fun x y g i z e1 q r g1 g2 g3 A=>?_⟩
 have s:=zBo e e1 g1
 have u:=zBo f q g2
 have v:=zNv r
 subst s u v
 exact k
end
end Kn.Ln
end
section
namespace L2
open PySem PySem.Spec PyProof.Rows
def zAH (i:Int):Prop:=0<=i/\i<1606938044258990275541962092341162602522202993782792835301376
theorem zAH.bits {i:Int}(h:zAH i):lU i<=2^20:=by
 unfold lU
 split
 ·exact bh _
 ·rename_i hz
  have hz':¬i=0:=fun z=>hz (by rw[z];rfl)
  have h0:=h.1
  have h1:=h.2
  have h3 : i.natAbs.log2<200 :=(Nat.log2_lt (by omega)).mpr (by have e : 2^200=1606938044258990275541962092341162602522202993782792835301376 :=by decide
                                                                 rw[e];omega)
  have e2:2^20=1048576:=by decide
  omega
theorem zBp {X:Cx}:z9 X (binaryOp .Mult) (rI (fun i j=>zAH i/\zAH j) fun i j=>.int (i*j)):=opI fun _ _ _ _ _ _ _ a q=>mul_int q (IntMulOk.of_bits a.1.bits a.2.bits)
end L2
end
section
namespace Kn
open PySem L2
section
variable{P:aB}{w:aL}{K:aa}{mg:Str->Option ae}{base:ba}
def zHh:Sp:=fun vs H Q _=>∃u d:Int,vs=[.int u,.int d]/\0<=u/\0<d/\d<1606938044258990275541962092341162602522202993782792835301376/\Q (.int (vI u d)) H
def zDk:Sp:=fun vs H Q _=>∃u d:Int,vs=[.int u,.int d]/\0<=u/\0<d/\d<1606938044258990275541962092341162602522202993782792835301376/\∀p,H p=none->Q (.ref p) (upd H p (frO (low u d)))
theorem zNy {f:ai}{fd:aE}(F:Fun K "greatest_divisor" "greatest_divisor" zDB f fd):FnOk P w K mg base zR 1 f fd ["one","other"] zHh:=by
 refine F.ok zGc (fun vs H Q E h=>?_) (fun y A outer s H vs Q E I h=>?_)
 ·obtain⟨a,b,rfl,_⟩:=h;rfl
 ·obtain⟨u,d,rfl,j,l,n,k⟩:=h
  have nd:=zGc.nd
  refine⟨_,zH (zJF cb (vN zCK (pv 1) zO (vB _))
    (zH (zZ (i:=2) nd rfl (Or.inl rfl) (zT kU (pv 0) (pv 1))) (zH (zZ (i:=0) nd rfl (Or.inl rfl) (pv 1)) (zJ (zZ (i:=1) nd rfl (Or.inl rfl) (pv 2))))))
   (zJ (zS (pv 0))),?_⟩
  refine⟨fun m σ H'=>H'=H/\∃(a b:Int) (r:Option V),σ=[some (.int a),some (.int b),r]/\m=b.toNat/\0<=a/\0<=b/\b<1606938044258990275541962092341162602522202993782792835301376/\f9 a b=f9 u d,⟨_,rfl,u,d,none,rfl,rfl,j,bW l,n,rfl⟩,?_⟩
  rintro m σ H' ⟨rfl,a,b,r,rfl,rfl,p,B,C,q⟩
  refine⟨_,rfl,rfl,_,rfl,?_⟩
  by_cases hz:b=0
  ·subst hz
   refine gC rfl ⟨_,rfl,?_⟩
   have e:a=vI u d:=by
    unfold vI
    rw[<-q]
    obtain⟨x,rfl⟩:=ck p
    simp
   show Q (.int a) H'
   rw[e]
   exact k
  ·have c:0<b:=by omega
   have o:¬(V.int b=V.int 0):=fun z=>hz (V.int.inj z)
   have D:(!decide (V.int b=V.int 0))=true:=by rw[decide_eq_false o];rfl
   show if(!decide (V.int b=V.int 0))=true then _ else _
   rw[if_pos D]
   refine⟨fun v g=>g=H'/\v=[some (.int b),some (.int (a%b)),some (.int (a%b))],?_,?_⟩
   ·rintro v g ⟨rfl,rfl⟩
    have G:=kj a hz
    have J:=iB a c
    exact⟨(a%b).toNat,by omega,rfl,b,a%b,_,rfl,rfl,B,G,by omega,by rw[zLy p c];exact q⟩
   ·exact⟨_,rfl,_,rfl,_,_,rfl,rfl,c,_,rfl,_,rfl,rfl,rfl⟩
theorem zNz {f:ai}{fd:aE}(F:Fun K "lowest" "lowest" zDC f fd)(c1:zN P w K mg base 1 "greatest_divisor" ["one","other"] zHh):FnOk P w K mg base zR 2 f fd ["up","down"] zDk:=by
 refine F.ok zGe (fun vs H Q E h=>?_) (fun j A outer s H vs Q E l h=>?_)
 ·obtain⟨a,b,rfl,_⟩:=h;rfl
 ·obtain⟨u,d,rfl,e,c,g,k⟩:=h
  have nd:=zGe.nd
  refine⟨_,zH (zZ (i:=2) nd rfl (Or.inl rfl) (zM c1 l rfl (zA (pv 0) (zA (pv 1) zC))))
   (zJ (zS (jY (zA (zT zHK (pv 0) (pv 2)) (zA (zT zHK (pv 1) (pv 2)) zC))))),?_⟩
  have g1:=zCj (u:=u) c
  have g2:vI u d<=d:=Int.le_of_dvd c (iR ..)
  refine⟨_,rfl,_,rfl,u,d,rfl,e,c,g,?_⟩
  exact⟨_,rfl,_,rfl,_,_,rfl,rfl,⟨g1,by omega⟩,_,rfl,_,rfl,_,_,rfl,rfl,⟨g1,by omega⟩,by show 2<=sizeLine;decide,k⟩
structure Vx (q:Int×Int):Prop extends Fq q where
 u1:q.1<1267650600228229401496703205376
 d1:q.2<1267650600228229401496703205376
theorem Sm.vx {q:Int×Int}(h:Sm q):Vx q:=⟨h.toFq,by have:=h.u1;omega,by have:=h.d1;omega⟩
theorem Vx.prod {p q:Int×Int}(a:Vx p)(b:Vx q):p.2*q.2<1606938044258990275541962092341162602522202993782792835301376:=by
 have c:p.2*q.2<1267650600228229401496703205376*1267650600228229401496703205376:=Int.lt_of_lt_of_le (du a.d1 b.dn) (Int.mul_le_mul_of_nonneg_left (bW b.d1) (by decide))
 have e:(1267650600228229401496703205376:Int)*1267650600228229401496703205376=1606938044258990275541962092341162602522202993782792835301376:=by decide
 rw[e]at c;exact c
theorem Vx.bu {p:Int×Int}(a:Vx p):zAH p.1:=⟨a.up,by have:=a.u1;omega⟩
theorem Vx.bd {p:Int×Int}(a:Vx p):zAH p.2:=⟨bW a.dn,by have:=a.d1;omega⟩
def zDl (K:aa):Sp:=fun vs H Q _=>∃(x y:V) (p q:Int×Int),vs=[x,y]/\yK K H x p/\yK K H y q/\Vx p/\Vx q/\∀a,H a=none->Q (.ref a) (upd H a (frO (y0 p q)))
def zDm (K:aa):Sp:=fun vs H Q _=>∃(x y:V) (p q:Int×Int),vs=[x,y]/\yK K H x p/\yK K H y q/\Vx p/\Vx q/\Q (.bl (yX p q)) H
theorem zOA {f:ai}{fd:aE}(F:Fun K "times" "times" zDD f fd)(c1:zN P w K mg base 2 "lowest" ["up","down"] zDk):FnOk P w K mg base zR 3 f fd ["one","other"] (zDl K):=by
 refine F.ok zLz (fun vs H Q E h=>?_) (fun g A outer s H vs Q E i h=>?_)
 ·obtain⟨x,y,p,q,rfl,_⟩:=h;rfl
 ·obtain⟨x,y,p,q,rfl,⟨a,rfl,d⟩,⟨b,rfl,e⟩,sp,c,k⟩:=h
  refine⟨_,zJ (zS (zM c1 i rfl (zA (zT zBp (yS uA (pv 0) zO (fun _ _=>rfl)) (yS uA (pv 1) zO (fun _ _=>rfl)))
   (zA (zT zBp (yS uA (pv 0) zO (fun _ _=>rfl)) (yS uA (pv 1) zO (fun _ _=>rfl))) zC)))),?_⟩
  have j:=sp.up;have l:=c.up;have m:=sp.dn;have n:=c.dn
  refine⟨_,rfl,a,_,0,_,rfl,rfl,d,rfl,_,rfl,b,_,0,_,rfl,rfl,e,rfl,_,_,rfl,rfl,⟨sp.bu,c.bu⟩,?_⟩
  refine⟨_,rfl,a,_,1,_,rfl,rfl,d,rfl,_,rfl,b,_,1,_,rfl,rfl,e,rfl,_,_,rfl,rfl,⟨sp.bd,c.bd⟩,?_⟩
  exact⟨_,_,rfl,fF j l,d0 m n,(Vx.prod sp c),k⟩
theorem zOB {f:ai}{fd:aE}(F:Fun K "is_less" "is_less" zDE f fd):FnOk P w K mg base zR 1 f fd ["one","other"] (zDm K):=by
 refine F.ok zMA (fun vs H Q E h=>?_) (fun g A outer s H vs Q E i h=>?_)
 ·obtain⟨x,y,p,q,rfl,_⟩:=h;rfl
 ·obtain⟨x,y,p,q,rfl,⟨a,rfl,d⟩,⟨b,rfl,e⟩,sp,c,k⟩:=h
  refine⟨_,zJ (zS (jC zCL (zT zBp (yS uA (pv 0) zO (fun _ _=>rfl)) (yS uA (pv 1) zO (fun _ _=>rfl))) (zT zBp (yS uA (pv 1) zO (fun _ _=>rfl)) (yS uA (pv 0) zO (fun _ _=>rfl))) (vB _))),?_⟩
  have j:=sp.up;have l:=c.up
  refine⟨_,rfl,a,_,0,_,rfl,rfl,d,rfl,_,rfl,b,_,1,_,rfl,rfl,e,rfl,_,_,rfl,rfl,⟨sp.bu,c.bd⟩,?_⟩
  exact⟨_,rfl,b,_,0,_,rfl,rfl,e,rfl,_,rfl,a,_,1,_,rfl,rfl,d,rfl,_,_,rfl,rfl,⟨c.bu,sp.bd⟩,_,_,rfl,rfl,k⟩
end
def qW (st:Option Nat×(Int×Int))(i:Nat)(q:Int×Int):Option Nat×(Int×Int):=if yX st.2 q=true then(some i,q)else st
def uG:List (Int×Int)->Nat->Option Nat×(Int×Int)->Option Nat×(Int×Int)
 | [],_,st=>st
 |q::qs,i,st=>uG qs (i+1) (qW st i q)
def j6 (qs:List (Int×Int)):Option Nat:=(uG qs 0 (none,(0,1))).1
theorem zDn:∀(a:List (Int×Int)) (q:Int×Int) (i:Nat) (st:Option Nat×(Int×Int)),uG (a++[q]) i st=qW (uG a i st) (i+a.length) q
 | [],q,i,st=>rfl
 |r::a,q,i,st=>by
  show uG (a++[q]) (i+1) (qW st i r)=qW (uG a (i+1) (qW st i r)) (i+(a.length+1)) q
  rw[zDn a q (i+1)]
  congr 1;omega
def yP:Option Nat->V
 |none=>.non
 |some i=>.int i
def v8 (ps:List (S×S))(o:Nat)(nms:List S):Int×Int:=nms.foldl (fun w n=>y0 w (z5 ps o n)) (1,1)
theorem zOC (b:List (S×S))(o:Nat)(a:List S)(n:S):v8 b o (a++[n])=y0 (v8 b o a) (z5 b o n):=by unfold v8;rw[iP];rfl
theorem zOD (a:List (S×S))(o:Nat)(b:List S):Fq (v8 a o b)/\(v8 a o b).1<=(v8 a o b).2:=by
 unfold v8
 have go:∀(l:List S) (w:Int×Int),Fq w->w.1<=w.2->Fq (l.foldl (fun w n=>y0 w (z5 a o n)) w)/\(l.foldl (fun w n=>y0 w (z5 a o n)) w).1<=(l.foldl (fun w n=>y0 w (z5 a o n)) w).2:=by
  intro l
  induction l with
  |nil=>intro w c d;exact⟨c,d⟩
  |cons n l ih=>intro w c d;exact ih _ (kL c (jP a o n)) (zGJ c (jP a o n) d (zCp a o n))
 exact go b (1,1) jO (by decide)
section
variable{P:aB}{w:aL}{K:aa}{mg:Str->Option ae}{base:ba}
structure FrsAt (K:aa) (H:Hp) (vs:List V) (qs:List (Int×Int)):Prop where
 len:vs.length=qs.length
 at_:∀(i:Nat) (v:V) (q:Int×Int),vs[i]?=some v->qs[i]?=some q->yK K H v q
def zBq (K:aa):Sp:=fun vs H Q _=>∃(l:ai) (xs:List V) (qs:List (Int×Int)),vs=[.ref l]/\H l=some (.lst xs)/\FrsAt K H xs qs/\(∀q∈qs,Vx q)/\∀H',zB H H'->Q (yP (j6 qs)) H'
abbrev zDo:bY:=top 30
theorem zHi:FnScope ["fractions","found","greatest","place","fraction"] ["fractions"] (defScope zDo):=zX
theorem zOE {f:ai}{fd:aE}(F:Fun K "place_of_greatest" "place_of_greatest" zDo f fd)(m:mg "enumerate"=none)(C:Cst2 K mg)(J:zN P w K mg base 1 "is_less" ["one","other"] (zDm K)):FnOk P w K mg base zR 2 f fd ["fractions"] (zBq K):=by
 obtain⟨u,n,L⟩:=C.nought
 refine F.ok zHi (fun vs H Q E h=>?_) (fun M A outer s H vs Q E N h=>?_)
 ·obtain⟨l,xs,a,rfl,_⟩:=h;rfl
 ·obtain⟨l,xs,a,rfl,hl,o,O,k⟩:=h
  have nd:=zHi.nd
  refine⟨_,zH (zZ (i:=1) nd rfl (Or.inl rfl) kP)
   (zH (zZ (i:=2) nd rfl (Or.inl rfl) (uL (v:=.ref u) (by rfl) n rfl))
   (zH (qG cb rfl (zGF rfl m (zA (pv 0) zC)) (zAv rfl (qE (yC (i:=3) nd rfl (Or.inl rfl)) (qE (yC (i:=4) nd rfl (Or.inl rfl)) gR)))
    (zJ (yR (vC (zM J N rfl (zA (pv 2) (zA (pv 4) zC)))) (zH (zZ (i:=1) nd rfl (Or.inl rfl) (pv 3)) (zJ (zZ (i:=2) nd rfl (Or.inl rfl) (pv 4)))) yQ)))
   (zJ (zS (pv 1))))),?_⟩
  refine⟨_,rfl,l,xs,rfl,hl,?_⟩
  refine zLP (K:=K) (xs:=xs) (fun i σ H'=>∃(g:V) (y z:Option V),σ=[some (.ref l),some (yP (uG (a.take i) 0 (none,(0,1))).1),some g,y,z]/\zB H H'/\yK K H' g (uG (a.take i) 0 (none,(0,1))).2/\Vx (uG (a.take i) 0 (none,(0,1))).2)
   ⟨_,_,_,rfl,zB.refl H,⟨u,rfl,L _⟩,⟨zCl,(by show(0:Int)<_;decide),(by show(1:Int)<_;decide)⟩⟩ (fun i σ H' _ h=>by obtain⟨_,_,_,_,h,_⟩:=h;exact .of (h _ _ hl)) ?_ ?_
  ·rintro i x T σ H' U B D ⟨g,y,z,rfl,d,p,q⟩ R
   have hi:i<xs.length:=(af.mp D).1
   have c:i<a.length:=by rw[<-o.len];exact hi
   have eq:a[i]?=some a[i]:=ao c
   have e:zB H' (upd H' T (.tup [.int i,x])):=zB.upd1 R
   have G:=O a[i] (bE c)
   have I:yK K (upd H' T (.tup [.int i,x])) x a[i]:=(o.at_ i x a[i] D eq).same (d.trans e)
   have b:uG (a.take (i+1)) 0 (none,(0,1))=qW (uG (a.take i) 0 (none,(0,1))) i a[i]:=by
    rw[av c,zDn]
    congr 1
    rw[aX];omega
   refine⟨T,_,rfl,.of zI,rfl,_,_,rfl,_,_,rfl,rfl,?_⟩
   refine⟨_,rfl,_,rfl,g,x,_,a[i],rfl,p.same e,I,q,G,?_⟩
   cases j:yX (uG (a.take i) 0 (none,(0,1))).2 a[i]with
   |true=>
    have r:qW (uG (a.take i) 0 (none,(0,1))) i a[i]=(some i,a[i]):=by unfold qW;rw[if_pos j]
    rw[r]at b
    refine⟨true,rfl,vH ⟨_,rfl,_,rfl,B _ _ ⟨x,some (.int (i:Int)),some x,?_,d.trans e,?_,?_⟩⟩⟩
    ·rw[b];rfl
    ·rw[b];exact I
    ·rw[b];exact G
   |false=>
    have r:qW (uG (a.take i) 0 (none,(0,1))) i a[i]=uG (a.take i) 0 (none,(0,1)):=by unfold qW;rw[if_neg (by rw[j];exact aH)]
    rw[r]at b
    refine⟨false,rfl,yJ (B _ _ ⟨g,some (.int (i:Int)),some x,?_,d.trans e,?_,?_⟩)⟩
    ·rw[b];rfl
    ·rw[b];exact p.same e
    ·rw[b];exact q
  ·rintro σ H' ⟨g,y,z,rfl,d,p,q⟩
   rw[o.len,aQ]
   exact⟨_,rfl,k H' d⟩
structure Few (bk:List S) (o:Nat) (nms:List S):Prop where
 n6:nms.length<=4
 nm:∀n∈nms,yE n/\(zD o bk).length^(n.length+1)<=1048576
theorem zOF {p q:Int×Int}(a:Fq p)(b:Fq q):(y0 p q).2<=p.2*q.2:=(zCk (fF a.up b.up) (d0 a.dn b.dn)).1
theorem zHj {a:List (S×S)}{o:Nat}{nm:S}(c:1<=a.length)(h:a.length^(nm.length+1)<=1048576):(z5 a o nm).2<=1048576:=by
 have e:=zCo c (z3 o nm) (1,1) 0 jO (by simp)
 have b:(z5 a o nm).2<=(a.length:Int)^(0+(z3 o nm).length):=e
 rw[ji,gK]at b
 have d:((a.length^(nm.length+1):Nat):Int)=(a.length:Int)^(nm.length+1):=by push_cast;rfl
 rw[<-d]at b
 omega
theorem zHk {b:List (S×S)}{o:Nat}(d:1<=b.length):∀(a:List S) (w:Int×Int) (k:Nat),Fq w->w.2<=(1048576:Int)^k->(∀n∈a,b.length^(n.length+1)<=1048576)->(a.foldl (fun w n=>y0 w (z5 b o n)) w).2<=(1048576:Int)^(k+a.length)
 | [],w,k,_,c,_=>c
 |n::a,w,k,f,c,h=>by
  have g:=zHj (o:=o) d (h n (aq ..))
  have i:=zOF f (jP b o n)
  have j:w.2*(z5 b o n).2<=(1048576:Int)^(k+1):=by
   rw[qe]
   exact iz c g (bW (jP b o n).dn) (bW (Int.pow_pos (by decide)))
  have ih:=zHk (o:=o) d a (y0 w (z5 b o n)) (k+1) (kL f (jP b o n)) (Int.le_trans i j) fun x l=>h x (az _ l)
  have e:k+(n::a).length=k+1+a.length:=by rw[aO];omega
  rw[e]
  exact ih
theorem zHl {b:List (S×S)}{o:Nat}{a:List S}(c:1<=b.length)(d:a.length<=4)(h:∀n∈a,b.length^(n.length+1)<=1048576):Vx (v8 b o a):=by
 obtain⟨f,l⟩:=zOD b o a
 have hd:(v8 b o a).2<=(1048576:Int)^(0+a.length):=zHk c a (1,1) 0 jO (by simp) h
 have g:(1048576:Int)^(0+a.length)<=(1048576:Int)^4:=by
  have e:∀n,n<=4->(1048576:Int)^n<=(1048576:Int)^4:=by decide
  exact e _ (by omega)
 have i:(1048576:Int)^4<1267650600228229401496703205376:=by decide
 exact⟨f,by omega,by omega⟩
def zHm (K:aa):Sp:=fun vs H Q _=>∃(a l:ai) (bk:List S) (o:Nat) (nms:List S),vs=[.ref a,.int o,.ref l]/\H a=some (.tup (zE bk))/\H l=some (.lst (nms.map sv))/\Bk bk o/\Few bk o nms/\∀v H',zB H H'->yK K H' v (v8 (zD o bk) o nms)->Q v H'
abbrev zDp:bY:=top 50
theorem zHn:FnScope ["book","order","names","rows","product","name"] ["book","order","names"] (defScope zDp):=zX
theorem zOG {f:ai}{fd:aE}(F:Fun K "share_of_all" "share_of_all" zDp f fd)(C:Cst2 K mg)(T:zN P w K mg base 3 "counted_rows" ["book","order"] zBY)(D:zN P w K mg base 5 "share_by_rows" ["rows","order","name"] (zDK K))(U:zN P w K mg base 3 "times" ["one","other"] (zDl K)) :
  FnOk P w K mg base zR 6 f fd ["book","order","names"] (zHm K):=by
 obtain⟨L,W,X⟩:=C.whole
 refine F.ok zHn (fun vs H Q E h=>?_) (fun Y A outer s H vs Q E M h=>?_)
 ·obtain⟨a,l,bk,o,b,rfl,_⟩:=h;rfl
 ·obtain⟨a,l,bk,o,b,rfl,Z,hl,c,G,k⟩:=h
  have nd:=zHn.nd
  have g:=M.mono (j:=3) (by decide)
  refine⟨_,zH (zZ (i:=3) nd rfl (Or.inl rfl) (zM T g rfl (zA (pv 0) (zA (pv 1) zC))))
   (zH (zZ (i:=4) nd rfl (Or.inl rfl) (uL (v:=.ref L) (by rfl) W rfl))
   (zH (qG cb rfl (v3 (pv 2)) (yC (i:=5) nd rfl (Or.inl rfl))
    (zJ (zZ (i:=4) nd rfl (Or.inl rfl) (zM U g rfl (zA (pv 4) (zA (zM D M rfl (zA (pv 3) (zA (pv 1) (zA (pv 5) zC)))) zC))))))
   (zJ (zS (pv 4))))),?_⟩
  refine⟨_,rfl,_,rfl,a,bk,o,rfl,Z,c.hi,c.l8,c.o1,fun d H1 N hd R=>?_⟩
  have hl1:=N _ _ hl
  obtain⟨I,p2⟩:=zAD c
  refine⟨_,rfl,l,rfl,⟨_,.of hl1⟩,?_⟩
  refine jN (v5 K l (b.map sv)) (fun i σ m=>∃(v:V) (y:Option V),σ=[some (.ref a),some (.int o),some (.ref l),some (.ref d),some v,y]/\zB H1 m/\yK K m v (v8 (zD o bk) o (b.take i)))
   ⟨_,_,rfl,zB.refl _,⟨L,rfl,X _⟩⟩ (fun i σ H' _ h=>by obtain⟨_,_,_,h,_⟩:=h;exact .of (h _ _ hl1)) ?_ ?_
  ·rintro i x σ m Nx hN p ⟨v,y,rfl,r,B⟩
   rw[ar]at p
   cases e:b[i]? with
   |none=>rw[e]at p;cases p
   |some n=>
    rw[e]at p
    have J:x=sv n:=(au p).symm
    subst J
    have hj:i<b.length:=(af.mp e).1
    obtain⟨nn,np⟩:=G.nm n (aF e)
    refine⟨_,rfl,_,rfl,_,rfl,_,rfl,d,zD o bk,o,n,rfl,R.same r,I,p2,by omega,c.o1,by have:=nn.2.1;omega,fun u H3 O fu=>?_⟩
    have vp:Vx (v8 (zD o bk) o (b.take i)):=zHl I (by rw[aX];have:=G.n6;omega) fun z hz=>(G.nm z (cn hz)).2
    have vs:Vx (z5 (zD o bk) o n):=by
     have h1:=zHj (o:=o) I np
     have h2:=zCp (zD o bk) o n
     exact⟨jP _ _ _,by omega,by omega⟩
    refine⟨v,u,_,_,rfl,B.same O,fu,vp,vs,fun q hq=>hN _ _ ⟨.ref q,_,rfl,(r.trans O).trans (zB.upd1 hq),?_⟩⟩
    rw[av hj,(af.mp e).2,zOC]
    exact⟨q,rfl,.of zI⟩
  ·rintro σ m ⟨v,y,rfl,r,B⟩
   rw[aj,aQ]at B
   exact⟨_,rfl,k v m (N.trans r) B⟩
end
structure BksAt (H:Hp) (l:ai) (bks:List (ai×List S)):Prop where
 lst:H l=some (.lst (bks.map fun p=>V.ref p.1))
 at_:∀p∈bks,H p.1=some (.tup (zE p.2))
theorem BksAt.same {H H':Hp}{l:ai}{bks:List (ai×List S)}(h:BksAt H l bks)(e:zB H H'):BksAt H' l bks:=⟨e _ _ h.lst,fun p a=>e _ _ (h.at_ p a)⟩
theorem zAo {bks:List (ai×List S)}{i:Nat}{x:V}(h:(bks.map fun p=>V.ref p.1)[i]?=some x):∃p,bks[i]?=some p/\x=.ref p.1:=by
 rw[ar]at h
 cases e:bks[i]? with
 |none=>rw[e]at h;cases h
 |some p=>rw[e]at h;exact⟨p,rfl,(au h).symm⟩
section
variable{P:aB}{w:aL}{K:aa}{mg:Str->Option ae}{base:ba}
theorem FrsAt.same {H H':Hp}{vs:List V}{a:List (Int×Int)}(h:FrsAt K H vs a)(e:zB H H'):FrsAt K H' vs a:=⟨h.len,fun i v q b c=>(h.at_ i v q b c).same e⟩
theorem FrsAt.snoc {H:Hp}{vs:List V}{g:List (Int×Int)}{v:V}{q:Int×Int}(h:FrsAt K H vs g)(f:yK K H v q):FrsAt K H (vs++[v]) (g++[q]):=by
 refine⟨by rw[aA,aA,h.len];rfl,fun i u r a b=>?_⟩
 by_cases hi:i<vs.length
 ·rw[b7 hi]at a
  rw[b7 (by rw[<-h.len];exact hi)]at b
  exact h.at_ i u r a b
 ·have e1:i=vs.length:=by
   have:=(af.mp a).1
   rw[aA]at this
   have e:([v]:List V).length=1:=rfl
   omega
  subst e1
  rw[dy (aw _),qg]at a
  rw[dy (by rw[h.len];exact aw _),h.len,qg]at b
  have c:v=u:=au a
  have d:q=r:=au b
  subst c d
  exact f
theorem FrsAt.nil {H:Hp}:FrsAt K H [] []:=⟨rfl,fun i v q h=>by cases h⟩
def zBr:Sp:=fun vs H Q _=>∃(l:ai) (bks:List (ai×List S)),vs=[.ref l]/\BksAt H l bks/\(∀p∈bks,isBk p.2)/\∀H',zB H H'->Q .non H'
abbrev zDq:bY:=top 17
theorem zHo:FnScope ["thing","book"] ["thing"] (defScope zDq):=zX
theorem zOH {f:ai}{fd:aE}(F:Fun K "need_books" "need_books" zDq f fd)(B:Blt mg)(c:mg "list"=none)(c1:zN P w K mg base 3 "need_book" ["thing"] zAe):FnOk P w K mg base zR 4 f fd ["thing"] zBr:=by
 refine F.ok zHo (fun vs H Q E h=>?_) (fun e A outer s H vs Q E g h=>?_)
 ·obtain⟨l,bks,rfl,_⟩:=h;rfl
 ·obtain⟨l,bks,rfl,a,hi,k⟩:=h
  have nd:=zHo.nd
  refine⟨_,zH (yR (vL (vC (yF jM (by rfl) B.isinstance bq (zA (pv 0) (zA (jB (v:=.ty "list") (by rfl) c jy rfl) zC))))) (zJ gQ) yQ)
   (zJ (qG cb rfl (v3 (pv 0)) (yC (i:=1) nd rfl (Or.inl rfl)) (zJ (yB (zM c1 g rfl (zA (pv 1) zC)))))),?_⟩
  refine⟨_,rfl,_,_,_,true,rfl,.lst a.lst,(by rfl),true,rfl,yJ ?_⟩
  refine⟨_,rfl,l,rfl,⟨_,.of a.lst⟩,?_⟩
  refine jN (v5 K l (bks.map fun p=>V.ref p.1)) (fun i σ H'=>(∃y:Option V,σ=[some (.ref l),y])/\zB H H') ⟨⟨_,rfl⟩,zB.refl H⟩ (fun i σ H' _ h=>.of (h.2 _ _ a.lst)) ?_ ?_
  ·rintro i x σ H' o j m ⟨⟨y,rfl⟩,b⟩
   obtain⟨p,ep,rfl⟩:=zAo m
   have d:=aF ep
   exact⟨_,rfl,p.1,p.2,rfl,b _ _ (a.at_ p d),hi p d,fun q n=>j _ _ ⟨⟨_,rfl⟩,b.trans n⟩⟩
  ·rintro σ H' ⟨⟨y,rfl⟩,b⟩
   exact k H' b
def zHp:Sp:=fun vs H Q _=>∃(l:ai) (nms:List S),vs=[.ref l]/\H l=some (.lst (nms.map sv))/\nms.length<=100/\(∀n∈nms,yE n)/\∀H',zB H H'->Q .non H'
abbrev zDr:bY:=top 49
theorem zOI:FnScope ["thing"] ["thing"] (defScope zDr):=zX
theorem zOJ {f:ai}{fd:aE}(F:Fun K "need_names" "need_names" zDr f fd)(B:Blt mg)(j:mg "list"=none)(c1:zN P w K mg base 1 "is_name" ["thing"] zBQ):FnOk P w K mg base zR 2 f fd ["thing"] zHp:=by
 refine F.ok zOI (fun vs H Q E h=>?_) (fun r A outer s H vs Q E u h=>?_)
 ·obtain⟨l,a,rfl,_⟩:=h;rfl
 ·obtain⟨l,a,rfl,hl,p,x,k⟩:=h
  refine⟨_,zJ (yR (PW.pt (kG (vL (vC (yF jM (by rfl) B.isinstance bq (zA (pv 0) (zA (jB (v:=.ty "list") (by rfl) j jy rfl) zC)))))
    (kB (vL (vC (yF (zAZ rfl) (by rfl) B.all dE (zA (vX (N:=["name"]) (caps:=[]) rfl (vP (by kernel_rfl)) (v3 (pv 0))
     (fun q C s H ex=>yC (i:=0) nd2 rfl (Or.inl rfl)) (fun q C s H ex=>uX)
     (fun q C s H ex=>zM c1 u rfl (zA (pv 0) zC))) zC))))))) (zJ gQ) yQ),?_⟩
  refine⟨_,rfl,_,_,_,true,rfl,.lst hl,(by rfl),_,rfl,yJ ?_⟩
  have m:(a.map sv).length=a.length:=aj ..
  refine⟨_,rfl,l,rfl,⟨_,.of hl⟩,?_⟩
  refine uY (v5 K l (a.map sv)) [] 1 (by rw[m];omega) (fun i b H'=>zB H H'/\b=aS i (.bl true)) ⟨zB.refl H,rfl⟩ (fun i b H' _ h=>⟨.of (h.1 _ _ hl),by rw[h.2];simp⟩) ?_ ?_
  ·rintro i y b H' ys J z d G ⟨g,rfl⟩
   obtain⟨L,rfl⟩:=v7 G
   rw[ar]at d
   cases e:a[i]? with
   |none=>rw[e]at d;cases d
   |some c=>
    rw[e]at d
    have n:y=sv c:=(au d).symm
    subst n
    exact⟨_,rfl,c,rfl,x c (aF e),fun M o=>z _ _ [some (sv c)] rfl ⟨g.trans o,by rw[gj]⟩⟩
  ·rintro b H' ⟨g,rfl⟩ D I
   refine⟨D,aS _ true,rfl,.of (by rw[zI,iA]),?_⟩
   have e:(aS (a.map sv).length true).all id=true:=by simp
   rw[e]
   exact⟨true,rfl,yJ (k _ (g.upd_new (g.free I)))⟩
def zHq (K:aa):Sp:=fun vs H Q _=>∃(l ln:ai) (bks:List (ai×List S)) (o:Nat) (nms:List S),vs=[.ref l,.int o,.ref ln]/\BksAt H l bks/\H ln=some (.lst (nms.map sv))/\bks.length<=100/\1<=o/\o<=3/\(∀n∈nms,yE n)/\nms.length<=4/\
 (∀p∈bks,Bk p.2 o/\Few p.2 o nms)/\∀H',zB H H'->Q (yP (j6 (bks.map fun p=>v8 (zD o p.2) o nms))) H'
abbrev zDs:bY:=top 51
theorem zOK:FnScope ["books","order","names"] ["books","order","names"] (defScope zDs):=zX
theorem zOL:(["order","names","book"]:List Str).Nodup:=by decide+kernel
theorem zOM {f:ai}{fd:aE}(F:Fun K "best_for" "best_for" zDs f fd)(I:zN P w K mg base 4 "need_books" ["thing"] zBr)(J:zN P w K mg base 3 "need_order" ["thing"] zAB)(L:zN P w K mg base 2 "need_names" ["thing"] zHp)
  (cA:zN P w K mg base 6 "share_of_all" ["book","order","names"] (zHm K)) (cP:zN P w K mg base 2 "place_of_greatest" ["fractions"] (zBq K)):FnOk P w K mg base zR 7 f fd ["books","order","names"] (zHq K):=by
 refine F.ok zOK (fun vs H Q E h=>?_) (fun ab A outer s H vs Q E z h=>?_)
 ·obtain⟨l,B,bks,o,b,rfl,_⟩:=h;rfl
 ·obtain⟨l,B,bks,o,b,rfl,W,g,X,M,O,R,h6,m,k⟩:=h
  have T:=z.mono (j:=4) (by decide)
  have U:=z.mono (j:=3) (by decide)
  have hr2:=z.mono (j:=2) (by decide)
  refine⟨_,zH (yB (zM I T rfl (zA (pv 0) zC))) (zH (yB (zM J U rfl (zA (pv 1) zC))) (zH (yB (zM L hr2 rfl (zA (pv 2) zC)))
   (zJ (zS (zM cP hr2 rfl (zA (vX (N:=["order","names","book"]) (caps:=[1,2]) rfl (vP (by kernel_rfl)) (v3 (pv 0))
     (fun Y C s H ex=>yC (i:=2) zOL rfl (Or.inl rfl)) (fun Y C s H ex=>uX)
     (fun Y C s H ex=>zM cA z rfl (zA (pv 2) (zA (pv 0) (zA (pv 1) zC))))) zC)))))),?_⟩
  refine⟨_,rfl,l,bks,rfl,W,fun p c=>(m p c).1.toisBk,fun H1 Z=>?_⟩
  refine⟨_,rfl,o,rfl,M,O,?_⟩
  refine⟨_,rfl,B,b,rfl,Z _ _ g,by omega,R,fun H2 s2=>?_⟩
  have d:=Z.trans s2
  have e:=W.same d
  have r:(bks.map fun p=>V.ref p.1).length=bks.length:=aj ..
  refine⟨_,rfl,l,rfl,⟨_,.of e.lst⟩,?_⟩
  refine uY (v5 K l (bks.map fun p=>V.ref p.1)) [some (.int o),some (.ref B)] 1 (by rw[r];omega) (fun i a H'=>zB H2 H'/\a.length=i/\FrsAt K H' a ((bks.take i).map fun p=>v8 (zD o p.2) o b))
   ⟨zB.refl _,rfl,FrsAt.nil⟩ (fun i a H' _ h=>⟨.of (h.1 _ _ e.lst),d5 h.2.1⟩) ?_ ?_
  ·rintro i y a H' ys Nx hN hx hy ⟨u,x,G⟩
   obtain⟨y',rfl⟩:=v7 hy
   obtain⟨p,ep,rfl⟩:=zAo hx
   have c:=aF ep
   have hj:i<bks.length:=(af.mp ep).1
   refine⟨_,rfl,_,rfl,_,rfl,p.1,B,p.2,o,b,rfl,u _ _ (e.at_ p c),u _ _ (d _ _ g),(m p c).1,(m p c).2,fun v H5 s5 fv=>hN _ _ [some (.ref p.1)] rfl ⟨u.trans s5,by rw[aA,x];rfl,?_⟩⟩
   rw[av hj,(af.mp ep).2,aJ]
   exact(G.same s5).snoc fv
  ·rintro a H' ⟨u,x,G⟩ D hD
   rw[r,aQ]at G
   have u1:zB H' (upd H' D (.lst a)):=zB.upd1 hD
   refine⟨D,a,_,rfl,zI,G.same u1,fun q hq=>?_,fun H6 s6=>k H6 (((d.trans u).trans u1).trans s6)⟩
   obtain⟨p,c,rfl⟩:=aG.mp hq
   exact zHl (zAD (m p c).1).1 h6 fun n R=>((m p c).2.nm n R).2
def zHr (K:aa):Sp:=fun vs H Q _=>∃(l:ai) (bks:List (ai×List S)) (o:Nat) (nm:S),vs=[.ref l,.int o,sv nm]/\BksAt H l bks/\bks.length<=100/\1<=o/\o<=3/\yE nm/\
 (∀p∈bks,Fit p.2 o nm)/\∀H',zB H H'->Q (yP (j6 (bks.map fun p=>z5 (zD o p.2) o nm))) H'
abbrev zDt:bY:=top 42
theorem zON:FnScope ["books","order","name"] ["books","order","name"] (defScope zDt):=zX
theorem zOO:(["order","name","book"]:List Str).Nodup:=by decide+kernel
theorem zOP {f:ai}{fd:aE}(F:Fun K "best_maker" "best_maker" zDt f fd)(x:zN P w K mg base 4 "need_books" ["thing"] zBr)(z:zN P w K mg base 3 "need_order" ["thing"] zAB)(B:zN P w K mg base 2 "need_name" ["thing"] qT)
  (U:zN P w K mg base 6 "share" ["book","order","name"] (zBb K)) (W:zN P w K mg base 2 "place_of_greatest" ["fractions"] (zBq K)):FnOk P w K mg base zR 7 f fd ["books","order","name"] (zHr K):=by
 refine F.ok zON (fun vs H Q E h=>?_) (fun X A outer s H vs Q E m h=>?_)
 ·obtain⟨l,bks,o,nm,rfl,_⟩:=h;rfl
 ·obtain⟨l,bks,o,nm,rfl,M,O,G,I,Y,n,k⟩:=h
  have J:=m.mono (j:=4) (by decide)
  have L:=m.mono (j:=3) (by decide)
  have hr2:=m.mono (j:=2) (by decide)
  refine⟨_,zH (yB (zM x J rfl (zA (pv 0) zC))) (zH (yB (zM z L rfl (zA (pv 1) zC))) (zH (yB (zM B hr2 rfl (zA (pv 2) zC)))
   (zJ (zS (zM W hr2 rfl (zA (vX (N:=["order","name","book"]) (caps:=[1,2]) rfl (vP (by kernel_rfl)) (v3 (pv 0))
     (fun R C s H ex=>yC (i:=2) zOO rfl (Or.inl rfl)) (fun R C s H ex=>uX)
     (fun R C s H ex=>zM U m rfl (zA (pv 2) (zA (pv 0) (zA (pv 1) zC))))) zC)))))),?_⟩
  refine⟨_,rfl,l,bks,rfl,M,fun p b=>(n p b).toBk.toisBk,fun H1 Z=>?_⟩
  refine⟨_,rfl,o,rfl,G,I,?_⟩
  refine⟨_,rfl,nm,rfl,Y,fun H2 s2=>?_⟩
  have d:=Z.trans s2
  have c:=M.same d
  have e:(bks.map fun p=>V.ref p.1).length=bks.length:=aj ..
  refine⟨_,rfl,l,rfl,⟨_,.of c.lst⟩,?_⟩
  refine uY (v5 K l (bks.map fun p=>V.ref p.1)) [some (.int o),some (sv nm)] 1 (by rw[e];omega) (fun i a H'=>zB H2 H'/\a.length=i/\FrsAt K H' a ((bks.take i).map fun p=>z5 (zD o p.2) o nm))
   ⟨zB.refl _,rfl,FrsAt.nil⟩ (fun i a H' _ h=>⟨.of (h.1 _ _ c.lst),d5 h.2.1⟩) ?_ ?_
  ·rintro i y a H' ys Nx hN hx hy ⟨r,g,u⟩
   obtain⟨y',rfl⟩:=v7 hy
   obtain⟨p,ep,rfl⟩:=zAo hx
   have b:=aF ep
   have hj:i<bks.length:=(af.mp ep).1
   refine⟨_,rfl,_,rfl,_,rfl,p.1,p.2,o,nm,rfl,r _ _ (c.at_ p b),n p b,fun v H5 T fv=>hN _ _ [some (.ref p.1)] rfl ⟨r.trans T,by rw[aA,g];rfl,?_⟩⟩
   rw[av hj,(af.mp ep).2,aJ]
   exact(u.same T).snoc fv
  ·rintro a H' ⟨r,g,u⟩ D hD
   rw[e,aQ]at u
   have u1:zB H' (upd H' D (.lst a)):=zB.upd1 hD
   refine⟨D,a,_,rfl,zI,u.same u1,fun q hq=>?_,fun H6 s6=>k H6 (((d.trans r).trans u1).trans s6)⟩
   obtain⟨p,b,rfl⟩:=aG.mp hq
   exact(zDJ (zAD (n p b).toBk).1 (n p b).pw).vx
end
end Kn
end
section
namespace Kn.Ln
open PySem L2 Kn
def qX (l:List Nat):List V:=l.map fun(i:Nat)=>V.int (i:Int)
def uQ (bk:List S)(o:Nat)(nm:S):Prop:=0<(z5 (zD o bk) o nm).1
instance (bk:List S) (o:Nat) (nm:S):Decidable (uQ bk o nm):=by unfold uQ;infer_instance
def mkrs (bks:List (List S))(o:Nat)(nm:S):List Nat:=(bP bks.length).filter fun i=>match bks[i]? with|some t=>decide (uQ t o nm)|none=>false
def qY (bks:List (List S))(o:Nat)(nm:S)(i:Nat):List Nat:=(bP i).filter fun i=>match bks[i]? with|some t=>decide (uQ t o nm)|none=>false
theorem zHs {bks:List (List S)}{o:Nat}{nm:S}{i:Nat}{t:List S}(e:bks[i]?=some t):qY bks o nm (i+1)=qY bks o nm i++if uQ t o nm then [i]else []:=by
 unfold qY
 rw[eC,bX]
 congr 1
 by_cases h:uQ t o nm
 ·rw[if_pos h];simp[oa,e,h]
 ·rw[if_neg h];simp[oa,e,h]
section
variable{P:aB}{w:aL}{K:aa}{mg:Str->Option ae}{base:ba}
def zHt:Sp:=fun vs H Q _=>∃(l:ai) (bks:List (ai×List S)) (o:Nat) (nm:S),vs=[.ref l,.int o,sv nm]/\BksAt H l bks/\bks.length<=100/\1<=o/\o<=3/\yE nm/\(∀p∈bks,Fit p.2 o nm)/\
 ∀a H',zB H H'->H' a=some (.lst (qX (qY (bks.map (·.2)) o nm bks.length)))->Q (.ref a) H'
abbrev zDu:bY:=top 41
theorem zOQ:FnScope ["books","order","name"] ["books","order","name"] (defScope zDu):=zX
theorem zHu:(["order","name","place","book"]:List Str).Nodup:=by decide+kernel
theorem zOR {f:ai}{fd:aE}(F:Fun K "makers" "makers" zDu f fd)(v:mg "enumerate"=none)(z:zN P w K mg base 4 "need_books" ["thing"] zBr)(B:zN P w K mg base 3 "need_order" ["thing"] zAB)(G:zN P w K mg base 2 "need_name" ["thing"] qT)
  (cM:zN P w K mg base 7 "makes" ["book","order","name"] zBc):FnOk P w K mg base zR 8 f fd ["books","order","name"] zHt:=by
 refine F.ok zOQ (fun vs H Q E h=>?_) (fun ab A outer s H vs Q E q h=>?_)
 ·obtain⟨l,bks,o,nm,rfl,_⟩:=h;rfl
 ·obtain⟨l,bks,o,nm,rfl,U,W,I,L,hn,X,k⟩:=h
  have M:=q.mono (j:=4) (by decide)
  have O:=q.mono (j:=3) (by decide)
  have hr2:=q.mono (j:=2) (by decide)
  refine⟨_,zH (yB (zM z M rfl (zA (pv 0) zC))) (zH (yB (zM B O rfl (zA (pv 1) zC))) (zH (yB (zM G hr2 rfl (zA (pv 2) zC)))
   (zJ (zS (vX (N:=["order","name","place","book"]) (caps:=[1,2]) rfl (vP (by kernel_rfl)) (zGF rfl v (zA (pv 0) zC))
     (fun Y C s H ex=>zDH K 2 rfl rfl (qE (yC (i:=2) zHu rfl (Or.inl rfl)) (qE (yC (i:=3) zHu rfl (Or.inl rfl)) gR)) rfl rfl)
     (fun Y C s H ex=>gX (vC (zM cM q rfl (zA (pv 3) (zA (pv 0) (zA (pv 1) zC))))))
     (fun Y C s H ex=>pv 2)))))),?_⟩
  refine⟨_,rfl,l,bks,rfl,U,fun p r=>(X p r).toBk.toisBk,fun H1 s1=>?_⟩
  refine⟨_,rfl,o,rfl,I,L,?_⟩
  refine⟨_,rfl,nm,rfl,hn,fun H2 s2=>?_⟩
  have d:=s1.trans s2
  have g:=U.same d
  have a:(bks.map fun p=>V.ref p.1).length=bks.length:=aj ..
  refine⟨_,rfl,l,_,rfl,g.lst,?_⟩
  refine zMz (J:=g7 K l) (xs:=qX (bP bks.length)) (ys:=bks.map fun p=>V.ref p.1) (len:=bks.length) (Hk:=fun H'=>z7 K H' l (bks.map fun p=>V.ref p.1))
   (fun i H' m hi=>⟨_,(bks.map fun p=>V.ref p.1)[i]'(by rw[a];exact hi),m,ao _⟩) (fun i H' m e=>⟨_,m,by rw[a,e]⟩)
   (fun i H' x ac m ⟨T,y,e1,e2,e3,Z⟩=>⟨T,.int i,y,e1,e2,e3,by
    have hi:i<bks.length:=by
     have:=(af.mp (Z _ m)).1
     rw[a]at this;exact this
    unfold qX;rw[ar,dS hi];rfl,Z _ m⟩)
   [some (.int o),some (sv nm)] 2 (by omega) (fun i b H'=>zB H2 H'/\b=qX (qY (bks.map (·.2)) o nm i))
   ⟨zB.refl _,rfl⟩ (fun i b H' _ h=>⟨.of (h.1 _ _ g.lst),by rw[h.2];unfold qX qY;rw[aj];exact bZ (bS ..) (by rw[cj];exact aw _)⟩) ?_ ?_
  ·rintro i x y T b H' zs Nx hN R hy hz ⟨n,rfl⟩ hT
   obtain⟨z1,z2,rfl⟩:=ys2 hz
   obtain⟨p,ep,rfl⟩:=zAo hy
   have hi:i<bks.length:=(af.mp ep).1
   have hx2:x=.int i:=by
    unfold qX at R
    rw[ar,dS hi]at R
    exact(au R).symm
   subst hx2
   have r:=aF ep
   have t1:zB H' (upd H' T (.tup [.int (i:Int),.ref p.1])):=zB.upd1 hT
   have c:=n.trans t1
   refine⟨T,_,rfl,.of zI,rfl,_,_,rfl,_,_,rfl,rfl,?_⟩
   generalize upd H' T (.tup [.int (i:Int),.ref p.1])=HA at c
   clear t1 hT n H'
   have u:=zHs (bks:=bks.map (·.2)) (o:=o) (nm:=nm) (i:=i) (t:=p.2) (by rw[ar,ep];rfl)
   refine⟨_,rfl,_,rfl,_,rfl,p.1,p.2,o,nm,rfl,c _ _ (g.at_ p r),X p r,fun H5 s5=>⟨_,rfl,?_⟩⟩
   by_cases h:uQ p.2 o nm
   ·rw[if_pos h]at u
    refine uB h ⟨_,rfl,hN _ _ [some (.int (i:Int)),some (.ref p.1)] rfl ⟨c.trans s5,?_⟩⟩
    rw[u];unfold qX;rw[aJ];rfl
   ·rw[if_neg h,gr]at u
    exact u7 h (hN _ _ [some (.int (i:Int)),some (.ref p.1)] rfl ⟨c.trans s5,by rw[u]⟩)
  ·rintro b H' ⟨n,rfl⟩ D hD
   exact k D _ ((d.trans n).upd_new ((d.trans n).free hD)) zI
end
end Kn.Ln
end
section
namespace Kn
open PySem L2
theorem zAI {p q:Int×Int}:yX p q=true↔p.1*q.2<q.1*p.2:=by unfold yX;exact decide_eq_true_iff
theorem zDv {p q r:Int×Int}(c:0<p.2)(d:0<q.2)(e:0<r.2)(f:yX p q=true)(g:yX q r=true):yX p r=true:=by
 rw[zAI]at*
 have a:=du f e
 have b:=du g c
 have e1:p.1*q.2*r.2=p.1*r.2*q.2:=by rw[cq,ed q.2,<-cq]
 have h:q.1*p.2*r.2=q.1*r.2*p.2:=by rw[cq,ed p.2,<-cq]
 have i:r.1*q.2*p.2=r.1*p.2*q.2:=by rw[cq,ed q.2,<-cq]
 rw[e1,h]at a
 rw[i]at b
 exact Int.lt_of_mul_lt_mul_right (Int.lt_trans a b) (bW d)
theorem zHv {p q r:Int×Int}(f:0<p.2)(g:0<q.2)(i:0<r.2)(d:yX p q=false)(e:yX q r=false):yX p r=false:=by
 have j:¬p.1*q.2<q.1*p.2:=fun z=>by rw[zAI.mpr z]at d;cases d
 have l:¬q.1*r.2<r.1*q.2:=fun z=>by rw[zAI.mpr z]at e;cases e
 cases h:yX p r with
 |false=>rfl
 |true=>
  have m:=zAI.mp h
  have a:=cZ (rE.mp j) (bW i)
  have b:=cZ (rE.mp l) (bW f)
  have c:=du m g
  have e1:p.1*q.2*r.2=p.1*r.2*q.2:=by rw[cq,ed q.2,<-cq]
  have n:q.1*p.2*r.2=q.1*r.2*p.2:=by rw[cq,ed p.2,<-cq]
  have o:r.1*q.2*p.2=r.1*p.2*q.2:=by rw[cq,ed q.2,<-cq]
  rw[e1,n]at a
  rw[o]at b
  omega
inductive IsPlace (qs:List (Int×Int)):Option Nat->Prop
 |no (h:∀q∈qs,yX (0,1) q=false):IsPlace qs none
 |at_ (i:Nat) (q:Int×Int) (hi:qs[i]?=some q) (hp:yX (0,1) q=true) (hl:∀(j:Nat) (r:Int×Int),j<i->qs[j]?=some r->yX r q=true) (hm:∀r∈qs,yX q r=false):IsPlace qs (some i)
def zBs (qs:List (Int×Int))(st:Option Nat×(Int×Int)):Prop:=IsPlace qs st.1/\(st.1=none->st.2=(0,1))/\∀i,st.1=some i->qs[i]?=some st.2
theorem zOS {b:List (Int×Int)}{st:Option Nat×(Int×Int)}{q:Int×Int}(E:∀r∈b++[q],0<r.2)(h:zBs b st):zBs (b++[q]) (qW st b.length q):=by
 obtain⟨y,f⟩:=st
 obtain⟨A,v,w⟩:=h
 have A:IsPlace b y:=A
 have v:y=none->f=(0,1):=v
 have w:∀i,y=some i->b[i]?=some f:=w
 have x:0<q.2:=E q (by simp)
 have dr:∀r∈b,0<r.2:=fun r c=>E r (bC _ c)
 have d:(b++[q])[b.length]?=some q:=by simp
 have left:∀{j:Nat} {r:Int×Int},j<b.length->(b++[q])[j]?=some r->b[j]?=some r:=fun{j r} o h=>by rw[b7 o]at h;exact h
 show zBs (b++[q]) (if yX f q=true then(some b.length,q)else(y,f))
 cases a:yX f q with
 |true=>
  rw[if_pos rfl]
  refine⟨?_,(fun z=>by cases z),(fun i z=>by cases z;exact d)⟩
  cases A with
  |no h=>
   have e:=v rfl
   rw[e]at a
   refine .at_ _ q d a (fun j r o c=>?_) fun r c=>?_
   ·have l:=left o c
    have m:=h r (aF l)
    cases p:yX r q with
    |true=>rfl
    |false=>
     have:=zHv (by decide) (dr r (aF l)) x m p
     rw[a]at this;cases this
   ·rcases bj.mp c with z|z
    ·cases s:yX q r with
     |false=>rfl
     |true=>have:=zDv (by decide) x (dr r z) a s;rw[h r z]at this;cases this
    ·have:r=q:=by simpa using z
     rw[this];exact zGK q
  |at_ i g hi u hl B=>
   have e:b[i]?=some f:=w i rfl
   have C:f=g:=by rw[hi]at e;exact(au e).symm
   subst C
   have D:0<f.2:=dr _ (aF hi)
   refine .at_ _ q d (zDv (by decide) D x u a) (fun j r o c=>?_) fun r c=>?_
   ·have l:=left o c
    have m:=B r (aF l)
    cases p:yX r q with
    |true=>rfl
    |false=>
     have:=zHv D (dr r (aF l)) x m p
     rw[a]at this;cases this
   ·rcases bj.mp c with z|z
    ·cases s:yX q r with
     |false=>rfl
     |true=>have:=zDv D x (dr r z) a s;rw[B r z]at this;cases this
    ·have:r=q:=by simpa using z
     rw[this];exact zGK q
 |false=>
  rw[if_neg aH]
  refine⟨?_,v,fun i z=>?_⟩
  ·cases A with
   |no h=>
    refine .no fun r c=>?_
    rcases bj.mp c with z|z
    ·exact h r z
    ·have:r=q:=by simpa using z
     rw[this,<-v rfl];exact a
   |at_ i g hi u hl B=>
    have e:b[i]?=some f:=w i rfl
    have C:f=g:=by rw[hi]at e;exact(au e).symm
    subst C
    have n:i<b.length:=(af.mp hi).1
    refine .at_ i f (by rw[b7 n];exact hi) u (fun j r o c=>hl j r o (left (qa o n) c)) fun r c=>?_
    rcases bj.mp c with z|z
    ·exact B r z
    ·have:r=q:=by simpa using z
     rw[this];exact a
  ·have F:=w i z
   have n:i<b.length:=(af.mp F).1
   rw[b7 n];exact F
theorem zHw {a:List (Int×Int)}(b:∀r∈a,0<r.2):IsPlace a (j6 a):=by
 have go:∀n,n<=a.length->zBs (a.take n) (uG (a.take n) 0 (none,(0,1))):=by
  intro n
  induction n with
  |zero=>intro _;exact⟨.no (fun q b=>by cases b),(fun _=>rfl),(fun i z=>by cases z)⟩
  |succ n ih=>
   intro e
   have c:n<a.length:=by omega
   rw[av c,zDn,ji]
   refine zOS (fun r d=>b r ?_) (ih (by omega))
   rcases bj.mp d with z|z
   ·exact cn z
   ·have:r=a[n]:=by simpa using z
    rw[this];exact bE c
 have:=go a.length (aw _)
 rw[aQ]at this
 exact this.1
theorem zOT (a:List (S×S))(o:Nat)(n:S):v8 a o [n]=z5 a o n:=by
 have f:=jP a o n
 have e:v8 a o [n]=y0 (1,1) (z5 a o n):=rfl
 rw[e]
 refine Fq.ext (kL jO f) f ?_
 have:=zBO (u:=1*(z5 a o n).1) (d:=1*(z5 a o n).2) (by rw[lJ];exact f.dn)
 unfold y0
 rw[lJ,lJ]at*
 exact this
end Kn
end
section
namespace L2
open PySem
structure CMeth (K:aa) (C:ai) (m:Str) (f:ai):Prop where
 rd:oq K C (.type "type")=true
 sp:iN K (.ref C) "__getattribute__"=some (some (.builtin "type.__getattribute__"))
 at_:ot K (.ref C) (.type "type") m=some (.val (.ref f))
 kp:bU K (.ref f)=true
def tCM (C:ai)(sp:Sp)(dvs:List V)(E:XK)(ta:TE)(t:TA):TE:=fun σ H Q=>ta σ H fun x H1=>x=.ref C/\t σ H1 fun vs H2=>sp (vs++dvs) H2 Q E
theorem zOU {X:Cx}{CX:uN}{k:Nat}{f C:ai}{fd:aE}{l:List Str}{sp:Sp}{c:List V}{n:List ae}{E:XK}{m:Str}{pos apos:Pos}{e o:bD}{b:List bD}{p:TE}{t:TA}{pl:Sem Bool}
  (he:PE X o p) (d:CMeth X.K C m f) (F:FnOk X.prog X.w X.K X.mg X.base CX k f fd l sp) (z:Room k X.A) (B:vG X.K fd l n) (hd:zK c n) (D:jH CX X E) (G:PA X (e::b) t)
  (g:starEach (e::b) X.env=(false,eval e X.env)::starEach b X.env:=by rfl) (i:(backTo pos (starEach b X.env)).any (·.1)=false:=by rfl)
  (J:eval (.Call (.Attribute o m apos) (e::b) [] pos) X.env=(do
   let v<-eval o X.env
   standAt apos.atName
   let(f,first)<-holding [v] (getMethod v m pl)
   callWith pos f first (backTo pos (starEach (e::b) X.env)) (backToKw pos (keywordEach [] X.env))):=by rfl) :
  PE X (.Call (.Attribute o m apos) (e::b) [] pos) (tCM C sp c E p t):=by
 intro a s σ H Q I h
 refine fQ (pl:=pl) (zG (he a s σ H _ I h) fun u L zq=>?_) J
 obtain⟨x,M,j,N,ex,q⟩:=zq
 subst ex
 obtain rfl:u=Value.ref C:=N
 refine PySem.W.method_cls j.kIn d.sp (PySem.W.cls_value j.kIn d.rd d.at_ rfl ?_)
 have O:=j.tok (L.toks+1)
 refine eZ (first:=[]) (h₀:=X.base) I.ok.mod.kin d.kp (zG (G pos a _ σ M _ O q) fun us R ⟨vs,T,y,r,P⟩=>⟨y.kIn,?_⟩) g i
 exact zBD F z B hd D y r P
theorem zHx {X:Cx}:qR X (.type "dict") (fun xs H Q=>∃a kvs,xs=[.ref a]/\H a=some (.dK kvs)/\∀p,H p=none->Q (.ref p) (upd H p (.dK kvs))):=by
 intro b s σ H xs us Q I r h
 obtain⟨a,kvs,rfl,c,q⟩:=h
 obtain⟨u,rfl,d⟩:=jD r
 cases d
 exact zKg I (.inl c) fun p s' e f=>⟨.ref p,_,f,rfl,q p e⟩
end L2
end
section
namespace Kn.Ln
open PySem L2 Kn
def yM (P:aB)(w:aL)(K:aa)(mg:Str->Option ae)(base:ba)(C:ai)(k:Nat)(m:Str)(ps:List Str)(sp:Sp):Prop :=
 ∃(f:ai) (fd:aE),FnOk P w K mg base zR k f fd ps sp/\Meth K C m f/\Cls K C/\vG K fd ps []
theorem vT {X:Cx}{C:ai}{k:Nat}{m:Str}{j:List Str}{sp:Sp}{pl:Sem Bool}{apos pos:Pos}{o e:bD}{a:List bD}{h:TE}{t:TA}(M:yM X.prog X.w X.K X.mg X.base C k m j sp)(l:Room k X.A)(he:PE X o h)(n:PA X (e::a) t)
  (d:starEach (e::a) X.env=(false,eval e X.env)::starEach a X.env:=by rfl) (g:(backTo pos (starEach a X.env)).any (·.1)=false:=by rfl)
  (p:eval (.Call (.Attribute o m apos) (e::a) [] pos) X.env=(do
   let i<-eval o X.env
   standAt apos.atName
   let(f,first)<-holding [i] (getMethod i m pl)
   callWith pos f first (backTo pos (starEach (e::a) X.env)) (backToKw pos (keywordEach [] X.env))):=by rfl) :
  PE X (.Call (.Attribute o m apos) (e::a) [] pos) (zBC C m sp [] E0 h t):=by
 obtain⟨f,fd,F,q,c,b⟩:=M
 exact zJi (pl:=pl) he c q F l b .nil zAX n d g p
theorem gO {X:Cx}{C:ai}{k:Nat}{m:Str}{e:List Str}{sp:Sp}{pl:Sem Bool}{apos pos:Pos}{o:bD}{a:TE}(M:yM X.prog X.w X.K X.mg X.base C k m e sp)(g:Room k X.A)(he:PE X o a)
  (h:eval (.Call (.Attribute o m apos) [] [] pos) X.env=(do
   let d<-eval o X.env
   standAt apos.atName
   let(f,first)<-holding [d] (getMethod d m pl)
   callWith pos f first (backTo pos (starEach [] X.env)) (backToKw pos (keywordEach [] X.env))):=by rfl) :
  PE X (.Call (.Attribute o m apos) [] [] pos) (zBC C m sp [] E0 a qI):=by
 obtain⟨f,fd,F,i,c,b⟩:=M
 exact zJj (pl:=pl) he c i F g b .nil zAX h
def zDw (P:aB)(w:aL)(K:aa)(mg:Str->Option ae)(base:ba)(C:ai)(k:Nat)(x:Str)(ps:List Str)(sp:Sp):Prop :=
 ∃(f:ai) (fd:aE),FnOk P w K mg base zR k f fd ps sp/\L2.Mk K C f/\mg x=some (.ref C)/\vG K fd ps []
theorem zOV {X:Cx}{C:ai}{k:Nat}{x:Str}{g:List Str}{sp:Sp}{p pos:Pos}{e:bD}{a:List bD}{t:TA}(M:zDw X.prog X.w X.K X.mg X.base C k x g sp)(h:Room (k+1) X.A)(i:Gl X x)(j:PA X (e::a) t)
  (c:(x==("__debug__" : Str))=false:=by decide) (he:starEach (e::a) X.env=(false,eval e X.env)::starEach a X.env:=by rfl) (d:(backTo pos (starEach a X.env)).any (·.1)=false:=by rfl) :
  PE X (.Call (.Name x p) (e::a) [] pos) (zCQ C sp [] E0 t):=by
 obtain⟨f,fd,F,mk,l,b⟩:=M
 exact zJl mk F h i l b .nil zAX j c he d
def zDx (P:aB)(w:aL)(K:aa)(mg:Str->Option ae)(base:ba)(C:ai)(k:Nat)(m:Str)(ps:List Str)(sp:Sp):Prop :=
 ∃(f:ai) (fd:aE),FnOk P w K mg base zR k f fd ps sp/\CMeth K C m f/\vG K fd ps []
theorem zOW {X:Cx}{C:ai}{k:Nat}{m:Str}{i:List Str}{sp:Sp}{pl:Sem Bool}{apos pos:Pos}{o e:bD}{a:List bD}{g:TE}{t:TA}(M:zDx X.prog X.w X.K X.mg X.base C k m i sp)(j:Room k X.A)(he:PE X o g)(l:PA X (e::a) t)
  (c:starEach (e::a) X.env=(false,eval e X.env)::starEach a X.env:=by rfl) (d:(backTo pos (starEach a X.env)).any (·.1)=false:=by rfl)
  (n:eval (.Call (.Attribute o m apos) (e::a) [] pos) X.env=(do
   let h<-eval o X.env
   standAt apos.atName
   let(f,first)<-holding [h] (getMethod h m pl)
   callWith pos f first (backTo pos (starEach (e::a) X.env)) (backToKw pos (keywordEach [] X.env))):=by rfl) :
  PE X (.Call (.Attribute o m apos) (e::a) [] pos) (tCM C sp [] E0 g t):=by
 obtain⟨f,fd,F,p,b⟩:=M
 exact zOU (pl:=pl) he p F j b .nil zAX l c d n
def qA (K:aa)(C:ai)(m qual:Str)(st:bY)(ps:List Str):Prop:=∃(f:ai) (fd:aE),Fun K m qual st f fd/\Meth K C m f/\vG K fd ps []
theorem zDy {K:aa}{C:ai}{m b:Str}{st:bY}{f:ai}{g kV h pm d ct:ae}{od i:Option ai}{j:Array (Option ae)}(e:List Str)(o:∀(fd:aE),Fun K m b st f fd->vG K fd e [])
  (a:bT K (.ref C) m=some (some (.ref f))) (n:jk K (.ref f)=true) (l:K.lookup f=some ⟨g,od,.func (cQ m b (defArgs st) (defBody st) (defScope st) .none kV h pm i d ct),j⟩) (c:dU K d b=true) (k:bU K (.ref f)=true):qA K C m b st e :=
 ⟨f,_,gB (st:=st) l c k,⟨a,n,k⟩,o _ (gB (st:=st) l c k)⟩
abbrev zY:=ai×List S
def vJ (kvs:List (S×zY)):List (zU×V):=vD (fun q:zY=>V.ref q.1) kvs
def zAJ (d:ai):List (Str×V):=[("now",.ref d)]
def zAK (d dn:ai):List (Str×V):=[("now",.ref d),("done",.ref dn)]
def zDz (d dn un:ai):List (Str×V):=[("now",.ref d),("done",.ref dn),("undone",.ref un)]
def uH (d dn un:ai)(o:Nat):List (Str×V):=[("now",.ref d),("done",.ref dn),("undone",.ref un),("order",.int o)]
structure LgAt (H:Hp) (C k dx d dn un:ai) (o:Nat) (kvs:List (S×zY)) (ds:List V):Prop where
 ins:H k=some (.ins C dx (uH d dn un o))
 now:H d=some (.dK (vJ kvs))
 don:H dn=some (.lst ds)
 bks:∀q∈kvs,H q.2.1=some (.tup (zE q.2.2))
 nd:(kvs.map (·.1)).Nodup
structure LgC (K:aa) (C:ai):Prop where
 cls:Cls K C
 now:jE K C "now"
 don:jE K C "done"
 und:jE K C "undone"
 ord:jE K C "order"
def vQ (k:ai)(H H':Hp):Prop:=∀b u,b≠k->H b=some u->H' b=some u
def yN (k l:ai)(H H':Hp):Prop:=∀b u,b≠k->b≠l->H b=some u->H' b=some u
theorem vQ.of {k:ai}{H H':Hp}(s:zB H H'):vQ k H H':=fun b u _ h=>s b u h
theorem vQ.trans {k:ai}{H d e:Hp}(a:vQ k H d)(b:vQ k d e):vQ k H e:=fun c u n h=>b c u n (a c u n h)
theorem vQ.upd {k:ai}{H:Hp}{o:HO}:vQ k H (upd H k o):=fun b u n h=>(zF n).trans h
theorem yN.of {k l:ai}{H H':Hp}(s:zB H H'):yN k l H H':=fun b u _ _ h=>s b u h
theorem yN.trans {k l:ai}{H d e:Hp}(a:yN k l H d)(b:yN k l d e):yN k l H e:=fun c u n m h=>b c u n m (a c u n m h)
theorem yN.one {k l:ai}{H:Hp}{o:HO}:yN k l H (upd H k o):=fun b u n _ h=>(zF n).trans h
theorem yN.two {k l:ai}{H:Hp}{o:HO}:yN k l H (upd H l o):=fun b u _ m h=>(zF m).trans h
theorem uR {H:Hp}{a b:ai}{u v:HO}(c:H a=some u)(d:H b=some v)(n:u≠v):a≠b:=fun z=>n (by rw[z,d]at c;exact(au c).symm)
theorem zOX {H H':Hp}{b k:ai}(s:vQ k H H')(a:b≠k)(h:H' b=none):H b=none:=by
 cases z:H b with
 |none=>rfl
 |some u=>rw[s _ _ a z]at h;cases h
theorem zBt {H:Hp}{a b:ai}{u:HO}(c:H a=none)(d:H b=some u):a≠b:=fun z=>by rw[z,d]at c;cases c
section
variable{P:aB}{w:aL}{K:aa}{mg:Str->Option ae}{base:ba}
abbrev sSI:bY:=inClass (top 37) 0
theorem zOY:FnScope ["self","now"] ["self","now"] (defScope sSI):=zX
def zEA (C:ai):Sp:=fun vs H Q _=>∃k dx d,vs=[.ref k,.ref d]/\H k=some (.ins C dx [])/\∀dn un H',vQ k H H'->H dn=none->H' k=some (.ins C dx (zDz d dn un))->H' dn=some (.lst [])->Q .non H'
theorem zOZ {f C:ai}{fd:aE}(F:Fun K "__init__" "Stepper.__init__" sSI f fd)(c:LgC K C):FnOk P w K mg base zR 1 f fd ["self","now"] (zEA C):=by
 refine F.ok zOY (fun vs H Q E h=>?_) (fun u A outer s H vs Q E B h=>?_)
 ·obtain⟨k,a,d,rfl,_⟩:=h;rfl
 ·obtain⟨k,a,d,rfl,v,x⟩:=h
  refine⟨_,zH (gU (pv 0) (pv 1) rfl) (zH (gU (pv 0) (uM zC) rfl) (zJ (gU (pv 0) (uM zC) rfl))),?_⟩
  refine⟨_,rfl,_,rfl,k,C,a,[],rfl,v,c.cls,c.now,by decide,?_⟩
  have e1:vF "now" (.ref d) []=zAJ d:=rfl
  rw[e1]
  have j:vQ k H (upd H k (.ins C a (zAJ d))):=vQ.upd
  have k1:upd H k (.ins C a (zAJ d)) k=some (.ins C a (zAJ d)):=zI
  generalize upd H k (.ins C a (zAJ d))=e at j k1
  refine⟨bh _,fun dn b=>?_⟩
  have l:dn≠k:=zBt b k1
  have m:zB e (upd e dn (.lst [])):=zB.upd1 b
  have q:upd e dn (.lst []) dn=some (.lst []):=zI
  generalize upd e dn (.lst [])=g at m q
  refine⟨_,rfl,k,C,a,_,rfl,m _ _ k1,c.cls,c.don,by show 1<1000;decide,?_⟩
  have y:vF "done" (.ref dn) (zAJ d)=zAK d dn:=rfl
  rw[y]
  have n:vQ k g (upd g k (.ins C a (zAK d dn))):=vQ.upd
  have k3:upd g k (.ins C a (zAK d dn)) k=some (.ins C a (zAK d dn)):=zI
  have r:=n _ _ l q
  generalize upd g k (.ins C a (zAK d dn))=o at n k3 r
  refine⟨bh _,fun un p=>?_⟩
  have i:zB o (upd o un (.lst [])):=zB.upd1 p
  generalize upd o un (.lst [])=D at i
  refine⟨_,rfl,k,C,a,_,rfl,i _ _ k3,c.cls,c.und,by show 2<1000;decide,?_⟩
  have z:vF "undone" (.ref un) (zAK d dn)=zDz d dn un:=rfl
  rw[z]
  exact x dn un _ (j.trans ((vQ.of m).trans (n.trans ((vQ.of i).trans vQ.upd)))) (zOX j l b) zI ((zF l).trans (i _ _ r))
abbrev sST:bY:=inClass (top 37) 1
theorem zOa:FnScope ["self","after","word"] ["self","after","word"] (defScope sST):=zX
def zAp (C:ai):Sp:=fun vs H Q _=>∃(k dx d dn un a:ai) (o:Nat) (ds:List V) (x:Str),vs=[.ref k,.ref a,.str x]/\H k=some (.ins C dx (uH d dn un o))/\H dn=some (.lst ds)/\ds.length<=100/\
 ∀y un' H',yN k dn H H'->H' k=some (.ins C dx (uH a dn un' o))->H' dn=some (.lst (ds++[y]))->Q .non H'
theorem zOb {f C:ai}{fd:aE}(F:Fun K "step_to" "Stepper.step_to" sST f fd)(e:LgC K C):FnOk P w K mg base zR 1 f fd ["self","after","word"] (zAp C):=by
 refine F.ok zOa (fun vs H Q E h=>?_) (fun G A outer s H vs Q E N h=>?_)
 ·obtain⟨k,c,d,dn,un,a,o,g,x,rfl,_⟩:=h;rfl
 ·obtain⟨k,c,d,dn,un,a,o,g,x,rfl,l,hd,hl,I⟩:=h
  refine⟨_,zH (yB (zBF jd PySem.F.slot_list_append PySem.F.type_list_append zKF (jF (pv 0) rfl) (zA (jY (zA (jF (pv 0) rfl) (zA (pv 2) zC))) zC)))
   (zH (gU (pv 0) (uM zC) rfl) (zJ (gU (pv 0) (pv 1) rfl))),?_⟩
  have p:dn≠k:=uR hd l nofun
  refine⟨_,rfl,k,C,c,_,_,rfl,l,e.cls,e.don,rfl,.inl ⟨rfl,_,.of hd⟩,_,rfl,k,C,c,_,_,rfl,l,e.cls,e.now,rfl,_,rfl,by show 2<=sizeLine;decide,fun y J=>?_⟩
  have m:zB H (upd H y (.tup [.ref d,.str x])):=zB.upd1 J
  generalize upd H y (.tup [.ref d,.str x])=i at m
  refine⟨dn,_,_,rfl,rfl,m _ _ hd,by rw[bg];omega,?_⟩
  have u:yN k dn i (upd i dn (.lst (g++[.ref y]))):=yN.two
  have v:upd i dn (.lst (g++[.ref y])) dn=some (.lst (g++[.ref y])):=zI
  have k2:upd i dn (.lst (g++[.ref y])) k=some (.ins C c (uH d dn un o)):=(zF p.symm).trans (m _ _ l)
  generalize upd i dn (.lst (g++[.ref y]))=q at u v k2
  refine⟨bh _,fun b r=>?_⟩
  have n:zB q (upd q b (.lst [])):=zB.upd1 r
  generalize upd q b (.lst [])=j at n
  refine⟨_,rfl,k,C,c,_,rfl,n _ _ k2,e.cls,e.und,by show 4<1000;decide,?_⟩
  have L:vF "undone" (.ref b) (uH d dn un o)=uH d dn b o:=rfl
  rw[L]
  have z:yN k dn j (upd j k (.ins C c (uH d dn b o))):=yN.one
  have B:upd j k (.ins C c (uH d dn b o)) k=some (.ins C c (uH d dn b o)):=zI
  have D:upd j k (.ins C c (uH d dn b o)) dn=some (.lst (g++[.ref y])):=(zF p).trans (n _ _ v)
  generalize upd j k (.ins C c (uH d dn b o))=O at z B D
  refine⟨_,rfl,_,rfl,k,C,c,_,rfl,B,e.cls,e.now,by show 4<1000;decide,?_⟩
  have M:vF "now" (.ref a) (uH d dn b o)=uH a dn b o:=rfl
  rw[M]
  exact I (.ref y) b _ ((yN.of m).trans (u.trans ((yN.of n).trans (z.trans yN.one)))) zI ((zF p).trans D)
abbrev sLI:bY:=inClass (top 39) 0
theorem zOc:FnScope ["self","order"] ["self","order"] (defScope sLI):=zX
def zBu (C:ai):Sp:=fun vs H Q _=>∃(k dx:ai) (o:Nat),vs=[.ref k,.int o]/\H k=some (.ins C dx [])/\1<=o/\o<=3/\∀d dn un H',vQ k H H'->H d=none->H dn=none->LgAt H' C k dx d dn un o [] []->Q .non H'
theorem zOd {f C c:ai}{fd:aE}(F:Fun K "__init__" "Ledger.__init__" sLI f fd)(i:LgC K C)(p:mg "Stepper"=some (.ref c))(r:zN P w K mg base 3 "need_order" ["thing"] zAB)(x:zDx P w K mg base c 1 "__init__" ["self","now"] (zEA C)):FnOk P w K mg base zR 4 f fd ["self","order"] (zBu C):=by
 refine F.ok zOc (fun vs H Q E h=>?_) (fun y A outer s H vs Q E l h=>?_)
 ·obtain⟨k,e,o,rfl,_⟩:=h;rfl
 ·obtain⟨k,e,o,rfl,g,o1,o3,B⟩:=h
  have D:=l.mono (j:=1) (by decide)
  refine⟨_,zH (yB (zM r l rfl (zA (pv 1) zC))) (zH (yB (zOW x D (uL (v:=.ref c) (by rfl) p rfl) (zA (pv 0) (zA zBI zC)))) (zJ (gU (pv 0) (pv 1) rfl))),?_⟩
  refine⟨_,rfl,o,rfl,o1,o3,?_⟩
  refine⟨rfl,_,rfl,fun d hd=>?_⟩
  have b:zB H (upd H d (.dK [])):=zB.upd1 hd
  have d1:upd H d (.dK []) d=some (.dK []):=zI
  generalize upd H d (.dK [])=M at b d1
  refine⟨k,e,d,rfl,b _ _ g,fun dn un N m a k2 G=>?_⟩
  have n:d≠k:=uR d1 (b _ _ g) nofun
  have I:dn≠k:=zBt a (b _ _ g)
  refine⟨_,rfl,_,rfl,k,C,e,_,rfl,k2,i.cls,i.ord,by show 3<1000;decide,?_⟩
  have J:vF "order" (.int o) (zDz d dn un)=uH d dn un o:=rfl
  rw[J]
  refine B d dn un _ ((vQ.of b).trans (m.trans vQ.upd)) hd ?_ ⟨zI,(zF n).trans (m _ _ n d1),(zF I).trans G,(fun q L=>by cases L),lD⟩
  cases z:H dn with
  |none=>rfl
  |some u=>rw[b _ _ z]at a;cases a
end
def jS (kvs:List (S×zY))(t:S):List (S×zY):=kvs.filter fun q=>decide (q.1≠t)
theorem zOe (kvs:List (S×zY))(t:S):kY (vJ kvs) (Sum.inr (tx t))=vJ (jS kvs t):=by
 unfold kY vJ vD gE jS
 rw[aV,aV,List.filter_map]
 congr 1
 refine List.filter_congr fun q _=>?_
 show decide ((Sum.inr (tx q.1):zU)≠Sum.inr (tx t))=decide (q.1≠t)
 rw[decide_eq_decide]
 exact⟨fun h e=>h (by rw[e]),fun h e=>h (kM (iK e))⟩
theorem zOf {kvs:List (S×zY)}(t:S)(v:zY)(nd:(kvs.map (·.1)).Nodup):vO (vJ kvs) (Sum.inr (tx t)) (.ref v.1)=vJ (zQ kvs t v):=zCw (fun q:zY=>V.ref q.1) kvs t v nd
theorem zHy (kvs:List (S×zY))(t:S):yW (vJ kvs) (Sum.inr (tx t))=(zL kvs t).map fun q=>V.ref q.1:=j4 _ kvs t
theorem zOg (kvs:List (S×zY)):(vJ kvs).length=kvs.length:=zAf _ kvs
theorem LgAt.same {H H':Hp}{C k a d dn un:ai}{o:Nat}{kvs:List (S×zY)}{b:List V}(g:LgAt H C k a d dn un o kvs b)(s:zB H H'):LgAt H' C k a d dn un o kvs b:=⟨s _ _ g.ins,s _ _ g.now,s _ _ g.don,fun q c=>s _ _ (g.bks q c),g.nd⟩
theorem LgAt.get {H:Hp}{C k b d dn un:ai}{o:Nat}{kvs:List (S×zY)}{c:List V}(g:LgAt H C k b d dn un o kvs c){t:S}{a:ai}{bk:List S}(h:zL kvs t=some (a,bk)):H a=some (.tup (zE bk)):=g.bks (t,(a,bk)) ((uC g.nd t (a,bk)).mpr h)
theorem LgAt.dget {H:Hp}{C k a d dn un:ai}{o:Nat}{kvs:List (S×zY)}{b:List V}(g:LgAt H C k a d dn un o kvs b)(t:S):yG H d (sv t) ((zL kvs t).map fun q=>V.ref q.1):=by
 rw[<-zHy];exact yG.k (k:=Sum.inr (tx t)) g.now
theorem LgAt.put {H H':Hp}{C k b d d' dn un a:ai}{o:Nat}{kvs:List (S×zY)}{c:List V}{y:V}{t:S}{v:zY}(g:LgAt H C k b d dn un o kvs c)(s:yN k dn H H')(f:H' k=some (.ins C b (uH d' dn a o)))(h:H' dn=some (.lst (c++[y])))(e:H d'=some (.dK (vJ (zQ kvs t v))))(i:H v.1=some (.tup (zE v.2))):LgAt H' C k b d' dn a o (zQ kvs t v) (c++[y]):=by
 refine⟨f,s _ _ (uR e g.ins nofun) (uR e g.don nofun) e,h,fun q j=>?_,zAA g.nd⟩
 have:H q.2.1=some (.tup (zE q.2.2)):=by
  rcases(zAk g.nd q).mp j with rfl|⟨z,_⟩
  ·exact i
  ·exact g.bks q z
 exact s _ _ (uR this g.ins nofun) (uR this g.don nofun) this
theorem LgAt.del {H H':Hp}{C k b d d' dn un a:ai}{o:Nat}{kvs:List (S×zY)}{c:List V}{y:V}{t:S}(g:LgAt H C k b d dn un o kvs c)(s:yN k dn H H')(f:H' k=some (.ins C b (uH d' dn a o)))(h:H' dn=some (.lst (c++[y])))(e:H d'=some (.dK (vJ (jS kvs t)))):LgAt H' C k b d' dn a o (jS kvs t) (c++[y]):=by
 refine⟨f,s _ _ (uR e g.ins nofun) (uR e g.don nofun) e,h,fun q i=>?_,g.nd.sublist ((List.filter_sublist).map _)⟩
 have this:=g.bks q (bH.mp i).1
 exact s _ _ (uR this g.ins nofun) (uR this g.don nofun) this
section
variable{P:aB}{w:aL}{K:aa}{mg:Str->Option ae}{base:ba}
abbrev sNT:bY:=inClass (top 39) 1
theorem zOh:FnScope ["self","title"] ["self","title"] (defScope sNT):=zX
def zAq (C:ai):Sp:=fun vs H Q _=>∃(k dx d dn un:ai) (o:Nat) (kvs:List (S×zY)) (ds:List V) (t:S) (v:zY),vs=[.ref k,sv t]/\LgAt H C k dx d dn un o kvs ds/\zL kvs t=some v/\Q .non H
theorem zOi {f C:ai}{fd:aE}(F:Fun K "need_title" "Ledger.need_title" sNT f fd)(a:LgC K C):FnOk P w K mg base zR 1 f fd ["self","title"] (zAq C):=by
 refine F.ok zOh (fun vs H Q E h=>?_) (fun c A outer s H vs Q E e h=>?_)
 ·obtain⟨k,b,d,dn,un,o,kvs,i,t,v,rfl,_⟩:=h;rfl
 ·obtain⟨k,b,d,dn,un,o,kvs,i,t,v,rfl,g,j,l⟩:=h
  have m:=uW e
  refine⟨_,zJ (yR (zEm (zFb m (pv 1) (jF (pv 0) rfl))) (zJ gQ) yQ),?_⟩
  refine⟨_,rfl,_,rfl,k,C,b,_,_,rfl,g.ins,a.cls,a.now,rfl,d,_,rfl,g.dget t,_,rfl,?_⟩
  rw[j]
  exact yJ l
abbrev sWB:bY:=inClass (top 39) 2
theorem zHz:FnScope ["self","title","book","after"] ["self","title","book"] (defScope sWB):=zX
def zBv (C:ai):Sp:=fun vs H Q _=>∃(k dx d dn un:ai) (o:Nat) (kvs:List (S×zY)) (ds:List V) (t:S) (v:zY),vs=[.ref k,sv t,.ref v.1]/\LgAt H C k dx d dn un o kvs ds/\kvs.length<=100/\∀p H',zB H H'->H' p=some (.dK (vJ (zQ kvs t v)))->Q (.ref p) H'
theorem zOj {f C:ai}{fd:aE}(F:Fun K "with_book" "Ledger.with_book" sWB f fd)(e:LgC K C)(a:mg "dict"=none):FnOk P w K mg base zR 1 f fd ["self","title","book"] (zBv C):=by
 refine F.ok zHz (fun vs H Q E h=>?_) (fun m A outer s H vs Q E n h=>?_)
 ·obtain⟨k,j,d,dn,un,o,kvs,q,t,v,rfl,_⟩:=h;rfl
 ·obtain⟨k,j,d,dn,un,o,kvs,q,t,v,rfl,g,hl,r⟩:=h
  have x:=uW n
  have nd:=zHz.nd
  refine⟨_,zH (zZ (i:=3) nd rfl (Or.inl rfl) (zFM zHx (by rfl) a jz (zA (jF (pv 0) rfl) zC))) (zH (zCV x (pv 3) (pv 1) (pv 2) rfl) (zJ (zS (pv 3)))),?_⟩
  refine⟨_,rfl,k,C,j,_,_,rfl,g.ins,e.cls,e.now,rfl,d,_,rfl,g.now,fun p y=>?_⟩
  have B:upd H p (.dK (vJ kvs)) p=some (.dK (vJ kvs)):=zI
  refine⟨_,rfl,_,rfl,_,rfl,p,_,rfl,j1.k (k:=Sum.inr (tx t)) B (by rw[zOg,bg];omega),_,rfl,?_⟩
  refine r p _ (fun b u c=>?_) (by rw[zI,zOf t v g.nd])
  have l:b≠p:=fun z=>by rw[z,y]at c;cases c
  rw[zF l,zF l];exact c
abbrev zEB:bY:=inClass (top 39) 3
theorem zIA:FnScope ["self","title","book","stood"] ["self","title","book"] (defScope zEB):=zX
def zEC (C:ai):Sp:=fun vs H Q _=>∃(k dx d dn un:ai) (o:Nat) (kvs:List (S×zY)) (ds:List V) (t:S) (v:zY),vs=[.ref k,sv t,.ref v.1]/\LgAt H C k dx d dn un o kvs ds/\kvs.length<=100/\ds.length<=100/\yE t/\H v.1=some (.tup (zE v.2))/\isBk v.2/\
 ∀d' un' y H',yN k dn H H'->LgAt H' C k dx d' dn un' o (zQ kvs t v) (ds++[y])->Q (.bl (zL kvs t).isSome) H'
theorem zOk {f C:ai}{fd:aE}(F:Fun K "keep" "Ledger.keep" zEB f fd)(r:LgC K C)(D:zN P w K mg base 2 "need_name" ["thing"] qT)(G:zN P w K mg base 3 "need_book" ["thing"] zAe)(I:yM P w K mg base C 1 "with_book" ["self","title","book"] (zBv C))(J:yM P w K mg base C 1 "step_to" ["self","after","word"] (zAp C)):FnOk P w K mg base zR 4 f fd ["self","title","book"] (zEC C):=by
 refine F.ok zIA (fun vs H Q E h=>?_) (fun L A outer s H vs Q E b h=>?_)
 ·obtain⟨k,a,d,dn,un,o,kvs,c,t,v,rfl,_⟩:=h;rfl
 ·obtain⟨k,a,d,dn,un,o,kvs,c,t,v,rfl,g,hl,e,M,u,N,O⟩:=h
  have R:=uW b
  have nd:=zIA.nd
  have T:=b.mono (j:=2) (by decide)
  have x:=b.mono (j:=1) (by decide)
  refine⟨_,zH (yB (zM D T rfl (zA (pv 1) zC))) (zH (yB (zM G b rfl (zA (pv 2) zC))) (zH (zZ (i:=3) nd rfl (Or.inl rfl) (zAO (zBH R (pv 1) (jF (pv 0) rfl))))
   (zH (yB (vT J x (pv 0) (zA (vT I x (pv 0) (zA (pv 1) (zA (pv 2) zC))) (zA vW zC)))) (zJ (zS (pv 3)))))),?_⟩
  refine⟨_,rfl,t,rfl,M,fun Z z=>?_⟩
  refine⟨_,rfl,v.1,v.2,rfl,z _ _ u,N,fun H2 l=>?_⟩
  have m:=z.trans l
  have g2:=g.same m
  refine⟨_,rfl,_,rfl,k,C,a,_,_,rfl,g2.ins,r.cls,r.now,rfl,d,_,rfl,g2.dget t,?_⟩
  rw[fC]
  refine⟨_,rfl,k,a,_,rfl,g2.ins,rfl,_,rfl,k,a,_,rfl,g2.ins,rfl,_,rfl,_,rfl,k,a,d,dn,un,o,kvs,c,t,v,rfl,g2,hl,fun p H3 n U=>?_⟩
  have g3:=g2.same n
  refine⟨k,a,d,dn,un,p,o,c,"keep",rfl,g3.ins,g3.don,e,fun y q W B X Y=>?_⟩
  exact⟨_,rfl,O p q y W ((yN.of (m.trans n)).trans B) (g3.put B X Y U ((m.trans n) _ _ u))⟩
abbrev zED:bY:=inClass (top 39) 4
theorem zIB:FnScope ["self","title","after","dropped"] ["self","title"] (defScope zED):=zX
def zEE (C:ai):Sp:=fun vs H Q _=>∃(k dx d dn un:ai) (o:Nat) (kvs:List (S×zY)) (ds:List V) (t:S) (v:zY),vs=[.ref k,sv t]/\LgAt H C k dx d dn un o kvs ds/\ds.length<=100/\yE t/\zL kvs t=some v/\
 ∀d' un' y H',yN k dn H H'->LgAt H' C k dx d' dn un' o (jS kvs t) (ds++[y])->Q (.ref v.1) H'
theorem zOl {f C:ai}{fd:aE}(F:Fun K "drop" "Ledger.drop" zED f fd)(x:LgC K C)(e:mg "dict"=none)(O:zN P w K mg base 2 "need_name" ["thing"] qT)(R:yM P w K mg base C 1 "need_title" ["self","title"] (zAq C))(T:yM P w K mg base C 1 "step_to" ["self","after","word"] (zAp C)):FnOk P w K mg base zR 3 f fd ["self","title"] (zEE C):=by
 refine F.ok zIB (fun vs H Q E h=>?_) (fun U A outer s H vs Q E B h=>?_)
 ·obtain⟨k,a,d,dn,un,o,kvs,l,t,v,rfl,_⟩:=h;rfl
 ·obtain⟨k,a,d,dn,un,o,kvs,l,t,v,rfl,g,m,W,D,X⟩:=h
  have nd:=zIB.nd
  have G:=B.mono (j:=1) (by decide)
  refine⟨_,zH (yB (zM O B rfl (zA (pv 1) zC))) (zH (yB (vT R G (pv 0) (zA (pv 1) zC))) (zH (zZ (i:=2) nd rfl (Or.inl rfl) (zFM zHx (by rfl) e jz (zA (jF (pv 0) rfl) zC)))
   (zH (zZ (i:=3) nd rfl (Or.inl rfl) (zKf (pv 2) (pv 1) ⟨rfl,rfl,rfl,rfl⟩)) (zH (yB (vT T G (pv 0) (zA (pv 2) (zA vW zC)))) (zJ (zS (pv 3))))))),?_⟩
  refine⟨_,rfl,t,rfl,W,fun c I=>?_⟩
  have g1:=g.same I
  refine⟨_,rfl,k,a,_,rfl,g1.ins,rfl,_,rfl,k,a,d,dn,un,o,kvs,l,t,v,rfl,g1,D,?_⟩
  refine⟨_,rfl,k,C,a,_,_,rfl,g1.ins,x.cls,x.now,rfl,d,_,rfl,g1.now,fun p Y=>?_⟩
  have J:upd c p (.dK (vJ kvs)) p=some (.dK (vJ kvs)):=zI
  refine⟨_,rfl,p,rfl,.inl ⟨_,.inl J⟩,_,rfl,_,Sum.inr (tx t),.ref v.1,J,rfl,by rw[zHy,D];rfl,?_⟩
  rw[zOe]
  have n:zB c (upd (upd c p (.dK (vJ kvs))) p (.dK (vJ (jS kvs t)))):=fun b u q=>by
   have L:b≠p:=fun z=>by rw[z,Y]at q;cases q
   rw[zF L,zF L];exact q
  have M:upd (upd c p (.dK (vJ kvs))) p (.dK (vJ (jS kvs t))) p=some (.dK (vJ (jS kvs t))):=zI
  generalize upd (upd c p (.dK (vJ kvs))) p (.dK (vJ (jS kvs t)))=H2 at n M
  have g2:=g1.same n
  refine⟨_,rfl,k,a,_,rfl,g2.ins,rfl,_,rfl,k,a,d,dn,un,p,o,l,"drop",rfl,g2.ins,g2.don,m,fun y r Z N k4 d4=>?_⟩
  exact⟨_,rfl,X p r y Z ((yN.of (I.trans n)).trans N) (g2.del N k4 d4 M)⟩
abbrev zEF:bY:=inClass (top 39) 5
theorem zIC:FnScope ["self","title","name","longer"] ["self","title","name"] (defScope zEF):=zX
def zEG (C:ai):Sp:=fun vs H Q _=>∃(k dx d dn un:ai) (o:Nat) (kvs:List (S×zY)) (ds:List V) (t x:S) (v:zY),vs=[.ref k,sv t,sv x]/\LgAt H C k dx d dn un o kvs ds/\kvs.length<=100/\ds.length<=100/\yE t/\yE x/\zL kvs t=some v/\v.2.length<8/\(∀y∈v.2,yE y)/\
 ∀a d' un' y H',yN k dn H H'->LgAt H' C k dx d' dn un' o (zQ kvs t (a,v.2++[x])) (ds++[y])->Q (.int ((v.2.length+1:Nat):Int)) H'
theorem zOm {f C:ai}{fd:aE}(F:Fun K "hear" "Ledger.hear" zEF f fd)(U:LgC K C)(B:Blt mg)(W:zN P w K mg base 2 "need_name" ["thing"] qT)(cB:zN P w K mg base 3 "need_book" ["thing"] zAe)(mT:yM P w K mg base C 1 "need_title" ["self","title"] (zAq C))(mW:yM P w K mg base C 1 "with_book" ["self","title","book"] (zBv C))(mS:yM P w K mg base C 1 "step_to" ["self","after","word"] (zAp C)):FnOk P w K mg base zR 4 f fd ["self","title","name"] (zEG C):=by
 refine F.ok zIC (fun vs H Q E h=>?_) (fun ab A outer s H vs Q E l h=>?_)
 ·obtain⟨k,b,d,dn,un,o,kvs,n,t,x,v,rfl,_⟩:=h;rfl
 ·obtain⟨k,b,d,dn,un,o,kvs,n,t,x,v,rfl,g,hl,D,ht,X,G,h8,hn,kQ⟩:=h
  have hu:=uW l
  have nd:=zIC.nd
  have Y:=l.mono (j:=2) (by decide)
  have I:=l.mono (j:=1) (by decide)
  refine⟨_,zH (yB (zM W Y rfl (zA (pv 1) zC))) (zH (yB (zM W Y rfl (zA (pv 2) zC))) (zH (yB (vT mT I (pv 0) (zA (pv 1) zC)))
   (zH (zZ (i:=3) nd rfl (Or.inl rfl) (zT zHI (jK hu (jF (pv 0) rfl) (pv 1) (fun _ _=>rfl)) (jY (zA (pv 2) zC)))) (zH (yB (zM cB l rfl (zA (pv 3) zC)))
   (zH (yB (vT mS I (pv 0) (zA (vT mW I (pv 0) (zA (pv 1) (zA (pv 3) zC))) (zA vW zC)))) (zJ (zS (yF qK (by rfl) B.len bQ (zA (pv 3) zC))))))))),?_⟩
  refine⟨_,rfl,t,rfl,ht,fun H1 s1=>?_⟩
  refine⟨_,rfl,x,rfl,X,fun q J=>?_⟩
  have Z:=s1.trans J
  have g2:=g.same Z
  refine⟨_,rfl,k,b,_,rfl,g2.ins,rfl,_,rfl,k,b,d,dn,un,o,kvs,n,t,v,rfl,g2,G,?_⟩
  have dg:=g2.dget t
  rw[G]at dg
  refine⟨_,rfl,k,C,b,_,_,rfl,g2.ins,U.cls,U.now,rfl,_,rfl,d,_,rfl,dg,_,rfl,by show 1<=sizeLine;decide,fun m hm=>?_⟩
  have L:zB q (upd q m (.tup [sv x])):=zB.upd1 hm
  have m3:upd q m (.tup [sv x]) m=some (.tup [sv x]):=zI
  generalize upd q m (.tup [sv x])=H3 at L m3
  have g3:=g2.same L
  have bl:(zE v.2).length=v.2.length:=by unfold zE;rw[aj]
  refine⟨v.1,m,_,_,rfl,rfl,g3.get G,m3,by rw[bg,bl];show v.2.length+1<=_;omega,fun a H4 s4 M=>?_⟩
  have e1:zE v.2++[sv x]=zE (v.2++[x]):=by unfold zE;rw[aJ];rfl
  rw[e1]at M
  have N:isBk (v.2++[x]):=⟨by rw[aA,bM];omega,by rw[aA,bM];omega,fun y hy=>(bj.mp hy).elim (hn y) fun z=>by rw[bF.mp z];exact X⟩
  refine⟨_,rfl,a,v.2++[x],rfl,M,N,fun H5 s5=>?_⟩
  have c:=L.trans (s4.trans s5)
  have r:=g2.same c
  refine⟨_,rfl,k,b,_,rfl,r.ins,rfl,_,rfl,k,b,_,rfl,r.ins,rfl,_,rfl,_,rfl,k,b,d,dn,un,o,kvs,n,t,(a,v.2++[x]),rfl,r,hl,fun p H6 O hp=>?_⟩
  have e:=r.same O
  have u:=O _ _ (s5 _ _ M)
  refine⟨k,b,d,dn,un,p,o,n,"hear",rfl,e.ins,e.don,D,fun y R H7 T k7 d7=>?_⟩
  refine⟨_,rfl,a,_,rfl,.inr (.of (T _ _ (uR u e.ins nofun) (uR u e.don nofun) u)),?_⟩
  have e3:((zE (v.2++[x])).length:Int)=((v.2.length+1:Nat):Int):=by unfold zE;rw[aj,aA];rfl
  rw[e3]
  exact kQ a p R y H7 ((yN.of (Z.trans (c.trans O))).trans T) (e.put T k7 d7 hp u)
abbrev zEH:bY:=inClass (top 39) 6
theorem zOn:FnScope ["self"] ["self"] (defScope zEH):=zX
def zAL (C:ai):Sp:=fun vs H Q _=>∃(k dx d dn un:ai) (o:Nat) (kvs:List (S×zY)) (ds:List V),vs=[.ref k]/\LgAt H C k dx d dn un o kvs ds/\kvs.length<64/\∀(l:ai) (ts:List S),ts.Perm (kvs.map (·.1))->ts.Pairwise (· < ·)->H l=none->Q (.ref l) (upd H l (.lst (zE ts)))
theorem zID (z:Str):tx z.cps.toList=z:=MyS.Str_ext (by rw[uE])
theorem zOo {f C:ai}{fd:aE}(F:Fun K "titles" "Ledger.titles" zEH f fd)(b:LgC K C)(B:Blt mg):FnOk P w K mg base zR 1 f fd ["self"] (zAL C):=by
 refine F.ok zOn (fun vs H Q E h=>?_) (fun m A outer s H vs Q E x h=>?_)
 ·obtain⟨k,c,d,dn,un,o,kvs,n,rfl,_⟩:=h;rfl
 ·obtain⟨k,c,d,dn,un,o,kvs,n,rfl,g,hl,q⟩:=h
  refine⟨_,zJ (zS (yF (zLL rfl) (by rfl) B.sorted iW (zA (jF (pv 0) rfl) zC))),?_⟩
  have i:(kvs.map fun p:S×zY=>(tx p.1,V.ref p.2.1)).map (·.1)=(kvs.map (·.1)).map tx:=by rw[aV,aV];rfl
  refine⟨_,rfl,k,C,c,_,_,rfl,g.ins,b.cls,b.now,rfl,d,_,rfl,g.now,?_,by rw[aj];exact hl,fun a l j r u=>?_⟩
  ·rw[i,oU,cg]
   exact rJ (fun h e=>h (kM e)) g.nd
  rw[i]at j
  have e1:a.map V.str=zE (a.map fun z=>z.cps.toList):=by
   unfold zE
   rw[aV]
   refine cY fun z _=>?_
   show V.str z=V.str (tx z.cps.toList)
   rw[zID]
  rw[e1]
  refine q l _ ?_ (cg.mpr r) u
  have:=j.map (fun z:Str=>z.cps.toList)
  rw[aV]at this
  have v:((fun z:Str=>z.cps.toList) ∘ tx:S->S)=id:=by funext z;show(tx z).cps.toList=z;rw[uE]
  rw[v,List.map_id]at this
  exact this
abbrev zEI:bY:=inClass (top 39) 7
theorem zOp:FnScope ["self","title"] ["self","title"] (defScope zEI):=zX
def zEJ (C:ai):Sp:=fun vs H Q _=>∃(k dx d dn un:ai) (o:Nat) (kvs:List (S×zY)) (ds:List V) (t:S) (v:zY),vs=[.ref k,sv t]/\LgAt H C k dx d dn un o kvs ds/\yE t/\zL kvs t=some v/\∀H',zB H H'->Q (.ref v.1) H'
theorem zOq {f C:ai}{fd:aE}(F:Fun K "book" "Ledger.book" zEI f fd)(c:LgC K C)(n:zN P w K mg base 2 "need_name" ["thing"] qT)(p:yM P w K mg base C 1 "need_title" ["self","title"] (zAq C)):FnOk P w K mg base zR 3 f fd ["self","title"] (zEJ C):=by
 refine F.ok zOp (fun vs H Q E h=>?_) (fun q A outer s H vs Q E b h=>?_)
 ·obtain⟨k,a,d,dn,un,o,kvs,e,t,v,rfl,_⟩:=h;rfl
 ·obtain⟨k,a,d,dn,un,o,kvs,e,t,v,rfl,g,r,i,u⟩:=h
  have x:=uW b
  have y:=b.mono (j:=1) (by decide)
  refine⟨_,zH (yB (zM n b rfl (zA (pv 1) zC))) (zH (yB (vT p y (pv 0) (zA (pv 1) zC))) (zJ (zS (jK x (jF (pv 0) rfl) (pv 1) (fun _ _=>rfl))))),?_⟩
  refine⟨_,rfl,t,rfl,r,fun z l=>?_⟩
  have g1:=g.same l
  refine⟨_,rfl,k,a,_,rfl,g1.ins,rfl,_,rfl,k,a,d,dn,un,o,kvs,e,t,v,rfl,g1,i,?_⟩
  have m:=g1.dget t
  rw[i]at m
  exact⟨_,rfl,k,C,a,_,_,rfl,g1.ins,c.cls,c.now,rfl,_,rfl,d,_,rfl,m,u z l⟩
end
theorem zEK (x:S)(l:List S):inV (sv x) (zE l)=decide (x∈l):=by
 unfold inV zE
 rw[List.any_map]
 induction l with
 |nil=>simp
 |cons y l ih=>
  rw[dN,ih]
  have e:jI (sv y) (sv x)=decide (x=y):=by
   show((tx y)==(tx x))=_
   by_cases z:x=y
   ·subst z;simp
   ·rw[decide_eq_false z,beq_eq_false_iff_ne]
    exact fun q=>z (kM q).symm
  show(jI (sv y) (sv x)||_)=_
  rw[e]
  by_cases z:x=y
  ·subst z;simp
  ·simp[z]
theorem zEL (l:List S):(zE l).all j0=true:=by
 unfold zE
 rw[nA]
 exact cI.mpr fun _ _=>rfl
theorem gP {l:List S}{i:Nat}{x:V}(h:(zE l)[i]?=some x):∃y,l[i]?=some y/\x=sv y:=by
 unfold zE at h
 rw[ar]at h
 cases e:l[i]? with
 |none=>rw[e]at h;cases h
 |some y=>rw[e]at h;exact⟨y,rfl,(au h).symm⟩
theorem zOr {X:Cx}(a:aa)(b:X.K=a):z9 X (compareOp .In) (rIn a false):=by
 subst b;exact zFQ
theorem zAr {X:Cx}(a:aa)(c:X.K=a){e:bD}{f:Str}{pos:Pos}{b:TE}(he:PE X e b)(d:attributeBase e f X.env (eval e X.env)=eval e X.env):PE X (.Attribute e f pos) (zFE a b f):=by
 subst c;exact jF he d
def v1 (kvs:List (S×zY))(ts:List S):Prop:=ts.Perm (kvs.map (·.1))/\ts.Pairwise (· < ·)
def v2 (kvs:List (S×zY))(t:S):zY:=(zL kvs t).getD (0,[])
abbrev z4 (kvs:List (S×zY))(t:S):List S:=(v2 kvs t).2
theorem v1.get {kvs:List (S×zY)}{ts:List S}(h:v1 kvs ts){t:S}(a:t∈ts):zL kvs t=some (v2 kvs t):=by
 have b:=h.1.mem_iff.mp a
 cases e:zL kvs t with
 |none=>exact absurd b (gF.mp e)
 |some v=>unfold v2;rw[e];rfl
theorem v1.mem {kvs:List (S×zY)}{ts:List S}(nd:(kvs.map (·.1)).Nodup)(h:v1 kvs ts){t:S}(a:t∈ts):(t,v2 kvs t)∈kvs:=(uC nd t _).mpr (h.get a)
def zAM (ts:List S):Option Nat->V
 |none=>.non
 |some i=>(ts[i]?.map sv).getD .non
section
variable{P:aB}{w:aL}{K:aa}{mg:Str->Option ae}{base:ba}
abbrev zEM:bY:=inClass (top 39) 8
theorem zOs:FnScope ["self","name"] ["self","name"] (defScope zEM):=zX
theorem zOt:(["name","self","title"]:List Str).Nodup:=by decide+kernel
def zEN (C:ai):Sp:=fun vs H Q _=>∃(k dx d dn un:ai) (o:Nat) (kvs:List (S×zY)) (ds:List V) (x:S),vs=[.ref k,sv x]/\LgAt H C k dx d dn un o kvs ds/\kvs.length<64/\yE x/\∀(l:ai) (ts:List S) H',v1 kvs ts->zB H H'->H' l=some (.lst (zE (ts.filter fun t=>decide (x∈z4 kvs t))))->Q (.ref l) H'
theorem zOu {f C:ai}{fd:aE}(F:Fun K "tellers" "Ledger.tellers" zEM f fd)(v:LgC K C)(O:zN P w K mg base 2 "need_name" ["thing"] qT)(R:yM P w K mg base C 1 "titles" ["self"] (zAL C)):FnOk P w K mg base zR 3 f fd ["self","name"] (zEN C):=by
 refine F.ok zOs (fun vs H Q E h=>?_) (fun T A outer s H vs Q E n h=>?_)
 ·obtain⟨k,c,d,dn,un,o,kvs,B,x,rfl,_⟩:=h;rfl
 ·obtain⟨k,c,d,dn,un,o,kvs,B,x,rfl,g,hl,U,W⟩:=h
  have Y:=uW n
  have Z:=n.mono (j:=1) (by decide)
  refine⟨_,zH (yB (zM O n rfl (zA (pv 1) zC))) (zJ (zS (vX (N:=["name","self","title"]) (caps:=[1,0]) rfl (vP (by kernel_rfl)) (v3 (gO R Z (pv 0)))
    (fun G X s H ex=>yC (i:=2) zOt rfl (Or.inl rfl)) (fun G X s H ex=>gX (vN (zOr K rfl) (pv 0) (jK Y (zAr K rfl (pv 1) rfl) (pv 2) (fun _ _=>rfl)) (by with_unfolding_all rfl))) (fun G X s H ex=>pv 2)))),?_⟩
  refine⟨_,rfl,x,rfl,U,fun e I=>?_⟩
  have g1:=g.same I
  refine⟨_,rfl,k,c,_,rfl,g1.ins,rfl,k,c,d,dn,un,o,kvs,B,rfl,g1,hl,fun l ts J hs hn=>?_⟩
  have it:v1 kvs ts:=⟨J,hs⟩
  have p:zB e (upd e l (.lst (zE ts))):=zB.upd1 hn
  have q:upd e l (.lst (zE ts)) l=some (.lst (zE ts)):=zI
  generalize upd e l (.lst (zE ts))=H2 at p q
  have g2:=g1.same p
  have tl:ts.length=kvs.length:=by rw[J.length_eq,aj]
  have bl:(zE ts).length=ts.length:=by unfold zE;rw[aj]
  refine⟨l,rfl,⟨_,.of q⟩,?_⟩
  refine zAb (v5 K l (zE ts)) [some (sv x),some (.ref k)] 1 (by omega) (fun i a H'=>H'=H2/\a=zE ((ts.take i).filter fun t=>decide (x∈z4 kvs t)))
   ⟨rfl,rfl⟩ (fun i a H' _ h=>⟨.of (by rw[h.1];exact q),by
    rw[h.2];unfold zE;rw[aj]
    exact bZ (bS ..) (by rw[aX];omega)⟩) ?_ ?_
  ·rintro i y a H' ys Nx L hy r ⟨rfl,rfl⟩
   obtain⟨z,rfl⟩:=v7 r
   obtain⟨t,u,rfl⟩:=gP hy
   have hi:i<ts.length:=(af.mp u).1
   have b:ts.take (i+1)=ts.take i++[t]:=by rw[av hi,(af.mp u).2]
   have gt:=it.get (aF u)
   have M:=g2.dget t
   rw[gt]at M
   refine⟨_,rfl,_,rfl,k,C,c,_,_,rfl,g2.ins,v.cls,v.now,rfl,_,rfl,d,_,rfl,M,(v2 kvs t).1,_,rfl,.inr (.of (g2.get gt)),rfl,zEL _,_,rfl,?_⟩
   rw[if_neg aH,zEK]
   by_cases m:x∈z4 kvs t
   ·refine uB m ⟨_,rfl,L _ _ [_] rfl ⟨rfl,?_⟩⟩
    rw[b,bX];unfold zE;rw[aJ];congr 1;simp[m]
   ·refine u7 m (L _ _ [_] rfl ⟨rfl,?_⟩)
    rw[b,bX];simp[m]
  rintro a H' ⟨rfl,rfl⟩ D hD
  rw[bl,aQ]
  exact W D ts _ it ((I.trans p).trans (zB.upd1 hD)) zI
abbrev zEO:bY:=inClass (top 39) 9
theorem zOv:FnScope ["self","name"] ["self","name"] (defScope zEO):=zX
theorem zIE:(["self","name","title"]:List Str).Nodup:=by decide+kernel
def zEP (C:ai):Sp:=fun vs H Q _=>∃(k dx d dn un:ai) (o:Nat) (kvs:List (S×zY)) (ds:List V) (x:S),vs=[.ref k,sv x]/\LgAt H C k dx d dn un o kvs ds/\kvs.length<64/\yE x/\(∀q∈kvs,Fit q.2.2 o x)/\∀(l:ai) (ts:List S) H',v1 kvs ts->zB H H'->H' l=some (.lst (zE (ts.filter fun t=>decide (uQ (z4 kvs t) o x))))->Q (.ref l) H'
theorem zOw {f C:ai}{fd:aE}(F:Fun K "makers_of" "Ledger.makers_of" zEO f fd)(m:LgC K C)(T:zN P w K mg base 2 "need_name" ["thing"] qT)(U:zN P w K mg base 7 "makes" ["book","order","name"] zBc)(W:yM P w K mg base C 1 "titles" ["self"] (zAL C)):FnOk P w K mg base zR 8 f fd ["self","name"] (zEP C):=by
 refine F.ok zOv (fun vs H Q E h=>?_) (fun Y A outer s H vs Q E n h=>?_)
 ·obtain⟨k,b,d,dn,un,o,kvs,G,x,rfl,_⟩:=h;rfl
 ·obtain⟨k,b,d,dn,un,o,kvs,G,x,rfl,g,hl,Z,hf,kQ⟩:=h
  have hu:=uW n
  have r2:=n.mono (j:=2) (by decide)
  have r1:=n.mono (j:=1) (by decide)
  refine⟨_,zH (yB (zM T r2 rfl (zA (pv 1) zC))) (zJ (zS (vX (N:=["self","name","title"]) (caps:=[0,1]) rfl (vP (by kernel_rfl)) (v3 (gO W r1 (pv 0)))
    (fun I X s H ex=>yC (i:=2) zIE rfl (Or.inl rfl)) (fun I X s H ex=>gX (vC (zM U n rfl (zA (jK hu (zAr K rfl (pv 0) rfl) (pv 2) (fun _ _=>rfl)) (zA (zAr K rfl (pv 0) rfl) (zA (pv 1) zC)))))) (fun I X s H ex=>pv 2)))),?_⟩
  refine⟨_,rfl,x,rfl,Z,fun p J=>?_⟩
  have g1:=g.same J
  refine⟨_,rfl,k,b,_,rfl,g1.ins,rfl,k,b,d,dn,un,o,kvs,G,rfl,g1,hl,fun l ts L hs hn=>?_⟩
  have it:v1 kvs ts:=⟨L,hs⟩
  have u:zB p (upd p l (.lst (zE ts))):=zB.upd1 hn
  have v:upd p l (.lst (zE ts)) l=some (.lst (zE ts)):=zI
  generalize upd p l (.lst (zE ts))=H2 at u v
  have g2:=g1.same u
  have tl:ts.length=kvs.length:=by rw[L.length_eq,aj]
  have bl:(zE ts).length=ts.length:=by unfold zE;rw[aj]
  refine⟨l,rfl,⟨_,.of v⟩,?_⟩
  refine zAb (v5 K l (zE ts)) [some (.ref k),some (sv x)] 1 (by omega) (fun i a H'=>zB H2 H'/\a=zE ((ts.take i).filter fun t=>decide (uQ (z4 kvs t) o x)))
   ⟨zB.refl _,rfl⟩ (fun i a H' _ h=>⟨.of (h.1 _ _ v),by
    rw[h.2];unfold zE;rw[aj]
    exact bZ (bS ..) (by rw[aX];omega)⟩) ?_ ?_
  ·rintro i y a H' ys Nx M hy B ⟨c,rfl⟩
   obtain⟨z,rfl⟩:=v7 B
   obtain⟨t,q,rfl⟩:=gP hy
   have hi:i<ts.length:=(af.mp q).1
   have e:ts.take (i+1)=ts.take i++[t]:=by rw[av hi,(af.mp q).2]
   have gt:=it.get (aF q)
   have g3:=g2.same c
   have O:=g3.dget t
   rw[gt]at O
   refine⟨_,rfl,k,C,b,_,_,rfl,g3.ins,m.cls,m.now,rfl,_,rfl,d,_,rfl,O,_,rfl,k,C,b,_,_,rfl,g3.ins,m.cls,m.ord,rfl,_,rfl,(v2 kvs t).1,z4 kvs t,o,x,rfl,g3.get gt,hf _ (it.mem g.nd (aF q)),fun H5 R=>⟨_,rfl,?_⟩⟩
   by_cases r:uQ (z4 kvs t) o x
   ·refine uB r ⟨_,rfl,M _ _ [_] rfl ⟨c.trans R,?_⟩⟩
    rw[e,bX];unfold zE;rw[aJ];congr 1;simp[r]
   ·refine u7 r (M _ _ [_] rfl ⟨c.trans R,?_⟩)
    rw[e,bX];simp[r]
  rintro a H' ⟨c,rfl⟩ D hD
  rw[bl,aQ]
  exact kQ D ts _ it (((J.trans u).trans c).trans (zB.upd1 hD)) zI
abbrev zEQ:bY:=inClass (top 39) 10
theorem zIF:FnScope ["self","name","titles","place"] ["self","name"] (defScope zEQ):=zX
def zER (C:ai):Sp:=fun vs H Q _=>∃(k dx d dn un:ai) (o:Nat) (kvs:List (S×zY)) (ds:List V) (x:S),vs=[.ref k,sv x]/\LgAt H C k dx d dn un o kvs ds/\kvs.length<64/\yE x/\(∀q∈kvs,Fit q.2.2 o x)/\∀(ts:List S) H',v1 kvs ts->zB H H'->Q (zAM ts (j6 (ts.map fun t=>z5 (zD o (z4 kvs t)) o x))) H'
theorem zOx {f C:ai}{fd:aE}(F:Fun K "best_of" "Ledger.best_of" zEQ f fd)(p:LgC K C)(cN:zN P w K mg base 2 "need_name" ["thing"] qT)(cS:zN P w K mg base 6 "share" ["book","order","name"] (zBb K))(cP:zN P w K mg base 2 "place_of_greatest" ["fractions"] (zBq K))(mT:yM P w K mg base C 1 "titles" ["self"] (zAL C)):FnOk P w K mg base zR 7 f fd ["self","name"] (zER C):=by
 refine F.ok zIF (fun vs H Q E h=>?_) (fun ab A outer s H vs Q E b h=>?_)
 ·obtain⟨k,c,d,dn,un,o,kvs,T,x,rfl,_⟩:=h;rfl
 ·obtain⟨k,c,d,dn,un,o,kvs,T,x,rfl,g,hl,hx,U,kQ⟩:=h
  have hu:=uW b
  have nd:=zIF.nd
  have W:=b.mono (j:=2) (by decide)
  have r1:=b.mono (j:=1) (by decide)
  refine⟨_,zH (yB (zM cN W rfl (zA (pv 1) zC))) (zH (zZ (i:=2) nd rfl (Or.inl rfl) (gO mT r1 (pv 0)))
   (zH (zZ (i:=3) nd rfl (Or.inl rfl) (zM cP W rfl (zA (vX (N:=["self","name","title"]) (caps:=[0,1]) rfl (vP (by kernel_rfl)) (v3 (pv 2))
    (fun Y X s H ex=>yC (i:=2) zIE rfl (Or.inl rfl)) (fun Y X s H ex=>uX) (fun Y X s H ex=>zM cS b rfl (zA (jK hu (zAr K rfl (pv 0) rfl) (pv 2) (fun _ _=>rfl)) (zA (zAr K rfl (pv 0) rfl) (zA (pv 1) zC))))) zC)))
   (zJ (zS (zEn (vN zCM (pv 3) kP (vB _)) kP (yS u5 (pv 2) (pv 3) (fun _ _=>rfl))))))),?_⟩
  refine⟨_,rfl,x,rfl,hx,fun u Z=>?_⟩
  have g1:=g.same Z
  refine⟨_,rfl,k,c,_,rfl,g1.ins,rfl,k,c,d,dn,un,o,kvs,T,rfl,g1,hl,fun l ts hp hs hn=>?_⟩
  have it:v1 kvs ts:=⟨hp,hs⟩
  have M:zB u (upd u l (.lst (zE ts))):=zB.upd1 hn
  have B:upd u l (.lst (zE ts)) l=some (.lst (zE ts)):=zI
  generalize upd u l (.lst (zE ts))=H2 at M B
  have g2:=g1.same M
  have tl:ts.length=kvs.length:=by rw[hp.length_eq,aj]
  have bl:(zE ts).length=ts.length:=by unfold zE;rw[aj]
  refine⟨_,rfl,l,rfl,⟨_,.of B⟩,?_⟩
  refine uY (v5 K l (zE ts)) [some (.ref k),some (sv x)] 1 (by omega) (fun i a H'=>zB H2 H'/\FrsAt K H' a ((ts.take i).map fun t=>z5 (zD o (z4 kvs t)) o x))
   ⟨zB.refl _,FrsAt.nil⟩ (fun i a H' _ h=>⟨.of (h.1 _ _ B),by rw[h.2.len,aj,aX];omega⟩) ?_ ?_
  ·rintro i y a H' ys Nx hN hy O ⟨G,I⟩
   obtain⟨z,rfl⟩:=v7 O
   obtain⟨t,J,rfl⟩:=gP hy
   have hi:i<ts.length:=(af.mp J).1
   have R:ts.take (i+1)=ts.take i++[t]:=by rw[av hi,(af.mp J).2]
   have gt:=it.get (aF J)
   have g3:=g2.same G
   have dg:=g3.dget t
   rw[gt]at dg
   refine⟨_,rfl,k,C,c,_,_,rfl,g3.ins,p.cls,p.now,rfl,_,rfl,d,_,rfl,dg,_,rfl,k,C,c,_,_,rfl,g3.ins,p.cls,p.ord,rfl,_,rfl,(v2 kvs t).1,z4 kvs t,o,x,rfl,g3.get gt,U _ (it.mem g.nd (aF J)),fun v H5 e fr=>hN _ _ [_] rfl ⟨G.trans e,?_⟩⟩
   rw[R,aJ]
   exact(I.same e).snoc fr
  rintro a H' ⟨G,I⟩ D hD
  rw[bl,aQ]at I
  have s4:zB H' (upd H' D (.lst a)):=zB.upd1 hD
  have m:=G.trans s4
  refine⟨D,a,_,rfl,zI,I.same s4,fun q hq=>?_,fun H5 e=>?_⟩
  ·obtain⟨t,ht,rfl⟩:=aG.mp hq
   have ft:=U _ (it.mem g.nd ht)
   exact(zDJ (zAD ft.toBk).1 ft.pw).vx
  have l5:=(m.trans e) _ _ B
  have L:=kQ ts H5 it ((Z.trans M).trans (m.trans e))
  have ip:IsPlace (ts.map fun t=>z5 (zD o (z4 kvs t)) o x) (j6 (ts.map fun t=>z5 (zD o (z4 kvs t)) o x)):=zHw fun r b=>by
   obtain⟨t,_,rfl⟩:=aG.mp b
   exact(jP _ _ _).dn
  generalize j6 (ts.map fun t=>z5 (zD o (z4 kvs t)) o x)=pl at L ip
  refine⟨_,rfl,rfl,_,rfl,?_⟩
  cases ip with
  |no h=>exact uB rfl L
  |at_ i q hi _ _ _=>
   have n:i<ts.length:=by
    have:=(af.mp hi).1
    rw[aj]at this;exact this
   have eb:zAM ts (some i)=sv ts[i]:=by show(ts[i]?.map sv).getD .non=_;rw[ao n];rfl
   rw[eb]at L
   refine u7 (fun z=>by cases z) ⟨_,rfl,_,rfl,l,_,_,sv ts[i],rfl,rfl,.of l5,?_,L⟩
   refine kX (j:=i) ?_
   unfold zE
   rw[ar,ao n];rfl
end
end Kn.Ln
end
section
namespace L2
open PySem PySem.Spec PyProof.Rows
theorem zOy (t:dA)(a:Array (Int×ae))(h:Int)(x:ae):(layNew t a h x).2.1.led=t.led/\(t.plain=false->(layNew t a h x).2.1.plain=false):=by
 unfold layNew
 split
 ·dsimp only
  unfold SetTable.orStandIn
  split
  ·exact⟨rfl,fun e=>e⟩
  ·exact⟨rfl,fun _=>rfl⟩
 ·exact⟨rfl,fun _=>rfl⟩
theorem zOz {mask a b:Nat}{c plain:Bool}{d:Array Int}{t:dA}{o:Array Nat}(e:pZ mask a b c plain d=some (t,o)):t.led=c/\t.plain=plain:=by
 unfold pZ at e
 cases q:SetTable.layClean mask d with
 |none=>rw[q]at e;cases e
 |some f=>
  rw[q]at e
  injection e with e
  injection e with e1 g
  subst e1
  exact⟨rfl,rfl⟩
theorem zPA (t:dA)(a:Array (Int×ae))(n:Nat):(relayAll t a n).2.1.led=t.led/\(t.plain=false->(relayAll t a n).2.1.plain=false):=by
 unfold relayAll
 split
 ·rename_i t' o e
  dsimp only
  have k:=zOz e
  split
  ·exact⟨k.1,fun q=>k.2.trans q⟩
  ·exact⟨rfl,fun _=>rfl⟩
 ·exact⟨rfl,fun _=>rfl⟩
abbrev uS (es:Array (Int×ae))(ep:Nat)(t:dA):Obj:={cls:=.type "set",dict:=none,data:=.set es ep t}
def zPB (w:aL)(es:Array (Int×ae))(t:dA):Prop:=t.fits es.size=true/\t.led=!w.params.followText "set-order"/\ (es.size=0\/t.plain=false)
def zAN (prog:aB)(w:aL)(h:ba)(a:ai)(es:Array (Int×ae)):Prop :=
 ∃ep t,h.get? a=some (uS es ep t)/\ElemsOf (eF prog w) es.toList/\es.size<scanBound/\zPB w es t
def v9:ae->Str
 | .str x _=>x
 |_=>⟨#[]⟩
abbrev qO (es:Array (Int×ae)):List Str:=es.toList.map fun e=>v9 e.2
theorem zES {k:Str}{x:ae}(h:cD k x=true):v9 x=k:=by
 obtain⟨t,rfl⟩:=dm h;rfl
theorem zPC {k:Str}{x:ae}(h:cD k x=true):x.scannable=true:=by
 obtain⟨t,rfl⟩:=dm h;rfl
section
variable{prog:aB}{w:aL}{A:bJ}{E:ae->ak->Prop}{s:ak}
theorem zIG {h:ba}{a:ai}{b es':Array (Int×ae)}{ep:Nat}{t t':dA}(c:h.get? a=some (uS b ep t)):(h.update a (oY es' t')).get? a=some (uS es' (ep+1) t'):=by
 have:=fT (oY es' t') c rfl
 exact this
theorem zPD {a:ai}{l:Array (Int×ae)}{k:Str}{x:ae}{Q:Bool->ak->Prop}(m:cD k x=true)(hS:zAN prog w s.heap a l)(z:l.size+1<scanBound)
  (h:∀b h' es',eN a s.heap h'->zAN prog w h' a es'->(k∈qO l/\es'.toList.Perm l.toList\/k∉qO l/\(qO es').Perm (k::qO l))->Q b {s with heap:=h'}) :
  wpAny (model prog w) A (setAddHashed a x (hashStr w k)) Q E s:=by
 obtain⟨ep,t,W,o,hb,hf,u,al⟩:=id hS
 have B:=zPC m
 have e:s={s with heap:=s.heap}:=by cases s;rfl
 unfold setAddHashed setAddHashedIn
 refine dP (ah (dJ W rfl hf ?_))
 dsimp only
 rw[byScan_of (knd:=eF prog w) B hb o]
 simp only[↓reduceIte]
 unfold setAddByScan
 refine ah ?_
 refine ah (oZ ?_)
 refine ah (wpAny_setScan_of (knd:=eF prog w) (k:=k) m W rfl hf o ?_)
 cases hr:List.findIdx? (fun e=>(eF prog w).is k e.2) l.toList with
 |some j=>
  dsimp only
  obtain⟨hj,X,_⟩:=List.findIdx?_eq_some_iff_getElem.mp hr
  refine ax (ax ?_)
  rw[e]
  exact h _ s.heap l (rK a s.heap) hS (.inl ⟨aG.mpr ⟨l.toList[j],bE hj,zES X⟩,dX _⟩)
 |none=>
  dsimp only
  have J:k∉qO l:=fun q=>by
   obtain⟨y,hy,q⟩:=aG.mp q
   obtain⟨⟨k',M,_⟩,_⟩:=o y hy
   have e1:k'=k:=(zES M).symm.trans q
   have:=List.findIdx?_eq_none_iff.mp hr y hy
   rw[<-e1,M]at this
   cases this
  have d:=layNew_perm t l (hashStr w k) x
  have g:=layNew_fits t l (hashStr w k) x
  have i:=zOy t l (hashStr w k) x
  show wpAny _ _ _ _ _ _
  change wpAny _ _ (match layNew t l (hashStr w k) x with|(l,t,f,N)=>_) _ _ _
  generalize hL:layNew t l (hashStr w k) x=L at d g i⊢
  obtain⟨c,Y,f,N⟩:=L
  dsimp only at d g i⊢
  rw[iJ]at d
  have v:ElemsOf (eF prog w) c.toList:=(ElemsOf.push (knd:=eF prog w) o m B).perm d
  have hsz:c.size=l.size+1:=by rw[<-aZ,d.length_eq,aA,aZ];rfl
  have C:c.size<scanBound:=by rw[hsz];exact z
  have O:(qO c).Perm (k::qO l):=by
   have:=d.map fun e:Int×ae=>v9 e.2
   rw[aJ]at this
   refine this.trans ?_
   rw[mG,zES m]
   exact List.perm_append_singleton _ _
  have P:∀(b:Bool) {Z:ak} {Q':Unit->ak->Prop},Q' () Z->wpAny (model prog w) A (match b with|true=>rule "set.scan.the-table-gave-way"|false=>pure ()) Q' E Z :=
   fun b Z Q' hq=>by cases b<;>first|exact ax hq|exact oZ hq
  refine ah (P _ ?_)
  have tail:∀n:dA,n.fits c.size=true->n.led=t.led->n.plain=false->∀wd:Bool,wpAny (model prog w) A (do
    storeSet a c n
    if(!wd&&n.tooFull)=true then do
      (match(relayAll n c (dZ c.size)).2.2 with|true=>rule "set.scan.the-table-gave-way"|false=>pure ())
      storeSet a (relayAll n c (dZ c.size)).1 (relayAll n c (dZ c.size)).2.1
      pure (some true)
     else pure (some true)) (fun r s'=>wpAny (model prog w) A (match r with|some D=>pure D|none=>setAddHashedIn a x (hashStr w k) 99999) Q E s') E s:=by
   intro n f2 l2 p2 wd
   refine ah (nB W rfl ?_ (fM C))
   have F:=zIG (es':=c) (t':=n) W
   have R:=lV s.heap a (oY c n)
   split
   ·have T:=relayAll_perm n c (dZ c.size)
    have G:=relayAll_fits n c (dZ c.size)
    have p:=zPA n c (dZ c.size)
    generalize am:relayAll n c (dZ c.size)=Rl at T G p⊢
    obtain⟨H,t3,ab⟩:=Rl
    dsimp only at T G p⊢
    have ac:H.size=c.size:=by rw[<-aZ,T.length_eq,aZ]
    have U:H.size<scanBound:=by rw[ac];exact C
    refine ah (P _ ?_)
    refine ah (nB F rfl ?_ (fM U))
    refine ax (ax ?_)
    exact h _ _ H (R.trans (lV _ a _)) ⟨_,t3,zIG F,v.perm T,U,G,(p.1.trans l2).trans u,.inr (p.2 p2)⟩ (.inr ⟨J,(T.map _).trans O⟩)
   ·exact ax (ax (h _ _ c R ⟨_,n,F,v,C,f2,l2.trans u,.inr p2⟩ (.inr ⟨J,O⟩)))
  obtain⟨tk,rfl⟩:=dm m
  by_cases I:Y.plain=true
  ·rw[if_pos I]
   refine ah ?_
   rw[hashByValue_scannable 8 B]
   refine ax ?_
   exact tail {Y with plain:=false} g i.1 rfl f
  ·rw[if_neg I]
   refine ah (ax ?_)
   simp only[↓reduceIte]
   exact tail Y g i.1 (by simpa using I) f
end
def qZ (prog:aB)(w:aL)(h:ba)(a:ai)(ks:List Str):Prop:=∃es,zAN prog w h a es/\(qO es).Nodup/\(∀x,x∈qO es↔x∈ks)/\es.size<=ks.length
theorem qZ.stay {prog:aB}{w:aL}{h h':ba}{S:ai}{ks:List Str}(x:qZ prog w h S ks)(e:∀o,h.get? S=some o->h'.get? S=some o):qZ prog w h' S ks:=by
 obtain⟨a,⟨ep,t,b,r⟩,q⟩:=x
 exact⟨a,⟨ep,t,e _ b,r⟩,q⟩
section
variable{prog:aB}{w:aL}{A:bJ}{R:oK->ak->Prop}{I:ai}{fp wr:List ai}{G:Array oF->Array oF->Prop}{P:Nat->ae->Prop}{St:Nat->ak->Prop}
theorem zPE {ks:List Str}(W:WalksS prog w A.in1 I fp wr G ks.length P St)(S:ai)(B:S∉fp)(F:∀i v,P i v->cD (ks.getD i ⟨#[]⟩) v=true)(N:ks.length+1<scanBound) :
  ∀(m i:Nat) (s:ak),ks.length-i=m->i<=ks.length->St i s->qZ prog w s.heap S (ks.take i)->
   (∀s',Moved (S::wr) G s s'->qZ prog w s'.heap S ks->R (.ok (.ret .none)) s')->
   codeAny (model prog w) A (.builtin "set.update.loop" ⟨[.ref S,.ref I],[]⟩) R s:=by
 have C:S∉wr:=fun z=>B (W.sub _ z)
 have more:∀b∈wr,b∈S::wr:=fun b z=>az _ z
 intro m
 induction m with
 |zero=>
  intro i s e1 H st x g
  obtain rfl:i=ks.length:=by omega
  refine eD je ?_
  rw[dM fk _]
  refine ah (m:=pyNext (.ref I)) (W.done s _ _ st fun s' a=>?_)
  rw[aQ]at x
  exact ax (g s' (a.mono more) (x.stay fun o h=>a.heap S _ C h))
 |succ m ih=>
  intro i s e1 H st x g
  have lt:i<ks.length:=by omega
  refine eD je ?_
  rw[dM fk _]
  refine ah (m:=pyNext (.ref I)) (W.item i s _ _ lt st fun v s' J j a=>?_)
  have D:=F i v J
  obtain⟨l,L,nd,mem,sz⟩:=x.stay fun o h=>a.heap S _ C h
  have c:l.size+1<scanBound:=by rw[aX]at sz;omega
  refine ah (m:=holding [v] (setAdd S v)) (dP ?_)
  unfold setAdd
  refine dP (ah ((eF prog w).pyHash (k:=ks.getD i ⟨#[]⟩) D ?_))
  refine zPD (s:={s' with toks:=s'.toks+1}) D L c fun b h' es' E y al=>?_
  have f:ks.take (i+1)=ks.take i++[ks.getD i ⟨#[]⟩]:=by
   rw[av lt];simp[lt]
  have M:qZ prog w h' S (ks.take (i+1)):=by
   rcases al with⟨n,pm⟩|⟨p,pm⟩
   ·have pt:(qO es').Perm (qO l):=pm.map _
    refine⟨es',y,pt.nodup_iff.mpr nd,fun z=>?_,?_⟩
    ·rw[pt.mem_iff,mem z,f,bj,bF]
     exact⟨.inl,fun q=>q.elim id fun q=>q▸ (mem _).mp n⟩
    ·have:es'.size=l.size:=by rw[<-aZ,pm.length_eq,aZ]
     rw[this,f,aA];omega
   ·refine⟨es',y,pm.nodup_iff.mpr (bI.mpr ⟨p,nd⟩),fun z=>?_,?_⟩
    ·rw[pm.mem_iff,aD,mem z,f,bj,bF]
     exact Or.comm
    ·have:=pm.length_eq
     simp only[aj,aZ,aO]at this
     rw[this,f,aA,bM];omega
  refine ax ⟨gh fk _,ih (i+1) _ (by omega) lt (W.frame _ s' _ _ j (fc _) fun b r o e=>?_) M fun u d z=>?_⟩
  ·exact(E.2 b (fun q=>B (by rw[<-q];exact r))).trans e
  ·refine g u (Moved.trans W.gtrans ((a.mono more).then_heap (fc _) fun b o r e=>?_) d) z
   exact(E.2 b (fun q=>r (by rw[q];exact aq))).trans e
end
section
variable{prog:aB}{w:aL}{A:bJ}{E:ae->ak->Prop}{s:ak}
abbrev qB (w:aL):Obj:=uS #[] 0 (.fresh 0 0 (!w.params.followText "set-order"))
theorem zPF (prog:aB)(w:aL){h:ba}{a:ai}(e:h.get? a=some (qB w)):qZ prog w h a [] :=
 ⟨#[],⟨0,_,e,(fun _ q=>nomatch q),(by unfold scanBound;decide),rfl,rfl,.inl rfl⟩,lD,(fun _=>Iff.rfl),aw _⟩
theorem zPG (a:ae){Q₁:ae->ak->Prop}(h:Q₁ (.ref s.heap.objs.size) {s with heap:=s.heap.push (qB w)}) :
  codeAny (model prog w) A (.call (.builtin "set.__new__") ⟨[.type "set",a],[]⟩) (wants Q₁ E) s:=by
 refine ou ?_
 show wpAny _ A.in1 (do checkBuiltinCall "set.__new__" ⟨[.type "set",a],[]⟩;again (.builtin "set.__new__" ⟨[.type "set",a],[]⟩)) _ _ s
 refine ah (wpAny_of_eq (F.newCall_set_1 a) (ax ⟨gh ox _,eD F.entry_set_new ?_⟩))
 rw[dM ox _]
 unfold cc.«set.__new__» o2
 have b:=sub_set_self
 obtain⟨c,g,d,tk,os⟩:=s
 dsimp only
 wp_walk
 refine jf (ax ?_)
 dsimp only
 simp only[newObj]
 refine ah (wpAny_alloc (ax ?_))
 exact ax h
end
theorem zIH:Manifest.owners.lookup (String.ofList ['r','o','t','a','r','e','t','i','_','t','e','s'].reverse)=some Manifest.sig_set_iterator:=by kernel_rfl
theorem j7:Slot "set_iterator" "__next__" "set_iterator.__next__" :=
 .of (owner :="set_iterator") (n :="__next__") (by rw[kl,fU];kernel_rfl) (by decide+kernel) (by decide+kernel) (by decide+kernel)
  (by first|exact .inl (by decide+kernel)|exact .inr (by decide+kernel)) (by rw[fN];kernel_rfl)
theorem zET:entryFor table "set_iterator.__next__"=some cc.«set_iterator.__next__»:=entryFor_of_tree (by kernel_rfl)
theorem zEU (a:ae):argsOk "set_iterator.__next__" ⟨[a],[]⟩:=by
 unfold argsOk;rw[p3 (id :="set_iterator.__next__") (n:=['_','_','t','x','e','n','_','_']) (o:=['r','o','t','a','r','e','t','i','_','t','e','s']) (by kernel_rfl) zIH];kernel_rfl
theorem zII:Slot "set_iterator" "__iter__" "set_iterator.__iter__" :=
 .of (owner :="set_iterator") (n :="__iter__") (by rw[kl,fU];kernel_rfl) (by decide+kernel) (by decide+kernel) (by decide+kernel)
  (by first|exact .inl (by decide+kernel)|exact .inr (by decide+kernel)) (by rw[fN];kernel_rfl)
theorem zPH:entryFor table "set_iterator.__iter__"=some cc.«dict_keyiterator.__iter__» :=
 lK (id' :="dict_keyiterator.__iter__") (by kernel_rfl) (by first|rfl|decide+kernel|(unfold o4;simp+decide [nC])) (by decide+kernel) (by kernel_rfl)
theorem zPI (a:ae):argsOk "set_iterator.__iter__" ⟨[a],[]⟩:=by
 unfold argsOk;rw[p3 (id :="set_iterator.__iter__") (n:=['_','_','r','e','t','i','_','_']) (o:=['r','o','t','a','r','e','t','i','_','t','e','s']) (by kernel_rfl) zIH];kernel_rfl
theorem zPJ:entryFor table "set.__iter__"=some cc.«frozenset.__iter__» :=
 lK (id' :="frozenset.__iter__") (by kernel_rfl) (by first|rfl|decide+kernel|(unfold o4;simp+decide [nC])) (by decide+kernel) (by kernel_rfl)
abbrev j8 (f:ae)(i:Nat)(a:ai)(n ep:Nat):Obj:={cls:=.type "set_iterator",dict:=none,data:=.fields #[f,.int i 0,.ref a,.int n 0,.int ep 0]}
section
variable{prog:aB}{w:aL}{A:bJ}{E:ae->ak->Prop}{s:ak}
theorem zPK {I a T:ai}{i ep:Nat}{b:Array (Int×ae)}{t:dA}{pl:List Nat}{e1 j:Nat}{x:Int×ae}{Q:Option ae->ak->Prop}
  (hi:s.heap.get? I=some (j8 (.ref T) i a b.size ep)) (c:s.heap.get? a=some (uS b ep t)) (d:t.fits b.size=true) (e:s.heap.get? T=some (seqObj "tuple" (pl.map fun(i:Nat)=>rawInt i).toArray e1)) (f:pl[i]?=some j) (g:b[j]?=some x)
  (h:∀h',h'.get? I=some (j8 (.ref T) (i+1) a b.size ep)->eN I s.heap h'->Q (some x.2) {s with heap:=h'}) :
  wpAny (model prog w) A (pyNext (.ref I)) Q E s:=by
 have ty:s.TypeIs (.ref I) "set_iterator" :=⟨_,hi,rfl⟩
 unfold pyNext
 refine ah (gc (da (name:=eR "__next__") ty j7 (b5 j7 ty zET ?_ (zEU _))))
 unfold cc.«set_iterator.__next__»
 refine ah (m:=slotArgs "__next__" 0 _) (ax ?_)
 refine ah (lM hi rfl ?_)
 dsimp only
 refine ah (eU c rfl d ?_)
 rw[if_neg (by simp)]
 refine ah (o5 e rfl ?_)
 have l:((pl.map fun(i:Nat)=>rawInt i).toArray)[((i:Nat):Int).toNat]?=some (.int (j:Int) 0):=by
  rw[cV,ll,ar,f];rfl
 dsimp only
 rw[l]
 dsimp only
 unfold setNextDrawn
 refine ah (ah (dJ c rfl d ?_))
 dsimp only
 rw[cV,cV,if_neg (by simp),g]
 refine ax ?_
 refine ah (bR hi (by simp) fun h' n o=>?_)
 exact ax ⟨_,rfl,ax (h h' (by rw[n];rfl) o)⟩
theorem zIJ {Q:Option ae->ak->Prop}{R:ic->ak->Prop}(c:A.handled=none)(d:∀h',(∀b o,s.heap.get? b=some o->h'.get? b=some o)->Q none {s with heap:=h'}) :
  wpAny (model prog w) A.in1 (do let e<-newExc (.type "StopIteration") [];raiseNew e) R (fun e s'=>wpAny (model prog w) A (do let b<-isInstance e (.type "StopIteration");if b=true then pure none else throw e) Q E s') s:=by
 refine ah ?_
 simp only[newExc,newTuple]
 refine ah (c9 ?_ (by size_fits))
 refine ah (m:=firstArgMember _ _) (wpAny_of_eq (a:=Value.none) (by first|rfl|(simp only[firstArgMember];rfl)) ?_)
 refine c9 ?_ (by size_fits)
 simp only[raiseNew]
 refine ah (wpAny_handled ?_)
 rw[show A.in1.handled=none from c]
 refine ah (ax (wpAny_throw ?_))
 refine ah (jb (T :="StopIteration") (b:=true) ⟨_,ay _ rfl,rfl⟩ oX ?_)
 exact ax (d _ fun b o e=>ag _ (ag _ e))
theorem zPL {I a T:ai}{i ep:Nat}{c:Array (Int×ae)}{t:dA}{pl:List Nat}{e1:Nat}{Q:Option ae->ak->Prop}(h:A.handled=none)
  (hi:s.heap.get? I=some (j8 (.ref T) i a c.size ep)) (j:s.heap.get? a=some (uS c ep t)) (l:t.fits c.size=true) (n:s.heap.get? T=some (seqObj "tuple" (pl.map fun(i:Nat)=>rawInt i).toArray e1)) (p:pl[i]?=none)
  (q:∀h',(∀b o,b≠I->s.heap.get? b=some o->h'.get? b=some o)->Q none {s with heap:=h'}) :
  wpAny (model prog w) A (pyNext (.ref I)) Q E s:=by
 have ty:s.TypeIs (.ref I) "set_iterator" :=⟨_,hi,rfl⟩
 unfold pyNext
 refine ah (gc (da (name:=eR "__next__") ty j7 (b5 j7 ty zET ?_ (zEU _))))
 unfold cc.«set_iterator.__next__»
 refine ah (m:=slotArgs "__next__" 0 _) (ax ?_)
 refine ah (lM hi rfl ?_)
 dsimp only
 refine ah (eU j rfl l ?_)
 rw[if_neg (by simp)]
 refine ah (o5 n rfl ?_)
 have r:((pl.map fun(i:Nat)=>rawInt i).toArray)[((i:Nat):Int).toNat]?=none:=by
  rw[cV,ll,ar,p];rfl
 dsimp only
 rw[r]
 dsimp only
 refine ah (bR hi (by simp) fun u v d=>?_)
 refine ah (bR (s:={s with heap:=u}) v (by simp) fun x z f=>?_)
 refine zIJ (s:={s with heap:=x}) h fun y ex=>q y fun b o g e=>ex b o ?_
 exact(f.2 b g).trans ((d.2 b g).trans e)
theorem zBw {Q:Bool->ak->Prop}(h:Q (w.params.followText "set-order") s):wpAny (model prog w) A setsByText Q E s:=by
 unfold setsByText
 exact ah (jf (ax h))
theorem zPM {a:ai}{ep:Nat}{b:Array (Int×ae)}{t:dA}{Q:Array (Int×ae)->ak->Prop}(c:s.heap.get? a=some (uS b ep t))(d:t.fits b.size=true)(e:w.params.followText "set-order"=true)(h:Q (pickOrder (w.params.setOrder a ep) b) s) :
  wpAny (model prog w) A (setWalk a) Q E s:=by
 unfold setWalk
 refine ah (dJ c rfl d ?_)
 dsimp only
 refine ah (zBw ?_)
 rw[e]
 exact ah (jf (ax h))
theorem zBx {I a:ai}{f i ep:Nat}{d:Array (Int×ae)}{t:dA}{r:Option (ae×Nat)}{Q:Option ae->ak->Prop}(q:A.handled=none)
  (hi:s.heap.get? I=some (j8 (.int f 0) i a d.size ep)) (u:s.heap.get? a=some (uS d ep t)) (v:t.fits d.size=true)
  (y:∀(A:bJ) (E:ae->ak->Prop) (Q:Option (ae×Nat)->ak->Prop),Q r s->wpAny (model prog w) A (setNext a f i ep) Q E s)
  (g:∀x j,r=some (x,j)->∀h',h'.get? I=some (j8 (.int j 0) (i+1) a d.size ep)->eN I s.heap h'->Q (some x) {s with heap:=h'})
  (h:r=none->∀h',(∀b o,b≠I->s.heap.get? b=some o->h'.get? b=some o)->Q none {s with heap:=h'}) :
  wpAny (model prog w) A (pyNext (.ref I)) Q E s:=by
 have ty:s.TypeIs (.ref I) "set_iterator" :=⟨_,hi,rfl⟩
 unfold pyNext
 refine ah (gc (da (name:=eR "__next__") ty j7 (b5 j7 ty zET ?_ (zEU _))))
 unfold cc.«set_iterator.__next__»
 refine ah (m:=slotArgs "__next__" 0 _) (ax ?_)
 refine ah (lM hi rfl ?_)
 dsimp only
 refine ah (eU u rfl v ?_)
 rw[if_neg (by simp)]
 rw[cV,cV,cV]
 refine ah (y _ _ _ ?_)
 match r,g,h with
 |none,_,h=>
  dsimp only
  refine ah (bR hi (by simp) fun l p c=>?_)
  exact zIJ (s:={s with heap:=l}) q fun z ex=>h rfl z fun b o B e=>ex b o ((c.2 b B).trans e)
 |some (x,j),g,_=>
  dsimp only
  refine ah (bR hi (by simp) fun l p c=>?_)
  refine ah (bR (s:={s with heap:=l}) p (by simp) fun C D n=>?_)
  exact ax ⟨_,rfl,ax (g x j rfl C (by rw[D];rfl) (c.trans n))⟩
theorem zIK {a:ai}{f i ep:Nat}{b:Array (Int×ae)}{t:dA}{Q:Option (ae×Nat)->ak->Prop}(c:s.heap.get? a=some (uS b ep t))(d:t.fits b.size=true)(g:w.params.followText "set-order"=true)
  (h:Q (((pickOrder (w.params.setOrder a ep) b)[i]?).map fun e=>(e.2,f)) s):wpAny (model prog w) A (setNext a f i ep) Q E s:=by
 unfold setNext
 refine ah (dJ c rfl d ?_)
 dsimp only
 refine ah (zBw ?_)
 rw[g,if_pos rfl,if_neg (by simp)]
 refine ah (zPM c d g ?_)
 exact ax h
theorem zIL {a:ai}{f i ep:Nat}{b:Array (Int×ae)}{t:dA}{Q:Option (ae×Nat)->ak->Prop}(d:s.heap.get? a=some (uS b ep t))(e:t.fits b.size=true)(g:w.params.followText "set-order"=false)(hl:t.led=true)(l:b.size<=1)
  (h:Q (match b[dB t.place f]?,t.place[dB t.place f]? with|some (_,x),some j=>some (x,j+1)|_,_=>none) s):wpAny (model prog w) A (setNext a f i ep) Q E s:=by
 unfold setNext
 refine ah (dJ d rfl e ?_)
 dsimp only
 refine ah (zBw ?_)
 rw[g,if_neg (by decide)]
 refine eY (fun hd=>?_) (fun _=>?_)
 ·have c:(!t.plain&&decide (b.size>1))=true:=hd
  simp only[aY,decide_eq_true_eq]at c
  omega
 ·show wpAny _ _ ((if(!t.led&&!b.isEmpty)=true then unsupported "set:maker-not-led"else pure ())>>=_) _ _ _
  rw[hl,if_neg (by simp)]
  exact ah (ax (ax h))
theorem zEV {α:Type}:∀{l:List α}{i:Nat} (h:i<l.length),(l[i]::l.eraseIdx i).Perm l
 |x::l,0,h=>dX _
 |x::l,i+1,h=>by
  have q:=zEV (l:=l) (i:=i) (by simpa using h)
  exact(List.Perm.swap ..).trans (q.cons x)
theorem zEW {α:Type}(next:Nat->Nat)(xs:Array α):(pickOrder next xs).toList.Perm xs.toList:=by
 have go:∀(a k:Nat) (left:List α) (b:Array α),left.length=a->(nD next a k left b).toList.Perm (b.toList++left):=by
  intro a
  induction a with
  |zero=>
   intro k left b e
   rw[dY.mp e]
   simp[nD]
  |succ a ih=>
   intro k left b e
   have lt:next k%left.length<left.length:=oV _ (by omega)
   unfold nD
   rw[ao lt]
   dsimp only
   refine(ih _ _ _ (by rw[iD lt,e];rfl)).trans ?_
   rw[iJ,eG]
   refine qj _ ?_
   exact zEV lt
 have:=go xs.size 0 xs.toList #[] rfl
 simpa [pickOrder]using this
theorem zPN {a:Source}{n:Nat}{Q:Nat->ak->Prop}(b:0<n)(h:∀d r,r<n->Q r {s with drawn:=d}):wpAny (model prog w) A (choose a n) Q E s :=
 fun Γ p c=>⟨dH b,h _ _ (oV _ b)⟩
theorem zIM {α:Type}:∀(n:Nat) (xs:List α) {s:ak}{Q:List α->ak->Prop},xs.length=n->(∀d ord,ord.Perm xs->Q ord {s with drawn:=d})->wpAny (model prog w) A (drawOrder n xs) Q E s
 |0,xs,s,Q,e,h=>by
  rw[dY.mp e]at h
  unfold drawOrder
  have:s={s with drawn:=s.drawn}:=rfl
  exact ax (h s.drawn [] (dX _))
 |n+1,[],s,Q,e,h=>by cases e
 |n+1,x::xs,s,Q,e,h=>by
  unfold drawOrder
  refine ah (zPN (by rw[e];omega) fun d r a=>?_)
  rw[ao a]
  dsimp only
  refine ah (zIM n _ (by rw[iD a,e];rfl) fun b ord pm=>?_)
  refine ax (h b _ ?_)
  exact(pm.cons _).trans (zEV a)
theorem zEX {I:ai}{f:ae}{i:Nat}{a:ai}{n ep:Nat}{Q:ae->ak->Prop}(hi:s.heap.get? I=some (j8 f i a n ep))(h:Q (.ref I) s):wpAny (model prog w) A (pyIter (.ref I)) Q E s:=by
 have ty:s.TypeIs (.ref I) "set_iterator" :=⟨_,hi,rfl⟩
 refine fL ty zII (b5 zII ty zPH ?_ (zPI _))
 show wpAny _ _ (ret (.ref I)) _ _ s
 exact ax ⟨_,rfl,"set_iterator",_,ty,j7.lookup,h⟩
theorem zPO {I a:ai}{ep:Nat}{c:Array (Int×ae)}{t:dA}(n:A.handled=none)(ne:a≠I)(l:t.fits c.size=true)(d:w.params.followText "set-order"=true) :
  Walks prog w A I [I,a] [I] c.size (fun i v=>((pickOrder (w.params.setOrder a ep) c).toList.map (·.2))[i]?=some v) (fun i h=>h.get? I=some (j8 (.int 0 0) i a c.size ep)/\h.get? a=some (uS c ep t)) where
 sub:=fun b d=>by simp at d;simp[d]
 frame:=fun _ _ _ st p=>⟨p I (by simp) _ st.1,p a (by simp) _ st.2⟩
 item:=fun i s Q E lt st g=>by
  have m:(pickOrder (w.params.setOrder a ep) c).size=c.size:=by rw[<-aZ,(zEW _ c).length_eq,aZ]
  have li:i<(pickOrder (w.params.setOrder a ep) c).size:=by rw[m];exact lt
  refine zBx (f:=0) (r:=some ((pickOrder (w.params.setOrder a ep) c)[i].2,0)) n st.1 st.2 l (fun A E Q q=>zIK st.2 l d (by rw[cw li];exact q)) (fun x j e h' e1 u=>?_) (fun e=>nomatch e)
  injection e with e
  injection e with y z
  subst y z
  refine g _ h' s.toks ?_ ⟨e1,(u.2 a ne).trans st.2⟩ fun b o d e=>(u.2 b (by simpa using d)).trans e
  rw[ar,dD,cw li];rfl
 done:=fun s Q E st g=>by
  have m:(pickOrder (w.params.setOrder a ep) c).size=c.size:=by rw[<-aZ,(zEW _ c).length_eq,aZ]
  refine zBx (f:=0) (r:=none) n st.1 st.2 l (fun A E Q q=>zIK st.2 l d (by rw[fK (by rw[m];exact aw _)];exact q)) (fun _ _ e=>nomatch e) (fun _ h' k=>?_)
  exact g h' s.toks fun b o d e=>k b o (by simpa using d) e
 self:=fun _ _ _ _ st g=>zEX st.1 g
theorem zPP {I a T:ai}{ep e1:Nat}{c:Array (Int×ae)}{t:dA}{pl:List Nat}(p:A.handled=none)(ne:a≠I)(nt:T≠I)(m:t.fits c.size=true)(hl:pl.length=c.size)(q:∀j∈pl,j<c.size) :
  Walks prog w A I [I,a,T] [I] c.size (fun i v=>(pl.map fun j=>(c.getD j (0,.none)).2)[i]?=some v) (fun i h=>h.get? I=some (j8 (.ref T) i a c.size ep)/\h.get? a=some (uS c ep t)/\h.get? T=some (seqObj "tuple" (pl.map fun(i:Nat)=>rawInt i).toArray e1)) where
 sub:=fun b d=>by simp at d;simp[d]
 frame:=fun _ _ _ st g=>⟨g I (by simp) _ st.1,g a (by simp) _ st.2.1,g T (by simp) _ st.2.2⟩
 item:=fun i s Q E lt st f=>by
  have li:i<pl.length:=by rw[hl];exact lt
  have n:pl[i]<c.size:=q _ (bE li)
  refine zPK (j:=pl[i]) (x:=c[pl[i]]) st.1 st.2.1 m st.2.2 (ao li) (cw n) fun h' r l=>?_
  refine f _ h' s.toks ?_ ⟨r,(l.2 a ne).trans st.2.1,(l.2 T nt).trans st.2.2⟩ fun b o d e=>(l.2 b (by simpa using d)).trans e
  rw[ar,ao li]
  simp[n]
 done:=fun s Q E st f=>zPL p st.1 st.2.1 m st.2.2 (lg (by rw[hl];exact aw _)) fun h' k=>f h' s.toks fun b o d e=>k b o (by simpa using d) e
 self:=fun _ _ _ _ st f=>zEX st.1 f
theorem zPQ (j:Nat):dB #[j] (j+1)=1:=by
 unfold dB
 simp[nE]
theorem zPR (j:Nat):dB #[j] 0=0:=by
 unfold dB
 simp[nE]
theorem zPS {I a:ai}{ep:Nat}{es:Array (Int×ae)}{t:dA}(hh:A.handled=none)(ne:a≠I)(hf:t.fits es.size=true)(hb:w.params.followText "set-order"=false)(hl:t.led=true)(h1:es.size<=1) :
  Walks prog w A I [I,a] [I] es.size (fun i v=>(es.toList.map (·.2))[i]?=some v) (fun i h=>h.get? I=some (j8 (.int ((if i=0 then 0 else t.place.getD 0 0+1:Nat):Int) 0) i a es.size ep)/\h.get? a=some (uS es ep t)) where
 sub:=fun b hb=>by simp at hb;simp[hb]
 frame:=fun _ _ _ st hk=>⟨hk I (by simp) _ st.1,hk a (by simp) _ st.2⟩
 item:=fun i s Q E lt st hQ=>by
  obtain rfl:i=0:=by omega
  have z1:es.size=1:=by omega
  have pz:t.place.size=1:=by
   simp only[p4,aY,beq_iff_eq]at hf
   rw[hf.1,z1]
  obtain⟨j,hj⟩ : ∃j,t.place= #[j] :=⟨t.place[0],by apply Array.ext<;>simp[pz];intro i hi;have : i=0 :=by omega
                                                   subst this;rfl⟩
  have li:0<es.size:=by omega
  refine zBx (f:=0) (r:=some (es[0].2,j+1)) hh st.1 st.2 hf (fun A E Q q=>zIL st.2 hf hb hl h1 (by rw[hj,zPR,cw li];exact q)) (fun x j' e h' e1 sb=>?_) (fun e=>nomatch e)
  injection e with e
  injection e with e2 e3
  subst e2 e3
  refine hQ _ h' s.toks ?_ ⟨?_,(sb.2 a ne).trans st.2⟩ fun b o hb e=>(sb.2 b (by simpa using hb)).trans e
  ·rw[ar,dD,cw li];rfl
  ·rw[e1,hj];rfl
 done:=fun s Q E st hQ=>by
  have nx:(match es[dB t.place (if es.size=0 then 0 else t.place.getD 0 0+1)]?,t.place[dB t.place (if es.size=0 then 0 else t.place.getD 0 0+1)]? with|some (_,x),some j=>some (x,j+1)|_,_=>(none:Option (ae×Nat)))=none:=by
   have hz:t.place.size=es.size:=by
    simp only[p4,aY,beq_iff_eq]at hf
    exact hf.1
   by_cases z:es.size=0
   ·have:es=#[]:=Array.size_eq_zero_iff.mp z
    subst this
    simp
   ·have z1:es.size=1:=by omega
    obtain⟨j,hj⟩ : ∃j,t.place= #[j] :=⟨t.place[0],by apply Array.ext<;>simp[hz,z1];intro i hi;have : i=0 :=by omega
                                                     subst this;rfl⟩
    rw[if_neg z,hj]
    have e4:(#[j]:Array Nat).getD 0 0=j:=rfl
    rw[e4,zPQ,fK (by rw[z1];exact aw _)]
  refine zBx (r:=none) hh st.1 st.2 hf (fun A E Q q=>zIL st.2 hf hb hl h1 (by rw[nx];exact q)) (fun _ _ e=>nomatch e) (fun _ h' k=>?_)
  exact hQ h' s.toks fun b o hb e=>k b o (by simpa using hb) e
 self:=fun _ _ _ _ st hQ=>zEX st.1 hQ
theorem zPT {a:ai}{c:Array (Int×ae)}{Q:ae->ak->Prop}(y:A.handled=none)(H:zAN prog w s.heap a c)
  (B:∀(I:ai) (g:ba) (d:Drawn) (ord:List ae) (fp:List ai) (St:Nat->ba->Prop),ord.Perm (c.toList.map (·.2))->Walks prog w A I fp [I] c.size (fun i v=>ord[i]?=some v) St->St 0 g->s.heap.objs.size<=I->(∀b∈fp,b=a\/s.heap.objs.size<=b)->
   (∀b∈fp,b<g.objs.size)->(∀b o,s.heap.get? b=some o->g.get? b=some o)->Q (.ref I) {s with heap:=g,drawn:=d}) :
  wpAny (model prog w) A (pyIter (.ref a)) Q E s:=by
 obtain⟨ep,t,h,J,C,l,q,D⟩:=id H
 have ty:s.TypeIs (.ref a) "set" :=⟨_,h,rfl⟩
 have x:a<s.heap.objs.size:=aC h
 refine fL ty lu (b5 lu ty zPJ ?_ (PySem.F.args_set_iter_1 _))
 unfold cc.«frozenset.__iter__» p8 p5
 refine ah (ah (m:=slotArgs "__iter__" 0 _) (ax (ax ?_)))
 refine ah (ah (eU h rfl l (ax ?_)))
 unfold setDrawn
 refine ah (ah (dJ h rfl l ?_))
 dsimp only
 refine ah (zBw (ax ?_))
 have G:c.size<=sizeLine:=fM C
 refine eY (fun hd=>?_) (fun hd=>?_)
 ·refine ah (zIM c.size (bP c.size) (by simp) fun d pl pm=>?_)
  have pl_len:pl.length=c.size:=by rw[pm.length_eq,cj]
  refine ah (lH ?_ (by rw[aj,pl_len];exact G))
  have r:(s.heap.push (seqObj "tuple" (pl.map fun(i:Nat)=>rawInt i).toArray 0)).get? a=some (uS c ep t):=ag _ h
  refine ah (nF r rfl l ?_)
  refine ah (c9 (ax ⟨_,rfl,"set_iterator",_,⟨_,ay _ rfl,rfl⟩,j7.lookup,B _ _ d _ _ _ ?pm (zPP (a:=a) (T:=s.heap.objs.size) (t:=t) (ep:=ep) (e1:=0) (pl:=pl) y ?ne ?nt l pl_len fun j L=>cU.mp (pm.mem_iff.mp L)) ?st ?ge ?fp ?lt ?kp⟩))
  case pm=>
   refine(pm.map _).trans ?_
   rw[show(bP c.size).map (fun j=>(c.getD j (0,Value.none)).2)=c.toList.map (·.2)from ?_]
   apply eQ
   ·simp
   ·intro i g M
    have hi:i<c.size:=by simpa using g
    simp[hi]
  case ne=>show a≠(s.heap.push _).objs.size;rw[bz];exact aM (bL x)
  case nt=>show s.heap.objs.size≠(s.heap.push _).objs.size;rw[bz];exact aM (bO _)
  case st=>exact⟨ay _ rfl,ag _ r,ag _ (ay _ rfl)⟩
  case ge=>show s.heap.objs.size<=(s.heap.push _).objs.size;rw[bz];exact fc _
  case fp=>
   intro b f
   simp only[aD,dv,or_false]at f
   rcases f with rfl|rfl|rfl
   ·right;show s.heap.objs.size<=(s.heap.push _).objs.size;rw[bz];exact fc _
   ·exact .inl rfl
   ·exact .inr (aw _)
  case lt=>
   intro b f
   simp only[aD,dv,or_false]at f
   rw[bz]
   rcases f with rfl|rfl|rfl
   ·exact bO _
   ·rw[bz];exact bL (bL x)
   ·rw[bz];exact bL (bO _)
  case kp=>exact fun b o e=>ag _ (ag _ e)
 ·refine ah (ax ?_)
  refine ah (nF h rfl l ?_)
  refine ah (c9 (ax ⟨_,rfl,"set_iterator",_,⟨_,ay _ rfl,rfl⟩,j7.lookup,?_⟩))
  have ne:a≠s.heap.objs.size:=aM x
  have u:∀b∈[s.heap.objs.size,a],b=a\/s.heap.objs.size<=b:=fun b f=>by
   simp only[aD,dv,or_false]at f
   rcases f with rfl|rfl
   ·exact .inr (aw _)
   ·exact .inl rfl
  have flt:∀(o:Obj),∀b∈[s.heap.objs.size,a],b<(s.heap.push o).objs.size:=fun o b f=>by
   simp only[aD,dv,or_false]at f
   rw[bz]
   rcases f with rfl|rfl
   ·exact bO _
   ·exact bL x
  by_cases f:w.params.followText "set-order"=true
  ·exact B _ _ s.drawn _ _ _ ((zEW _ c).map _) (zPO (a:=a) (ep:=ep) (t:=t) y ne l f) ⟨ay _ rfl,ag _ h⟩ (aw _) u (flt _) fun b o e=>ag _ e
  ·have n:w.params.followText "set-order"=false:=by simpa using f
   have g:c.size<=1:=by
    have p:¬(!w.params.followText "set-order"&& (!t.plain&&decide (c.size>1)))=true:=hd
    rw[n]at p
    rcases D with z|z
    ·omega
    ·rw[z]at p
     simpa using p
   have hl:t.led=true:=by rw[q,n];rfl
   exact B _ _ s.drawn _ _ _ (dX _) (zPS (a:=a) (ep:=ep) (t:=t) y ne l n hl g) ⟨ay _ rfl,ag _ h⟩ (aw _) u (flt _) fun b o e=>ag _ e
theorem zPU:typeLookup (.type "set") "__len__"=pure (some (.builtin "set.__len__")):=by rw[kl,fU];kernel_rfl
theorem zPV {r:ai}{Q:Bool->ak->Prop}(d:s.TypeIs (.ref r) "set")(h:Q false s):wpAny (model prog w) A (hZ (.ref r)) Q E s:=by
 unfold hZ
 refine ah (oh d zPU ?_)
 generalize c:("set.__len__" : String)=e
 wp_delta
 rw[show splitId e=some ("set","__len__")from by subst c;decide+kernel]
 subst c
 refine ah (jb (T :="set") (b:=true) d (by rw[fN];kernel_rfl) ?_)
 refine eY (fun a=>absurd a (by decide)) (fun _=>?_)
 refine eY (fun _=>?_) (fun a=>absurd (by decide+kernel) a)
 refine ah (wpAny_typeOf d ?_)
 exact ax h
theorem zPW {a:ai}{es:Array (Int×ae)}{R:List ae->ak->Prop}(hh:A.handled=none)(hS:zAN prog w s.heap a es)
  (h:∀h' tk d ord,ord.Perm (es.toList.map (·.2))->(∀b o,s.heap.get? b=some o->h'.get? b=some o)->R ord {s with heap:=h',toks:=tk,drawn:=d}) :
  wpAny (model prog w) A (collect (.ref a)) R E s:=by
 obtain⟨ep,t,ho,hel,hbd,hf,hled,hpl⟩:=id hS
 have la:a<s.heap.objs.size:=aC ho
 unfold collect
 refine ah (o6 (eD PySem.F.entry_proto_collect ?_))
 rw[dM PySem.F.plain_proto_collect _]
 show wpAny _ A.in1 (newList []>>=fun l=>again (.builtin "list.__iadd__" ⟨[l,.ref a],[]⟩)) _ _ s
 refine ah (c9 ?_)
 refine ax ⟨gh jg _,eD PySem.F.entry_list_iadd ?_⟩
 rw[dM jg _]
 show wpAny _ A.in1 (ia (.ref s.heap.objs.size) (.ref a) (.ref s.heap.objs.size)) _ _ _
 have ho1:(s.heap.push {cls:=.type "list",data:=.seq ([]:List ae).toArray}).get? a=some (uS es ep t):=ag _ ho
 have hS1:zAN prog w (s.heap.push {cls:=.type "list",data:=.seq ([]:List ae).toArray}) a es:=⟨ep,t,ho1,hel,hbd,hf,hled,hpl⟩
 have hL:(s.heap.push {cls:=.type "list",data:=.seq ([]:List ae).toArray}).get? s.heap.objs.size=some {cls:=.type "list",data:=.seq #[]}:=ay _ rfl
 unfold ia
 refine ah (wpAny_typeOf (T :="set") ⟨_,ho1,rfl⟩ ?_)
 have ne:s.heap.objs.size≠a:=dH la
 have q1:iX (.ref s.heap.objs.size) (.ref a)=false:=by simp[iX,ne]
 rw[if_neg (by rw[q1];decide)]
 refine ah (zPT (A:=A.in1) (s:={s with heap:=s.heap.push {cls:=.type "list",data:=.seq ([]:List ae).toArray}}) hh hS1 fun I h1 d ord fp St pm W st ge fpo flt kp=>?_)
 dsimp only at ge fpo kp
 rw[bz]at ge fpo
 have nf:s.heap.objs.size∉fp:=fun z=>by
  rcases fpo _ z with e|e
  ·exact ne e
  ·exact bw _ e
 have hn:es.size<=sizeLine:=fM hbd
 have ol:ord.length=es.size:=by rw[pm.length_eq,aj,aZ]
 have key:∀(g:ba) (c₁:Nat),St 0 g->(∀b o,b≠s.heap.objs.size->h1.get? b=some o->g.get? b=some o)->g.get? s.heap.objs.size=some {cls:=.type "list",data:=.seq #[] c₁}->
   codeAny (model prog w) A (.builtin "list.extend.loop" ⟨[.ref s.heap.objs.size,.ref I,.ref s.heap.objs.size],[]⟩) (fun q s'=>∃(h':ba) (tk:Nat) (acc:Array ae) (c':Nat),q=.ok (.ret (.ref s.heap.objs.size))/\s'={s with heap:=h',toks:=tk,drawn:=d}/\
    (∀b o,s.heap.get? b=some o->h'.get? b=some o)/\h'.get? s.heap.objs.size=some {cls:=.type "list",dict:=none,data:=.seq acc c',slots:=#[]}/\acc.toList=ord) {s with heap:=g,drawn:=d}:=by
  intro g c₁ hst hk hg
  refine codeAny_extend_loopS W.toS hn _ nf _ es.size 0 _ #[] c₁ rfl (bh _) hst hg (ItemsOf.nil _) fun s' acc' c' hm hS' hacc=>?_
  have e1:acc'.toList=ord:=by
   apply eQ
   ·rw[aZ,hacc.1,ol]
   ·intro i i1 i2
    have:ord[i]?=some (acc'[i]'(by simpa using i1)):=hacc.2 i _ (cw (by simpa using i1))
    rw[ao i2]at this
    injection this with this
    simpa using this.symm
  refine⟨s'.heap,s'.toks,acc',c',rfl,pW hm,fun b o e=>?_,hS',e1⟩
  have nb:b≠s.heap.objs.size:=aM (aC e)
  refine hm.heap b o (fun z=>?_) (hk b o nb (kp b o (ag _ e)))
  rcases aD.mp z with e'|z
  ·exact nb e'
  ·rw[bF.mp z]at e
   exact absurd (aC e) (rC.mpr (Nat.le_of_succ_le ge))
 have fin : ∀(q : Result) (s' : Shared),(∃(h' : Heap) (tk : Nat) (acc : Array Value) (c' : Nat),q= .ok (.ret (.ref s.heap.objs.size))/\s'={s with heap :=h',toks :=tk,drawn :=d}/\
       (∀b o,s.heap.get? b=some o->h'.get? b=some o)/\h'.get? s.heap.objs.size=some {cls:=.type "list",dict:=none,data:=.seq acc c',slots:=#[]}/\acc.toList=ord)->
   q=.ok (.ret (.ref s.heap.objs.size))/\wpAny (model prog w) A (load s.heap.objs.size>>=fun o=>match o.data with| .seq xs _=>pure xs.toList|_=>unsupported "internal:collect") R E s':=by
  rintro q s' ⟨h',tk,acc,c',rfl,rfl,kk,hg,e1⟩
  refine⟨rfl,ah (wpAny_load hg ?_)⟩
  show wpAny _ _ (pure acc.toList) _ _ _
  rw[e1]
  exact ax (h h' tk d ord pm kk)
 have hL1:=kp _ _ hL
 have hoa:=kp _ _ ho1
 refine ah (dP (zPV (s:={s with heap:=h1,drawn:=d}) ⟨_,hoa,rfl⟩ ?_))
 refine eY (fun _=>?_) (fun _=>ax ⟨gh iG _,dI (key h1 _ st (fun b o _ e=>e) hL1) fun q s' y=>?_⟩)
 ·refine ah (oZ ?_)
  refine ah ?_
  show wpAny _ _ (updateSeq s.heap.objs.size (·.push .none)>>=fun _=>updateSeq s.heap.objs.size (·.pop)) _ _ _
  refine ah (oy hL1 rfl ?_)
  have hL2:=fT (cF (·.push Value.none)) hL1 rfl
  refine oy (hz:=by seq_fits) hL2 rfl ?_
  have hL3:=fT (cF (·.pop)) hL2 rfl
  refine ax ⟨gh iG _,dI (key _ _ ?_ (fun b o hb e=>?_) hL3) fun q s' y=>?_⟩
  ·refine W.frame 0 _ _ st fun b hb o e=>?_
   have hbS:b≠s.heap.objs.size:=fun z=>nf (z▸hb)
   exact(bV _ _ (dC hbS)).trans ((bV _ _ (dC hbS)).trans e)
  ·exact(bV _ _ (dC hb)).trans ((bV _ _ (dC hb)).trans e)
  ·obtain⟨rfl,y2⟩:=fin q s' y
   exact y2
 ·obtain⟨rfl,y2⟩:=fin q s' y
  exact y2
end
section
open MyS PySem.W
variable{X:Cx}{pins:List (ai×Obj)}{σ:List (Option V)}{H:Hp}{s:ak}
theorem Inv.draw {h':ba}{tk:Nat}{d:Drawn}(I:Inv X pins σ H {s with heap:=h',toks:=tk}):Inv X pins σ H {s with heap:=h',toks:=tk,drawn:=d} :=
 ⟨I.ok,I.os,I.bare,I.base,I.loc,I.cell,I.free,I.freeC,I.pin,I.hok,I.len⟩
theorem Inv.grown {h':ba}{tk:Nat}(I:Inv X pins σ H s)(k:∀b u,s.heap.get? b=some u->h'.get? b=some u):Inv X pins σ H {s with heap:=h',toks:=tk} :=
 I.un (Un.kept k) (I.hok.kept k)
theorem zPX (W:X.calm=true){a:ai}{ks:List Str}{Q:VK}(I:Inv X pins σ H s)(D:qZ X.prog X.w s.heap a ks)(Y:ks.length<64)
  (q:∀(f:List Str) (l:ai),(∀x,x∈f↔x∈ks)->f.Pairwise (fun a b=>a.cps.toList<b.cps.toList)->H l=none->Q (.ref l) (upd H l (.lst (f.map V.str)))) :
  wpAny (model X.prog X.w) X.A (call (.builtin "sorted") [.ref a]) (EP X pins σ Q) X.xe s:=by
 obtain⟨N,O,nd,mem,sz⟩:=D
 refine iF kind_sorted plain_sorted entry_sorted (args_sorted1 _) ?_
 unfold cc.«sorted»
 refine ah (m:=checkCount "sorted" 1 1 _) (ax ?_)
 refine ah (zPW (A:=X.A.in1) (I.ok.hd W) O fun h' tk d ord pm Z=>?_)
 have P:Inv X pins σ H {s with heap:=h',toks:=tk,drawn:=d}:=(I.grown Z).draw
 obtain⟨ep,t,ho,E,_⟩:=O
 have c:∀v∈ord,∃x u,v=Value.str x u:=fun v F=>by
  obtain⟨e,he,rfl⟩:=aG.mp (pm.mem_iff.mp F)
  obtain⟨⟨k,G,_⟩,_⟩:=E e he
  obtain⟨u,R⟩:=dm G
  exact⟨k,u,R⟩
 have D:oB ord (ord.map v9):=by
  have go:∀l:List ae,(∀v∈l,∃x u,v=Value.str x u)->oB l (l.map v9):=by
   intro l
   induction l with
   |nil=>intro _;exact .nil
   |cons v l ih=>
    intro hl
    obtain⟨x,u,rfl⟩:=hl v (aq ..)
    exact .cons _ _ (ih fun v F=>hl v (az _ F))
  exact go ord c
 have pt:(ord.map v9).Perm (qO N):=by
  have:=pm.map v9
  rw[aV]at this
  exact this
 have J:(ord.map v9).Nodup:=pt.nodup_iff.mpr nd
 have ol:ord.length=N.size:=by rw[pm.length_eq,aj,aZ]
 have h:ord.length<64:=by omega
 refine ah (me ?_ (by rw[bg];omega))
 dsimp only
 generalize C:h'.objs.size=B
 have n:(h'.push {cls:=.type "list",data:=.seq ord.toArray}).get? B=some (seqObj "list" ord.toArray 0):=by
  rw[<-C];exact ay _ rfl
 have old:∀b o,h'.get? b=some o->(h'.push {cls:=.type "list",data:=.seq ord.toArray}).get? b=some o/\b≠B:=fun b o e=>⟨ag _ e,by rw[<-C];exact aM (aC e)⟩
 refine ah (dP (b5 oS ⟨_,n,rfl⟩ om (sort_strs (ks:=ord.map v9) n D J h fun p T R g r L M=>⟨_,rfl,?_⟩) (oT _)))
 refine ax ⟨_,rfl,?_⟩
 have y:∀b o,h'.get? b=some o->T.get? b=some o:=fun b o e=>L b o (old _ _ e).2 (old _ _ e).1
 refine⟨.ref B,_,P.laid (t':=tk) (o:=.lst ((p.map fun i=>(ord.map v9).getD i ⟨#[]⟩).map V.str)) y (d5 C) ⟨?_,_,_,?_,M⟩,rfl,q _ B ?_ ?_ (P.hok.fresh (d5 C))⟩
 ·rw[aj,aj,g.length_eq,cj,bg];omega
 ·have go:∀l:List Nat,(∀i∈l,i<ord.length)->zK ((l.map fun i=>(ord.map v9).getD i ⟨#[]⟩).map V.str) (l.map fun i=>ord.getD i Value.none):=by
   intro l
   induction l with
   |nil=>intro _;exact .nil
   |cons i l ih=>
    intro z
    have hi:i<ord.length:=z i (aq ..)
    refine .cons ?_ (ih fun j hj=>z j (az _ hj))
    obtain⟨x,u,e⟩:=c ord[i] (bE hi)
    have a1:ord.getD i Value.none=Value.str x u:=by simp[hi,e]
    have a2:(ord.map v9).getD i ⟨#[]⟩=x:=by simp[hi,e,v9]
    show zP (V.str ((ord.map v9).getD i ⟨#[]⟩)) (ord.getD i Value.none)
    rw[a1,a2]
    exact⟨_,rfl⟩
  exact go p fun i hi=>cU.mp (g.mem_iff.mp hi)
 ·intro x
  have e1:(bP ord.length).map (fun i=>(ord.map v9).getD i (⟨#[]⟩:Str))=ord.map v9:=by
   apply eQ
   ·simp
   ·intro i h1 T
    have hi:i<ord.length:=by simpa using h1
    simp[hi]
  have U:=g.map (fun i=>(ord.map v9).getD i (⟨#[]⟩:Str))
  rw[e1]at U
  rw[U.mem_iff,pt.mem_iff]
  exact mem x
 ·rw[cg]
  rw[cg]at r
  exact r
end
open MyS PySem.W
section
variable{prog:aB}{w:aL}{A:bJ}{E:ae->ak->Prop}{s:ak}
theorem zPY:isSubtype (.type "list") (.type "set")=pure false:=by
 rw[fN];kernel_rfl
theorem zPZ:isSubtype (.type "list") (.type "frozenset")=pure false:=by
 rw[fN];kernel_rfl
theorem zPa {F:bJ}{R:oK->ak->Prop}{l:ai}{items:Array ae}{ks:List Str}(G:A.handled=none)(hl:s.heap.IsList l items)(d:items.size=ks.length)(H:∀i v,items[i]?=some v->cD (ks.getD i ⟨#[]⟩) v=true)(m:ks.length+1<scanBound)
  (I:∀h' tk,qZ prog w h' s.heap.objs.size ks->(∀b o,b<s.heap.objs.size->s.heap.get? b=some o->h'.get? b=some o)->R (.ok (.ret .none)) {s with heap:=h',toks:=tk}) :
  wpAny (model prog w) A (cc.«set.__init__» ⟨[.ref s.heap.objs.size,.ref l],[]⟩) (fun fin s'=>match fin with| .done f=>R (.ok f) s'| .again y=>y.quiet=true/\codeAny (model prog w) F y R s') (fun e s'=>R (.error e) s') {s with heap:=s.heap.push (qB w)}:=by
 have new:(s.heap.push (qB w)).get? s.heap.objs.size=some (qB w):=ay _ rfl
 have ty:mh {s with heap:=s.heap.push (qB w)} (.ref s.heap.objs.size) "set" :=⟨_,new,rfl⟩
 obtain⟨ol,g,h,nl,j⟩:=id hl
 obtain⟨z,c,p,a⟩:=ol
 simp only at h j
 subst h;subst j
 have old:(s.heap.push (qB w)).get? l=some {cls:=.type "list",dict:=c,data:=.seq items nl,slots:=a}:=ag _ g
 have O:=zPY
 have P:=zPZ
 have Q:(Value.type "list"==Value.type "dict")=false:=by decide
 have B:(s.heap.push (qB w)).IsList l items:=⟨_,old,rfl,nl,rfl⟩
 unfold cc.«set.__init__» noKeywords oz
 generalize q:pyIter=PI
 wp_walk
 subst q
 refine fq B (ah (o6 ?_))
 have C:l<s.heap.objs.size:=aC g
 have J:A.in1.handled=none:=by simp[G]
 have ne:l≠(s.heap.push (qB w)).objs.size:=by
  rw[bz]
  exact aM (bL C)
 have L:s.heap.objs.size∉ [(s.heap.push (qB w)).objs.size,l]:=by
  rw[bz]
  simp only[aD,bF,dv,or_false,not_or]
  exact⟨aM (bO _),dH C⟩
 have D:=(oR (prog:=prog) (w:=w) (A:=A.in1) J _ l ne items).toS
 rw[d]at D
 refine zPE D s.heap.objs.size L H m (ks.length-0) 0 _ (by omega) (bh _) ?st0 ?x0 fun s' n x=>?_
 case st0=>exact⟨⟨_,ay _ rfl,rfl,rfl⟩,B.push _⟩
 case x0=>exact zPF prog w (ag _ new)
 obtain⟨h',g',d',r,u⟩:=s'
 obtain rfl:g'=s.gens:=n.gens
 obtain rfl:d'=s.drawn:=n.drawn
 obtain rfl:u=s.os:=n.os
 refine ax ?_
 refine ax (I h' r x fun b o m e=>?_)
 have M:b≠s.heap.objs.size:=aM m
 have N:b≠(s.heap.push (qB w)).objs.size:=by
  rw[bz]
  exact aM (bL m)
 refine n.heap b o ?_ (ag _ (ag _ e))
 simp only[aD,bF,dv,or_false,not_or]
 exact⟨M,N⟩
theorem zPb {l:ai}{items:Array ae}{ks:List Str}{Q:ae->ak->Prop}(j:A.handled=none)(hl:s.heap.IsList l items)(d:items.size=ks.length)(m:∀i v,items[i]?=some v->cD (ks.getD i ⟨#[]⟩) v=true)(n:ks.length+1<scanBound)
  (h:∀h' tk,qZ prog w h' s.heap.objs.size ks->(∀b o,b<s.heap.objs.size->s.heap.get? b=some o->h'.get? b=some o)->Q (.ref s.heap.objs.size) {s with heap:=h',toks:=tk}) :
  wpAny (model prog w) A (call (.type "set") [.ref l]) Q E s:=by
 obtain⟨y,p,z⟩:=eu.mro
 have m1:=eu.made
 have m2:=eu.sub
 refine oM (ou (?_:wpAny _ _ (callAny (.type "set") _) _ _ _))
 refine ax (And.intro (Code.quiet_builtin _ (by decide+kernel)) (eD F.entry_type_call ?_))
 rw[Around.under_plain (weight_type_call_type "set" [Value.ref l] []) rfl]
 have B:=eu.notType
 have C:=eu.canCreate
 have D:=F.typeCall_set_1 (.ref l)
 all_goals (repeat(any_goals (first|assumption|wp_step)))
 refine dI (zPG (w:=w) (.ref l) (E:=E) (Q₁:=fun v f=>v=.ref s.heap.objs.size/\f={s with heap:=s.heap.push (qB w)}) ⟨rfl,rfl⟩) fun r f c=>?_
 match r,c with
 | .error e,c=>exact c
 | .ok (.ret v),c=>
  obtain⟨rfl,rfl⟩:=c
  have ty:mh {s with heap:=s.heap.push (qB w)} (.ref s.heap.objs.size) "set" :=⟨_,ay _ rfl,rfl⟩
  have G:=eu.init.lookup
  have H:=eu.init.bind (.ref s.heap.objs.size)
  all_goals (repeat(any_goals (first|assumption|wp_step)))
  refine dI (codeAny_call_builtin (R:=wants (fun q g=>q=.none/\∃h' tk,g={s with heap:=h',toks:=tk}/\qZ prog w h' s.heap.objs.size ks/\∀b o,b<s.heap.objs.size->s.heap.get? b=some o->h'.get? b=some o) E)
   eu.init.plain F.entry_set_init (check_set_init_1 ty (zPa (by simp[j]) hl d m n fun h' tk x k=>⟨rfl,h',tk,rfl,x,k⟩))) fun u g a=>?_
  match u,a with
  | .error e,a=>exact a
  | .ok (.ret q),a=>
   obtain⟨rfl,h',tk,rfl,x,k⟩:=a
   all_goals (repeat(any_goals (first|assumption|wp_step)))
   exact h _ _ x k
  | .ok .next,a=>exact a.elim
  | .ok .brk,a=>exact a.elim
  | .ok .cont,a=>exact a.elim
 | .ok .next,c=>exact c.elim
 | .ok .brk,c=>exact c.elim
 | .ok .cont,c=>exact c.elim
end
theorem zIN {α:Type} [DecidableEq α]:∀(l L:List α),l.Nodup->(∀x∈l,x∈L)->l.length<=L.length
 | [],L,_,_=>bh _
 |x::l,L,b,c=>by
  have d:=c x (aq ..)
  have f:=zIN l (L.erase x) (bI.mp b).2 fun y e=>by
   have a:y≠x:=fun z=>(bI.mp b).1 (by rw[<-z];exact e)
   exact(lL a).mpr (c y (az _ e))
  rw[iV d]at f
  have:=jx d
  rw[aO];omega
end L2
end
section
namespace L2
open PySem
section
variable{X:Cx}
def zEY (K:aa)(x:V)(H:Hp)(Q:VK):Prop:=∃(p:ai) (ks:List Str),x=.ref p/\z7 K H p (ks.map V.str)/\ks.length<64/\
 ∀(out:List Str) (l:ai),(∀x,x∈out↔x∈ks)->out.Pairwise (fun a b=>a.cps.toList<b.cps.toList)->H l=none->Q (.ref l) (upd H l (.lst (out.map V.str)))
def zPc (K:aa)(t:TE):TE:=fun σ H Q=>t σ H fun x H1=>zEY K x H1 Q
theorem zPd {x y:Str}{e:bD}{te:TE}{p n pos c:Pos}(J:X.calm=true)(he:PE X e te)(O:Gl X x)(P:X.mg x=none)(o:bootBuiltins x=some (.builtin "sorted"))(w:Gl X y)(z:X.mg y=none)(B:bootBuiltins y=some (.type "set"))
  (R:x≠"__name__" :=by decide) (C:(x==("__debug__" : Str))=false:=by decide) (D:y≠"__name__" :=by decide) (g:(y==("__debug__" : Str))=false:=by decide)
  (L:starEach [e] X.env=(false,eval e X.env)::starEach [] X.env:=by rfl)
  (j:starEach [Expr.Call (.Name y n) [e] [] c] X.env=(false,eval (Expr.Call (.Name y n) [e] [] c) X.env)::starEach [] X.env:=by rfl) :
  PE X (.Call (.Name x p) [.Call (.Name y n) [e] [] c] [] pos) (zPc X.K te):=by
 intro l s σ H Q I h
 refine dw (kA I O P o ?_ R C)
 refine fX ?_ j rfl
 rw[j]
 show wpAny _ _ (spliced ((false,eval (Expr.Call (.Name y n) [e] [] c) X.env)::backTo pos (starEach [] X.env))) _ _ s
 refine d6 ?_
 refine dw (kA I w z B ?_ D g)
 refine cJ (zG (zA he zC L c l s σ H (fun xs E=>match xs with| [x]=>zEY X.K x E Q|_=>False) I ?_) fun us Z ⟨vs,E,M,T,d⟩=>?_) L rfl
 ·exact h
 ·obtain⟨x,rfl,d⟩:∃x,vs=[x]/\zEY X.K x E Q:=by
   match vs,d with
   | [x],d=>exact⟨x,rfl,d⟩
   | [],d=>exact d.elim
   |_::_::_,d=>exact d.elim
  obtain⟨a,ks,rfl,F,G,q⟩:=d
  obtain⟨u,rfl,U⟩:=jD T
  cases U
  obtain⟨m,N,W,_⟩:=M.list F
  have f:m.toArray.size=ks.length:=by have:=N.length;simp at this;simp[this]
  refine zPb (A:=X.A) (I.ok.hd J) W.isList f (fun i v o=>?_) (by unfold scanBound;omega) fun h' tk sk k=>?_
  ·have hi:i<ks.length:=by
    rw[<-f]
    exact(Array.getElem?_eq_some_iff.mp o).1
   obtain⟨u,e1,Y⟩:=N.get (i:=i) (x:=.str (ks.getD i ⟨#[]⟩)) (by rw[ar];simp[hi])
   have r:m[i]?=some v:=by simpa using o
   rw[e1]at r
   injection r with r
   subst r
   obtain⟨t,rfl⟩:=Y
   simp[cD]
  ·refine fz ?_
   exact zPX J (M.grown (tk:=tk) fun b u e=>k b u (aC e) e) sk G q
end
end L2
end
section
namespace L2
open PySem PySem.Spec PyProof.Rows
section
variable{X:Cx}
theorem zPe (a b:Str)(t u:Tok):qh (.str a t) (.str b u) (a==b):=fun prog w A E s Q h=>mB a t b u prog w _ _ h
def zEZ (b:Str):ae->Bool
 | .str x _=>x==b
 |_=>false
theorem zPf {a:List Str}:∀{us:List ae},zK (a.map V.str) us->us.length=a.length/\∀(i:Nat) (z:Str),a[i]?=some z->∃t,us[i]?=some (Value.str z t):=by
 induction a with
 |nil=>intro us h;cases h;exact⟨rfl,fun i z h=>by simp at h⟩
 |cons s a ih=>
  intro us h
  cases h with
  |cons b c=>
   obtain⟨t,rfl⟩:=b
   obtain⟨e1,d⟩:=ih c
   refine⟨by rw[aO,aO,e1],fun i z h=>?_⟩
   cases i with
   |zero=>cases(au h:s=z);exact⟨t,rfl⟩
   |succ i=>exact d i z h
theorem zPg:MtM X "list.index" (fun x vs H Q=>∃(l:ai) (bs:List Str) (b:Str) (j:Nat),x=.ref l/\vs=[.str b]/\H l=some (.lst (bs.map V.str))/\bs[j]?=some b/\(∀i,i<j->bs[i]?≠some b)/\j<1000/\Q (.int (j:Nat)) H):=by
 intro L s σ H x vs v us Q I N O h
 obtain⟨l,bs,b,j,rfl,rfl,P,M,A,hz,q⟩:=h
 cases N
 obtain⟨u,rfl,R⟩:=O.one
 obtain⟨Y,rfl⟩:=R
 obtain⟨z,c,n,r,hl,e⟩:=I.lstM P
 obtain⟨f,a⟩:=zPf r
 have B:j<bs.length:=(af.mp M).1
 obtain⟨Z,g⟩:=a j b M
 refine iu jh ⟨_,e,rfl⟩ PySem.F.entry_list_index (PySem.F.args_list_index_2 _ _) (MeetsSeq.list_index l _ n _ (zEZ b) (fun y T=>?_) j (by simpa [f]using B) (by omega) ?_ (fun m U C=>?_)) ⟨e,?_⟩
 ·have D:y∈c:=by simpa using T
  obtain⟨i,hi,e1⟩:=List.mem_iff_getElem.mp D
  have E:i<bs.length:=by omega
  obtain⟨ti,o⟩:=a i bs[i] (ao E)
  rw[ao hi]at o
  have d:=au o
  rw[e1]at d
  subst d
  exact zPe _ _ _ _
 ·have G:j<c.length:=by omega
  rw[ao G]at g
  have d:=au g
  simp[zEZ,d]
 ·have J:m<c.length:=by simpa using U
  have p:m<bs.length:=by omega
  obtain⟨tm,w⟩:=a m bs[m] (ao p)
  rw[ao J]at w
  have d:=au w
  have:=A m C
  rw[ao p]at this
  have W:bs[m]≠b:=fun z=>this (by rw[z])
  simp[zEZ,d,W]
 ·exact⟨.int (j:Nat),H,I.tok _,⟨_,rfl⟩,q⟩
end
end L2
end
section
namespace Kn.Ln
open PySem L2 Kn
theorem zEa {t u:TS}{D:Ends}{σ:St}{H:Hp}(R:St->Hp->Prop)(b:∀a H',R a H'->u D a H')(c:∀N:St->Hp->Prop,(∀a H',R a H'->N a H')->t {D with nx:=N} σ H):zCF t u D σ H:=c (u D) b
theorem gnR {i:Nat}{v:V}{σ:St}{H:Hp}{Q:St->Hp->Prop}(h:Q (σ.set i (some v)) H):zAu i v σ H Q:=h
section
variable{K:aa}{H:Hp}
def vU (L:List S):List bN:=L.map fun x=>PyData.str (tx x)
theorem zEb:∀(L:List S),Reps K H (vU L) (zE L)
 | []=>rfl
 |x::L=>⟨_,_,rfl,rfl,zEb L⟩
theorem zIO {b:ai}{L:List S}(h:H b=some (.tup (zE L))):yZ K H (.tuple (vU L)) (.ref b):=⟨b,_,rfl,.of h,zEb L⟩
theorem j9 {b:ai}{L:List S}(h:H b=some (.lst (zE L))):yZ K H (.list (vU L)) (.ref b):=⟨b,_,rfl,.of h,zEb L⟩
theorem shL {L:List S}(h:∀x∈L,yE x):cX (.list (vU L))=true/\(PyData.list (vU L)).canLay0=true:=zGu fun d hd=>by
 obtain⟨x,a,rfl⟩:=aG.mp hd
 exact⟨zMY fun c b=>((h x a).2.2 c b).2,by show 0<=10;decide⟩
theorem shT {L:List S}(h:∀x∈L,yE x):cX (.tuple (vU L))=true/\(PyData.tuple (vU L)).canLay0=true:=by
 obtain⟨a,b⟩:=shL h
 unfold cX at a⊢
 simp only[dz,hV]at a b⊢
 exact⟨a,b⟩
theorem zEc (L:List S):dO (.list (vU L)) (.list [])=L.isEmpty:=by cases L<;>rfl
end
theorem uZ (L:List S):(zE L).length=L.length:=by unfold zE;rw[aj]
theorem zIP (L:List S)(x:S):zE (L++[x])=zE L++[sv x]:=by unfold zE;rw[aJ];rfl
theorem zEd {L:List S}{i:Nat}{x:S}(h:L[i]?=some x):u0 (zE L) (i:Int)=some (sv x):=kX (by unfold zE;rw[ar,h];rfl)
def uI:List S:=[[116],[116,97],[117],[118]]
theorem zPh:[V.str "t",V.str "ta",V.str "u",V.str "v"]=zE uI:=rfl
theorem zBy:∀t∈uI,yE t:=by
 intro t a
 unfold uI at a
 simp only[aD,dv,or_false]at a
 rcases a with rfl|rfl|rfl|rfl<;>exact⟨by decide,by decide,by decide⟩
def qC (kvs:List (S×zY)):Prop:=∀q∈kvs,q.1∈uI/\isBk q.2.2/\∀x∈q.2.2,x.length<=3
theorem qC.len {kvs:List (S×zY)}(h:qC kvs)(nd:(kvs.map (·.1)).Nodup):kvs.length<=4:=by
 have:=zIN (kvs.map (·.1)) uI nd fun x a=>by
  obtain⟨q,b,rfl⟩:=aG.mp a
  exact(h q b).1
 rw[aj]at this
 exact this
theorem qC.put {kvs:List (S×zY)}(h:qC kvs)(nd:(kvs.map (·.1)).Nodup){t:S}{v:zY}(a:t∈uI)(b:isBk v.2)(c:∀x∈v.2,x.length<=3):qC (zQ kvs t v):=fun q d=>by
 rcases(zAk nd q).mp d with rfl|⟨z,_⟩
 ·exact⟨a,b,c⟩
 ·exact h q z
theorem qC.del {kvs:List (S×zY)}(h:qC kvs)(t:S):qC (jS kvs t):=fun q a=>h q (bH.mp a).1
theorem qC.tt {kvs:List (S×zY)}(h:qC kvs){ts:List S}(it:v1 kvs ts){t:S}(a:t∈ts):t∈uI:=by
 obtain⟨q,b,rfl⟩:=aG.mp (it.1.mem_iff.mp a)
 exact(h q b).1
theorem zPi {kvs:List (S×zY)}{ts:List S}(it:v1 kvs ts)(t:S):(zL kvs t).isSome=decide (t∈ts):=by
 rw[dG,decide_eq_true_eq,it.1.mem_iff]
 cases e:zL kvs t with
 |none=>simp only[Option.isSome_none,e7,false_iff];exact gF.mp e
 |some v=>
  simp only[mC,true_iff]
  exact iH fun z=>by rw[gF.mpr z]at e;cases e
section
variable{P:aB}{w:aL}{K:aa}{mg:Str->Option ae}{base:ba}
structure StepC (P:aB) (w:aL) (K:aa) (mg:Str->Option ae) (base:ba) (C:ai):Prop where
 dr:zN P w K mg base 2 "_law_drawn" ["_law_script","_law_k","_law_many"] (zBd K)
 nm:zN P w K mg base 3 "_law_name" ["_law_script","_law_at","_law_most"] (zDR K)
 bk:zN P w K mg base 4 "_law_book" ["_law_script","_law_at","_law_many","_law_most"] (zGr K)
 ti:yM P w K mg base C 1 "titles" ["self"] (zAL C)
 bo:yM P w K mg base C 3 "book" ["self","title"] (zEJ C)
 dp:yM P w K mg base C 3 "drop" ["self","title"] (zEE C)
 he:yM P w K mg base C 4 "hear" ["self","title","name"] (zEG C)
 kp:yM P w K mg base C 4 "keep" ["self","title","book"] (zEC C)
abbrev zEe:bY:=top 57
theorem zIQ:FnScope ["_law_script","_law_at","_law_ledger","_law_way","_law_titles","_law_title"] ["_law_script","_law_at","_law_ledger"] (defScope zEe):=zX
def zIR (K:aa)(C:ai):Sp:=fun vs H Q _=>∃(a k dx d dn un:ai) (ns:List Int) (at' o:Nat) (kvs:List (S×zY)) (ds:List V),vs=[.ref a,.int at',.ref k]/\z7 K H a (ns.map V.int)/\ns.length<=63/\LgAt H C k dx d dn un o kvs ds/\qC kvs/\ds.length<=100/\
 ∀d' un' kvs' y H',yN k dn H H'->LgAt H' C k dx d' dn un' o kvs' (ds++[y])->qC kvs'->Q (.bl true) H'
theorem zPj {f C:ai}{fd:aE}(F:Fun K "_law_step" "_law_step" zEe f fd)(B:Blt mg)(Z:StepC P w K mg base C):FnOk P w K mg base zR 5 f fd ["_law_script","_law_at","_law_ledger"] (zIR K C):=by
 refine F.ok zIQ (fun vs H Q E h=>?_) (fun cdv A outer s H vs Q E hr h=>?_)
 ·obtain⟨a,k,dx,d,dn,un,ns,at',o,kvs,ds,rfl,_⟩:=h;rfl
 ·obtain⟨a,k,dx,d,dn,un,ns,at',o,kvs,ds,rfl,ha,hl,g,gd,hdl,kQ⟩:=h
  have nd:=zIQ.nd
  have hu:=hr.units
  have r3:=hr.mono (j:=3) (by decide)
  have r2:=hr.mono (j:=2) (by decide)
  have r1:=hr.mono (j:=1) (by decide)
  refine⟨_,zH (zZ (i:=3) nd rfl (Or.inl rfl) (zM Z.dr r2 rfl (zA (pv 0) (zA (pv 1) (zA zO zC)))))
   (zH (zZ (i:=4) nd rfl (Or.inl rfl) (gO Z.ti r1 (pv 2)))
   (zH (zZ (i:=5) nd rfl (Or.inl rfl) (yS u5 (uM (zA vW (zA vW (zA vW (zA vW zC))))) (zM Z.dr r2 rfl (zA (pv 0) (zA (zT vA (pv 1) zO) (zA zO zC)))) (fun _ _=>rfl)))
   (zH (yR (PW.pt (zCC (vN zAz (pv 3) zO (vB _)) (zCB (vN (gD hu) (pv 4) (uM zC) (vB _)))))
    (zH (zZ (i:=5) nd rfl (Or.inl rfl) (yS u5 (pv 4) (zM Z.dr r2 rfl (zA (pv 0) (zA (zT vA (pv 1) zO) (zA (yF qK (by rfl) B.len bQ (zA (pv 4) zC)) zC)))) (fun _ _=>rfl)))
    (zJ (zS (jC (zBK hu) (vT Z.bo r3 (pv 2) (zA (pv 5) zC)) (vT Z.dp r3 (pv 2) (zA (pv 5) zC)) (vB _))))) yQ)
   (zH (yR (PW.pt (zCC (vN zAz (pv 3) zO (vB _)) (zCB (vN (gD hu) (pv 4) (uM zC) (vB _)))))
    (zH (zZ (i:=5) nd rfl (Or.inl rfl) (yS u5 (pv 4) (zM Z.dr r2 rfl (zA (pv 0) (zA (zT vA (pv 1) zO) (zA (yF qK (by rfl) B.len bQ (zA (pv 4) zC)) zC)))) (fun _ _=>rfl)))
    (zJ (yR (vN zCL (yF qK (by rfl) B.len bQ (zA (vT Z.bo r3 (pv 2) (zA (pv 5) zC)) zC)) zO (vB _))
     (zJ (zS (jC zAz (vT Z.he hr (pv 2) (zA (pv 5) (zA (zM Z.nm r3 rfl (zA (pv 0) (zA (zT vA (pv 1) zO) (zA zO zC)))) zC))) (yF qK (by rfl) B.len bQ (zA (vT Z.bo r3 (pv 2) (zA (pv 5) zC)) zC)) (vB _)))) yQ))) yQ)
   (zJ (zS (jC zAz (vT Z.kp hr (pv 2) (zA (pv 5) (zA (zM Z.bk hr rfl (zA (pv 0) (zA (zT vA (pv 1) zO) (zA zO (zA zO zC))))) zC))) (jC zFQ (pv 5) (pv 4) (by with_unfolding_all rfl)) (vB _)))))))),?_⟩
  have k4:=gd.len g.nd
  refine⟨_,rfl,_,rfl,a,ns,at',4,rfl,ha,hl,by decide,by decide,fun wy H1 hw s1=>?_⟩
  have g1:=g.same s1
  refine⟨_,rfl,k,dx,_,rfl,g1.ins,rfl,k,dx,d,dn,un,o,kvs,ds,rfl,g1,by omega,fun l ts hp hs hn=>?_⟩
  have it:v1 kvs ts:=⟨hp,hs⟩
  have tl:ts.length=kvs.length:=by rw[hp.length_eq,aj]
  have lk:l≠k:=zBt hn g1.ins
  have ld:l≠dn:=zBt hn g1.don
  have s2':zB H1 (upd H1 l (.lst (zE ts))):=zB.upd1 hn
  have l2:upd H1 l (.lst (zE ts)) l=some (.lst (zE ts)):=zI
  generalize upd H1 l (.lst (zE ts))=H2 at s2' l2
  have s2:=s1.trans s2'
  have g2:=g.same s2
  have a2:=s2.seq ha
  clear s2' s1 g1 hn hp hs
  refine⟨by show 4<=sizeLine;decide,fun l4 h4=>?_⟩
  rw[zPh]
  have s3:zB H2 (upd H2 l4 (.lst (zE uI))):=zB.upd1 h4
  have m3:upd H2 l4 (.lst (zE uI)) l4=some (.lst (zE uI)):=zI
  generalize upd H2 l4 (.lst (zE uI))=H3 at s3 m3
  refine⟨_,rfl,_,rfl,_,_,rfl,rfl,?_⟩
  dsimp only[tC,qI,qJ,jG,cu,de]
  refine⟨a,ns,at'+1,4,rfl,s3.seq a2,hl,by decide,by decide,fun i4 H4 hi4 s4=>?_⟩
  have s24:=s3.trans s4
  have t0m:uI[i4]'hi4∈uI:=bE hi4
  refine⟨l4,_,_,sv (uI[i4]'hi4),rfl,rfl,.of (s4 _ _ m3),zEd (ao hi4),?_⟩
  generalize uI[i4]'hi4=t0 at t0m
  clear m3 h4 s3 s4
  have PK:∀{G:Hp} {σ:St} {Y:V->Hp->Prop},zB H2 G->ts≠[]->σ=[some (.ref a),some (.int at'),some (.ref k),some (.int wy),some (.ref l),some (sv t0)]->(∀t G',t∈ts->zB H2 G'->Y (sv t) G')->kT (zCT K) (qQ 4) (jG (zBd K) [] E0 (qJ (qQ 0) (qJ (kT (kI fun i j=>V.int (i+j)) (qQ 1) (tC (.int 2))) (qJ (tCB (fun xs H Q=>∃p ys,xs=[.ref p]/\(z7 K H p ys\/yH K H p ys)/\Q (.int ys.length) H) (qJ (qQ 4) qI)) qI)))) σ G Y:=by
   intro G σ Y sg hne hσ hY
   subst hσ
   refine⟨_,rfl,_,rfl,_,rfl,_,_,rfl,rfl,_,rfl,l,_,rfl,.inl (.of (sg _ _ l2)),?_⟩
   dsimp only[tC,qI,qJ,jG,cu,de]
   rw[uZ]
   have hpos:0<ts.length:=lT.mpr hne
   refine⟨a,ns,at'+2,ts.length,rfl,sg.seq a2,hl,hpos,by omega,fun i G1 hi s1=>?_⟩
   exact⟨l,_,_,sv ts[i],rfl,rfl,.of (s1 _ _ (sg _ _ l2)),zEd (ao hi),hY _ G1 (bE hi) (sg.trans s1)⟩
  have tsn:∀x∈ts,yE x:=fun x hx=>zBy x (gd.tt it hx)
  have bkn:∀{t:S},t∈ts->isBk (z4 kvs t)/\∀x∈z4 kvs t,x.length<=3:=fun{t} ht=>(gd _ (it.mem g.nd ht)).2
  refine gnR ?_
  refine zEa (fun σ' G=>σ'=[some (.ref a),some (.int at'),some (.ref k),some (.int wy),some (.ref l),some (sv t0)]/\zB H2 G) ?c1 fun N hN=>?m1
  case m1=>
   refine⟨_,rfl,rfl,_,rfl,?_⟩
   by_cases h0:V.int (wy:Int)=V.int 0
   case neg=>exact u7 h0 (yJ (hN _ _ ⟨rfl,s24⟩))
   refine uB h0 ⟨_,rfl,bh _,fun e0 he0=>?_⟩
   have s5:zB H4 (upd H4 e0 (.lst [])):=zB.upd1 he0
   have e1:upd H4 e0 (.lst []) e0=some (.lst []):=zI
   generalize upd H4 e0 (.lst [])=H5 at s5 e1
   have s25:=s24.trans s5
   refine⟨.list (vU ts),.list [],j9 (s25 _ _ l2),⟨e0,[],rfl,.of e1,rfl⟩,(shL tsn).1,rfl,_,rfl,?_⟩
   rw[if_pos rfl,zEc]
   by_cases hne:ts=[]
   ·rw[hne];exact yJ (hN _ _ ⟨by rw[hne]at*;rfl,s25⟩)
   rw[iI.mpr hne]
   refine vH (PK s25 hne rfl fun t G ht sG=>?_)
   have gG:=g2.same sG
   refine⟨_,rfl,k,dx,_,rfl,gG.ins,rfl,_,rfl,k,dx,d,dn,un,o,kvs,ds,t,v2 kvs t,rfl,gG,tsn t ht,it.get ht,fun G2 sG2=>?_⟩
   have gG2:=gG.same sG2
   refine⟨_,rfl,k,dx,_,rfl,gG2.ins,rfl,_,rfl,k,dx,d,dn,un,o,kvs,ds,t,v2 kvs t,rfl,gG2,hdl,tsn t ht,it.get ht,fun d' un' y G3 x3 g3=>?_⟩
   have b2:=gG2.get (it.get ht)
   have b3:=x3 _ _ (uR b2 gG2.ins nofun) (uR b2 gG2.don nofun) b2
   have sh:=shT (bkn ht).1.nm
   refine⟨.tuple (vU (z4 kvs t)),.tuple (vU (z4 kvs t)),zIO b3,zIO b3,sh.1,sh.1,?_⟩
   rw[if_neg aH,zBL _ sh.2]
   exact kQ d' un' _ y G3 ((yN.of ((s2.trans sG).trans sG2)).trans x3) g3 (gd.del t)
  rintro σ G ⟨rfl,sG0⟩
  clear s24 H4 H3
  refine zEa (fun σ' G=>(∃t∈uI,σ'=[some (.ref a),some (.int at'),some (.ref k),some (.int wy),some (.ref l),some (sv t)])/\zB H2 G) ?c2 fun N hN=>?m2
  case m2=>
   refine⟨_,rfl,rfl,_,rfl,?_⟩
   by_cases h0:V.int (wy:Int)=V.int 1
   case neg=>exact u7 h0 (yJ (hN _ _ ⟨⟨t0,t0m,rfl⟩,sG0⟩))
   refine uB h0 ⟨_,rfl,bh _,fun e0 he0=>?_⟩
   have s5:zB G (upd G e0 (.lst [])):=zB.upd1 he0
   have e1:upd G e0 (.lst []) e0=some (.lst []):=zI
   generalize upd G e0 (.lst [])=H5 at s5 e1
   have s25:=sG0.trans s5
   refine⟨.list (vU ts),.list [],j9 (s25 _ _ l2),⟨e0,[],rfl,.of e1,rfl⟩,(shL tsn).1,rfl,_,rfl,?_⟩
   rw[if_pos rfl,zEc]
   by_cases hne:ts=[]
   ·rw[hne];exact yJ (hN _ _ ⟨⟨t0,t0m,rfl⟩,s25⟩)
   rw[iI.mpr hne]
   refine vH (PK s25 hne rfl fun t G1 ht sG=>?_)
   have gG:=g2.same sG
   refine⟨_,rfl,k,dx,_,rfl,gG.ins,rfl,_,rfl,k,dx,d,dn,un,o,kvs,ds,t,v2 kvs t,rfl,gG,tsn t ht,it.get ht,fun G2 sG2=>?_⟩
   have gG2:=gG.same sG2
   have b2:=gG2.get (it.get ht)
   refine⟨(v2 kvs t).1,_,rfl,.inr (.of b2),_,_,rfl,rfl,_,rfl,?_⟩
   rw[uZ]
   by_cases h8:((z4 kvs t).length:Int)<8
   case neg=>exact u7 h8 (hN _ _ ⟨⟨t,gd.tt it ht,rfl⟩,sG.trans sG2⟩)
   refine uB h8 ?_
   have h8':(v2 kvs t).2.length<8:=Int.ofNat_lt.mp h8
   refine⟨_,rfl,k,dx,_,rfl,gG2.ins,rfl,_,rfl,_,rfl,_,rfl,_,_,rfl,rfl,?_⟩
   dsimp only[tC,qI,qJ,jG,cu,de]
   refine⟨a,ns,at'+10,3,rfl,(sG.trans sG2).seq a2,hl,by decide,by decide,fun x G3 s3 hx hx3=>?_⟩
   have gG3:=gG2.same s3
   refine⟨k,dx,d,dn,un,o,kvs,ds,t,x,v2 kvs t,rfl,gG3,by omega,hdl,tsn t ht,hx,it.get ht,h8',(bkn ht).1.nm,fun a' d' un' y G4 x4 g4=>?_⟩
   have gt4:zL (zQ kvs t (a',z4 kvs t++[x])) t=some (a',z4 kvs t++[x]):=by rw[g9,if_pos rfl]
   refine⟨_,rfl,k,dx,_,rfl,g4.ins,rfl,_,rfl,k,dx,d',dn,un',o,_,_,t,(a',z4 kvs t++[x]),rfl,g4,tsn t ht,gt4,fun G5 s5=>?_⟩
   have g5:=g4.same s5
   refine⟨a',_,rfl,.inr (.of (g5.get gt4)),rfl,?_⟩
   have e3:((zE (z4 kvs t++[x])).length:Int)=(((z4 kvs t).length+1:Nat):Int):=by rw[uZ,aA];rfl
   rw[e3,decide_eq_true rfl]
   refine kQ d' un' _ y G5 ?_ g5 (gd.put g.nd (gd.tt it ht) ⟨by rw[aA,bM];omega,by rw[aA,bM];exact h8',fun z hz=>(bj.mp hz).elim ((bkn ht).1.nm z) fun q=>by rw[bF.mp q];exact hx⟩ fun z hz=>(bj.mp hz).elim ((bkn ht).2 z) fun q=>by rw[bF.mp q];exact hx3)
   exact(yN.of (((s2.trans sG).trans sG2).trans s3)).trans (x4.trans (yN.of s5))
  rintro σ G1 ⟨⟨t,htt,rfl⟩,sG⟩
  have gG:=g2.same sG
  refine⟨_,rfl,k,dx,_,rfl,gG.ins,rfl,_,rfl,_,rfl,_,rfl,_,_,rfl,rfl,?_⟩
  dsimp only[tC,qI,qJ,jG,cu,de]
  refine⟨a,ns,at'+30,3,3,rfl,sG.seq a2,hl,by decide,by decide,by decide,by decide,fun p bk G2 s3 hp bl1 bl2 bn=>?_⟩
  have gG2:=gG.same s3
  have isb:isBk bk:=⟨bl1,by omega,fun x hx=>(bn x hx).1⟩
  refine⟨k,dx,d,dn,un,o,kvs,ds,t,(p,bk),rfl,gG2,by omega,hdl,zBy t htt,hp,isb,fun d' un' y G3 x3 g3=>?_⟩
  have l3:=x3 _ _ lk ld (s3 _ _ (sG _ _ l2))
  refine⟨_,rfl,_,rfl,l,_,rfl,.inl (.of l3),rfl,zEL _,rfl,?_⟩
  rw[if_neg aH,zEK,zPi it,decide_eq_true rfl]
  exact kQ d' un' _ y G3 ((yN.of ((s2.trans sG).trans s3)).trans x3) g3 (gd.put g.nd htt isb fun x hx=>(bn x hx).2)
end
theorem zPk {X:Cx}(a:aa)(b:X.K=a):z9 X (compareOp .NotIn) (rIn a true):=by
 subst b;exact zKC
theorem zPl {X:Cx}(a:aa)(b:X.K=a):gW X (zFO a):=by
 subst b;exact uA
theorem zPm {X:Cx}(a:aa)(b:X.K=a):gW X (zCT a):=by
 subst b;exact u5
theorem zEf:∀{l m:List S},l.Pairwise (· < ·)->m.Pairwise (· < ·)->(∀x,x∈l↔x∈m)->l=m
 | [],[],_,_,_=>rfl
 | [],y::ys,_,_,h=>absurd ((h y).mpr (aq ..)) (by simp)
 |x::xs,[],_,_,h=>absurd ((h x).mp (aq ..)) (by simp)
 |x::xs,y::ys,f,g,h=>by
  have hx1:=mH.mp f
  have a:=mH.mp g
  have c:x=y:=by
   rcases aD.mp ((h x).mp (aq ..))with e|e
   ·exact e
   ·rcases aD.mp ((h y).mpr (aq ..))with d|d
    ·exact d.symm
    ·exact absurd (zCi (a.1 x e) (hx1.1 y d)) (qM y)
  subst c
  have:xs=ys:=zEf hx1.2 a.2 fun p=>by
   constructor
   ·intro b
    rcases aD.mp ((h p).mp (az _ b))with e|e
    ·subst e;exact absurd (hx1.1 p b) (qM p)
    ·exact e
   ·intro b
    rcases aD.mp ((h p).mpr (az _ b))with e|e
    ·subst e;exact absurd (a.1 p b) (qM p)
    ·exact e
  rw[this]
theorem zPn {o:Nat}{bk a:List S}{q:S×S}(h:q∈zD o bk)(b:∀x∈bk,x∈a):q∈zD o a:=by
 obtain⟨nm,c,d⟩:=cf.mp h
 exact cf.mpr ⟨nm,b nm c,d⟩
theorem zEg {P:aB}{w:aL}{K:aa}{mg:Str->Option ae}{base:ba}{k:Nat}{x:Str}{b:List Str}{sp a:Sp}(C:zN P w K mg base k x b sp)(h:∀{vs H Q E},a vs H Q E->sp vs H Q E):zN P w K mg base k x b a :=
 let⟨f,fd,F,r⟩:=C
 ⟨f,fd,F.imp fun _ _ _ _ z=>h z,r⟩
section
variable{K:aa}
theorem zPo {vs:List V}{H:Hp}{Q:VK}{E:XK}(h:zGd vs H Q E):zDk vs H Q E:=by
 obtain⟨u,d,rfl,a,b,c,k⟩:=h
 exact⟨u,d,rfl,a,b,by omega,k⟩
theorem zPp {vs:List V}{H:Hp}{Q:VK}{E:XK}(h:zGf K vs H Q E):zDl K vs H Q E:=by
 obtain⟨x,y,p,q,rfl,a,b,c,d,_,k⟩:=h
 exact⟨x,y,p,q,rfl,a,b,c.vx,d.vx,k⟩
theorem zPq {vs:List V}{H:Hp}{Q:VK}{E:XK}(h:zGg K vs H Q E):zDm K vs H Q E:=by
 obtain⟨x,y,p,q,rfl,a,b,c,d,k⟩:=h
 exact⟨x,y,p,q,rfl,a,b,c.vx,d.vx,k⟩
end
def zIS (K:aa)(C:ai)(m qual:Str)(st:bY)(ps:List Str):Prop:=∃(f:ai) (fd:aE),Fun K m qual st f fd/\CMeth K C m f/\vG K fd ps []
theorem zPr {K:aa}{C:ai}{m b:Str}{st:bY}{f:ai}{g kV h pm d ct:ae}{od i:Option ai}{j:Array (Option ae)}(e:List Str)(n:∀(fd:aE),Fun K m b st f fd->vG K fd e [])
  (a:ot K (.ref C) (.type "type") m=some (.val (.ref f))) (rd:oq K C (.type "type")=true) (sp:iN K (.ref C) "__getattribute__"=some (some (.builtin "type.__getattribute__"))) (l:K.lookup f=some ⟨g,od,.func (cQ m b (defArgs st) (defBody st) (defScope st) .none kV h pm i d ct),j⟩) (c:dU K d b=true) (k:bU K (.ref f)=true):zIS K C m b st e :=
 ⟨f,_,gB (st:=st) l c k,⟨rd,sp,a,k⟩,n _ (gB (st:=st) l c k)⟩
structure LgCls (K:aa) (S0 C:ai):Prop where
 ns:aT K mainGlobals "Ledger"=some (some (.ref C))
 nst:aT K mainGlobals "Stepper"=some (some (.ref S0))
 cls:Cls K C
 now:bT K (.ref C) "now"=some none
 don:bT K (.ref C) "done"=some none
 und:bT K (.ref C) "undone"=some none
 ord:bT K (.ref C) "order"=some none
 makes:kc K C=true
 kp:bU K (.ref C)=true
theorem zPs {v v':V}{σ:St}{H:Hp}{Q:VK}(e:v=v')(h:Q v' H):tC v σ H Q:=e▸h
theorem zPt {te:TE}{g:TG}{u:TS}{D:Ends}{σ:St}{H:Hp}(h:te σ H fun x a=>g x σ a (u D)):zCF (zCG te g) u D σ H:=h
theorem zPu {p A B C:Prop} [Decidable p] (a:p->C->A)(b:¬p->C->B)(c:C):if decide p=true then A else B:=by
 by_cases h:p
 ·rw[if_pos (decide_eq_true h)];exact a h c
 ·rw[if_neg (by simp[h])];exact b h c
theorem zPv {lo:Int}{n i:Nat}{x:V}(h:((bP n).map fun(i:Nat)=>V.int (lo+(i:Int)))[i]?=some x):i<n/\x=V.int (lo+(i:Int)):=by
 have hi:i<n:=by
  have:=(af.mp h).1
  simpa using this
 rw[ar,dS hi]at h
 exact⟨hi,(au h).symm⟩
theorem zPw (xs:List V)(k:Nat)(b:k<=1000):kW xs none (some (k:Int))=xs.take k:=by
 unfold kW
 have e1:HT.sIx xs.length 0 none=0:=rfl
 have a:HT.sIx xs.length xs.length (some (k:Int))=min k xs.length:=by
  unfold HT.sIx
  simp
  try omega
 rw[e1,a,ix,js,List.take_eq_take_iff]
 omega
theorem zPx {B:List S}{o:Nat}(h:∀x∈B,x.length<=3):(zD o B).length<=4*B.length:=by
 have a:((zD o B).length:Int)<=4*(B.length:Int):=by
  rw[zAc]
  have go:∀l:List S,(∀x∈l,x.length<=3)->(l.map fun x=>(x.length:Int)+1).sum<=4*(l.length:Int):=by
   intro l
   induction l with
   |nil=>intro _;simp
   |cons x r ih=>
    intro hl
    have c:=hl x (aq ..)
    have a:=ih fun y b=>hl y (az _ b)
    rw[aP,c7,aO]
    have:((r.length+1:Nat):Int)=(r.length:Int)+1:=rfl
    omega
  exact go B h
 omega
theorem zPy {n l:Nat}(a:n<=32)(hl:l<=3):n^(l+1)<=1048576:=by
 have b:n^(l+1)<=32^(l+1):=Nat.pow_le_pow_left a _
 have c:(32:Nat)^(l+1)<=32^4:=gk (by decide) (by omega)
 have d:(32:Nat)^4=1048576:=by decide
 omega
theorem zIT {bk a:List S}{o:Nat}{r:Option S}(b:∀x∈bk,x∈a)(h:zAG (zD o a) (zD o bk) o r):r=none:=by
 cases r with
 |none=>rfl
 |some t=>exact absurd (fun q c=>zPn (h.1.2.2.1 q c) b) h.1.2.2.2
theorem v1.uniq {kvs:List (S×zY)}{ts us:List S}(a:v1 kvs ts)(b:v1 kvs us):us=ts:=zEf b.2 a.2 fun x=>by rw[b.1.mem_iff,a.1.mem_iff]
structure LB (bk:List S) (o:Nat):Prop where
 toB:Bk bk o
 l3:∀x∈bk,x.length<=3
theorem LB.pw {bk:List S}{o:Nat}(h:LB bk o){x:S}(a:x.length<=3):(zD o bk).length^(x.length+1)<=1048576:=zPy (by have:=zPx (o:=o) h.l3;have:=h.toB.hi;omega) a
theorem LB.fit {bk:List S}{o:Nat}(h:LB bk o){x:S}(a:yE x)(b:x.length<=3):Fit bk o x:=⟨h.toB,a,by have:=h.pw b;omega⟩
def qP (bk:List S):S:=bk.getLastD []
theorem zEh {bk:List S}(h:bk≠[]):u0 (zE bk) (-1)=some (sv (qP bk))/\qP bk∈bk:=by
 have e:bk=bk.dropLast++[bk.getLast h]:=(List.dropLast_concat_getLast h).symm
 have a:qP bk=bk.getLast h:=by unfold qP;rw[List.getLastD_eq_getLast?,List.getLast?_eq_getLast h];rfl
 refine⟨?_,by rw[a];exact List.getLast_mem h⟩
 rw[a]
 conv=>lhs;rw[e]
 unfold zE
 rw[aJ]
 exact zJt _ _
theorem zIU {kvs:List (S×zY)}{o:Nat}{x:S}:∀(ts:List S) (j:Nat),j<=ts.length->(qY (ts.map fun t=>z4 kvs t) o x j).map (fun i=>ts.getD i [])=(ts.take j).filter fun t=>decide (uQ (z4 kvs t) o x)
 |ts,0,_=>rfl
 |ts,j+1,h=>by
  have b:j<ts.length:=by omega
  rw[zHs (t:=z4 kvs ts[j]) (by rw[ar,ao b];rfl),aJ,zIU ts j (by omega),av b,bX]
  congr 1
  by_cases a:uQ (z4 kvs ts[j]) o x
  ·rw[if_pos a];simp[a,b]
  ·rw[if_neg a];simp[a]
theorem zPz {bks:List (List S)}{o:Nat}{x:S}{n i:Nat}(h:i∈qY bks o x n):i<n:=cU.mp (bH.mp h).1
def q8:Option Nat->bN
 |none=>.none
 |some i=>.int i
theorem zIV {K:aa}{H:Hp}(p:Option Nat):yZ K H (q8 p) (yP p):=by cases p<;>rfl
theorem zEi (p:Option Nat):cX (.list [q8 p,q8 p])=true/\(PyData.list [q8 p,q8 p]).canLay0=true:=by cases p<;>exact⟨rfl,rfl⟩
theorem zQA {C:ai}{H:Hp}{σ:St}{i o:Nat}{Q:VK}(hi:σ[i]?=some (some (.int (o:Int))))(o1:1<=o)(o3:o<=3)(h:∀k a d dn un H',zB H H'->H dn=none->LgAt H' C k a d dn un o [] []->Q (.ref k) H') :
  zCQ C (zBu C) [] E0 (qJ (qQ i) qI) σ H Q:=by
 refine⟨_,hi,fun x a j hd l=>?_⟩
 refine⟨x,a,o,rfl,zI,o1,o3,fun d dn un H' m n c g=>⟨rfl,h x a d dn un H' (fun b u e=>?_) ?_ g⟩⟩
 ·have f:b≠x:=fun z=>by rw[z,j]at e;cases e
  have bd:b≠a:=fun z=>by rw[z,hd]at e;cases e
  exact m _ _ f (by rw[zF f,zF bd];exact e)
 ·cases z:H dn with
  |none=>rfl
  |some u=>
   have f:dn≠x:=fun q=>by rw[q,j]at z;cases z
   have bd:dn≠a:=fun q=>by rw[q,hd]at z;cases z
   rw[zF f,zF bd,z]at c;cases c
def zQB:HO->Prop
 | .lst _=>True
 | .tup _=>True
 | .frz _ _=>True
 |_=>False
section
variable{P:aB}{w:aL}{K:aa}{mg:Str->Option ae}{base:ba}
structure LawC (P:aB) (w:aL) (K:aa) (mg:Str->Option ae) (base:ba) (C:ai):Prop extends StepC P w K mg base C where
 st:zN P w K mg base 5 "_law_step" ["_law_script","_law_at","_law_ledger"] (zIR K C)
 make:zDw P w K mg base C 4 "Ledger" ["self","order"] (zBu C)
 te:yM P w K mg base C 3 "tellers" ["self","name"] (zEN C)
 mo:yM P w K mg base C 8 "makers_of" ["self","name"] (zEP C)
 be:yM P w K mg base C 7 "best_of" ["self","name"] (zER C)
 ms:zN P w K mg base 7 "makes" ["book","order","name"] zBc
 ma:zN P w K mg base 8 "makers" ["books","order","name"] zHt
 bf:zN P w K mg base 7 "best_for" ["books","order","names"] (zHq K)
 bm:zN P w K mg base 7 "best_maker" ["books","order","name"] (zHr K)
 mx:zN P w K mg base 4 "mixed" ["one","other"] zHf
 al:zN P w K mg base 5 "makes_all" ["one","other","order"] zHg
def zAs (K:aa):Sp:=fun vs H Q _=>∃(a:ai) (ns:List Int),vs=[.ref a]/\z7 K H a (ns.map V.int)/\ns.length<=63/\∀H',Q (.bl true) H'
abbrev jT:bY:=top 58
theorem zIW:FnScope ["_law_script","_law_order","_law_ledger","_law_k","_law_titles","_law_books","_law_names","_law_name_here","_law_found","_law_places","_law_best","_law_both"] ["_law_script"] (defScope jT):=zX
theorem zQC:(["_law_ledger","_law_title"]:List Str).Nodup:=by decide+kernel
theorem zQD:(["_law_book_here"]:List Str).Nodup:=by decide+kernel
theorem zQE:(["_law_found","_law_title"]:List Str).Nodup:=by decide+kernel
theorem zQF:(["_law_titles","_law_at"]:List Str).Nodup:=by decide+kernel
theorem zQG:(["_law_ledger","_law_order","_law_name_here","_law_title"]:List Str).Nodup:=by decide+kernel
theorem zQH {f Kc:ai}{fd:aE}(F:Fun K "law" "law" jT f fd)(B:Blt mg)(hset:mg "set"=none)(C:LawC P w K mg base Kc):FnOk P w K mg base zR 9 f fd ["_law_script"] (zAs K):=by
 refine F.ok zIW (fun vs H Q E h=>?_) (fun cdv A outer s H vs Q E hr h=>?_)
 ·obtain⟨a,ns,rfl,_⟩:=h;rfl
 ·obtain⟨a,ns,rfl,ha,hl,k⟩:=h
  have nd:=zIW.nd
  have hu:=hr.units
  have r7:=hr.mono (j:=7) (by decide)
  have r5:=hr.mono (j:=5) (by decide)
  have r4:=hr.mono (j:=4) (by decide)
  have r3:=hr.mono (j:=3) (by decide)
  have r2:=hr.mono (j:=2) (by decide)
  have r1:=hr.mono (j:=1) (by decide)
  refine⟨_,zH (zZ (i:=1) nd rfl (Or.inr rfl) (zT vA zO (zM C.dr r2 rfl (zA (pv 0) (zA zO (zA zO zC))))))
   (zH (zZ (i:=2) nd rfl (Or.inr rfl) (zOV C.make r5 rfl (zA (pv 1) zC)))
   (zH (qG cb rfl (zAw rfl B.range (zA (zT vA zO (zM C.dr r2 rfl (zA (pv 0) (zA zO (zA zO zC))))) zC)) (yC (i:=3) nd rfl (Or.inl rfl))
    (zH (yR (vL (vC (zM C.st r5 rfl (zA (pv 0) (zA (zT vA zO (zT jX zO (pv 3))) (zA (pv 2) zC)))))) (zJ (zS uV)) yQ)
    (zH (zZ (i:=4) nd rfl (Or.inr rfl) (gO C.ti r1 (pv 2)))
    (zH (zHJ (j:=5) (N:=["_law_ledger","_law_title"]) (caps:=[2]) nd rfl (Or.inl rfl) rfl (vP (by kernel_rfl)) (v3 (pv 4)) (fun cl X s H ex=>yC (i:=1) zQC rfl (Or.inl rfl)) (fun cl X s H ex=>uX) (fun cl X s H ex=>vT C.bo r3 (pv 0) (zA (pv 1) zC)))
    (zH (zZ (i:=6) nd rfl (Or.inl rfl) (zT zKH (uM (zA (zM C.nm r3 rfl (zA (pv 0) (zA (zT vA zO (zT jX zO (pv 3))) (zA zO zC)))) zC))
      (vX (N:=["_law_book_here"]) (caps:=[]) rfl (vP (by kernel_rfl)) (v3 (zJp zKA (pv 5) zCR (zAR zO))) (fun cl X s H ex=>yC (i:=0) zQD rfl (Or.inl rfl)) (fun cl X s H ex=>uX) (fun cl X s H ex=>yS (zPl K rfl) (pv 0) (zEq zEr zO) (fun _ _=>rfl)))))
    (zH (qG cb rfl (v3 (pv 6)) (yC (i:=7) nd rfl (Or.inr rfl))
     (zH (zZ (i:=8) nd rfl (Or.inr rfl) (vT C.mo hr (pv 2) (zA (pv 7) zC)))
     (zH (yR (vN (gD hu) (vX (N:=["_law_found","_law_title"]) (caps:=[8]) rfl (vP (by kernel_rfl)) (v3 (vT C.te r3 (pv 2) (zA (pv 7) zC))) (fun cl X s H ex=>yC (i:=1) zQE rfl (Or.inl rfl)) (fun cl X s H ex=>gX (vN (zPk K rfl) (pv 1) (pv 0) (by with_unfolding_all rfl))) (fun cl X s H ex=>pv 1)) (uM zC) (vB _)) (zJ (zS uV)) yQ)
     (zH (yR (vN (gD hu) (pv 8) (vX (N:=["_law_titles","_law_at"]) (caps:=[4]) rfl (vP (by kernel_rfl)) (v3 (zM C.ma hr rfl (zA (pv 5) (zA (pv 1) (zA (pv 7) zC))))) (fun cl X s H ex=>yC (i:=1) zQF rfl (Or.inl rfl)) (fun cl X s H ex=>uX) (fun cl X s H ex=>yS (zPm K rfl) (pv 0) (pv 1) (fun _ _=>rfl))) (vB _)) (zJ (zS uV)) yQ)
     (zH (yR (vN (gD hu) (pv 8) (vX (N:=["_law_ledger","_law_order","_law_name_here","_law_title"]) (caps:=[2,1,7]) rfl (vP (by kernel_rfl)) (v3 (pv 4)) (fun cl X s H ex=>yC (i:=3) zQG rfl (Or.inl rfl)) (fun cl X s H ex=>gX (vC (zM C.ms r7 rfl (zA (vT C.bo r3 (pv 0) (zA (pv 3) zC)) (zA (pv 1) (zA (pv 2) zC)))))) (fun cl X s H ex=>pv 3)) (vB _)) (zJ (zS uV)) yQ)
     (zH (zZ (i:=9) nd rfl (Or.inl rfl) (uM (zA (zM C.bf r7 rfl (zA (pv 5) (zA (pv 1) (zA (uM (zA (pv 7) zC)) zC)))) (zA (zM C.bm r7 rfl (zA (pv 5) (zA (pv 1) (zA (pv 7) zC)))) zC))))
     (zH (zZ (i:=10) nd rfl (Or.inl rfl) (vT C.be r7 (pv 2) (zA (pv 7) zC)))
     (zH (yR (vN (gD hu) (pv 9) (zT zKK (uM (zA (zEn (vN zCM (pv 10) kP (vB _)) kP (zBF jd jh PySem.F.type_list_index zPg (pv 4) (zA (pv 10) zC))) zC)) zO) (vB _)) (zJ (zS uV)) yQ)
     (zJ (yR (vN zCK (jC zCM (pv 10) kP (vB _)) (jC (zBK hu) (pv 8) (uM zC) (vB _)) (vB _)) (zJ (zS uV)) yQ))))))))))
    (zJ (yR (PW.pt (zCC (vN zJS (yF qK (by rfl) B.len bQ (zA (pv 5) zC)) zO (vB _)) (zCB (vN zCL (zT vA (yF qK (by rfl) B.len bQ (zA (yS u5 (pv 5) zO (fun _ _=>rfl)) zC)) (yF qK (by rfl) B.len bQ (zA (yS u5 (pv 5) zO (fun _ _=>rfl)) zC))) zO (vB _)))))
     (zH (zZ (i:=11) nd rfl (Or.inl rfl) (zM C.mx r4 rfl (zA (yS u5 (pv 5) zO (fun _ _=>rfl)) (zA (yS u5 (pv 5) zO (fun _ _=>rfl)) zC))))
     (zJ (yR (PW.pt (kG (vL (vC (zM C.al r5 rfl (zA (pv 11) (zA (yS u5 (pv 5) zO (fun _ _=>rfl)) (zA (pv 1) zC)))))) (kB (vL (vC (zM C.al r5 rfl (zA (pv 11) (zA (yS u5 (pv 5) zO (fun _ _=>rfl)) (zA (pv 1) zC))))))))) (zJ (zS uV)) yQ))) yQ))))))))
   (zJ (zS (jC (zBK hu) (gO C.ti r1 (pv 2)) (zPd rfl (gO C.ti r1 (pv 2)) (by rfl) B.sorted iW (by rfl) hset qk) (vB _)))))),?_⟩
  refine⟨_,rfl,a,ns,50,3,rfl,ha,hl,by decide,by decide,fun d2 H1 hd2 s1=>⟨_,_,rfl,rfl,?_⟩⟩
  obtain⟨o,ho,o1,o3⟩:∃o:Nat,(1:Int)+(d2:Int)=(o:Int)/\1<=o/\o<=3:=⟨1+d2,by omega,by omega,by omega⟩
  dsimp only
  rw[ho]
  have ha1:=s1.seq ha
  clear s1 ha
  refine gnR ?_
  refine zPt ?_
  refine zQA (i:=1) rfl o1 o3 fun k1 dx d dn un H2 s2 hdn g2=>?_
  obtain⟨F0,f0,f0s⟩:∃F0:List (ai×HO),(∀p∈F0,H2 p.1=some p.2/\zQB p.2/\p.1≠dn)/\∀H',(∀p∈F0,H' p.1=some p.2)->z7 K H' a (ns.map V.int):=by
   have nn:∀{b:ai} {u:HO},H1 b=some u->b≠dn:=fun h z=>by rw[z,hdn]at h;cases h
   rcases ha1 with z|z
   ·rcases z with z|⟨o',z⟩
    ·exact⟨[(a,.lst (ns.map V.int))],(fun p hp=>by rw[bF.mp hp];exact⟨s2 _ _ z,trivial,nn z⟩),fun H' h=>.inl (.inl (h _ (cm _)))⟩
    ·exact⟨[(a,.frz o' (.lst (ns.map V.int)))],(fun p hp=>by rw[bF.mp hp];exact⟨s2 _ _ z,trivial,nn z⟩),fun H' h=>.inl (.inr ⟨o',h _ (cm _)⟩)⟩
   ·exact⟨[],(fun p hp=>by cases hp),fun H' _=>.inr z⟩
  have gS:∀{G:Hp},(∀p∈F0,G p.1=some p.2)->z7 K G a (ns.map V.int):=fun{G} h=>f0s G h
  have fB:∀{G G':Hp} {C' dx':ai} {fs:List (Str×V)},G k1=some (.ins C' dx' fs)->(∀p∈F0,G p.1=some p.2)->yN k1 dn G G'->∀p∈F0,G' p.1=some p.2:=fun{G G' C' dx' fs} hk hf hb p hp=>hb _ _ (uR (hf p hp) hk fun z=>by have:=(f0 p hp).2.1;rw[z]at this;exact this) (f0 p hp).2.2 (hf p hp)
  have f2:∀p∈F0,H2 p.1=some p.2:=fun p hp=>(f0 p hp).1
  clear hdn ha1 s2 H1
  refine⟨_,rfl,a,ns,51,5,rfl,gS f2,hl,by decide,by decide,fun d3 H3 hd3 s3=>⟨_,_,rfl,rfl,_,rfl,by omega,by omega,?_⟩⟩
  have g3:=g2.same s3
  have f3:∀p∈F0,H3 p.1=some p.2:=fun p hp=>s3 _ _ (f2 p hp)
  clear g2 f2 s3 f0 f0s H2
  refine jN (zAa 0 _) (fun i σ G=>(∃x3 x4 x5 x6 x7 x8 x9 x10 x11:Option V,σ=[some (.ref a),some (.int o),some (.ref k1),x3,x4,x5,x6,x7,x8,x9,x10,x11])/\∃d un kvs ds,LgAt G Kc k1 dx d dn un o kvs ds/\qC kvs/\ds.length=i/\∀p∈F0,G p.1=some p.2)
   ⟨⟨_,_,_,_,_,_,_,_,_,rfl⟩,d,un,[],[],g3,(fun q hq=>by cases hq),rfl,f3⟩ (fun _ _ _ _ _=>trivial) ?_ ?_
  ·rintro i x σ G Nx hN hx ⟨⟨x3,x4,x5,x6,x7,x8,x9,x10,x11,rfl⟩,d',un',kvs0,ds,gG,gd0,hds,fG⟩
   clear g3 f3
   obtain⟨hi9,rfl⟩:=zPv hx
   have hi8:i<=8:=by omega
   rw[qf]
   refine⟨_,rfl,_,rfl,_,_,rfl,rfl,.inl (by decide),_,_,rfl,rfl,_,rfl,?_⟩
   dsimp only[tC,qI,qJ,jG,cu,de]
   rw[show(60:Int)+70*(i:Int)=((60+70*i:Nat):Int)from by omega]
   refine⟨a,k1,dx,d',dn,un',ns,60+70*i,o,kvs0,ds,rfl,gS fG,hl,gG,gd0,by omega,fun d1 un1 kvs y G1 x1 g1 gd=>⟨_,rfl,?_⟩⟩
   have fG1:=fB gG.ins fG x1
   refine yJ ?_
   have hds1:(ds++[y]).length=i+1:=by rw[aA,hds];rfl
   generalize ds++[y]=ds1 at g1 hds1
   clear x1 gG fG gd0 hds
   have k4:=gd.len g1.nd
   refine⟨_,rfl,k1,dx,_,rfl,g1.ins,rfl,k1,dx,d1,dn,un1,o,kvs,ds1,rfl,g1,by omega,fun lt ts hp hs hn=>?_⟩
   have it:v1 kvs ts:=⟨hp,hs⟩
   have tl:ts.length=kvs.length:=by rw[hp.length_eq,aj]
   have sA:zB G1 (upd G1 lt (.lst (zE ts))):=zB.upd1 hn
   have lA:upd G1 lt (.lst (zE ts)) lt=some (.lst (zE ts)):=zI
   generalize upd G1 lt (.lst (zE ts))=G2 at sA lA
   have g2:=g1.same sA
   have fG2:∀p∈F0,G2 p.1=some p.2:=fun p hp=>sA _ _ (fG1 p hp)
   clear sA hn hp hs g1 fG1 G1
   have tsn:∀t∈ts,yE t:=fun t ht=>zBy t (gd.tt it ht)
   have lbs:∀{t:S},t∈ts->LB (z4 kvs t) o:=fun{t} ht=>⟨⟨(gd _ (it.mem g2.nd ht)).2.1,o1,o3⟩,(gd _ (it.mem g2.nd ht)).2.2⟩
   have lbq:∀q∈kvs,LB q.2.2 o:=fun q hq=>⟨⟨(gd q hq).2.1,o1,o3⟩,(gd q hq).2.2⟩
   refine⟨_,rfl,lt,rfl,⟨_,.of lA⟩,?_⟩
   refine uY (v5 K lt (zE ts)) [some (.ref k1)] 1 (by rw[uZ];omega) (fun j acc G=>zB G2 G/\acc=((ts.take j).map fun t=>v2 kvs t).map fun p=>V.ref p.1)
    ⟨zB.refl _,rfl⟩ (fun j acc G _ h=>⟨.of (h.1 _ _ lA),by rw[h.2,aj,aj,aX];omega⟩) ?_ ?_
   ·rintro j y acc G ys Nx' hN' hy hys ⟨sm,rfl⟩
    obtain⟨y',rfl⟩:=v7 hys
    obtain⟨t,et,rfl⟩:=gP hy
    have hj:j<ts.length:=(af.mp et).1
    have etk:ts.take (j+1)=ts.take j++[t]:=by rw[av hj,(af.mp et).2]
    have ht:=aF et
    have gG:=g2.same sm
    refine⟨_,rfl,k1,dx,_,rfl,gG.ins,rfl,_,rfl,k1,dx,d1,dn,un1,o,kvs,ds1,t,v2 kvs t,rfl,gG,tsn t ht,it.get ht,fun G5 s5=>hN' _ _ [_] rfl ⟨sm.trans s5,?_⟩⟩
    rw[etk,aJ,aJ];rfl
   rintro acc G ⟨sm,rfl⟩ lb hlb
   rw[uZ,aQ]
   obtain⟨bks,hbks⟩:∃bks,bks=ts.map fun t=>v2 kvs t:=⟨_,rfl⟩
   rw[<-hbks]
   have sB:zB G2 (upd G lb (.lst (bks.map fun p=>V.ref p.1))):=sm.trans (zB.upd1 hlb)
   have bA:BksAt (upd G lb (.lst (bks.map fun p=>V.ref p.1))) lb bks:=⟨zI,fun p hp=>by
    rw[hbks]at hp
    obtain⟨t,ht,rfl⟩:=aG.mp hp
    exact sB _ _ (g2.get (it.get ht))⟩
   generalize upd G lb (.lst (bks.map fun p=>V.ref p.1))=G3 at sB bA
   clear hlb sm G
   have g3:=g2.same sB
   have lA3:=sB _ _ lA
   have fG3:∀p∈F0,G3 p.1=some p.2:=fun p hp=>sB _ _ (fG2 p hp)
   clear sB g2 lA fG2 G2
   have lbp:∀p∈bks,LB p.2 o:=fun p hp=>by
    rw[hbks]at hp
    obtain⟨t,ht,rfl⟩:=aG.mp hp
    exact lbs ht
   have bl4:bks.length<=4:=by rw[hbks,aj];omega
   refine⟨_,rfl,_,rfl,_,_,rfl,rfl,.inl (by decide),_,_,rfl,rfl,?_⟩
   dsimp only[tC,qI,qJ,jG,cu,de]
   rw[show(1000:Int)+10*(i:Int)=((1000+10*i:Nat):Int)from by omega]
   refine⟨a,ns,1000+10*i,2,rfl,gS fG3,hl,by decide,by decide,fun x0 G4 s4 hx0 hx02=>⟨by show 1<=sizeLine;decide,fun l1 hl1=>?_⟩⟩
   have s5:zB G3 (upd G4 l1 (.lst [sv x0])):=s4.trans (zB.upd1 hl1)
   have l5:upd G4 l1 (.lst [sv x0]) l1=some (.lst [sv x0]):=zI
   generalize upd G4 l1 (.lst [sv x0])=G5 at s5 l5
   clear hl1 s4 G4
   refine⟨_,rfl,2,rfl,lb,_,rfl,.of (s5 _ _ bA.lst),fun ls hls=>?_⟩
   have ec:kW (bks.map fun p=>V.ref p.1) none (some 2)=(bks.take 2).map fun p=>V.ref p.1:=by rw[List.map_take];exact zPw _ 2 (by decide)
   rw[ec]
   have s6:zB G3 (upd G5 ls (.lst ((bks.take 2).map fun p=>V.ref p.1))):=s5.trans (zB.upd1 hls)
   have l6:=(zB.upd1 (o:=.lst ((bks.take 2).map fun p=>V.ref p.1)) hls) _ _ l5
   have ls6:upd G5 ls (.lst ((bks.take 2).map fun p=>V.ref p.1)) ls=some (.lst ((bks.take 2).map fun p=>V.ref p.1)):=zI
   generalize upd G5 ls (.lst ((bks.take 2).map fun p=>V.ref p.1))=G6 at s6 l6 ls6
   clear hls s5 l5 ec G5
   refine⟨ls,rfl,⟨_,.of ls6⟩,?_⟩
   have b2l:(bks.take 2).length<=2:=by rw[aX];omega
   refine uY (v5 K ls ((bks.take 2).map fun p=>V.ref p.1)) [] 1 (by rw[aj];omega) (fun j acc G=>G=G6/\acc=zE (((bks.take 2).take j).map fun p=>qP p.2))
    ⟨rfl,rfl⟩ (fun j acc G _ h=>⟨.of (by rw[h.1];exact ls6),by rw[h.2,uZ,aj,aX];omega⟩) ?_ ?_
   ·rintro j y acc G ys Nx' hN' hy hys ⟨rfl,rfl⟩
    obtain⟨y',rfl⟩:=v7 hys
    obtain⟨p,ep,rfl⟩:=zAo hy
    have hj:j<(bks.take 2).length:=(af.mp ep).1
    have hp:=cn (aF ep)
    have etk:(bks.take 2).take (j+1)=(bks.take 2).take j++[p]:=by rw[av hj,(af.mp ep).2]
    have pne:p.2≠[]:=fun z=>by have:=(lbp p hp).toB.lo;rw[z]at this;cases this
    refine⟨_,rfl,_,rfl,p.1,_,_,_,rfl,rfl,.of (s6 _ _ (bA.at_ p hp)),(zEh pne).1,hN' _ _ [_] rfl ⟨rfl,?_⟩⟩
    rw[etk,aJ]
    exact(zIP _ _).symm
   rintro acc G ⟨rfl,rfl⟩ lc hlc
   rw[aj,aQ]
   have s7:zB G3 (upd G lc (.lst (zE ((bks.take 2).map fun p=>qP p.2)))):=s6.trans (zB.upd1 hlc)
   have l7:=(zB.upd1 (o:=.lst (zE ((bks.take 2).map fun p=>qP p.2))) hlc) _ _ l6
   have lc7:upd G lc (.lst (zE ((bks.take 2).map fun p=>qP p.2))) lc=some (.lst (zE ((bks.take 2).map fun p=>qP p.2))):=zI
   generalize upd G lc (.lst (zE ((bks.take 2).map fun p=>qP p.2)))=G7 at s7 l7 lc7
   clear hlc s6 l6 ls6 G
   refine⟨l1,lc,_,_,rfl,rfl,l7,lc7,by rw[uZ,aj,bg];show 1+_<=_;omega,fun lp hlp=>?_⟩
   obtain⟨nms,hnms⟩:∃nms,nms=x0::(bks.take 2).map fun p=>qP p.2:=⟨_,rfl⟩
   have en:[sv x0]++zE ((bks.take 2).map fun p=>qP p.2)=zE nms:=by rw[hnms];rfl
   rw[en]
   have s8:zB G3 (upd G7 lp (.lst (zE nms))):=s7.trans (zB.upd1 hlp)
   have lp8:upd G7 lp (.lst (zE nms)) lp=some (.lst (zE nms)):=zI
   generalize upd G7 lp (.lst (zE nms))=G8 at s8 lp8
   clear hlp s7 l7 lc7 en G7
   have nl3:nms.length<=3:=by rw[hnms,aO,aj];omega
   have nmn:∀x∈nms,yE x/\x.length<=3:=fun x hx=>by
    rw[hnms]at hx
    rcases aD.mp hx with rfl|hx
    ·exact⟨hx0,by omega⟩
    ·obtain⟨p,hp,rfl⟩:=aG.mp hx
     have hp':=cn hp
     have pne:p.2≠[]:=fun z=>by have:=(lbp p hp').toB.lo;rw[z]at this;cases this
     exact⟨(lbp p hp').toB.nm _ (zEh pne).2,(lbp p hp').l3 _ (zEh pne).2⟩
   have g8:=g3.same s8
   have lA8:=s8 _ _ lA3
   have bA8:=bA.same s8
   have fG8:∀p∈F0,G8 p.1=some p.2:=fun p hp=>s8 _ _ (fG3 p hp)
   clear s8 g3 lA3 bA fG3 hnms hx0 hx02 b2l G3
   refine gnR ?_
   refine zEa (fun σ' G=>(∃x7 x8 x9 x10:Option V,σ'=[some (.ref a),some (.int o),some (.ref k1),some (.int i),some (.ref lt),some (.ref lb),some (.ref lp),x7,x8,x9,x10,x11])/\zB G8 G) ?ct fun N hNl=>?ml
   case ml=>
    refine⟨_,rfl,lp,rfl,⟨_,.of lp8⟩,?_⟩
    refine jN (v5 K lp (zE nms)) (fun j σ' G=>(∃x7 x8 x9 x10:Option V,σ'=[some (.ref a),some (.int o),some (.ref k1),some (.int i),some (.ref lt),some (.ref lb),some (.ref lp),x7,x8,x9,x10,x11])/\zB G8 G)
     ⟨⟨_,_,_,_,rfl⟩,zB.refl _⟩ (fun j σ' G _ h=>.of (h.2 _ _ lp8)) ?_ fun σ' G h=>hNl σ' G h
    rintro j y σ' G Nx' hN' hy ⟨⟨y7,y8,y9,y10,rfl⟩,sm⟩
    obtain⟨x,ex,rfl⟩:=gP hy
    obtain⟨hxn,hx3⟩:=nmn x (aF ex)
    have gG:=g8.same sm
    have bG:=bA8.same sm
    have lG:=sm _ _ lA8
    have fit:∀{t:S},t∈ts->Fit (z4 kvs t) o x:=fun ht=>(lbs ht).fit hxn hx3
    refine⟨_,rfl,k1,dx,_,rfl,gG.ins,rfl,_,rfl,k1,dx,d1,dn,un1,o,kvs,ds1,x,rfl,gG,by omega,hxn,fun q hq=>(lbq q hq).fit hxn hx3,fun lf ts2 G1 it2 s1 hf=>?_⟩
    rw[it.uniq it2]at hf
    obtain⟨fnd,hfnd⟩:∃fnd,fnd=ts.filter fun t=>decide (uQ (z4 kvs t) o x):=⟨_,rfl⟩
    rw[<-hfnd]at hf
    have fnn:∀t∈fnd,yE t:=fun t ht=>tsn t (by rw[hfnd]at ht;exact(bH.mp ht).1)
    have shf:=shL fnn
    have sm1:=sm.trans s1
    clear it2 s1 gG bG lG sm
    have gG:=g8.same sm1
    refine⟨_,rfl,k1,dx,_,rfl,gG.ins,rfl,_,rfl,k1,dx,d1,dn,un1,o,kvs,ds1,x,rfl,gG,by omega,hxn,fun l2 ts3 G2 it3 s2 h2=>?_⟩
    rw[it.uniq it3]at h2
    have hf2:=s2 _ _ hf
    have sm2:=sm1.trans s2
    clear it3 s2 hf sm1 gG G1
    refine⟨l2,rfl,⟨_,.of h2⟩,?_⟩
    have tl2:(ts.filter fun t=>decide (x∈z4 kvs t)).length<=4:=bZ (bS ..) (by omega)
    refine zAb (v5 K l2 (zE (ts.filter fun t=>decide (x∈z4 kvs t)))) [some (.ref lf)] 1 (by rw[uZ];omega) (fun j acc G'=>G'=G2/\acc=[])
     ⟨rfl,rfl⟩ (fun j acc G' _ h=>⟨.of (by rw[h.1];exact h2),by rw[h.2];exact bh _⟩) ?_ ?_
    ·rintro j y acc G' ys Nx2 hN2 hy hys ⟨rfl,rfl⟩
     obtain⟨y',rfl⟩:=v7 hys
     obtain⟨t,et,rfl⟩:=gP hy
     obtain⟨ht,htx⟩:=bH.mp (aF et)
     have mf:t∈fnd:=by rw[hfnd];exact bH.mpr ⟨ht,decide_eq_true (zLY (of_decide_eq_true htx))⟩
     refine⟨_,rfl,_,rfl,lf,_,rfl,.inl (.of hf2),rfl,zEL _,_,rfl,?_⟩
     rw[if_pos rfl,zEK,decide_eq_true mf]
     exact yJ (hN2 _ _ [_] rfl ⟨rfl,rfl⟩)
    rintro acc G' ⟨rfl,rfl⟩ D hD
    have sD:zB G' (upd G' D (.lst [])):=zB.upd1 hD
    have D1:upd G' D (.lst []) D=some (.lst []):=zI
    generalize upd G' D (.lst [])=G3 at sD D1
    refine⟨bh _,fun e0 he0=>?_⟩
    have sE:zB G3 (upd G3 e0 (.lst [])):=zB.upd1 he0
    have e1:upd G3 e0 (.lst []) e0=some (.lst []):=zI
    have D2:=sE _ _ D1
    generalize upd G3 e0 (.lst [])=G4 at sE e1 D2
    refine⟨.list [],.list [],⟨D,[],rfl,.of D2,rfl⟩,⟨e0,[],rfl,.of e1,rfl⟩,rfl,rfl,_,rfl,zBe rfl ?_⟩
    have hf4:=sE _ _ (sD _ _ hf2)
    have sm4:=sm2.trans (sD.trans sE)
    clear sE e1 D2 D1 sD hD he0 hf2 sm2 h2 tl2 G' G3
    refine⟨_,rfl,_,rfl,_,rfl,_,rfl,lb,bks,o,x,rfl,bA8.same sm4,by omega,o1,o3,hxn,fun p hp=>(lbp p hp).fit hxn hx3,fun lm G5 s5 hm=>?_⟩
    have eb:bks.map (·.2)=ts.map fun t=>z4 kvs t:=by rw[hbks,aV];rfl
    have elen:bks.length=ts.length:=by rw[hbks,aj]
    rw[eb,elen]at hm
    have hidx:=zIU (kvs:=kvs) (o:=o) (x:=x) ts ts.length (aw _)
    rw[aQ,<-hfnd]at hidx
    have hlt:∀i∈qY (ts.map fun t=>z4 kvs t) o x ts.length,i<ts.length:=fun i hi=>zPz hi
    have hil:(qY (ts.map fun t=>z4 kvs t) o x ts.length).length<=4:=bZ (bS ..) (by rw[cj];omega)
    generalize qY (ts.map fun t=>z4 kvs t) o x ts.length=idx at hm hidx hlt hil
    have sm5:=sm4.trans s5
    have hf5:=s5 _ _ hf4
    clear sm4 hf4 s5 G4
    have lt5:=sm5 _ _ lA8
    have ivl:(qX idx).length=idx.length:=by unfold qX;rw[aj]
    refine⟨lm,rfl,⟨_,.of hm⟩,?_⟩
    refine uY (v5 K lm (qX idx)) [some (.ref lt)] 1 (by omega) (fun j acc G'=>G'=G5/\acc=zE ((idx.take j).map fun i=>ts.getD i []))
     ⟨rfl,rfl⟩ (fun j acc G' _ h=>⟨.of (by rw[h.1];exact hm),by rw[h.2,uZ,aj,aX];omega⟩) ?_ ?_
    ·rintro j y acc G' ys Nx2 hN2 hy hys ⟨rfl,rfl⟩
     obtain⟨y',rfl⟩:=v7 hys
     have hj:j<idx.length:=by rw[<-ivl];exact(af.mp hy).1
     have ey:y=.int (idx[j]:Int):=by
      unfold qX at hy
      rw[ar,ao hj]at hy
      exact(au hy).symm
     subst ey
     have hij:idx[j]<ts.length:=hlt _ (bE hj)
     have etk:idx.take (j+1)=idx.take j++[idx[j]]:=av hj
     refine⟨_,rfl,_,rfl,lt,_,_,_,rfl,rfl,.of lt5,zEd (ao hij),hN2 _ _ [_] rfl ⟨rfl,?_⟩⟩
     rw[etk,aJ,mG,zIP,b0,ao hij];rfl
    rintro acc G' ⟨rfl,rfl⟩ D hD
    rw[ivl,aQ,hidx]
    have sD:zB G' (upd G' D (.lst (zE fnd))):=zB.upd1 hD
    have D1:upd G' D (.lst (zE fnd)) D=some (.lst (zE fnd)):=zI
    generalize upd G' D (.lst (zE fnd))=G6 at sD D1
    have hf6:=sD _ _ hf5
    have sm6:=sm5.trans sD
    refine⟨.list (vU fnd),.list (vU fnd),j9 hf6,j9 D1,shf.1,shf.1,_,rfl,zBe shf.2 ?_⟩
    clear hidx hlt hil ivl lt5 hm D1 sD hD hf5 sm5 idx G'
    have lt6:=sm6 _ _ lA8
    refine⟨_,rfl,_,rfl,lt,rfl,⟨_,.of lt6⟩,?_⟩
    refine zAb (v5 K lt (zE ts)) [some (.ref k1),some (.int (o:Int)),some (sv x)] 1 (by rw[uZ];omega) (fun j acc G'=>zB G6 G'/\acc=zE ((ts.take j).filter fun t=>decide (uQ (z4 kvs t) o x)))
     ⟨zB.refl _,rfl⟩ (fun j acc G' _ h=>⟨.of (h.1 _ _ lt6),by rw[h.2,uZ];exact bZ (bS ..) (by rw[aX];omega)⟩) ?_ ?_
    ·rintro j y acc G' ys Nx2 hN2 hy hys ⟨sq,rfl⟩
     obtain⟨y',rfl⟩:=v7 hys
     obtain⟨t,et,rfl⟩:=gP hy
     have hj:j<ts.length:=(af.mp et).1
     have ht:=aF et
     have etk:ts.take (j+1)=ts.take j++[t]:=by rw[av hj,(af.mp et).2]
     have gq:=g8.same (sm6.trans sq)
     refine⟨_,rfl,k1,dx,_,rfl,gq.ins,rfl,_,rfl,k1,dx,d1,dn,un1,o,kvs,ds1,t,v2 kvs t,rfl,gq,tsn t ht,it.get ht,fun Ga sa=>?_⟩
     refine⟨_,rfl,_,rfl,(v2 kvs t).1,z4 kvs t,o,x,rfl,(gq.same sa).get (it.get ht),fit ht,fun Gb sb=>⟨_,rfl,?_⟩⟩
     by_cases hm:uQ (z4 kvs t) o x
     ·refine uB hm ⟨_,rfl,hN2 _ _ [_] rfl ⟨sq.trans (sa.trans sb),?_⟩⟩
      rw[etk,bX];unfold zE;rw[aJ];congr 1;simp[hm]
     ·refine u7 hm (hN2 _ _ [_] rfl ⟨sq.trans (sa.trans sb),?_⟩)
      rw[etk,bX];simp[hm]
    rintro acc G' ⟨sq,rfl⟩ D hD
    rw[uZ,aQ,<-hfnd]
    have sD:zB G' (upd G' D (.lst (zE fnd))):=zB.upd1 hD
    have D1:upd G' D (.lst (zE fnd)) D=some (.lst (zE fnd)):=zI
    generalize upd G' D (.lst (zE fnd))=G7 at sD D1
    have hf7:=sD _ _ (sq _ _ hf6)
    have sm7:=sm6.trans (sq.trans sD)
    refine⟨.list (vU fnd),.list (vU fnd),j9 hf7,j9 D1,shf.1,shf.1,_,rfl,zBe shf.2 ?_⟩
    clear lt6 D1 sD hD hf6 sm6 sq G' G6
    have bl4':bks.length<=100:=by omega
    refine⟨_,rfl,_,rfl,_,rfl,by show 1<=sizeLine;decide,fun l9 hl9=>?_⟩
    have s9:zB G7 (upd G7 l9 (.lst [sv x])):=zB.upd1 hl9
    have h9:upd G7 l9 (.lst [sv x]) l9=some (.lst ([x].map sv)):=zI
    generalize upd G7 l9 (.lst [sv x])=Ga at s9 h9
    refine⟨lb,l9,bks,o,[x],rfl,bA8.same (sm7.trans s9),h9,bl4',o1,o3,(fun n hn=>by rw[bF.mp hn];exact hxn),by show 1<=4;decide,(fun p hp=>⟨(lbp p hp).toB,⟨by show 1<=4;decide,fun n hn=>by rw[bF.mp hn];exact⟨hxn,(lbp p hp).pw hx3⟩⟩⟩),fun Gb sb=>?_⟩
    have ep1:(bks.map fun p=>v8 (zD o p.2) o [x])=bks.map fun p=>z5 (zD o p.2) o x:=cY fun p _=>zOT _ _ _
    rw[ep1]
    have smb:=sm7.trans (s9.trans sb)
    refine⟨_,rfl,_,rfl,_,rfl,lb,bks,o,x,rfl,bA8.same smb,bl4',o1,o3,hxn,(fun p hp=>(lbp p hp).fit hxn hx3),fun Gc sc=>⟨by show 2<=sizeLine;decide,fun lz hlz=>?_⟩⟩
    have ip:IsPlace (bks.map fun p=>z5 (zD o p.2) o x) (j6 (bks.map fun p=>z5 (zD o p.2) o x)):=zHw fun r hr=>by
     obtain⟨t,_,rfl⟩:=aG.mp hr
     exact(jP _ _ _).dn
    have eps:(ts.map fun t=>z5 (zD o (z4 kvs t)) o x)=bks.map fun p=>z5 (zD o p.2) o x:=by rw[hbks,aV];rfl
    obtain⟨pl,hpl⟩:∃pl,pl=j6 (bks.map fun p=>z5 (zD o p.2) o x):=⟨_,rfl⟩
    rw[<-hpl]at ip⊢
    have sz:zB Gc (upd Gc lz (.lst [yP pl,yP pl])):=zB.upd1 hlz
    have hz:upd Gc lz (.lst [yP pl,yP pl]) lz=some (.lst [yP pl,yP pl]):=zI
    generalize upd Gc lz (.lst [yP pl,yP pl])=Gd at sz hz
    have smd:=smb.trans (sc.trans sz)
    have hfd:=sz _ _ (sc _ _ (sb _ _ (s9 _ _ hf7)))
    clear s9 h9 hl9 sb smb sc sz hlz hf7 sm7 ep1 Ga Gb Gc G7
    have gd':=g8.same smd
    refine⟨_,rfl,k1,dx,_,rfl,gd'.ins,rfl,_,rfl,k1,dx,d1,dn,un1,o,kvs,ds1,x,rfl,gd',by omega,hxn,(fun q hq=>(lbq q hq).fit hxn hx3),fun ts4 Ge it4 se=>?_⟩
    rw[it.uniq it4,eps,<-hpl]
    have sme:=smd.trans se
    have hze:=se _ _ hz
    have hfe:=se _ _ hfd
    clear it4 gd' se hz hfd smd Gd
    have lte:=sme _ _ lA8
    have ebk:zE ts=(ts.map tx).map V.str:=by unfold zE;rw[aV];rfl
    have pB:¬zAM ts pl=.non->∃i,pl=some i/\∃h:i<ts.length,zAM ts pl=sv ts[i]:=fun hn=>by
     cases ip with
     |no h=>exact absurd rfl hn
     |at_ i q hi _ _ _=>
      have hil:i<ts.length:=by
       have:=(af.mp hi).1
       rw[aj,hbks,aj]at this;exact this
      exact⟨i,rfl,hil,by show(ts[i]?.map sv).getD .non=_;rw[ao hil];rfl⟩
    have pA:zAM ts pl=.non->pl=none:=fun hn=>by
     cases ip with
     |no h=>rfl
     |at_ i q hi _ _ _=>
      have hil:i<ts.length:=by
       have:=(af.mp hi).1
       rw[aj,hbks,aj]at this;exact this
      have:zAM ts (some i)=sv ts[i]:=by show(ts[i]?.map sv).getD .non=_;rw[ao hil];rfl
      rw[this]at hn;cases hn
    have pix:∀{i:Nat},pl=some i->∀h:i<ts.length,(ts.map tx)[i]?=some (tx ts[i])/\∀m,m<i->(ts.map tx)[m]?≠some (tx ts[i]):=fun{i} _ h=>by
     refine⟨by rw[ar,ao h];rfl,fun m hm e=>?_⟩
     rw[ar,ao (by omega)]at e
     have e2:=kM (au e)
     have:=iE.mp it.2 m i (by omega) h hm
     rw[e2]at this
     exact qM _ this
    refine⟨_,rfl,_,rfl,rfl,_,rfl,?_⟩
    apply zPu
    ·intro hp hC
     exact zPs (v':=yP pl) (by rw[pA hp];rfl) hC
    ·intro hp hC
     obtain⟨i,rfl,hil,eb2⟩:=pB hp
     obtain⟨z1,z2⟩:=pix rfl hil
     refine⟨_,rfl,.inl ⟨rfl,_,.of lte⟩,_,rfl,lt,ts.map tx,tx ts[i],i,rfl,?_,by rw[<-ebk];exact lte,z1,z2,by omega,hC⟩
     rw[eb2]
    refine⟨by show 1<=sizeLine;decide,fun lq hlq=>?_⟩
    have sq:zB Ge (upd Ge lq (.lst [yP pl])):=zB.upd1 hlq
    have hq:upd Ge lq (.lst [yP pl]) lq=some (.lst [yP pl]):=zI
    generalize upd Ge lq (.lst [yP pl])=Gf at sq hq
    refine⟨lq,2,_,rfl,rfl,hq,by decide,by decide,by show 1*2<=sizeLine;decide,fun lr hlr=>?_⟩
    have er:(aS (2:Int).toNat [yP pl]).flatten=[yP pl,yP pl]:=rfl
    rw[er]
    have sr:zB Gf (upd Gf lr (.lst [yP pl,yP pl])):=zB.upd1 hlr
    have hr':upd Gf lr (.lst [yP pl,yP pl]) lr=some (.lst [yP pl,yP pl]):=zI
    generalize upd Gf lr (.lst [yP pl,yP pl])=Gg at sr hr'
    have smg:=sme.trans (sq.trans sr)
    have hzg:=sr _ _ (sq _ _ hze)
    have hfg:=sr _ _ (sq _ _ hfe)
    have rp:∀{b:ai},Gg b=some (.lst [yP pl,yP pl])->yZ K Gg (.list [q8 pl,q8 pl]) (.ref b):=fun{b} h=>⟨b,_,rfl,.of h,_,_,rfl,zIV pl,_,_,rfl,zIV pl,rfl⟩
    refine⟨.list [q8 pl,q8 pl],.list [q8 pl,q8 pl],rp hzg,rp hr',(zEi pl).1,(zEi pl).1,_,rfl,zBe (zEi pl).2 ?_⟩
    clear rp hr' hzg sr er sq hq hlq hlr hze hfe sme pix lte ebk Gf Ge
    refine⟨_,rfl,rfl,_,rfl,bh _,fun e0 he0=>?_⟩
    have sE:zB Gg (upd Gg e0 (.lst [])):=zB.upd1 he0
    have e1:upd Gg e0 (.lst []) e0=some (.lst []):=zI
    generalize upd Gg e0 (.lst [])=Gh at sE e1
    refine⟨.list (vU fnd),.list [],j9 (sE _ _ hfg),⟨e0,[],rfl,.of e1,rfl⟩,shf.1,rfl,rfl,_,rfl,gC ?_ (hN' _ _ ⟨⟨_,_,_,_,rfl⟩,smg.trans sE⟩)⟩
    rw[if_neg aH,zEc]
    congr 1
    rw[dG,decide_eq_true_eq,List.isEmpty_iff,hfnd,List.filter_eq_nil_iff]
    constructor
    ·intro hn t ht
     have e:=pA hn
     rw[e]at ip
     cases ip with
     |no h=>
      have h0:=h (z5 (zD o (z4 kvs t)) o x) (by rw[hbks,aV];exact aG.mpr ⟨t,ht,rfl⟩)
      intro hm
      have hm':0<(z5 (zD o (z4 kvs t)) o x).1:=of_decide_eq_true hm
      have h1:yX (0,1) (z5 (zD o (z4 kvs t)) o x)=true:=zAI.mpr (by show(0:Int)*_<_*1;omega)
      rw[h1]at h0
      cases h0
    ·intro hall
     refine iH fun hn=>?_
     obtain⟨i,e,hil,_⟩:=pB hn
     rw[e]at ip
     cases ip with
     |at_ _ q hi hp _ _=>
      rw[hbks,aV,ar,ao hil]at hi
      have eq:z5 (zD o (z4 kvs ts[i])) o x=q:=au hi
      have h2:=zAI.mp hp
      rw[<-eq]at h2
      refine hall ts[i] (bE hil) (decide_eq_true ?_)
      have h3:(0:Int)*(z5 (zD o (z4 kvs ts[i])) o x).2<(z5 (zD o (z4 kvs ts[i])) o x).1*1:=h2
      show 0<(z5 (zD o (z4 kvs ts[i])) o x).1
      omega
   rintro σ G ⟨⟨y7,y8,y9,y10,rfl⟩,sm⟩
   have gG:=g8.same sm
   have bG:=bA8.same sm
   have fG:∀p∈F0,G p.1=some p.2:=fun p hp=>sm _ _ (fG8 p hp)
   have done:∀{x11':Option V} {G':Hp},zB G G'->Nx [some (.ref a),some (.int o),some (.ref k1),some (.int i),some (.ref lt),some (.ref lb),some (.ref lp),y7,y8,y9,y10,x11'] G':=fun{x11' G'} s'=>hN _ _ ⟨⟨_,_,_,_,_,_,_,_,_,rfl⟩,d1,un1,kvs,ds1,gG.same s',gd,hds1,fun p hp=>s' _ _ (fG p hp)⟩
   clear sm g8 bA8 fG8 lA8 lp8 G8
   have bml:(bks.map fun p=>V.ref p.1).length=bks.length:=aj ..
   refine⟨_,rfl,lb,_,rfl,.inl (.of bG.lst),_,_,rfl,rfl,_,rfl,?_⟩
   rw[bml]
   by_cases h2:(1:Int)<(bks.length:Int)
   case neg=>exact u7 h2 (yJ (done (zB.refl _)))
   refine uB h2 ?_
   have h0':0<bks.length:=by omega
   have h1':1<bks.length:=by omega
   have m0:=bE h0'
   have m1:=bE h1'
   have i0:u0 (bks.map fun p=>V.ref p.1) 0=some (.ref bks[0].1):=kX (j:=0) (by rw[ar,ao h0'];rfl)
   have i1:u0 (bks.map fun p=>V.ref p.1) 1=some (.ref bks[1].1):=kX (j:=1) (by rw[ar,ao h1'];rfl)
   have L0:=lbp _ m0
   have L1:=lbp _ m1
   have B0:=bG.at_ _ m0
   have B1:=bG.at_ _ m1
   generalize bks[0]=q0 at i0 L0 B0
   generalize bks[1]=q1 at i1 L1 B1
   refine⟨_,rfl,lb,_,_,_,rfl,rfl,.of bG.lst,i0,q0.1,_,rfl,.inr (.of B0),_,rfl,lb,_,_,_,rfl,rfl,.of bG.lst,i1,q1.1,_,rfl,.inr (.of B1),_,_,rfl,rfl,_,_,rfl,rfl,_,rfl,?_⟩
   rw[uZ,uZ]
   by_cases h9:(q0.2.length:Int)+(q1.2.length:Int)<9
   case neg=>exact u7 h9 (done (zB.refl _))
   refine uB h9 ?_
   refine⟨_,rfl,lb,_,_,_,rfl,rfl,.of bG.lst,i0,_,rfl,lb,_,_,_,rfl,rfl,.of bG.lst,i1,q0.1,q1.1,q0.2,q1.2,rfl,B0,B1,L0.toB.toisBk,L1.toB.toisBk,by omega,fun pb G1 s1 hpb=>?_⟩
   have bb:Bk (q0.2++q1.2) o:=⟨⟨by rw[aA];have:=L0.toB.lo;omega,by rw[aA];omega,fun z hz=>(bj.mp hz).elim (L0.toB.nm z) (L1.toB.nm z)⟩,o1,o3⟩
   refine⟨_,rfl,_,rfl,lb,_,_,_,rfl,rfl,.of (s1 _ _ bG.lst),i0,_,rfl,pb,q0.1,q0.2++q1.2,q0.2,o,rfl,hpb,s1 _ _ B0,bb,L0.toB,fun r G2 hr2 s2=>⟨_,rfl,?_⟩⟩
   rw[zIT (fun z hz=>bC _ hz) hr2]
   refine yJ ?_
   have s12:=s1.trans s2
   refine⟨_,rfl,_,rfl,lb,_,_,_,rfl,rfl,.of (s12 _ _ bG.lst),i1,_,rfl,pb,q1.1,q0.2++q1.2,q1.2,o,rfl,s2 _ _ hpb,s12 _ _ B1,bb,L1.toB,fun r G3 hr3 s3=>⟨_,rfl,?_⟩⟩
   rw[zIT (fun z hz=>aI _ hz) hr3]
   exact yJ (done (s12.trans s3))
  rintro σ G ⟨⟨x3,x4,x5,x6,x7,x8,x9,x10,x11,rfl⟩,d',un',kvs,ds,gG,gd,_,_⟩
  have k4:=gd.len gG.nd
  refine⟨_,rfl,k1,dx,_,rfl,gG.ins,rfl,k1,dx,d',dn,un',o,kvs,ds,rfl,gG,by omega,fun lt ts hp hs hn=>?_⟩
  have it:v1 kvs ts:=⟨hp,hs⟩
  have tl:ts.length=kvs.length:=by rw[hp.length_eq,aj]
  have sA:zB G (upd G lt (.lst (zE ts))):=zB.upd1 hn
  have lA:upd G lt (.lst (zE ts)) lt=some (.lst (zE ts)):=zI
  generalize upd G lt (.lst (zE ts))=G2 at sA lA
  have g2:=gG.same sA
  refine⟨_,rfl,k1,dx,_,rfl,g2.ins,rfl,k1,dx,d',dn,un',o,kvs,ds,rfl,g2,by omega,fun l2 ts2 hp2 hs2 hn2=>?_⟩
  rw[it.uniq ⟨hp2,hs2⟩]
  have sB:zB G2 (upd G2 l2 (.lst (zE ts))):=zB.upd1 hn2
  have lB:upd G2 l2 (.lst (zE ts)) l2=some (.lst (zE ts)):=zI
  generalize upd G2 l2 (.lst (zE ts))=G3 at sB lB
  have ebk:zE ts=(ts.map tx).map V.str:=by unfold zE;rw[aV];rfl
  refine⟨l2,ts.map tx,rfl,.of (by rw[<-ebk];exact lB),by rw[aj];omega,fun out l3 hm hs3 hn3=>?_⟩
  have eo:out.map (fun z:Str=>z.cps.toList)=ts:=zEf (cg.mpr hs3) it.2 fun z=>by
   constructor
   ·intro hz
    obtain⟨u,hu',rfl⟩:=aG.mp hz
    obtain⟨t,ht,rfl⟩:=aG.mp ((hm u).mp hu')
    rw[uE];exact ht
   ·intro hz
    exact aG.mpr ⟨tx z,(hm _).mpr (aG.mpr ⟨z,hz,rfl⟩),by rw[uE]⟩
  have e1:out.map V.str=zE ts:=by
   rw[<-eo]
   unfold zE
   rw[aV]
   refine cY fun z _=>?_
   show V.str z=V.str (tx z.cps.toList)
   rw[zID]
  rw[e1]
  have sC:zB G3 (upd G3 l3 (.lst (zE ts))):=zB.upd1 hn3
  have lC:upd G3 l3 (.lst (zE ts)) l3=some (.lst (zE ts)):=zI
  generalize upd G3 l3 (.lst (zE ts))=G4 at sC lC
  have sh:=shL fun t ht=>zBy t (gd.tt it ht)
  refine⟨.list (vU ts),.list (vU ts),j9 (sC _ _ (sB _ _ lA)),j9 lC,sh.1,sh.1,?_⟩
  rw[if_neg aH,zBL _ sh.2]
  exact k _
end
end Kn.Ln
end
section
namespace Kn
open PySem L2 Ln
def z8 (K:aa)(x:Str)(st:bY)(ps:List Str):Prop :=
 ∃(f:ai) (fd:aE),aT K mainGlobals x=some (some (.ref f))/\Fun K x x st f fd/\bU K (.ref f)=true/\vG K fd ps []
theorem zBz {K:aa}{x:Str}{st:bY}{f:ai}{e kV g pm b ct:ae}{od h:Option ai}{i:Array (Option ae)}(d:List Str)
  (j:∀(fd:aE),Fun K x x st f fd->vG K fd d [])
  (a:aT K mainGlobals x=some (some (.ref f))) (l:K.lookup f=some ⟨e,od,.func (cQ x x (defArgs st) (defBody st) (defScope st) .none kV g pm h b ct),i⟩) (c:dU K b x=true) (k:bU K (.ref f)=true):z8 K x st d :=
 ⟨f,_,a,gB (st:=st) l c k,k,j _ (gB (st:=st) l c k)⟩
structure Top (K:aa):Prop where
 is_name:z8 K "is_name" zBR ["thing"]
 is_book:z8 K "is_book" zBS ["thing"]
 is_whole:z8 K "is_whole" zBT ["thing","least","most"]
 is_order:z8 K "is_order" zBU ["thing"]
 need_book:z8 K "need_book" zBV ["thing"]
 need_books:z8 K "need_books" zDq ["thing"]
 need_order:z8 K "need_order" zBW ["thing"]
 need_name:z8 K "need_name" zCv ["thing"]
 need_names:z8 K "need_names" zDr ["thing"]
 end_of:z8 K "end_of" zCs ["text","order"]
 ends:z8 K "ends_and_letters" zCu ["name","order"]
 rows:z8 K "counted_rows" zCz ["book","order"]
 gcd:z8 K "greatest_divisor" zDB ["one","other"]
 low:z8 K "lowest" zDC ["up","down"]
 times:z8 K "times" zDD ["one","other"]
 is_less:z8 K "is_less" zDE ["one","other"]
 place:z8 K "place_of_greatest" zDo ["fractions"]
 part_in:z8 K "part_in" zDG ["row","letter"]
 stepsR:z8 K "steps_by_rows" zDI ["rows","order","name"]
 shareR:z8 K "share_by_rows" zDL ["rows","order","name"]
 share:z8 K "share" zDM ["book","order","name"]
 makes:z8 K "makes" zDN ["book","order","name"]
 all_:z8 K "share_of_all" zDp ["book","order","names"]
 best:z8 K "best_for" zDs ["books","order","names"]
 maker:z8 K "best_maker" zDt ["books","order","name"]
 mixed:z8 K "mixed" zDj ["one","other"]
 nextf:z8 K "next_firsts" zDf ["first_rows","rows","order","firsts"]
 alone_:z8 K "ends_by_rows_alone" zDg ["first_rows","rows","state"]
 lack:z8 K "lacking" zDh ["one","other","order"]
 allm:z8 K "makes_all" zDi ["one","other","order"]
 mkrs:z8 K "makers" zDu ["books","order","name"]
 cell:z8 K "_law_cell" zDP ["_law_script","_law_k"]
 drawn:z8 K "_law_drawn" zDQ ["_law_script","_law_k","_law_many"]
 lname:z8 K "_law_name" zDS ["_law_script","_law_at","_law_most"]
 lbook:z8 K "_law_book" zDT ["_law_script","_law_at","_law_many","_law_most"]
 lstep:z8 K "_law_step" zEe ["_law_script","_law_at","_law_ledger"]
 letters:∃t,aT K mainGlobals "LETTERS"=some (some (.str letters t))
 ml:∃t,aT K mainGlobals "MOST_LETTERS"=some (some (.int 8 t))
 mn:∃t,aT K mainGlobals "MOST_NAMES"=some (some (.int 8 t))
 mo:∃t,aT K mainGlobals "MOST_ORDER"=some (some (.int 3 t))
 ib:br K (.type "int") (.type "bool")=some false
 nought:∃a,aT K mainGlobals "NOUGHT"=some (some (.ref a))/\∀H,yH K H a [.int 0,.int 1]
 whole:∃a,aT K mainGlobals "WHOLE"=some (some (.ref a))/\∀H,yH K H a [.int 1,.int 1]
 eb:∃C,∀(h:ba) (mg:Str->Option ae),K.In h->h.Ns mainGlobals mg->XCls K mg "NoBook" C
 eo:∃C,∀(h:ba) (mg:Str->Option ae),K.In h->h.Ns mainGlobals mg->XCls K mg "NoOrder" C
 kitf:KitF K
 kst:∃S0 C,LgCls K S0 C/\zIS K S0 "__init__" "Stepper.__init__" sSI ["self","now"]/\qA K C "__init__" "Ledger.__init__" sLI ["self","order"]/\qA K C "step_to" "Stepper.step_to" sST ["self","after","word"]/\qA K C "need_title" "Ledger.need_title" sNT ["self","title"]/\qA K C "with_book" "Ledger.with_book" sWB ["self","title","book"]/\qA K C "keep" "Ledger.keep" zEB ["self","title","book"]/\qA K C "drop" "Ledger.drop" zED ["self","title"]/\qA K C "hear" "Ledger.hear" zEF ["self","title","name"]/\qA K C "titles" "Ledger.titles" zEH ["self"]/\qA K C "book" "Ledger.book" zEI ["self","title"]/\qA K C "tellers" "Ledger.tellers" zEM ["self","name"]/\qA K C "makers_of" "Ledger.makers_of" zEO ["self","name"]/\qA K C "best_of" "Ledger.best_of" zEQ ["self","name"]
 zlen:aT K mainGlobals "len"=some none
 zrange:aT K mainGlobals "range"=some none
 zall:aT K mainGlobals "all"=some none
 zisinstance:aT K mainGlobals "isinstance"=some none
 zstr:aT K mainGlobals "str"=some none
 ztuple:aT K mainGlobals "tuple"=some none
 zint:aT K mainGlobals "int"=some none
 zbool:aT K mainGlobals "bool"=some none
 zsorted:aT K mainGlobals "sorted"=some none
 zsum:aT K mainGlobals "sum"=some none
 zmin:aT K mainGlobals "min"=some none
 zlist:aT K mainGlobals "list"=some none
 zenumerate:aT K mainGlobals "enumerate"=some none
 zdict:aT K mainGlobals "dict"=some none
 zset:aT K mainGlobals "set"=some none
theorem zQI:(eR "abcdefghijklmnopqrstuvwxyz")=letters:=by decide+kernel
theorem zQJ {K:aa}{t:Tok}(h:aT K mainGlobals "LETTERS"=some (some (.str (eR "abcdefghijklmnopqrstuvwxyz") t))):∃t,aT K mainGlobals "LETTERS"=some (some (.str letters t)):=by
 rw[zQI]at h;exact⟨t,h⟩
theorem zQK {K:aa}{x:Str}{i:Int}{t:Tok}(h:aT K mainGlobals x=some (some (.int i t))):∃t,aT K mainGlobals x=some (some (.int i t)):=⟨t,h⟩
theorem zQL {K:aa}{x:Str}{a:ai}{i j:Int}{t t':Tok}{n:Nat}{dd:Option ai}{b:Array (Option ae)}(h:aT K mainGlobals x=some (some (.ref a)))
  (l:K.lookup a=some ⟨.type "tuple",dd,.seq #[.int i t,.int j t'] n,b⟩):∃a,aT K mainGlobals x=some (some (.ref a))/\∀H,yH K H a [.int i,.int j] :=
 ⟨a,h,fun H=>.inr ⟨_,_,_,l,rfl,rfl,by show 2<=sizeLine;decide,.cons ⟨t,rfl⟩ (.cons ⟨t',rfl⟩ .nil)⟩⟩
section
variable{P:aB}{w:aL}{K:aa}{mg:Str->Option ae}{base:ba}{h:ba}
theorem zQM {x:Str}{st:bY}{c:List Str}{k:Nat}{sp:Sp}(X:K.In h)(G:h.Ns mainGlobals mg)(H:z8 K x st c)(ok:∀(f:ai) (fd:aE),Fun K x x st f fd->FnOk P w K mg base zR k f fd c sp):zN P w K mg base k x c sp:=by
 obtain⟨f,fd,a,F,kp,b⟩:=H
 exact⟨f,fd,ok f fd F,cE X G a,kp,b⟩
theorem zQN {x:Str}{st:bY}{c:List Str}{k:Nat}{sp:Sp}(X:K.In h)(G:h.Ns mainGlobals mg)(H:z8 K x st c)(ok:∀(f:ai) (fd:aE),Fun K x x st f fd->FnOk P w K mg base (uP P w) k f fd c sp):u9 P w K mg base k x c sp:=by
 obtain⟨f,fd,a,F,kp,b⟩:=H
 exact⟨f,fd,ok f fd F,cE X G a,kp,b⟩
theorem zQO (X:K.In h)(G:h.Ns mainGlobals mg)(T:Top K){f:ai}{fd:aE}(F:Fun K "law" "law" jT f fd):FnOk P w K mg base zR 9 f fd ["_law_script"] (zAs K):=by
 have B:Blt mg:=⟨bB X G T.zlen,bB X G T.zrange,bB X G T.zall,bB X G T.zisinstance,bB X G T.zstr,bB X G T.ztuple,bB X G T.zint,bB X G T.zbool,bB X G T.zsorted,bB X G T.zsum,bB X G T.zmin⟩
 have C:Cst K mg:=⟨let⟨t,e⟩:=T.letters;⟨t,cE X G e⟩,let⟨t,e⟩:=T.ml;⟨t,cE X G e⟩,let⟨t,e⟩:=T.mn;⟨t,cE X G e⟩,let⟨t,e⟩:=T.mo;⟨t,cE X G e⟩,T.ib⟩
 have c {x:Str} {st:bY} {ps:List Str} {k:Nat} {sp:Sp} (a:z8 K x st ps) (b:∀(f:ai) (fd:aE),Fun K x x st f fd->FnOk P w K mg base zR k f fd ps sp):zN P w K mg base k x ps sp:=zQM X G a b
 have i {x:Str} {st:bY} {ps:List Str} {k:Nat} {sp:Sp} (a:z8 K x st ps) (b:∀(f:ai) (fd:aE),Fun K x x st f fd->FnOk P w K mg base (uP P w) k f fd ps sp):u9 P w K mg base k x ps sp:=zQN X G a b
 have C2:Cst2 K mg:=⟨let⟨a,e,q⟩:=T.nought;⟨a,cE X G e,q⟩,let⟨a,e,q⟩:=T.whole;⟨a,cE X G e,q⟩⟩
 have a0:=bB X G T.zlist
 have a1:=bB X G T.zenumerate
 have a2:=bB X G T.zdict
 have bf:=bB X G T.zset
 obtain⟨nb,bi⟩:=T.eb
 obtain⟨no,bl⟩:=T.eo
 have KF:=T.kitf
 have R:=c T.end_of fun f fd F=>zLg F
 have D:=c T.ends fun f fd F=>zLj F B R
 have j:=c T.is_name fun f fd F=>zLl F B C
 have E:=c T.is_book fun f fd F=>zLm F B C j
 have u:=c T.is_whole fun f fd F=>zLn F B C
 have v:=c T.is_order fun f fd F=>zLo F C u
 have M:=c T.need_book fun f fd F=>zLp F E
 have H:=c T.need_books fun f fd F=>zOH F B a0 M
 have I:=c T.need_order fun f fd F=>zLq F v
 have l:=c T.need_name fun f fd F=>zLs F j
 have a3:=c T.need_names fun f fd F=>zOJ F B a0 j
 have o:=c T.rows fun f fd F=>zLx F D
 have N:Needs P w K mg base:=⟨M,I,l,o⟩
 have a4:=c T.gcd fun f fd F=>zNy F
 have U:=c T.low fun f fd F=>zNz F a4
 have s:=c T.times fun f fd F=>zOA F U
 have J:=c T.is_less fun f fd F=>zOB F
 have ab:=c T.part_in fun f fd F=>zME F B C2 (zEg U zPo)
 have a5:=c T.stepsR fun f fd F=>zMH F D ab
 have W:=c T.shareR fun f fd F=>zMM F C2 a5 (zEg s zPp)
 have ac:=c T.share fun f fd F=>zMP F N W
 have al:=c T.makes fun f fd F=>zMQ F C2 ac (zEg J zPq)
 have am:=c T.place fun f fd F=>zOE F a1 C2 J
 have a6:=c T.all_ fun f fd F=>zOG F C2 o W s
 have an:=c T.best fun f fd F=>zOM F H I a3 a6 am
 have O:=c T.maker fun f fd F=>zOP F H I l ac am
 have a7:=c T.mkrs fun f fd F=>zOR F a1 H I l al
 have y:=c T.is_name fun f fd F=>zMk F B C KF
 have z:=c T.is_book fun f fd F=>zMl F B C KF y
 have p:=c T.is_whole fun f fd F=>zMn F B C KF
 have r:=c T.is_order fun f fd F=>zMo F C p
 have Y:=i T.need_book fun f fd F=>zMp F (bi h mg X G) z
 have a8:=i T.need_order fun f fd F=>zMq F (bl h mg X G) r
 have a9:=i T.mixed fun f fd F=>zNs F Y
 have bb:=c T.nextf fun f fd F=>zNf F B R
 have bm:=c T.alone_ fun f fd F=>zNh F
 have bn:=i T.lack fun f fd F=>zNp F B C Y a8 o bb bm
 have bo:=i T.allm fun f fd F=>zNr F bn
 have ap:=c T.cell fun f fd F=>zMU F B
 have n:=c T.drawn fun f fd F=>zMV F ap
 have L:=c T.lname fun f fd F=>zMW F B n
 have as:=c T.lbook fun f fd F=>zMX F B n L
 obtain⟨S0,g,d,mc,mi,mt,m1,m2,m3,m4,m5,m6,m7,m8,m9,bp⟩:=T.kst
 have A:LgC K g:=⟨d.cls,d.now,d.don,d.und,d.ord⟩
 have bt:zDx P w K mg base S0 1 "__init__" ["self","now"] (zEA g):=let⟨f,fd,F,m,b⟩:=mc;⟨f,fd,zOZ F A,m,b⟩
 have mI:zDw P w K mg base g 4 "Ledger" ["self","order"] (zBu g):=let⟨f,fd,F,m,b⟩:=mi;⟨f,fd,zOd F A (cE X G d.nst) I bt,⟨d.makes,m.at_,m.fn,d.kp⟩,cE X G d.ns,b⟩
 have aK:yM P w K mg base g 1 "step_to" ["self","after","word"] (zAp g):=let⟨f,fd,F,m,b⟩:=mt;⟨f,fd,zOb F A,m,d.cls,b⟩
 have aN:yM P w K mg base g 1 "need_title" ["self","title"] (zAq g):=let⟨f,fd,F,m,b⟩:=m1;⟨f,fd,zOi F A,m,d.cls,b⟩
 have be:yM P w K mg base g 1 "with_book" ["self","title","book"] (zBv g):=let⟨f,fd,F,m,b⟩:=m2;⟨f,fd,zOj F A a2,m,d.cls,b⟩
 have bv:yM P w K mg base g 4 "keep" ["self","title","book"] (zEC g):=let⟨f,fd,F,m,b⟩:=m3;⟨f,fd,zOk F A l M be aK,m,d.cls,b⟩
 have bx:yM P w K mg base g 3 "drop" ["self","title"] (zEE g):=let⟨f,fd,F,m,b⟩:=m4;⟨f,fd,zOl F A a2 l aN aK,m,d.cls,b⟩
 have bA:yM P w K mg base g 4 "hear" ["self","title","name"] (zEG g):=let⟨f,fd,F,m,b⟩:=m5;⟨f,fd,zOm F A B l M aN be aK,m,d.cls,b⟩
 have Q:yM P w K mg base g 1 "titles" ["self"] (zAL g):=let⟨f,fd,F,m,b⟩:=m6;⟨f,fd,zOo F A B,m,d.cls,b⟩
 have bG:yM P w K mg base g 3 "book" ["self","title"] (zEJ g):=let⟨f,fd,F,m,b⟩:=m7;⟨f,fd,zOq F A l aN,m,d.cls,b⟩
 have b1:yM P w K mg base g 3 "tellers" ["self","name"] (zEN g):=let⟨f,fd,F,m,b⟩:=m8;⟨f,fd,zOu F A l Q,m,d.cls,b⟩
 have b2:yM P w K mg base g 8 "makers_of" ["self","name"] (zEP g):=let⟨f,fd,F,m,b⟩:=m9;⟨f,fd,zOw F A l al Q,m,d.cls,b⟩
 have b3:yM P w K mg base g 7 "best_of" ["self","name"] (zER g):=let⟨f,fd,F,m,b⟩:=bp;⟨f,fd,zOx F A l ac am Q,m,d.cls,b⟩
 have Z:StepC P w K mg base g:=⟨n,L,as,Q,bG,bx,bA,bv⟩
 have aW:=c T.lstep fun f fd F=>zPj F B Z
 exact zQH F B bf ⟨Z,aW,mI,b1,b2,b3,al,a7,an,O,zNw a9,zNx bo⟩
end
theorem zQP {l:kh}{w:aL}{K:aa}{h:ba}{mg:Str->Option ae}{p i:ai}(X:K.In h)(G:h.Ns mainGlobals mg)(j:mg "law"=some (.ref p))
  {m b:Option ai} {n:Array (Option ae)} {o c d f a g:ae} (T:Top K)
  (q:aT K mainGlobals "law"=some (some (.ref i))) (r:K.lookup i=some ⟨o,m,.func (cQ "law" "law" (defArgs jT) (defBody jT) (defScope jT) .none c d f b a g),n⟩) (u:dU K a "law"=true) (x:bU K (.ref i)=true) :
  ∃fd:aE,(∀(s:ak) (v:ae),lN s fd ⟨[v],[]⟩ [("_law_script",v)])/\∀base:ba,K.In base->base.Ns mainGlobals mg->FnOk l.prog w K mg base zR 9 p fd ["_law_script"] (zAs K):=by
 have e:=j.symm.trans (cE X G q)
 cases e
 have y:=gB (st:=jT) r u x
 exact⟨cQ "law" "law" (defArgs jT) (defBody jT) (defScope jT) .none c d f b a g,fun s v=>.of_eq rfl,fun base _ _=>zQO X G T y⟩
theorem zQQ {l:kh}{q:aB}{loose:List Str}{XP:(Str->Option ae)->ba->Prop}{YP:aL->ba->Prop}{d:DefRec}{K:oE->aa}(e:l.most=some 63)(b:d.params.defaults=[])
  (g:∀(w:aL) (h:ba),YP w h->(K w.params).In h)
  (F:∀(w:aL) (mg:Str->Option ae) (c:ai) (h:ba),(K w.params).In h->h.Ns mainGlobals mg->mg d.name=some (.ref c)->
   ∃fd:aE,(∀(s:ak) (u:ae),lN s fd ⟨[u],[]⟩ [("_law_script",u)])/\∀base:ba,(K w.params).In base->base.Ns mainGlobals mg->FnOk l.prog w (K w.params) mg base zR 9 c fd ["_law_script"] (zAs (K w.params))) :
  pT q loose XP YP l.row.toRowW d [] (fun f vs=>oQ f vs) :=
 L2.zKl (n:=63) (k:=9) (x :="_law_script") (CX:=fun _=>zR) (sp:=fun w=>zAs (K w.params)) e (by decide) b ⟨rfl,by decide,by decide⟩ g F (fun _ _ a ns hl _ i=>⟨a,ns,rfl,i,hl,fun _=>rfl⟩) fun _ _ _ _ _ z=>z
end Kn
end
section
open PySem PySem.W PyProof.Rows
set_option maxRecDepth 100000 in
set_option maxHeartbeats 0 in
theorem PySem.Challenge.cw_kinnames_k91_whole_ledgers_holds : PySem.Challenge.rw_kinnames_k91_whole_ledgers.Holds := by
 w_on;o_law
 refine PySem.W.holds_open (q:=Kn.kq) (loose:=Kn.klo) (Xt:=fun s=>xlAt Kn.kq [] s&&recOk [] s) (XP:=XL Kn.kq []) (Yf:=Hook.obs (kHook Kn.kfr Kn.kas Kn.kas_e)) (Ya:=Hook.val (kHook Kn.kfr Kn.kas Kn.kas_e)) (YP:=Hook.says (kHook Kn.kfr Kn.kas Kn.kas_e)) (N:=6676) Kn.hl (Hook.of (kHook Kn.kfr Kn.kas Kn.kas_e)) (Hook.keeps (kHook Kn.kfr Kn.kas Kn.kas_e)) (fun s e=>xl_of s (Bool.and_eq_true_iff.mp e).1) XL.keeps (by rfl) (by rfl) (by rfl) (fun s e=>recFacts_of (Bool.and_eq_true_iff.mp e).2) (by rfl) (by first|assumption|decide+kernel) (by decide+kernel) ⟨rfl,rfl,rfl,rfl,rfl,by decide+kernel⟩ ?hw ?hc
 (case hw=>w_witness2)
 k_fill
 refine Kn.zQQ (l:=PySem.Challenge.rw_kinnames_k91_whole_ledgers) rfl rfl (fun w h Y=>PySem.W.kIn_of Y) ?F
 case F=>
  intro w mg fa h KX G hmg
  refine' Kn.zQP KX G hmg ?T ?a4 ?l4 ?c4 ?k4
  (case T=>
   refine' ⟨?is_name,?is_book,?is_whole,?is_order,?need_book,?need_books,?need_order,?need_name,?need_names,?end_of,?ends,?rows,?gcd,?low,?times,?is_less,?place,?part_in,?stepsR,?shareR,?share,?makes,?all_,?best,?maker,?mixed,?nextf,?alone_,?lack,?allm,?mkrs,?cell,?drawn,?lname,?lbook,?lstep,?letters,?ml,?mn,?mo,?ib,?nought,?whole,?eb,?eo,?kitf,?kst,?zlen,?zrange,?zall,?zisinstance,?zstr,?ztuple,?zint,?zbool,?zsorted,?zsum,?zmin,?zlist,?zenumerate,?zdict,?zset⟩
   (case is_name|is_book|is_order|need_book|need_books|need_order|need_name|need_names|place=>refine' Kn.zBz _ (fun fd F=>F.binds fun _ _ _ _ _ _ us hl=>match us,hl with| [_],_=>rfl) ?kna ?knl ?knc ?knk;(case kna=>k_is);(case knl=>k_is);(case knc=>k_is);(case knk=>k_is))
   (case end_of|ends|rows|gcd|low|times|is_less|part_in|mixed|cell=>refine' Kn.zBz _ (fun fd F=>F.binds fun _ _ _ _ _ _ us hl=>match us,hl with| [_,_],_=>rfl) ?kna ?knl ?knc ?knk;(case kna=>k_is);(case knl=>k_is);(case knc=>k_is);(case knk=>k_is))
   (case is_whole|stepsR|shareR|share|makes|all_|best|maker|alone_|lack|allm|mkrs|drawn|lname|lstep=>refine' Kn.zBz _ (fun fd F=>F.binds fun _ _ _ _ _ _ us hl=>match us,hl with| [_,_,_],_=>rfl) ?kna ?knl ?knc ?knk;(case kna=>k_is);(case knl=>k_is);(case knc=>k_is);(case knk=>k_is))
   (case nextf|lbook=>refine' Kn.zBz _ (fun fd F=>F.binds fun _ _ _ _ _ _ us hl=>match us,hl with| [_,_,_,_],_=>rfl) ?kna ?knl ?knc ?knk;(case kna=>k_is);(case knl=>k_is);(case knc=>k_is);(case knk=>k_is))
   (case letters=>refine' Kn.zQJ ?knq;(case knq=>k_is))
   (case ml|mn|mo=>refine' Kn.zQK ?knq;(case knq=>k_is))
   (case ib=>first|rfl|kernel_rfl|decide+kernel)
   (case nought|whole=>refine' Kn.zQL ?knq ?knr;(case knq=>k_is);(case knr=>k_is))
   (case eb|eo=>refine' Kn.Ln.zNt ?knq ?knr;(case knq=>k_is);(case knr=>first|rfl|kernel_rfl|decide+kernel))
   (case kitf=>constructor<;>first|rfl|kernel_rfl|decide+kernel)
   (case kst=>refine' ⟨_,_,⟨?n0,?n1,⟨?n2,?n3,?n4,?n5⟩,?n6,?n7,?n8,?n9,?na,?nb⟩,?mc,?mi,?mt,?m1,?m2,?m3,?m4,?m5,?m6,?m7,?m8,?m9,?m10⟩;(case n0=>k_is);(case n1=>k_is);(case n2|n3|n4|n5|n6|n7|n8|n9|na|nb=>k_is);(case mc=>refine' Kn.Ln.zPr _ (fun fd F=>F.binds fun _ _ _ _ _ _ us hl=>match us,hl with| [_,_],_=>rfl) ?kna ?knr ?kns ?knl ?knc ?knk;(case kna=>k_is);(case knr=>k_is);(case kns=>k_is);(case knl=>k_is);(case knc=>k_is);(case knk=>k_is));(case m6=>refine' Kn.Ln.zDy _ (fun fd F=>F.binds fun _ _ _ _ _ _ us hl=>match us,hl with| [_],_=>rfl) ?kna ?kni ?knl ?knc ?knk;(case kna=>k_is);(case kni=>k_is);(case knl=>k_is);(case knc=>k_is);(case knk=>k_is));(case mi|m1|m4|m7|m8|m9|m10=>refine' Kn.Ln.zDy _ (fun fd F=>F.binds fun _ _ _ _ _ _ us hl=>match us,hl with| [_,_],_=>rfl) ?kna ?kni ?knl ?knc ?knk;(case kna=>k_is);(case kni=>k_is);(case knl=>k_is);(case knc=>k_is);(case knk=>k_is));(case mt|m2|m3|m5=>refine' Kn.Ln.zDy _ (fun fd F=>F.binds fun _ _ _ _ _ _ us hl=>match us,hl with| [_,_,_],_=>rfl) ?kna ?kni ?knl ?knc ?knk;(case kna=>k_is);(case kni=>k_is);(case knl=>k_is);(case knc=>k_is);(case knk=>k_is)))
   (case zlen|zrange|zall|zisinstance|zstr|ztuple|zint|zbool|zsorted|zsum|zmin|zlist|zenumerate|zdict|zset=>k_is))
  (case a4=>k_is);(case l4=>k_is);(case c4=>k_is);(case k4=>k_is)
end
