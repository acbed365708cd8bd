import PyProof.Rows.All
import Wide.All
import OpenK.AllK
import Wide.FinOn
import Lean
import PyProof.EqAt
import PyProof.EqKinds
import PyProof.TupleCall
import PyProof.CompFree
import KE.KSortAsk
import KE.KSortTup
import KE.KRevSl
import PyProof.AttrMissSeq
import KE.KDictOf
import KE.KxText
import PyProof.Rows.Range3
import PyProof.ZipIter
import PyProof.Draws
import PyProof.TupleIter
import PyProof.Rows.ZipGen
import PyProof.WalksMore
import PyProof.Rows.InDataRows
import PyProof.Rows.StrItems
import PyProof.StrLawsTight
import PyProof.StrLawsChain
import PyProof.MeetsStr
import PyProof.PureStr
import PyProof.StrLawsFirst
import PyProof.Rows.StrNews2
import PyProof.FactsAll.dict_2
import PyProof.Rows.SetFrom
import PySem.Challenge.RW_kinnames_k02_whole_tables
open PySem renaming wpAny_bind→aa,Value→af,wpAny_pure→ag,Shared→aj,Addr→av,Program→aI,World→aR,sizeLine_eq→aV,Heap→bt,FuncData→bw,wpAny_newObj_type→bC,wpAny_holding→bD,Around→bF,wpAny_setState_of→bM,codeAny_builtin→bP,wpAny_call_entry→bR,Expr→bV,wpAny_mono→bZ,Builtin→b7,plainId_quiet→cy,boot_len→cE,wpAny_Call_Name_kw→cF,codeAny_mono→cI,fits_of_scanBound→cN,mem_of_lookup→cQ,SetTable→cR,isSubtype_type→c8,wpAny_setField_rec→de,PyData→dk,wpAny_ite_split→dv,wpAny_truthy_bool→dy,Stmt→dB,Spec→dC,wpAny_setEntries_of→dI,wpAny_callSpecial?_slot→dP,strKind→d6,Scope→ef,wpAny_pyIter_list→eg,wpAny_typeOf→eC,wpAny_passesOwn→eM,wpAny_seqItems→ff,wpAny_dictEntries→fg,wpAny_setEpoch_of→fh,builtinLookup_eq_fast→fm,wpAny_newList→ft,wpAny_updateSeq→fB,NameKind→fN,tupleKind_room_in1→fO,wpAny_runValue→fU,wpAny_storeSet_of→f9,wpAny_pyIter_slot→gb,wpAny_comprehension_free→gf,noFill_tuple_add→gk,wpAny_forIn_list→gu,wpAny_isInstance→gv,wpAny_askSetting→gw,call_meetsIn→ia,codeAny_compStart_list→ie,wpAny_rule→iw,wpAny_execs_nil→iB,wpAny_loadPart'→iD,wpAny_specialOf→iE,codeAny_of_tree→iI,typeLookup_type→iJ,wpAny_notOrdered_dict→iN,wpAny_eqIsQuiet_tuple→iO,wpAny_isSame_ref_self→iP,weight_type_call_type→iQ,GenState→iV,Result→iY,wpAny_newFunctionEnv→i8,wpAny_newTuple→ja,wpAny_fieldsOf→jg,codeAny_extend_loopS→jh,codeAny_call_builtin→jj,Keyword→jk,seq_tuple_add→jn,evalPart_none→jo,wpAny_attempt→jt,Paired→jv,wpAny_pyIter_tuple→jw,PlainAttrs→jz,wpAny_assign_Name→km,BindsTo→ku,concat_meets→kx,list_append→lg,wpAny_pyHash_str→lF,wpAny_eqBool_int→lG,wpAny_eqBool_str→lH,wpAny_execs_cons→lI,wpAny_Dict_empty→lL,Fin→lO,entryFor_of_tree→lQ,check_set_init_1→lV,wpAny_field→lY,size_of_entries→mf,wpAny_dictEpoch→mh,Params→mq,wpAny_Name→mr,wpAny_load→mw,wpAny_call→my,call→mB,call_meets→mD,entryFor_alias→mL,KeyKind→mY,intBits_le_64→mZ,evalPart_some→ny,call_list_seq→nz,wpAny_standAt→nB,Builtin→nF,signature?_of→nJ,Within→nQ,CmpOp→oe,Walks→og
open PySem.Heap renaming get?_push_of_some→ae,get?_push_size→aw,lt_size→aA,size_push→aT,get?_update_other→bq,get?_update_self→dj,SameBut→eA,get?_none_of_le→iU
open List renaming getElem?_eq_some_iff→ah,length_map→ak,mem_cons_self→ao,mem_cons_of_mem→au,getElem?_map→az,mem_map→aB,getElem?_eq_getElem→aC,length_append→aD,mem_cons→aE,take_succ_eq_append_getElem→aF,map_append→aJ,map_cons→aM,map_map→aO,mem_append_right→aP,pairwise_map→aQ,range→aS,mem_of_getElem?→aU,length_take→aW,size_toArray→aY,take_length→ba,length_cons→bf,count_pos_iff→bj,mem_range→bp,lookup_cons→bz,nodup_cons→bA,pairwise_cons→bJ,not_mem_nil→bK,length_range→bL,mem_singleton→bN,map_congr_left→bO,getD_eq_getElem?_getD→bQ,ext_getElem→bS,length_drop→bT,mem_append_left→bU,filter_append→bW,mem_filter→bY,mem_append→b8,getElem_mem→cg,mem_iff_getElem?→cj,filter_cons_of_pos→cu,replicate→cB,sum_cons→cK,getElem_inj→cY,getElem_map→cZ,mem_flatMap→c6,getElem?_append_right→c7,take_append_drop→di,getElem?_append_left→dm,pairwise_iff_getElem→dn,append_assoc→dw,reverse_cons→dz,count_append→dA,getElem_of_mem→dG,mem_map_of_mem→dH,filter_cons_of_neg→dR,find?_cons→d0,lookup_cons_self→d7,length_filter_le→d8,mem_of_mem_take→et,toArray→eB,filterMap_cons→eE,length_reverse→eF,getElem?_take_of_lt→eG,count→eO,length_eq_zero_iff→eT,nodup_append→fb,filter_eq_nil_iff→fc,take_of_length_le→fe,length_singleton→fj,getElem?_eq_none→fk,getElem?_toArray→fo,any_cons→fq,mem_of_mem_drop→fw,range_succ→fy,getElem?_range→fD,flatMap_append→fE,perm_append_singleton→fS,length_eraseIdx_of_lt→fT,length→f6,map_id→f7,getElem?_replicate→gj,map_flatMap→gn,getElem?_set_self→hV,map_nil→h9,Nodup→ip,drop_of_length_le→iq,length_pos_of_mem→iu,of_mem_zip→iC,forIn_cons→iG,sum_append→iH,length_replicate→iK,count_cons_of_ne→iL,getElem?_set_ne→iW,nodup_nil→i0,drop_zero→jc,replicate_succ'→jd,filter_eq_self→jm,mem_filterMap→jx,map_replicate→kf,map_singleton→kh,foldl_append→lr,count_filter→lx,flatMap_cons→ly,filter_cons→lK,all_eq_true→lP,cons_append→lR,mem_reverse→lW,length_nil→lZ,foldl_cons→l6,count_cons→l9,drop_left'→me,forIn_nil→mC,lt_irrefl→mE,map→mF,lt_trans→nD,take→nP,not_lt→oj
open PySem.W renaming Frag→ai,nsIn→bg,mg_none_of→br,kia_one→cb,kas_place→cq,emptyDict→cA,fnOf→cS,instObj→du,keepIn→dJ,kas_desc→dO,looks_pair→el,mg_of→eL,codeIn→eV,kas_asc→eY,kas_descPart→fH,kitOne→fM,methodObj→fY,cellsFrom_some→hZ,kas_rev→ig,OpenLaw→iF,lookIn→iX,kitx_list→ko,kitx_dict→kr,kas_bin→lh,kas_sort→ll,plainGet→lJ,kas_count→lN,SharedT→mj,findIn→mx,WalkO→nA
open Nat renaming le_refl→ay,ne_of_lt→aG,lt_succ_of_lt→aZ,lt_of_lt_of_le→bb,lt_succ_self→bB,lt_irrefl→bG,zero_le→bH,le_trans→cm,le_of_eq→cH,ne_of_gt→cT,mod_lt→eP,le_succ→fx,lt_trans→fG,le_of_lt→hU,le_of_succ_le→lC,sub_zero→nS,add_zero→nT,sub_self→nX,not_lt→oE
open Option.some renaming inj→aH
open PySem.SetTable renaming below→aL,bits→cf,grown→c9,runEnd→d4,insertAt→ek,Probe→fV,has→iz,fits→ju,laid→nI,slot→nK,fill→nL
open Array renaming length_toList→aN,getElem?_eq_getElem→bu,getElem?_toList→dh,toList_inj→eu,toList_push→fX,getElem?_eq_none→iy,forIn_toList→ki,toList→nR,ext→oK
open Bool renaming false_eq_true→aX,false_ne_true→bc,and_eq_true→cG,eq_iff_iff→dZ,and_self→d5,not_true→fu,and_false→ji,false_or→jq,true_or→kz,eq_false_iff→lE
open PySem.Challenge renaming pw_kinnames_k02_whole_tables→bo
open PySem.PyData renaming canLayAll0→bx,depthAll→cc,canLay0→cD,depth→dY,eqv→eN,eqvAll→nC,strOk→nV
open Prod.mk renaming inj→bE
open PySem.Around renaming under_plainId→bI,in1_units→gs,under_plain→kl
open PySem.F renaming called_set→bX,plain_extend_loop→dt,plainAttrs_dict→dN,slot_list_getattribute→dQ,plain_list_iadd→dU,slot_set_iter→d9,args_tuple_add_2→eI,entry_tuple_add→eR,slot_dict_items→eS,slot_tuple_add→eW,slot_dict_get→fi,slot_dict_setdefault→fA,entry_proto_collect→fJ,plain_proto_collect→fK,args_dict_get_3→gm,type_dict_items→gq,args_set_iter_1→gx,entry_list_iadd→gz,entry_dict_get→ic,plainAttrs_str→ir,args_list_append_2→i9,slot_dict_ne→jf,entry_list_append→jl,slot_list_append→kc,entry_type_call→lD,typeCall_set_1→lT,entry_set_init→lU,plain_set_new→mi
open PySem.Value renaming isStrOf→ck,isStrOf_shape→cP,isInt→n8
open PySem.Obj renaming mapSeq→cn,putSet→mJ
open PySem.Builtin.Str renaming occurrences→cp,strSliceIndices→cx
open PyProof.Rows.F renaming plain_set_update_loop→cw,entry_set_update_loop→dS
open Option renaming map_eq_some_iff→cz,bind_eq_some_iff→eQ
open Int renaming toNat_natCast→cC,emod_lt_of_pos→kg,emod_nonneg→md
open PySem.Txt renaming endswith→cJ,join→lq,slice→nO
open PyProof.Rows renaming boot_sorted→cL,boot_isinstance→cO,callWith_type1→cU,slot_tuple_getitem→dF,callWith_builtin1→dM,boot_sum→ee,entry_list_sort→fz,slot_list_sort→fP,args_list_sort→fQ,AllBare→fZ,boot_tuple→gp,plain_sorted→ij,entry_sorted→ik,args_sorted1→il,boot_list→iA,boot_all→iM,boot_set→iR,kind_sorted→jb,listUpdate_at→jr,Subscript_→jy,IntsAre→ky,seqEpoch_at→lX,get?_update_seq→l5,StrsAre→mm,slicePart_none→mG,strKind_oneLt→nE,boot_bool→nU,boot_dict→nY,boot_str→nZ,boot_int→n0,boot_max→n6,tail_any→oh
open List.Perm renaming refl→cM,append_left→n5,length_eq→ou,nodup_iff→ox,mem_iff→oF
open PySem.SeqAt renaming shaped→cV
open PySem.Builtin.List renaming listExtendWith→cX,listSameRef→dE,listLengthHint→fI
open Ne renaming symm→dg
open PySem.Calls renaming call_function_entry→dq,spliced_cons→dX,spliced_nil→eU,callWith_builtin→eX,Name_function_global→fL,evalArgs_plain→iZ
open PySem.Builtin.Tuple renaming tupleExact→dD,tupleItemsOf→mH
open False renaming elim→dW
open PySem.PassesOwn renaming never→d3
open List.Pairwise renaming map→eh,imp_of_mem→eJ
open PySem.Builtin.Slice renaming slicePlaces→eD,sliceApplied→fR,sliceFields→mX
open PySem.Shared renaming TypeIs→eK
open PySem.Str renaming ofString→eZ,length→mz,empty→oI
open PySem.Builtin.Frozenset renaming updateFrom→fC,sizeOf→gh,slot0→gy,newClass→mK
open PySem.Heap.SameBut renaming update→fF,refl→oG
open PySem.Builtin.Dict renaming dictSlotArgs→fW,updateFrom→gr,samePairs→ix,addKeywords→nG,selfAndRest→nH,pairItems→nW,showsAll→n4
open PySem.SetTable.probe renaming go→gc
open PySem.Paired renaming length→gd,snoc→oi
open Sum.inl renaming inj→iS
open Sum.inr renaming inj→iT
open Std.Legacy.Range renaming forIn_eq_forIn_range'→je
open PySem.Moved renaming eq_with→js,trans→om
open PySem.Walks renaming list→ke
open PySem.Code renaming quiet_builtin→kj
open Prod renaming fst→lu,snd→mI
open String renaming splitOnAux→lz,splitOn→mM
open PySem.pickOrder renaming go→lA
open PySem.SetTable.below renaming go→lB
open PySem.IsL renaming update→lM
open PySem.EqNone renaming eq_none_none→mN,eq_none_bool→mO,eq_bool_none→mP,ne_none_none→mS,ne_none_bool→mT,ne_bool_none→mU,eq_none_int→m8,eq_none_str→m9,eq_int_none→nc,eq_str_none→nh,ne_none_int→nj,ne_none_str→nk,ne_int_none→nq,ne_str_none→nu
open PySem.EqMixed renaming eq_bool_str→mQ,eq_str_bool→mR,ne_bool_str→mV,ne_str_bool→mW,eq_int_str→ng,eq_str_int→ni,ne_int_str→nr,ne_str_int→nv
open PySem.Builtin.Range renaming rangeSize→nM
open PyProof.Rows.IsTup renaming new→nN
open PySem.SeqAt.EqAt renaming bool_bool→n9,str_bool→oq,bool_str→ot,int_str→oy,str_int→oz,str_str→oB
open PySem.ItemsOf renaming nil→oo
open PySem.W.WShape renaming has→oA
open PySem.Heap.IsSliceOf renaming new→oD
open PySem.DictEntry renaming refKey→oH
open PySem.Heap.DictOfH renaming new→oJ
open PySem.Heap.DictOf renaming new→oM
set_option Elab.async false
set_option linter.all false
set_option maxRecDepth 100000
set_option maxHeartbeats 4000000
section
namespace L2
open PySem
def inClass (s:dB)(j:Nat):dB:=match s with
 | .ClassDef _ _ _ body _ _ _ _ _ _ _=>body.getD j (.Pass ⟨0,0,0,0⟩)
 |_=>.Pass ⟨0,0,0,0⟩
def defArgs (s:dB):Arguments:=match s with
 | .FunctionDef _ a _ _ _ _ _ _ _ _=>a
 |_=>{posonlyargs:=[],args:=[],vararg:=none,kwonlyargs:=[],kw_defaults:=[],kwarg:=none,defaults:=[]}
def defBody (s:dB):List dB:=match s with
 | .FunctionDef _ _ b _ _ _ _ _ _ _=>b
 |_=>[]
def defScope (s:dB):ef:=match s with
 | .FunctionDef _ _ _ _ _ _ sc _ _ _=>sc
 |_=>{kind:=.function,names:=[],isGenerator:=false,isCoroutine:=false}
end L2
namespace Kn
open PySem
def top (i:Nat):dB:=bo.main.body.getD i (.Pass ⟨0,0,0,0⟩)
end Kn
namespace Kn
open PySem PySem.W PyProof.Rows
def topRunT (tb:String->Option b7)(p:aI)(w:aR)(n₀:Nat)(ann:Option af):Nat->mj->Thread->Option mj
 |0,_,_=>none
 |n+1,s,t=>match through t with
  |true=>some s
  |false=>match stepOk n₀ ann t with
   |false=>none
   |true=>match stepT (denote tb) p w s t with
    |some (s',t')=>topRunT tb p w n₀ ann n s' t'
    |none=>none
theorem topRun_of {tb:String->Option b7}{p:aI}{w:aR}{n₀:Nat}{ann:Option af}:∀{n:Nat}{s s':mj}{t:Thread},topRunT tb p w n₀ ann n s t=some s'->topRun tb p w n₀ ann n s.abs t=some s'.abs
 |0,_,_,_,h=>by cases h
 |n+1,s,s',t,h=>by
  unfold topRunT at h
  unfold topRun
  cases he:through t with
  |true=>rw[he]at h;cases h;rfl
  |false=>
   rw[he]at h
   cases hk:stepOk n₀ ann t with
   |false=>rw[hk]at h;cases h
   |true=>
    rw[hk]at h
    cases hs:stepT (denote tb) p w s t with
    |none=>rw[hs]at h;cases h
    |some r=>obtain⟨s₂,t₂⟩:=r;rw[hs]at h;rw[stepT_spec hs];exact topRun_of h
def insAll:List Obj->Nat->BT->Option BT
 | [],_,T=>some T
 |o::os,n,T=>match((T.ins n o).get n).isSome with
  |true=>insAll os (n+1) (T.ins n o)
  |false=>none
theorem insAll_abs {life:Life}:∀{os:List Obj}{n:Nat}{T T':BT},insAll os n T=some T'->(absHeap T' (n+os.length) life).objs.toList=(absHeap T n life).objs.toList++os
 | [],n,T,T',h=>by cases h;simp
 |o::os,n,T,T',h=>by
  unfold insAll at h
  cases hi:((T.ins n o).get n).isSome with
  |false=>rw[hi]at h;cases h
  |true=>
   rw[hi]at h
   have h1:=insAll_abs (life:=life) h
   have h2:=absHeap_ins (life:=life) hi
   have e:n+1+os.length=n+(o::os).length:=by rw[bf];omega
   rw[<-e,h1,h2]
   show((absHeap T n life).objs.push o).toList++os=_
   rw[fX,dw];rfl
theorem insAll_of {s:aj}{T:BT}(h:insAll s.heap.objs.toList 0 .nil=some T):(SharedT.mk T s.heap.objs.size s.heap.life s.gens s.drawn s.toks s.os).abs=s:=by
 have h1:=insAll_abs (life:=s.heap.life) h
 have e0:(absHeap .nil 0 s.heap.life).objs.toList=[]:=rfl
 have e1:0+s.heap.objs.toList.length=s.heap.objs.size:=by rw[Nat.zero_add];rfl
 rw[e0,List.nil_append,e1]at h1
 have h2:absHeap T s.heap.objs.size s.heap.life=s.heap:=by
  have h3:(absHeap T s.heap.objs.size s.heap.life).objs=s.heap.objs:=eu.mp h1
  have h4:(absHeap T s.heap.objs.size s.heap.life).life=s.heap.life:=rfl
  generalize absHeap T s.heap.objs.size s.heap.life=A at h3 h4
  cases A
  obtain⟨⟨o,l⟩,_,_,_,_⟩:=s
  subst h3 h4
  rfl
 unfold SharedT.abs
 dsimp only
 rw[h2]
def topFromT (tb:String->Option b7)(p:aI)(w:aR)(N:Nat)(s₀:aj)(T₀:mj):Option aj :=
 match s₀.heap.isNs mainGlobals&&s₀.gens.size==0 with
 |true=>(topRunT tb p w s₀.heap.objs.size (s₀.heap.nsMap mainGlobals "__annotations__") N T₀ (topStub p)).bind fun t₁=>match staticsOk (importedModules p.main.body) s₀.heap t₁.abs.heap&&namesBound p t₁.abs.heap&&gensDone t₁.abs&&laidKept s₀.heap t₁.abs.heap with
   |true=>some t₁.abs
   |false=>none
 |false=>none
theorem topFrom_of {tb:String->Option b7}{p:aI}{w:aR}{N:Nat}{s₀:aj}{T₀:mj}{s₁:aj}(e:T₀.abs=s₀)(h:topFromT tb p w N s₀ T₀=some s₁):topFrom tb p w N s₀=some s₁:=by
 unfold topFromT at h
 unfold topFrom
 cases hb:s₀.heap.isNs mainGlobals&&s₀.gens.size==0 with
 |false=>rw[hb]at h;cases h
 |true=>
  rw[hb]at h
  dsimp only at h⊢
  obtain⟨t₁,h1,h2⟩:=eQ.mp h
  have h3:=topRun_of h1
  rw[e]at h3
  rw[h3]
  exact h2
def openEndsT (tb:String->Option b7)(p:aI)(w:aR)(N:Nat):Option aj:=(fencedOpening tb p w N).bind fun s₀=>(insAll s₀.heap.objs.toList 0 .nil).bind fun T=>topFromT tb p w N s₀ ⟨T,s₀.heap.objs.size,s₀.heap.life,s₀.gens,s₀.drawn,s₀.toks,s₀.os⟩
theorem openEnds_of {tb:String->Option b7}{p:aI}{w:aR}{N:Nat}{s₁:aj}(h:openEndsT tb p w N=some s₁):openEnds tb p w N=some s₁:=by
 obtain⟨s₀,h1,h2⟩:=eQ.mp h
 obtain⟨T,h3,h4⟩:=eQ.mp h2
 unfold openEnds
 rw[h1]
 exact topFrom_of (insAll_of h3) h4
theorem openMap_of {tb:String->Option b7}{p:aI}{w:aR}{N:Nat}{α:Type}{F:aj->α}{r:α}(h:(openEndsT tb p w N).map F=some r):(openEnds tb p w N).map F=some r:=by
 obtain⟨s₁,h1,h2⟩:=cz.mp h
 rw[openEnds_of h1,Option.map_some,h2]
end Kn
open PySem PySem.W PyProof.Rows
namespace Kn
open L2
def kE (P:mq)(x:Str)(t:Nat)(v:af):DictEntry:=⟨PyData.keyHash P x,.str x t,v⟩
def kF (s:dB)(nm qn:Str)(df kd doc pm:af)(an:Option av)(cd ct:af)(c:af)(d:Option av)(sl:Array (Option af)):Obj :=
 ⟨c,d,.func (cS nm qn (defArgs s) (defBody s) (defScope s) df kd doc pm an cd ct),sl⟩
def kC (n:Str)(a b c:Nat)(i3 i4 i5 i6 i7:Int)(r8:av)(b9:Bool)(i10:Int)(r11 r13 r14 r15:av)(i16 i17:Int)(e:Nat):Obj :=
 ⟨.type "code",none,.fields #[.str n a,.str n b,.str (.ofString "/claim/cut.py") c,.int i3 0,.int i4 0,.int i5 0,.int i6 0,.int i7 0,.ref r8,.bool b9,.int i10 0,.ref r11,.none,.ref r13,.ref r14,.ref r15,.int i16 0,.int i17 0,.str (.ofString "/claim/cut.py") e],#[]⟩
def kD (s:dB)(n m:Str)(t:Nat)(c:av):Obj:=kF s n n .none .none .none (.str m t) none (.ref c) .none (.type "function") none #[]
noncomputable def kfr:mq->Frag:=fun P=>(nat_lit 2,⟨.none,none,.dict #[] 0,#[]⟩)::
 (nat_lit 3,⟨(.type "dict"),none,.dict #[kE P (.ofString "__name__") 165 (.str (.ofString "law_kinnames_k02_whole_tables") 364),kE P (.ofString "__doc__") 166 .none,kE P (.ofString "__package__") 167 .none,kE P (.ofString "__loader__") 168 (.builtin "__main__.__loader__#opaque"),kE P (.ofString "__spec__") 169 .none,kE P (.ofString "__annotations__") 170 (.ref 6),kE P (.ofString "__builtins__") 171 (.ref 4),kE P (.ofString "__file__") 173 (.str (.ofString "/claim/cut.py") 172),kE P (.ofString "__cached__") 174 .none,kE P (.ofString "LikeError") 206 (.ref 24),kE P (.ofString "NoBook") 222 (.ref 37),kE P (.ofString "NoOrder") 238 (.ref 49),kE P (.ofString "NoName") 254 (.ref 61),kE P (.ofString "LETTERS") 258 (.str (.ofString "abcdefghijklmnopqrstuvwxyz") 257),kE P (.ofString "MOST_LETTERS") 260 (.int (8) 259),kE P (.ofString "MOST_NAMES") 262 (.int (8) 261),kE P (.ofString "MOST_ORDER") 264 (.int (3) 263),kE P (.ofString "is_name") 270 (.ref 68),kE P (.ofString "is_book") 276 (.ref 73),kE P (.ofString "is_whole") 285 (.ref 80),kE P (.ofString "is_order") 292 (.ref 87),kE P (.ofString "need_book") 299 (.ref 94),kE P (.ofString "need_order") 306 (.ref 101),kE P (.ofString "need_name") 313 (.ref 108),kE P (.ofString "need_name_or_empty") 320 (.ref 115),kE P (.ofString "end_of") 328 (.ref 122),kE P (.ofString "ends_and_letters") 334 (.ref 127),kE P (.ofString "counted_rows") 347 (.ref 134),kE P (.ofString "table") 353 (.ref 139),kE P (.ofString "behind") 363 (.ref 146),kE P (.ofString "_law_cell") 373 (.ref 153),kE P (.ofString "_law_drawn") 383 (.ref 160),kE P (.ofString "_law_name") 389 (.ref 165),kE P (.ofString "_law_book") 401 (.ref 172),kE P (.ofString "_law_pairs") 407 (.ref 177),kE P (.ofString "law") 413 (.ref 182)] 36,#[]⟩)::
 (nat_lit 23,⟨(.type "dict"),none,.dict #[kE P (.ofString "__module__") 196 (.str (.ofString "kinnames.errors") 187),kE P (.ofString "__firstlineno__") 200 (.int (2) 199),kE P (.ofString "__static_attributes__") 201 (.ref 22),kE P (.ofString "__weakref__") 203 (.ref 25),kE P (.ofString "__doc__") 204 .none] 3,#[]⟩)::
 (nat_lit 24,⟨(.type "type"),none,.cls ⟨(.ofString "LikeError"),[(.type "ValueError")],[(.ref 24),(.type "ValueError"),(.type "Exception"),(.type "BaseException"),(.type "object")],23,(.ofString "LikeError"),true,[],[(.ref 37),(.ref 49),(.ref 61)],false,none,false⟩,#[(some (.ref 15)),none,(some (.str (.ofString "LikeError") 189)),(some (.str (.ofString "LikeError") 197)),(some (.builtin "ValueError.__new__")),(some (.bool true))]⟩)::
 (nat_lit 25,⟨(.type "getset_descriptor"),none,.fields #[(.str (.ofString "__weakref__") 202),(.ref 24),(.builtin "ExceptionGroup.__weakref__"),.none],#[]⟩)::
 (nat_lit 36,⟨(.type "dict"),none,.dict #[kE P (.ofString "__module__") 214 (.str (.ofString "kinnames.errors") 187),kE P (.ofString "__firstlineno__") 218 (.int (4) 217),kE P (.ofString "__static_attributes__") 219 (.ref 35),kE P (.ofString "__doc__") 220 .none] 2,#[]⟩)::
 (nat_lit 37,⟨(.type "type"),none,.cls ⟨(.ofString "NoBook"),[(.ref 24)],[(.ref 37),(.ref 24),(.type "ValueError"),(.type "Exception"),(.type "BaseException"),(.type "object")],36,(.ofString "NoBook"),true,[],[],false,none,false⟩,#[(some (.ref 28)),none,(some (.str (.ofString "NoBook") 207)),(some (.str (.ofString "NoBook") 215)),(some (.builtin "ValueError.__new__")),(some (.bool true))]⟩)::
 (nat_lit 48,⟨(.type "dict"),none,.dict #[kE P (.ofString "__module__") 230 (.str (.ofString "kinnames.errors") 187),kE P (.ofString "__firstlineno__") 234 (.int (6) 233),kE P (.ofString "__static_attributes__") 235 (.ref 47),kE P (.ofString "__doc__") 236 .none] 2,#[]⟩)::
 (nat_lit 49,⟨(.type "type"),none,.cls ⟨(.ofString "NoOrder"),[(.ref 24)],[(.ref 49),(.ref 24),(.type "ValueError"),(.type "Exception"),(.type "BaseException"),(.type "object")],48,(.ofString "NoOrder"),true,[],[],false,none,false⟩,#[(some (.ref 40)),none,(some (.str (.ofString "NoOrder") 223)),(some (.str (.ofString "NoOrder") 231)),(some (.builtin "ValueError.__new__")),(some (.bool true))]⟩)::
 (nat_lit 60,⟨(.type "dict"),none,.dict #[kE P (.ofString "__module__") 246 (.str (.ofString "kinnames.errors") 187),kE P (.ofString "__firstlineno__") 250 (.int (8) 249),kE P (.ofString "__static_attributes__") 251 (.ref 59),kE P (.ofString "__doc__") 252 .none] 2,#[]⟩)::
 (nat_lit 61,⟨(.type "type"),none,.cls ⟨(.ofString "NoName"),[(.ref 24)],[(.ref 61),(.ref 24),(.type "ValueError"),(.type "Exception"),(.type "BaseException"),(.type "object")],60,(.ofString "NoName"),true,[],[],false,none,false⟩,#[(some (.ref 52)),none,(some (.str (.ofString "NoName") 239)),(some (.str (.ofString "NoName") 247)),(some (.builtin "ValueError.__new__")),(some (.bool true))]⟩)::
 (nat_lit 67,⟨(.type "code"),none,.fields #[(.str (.ofString "is_name") 265),(.str (.ofString "is_name") 266),(.str (.ofString "/claim/cut.py") 267),(.int (15) 0),(.int (1) 0),(.int (0) 0),(.int (0) 0),(.int (3) 0),(.ref 64),(.bool true),(.int (181) 0),(.ref 65),.none,.none,.none,(.ref 66),(.int (268) 0),(.int (15) 0),(.str (.ofString "/claim/cut.py") 269)],#[]⟩)::
 (nat_lit 68,kD (top 10) "is_name" "kinnames.books" 255 67)::
 (nat_lit 72,⟨(.type "code"),none,.fields #[(.str (.ofString "is_book") 271),(.str (.ofString "is_book") 272),(.str (.ofString "/claim/cut.py") 273),(.int (19) 0),(.int (1) 0),(.int (0) 0),(.int (0) 0),(.int (3) 0),(.ref 69),(.bool true),(.int (181) 0),(.ref 70),.none,.none,.none,(.ref 71),(.int (274) 0),(.int (19) 0),(.str (.ofString "/claim/cut.py") 275)],#[]⟩)::
 (nat_lit 73,kD (top 11) "is_book" "kinnames.books" 255 72)::
 (nat_lit 79,kC "is_whole" 277 278 279 23 3 0 0 3 74 true 181 75 76 77 78 283 23 284)::
 (nat_lit 80,kD (top 12) "is_whole" "kinnames.books" 255 79)::
 (nat_lit 86,kC "is_order" 286 287 288 27 1 0 0 3 81 true 181 82 83 84 85 290 27 291)::
 (nat_lit 87,kD (top 13) "is_order" "kinnames.books" 255 86)::
 (nat_lit 93,kC "need_book" 293 294 295 29 1 0 0 3 88 true 181 89 90 91 92 297 29 298)::
 (nat_lit 94,kD (top 14) "need_book" "kinnames.books" 255 93)::
 (nat_lit 100,kC "need_order" 300 301 302 32 1 0 0 3 95 true 181 96 97 98 99 304 32 305)::
 (nat_lit 101,kD (top 15) "need_order" "kinnames.books" 255 100)::
 (nat_lit 107,kC "need_name" 307 308 309 35 1 0 0 3 102 true 181 103 104 105 106 311 35 312)::
 (nat_lit 108,kD (top 16) "need_name" "kinnames.books" 255 107)::
 (nat_lit 114,kC "need_name_or_empty" 314 315 316 38 1 0 0 3 109 true 181 110 111 112 113 318 38 319)::
 (nat_lit 115,kD (top 17) "need_name_or_empty" "kinnames.books" 255 114)::
 (nat_lit 121,kC "end_of" 321 322 323 41 2 0 0 3 116 true 181 117 118 119 120 326 41 327)::
 (nat_lit 122,kD (top 18) "end_of" "kinnames.books" 255 121)::
 (nat_lit 126,⟨(.type "code"),none,.fields #[(.str (.ofString "ends_and_letters") 329),(.str (.ofString "ends_and_letters") 330),(.str (.ofString "/claim/cut.py") 331),(.int (43) 0),(.int (2) 0),(.int (0) 0),(.int (0) 0),(.int (3) 0),(.ref 123),(.bool true),(.int (181) 0),(.ref 124),.none,.none,.none,(.ref 125),(.int (332) 0),(.int (43) 0),(.str (.ofString "/claim/cut.py") 333)],#[]⟩)::
 (nat_lit 127,kD (top 19) "ends_and_letters" "kinnames.books" 255 126)::
 (nat_lit 133,kC "counted_rows" 335 336 337 45 2 0 0 3 128 true 181 129 130 131 132 345 45 346)::
 (nat_lit 134,kD (top 20) "counted_rows" "kinnames.books" 255 133)::
 (nat_lit 138,⟨(.type "code"),none,.fields #[(.str (.ofString "table") 348),(.str (.ofString "table") 349),(.str (.ofString "/claim/cut.py") 350),(.int (52) 0),(.int (2) 0),(.int (0) 0),(.int (0) 0),(.int (3) 0),(.ref 135),(.bool true),(.int (181) 0),(.ref 136),.none,.none,.none,(.ref 137),(.int (351) 0),(.int (52) 0),(.str (.ofString "/claim/cut.py") 352)],#[]⟩)::
 (nat_lit 139,kD (top 21) "table" "kinnames.books" 255 138)::
 (nat_lit 145,kC "behind" 354 355 356 57 3 0 0 3 140 true 181 141 142 143 144 361 57 362)::
 (nat_lit 146,kD (top 22) "behind" "kinnames.books" 255 145)::
 (nat_lit 152,kC "_law_cell" 366 367 368 64 2 0 0 3 147 true 181 148 149 150 151 371 64 372)::
 (nat_lit 153,kD (top 24) "_law_cell" "law_kinnames_k02_whole_tables" 364 152)::
 (nat_lit 159,kC "_law_drawn" 374 375 376 68 3 0 0 3 154 true 181 155 156 157 158 381 68 382)::
 (nat_lit 160,kD (top 25) "_law_drawn" "law_kinnames_k02_whole_tables" 364 159)::
 (nat_lit 164,⟨(.type "code"),none,.fields #[(.str (.ofString "_law_name") 384),(.str (.ofString "_law_name") 385),(.str (.ofString "/claim/cut.py") 386),(.int (72) 0),(.int (3) 0),(.int (0) 0),(.int (0) 0),(.int (3) 0),(.ref 161),(.bool true),(.int (181) 0),(.ref 162),.none,.none,.none,(.ref 163),(.int (387) 0),(.int (72) 0),(.str (.ofString "/claim/cut.py") 388)],#[]⟩)::
 (nat_lit 165,kD (top 26) "_law_name" "law_kinnames_k02_whole_tables" 364 164)::
 (nat_lit 171,kC "_law_book" 390 391 392 76 4 0 0 3 166 true 181 167 168 169 170 399 76 400)::
 (nat_lit 172,kD (top 27) "_law_book" "law_kinnames_k02_whole_tables" 364 171)::
 (nat_lit 176,⟨(.type "code"),none,.fields #[(.str (.ofString "_law_pairs") 402),(.str (.ofString "_law_pairs") 403),(.str (.ofString "/claim/cut.py") 404),(.int (81) 0),(.int (1) 0),(.int (0) 0),(.int (0) 0),(.int (3) 0),(.ref 173),(.bool true),(.int (181) 0),(.ref 174),.none,.none,.none,(.ref 175),(.int (405) 0),(.int (81) 0),(.str (.ofString "/claim/cut.py") 406)],#[]⟩)::
 (nat_lit 177,kD (top 28) "_law_pairs" "law_kinnames_k02_whole_tables" 364 176)::
 (nat_lit 181,⟨(.type "code"),none,.fields #[(.str (.ofString "law") 408),(.str (.ofString "law") 409),(.str (.ofString "/claim/cut.py") 410),(.int (86) 0),(.int (1) 0),(.int (0) 0),(.int (0) 0),(.int (3) 0),(.ref 178),(.bool true),(.int (181) 0),(.ref 179),.none,.none,.none,(.ref 180),(.int (411) 0),(.int (86) 0),(.str (.ofString "/claim/cut.py") 412)],#[]⟩)::
 (nat_lit 182,kD (top 29) "law" "law_kinnames_k02_whole_tables" 364 181)::[]
def kas:List av:=[2,3,23,24,25,36,37,48,49,60,61,67,68,72,73,79,80,86,87,93,94,100,101,107,108,114,115,121,122,126,127,133,134,138,139,145,146,152,153,159,160,164,165,171,172,176,177,181,182]
def kq:aI:=view bo [1,2,3,4,6,7,8,9,10,11,12,13,14,15,16,17,18,19,20,21,22,24,25,26,27,28,29]
def klo:List Str:=[]
theorem kas_e:∀P,kas=(kfr P).map (·.1):=fun _=>by kernel_rfl
noncomputable def hl0 (w:aR):=(openEndsT treeTable bo w 3004).map (fun s=>(seen ((recsOf kq).map (·.name)) (ownsOf kq) [] {s with gens:=#[]},s.heap.bltView,(s.heap.keysOk (looseW kq klo) ((recsOf kq).map (·.name)) ((litsOf kq).map (·.1)) ((clssOf kq (looseW kq klo)).map (·.name))&&s.heap.accountedOkI (importedModules bo.main.body)&&s.heap.isNs mainGlobals&&s.heap.isNs builtinsNs&&tablesOk kq s.heap&& (xlAt kq [] s&&recOk [] s)&& (if true=true then s.gens.size==0 else !leftWithCleanup s.gens)),tabsOk kq s,pinSeenD kq (drecsOf kq) s,plainSeenE kq (looseW kq klo) s,plainSeenD kq klo s,wideSeen kq s,clsSeenW kq klo s))
noncomputable def hr0 (w:aR):=some (expectedOf kq,bltViewBooted,true,true,pinGoodD (drecsOf kq),plainGoodE kq (looseW kq klo),plainGoodD kq klo,wideGood kq,clsGoodW kq klo)
theorem hl0_e:hl0=hl0:=rfl
theorem hr0_e:hr0=hr0:=rfl
noncomputable def hl1 (w:aR):=(openEndsT treeTable bo w 3004).map (fun s=>(kas.map s.heap.get?))
noncomputable def hr1 (w:aR):=some ((kfr w.params).map fun p=>some p.2)
theorem hl1_e:hl1=hl1:=rfl
theorem hr1_e:hr1=hr1:=rfl
end Kn
name_quick hl0Q for Kn.hl0 by Kn.hl0_e
name_quick hr0Q for Kn.hr0 by Kn.hr0_e
theorem Kn.hq0 (w:aR):PySem.W.Fast.hl0Q w=PySem.W.Fast.hr0Q w:=by kernel_rfl
theorem Kn.hx0 (w:aR):Kn.hl0 w=Kn.hr0 w:=((congrFun PySem.W.Fast.hl0Q_eq w).trans (Kn.hq0 w)).trans (congrFun PySem.W.Fast.hr0Q_eq w).symm
name_quick hl1Q for Kn.hl1 by Kn.hl1_e
name_quick hr1Q for Kn.hr1 by Kn.hr1_e
theorem Kn.hq1 (w:aR):PySem.W.Fast.hl1Q w=PySem.W.Fast.hr1Q w:=by kernel_rfl
theorem Kn.hx1 (w:aR):Kn.hl1 w=Kn.hr1 w:=((congrFun PySem.W.Fast.hl1Q_eq w).trans (Kn.hq1 w)).trans (congrFun PySem.W.Fast.hr1Q_eq w).symm
theorem Kn.hl:LeftO bo Kn.kq Kn.klo (fun s=>xlAt Kn.kq [] s&&recOk [] s) (Hook.obs (kHook Kn.kfr Kn.kas Kn.kas_e)) (Hook.val (kHook Kn.kfr Kn.kas Kn.kas_e)) 3004:=fun w=>by
 refine Kn.openMap_of ?_
 obtain⟨s,e,x0⟩:=cz.mp (Kn.hx0 w)
 have y1:=Kn.hx1 w
 unfold Kn.hl1 at y1
 rw[e]at y1
 have x1:=aH y1
 obtain⟨a1,z0_0⟩:=bE x0
 obtain⟨a2,z0_1⟩:=bE z0_0
 obtain⟨a3,z0_2⟩:=bE z0_1
 obtain⟨a4,z0_3⟩:=bE z0_2
 obtain⟨a5,z0_4⟩:=bE z0_3
 obtain⟨a6,z0_5⟩:=bE z0_4
 obtain⟨a7,z0_6⟩:=bE z0_5
 obtain⟨a8,z0_7⟩:=bE z0_6
 have a9:=z0_7
 have aK:=x1
 rw[e]
 exact congrArg some (el (el a1 (el a2 (el a3 (el a4 (el a5 (el a6 (el a7 (el a8 a9)))))))) aK)
end
section
namespace L2
open PySem PySem.Spec PyProof.Rows
abbrev zL:=Sum Int Str
def v8:zL->af->Bool
 | .inl k,v=>n8 k v
 | .inr x,v=>ck x v
def zEG (w:aR):zL->Int
 | .inl k=>hashInt k
 | .inr x=>hashStr w x
theorem vI:∀{k:zL}{v:af},v8 k v=true->(∃i t,k=Sum.inl i/\v=Value.int i t)\/(∃x t,k=Sum.inr x/\v=Value.str x t)
 | .inl i,v,h=>by
  obtain⟨t,e⟩:=Value.isInt_shape (k:=i) (v:=v) h
  exact .inl ⟨i,t,rfl,e⟩
 | .inr x,v,h=>by
  obtain⟨t,e⟩:=cP (x:=x) (v:=v) h
  exact .inr ⟨x,t,rfl,e⟩
theorem zEH (i:Int)(t:Tok):v8 (.inl i) (.int i t)=true:=by simp[v8,n8]
theorem zEI (x:Str)(t:Tok):v8 (.inr x) (.str x t)=true:=by simp[v8,ck]
theorem zEJ (a b:Int):decide ((Sum.inl a:zL)=Sum.inl b)=(a==b):=by
 by_cases e:a=b
 ·subst e;simp
 ·have h:¬(Sum.inl a:zL)=Sum.inl b:=fun q=>e (iS q)
  rw[decide_eq_false h]
  exact(beq_eq_false_iff_ne.mpr e).symm
theorem zEK (a b:Str):decide ((Sum.inr a:zL)=Sum.inr b)=decide (a=b):=by
 by_cases e:a=b
 ·subst e;simp
 ·have h:¬(Sum.inr a:zL)=Sum.inr b:=fun q=>e (iT q)
  rw[decide_eq_false h,decide_eq_false e]
theorem zEL (a:Int)(b:Str):decide ((Sum.inl a:zL)=Sum.inr b)=false:=decide_eq_false (fun q=>nomatch q)
theorem zEM (a:Str)(b:Int):decide ((Sum.inr a:zL)=Sum.inl b)=false:=decide_eq_false (fun q=>nomatch q)
def vJ (prog:aI)(w:aR):mY prog w zL where
 is:=v8
 hash:=zEG w
 inj:=fun v a b ha hb=>by
  rcases vI ha with⟨i,t,rfl,rfl⟩|⟨x,t,rfl,rfl⟩
  ·rcases vI hb with⟨j,u,rfl,e⟩|⟨y,u,rfl,e⟩
   ·injection e with e1 _;rw[e1]
   ·exact nomatch e
  ·rcases vI hb with⟨j,u,rfl,e⟩|⟨y,u,rfl,e⟩
   ·exact nomatch e
   ·injection e with e1 _;rw[e1]
 byValue:=fun k v h=>by
  rcases vI h with⟨i,t,rfl,rfl⟩|⟨x,t,rfl,rfl⟩<;>rfl
 pyHash:=fun hv h=>by
  rcases vI hv with⟨i,t,rfl,rfl⟩|⟨x,t,rfl,rfl⟩
  ·exact wpAny_pyHash_int h
  ·exact lF h
 eqBool:=fun hu hv h=>by
  rcases vI hu with⟨i,t,rfl,rfl⟩|⟨x,t,rfl,rfl⟩
  ·rcases vI hv with⟨j,u,rfl,rfl⟩|⟨y,u,rfl,rfl⟩
   ·rw[zEJ]at h;exact lG h
   ·rw[zEL]at h;exact oy i t y u _ _ _ _ h
  ·rcases vI hv with⟨j,u,rfl,rfl⟩|⟨y,u,rfl,rfl⟩
   ·rw[zEM]at h;exact oz x t j u _ _ _ _ h
   ·rw[zEK]at h;exact lH h
 «strs»:=fun k x t v h=>by
  rcases vI h with⟨i,u,rfl,e⟩|⟨y,u,rfl,e⟩
  ·exact nomatch e
  ·injection e with e1 _
   subst e1
   cases v<;>rfl
abbrev zK:=Sum Str Bool
def zBP:zK->af->Bool
 | .inl x,v=>ck x v
 | .inr b,v=>v==Value.bool b
theorem uR:∀{k:zK}{v:af},zBP k v=true->(∃x t,k=Sum.inl x/\v=Value.str x t)\/(∃b,k=Sum.inr b/\v=Value.bool b)
 | .inl x,v,h=>by
  obtain⟨t,e⟩:=cP (x:=x) (v:=v) h
  exact .inl ⟨x,t,rfl,e⟩
 | .inr b,v,h=>.inr ⟨b,rfl,eq_of_beq h⟩
def tkH (w:aR):zK->Int
 | .inl x=>hashStr w x
 | .inr b=>reduceHash (if b then 1 else 0)
theorem zEN {prog:aI}{w:aR}{A:bF}{E:af->aj->Prop}{s:aj}{b:Bool}{Q:Int->aj->Prop}(h:Q (reduceHash (if b then 1 else 0)) {s with toks:=s.toks+1}) :
  wpAny (model prog w) A (pyHash (.bool b)) Q E s:=by
 refine PySem.W.pyHash_slot (T :="bool") rfl F.slot_bool_hash F.entry_int_hash (F.args_int_hash_1 _) (by decide) (.inl (by cases b<;>rfl)) ?_
 unfold b7.«int.__hash__»
 cases b
 ·wp_walk
  exact⟨_,_,rfl,h⟩
 ·wp_walk
  exact⟨_,_,rfl,h⟩
def yF (prog:aI)(w:aR):mY prog w zK where
 is:=zBP
 hash:=tkH w
 inj:=fun v a b ha hb=>by
  rcases uR ha with⟨x,t,rfl,rfl⟩|⟨c,rfl,rfl⟩
  ·rcases uR hb with⟨y,u,rfl,e⟩|⟨d,rfl,e⟩
   ·injection e with e1 _;rw[e1]
   ·exact nomatch e
  ·rcases uR hb with⟨y,u,rfl,e⟩|⟨d,rfl,e⟩
   ·exact nomatch e
   ·injection e with e1;rw[e1]
 byValue:=fun k v h=>by
  rcases uR h with⟨x,t,rfl,rfl⟩|⟨c,rfl,rfl⟩<;>rfl
 pyHash:=fun hv h=>by
  rcases uR hv with⟨x,t,rfl,rfl⟩|⟨c,rfl,rfl⟩
  ·exact lF h
  ·exact zEN h
 eqBool:=fun hu hv h=>by
  rcases uR hu with⟨x,t,rfl,rfl⟩|⟨c,rfl,rfl⟩
  ·rcases uR hv with⟨y,u,rfl,rfl⟩|⟨d,rfl,rfl⟩
   ·have e:decide ((Sum.inl x:zK)=Sum.inl y)=decide (x=y):=by
     by_cases q:x=y
     ·subst q;simp
     ·rw[decide_eq_false q,decide_eq_false fun z=>q (iS z)]
    rw[e]at h;exact lH h
   ·rw[decide_eq_false (fun q=>nomatch q)]at h;exact oq x t d _ _ _ _ h
  ·rcases uR hv with⟨y,u,rfl,rfl⟩|⟨d,rfl,rfl⟩
   ·rw[decide_eq_false (fun q=>nomatch q)]at h;exact ot c y u _ _ _ _ h
   ·refine n9 c d _ _ _ _ ?_
    have e:decide ((Sum.inr c:zK)=Sum.inr d)=(c==d):=by cases c<;>cases d<;>rfl
    rw[<-e];exact h
 «strs»:=fun k x t v h=>by
  rcases uR h with⟨y,u,rfl,e⟩|⟨d,rfl,e⟩
  ·injection e with e1 _
   subst e1
   cases v<;>rfl
  ·exact nomatch e
theorem zBQ (prog:aI)(w:aR)(i:Int)(t:Tok):(vJ prog w).is (.inl i) (.int i t)=true:=zEH i t
theorem zBR (prog:aI)(w:aR)(x:Str)(t:Tok):(vJ prog w).is (.inr x) (.str x t)=true:=zEI x t
inductive V where
 |non|bl (b:Bool)|int (i:Int)|str (x:Str)|byt (b:Array UInt8)|flt (b:UInt64)|ref (a:av)|ty (n:String)
 deriving DecidableEq
def zI:V->af->Prop
 | .non,u=>u=Value.none
 | .bl b,u=>u=Value.bool b
 | .int i,u=>∃t,u=Value.int i t
 | .str x,u=>∃t,u=Value.str x t
 | .byt b,u=>∃t,u=Value.bytes b t
 | .flt b,u=>∃t,u=Value.float b t
 | .ref a,u=>u=Value.ref a
 | .ty n,u=>u=Value.type n
abbrev zF:List V->List af->Prop:=jv zI
theorem zF.length {xs:List V}{a:List af}(r:zF xs a):xs.length=a.length:=gd r
theorem zF.get:∀{xs:List V}{a:List af}{i:Nat}{x:V},zF xs a->xs[i]?=some x->∃u,a[i]?=some u/\zI x u
 |_,_,_,_,.nil,e=>by simp at e
 |_,_,0,_,.cons r _,e=>by simp at e;subst e;exact⟨_,rfl,r⟩
 |_,_,i+1,x,.cons _ t,e=>by
  obtain⟨u,b,c⟩:=zF.get (i:=i) (x:=x) t (by simpa using e)
  exact⟨u,by simpa using b,c⟩
theorem zF.set {x:V}{u:af}(r:zI x u):∀{xs:List V}{a:List af} (i:Nat),zF xs a->zF (xs.set i x) (a.set i u)
 |_,_,_,.nil=>.nil
 |_,_,0,.cons _ t=>.cons r t
 |_,_,i+1,.cons q t=>.cons q (zF.set r i t)
theorem zF.append:∀{xs a:List V}{b c:List af},zF xs b->zF a c->zF (xs++a) (b++c)
 |_,_,_,_,.nil,s=>s
 |_,_,_,_,.cons r t,s=>.cons r (zF.append t s)
theorem zF.take:∀{xs:List V}{a:List af} (n:Nat),zF xs a->zF (xs.take n) (a.take n)
 |_,_,0,_=>.nil
 |_,_,_+1,.nil=>.nil
 |_,_,n+1,.cons r t=>.cons r (zF.take n t)
theorem zF.drop:∀{xs:List V}{a:List af} (n:Nat),zF xs a->zF (xs.drop n) (a.drop n)
 |_,_,0,r=>r
 |_,_,_+1,.nil=>.nil
 |_,_,n+1,.cons _ t=>zF.drop n t
def vP:Option V->Option af->Prop
 |some v,some u=>zI v u
 |none,none=>True
 |_,_=>False
def KV {κ:Type}:List (κ×V)->List (κ×af)->Prop:=jv fun(p:κ×V) (q:κ×af)=>p.1=q.1/\zI p.2 q.2
def kV:zL->V
 | .inl i=>.int i
 | .inr x=>.str x
def vK:zK->V
 | .inl x=>.str x
 | .inr b=>.bl b
inductive HO where
 |lst (xs:List V)
 |tup (xs:List V)
 |dK (kvs:List (zL×V))|dT (kvs:List (List zK×V))
 |set (S:Int->Bool) (n:Nat)
 |ins (C dx:av) (fs:List (Str×V))
 |own (x:av)
 |xd (fs:List (Str×V))
 |met (f x:av)
 |rng (lo hi:Int)
 |frz (o:Obj) (u:HO)
 |tbl (ps:Array af)
 |ext (φ:bt->Prop)
abbrev Hp:=av->Option HO
def upd (H:Hp)(a:av)(o:HO):Hp:=fun b=>if b=a then some o else H b
theorem zH {H:Hp}{a:av}{o:HO}:upd H a o a=some o:=by unfold upd;rw[if_pos rfl]
theorem zQ {H:Hp}{a b:av}{o:HO}(h:b≠a):upd H a o b=H b:=by unfold upd;rw[if_neg h]
theorem kM {H:Hp}{a b:av}{o u:HO}(h:H a=some o)(h':H b=some u)(d:o≠u):a≠b:=by
 intro e;subst e;rw[h]at h';exact d (aH h')
theorem y9 {H:Hp}{a b:av}{o:HO}(h:H a=some o)(h':H b=none):a≠b:=by
 intro e;subst e;rw[h]at h';cases h'
section
variable(P:aI)(w:aR)
def zZ (H:Hp)(h:bt)(a:av):HO->Prop
 | .lst xs=>xs.length<=sizeLine/\∃(its:List af) (n:Nat),zF xs its/\h.get? a=some {cls:=.type "list",data:=.seq its.toArray n}
 | .tup xs=>xs.length<=sizeLine/\∃its:List af,zF xs its/\IsTup h a its.toArray
 | .dK kvs=>kvs.length<=sizeLine/\(a==sysModules)=false/\∃vs,KV kvs vs/\h.DictOf (vJ P w) a vs
 | .dT kvs=>kvs.length<=sizeLine/\(a==sysModules)=false/\∃xs:List (List zK×av×af),
   jv (fun(p:List zK×V) (q:List zK×av×af)=>p.1=q.1/\H q.2.1=some (.tup (p.1.map vK))/\zI p.2 q.2.2) kvs xs/\
   ∃o es ep,h.get? a=some o/\o.ExactDict/\o.data=.dict es ep/\es.toList=xs.map (entryOfKey (tupleKind (yF P w)))/\(xs.map (·.1)).Nodup
 | .set S n=>h.SetOf (intKind P w) a S n
 | .ins C dx fs=>H dx=some (.own a)/\fs.length<=1000/\dx≠a/\h.get? a=some (du C dx)/\
   ∃mA,h.Ns1 dx mA/\(∀f,vP (fs.lookup f) (mA f))/\nQ mA (fs.map (·.1))
 | .own _=>∃o,h.get? a=some o
 | .xd fs=>∃mA,h.Ns1 a mA/\∀f,vP (fs.lookup f) (mA f)
 | .rng lo hi=>∃t u v,h.get? a=some {cls:=.type "range",data:=.fields #[.int lo t,.int hi u,.int 1 v]}
 | .frz o u=>h.get? a=some o/\zZ H h a u
 | .tbl ps=>h.get? a=some {cls:=.none,data:=.fields ps}
 | .met f x=>h.get? a=some (fY (.ref f) (.ref x))
 | .ext φ=>φ h/\(∃o,h.get? a=some o)/\∀h1 h2:bt,φ h1->(∀o,h1.get? a=some o->h2.get? a=some o)->φ h2
def zR (H:Hp)(h:bt):Prop:=∀a o,H a=some o->zZ P w H h a o
end
section
variable{P:aI}{w:aR}{H H':Hp}{h h':bt}{a:av}{o:HO}
theorem zZ.lt (x:zZ P w H h a o):a<h.objs.size:=by
 cases o with
 |lst xs=>obtain⟨_,_,_,_,e⟩:=x;exact aA e
 |tup xs=>obtain⟨_,_,_,p⟩:=x;exact p.lt
 |dK kvs=>obtain⟨_,_,_,_,o,_,_,e,_⟩:=x;exact aA e
 |dT kvs=>obtain⟨_,_,_,_,o,_,_,e,_⟩:=x;exact aA e
 |set S n=>obtain⟨o,_,_,_,e,_⟩:=x;exact aA e
 |ins C b fs=>obtain⟨_,_,_,e,_⟩:=x;exact aA e
 |own y=>obtain⟨_,e⟩:=x;exact aA e
 |xd fs=>obtain⟨_,⟨_,_,_,e,_⟩,_⟩:=x;exact aA e
 |rng lo hi=>obtain⟨_,_,_,e⟩:=x;exact aA e
 |frz c u=>obtain⟨e,_⟩:=x;exact aA e
 |tbl d=>exact aA (show h.get? a=some _ from x)
 |met f y=>exact aA (show h.get? a=some _ from x)
 |ext φ=>obtain⟨_,⟨_,e⟩,_⟩:=x;exact aA e
theorem Paired.mapP {α β:Type}{F G:α->β->Prop}:∀{c:List α}{d:List β},jv F c d->(∀a b,F a b->G a b)->jv G c d
 |_,_,.nil,_=>.nil
 |_,_,.cons r t,f=>.cons (f _ _ r) (Paired.mapP t f)
theorem zZ.stay (x:zZ P w H h a o)(k:∀b u,(b=a\/H b=some (.own a))->h.get? b=some u->h'.get? b=some u)
  (m:∀b,H b=some (.own a)->H' b=some (.own a)) (s:∀b xs,H b=some (.tup xs)->H' b=some (.tup xs)):zZ P w H' h' a o:=by
 induction o with
 |lst xs=>obtain⟨z,its,n,r,e⟩:=x;exact⟨z,its,n,r,k _ _ (.inl rfl) e⟩
 |tup xs=>obtain⟨z,its,r,g,e,c⟩:=x;exact⟨z,its,r,g,k _ _ (.inl rfl) e,c⟩
 |dK kvs=>obtain⟨z,y,vs,r,g,i,ep,e,c⟩:=x;exact⟨z,y,vs,r,g,i,ep,k _ _ (.inl rfl) e,c⟩
 |dT kvs=>
  obtain⟨z,y,xs,r,g,i,ep,e,c⟩:=x
  exact⟨z,y,xs,Paired.mapP r fun p q z=>⟨z.1,s _ _ z.2.1,z.2.2⟩,g,i,ep,k _ _ (.inl rfl) e,c⟩
 |set S n=>obtain⟨g,i,ep,t,e,c⟩:=x;exact⟨g,i,ep,t,k _ _ (.inl rfl) e,c⟩
 |ins C B fs=>
  obtain⟨d,z,ne,e,j,⟨od,i,ep,A,c⟩,r⟩:=x
  exact⟨m _ d,z,ne,k _ _ (.inl rfl) e,j,⟨od,i,ep,k _ _ (.inr d) A,c⟩,r⟩
 |own y=>obtain⟨g,e⟩:=x;exact⟨g,k _ _ (.inl rfl) e⟩
 |xd fs=>obtain⟨j,⟨od,i,ep,e,c⟩,r⟩:=x;exact⟨j,⟨od,i,ep,k _ _ (.inl rfl) e,c⟩,r⟩
 |rng lo hi=>obtain⟨t,u,v,e⟩:=x;exact⟨t,u,v,k _ _ (.inl rfl) e⟩
 |frz g u ih=>obtain⟨e,q⟩:=x;exact⟨k _ _ (.inl rfl) e,ih q⟩
 |tbl l=>
  have e:h.get? a=some {cls:=.none,data:=.fields l}:=x
  show h'.get? a=some {cls:=.none,data:=.fields l}
  exact k a _ (.inl rfl) e
 |met f y=>
  have e:h.get? a=some (fY (.ref f) (.ref y)):=x
  show h'.get? a=some (fY (.ref f) (.ref y))
  exact k a _ (.inl rfl) e
 |ext φ=>obtain⟨p,⟨o,e⟩,st⟩:=x;exact⟨st _ _ p fun o q=>k _ _ (.inl rfl) q,⟨o,k _ _ (.inl rfl) e⟩,st⟩
theorem zR.lt (x:zR P w H h)(e:H a=some o):a<h.objs.size:=(x a o e).lt
theorem zR.fresh (x:zR P w H h)(e:h.objs.size<=a):H a=none:=by
 cases q:H a with
 |none=>rfl
 |some u=>exact absurd (bb (x.lt q) e) (bG _)
theorem zR.kept (x:zR P w H h)(k:∀b u,h.get? b=some u->h'.get? b=some u):zR P w H h':=fun a o e=>
 (x a o e).stay (fun b u _ q=>k b u q) (fun _ q=>q) fun _ _ q=>q
theorem zR.laid (x:zR P w H h)(k:∀b u,h.get? b=some u->h'.get? b=some u)(g:h.objs.size<=a)(new:zZ P w (upd H a o) h' a o):zR P w (upd H a o) h':=fun b u e=>by
 have d:=x.fresh g
 by_cases f:b=a
 ·subst f;rw[zH]at e;cases e;exact new
 ·rw[zQ f]at e
  exact(x b u e).stay (fun c v _ q=>k c v q) (fun c q=>by rw[zQ (y9 q d)];exact q) fun c xs q=>by rw[zQ (y9 q d)];exact q
end
def Rd (H:Hp)(a:av)(u:HO):Prop:=H a=some u\/∃o,H a=some (.frz o u)
theorem Rd.ok {P:aI}{w:aR}{H:Hp}{h:bt}{a:av}{u:HO}(r:Rd H a u)(x:zR P w H h):zZ P w H h a u:=by
 rcases r with r|⟨o,r⟩
 ·exact x a u r
 ·obtain⟨_,q⟩:=x a _ r
  exact q
def jN:Option HO->Prop
 |some (.lst _)=>True
 |some (.dK _)=>True
 |some (.dT _)=>True
 |some (.set _ _)=>True
 |some (.ins _ _ _)=>True
 |some (.ext _)=>True
 |_=>False
section
variable{P:aI}{w:aR}{H:Hp}{h h':bt}{x e:av}{o':HO}
theorem zR.write (ok:zR P w H h)(g:jN (H x))(m:e=x\/H e=some (.own x))(k:∀b u,b≠e->h.get? b=some u->h'.get? b=some u)(l:∃u,h'.get? e=some u)
  (new:zZ P w (upd H x o') h' x o'):zR P w (upd H x o') h':=fun b u q=>by
 have d:∀c y,H c=some (.own y)->c≠x:=fun c y r z=>by subst z;rw[r]at g;exact g
 have f:∀c xs,H c=some (.tup xs)->c≠x:=fun c xs r z=>by subst z;rw[r]at g;exact g
 by_cases i:b=x
 ·subst i;rw[zH]at q;cases q;exact new
 ·rw[zQ i]at q
  by_cases a:b=e
  ·have n:H b=some (.own x):=by
    rcases m with z|z
    ·exact absurd (a.trans z) i
    ·rw[a];exact z
   rw[q]at n;cases n
   obtain⟨v,o⟩:=l
   exact⟨v,by rw[a];exact o⟩
  ·refine(ok b u q).stay (fun c v j r=>k c v ?_ r) (fun c r=>by rw[zQ (d c b r)];exact r) fun c xs r=>by rw[zQ (f c xs r)];exact r
   rcases j with rfl|j
   ·exact a
   ·rintro rfl
    rcases m with z|z
    ·exact d c b j z
    ·rw[j]at z;cases z;exact i rfl
end
structure Un (fs ex:List av) (H H':Hp) (h h':bt):Prop where
 keep:∀b o,h.get? b=some o->H b=none->b∉fs->b∉ex->h'.get? b=some o
 slot:∀b o,h.get? b=some o->H b=none->b∈fs->b∉ex->∃sl,h'.get? b=some {o with slots:=sl}
 free:∀b o,h.get? b=some o->H b=none->b∉ex->H' b=none
 there:∀b o,h.get? b=some o->b∉ex->∃o',h'.get? b=some o'
 tups:∀b xs,H b=some (.tup xs)->H' b=some (.tup xs)
 frzs:∀b o u,H b=some (.frz o u)->H' b=some (.frz o u)
 tbls:∀b ps,H b=some (.tbl ps)->∃more,H' b=some (.tbl (ps++more))
section
variable{fs fs' ex ex':List av}{H H1 H2:Hp}{h h1 h2 h':bt}{a x e:av}{o:HO}
theorem Un.any (u:Un fs ex H H1 h h1){b:av}{c:Obj}(q:h.get? b=some c)(n:H b=none)(d:b∉ex):∃g,h1.get? b=some {c with slots:=g}:=by
 by_cases f:b∈fs
 ·exact u.slot b c q n f d
 ·exact⟨c.slots,u.keep b c q n f d⟩
theorem Un.kept (k:∀b u,h.get? b=some u->h'.get? b=some u):Un fs ex H H h h' :=
 ⟨fun b c q _ _ _=>k b c q,fun b c q _ _ _=>⟨c.slots,k b c q⟩,fun _ _ _ n _=>n,fun b c q _=>⟨c,k b c q⟩,fun _ _ q=>q,fun _ _ _ q=>q,fun _ d q=>⟨#[],by rw[q];simp⟩⟩
theorem Un.refl:Un fs ex H H h h:=Un.kept fun _ _ q=>q
theorem Un.laid (k:∀b u,h.get? b=some u->h'.get? b=some u)(d:h.objs.size<=a)(c:H a=none):Un fs ex H (upd H a o) h h' where
 keep:=fun b u q _ _ _=>k b u q
 slot:=fun b u q _ _ _=>⟨u.slots,k b u q⟩
 free:=fun b u q n _=>by rw[zQ (aG (bb (aA q) d))];exact n
 there:=fun b u q _=>⟨u,k b u q⟩
 tups:=fun b xs q=>by rw[zQ (y9 q c)];exact q
 frzs:=fun b u xs q=>by rw[zQ (y9 q c)];exact q
 tbls:=fun b f q=>⟨#[],by rw[zQ (y9 q c),q];simp⟩
theorem Un.write (d:jN (H x))(l:e=x\/H e=some (.own x))(k:∀b u,b≠e->h.get? b=some u->h'.get? b=some u)(f:∃u,h'.get? e=some u):Un fs ex H (upd H x o) h h':=by
 have i:∀b,H b=none->b≠x:=fun b n z=>by subst z;rw[n]at d;exact d
 have j:∀b,H b=none->b≠e:=fun b n z=>by
  subst z
  rcases l with r|r
  ·exact i b n r
  ·rw[n]at r;cases r
 have g:∀b u,H b=some u->¬jN (some u)->b≠x:=fun b u q nm z=>by subst z;rw[q]at d;exact nm d
 refine⟨fun b u q n _ _=>k b u (j b n) q,fun b u q n _ _=>⟨u.slots,k b u (j b n) q⟩,fun b u q n _=>by rw[zQ (i b n)];exact n,fun b u q _=>?_,
  fun b xs q=>by rw[zQ (g b _ q fun z=>z)];exact q,fun b u xs q=>by rw[zQ (g b _ q fun z=>z)];exact q,fun b m q=>⟨#[],by rw[zQ (g b _ q fun z=>z),q];simp⟩⟩
 by_cases c:b=e
 ·subst c;exact f
 ·exact⟨u,k b u c q⟩
end
def kN (h:bt)(H:Hp):List av:=(aS h.objs.size).filter fun a=>(H a).isSome
def uS (h:bt)(H:Hp):bt:=PySem.W.hideAll h (kN h H)
theorem zEO (h:bt)(H:Hp):(uS h H).objs.size=h.objs.size:=PySem.W.hideAll_size _ _
theorem zEP {h:bt}{H:Hp}{b:av}{o:Obj}(e:h.get? b=some o)(n:H b=none):(uS h H).get? b=some o :=
 PySem.W.hideAll_get _ e fun a=>by
  have q:(H b).isSome=true:=(bY.mp a).2
  rw[n]at q;simp at q
theorem zEQ {h:bt}{H:Hp}{b:av}{o:Obj}(e:(uS h H).get? b=some o):h.get? b=some o/\H b=none:=by
 have a:h.get? b=some o:=PySem.W.of_hideAll (kN h H) e
 refine⟨a,?_⟩
 cases q:H b with
 |none=>rfl
 |some x=>
  have c:b∈kN h H:=bY.mpr ⟨bp.mpr (aA a),by simp[q]⟩
  have z:(uS h H).get? b=none:=PySem.W.hideAll_none (kN h H) c
  rw[z]at e;cases e
def zER (g h:bt)(L:av):List (av×Obj):=(aS h.objs.size).filterMap fun a=>if a=L\/(g.get? a).isSome=true then none else(h.get? a).map fun o=>(a,o)
def yG (g h:bt)(L d:av):List (av×Obj):=(zER g h L).filter fun p=>decide (p.1≠d)
structure Mod (K:ai) (mg:Str->Option af) (base:bt):Prop where
 kin:K.In base
 glob:base.Ns mainGlobals mg
 blt:∃mb,base.Ns builtinsNs mb/\∀x:Str,x≠"__name__"->mb x=bootBuiltins x
 nolimit:base.NoLimit
structure Cx where
 prog:aI
 w:aR
 K:ai
 mg:Str->Option af
 base:bt
 A:bF
 N:List Str
 s₀:aj
 H₀:Hp
 env:Env
 outer:List Env
 stack:List Env
 ex:List av
 fn:Str->Bool
 calm:Bool
 pn:List (av×Obj)
 xe:af->aj->Prop
def vA (l:List Env):List av:=l.filterMap (·.frame)
abbrev Cx.fs (X:Cx):List av:=vA X.outer
def gZ (sc:ef)(x:Str):Prop:=sc.names.lookup x=some .local\/sc.names.lookup x=some .cell\/sc.names.lookup x=some .free
def jO (sc:ef)(x:Str):Prop:=sc.names.lookup x=some .local\/sc.names.lookup x=some .cell
def zES (env:Env)(h:bt)(m:Str->Option af)(x:Str)(u:af):Prop :=
 (env.kindOf x=some .local/\m x=some u)\/((env.kindOf x=some .cell\/env.kindOf x=some .free)/\∃c,env.cells.lookup x=some c/\h.IsCell c (some u))
structure Cx.Ok (X:Cx):Prop where
 mod:Mod X.K X.mg X.base
 kind:X.env.scope.kind=.function
 glob:X.env.globals=mainGlobals
 blt:X.env.builtins=builtinsNs
 above:X.s₀.heap.objs.size<=X.env.locals
 inj:∀x y c,X.env.cells.lookup x=some c->X.env.cells.lookup y=some c->x=y
 has:∀x,(X.env.kindOf x=some .cell\/X.env.kindOf x=some .free)->∃c,X.env.cells.lookup x=some c
 cab:∀x c,X.fn x=true->X.env.cells.lookup x=some c->X.s₀.heap.objs.size<=c
 hd:X.calm=true->X.A.handled=none
 frames:X.A.frames=some X.stack
 stk:X.stack=X.outer\/(X.stack=X.env::X.outer/\X.env.frame=some X.env.locals)
 exf:∀b∈X.ex,b≠X.env.locals/\∀x c,X.env.cells.lookup x=some c->c≠b
 bs:∀b o,X.base.get? b=some o->X.s₀.heap.get? b=some o/\X.H₀ b=none
 bsz:X.base.objs.size<=X.s₀.heap.objs.size
 noex:∀b o,X.base.get? b=some o->b∉X.ex
 exfs:∀b∈X.ex,b∉X.fs
 funs:X.s₀.heap.FunFrames X.base X.outer
 frf:∀b∈X.fs,X.H₀ b=none
structure Inv (X:Cx) (pins:List (av×Obj)) (σ:List (Option V)) (H:Hp) (s:aj):Prop where
 ok:X.Ok
 os:s.os=X.s₀.os
 bare:fZ s.gens
 base:Un X.fs X.ex X.H₀ H X.s₀.heap s.heap
 loc:∃m,s.heap.Ns X.env.locals m/\∀(i:Nat) (x:Str) (v:V),X.N[i]?=some x->σ[i]?=some (some v)->gZ X.env.scope x->∃u,zI v u/\zES X.env s.heap m x u
 cell:∀x c,X.env.cells.lookup x=some c->∃v,s.heap.IsCell c v
 free:H X.env.locals=none
 freeC:∀x c,X.env.cells.lookup x=some c->H c=none
 pin:∀p∈X.pn++pins,s.heap.get? p.1=some p.2/\H p.1=none/\p.1≠X.env.locals/\p.1∉X.fs/\∀v,p.2.data≠.cell v
 hok:zR X.prog X.w H s.heap
 len:σ.length=X.N.length
section
variable{X:Cx}{pins:List (av×Obj)}{σ:List (Option V)}{H H':Hp}{s:aj}{h':bt}
theorem Cx.Ok.nofr (ok:X.Ok){b:av}{o:Obj}(e:X.base.get? b=some o):b∉X.fs:=fun a=>by
 have:=(ok.funs.mem a).1
 rw[e]at this;cases this
theorem Inv.bs (I:Inv X pins σ H s):∀b o,X.base.get? b=some o->s.heap.get? b=some o/\H b=none:=fun b o e=>
 ⟨I.base.keep b o (I.ok.bs b o e).1 (I.ok.bs b o e).2 (I.ok.nofr e) (I.ok.noex b o e),I.base.free b o (I.ok.bs b o e).1 (I.ok.bs b o e).2 (I.ok.noex b o e)⟩
theorem Inv.bk (I:Inv X pins σ H s):∀b o,X.base.get? b=some o->s.heap.get? b=some o:=fun b o e=>(I.bs b o e).1
theorem Inv.mod (I:Inv X pins σ H s):Mod X.K X.mg X.base:=I.ok.mod
theorem Inv.kIn (I:Inv X pins σ H s):X.K.In s.heap:=I.ok.mod.kin.keeps I.bk
theorem Inv.nolimit (I:Inv X pins σ H s):s.heap.NoLimit:=I.ok.mod.nolimit.keeps I.bk
theorem Inv.lt (I:Inv X pins σ H s):X.env.locals<s.heap.objs.size:=let⟨_,a,_⟩:=I.loc;a.lt
theorem Inv.sz (I:Inv X pins σ H s):X.s₀.heap.objs.size<=s.heap.objs.size:=cm I.ok.above (hU I.lt)
theorem Inv.nofs (I:Inv X pins σ H s){a:av}(h:s.heap.objs.size<=a):a∉X.fs:=fun b=>by
 obtain⟨_,o,c,_⟩:=I.ok.funs.mem b
 exact absurd (bb (aA c) (cm I.sz h)) (bG _)
theorem Inv.cne (I:Inv X pins σ H s):∀x c,X.env.cells.lookup x=some c->c≠X.env.locals:=fun x c e z=>by
 obtain⟨v,o,d,hd⟩:=I.cell x c e
 obtain⟨m,⟨f,g,ep,a,b,_⟩,_⟩:=I.loc
 rw[z,a]at d;cases d;rw[b]at hd;cases hd
theorem Inv.funs (I:Inv X pins σ H s):s.heap.FunFrames X.base X.outer:=by
 have all:∀(l:List Env),(∀b∈vA l,b∈X.fs)->X.s₀.heap.FunFrames X.base l->s.heap.FunFrames X.base l:=by
  intro l
  induction l with
  |nil=>intro _ _;trivial
  |cons env r ih=>
   intro f hl
   obtain⟨g,⟨L,o,a,h,i,hd⟩,j⟩:=hl
   have c:L∈X.fs:=f L (by unfold vA;rw[eE,a];exact ao)
   obtain⟨m,e⟩:=I.base.slot L o i (I.ok.frf L c) c fun z=>I.ok.exfs L z c
   exact⟨g,⟨L,_,a,h,e,hd⟩,ih (fun b d=>f b (by unfold vA;rw[eE,a];exact au _ d)) j⟩
 exact all X.outer (fun _ d=>d) I.ok.funs
theorem Inv.stack (I:Inv X pins σ H s):s.heap.FunFrames X.base X.stack:=by
 rcases I.ok.stk with e|⟨e,a⟩
 ·rw[e];exact I.funs
 ·rw[e]
  obtain⟨m,b,_⟩:=I.loc
  refine .cons (by rw[I.ok.kind];decide) a b ?_ I.funs
  exact iU (cm I.ok.bsz I.ok.above)
theorem Inv.stkSub (I:Inv X pins σ H s):∀b∈vA X.stack,b∈X.env.locals::X.fs:=fun b a=>by
 rcases I.ok.stk with e|⟨e,c⟩
 ·rw[e]at a;exact au _ a
 ·rw[e]at a
  unfold vA at a
  rw[eE,c]at a
  exact a
theorem Inv.stkFree (I:Inv X pins σ H s):∀b∈vA X.stack,H b=none:=fun b a=>by
 rcases aE.mp (I.stkSub b a)with e|a
 ·rw[e];exact I.free
 ·obtain⟨_,o,c,_⟩:=I.ok.funs.mem a
  exact I.base.free b o c (I.ok.frf b a) fun z=>I.ok.exfs b z a
theorem Inv.step {g':Array iV}{t':Nat}{d':Drawn}{ch:List av}(I:Inv X pins σ H s)
  (f:∀b∈ch,(b∈X.ex\/X.s₀.heap.objs.size<=b)/\b≠X.env.locals/\(∀x c,X.env.cells.lookup x=some c->c≠b)/\∀p∈X.pn++pins,p.1≠b)
  (keep:∀b o,b≠X.env.locals->b∉X.fs->b∉ch->s.heap.get? b=some o->H b=none->h'.get? b=some o)
  (slot:∀b o,b≠X.env.locals->b∈X.fs->b∉ch->s.heap.get? b=some o->H b=none->∃F,h'.get? b=some {o with slots:=F}) (free:∀b o,b∉ch->s.heap.get? b=some o->H b=none->H' b=none)
  (there:∀b o,b∉ch->s.heap.get? b=some o->∃B,h'.get? b=some B)
  (tups:∀b xs,H b=some (.tup xs)->H' b=some (.tup xs)) (frzs:∀b o u,H b=some (.frz o u)->H' b=some (.frz o u)) (tbls:∀b E,H b=some (.tbl E)->∃more,H' b=some (.tbl (E++more)))
  (ns:∀m,s.heap.Ns X.env.locals m->h'.Ns X.env.locals m) (hok:zR X.prog X.w H' h') (N:fZ g') :
  Inv X pins σ H' {s with heap:=h',gens:=g',drawn:=d',toks:=t'}:=by
 have C:∀b o,X.s₀.heap.get? b=some o->b≠X.env.locals:=fun b o e=>aG (bb (aA e) I.ok.above)
 have j:∀b o,X.s₀.heap.get? b=some o->b∉X.ex->b∉ch:=fun b o e a y=>by
  rcases(f b y).1 with z|z
  ·exact a z
  ·exact absurd (bb (aA e) z) (bG _)
 have g:∀x c,X.env.cells.lookup x=some c->∀v,s.heap.IsCell c v->h'.IsCell c v:=fun x c e v ⟨o,A,hd⟩=>by
  have h:c∉ch:=fun z=>(f c z).2.2.1 x c e rfl
  by_cases J:c∈X.fs
  ·obtain⟨F,q⟩:=slot c o (I.cne x c e) J h A (I.freeC x c e)
   exact⟨_,q,hd⟩
  ·exact⟨o,keep c o (I.cne x c e) J h A (I.freeC x c e),hd⟩
 refine⟨I.ok,I.os,N,⟨fun b o e n y a=>?_,fun b o e n y a=>?_,fun b o e n a=>?_,fun b o e a=>?_,fun b xs e=>tups b xs (I.base.tups b xs e),fun b o xs e=>frzs b o xs (I.base.frzs b o xs e),fun b E e=>?_⟩,?_,fun x c e=>?_,?_,fun x c e=>?_,fun p L=>?_,hok,I.len⟩
 ·exact keep b o (C b o e) y (j b o e a) (I.base.keep b o e n y a) (I.base.free b o e n a)
 ·obtain⟨F,e1⟩:=I.base.slot b o e n y a
  obtain⟨G,D⟩:=slot b _ (C b o e) y (j b o e a) e1 (I.base.free b o e n a)
  exact⟨G,D⟩
 ·obtain⟨B,e1⟩:=I.base.there b o e a
  exact free b B (j b o e a) e1 (I.base.free b o e n a)
 ·obtain⟨B,e1⟩:=I.base.there b o e a
  exact there b B (j b o e a) e1
 ·obtain⟨O,e1⟩:=I.base.tbls b E e
  obtain⟨P,D⟩:=tbls b _ e1
  exact⟨O++P,by rw[D,Array.append_assoc]⟩
 ·obtain⟨m,Q,hl⟩:=I.loc
  refine⟨m,ns m Q,fun i x v e1 D R=>?_⟩
  obtain⟨u,r,l⟩:=hl i x v e1 D R
  refine⟨u,r,?_⟩
  rcases l with l|⟨k,c,e,z⟩
  ·exact .inl l
  ·exact .inr ⟨k,c,e,g x c e _ z⟩
 ·obtain⟨v,z⟩:=I.cell x c e
  exact⟨v,g x c e v z⟩
 ·obtain⟨m,⟨o,_,_,A,_⟩,_⟩:=I.loc
  exact free _ o (fun z=>(f _ z).2.1 rfl) A I.free
 ·obtain⟨v,o,A,hd⟩:=I.cell x c e
  exact free c o (fun z=>(f c z).2.2.1 x c e rfl) A (I.freeC x c e)
 ·obtain⟨e,n,ne,M,d⟩:=I.pin p L
  have h:p.1∉ch:=fun z=>(f p.1 z).2.2.2 p L rfl
  exact⟨keep p.1 p.2 ne M h e n,free p.1 p.2 h e n,ne,M,d⟩
theorem Inv.un {t':Nat}(I:Inv X pins σ H s)(u:Un X.fs [] H H' s.heap h')(hok:zR X.prog X.w H' h'):Inv X pins σ H' {s with heap:=h',toks:=t'}:=by
 obtain⟨m,⟨o,j,ep,f,r⟩,_⟩:=id I.loc
 obtain⟨l,g⟩:=u.any f I.free (by simp)
 exact I.step (g':=s.gens) (d':=s.drawn) (ch:=[]) (fun _ z=>nomatch z) (fun b o _ c _ e n=>u.keep b o e n c (by simp)) (fun b o _ c _ e n=>u.slot b o e n c (by simp)) (fun b o _ e n=>u.free b o e n (by simp)) (fun b o _ e=>u.there b o e (by simp)) u.tups u.frzs u.tbls (fun p h=>by
  obtain⟨q,es',d,a,i⟩:=h
  rw[f]at a;cases a
  exact⟨_,es',d,g,i⟩) hok I.bare
theorem Inv.call {g':Array iV}{t':Nat}{d':Drawn}{ch:List av}(I:Inv X pins σ H s)(u:Un (vA X.stack) ch H H' s.heap h')(hok:zR X.prog X.w H' h')(j:fZ g')
  (d:∀b∈ch,(b∈X.ex\/X.s₀.heap.objs.size<=b)/\b≠X.env.locals/\(∀x c,X.env.cells.lookup x=some c->c≠b)/\∀p∈X.pn++pins,p.1≠b) :
  Inv X pins σ H' {s with heap:=h',gens:=g',drawn:=d',toks:=t'}:=by
 obtain⟨m,⟨o,y,ep,i,r⟩,_⟩:=id I.loc
 obtain⟨A,g⟩:=u.any i I.free fun z=>(d _ z).2.1 rfl
 exact I.step (ch:=ch) d (fun b o g l a e n=>u.keep b o e n (fun z=>(aE.mp (I.stkSub b z)).elim g l) a) (fun b o _ _ a e n=>u.any e n a) (fun b o a e n=>u.free b o e n a) (fun b o a e=>u.there b o e a) u.tups u.frzs u.tbls (fun B q=>by
  obtain⟨C,es',h,f,v⟩:=q
  rw[i]at f;cases f
  exact⟨_,es',h,g,v⟩) hok j
theorem Inv.turned {t':Nat}{a:av}(I:Inv X pins σ H s)(k:∀b o,b≠a->s.heap.get? b=some o->h'.get? b=some o)(h:H a=none)(g:a≠X.env.locals)
  (i:a∈X.ex\/X.s₀.heap.objs.size<=a) (j:∀x c,X.env.cells.lookup x=some c->c≠a) (l:∀p∈X.pn++pins,p.1≠a):Inv X pins σ H {s with heap:=h',toks:=t'}:=by
 have f:∀b u,H b=some u->b≠a:=fun b u e z=>by rw[z,h]at e;cases e
 refine I.step (g':=s.gens) (d':=s.drawn) (ch:=[a]) (fun b w=>?_) (fun b o _ _ d e _=>k b o (fun z=>d (by simp[z])) e) (fun b o _ _ d e _=>⟨o.slots,k b o (fun z=>d (by simp[z])) e⟩) (fun _ _ _ _ n=>n)
  (fun b o d e=>⟨o,k b o (fun z=>d (by simp[z])) e⟩) (fun _ _ e=>e) (fun _ _ _ e=>e) (fun b C e=>⟨#[],by rw[e];simp⟩) (fun m y=>?_) (fun b u e=>?_) I.bare
 ·have e:b=a:=by simpa using w
  subst e
  exact⟨i,g,j,l⟩
 ·obtain⟨o,A,ep,B,r⟩:=y
  exact⟨o,A,ep,k _ o (dg g) B,r⟩
 ·refine(I.hok b u e).stay (fun c v d q=>k c v ?_ q) (fun _ q=>q) fun _ _ q=>q
  rcases d with z|z
  ·rw[z];exact f b u e
  ·exact f c _ z
theorem Inv.tok (I:Inv X pins σ H s)(t:Nat):Inv X pins σ H {s with toks:=t}:=I.un (h':=s.heap) (t':=t) Un.refl I.hok
theorem Inv.kept {t':Nat}(I:Inv X pins σ H s)(k:∀b u,s.heap.get? b=some u->h'.get? b=some u):Inv X pins σ H {s with heap:=h',toks:=t'}:=I.un (Un.kept k) (I.hok.kept k)
theorem Inv.laid {a:av}{o:HO}{t':Nat}(I:Inv X pins σ H s)(k:∀b u,s.heap.get? b=some u->h'.get? b=some u)(c:s.heap.objs.size<=a)(new:zZ X.prog X.w (upd H a o) h' a o) :
  Inv X pins σ (upd H a o) {s with heap:=h',toks:=t'}:=I.un (Un.laid k c (I.hok.fresh c)) (I.hok.laid k c new)
theorem Inv.write {x e:av}{o:HO}{t':Nat}(I:Inv X pins σ H s)(c:jN (H x))(d:e=x\/H e=some (.own x))(k:∀b u,b≠e->s.heap.get? b=some u->h'.get? b=some u)(a:∃u,h'.get? e=some u)
  (new:zZ X.prog X.w (upd H x o) h' x o):Inv X pins σ (upd H x o) {s with heap:=h',toks:=t'}:=I.un (Un.write c d k a) (I.hok.write c d k a new)
theorem Inv.pins_of {pins':List (av×Obj)}(I:Inv X pins σ H s)(h:∀p∈pins',s.heap.get? p.1=some p.2/\H p.1=none/\p.1≠X.env.locals/\p.1∉X.fs/\∀v,p.2.data≠.cell v):Inv X pins' σ H s :=
 ⟨I.ok,I.os,I.bare,I.base,I.loc,I.cell,I.free,I.freeC,fun p a=>(b8.mp a).elim (fun z=>I.pin p (bU _ z)) (h p),I.hok,I.len⟩
theorem zBS {N:List Str}(c:N.Nodup){i j:Nat}{x:Str}(a:N[i]?=some x)(b:N[j]?=some x):i=j:=by
 obtain⟨e,e1⟩:=ah.mp a
 obtain⟨f,d⟩:=ah.mp b
 exact(cY c).mp (e1.trans d.symm)
theorem zET {M:Model}{A:bF}{E:af->aj->Prop}{i:Nat}{x:Str}{v:V}{u:af}{Q:Unit->aj->Prop}(I:Inv X pins σ H s)(hN:X.N.Nodup)(hi:X.N[i]?=some x)(B:jO X.env.scope x)(r:zI v u)
  (h:∀s',Inv X pins (σ.set i (some v)) H s'->(∃a,eA a s.heap s'.heap/\(a=X.env.locals\/X.env.cells.lookup x=some a))->Q () s') (hf:X.fn x=true\/X.env.scope.names.lookup x=some .local:=by first|exact .inl rfl|exact .inr rfl|assumption):wpAny M A (storeName X.env x u) Q E s:=by
 obtain⟨m,hn,hl⟩:=id I.loc
 have O:(X.env.scope.kind== .class||(X.env.scope.kind== .module&&X.env.locals !=X.env.globals))=false:=by rw[I.ok.kind];rfl
 have P:i<σ.length:=by rw[I.len];exact(ah.mp hi).1
 have cne:=I.cne
 have g:∀{a:av} {h':bt},(∃o,s.heap.get? a=some o/\H a=none)->eA a s.heap h'->zR X.prog X.w H h':=fun{a h'} ha f b ob e=>by
  obtain⟨_,_,C⟩:=ha
  refine(I.hok b ob e).stay (fun c Y l q=>(f.2 c ?_).trans q) (fun _ q=>q) fun _ _ q=>q
  rintro rfl
  rcases l with rfl|l
  ·rw[C]at e;cases e
  ·rw[C]at l;cases l
 rcases B with F|F
 ·refine wpAny_storeName_local F hn (fun h' ab f=>?_) O
  obtain⟨oL,_,_,ac,_⟩:=id hn
  refine h _ ⟨I.ok,I.os,I.bare,⟨fun b o e n G B=>?_,fun b o e n G B=>?_,I.base.free,fun b o e B=>?_,I.base.tups,I.base.frzs,I.base.tbls⟩,⟨_,ab,fun j y v' e1 D e3=>?_⟩,fun y c e=>?_,I.free,I.freeC,fun p hp=>?_,g ⟨oL,ac,I.free⟩ f,by simpa using I.len⟩ ⟨_,f,.inl rfl⟩
  ·exact(f.2 b (aG (bb (aA e) I.ok.above))).trans (I.base.keep b o e n G B)
  ·obtain⟨sl,e1⟩:=I.base.slot b o e n G B
   exact⟨sl,(f.2 b (aG (bb (aA e) I.ok.above))).trans e1⟩
  ·obtain⟨o',e1⟩:=I.base.there b o e B
   exact⟨o',(f.2 b (aG (bb (aA e) I.ok.above))).trans e1⟩
  ·by_cases J:j=i
   ·subst J
    rw[hi]at e1;cases e1
    rw[hV P]at D
    cases D
    exact⟨u,r,.inl ⟨F,by simp⟩⟩
   ·rw[iW (dg J)]at D
    obtain⟨u',r',q⟩:=hl j y v' e1 D e3
    refine⟨u',r',?_⟩
    rcases q with⟨k,e⟩|⟨k,c,e,z⟩
    ·refine .inl ⟨k,?_⟩
     have:y≠x:=fun e=>J (zBS hN e1 (e▸hi))
     simp[this,e]
    ·exact .inr ⟨k,c,e,z.sameBut f (cne y c e)⟩
  ·obtain⟨Y,z⟩:=I.cell y c e
   exact⟨Y,z.sameBut f (cne y c e)⟩
  ·obtain⟨e,n,ne,nf,d⟩:=I.pin p hp
   exact⟨(f.2 p.1 ne).trans e,n,ne,nf,d⟩
 ·have L:X.fn x=true:=by
   rcases hf with z|z
   ·exact z
   ·rw[z]at F;cases F
  obtain⟨c,l⟩:=I.ok.has x (.inl F)
  obtain⟨Y,z⟩:=I.cell x c l
  refine wpAny_storeName_cell I.ok.kind F l z (fun h' R f=>?_)
  obtain⟨oc,T,U⟩:=id z
  refine h {s with heap:=h'} ⟨I.ok,I.os,I.bare,⟨fun b o e n G B=>?_,fun b o e n G B=>?_,I.base.free,fun b o e B=>?_,I.base.tups,I.base.frzs,I.base.tbls⟩,⟨m,hn.sameBut f (dg (cne x c l)),fun j y v' e1 D e3=>?_⟩,fun y Z e=>?_,I.free,I.freeC,fun p hp=>?_,g ⟨oc,T,I.freeC x c l⟩ f,by simpa using I.len⟩ ⟨c,f,.inr l⟩
  ·exact(f.2 b (aG (bb (aA e) (I.ok.cab x c L l)))).trans (I.base.keep b o e n G B)
  ·obtain⟨sl,e1⟩:=I.base.slot b o e n G B
   exact⟨sl,(f.2 b (aG (bb (aA e) (I.ok.cab x c L l)))).trans e1⟩
  ·obtain⟨o',e1⟩:=I.base.there b o e B
   exact⟨o',(f.2 b (aG (bb (aA e) (I.ok.cab x c L l)))).trans e1⟩
  ·by_cases J:j=i
   ·subst J
    rw[hi]at e1;cases e1
    rw[hV P]at D
    cases D
    exact⟨u,r,.inr ⟨.inl F,c,l,R⟩⟩
   ·rw[iW (dg J)]at D
    obtain⟨u',r',q⟩:=hl j y v' e1 D e3
    refine⟨u',r',?_⟩
    rcases q with q|⟨k,Z,e,z'⟩
    ·exact .inl q
    ·refine .inr ⟨k,Z,e,z'.sameBut f ?_⟩
     rintro rfl
     exact J (zBS hN e1 (I.ok.inj _ _ _ e l▸hi))
  ·by_cases W:Z=c
   ·subst W;exact⟨_,R⟩
   ·obtain⟨w2,z2⟩:=I.cell y Z e
    exact⟨w2,z2.sameBut f W⟩
  ·obtain⟨e,n,ne,nf,d⟩:=I.pin p hp
   refine⟨(f.2 p.1 ?_).trans e,n,ne,nf,d⟩
   intro q
   rw[q,T]at e
   have q':oc=p.2:=aH e
   exact d Y (by rw[<-q'];exact U)
theorem g0 {M:Model}{A:bF}{E:af->aj->Prop}{i:Nat}{x:Str}{v:V}{u:af}{Q:Unit->aj->Prop}(I:Inv X pins σ H s)(a:X.N.Nodup)(hi:X.N[i]?=some x)(b:jO X.env.scope x)(r:zI v u)
  (h:∀s',Inv X pins (σ.set i (some v)) H s'->Q () s') (c:X.fn x=true\/X.env.scope.names.lookup x=some .local:=by first|exact .inl rfl|exact .inr rfl|assumption):wpAny M A (storeName X.env x u) Q E s :=
 zET I a hi b r (fun s' d _=>h s' d) c
theorem Inv.call' {s':aj}{ch:List av}(I:Inv X pins σ H s)(d:s'.os=s.os)(u:Un (vA X.stack) ch H H' s.heap s'.heap)(hok:zR X.prog X.w H' s'.heap)(f:fZ s'.gens)
  (a:∀b∈ch,(b∈X.ex\/X.s₀.heap.objs.size<=b)/\b≠X.env.locals/\(∀x c,X.env.cells.lookup x=some c->c≠b)/\∀p∈X.pn++pins,p.1≠b):Inv X pins σ H' s':=by
 obtain⟨h',g',d',t',g⟩:=s'
 have e:g=s.os:=d
 subst e
 exact I.call (g':=g') (t':=t') (d':=d') u hok f a
end
abbrev XK:=af->Option av->Hp->Prop
abbrev St:=List (Option V)
abbrev VK:=V->Hp->Prop
abbrev TE:=St->Hp->VK->Prop
abbrev TT:=St->Hp->(Bool->Hp->Prop)->Prop
abbrev TA:=St->Hp->(List V->Hp->Prop)->Prop
structure Ends where
 nx:St->Hp->Prop
 rt:VK
 bk:St->Hp->Prop:=fun _ _=>False
 ct:St->Hp->Prop:=fun _ _=>False
abbrev TS:=Ends->St->Hp->Prop
def EP (X:Cx)(pins:List (av×Obj))(σ:St)(Q:VK)(u:af)(s':aj):Prop:=∃v H',Inv X pins σ H' s'/\zI v u/\Q v H'
def TP (X:Cx)(pins:List (av×Obj))(σ:St)(Q:Bool->Hp->Prop)(b:Bool)(s':aj):Prop:=∃H',Inv X pins σ H' s'/\Q b H'
def AP (X:Cx)(pins:List (av×Obj))(σ:St)(Q:List V->Hp->Prop)(us:List af)(s':aj):Prop:=∃vs H',Inv X pins σ H' s'/\zF vs us/\Q vs H'
def SP (X:Cx)(pins:List (av×Obj))(D:Ends)(f:Flow)(s':aj):Prop :=
 match f with
 | .next=>∃σ' H',Inv X pins σ' H' s'/\D.nx σ' H'
 | .brk=>∃σ' H',Inv X pins σ' H' s'/\D.bk σ' H'
 | .cont=>∃σ' H',Inv X pins σ' H' s'/\D.ct σ' H'
 | .ret u=>∃v σ' H',Inv X pins σ' H' s'/\zI v u/\D.rt v H'
def PE (X:Cx)(e:bV)(t:TE):Prop :=
 ∀(pins:List (av×Obj)) (s:aj) (σ:St) (H:Hp) (Q:VK),Inv X pins σ H s->t σ H Q->wpAny (model X.prog X.w) X.A (eval e X.env) (EP X pins σ Q) X.xe s
def PT (X:Cx)(e:bV)(t:TT):Prop :=
 ∀(pins:List (av×Obj)) (s:aj) (σ:St) (H:Hp) (Q:Bool->Hp->Prop),Inv X pins σ H s->t σ H Q->wpAny (model X.prog X.w) X.A (isTrue e X.env (eval e X.env)) (TP X pins σ Q) X.xe s
def PW (X:Cx)(e:bV)(t:TT):Prop :=
 ∀(whole:Sem af) (pins:List (av×Obj)) (s:aj) (σ:St) (H:Hp) (Q:Bool->Hp->Prop),Inv X pins σ H s->t σ H Q->wpAny (model X.prog X.w) X.A (isTrue e X.env whole) (TP X pins σ Q) X.xe s
theorem PW.pt {X:Cx}{e:bV}{t:TT}(h:PW X e t):PT X e t:=h _
def PA (X:Cx)(es:List bV)(t:TA):Prop :=
 ∀(pos:Pos) (pins:List (av×Obj)) (s:aj) (σ:St) (H:Hp) (Q:List V->Hp->Prop),Inv X pins σ H s->t σ H Q->wpAny (model X.prog X.w) X.A (spliced (backTo pos (starEach es X.env))) (AP X pins σ Q) X.xe s
def PS (X:Cx)(st:dB)(t:TS):Prop :=
 ∀(pins:List (av×Obj)) (s:aj) (σ:St) (H:Hp) (D:Ends),Inv X pins σ H s->t D σ H->wpAny (model X.prog X.w) X.A (exec st X.env) (SP X pins D) X.xe s
def v1 (X:Cx)(st:List dB)(t:TS):Prop :=
 ∀(pins:List (av×Obj)) (s:aj) (σ:St) (H:Hp) (D:Ends),Inv X pins σ H s->t D σ H->wpAny (model X.prog X.w) X.A (execs st X.env) (SP X pins D) X.xe s
theorem zG {α:Type}{t:Sem α}{Q b:α->aj->Prop}{M:Model}{A:bF}{E:af->aj->Prop}{s:aj}(h:wpAny M A t Q E s)(c:∀a s,Q a s->b a s):wpAny M A t b E s:=bZ h c fun _ _ x=>x
section
variable{X:Cx}
def qR (i:Nat):TE:=fun σ H Q=>∃v,σ[i]?=some (some v)/\Q v H
def tC (v:V):TE:=fun _ H Q=>Q v H
theorem zEU {i:Nat}{x:Str}{pos:Pos}(j:X.N[i]?=some x)(n:gZ X.env.scope x)(hd:(x==("__debug__" : Str))=false:=by decide)(f:(x==("__classdict__" : Str))=false:=by decide):PE X (.Name x pos) (qR i):=by
 intro d s σ H Q I h
 obtain⟨v,e,h⟩:=h
 obtain⟨m,o,hl⟩:=I.loc
 obtain⟨u,r,l⟩:=hl i x v j e n
 have fin:EP X d σ Q u s:=⟨v,H,I,r,h⟩
 rcases l with⟨b,p⟩|⟨b,c,g,a⟩
 ·exact mr (wpAny_loadName_local I.ok.kind b o p fin) hd
 ·rcases b with b|b
  ·exact mr (wpAny_loadName_cell I.ok.kind b g a fin) hd
  ·exact mr (wpAny_loadName_free I.ok.kind b g a fin f) hd
theorem zT {i j pos}:PE X (.Constant (.int i) j pos) (tC (.int i)):=fun _ _ _ H _ I h=>wpAny_Constant_int ⟨.int i,H,I.tok _,⟨_,rfl⟩,h⟩
theorem uK {b j pos}:PE X (.Constant (.bool b) j pos) (tC (.bl b)):=fun _ _ _ H _ I h=>Constant_bool ⟨.bl b,H,I,rfl,h⟩
theorem uZ {x j pos}:PE X (.Constant (.str x) j pos) (tC (.str x)):=fun _ _ _ H _ I h=>Calls.Constant_str ⟨.str x,H,I.tok _,⟨_,rfl⟩,h⟩
def Gl (X:Cx)(x:Str):Prop:=X.env.kindOf x=some .globalImplicit
theorem zBT {E:af->aj->Prop}{a:List (av×Obj)}{s:aj}{σ:St}{H:Hp}{x:Str}{u:af}{pos:Pos}{Q:af->aj->Prop}(I:Inv X a σ H s)(b:Gl X x)(c:X.mg x=some u)(h:Q u s)
  (hd:(x==("__debug__" : Str))=false:=by decide):wpAny (model X.prog X.w) X.A (eval (.Name x pos) X.env) Q E s :=
 fL I.ok.kind b (Calls.loadGlobal_global (by rw[I.ok.glob];exact I.mod.glob.keeps I.bk) c h) hd
theorem u0 {E:af->aj->Prop}{a:List (av×Obj)}{s:aj}{σ:St}{H:Hp}{x:Str}{u:af}{pos:Pos}{Q:af->aj->Prop}(I:Inv X a σ H s)(b:Gl X x)(c:X.mg x=none)(d:bootBuiltins x=some u)(h:Q u s)
  (e:x≠"__name__" :=by decide) (hd:(x==("__debug__" : Str))=false:=by decide):wpAny (model X.prog X.w) X.A (eval (.Name x pos) X.env) Q E s:=by
 obtain⟨i,f,g⟩:=I.mod.blt
 exact fL I.ok.kind b (Calls.loadGlobal_builtin (by rw[I.ok.glob];exact I.mod.glob.keeps I.bk) c (by rw[I.ok.blt];exact f.keeps I.bk) ((g x e).trans d) h) hd
theorem kO {x:Str}{v:V}{u:af}{pos:Pos}(a:Gl X x)(b:X.mg x=some u)(r:zI v u)(hd:(x==("__debug__" : Str))=false:=by decide):PE X (.Name x pos) (tC v) :=
 fun _ _ _ H _ I h=>zBT I a b ⟨v,H,I,r,h⟩ hd
theorem kP {x:Str}{v:V}{u:af}{pos:Pos}(a:Gl X x)(b:X.mg x=none)(c:bootBuiltins x=some u)(r:zI v u)(d:x≠"__name__" :=by decide)(hd:(x==("__debug__" : Str))=false:=by decide):PE X (.Name x pos) (tC v) :=
 fun _ _ _ H _ I h=>u0 I a b c ⟨v,H,I,r,h⟩ d hd
variable{a b:bV}{ta tb:TE}{pos:Pos}
def PC (X:Cx)(op:oe)(a b:bV)(t:TE):Prop :=
 ∀(pins:List (av×Obj)) (s:aj) (σ:St) (H:Hp) (Q:VK),Inv X pins σ H s->t σ H Q->
  wpAny (model X.prog X.w) X.A (eval a X.env) (fun v s₁=>wpAny (model X.prog X.w) X.A (eval b X.env) (fun u s₂=>wpAny (model X.prog X.w) X.A (compareOp op v u) (EP X pins σ Q) X.xe s₂) X.xe s₁) X.xe s
def tB (t:TE):TT:=fun σ H Q=>t σ H fun x H1=>∃c,x=.bl c/\Q c H1
theorem u1 {e:bV}{t:TE}(h:PE X e t)(f:∀whole,isTrue e X.env whole=(do let v<-whole;standAt e.pos;holding [v] (truthy v)):=by intro _;rfl):PT X e (tB t):=by
 intro c s σ H Q I g
 refine isTrue_plain (zG (h c s σ H _ I g) fun v n ⟨x,i,j,l,m⟩=>?_) (f _)
 obtain⟨d,rfl,q⟩:=m
 cases l
 exact dy ⟨i,j,q⟩
variable{tA tB':TT}{yG:List bV}
def zEV (t u:TT):TT:=fun σ H Q=>t σ H fun c H1=>if c=true then u σ H1 Q else Q false H1
def tOr (t u:TT):TT:=fun σ H Q=>t σ H fun c H1=>if c=true then Q true H1 else u σ H1 Q
def zEW (t:TT):TT:=fun σ H Q=>t σ H fun c H1=>Q (!c) H1
theorem zEX (f:PT X a tA):PW X (.BoolOp .And [a] pos) tA:=by
 intro g d s σ H Q I h
 refine isTrue_and (zG (f d s σ H Q I h) fun c i e=>?_)
 cases c with
 |true=>exact isTrue_and_nil e
 |false=>exact e
theorem qS (f:PT X a tA):PW X (.BoolOp .Or [a] pos) tA:=by
 intro g d s σ H Q I h
 refine isTrue_or (zG (f d s σ H Q I h) fun c i e=>?_)
 cases c with
 |false=>exact isTrue_or_nil e
 |true=>exact e
theorem zEY (i:PT X a tA)(j:PW X (.BoolOp .And (b::yG) pos) tB'):PW X (.BoolOp .And (a::b::yG) pos) (zEV tA tB'):=by
 intro l d s σ H Q I h
 refine isTrue_and (zG (i d s σ H _ I h) fun c m ⟨e,f,g⟩=>?_)
 cases c with
 |true=>exact j l d m σ e Q f g
 |false=>exact⟨e,f,g⟩
theorem qI (i:PT X a tA)(j:PW X (.BoolOp .Or (b::yG) pos) tB'):PW X (.BoolOp .Or (a::b::yG) pos) (tOr tA tB'):=by
 intro l d s σ H Q I h
 refine isTrue_or (zG (i d s σ H _ I h) fun c m ⟨e,f,g⟩=>?_)
 cases c with
 |true=>exact⟨e,f,g⟩
 |false=>exact j l d m σ e Q f g
theorem u5 (e:PT X a tA):PT X (.UnaryOp .Not a pos) (zEW tA):=by
 intro d s σ H Q I h
 exact isTrue_not (e d s σ H (fun c f=>Q (!c) f) I h)
end
def zV (K:ai)(H:Hp)(a:av)(xs:List V):Prop :=
 Rd H a (.lst xs)\/
  ∃(o:Obj) (its:Array af) (n:Nat),K.lookup a=some o/\o.cls=.type "list"/\o.dict=none/\o.data=.seq its n/\its.size<=sizeLine/\zF xs its.toList
def zW (K:ai)(H:Hp)(a:av)(xs:List V):Prop :=
 Rd H a (.tup xs)\/
  ∃(o:Obj) (its:Array af) (n:Nat),K.lookup a=some o/\o.cls=.type "tuple"/\o.data=.seq its n/\its.size<=sizeLine/\zF xs its.toList
def zEZ:af->Option V
 | .none=>some .non
 | .bool b=>some (.bl b)
 | .int i _=>some (.int i)
 | .str x _=>some (.str x)
 | .bytes b _=>some (.byt b)
 | .float b _=>some (.flt b)
 | .ref a=>some (.ref a)
 | .type n=>some (.ty n)
 |_=>none
theorem zI.abs {x:V}{u:af}(r:zI x u):zEZ u=some x:=by
 cases x with
 |non=>cases r;rfl
 |bl _=>cases r;rfl
 |int _=>obtain⟨t,rfl⟩:=r;rfl
 |str _=>obtain⟨t,rfl⟩:=r;rfl
 |byt _=>obtain⟨t,rfl⟩:=r;rfl
 |flt _=>obtain⟨t,rfl⟩:=r;rfl
 |ref _=>cases r;rfl
 |ty _=>cases r;rfl
theorem zI.inj {x y:V}{u:af}(r:zI x u)(q:zI y u):x=y:=aH (r.abs.symm.trans q.abs)
theorem zF.inj:∀{xs a:List V}{b:List af},zF xs b->zF a b->xs=a
 |_,_,_,.nil,.nil=>rfl
 |_,_,_,.cons r t,.cons c t'=>by rw[r.inj c,zF.inj t t']
section
variable{X:Cx}{pins:List (av×Obj)}{σ:St}{H:Hp}{s:aj}{a:av}{xs ys:List V}
theorem zV.of {K:ai}(h:H a=some (.lst xs)):zV K H a xs:=.inl (.inl h)
theorem zW.of {K:ai}(h:H a=some (.tup xs)):zW K H a xs:=.inl (.inl h)
theorem Inv.list (I:Inv X pins σ H s)(h:zV X.K H a xs):∃its:List af,zF xs its/\PlainL s.heap a its.toArray/\xs.length<=sizeLine:=by
 rcases h with h|⟨o,its,n,b,c,hd,d,hz,r⟩
 ·obtain⟨z,its,n,r,e⟩:=h.ok I.hok
  exact⟨its,r,⟨_,n,e,rfl,rfl,rfl⟩,z⟩
 ·refine⟨its.toList,r,⟨o,n,I.kIn a o b,c,hd,by simpa using d⟩,?_⟩
  have e:=r.length
  simp only[aN]at e
  omega
theorem Inv.tuple (I:Inv X pins σ H s)(h:zW X.K H a xs):∃its:List af,zF xs its/\IsTup s.heap a its.toArray/\xs.length<=sizeLine:=by
 rcases h with h|⟨o,its,n,b,c,d,hz,r⟩
 ·obtain⟨z,its,r,p⟩:=h.ok I.hok
  exact⟨its,r,p,z⟩
 ·refine⟨its.toList,r,⟨o,I.kIn a o b,c,n,by simpa using d⟩,?_⟩
  have e:=r.length
  simp only[aN]at e
  omega
theorem Inv.list_inj (I:Inv X pins σ H s)(h:zV X.K H a xs)(h':zV X.K H a ys):xs=ys:=by
 obtain⟨its,r,⟨o,n,e,_,_,d⟩,_⟩:=I.list h
 obtain⟨b,f,⟨i,j,c,_,_,d'⟩,_⟩:=I.list h'
 rw[e]at c;cases c
 rw[d]at d'
 injection d' with g _
 have:its=b:=by simpa using congrArg nR g
 subst this
 exact r.inj f
theorem Inv.tuple_inj (I:Inv X pins σ H s)(h:zW X.K H a xs)(h':zW X.K H a ys):xs=ys:=by
 obtain⟨its,r,⟨o,e,_,n,d⟩,_⟩:=I.tuple h
 obtain⟨b,f,⟨i,c,_,j,d'⟩,_⟩:=I.tuple h'
 rw[e]at c;cases c
 rw[d]at d'
 injection d' with g _
 have:its=b:=by simpa using congrArg nR g
 subst this
 exact r.inj f
end
abbrev Cx.wish (X:Cx)(E:af->aj->Prop):Cx:={X with xe:=E}
abbrev Cx.nox (X:Cx):Cx:=X.wish fun _ _=>False
theorem Cx.Ok.wish {X:Cx}(ok:X.Ok)(E:af->aj->Prop):(X.wish E).Ok :=
 ⟨ok.mod,ok.kind,ok.glob,ok.blt,ok.above,ok.inj,ok.has,ok.cab,ok.hd,ok.frames,ok.stk,ok.exf,ok.bs,ok.bsz,ok.noex,ok.exfs,ok.funs,ok.frf⟩
theorem Cx.Ok.unwish {X:Cx}{E:af->aj->Prop}(ok:(X.wish E).Ok):X.Ok :=
 ⟨ok.mod,ok.kind,ok.glob,ok.blt,ok.above,ok.inj,ok.has,ok.cab,ok.hd,ok.frames,ok.stk,ok.exf,ok.bs,ok.bsz,ok.noex,ok.exfs,ok.funs,ok.frf⟩
section
variable{X:Cx}{pins:List (av×Obj)}{σ:St}{H:Hp}{s:aj}{E:af->aj->Prop}
theorem Inv.wish (I:Inv X pins σ H s)(E:af->aj->Prop):Inv (X.wish E) pins σ H s:=⟨I.ok.wish E,I.os,I.bare,I.base,I.loc,I.cell,I.free,I.freeC,I.pin,I.hok,I.len⟩
theorem Inv.unwish (I:Inv (X.wish E) pins σ H s):Inv X pins σ H s:=⟨I.ok.unwish,I.os,I.bare,I.base,I.loc,I.cell,I.free,I.freeC,I.pin,I.hok,I.len⟩
theorem SP.unwish {D:Ends}{f:Flow}{s':aj}(h:SP (X.wish E) pins D f s'):SP X pins D f s':=by
 cases f with
 |next=>obtain⟨a,H',I,q⟩:=h;exact⟨a,H',I.unwish,q⟩
 |brk=>obtain⟨a,H',I,q⟩:=h;exact⟨a,H',I.unwish,q⟩
 |cont=>obtain⟨a,H',I,q⟩:=h;exact⟨a,H',I.unwish,q⟩
 |ret u=>obtain⟨v,a,H',I,r,q⟩:=h;exact⟨v,a,H',I.unwish,r,q⟩
theorem v1.nox {st:List dB}{t:TS}(h:v1 X.nox st t):v1 X st t:=fun pins s σ H D I a=>
 bZ (h pins s σ H D (I.wish _) a) (fun _ _ q=>q.unwish) fun _ _ z=>dW z
end
section
variable{X:Cx}{st:dB}{yG:List dB}{t u:TS}{e:bV}{te:TE}{pos:Pos}
def zEa:TS:=fun D σ H=>D.nx σ H
def zEb (t u:TS):TS:=fun D σ H=>t {D with nx:=u D} σ H
theorem vB:v1 X [] zEa:=fun _ _ σ H _ I h=>iB ⟨σ,H,I,h⟩
theorem zO (b:PS X st t)(c:v1 X yG u):v1 X (st::yG) (zEb t u):=by
 intro a s σ H D I h
 refine lI (zG (b a s σ H {D with nx:=u D} I h) fun f d q=>?_)
 cases f with
 |next=>
  obtain⟨g,H',i,q⟩:=q
  exact c a d g H' D i q
 |ret v=>exact q
 |brk=>exact q
 |cont=>exact q
theorem zS (b:PS X st t):v1 X [st] t:=by
 intro a s σ H D I h
 refine lI (zG (b a s σ H D I h) fun f c q=>?_)
 cases f with
 |next=>exact iB q
 |ret v=>exact q
 |brk=>exact q
 |cont=>exact q
theorem Inv.quiet {a:List (av×Obj)}{σ:St}{H:Hp}{s:aj}(I:Inv X a σ H s):interactive X.env=false:=by simp[interactive,I.ok.kind]
def zEc (te:TE):TS:=fun D σ H=>te σ H fun _ H1=>D.nx σ H1
theorem qT (b:PE X e te)(c:swapsWith e none pos.line X.env=pure false:=by rfl):PS X (.Expr e pos) (zEc te):=by
 intro a s σ H D I h
 exact wpAny_Expr_any (zG (b a s σ H _ I h) fun v i ⟨x,d,f,j,g⟩=>⟨σ,d,f,g⟩) I.quiet c
def zEd (te:TE):TS:=fun D σ H=>te σ H D.rt
theorem z9 (b:PE X e te):PS X (.Return (some e) pos) (zEd te):=by
 intro a s σ H D I h
 exact wpAny_Return_some (zG (b a s σ H _ I h) fun v i ⟨x,c,d,f,g⟩=>⟨x,σ,c,d,f,g⟩)
def zEe (c:TT)(t u:TS):TS:=fun D σ H=>c σ H fun b H1=>if b=true then t D σ H1 else u D σ H1
theorem vC {c:bV}{a b:List dB}{g:TT}(n:PT X c g)(o:v1 X a t)(p:v1 X b u):PS X (.If c a b pos) (zEe g t u):=by
 intro f s σ H D I h
 refine wpAny_If (zG (n f s σ H _ I h) fun d i ⟨j,l,m⟩=>?_)
 cases d with
 |true=>exact o f i σ j D l m
 |false=>exact p f i σ j D l m
def zEf:TS:=fun _ _ _=>False
theorem g7:PS X st zEf:=fun _ _ _ _ _ _ h=>h.elim
end
abbrev TG:=V->St->Hp->(St->Hp->Prop)->Prop
abbrev u7:=List V->St->Hp->(St->Hp->Prop)->Prop
def PG (X:Cx)(target:bV)(t:TG):Prop :=
 ∀(pins:List (av×Obj)) (s:aj) (σ:St) (H:Hp) (v:V) (u:af) (Q:St->Hp->Prop),Inv X pins σ H s->zI v u->t v σ H Q->
  wpAny (model X.prog X.w) X.A (assign target X.env u) (fun _ s'=>∃σ' H',Inv X pins σ' H' s'/\Q σ' H') X.xe s
def jP (X:Cx)(ts:List bV)(t:u7):Prop :=
 ∀(pins:List (av×Obj)) (s:aj) (σ:St) (H:Hp) (vs:List V) (us:List af) (Q:St->Hp->Prop),Inv X pins σ H s->zF vs us->t vs σ H Q->
  wpAny (model X.prog X.w) X.A (assignInOrder ((assignEach ts X.env).map (·.2)) us) (fun _ s'=>∃σ' H',Inv X pins σ' H' s'/\Q σ' H') X.xe s
section
variable{X:Cx}{pos:Pos}
def g8 (i:Nat):TG:=fun v σ H Q=>Q (σ.set i (some v)) H
theorem zM {i:Nat}{x:Str}(b:X.N.Nodup)(hi:X.N[i]?=some x)(c:jO X.env.scope x)(d:X.fn x=true\/X.env.scope.names.lookup x=some .local:=by first|exact .inl rfl|exact .inr rfl|assumption):PG X (.Name x pos) (g8 i):=by
 intro a s σ H v u Q I r h
 exact km (g0 I b hi c r (fun s' e=>⟨_,H,e,h⟩) d)
def zEg:u7:=fun vs σ H Q=>vs=[]/\Q σ H
def zEh (t:TG)(u:u7):u7:=fun vs σ H Q=>∃v r,vs=v::r/\t v σ H fun σ' H'=>u r σ' H' Q
theorem vQ:jP X [] zEg:=by
 intro a s σ H vs b Q I r h
 obtain⟨e,h⟩:=h
 subst e
 cases r
 exact assignInOrder_nil ⟨σ,H,I,h⟩
theorem z0 {e:bV}{b:List bV}{t:TG}{u:u7}(c:PG X e t)(d:jP X b u)
  (f:(assignEach (e::b) X.env).map (·.2)=assign e X.env::(assignEach b X.env).map (·.2):=by rfl):jP X (e::b) (zEh t u):=by
 intro a s σ H vs o Q I r h
 obtain⟨v,p,e1,h⟩:=h
 subst e1
 cases r with
 |cons r g=>
  rw[f]
  refine assignInOrder_cons (zG (c a s σ H _ _ _ I r h) fun _ i ⟨j,l,m,n⟩=>?_)
  exact d a i j l _ _ Q m g n
def zBU (K:ai)(n:Nat)(t:u7):TG:=fun v σ H Q=>∃a xs,v=.ref a/\zW K H a xs/\xs.length=n/\t xs σ H Q
theorem jQ {d:List bV}{k:Nat}{t:u7}{n:Nat}(j:X.calm=true)(h:jP X d t)
  (l:(assignEach d X.env).length=n:=by rfl) (f:(assignEach d X.env).findIdx? (·.1)=none:=by rfl):PG X (.Tuple d k pos) (zBU X.K n t):=by
 intro c s σ H v u Q I r g
 obtain⟨a,xs,e1,m,hl,g⟩:=g
 subst e1
 cases r
 obtain⟨its,i,p,hz⟩:=I.tuple m
 refine assign_Tuple_tuple (I.ok.hd j) p (by simp[l,<-hl,i.length]) f fun h' q=>?_
 have w:Inv X c σ H {s with heap:=h'}:=I.kept (t':=s.toks) fun b o e=>q b o (aG (aA e)) e
 exact h c _ σ H xs _ Q w (by simpa using i) g
def zBV (te:TE)(g:TG):TS:=fun D σ H=>te σ H fun x H1=>g x σ H1 D.nx
theorem yO {i:Nat}{x:Str}{e:bV}{c:TE}{a:Pos}(d:X.N.Nodup)(hi:X.N[i]?=some x)(f:jO X.env.scope x)(g:PE X e c)(j:swapsWith e (some (.Name x a)) pos.line X.env=pure false:=by rfl)(l:X.fn x=true\/X.env.scope.names.lookup x=some .local:=by first|exact .inl rfl|exact .inr rfl|assumption) :
  PS X (.Assign [.Name x a] e pos) (zBV c (g8 i)):=by
 intro b s σ H D I h
 refine wpAny_Assign_Name (zG (g b s σ H _ I h) fun v r ⟨y,m,n,o,p⟩=>?_) j
 exact g0 n d hi f o (fun u q=>⟨_,m,q,p⟩) l
end
structure It where
 go:Nat->Hp->Prop
 yld:Nat->Hp->V->Hp->Prop
 stop:Nat->Hp->Prop
def uC (X:Cx)(pins:List (av×Obj))(H:Hp)(b:av):Prop :=
 H b=none/\b≠X.env.locals/\b∉X.fs/\(b∈X.ex\/X.s₀.heap.objs.size<=b)/\(∀x c,X.env.cells.lookup x=some c->c≠b)/\∀p∈X.pn++pins,p.1≠b
theorem Inv.fpOk {X:Cx}{a:List (av×Obj)}{σ:St}{H H':Hp}{s:aj}{b:av}(I:Inv X a σ H s)(d:s.heap.objs.size<=b)(f:H' b=none):uC X a H' b:=by
 refine⟨f,cT (bb I.lt d),I.nofs d,.inr (cm I.sz d),fun x c e z=>?_,fun p g z=>?_⟩
 ·obtain⟨v,q⟩:=I.cell x c e
  exact absurd (bb q.lt (by rw[z];exact d)) (bG _)
 ·exact absurd (bb (aA (I.pin p g).1) (by rw[z];exact d)) (bG _)
structure Turn (P:aI) (w:aR) (K:ai) (tg:bV) (J:It) (fp:List av) (it:av) (tn:Nat->bt->Prop):Prop where
 mem:it∈fp
 obj:∀i h,tn i h->∀b∈fp,∃o,h.get? b=some o/\∀v,o.data≠.cell v
 keep:∀i h h',tn i h->(∀b∈fp,∀o,h.get? b=some o->h'.get? b=some o)->tn i h'
 item:∀(X:Cx),X.prog=P->X.w=w->X.K=K->X.calm=true->∀(i:Nat) (pins:List (av×Obj)) (s:aj) (σ:St) (H:Hp) (E:af->aj->Prop),Inv X pins σ H s->(∀b∈fp,uC X pins H b)->tn i s.heap->J.go i H->
  wpAny (model P w) X.A (pyNext (.ref it)) (fun r s1=>∃u,r=some u/\
   wpAny (model P w) X.A (letOwnedTupleGo tg (.ref it) u) (fun _ s2=>∃x H',Inv X pins σ H' s2/\zI x u/\J.yld i H x H'/\tn (i+1) s2.heap/\∀b∈fp,H' b=none) E s1) E s
 done:∀(X:Cx),X.prog=P->X.w=w->X.K=K->X.calm=true->∀(i:Nat) (pins:List (av×Obj)) (s:aj) (σ:St) (H:Hp) (E:af->aj->Prop),Inv X pins σ H s->(∀b∈fp,uC X pins H b)->tn i s.heap->J.stop i H->
  wpAny (model P w) X.A (pyNext (.ref it)) (fun r s1=>r=none/\Inv X pins σ H s1) E s
 self:∀(A:bF) (i:Nat) (s:aj) (Q:af->aj->Prop) (E:af->aj->Prop),tn i s.heap->Q (.ref it) s->wpAny (model P w) A (pyIter (.ref it)) Q E s
abbrev TI:=St->Hp->(It->Hp->Prop)->Prop
def PIE (X:Cx)(pins:List (av×Obj))(σ:St)(tg:bV)(R:It->Hp->Prop)(itv:af)(s2:aj):Prop :=
 ∃(it:av) (fp:List av) (tn:Nat->bt->Prop) (J:It) (H':Hp),itv=.ref it/\Inv X pins σ H' s2/\Turn X.prog X.w X.K tg J fp it tn/\tn 0 s2.heap/\(∀b∈fp,uC X pins H' b)/\R J H'
def PI (X:Cx)(tg iter:bV)(wi:TI):Prop :=
 ∀(pins:List (av×Obj)) (s:aj) (σ:St) (H:Hp) (R:It->Hp->Prop),Inv X pins σ H s->wi σ H R->
  wpAny (model X.prog X.w) X.A (eval iter X.env) (fun v s1=>wpAny (model X.prog X.w) X.A (pyIter v) (PIE X pins σ tg R) X.xe s1) X.xe s
theorem kQ {M:Model}{A:bF}{E:af->aj->Prop}{s:aj}{b:bV}{c:av}{u:af}{o:Obj}{n:String}{vs:Array af}{Q:Unit->aj->Prop}(d:s.heap.get? c=some o)(e:o.cls=.type n)(hd:o.data=.fields vs)
  (f:["enumerate","zip","dict_itemiterator","dict_reverseitemiterator","odict_iterator","itertools.zip_longest","itertools.pairwise"].contains n=false) (a:Q () s):wpAny M A (letOwnedTupleGo b (.ref c) u) Q E s:=by
 unfold letOwnedTupleGo
 cases b<;>first
  |exact ag a
  |(cases u<;>first
    |exact ag a
    |(refine aa (mw d ?_)
      rw[e,hd]
      show wpAny M A (if(["enumerate","zip","dict_itemiterator","dict_reverseitemiterator","odict_iterator","itertools.zip_longest","itertools.pairwise"].contains n&&vs[0]? ==some (rawInt _))=true then _ else _) Q E s
      rw[if_neg (by intro h;rw[f,Bool.false_and]at h;cases h)]
      exact ag a))
def g9 (K:ai)(a:av):It :=
 ⟨fun i H=>∃xs x,zV K H a xs/\xs[i]?=some x,fun i H x H'=>H'=H/\∀xs,zV K H a xs->xs[i]?=some x,fun i H=>∃xs,zV K H a xs/\xs.length<=i⟩
def Itt (K:ai)(a:av):It :=
 ⟨fun i H=>∃xs x,zW K H a xs/\xs[i]?=some x,fun i H x H'=>H'=H/\∀xs,zW K H a xs->xs[i]?=some x,fun i H=>∃xs,zW K H a xs/\xs.length<=i⟩
def kR (lo:Int)(n:Nat):It:=⟨fun i _=>i<n,fun i H x H'=>H'=H/\x=.int (lo+i),fun i _=>n<=i⟩
theorem zEi {P:aI}{w:aR}{K:ai}{M:bV}(a g:av):Turn P w K M (g9 K a) [g] g (fun i h=>h.IsListIter g a i) where
 mem:=by simp
 obj:=fun i h st b j=>by
  have e:b=g:=by simpa using j
  subst e
  obtain⟨o,e,c,d⟩:=st
  exact⟨o,e,fun v z=>by rw[d]at z;cases z⟩
 keep:=fun i h h' st k=>st.at fun o e=>k g (by simp) o e
 item:=by
  intro X q r y L i f s σ H E I m st A
  subst q r y
  obtain⟨xs,x,n,B⟩:=A
  obtain⟨its,C,p,hz⟩:=I.list n
  obtain⟨u,hu,N⟩:=C.get B
  obtain⟨D,f1,f2,F,G,J⟩:=m g (by simp)
  refine wpAny_pyNext_list_item st p.isList (x:=u) (by simpa using hu) fun h' l O=>?_
  have Q:Inv X f σ H {s with heap:=h'}:=I.turned (t':=s.toks) (fun b o j e=>(O.2 b j).trans e) D f1 F G J
  obtain⟨o,e,c,d⟩:=id l
  exact⟨u,rfl,kQ (s:={s with heap:=h'}) e c d (by decide) ⟨x,H,Q,N,⟨rfl,fun U R=>by rw[I.list_inj R n];exact B⟩,l,fun b j=>(m b j).1⟩⟩
 done:=by
  intro X q r y L i f s σ H E I m st A
  subst q r y
  obtain⟨xs,n,B⟩:=A
  obtain⟨its,C,p,hz⟩:=I.list n
  obtain⟨D,f1,f2,F,G,J⟩:=m g (by simp)
  have hl:=C.length
  exact wpAny_pyNext_list_end (I.ok.hd L) st p.isList (by simp;omega) fun h' T=>⟨rfl,I.turned (t':=s.toks) (fun b o j e=>T b o j e) D f1 F G J⟩
 self:=fun _ _ _ _ _ st h=>wpAny_pyIter_listiter st h
theorem zEj {P:aI}{w:aR}{K:ai}{M:bV}(a g:av):Turn P w K M (Itt K a) [g] g (fun i h=>h.IsTupleIter g a i) where
 mem:=by simp
 obj:=fun i h st b j=>by
  have e:b=g:=by simpa using j
  subst e
  obtain⟨o,e,c,d⟩:=st
  exact⟨o,e,fun v z=>by rw[d]at z;cases z⟩
 keep:=fun i h h' st k=>st.at fun o e=>k g (by simp) o e
 item:=by
  intro X q r y L i f s σ H E I m st A
  subst q r y
  obtain⟨xs,x,n,B⟩:=A
  obtain⟨its,C,p,hz⟩:=I.tuple n
  obtain⟨u,hu,N⟩:=C.get B
  obtain⟨D,f1,f2,F,G,J⟩:=m g (by simp)
  refine wpAny_pyNext_tuple_item st (show s.heap.IsTuple a its.toArray from p) (x:=u) (by simpa using hu) fun h' l O=>?_
  have Q:Inv X f σ H {s with heap:=h'}:=I.turned (t':=s.toks) (fun b o j e=>(O.2 b j).trans e) D f1 F G J
  obtain⟨o,e,c,d⟩:=id l
  exact⟨u,rfl,kQ (s:={s with heap:=h'}) e c d (by decide) ⟨x,H,Q,N,⟨rfl,fun U R=>by rw[I.tuple_inj R n];exact B⟩,l,fun b j=>(m b j).1⟩⟩
 done:=by
  intro X q r y L i f s σ H E I m st A
  subst q r y
  obtain⟨xs,n,B⟩:=A
  obtain⟨its,C,p,hz⟩:=I.tuple n
  obtain⟨D,f1,f2,F,G,J⟩:=m g (by simp)
  have hl:=C.length
  exact wpAny_pyNext_tuple_end (I.ok.hd L) st (show s.heap.IsTuple a its.toArray from p) (by simp;omega) fun h' T=>⟨rfl,I.turned (t':=s.toks) (fun b o j e=>T b o j e) D f1 F G J⟩
 self:=fun _ _ _ _ _ st h=>wpAny_pyIter_tupleiter st h
theorem zEk {P:aI}{w:aR}{K:ai}{A:bV}(a:av)(lo:Int)(n:Nat):Turn P w K A (kR lo n) [a] a (fun i h=>IsRangeIter h a (lo+(i:Nat)*1) ((n:Int)- (i:Nat)) 1) where
 mem:=by simp
 obj:=fun i h st b d=>by
  have e:b=a:=by simpa using d
  subst e
  exact⟨_,st,fun v z=>by
   have B:Data.fields _=Data.cell v:=z
   cases B⟩
 keep:=fun i h h' st k=>k a (by simp) _ st
 item:=by
  intro X j l m p i c s σ H E I g st q
  subst j l m
  obtain⟨r,f1,f2,u,x,y⟩:=g a (by simp)
  have W:=Walks.range (prog:=X.prog) (w:=X.w) (I.ok.hd p) a lo 1 n
  refine W.item i s _ _ q st fun v h' tk C f D=>?_
  obtain⟨t,rfl⟩:=C
  have F:Inv X c σ H {s with heap:=h',toks:=tk}:=I.turned (fun b o d e=>D b o (by simpa using d) e) r f1 u x y
  refine⟨_,rfl,kQ (s:={s with heap:=h',toks:=tk}) (n :="range_iterator") f rfl rfl (by decide) ⟨.int (lo+i),H,F,⟨t,?_⟩,⟨rfl,rfl⟩,f,fun b d=>(g b d).1⟩⟩
  rw[Int.mul_one]
 done:=by
  intro X j l m p i c s σ H E I g st q
  subst j l m
  obtain⟨r,f1,f2,u,x,y⟩:=g a (by simp)
  exact wpAny_pyNext_range_end (I.ok.hd p) st (by have:n<=i:=q;omega) fun h' G=>⟨rfl,I.turned (t':=s.toks) (fun b o d e=>G b o d e) r f1 u x y⟩
 self:=fun _ _ _ _ _ st h=>wpAny_pyIter_rangeiter st h
section
variable{X:Cx}{tg:bV}
def zEl (K:ai)(tl:TE):TI:=fun σ H R=>tl σ H fun x H1=>∃a,x=.ref a/\(∃xs,zV K H1 a xs)/\R (g9 K a) H1
def zEm (K:ai)(tl:TE):TI:=fun σ H R=>tl σ H fun x H1=>∃a,x=.ref a/\(∃xs,zW K H1 a xs)/\R (Itt K a) H1
theorem vR {l:bV}{tl:TE}(hl:PE X l tl):PI X tg l (zEl X.K tl):=by
 intro c s σ H R I h
 refine zG (hl c s σ H _ I h) fun v d ⟨x,g,f,i,j⟩=>?_
 obtain⟨a,e,⟨xs,m⟩,q⟩:=j
 subst e
 cases i
 obtain⟨its,r,p,hz⟩:=f.list m
 refine eg p.isList ?_
 refine⟨d.heap.objs.size,[d.heap.objs.size],_,_,g,rfl,f.kept (t':=d.toks) fun b o e=>ae _ e,zEi a _,⟨_,aw _ rfl,rfl,rfl⟩,fun b n=>?_,q⟩
 have e:b=d.heap.objs.size:=by simpa using n
 subst e
 exact f.fpOk (ay _) (f.hok.fresh (ay _))
theorem qU {l:bV}{tl:TE}(hl:PE X l tl):PI X tg l (zEm X.K tl):=by
 intro c s σ H R I h
 refine zG (hl c s σ H _ I h) fun v d ⟨x,g,f,i,j⟩=>?_
 obtain⟨a,e,⟨xs,m⟩,q⟩:=j
 subst e
 cases i
 obtain⟨its,r,p,hz⟩:=f.tuple m
 refine jw (show d.heap.IsTuple a its.toArray from p) ?_
 refine⟨d.heap.objs.size,[d.heap.objs.size],_,_,g,rfl,f.kept (t':=d.toks) fun b o e=>ae _ e,zEj a _,⟨_,aw _ rfl,rfl,rfl⟩,fun b n=>?_,q⟩
 have e:b=d.heap.objs.size:=by simpa using n
 subst e
 exact f.fpOk (ay _) (f.hok.fresh (ay _))
theorem zEn {a:List (av×Obj)}{σ:St}{H:Hp}{s:aj}{R:It->Hp->Prop}{E:af->aj->Prop}{lo hi:Int}{t u v:Tok}{tk:Nat}(I:Inv X a σ H s)(d:-(2^62)<=lo)(f:lo<2^62)(g:-(2^62)<=hi)(h:hi<2^62)
  (q:R (kR lo (hi-lo).toNat) H):wpAny (model X.prog X.w) X.A (pyIter (.ref s.heap.objs.size)) (PIE X a σ tg R) E {s with heap:=s.heap.push {cls:=.type "range",data:=.fields #[.int lo t,.int hi u,.int 1 v]},toks:=tk}:=by
 refine wpAny_pyIter_range (IsRange.new ..) (small_one d f g h) ?_
 have c:Inv X a σ H {s with heap:=s.heap.push {cls:=.type "range",data:=.fields #[.int lo t,.int hi u,.int 1 v]},toks:=tk}:=I.kept fun b o e=>ae _ e
 refine⟨(s.heap.push {cls:=.type "range",data:=.fields #[.int lo t,.int hi u,.int 1 v]}).objs.size,[(s.heap.push {cls:=.type "range",data:=.fields #[.int lo t,.int hi u,.int 1 v]}).objs.size],_,_,H,rfl,
  c.kept (t':=tk) fun b o e=>ae _ e,zEk _ lo (hi-lo).toNat,?_,fun b i=>?_,q⟩
 ·have e1:lo+((0:Nat):Int)*1=lo:=by simp
  have j:(((hi-lo).toNat:Nat):Int)- ((0:Nat):Int)=nM lo hi 1:=by rw[rangeSize_one];split<;>omega
  show IsRangeIter _ _ (lo+((0:Nat):Int)*1) ((((hi-lo).toNat:Nat):Int)- ((0:Nat):Int)) 1
  rw[e1,j]
  exact aw _ rfl
 ·have e:b=(s.heap.push {cls:=.type "range",data:=.fields #[.int lo t,.int hi u,.int 1 v]}).objs.size:=by simpa using i
  subst e
  exact c.fpOk (ay _) (c.hok.fresh (ay _))
def zEo (ta:TA):TI:=fun σ H R=>ta σ H fun vs H1=>∃j:Int,vs=[.int j]/\-(2^62)<=j/\j<2^62/\R (kR 0 j.toNat) H1
theorem zAA {a:bV}{d:TA}{p pos:Pos}(f:Gl X "range")(g:X.mg "range"=none)(i:PA X [a] d)(l:starEach [a] X.env=[(false,eval a X.env)]:=by rfl):PI X tg (.Call (.Name "range" p) [a] [] pos) (zEo d):=by
 intro b s σ H R I h
 refine Call_ (u0 I f g boot_range (cU (zG (i pos b s σ H _ I h) fun v w ⟨vs,x,m,n,c⟩=>?_) l rfl))
 obtain⟨j,e,c,o,q⟩:=c
 subst e
 cases n with
 |cons r u=>
  cases u
  obtain⟨t,rfl⟩:=r
  exact call_range_1 (zEn m (by omega) (by omega) c o (by simpa using q))
def zEp (wi:TI)(g:TG)(tb:TS):TS:=fun D σ H=>wi σ H fun J H1=>∃W:Nat->Nat->St->Hp->Prop,(∃m,W 0 m σ H1)/\∀i m σ H,W i m σ H->
 (J.stop i H/\D.nx σ H)\/(J.go i H/\∃N:St->Hp->Prop,(∀σ' H',N σ' H'->∃m',m'<m/\W (i+1) m' σ' H')/\∀x H',J.yld i H x H'->g x σ H' fun σ2 H2=>tb {D with nx:=N,ct:=N,bk:=D.nx} σ2 H2)
def qV (fp:List av)(h:bt):List (av×Obj):=fp.filterMap fun b=>(h.get? b).map fun o=>(b,o)
theorem qJ {fp:List av}{h:bt}{b:av}{o:Obj}(a:b∈fp)(e:h.get? b=some o):(b,o)∈qV fp h:=jx.mpr ⟨b,a,by rw[e];rfl⟩
theorem zEq {fp:List av}{h:bt}{p:av×Obj}(a:p∈qV fp h):p.1∈fp/\h.get? p.1=some p.2:=by
 obtain⟨b,c,e⟩:=jx.mp a
 cases q:h.get? b with
 |none=>rw[q]at e;cases e
 |some o=>
  rw[q]at e
  have d:(b,o)=p:=aH e
  subst d
  exact⟨c,q⟩
theorem Inv.pinned {a:List (av×Obj)}{σ:St}{H:Hp}{s:aj}{fp:List av}(I:Inv X a σ H s)(g:∀b∈fp,uC X a H b)(h:∀b∈fp,∃o,s.heap.get? b=some o/\∀v,o.data≠.cell v):Inv X (a++qV fp s.heap) σ H s :=
 I.pins_of fun p i=>(b8.mp i).elim (fun z=>I.pin p (aP _ z)) fun z=>by
  obtain⟨c,e⟩:=zEq z
  obtain⟨j,f1,f2,_⟩:=g p.1 c
  obtain⟨o,f,d⟩:=h p.1 c
  rw[e]at f;cases f
  exact⟨e,j,f1,f2,d⟩
theorem Inv.unpinned {a pl:List (av×Obj)}{σ:St}{H:Hp}{s:aj}(I:Inv X (a++pl) σ H s):Inv X a σ H s:=I.pins_of fun p b=>I.pin p (aP _ (bU _ b))
theorem qW {iter:bV}{body:List dB}{Z:TI}{g:TG}{tb:TS}{pos:Pos}(B:PassesOwn (model X.prog X.w) X.A X.env X.xe)(hc:X.calm=true)(hi:PI X tg iter Z)(hg:PG X tg g)(c:v1 X body tb)
  (hs:∀x,foldedSetIterable iter X.env x=pure x:=by intro _;rfl):PS X (.For tg iter body [] pos) (zEp Z g tb):=by
 intro a s σ H D I h
 refine wpAny_For (zG (hi a s σ H _ I h) fun v s1 h1=>zG h1 fun ab s2 h2=>?_) hs
 obtain⟨it,fp,tn,J,H2,e,I2,T,P,f2,W,⟨m0,w0⟩,C⟩:=h2
 subst e
 have j:∀{H':Hp},(∀b∈fp,H' b=none)->∀b∈fp,uC X a H' b:=fun hn b c=>⟨hn b c,(f2 b c).2⟩
 refine codeAny_forLoop_any (fun n s'=>∃i E H',Inv X a E H' s'/\tn i s'.heap/\(∀b∈fp,H' b=none)/\W i n E H') ?_ m0 ⟨0,σ,H2,I2,P,fun b c=>(f2 b c).1,w0⟩
 rintro n s3 ⟨i,F,O,I3,G,L,w3⟩
 rcases C i n F O w3 with⟨stop,qn⟩|⟨go,N,hN,step⟩
 ·refine eM B (zG (T.done X rfl rfl rfl hc i a s3 F O X.xe I3 (j L) G stop) fun r s4 ⟨Q,I4⟩=>?_)
  subst Q
  exact iB ⟨F,O,I4,qn⟩
 ·refine eM B (zG (T.item X rfl rfl rfl hc i a s3 F O X.xe I3 (j L) G go) fun r s4 ⟨u,Q,h4⟩=>?_)
  subst Q
  refine eM B (zG h4 fun _ s5 ⟨x,H5,I5,r5,y5,z,R⟩=>?_)
  have U:=I5.pinned (j R) (T.obj _ _ z)
  refine eM B (zG (hg _ s5 F H5 x u _ U r5 (step x H5 y5)) fun _ s6 ⟨σ6,H6,I6,q6⟩=>?_)
  refine eM B (zG (c _ s6 σ6 H6 _ I6 q6) fun f Y y=>?_)
  have again:∀{l:St} {p:Hp},Inv X (a++qV fp s5.heap) l p Y->N l p->∃m,m<n/\∃i E H',Inv X a E H' Y/\tn i Y.heap/\(∀b∈fp,H' b=none)/\W i m E H':=fun{l p} q M=>by
   obtain⟨m',hm,w7⟩:=hN l p M
   refine⟨m',hm,i+1,l,p,q.unpinned,T.keep _ _ _ z fun b c o e=>(q.pin (b,o) (aP _ (aP _ (qJ c e)))).1,fun b c=>?_,w7⟩
   obtain⟨o,e,d⟩:=T.obj _ _ z b c
   exact(q.pin (b,o) (aP _ (aP _ (qJ c e)))).2.1
  cases f with
  |next=>obtain⟨l,p,q,M⟩:=y;exact again q M
  |cont=>obtain⟨l,p,q,M⟩:=y;exact again q M
  |brk=>obtain⟨l,p,q,y⟩:=y;exact⟨l,p,q.unpinned,y⟩
  |ret v=>obtain⟨x7,l,p,q,r7,y⟩:=y;exact⟨x7,l,p,q.unpinned,r7,y⟩
end
abbrev R2:=V->V->Hp->VK->Prop
def z4 (X:Cx)(f:af->af->Sem af)(r:R2):Prop :=
 ∀(pins:List (av×Obj)) (s:aj) (σ:St) (H:Hp) (x y:V) (v u:af) (Q:VK),Inv X pins σ H s->zI x v->zI y u->r x y H Q->
  wpAny (model X.prog X.w) X.A (f v u) (EP X pins σ Q) X.xe s
def UnR (X:Cx)(f:af->Sem af)(r:V->Hp->VK->Prop):Prop :=
 ∀(pins:List (av×Obj)) (s:aj) (σ:St) (H:Hp) (x:V) (v:af) (Q:VK),Inv X pins σ H s->zI x v->r x H Q->
  wpAny (model X.prog X.w) X.A (f v) (EP X pins σ Q) X.xe s
def vD (X:Cx)(f:af)(r:List V->Hp->VK->Prop):Prop :=
 ∀(pins:List (av×Obj)) (s:aj) (σ:St) (H:Hp) (xs:List V) (us:List af) (Q:VK),Inv X pins σ H s->zF xs us->r xs H Q->
  wpAny (model X.prog X.w) X.A (call f us) (EP X pins σ Q) X.xe s
def jR (r:R2)(ta tb:TE):TE:=fun σ H Q=>ta σ H fun x H1=>tb σ H1 fun y H2=>r x y H2 Q
def tUn (r:V->Hp->VK->Prop)(ta:TE):TE:=fun σ H Q=>ta σ H fun x H1=>r x H1 Q
def rI (C:Int->Int->Prop)(g:Int->Int->V):R2:=fun x y H Q=>∃i j,x=.int i/\y=.int j/\C i j/\Q (g i j) H
def qK (g:Int->Int->V):R2:=fun x y H Q=>∃i j,x=.int i/\y=.int j/\Q (g i j) H
def rU (g:Int->V):V->Hp->VK->Prop:=fun x H Q=>∃i,x=.int i/\Q (g i) H
section
variable{X:Cx}{a b c:bV}{ta tb tc:TE}{pos:Pos}
theorem zAB (j:PE X a ta)(l:PE X b tb){d:List (av×Obj)}{s:aj}{σ:St}{H:Hp}{R:V->V->Hp->Prop}(I:Inv X d σ H s)
  (h:ta σ H fun x i=>tb σ i fun y e=>R x y e) {Q:af->aj->Prop} {f:af->af->Sem af}
  (m:∀v u g x y e,Inv X d σ e g->zI x v->zI y u->R x y e->wpAny (model X.prog X.w) X.A (f v u) Q X.xe g) :
  wpAny (model X.prog X.w) X.A (eval a X.env) (fun v n=>wpAny (model X.prog X.w) X.A (eval b X.env) (fun u o=>wpAny (model X.prog X.w) X.A (f v u) Q X.xe o) X.xe n) X.xe s:=by
 refine zG (j d s σ H _ I h) fun v p ⟨x,i,q,r,z⟩=>?_
 refine zG (l d p σ i _ q z) fun u g ⟨y,e,B,C,D⟩=>?_
 exact m v u g x y e B r C D
theorem zN {op:Operator}{r:R2}(e:z4 X (binaryOp op) r)(f:PE X a ta)(g:PE X b tb):PE X (.BinOp a op b pos) (jR r ta tb):=by
 intro d s σ H Q I h
 exact wpAny_BinOp (zAB f g I h fun v u i x y j l m n q=>e d i σ j x y v u Q l m n q)
theorem zBW {op:UnaryOp}{r:V->Hp->VK->Prop}(e:UnR X (unaryOp op) r)(f:PE X a ta):PE X (.UnaryOp op a pos) (tUn r ta):=by
 intro d s σ H Q I h
 exact UnaryOp_ (zG (f d s σ H _ I h) fun v g ⟨x,i,j,l,m⟩=>e d g σ i x v Q j l m)
theorem opI {f:af->af->Sem af}{C:Int->Int->Prop}{g:Int->Int->Int}
  (rule:∀(i j:Int) (t u:Tok) (s:aj) (Q:af->aj->Prop) (E:af->aj->Prop),C i j->Q (.int (g i j) s.toks) {s with toks:=s.toks+1}->wpAny (model X.prog X.w) X.A (f (.int i t) (.int j u)) Q E s) :
  z4 X f (rI C fun i j=>.int (g i j)):=by
 intro d s σ H x y v u Q I e l h
 obtain⟨i,j,rfl,rfl,m,q⟩:=h
 obtain⟨t,rfl⟩:=e
 obtain⟨t',rfl⟩:=l
 exact rule i j t t' s _ _ m ⟨.int (g i j),H,I.tok _,⟨_,rfl⟩,q⟩
theorem zBX {f:af->af->Sem af}{g:Int->Int->Int}
  (rule:∀(i j:Int) (t u:Tok) (s:aj) (Q:af->aj->Prop) (E:af->aj->Prop),Q (.int (g i j) s.toks) {s with toks:=s.toks+1}->wpAny (model X.prog X.w) X.A (f (.int i t) (.int j u)) Q E s) :
  z4 X f (qK fun i j=>.int (g i j)):=by
 intro d s σ H x y v u Q I e l h
 obtain⟨i,j,rfl,rfl,q⟩:=h
 obtain⟨t,rfl⟩:=e
 obtain⟨t',rfl⟩:=l
 exact rule i j t t' s _ _ ⟨.int (g i j),H,I.tok _,⟨_,rfl⟩,q⟩
theorem zBY {f:af->af->Sem af}{g:Int->Int->Bool}
  (rule:∀(i j:Int) (t u:Tok) (s:aj) (Q:af->aj->Prop) (E:af->aj->Prop),Q (.bool (g i j)) s->wpAny (model X.prog X.w) X.A (f (.int i t) (.int j u)) Q E s) :
  z4 X f (qK fun i j=>.bl (g i j)):=by
 intro d s σ H x y v u Q I e l h
 obtain⟨i,j,rfl,rfl,q⟩:=h
 obtain⟨t,rfl⟩:=e
 obtain⟨t',rfl⟩:=l
 exact rule i j t t' s _ _ ⟨.bl (g i j),H,I,rfl,q⟩
def zEr (i j:Int):Prop:=0<j/\j<1073741824
def kS (i j:Int):Prop:=(-(2^64)<i/\i<2^64)\/(-(2^64)<j/\j<2^64)
theorem kS.ok {i j:Int}(h:kS i j):IntMulOk i j:=by
 rcases h with⟨d,e⟩|⟨d,e⟩
 ·exact .of_left (mZ d e)
 ·exact .of_right (mZ d e)
theorem yP:z4 X (binaryOp .Add) (qK fun i j=>.int (i+j)):=zBX fun _ _ _ _ _ _ _ q=>add_int q
theorem zEs:z4 X (binaryOp .Sub) (qK fun i j=>.int (i-j)):=zBX fun _ _ _ _ _ _ _ q=>sub_int q
theorem u9:z4 X (binaryOp .Mult) (rI kS fun i j=>.int (i*j)):=opI fun _ _ _ _ _ _ _ d q=>mul_int q d.ok
theorem kU:z4 X (binaryOp .FloorDiv) (rI zEr fun i j=>.int (i/j)):=opI fun i j _ _ _ _ _ d q=>by
 have e:(0:Int)<j:=d.1
 have f:j<1073741824:=d.2
 exact floordiv_int (by omega) (by rw[Int.fdiv_eq_ediv_of_nonneg i (by omega)];exact q) (.inl (PyProof.noPylong_small (by omega)))
theorem qX:z4 X (binaryOp .Mod) (rI (fun _ j=>0<j) fun i j=>.int (i%j)):=opI fun i j _ _ _ _ _ d q=>by
 have e:(0:Int)<j:=d
 exact mod_int' (by omega) (by rw[Int.fmod_eq_emod_of_nonneg i (by omega)];exact q)
theorem unI {f:af->Sem af}{g:Int->Int}
  (rule:∀(i:Int) (t:Tok) (s:aj) (Q:af->aj->Prop) (E:af->aj->Prop),Q (.int (g i) s.toks) {s with toks:=s.toks+1}->wpAny (model X.prog X.w) X.A (f (.int i t)) Q E s) :
  UnR X f (rU fun i=>.int (g i)):=by
 intro d s σ H x v Q I e h
 obtain⟨i,rfl,q⟩:=h
 obtain⟨t,rfl⟩:=e
 exact rule i t s _ _ ⟨.int (g i),H,I.tok _,⟨_,rfl⟩,q⟩
theorem zBZ:UnR X (unaryOp .USub) (rU fun i=>.int (-i)):=unI fun _ _ _ _ _ q=>neg_int q
end
def zBa:V->V->Bool
 | .non,.non=>true| .non,.int _=>true| .int _,.non=>true| .non,.bl _=>true| .bl _,.non=>true| .non,.str _=>true| .str _,.non=>true
 | .int _,.int _=>true| .bl _,.bl _=>true| .str _,.str _=>true| .byt _,.byt _=>true
 | .int _,.str _=>true| .str _,.int _=>true| .bl _,.str _=>true| .str _,.bl _=>true
 |_,_=>false
def rEq:R2:=fun x y H Q=>zBa x y=true/\Q (.bl (decide (x=y))) H
def rNe:R2:=fun x y H Q=>zBa x y=true/\Q (.bl (!decide (x=y))) H
theorem zBb {i j:Int}:decide (V.int i=V.int j)=(i==j):=by
 rw[dZ]
 simp
theorem zBc {i j:Bool}:decide (V.bl i=V.bl j)=(i==j):=by
 rw[dZ]
 simp
theorem zBd {i j:Str}:decide (V.str i=V.str j)=(i==j):=by
 rw[dZ]
 simp
theorem zBe {i j:Array UInt8}:decide (V.byt i=V.byt j)=(i.toList==j.toList):=by
 rw[dZ]
 cases i
 cases j
 simp
section
variable{X:Cx}{a b c:bV}{ta tb tc:TE}{pos:Pos}
theorem z5 {d:List (av×Obj)}{σ:St}{H:Hp}{s:aj}{Q:VK}{k f:Bool}(I:Inv X d σ H s)(q:Q (.bl k) H)(e:k=f):EP X d σ Q (.bool f) s:=by
 subst e
 exact⟨.bl k,H,I,rfl,q⟩
theorem zBf:z4 X (compareOp .Eq) rEq:=by
 intro g s σ H x y v u Q I f d h
 obtain⟨e,q⟩:=h
 cases x with
 |non=>
  cases f
  cases y with
  |non=>cases d;exact mN (z5 I q (by simp))
  |bl j=>cases d;exact mO (z5 I q (by simp))
  |int j=>obtain⟨t',rfl⟩:=d;exact m8 (z5 I q (by simp))
  |str j=>obtain⟨t',rfl⟩:=d;exact m9 (z5 I q (by simp))
  |_=>exact absurd (show false=true from e) bc
 |bl i=>
  cases f
  cases y with
  |non=>cases d;exact mP (z5 I q (by simp))
  |bl j=>cases d;exact eq_bool (z5 I q zBc)
  |str j=>obtain⟨t',rfl⟩:=d;exact mQ (z5 I q (by simp))
  |_=>exact absurd (show false=true from e) bc
 |int i=>
  obtain⟨t,rfl⟩:=f
  cases y with
  |non=>cases d;exact nc (z5 I q (by simp))
  |int j=>obtain⟨t',rfl⟩:=d;exact eq_int (z5 I q zBb)
  |str j=>obtain⟨t',rfl⟩:=d;exact ng (z5 I q (by simp))
  |_=>exact absurd (show false=true from e) bc
 |str i=>
  obtain⟨t,rfl⟩:=f
  cases y with
  |non=>cases d;exact nh (z5 I q (by simp))
  |bl j=>cases d;exact mR (z5 I q (by simp))
  |int j=>obtain⟨t',rfl⟩:=d;exact ni (z5 I q (by simp))
  |str j=>obtain⟨t',rfl⟩:=d;exact eq_str (z5 I q zBd)
  |_=>exact absurd (show false=true from e) bc
 |byt i=>
  obtain⟨t,rfl⟩:=f
  cases y with
  |byt j=>obtain⟨t',rfl⟩:=d;exact PySem.W.eq_bytes (z5 I q zBe)
  |_=>exact absurd (show false=true from e) bc
 |_=>cases y<;>exact absurd (show false=true from e) bc
theorem kW:z4 X (compareOp .NotEq) rNe:=by
 intro g s σ H x y v u Q I f d h
 obtain⟨e,q⟩:=h
 cases x with
 |non=>
  cases f
  cases y with
  |non=>cases d;exact mS (z5 I q (by simp))
  |bl j=>cases d;exact mT (z5 I q (by simp))
  |int j=>obtain⟨t',rfl⟩:=d;exact nj (z5 I q (by simp))
  |str j=>obtain⟨t',rfl⟩:=d;exact nk (z5 I q (by simp))
  |_=>exact absurd (show false=true from e) bc
 |bl i=>
  cases f
  cases y with
  |non=>cases d;exact mU (z5 I q (by simp))
  |bl j=>cases d;exact ne_bool (z5 I q (congrArg not zBc))
  |str j=>obtain⟨t',rfl⟩:=d;exact mV (z5 I q (by simp))
  |_=>exact absurd (show false=true from e) bc
 |int i=>
  obtain⟨t,rfl⟩:=f
  cases y with
  |non=>cases d;exact nq (z5 I q (by simp))
  |int j=>obtain⟨t',rfl⟩:=d;exact ne_int (z5 I q (congrArg not zBb))
  |str j=>obtain⟨t',rfl⟩:=d;exact nr (z5 I q (by simp))
  |_=>exact absurd (show false=true from e) bc
 |str i=>
  obtain⟨t,rfl⟩:=f
  cases y with
  |non=>cases d;exact nu (z5 I q (by simp))
  |bl j=>cases d;exact mW (z5 I q (by simp))
  |int j=>obtain⟨t',rfl⟩:=d;exact nv (z5 I q (by simp))
  |str j=>obtain⟨t',rfl⟩:=d;exact ne_str (z5 I q (congrArg not zBd))
  |_=>exact absurd (show false=true from e) bc
 |byt i=>
  obtain⟨t,rfl⟩:=f
  cases y with
  |byt j=>obtain⟨t',rfl⟩:=d;exact PySem.W.ne_bytes (z5 I q (congrArg not zBe))
  |_=>exact absurd (show false=true from e) bc
 |_=>cases y<;>exact absurd (show false=true from e) bc
theorem zEt:z4 X (compareOp .Lt) (qK fun i j=>.bl (decide (i<j))):=zBY fun _ _ _ _ _ _ _ q=>lt_int q
theorem qY:z4 X (compareOp .LtE) (qK fun i j=>.bl (decide (i<=j))):=zBY fun _ _ _ _ _ _ _ q=>le_int q
theorem zBg:z4 X (compareOp .In) (fun x y H Q=>∃i j,x=.str i/\y=.str j/\Q (.bl (!(cp j i 0 j.length 1).isEmpty)) H):=by
 intro d s σ H x y v u Q I e f h
 obtain⟨i,j,rfl,rfl,q⟩:=h
 obtain⟨t,rfl⟩:=e
 obtain⟨t',rfl⟩:=f
 exact in_str (z5 I q rfl)
theorem z4.or {f:af->af->Sem af}{r e:R2}(h:z4 X f r)(h':z4 X f e):z4 X f (fun x y H Q=>r x y H Q\/e x y H Q):=by
 intro d s σ H x y v u Q I g i q
 rcases q with q|q
 ·exact h d s σ H x y v u Q I g i q
 ·exact h' d s σ H x y v u Q I g i q
theorem yV (b:bV){op:oe}(h:op≠.In:=by decide)(d:op≠.NotIn:=by decide):behindInMarks op b=false:=by
 have e1:(op==CmpOp.In)=false:=by cases op<;>first|rfl|exact absurd rfl h
 have e:(op==CmpOp.NotIn)=false:=by cases op<;>first|rfl|exact absurd rfl d
 cases b<;>simp[behindInMarks,e1,e]
theorem zBh {op:oe}{r:R2}(e:z4 X (compareOp op) r)(f:PE X a ta)(g:PE X b tb)(i:behindInMarks op b=false):PE X (.Compare a [op] [b] pos) (jR r ta tb):=by
 intro d s σ H Q I h
 exact wpAny_Compare1 (zAB f g I h fun v u j x y l m n o q=>e d j σ l x y v u Q m n o q) i
def zBi (t:TE):TT:=fun σ H Q=>t σ H fun x H'=>∃k,x=.bl k/\Q k H'
theorem yW {op:oe}{r:R2}(f:z4 X (compareOp op) r)(g:PE X a ta)(i:PE X b tb)(j:behindInMarks op b=false):PT X (.Compare a [op] [b] pos) (zBi (jR r ta tb)):=by
 intro d s σ H Q I h
 refine wpAny_isTrue_Compare1 (zG (g d s σ H _ I h) fun v l ⟨x,m,n,o,p⟩=>zG (i d l σ m _ n p) fun u q ⟨y,w,A,B,C⟩=>
  zG (f d q σ w x y v u _ A o B C) fun c J ⟨z,D,E,F,k,e,G⟩=>?_) j
 subst e
 cases F
 exact dy ⟨D,E,G⟩
def zBj (r r':R2)(ta tb tc:TE):TE:=fun σ H Q=>ta σ H fun x H1=>tb σ H1 fun y H2=>r x y H2 fun z H3=>∃k,z=.bl k/\
 (if k=true then tc σ H3 fun w' H4=>r' y w' H4 Q else Q (.bl false) H3)
theorem zEu {op g:oe}{r j:R2}(p:z4 X (compareOp op) r)(i:z4 X (compareOp g) j)(q:PE X a ta)(w:PE X b tb)(A:PE X c tc)
  (B:lastMarks [op,g] [b,c]=false:=by with_unfolding_all rfl):PE X (.Compare a [op,g] [b,c] pos) (zBj r j ta tb tc):=by
 intro f s σ H Q I h
 refine Compare_chain (zG (q f s σ H _ I h) fun v C ⟨x,D,E,F,G⟩=>chain_link (zG (w f C σ D _ E G) fun u J ⟨y,L,M,l,N⟩=>
  zG (p f J σ L x y v u _ M F l N) fun d O ⟨z,m,n,P,k,e,o⟩=>?_)) B
 subst e
 cases P
 refine dy ?_
 cases k with
 |false=>exact ite_ff ⟨.bl false,m,n,rfl,o⟩
 |true=>exact ite_tt (chain_last (zG (A f O σ m _ n o) fun R T ⟨U,W,Y,Z,q4⟩=>i f T σ W y U u R Q Y l Z q4))
theorem zBk {op g:oe}{r j:R2}(p:z4 X (compareOp op) r)(i:z4 X (compareOp g) j)(q:PE X a ta)(w:PE X b tb)(A:PE X c tc)
  (B:lastMarks [op,g] [b,c]=false:=by with_unfolding_all rfl):PT X (.Compare a [op,g] [b,c] pos) (zBi (zBj r j ta tb tc)):=by
 intro f s σ H Q I h
 refine isTrue_chain (zG (q f s σ H _ I h) fun v C ⟨x,D,E,F,G⟩=>test_link (zG (w f C σ D _ E G) fun u J ⟨y,L,M,l,N⟩=>
  zG (p f J σ L x y v u _ M F l N) fun d O ⟨z,m,n,P,k,e,o⟩=>?_)) B
 subst e
 cases P
 refine dy ?_
 cases k with
 |false=>
  obtain⟨k',R,T⟩:=o
  cases R
  exact ite_ff ⟨m,n,T⟩
 |true=>
  refine ite_tt (test_last (zG (A f O σ m _ n o) fun U W ⟨Y,Z,I4,r4,q4⟩=>zG (i f W σ Z y Y u U _ I4 l r4 q4) fun d' s5 ⟨z2,H5,I5,r5,k2,e2,q5⟩=>?_))
  subst e2
  cases r5
  exact dy ⟨H5,I5,q5⟩
theorem kX:(sizeLine:Nat)<2^63:=by rw[aV];decide
theorem zEv:z4 X (binaryOp .Add) (fun x y H Q=>∃i j,x=.str i/\y=.str j/\i.length+j.length<=sizeLine/\Q (.str (i++j)) H):=by
 intro d s σ H x y v u Q I e f h
 obtain⟨i,j,rfl,rfl,hz,q⟩:=h
 obtain⟨t,rfl⟩:=e
 obtain⟨t',rfl⟩:=f
 exact add_str (fun t' tk=>⟨.str (i++j),H,I.tok _,⟨_,rfl⟩,q⟩) hz
theorem vS {x:V}{d:List af}(r:zF [x] d):∃u,d=[u]/\zI x u:=by
 cases r with
 |cons e f=>cases f;exact⟨_,rfl,e⟩
theorem jS {x y:V}{d:List af}(r:zF [x,y] d):∃u e,d=[u,e]/\zI x u/\zI y e:=by
 cases r with
 |cons f g=>
  cases g with
  |cons h i=>cases i;exact⟨_,_,rfl,f,h⟩
theorem zEw (f:X.calm=true):vD X (.builtin "max") (fun xs H Q=>∃i j,xs=[.int i,.int j]/\Q (.int (if j>i then j else i)) H):=by
 intro e s σ H xs g Q I r h
 obtain⟨i,j,rfl,q⟩:=h
 obtain⟨u,l,rfl,⟨t,rfl⟩,⟨t',rfl⟩⟩:=jS r
 refine max_two_ints (I.ok.hd f) fun h' tk k=>⟨_,H,I.kept k,?_,q⟩
 by_cases d:j>i
 ·rw[if_pos d,if_pos d];exact⟨_,rfl⟩
 ·rw[if_neg d,if_neg d];exact⟨_,rfl⟩
end
structure ObjM (h:bt) (x dx C:av) (mA:Str->Option af):Prop where
 obj:h.get? x=some (du C dx)
 ns:h.Ns1 dx mA
 ne:dx≠x
theorem zEx {h:bt}{c:av}{d:Str->Option af}(n:h.Ns1 c d):∃od,h.get? c=some od/\∀name,iX name od=some (d name):=by
 obtain⟨o,f,ep,g,hd,i,_,j⟩:=n
 refine⟨o,g,fun name=>?_⟩
 have e:=j name
 unfold nsFind findBy at e
 rw[<-Array.find?_toList]at e
 unfold iX
 rw[hd]
 dsimp only
 split
 ·rename_i y q
  rw[q]at e
  exact congrArg some e
 ·rename_i q
  rw[q]at e
  have a:f.toList.any (·.refKey)=false:=by
   rw[List.any_eq_false]
   intro y l
   obtain⟨z,t,b⟩:=i y (Array.mem_toList_iff.mp l)
   simp[oH,b]
  have m:¬f.toList.any (·.refKey)=true:=by rw[a];exact bc
  rw[if_neg m]
  exact congrArg some e
theorem ObjM.look {h:bt}{x a C:av}{b:Str->Option af}(I:ObjM h x a C b):∃od,PySem.W.InstAt h x (du C a) C (some od)/\∀name,iX name od=some (b name) :=
 let⟨od,c,hl⟩:=zEx I.ns
 ⟨od,⟨I.obj,rfl,rfl,c⟩,hl⟩
theorem vP.some_of {v:V}{o:Option af}(r:vP (some v) o):∃u,o=some u/\zI v u:=by
 cases o with
 |none=>exact(show False from r).elim
 |some u=>exact⟨u,rfl,r⟩
section
variable{P:aI}{w:aR}{H H':Hp}{h h':bt}{a C dx:av}{fs fs':List (Str×V)}
theorem zEy (hok:zR P w H h)(e:H a=some (.ins C dx fs)):∃b,ObjM h a dx C b/\(∀f,vP (fs.lookup f) (b f))/\nQ b (fs.map (·.1))/\fs.length<=1000/\H dx=some (.own a):=by
 obtain⟨d,z,ne,c,b,n,r,q⟩:=(show zZ P w H h a (.ins C dx fs)from hok a _ e)
 exact⟨b,⟨c,n,ne⟩,r,q,z,d⟩
end
structure Cls (K:ai) (C:av):Prop where
 pg:lJ K C oI=true
 hd:PySem.W.hasDictIn K C=true
 po:PySem.W.plainOver K C=true
 sa:mx K (.ref C) "__setattr__"=some (some (.builtin "object.__setattr__"))
theorem Cls.get {K:ai}{C:av}(c:Cls K C)(f:Str):lJ K C f=true:=c.pg
section
variable{X:Cx}{pins:List (av×Obj)}{σ:St}{H:Hp}{s:aj}{a C dx:av}{fs:List (Str×V)}{f:Str}{v:V}{A:bF}{E:af->aj->Prop}
theorem Inv.made (I:Inv X pins σ H s):Inv X pins σ (upd (upd H s.heap.objs.size (.own (s.heap.objs.size+1))) (s.heap.objs.size+1) (.ins C s.heap.objs.size []))
  {s with heap:=(s.heap.push cA).push (du C s.heap.objs.size)}:=by
 have e1:(s.heap.push cA).get? s.heap.objs.size=some cA:=aw s.heap rfl
 have c:((s.heap.push cA).push (du C s.heap.objs.size)).get? (s.heap.objs.size+1)=some (du C s.heap.objs.size):=by
  have:=aw (s.heap.push cA) (o:=du C s.heap.objs.size) rfl
  rwa [aT]at this
 have d:(s.heap.push cA).Ns s.heap.objs.size (fun _=>none):=⟨cA,#[],_,e1,rfl,(fun e g=>absurd g (by simp)),fun _=>rfl⟩
 have h:=I.laid (a:=s.heap.objs.size) (o:=.own (s.heap.objs.size+1)) (h':=s.heap.push cA) (t':=s.toks) (fun b u q=>ae _ q) (ay _) ⟨_,e1⟩
 refine h.laid (a:=s.heap.objs.size+1) (o:=.ins C s.heap.objs.size []) (t':=s.toks) (fun b u q=>ae _ q) (cH (aT _ _)) ?_
 have ne:s.heap.objs.size≠s.heap.objs.size+1:=aG (bB _)
 refine⟨by rw[zQ ne,zH],bH _,ne,c,fun _=>none,(Heap.Ns1.of_empty d).at fun o q=>ae _ q,fun _=>True.intro,fun y i=>absurd rfl i⟩
end
section
variable{X:Cx}{pins:List (av×Obj)}{σ:St}{H:Hp}{s:aj}{A:bF}{E:af->aj->Prop}{Q:af->aj->Prop}{c:af}{b:Bool}
inductive TyOf (K:ai) (H:Hp):V->af->Prop where
 |non:TyOf K H .non (.type "NoneType")
 |bl (x:Bool):TyOf K H (.bl x) (.type "bool")
 |int (i:Int):TyOf K H (.int i) (.type "int")
 |str (x:Str):TyOf K H (.str x) (.type "str")
 |flt (x:UInt64):TyOf K H (.flt x) (.type "float")
 |lst {a:av} {xs:List V} (e:H a=some (.lst xs)):TyOf K H (.ref a) (.type "list")
 |frz {a:av} {o:Obj} {xs:List V} (e:H a=some (.frz o (.lst xs))):TyOf K H (.ref a) (.type "list")
 |tup {a:av} {xs:List V} (e:H a=some (.tup xs)):TyOf K H (.ref a) (.type "tuple")
 |dK {a:av} {kvs:List (zL×V)} (e:H a=some (.dK kvs)):TyOf K H (.ref a) (.type "dict")
 |dT {a:av} {kvs:List (List zK×V)} (e:H a=some (.dT kvs)):TyOf K H (.ref a) (.type "dict")
 |ins {a C dx:av} {fs:List (Str×V)} (e:H a=some (.ins C dx fs)) (cl:Cls K C) (ha:mx K (.ref C) "__class__"=some (some (.builtin "object.__class__")))
   (hn:PySem.W.specialIn K (.builtin "object.__class__") "__get__"=some (some (.builtin "getset_descriptor.__get__"))) (htk:PySem.W.takesIn K (.builtin "object.__class__")=some true)
   (hm:PySem.W.mroIn K C (.type "object")=some true):TyOf K H (.ref a) (.ref C)
theorem zEz {x:V}{u t:af}(I:Inv X pins σ H s)(d:zI x u)(ty:TyOf X.K H x t)(e:fM X.K t c=some b)(h:∀tk,Q (.bool b) {s with toks:=tk}) :
  wpAny (model X.prog X.w) A (call (.builtin "isinstance") [u,c]) Q E s:=by
 cases ty with
 |non=>cases(show u=Value.none from d);exact cb PySem.W.kitx_none I.kIn True.intro e (fun z=>nomatch z) h
 |bl y=>cases(show u=Value.bool y from d);exact cb PySem.W.kitx_bool I.kIn True.intro e (fun z=>nomatch z) h
 |int i=>obtain⟨t,q⟩:=(show∃t,u=Value.int i t from d);cases q;exact cb PySem.W.kitx_int I.kIn True.intro e (fun z=>nomatch z) h
 |str y=>obtain⟨t,q⟩:=(show∃t,u=Value.str y t from d);cases q;exact cb PySem.W.kitx_str I.kIn True.intro e (fun z=>nomatch z) h
 |flt y=>obtain⟨t,q⟩:=(show∃t,u=Value.float y t from d);cases q;exact cb PySem.W.kitx_float I.kIn True.intro e (fun z=>nomatch z) h
 | @lst a xs f=>
  cases(show u=Value.ref a from d)
  obtain⟨_,_,n,_,g⟩:=(show zZ X.prog X.w H s.heap a (.lst xs)from I.hok a _ f)
  exact cb ko I.kIn ⟨_,g,rfl⟩ e (fun z=>nomatch z) h
 | @frz a r xs f=>
  cases(show u=Value.ref a from d)
  obtain⟨_,_,_,n,_,g⟩:=(show zZ X.prog X.w H s.heap a (.frz r (.lst xs))from I.hok a _ f)
  exact cb ko I.kIn ⟨_,g,rfl⟩ e (fun z=>nomatch z) h
 | @tup a xs f=>
  cases(show u=Value.ref a from d)
  obtain⟨_,_,_,p⟩:=(show zZ X.prog X.w H s.heap a (.tup xs)from I.hok a _ f)
  obtain⟨o,g,j,_⟩:=p
  exact cb PySem.W.kitx_tuple I.kIn ⟨o,g,j⟩ e (fun z=>nomatch z) h
 | @dK a kvs f=>
  cases(show u=Value.ref a from d)
  obtain⟨_,_,vs,_,p⟩:=(show zZ X.prog X.w H s.heap a (.dK kvs)from I.hok a _ f)
  obtain⟨o,v,ep,g,j,_⟩:=p
  exact cb kr I.kIn ⟨o,g,j.1⟩ e (fun z=>nomatch z) h
 | @dT a kvs f=>
  cases(show u=Value.ref a from d)
  obtain⟨_,_,xs,_,o,v,ep,g,j,_⟩:=(show zZ X.prog X.w H s.heap a (.dT kvs)from I.hok a _ f)
  exact cb kr I.kIn ⟨o,g,j.1⟩ e (fun z=>nomatch z) h
 | @ins a C G fs f m B D l F=>
  cases(show u=Value.ref a from d)
  obtain⟨L,O,_⟩:=zEy I.hok f
  obtain⟨od,J,_⟩:=O.look
  exact cb (PySem.W.kitx_own (m.get _) m.hd B D l F) I.kIn J e (fun z=>nomatch z) h
end
structure Room (k:Nat) (A:bF):Prop where
 hd:A.handled=none
 dp:A.depth+3*k+5<recursionLimit
 un:A.units+16*k+200<cLine
theorem Room.mono {j k:Nat}{A:bF}(r:Room k A)(h:j<=k):Room j A:=⟨r.hd,by have:=r.dp;omega,by have:=r.un;omega⟩
theorem Room.deeper {k:Nat}{A:bF}(r:Room (k+1) A)(env:Env):Room k (A.deeper env) :=
 ⟨r.hd,by have:=r.dp;show A.depth+1+3*k+5<_;omega,by have:=r.un;show A.units+3+16*k+200<_;omega⟩
theorem Room.in1 {k:Nat}{A:bF}(r:Room (k+1) A):Room k A.in1 :=
 ⟨r.hd,by have:=r.dp;show A.depth+3*k+5<_;omega,by have:=r.un;show A.units+1+16*k+200<_;omega⟩
theorem Room.depth {k:Nat}{A:bF}(r:Room k A):A.depth<recursionLimit:=by have:=r.dp;omega
theorem Room.units {k:Nat}{A:bF}(r:Room k A):A.units+64<cLine:=by have:=r.un;omega
def zFA:TA:=fun _ H Q=>Q [] H
def zFB (ta:TE)(tr:TA):TA:=fun σ H Q=>ta σ H fun x H1=>tr σ H1 fun xs H2=>Q (x::xs) H2
section
variable{X:Cx}{e:bV}{es:List bV}{te:TE}{t:TA}{pos:Pos}
theorem zD:PA X [] zFA:=fun _ _ _ _ H Q I h=>eU ⟨[],H,I,.nil,h⟩
theorem zB (b:PE X e te)(c:PA X es t)(d:starEach (e::es) X.env=(false,eval e X.env)::starEach es X.env:=by rfl):PA X (e::es) (zFB te t):=by
 intro pos a s σ H Q I h
 rw[d]
 show wpAny _ _ (spliced ((false,eval e X.env)::backTo pos (starEach es X.env))) _ _ s
 refine dX (zG (b a s σ H _ I h) fun u f ⟨x,g,i,j,l⟩=>?_)
 exact zG (c pos a f σ g _ i l) fun q r ⟨xs,m,n,o,p⟩=>⟨x::xs,m,n,.cons j o,p⟩
def zFC (t:TA):TE:=fun σ H Q=>t σ H fun xs H1=>xs.length<=sizeLine/\∀p,H1 p=none->Q (.ref p) (upd H1 p (.tup xs))
def zFD (t:TA):TE:=fun σ H Q=>t σ H fun xs H1=>xs.length<=sizeLine/\∀p,H1 p=none->Q (.ref p) (upd H1 p (.lst xs))
theorem uT {g}(h:PA X es t):PE X (.Tuple es g pos) (zFC t):=by
 intro a s σ H Q I i
 refine wpAny_Tuple_spliced (zG (h pos a s σ H _ I i) fun j c ⟨xs,d,f,r,z,q⟩=>⟨by rw[<-r.length];exact z,?_⟩)
 have l:d c.heap.objs.size=none:=f.hok.fresh (ay _)
 refine⟨.ref c.heap.objs.size,upd d c.heap.objs.size (.tup xs),f.laid (t':=c.toks) (fun b u e=>ae _ e) (ay _) ?_,rfl,q _ l⟩
 exact⟨z,j,r,⟨_,aw _ rfl,rfl,_,rfl⟩⟩
theorem qL (h:PA X es t):PE X (.List es pos) (zFD t):=by
 intro a s σ H Q I g
 refine wpAny_List_spliced (zG (h pos a s σ H _ I g) fun i c ⟨xs,d,f,r,z,q⟩=>⟨by rw[<-r.length];exact z,?_⟩)
 have j:d c.heap.objs.size=none:=f.hok.fresh (ay _)
 refine⟨.ref c.heap.objs.size,upd d c.heap.objs.size (.lst xs),f.laid (t':=c.toks) (fun b u e=>ae _ e) (ay _) ?_,rfl,q _ j⟩
 exact⟨z,i,0,r,aw _ rfl⟩
end
abbrev Sp:=List V->Hp->VK->XK->Prop
abbrev v2:=List Env->Hp->aj->XK->af->aj->Prop
structure Env0 (P:aI) (w:aR) (K:ai) (mg:Str->Option af) (base:bt) (A:bF) (outer:List Env) (s:aj) (H:Hp):Prop where
 frames:A.frames=some outer
 mod:Mod K mg base
 bs:∀b o,base.get? b=some o->s.heap.get? b=some o/\H b=none
 bsz:base.objs.size<=s.heap.objs.size
 funs:s.heap.FunFrames base outer
 frf:∀b∈vA outer,H b=none
 hok:zR P w H s.heap
 bare:fZ s.gens
def CE (outer:List Env)(P:aI)(w:aR)(H:Hp)(s:aj)(Q:VK)(u:af)(s':aj):Prop :=
 ∃v H',s'.os=s.os/\fZ s'.gens/\Un (vA outer) [] H H' s.heap s'.heap/\zR P w H' s'.heap/\zI v u/\Q v H'
def CR (CX:v2)(outer:List Env)(P:aI)(w:aR)(H:Hp)(s:aj)(Q:VK)(E:XK)(r:iY)(s':aj):Prop :=
 match r with
 | .ok (.ret u)=>CE outer P w H s Q u s'
 | .ok _=>False
 | .error e=>CX outer H s E e s'
structure FnOk (P:aI) (w:aR) (K:ai) (mg:Str->Option af) (base:bt) (CX:v2) (k:Nat) (f:av) (fd:bw) (ps:List Str) (sp:Sp):Prop where
 len:∀vs H Q E,sp vs H Q E->vs.length=ps.length
 run:∀(A:bF) (outer:List Env) (s:aj) (H:Hp) (args:Args) (us:List af) (vs:List V) (Q:VK) (E:XK),Room k A->Env0 P w K mg base A outer s H->ku s fd args (ps.zip us)->zF vs us->sp vs H Q E->
  codeAny (model P w) A (.call (.ref f) args) (CR CX outer P w H s Q E) s
theorem FnOk.imp {P:aI}{w:aR}{K:ai}{mg:Str->Option af}{base:bt}{CX:v2}{k:Nat}{f:av}{fd:bw}{b:List Str}{sp a:Sp}(F:FnOk P w K mg base CX k f fd b sp)
  (h:∀vs H Q E,a vs H Q E->sp vs H Q E):FnOk P w K mg base CX k f fd b a :=
 ⟨fun vs H Q E q=>F.len vs H Q E (h _ _ _ _ q),fun A outer s H args c vs Q E d e g i j=>F.run A outer s H args c vs Q E d e g i (h _ _ _ _ j)⟩
theorem Env0.in1 {P:aI}{w:aR}{K:ai}{mg:Str->Option af}{base:bt}{A:bF}{outer:List Env}{s:aj}{H:Hp}(e:Env0 P w K mg base A outer s H) :
  Env0 P w K mg base A.in1 outer s H:=⟨e.frames,e.mod,e.bs,e.bsz,e.funs,e.frf,e.hok,e.bare⟩
section
variable{X:Cx}{pins:List (av×Obj)}{σ:St}{H:Hp}{s s':aj}
theorem Inv.env0 (I:Inv X pins σ H s):Env0 X.prog X.w X.K X.mg X.base X.A X.stack s H :=
 ⟨I.ok.frames,I.ok.mod,I.bs,cm I.ok.bsz I.sz,I.stack,I.stkFree,I.hok,I.bare⟩
theorem Inv.after {Q:VK}{u:af}(I:Inv X pins σ H s)(h:CE X.stack X.prog X.w H s Q u s'):EP X pins σ Q u s':=by
 obtain⟨v,H',os,bare,un,hok,r,q⟩:=h
 obtain⟨c,g,d,t,a⟩:=s'
 obtain rfl:a=s.os:=os
 exact⟨v,H',I.call (h':=c) (g':=g) (d':=d) (t':=t) (ch:=[]) un hok bare (fun b z=>absurd z (by simp)),r,q⟩
end
def zBl (sp:Sp)(dvs:List V)(E:XK)(t:TA):TE:=fun σ H Q=>t σ H fun vs H1=>sp (vs++dvs) H1 Q E
def qA (K:ai)(fd:bw)(ps:List Str)(ds:List af):Prop :=
 ∀(s:aj) (us:List af),K.In s.heap->(us++ds).length=ps.length->ku s fd ⟨us,[]⟩ (ps.zip (us++ds))
theorem qA.all {K:ai}{fd:bw}{b:List Str}(h:∀a:List af,a.length=b.length->bindArgs fd ⟨a,[]⟩=pure (b.zip a)):qA K fd b []:=fun s a _ hl=>by
 rw[List.append_nil]at hl⊢
 exact .of_eq (h a hl)
def zAC (CX:v2)(X:Cx)(E:XK):Prop:=∀(pins:List (av×Obj)) (σ:St) (H:Hp) (s:aj) (e:af) (s':aj),Inv X pins σ H s->CX X.stack H s E e s'->X.xe e s'
section
variable{X:Cx}{CX:v2}{k:Nat}{f C:av}{fd:bw}{ps:List Str}{sp:Sp}{dvs:List V}{ds:List af}{E:XK}{x m:Str}{p pos apos:Pos}{e o:bV}{es:List bV}{ta:TE}{t:TA}
theorem zFE {a:List (av×Obj)}{σ:St}{H:Hp}{s:aj}{Q:VK}{b:List af}{vs:List V}(F:FnOk X.prog X.w X.K X.mg X.base CX k f fd ps sp)(g:Room k X.A)(i:qA X.K fd ps ds)(hd:zF dvs ds)(j:zAC CX X E)
  (I:Inv X a σ H s) (r:zF vs b) (h:sp (vs++dvs) H Q E):wpAny (model X.prog X.w) X.A (call (.ref f) b) (EP X a σ Q) X.xe s:=by
 have d:zF (vs++dvs) (b++ds):=r.append hd
 have hl:(b++ds).length=ps.length:=by rw[<-d.length];exact F.len _ _ _ _ h
 refine my (cI (F.run X.A X.stack s H ⟨b,[]⟩ (b++ds) (vs++dvs) Q E g I.env0 (i s b I.kIn hl) d h) fun r s' c=>?_)
 cases r with
 |error e=>exact j a σ H s e s' I c
 |ok l=>
  cases l with
  |ret u=>exact I.after c
  |next=>exact dW c
  |brk=>exact dW c
  |cont=>exact dW c
theorem zFF (F:FnOk X.prog X.w X.K X.mg X.base CX k f fd ps sp)(g:Room k X.A)(i:Gl X x)(j:X.mg x=some (.ref f))(l:dJ X.K (.ref f)=true)(n:qA X.K fd ps ds)(hd:zF dvs ds)(u:zAC CX X E)
  (v:PA X (e::es) t) (b:(x==("__debug__" : Str))=false:=by decide) (y:starEach (e::es) X.env=(false,eval e X.env)::starEach es X.env:=by rfl) (c:(backTo pos (starEach es X.env)).any (·.1)=false:=by rfl) :
  PE X (.Call (.Name x p) (e::es) [] pos) (zBl sp dvs E t):=by
 intro a s σ H Q I h
 refine cF (zBT I i j ?_ b)
 refine PySem.W.callWith_K (h₀:=X.base) I.ok.mod.kin l (zG (v pos a s σ H _ I h) fun z B ⟨vs,D,d,r,q⟩=>⟨d.kIn,?_⟩) y c
 exact zFE F g n hd u d r q
end
section
variable{X:Cx}{CX:v2}{k:Nat}{f C:av}{fd:bw}{ps ks:List Str}{sp:Sp}{E:XK}{x m:Str}{p pos apos kpos:Pos}{e o:bV}{es:List bV}{kws:List jk}{te ta:TE}{t tk:TA}{nm:Option Str}
variable{g:List af->List af->List af}{gV:List V->List V->List V}
end
structure FnScope (N P:List Str) (sc:ef):Prop where
 kind:sc.kind=.function
 co:sc.isCoroutine=false
 gen:sc.isGenerator=false
 nd:N.Nodup
 pre:N.take P.length=P
 par:∀x∈P,sc.names.lookup x=some .local\/sc.names.lookup x=some .cell
 nofree:∀y∈sc.names,y.2≠.free
theorem zBm {kindOf:Str->Option fN}{x:Str}:∀{binds:List (Str×af)}{m:Str->Option af},(∀v,(x,v)∉binds)->bindL kindOf binds m x=m x
 | [],_,_=>rfl
 |(n,v)::r,m,h=>by
  unfold bindL
  rw[zBm fun w a=>h w (au _ a)]
  split
  ·have:x≠n:=by rintro rfl;exact h v ao
   simp[this]
  ·rfl
theorem zBn {kindOf:Str->Option fN}{x:Str}:∀{binds:List (Str×af)}{m:Str->Option af},(∀v,(x,v)∉binds)->bindC kindOf binds m x=m x
 | [],_,_=>rfl
 |(n,v)::r,m,h=>by
  unfold bindC
  rw[zBn fun w a=>h w (au _ a)]
  split
  ·rfl
  ·have:x≠n:=by rintro rfl;exact h v ao
   simp[this]
theorem zBo {kindOf:Str->Option fN}{x:Str}{v:af}:∀{P:List Str}{vs:List af}{i:Nat}{m:Str->Option af},P.Nodup->P[i]?=some x->vs[i]?=some v->kindOf x=some .local->
  bindL kindOf (P.zip vs) m x=some v
 | [],_,_,_,_,h,_,_=>by simp at h
 |_::_,[],_,_,_,_,h,_=>by simp at h
 |p::P,w::vs,0,m,nd,a,b,c=>by
  simp at a b;subst a;subst b
  show bindL kindOf ((p,w)::P.zip vs) m p=_
  unfold bindL
  rw[zBm fun v d=>(bA.mp nd).1 (iC d).1,if_pos c]
  simp
 |p::P,w::vs,i+1,m,nd,a,b,c=>by
  show bindL kindOf ((p,w)::P.zip vs) m x=_
  unfold bindL
  exact zBo (i:=i) (bA.mp nd).2 (by simpa using a) (by simpa using b) c
theorem zBp {kindOf:Str->Option fN}{x:Str}{v:af}:∀{P:List Str}{vs:List af}{i:Nat}{m:Str->Option af},P.Nodup->P[i]?=some x->vs[i]?=some v->kindOf x≠some .local->
  bindC kindOf (P.zip vs) m x=some v
 | [],_,_,_,_,h,_,_=>by simp at h
 |_::_,[],_,_,_,_,h,_=>by simp at h
 |p::P,w::vs,0,m,nd,a,b,c=>by
  simp at a b;subst a;subst b
  show bindC kindOf ((p,w)::P.zip vs) m p=_
  unfold bindC
  rw[zBn fun v d=>(bA.mp nd).1 (iC d).1,if_neg c]
  simp
 |p::P,w::vs,i+1,m,nd,a,b,c=>by
  show bindC kindOf ((p,w)::P.zip vs) m x=_
  unfold bindC
  exact zBp (i:=i) (bA.mp nd).2 (by simpa using a) (by simpa using b) c
def qB (N:List Str)(vs:List V):St:=vs.map some++cB (N.length-vs.length) none
def qZ (CX:v2)(P:aI)(w:aR)(K:ai)(mg:Str->Option af)(base:bt)(N:List Str)(qual:Str)(scope:ef)(f:av)(cd:af)(A:bF)(outer:List Env)(s:aj)(H:Hp)(E:XK):Cx where
 prog:=P
 w:=w
 K:=K
 mg:=mg
 base:=base
 A:=A.deeper (envOfC qual scope s.heap.objs.size f cd)
 N:=N
 s₀:=s
 H₀:=H
 env:=envOfC qual scope s.heap.objs.size f cd
 outer:=outer
 stack:=envOfC qual scope s.heap.objs.size f cd::outer
 ex:=[]
 calm:=true
 fn:=fun _=>true
 pn:=[]
 xe:=fun e s'=>wpAny (model P w) (A.deeper (envOfC qual scope s.heap.objs.size f cd)) (leaving (envOfC qual scope s.heap.objs.size f cd) e) (fun _ s''=>CX outer H s E e s'') (fun e' s''=>CX outer H s E e' s'') s'
theorem zBq {a:ef}{n:Nat}{x:Str}(h:a.names.lookup x=some .cell):∃c,(cellsFrom n a.names []).lookup x=some c:=by
 have q:=hZ a.names n [] (.inl h)
 exact Option.isSome_iff_exists.mp q
theorem zFG {CX:v2}{P:aI}{w:aR}{K:ai}{mg:Str->Option af}{base:bt}{N l:List Str}{d:Str}{scope:ef}{f:av}{C:af}{A:bF}{outer:List Env}{s G:aj}{H:Hp}{E:XK}{F:List af}{vs:List V}
  (S:FnScope N l scope) (hd:A.handled=none) (j:Env0 P w K mg base A outer s H) (hl:vs.length=l.length) (r:zF vs F)
  (x:InCallC s s.heap.objs.size (bindL (envOfC d scope s.heap.objs.size f C).kindOf (l.zip F) fun _=>none) (cellsFrom (s.heap.objs.size+1) scope.names []) (bindC (envOfC d scope s.heap.objs.size f C).kindOf (l.zip F) fun _=>none) G) :
  Inv (qZ CX P w K mg base N d scope f C A outer s H E) [] (qB N vs) H G:=by
 have J:l.length<=N.length:=by have:=congrArg f6 S.pre;rw[aW]at this;omega
 obtain⟨D,tk,rfl,I⟩:=x.done
 have m:∀b:av,b∉(qZ CX P w K mg base N d scope f C A outer s H E).ex:=fun b z=>absurd (show b∈([]:List av)from z) (by simp)
 refine⟨⟨j.mod,S.kind,rfl,rfl,ay _,fun y z c D g=>?_,fun y o=>?_,fun y c _ h=>?_,fun _=>hd,Around.frames_deeper j.frames,.inr ⟨rfl,rfl⟩,fun b z=>absurd z (m b),j.bs,j.bsz,fun b _ _=>m b,fun b z=>absurd z (m b),j.funs,j.frf⟩,
  rfl,j.bare,Un.kept I,⟨_,x.toInCall.ns,fun i y v D g O=>?_⟩,fun y c h=>⟨_,x.cell y c h⟩,j.hok.fresh (ay _),fun y c h=>?_,fun p B=>absurd (show p∈([]:List (av×Obj))from B) (by simp),j.hok.kept I,?_⟩
 ·exact name_of_addr x.apart (cQ D) (cQ g)
 ·have o:scope.names.lookup y=some .cell\/scope.names.lookup y=some .free:=o
  rcases o with o|o
  ·exact zBq o
  ·exact absurd rfl (S.nofree _ (cQ o))
 ·exact hU (x.above y c (cQ h))
 ·have hi:i<vs.length:=by
   unfold qB at g
   by_cases hi:i<vs.length
   ·exact hi
   ·rw[c7 (by simpa using hi)]at g
    rw[gj]at g
    split at g<;>cases g
  have L:vs[i]?=some v:=by
   unfold qB at g
   rw[dm (by simpa using hi),az]at g
   cases e:vs[i]? with
   |none=>rw[e]at g;cases g
   |some a=>rw[e]at g;cases g;rfl
  obtain⟨u,hu,M⟩:=r.get L
  have B:l[i]?=some y:=by
   rw[<-S.pre,eG (by omega)];exact D
  have ndP:l.Nodup:=by rw[<-S.pre];exact S.nd.sublist (List.take_sublist _ _)
  refine⟨u,M,?_⟩
  rcases S.par y (aU B)with k|k
  ·exact .inl ⟨k,zBo ndP B hu k⟩
  ·obtain⟨c,e⟩:=zBq (n:=s.heap.objs.size+1) k
   refine .inr ⟨.inl k,c,e,?_⟩
   have q:=x.cell y c e
   rw[zBp ndP B hu (by show scope.names.lookup y≠_;rw[k];decide)]at q
   exact q
 ·exact j.hok.fresh (hU (x.above y c (cQ h)))
 ·unfold qB
  show _=N.length
  rw[aD,ak,iK]
  omega
theorem zFH {CX:v2}{P:aI}{w:aR}{K:ai}{mg:Str->Option af}{base:bt}{k:Nat}{f:av}{name a:Str}{d:Arguments}{body:List dB}{scope:ef}{L kV j pm c ct T:af}{M od:Option av}
  {B:Array (Option af)} {N p:List Str} {sp:Sp} (U:K.lookup f=some ⟨T,od,.func (cS name a d body scope L kV j pm M c ct),B⟩) (C:eV K c a=true) (S:FnScope N p scope)
  (len:∀vs H Q E,sp vs H Q E->vs.length=p.length)
  (g:∀(A:bF) (outer:List Env) (s:aj) (H:Hp) (vs:List V) (Q:VK) (E:XK),Room k (A.deeper (envOfC a scope s.heap.objs.size f c))->sp vs H Q E->
   ∃t,v1 (qZ CX P w K mg base N a scope f c A outer s H E) body t/\t {nx:=fun _ H'=>Q .non H',rt:=Q} (qB N vs) H) :
  FnOk P w K mg base CX (k+1) f (cS name a d body scope L kV j pm M c ct) p sp:=by
 refine⟨len,fun A outer s H args X vs Q E D l Y r m=>?_⟩
 have hl:=len _ _ _ _ m
 have O:K.In s.heap:=l.mod.kin.keeps fun b o e=>(l.bs b o e).1
 have F:s.heap.NoLimit:=l.mod.nolimit.keeps fun b o e=>(l.bs b o e).1
 have h:∀y∈p.zip X,scope.names.lookup y.1=some .local\/(scope.names.lookup y.1=some .cell/\((cellsFrom (s.heap.objs.size+1) scope.names []).lookup y.1).isSome=true):=fun⟨n,v⟩ Z=>by
  rcases S.par n (iC Z).1 with q|q
  ·exact .inl q
  ·exact .inr ⟨q,hZ _ _ _ (.inl q)⟩
 refine codeAny_call_function D.depth (O _ _ U) rfl S.co S.gen rfl (PySem.W.codeRec_of O C) (Y _ _ _ _ ?_)
 refine wpAny_newFunctionEnv_cells S.kind h fun env he R x=>?_
 subst he
 refine⟨F.keeps x.toInCall.keep,codeAny_func ?_⟩
 obtain⟨t,ht,hq⟩:=g A outer s H vs Q E (D.deeper _) m
 have I:Inv (qZ CX P w K mg base N a scope f c A outer s H E) [] (qB N vs) H R:=zFG S D.hd l hl r x
 refine bZ (ht [] R (qB N vs) H _ I hq) (fun fl s' i=>?_) fun e s' i=>i
 have fin:∀{z:St} {H':Hp} {v:V} {u:af},Inv (qZ CX P w K mg base N a scope f c A outer s H E) [] z H' s'->zI v u->Q v H'->CE outer P w H s Q u s' :=
  fun{z H' v u} J G q=>⟨v,H',J.os,J.bare,J.base,J.hok,G,q⟩
 cases fl with
 |ret u=>
  obtain⟨v,z,H',J,G,q⟩:=i
  exact fin J G q
 |next=>
  obtain⟨z,H',J,q⟩:=i
  exact fin (v:=V.non) (u:=Value.none) J rfl q
 |brk=>
  obtain⟨_,_,_,q⟩:=i
  exact dW q
 |cont=>
  obtain⟨_,_,_,q⟩:=i
  exact dW q
section
variable{X:Cx}{x:Str}{p pos:Pos}{e:bV}{es:List bV}{t:TA}{id T:String}{r:List V->Hp->VK->Prop}
def tCB (r:List V->Hp->VK->Prop)(t:TA):TE:=fun σ H Q=>t σ H fun vs H1=>r vs H1 Q
theorem yD (d:vD X (.builtin id) r)(f:Gl X x)(g:X.mg x=none)(i:bootBuiltins x=some (.builtin id))(j:PA X (e::es) t)(l:x≠"__name__" :=by decide)(b:(x==("__debug__" : Str))=false:=by decide)
  (m:starEach (e::es) X.env=(false,eval e X.env)::starEach es X.env:=by rfl) (c:(backTo pos (starEach es X.env)).any (·.1)=false:=by rfl):PE X (.Call (.Name x p) (e::es) [] pos) (tCB r t):=by
 intro a s σ H Q I h
 refine cF (u0 I f g i ?_ l b)
 exact dM (zG (j pos a s σ H _ I h) fun n o ⟨vs,q,u,v,w⟩=>d a o σ q vs n Q u v w) m c
theorem kY (d:vD X (.type T) r)(f:Gl X x)(g:X.mg x=none)(i:bootBuiltins x=some (.type T))(j:PA X (e::es) t)(l:x≠"__name__" :=by decide)(b:(x==("__debug__" : Str))=false:=by decide)
  (m:starEach (e::es) X.env=(false,eval e X.env)::starEach es X.env:=by rfl) (c:(backTo pos (starEach es X.env)).any (·.1)=false:=by rfl):PE X (.Call (.Name x p) (e::es) [] pos) (tCB r t):=by
 intro a s σ H Q I h
 refine cF (u0 I f g i ?_ l b)
 exact cU (zG (j pos a s σ H _ I h) fun n o ⟨vs,q,u,v,w⟩=>d a o σ q vs n Q u v w) m c
end
end L2
namespace HT
open PySem PyProof.Rows
section
open PySem.SeqAt
open PySem.AutoSeq1 (wpAny_loadPart')
open PySem.MeetsSeq PySem.MeetsSeq2 PySem.MeetsSeq3
end
section
variable{prog:aI}{w:aR}{A:bF}{E:af->aj->Prop}{s:aj}
theorem cat_tup {t b:av}{vs a:List af}{Q:af->aj->Prop}(u:IsTup s.heap t vs.toArray)(v:IsTup s.heap b a.toArray)(l:vs≠[])
  (x:a=[]->Q (.ref t) s) (y:a≠[]->Q (.ref s.heap.objs.size) {s with heap:=s.heap.push {cls:=.type "tuple",data:=.seq (vs++a).toArray}})
  (hsz:vs.length+a.length<=sizeLine):wpAny (model prog w) A (binaryOp .Add (.ref t) (.ref b)) Q E s:=by
 obtain⟨⟨cls,m,data,o⟩,i,p,n,hd⟩:=id u
 obtain⟨⟨q,d,data2,f⟩,c,g,r,h⟩:=id v
 simp only at p hd g h
 subst p hd g h
 have e:vs.toArray++a.toArray=(vs++a).toArray:=by simp
 by_cases j:a=[]
 ·exact kx ⟨_,i,rfl⟩ ⟨_,c,rfl⟩ gk jn eW eR (eI _ _)
   (tuple_addW1 t b vs.toArray a.toArray n r m d o f (by simpa using l) (by simp[j])) ⟨i,c,x j⟩
 ·refine kx ⟨_,i,rfl⟩ ⟨_,c,rfl⟩ gk jn eW eR (eI _ _)
   (tuple_addW2 t b vs.toArray a.toArray n r m d o f (by simpa using l) (by simpa using j) (by rw[aY,aY];exact hsz)) ⟨i,c,?_⟩
  rw[e]
  exact y j
def sIx (n d:Nat):Option Int->Nat
 |none=>d
 |some v=>if v<0 then(v+(n:Int)).toNat else min v.toNat n
theorem sIx_nat (n d k:Nat):sIx n d (some (k:Int))=min k n:=by
 show(if(k:Int)<0 then((k:Int)+(n:Int)).toNat else min (k:Int).toNat n)=min k n
 rw[if_neg (by omega),cC]
theorem sIx_le (n d:Nat)(hd:d<=n)(o:Option Int):sIx n d o<=n:=by
 cases o with
 |none=>exact hd
 |some v=>
  show(if v<0 then(v+(n:Int)).toNat else min v.toNat n)<=n
  by_cases a:v<0
  ·rw[if_pos a];omega
  ·rw[if_neg a];exact Nat.min_le_right _ _
end
end HT
namespace L2
open PySem PySem.Spec PyProof.Rows
abbrev TO:=St->Hp->(Option Int->Hp->Prop)->Prop
def PO (X:Cx)(e:Option bV)(t:TO):Prop :=
 ∀(pins:List (av×Obj)) (s:aj) (σ:St) (H:Hp) (Q:Option Int->Hp->Prop),Inv X pins σ H s->t σ H Q->
  wpAny (model X.prog X.w) X.A (evalPart e X.env) (fun u s'=>∃o H',Inv X pins σ H' s'/\IsPart u o/\Q o H') X.xe s
def zFI:TO:=fun _ H Q=>Q none H
def zFJ (t:TE):TO:=fun σ H Q=>t σ H fun x H1=>∃i,x=.int i/\Q (some i) H1
theorem zFK {ns:List Int}:∀{a:List af},zF (ns.map V.int) a->ky a ns:=by
 induction ns with
 |nil=>intro a r;rw[h9]at r;cases r;exact .nil
 |cons n ns ih=>
  intro a r
  rw[aM]at r
  cases r with
  |cons b c=>
   obtain⟨t,e⟩:=b
   subst e
   exact .cons n t (ih c)
section
variable{X:Cx}{e:bV}{te:TE}{lo hi:Option bV}{tl th:TO}{pos p2:Pos}
theorem zAD:PO X none zFI:=by
 intro a s σ H Q I h
 rw[jo]
 exact ag ⟨none,H,I,.none,h⟩
theorem jT (h:PE X e te):PO X (some e) (zFJ te):=by
 intro a s σ H Q I b
 rw[ny]
 refine zG (h a s σ H _ I b) fun u j ⟨x,c,d,f,g⟩=>?_
 obtain⟨i,rfl,q⟩:=g
 obtain⟨t,rfl⟩:=f
 exact⟨some i,c,d,.int i t,q⟩
def SlR (X:Cx)(r:V->Option Int->Option Int->Hp->VK->Prop):Prop :=
 ∀(pins:List (av×Obj)) (s:aj) (σ:St) (H:Hp) (x:V) (v vl vu:af) (lo hi:Option Int) (sl:av) (Q:VK),Inv X pins σ H s->zI x v->s.heap.IsSliceOf sl vl vu .none->IsPart vl lo->IsPart vu hi->r x lo hi H Q->
  ∃T id,typeLookup (.type T) "__getitem__"=pure (some (.builtin id))/\s.TypeIs v T/\wpAny (model X.prog X.w) X.A (getItem v (.ref sl)) (EP X pins σ Q) X.xe s
def zFL (xs:List V)(lo hi:Option Int):List V:=(xs.drop (HT.sIx xs.length 0 lo)).take (HT.sIx xs.length xs.length hi-HT.sIx xs.length 0 lo)
def zFM (K:ai):R2:=fun x y H Q=>∃a b xs ys,x=.ref a/\y=.ref b/\zW K H a xs/\zW K H b ys/\xs≠[]/\xs.length+ys.length<=sizeLine/\
 (ys=[]->Q (.ref a) H)/\(ys≠[]->∀p,H p=none->Q (.ref p) (upd H p (.tup (xs++ys))))
theorem zF.nil_iff {xs:List V}{a:List af}(r:zF xs a):a=[]↔xs=[]:=by
 cases r with
 |nil=>simp
 |cons _ _=>simp
theorem zBr:z4 X (binaryOp .Add) (zFM X.K):=by
 intro f s σ H x y v u Q I i j h
 obtain⟨a,b,xs,l,rfl,rfl,m,n,p,hz,r,A⟩:=h
 cases i
 cases j
 obtain⟨its,d,B,_⟩:=I.tuple m
 obtain⟨g,c,p2,_⟩:=I.tuple n
 refine HT.cat_tup B p2 (fun z=>p (d.nil_iff.mp z)) (fun z=>⟨.ref a,H,I,rfl,r (c.nil_iff.mp z)⟩) (fun z=>?_) (by rw[<-d.length,<-c.length];exact hz)
 refine⟨.ref s.heap.objs.size,_,I.laid (t':=s.toks) (o:=.tup (xs++l)) (fun b C q=>ae _ q) (ay _) ?_,rfl,A (fun w=>z (c.nil_iff.mpr w)) _ (I.hok.fresh (ay _))⟩
 exact⟨by rw[aD];exact hz,_,d.append c,nN _ _⟩
end
def q8 (n:Nat)(i:Int):Option Nat:=if 0<=i then(if i<n then some i.toNat else none)else if-(n:Int)<=i then some (i+n).toNat else none
def jA {α:Type}(xs:List α)(i:Int):Option α:=(q8 xs.length i).bind fun j=>xs[j]?
theorem zFN {n:Nat}{i:Int}{j:Nat}(h:q8 n i=some j):seqIndex? i n=some j/\j<n/\-(n:Int)<=i/\i<n:=by
 unfold q8 at h
 by_cases b:0<=i
 ·rw[if_pos b]at h
  by_cases a:i<n
  ·rw[if_pos a]at h
   have e:i.toNat=j:=aH h
   exact⟨by rw[seqIndex_of b a,e],by omega,by omega,a⟩
  ·rw[if_neg a]at h;cases h
 ·rw[if_neg b]at h
  by_cases a:-(n:Int)<=i
  ·rw[if_pos a]at h
   have e:(i+n).toNat=j:=aH h
   exact⟨by rw[seqIndex_neg (by omega) a,e],by omega,a,by omega⟩
  ·rw[if_neg a]at h;cases h
theorem zBs {α:Type}{xs:List α}{i:Int}{v:α}(h:jA xs i=some v):∃j,seqIndex? i xs.length=some j/\xs[j]?=some v/\j<xs.length/\-(xs.length:Int)<=i/\i<xs.length:=by
 unfold jA at h
 cases e:q8 xs.length i with
 |none=>rw[e]at h;cases h
 |some j=>
  rw[e]at h
  obtain⟨a,b,c,d⟩:=zFN e
  exact⟨j,a,h,b,c,d⟩
theorem zAE {α:Type}{xs:List α}{j:Nat}{v:α}(h:xs[j]?=some v):jA xs (j:Int)=some v:=by
 have a:j<xs.length:=(ah.mp h).1
 have e:q8 xs.length (j:Int)=some j:=by
  unfold q8
  rw[if_pos (by omega),if_pos (by omega)];simp
 unfold jA;rw[e];exact h
def zFO (b:bV):Prop:=∀o i,subscripted b false o i=operate [o,i] (getItem o i)
def IxR (X:Cx)(r:R2):Prop :=
 ∀(value slice:bV) (pins:List (av×Obj)) (s:aj) (σ:St) (H:Hp) (x y:V) (v u:af) (Q:VK),Inv X pins σ H s->zI x v->zI y u->r x y H Q->
  subscripted slice false v u=operate [v,u] (getItem v u)->wpAny (model X.prog X.w) X.A (subscriptTail value slice v u) (EP X pins σ Q) X.xe s
def jB (X:Cx)(id:String)(r:V->List V->Hp->VK->Prop):Prop :=
 ∀(pins:List (av×Obj)) (s:aj) (σ:St) (H:Hp) (x:V) (xs:List V) (v:af) (us:List af) (Q:VK),Inv X pins σ H s->zI x v->zF xs us->r x xs H Q->
  wpAny (model X.prog X.w) X.A (call (.builtin id) (v::us)) (EP X pins σ Q) X.xe s
section
variable{X:Cx}{a b:bV}{ta tb:TE}{pos:Pos}
theorem zAF {r:R2}(d:IxR X r)(e:PE X a ta)(f:PE X b tb)(g:zFO b):PE X (.Subscript a b pos) (jR r ta tb):=by
 intro c s σ H Q I h
 exact jy (zAB e f I h fun v u i x y j l m n q=>d a b c i σ j x y v u Q l m n q (g _ _))
def zFP (K:ai):R2:=fun x y H Q=>∃p xs i v,x=.ref p/\y=.int i/\zV K H p xs/\jA xs i=some v/\Q v H
def zFQ:R2:=fun x y H Q=>∃z i c,x=.str z/\y=.int i/\z.length<=sizeLine/\jA z.cps.toList i=some c/\Q (.str ⟨#[c]⟩) H
theorem zBt:IxR X (zFP X.K):=by
 intro value slice c s σ H x y v u Q I n o h g
 obtain⟨p,xs,i,z,rfl,rfl,A,B,q⟩:=h
 cases n
 obtain⟨t,rfl⟩:=o
 obtain⟨its,r,pl,hz⟩:=I.list A
 obtain⟨j,d,C,F,D,E⟩:=zBs B
 obtain⟨w,l,e⟩:=r.get C
 have hl:=r.length
 have G:=kX
 have fin:EP X c σ Q w s:=⟨z,H,I,e,q⟩
 by_cases m:0<=i
 ·have f:i.toNat=j:=by
   rw[seqIndex_of m E]at d
   exact aH d
  exact item_listR pl.isList m (by omega) (by rw[f];simpa using l) fin g
 ·have f:(i+(its.toArray.size:Int)).toNat=j:=by
   rw[seqIndex_neg (by omega) D]at d
   rw[aY,<-hl]
   exact aH d
  exact subscriptTail_builtinR (x:=w) pl.isList.typeIs slot_list_getitem.lookup
   (wpAny_getItem_list_neg (Q:=fun r s'=>r=w/\EP X c σ Q r s') pl.isList (by omega) (by rw[aY]<;>omega) (by omega) (by rw[f];simpa using l) ⟨rfl,fin⟩) g
theorem zFR:IxR X zFQ:=by
 intro value slice d s σ H x y v u Q I f g h l
 obtain⟨z,i,c,rfl,rfl,hz,m,q⟩:=h
 obtain⟨t,rfl⟩:=f
 obtain⟨t',rfl⟩:=g
 obtain⟨j,e,n,w,o,p⟩:=zBs m
 have hl:z.cps.toList.length=z.length:=by simp[mz]
 rw[hl]at e o p
 have A:=kX
 exact oh (typeIs_str s z t) slot_str_getitem.lookup (getItem_str (c:=c) (by
  have e1:decide (i< -(2^63:Int))=false:=decide_eq_false (by omega)
  have r:decide (i>=2^63)=false:=decide_eq_false (by omega)
  rw[e1,r,Bool.or_false]) (by rw[e];simpa using n) ⟨.str ⟨#[c]⟩,H,I.tok _,⟨_,rfl⟩,q⟩) l
theorem Inv.lst {c:List (av×Obj)}{σ:St}{H:Hp}{s:aj}{p:av}{xs:List V}(I:Inv X c σ H s)(h:H p=some (.lst xs)) :
  ∃(its:List af) (n:Nat),zF xs its/\s.heap.get? p=some {cls:=.type "list",data:=.seq its.toArray n}/\xs.length<=sizeLine:=by
 obtain⟨z,its,n,r,e⟩:=I.hok p _ h
 exact⟨its,n,r,e,z⟩
def rSlL (K:ai):V->Option Int->Option Int->Hp->VK->Prop:=fun x lo hi H Q=>∃a xs,x=.ref a/\zV K H a xs/\∀p,H p=none->Q (.ref p) (upd H p (.lst (zFL xs lo hi)))
def kZ:V->V->Bool
 | .non,.non=>true
 | .bl a,.bl b=>a==b
 | .bl a,.int b=>(if a then 1 else 0)==b
 | .int a,.bl b=>a==(if b then 1 else 0)
 | .int a,.int b=>a==b
 | .str a,.str b=>a==b
 |_,_=>false
def eqU (x:V)(u:af):Bool:=match u with
 | .none=>kZ .non x
 | .bool b=>kZ (.bl b) x
 | .int i _=>kZ (.int i) x
 | .str z _=>kZ (.str z) x
 |_=>false
theorem jU:vD X (.builtin "len") (fun xs H Q=>∃p d,xs=[.ref p]/\(zV X.K H p d\/zW X.K H p d)/\Q (.int d.length) H):=by
 intro g s σ H xs j Q I r h
 obtain⟨p,d,rfl,e,q⟩:=h
 obtain⟨u,rfl,i⟩:=vS r
 cases i
 have l:=kX
 rcases e with e|e
 ·obtain⟨its,f,pl,hz⟩:=I.list e
  have c:=f.length
  exact Calls.call_len_list pl.isList (by simp only[aY]<;>omega) ⟨.int d.length,H,I.tok _,⟨s.toks+1,by rw[aY,c]⟩,q⟩
 ·obtain⟨its,f,pl,hz⟩:=I.tuple e
  have c:=f.length
  exact len_tuple pl (by simp only[aY]<;>omega) ⟨.int d.length,H,I.tok _,⟨s.toks+1,by rw[aY,c]⟩,q⟩
theorem jV:vD X (.builtin "len") (fun xs H Q=>∃z,xs=[.str z]/\z.length<=sizeLine/\Q (.int z.length) H):=by
 intro c s σ H xs d Q I r h
 obtain⟨z,rfl,hz,q⟩:=h
 obtain⟨u,rfl,t,rfl⟩:=vS r
 have e:=kX
 exact len_str (by omega) ⟨.int z.length,H,I.tok _,⟨_,rfl⟩,q⟩
theorem zFS:vD X (.type "list") (fun xs H Q=>∃p c,xs=[.ref p]/\(zV X.K H p c\/zW X.K H p c)/\∀l,H l=none->Q (.ref l) (upd H l (.lst c))):=by
 intro g s σ H xs z Q I r h
 obtain⟨p,c,rfl,i,q⟩:=h
 obtain⟨u,rfl,y⟩:=vS r
 cases y
 have fin:∀(its:List af),zF c its->c.length<=sizeLine->∀(h':bt) (d:Nat),(∀b x,s.heap.get? b=some x->h'.get? b=some x)->
   h'.get? s.heap.objs.size=some {cls:=.type "list",dict:=none,data:=.seq its.toArray d,slots:=#[]}->EP X g σ Q (.ref s.heap.objs.size) {s with heap:=h'}:=fun its f hz h' d kp e=>
  ⟨.ref s.heap.objs.size,_,I.laid (t':=s.toks) kp (ay _) (show zZ X.prog X.w _ h' _ (.lst c)from⟨hz,its,d,f,e⟩),rfl,q _ (I.hok.fresh (ay _))⟩
 rcases i with i|i
 ·obtain⟨its,f,pl,hz⟩:=I.list i
  have j:=f.length
  obtain⟨o,m,v,n,hd⟩:=pl.isList
  exact nz p (.inl rfl) m v hd (fun h' d kp e=>fin its f hz h' d kp e) (by simp only[aY]<;>omega)
 ·obtain⟨its,f,pl,hz⟩:=I.tuple i
  have j:=f.length
  obtain⟨o,m,v,n,hd⟩:=pl
  exact nz p (.inr rfl) m v hd (fun h' d kp e=>fin its f hz h' d kp e) (by simp only[aY]<;>omega)
theorem zFT:vD X (.type "tuple") (fun xs H Q=>∃p d,xs=[.ref p]/\((zV X.K H p d/\∀l,H l=none->Q (.ref l) (upd H l (.tup d)))\/(zW X.K H p d/\Q (.ref p) H))):=by
 intro c s σ H xs v Q I r h
 obtain⟨p,d,rfl,h⟩:=h
 obtain⟨u,rfl,m⟩:=vS r
 cases m
 rcases h with⟨f,q⟩|⟨f,q⟩
 ·obtain⟨its,g,pl,hz⟩:=I.list f
  have i:=g.length
  refine call_tuple_list pl.isList (fun h' kp=>?_) (by simp only[aY]<;>omega)
  have j:Inv X c σ H {s with heap:=h'}:=I.kept (t':=s.toks) kp
  have n:Inv X c σ (upd H h'.objs.size (.tup d)) {s with heap:=h'.push {cls:=.type "tuple",data:=.seq its.toArray}} :=
   j.laid (t':=s.toks) (fun b o e=>ae _ e) (ay _) (show zZ X.prog X.w _ _ _ (.tup d)from⟨hz,its,g,nN _ _⟩)
  exact⟨.ref h'.objs.size,_,n,rfl,q _ (j.hok.fresh (ay _))⟩
 ·obtain⟨its,g,pl,hz⟩:=I.tuple f
  exact call_tuple_same pl ⟨.ref p,H,I,rfl,q⟩
def tyV (K:ai)(T:String)(x:V)(H:Hp):Prop:=match x with
 | .str _=>T="str"
 | .int _=>T="int"
 | .ref p=>(T="list"/\ ∃xs,zV K H p xs)\/(T="tuple"/\ ∃o,K.lookup p=some o/\o.cls=.type "tuple"/\o.dict=none)\/
   (T="dict"/\ ((∃kvs,H p=some (.dK kvs))\/∃kvs,H p=some (.dT kvs)))\/(T="set"/\ ∃S n,H p=some (.set S n))
 |_=>False
theorem zBu {f:List (av×Obj)}{σ:St}{H:Hp}{s:aj}{T:String}{x:V}{v:af}(I:Inv X f σ H s)(r:zI x v)(ty:tyV X.K T x H) :
  s.TypeIs v T/\∀a,v=.ref a->∃h,s.heap.get? a=some h/\h.dict=none:=by
 cases x with
 |str z=>
  obtain⟨t,rfl⟩:=r
  cases(show T="str"from ty)
  exact⟨typeIs_str s z t,fun _ e=>nomatch e⟩
 |int i=>
  obtain⟨t,rfl⟩:=r
  cases(show T="int"from ty)
  exact⟨typeIs_int s i t,fun _ e=>nomatch e⟩
 |ref p=>
  cases r
  rcases ty with⟨rfl,xs,j⟩|⟨rfl,o,d,l,hd⟩|⟨rfl,d⟩|⟨rfl,S,n,d⟩
  ·obtain⟨its,_,pl,_⟩:=I.list j
   refine⟨pl.isList.typeIs,fun a e=>?_⟩
   cases e
   obtain⟨o,n,e,c,hd,_⟩:=pl
   exact⟨o,e,hd⟩
  ·refine⟨⟨o,I.kIn p o d,l⟩,fun a e=>?_⟩
   cases e
   exact⟨o,I.kIn _ o d,hd⟩
  ·have z:∃o,s.heap.get? p=some o/\o.ExactDict:=by
    rcases d with⟨kvs,d⟩|⟨kvs,d⟩
    ·obtain⟨_,_,_,_,o,_,_,e,ex,_⟩:=I.hok p _ d
     exact⟨o,e,ex⟩
    ·obtain⟨_,_,_,_,o,_,_,e,ex,_⟩:=I.hok p _ d
     exact⟨o,e,ex⟩
   obtain⟨o,e,ex⟩:=z
   refine⟨⟨o,e,ex.1⟩,fun a g=>?_⟩
   cases g
   exact⟨o,e,ex.2.1⟩
  ·obtain⟨o,_,_,_,e,ex,_⟩:=I.hok p _ d
   refine⟨⟨o,e,ex.1⟩,fun a g=>?_⟩
   cases g
   exact⟨o,e,ex.2.1⟩
 |_=>exact dW ty
def zBv (K:ai)(T:String)(r:V->List V->Hp->VK->Prop)(to:TE):TE:=fun σ H Q=>to σ H fun x H1=>tyV K T x H1/\r x [] H1 Q
def tBM (K:ai)(T:String)(r:V->List V->Hp->VK->Prop)(to:TE)(t:TA):TE:=fun σ H Q=>to σ H fun x H1=>tyV K T x H1/\t σ H1 fun xs H2=>r x xs H2 Q
variable{o e:bV}{es:List bV}{to:TE}{t:TA}{name:Str}{apos cpos:Pos}{T id:String}{r:V->List V->Hp->VK->Prop}
theorem zBw (l:jz T)(slot:Slot T name id)(g:typeOf (.builtin id)=pure (.type "method_descriptor"))(m:jB X id r)(n:PE X o to)
  (d:attributeBase o name X.env (eval o X.env)=eval o X.env:=by rfl) (f:(apos.endLine==cpos.line)=true:=by rfl):PE X (.Call (.Attribute o name apos) [] [] cpos) (zBv X.K T r to):=by
 intro c s σ H Q I h
 refine wpAny_Call_method0_late d f (zG (n c s σ H _ I h) fun v p ⟨x,q,i,j,ty,u⟩=>?_)
 obtain⟨w,y⟩:=zBu i j ty
 exact⟨T,id,l,slot,g,w,y,eX rfl (PySem.evalArgs_none (m c p σ q x [] v [] Q i j .nil u))⟩
theorem zAG (p:jz T)(slot:Slot T name id)(j:typeOf (.builtin id)=pure (.type "method_descriptor"))(q:jB X id r)(u:PE X o to)(w:PA X (e::es) t)
  (f:attributeBase o name X.env (eval o X.env)=eval o X.env:=by rfl)
  (i:((backTo cpos (starEach (e::es) X.env)).all (fun x=>!x.1)&& (backToKw cpos (keywordEach [] X.env)).all (fun x=>x.1.isSome)
   &&decide ((e::es).length+([]:List jk).length+(if([]:List jk).isEmpty then 0 else 1)<30))=true:=by rfl)
  (g:(apos.endLine==cpos.line)=true:=by rfl) (y:starEach (e::es) X.env=(false,eval e X.env)::starEach es X.env:=by rfl) (d:(backTo cpos (starEach es X.env)).any (·.1)=false:=by rfl) :
  PE X (.Call (.Attribute o name apos) (e::es) [] cpos) (tBM X.K T r to t):=by
 intro c s σ H Q I h
 refine wpAny_Call_method_late f i g rfl (zG (u c s σ H _ I h) fun v z ⟨x,A,l,m,ty,B⟩=>?_)
 obtain⟨C,D⟩:=zBu l m ty
 refine⟨T,id,p,slot,j,C,D,?_⟩
 have n:=w cpos c z σ A _ l B
 rw[y]at n⊢
 refine eX (by show(false||(backTo cpos (starEach es X.env)).any (·.1))=false;rw[d]<;>rfl) (iZ ?_)
 exact zG n fun E F ⟨vs,G,J,L,M⟩=>q c F σ G x vs v E Q J m L M
end
def MtM (X:Cx)(id:String)(r:V->List V->Hp->VK->Prop):Prop :=
 ∀(pins:List (av×Obj)) (s:aj) (σ:St) (H:Hp) (x:V) (xs:List V) (v:af) (us:List af) (Q:VK),Inv X pins σ H s->zI x v->zF xs us->r x xs H Q->
  wpAny (model X.prog X.w) X.A (call (.builtin id) (v::us)) (EP X pins σ Q) X.xe s
theorem zF.zero:∀{a:List af},zF [] a->a=[]
 |_,.nil=>rfl
theorem zF.eraseIdx:∀{xs:List V}{a:List af} (i:Nat),zF xs a->zF (xs.eraseIdx i) (a.eraseIdx i)
 |_,_,_,.nil=>.nil
 |_,_,0,.cons _ t=>t
 |_,_,i+1,.cons r t=>.cons r (zF.eraseIdx i t)
theorem zF.reverse {xs:List V}{a:List af}(h:zF xs a):zF xs.reverse a.reverse:=by
 induction h with
 |nil=>exact .nil
 |cons r t ih=>rw[dz,dz];exact zF.append ih (.cons r .nil)
section
variable{X:Cx}{pins:List (av×Obj)}{σ:St}{H:Hp}{s:aj}{l b:av}{xs ys zs:List V}
theorem Inv.lnew {its:List af}{t':Nat}(I:Inv X pins σ H s)(a:zF ys its)(hz:ys.length<=sizeLine) :
  Inv X pins σ (upd H s.heap.objs.size (.lst ys)) {s with heap:=s.heap.push {cls:=.type "list",data:=.seq its.toArray},toks:=t'} :=
 I.laid (fun _ _ q=>ae _ q) (ay _) ⟨hz,its,0,a,aw _ rfl⟩
theorem Inv.fresh (I:Inv X pins σ H s):H s.heap.objs.size=none:=I.hok.fresh (ay _)
theorem Inv.lstM (I:Inv X pins σ H s)(a:H l=some (.lst xs)):xs.length<=sizeLine/\∃(its:List af) (n:Nat),zF xs its/\xs.length=its.length/\s.heap.get? l=some {cls:=.type "list",data:=.seq its.toArray n}:=by
 obtain⟨z,its,n,r,e⟩:=I.hok l _ a
 exact⟨z,its,n,r,r.length,e⟩
end
section
variable{X:Cx}
def rExtend:V->List V->Hp->VK->Prop:=fun x vs H Q=>∃l b xs zs,x=.ref l/\vs=[.ref b]/\H l=some (.lst xs)/\H b=some (.lst zs)/\xs.length+zs.length<=sizeLine/\Q .non (upd H l (.lst (xs++zs)))
def zFU:R2:=fun x y H Q=>∃l b xs zs,x=.ref l/\y=.ref b/\H l=some (.lst xs)/\H b=some (.lst zs)/\xs.length+zs.length<=sizeLine/\∀p,H p=none->Q (.ref p) (upd H p (.lst (xs++zs)))
theorem zFV:z4 X (binaryOp .Add) zFU:=by
 intro c s σ H x y v u Q I d f h
 obtain⟨l,b,xs,w,rfl,rfl,g,i,hz,q⟩:=h
 cases d
 cases f
 obtain⟨z,its,n,r,hl,e⟩:=I.lstM g
 obtain⟨A,a,B,j,m,o⟩:=I.lstM i
 refine PySem.P.add_list e o ?_ (by rw[aY,aY];omega)
 have p:its.toArray++a.toArray=(its++a).toArray:=by simp
 rw[p]
 exact⟨.ref _,_,I.lnew (t':=s.toks) (r.append j) (by rw[aD];omega),rfl,q _ I.fresh⟩
end
section
variable{κ:Type} [DecidableEq κ]
def yL (kvs:List (κ×V))(k:κ):Option V:=(kvs.find? fun kv=>decide (kv.1=k)).map (·.2)
def yQ (kvs:List (κ×V))(k:κ)(v:V):List (κ×V) :=
 if(kvs.any fun kv=>decide (kv.1=k))=true then kvs.map (fun kv=>if kv.1=k then(kv.1,v)else kv)else kvs++[(k,v)]
def zBx (kvs:List (κ×V))(k:κ):List (κ×V):=kvs.filter fun kv=>decide (kv.1≠k)
theorem jW {p:κ×V}{r:List (κ×V)}{k:κ}(e:p.1=k):yL (p::r) k=some p.2:=by simp[yL,d0,e]
theorem jX {p:κ×V}{r:List (κ×V)}{k:κ}(e:¬p.1=k):yL (p::r) k=yL r k:=by simp[yL,d0,e]
theorem zBy (k:κ):∀kvs:List (κ×V),(kvs.any fun a=>decide (a.1=k))=(yL kvs k).isSome
 | []=>rfl
 |p::r=>by
  rw[fq]
  by_cases e:p.1=k
  ·simp only[jW e,decide_eq_true e,kz,Option.isSome_some]
  ·rw[jX e,decide_eq_false e,jq];exact zBy k r
theorem zAH (kvs:List (κ×V))(k:κ)(v:V):(yQ kvs k v).length<=kvs.length+1:=by
 unfold yQ
 split
 ·rw[ak];omega
 ·rw[aD,bf,lZ];omega
theorem vP.isSome_eq {o:Option V}{u:Option af}(r:vP o u):o.isSome=u.isSome:=by
 cases o with
 |none=>cases u with
  |none=>rfl
  |some _=>exact(show False from r).elim
 |some _=>cases u with
  |none=>exact(show False from r).elim
  |some _=>rfl
theorem vP.getD {o:Option V}{u:Option af}{d:V}{d':af}(r:vP o u)(a:zI d d'):zI (o.getD d) (u.getD d'):=by
 cases o with
 |none=>cases u with
  |none=>exact a
  |some _=>exact(show False from r).elim
 |some _=>cases u with
  |none=>exact(show False from r).elim
  |some _=>exact r
theorem KV.val {kvs:List (κ×V)}{vs:List (κ×af)}(r:KV kvs vs)(k:κ):vP (yL kvs k) (valueAt vs k):=by
 unfold KV at r
 induction r with
 |nil=>exact True.intro
 | @cons p q g a h t ih=>
  obtain⟨d,f⟩:=h
  by_cases e:p.1=k
  ·have c:q.1=k:=d.symm.trans e
   have b:valueAt (q::a) k=some q.2:=by simp[valueAt,d0,c]
   rw[jW e,b];exact f
  ·have c:¬q.1=k:=fun z=>e (d.trans z)
   have b:valueAt (q::a) k=valueAt a k:=by simp[valueAt,d0,c]
   rw[jX e,b];exact ih
theorem KV.any {kvs:List (κ×V)}{vs:List (κ×af)}(r:KV kvs vs)(k:κ):(kvs.any fun a=>decide (a.1=k))=vs.any fun a=>decide (a.1=k):=by
 unfold KV at r
 induction r with
 |nil=>rfl
 |cons h t ih=>rw[fq,fq,ih,h.1]
theorem KV.repl {kvs:List (κ×V)}{vs:List (κ×af)}(r:KV kvs vs)(k:κ){y:V}{u:af}(c:zI y u) :
  KV (kvs.map fun a=>if a.1=k then(a.1,y)else a) (vs.map fun a=>if a.1=k then(a.1,u)else a):=by
 unfold KV at r⊢
 induction r with
 |nil=>exact .nil
 | @cons p q f g h t ih=>
  rw[aM,aM]
  refine .cons ?_ ih
  obtain⟨b,d⟩:=h
  by_cases e:p.1=k
  ·rw[if_pos e,if_pos (b.symm.trans e)];exact⟨b,c⟩
  ·rw[if_neg e,if_neg (fun z=>e (b.trans z))];exact⟨b,d⟩
theorem KV.put {kvs:List (κ×V)}{vs:List (κ×af)}(r:KV kvs vs)(k:κ){y:V}{u:af}(a:zI y u):KV (yQ kvs k y) (stored vs k u):=by
 unfold yQ stored
 rw[r.any k]
 by_cases e:(vs.any fun b=>decide (b.1=k))=true
 ·rw[if_pos e,if_pos e];exact r.repl k a
 ·rw[if_neg e,if_neg e];exact oi r ⟨rfl,a⟩
theorem KV.drop {kvs:List (κ×V)}{vs:List (κ×af)}(r:KV kvs vs)(k:κ):KV (zBx kvs k) (without vs k):=by
 unfold KV at r⊢
 unfold zBx without
 induction r with
 |nil=>exact .nil
 | @cons p q g i h t ih=>
  obtain⟨c,d⟩:=h
  rw[lK,lK]
  by_cases e:p.1=k
  ·have a:¬decide (p.1≠k)=true:=by simp[e]
   have b:¬decide (q.1≠k)=true:=by simp[c.symm.trans e]
   rw[if_neg a,if_neg b];exact ih
  ·have f:¬q.1=k:=fun z=>e (c.trans z)
   have a:decide (p.1≠k)=true:=by simp[e]
   have b:decide (q.1≠k)=true:=by simp[f]
   rw[if_pos a,if_pos b];exact .cons ⟨c,d⟩ ih
theorem KV.length {kvs:List (κ×V)}{vs:List (κ×af)}(r:KV kvs vs):kvs.length=vs.length:=gd r
end
theorem k3 {P:aI}{w:aR}{k:zL}{u:af}(r:zI (kV k) u):(vJ P w).is k u=true:=by
 cases k with
 |inl i=>obtain⟨t,e⟩:=(show∃t,u=Value.int i t from r);subst e;exact zBQ P w i t
 |inr x=>obtain⟨t,e⟩:=(show∃t,u=Value.str x t from r);subst e;exact zBR P w x t
theorem zFW {P:aI}{w:aR}{k:zK}{u:af}(r:zI (vK k) u):(yF P w).is k u=true:=by
 cases k with
 |inl x=>obtain⟨t,e⟩:=(show∃t,u=Value.str x t from r);subst e;show ck x (.str x t)=true;simp[ck]
 |inr b=>have e:u=Value.bool b:=r;subst e;exact beq_self_eq_true _
theorem zBz {P:aI}{w:aR}:∀{ks:List zK}{a:List af},zF (ks.map vK) a->ItemsAre (yF P w) ks a
 | [],_,r=>by rw[h9]at r;cases r;exact .nil
 |k::ks,_,r=>by
  rw[aM]at r
  cases r with
  |cons h t=>exact .cons (zFW h) (zBz t)
abbrev KT (H:Hp):List (List zK×V)->List (List zK×av×af)->Prop:=jv fun p q=>p.1=q.1/\H q.2.1=some (.tup (p.1.map vK))/\zI p.2 q.2.2
theorem KT.val {H:Hp}{kvs:List (List zK×V)}{xs:List (List zK×av×af)}(r:KT H kvs xs)(k:List zK):vP (yL kvs k) ((atKey xs k).map (·.2)):=by
 induction r with
 |nil=>exact True.intro
 | @cons p q g a h t ih=>
  obtain⟨d,_,f⟩:=h
  by_cases e:p.1=k
  ·have c:q.1=k:=d.symm.trans e
   have b:atKey (q::a) k=some q.2:=by simp[atKey,d0,c]
   rw[jW e,b];exact f
  ·have c:¬q.1=k:=fun z=>e (d.trans z)
   have b:atKey (q::a) k=atKey a k:=by simp[atKey,d0,c]
   rw[jX e,b];exact ih
theorem KT.repl {H:Hp}{kvs:List (List zK×V)}{xs:List (List zK×av×af)}(r:KT H kvs xs)(k:List zK){y:V}{u:af}(d:zI y u) :
  KT H (kvs.map fun b=>if b.1=k then(b.1,y)else b) (xs.map (putAt k u)):=by
 induction r with
 |nil=>exact .nil
 | @cons p q g i h t ih=>
  rw[aM,aM]
  refine .cons ?_ ih
  obtain⟨a,c,f⟩:=h
  unfold putAt
  by_cases e:p.1=k
  ·rw[if_pos e,if_pos (a.symm.trans e)];exact⟨a,c,d⟩
  ·rw[if_neg e,if_neg (fun z=>e (a.trans z))];exact⟨a,c,f⟩
theorem KT.put {H:Hp}{kvs:List (List zK×V)}{xs:List (List zK×av×af)}(r:KT H kvs xs)(k:List zK){b:av}{y:V}{u:af}(c:H b=some (.tup (k.map vK)))(a:zI y u) :
  KT H (yQ kvs k y) (storedH xs k b u):=by
 have e:(kvs.any fun d=>decide (d.1=k))=(atKey xs k).isSome:=by
  rw[zBy,(r.val k).isSome_eq,Option.isSome_map]
 unfold yQ storedH
 rw[e]
 by_cases q:(atKey xs k).isSome=true
 ·rw[if_pos q,if_pos q];exact r.repl k a
 ·rw[if_neg q,if_neg q];exact oi r ⟨rfl,c,a⟩
theorem KT.keeps {H H':Hp}{kvs:List (List zK×V)}{xs:List (List zK×av×af)}(r:KT H kvs xs)(c:∀b a,H b=some (.tup a)->H' b=some (.tup a)):KT H' kvs xs :=
 Paired.mapP r fun _ _ z=>⟨z.1,c _ _ z.2.1,z.2.2⟩
section
variable{P:aI}{w:aR}{H:Hp}{h:bt}{a:av}
theorem zCA {u:HO}(ok:zR P w H h)(e:Rd H a u):zZ P w H h a u:=e.ok ok
theorem jY {kvs:List (zL×V)}(ok:zR P w H h)(e:Rd H a (.dK kvs)):kvs.length<=sizeLine/\(a==sysModules)=false/\∃vs,KV kvs vs/\h.DictOf (vJ P w) a vs :=
 show zZ P w H h a (.dK kvs)from zCA ok e
theorem jZ {kvs:List (zL×V)}(ok:zR P w H h)(e:H a=some (.dK kvs)):kvs.length<=sizeLine/\(a==sysModules)=false/\∃vs,KV kvs vs/\h.DictOf (vJ P w) a vs:=jY ok (.inl e)
theorem j0 {ks:List zK}(ok:zR P w H h)(e:H a=some (.tup (ks.map vK))):(tupleKind (yF P w)).is h ks a:=by
 obtain⟨_,its,r,o,b,c,n,d⟩:=(show zZ P w H h a (.tup (ks.map vK))from ok a _ e)
 exact⟨o,its.toArray,n,b,c,d,by simpa using zBz r⟩
theorem j1 {kvs:List (List zK×V)}(ok:zR P w H h)(e:Rd H a (.dT kvs)):kvs.length<=sizeLine/\(a==sysModules)=false/\
  ∃xs,KT H kvs xs/\h.DictOfH (tupleKind (yF P w)) a xs:=by
 obtain⟨z,y,xs,r,o,d,ep,f,g,i,j,n⟩:=(show zZ P w H h a (.dT kvs)from zCA ok e)
 refine⟨z,y,xs,r,o,d,ep,f,g,i,j,fun x b=>?_,n⟩
 have all:∀{l:List (List zK×V)} {m:List (List zK×av×af)},KT H l m->∀x∈m,(tupleKind (yF P w)).is h x.1 x.2.1:=by
  intro l m q
  induction q with
  |nil=>intro x b;exact nomatch b
  | @cons p q s u c t ih=>
   intro x b
   rcases aE.mp b with e|b
   ·subst e
    exact j0 ok (by rw[<-c.1];exact c.2.1)
   ·exact ih x b
 exact all r x b
theorem zAI {kvs:List (List zK×V)}(ok:zR P w H h)(e:H a=some (.dT kvs)):kvs.length<=sizeLine/\(a==sysModules)=false/\
  ∃xs,KT H kvs xs/\h.DictOfH (tupleKind (yF P w)) a xs:=j1 ok (.inl e)
end
def vT (H:Hp)(a:av)(y:V)(r:Option V):Prop :=
 (∃kvs k,Rd H a (.dK kvs)/\y=kV k/\r=yL kvs k)\/∃kvs k b,Rd H a (.dT kvs)/\y=.ref b/\H b=some (.tup (k.map vK))/\r=yL kvs k
def qC (H:Hp)(a:av)(y v:V)(H':Hp):Prop :=
 (∃kvs k,H a=some (.dK kvs)/\y=kV k/\kvs.length<sizeLine/\H'=upd H a (.dK (yQ kvs k v)))\/
 ∃kvs k b,H a=some (.dT kvs)/\y=.ref b/\H b=some (.tup (k.map vK))/\kvs.length<sizeLine/\H'=upd H a (.dT (yQ kvs k v))
theorem vT.k {H:Hp}{a:av}{kvs:List (zL×V)}{k:zL}(e:H a=some (.dK kvs)):vT H a (kV k) (yL kvs k):=.inl ⟨kvs,k,.inl e,rfl,rfl⟩
theorem vT.t {H:Hp}{a b:av}{kvs:List (List zK×V)}{k:List zK}(e:H a=some (.dT kvs))(c:H b=some (.tup (k.map vK))):vT H a (.ref b) (yL kvs k):=.inr ⟨kvs,k,b,.inl e,rfl,c,rfl⟩
theorem qC.k {H:Hp}{a:av}{kvs:List (zL×V)}{k:zL}{v:V}(e:H a=some (.dK kvs))(hl:kvs.length<sizeLine):qC H a (kV k) v (upd H a (.dK (yQ kvs k v))):=.inl ⟨kvs,k,e,rfl,hl,rfl⟩
theorem qC.t {H:Hp}{a b:av}{kvs:List (List zK×V)}{k:List zK}{v:V}(e:H a=some (.dT kvs))(c:H b=some (.tup (k.map vK)))(hl:kvs.length<sizeLine) :
  qC H a (.ref b) v (upd H a (.dT (yQ kvs k v))):=.inr ⟨kvs,k,b,e,rfl,c,hl,rfl⟩
section
variable{X:Cx}{pins:List (av×Obj)}{σ:St}{H:Hp}{s:aj}{a:av}{y v:V}{u r:af}{o:Option V}{A:bF}{E:af->aj->Prop}
theorem Inv.big (I:Inv X pins σ H s):sysModules<s.heap.objs.size:=by
 have h:mainGlobals<s.heap.objs.size:=(I.mod.glob.keeps I.bk).lt
 exact fG (by decide) h
theorem zFX {Q:af->aj->Prop}(hu:A.units+1<cLine)(I:Inv X pins σ H s)(g:vT H a y (some v))(n:zI y u)(h:∀d s',Inv X pins σ H s'->zI v d->Q d s') :
  wpAny (model X.prog X.w) A (getItem (.ref a) u) Q E s:=by
 rcases g with⟨kvs,k,e,f,l⟩|⟨kvs,k,b,e,f,q,l⟩
 ·subst f
  obtain⟨z,hd,vs,rel,i⟩:=jY I.hok e
  obtain⟨d,j,c⟩:=vP.some_of (v:=v) (o:=valueAt vs k) (by rw[l];exact rel.val k)
  exact wpAny_getItem_of (k3 n) i.mapOf j (h d _ (I.tok _) c)
 ·subst f
  cases(show u=Value.ref b from n)
  obtain⟨z,hd,xs,rel,i⟩:=j1 I.hok e
  obtain⟨d,j,c⟩:=vP.some_of (v:=v) (o:=(atKey xs k).map (·.2)) (by rw[l];exact rel.val k)
  obtain⟨p,x,m⟩:=cz.mp j
  refine wpAny_getItem_heap (fO hu) (j0 I.hok q) i x ?_
  rw[m]
  exact h d _ (I.tok _) c
theorem zAJ {h':bt}{t':Nat}{c:HO}(I:Inv X pins σ H s)(d:jN (H a))(f:eA a s.heap h')(g:∃q,h'.get? a=some q)(new:zZ X.prog X.w (upd H a c) h' a c) :
  Inv X pins σ (upd H a c) {s with heap:=h',toks:=t'} :=
 I.write (x:=a) (e:=a) d (.inl rfl) (fun b q h z=>(f.2 b h).trans z) g new
theorem zCB {P:aI}{w:aR}{H':Hp}{h':bt}{kvs:List (zL×V)}{vs:List (zL×af)}(z:kvs.length<=sizeLine)(hd:(a==sysModules)=false)(rel:KV kvs vs)(b:h'.DictOf (vJ P w) a vs) :
  zZ P w H' h' a (.dK kvs):=⟨z,hd,vs,rel,b⟩
theorem zFY {H':Hp}{Q:Unit->aj->Prop}(hu:A.units+1<cLine)(I:Inv X pins σ H s)(g:qC H a y v H')(p:zI y u)(x:zI v r)(h:∀s',Inv X pins σ H' s'->Q () s') :
  wpAny (model X.prog X.w) A (setItem (.ref a) u r) Q E s:=by
 rcases g with⟨kvs,k,e,i,l,j⟩|⟨kvs,k,b,e,i,B,l,j⟩
 ·subst i j
  obtain⟨z,hd,vs,rel,m⟩:=jZ I.hok e
  have hz:vs.length<=sizeLine:=by rw[<-rel.length];exact z
  have hl:(yQ kvs k v).length<=sizeLine:=by have:=zAH kvs k v;omega
  refine wpAny_setItem_pairs (hsz:=hz) (k3 p) m fun h' d n=>h _ ?_
  have D:∃q,h'.get? a=some q:=let⟨q,_,_,f,_⟩:=d;⟨q,f⟩
  exact zAJ I (by rw[e];exact True.intro) n D (zCB hl hd (rel.put k x) d)
 ·subst i j
  cases(show u=Value.ref b from p)
  obtain⟨z,hd,xs,rel,m⟩:=zAI I.hok e
  have hz:xs.length<=sizeLine:=by rw[<-gd rel];exact z
  have hl:(yQ kvs k v).length<=sizeLine:=by have:=zAH kvs k v;omega
  refine wpAny_setItem_heap (hsz:=hz) (fO hu) (j0 I.hok B) m fun h' d n=>h _ ?_
  obtain⟨q,F,ep,f,G,J,L,_,M⟩:=d
  refine zAJ I (by rw[e];exact True.intro) n ⟨q,f⟩ ⟨hl,hd,_,(rel.put k B x).keeps fun c N C=>?_,q,F,ep,f,G,J,L,M⟩
  rw[zQ (kM C e (fun z=>nomatch z))]
  exact C
end
def zCC (i:bV):Prop:=∀ov iv,subscripted i false ov iv=operate [ov,iv] (getItem ov iv)
theorem zFZ {prog:aI}{w:aR}{A:bF}{E:af->aj->Prop}{s:aj}{env:Env}{value slice:bV}{pos:Pos}{T id:String}{Q:af->aj->Prop}
  (hl:typeLookup (.type T) "__getitem__"=pure (some (.builtin id))) (f:zCC slice)
  (h:wpAny (model prog w) A (eval value env) (fun o c=>wpAny (model prog w) A (eval slice env) (fun i a=>a.TypeIs o T/\wpAny (model prog w) A (getItem o i) Q E a) E c) E s) :
  wpAny (model prog w) A (eval (.Subscript value slice pos) env) Q E s:=by
 refine jy (bZ h (fun o c h₁=>bZ h₁ (fun i a b=>?_) fun _ _ x=>x) fun _ _ x=>x)
 obtain⟨d,b⟩:=b
 unfold subscriptTail
 refine aa ?_
 rw[getitemInPython_of_ne d.not_modules]
 refine aa (iE d hl ?_)
 have fin:wpAny (model prog w) A (subscripted slice false o i) (fun r e=>wpAny (model prog w) A (letTemporaryGo value o r>>=fun _=>pure r) Q E e) E a:=by
  rw[f o i]
  exact wpAny_operating (bZ b (fun r e g=>aa (wpAny_letTemporaryGo (ag g))) fun _ _ x=>x)
 first
  |exact ag (aa fin)
  |exact aa (ag (aa fin))
  |exact aa fin
theorem zFa {X:Cx}{c:List (av×Obj)}{σ:St}{H:Hp}{s:aj}{a:av}{y:V}{o:Option V}(I:Inv X c σ H s)(g:vT H a y o):s.TypeIs (.ref a) "dict" :=by
 rcases g with⟨kvs,k,e,_,_⟩|⟨kvs,k,b,e,_,_,_⟩
 ·obtain⟨_,_,vs,_,d⟩:=jY I.hok e
  exact d.typeIs
 ·obtain⟨_,_,xs,_,d⟩:=j1 I.hok e
  exact d.typeIs
def zFb (td ty:TE):TE:=fun σ H Q=>td σ H fun x H1=>ty σ H1 fun y H2=>∃a v,x=.ref a/\vT H2 a y (some v)/\Q v H2
def zCD (td ty tv:TE):TS:=fun D σ H=>tv σ H fun v H1=>td σ H1 fun x H2=>ty σ H2 fun y H3=>∃a H4,x=.ref a/\qC H3 a y v H4/\D.nx σ H4
section
variable{X:Cx}{o i e value:bV}{pos pos' tpos:Pos}{td ty tv:TE}
theorem zFc (hu:X.A.units+1<cLine)(f:PE X o td)(hi:PE X i ty)(j:zCC i):PE X (.Subscript o i pos) (zFb td ty):=by
 intro b s σ H Q I h
 refine zFZ PySem.F.slot_dict_getitem.lookup j (zG (f b s σ H _ I h) fun u l ⟨x,m,n,p,q⟩=>zG (hi b l σ m _ n q) fun C D ⟨y,r,d,w,a,v,ex,g,z⟩=>?_)
 subst ex
 obtain rfl:u=Value.ref a:=p
 exact⟨zFa d g,zFX hu d g w fun E G B c=>⟨v,r,B,c,z⟩⟩
theorem zCE (hu:X.A.units+1<cLine)(c:PE X o td)(hi:PE X i ty)(d:PE X value tv)(f:swapsWith value (some (.Subscript o i pos')) pos.line X.env=pure false) :
  PS X (.Assign [.Subscript o i pos'] value pos) (zCD td ty tv):=by
 intro b s σ H D I h
 refine wpAny_Assign_Subscript (zG (d b s σ H _ I h) fun r j ⟨v,l,m,n,p⟩=>zG (c b j σ l _ m p) fun u q ⟨x,w,z,B,C⟩=>zG (hi b q σ w _ z C) fun M N ⟨y,O,E,F,a,G,ex,g,J⟩=>?_) f
 subst ex
 obtain rfl:u=Value.ref a:=B
 exact zFY hu E g F n fun P L=>⟨σ,G,L,J⟩
end
theorem zFd {P:aI}{w:aR}{H:Hp}(h:bt)(a:sysModules<h.objs.size):zZ P w H (h.push {cls:=.type "dict",data:=.dict #[]}) h.objs.size (.dK []) :=
 ⟨bH _,beq_eq_false_iff_ne.mpr (dg (aG a)),[],.nil,oM h⟩
theorem zFe {P:aI}{w:aR}{H:Hp}(h:bt)(a:sysModules<h.objs.size):zZ P w H (h.push {cls:=.type "dict",data:=.dict #[]}) h.objs.size (.dT []) :=
 ⟨bH _,beq_eq_false_iff_ne.mpr (dg (aG a)),[],.nil,_,#[],0,aw _ rfl,⟨rfl,rfl,rfl⟩,rfl,rfl,i0⟩
def zFf:TE:=fun _ H Q=>∀p,H p=none->Q (.ref p) (upd H p (.dK []))
def zFg:TE:=fun _ H Q=>∀p,H p=none->Q (.ref p) (upd H p (.dT []))
section
variable{X:Cx}{pos:Pos}
theorem zAK:PE X (.Dict [] [] pos) zFf:=fun b s σ H Q I h=>
 lL ⟨.ref s.heap.objs.size,_,I.laid (a:=s.heap.objs.size) (o:=.dK []) (t':=s.toks) (fun _ _ q=>ae _ q) (ay _) (zFd s.heap I.big),rfl,h _ (I.hok.fresh (ay _))⟩
theorem zFh:PE X (.Dict [] [] pos) zFg:=fun b s σ H Q I h=>
 lL ⟨.ref s.heap.objs.size,_,I.laid (a:=s.heap.objs.size) (o:=.dT []) (t':=s.toks) (fun _ _ q=>ae _ q) (ay _) (zFe s.heap I.big),rfl,h _ (I.hok.fresh (ay _))⟩
end
structure M2 (X:Cx) (o:bV) (m:Str) (apos:Pos) (e f:bV) (cpos:Pos):Prop where
 base:attributeBase o m X.env (eval o X.env)=eval o X.env
 few:((backTo cpos (starEach [e,f] X.env)).all (fun x=>!x.1)&& (backToKw cpos (keywordEach [] X.env)).all (fun x=>x.1.isSome)
  &&decide (([e,f]:List bV).length+([]:List jk).length+(if([]:List jk).isEmpty then 0 else 1)<30))=true
 line:(apos.endLine==cpos.line)=true
 trees:backTo cpos (starEach [e,f] X.env)=[(false,eval e X.env),(false,eval f X.env)]
def IsD (H:Hp)(a:av):Prop:=(∃kvs,Rd H a (.dK kvs))\/∃kvs,Rd H a (.dT kvs)
theorem zFi {X:Cx}{f:List (av×Obj)}{σ:St}{H:Hp}{s:aj}{a:av}(I:Inv X f σ H s)(d:IsD H a) :
  s.TypeIs (.ref a) "dict"/\ (∀b,Value.ref a=.ref b->∃c,s.heap.get? b=some c/\c.dict=none)/\(a==sysModules)=false:=by
 rcases d with⟨kvs,e⟩|⟨kvs,e⟩
 ·obtain⟨_,hd,vs,_,g⟩:=jY I.hok e
  refine⟨g.typeIs,fun b q=>?_,hd⟩
  cases q
  obtain⟨c,_,_,h,i,_⟩:=g
  exact⟨c,h,i.2.1⟩
 ·obtain⟨_,hd,xs,_,g⟩:=j1 I.hok e
  refine⟨g.typeIs,fun b q=>?_,hd⟩
  cases q
  obtain⟨c,_,_,h,i,_⟩:=g
  exact⟨c,h,i.2.1⟩
section
variable{X:Cx}{pins:List (av×Obj)}{σ:St}{H:Hp}{s:aj}{a:av}{y d:V}{u r:af}{o:Option V}{A:bF}{E:af->aj->Prop}
theorem zFj {Q:af->aj->Prop}(hu:A.units+1<cLine)(I:Inv X pins σ H s)(g:vT H a y o)(i:zI y u)(j:zI d r)(h:∀m s',Inv X pins σ H s'->zI (o.getD d) m->Q m s') :
  wpAny (model X.prog X.w) A (call (.builtin "dict.get") [.ref a,u,r]) Q E s:=by
 rcases g with⟨kvs,k,e,f,l⟩|⟨kvs,k,b,e,f,n,l⟩
 ·subst f
  obtain⟨z,hd,vs,rel,c⟩:=jY I.hok e
  refine ia fi c.typeIs ic (gm _ _ _) (meets_dict_get_default (vJ X.prog X.w) a (k3 i) hd r) ⟨_,c.mapOf,h _ _ (I.tok _) ?_⟩
  rw[l]
  exact(rel.val k).getD j
 ·subst f
  cases(show u=Value.ref b from i)
  obtain⟨z,hd,xs,rel,c⟩:=j1 I.hok e
  refine ia fi c.typeIs ic (gm _ _ _) (meetsH_dict_get_default (tupleKind (yF X.prog X.w)) a b hd r) ⟨fO hu,k,xs,j0 I.hok n,c,h _ _ (I.tok _) ?_⟩
  rw[l]
  exact(rel.val k).getD j
end
def zCF (td ty tx:TE):TE:=fun σ H Q=>td σ H fun x H1=>∃a,x=.ref a/\IsD H1 a/\ty σ H1 fun y H2=>tx σ H2 fun z H3=>∃o,vT H3 a y o/\Q (o.getD z) H3
section
variable{X:Cx}{o e f:bV}{apos cpos:Pos}{td ty tx:TE}
theorem zAL (hu:X.A.units+1<cLine)(j:PE X o td)(l:PE X e ty)(n:PE X f tx)(m:M2 X o "get" apos e f cpos):PE X (.Call (.Attribute o "get" apos) [e,f] [] cpos) (zCF td ty tx):=by
 intro b s σ H Q I h
 refine wpAny_Call_method m.base m.few m.line dN fi PySem.F.type_dict_get (zG (j b s σ H _ I h) fun u p ⟨x,q,i,r,a,ex,d,v⟩=>?_)
 subst ex
 obtain rfl:u=Value.ref a:=r
 obtain⟨w,B,_⟩:=zFi i d
 refine⟨w,B,?_⟩
 rw[m.trees]
 refine eX rfl (iZ (dX (zG (l b p σ q _ i v) fun R C ⟨y,D,E,G,J⟩=>
  dX (zG (n b C σ D _ E J) fun T U ⟨z,L,M,N,W,g,O⟩=>eU ?_))))
 exact zFj hu M g G N fun Y Z P c=>⟨_,L,P,c,O⟩
end
end L2
namespace Att
open PySem PySem.W PySem.Calls PyProof.Rows
theorem zFk {P:mq}{h:bt}:∀(ns:List Int) (vs:List af),WellAll P h vs (ns.map WData.int)->ky vs ns:=by
 intro ns
 induction ns with
 |nil=>
  intro vs w
  rw[h9]at w
  cases w
  exact .nil
 |cons n ns ih=>
  intro vs w
  rw[aM]at w
  cases w with
  |cons a b=>
   cases a
   exact .cons _ _ (ih _ b)
theorem zFl {l:OpenLaw}{n:Nat}(p:l.most=some n){P:mq}{h:bt}{args:List WData}{b:List af}
  (c:l.row.toRowW.claim.pre args=true) (j:WellAll P h b args) :
  ∃a vs ns,b=[Value.ref a]/\args=[WData.list (ns.map WData.int)]/\h.get? a=some {cls:=.type "list",data:=.seq vs.toArray}/\ky vs ns/\ns.length<=n:=by
 have m:WShape.hasAll [] args [.list .int]=true:=(pre_splitW c).1
 have o:l.pre.holds [] {args:=args}=true:=(pre_splitW c).2
 obtain⟨d,r,rfl,s,u⟩:=hasAllW_cons m
 obtain rfl:=hasAllW_nil u
 obtain⟨xs,rfl,v⟩:=hasW_list s
 obtain⟨ns,rfl⟩:=items_int v
 have e:ns.length<=n:=by
  unfold OpenLaw.pre at o
  have g:(WTm.not (.lt (.lit (.int (n:Int))) (.len (.arg 0)))).holds [] {args:=[.list (ns.map .int)]}=true:=by
   have g:=(holds_andW o).1
   rw[p]at g
   exact g
  have i:=condW_of g (w_not (w_lt w_lit (w_len_list (w_arg rfl))))
  rw[ak]at i
  refine Nat.le_of_not_lt fun q=>?_
  have w:(n:Int)<((ns.length:Nat):Int):=by omega
  first
   |(rw[decide_eq_true w]at i;exact absurd i (by decide))
   |(simp at i;omega)
 cases j with
 |cons x y=>
  cases y
  cases x with
  |list z f=>exact⟨_,_,ns,rfl,rfl,z,zFk ns _ f,e⟩
theorem zFm (l:OpenLaw)(args:List WData):l.row.toRowW.claim.post args (.bool true) args=true :=
 postW_of (r:=l.row.toRowW) (X:=(true==true))
  (show oA [] (.bool true) .bool=true by first|rfl|decide|simp[oA,WShape.arms,WShape.armsAll])
  (show(WTm.eq .res (.lit (.bool true))).value [] {args:=args,res:=some (.bool true),after:=args}=some (.bool (true==true))from w_eq_bool (w_res rfl) w_lit) rfl
theorem attach_call {l:OpenLaw}{n:Nat}{q:aI}{loose:List Str}{XP:(Str->Option af)->bt->Prop}{YP:aR->bt->Prop}{d:DefRec}
  (B:l.most=some n) (p:d.params.defaults=[])
  (call:∀(w:aR) (s₀ b:aj) (mg s:Str->Option af) (g:av) (o:Obj) (pm m c:af) (a:av) (vs:List af) (ns:List Int),
   Ground q loose [] XP w s₀ mg s b.heap->YP w b.heap->
   b.heap.get? g=some o->o.data=.func (docDef d.name d.params d.body d.scope pm m c)->b.heap.CodeRec m d.name->mg d.name=some (.ref g)->
   b.heap.get? a=some {cls:=.type "list",data:=.seq vs.toArray}->ky vs ns->ns.length<=n->b.gens=#[]->
   codeAny (model l.prog w) callerA (.call (.ref g) ⟨[.ref a],[]⟩) (fun r s'=>r=.ok (.ret (.bool true))/\OldK b.heap s'.heap/\s'.os=b.os/\fZ s'.gens) b) :
  WalkO q loose XP YP l.row.toRowW d [] (fun f vs=>mB f vs):=by
 intro w s₀ b mg s G Y g o pm m c C kV D hd u y v E args z as h A F x H
 obtain rfl:C=.none:=Dflts.none y p
 obtain rfl:kV=.none:=Dflts.noKw y
 obtain⟨a,vs,ns,rfl,rfl,i,e,j⟩:=zFl B h x
 refine enter_call (cI (call w s₀ b mg s g o pm m c a vs ns G Y D (fd_plain hd) u v i e j E) fun r s' I=>?_)
 obtain⟨rfl,J,L,M⟩:=I
 exact⟨.inl ⟨.bool true,.bool true,[],rfl,fun _=>rfl,.bool true,zFm l _,fun _=>⟨List.Pairwise.nil,fun _ N=>(nomatch N)⟩⟩,J,L,M⟩
end Att
namespace L2
open PySem PySem.Spec PyProof.Rows
theorem zCG:∀{vs:List af}{ns:List Int},ky vs ns->zF (ns.map V.int) vs
 |_,_,.nil=>.nil
 |_,_,.cons n t h=>.cons ⟨t,rfl⟩ (zCG h)
def zAM (H:Hp):Prop:=∀b,H b=none\/∃o xs,H b=some (.frz o (.lst xs))
theorem zFn {P:aI}{w:aR}{K:ai}{mg E:Str->Option af}{CX:v2}{k:Nat}{G a:av}{fd:bw}{x:Str}{sp:Sp}{c:aj}{vs:List af}{ns:List Int}
  (Q:K.In c.heap) (j:c.heap.Ns mainGlobals mg) (f:c.heap.Ns builtinsNs E) (I:∀x:Str,x≠"__name__"->E x=bootBuiltins x) (l:c.heap.NoLimit) (W:c.gens=#[])
  (D:c.heap.get? a=some {cls:=.type "list",data:=.seq vs.toArray}) (hi:ky vs ns) (hl:ns.length<=sizeLine) (X:Room k callerA)
  (F:∀base:bt,K.In base->base.Ns mainGlobals mg->FnOk P w K mg base CX k G fd [x] sp) (i:∀(s:aj) (u:af),ku s fd ⟨[u],[]⟩ [(x,u)])
  (J:∀H:Hp,zAM H->zV K H a (ns.map V.int)->sp [.ref a] H (fun v _=>v=.bl true) fun _ _ _=>False)
  (L:∀H e s',CX [] H c (fun _ _ _=>False) e s'->False) :
  codeAny (model P w) callerA (.call (.ref G) ⟨[.ref a],[]⟩) (fun r s'=>r=.ok (.ret (.bool true))/\OldK c.heap s'.heap/\s'.os=c.os/\fZ s'.gens) c:=by
 have R:=zCG hi
 have p:=hi.length
 have core:∀H:Hp,zAM H->zV K H a (ns.map V.int)->zR P w H c.heap->(∀b,H b≠none->b=a)->(H a≠none->K.lookup a=none)->
   codeAny (model P w) callerA (.call (.ref G) ⟨[.ref a],[]⟩) (fun r s'=>r=.ok (.ret (.bool true))/\OldK c.heap s'.heap/\s'.os=c.os/\fZ s'.gens) c:=by
  intro H T Y hok U Z
  have base_of:∀{b:av} {o:Obj},c.heap.get? b=some o->H b=none->(uS c.heap H).get? b=some o:=fun e n=>zEP e n
  have M:∀{b:av} {o:Obj} {y:Array DictEntry} {ep:Nat},c.heap.get? b=some o->o.data=.dict y ep->H b=none:=fun{b o y ep} e d=>by
   cases q:H b with
   |none=>rfl
   |some u=>
    have N:b=a:=U b (by rw[q];simp)
    subst N
    rw[D]at e;cases e
    have d':Data.seq vs.toArray _=Data.dict y ep:=d
    cases d'
  have g:∀{b:av} {m:Str->Option af},c.heap.Ns b m->(uS c.heap H).Ns b m:=fun{b m} ⟨o,y,ep,e,d,r⟩=>⟨o,y,ep,base_of e (M e d),d,r⟩
  have A:K.In (uS c.heap H):=fun b o e=>base_of (Q b o e) (by
   cases q:H b with
   |none=>rfl
   |some u=>
    have N:b=a:=U b (by rw[q];simp)
    subst N
    rw[Z (by rw[q];simp)]at e;cases e)
  have hM:Mod K mg (uS c.heap H):=⟨A,g j,⟨E,g f,I⟩,let⟨mc,h1,h2⟩:=l;⟨mc,g h1,h2⟩⟩
  have e0:Env0 P w K mg (uS c.heap H) callerA [] c H:=⟨rfl,hM,fun b o e=>zEQ e,cH (zEO _ _),trivial,fun b f=>absurd (show b∈([]:List av)from f) (by simp),hok,.of_eq W⟩
  refine cI ((F _ A (g j)).run callerA [] c H ⟨[.ref a],[]⟩ [.ref a] [.ref a] _ _ X e0 (i c (.ref a)) (.cons rfl .nil) (J H T Y)) fun r s' h=>?_
  cases r with
  |error e=>exact(L H e s' h).elim
  |ok fl=>
   cases fl with
   |next=>exact dW h
   |brk=>exact dW h
   |cont=>exact dW h
   |ret u=>
    obtain⟨v,H',os,bare,un,B,r',q⟩:=h
    have q':v=.bl true:=q
    subst q'
    obtain rfl:u=Value.bool true:=r'
    refine⟨rfl,OldK.of_keep fun b o e=>?_,os,bare⟩
    cases q:H b with
    |none=>exact un.keep b o e q (by intro z;exact absurd (show b∈([]:List av)from z) (by simp)) (by simp)
    |some u=>
     rcases T b with z|⟨ob,xs,z⟩
     ·rw[q]at z;cases z
     ·have z2:=un.frzs b ob _ z
      obtain⟨e1,_⟩:=hok b _ z
      obtain⟨e2,_⟩:=B b _ z2
      rw[e]at e1;cases e1
      exact e2
 cases O:K.lookup a with
 |some o=>
  have e:=Q a o O
  rw[D]at e
  cases e
  refine core (fun _=>none) (fun _=>.inl rfl) (.inr ⟨_,vs.toArray,_,O,rfl,rfl,rfl,by rw[aY,p];exact hl,by simpa using R⟩) (fun b u z=>by have C:(none:Option HO)=some u:=z;cases C) (fun b z=>absurd rfl z) fun z=>absurd rfl z
 |none=>
  refine core (fun b=>if b=a then some (.frz {cls:=.type "list",data:=.seq vs.toArray} (.lst (ns.map V.int)))else none) (fun b=>?_) (.inl (.inr ⟨{cls:=.type "list",data:=.seq vs.toArray},if_pos rfl⟩)) (fun b u z=>?_) (fun b z=>?_) fun _=>O
  ·by_cases f:b=a
   ·exact .inr ⟨_,_,if_pos f⟩
   ·exact .inl (if_neg f)
  ·by_cases f:b=a
   ·have C:=(if_pos f).symm.trans z
    cases C
    subst f
    exact⟨D,by rw[ak];exact hl,vs,_,R,D⟩
   ·have C:=(if_neg f).symm.trans z
    cases C
  ·by_cases f:b=a
   ·exact f
   ·exact absurd (if_neg f) z
theorem zFo {l:iF}{n k:Nat}{q:aI}{loose:List Str}{XP:(Str->Option af)->bt->Prop}{YP:aR->bt->Prop}{d:DefRec}{K:mq->ai}{CX:aR->v2}{sp:aR->Sp}{x:Str}
  (C:l.most=some n) (p:n<=sizeLine) (r:d.params.defaults=[]) (D:Room k callerA)
  (E:∀(w:aR) (h:bt),YP w h->(K w.params).In h)
  (F:∀(w:aR) (mg:Str->Option af) (m:av) (h:bt),(K w.params).In h->h.Ns mainGlobals mg->mg d.name=some (.ref m)->
   ∃fd:bw,(∀(s:aj) (u:af),ku s fd ⟨[u],[]⟩ [(x,u)])/\
    ∀base:bt,(K w.params).In base->base.Ns mainGlobals mg->FnOk l.prog w (K w.params) mg base (CX w) k m fd [x] (sp w))
  (y:∀(w:aR) (H:Hp) (a:av) (ns:List Int),ns.length<=n->zAM H->zV (K w.params) H a (ns.map V.int)->sp w [.ref a] H (fun v _=>v=.bl true) fun _ _ _=>False)
  (z:∀(w:aR) (H:Hp) (s:aj) (e:af) (s':aj),CX w [] H s (fun _ _ _=>False) e s'->False) :
  nA q loose XP YP l.row.toRowW d [] (fun f vs=>mB f vs):=by
 refine Att.attach_call C r fun w s₀ I mg R m o pm U J a vs ns G Y W hd L A j i c M=>?_
 have B:=E w _ Y
 obtain⟨fd,N,O⟩:=F w mg m _ B G.T.g A
 exact zFn B G.T.g G.T.b G.T.builtins G.T.nolimit M j i (cm c p) D O N (fun H P Q=>y w H a ns c P Q) fun H e s'=>z w H I e s'
abbrev z6:v2:=fun _ _ _ _ _ _=>False
abbrev E0:XK:=fun _ _ _=>False
theorem zFp {X:Cx}:zAC z6 X E0:=fun _ _ _ _ _ _ _ h=>h.elim
structure Fun (K:ai) (x qual:Str) (st:dB) (f:av) (fd:bw):Prop where
 ex:∃(oc:af) (od:Option av) (kV doc pm:af) (an:Option av) (cdv ct:af) (osl:Array (Option af)),
  fd=cS x qual (defArgs st) (defBody st) (defScope st) .none kV doc pm an cdv ct/\K.lookup f=some ⟨oc,od,.func fd,osl⟩/\eV K cdv qual=true
 kp:dJ K (.ref f)=true
section
variable{P:aI}{w:aR}{K:ai}{mg:Str->Option af}{base:bt}
theorem Fun.ok {x a:Str}{st:dB}{f:av}{fd:bw}{N d:List Str}{k:Nat}{sp:Sp}(F:Fun K x a st f fd)(S:FnScope N d (defScope st))(len:∀vs H Q E,sp vs H Q E->vs.length=d.length)
  (c:∀(b:af) (A:bF) (outer:List Env) (s:aj) (H:Hp) (vs:List V) (Q:VK) (E:XK),Room k (A.deeper (envOfC a (defScope st) s.heap.objs.size f b))->sp vs H Q E->
   ∃t,v1 (qZ z6 P w K mg base N a (defScope st) f b A outer s H E).nox (defBody st) t/\t {nx:=fun _ H'=>Q .non H',rt:=Q} (qB N vs) H):FnOk P w K mg base z6 (k+1) f fd d sp:=by
 obtain⟨n,od,kV,i,pm,o,b,ct,j,rfl,l,e⟩:=F.ex
 refine zFH l e S len fun A outer s H vs Q E m g=>?_
 obtain⟨t,h,q⟩:=c b A outer s H vs Q E m g
 exact⟨t,h.nox,q⟩
theorem Fun.binds {x a:Str}{st:dB}{f:av}{fd:bw}{d:List Str}(F:Fun K x a st f fd)
  (h:∀(kV b pm:af) (e:Option av) (c ct:af) (g:List af),g.length=d.length->bindArgs (cS x a (defArgs st) (defBody st) (defScope st) .none kV b pm e c ct) ⟨g,[]⟩=pure (d.zip g)):qA K fd d []:=by
 obtain⟨l,od,kV,b,pm,e,c,ct,i,rfl,m,j⟩:=F.ex
 exact .all (h kV b pm e c ct)
theorem zAN {x a:Str}{st:dB}{f:av}{h:af}{od g:Option av}{e:Array (Option af)}{kV d pm b ct:af}(l:K.lookup f=some ⟨h,od,.func (cS x a (defArgs st) (defBody st) (defScope st) .none kV d pm g b ct),e⟩)
  (c:eV K b a=true) (k:dJ K (.ref f)=true):Fun K x a st f (cS x a (defArgs st) (defBody st) (defScope st) .none kV d pm g b ct):=⟨⟨h,od,kV,d,pm,g,b,ct,e,rfl,l,c⟩,k⟩
end
theorem k5 {A:bF}{k:Nat}(a:Room k A):A.units+1<cLine:=Nat.lt_of_le_of_lt (Nat.add_le_add_left (by decide:1<=64) _) a.units
section
variable{X:Cx}
theorem pv (i:Nat){x:Str}{pos:Pos}(b:X.N[i]?=some x:=by rfl)(c:gZ X.env.scope x:=by first|exact Or.inl rfl|exact Or.inr (Or.inl rfl)|exact Or.inr (Or.inr rfl))(hd:(x==("__debug__" : Str))=false:=by decide)
  (a:(x==("__classdict__" : Str))=false:=by decide):PE X (.Name x pos) (qR i):=zEU b c hd a
end
theorem vU {A B:Prop}(h:B):if false=true then A else B:=by
 rw[if_neg bc]
 exact h
theorem zCH {A B:Prop}(h:A):if true=true then A else B:=by
 rw[if_pos rfl]
 exact h
theorem jC {c A B:Prop} [Decidable c] (a:c)(h:B):if(!decide c)=true then A else B:=by
 rw[decide_eq_true a]
 exact vU h
def zA (H H':Hp):Prop:=∀b o,H b=some o->H' b=some o
theorem zA.refl (H:Hp):zA H H:=fun _ _ h=>h
theorem zA.trans {H d e:Hp}(a:zA H d)(b:zA d e):zA H e:=fun c o h=>b c o (a c o h)
theorem zA.free {H H':Hp}(e:zA H H'){l:av}(h:H' l=Option.none):H l=Option.none:=by
 cases q:H l with
 |none=>rfl
 |some o=>
  rw[e l o q]at h
  cases h
theorem zA.seq {K:ai}{H H':Hp}{a:av}{xs:List V}(e:zA H H')(h:zV K H a xs):zV K H' a xs:=by
 rcases h with(h|⟨o,h⟩)|h
 ·exact .inl (.inl (e _ _ h))
 ·exact .inl (.inr ⟨o,e _ _ h⟩)
 ·exact .inr h
end L2
end
section
namespace L2
open PySem
section
variable{env:Env}
theorem zAO:∀(l:List (Str×fN)) (d:List (Str×av)),(∀x∈l,x.2=.free->∃c,env.cells.lookup x.1=some c)->(∀x c,d.lookup x=some c->env.cells.lookup x=some c)->
  ∃f,(forIn l d (fun x r=>if(x.2==NameKind.free)=true then do let a<-cellOf env x.1;pure (ForInStep.yield ((x.1,a)::r))else pure (ForInStep.yield r)):Sem (List (Str×av)))=pure f/\
   (∀x c,f.lookup x=some c->env.cells.lookup x=some c)/\∀x,((x,NameKind.free)∈l\/∃c,d.lookup x=some c)->∃c,f.lookup x=some c
 | [],d,_,j=>⟨d,rfl,j,fun x h=>h.elim (fun z=>by cases z) id⟩
 |(n,k)::l,d,h,j=>by
  have hl:∀x∈l,x.2=.free->∃c,env.cells.lookup x.1=some c:=fun x b=>h x (au _ b)
  rw[iG]
  by_cases m:k=.free
  ·subst m
   obtain⟨c,s⟩:=h (n,.free) (ao ..) rfl
   obtain⟨f,e,o,p⟩:=zAO l ((n,c)::d) hl fun x q z=>by
    by_cases b:x=n
    ·subst b
     rw[d7]at z
     cases z;exact s
    ·have g:(x==n)=false:=by simpa using b
     rw[bz,g]at z
     exact j x q z
   refine⟨f,?_,o,fun x b=>p x ?_⟩
   ·have u:cellOf env n=pure c:=by unfold cellOf;rw[s]
    simp only[beq_self_eq_true,if_true,u,pure_bind]
    exact e
   ·rcases b with b|⟨q,b⟩
    ·rcases aE.mp b with b|b
     ·have:x=n:=(bE b).1
      subst this
      exact .inr ⟨c,d7⟩
     ·exact .inl b
    ·by_cases i:x=n
     ·subst i;exact .inr ⟨c,d7⟩
     ·have g:(x==n)=false:=by simpa using i
      exact .inr ⟨q,by rw[bz,g];exact b⟩
  ·obtain⟨f,e,o,p⟩:=zAO l d hl j
   have v:(k==NameKind.free)=false:=by simpa using m
   refine⟨f,?_,o,fun x b=>p x ?_⟩
   ·simp only[v,aX,if_false,pure_bind]
    exact e
   ·rcases b with b|b
    ·rcases aE.mp b with b|b
     ·exact absurd (bE b).2.symm m
     ·exact .inl b
    ·exact .inr b
theorem zCI {scope:ef}(h:∀x∈scope.names,x.2=.free->∃c,env.cells.lookup x.1=some c) :
  ∃a,closureFor scope env=pure a/\(∀x c,a.lookup x=some c->env.cells.lookup x=some c)/\∀x,(x,NameKind.free)∈scope.names->∃c,a.lookup x=some c:=by
 obtain⟨a,e,b,d⟩:=zAO scope.names [] h (fun x c z=>by simp at z)
 refine⟨a,?_,b,fun x f=>d x (.inl f)⟩
 unfold closureFor
 dsimp only
 refine Eq.trans (congrArg (· >>=pure) ?_) (Eq.trans (congrArg (· >>=pure) e) (by simp))
 rfl
end
section
variable{prog:aI}{w:aR}{A:bF}{R:iY->aj->Prop}{s:aj}
theorem zCJ {a target iter:bV}{b:List bV}{scope:ef}{pos:Pos}{g d:af}{env:Env}(J:Nat->aj->Prop)
  (e:∀n s,J n s->wpAny (model prog w) A (pyNext g) (fun r i=>match r with
   |none=>R (.ok .next) i
   |some v=>wpAny (model prog w) A (letOwnedTupleGo target g v) (fun _ l=>wpAny (model prog w) A (assign target env v) (fun _ o=>
     wpAny (model prog w) A (forIn b true fun c r=>if r=true then do let ok<-isTrue c env (eval c env);pure (ForInStep.yield ok)else pure (ForInStep.yield r)) (fun ok j=>
      if ok=true then wpAny (model prog w) A (eval a env) (fun x p=>wpAny (model prog w) A (call (.builtin "list.append") [d,x]) (fun _ u=>∃m,m<n/\J m u) (fun _ _=>False) p) (fun _ _=>False) j
      else∃m,m<n/\J m j) (fun _ _=>False) o) (fun _ _=>False) l) (fun _ _=>False) i) (fun _ _=>False) s)
  (n:Nat) (h:J n s):codeAny (model prog w) A (.compLoop (.ListComp a [⟨target,iter,b,0⟩] scope pos) 0 g d env) R s:=by
 refine codeAny_loop rfl J (fun n s B=>?_) n h
 show wpAny _ A ((compTurn (.ListComp a [⟨target,iter,b,0⟩] scope pos) 0 g d env).onRaise (fun x=>noteFrame x env>>=fun _=>theTreesLotGoes x)) _ _ s
 refine wpAny_noted ?_
 have no:∀{α:Type} {t:Sem α} {Q:α->aj->Prop} {E:af->aj->Prop} {s:aj},wpAny (model prog w) A t Q (fun _ _=>False) s->wpAny (model prog w) A t Q E s:=fun h=>bZ h (fun _ _ q=>q) fun _ _ f=>f.elim
 rw[compTurn_list]
 refine aa (nB (aa (no (bZ (e n s B) (fun r i y=>?_) fun _ _ f=>f))))
 cases r with
 |none=>exact ag y
 |some v=>
  refine aa (no (bZ y (fun _ l C=>?_) fun _ _ f=>f))
  refine aa (no (bZ C (fun _ o D=>?_) fun _ _ f=>f))
  refine aa (no (bZ D (fun ok j z=>?_) fun _ _ f=>f))
  cases ok with
  |false=>exact ag ⟨rfl,z⟩
  |true=>
   refine aa (aa (no (bZ z (fun x p F=>?_) fun _ _ f=>f)))
   exact aa (no (bZ F (fun _ u G=>ag (ag ⟨rfl,G⟩)) fun _ _ f=>f))
end
end L2
end
section
namespace L2
open PySem PySem.Spec PyProof.Rows
theorem zR.track {P:aI}{w:aR}{H:Hp}{h:bt}{a:av}{o:HO}(x:zR P w H h)(d:H a=none)(new:zZ P w (upd H a o) h a o):zR P w (upd H a o) h:=fun b u e=>by
 by_cases f:b=a
 ·subst f;rw[zH]at e;cases e;exact new
 ·rw[zQ f]at e
  refine(x b u e).stay (fun c v _ q=>q) (fun c q=>?_) fun c xs q=>?_
  ·rw[zQ (y9 q d)];exact q
  ·rw[zQ (y9 q d)];exact q
theorem zR.but {P:aI}{w:aR}{H:Hp}{h h':bt}{C:av}(x:zR P w H h)(a:H C=none)(k:∀b u,b≠C->h.get? b=some u->h'.get? b=some u):zR P w H h':=fun b u e=>by
 refine(x b u e).stay (fun c v d q=>k c v ?_ q) (fun _ q=>q) fun _ _ q=>q
 rintro rfl
 rcases d with z|z
 ·rw[z,e]at a;cases a
 ·rw[z]at a;cases a
theorem zCK {env:Env}:∀{names:List (Str×fN)}{x:Str},names.lookup x=some .free->
  (names.map fun(n,k)=>if(k==NameKind.free&&env.scope.kind== .function&&env.kindOf n==some .cell)then(n,NameKind.cell)else(n,k)).lookup x=some .cell\/
  (names.map fun(n,k)=>if(k==NameKind.free&&env.scope.kind== .function&&env.kindOf n==some .cell)then(n,NameKind.cell)else(n,k)).lookup x=some .free
 | [],_,h=>by simp at h
 |(n,k)::r,x,h=>by
  rw[aM]
  cases a:x==n with
  |true=>
   rw[bz,a]at h
   cases h
   dsimp only
   split
   ·left;rw[bz,a]
   ·right;rw[bz,a]
  |false=>
   rw[bz,a]at h
   have ih:=zCK (env:=env) h
   dsimp only
   split
   ·rw[bz,a];exact ih
   ·rw[bz,a];exact ih
theorem zCL {env:Env}:∀{names:List (Str×fN)}{x:Str}{a:fN},(a=.cell\/a=.free)->
  (names.map fun(n,k)=>if(k==NameKind.free&&env.scope.kind== .function&&env.kindOf n==some .cell)then(n,NameKind.cell)else(n,k)).lookup x=some a->∃k,(x,k)∈names/\(k=.cell\/k=.free)
 | [],_,_,_,h=>by simp at h
 |(n,k)::r,x,a,c,h=>by
  rw[aM]at h
  cases b:x==n with
  |true=>
   have e:x=n:=by simpa using b
   subst e
   dsimp only at h
   split at h
   ·rename_i d
    have:k=.free:=by
     rw[cG,cG]at d
     simpa using d.1.1
    exact⟨k,ao ..,.inr this⟩
   ·rw[bz,b]at h
    cases h
    exact⟨k,ao ..,c⟩
  |false=>
   have h':(r.map fun(n,k)=>if(k==NameKind.free&&env.scope.kind== .function&&env.kindOf n==some .cell)then(n,NameKind.cell)else(n,k)).lookup x=some a:=by
    dsimp only at h
    split at h
    ·rw[bz,b]at h;exact h
    ·rw[bz,b]at h;exact h
   obtain⟨f,g,i⟩:=zCL (env:=env) c h'
   exact⟨f,au _ g,i⟩
def z8 (X:Cx)(N:List Str)(scope:ef)(cl:List (Str×av))(C:av)(s:aj)(H:Hp)(ex:List av):Cx where
 prog:=X.prog
 w:=X.w
 K:=X.K
 mg:=X.mg
 base:=X.base
 A:=X.A
 N:=N
 s₀:=s
 H₀:=H
 env:=compEnvC scope cl C X.env
 outer:=X.stack
 stack:=X.stack
 ex:=ex
 fn:=fun _=>false
 calm:=X.calm
 pn:=[]
 xe:=fun _ _=>False
structure CompScope (sc:ef) (XN N:List Str) (scope:ef) (caps:List Nat):Prop where
 kind:scope.kind=.function
 nd:N.Nodup
 nocell:∀y∈scope.names,y.2≠.cell
 names:∀y∈scope.names,y.2=.local->scope.names.lookup y.1=some .local
 free:∀y∈scope.names,y.2=.free->sc.names.lookup y.1=some .cell\/sc.names.lookup y.1=some .free
 cap:∀(i:Nat),i<caps.length->∃x,N[i]?=some x/\XN[caps.getD i 0]?=some x/\scope.names.lookup x=some .free/\(sc.names.lookup x=some .cell\/sc.names.lookup x=some .free)
 len:caps.length<=N.length
def uE (caps:List Nat)(n:Nat)(σ:St):St:=caps.map (fun j=>(σ[j]?).join)++cB (n-caps.length) none
def PF (X:Cx)(ifs:List bV)(tc:TT):Prop :=
 ∀(pins:List (av×Obj)) (s:aj) (σ:St) (H:Hp) (Q:Bool->Hp->Prop),Inv X pins σ H s->tc σ H Q->
  wpAny (model X.prog X.w) X.A (forIn ifs true fun c r=>if r=true then do let ok<-isTrue c X.env (eval c X.env);pure (ForInStep.yield ok)else pure (ForInStep.yield r)) (TP X pins σ Q) X.xe s
def k6:TT:=fun _ H Q=>Q true H
theorem v3 {X:Cx}:PF X [] k6:=fun a s σ H Q I h=>by
 rw[mC]
 exact ag ⟨H,I,h⟩
theorem j3 {X:Cx}{c:bV}{b:TT}(d:PT X c b):PF X [c] b:=fun a s σ H Q I h=>by
 rw[iG]
 refine aa ?_
 rw[if_pos rfl]
 refine aa (zG (d a s σ H Q I h) fun ok e q=>ag ?_)
 show wpAny _ _ (forIn [] ok _) _ _ _
 rw[mC]
 exact ag q
def zCM (wi:TI)(g:TG)(tc:TT)(te:TE)(caps:List Nat)(n:Nat):TE:=fun σ H Q=>wi σ H fun J H1=>∃W:Nat->Nat->List V->St->Hp->Prop,(∃m,W 0 m [] (uE caps n σ) H1)/\∀i m acc σ' H',W i m acc σ' H'->
 (J.stop i H'/\∀D,H' D=none->Q (.ref D) (upd H' D (.lst acc)))\/
 (J.go i H'/\acc.length<sizeLine/\∀x H2,J.yld i H' x H2->g x σ' H2 fun σ2 H3=>tc σ2 H3 fun b H4=>if b=true then te σ2 H4 fun y H5=>∃m',m'<m/\W (i+1) m' (acc++[y]) σ2 H5 else∃m',m'<m/\W (i+1) m' acc σ2 H4)
section
variable{X:Cx}{pins:List (av×Obj)}{σ:St}{H:Hp}{s:aj}{N:List Str}{scope:ef}{cl:List (Str×av)}{C:av}{fp:List av}{caps:List Nat}
theorem zCN (I:Inv X pins σ H s)(S:CompScope X.env.scope X.N N scope caps)(g:∀x c,cl.lookup x=some c->X.env.cells.lookup x=some c)(n:∀x,(x,NameKind.free)∈scope.names->∃c,cl.lookup x=some c)
  (l:s.heap.objs.size<=C) (h:∀b∈fp,uC X pins H b) (i:∀b∈fp,b<s.heap.objs.size):(z8 X N scope cl C s H fp).Ok where
 mod:=I.ok.mod
 kind:=S.kind
 glob:=I.ok.glob
 blt:=I.ok.blt
 above:=l
 inj:=fun x y c a b=>I.ok.inj x y c (g x c a) (g y c b)
 has:=fun x p=>by
  have j:∃f,(f=NameKind.cell\/f=.free)/\(relabel scope X.env).names.lookup x=some f:=by
   rcases p with z|z
   ·exact⟨_,.inl rfl,z⟩
   ·exact⟨_,.inr rfl,z⟩
  obtain⟨f,q,z⟩:=j
  obtain⟨k,m,e⟩:=zCL q z
  rcases e with e|e
  ·exact absurd e (S.nocell _ m)
  ·subst e;exact n x m
 cab:=fun x c z=>by cases z
 hd:=I.ok.hd
 frames:=I.ok.frames
 stk:=.inl rfl
 exf:=fun b d=>by
  obtain⟨_,_,_,_,r,_⟩:=h b d
  exact⟨aG (bb (i b d) l),fun x c e=>r x c (g x c e)⟩
 bs:=I.bs
 bsz:=cm I.ok.bsz I.sz
 noex:=fun b o e d=>by
  obtain⟨_,_,_,u,_⟩:=h b d
  rcases u with z|z
  ·exact I.ok.noex b o e z
  ·exact absurd (bb (aA e) (cm I.ok.bsz z)) (bG _)
 exfs:=fun b d z=>by
  obtain⟨_,f1,f2,_⟩:=h b d
  rcases aE.mp (I.stkSub b z)with e|e
  ·exact f1 e
  ·exact f2 e
 funs:=I.stack
 frf:=I.stkFree
theorem zCO {j:bt}{D:av}{od:Obj}{t:Nat}{m:Str->Option af}(I:Inv X pins σ H s)(ok:(z8 X N scope cl C s H fp).Ok)(S:CompScope X.env.scope X.N N scope caps)
  (g:∀x c,cl.lookup x=some c->X.env.cells.lookup x=some c) (n:∀x,(x,NameKind.free)∈scope.names->∃c,cl.lookup x=some c)
  (keep:∀b o,s.heap.get? b=some o->j.get? b=some o) (P:j.Ns C m) (Q:s.heap.objs.size<=C) (R:j.get? D=some od) (w:s.heap.objs.size<=D) (B:D≠C) (E:∀v,od.data≠.cell v) :
  Inv (z8 X N scope cl C s H fp) [(D,od)] (uE caps N.length σ) H {s with heap:=j,toks:=t}:=by
 have a:∀x c,cl.lookup x=some c->∀v,s.heap.IsCell c v->j.IsCell c v:=fun x c e v ⟨o,F,hd⟩=>⟨o,keep c o F,hd⟩
 refine⟨ok,rfl,I.bare,Un.kept keep,⟨m,P,fun i x v e1 f e3=>?_⟩,fun x c e=>?_,I.hok.fresh Q,fun x c e=>I.freeC x c (g x c e),fun p T=>?_,I.hok.kept keep,?_⟩
 ·have hi:i<caps.length:=by
   by_cases hi:i<caps.length
   ·exact hi
   ·exfalso
    unfold uE at f
    rw[c7 (by simpa using hi),gj]at f
    split at f<;>cases f
  obtain⟨y,U,W,L,M⟩:=S.cap i hi
  have G:x=y:=by
   have A:N[i]?=some x:=e1
   rw[U]at A;exact(aH A).symm
  subst G
  have Y:σ[caps.getD i 0]?=some (some v):=by
   unfold uE at f
   rw[dm (by simpa using hi),az]at f
   have:caps[i]?=some (caps.getD i 0):=by rw[bQ];simp[hi]
   rw[this]at f
   have d:(σ[caps.getD i 0]?).join=some v:=by simpa using f
   cases q:σ[caps.getD i 0]? with
   |none=>rw[q]at d;cases d
   |some z=>rw[q]at d;have:z=some v:=d;rw[this]
  obtain⟨m',_,hl⟩:=I.loc
  obtain⟨u,r,l⟩:=hl _ x v W Y (M.elim (fun z=>.inr (.inl z)) fun z=>.inr (.inr z))
  refine⟨u,r,?_⟩
  have nl:X.env.kindOf x≠some .local:=by
   rcases M with z|z
   ·show X.env.scope.names.lookup x≠_;rw[z];decide
   ·show X.env.scope.names.lookup x≠_;rw[z];decide
  rcases l with⟨k,_⟩|⟨_,c,Z,z⟩
  ·exact absurd k nl
  ·obtain⟨O,h⟩:=n x (cQ L)
   have:c=O:=aH (Z.symm.trans (g x O h))
   subst this
   refine .inr ⟨?_,c,h,a x c h _ z⟩
   exact zCK (env:=X.env) L
 ·obtain⟨v,z⟩:=I.cell x c (g x c e)
  exact⟨v,a x c e v z⟩
 ·have:p=(D,od):=by
   have J:p∈[(D,od)]:=T
   simpa using J
  subst this
  refine⟨R,I.hok.fresh w,B,fun z=>?_,E⟩
  have z':D∈vA X.stack:=z
  obtain⟨_,o,F,_⟩:=I.stack.mem z'
  exact absurd (bb (aA F) w) (bG _)
 ·unfold uE
  show _=N.length
  rw[aD,ak,iK]
  have:=S.len
  omega
end
section
variable{X:Cx}
theorem vL {tg iter elt:bV}{ifs:List bV}{scope:ef}{pos:Pos}{wi:TI}{g:TG}{tc:TT}{te:TE}{N:List Str}{caps:List Nat}(hc:X.calm=true)(S:CompScope X.env.scope X.N N scope caps)
  (hi:PI X tg iter wi) (hg:∀cl C s H ex,PG (z8 X N scope cl C s H ex) tg g) (hf:∀cl C s H ex,PF (z8 X N scope cl C s H ex) ifs tc) (he:∀cl C s H ex,PE (z8 X N scope cl C s H ex) elt te)
  (hs:∀x,foldedSetIterable iter X.env x=pure x:=by intro _;rfl):PE X (.ListComp elt [⟨tg,iter,ifs,0⟩] scope pos) (zCM wi g tc te caps N.length):=by
 intro pins s σ H Q I h
 obtain⟨cl,hcl,hcl1,hcl2⟩:=zCI (env:=X.env) (scope:=scope) fun y hy e=>I.ok.has y.1 (S.free y hy e)
 rw[eval_ListComp]
 refine gf (use:=none) rfl hs hcl S.kind S.names (zG (hi pins s σ H _ I h) fun v s1 h1=>zG h1 fun itv s2 h2=>?_)
 obtain⟨it,fp,tn,J,H2,e,I2,T,st2,f2,W,⟨m0,w0⟩,turn⟩:=h2
 subst e
 refine bC (i8 S.nocell (by intro y hy;simp at hy) (fun h₁ hns hsb=>?_) S.kind)
 dsimp only at hns hsb⊢
 generalize hG:s2.heap.push {cls:=.type "list",dict:=none,data:=.seq ([]:List af).toArray}=G at hns hsb⊢
 have hCs:G.objs.size=s2.heap.objs.size+1:=by rw[<-hG,aT]
 have hDC:s2.heap.objs.size≠G.objs.size:=by rw[hCs];exact aG (bB _)
 have old:∀b o,s2.heap.get? b=some o->h₁.get? b=some o:=fun b o e=>by
  have hb:=aA e
  refine hsb.extBut b o (by rw[hCs];exact aG (aZ hb)) (ae _ ?_)
  rw[<-hG]
  exact ae _ e
 have hD:h₁.get? s2.heap.objs.size=some {cls:=.type "list",dict:=none,data:=.seq ([]:List af).toArray}:=by
  refine hsb.extBut _ _ hDC (ae _ ?_)
  rw[<-hG]
  exact aw _ rfl
 have hfo:∀b∈fp,b<s2.heap.objs.size:=fun b hb=>let⟨o,e,_⟩:=T.obj 0 _ st2 b hb;aA e
 have hCle:s2.heap.objs.size<=G.objs.size:=by omega
 have ok:=zCN (C:=G.objs.size) I2 S hcl1 hcl2 hCle f2 hfo
 have I0:Inv (z8 X N scope cl G.objs.size s2 H2 fp) [(s2.heap.objs.size,{cls:=.type "list",dict:=none,data:=.seq ([]:List af).toArray})] (uE caps N.length σ) H2 {s2 with heap:=h₁,toks:=s2.toks+([]:List (Str×af)).length} :=
  zCO I2 ok S hcl1 hcl2 old hns hCle hD (ay _) hDC (fun v z=>by cases z)
 have st1:tn 0 h₁:=T.keep 0 _ _ st2 fun b _ o e=>old b o e
 generalize hX:z8 X N scope cl G.objs.size s2 H2 fp=X' at I0
 generalize hDa:s2.heap.objs.size=D at I0 hD hDC
 have loop:codeAny (model X.prog X.w) X.A (.compLoop (.ListComp elt [⟨tg,iter,ifs,0⟩] scope pos) 0 (.ref it) (.ref D) (compEnvC scope cl G.objs.size X.env)) (compPost (model X.prog X.w) X.A X.xe none (EP X pins σ Q) (.ref D) G.objs.size)
   {s2 with heap:=h₁,toks:=s2.toks+([]:List (Str×af)).length}:=by
  subst hX
  refine zCJ (J:=fun n s'=>∃i σ' H' acc its e,Inv (z8 X N scope cl G.objs.size s2 H2 fp) [(D,{cls:=.type "list",data:=.seq (eB its) e})] σ' H' s'/\zF acc its/\acc.length<=sizeLine/\tn i s'.heap/\(∀b∈fp,H' b=none)/\W i n acc σ' H')
   ?_ m0 ⟨0,_,H2,[],[],0,I0,.nil,bH _,st1,fun b hb=>(f2 b hb).1,w0⟩
  rintro n s3 ⟨i,σ3,H3,acc,its,ep,I3,rv,hz,st3,fr3,w3⟩
  have stat:∀{H':Hp} {pl:List (av×Obj)},(∀b∈fp,H' b=none)->(∀p∈pl,p.1=D)->∀b∈fp,uC (z8 X N scope cl G.objs.size s2 H2 fp) pl H' b:=fun{H' pl} hn hpl b hb=>by
   obtain⟨a1,a2⟩:=ok.exf b hb
   exact⟨hn b hb,a1,ok.exfs b hb,.inl hb,fun x c e=>a2 x c e,fun p hp=>by
    have hp':p∈pl:=hp
    rw[hpl p hp',<-hDa]
    exact cT (hfo b hb)⟩
  have one:∀p∈[(D,({cls:=.type "list",data:=.seq (eB its) ep}:Obj))],p.1=D:=fun p hp=>by
   rcases aE.mp hp with e|e
   ·rw[e]
   ·cases e
  have pinD:∀{pl:List (av×Obj)} {σ':St} {H':Hp} {s':aj} {o:Obj},Inv (z8 X N scope cl G.objs.size s2 H2 fp) pl σ' H' s'->(D,o)∈pl->s'.heap.get? D=some o/\H' D=none:=fun{pl σ' H' s' o} I' hm=>by
   obtain⟨a,b,_⟩:=I'.pin (D,o) (aP _ hm)
   exact⟨a,b⟩
  rcases turn i n acc σ3 H3 w3 with⟨stop,q⟩|⟨go,hlt,step⟩
  ·refine bZ (T.done (z8 X N scope cl G.objs.size s2 H2 fp) rfl rfl rfl hc i _ s3 σ3 H3 (fun _ _=>False) I3 (stat fr3 one) st3 stop) (fun r s4 ⟨hr,I4⟩=>?_) fun _ _ f=>f
   subst hr
   obtain⟨hDo,hDn⟩:=pinD I4 (ao ..)
   obtain⟨m4,hm4,_⟩:=I4.loc
   refine⟨m4,hm4,fun h' hsb'=>?_⟩
   have keepC:∀b u,b≠G.objs.size->s4.heap.get? b=some u->h'.get? b=some u:=fun b u hb e=>hsb'.extBut b u hb e
   have un:Un (vA X.stack) fp H2 H3 s2.heap s4.heap:=I4.base
   have hDo':h'.get? D=some {cls:=.type "list",data:=.seq (eB its) ep}:=keepC D _ hDC hDo
   have hlow:∀b (o:Obj),s2.heap.get? b=some o->b≠G.objs.size/\b≠D:=fun b o e=>by
    have h0:=aA e
    exact⟨by rw[hCs];exact aG (aZ h0),by rw[<-hDa];exact aG h0⟩
   have un':Un (vA X.stack) fp H2 (upd H3 D (.lst acc)) s2.heap h' :=
    ⟨fun b o e n' hb hx=>keepC b o (hlow b o e).1 (un.keep b o e n' hb hx),
     fun b o e n' hb hx=>let⟨sl,q⟩:=un.slot b o e n' hb hx;⟨sl,keepC b _ (hlow b o e).1 q⟩,
     fun b o e n' hx=>by rw[zQ (hlow b o e).2];exact un.free b o e n' hx,
     fun b o e hx=>let⟨o',q⟩:=un.there b o e hx;⟨o',keepC b _ (hlow b o e).1 q⟩,
     fun b xs e=>by rw[zQ (y9 (un.tups b xs e) hDn)];exact un.tups b xs e,
     fun b o u e=>by rw[zQ (y9 (un.frzs b o u e) hDn)];exact un.frzs b o u e,
     fun b ps e=>let⟨mo,q⟩:=un.tbls b ps e;⟨mo,by rw[zQ (y9 q hDn)];exact q⟩⟩
   have hok:zR X.prog X.w (upd H3 D (.lst acc)) h':=(I4.hok.but I4.free keepC).track hDn ⟨hz,its,ep,rv,hDo'⟩
   refine⟨.ref D,upd H3 D (.lst acc),I2.call' (s':={s4 with heap:=h'}) I4.os un' hok I4.bare (fun b hb=>?_),rfl,q D hDn⟩
   obtain⟨_,f1,_,f3,f4,f5⟩:=f2 b hb
   exact⟨f3,f1,f4,f5⟩
  ·refine bZ (T.item (z8 X N scope cl G.objs.size s2 H2 fp) rfl rfl rfl hc i _ s3 σ3 H3 (fun _ _=>False) I3 (stat fr3 one) st3 go) (fun r s4 ⟨u,hr,h4⟩=>?_) fun _ _ f=>f
   subst hr
   refine zG h4 fun _ s5 ⟨x,H5,I5,r5,y5,st5,fr5⟩=>?_
   have I5':=I5.pinned (stat fr5 one) (T.obj _ _ st5)
   refine zG (hg cl G.objs.size s2 H2 fp _ s5 σ3 H5 x u _ I5' r5 (step x H5 y5)) fun _ s6 ⟨σ6,H6,I6,q6⟩=>?_
   refine zG (hf cl G.objs.size s2 H2 fp _ s6 σ6 H6 _ I6 q6) fun b s7 ⟨H7,I7,q7⟩=>?_
   have fin:∀{pl:List (av×Obj)} {σ':St} {H':Hp} {s':aj},Inv (z8 X N scope cl G.objs.size s2 H2 fp) (pl++qV fp s5.heap) σ' H' s'->tn (i+1) s'.heap/\∀b∈fp,H' b=none:=fun{pl σ' H' s'} I'=>by
    refine⟨T.keep _ _ _ st5 fun b hb o e=>(I'.pin (b,o) (aP _ (aP _ (qJ hb e)))).1,fun b hb=>?_⟩
    obtain⟨o,e,_⟩:=T.obj _ _ st5 b hb
    exact(I'.pin (b,o) (aP _ (aP _ (qJ hb e)))).2.1
   cases b with
   |false=>
    rw[if_neg bc]at q7⊢
    obtain⟨m',hm,w7⟩:=q7
    obtain⟨a1,a2⟩:=fin I7
    exact⟨m',hm,i+1,σ6,H7,acc,its,ep,I7.unpinned,rv,hz,a1,a2,w7⟩
   |true=>
    rw[if_pos rfl]at q7⊢
    refine zG (he cl G.objs.size s2 H2 fp _ s7 σ6 H7 _ I7 q7) fun y s8 ⟨yv,H8,I8,r8,m',hm,w8⟩=>?_
    obtain⟨a1,a2⟩:=fin I8
    obtain⟨b1,b2⟩:=pinD I8 (bU _ (ao ..))
    have hl:=rv.length
    refine mD kc ⟨_,b1,rfl⟩ jl (i9 _ _) (lg D its.toArray ep y (by rw[aY];omega)) ⟨b1,?_⟩
    have q9:=lM b1 (·.push y)
    have kp:∀b o,b≠D->s8.heap.get? b=some o->(s8.heap.update D (cn (·.push y))).get? b=some o:=fun b o hb e=>(bq s8.heap (cn (·.push y)) (dg hb)).trans e
    have I9:Inv (z8 X N scope cl G.objs.size s2 H2 fp) [] σ6 H8 {s8 with heap:=s8.heap.update D (cn (·.push y))} :=
     (I8.pins_of (pins':=[]) fun p hp=>by cases hp).turned (t':=s8.toks) kp b2 hDC (.inr (by rw[<-hDa];exact ay _)) (fun x c e z=>by
      have e':X.env.cells.lookup x=some c:=hcl1 x c e
      obtain⟨v',hv'⟩:=I2.cell x c e'
      have h0:=hv'.lt
      rw[z,<-hDa]at h0
      exact bG _ h0) fun p hp=>by
       have:p∈([]:List (av×Obj)):=hp
       cases this
    have hpu:its.toArray.push y=(its++[y]).toArray:=by simp
    rw[hpu]at q9
    obtain⟨e9,q9⟩:∃e9,(s8.heap.update D (cn (·.push y))).get? D=some {cls:=.type "list",data:=.seq (its++[y]).toArray e9}:=⟨_,q9⟩
    refine⟨m',hm,i+1,σ6,H8,acc++[yv],its++[y],e9,I9.pins_of fun p hp=>?_,rv.append (.cons r8 .nil),?_,T.keep _ _ _ a1 fun b hb o e=>kp b o ?_ e,a2,w8⟩
    ·obtain rfl:p=(D,{cls:=.type "list",data:=.seq (its++[y]).toArray e9}):=by
      rcases aE.mp hp with e|e
      ·exact e
      ·cases e
     obtain⟨_,_,c3,c4,_⟩:=I8.pin (D,_) (aP _ (bU _ (ao ..)))
     exact⟨q9,b2,c3,c4,fun v z=>by cases z⟩
    ·rw[aD,fj];omega
    ·rintro rfl
     have h0:=hfo b hb
     rw[hDa]at h0
     exact bG _ h0
 exact ie loop (T.self X.A 0 _ _ _ st1 loop)
end
theorem zA.seqT {K:ai}{H H':Hp}{a:av}{xs:List V}(e:zA H H')(h:zW K H a xs):zW K H' a xs:=by
 rcases h with(h|⟨o,h⟩)|h
 ·exact .inl (.inl (e _ _ h))
 ·exact .inl (.inr ⟨o,e _ _ h⟩)
 ·exact .inr h
mutual
def yJ (K:ai)(H:Hp):dk->V->Prop
 | .none,v=>v=.non
 | .bool b,v=>v=.bl b
 | .int i,v=>v=.int i
 | .str x,v=>v=.str x
 | .list ds,v=>∃a xs,v=.ref a/\zV K H a xs/\Reps K H ds xs
 | .tuple ds,v=>∃a xs,v=.ref a/\zW K H a xs/\Reps K H ds xs
 | .dict _,_=>False
def Reps (K:ai)(H:Hp):List dk->List V->Prop
 | [],xs=>xs=[]
 |d::ds,xs=>∃y ys,xs=y::ys/\yJ K H d y/\Reps K H ds ys
end
mutual
theorem yJ.same {K:ai}{H H':Hp}(e:zA H H'):∀(d:dk) (v:V),yJ K H d v->yJ K H' d v
 | .none,v,h=>h
 | .bool b,v,h=>h
 | .int i,v,h=>h
 | .str x,v,h=>h
 | .list c,v,h=>by
  obtain⟨a,xs,f,g,j⟩:=h
  exact⟨a,xs,f,e.seq g,Reps.same e c xs j⟩
 | .tuple c,v,h=>by
  obtain⟨a,xs,f,g,j⟩:=h
  exact⟨a,xs,f,e.seqT g,Reps.same e c xs j⟩
 | .dict _,v,h=>h
theorem Reps.same {K:ai}{H H':Hp}(e:zA H H'):∀(a:List dk) (xs:List V),Reps K H a xs->Reps K H' a xs
 | [],xs,h=>h
 |d::a,xs,h=>by
  obtain⟨y,b,c,f,g⟩:=h
  exact⟨y,b,c,yJ.same e d y f,Reps.same e a b g⟩
end
theorem Reps.length {K:ai}{H:Hp}:∀{a:List dk}{xs:List V},Reps K H a xs->a.length=xs.length
 | [],xs,h=>by rw[show xs=[]from h];rfl
 |d::a,xs,h=>by
  obtain⟨y,e,b,_,c⟩:=h
  rw[b,bf,bf,Reps.length c]
theorem Reps.get {K:ai}{H:Hp}:∀{a:List dk}{xs:List V}{i:Nat}{y:V},Reps K H a xs->xs[i]?=some y->∃d,a[i]?=some d/\yJ K H d y
 | [],xs,i,y,h,e=>by rw[show xs=[]from h]at e;simp at e
 |d::a,xs,i,y,h,e=>by
  obtain⟨z,j,b,c,f⟩:=h
  subst b
  cases i with
  |zero=>
   have:z=y:=by simpa using e
   subst this
   exact⟨d,rfl,c⟩
  |succ i=>
   obtain⟨d',e1,g⟩:=Reps.get (i:=i) f (by simpa using e)
   exact⟨d',by simpa using e1,g⟩
theorem Reps.append {K:ai}{H:Hp}:∀{c b:List dk}{xs a:List V},Reps K H c xs->Reps K H b a->Reps K H (c++b) (xs++a)
 | [],b,xs,a,h,h'=>by rw[show xs=[]from h];exact h'
 |d::c,b,xs,a,h,h'=>by
  obtain⟨z,e,f,g,i⟩:=h
  subst f
  exact⟨z,e++a,rfl,g,Reps.append i h'⟩
theorem Reps.one {K:ai}{H:Hp}{d:dk}{v:V}(h:yJ K H d v):Reps K H [d] [v]:=⟨v,[],rfl,h,rfl⟩
theorem Reps.drop {K:ai}{H:Hp}:∀{a:List dk}{xs:List V} (k:Nat),Reps K H a xs->Reps K H (a.drop k) (xs.drop k)
 | [],xs,k,h=>by rw[show xs=[]from h];simp[Reps]
 |d::a,xs,0,h=>h
 |d::a,xs,k+1,h=>by
  obtain⟨z,e,b,_,c⟩:=h
  subst b
  exact Reps.drop k c
theorem Reps.take {K:ai}{H:Hp}:∀{a:List dk}{xs:List V} (k:Nat),Reps K H a xs->Reps K H (a.take k) (xs.take k)
 | [],xs,k,h=>by rw[show xs=[]from h];simp[Reps]
 |d::a,xs,0,h=>by simp[Reps]
 |d::a,xs,k+1,h=>by
  obtain⟨z,b,c,e,f⟩:=h
  subst c
  exact⟨z,b.take k,rfl,e,Reps.take k f⟩
theorem Reps.strs {K:ai}{H:Hp}:∀{a:List Str}{xs:List V},Reps K H (a.map PyData.str) xs↔xs=a.map V.str
 | [],xs=>Iff.rfl
 |s::a,xs=>by
  constructor
  ·rintro⟨y,g,c,d,f⟩
   have b:y=.str s:=d
   rw[c,b,Reps.strs.mp f];rfl
  ·intro e
   exact⟨.str s,a.map V.str,e,rfl,Reps.strs.mpr rfl⟩
section
variable{X:Cx}{pins:List (av×Obj)}{σ:St}{H:Hp}{s:aj}
mutual
theorem yJ.reads (I:Inv X pins σ H s):∀(d:dk) (v:V) (u:af),yJ X.K H d v->zI v u->∃as,Reads s.heap u d as
 | .none,v,u,h,r=>by
  have h':v=.non:=h
  subst h'
  cases r
  exact⟨_,.none⟩
 | .bool b,v,u,h,r=>by
  have h':v=.bl b:=h
  subst h'
  cases r
  exact⟨_,.bool b⟩
 | .int i,v,u,h,r=>by
  have h':v=.int i:=h
  subst h'
  obtain⟨t,rfl⟩:=r
  exact⟨_,.int i t⟩
 | .str x,v,u,h,r=>by
  have h':v=.str x:=h
  subst h'
  obtain⟨t,rfl⟩:=r
  exact⟨_,.str x t⟩
 | .list c,v,u,h,r=>by
  obtain⟨a,xs,f,g,j⟩:=h
  subst f
  cases r
  obtain⟨its,l,⟨o,n,e,m,_,hd⟩,_⟩:=I.list g
  obtain⟨as,p⟩:=Reps.reads I c xs its j l
  exact⟨_,.list e m hd (by simpa using p)⟩
 | .tuple c,v,u,h,r=>by
  obtain⟨a,xs,f,g,j⟩:=h
  subst f
  cases r
  obtain⟨its,l,⟨o,e,m,n,hd⟩,_⟩:=I.tuple g
  obtain⟨as,p⟩:=Reps.reads I c xs its j l
  exact⟨_,.tuple e m hd (by simpa using p)⟩
 | .dict _,v,u,h,r=>h.elim
theorem Reps.reads (I:Inv X pins σ H s):∀(a:List dk) (xs:List V) (b:List af),Reps X.K H a xs->zF xs b->∃as,ReadsAll s.heap b a as
 | [],xs,b,h,r=>by
  have h':xs=[]:=h
  subst h'
  cases r
  exact⟨_,.nil⟩
 |d::a,xs,b,h,r=>by
  obtain⟨y,c,e,f,g⟩:=h
  subst e
  cases r with
  |cons i j=>
   obtain⟨as,l⟩:=yJ.reads I d y _ f i
   obtain⟨bs,m⟩:=Reps.reads I a c _ g j
   exact⟨_,.cons l m⟩
end
def zAP (K:ai)(neg:Bool):R2:=fun x y H Q=>∃d e,yJ K H d x/\yJ K H e y/\cV d=true/\cV e=true/\Q (.bl (if neg=true then !PyData.eqv d e else eN d e)) H
theorem k7 (hu:X.A.units+64<cLine):z4 X (compareOp .Eq) (zAP X.K false):=by
 intro pins s σ H x y v u Q I a b h
 obtain⟨d,e,c,f,g,i,q⟩:=h
 obtain⟨as,j⟩:=yJ.reads I d x v c a
 obtain⟨bs,l⟩:=yJ.reads I e y u f b
 exact eq_dataH j l g i hu ⟨.bl _,H,I,rfl,q⟩
theorem j4 (hu:X.A.units+64<cLine):z4 X (compareOp .NotEq) (zAP X.K true):=by
 intro pins s σ H x y v u Q I a b h
 obtain⟨d,e,c,f,g,i,q⟩:=h
 obtain⟨as,j⟩:=yJ.reads I d x v c a
 obtain⟨bs,l⟩:=yJ.reads I e y u f b
 exact ne_dataH j l g i hu ⟨.bl _,H,I,rfl,q⟩
end
mutual
theorem zCP:∀d:dk,d.canLay0=true->eN d d=true
 | .none,_=>rfl
 | .bool b,_=>by simp[eN]
 | .int i,_=>by simp[eN]
 | .str x,_=>by simp[eN]
 | .list a,h=>by
  have h':bx a=true:=by simpa [cD]using h
  simp only[eN];exact eqvAll_refl a h'
 | .tuple a,h=>by
  have h':bx a=true:=by simpa [cD]using h
  simp only[eN];exact eqvAll_refl a h'
 | .dict _,h=>by simp[cD]at h
theorem eqvAll_refl:∀a:List dk,bx a=true->nC a a=true
 | [],_=>rfl
 |d::a,h=>by
  have h':d.canLay0=true/\bx a=true:=by simpa [bx]using h
  simp only[nC,zCP d h'.1,eqvAll_refl a h'.2,d5]
end
end L2
end
section
open PySem PySem.W PyProof.Rows
namespace MyS
def ev {α:Type}(lt:Nat->Nat->Bool):KasT α->α
 | .ret a=>a
 | .ask i j k=>ev lt (k (lt i j))
theorem jD {α β:Type}(lt:Nat->Nat->Bool)(f:α->KasT β):∀t:KasT α,ev lt (t.bind f)=ev lt (f (ev lt t))
 | .ret _=>rfl
 | .ask i j k=>jD lt f (k (lt i j))
def yX {α:Type}(lt:Nat->Nat->Bool)(N:Nat):KasT α->Prop
 | .ret _=>True
 | .ask i j k=>i<N/\j<N/\i≠j/\yX lt N (k (lt i j))
theorem jE {α β:Type}{lt:Nat->Nat->Bool}{N:Nat}{f:α->KasT β}:∀(t:KasT α),yX lt N t->yX lt N (f (ev lt t))->yX lt N (t.bind f)
 | .ret _,_,h=>h
 | .ask i j k,h,h'=>⟨h.1,h.2.1,h.2.2.1,jE (k (lt i j)) h.2.2.2 h'⟩
structure TotalOn (lt:Nat->Nat->Bool) (n:Nat):Prop where
 irr:∀i,i<n->lt i i=false
 tr:∀i j k,i<n->j<n->k<n->lt i j=true->lt j k=true->lt i k=true
 tot:∀i j,i<n->j<n->i≠j->lt i j=true\/lt j i=true
abbrev gg (p:Array Nat)(i:Nat):Nat:=p.getD i 0
def Pm (p:Array Nat)(n:Nat):Prop:=p.toList.Perm (aS n)
theorem Pm.size {p:Array Nat}{n:Nat}(h:Pm p n):p.size=n:=by
 have:=ou h
 simpa using this
theorem j5 {p:Array Nat}{i:Nat}(h:i<p.size):gg p i=p[i]:=by simp[gg,Array.getD,h]
theorem Pm.lt {p:Array Nat}{n i:Nat}(h:Pm p n)(hi:i<n):gg p i<n:=by
 have a:i<p.size:=by rw[h.size];exact hi
 have b:p[i]∈aS n:=(oF h).mp (by simp)
 rw[j5 a]
 exact bp.mp b
theorem Pm.ne {p:Array Nat}{n i j:Nat}(h:Pm p n)(hi:i<n)(d:j<n)(c:i≠j):gg p i≠gg p j:=by
 have a:i<p.size:=by rw[h.size];exact hi
 have b:j<p.size:=by rw[h.size];exact d
 have nd:p.toList.Nodup:=(ox h).mpr List.nodup_range
 rw[j5 a,j5 b]
 intro e
 apply c
 have f:p.toList[i]'(by simpa using a)=p.toList[j]'(by simpa using b):=by simpa using e
 exact(cY nd).mp f
theorem Pm.perm {p q:Array Nat}{n:Nat}(h:Pm p n)(e:q.Perm p):Pm q n:=(Array.perm_iff_toList_perm.mp e).trans h
def Up (lt:Nat->Nat->Bool)(p:Array Nat)(k:Nat):Prop:=∀i j,i<j->j<k->lt (gg p i) (gg p j)=true
def Dn (lt:Nat->Nat->Bool)(p:Array Nat)(k:Nat):Prop:=∀i j,i<j->j<k->lt (gg p j) (gg p i)=true
section
variable{lt:Nat->Nat->Bool}{N:Nat}{p:Array Nat}
theorem TotalOn.flip (O:TotalOn lt N){i j:Nat}(hi:i<N)(b:j<N)(a:i≠j)(h:lt i j=false):lt j i=true:=by
 rcases O.tot i j hi b a with h'|h'
 ·rw[h]at h';cases h'
 ·exact h'
theorem Up.more (O:TotalOn lt N)(P:Pm p N){n:Nat}(d:1<=n)(b:n<N)(u:Up lt p n)(h:lt (gg p (n-1)) (gg p n)=true):Up lt p (n+1):=by
 intro i j a f
 by_cases e:j=n
 ·subst e
  by_cases c:i=j-1
  ·subst c;exact h
  ·exact O.tr _ _ _ (P.lt (by omega)) (P.lt (by omega)) (P.lt b) (u i (j-1) (by omega) (by omega)) h
 ·exact u i j a (by omega)
theorem Dn.more (O:TotalOn lt N)(P:Pm p N){n:Nat}(d:1<=n)(b:n<N)(u:Dn lt p n)(h:lt (gg p n) (gg p (n-1))=true):Dn lt p (n+1):=by
 intro i j a f
 by_cases e:j=n
 ·subst e
  by_cases c:i=j-1
  ·subst c;exact h
  ·exact O.tr _ _ _ (P.lt b) (P.lt (by omega)) (P.lt (by omega)) h (u i (j-1) (by omega) (by omega))
 ·exact u i j a (by omega)
theorem zCQ:Up lt p 1:=fun i j a b=>by omega
theorem k8 (O:TotalOn lt N)(P:Pm p N):∀(f n:Nat),1<=n->n+f<=N->Up lt p n->
  n<=ev lt (eY p f n)/\ev lt (eY p f n)<=n+f/\Up lt p (ev lt (eY p f n))/\(ev lt (eY p f n)<n+f->lt (gg p (ev lt (eY p f n))) (gg p (ev lt (eY p f n)-1))=true)
 |0,n,_,_,u=>⟨ay _,ay _,u,fun h=>absurd h (bG _)⟩
 |f+1,n,a,i,u=>by
  have e:ev lt (eY p (f+1) n)=ev lt (if lt (gg p n) (gg p (n-1))=true then KasT.ret n else eY p f (n+1)):=rfl
  rw[e]
  cases c:lt (gg p n) (gg p (n-1))with
  |true=>
   rw[if_pos rfl]
   exact⟨ay _,Nat.le_add_right _ _,u,fun _=>c⟩
  |false=>
   rw[if_neg (by simp)]
   have b:=O.flip (P.lt (by omega)) (P.lt (by omega)) (P.ne (by omega) (by omega) (by omega)) c
   obtain⟨j,l,d,g⟩:=k8 O P f (n+1) (by omega) (by omega) (u.more O P a (by omega) b)
   exact⟨by omega,by omega,d,fun h=>g (by omega)⟩
theorem zAQ (P:Pm p N):∀(f n:Nat),1<=n->n+f<=N->yX lt N (eY p f n)
 |0,n,_,_=>trivial
 |f+1,n,a,b=>by
  refine⟨P.lt (by omega),P.lt (by omega),P.ne (by omega) (by omega) (by omega),?_⟩
  show yX lt N (if lt (gg p n) (gg p (n-1))=true then KasT.ret n else eY p f (n+1))
  split
  ·trivial
  ·exact zAQ P f (n+1) (by omega) (by omega)
theorem zCR (O:TotalOn lt N)(P:Pm p N):∀(f n:Nat),1<=n->n+f<=N->yX lt N (dO f p n 0)
 |0,n,_,_=>trivial
 |f+1,n,b,e=>by
  refine⟨P.lt (by omega),P.lt (by omega),P.ne (by omega) (by omega) (by omega),?_⟩
  show yX lt N (if lt (gg p n) (gg p (n-1))=true then(if 0>0 then dO f (ig p (n- (0+1)) n) (n+1) 0 else dO f p (n+1) 0)
   else .ask (gg p (n-1)) (gg p n) fun d=>if d=true then .ret (p,n,0)else dO f p (n+1) (0+1))
  cases c:lt (gg p n) (gg p (n-1))with
  |true=>
   rw[if_pos rfl,if_neg (by omega)]
   exact zCR O P f (n+1) (by omega) (by omega)
  |false=>
   rw[if_neg (by simp)]
   have a:=O.flip (P.lt (by omega)) (P.lt (by omega)) (P.ne (by omega) (by omega) (by omega)) c
   refine⟨P.lt (by omega),P.lt (by omega),P.ne (by omega) (by omega) (by omega),?_⟩
   show yX lt N (if lt (gg p (n-1)) (gg p n)=true then KasT.ret (p,n,0)else dO f p (n+1) (0+1))
   rw[a,if_pos rfl]
   trivial
theorem zAR (O:TotalOn lt N)(P:Pm p N):∀(f n:Nat),1<=n->n+f<=N->Dn lt p n->
  ∃m,ev lt (dO f p n 0)=(p,m,0)/\n<=m/\m<=n+f/\Dn lt p m
 |0,n,_,_,u=>⟨n,rfl,ay _,ay _,u⟩
 |f+1,n,a,j,u=>by
  have e:ev lt (dO (f+1) p n 0)=ev lt (if lt (gg p n) (gg p (n-1))=true then(if 0>0 then dO f (ig p (n- (0+1)) n) (n+1) 0 else dO f p (n+1) 0)
   else .ask (gg p (n-1)) (gg p n) fun d=>if d=true then .ret (p,n,0)else dO f p (n+1) (0+1)):=rfl
  rw[e]
  cases c:lt (gg p n) (gg p (n-1))with
  |true=>
   rw[if_pos rfl,if_neg (by omega)]
   obtain⟨m,b,l,o,g⟩:=zAR O P f (n+1) (by omega) (by omega) (u.more O P a (by omega) c)
   exact⟨m,b,by omega,by omega,g⟩
  |false=>
   rw[if_neg (by simp)]
   have h:=O.flip (P.lt (by omega)) (P.lt (by omega)) (P.ne (by omega) (by omega) (by omega)) c
   have i:ev lt (.ask (gg p (n-1)) (gg p n) fun d=>if d=true then KasT.ret (p,n,0)else dO f p (n+1) (0+1))=ev lt (if lt (gg p (n-1)) (gg p n)=true then KasT.ret (p,n,0)else dO f p (n+1) (0+1)):=rfl
   rw[i,h,if_pos rfl]
   exact⟨n,rfl,ay _,by omega,u⟩
theorem zCS {m k:Nat}(b:m<=p.size):gg (ig p 0 m) k=if k<m then gg p (m-1-k)else gg p k:=by
 have e:=getElem?_mirror_all (i:=0) b k
 have a:∀(q:Array Nat) (x:Nat),gg q x=(q[x]?).getD 0:=fun q x=>by simp[gg]
 rw[a,a,a]
 show((mirror p 0 m ((m-0)/2))[k]?).getD 0=_
 rw[e]
 by_cases h:k<m
 ·rw[if_pos ⟨bH _,h⟩,if_pos h]
  simp
 ·rw[if_neg (fun z=>h z.2),if_neg h]
theorem zFq (P:Pm p N){m:Nat}(b:m<=N)(d:Dn lt p m):Up lt (ig p 0 m) m:=by
 intro i j c e
 have a:m<=p.size:=by rw[P.size];exact b
 rw[zCS a,zCS a,if_pos (by omega),if_pos e]
 exact d _ _ (by omega) (by omega)
theorem zAS (P:Pm p N)(i j:Nat):Pm (ig p i j) N:=P.perm (mirror_perm p i j _)
theorem zCT (O:TotalOn lt N)(P:Pm p N)(x:2<=N):∃m q,ev lt (lN N p)=(m,q)/\1<=m/\m<=N/\Pm q N/\Up lt q m:=by
 obtain⟨b,h,a,f⟩:=k8 O P (N-1) 1 (ay _) (by omega) zCQ
 unfold lN
 rw[jD]
 generalize y:ev lt (eY p (N-1) 1)=n at b h a f
 by_cases e1:(n==N)=true
 ·rw[if_pos e1]
  exact⟨n,p,rfl,b,by omega,P,a⟩
 ·rw[if_neg e1]
  have l:n≠N:=by simpa using e1
  by_cases g:n>1
  ·rw[if_pos g]
   have c:lt (gg p 0) (gg p (n-1))=true:=a 0 (n-1) (by omega) (by omega)
   have o:ev lt (KasT.ask (p.getD 0 0) (p.getD (n-1) 0) fun c=>if c=true then KasT.ret (n,p)else fH n N (ig p 0 n))=ev lt (if lt (gg p 0) (gg p (n-1))=true then KasT.ret (n,p)else fH n N (ig p 0 n)):=rfl
   rw[o,c,if_pos rfl]
   exact⟨n,p,rfl,b,by omega,P,a⟩
  ·rw[if_neg g]
   have e:n=1:=by omega
   subst e
   have c:=f (by omega)
   have r:Dn lt p 2:=fun i j s z=>by
    have:i=0:=by omega
    have:j=1:=by omega
    subst i;subst j;exact c
   obtain⟨m,u,A,B,v⟩:=zAR O P (N-2) 2 (by omega) (by omega) r
   unfold fH
   rw[jD]
   have d:ev lt (dO (N- (1+1)) p (1+1) 0)=(p,m,0):=u
   rw[d]
   dsimp only
   rw[if_neg (by omega)]
   unfold kas_tail3
   rw[jD]
   obtain⟨C,D,w,_⟩:=k8 O (zAS P 0 m) (N-m) m (by omega) (by omega) (zFq P (by omega) v)
   exact⟨_,_,rfl,by omega,by omega,zAS P 0 m,w⟩
theorem zFr (O:TotalOn lt N)(P:Pm p N)(s:2<=N):yX lt N (lN N p):=by
 obtain⟨g,h,b,d⟩:=k8 O P (N-1) 1 (ay _) (by omega) zCQ
 unfold lN
 refine jE _ (zAQ P _ _ (ay _) (by omega)) ?_
 generalize u:ev lt (eY p (N-1) 1)=n at g h b d
 by_cases e1:(n==N)=true
 ·rw[if_pos e1];trivial
 ·rw[if_neg e1]
  have l:n≠N:=by simpa using e1
  by_cases f:n>1
  ·rw[if_pos f]
   have c:lt (gg p 0) (gg p (n-1))=true:=b 0 (n-1) (by omega) (by omega)
   refine⟨P.lt (by omega),P.lt (by omega),P.ne (by omega) (by omega) (by omega),?_⟩
   show yX lt N (if lt (gg p 0) (gg p (n-1))=true then KasT.ret (n,p)else fH n N (ig p 0 n))
   rw[c,if_pos rfl]
   trivial
  ·rw[if_neg f]
   have e:n=1:=by omega
   subst e
   have c:=d (by omega)
   have o:Dn lt p 2:=fun i j q v=>by
    have:i=0:=by omega
    have:j=1:=by omega
    subst i;subst j;exact c
   obtain⟨m,r,w,x,y⟩:=zAR O P (N-2) 2 (by omega) (by omega) o
   unfold fH
   refine jE _ (zCR O P _ _ (by omega) (by omega)) ?_
   have a:ev lt (dO (N- (1+1)) p (1+1) 0)=(p,m,0):=r
   rw[a]
   dsimp only
   rw[if_neg (by omega)]
   unfold kas_tail3
   exact jE _ (zAQ (zAS P 0 m) _ _ (by omega) (by omega)) trivial
theorem zAT (P:Pm p N){k:Nat}(b:k<N):∀(f l r:Nat),r<=k->yX lt N (cq p k f l r)
 |0,l,r,_=>trivial
 |f+1,l,r,h=>by
  show yX lt N (if l>=r then KasT.ret l else .ask (p.getD k 0) (p.getD ((l+r)/2) 0) fun c=>if c=true then cq p k f l ((l+r)/2)else cq p k f ((l+r)/2+1) r)
  by_cases a:l>=r
  ·rw[if_pos a];trivial
  ·rw[if_neg a]
   refine⟨P.lt b,P.lt (by omega),P.ne b (by omega) (by omega),?_⟩
   show yX lt N (if lt (gg p k) (gg p ((l+r)/2))=true then cq p k f l ((l+r)/2)else cq p k f ((l+r)/2+1) r)
   split
   ·exact zAT P b f l _ (by omega)
   ·exact zAT P b f _ r h
theorem zAU (O:TotalOn lt N)(P:Pm p N){k:Nat}(d:k<N)(u:Up lt p k):∀(f l r:Nat),l<=r->r<=k->r-l<=f->(∀i,i<l->lt (gg p i) (gg p k)=true)->(∀i,r<=i->i<k->lt (gg p k) (gg p i)=true)->
  ev lt (cq p k f l r)<=k/\(∀i,i<ev lt (cq p k f l r)->lt (gg p i) (gg p k)=true)/\∀i,ev lt (cq p k f l r)<=i->i<k->lt (gg p k) (gg p i)=true
 |0,l,r,q,h,s,a,b=>by
  have:l=r:=by omega
  subst this
  exact⟨h,a,b⟩
 |f+1,l,r,q,h,s,a,b=>by
  have e:ev lt (cq p k (f+1) l r)=ev lt (if l>=r then KasT.ret l else .ask (p.getD k 0) (p.getD ((l+r)/2) 0) fun c=>if c=true then cq p k f l ((l+r)/2)else cq p k f ((l+r)/2+1) r):=rfl
  rw[e]
  by_cases g:l>=r
  ·rw[if_pos g]
   have:l=r:=by omega
   subst this
   exact⟨h,a,b⟩
  ·rw[if_neg g]
   have v:ev lt (KasT.ask (p.getD k 0) (p.getD ((l+r)/2) 0) fun c=>if c=true then cq p k f l ((l+r)/2)else cq p k f ((l+r)/2+1) r)=ev lt (if lt (gg p k) (gg p ((l+r)/2))=true then cq p k f l ((l+r)/2)else cq p k f ((l+r)/2+1) r):=rfl
   rw[v]
   generalize x:(l+r)/2=m
   have w:l<=m:=by omega
   have y:m<r:=by omega
   cases c:lt (gg p k) (gg p m)with
   |true=>
    rw[if_pos rfl]
    refine zAU O P d u f l m w (by omega) (by omega) a fun i hi j=>?_
    by_cases n:i=m
    ·subst n;exact c
    ·exact O.tr _ _ _ (P.lt d) (P.lt (by omega)) (P.lt (by omega)) c (u m i (by omega) j)
   |false=>
    rw[if_neg (by simp)]
    have o:=O.flip (P.lt d) (P.lt (by omega)) (P.ne d (by omega) (by omega)) c
    refine zAU O P d u f (m+1) r (by omega) h (by omega) (fun i hi=>?_) b
    by_cases n:i=m
    ·subst n;exact o
    ·exact O.tr _ _ _ (P.lt (by omega)) (P.lt (by omega)) (P.lt d) (u i m (by omega) (by omega)) o
theorem zCU {k d x:Nat}(b:k<p.size)(hd:d<=k):gg (bubble p k d) x=if x=k-d then gg p k else if k-d<x/\x<=k then gg p (x-1)else gg p x:=by
 have e:=getElem?_bubble b d hd x
 have a:∀(q:Array Nat) (x:Nat),gg q x=(q[x]?).getD 0:=fun q x=>by simp[gg]
 rw[a,a,a,a,e]
 split
 ·rfl
 ·split<;>rfl
theorem zCV (O:TotalOn lt N):∀(f:Nat) (p:Array Nat) (k:Nat),Pm p N->k+f=N->Up lt p k->Pm (ev lt (lh f p k)) N/\Up lt (ev lt (lh f p k)) N
 |0,p,k,P,e,u=>by
  have:k=N:=by omega
  subst this
  exact⟨P,u⟩
 |f+1,p,k,P,e,u=>by
  have e1:lh (f+1) p k=(cq p k k 0 k).bind fun l=>lh f (bubble p k (k-l)) (k+1):=rfl
  rw[e1,jD]
  have g:k<N:=by omega
  obtain⟨r,h,m⟩:=zAU O P g u k 0 k (bH _) (ay _) (by omega) (fun i hi=>by omega) (fun i a b=>by omega)
  generalize ev lt (cq p k k 0 k)=l at r h m
  have n:k<p.size:=by rw[P.size];exact g
  refine zCV O f _ (k+1) (P.perm (bubble_perm p k _)) (by omega) fun i j c s=>?_
  rw[zCU n (by omega),zCU n (by omega)]
  have d:k- (k-l)=l:=by omega
  rw[d]
  by_cases a:i=l
  ·rw[if_pos a,if_neg (by omega),if_pos (by omega)]
   exact m _ (by omega) (by omega)
  ·rw[if_neg a]
   by_cases b:l<i/\i<=k
   ·rw[if_pos b,if_neg (by omega),if_pos (by omega)]
    exact u _ _ (by omega) (by omega)
   ·rw[if_neg b]
    by_cases o:j=l
    ·rw[if_pos o]
     exact h i (by omega)
    ·rw[if_neg o]
     by_cases q:l<j/\j<=k
     ·rw[if_pos q]
      by_cases v:i=j-1
      ·omega
      ·exact u _ _ (by omega) (by omega)
     ·rw[if_neg q]
      exact u _ _ c (by omega)
theorem zCW (O:TotalOn lt N):∀(f:Nat) (p:Array Nat) (k:Nat),Pm p N->k+f=N->yX lt N (lh f p k)
 |0,p,k,P,e=>trivial
 |f+1,p,k,P,e=>by
  show yX lt N ((cq p k k 0 k).bind fun l=>lh f (bubble p k (k-l)) (k+1))
  exact jE _ (zAT P (by omega) _ _ _ (ay _)) (zCW O f _ (k+1) (P.perm (bubble_perm p k _)) (by omega))
theorem zFs (O:TotalOn lt N)(a:2<=N):yX lt N (ll N):=by
 have b:Pm (eB (aS N)) N:=cM _
 obtain⟨m,q,e,g,h,d,i⟩:=zCT O b a
 unfold ll
 refine jE _ (zFr O b a) ?_
 rw[e]
 dsimp only
 by_cases c:m<N
 ·rw[if_pos c]
  have f:max m 1=m:=by omega
  rw[f]
  exact zCW O (N-m) q m d (by omega)
 ·rw[if_neg c];trivial
theorem zFt (O:TotalOn lt N)(d:2<=N):Pm (ev lt (ll N)) N/\Up lt (ev lt (ll N)) N:=by
 have f:Pm (eB (aS N)) N:=cM _
 obtain⟨m,q,e,h,i,a,b⟩:=zCT O f d
 unfold ll
 rw[jD,e]
 dsimp only
 by_cases c:m<N
 ·rw[if_pos c]
  have g:max m 1=m:=by omega
  rw[g]
  exact zCV O (N-m) q m a (by omega) b
 ·rw[if_neg c]
  have:m=N:=by omega
  subst this
  exact⟨a,b⟩
end
end MyS
end
section
namespace MyS
open PySem PySem.W PyProof.Rows PySem.Spec
theorem zCX {α:Type}{N:Nat}{cmp:Nat->Nat->(Bool->aj->Prop)->aj->Prop}{lt:Nat->Nat->Bool}{s:aj}(b:∀i j,i<N->j<N->i≠j->∀C,C (lt i j) s->cmp i j C s) :
  ∀(t:KasT α) (Q:α->aj->Prop),yX lt N t->Q (ev lt t) s->t.kasWp cmp Q s
 | .ret a,Q,_,h=>h
 | .ask i j k,Q,o,h=>b i j o.1 o.2.1 o.2.2.1 _ (zCX b (k (lt i j)) Q o.2.2.2 h)
def keyAt (ks:List Str)(i:Nat):List Nat:=(ks.getD i ⟨#[]⟩).cps.toList
def uU (ks:List Str)(i j:Nat):Bool:=decide (keyAt ks i<keyAt ks j)
theorem Str_ext {a b:Str}(h:a.cps.toList=b.cps.toList):a=b:=by
 cases a;cases b
 congr 1
 exact eu.mp h
theorem zFu (a b:List Nat)(e:¬a<b)(f:¬b<a):a=b:=by
 have c:b<=a:=oj.mp e
 have d:a<=b:=oj.mp f
 exact List.le_antisymm d c
theorem zFv {ks:List Str}(nd:ks.Nodup):TotalOn (uU ks) ks.length where
 irr:=fun i _=>by simp[uU,mE]
 tr:=fun i j k _ _ _ a b=>by
  simp only[uU,decide_eq_true_eq]at*
  exact nD a b
 tot:=fun i j hi f c=>by
  simp only[uU,decide_eq_true_eq]
  by_cases a:keyAt ks i<keyAt ks j
  ·exact .inl a
  ·by_cases b:keyAt ks j<keyAt ks i
   ·exact .inr b
   ·exfalso
    have e:=zFu _ _ a b
    unfold keyAt at e
    have d:=Str_ext e
    have e1:ks.getD i ⟨#[]⟩=ks[i]:=by simp[hi]
    have g:ks.getD j ⟨#[]⟩=ks[j]:=by simp[f]
    rw[e1,g]at d
    exact c ((cY nd).mp d)
def qD (h:bt)(a:av)(v:af)(k:Str):Prop:=∃b o t x n,v=Value.ref b/\b≠a/\h.get? b=some o/\o.cls=.type "tuple"/\o.data=.seq #[.str k t,x] n
theorem qD.keep {h h':bt}{a:av}{v:af}{k:Str}(p:qD h a v k)(e:∀b o,b≠a->h.get? b=some o->h'.get? b=some o):qD h' a v k:=by
 obtain⟨b,o,t,x,n,d,c,f,g⟩:=p
 exact⟨b,o,t,x,n,d,c,e b o c f,g⟩
section
variable{prog:aI}{w:aR}{A:bF}{E:af->aj->Prop}{s:aj}
theorem zFw {v u:af}{k l:Str}{a:av}{C:Bool->aj->Prop}(g:qD s.heap a v k)(hu:qD s.heap a u l)(e:k≠l)(h:C (decide (k.cps.toList<l.cps.toList)) s) :
  wpAny (model prog w) A (keyLt' (tuples' true) v u) C E s:=by
 obtain⟨b,o,t,x,n,i,z,j,B,m⟩:=g
 obtain⟨D,F,t',G,H,c,p,d,r,f⟩:=hu
 subst i;subst c
 refine kat_lt j m d f ?_
 have y:(k==l)=false:=by simpa using e
 have q:=oB (A:=A) (s:=s) k t l t'
 rw[y]at q
 refine kat_cons (q prog w _ _ (kat_no ?_))
 exact nE prog w A _ s (.str k t) (.str l t') k.cps.toList l.cps.toList rfl rfl h
theorem zCY {κ:SortKind}{a:av}{vs:List af}{ks:List Str}{n:Nat}{P:lO->aj->Prop}(B:s.heap.get? a=some (seqObj "list" vs.toArray n))(hl:ks.length=vs.length)(nd:ks.Nodup)(F:vs.length<64)
  (U:∀G,(∀b o,b≠a->s.heap.get? b=some o->G.get? b=some o)->2<=vs.length->∀(Q:SortKind->aj->Prop) (W:af->aj->Prop),Q κ {s with heap:=G}->wpAny (model prog w) A (keyKind' vs.toArray) Q W {s with heap:=G})
  (X:∀G,(∀b o,b≠a->s.heap.get? b=some o->G.get? b=some o)->∀i j,i<vs.length->j<vs.length->i≠j->∀C,C (uU ks i j) {s with heap:=G}->kas_ask prog w A κ vs i j C {s with heap:=G})
  (h:∀(p:List Nat) (h':bt) (e:Nat),p.Perm (aS vs.length)->(p.map (keyAt ks)).Pairwise (· < ·)->(∀b o,b≠a->s.heap.get? b=some o->h'.get? b=some o)->
   h'.get? a=some (seqObj "list" (p.map fun i=>vs.getD i Value.none).toArray e)->P (.done (.ret .none)) {s with heap:=h'}) :
  wpAny (model prog w) A (b7.«list.sort» ⟨[.ref a],[]⟩) P E s:=by
 have ha:a<s.heap.objs.size:=aA B
 rw[list_sort_plain]
 refine aa (listItems_at B rfl ?_)
 refine aa (jr B rfl ?_ (by rw[aY,aV];omega) (bH _))
 obtain⟨e1,u⟩:∃e1,(s.heap.update a (cn fun _=>(#[]:Array af))).get? a=some (seqObj "list" #[] e1):=⟨_,l5 B fun _=>#[]⟩
 refine aa (lX u rfl ?_)
 refine aa (ja ?_ (by rw[aV];simp;omega))
 refine aa (ft ?_ (by simp))
 refine bD ?_
 show wpAny (model prog w) A _ P E {s with heap:=((s.heap.update a (cn fun _=>#[])).push (seqObj "tuple" vs.toArray 0)).push (seqObj "list" #[] 0)}
 generalize T:((s.heap.update a (cn fun _=>(#[]:Array af))).push (seqObj "tuple" vs.toArray 0)).push (seqObj "list" #[] 0)=G
 have d:G.get? a=some (seqObj "list" #[] e1):=by
  rw[<-T]
  exact ae _ (ae _ u)
 have m:∀b o,b≠a->s.heap.get? b=some o->G.get? b=some o:=fun b o D e=>by
  rw[<-T]
  exact ae _ (ae _ ((bq _ _ (dg D)).trans e))
 have hsz:vs.toArray.size=vs.length:=by simp
 have fin:∀(p:List Nat) (q:Array af) (c:q=(p.map fun i=>vs.getD i Value.none).toArray),p.Perm (aS vs.length)->(p.map (keyAt ks)).Pairwise (· < ·)->
   P (.done (.ret .none)) {s with heap:=G.update a (cn fun _=>q)}:=fun p q c Y f=>by
  subst c
  have Z:=l5 d fun _=>(p.map fun i=>vs.getD i Value.none).toArray
  exact h p _ _ Y f (fun b o D e=>(bq _ _ (dg D)).trans (m b o D e)) Z
 dsimp only
 by_cases f:vs.toArray.size<2
 ·rw[if_pos f,if_pos f]
  refine aa (ag ?_)
  rw[StateT.run_pure]
  refine aa (ag ?_)
  dsimp only
  refine aa (lX d rfl ?_)
  refine aa (jr d rfl ?_ (by simp) (by
   show((vs.toArray.zip vs.toArray).map (·.2)).size<=sizeLine+1
   rw[aV];simp;omega))
  simp only[bne_self_eq_false,aX,if_false]
  refine ag (fin (aS vs.length) _ ?_ (cM _) ?_)
  ·show(vs.toArray.zip vs.toArray).map (·.2)=_
   match vs,f with
   | [],_=>simp
   | [v],_=>simp[fy]
   |_::_::_,f=>simp at f;omega
  ·have:vs.length<2:=by simpa using f
   match hv:vs.length,this with
   |0,_=>simp
   |1,_=>simp[fy]
 ·rw[if_neg f,if_neg f]
  have g:2<=vs.length:=by simpa using f
  refine aa (U G m g _ _ ?_)
  show wpAny _ _ (StateT.run sortRuns' (SortSt.mk' κ (vs.toArray.zip vs.toArray) #[] 7 none)>>=_) _ _ _
  have O:=zFv nd
  rw[hl]at O
  obtain⟨H,I⟩:=zFt O g
  refine aa (bZ (kat_run (ks:=vs) (vs:=vs) (Q:=fun l s'=>s'={s with heap:=G}/\failedOf l=none/\∃p:Array Nat,Pm p vs.length/\Up (uU ks) p vs.length/\arrOf l=p.map (kas_item (vs.toArray.zip vs.toArray)))
   (G:=fun p s'=>s'={s with heap:=G}/\Pm p vs.length/\Up (uU ks) p vs.length) rfl g F (fun p l s' _ x J y=>⟨y.1,J,p,y.2.1,y.2.2,x⟩) ?_) ?_ fun _ _ e=>e)
  ·refine zCX (N:=vs.length) (lt:=uU ks) (fun i j hi L r C M=>?_) _ _ (zFs O g) ⟨rfl,H,I⟩
   exact X G m i j hi L r C M
  ·rintro⟨⟨⟩,l⟩ s' ⟨rfl,hf,p,x,J,y⟩
   dsimp only
   have c:=kat_snds (ks:=vs) (vs:=vs) rfl y
   refine aa (lX d rfl ?_)
   refine aa (jr d rfl ?_ (by simp) (by
    rw[c,aY,ak,aV]
    have:=x.size
    simp
    omega))
   rw[hf]
   simp only[bne_self_eq_false,aX,if_false]
   refine ag (fin p.toList _ c x ?_)
   rw[aQ,dn]
   intro i j hi L r
   have R:i<p.size:=by simpa using hi
   have z:j<p.size:=by simpa using L
   have:=J i j r (by rw[<-x.size];exact z)
   rw[j5 R,j5 z]at this
   simpa [uU]using this
theorem zFx {ks:List Str}(nd:ks.Nodup){i j:Nat}(hi:i<ks.length)(b:j<ks.length)(a:i≠j):ks.getD i ⟨#[]⟩≠ks.getD j ⟨#[]⟩:=fun e=>by
 have e1:ks.getD i ⟨#[]⟩=ks[i]:=by simp[hi]
 have c:ks.getD j ⟨#[]⟩=ks[j]:=by simp[b]
 rw[e1,c]at e
 exact a ((cY nd).mp e)
theorem sort_pairs {a:av}{vs:List af}{ks:List Str}{n:Nat}{P:lO->aj->Prop}(y:s.heap.get? a=some (seqObj "list" vs.toArray n))(hl:ks.length=vs.length)
  (z:∀(i:Nat) (v:af),vs[i]?=some v->∃k,ks[i]?=some k/\qD s.heap a v k) (nd:ks.Nodup) (f:vs.length<64)
  (h:∀(p:List Nat) (h':bt) (e:Nat),p.Perm (aS vs.length)->(p.map (keyAt ks)).Pairwise (· < ·)->(∀b o,b≠a->s.heap.get? b=some o->h'.get? b=some o)->
   h'.get? a=some (seqObj "list" (p.map fun i=>vs.getD i Value.none).toArray e)->P (.done (.ret .none)) {s with heap:=h'}) :
  wpAny (model prog w) A (b7.«list.sort» ⟨[.ref a],[]⟩) P E s:=by
 have c:∀G,(∀b o,b≠a->s.heap.get? b=some o->G.get? b=some o)->∀i,i<vs.length->qD G a (vs.getD i Value.none) (ks.getD i ⟨#[]⟩):=fun G d i hi=>by
  obtain⟨k,e,q⟩:=z i vs[i] (aC hi)
  have e1:vs.getD i Value.none=vs[i]:=by simp[hi]
  have B:ks.getD i ⟨#[]⟩=k:=by rw[bQ,e];rfl
  rw[e1,B]
  exact q.keep d
 refine zCY (κ:=tuples' true) y hl nd f (fun G d N Q O D=>?_) (fun G d i j hi F g C H=>zFw (s:={s with heap:=G}) (c G d i hi) (c G d j F) (zFx nd (by omega) (by omega) g) H) h
 have go:∀l:List af,(∀v∈l,∃k,qD G a v k)->∃fs,KatTups G l fs/\(∀v∈fs,∃k t,v=Value.str k t)/\fs.length=l.length:=by
  intro l
  induction l with
  |nil=>intro _;exact⟨[],.nil,by simp,rfl⟩
  |cons v l ih=>
   intro hl
   obtain⟨k,b,o,t,x,n,I,R,J,L,M⟩:=hl v (ao ..)
   obtain⟨fs,f1,f2,r⟩:=ih fun u hu=>hl u (au _ hu)
   subst I
   refine⟨.str k t::fs,.cons J L M rfl f1,fun u hu=>?_,by simp[r]⟩
   rcases aE.mp hu with rfl|hu
   ·exact⟨k,t,rfl⟩
   ·exact f2 u hu
 obtain⟨fs,f1,f2,r⟩:=go vs fun v m=>by
  obtain⟨i,hi,e⟩:=dG m
  have:=c G d i hi
  have e1:vs.getD i Value.none=v:=by simp[hi,e]
  rw[e1]at this
  exact⟨_,this⟩
 refine kat_kind (s:={s with heap:=G}) (T:=.type "str") f1 (by omega) (fun v m=>?_) rfl D
 obtain⟨k,t,rfl⟩:=f2 v m
 exact .now
theorem sort_strs {a:av}{vs:List af}{ks:List Str}{n:Nat}{P:lO->aj->Prop}(q:s.heap.get? a=some (seqObj "list" vs.toArray n))(f:mm vs ks)(nd:ks.Nodup)(m:vs.length<64)
  (h:∀(p:List Nat) (h':bt) (e:Nat),p.Perm (aS vs.length)->(p.map (keyAt ks)).Pairwise (· < ·)->(∀b o,b≠a->s.heap.get? b=some o->h'.get? b=some o)->
   h'.get? a=some (seqObj "list" (p.map fun i=>vs.getD i Value.none).toArray e)->P (.done (.ret .none)) {s with heap:=h'}) :
  wpAny (model prog w) A (b7.«list.sort» ⟨[.ref a],[]⟩) P E s:=by
 have d:ks.length=vs.length:=by rw[<-f.strs];simp
 have c:∀i,i<vs.length->∃t,vs.getD i Value.none=.str (ks.getD i ⟨#[]⟩) t:=fun i hi=>by
  obtain⟨x,t,e⟩:=f.all vs[i] (cg hi)
  refine⟨t,?_⟩
  have e1:vs.getD i Value.none=vs[i]:=by simp[hi]
  have r:ks.getD i ⟨#[]⟩=x:=by
   rw[<-f.strs,bQ,az,aC hi,e];rfl
  rw[e1,r,e]
 refine zCY (κ:=oneType') q d nd m (fun G u v Q H y=>?_) (fun G u i j hi z B C D=>?_) h
 ·obtain⟨g,l,yG,rfl⟩:∃g l yG,vs=g::l::yG:=by
   match vs,v with
   |g::l::yG,_=>exact⟨g,l,yG,rfl⟩
  rw[keyKind_strs f]
  exact ag y
 ·obtain⟨t,e⟩:=c i hi
  obtain⟨t',F⟩:=c j z
  unfold kas_ask
  rw[e,F,keyLt'_oneType]
  exact nE prog w A _ _ _ _ _ _ rfl rfl D
end
end MyS
end
section
namespace L2
open PySem PySem.Spec PyProof.Rows
def y0 (H:Hp)(news:List (av×HO)):Hp:=fun b=>match news.lookup b with
 |some o=>some o
 |none=>H b
theorem zAV {H:Hp}{a:List (av×HO)}{b:av}(h:b∉a.map (·.1)):y0 H a b=H b:=by
 unfold y0
 have:a.lookup b=none:=by
  induction a with
  |nil=>rfl
  |cons p r ih=>
   rw[aM,aE,not_or]at h
   have c:(b==p.1)=false:=by simpa using h.1
   obtain⟨x,y⟩:=p
   rw[bz,c]
   exact ih h.2
 rw[this]
theorem zCZ {H:Hp}:∀{a:List (av×HO)}{b:av}{o:HO},(a.map (·.1)).Nodup->(b,o)∈a->y0 H a b=some o:=by
 intro a b o nd d
 unfold y0
 have:a.lookup b=some o:=by
  induction a with
  |nil=>cases d
  |cons p r ih=>
   obtain⟨x,y⟩:=p
   rw[aM]at nd
   have c:=bA.mp nd
   rcases aE.mp d with e|e
   ·have e1:b=x:=(bE e).1
    have g:o=y:=(bE e).2
    subst e1;subst g
    rw[d7]
   ·have h:(b==x)=false:=by
     have:b≠x:=fun z=>c.1 (by rw[<-z];exact dH (f:=(·.1)) e)
     simpa using this
    rw[bz,h]
    exact ih c.2 e
 rw[this]
theorem zFy {H:Hp}{a:List (av×HO)}{b:av}{o:HO}(h:y0 H a b=some o):(b,o)∈a\/(b∉a.map (·.1)/\H b=some o):=by
 by_cases d:b∈a.map (·.1)
 ·left
  unfold y0 at h
  cases e:a.lookup b with
  |some u=>
   rw[e]at h
   have:u=o:=aH h
   subst this
   clear h d
   induction a with
   |nil=>cases e
   |cons p r ih=>
    obtain⟨x,y⟩:=p
    rw[bz]at e
    cases c:b==x with
    |true=>
     rw[c]at e
     have e1:b=x:=by simpa using c
     have f:y=u:=aH e
     subst e1;subst f
     exact ao ..
    |false=>
     rw[c]at e
     exact au _ (ih e)
  |none=>
   exfalso
   clear h
   induction a with
   |nil=>cases d
   |cons p r ih=>
    obtain⟨x,y⟩:=p
    rw[bz]at e
    cases c:b==x with
    |true=>rw[c]at e;cases e
    |false=>
     rw[c]at e
     rw[aM,aE]at d
     rcases d with z|z
     ·have:(b==x)=true:=by simpa using z
      rw[this]at c;cases c
     ·exact ih z e
 ·rw[zAV d]at h
  exact .inr ⟨d,h⟩
theorem zCa {H:Hp}{a:List (av×HO)}(c:∀p∈a,H p.1=none):zA H (y0 H a):=fun b o e=>by
 rw[zAV fun z=>?_]
 ·exact e
 ·obtain⟨p,d,rfl⟩:=aB.mp z
  rw[c p d]at e;cases e
theorem zZ.obj {P:aI}{w:aR}{H:Hp}{h:bt}{a:av}{o:HO}(x:zZ P w H h a o):∃u,h.get? a=some u:=by
 cases o with
 |lst xs=>obtain⟨_,_,_,_,e⟩:=x;exact⟨_,e⟩
 |tup xs=>obtain⟨_,_,_,_,e,_⟩:=x;exact⟨_,e⟩
 |dK kvs=>obtain⟨_,_,_,_,o,_,_,e,_⟩:=x;exact⟨_,e⟩
 |dT kvs=>obtain⟨_,_,_,_,o,_,_,e,_⟩:=x;exact⟨_,e⟩
 |set S n=>obtain⟨o,_,_,_,e,_⟩:=x;exact⟨_,e⟩
 |ins C b fs=>obtain⟨_,_,_,e,_⟩:=x;exact⟨_,e⟩
 |own y=>exact x
 |xd fs=>obtain⟨_,⟨_,_,_,e,_⟩,_⟩:=x;exact⟨_,e⟩
 |rng lo hi=>obtain⟨_,_,_,e⟩:=x;exact⟨_,e⟩
 |frz c u=>obtain⟨e,_⟩:=x;exact⟨_,e⟩
 |tbl d=>exact⟨_,(show h.get? a=some _ from x)⟩
 |met f y=>exact⟨_,(show h.get? a=some _ from x)⟩
 |ext φ=>obtain⟨_,e,_⟩:=x;exact e
theorem zR.free {P:aI}{w:aR}{H:Hp}{h:bt}{a:av}(x:zR P w H h)(e:h.get? a=none):H a=none:=by
 cases q:H a with
 |none=>rfl
 |some u=>
  obtain⟨v,b⟩:=(x a u q).obj
  rw[b]at e;cases e
section
variable{X:Cx}{pins:List (av×Obj)}{σ:St}{H:Hp}{s:aj}
theorem Inv.many {h':bt}{t':Nat}{a:List (av×HO)}(I:Inv X pins σ H s)(k:∀b u,s.heap.get? b=some u->h'.get? b=some u)(d:∀p∈a,s.heap.get? p.1=none)
  (new:∀p∈a,zZ X.prog X.w (y0 H a) h' p.1 p.2):Inv X pins σ (y0 H a) {s with heap:=h',toks:=t'}:=by
 have i:∀p∈a,H p.1=none:=fun p h=>I.hok.free (d p h)
 have f:=zCa i
 have g:∀b (o:Obj),s.heap.get? b=some o->y0 H a b=H b:=fun b o e=>zAV fun z=>by
  obtain⟨p,h,rfl⟩:=aB.mp z
  rw[d p h]at e;cases e
 refine I.un (H':=y0 H a) ⟨fun b o e _ _ _=>k b o e,fun b o e _ _ _=>⟨o.slots,k b o e⟩,fun b o e n _=>by rw[g b o e];exact n,fun b o e _=>⟨o,k b o e⟩,fun b xs e=>f b _ e,fun b o u e=>f b _ e,fun b j e=>⟨#[],by rw[f b _ e];simp⟩⟩ fun b u e=>?_
 rcases zFy e with z|⟨_,z⟩
 ·exact new (b,u) z
 ·exact(I.hok b u z).stay (fun c v _ q=>k c v q) (fun c q=>f c _ q) fun c xs q=>f c _ q
end
def zFz (d:av):Obj:={cls:=.type "dict_items",data:=.fields #[.ref d]}
def VW (p d:av):HO:=.ext fun h=>h.get? p=some (zFz d)
section
variable{X:Cx}
def zGA:V->List V->Hp->VK->Prop:=fun x vs H Q=>∃d kvs,x=.ref d/\vs=[]/\H d=some (.dK kvs)/\∀p,H p=none->Q (.ref p) (upd H p (VW p d))
theorem zCb:MtM X "dict.items" zGA:=by
 intro c s σ H x vs v l Q I g i h
 obtain⟨d,kvs,rfl,rfl,hd,q⟩:=h
 cases g
 have a:=i.zero
 subst a
 obtain⟨z,j,m,rel,f⟩:=jZ I.hok hd
 refine ia eS f.typeIs PySem.F.entry_dict_items (PySem.F.args_dict_items_1 _) (meets_dict_items (vJ X.prog X.w) d j) ⟨⟨_,f⟩,?_⟩
 refine⟨.ref s.heap.objs.size,_,I.laid (t':=s.toks) (o:=VW s.heap.objs.size d) (fun b o e=>ae _ e) (ay _) ?_,rfl,q _ (I.hok.fresh (ay _))⟩
 exact⟨aw _ rfl,⟨_,aw _ rfl⟩,fun n p e k=>k _ e⟩
abbrev j6 (kvs:List (Str×V)):List (zL×V):=kvs.map fun q=>(Sum.inr q.1,q.2)
theorem KV.get {kvs:List (zL×V)}{vs:List (zL×af)}:∀{i:Nat}{k:zL}{x:af},KV kvs vs->vs[i]?=some (k,x)->∃v,kvs[i]?=some (k,v)/\zI v x:=by
 intro i k x r
 induction r generalizing i with
 |nil=>intro e;simp at e
 |cons h t ih=>
  intro e
  cases i with
  |zero=>
   have a:=aH (by simpa using e)
   rename_i p q _ _
   obtain⟨b,c⟩:=p
   subst a
   have d:b=k:=h.1
   subst d
   exact⟨c,rfl,h.2⟩
  |succ i=>
   obtain⟨v,e1,f⟩:=ih (by simpa using e)
   exact⟨v,by simpa using e1,f⟩
def zGB:List V->Hp->VK->Prop:=fun xs H Q=>∃p d kvs,xs=[.ref p]/\H p=some (VW p d)/\H d=some (.dK (j6 kvs))/\(kvs.map (·.1)).Nodup/\kvs.length<64/\
 ∀(out:List (Str×V)) (l:av) (ts:List V) (H':Hp),out.Perm kvs->out.Pairwise (fun a b=>a.1.cps.toList<b.1.cps.toList)->zA H H'->H' l=some (.lst ts)->H l=none->ts.length=out.length->
  (∀(i:Nat) (q:Str×V),out[i]?=some q->∃a,ts[i]?=some (.ref a)/\H a=none/\H' a=some (.tup [.str q.1,q.2]))->Q (.ref l) H'
theorem zCc (hc:X.calm=true):vD X (.builtin "sorted") zGB:=by
 intro T s σ H xs us Q I rx h
 obtain⟨p,d,kvs,rfl,hp,hd,nd,ap,q⟩:=h
 obtain⟨u,rfl,ru⟩:=vS rx
 cases ru
 obtain⟨z,hm,ws,rel,dd⟩:=jZ I.hok hd
 obtain⟨hv,_,_⟩:=I.hok p _ hp
 have F:ws.length=kvs.length:=by have:=rel.length;simpa using this.symm
 obtain⟨ep,aq⟩:=dd.dictAt
 refine dq jb ij ik (il _) ?_
 unfold b7.«sorted»
 refine aa (m:=checkCount "sorted" 1 1 _) (ag ?_)
 refine aa (PySem.W.kdx_collect (A:=X.A.in1) (knd:=vJ X.prog X.w) (kvs:=ws) (ep:=ep) (I.ok.hd hc) ⟨_,hv,rfl,rfl⟩ aq (by rw[F,aV];omega) fun h' tk as hk hl hG=>?_)
 have f:as.length=kvs.length:=hl.trans F
 refine aa (ft ?_ (by rw[ak,f,aV];omega))
 generalize hB:h'.objs.size=B
 have U:(h'.push {cls:=.type "list",data:=.seq (as.map Value.ref).toArray}).get? B=some (seqObj "list" (as.map Value.ref).toArray 0):=by
  rw[<-hB];exact aw _ rfl
 have M:∀a∈as,a≠B:=fun a ha=>by rw[<-hB];exact aG (hG.there ha)
 have E:∀(i:Nat) (a:av),as[i]?=some a->∃(q:Str×V) (t:Tok) (x:af),kvs[i]?=some q/\zI q.2 x/\h'.get? a=some {cls:=.type "tuple",data:=.seq #[.str q.1 t,x]}:=fun i a e=>by
  obtain⟨key,k,x,e1,G,e3⟩:=hG.pairs i a e
  obtain⟨v,f1,f2⟩:=rel.get e1
  rw[az]at f1
  cases g:kvs[i]? with
  |none=>rw[g]at f1;cases f1
  |some q=>
   rw[g]at f1
   have N:((Sum.inr q.1:zL),q.2)=(k,v):=aH f1
   obtain⟨g1,g2⟩:=bE N
   subst g1;subst g2
   have ar:v8 (Sum.inr q.1) key=true:=G
   rcases vI ar with⟨j,t,z1,_⟩|⟨y,t,z1,z2⟩
   ·cases z1
   ·have:q.1=y:=iT z1
    subst this;subst z2
    exact⟨q,t,x,rfl,f2,e3⟩
 refine aa (bD (bR fP ⟨_,U,rfl⟩ fz (MyS.sort_pairs (ks:=kvs.map (·.1)) U (by simp[f]) (fun i v e=>?_) nd (by simpa [f]using ap) fun pm h2 G O Y Z ax=>⟨_,rfl,?_⟩) (fQ _)))
 ·rw[az]at e
  cases g:as[i]? with
  |none=>rw[g]at e;cases e
  |some a=>
   rw[g]at e
   have r:v=.ref a:=(aH e).symm
   subst r
   obtain⟨q,t,x,f1,f2,f3⟩:=E i a g
   have ha:a∈as:=aU g
   exact⟨q.1,by rw[az,f1];rfl,a,_,t,x,0,rfl,M a ha,ae _ f3,rfl,rfl⟩
 ·refine ag ⟨_,rfl,?_⟩
  have aK:pm.length=kvs.length:=by have:=O.length_eq;simpa [f]using this
  have D:∀i∈pm,i<kvs.length:=fun i hi=>by
   have:=(O.mem_iff).mp hi
   simpa [f]using this
  have ab:∀b o,s.heap.get? b=some o->h2.get? b=some o:=fun b o e=>by
   have e1:=hk b o e
   refine Z b o ?_ (ae _ e1)
   rw[<-hB];exact aG (aA e1)
  have dflt:Str×V:=(⟨#[]⟩,.non)
  let ac:List (Str×V):=pm.map fun i=>kvs.getD i (⟨#[]⟩,.non)
  let ts:List V:=pm.map fun i=>V.ref (as.getD i 0)
  let c:List (av×HO):=(B,.lst ts)::(aS kvs.length).map fun i=>(as.getD i 0,.tup [.str (kvs.getD i (⟨#[]⟩,.non)).1,(kvs.getD i (⟨#[]⟩,.non)).2])
  have n:∀i,i<kvs.length->as[i]?=some (as.getD i 0):=fun i hi=>by
   have C:i<as.length:=by omega
   simp[C]
  have P:∀i,i<kvs.length->kvs[i]?=some (kvs.getD i (⟨#[]⟩,.non)):=fun i hi=>by simp[hi]
  have al:as.Nodup:=hG.rise.imp fun{a b} a0=>aG a0
  have am:(c.map (·.1)).Nodup:=by
   show(B::((aS kvs.length).map fun i=>(as.getD i 0,HO.tup [.str (kvs.getD i (⟨#[]⟩,.non)).1,(kvs.getD i (⟨#[]⟩,.non)).2])).map (·.1)).Nodup
   rw[aO]
   refine bA.mpr ⟨fun hm=>?_,?_⟩
   ·obtain⟨i,hi,e⟩:=aB.mp hm
    have r:as.getD i 0=B:=e
    exact M _ (aU (n i (bp.mp hi))) r
   ·rw[ip,aQ,dn]
    intro i j hi J R e
    simp only[bL]at hi J
    simp only[List.getElem_range]at e
    have r:as.getD i 0=as.getD j 0:=e
    have C:i<as.length:=by omega
    have a1:j<as.length:=by omega
    have e1:as.getD i 0=as[i]:=by simp[C]
    have G:as.getD j 0=as[j]:=by simp[a1]
    rw[e1,G]at r
    have:=(cY al).mp r
    omega
  have an:∀q∈c,s.heap.get? q.1=none:=fun q hq=>by
   rcases aE.mp hq with e|e
   ·rw[e]
    cases g:s.heap.get? B with
    |none=>rfl
    |some o=>
     have h0:=aA (hk B o g)
     rw[hB]at h0
     exact absurd h0 (bG _)
   ·obtain⟨i,hi,r⟩:=aB.mp e
    rw[<-r]
    exact iU (hU (hG.above _ (aU (n i (bp.mp hi)))))
  have hH:∀q∈c,H q.1=none:=fun q hq=>I.hok.free (an q hq)
  have L:∀i,i<kvs.length->(as.getD i 0,HO.tup [.str (kvs.getD i (⟨#[]⟩,.non)).1,(kvs.getD i (⟨#[]⟩,.non)).2])∈c:=fun i hi=>
   au _ (aB.mpr ⟨i,bp.mpr hi,rfl⟩)
  have IM:Inv X T σ (y0 H c) {s with heap:=h2,toks:=tk}:=by
   refine I.many ab an fun q hq=>?_
   rcases aE.mp hq with e|e
   ·subst e
    refine⟨?_,(pm.map fun i=>(as.map Value.ref).getD i Value.none),_,?_,ax⟩
    ·show(pm.map _).length<=_
     rw[ak,aK,aV];omega
    ·have go:∀l:List Nat,(∀i∈l,i<kvs.length)->zF (l.map fun i=>V.ref (as.getD i 0)) (l.map fun i=>(as.map Value.ref).getD i Value.none):=by
      intro l
      induction l with
      |nil=>intro _;exact .nil
      |cons i l ih=>
       intro hl
       have hi:i<as.length:=by have:=hl i (ao ..);omega
       refine .cons ?_ (ih fun j J=>hl j (au _ J))
       show(as.map Value.ref).getD i Value.none=Value.ref (as.getD i 0)
       simp[hi]
     exact go pm D
   ·obtain⟨i,hi,r⟩:=aB.mp e
    have C:=bp.mp hi
    subst r
    obtain⟨q,t,x,f1,f2,f3⟩:=E i _ (n i C)
    rw[P i C]at f1
    have N:=aH f1
    refine⟨by show 2<=sizeLine;decide,[.str q.1 t,x],?_,?_⟩
    ·rw[N]
     exact .cons ⟨t,rfl⟩ (.cons f2 .nil)
    ·refine⟨_,Z _ _ (M _ (aU (n i C))) (ae _ f3),rfl,0,rfl⟩
  refine⟨.ref B,y0 H c,IM,rfl,q ac B ts (y0 H c) ?_ ?_ (zCa hH) (zCZ am (ao ..)) (hH _ (ao ..)) (by simp[ac,ts]) fun i q' e=>?_⟩
  ·
   have e1:(aS kvs.length).map (fun i=>kvs.getD i (⟨#[]⟩,.non))=kvs:=by
    apply bS
    ·simp
    ·intro i h1 h2
     have hi:i<kvs.length:=by simpa using h1
     simp[hi]
   have:=(by simpa [f]using O:pm.Perm (aS kvs.length)).map (fun i=>kvs.getD i (⟨#[]⟩,.non))
   rw[e1]at this
   exact this
  ·show(pm.map fun i=>kvs.getD i (⟨#[]⟩,.non)).Pairwise _
   rw[aQ]
   rw[aQ]at Y
   refine eJ ?_ Y
   intro i j hi J R
   have e1:MyS.keyAt (kvs.map (·.1)) i=(kvs.getD i (⟨#[]⟩,.non)).1.cps.toList:=by
    have:=D i hi
    simp[MyS.keyAt,this]
   have G:MyS.keyAt (kvs.map (·.1)) j=(kvs.getD j (⟨#[]⟩,.non)).1.cps.toList:=by
    have:=D j J
    simp[MyS.keyAt,this]
   rw[e1,G]at R
   exact R
  ·have r:(pm.map fun i=>kvs.getD i (⟨#[]⟩,.non))[i]?=some q':=e
   rw[az]at r
   cases g:pm[i]? with
   |none=>rw[g]at r;cases r
   |some j=>
    rw[g]at r
    have J:=D j (aU g)
    have G:kvs.getD j (⟨#[]⟩,.non)=q':=aH r
    refine⟨as.getD j 0,?_,hH _ (L j J),?_⟩
    ·show(pm.map fun i=>V.ref (as.getD i 0))[i]?=_
     rw[az,g];rfl
    ·rw[<-G]
     exact zCZ am (L j J)
end
def Its (z:Str):It:=⟨fun i _=>i<z.cps.size,fun i H x H'=>H'=H/\∃c,z.cps[i]?=some c/\x=.str ⟨#[c]⟩,fun i _=>i=z.cps.size⟩
theorem zCd {P:aI}{w:aR}{K:ai}{M:bV}(a:av)(z:Str)(t:Tok)(ty:String)(m:["enumerate","zip","dict_itemiterator","dict_reverseitemiterator","odict_iterator","itertools.zip_longest","itertools.pairwise"].contains ty=false)
  (L:∀A:bF,A.handled=none->og P w A a [a] [a] z.cps.size (SignAt z) (fun i h=>h.IsStrIter a ty z t i))
  (N:∀(A:bF) (i:Nat) (s:aj) (Q:af->aj->Prop) (E:af->aj->Prop),s.heap.IsStrIter a ty z t i->Q (.ref a) s->wpAny (model P w) A (pyIter (.ref a)) Q E s):Turn P w K M (Its z) [a] a (fun i h=>h.IsStrIter a ty z t i) where
 mem:=by simp
 obj:=fun i h st b g=>by
  have e:b=a:=by simpa using g
  subst e
  obtain⟨o,e,c,d⟩:=st
  exact⟨o,e,fun v z=>by rw[d]at z;cases z⟩
 keep:=fun i h h' st k=>let⟨o,e,r⟩:=st;⟨o,k a (by simp) o e,r⟩
 item:=by
  intro X n p q x i f s σ H E I l st y
  subst n p q
  obtain⟨B,f1,f2,C,D,F⟩:=l a (by simp)
  refine(L X.A (I.ok.hd x)).item i s _ _ y st fun v h' tk O j G=>?_
  obtain⟨c,u,J,rfl⟩:=O
  have R:Inv X f σ H {s with heap:=h',toks:=tk}:=I.turned (fun b o g e=>G b o (by simpa using g) e) B f1 C D F
  obtain⟨o,e,T,od⟩:=id j
  exact⟨_,rfl,kQ (s:={s with heap:=h',toks:=tk}) e T od m ⟨.str ⟨#[c]⟩,H,R,⟨u,rfl⟩,⟨rfl,c,J,rfl⟩,j,fun b g=>(l b g).1⟩⟩
 done:=by
  intro X n p q x i f s σ H E I l st y
  subst n p q
  obtain⟨B,f1,f2,C,D,F⟩:=l a (by simp)
  have hi:i=z.cps.size:=y
  subst hi
  exact(L X.A (I.ok.hd x)).done s _ _ st fun h' tk G=>⟨rfl,I.turned (fun b o g e=>G b o (by simpa using g) e) B f1 C D F⟩
 self:=N
section
variable{X:Cx}{tg:bV}
def zGC (tl:TE):TI:=fun σ H R=>tl σ H fun x H1=>∃z,x=.str z/\R (Its z) H1
theorem zGD {l:bV}{tl:TE}(hl:PE X l tl):PI X tg l (zGC tl):=by
 intro a s σ H R I h
 refine zG (hl a s σ H _ I h) fun v c ⟨x,f,d,n,z,p,q⟩=>?_
 subst p
 obtain⟨t,rfl⟩:=n
 have j:∀b∈[c.heap.objs.size],uC X a f b:=fun b r=>by
  have e:b=c.heap.objs.size:=by simpa using r
  subst e
  exact d.fpOk (ay _) (d.hok.fresh (ay _))
 cases m:z.cps.all (· <128)with
 |false=>
  refine wpAny_pyIter_wide m ⟨c.heap.objs.size,[c.heap.objs.size],_,_,f,rfl,d.kept (t':=c.toks) fun b o e=>ae _ e,zCd _ z t "str_iterator" (by decide) (fun A g=>Walks.strWide g _ z t) (fun A i s Q E st h=>wpAny_pyIter_striter_wide st h),⟨_,aw _ rfl,rfl,rfl⟩,j,q⟩
 |true=>
  refine wpAny_pyIter_ascii m ⟨c.heap.objs.size,[c.heap.objs.size],_,_,f,rfl,d.kept (t':=c.toks) fun b o e=>ae _ e,zCd _ z t "str_ascii_iterator" (by decide) (fun A g=>Walks.strAscii g _ z t) (fun A i s Q E st h=>wpAny_pyIter_striter_ascii st h),⟨_,aw _ rfl,rfl,rfl⟩,j,q⟩
end
theorem zGE (lo hi:Option Int)(n:Nat):cx lo hi 1 n=cx (some ((HT.sIx n 0 lo:Nat):Int)) (some ((HT.sIx n n hi:Nat):Int)) 1 n:=by
 have hl:=HT.sIx_le n 0 (bH _) lo
 have q:=HT.sIx_le n n (ay _) hi
 have key:∀(o:Option Int) (d:Nat),d<=n->(match o with|none=>(d:Int)|some i=>(let i:=if i<0 then i+(n:Int)else i;max 0 (min i (n:Int))))=((HT.sIx n d o:Nat):Int):=by
  intro o d hd
  cases o with
  |none=>rfl
  |some i=>
   show max 0 (min (if i<0 then i+(n:Int)else i) (n:Int))=(((if i<0 then(i+(n:Int)).toNat else min i.toNat n):Nat):Int)
   by_cases h:i<0
   ·rw[if_pos h,if_pos h];omega
   ·rw[if_neg h,if_neg h];omega
 have e1:=key lo 0 (bH _)
 have r:=key hi n (ay _)
 have c:max (0:Int) (min ((HT.sIx n 0 lo:Nat):Int) (n:Int))=((HT.sIx n 0 lo:Nat):Int):=by omega
 have e:max (0:Int) (min ((HT.sIx n n hi:Nat):Int) (n:Int))=((HT.sIx n n hi:Nat):Int):=by omega
 have f:¬(((HT.sIx n 0 lo:Nat):Int)<0):=by omega
 have g:¬(((HT.sIx n n hi:Nat):Int)<0):=by omega
 unfold cx
 simp only[show((1:Int)>0)=True from by simp,if_true,f,g,if_false,c,e]
 have a:∀i:Int,(max 0 (min (if i<0 then i+(n:Int)else i) (n:Int)))=((HT.sIx n 0 (some i):Nat):Int):=fun i=>key (some i) 0 (bH _)
 have b:∀i:Int,(max 0 (min (if i<0 then i+(n:Int)else i) (n:Int)))=((HT.sIx n n (some i):Nat):Int):=fun i=>key (some i) n (ay _)
 have l:((HT.sIx n 0 none:Nat):Int)=0:=rfl
 have m:((HT.sIx n n none:Nat):Int)=n:=rfl
 cases lo with
 |none=>
  cases hi with
  |none=>rfl
  |some j=>dsimp only;rw[b,l]
 |some i=>
  cases hi with
  |none=>dsimp only;rw[a,m]
  |some j=>
   dsimp only
   have p:=a i
   rw[p]
   rw[b]
theorem zGF (x:Str)(lo hi:Option Int):nO x lo hi=⟨((x.cps.toList.drop (HT.sIx x.length 0 lo)).take (HT.sIx x.length x.length hi-HT.sIx x.length 0 lo)).toArray⟩:=by
 have hl:=HT.sIx_le x.length 0 (bH _) lo
 have f:=HT.sIx_le x.length x.length (ay _) hi
 unfold nO
 rw[zGE lo hi]
 generalize HT.sIx x.length 0 lo=a at*
 generalize HT.sIx x.length x.length hi=b at*
 have g:x.cps.toList.length=x.length:=by simp[mz]
 by_cases c:a<=b
 ·have sp:=StrLaws.sliced_plain x c f
  split
  ·rename_i h
   rw[StrLaws.strSliceIndices_plain c f]at h
   have h':b-a=x.length:=by simpa using h
   have i:a=0:=by omega
   have d:b=x.cps.toList.length:=by omega
   subst i
   apply MyS.Str_ext
   show x.cps.toList=((x.cps.toList.drop 0).take (b-0)).toArray.toList
   rw[jc,nS,d,ba]
  ·rw[sp]
 ·have d:b-a=0:=by omega
  have e:cx (some (a:Int)) (some (b:Int)) 1 x.length=[]:=by
   have j:¬((a:Int)<0):=by omega
   have l:¬((b:Int)<0):=by omega
   have e1:max (0:Int) (min (a:Int) (x.length:Int))=a:=by omega
   have m:max (0:Int) (min (b:Int) (x.length:Int))=b:=by omega
   simp only[cx,sliceRange,j,l,if_false,e1,m,show((1:Int)>0)=True from by simp,if_true]
   rw[if_neg (by omega)]
   rfl
  rw[e,d]
  split
  ·rename_i h
   have h':0=x.length:=by simpa using h
   omega
  ·simp
section
variable{X:Cx}{e:bV}{te:TE}{lo hi:Option bV}{tl th:TO}{pos p2:Pos}
def v4 (z:Str)(lo hi:Option Int):Str:=⟨((z.cps.toList.drop (HT.sIx z.length 0 lo)).take (HT.sIx z.length z.length hi-HT.sIx z.length 0 lo)).toArray⟩
def zGG (te:TE)(tl th:TO):TE:=fun σ H Q=>te σ H fun x H1=>tl σ H1 fun l H2=>th σ H2 fun u H3=>∃z,x=.str z/\z.length<=sizeLine/\Q (.str (v4 z l u)) H3
theorem k9 (m:PE X e te)(hl:PO X lo tl)(hu:PO X hi th):PE X (.Subscript e (.Slice lo hi none p2) pos) (zGG te tl th):=by
 intro a s σ H Q I h
 refine jy (zG (m a s σ H _ I h) fun v n ⟨x,p,r,y,B⟩=>?_)
 refine wpAny_Slice (zG (hl a n σ p _ r B) fun C D ⟨l,E,F,pl,G⟩=>zG (hu a D σ E _ F G) fun J c ⟨u,L,M,g,N⟩=>?_)
 rw[jo]
 refine ag ?_
 obtain⟨z,rfl,hz,q⟩:=N
 obtain⟨t,rfl⟩:=y
 have d:KeptH (fun h=>∀b o,c.heap.get? b=some o->h.get? b=some o):=fun h W f b o q=>ae _ (f b o q)
 have fin:∀h' t' k,(∀b o,c.heap.get? b=some o->h'.get? b=some o)->EP X a σ Q (.str (nO z l u) t') {c with heap:=h',toks:=k}:=fun h' t' k f=>by
  refine⟨.str (v4 z l u),L,M.kept f,⟨t',?_⟩,q⟩
  rw[zGF];rfl
 have go:ItemOn (model X.prog X.w) X.A X.xe (.str z t) (.ref c.heap.objs.size) (EP X a σ Q) {c with heap:=c.heap.push {cls:=.type "slice",data:=.fields #[C,J,.none]}}:=by
  cases pl with
  |none=>
   cases g with
   |none=>exact SBH.sliceItem_nn d (fun _ _ q=>q) fin hz
   |int j O=>exact SBH.sliceItem_ns d (fun _ _ q=>q) fin hz
  |int i Y=>
   cases g with
   |none=>exact SBH.sliceItem_sn d (fun _ _ q=>q) fin hz
   |int j O=>exact SBH.sliceItem_ss d (fun _ _ q=>q) fin hz
 obtain⟨T,id,P,R,U⟩:=go
 exact oh (ops:=[.ref c.heap.objs.size,.str z t]) R P U (by with_unfolding_all rfl)
end
section
variable{X:Cx}
theorem zCe (g:X.calm=true):vD X (.builtin "all") (fun xs H Q=>∃(p:av) (bs:List Bool),xs=[.ref p]/\zV X.K H p (bs.map V.bl)/\Q (.bl (bs.all id)) H):=by
 intro d s σ H xs E Q I r h
 obtain⟨p,bs,rfl,j,q⟩:=h
 obtain⟨u,rfl,l⟩:=vS r
 cases l
 obtain⟨its,c,pl,hz⟩:=I.list j
 have m:p≠s.heap.objs.size:=by
  obtain⟨o,n,e,_⟩:=pl
  exact aG (aA e)
 have a:∀(i:Nat) (v:af),its.toArray[i]?=some v->v=.bool (bs.getD i false):=fun i v e=>by
  have f:its[i]?=some v:=by simpa using e
  have hl:=c.length
  have hi:i<bs.length:=by
   have:=(ah.mp f).1
   simp at hl;omega
  obtain⟨u,e1,w⟩:=c.get (i:=i) (x:=.bl (bs.getD i false)) (by rw[az];simp[hi])
  rw[f]at e1
  cases e1
  exact w
 refine call_all_walk (eg pl.isList ?_)
 refine⟨s.heap.objs.size,_,_,its.toArray.size,_,_,fun i=>bs.getD i false,rfl,ke (A:=X.A.in1) (I.ok.hd g) _ p m its.toArray,⟨⟨_,aw _ rfl,rfl,rfl⟩,?_⟩,fun i v s' F G y B=>?_,fun h' tk C=>?_⟩
 ·exact pl.isList.at fun o e=>ae _ e
 ·rw[a i v y];exact dy B
 ·refine⟨.bl (bs.all id),H,I.kept (t':=tk) (h':=h') fun b o e=>C b o (fun z=>?_) (ae _ e),?_,q⟩
  ·have:b=s.heap.objs.size:=by simpa using z
   exact absurd (aA e) (by rw[this];exact bG _)
  ·have hl:=c.length
   have hsz:its.toArray.size=bs.length:=by simp at hl;simp[hl]
   have:(aS its.toArray.size).all (fun i=>bs.getD i false)=bs.all id:=by
    rw[hsz]
    rw[dZ]
    simp only[lP,bp,id]
    constructor
    ·intro h b D
     obtain⟨i,hi,e⟩:=dG D
     have:=h i hi
     simpa [hi,e]using this
    ·intro h i hi
     have:=h bs[i] (cg hi)
     simpa [hi]using this
   rw[this];rfl
theorem zCf (ns:List Int):∀k,k<=ns.length->preSum (fun i=>ns.getD i 0) k=(ns.take k).sum
 |0,_=>by simp[preSum]
 |k+1,h=>by
  show preSum (fun i=>ns.getD i 0) k+ns.getD k 0=_
  have a:k<ns.length:=h
  rw[zCf ns k (by omega),aF a,iH]
  simp[a]
theorem gA (l:X.calm=true):vD X (.builtin "sum") (fun xs H Q=>∃(p:av) (ns:List Int),xs=[.ref p]/\zV X.K H p (ns.map V.int)/\Q (.int ns.sum) H):=by
 intro f s σ H xs E Q I r h
 obtain⟨p,ns,rfl,m,q⟩:=h
 obtain⟨u,rfl,w⟩:=vS r
 cases w
 obtain⟨its,c,pl,hz⟩:=I.list m
 have a:p<s.heap.objs.size:=by
  obtain⟨o,n,e,_⟩:=pl
  exact aA e
 have hl:=c.length
 have hsz:its.toArray.size=ns.length:=by simp at hl;simp[hl]
 have y:=zFK c
 refine call_sum_walkAnyS (eg pl.isList ?_)
 refine⟨s.heap.objs.size,_,_,_,its.toArray.size,_,_,fun i=>ns.getD i 0,rfl,(ke (A:=X.A.in1) (I.ok.hd l) _ p (aG a) its.toArray).toS,⟨⟨_,aw _ rfl,rfl,rfl⟩,?_⟩,fun b d=>?_,fun i v z=>?_,fun s' t' g=>?_⟩
 ·exact pl.isList.at fun o e=>ae _ e
 ·show b<(s.heap.push _).objs.size
  rw[size_push']
  rcases aE.mp d with e|d
  ·rw[e];exact bB _
  ·rw[bN.mp d];exact aZ a
 ·have j:its[i]?=some v:=by simpa using z
  have hi:i<ns.length:=by
   have:=(ah.mp j).1
   simp at hl;omega
  obtain⟨u,e1,B⟩:=c.get (i:=i) (x:=.int (ns.getD i 0)) (by rw[az];simp[hi])
  rw[j]at e1
  cases e1
  exact B
 ·have C:∀b o,s.heap.get? b=some o->s'.heap.get? b=some o:=fun b o e=>
   g.heap b o (fun D=>absurd (aA e) (by rw[bN.mp D];exact bG _)) (ae _ e)
  rw[js g]
  refine⟨.int ns.sum,H,I.kept (h':=s'.heap) (t':=s'.toks) C,⟨t',?_⟩,q⟩
  rw[hsz,zCf ns ns.length (ay _),ba]
theorem gB:vD X (.builtin "isinstance") (fun xs H Q=>∃x c t b,xs=[x,.ty c]/\TyOf X.K H x t/\fM X.K t (.type c)=some b/\Q (.bl b) H):=by
 intro a s σ H xs g Q I r h
 obtain⟨x,c,t,b,rfl,ty,e,q⟩:=h
 obtain⟨u,i,rfl,d,f⟩:=jS r
 cases f
 exact zEz I d ty e fun tk=>⟨.bl b,H,I.tok tk,rfl,q⟩
theorem zGH {a:List Str}:∀{b:List af},zF (a.map V.str) b->mm b a:=by
 induction a with
 |nil=>intro b r;rw[h9]at r;cases r;exact .nil
 |cons x a ih=>
  intro b r
  rw[aM]at r
  cases r with
  |cons c d=>
   obtain⟨t,e⟩:=c
   subst e
   exact .cons x t (ih d)
def zGI (K:ai):V->List V->Hp->VK->Prop:=fun x vs H Q=>∃(sep:Str) (l:av) (ss:List Str),x=.str sep/\vs=[.ref l]/\zV K H l (ss.map V.str)/\(ss.map (·.length)).sum+ss.length*sep.length<=16777216/\Q (.str (lq sep ss)) H
theorem zGJ:jB X "str.join" (zGI X.K):=by
 intro a s σ H x vs v i Q I b c h
 obtain⟨sep,l,d,rfl,rfl,e,hz,q⟩:=h
 obtain⟨t,rfl⟩:=b
 obtain⟨u,rfl,f⟩:=vS c
 cases f
 obtain⟨its,g,pl,_⟩:=I.list e
 exact join_list pl.isList (by simpa using zGH g) hz fun t' k=>⟨.str (lq sep d),H,I.tok k,⟨t',rfl⟩,q⟩
theorem zGK (l:List Str):∀a:Array Nat,(l.foldl (fun b p=>b++(⟨#[]⟩:Str).cps++p.cps) a).toList=a.toList++(l.map (·.cps.toList)).flatten:=by
 induction l with
 |nil=>intro a;simp
 |cons x r ih=>intro a;rw[l6,ih];simp
theorem zGL (a:List Str):lq ⟨#[]⟩ a=⟨(a.map (·.cps.toList)).flatten.toArray⟩:=by
 apply MyS.Str_ext
 show((a.drop 1).foldl (fun b p=>b++(⟨#[]⟩:Str).cps++p.cps) (a.headD oI).cps).toList=(a.map (·.cps.toList)).flatten.toArray.toList
 rw[zGK]
 cases a with
 |nil=>rfl
 |cons x r=>simp
def zGM:V->List V->Hp->VK->Prop:=fun x vs H Q=>∃d kvs k v,x=.ref d/\vs=[kV k,v]/\H d=some (.dK kvs)/\kvs.length<sizeLine/\(∀y,yL kvs k=some y->Q y H)/\(yL kvs k=none->Q v (upd H d (.dK (yQ kvs k v))))
theorem zGN:MtM X "dict.setdefault" zGM:=by
 intro i s σ H x vs v L Q I n o h
 obtain⟨d,kvs,k,y,rfl,rfl,hd,hz,p,r⟩:=h
 cases n
 obtain⟨u,A,rfl,B,b⟩:=jS o
 obtain⟨z,j,l,rel,m⟩:=jZ I.hok hd
 have f:l.length<=sizeLine:=by rw[<-rel.length];exact z
 refine ia fA m.typeIs PySem.F.entry_dict_setdefault (PySem.F.args_dict_setdefault_3 _ _ _) (kt_meets_setdefault (vJ X.prog X.w) d (k3 B) j A) ⟨l,m,f,fun M C=>?_,fun D h' c E=>?_⟩
 ·have a:=rel.val k
  rw[C]at a
  cases e:yL kvs k with
  |none=>rw[e]at a;exact a.elim
  |some g=>
   rw[e]at a
   exact⟨g,H,I.tok _,a,p g e⟩
 ·have a:=rel.val k
  rw[D]at a
  cases e:yL kvs k with
  |some g=>rw[e]at a;exact a.elim
  |none=>
   have G:∃q,h'.get? d=some q:=let⟨q,_,_,J,_⟩:=c;⟨q,J⟩
   have hl:(yQ kvs k y).length<=sizeLine:=by have:=zAH kvs k y;omega
   exact⟨y,_,zAJ I (by rw[hd];exact True.intro) E G (zCB hl j (rel.put k b) c),b,r e⟩
def zGO:List V->Hp->VK->Prop:=fun xs H Q=>∃d kvs,xs=[.ref d]/\H d=some (.dK (j6 kvs))/\(kvs.map (·.1)).Nodup/\kvs.length<64/\
 ∀(out:List Str) (l:av),out.Perm (kvs.map (·.1))->out.Pairwise (fun a b=>a.cps.toList<b.cps.toList)->H l=none->Q (.ref l) (upd H l (.lst (out.map V.str)))
theorem zGP (hc:X.calm=true):vD X (.builtin "sorted") zGO:=by
 intro G s σ H xs us Q I rx h
 obtain⟨d,kvs,rfl,hd,nd,T,q⟩:=h
 obtain⟨u,rfl,ru⟩:=vS rx
 cases ru
 obtain⟨z,hm,ws,rel,dd⟩:=jZ I.hok hd
 have r:ws.length=kvs.length:=by have:=rel.length;simpa using this.symm
 obtain⟨ep,U⟩:=dd.dictAt
 refine dq jb ij ik (il _) ?_
 unfold b7.«sorted»
 refine aa (m:=checkCount "sorted" 1 1 _) (ag ?_)
 refine aa (PySem.W.kdu_collect (A:=X.A.in1) (PySem.W.kdl_dict (knd:=vJ X.prog X.w) (kvs:=ws) (ep:=ep) hm) (I.ok.hd hc) U (by rw[r,aV];omega) fun h' tk a hk c=>?_)
 have f:a.toList.length=kvs.length:=by rw[aN];exact c.1.trans r
 have Y:mm a.toList (kvs.map (·.1)):=by
  have J:∀v∈a.toList,∃x t,v=Value.str x t:=fun v hv=>by
   obtain⟨i,hi,e⟩:=dG hv
   obtain⟨k,x,e1,E⟩:=c.2 i v (by rw[<-dh,aC hi,e])
   obtain⟨y,f1,_⟩:=KV.get rel e1
   rw[az]at f1
   cases g:kvs[i]? with
   |none=>rw[g]at f1;cases f1
   |some p=>
    rw[g]at f1
    have:(Sum.inr p.1:zL)=k:=(bE (aH f1)).1
    subst this
    have C:v8 (Sum.inr p.1) v=true:=E
    rcases vI C with⟨j,t,F,_⟩|⟨w,t,F,Z⟩
    ·cases F
    ·exact⟨w,t,Z⟩
  have e0:=strsAre_map a.toList J
  have:a.toList.map strOf=kvs.map (·.1):=by
   apply bS
   ·simp only[ak,f]
   ·intro i h1 L
    have hi:i<a.toList.length:=by simpa using h1
    have ab:i<kvs.length:=by simpa using L
    obtain⟨k,x,e1,E⟩:=c.2 i a.toList[i] (by rw[<-dh,aC hi])
    obtain⟨y,f1,_⟩:=KV.get rel e1
    rw[az,aC ab]at f1
    have:(Sum.inr kvs[i].1:zL)=k:=(bE (aH f1)).1
    subst this
    have C:v8 (Sum.inr kvs[i].1) a.toList[i]=true:=E
    rcases vI C with⟨j,t,F,_⟩|⟨w,t,F,Z⟩
    ·cases F
    ·have:kvs[i].1=w:=iT F
     rw[cZ,cZ,Z,this]
     rfl
  rw[this]at e0
  exact e0
 refine aa (ft ?_ (by rw[f,aV];omega))
 generalize hB:h'.objs.size=B
 have M:(h'.push {cls:=.type "list",data:=.seq a.toList.toArray}).get? B=some (seqObj "list" a.toList.toArray 0):=by
  rw[<-hB];exact aw _ rfl
 refine aa (bD (bR fP ⟨_,M,rfl⟩ fz (MyS.sort_strs (ks:=kvs.map (·.1)) M Y nd (by rw[f];exact T) fun pm L E n N ac al=>⟨_,rfl,?_⟩) (fQ _)))
 refine ag ⟨_,rfl,?_⟩
 rw[f]at n
 have O:∀i∈pm,i<kvs.length:=fun i hi=>bp.mp (n.mem_iff.mp hi)
 have P:∀b o,s.heap.get? b=some o->L.get? b=some o:=fun b o e=>by
  have e1:=hk b o e
  refine ac b o ?_ (ae _ e1)
  rw[<-hB];exact aG (aA e1)
 have R:s.heap.get? B=none:=by
  cases g:s.heap.get? B with
  |none=>rfl
  |some o=>
   have h0:=aA (hk B o g)
   rw[hB]at h0
   exact absurd h0 (bG _)
 have eqU:upd H B (.lst ((pm.map fun i=>(kvs.map (·.1)).getD i ⟨#[]⟩).map V.str))=y0 H [(B,.lst ((pm.map fun i=>(kvs.map (·.1)).getD i ⟨#[]⟩).map V.str))]:=by
  funext b
  unfold upd y0
  by_cases hb:b=B
  ·subst hb;simp
  ·have am:(b==B)=false:=by simpa using hb
   rw[if_neg hb,bz,am]
   rfl
 have IM:Inv X G σ (y0 H [(B,.lst ((pm.map fun i=>(kvs.map (·.1)).getD i ⟨#[]⟩).map V.str))]) {s with heap:=L,toks:=tk}:=by
  refine I.many P (fun p hp=>?_) fun p hp=>?_
  ·rcases aE.mp hp with e|e
   ·rw[e];exact R
   ·cases e
  ·rcases aE.mp hp with e|e
   ·subst e
    refine⟨?_,(pm.map fun i=>a.toList.getD i Value.none),_,?_,al⟩
    ·show(mF V.str (pm.map _)).length<=_
     rw[ak,ak,n.length_eq,bL,aV];omega
    ·have go:∀l:List Nat,(∀i∈l,i<kvs.length)->zF ((l.map fun i=>(kvs.map (·.1)).getD i ⟨#[]⟩).map V.str) (l.map fun i=>a.toList.getD i Value.none):=by
      intro l
      induction l with
      |nil=>intro _;exact .nil
      |cons i l ih=>
       intro hl
       have hi:=hl i (ao ..)
       have D:i<a.toList.length:=by omega
       refine .cons ?_ (ih fun j hj=>hl j (au _ hj))
       obtain⟨x,t,e⟩:=Y.all a.toList[i] (cg D)
       refine⟨t,?_⟩
       have e1:a.toList.getD i Value.none=a.toList[i]:=by
        rw[bQ,aC D];rfl
       have E:(kvs.map (·.1)).getD i ⟨#[]⟩=x:=by
        rw[<-Y.strs,bQ,az,aC D,e];rfl
       dsimp only
       rw[e1,E,e]
     exact go pm O
   ·cases e
 refine⟨.ref B,_,IM,rfl,?_⟩
 rw[<-eqU]
 refine q _ B ?_ ?_ (I.hok.free R)
 ·have e1:(aS kvs.length).map (fun i=>(kvs.map (·.1)).getD i (⟨#[]⟩:Str))=kvs.map (·.1):=by
   apply bS
   ·simp
   ·intro i h1 L
    have hi:i<kvs.length:=by simpa using h1
    simp[hi]
  have:=n.map (fun i=>(kvs.map (·.1)).getD i (⟨#[]⟩:Str))
  rw[e1]at this
  exact this
 ·rw[aQ]
  rw[aQ]at N
  exact N
theorem zGQ:z4 X (binaryOp .Add) (fun x y H Q=>∃a b j,x=.ref a/\y=.ref b/\zW X.K H a []/\zW X.K H b j/\Q (.ref b) H):=by
 intro l s σ H x y v u Q I r w h
 obtain⟨a,b,j,rfl,rfl,z,A,q⟩:=h
 cases r
 cases w
 obtain⟨its,B,C,_⟩:=I.tuple z
 obtain⟨c,L,D,_⟩:=I.tuple A
 have E:its=[]:=by cases B;rfl
 subst E
 obtain⟨⟨cls,F,data,G⟩,m,o,n,hd⟩:=id C
 obtain⟨⟨p,g,data2,i⟩,d,e,J,f⟩:=id D
 simp only at o hd e f
 subst o hd e f
 exact kx ⟨_,m,rfl⟩ ⟨_,d,rfl⟩ gk jn eW eR (eI _ _)
  (tuple_addW0 a b _ c.toArray n J F g G i (by simp)) ⟨m,d,⟨.ref b,H,I,rfl,q⟩⟩
end
section
variable{prog:aI}{w:aR}{A:bF}{E:af->aj->Prop}{s:aj}
theorem zGR {c:av}{n:Nat}{tk:Tok}{Q:Int×Int×Nat->aj->Prop}(f:s.heap.IsSliceOf c .none .none (.int (-1) tk))(h:Q ((n:Int)-1,-1,n) s) :
  wpAny (model prog w) A (fR (.ref c) (pure (n:Int))) Q E s:=by
 obtain⟨os,a,g,b⟩:=id f
 unfold fR mX
 refine aa (aa (lY a b (x:=.none) rfl (aa (lY a b (x:=.none) rfl (aa (lY a b (x:=.int (-1) tk) rfl (ag ?_)))))))
 refine aa (slicePart_int ?_)
 show wpAny _ _ (if((-1:Int)==0)=true then _ else _) _ _ s
 rw[if_neg (by decide)]
 refine aa (mG (aa (mG (aa (ag ?_)))))
 show wpAny _ _ (pure ((n:Int)-1,(-1:Int),eD ((n:Int)-1) (-1) (-1))) _ _ s
 have e:eD ((n:Int)-1) (-1) (-1)=n:=by
  unfold eD
  rw[if_neg (by decide)]
  by_cases d:(n:Int)-1> -1
  ·rw[if_pos d,show(-(-1):Int)=1 from rfl,Int.ediv_one]
   omega
  ·rw[if_neg d];omega
 rw[e]
 exact ag h
theorem zGS (xs:Array af):((aS xs.size).filterMap fun(m:Nat)=>xs[((xs.size:Int)-1+(m:Int)*(-1)).toNat]?).toArray=xs.toList.reverse.toArray:=by
 congr 1
 apply List.ext_getElem?
 intro i
 have key:(aS xs.size).filterMap (fun(m:Nat)=>xs[((xs.size:Int)-1+(m:Int)*(-1)).toNat]?)=(aS xs.size).map fun m=>(xs[xs.size-1-m]?).getD Value.none:=by
  have go:∀l:List Nat,(∀m∈l,m<xs.size)->l.filterMap (fun(m:Nat)=>xs[((xs.size:Int)-1+(m:Int)*(-1)).toNat]?)=l.map fun m=>(xs[xs.size-1-m]?).getD Value.none:=by
   intro l
   induction l with
   |nil=>intro _;rfl
   |cons m l ih=>
    intro hl
    have c:=hl m (ao ..)
    have e:((xs.size:Int)-1+(m:Int)*(-1)).toNat=xs.size-1-m:=by omega
    have a:xs.size-1-m<xs.size:=by omega
    have b:xs[xs.size-1-m]?=some xs[xs.size-1-m]:=by simp[a]
    rw[eE,e,b,aM,ih fun j d=>hl j (au _ d),b]
    rfl
  exact go _ fun m f=>bp.mp f
 rw[key,az]
 by_cases hi:i<xs.size
 ·rw[fD hi,List.getElem?_reverse (by simpa using hi)]
  have a:xs.size-1-i<xs.size:=by omega
  simp[a]
 ·rw[fk (by simpa using hi),fk (by simpa using hi)]
  rfl
theorem zGT {t c:av}{items:Array af}{tk:Tok}{Q:af->aj->Prop}(b:IsTup s.heap t items)(g:s.heap.IsSliceOf c .none .none (.int (-1) tk))
  (h:Q (.ref s.heap.objs.size) {s with heap:=s.heap.push {cls:=.type "tuple",data:=.seq items.toList.reverse.toArray}}) (hsz:items.size<=sizeLine):wpAny (model prog w) A (getItem (.ref t) (.ref c)) Q E s:=by
 have a:sizeOk (.seq items.toList.reverse.toArray):=by
  show items.toList.reverse.toArray.size<=sizeLine
  simpa using hsz
 obtain⟨os,d,e,i⟩:=id g
 have f:s.TypeIs (.ref c) "slice" :=⟨os,d,e⟩
 unfold getItem
 try with_reducible refine bD ?_
 first|refine aa (ag ?_)|skip
 refine aa (wpAny_sequenceKey b.typeIs (by decide) ?_)
 refine aa (dP (name:=eZ "__getitem__") b.typeIs dF (bR dF b.typeIs entry_tuple_getitem ?_ (args_tuple_getitem _ _)))
 show wpAny _ _ (mH (.ref t)>>=_) _ _ s
 refine aa (tupleItemsOf_ b (aa (eC f ?_)))
 rw[if_pos (by decide)]
 refine aa (zGR g ?_)
 show wpAny _ _ (if(((items.size:Int)-1==0)&& ((-1:Int)==1)&& (items.size==items.size))=true then _ else _) _ _ s
 rw[if_neg (by simp),zGS]
 first
  |exact aa (m:=dD _) (bC (ag ⟨_,rfl,ag h⟩) a)
  |exact aa (m:=dD _) (bC (aa (ag (ag ⟨_,rfl,ag h⟩))) a)
  |exact aa (aa (m:=dD _) (bC (ag (ag ⟨_,rfl,ag h⟩)) a))
  |exact aa (aa (m:=dD _) (bC (ag ⟨_,rfl,ag h⟩) a))
end
theorem zF.rev {xs:List V}{a:List af}(r:zF xs a):zF xs.reverse a.reverse:=by
 unfold zF at r
 induction r with
 |nil=>exact .nil
 |cons h _ ih=>rw[dz,dz];exact zF.append ih (.cons h .nil)
section
variable{X:Cx}{e st:bV}{te ts:TE}{pos p2:Pos}
def zGU (K:ai)(te ts:TE):TE:=fun σ H Q=>te σ H fun x H1=>ts σ H1 fun y H2=>∃a xs,x=.ref a/\y=.int (-1)/\zW K H2 a xs/\∀p,H2 p=none->Q (.ref p) (upd H2 p (.tup xs.reverse))
theorem zGV (j:PE X e te)(l:PE X st ts):PE X (.Subscript e (.Slice none none (some st) p2) pos) (zGU X.K te ts):=by
 intro c s σ H Q I h
 refine jy (zG (j c s σ H _ I h) fun v m ⟨x,n,p,z,B⟩=>?_)
 refine wpAny_Slice ?_
 rw[jo]
 refine ag (ag ?_)
 rw[ny]
 refine zG (l c m σ n _ p B) fun u d ⟨y,C,D,E,F⟩=>?_
 obtain⟨a,xs,rfl,rfl,G,q⟩:=F
 cases z
 obtain⟨tk,rfl⟩:=E
 have g:Inv X c σ C {d with heap:=d.heap.push {cls:=.type "slice",data:=.fields #[.none,.none,.int (-1) tk]}}:=D.kept (t':=d.toks) fun b J q=>ae _ q
 obtain⟨its,r,i,hz⟩:=g.tuple G
 have f:its.toArray.size=xs.length:=by rw[aY];exact r.length.symm
 show wpAny (model X.prog X.w) X.A (subscriptTail e (.Slice none none (some st) p2) (.ref a) (.ref d.heap.objs.size)) (EP X c σ Q) X.xe {d with heap:=d.heap.push {cls:=.type "slice",data:=.fields #[.none,.none,.int (-1) tk]}}
 refine oh (ops:=[.ref a,.ref d.heap.objs.size]) i.typeIs dF.lookup (zGT i (oD ..) ?_ (by rw[f];exact hz)) (by with_unfolding_all rfl)
 refine⟨.ref _,_,g.laid (t':=d.toks) (o:=.tup xs.reverse) (fun b J q=>ae _ q) (ay _) ?_,rfl,q _ (g.hok.fresh (ay _))⟩
 exact⟨by rw[eF];exact hz,its.reverse,r.rev,nN _ _⟩
end
structure Known (J:It) (items:List V) (Hk:Hp->Prop):Prop where
 go:∀i H,Hk H->i<items.length->J.go i H
 yld:∀i H x H',Hk H->J.yld i H x H'->H'=H/\(i<items.length->items[i]?=some x)
 stop:∀H,Hk H->J.stop items.length H
theorem zAW (lo:Int)(n:Nat):Known (kR lo n) ((aS n).map fun(i:Nat)=>V.int (lo+(i:Int))) (fun _=>True) :=
 ⟨fun i H _ h=>by show i<n;simpa using h,fun i H x H' _ h=>⟨h.1,fun hi=>by
  have a:i<n:=by simpa using hi
  rw[az,fD a,h.2];rfl⟩,fun H _=>by show n<=_;simp⟩
theorem vV (K:ai)(a:av)(xs:List V):Known (g9 K a) xs (fun H=>zV K H a xs) :=
 ⟨fun i H h hi=>⟨xs,xs[i],h,aC hi⟩,fun i H x H' h y=>⟨y.1,fun _=>y.2 xs h⟩,fun H h=>⟨xs,h,ay _⟩⟩
theorem jF (K:ai)(a:av)(xs:List V):Known (Itt K a) xs (fun H=>zW K H a xs) :=
 ⟨fun i H h hi=>⟨xs,xs[i],h,aC hi⟩,fun i H x H' h y=>⟨y.1,fun _=>y.2 xs h⟩,fun H h=>⟨xs,h,ay _⟩⟩
theorem zGW (z:Str):Known (Its z) (z.cps.toList.map fun c=>V.str ⟨#[c]⟩) (fun _=>True) :=
 ⟨fun i H _ h=>by show i<z.cps.size;simpa using h,fun i H x H' _ h=>⟨h.1,fun _=>by
  obtain⟨c,e1,a⟩:=h.2
  rw[az,dh,e1,a];rfl⟩,fun H _=>by show _=z.cps.size;simp⟩
theorem jG {J:It}{items:List V}{E:Hp->Prop}(w:Known J items E){caps:List Nat}{n:Nat}{σ:St}{g:TG}{G:TT}{I:TE}{F:List V->Hp->Prop}{L:Hp}(l:St)(k:Nat)(R:items.length<1000)
  (Pv:Nat->List V->Hp->Prop) (M:Pv 0 [] L) (N:∀i a H,i<=items.length->Pv i a H->E H/\a.length<=i)
  (o:∀(i:Nat) (x:V) (a:List V) (H:Hp) (f:St) (z:List V->St->Hp->Prop),(∀c H' v,v.length=k->Pv (i+1) c H'->z c (l++v) H')->items[i]?=some x->f.length=k->Pv i a H->
   g x (l++f) H fun d A=>G d A fun b q=>if b=true then I d q fun y j=>z (a++[y]) d j else z a d q)
  (fin:∀a H,Pv items.length a H->F a H) (B:uE caps n σ=l++cB k none:=by rfl) :
  ∃W:Nat->Nat->List V->St->Hp->Prop,(∃m,W 0 m [] (uE caps n σ) L)/\∀i m a r H',W i m a r H'->
   (J.stop i H'/\F a H')\/
   (J.go i H'/\a.length<sizeLine/\∀x s,J.yld i H' x s->g x r s fun d A=>G d A fun b q=>if b=true then I d q fun y j=>∃h,h<m/\W (i+1) h (a++[y]) d j else∃h,h<m/\W (i+1) h a d q):=by
 refine⟨fun i m a r H'=>i<=items.length/\m=items.length-i/\(∃f,f.length=k/\r=l++f)/\Pv i a H',⟨items.length,bH _,rfl,⟨_,by simp,B⟩,M⟩,?_⟩
 rintro i m a r H' ⟨hi,rfl,⟨f,O,rfl⟩,pv⟩
 obtain⟨C,T⟩:=N i a H' hi pv
 by_cases e:i=items.length
 ·subst e
  exact .inl ⟨w.stop H' C,fin a H' pv⟩
 ·have u:i<items.length:=by omega
  refine .inr ⟨w.go i H' C u,by rw[aV];omega,fun x s D=>?_⟩
  obtain⟨P,Q⟩:=w.yld i H' x s C D
  subst P
  exact o i x a s f (fun c d j=>∃h,h<items.length-i/\(i+1<=items.length/\h=items.length- (i+1)/\(∃f,f.length=k/\d=l++f)/\Pv (i+1) c j)) (fun c j v hz p=>⟨items.length- (i+1),by omega,by omega,rfl,⟨v,hz,rfl⟩,p⟩) (Q u) O pv
theorem v5 {J:It}{items:List V}{w:Hp->Prop}(D:Known J items w){caps:List Nat}{n:Nat}{σ:St}{g:TG}{r:TE}{F:List V->Hp->Prop}{z:Hp}(s:St)(k:Nat)(E:items.length<1000)
  (Pv:Nat->List V->Hp->Prop) (G:Pv 0 [] z) (I:∀i a H,i<=items.length->Pv i a H->w H/\a.length<=i)
  (l:∀(i:Nat) (x:V) (a:List V) (H:Hp) (u:St) (h:List V->St->Hp->Prop),(∀d H' A,A.length=k->Pv (i+1) d H'->h d (s++A) H')->items[i]?=some x->u.length=k->Pv i a H->
   g x (s++u) H fun c f=>r c f fun y j=>h (a++[y]) c j)
  (fin:∀a H,Pv items.length a H->F a H) (v:uE caps n σ=s++cB k none:=by rfl) :
  ∃W:Nat->Nat->List V->St->Hp->Prop,(∃m,W 0 m [] (uE caps n σ) z)/\∀i m a B H',W i m a B H'->
   (J.stop i H'/\F a H')\/
   (J.go i H'/\a.length<sizeLine/\∀x C,J.yld i H' x C->g x B C fun c f=>k6 c f fun b o=>if b=true then r c o fun y j=>∃q,q<m/\W (i+1) q (a++[y]) c j else∃q,q<m/\W (i+1) q a c o):=by
 refine jG D s k E Pv G I (fun i x a H u h L M N p=>?_) fin v
 have:=l i x a H u h L M N p
 have e:(fun(c:St) (f:Hp)=>k6 c f fun b o=>if b=true then r c o fun y j=>h (a++[y]) c j else h a c o)=fun c f=>r c f fun y j=>h (a++[y]) c j:=by
  funext c f
  unfold k6
  exact if_pos rfl
 rw[e]
 exact this
theorem jH {J:It}{items:List V}{o:Hp->Prop}(f:Known J items o){g:TG}{tb:TS}{D:Ends}{σ:St}{H:Hp}(Pv:Nat->St->Hp->Prop)(r:Pv 0 σ H)(s:∀i σ H,i<=items.length->Pv i σ H->o H)
  (c:∀(i:Nat) (x:V) (σ:St) (H:Hp) (h:St->Hp->Prop),(∀a H',Pv (i+1) a H'->h a H')->items[i]?=some x->Pv i σ H->g x σ H fun j b=>tb {D with nx:=h,ct:=h,bk:=D.nx} j b)
  (fin:∀σ H,Pv items.length σ H->D.nx σ H) :
  ∃W:Nat->Nat->St->Hp->Prop,(∃m,W 0 m σ H)/\∀i m σ H,W i m σ H->
   (J.stop i H/\D.nx σ H)\/(J.go i H/\∃N:St->Hp->Prop,(∀a H',N a H'->∃q,q<m/\W (i+1) q a H')/\∀x H',J.yld i H x H'->g x σ H' fun j b=>tb {D with nx:=N,ct:=N,bk:=D.nx} j b):=by
 refine⟨fun i m σ H=>i<=items.length/\m=items.length-i/\Pv i σ H,⟨items.length,bH _,rfl,r⟩,?_⟩
 rintro i m σ H ⟨hi,rfl,pv⟩
 have l:=s i σ H hi pv
 by_cases e:i=items.length
 ·subst e
  exact .inl ⟨f.stop H l,fin σ H pv⟩
 ·have d:i<items.length:=by omega
  refine .inr ⟨f.go i H l d,Pv (i+1),fun a H' p=>⟨items.length- (i+1),by omega,by omega,rfl,p⟩,fun x b n=>?_⟩
  obtain⟨u,v⟩:=f.yld i H x b l n
  subst u
  exact c i x σ b (Pv (i+1)) (fun _ _ p=>p) (v d) pv
theorem j7 {c A B:Prop} [Decidable c] (a:c)(h:A):if decide c=true then A else B:=by
 rw[if_pos (decide_eq_true a)];exact h
theorem zAX {c A B:Prop} [Decidable c] (a:¬c)(h:B):if decide c=true then A else B:=by
 rw[if_neg (fun z=>a (of_decide_eq_true z))];exact h
theorem zA.upd_new {H H':Hp}{a:av}{o:HO}(e:zA H H')(h:H a=none):zA H (upd H' a o):=fun b u q=>by
 rw[zQ (y9 q h)];exact e b u q
theorem zA.upd1 {H:Hp}{a:av}{o:HO}(h:H a=none):zA H (upd H a o):=(zA.refl H).upd_new h
def gC (sc:ef)(XN N:List Str)(scope:ef):Nat->List Nat->Bool
 |_,[]=>true
 |i,c::cs=>(match N[i]? with
  |some x=>decide (XN[c]?=some x)&&decide (scope.names.lookup x=some .free)&& (decide (sc.names.lookup x=some .cell)||decide (sc.names.lookup x=some .free))
  |none=>false)&&gC sc XN N scope (i+1) cs
def zCg (sc:ef)(XN N:List Str)(scope:ef)(caps:List Nat):Bool :=
 decide (scope.kind=.function)&&decide N.Nodup&&scope.names.all (fun y=>decide (y.2≠.cell))&&scope.names.all (fun y=>decide (y.2=.local->scope.names.lookup y.1=some .local))&&
 scope.names.all (fun y=>decide (y.2=.free->sc.names.lookup y.1=some .cell\/sc.names.lookup y.1=some .free))&&gC sc XN N scope 0 caps&&decide (caps.length<=N.length)
theorem zCh {g:ef}{l N:List Str}{scope:ef}:∀{caps:List Nat}{j:Nat},gC g l N scope j caps=true->∀i,i<caps.length->
  ∃x,N[j+i]?=some x/\l[caps.getD i 0]?=some x/\scope.names.lookup x=some .free/\(g.names.lookup x=some .cell\/g.names.lookup x=some .free)
 | [],_,_,i,hi=>by simp at hi
 |c::o,j,h,i,hi=>by
  unfold gC at h
  rw[cG]at h
  obtain⟨f,m⟩:=h
  cases i with
  |zero=>
   cases e:N[j]? with
   |none=>rw[e]at f;cases f
   |some x=>
    rw[e]at f
    simp only[cG,Bool.or_eq_true,decide_eq_true_eq]at f
    exact⟨x,by simpa using e,by simpa using f.1.1,f.1.2,f.2⟩
  |succ i=>
   obtain⟨x,a,b,n,d⟩:=zCh m i (by simpa using hi)
   exact⟨x,by rw[<-a];congr 1;omega,by simpa using b,n,d⟩
theorem y6 {j:ef}{l N:List Str}{scope:ef}{caps:List Nat}(h:zCg j l N scope caps=true):CompScope j l N scope caps:=by
 unfold zCg at h
 simp only[cG,decide_eq_true_eq,lP]at h
 obtain⟨⟨⟨⟨⟨⟨a,b⟩,c⟩,d⟩,e⟩,f⟩,g⟩:=h
 exact⟨a,b,c,d,e,fun i hi=>by simpa using zCh f i hi,g⟩
section
variable{X:Cx}{elts:List bV}{k:Nat}{tpos:Pos}
theorem zGX:jB X "str.endswith" (fun x vs H Q=>∃a b:Str,x=.str a/\vs=[.str b]/\Q (.bl (cJ a b)) H):=by
 intro c s σ H x vs v g Q I d e h
 obtain⟨a,b,rfl,rfl,q⟩:=h
 obtain⟨t,rfl⟩:=d
 obtain⟨u,rfl,f⟩:=vS e
 obtain⟨t',rfl⟩:=f
 exact SC.endswith ⟨.bl _,H,I,rfl,q⟩
end
theorem zGY:typeLookup (.type "list") "keys"=pure none:=am_miss_of_fast (by kernel_rfl)
theorem zGZ {prog:aI}{w:aR}{A:bF}{E:af->aj->Prop}{s:aj}{a:av}{o:Obj}{xs:Array af}{k:Nat}{name:Str}{Q:Option af->aj->Prop}
  (n:s.heap.get? a=some o) (p:o.cls=.type "list") (f:o.data=.seq xs k) (hd:o.dict=none) (i:typeLookup (.type "list") name=pure none) (j:(["__module__","__name__","__qualname__","__doc__","__annotations__"]:List Str).contains name=false) (u:A.handled=none)
  (h:∀h' tk,(∀b q,s.heap.get? b=some q->h'.get? b=some q)->Q none {s with heap:=h',toks:=tk}) (hsz:name.length+100<=sizeLine:=by size_fits) :
  wpAny (model prog w) A (getAttr? (.ref a) name) Q E s:=by
 obtain⟨c,v,x,y⟩:=o
 simp only at p f hd
 subst p f hd
 obtain⟨z,g,d,tk,os⟩:=s
 have r:∀l,(⟨z,g,d,l,os⟩:aj).TypeIs (.ref a) "list" :=fun _=>⟨_,n,rfl⟩
 have f1:=sub_AttributeError
 have B:=dQ.lookup
 have C:=dQ.bind (.ref a)
 have D:=am_list_getattr_none
 unfold getAttr? getAttrBy? getAttrBy
 repeat(any_goals (first|assumption|exact r _|((with_reducible show wpAny _ _ (call (Value.builtin "list.__getattribute__") _ _) _ _ _);refine mD dQ (r _) am_entry_list_getattribute (PySem.F.args_list_getattribute_2 _ _) (meets_getattribute_miss_list a xs k y name _ i j hsz) ⟨n,u,fun h' l e m=>?_⟩)|wp_step))
 obtain⟨t',G,H⟩:=m.there
 show wpAny _ _ (getattributeRaised _ _ _ _ _ _ _) _ _ _
 unfold getattributeRaised
 repeat(any_goals (first|assumption|wp_step))
 exact h _ _ m.of.keeps
theorem zCi:entryFor table "dict.update.loop"=some b7.«dict.update.loop»:=lQ (by kernel_rfl)
theorem gD:plainId "dict.update.loop"=true:=by decide+kernel
section
variable{X:Cx}
def zCj (K:ai)(H:Hp)(ts:List V)(kvs:List (Str×V)):Prop:=ts.length=kvs.length/\∀(i:Nat) (q:Str×V),kvs[i]?=some q->∃a,ts[i]?=some (.ref a)/\zW K H a [.str q.1,q.2]
end
end L2
end
section
set_option autoImplicit false
namespace Kn
abbrev S:=List Nat
section
variable{κ α:Type} [DecidableEq κ]
def zJ:List (κ×α)->κ->α->List (κ×α)
 | [],k,v=>[(k,v)]
 |(k',v')::r,k,v=>if k'=k then(k',v)::r else(k',v')::zJ r k v
def zE:List (κ×α)->κ->Option α
 | [],_=>none
 |(k',v')::r,k=>if k'=k then some v' else zE r k
theorem j8 (l:List (κ×α))(k a:κ)(v:α):zE (zJ l k v) a=if k=a then some v else zE l a:=by
 induction l with
 |nil=>simp[zJ,zE]
 |cons p r ih=>
  obtain⟨b,v0⟩:=p
  by_cases h:b=k
  ·subst h
   by_cases h':b=a<;>simp[zJ,zE,h']
  ·simp only[zJ,if_neg h,zE,ih]
   by_cases c:b=a
   ·subst c
    rw[if_pos rfl,if_pos rfl,if_neg (fun e=>h e.symm)]
   ·rw[if_neg c,if_neg c]
theorem zCk (l:List (κ×α))(k:κ)(v:α):(zJ l k v).map (·.1)=if k∈l.map (·.1)then l.map (·.1)else l.map (·.1)++[k]:=by
 induction l with
 |nil=>simp[zJ]
 |cons p r ih=>
  obtain⟨a,v0⟩:=p
  by_cases h:a=k
  ·subst h;simp[zJ]
  ·have h':¬k=a:=fun e=>h e.symm
   simp only[zJ,if_neg h,aM,ih,aE,h',false_or]
   split<;>simp
theorem gE {l:List (κ×α)}{k:κ}{v:α}(h:(l.map (·.1)).Nodup):((zJ l k v).map (·.1)).Nodup:=by
 rw[zCk]
 split
 ·exact h
 ·rename_i c
  exact fb.mpr ⟨h,by simp,fun a d b f e=>by
   have:b=k:=by simpa using f
   subst this;subst e;exact c d⟩
theorem vM {l:List (κ×α)}(h:(l.map (·.1)).Nodup)(k:κ)(v:α):(k,v)∈l↔zE l k=some v:=by
 induction l with
 |nil=>simp[zE]
 |cons p r ih=>
  obtain⟨a,v0⟩:=p
  have b:a∉r.map (·.1):=(bA.mp h).1
  have c:=ih (bA.mp h).2
  by_cases e:a=k
  ·subst e
   have g:zE ((a,v0)::r) a=some v0:=by simp[zE]
   rw[g,aE]
   constructor
   ·rintro(z|z)
    ·rw[(bE z).2]
    ·exact absurd (dH (f:=(·.1)) z) b
   ·intro z;rw[aH z];exact .inl rfl
  ·simp only[zE,if_neg e,aE,Prod.mk.injEq]
   rw[<-c]
   constructor
   ·rintro(z|z)
    ·exact absurd z.1.symm e
    ·exact z
   ·intro z;exact .inr z
theorem gF {l:List (κ×α)}{k:κ}:zE l k=none↔k∉l.map (·.1):=by
 induction l with
 |nil=>simp[zE]
 |cons p r ih=>
  obtain⟨a,v0⟩:=p
  by_cases e:a=k
  ·subst e;simp[zE]
  ·have b:¬k=a:=fun z=>e z.symm
   simp only[zE,if_neg e,ih,aM,aE,b,false_or]
end
def y7 (row:List (S×Int))(l:S):List (S×Int):=zJ row l ((zE row l).getD 0+1)
def vW (rows:List (S×List (S×Int)))(p:S×S):List (S×List (S×Int)):=zJ rows p.1 (y7 ((zE rows p.1).getD []) p.2)
def yY (ps:List (S×S)):List (S×List (S×Int)):=ps.foldl vW []
theorem zGa (a:List (S×S))(p:S×S):yY (a++[p])=vW (yY a) p:=by
 unfold yY;rw[lr];rfl
def zP (t:S)(o:Nat):S:=t.drop (t.length-o)
def z7 (o:Nat)(nm:S):List (S×S):=(aS (nm.length+1)).map fun p=>(zP (nm.take p) o,(nm.drop p).take 1)
def zC (o:Nat)(bk:List S):List (S×S):=bk.flatMap (z7 o)
structure RowsOk (ps:List (S×S)) (rows:List (S×List (S×Int))):Prop where
 nd:(rows.map (·.1)).Nodup
 ndr:∀e row,(e,row)∈rows->(row.map (·.1)).Nodup
 val:∀e l,zE ((zE rows e).getD []) l=if 0<ps.count (e,l)then some (ps.count (e,l):Int)else none
 has:∀e,(∃row,zE rows e=some row)↔∃l,(e,l)∈ps
theorem uF (c:List (S×S)):RowsOk c (yY c):=by
 suffices h:∀(i c:List (S×S)) rows,RowsOk c rows->RowsOk (c++i) (i.foldl vW rows) by
  have:=h c [] [] ⟨by simp,by simp,by simp[zE],by simp[zE]⟩
  simpa [yY]using this
 intro i
 induction i with
 |nil=>intro c rows h;simpa using h
 |cons q i ih=>
  intro c rows h
  obtain⟨a,b⟩:=q
  have step:RowsOk (c++[(a,b)]) (vW rows (a,b)):=by
   have j:((((zE rows a).getD []).map (·.1))).Nodup:=by
    cases g:zE rows a with
    |none=>simp
    |some row=>exact h.ndr a row ((vM h.nd a row).mpr g)
   refine⟨gE h.nd,fun e row m=>?_,fun e l=>?_,fun e=>?_⟩
   ·have d:=(vM (gE h.nd) e row).mp m
    unfold vW at d
    rw[j8]at d
    split at d
    ·have:=aH d
     rw[<-this]
     exact gE j
    ·exact h.ndr e row ((vM h.nd e row).mpr d)
   ·unfold vW
    rw[j8]
    by_cases f:a=e
    ·subst f
     rw[if_pos rfl]
     show zE (y7 ((zE rows a).getD []) b) l=_
     unfold y7
     rw[j8,h.val a b]
     by_cases hl:b=l
     ·subst hl
      rw[if_pos rfl,dA]
      have e1:eO (a,b) [(a,b)]=1:=by simp
      rw[e1]
      by_cases n:0<eO (a,b) c
      ·simp[n]
      ·have:eO (a,b) c=0:=by omega
       simp[this]
     ·rw[if_neg hl,h.val a l,dA]
      have e1:eO (a,l) [(a,b)]=0:=by
       simp[l9,hl]
      rw[e1,nT]
    ·rw[if_neg f]
     rw[h.val e l,dA]
     have e1:eO (e,l) [(a,b)]=0:=by
      simp[l9,f]
     rw[e1,nT]
   ·unfold vW
    rw[j8]
    by_cases f:a=e
    ·subst f
     rw[if_pos rfl]
     exact⟨fun _=>⟨b,by simp⟩,fun _=>⟨_,rfl⟩⟩
    ·rw[if_neg f,h.has e]
     constructor
     ·rintro⟨l,hl⟩;exact⟨l,bU _ hl⟩
     ·rintro⟨l,hl⟩
      rcases b8.mp hl with z|z
      ·exact⟨l,z⟩
      ·have:(e,l)=(a,b):=by simpa using z
       exact absurd (congrArg lu this).symm f
  have:=ih (c++[(a,b)]) (vW rows (a,b)) step
  simpa using this
def yH {α:Type}(xs:List (S×α)):Prop:=xs.Pairwise fun a b=>a.1<b.1
theorem qE (a:S):¬a<a:=mE a
theorem zCl {a b c:S}(d:a<b)(e:b<c):a<c:=nD d e
theorem yH.keys {α:Type}{xs:List (S×α)}(h:yH xs):(xs.map (·.1)).Nodup:=by
 unfold yH at h
 rw[ip,aQ]
 exact h.imp fun{a b} c (e:a.1=b.1)=>qE b.1 (e▸c)
theorem yH.ext {α:Type}:∀{xs a:List (S×α)},yH xs->yH a->(∀p,p∈xs↔p∈a)->xs=a
 | [],[],_,_,_=>rfl
 | [],y::a,_,_,h=>absurd ((h y).mpr (ao ..)) (by simp)
 |x::xs,[],_,_,h=>absurd ((h x).mp (ao ..)) (by simp)
 |x::xs,y::a,g,i,h=>by
  have hx1:=(bJ.mp g).1
  have b:=(bJ.mp i).1
  have d:x=y:=by
   rcases aE.mp ((h x).mp (ao ..))with e|e
   ·exact e
   ·rcases aE.mp ((h y).mpr (ao ..))with f|f
    ·exact f.symm
    ·exact absurd (zCl (b x e) (hx1 y f)) (qE _)
  subst d
  have:xs=a:=yH.ext (bJ.mp g).2 (bJ.mp i).2 fun p=>by
   constructor
   ·intro c
    rcases aE.mp ((h p).mp (au _ c))with e|e
    ·subst e;exact absurd (hx1 p c) (qE _)
    ·exact e
   ·intro c
    rcases aE.mp ((h p).mpr (au _ c))with e|e
    ·subst e;exact absurd (b p c) (qE _)
    ·exact e
  rw[this]
structure IsRow (ps:List (S×S)) (e:S) (xs:List (S×Int)):Prop where
 ris:yH xs
 mem:∀l n,(l,n)∈xs↔n=(ps.count (e,l):Int)/\0<n
theorem IsRow.uniq {c:List (S×S)}{e:S}{xs d:List (S×Int)}(a:IsRow c e xs)(b:IsRow c e d):xs=d :=
 yH.ext a.ris b.ris fun p=>by obtain⟨l,n⟩:=p;rw[a.mem,b.mem]
theorem IsRow.of {a:List (S×S)}{rows:List (S×List (S×Int))}(h:RowsOk a rows){e:S}{xs:List (S×Int)}(d:yH xs)(f:xs.Perm ((zE rows e).getD [])):IsRow a e xs:=by
 refine⟨d,fun l n=>?_⟩
 have b:(((zE rows e).getD []).map (·.1)).Nodup:=by
  cases g:zE rows e with
  |none=>simp
  |some row=>exact h.ndr e row ((vM h.nd e row).mpr g)
 rw[f.mem_iff,vM b,h.val]
 by_cases c:0<eO (e,l) a
 ·rw[if_pos c]
  constructor
  ·intro z
   have:=aH z
   omega
  ·rintro⟨z,_⟩;rw[z]
 ·rw[if_neg c]
  constructor
  ·intro z;cases z
  ·rintro⟨i,j⟩;omega
structure IsTable (ps:List (S×S)) (tb:List (S×List (S×Int))):Prop where
 ris:yH tb
 has:∀e,(∃xs,(e,xs)∈tb)↔∃l,(e,l)∈ps
 row:∀e xs,(e,xs)∈tb->IsRow ps e xs
theorem IsTable.uniq {f:List (S×S)}{t u:List (S×List (S×Int))}(a:IsTable f t)(b:IsTable f u):t=u :=
 yH.ext a.ris b.ris fun p=>by
  obtain⟨e,xs⟩:=p
  constructor
  ·intro h
   obtain⟨d,c⟩:=(b.has e).mpr ((a.has e).mp ⟨xs,h⟩)
   rw[(a.row e xs h).uniq (b.row e d c)];exact c
  ·intro h
   obtain⟨d,c⟩:=(a.has e).mpr ((b.has e).mp ⟨xs,h⟩)
   rw[(b.row e xs h).uniq (a.row e d c)];exact c
theorem IsRow.congr {b c:List (S×S)}{e:S}{xs:List (S×Int)}(a:IsRow b e xs)(h:∀p,b.count p=c.count p):IsRow c e xs :=
 ⟨a.ris,fun l n=>by rw[a.mem,h]⟩
theorem IsRow.twice {b:List (S×S)}{e:S}{xs:List (S×Int)}(a:IsRow b e xs):IsRow (b++b) e (xs.map fun p=>(p.1,2*p.2)):=by
 refine⟨?_,fun l n=>?_⟩
 ·unfold yH;rw[aQ];exact a.ris
 ·rw[aB,dA]
  constructor
  ·rintro⟨⟨c,m⟩,d,f⟩
   injection f with e1 g
   dsimp only at e1 g
   subst e1
   have:=(a.mem c m).mp d
   omega
  ·rintro⟨h,i⟩
   exact⟨(l,(b.count (e,l):Int)),(a.mem l _).mpr ⟨rfl,by omega⟩,by dsimp only;congr 1;omega⟩
theorem gG {β:Type} [BEq β] [LawfulBEq β]:∀(a ks:List β),ks.Nodup->(∀x∈a,x∈ks)->(ks.map fun k=>(a.count k:Int)).sum=(a.length:Int)
 | [],ks,_,_=>by
  have:(ks.map fun k=>(([]:List β).count k:Int))=ks.map fun _=>(0:Int):=by simp
  rw[this]
  induction ks with
  |nil=>rfl
  |cons k r ih=>simp_all
 |x::a,ks,nd,h=>by
  have ih:=gG a ks nd fun y f=>h y (au _ f)
  have no:∀(ks:List β),x∉ks->(ks.map fun k=>((x::a).count k:Int)).sum=(ks.map fun k=>(a.count k:Int)).sum:=by
   intro ks
   induction ks with
   |nil=>intro _;rfl
   |cons k r ih=>
    intro b
    have hx1:¬x=k:=fun e=>b (e▸ao ..)
    have c:x∉r:=fun e=>b (au _ e)
    simp only[aM,cK,ih c,iL hx1]
  have one:∀(ks:List β),ks.Nodup->x∈ks->(ks.map fun k=>((x::a).count k:Int)).sum=(ks.map fun k=>(a.count k:Int)).sum+1:=by
   intro ks
   induction ks with
   |nil=>intro _ b;cases b
   |cons k r ih=>
    intro nd b
    have g:=(bA.mp nd).1
    by_cases e:x=k
    ·subst e
     simp only[aM,cK,no r g,List.count_cons_self]
     omega
    ·have d:x∈r:=(aE.mp b).elim (fun z=>absurd z e) id
     simp only[aM,cK,ih (bA.mp nd).2 d,iL e]
     omega
  rw[one ks nd (h x (ao ..)),ih,bf]
  omega
theorem IsRow.total {b:List (S×S)}{e:S}{xs:List (S×Int)}(a:IsRow b e xs):(xs.map (·.2)).sum=((b.filter fun p=>p.1=e).length:Int):=by
 have h:=gG (b.filter fun p=>decide (p.1=e)) (xs.map fun p=>(e,p.1)) ?_ ?_
 ·rw[<-h,aO]
  congr 1
  apply bO
  rintro⟨l,n⟩ c
  have:=((a.mem l n).mp c).1
  show n=(eO (e,l) (b.filter fun p=>decide (p.1=e)):Int)
  rw[lx (by simp)]
  exact this
 ·have:=a.ris.keys
  rw[ip,aQ]at this⊢
  exact this.imp fun{p q} d z=>d (congrArg mI z)
 ·rintro⟨g,l⟩ c
  obtain⟨i,j⟩:=bY.mp c
  have f:g=e:=by simpa using j
  subst f
  exact aB.mpr ⟨(l,(b.count (g,l):Int)),(a.mem l _).mpr ⟨rfl,by
   have:=bj.mpr i
   omega⟩,rfl⟩
theorem IsTable.total {d:List (S×S)}{tb:List (S×List (S×Int))}(a:IsTable d tb):(tb.map fun r=>(r.2.map (·.2)).sum).sum=(d.length:Int):=by
 have h:=gG d (tb.flatMap fun r=>r.2.map fun p=>(r.1,p.1)) ?_ ?_
 ·rw[<-h,gn]
  have:∀(tb:List (S×List (S×Int))),(∀e xs,(e,xs)∈tb->IsRow d e xs)->(tb.map fun r=>(r.2.map (·.2)).sum).sum=(tb.flatMap fun r=>(r.2.map fun p=>(r.1,p.1)).map fun k=>(d.count k:Int)).sum:=by
   intro tb
   induction tb with
   |nil=>intro _;rfl
   |cons r t ih=>
    intro g
    obtain⟨e,xs⟩:=r
    rw[aM,cK,ly,iH,ih fun i f b=>g i f (au _ b)]
    congr 1
    rw[aO]
    congr 1
    apply bO
    rintro⟨l,n⟩ b
    exact(((g e xs (ao ..)).mem l n).mp b).1
  exact this tb a.row
 ·have:∀(tb:List (S×List (S×Int))),yH tb->(∀e xs,(e,xs)∈tb->IsRow d e xs)->(tb.flatMap fun r=>r.2.map fun p=>(r.1,p.1)).Nodup:=by
   intro tb
   induction tb with
   |nil=>intro _ _;simp
   |cons r t ih=>
    intro g c
    obtain⟨e,xs⟩:=r
    rw[ly]
    refine fb.mpr ⟨?_,ih (bJ.mp g).2 fun i f b=>c i f (au _ b),?_⟩
    ·have:=(c e xs (ao ..)).ris.keys
     rw[ip,aQ]at this⊢
     exact this.imp fun{p q} j z=>j (congrArg mI z)
    ·intro p x q y m
     obtain⟨z,_,rfl⟩:=aB.mp x
     obtain⟨v,o,s⟩:=c6.mp y
     obtain⟨B,_,A⟩:=aB.mp s
     have:e=v.1:=by
      have:=congrArg lu (m.trans A.symm)
      exact this
     have u:=(bJ.mp g).1 v o
     exact qE _ (this▸u)
  exact this tb a.ris a.row
 ·rintro⟨e,l⟩ b
  obtain⟨xs,w⟩:=(a.has e).mpr ⟨l,b⟩
  refine c6.mpr ⟨(e,xs),w,aB.mpr ⟨(l,(d.count (e,l):Int)),((a.row e xs w).mem l _).mpr ⟨rfl,?_⟩,rfl⟩⟩
  have:=bj.mpr b
  omega
theorem gH (o:Nat)(a b:List S):zC o (a++b)=zC o a++zC o b:=by
 unfold zC;rw[fE]
theorem zGb (o:Nat)(a:List S)(p:S×S):(zC o a.reverse).count p=(zC o a).count p:=by
 induction a with
 |nil=>rfl
 |cons x r ih=>
  rw[dz,gH,dA,ih]
  have e1:zC o (x::r)=z7 o x++zC o r:=rfl
  have b:zC o [x]=z7 o x:=by simp[zC]
  rw[e1,b,dA]
  omega
theorem zCm (o:Nat)(a:List S):((zC o a).length:Int)=(a.map fun x=>(x.length:Int)+1).sum:=by
 induction a with
 |nil=>rfl
 |cons x r ih=>
  have e1:zC o (x::r)=z7 o x++zC o r:=rfl
  rw[e1,aD,aM,cK,<-ih]
  simp[z7]
theorem zGc (t:S)(o:Nat):(zP t o).length<=o:=by unfold zP;rw[bT];omega
theorem zGd {t:S}{o:Nat}(h:t.length<=o):zP t o=t:=by
 unfold zP
 have:t.length-o=0:=by omega
 rw[this,jc]
theorem zGe {o:Nat}{nm e l:S}(h:(e,l)∈z7 o nm):e.length<=o:=by
 obtain⟨p,_,ep⟩:=aB.mp h
 have:=(bE ep).1
 rw[<-this]
 exact zGc _ _
theorem zAY {o:Nat}{bk:List S}{e l:S}(h:(e,l)∈zC o bk):e.length<=o:=by
 obtain⟨nm,_,a⟩:=c6.mp h
 exact zGe a
theorem zGf {o:Nat}(e:1<=o)(nm:S):((z7 o nm).filter fun p=>p.1=[]).length=1:=by
 unfold z7
 rw[List.range_succ_eq_map,aM,cu (by simp[zP])]
 rw[bf,aO]
 have:(mF ((fun p=>(zP (nP p nm) o,nP 1 (List.drop p nm))) ∘ Nat.succ) (aS nm.length)).filter (fun p=>decide (p.1=[]))=[]:=by
  rw[fc]
  intro p a
  obtain⟨k,b,rfl⟩:=aB.mp a
  have c:=bp.mp b
  intro z
  have d:zP (nP (k+1) nm) o=[]:=by simpa using z
  have:=congrArg f6 d
  unfold zP at this
  rw[bT,aW]at this
  simp at this
  omega
 rw[this];rfl
theorem zGg {o:Nat}(a:1<=o)(bk:List S):((zC o bk).filter fun p=>p.1=[]).length=bk.length:=by
 induction bk with
 |nil=>rfl
 |cons x r ih=>
  have e1:zC o (x::r)=z7 o x++zC o r:=rfl
  rw[e1,bW,aD,ih,zGf a,bf]
  omega
end Kn
end
section
set_option autoImplicit false
end
section
set_option autoImplicit false
namespace Kn
def tot (ps:List (S×S))(e:S):Nat:=(ps.filter fun p=>p.1=e).length
end Kn
end
section
namespace Kn
open PySem L2
theorem yR {N P:List Str}{h:ef}(a:h.kind=.function:=by rfl)(b:h.isCoroutine=false:=by rfl)(c:h.isGenerator=false:=by rfl)(d:N.Nodup:=by decide+kernel)(e:N.take P.length=P:=by rfl)(f:∀x∈P,h.names.lookup x=some .local\/h.names.lookup x=some .cell:=by decide+kernel)(g:∀y∈h.names,y.2≠.free:=by decide+kernel):FnScope N P h:=⟨a,b,c,d,e,f,g⟩
def yE (P:aI)(w:aR)(K:ai)(mg:Str->Option af)(base:bt)(k:Nat)(x:Str)(ps:List Str)(sp:Sp):Prop :=
 ∃(f:av) (fd:bw),FnOk P w K mg base z6 k f fd ps sp/\mg x=some (.ref f)/\dJ K (.ref f)=true/\qA K fd ps []
theorem zX {X:Cx}{k:Nat}{x:Str}{g:List Str}{sp:Sp}{p pos:Pos}{e:bV}{c:List bV}{t:TA}(C:yE X.prog X.w X.K X.mg X.base k x g sp)(h:Room k X.A)(i:Gl X x)(j:PA X (e::c) t)
  (l:starEach (e::c) X.env=(false,eval e X.env)::starEach c X.env:=by rfl) (a:(backTo pos (starEach c X.env)).any (·.1)=false:=by rfl)
  (d:(x==("__debug__" : Str))=false:=by decide):PE X (.Call (.Name x p) (e::c) [] pos) (zBl sp [] E0 t):=by
 obtain⟨f,fd,G,m,kp,b⟩:=C
 exact zFF G h i m kp b .nil zFp j d l a
abbrev tx (x:S):Str:=⟨x.toArray⟩
abbrev sv (x:S):V:=.str (tx x)
theorem vE (x:S):(tx x).cps.toList=x:=by simp[tx]
theorem yA (x:S):(tx x).length=x.length:=by simp[tx,mz]
theorem zAZ {n i:Nat}{x:V}(h:((aS n).map fun(i:Nat)=>V.int (0+(i:Int)))[i]?=some x):i<n/\x=.int i:=by
 have hi:i<n:=by
  have:=(ah.mp h).1
  simpa using this
 refine⟨hi,?_⟩
 rw[az,fD hi]at h
 have:=aH h
 rw[<-this]
 show V.int (0+(i:Int))=V.int i
 rw[Int.zero_add]
theorem qF {a:St}(h:a.length=1):∃y,a=[y]:=by
 match a,h with
 | [y],_=>exact⟨y,rfl⟩
theorem j9 {a:St}(h:a.length=2):∃y z,a=[y,z]:=by
 match a,h with
 | [y,z],_=>exact⟨y,z,rfl⟩
theorem gI {a:St}(h:a.length=3):∃y z u,a=[y,z,u]:=by
 match a,h with
 | [y,z,u],_=>exact⟨y,z,u,rfl⟩
structure Blt (mg:Str->Option af):Prop where
 len:mg "len"=none
 range:mg "range"=none
 all:mg "all"=none
 isinstance:mg "isinstance"=none
 str:mg "str"=none
 tuple:mg "tuple"=none
 int:mg "int"=none
 bool:mg "bool"=none
 sorted:mg "sorted"=none
 sum:mg "sum"=none
 min:mg "min"=none
section
variable{P:aI}{w:aR}{K:ai}{mg:Str->Option af}{base:bt}
theorem zGh (t:S)(o:Nat)(b:1<=o):v4 (tx t) (some (-(o:Int))) none=tx (zP t o):=by
 unfold v4
 rw[yA,vE]
 have e1:HT.sIx t.length 0 (some (-(o:Int)))=t.length-o:=by
  show(if-(o:Int)<0 then(-(o:Int)+(t.length:Int)).toNat else _)=_
  rw[if_pos (by omega)];omega
 have a:HT.sIx t.length t.length none=t.length:=rfl
 rw[e1,a]
 unfold zP
 rw[fe (by rw[bT];omega)]
theorem zGi (t:S)(p:Nat):v4 (tx t) none (some (p:Int))=tx (t.take p):=by
 unfold v4
 rw[yA,vE,HT.sIx_nat]
 show tx ((t.drop 0).take (min p t.length-0))=_
 rw[jc,nS,<-List.take_eq_take_min]
theorem zGj (t:S)(p:Nat):v4 (tx t) (some (p:Int)) (some ((p:Int)+1))=tx ((t.drop p).take 1):=by
 unfold v4
 rw[yA,vE,HT.sIx_nat,show((p:Int)+1)=((p+1:Nat):Int)from rfl,HT.sIx_nat]
 congr 1
 by_cases h:p<t.length
 ·have e1:min p t.length=p:=by omega
  have a:min (p+1) t.length-p=1:=by omega
  rw[e1,a]
 ·have e1:min p t.length=t.length:=by omega
  rw[e1,iq (ay _),iq (by omega)]
  simp
def zAa:Sp:=fun vs H Q _=>∃(t:S) (o:Nat),vs=[sv t,.int o]/\1<=o/\t.length<=64/\Q (sv (zP t o)) H
abbrev zAb:dB:=top 18
theorem zGk:FnScope ["text","order"] ["text","order"] (defScope zAb):=yR
theorem zGl {f:av}{fd:bw}(F:Fun K "end_of" "end_of" zAb f fd):FnOk P w K mg base z6 1 f fd ["text","order"] zAa:=by
 refine F.ok zGk (fun vs H Q E h=>?_) (fun a A outer s H vs Q E c h=>?_)
 ·obtain⟨t,o,rfl,_⟩:=h;rfl
 ·obtain⟨t,o,rfl,b,hl,k⟩:=h
  refine⟨_,zS (z9 (k9 (pv 0) (jT (zBW zBZ (pv 1))) zAD)),?_⟩
  refine⟨_,rfl,_,rfl,_,rfl,_,rfl,_,rfl,?_,?_⟩
  ·rw[yA,aV];omega
  ·rw[zGh t o b];exact k
def pr (o:Nat)(t:S)(p:Nat):S×S:=(zP (t.take p) o,(t.drop p).take 1)
def kA (p:S×S):dk:=.tuple [.str (tx p.1),.str (tx p.2)]
def zCn (K:ai):Sp:=fun vs H Q _=>∃(t:S) (o:Nat),vs=[sv t,.int o]/\1<=o/\t.length<=64/\∀a xs H',zA H H'->H a=none->H' a=some (.lst xs)->Reps K H' ((z7 o t).map kA) xs->Q (.ref a) H'
abbrev zAc:dB:=top 19
theorem zGm:FnScope ["name","order"] ["name","order"] (defScope zAc):=yR
theorem zGn:(["name","order","place"]:List Str).Nodup:=by decide+kernel
theorem zGo {f:av}{fd:bw}(F:Fun K "ends_and_letters" "ends_and_letters" zAc f fd)(B:Blt mg)(d:yE P w K mg base 1 "end_of" ["text","order"] zAa):FnOk P w K mg base z6 2 f fd ["name","order"] (zCn K):=by
 refine F.ok zGm (fun vs H Q E h=>?_) (fun q A outer s H vs Q E r h=>?_)
 ·obtain⟨t,o,rfl,_⟩:=h;rfl
 ·obtain⟨t,o,rfl,u,hl,k⟩:=h
  refine⟨_,zS (z9 (vL (N:=["name","order","place"]) (caps:=[0,1]) rfl (y6 (by kernel_rfl))
   (zAA rfl B.range (zB (zN yP (yD jV (by rfl) B.len cE (zB (pv 0) zD)) zT) zD))
   (fun l C s H ex=>zM (i:=2) zGn rfl (Or.inl rfl))
   (fun l C s H ex=>v3)
   (fun l C s H ex=>uT (zB (zX d r rfl (zB (k9 (pv 0) zAD (jT (pv 2))) (zB (pv 1) zD)))
    (zB (k9 (pv 0) (jT (pv 2)) (jT (zN yP (pv 2) zT))) zD))))),?_⟩
  refine⟨_,rfl,_,rfl,?_,_,_,rfl,rfl,_,rfl,?_,?_,?_⟩
  ·rw[yA,aV];omega
  ·rw[yA];omega
  ·rw[yA];omega
  have v:((tx t).length:Int)+1=((t.length+1:Nat):Int):=by rw[yA];rfl
  have b:(((tx t).length:Int)+1).toNat=t.length+1:=by rw[v];rfl
  refine v5 (zAW 0 _) [some (sv t),some (.int o)] 1 (by rw[ak,bL,b];omega) (fun i a H'=>zA H H'/\a.length=i/\Reps K H' (((aS i).map (pr o t)).map kA) a)
   ⟨zA.refl H,rfl,rfl⟩ (fun i a H' _ h=>⟨trivial,cH h.2.1⟩) ?_ ?_
  ·rintro i x a H' I J z m G ⟨c,e,g⟩
   obtain⟨y,rfl⟩:=qF G
   rw[b]at m
   obtain⟨hi,rfl⟩:=zAZ m
   refine⟨_,rfl,_,rfl,_,rfl,_,rfl,(by rw[yA,aV];omega),_,rfl,t.take i,o,(by rw[zGi];rfl),u,(by rw[aW];omega),?_⟩
   refine⟨_,rfl,_,rfl,_,rfl,_,rfl,_,_,rfl,rfl,_,rfl,_,rfl,(by rw[yA,aV];omega),?_⟩
   refine⟨by show 2<=sizeLine;decide,fun p n=>z _ _ [some (.int i)] rfl ⟨c.upd_new (c.free n),by rw[aD,e];rfl,?_⟩⟩
   rw[fy,aJ,aJ]
   refine Reps.append (Reps.same (zA.upd1 n) _ _ g) (Reps.one ⟨p,_,rfl,.of zH,?_⟩)
   rw[zGj]
   exact⟨_,_,rfl,rfl,_,_,rfl,rfl,rfl⟩
  ·rintro a H' ⟨c,e,g⟩ D j
   refine k D a _ (c.upd_new (c.free j)) (c.free j) zH (Reps.same (zA.upd1 j) _ _ ?_)
   rw[ak,bL,b]at g
   exact g
def uV (x:S):Prop:=1<=x.length/\x.length<=8/\∀c∈x,97<=c/\c<=122
def letters:Str:=⟨#[97,98,99,100,101,102,103,104,105,106,107,108,109,110,111,112,113,114,115,116,117,118,119,120,121,122]⟩
theorem zGp {c:Nat}(h:97<=c/\c<=122):(cp letters ⟨#[c]⟩ 0 letters.length 1).isEmpty=false:=by
 have all:∀d:_root_.Fin 26,(cp letters ⟨#[97+d.val]⟩ 0 letters.length 1).isEmpty=false:=by decide+kernel
 have:=all ⟨c-97,by omega⟩
 have e:97+(c-97)=c:=by omega
 simpa [e]using this
structure Cst (K:ai) (mg:Str->Option af):Prop where
 letters:∃t,mg "LETTERS"=some (.str letters t)
 ml:∃t,mg "MOST_LETTERS"=some (.int 8 t)
 mn:∃t,mg "MOST_NAMES"=some (.int 8 t)
 mo:∃t,mg "MOST_ORDER"=some (.int 3 t)
 ib:fM K (.type "int") (.type "bool")=some false
def zAd:Sp:=fun vs H Q _=>∃x:S,vs=[sv x]/\uV x/\∀H',zA H H'->Q (.bl true) H'
abbrev zAe:dB:=top 10
theorem zGq:FnScope ["thing"] ["thing"] (defScope zAe):=yR
theorem nd1:(["letter"]:List Str).Nodup:=by decide+kernel
theorem zGr {f:av}{fd:bw}(F:Fun K "is_name" "is_name" zAe f fd)(B:Blt mg)(C:Cst K mg):FnOk P w K mg base z6 1 f fd ["thing"] zAd:=by
 obtain⟨tl,hl⟩:=C.letters
 obtain⟨r,l⟩:=C.ml
 refine F.ok zGq (fun vs H Q E h=>?_) (fun m A outer s H vs Q E u h=>?_)
 ·obtain⟨t,rfl,_⟩:=h;rfl
 ·obtain⟨x,rfl,⟨z,G,n⟩,k⟩:=h
  refine⟨_,zO (vC (PW.pt (qI (u5 (u1 (yD gB (by rfl) B.isinstance cO (zB (pv 0) (zB (kP (v:=.ty "str") (by rfl) B.str nZ rfl) zD)))))
    (qS (u5 (zBk qY qY zT (yD jV (by rfl) B.len cE (zB (pv 0) zD)) (kO (v:=.int 8) (by rfl) l ⟨_,rfl⟩))))))
    (zS (z9 uK)) vB)
   (zS (z9 (yD (zCe rfl) (by rfl) B.all iM (zB (vL (N:=["letter"]) (caps:=[]) rfl (y6 (by kernel_rfl)) (zGD (pv 0))
    (fun j C s H ex=>zM (i:=0) nd1 rfl (Or.inl rfl)) (fun j C s H ex=>v3)
    (fun j C s H ex=>zBh zBg (pv 0) (kO (v:=.str letters) (by rfl) hl ⟨_,rfl⟩) (by with_unfolding_all rfl))) zD)))),?_⟩
  refine⟨_,rfl,_,_,_,true,rfl,.str _,(by rfl),_,rfl,?_⟩
  refine vU ?_
  refine⟨_,rfl,_,rfl,(by rw[yA,aV];omega),_,_,rfl,rfl,_,rfl,?_⟩
  refine j7 (by rw[yA];omega) ⟨_,_,rfl,rfl,_,rfl,jC (by rw[yA];omega) ?_⟩
  refine⟨_,rfl,_,rfl,?_⟩
  refine v5 (zGW (tx x)) [] 1 (by rw[ak,vE];omega) (fun i a H'=>zA H H'/\a=cB i (.bl true)) ⟨zA.refl H,rfl⟩ (fun i a H' _ h=>⟨trivial,by rw[h.2];simp⟩) ?_ ?_
  ·rintro i y a H' I J o b p ⟨d,rfl⟩
   obtain⟨L,rfl⟩:=qF p
   rw[az,vE]at b
   cases e:x[i]? with
   |none=>rw[e]at b;cases b
   |some c=>
    rw[e]at b
    have g:y=.str ⟨#[c]⟩:=(aH b).symm
    subst g
    refine⟨_,rfl,_,_,rfl,rfl,?_⟩
    rw[zGp (n c (aU e))]
    exact o _ _ [some (.str ⟨#[c]⟩)] rfl ⟨d,by rw[jd];rfl⟩
  ·rintro a H' ⟨d,rfl⟩ D q
   refine⟨D,cB _ true,rfl,.of (by rw[zH,kf]),?_⟩
   have:(cB ((tx x).cps.toList.map fun c=>V.str ⟨#[c]⟩).length true).all id=true:=by simp
   rw[this]
   exact k _ (d.upd_new (d.free q))
def zU (bk:List S):List V:=bk.map sv
structure isBk (bk:List S):Prop where
 lo:1<=bk.length
 hi:bk.length<=8
 nm:∀x∈bk,uV x
def zCo:Sp:=fun vs H Q _=>∃(a:av) (bk:List S),vs=[.ref a]/\H a=some (.tup (zU bk))/\isBk bk/\∀H',zA H H'->Q (.bl true) H'
abbrev zAf:dB:=top 11
theorem zGs:FnScope ["thing"] ["thing"] (defScope zAf):=yR
theorem nd2:(["name"]:List Str).Nodup:=by decide+kernel
theorem zGt {f:av}{fd:bw}(F:Fun K "is_book" "is_book" zAf f fd)(B:Blt mg)(C:Cst K mg)(d:yE P w K mg base 1 "is_name" ["thing"] zAd):FnOk P w K mg base z6 2 f fd ["thing"] zCo:=by
 obtain⟨I,p⟩:=C.mn
 refine F.ok zGs (fun vs H Q E h=>?_) (fun q A outer s H vs Q E r h=>?_)
 ·obtain⟨a,bk,rfl,_⟩:=h;rfl
 ·obtain⟨a,bk,rfl,j,⟨J,L,u⟩,k⟩:=h
  refine⟨_,zO (vC (PW.pt (qI (u5 (u1 (yD gB (by rfl) B.isinstance cO (zB (pv 0) (zB (kP (v:=.ty "tuple") (by rfl) B.tuple gp rfl) zD)))))
    (qS (u5 (zBk qY qY zT (yD jU (by rfl) B.len cE (zB (pv 0) zD)) (kO (v:=.int 8) (by rfl) p ⟨_,rfl⟩))))))
    (zS (z9 uK)) vB)
   (zS (z9 (yD (zCe rfl) (by rfl) B.all iM (zB (vL (N:=["name"]) (caps:=[]) rfl (y6 (by kernel_rfl)) (qU (pv 0))
    (fun o C s H ex=>zM (i:=0) nd2 rfl (Or.inl rfl)) (fun o C s H ex=>v3)
    (fun o C s H ex=>zX d r rfl (zB (pv 0) zD))) zD)))),?_⟩
  refine⟨_,rfl,_,_,_,true,rfl,.tup j,(by rfl),_,rfl,?_⟩
  refine vU ?_
  refine⟨_,rfl,_,_,rfl,.inr (.of j),_,_,rfl,rfl,_,rfl,?_⟩
  have hl:(zU bk).length=bk.length:=by simp[zU]
  refine j7 (by rw[hl];omega) ⟨_,_,rfl,rfl,_,rfl,jC (by rw[hl];omega) ?_⟩
  refine⟨_,rfl,_,rfl,⟨_,.of j⟩,?_⟩
  refine v5 (jF _ a (zU bk)) [] 1 (by rw[hl];omega) (fun i b H'=>zA H H'/\b=cB i (.bl true)) ⟨zA.refl H,rfl⟩ (fun i b H' _ h=>⟨.of (h.1 _ _ j),by rw[h.2];simp⟩) ?_ ?_
  ·rintro i y b H' M O x g z ⟨l,rfl⟩
   obtain⟨R,rfl⟩:=qF z
   rw[zU,az]at g
   cases e:bk[i]? with
   |none=>rw[e]at g;cases g
   |some c=>
    rw[e]at g
    have m:y=sv c:=(aH g).symm
    subst m
    exact⟨_,rfl,c,rfl,u c (aU e),fun T n=>x _ _ [some (sv c)] rfl ⟨l.trans n,by rw[jd]⟩⟩
  ·rintro b H' ⟨l,rfl⟩ D G
   refine⟨D,cB _ true,rfl,.of (by rw[zH,kf]),?_⟩
   have:(cB (zU bk).length true).all id=true:=by simp
   rw[this]
   exact k _ (l.upd_new (l.free G))
def zCp:Sp:=fun vs H Q _=>∃o a b:Nat,vs=[.int o,.int a,.int b]/\a<=o/\o<=b/\Q (.bl true) H
abbrev zAg:dB:=top 12
theorem zGu:FnScope ["thing","least","most"] ["thing","least","most"] (defScope zAg):=yR
theorem zGv {f:av}{fd:bw}(F:Fun K "is_whole" "is_whole" zAg f fd)(B:Blt mg)(C:Cst K mg):FnOk P w K mg base z6 1 f fd ["thing","least","most"] zCp:=by
 refine F.ok zGu (fun vs H Q E h=>?_) (fun c A outer s H vs Q E d h=>?_)
 ·obtain⟨o,a,b,rfl,_⟩:=h;rfl
 ·obtain⟨o,a,b,rfl,g,i,k⟩:=h
  refine⟨_,zO (vC (PW.pt (qI (u5 (u1 (yD gB (by rfl) B.isinstance cO (zB (pv 0) (zB (kP (v:=.ty "int") (by rfl) B.int n0 rfl) zD)))))
    (qS (u1 (yD gB (by rfl) B.isinstance cO (zB (pv 0) (zB (kP (v:=.ty "bool") (by rfl) B.bool nU rfl) zD)))))))
    (zS (z9 uK)) vB)
   (zS (z9 (zEu qY qY (pv 1) (pv 0) (pv 2)))),?_⟩
  refine⟨_,rfl,_,_,_,true,rfl,.int _,(by rfl),_,rfl,?_⟩
  refine vU ?_
  refine⟨_,rfl,_,_,_,false,rfl,.int _,C.ib,_,rfl,?_⟩
  refine vU ?_
  refine⟨_,rfl,_,rfl,_,_,rfl,rfl,_,rfl,?_⟩
  refine j7 (by omega) ⟨_,rfl,_,_,rfl,rfl,?_⟩
  have e:decide ((o:Int)<=b)=true:=decide_eq_true (by omega)
  show Q (.bl (decide ((o:Int)<=b))) H
  rw[e]
  exact k
def zCq:Sp:=fun vs H Q _=>∃o:Nat,vs=[.int o]/\1<=o/\o<=3/\Q (.bl true) H
abbrev zAh:dB:=top 13
theorem zGw:FnScope ["thing"] ["thing"] (defScope zAh):=yR
theorem zGx {f:av}{fd:bw}(F:Fun K "is_order" "is_order" zAh f fd)(C:Cst K mg)(a:yE P w K mg base 1 "is_whole" ["thing","least","most"] zCp):FnOk P w K mg base z6 2 f fd ["thing"] zCq:=by
 obtain⟨i,b⟩:=C.mo
 refine F.ok zGw (fun vs H Q E h=>?_) (fun c A outer s H vs Q E d h=>?_)
 ·obtain⟨o,rfl,_⟩:=h;rfl
 ·obtain⟨o,rfl,e,g,k⟩:=h
  refine⟨_,zS (z9 (zX a d rfl (zB (pv 0) (zB zT (zB (kO (v:=.int 3) (by rfl) b ⟨_,rfl⟩) zD))))),?_⟩
  exact⟨_,rfl,o,1,3,rfl,e,g,k⟩
def zCr:Sp:=fun vs H Q _=>∃(a:av) (bk:List S),vs=[.ref a]/\H a=some (.tup (zU bk))/\isBk bk/\∀H',zA H H'->Q .non H'
abbrev zAi:dB:=top 14
theorem zGy:FnScope ["thing"] ["thing"] (defScope zAi):=yR
theorem zGz {f:av}{fd:bw}(F:Fun K "need_book" "need_book" zAi f fd)(b:yE P w K mg base 2 "is_book" ["thing"] zCo):FnOk P w K mg base z6 3 f fd ["thing"] zCr:=by
 refine F.ok zGy (fun vs H Q E h=>?_) (fun c A outer s H vs Q E d h=>?_)
 ·obtain⟨a,bk,rfl,_⟩:=h;rfl
 ·obtain⟨a,bk,rfl,e,g,k⟩:=h
  refine⟨_,zS (vC (u5 (u1 (zX b d rfl (zB (pv 0) zD)))) (zS g7) vB),?_⟩
  exact⟨_,rfl,a,bk,rfl,e,g,fun H' i=>⟨true,rfl,vU (k H' i)⟩⟩
def zCs:Sp:=fun vs H Q _=>∃o:Nat,vs=[.int o]/\1<=o/\o<=3/\Q .non H
abbrev zAj:dB:=top 15
theorem zHA:FnScope ["thing"] ["thing"] (defScope zAj):=yR
theorem zHB {f:av}{fd:bw}(F:Fun K "need_order" "need_order" zAj f fd)(a:yE P w K mg base 2 "is_order" ["thing"] zCq):FnOk P w K mg base z6 3 f fd ["thing"] zCs:=by
 refine F.ok zHA (fun vs H Q E h=>?_) (fun b A outer s H vs Q E c h=>?_)
 ·obtain⟨o,rfl,_⟩:=h;rfl
 ·obtain⟨o,rfl,d,e,k⟩:=h
  refine⟨_,zS (vC (u5 (u1 (zX a c rfl (zB (pv 0) zD)))) (zS g7) vB),?_⟩
  exact⟨_,rfl,o,rfl,d,e,true,rfl,vU k⟩
def zAk:Sp:=fun vs H Q _=>∃x:S,vs=[sv x]/\uV x/\∀H',zA H H'->Q .non H'
abbrev zAl:dB:=top 16
theorem zHC:FnScope ["thing"] ["thing"] (defScope zAl):=yR
theorem zHD {f:av}{fd:bw}(F:Fun K "need_name" "need_name" zAl f fd)(a:yE P w K mg base 1 "is_name" ["thing"] zAd):FnOk P w K mg base z6 2 f fd ["thing"] zAk:=by
 refine F.ok zHC (fun vs H Q E h=>?_) (fun b A outer s H vs Q E c h=>?_)
 ·obtain⟨x,rfl,_⟩:=h;rfl
 ·obtain⟨x,rfl,d,k⟩:=h
  refine⟨_,zS (vC (u5 (u1 (zX a c rfl (zB (pv 0) zD)))) (zS g7) vB),?_⟩
  exact⟨_,rfl,x,rfl,d,fun H' e=>⟨true,rfl,vU (k H' e)⟩⟩
end
theorem uW {a b:S}(h:tx a=tx b):a=b:=by
 have:=congrArg (fun z:Str=>z.cps.toList) h
 simpa [tx]using this
section
variable{α:Type}
def yS (f:α->V)(l:List (S×α)):List (zL×V):=j6 (l.map fun p=>(tx p.1,f p.2))
theorem qM (f:α->V)(p:S×α)(l:List (S×α)):yS f (p::l)=((Sum.inr (tx p.1):zL),f p.2)::yS f l:=rfl
theorem zCt (f:α->V)(l:List (S×α)):(yS f l).length=l.length:=by simp[yS,j6]
theorem jI {a b:S}:((Sum.inr (tx a):zL)=Sum.inr (tx b))↔a=b:=⟨fun h=>uW (iT h),fun h=>by rw[h]⟩
theorem kB (f:α->V)(l:List (S×α))(k:S):yL (yS f l) (Sum.inr (tx k))=(zE l k).map f:=by
 induction l with
 |nil=>rfl
 |cons p r ih=>
  rw[qM]
  by_cases e:p.1=k
  ·rw[jW (jI.mpr e)]
   obtain⟨a,b⟩:=p
   have c:a=k:=e
   subst c
   simp[zE]
  ·rw[jX (fun z=>e (jI.mp z)),ih]
   obtain⟨a,b⟩:=p
   have c:¬a=k:=e
   simp[zE,c]
theorem zHE (f:α->V)(l:List (S×α))(k:S):((yS f l).any fun a=>decide (a.1=(Sum.inr (tx k):zL)))=decide (k∈l.map (·.1)):=by
 induction l with
 |nil=>rfl
 |cons p r ih=>
  rw[qM,fq,ih]
  by_cases e:p.1=k
  ·have:decide ((Sum.inr (tx p.1):zL)=Sum.inr (tx k))=true:=decide_eq_true (jI.mpr e)
   rw[this,kz]
   exact(decide_eq_true (by rw[<-e];exact ao ..)).symm
  ·have:decide ((Sum.inr (tx p.1):zL)=Sum.inr (tx k))=false:=decide_eq_false (fun z=>e (jI.mp z))
   rw[this,jq]
   congr 1
   have b:¬k=p.1:=fun z=>e z.symm
   simp[b]
theorem zCu (f:α->V)(l:List (S×α))(k:S)(v:α)(nd:(l.map (·.1)).Nodup):yQ (yS f l) (Sum.inr (tx k)) (f v)=yS f (zJ l k v):=by
 unfold yQ
 rw[zHE]
 by_cases c:k∈l.map (·.1)
 ·rw[if_pos (decide_eq_true c)]
  induction l with
  |nil=>cases c
  |cons p r ih=>
   obtain⟨a,b⟩:=p
   have d:=bA.mp nd
   rw[qM,aM]
   by_cases e:a=k
   ·subst e
    have e1:zJ ((a,b)::r) a v=(a,v)::r:=by simp[zJ]
    rw[e1,qM]
    congr 1
    ·simp
    ·have:∀q∈yS f r,(if q.1=(Sum.inr (tx a):zL)then(q.1,f v)else q)=q:=fun q h=>by
      rw[if_neg]
      intro z
      obtain⟨s,i,j⟩:=aB.mp h
      obtain⟨s',g,m⟩:=aB.mp i
      have:s.1=tx s'.1:=by rw[<-m]
      have n:q.1=(Sum.inr (tx s'.1):zL):=by rw[<-j,this]
      rw[n]at z
      exact d.1 (aB.mpr ⟨s',g,jI.mp z⟩)
     have o:=bO this
     rw[o];simp
   ·have e1:zJ ((a,b)::r) k v=(a,b)::zJ r k v:=by simp[zJ,e]
    rw[e1,qM]
    congr 1
    ·rw[if_neg (fun z=>e (jI.mp z))]
    ·exact ih d.2 (by
      rcases aE.mp c with z|z
      ·exact absurd z.symm e
      ·exact z)
 ·rw[if_neg (by simpa using c)]
  clear nd
  induction l with
  |nil=>rfl
  |cons p r ih=>
   obtain⟨a,b⟩:=p
   have e:¬a=k:=fun z=>c (by rw[<-z];exact ao ..)
   have e1:zJ ((a,b)::r) k v=(a,b)::zJ r k v:=by simp[zJ,e]
   rw[e1,qM,qM,lR,ih fun z=>c (au _ z)]
theorem zCv {β:Type}(l:List (S×β))(k:S)(v:β):(zJ l k v).length<=l.length+1:=by
 induction l with
 |nil=>simp[zJ]
 |cons p r ih=>
  obtain⟨a,b⟩:=p
  by_cases e:a=k
  ·simp[zJ,e]
  ·simp[zJ,e];omega
theorem zHF {β γ:Type}(g:β->γ)(l:List (S×β))(k:S)(v:β):(zJ l k v).map (fun p=>(p.1,g p.2))=zJ (l.map fun p=>(p.1,g p.2)) k (g v):=by
 induction l with
 |nil=>rfl
 |cons p r ih=>
  obtain⟨a,b⟩:=p
  by_cases e:a=k
  ·simp[zJ,e]
  ·simp[zJ,e,ih]
theorem zAm {β γ:Type}(g:β->γ)(l:List (S×β))(k:S):zE (l.map fun p=>(p.1,g p.2)) k=(zE l k).map g:=by
 induction l with
 |nil=>rfl
 |cons p r ih=>
  obtain⟨a,b⟩:=p
  by_cases e:a=k
  ·simp[zE,e]
  ·simp[zE,e,ih]
theorem gJ {β:Type}{l:List (S×β)}{k:S}{v:β}{q:S×β}(h:q∈zJ l k v):q=(k,v)\/(q∈l/\(q.1≠k\/(l.map (·.1)).Nodup->q.1≠k)):=by
 induction l with
 |nil=>simp[zJ]at h;exact .inl h
 |cons p r ih=>
  obtain⟨a,b⟩:=p
  by_cases e:a=k
  ·subst e
   have e1:zJ ((a,b)::r) a v=(a,v)::r:=by simp[zJ]
   rw[e1]at h
   rcases aE.mp h with z|z
   ·exact .inl z
   ·refine .inr ⟨au _ z,?_⟩
    rintro(w|w)
    ·exact w
    ·intro c
     exact(bA.mp w).1 (by rw[<-c];exact dH (f:=(·.1)) z)
  ·have e1:zJ ((a,b)::r) k v=(a,b)::zJ r k v:=by simp[zJ,e]
   rw[e1]at h
   rcases aE.mp h with z|z
   ·subst z
    exact .inr ⟨ao ..,fun _=>e⟩
   ·rcases ih z with w|⟨d,g⟩
    ·exact .inl w
    ·refine .inr ⟨au _ d,?_⟩
     rintro(u|u)
     ·exact u
     ·exact g (.inr (bA.mp u).2)
theorem zAn {β:Type}(l:List (S×β))(k:S)(v:β)(h:k∉l.map (·.1)):zJ l k v=l++[(k,v)]:=by
 induction l with
 |nil=>rfl
 |cons q r ih=>
  obtain⟨a,b⟩:=q
  have e:¬a=k:=fun z=>h (by rw[<-z];exact ao ..)
  have e1:zJ ((a,b)::r) k v=(a,b)::zJ r k v:=by simp[zJ,e]
  rw[e1,ih fun z=>h (au _ z)];rfl
theorem zCw {β γ:Type}(g:β->γ)(l:List (S×β))(k:S)(v u:β)(h:zE l k=some u)(e:g v=g u):(zJ l k v).map (fun p=>(p.1,g p.2))=l.map fun p=>(p.1,g p.2):=by
 induction l with
 |nil=>cases h
 |cons p r ih=>
  obtain⟨a,b⟩:=p
  by_cases c:a=k
  ·have:b=u:=by simpa [zE,c]using h
   subst this
   simp[zJ,c,e]
  ·have h':zE r k=some u:=by simpa [zE,c]using h
   simp[zJ,c,ih h']
theorem kG (d:List (S×S)):(yY d).length<=d.length/\∀r∈yY d,r.2.length<=d.length:=by
 have key:∀(c:List (S×S)) (rows:List (S×List (S×Int))) (n:Nat),(rows.length<=n/\∀r∈rows,r.2.length<=n)->(c.foldl vW rows).length<=n+c.length/\∀r∈c.foldl vW rows,r.2.length<=n+c.length:=by
  intro c
  induction c with
  |nil=>intro rows n h;simpa using h
  |cons q c ih=>
   intro rows n h
   have:=ih (vW rows q) (n+1) ⟨?_,fun r j=>?_⟩
   ·rw[l6,bf]
    have e:n+(c.length+1)=n+1+c.length:=by omega
    rw[e];exact this
   ·have:=zCv rows q.1 (y7 ((zE rows q.1).getD []) q.2)
    unfold vW;omega
   ·rcases gJ j with e|⟨e,_⟩
    ·rw[e]
     have l:=zCv ((zE rows q.1).getD []) q.2 ((zE ((zE rows q.1).getD []) q.2).getD 0+1)
     have o:((zE rows q.1).getD []).length<=n:=by
      cases g:zE rows q.1 with
      |none=>simp
      |some row=>
       have m:(q.1,row)∈rows:=by
        clear h j e l
        induction rows with
        |nil=>cases g
        |cons p r f=>
         obtain⟨a,b⟩:=p
         by_cases i:a=q.1
         ·have:b=row:=by simpa [zE,i]using g
          subst this;subst i
          exact ao ..
         ·exact au _ (f (by simpa [zE,i]using g))
       exact h.2 _ m
     show(y7 _ _).length<=_
     unfold y7;omega
    ·have:=h.2 r e;omega
 have:=key d [] 0 ⟨ay _,by simp⟩
 simpa [yY]using this
end
abbrev vN (row:List (S×Int)):List (zL×V):=yS V.int row
structure RA (H0 H:Hp) (d:av) (ps:List (S×S)) (ra:List (S×av×List (S×Int))):Prop where
 rows:ra.map (fun r=>(r.1,r.2.2))=yY ps
 top:H d=some (.dK (yS (fun v:av×List (S×Int)=>V.ref v.1) ra))
 row:∀r∈ra,H r.2.1=some (.dK (vN r.2.2))
 new:∀r∈ra,H0 r.2.1=none/\r.2.1≠d
 nda:(ra.map fun r=>r.2.1).Nodup
def zAo (H:Hp)(d:av)(ps:List (S×S)):Prop:=∃ra:List (S×av×List (S×Int)),ra.map (fun r=>(r.1,r.2.2))=yY ps/\H d=some (.dK (yS (fun v:av×List (S×Int)=>V.ref v.1) ra))/\∀r∈ra,H r.2.1=some (.dK (vN r.2.2))
section
variable{P:aI}{w:aR}{K:ai}{mg:Str->Option af}{base:bt}
def zCx:Sp:=fun vs H Q _=>∃(a:av) (bk:List S) (o:Nat),vs=[.ref a,.int o]/\H a=some (.tup (zU bk))/\bk.length<=8/\(∀x∈bk,x.length<=8)/\1<=o/\∀d H',zA H H'->H d=none->zAo H' d (zC o bk)->Q (.ref d) H'
abbrev zAp:dB:=top 20
theorem zCy:FnScope ["book","order","rows","name","end","letter","row"] ["book","order"] (defScope zAp):=yR
theorem zAq {c H:Hp}{d:av}{a:List (S×S)}{b:List (S×av×List (S×Int))}(R:RA c H d a b):(b.map (·.1)).Nodup:=by
 have h:=(uF a).nd
 rw[<-R.rows,aO]at h
 exact h
theorem RA.step {s H q:Hp}{d ad:av}{A:List (S×S)}{c:List (S×av×List (S×Int))}(R:RA s H d A c)(p:S×S)(row:List (S×Int))(n:row=((zE c p.1).map (·.2)).getD [])
  (l:∀v,zE c p.1=some v->v.1=ad) (f:zE c p.1=none->s ad=none/\ad≠d/\ad∉c.map fun r=>r.2.1)
  (D:q ad=some (.dK (vN (y7 row p.2)))) (E:q d=some (.dK (yS (fun v:av×List (S×Int)=>V.ref v.1) (zJ c p.1 (ad,y7 row p.2))))) (F:∀r∈c,r.2.1≠ad->q r.2.1=some (.dK (vN r.2.2))) :
  RA s q d (A++[p]) (zJ c p.1 (ad,y7 row p.2)):=by
 have nd:=zAq R
 have h:∀v,zE c p.1=some v->(p.1,v)∈c:=fun v u=>(vM nd p.1 v).mpr u
 have x:∀r∈c,r.1≠p.1->r.2.1≠ad:=fun r m y e=>by
  cases g:zE c p.1 with
  |none=>exact(f g).2.2 (aB.mpr ⟨r,m,e⟩)
  |some v=>
   have u:=h v g
   have ev:=l v g
   have:r=(p.1,v):=by
    obtain⟨i,hi,B⟩:=dG m
    obtain⟨j,G,C⟩:=dG u
    have z:i=j:=by
     refine(cY (xs:=c.map fun r=>r.2.1) (h₀:=by simpa using hi) (h₁:=by simpa using G) R.nda).mp ?_
     rw[cZ,cZ,B,C]
     show r.2.1=v.1
     rw[e,ev]
    subst z
    rw[<-B,<-C]
   exact y (by rw[this])
 refine⟨?_,E,fun r m=>?_,fun r m=>?_,?_⟩
 ·rw[zGa,<-R.rows]
  unfold vW
  have e:=zHF (fun v:av×List (S×Int)=>v.2) c p.1 (ad,y7 row p.2)
  rw[e]
  have o:=zAm (fun v:av×List (S×Int)=>v.2) c p.1
  rw[o,<-n]
 ·rcases gJ m with e|⟨e,I⟩
  ·rw[e];exact D
  ·exact F r e (x r e (I (.inr nd)))
 ·rcases gJ m with e|⟨e,_⟩
  ·rw[e]
   cases g:zE c p.1 with
   |none=>exact⟨(f g).1,(f g).2.1⟩
   |some v=>
    have:=R.new _ (h v g)
    rw[<-l v g];exact this
  ·exact R.new r e
 ·cases g:zE c p.1 with
  |none=>
   have J:p.1∉c.map (·.1):=gF.mp g
   have e:=zAn c p.1 (ad,y7 row p.2) J
   rw[e,aJ]
   refine fb.mpr ⟨R.nda,by simp,fun a L b M o=>?_⟩
   have:b=ad:=by simpa using M
   exact(f g).2.2 (by rw[<-this,<-o];exact L)
  |some v=>
   have e:=zCw (fun v:av×List (S×Int)=>v.1) c p.1 (ad,y7 row p.2) v g (l v g).symm
   have o:(zJ c p.1 (ad,y7 row p.2)).map (fun r=>r.2.1)=c.map fun r=>r.2.1:=by
    have:=congrArg (mF mI) e
    rw[aO,aO]at this
    exact this
   rw[o];exact R.nda
def uM (H H':Hp):Prop:=∀b o,H b=some o->(∀kvs,o≠.dK kvs)->H' b=some o
theorem uM.upd {H:Hp}{a:av}{kvs:List (zL×V)}{u:HO}(h:H a=some (.dK kvs)):uM H (upd H a u):=fun b o e c=>by
 rw[zQ]
 ·exact e
 ·rintro rfl;rw[h]at e;exact c kvs (aH e).symm
theorem uM.sqL {H H':Hp}(e:uM H H'){a:av}{xs:List V}(h:zV K H a xs):zV K H' a xs:=by
 rcases h with(h|⟨o,h⟩)|h
 ·exact .inl (.inl (e _ _ h (by intro z w;cases w)))
 ·exact .inl (.inr ⟨o,e _ _ h (by intro z w;cases w)⟩)
 ·exact .inr h
theorem uM.sqT {H H':Hp}(e:uM H H'){a:av}{xs:List V}(h:zW K H a xs):zW K H' a xs:=by
 rcases h with(h|⟨o,h⟩)|h
 ·exact .inl (.inl (e _ _ h (by intro z w;cases w)))
 ·exact .inl (.inr ⟨o,e _ _ h (by intro z w;cases w)⟩)
 ·exact .inr h
mutual
theorem yJ.sameQ {H H':Hp}(e:uM H H'):∀(d:dk) (v:V),yJ K H d v->yJ K H' d v
 | .none,v,h=>h
 | .bool b,v,h=>h
 | .int i,v,h=>h
 | .str x,v,h=>h
 | .list c,v,h=>by
  obtain⟨a,xs,f,g,j⟩:=h
  exact⟨a,xs,f,e.sqL g,Reps.sameQ e c xs j⟩
 | .tuple c,v,h=>by
  obtain⟨a,xs,f,g,j⟩:=h
  exact⟨a,xs,f,e.sqT g,Reps.sameQ e c xs j⟩
 | .dict _,v,h=>h
theorem Reps.sameQ {H H':Hp}(e:uM H H'):∀(a:List dk) (xs:List V),Reps K H a xs->Reps K H' a xs
 | [],xs,h=>h
 |d::a,xs,h=>by
  obtain⟨y,b,c,f,g⟩:=h
  exact⟨y,b,c,yJ.sameQ e d y f,Reps.sameQ e a b g⟩
end
theorem zHG {β:Type}(g:β->V)(l:List (S×β))(k:S)(v u:β)(h:zE l k=some u)(e:g v=g u):yS g (zJ l k v)=yS g l:=by
 have:=zCw g l k v u h e
 unfold yS
 have a:∀m:List (S×β),m.map (fun p=>(tx p.1,g p.2))=(m.map fun p=>(p.1,g p.2)).map fun q=>(tx q.1,q.2):=fun m=>by rw[aO];rfl
 rw[a,a,this]
theorem zHH {f H:Hp}{d:av}{a:List (S×S)}{g:List (S×av×List (S×Int))}(R:RA f H d a g){e:S}{v:av×List (S×Int)}(h:zE g e=some v) :
  H v.1=some (.dK (vN v.2))/\(v.2.map (·.1)).Nodup/\v.2.length<=a.length/\f v.1=none/\v.1≠d:=by
 have c:=(vM (zAq R) e v).mpr h
 have b:(e,v.2)∈yY a:=by rw[<-R.rows];exact aB.mpr ⟨(e,v),c,rfl⟩
 exact⟨R.row _ c,(uF a).ndr e v.2 b,(kG a).2 _ b,(R.new _ c).1,(R.new _ c).2⟩
theorem zHI {f:av}{fd:bw}(F:Fun K "counted_rows" "counted_rows" zAp f fd)(am:yE P w K mg base 2 "ends_and_letters" ["name","order"] (zCn K)):FnOk P w K mg base z6 3 f fd ["book","order"] zCx:=by
 refine F.ok zCy (fun vs H Q E h=>?_) (fun ce A outer s H vs Q E m h=>?_)
 ·obtain⟨a,bk,o,rfl,_⟩:=h;rfl
 ·obtain⟨a,bk,o,rfl,ha,ch,ax,ho,k⟩:=h
  have hu:=k5 m
  have nd:=zCy.nd
  refine⟨_,zO (yO (i:=2) nd rfl (Or.inl rfl) zAK)
   (zO (qW d3 rfl (qU (pv 0)) (zM (i:=3) nd rfl (Or.inl rfl))
    (zS (qW d3 rfl (vR (zX am m rfl (zB (pv 3) (zB (pv 1) zD))))
     (jQ rfl (z0 (zM (i:=4) nd rfl (Or.inl rfl)) (z0 (zM (i:=5) nd rfl (Or.inl rfl)) vQ)))
     (zO (yO (i:=6) nd rfl (Or.inl rfl) (zAG dN fA PySem.F.type_dict_setdefault zGN (pv 2) (zB (pv 4) (zB zAK zD))))
      (zS (zCE hu (pv 6) (pv 5) (zN yP (zAL hu (pv 6) (pv 5) zT ⟨rfl,rfl,rfl,rfl⟩) zT) rfl))))))
   (zS (z9 (pv 2)))),?_⟩
  intro d hd
  have s1:zA H (upd H d (.dK [])):=zA.upd1 hd
  refine⟨_,rfl,a,rfl,⟨_,.of (s1 _ _ ha)⟩,?_⟩
  refine jH (jF K a (zU bk)) (fun i σ H'=>(∃x y z u:Option V,σ=[some (.ref a),some (.int o),some (.ref d),x,y,z,u])/\zA H H'/\∃U,RA H H' d (zC o (bk.take i)) U)
   ⟨⟨_,_,_,_,rfl⟩,s1,[],⟨rfl,zH,by simp,by simp,by simp⟩⟩ (fun i σ H' _ h=>.of (h.2.1 _ _ ha)) ?_ ?_
  ·rintro i x σ H' Nx hN hx ⟨⟨x1,x2,x3,x4,rfl⟩,sm,U,R⟩
   rw[zU,az]at hx
   cases e:bk[i]? with
   |none=>rw[e]at hx;cases hx
   |some nm=>
   rw[e]at hx
   have a6:x=sv nm:=(aH hx).symm
   subst a6
   have ci:=ax nm (aU e)
   have hi:i<bk.length:=(ah.mp e).1
   have an:bk.take (i+1)=bk.take i++[nm]:=by
    rw[aF hi]
    have:=(ah.mp e).2
    rw[this]
   have n:zC o (bk.take (i+1))=zC o (bk.take i)++z7 o nm:=by
    rw[an,gH];simp[zC]
   have a7:((zC o (bk.take (i+1))).length:Int)<=100:=by
    rw[zCm]
    have go:∀l:List S,(∀x∈l,x.length<=8)->(l.map fun x=>(x.length:Int)+1).sum<=9*(l.length:Int):=by
     intro l
     induction l with
     |nil=>intro _;simp
     |cons x r ih=>
      intro hl
      have h1:=hl x (ao ..)
      have h2:=ih fun y hy=>hl y (au _ hy)
      rw[aM,cK,bf]
      have:((r.length+1:Nat):Int)=(r.length:Int)+1:=rfl
      omega
    have:=go (bk.take (i+1)) fun x hx=>ax x (et hx)
    have h3:(bk.take (i+1)).length<=8:=by rw[aW];omega
    omega
   refine⟨_,rfl,_,rfl,nm,o,rfl,ho,by omega,fun l xs Hl W a8 X rp=>?_⟩
   refine⟨l,rfl,⟨_,.of X⟩,?_⟩
   have R1:RA H Hl d (zC o (bk.take i)) U:=⟨R.rows,W _ _ R.top,fun r m=>W _ _ (R.row r m),R.new,R.nda⟩
   have cl:H l=none:=sm.free a8
   have a9:l≠d:=kM X (W _ _ R.top) (by intro z;cases z)
   refine jH (vV K l xs) (fun j σ q=>(∃y z u:Option V,σ=[some (.ref a),some (.int o),some (.ref d),some (sv nm),y,z,u])/\zA H q/\q l=some (.lst xs)/\Reps K q ((z7 o nm).map kA) xs/\∃U,RA H q d (zC o (bk.take i)++(z7 o nm).take j) U/\∀r∈U,r.2.1≠l)
    ⟨⟨_,_,_,rfl⟩,sm.trans W,X,rp,U,by simpa using R1,fun r m=>kM (R1.row r m) X (by intro z;cases z)⟩ (fun j σ q _ h=>.of h.2.2.1) ?_ ?_
   ·rintro j x σ q ap bd be ⟨⟨y,z,u,rfl⟩,D,aK,G,b,R2,bh⟩
    obtain⟨dd,I,rx⟩:=G.get be
    rw[az]at I
    cases ep:(z7 o nm)[j]? with
    |none=>rw[ep]at I;cases I
    |some p=>
    rw[ep]at I
    have bi:dd=kA p:=(aH I).symm
    subst bi
    obtain⟨bl,co,rfl,bm,y1,ca,rfl,bn,y2,a0,rfl,bv,a1⟩:=rx
    have b0:y1=sv p.1:=bn
    have b1:y2=sv p.2:=bv
    have en:a0=[]:=a1
    subst b0 b1 en
    have hj:j<(z7 o nm).length:=(ah.mp ep).1
    have a2:zC o (bk.take i)++(z7 o nm).take (j+1)=(zC o (bk.take i)++(z7 o nm).take j)++[p]:=by
     rw[aF hj,(ah.mp ep).2,dw]
    generalize b2:zC o (bk.take i)++(z7 o nm).take j=ps at R2 a2
    have cr:ps.length<=100:=by
     have h1:ps.length<=(zC o (bk.take (i+1))).length:=by
      rw[<-b2,n,aD,aD,aW];omega
     omega
    have cd:b.length<=100:=by
     have h1:=(kG ps).1
     rw[<-R2.rows,ak]at h1
     omega
    refine⟨bl,[sv p.1,sv p.2],rfl,bm,rfl,_,_,rfl,_,_,rfl,rfl,?_⟩
    refine⟨_,rfl,.inr (.inr (.inl ⟨rfl,.inl ⟨_,R2.top⟩⟩)),_,rfl,fun B Y=>?_⟩
    have ac:H B=none:=D.free Y
    have Z:d≠B:=y9 R2.top Y
    have s3:zA q (upd q B (.dK [])):=zA.upd1 Y
    have fin:∀(ad:av) (row:List (S×Int)) (J:Hp),J ad=some (.dK (vN row))->(row.map (·.1)).Nodup->row.length<=100->(∀L,L=upd J ad (.dK (vN (y7 row p.2)))->ap [some (.ref a),some (.int o),some (.ref d),some (sv nm),some (sv p.1),some (sv p.2),some (.ref ad)] L)->
      zCD (qR 6) (qR 5) (jR (qK fun i j=>V.int (i+j)) (zCF (qR 6) (qR 5) (tC (.int 0))) (tC (.int 1))) {nx:=ap,rt:=Q,bk:=fun _ _=>False,ct:=fun _ _=>False} [some (.ref a),some (.int o),some (.ref d),some (sv nm),some (sv p.1),some (sv p.2),some (.ref ad)] J:=by
     intro ad row J c b3 cs hq
     refine⟨_,rfl,ad,rfl,.inl ⟨_,.inl c⟩,_,rfl,_,vT.k (k:=Sum.inr (tx p.2)) c,(zE row p.2).getD 0,1,?_,rfl,?_⟩
     ·rw[kB]
      cases zE row p.2<;>rfl
     ·refine⟨_,rfl,_,rfl,ad,_,rfl,qC.k (k:=Sum.inr (tx p.2)) c (by rw[zCt,aV];omega),hq _ ?_⟩
      rw[zCu V.int row p.2 _ b3]
      rfl
    have C:∀(ad:av) (row:List (S×Int)) (J L:Hp),zA H J->H ad=none->J l=some (.lst xs)->Reps K J ((z7 o nm).map kA) xs->L=upd J ad (.dK (vN (y7 row p.2)))->J ad=some (.dK (vN row))->RA H L d (ps++[p]) (zJ b p.1 (ad,y7 row p.2))->
      ap [some (.ref a),some (.int o),some (.ref d),some (sv nm),some (sv p.1),some (sv p.2),some (.ref ad)] L:=by
     intro ad row J L sx b4 ab b5 M c RR
     have al:ad≠l:=kM c ab (by intro z;cases z)
     subst M
     refine bd _ _ ⟨⟨_,_,_,rfl⟩,sx.upd_new b4,by rw[zQ al.symm];exact ab,Reps.sameQ (uM.upd c) _ _ b5,_,by rw[a2];exact RR,fun r m=>?_⟩
     rcases gJ m with e|⟨e,_⟩
     ·rw[e];exact al
     ·exact bh r e
    have aq:upd q B (.dK []) d=some (.dK (yS (fun v:av×List (S×Int)=>V.ref v.1) b)):=by rw[zQ Z];exact R2.top
    have a3:upd q B (.dK []) l=some (.lst xs):=s3 _ _ aK
    have a4:∀r∈b,upd q B (.dK []) r.2.1=some (.dK (vN r.2.2)):=fun r m=>s3 _ _ (R2.row r m)
    have b6:∀r∈b,r.2.1≠B:=fun r m=>y9 (R2.row r m) Y
    refine⟨d,_,Sum.inr (tx p.1),_,rfl,rfl,aq,by rw[zCt,aV];omega,fun yv N=>?_,fun ar=>?_⟩
    ·
     rw[kB]at N
     cases g:zE b p.1 with
     |none=>rw[g]at N;cases N
     |some v=>
     rw[g]at N
     have ev:yv=.ref v.1:=(aH N).symm
     subst ev
     obtain⟨r1,r2,r3,r4,r5⟩:=zHH R2 g
     have O:upd q B (.dK []) v.1=some (.dK (vN v.2)):=s3 _ _ r1
     refine fin v.1 v.2 _ O r2 (by omega) fun L M=>C v.1 v.2 _ L (D.trans s3) r4 a3 (Reps.same s3 _ _ G) M O ?_
     refine R2.step p v.2 (by rw[g];rfl) (fun v' T=>by rw[g]at T;rw[aH T]) (fun hn=>by rw[g]at hn;cases hn) (by rw[M,zH]) ?_ fun r m as=>?_
     ·rw[M,zQ r5.symm,aq]
      have:=zHG (fun v:av×List (S×Int)=>V.ref v.1) b p.1 (v.1,y7 v.2 p.2) v g rfl
      rw[this]
     ·rw[M,zQ as];exact a4 r m
    ·
     rw[kB]at ar
     have g:zE b p.1=none:=by
      cases g:zE b p.1 with
      |none=>rfl
      |some v=>rw[g]at ar;cases ar
     have b9:=zCu (fun v:av×List (S×Int)=>V.ref v.1) b p.1 (B,[]) (zAq R2)
     have a5:upd (upd q B (.dK [])) d (.dK (yQ (yS (fun v:av×List (S×Int)=>V.ref v.1) b) (Sum.inr (tx p.1)) (.ref B))) B=some (.dK (vN [])):=by
      rw[zQ Z.symm,zH];rfl
     refine fin B [] _ a5 (by simp) (by simp) fun L M=>C B [] _ L ((D.trans s3).upd_new hd) ac (by rw[zQ a9];exact a3) (Reps.sameQ (uM.upd aq) _ _ (Reps.same s3 _ _ G)) M a5 ?_
     refine R2.step p [] (by rw[g];rfl) (fun v' T=>by rw[g]at T;cases T) (fun _=>⟨ac,Z.symm,fun hm=>?_⟩) (by rw[M,zH]) ?_ fun r m as=>?_
     ·obtain⟨r,m,e⟩:=aB.mp hm
      exact b6 r m e
     ·rw[M,zQ Z,zH,b9]
      congr 2
      have hk:p.1∉b.map (·.1):=gF.mp g
      rw[zAn _ _ _ hk,zAn _ _ _ hk]
      unfold yS j6
      rw[aJ,aJ,aJ,aJ]
      rfl
     ·rw[M,zQ as,zQ (R2.new r m).2];exact a4 r m
   ·rintro σ q ⟨⟨y,z,u,rfl⟩,D,aK,G,b,R2,_⟩
    refine hN _ _ ⟨⟨_,_,_,_,rfl⟩,D,b,?_⟩
    rw[n]
    have ab:xs.length=(z7 o nm).length:=by have:=G.length;simpa using this.symm
    rw[ab,ba]at R2
    exact R2
  ·rintro σ H' ⟨⟨x1,x2,x3,x4,rfl⟩,sm,U,R⟩
   refine⟨_,rfl,k d H' sm hd ⟨U,?_,R.top,R.row⟩⟩
   rw[R.rows]
   have:(zU bk).length=bk.length:=by simp[zU]
   rw[this,ba]
end
def vF (ps:List (S×S))(e:S):List (S×Int):=(zE (yY ps) e).getD []
theorem zCz (a:List (S×S))(e:S):((vF a e).map (·.1)).Nodup:=by
 unfold vF
 cases g:zE (yY a) e with
 |none=>simp
 |some row=>exact(uF a).ndr e row ((vM (uF a).nd e row).mpr g)
section
variable{P:aI}{w:aR}{K:ai}{mg:Str->Option af}{base:bt}
theorem uX {X:Cx}(c:ai){pos:Pos}{a:List bV}{k:Nat}{t:u7}(n:Nat)(d:X.K=c)(e:X.calm=true)(h:jP X a t)
  (f:(assignEach a X.env).length=n) (b:(assignEach a X.env).findIdx? (·.1)=none):PG X (.Tuple a k pos) (zBU c n t):=by
 subst d
 exact jQ e h f b
end
theorem zAo.get {H:Hp}{d:av}{b:List (S×S)}(h:zAo H d b)(e:S):∃kvs:List (zL×V),H d=some (.dK kvs)/\((yL kvs (Sum.inr (tx e))=none/\vF b e=[])\/∃a,yL kvs (Sum.inr (tx e))=some (.ref a)/\H a=some (.dK (vN (vF b e)))):=by
 obtain⟨c,f,j,l⟩:=h
 refine⟨_,j,?_⟩
 rw[kB]
 have nd:(c.map (·.1)).Nodup:=by
  have h:=(uF b).nd
  rw[<-f,aO]at h
  exact h
 have i:zE (yY b) e=(zE c e).map (·.2):=by
  rw[<-f]
  exact zAm (fun v:av×List (S×Int)=>v.2) c e
 cases g:zE c e with
 |none=>exact .inl ⟨rfl,by unfold vF;rw[i,g];rfl⟩
 |some v=>
  refine .inr ⟨v.1,rfl,?_⟩
  have:=l _ ((vM nd e v).mpr g)
  unfold vF
  rw[i,g]
  exact this
structure Bk (bk:List S) (o:Nat):Prop extends isBk bk where
 o1:1<=o
 o3:o<=3
theorem Bk.l8 {bk:List S}{o:Nat}(h:Bk bk o):∀x∈bk,x.length<=8:=fun x a=>(h.nm x a).2.1
section
variable{P:aI}{w:aR}{K:ai}{mg:Str->Option af}{base:bt}
structure Needs (P:aI) (w:aR) (K:ai) (mg:Str->Option af) (base:bt):Prop where
 bk:yE P w K mg base 3 "need_book" ["thing"] zCr
 od:yE P w K mg base 3 "need_order" ["thing"] zCs
 nm:yE P w K mg base 2 "need_name" ["thing"] zAk
 rows:yE P w K mg base 3 "counted_rows" ["book","order"] zCx
end
theorem zDA (x:Str):tx x.cps.toList=x:=by
 apply MyS.Str_ext
 simp[tx]
theorem zDB (l:List Str):(l.map fun x=>x.cps.toList).map tx=l:=by
 rw[aO]
 conv=>rhs;rw[<-f7 l]
 apply bO
 intro x _
 exact zDA x
def gK:V->Int
 | .int i=>i
 |_=>0
theorem zDC {c:List (Str×V)}{row:List (S×Int)}(h:c.Perm (row.map fun q=>(tx q.1,V.int q.2))):∃d:List (S×Int),d.Perm row/\c=d.map fun q=>(tx q.1,V.int q.2):=by
 refine⟨c.map fun p=>(p.1.cps.toList,gK p.2),?_,?_⟩
 ·have:=h.map fun p:Str×V=>(p.1.cps.toList,gK p.2)
  rw[aO]at this
  have e:(row.map ((fun p:Str×V=>(p.1.cps.toList,gK p.2)) ∘ fun q=>(tx q.1,V.int q.2)))=row:=by
   conv=>rhs;rw[<-f7 row]
   apply bO
   rintro⟨a,b⟩ _
   show((tx a).cps.toList,b)=(a,b)
   rw[vE]
  rw[e]at this
  exact this
 ·rw[aO]
  conv=>lhs;rw[<-f7 c]
  apply bO
  rintro⟨a,b⟩ f
  obtain⟨q,_,e⟩:=aB.mp (h.mem_iff.mp f)
  have e1:tx q.1=a:=(bE e).1
  have g:V.int q.2=b:=(bE e).2
  subst g
  show(a,V.int q.2)=(tx a.cps.toList,V.int (gK (V.int q.2)))
  rw[zDA];rfl
def yT (q:S×Int):dk:=.tuple [.str (tx q.1),.int q.2]
def qG (r:S×List (S×Int)):dk:=.tuple [.str (tx r.1),.tuple (r.2.map yT)]
section
variable{P:aI}{w:aR}{K:ai}{mg:Str->Option af}{base:bt}
theorem zAr {H:Hp}:∀(c:List (S×Int)) (ts:List V),ts.length=c.length->(∀(i:Nat) (q:S×Int),c[i]?=some q->∃a,ts[i]?=some (.ref a)/\H a=some (.tup [sv q.1,.int q.2]))->Reps K H (c.map yT) ts
 | [],ts,hl,_=>by
  have:ts=[]:=by simpa using hl
  rw[this];exact rfl
 |q::c,ts,hl,h=>by
  obtain⟨a,e,d⟩:=h 0 q rfl
  cases ts with
  |nil=>simp at e
  |cons t ts=>
   have f:t=.ref a:=by simpa using e
   subst f
   refine⟨_,_,rfl,⟨a,_,rfl,.of d,_,_,rfl,rfl,_,_,rfl,rfl,rfl⟩,zAr c ts (by simpa using hl) fun i g j=>?_⟩
   obtain⟨b,l,m⟩:=h (i+1) g (by simpa using j)
   exact⟨b,by simpa using l,m⟩
theorem zHJ {X:Cx}(e:ai)(g:X.K=e){o:bV}{f:TE}{name:Str}{apos a:Pos}{T id:String}{r:V->List V->Hp->VK->Prop}(h:jz T)(slot:Slot T name id)(d:typeOf (.builtin id)=pure (.type "method_descriptor"))(i:jB X id r)(j:PE X o f)
  (b:attributeBase o name X.env (eval o X.env)=eval o X.env:=by rfl) (c:(apos.endLine==a.line)=true:=by rfl):PE X (.Call (.Attribute o name apos) [] [] a) (zBv e T r f):=by
 subst g
 exact zBw h slot d i j b c
theorem zHK {X:Cx}(a:ai)(c:X.K=a):vD X (.type "tuple") (fun xs H Q=>∃p b,xs=[.ref p]/\((zV a H p b/\∀l,H l=none->Q (.ref l) (upd H l (.tup b)))\/(zW a H p b/\Q (.ref p) H))):=by
 subst c
 exact zFT
def zDD (K:ai):Sp:=fun vs H Q _=>∃(a:av) (bk:List S) (o:Nat),vs=[.ref a,.int o]/\H a=some (.tup (zU bk))/\Bk bk o/\(zC o bk).length<64/\
 ∀tb l xs H',IsTable (zC o bk) tb->zA H H'->H l=none->H' l=some (.lst xs)->Reps K H' (tb.map qG) xs->Q (.ref l) H'
abbrev zAs:dB:=top 21
theorem zDE:FnScope ["book","order","rows"] ["book","order"] (defScope zAs):=yR
theorem nd4:(["rows","end"]:List Str).Nodup:=by decide+kernel
theorem zHL {f:av}{fd:bw}(F:Fun K "table" "table" zAs f fd)(B:Blt mg)(N:Needs P w K mg base):FnOk P w K mg base z6 4 f fd ["book","order"] (zDD K):=by
 refine F.ok zDE (fun vs H Q E h=>?_) (fun bh A outer s H vs Q E X h=>?_)
 ·obtain⟨a,bk,o,rfl,_⟩:=h;rfl
 ·obtain⟨a,bk,o,rfl,ha,hb,bi,k⟩:=h
  have hu:=k5 X
  have bl:=X.mono (j:=2) (by decide)
  have nd:=zDE.nd
  refine⟨_,zO (qT (zX N.bk X rfl (zB (pv 0) zD))) (zO (qT (zX N.od X rfl (zB (pv 1) zD)))
   (zO (yO (i:=2) nd rfl (Or.inr rfl) (zX N.rows X rfl (zB (pv 0) (zB (pv 1) zD))))
   (zS (z9 (vL (N:=["rows","end"]) (caps:=[2]) rfl (y6 (by kernel_rfl))
    (vR (yD (zGP rfl) (by rfl) B.sorted cL (zB (pv 2) zD)))
    (fun cl C s H ex=>zM (i:=1) nd4 rfl (Or.inl rfl))
    (fun cl C s H ex=>v3)
    (fun cl C s H ex=>uT (zB (pv 1) (zB (kY (zHK K rfl) (by rfl) B.tuple gp (zB (yD (zCc rfl) (by rfl) B.sorted cL
     (zB (zHJ K rfl dN eS gq zCb (zFc hu (pv 0) (pv 1) (fun _ _=>rfl))) zD)) zD)) zD)))))))),?_⟩
  refine⟨_,rfl,a,bk,rfl,ha,hb.toisBk,fun H1 s1=>?_⟩
  refine⟨_,rfl,o,rfl,hb.o1,hb.o3,?_⟩
  refine⟨_,rfl,_,rfl,a,bk,o,rfl,s1 _ _ ha,hb.hi,hb.l8,hb.o1,fun d H3 s3 hd R=>?_⟩
  obtain⟨m,I,Y,al⟩:=id R
  have am:(m.map (·.1)).Nodup:=by
   have h:=(uF (zC o bk)).nd
   rw[<-I,aO]at h
   exact h
  have an:m.length<64:=by
   have h1:=(kG (zC o bk)).1
   rw[<-I,ak]at h1
   omega
  have T:((m.map fun p=>(tx p.1,V.ref p.2.1)).map (·.1))=(m.map (·.1)).map tx:=by rw[aO,aO];rfl
  have a0:((m.map fun p=>(tx p.1,V.ref p.2.1)).map (·.1)).Nodup:=by
   rw[T]
   exact eh tx (fun a b U z=>U (uW z)) am
  refine⟨_,rfl,d,m.map (fun p:S×av×List (S×Int)=>(tx p.1,V.ref p.2.1)),rfl,Y,a0,by rw[ak];exact an,fun J l W ap hl=>?_⟩
  rw[T]at W
  have c:(J.map fun x=>x.cps.toList).Perm (m.map (·.1)):=by
   have:=W.map fun x:Str=>x.cps.toList
   rw[aO]at this
   have e:(m.map (·.1)).map ((fun x:Str=>x.cps.toList) ∘ tx)=m.map (·.1):=by
    conv=>rhs;rw[<-f7 (m.map (·.1))]
    apply bO
    intro x _
    exact vE x
   rw[e]at this
   exact this
  have u:(J.map fun x=>x.cps.toList).Pairwise (· < ·):=aQ.mpr ap
  have Z:J=(J.map fun x=>x.cps.toList).map tx:=(zDB J).symm
  generalize(J.map fun x=>x.cps.toList)=os at c u Z
  subst Z
  have sl:zA H3 (upd H3 l (.lst ((os.map tx).map V.str))):=zA.upd1 hl
  have bm:os.length=m.length:=by have:=c.length_eq;rw[ak]at this;exact this
  refine⟨l,rfl,⟨_,.of zH⟩,?_⟩
  refine v5 (vV K l _) [some (.ref d)] 1 (by rw[ak,ak];omega) (fun i L H'=>zA (upd H3 l (.lst ((os.map tx).map V.str))) H'/\L.length=i/\∃tb:List (S×List (S×Int)),tb.map (·.1)=os.take i/\(∀r∈tb,IsRow (zC o bk) r.1 r.2)/\Reps K H' (tb.map qG) L)
   ⟨zA.refl _,rfl,[],rfl,by simp,rfl⟩ (fun i L H' _ h=>⟨.of (h.1 _ _ zH),cH h.2.1⟩) ?_ ?_
  ·rintro i x L H' ys Nx hN hx hy ⟨sm,aq,tb,M,ac,rp⟩
   obtain⟨y,rfl⟩:=qF hy
   rw[az,az]at hx
   cases ep:os[i]? with
   |none=>rw[ep]at hx;cases hx
   |some e=>
   rw[ep]at hx
   have a1:x=sv e:=(aH hx).symm
   subst a1
   have hi:i<os.length:=(ah.mp ep).1
   have a2:os[i]=e:=(ah.mp ep).2
   have ar:e∈m.map (·.1):=c.mem_iff.mp (aU ep)
   obtain⟨n,hr0,a3⟩:=aB.mp ar
   have g:zE m e=some n.2:=(vM am e n.2).mp (by rw[<-a3];exact hr0)
   have O:=sl.trans sm
   have a4:=O _ _ Y
   have G:=O _ _ (al n hr0)
   have ab:n.2.2=vF (zC o bk) e:=by
    unfold vF
    have e2:zE (yY (zC o bk)) e=(zE m e).map (·.2):=by
     rw[<-I]
     exact zAm (fun v:av×List (S×Int)=>v.2) m e
    rw[e2,g];rfl
   have a5:n.2.2.length<64:=by
    have h1:=(kG (zC o bk)).2 (n.1,n.2.2) (by rw[<-I];exact aB.mpr ⟨n,hr0,rfl⟩)
    have bn:n.2.2.length<=(zC o bk).length:=h1
    omega
   refine⟨_,rfl,_,rfl,_,rfl,d,.ref n.2.1,rfl,?_,?_⟩
   ·have:=vT.k (k:=Sum.inr (tx e)) a4
    rw[kB,g]at this
    exact this
   refine⟨.inr (.inr (.inl ⟨rfl,.inl ⟨_,G⟩⟩)),n.2.1,_,rfl,rfl,G,fun p hp=>?_⟩
   have s5:zA H' (upd H' p (VW p n.2.1)):=zA.upd1 hp
   refine⟨p,n.2.1,n.2.2.map (fun q:S×Int=>(tx q.1,V.int q.2)),rfl,zH,s5 _ _ G,?_,by rw[ak];exact a5,fun be l2 ts H6 a6 a7 s6 a8 bv as a9=>?_⟩
   ·have:((n.2.2.map fun q=>(tx q.1,V.int q.2)).map (·.1))=(n.2.2.map (·.1)).map tx:=by rw[aO,aO];rfl
    rw[this,ab]
    exact eh tx (fun a b U z=>U (uW z)) (zCz _ _)
   obtain⟨rs,bd,rfl⟩:=zDC a6
   refine⟨l2,ts,rfl,.inl ⟨.of a8,fun l7 ax=>?_⟩⟩
   refine⟨by show 2<=sizeLine;decide,fun pp aK=>hN _ _ [some (sv e)] rfl ⟨?_,by rw[aD,aq];rfl,tb++[(e,rs)],?_,?_,?_⟩⟩
   ·exact(((sm.trans s5).trans s6).trans (zA.upd1 ax)).trans (zA.upd1 aK)
   ·rw[aJ,M,aF hi,a2];rfl
   ·intro r X
    rcases b8.mp X with z|z
    ·exact ac r z
    ·have:r=(e,rs):=by simpa using z
     subst this
     refine IsRow.of (uF (zC o bk)) ?_ ?_
     ·have:=aQ.mp a7
      refine this.imp fun{a b} U=>?_
      have h':(tx a.1).cps.toList<(tx b.1).cps.toList:=U
      rw[vE,vE]at h'
      exact h'
     ·show rs.Perm (vF (zC o bk) e)
      rw[<-ab];exact bd
   ·have s8:zA (upd H6 l7 (.tup ts)) (upd (upd H6 l7 (.tup ts)) pp (.tup [sv e,.ref l7])):=zA.upd1 aK
    have s7:zA H6 (upd H6 l7 (.tup ts)):=zA.upd1 ax
    rw[aJ]
    refine Reps.append (Reps.same (((s5.trans s6).trans s7).trans s8) _ _ rp) (Reps.one ⟨pp,_,rfl,.of zH,_,_,rfl,rfl,_,_,rfl,⟨l7,ts,rfl,.of (s8 _ _ zH),?_⟩,rfl⟩)
    refine zAr rs ts (by rw[as,ak]) fun j q hq=>?_
    obtain⟨a',e1,_,e2⟩:=a9 j (tx q.1,V.int q.2) (by rw[az,hq];rfl)
    exact⟨a',e1,s8 _ _ (s7 _ _ e2)⟩
  ·rintro L H' ⟨sm,aq,tb,M,ac,rp⟩ D hD
   have O:=(s1.trans s3).trans (sl.trans sm)
   have e1:os.take ((os.map tx).map V.str).length=os:=by rw[ak,ak,ba]
   rw[e1]at M
   refine k tb D L _ ⟨?_,fun e=>?_,fun e xs hm=>ac _ hm⟩ (O.upd_new (O.free hD)) (O.free hD) zH (Reps.same (zA.upd1 hD) _ _ rp)
   ·unfold yH
    rw[<-M]at u
    exact aQ.mp u
   ·rw[<- (uF (zC o bk)).has e]
    constructor
    ·rintro⟨xs,hm⟩
     have:e∈os:=by rw[<-M];exact dH (f:=(·.1)) hm
     have hk:=c.mem_iff.mp this
     cases g:zE (yY (zC o bk)) e with
     |some row=>exact⟨row,rfl⟩
     |none=>
      have:=gF.mp g
      rw[<-I,aO]at this
      exact absurd hk this
    ·rintro⟨row,hg⟩
     have hk:e∈m.map (·.1):=by
      have:e∈(yY (zC o bk)).map (·.1):=dH (f:=(·.1)) ((vM (uF (zC o bk)).nd e row).mpr hg)
      rw[<-I,aO]at this
      exact this
     have:e∈os:=c.mem_iff.mpr hk
     rw[<-M]at this
     obtain⟨r,X,er⟩:=aB.mp this
     exact⟨r.2,by rw[<-er];exact X⟩
end
theorem zHM {c A B:Prop} [Decidable c] (a:¬c)(h:A):if(!decide c)=true then A else B:=by
 rw[decide_eq_false a];exact h
section
variable{P:aI}{w:aR}{K:ai}{mg:Str->Option af}{base:bt}
def NE (x:S):Prop:=x=[]\/uV x
theorem NE.l8 {x:S}(h:NE x):x.length<=8:=by
 rcases h with h|h
 ·rw[h];decide
 ·exact h.2.1
def zDF:Sp:=fun vs H Q _=>∃x:S,vs=[sv x]/\NE x/\∀H',zA H H'->Q .non H'
abbrev zAt:dB:=top 17
theorem zHN:FnScope ["thing"] ["thing"] (defScope zAt):=yR
theorem zHO {f:av}{fd:bw}(F:Fun K "need_name_or_empty" "need_name_or_empty" zAt f fd)(b:yE P w K mg base 2 "need_name" ["thing"] zAk):FnOk P w K mg base z6 3 f fd ["thing"] zDF:=by
 refine F.ok zHN (fun vs H Q E h=>?_) (fun c A outer s H vs Q E d h=>?_)
 ·obtain⟨x,rfl,_⟩:=h;rfl
 ·obtain⟨x,rfl,a,k⟩:=h
  refine⟨_,zS (vC (yW kW (pv 0) uZ (yV _)) (zS (qT (zX b d rfl (zB (pv 0) zD)))) vB),?_⟩
  refine⟨_,rfl,rfl,_,rfl,?_⟩
  rcases a with rfl|a
  ·exact jC rfl (k H (zA.refl H))
  ·refine zHM (fun z=>?_) ⟨_,rfl,x,rfl,a,fun H' g=>k H' g⟩
   have e:tx x=tx []:=V.str.inj z
   have:=uW e
   rw[this]at a
   exact absurd a.1 (by simp)
def zDG (K:ai):Sp:=fun vs H Q _=>∃(a:av) (bk:List S) (o:Nat) (x:S),vs=[.ref a,.int o,sv x]/\H a=some (.tup (zU bk))/\Bk bk o/\NE x/\(zC o bk).length<64/\
 ∀rs l xs H',IsRow (zC o bk) (zP x o) rs->zA H H'->H l=none->H' l=some (.lst xs)->Reps K H' (rs.map yT) xs->Q (.ref l) H'
abbrev zAu:dB:=top 22
theorem zDH:FnScope ["book","order","text","row"] ["book","order","text"] (defScope zAu):=yR
theorem zHP {f:av}{fd:bw}(F:Fun K "behind" "behind" zAu f fd)(B:Blt mg)(N:Needs P w K mg base)(L:yE P w K mg base 3 "need_name_or_empty" ["thing"] zDF)(y:yE P w K mg base 1 "end_of" ["text","order"] zAa):FnOk P w K mg base z6 4 f fd ["book","order","text"] (zDG K):=by
 refine F.ok zDH (fun vs H Q E h=>?_) (fun am A outer s H vs Q E J h=>?_)
 ·obtain⟨a,bk,o,x,rfl,_⟩:=h;rfl
 ·obtain⟨a,bk,o,x,rfl,ha,l,hx,an,k⟩:=h
  have hu:=k5 J
  have c:=J.mono (j:=3) (by decide)
  have ap:=J.mono (j:=2) (by decide)
  have hr1:=J.mono (j:=1) (by decide)
  have nd:=zDH.nd
  refine⟨_,zO (qT (zX N.bk c rfl (zB (pv 0) zD))) (zO (qT (zX N.od c rfl (zB (pv 1) zD))) (zO (qT (zX L c rfl (zB (pv 2) zD)))
   (zO (yO (i:=3) nd rfl (Or.inl rfl) (zAL hu (zX N.rows c rfl (zB (pv 0) (zB (pv 1) zD))) (zX y hr1 rfl (zB (pv 2) (zB (pv 1) zD))) zAK ⟨rfl,rfl,rfl,rfl⟩))
   (zS (z9 (yD (zCc rfl) (by rfl) B.sorted cL (zB (zBw dN eS gq zCb (pv 3)) zD))))))),?_⟩
  refine⟨_,rfl,a,bk,rfl,ha,l.toisBk,fun H1 s1=>?_⟩
  refine⟨_,rfl,o,rfl,l.o1,l.o3,?_⟩
  refine⟨_,rfl,x,rfl,hx,fun H2 s2=>?_⟩
  refine⟨_,rfl,_,rfl,a,bk,o,rfl,s2 _ _ (s1 _ _ ha),l.hi,l.l8,l.o1,fun d C s3 hd R=>?_⟩
  obtain⟨kvs,D,hv⟩:=R.get (zP x o)
  refine⟨d,rfl,.inl ⟨_,.inl D⟩,_,rfl,_,rfl,x,o,rfl,l.o1,(by have:=hx.l8;omega),fun v M=>?_⟩
  have O:zA C (upd C v (.dK [])):=zA.upd1 M
  have G:=((s1.trans s2).trans s3).trans O
  obtain⟨e,e1,m⟩:∃e,(yL kvs (Sum.inr (tx (zP x o)))).getD (.ref v)=.ref e/\upd C v (.dK []) e=some (.dK (vN (vF (zC o bk) (zP x o)))):=by
   rcases hv with⟨n,r⟩|⟨e,n,r⟩
   ·exact⟨v,by rw[n];rfl,by rw[zH,r];rfl⟩
   ·exact⟨e,by rw[n];rfl,O _ _ r⟩
  refine⟨_,vT.k (k:=Sum.inr (tx (zP x o))) (O _ _ D),?_⟩
  rw[e1]
  refine⟨_,rfl,.inr (.inr (.inl ⟨rfl,.inl ⟨_,m⟩⟩)),e,_,rfl,rfl,m,fun p hp=>?_⟩
  have T:zA (upd C v (.dK [])) (upd (upd C v (.dK [])) p (VW p e)):=zA.upd1 hp
  have U:(vF (zC o bk) (zP x o)).length<64:=by
   unfold vF
   cases g:zE (yY (zC o bk)) (zP x o)with
   |none=>show 0<64;decide
   |some row=>
    have h1:row.length<=(zC o bk).length:=(kG (zC o bk)).2 (zP x o,row) ((vM (uF _).nd _ _).mpr g)
    show row.length<64
    omega
  refine⟨p,e,(vF (zC o bk) (zP x o)).map (fun q:S×Int=>(tx q.1,V.int q.2)),rfl,zH,T _ _ m,?_,by rw[ak];exact U,fun al l2 ts H6 W X s6 Y Z I ab=>?_⟩
  ·have:(((vF (zC o bk) (zP x o)).map fun q=>(tx q.1,V.int q.2)).map (·.1))=((vF (zC o bk) (zP x o)).map (·.1)).map tx:=by rw[aO,aO];rfl
   rw[this]
   exact eh tx (fun a b u z=>u (uW z)) (zCz _ _)
  obtain⟨rs,ac,rfl⟩:=zDC W
  refine k rs l2 ts H6 (IsRow.of (uF (zC o bk)) ?_ ac) ((G.trans T).trans s6) ((G.trans T).free Z) Y ?_
  ·have:=aQ.mp X
   refine this.imp fun{a b} u=>?_
   have h':(tx a.1).cps.toList<(tx b.1).cps.toList:=u
   rw[vE,vE]at h'
   exact h'
  ·refine zAr rs ts (by rw[I,ak]) fun j q hq=>?_
   obtain⟨a',e1,_,e2⟩:=ab j (tx q.1,V.int q.2) (by rw[az,hq];rfl)
   exact⟨a',e1,e2⟩
theorem zDI {H:Hp}:∀ns:List Int,Reps K H (ns.map PyData.int) (ns.map V.int)
 | []=>rfl
 |n::ns=>⟨_,_,rfl,rfl,zDI ns⟩
theorem zDJ:∀ns:List Int,bx (ns.map PyData.int)=true
 | []=>rfl
 |n::ns=>by rw[aM];simp only[bx,cD,zDJ ns,d5]
def zDK (K:ai):Sp:=fun vs H Q _=>∃(a:av) (ns:List Int) (k:Nat),vs=[.ref a,.int k]/\zV K H a (ns.map V.int)/\ns.length<=63/\∀(i:Int) H',zA H H'->Q (.int i) H'
abbrev zAv:dB:=top 24
theorem zHQ:FnScope ["_law_script","_law_k"] ["_law_script","_law_k"] (defScope zAv):=yR
theorem zHR (ns:List Int):cV (.list (ns.map PyData.int))=true:=by
 unfold cV
 have a:(PyData.list (ns.map PyData.int)).canLay0=true:=by simp only[cD];exact zDJ ns
 have b:(PyData.list (ns.map PyData.int)).depth<=64:=by
  have go:∀ns:List Int,cc (ns.map PyData.int)<=1:=by
   intro ns
   induction ns with
   |nil=>decide
   |cons n ns ih=>rw[aM];simp only[cc,dY];omega
  have:=go ns
  simp only[dY];omega
 rw[a,decide_eq_true b];rfl
theorem zHS {f:av}{fd:bw}(F:Fun K "_law_cell" "_law_cell" zAv f fd)(B:Blt mg):FnOk P w K mg base z6 1 f fd ["_law_script","_law_k"] (zDK K):=by
 refine F.ok zHQ (fun vs H Q E h=>?_) (fun g A outer s H vs Q E i h=>?_)
 ·obtain⟨a,ns,k,rfl,_⟩:=h;rfl
 ·obtain⟨a,ns,n,rfl,e,hl,k⟩:=h
  have hu:=i.units
  refine⟨_,zO (vC (yW (k7 hu) (pv 0) (qL zD) (yV _)) (zS (z9 (zN u9 zT (pv 1)))) vB)
   (zS (z9 (zN yP (zAF zBt (pv 0) (zN qX (pv 1) (yD jU (by rfl) B.len cE (zB (pv 0) zD))) (fun _ _=>rfl))
    (zN u9 zT (zN kU (pv 1) (yD jU (by rfl) B.len cE (zB (pv 0) zD))))))),?_⟩
  refine⟨_,rfl,by show 0<=sizeLine;decide,fun p j=>?_⟩
  have c:zA H (upd H p (.lst [])):=zA.upd1 j
  refine⟨.list (ns.map PyData.int),.list [],⟨a,_,rfl,c.seq e,zDI ns⟩,⟨p,[],rfl,.of zH,rfl⟩,zHR ns,rfl,_,rfl,?_⟩
  cases ns with
  |nil=>exact zCH ⟨_,rfl,7,n,rfl,rfl,.inl ⟨by decide,by decide⟩,k _ _ c⟩
  |cons m ns=>
   refine vU ?_
   have b:((m::ns).map V.int).length=ns.length+1:=by simp
   have l:ns.length+1<=63:=by simpa using hl
   have o:((n:Int)%(((m::ns).map V.int).length:Int))=((n%(ns.length+1):Nat):Int):=by rw[b];rfl
   have d:n%(ns.length+1)<((m::ns).map V.int).length:=by rw[b];exact eP _ (Nat.succ_pos _)
   refine⟨_,rfl,_,rfl,_,rfl,a,_,rfl,.inl (c.seq e),_,_,rfl,rfl,by rw[b];omega,?_⟩
   refine⟨a,_,_,.int ((m::ns)[n%(ns.length+1)]'(by simpa using d)),rfl,rfl,c.seq e,?_,?_⟩
   ·rw[o]
    refine zAE ?_
    rw[az,aC (by simpa using d)];rfl
   ·exact⟨_,rfl,_,rfl,a,_,rfl,.inl (c.seq e),_,_,rfl,rfl,⟨by rw[b];omega,by rw[b];omega⟩,_,_,rfl,rfl,.inl ⟨by decide,by decide⟩,_,_,rfl,rfl,k _ _ c⟩
theorem gL {d:Int}(h:0<d):0<d:=h
theorem cmE {t d q:Int}(h:0<d)(a:d<18446744073709551616):kS (t%d) q:=by
 have b:=md t (show d≠0 by omega)
 have c:=kg t h
 exact .inl ⟨by omega,by omega⟩
def zDL (K:ai):Sp:=fun vs H Q _=>∃(a:av) (ns:List Int) (k m:Nat),vs=[.ref a,.int k,.int m]/\zV K H a (ns.map V.int)/\ns.length<=63/\1<=m/\m<100000/\∀(i:Nat) H',i<m->zA H H'->Q (.int i) H'
abbrev zAw:dB:=top 25
theorem zDM:FnScope ["_law_script","_law_k","_law_many","_law_cell_here"] ["_law_script","_law_k","_law_many"] (defScope zAw):=yR
theorem zHT {f:av}{fd:bw}(F:Fun K "_law_drawn" "_law_drawn" zAw f fd)(b:yE P w K mg base 1 "_law_cell" ["_law_script","_law_k"] (zDK K)):FnOk P w K mg base z6 2 f fd ["_law_script","_law_k","_law_many"] (zDL K):=by
 refine F.ok zDM (fun vs H Q E h=>?_) (fun c A outer s H vs Q E d h=>?_)
 ·obtain⟨a,ns,k,m,rfl,_⟩:=h;rfl
 ·obtain⟨a,ns,n,m,rfl,g,hl,j,l,k⟩:=h
  have nd:=zDM.nd
  refine⟨_,zO (yO (i:=3) nd rfl (Or.inl rfl) (zN qX (zN yP (zN u9 (zN qX (zX b d rfl (zB (pv 0) (zB (pv 1) zD))) zT) zT) (zN u9 zT (zN yP (pv 1) zT))) zT))
   (zO (yO (i:=3) nd rfl (Or.inl rfl) (zN qX (zN yP (zN u9 (pv 3) (pv 3)) (zN kU (pv 3) zT)) zT))
   (zS (z9 (zN qX (zN kU (zN qX (zN yP (zN u9 (pv 3) (pv 3)) (zN kU (pv 3) zT)) zT) zT) (pv 2))))),?_⟩
  refine⟨_,rfl,_,rfl,a,ns,n,rfl,g,hl,fun i H' o=>?_⟩
  have fin:∀z:Int,Q (.int (z%(m:Int))) H':=fun z=>by
   have p:0<=z%(m:Int):=md _ (by omega)
   have q:z%(m:Int)<m:=kg _ (by omega)
   have e:z%(m:Int)=((z%(m:Int)).toNat:Int):=(Int.toNat_of_nonneg p).symm
   rw[e]
   exact k _ _ (by omega) o
  refine⟨_,_,rfl,rfl,gL (by decide),_,_,rfl,rfl,.inr ⟨by decide,by decide⟩,?_⟩
  refine⟨_,rfl,_,_,rfl,rfl,_,_,rfl,rfl,.inl ⟨by decide,by decide⟩,_,_,rfl,rfl,_,_,rfl,rfl,gL (by decide),?_⟩
  refine⟨_,rfl,_,rfl,_,_,rfl,rfl,cmE (by decide) (by decide),_,rfl,_,_,rfl,rfl,⟨by decide,by decide⟩,_,_,rfl,rfl,_,_,rfl,rfl,gL (by decide),?_⟩
  refine⟨_,rfl,_,rfl,_,_,rfl,rfl,cmE (by decide) (by decide),_,rfl,_,_,rfl,rfl,⟨by decide,by decide⟩,_,_,rfl,rfl,_,_,rfl,rfl,gL (by decide),_,_,rfl,rfl,⟨by decide,by decide⟩,_,rfl,_,_,rfl,rfl,?_,fin _⟩
  show(0:Int)<(m:Int)
  omega
def zDN (K:ai):Sp:=fun vs H Q _=>∃(a:av) (ns:List Int) (at' most:Nat),vs=[.ref a,.int at',.int most]/\zV K H a (ns.map V.int)/\ns.length<=63/\1<=most/\most<=8/\
 ∀(x:S) H',zA H H'->uV x->(x.length<=most/\∀c∈x,(c=97\/c=98\/c=122))->Q (sv x) H'
abbrev zAx:dB:=top 26
theorem zDO:FnScope ["_law_script","_law_at","_law_most","_law_size","_law_letters"] ["_law_script","_law_at","_law_most"] (defScope zAx):=yR
theorem ndN:(["_law_letters","_law_script","_law_at","_law_k"]:List Str).Nodup:=by decide+kernel
abbrev cDr (P:aI)(w:aR)(K:ai)(mg:Str->Option af)(base:bt):Prop:=yE P w K mg base 2 "_law_drawn" ["_law_script","_law_k","_law_many"] (zDL K)
theorem zHU {f:av}{fd:bw}(F:Fun K "_law_name" "_law_name" zAx f fd)(B:Blt mg)(I:cDr P w K mg base):FnOk P w K mg base z6 3 f fd ["_law_script","_law_at","_law_most"] (zDN K):=by
 refine F.ok zDO (fun vs H Q E h=>?_) (fun ac A outer s H vs Q E J h=>?_)
 ·obtain⟨a,ns,k,m,rfl,_⟩:=h;rfl
 ·obtain⟨a,ns,n,m,rfl,M,hl,O,al,k⟩:=h
  have nd:=zDO.nd
  refine⟨_,zO (yO (i:=3) nd rfl (Or.inl rfl) (zN yP zT (zX I J rfl (zB (pv 0) (zB (pv 1) (zB (pv 2) zD))))))
   (zO (yO (i:=4) nd rfl (Or.inr rfl) (zAF zBt (qL (zB uZ (zB uZ (zB uZ zD)))) (zX I J rfl (zB (pv 0) (zB (zN yP (pv 1) zT) (zB zT zD)))) (fun _ _=>rfl)))
   (zS (z9 (zAG ir PySem.F.slot_str_join PySem.F.type_str_join zGJ uZ (zB
    (vL (N:=["_law_letters","_law_script","_law_at","_law_k"]) (caps:=[4,0,1]) rfl (y6 (by kernel_rfl)) (zAA rfl B.range (zB (pv 3) zD))
     (fun U C s H ex=>zM (i:=3) ndN rfl (Or.inl rfl)) (fun U C s H ex=>v3)
     (fun U C s H ex=>zAF zFR (pv 0) (zX I J rfl (zB (pv 1) (zB (zN yP (zN yP (pv 2) zT) (pv 3)) (zB (yD jV (by rfl) B.len cE (zB (pv 0) zD)) zD)))) (fun _ _=>rfl))) zD))))),?_⟩
  refine⟨_,rfl,_,rfl,_,rfl,a,ns,n,m,rfl,M,hl,O,by omega,fun sz W hsz X=>?_⟩
  refine⟨_,_,rfl,rfl,?_⟩
  refine⟨by show 3<=sizeLine;decide,fun p hp=>?_⟩
  have Y:zA W (upd W p (.lst [.str "ab",.str "ab",.str "abz"])):=zA.upd1 hp
  refine⟨_,rfl,_,rfl,_,_,rfl,rfl,a,ns,n+9,3,rfl,Y.seq (X.seq M),hl,by decide,by decide,fun Z H3 R s3=>?_⟩
  have o:=(X.trans Y).trans s3
  obtain⟨L,hL,e⟩:∃L:S,(L=[97,98]\/L=[97,98,122])/\([.str "ab",.str "ab",.str "abz"]:List V)[Z]?=some (sv L):=by
   match Z,R with
   |0,_=>exact⟨[97,98],.inl rfl,rfl⟩
   |1,_=>exact⟨[97,98],.inl rfl,rfl⟩
   |2,_=>exact⟨[97,98,122],.inr rfl,rfl⟩
  refine⟨p,_,_,sv L,rfl,rfl,.of (s3 _ _ zH),zAE e,?_⟩
  refine⟨rfl,_,rfl,_,rfl,by omega,by omega,?_⟩
  have am:L.length=2\/L.length=3:=by rcases hL with h|h<;>subst h<;>simp
  have T:∀c∈L,(97<=c/\c<=122)/\(c=97\/c=98\/c=122):=by rcases hL with h|h<;>subst h<;>decide
  have r:(1+(sz:Int)).toNat=sz+1:=by omega
  refine v5 (zAW 0 _) [some (sv L),some (.ref a),some (.int n)] 1 (by rw[ak,bL,r];omega) (fun i l H'=>zA H3 H'/\∃b:S,l=b.map (fun c=>V.str (tx [c]))/\b.length=i/\∀c∈b,(97<=c/\c<=122)/\(c=97\/c=98\/c=122))
   ⟨zA.refl _,[],rfl,rfl,by simp⟩ (fun i l H' _ h=>⟨trivial,by obtain⟨_,b,rfl,h,_⟩:=h;rw[ak];omega⟩) ?_ ?_
  ·rintro i x l H' ys Nx hN hx hy ⟨v,b,rfl,g,d⟩
   obtain⟨y,rfl⟩:=qF hy
   rw[r]at hx
   obtain⟨hi,rfl⟩:=zAZ hx
   refine⟨_,rfl,_,rfl,_,rfl,_,_,rfl,rfl,_,rfl,_,_,rfl,rfl,_,rfl,tx L,rfl,by rw[yA,aV];omega,?_⟩
   rw[yA]
   refine⟨a,ns,n+1+i,L.length,rfl,(o.trans v).seq M,hl,by omega,by omega,fun j H5 hj s5=>?_⟩
   refine⟨tx L,_,L[j],rfl,rfl,by rw[yA,aV];omega,?_,?_⟩
   ·rw[vE]
    exact zAE (aC hj)
   ·refine hN _ _ [some (.int i)] rfl ⟨v.trans s5,b++[L[j]],by rw[aJ];rfl,by rw[aD,g];rfl,fun c u=>?_⟩
    rcases b8.mp u with z|z
    ·exact d c z
    ·have:c=L[j]:=by simpa using z
     rw[this]
     exact T _ (cg hj)
  ·rintro l H' ⟨v,b,rfl,g,d⟩ D hD
   rw[ak,bL,r]at g
   have q:((b.map fun c=>tx [c]).map (·.length)).sum=b.length:=by
    clear g d
    induction b with
    |nil=>rfl
    |cons c b ih=>rw[aM,aM,cK,ih,bf,yA];show 1+_=_;omega
   refine⟨_,D,b.map (fun c=>tx [c]),rfl,rfl,.of (by rw[zH,aO];rfl),?_,?_⟩
   ·rw[q]
    show _+_*0<=_
    omega
   ·have ej:lq ⟨#[]⟩ (b.map fun c=>tx [c])=tx b:=by
     rw[zGL,aO]
     congr 1
     clear g d q
     congr 1
     induction b with
     |nil=>rfl
     |cons c b ih=>rw[aM,List.flatten_cons,ih];rfl
    have kk:∀G,zA H G->Q (.str (lq ⟨#[]⟩ (b.map fun c=>tx [c]))) G:=fun G sx=>by
     rw[ej]
     exact k b G sx ⟨by omega,by omega,fun c u=>(d c u).1⟩ ⟨by omega,fun c u=>(d c u).2⟩
    exact kk _ ((o.trans v).trans (zA.upd1 hD))
def zDP (K:ai):Sp:=fun vs H Q _=>∃(a:av) (ns:List Int) (at' many most:Nat),vs=[.ref a,.int at',.int many,.int most]/\zV K H a (ns.map V.int)/\ns.length<=63/\1<=many/\many<=8/\1<=most/\most<=8/\
 ∀(p:av) (bk:List S) H',zA H H'->H' p=some (.tup (zU bk))->1<=bk.length->bk.length<=many->(∀x∈bk,uV x/\x.length<=most/\∀c∈x,c=97\/c=98\/c=122)->Q (.ref p) H'
abbrev zAy:dB:=top 27
theorem zDQ:FnScope ["_law_script","_law_at","_law_many","_law_most","_law_found","_law_k"] ["_law_script","_law_at","_law_many","_law_most"] (defScope zAy):=yR
theorem zHV {f:av}{fd:bw}(F:Fun K "_law_book" "_law_book" zAy f fd)(B:Blt mg)(c1:cDr P w K mg base)(c2:yE P w K mg base 3 "_law_name" ["_law_script","_law_at","_law_most"] (zDN K)):FnOk P w K mg base z6 4 f fd ["_law_script","_law_at","_law_many","_law_most"] (zDP K):=by
 refine F.ok zDQ (fun vs H Q E h=>?_) (fun ab A outer s H vs Q E T h=>?_)
 ·obtain⟨a,ns,k,m,l,rfl,_⟩:=h;rfl
 ·obtain⟨a,ns,n,many,d,rfl,U,hl,I,ac,J,L,k⟩:=h
  have nd:=zDQ.nd
  have M:=T.mono (j:=2) (by decide)
  refine⟨_,zO (yO (i:=4) nd rfl (Or.inl rfl) (uT zD))
   (zO (qW d3 rfl (zAA rfl B.range (zB (zN yP zT (zX c1 M rfl (zB (pv 0) (zB (pv 1) (zB (pv 2) zD))))) zD)) (zM (i:=5) nd rfl (Or.inl rfl))
    (zS (yO (i:=4) nd rfl (Or.inl rfl) (zN (zGQ.or zBr) (pv 4) (uT (zB (zX c2 T rfl (zB (pv 0) (zB (zN yP (zN yP (pv 1) zT) (zN u9 zT (pv 5))) (zB (pv 3) zD)))) zD))))))
   (zS (z9 (pv 4)))),?_⟩
  refine⟨by show 0<=sizeLine;decide,fun W N=>?_⟩
  have X:zA H (upd H W (.tup [])):=zA.upd1 N
  refine⟨_,rfl,_,rfl,_,rfl,a,ns,n,many,rfl,X.seq U,hl,I,by omega,fun sz H1 hsz Y=>?_⟩
  refine⟨_,_,rfl,rfl,_,rfl,by omega,by omega,?_⟩
  have o:(1+(sz:Int)).toNat=sz+1:=by omega
  refine jH (zAW 0 _) (fun i σ u=>∃(p:av) (bk:List S) (y:Option V),σ=[some (.ref a),some (.int n),some (.int many),some (.int d),some (.ref p),y]/\zA H u/\u p=some (.tup (zU bk))/\bk.length=i/\∀x∈bk,uV x/\x.length<=d/\∀c∈x,c=97\/c=98\/c=122)
   ⟨W,[],_,rfl,X.trans Y,Y _ _ zH,rfl,by simp⟩ (fun _ _ _ _ _=>trivial) ?_ ?_
  ·rintro i x σ u Nx Z hx ⟨p,bk,y,rfl,v,C,e,g⟩
   rw[o]at hx
   obtain⟨hi,rfl⟩:=zAZ hx
   refine⟨_,rfl,_,rfl,_,rfl,_,_,rfl,rfl,_,rfl,_,_,rfl,rfl,.inl ⟨by decide,by decide⟩,_,_,rfl,rfl,_,rfl,a,ns,n+1+10*i,d,rfl,v.seq U,hl,J,L,fun x H3 D hx1 O=>?_⟩
   refine⟨by show 1<=sizeLine;decide,fun q hq=>?_⟩
   have G:zA H3 (upd H3 q (.tup [sv x])):=zA.upd1 hq
   have nx:∀b∈bk++[x],uV b/\b.length<=d/\∀c∈b,c=97\/c=98\/c=122:=fun b hb=>by
    rcases b8.mp hb with z|z
    ·exact g b z
    ·have:b=x:=by simpa using z
     rw[this];exact⟨hx1,O⟩
   cases bk with
   |nil=>exact .inl ⟨p,q,_,rfl,rfl,.of (G _ _ (D _ _ C)),.of zH,Z _ _ ⟨q,[x],_,rfl,(v.trans D).trans G,zH,by rw[<-e];rfl,nx⟩⟩
   |cons c cs=>
    refine .inr ⟨p,q,_,_,rfl,rfl,.of (G _ _ (D _ _ C)),.of zH,by simp[zU],?_,fun z=>by simp at z,fun _ r R=>Z _ _ ⟨r,(c::cs)++[x],_,rfl,((v.trans D).trans G).trans (zA.upd1 R),?_,by rw[aD,e];rfl,nx⟩⟩
    ·have:(zU (c::cs)).length=i:=by rw[<-e];simp[zU]
     rw[this,aV]
     show i+1<=_
     omega
    ·rw[zH]
     unfold zU
     rw[aJ];rfl
  ·rintro σ u ⟨p,bk,y,rfl,v,C,e,g⟩
   rw[ak,bL,o]at e
   exact⟨_,rfl,k p bk u v C (by omega) (by omega) g⟩
end
section
variable{X:Cx}{tg:bV}
theorem zDR (a:ai)(b:X.K=a)(hu:X.A.units+64<cLine):z4 X (compareOp .NotEq) (zAP a true):=by
 subst b;exact j4 hu
theorem zDS (a:ai)(c:X.K=a):vD X (.type "list") (fun xs H Q=>∃p b,xs=[.ref p]/\(zV a H p b\/zW a H p b)/\∀l,H l=none->Q (.ref l) (upd H l (.lst b))):=by
 subst c;exact zFS
end
theorem zHW (a b:S):tx a++tx b=tx (a++b):=by
 apply MyS.Str_ext
 show((tx a).cps++(tx b).cps).toList=_
 simp[tx]
theorem kH {d:dk}{A B:Prop}(hd:d.canLay0=true)(h:B):if(if true=true then !PyData.eqv d d else eN d d)=true then A else B:=by
 rw[zCP d hd];exact h
theorem kI {t:S}(h:∀c∈t,c<=122):nV (tx t)=true:=by
 unfold nV
 rw[Array.all_eq_true']
 intro c b
 have a:c∈t:=by simpa [tx]using b
 have:=h c a
 exact decide_eq_true (by omega)
theorem gM {c:List dk}(h:∀d∈c,d.canLay0=true/\d.depth<=10):cV (.list c)=true/\(PyData.list c).canLay0=true:=by
 have g:bx c=true:=by
  induction c with
  |nil=>rfl
  |cons d c ih=>simp only[bx,(h d (ao ..)).1,ih fun e f=>h e (au _ f),d5]
 have l:cc c<=10:=by
  clear g
  induction c with
  |nil=>decide
  |cons d c ih=>
   have a:=(h d (ao ..)).2
   have b:=ih (fun e f=>h e (au _ f))
   simp only[cc];omega
 have i:(PyData.list c).canLay0=true:=by simp only[cD];exact g
 have j:(PyData.list c).depth<=64:=by simp only[dY];omega
 unfold cV
 rw[i,decide_eq_true j];exact⟨rfl,rfl⟩
theorem zDT {q:S×Int}(h:∀c∈q.1,c<=122):(yT q).canLay0=true/\(yT q).depth<=10:=by
 constructor
 ·unfold yT
  simp only[cD,bx,kI h,d5]
 ·unfold yT
  simp only[dY,cc]
  decide
theorem zHX {o:Nat}{t:S}(h:uV t){p:S×S}(b:p∈z7 o t):(∀c∈p.1,97<=c/\c<=122)/\∀c∈p.2,97<=c/\c<=122:=by
 obtain⟨i,_,rfl⟩:=aB.mp b
 refine⟨fun c a=>?_,fun c a=>?_⟩
 ·exact h.2.2 c (et (fw a))
 ·exact h.2.2 c (fw (et a))
theorem qN {o:Nat}{bk:List S}(h:isBk bk){p:S×S}(a:p∈zC o bk):(∀c∈p.1,97<=c/\c<=122)/\∀c∈p.2,97<=c/\c<=122:=by
 obtain⟨x,b,d⟩:=c6.mp a
 exact zHX (h.nm x b) d
theorem zHY {o:Nat}{bk:List S}(h:Bk bk o){e l:S}(a:(e,l)∈zC o bk):NE e:=by
 have c:=(qN h.toisBk a).1
 have d:=zAY a
 have f:=h.o3
 by_cases b:e=[]
 ·exact .inl b
 ·have:e.length≠0:=fun z=>b (eT.mp z)
  exact .inr ⟨by omega,by omega,c⟩
theorem zDU {o:Nat}{bk:List S}(h:isBk bk){e:S}{a:List (S×Int)}(r:IsRow (zC o bk) e a):cV (.list (a.map yT))=true/\(PyData.list (a.map yT)).canLay0=true:=by
 refine gM fun d hd=>?_
 obtain⟨q,f,rfl⟩:=aB.mp hd
 obtain⟨l,n⟩:=q
 have:=(r.mem l n).mp f
 have g:(e,l)∈zC o bk:=bj.mp (by omega)
 exact zDT fun c b=>((qN h g).2 c b).2
theorem zDV:∀{c d:List Nat},c.Pairwise (· < ·)->d.Pairwise (· < ·)->(∀x,x∈c↔x∈d)->c=d
 | [],[],_,_,_=>rfl
 | [],y::i,_,_,h=>absurd ((h y).mpr (ao ..)) (by simp)
 |x::xs,[],_,_,h=>absurd ((h x).mp (ao ..)) (by simp)
 |x::xs,y::i,j,l,h=>by
  have hx1:=(bJ.mp j).1
  have a:=(bJ.mp l).1
  have f:x=y:=by
   rcases aE.mp ((h x).mp (ao ..))with e|e
   ·exact e
   ·rcases aE.mp ((h y).mpr (ao ..))with g|g
    ·exact g.symm
    ·have:=a x e;have:=hx1 y g;omega
  subst f
  have:xs=i:=zDV (bJ.mp j).2 (bJ.mp l).2 fun p=>by
   constructor
   ·intro b
    rcases aE.mp ((h p).mp (au _ b))with e|e
    ·subst e;have:=hx1 p b;omega
    ·exact e
   ·intro b
    rcases aE.mp ((h p).mpr (au _ b))with e|e
    ·subst e;have:=a p b;omega
    ·exact e
  rw[this]
theorem zHZ (xs:List V):(aS xs.length).map (fun i=>xs.getD i .non)=xs:=by
 apply bS
 ·simp
 ·intro i a b
  have hi:i<xs.length:=by simpa using a
  simp[hi]
section
variable{K:ai}
theorem zAz {H:Hp}{e:List (S×Int)}{xs:List V}{i:Nat}{x:V}(p:Reps K H (e.map yT) xs)(r:xs[i]?=some x) :
  ∃(q:S×Int) (a:av),e[i]?=some q/\x=.ref a/\zW K H a [sv q.1,.int q.2]:=by
 obtain⟨s,b,u⟩:=p.get r
 rw[az]at b
 cases ep:e[i]? with
 |none=>rw[ep]at b;cases b
 |some q=>
 rw[ep]at b
 have f:s=yT q:=(aH b).symm
 subst f
 obtain⟨g,v,rfl,h,w,o,rfl,j,y,c,rfl,l,d⟩:=u
 have m:w=sv q.1:=j
 have n:y=.int q.2:=l
 have z:c=[]:=d
 subst m n z
 exact⟨q,g,rfl,rfl,h⟩
theorem zHa {H:Hp}{c:List (S×Int)}{xs:List V}(d:Reps K H (c.map yT) xs):zCj K H xs (c.map fun q=>(tx q.1,V.int q.2)):=by
 have hl:xs.length=c.length:=by have:=d.length;simpa using this.symm
 refine⟨by rw[hl,ak],fun i q b=>?_⟩
 rw[az]at b
 cases ep:c[i]? with
 |none=>rw[ep]at b;cases b
 |some e=>
  rw[ep]at b
  have hi:i<xs.length:=by rw[hl];exact(ah.mp ep).1
  obtain⟨h,a,e1,f,g⟩:=zAz d (aC hi)
  rw[ep]at e1
  cases e1
  have:(tx e.1,V.int e.2)=q:=aH b
  subst this
  exact⟨a,by rw[aC hi,f],g⟩
theorem yZ {H:Hp}{a:av}{xs:List V}{b:List dk}(h:H a=some (.lst xs))(c:Reps K H b xs):yJ K H (.list b) (.ref a):=⟨a,xs,rfl,.of h,c⟩
theorem gN {H:Hp}{tb:List (S×List (S×Int))}{xs:List V}{i:Nat}{x:V}(n:Reps K H (tb.map qG) xs)(o:xs[i]?=some x) :
  ∃(r:S×List (S×Int)) (a e:av) (ts:List V),tb[i]?=some r/\x=.ref a/\zW K H a [sv r.1,.ref e]/\zW K H e ts/\Reps K H (r.2.map yT) ts:=by
 obtain⟨p,b,q⟩:=n.get o
 rw[az]at b
 cases ep:tb[i]? with
 |none=>rw[ep]at b;cases b
 |some r=>
 rw[ep]at b
 have f:p=qG r:=(aH b).symm
 subst f
 obtain⟨g,s,rfl,h,u,m,rfl,j,z,c,rfl,⟨e,ts,rfl,v,w⟩,d⟩:=q
 have l:u=sv r.1:=j
 have y:c=[]:=d
 subst l y
 exact⟨r,g,e,ts,rfl,rfl,h,v,w⟩
end
theorem zDW {H:Hp}{p:av}{L a:List V}(h:L=a):upd H p (.tup L) p=some (.tup a):=by rw[zH,h]
theorem zHb (t:S)(o:Nat):v4 (tx t) (some (if((tx t).length:Int)- (o:Int)>0 then((tx t).length:Int)- (o:Int)else 0)) none=tx (zP t o):=by
 unfold v4
 rw[yA,vE]
 have e1:(if(t.length:Int)- (o:Int)>0 then(t.length:Int)- (o:Int)else 0)=((t.length-o:Nat):Int):=by
  by_cases h:(t.length:Int)- (o:Int)>0
  ·rw[if_pos h];omega
  ·rw[if_neg h];omega
 rw[e1,HT.sIx_nat]
 have a:HT.sIx t.length t.length none=t.length:=rfl
 rw[a]
 unfold zP
 have b:min (t.length-o) t.length=t.length-o:=by omega
 rw[b,fe (by rw[bT];omega)]
theorem IsRow.len {c:List (S×S)}{e:S}{d:List (S×Int)}(r:IsRow c e d):d.length<=c.length:=by
 have i:=r.total
 have j:(c.filter fun p=>p.1=e).length<=c.length:=d8 ..
 have f:∀q∈d,0<q.2:=fun q g=>((r.mem q.1 q.2).mp g).2
 have go:∀l:List (S×Int),(∀q∈l,0<q.2)->(l.length:Int)<=(l.map (·.2)).sum:=by
  intro l
  induction l with
  |nil=>intro _;simp
  |cons q l ih=>
   intro hl
   have a:=hl q (ao ..)
   have b:=ih fun x h=>hl x (au _ h)
   rw[aM,cK,bf]
   have:((l.length+1:Nat):Int)=(l.length:Int)+1:=rfl
   omega
 have:=go d f
 omega
structure Blt2 (mg:Str->Option af):Prop where
 max:mg "max"=none
 dict:mg "dict"=none
 list:mg "list"=none
end Kn
end
section
namespace Kn
abbrev yB:=(S×S)×Int
def trip (tb:List (S×List (S×Int))):List yB:=tb.flatMap fun r=>r.2.map fun q=>((r.1,q.1),q.2)
structure IsTrip (ps:List (S×S)) (ts:List yB):Prop where
 nd:(ts.map (·.1)).Nodup
 mem:∀p n,(p,n)∈ts↔n=(ps.count p:Int)/\0<n
theorem zDX {tb:List (S×List (S×Int))}{e l:S}{n:Int}:((e,l),n)∈trip tb↔∃xs,(e,xs)∈tb/\(l,n)∈xs:=by
 unfold trip
 rw[c6]
 constructor
 ·rintro⟨⟨j,xs⟩,a,b⟩
  obtain⟨⟨m,o⟩,g,h⟩:=aB.mp b
  injection h with i c
  injection i with d f
  dsimp only at c d f
  subst c d f
  exact⟨xs,a,g⟩
 ·rintro⟨xs,a,b⟩
  exact⟨(e,xs),a,aB.mpr ⟨(l,n),b,rfl⟩⟩
theorem IsTable.trip {f:List (S×S)}{tb:List (S×List (S×Int))}(a:IsTable f tb):IsTrip f (trip tb):=by
 refine⟨?_,?_⟩
 ·have:∀(tb:List (S×List (S×Int))),yH tb->(∀e xs,(e,xs)∈tb->IsRow f e xs)->((Kn.trip tb).map (·.1)).Nodup:=by
   intro tb
   induction tb with
   |nil=>intro _ _;simp[Kn.trip]
   |cons r t ih=>
    intro s b
    obtain⟨e,xs⟩:=r
    have v:Kn.trip ((e,xs)::t)=(xs.map fun q=>((e,q.1),q.2))++Kn.trip t:=rfl
    rw[v,aJ,aO]
    refine fb.mpr ⟨?_,ih (bJ.mp s).2 fun g c w=>b g c (au _ w),?_⟩
    ·have:=(b e xs (ao ..)).ris.keys
     rw[ip,aQ]at this⊢
     exact this.imp fun{p q} h z=>h (congrArg mI z)
    ·intro p x q y i
     obtain⟨z,_,rfl⟩:=aB.mp x
     obtain⟨⟨⟨g,B⟩,C⟩,j,rfl⟩:=aB.mp y
     obtain⟨c,d,_⟩:=zDX.mp j
     have:e=g:=congrArg lu i
     have m:=(bJ.mp s).1 _ d
     exact qE _ (this▸m)
  exact this tb a.ris a.row
 ·rintro⟨e,l⟩ n
  rw[zDX]
  constructor
  ·rintro⟨xs,d,o⟩
   exact((a.row e xs d).mem l n).mp o
  ·rintro⟨d,o⟩
   have A:(e,l)∈f:=bj.mp (by omega)
   obtain⟨xs,u⟩:=(a.has e).mpr ⟨l,A⟩
   exact⟨xs,u,((a.row e xs u).mem l n).mpr ⟨d,o⟩⟩
theorem IsTrip.sum {b:List (S×S)}{ts:List yB}(a:IsTrip b ts)(f:S×S->Bool):((ts.filter fun t=>f t.1).map (·.2)).sum=((b.filter f).length:Int):=by
 have h:=gG (b.filter f) ((ts.filter fun t=>f t.1).map (·.1)) ?_ ?_
 ·rw[<-h,aO]
  congr 1
  apply bO
  rintro⟨p,n⟩ e
  obtain⟨c,d⟩:=bY.mp e
  show n=(eO p (b.filter f):Int)
  rw[lx d]
  exact((a.mem p n).mp c).1
 ·exact a.nd.sublist (List.filter_sublist.map _)
 ·intro p g
  obtain⟨c,d⟩:=bY.mp g
  have:=bj.mpr c
  exact aB.mpr ⟨(p,(b.count p:Int)),bY.mpr ⟨(a.mem p _).mpr ⟨rfl,by omega⟩,d⟩,rfl⟩
theorem IsTrip.total {b:List (S×S)}{ts:List yB}(a:IsTrip b ts):(ts.map (·.2)).sum=(b.length:Int):=by
 have h:=a.sum fun _=>true
 rwa [jm.mpr fun _ _=>rfl,jm.mpr fun _ _=>rfl]at h
theorem IsTrip.len {b:List (S×S)}{ts:List yB}(a:IsTrip b ts):ts.length<=b.length:=by
 have h:=a.total
 have go:∀l:List yB,(∀t∈l,0<t.2)->(l.length:Int)<=(l.map (·.2)).sum:=by
  intro l
  induction l with
  |nil=>intro _;simp
  |cons t l ih=>
   intro hl
   have e:=ih fun x c=>hl x (au _ c)
   have f:=hl t (ao ..)
   rw[aM,cK,bf]
   have:((l.length+1:Nat):Int)=(l.length:Int)+1:=rfl
   omega
 have:=go ts fun t d=>((a.mem t.1 t.2).mp d).2
 omega
theorem IsTrip.keyIn {b:List (S×S)}{ts:List yB}(a:IsTrip b ts)(p:S×S):p∈ts.map (·.1)↔p∈b:=by
 rw[aB]
 constructor
 ·rintro⟨⟨c,n⟩,d,rfl⟩
  have:=(a.mem c n).mp d
  show c∈b
  exact bj.mp (by omega)
 ·intro h
  have:=bj.mpr h
  exact⟨(p,(b.count p:Int)),(a.mem p _).mpr ⟨rfl,by omega⟩,rfl⟩
theorem zHc (o:Nat)(nm:S):((z7 o nm).filter fun p=>p.2=[]).length=1:=by
 unfold z7
 rw[fy,aJ,bW,aD]
 have e1:((aS nm.length).map fun p=>(zP (nm.take p) o,(nm.drop p).take 1)).filter (fun p=>decide (p.2=[]))=[]:=by
  rw[fc]
  intro p a z
  obtain⟨k,b,rfl⟩:=aB.mp a
  have c:=bp.mp b
  have d:(nm.drop k).take 1=[]:=by simpa using z
  have:=congrArg f6 d
  rw[aW,bT]at this
  simp at this
  omega
 rw[e1,kh,cu (by simp)]
 rfl
theorem zHd (o:Nat)(bk:List S):((zC o bk).filter fun p=>p.2=[]).length=bk.length:=by
 induction bk with
 |nil=>rfl
 |cons x r ih=>
  have e1:zC o (x::r)=z7 o x++zC o r:=rfl
  rw[e1,bW,aD,ih,zHc,bf]
  omega
theorem zHe (t:S)(o:Nat):zP (zP t (o+1)) o=zP t o:=by
 unfold zP
 rw[List.drop_drop,bT]
 congr 1
 omega
theorem zDY (o:Nat)(bk:List S):zC o bk=(zC (o+1) bk).map fun p=>(zP p.1 o,p.2):=by
 unfold zC
 rw[gn]
 congr 1
 funext nm
 unfold z7
 rw[aO]
 apply bO
 intro p _
 show _=(zP (zP (nm.take p) (o+1)) o,_)
 rw[zHe]
section
variable{κ:Type} [DecidableEq κ]
def gO (f:List (κ×Int))(p:κ×Int):List (κ×Int):=zJ f p.1 ((zE f p.1).getD 0+p.2)
def yM (l:List (κ×Int)):List (κ×Int):=l.foldl gO []
theorem gP (l:List (κ×Int))(p:κ×Int):yM (l++[p])=gO (yM l) p:=by unfold yM;rw[lr];rfl
theorem zBA {α:Type}{P:List α->Prop}(a:P [])(b:∀l x,P l->P (l++[x]))(l:List α):P l:=by
 have:∀r:List α,P r.reverse:=by
  intro r
  induction r with
  |nil=>exact a
  |cons x r ih=>rw[dz];exact b _ _ ih
 have h:=this l.reverse
 rwa [List.reverse_reverse]at h
theorem zDZ (l:List (κ×Int)):((yM l).map (·.1)).Nodup:=by
 refine zBA (P:=fun l=>((yM l).map (·.1)).Nodup) i0 (fun l x ih=>?_) l
 rw[gP];exact gE ih
theorem zDa (l:List (κ×Int))(k:κ):zE (yM l) k=if k∈l.map (·.1)then some ((l.filter fun p=>p.1=k).map (·.2)).sum else none:=by
 refine zBA (P:=fun l=>zE (yM l) k=if k∈l.map (·.1)then some ((l.filter fun p=>p.1=k).map (·.2)).sum else none) rfl (fun l x ih=>?_) l
 ·rw[gP]
  unfold gO
  rw[j8,aJ,bW,aJ,iH]
  by_cases c:x.1=k
  ·subst c
   rw[if_pos rfl,if_pos (by simp),ih,cu (by simp)]
   by_cases a:x.1∈l.map (·.1)
   ·rw[if_pos a];simp
   ·rw[if_neg a]
    have:(l.filter fun p=>decide (p.1=x.1))=[]:=fc.mpr fun p b z=>a (aB.mpr ⟨p,b,by simpa using z⟩)
    rw[this];simp
  ·rw[if_neg c,ih,dR (by simpa using c)]
   by_cases a:k∈l.map (·.1)
   ·rw[if_pos a,if_pos (bU _ a)];simp
   ·rw[if_neg a,if_neg]
    intro z
    rcases b8.mp z with z|z
    ·exact a z
    ·exact c (by simpa using(Eq.symm (by simpa using z)))
theorem zHf (l:List (κ×Int)):(yM l).length<=l.length:=by
 refine zBA (P:=fun l=>(yM l).length<=l.length) (ay _) (fun l x ih=>?_) l
 ·rw[gP,aD]
  have h:=congrArg f6 (zCk (yM l) x.1 ((zE (yM l) x.1).getD 0+x.2))
  rw[ak]at h
  unfold gO
  rw[h]
  split<;>simp<;>omega
end
abbrev yK (o:Nat)(t:yB):yB:=((zP t.1.1 o,t.1.2),t.2)
theorem zHg {o:Nat}{bk:List S}{ts d:List yB}(a:IsTrip (zC o bk) ts)(b:IsTrip (zC (o+1) bk) d):(yM (d.map (yK o))).length=ts.length/\∀q∈yM (d.map (yK o)),q∈ts:=by
 have e:∀k:S×S,k∈(d.map (yK o)).map (·.1)↔k∈zC o bk:=fun k=>by
  rw[zDY,aO,aB,aB]
  constructor
  ·rintro⟨t,i,rfl⟩
   exact⟨t.1,(b.keyIn t.1).mp (aB.mpr ⟨t,i,rfl⟩),rfl⟩
  ·rintro⟨p,i,rfl⟩
   obtain⟨t,j,rfl⟩:=aB.mp ((b.keyIn p).mpr i)
   exact⟨t,j,rfl⟩
 have f:∀k v,zE (yM (d.map (yK o))) k=some v->k∈zC o bk/\v=((zC o bk).count k:Int):=fun k v h=>by
  rw[zDa]at h
  by_cases c:k∈(d.map (yK o)).map (·.1)
  ·rw[if_pos c]at h
   refine⟨(e k).mp c,?_⟩
   have e1:=aH h
   have l:=b.sum fun p=>decide ((zP p.1 o,p.2)=k)
   have m:((d.map (yK o)).filter fun p=>p.1=k).map (·.2)=(d.filter fun t=>decide ((zP t.1.1 o,t.1.2)=k)).map (·.2):=by
    rw[List.filter_map,aO];rfl
   rw[m,l]at e1
   rw[<-e1,zDY o bk,List.count_eq_countP,List.countP_map,List.countP_eq_length_filter]
   congr 2
   apply List.filter_congr
   intro p _
   show decide _=((zP p.1 o,p.2)==k)
   rw[dZ];simp
  ·rw[if_neg c]at h;cases h
 have nd:=zDZ (d.map (yK o))
 refine⟨?_,?_⟩
 ·have n:((yM (d.map (yK o))).map (·.1)).Perm (ts.map (·.1)):=by
   refine(List.perm_ext_iff_of_nodup nd a.nd).mpr fun k=>?_
   rw[a.keyIn k,<-e k]
   constructor
   ·intro h
    cases g:zE (yM (d.map (yK o))) k with
    |none=>exact absurd h (gF.mp g)
    |some v=>exact(e k).mpr (f k v g).1
   ·intro h
    cases g:zE (yM (d.map (yK o))) k with
    |none=>rw[zDa,if_pos h]at g;cases g
    |some v=>exact aB.mpr ⟨(k,v),(vM nd k v).mpr g,rfl⟩
  have:=n.length_eq
  rwa [ak,ak]at this
 ·rintro⟨k,v⟩ r
  obtain⟨i,j⟩:=f k v ((vM nd k v).mp r)
  have:=bj.mpr i
  exact(a.mem k v).mpr ⟨j,by omega⟩
theorem zHh {o:Nat}{bk:List S}{e l:S}(h:(e,l)∈zC o bk):∃nm∈bk,∃a r,nm=a++(e++l)++r/\(l=[]->r=[]):=by
 obtain⟨nm,c,d⟩:=c6.mp h
 obtain⟨p,_,ep⟩:=aB.mp d
 obtain⟨e1,b⟩:=bE ep
 refine⟨nm,c,(nm.take p).take ((nm.take p).length-o),(nm.drop p).drop 1,?_,fun hl=>?_⟩
 ·rw[<-e1,<-b]
  unfold zP
  rw[<-dw,di,dw,di,di]
 ·rw[<-b]at hl
  have:=congrArg f6 hl
  rw[aW,lZ,bT]at this
  apply List.eq_nil_of_length_eq_zero
  rw[bT,bT]
  omega
theorem IsTable.congr {b c:List (S×S)}{tb:List (S×List (S×Int))}(a:IsTable b tb)(h:∀p,b.count p=c.count p):IsTable c tb:=by
 refine⟨a.ris,fun e=>?_,fun e xs d=>(a.row e xs d).congr h⟩
 rw[a.has e]
 constructor
 ·rintro⟨l,hl⟩
  exact⟨l,bj.mp (by rw[<-h];exact bj.mpr hl)⟩
 ·rintro⟨l,hl⟩
  exact⟨l,bj.mp (by rw[h];exact bj.mpr hl)⟩
abbrev zBB (r:S×List (S×Int)):S×List (S×Int):=(r.1,r.2.map fun p=>(p.1,2*p.2))
theorem IsTable.twice {c:List (S×S)}{tb:List (S×List (S×Int))}(a:IsTable c tb):IsTable (c++c) (tb.map zBB):=by
 refine⟨?_,fun e=>?_,fun e xs n=>?_⟩
 ·unfold yH;rw[aQ];exact a.ris
 ·constructor
  ·rintro⟨xs,d⟩
   obtain⟨⟨f,g⟩,h,i⟩:=aB.mp d
   obtain⟨b,j⟩:=bE i
   dsimp only at b
   subst b
   obtain⟨l,hl⟩:=(a.has f).mp ⟨g,h⟩
   exact⟨l,bU _ hl⟩
  ·rintro⟨l,hl⟩
   have m:(e,l)∈c:=(b8.mp hl).elim id id
   obtain⟨xs,d⟩:=(a.has e).mpr ⟨l,m⟩
   exact⟨_,aB.mpr ⟨_,d,rfl⟩⟩
 ·obtain⟨⟨f,g⟩,h,i⟩:=aB.mp n
  obtain⟨b,j⟩:=bE i
  dsimp only at b j
  subst b j
  exact(a.row f g h).twice
theorem zHi (tb:List (S×List (S×Int))):trip (tb.map zBB)=(trip tb).map fun t=>(t.1,2*t.2):=by
 unfold trip
 rw[List.flatMap_map,gn]
 congr 1
 funext r
 rw[aO,aO];rfl
theorem zDb {α:Type} [BEq α] [LawfulBEq α]:∀(l L:List α),l.Nodup->(∀x∈l,x∈L)->l.length<=L.length
 | [],L,_,_=>bH _
 |x::l,L,b,c=>by
  have d:=c x (ao ..)
  have f:=zDb l (L.erase x) (bA.mp b).2 fun y e=>by
   have a:y≠x:=fun z=>(bA.mp b).1 (by rw[<-z];exact e)
   exact(List.mem_erase_of_ne a).mpr (c y (au _ e))
  rw[List.length_erase_of_mem d]at f
  have:=iu d
  rw[bf];omega
theorem zHj {o:Nat}{bk:List S}{e:S}{xs:List (S×Int)}(d:∀x∈bk,∀c∈x,c=97\/c=98\/c=122)(r:IsRow (zC o bk) e xs):xs.length<=4:=by
 have h:=zDb (xs.map (·.1)) [[],[97],[98],[122]] r.ris.keys fun l hl=>by
  obtain⟨⟨a,n⟩,f,rfl⟩:=aB.mp hl
  have q:=(r.mem a n).mp f
  have g:(e,a)∈zC o bk:=bj.mp (by omega)
  obtain⟨nm,i,j⟩:=c6.mp g
  obtain⟨p,_,ep⟩:=aB.mp j
  have m:=(bE ep).2
  show a∈_
  rw[<-m]
  cases hd:nm.drop p with
  |nil=>simp
  |cons c t=>
   have b:c∈nm:=fw (by rw[hd];exact ao ..)
   rcases d nm i c b with z|z|z<;>subst z<;>simp
 rw[ak]at h
 exact h
end Kn
end
section
namespace Kn
open PySem L2
def vX (t:yB):dk:=.tuple [.str (tx t.1.1),.str (tx t.1.2),.int t.2]
section
variable{K:ai}
theorem jJ {H:Hp}{ts:List yB}{xs:List V}{i:Nat}{x:V}(s:Reps K H (ts.map vX) xs)(u:xs[i]?=some x) :
  ∃(q:yB) (a:av),ts[i]?=some q/\x=.ref a/\zW K H a [sv q.1.1,sv q.1.2,.int q.2]:=by
 obtain⟨v,b,w⟩:=s.get u
 rw[az]at b
 cases ep:ts[i]? with
 |none=>rw[ep]at b;cases b
 |some q=>
 rw[ep]at b
 have e:v=vX q:=(aH b).symm
 subst e
 obtain⟨f,y,rfl,g,z,p,rfl,h,A,r,rfl,j,B,c,rfl,l,d⟩:=w
 have m:z=sv q.1.1:=h
 have n:A=sv q.1.2:=j
 have o:B=.int q.2:=l
 have C:c=[]:=d
 subst m n o C
 exact⟨q,f,rfl,rfl,g⟩
theorem zDc {H:Hp}{a:av}{t:yB}(h:zW K H a [sv t.1.1,sv t.1.2,.int t.2]):yJ K H (vX t) (.ref a):=⟨a,_,rfl,h,_,_,rfl,rfl,_,_,rfl,rfl,_,_,rfl,rfl,rfl⟩
end
theorem zHk {t:yB}(h:∀c∈t.1.1,c<=122)(a:∀c∈t.1.2,c<=122):(vX t).canLay0=true/\(vX t).depth<=10:=by
 constructor
 ·unfold vX
  simp only[cD,bx,kI h,kI a,d5]
 ·unfold vX
  simp only[dY,cc]
  decide
theorem zHl {o:Nat}{bk:List S}(h:isBk bk){ts:List yB}(r:∀t∈ts,t.1∈zC o bk):cV (.list (ts.map vX))=true/\(PyData.list (ts.map vX)).canLay0=true:=by
 refine gM fun d hd=>?_
 obtain⟨q,e,rfl⟩:=aB.mp hd
 have b:=r q e
 exact zHk (fun c a=>((qN h b).1 c a).2) fun c a=>((qN h b).2 c a).2
section
variable{P:aI}{w:aR}{K:ai}{mg:Str->Option af}{base:bt}
def zDd (K:ai):Sp:=fun vs H Q _=>∃(a:av) (tb:List (S×List (S×Int))) (xs:List V),vs=[.ref a]/\zV K H a xs/\Reps K H (tb.map qG) xs/\tb.length<64/\(trip tb).length<64/\
 ∀l us H',zA H H'->H l=none->H' l=some (.lst us)->Reps K H' ((trip tb).map vX) us->Q (.ref l) H'
abbrev zBC:dB:=top 28
theorem zDe:FnScope ["_law_rows","_law_found","_law_end","_law_row"] ["_law_rows"] (defScope zBC):=yR
theorem zDf:(["_law_end","_law_letter","_law_many"]:List Str).Nodup:=by decide+kernel
theorem zHm {f:av}{fd:bw}(F:Fun K "_law_pairs" "_law_pairs" zBC f fd):FnOk P w K mg base z6 1 f fd ["_law_rows"] (zDd K):=by
 refine F.ok zDe (fun vs H Q E h=>?_) (fun cdv A outer s H vs Q E hr h=>?_)
 ·obtain⟨a,tb,xs,rfl,_⟩:=h;rfl
 ·obtain⟨a,tb,xs,rfl,ha,rp,htl,hpl,k⟩:=h
  have nd:=zDe.nd
  refine⟨_,zO (yO (i:=1) nd rfl (Or.inl rfl) (qL zD))
   (zO (qW d3 rfl (vR (pv 0)) (jQ rfl (z0 (zM (i:=2) nd rfl (Or.inr rfl)) (z0 (zM (i:=3) nd rfl (Or.inl rfl)) vQ)))
    (zS (yO (i:=1) nd rfl (Or.inl rfl) (zN zFV (pv 1)
     (vL (N:=["_law_end","_law_letter","_law_many"]) (caps:=[2]) rfl (y6 (by kernel_rfl)) (qU (pv 3))
      (fun cl C s H ex=>uX K 2 rfl rfl (z0 (zM (i:=1) zDf rfl (Or.inl rfl)) (z0 (zM (i:=2) zDf rfl (Or.inl rfl)) vQ)) rfl rfl)
      (fun cl C s H ex=>v3)
      (fun cl C s H ex=>uT (zB (pv 0) (zB (pv 1) (zB (pv 2) zD)))))))))
   (zS (z9 (pv 1)))),?_⟩
  have hxl:xs.length=tb.length:=by have:=rp.length;simpa using this.symm
  refine⟨by show 0<=sizeLine;decide,fun p0 hp0=>?_⟩
  have s0:zA H (upd H p0 (.lst [])):=zA.upd1 hp0
  refine⟨_,rfl,a,rfl,⟨_,s0.seq ha⟩,?_⟩
  refine jH (vV K a xs) (fun i σ H'=>∃(q:av) (us:List V) (y z:Option V),σ=[some (.ref a),some (.ref q),y,z]/\zA H H'/\H q=none/\H' q=some (.lst us)/\Reps K H' ((trip (tb.take i)).map vX) us)
   ⟨p0,[],_,_,rfl,s0,hp0,zH,rfl⟩ (fun i σ H' _ h=>let⟨_,_,_,_,_,z,_⟩:=h;z.seq ha) ?_ ?_
  ·rintro i x σ H' Nx hN hx ⟨q,us,y,z,rfl,sm,hq,hqv,rpu⟩
   obtain⟨r,at',ar,ts,ep,rfl,hsq,har,rpr⟩:=gN (Reps.same sm _ _ rp) hx
   have hi:i<tb.length:=(ah.mp ep).1
   have etk:tb.take (i+1)=tb.take i++[r]:=by rw[aF hi,(ah.mp ep).2]
   have htr:trip (tb.take (i+1))=trip (tb.take i)++(r.2.map fun q=>((r.1,q.1),q.2)):=by
    rw[etk];unfold trip;rw[fE];simp
   have htot:(trip (tb.take (i+1))).length<=(trip tb).length:=by
    have:trip tb=trip (tb.take (i+1))++trip (tb.drop (i+1)):=by
     unfold trip;rw[<-fE,di]
    rw[this,aD];omega
   rw[htr,aD,ak]at htot
   have hul:us.length=(trip (tb.take i)).length:=by have:=rpu.length;simpa using this.symm
   have hsl:ts.length=r.2.length:=by have:=rpr.length;simpa using this.symm
   refine⟨at',[sv r.1,.ref ar],rfl,hsq,rfl,_,_,rfl,_,_,rfl,rfl,?_⟩
   refine⟨_,rfl,_,rfl,ar,rfl,⟨_,har⟩,?_⟩
   refine v5 (jF K ar ts) [some (sv r.1)] 2 (by omega) (fun j acc H3=>zA H' H3/\acc.length=j/\Reps K H3 (((r.2.take j).map fun q=>((r.1,q.1),q.2)).map vX) acc) ⟨zA.refl _,rfl,rfl⟩
    (fun j acc H3 _ h=>⟨h.1.seqT har,cH h.2.1⟩) ?_ ?_
   ·rintro j y' acc H3 ys' Nx2 hN2 hx2 hy2 ⟨sm2,hal,rp2⟩
    obtain⟨z1,z2,rfl⟩:=j9 hy2
    obtain⟨c,aq,eq,rfl,hsq2⟩:=zAz (Reps.same sm2 _ _ rpr) hx2
    have hj:j<r.2.length:=(ah.mp eq).1
    refine⟨aq,[sv c.1,.int c.2],rfl,hsq2,rfl,_,_,rfl,_,_,rfl,rfl,?_⟩
    refine⟨_,rfl,_,rfl,_,rfl,by show 3<=sizeLine;decide,fun pp hpp=>hN2 _ _ [_,_] rfl ⟨sm2.trans (zA.upd1 hpp),by rw[aD,hal];rfl,?_⟩⟩
    rw[aF hj,(ah.mp eq).2,aJ,aJ]
    exact Reps.append (Reps.same (zA.upd1 hpp) _ _ rp2) (Reps.one (zDc (t:=((r.1,c.1),c.2)) (.of zH)))
   ·rintro acc H3 ⟨sm2,hal,rp2⟩ D hD
    rw[hsl,ba]at rp2
    have hacl:acc.length=r.2.length:=by rw[hal,hsl]
    have u3:zA H3 (upd H3 D (.lst acc)):=zA.upd1 hD
    have s3:=sm2.trans u3
    refine⟨q,D,us,acc,rfl,rfl,s3 _ _ hqv,zH,by rw[aV];omega,fun p hp=>?_⟩
    have u4:zA (upd H3 D (.lst acc)) (upd (upd H3 D (.lst acc)) p (.lst (us++acc))):=zA.upd1 hp
    refine hN _ _ ⟨p,us++acc,_,_,rfl,sm.trans (s3.trans u4),(sm.trans s3).free hp,zH,?_⟩
    rw[htr,aJ]
    exact Reps.append (Reps.same (s3.trans u4) _ _ rpu) (Reps.same (u3.trans u4) _ _ rp2)
  ·rintro σ H' ⟨q,us,y,z,rfl,sm,hq,hqv,rpu⟩
   rw[hxl,ba]at rpu
   exact⟨_,rfl,k q us H' sm hq hqv rpu⟩
end
end Kn
end
section
namespace L2
open PySem PySem.Spec PyProof.Rows
open AutoSeq1 (wpAny_loadPart')
section
variable{X:Cx}
theorem zBD {j:Nat}{y:Str}{py spos:Pos}{tg iter elt:bV}{ifs:List bV}{scope:ef}{pos:Pos}{wi:TI}{g:TG}{tc:TT}{te:TE}{N:List Str}{caps:List Nat}(hN:X.N.Nodup)(hj:X.N[j]?=some y)(hy:jO X.env.scope y)(hc:X.calm=true)(S:CompScope X.env.scope X.N N scope caps)
  (hi:PI X tg iter wi) (hg:∀cl C s H ex,PG (z8 X N scope cl C s H ex) tg g) (hf:∀cl C s H ex,PF (z8 X N scope cl C s H ex) ifs tc) (he:∀cl C s H ex,PE (z8 X N scope cl C s H ex) elt te)
  (hs:∀x,foldedSetIterable iter X.env x=pure x:=by intro _;rfl) (hsw:swapsWith (.ListComp elt [⟨tg,iter,ifs,0⟩] scope pos) (some (.Name y py)) spos.line X.env=pure true:=by rfl)
  (hfn:X.fn y=true\/X.env.scope.names.lookup y=some .local:=by first|exact .inl rfl|exact .inr rfl|assumption):PS X (.Assign [.Name y py] (.ListComp elt [⟨tg,iter,ifs,0⟩] scope pos) spos) (zBV (zCM wi g tc te caps N.length) (g8 j)):=by
 intro pins s σ H D0 I h
 obtain⟨cl,hcl,hcl1,hcl2⟩:=zCI (env:=X.env) (scope:=scope) fun y hy e=>I.ok.has y.1 (S.free y hy e)
 rw[exec_Assign_Name_used _ _ _ _ hsw]
 refine aa (nB (aa ?_))
 show wpAny _ X.A (do let _<-comprehension (.ListComp elt [⟨tg,iter,ifs,0⟩] scope pos) scope X.env _ (newList []) false (eval iter X.env) (some (assign (.Name y py) X.env))) _ _ s
 refine aa (bZ (gf (use:=some (assign (.Name y py) X.env)) (Q:=fun _ s'=>SP X pins D0 .next s') rfl hs hcl S.kind S.names (zG (hi pins s σ H _ I h) fun v s1 h1=>zG h1 fun itv s2 h2=>?_))
  (fun _ s' hq=>ag (ag hq)) fun _ _ e=>e)
 obtain⟨it,fp,tn,J,H2,e,I2,T,st2,f2,W,⟨m0,w0⟩,turn⟩:=h2
 subst e
 refine bC (i8 S.nocell (by intro y hy;simp at hy) (fun h₁ hns hsb=>?_) S.kind)
 dsimp only at hns hsb⊢
 generalize hG:s2.heap.push {cls:=.type "list",dict:=none,data:=.seq ([]:List af).toArray}=G at hns hsb⊢
 have hCs:G.objs.size=s2.heap.objs.size+1:=by rw[<-hG,aT]
 have hDC:s2.heap.objs.size≠G.objs.size:=by rw[hCs];exact aG (bB _)
 have old:∀b o,s2.heap.get? b=some o->h₁.get? b=some o:=fun b o e=>by
  have hb:=aA e
  refine hsb.extBut b o (by rw[hCs];exact aG (aZ hb)) (ae _ ?_)
  rw[<-hG]
  exact ae _ e
 have hD:h₁.get? s2.heap.objs.size=some {cls:=.type "list",dict:=none,data:=.seq ([]:List af).toArray}:=by
  refine hsb.extBut _ _ hDC (ae _ ?_)
  rw[<-hG]
  exact aw _ rfl
 have hfo:∀b∈fp,b<s2.heap.objs.size:=fun b hb=>let⟨o,e,_⟩:=T.obj 0 _ st2 b hb;aA e
 have hCle:s2.heap.objs.size<=G.objs.size:=by omega
 have ok:=zCN (C:=G.objs.size) I2 S hcl1 hcl2 hCle f2 hfo
 have I0:Inv (z8 X N scope cl G.objs.size s2 H2 fp) [(s2.heap.objs.size,{cls:=.type "list",dict:=none,data:=.seq ([]:List af).toArray})] (uE caps N.length σ) H2 {s2 with heap:=h₁,toks:=s2.toks+([]:List (Str×af)).length} :=
  zCO I2 ok S hcl1 hcl2 old hns hCle hD (ay _) hDC (fun v z=>by cases z)
 have st1:tn 0 h₁:=T.keep 0 _ _ st2 fun b _ o e=>old b o e
 generalize hX:z8 X N scope cl G.objs.size s2 H2 fp=X' at I0
 generalize hDa:s2.heap.objs.size=D at I0 hD hDC
 have loop:codeAny (model X.prog X.w) X.A (.compLoop (.ListComp elt [⟨tg,iter,ifs,0⟩] scope pos) 0 (.ref it) (.ref D) (compEnvC scope cl G.objs.size X.env)) (compPost (model X.prog X.w) X.A X.xe (some (assign (.Name y py) X.env)) (fun _ s'=>SP X pins D0 .next s') (.ref D) G.objs.size)
   {s2 with heap:=h₁,toks:=s2.toks+([]:List (Str×af)).length}:=by
  subst hX
  refine zCJ (J:=fun n s'=>∃i σ' H' acc its e,Inv (z8 X N scope cl G.objs.size s2 H2 fp) [(D,{cls:=.type "list",data:=.seq (eB its) e})] σ' H' s'/\zF acc its/\acc.length<=sizeLine/\tn i s'.heap/\(∀b∈fp,H' b=none)/\W i n acc σ' H')
   ?_ m0 ⟨0,_,H2,[],[],0,I0,.nil,bH _,st1,fun b hb=>(f2 b hb).1,w0⟩
  rintro n s3 ⟨i,σ3,H3,acc,its,ep,I3,rv,hz,st3,fr3,w3⟩
  have stat:∀{H':Hp} {pl:List (av×Obj)},(∀b∈fp,H' b=none)->(∀p∈pl,p.1=D)->∀b∈fp,uC (z8 X N scope cl G.objs.size s2 H2 fp) pl H' b:=fun{H' pl} hn hpl b hb=>by
   obtain⟨a1,a2⟩:=ok.exf b hb
   exact⟨hn b hb,a1,ok.exfs b hb,.inl hb,fun x c e=>a2 x c e,fun p hp=>by
    have hp':p∈pl:=hp
    rw[hpl p hp',<-hDa]
    exact cT (hfo b hb)⟩
  have one:∀p∈[(D,({cls:=.type "list",data:=.seq (eB its) ep}:Obj))],p.1=D:=fun p hp=>by
   rcases aE.mp hp with e|e
   ·rw[e]
   ·cases e
  have pinD:∀{pl:List (av×Obj)} {σ':St} {H':Hp} {s':aj} {o:Obj},Inv (z8 X N scope cl G.objs.size s2 H2 fp) pl σ' H' s'->(D,o)∈pl->s'.heap.get? D=some o/\H' D=none:=fun{pl σ' H' s' o} I' hm=>by
   obtain⟨a,b,_⟩:=I'.pin (D,o) (aP _ hm)
   exact⟨a,b⟩
  rcases turn i n acc σ3 H3 w3 with⟨stop,q⟩|⟨go,hlt,step⟩
  ·refine bZ (T.done (z8 X N scope cl G.objs.size s2 H2 fp) rfl rfl rfl hc i _ s3 σ3 H3 (fun _ _=>False) I3 (stat fr3 one) st3 stop) (fun r s4 ⟨hr,I4⟩=>?_) fun _ _ f=>f
   subst hr
   obtain⟨hDo,hDn⟩:=pinD I4 (ao ..)
   obtain⟨m4,hm4,_⟩:=I4.loc
   have keepC:∀b (u:Obj),b≠G.objs.size->s4.heap.get? b=some u->s4.heap.get? b=some u:=fun b u _ e=>e
   have un:Un (vA X.stack) fp H2 H3 s2.heap s4.heap:=I4.base
   have hDo':=hDo
   have hlow:∀b (o:Obj),s2.heap.get? b=some o->b≠G.objs.size/\b≠D:=fun b o e=>by
    have h0:=aA e
    exact⟨by rw[hCs];exact aG (aZ h0),by rw[<-hDa];exact aG h0⟩
   have un':Un (vA X.stack) fp H2 (upd H3 D (.lst acc)) s2.heap s4.heap :=
    ⟨fun b o e n' hb hx=>keepC b o (hlow b o e).1 (un.keep b o e n' hb hx),
     fun b o e n' hb hx=>let⟨sl,q⟩:=un.slot b o e n' hb hx;⟨sl,keepC b _ (hlow b o e).1 q⟩,
     fun b o e n' hx=>by rw[zQ (hlow b o e).2];exact un.free b o e n' hx,
     fun b o e hx=>let⟨o',q⟩:=un.there b o e hx;⟨o',keepC b _ (hlow b o e).1 q⟩,
     fun b xs e=>by rw[zQ (y9 (un.tups b xs e) hDn)];exact un.tups b xs e,
     fun b o u e=>by rw[zQ (y9 (un.frzs b o u e) hDn)];exact un.frzs b o u e,
     fun b ps e=>let⟨mo,q⟩:=un.tbls b ps e;⟨mo,by rw[zQ (y9 q hDn)];exact q⟩⟩
   have hok:zR X.prog X.w (upd H3 D (.lst acc)) s4.heap:=I4.hok.track hDn ⟨hz,its,ep,rv,hDo'⟩
   have IX:Inv X pins σ (upd H3 D (.lst acc)) s4:=I2.call' I4.os un' hok I4.bare (fun b hb=>by
    obtain⟨_,f1,_,f3,f4,f5⟩:=f2 b hb
    exact⟨f3,f1,f4,f5⟩)
   have hCn:upd H3 D (.lst acc) G.objs.size=none:=by
    rw[zQ (dg hDC)];exact I4.free
   have fpC:uC X pins (upd H3 D (.lst acc)) G.objs.size:=I2.fpOk hCle hCn
   obtain⟨oC,es,epC,hoC,hdC,hsk,hnf⟩:=hm4
   have IXp:=IX.pinned (fp:=[G.objs.size]) (fun b hb=>by
    have:b=G.objs.size:=by simpa using hb
    rw[this];exact fpC) (fun b hb=>by
    have:b=G.objs.size:=by simpa using hb
    rw[this];exact⟨oC,hoC,fun v z=>by rw[hdC]at z;cases z⟩)
   refine km (g0 IXp hN hj hy (v:=.ref D) rfl (fun s5 I5=>?_) hfn)
   have pC:=(I5.pin (G.objs.size,oC) (aP _ (aP _ (qJ (ao ..) hoC)))).1
   refine⟨m4,⟨oC,es,epC,pC,hdC,hsk,hnf⟩,fun h' hsb'=>?_⟩
   obtain⟨c0,c1,c2,c3,c4,c5⟩:=fpC
   exact⟨_,_,I5.unpinned.turned (t':=s5.toks) (fun b o hb e=>hsb'.extBut b o hb e) c0 c1 c3 c4 c5,q D hDn⟩
  ·refine bZ (T.item (z8 X N scope cl G.objs.size s2 H2 fp) rfl rfl rfl hc i _ s3 σ3 H3 (fun _ _=>False) I3 (stat fr3 one) st3 go) (fun r s4 ⟨u,hr,h4⟩=>?_) fun _ _ f=>f
   subst hr
   refine zG h4 fun _ s5 ⟨x,H5,I5,r5,y5,st5,fr5⟩=>?_
   have I5':=I5.pinned (stat fr5 one) (T.obj _ _ st5)
   refine zG (hg cl G.objs.size s2 H2 fp _ s5 σ3 H5 x u _ I5' r5 (step x H5 y5)) fun _ s6 ⟨σ6,H6,I6,q6⟩=>?_
   refine zG (hf cl G.objs.size s2 H2 fp _ s6 σ6 H6 _ I6 q6) fun b s7 ⟨H7,I7,q7⟩=>?_
   have fin:∀{pl:List (av×Obj)} {σ':St} {H':Hp} {s':aj},Inv (z8 X N scope cl G.objs.size s2 H2 fp) (pl++qV fp s5.heap) σ' H' s'->tn (i+1) s'.heap/\∀b∈fp,H' b=none:=fun{pl σ' H' s'} I'=>by
    refine⟨T.keep _ _ _ st5 fun b hb o e=>(I'.pin (b,o) (aP _ (aP _ (qJ hb e)))).1,fun b hb=>?_⟩
    obtain⟨o,e,_⟩:=T.obj _ _ st5 b hb
    exact(I'.pin (b,o) (aP _ (aP _ (qJ hb e)))).2.1
   cases b with
   |false=>
    rw[if_neg bc]at q7⊢
    obtain⟨m',hm,w7⟩:=q7
    obtain⟨a1,a2⟩:=fin I7
    exact⟨m',hm,i+1,σ6,H7,acc,its,ep,I7.unpinned,rv,hz,a1,a2,w7⟩
   |true=>
    rw[if_pos rfl]at q7⊢
    refine zG (he cl G.objs.size s2 H2 fp _ s7 σ6 H7 _ I7 q7) fun y s8 ⟨yv,H8,I8,r8,m',hm,w8⟩=>?_
    obtain⟨a1,a2⟩:=fin I8
    obtain⟨b1,b2⟩:=pinD I8 (bU _ (ao ..))
    have hl:=rv.length
    refine mD kc ⟨_,b1,rfl⟩ jl (i9 _ _) (lg D its.toArray ep y (by rw[aY];omega)) ⟨b1,?_⟩
    have q9:=lM b1 (·.push y)
    have kp:∀b o,b≠D->s8.heap.get? b=some o->(s8.heap.update D (cn (·.push y))).get? b=some o:=fun b o hb e=>(bq s8.heap (cn (·.push y)) (dg hb)).trans e
    have I9:Inv (z8 X N scope cl G.objs.size s2 H2 fp) [] σ6 H8 {s8 with heap:=s8.heap.update D (cn (·.push y))} :=
     (I8.pins_of (pins':=[]) fun p hp=>by cases hp).turned (t':=s8.toks) kp b2 hDC (.inr (by rw[<-hDa];exact ay _)) (fun x c e z=>by
      have e':X.env.cells.lookup x=some c:=hcl1 x c e
      obtain⟨v',hv'⟩:=I2.cell x c e'
      have h0:=hv'.lt
      rw[z,<-hDa]at h0
      exact bG _ h0) fun p hp=>by
       have:p∈([]:List (av×Obj)):=hp
       cases this
    have hpu:its.toArray.push y=(its++[y]).toArray:=by simp
    rw[hpu]at q9
    obtain⟨e9,q9⟩:∃e9,(s8.heap.update D (cn (·.push y))).get? D=some {cls:=.type "list",data:=.seq (its++[y]).toArray e9}:=⟨_,q9⟩
    refine⟨m',hm,i+1,σ6,H8,acc++[yv],its++[y],e9,I9.pins_of fun p hp=>?_,rv.append (.cons r8 .nil),?_,T.keep _ _ _ a1 fun b hb o e=>kp b o ?_ e,a2,w8⟩
    ·obtain rfl:p=(D,{cls:=.type "list",data:=.seq (its++[y]).toArray e9}):=by
      rcases aE.mp hp with e|e
      ·exact e
      ·cases e
     obtain⟨_,_,c3,c4,_⟩:=I8.pin (D,_) (aP _ (bU _ (ao ..)))
     exact⟨q9,b2,c3,c4,fun v z=>by cases z⟩
    ·rw[aD,fj];omega
    ·rintro rfl
     have h0:=hfo b hb
     rw[hDa]at h0
     exact bG _ h0
 exact ie loop (T.self X.A 0 _ _ _ st1 loop)
end
end L2
end
section
namespace L2
open PySem PySem.Spec PyProof.Rows PySem.Builtin PySem.Builtin.Str
abbrev tl (x:List Nat):Str:=⟨x.toArray⟩
theorem zDg (x y:List Nat)(i:Nat):subAt (tl x) (tl y) i=((x.drop i).take y.length==y):=by
 rw[StrLaws.subAt_eq]
 show((x.toArray.toList.drop i).take y.toArray.size==y.toArray.toList)=_
 simp
theorem zDh (x:List Nat):(tl x).length=x.length:=by show x.toArray.size=_;simp
end L2
end
section
namespace L2
open PySem PySem.Spec PyProof.Rows
theorem zHn (p y q:List Nat):(cp (tl (p++y++q)) (tl y) 0 (tl (p++y++q)).length 1).isEmpty=false:=by
 have a:StrLaws.At (tl (p++y++q)) (tl y) (tl (p++y++q)).length p.length:=by
  refine⟨?_,?_⟩
  ·rw[zDh,zDh];simp
  ·rw[zDg,dw,me rfl,List.take_left' rfl];simp
 rcases StrLaws.occ_head (tl (p++y++q)) (tl y) 1 (ay _)with⟨_,b⟩|⟨i,yG,e1,hi,b⟩
 ·exact absurd a (b _)
 ·rw[e1];rfl
abbrev qH (prog:aI)(w:aR)(h:bt)(k:List zK)(a:av):Prop:=(tupleKind (yF prog w)).is h k a
theorem qH.kept {prog:aI}{w:aR}{h h':bt}{k:List zK}{b:av}(x:qH prog w h k b)(e:∀o,h.get? b=some o->h'.get? b=some o):qH prog w h' k b:=by
 obtain⟨o,items,n,a,r⟩:=x
 exact⟨o,items,n,e _ a,r⟩
theorem DictOfH.kept {prog:aI}{w:aR}{h h':bt}{D:av}{xs:List (List zK×av×af)}(x:h.DictOfH (tupleKind (yF prog w)) D xs)(e:∀o,h.get? D=some o->h'.get? D=some o)(b:∀q∈xs,∀o,h.get? q.2.1=some o->h'.get? q.2.1=some o):h'.DictOfH (tupleKind (yF prog w)) D xs:=by
 obtain⟨o,c,ep,d,f,g,i,j,l⟩:=x
 exact⟨o,c,ep,e _ d,f,g,i,fun q a=>qH.kept (j q a) (b q a),l⟩
section
variable{prog:aI}{w:aR}{A:bF}{R:iY->aj->Prop}
theorem zHo {I ax D:av}{items:Array af}{kvs:List (List zK×av×af)}(hu:A.in1.units<cLine)(hh:A.in1.handled=none)(O:ax≠I)(g:D≠I)(P:D≠ax)(a:kvs.length=items.size)(hz:kvs.length<=1000)(nd:(kvs.map (·.1)).Nodup) :
  ∀(m i:Nat) (s:aj),items.size-i=m->i<=items.size->(s.heap.IsListIter I ax i/\s.heap.IsList ax items)->
   (∀(j:Nat) (v:af),items[j]?=some v->∃q,kvs[j]?=some q/\(∃b o n,v=Value.ref b/\b≠D/\b≠I/\s.heap.get? b=some o/\o.cls=.type "tuple"/\o.data=.seq #[.ref q.2.1,q.2.2] n)/\q.2.1≠D/\q.2.1≠I/\qH prog w s.heap q.1 q.2.1)->
   s.heap.DictOfH (tupleKind (yF prog w)) D (kvs.take i)->
   (∀h' tk,(∀b o,b≠D->b≠I->s.heap.get? b=some o->h'.get? b=some o)->h'.DictOfH (tupleKind (yF prog w)) D kvs->R (.ok (.ret .none)) {s with heap:=h',toks:=tk})->
   ∀n:Tok,codeAny (model prog w) A (.builtin "dict.update.loop" ⟨[.ref D,.ref I,.int (i:Int) n,.none],[]⟩) R s:=by
 have W:=ke (prog:=prog) (w:=w) (A:=A.in1) hh I ax O items
 intro m
 induction m with
 |zero=>
  intro i s hm hi st u hd Q n
  have T:i=items.size:=by omega
  subst T
  refine bP zCi ?_
  rw[bI gD _]
  show wpAny _ A.in1 (pyNext (.ref I)>>=_) _ _ s
  refine aa (W.done s _ _ st fun h' tk d=>?_)
  show wpAny _ A.in1 (nG D []>>=_) _ _ _
  refine aa (ag (ag (Q h' tk (fun b o h x e=>d b o (by simpa using x) e) ?_)))
  rw[<-a,ba]at hd
  refine DictOfH.kept hd (fun o y=>d D o (by simpa using g) y) fun q B o e=>?_
  obtain⟨j,f⟩:=cj.mp B
  have c:j<items.size:=by rw[<-a];exact(ah.mp f).1
  obtain⟨U,e1,_,_,C,_⟩:=u j _ (bu c)
  rw[f]at e1
  cases e1
  exact d _ _ (by simpa using C) e
 |succ m ih=>
  intro i s hm hi st u hd Q n
  have E:i<items.size:=by omega
  refine bP zCi ?_
  rw[bI gD _]
  show wpAny _ A.in1 (pyNext (.ref I)>>=_) _ _ s
  refine aa (W.item i s _ _ E st fun v h tk X Y d=>?_)
  obtain⟨q,B,⟨b,o,nn,rfl,a0,Z,y,ab,ac⟩,a1,al,am⟩:=u i v X
  have F:h.get? b=some o:=d b o (by simpa using Z) y
  have an:h.DictOfH (tupleKind (yF prog w)) D (kvs.take i):=by
   refine DictOfH.kept hd (fun o y=>d D o (by simpa using g) y) fun q B o e=>?_
   obtain⟨j,f⟩:=cj.mp (et B)
   have c:j<items.size:=by rw[<-a];exact(ah.mp f).1
   obtain⟨U,e1,_,_,C,_⟩:=u j _ (bu c)
   rw[f]at e1
   cases e1
   exact d _ _ (by simpa using C) e
  have G:qH prog w h q.1 q.2.1:=am.kept fun o e=>d _ _ (by simpa using al) e
  show wpAny _ A.in1 (holding [Value.ref b] _>>=_) _ _ _
  refine aa (bD ?_)
  have hT:eK {s with heap:=h,toks:=tk} (.ref b) "tuple" :=⟨o,F,ab⟩
  refine aa (wpAny_tryCatch ?_)
  unfold nW
  refine aa (eC hT ?_)
  rw[if_pos (by decide)]
  refine aa (ff F ac (ag ?_))
  show wpAny _ A.in1 (holding [Value.ref q.2.1,q.2.2] (dictSet D (.ref q.2.1) q.2.2)) _ _ _
  have H:kvs[i]?=some q:=B
  have J:i<kvs.length:=(ah.mp H).1
  have L:kvs[i]=q:=(ah.mp H).2
  refine bD (wpAny_dictSet_heap (knd:=tupleKind (yF prog w)) (k:=q.1) (s:={s with heap:=h,toks:=tk}) hu G an (fun x l M=>?_) (by rw[aW,aV];omega))
  have N:atKey (kvs.take i) q.1=none:=by
   refine atKey_none_of_get fun j p f=>?_
   have c:j<i:=by have:=(ah.mp f).1;rw[aW]at this;omega
   rw[eG c]at f
   have ap:j<kvs.length:=by omega
   have:=(cY (xs:=kvs.map (·.1)) (h₀:=by simpa using ap) (h₁:=by simpa using J) nd).mp (by rw[cZ,cZ,L,(ah.mp f).2])
   omega
  rw[storedH_new N]at l
  have ed:kvs.take i++[(q.1,q.2.1,q.2.2)]=kvs.take (i+1):=by
   rw[aF J,L]
  rw[ed]at l
  show wpAny _ A.in1 (again _) _ _ _
  refine ag ⟨cy gD _,?_⟩
  have keep:∀b o,b≠D->b≠I->s.heap.get? b=some o->x.get? b=some o:=fun b o e1 r e=>by
   rw[M.2 b e1];exact d b o (by simpa using r) e
  refine ih (i+1) {s with heap:=x,toks:=tk+(tupleKind (yF prog w)).draws q.1} (by omega) E (W.frame _ h x Y fun b hb o e=>?_) (fun j v X=>?_) l (fun h' aq ar as=>Q h' aq (fun b o e1 r e=>ar b o e1 r (keep b o e1 r e)) as) _
  ·rw[M.2 b]
   ·exact e
   ·rintro rfl
    rcases aE.mp hb with z|z
    ·exact g z
    ·exact P (by simpa using z)
  ·obtain⟨U,aK,⟨b',o',n',e1,r,e3,C,e5⟩,e6,e7,e8⟩:=u j v X
   exact⟨U,aK,⟨b',o',n',e1,r,e3,keep b' o' r e3 C,e5⟩,e6,e7,e8.kept fun o e=>keep _ _ e6 e7 e⟩
theorem zHp {E:af->aj->Prop}{s:aj}{l:av}{items:Array af}{kvs:List (List zK×av×af)}{Q:af->aj->Prop}(hu:A.units+32<cLine)(M:A.handled=none)(hl:PlainL s.heap l items)(m:kvs.length=items.size)(hz:kvs.length<=1000)(nd:(kvs.map (·.1)).Nodup)
  (T:∀(j:Nat) (v:af),items[j]?=some v->∃q,kvs[j]?=some q/\(∃b o n,v=Value.ref b/\s.heap.get? b=some o/\o.cls=.type "tuple"/\o.data=.seq #[.ref q.2.1,q.2.2] n)/\qH prog w s.heap q.1 q.2.1)
  (h:∀h' tk,(∀b o,s.heap.get? b=some o->h'.get? b=some o)->h'.DictOfH (tupleKind (yF prog w)) s.heap.objs.size kvs->Q (.ref s.heap.objs.size) {s with heap:=h',toks:=tk}) :
  wpAny (model prog w) A (call (.type "dict") [.ref l]) Q E s:=by
 refine callType_codes (Q₁:=fun obj N=>obj=.ref s.heap.objs.size/\N={s with heap:=s.heap.push {cls:=.type "dict",data:=.dict #[]}}) PySem.F.kt_called_dict (PySem.F.kt_typeCall_dict_1 _) PySem.F.entry_dict_init (kt_code_dict_new _ ⟨rfl,rfl⟩) ?_
 rintro obj N ⟨rfl,rfl⟩
 have c:(s.heap.push {cls:=.type "dict",data:=.dict #[]}).DictOfH (tupleKind (yF prog w)) s.heap.objs.size []:=oJ s.heap
 obtain⟨o,n,g,x,y,hd⟩:=id hl
 have p:l<s.heap.objs.size:=aA g
 have f:(s.heap.push {cls:=.type "dict",data:=.dict #[]}).get? l=some o:=ae _ g
 refine⟨c.typeIs,PySem.F.args_dict_init_2 _ _,?_⟩
 unfold b7.«dict.__init__»
 refine aa ?_
 unfold nH
 refine aa (iN c.typeIs ?_)
 show wpAny _ _ (pure (s.heap.objs.size,[Value.ref l])) _ _ _
 refine ag ?_
 show wpAny _ _ (gr "dict.__init__" s.heap.objs.size (.ref l) [] .none) _ _ _
 unfold gr
 have U:eK {s with heap:=s.heap.push {cls:=.type "dict",data:=.dict #[]}} (.ref l) "list" :=⟨o,f,x⟩
 refine aa (eC U ?_)
 rw[if_pos (by decide)]
 refine aa (zGZ f x hd y zGY (by decide) (by simp[M]) (fun i z d=>?_))
 rw[if_pos (show(none:Option af).isNone=true from rfl)]
 refine aa (iw (aa ?_))
 have r:i.IsList l items:=⟨o,d _ _ f,x,n,hd⟩
 refine eg (s:={s with heap:=i,toks:=z}) r ?_
 have a:s.heap.objs.size<i.objs.size:=by
  obtain⟨o',es,ep,B,_⟩:=c
  exact aA (d _ _ B)
 have u:l<i.objs.size:=fG p a
 refine ag ⟨cy gD _,?_⟩
 have old:∀b o,s.heap.get? b=some o->i.get? b=some o:=fun b o e=>d b o (ae _ e)
 refine zHo (I:=i.objs.size) (ax:=l) (D:=s.heap.objs.size) (items:=items) (kvs:=kvs) ?hu (by simp[M]) (aG u) (aG a) (cT p) m hz nd items.size 0 _ rfl (bH _)
  ⟨⟨_,aw _ rfl,rfl,rfl⟩,r.push _⟩ (fun j v W=>?_) ?_ (fun h' C G H=>⟨rfl,h h' C (fun b o e=>?_) H⟩) _
 case hu=>simp only[gs];omega
 ·obtain⟨q,J,⟨b,X,Y,e1,L,Z,e4⟩,O⟩:=T j v W
  have P:q.2.1<s.heap.objs.size:=by obtain⟨o,_,_,g,_⟩:=O;exact aA g
  exact⟨q,J,⟨b,X,Y,e1,aG (aA L),aG (fG (aA L) a),ae _ (old _ _ L),Z,e4⟩,aG P,aG (fG P a),O.kept fun o e=>ae _ (old _ _ e)⟩
 ·rw[List.take_zero]
  refine DictOfH.kept c (fun o g=>ae _ (d _ _ g)) fun q J=>nomatch J
 ·exact G b o (aG (aA e)) (aG (fG (aA e) a)) (ae _ (old _ _ e))
end
section
variable{X:Cx}
def qO (K:ai)(H:Hp)(ts:List V)(kvs:List (List zK×V)):Prop:=ts.length=kvs.length/\∀(i:Nat) (q:List zK×V),kvs[i]?=some q->∃a b,ts[i]?=some (.ref a)/\zW K H a [.ref b,q.2]/\H b=some (.tup (q.1.map vK))
def zHq (K:ai):List V->Hp->VK->Prop:=fun xs H Q=>∃p ts kvs,xs=[.ref p]/\zV K H p ts/\qO K H ts kvs/\(kvs.map (·.1)).Nodup/\kvs.length<=1000/\∀d,H d=none->Q (.ref d) (upd H d (.dT kvs))
theorem zHr {d:List (av×Obj)}{σ:St}{H:Hp}{s:aj}(I:Inv X d σ H s){ts:List V}{kvs:List (List zK×V)}{its:List af}(h:qO X.K H ts kvs)(l:zF ts its) :
  ∃g:List (List zK×av×af),KT H kvs g/\∀(j:Nat) (v:af),its[j]?=some v->∃q,g[j]?=some q/\(∃b o n,v=Value.ref b/\s.heap.get? b=some o/\o.cls=.type "tuple"/\o.data=.seq #[.ref q.2.1,q.2.2] n)/\qH X.prog X.w s.heap q.1 q.2.1:=by
 have one:∀(i:Nat) (q:List zK×V) (u:af),kvs[i]?=some q->its[i]?=some u->∃c x,zI q.2 x/\H c=some (.tup (q.1.map vK))/\(∃b o n,u=Value.ref b/\s.heap.get? b=some o/\o.cls=.type "tuple"/\o.data=.seq #[.ref c,x] n):=fun i q u C hu=>by
  obtain⟨a,c,D,E,F⟩:=h.2 i q C
  obtain⟨A,e1,m⟩:=l.get D
  rw[hu]at e1
  cases e1
  cases m
  obtain⟨B,G,⟨o,J,L,n,hd⟩,_⟩:=I.tuple E
  obtain⟨T,M,rfl,p,r⟩:=jS G
  cases p
  exact⟨c,M,r,F,a,o,n,rfl,J,L,hd⟩
 have hl:its.length=kvs.length:=by rw[<-l.length];exact h.1
 clear h l
 induction kvs generalizing its with
 |nil=>
  refine⟨[],.nil,fun j v e=>?_⟩
  have:its=[]:=by simpa using hl
  rw[this]at e;simp at e
 |cons q kvs ih=>
  cases its with
  |nil=>simp at hl
  |cons u its=>
   obtain⟨c,x,N,f,O⟩:=one 0 q u rfl rfl
   obtain⟨g,P,y⟩:=ih (its:=its) (fun i z A Q R=>one (i+1) z A (by simpa using Q) (by simpa using R)) (by simpa using hl)
   refine⟨(q.1,c,x)::g,.cons ⟨rfl,f,N⟩ P,fun j v e=>?_⟩
   cases j with
   |zero=>
    have:u=v:=by simpa using e
    subst this
    exact⟨_,rfl,O,j0 I.hok f⟩
   |succ j=>
    obtain⟨z,e1,m⟩:=y j v (by simpa using e)
    exact⟨z,by simpa using e1,m⟩
theorem KT.keys {H:Hp}{kvs:List (List zK×V)}{a:List (List zK×av×af)}(h:KT H kvs a):kvs.map (·.1)=a.map (·.1):=by
 induction h with
 |nil=>rfl
 |cons h t ih=>rw[aM,aM,h.1,ih]
theorem zHs (hu:X.A.units+64<cLine)(r:X.calm=true):vD X (.type "dict") (zHq X.K):=by
 intro m s σ H xs M Q I w h
 obtain⟨p,ts,kvs,rfl,x,a,nd,hz,q⟩:=h
 obtain⟨u,rfl,y⟩:=vS w
 cases y
 obtain⟨its,n,pl,_⟩:=I.list x
 obtain⟨f,g,i⟩:=zHr I a n
 have hl:f.length=kvs.length:=(gd g).symm
 have c:its.length=kvs.length:=by rw[<-n.length];exact a.1
 refine zHp (kvs:=f) (by omega) (I.ok.hd r) pl (by rw[hl];simp[c]) (by omega) (by rw[<-g.keys];exact nd) (fun j v B=>i j v (by simpa using B)) fun h' tk C hd=>?_
 have l:(s.heap.objs.size==sysModules)=false:=by
  have D:=I.big
  have E:s.heap.objs.size≠sysModules:=cT D
  simpa using E
 obtain⟨F,G,ep,g1,g2,g3,J,N,L⟩:=hd
 have d:=I.hok.fresh (ay s.heap.objs.size)
 exact⟨.ref s.heap.objs.size,_,I.laid (t':=tk) (o:=.dT kvs) C (ay _) ⟨by rw[aV];omega,l,f,g.keeps fun b O e=>by rw[zQ (fun z=>by rw[z,d]at e;cases e)];exact e,F,G,ep,g1,g2,g3,J,L⟩,rfl,q _ d⟩
end
section
variable{prog:aI}{w:aR}{A:bF}{E:af->aj->Prop}{s:aj}
theorem zHt {a b:av}{id:String}{xs l:List (List zK×av×af)}{Q:Bool->aj->Prop}(hu:A.units<cLine)(F:(a==sysModules)=false)(G:(b==sysModules)=false)(H:s.heap.DictOfH (tupleKind (yF prog w)) a xs)(I:s.heap.DictOfH (tupleKind (yF prog w)) b l)(hl:xs.length=l.length)
  (J:∀x∈xs,∃(j:Nat) (p:av×af) (i:Int) (t u:Tok),l[j]?=some (x.1,p)/\x.2.2=.int i t/\p.2=.int i u) (h:Q true s) :
  wpAny (model prog w) A (ix id a b) Q E s:=by
 obtain⟨Y,m,Z,f,a2,g,z,L,a6⟩:=H
 obtain⟨ob,M,pb,n,b2,o,q,N,B⟩:=I
 have O:=mf z
 have P:=mf q
 unfold ix n4
 rw[F,G]
 simp only[aX,if_false]
 refine aa (ag ?_)
 refine aa (ag ?_)
 refine aa (fg f g ?_)
 refine aa (fg n o ?_)
 rw[if_neg (by rw[O,P,hl];simp)]
 refine aa (mh f g ?_)
 refine aa ?_
 rw[je]
 refine gu _ (fun yG r s'=>s'=s/\r.1=none/\∀i∈yG,i<m.size) _ ?_ ?_ _ _ ⟨rfl,rfl,fun i hi=>?_⟩
 ·rintro i yG r s' ⟨rfl,v,c⟩
  have hi:i<m.size:=c i ao
  have e:i<xs.length:=by omega
  have C:xs[i]∈xs:=cg e
  refine aa (fg f g ?_)
  have e1:m[i]?=some (entryOfKey (tupleKind (yF prog w)) xs[i]):=by rw[entry_at z,aC e];rfl
  rw[e1]
  dsimp only
  obtain⟨j,p,k,t,u,f1,f2,R⟩:=J _ C
  refine aa (bD ?_)
  refine aa (wpAny_dictFind_heap (knd:=tupleKind (yF prog w)) (k:=(xs[i]).1) hu (L _ C) n o q N B (fun y=>absurd f1 (y j p)) (fun D T d=>?_))
  have U:D=j:=idxH_unique B d f1
  subst U
  rw[f1]at d
  have W:p=T:=by cases d;rfl
  subst W
  dsimp only
  refine aa (fg n o ?_)
  have X:M[D]?=some (entryOfKey (tupleKind (yF prog w)) ((xs[i]).1,p)):=by rw[entry_at q,f1];rfl
  rw[X]
  dsimp only
  show wpAny _ _ (holding [p.2] (eqBool (xs[i]).2.2 p.2)) _ _ _
  rw[f2,R]
  refine bD (lG ?_)
  simp only[beq_self_eq_true,fu,aX,if_false]
  refine aa (mh f g ?_)
  rw[if_neg (by simp)]
  exact ag ⟨rfl,rfl,fun i hi=>c i (au _ hi)⟩
 ·rintro⟨r1,r2⟩ s' ⟨rfl,v,_⟩
  simp only at v
  subst v
  exact ag h
 ·have:=List.mem_range'_1.mp hi
  simp at this
  omega
end
section
variable{X:Cx}
def zHu:R2:=fun x y H Q=>∃a b ka kb,x=.ref a/\y=.ref b/\H a=some (.dT ka)/\H b=some (.dT kb)/\ka.length=kb.length/\(∀q∈ka,∃i,q.2=V.int i/\(q.1,V.int i)∈kb)/\Q (.bl false) H
theorem zHv {α β:Type}{R:α->β->Prop}{xs:List α}{a:List β}(h:jv R xs a):∀{i:Nat}{y:β},a[i]?=some y->∃x,xs[i]?=some x/\R x y:=by
 induction h with
 |nil=>intro i y e;simp at e
 |cons h t ih=>
  intro i y e
  cases i with
  |zero=>cases e;exact⟨_,rfl,h⟩
  |succ i=>exact ih (by simpa using e)
theorem zHw {α β:Type}{R:α->β->Prop}{xs:List α}{a:List β}(h:jv R xs a):∀{i:Nat}{x:α},xs[i]?=some x->∃y,a[i]?=some y/\R x y:=by
 induction h with
 |nil=>intro i y e;simp at e
 |cons h t ih=>
  intro i y e
  cases i with
  |zero=>cases e;exact⟨_,rfl,h⟩
  |succ i=>exact ih (by simpa using e)
theorem zHx (hu:X.A.units+64<cLine):z4 X (compareOp .NotEq) zHu:=by
 intro f s σ H x y v u Q I o r h
 obtain⟨a,b,R,U,rfl,rfl,w,B,hl,C,q⟩:=h
 cases o
 cases r
 obtain⟨_,D,xs,g,c⟩:=zAI I.hok w
 obtain⟨_,E,W,l,d⟩:=zAI I.hok B
 show wpAny _ _ (richCompare .NotEq (.ref a) (.ref b)) _ _ _
 refine wpAny_richCompare_same_room (op:=.NotEq) c.typeIs d.typeIs jf (bR jf c.typeIs PySem.F.entry_dict_ne ?_ (PySem.F.args_dict_ne_2 _ _)) (by omega)
 show wpAny _ _ (fW "__ne__" ⟨[.ref a,.ref b],[]⟩>>=_) _ _ _
 unfold fW
 refine aa (aa (iN c.typeIs ?_))
 refine aa (m:=slotArgs "__ne__" 1 _) (ag ?_)
 refine ag ?_
 dsimp only
 refine aa (gv (T :="dict") (b:=true) d.typeIs (by rw[c8];kernel_rfl) ?_)
 simp only[fu,aX,if_false]
 refine aa (ag ?_)
 refine aa (ag ?_)
 refine aa (zHt (by simp only[gs];omega) D E c d (by rw[<-g.length,<-l.length];exact hl) (fun x G=>?_) ?_)
 ·obtain⟨i,hi⟩:=cj.mp G
  obtain⟨p,e1,J,Y,n⟩:=zHv g hi
  obtain⟨z,f1,f2⟩:=C p (aU e1)
  obtain⟨j,L⟩:=cj.mp f2
  obtain⟨y,g1,g2,g3,M⟩:=zHw l L
  rw[f1]at n
  obtain⟨t,N⟩:=n
  obtain⟨O,P⟩:=M
  refine⟨j,y.2,z,t,O,?_,N,P⟩
  rw[g1]
  have:y.1=x.1:=g2.symm.trans J
  rw[<-this]
 ·exact ag ⟨_,rfl,(fun e=>nomatch e),.bl false,H,I,rfl,q⟩
end
end L2
end
section
namespace Kn
open PySem L2
abbrev kT (p:S×S):List zK:=[.inl (tx p.1),.inl (tx p.2)]
def yI (g:List yB):List (List zK×V):=g.map fun q=>(kT q.1,V.int q.2)
theorem qP {p q:S×S}:kT p=kT q↔p=q:=by
 constructor
 ·intro h
  injection h with e f
  injection f with g _
  obtain⟨a,b⟩:=p
  obtain⟨c,d⟩:=q
  have e1:a=c:=uW (iS e)
  have i:b=d:=uW (iS g)
  rw[e1,i]
 ·intro h;rw[h]
theorem qQ (p:yB)(l:List yB):yI (p::l)=(kT p.1,V.int p.2)::yI l:=rfl
theorem gQ (l:List yB):(yI l).length=l.length:=by simp[yI]
theorem zHy (l:List yB)(nd:(l.map (·.1)).Nodup):((yI l).map (·.1)).Nodup:=by
 unfold yI
 rw[aO]
 have:(l.map ((fun x=>x.1) ∘ fun q=>(kT q.1,V.int q.2)))=(l.map (·.1)).map kT:=by rw[aO];rfl
 rw[this]
 exact eh kT (fun a b c z=>c (qP.mp z)) nd
theorem zHz (l:List yB)(k:S×S):yL (yI l) (kT k)=(zE l k).map V.int:=by
 induction l with
 |nil=>rfl
 |cons p r ih=>
  rw[qQ]
  by_cases e:p.1=k
  ·rw[jW (qP.mpr e)]
   obtain⟨a,b⟩:=p
   have c:a=k:=e
   subst c
   simp[zE]
  ·rw[jX (fun z=>e (qP.mp z)),ih]
   obtain⟨a,b⟩:=p
   have c:¬a=k:=e
   simp[zE,c]
theorem zIA (l:List yB)(k:S×S):((yI l).any fun a=>decide (a.1=kT k))=decide (k∈l.map (·.1)):=by
 induction l with
 |nil=>rfl
 |cons p r ih=>
  rw[qQ,fq,ih]
  by_cases e:p.1=k
  ·have:decide (kT p.1=kT k)=true:=decide_eq_true (qP.mpr e)
   rw[this,kz]
   exact(decide_eq_true (by rw[<-e];exact ao ..)).symm
  ·have:decide (kT p.1=kT k)=false:=decide_eq_false (fun z=>e (qP.mp z))
   rw[this,jq]
   congr 1
   have b:¬k=p.1:=fun z=>e z.symm
   simp[b]
theorem zIB (l:List yB)(k:S×S)(v:Int)(nd:(l.map (·.1)).Nodup):yQ (yI l) (kT k) (.int v)=yI (zJ l k v):=by
 unfold yQ
 rw[zIA]
 by_cases c:k∈l.map (·.1)
 ·rw[if_pos (decide_eq_true c)]
  induction l with
  |nil=>cases c
  |cons p r ih=>
   obtain⟨a,b⟩:=p
   have d:=bA.mp nd
   rw[qQ,aM]
   by_cases e:a=k
   ·subst e
    have e1:zJ ((a,b)::r) a v=(a,v)::r:=by simp[zJ]
    rw[e1,qQ]
    congr 1
    ·simp
    ·have:∀q∈yI r,(if q.1=kT a then(q.1,V.int v)else q)=q:=fun q f=>by
      rw[if_neg]
      intro z
      obtain⟨s,g,h⟩:=aB.mp f
      have i:q.1=kT s.1:=by rw[<-h]
      rw[i]at z
      exact d.1 (aB.mpr ⟨s,g,qP.mp z⟩)
     have j:=bO this
     rw[j];simp
   ·have e1:zJ ((a,b)::r) k v=(a,b)::zJ r k v:=by simp[zJ,e]
    rw[e1,qQ]
    congr 1
    ·rw[if_neg (fun z=>e (qP.mp z))]
    ·exact ih d.2 (by
      rcases aE.mp c with z|z
      ·exact absurd z.symm e
      ·exact z)
 ·rw[if_neg (by simpa using c)]
  clear nd
  induction l with
  |nil=>rfl
  |cons p r ih=>
   obtain⟨a,b⟩:=p
   have e:¬a=k:=fun z=>c (by rw[<-z];exact ao ..)
   have e1:zJ ((a,b)::r) k v=(a,b)::zJ r k v:=by simp[zJ,e]
   rw[e1,qQ,qQ,lR,ih fun z=>c (au _ z)]
theorem zIC (p e:S):cJ (tx (p++e)) (tx e)=true:=by
 unfold cJ
 rw[zDg (p++e) e,yA,yA,aD]
 have e1:p.length+e.length-e.length=p.length:=by omega
 rw[e1,me rfl,ba]
 simp
section
variable{K:ai}
theorem zDi {H H':Hp}{ts:List V}{kvs:List (List zK×V)}(h:qO K H ts kvs)(s:zA H H'):qO K H' ts kvs :=
 ⟨h.1,fun i q c=>by
  obtain⟨a,b,d,e,f⟩:=h.2 i q c
  exact⟨a,b,d,s.seqT e,s _ _ f⟩⟩
theorem zID {H:Hp}{ts:List V}{l:List yB}{q:yB}{f kp:av}(h:qO K H ts (yI l))(g:H f=some (.tup [.ref kp,.int q.2]))(j:H kp=some (.tup [sv q.1.1,sv q.1.2])):qO K H (ts++[.ref f]) (yI (l++[q])):=by
 have e:yI (l++[q])=yI l++[(kT q.1,V.int q.2)]:=by unfold yI;rw[aJ];rfl
 rw[e]
 refine⟨by rw[aD,aD,h.1];rfl,fun i r d=>?_⟩
 by_cases c:i<(yI l).length
 ·rw[dm c]at d
  obtain⟨a,b,g1,g2⟩:=h.2 i r d
  exact⟨a,b,by rw[dm (by rw[h.1];exact c)];exact g1,g2⟩
 ·have hi:i=(yI l).length:=by
   have:=(ah.mp d).1
   rw[aD]at this
   simp at this
   omega
  subst hi
  rw[c7 (ay _),nX]at d
  cases d
  refine⟨f,kp,?_,.of g,j⟩
  rw[c7 (by rw[h.1];exact ay _),h.1,nX];rfl
end
end Kn
end
section
namespace L2
open PySem PySem.Spec PyProof.Rows
open PySem.AutoSeq1 (wpAny_loadPart')
open PySem.MeetsSeq PySem.MeetsSeq2 PySem.MeetsSeq3 PySem.SeqAt
section
open MyS PySem.W
variable{prog:aI}{w:aR}{A:bF}{E:af->aj->Prop}{s:aj}
end
section
open MyS PySem.W
variable{prog:aI}{w:aR}{A:bF}{E:af->aj->Prop}{s:aj}
end
end L2
end
section
namespace L2
open PySem PySem.Spec PyProof.Rows
section
open MyS PySem.W
variable{prog:aI}{w:aR}{A:bF}{E:af->aj->Prop}{s:aj}
end
section
open MyS PySem.W
variable{X:Cx}
end
theorem zIE (t:cR)(a:Array (Int×af))(h:Int)(x:af):(layNew t a h x).2.1.led=t.led/\(t.plain=false->(layNew t a h x).2.1.plain=false):=by
 unfold layNew
 split
 ·dsimp only
  unfold SetTable.orStandIn
  split
  ·exact⟨rfl,fun e=>e⟩
  ·exact⟨rfl,fun _=>rfl⟩
 ·exact⟨rfl,fun _=>rfl⟩
theorem zIF {mask finger moves:Nat}{led plain:Bool}{a:Array Int}{t:cR}{o:Array Nat}(e:nI mask finger moves led plain a=some (t,o)):t.led=led/\t.plain=plain:=by
 unfold nI at e
 cases q:SetTable.layClean mask a with
 |none=>rw[q]at e;cases e
 |some b=>
  rw[q]at e
  injection e with e
  injection e with e1 c
  subst e1
  exact⟨rfl,rfl⟩
theorem zIG (t:cR)(a:Array (Int×af))(n:Nat):(relayAll t a n).2.1.led=t.led/\(t.plain=false->(relayAll t a n).2.1.plain=false):=by
 unfold relayAll
 split
 ·rename_i t' o e
  dsimp only
  have k:=zIF e
  split
  ·exact⟨k.1,fun q=>k.2.trans q⟩
  ·exact⟨rfl,fun _=>rfl⟩
 ·exact⟨rfl,fun _=>rfl⟩
abbrev yU (es:Array (Int×af))(ep:Nat)(t:cR):Obj:={cls:=.type "set",dict:=none,data:=.set es ep t}
def zDj (w:aR)(es:Array (Int×af))(t:cR):Prop:=t.fits es.size=true/\t.led=!w.params.followText "set-order"/\ (es.size=0\/t.plain=false)
def jK (prog:aI)(w:aR)(h:bt)(a:av)(es:Array (Int×af)):Prop :=
 ∃ep t,h.get? a=some (yU es ep t)/\ElemsOf (d6 prog w) es.toList/\es.size<scanBound/\zDj w es t
def y8:af->Str
 | .str x _=>x
 |_=>⟨#[]⟩
abbrev v6 (es:Array (Int×af)):List Str:=es.toList.map fun e=>y8 e.2
theorem zBE {k:Str}{x:af}(h:ck k x=true):y8 x=k:=by
 obtain⟨t,rfl⟩:=cP h;rfl
theorem zIH {k:Str}{x:af}(h:ck k x=true):x.scannable=true:=by
 obtain⟨t,rfl⟩:=cP h;rfl
section
variable{prog:aI}{w:aR}{A:bF}{E:af->aj->Prop}{s:aj}
theorem zBF {h:bt}{a:av}{b es':Array (Int×af)}{ep:Nat}{t t':cR}(c:h.get? a=some (yU b ep t)):(h.update a (mJ es' t')).get? a=some (yU es' (ep+1) t'):=by
 have:=dj (mJ es' t') c rfl
 exact this
theorem zII {a:av}{l:Array (Int×af)}{k:Str}{x:af}{Q:Bool->aj->Prop}(m:ck k x=true)(hS:jK prog w s.heap a l)(z:l.size+1<scanBound)
  (h:∀b h' es',eA a s.heap h'->jK prog w h' a es'->(k∈v6 l/\es'.toList.Perm l.toList\/k∉v6 l/\(v6 es').Perm (k::v6 l))->Q b {s with heap:=h'}) :
  wpAny (model prog w) A (setAddHashed a x (hashStr w k)) Q E s:=by
 obtain⟨ep,t,W,o,hb,hf,u,al⟩:=id hS
 have B:=zIH m
 have e:s={s with heap:=s.heap}:=by cases s;rfl
 unfold setAddHashed setAddHashedIn
 refine bD (aa (bM W rfl hf ?_))
 dsimp only
 rw[byScan_of (knd:=d6 prog w) B hb o]
 simp only[↓reduceIte]
 unfold setAddByScan
 refine aa ?_
 refine aa (iw ?_)
 refine aa (wpAny_setScan_of (knd:=d6 prog w) (k:=k) m W rfl hf o ?_)
 cases hr:List.findIdx? (fun e=>(d6 prog w).is k e.2) l.toList with
 |some j=>
  dsimp only
  obtain⟨hj,X,_⟩:=List.findIdx?_eq_some_iff_getElem.mp hr
  refine ag (ag ?_)
  rw[e]
  exact h _ s.heap l (oG a s.heap) hS (.inl ⟨aB.mpr ⟨l.toList[j],cg hj,zBE X⟩,cM _⟩)
 |none=>
  dsimp only
  have J:k∉v6 l:=fun q=>by
   obtain⟨y,hy,q⟩:=aB.mp q
   obtain⟨⟨k',M,_⟩,_⟩:=o y hy
   have e1:k'=k:=(zBE M).symm.trans q
   have:=List.findIdx?_eq_none_iff.mp hr y hy
   rw[<-e1,M]at this
   cases this
  have d:=layNew_perm t l (hashStr w k) x
  have g:=layNew_fits t l (hashStr w k) x
  have i:=zIE t l (hashStr w k) x
  show wpAny _ _ _ _ _ _
  change wpAny _ _ (match layNew t l (hashStr w k) x with|(l,t,f,N)=>_) _ _ _
  generalize hL:layNew t l (hashStr w k) x=L at d g i⊢
  obtain⟨c,Y,f,N⟩:=L
  dsimp only at d g i⊢
  rw[fX]at d
  have v:ElemsOf (d6 prog w) c.toList:=(ElemsOf.push (knd:=d6 prog w) o m B).perm d
  have hsz:c.size=l.size+1:=by rw[<-aN,d.length_eq,aD,aN];rfl
  have C:c.size<scanBound:=by rw[hsz];exact z
  have O:(v6 c).Perm (k::v6 l):=by
   have:=d.map fun e:Int×af=>y8 e.2
   rw[aJ]at this
   refine this.trans ?_
   rw[kh,zBE m]
   exact fS _ _
  have P:∀(b:Bool) {Z:aj} {Q':Unit->aj->Prop},Q' () Z->wpAny (model prog w) A (match b with|true=>rule "set.scan.the-table-gave-way"|false=>pure ()) Q' E Z :=
   fun b Z Q' hq=>by cases b<;>first|exact ag hq|exact iw hq
  refine aa (P _ ?_)
  have tail:∀n:cR,n.fits c.size=true->n.led=t.led->n.plain=false->∀wd:Bool,wpAny (model prog w) A (do
    storeSet a c n
    if(!wd&&n.tooFull)=true then do
      (match(relayAll n c (c9 c.size)).2.2 with|true=>rule "set.scan.the-table-gave-way"|false=>pure ())
      storeSet a (relayAll n c (c9 c.size)).1 (relayAll n c (c9 c.size)).2.1
      pure (some true)
     else pure (some true)) (fun r s'=>wpAny (model prog w) A (match r with|some D=>pure D|none=>setAddHashedIn a x (hashStr w k) 99999) Q E s') E s:=by
   intro n f2 l2 p2 wd
   refine aa (f9 W rfl ?_ (cN C))
   have F:=zBF (es':=c) (t':=n) W
   have R:=fF s.heap a (mJ c n)
   split
   ·have T:=relayAll_perm n c (c9 c.size)
    have G:=relayAll_fits n c (c9 c.size)
    have p:=zIG n c (c9 c.size)
    generalize am:relayAll n c (c9 c.size)=Rl at T G p⊢
    obtain⟨H,t3,ab⟩:=Rl
    dsimp only at T G p⊢
    have ac:H.size=c.size:=by rw[<-aN,T.length_eq,aN]
    have U:H.size<scanBound:=by rw[ac];exact C
    refine aa (P _ ?_)
    refine aa (f9 F rfl ?_ (cN U))
    refine ag (ag ?_)
    exact h _ _ H (R.trans (fF _ a _)) ⟨_,t3,zBF F,v.perm T,U,G,(p.1.trans l2).trans u,.inr (p.2 p2)⟩ (.inr ⟨J,(T.map _).trans O⟩)
   ·exact ag (ag (h _ _ c R ⟨_,n,F,v,C,f2,l2.trans u,.inr p2⟩ (.inr ⟨J,O⟩)))
  obtain⟨tk,rfl⟩:=cP m
  by_cases I:Y.plain=true
  ·rw[if_pos I]
   refine aa ?_
   rw[hashByValue_scannable 8 B]
   refine ag ?_
   exact tail {Y with plain:=false} g i.1 rfl f
  ·rw[if_neg I]
   refine aa (ag ?_)
   simp only[↓reduceIte]
   exact tail Y g i.1 (by simpa using I) f
end
def uG (prog:aI)(w:aR)(h:bt)(a:av)(ks:List Str):Prop:=∃es,jK prog w h a es/\(v6 es).Nodup/\(∀x,x∈v6 es↔x∈ks)/\es.size<=ks.length
theorem uG.stay {prog:aI}{w:aR}{h h':bt}{S:av}{ks:List Str}(x:uG prog w h S ks)(e:∀o,h.get? S=some o->h'.get? S=some o):uG prog w h' S ks:=by
 obtain⟨a,⟨ep,t,b,r⟩,q⟩:=x
 exact⟨a,⟨ep,t,e _ b,r⟩,q⟩
section
variable{prog:aI}{w:aR}{A:bF}{R:iY->aj->Prop}{I:av}{fp wr:List av}{G:Array iV->Array iV->Prop}{P:Nat->af->Prop}{St:Nat->aj->Prop}
theorem zIJ {ks:List Str}(W:WalksS prog w A.in1 I fp wr G ks.length P St)(S:av)(B:S∉fp)(F:∀i v,P i v->ck (ks.getD i ⟨#[]⟩) v=true)(O:ks.length+1<scanBound) :
  ∀(m i:Nat) (s:aj),ks.length-i=m->i<=ks.length->St i s->uG prog w s.heap S (ks.take i)->
   (∀s',Moved (S::wr) G s s'->uG prog w s'.heap S ks->R (.ok (.ret .none)) s')->
   codeAny (model prog w) A (.builtin "set.update.loop" ⟨[.ref S,.ref I],[]⟩) R s:=by
 have C:S∉wr:=fun z=>B (W.sub _ z)
 have more:∀b∈wr,b∈S::wr:=fun b z=>au _ z
 intro m
 induction m with
 |zero=>
  intro i s e1 H st x g
  obtain rfl:i=ks.length:=by omega
  refine bP dS ?_
  rw[bI cw _]
  refine aa (m:=pyNext (.ref I)) (W.done s _ _ st fun s' a=>?_)
  rw[ba]at x
  exact ag (g s' (a.mono more) (x.stay fun o h=>a.heap S _ C h))
 |succ m ih=>
  intro i s e1 H st x g
  have lt:i<ks.length:=by omega
  refine bP dS ?_
  rw[bI cw _]
  refine aa (m:=pyNext (.ref I)) (W.item i s _ _ lt st fun v s' J j a=>?_)
  have D:=F i v J
  obtain⟨l,L,nd,mem,sz⟩:=x.stay fun o h=>a.heap S _ C h
  have c:l.size+1<scanBound:=by rw[aW]at sz;omega
  refine aa (m:=holding [v] (setAdd S v)) (bD ?_)
  unfold setAdd
  refine bD (aa ((d6 prog w).pyHash (k:=ks.getD i ⟨#[]⟩) D ?_))
  refine zII (s:={s' with toks:=s'.toks+1}) D L c fun b h' es' E y M=>?_
  have f:ks.take (i+1)=ks.take i++[ks.getD i ⟨#[]⟩]:=by
   rw[aF lt];simp[lt]
  have N:uG prog w h' S (ks.take (i+1)):=by
   rcases M with⟨n,pm⟩|⟨p,pm⟩
   ·have pt:(v6 es').Perm (v6 l):=pm.map _
    refine⟨es',y,pt.nodup_iff.mpr nd,fun z=>?_,?_⟩
    ·rw[pt.mem_iff,mem z,f,b8,bN]
     exact⟨.inl,fun q=>q.elim id fun q=>q▸ (mem _).mp n⟩
    ·have:es'.size=l.size:=by rw[<-aN,pm.length_eq,aN]
     rw[this,f,aD];omega
   ·refine⟨es',y,pm.nodup_iff.mpr (bA.mpr ⟨p,nd⟩),fun z=>?_,?_⟩
    ·rw[pm.mem_iff,aE,mem z,f,b8,bN]
     exact Or.comm
    ·have:=pm.length_eq
     simp only[ak,aN,bf]at this
     rw[this,f,aD,fj];omega
  refine ag ⟨cy cw _,ih (i+1) _ (by omega) lt (W.frame _ s' _ _ j (fx _) fun b r o e=>?_) N fun u d z=>?_⟩
  ·exact(E.2 b (fun q=>B (by rw[<-q];exact r))).trans e
  ·refine g u (om W.gtrans ((a.mono more).then_heap (fx _) fun b o r e=>?_) d) z
   exact(E.2 b (fun q=>r (by rw[q];exact ao))).trans e
end
section
variable{prog:aI}{w:aR}{A:bF}{E:af->aj->Prop}{s:aj}
theorem zIK:isSubtype (.type "tuple") (.type "set")=pure false:=by
 rw[c8];kernel_rfl
theorem zIL:isSubtype (.type "tuple") (.type "frozenset")=pure false:=by
 rw[c8];kernel_rfl
abbrev yC (w:aR):Obj:=yU #[] 0 (.fresh 0 0 (!w.params.followText "set-order"))
theorem zIM (prog:aI)(w:aR){h:bt}{a:av}(e:h.get? a=some (yC w)):uG prog w h a [] :=
 ⟨#[],⟨0,_,e,(fun _ q=>nomatch q),(by unfold scanBound;decide),rfl,rfl,.inl rfl⟩,i0,(fun _=>Iff.rfl),ay _⟩
theorem zDk (a:af){Q₁:af->aj->Prop}(h:Q₁ (.ref s.heap.objs.size) {s with heap:=s.heap.push (yC w)}) :
  codeAny (model prog w) A (.call (.builtin "set.__new__") ⟨[.type "set",a],[]⟩) (wants Q₁ E) s:=by
 refine iI ?_
 show wpAny _ A.in1 (do checkBuiltinCall "set.__new__" ⟨[.type "set",a],[]⟩;again (.builtin "set.__new__" ⟨[.type "set",a],[]⟩)) _ _ s
 refine aa (wpAny_of_eq (F.newCall_set_1 a) (ag ⟨cy mi _,bP F.entry_set_new ?_⟩))
 rw[bI mi _]
 unfold b7.«set.__new__» mK
 have b:=sub_set_self
 obtain⟨c,g,d,tk,os⟩:=s
 dsimp only
 wp_walk
 refine gw (ag ?_)
 dsimp only
 simp only[newObj]
 refine aa (wpAny_alloc (ag ?_))
 exact ag h
end
theorem zDl:Manifest.owners.lookup (String.ofList ['r','o','t','a','r','e','t','i','_','t','e','s'].reverse)=some Manifest.sig_set_iterator:=by kernel_rfl
theorem uI:Slot "set_iterator" "__next__" "set_iterator.__next__" :=
 .of (owner :="set_iterator") (n :="__next__") (by rw[iJ,fm];kernel_rfl) (by decide+kernel) (by decide+kernel) (by decide+kernel)
  (by first|exact .inl (by decide+kernel)|exact .inr (by decide+kernel)) (by rw[c8];kernel_rfl)
theorem zBG:entryFor table "set_iterator.__next__"=some b7.«set_iterator.__next__»:=lQ (by kernel_rfl)
theorem zBH (a:af):argsOk "set_iterator.__next__" ⟨[a],[]⟩:=by
 unfold argsOk;rw[nJ (id :="set_iterator.__next__") (n:=['_','_','t','x','e','n','_','_']) (o:=['r','o','t','a','r','e','t','i','_','t','e','s']) (by kernel_rfl) zDl];kernel_rfl
theorem zDm:Slot "set_iterator" "__iter__" "set_iterator.__iter__" :=
 .of (owner :="set_iterator") (n :="__iter__") (by rw[iJ,fm];kernel_rfl) (by decide+kernel) (by decide+kernel) (by decide+kernel)
  (by first|exact .inl (by decide+kernel)|exact .inr (by decide+kernel)) (by rw[c8];kernel_rfl)
theorem zIN:entryFor table "set_iterator.__iter__"=some b7.«dict_keyiterator.__iter__» :=
 mL (id' :="dict_keyiterator.__iter__") (by kernel_rfl) (by first|rfl|decide+kernel|(unfold mM;simp+decide [lz])) (by decide+kernel) (by kernel_rfl)
theorem zIO (a:af):argsOk "set_iterator.__iter__" ⟨[a],[]⟩:=by
 unfold argsOk;rw[nJ (id :="set_iterator.__iter__") (n:=['_','_','r','e','t','i','_','_']) (o:=['r','o','t','a','r','e','t','i','_','t','e','s']) (by kernel_rfl) zDl];kernel_rfl
theorem zDn:entryFor table "set.__iter__"=some b7.«frozenset.__iter__» :=
 mL (id' :="frozenset.__iter__") (by kernel_rfl) (by first|rfl|decide+kernel|(unfold mM;simp+decide [lz])) (by decide+kernel) (by kernel_rfl)
abbrev uY (f:af)(i:Nat)(a:av)(n ep:Nat):Obj:={cls:=.type "set_iterator",dict:=none,data:=.fields #[f,.int i 0,.ref a,.int n 0,.int ep 0]}
section
variable{prog:aI}{w:aR}{A:bF}{E:af->aj->Prop}{s:aj}
theorem zIP {I a T:av}{i ep:Nat}{b:Array (Int×af)}{t:cR}{pl:List Nat}{e1 j:Nat}{x:Int×af}{Q:Option af->aj->Prop}
  (hi:s.heap.get? I=some (uY (.ref T) i a b.size ep)) (c:s.heap.get? a=some (yU b ep t)) (d:t.fits b.size=true) (e:s.heap.get? T=some (seqObj "tuple" (pl.map fun(i:Nat)=>rawInt i).toArray e1)) (f:pl[i]?=some j) (g:b[j]?=some x)
  (h:∀h',h'.get? I=some (uY (.ref T) (i+1) a b.size ep)->eA I s.heap h'->Q (some x.2) {s with heap:=h'}) :
  wpAny (model prog w) A (pyNext (.ref I)) Q E s:=by
 have ty:s.TypeIs (.ref I) "set_iterator" :=⟨_,hi,rfl⟩
 unfold pyNext
 refine aa (jt (dP (name:=eZ "__next__") ty uI (bR uI ty zBG ?_ (zBH _))))
 unfold b7.«set_iterator.__next__»
 refine aa (m:=slotArgs "__next__" 0 _) (ag ?_)
 refine aa (jg hi rfl ?_)
 dsimp only
 refine aa (dI c rfl d ?_)
 rw[if_neg (by simp)]
 refine aa (ff e rfl ?_)
 have l:((pl.map fun(i:Nat)=>rawInt i).toArray)[((i:Nat):Int).toNat]?=some (.int (j:Int) 0):=by
  rw[cC,fo,az,f];rfl
 dsimp only
 rw[l]
 dsimp only
 unfold setNextDrawn
 refine aa (aa (bM c rfl d ?_))
 dsimp only
 rw[cC,cC,if_neg (by simp),g]
 refine ag ?_
 refine aa (de hi (by simp) fun h' n o=>?_)
 exact ag ⟨_,rfl,ag (h h' (by rw[n];rfl) o)⟩
theorem zDo {Q:Option af->aj->Prop}{R:lO->aj->Prop}(c:A.handled=none)(d:∀h',(∀b o,s.heap.get? b=some o->h'.get? b=some o)->Q none {s with heap:=h'}) :
  wpAny (model prog w) A.in1 (do let e<-newExc (.type "StopIteration") [];raiseNew e) R (fun e s'=>wpAny (model prog w) A (do let b<-isInstance e (.type "StopIteration");if b=true then pure none else throw e) Q E s') s:=by
 refine aa ?_
 simp only[newExc,newTuple]
 refine aa (bC ?_ (by size_fits))
 refine aa (m:=firstArgMember _ _) (wpAny_of_eq (a:=Value.none) (by first|rfl|(simp only[firstArgMember];rfl)) ?_)
 refine bC ?_ (by size_fits)
 simp only[raiseNew]
 refine aa (wpAny_handled ?_)
 rw[show A.in1.handled=none from c]
 refine aa (ag (wpAny_throw ?_))
 refine aa (gv (T :="StopIteration") (b:=true) ⟨_,aw _ rfl,rfl⟩ isSubtype_stop ?_)
 exact ag (d _ fun b o e=>ae _ (ae _ e))
theorem zIQ {I a T:av}{i ep:Nat}{c:Array (Int×af)}{t:cR}{pl:List Nat}{e1:Nat}{Q:Option af->aj->Prop}(h:A.handled=none)
  (hi:s.heap.get? I=some (uY (.ref T) i a c.size ep)) (j:s.heap.get? a=some (yU c ep t)) (l:t.fits c.size=true) (n:s.heap.get? T=some (seqObj "tuple" (pl.map fun(i:Nat)=>rawInt i).toArray e1)) (p:pl[i]?=none)
  (q:∀h',(∀b o,b≠I->s.heap.get? b=some o->h'.get? b=some o)->Q none {s with heap:=h'}) :
  wpAny (model prog w) A (pyNext (.ref I)) Q E s:=by
 have ty:s.TypeIs (.ref I) "set_iterator" :=⟨_,hi,rfl⟩
 unfold pyNext
 refine aa (jt (dP (name:=eZ "__next__") ty uI (bR uI ty zBG ?_ (zBH _))))
 unfold b7.«set_iterator.__next__»
 refine aa (m:=slotArgs "__next__" 0 _) (ag ?_)
 refine aa (jg hi rfl ?_)
 dsimp only
 refine aa (dI j rfl l ?_)
 rw[if_neg (by simp)]
 refine aa (ff n rfl ?_)
 have r:((pl.map fun(i:Nat)=>rawInt i).toArray)[((i:Nat):Int).toNat]?=none:=by
  rw[cC,fo,az,p];rfl
 dsimp only
 rw[r]
 dsimp only
 refine aa (de hi (by simp) fun u v d=>?_)
 refine aa (de (s:={s with heap:=u}) v (by simp) fun x z f=>?_)
 refine zDo (s:={s with heap:=x}) h fun y ex=>q y fun b o g e=>ex b o ?_
 exact(f.2 b g).trans ((d.2 b g).trans e)
theorem kJ {Q:Bool->aj->Prop}(h:Q (w.params.followText "set-order") s):wpAny (model prog w) A setsByText Q E s:=by
 unfold setsByText
 exact aa (gw (ag h))
theorem zIR {a:av}{ep:Nat}{b:Array (Int×af)}{t:cR}{Q:Array (Int×af)->aj->Prop}(c:s.heap.get? a=some (yU b ep t))(d:t.fits b.size=true)(e:w.params.followText "set-order"=true)(h:Q (pickOrder (w.params.setOrder a ep) b) s) :
  wpAny (model prog w) A (setWalk a) Q E s:=by
 unfold setWalk
 refine aa (bM c rfl d ?_)
 dsimp only
 refine aa (kJ ?_)
 rw[e]
 exact aa (gw (ag h))
theorem gR {I a:av}{f i ep:Nat}{d:Array (Int×af)}{t:cR}{r:Option (af×Nat)}{Q:Option af->aj->Prop}(q:A.handled=none)
  (hi:s.heap.get? I=some (uY (.int f 0) i a d.size ep)) (u:s.heap.get? a=some (yU d ep t)) (v:t.fits d.size=true)
  (y:∀(A:bF) (E:af->aj->Prop) (Q:Option (af×Nat)->aj->Prop),Q r s->wpAny (model prog w) A (setNext a f i ep) Q E s)
  (g:∀x j,r=some (x,j)->∀h',h'.get? I=some (uY (.int j 0) (i+1) a d.size ep)->eA I s.heap h'->Q (some x) {s with heap:=h'})
  (h:r=none->∀h',(∀b o,b≠I->s.heap.get? b=some o->h'.get? b=some o)->Q none {s with heap:=h'}) :
  wpAny (model prog w) A (pyNext (.ref I)) Q E s:=by
 have ty:s.TypeIs (.ref I) "set_iterator" :=⟨_,hi,rfl⟩
 unfold pyNext
 refine aa (jt (dP (name:=eZ "__next__") ty uI (bR uI ty zBG ?_ (zBH _))))
 unfold b7.«set_iterator.__next__»
 refine aa (m:=slotArgs "__next__" 0 _) (ag ?_)
 refine aa (jg hi rfl ?_)
 dsimp only
 refine aa (dI u rfl v ?_)
 rw[if_neg (by simp)]
 rw[cC,cC,cC]
 refine aa (y _ _ _ ?_)
 match r,g,h with
 |none,_,h=>
  dsimp only
  refine aa (de hi (by simp) fun l p c=>?_)
  exact zDo (s:={s with heap:=l}) q fun z ex=>h rfl z fun b o B e=>ex b o ((c.2 b B).trans e)
 |some (x,j),g,_=>
  dsimp only
  refine aa (de hi (by simp) fun l p c=>?_)
  refine aa (de (s:={s with heap:=l}) p (by simp) fun C D n=>?_)
  exact ag ⟨_,rfl,ag (g x j rfl C (by rw[D];rfl) (c.trans n))⟩
theorem zDp {a:av}{f i ep:Nat}{b:Array (Int×af)}{t:cR}{Q:Option (af×Nat)->aj->Prop}(c:s.heap.get? a=some (yU b ep t))(d:t.fits b.size=true)(g:w.params.followText "set-order"=true)
  (h:Q (((pickOrder (w.params.setOrder a ep) b)[i]?).map fun e=>(e.2,f)) s):wpAny (model prog w) A (setNext a f i ep) Q E s:=by
 unfold setNext
 refine aa (bM c rfl d ?_)
 dsimp only
 refine aa (kJ ?_)
 rw[g,if_pos rfl,if_neg (by simp)]
 refine aa (zIR c d g ?_)
 exact ag h
theorem zDq {a:av}{f i ep:Nat}{b:Array (Int×af)}{t:cR}{Q:Option (af×Nat)->aj->Prop}(d:s.heap.get? a=some (yU b ep t))(e:t.fits b.size=true)(g:w.params.followText "set-order"=false)(hl:t.led=true)(l:b.size<=1)
  (h:Q (match b[aL t.place f]?,t.place[aL t.place f]? with|some (_,x),some j=>some (x,j+1)|_,_=>none) s):wpAny (model prog w) A (setNext a f i ep) Q E s:=by
 unfold setNext
 refine aa (bM d rfl e ?_)
 dsimp only
 refine aa (kJ ?_)
 rw[g,if_neg (by decide)]
 refine dv (fun hd=>?_) (fun _=>?_)
 ·have c:(!t.plain&&decide (b.size>1))=true:=hd
  simp only[cG,decide_eq_true_eq]at c
  omega
 ·show wpAny _ _ ((if(!t.led&&!b.isEmpty)=true then unsupported "set:maker-not-led"else pure ())>>=_) _ _ _
  rw[hl,if_neg (by simp)]
  exact aa (ag (ag h))
theorem zBI {α:Type}:∀{l:List α}{i:Nat} (h:i<l.length),(l[i]::l.eraseIdx i).Perm l
 |x::l,0,h=>cM _
 |x::l,i+1,h=>by
  have q:=zBI (l:=l) (i:=i) (by simpa using h)
  exact(List.Perm.swap ..).trans (q.cons x)
theorem gS {α:Type}(next:Nat->Nat)(xs:Array α):(pickOrder next xs).toList.Perm xs.toList:=by
 have go:∀(a k:Nat) (left:List α) (b:Array α),left.length=a->(lA next a k left b).toList.Perm (b.toList++left):=by
  intro a
  induction a with
  |zero=>
   intro k left b e
   rw[eT.mp e]
   simp[lA]
  |succ a ih=>
   intro k left b e
   have lt:next k%left.length<left.length:=eP _ (by omega)
   unfold lA
   rw[aC lt]
   dsimp only
   refine(ih _ _ _ (by rw[fT lt,e];rfl)).trans ?_
   rw[fX,dw]
   refine n5 _ ?_
   exact zBI lt
 have:=go xs.size 0 xs.toList #[] rfl
 simpa [pickOrder]using this
theorem zIS {a:Source}{n:Nat}{Q:Nat->aj->Prop}(b:0<n)(h:∀d r,r<n->Q r {s with drawn:=d}):wpAny (model prog w) A (choose a n) Q E s :=
 fun Γ p c=>⟨cT b,h _ _ (eP _ b)⟩
theorem zBJ {α:Type}:∀(n:Nat) (xs:List α) {s:aj}{Q:List α->aj->Prop},xs.length=n->(∀d ord,ord.Perm xs->Q ord {s with drawn:=d})->wpAny (model prog w) A (drawOrder n xs) Q E s
 |0,xs,s,Q,e,h=>by
  rw[eT.mp e]at h
  unfold drawOrder
  have:s={s with drawn:=s.drawn}:=rfl
  exact ag (h s.drawn [] (cM _))
 |n+1,[],s,Q,e,h=>by cases e
 |n+1,x::xs,s,Q,e,h=>by
  unfold drawOrder
  refine aa (zIS (by rw[e];omega) fun d r a=>?_)
  rw[aC a]
  dsimp only
  refine aa (zBJ n _ (by rw[fT a,e];rfl) fun b ord pm=>?_)
  refine ag (h b _ ?_)
  exact(pm.cons _).trans (zBI a)
theorem zBK {I:av}{f:af}{i:Nat}{a:av}{n ep:Nat}{Q:af->aj->Prop}(hi:s.heap.get? I=some (uY f i a n ep))(h:Q (.ref I) s):wpAny (model prog w) A (pyIter (.ref I)) Q E s:=by
 have ty:s.TypeIs (.ref I) "set_iterator" :=⟨_,hi,rfl⟩
 refine gb ty zDm (bR zDm ty zIN ?_ (zIO _))
 show wpAny _ _ (ret (.ref I)) _ _ s
 exact ag ⟨_,rfl,"set_iterator",_,ty,uI.lookup,h⟩
theorem zDr {I a:av}{ep:Nat}{c:Array (Int×af)}{t:cR}(n:A.handled=none)(ne:a≠I)(l:t.fits c.size=true)(d:w.params.followText "set-order"=true) :
  og prog w A I [I,a] [I] c.size (fun i v=>((pickOrder (w.params.setOrder a ep) c).toList.map (·.2))[i]?=some v) (fun i h=>h.get? I=some (uY (.int 0 0) i a c.size ep)/\h.get? a=some (yU c ep t)) where
 sub:=fun b d=>by simp at d;simp[d]
 frame:=fun _ _ _ st p=>⟨p I (by simp) _ st.1,p a (by simp) _ st.2⟩
 item:=fun i s Q E lt st g=>by
  have m:(pickOrder (w.params.setOrder a ep) c).size=c.size:=by rw[<-aN,(gS _ c).length_eq,aN]
  have u:i<(pickOrder (w.params.setOrder a ep) c).size:=by rw[m];exact lt
  refine gR (f:=0) (r:=some ((pickOrder (w.params.setOrder a ep) c)[i].2,0)) n st.1 st.2 l (fun A E Q q=>zDp st.2 l d (by rw[bu u];exact q)) (fun x j e h' e1 y=>?_) (fun e=>nomatch e)
  injection e with e
  injection e with z B
  subst z B
  refine g _ h' s.toks ?_ ⟨e1,(y.2 a ne).trans st.2⟩ fun b o d e=>(y.2 b (by simpa using d)).trans e
  rw[az,dh,bu u];rfl
 done:=fun s Q E st g=>by
  have m:(pickOrder (w.params.setOrder a ep) c).size=c.size:=by rw[<-aN,(gS _ c).length_eq,aN]
  refine gR (f:=0) (r:=none) n st.1 st.2 l (fun A E Q q=>zDp st.2 l d (by rw[iy (by rw[m];exact ay _)];exact q)) (fun _ _ e=>nomatch e) (fun _ h' k=>?_)
  exact g h' s.toks fun b o d e=>k b o (by simpa using d) e
 self:=fun _ _ _ _ st g=>zBK st.1 g
theorem zDs {I a T:av}{ep e1:Nat}{c:Array (Int×af)}{t:cR}{pl:List Nat}(q:A.handled=none)(ne:a≠I)(nt:T≠I)(n:t.fits c.size=true)(hl:pl.length=c.size)(r:∀j∈pl,j<c.size) :
  og prog w A I [I,a,T] [I] c.size (fun i v=>(pl.map fun j=>(c.getD j (0,.none)).2)[i]?=some v) (fun i h=>h.get? I=some (uY (.ref T) i a c.size ep)/\h.get? a=some (yU c ep t)/\h.get? T=some (seqObj "tuple" (pl.map fun(i:Nat)=>rawInt i).toArray e1)) where
 sub:=fun b d=>by simp at d;simp[d]
 frame:=fun _ _ _ st g=>⟨g I (by simp) _ st.1,g a (by simp) _ st.2.1,g T (by simp) _ st.2.2⟩
 item:=fun i s Q E lt st f=>by
  have l:i<pl.length:=by rw[hl];exact lt
  have p:pl[i]<c.size:=r _ (cg l)
  refine zIP (j:=pl[i]) (x:=c[pl[i]]) st.1 st.2.1 n st.2.2 (aC l) (bu p) fun h' u m=>?_
  refine f _ h' s.toks ?_ ⟨u,(m.2 a ne).trans st.2.1,(m.2 T nt).trans st.2.2⟩ fun b o d e=>(m.2 b (by simpa using d)).trans e
  rw[az,aC l]
  simp[p]
 done:=fun s Q E st f=>zIQ q st.1 st.2.1 n st.2.2 (fk (by rw[hl];exact ay _)) fun h' k=>f h' s.toks fun b o d e=>k b o (by simpa using d) e
 self:=fun _ _ _ _ st f=>zBK st.1 f
theorem zIT (j:Nat):aL #[j] (j+1)=1:=by
 unfold aL
 simp[lB]
theorem zIU (j:Nat):aL #[j] 0=0:=by
 unfold aL
 simp[lB]
theorem zDt {I a:av}{ep:Nat}{es:Array (Int×af)}{t:cR}(hh:A.handled=none)(ne:a≠I)(hf:t.fits es.size=true)(hb:w.params.followText "set-order"=false)(hl:t.led=true)(h1:es.size<=1) :
  og prog w A I [I,a] [I] es.size (fun i v=>(es.toList.map (·.2))[i]?=some v) (fun i h=>h.get? I=some (uY (.int ((if i=0 then 0 else t.place.getD 0 0+1:Nat):Int) 0) i a es.size ep)/\h.get? a=some (yU es ep t)) where
 sub:=fun b hb=>by simp at hb;simp[hb]
 frame:=fun _ _ _ st hk=>⟨hk I (by simp) _ st.1,hk a (by simp) _ st.2⟩
 item:=fun i s Q E lt st hQ=>by
  obtain rfl:i=0:=by omega
  have z1:es.size=1:=by omega
  have pz:t.place.size=1:=by
   simp only[ju,cG,beq_iff_eq]at hf
   rw[hf.1,z1]
  obtain⟨j,hj⟩ : ∃j,t.place= #[j] :=⟨t.place[0],by apply Array.ext<;>simp[pz];intro i hi;have : i=0 :=by omega
                                                   subst this;rfl⟩
  have li:0<es.size:=by omega
  refine gR (f:=0) (r:=some (es[0].2,j+1)) hh st.1 st.2 hf (fun A E Q q=>zDq st.2 hf hb hl h1 (by rw[hj,zIU,bu li];exact q)) (fun x j' e h' e1 sb=>?_) (fun e=>nomatch e)
  injection e with e
  injection e with e2 e3
  subst e2 e3
  refine hQ _ h' s.toks ?_ ⟨?_,(sb.2 a ne).trans st.2⟩ fun b o hb e=>(sb.2 b (by simpa using hb)).trans e
  ·rw[az,dh,bu li];rfl
  ·rw[e1,hj];rfl
 done:=fun s Q E st hQ=>by
  have nx:(match es[aL t.place (if es.size=0 then 0 else t.place.getD 0 0+1)]?,t.place[aL t.place (if es.size=0 then 0 else t.place.getD 0 0+1)]? with|some (_,x),some j=>some (x,j+1)|_,_=>(none:Option (af×Nat)))=none:=by
   have hz:t.place.size=es.size:=by
    simp only[ju,cG,beq_iff_eq]at hf
    exact hf.1
   by_cases z:es.size=0
   ·have:es=#[]:=Array.size_eq_zero_iff.mp z
    subst this
    simp
   ·have z1:es.size=1:=by omega
    obtain⟨j,hj⟩ : ∃j,t.place= #[j] :=⟨t.place[0],by apply Array.ext<;>simp[hz,z1];intro i hi;have : i=0 :=by omega
                                                     subst this;rfl⟩
    rw[if_neg z,hj]
    have e4:(#[j]:Array Nat).getD 0 0=j:=rfl
    rw[e4,zIT,iy (by rw[z1];exact ay _)]
  refine gR (r:=none) hh st.1 st.2 hf (fun A E Q q=>zDq st.2 hf hb hl h1 (by rw[nx];exact q)) (fun _ _ e=>nomatch e) (fun _ h' k=>?_)
  exact hQ h' s.toks fun b o hb e=>k b o (by simpa using hb) e
 self:=fun _ _ _ _ st hQ=>zBK st.1 hQ
theorem zIV {a:av}{c:Array (Int×af)}{Q:af->aj->Prop}(y:A.handled=none)(G:jK prog w s.heap a c)
  (B:∀(I:av) (g:bt) (d:Drawn) (ord:List af) (fp:List av) (St:Nat->bt->Prop),ord.Perm (c.toList.map (·.2))->og prog w A I fp [I] c.size (fun i v=>ord[i]?=some v) St->St 0 g->s.heap.objs.size<=I->(∀b∈fp,b=a\/s.heap.objs.size<=b)->
   (∀b∈fp,b<g.objs.size)->(∀b o,s.heap.get? b=some o->g.get? b=some o)->Q (.ref I) {s with heap:=g,drawn:=d}) :
  wpAny (model prog w) A (pyIter (.ref a)) Q E s:=by
 obtain⟨ep,t,h,H,C,l,q,D⟩:=id G
 have ty:s.TypeIs (.ref a) "set" :=⟨_,h,rfl⟩
 have x:a<s.heap.objs.size:=aA h
 refine gb ty d9 (bR d9 ty zDn ?_ (gx _))
 unfold b7.«frozenset.__iter__» gy gh
 refine aa (aa (m:=slotArgs "__iter__" 0 _) (ag (ag ?_)))
 refine aa (aa (dI h rfl l (ag ?_)))
 unfold setDrawn
 refine aa (aa (bM h rfl l ?_))
 dsimp only
 refine aa (kJ (ag ?_))
 have F:c.size<=sizeLine:=cN C
 refine dv (fun hd=>?_) (fun hd=>?_)
 ·refine aa (zBJ c.size (aS c.size) (by simp) fun d pl pm=>?_)
  have pl_len:pl.length=c.size:=by rw[pm.length_eq,bL]
  refine aa (ja ?_ (by rw[ak,pl_len];exact F))
  have r:(s.heap.push (seqObj "tuple" (pl.map fun(i:Nat)=>rawInt i).toArray 0)).get? a=some (yU c ep t):=ae _ h
  refine aa (fh r rfl l ?_)
  refine aa (bC (ag ⟨_,rfl,"set_iterator",_,⟨_,aw _ rfl,rfl⟩,uI.lookup,B _ _ d _ _ _ ?pm (zDs (a:=a) (T:=s.heap.objs.size) (t:=t) (ep:=ep) (e1:=0) (pl:=pl) y ?ne ?nt l pl_len fun j J=>bp.mp (pm.mem_iff.mp J)) ?st ?ge ?fp ?lt ?kp⟩))
  case pm=>
   refine(pm.map _).trans ?_
   rw[show(aS c.size).map (fun j=>(c.getD j (0,Value.none)).2)=c.toList.map (·.2)from ?_]
   apply bS
   ·simp
   ·intro i g L
    have hi:i<c.size:=by simpa using g
    simp[hi]
  case ne=>show a≠(s.heap.push _).objs.size;rw[aT];exact aG (aZ x)
  case nt=>show s.heap.objs.size≠(s.heap.push _).objs.size;rw[aT];exact aG (bB _)
  case st=>exact⟨aw _ rfl,ae _ r,ae _ (aw _ rfl)⟩
  case ge=>show s.heap.objs.size<=(s.heap.push _).objs.size;rw[aT];exact fx _
  case fp=>
   intro b f
   simp only[aE,bK,or_false]at f
   rcases f with rfl|rfl|rfl
   ·right;show s.heap.objs.size<=(s.heap.push _).objs.size;rw[aT];exact fx _
   ·exact .inl rfl
   ·exact .inr (ay _)
  case lt=>
   intro b f
   simp only[aE,bK,or_false]at f
   rw[aT]
   rcases f with rfl|rfl|rfl
   ·exact bB _
   ·rw[aT];exact aZ (aZ x)
   ·rw[aT];exact aZ (bB _)
  case kp=>exact fun b o e=>ae _ (ae _ e)
 ·refine aa (ag ?_)
  refine aa (fh h rfl l ?_)
  refine aa (bC (ag ⟨_,rfl,"set_iterator",_,⟨_,aw _ rfl,rfl⟩,uI.lookup,?_⟩))
  have ne:a≠s.heap.objs.size:=aG x
  have u:∀b∈[s.heap.objs.size,a],b=a\/s.heap.objs.size<=b:=fun b f=>by
   simp only[aE,bK,or_false]at f
   rcases f with rfl|rfl
   ·exact .inr (ay _)
   ·exact .inl rfl
  have flt:∀(o:Obj),∀b∈[s.heap.objs.size,a],b<(s.heap.push o).objs.size:=fun o b f=>by
   simp only[aE,bK,or_false]at f
   rw[aT]
   rcases f with rfl|rfl
   ·exact bB _
   ·exact aZ x
  by_cases f:w.params.followText "set-order"=true
  ·exact B _ _ s.drawn _ _ _ ((gS _ c).map _) (zDr (a:=a) (ep:=ep) (t:=t) y ne l f) ⟨aw _ rfl,ae _ h⟩ (ay _) u (flt _) fun b o e=>ae _ e
  ·have n:w.params.followText "set-order"=false:=by simpa using f
   have g:c.size<=1:=by
    have p:¬(!w.params.followText "set-order"&& (!t.plain&&decide (c.size>1)))=true:=hd
    rw[n]at p
    rcases D with z|z
    ·omega
    ·rw[z]at p
     simpa using p
   have hl:t.led=true:=by rw[q,n];rfl
   exact B _ _ s.drawn _ _ _ (cM _) (zDt (a:=a) (ep:=ep) (t:=t) y ne l n hl g) ⟨aw _ rfl,ae _ h⟩ (ay _) u (flt _) fun b o e=>ae _ e
theorem zIW:typeLookup (.type "set") "__len__"=pure (some (.builtin "set.__len__")):=by rw[iJ,fm];kernel_rfl
theorem zDu {r:av}{Q:Bool->aj->Prop}(d:s.TypeIs (.ref r) "set")(h:Q false s):wpAny (model prog w) A (fI (.ref r)) Q E s:=by
 unfold fI
 refine aa (iE d zIW ?_)
 generalize c:("set.__len__" : String)=e
 wp_delta
 rw[show splitId e=some ("set","__len__")from by subst c;decide+kernel]
 subst c
 refine aa (gv (T :="set") (b:=true) d (by rw[c8];kernel_rfl) ?_)
 refine dv (fun a=>absurd a (by decide)) (fun _=>?_)
 refine dv (fun _=>?_) (fun a=>absurd (by decide+kernel) a)
 refine aa (eC d ?_)
 exact ag h
theorem zIX {a:av}{es:Array (Int×af)}{R:List af->aj->Prop}(hh:A.handled=none)(hS:jK prog w s.heap a es)
  (h:∀h' tk d ord,ord.Perm (es.toList.map (·.2))->(∀b o,s.heap.get? b=some o->h'.get? b=some o)->R ord {s with heap:=h',toks:=tk,drawn:=d}) :
  wpAny (model prog w) A (collect (.ref a)) R E s:=by
 obtain⟨ep,t,ho,hel,hbd,hf,hled,hpl⟩:=id hS
 have la:a<s.heap.objs.size:=aA ho
 unfold collect
 refine aa (fU (bP fJ ?_))
 rw[bI fK _]
 show wpAny _ A.in1 (newList []>>=fun l=>again (.builtin "list.__iadd__" ⟨[l,.ref a],[]⟩)) _ _ s
 refine aa (bC ?_)
 refine ag ⟨cy dU _,bP gz ?_⟩
 rw[bI dU _]
 show wpAny _ A.in1 (cX (.ref s.heap.objs.size) (.ref a) (.ref s.heap.objs.size)) _ _ _
 have ho1:(s.heap.push {cls:=.type "list",data:=.seq ([]:List af).toArray}).get? a=some (yU es ep t):=ae _ ho
 have hS1:jK prog w (s.heap.push {cls:=.type "list",data:=.seq ([]:List af).toArray}) a es:=⟨ep,t,ho1,hel,hbd,hf,hled,hpl⟩
 have hL:(s.heap.push {cls:=.type "list",data:=.seq ([]:List af).toArray}).get? s.heap.objs.size=some {cls:=.type "list",data:=.seq #[]}:=aw _ rfl
 unfold cX
 refine aa (eC (T :="set") ⟨_,ho1,rfl⟩ ?_)
 have ne:s.heap.objs.size≠a:=cT la
 have q1:dE (.ref s.heap.objs.size) (.ref a)=false:=by simp[dE,ne]
 rw[if_neg (by rw[q1];decide)]
 refine aa (zIV (A:=A.in1) (s:={s with heap:=s.heap.push {cls:=.type "list",data:=.seq ([]:List af).toArray}}) hh hS1 fun I h1 d ord fp St pm W st ge fpo flt kp=>?_)
 dsimp only at ge fpo kp
 rw[aT]at ge fpo
 have nf:s.heap.objs.size∉fp:=fun z=>by
  rcases fpo _ z with e|e
  ·exact ne e
  ·exact bG _ e
 have hn:es.size<=sizeLine:=cN hbd
 have ol:ord.length=es.size:=by rw[pm.length_eq,ak,aN]
 have key:∀(g:bt) (c₁:Nat),St 0 g->(∀b o,b≠s.heap.objs.size->h1.get? b=some o->g.get? b=some o)->g.get? s.heap.objs.size=some {cls:=.type "list",data:=.seq #[] c₁}->
   codeAny (model prog w) A (.builtin "list.extend.loop" ⟨[.ref s.heap.objs.size,.ref I,.ref s.heap.objs.size],[]⟩) (fun q s'=>∃(h':bt) (tk:Nat) (acc:Array af) (c':Nat),q=.ok (.ret (.ref s.heap.objs.size))/\s'={s with heap:=h',toks:=tk,drawn:=d}/\
    (∀b o,s.heap.get? b=some o->h'.get? b=some o)/\h'.get? s.heap.objs.size=some {cls:=.type "list",dict:=none,data:=.seq acc c',slots:=#[]}/\acc.toList=ord) {s with heap:=g,drawn:=d}:=by
  intro g c₁ hst hk hg
  refine jh W.toS hn _ nf _ es.size 0 _ #[] c₁ rfl (bH _) hst hg (oo _) fun s' acc' c' hm hS' hacc=>?_
  have e1:acc'.toList=ord:=by
   apply bS
   ·rw[aN,hacc.1,ol]
   ·intro i i1 i2
    have:ord[i]?=some (acc'[i]'(by simpa using i1)):=hacc.2 i _ (bu (by simpa using i1))
    rw[aC i2]at this
    injection this with this
    simpa using this.symm
  refine⟨s'.heap,s'.toks,acc',c',rfl,js hm,fun b o e=>?_,hS',e1⟩
  have nb:b≠s.heap.objs.size:=aG (aA e)
  refine hm.heap b o (fun z=>?_) (hk b o nb (kp b o (ae _ e)))
  rcases aE.mp z with e'|z
  ·exact nb e'
  ·rw[bN.mp z]at e
   exact absurd (aA e) (oE.mpr (lC ge))
 have fin : ∀(q : Result) (s' : Shared),(∃(h' : Heap) (tk : Nat) (acc : Array Value) (c' : Nat),q= .ok (.ret (.ref s.heap.objs.size))/\s'={s with heap :=h',toks :=tk,drawn :=d}/\
       (∀b o,s.heap.get? b=some o->h'.get? b=some o)/\h'.get? s.heap.objs.size=some {cls:=.type "list",dict:=none,data:=.seq acc c',slots:=#[]}/\acc.toList=ord)->
   q=.ok (.ret (.ref s.heap.objs.size))/\wpAny (model prog w) A (load s.heap.objs.size>>=fun o=>match o.data with| .seq xs _=>pure xs.toList|_=>unsupported "internal:collect") R E s':=by
  rintro q s' ⟨h',tk,acc,c',rfl,rfl,kk,hg,e1⟩
  refine⟨rfl,aa (mw hg ?_)⟩
  show wpAny _ _ (pure acc.toList) _ _ _
  rw[e1]
  exact ag (h h' tk d ord pm kk)
 have hL1:=kp _ _ hL
 have hoa:=kp _ _ ho1
 refine aa (bD (zDu (s:={s with heap:=h1,drawn:=d}) ⟨_,hoa,rfl⟩ ?_))
 refine dv (fun _=>?_) (fun _=>ag ⟨cy dt _,cI (key h1 _ st (fun b o _ e=>e) hL1) fun q s' y=>?_⟩)
 ·refine aa (iw ?_)
  refine aa ?_
  show wpAny _ _ (updateSeq s.heap.objs.size (·.push .none)>>=fun _=>updateSeq s.heap.objs.size (·.pop)) _ _ _
  refine aa (fB hL1 rfl ?_)
  have hL2:=dj (cn (·.push Value.none)) hL1 rfl
  refine fB (hz:=by seq_fits) hL2 rfl ?_
  have hL3:=dj (cn (·.pop)) hL2 rfl
  refine ag ⟨cy dt _,cI (key _ _ ?_ (fun b o hb e=>?_) hL3) fun q s' y=>?_⟩
  ·refine W.frame 0 _ _ st fun b hb o e=>?_
   have hbS:b≠s.heap.objs.size:=fun z=>nf (z▸hb)
   exact(bq _ _ (dg hbS)).trans ((bq _ _ (dg hbS)).trans e)
  ·exact(bq _ _ (dg hb)).trans ((bq _ _ (dg hb)).trans e)
  ·obtain⟨rfl,y2⟩:=fin q s' y
   exact y2
 ·obtain⟨rfl,y2⟩:=fin q s' y
  exact y2
end
section
open MyS PySem.W
variable{X:Cx}{pins:List (av×Obj)}{σ:List (Option V)}{H:Hp}{s:aj}
theorem Inv.draw {h':bt}{tk:Nat}{d:Drawn}(I:Inv X pins σ H {s with heap:=h',toks:=tk}):Inv X pins σ H {s with heap:=h',toks:=tk,drawn:=d} :=
 ⟨I.ok,I.os,I.bare,I.base,I.loc,I.cell,I.free,I.freeC,I.pin,I.hok,I.len⟩
theorem Inv.grown {h':bt}{tk:Nat}(I:Inv X pins σ H s)(k:∀b u,s.heap.get? b=some u->h'.get? b=some u):Inv X pins σ H {s with heap:=h',toks:=tk} :=
 I.un (Un.kept k) (I.hok.kept k)
theorem zIY (W:X.calm=true){a:av}{ks:List Str}{Q:VK}(I:Inv X pins σ H s)(D:uG X.prog X.w s.heap a ks)(Y:ks.length<64)
  (q:∀(f:List Str) (l:av),(∀x,x∈f↔x∈ks)->f.Pairwise (fun a b=>a.cps.toList<b.cps.toList)->H l=none->Q (.ref l) (upd H l (.lst (f.map V.str)))) :
  wpAny (model X.prog X.w) X.A (call (.builtin "sorted") [.ref a]) (EP X pins σ Q) X.xe s:=by
 obtain⟨N,O,nd,mem,sz⟩:=D
 refine dq jb ij ik (il _) ?_
 unfold b7.«sorted»
 refine aa (m:=checkCount "sorted" 1 1 _) (ag ?_)
 refine aa (zIX (A:=X.A.in1) (I.ok.hd W) O fun h' tk d ord pm Z=>?_)
 have P:Inv X pins σ H {s with heap:=h',toks:=tk,drawn:=d}:=(I.grown Z).draw
 obtain⟨ep,t,ho,E,_⟩:=O
 have c:∀v∈ord,∃x u,v=Value.str x u:=fun v F=>by
  obtain⟨e,he,rfl⟩:=aB.mp (pm.mem_iff.mp F)
  obtain⟨⟨k,G,_⟩,_⟩:=E e he
  obtain⟨u,R⟩:=cP G
  exact⟨k,u,R⟩
 have D:mm ord (ord.map y8):=by
  have go:∀l:List af,(∀v∈l,∃x u,v=Value.str x u)->mm l (l.map y8):=by
   intro l
   induction l with
   |nil=>intro _;exact .nil
   |cons v l ih=>
    intro hl
    obtain⟨x,u,rfl⟩:=hl v (ao ..)
    exact .cons _ _ (ih fun v F=>hl v (au _ F))
  exact go ord c
 have pt:(ord.map y8).Perm (v6 N):=by
  have:=pm.map y8
  rw[aO]at this
  exact this
 have J:(ord.map y8).Nodup:=pt.nodup_iff.mpr nd
 have ol:ord.length=N.size:=by rw[pm.length_eq,ak,aN]
 have h:ord.length<64:=by omega
 refine aa (ft ?_ (by rw[aV];omega))
 dsimp only
 generalize C:h'.objs.size=B
 have n:(h'.push {cls:=.type "list",data:=.seq ord.toArray}).get? B=some (seqObj "list" ord.toArray 0):=by
  rw[<-C];exact aw _ rfl
 have old:∀b o,h'.get? b=some o->(h'.push {cls:=.type "list",data:=.seq ord.toArray}).get? b=some o/\b≠B:=fun b o e=>⟨ae _ e,by rw[<-C];exact aG (aA e)⟩
 refine aa (bD (bR fP ⟨_,n,rfl⟩ fz (sort_strs (ks:=ord.map y8) n D J h fun p T R g r L M=>⟨_,rfl,?_⟩) (fQ _)))
 refine ag ⟨_,rfl,?_⟩
 have y:∀b o,h'.get? b=some o->T.get? b=some o:=fun b o e=>L b o (old _ _ e).2 (old _ _ e).1
 refine⟨.ref B,_,P.laid (t':=tk) (o:=.lst ((p.map fun i=>(ord.map y8).getD i ⟨#[]⟩).map V.str)) y (cH C) ⟨?_,_,_,?_,M⟩,rfl,q _ B ?_ ?_ (P.hok.fresh (cH C))⟩
 ·rw[ak,ak,g.length_eq,bL,aV];omega
 ·have go:∀l:List Nat,(∀i∈l,i<ord.length)->zF ((l.map fun i=>(ord.map y8).getD i ⟨#[]⟩).map V.str) (l.map fun i=>ord.getD i Value.none):=by
   intro l
   induction l with
   |nil=>intro _;exact .nil
   |cons i l ih=>
    intro z
    have hi:i<ord.length:=z i (ao ..)
    refine .cons ?_ (ih fun j hj=>z j (au _ hj))
    obtain⟨x,u,e⟩:=c ord[i] (cg hi)
    have a1:ord.getD i Value.none=Value.str x u:=by simp[hi,e]
    have a2:(ord.map y8).getD i ⟨#[]⟩=x:=by simp[hi,e,y8]
    show zI (V.str ((ord.map y8).getD i ⟨#[]⟩)) (ord.getD i Value.none)
    rw[a1,a2]
    exact⟨_,rfl⟩
  exact go p fun i hi=>bp.mp (g.mem_iff.mp hi)
 ·intro x
  have e1:(aS ord.length).map (fun i=>(ord.map y8).getD i (⟨#[]⟩:Str))=ord.map y8:=by
   apply bS
   ·simp
   ·intro i h1 T
    have hi:i<ord.length:=by simpa using h1
    simp[hi]
  have U:=g.map (fun i=>(ord.map y8).getD i (⟨#[]⟩:Str))
  rw[e1]at U
  rw[U.mem_iff,pt.mem_iff]
  exact mem x
 ·rw[aQ]
  rw[aQ]at r
  exact r
end
def zY (P:List Nat)(L pl:Bool):cR:={mask:=7,place:=P.toArray,dummies:=#[],finger:=0,led:=L,moves:=0,plain:=pl}
def zDv:List Nat->List (List Nat)
 | []=>[[]]
 |a::r=>(zDv r).flatMap fun l=>[l,a::l]
def jL:List (List Nat):=(zDv [0,1,2,3,4,5,6,7]).filter fun l=>decide (l.length<=4)
def lcg:Nat->Nat->Nat
 |0,i=>i
 |k+1,i=>lcg k ((i*5+1)%8)
def uJ (P:List Nat)(j:Nat):Bool:=(zY P true true).slot j== .empty
theorem zIZ:∀P∈jL,P.length<=3->∀i∈aS 8,(aS 8).any (fun k=>uJ P (lcg k i))=true:=by decide+kernel
theorem zIa:∀P∈jL,P.length<=3->∀j∈aS 8,uJ P j=true->(P.take (aL P.toArray j)++j::P.drop (aL P.toArray j))∈jL/\aL P.toArray j<=P.length:=by decide+kernel
theorem zIb (P:List Nat)(L pl:Bool)(j:Nat):(zY P L pl).slot j≠.dummy:=by
 unfold nK zY
 dsimp only
 split
 ·intro z;cases z
 ·have:iz #[] j=false:=by unfold iz;rfl
  rw[this]
  simp
theorem zIc {P:List Nat}{L pl:Bool}{j i:Nat}(h:(zY P L pl).slot j=.live i):i<P.length:=by
 unfold nK zY at h
 dsimp only at h
 split at h
 ·rename_i c
  injection h with h
  subst h
  have:=eq_of_beq c
  rw[fo]at this
  exact(ah.mp this).1
 ·split at h<;>cases h
def vY (j pt:Nat):fV:={j:=j,more:=0,i:=j,perturb:=pt,dummy:=none}
theorem zId (P:List Nat)(L pl:Bool)(j pt:Nat):(zY P L pl).advance (vY j pt)=vY ((j*5+1+pt/32)%8) (pt/32):=by
 have e:d4 7 ((j*5+1+pt/32)%8)- ((j*5+1+pt/32)%8)=0:=by
  unfold d4
  rw[if_neg (by omega)];omega
 unfold SetTable.advance vY
 rw[if_neg (by simp)]
 show({j:=(j*5+1+pt/32)%8,more:=d4 7 ((j*5+1+pt/32)%8)- ((j*5+1+pt/32)%8),i:=(j*5+1+pt/32)%8,perturb:=pt/32,dummy:=none}:fV)=_
 rw[e]
theorem zIe (P:List Nat)(L pl:Bool)(h:Int):(zY P L pl).probeStart h=vY (cf h%8) (cf h):=by
 have e:d4 7 (cf h%8)- (cf h%8)=0:=by
  unfold d4
  rw[if_neg (by omega)];omega
 unfold SetTable.probeStart vY
 show({j:=cf h%8,more:=d4 7 (cf h%8)- (cf h%8),i:=cf h%8,perturb:=cf h,dummy:=none}:fV)=_
 rw[e]
def vO (P:List Nat):Nat->Nat->Nat->Prop
 |0,j,_=>uJ P j=true
 |n+1,j,pt=>uJ P j=true\/vO P n ((j*5+1+pt/32)%8) (pt/32)
theorem zDw {P:List Nat}:∀(k j:Nat),uJ P (lcg k j)=true->vO P k j 0
 |0,j,h=>h
 |k+1,j,h=>.inr (zDw k _ h)
theorem vO.up {P:List Nat}:∀{n j pt:Nat},vO P n j pt->vO P (n+1) j pt
 |0,_,_,h=>.inl h
 |n+1,_,_,h=>h.elim .inl fun h=>.inr h.up
theorem vO.mono {P:List Nat}{n m j pt:Nat}(h:vO P n j pt)(a:n<=m):vO P m j pt:=by
 induction a with
 |refl=>exact h
 |step _ ih=>exact ih.up
theorem zDx {P:List Nat}(b:P∈jL)(c:P.length<=3):∀(n j pt:Nat),j<8->pt<32^n->vO P (n+8) j pt
 |0,j,pt,d,a=>by
  have:pt=0:=by simp at a;exact a
  subst this
  obtain⟨k,f,g⟩:=List.any_eq_true.mp (zIZ P b c j (bp.mpr d))
  exact(zDw k j g).mono (by have:=bp.mp f;omega)
 |n+1,j,pt,d,a=>by
  have h:pt/32<32^n:=by
   rw[Nat.pow_succ]at a
   exact Nat.div_lt_of_lt_mul (by rw[Nat.mul_comm];exact a)
  have:=zDx b c n ((j*5+1+pt/32)%8) (pt/32) (eP _ (by decide)) h
  have e:n+1+8=(n+8)+1:=by omega
  rw[e]
  exact .inr this
theorem zIf {P:List Nat}(a:P∈jL)(b:P.length<=3)(h:Int):vO P 21 (cf h%8) (cf h):=by
 refine zDx a b 13 _ _ (eP _ (by decide)) ?_
 have c:cf h<2^64:=by unfold cf;omega
 have d:(2:Nat)^64<32^13:=by decide
 omega
theorem zDy {P:List Nat}{L pl:Bool}{hashAt:Nat->Int}{h:Int}:∀(n a j pt:Nat),n<a->j<8->vO P n j pt->
  (∃d,gc (zY P L pl) hashAt h a (vY j pt)=some (.empty d none)/\d<8/\uJ P d=true)\/
  (∃d i m e b,gc (zY P L pl) hashAt h a (vY j pt)=some (.candidate d i (vY e b))/\m<n/\e<8/\vO P m e b/\(zY P L pl).slot d=.live i)
 |n,0,j,pt,q,_,_=>by omega
 |n,a+1,j,pt,q,r,l=>by
  unfold gc
  have o:(zY P L pl).slot (vY j pt).j=(zY P true true).slot j:=rfl
  cases g:(zY P L pl).slot (vY j pt).j with
  |empty=>
   refine .inl ⟨j,rfl,r,?_⟩
   unfold uJ
   rw[<-o,g];rfl
  |dummy=>exact absurd g (zIb P L pl _)
  |live i=>
   have p:uJ P j=false:=by
    unfold uJ
    rw[<-o,g];rfl
   dsimp only
   rw[zId]
   cases n with
   |zero=>
    have:uJ P j=true:=l
    rw[p]at this;cases this
   |succ n=>
    have f:vO P n ((j*5+1+pt/32)%8) (pt/32):=by
     rcases l with z|z
     ·rw[p]at z;cases z
     ·exact z
    by_cases c:(hashAt i==h)=true
    ·rw[if_pos c]
     exact .inr ⟨j,i,n,_,_,rfl,bB _,eP _ (by decide),f,g⟩
    ·rw[if_neg c]
     rcases zDy n a _ _ (by omega) (eP _ (by decide)) f with z|⟨d,s,m,e,b,u,w,v⟩
     ·exact .inl z
     ·exact .inr ⟨d,s,m,e,b,u,by omega,v⟩
section
variable{prog:aI}{w:aR}{A:bF}{E:af->aj->Prop}{s:aj}
abbrev vG (prog:aI)(w:aR)(h:bt)(k:List zL)(a:av):Prop:=PySem.IsTupleKey (vJ prog w) h k a
theorem zIg (n:Nat){v:af}(h:carriedByValue v=true):ofAClassStatement n v=pure false:=by
 cases v with
 |ref a=>simp[carriedByValue]at h
 |_=>first|rfl|simp[ofAClassStatement]|(unfold ofAClassStatement;rfl)
theorem zDz {k:List zL}{a:av}{Q:Bool->aj->Prop}(e:vG prog w s.heap k a)(h:Q false s):wpAny (model prog w) A (ofAClassStatement 8 (.ref a)) Q E s:=by
 have f:=e.typeIs
 obtain⟨o,items,n,g,_,hd,hi⟩:=e
 unfold ofAClassStatement
 refine aa (eC f ?_)
 dsimp only
 rw[if_pos (show("tuple"=="tuple")=true from by decide)]
 refine aa (ag ?_)
 simp only[fu,aX,if_false]
 refine aa (ff g hd ?_)
 dsimp only
 refine aa ?_
 rw[<-ki]
 refine gu _ (fun yG r s'=>r.1=none/\s'=s/\∀v∈yG,carriedByValue v=true) _ ?_ ?_ _ _ ⟨rfl,rfl,hi.byValue⟩
 ·rintro v yG r s' ⟨c,rfl,b⟩
  rw[zIg _ (b v ao)]
  refine aa (ag ?_)
  simp only[aX,if_false]
  exact ag ⟨rfl,rfl,fun u d=>b u (au _ d)⟩
 ·rintro⟨i,j⟩ s' ⟨c,rfl,_⟩
  simp only at c
  subst c
  exact ag h
theorem zIh {k:List zL}{x:av}{f:List af}{Q:Bool->aj->Prop}(g:vG prog w s.heap k x)(j:∀y∈f,∃d b,y=.ref b/\vG prog w s.heap d b)(h:Q false s) :
  wpAny (model prog w) A (searchCouldBeSeen (.ref x) f) Q E s:=by
 unfold searchCouldBeSeen
 refine aa ?_
 refine gu _ (fun yG r s'=>r.1=none/\s'=s/\∀y∈yG,∃d b,y=.ref b/\vG prog w s.heap d b) _ ?_ ?_ _ _ ⟨rfl,rfl,j⟩
 ·rintro v yG r s' ⟨e,rfl,a⟩
  obtain⟨d,b,rfl,i⟩:=a v ao
  dsimp only
  split
  ·exact ag ⟨rfl,rfl,fun u c=>a u (au _ c)⟩
  ·refine aa (iO g ?_)
   simp only[fu,aX,if_false]
   refine aa (iO i ?_)
   simp only[fu,aX,if_false]
   refine aa (zDz g ?_)
   simp only[aX,if_false]
   refine aa (zDz i ?_)
   simp only[aX,if_false]
   exact ag ⟨rfl,rfl,fun u c=>a u (au _ c)⟩
 ·rintro⟨l,m⟩ s' ⟨e,rfl,_⟩
  simp only at e
  subst e
  exact ag h
end
theorem zIi (P:List Nat)(L pl:Bool):(zY P L pl).gaveWay=false:=by unfold SetTable.gaveWay zY;show((7:Nat)%2==0)=false;decide
theorem zBL {P:List Nat}{L pl:Bool}{n:Nat}(h:n=P.length)(a:P.length<=4):(zY P L pl).fits n=true:=by
 unfold ju nL zY
 simp[h]
 omega
section
variable{prog:aI}{w:aR}{A:bF}{E:af->aj->Prop}{s:aj}
theorem zIj {S:av}{o:Obj}{c:Array (Int×af)}{ep:Nat}{P:List Nat}{L pl:Bool}{k:List zL}{x:av}{h:Int}{Q:SetFound->aj->Prop}(hu:A.units<cLine)(C:s.heap.get? S=some o)(hd:o.data=.set c ep (zY P L pl))(hl:c.size=P.length)(U:P.length<=4)(M:vG prog w s.heap k x)
  (u:∀e∈c.toList,∃D b,e.2=.ref b/\vG prog w s.heap D b/\D≠k)
  (W:∀j,j<8->uJ P j=true->Q (.free j false) s):∀(n a j pt:Nat) (st:Option fV),n<a->n<=21->j<8->vO P n j pt->st.getD ((zY P L pl).probeStart h)=vY j pt->
  wpAny (model prog w) A (setSearchFrom S (.ref x) h true a st) Q E s:=by
 intro n
 induction n using Nat.strongRecOn with
 |ind n ih=>
  intro a j pt st hn X Y Z F
  cases a with
  |zero=>omega
  |succ a=>
   have G:=zBL (L:=L) (pl:=pl) hl U
   unfold setSearchFrom
   refine aa (bM C hd G ?_)
   dsimp only
   rw[zIi]
   simp only[aX,if_false]
   rw[F]
   unfold SetTable.probe
   rcases zDy (L:=L) (pl:=pl) (hashAt:=fun i=>(c[i]?.map (·.1)).getD 0) (h:=h) n (10*SetTable.turns (zY P L pl).mask) j pt (by show n<10*(7+15);omega) Y Z with⟨N,e1,v,z⟩|⟨N,i,m,B,g,e1,v,z,O,H⟩
   ·erw [e1]
    exact ag (W N v z)
   ·erw [e1]
    have hi:i<c.size:=by rw[hl];exact zIc H
    have hm:c[i]∈c.toList:=by rw[<-Array.getElem_toList];exact cg _
    obtain⟨D,b,p,I,J⟩:=u _ hm
    have r:∀{R:Bool->aj->Prop},R false s->wpAny (model prog w) A (searchCouldBeSeen (.ref x) ((c.filter (·.1==h)).toList.map (·.2))) R E s:=fun q=>by
     refine zIh M (fun y hy=>?_) q
     obtain⟨e,T,rfl⟩:=aB.mp hy
     rw[Array.toList_filter]at T
     obtain⟨k2,b2,q1,q2,_⟩:=u e (bY.mp T).1
     exact⟨k2,b2,q1,q2⟩
    have l:c[i]?=some (c[i].1,c[i].2):=bu hi
    have d:∀{K:Bool->Sem SetFound},wpAny (model prog w) A (K false) Q E s->wpAny (model prog w) A (holding [c[i].2] (eqBool c[i].2 (.ref x))>>=K) Q E s:=fun{K} q=>by
     rw[p]
     refine aa (bD (wpAny_eqBool_tuple hu I M ?_))
     rw[decide_eq_false J]
     exact q
    dsimp only
    have f:(zY P L pl).sameMemory (zY P L pl).moves (zY P L pl).mask=some true:=by unfold SetTable.sameMemory;rw[if_pos (beq_self_eq_true _)]
    split
    ·refine aa (r ?_)
     simp only[aX,if_false]
     rw[l]
     dsimp only
     refine d ?_
     refine aa (bM C hd G ?_)
     simp only[ji,aX,if_false]
     rw[f]
     simp only[if_true]
     rw[H]
     dsimp only
     rw[l]
     dsimp only
     rw[p]
     refine aa (iP ?_)
     refine aa (ag ?_)
     simp only[if_true]
     exact ih m v a B g (some (vY B g)) (by omega) (by omega) z O rfl
    ·rw[l]
     dsimp only
     refine d ?_
     refine aa (bM C hd G ?_)
     simp only[ji,aX,if_false]
     rw[f]
     simp only[if_true]
     rw[H]
     dsimp only
     rw[l]
     dsimp only
     rw[p]
     refine aa (iP ?_)
     refine aa (ag ?_)
     simp only[if_true]
     exact ih m v a B g (some (vY B g)) (by omega) (by omega) z O rfl
end
def gT (prog:aI)(w:aR)(h:bt)(a:av)(es:Array (Int×af)):Prop :=
 ∃ep t,h.get? a=some (yU es ep t)/\True/\es.size<scanBound/\zDj w es t
def vH (w:aR)(h:bt)(a:av)(vs:List af):Prop :=
 ∃es ep P pl,h.get? a=some (yU es ep (zY P (!w.params.followText "set-order") pl))/\P∈jL/\es.size=P.length/\(es.size=0\/pl=false)/\(es.toList.map (·.2)).Perm vs
theorem vH.stay {w:aR}{h h':bt}{S:av}{vs:List af}(x:vH w h S vs)(e:∀o,h.get? S=some o->h'.get? S=some o):vH w h' S vs:=by
 obtain⟨a,ep,P,pl,b,r⟩:=x
 exact⟨a,ep,P,pl,e _ b,r⟩
abbrev kp (k:Str×Int):List zL:=[.inr k.1,.inl k.2]
def vZ (prog:aI)(w:aR)(h:bt)(bs:List av)(ks:List (Str×Int)):Prop:=bs.length=ks.length/\∀(i:Nat) (k:Str×Int),ks[i]?=some k->∃b,bs[i]?=some b/\vG prog w h (kp k) b
theorem vG.kept {prog:aI}{w:aR}{h h':bt}{k:List zL}{b:av}(x:vG prog w h k b)(e:∀o,h.get? b=some o->h'.get? b=some o):vG prog w h' k b:=by
 obtain⟨o,items,n,a,r⟩:=x
 exact⟨o,items,n,e _ a,r⟩
theorem vZ.kept {prog:aI}{w:aR}{h h':bt}{bs:List av}{ks:List (Str×Int)}(x:vZ prog w h bs ks)(e:∀b o,b∈bs->h.get? b=some o->h'.get? b=some o):vZ prog w h' bs ks :=
 ⟨x.1,fun i k c=>by
  obtain⟨b,a,t⟩:=x.2 i k c
  exact⟨b,a,t.kept fun o=>e b o (aU a)⟩⟩
theorem vZ.get {prog:aI}{w:aR}{h:bt}{bs:List av}{ks:List (Str×Int)}(x:vZ prog w h bs ks){b:av}(a:b∈bs):∃(i:Nat) (k:Str×Int),ks[i]?=some k/\bs[i]?=some b/\vG prog w h (kp k) b:=by
 obtain⟨i,hi⟩:=cj.mp a
 have hl:i<ks.length:=by rw[<-x.1];exact(ah.mp hi).1
 obtain⟨d,e1,c⟩:=x.2 i _ (aC hl)
 rw[hi]at e1
 cases e1
 exact⟨i,_,aC hl,hi,c⟩
theorem vZ.lt {prog:aI}{w:aR}{h:bt}{bs:List av}{ks:List (Str×Int)}(x:vZ prog w h bs ks){b:av}(a:b∈bs):b<h.objs.size:=by
 obtain⟨_,_,_,_,o,_,_,c,_⟩:=x.get a
 exact aA c
theorem zEA {α:Type}(xs:Array α)(p:Nat)(x:α)(a:p<=xs.size):(ek xs p x).toList=xs.toList.take p++x::xs.toList.drop p:=by
 unfold ek
 simp
 exact fe (by rw[bT,aN];exact ay _)
theorem zIk (P:List Nat)(L pl:Bool)(j:Nat)(a:aL P.toArray j<=P.length):(zY P L pl).put j=(zY (P.take (aL P.toArray j)++j::P.drop (aL P.toArray j)) L pl,aL P.toArray j):=by
 have hd:iz #[] j=false:=by unfold iz;rfl
 have e:ek P.toArray (aL P.toArray j) j=(P.take (aL P.toArray j)++j::P.drop (aL P.toArray j)).toArray:=by
  apply eu.mp
  rw[zEA _ _ _ (by simpa using a)]
 unfold SetTable.put zY
 dsimp only
 rw[e,hd]
 rfl
section
variable{prog:aI}{w:aR}{A:bF}{E:af->aj->Prop}{s:aj}
theorem zEB {k:Str×Int}{vs:List af}(h:ItemsAre (vJ prog w) (kp k) vs):∃t u,vs=[.str k.1 t,.int k.2 u]:=by
 cases h with
 |cons b r=>
  cases r with
  |cons c r=>
   cases r
   rcases vI (show v8 (.inr k.1) _=true from b)with⟨_,_,e,_⟩|⟨x,t,e,rfl⟩
   ·cases e
   ·rcases vI (show v8 (.inl k.2) _=true from c)with⟨i,u,a,rfl⟩|⟨_,_,a,_⟩
    ·cases e;cases a;exact⟨t,u,rfl⟩
    ·cases a
theorem zIl {k:Str×Int}{b:av}{Q:Bool->aj->Prop}(a:vG prog w s.heap (kp k) b)(h:Q false s):wpAny (model prog w) A (hashByValue 8 (.ref b)) Q E s:=by
 have c:=a.typeIs
 obtain⟨o,items,n,d,_,hd,hi⟩:=a
 obtain⟨t,u,e⟩:=zEB hi
 obtain rfl:items=#[.str k.1 t,.int k.2 u]:=eu.mp e
 unfold hashByValue
 refine aa (iE c F.slot_tuple_hash.lookup ?_)
 refine aa (ff d hd ?_)
 refine aa ?_
 rw[Option.getD_some,<-ki,iG]
 have f:hashByValue 7 (.str k.1 t)=pure false:=by unfold hashByValue;rfl
 refine aa ?_
 dsimp only
 rw[f]
 refine aa (ag ?_)
 simp only[Bool.not_false,if_true]
 refine ag ?_
 refine ag ?_
 exact ag h
theorem zIm {a x:av}{k:Str×Int}{vs:List af}{h:Int}{Q:Bool->aj->Prop}(hu:A.units<cLine)(D:vG prog w s.heap (kp k) x)(J:vH w s.heap a vs)(U:vs.length<=3)
  (r:∀v∈vs,∃n b,v=.ref b/\vG prog w s.heap n b/\n≠kp k)
  (M:∀b h',eA a s.heap h'->vH w h' a (vs++[.ref x])->Q b {s with heap:=h'}) :
  wpAny (model prog w) A (setAddHashed a (.ref x) h) Q E s:=by
 obtain⟨i,ep,P,pl,o,F,hsz,N,l⟩:=J
 have p:P.length<=3:=by
  have:=l.length_eq
  rw[ak,aN]at this
  omega
 have G:=zBL (P:=P) (L:=!w.params.followText "set-order") (pl:=pl) hsz (by omega)
 have u:∀e∈i.toList,∃n b,e.2=.ref b/\vG prog w s.heap n b/\n≠kp k:=fun e O=>r _ (l.mem_iff.mp (aB.mpr ⟨e,O,rfl⟩))
 unfold setAddHashed setAddHashedIn
 refine bD (aa (bM o rfl G ?_))
 dsimp only
 have y:byScan (.ref x) i=false:=by unfold byScan;rfl
 rw[y]
 simp only[aX,if_false]
 unfold setSearch
 refine aa (zIj hu o rfl hsz (by omega) D u (fun j R m=>?_) 21 100000 _ _ none (by decide) (ay _) (eP _ (by decide)) (zIf F p h) (zIe ..))
 obtain⟨T,H⟩:=zIa P F p j (bp.mpr R) m
 dsimp only
 refine aa (bM o rfl G ?_)
 dsimp only
 rw[zIk _ _ _ _ H]
 dsimp only
 have B:aL P.toArray j<=i.size:=by rw[hsz];exact H
 have d:=zEA i (aL P.toArray j) (h,Value.ref x) B
 have f:(ek i (aL P.toArray j) (h,Value.ref x)).size=(P.take (aL P.toArray j)++j::P.drop (aL P.toArray j)).length:=by
  rw[<-aN,d]
  simp only[aD,bf,aW,bT,aN,hsz]
 have q:(P.take (aL P.toArray j)++j::P.drop (aL P.toArray j)).length=P.length+1:=by
  simp only[aD,bf,aW,bT];omega
 have g:∀c,c=false->wpAny (model prog w) A (do
   storeSet a (ek i (aL P.toArray j) (h,Value.ref x)) (zY (P.take (aL P.toArray j)++j::P.drop (aL P.toArray j)) (!w.params.followText "set-order") c)
   if(!false&& (zY (P.take (aL P.toArray j)++j::P.drop (aL P.toArray j)) (!w.params.followText "set-order") c).tooFull)=true then do
    setRelay a (c9 (i.size+1))
    pure true
   else pure true) Q E s:=by
  rintro c rfl
  have nt:(zY (P.take (aL P.toArray j)++j::P.drop (aL P.toArray j)) (!w.params.followText "set-order") false).tooFull=false:=by
   unfold SetTable.tooFull nL zY
   dsimp only
   rw[aY,q]
   simp
   omega
  refine aa (f9 o rfl ?_ (cN (by rw[f,q];unfold scanBound;omega)))
  rw[nt]
  simp only[ji,aX,if_false]
  refine ag (M _ _ (fF s.heap a _) ⟨_,_,_,false,zBF o,T,f,.inr rfl,?_⟩)
  rw[d,aJ,aM]
  refine List.perm_middle.trans ?_
  rw[<-aJ,di]
  exact(l.cons _).trans (fS _ _).symm
 by_cases I:pl=true
 ·subst I
  rw[if_pos (show(zY (P.take (aL P.toArray j)++j::P.drop (aL P.toArray j)) (!w.params.followText "set-order") true).plain=true from rfl)]
  refine aa (zIl D ?_)
  simp only[aX,if_false]
  exact g false rfl
 ·have C:pl=false:=by simpa using I
  subst C
  rw[if_neg (show ¬(zY (P.take (aL P.toArray j)++j::P.drop (aL P.toArray j)) (!w.params.followText "set-order") false).plain=true from fun z=>bc z)]
  refine aa (ag ?_)
  simp only[if_true]
  exact g false rfl
end
section
variable{prog:aI}{w:aR}{A:bF}{R:iY->aj->Prop}{I:av}{fp wr:List av}{G:Array iV->Array iV->Prop}{P:Nat->af->Prop}{St:Nat->aj->Prop}
theorem zIn {bs:List av}{ks:List (Str×Int)}(W:WalksS prog w A.in1 I fp wr G bs.length P St)(hu:A.in1.units<cLine)(S:av)(L:S∉fp)(Q:∀i v,P i v->v=.ref (bs.getD i 0))(hn:bs.length<=4)(n:(ks.map (·.1)).Nodup)(f:∀b∈bs,b∉S::wr) :
  ∀(m i:Nat) (s:aj),bs.length-i=m->i<=bs.length->St i s->vH w s.heap S ((bs.take i).map Value.ref)->vZ prog w s.heap bs ks->
   (∀s',Moved (S::wr) G s s'->vH w s'.heap S (bs.map Value.ref)->R (.ok (.ret .none)) s')->
   codeAny (model prog w) A (.builtin "set.update.loop" ⟨[.ref S,.ref I],[]⟩) R s:=by
 have M:S∉wr:=fun z=>L (W.sub _ z)
 have more:∀b∈wr,b∈S::wr:=fun b z=>au _ z
 intro m
 induction m with
 |zero=>
  intro i s e1 T st x p r
  obtain rfl:i=bs.length:=by omega
  refine bP dS ?_
  rw[bI cw _]
  refine aa (m:=pyNext (.ref I)) (W.done s _ _ st fun s' d=>?_)
  rw[ba]at x
  exact ag (r s' (d.mono more) (x.stay fun o u=>d.heap S _ M u))
 |succ m ih=>
  intro i s e1 T st x p r
  have lt:i<bs.length:=by omega
  refine bP dS ?_
  rw[bI cw _]
  refine aa (m:=pyNext (.ref I)) (W.item i s _ _ lt st fun v s' U B d=>?_)
  have X:=Q i v U
  subst X
  have Y:=x.stay fun o u=>d.heap S _ M u
  have c:vZ prog w s'.heap bs ks:=p.kept fun b o a e=>d.heap b _ (fun z=>f b a (au _ z)) e
  have Z:bs.getD i 0=bs[i]:=by simp[lt]
  have N:i<ks.length:=by rw[<-p.1];exact lt
  obtain⟨b0,f1,f2⟩:=c.2 i _ (aC N)
  rw[aC lt]at f1
  cases f1
  rw[Z]
  refine aa (m:=holding [.ref bs[i]] (setAdd S (.ref bs[i]))) (bD ?_)
  unfold setAdd
  refine bD (aa (wpAny_pyHash_tuple hu f2 ?_))
  refine zIm (s:={s' with toks:=s'.toks+((kp ks[i]).length+1)}) hu f2 Y (by rw[ak,aW];omega) (fun v C=>?_) fun b h' D y=>?_
  ·obtain⟨b,a,rfl⟩:=aB.mp C
   obtain⟨j,E⟩:=cj.mp a
   have F:j<(bs.take i).length:=(ah.mp E).1
   have g:j<i:=by rw[aW]at F;omega
   have H:bs[j]?=some b:=by rw[eG g]at E;exact E
   have h:j<ks.length:=by omega
   obtain⟨b1,g1,g2⟩:=c.2 j _ (aC h)
   rw[H]at g1
   cases g1
   refine⟨kp ks[j],b,rfl,g2,fun z=>?_⟩
   have e5:(ks[j]).1=(ks[i]).1:=by injection z with z1 _;injection z1
   have O:=(dn.mp n) j i (by rw[ak];exact h) (by rw[ak];exact N) g
   simp only[cZ]at O
   exact O e5
  ·have e3:bs.take (i+1)=bs.take i++[bs[i]]:=aF lt
   have y':vH w h' S ((bs.take (i+1)).map Value.ref):=by rw[e3,aJ];exact y
   refine ag ⟨cy cw _,ih (i+1) _ (by omega) lt (W.frame _ s' _ _ B (by simp) fun b a o e=>?_) y' ?_ fun J l z=>?_⟩
   ·exact(D.2 b (fun q=>L (by rw[<-q];exact a))).trans e
   ·exact c.kept fun b o a e=>(D.2 b (fun q=>f b a (by rw[q];exact ao))).trans e
   ·refine r J (om W.gtrans ((d.mono more).then_heap (by simp) fun b o a e=>?_) l) z
    exact(D.2 b (fun q=>a (by rw[q];exact ao))).trans e
end
section
variable{prog:aI}{w:aR}{A:bF}{E:af->aj->Prop}{s:aj}
theorem zIo (w:aR){h:bt}{a:av}(e:h.get? a=some (yC w)):vH w h a [] :=
 ⟨#[],0,[],true,e,by decide+kernel,rfl,.inl rfl,cM _⟩
theorem zIp {I:bF}{R:iY->aj->Prop}{l:av}{items:Array af}{bs:List av}{ks:List (Str×Int)}(J:A.handled=none)(hl:s.heap.IsTuple l items)(d:items.size=bs.length)(L:∀(i:Nat) (v:af),items[i]?=some v->v=Value.ref (bs.getD i 0))(n:bs.length<=4)(g:vZ prog w s.heap bs ks)(q:(ks.map (·.1)).Nodup)(hu:A.units+16<cLine)
  (M:∀h' tk,vH w h' s.heap.objs.size (bs.map Value.ref)->(∀b o,b<s.heap.objs.size->s.heap.get? b=some o->h'.get? b=some o)->R (.ok (.ret .none)) {s with heap:=h',toks:=tk}) :
  wpAny (model prog w) A (b7.«set.__init__» ⟨[.ref s.heap.objs.size,.ref l],[]⟩) (fun fin s'=>match fin with| .done f=>R (.ok f) s'| .again C=>C.quiet=true/\codeAny (model prog w) I C R s') (fun e s'=>R (.error e) s') {s with heap:=s.heap.push (yC w)}:=by
 have new:(s.heap.push (yC w)).get? s.heap.objs.size=some (yC w):=aw _ rfl
 have ty:eK {s with heap:=s.heap.push (yC w)} (.ref s.heap.objs.size) "set" :=⟨_,new,rfl⟩
 obtain⟨ol,h,j,nl,m⟩:=id hl
 obtain⟨D,c,r,a⟩:=ol
 simp only at j m
 subst j;subst m
 have old:(s.heap.push (yC w)).get? l=some {cls:=.type "tuple",dict:=c,data:=.seq items nl,slots:=a}:=ae _ h
 have T:=zIK
 have U:=zIL
 have W:(Value.type "tuple"==Value.type "dict")=false:=by decide
 have tl:(s.heap.push (yC w)).IsTuple l items:=⟨_,old,rfl,nl,rfl⟩
 unfold b7.«set.__init__» noKeywords fC
 generalize u:pyIter=PI
 wp_walk
 subst u
 refine jw tl (aa (fU ?_))
 have F:l<s.heap.objs.size:=aA h
 have N:A.in1.handled=none:=by simp[J]
 have ne:l≠(s.heap.push (yC w)).objs.size:=by
  rw[aT]
  exact aG (aZ F)
 have O:s.heap.objs.size∉ [(s.heap.push (yC w)).objs.size,l]:=by
  rw[aT]
  simp only[aE,bN,bK,or_false,not_or]
  exact⟨aG (bB _),cT F⟩
 have G:=(Walks.tuple (prog:=prog) (w:=w) (A:=A.in1) N _ l ne items).toS
 rw[d]at G
 refine zIn G ?hu0 s.heap.objs.size O L n q ?bw0 (bs.length-0) 0 _ (by omega) (bH _) ?st0 ?x0 ?ka0 fun s' p x=>?_
 case hu0=>show A.units+1<cLine;omega
 case bw0=>
  intro b y
  have H:=g.lt y
  simp only[aE,bN,bK,or_false,not_or]
  refine⟨aG H,?_⟩
  rw[aT]
  exact aG (aZ H)
 case ka0=>exact g.kept fun b o _ e=>ae _ (ae _ e)
 case st0=>exact⟨⟨_,aw _ rfl,rfl,rfl⟩,tl.push _⟩
 case x0=>exact zIo w (ae _ new)
 obtain⟨h',g',d',z,B⟩:=s'
 obtain rfl:g'=s.gens:=p.gens
 obtain rfl:d'=s.drawn:=p.drawn
 obtain rfl:B=s.os:=p.os
 refine ag ?_
 refine ag (M h' z x fun b o n e=>?_)
 have P:b≠s.heap.objs.size:=aG n
 have Q:b≠(s.heap.push (yC w)).objs.size:=by
  rw[aT]
  exact aG (aZ n)
 refine p.heap b o ?_ (ae _ (ae _ e))
 simp only[aE,bN,bK,or_false,not_or]
 exact⟨P,Q⟩
theorem zIq {l:av}{items:Array af}{bs:List av}{ks:List (Str×Int)}{Q:af->aj->Prop}(n:A.handled=none)(hl:s.heap.IsTuple l items)(d:items.size=bs.length)(p:∀(i:Nat) (v:af),items[i]?=some v->v=Value.ref (bs.getD i 0))(u:bs.length<=4)(f:vZ prog w s.heap bs ks)(g:(ks.map (·.1)).Nodup)(hu:A.units+32<cLine)
  (h:∀h' tk,vH w h' s.heap.objs.size (bs.map Value.ref)->(∀b o,b<s.heap.objs.size->s.heap.get? b=some o->h'.get? b=some o)->Q (.ref s.heap.objs.size) {s with heap:=h',toks:=tk}) :
  wpAny (model prog w) A (call (.type "set") [.ref l]) Q E s:=by
 obtain⟨B,y,C⟩:=bX.mro
 have D:=bX.made
 have F:=bX.sub
 refine my (iI (?_:wpAny _ _ (callAny (.type "set") _) _ _ _))
 refine ag (And.intro (kj _ (by decide+kernel)) (bP lD ?_))
 rw[kl (iQ "set" [Value.ref l] []) rfl]
 have G:=bX.notType
 have H:=bX.canCreate
 have I:=lT (.ref l)
 all_goals (repeat(any_goals (first|assumption|wp_step)))
 refine cI (zDk (w:=w) (.ref l) (E:=E) (Q₁:=fun v j=>v=.ref s.heap.objs.size/\j={s with heap:=s.heap.push (yC w)}) ⟨rfl,rfl⟩) fun r j c=>?_
 match r,c with
 | .error e,c=>exact c
 | .ok (.ret v),c=>
  obtain⟨rfl,rfl⟩:=c
  have ty:eK {s with heap:=s.heap.push (yC w)} (.ref s.heap.objs.size) "set" :=⟨_,aw _ rfl,rfl⟩
  have J:=bX.init.lookup
  have L:=bX.init.bind (.ref s.heap.objs.size)
  all_goals (repeat(any_goals (first|assumption|wp_step)))
  refine cI (jj (R:=wants (fun q m=>q=.none/\∃h' tk,m={s with heap:=h',toks:=tk}/\vH w h' s.heap.objs.size (bs.map Value.ref)/\∀b o,b<s.heap.objs.size->s.heap.get? b=some o->h'.get? b=some o) E)
   bX.init.plain lU (lV ty (zIp (by simp[n]) hl d p u f g (by simp only[gs];omega) fun h' tk x k=>⟨rfl,h',tk,rfl,x,k⟩))) fun z m a=>?_
  match z,a with
  | .error e,a=>exact a
  | .ok (.ret q),a=>
   obtain⟨rfl,h',tk,rfl,x,k⟩:=a
   all_goals (repeat(any_goals (first|assumption|wp_step)))
   exact h _ _ x k
  | .ok .next,a=>exact a.elim
  | .ok .brk,a=>exact a.elim
  | .ok .cont,a=>exact a.elim
 | .ok .next,c=>exact c.elim
 | .ok .brk,c=>exact c.elim
 | .ok .cont,c=>exact c.elim
theorem zIr {a:av}{c:Array (Int×af)}{Q:af->aj->Prop}(y:A.handled=none)(G:gT prog w s.heap a c)
  (B:∀(I:av) (g:bt) (d:Drawn) (ord:List af) (fp:List av) (St:Nat->bt->Prop),ord.Perm (c.toList.map (·.2))->og prog w A I fp [I] c.size (fun i v=>ord[i]?=some v) St->St 0 g->s.heap.objs.size<=I->(∀b∈fp,b=a\/s.heap.objs.size<=b)->
   (∀b∈fp,b<g.objs.size)->(∀b o,s.heap.get? b=some o->g.get? b=some o)->Q (.ref I) {s with heap:=g,drawn:=d}) :
  wpAny (model prog w) A (pyIter (.ref a)) Q E s:=by
 obtain⟨ep,t,h,H,C,l,q,D⟩:=id G
 have ty:s.TypeIs (.ref a) "set" :=⟨_,h,rfl⟩
 have x:a<s.heap.objs.size:=aA h
 refine gb ty d9 (bR d9 ty zDn ?_ (gx _))
 unfold b7.«frozenset.__iter__» gy gh
 refine aa (aa (m:=slotArgs "__iter__" 0 _) (ag (ag ?_)))
 refine aa (aa (dI h rfl l (ag ?_)))
 unfold setDrawn
 refine aa (aa (bM h rfl l ?_))
 dsimp only
 refine aa (kJ (ag ?_))
 have F:c.size<=sizeLine:=cN C
 refine dv (fun hd=>?_) (fun hd=>?_)
 ·refine aa (zBJ c.size (aS c.size) (by simp) fun d pl pm=>?_)
  have pl_len:pl.length=c.size:=by rw[pm.length_eq,bL]
  refine aa (ja ?_ (by rw[ak,pl_len];exact F))
  have r:(s.heap.push (seqObj "tuple" (pl.map fun(i:Nat)=>rawInt i).toArray 0)).get? a=some (yU c ep t):=ae _ h
  refine aa (fh r rfl l ?_)
  refine aa (bC (ag ⟨_,rfl,"set_iterator",_,⟨_,aw _ rfl,rfl⟩,uI.lookup,B _ _ d _ _ _ ?pm (zDs (a:=a) (T:=s.heap.objs.size) (t:=t) (ep:=ep) (e1:=0) (pl:=pl) y ?ne ?nt l pl_len fun j J=>bp.mp (pm.mem_iff.mp J)) ?st ?ge ?fp ?lt ?kp⟩))
  case pm=>
   refine(pm.map _).trans ?_
   rw[show(aS c.size).map (fun j=>(c.getD j (0,Value.none)).2)=c.toList.map (·.2)from ?_]
   apply bS
   ·simp
   ·intro i g L
    have hi:i<c.size:=by simpa using g
    simp[hi]
  case ne=>show a≠(s.heap.push _).objs.size;rw[aT];exact aG (aZ x)
  case nt=>show s.heap.objs.size≠(s.heap.push _).objs.size;rw[aT];exact aG (bB _)
  case st=>exact⟨aw _ rfl,ae _ r,ae _ (aw _ rfl)⟩
  case ge=>show s.heap.objs.size<=(s.heap.push _).objs.size;rw[aT];exact fx _
  case fp=>
   intro b f
   simp only[aE,bK,or_false]at f
   rcases f with rfl|rfl|rfl
   ·right;show s.heap.objs.size<=(s.heap.push _).objs.size;rw[aT];exact fx _
   ·exact .inl rfl
   ·exact .inr (ay _)
  case lt=>
   intro b f
   simp only[aE,bK,or_false]at f
   rw[aT]
   rcases f with rfl|rfl|rfl
   ·exact bB _
   ·rw[aT];exact aZ (aZ x)
   ·rw[aT];exact aZ (bB _)
  case kp=>exact fun b o e=>ae _ (ae _ e)
 ·refine aa (ag ?_)
  refine aa (fh h rfl l ?_)
  refine aa (bC (ag ⟨_,rfl,"set_iterator",_,⟨_,aw _ rfl,rfl⟩,uI.lookup,?_⟩))
  have ne:a≠s.heap.objs.size:=aG x
  have u:∀b∈[s.heap.objs.size,a],b=a\/s.heap.objs.size<=b:=fun b f=>by
   simp only[aE,bK,or_false]at f
   rcases f with rfl|rfl
   ·exact .inr (ay _)
   ·exact .inl rfl
  have flt:∀(o:Obj),∀b∈[s.heap.objs.size,a],b<(s.heap.push o).objs.size:=fun o b f=>by
   simp only[aE,bK,or_false]at f
   rw[aT]
   rcases f with rfl|rfl
   ·exact bB _
   ·exact aZ x
  by_cases f:w.params.followText "set-order"=true
  ·exact B _ _ s.drawn _ _ _ ((gS _ c).map _) (zDr (a:=a) (ep:=ep) (t:=t) y ne l f) ⟨aw _ rfl,ae _ h⟩ (ay _) u (flt _) fun b o e=>ae _ e
  ·have n:w.params.followText "set-order"=false:=by simpa using f
   have g:c.size<=1:=by
    have p:¬(!w.params.followText "set-order"&& (!t.plain&&decide (c.size>1)))=true:=hd
    rw[n]at p
    rcases D with z|z
    ·omega
    ·rw[z]at p
     simpa using p
   have hl:t.led=true:=by rw[q,n];rfl
   exact B _ _ s.drawn _ _ _ (cM _) (zDt (a:=a) (ep:=ep) (t:=t) y ne l n hl g) ⟨aw _ rfl,ae _ h⟩ (ay _) u (flt _) fun b o e=>ae _ e
theorem zIs {a:av}{es:Array (Int×af)}{R:List af->aj->Prop}(hh:A.handled=none)(hS:gT prog w s.heap a es)
  (h:∀h' tk d ord,ord.Perm (es.toList.map (·.2))->(∀b o,s.heap.get? b=some o->h'.get? b=some o)->R ord {s with heap:=h',toks:=tk,drawn:=d}) :
  wpAny (model prog w) A (collect (.ref a)) R E s:=by
 obtain⟨ep,t,ho,hel,hbd,hf,hled,hpl⟩:=id hS
 have la:a<s.heap.objs.size:=aA ho
 unfold collect
 refine aa (fU (bP fJ ?_))
 rw[bI fK _]
 show wpAny _ A.in1 (newList []>>=fun l=>again (.builtin "list.__iadd__" ⟨[l,.ref a],[]⟩)) _ _ s
 refine aa (bC ?_)
 refine ag ⟨cy dU _,bP gz ?_⟩
 rw[bI dU _]
 show wpAny _ A.in1 (cX (.ref s.heap.objs.size) (.ref a) (.ref s.heap.objs.size)) _ _ _
 have ho1:(s.heap.push {cls:=.type "list",data:=.seq ([]:List af).toArray}).get? a=some (yU es ep t):=ae _ ho
 have hS1:gT prog w (s.heap.push {cls:=.type "list",data:=.seq ([]:List af).toArray}) a es:=⟨ep,t,ho1,hel,hbd,hf,hled,hpl⟩
 have hL:(s.heap.push {cls:=.type "list",data:=.seq ([]:List af).toArray}).get? s.heap.objs.size=some {cls:=.type "list",data:=.seq #[]}:=aw _ rfl
 unfold cX
 refine aa (eC (T :="set") ⟨_,ho1,rfl⟩ ?_)
 have ne:s.heap.objs.size≠a:=cT la
 have q1:dE (.ref s.heap.objs.size) (.ref a)=false:=by simp[dE,ne]
 rw[if_neg (by rw[q1];decide)]
 refine aa (zIr (A:=A.in1) (s:={s with heap:=s.heap.push {cls:=.type "list",data:=.seq ([]:List af).toArray}}) hh hS1 fun I h1 d ord fp St pm W st ge fpo flt kp=>?_)
 dsimp only at ge fpo kp
 rw[aT]at ge fpo
 have nf:s.heap.objs.size∉fp:=fun z=>by
  rcases fpo _ z with e|e
  ·exact ne e
  ·exact bG _ e
 have hn:es.size<=sizeLine:=cN hbd
 have ol:ord.length=es.size:=by rw[pm.length_eq,ak,aN]
 have key:∀(g:bt) (c₁:Nat),St 0 g->(∀b o,b≠s.heap.objs.size->h1.get? b=some o->g.get? b=some o)->g.get? s.heap.objs.size=some {cls:=.type "list",data:=.seq #[] c₁}->
   codeAny (model prog w) A (.builtin "list.extend.loop" ⟨[.ref s.heap.objs.size,.ref I,.ref s.heap.objs.size],[]⟩) (fun q s'=>∃(h':bt) (tk:Nat) (acc:Array af) (c':Nat),q=.ok (.ret (.ref s.heap.objs.size))/\s'={s with heap:=h',toks:=tk,drawn:=d}/\
    (∀b o,s.heap.get? b=some o->h'.get? b=some o)/\h'.get? s.heap.objs.size=some {cls:=.type "list",dict:=none,data:=.seq acc c',slots:=#[]}/\acc.toList=ord) {s with heap:=g,drawn:=d}:=by
  intro g c₁ hst hk hg
  refine jh W.toS hn _ nf _ es.size 0 _ #[] c₁ rfl (bH _) hst hg (oo _) fun s' acc' c' hm hS' hacc=>?_
  have e1:acc'.toList=ord:=by
   apply bS
   ·rw[aN,hacc.1,ol]
   ·intro i i1 i2
    have:ord[i]?=some (acc'[i]'(by simpa using i1)):=hacc.2 i _ (bu (by simpa using i1))
    rw[aC i2]at this
    injection this with this
    simpa using this.symm
  refine⟨s'.heap,s'.toks,acc',c',rfl,js hm,fun b o e=>?_,hS',e1⟩
  have nb:b≠s.heap.objs.size:=aG (aA e)
  refine hm.heap b o (fun z=>?_) (hk b o nb (kp b o (ae _ e)))
  rcases aE.mp z with e'|z
  ·exact nb e'
  ·rw[bN.mp z]at e
   exact absurd (aA e) (oE.mpr (lC ge))
 have fin : ∀(q : Result) (s' : Shared),(∃(h' : Heap) (tk : Nat) (acc : Array Value) (c' : Nat),q= .ok (.ret (.ref s.heap.objs.size))/\s'={s with heap :=h',toks :=tk,drawn :=d}/\
       (∀b o,s.heap.get? b=some o->h'.get? b=some o)/\h'.get? s.heap.objs.size=some {cls:=.type "list",dict:=none,data:=.seq acc c',slots:=#[]}/\acc.toList=ord)->
   q=.ok (.ret (.ref s.heap.objs.size))/\wpAny (model prog w) A (load s.heap.objs.size>>=fun o=>match o.data with| .seq xs _=>pure xs.toList|_=>unsupported "internal:collect") R E s':=by
  rintro q s' ⟨h',tk,acc,c',rfl,rfl,kk,hg,e1⟩
  refine⟨rfl,aa (mw hg ?_)⟩
  show wpAny _ _ (pure acc.toList) _ _ _
  rw[e1]
  exact ag (h h' tk d ord pm kk)
 have hL1:=kp _ _ hL
 have hoa:=kp _ _ ho1
 refine aa (bD (zDu (s:={s with heap:=h1,drawn:=d}) ⟨_,hoa,rfl⟩ ?_))
 refine dv (fun _=>?_) (fun _=>ag ⟨cy dt _,cI (key h1 _ st (fun b o _ e=>e) hL1) fun q s' y=>?_⟩)
 ·refine aa (iw ?_)
  refine aa ?_
  show wpAny _ _ (updateSeq s.heap.objs.size (·.push .none)>>=fun _=>updateSeq s.heap.objs.size (·.pop)) _ _ _
  refine aa (fB hL1 rfl ?_)
  have hL2:=dj (cn (·.push Value.none)) hL1 rfl
  refine fB (hz:=by seq_fits) hL2 rfl ?_
  have hL3:=dj (cn (·.pop)) hL2 rfl
  refine ag ⟨cy dt _,cI (key _ _ ?_ (fun b o hb e=>?_) hL3) fun q s' y=>?_⟩
  ·refine W.frame 0 _ _ st fun b hb o e=>?_
   have hbS:b≠s.heap.objs.size:=fun z=>nf (z▸hb)
   exact(bq _ _ (dg hbS)).trans ((bq _ _ (dg hbS)).trans e)
  ·exact(bq _ _ (dg hb)).trans ((bq _ _ (dg hb)).trans e)
  ·obtain⟨rfl,y2⟩:=fin q s' y
   exact y2
 ·obtain⟨rfl,y2⟩:=fin q s' y
  exact y2
theorem vH.toZ {h:bt}{a:av}{vs:List af}(x:vH w h a vs)(f:vs.length<=4):∃b,gT prog w h a b/\(b.toList.map (·.2)).Perm vs:=by
 obtain⟨b,ep,P,pl,e,g,hsz,d,c⟩:=x
 have hl:b.size=vs.length:=by
  have:=c.length_eq
  rw[ak,aN]at this
  exact this
 exact⟨b,⟨ep,_,e,trivial,(by unfold scanBound;omega),zBL hsz (by omega),rfl,d⟩,c⟩
end
theorem zIt {α β:Type}(f:α->β):∀{o m:List β},o.Perm m->∀l:List α,m=l.map f->∃p:List α,p.Perm l/\o=p.map f:=by
 intro o m h
 induction h with
 |nil=>intro l e;exact⟨[],by rw[List.map_eq_nil_iff.mp e.symm],rfl⟩
 |cons x _ ih=>
  intro l e
  cases l with
  |nil=>cases e
  |cons y l=>
   injection e with e1 c
   obtain⟨p,d,g⟩:=ih l c
   exact⟨y::p,d.cons y,by rw[g,e1];rfl⟩
 |swap x y r=>
  intro l e
  match l,e with
  |a::b::l,e=>
   injection e with e1 c
   injection c with n s
   subst e1 n s
   exact⟨b::a::l,List.Perm.swap ..,rfl⟩
 |trans _ _ i j=>
  intro l e
  obtain⟨p,d,g⟩:=j l e
  obtain⟨q,u,v⟩:=i p g
  exact⟨q,u.trans d,v⟩
section
open MyS PySem.W
variable{X:Cx}{pins:List (av×Obj)}{σ:List (Option V)}{H:Hp}{s:aj}
theorem zIu (hc:X.calm=true){a:av}{ts:List V}{bs:List av}{ks:List (Str×Int)}{Q:VK}(I:Inv X pins σ H s)(hS:vH X.w s.heap a (bs.map Value.ref))(y:vZ X.prog X.w s.heap bs ks)(T:ts=bs.map V.ref)(nd:(ks.map (·.1)).Nodup)(h4:bs.length<=4)
  (q:∀(pm:List Nat) (l:av),pm.Perm (aS ks.length)->(pm.map fun i=>(ks.getD i (⟨#[]⟩,0)).1.cps.toList).Pairwise (· < ·)->H l=none->Q (.ref l) (upd H l (.lst (pm.map fun i=>ts.getD i .non)))) :
  wpAny (model X.prog X.w) X.A (call (.builtin "sorted") [.ref a]) (EP X pins σ Q) X.xe s:=by
 obtain⟨es,sz,U⟩:=hS.toZ (prog:=X.prog) (by rw[ak];exact h4)
 refine dq jb ij ik (il _) ?_
 unfold b7.«sorted»
 refine aa (m:=checkCount "sorted" 1 1 _) (ag ?_)
 refine aa (zIs (A:=X.A.in1) (I.ok.hd hc) sz fun h' tk d ord pm W=>?_)
 have I1:Inv X pins σ H {s with heap:=h',toks:=tk,drawn:=d}:=(I.grown W).draw
 have hr:bs.map Value.ref=(aS bs.length).map fun i=>Value.ref (bs.getD i 0):=by
  apply bS
  ·simp
  ·intro i z O
   have hi:i<bs.length:=by simpa using z
   simp[hi]
 obtain⟨p,P,rfl⟩:=zIt (fun i=>Value.ref (bs.getD i 0)) (pm.trans U) _ hr
 have ap:p.length=bs.length:=by rw[P.length_eq,bL]
 have C:∀i∈p,i<bs.length:=fun i hi=>bp.mp (P.mem_iff.mp hi)
 have f:=y.1
 have Y:(p.map fun i=>(ks.getD i (⟨#[]⟩,0)).1).Nodup:=by
  refine(P.map _).nodup_iff.mpr ?_
  have:(aS bs.length).map (fun i=>(ks.getD i ((⟨#[]⟩:Str),(0:Int))).1)=ks.map (·.1):=by
   apply bS
   ·simp[f]
   ·intro i z O
    have hi:i<ks.length:=by rw[<-f];simpa using z
    simp[hi]
  rw[this];exact nd
 refine aa (ft ?_ (by rw[ak,aV];omega))
 dsimp only
 generalize R:h'.objs.size=B
 have D:(h'.push {cls:=.type "list",data:=.seq (p.map fun i=>Value.ref (bs.getD i 0)).toArray}).get? B=some (seqObj "list" (p.map fun i=>Value.ref (bs.getD i 0)).toArray 0):=by
  rw[<-R];exact aw _ rfl
 have old:∀b o,h'.get? b=some o->(h'.push {cls:=.type "list",data:=.seq (p.map fun i=>Value.ref (bs.getD i 0)).toArray}).get? b=some o/\b≠B:=fun b o e=>⟨ae _ e,by rw[<-R];exact aG (aA e)⟩
 refine aa (bD (bR fP ⟨_,D,rfl⟩ fz (MyS.sort_pairs (ks:=p.map fun i=>(ks.getD i (⟨#[]⟩,0)).1) D (by simp) (fun i v e=>?_) Y (by rw[ak];omega) fun c O e2 Z E ab ac=>⟨_,rfl,?_⟩) (fQ _)))
 ·have e':(p.map fun i=>Value.ref (bs.getD i 0))[i]?=some v:=by simpa using e
  rw[az]at e'
  obtain⟨j,x,rfl⟩:=cz.mp e'
  have aq:j<bs.length:=C j (aU x)
  have F:j<ks.length:=by omega
  obtain⟨b,f1,f2⟩:=y.2 j _ (aC F)
  have f3:bs.getD j 0=b:=by rw[bQ,f1];rfl
  obtain⟨o,items,n,ho,al,hd,hi⟩:=f2
  obtain⟨t,u,ei⟩:=zEB hi
  obtain rfl:items=#[.str (ks[j]).1 t,.int (ks[j]).2 u]:=eu.mp ei
  refine⟨(ks[j]).1,by rw[az,x];simp[F],b,o,t,.int (ks[j]).2 u,n,by rw[f3],(old _ _ (W _ _ ho)).2,(old _ _ (W _ _ ho)).1,al,hd⟩
 ·refine ag ⟨_,rfl,?_⟩
  have G:∀b o,h'.get? b=some o->O.get? b=some o:=fun b o e=>ab b o (old _ _ e).2 (old _ _ e).1
  have g:c.Perm (aS p.length):=by
   have:(p.map fun i=>Value.ref (bs.getD i 0)).length=p.length:=ak _
   rw[<-this];exact Z
  have h:∀i∈c,i<p.length:=fun i hi=>bp.mp (g.mem_iff.mp hi)
  have r:(aS p.length).map (fun i=>p.getD i 0)=p:=by
   apply bS
   ·simp
   ·intro i z O
    have hi:i<p.length:=by simpa using z
    simp[hi]
  have J:(c.map fun i=>p.getD i 0).Perm (aS ks.length):=by
   have h5:=g.map (fun i=>p.getD i 0)
   rw[r]at h5
   rw[<-f]
   exact h5.trans P
  refine⟨.ref B,_,I1.laid (t':=tk) (o:=.lst ((c.map fun i=>p.getD i 0).map fun i=>ts.getD i .non)) G (cH R) ⟨?_,_,_,?_,ac⟩,rfl,q _ B J ?_ (I1.hok.fresh (cH R))⟩
  ·rw[ak,ak,g.length_eq,bL,aV];omega
  ·have go:∀l:List Nat,(∀i∈l,i<p.length)->zF ((l.map fun i=>p.getD i 0).map fun i=>ts.getD i .non) (l.map fun i=>(p.map fun i=>Value.ref (bs.getD i 0)).getD i Value.none):=by
    intro l
    induction l with
    |nil=>intro _;exact .nil
    |cons i l ih=>
     intro L
     have hi:i<p.length:=L i (ao ..)
     refine .cons ?_ (ih fun j x=>L j (au _ x))
     have a0:p.getD i 0=p[i]:=by simp[hi]
     have M:p[i]<bs.length:=C _ (cg hi)
     have a1:ts.getD p[i] .non=V.ref bs[p[i]]:=by rw[T];simp[M]
     have a2:(p.map fun i=>Value.ref (bs.getD i 0)).getD i Value.none=Value.ref bs[p[i]]:=by simp[hi,M]
     show zI (ts.getD (p.getD i 0) .non) ((p.map fun i=>Value.ref (bs.getD i 0)).getD i Value.none)
     rw[a0,a1,a2]
     exact rfl
   exact go c h
  ·rw[aQ,aQ]
   rw[aQ]at E
   refine eJ ?_ E
   intro i j hi x N
   have am:=h i hi
   have an:=h j x
   have e1:MyS.keyAt (p.map fun i=>(ks.getD i (⟨#[]⟩,0)).1) i=(ks.getD (p.getD i 0) (⟨#[]⟩,0)).1.cps.toList:=by simp[MyS.keyAt,am]
   have e2:MyS.keyAt (p.map fun i=>(ks.getD i (⟨#[]⟩,0)).1) j=(ks.getD (p.getD j 0) (⟨#[]⟩,0)).1.cps.toList:=by simp[MyS.keyAt,an]
   rw[e1,e2]at N
   exact N
def zBM (K:ai)(x:V)(H:Hp)(Q:VK):Prop:=∃(p:av) (ts:List V) (ks:List (Str×Int)),x=.ref p/\zW K H p ts/\zCj K H ts (ks.map fun k=>(k.1,V.int k.2))/\(ks.map (·.1)).Nodup/\ks.length<=4/\
 ∀(pm:List Nat) (l:av),pm.Perm (aS ks.length)->(pm.map fun i=>(ks.getD i (⟨#[]⟩,0)).1.cps.toList).Pairwise (· < ·)->H l=none->Q (.ref l) (upd H l (.lst (pm.map fun i=>ts.getD i .non)))
def zEC (K:ai)(t:TE):TE:=fun σ H Q=>t σ H fun x H1=>zBM K x H1 Q
theorem zIv {x y:Str}{e:bV}{te:TE}{p D pos c:Pos}(hu:X.A.units+64<cLine)(hc:X.calm=true)(he:PE X e te)(hg:Gl X x)(hm:X.mg x=none)(E:bootBuiltins x=some (.builtin "sorted"))(F:Gl X y)(G:X.mg y=none)(J:bootBuiltins y=some (.type "set"))
  (hn:x≠"__name__" :=by decide) (L:(x==("__debug__" : Str))=false:=by decide) (M:y≠"__name__" :=by decide) (l:(y==("__debug__" : Str))=false:=by decide)
  (hs:starEach [e] X.env=(false,eval e X.env)::starEach [] X.env:=by rfl)
  (m:starEach [Expr.Call (.Name y D) [e] [] c] X.env=(false,eval (Expr.Call (.Name y D) [e] [] c) X.env)::starEach [] X.env:=by rfl) :
  PE X (.Call (.Name x p) [.Call (.Name y D) [e] [] c] [] pos) (zEC X.K te):=by
 intro pins s σ H Q I h
 refine cF (u0 I hg hm E ?_ hn L)
 refine dM ?_ m rfl
 rw[m]
 show wpAny _ _ (spliced ((false,eval (Expr.Call (.Name y D) [e] [] c) X.env)::backTo pos (starEach [] X.env))) _ _ s
 refine dX ?_
 refine cF (u0 I F G J ?_ M l)
 refine cU (zG (zB he zD hs c pins s σ H (fun xs N=>match xs with| [x]=>zBM X.K x N Q|_=>False) I ?_) fun us s1 ⟨vs,N,O,P,f⟩=>?_) hs rfl
 ·exact h
 ·obtain⟨x,rfl,f⟩:∃x,vs=[x]/\zBM X.K x N Q:=by
   match vs,f with
   | [x],f=>exact⟨x,rfl,f⟩
   | [],f=>exact f.elim
   |_::_::_,f=>exact f.elim
  obtain⟨a,ts,ks,rfl,R,d,nd,h4,q⟩:=f
  obtain⟨u,rfl,ru⟩:=vS P
  cases ru
  obtain⟨its,rv,tp,_⟩:=O.tuple R
  have z:ts.length=ks.length:=by have:=d.1;rw[ak]at this;exact this
  obtain⟨bs,g⟩:∃bs:List av,ts=bs.map V.ref:=by
   have go:∀(ts:List V),(∀t∈ts,∃b,t=V.ref b)->∃bs:List av,ts=bs.map V.ref:=by
    intro ts
    induction ts with
    |nil=>intro _;exact⟨[],rfl⟩
    |cons t ts ih=>
     intro h
     obtain⟨b,rfl⟩:=h t (ao ..)
     obtain⟨bs,e⟩:=ih fun t T=>h t (au _ T)
     exact⟨b::bs,by rw[e];rfl⟩
   refine go ts fun t T=>?_
   obtain⟨i,hi⟩:=cj.mp T
   have li:i<ks.length:=by rw[<-z];exact(ah.mp hi).1
   obtain⟨b,e1,_⟩:=d.2 i _ (by rw[az,aC li];rfl)
   rw[hi]at e1
   cases e1
   exact⟨b,rfl⟩
  have U:bs.length=ks.length:=by rw[<-z,g,ak]
  have B:vZ X.prog X.w s1.heap bs ks:=by
   refine⟨U,fun i k hk=>?_⟩
   obtain⟨b,e1,e2⟩:=d.2 i _ (by rw[az,hk];rfl)
   obtain⟨ac,W,⟨o,ho,Y,n,hd⟩,_⟩:=O.tuple e2
   obtain⟨x1,x2,rfl,Z,ab⟩:=jS W
   obtain⟨t,rfl⟩:=Z
   obtain⟨t2,rfl⟩:=ab
   refine⟨b,?_,o,_,n,ho,Y,hd,.cons (zBR _ _ _ _) (.cons (zBQ _ _ _ _) .nil)⟩
   rw[g,az]at e1
   obtain⟨b',f1,f2⟩:=cz.mp e1
   cases f2
   exact f1
  have j:its=bs.map Value.ref:=by
   have go:∀(bs:List av) (its:List af),zF (bs.map V.ref) its->its=bs.map Value.ref:=by
    intro bs
    induction bs with
    |nil=>intro its r;cases r;rfl
    |cons b bs ih=>
     intro its r
     cases r with
     |cons P W=>
      cases P
      rw[ih _ W];rfl
   exact go bs its (g▸rv)
  refine zIq (A:=X.A) (bs:=bs) (ks:=ks) (I.ok.hd hc) tp (by rw[j];simp) (fun i v E=>?_) (by omega) B nd (by omega) fun h' tk sk k=>?_
  ·rw[j]at E
   have C:(bs.map Value.ref)[i]?=some v:=by simpa using E
   rw[az]at C
   obtain⟨b,f1,rfl⟩:=cz.mp C
   rw[bQ,f1];rfl
  ·refine eU ?_
   exact zIu hc (O.grown (tk:=tk) fun b u e=>k b u (aA e) e) sk (B.kept fun b o _ e=>k b o (aA e) e) g nd (by omega) q
end
open MyS PySem.W
section
variable{prog:aI}{w:aR}{A:bF}{E:af->aj->Prop}{s:aj}
theorem zIw:isSubtype (.type "list") (.type "set")=pure false:=by
 rw[c8];kernel_rfl
theorem zIx:isSubtype (.type "list") (.type "frozenset")=pure false:=by
 rw[c8];kernel_rfl
theorem zIy {D:bF}{R:iY->aj->Prop}{l:av}{items:Array af}{ks:List Str}(F:A.handled=none)(hl:s.heap.IsList l items)(d:items.size=ks.length)(G:∀i v,items[i]?=some v->ck (ks.getD i ⟨#[]⟩) v=true)(m:ks.length+1<scanBound)
  (H:∀h' tk,uG prog w h' s.heap.objs.size ks->(∀b o,b<s.heap.objs.size->s.heap.get? b=some o->h'.get? b=some o)->R (.ok (.ret .none)) {s with heap:=h',toks:=tk}) :
  wpAny (model prog w) A (b7.«set.__init__» ⟨[.ref s.heap.objs.size,.ref l],[]⟩) (fun fin s'=>match fin with| .done f=>R (.ok f) s'| .again y=>y.quiet=true/\codeAny (model prog w) D y R s') (fun e s'=>R (.error e) s') {s with heap:=s.heap.push (yC w)}:=by
 have new:(s.heap.push (yC w)).get? s.heap.objs.size=some (yC w):=aw _ rfl
 have ty:eK {s with heap:=s.heap.push (yC w)} (.ref s.heap.objs.size) "set" :=⟨_,new,rfl⟩
 obtain⟨ol,g,h,nl,j⟩:=id hl
 obtain⟨z,c,p,a⟩:=ol
 simp only at h j
 subst h;subst j
 have old:(s.heap.push (yC w)).get? l=some {cls:=.type "list",dict:=c,data:=.seq items nl,slots:=a}:=ae _ g
 have N:=zIw
 have O:=zIx
 have P:(Value.type "list"==Value.type "dict")=false:=by decide
 have tl:(s.heap.push (yC w)).IsList l items:=⟨_,old,rfl,nl,rfl⟩
 unfold b7.«set.__init__» noKeywords fC
 generalize q:pyIter=PI
 wp_walk
 subst q
 refine eg tl (aa (fU ?_))
 have B:l<s.heap.objs.size:=aA g
 have I:A.in1.handled=none:=by simp[F]
 have ne:l≠(s.heap.push (yC w)).objs.size:=by
  rw[aT]
  exact aG (aZ B)
 have J:s.heap.objs.size∉ [(s.heap.push (yC w)).objs.size,l]:=by
  rw[aT]
  simp only[aE,bN,bK,or_false,not_or]
  exact⟨aG (bB _),cT B⟩
 have C:=(ke (prog:=prog) (w:=w) (A:=A.in1) I _ l ne items).toS
 rw[d]at C
 refine zIJ C s.heap.objs.size J G m (ks.length-0) 0 _ (by omega) (bH _) ?st0 ?x0 fun s' n x=>?_
 case st0=>exact⟨⟨_,aw _ rfl,rfl,rfl⟩,tl.push _⟩
 case x0=>exact zIM prog w (ae _ new)
 obtain⟨h',g',d',r,u⟩:=s'
 obtain rfl:g'=s.gens:=n.gens
 obtain rfl:d'=s.drawn:=n.drawn
 obtain rfl:u=s.os:=n.os
 refine ag ?_
 refine ag (H h' r x fun b o m e=>?_)
 have L:b≠s.heap.objs.size:=aG m
 have M:b≠(s.heap.push (yC w)).objs.size:=by
  rw[aT]
  exact aG (aZ m)
 refine n.heap b o ?_ (ae _ (ae _ e))
 simp only[aE,bN,bK,or_false,not_or]
 exact⟨L,M⟩
theorem zIz {l:av}{items:Array af}{ks:List Str}{Q:af->aj->Prop}(j:A.handled=none)(hl:s.heap.IsList l items)(d:items.size=ks.length)(m:∀i v,items[i]?=some v->ck (ks.getD i ⟨#[]⟩) v=true)(n:ks.length+1<scanBound)
  (h:∀h' tk,uG prog w h' s.heap.objs.size ks->(∀b o,b<s.heap.objs.size->s.heap.get? b=some o->h'.get? b=some o)->Q (.ref s.heap.objs.size) {s with heap:=h',toks:=tk}) :
  wpAny (model prog w) A (call (.type "set") [.ref l]) Q E s:=by
 obtain⟨y,p,z⟩:=bX.mro
 have B:=bX.made
 have C:=bX.sub
 refine my (iI (?_:wpAny _ _ (callAny (.type "set") _) _ _ _))
 refine ag (And.intro (kj _ (by decide+kernel)) (bP lD ?_))
 rw[kl (iQ "set" [Value.ref l] []) rfl]
 have D:=bX.notType
 have F:=bX.canCreate
 have G:=lT (.ref l)
 all_goals (repeat(any_goals (first|assumption|wp_step)))
 refine cI (zDk (w:=w) (.ref l) (E:=E) (Q₁:=fun v f=>v=.ref s.heap.objs.size/\f={s with heap:=s.heap.push (yC w)}) ⟨rfl,rfl⟩) fun r f c=>?_
 match r,c with
 | .error e,c=>exact c
 | .ok (.ret v),c=>
  obtain⟨rfl,rfl⟩:=c
  have ty:eK {s with heap:=s.heap.push (yC w)} (.ref s.heap.objs.size) "set" :=⟨_,aw _ rfl,rfl⟩
  have H:=bX.init.lookup
  have I:=bX.init.bind (.ref s.heap.objs.size)
  all_goals (repeat(any_goals (first|assumption|wp_step)))
  refine cI (jj (R:=wants (fun q g=>q=.none/\∃h' tk,g={s with heap:=h',toks:=tk}/\uG prog w h' s.heap.objs.size ks/\∀b o,b<s.heap.objs.size->s.heap.get? b=some o->h'.get? b=some o) E)
   bX.init.plain lU (lV ty (zIy (by simp[j]) hl d m n fun h' tk x k=>⟨rfl,h',tk,rfl,x,k⟩))) fun u g a=>?_
  match u,a with
  | .error e,a=>exact a
  | .ok (.ret q),a=>
   obtain⟨rfl,h',tk,rfl,x,k⟩:=a
   all_goals (repeat(any_goals (first|assumption|wp_step)))
   exact h _ _ x k
  | .ok .next,a=>exact a.elim
  | .ok .brk,a=>exact a.elim
  | .ok .cont,a=>exact a.elim
 | .ok .next,c=>exact c.elim
 | .ok .brk,c=>exact c.elim
 | .ok .cont,c=>exact c.elim
end
end L2
end
section
namespace L2
open PySem
section
variable{X:Cx}
def zBN (K:ai)(x:V)(H:Hp)(Q:VK):Prop:=∃(p:av) (ks:List Str),x=.ref p/\zV K H p (ks.map V.str)/\ks.length<64/\
 ∀(out:List Str) (l:av),(∀x,x∈out↔x∈ks)->out.Pairwise (fun a b=>a.cps.toList<b.cps.toList)->H l=none->Q (.ref l) (upd H l (.lst (out.map V.str)))
def zJA (K:ai)(t:TE):TE:=fun σ H Q=>t σ H fun x H1=>zBN K x H1 Q
theorem zJB {x y:Str}{e:bV}{G:TE}{p m pos c:Pos}(J:X.calm=true)(O:PE X e G)(P:Gl X x)(R:X.mg x=none)(n:bootBuiltins x=some (.builtin "sorted"))(r:Gl X y)(w:X.mg y=none)(z:bootBuiltins y=some (.type "set"))
  (T:x≠"__name__" :=by decide) (B:(x==("__debug__" : Str))=false:=by decide) (C:y≠"__name__" :=by decide) (g:(y==("__debug__" : Str))=false:=by decide)
  (L:starEach [e] X.env=(false,eval e X.env)::starEach [] X.env:=by rfl)
  (j:starEach [Expr.Call (.Name y m) [e] [] c] X.env=(false,eval (Expr.Call (.Name y m) [e] [] c) X.env)::starEach [] X.env:=by rfl) :
  PE X (.Call (.Name x p) [.Call (.Name y m) [e] [] c] [] pos) (zJA X.K G):=by
 intro l s σ H Q I h
 refine cF (u0 I P R n ?_ T B)
 refine dM ?_ j rfl
 rw[j]
 show wpAny _ _ (spliced ((false,eval (Expr.Call (.Name y m) [e] [] c) X.env)::backTo pos (starEach [] X.env))) _ _ s
 refine dX ?_
 refine cF (u0 I r w z ?_ C g)
 refine cU (zG (zB O zD L c l s σ H (fun xs D=>match xs with| [x]=>zBN X.K x D Q|_=>False) I ?_) fun us s1 ⟨vs,D,M,U,d⟩=>?_) L rfl
 ·exact h
 ·obtain⟨x,rfl,d⟩:∃x,vs=[x]/\zBN X.K x D Q:=by
   match vs,d with
   | [x],d=>exact⟨x,rfl,d⟩
   | [],d=>exact d.elim
   |_::_::_,d=>exact d.elim
  obtain⟨a,ks,rfl,E,F,q⟩:=d
  obtain⟨u,rfl,W⟩:=vS U
  cases W
  obtain⟨its,N,Y,_⟩:=M.list E
  have f:its.toArray.size=ks.length:=by have:=N.length;simp at this;simp[this]
  refine zIz (A:=X.A) (I.ok.hd J) Y.isList f (fun i v n=>?_) (by unfold scanBound;omega) fun h' tk Z k=>?_
  ·have hi:i<ks.length:=by
    rw[<-f]
    exact(Array.getElem?_eq_some_iff.mp n).1
   obtain⟨u,e1,e2⟩:=N.get (i:=i) (x:=.str (ks.getD i ⟨#[]⟩)) (by rw[az];simp[hi])
   have o:its[i]?=some v:=by simpa using n
   rw[e1]at o
   injection o with o
   subst o
   obtain⟨t,rfl⟩:=e2
   simp[ck]
  ·refine eU ?_
   exact zIY J (M.grown (tk:=tk) fun b u e=>k b u (aA e) e) Z F q
end
end L2
end
section
namespace Kn
open PySem L2
theorem gU {c:Bool}{A B:Prop}(a:c=false)(h:B):if c=true then A else B:=by rw[a];exact vU h
theorem zED {c:Bool}{A B:Prop}(a:c=true)(h:A):if c=true then A else B:=by rw[a];exact zCH h
theorem zJC {X:Cx}(i:ai)(l:X.K=i){o e:bV}{c:List bV}{j:TE}{t:TA}{name:Str}{apos a:Pos}{T id:String}{r:V->List V->Hp->VK->Prop}(m:jz T)(slot:Slot T name id)(h:typeOf (.builtin id)=pure (.type "method_descriptor"))(n:jB X id r)(p:PE X o j)(q:PA X (e::c) t)
  (d:attributeBase o name X.env (eval o X.env)=eval o X.env:=by rfl)
  (g:((backTo a (starEach (e::c) X.env)).all (fun x=>!x.1)&& (backToKw a (keywordEach [] X.env)).all (fun x=>x.1.isSome)
   &&decide ((e::c).length+([]:List jk).length+(if([]:List jk).isEmpty then 0 else 1)<30))=true:=by rfl)
  (f:(apos.endLine==a.line)=true:=by rfl) (s:starEach (e::c) X.env=(false,eval e X.env)::starEach c X.env:=by rfl) (b:(backTo a (starEach c X.env)).any (·.1)=false:=by rfl) :
  PE X (.Call (.Attribute o name apos) (e::c) [] a) (tBM i T r j t):=by
 subst l
 exact zAG m slot h n p q d g f s b
theorem zJD {X:Cx}(l:ai)(n:X.K=l){x y:Str}{e:bV}{m:TE}{p c pos a:Pos}(hu:X.A.units+64<cLine)(o:X.calm=true)(q:PE X e m)(r:Gl X x)(s:X.mg x=none)(u:bootBuiltins x=some (.builtin "sorted"))(d:Gl X y)(f:X.mg y=none)(g:bootBuiltins y=some (.type "set"))
  (v:x≠"__name__" :=by decide) (h:(x==("__debug__" : Str))=false:=by decide) (i:y≠"__name__" :=by decide) (b:(y==("__debug__" : Str))=false:=by decide)
  (w:starEach [e] X.env=(false,eval e X.env)::starEach [] X.env:=by rfl)
  (j:starEach [Expr.Call (.Name y c) [e] [] a] X.env=(false,eval (Expr.Call (.Name y c) [e] [] a) X.env)::starEach [] X.env:=by rfl) :
  PE X (.Call (.Name x p) [.Call (.Name y c) [e] [] a] [] pos) (zEC l m):=by
 subst n
 exact zIv hu o q r s u d f g v h i b w j
def jM (y x:S):Bool:=!(cp (tx x) (tx y) 0 (tx x).length 1).isEmpty
theorem gW {o:Nat}:∀{bk:List S},(∀x∈bk,x.length<=5)->(zC o bk).length<=6*bk.length
 | [],_=>ay _
 |x::r,h=>by
  have ih:=gW (o:=o) (bk:=r) fun y a=>h y (au _ a)
  have b:=h x (ao ..)
  have e1:zC o (x::r)=z7 o x++zC o r:=rfl
  rw[e1,aD,bf]
  have c:(z7 o x).length=x.length+1:=by simp[z7]
  omega
theorem zBO {L:List S}(h:∀x∈L,∀c∈x,c<=122):cV (.list (L.map fun x=>PyData.str (tx x)))=true/\(PyData.list (L.map fun x=>PyData.str (tx x))).canLay0=true:=by
 refine gM fun d hd=>?_
 obtain⟨x,a,rfl⟩:=aB.mp hd
 refine⟨?_,by simp only[dY];decide⟩
 simp only[cD,kI (h x a)]
theorem kK {K:ai}{H:Hp}:∀L:List S,Reps K H (L.map fun x=>PyData.str (tx x)) (L.map sv)
 | []=>rfl
 |x::L=>⟨_,_,rfl,rfl,kK L⟩
theorem zEE {x y:S}(h:sv x=sv y):x=y:=by injection h with h;exact uW h
theorem zJE {o:Nat}{bk:List S}(h:isBk bk){tb:List (S×List (S×Int))}(t:IsTable (zC o bk) tb):cV (.list (tb.map qG))=true/\(PyData.list (tb.map qG)).canLay0=true:=by
 refine gM fun d hd=>?_
 obtain⟨r,j,rfl⟩:=aB.mp hd
 obtain⟨e,b⟩:=r
 have f:=t.row e b j
 obtain⟨v,hl0⟩:=(t.has e).mp ⟨b,j⟩
 have a:bx (b.map yT)=true/\cc (b.map yT)<=4:=by
  have go:∀l:List (S×Int),(∀q∈l,∀c∈q.1,c<=122)->bx (l.map yT)=true/\cc (l.map yT)<=4:=by
   intro l
   induction l with
   |nil=>intro _;exact⟨rfl,by decide⟩
   |cons q l ih=>
    intro g
    obtain⟨m,w⟩:=ih fun x n=>g x (au _ n)
    have p:=(zDT (g q (ao ..))).1
    have y:(yT q).depth<=4:=by
     unfold yT
     simp only[dY,cc]
     decide
    refine⟨by rw[aM];simp only[bx,p,m,d5],?_⟩
    rw[aM]
    simp only[cc];omega
  refine go b fun q g c i=>?_
  have:=(f.mem q.1 q.2).mp g
  have s:(e,q.1)∈zC o bk:=bj.mp (by omega)
  exact((qN h s).2 c i).2
 have u:=kI (t:=e) fun c i=>((qN h hl0).1 c i).2
 unfold qG
 constructor
 ·simp only[cD,bx,u,a.1,d5]
 ·simp only[dY,cc]
  omega
theorem zJF {a:List (S×Int)}(l:yH a){pm:List Nat}(f:pm.Perm (aS a.length))
  (g:(pm.map fun i=>(((a.map fun q=>(tx q.1,q.2)).getD i (⟨#[]⟩,0)).1.cps.toList)).Pairwise (· < ·)):pm=aS a.length:=by
 have key:∀i,(hi:i<a.length)->((a.map fun q=>(tx q.1,q.2)).getD i ((⟨#[]⟩:Str),(0:Int))).1.cps.toList=a[i].1:=fun i hi=>by
  simp[hi]
 refine zDV ?_ List.pairwise_lt_range fun x=>f.mem_iff
 rw[aQ]at g
 refine eJ ?_ g
 intro i j hi m b
 have c:i<a.length:=bp.mp (f.mem_iff.mp hi)
 have d:j<a.length:=bp.mp (f.mem_iff.mp m)
 rw[key i c,key j d]at b
 by_cases h:i<j
 ·exact h
 ·exfalso
  by_cases e:i=j
  ·subst e;exact qE _ b
  ·have n:=dn.mp l j i d c (by omega)
   exact qE _ (zCl b n)
theorem zJG {d:List S}(h:d.Pairwise (· < ·)){c:List Str}(g:∀x,x∈c↔x∈d.map tx)(i:c.Pairwise (fun a b=>a.cps.toList<b.cps.toList)):c=d.map tx:=by
 have j:yH (c.map fun x=>(x.cps.toList,())):=by unfold yH;rw[aQ];exact i
 have l:yH (d.map fun x=>(x,())):=by unfold yH;rw[aQ];exact h
 have m:=yH.ext j l fun p=>by
  rw[aB,aB]
  constructor
  ·rintro⟨x,n,rfl⟩
   obtain⟨e,f,rfl⟩:=aB.mp ((g x).mp n)
   exact⟨e,f,by rw[vE]⟩
  ·rintro⟨e,f,rfl⟩
   exact⟨tx e,(g _).mpr (aB.mpr ⟨e,f,rfl⟩),by rw[vE]⟩
 have f:=congrArg (mF lu) m
 rw[aO,aO]at f
 have o:(d.map (lu ∘ fun x=>(x,())))=d:=by
  conv=>rhs;rw[<-f7 d]
  rfl
 have q:(c.map fun x=>x.cps.toList)=d:=by rw[<-o];exact f
 rw[<-q]
 exact(zDB c).symm
section
variable{P:aI}{w:aR}{K:ai}{mg:Str->Option af}{base:bt}
structure LawC (P:aI) (w:aR) (K:ai) (mg:Str->Option af) (base:bt):Prop where
 dr:cDr P w K mg base
 bk:yE P w K mg base 4 "_law_book" ["_law_script","_law_at","_law_many","_law_most"] (zDP K)
 pr:yE P w K mg base 1 "_law_pairs" ["_law_rows"] (zDd K)
 tb:yE P w K mg base 4 "table" ["book","order"] (zDD K)
 bh:yE P w K mg base 4 "behind" ["book","order","text"] (zDG K)
def kL (K:ai):Sp:=fun vs H Q _=>∃(a:av) (ns:List Int),vs=[.ref a]/\zV K H a (ns.map V.int)/\ns.length<=63/\∀H',Q (.bl true) H'
abbrev uQ:dB:=top 29
theorem zEF:FnScope ["_law_script","_law_book_here","_law_order","_law_rows","_law_pairs_here","_law_end","_law_letter","_law_many","_law_places","_law_more","_law_sums","_law_key","_law_twice","_law_due","_law_ends"] ["_law_script"] (defScope uQ):=yR
theorem ndA:(["_law_letter","_law_many"]:List Str).Nodup:=by decide+kernel
theorem gX:(["_law_end","_law_row"]:List Str).Nodup:=by decide+kernel
theorem ndC:(["_law_name_here"]:List Str).Nodup:=by decide+kernel
theorem v7:(["_law_end","_law_letter","_law_many"]:List Str).Nodup:=by decide+kernel
theorem ndP:(["_law_end","_law_letter","_law_name_here"]:List Str).Nodup:=by decide+kernel
theorem ndE:(["_law_end","_law_name_here"]:List Str).Nodup:=by decide+kernel
theorem ndD:(["_law_book_here","_law_order","_law_end","_law_row"]:List Str).Nodup:=by decide+kernel
theorem zJH {f:av}{fd:bw}(F:Fun K "law" "law" uQ f fd)(B:Blt mg)(B2:Blt2 mg)(hset:mg "set"=none)(C:LawC P w K mg base):FnOk P w K mg base z6 8 f fd ["_law_script"] (kL K):=by
 refine F.ok zEF (fun vs H Q E h=>?_) (fun cdv A outer s H vs Q E hr h=>?_)
 ·obtain⟨a,ns,rfl,_⟩:=h;rfl
 ·obtain⟨a,ns,rfl,ha,hl,k⟩:=h
  have nd:=zEF.nd
  have hu:=hr.units
  have hu1:=k5 hr
  have r4:=hr.mono (j:=4) (by decide)
  have r2:=hr.mono (j:=2) (by decide)
  have r1:=hr.mono (j:=1) (by decide)
  refine⟨_,zO (yO (i:=1) nd rfl (Or.inr rfl) (zX C.bk r4 rfl (zB (pv 0) (zB zT (zB zT (zB zT zD))))))
   (zO (yO (i:=2) nd rfl (Or.inr rfl) (zN yP zT (zX C.dr r2 rfl (zB (pv 0) (zB zT (zB zT zD))))))
   (zO (yO (i:=3) nd rfl (Or.inl rfl) (zX C.tb r4 rfl (zB (pv 1) (zB (pv 2) zD))))
   (zO (yO (i:=4) nd rfl (Or.inl rfl) (zX C.pr r1 rfl (zB (pv 3) zD)))
   (zO (vC (yW kW (yD (gA rfl) (by rfl) B.sum ee (zB
     (vL (N:=["_law_letter","_law_many"]) (caps:=[]) rfl (y6 (by kernel_rfl)) (vR (zX C.bh r4 rfl (zB (pv 1) (zB (pv 2) (zB uZ zD)))))
      (fun cl X s H ex=>uX K 2 rfl rfl (z0 (zM (i:=0) ndA rfl (Or.inl rfl)) (z0 (zM (i:=1) ndA rfl (Or.inl rfl)) vQ)) rfl rfl)
      (fun cl X s H ex=>v3) (fun cl X s H ex=>pv 1)) zD)) (yD jU (by rfl) B.len cE (zB (pv 1) zD)) (yV _)) (zS (z9 uK)) vB)
   (zO (vC (yW kW (yD (gA rfl) (by rfl) B.sum ee (zB
     (vL (N:=["_law_end","_law_letter","_law_many"]) (caps:=[]) rfl (y6 (by kernel_rfl)) (vR (pv 4))
      (fun cl X s H ex=>uX K 3 rfl rfl (z0 (zM (i:=0) v7 rfl (Or.inl rfl)) (z0 (zM (i:=1) v7 rfl (Or.inl rfl)) (z0 (zM (i:=2) v7 rfl (Or.inl rfl)) vQ))) rfl rfl)
      (fun cl X s H ex=>j3 (yW zBf (pv 1) uZ (yV _))) (fun cl X s H ex=>pv 2)) zD)) (yD jU (by rfl) B.len cE (zB (pv 1) zD)) (yV _)) (zS (z9 uK)) vB)
   (zO (vC (yW kW (yD (gA rfl) (by rfl) B.sum ee (zB
     (vL (N:=["_law_end","_law_letter","_law_many"]) (caps:=[]) rfl (y6 (by kernel_rfl)) (vR (pv 4))
      (fun cl X s H ex=>uX K 3 rfl rfl (z0 (zM (i:=0) v7 rfl (Or.inl rfl)) (z0 (zM (i:=1) v7 rfl (Or.inl rfl)) (z0 (zM (i:=2) v7 rfl (Or.inl rfl)) vQ))) rfl rfl)
      (fun cl X s H ex=>v3) (fun cl X s H ex=>pv 2)) zD)) (yD (gA rfl) (by rfl) B.sum ee (zB
     (vL (N:=["_law_name_here"]) (caps:=[]) rfl (y6 (by kernel_rfl)) (qU (pv 1)) (fun cl X s H ex=>zM (i:=0) ndC rfl (Or.inl rfl)) (fun cl X s H ex=>v3)
      (fun cl X s H ex=>zN yP (yD jV (by rfl) B.len cE (zB (pv 0) zD)) zT)) zD)) (yV _)) (zS (z9 uK)) vB)
   (zO (qW d3 rfl (vR (pv 4)) (jQ rfl (z0 (zM (i:=5) nd rfl (Or.inr rfl)) (z0 (zM (i:=6) nd rfl (Or.inr rfl)) (z0 (zM (i:=7) nd rfl (Or.inl rfl)) vQ))))
    (zO (zBD (j:=8) (N:=["_law_end","_law_letter","_law_name_here"]) (caps:=[5,6]) nd rfl (Or.inl rfl) rfl (y6 (by kernel_rfl)) (qU (pv 1)) (fun cl X s H ex=>zM (i:=2) ndP rfl (Or.inl rfl))
      (fun cl X s H ex=>j3 (yW zBg (zN zEv (pv 0) (pv 1)) (pv 2) (by with_unfolding_all rfl))) (fun cl X s H ex=>pv 2))
    (zS (vC (PW.pt (qI (yW (k7 hu) (pv 8) (qL zD) (yV _)) (qI (yW zEt (pv 7) zT (yV _))
      (qS (PW.pt (zEY (yW zBf (pv 6) uZ (yV _)) (zEX (yW (k7 hu)
       (vL (N:=["_law_end","_law_name_here"]) (caps:=[5]) rfl (y6 (by kernel_rfl)) (qU (pv 1)) (fun cl X s H ex=>zM (i:=1) ndE rfl (Or.inl rfl))
        (fun cl X s H ex=>j3 (u1 (zJC K rfl ir PySem.F.slot_str_endswith PySem.F.type_str_endswith zGX (pv 1) (zB (pv 0) zD)))) (fun cl X s H ex=>pv 1)) (qL zD) (yV _)))))))))
     (zS (z9 uK)) vB))))
   (zO (yO (i:=9) nd rfl (Or.inl rfl) (zX C.pr r1 rfl (zB (zX C.tb r4 rfl (zB (pv 1) (zB (zN yP (pv 2) zT) zD))) zD)))
   (zO (yO (i:=10) nd rfl (Or.inl rfl) zFh)
   (zO (qW d3 rfl (vR (pv 9)) (jQ rfl (z0 (zM (i:=5) nd rfl (Or.inr rfl)) (z0 (zM (i:=6) nd rfl (Or.inr rfl)) (z0 (zM (i:=7) nd rfl (Or.inl rfl)) vQ))))
    (zO (yO (i:=11) nd rfl (Or.inl rfl) (uT (zB (k9 (pv 5) (jT (yD (zEw rfl) (by rfl) B2.max n6 (zB zT (zB (zN zEs (yD jV (by rfl) B.len cE (zB (pv 5) zD)) (pv 2)) zD)))) zAD) (zB (pv 6) zD))))
    (zS (zCE hu1 (pv 10) (pv 11) (zN yP (zAL hu1 (pv 10) (pv 11) zT ⟨rfl,rfl,rfl,rfl⟩) (pv 7)) rfl))))
   (zO (vC (yW (zHx hu) (pv 10) (kY (zHs hu rfl) (by rfl) B2.dict nY (zB
     (vL (N:=["_law_end","_law_letter","_law_many"]) (caps:=[]) rfl (y6 (by kernel_rfl)) (vR (pv 4))
      (fun cl X s H ex=>uX K 3 rfl rfl (z0 (zM (i:=0) v7 rfl (Or.inl rfl)) (z0 (zM (i:=1) v7 rfl (Or.inl rfl)) (z0 (zM (i:=2) v7 rfl (Or.inl rfl)) vQ))) rfl rfl)
      (fun cl X s H ex=>v3) (fun cl X s H ex=>uT (zB (uT (zB (pv 0) (zB (pv 1) zD))) (zB (pv 2) zD)))) zD)) (yV _)) (zS (z9 uK)) vB)
   (zO (yO (i:=12) nd rfl (Or.inl rfl) (zX C.pr r1 rfl (zB (zX C.tb r4 rfl (zB (zN zBr (pv 1) (pv 1)) (zB (pv 2) zD))) zD)))
   (zO (zBD (j :=13) (N := ["_law_end","_law_letter","_law_many"]) (caps := []) nd rfl (Or.inl rfl) rfl (y6 (by kernel_rfl)) (vR (pv 4))
         (fun cl X s H ex=>uX K 3 rfl rfl (z0 (zM (i:=0) v7 rfl (Or.inl rfl)) (z0 (zM (i:=1) v7 rfl (Or.inl rfl)) (z0 (zM (i:=2) v7 rfl (Or.inl rfl)) vQ))) rfl rfl)
      (fun cl X s H ex=>v3) (fun cl X s H ex=>uT (zB (pv 0) (zB (pv 1) (zB (zN u9 zT (pv 2)) zD)))))
   (zO (vC (PW.pt (qI (yW (j4 hu) (pv 12) (pv 13) (yV _)) (qS (yW (j4 hu) (zX C.tb r4 rfl (zB (zGV (pv 1) (zBW zBZ zT)) (zB (pv 2) zD))) (pv 3) (yV _))))) (zS (z9 uK)) vB)
   (zO (zBD (j :=14) (N := ["_law_end","_law_row"]) (caps := []) nd rfl (Or.inl rfl) rfl (y6 (by kernel_rfl)) (vR (pv 3))
         (fun cl X s H ex=>uX K 2 rfl rfl (z0 (zM (i:=0) gX rfl (Or.inl rfl)) (z0 (zM (i:=1) gX rfl (Or.inl rfl)) vQ)) rfl rfl)
      (fun cl X s H ex=>v3) (fun cl X s H ex=>pv 0))
   (zO (vC (PW.pt (qI (yW (j4 hu) (pv 14) (zJB rfl (pv 14) (by rfl) B.sorted cL (by rfl) hset iR) (yV _))
     (qS (yW (j4 hu) (vL (N:=["_law_end","_law_row"]) (caps:=[]) rfl (y6 (by kernel_rfl)) (vR (pv 3))
      (fun cl X s H ex=>uX K 2 rfl rfl (z0 (zM (i:=0) gX rfl (Or.inl rfl)) (z0 (zM (i:=1) gX rfl (Or.inl rfl)) vQ)) rfl rfl)
      (fun cl X s H ex=>j3 (yW (zDR K rfl hu) (kY (zDS K rfl) (by rfl) B2.list iA (zB (pv 1) zD)) (zJD K rfl hu rfl (pv 1) (by rfl) B.sorted cL (by rfl) hset iR) (yV _)))
      (fun cl X s H ex=>pv 1)) (qL zD) (yV _))))) (zS (z9 uK)) vB)
   (zS (z9 (zBh (k7 hu) (vL (N := ["_law_book_here","_law_order","_law_end","_law_row"]) (caps := [1,2]) rfl (y6 (by kernel_rfl)) (vR (pv 3))
         (fun cl X s H ex=>uX K 2 rfl rfl (z0 (zM (i:=2) ndD rfl (Or.inl rfl)) (z0 (zM (i:=3) ndD rfl (Or.inl rfl)) vQ)) rfl rfl)
      (fun cl X s H ex=>j3 (yW (zDR K rfl hu) (zX C.bh r4 rfl (zB (pv 0) (zB (pv 1) (zB (pv 2) zD)))) (kY (zDS K rfl) (by rfl) B2.list iA (zB (pv 3) zD)) (yV _)))
      (fun cl X s H ex=>pv 2)) (qL zD) (yV _))))))))))))))))))))
   ,?_⟩
  refine⟨_,rfl,a,ns,0,4,5,rfl,ha,hl,by decide,by decide,by decide,by decide,fun b bk H1 s1 hb1 bl1 bl2 bn=>?_⟩
  refine⟨_,rfl,a,ns,60,2,rfl,s1.seq ha,hl,by decide,by decide,fun od H2 hod s2=>⟨_,_,rfl,rfl,?_⟩⟩
  have hbk:H2 b=some (.tup (zU bk)):=s2 _ _ hb1
  have b5:∀x∈bk,x.length<=5:=fun x hx=>(bn x hx).2.1
  have babz:∀x∈bk,∀c∈x,c=97\/c=98\/c=122:=fun x hx=>(bn x hx).2.2
  have b122:∀x∈bk,∀c∈x,c<=122:=fun x hx c hc=>by rcases babz x hx c hc with z|z|z<;>omega
  have hB:Bk bk (1+od):=⟨⟨bl1,by omega,fun x hx=>(bn x hx).1⟩,by omega,by omega⟩
  have hB1:Bk bk (1+od+1):=⟨⟨bl1,by omega,fun x hx=>(bn x hx).1⟩,by omega,by omega⟩
  have hBB:Bk (bk++bk) (1+od):=⟨⟨by rw[aD];omega,by rw[aD];omega,fun x hx=>by rcases b8.mp hx with z|z<;>exact(bn x z).1⟩,by omega,by omega⟩
  have hBR:Bk bk.reverse (1+od):=⟨⟨by rw[eF];omega,by rw[eF];omega,fun x hx=>(bn x (lW.mp hx)).1⟩,by omega,by omega⟩
  have pl:(zC (1+od) bk).length<=24:=cm (gW b5) (by omega)
  have pl1:(zC (1+od+1) bk).length<=24:=cm (gW b5) (by omega)
  have plb:(zC (1+od) (bk++bk)).length<64:=by rw[gH,aD];omega
  have plr:(zC (1+od) bk.reverse).length<64:=by
   have:=gW (o:=1+od) (bk:=bk.reverse) fun x hx=>b5 x (lW.mp hx)
   rw[eF]at this
   omega
  have ebk:(zU bk).length=bk.length:=by simp[zU]
  have nbk:zU bk≠[]:=fun z=>by rw[z]at ebk;simp at ebk;omega
  refine⟨_,rfl,_,rfl,b,bk,1+od,rfl,hbk,hB,by omega,fun tb lt ts H3 it s3 hl3 h3 rp3=>?_⟩
  have tbLen:∀{ps:List (S×S)} {t:List (S×List (S×Int))},IsTable ps t->t.length<=ps.length:=fun{ps t} it=>by
   have h2:=it.total
   have go:∀l:List (S×List (S×Int)),(∀r∈l,r∈t)->(l.length:Int)<=(l.map fun r=>(r.2.map (·.2)).sum).sum:=by
    intro l
    induction l with
    |nil=>intro _;simp
    |cons r l ih=>
     intro hl'
     have a1:=ih fun x hx=>hl' x (au _ hx)
     have hr:=hl' r (ao ..)
     obtain⟨e,rs⟩:=r
     have irow:=it.row e rs hr
     obtain⟨l0,hl0⟩:=(it.has e).mp ⟨rs,hr⟩
     have t1:=irow.total
     have t2:0<(ps.filter fun p=>p.1=e).length:=iu (bY.mpr ⟨hl0,by simp⟩)
     rw[aM,cK,bf]
     have:((l.length+1:Nat):Int)=(l.length:Int)+1:=rfl
     have t3:((rs.map (·.2)).sum:Int)>=1:=by omega
     show((l.length+1:Nat):Int)<=(rs.map (·.2)).sum+_
     omega
   have:=go t fun _ h=>h
   omega
  have htb:=tbLen it
  have htl:ts.length=tb.length:=by have:=rp3.length;simpa using this.symm
  have itr:=it.trip
  have htr:=itr.len
  refine⟨_,rfl,lt,tb,ts,rfl,.of h3,rp3,by omega,by omega,fun lp us H4 s4 hlp h4 rp4=>?_⟩
  have sm4:=s3.trans s4
  have h34:=s4 _ _ h3
  have rp34:=Reps.same s4 _ _ rp3
  have hul:us.length=(trip tb).length:=by have:=rp4.length;simpa using this.symm
  refine⟨_,rfl,_,rfl,b,bk,1+od,[],rfl,sm4 _ _ hbk,hB,.inl rfl,by omega,fun rs l xs H5 r5 s5 hl5 h5 rp5=>?_⟩
  have hxl:xs.length=rs.length:=by have:=rp5.length;simpa using this.symm
  have hrl:=r5.len
  refine⟨l,rfl,⟨_,.of h5⟩,?_⟩
  refine v5 (vV K l xs) [] 2 (by omega) (fun i acc H2=>zA H5 H2/\acc=((rs.take i).map (·.2)).map V.int) ⟨zA.refl _,rfl⟩
   (fun i acc H2 _ h=>⟨.of (h.1 _ _ h5),by rw[h.2,ak,ak,aW];omega⟩) ?_ ?_
  ·rintro j y acc' H3 ys' Nx2 hN2 hx2 hy2 ⟨sm2,rfl⟩
   obtain⟨z1,z2,rfl⟩:=j9 hy2
   obtain⟨q,aq,eq,rfl,hsq2⟩:=zAz (Reps.same sm2 _ _ rp5) hx2
   have hj:j<rs.length:=(ah.mp eq).1
   refine⟨aq,[sv q.1,.int q.2],rfl,hsq2,rfl,_,_,rfl,_,_,rfl,rfl,_,rfl,hN2 _ _ [_,_] rfl ⟨sm2,?_⟩⟩
   rw[aF hj,(ah.mp eq).2,aJ,aJ];rfl
  rintro acc H6 ⟨sm6,rfl⟩ D6 hD6
  rw[hxl,ba]
  have u6:=zA.upd1 (o:=.lst ((rs.map (·.2)).map V.int)) hD6
  have s46:=s5.trans (sm6.trans u6)
  have sm7:=sm4.trans s46
  have etot:(rs.map (·.2)).sum=(bk.length:Int):=by
   rw[r5.total]
   have e0:zP ([]:S) (1+od)=[]:=by simp[zP]
   rw[e0,zGg (by omega)]
  refine⟨D6,_,rfl,.of zH,_,rfl,b,zU bk,rfl,.inr (.of (sm7 _ _ hbk)),rfl,_,rfl,jC (by rw[etot,ebk]) ?_⟩
  have h37:=s46 _ _ h34
  have rp37:=Reps.same s46 _ _ rp34
  have h47:=s46 _ _ h4
  have rp47:=Reps.same s46 _ _ rp4
  generalize upd H6 D6 (.lst ((rs.map (·.2)).map V.int))=H7 at*
  refine⟨_,rfl,lp,rfl,⟨_,.of h47⟩,?_⟩
  refine jG (vV K lp us) [] 3 (by omega) (fun i acc H2=>zA H7 H2/\acc=((((trip tb).take i).filter fun t=>decide (t.1.2=[])).map (·.2)).map V.int) ⟨zA.refl _,rfl⟩
   (fun i acc H2 _ h=>⟨.of (h.1 _ _ h47),by
    rw[h.2,ak,ak]
    exact cm (d8 ..) (by rw[aW];omega)⟩) ?_ ?_
  ·rintro i x acc H8 ys Nx hN hx hy ⟨sm,rfl⟩
   obtain⟨y1,y2,y3,rfl⟩:=gI hy
   obtain⟨q,at',ep,rfl,hsq⟩:=jJ (Reps.same sm _ _ rp47) hx
   have hi:i<(trip tb).length:=(ah.mp ep).1
   refine⟨at',[sv q.1.1,sv q.1.2,.int q.2],rfl,hsq,rfl,_,_,rfl,_,_,rfl,_,_,rfl,rfl,?_⟩
   have etk:(trip tb).take (i+1)=(trip tb).take i++[q]:=by rw[aF hi,(ah.mp ep).2]
   refine⟨_,rfl,rfl,_,rfl,?_⟩
   by_cases c:q.1.2=[]
   ·refine j7 (by rw[c];rfl) ?_
    refine⟨_,rfl,hN _ _ [_,_,_] rfl ⟨sm,?_⟩⟩
    rw[etk,bW,cu (by simpa using c)];simp
   ·refine zAX (fun z=>c (zEE (y:=[]) z)) ?_
    refine hN _ _ [_,_,_] rfl ⟨sm,?_⟩
    rw[etk,bW,dR (by simpa using c)];simp
  rintro acc H8 ⟨sm8',rfl⟩ D8 hD8
  rw[hul,ba]
  have u8:=zA.upd1 (o:=.lst ((((trip tb).filter fun t=>decide (t.1.2=[])).map (·.2)).map V.int)) hD8
  have s78:=sm8'.trans u8
  have sm8:=sm7.trans s78
  refine⟨D8,_,rfl,.of zH,_,rfl,b,zU bk,rfl,.inr (.of (sm8 _ _ hbk)),rfl,_,rfl,jC (by rw[itr.sum fun p=>decide (p.2=[]),zHd,ebk]) ?_⟩
  have h38:=s78 _ _ h37
  have rp38:=Reps.same s78 _ _ rp37
  have h48:=s78 _ _ h47
  have rp48:=Reps.same s78 _ _ rp47
  generalize upd H8 D8 (.lst ((((trip tb).filter fun t=>decide (t.1.2=[])).map (·.2)).map V.int))=H9 at*
  refine⟨_,rfl,lp,rfl,⟨_,.of h48⟩,?_⟩
  refine v5 (vV K lp us) [] 3 (by omega) (fun i acc H2=>zA H9 H2/\acc=(((trip tb).take i).map (·.2)).map V.int) ⟨zA.refl _,rfl⟩
   (fun i acc H2 _ h=>⟨.of (h.1 _ _ h48),by rw[h.2,ak,ak,aW];omega⟩) ?_ ?_
  ·rintro i x acc HA ys Nx hN hx hy ⟨sm,rfl⟩
   obtain⟨y1,y2,y3,rfl⟩:=gI hy
   obtain⟨q,at',ep,rfl,hsq⟩:=jJ (Reps.same sm _ _ rp48) hx
   have hi:i<(trip tb).length:=(ah.mp ep).1
   refine⟨at',[sv q.1.1,sv q.1.2,.int q.2],rfl,hsq,rfl,_,_,rfl,_,_,rfl,_,_,rfl,rfl,_,rfl,hN _ _ [_,_,_] rfl ⟨sm,?_⟩⟩
   rw[aF hi,(ah.mp ep).2,aJ,aJ];rfl
  rintro acc HA ⟨smA',rfl⟩ DA hDA
  rw[hul,ba]
  have uA:=zA.upd1 (o:=.lst (((trip tb).map (·.2)).map V.int)) hDA
  refine⟨DA,_,rfl,.of zH,?_⟩
  have s9A:=smA'.trans uA
  have smA:=sm8.trans s9A
  refine⟨_,rfl,b,rfl,⟨_,.of (smA _ _ hbk)⟩,?_⟩
  refine v5 (jF K b (zU bk)) [] 1 (by rw[ebk];omega) (fun i acc H2=>zA (upd HA DA (.lst (((trip tb).map (·.2)).map V.int))) H2/\acc=((bk.take i).map fun x=>(x.length:Int)+1).map V.int) ⟨zA.refl _,rfl⟩
   (fun i acc H2 _ h=>⟨.of (h.1 _ _ (smA _ _ hbk)),by rw[h.2,ak,ak,aW];omega⟩) ?_ ?_
  ·rintro i x acc H2 ys Nx hN hx hy ⟨sm,rfl⟩
   obtain⟨y1,rfl⟩:=qF hy
   rw[zU,az]at hx
   cases ep:bk[i]? with
   |none=>rw[ep]at hx;cases hx
   |some tl=>
   rw[ep]at hx
   have hy2:x=sv tl:=(aH hx).symm
   subst hy2
   have hi:i<bk.length:=(ah.mp ep).1
   have h5:=b5 tl (aU ep)
   refine⟨_,rfl,tx tl,rfl,by rw[yA,aV];omega,_,_,rfl,rfl,hN _ _ [_] rfl ⟨sm,?_⟩⟩
   rw[aF hi,(ah.mp ep).2,aJ,aJ,yA];rfl
  rintro acc HB ⟨smB',rfl⟩ DB hDB
  rw[ebk,ba]
  have uB:=zA.upd1 (o:=.lst ((bk.map fun x=>(x.length:Int)+1).map V.int)) hDB
  refine⟨DB,_,rfl,.of zH,rfl,_,rfl,jC (by rw[itr.total,zCm]) ?_⟩
  have sAB:=s9A.trans (smB'.trans uB)
  have smB:=sm8.trans sAB
  have h3B:=sAB _ _ h38
  have rp3B:=Reps.same sAB _ _ rp38
  have h4B:=sAB _ _ h48
  have rp4B:=Reps.same sAB _ _ rp48
  generalize upd HB DB (.lst ((bk.map fun x=>(x.length:Int)+1).map V.int))=HC at*
  clear s46 s78 sAB s9A uB smB' uA smA' smA u8 sm8' sm8 u6 sm6 sm7 s5
  refine⟨_,rfl,lp,rfl,⟨_,.of h4B⟩,?_⟩
  refine jH (vV K lp us) (fun i σ H'=>(∃x5 x6 x7 x8:Option V,σ=[some (.ref a),some (.ref b),some (.int ((1+od:Nat):Int)),some (.ref lt),some (.ref lp),x5,x6,x7,x8,none,none,none,none,none,none])/\zA HC H')
   ⟨⟨_,_,_,_,rfl⟩,zA.refl _⟩ (fun i σ H' _ h=>.of (h.2 _ _ h4B)) ?_ ?_
  ·rintro i x σ H' Nx hN hx ⟨⟨x5,x6,x7,x8,rfl⟩,sm⟩
   obtain⟨q,at',ep,rfl,hsq⟩:=jJ (Reps.same sm _ _ rp4B) hx
   have hq:=aU ep
   obtain⟨hq1,hq2⟩:=(itr.mem q.1 q.2).mp hq
   have hqp:(q.1.1,q.1.2)∈zC (1+od) bk:=bj.mp (by
    show 0<(zC (1+od) bk).count q.1
    omega)
   obtain⟨nm,hnm,pa',pr,enm,hend⟩:=zHh hqp
   have hql:q.1.1.length+q.1.2.length<=5:=by
    have h1:=b5 nm hnm
    rw[enm]at h1
    simp only[aD]at h1
    omega
   refine⟨at',[sv q.1.1,sv q.1.2,.int q.2],rfl,hsq,rfl,_,_,rfl,_,_,rfl,_,_,rfl,rfl,?_⟩
   have hb':=sm _ _ (smB _ _ hbk)
   refine⟨_,rfl,b,rfl,⟨_,.of hb'⟩,?_⟩
   refine jG (jF K b (zU bk)) [some (sv q.1.1),some (sv q.1.2)] 1 (by rw[ebk];omega) (fun i acc H2=>zA H' H2/\acc=((bk.take i).filter (jM (q.1.1++q.1.2))).map sv) ⟨zA.refl _,rfl⟩
    (fun i acc H2 _ h=>⟨.of (h.1 _ _ hb'),by
     rw[h.2,ak]
     exact cm (d8 ..) (by rw[aW];omega)⟩) ?_ ?_
   ·rintro j y acc H2 ys Nx2 hN2 hx2 hy ⟨sm2,rfl⟩
    obtain⟨y1,rfl⟩:=qF hy
    rw[zU,az]at hx2
    cases eq:bk[j]? with
    |none=>rw[eq]at hx2;cases hx2
    |some t=>
    rw[eq]at hx2
    have hy2:y=sv t:=(aH hx2).symm
    subst hy2
    have hj:j<bk.length:=(ah.mp eq).1
    have etk:bk.take (j+1)=bk.take j++[t]:=by rw[aF hj,(ah.mp eq).2]
    refine⟨_,rfl,_,rfl,_,_,rfl,rfl,by rw[yA,yA,aV];omega,?_⟩
    refine⟨_,rfl,_,_,rfl,rfl,_,rfl,?_⟩
    rw[zHW]
    by_cases c:jM (q.1.1++q.1.2) t=true
    ·refine zED c ⟨_,rfl,hN2 _ _ [_] rfl ⟨sm2,?_⟩⟩
     rw[etk,bW,cu c];simp
    ·refine gU (lE.mpr c) (hN2 _ _ [_] rfl ⟨sm2,?_⟩)
     rw[etk,bW,dR c];simp
   rintro acc H2' ⟨sm2,rfl⟩ D hD
   rw[ebk,ba]
   obtain⟨w0,ws,ew⟩:∃w0 ws,(bk.filter (jM (q.1.1++q.1.2)))=w0::ws:=by
    have hm:nm∈bk.filter (jM (q.1.1++q.1.2)):=by
     refine bY.mpr ⟨hnm,?_⟩
     have:=zHn pa' (q.1.1++q.1.2) pr
     rw[<-enm]at this
     show(!(cp (tx nm) (tx (q.1.1++q.1.2)) 0 (tx nm).length 1).isEmpty)=true
     rw[this];rfl
    cases e:(bk.filter (jM (q.1.1++q.1.2)))with
    |nil=>rw[e]at hm;cases hm
    |cons w0 ws=>exact⟨w0,ws,rfl⟩
   have hws:∀x∈w0::ws,∀c∈x,c<=122:=fun x hx=>b122 x ((bY.mp (show x∈bk.filter (jM (q.1.1++q.1.2)) by rw[ew];exact hx)).1)
   rw[ew]
   have uD:=zA.upd1 (o:=.lst ((w0::ws).map sv)) hD
   refine⟨_,rfl,by show 0<=sizeLine;decide,fun p hp=>?_⟩
   have up:=zA.upd1 (o:=.lst []) hp
   refine⟨.list ((w0::ws).map fun x=>PyData.str (tx x)),.list [],yZ (up _ _ zH) (kK _),yZ zH rfl,(zBO hws).1,rfl,_,rfl,gU rfl ?_⟩
   refine⟨_,rfl,_,_,rfl,rfl,_,rfl,zAX (by omega) ?_⟩
   have sm3:=sm2.trans (uD.trans up)
   refine⟨_,rfl,rfl,_,rfl,?_⟩
   by_cases c:q.1.2=[]
   ·refine j7 (by rw[c];rfl) ?_
    have hb3:=sm3 _ _ hb'
    refine⟨_,rfl,b,rfl,⟨_,.of hb3⟩,?_⟩
    refine jG (jF K b (zU bk)) [some (sv q.1.1)] 1 (by rw[ebk];omega) (fun i acc H2=>zA (upd (upd H2' D (.lst ((w0::ws).map sv))) p (.lst [])) H2/\acc=((bk.take i).filter fun x=>cJ (tx x) (tx q.1.1)).map sv) ⟨zA.refl _,rfl⟩
     (fun i acc H2 _ h=>⟨.of (h.1 _ _ hb3),by
      rw[h.2,ak]
      exact cm (d8 ..) (by rw[aW];omega)⟩) ?_ ?_
    ·rintro j y acc H5 ys Nx2 hN2 hx2 hy ⟨sm5,rfl⟩
     obtain⟨y1,rfl⟩:=qF hy
     rw[zU,az]at hx2
     cases eq:bk[j]? with
     |none=>rw[eq]at hx2;cases hx2
     |some t=>
     rw[eq]at hx2
     have hy2:y=sv t:=(aH hx2).symm
     subst hy2
     have hj:j<bk.length:=(ah.mp eq).1
     have etk:bk.take (j+1)=bk.take j++[t]:=by rw[aF hj,(ah.mp eq).2]
     refine⟨_,rfl,rfl,_,rfl,_,_,rfl,rfl,_,rfl,?_⟩
     by_cases c2:cJ (tx t) (tx q.1.1)=true
     ·refine zED c2 ⟨_,rfl,hN2 _ _ [_] rfl ⟨sm5,?_⟩⟩
      rw[etk,bW,cu (p:=fun x=>cJ (tx x) (tx q.1.1)) c2];simp
     ·refine gU (lE.mpr c2) (hN2 _ _ [_] rfl ⟨sm5,?_⟩)
      rw[etk,bW,dR (p:=fun x=>cJ (tx x) (tx q.1.1)) c2];simp
    rintro acc H5 ⟨sm5,rfl⟩ D5 hD5
    rw[ebk,ba]
    obtain⟨v0,vs,ev⟩:∃v0 vs,(bk.filter fun x=>cJ (tx x) (tx q.1.1))=v0::vs:=by
     have hm:nm∈bk.filter fun x=>cJ (tx x) (tx q.1.1):=by
      refine bY.mpr ⟨hnm,?_⟩
      have e0:nm=pa'++q.1.1:=by rw[enm,hend c,c];simp
      rw[e0]
      exact zIC _ _
     cases e:(bk.filter fun x=>cJ (tx x) (tx q.1.1))with
     |nil=>rw[e]at hm;cases hm
     |cons v0 vs=>exact⟨v0,vs,rfl⟩
    have hvs:∀x∈v0::vs,∀c∈x,c<=122:=fun x hx=>b122 x (bY.mp (show x∈bk.filter fun x=>cJ (tx x) (tx q.1.1) by rw[ev];exact hx)).1
    rw[ev]
    have uD5:=zA.upd1 (o:=.lst ((v0::vs).map sv)) hD5
    refine⟨by show 0<=sizeLine;decide,fun p5 hp5=>?_⟩
    have up5:=zA.upd1 (o:=.lst []) hp5
    refine⟨.list ((v0::vs).map fun x=>PyData.str (tx x)),.list [],yZ (up5 _ _ zH) (kK _),yZ zH rfl,(zBO hvs).1,rfl,_,rfl,gU rfl ?_⟩
    exact hN _ _ ⟨⟨_,_,_,_,rfl⟩,sm.trans (sm3.trans (sm5.trans (uD5.trans up5)))⟩
   ·refine zAX (fun z=>c (zEE (y:=[]) z)) ?_
    exact vU (hN _ _ ⟨⟨_,_,_,_,rfl⟩,sm.trans sm3⟩)
  rintro σ HD ⟨⟨x5,x6,x7,x8,rfl⟩,smD⟩
  have smE:=smB.trans smD
  have h3D:=smD _ _ h3B
  have rp3D:=Reps.same smD _ _ rp3B
  have h4D:=smD _ _ h4B
  have rp4D:=Reps.same smD _ _ rp4B
  refine⟨_,rfl,_,rfl,_,_,rfl,rfl,b,bk,1+od+1,rfl,smE _ _ hbk,hB1,by omega,fun tb1 lt1 ts1 HE itE sE hlE hE rpE=>?_⟩
  have htb1:=tbLen itE
  have itr1:=itE.trip
  have htr1:=itr1.len
  refine⟨lt1,tb1,ts1,rfl,.of hE,rpE,by omega,by omega,fun lm um HF sF hlm hF rpF=>?_⟩
  have sDF:=sE.trans sF
  have smF:=smE.trans sDF
  have h3F:=sDF _ _ h3D
  have rp3F:=Reps.same sDF _ _ rp3D
  have h4F:=sDF _ _ h4D
  have rp4F:=Reps.same sDF _ _ rp4D
  have huml:um.length=(trip tb1).length:=by have:=rpF.length;simpa using this.symm
  refine fun d hd=>?_
  have ud:=zA.upd1 (o:=.dT []) hd
  refine⟨_,rfl,lm,rfl,⟨_,.of (ud _ _ hF)⟩,?_⟩
  refine jH (vV K lm um) (fun i σ H'=>(∃x5 x6 x7 x8 x11:Option V,σ=[some (.ref a),some (.ref b),some (.int ((1+od:Nat):Int)),some (.ref lt),some (.ref lp),x5,x6,x7,x8,some (.ref lm),some (.ref d),x11,none,none,none])/\zA HF H'/\H' d=some (.dT (yI (yM (((trip tb1).take i).map (yK (1+od)))))))
   ⟨⟨_,_,_,_,_,rfl⟩,ud,zH⟩ (fun i σ H' _ h=>.of (h.2.1 _ _ hF)) ?_ ?_
  ·rintro i x σ H' Nx hN hx ⟨⟨x5,x6,x7,x8,x11,rfl⟩,sm,hdv⟩
   obtain⟨q,at',ep,rfl,hsq⟩:=jJ (Reps.same sm _ _ rpF) hx
   have hi:i<(trip tb1).length:=(ah.mp ep).1
   have hq:=aU ep
   obtain⟨hq1,hq2⟩:=(itr1.mem q.1 q.2).mp hq
   have hqp:(q.1.1,q.1.2)∈zC (1+od+1) bk:=bj.mp (by
    show 0<(zC (1+od+1) bk).count q.1
    omega)
   have hqe:=zAY hqp
   refine⟨at',[sv q.1.1,sv q.1.2,.int q.2],rfl,hsq,rfl,_,_,rfl,_,_,rfl,_,_,rfl,rfl,?_⟩
   refine⟨_,rfl,_,rfl,tx q.1.1,rfl,by rw[yA,aV];omega,_,rfl,_,_,rfl,rfl,_,_,rfl,_,rfl,tx q.1.1,rfl,by rw[yA,aV];omega,?_⟩
   refine⟨_,rfl,by show 2<=sizeLine;decide,fun kp hkp=>?_⟩
   have uk:=zA.upd1 (o:=.tup [V.str (v4 (tx q.1.1) (some (if((tx q.1.1).length:Int)- ((1+od:Nat):Int)>0 then((tx q.1.1).length:Int)- ((1+od:Nat):Int)else 0)) none),sv q.1.2]) hkp
   have hkt:upd H' kp (.tup [V.str (v4 (tx q.1.1) (some (if((tx q.1.1).length:Int)- ((1+od:Nat):Int)>0 then((tx q.1.1).length:Int)- ((1+od:Nat):Int)else 0)) none),sv q.1.2]) kp=some (.tup ((kT (yK (1+od) q).1).map vK)):=by
    rw[zH,zHb];rfl
   have hdv2:=uk _ _ hdv
   have hnd:=zDZ (((trip tb1).take i).map (yK (1+od)))
   have hgl:(yM (((trip tb1).take i).map (yK (1+od)))).length<=64:=by
    have:=zHf (((trip tb1).take i).map (yK (1+od)))
    rw[ak,aW]at this
    omega
   refine⟨_,rfl,d,rfl,.inr ⟨_,.inl hdv2⟩,_,rfl,_,vT.t hdv2 hkt,_,rfl,(zE (yM (((trip tb1).take i).map (yK (1+od)))) (yK (1+od) q).1).getD 0,q.2,?_,rfl,?_⟩
   ·rw[zHz]
    cases zE (yM (((trip tb1).take i).map (yK (1+od)))) (yK (1+od) q).1<;>rfl
   refine⟨_,rfl,_,rfl,d,_,rfl,qC.t hdv2 hkt (by rw[gQ,aV];omega),hN _ _ ⟨⟨_,_,_,_,_,rfl⟩,(sm.trans uk).upd_new hd,?_⟩⟩
   rw[zH,zIB _ _ _ hnd]
   have etk:((trip tb1).take (i+1)).map (yK (1+od))=((trip tb1).take i).map (yK (1+od))++[yK (1+od) q]:=by
    rw[aF hi,(ah.mp ep).2,aJ];rfl
   rw[etk,gP];rfl
  rintro σ HG ⟨⟨x5,x6,x7,x8,x11,rfl⟩,smG,hdv⟩
  rw[huml,ba]at hdv
  have smG2:=smF.trans smG
  have h3G:=smG _ _ h3F
  have rp3G:=Reps.same smG _ _ rp3F
  have h4G:=smG _ _ h4F
  have rp4G:=Reps.same smG _ _ rp4F
  obtain⟨hag1,hag2⟩:=zHg itr itr1
  refine⟨_,rfl,_,rfl,lp,rfl,⟨_,.of h4G⟩,?_⟩
  refine v5 (vV K lp us) [] 3 (by omega) (fun i acc H2=>zA HG H2/\acc.length=i/\qO K H2 acc (yI ((trip tb).take i))) ⟨zA.refl _,rfl,rfl,fun i q hq=>by cases hq⟩
   (fun i acc H2 _ h=>⟨.of (h.1 _ _ h4G),cH h.2.1⟩) ?_ ?_
  ·rintro i x acc H2 ys Nx hN hx hy ⟨sm,hal,prs⟩
   obtain⟨y1,y2,y3,rfl⟩:=gI hy
   obtain⟨q,at',ep,rfl,hsq⟩:=jJ (Reps.same sm _ _ rp4G) hx
   have hi:i<(trip tb).length:=(ah.mp ep).1
   refine⟨at',[sv q.1.1,sv q.1.2,.int q.2],rfl,hsq,rfl,_,_,rfl,_,_,rfl,_,_,rfl,rfl,?_⟩
   refine⟨_,rfl,_,rfl,by show 2<=sizeLine;decide,fun kp hkp=>?_⟩
   have uk:=zA.upd1 (o:=.tup [sv q.1.1,sv q.1.2]) hkp
   refine⟨_,rfl,by show 2<=sizeLine;decide,fun pp hpp=>?_⟩
   have up:=zA.upd1 (o:=.tup [.ref kp,.int q.2]) hpp
   have etk:(trip tb).take (i+1)=(trip tb).take i++[q]:=by rw[aF hi,(ah.mp ep).2]
   refine hN _ _ [_,_,_] rfl ⟨sm.trans (uk.trans up),by rw[aD,hal];rfl,?_⟩
   rw[etk]
   exact zID (zDi prs (uk.trans up)) zH (up _ _ zH)
  rintro acc HH ⟨smH',hal,prs⟩ DH hDH
  rw[hul,ba]at prs
  have uH:=zA.upd1 (o:=.lst acc) hDH
  refine⟨DH,acc,yI (trip tb),rfl,.of zH,zDi prs uH,zHy _ itr.nd,by rw[gQ];omega,fun d2 hd2=>?_⟩
  have u2:=zA.upd1 (o:=.dT (yI (trip tb))) hd2
  have sGH:=smH'.trans (uH.trans u2)
  refine⟨d,d2,_,_,rfl,rfl,sGH _ _ hdv,zH,by rw[gQ,gQ];exact hag1,?_,_,rfl,vU ?_⟩
  ·rintro q hq
   obtain⟨t,ht,rfl⟩:=aB.mp hq
   exact⟨t.2,rfl,aB.mpr ⟨t,hag2 t ht,rfl⟩⟩
  have smH:=smG2.trans sGH
  have h3H:=sGH _ _ h3G
  have rp3H:=Reps.same sGH _ _ rp3G
  have h4H:=sGH _ _ h4G
  have rp4H:=Reps.same sGH _ _ rp4G
  generalize upd (upd HH DH (.lst acc)) d2 (.dT (yI (trip tb)))=HI at*
  refine⟨_,rfl,_,rfl,b,b,_,_,rfl,rfl,.of (smH _ _ hbk),.of (smH _ _ hbk),nbk,by rw[ebk,aV];omega,fun z=>absurd z nbk,fun _ p1 hp1=>?_⟩
  have t1:=zA.upd1 (o:=.tup (zU bk++zU bk)) hp1
  refine⟨_,rfl,p1,bk++bk,1+od,rfl,zDW (by simp[zU]),hBB,plb,fun tb2 lt2 ts2 HJ itJ sJ hlJ hJ rpJ=>?_⟩
  have htb2:=tbLen itJ
  have itr2:=itJ.trip
  have htr2:=itr2.len
  have e2:tb2=tb.map zBB:=by
   have:=itJ
   rw[gH]at this
   exact this.uniq it.twice
  refine⟨lt2,tb2,ts2,rfl,.of hJ,rpJ,by omega,by omega,fun l2 u2' HK sK hl2 hK rpK=>?_⟩
  have sIK:=t1.trans (sJ.trans sK)
  have smK:=smH.trans sIK
  have h3K:=sIK _ _ h3H
  have rp3K:=Reps.same sIK _ _ rp3H
  have h4K:=sIK _ _ h4H
  have rp4K:=Reps.same sIK _ _ rp4H
  refine⟨_,rfl,lp,rfl,⟨_,.of h4K⟩,?_⟩
  refine v5 (vV K lp us) [] 3 (by omega) (fun i acc H2=>zA HK H2/\acc.length=i/\Reps K H2 ((((trip tb).take i).map fun t=>(t.1,2*t.2)).map vX) acc) ⟨zA.refl _,rfl,rfl⟩
   (fun i acc H2 _ h=>⟨.of (h.1 _ _ h4K),cH h.2.1⟩) ?_ ?_
  ·rintro i x acc H2 ys Nx hN hx hy ⟨sm,hal2,rp⟩
   obtain⟨y1,y2,y3,rfl⟩:=gI hy
   obtain⟨q,at',ep,rfl,hsq⟩:=jJ (Reps.same sm _ _ rp4K) hx
   have hi:i<(trip tb).length:=(ah.mp ep).1
   refine⟨at',[sv q.1.1,sv q.1.2,.int q.2],rfl,hsq,rfl,_,_,rfl,_,_,rfl,_,_,rfl,rfl,?_⟩
   refine⟨_,rfl,_,rfl,_,rfl,_,_,rfl,rfl,.inl ⟨by decide,by decide⟩,by show 3<=sizeLine;decide,fun pp hpp=>hN _ _ [_,_,_] rfl ⟨sm.trans (zA.upd1 hpp),by rw[aD,hal2];rfl,?_⟩⟩
   rw[aF hi,(ah.mp ep).2,aJ,aJ]
   exact Reps.append (Reps.same (zA.upd1 hpp) _ _ rp) (Reps.one (zDc (t:=(q.1,2*q.2)) (.of zH)))
  rintro acc2 HL ⟨smL',hal2,rpL⟩ DL hDL
  rw[hul,ba,<-zHi,<-e2]at rpL
  have uL:=zA.upd1 (o:=.lst acc2) hDL
  have sKL:=smL'.trans uL
  have lay2:=zHl (o:=1+od) hBB.toisBk (ts:=trip tb2) fun t ht=>(itr2.keyIn t.1).mp (aB.mpr ⟨t,ht,rfl⟩)
  refine⟨_,rfl,_,rfl,_,_,yZ (sKL _ _ hK) (Reps.same sKL _ _ rpK),yZ zH (Reps.same uL _ _ rpL),lay2.1,lay2.1,_,rfl,kH lay2.2 ?_⟩
  have smL:=smK.trans sKL
  have h3L:=sKL _ _ h3K
  have rp3L:=Reps.same sKL _ _ rp3K
  generalize upd HL DL (.lst acc2)=HL2 at*
  refine⟨_,rfl,_,rfl,b,zU bk,rfl,rfl,.of (smL _ _ hbk),fun p3 hp3=>?_⟩
  have t3:=zA.upd1 (o:=.tup (zU bk).reverse) hp3
  refine⟨_,rfl,p3,bk.reverse,1+od,rfl,zDW (by simp[zU]),hBR,plr,fun tb3 lt3 ts3 HM itM sM hlM hM rpM=>?_⟩
  have e3:tb3=tb:=itM.uniq (it.congr fun q=>(zGb (1+od) bk q).symm)
  subst e3
  have sLM:=t3.trans sM
  have smM:=smL.trans sLM
  have h3M:=sLM _ _ h3L
  have rp3M:=Reps.same sLM _ _ rp3L
  have layT:=zJE hB.toisBk it
  refine⟨_,rfl,_,_,yZ hM rpM,yZ h3M rp3M,layT.1,layT.1,_,rfl,kH layT.2 ?_⟩
  refine⟨_,rfl,lt,rfl,⟨_,.of h3M⟩,?_⟩
  refine v5 (vV K lt ts) [] 2 (by omega) (fun i acc H2=>zA HM H2/\acc=((tb3.take i).map (·.1)).map sv) ⟨zA.refl _,rfl⟩
   (fun i acc H2 _ h=>⟨.of (h.1 _ _ h3M),by rw[h.2,ak,ak,aW];omega⟩) ?_ ?_
  ·rintro i x acc H2 ys Nx hN hx hy ⟨sm,rfl⟩
   obtain⟨y1,y2,rfl⟩:=j9 hy
   obtain⟨r,at',ar,us',ep,rfl,hsq,har,rpr⟩:=gN (Reps.same sm _ _ rp3M) hx
   have hi:i<tb3.length:=(ah.mp ep).1
   refine⟨at',[sv r.1,.ref ar],rfl,hsq,rfl,_,_,rfl,_,_,rfl,rfl,_,rfl,hN _ _ [_,_] rfl ⟨sm,?_⟩⟩
   rw[aF hi,(ah.mp ep).2,aJ,aJ];rfl
  rintro acc3 HN ⟨smN',rfl⟩ DN hDN
  rw[htl,ba]
  have uN:=zA.upd1 (o:=.lst ((tb3.map (·.1)).map sv)) hDN
  have sMN:=smN'.trans uN
  have smN:=smM.trans sMN
  have h3N:=sMN _ _ h3M
  have rp3N:=Reps.same sMN _ _ rp3M
  have ees:(tb3.map (·.1)).map sv=((tb3.map (·.1)).map tx).map V.str:=by rw[aO (f:=tx)];rfl
  have e122:∀x∈tb3.map (·.1),∀c∈x,c<=122:=fun x hx c hc=>by
   obtain⟨r,hr,rfl⟩:=aB.mp hx
   obtain⟨l0,hl0⟩:=(it.has r.1).mp ⟨r.2,hr⟩
   exact((qN hB.toisBk hl0).1 c hc).2
  have layE:=zBO e122
  refine⟨_,rfl,_,rfl,DN,(tb3.map (·.1)).map tx,rfl,.of (by rw[zH,ees]),by rw[ak,ak];omega,fun out lo hmem hsort hlo=>?_⟩
  have eo:out=(tb3.map (·.1)).map tx:=zJG (aQ.mpr it.ris) hmem hsort
  subst eo
  have uO:=zA.upd1 (o:=.lst (((tb3.map (·.1)).map tx).map V.str)) hlo
  refine⟨_,_,yZ (uO _ _ zH) (kK _),yZ (by rw[zH,<-ees]) (kK _),layE.1,layE.1,_,rfl,kH layE.2 ?_⟩
  have smO:=smN.trans uO
  have h3O:=uO _ _ h3N
  have rp3O:=Reps.same uO _ _ rp3N
  generalize upd (upd HN DN (.lst ((tb3.map (·.1)).map sv))) lo (.lst (((tb3.map (·.1)).map tx).map V.str))=HO at*
  refine⟨_,rfl,lt,rfl,⟨_,.of h3O⟩,?_⟩
  refine jG (vV K lt ts) [] 2 (by omega) (fun i acc H2=>zA HO H2/\acc=[]) ⟨zA.refl _,rfl⟩
   (fun i acc H2 _ h=>⟨.of (h.1 _ _ h3O),by rw[h.2];exact bH _⟩) ?_ ?_
  ·rintro i x acc H2 ys Nx hN hx hy ⟨sm,rfl⟩
   obtain⟨y1,y2,rfl⟩:=j9 hy
   obtain⟨r,at',ar,us',ep,rfl,hsq,har,rpr⟩:=gN (Reps.same sm _ _ rp3O) hx
   have hm:=aU ep
   have irow:=it.row r.1 r.2 hm
   have hr4:=zHj babz irow
   have layR:=zDU hB.toisBk irow
   have hul':us'.length=r.2.length:=by have:=rpr.length;simpa using this.symm
   refine⟨at',[sv r.1,.ref ar],rfl,hsq,rfl,_,_,rfl,_,_,rfl,rfl,?_⟩
   refine⟨_,rfl,ar,us',rfl,.inr har,fun l3 hl3'=>?_⟩
   have u3:=zA.upd1 (o:=.lst us') hl3'
   have har3:=u3.seqT har
   have rpr3:=Reps.same u3 _ _ rpr
   have prs3:=zHa rpr3
   refine⟨_,rfl,ar,us',r.2.map (fun q:S×Int=>(tx q.1,q.2)),rfl,har3,by rw[aO];exact prs3,?_,by rw[ak];exact hr4,fun pm l4 hpm hsr hl4=>?_⟩
   ·have:((r.2.map fun q=>(tx q.1,q.2)).map (·.1))=(r.2.map (·.1)).map tx:=by rw[aO,aO];rfl
    rw[this]
    exact eh tx (fun a b hab z=>hab (uW z)) irow.ris.keys
   rw[ak]at hpm
   have epm:=zJF irow.ris hpm hsr
   have exs:(pm.map fun i=>us'.getD i .non)=us':=by rw[epm,<-hul',zHZ]
   have u4:=zA.upd1 (o:=.lst (pm.map fun i=>us'.getD i .non)) hl4
   refine⟨_,_,yZ (u4 _ _ zH) (Reps.same u4 _ _ rpr3),yZ (by rw[zH,exs]) (Reps.same u4 _ _ rpr3),layR.1,layR.1,_,rfl,kH layR.2 ?_⟩
   exact hN _ _ [_,_] rfl ⟨sm.trans (u3.trans u4),rfl⟩
  rintro acc4 HP ⟨smP',rfl⟩ DP hDP
  refine⟨by show 0<=sizeLine;decide,fun p9 hp9=>?_⟩
  have uP:=zA.upd1 (o:=.lst []) hDP
  have v9:=zA.upd1 (o:=.lst []) hp9
  refine⟨.list [],.list [],yZ (v9 _ _ zH) rfl,yZ zH rfl,rfl,rfl,_,rfl,vU ?_⟩
  have sOP:=smP'.trans (uP.trans v9)
  have smP:=smO.trans sOP
  have h3P:=sOP _ _ h3O
  have rp3P:=Reps.same sOP _ _ rp3O
  generalize upd (upd HP DP (.lst [])) p9 (.lst [])=HQ at*
  refine⟨_,rfl,lt,rfl,⟨_,.of h3P⟩,?_⟩
  refine jG (vV K lt ts) [some (.ref b),some (.int ((1+od:Nat):Int))] 2 (by omega) (fun i acc H2=>zA HQ H2/\acc=[]) ⟨zA.refl _,rfl⟩
   (fun i acc H2 _ h=>⟨.of (h.1 _ _ h3P),by rw[h.2];exact bH _⟩) ?_ ?_
  ·rintro i x acc H2 ys Nx hN hx hy ⟨sm,rfl⟩
   obtain⟨y1,y2,rfl⟩:=j9 hy
   obtain⟨r,at',ar,us',ep,rfl,hsq,har,rpr⟩:=gN (Reps.same sm _ _ rp3P) hx
   have hm:=aU ep
   have irow:=it.row r.1 r.2 hm
   obtain⟨l0,hl0⟩:=(it.has r.1).mp ⟨r.2,hm⟩
   have hrne:=zHY hB hl0
   have hrl:=zAY hl0
   refine⟨at',[sv r.1,.ref ar],rfl,hsq,rfl,_,_,rfl,_,_,rfl,rfl,?_⟩
   refine⟨_,rfl,_,rfl,_,rfl,b,bk,1+od,r.1,rfl,sm _ _ (smP _ _ hbk),hB,hrne,by omega,fun rs l xs H3 r3 s3 hl3 h3 rp3=>?_⟩
   rw[zGd hrl]at r3
   have e3:rs=r.2:=r3.uniq irow
   have lay3:=zDU hB.toisBk r3
   refine⟨_,rfl,ar,us',rfl,.inr (s3.seqT har),fun l3 hl3'=>?_⟩
   have u3:zA H3 (upd H3 l3 (.lst us')):=zA.upd1 hl3'
   rw[<-e3]at rpr
   refine⟨_,_,yZ (u3 _ _ h3) (Reps.same u3 _ _ rp3),yZ zH (Reps.same u3 _ _ (Reps.same s3 _ _ rpr)),lay3.1,lay3.1,_,rfl,kH lay3.2 ?_⟩
   exact hN _ _ [_,_] rfl ⟨sm.trans (s3.trans u3),rfl⟩
  rintro acc5 HR ⟨smR',rfl⟩ DR hDR
  refine⟨by show 0<=sizeLine;decide,fun pz hpz=>?_⟩
  have vz:=zA.upd1 (o:=.lst []) hpz
  refine⟨.list [],.list [],yZ (vz _ _ zH) rfl,yZ zH rfl,rfl,rfl,?_⟩
  exact k _
end
def yN (K:ai)(x:Str)(st:dB)(ps:List Str):Prop :=
 ∃(f:av) (fd:bw),bg K mainGlobals x=some (some (.ref f))/\Fun K x x st f fd/\dJ K (.ref f)=true/\qA K fd ps []
theorem gY {K:ai}{x:Str}{st:dB}{f:av}{e kV g pm b ct:af}{od h:Option av}{i:Array (Option af)}(d:List Str)
  (j:∀(fd:bw),Fun K x x st f fd->qA K fd d [])
  (a:bg K mainGlobals x=some (some (.ref f))) (l:K.lookup f=some ⟨e,od,.func (cS x x (defArgs st) (defBody st) (defScope st) .none kV g pm h b ct),i⟩) (c:eV K b x=true) (k:dJ K (.ref f)=true):yN K x st d :=
 ⟨f,_,a,zAN (st:=st) l c k,k,j _ (zAN (st:=st) l c k)⟩
structure Top (K:ai):Prop where
 is_name:yN K "is_name" zAe ["thing"]
 is_book:yN K "is_book" zAf ["thing"]
 is_whole:yN K "is_whole" zAg ["thing","least","most"]
 is_order:yN K "is_order" zAh ["thing"]
 need_book:yN K "need_book" zAi ["thing"]
 need_order:yN K "need_order" zAj ["thing"]
 need_name:yN K "need_name" zAl ["thing"]
 need_ne:yN K "need_name_or_empty" zAt ["thing"]
 end_of:yN K "end_of" zAb ["text","order"]
 ends:yN K "ends_and_letters" zAc ["name","order"]
 rows:yN K "counted_rows" zAp ["book","order"]
 table:yN K "table" zAs ["book","order"]
 behind:yN K "behind" zAu ["book","order","text"]
 cell:yN K "_law_cell" zAv ["_law_script","_law_k"]
 drawn:yN K "_law_drawn" zAw ["_law_script","_law_k","_law_many"]
 lname:yN K "_law_name" zAx ["_law_script","_law_at","_law_most"]
 lbook:yN K "_law_book" zAy ["_law_script","_law_at","_law_many","_law_most"]
 lpairs:yN K "_law_pairs" zBC ["_law_rows"]
 letters:∃t,bg K mainGlobals "LETTERS"=some (some (.str letters t))
 ml:∃t,bg K mainGlobals "MOST_LETTERS"=some (some (.int 8 t))
 mn:∃t,bg K mainGlobals "MOST_NAMES"=some (some (.int 8 t))
 mo:∃t,bg K mainGlobals "MOST_ORDER"=some (some (.int 3 t))
 ib:fM K (.type "int") (.type "bool")=some false
 zlen:bg K mainGlobals "len"=some none
 zrange:bg K mainGlobals "range"=some none
 zall:bg K mainGlobals "all"=some none
 zisinstance:bg K mainGlobals "isinstance"=some none
 zstr:bg K mainGlobals "str"=some none
 ztuple:bg K mainGlobals "tuple"=some none
 zint:bg K mainGlobals "int"=some none
 zbool:bg K mainGlobals "bool"=some none
 zsorted:bg K mainGlobals "sorted"=some none
 zsum:bg K mainGlobals "sum"=some none
 zmin:bg K mainGlobals "min"=some none
 zmax:bg K mainGlobals "max"=some none
 zdict:bg K mainGlobals "dict"=some none
 zlist:bg K mainGlobals "list"=some none
 zset:bg K mainGlobals "set"=some none
theorem zJI:(eZ "abcdefghijklmnopqrstuvwxyz")=letters:=by decide+kernel
theorem zJJ {K:ai}{t:Tok}(h:bg K mainGlobals "LETTERS"=some (some (.str (eZ "abcdefghijklmnopqrstuvwxyz") t))):∃t,bg K mainGlobals "LETTERS"=some (some (.str letters t)):=by
 rw[zJI]at h;exact⟨t,h⟩
theorem zJK {K:ai}{x:Str}{i:Int}{t:Tok}(h:bg K mainGlobals x=some (some (.int i t))):∃t,bg K mainGlobals x=some (some (.int i t)):=⟨t,h⟩
section
variable{P:aI}{w:aR}{K:ai}{mg:Str->Option af}{base:bt}{h:bt}
theorem zJL {x:Str}{st:dB}{c:List Str}{k:Nat}{sp:Sp}(X:K.In h)(G:h.Ns mainGlobals mg)(H:yN K x st c)(ok:∀(f:av) (fd:bw),Fun K x x st f fd->FnOk P w K mg base z6 k f fd c sp):yE P w K mg base k x c sp:=by
 obtain⟨f,fd,a,F,kp,b⟩:=H
 exact⟨f,fd,ok f fd F,eL X G a,kp,b⟩
theorem zJM (X:K.In h)(G:h.Ns mainGlobals mg)(T:Top K){f:av}{fd:bw}(F:Fun K "law" "law" uQ f fd):FnOk P w K mg base z6 8 f fd ["_law_script"] (kL K):=by
 have B:Blt mg:=⟨br X G T.zlen,br X G T.zrange,br X G T.zall,br X G T.zisinstance,br X G T.zstr,br X G T.ztuple,br X G T.zint,br X G T.zbool,br X G T.zsorted,br X G T.zsum,br X G T.zmin⟩
 have C:Cst K mg:=⟨let⟨t,e⟩:=T.letters;⟨t,eL X G e⟩,let⟨t,e⟩:=T.ml;⟨t,eL X G e⟩,let⟨t,e⟩:=T.mn;⟨t,eL X G e⟩,let⟨t,e⟩:=T.mo;⟨t,eL X G e⟩,T.ib⟩
 have c {x:Str} {st:dB} {z:List Str} {k:Nat} {sp:Sp} (a:yN K x st z) (b:∀(f:av) (fd:bw),Fun K x x st f fd->FnOk P w K mg base z6 k f fd z sp):yE P w K mg base k x z sp:=zJL X G a b
 have p:=c T.end_of fun f fd F=>zGl F
 have q:=c T.ends fun f fd F=>zGo F B p
 have g:=c T.is_name fun f fd F=>zGr F B C
 have l:=c T.is_book fun f fd F=>zGt F B C g
 have i:=c T.is_whole fun f fd F=>zGv F B C
 have j:=c T.is_order fun f fd F=>zGx F C i
 have A:=c T.need_book fun f fd F=>zGz F l
 have D:=c T.need_order fun f fd F=>zHB F j
 have y:=c T.need_name fun f fd F=>zHD F g
 have E:=c T.need_ne fun f fd F=>zHO F y
 have r:=c T.rows fun f fd F=>zHI F q
 have N:Needs P w K mg base:=⟨A,D,y,r⟩
 have n:=c T.table fun f fd F=>zHL F B N
 have m:=c T.behind fun f fd F=>zHP F B N E p
 have s:=c T.cell fun f fd F=>zHS F B
 have d:=c T.drawn fun f fd F=>zHT F s
 have u:=c T.lname fun f fd F=>zHU F B d
 have v:=c T.lbook fun f fd F=>zHV F B d u
 have H:Blt2 mg:=⟨br X G T.zmax,br X G T.zdict,br X G T.zlist⟩
 have o:=c T.lpairs fun f fd F=>zHm F
 exact zJH F B H (br X G T.zset) ⟨d,v,o,n,m⟩
end
theorem zJN {l:iF}{w:aR}{K:ai}{h:bt}{mg:Str->Option af}{p i:av}(X:K.In h)(G:h.Ns mainGlobals mg)(j:mg "law"=some (.ref p))
  {m b:Option av} {n:Array (Option af)} {o c d f a g:af} (T:Top K)
  (q:bg K mainGlobals "law"=some (some (.ref i))) (r:K.lookup i=some ⟨o,m,.func (cS "law" "law" (defArgs uQ) (defBody uQ) (defScope uQ) .none c d f b a g),n⟩) (u:eV K a "law"=true) (x:dJ K (.ref i)=true) :
  ∃fd:bw,(∀(s:aj) (v:af),ku s fd ⟨[v],[]⟩ [("_law_script",v)])/\∀base:bt,K.In base->base.Ns mainGlobals mg->FnOk l.prog w K mg base z6 8 p fd ["_law_script"] (kL K):=by
 have e:=j.symm.trans (eL X G q)
 cases e
 have y:=zAN (st:=uQ) r u x
 exact⟨cS "law" "law" (defArgs uQ) (defBody uQ) (defScope uQ) .none c d f b a g,fun s v=>.of_eq rfl,fun base _ _=>zJM X G T y⟩
theorem zJO {l:iF}{q:aI}{loose:List Str}{XP:(Str->Option af)->bt->Prop}{YP:aR->bt->Prop}{d:DefRec}{K:mq->ai}(e:l.most=some 63)(b:d.params.defaults=[])
  (g:∀(w:aR) (h:bt),YP w h->(K w.params).In h)
  (F:∀(w:aR) (mg:Str->Option af) (c:av) (h:bt),(K w.params).In h->h.Ns mainGlobals mg->mg d.name=some (.ref c)->
   ∃fd:bw,(∀(s:aj) (u:af),ku s fd ⟨[u],[]⟩ [("_law_script",u)])/\∀base:bt,(K w.params).In base->base.Ns mainGlobals mg->FnOk l.prog w (K w.params) mg base z6 8 c fd ["_law_script"] (kL (K w.params))) :
  nA q loose XP YP l.row.toRowW d [] (fun f vs=>mB f vs) :=
 L2.zFo (n:=63) (k:=8) (x :="_law_script") (CX:=fun _=>z6) (sp:=fun w=>kL (K w.params)) e (by decide) b ⟨rfl,by decide,by decide⟩ g F (fun _ _ a ns hl _ i=>⟨a,ns,rfl,i,hl,fun _=>rfl⟩) fun _ _ _ _ _ z=>z
end Kn
end
section
open PySem PySem.W PyProof.Rows
set_option maxRecDepth 100000 in
set_option maxHeartbeats 0 in
theorem PySem.Challenge.cw_kinnames_k02_whole_tables_holds : PySem.Challenge.rw_kinnames_k02_whole_tables.Holds := by
 w_on;o_law
 refine PySem.W.holds_open (q:=Kn.kq) (loose:=Kn.klo) (Xt:=fun s=>xlAt Kn.kq [] s&&recOk [] s) (XP:=XL Kn.kq []) (Yf:=Hook.obs (kHook Kn.kfr Kn.kas Kn.kas_e)) (Ya:=Hook.val (kHook Kn.kfr Kn.kas Kn.kas_e)) (YP:=Hook.says (kHook Kn.kfr Kn.kas Kn.kas_e)) (N:=3004) Kn.hl (Hook.of (kHook Kn.kfr Kn.kas Kn.kas_e)) (Hook.keeps (kHook Kn.kfr Kn.kas Kn.kas_e)) (fun s e=>xl_of s (Bool.and_eq_true_iff.mp e).1) XL.keeps (by rfl) (by rfl) (by rfl) (fun s e=>recFacts_of (Bool.and_eq_true_iff.mp e).2) (by rfl) (by first|assumption|decide+kernel) (by decide+kernel) ⟨rfl,rfl,rfl,rfl,rfl,by decide+kernel⟩ ?hw ?hc
 (case hw=>w_witness2)
 k_fill
 refine Kn.zJO (l:=PySem.Challenge.rw_kinnames_k02_whole_tables) rfl rfl (fun w h Y=>PySem.W.kIn_of Y) ?F
 case F=>
  intro w mg fa h KX G hmg
  refine' Kn.zJN KX G hmg ?T ?a4 ?l4 ?c4 ?k4
  (case T=>
   refine' ⟨?is_name,?is_book,?is_whole,?is_order,?need_book,?need_order,?need_name,?need_ne,?end_of,?ends,?rows,?table,?behind,?cell,?drawn,?lname,?lbook,?lpairs,?letters,?ml,?mn,?mo,?ib,?zlen,?zrange,?zall,?zisinstance,?zstr,?ztuple,?zint,?zbool,?zsorted,?zsum,?zmin,?zmax,?zdict,?zlist,?zset⟩
   (case is_name|is_book|is_order|need_book|need_order|need_name|need_ne|lpairs=>refine' Kn.gY _ (fun fd F=>F.binds fun _ _ _ _ _ _ us hl=>match us,hl with| [_],_=>rfl) ?kna ?knl ?knc ?knk;(case kna=>k_is);(case knl=>k_is);(case knc=>k_is);(case knk=>k_is))
   (case end_of|ends|rows|table|cell=>refine' Kn.gY _ (fun fd F=>F.binds fun _ _ _ _ _ _ us hl=>match us,hl with| [_,_],_=>rfl) ?kna ?knl ?knc ?knk;(case kna=>k_is);(case knl=>k_is);(case knc=>k_is);(case knk=>k_is))
   (case is_whole|behind|drawn|lname=>refine' Kn.gY _ (fun fd F=>F.binds fun _ _ _ _ _ _ us hl=>match us,hl with| [_,_,_],_=>rfl) ?kna ?knl ?knc ?knk;(case kna=>k_is);(case knl=>k_is);(case knc=>k_is);(case knk=>k_is))
   (case lbook=>refine' Kn.gY _ (fun fd F=>F.binds fun _ _ _ _ _ _ us hl=>match us,hl with| [_,_,_,_],_=>rfl) ?kna ?knl ?knc ?knk;(case kna=>k_is);(case knl=>k_is);(case knc=>k_is);(case knk=>k_is))
   (case letters=>refine' Kn.zJJ ?knq;(case knq=>k_is))
   (case ml|mn|mo=>refine' Kn.zJK ?knq;(case knq=>k_is))
   (case ib=>first|rfl|kernel_rfl|decide+kernel)
   (case zlen|zrange|zall|zisinstance|zstr|ztuple|zint|zbool|zsorted|zsum|zmin|zmax|zdict|zlist|zset=>k_is))
  (case a4=>k_is);(case l4=>k_is);(case c4=>k_is);(case k4=>k_is)
end
