import PyProof.Rows.All
import Wide.All
import OpenK.AllK
import Wide.FinOn
import Lean
import PyProof.EqAt
import PyProof.EqKinds
import PyProof.TupleCall
import PyProof.CompFree
import KE.KSortAsk
import KE.KSortTup
import KE.KRevSl
import PyProof.AttrMissSeq
import KE.KDictOf
import KE.KxText
import PyProof.StationsW
import PyProof.Rows.Catch
import PyProof.ExcClass3
import PyProof.ExcBaseAll.ValueError
import OpenK.KOwn
import KE.KIsAll
import PyProof.ExcAttrAll.ValueError
import PyProof.Rows.Range3
import PyProof.ZipIter
import PyProof.Draws
import PyProof.TupleIter
import PyProof.Rows.ZipGen
import PyProof.WalksMore
import PyProof.Rows.InDataRows
import PyProof.ListMulRoad
import PyProof.StrOps2
import PyProof.FactsAll.tuple_2
import PyProof.FitsBits
import PyProof.Rows.SetFrom
import PySem.Challenge.RW_kinnames_k89_ledgers
open PySem.W renaming Frag→aa,nsIn→aO,kitOne→aS,findIn→bf,mg_none_of→bh,mg_of→bK,keepIn→bP,kia_one→bY,fnOf→cp,emptyDict→cu,excIn→cw,kas_place→cy,instObj→cX,codeIn→de,kas_desc→dy,callWith_K→dz,looks_pair→dM,hideAll_get→dW,hideAll→ee,cellsFrom_some→eR,kas_asc→eU,methodCall_KW→eZ,plainGet→fi,plainGet_of→fN,kas_descPart→fV,of_hideAll→fW,lookIn→gc,methodObj→gp,hasDictIn→gr,specialIn→gs,isFn→ik,kas_rev→iu,takerIn→iE,makesIn→iF,OpenLaw→iI,looks_findIn→iU,callWith_K0→jg,mroIn→jn,codeRec_of→jv,plainOver→kh,kitx_list→ki,kitx_dict→kj,kas_bin→lg,kas_sort→lh,handedIn→lP,kas_count→lW,readsIn→mE,findCls→mF,SharedT→mH,WalkO→nX
open PySem renaming Value→ae,Addr→af,Shared→ah,FuncData→ar,Program→aw,wpAny_bind→aE,World→aI,sizeLine_eq→aP,PyData→ba,Heap→bc,Expr→bq,wpAny_pure→bw,Around→bB,Stmt→bR,mem_of_lookup→bT,wpAny_mono→bX,boot_len→b6,wpAny_truthy_bool→cA,wpAny_loadPart_at→cE,Spec→cV,wpAny_Call_Name_kw→da,wpAny_passesOwn→dm,Scope→dv,tupleKind_room_in1→dB,wpAny_execs_nil→dD,codeAny_mono→dS,wpAny_isSubtype_exc→d5,Builtin→eO,wpAny_holding→fw,call_meetsIn→fT,NameKind→gd,wpAny_newFunctionEnv_cells→gf,call_meets→gh,codeAny_handlers_suite_as→gm,wpAny_pyIter_list→gq,noFill_tuple_add→hZ,wpAny_loadPart'→iH,wpAny_isTrue_Compare1→iK,codeAny_call_function→iL,codeAny_handlers_test→iR,wpAny_nameGoes→i9,codeAny_call_builtin→ja,BindsTo→jb,Keyword→jc,wpAny_handleBy_cons→jj,wpAny_standAt→jm,seq_tuple_add→jo,Within→kc,wpAny_newObj_type→kf,concat_meets→kr,seqIndex_neg→kx,list_append→kz,wpAny_Call_method→la,call_sum_walkAnyS→ll,wpAny_pyIter_enum→lx,wpAny_pyHash_str→lK,wpAny_eqBool_str→lM,Paired→lN,wpAny_execs_cons→lO,wpAny_Try_except→md,Model→mh,CmpOp→mj,seqIndex_of→mm,wpAny_looks_onW→mD,Params→mK,GenState→mL,wpAny_Name→mM,wpAny_Compare1→mO,wpAny_bindName→mP,wpAny_loadPart→mQ,wpAny_call→mR,typeIs_int→mV,call→mY,KeyKind→nF,intBits_le_64→nH,evalPart_none→nU,wpAny_newList→oa,Arguments→oq,Fin→ow
open List renaming getElem?_eq_some_iff→ag,length_map→ai,length_append→aj,mem_cons_of_mem→au,mem_cons_self→av,take_succ_eq_append_getElem→ax,getElem?_map→az,replicate→aA,map_cons→aF,getElem?_eq_getElem→aG,mem_of_getElem?→aH,mem_cons→aJ,map_append→aL,mem_map→aM,length_cons→aR,size_toArray→aT,length_take→aV,take_length→aX,map_map→aY,mem_append_right→bb,getElem?_append_left→bj,length_range→bA,lookup_cons→bE,length_filter_le→bF,mem_append→bG,mem_singleton→bH,pairwise_map→bM,getElem?_append_right→bQ,nodup_cons→bZ,mem_append_left→b8,range→cb,map_congr_left→cc,getD_eq_getElem?_getD→cg,sum_cons→ck,getElem?_replicate→cx,mem_filter→cF,getElem_mem→cG,filter_append→cI,mem_range→cK,any_cons→c8,all_eq_true→c9,length_replicate→di,length_singleton→dj,replicate_succ→dt,find?_cons→dE,flatten_cons→dI,mem_flatMap→dU,filterMap_cons→dX,getElem_of_mem→dY,getElem?_range→dZ,count→eu,count_pos_iff→eA,pairwise_cons→eE,lookup→eI,mem_singleton_self→eM,append_assoc→eP,drop_of_length_le→eX,lookup_cons_self→e8,getElem_inj→fh,getElem_map→fj,Nodup→fk,length_drop→fm,mem_of_mem_take→fE,take_append_of_le_length→fF,of_mem_zip→fH,foldl_cons→fI,range_succ→fJ,toArray→fU,mem_filterMap→fZ,drop_zero→gj,contains_cons→gk,nodup_append→gv,count_append→gw,count_filter→gx,getElem?_take_of_lt→hU,getElem?_set_self→ij,map_nil→il,append_nil→iG,count_cons_of_ne→iN,getElem?_set_ne→iT,map→iZ,replicate_succ'→i8,mem_map_of_mem→ji,filter_sublist→jl,map_replicate→jy,take_sublist→ko,reverse_cons→ky,foldl_append→ly,flatMap_cons→lG,all_map→lH,filter_congr→lI,cons_append→lT,filter_cons→lU,ext_getElem→lX,drop_append→me,not_mem_nil→mf,map_id→mr,nil_append→mv,forIn_cons→my,sum_append→mB,count_cons→mC,filter_map→mG,foldl→mX,forIn_nil→mZ,lt_irrefl→nc,nodup_nil→nh,all_cons→nV,lt_trans→nZ,any_nil→oH,length→oP,not_lt→oT,take→pE
open PySem.Heap renaming get?_push_of_some→ao,lt_size→aD,get?_push_size→aZ,get?_update_other→c5,SameBut→fR,size_push→iV,MadeExcOf→ng,FlyingW→oF
open Option.some renaming inj→aq
open Nat renaming le_refl→ay,lt_of_lt_of_le→aU,ne_of_lt→br,zero_le→bJ,lt_irrefl→bS,le_trans→bV,pow_le_pow_right→dP,le_of_eq→dQ,lt_succ_self→dR,lt_succ_of_lt→eT,le_succ→fC,le_of_lt→fQ,gcd_comm→iw,sub_self→iB,min_eq_left→iJ,zero_add→ka,ne_of_gt→kg,sub_zero→lj,le_add_right→lV,dvd_mul_left→lZ,lt_trans→oA,add_zero→oB,gcd→oC,Coprime→oV,log2_lt→oW
open Bool renaming false_ne_true→aC,and_eq_true→bC,eq_iff_iff→eh,and_self→fz,false_eq_true→gi,or_false→jq,false_or→nW,true_and→oh,true_or→oz
open PyProof.Rows renaming boot_isinstance→aQ,boot_sorted→cJ,boot_all→dF,callWith_type1→dH,boot_int→fc,boot_max→ff,AllBare→fP,assignInOrder_cons→fY,boot_tuple→ia,subscriptTail_builtinR→iq,boot_bool→iz,boot_dict→iC,boot_str→iO,boot_sum→iP,boot_min→iQ,listUpdate_at→jr,assignInOrder_nil→ke,IntsAre→ku,callWith_builtin1→lR,seqEpoch_at→mq,get?_update_seq→mz,room_in_shaped→mJ,Subscript_→mU,Constant_none→nG
open PySem.Challenge renaming pw_kinnames_k89_ledgers→bg
open PySem.SeqAt renaming shaped→bI,canLay_of_shaped→iD,EqAt→o8
open PySem.PassesOwn renaming never→bO
open Prod.mk renaming inj→bU
open Int renaming le_of_lt→bW,eq_ofNat_of_zero_le→b5,mul_assoc→cn,mul_le_mul_of_nonneg_right→cH,mul_comm→c6,mul_lt_mul_of_pos_right→c7,mul_nonneg→dh,mul_pos→dO,gcd→el,emod_lt_of_pos→eF,gcd_dvd_right→eV,mul_le_mul→eW,emod_nonneg→fL,fdiv_eq_ediv_of_nonneg→f9,zero_mul→ix,zero_add→iy,mul_ediv_cancel'→i0,gcd_dvd_left→lY,ediv_le_self→ma,le_of_dvd→om,pow_succ→oE,mul_one→oN,not_lt→pj
open PySem.PyData renaming canLayAll0→b7,eqv→cq,canLay0→cD,depthAll→cZ,depth→dC,strOk→iA,eqvAll→nY
open False renaming elim→cf
open PySem.F renaming excBase_ValueError→cj,plainAttrs_dict→dw,typeOf_object_class→dJ,args_tuple_add_2→d8,entry_tuple_add→eJ,plainAttrs_list→eN,slot_tuple_add→eS,slot_dict_get→e7,slot_dict_setdefault→fK,slot_gs_get→fO,slot_dict_values→hV,args_dict_get_3→h9,attr_ValueError→ic,slot_list_count→ie,slot_list_index→ig,entry_dict_get→ir,slot_dict_pop→iM,args_list_append_2→iX,entry_list_append→jh,slot_list_append→jx,slot_int_rmul→mw
open PySem.Builtin.Str renaming strSliceIndices→cz,occurrences→cQ
open Option renaming isSome_map→cU,map_some→ed,bind_eq_some_iff→eG,map_eq_some_iff→eQ,isSome_iff_exists→gz,map→pk
open PySem.Obj renaming mapSeq→cY
open PySem.Calls renaming callWith_builtin→dA,evalArgs_plain→dN,spliced_cons→eo,Name_function_global→fX,spliced_nil→gu
open Ne renaming symm→dG
open PySem.Paired renaming length→d6,snoc→oS
open PySem.Builtin.List renaming listTooLong→d9
open Nat.Coprime renaming dvd_of_dvd_mul_left→eY
open Array renaming getElem?_toList→fb,length_toList→fM,append_assoc→ju,toList_inj→lJ,toList→oy
open PySem.Value renaming isStrOf→fq,isStrOf_shape→jd,isInt→oK
open PySem.SeqAt.EqAt renaming bool_bool→fA,str_bool→je,bool_str→jf,int_str→js,str_int→jt,none_bool→oQ,bool_none→oR,none_int→oX,none_str→oY,bool_int→oZ,int_none→o2,int_bool→o4,str_none→o5,int_int→pb,str_str→pd,same→pF
open List.Pairwise renaming imp→gy
open Sum.inr renaming inj→iS
open PySem.Around renaming frames_deeper→iW,under→kl
open List.Perm renaming refl→iY,length_eq→o6,nodup_iff→o7,mem_iff→pA
open PySem.Builtin.Int renaming intBits→jk
open PySem.Str renaming length→jw,ofString→oJ,empty→pD
open PySem.AutoListH renaming list___mul___list_int_3→jz
open PySem.Code renaming isFrame→km,frames→oO
open PySem.Txt renaming join→lu,slice→ox
open Prod renaming snd→lF,fst→oU,ext→pI
open PySem.IsL renaming update→lS
open PySem.EqNone renaming eq_none_none→nj,eq_none_bool→nq,eq_bool_none→nr,ne_none_none→ny,ne_none_bool→nA,ne_bool_none→nB,eq_none_int→nI,eq_none_str→nJ,eq_int_none→nK,eq_str_none→nM,ne_none_int→nO,ne_none_str→nP,ne_int_none→nQ,ne_str_none→nS
open PySem.EqMixed renaming eq_bool_str→nu,eq_str_bool→nv,ne_bool_str→nC,ne_str_bool→nE,eq_int_str→nL,eq_str_int→nN,ne_int_str→nR,ne_str_int→nT
open PySem.Moved renaming eq_with→og
open PySem.Builtin.Range renaming rangeSize→ou
open PySem.MeetsSeq renaming EqGives→oG
open Sum.inl renaming inj→oM
open PySem.W.Looks renaming here→o9
open PySem.W.WShape renaming has→pe
open PySem.Walks renaming list→pf
open PySem.Draws renaming list→ph
open PySem.Within renaming cons→pq
open PyProof.Rows.IsTup renaming new→pB
open PySem.DictEntry renaming refKey→pC
open PySem.Heap.DictOf renaming new→pG
open PySem.Value.type renaming inj→pH
open PySem.Value.ref renaming inj→pJ
set_option Elab.async false
set_option linter.all false
set_option maxRecDepth 100000
set_option maxHeartbeats 4000000
section
namespace L2
open PySem
def inClass (s:bR)(j:Nat):bR:=match s with
 | .ClassDef _ _ _ body _ _ _ _ _ _ _=>body.getD j (.Pass ⟨0,0,0,0⟩)
 |_=>.Pass ⟨0,0,0,0⟩
def defArgs (s:bR):oq:=match s with
 | .FunctionDef _ a _ _ _ _ _ _ _ _=>a
 |_=>{posonlyargs:=[],args:=[],vararg:=none,kwonlyargs:=[],kw_defaults:=[],kwarg:=none,defaults:=[]}
def defBody (s:bR):List bR:=match s with
 | .FunctionDef _ _ b _ _ _ _ _ _ _=>b
 |_=>[]
def defScope (s:bR):dv:=match s with
 | .FunctionDef _ _ _ _ _ _ sc _ _ _=>sc
 |_=>{kind:=.function,names:=[],isGenerator:=false,isCoroutine:=false}
end L2
namespace Kn
open PySem
def top (i:Nat):bR:=bg.main.body.getD i (.Pass ⟨0,0,0,0⟩)
end Kn
namespace Kn
open PySem PySem.W PyProof.Rows
def topRunT (tb:String->Option eO)(p:aw)(w:aI)(n₀:Nat)(ann:Option ae):Nat->mH->Thread->Option mH
 |0,_,_=>none
 |n+1,s,t=>match through t with
  |true=>some s
  |false=>match stepOk n₀ ann t with
   |false=>none
   |true=>match stepT (denote tb) p w s t with
    |some (s',t')=>topRunT tb p w n₀ ann n s' t'
    |none=>none
theorem topRun_of {tb:String->Option eO}{p:aw}{w:aI}{n₀:Nat}{ann:Option ae}:∀{n:Nat}{s s':mH}{t:Thread},topRunT tb p w n₀ ann n s t=some s'->topRun tb p w n₀ ann n s.abs t=some s'.abs
 |0,_,_,_,h=>by cases h
 |n+1,s,s',t,h=>by
  unfold topRunT at h
  unfold topRun
  cases he:through t with
  |true=>rw[he]at h;cases h;rfl
  |false=>
   rw[he]at h
   cases hk:stepOk n₀ ann t with
   |false=>rw[hk]at h;cases h
   |true=>
    rw[hk]at h
    cases hs:stepT (denote tb) p w s t with
    |none=>rw[hs]at h;cases h
    |some r=>obtain⟨s₂,t₂⟩:=r;rw[hs]at h;rw[stepT_spec hs];exact topRun_of h
def insAll:List Obj->Nat->BT->Option BT
 | [],_,T=>some T
 |o::os,n,T=>match((T.ins n o).get n).isSome with
  |true=>insAll os (n+1) (T.ins n o)
  |false=>none
theorem insAll_abs {life:Life}:∀{os:List Obj}{n:Nat}{T T':BT},insAll os n T=some T'->(absHeap T' (n+os.length) life).objs.toList=(absHeap T n life).objs.toList++os
 | [],n,T,T',h=>by cases h;simp
 |o::os,n,T,T',h=>by
  unfold insAll at h
  cases hi:((T.ins n o).get n).isSome with
  |false=>rw[hi]at h;cases h
  |true=>
   rw[hi]at h
   have h1:=insAll_abs (life:=life) h
   have h2:=absHeap_ins (life:=life) hi
   have e:n+1+os.length=n+(o::os).length:=by rw[aR];omega
   rw[<-e,h1,h2]
   show((absHeap T n life).objs.push o).toList++os=_
   rw[Array.toList_push,eP];rfl
theorem insAll_of {s:ah}{T:BT}(h:insAll s.heap.objs.toList 0 .nil=some T):(SharedT.mk T s.heap.objs.size s.heap.life s.gens s.drawn s.toks s.os).abs=s:=by
 have h1:=insAll_abs (life:=s.heap.life) h
 have e0:(absHeap .nil 0 s.heap.life).objs.toList=[]:=rfl
 have e1:0+s.heap.objs.toList.length=s.heap.objs.size:=by rw[ka];rfl
 rw[e0,mv,e1]at h1
 have h2:absHeap T s.heap.objs.size s.heap.life=s.heap:=by
  have h3:(absHeap T s.heap.objs.size s.heap.life).objs=s.heap.objs:=lJ.mp h1
  have h4:(absHeap T s.heap.objs.size s.heap.life).life=s.heap.life:=rfl
  generalize absHeap T s.heap.objs.size s.heap.life=A at h3 h4
  cases A
  obtain⟨⟨o,l⟩,_,_,_,_⟩:=s
  subst h3 h4
  rfl
 unfold SharedT.abs
 dsimp only
 rw[h2]
def topFromT (tb:String->Option eO)(p:aw)(w:aI)(N:Nat)(s₀:ah)(T₀:mH):Option ah :=
 match s₀.heap.isNs mainGlobals&&s₀.gens.size==0 with
 |true=>(topRunT tb p w s₀.heap.objs.size (s₀.heap.nsMap mainGlobals "__annotations__") N T₀ (topStub p)).bind fun t₁=>match staticsOk (importedModules p.main.body) s₀.heap t₁.abs.heap&&namesBound p t₁.abs.heap&&gensDone t₁.abs&&laidKept s₀.heap t₁.abs.heap with
   |true=>some t₁.abs
   |false=>none
 |false=>none
theorem topFrom_of {tb:String->Option eO}{p:aw}{w:aI}{N:Nat}{s₀:ah}{T₀:mH}{s₁:ah}(e:T₀.abs=s₀)(h:topFromT tb p w N s₀ T₀=some s₁):topFrom tb p w N s₀=some s₁:=by
 unfold topFromT at h
 unfold topFrom
 cases hb:s₀.heap.isNs mainGlobals&&s₀.gens.size==0 with
 |false=>rw[hb]at h;cases h
 |true=>
  rw[hb]at h
  dsimp only at h⊢
  obtain⟨t₁,h1,h2⟩:=eG.mp h
  have h3:=topRun_of h1
  rw[e]at h3
  rw[h3]
  exact h2
def openEndsT (tb:String->Option eO)(p:aw)(w:aI)(N:Nat):Option ah:=(fencedOpening tb p w N).bind fun s₀=>(insAll s₀.heap.objs.toList 0 .nil).bind fun T=>topFromT tb p w N s₀ ⟨T,s₀.heap.objs.size,s₀.heap.life,s₀.gens,s₀.drawn,s₀.toks,s₀.os⟩
theorem openEnds_of {tb:String->Option eO}{p:aw}{w:aI}{N:Nat}{s₁:ah}(h:openEndsT tb p w N=some s₁):openEnds tb p w N=some s₁:=by
 obtain⟨s₀,h1,h2⟩:=eG.mp h
 obtain⟨T,h3,h4⟩:=eG.mp h2
 unfold openEnds
 rw[h1]
 exact topFrom_of (insAll_of h3) h4
theorem openMap_of {tb:String->Option eO}{p:aw}{w:aI}{N:Nat}{α:Type}{F:ah->α}{r:α}(h:(openEndsT tb p w N).map F=some r):(openEnds tb p w N).map F=some r:=by
 obtain⟨s₁,h1,h2⟩:=eQ.mp h
 rw[openEnds_of h1,ed,h2]
end Kn
open PySem PySem.W PyProof.Rows
namespace Kn
open L2
def kE (P:mK)(x:Str)(t:Nat)(v:ae):DictEntry:=⟨PyData.keyHash P x,.str x t,v⟩
def kF (s:bR)(nm qn:Str)(df kd doc pm:ae)(an:Option af)(cd ct:ae)(c:ae)(d:Option af)(sl:Array (Option ae)):Obj :=
 ⟨c,d,.func (cp nm qn (defArgs s) (defBody s) (defScope s) df kd doc pm an cd ct),sl⟩
def kC (n:Str)(a b c:Nat)(i3 i4 i5 i6 i7:Int)(r8:af)(b9:Bool)(i10:Int)(r11 r13 r14 r15:af)(i16 i17:Int)(e:Nat):Obj :=
 ⟨.type "code",none,.fields #[.str n a,.str n b,.str (.ofString "/claim/cut.py") c,.int i3 0,.int i4 0,.int i5 0,.int i6 0,.int i7 0,.ref r8,.bool b9,.int i10 0,.ref r11,.none,.ref r13,.ref r14,.ref r15,.int i16 0,.int i17 0,.str (.ofString "/claim/cut.py") e],#[]⟩
def kD (s:bR)(n m:Str)(t:Nat)(c:af):Obj:=kF s n n .none .none .none (.str m t) none (.ref c) .none (.type "function") none #[]
noncomputable def kfr:mK->Frag:=fun P=>(nat_lit 2,⟨.none,none,.dict #[] 0,#[]⟩)::
 (nat_lit 3,⟨(.type "dict"),none,.dict #[kE P (.ofString "__name__") 165 (.str (.ofString "law_kinnames_k89_ledgers") 646),kE P (.ofString "__doc__") 166 .none,kE P (.ofString "__package__") 167 .none,kE P (.ofString "__loader__") 168 (.builtin "__main__.__loader__#opaque"),kE P (.ofString "__spec__") 169 .none,kE P (.ofString "__annotations__") 170 (.ref 6),kE P (.ofString "__builtins__") 171 (.ref 4),kE P (.ofString "__file__") 173 (.str (.ofString "/claim/cut.py") 172),kE P (.ofString "__cached__") 174 .none,kE P (.ofString "_wall") 193 (.ref 21),kE P (.ofString "LikeError") 213 (.ref 31),kE P (.ofString "NoBook") 229 (.ref 44),kE P (.ofString "NoOrder") 245 (.ref 56),kE P (.ofString "NoName") 261 (.ref 68),kE P (.ofString "Nothing") 277 (.ref 80),kE P (.ofString "LETTERS") 281 (.str (.ofString "abcdefghijklmnopqrstuvwxyz") 280),kE P (.ofString "MOST_LETTERS") 283 (.int (8) 282),kE P (.ofString "MOST_NAMES") 285 (.int (8) 284),kE P (.ofString "MOST_ORDER") 287 (.int (3) 286),kE P (.ofString "is_name") 293 (.ref 87),kE P (.ofString "is_book") 299 (.ref 92),kE P (.ofString "is_whole") 308 (.ref 99),kE P (.ofString "is_order") 315 (.ref 106),kE P (.ofString "need_book") 322 (.ref 113),kE P (.ofString "need_order") 329 (.ref 120),kE P (.ofString "need_name") 336 (.ref 127),kE P (.ofString "end_of") 344 (.ref 134),kE P (.ofString "ends_and_letters") 350 (.ref 139),kE P (.ofString "counted_rows") 363 (.ref 146),kE P (.ofString "NOUGHT") 368 (.ref 147),kE P (.ofString "WHOLE") 371 (.ref 148),kE P (.ofString "greatest_divisor") 380 (.ref 155),kE P (.ofString "lowest") 389 (.ref 162),kE P (.ofString "times") 397 (.ref 169),kE P (.ofString "is_less") 405 (.ref 176),kE P (.ofString "place_of_greatest") 416 (.ref 183),kE P (.ofString "part_in") 424 (.ref 190),kE P (.ofString "steps_by_rows") 430 (.ref 195),kE P (.ofString "share_by_rows") 441 (.ref 202),kE P (.ofString "share") 450 (.ref 209),kE P (.ofString "makes") 459 (.ref 216),kE P (.ofString "Stepper") 530 (.ref 268),kE P (.ofString "Ledger") 645 (.ref 360),kE P (.ofString "_law_cell") 655 (.ref 369),kE P (.ofString "_law_drawn") 665 (.ref 376),kE P (.ofString "_law_name") 671 (.ref 381),kE P (.ofString "_law_book") 683 (.ref 388),kE P (.ofString "_law_counts") 696 (.ref 395),kE P (.ofString "_law_lowest") 706 (.ref 402),kE P (.ofString "_law_share_by") 712 (.ref 407),kE P (.ofString "_law_refused") 720 (.ref 414),kE P (.ofString "_law_told") 731 (.ref 421),kE P (.ofString "_law_asked") 741 (.ref 428),kE P (.ofString "_law_due") 752 (.ref 435),kE P (.ofString "_law_best_title") 764 (.ref 442),kE P (.ofString "_law_orders") 772 (.ref 449),kE P (.ofString "law") 778 (.ref 454)] 57,#[]⟩)::
 (nat_lit 20,kC "_wall" 187 188 189 1 1 0 0 3 15 true 181 16 17 18 19 191 1 192)::
 (nat_lit 21,kD (top 0) "_wall" "__main__" 164 20)::
 (nat_lit 30,⟨(.type "dict"),none,.dict #[kE P (.ofString "__module__") 203 (.str (.ofString "kinnames.errors") 194),kE P (.ofString "__firstlineno__") 207 (.int (5) 206),kE P (.ofString "__static_attributes__") 208 (.ref 29),kE P (.ofString "__weakref__") 210 (.ref 32),kE P (.ofString "__doc__") 211 .none] 3,#[]⟩)::
 (nat_lit 31,⟨(.type "type"),none,.cls ⟨(.ofString "LikeError"),[(.type "ValueError")],[(.ref 31),(.type "ValueError"),(.type "Exception"),(.type "BaseException"),(.type "object")],30,(.ofString "LikeError"),true,[],[(.ref 44),(.ref 56),(.ref 68),(.ref 80)],false,none,false⟩,#[(some (.ref 22)),none,(some (.str (.ofString "LikeError") 196)),(some (.str (.ofString "LikeError") 204)),(some (.builtin "ValueError.__new__")),(some (.bool true))]⟩)::
 (nat_lit 32,⟨(.type "getset_descriptor"),none,.fields #[(.str (.ofString "__weakref__") 209),(.ref 31),(.builtin "ExceptionGroup.__weakref__"),.none],#[]⟩)::
 (nat_lit 43,⟨(.type "dict"),none,.dict #[kE P (.ofString "__module__") 221 (.str (.ofString "kinnames.errors") 194),kE P (.ofString "__firstlineno__") 225 (.int (7) 224),kE P (.ofString "__static_attributes__") 226 (.ref 42),kE P (.ofString "__doc__") 227 .none] 2,#[]⟩)::
 (nat_lit 44,⟨(.type "type"),none,.cls ⟨(.ofString "NoBook"),[(.ref 31)],[(.ref 44),(.ref 31),(.type "ValueError"),(.type "Exception"),(.type "BaseException"),(.type "object")],43,(.ofString "NoBook"),true,[],[],false,none,false⟩,#[(some (.ref 35)),none,(some (.str (.ofString "NoBook") 214)),(some (.str (.ofString "NoBook") 222)),(some (.builtin "ValueError.__new__")),(some (.bool true))]⟩)::
 (nat_lit 55,⟨(.type "dict"),none,.dict #[kE P (.ofString "__module__") 237 (.str (.ofString "kinnames.errors") 194),kE P (.ofString "__firstlineno__") 241 (.int (9) 240),kE P (.ofString "__static_attributes__") 242 (.ref 54),kE P (.ofString "__doc__") 243 .none] 2,#[]⟩)::
 (nat_lit 56,⟨(.type "type"),none,.cls ⟨(.ofString "NoOrder"),[(.ref 31)],[(.ref 56),(.ref 31),(.type "ValueError"),(.type "Exception"),(.type "BaseException"),(.type "object")],55,(.ofString "NoOrder"),true,[],[],false,none,false⟩,#[(some (.ref 47)),none,(some (.str (.ofString "NoOrder") 230)),(some (.str (.ofString "NoOrder") 238)),(some (.builtin "ValueError.__new__")),(some (.bool true))]⟩)::
 (nat_lit 67,⟨(.type "dict"),none,.dict #[kE P (.ofString "__module__") 253 (.str (.ofString "kinnames.errors") 194),kE P (.ofString "__firstlineno__") 257 (.int (11) 256),kE P (.ofString "__static_attributes__") 258 (.ref 66),kE P (.ofString "__doc__") 259 .none] 2,#[]⟩)::
 (nat_lit 68,⟨(.type "type"),none,.cls ⟨(.ofString "NoName"),[(.ref 31)],[(.ref 68),(.ref 31),(.type "ValueError"),(.type "Exception"),(.type "BaseException"),(.type "object")],67,(.ofString "NoName"),true,[],[],false,none,false⟩,#[(some (.ref 59)),none,(some (.str (.ofString "NoName") 246)),(some (.str (.ofString "NoName") 254)),(some (.builtin "ValueError.__new__")),(some (.bool true))]⟩)::
 (nat_lit 79,⟨(.type "dict"),none,.dict #[kE P (.ofString "__module__") 269 (.str (.ofString "kinnames.errors") 194),kE P (.ofString "__firstlineno__") 273 (.int (13) 272),kE P (.ofString "__static_attributes__") 274 (.ref 78),kE P (.ofString "__doc__") 275 .none] 2,#[]⟩)::
 (nat_lit 80,⟨(.type "type"),none,.cls ⟨(.ofString "Nothing"),[(.ref 31)],[(.ref 80),(.ref 31),(.type "ValueError"),(.type "Exception"),(.type "BaseException"),(.type "object")],79,(.ofString "Nothing"),true,[],[],false,none,false⟩,#[(some (.ref 71)),none,(some (.str (.ofString "Nothing") 262)),(some (.str (.ofString "Nothing") 270)),(some (.builtin "ValueError.__new__")),(some (.bool true))]⟩)::
 (nat_lit 86,⟨(.type "code"),none,.fields #[(.str (.ofString "is_name") 288),(.str (.ofString "is_name") 289),(.str (.ofString "/claim/cut.py") 290),(.int (20) 0),(.int (1) 0),(.int (0) 0),(.int (0) 0),(.int (3) 0),(.ref 83),(.bool true),(.int (181) 0),(.ref 84),.none,.none,.none,(.ref 85),(.int (291) 0),(.int (20) 0),(.str (.ofString "/claim/cut.py") 292)],#[]⟩)::
 (nat_lit 87,kD (top 12) "is_name" "kinnames.books" 278 86)::
 (nat_lit 91,⟨(.type "code"),none,.fields #[(.str (.ofString "is_book") 294),(.str (.ofString "is_book") 295),(.str (.ofString "/claim/cut.py") 296),(.int (24) 0),(.int (1) 0),(.int (0) 0),(.int (0) 0),(.int (3) 0),(.ref 88),(.bool true),(.int (181) 0),(.ref 89),.none,.none,.none,(.ref 90),(.int (297) 0),(.int (24) 0),(.str (.ofString "/claim/cut.py") 298)],#[]⟩)::
 (nat_lit 92,kD (top 13) "is_book" "kinnames.books" 278 91)::
 (nat_lit 98,kC "is_whole" 300 301 302 28 3 0 0 3 93 true 181 94 95 96 97 306 28 307)::
 (nat_lit 99,kD (top 14) "is_whole" "kinnames.books" 278 98)::
 (nat_lit 105,kC "is_order" 309 310 311 32 1 0 0 3 100 true 181 101 102 103 104 313 32 314)::
 (nat_lit 106,kD (top 15) "is_order" "kinnames.books" 278 105)::
 (nat_lit 112,kC "need_book" 316 317 318 34 1 0 0 3 107 true 181 108 109 110 111 320 34 321)::
 (nat_lit 113,kD (top 16) "need_book" "kinnames.books" 278 112)::
 (nat_lit 119,kC "need_order" 323 324 325 37 1 0 0 3 114 true 181 115 116 117 118 327 37 328)::
 (nat_lit 120,kD (top 17) "need_order" "kinnames.books" 278 119)::
 (nat_lit 126,kC "need_name" 330 331 332 40 1 0 0 3 121 true 181 122 123 124 125 334 40 335)::
 (nat_lit 127,kD (top 18) "need_name" "kinnames.books" 278 126)::
 (nat_lit 133,kC "end_of" 337 338 339 43 2 0 0 3 128 true 181 129 130 131 132 342 43 343)::
 (nat_lit 134,kD (top 19) "end_of" "kinnames.books" 278 133)::
 (nat_lit 138,⟨(.type "code"),none,.fields #[(.str (.ofString "ends_and_letters") 345),(.str (.ofString "ends_and_letters") 346),(.str (.ofString "/claim/cut.py") 347),(.int (45) 0),(.int (2) 0),(.int (0) 0),(.int (0) 0),(.int (3) 0),(.ref 135),(.bool true),(.int (181) 0),(.ref 136),.none,.none,.none,(.ref 137),(.int (348) 0),(.int (45) 0),(.str (.ofString "/claim/cut.py") 349)],#[]⟩)::
 (nat_lit 139,kD (top 20) "ends_and_letters" "kinnames.books" 278 138)::
 (nat_lit 145,kC "counted_rows" 351 352 353 47 2 0 0 3 140 true 181 141 142 143 144 361 47 362)::
 (nat_lit 146,kD (top 21) "counted_rows" "kinnames.books" 278 145)::
 (nat_lit 147,⟨(.type "tuple"),none,.seq #[(.int (0) 366),(.int (1) 367)] 0,#[]⟩)::
 (nat_lit 148,⟨(.type "tuple"),none,.seq #[(.int (1) 369),(.int (1) 370)] 0,#[]⟩)::
 (nat_lit 154,kC "greatest_divisor" 372 373 374 57 2 0 0 3 149 true 181 150 151 152 153 378 57 379)::
 (nat_lit 155,kD (top 25) "greatest_divisor" "kinnames.shares" 364 154)::
 (nat_lit 161,kC "lowest" 381 382 383 63 2 0 0 3 156 true 181 157 158 159 160 387 63 388)::
 (nat_lit 162,kD (top 26) "lowest" "kinnames.shares" 364 161)::
 (nat_lit 168,kC "times" 390 391 392 66 2 0 0 3 163 true 181 164 165 166 167 395 66 396)::
 (nat_lit 169,kD (top 27) "times" "kinnames.shares" 364 168)::
 (nat_lit 175,kC "is_less" 398 399 400 68 2 0 0 3 170 true 181 171 172 173 174 403 68 404)::
 (nat_lit 176,kD (top 28) "is_less" "kinnames.shares" 364 175)::
 (nat_lit 182,kC "place_of_greatest" 406 407 408 70 1 0 0 3 177 true 181 178 179 180 181 414 70 415)::
 (nat_lit 183,kD (top 29) "place_of_greatest" "kinnames.shares" 364 182)::
 (nat_lit 189,kC "part_in" 417 418 419 78 2 0 0 3 184 true 181 185 186 187 188 422 78 423)::
 (nat_lit 190,kD (top 30) "part_in" "kinnames.shares" 364 189)::
 (nat_lit 194,⟨(.type "code"),none,.fields #[(.str (.ofString "steps_by_rows") 425),(.str (.ofString "steps_by_rows") 426),(.str (.ofString "/claim/cut.py") 427),(.int (82) 0),(.int (3) 0),(.int (0) 0),(.int (0) 0),(.int (3) 0),(.ref 191),(.bool true),(.int (181) 0),(.ref 192),.none,.none,.none,(.ref 193),(.int (428) 0),(.int (82) 0),(.str (.ofString "/claim/cut.py") 429)],#[]⟩)::
 (nat_lit 195,kD (top 31) "steps_by_rows" "kinnames.shares" 364 194)::
 (nat_lit 201,kC "share_by_rows" 431 432 433 84 3 0 0 3 196 true 181 197 198 199 200 439 84 440)::
 (nat_lit 202,kD (top 32) "share_by_rows" "kinnames.shares" 364 201)::
 (nat_lit 208,kC "share" 442 443 444 89 3 0 0 3 203 true 181 204 205 206 207 448 89 449)::
 (nat_lit 209,kD (top 33) "share" "kinnames.shares" 364 208)::
 (nat_lit 215,kC "makes" 451 452 453 94 3 0 0 3 210 true 181 211 212 213 214 457 94 458)::
 (nat_lit 216,kD (top 34) "makes" "kinnames.shares" 364 215)::
 (nat_lit 229,⟨(.type "code"),none,.fields #[(.str (.ofString "__init__") 474),(.str (.ofString "Stepper.__init__") 475),(.str (.ofString "/claim/cut.py") 476),(.int (99) 0),(.int (2) 0),(.int (0) 0),(.int (0) 0),(.int (3) 0),(.ref 224),(.bool true),(.int (181) 0),(.ref 225),.none,(.ref 226),(.ref 227),(.ref 228),(.int (479) 0),(.int (99) 0),(.str (.ofString "/claim/cut.py") 480)],#[]⟩)::
 (nat_lit 230,kF (inClass (top 36) 0) (.ofString "__init__") (.ofString "Stepper.__init__") .none .none .none (.str (.ofString "kinnames.pens") 460) none (.ref 229) .none (.type "function") none #[])::
 (nat_lit 236,⟨(.type "code"),none,.fields #[(.str (.ofString "step_to") 482),(.str (.ofString "Stepper.step_to") 483),(.str (.ofString "/claim/cut.py") 484),(.int (104) 0),(.int (3) 0),(.int (0) 0),(.int (0) 0),(.int (3) 0),(.ref 231),(.bool true),(.int (181) 0),(.ref 232),.none,(.ref 233),(.ref 234),(.ref 235),(.int (488) 0),(.int (104) 0),(.str (.ofString "/claim/cut.py") 489)],#[]⟩)::
 (nat_lit 237,kF (inClass (top 36) 1) (.ofString "step_to") (.ofString "Stepper.step_to") .none .none .none (.str (.ofString "kinnames.pens") 460) none (.ref 236) .none (.type "function") none #[])::
 (nat_lit 243,⟨(.type "code"),none,.fields #[(.str (.ofString "back") 491),(.str (.ofString "Stepper.back") 492),(.str (.ofString "/claim/cut.py") 493),(.int (109) 0),(.int (1) 0),(.int (0) 0),(.int (0) 0),(.int (3) 0),(.ref 238),(.bool true),(.int (181) 0),(.ref 239),.none,(.ref 240),(.ref 241),(.ref 242),(.int (495) 0),(.int (109) 0),(.str (.ofString "/claim/cut.py") 496)],#[]⟩)::
 (nat_lit 244,kF (inClass (top 36) 2) (.ofString "back") (.ofString "Stepper.back") .none .none .none (.str (.ofString "kinnames.pens") 460) none (.ref 243) .none (.type "function") none #[])::
 (nat_lit 250,⟨(.type "code"),none,.fields #[(.str (.ofString "forth") 498),(.str (.ofString "Stepper.forth") 499),(.str (.ofString "/claim/cut.py") 500),(.int (112) 0),(.int (1) 0),(.int (0) 0),(.int (0) 0),(.int (3) 0),(.ref 245),(.bool true),(.int (181) 0),(.ref 246),.none,(.ref 247),(.ref 248),(.ref 249),(.int (502) 0),(.int (112) 0),(.str (.ofString "/claim/cut.py") 503)],#[]⟩)::
 (nat_lit 251,kF (inClass (top 36) 3) (.ofString "forth") (.ofString "Stepper.forth") .none .none .none (.str (.ofString "kinnames.pens") 460) none (.ref 250) .none (.type "function") none #[])::
 (nat_lit 257,⟨(.type "code"),none,.fields #[(.str (.ofString "many") 505),(.str (.ofString "Stepper.many") 506),(.str (.ofString "/claim/cut.py") 507),(.int (115) 0),(.int (1) 0),(.int (0) 0),(.int (0) 0),(.int (3) 0),(.ref 252),(.bool true),(.int (181) 0),(.ref 253),.none,(.ref 254),(.ref 255),(.ref 256),(.int (509) 0),(.int (115) 0),(.str (.ofString "/claim/cut.py") 510)],#[]⟩)::
 (nat_lit 258,kF (inClass (top 36) 4) (.ofString "many") (.ofString "Stepper.many") .none .none .none (.str (.ofString "kinnames.pens") 460) none (.ref 257) .none (.type "function") none #[])::
 (nat_lit 264,⟨(.type "code"),none,.fields #[(.str (.ofString "become") 512),(.str (.ofString "Stepper.become") 513),(.str (.ofString "/claim/cut.py") 514),(.int (118) 0),(.int (2) 0),(.int (0) 0),(.int (0) 0),(.int (3) 0),(.ref 259),(.bool true),(.int (181) 0),(.ref 260),.none,(.ref 261),(.ref 262),(.ref 263),(.int (517) 0),(.int (118) 0),(.str (.ofString "/claim/cut.py") 518)],#[]⟩)::
 (nat_lit 265,kF (inClass (top 36) 5) (.ofString "become") (.ofString "Stepper.become") .none .none .none (.str (.ofString "kinnames.pens") 460) none (.ref 264) .none (.type "function") none #[])::
 (nat_lit 267,⟨(.type "dict"),none,.dict #[kE P (.ofString "__module__") 469 (.str (.ofString "kinnames.pens") 460),kE P (.ofString "__firstlineno__") 473 (.int (97) 472),kE P (.ofString "__init__") 481 (.ref 230),kE P (.ofString "step_to") 490 (.ref 237),kE P (.ofString "back") 497 (.ref 244),kE P (.ofString "forth") 504 (.ref 251),kE P (.ofString "many") 511 (.ref 258),kE P (.ofString "become") 519 (.ref 265),kE P (.ofString "__static_attributes__") 523 (.ref 266),kE P (.ofString "__dict__") 525 (.ref 269),kE P (.ofString "__weakref__") 527 (.ref 270),kE P (.ofString "__doc__") 528 .none] 4,#[]⟩)::
 (nat_lit 268,⟨(.type "type"),none,.cls ⟨(.ofString "Stepper"),[(.type "object")],[(.ref 268),(.type "object")],267,(.ofString "Stepper"),true,[],[(.ref 360)],false,none,false⟩,#[none,none,(some (.str (.ofString "Stepper") 462)),(some (.str (.ofString "Stepper") 470)),(some (.builtin "object.__new__")),(some (.bool true))]⟩)::
 (nat_lit 269,⟨(.type "getset_descriptor"),none,.fields #[(.str (.ofString "__dict__") 524),(.ref 268),(.builtin "function.__dict__"),(.builtin "function.__dict__#set")],#[]⟩)::
 (nat_lit 270,⟨(.type "getset_descriptor"),none,.fields #[(.str (.ofString "__weakref__") 526),(.ref 268),(.builtin "ExceptionGroup.__weakref__"),.none],#[]⟩)::
 (nat_lit 285,⟨(.type "code"),none,.fields #[(.str (.ofString "__init__") 545),(.str (.ofString "Ledger.__init__") 546),(.str (.ofString "/claim/cut.py") 547),(.int (123) 0),(.int (2) 0),(.int (0) 0),(.int (0) 0),(.int (3) 0),(.ref 280),(.bool true),(.int (181) 0),(.ref 281),.none,(.ref 282),(.ref 283),(.ref 284),(.int (550) 0),(.int (123) 0),(.str (.ofString "/claim/cut.py") 551)],#[]⟩)::
 (nat_lit 286,kF (inClass (top 38) 0) (.ofString "__init__") (.ofString "Ledger.__init__") .none .none .none (.str (.ofString "kinnames.ledgers") 531) none (.ref 285) .none (.type "function") none #[])::
 (nat_lit 292,⟨(.type "code"),none,.fields #[(.str (.ofString "need_title") 553),(.str (.ofString "Ledger.need_title") 554),(.str (.ofString "/claim/cut.py") 555),(.int (128) 0),(.int (2) 0),(.int (0) 0),(.int (0) 0),(.int (3) 0),(.ref 287),(.bool true),(.int (181) 0),(.ref 288),.none,(.ref 289),(.ref 290),(.ref 291),(.int (558) 0),(.int (128) 0),(.str (.ofString "/claim/cut.py") 559)],#[]⟩)::
 (nat_lit 293,kF (inClass (top 38) 1) (.ofString "need_title") (.ofString "Ledger.need_title") .none .none .none (.str (.ofString "kinnames.ledgers") 531) none (.ref 292) .none (.type "function") none #[])::
 (nat_lit 299,⟨(.type "code"),none,.fields #[(.str (.ofString "with_book") 561),(.str (.ofString "Ledger.with_book") 562),(.str (.ofString "/claim/cut.py") 563),(.int (132) 0),(.int (3) 0),(.int (0) 0),(.int (0) 0),(.int (3) 0),(.ref 294),(.bool true),(.int (181) 0),(.ref 295),.none,(.ref 296),(.ref 297),(.ref 298),(.int (568) 0),(.int (132) 0),(.str (.ofString "/claim/cut.py") 569)],#[]⟩)::
 (nat_lit 300,kF (inClass (top 38) 2) (.ofString "with_book") (.ofString "Ledger.with_book") .none .none .none (.str (.ofString "kinnames.ledgers") 531) none (.ref 299) .none (.type "function") none #[])::
 (nat_lit 306,⟨(.type "code"),none,.fields #[(.str (.ofString "keep") 571),(.str (.ofString "Ledger.keep") 572),(.str (.ofString "/claim/cut.py") 573),(.int (137) 0),(.int (3) 0),(.int (0) 0),(.int (0) 0),(.int (3) 0),(.ref 301),(.bool true),(.int (181) 0),(.ref 302),.none,(.ref 303),(.ref 304),(.ref 305),(.int (578) 0),(.int (137) 0),(.str (.ofString "/claim/cut.py") 579)],#[]⟩)::
 (nat_lit 307,kF (inClass (top 38) 3) (.ofString "keep") (.ofString "Ledger.keep") .none .none .none (.str (.ofString "kinnames.ledgers") 531) none (.ref 306) .none (.type "function") none #[])::
 (nat_lit 313,⟨(.type "code"),none,.fields #[(.str (.ofString "drop") 581),(.str (.ofString "Ledger.drop") 582),(.str (.ofString "/claim/cut.py") 583),(.int (144) 0),(.int (2) 0),(.int (0) 0),(.int (0) 0),(.int (3) 0),(.ref 308),(.bool true),(.int (181) 0),(.ref 309),.none,(.ref 310),(.ref 311),(.ref 312),(.int (588) 0),(.int (144) 0),(.str (.ofString "/claim/cut.py") 589)],#[]⟩)::
 (nat_lit 314,kF (inClass (top 38) 4) (.ofString "drop") (.ofString "Ledger.drop") .none .none .none (.str (.ofString "kinnames.ledgers") 531) none (.ref 313) .none (.type "function") none #[])::
 (nat_lit 320,⟨(.type "code"),none,.fields #[(.str (.ofString "hear") 591),(.str (.ofString "Ledger.hear") 592),(.str (.ofString "/claim/cut.py") 593),(.int (152) 0),(.int (3) 0),(.int (0) 0),(.int (0) 0),(.int (3) 0),(.ref 315),(.bool true),(.int (181) 0),(.ref 316),.none,(.ref 317),(.ref 318),(.ref 319),(.int (598) 0),(.int (152) 0),(.str (.ofString "/claim/cut.py") 599)],#[]⟩)::
 (nat_lit 321,kF (inClass (top 38) 5) (.ofString "hear") (.ofString "Ledger.hear") .none .none .none (.str (.ofString "kinnames.ledgers") 531) none (.ref 320) .none (.type "function") none #[])::
 (nat_lit 327,⟨(.type "code"),none,.fields #[(.str (.ofString "titles") 601),(.str (.ofString "Ledger.titles") 602),(.str (.ofString "/claim/cut.py") 603),(.int (161) 0),(.int (1) 0),(.int (0) 0),(.int (0) 0),(.int (3) 0),(.ref 322),(.bool true),(.int (181) 0),(.ref 323),.none,(.ref 324),(.ref 325),(.ref 326),(.int (605) 0),(.int (161) 0),(.str (.ofString "/claim/cut.py") 606)],#[]⟩)::
 (nat_lit 328,kF (inClass (top 38) 6) (.ofString "titles") (.ofString "Ledger.titles") .none .none .none (.str (.ofString "kinnames.ledgers") 531) none (.ref 327) .none (.type "function") none #[])::
 (nat_lit 334,⟨(.type "code"),none,.fields #[(.str (.ofString "book") 608),(.str (.ofString "Ledger.book") 609),(.str (.ofString "/claim/cut.py") 610),(.int (164) 0),(.int (2) 0),(.int (0) 0),(.int (0) 0),(.int (3) 0),(.ref 329),(.bool true),(.int (181) 0),(.ref 330),.none,(.ref 331),(.ref 332),(.ref 333),(.int (613) 0),(.int (164) 0),(.str (.ofString "/claim/cut.py") 614)],#[]⟩)::
 (nat_lit 335,kF (inClass (top 38) 7) (.ofString "book") (.ofString "Ledger.book") .none .none .none (.str (.ofString "kinnames.ledgers") 531) none (.ref 334) .none (.type "function") none #[])::
 (nat_lit 339,⟨(.type "code"),none,.fields #[(.str (.ofString "tellers") 616),(.str (.ofString "Ledger.tellers") 617),(.str (.ofString "/claim/cut.py") 618),(.int (169) 0),(.int (2) 0),(.int (0) 0),(.int (0) 0),(.int (3) 0),(.ref 336),(.bool true),(.int (181) 0),(.ref 337),.none,.none,.none,(.ref 338),(.int (619) 0),(.int (169) 0),(.str (.ofString "/claim/cut.py") 620)],#[]⟩)::
 (nat_lit 340,kF (inClass (top 38) 8) (.ofString "tellers") (.ofString "Ledger.tellers") .none .none .none (.str (.ofString "kinnames.ledgers") 531) none (.ref 339) .none (.type "function") none #[])::
 (nat_lit 344,⟨(.type "code"),none,.fields #[(.str (.ofString "makers_of") 622),(.str (.ofString "Ledger.makers_of") 623),(.str (.ofString "/claim/cut.py") 624),(.int (173) 0),(.int (2) 0),(.int (0) 0),(.int (0) 0),(.int (3) 0),(.ref 341),(.bool true),(.int (181) 0),(.ref 342),.none,.none,.none,(.ref 343),(.int (625) 0),(.int (173) 0),(.str (.ofString "/claim/cut.py") 626)],#[]⟩)::
 (nat_lit 345,kF (inClass (top 38) 9) (.ofString "makers_of") (.ofString "Ledger.makers_of") .none .none .none (.str (.ofString "kinnames.ledgers") 531) none (.ref 344) .none (.type "function") none #[])::
 (nat_lit 349,⟨(.type "code"),none,.fields #[(.str (.ofString "best_of") 628),(.str (.ofString "Ledger.best_of") 629),(.str (.ofString "/claim/cut.py") 630),(.int (177) 0),(.int (2) 0),(.int (0) 0),(.int (0) 0),(.int (3) 0),(.ref 346),(.bool true),(.int (181) 0),(.ref 347),.none,.none,.none,(.ref 348),(.int (631) 0),(.int (177) 0),(.str (.ofString "/claim/cut.py") 632)],#[]⟩)::
 (nat_lit 350,kF (inClass (top 38) 10) (.ofString "best_of") (.ofString "Ledger.best_of") .none .none .none (.str (.ofString "kinnames.ledgers") 531) none (.ref 349) .none (.type "function") none #[])::
 (nat_lit 356,⟨(.type "code"),none,.fields #[(.str (.ofString "twin") 634),(.str (.ofString "Ledger.twin") 635),(.str (.ofString "/claim/cut.py") 636),(.int (183) 0),(.int (1) 0),(.int (0) 0),(.int (0) 0),(.int (3) 0),(.ref 351),(.bool true),(.int (181) 0),(.ref 352),.none,(.ref 353),(.ref 354),(.ref 355),(.int (638) 0),(.int (183) 0),(.str (.ofString "/claim/cut.py") 639)],#[]⟩)::
 (nat_lit 357,kF (inClass (top 38) 11) (.ofString "twin") (.ofString "Ledger.twin") .none .none .none (.str (.ofString "kinnames.ledgers") 531) none (.ref 356) .none (.type "function") none #[])::
 (nat_lit 359,⟨(.type "dict"),none,.dict #[kE P (.ofString "__module__") 540 (.str (.ofString "kinnames.ledgers") 531),kE P (.ofString "__firstlineno__") 544 (.int (121) 543),kE P (.ofString "__init__") 552 (.ref 286),kE P (.ofString "need_title") 560 (.ref 293),kE P (.ofString "with_book") 570 (.ref 300),kE P (.ofString "keep") 580 (.ref 307),kE P (.ofString "drop") 590 (.ref 314),kE P (.ofString "hear") 600 (.ref 321),kE P (.ofString "titles") 607 (.ref 328),kE P (.ofString "book") 615 (.ref 335),kE P (.ofString "tellers") 621 (.ref 340),kE P (.ofString "makers_of") 627 (.ref 345),kE P (.ofString "best_of") 633 (.ref 350),kE P (.ofString "twin") 640 (.ref 357),kE P (.ofString "__static_attributes__") 642 (.ref 358),kE P (.ofString "__doc__") 643 .none] 2,#[]⟩)::
 (nat_lit 360,⟨(.type "type"),none,.cls ⟨(.ofString "Ledger"),[(.ref 268)],[(.ref 360),(.ref 268),(.type "object")],359,(.ofString "Ledger"),true,[],[],false,none,false⟩,#[(some (.ref 273)),none,(some (.str (.ofString "Ledger") 533)),(some (.str (.ofString "Ledger") 541)),(some (.builtin "object.__new__")),(some (.bool true))]⟩)::
 (nat_lit 368,kC "_law_cell" 648 649 650 186 2 0 0 3 363 true 181 364 365 366 367 653 186 654)::
 (nat_lit 369,kD (top 40) "_law_cell" "law_kinnames_k89_ledgers" 646 368)::
 (nat_lit 375,kC "_law_drawn" 656 657 658 190 3 0 0 3 370 true 181 371 372 373 374 663 190 664)::
 (nat_lit 376,kD (top 41) "_law_drawn" "law_kinnames_k89_ledgers" 646 375)::
 (nat_lit 380,⟨(.type "code"),none,.fields #[(.str (.ofString "_law_name") 666),(.str (.ofString "_law_name") 667),(.str (.ofString "/claim/cut.py") 668),(.int (194) 0),(.int (3) 0),(.int (0) 0),(.int (0) 0),(.int (3) 0),(.ref 377),(.bool true),(.int (181) 0),(.ref 378),.none,.none,.none,(.ref 379),(.int (669) 0),(.int (194) 0),(.str (.ofString "/claim/cut.py") 670)],#[]⟩)::
 (nat_lit 381,kD (top 42) "_law_name" "law_kinnames_k89_ledgers" 646 380)::
 (nat_lit 387,kC "_law_book" 672 673 674 198 4 0 0 3 382 true 181 383 384 385 386 681 198 682)::
 (nat_lit 388,kD (top 43) "_law_book" "law_kinnames_k89_ledgers" 646 387)::
 (nat_lit 394,kC "_law_counts" 684 685 686 203 2 0 0 3 389 true 181 390 391 392 393 694 203 695)::
 (nat_lit 395,kD (top 44) "_law_counts" "law_kinnames_k89_ledgers" 646 394)::
 (nat_lit 401,kC "_law_lowest" 697 698 699 213 2 0 0 3 396 true 181 397 398 399 400 704 213 705)::
 (nat_lit 402,kD (top 45) "_law_lowest" "law_kinnames_k89_ledgers" 646 401)::
 (nat_lit 406,⟨(.type "code"),none,.fields #[(.str (.ofString "_law_share_by") 707),(.str (.ofString "_law_share_by") 708),(.str (.ofString "/claim/cut.py") 709),(.int (219) 0),(.int (3) 0),(.int (0) 0),(.int (0) 0),(.int (3) 0),(.ref 403),(.bool true),(.int (181) 0),(.ref 404),.none,.none,.none,(.ref 405),(.int (710) 0),(.int (219) 0),(.str (.ofString "/claim/cut.py") 711)],#[]⟩)::
 (nat_lit 407,kD (top 46) "_law_share_by" "law_kinnames_k89_ledgers" 646 406)::
 (nat_lit 413,kC "_law_refused" 713 714 715 227 1 0 0 3 408 true 181 409 410 411 412 718 227 719)::
 (nat_lit 414,kD (top 47) "_law_refused" "law_kinnames_k89_ledgers" 646 413)::
 (nat_lit 420,kC "_law_told" 721 722 723 233 4 0 0 3 415 true 181 416 417 418 419 729 233 730)::
 (nat_lit 421,kD (top 48) "_law_told" "law_kinnames_k89_ledgers" 646 420)::
 (nat_lit 427,kC "_law_asked" 732 733 734 244 3 0 0 3 422 true 181 423 424 425 426 739 244 740)::
 (nat_lit 428,kD (top 49) "_law_asked" "law_kinnames_k89_ledgers" 646 427)::
 (nat_lit 434,kC "_law_due" 742 743 744 251 4 0 0 3 429 true 181 430 431 432 433 750 251 751)::
 (nat_lit 435,kD (top 50) "_law_due" "law_kinnames_k89_ledgers" 646 434)::
 (nat_lit 441,kC "_law_best_title" 753 754 755 270 3 0 0 3 436 true 181 437 438 439 440 762 270 763)::
 (nat_lit 442,kD (top 51) "_law_best_title" "law_kinnames_k89_ledgers" 646 441)::
 (nat_lit 448,kC "_law_orders" 765 766 767 277 0 0 0 3 443 true 181 444 445 446 447 770 277 771)::
 (nat_lit 449,kD (top 52) "_law_orders" "law_kinnames_k89_ledgers" 646 448)::
 (nat_lit 453,⟨(.type "code"),none,.fields #[(.str (.ofString "law") 773),(.str (.ofString "law") 774),(.str (.ofString "/claim/cut.py") 775),(.int (286) 0),(.int (1) 0),(.int (0) 0),(.int (0) 0),(.int (3) 0),(.ref 450),(.bool true),(.int (181) 0),(.ref 451),.none,.none,.none,(.ref 452),(.int (776) 0),(.int (286) 0),(.str (.ofString "/claim/cut.py") 777)],#[]⟩)::
 (nat_lit 454,kD (top 53) "law" "law_kinnames_k89_ledgers" 646 453)::[]
def kas:List af:=[2,3,20,21,30,31,32,43,44,55,56,67,68,79,80,86,87,91,92,98,99,105,106,112,113,119,120,126,127,133,134,138,139,145,146,147,148,154,155,161,162,168,169,175,176,182,183,189,190,194,195,201,202,208,209,215,216,229,230,236,237,243,244,250,251,257,258,264,265,267,268,269,270,285,286,292,293,299,300,306,307,313,314,320,321,327,328,334,335,339,340,344,345,349,350,356,357,359,360,368,369,375,376,380,381,387,388,394,395,401,402,406,407,413,414,420,421,427,428,434,435,441,442,448,449,453,454]
def kq:aw:=view bg [0,2,3,4,5,6,8,9,10,11,12,13,14,15,16,17,18,19,20,21,23,24,25,26,27,28,29,30,31,32,33,34,36,38,40,41,42,43,44,45,46,47,48,49,50,51,52,53]
def klo:List Str:=[]
theorem kas_e:∀P,kas=(kfr P).map (·.1):=fun _=>by kernel_rfl
noncomputable def hl0 (w:aI):=(openEndsT treeTable bg w 6492).map (fun s=>(seen ((recsOf kq).map (·.name)) (ownsOf kq) [] {s with gens:=#[]},s.heap.bltView,(s.heap.keysOk (looseW kq klo) ((recsOf kq).map (·.name)) ((litsOf kq).map (·.1)) ((clssOf kq (looseW kq klo)).map (·.name))&&s.heap.accountedOkI (importedModules bg.main.body)&&s.heap.isNs mainGlobals&&s.heap.isNs builtinsNs&&tablesOk kq s.heap&& (xlAt kq [] s&&recOk [] s)&& (if true=true then s.gens.size==0 else !leftWithCleanup s.gens))))
noncomputable def hr0 (w:aI):=some (expectedOf kq,bltViewBooted,true)
theorem hl0_e:hl0=hl0:=rfl
theorem hr0_e:hr0=hr0:=rfl
noncomputable def hl1 (w:aI):=(openEndsT treeTable bg w 6492).map (fun s=>(tabsOk kq s,pinSeenD kq (drecsOf kq) s,plainSeenE kq (looseW kq klo) s,plainSeenD kq klo s,wideSeen kq s,clsSeenW kq klo s))
noncomputable def hr1 (w:aI):=some (true,pinGoodD (drecsOf kq),plainGoodE kq (looseW kq klo),plainGoodD kq klo,wideGood kq,clsGoodW kq klo)
theorem hl1_e:hl1=hl1:=rfl
theorem hr1_e:hr1=hr1:=rfl
noncomputable def hl2 (w:aI):=(openEndsT treeTable bg w 6492).map (fun s=>(kas.map s.heap.get?))
noncomputable def hr2 (w:aI):=some ((kfr w.params).map fun p=>some p.2)
theorem hl2_e:hl2=hl2:=rfl
theorem hr2_e:hr2=hr2:=rfl
end Kn
name_quick hl0Q for Kn.hl0 by Kn.hl0_e
name_quick hr0Q for Kn.hr0 by Kn.hr0_e
theorem Kn.hq0 (w:aI):PySem.W.Fast.hl0Q w=PySem.W.Fast.hr0Q w:=by kernel_rfl
theorem Kn.hx0 (w:aI):Kn.hl0 w=Kn.hr0 w:=((congrFun PySem.W.Fast.hl0Q_eq w).trans (Kn.hq0 w)).trans (congrFun PySem.W.Fast.hr0Q_eq w).symm
name_quick hl1Q for Kn.hl1 by Kn.hl1_e
name_quick hr1Q for Kn.hr1 by Kn.hr1_e
theorem Kn.hq1 (w:aI):PySem.W.Fast.hl1Q w=PySem.W.Fast.hr1Q w:=by kernel_rfl
theorem Kn.hx1 (w:aI):Kn.hl1 w=Kn.hr1 w:=((congrFun PySem.W.Fast.hl1Q_eq w).trans (Kn.hq1 w)).trans (congrFun PySem.W.Fast.hr1Q_eq w).symm
name_quick hl2Q for Kn.hl2 by Kn.hl2_e
name_quick hr2Q for Kn.hr2 by Kn.hr2_e
theorem Kn.hq2 (w:aI):PySem.W.Fast.hl2Q w=PySem.W.Fast.hr2Q w:=by kernel_rfl
theorem Kn.hx2 (w:aI):Kn.hl2 w=Kn.hr2 w:=((congrFun PySem.W.Fast.hl2Q_eq w).trans (Kn.hq2 w)).trans (congrFun PySem.W.Fast.hr2Q_eq w).symm
theorem Kn.hl:LeftO bg Kn.kq Kn.klo (fun s=>xlAt Kn.kq [] s&&recOk [] s) (Hook.obs (kHook Kn.kfr Kn.kas Kn.kas_e)) (Hook.val (kHook Kn.kfr Kn.kas Kn.kas_e)) 6492:=fun w=>by
 refine Kn.openMap_of ?_
 obtain⟨s,e,x0⟩:=eQ.mp (Kn.hx0 w)
 have y1:=Kn.hx1 w
 unfold Kn.hl1 at y1
 rw[e]at y1
 have x1:=aq y1
 have y2:=Kn.hx2 w
 unfold Kn.hl2 at y2
 rw[e]at y2
 have x2:=aq y2
 obtain⟨a1,z0_0⟩:=bU x0
 obtain⟨a2,z0_1⟩:=bU z0_0
 have a3:=z0_1
 obtain⟨a4,z1_0⟩:=bU x1
 obtain⟨a5,z1_1⟩:=bU z1_0
 obtain⟨a6,z1_2⟩:=bU z1_1
 obtain⟨a7,z1_3⟩:=bU z1_2
 obtain⟨a8,z1_4⟩:=bU z1_3
 have a9:=z1_4
 have aK:=x2
 rw[e]
 exact congrArg some (dM (dM a1 (dM a2 (dM a3 (dM a4 (dM a5 (dM a6 (dM a7 (dM a8 a9)))))))) aK)
end
section
namespace L2
open PySem PySem.Spec PyProof.Rows
abbrev zX:=Sum Int Str
def jK:zX->ae->Bool
 | .inl k,v=>oK k v
 | .inr x,v=>fq x v
def zID (w:aI):zX->Int
 | .inl k=>hashInt k
 | .inr x=>hashStr w x
theorem u6:∀{k:zX}{v:ae},jK k v=true->(∃i t,k=Sum.inl i/\v=Value.int i t)\/(∃x t,k=Sum.inr x/\v=Value.str x t)
 | .inl i,v,h=>by
  obtain⟨t,e⟩:=Value.isInt_shape (k:=i) (v:=v) h
  exact .inl ⟨i,t,rfl,e⟩
 | .inr x,v,h=>by
  obtain⟨t,e⟩:=jd (x:=x) (v:=v) h
  exact .inr ⟨x,t,rfl,e⟩
theorem zIE (i:Int)(t:Tok):jK (.inl i) (.int i t)=true:=by simp[jK,oK]
theorem zIF (x:Str)(t:Tok):jK (.inr x) (.str x t)=true:=by simp[jK,fq]
theorem zIG (a b:Int):decide ((Sum.inl a:zX)=Sum.inl b)=(a==b):=by
 by_cases e:a=b
 ·subst e;simp
 ·have h:¬(Sum.inl a:zX)=Sum.inl b:=fun q=>e (oM q)
  rw[decide_eq_false h]
  exact(beq_eq_false_iff_ne.mpr e).symm
theorem zIH (a b:Str):decide ((Sum.inr a:zX)=Sum.inr b)=decide (a=b):=by
 by_cases e:a=b
 ·subst e;simp
 ·have h:¬(Sum.inr a:zX)=Sum.inr b:=fun q=>e (iS q)
  rw[decide_eq_false h,decide_eq_false e]
theorem zII (a:Int)(b:Str):decide ((Sum.inl a:zX)=Sum.inr b)=false:=decide_eq_false (fun q=>nomatch q)
theorem zIJ (a:Str)(b:Int):decide ((Sum.inr a:zX)=Sum.inl b)=false:=decide_eq_false (fun q=>nomatch q)
def uH (prog:aw)(w:aI):nF prog w zX where
 is:=jK
 hash:=zID w
 inj:=fun v a b ha hb=>by
  rcases u6 ha with⟨i,t,rfl,rfl⟩|⟨x,t,rfl,rfl⟩
  ·rcases u6 hb with⟨j,u,rfl,e⟩|⟨y,u,rfl,e⟩
   ·injection e with e1 _;rw[e1]
   ·exact nomatch e
  ·rcases u6 hb with⟨j,u,rfl,e⟩|⟨y,u,rfl,e⟩
   ·exact nomatch e
   ·injection e with e1 _;rw[e1]
 byValue:=fun k v h=>by
  rcases u6 h with⟨i,t,rfl,rfl⟩|⟨x,t,rfl,rfl⟩<;>rfl
 pyHash:=fun hv h=>by
  rcases u6 hv with⟨i,t,rfl,rfl⟩|⟨x,t,rfl,rfl⟩
  ·exact wpAny_pyHash_int h
  ·exact lK h
 eqBool:=fun hu hv h=>by
  rcases u6 hu with⟨i,t,rfl,rfl⟩|⟨x,t,rfl,rfl⟩
  ·rcases u6 hv with⟨j,u,rfl,rfl⟩|⟨y,u,rfl,rfl⟩
   ·rw[zIG]at h;exact wpAny_eqBool_int h
   ·rw[zII]at h;exact js i t y u _ _ _ _ h
  ·rcases u6 hv with⟨j,u,rfl,rfl⟩|⟨y,u,rfl,rfl⟩
   ·rw[zIJ]at h;exact jt x t j u _ _ _ _ h
   ·rw[zIH]at h;exact lM h
 «strs»:=fun k x t v h=>by
  rcases u6 h with⟨i,u,rfl,e⟩|⟨y,u,rfl,e⟩
  ·exact nomatch e
  ·injection e with e1 _
   subst e1
   cases v<;>rfl
abbrev yS:=Sum Str Bool
def zER:yS->ae->Bool
 | .inl x,v=>fq x v
 | .inr b,v=>v==Value.bool b
theorem jL:∀{k:yS}{v:ae},zER k v=true->(∃x t,k=Sum.inl x/\v=Value.str x t)\/(∃b,k=Sum.inr b/\v=Value.bool b)
 | .inl x,v,h=>by
  obtain⟨t,e⟩:=jd (x:=x) (v:=v) h
  exact .inl ⟨x,t,rfl,e⟩
 | .inr b,v,h=>.inr ⟨b,rfl,eq_of_beq h⟩
def tkH (w:aI):yS->Int
 | .inl x=>hashStr w x
 | .inr b=>reduceHash (if b then 1 else 0)
theorem zIK {prog:aw}{w:aI}{A:bB}{E:ae->ah->Prop}{s:ah}{b:Bool}{Q:Int->ah->Prop}(h:Q (reduceHash (if b then 1 else 0)) {s with toks:=s.toks+1}) :
  wpAny (model prog w) A (pyHash (.bool b)) Q E s:=by
 refine PySem.W.pyHash_slot (T :="bool") rfl F.slot_bool_hash F.entry_int_hash (F.args_int_hash_1 _) (by decide) (.inl (by cases b<;>rfl)) ?_
 unfold eO.«int.__hash__»
 cases b
 ·wp_walk
  exact⟨_,_,rfl,h⟩
 ·wp_walk
  exact⟨_,_,rfl,h⟩
def kB (prog:aw)(w:aI):nF prog w yS where
 is:=zER
 hash:=tkH w
 inj:=fun v a b ha hb=>by
  rcases jL ha with⟨x,t,rfl,rfl⟩|⟨c,rfl,rfl⟩
  ·rcases jL hb with⟨y,u,rfl,e⟩|⟨d,rfl,e⟩
   ·injection e with e1 _;rw[e1]
   ·exact nomatch e
  ·rcases jL hb with⟨y,u,rfl,e⟩|⟨d,rfl,e⟩
   ·exact nomatch e
   ·injection e with e1;rw[e1]
 byValue:=fun k v h=>by
  rcases jL h with⟨x,t,rfl,rfl⟩|⟨c,rfl,rfl⟩<;>rfl
 pyHash:=fun hv h=>by
  rcases jL hv with⟨x,t,rfl,rfl⟩|⟨c,rfl,rfl⟩
  ·exact lK h
  ·exact zIK h
 eqBool:=fun hu hv h=>by
  rcases jL hu with⟨x,t,rfl,rfl⟩|⟨c,rfl,rfl⟩
  ·rcases jL hv with⟨y,u,rfl,rfl⟩|⟨d,rfl,rfl⟩
   ·have e:decide ((Sum.inl x:yS)=Sum.inl y)=decide (x=y):=by
     by_cases q:x=y
     ·subst q;simp
     ·rw[decide_eq_false q,decide_eq_false fun z=>q (oM z)]
    rw[e]at h;exact lM h
   ·rw[decide_eq_false (fun q=>nomatch q)]at h;exact je x t d _ _ _ _ h
  ·rcases jL hv with⟨y,u,rfl,rfl⟩|⟨d,rfl,rfl⟩
   ·rw[decide_eq_false (fun q=>nomatch q)]at h;exact jf c y u _ _ _ _ h
   ·refine fA c d _ _ _ _ ?_
    have e:decide ((Sum.inr c:yS)=Sum.inr d)=(c==d):=by cases c<;>cases d<;>rfl
    rw[<-e];exact h
 «strs»:=fun k x t v h=>by
  rcases jL h with⟨y,u,rfl,e⟩|⟨d,rfl,e⟩
  ·injection e with e1 _
   subst e1
   cases v<;>rfl
  ·exact nomatch e
theorem zIL (prog:aw)(w:aI)(k:zX)(v:ae):(uH prog w).is k v=jK k v:=rfl
theorem zIM (prog:aw)(w:aI)(i:Int)(t:Tok):(uH prog w).is (.inl i) (.int i t)=true:=zIE i t
theorem zIN (prog:aw)(w:aI)(x:Str)(t:Tok):(uH prog w).is (.inr x) (.str x t)=true:=zIF x t
inductive V where
 |non|bl (b:Bool)|int (i:Int)|str (x:Str)|byt (b:Array UInt8)|flt (b:UInt64)|ref (a:af)|ty (n:String)
 deriving DecidableEq
def zQ:V->ae->Prop
 | .non,u=>u=Value.none
 | .bl b,u=>u=Value.bool b
 | .int i,u=>∃t,u=Value.int i t
 | .str x,u=>∃t,u=Value.str x t
 | .byt b,u=>∃t,u=Value.bytes b t
 | .flt b,u=>∃t,u=Value.float b t
 | .ref a,u=>u=Value.ref a
 | .ty n,u=>u=Value.type n
abbrev zL:List V->List ae->Prop:=lN zQ
theorem zL.length {xs:List V}{us:List ae}(r:zL xs us):xs.length=us.length:=d6 r
theorem zL.get:∀{xs:List V}{us:List ae}{i:Nat}{x:V},zL xs us->xs[i]?=some x->∃u,us[i]?=some u/\zQ x u
 |_,_,_,_,.nil,e=>by simp at e
 |_,_,0,_,.cons r _,e=>by simp at e;subst e;exact⟨_,rfl,r⟩
 |_,_,i+1,x,.cons _ t,e=>by
  obtain⟨u,a,b⟩:=zL.get (i:=i) (x:=x) t (by simpa using e)
  exact⟨u,by simpa using a,b⟩
theorem zL.set {x:V}{u:ae}(r:zQ x u):∀{xs:List V}{us:List ae} (i:Nat),zL xs us->zL (xs.set i x) (us.set i u)
 |_,_,_,.nil=>.nil
 |_,_,0,.cons _ t=>.cons r t
 |_,_,i+1,.cons q t=>.cons q (zL.set r i t)
theorem zL.append:∀{xs a:List V}{us b:List ae},zL xs us->zL a b->zL (xs++a) (us++b)
 |_,_,_,_,.nil,s=>s
 |_,_,_,_,.cons r t,s=>.cons r (zL.append t s)
theorem zL.take:∀{xs:List V}{us:List ae} (n:Nat),zL xs us->zL (xs.take n) (us.take n)
 |_,_,0,_=>.nil
 |_,_,_+1,.nil=>.nil
 |_,_,n+1,.cons r t=>.cons r (zL.take n t)
def vQ:Option V->Option ae->Prop
 |some v,some u=>zQ v u
 |none,none=>True
 |_,_=>False
def KV {κ:Type}:List (κ×V)->List (κ×ae)->Prop:=lN fun(p:κ×V) (q:κ×ae)=>p.1=q.1/\zQ p.2 q.2
def kV:zX->V
 | .inl i=>.int i
 | .inr x=>.str x
def jM:yS->V
 | .inl x=>.str x
 | .inr b=>.bl b
inductive HO where
 |lst (xs:List V)
 |tup (xs:List V)
 |dK (kvs:List (zX×V))|dT (kvs:List (List yS×V))
 |set (S:Int->Bool) (n:Nat)
 |ins (C dx:af) (fs:List (Str×V))
 |own (x:af)
 |xd (fs:List (Str×V))
 |met (f x:af)
 |rng (lo hi:Int)
 |frz (o:Obj) (u:HO)
 |tbl (ps:Array ae)
 |ext (φ:bc->Prop)
abbrev Hp:=af->Option HO
def upd (H:Hp)(a:af)(o:HO):Hp:=fun b=>if b=a then some o else H b
theorem zH {H:Hp}{a:af}{o:HO}:upd H a o a=some o:=by unfold upd;rw[if_pos rfl]
theorem zJ {H:Hp}{a b:af}{o:HO}(h:b≠a):upd H a o b=H b:=by unfold upd;rw[if_neg h]
theorem zBD {H:Hp}{a b:af}{o u:HO}(h:H a=some o)(h':H b=some u)(d:o≠u):a≠b:=by
 intro e;subst e;rw[h]at h';exact d (aq h')
theorem vR {H:Hp}{a b:af}{o:HO}(h:H a=some o)(h':H b=none):a≠b:=by
 intro e;subst e;rw[h]at h';cases h'
section
variable(P:aw)(w:aI)
def yT (H:Hp)(h:bc)(a:af):HO->Prop
 | .lst xs=>xs.length<=sizeLine/\∃(its:List ae) (n:Nat),zL xs its/\h.get? a=some {cls:=.type "list",data:=.seq its.toArray n}
 | .tup xs=>xs.length<=sizeLine/\∃its:List ae,zL xs its/\IsTup h a its.toArray
 | .dK kvs=>kvs.length<=sizeLine/\(a==sysModules)=false/\∃vs,KV kvs vs/\h.DictOf (uH P w) a vs
 | .dT kvs=>kvs.length<=sizeLine/\(a==sysModules)=false/\∃xs:List (List yS×af×ae),
   lN (fun(p:List yS×V) (q:List yS×af×ae)=>p.1=q.1/\H q.2.1=some (.tup (p.1.map jM))/\zQ p.2 q.2.2) kvs xs/\
   ∃o es ep,h.get? a=some o/\o.ExactDict/\o.data=.dict es ep/\es.toList=xs.map (entryOfKey (tupleKind (kB P w)))/\(xs.map (·.1)).Nodup
 | .set S n=>h.SetOf (intKind P w) a S n
 | .ins C dx fs=>H dx=some (.own a)/\fs.length<=1000/\dx≠a/\h.get? a=some (cX C dx)/\
   ∃mA,h.Ns1 dx mA/\(∀f,vQ (fs.lookup f) (mA f))/\kc mA (fs.map (·.1))
 | .own _=>∃o,h.get? a=some o
 | .xd fs=>∃mA,h.Ns1 a mA/\∀f,vQ (fs.lookup f) (mA f)
 | .rng lo hi=>∃t u v,h.get? a=some {cls:=.type "range",data:=.fields #[.int lo t,.int hi u,.int 1 v]}
 | .frz o u=>h.get? a=some o/\yT H h a u
 | .tbl ps=>h.get? a=some {cls:=.none,data:=.fields ps}
 | .met f x=>h.get? a=some (gp (.ref f) (.ref x))
 | .ext φ=>φ h/\(∃o,h.get? a=some o)/\∀h1 h2:bc,φ h1->(∀o,h1.get? a=some o->h2.get? a=some o)->φ h2
def z4 (H:Hp)(h:bc):Prop:=∀a o,H a=some o->yT P w H h a o
end
section
variable{P:aw}{w:aI}{H H':Hp}{h h':bc}{a:af}{o:HO}
theorem yT.lt (x:yT P w H h a o):a<h.objs.size:=by
 cases o with
 |lst xs=>obtain⟨_,_,_,_,e⟩:=x;exact aD e
 |tup xs=>obtain⟨_,_,_,p⟩:=x;exact p.lt
 |dK kvs=>obtain⟨_,_,_,_,o,_,_,e,_⟩:=x;exact aD e
 |dT kvs=>obtain⟨_,_,_,_,o,_,_,e,_⟩:=x;exact aD e
 |set S n=>obtain⟨o,_,_,_,e,_⟩:=x;exact aD e
 |ins C b fs=>obtain⟨_,_,_,e,_⟩:=x;exact aD e
 |own y=>obtain⟨_,e⟩:=x;exact aD e
 |xd fs=>obtain⟨_,⟨_,_,_,e,_⟩,_⟩:=x;exact aD e
 |rng lo hi=>obtain⟨_,_,_,e⟩:=x;exact aD e
 |frz c u=>obtain⟨e,_⟩:=x;exact aD e
 |tbl d=>exact aD (show h.get? a=some _ from x)
 |met f y=>exact aD (show h.get? a=some _ from x)
 |ext φ=>obtain⟨_,⟨_,e⟩,_⟩:=x;exact aD e
theorem Paired.mapP {α β:Type}{F G:α->β->Prop}:∀{c:List α}{d:List β},lN F c d->(∀a b,F a b->G a b)->lN G c d
 |_,_,.nil,_=>.nil
 |_,_,.cons r t,f=>.cons (f _ _ r) (Paired.mapP t f)
theorem yT.stay (x:yT P w H h a o)(k:∀b u,(b=a\/H b=some (.own a))->h.get? b=some u->h'.get? b=some u)
  (s:∀b,H b=some (.own a)->H' b=some (.own a)) (A:∀b xs,H b=some (.tup xs)->H' b=some (.tup xs)):yT P w H' h' a o:=by
 induction o with
 |lst xs=>obtain⟨z,j,n,r,e⟩:=x;exact⟨z,j,n,r,k _ _ (.inl rfl) e⟩
 |tup xs=>obtain⟨z,j,r,g,e,c⟩:=x;exact⟨z,j,r,g,k _ _ (.inl rfl) e,c⟩
 |dK kvs=>obtain⟨z,y,vs,r,g,i,ep,e,c⟩:=x;exact⟨z,y,vs,r,g,i,ep,k _ _ (.inl rfl) e,c⟩
 |dT kvs=>
  obtain⟨z,y,xs,r,g,i,ep,e,c⟩:=x
  exact⟨z,y,xs,Paired.mapP r fun p q z=>⟨z.1,A _ _ z.2.1,z.2.2⟩,g,i,ep,k _ _ (.inl rfl) e,c⟩
 |set S n=>obtain⟨g,i,ep,t,e,c⟩:=x;exact⟨g,i,ep,t,k _ _ (.inl rfl) e,c⟩
 |ins C D fs=>
  obtain⟨d,z,ne,e,l,⟨od,i,ep,B,c⟩,r⟩:=x
  exact⟨s _ d,z,ne,k _ _ (.inl rfl) e,l,⟨od,i,ep,k _ _ (.inr d) B,c⟩,r⟩
 |own y=>obtain⟨g,e⟩:=x;exact⟨g,k _ _ (.inl rfl) e⟩
 |xd fs=>obtain⟨l,⟨od,i,ep,e,c⟩,r⟩:=x;exact⟨l,⟨od,i,ep,k _ _ (.inl rfl) e,c⟩,r⟩
 |rng lo hi=>obtain⟨t,u,v,e⟩:=x;exact⟨t,u,v,k _ _ (.inl rfl) e⟩
 |frz g u ih=>obtain⟨e,q⟩:=x;exact⟨k _ _ (.inl rfl) e,ih q⟩
 |tbl m=>
  have e:h.get? a=some {cls:=.none,data:=.fields m}:=x
  show h'.get? a=some {cls:=.none,data:=.fields m}
  exact k a _ (.inl rfl) e
 |met f y=>
  have e:h.get? a=some (gp (.ref f) (.ref y)):=x
  show h'.get? a=some (gp (.ref f) (.ref y))
  exact k a _ (.inl rfl) e
 |ext φ=>obtain⟨p,⟨o,e⟩,st⟩:=x;exact⟨st _ _ p fun o q=>k _ _ (.inl rfl) q,⟨o,k _ _ (.inl rfl) e⟩,st⟩
theorem z4.lt (x:z4 P w H h)(e:H a=some o):a<h.objs.size:=(x a o e).lt
theorem z4.fresh (x:z4 P w H h)(e:h.objs.size<=a):H a=none:=by
 cases q:H a with
 |none=>rfl
 |some u=>exact absurd (aU (x.lt q) e) (bS _)
theorem z4.kept (x:z4 P w H h)(k:∀b u,h.get? b=some u->h'.get? b=some u):z4 P w H h':=fun a o e=>
 (x a o e).stay (fun b u _ q=>k b u q) (fun _ q=>q) fun _ _ q=>q
theorem z4.laid (x:z4 P w H h)(k:∀b u,h.get? b=some u->h'.get? b=some u)(g:h.objs.size<=a)(new:yT P w (upd H a o) h' a o):z4 P w (upd H a o) h':=fun b u e=>by
 have d:=x.fresh g
 by_cases f:b=a
 ·subst f;rw[zH]at e;cases e;exact new
 ·rw[zJ f]at e
  exact(x b u e).stay (fun c v _ q=>k c v q) (fun c q=>by rw[zJ (vR q d)];exact q) fun c xs q=>by rw[zJ (vR q d)];exact q
end
def Rd (H:Hp)(a:af)(u:HO):Prop:=H a=some u\/∃o,H a=some (.frz o u)
theorem Rd.ok {P:aw}{w:aI}{H:Hp}{h:bc}{a:af}{u:HO}(r:Rd H a u)(x:z4 P w H h):yT P w H h a u:=by
 rcases r with r|⟨o,r⟩
 ·exact x a u r
 ·obtain⟨_,q⟩:=x a _ r
  exact q
def Mut:Option HO->Prop
 |some (.lst _)=>True
 |some (.dK _)=>True
 |some (.dT _)=>True
 |some (.set _ _)=>True
 |some (.ins _ _ _)=>True
 |some (.ext _)=>True
 |_=>False
section
variable{P:aw}{w:aI}{H:Hp}{h h':bc}{x e:af}{o':HO}
theorem z4.write (ok:z4 P w H h)(g:Mut (H x))(he:e=x\/H e=some (.own x))(k:∀b u,b≠e->h.get? b=some u->h'.get? b=some u)(l:∃u,h'.get? e=some u)
  (new:yT P w (upd H x o') h' x o'):z4 P w (upd H x o') h':=fun b u q=>by
 have d:∀c y,H c=some (.own y)->c≠x:=fun c y r z=>by subst z;rw[r]at g;exact g
 have f:∀c xs,H c=some (.tup xs)->c≠x:=fun c xs r z=>by subst z;rw[r]at g;exact g
 by_cases i:b=x
 ·subst i;rw[zH]at q;cases q;exact new
 ·rw[zJ i]at q
  by_cases a:b=e
  ·have m:H b=some (.own x):=by
    rcases he with z|z
    ·exact absurd (a.trans z) i
    ·rw[a];exact z
   rw[q]at m;cases m
   obtain⟨v,n⟩:=l
   exact⟨v,by rw[a];exact n⟩
  ·refine(ok b u q).stay (fun c v j r=>k c v ?_ r) (fun c r=>by rw[zJ (d c b r)];exact r) fun c xs r=>by rw[zJ (f c xs r)];exact r
   rcases j with rfl|j
   ·exact a
   ·rintro rfl
    rcases he with z|z
    ·exact d c b j z
    ·rw[j]at z;cases z;exact i rfl
end
structure Un (fs ex:List af) (H H':Hp) (h h':bc):Prop where
 keep:∀b o,h.get? b=some o->H b=none->b∉fs->b∉ex->h'.get? b=some o
 slot:∀b o,h.get? b=some o->H b=none->b∈fs->b∉ex->∃sl,h'.get? b=some {o with slots:=sl}
 free:∀b o,h.get? b=some o->H b=none->b∉ex->H' b=none
 there:∀b o,h.get? b=some o->b∉ex->∃o',h'.get? b=some o'
 tups:∀b xs,H b=some (.tup xs)->H' b=some (.tup xs)
 frzs:∀b o u,H b=some (.frz o u)->H' b=some (.frz o u)
 tbls:∀b ps,H b=some (.tbl ps)->∃more,H' b=some (.tbl (ps++more))
section
variable{fs fs' ex ex':List af}{H H1 H2:Hp}{h h1 h2 h':bc}{a x e:af}{o:HO}
theorem Un.any (u:Un fs ex H H1 h h1){b:af}{c:Obj}(q:h.get? b=some c)(n:H b=none)(d:b∉ex):∃g,h1.get? b=some {c with slots:=g}:=by
 by_cases f:b∈fs
 ·exact u.slot b c q n f d
 ·exact⟨c.slots,u.keep b c q n f d⟩
theorem Un.kept (k:∀b u,h.get? b=some u->h'.get? b=some u):Un fs ex H H h h' :=
 ⟨fun b c q _ _ _=>k b c q,fun b c q _ _ _=>⟨c.slots,k b c q⟩,fun _ _ _ n _=>n,fun b c q _=>⟨c,k b c q⟩,fun _ _ q=>q,fun _ _ _ q=>q,fun _ d q=>⟨#[],by rw[q];simp⟩⟩
theorem Un.refl:Un fs ex H H h h:=Un.kept fun _ _ q=>q
theorem Un.laid (k:∀b u,h.get? b=some u->h'.get? b=some u)(d:h.objs.size<=a)(c:H a=none):Un fs ex H (upd H a o) h h' where
 keep:=fun b u q _ _ _=>k b u q
 slot:=fun b u q _ _ _=>⟨u.slots,k b u q⟩
 free:=fun b u q n _=>by rw[zJ (br (aU (aD q) d))];exact n
 there:=fun b u q _=>⟨u,k b u q⟩
 tups:=fun b xs q=>by rw[zJ (vR q c)];exact q
 frzs:=fun b u xs q=>by rw[zJ (vR q c)];exact q
 tbls:=fun b f q=>⟨#[],by rw[zJ (vR q c),q];simp⟩
theorem Un.write (d:Mut (H x))(he:e=x\/H e=some (.own x))(k:∀b u,b≠e->h.get? b=some u->h'.get? b=some u)(f:∃u,h'.get? e=some u):Un fs ex H (upd H x o) h h':=by
 have i:∀b,H b=none->b≠x:=fun b n z=>by subst z;rw[n]at d;exact d
 have j:∀b,H b=none->b≠e:=fun b n z=>by
  subst z
  rcases he with r|r
  ·exact i b n r
  ·rw[n]at r;cases r
 have g:∀b u,H b=some u->¬Mut (some u)->b≠x:=fun b u q nm z=>by subst z;rw[q]at d;exact nm d
 refine⟨fun b u q n _ _=>k b u (j b n) q,fun b u q n _ _=>⟨u.slots,k b u (j b n) q⟩,fun b u q n _=>by rw[zJ (i b n)];exact n,fun b u q _=>?_,
  fun b xs q=>by rw[zJ (g b _ q fun z=>z)];exact q,fun b u xs q=>by rw[zJ (g b _ q fun z=>z)];exact q,fun b l q=>⟨#[],by rw[zJ (g b _ q fun z=>z),q];simp⟩⟩
 by_cases c:b=e
 ·subst c;exact f
 ·exact⟨u,k b u c q⟩
end
def trk (h:bc)(H:Hp):List af:=(cb h.objs.size).filter fun a=>(H a).isSome
def jN (h:bc)(H:Hp):bc:=ee h (trk h H)
theorem zIO (h:bc)(H:Hp):(jN h H).objs.size=h.objs.size:=PySem.W.hideAll_size _ _
theorem zIP {h:bc}{H:Hp}{b:af}{o:Obj}(e:h.get? b=some o)(n:H b=none):(jN h H).get? b=some o :=
 dW _ e fun a=>by
  have q:(H b).isSome=true:=(cF.mp a).2
  rw[n]at q;simp at q
theorem zIQ {h:bc}{H:Hp}{b:af}{o:Obj}(e:(jN h H).get? b=some o):h.get? b=some o/\H b=none:=by
 have a:h.get? b=some o:=fW (trk h H) e
 refine⟨a,?_⟩
 cases q:H b with
 |none=>rfl
 |some x=>
  have c:b∈trk h H:=cF.mpr ⟨cK.mpr (aD a),by simp[q]⟩
  have z:(jN h H).get? b=none:=PySem.W.hideAll_none (trk h H) c
  rw[z]at e;cases e
def zIR (g h:bc)(L:af):List (af×Obj):=(cb h.objs.size).filterMap fun a=>if a=L\/(g.get? a).isSome=true then none else(h.get? a).map fun o=>(a,o)
def uI (g h:bc)(L d:af):List (af×Obj):=(zIR g h L).filter fun p=>decide (p.1≠d)
structure Mod (K:aa) (mg:Str->Option ae) (base:bc):Prop where
 kin:K.In base
 glob:base.Ns mainGlobals mg
 blt:∃mb,base.Ns builtinsNs mb/\∀x:Str,x≠"__name__"->mb x=bootBuiltins x
 nolimit:base.NoLimit
structure Cx where
 prog:aw
 w:aI
 K:aa
 mg:Str->Option ae
 base:bc
 A:bB
 N:List Str
 s₀:ah
 H₀:Hp
 env:Env
 outer:List Env
 stack:List Env
 ex:List af
 fn:Str->Bool
 calm:Bool
 pn:List (af×Obj)
 xe:ae->ah->Prop
def yW (l:List Env):List af:=l.filterMap (·.frame)
abbrev Cx.fs (X:Cx):List af:=yW X.outer
def Vis (sc:dv)(x:Str):Prop:=sc.names.lookup x=some .local\/sc.names.lookup x=some .cell\/sc.names.lookup x=some .free
def Loc (sc:dv)(x:Str):Prop:=sc.names.lookup x=some .local\/sc.names.lookup x=some .cell
def zIS (env:Env)(h:bc)(m:Str->Option ae)(x:Str)(u:ae):Prop :=
 (env.kindOf x=some .local/\m x=some u)\/((env.kindOf x=some .cell\/env.kindOf x=some .free)/\∃c,env.cells.lookup x=some c/\h.IsCell c (some u))
structure Cx.Ok (X:Cx):Prop where
 mod:Mod X.K X.mg X.base
 kind:X.env.scope.kind=.function
 glob:X.env.globals=mainGlobals
 blt:X.env.builtins=builtinsNs
 above:X.s₀.heap.objs.size<=X.env.locals
 inj:∀x y c,X.env.cells.lookup x=some c->X.env.cells.lookup y=some c->x=y
 has:∀x,(X.env.kindOf x=some .cell\/X.env.kindOf x=some .free)->∃c,X.env.cells.lookup x=some c
 cab:∀x c,X.fn x=true->X.env.cells.lookup x=some c->X.s₀.heap.objs.size<=c
 hd:X.calm=true->X.A.handled=none
 frames:X.A.frames=some X.stack
 stk:X.stack=X.outer\/(X.stack=X.env::X.outer/\X.env.frame=some X.env.locals)
 exf:∀b∈X.ex,b≠X.env.locals/\∀x c,X.env.cells.lookup x=some c->c≠b
 bs:∀b o,X.base.get? b=some o->X.s₀.heap.get? b=some o/\X.H₀ b=none
 bsz:X.base.objs.size<=X.s₀.heap.objs.size
 noex:∀b o,X.base.get? b=some o->b∉X.ex
 exfs:∀b∈X.ex,b∉X.fs
 funs:X.s₀.heap.FunFrames X.base X.outer
 frf:∀b∈X.fs,X.H₀ b=none
structure Inv (X:Cx) (pins:List (af×Obj)) (σ:List (Option V)) (H:Hp) (s:ah):Prop where
 ok:X.Ok
 os:s.os=X.s₀.os
 bare:fP s.gens
 base:Un X.fs X.ex X.H₀ H X.s₀.heap s.heap
 loc:∃m,s.heap.Ns X.env.locals m/\∀(i:Nat) (x:Str) (v:V),X.N[i]?=some x->σ[i]?=some (some v)->Vis X.env.scope x->∃u,zQ v u/\zIS X.env s.heap m x u
 cell:∀x c,X.env.cells.lookup x=some c->∃v,s.heap.IsCell c v
 free:H X.env.locals=none
 freeC:∀x c,X.env.cells.lookup x=some c->H c=none
 pin:∀p∈X.pn++pins,s.heap.get? p.1=some p.2/\H p.1=none/\p.1≠X.env.locals/\p.1∉X.fs/\∀v,p.2.data≠.cell v
 hok:z4 X.prog X.w H s.heap
 len:σ.length=X.N.length
section
variable{X:Cx}{pins:List (af×Obj)}{σ:List (Option V)}{H H':Hp}{s:ah}{h':bc}
theorem Cx.Ok.nofr (ok:X.Ok){b:af}{o:Obj}(e:X.base.get? b=some o):b∉X.fs:=fun a=>by
 have:=(ok.funs.mem a).1
 rw[e]at this;cases this
theorem Inv.bs (I:Inv X pins σ H s):∀b o,X.base.get? b=some o->s.heap.get? b=some o/\H b=none:=fun b o e=>
 ⟨I.base.keep b o (I.ok.bs b o e).1 (I.ok.bs b o e).2 (I.ok.nofr e) (I.ok.noex b o e),I.base.free b o (I.ok.bs b o e).1 (I.ok.bs b o e).2 (I.ok.noex b o e)⟩
theorem Inv.bk (I:Inv X pins σ H s):∀b o,X.base.get? b=some o->s.heap.get? b=some o:=fun b o e=>(I.bs b o e).1
theorem Inv.mod (I:Inv X pins σ H s):Mod X.K X.mg X.base:=I.ok.mod
theorem Inv.kIn (I:Inv X pins σ H s):X.K.In s.heap:=I.ok.mod.kin.keeps I.bk
theorem Inv.nolimit (I:Inv X pins σ H s):s.heap.NoLimit:=I.ok.mod.nolimit.keeps I.bk
theorem Inv.fr (I:Inv X pins σ H s):∃m,Fr X.base X.env.locals s.heap m :=
 let⟨m,a,_⟩:=I.loc
 ⟨m,a,I.bk,bV I.ok.bsz I.ok.above⟩
theorem Inv.lt (I:Inv X pins σ H s):X.env.locals<s.heap.objs.size:=let⟨_,a,_⟩:=I.loc;a.lt
theorem Inv.sz (I:Inv X pins σ H s):X.s₀.heap.objs.size<=s.heap.objs.size:=bV I.ok.above (fQ I.lt)
theorem Inv.nofs (I:Inv X pins σ H s){a:af}(h:s.heap.objs.size<=a):a∉X.fs:=fun b=>by
 obtain⟨_,o,c,_⟩:=I.ok.funs.mem b
 exact absurd (aU (aD c) (bV I.sz h)) (bS _)
theorem Inv.cne (I:Inv X pins σ H s):∀x c,X.env.cells.lookup x=some c->c≠X.env.locals:=fun x c e z=>by
 obtain⟨v,o,d,hd⟩:=I.cell x c e
 obtain⟨m,⟨f,g,ep,a,b,_⟩,_⟩:=I.loc
 rw[z,a]at d;cases d;rw[b]at hd;cases hd
theorem Inv.funs (I:Inv X pins σ H s):s.heap.FunFrames X.base X.outer:=by
 have all:∀(l:List Env),(∀b∈yW l,b∈X.fs)->X.s₀.heap.FunFrames X.base l->s.heap.FunFrames X.base l:=by
  intro l
  induction l with
  |nil=>intro _ _;trivial
  |cons env r ih=>
   intro f hl
   obtain⟨g,⟨L,o,a,h,i,hd⟩,j⟩:=hl
   have c:L∈X.fs:=f L (by unfold yW;rw[dX,a];exact av)
   obtain⟨m,e⟩:=I.base.slot L o i (I.ok.frf L c) c fun z=>I.ok.exfs L z c
   exact⟨g,⟨L,_,a,h,e,hd⟩,ih (fun b d=>f b (by unfold yW;rw[dX,a];exact au _ d)) j⟩
 exact all X.outer (fun _ d=>d) I.ok.funs
theorem Inv.stack (I:Inv X pins σ H s):s.heap.FunFrames X.base X.stack:=by
 rcases I.ok.stk with e|⟨e,a⟩
 ·rw[e];exact I.funs
 ·rw[e]
  obtain⟨m,b,_⟩:=I.loc
  refine .cons (by rw[I.ok.kind];decide) a b ?_ I.funs
  exact Heap.get?_none_of_le (bV I.ok.bsz I.ok.above)
theorem Inv.stkSub (I:Inv X pins σ H s):∀b∈yW X.stack,b∈X.env.locals::X.fs:=fun b a=>by
 rcases I.ok.stk with e|⟨e,c⟩
 ·rw[e]at a;exact au _ a
 ·rw[e]at a
  unfold yW at a
  rw[dX,c]at a
  exact a
theorem Inv.stkFree (I:Inv X pins σ H s):∀b∈yW X.stack,H b=none:=fun b a=>by
 rcases aJ.mp (I.stkSub b a)with e|a
 ·rw[e];exact I.free
 ·obtain⟨_,o,c,_⟩:=I.ok.funs.mem a
  exact I.base.free b o c (I.ok.frf b a) fun z=>I.ok.exfs b z a
theorem Inv.step {g':Array mL}{t':Nat}{d':Drawn}{ch:List af}(I:Inv X pins σ H s)
  (f:∀b∈ch,(b∈X.ex\/X.s₀.heap.objs.size<=b)/\b≠X.env.locals/\(∀x c,X.env.cells.lookup x=some c->c≠b)/\∀p∈X.pn++pins,p.1≠b)
  (keep:∀b o,b≠X.env.locals->b∉X.fs->b∉ch->s.heap.get? b=some o->H b=none->h'.get? b=some o)
  (slot:∀b o,b≠X.env.locals->b∈X.fs->b∉ch->s.heap.get? b=some o->H b=none->∃F,h'.get? b=some {o with slots:=F}) (free:∀b o,b∉ch->s.heap.get? b=some o->H b=none->H' b=none)
  (there:∀b o,b∉ch->s.heap.get? b=some o->∃B,h'.get? b=some B)
  (tups:∀b xs,H b=some (.tup xs)->H' b=some (.tup xs)) (frzs:∀b o u,H b=some (.frz o u)->H' b=some (.frz o u)) (tbls:∀b E,H b=some (.tbl E)->∃more,H' b=some (.tbl (E++more)))
  (ns:∀m,s.heap.Ns X.env.locals m->h'.Ns X.env.locals m) (hok:z4 X.prog X.w H' h') (N:fP g') :
  Inv X pins σ H' {s with heap:=h',gens:=g',drawn:=d',toks:=t'}:=by
 have C:∀b o,X.s₀.heap.get? b=some o->b≠X.env.locals:=fun b o e=>br (aU (aD e) I.ok.above)
 have j:∀b o,X.s₀.heap.get? b=some o->b∉X.ex->b∉ch:=fun b o e a y=>by
  rcases(f b y).1 with z|z
  ·exact a z
  ·exact absurd (aU (aD e) z) (bS _)
 have g:∀x c,X.env.cells.lookup x=some c->∀v,s.heap.IsCell c v->h'.IsCell c v:=fun x c e v ⟨o,A,hd⟩=>by
  have h:c∉ch:=fun z=>(f c z).2.2.1 x c e rfl
  by_cases J:c∈X.fs
  ·obtain⟨F,q⟩:=slot c o (I.cne x c e) J h A (I.freeC x c e)
   exact⟨_,q,hd⟩
  ·exact⟨o,keep c o (I.cne x c e) J h A (I.freeC x c e),hd⟩
 refine⟨I.ok,I.os,N,⟨fun b o e n y a=>?_,fun b o e n y a=>?_,fun b o e n a=>?_,fun b o e a=>?_,fun b xs e=>tups b xs (I.base.tups b xs e),fun b o xs e=>frzs b o xs (I.base.frzs b o xs e),fun b E e=>?_⟩,?_,fun x c e=>?_,?_,fun x c e=>?_,fun p L=>?_,hok,I.len⟩
 ·exact keep b o (C b o e) y (j b o e a) (I.base.keep b o e n y a) (I.base.free b o e n a)
 ·obtain⟨F,t⟩:=I.base.slot b o e n y a
  obtain⟨G,D⟩:=slot b _ (C b o e) y (j b o e a) t (I.base.free b o e n a)
  exact⟨G,D⟩
 ·obtain⟨B,t⟩:=I.base.there b o e a
  exact free b B (j b o e a) t (I.base.free b o e n a)
 ·obtain⟨B,t⟩:=I.base.there b o e a
  exact there b B (j b o e a) t
 ·obtain⟨O,t⟩:=I.base.tbls b E e
  obtain⟨P,D⟩:=tbls b _ t
  exact⟨O++P,by rw[D,ju]⟩
 ·obtain⟨m,Q,hl⟩:=I.loc
  refine⟨m,ns m Q,fun i x v t D R=>?_⟩
  obtain⟨u,r,l⟩:=hl i x v t D R
  refine⟨u,r,?_⟩
  rcases l with l|⟨k,c,e,z⟩
  ·exact .inl l
  ·exact .inr ⟨k,c,e,g x c e _ z⟩
 ·obtain⟨v,z⟩:=I.cell x c e
  exact⟨v,g x c e v z⟩
 ·obtain⟨m,⟨o,_,_,A,_⟩,_⟩:=I.loc
  exact free _ o (fun z=>(f _ z).2.1 rfl) A I.free
 ·obtain⟨v,o,A,hd⟩:=I.cell x c e
  exact free c o (fun z=>(f c z).2.2.1 x c e rfl) A (I.freeC x c e)
 ·obtain⟨e,n,ne,M,d⟩:=I.pin p L
  have h:p.1∉ch:=fun z=>(f p.1 z).2.2.2 p L rfl
  exact⟨keep p.1 p.2 ne M h e n,free p.1 p.2 h e n,ne,M,d⟩
theorem Inv.un {t':Nat}(I:Inv X pins σ H s)(u:Un X.fs [] H H' s.heap h')(hok:z4 X.prog X.w H' h'):Inv X pins σ H' {s with heap:=h',toks:=t'}:=by
 obtain⟨m,⟨o,l,ep,g,r⟩,_⟩:=id I.loc
 obtain⟨p,h⟩:=u.any g I.free (by simp)
 exact I.step (g':=s.gens) (d':=s.drawn) (ch:=[]) (fun _ z=>nomatch z) (fun b o _ c _ e n=>u.keep b o e n c (by simp)) (fun b o _ c _ e n=>u.slot b o e n c (by simp)) (fun b o _ e n=>u.free b o e n (by simp)) (fun b o _ e=>u.there b o e (by simp)) u.tups u.frzs u.tbls (fun q i=>by
  obtain⟨t,d,f,a,j⟩:=i
  rw[g]at a;cases a
  exact⟨_,d,f,h,j⟩) hok I.bare
theorem Inv.call {g':Array mL}{t':Nat}{d':Drawn}{ch:List af}(I:Inv X pins σ H s)(u:Un (yW X.stack) ch H H' s.heap h')(hok:z4 X.prog X.w H' h')(l:fP g')
  (d:∀b∈ch,(b∈X.ex\/X.s₀.heap.objs.size<=b)/\b≠X.env.locals/\(∀x c,X.env.cells.lookup x=some c->c≠b)/\∀p∈X.pn++pins,p.1≠b) :
  Inv X pins σ H' {s with heap:=h',gens:=g',drawn:=d',toks:=t'}:=by
 obtain⟨m,⟨o,y,ep,j,r⟩,_⟩:=id I.loc
 obtain⟨A,g⟩:=u.any j I.free fun z=>(d _ z).2.1 rfl
 exact I.step (ch:=ch) d (fun b o g q a e n=>u.keep b o e n (fun z=>(aJ.mp (I.stkSub b z)).elim g q) a) (fun b o _ _ a e n=>u.any e n a) (fun b o a e n=>u.free b o e n a) (fun b o a e=>u.there b o e a) u.tups u.frzs u.tbls (fun B t=>by
  obtain⟨C,h,i,f,v⟩:=t
  rw[j]at f;cases f
  exact⟨_,h,i,g,v⟩) hok l
theorem Inv.turned {t':Nat}{it:af}(I:Inv X pins σ H s)(k:∀b o,b≠it->s.heap.get? b=some o->h'.get? b=some o)(g:H it=none)(f:it≠X.env.locals)
  (h:it∈X.ex\/X.s₀.heap.objs.size<=it) (i:∀x c,X.env.cells.lookup x=some c->c≠it) (j:∀p∈X.pn++pins,p.1≠it):Inv X pins σ H {s with heap:=h',toks:=t'}:=by
 have d:∀b u,H b=some u->b≠it:=fun b u e z=>by rw[z,g]at e;cases e
 refine I.step (g':=s.gens) (d':=s.drawn) (ch:=[it]) (fun b l=>?_) (fun b o _ _ a e _=>k b o (fun z=>a (by simp[z])) e) (fun b o _ _ a e _=>⟨o.slots,k b o (fun z=>a (by simp[z])) e⟩) (fun _ _ _ _ n=>n)
  (fun b o a e=>⟨o,k b o (fun z=>a (by simp[z])) e⟩) (fun _ _ e=>e) (fun _ _ _ e=>e) (fun b A e=>⟨#[],by rw[e];simp⟩) (fun m t=>?_) (fun b u e=>?_) I.bare
 ·have e:b=it:=by simpa using l
  subst e
  exact⟨h,f,i,j⟩
 ·obtain⟨o,w,ep,y,r⟩:=t
  exact⟨o,w,ep,k _ o (dG f) y,r⟩
 ·refine(I.hok b u e).stay (fun c v a q=>k c v ?_ q) (fun _ q=>q) fun _ _ q=>q
  rcases a with z|z
  ·rw[z];exact d b u e
  ·exact d c _ z
theorem Inv.tok (I:Inv X pins σ H s)(t:Nat):Inv X pins σ H {s with toks:=t}:=I.un (h':=s.heap) (t':=t) Un.refl I.hok
theorem Inv.kept {t':Nat}(I:Inv X pins σ H s)(k:∀b u,s.heap.get? b=some u->h'.get? b=some u):Inv X pins σ H {s with heap:=h',toks:=t'}:=I.un (Un.kept k) (I.hok.kept k)
theorem Inv.laid {a:af}{o:HO}{t':Nat}(I:Inv X pins σ H s)(k:∀b u,s.heap.get? b=some u->h'.get? b=some u)(c:s.heap.objs.size<=a)(new:yT X.prog X.w (upd H a o) h' a o) :
  Inv X pins σ (upd H a o) {s with heap:=h',toks:=t'}:=I.un (Un.laid k c (I.hok.fresh c)) (I.hok.laid k c new)
theorem Inv.write {x e:af}{o:HO}{t':Nat}(I:Inv X pins σ H s)(c:Mut (H x))(he:e=x\/H e=some (.own x))(k:∀b u,b≠e->s.heap.get? b=some u->h'.get? b=some u)(a:∃u,h'.get? e=some u)
  (new:yT X.prog X.w (upd H x o) h' x o):Inv X pins σ (upd H x o) {s with heap:=h',toks:=t'}:=I.un (Un.write c he k a) (I.hok.write c he k a new)
theorem Inv.weak {a:List (Option V)}(I:Inv X pins σ H s)(hl:a.length=σ.length)(w:∀(i:Nat) v,a[i]?=some (some v)->σ[i]?=some (some v)):Inv X pins a H s :=
 ⟨I.ok,I.os,I.bare,I.base,let⟨m,c,b⟩:=I.loc;⟨m,c,fun i x v d e f=>b i x v d (w i v e) f⟩,I.cell,I.free,I.freeC,I.pin,I.hok,hl.trans I.len⟩
theorem Inv.pins_of {pins':List (af×Obj)}(I:Inv X pins σ H s)(h:∀p∈pins',s.heap.get? p.1=some p.2/\H p.1=none/\p.1≠X.env.locals/\p.1∉X.fs/\∀v,p.2.data≠.cell v):Inv X pins' σ H s :=
 ⟨I.ok,I.os,I.bare,I.base,I.loc,I.cell,I.free,I.freeC,fun p a=>(bG.mp a).elim (fun z=>I.pin p (b8 _ z)) (h p),I.hok,I.len⟩
theorem zES {N:List Str}(c:N.Nodup){i j:Nat}{x:Str}(a:N[i]?=some x)(b:N[j]?=some x):i=j:=by
 obtain⟨f,d⟩:=ag.mp a
 obtain⟨g,e⟩:=ag.mp b
 exact(fh c).mp (d.trans e.symm)
theorem zIT {M:mh}{A:bB}{E:ae->ah->Prop}{i:Nat}{x:Str}{v:V}{u:ae}{Q:Unit->ah->Prop}(I:Inv X pins σ H s)(hN:X.N.Nodup)(hi:X.N[i]?=some x)(B:Loc X.env.scope x)(r:zQ v u)
  (h:∀s',Inv X pins (σ.set i (some v)) H s'->(∃a,fR a s.heap s'.heap/\(a=X.env.locals\/X.env.cells.lookup x=some a))->Q () s') (hf:X.fn x=true\/X.env.scope.names.lookup x=some .local:=by first|exact .inl rfl|exact .inr rfl|assumption):wpAny M A (storeName X.env x u) Q E s:=by
 obtain⟨m,hn,hl⟩:=id I.loc
 have O:(X.env.scope.kind== .class||(X.env.scope.kind== .module&&X.env.locals !=X.env.globals))=false:=by rw[I.ok.kind];rfl
 have P:i<σ.length:=by rw[I.len];exact(ag.mp hi).1
 have cne:=I.cne
 have g:∀{a:af} {h':bc},(∃o,s.heap.get? a=some o/\H a=none)->fR a s.heap h'->z4 X.prog X.w H h':=fun{a h'} ha f b ob e=>by
  obtain⟨_,_,C⟩:=ha
  refine(I.hok b ob e).stay (fun c Y t q=>(f.2 c ?_).trans q) (fun _ q=>q) fun _ _ q=>q
  rintro rfl
  rcases t with rfl|t
  ·rw[C]at e;cases e
  ·rw[C]at t;cases t
 rcases B with F|F
 ·refine wpAny_storeName_local F hn (fun h' ab f=>?_) O
  obtain⟨oL,_,_,ac,_⟩:=id hn
  refine h _ ⟨I.ok,I.os,I.bare,⟨fun b o e n G B=>?_,fun b o e n G B=>?_,I.base.free,fun b o e B=>?_,I.base.tups,I.base.frzs,I.base.tbls⟩,⟨_,ab,fun j y v' l D e3=>?_⟩,fun y c e=>?_,I.free,I.freeC,fun p hp=>?_,g ⟨oL,ac,I.free⟩ f,by simpa using I.len⟩ ⟨_,f,.inl rfl⟩
  ·exact(f.2 b (br (aU (aD e) I.ok.above))).trans (I.base.keep b o e n G B)
  ·obtain⟨sl,l⟩:=I.base.slot b o e n G B
   exact⟨sl,(f.2 b (br (aU (aD e) I.ok.above))).trans l⟩
  ·obtain⟨o',l⟩:=I.base.there b o e B
   exact⟨o',(f.2 b (br (aU (aD e) I.ok.above))).trans l⟩
  ·by_cases J:j=i
   ·subst J
    rw[hi]at l;cases l
    rw[ij P]at D
    cases D
    exact⟨u,r,.inl ⟨F,by simp⟩⟩
   ·rw[iT (dG J)]at D
    obtain⟨u',r',q⟩:=hl j y v' l D e3
    refine⟨u',r',?_⟩
    rcases q with⟨k,e⟩|⟨k,c,e,z⟩
    ·refine .inl ⟨k,?_⟩
     have:y≠x:=fun e=>J (zES hN l (e▸hi))
     simp[this,e]
    ·exact .inr ⟨k,c,e,z.sameBut f (cne y c e)⟩
  ·obtain⟨Y,z⟩:=I.cell y c e
   exact⟨Y,z.sameBut f (cne y c e)⟩
  ·obtain⟨e,n,ne,nf,d⟩:=I.pin p hp
   exact⟨(f.2 p.1 ne).trans e,n,ne,nf,d⟩
 ·have L:X.fn x=true:=by
   rcases hf with z|z
   ·exact z
   ·rw[z]at F;cases F
  obtain⟨c,t⟩:=I.ok.has x (.inl F)
  obtain⟨Y,z⟩:=I.cell x c t
  refine wpAny_storeName_cell I.ok.kind F t z (fun h' R f=>?_)
  obtain⟨oc,T,U⟩:=id z
  refine h {s with heap:=h'} ⟨I.ok,I.os,I.bare,⟨fun b o e n G B=>?_,fun b o e n G B=>?_,I.base.free,fun b o e B=>?_,I.base.tups,I.base.frzs,I.base.tbls⟩,⟨m,hn.sameBut f (dG (cne x c t)),fun j y v' l D e3=>?_⟩,fun y Z e=>?_,I.free,I.freeC,fun p hp=>?_,g ⟨oc,T,I.freeC x c t⟩ f,by simpa using I.len⟩ ⟨c,f,.inr t⟩
  ·exact(f.2 b (br (aU (aD e) (I.ok.cab x c L t)))).trans (I.base.keep b o e n G B)
  ·obtain⟨sl,l⟩:=I.base.slot b o e n G B
   exact⟨sl,(f.2 b (br (aU (aD e) (I.ok.cab x c L t)))).trans l⟩
  ·obtain⟨o',l⟩:=I.base.there b o e B
   exact⟨o',(f.2 b (br (aU (aD e) (I.ok.cab x c L t)))).trans l⟩
  ·by_cases J:j=i
   ·subst J
    rw[hi]at l;cases l
    rw[ij P]at D
    cases D
    exact⟨u,r,.inr ⟨.inl F,c,t,R⟩⟩
   ·rw[iT (dG J)]at D
    obtain⟨u',r',q⟩:=hl j y v' l D e3
    refine⟨u',r',?_⟩
    rcases q with q|⟨k,Z,e,z'⟩
    ·exact .inl q
    ·refine .inr ⟨k,Z,e,z'.sameBut f ?_⟩
     rintro rfl
     exact J (zES hN l (I.ok.inj _ _ _ e t▸hi))
  ·by_cases W:Z=c
   ·subst W;exact⟨_,R⟩
   ·obtain⟨w2,z2⟩:=I.cell y Z e
    exact⟨w2,z2.sameBut f W⟩
  ·obtain⟨e,n,ne,nf,d⟩:=I.pin p hp
   refine⟨(f.2 p.1 ?_).trans e,n,ne,nf,d⟩
   intro q
   rw[q,T]at e
   have q':oc=p.2:=aq e
   exact d Y (by rw[<-q'];exact U)
theorem gM {M:mh}{A:bB}{E:ae->ah->Prop}{i:Nat}{x:Str}{v:V}{u:ae}{Q:Unit->ah->Prop}(I:Inv X pins σ H s)(a:X.N.Nodup)(hi:X.N[i]?=some x)(b:Loc X.env.scope x)(r:zQ v u)
  (h:∀s',Inv X pins (σ.set i (some v)) H s'->Q () s') (c:X.fn x=true\/X.env.scope.names.lookup x=some .local:=by first|exact .inl rfl|exact .inr rfl|assumption):wpAny M A (storeName X.env x u) Q E s :=
 zIT I a hi b r (fun s' d _=>h s' d) c
theorem Inv.call' {s':ah}{ch:List af}(I:Inv X pins σ H s)(d:s'.os=s.os)(u:Un (yW X.stack) ch H H' s.heap s'.heap)(hok:z4 X.prog X.w H' s'.heap)(f:fP s'.gens)
  (a:∀b∈ch,(b∈X.ex\/X.s₀.heap.objs.size<=b)/\b≠X.env.locals/\(∀x c,X.env.cells.lookup x=some c->c≠b)/\∀p∈X.pn++pins,p.1≠b):Inv X pins σ H' s':=by
 obtain⟨h',g',d',t',g⟩:=s'
 have e:g=s.os:=d
 subst e
 exact I.call (g':=g') (t':=t') (d':=d') u hok f a
end
abbrev XK:=ae->Option af->Hp->Prop
abbrev St:=List (Option V)
abbrev VK:=V->Hp->Prop
abbrev TE:=St->Hp->VK->Prop
abbrev TT:=St->Hp->(Bool->Hp->Prop)->Prop
abbrev TA:=St->Hp->(List V->Hp->Prop)->Prop
structure Ends where
 nx:St->Hp->Prop
 rt:VK
 bk:St->Hp->Prop:=fun _ _=>False
 ct:St->Hp->Prop:=fun _ _=>False
abbrev TS:=Ends->St->Hp->Prop
def EP (X:Cx)(pins:List (af×Obj))(σ:St)(Q:VK)(u:ae)(s':ah):Prop:=∃v H',Inv X pins σ H' s'/\zQ v u/\Q v H'
def TP (X:Cx)(pins:List (af×Obj))(σ:St)(Q:Bool->Hp->Prop)(b:Bool)(s':ah):Prop:=∃H',Inv X pins σ H' s'/\Q b H'
def AP (X:Cx)(pins:List (af×Obj))(σ:St)(Q:List V->Hp->Prop)(us:List ae)(s':ah):Prop:=∃vs H',Inv X pins σ H' s'/\zL vs us/\Q vs H'
def SP (X:Cx)(pins:List (af×Obj))(D:Ends)(f:Flow)(s':ah):Prop :=
 match f with
 | .next=>∃σ' H',Inv X pins σ' H' s'/\D.nx σ' H'
 | .brk=>∃σ' H',Inv X pins σ' H' s'/\D.bk σ' H'
 | .cont=>∃σ' H',Inv X pins σ' H' s'/\D.ct σ' H'
 | .ret u=>∃v σ' H',Inv X pins σ' H' s'/\zQ v u/\D.rt v H'
def PE (X:Cx)(e:bq)(t:TE):Prop :=
 ∀(pins:List (af×Obj)) (s:ah) (σ:St) (H:Hp) (Q:VK),Inv X pins σ H s->t σ H Q->wpAny (model X.prog X.w) X.A (eval e X.env) (EP X pins σ Q) X.xe s
def PT (X:Cx)(e:bq)(t:TT):Prop :=
 ∀(pins:List (af×Obj)) (s:ah) (σ:St) (H:Hp) (Q:Bool->Hp->Prop),Inv X pins σ H s->t σ H Q->wpAny (model X.prog X.w) X.A (isTrue e X.env (eval e X.env)) (TP X pins σ Q) X.xe s
def PW (X:Cx)(e:bq)(t:TT):Prop :=
 ∀(whole:Sem ae) (pins:List (af×Obj)) (s:ah) (σ:St) (H:Hp) (Q:Bool->Hp->Prop),Inv X pins σ H s->t σ H Q->wpAny (model X.prog X.w) X.A (isTrue e X.env whole) (TP X pins σ Q) X.xe s
theorem PW.pt {X:Cx}{e:bq}{t:TT}(h:PW X e t):PT X e t:=h _
def PA (X:Cx)(es:List bq)(t:TA):Prop :=
 ∀(pos:Pos) (pins:List (af×Obj)) (s:ah) (σ:St) (H:Hp) (Q:List V->Hp->Prop),Inv X pins σ H s->t σ H Q->wpAny (model X.prog X.w) X.A (spliced (backTo pos (starEach es X.env))) (AP X pins σ Q) X.xe s
def PS (X:Cx)(st:bR)(t:TS):Prop :=
 ∀(pins:List (af×Obj)) (s:ah) (σ:St) (H:Hp) (D:Ends),Inv X pins σ H s->t D σ H->wpAny (model X.prog X.w) X.A (exec st X.env) (SP X pins D) X.xe s
def vO (X:Cx)(st:List bR)(t:TS):Prop :=
 ∀(pins:List (af×Obj)) (s:ah) (σ:St) (H:Hp) (D:Ends),Inv X pins σ H s->t D σ H->wpAny (model X.prog X.w) X.A (execs st X.env) (SP X pins D) X.xe s
theorem zK {α:Type}{t:Sem α}{Q b:α->ah->Prop}{M:mh}{A:bB}{E:ae->ah->Prop}{s:ah}(h:wpAny M A t Q E s)(c:∀a s,Q a s->b a s):wpAny M A t b E s:=bX h c fun _ _ x=>x
section
variable{X:Cx}
def vS (i:Nat):TE:=fun σ H Q=>∃v,σ[i]?=some (some v)/\Q v H
def tC (v:V):TE:=fun _ H Q=>Q v H
theorem zIU {i:Nat}{x:Str}{pos:Pos}(j:X.N[i]?=some x)(n:Vis X.env.scope x)(hd:(x==("__debug__" : Str))=false:=by decide)(f:(x==("__classdict__" : Str))=false:=by decide):PE X (.Name x pos) (vS i):=by
 intro d s σ H Q I h
 obtain⟨v,e,h⟩:=h
 obtain⟨m,o,hl⟩:=I.loc
 obtain⟨u,r,l⟩:=hl i x v j e n
 have fin:EP X d σ Q u s:=⟨v,H,I,r,h⟩
 rcases l with⟨b,p⟩|⟨b,c,g,a⟩
 ·exact mM (wpAny_loadName_local I.ok.kind b o p fin) hd
 ·rcases b with b|b
  ·exact mM (wpAny_loadName_cell I.ok.kind b g a fin) hd
  ·exact mM (wpAny_loadName_free I.ok.kind b g a fin f) hd
theorem zG {i j pos}:PE X (.Constant (.int i) j pos) (tC (.int i)):=fun _ _ _ H _ I h=>wpAny_Constant_int ⟨.int i,H,I.tok _,⟨_,rfl⟩,h⟩
theorem uC {b j pos}:PE X (.Constant (.bool b) j pos) (tC (.bl b)):=fun _ _ _ H _ I h=>Constant_bool ⟨.bl b,H,I,rfl,h⟩
theorem u7 {j pos}:PE X (.Constant .none j pos) (tC .non):=fun _ _ _ H _ I h=>nG ⟨.non,H,I,rfl,h⟩
theorem yG {x j pos}:PE X (.Constant (.str x) j pos) (tC (.str x)):=fun _ _ _ H _ I h=>Calls.Constant_str ⟨.str x,H,I.tok _,⟨_,rfl⟩,h⟩
def Gl (X:Cx)(x:Str):Prop:=X.env.kindOf x=some .globalImplicit
theorem kG {E:ae->ah->Prop}{a:List (af×Obj)}{s:ah}{σ:St}{H:Hp}{x:Str}{u:ae}{pos:Pos}{Q:ae->ah->Prop}(I:Inv X a σ H s)(b:Gl X x)(c:X.mg x=some u)(h:Q u s)
  (hd:(x==("__debug__" : Str))=false:=by decide):wpAny (model X.prog X.w) X.A (eval (.Name x pos) X.env) Q E s :=
 fX I.ok.kind b (Calls.loadGlobal_global (by rw[I.ok.glob];exact I.mod.glob.keeps I.bk) c h) hd
theorem zAV {E:ae->ah->Prop}{a:List (af×Obj)}{s:ah}{σ:St}{H:Hp}{x:Str}{u:ae}{pos:Pos}{Q:ae->ah->Prop}(I:Inv X a σ H s)(b:Gl X x)(c:X.mg x=none)(d:bootBuiltins x=some u)(h:Q u s)
  (e:x≠"__name__" :=by decide) (hd:(x==("__debug__" : Str))=false:=by decide):wpAny (model X.prog X.w) X.A (eval (.Name x pos) X.env) Q E s:=by
 obtain⟨i,f,g⟩:=I.mod.blt
 exact fX I.ok.kind b (Calls.loadGlobal_builtin (by rw[I.ok.glob];exact I.mod.glob.keeps I.bk) c (by rw[I.ok.blt];exact f.keeps I.bk) ((g x e).trans d) h) hd
theorem v4 {x:Str}{v:V}{u:ae}{pos:Pos}(a:Gl X x)(b:X.mg x=some u)(r:zQ v u)(hd:(x==("__debug__" : Str))=false:=by decide):PE X (.Name x pos) (tC v) :=
 fun _ _ _ H _ I h=>kG I a b ⟨v,H,I,r,h⟩ hd
theorem jO {x:Str}{v:V}{u:ae}{pos:Pos}(a:Gl X x)(b:X.mg x=none)(c:bootBuiltins x=some u)(r:zQ v u)(d:x≠"__name__" :=by decide)(hd:(x==("__debug__" : Str))=false:=by decide):PE X (.Name x pos) (tC v) :=
 fun _ _ _ H _ I h=>zAV I a b c ⟨v,H,I,r,h⟩ d hd
variable{a b:bq}{ta tb:TE}{pos:Pos}
def PC (X:Cx)(op:mj)(a b:bq)(t:TE):Prop :=
 ∀(pins:List (af×Obj)) (s:ah) (σ:St) (H:Hp) (Q:VK),Inv X pins σ H s->t σ H Q->
  wpAny (model X.prog X.w) X.A (eval a X.env) (fun v s₁=>wpAny (model X.prog X.w) X.A (eval b X.env) (fun u s₂=>wpAny (model X.prog X.w) X.A (compareOp op v u) (EP X pins σ Q) X.xe s₂) X.xe s₁) X.xe s
theorem zET (b:bq){op:mj}(h:op≠.In)(c:op≠.NotIn):behindInMarks op b=false:=by
 have d:(op==CmpOp.In)=false:=by cases op<;>first|rfl|exact absurd rfl h
 have e:(op==CmpOp.NotIn)=false:=by cases op<;>first|rfl|exact absurd rfl c
 cases b<;>simp[behindInMarks,d,e]
def zIV (ta:TE):TE:=fun σ H Q=>ta σ H fun x H1=>Q (.bl (decide (x=.non))) H1
theorem zQ.none_iff {x:V}{v:ae}(r:zQ x v):(v==Value.none)=decide (x=.non):=by
 cases x with
 |non=>cases r;rfl
 |bl _=>cases r;rfl
 |int _=>obtain⟨t,rfl⟩:=r;rfl
 |str _=>obtain⟨t,rfl⟩:=r;rfl
 |byt _=>obtain⟨t,rfl⟩:=r;rfl
 |flt _=>obtain⟨t,rfl⟩:=r;rfl
 |ref _=>cases r;rfl
 |ty _=>cases r;rfl
theorem zEU {j c}(e:PE X a ta):PC X .Is a (.Constant .none j c) (zIV ta):=by
 intro d s σ H Q I h
 refine zK (e d s σ H _ I h) fun v m ⟨x,f,g,i,l⟩=>?_
 exact nG (is_none_gen ⟨.bl _,f,g,by rw[i.none_iff];rfl,l⟩)
def tB (t:TE):TT:=fun σ H Q=>t σ H fun x H1=>∃c,x=.bl c/\Q c H1
theorem zEV {op:mj}{t:TE}(h:PC X op a b t)(d:behindInMarks op b=false:=by first|exact zET _ (by decide) (by decide)|rfl):PE X (.Compare a [op] [b] pos) t:=fun c s σ H Q I e=>mO (h c s σ H Q I e) d
theorem kX {op:mj}{t:TE}(h:PC X op a b t)(f:behindInMarks op b=false:=by first|exact zET _ (by decide) (by decide)|rfl):PT X (.Compare a [op] [b] pos) (tB t):=by
 intro e s σ H Q I g
 refine iK (zK (h e s σ H _ I g) fun v o f=>zK f fun u p i=>zK i fun c r ⟨x,j,l,m,n⟩=>?_) f
 obtain⟨d,rfl,q⟩:=n
 cases m
 exact cA ⟨j,l,q⟩
theorem v5 {e:bq}{t:TE}(h:PE X e t)(he:∀whole,isTrue e X.env whole=(do let v<-whole;standAt e.pos;holding [v] (truthy v)):=by intro _;rfl):PT X e (tB t):=by
 intro c s σ H Q I f
 refine isTrue_plain (zK (h c s σ H _ I f) fun v m ⟨x,g,i,j,l⟩=>?_) (he _)
 obtain⟨d,rfl,q⟩:=l
 cases j
 exact cA ⟨g,i,q⟩
variable{tA tB':TT}{uI:List bq}
def zIW (t u:TT):TT:=fun σ H Q=>t σ H fun c H1=>if c=true then u σ H1 Q else Q false H1
def tOr (t u:TT):TT:=fun σ H Q=>t σ H fun c H1=>if c=true then Q true H1 else u σ H1 Q
def zIX (t:TT):TT:=fun σ H Q=>t σ H fun c H1=>Q (!c) H1
theorem zCN (f:PT X a tA):PW X (.BoolOp .And [a] pos) tA:=by
 intro g d s σ H Q I h
 refine isTrue_and (zK (f d s σ H Q I h) fun c i e=>?_)
 cases c with
 |true=>exact isTrue_and_nil e
 |false=>exact e
theorem qR (f:PT X a tA):PW X (.BoolOp .Or [a] pos) tA:=by
 intro g d s σ H Q I h
 refine isTrue_or (zK (f d s σ H Q I h) fun c i e=>?_)
 cases c with
 |false=>exact isTrue_or_nil e
 |true=>exact e
theorem zCO (i:PT X a tA)(j:PW X (.BoolOp .And (b::uI) pos) tB'):PW X (.BoolOp .And (a::b::uI) pos) (zIW tA tB'):=by
 intro l d s σ H Q I h
 refine isTrue_and (zK (i d s σ H _ I h) fun c m ⟨e,f,g⟩=>?_)
 cases c with
 |true=>exact j l d m σ e Q f g
 |false=>exact⟨e,f,g⟩
theorem qS (i:PT X a tA)(j:PW X (.BoolOp .Or (b::uI) pos) tB'):PW X (.BoolOp .Or (a::b::uI) pos) (tOr tA tB'):=by
 intro l d s σ H Q I h
 refine isTrue_or (zK (i d s σ H _ I h) fun c m ⟨e,f,g⟩=>?_)
 cases c with
 |true=>exact⟨e,f,g⟩
 |false=>exact j l d m σ e Q f g
theorem v6 (e:PT X a tA):PT X (.UnaryOp .Not a pos) (zIX tA):=by
 intro d s σ H Q I h
 exact isTrue_not (e d s σ H (fun c f=>Q (!c) f) I h)
def zIY (ta tb:TE):TE:=fun σ H Q=>ta σ H fun x H1=>∃c,x=.bl c/\if c=true then tb σ H1 Q else Q (.bl false) H1
theorem zIZ {op}{t:TE}(h:PE X a t):PE X (.BoolOp op [a] pos) t:=fun c s σ H Q I d=>BoolOp_one (h c s σ H Q I d)
theorem zIa (i:PE X a ta)(j:PE X (.BoolOp .And (b::uI) pos) tb):PE X (.BoolOp .And (a::b::uI) pos) (zIY ta tb):=by
 intro d s σ H Q I h
 refine BoolOp_and (zK (i d s σ H _ I h) fun v l ⟨x,f,g,m,e⟩=>?_)
 obtain⟨c,rfl,e⟩:=e
 cases m
 refine cA ?_
 cases c with
 |true=>exact j d l σ f Q g e
 |false=>exact⟨.bl false,f,g,rfl,e⟩
def tIf (t:TT)(ta tb:TE):TE:=fun σ H Q=>t σ H fun c H1=>if c=true then ta σ H1 Q else tb σ H1 Q
theorem gN {c:bq}(l:PT X c tA)(m:PE X a ta)(n:PE X b tb):PE X (.IfExp c a b pos) (tIf tA ta tb):=by
 intro e s σ H Q I h
 refine wpAny_IfExp (zK (l e s σ H _ I h) fun d f ⟨g,i,j⟩=>?_)
 cases d with
 |true=>exact m e f σ g Q i j
 |false=>exact n e f σ g Q i j
end
def yF (K:aa)(H:Hp)(a:af)(xs:List V):Prop :=
 Rd H a (.lst xs)\/
  ∃(o:Obj) (its:Array ae) (n:Nat),K.lookup a=some o/\o.cls=.type "list"/\o.dict=none/\o.data=.seq its n/\its.size<=sizeLine/\zL xs its.toList
def yX (K:aa)(H:Hp)(a:af)(xs:List V):Prop :=
 Rd H a (.tup xs)\/
  ∃(o:Obj) (its:Array ae) (n:Nat),K.lookup a=some o/\o.cls=.type "tuple"/\o.data=.seq its n/\its.size<=sizeLine/\zL xs its.toList
def zIb:ae->Option V
 | .none=>some .non
 | .bool b=>some (.bl b)
 | .int i _=>some (.int i)
 | .str x _=>some (.str x)
 | .bytes b _=>some (.byt b)
 | .float b _=>some (.flt b)
 | .ref a=>some (.ref a)
 | .type n=>some (.ty n)
 |_=>none
theorem zQ.abs {x:V}{u:ae}(r:zQ x u):zIb u=some x:=by
 cases x with
 |non=>cases r;rfl
 |bl _=>cases r;rfl
 |int _=>obtain⟨t,rfl⟩:=r;rfl
 |str _=>obtain⟨t,rfl⟩:=r;rfl
 |byt _=>obtain⟨t,rfl⟩:=r;rfl
 |flt _=>obtain⟨t,rfl⟩:=r;rfl
 |ref _=>cases r;rfl
 |ty _=>cases r;rfl
theorem zQ.inj {x y:V}{u:ae}(r:zQ x u)(q:zQ y u):x=y:=aq (r.abs.symm.trans q.abs)
theorem zL.inj:∀{xs a:List V}{us:List ae},zL xs us->zL a us->xs=a
 |_,_,_,.nil,.nil=>rfl
 |_,_,_,.cons r t,.cons b t'=>by rw[r.inj b,zL.inj t t']
section
variable{X:Cx}{pins:List (af×Obj)}{σ:St}{H:Hp}{s:ah}{a:af}{xs ys:List V}
theorem yF.of {K:aa}(h:H a=some (.lst xs)):yF K H a xs:=.inl (.inl h)
theorem yX.of {K:aa}(h:H a=some (.tup xs)):yX K H a xs:=.inl (.inl h)
theorem Inv.list (I:Inv X pins σ H s)(h:yF X.K H a xs):∃b:List ae,zL xs b/\PlainL s.heap a b.toArray/\xs.length<=sizeLine:=by
 rcases h with h|⟨o,b,n,c,d,hd,f,g,r⟩
 ·obtain⟨z,b,n,r,e⟩:=h.ok I.hok
  exact⟨b,r,⟨_,n,e,rfl,rfl,rfl⟩,z⟩
 ·refine⟨b.toList,r,⟨o,n,I.kIn a o c,d,hd,by simpa using f⟩,?_⟩
  have e:=r.length
  simp only[fM]at e
  omega
theorem Inv.tuple (I:Inv X pins σ H s)(h:yX X.K H a xs):∃b:List ae,zL xs b/\IsTup s.heap a b.toArray/\xs.length<=sizeLine:=by
 rcases h with h|⟨o,b,n,c,d,f,g,r⟩
 ·obtain⟨z,b,r,p⟩:=h.ok I.hok
  exact⟨b,r,p,z⟩
 ·refine⟨b.toList,r,⟨o,I.kIn a o c,d,n,by simpa using f⟩,?_⟩
  have e:=r.length
  simp only[fM]at e
  omega
theorem Inv.list_inj (I:Inv X pins σ H s)(h:yF X.K H a xs)(h':yF X.K H a ys):xs=ys:=by
 obtain⟨b,r,⟨o,n,e,_,_,d⟩,_⟩:=I.list h
 obtain⟨its',f,⟨g,i,c,_,_,d'⟩,_⟩:=I.list h'
 rw[e]at c;cases c
 rw[d]at d'
 injection d' with d1 _
 have:b=its':=by simpa using congrArg oy d1
 subst this
 exact r.inj f
theorem Inv.tuple_inj (I:Inv X pins σ H s)(h:yX X.K H a xs)(h':yX X.K H a ys):xs=ys:=by
 obtain⟨b,r,⟨o,e,_,n,d⟩,_⟩:=I.tuple h
 obtain⟨its',f,⟨g,c,_,i,d'⟩,_⟩:=I.tuple h'
 rw[e]at c;cases c
 rw[d]at d'
 injection d' with d1 _
 have:b=its':=by simpa using congrArg oy d1
 subst this
 exact r.inj f
end
abbrev Cx.wish (X:Cx)(E:ae->ah->Prop):Cx:={X with xe:=E}
abbrev Cx.nox (X:Cx):Cx:=X.wish fun _ _=>False
theorem Cx.Ok.wish {X:Cx}(ok:X.Ok)(E:ae->ah->Prop):(X.wish E).Ok :=
 ⟨ok.mod,ok.kind,ok.glob,ok.blt,ok.above,ok.inj,ok.has,ok.cab,ok.hd,ok.frames,ok.stk,ok.exf,ok.bs,ok.bsz,ok.noex,ok.exfs,ok.funs,ok.frf⟩
theorem Cx.Ok.unwish {X:Cx}{E:ae->ah->Prop}(ok:(X.wish E).Ok):X.Ok :=
 ⟨ok.mod,ok.kind,ok.glob,ok.blt,ok.above,ok.inj,ok.has,ok.cab,ok.hd,ok.frames,ok.stk,ok.exf,ok.bs,ok.bsz,ok.noex,ok.exfs,ok.funs,ok.frf⟩
section
variable{X:Cx}{pins:List (af×Obj)}{σ:St}{H:Hp}{s:ah}{E:ae->ah->Prop}
theorem Inv.wish (I:Inv X pins σ H s)(E:ae->ah->Prop):Inv (X.wish E) pins σ H s:=⟨I.ok.wish E,I.os,I.bare,I.base,I.loc,I.cell,I.free,I.freeC,I.pin,I.hok,I.len⟩
theorem Inv.unwish (I:Inv (X.wish E) pins σ H s):Inv X pins σ H s:=⟨I.ok.unwish,I.os,I.bare,I.base,I.loc,I.cell,I.free,I.freeC,I.pin,I.hok,I.len⟩
theorem SP.unwish {D:Ends}{f:Flow}{s':ah}(h:SP (X.wish E) pins D f s'):SP X pins D f s':=by
 cases f with
 |next=>obtain⟨a,H',I,q⟩:=h;exact⟨a,H',I.unwish,q⟩
 |brk=>obtain⟨a,H',I,q⟩:=h;exact⟨a,H',I.unwish,q⟩
 |cont=>obtain⟨a,H',I,q⟩:=h;exact⟨a,H',I.unwish,q⟩
 |ret u=>obtain⟨v,a,H',I,r,q⟩:=h;exact⟨v,a,H',I.unwish,r,q⟩
theorem vO.nox {st:List bR}{t:TS}(h:vO X.nox st t):vO X st t:=fun pins s σ H D I a=>
 bX (h pins s σ H D (I.wish _) a) (fun _ _ q=>q.unwish) fun _ _ z=>cf z
end
section
variable{X:Cx}{st:bR}{uI:List bR}{t u:TS}{e:bq}{te:TE}{pos:Pos}
def zIc:TS:=fun D σ H=>D.nx σ H
def zCP (t u:TS):TS:=fun D σ H=>t {D with nx:=u D} σ H
theorem yC:vO X [] zIc:=fun _ _ σ H _ I h=>dD ⟨σ,H,I,h⟩
theorem zF (b:PS X st t)(c:vO X uI u):vO X (st::uI) (zCP t u):=by
 intro a s σ H D I h
 refine lO (zK (b a s σ H {D with nx:=u D} I h) fun f d q=>?_)
 cases f with
 |next=>
  obtain⟨g,H',i,q⟩:=q
  exact c a d g H' D i q
 |ret v=>exact q
 |brk=>exact q
 |cont=>exact q
theorem zI (b:PS X st t):vO X [st] t:=by
 intro a s σ H D I h
 refine lO (zK (b a s σ H D I h) fun f c q=>?_)
 cases f with
 |next=>exact dD q
 |ret v=>exact q
 |brk=>exact q
 |cont=>exact q
theorem Inv.quiet {a:List (af×Obj)}{σ:St}{H:Hp}{s:ah}(I:Inv X a σ H s):interactive X.env=false:=by simp[interactive,I.ok.kind]
def zId (te:TE):TS:=fun D σ H=>te σ H fun _ H1=>D.nx σ H1
theorem yD (he:PE X e te)(b:swapsWith e none pos.line X.env=pure false:=by rfl):PS X (.Expr e pos) (zId te):=by
 intro a s σ H D I h
 exact wpAny_Expr_any (zK (he a s σ H _ I h) fun v g ⟨x,c,d,i,f⟩=>⟨σ,c,d,f⟩) I.quiet b
def zBE (te:TE):TS:=fun D σ H=>te σ H D.rt
theorem zT (he:PE X e te):PS X (.Return (some e) pos) (zBE te):=by
 intro a s σ H D I h
 exact wpAny_Return_some (zK (he a s σ H _ I h) fun v g ⟨x,b,c,d,f⟩=>⟨x,σ,b,c,d,f⟩)
def zIe (c:TT)(t u:TS):TS:=fun D σ H=>c σ H fun b H1=>if b=true then t D σ H1 else u D σ H1
theorem yE {c:bq}{a b:List bR}{g:TT}(n:PT X c g)(o:vO X a t)(p:vO X b u):PS X (.If c a b pos) (zIe g t u):=by
 intro f s σ H D I h
 refine wpAny_If (zK (n f s σ H _ I h) fun d i ⟨j,l,m⟩=>?_)
 cases d with
 |true=>exact o f i σ j D l m
 |false=>exact p f i σ j D l m
def zEW:TS:=fun _ _ _=>False
theorem zBF:PS X st zEW:=fun _ _ _ _ _ _ h=>h.elim
theorem jP {a:List bR}:vO X a zEW:=fun _ _ _ _ _ _ h=>h.elim
end
abbrev TG:=V->St->Hp->(St->Hp->Prop)->Prop
abbrev kH:=List V->St->Hp->(St->Hp->Prop)->Prop
def PG (X:Cx)(target:bq)(t:TG):Prop :=
 ∀(pins:List (af×Obj)) (s:ah) (σ:St) (H:Hp) (v:V) (u:ae) (Q:St->Hp->Prop),Inv X pins σ H s->zQ v u->t v σ H Q->
  wpAny (model X.prog X.w) X.A (assign target X.env u) (fun _ s'=>∃σ' H',Inv X pins σ' H' s'/\Q σ' H') X.xe s
def PGs (X:Cx)(ts:List bq)(t:kH):Prop :=
 ∀(pins:List (af×Obj)) (s:ah) (σ:St) (H:Hp) (vs:List V) (us:List ae) (Q:St->Hp->Prop),Inv X pins σ H s->zL vs us->t vs σ H Q->
  wpAny (model X.prog X.w) X.A (assignInOrder ((assignEach ts X.env).map (·.2)) us) (fun _ s'=>∃σ' H',Inv X pins σ' H' s'/\Q σ' H') X.xe s
abbrev zCQ:=V->V->V->Hp->(Hp->Prop)->Prop
def zEX (X:Cx)(t:zCQ):Prop :=
 ∀(pins:List (af×Obj)) (s:ah) (σ:St) (H:Hp) (o i v:V) (ov iv u:ae) (Q:Hp->Prop),Inv X pins σ H s->zQ o ov->zQ i iv->zQ v u->t o i v H Q->
  wpAny (model X.prog X.w) X.A (setItem ov iv u) (fun _ s'=>∃H',Inv X pins σ H' s'/\Q H') X.xe s
section
variable{X:Cx}{pos:Pos}
def zBG (i:Nat):TG:=fun v σ H Q=>Q (σ.set i (some v)) H
theorem yY {i:Nat}{x:Str}(b:X.N.Nodup)(hi:X.N[i]?=some x)(c:Loc X.env.scope x)(d:X.fn x=true\/X.env.scope.names.lookup x=some .local:=by first|exact .inl rfl|exact .inr rfl|assumption):PG X (.Name x pos) (zBG i):=by
 intro a s σ H v u Q I r h
 exact wpAny_assign_Name (gM I b hi c r (fun s' e=>⟨_,H,e,h⟩) d)
def zIf:kH:=fun vs σ H Q=>vs=[]/\Q σ H
def zIg (t:TG)(u:kH):kH:=fun vs σ H Q=>∃v r,vs=v::r/\t v σ H fun σ' H'=>u r σ' H' Q
theorem zCR:PGs X [] zIf:=by
 intro a s σ H vs us Q I r h
 obtain⟨e,h⟩:=h
 subst e
 cases r
 exact ke ⟨σ,H,I,h⟩
theorem gO {e:bq}{b:List bq}{t:TG}{u:kH}(c:PG X e t)(d:PGs X b u)
  (f:(assignEach (e::b) X.env).map (·.2)=assign e X.env::(assignEach b X.env).map (·.2):=by rfl):PGs X (e::b) (zIg t u):=by
 intro a s σ H vs us Q I r h
 obtain⟨v,p,g,h⟩:=h
 subst g
 cases r with
 |cons r i=>
  rw[f]
  refine fY (zK (c a s σ H _ _ _ I r h) fun _ j ⟨l,m,n,o⟩=>?_)
  exact d a j l m _ _ Q n i o
def zEY (K:aa)(n:Nat)(t:kH):TG:=fun v σ H Q=>∃a xs,v=.ref a/\yX K H a xs/\xs.length=n/\t xs σ H Q
theorem zCS {d:List bq}{k:Nat}{t:kH}{n:Nat}(j:X.calm=true)(h:PGs X d t)
  (l:(assignEach d X.env).length=n:=by rfl) (f:(assignEach d X.env).findIdx? (·.1)=none:=by rfl):PG X (.Tuple d k pos) (zEY X.K n t):=by
 intro c s σ H v u Q I r g
 obtain⟨a,xs,m,p,hl,g⟩:=g
 subst m
 cases r
 obtain⟨q,i,w,z⟩:=I.tuple p
 refine assign_Tuple_tuple (I.ok.hd j) w (by simp[l,<-hl,i.length]) f fun h' x=>?_
 have y:Inv X c σ H {s with heap:=h'}:=I.kept (t':=s.toks) fun b o e=>x b o (br (aD e)) e
 exact h c _ σ H xs _ Q y (by simpa using i) g
def zIh (to ti:TE)(t:zCQ):TG:=fun v σ H Q=>to σ H fun o H1=>ti σ H1 fun i H2=>t o i v H2 fun H3=>Q σ H3
theorem zIi {o i:bq}{to ti:TE}{t:zCQ}(d:PE X o to)(hi:PE X i ti)(e:zEX X t)
  (f:∀v,assign (.Subscript o i pos) X.env v=(do
   let b<-holding [v] (eval o X.env)
   let c<-holding [v,b] (eval i X.env)
   standAt pos
   holding [v,b,c] (setItem b c v)
   release [v,b,c] []):=by intro _;rfl):PG X (.Subscript o i pos) (zIh to ti t):=by
 intro a s σ H v u Q I r h
 rw[f]
 refine aE (fw (zK (d a s σ H _ I h) fun b g ⟨x,j,l,m,n⟩=>?_))
 refine aE (fw (zK (hi a g σ j _ l n) fun c p ⟨y,q,w,z,A⟩=>?_))
 refine aE (jm (aE (fw (zK (e a p σ q x y v b c u _ w m z r A) fun _ E ⟨B,C,D⟩=>?_))))
 exact wpAny_release ⟨σ,B,C,D⟩
def zCT (te:TE)(g:TG):TS:=fun D σ H=>te σ H fun x H1=>g x σ H1 D.nx
theorem zIj {b e:bq}{te:TE}{g:TG}(he:PE X e te)(c:PG X b g)(d:swapsWithSole [b] e pos.line X.env=pure false:=by rfl)(f:swappedStores [b] e X.env=pure none:=by rfl)
  (i:(assignEach [b] X.env).map (·.2)=[assign b X.env]:=by rfl):PS X (.Assign [b] e pos) (zCT te g):=by
 intro a s σ H D I h
 refine wpAny_Assign_stores (zK (he a s σ H _ I h) fun v j ⟨x,l,m,n,o⟩=>?_) d f
 rw[i]
 exact zK (c a j σ l x v _ m n o) fun _ p q=>q
theorem zZ {i:Nat}{x:Str}{e:bq}{te:TE}{a:Pos}(c:X.N.Nodup)(hi:X.N[i]?=some x)(d:Loc X.env.scope x)(he:PE X e te)(f:swapsWith e (some (.Name x a)) pos.line X.env=pure false:=by rfl)(g:X.fn x=true\/X.env.scope.names.lookup x=some .local:=by first|exact .inl rfl|exact .inr rfl|assumption) :
  PS X (.Assign [.Name x a] e pos) (zCT te (zBG i)):=by
 intro b s σ H D I h
 refine wpAny_Assign_Name (zK (he b s σ H _ I h) fun v p ⟨y,j,l,m,n⟩=>?_) f
 exact gM l c hi d m (fun q o=>⟨_,j,o,n⟩) g
def zIk (i j:Nat)(ta:TA):TS:=fun D σ H=>ta σ H fun vs H1=>∃v w,vs=[v,w]/\D.nx ((σ.set i (some v)).set j (some w)) H1
theorem zIl {i j:Nat}{x y:Str}{a b:bq}{z:TA}{l py pt:Pos}{m k2 d}(J:X.calm=true)(B:X.N.Nodup)(hi:X.N[i]?=some x)(L:X.N[j]?=some y)(n:i≠j)
  (C:X.env.scope.names.lookup x=some .local) (E:X.env.scope.names.lookup y=some .local) (M:PA X [a,b] z)
  (O:swappedStores [.Tuple [.Name x l,.Name y py] m pt] (.Tuple [a,b] k2 d) X.env=pure (some [x,y]))
  (P:swapsWithSole [.Tuple [.Name x l,.Name y py] m pt] (.Tuple [a,b] k2 d) pos.line X.env=pure false:=by rfl) :
  PS X (.Assign [.Tuple [.Name x l,.Name y py] m pt] (.Tuple [a,b] k2 d) pos) (zIk i j z):=by
 intro c s σ H D I h
 rw[exec_Assign_arm]
 refine aE (jm ?_)
 rw[P]
 refine aE (bw ?_)
 rw[if_neg (by decide)]
 refine aE (Tuple_ (zK (M _ c s σ H _ I h) fun us f ⟨vs,F,Q,R,r⟩=>?_))
 obtain⟨v,w,T,r⟩:=r
 subst T
 obtain⟨u1,g,rfl,U,t⟩:∃u1 g,us=[u1,g]/\zQ v u1/\zQ w g:=by
  cases R with
  |cons p q=>
   cases q with
   |cons W Y=>
    cases Y
    exact⟨_,_,rfl,p,W⟩
 refine kf ?_ (by show 2<=sizeLine;decide)
 have Z:Inv X c σ F {f with heap:=f.heap.push {cls:=.type "tuple",data:=.seq [u1,g].toArray}}:=Q.kept (t':=f.toks) fun b o e=>ao _ e
 rw[O]
 refine aE (bw ?_)
 show wpAny (model X.prog X.w) X.A (do rule "assign.swapped-stores";let items<-unpackItems (.ref f.heap.objs.size) 2 none;assignInOrder [fun v=>bindName X.env y v,fun v=>bindName X.env x v] items.reverse;pure Flow.next) _ _ _
 refine aE (wpAny_rule (aE (unpackItems_tuple (items:=#[u1,g]) (I.ok.hd J) (pB f.heap _) fun h' u=>?_)))
 have I3:=Z.kept (h':=h') (t':=f.toks) fun b o e=>u b o (br (aD e)) e
 show wpAny _ _ (assignInOrder [fun v=>bindName X.env y v,fun v=>bindName X.env x v] [g,u1]>>=fun _=>pure Flow.next) _ _ _
 refine aE (fY (mP (gM I3 B L (.inl E) t (fun s2 I4=>?_) (.inr E))))
 refine fY (mP (gM I4 B hi (.inl C) U (fun s3 G=>ke (bw ?_)) (.inr C)))
 rw[List.set_comm _ _ (dG n)]at G
 exact⟨_,F,G,r⟩
def zIm (c:TT)(tb:TS):TS:=fun D σ H=>∃W:Nat->St->Hp->Prop,(∃m,W m σ H)/\∀m σ H,W m σ H->
 c σ H fun b H1=>if b=true then∃N:St->Hp->Prop,(∀σ' H',N σ' H'->∃m',m'<m/\W m' σ' H')/\tb {D with nx:=N,ct:=N,bk:=D.nx} σ H1 else D.nx σ H1
theorem zEZ {c:bq}{body:List bR}{t:TT}{u:TS}(x:PassesOwn (model X.prog X.w) X.A X.env X.xe)(F:PT X c t)(G:vO X body u):PS X (.While c body [] pos) (zIm t u):=by
 intro a s σ H D I h
 obtain⟨W,⟨J,L⟩,d⟩:=h
 refine wpAny_While (codeAny_whileLoop (fun n s'=>∃y H',Inv X a y H' s'/\W n y H') ?_ J ⟨σ,H,I,L⟩)
 rintro n M ⟨i,z,O,P⟩
 refine dm x (zK (F a M i z _ O (d n i z P)) fun b Q ⟨B,C,j⟩=>?_)
 cases b with
 |true=>
  obtain⟨N,E,j⟩:=j
  rw[if_pos rfl]
  refine dm x (zK (G a Q i B _ C j) fun f R l=>?_)
  cases f with
  |next=>
   obtain⟨e,g,m,o⟩:=l
   obtain⟨p,q,r⟩:=E e g o
   exact⟨p,q,e,g,m,r⟩
  |cont=>
   obtain⟨e,g,m,o⟩:=l
   obtain⟨p,q,r⟩:=E e g o
   exact⟨p,q,e,g,m,r⟩
  |brk=>exact l
  |ret v=>exact l
 |false=>
  rw[if_neg aC]
  exact dD ⟨i,B,C,j⟩
end
structure It where
 go:Nat->Hp->Prop
 yld:Nat->Hp->V->Hp->Prop
 stop:Nat->Hp->Prop
def qT (X:Cx)(pins:List (af×Obj))(H:Hp)(b:af):Prop :=
 H b=none/\b≠X.env.locals/\b∉X.fs/\(b∈X.ex\/X.s₀.heap.objs.size<=b)/\(∀x c,X.env.cells.lookup x=some c->c≠b)/\∀p∈X.pn++pins,p.1≠b
theorem Inv.fpOk {X:Cx}{a:List (af×Obj)}{σ:St}{H H':Hp}{s:ah}{b:af}(I:Inv X a σ H s)(d:s.heap.objs.size<=b)(f:H' b=none):qT X a H' b:=by
 refine⟨f,kg (aU I.lt d),I.nofs d,.inr (bV I.sz d),fun x c e z=>?_,fun p g z=>?_⟩
 ·obtain⟨v,q⟩:=I.cell x c e
  exact absurd (aU q.lt (by rw[z];exact d)) (bS _)
 ·exact absurd (aU (aD (I.pin p g).1) (by rw[z];exact d)) (bS _)
structure Turn (P:aw) (w:aI) (K:aa) (tg:bq) (J:It) (fp:List af) (it:af) (tn:Nat->bc->Prop):Prop where
 mem:it∈fp
 obj:∀i h,tn i h->∀b∈fp,∃o,h.get? b=some o/\∀v,o.data≠.cell v
 keep:∀i h h',tn i h->(∀b∈fp,∀o,h.get? b=some o->h'.get? b=some o)->tn i h'
 item:∀(X:Cx),X.prog=P->X.w=w->X.K=K->X.calm=true->∀(i:Nat) (pins:List (af×Obj)) (s:ah) (σ:St) (H:Hp) (E:ae->ah->Prop),Inv X pins σ H s->(∀b∈fp,qT X pins H b)->tn i s.heap->J.go i H->
  wpAny (model P w) X.A (pyNext (.ref it)) (fun r s1=>∃u,r=some u/\
   wpAny (model P w) X.A (letOwnedTupleGo tg (.ref it) u) (fun _ s2=>∃x H',Inv X pins σ H' s2/\zQ x u/\J.yld i H x H'/\tn (i+1) s2.heap/\∀b∈fp,H' b=none) E s1) E s
 done:∀(X:Cx),X.prog=P->X.w=w->X.K=K->X.calm=true->∀(i:Nat) (pins:List (af×Obj)) (s:ah) (σ:St) (H:Hp) (E:ae->ah->Prop),Inv X pins σ H s->(∀b∈fp,qT X pins H b)->tn i s.heap->J.stop i H->
  wpAny (model P w) X.A (pyNext (.ref it)) (fun r s1=>r=none/\Inv X pins σ H s1) E s
 self:∀(A:bB) (i:Nat) (s:ah) (Q:ae->ah->Prop) (E:ae->ah->Prop),tn i s.heap->Q (.ref it) s->wpAny (model P w) A (pyIter (.ref it)) Q E s
abbrev TI:=St->Hp->(It->Hp->Prop)->Prop
def PIE (X:Cx)(pins:List (af×Obj))(σ:St)(tg:bq)(R:It->Hp->Prop)(itv:ae)(s2:ah):Prop :=
 ∃(it:af) (fp:List af) (tn:Nat->bc->Prop) (J:It) (H':Hp),itv=.ref it/\Inv X pins σ H' s2/\Turn X.prog X.w X.K tg J fp it tn/\tn 0 s2.heap/\(∀b∈fp,qT X pins H' b)/\R J H'
def PI (X:Cx)(tg iter:bq)(wi:TI):Prop :=
 ∀(pins:List (af×Obj)) (s:ah) (σ:St) (H:Hp) (R:It->Hp->Prop),Inv X pins σ H s->wi σ H R->
  wpAny (model X.prog X.w) X.A (eval iter X.env) (fun v s1=>wpAny (model X.prog X.w) X.A (pyIter v) (PIE X pins σ tg R) X.xe s1) X.xe s
theorem zAW {M:mh}{A:bB}{E:ae->ah->Prop}{s:ah}{b:bq}{it:af}{u:ae}{o:Obj}{n:String}{vs:Array ae}{Q:Unit->ah->Prop}(c:s.heap.get? it=some o)(d:o.cls=.type n)(hd:o.data=.fields vs)
  (e:["enumerate","zip","dict_itemiterator","dict_reverseitemiterator","odict_iterator","itertools.zip_longest","itertools.pairwise"].contains n=false) (a:Q () s):wpAny M A (letOwnedTupleGo b (.ref it) u) Q E s:=by
 unfold letOwnedTupleGo
 cases b<;>first
  |exact bw a
  |(cases u<;>first
    |exact bw a
    |(refine aE (wpAny_load c ?_)
      rw[d,hd]
      show wpAny M A (if(["enumerate","zip","dict_itemiterator","dict_reverseitemiterator","odict_iterator","itertools.zip_longest","itertools.pairwise"].contains n&&vs[0]? ==some (rawInt _))=true then _ else _) Q E s
      rw[if_neg (by intro h;rw[e,Bool.false_and]at h;cases h)]
      exact bw a))
def Itl (K:aa)(a:af):It :=
 ⟨fun i H=>∃xs x,yF K H a xs/\xs[i]?=some x,fun i H x H'=>H'=H/\∀xs,yF K H a xs->xs[i]?=some x,fun i H=>∃xs,yF K H a xs/\xs.length<=i⟩
def Itt (K:aa)(a:af):It :=
 ⟨fun i H=>∃xs x,yX K H a xs/\xs[i]?=some x,fun i H x H'=>H'=H/\∀xs,yX K H a xs->xs[i]?=some x,fun i H=>∃xs,yX K H a xs/\xs.length<=i⟩
def Itr (lo:Int)(n:Nat):It:=⟨fun i _=>i<n,fun i H x H'=>H'=H/\x=.int (lo+i),fun i _=>n<=i⟩
theorem zIn {P:aw}{w:aI}{K:aa}{L:bq}(a it:af):Turn P w K L (Itl K a) [it] it (fun i h=>h.IsListIter it a i) where
 mem:=by simp
 obj:=fun i h st b g=>by
  have e:b=it:=by simpa using g
  subst e
  obtain⟨o,e,c,d⟩:=st
  exact⟨o,e,fun v z=>by rw[d]at z;cases z⟩
 keep:=fun i h h' st k=>st.at fun o e=>k it (by simp) o e
 item:=by
  intro X n q r J i f s σ H E I l st t
  subst n q r
  obtain⟨xs,x,m,y⟩:=t
  obtain⟨A,B,p,M⟩:=I.list m
  obtain⟨u,N,O⟩:=B.get y
  obtain⟨C,f1,f2,D,F,G⟩:=l it (by simp)
  refine wpAny_pyNext_list_item st p.isList (x:=u) (by simpa using N) fun h' j Q=>?_
  have R:Inv X f σ H {s with heap:=h'}:=I.turned (t':=s.toks) (fun b o g e=>(Q.2 b g).trans e) C f1 D F G
  obtain⟨o,e,c,d⟩:=id j
  exact⟨u,rfl,zAW (s:={s with heap:=h'}) e c d (by decide) ⟨x,H,R,O,⟨rfl,fun W T=>by rw[I.list_inj T m];exact y⟩,j,fun b g=>(l b g).1⟩⟩
 done:=by
  intro X n q r J i f s σ H E I l st t
  subst n q r
  obtain⟨xs,m,y⟩:=t
  obtain⟨A,B,p,M⟩:=I.list m
  obtain⟨C,f1,f2,D,F,G⟩:=l it (by simp)
  have hl:=B.length
  exact wpAny_pyNext_list_end (I.ok.hd J) st p.isList (by simp;omega) fun h' U=>⟨rfl,I.turned (t':=s.toks) (fun b o g e=>U b o g e) C f1 D F G⟩
 self:=fun _ _ _ _ _ st h=>wpAny_pyIter_listiter st h
theorem zIo {P:aw}{w:aI}{K:aa}{L:bq}(a it:af):Turn P w K L (Itt K a) [it] it (fun i h=>h.IsTupleIter it a i) where
 mem:=by simp
 obj:=fun i h st b g=>by
  have e:b=it:=by simpa using g
  subst e
  obtain⟨o,e,c,d⟩:=st
  exact⟨o,e,fun v z=>by rw[d]at z;cases z⟩
 keep:=fun i h h' st k=>st.at fun o e=>k it (by simp) o e
 item:=by
  intro X q r t J i f s σ H E I m st y
  subst q r t
  obtain⟨xs,x,n,A⟩:=y
  obtain⟨j,B,p,M⟩:=I.tuple n
  obtain⟨u,N,O⟩:=B.get A
  obtain⟨C,f1,f2,D,F,G⟩:=m it (by simp)
  refine wpAny_pyNext_tuple_item st (show s.heap.IsTuple a j.toArray from p) (x:=u) (by simpa using N) fun h' l Q=>?_
  have R:Inv X f σ H {s with heap:=h'}:=I.turned (t':=s.toks) (fun b o g e=>(Q.2 b g).trans e) C f1 D F G
  obtain⟨o,e,c,d⟩:=id l
  exact⟨u,rfl,zAW (s:={s with heap:=h'}) e c d (by decide) ⟨x,H,R,O,⟨rfl,fun W T=>by rw[I.tuple_inj T n];exact A⟩,l,fun b g=>(m b g).1⟩⟩
 done:=by
  intro X q r t J i f s σ H E I m st y
  subst q r t
  obtain⟨xs,n,A⟩:=y
  obtain⟨j,B,p,M⟩:=I.tuple n
  obtain⟨C,f1,f2,D,F,G⟩:=m it (by simp)
  have hl:=B.length
  exact wpAny_pyNext_tuple_end (I.ok.hd J) st (show s.heap.IsTuple a j.toArray from p) (by simp;omega) fun h' U=>⟨rfl,I.turned (t':=s.toks) (fun b o g e=>U b o g e) C f1 D F G⟩
 self:=fun _ _ _ _ _ st h=>wpAny_pyIter_tupleiter st h
theorem zIp {P:aw}{w:aI}{K:aa}{A:bq}(it:af)(lo:Int)(n:Nat):Turn P w K A (Itr lo n) [it] it (fun i h=>IsRangeIter h it (lo+(i:Nat)*1) ((n:Int)- (i:Nat)) 1) where
 mem:=by simp
 obj:=fun i h st b c=>by
  have e:b=it:=by simpa using c
  subst e
  exact⟨_,st,fun v z=>by
   have B:Data.fields _=Data.cell v:=z
   cases B⟩
 keep:=fun i h h' st k=>k it (by simp) _ st
 item:=by
  intro X g j l m i a s σ H E I f st p
  subst g j l
  obtain⟨q,f1,f2,r,u,x⟩:=f it (by simp)
  have W:=Walks.range (prog:=X.prog) (w:=X.w) (I.ok.hd m) it lo 1 n
  refine W.item i s _ _ p st fun v h' y C d D=>?_
  obtain⟨t,rfl⟩:=C
  have F:Inv X a σ H {s with heap:=h',toks:=y}:=I.turned (fun b o c e=>D b o (by simpa using c) e) q f1 r u x
  refine⟨_,rfl,zAW (s:={s with heap:=h',toks:=y}) (n :="range_iterator") d rfl rfl (by decide) ⟨.int (lo+i),H,F,⟨t,?_⟩,⟨rfl,rfl⟩,d,fun b c=>(f b c).1⟩⟩
  rw[oN]
 done:=by
  intro X g j l m i a s σ H E I f st p
  subst g j l
  obtain⟨q,f1,f2,r,u,x⟩:=f it (by simp)
  exact wpAny_pyNext_range_end (I.ok.hd m) st (by have:n<=i:=p;omega) fun h' G=>⟨rfl,I.turned (t':=s.toks) (fun b o c e=>G b o c e) q f1 r u x⟩
 self:=fun _ _ _ _ _ st h=>wpAny_pyIter_rangeiter st h
section
variable{X:Cx}{tg:bq}
def zIq (K:aa)(tl:TE):TI:=fun σ H R=>tl σ H fun x H1=>∃a,x=.ref a/\(∃xs,yF K H1 a xs)/\R (Itl K a) H1
def zEa (K:aa)(tl:TE):TI:=fun σ H R=>tl σ H fun x H1=>∃a,x=.ref a/\(∃xs,yX K H1 a xs)/\R (Itt K a) H1
theorem jQ {l:bq}{g:TE}(hl:PE X l g):PI X tg l (zIq X.K g):=by
 intro c s σ H R I h
 refine zK (hl c s σ H _ I h) fun v d ⟨x,i,f,j,m⟩=>?_
 obtain⟨a,e,⟨xs,n⟩,q⟩:=m
 subst e
 cases j
 obtain⟨r,u,p,w⟩:=f.list n
 refine gq p.isList ?_
 refine⟨d.heap.objs.size,[d.heap.objs.size],_,_,i,rfl,f.kept (t':=d.toks) fun b o e=>ao _ e,zIn a _,⟨_,aZ _ rfl,rfl,rfl⟩,fun b t=>?_,q⟩
 have e:b=d.heap.objs.size:=by simpa using t
 subst e
 exact f.fpOk (ay _) (f.hok.fresh (ay _))
theorem gP {l:bq}{i:TE}(hl:PE X l i):PI X tg l (zEa X.K i):=by
 intro c s σ H R I h
 refine zK (hl c s σ H _ I h) fun v d ⟨x,j,f,m,n⟩=>?_
 obtain⟨a,e,⟨xs,r⟩,q⟩:=n
 subst e
 cases m
 obtain⟨g,u,p,w⟩:=f.tuple r
 refine wpAny_pyIter_tuple (show d.heap.IsTuple a g.toArray from p) ?_
 refine⟨d.heap.objs.size,[d.heap.objs.size],_,_,j,rfl,f.kept (t':=d.toks) fun b o e=>ao _ e,zIo a _,⟨_,aZ _ rfl,rfl,rfl⟩,fun b t=>?_,q⟩
 have e:b=d.heap.objs.size:=by simpa using t
 subst e
 exact f.fpOk (ay _) (f.hok.fresh (ay _))
theorem zIr {a:List (af×Obj)}{σ:St}{H:Hp}{s:ah}{R:It->Hp->Prop}{E:ae->ah->Prop}{lo hi:Int}{t u v:Tok}{c:Nat}(I:Inv X a σ H s)(f:-(2^62)<=lo)(g:lo<2^62)(h:-(2^62)<=hi)(i:hi<2^62)
  (q:R (Itr lo (hi-lo).toNat) H):wpAny (model X.prog X.w) X.A (pyIter (.ref s.heap.objs.size)) (PIE X a σ tg R) E {s with heap:=s.heap.push {cls:=.type "range",data:=.fields #[.int lo t,.int hi u,.int 1 v]},toks:=c}:=by
 refine wpAny_pyIter_range (IsRange.new ..) (small_one f g h i) ?_
 have d:Inv X a σ H {s with heap:=s.heap.push {cls:=.type "range",data:=.fields #[.int lo t,.int hi u,.int 1 v]},toks:=c}:=I.kept fun b o e=>ao _ e
 refine⟨(s.heap.push {cls:=.type "range",data:=.fields #[.int lo t,.int hi u,.int 1 v]}).objs.size,[(s.heap.push {cls:=.type "range",data:=.fields #[.int lo t,.int hi u,.int 1 v]}).objs.size],_,_,H,rfl,
  d.kept (t':=c) fun b o e=>ao _ e,zIp _ lo (hi-lo).toNat,?_,fun b j=>?_,q⟩
 ·have l:lo+((0:Nat):Int)*1=lo:=by simp
  have m:(((hi-lo).toNat:Nat):Int)- ((0:Nat):Int)=ou lo hi 1:=by rw[rangeSize_one];split<;>omega
  show IsRangeIter _ _ (lo+((0:Nat):Int)*1) ((((hi-lo).toNat:Nat):Int)- ((0:Nat):Int)) 1
  rw[l,m]
  exact aZ _ rfl
 ·have e:b=(s.heap.push {cls:=.type "range",data:=.fields #[.int lo t,.int hi u,.int 1 v]}).objs.size:=by simpa using j
  subst e
  exact d.fpOk (ay _) (d.hok.fresh (ay _))
def zIs (ta:TA):TI:=fun σ H R=>ta σ H fun vs H1=>∃j:Int,vs=[.int j]/\-(2^62)<=j/\j<2^62/\R (Itr 0 j.toNat) H1
theorem jR {a:bq}{d:TA}{p pos:Pos}(f:Gl X "range")(g:X.mg "range"=none)(i:PA X [a] d)(l:starEach [a] X.env=[(false,eval a X.env)]:=by rfl):PI X tg (.Call (.Name "range" p) [a] [] pos) (zIs d):=by
 intro b s σ H R I h
 refine Call_ (zAV I f g boot_range (dH (zK (i pos b s σ H _ I h) fun us v ⟨vs,w,m,n,c⟩=>?_) l rfl))
 obtain⟨j,e,c,o,q⟩:=c
 subst e
 cases n with
 |cons r u=>
  cases u
  obtain⟨t,rfl⟩:=r
  exact call_range_1 (zIr m (by omega) (by omega) c o (by simpa using q))
def zIt (wi:TI)(g:TG)(tb:TS):TS:=fun D σ H=>wi σ H fun J H1=>∃W:Nat->Nat->St->Hp->Prop,(∃m,W 0 m σ H1)/\∀i m σ H,W i m σ H->
 (J.stop i H/\D.nx σ H)\/(J.go i H/\∃N:St->Hp->Prop,(∀σ' H',N σ' H'->∃m',m'<m/\W (i+1) m' σ' H')/\∀x H',J.yld i H x H'->g x σ H' fun σ2 H2=>tb {D with nx:=N,ct:=N,bk:=D.nx} σ2 H2)
def zAX (fp:List af)(h:bc):List (af×Obj):=fp.filterMap fun b=>(h.get? b).map fun o=>(b,o)
theorem zBH {fp:List af}{h:bc}{b:af}{o:Obj}(a:b∈fp)(e:h.get? b=some o):(b,o)∈zAX fp h:=fZ.mpr ⟨b,a,by rw[e];rfl⟩
theorem zIu {fp:List af}{h:bc}{p:af×Obj}(a:p∈zAX fp h):p.1∈fp/\h.get? p.1=some p.2:=by
 obtain⟨b,c,e⟩:=fZ.mp a
 cases q:h.get? b with
 |none=>rw[q]at e;cases e
 |some o=>
  rw[q]at e
  have d:(b,o)=p:=aq e
  subst d
  exact⟨c,q⟩
theorem Inv.pinned {a:List (af×Obj)}{σ:St}{H:Hp}{s:ah}{fp:List af}(I:Inv X a σ H s)(g:∀b∈fp,qT X a H b)(h:∀b∈fp,∃o,s.heap.get? b=some o/\∀v,o.data≠.cell v):Inv X (a++zAX fp s.heap) σ H s :=
 I.pins_of fun p i=>(bG.mp i).elim (fun z=>I.pin p (bb _ z)) fun z=>by
  obtain⟨c,e⟩:=zIu z
  obtain⟨j,f1,f2,_⟩:=g p.1 c
  obtain⟨o,f,d⟩:=h p.1 c
  rw[e]at f;cases f
  exact⟨e,j,f1,f2,d⟩
theorem Inv.unpinned {a pl:List (af×Obj)}{σ:St}{H:Hp}{s:ah}(I:Inv X (a++pl) σ H s):Inv X a σ H s:=I.pins_of fun p b=>I.pin p (bb _ (b8 _ b))
theorem uV {iter:bq}{body:List bR}{Y:TI}{g:TG}{Z:TS}{pos:Pos}(z:PassesOwn (model X.prog X.w) X.A X.env X.xe)(hc:X.calm=true)(hi:PI X tg iter Y)(hg:PG X tg g)(c:vO X body Z)
  (hs:∀x,foldedSetIterable iter X.env x=pure x:=by intro _;rfl):PS X (.For tg iter body [] pos) (zIt Y g Z):=by
 intro a s σ H D I h
 refine wpAny_For (zK (hi a s σ H _ I h) fun v s1 h1=>zK h1 fun ab s2 h2=>?_) hs
 obtain⟨it,fp,tn,J,H2,e,I2,T,O,f2,W,⟨m0,w0⟩,B⟩:=h2
 subst e
 have j:∀{H':Hp},(∀b∈fp,H' b=none)->∀b∈fp,qT X a H' b:=fun hn b c=>⟨hn b c,(f2 b c).2⟩
 refine codeAny_forLoop_any (fun n s'=>∃i C H',Inv X a C H' s'/\tn i s'.heap/\(∀b∈fp,H' b=none)/\W i n C H') ?_ m0 ⟨0,σ,H2,I2,O,fun b c=>(f2 b c).1,w0⟩
 rintro n s3 ⟨i,E,M,I3,F,G,w3⟩
 rcases B i n E M w3 with⟨stop,qn⟩|⟨go,N,hN,step⟩
 ·refine dm z (zK (T.done X rfl rfl rfl hc i a s3 E M X.xe I3 (j G) F stop) fun r s4 ⟨P,I4⟩=>?_)
  subst P
  exact dD ⟨E,M,I4,qn⟩
 ·refine dm z (zK (T.item X rfl rfl rfl hc i a s3 E M X.xe I3 (j G) F go) fun r s4 ⟨u,P,h4⟩=>?_)
  subst P
  refine dm z (zK h4 fun _ s5 ⟨x,H5,I5,r5,y5,y,Q⟩=>?_)
  have R:=I5.pinned (j Q) (T.obj _ _ y)
  refine dm z (zK (hg _ s5 E H5 x u _ R r5 (step x H5 y5)) fun _ s6 ⟨σ6,H6,I6,q6⟩=>?_)
  refine dm z (zK (c _ s6 σ6 H6 _ I6 q6) fun f U t=>?_)
  have again:∀{l:St} {p:Hp},Inv X (a++zAX fp s5.heap) l p U->N l p->∃m,m<n/\∃i C H',Inv X a C H' U/\tn i U.heap/\(∀b∈fp,H' b=none)/\W i m C H':=fun{l p} q L=>by
   obtain⟨m',hm,w7⟩:=hN l p L
   refine⟨m',hm,i+1,l,p,q.unpinned,T.keep _ _ _ y fun b c o e=>(q.pin (b,o) (bb _ (bb _ (zBH c e)))).1,fun b c=>?_,w7⟩
   obtain⟨o,e,d⟩:=T.obj _ _ y b c
   exact(q.pin (b,o) (bb _ (bb _ (zBH c e)))).2.1
  cases f with
  |next=>obtain⟨l,p,q,L⟩:=t;exact again q L
  |cont=>obtain⟨l,p,q,L⟩:=t;exact again q L
  |brk=>obtain⟨l,p,q,t⟩:=t;exact⟨l,p,q.unpinned,t⟩
  |ret v=>obtain⟨x7,l,p,q,r7,t⟩:=t;exact⟨x7,l,p,q.unpinned,r7,t⟩
end
abbrev R2:=V->V->Hp->VK->Prop
def z9 (X:Cx)(f:ae->ae->Sem ae)(r:R2):Prop :=
 ∀(pins:List (af×Obj)) (s:ah) (σ:St) (H:Hp) (x y:V) (v u:ae) (Q:VK),Inv X pins σ H s->zQ x v->zQ y u->r x y H Q->
  wpAny (model X.prog X.w) X.A (f v u) (EP X pins σ Q) X.xe s
def UnR (X:Cx)(f:ae->Sem ae)(r:V->Hp->VK->Prop):Prop :=
 ∀(pins:List (af×Obj)) (s:ah) (σ:St) (H:Hp) (x:V) (v:ae) (Q:VK),Inv X pins σ H s->zQ x v->r x H Q->
  wpAny (model X.prog X.w) X.A (f v) (EP X pins σ Q) X.xe s
def uQ (X:Cx)(f:ae)(r:List V->Hp->VK->Prop):Prop :=
 ∀(pins:List (af×Obj)) (s:ah) (σ:St) (H:Hp) (xs:List V) (us:List ae) (Q:VK),Inv X pins σ H s->zL xs us->r xs H Q->
  wpAny (model X.prog X.w) X.A (call f us) (EP X pins σ Q) X.xe s
def gQ (r:R2)(ta tb:TE):TE:=fun σ H Q=>ta σ H fun x H1=>tb σ H1 fun y H2=>r x y H2 Q
def tUn (r:V->Hp->VK->Prop)(ta:TE):TE:=fun σ H Q=>ta σ H fun x H1=>r x H1 Q
def rI (C:Int->Int->Prop)(g:Int->Int->V):R2:=fun x y H Q=>∃i j,x=.int i/\y=.int j/\C i j/\Q (g i j) H
def jS (g:Int->Int->V):R2:=fun x y H Q=>∃i j,x=.int i/\y=.int j/\Q (g i j) H
def rU (g:Int->V):V->Hp->VK->Prop:=fun x H Q=>∃i,x=.int i/\Q (g i) H
section
variable{X:Cx}{a b c:bq}{ta tb tc:TE}{pos:Pos}
theorem zCU (j:PE X a ta)(l:PE X b tb){d:List (af×Obj)}{s:ah}{σ:St}{H:Hp}{R:V->V->Hp->Prop}(I:Inv X d σ H s)
  (h:ta σ H fun x i=>tb σ i fun y e=>R x y e) {Q:ae->ah->Prop} {f:ae->ae->Sem ae}
  (m:∀v u g x y e,Inv X d σ e g->zQ x v->zQ y u->R x y e->wpAny (model X.prog X.w) X.A (f v u) Q X.xe g) :
  wpAny (model X.prog X.w) X.A (eval a X.env) (fun v n=>wpAny (model X.prog X.w) X.A (eval b X.env) (fun u o=>wpAny (model X.prog X.w) X.A (f v u) Q X.xe o) X.xe n) X.xe s:=by
 refine zK (j d s σ H _ I h) fun v p ⟨x,i,q,r,t⟩=>?_
 refine zK (l d p σ i _ q t) fun u g ⟨y,e,z,B,C⟩=>?_
 exact m v u g x y e z r B C
theorem zR {op:Operator}{r:R2}(e:z9 X (binaryOp op) r)(f:PE X a ta)(g:PE X b tb):PE X (.BinOp a op b pos) (gQ r ta tb):=by
 intro d s σ H Q I h
 exact wpAny_BinOp (zCU f g I h fun v u i x y j l m n q=>e d i σ j x y v u Q l m n q)
theorem zEb {op:UnaryOp}{r:V->Hp->VK->Prop}(e:UnR X (unaryOp op) r)(f:PE X a ta):PE X (.UnaryOp op a pos) (tUn r ta):=by
 intro d s σ H Q I h
 exact UnaryOp_ (zK (f d s σ H _ I h) fun v g ⟨x,i,j,l,m⟩=>e d g σ i x v Q j l m)
theorem opI {f:ae->ae->Sem ae}{C:Int->Int->Prop}{g:Int->Int->Int}
  (rule:∀(i j:Int) (t u:Tok) (s:ah) (Q:ae->ah->Prop) (E:ae->ah->Prop),C i j->Q (.int (g i j) s.toks) {s with toks:=s.toks+1}->wpAny (model X.prog X.w) X.A (f (.int i t) (.int j u)) Q E s) :
  z9 X f (rI C fun i j=>.int (g i j)):=by
 intro d s σ H x y v u Q I e l h
 obtain⟨i,j,rfl,rfl,m,q⟩:=h
 obtain⟨t,rfl⟩:=e
 obtain⟨t',rfl⟩:=l
 exact rule i j t t' s _ _ m ⟨.int (g i j),H,I.tok _,⟨_,rfl⟩,q⟩
theorem zEc {f:ae->ae->Sem ae}{g:Int->Int->Int}
  (rule:∀(i j:Int) (t u:Tok) (s:ah) (Q:ae->ah->Prop) (E:ae->ah->Prop),Q (.int (g i j) s.toks) {s with toks:=s.toks+1}->wpAny (model X.prog X.w) X.A (f (.int i t) (.int j u)) Q E s) :
  z9 X f (jS fun i j=>.int (g i j)):=by
 intro d s σ H x y v u Q I e l h
 obtain⟨i,j,rfl,rfl,q⟩:=h
 obtain⟨t,rfl⟩:=e
 obtain⟨t',rfl⟩:=l
 exact rule i j t t' s _ _ ⟨.int (g i j),H,I.tok _,⟨_,rfl⟩,q⟩
theorem zCV {f:ae->ae->Sem ae}{g:Int->Int->Bool}
  (rule:∀(i j:Int) (t u:Tok) (s:ah) (Q:ae->ah->Prop) (E:ae->ah->Prop),Q (.bool (g i j)) s->wpAny (model X.prog X.w) X.A (f (.int i t) (.int j u)) Q E s) :
  z9 X f (jS fun i j=>.bl (g i j)):=by
 intro d s σ H x y v u Q I e l h
 obtain⟨i,j,rfl,rfl,q⟩:=h
 obtain⟨t,rfl⟩:=e
 obtain⟨t',rfl⟩:=l
 exact rule i j t t' s _ _ ⟨.bl (g i j),H,I,rfl,q⟩
def zIv (i j:Int):Prop:=0<j/\j<1073741824
def zAY (i j:Int):Prop:=(-(2^64)<i/\i<2^64)\/(-(2^64)<j/\j<2^64)
theorem zAY.ok {i j:Int}(h:zAY i j):IntMulOk i j:=by
 rcases h with⟨d,e⟩|⟨d,e⟩
 ·exact .of_left (nH d e)
 ·exact .of_right (nH d e)
theorem vB:z9 X (binaryOp .Add) (jS fun i j=>.int (i+j)):=zEc fun _ _ _ _ _ _ _ q=>add_int q
theorem zEd:z9 X (binaryOp .Sub) (jS fun i j=>.int (i-j)):=zEc fun _ _ _ _ _ _ _ q=>sub_int q
theorem u8:z9 X (binaryOp .Mult) (rI zAY fun i j=>.int (i*j)):=opI fun _ _ _ _ _ _ _ d q=>mul_int q d.ok
theorem zBI:z9 X (binaryOp .FloorDiv) (rI zIv fun i j=>.int (i/j)):=opI fun i j _ _ _ _ _ d q=>by
 have e:(0:Int)<j:=d.1
 have f:j<1073741824:=d.2
 exact floordiv_int (by omega) (by rw[f9 i (by omega)];exact q) (.inl (PyProof.noPylong_small (by omega)))
theorem jT:z9 X (binaryOp .Mod) (rI (fun _ j=>0<j) fun i j=>.int (i%j)):=opI fun i j _ _ _ _ _ d q=>by
 have e:(0:Int)<j:=d
 exact mod_int' (by omega) (by rw[Int.fmod_eq_emod_of_nonneg i (by omega)];exact q)
theorem unI {f:ae->Sem ae}{g:Int->Int}
  (rule:∀(i:Int) (t:Tok) (s:ah) (Q:ae->ah->Prop) (E:ae->ah->Prop),Q (.int (g i) s.toks) {s with toks:=s.toks+1}->wpAny (model X.prog X.w) X.A (f (.int i t)) Q E s) :
  UnR X f (rU fun i=>.int (g i)):=by
 intro d s σ H x v Q I e h
 obtain⟨i,rfl,q⟩:=h
 obtain⟨t,rfl⟩:=e
 exact rule i t s _ _ ⟨.int (g i),H,I.tok _,⟨_,rfl⟩,q⟩
theorem zEe:UnR X (unaryOp .USub) (rU fun i=>.int (-i)):=unI fun _ _ _ _ _ q=>neg_int q
end
def zEf:V->V->Bool
 | .non,.non=>true| .non,.int _=>true| .int _,.non=>true| .non,.bl _=>true| .bl _,.non=>true| .non,.str _=>true| .str _,.non=>true
 | .int _,.int _=>true| .bl _,.bl _=>true| .str _,.str _=>true| .byt _,.byt _=>true
 | .int _,.str _=>true| .str _,.int _=>true| .bl _,.str _=>true| .str _,.bl _=>true
 |_,_=>false
def rEq:R2:=fun x y H Q=>zEf x y=true/\Q (.bl (decide (x=y))) H
def rNe:R2:=fun x y H Q=>zEf x y=true/\Q (.bl (!decide (x=y))) H
theorem zEg {i j:Int}:decide (V.int i=V.int j)=(i==j):=by
 rw[eh]
 simp
theorem zEh {i j:Bool}:decide (V.bl i=V.bl j)=(i==j):=by
 rw[eh]
 simp
theorem zEi {i j:Str}:decide (V.str i=V.str j)=(i==j):=by
 rw[eh]
 simp
theorem zEj {i j:Array UInt8}:decide (V.byt i=V.byt j)=(i.toList==j.toList):=by
 rw[eh]
 cases i
 cases j
 simp
section
variable{X:Cx}{a b c:bq}{ta tb tc:TE}{pos:Pos}
theorem yU {d:List (af×Obj)}{σ:St}{H:Hp}{s:ah}{Q:VK}{k f:Bool}(I:Inv X d σ H s)(q:Q (.bl k) H)(e:k=f):EP X d σ Q (.bool f) s:=by
 subst e
 exact⟨.bl k,H,I,rfl,q⟩
theorem u9:z9 X (compareOp .Eq) rEq:=by
 intro g s σ H x y v u Q I f d h
 obtain⟨e,q⟩:=h
 cases x with
 |non=>
  cases f
  cases y with
  |non=>cases d;exact nj (yU I q (by simp))
  |bl j=>cases d;exact nq (yU I q (by simp))
  |int j=>obtain⟨t',rfl⟩:=d;exact nI (yU I q (by simp))
  |str j=>obtain⟨t',rfl⟩:=d;exact nJ (yU I q (by simp))
  |_=>exact absurd (show false=true from e) aC
 |bl i=>
  cases f
  cases y with
  |non=>cases d;exact nr (yU I q (by simp))
  |bl j=>cases d;exact eq_bool (yU I q zEh)
  |str j=>obtain⟨t',rfl⟩:=d;exact nu (yU I q (by simp))
  |_=>exact absurd (show false=true from e) aC
 |int i=>
  obtain⟨t,rfl⟩:=f
  cases y with
  |non=>cases d;exact nK (yU I q (by simp))
  |int j=>obtain⟨t',rfl⟩:=d;exact eq_int (yU I q zEg)
  |str j=>obtain⟨t',rfl⟩:=d;exact nL (yU I q (by simp))
  |_=>exact absurd (show false=true from e) aC
 |str i=>
  obtain⟨t,rfl⟩:=f
  cases y with
  |non=>cases d;exact nM (yU I q (by simp))
  |bl j=>cases d;exact nv (yU I q (by simp))
  |int j=>obtain⟨t',rfl⟩:=d;exact nN (yU I q (by simp))
  |str j=>obtain⟨t',rfl⟩:=d;exact eq_str (yU I q zEi)
  |_=>exact absurd (show false=true from e) aC
 |byt i=>
  obtain⟨t,rfl⟩:=f
  cases y with
  |byt j=>obtain⟨t',rfl⟩:=d;exact PySem.W.eq_bytes (yU I q zEj)
  |_=>exact absurd (show false=true from e) aC
 |_=>cases y<;>exact absurd (show false=true from e) aC
theorem zBJ:z9 X (compareOp .NotEq) rNe:=by
 intro g s σ H x y v u Q I f d h
 obtain⟨e,q⟩:=h
 cases x with
 |non=>
  cases f
  cases y with
  |non=>cases d;exact ny (yU I q (by simp))
  |bl j=>cases d;exact nA (yU I q (by simp))
  |int j=>obtain⟨t',rfl⟩:=d;exact nO (yU I q (by simp))
  |str j=>obtain⟨t',rfl⟩:=d;exact nP (yU I q (by simp))
  |_=>exact absurd (show false=true from e) aC
 |bl i=>
  cases f
  cases y with
  |non=>cases d;exact nB (yU I q (by simp))
  |bl j=>cases d;exact ne_bool (yU I q (congrArg not zEh))
  |str j=>obtain⟨t',rfl⟩:=d;exact nC (yU I q (by simp))
  |_=>exact absurd (show false=true from e) aC
 |int i=>
  obtain⟨t,rfl⟩:=f
  cases y with
  |non=>cases d;exact nQ (yU I q (by simp))
  |int j=>obtain⟨t',rfl⟩:=d;exact ne_int (yU I q (congrArg not zEg))
  |str j=>obtain⟨t',rfl⟩:=d;exact nR (yU I q (by simp))
  |_=>exact absurd (show false=true from e) aC
 |str i=>
  obtain⟨t,rfl⟩:=f
  cases y with
  |non=>cases d;exact nS (yU I q (by simp))
  |bl j=>cases d;exact nE (yU I q (by simp))
  |int j=>obtain⟨t',rfl⟩:=d;exact nT (yU I q (by simp))
  |str j=>obtain⟨t',rfl⟩:=d;exact ne_str (yU I q (congrArg not zEi))
  |_=>exact absurd (show false=true from e) aC
 |byt i=>
  obtain⟨t,rfl⟩:=f
  cases y with
  |byt j=>obtain⟨t',rfl⟩:=d;exact PySem.W.ne_bytes (yU I q (congrArg not zEj))
  |_=>exact absurd (show false=true from e) aC
 |_=>cases y<;>exact absurd (show false=true from e) aC
theorem zEk:z9 X (compareOp .Lt) (jS fun i j=>.bl (decide (i<j))):=zCV fun _ _ _ _ _ _ _ q=>lt_int q
theorem qA:z9 X (compareOp .LtE) (jS fun i j=>.bl (decide (i<=j))):=zCV fun _ _ _ _ _ _ _ q=>le_int q
theorem zBK:z9 X (compareOp .Gt) (jS fun i j=>.bl (decide (j<i))):=zCV fun _ _ _ _ _ _ _ q=>gt_int q
theorem zEl:z9 X (compareOp .In) (fun x y H Q=>∃i j,x=.str i/\y=.str j/\Q (.bl (!(cQ j i 0 j.length 1).isEmpty)) H):=by
 intro d s σ H x y v u Q I e f h
 obtain⟨i,j,rfl,rfl,q⟩:=h
 obtain⟨t,rfl⟩:=e
 obtain⟨t',rfl⟩:=f
 exact in_str (yU I q rfl)
theorem zIw:z9 X (compareOp .Is) (fun x y H Q=>y=.non/\Q (.bl (decide (x=.non))) H):=by
 intro d s σ H x y v u Q I e f h
 obtain⟨rfl,q⟩:=h
 cases f
 refine is_none_gen (yU I q ?_)
 cases x<;>first
  |(cases e;rfl)
  |(obtain⟨t,rfl⟩:=e;rfl)
theorem z9.or {f:ae->ae->Sem ae}{r e:R2}(h:z9 X f r)(h':z9 X f e):z9 X f (fun x y H Q=>r x y H Q\/e x y H Q):=by
 intro d s σ H x y v u Q I g i q
 rcases q with q|q
 ·exact h d s σ H x y v u Q I g i q
 ·exact h' d s σ H x y v u Q I g i q
theorem yZ (b:bq){op:mj}(h:op≠.In:=by decide)(d:op≠.NotIn:=by decide):behindInMarks op b=false:=by
 have e:(op==CmpOp.In)=false:=by cases op<;>first|rfl|exact absurd rfl h
 have f:(op==CmpOp.NotIn)=false:=by cases op<;>first|rfl|exact absurd rfl d
 cases b<;>simp[behindInMarks,e,f]
theorem zAZ {op:mj}{r:R2}(e:z9 X (compareOp op) r)(f:PE X a ta)(g:PE X b tb)(i:behindInMarks op b=false):PE X (.Compare a [op] [b] pos) (gQ r ta tb):=by
 intro d s σ H Q I h
 exact mO (zCU f g I h fun v u j x y l m n o q=>e d j σ l x y v u Q m n o q) i
def zEm (t:TE):TT:=fun σ H Q=>t σ H fun x H'=>∃k,x=.bl k/\Q k H'
theorem yM {op:mj}{r:R2}(f:z9 X (compareOp op) r)(g:PE X a ta)(i:PE X b tb)(j:behindInMarks op b=false):PT X (.Compare a [op] [b] pos) (zEm (gQ r ta tb)):=by
 intro d s σ H Q I h
 refine iK (zK (g d s σ H _ I h) fun v l ⟨x,m,n,o,p⟩=>zK (i d l σ m _ n p) fun u q ⟨y,t,w,A,B⟩=>
  zK (f d q σ t x y v u _ w o A B) fun c G ⟨z,C,D,E,k,e,F⟩=>?_) j
 subst e
 cases E
 exact cA ⟨C,D,F⟩
def zEn (r r':R2)(ta tb tc:TE):TE:=fun σ H Q=>ta σ H fun x H1=>tb σ H1 fun y H2=>r x y H2 fun z H3=>∃k,z=.bl k/\
 (if k=true then tc σ H3 fun w' H4=>r' y w' H4 Q else Q (.bl false) H3)
theorem zEo {op g:mj}{r j:R2}(p:z9 X (compareOp op) r)(i:z9 X (compareOp g) j)(q:PE X a ta)(t:PE X b tb)(w:PE X c tc)
  (A:lastMarks [op,g] [b,c]=false:=by with_unfolding_all rfl):PE X (.Compare a [op,g] [b,c] pos) (zEn r j ta tb tc):=by
 intro f s σ H Q I h
 refine Compare_chain (zK (q f s σ H _ I h) fun v B ⟨x,C,D,E,F⟩=>chain_link (zK (t f B σ C _ D F) fun u G ⟨y,J,L,l,M⟩=>
  zK (p f G σ J x y v u _ L E l M) fun d N ⟨z,m,n,O,k,e,o⟩=>?_)) A
 subst e
 cases O
 refine cA ?_
 cases k with
 |false=>exact ite_ff ⟨.bl false,m,n,rfl,o⟩
 |true=>exact ite_tt (chain_last (zK (w f N σ m _ n o) fun P R ⟨T,U,W,Y,Z⟩=>i f R σ U y T u P Q W l Y Z))
theorem zBL {op g:mj}{r j:R2}(p:z9 X (compareOp op) r)(i:z9 X (compareOp g) j)(q:PE X a ta)(t:PE X b tb)(w:PE X c tc)
  (A:lastMarks [op,g] [b,c]=false:=by with_unfolding_all rfl):PT X (.Compare a [op,g] [b,c] pos) (zEm (zEn r j ta tb tc)):=by
 intro f s σ H Q I h
 refine isTrue_chain (zK (q f s σ H _ I h) fun v B ⟨x,C,D,E,F⟩=>test_link (zK (t f B σ C _ D F) fun u G ⟨y,J,L,l,M⟩=>
  zK (p f G σ J x y v u _ L E l M) fun d N ⟨z,m,n,O,k,e,o⟩=>?_)) A
 subst e
 cases O
 refine cA ?_
 cases k with
 |false=>
  obtain⟨k',P,R⟩:=o
  cases P
  exact ite_ff ⟨m,n,R⟩
 |true=>
  refine ite_tt (test_last (zK (w f N σ m _ n o) fun T U ⟨W,Y,Z,r4,q4⟩=>zK (i f U σ Y y W u T _ Z l r4 q4) fun d' s5 ⟨z2,H5,I5,r5,k2,e2,q5⟩=>?_))
  subst e2
  cases r5
  exact cA ⟨H5,I5,q5⟩
theorem gR:(sizeLine:Nat)<2^63:=by rw[aP];decide
theorem qL {x:V}{us:List ae}(r:zL [x] us):∃u,us=[u]/\zQ x u:=by
 cases r with
 |cons d e=>cases e;exact⟨_,rfl,d⟩
theorem zAa {x y:V}{us:List ae}(r:zL [x,y] us):∃u d,us=[u,d]/\zQ x u/\zQ y d:=by
 cases r with
 |cons e f=>
  cases f with
  |cons g h=>cases h;exact⟨_,_,rfl,e,g⟩
theorem zCW (f:X.calm=true):uQ X (.builtin "max") (fun xs H Q=>∃i j,xs=[.int i,.int j]/\Q (.int (if j>i then j else i)) H):=by
 intro e s σ H xs us Q I r h
 obtain⟨i,j,rfl,q⟩:=h
 obtain⟨u,g,rfl,⟨t,rfl⟩,⟨t',rfl⟩⟩:=zAa r
 refine max_two_ints (I.ok.hd f) fun h' l k=>⟨_,H,I.kept k,?_,q⟩
 by_cases d:j>i
 ·rw[if_pos d,if_pos d];exact⟨_,rfl⟩
 ·rw[if_neg d,if_neg d];exact⟨_,rfl⟩
theorem zEp (f:X.calm=true):uQ X (.builtin "min") (fun xs H Q=>∃i j,xs=[.int i,.int j]/\Q (.int (if j<i then j else i)) H):=by
 intro e s σ H xs us Q I r h
 obtain⟨i,j,rfl,q⟩:=h
 obtain⟨u,g,rfl,⟨t,rfl⟩,⟨t',rfl⟩⟩:=zAa r
 refine min_two_ints (I.ok.hd f) fun h' l k=>⟨_,H,I.kept k,?_,q⟩
 by_cases d:j<i
 ·rw[if_pos d,if_pos d];exact⟨_,rfl⟩
 ·rw[if_neg d,if_neg d];exact⟨_,rfl⟩
theorem zIx:uQ X (.type "int") (fun xs H Q=>(∃i,xs=[.int i]/\Q (.int i) H)\/∃k,xs=[.bl k]/\Q (.int (if k then 1 else 0)) H):=by
 intro d s σ H xs us Q I r h
 rcases h with⟨i,rfl,q⟩|⟨k,rfl,q⟩
 ·obtain⟨u,rfl,t,rfl⟩:=qL r
  exact call_int_int ⟨.int i,H,I,⟨_,rfl⟩,q⟩
 ·obtain⟨u,rfl,e⟩:=qL r
  cases e
  exact call_int_bool ⟨.int (if k then 1 else 0),H,I.tok _,⟨_,rfl⟩,q⟩
end
structure ObjM (h:bc) (x dx C:af) (mA:Str->Option ae):Prop where
 obj:h.get? x=some (cX C dx)
 ns:h.Ns1 dx mA
 ne:dx≠x
theorem zIy {h:bc}{c:af}{d:Str->Option ae}(n:h.Ns1 c d):∃od,h.get? c=some od/\∀name,gc name od=some (d name):=by
 obtain⟨o,f,ep,g,hd,i,_,j⟩:=n
 refine⟨o,g,fun name=>?_⟩
 have e:=j name
 unfold nsFind findBy at e
 rw[<-Array.find?_toList]at e
 unfold gc
 rw[hd]
 dsimp only
 split
 ·rename_i y q
  rw[q]at e
  exact congrArg some e
 ·rename_i q
  rw[q]at e
  have a:f.toList.any (·.refKey)=false:=by
   rw[List.any_eq_false]
   intro y l
   obtain⟨z,t,b⟩:=i y (Array.mem_toList_iff.mp l)
   simp[pC,b]
  have m:¬f.toList.any (·.refKey)=true:=by rw[a];exact aC
  rw[if_neg m]
  exact congrArg some e
theorem ObjM.look {h:bc}{x a C:af}{b:Str->Option ae}(I:ObjM h x a C b):∃od,PySem.W.InstAt h x (cX C a) C (some od)/\∀name,gc name od=some (b name) :=
 let⟨od,c,hl⟩:=zIy I.ns
 ⟨od,⟨I.obj,rfl,rfl,c⟩,hl⟩
section
variable{prog:aw}{w:aI}{A:bB}{E:ae->ah->Prop}{s:ah}{K:aa}{x dx C f:af}{mA:Str->Option ae}{name:Str}{v:ae}
theorem zIz {expr:Bool}{Q:ae->ah->Prop}(X:K.In s.heap)(I:ObjM s.heap x dx C mA)(b:fi K C name=true)(c:gr K C=true)
  (d:bf K (.ref C) name=some none) (e:mA name=some v) (a:lP v=true) (h:Q v {s with toks:=s.toks+1}) :
  wpAny (model prog w) A (getAttr (.ref x) name expr) Q E s:=by
 obtain⟨od,J,hl⟩:=I.look
 exact PySem.W.get_value X J (fN b).1 (PySem.W.findObj_own c d rfl (by rw[hl,e])) a h
theorem zJA {pl:Sem Bool}{Q:ae×List ae->ah->Prop}(X:K.In s.heap)(I:ObjM s.heap x dx C mA)(a:fi K C name=true)
  (b:bf K (.ref C) name=some (some (.ref f))) (c:ik K (.ref f)=true) (d:mA name=none) (h:Q (.ref f,[.ref x]) s) :
  wpAny (model prog w) A (getMethod (.ref x) name pl) Q E s:=by
 obtain⟨od,J,hl⟩:=I.look
 exact PySem.W.method_fn X J (fN a).1 (fN a).2 b (beq_iff_eq.mp c) (by show(gc name od).map (·.isSome)=some false;rw[hl,d];rfl) h
theorem zJB {ns:List Str}{Q:Unit->ah->Prop}(X:K.In s.heap)(I:ObjM s.heap x dx C mA)
  (l:bf K (.ref C) "__setattr__"=some (some (.builtin "object.__setattr__"))) (m:kh K C=true) (n:iE K C name=some none) (o:gr K C=true)
  (p:kc mA ns) (hsz:ns.length<=sizeLine)
  (h:∀h',ObjM h' x dx C (fun y=>if y=name then some v else mA y)->fR dx s.heap h'->Q () {s with heap:=h',toks:=s.toks+2}) :
  wpAny (model prog w) A (setAttr (.ref x) name v) Q E s:=by
 obtain⟨od,J,hl⟩:=I.look
 refine PySem.W.set_plain X J l (PySem.W.osa_open (s:={s with toks:=s.toks+1}) (r:=none) X J m n fun b=>?_)
 obtain⟨B,q,e⟩:=PySem.W.any_some o
 have t:s.heap.get? x=some ⟨.ref C,some dx,.plain,#[]⟩:=I.obj
 refine aE (bw (aE (aE (mQ t (aE (o9 (s:={s with toks:=s.toks+1}) (PySem.W.looks_clsIn X q) ?_))))))
 rw[e]
 refine bw (a:=some dx) (aE (bw (aE ?_)))
 refine wpAny_nsSet1 (s:={s with toks:=s.toks+1}) I.ns fun h' c d=>?_
 obtain⟨D,u,z,g,i,j⟩:=c.count (pq name v p)
 refine aE (wpAny_lookBehind g (by rw[i];exact pastItsLine_dict (bV j (by rw[aR];omega))) ?_)
 exact bw (h _ ⟨(d.2 _ (dG I.ne)).trans I.obj,c,I.ne⟩ d)
theorem zJC {R:Result->ah->Prop}{vs:List ae}{a:List (Str×ae)}(X:K.In s.heap)(b:iF K C=true)
  (hi:bf K (.ref C) "__init__"=some (some (.ref f))) (c:PySem.W.typeIn K (.ref f)=some (.type "function"))
  (h:codeAny (model prog w) (A.under (.builtin "type.__call__" ⟨.ref C::vs,a⟩)) (.call (.ref f) ⟨.ref (s.heap.objs.size+1)::vs,a⟩) (PySem.W.InitBack (s.heap.objs.size+1) R)
   {s with heap:=(s.heap.push cu).push (cX C s.heap.objs.size)}) :
  codeAny (model prog w) A (.call (.ref C) ⟨vs,a⟩) R s:=by
 obtain⟨e,g,d,t,os⟩:=s
 exact PySem.W.make_core (PySem.W.makes_of X b) (iU X hi) (fun self=>PySem.W.bind_fn X self c) (.inl rfl) h
end
def vK (f:Str)(v:V):List (Str×V)->List (Str×V)
 | []=>[(f,v)]
 |(g,x)::r=>if g=f then(g,v)::r else(g,x)::vK f v r
theorem zEq (f g:Str)(v:V):∀fs:List (Str×V),(vK f v fs).lookup g=if g=f then some v else fs.lookup g
 | []=>by
  show eI g [(f,v)]=_
  by_cases h:g=f
  ·have a:(g==f)=true:=beq_iff_eq.mpr h
   simp only[eI,a,if_pos h]
  ·have a:(g==f)=false:=beq_eq_false_iff_ne.mpr h
   simp only[eI,a,if_neg h]
 |(k,x)::r=>by
  have ih:=zEq f g v r
  rw[show vK f v ((k,x)::r)=(if k=f then(k,v)::r else(k,x)::vK f v r)from rfl]
  by_cases b:k=f
  ·rw[if_pos b]
   by_cases h:g=k
   ·have a:(g==k)=true:=beq_iff_eq.mpr h
    simp only[eI,a,if_pos (h.trans b)]
   ·have a:(g==k)=false:=beq_eq_false_iff_ne.mpr h
    simp only[eI,a,if_neg (fun e:g=f=>h (e.trans b.symm))]
  ·rw[if_neg b]
   by_cases h:g=k
   ·have a:(g==k)=true:=beq_iff_eq.mpr h
    simp only[eI,a,if_neg (fun e:g=f=>b (h.symm.trans e))]
   ·have a:(g==k)=false:=beq_eq_false_iff_ne.mpr h
    simp only[eI,a]
    exact ih
theorem zCX (f:Str)(v:V):∀fs:List (Str×V),f∈(vK f v fs).map (·.1)/\∀g,g∈fs.map (·.1)->g∈(vK f v fs).map (·.1)
 | []=>⟨by simp[vK],fun g h=>by simp at h⟩
 |(k,x)::r=>by
  obtain⟨b,c⟩:=zCX f v r
  rw[show vK f v ((k,x)::r)=(if k=f then(k,v)::r else(k,x)::vK f v r)from rfl]
  by_cases a:k=f
  ·rw[if_pos a]
   subst a
   exact⟨by simp,fun g h=>by simpa using h⟩
  ·rw[if_neg a]
   refine⟨?_,fun g h=>?_⟩
   ·rw[aF]
    exact au _ b
   ·rw[aF]at h⊢
    rcases aJ.mp h with e|e
    ·exact aJ.mpr (.inl e)
    ·exact au _ (c g e)
theorem zEr (f:Str)(v:V):∀fs:List (Str×V),(vK f v fs).length<=fs.length+1
 | []=>by simp[vK]
 |(k,x)::r=>by
  have ih:=zEr f v r
  rw[show vK f v ((k,x)::r)=(if k=f then(k,v)::r else(k,x)::vK f v r)from rfl]
  by_cases a:k=f
  ·rw[if_pos a,aR,aR];omega
  ·rw[if_neg a,aR,aR];omega
theorem vQ.some_of {v:V}{o:Option ae}(r:vQ (some v) o):∃u,o=some u/\zQ v u:=by
 cases o with
 |none=>exact(show False from r).elim
 |some u=>exact⟨u,rfl,r⟩
theorem vQ.none_of {o:Option ae}(r:vQ none o):o=none:=by
 cases o with
 |none=>rfl
 |some u=>exact(show False from r).elim
theorem zJD {v:V}{u:ae}(r:zQ v u):lP u=true:=by
 cases v with
 |non=>cases(show u=Value.none from r);rfl
 |bl b=>cases(show u=Value.bool b from r);rfl
 |int i=>obtain⟨t,e⟩:=(show∃t,u=Value.int i t from r);cases e;rfl
 |str x=>obtain⟨t,e⟩:=(show∃t,u=Value.str x t from r);cases e;rfl
 |byt b=>obtain⟨t,e⟩:=(show∃t,u=Value.bytes b t from r);cases e;rfl
 |flt b=>obtain⟨t,e⟩:=(show∃t,u=Value.float b t from r);cases e;rfl
 |ref a=>cases(show u=Value.ref a from r);rfl
 |ty n=>cases(show u=Value.type n from r);rfl
section
variable{P:aw}{w:aI}{H H':Hp}{h h':bc}{a C dx:af}{fs fs':List (Str×V)}
theorem zBM (hok:z4 P w H h)(e:H a=some (.ins C dx fs)):∃b,ObjM h a dx C b/\(∀f,vQ (fs.lookup f) (b f))/\kc b (fs.map (·.1))/\fs.length<=1000/\H dx=some (.own a):=by
 obtain⟨d,z,ne,c,b,n,r,q⟩:=(show yT P w H h a (.ins C dx fs)from hok a _ e)
 exact⟨b,⟨c,n,ne⟩,r,q,z,d⟩
end
structure Cls (K:aa) (C:af):Prop where
 pg:fi K C pD=true
 hd:gr K C=true
 po:kh K C=true
 sa:bf K (.ref C) "__setattr__"=some (some (.builtin "object.__setattr__"))
theorem Cls.get {K:aa}{C:af}(c:Cls K C)(f:Str):fi K C f=true:=c.pg
def qU (K:aa)(C:af)(f:Str):Prop:=bf K (.ref C) f=some none
theorem qU.taker {K:aa}{C:af}{f:Str}(n:qU K C f):iE K C f=some none:=by
 unfold iE
 rw[show bf K (.ref C) f=some none from n]
 rfl
structure Meth (K:aa) (C:af) (m:Str) (f:af):Prop where
 at_:bf K (.ref C) m=some (some (.ref f))
 fn:ik K (.ref f)=true
 kp:bP K (.ref f)=true
section
variable{X:Cx}{pins:List (af×Obj)}{σ:St}{H:Hp}{s:ah}{a C dx:af}{fs:List (Str×V)}{f:Str}{v:V}{A:bB}{E:ae->ah->Prop}
theorem zJE {b:Bool}{Q:ae->ah->Prop}(I:Inv X pins σ H s)(e:H a=some (.ins C dx fs))(c:Cls X.K C)(n:qU X.K C f)(l:fs.lookup f=some v)
  (h:∀u s',Inv X pins σ H s'->zQ v u->Q u s'):wpAny (model X.prog X.w) A (getAttr (.ref a) f b) Q E s:=by
 obtain⟨g,O,r,_,_,_⟩:=zBM I.hok e
 obtain⟨u,i,d⟩:=vQ.some_of (v:=v) (o:=g f) (by rw[<-l];exact r f)
 exact zIz I.kIn O (c.get f) c.hd n i (zJD d) (h u _ (I.tok _) d)
theorem zEs {m:Str}{g:af}{pl:Sem Bool}{Q:ae×List ae->ah->Prop}(I:Inv X pins σ H s)(e:H a=some (.ins C dx fs))(c:Cls X.K C)(k:Meth X.K C m g)(l:fs.lookup m=none)
  (h:Q (.ref g,[.ref a]) s):wpAny (model X.prog X.w) A (getMethod (.ref a) m pl) Q E s:=by
 obtain⟨b,O,r,_,_,_⟩:=zBM I.hok e
 have d:b m=none:=vQ.none_of (by rw[<-l];exact r m)
 exact zJA I.kIn O (c.get m) k.at_ k.fn d h
theorem zJF {y:V}{u:ae}{Q:Unit->ah->Prop}(I:Inv X pins σ H s)(e:H a=some (.ins C dx fs))(c:Cls X.K C)(n:qU X.K C f)(hl:fs.length<1000)(m:zQ y u)
  (h:∀s',Inv X pins σ (upd H a (.ins C dx (vK f y fs))) s'->Q () s'):wpAny (model X.prog X.w) A (setAttr (.ref a) f u) Q E s:=by
 obtain⟨i,O,r,j,_,l⟩:=zBM I.hok e
 have p:(fs.map (·.1)).length<=sizeLine:=by rw[ai,aP];omega
 refine zJB I.kIn O c.sa c.po n.taker c.hd j p fun h' d t=>h _ ?_
 have hd:∃o,h'.get? dx=some o:=let⟨o,_,_,B,_⟩:=d.ns;⟨o,B⟩
 refine I.write (x:=a) (e:=dx) (by rw[e];exact True.intro) (.inr l) (fun b q D z=>(t.2 b D).trans z) hd ?_
 refine⟨by rw[zJ O.ne];exact l,?_,O.ne,d.obj,_,d.ns,fun g=>?_,fun g F=>?_⟩
 ·have:=zEr f y fs;omega
 ·show vQ ((vK f y fs).lookup g) (if g=f then some u else i g)
  rw[zEq]
  by_cases q:g=f
  ·rw[if_pos q,if_pos q];exact m
  ·rw[if_neg q,if_neg q];exact r g
 ·by_cases q:g=f
  ·rw[q];exact(zCX f y fs).1
  ·refine(zCX f y fs).2 g (j g fun z=>F ?_)
   show(if g=f then some u else i g)=none
   rw[if_neg q];exact z
theorem Inv.made (I:Inv X pins σ H s):Inv X pins σ (upd (upd H s.heap.objs.size (.own (s.heap.objs.size+1))) (s.heap.objs.size+1) (.ins C s.heap.objs.size []))
  {s with heap:=(s.heap.push cu).push (cX C s.heap.objs.size)}:=by
 have c:(s.heap.push cu).get? s.heap.objs.size=some cu:=aZ s.heap rfl
 have d:((s.heap.push cu).push (cX C s.heap.objs.size)).get? (s.heap.objs.size+1)=some (cX C s.heap.objs.size):=by
  have:=aZ (s.heap.push cu) (o:=cX C s.heap.objs.size) rfl
  rwa [iV]at this
 have g:(s.heap.push cu).Ns s.heap.objs.size (fun _=>none):=⟨cu,#[],_,c,rfl,(fun e he=>absurd he (by simp)),fun _=>rfl⟩
 have h:=I.laid (a:=s.heap.objs.size) (o:=.own (s.heap.objs.size+1)) (h':=s.heap.push cu) (t':=s.toks) (fun b u q=>ao _ q) (ay _) ⟨_,c⟩
 refine h.laid (a:=s.heap.objs.size+1) (o:=.ins C s.heap.objs.size []) (t':=s.toks) (fun b u q=>ao _ q) (dQ (iV _ _)) ?_
 have ne:s.heap.objs.size≠s.heap.objs.size+1:=br (dR _)
 refine⟨by rw[zJ ne,zH],bJ _,ne,d,fun _=>none,(Heap.Ns1.of_empty g).at fun o q=>ao _ q,fun _=>True.intro,fun y i=>absurd rfl i⟩
theorem zJG {prog:aw}{w:aI}{env:Env}{e:bq}{f:Str}{pos:Pos}{s:ah}{Q:ae->ah->Prop}(b:attributeBase e f env (eval e env)=eval e env)
  (h:wpAny (model prog w) A (eval e env) (fun o c=>wpAny (model prog w) A (getAttr o f true) Q E c) E s):wpAny (model prog w) A (eval (.Attribute e f pos) env) Q E s :=
 Attribute_any_ h (by rw[arm_eval_Attribute,b])
end
def zEt (K:aa)(ta:TE)(f:Str):TE:=fun σ H Q=>ta σ H fun x H1=>∃a C dx fs v,x=.ref a/\H1 a=some (.ins C dx fs)/\Cls K C/\qU K C f/\fs.lookup f=some v/\Q v H1
def zJH (K:aa)(ta tv:TE)(f:Str):TS:=fun D σ H=>tv σ H fun y H1=>ta σ H1 fun x H2=>∃a C dx fs,x=.ref a/\H2 a=some (.ins C dx fs)/\Cls K C/\qU K C f/\fs.length<1000/\
 D.nx σ (upd H2 a (.ins C dx (vK f y fs)))
section
variable{X:Cx}{o e value:bq}{f:Str}{pos pos' tpos:Pos}{ta tv:TE}
theorem qB (he:PE X e ta)(d:attributeBase e f X.env (eval e X.env)=eval e X.env):PE X (.Attribute e f pos) (zEt X.K ta f):=by
 intro b s σ H Q I h
 refine zJG d (zK (he b s σ H _ I h) fun u t ⟨x,g,i,j,a,C,w,fs,v,ex,m,c,n,l,q⟩=>?_)
 subst ex
 obtain rfl:u=Value.ref a:=j
 exact zJE i m c n l fun y z p r=>⟨v,g,p,r,q⟩
theorem gT (d:PE X o ta)(g:PE X value tv)(i:swapsWith value (some (.Attribute o f pos')) pos.line X.env=pure false):PS X (.Assign [.Attribute o f pos'] value pos) (zJH X.K ta tv f):=by
 intro b s σ H D I h
 refine plainObj_wpAny_Assign_Attribute (zK (g b s σ H _ I h) fun u j ⟨y,m,p,r,q⟩=>zK (d b j σ m _ p q) fun t E ⟨x,F,v,w,a,C,G,fs,ex,z,c,n,l,A⟩=>?_) i
 subst ex
 obtain rfl:t=Value.ref a:=w
 exact zJF v z c n l r fun J B=>⟨σ,_,B,A⟩
end
section
variable{X:Cx}{pins:List (af×Obj)}{σ:St}{H:Hp}{s:ah}{A:bB}{E:ae->ah->Prop}{Q:ae->ah->Prop}{c:ae}{b:Bool}
inductive TyOf (K:aa) (H:Hp):V->ae->Prop where
 |non:TyOf K H .non (.type "NoneType")
 |bl (x:Bool):TyOf K H (.bl x) (.type "bool")
 |int (i:Int):TyOf K H (.int i) (.type "int")
 |str (x:Str):TyOf K H (.str x) (.type "str")
 |flt (x:UInt64):TyOf K H (.flt x) (.type "float")
 |lst {a:af} {xs:List V} (e:H a=some (.lst xs)):TyOf K H (.ref a) (.type "list")
 |frz {a:af} {o:Obj} {xs:List V} (e:H a=some (.frz o (.lst xs))):TyOf K H (.ref a) (.type "list")
 |tup {a:af} {xs:List V} (e:H a=some (.tup xs)):TyOf K H (.ref a) (.type "tuple")
 |dK {a:af} {kvs:List (zX×V)} (e:H a=some (.dK kvs)):TyOf K H (.ref a) (.type "dict")
 |dT {a:af} {kvs:List (List yS×V)} (e:H a=some (.dT kvs)):TyOf K H (.ref a) (.type "dict")
 |ins {a C dx:af} {fs:List (Str×V)} (e:H a=some (.ins C dx fs)) (cl:Cls K C) (ha:bf K (.ref C) "__class__"=some (some (.builtin "object.__class__")))
   (hn:gs K (.builtin "object.__class__") "__get__"=some (some (.builtin "getset_descriptor.__get__"))) (htk:PySem.W.takesIn K (.builtin "object.__class__")=some true)
   (hm:jn K C (.type "object")=some true):TyOf K H (.ref a) (.ref C)
theorem zJI {x:V}{u t:ae}(I:Inv X pins σ H s)(d:zQ x u)(ty:TyOf X.K H x t)(e:aS X.K t c=some b)(h:∀m,Q (.bool b) {s with toks:=m}) :
  wpAny (model X.prog X.w) A (call (.builtin "isinstance") [u,c]) Q E s:=by
 cases ty with
 |non=>cases(show u=Value.none from d);exact bY PySem.W.kitx_none I.kIn True.intro e (fun z=>nomatch z) h
 |bl y=>cases(show u=Value.bool y from d);exact bY PySem.W.kitx_bool I.kIn True.intro e (fun z=>nomatch z) h
 |int i=>obtain⟨t,q⟩:=(show∃t,u=Value.int i t from d);cases q;exact bY PySem.W.kitx_int I.kIn True.intro e (fun z=>nomatch z) h
 |str y=>obtain⟨t,q⟩:=(show∃t,u=Value.str y t from d);cases q;exact bY PySem.W.kitx_str I.kIn True.intro e (fun z=>nomatch z) h
 |flt y=>obtain⟨t,q⟩:=(show∃t,u=Value.float y t from d);cases q;exact bY PySem.W.kitx_float I.kIn True.intro e (fun z=>nomatch z) h
 | @lst a xs f=>
  cases(show u=Value.ref a from d)
  obtain⟨_,_,n,_,g⟩:=(show yT X.prog X.w H s.heap a (.lst xs)from I.hok a _ f)
  exact bY ki I.kIn ⟨_,g,rfl⟩ e (fun z=>nomatch z) h
 | @frz a r xs f=>
  cases(show u=Value.ref a from d)
  obtain⟨_,_,_,n,_,g⟩:=(show yT X.prog X.w H s.heap a (.frz r (.lst xs))from I.hok a _ f)
  exact bY ki I.kIn ⟨_,g,rfl⟩ e (fun z=>nomatch z) h
 | @tup a xs f=>
  cases(show u=Value.ref a from d)
  obtain⟨_,_,_,p⟩:=(show yT X.prog X.w H s.heap a (.tup xs)from I.hok a _ f)
  obtain⟨o,g,j,_⟩:=p
  exact bY PySem.W.kitx_tuple I.kIn ⟨o,g,j⟩ e (fun z=>nomatch z) h
 | @dK a kvs f=>
  cases(show u=Value.ref a from d)
  obtain⟨_,_,vs,_,p⟩:=(show yT X.prog X.w H s.heap a (.dK kvs)from I.hok a _ f)
  obtain⟨o,v,ep,g,j,_⟩:=p
  exact bY kj I.kIn ⟨o,g,j.1⟩ e (fun z=>nomatch z) h
 | @dT a kvs f=>
  cases(show u=Value.ref a from d)
  obtain⟨_,_,xs,_,o,v,ep,g,j,_⟩:=(show yT X.prog X.w H s.heap a (.dT kvs)from I.hok a _ f)
  exact bY kj I.kIn ⟨o,g,j.1⟩ e (fun z=>nomatch z) h
 | @ins a C G fs f cl B D l F=>
  cases(show u=Value.ref a from d)
  obtain⟨L,O,_⟩:=zBM I.hok f
  obtain⟨od,J,_⟩:=O.look
  exact bY (PySem.W.kitx_own (cl.get _) cl.hd B D l F) I.kIn J e (fun z=>nomatch z) h
end
structure Room (k:Nat) (A:bB):Prop where
 hd:A.handled=none
 dp:A.depth+3*k+5<recursionLimit
 un:A.units+16*k+200<cLine
theorem Room.mono {j k:Nat}{A:bB}(r:Room k A)(h:j<=k):Room j A:=⟨r.hd,by have:=r.dp;omega,by have:=r.un;omega⟩
theorem Room.deeper {k:Nat}{A:bB}(r:Room (k+1) A)(env:Env):Room k (A.deeper env) :=
 ⟨r.hd,by have:=r.dp;show A.depth+1+3*k+5<_;omega,by have:=r.un;show A.units+3+16*k+200<_;omega⟩
theorem Room.in1 {k:Nat}{A:bB}(r:Room (k+1) A):Room k A.in1 :=
 ⟨r.hd,by have:=r.dp;show A.depth+3*k+5<_;omega,by have:=r.un;show A.units+1+16*k+200<_;omega⟩
theorem zJJ {A:bB}{C:af}{us:List ae}{a:List (Str×ae)}:(A.under (.builtin "type.__call__" ⟨.ref C::us,a⟩)).depth=A.depth+1:=by
 first|rfl|simp[kl,Code.weight,Code.isCreation,Code.isGuard,Code.isCaller,oO,km,guardIds]
theorem zJK {A:bB}{C:af}{us:List ae}{a:List (Str×ae)}:(A.under (.builtin "type.__call__" ⟨.ref C::us,a⟩)).units=A.units+1:=by
 first|rfl|simp[kl,Code.cUnits,oO,km]
theorem Room.make {k:Nat}{A:bB}(r:Room (k+1) A)(C:af)(us:List ae)(a:List (Str×ae)):Room k (A.under (.builtin "type.__call__" ⟨.ref C::us,a⟩)) :=
 ⟨r.hd,by have:=r.dp;rw[zJJ];omega,by have:=r.un;rw[zJK];omega⟩
theorem Room.depth {k:Nat}{A:bB}(r:Room k A):A.depth<recursionLimit:=by have:=r.dp;omega
theorem Room.units {k:Nat}{A:bB}(r:Room k A):A.units+64<cLine:=by have:=r.un;omega
def qV:TA:=fun _ H Q=>Q [] H
def kI (ta:TE)(tr:TA):TA:=fun σ H Q=>ta σ H fun x H1=>tr σ H1 fun xs H2=>Q (x::xs) H2
section
variable{X:Cx}{e:bq}{es:List bq}{te:TE}{t:TA}{pos:Pos}
theorem zC:PA X [] qV:=fun _ _ _ _ H Q I h=>gu ⟨[],H,I,.nil,h⟩
theorem zA (b:PE X e te)(c:PA X es t)(d:starEach (e::es) X.env=(false,eval e X.env)::starEach es X.env:=by rfl):PA X (e::es) (kI te t):=by
 intro pos a s σ H Q I h
 rw[d]
 show wpAny _ _ (spliced ((false,eval e X.env)::backTo pos (starEach es X.env))) _ _ s
 refine eo (zK (b a s σ H _ I h) fun u f ⟨x,g,i,j,l⟩=>?_)
 exact zK (c pos a f σ g _ i l) fun us q ⟨xs,m,n,o,p⟩=>⟨x::xs,m,n,.cons j o,p⟩
def zEu (t:TA):TE:=fun σ H Q=>t σ H fun xs H1=>xs.length<=sizeLine/\∀p,H1 p=none->Q (.ref p) (upd H1 p (.tup xs))
def zJL (t:TA):TE:=fun σ H Q=>t σ H fun xs H1=>xs.length<=sizeLine/\∀p,H1 p=none->Q (.ref p) (upd H1 p (.lst xs))
theorem y6 {g}(h:PA X es t):PE X (.Tuple es g pos) (zEu t):=by
 intro a s σ H Q I i
 refine wpAny_Tuple_spliced (zK (h pos a s σ H _ I i) fun us c ⟨xs,d,f,r,z,q⟩=>⟨by rw[<-r.length];exact z,?_⟩)
 have j:d c.heap.objs.size=none:=f.hok.fresh (ay _)
 refine⟨.ref c.heap.objs.size,upd d c.heap.objs.size (.tup xs),f.laid (t':=c.toks) (fun b u e=>ao _ e) (ay _) ?_,rfl,q _ j⟩
 exact⟨z,us,r,⟨_,aZ _ rfl,rfl,_,rfl⟩⟩
theorem uR (h:PA X es t):PE X (.List es pos) (zJL t):=by
 intro a s σ H Q I g
 refine wpAny_List_spliced (zK (h pos a s σ H _ I g) fun us c ⟨xs,d,f,r,z,q⟩=>⟨by rw[<-r.length];exact z,?_⟩)
 have i:d c.heap.objs.size=none:=f.hok.fresh (ay _)
 refine⟨.ref c.heap.objs.size,upd d c.heap.objs.size (.lst xs),f.laid (t':=c.toks) (fun b u e=>ao _ e) (ay _) ?_,rfl,q _ i⟩
 exact⟨z,us,0,r,aZ _ rfl⟩
end
abbrev Sp:=List V->Hp->VK->XK->Prop
abbrev vV:=List Env->Hp->ah->XK->ae->ah->Prop
structure Env0 (P:aw) (w:aI) (K:aa) (mg:Str->Option ae) (base:bc) (A:bB) (outer:List Env) (s:ah) (H:Hp):Prop where
 frames:A.frames=some outer
 mod:Mod K mg base
 bs:∀b o,base.get? b=some o->s.heap.get? b=some o/\H b=none
 bsz:base.objs.size<=s.heap.objs.size
 funs:s.heap.FunFrames base outer
 frf:∀b∈yW outer,H b=none
 hok:z4 P w H s.heap
 bare:fP s.gens
def CE (outer:List Env)(P:aw)(w:aI)(H:Hp)(s:ah)(Q:VK)(u:ae)(s':ah):Prop :=
 ∃v H',s'.os=s.os/\fP s'.gens/\Un (yW outer) [] H H' s.heap s'.heap/\z4 P w H' s'.heap/\zQ v u/\Q v H'
def CR (CX:vV)(outer:List Env)(P:aw)(w:aI)(H:Hp)(s:ah)(Q:VK)(E:XK)(r:Result)(s':ah):Prop :=
 match r with
 | .ok (.ret u)=>CE outer P w H s Q u s'
 | .ok _=>False
 | .error e=>CX outer H s E e s'
structure FnOk (P:aw) (w:aI) (K:aa) (mg:Str->Option ae) (base:bc) (CX:vV) (k:Nat) (f:af) (fd:ar) (ps:List Str) (sp:Sp):Prop where
 len:∀vs H Q E,sp vs H Q E->vs.length=ps.length
 run:∀(A:bB) (outer:List Env) (s:ah) (H:Hp) (args:Args) (us:List ae) (vs:List V) (Q:VK) (E:XK),Room k A->Env0 P w K mg base A outer s H->jb s fd args (ps.zip us)->zL vs us->sp vs H Q E->
  codeAny (model P w) A (.call (.ref f) args) (CR CX outer P w H s Q E) s
theorem FnOk.imp {P:aw}{w:aI}{K:aa}{mg:Str->Option ae}{base:bc}{CX:vV}{k:Nat}{f:af}{fd:ar}{b:List Str}{sp a:Sp}(F:FnOk P w K mg base CX k f fd b sp)
  (h:∀vs H Q E,a vs H Q E->sp vs H Q E):FnOk P w K mg base CX k f fd b a :=
 ⟨fun vs H Q E q=>F.len vs H Q E (h _ _ _ _ q),fun A outer s H args us vs Q E c he d e g=>F.run A outer s H args us vs Q E c he d e (h _ _ _ _ g)⟩
theorem Env0.make {P:aw}{w:aI}{K:aa}{mg:Str->Option ae}{base:bc}{A:bB}{outer:List Env}{s:ah}{H:Hp}(e:Env0 P w K mg base A outer s H)(C:af)(us:List ae)(a:List (Str×ae)) :
  Env0 P w K mg base (A.under (.builtin "type.__call__" ⟨.ref C::us,a⟩)) outer s H:=⟨by first|exact e.frames|(simpa [kl,Code.envs,km,pushEnvs]using e.frames),e.mod,e.bs,e.bsz,e.funs,e.frf,e.hok,e.bare⟩
theorem Env0.in1 {P:aw}{w:aI}{K:aa}{mg:Str->Option ae}{base:bc}{A:bB}{outer:List Env}{s:ah}{H:Hp}(e:Env0 P w K mg base A outer s H) :
  Env0 P w K mg base A.in1 outer s H:=⟨e.frames,e.mod,e.bs,e.bsz,e.funs,e.frf,e.hok,e.bare⟩
section
variable{X:Cx}{pins:List (af×Obj)}{σ:St}{H:Hp}{s s':ah}
theorem Inv.env0 (I:Inv X pins σ H s):Env0 X.prog X.w X.K X.mg X.base X.A X.stack s H :=
 ⟨I.ok.frames,I.ok.mod,I.bs,bV I.ok.bsz I.sz,I.stack,I.stkFree,I.hok,I.bare⟩
theorem Inv.after {Q:VK}{u:ae}(I:Inv X pins σ H s)(h:CE X.stack X.prog X.w H s Q u s'):EP X pins σ Q u s':=by
 obtain⟨v,H',os,bare,un,hok,r,q⟩:=h
 obtain⟨c,g,d,t,a⟩:=s'
 obtain rfl:a=s.os:=os
 exact⟨v,H',I.call (h':=c) (g':=g) (d':=d) (t':=t) (ch:=[]) un hok bare (fun b z=>absurd z (by simp)),r,q⟩
end
def kJ (sp:Sp)(dvs:List V)(E:XK)(t:TA):TE:=fun σ H Q=>t σ H fun vs H1=>sp (vs++dvs) H1 Q E
def zAb (C:af)(m:Str)(sp:Sp)(dvs:List V)(E:XK)(ta:TE)(t:TA):TE:=fun σ H Q=>ta σ H fun x H1=>∃a dx fs,x=.ref a/\H1 a=some (.ins C dx fs)/\fs.lookup m=none/\
 t σ H1 fun vs H2=>sp (x::(vs++dvs)) H2 Q E
def zBN (C:af)(sp:Sp)(dvs:List V)(E:XK)(t:TA):TE:=fun σ H Q=>t σ H fun vs H1=>∀x dx,H1 x=none->H1 dx=none->dx≠x->
 sp (.ref x::(vs++dvs)) (upd (upd H1 dx (.own x)) x (.ins C dx [])) (fun v H2=>v=.non/\Q (.ref x) H2) E
def vF (K:aa)(fd:ar)(ps:List Str)(ds:List ae):Prop :=
 ∀(s:ah) (us:List ae),K.In s.heap->(us++ds).length=ps.length->jb s fd ⟨us,[]⟩ (ps.zip (us++ds))
theorem vF.all {K:aa}{fd:ar}{a:List Str}(h:∀us:List ae,us.length=a.length->bindArgs fd ⟨us,[]⟩=pure (a.zip us)):vF K fd a []:=fun s us _ hl=>by
 rw[iG]at hl⊢
 exact .of_eq (h us hl)
def uJ (CX:vV)(X:Cx)(E:XK):Prop:=∀(pins:List (af×Obj)) (σ:St) (H:Hp) (s:ah) (e:ae) (s':ah),Inv X pins σ H s->CX X.stack H s E e s'->X.xe e s'
section
variable{X:Cx}{CX:vV}{k:Nat}{f C:af}{fd:ar}{ps:List Str}{sp:Sp}{dvs:List V}{ds:List ae}{E:XK}{x m:Str}{p pos apos:Pos}{e o:bq}{es:List bq}{ta:TE}{t:TA}
theorem zAc {a:List (af×Obj)}{σ:St}{H:Hp}{s:ah}{Q:VK}{us:List ae}{vs:List V}(F:FnOk X.prog X.w X.K X.mg X.base CX k f fd ps sp)(d:Room k X.A)(g:vF X.K fd ps ds)(hd:zL dvs ds)(i:uJ CX X E)
  (I:Inv X a σ H s) (r:zL vs us) (h:sp (vs++dvs) H Q E):wpAny (model X.prog X.w) X.A (call (.ref f) us) (EP X a σ Q) X.xe s:=by
 have c:zL (vs++dvs) (us++ds):=r.append hd
 have hl:(us++ds).length=ps.length:=by rw[<-c.length];exact F.len _ _ _ _ h
 refine mR (dS (F.run X.A X.stack s H ⟨us,[]⟩ (us++ds) (vs++dvs) Q E d I.env0 (g s us I.kIn hl) c h) fun r s' b=>?_)
 cases r with
 |error e=>exact i a σ H s e s' I b
 |ok j=>
  cases j with
  |ret u=>exact I.after b
  |next=>exact cf b
  |brk=>exact cf b
  |cont=>exact cf b
theorem zEv (F:FnOk X.prog X.w X.K X.mg X.base CX k f fd ps sp)(g:Room k X.A)(i:Gl X x)(j:X.mg x=some (.ref f))(l:bP X.K (.ref f)=true)(n:vF X.K fd ps ds)(hd:zL dvs ds)(u:uJ CX X E)
  (v:PA X (e::es) t) (b:(x==("__debug__" : Str))=false:=by decide) (he:starEach (e::es) X.env=(false,eval e X.env)::starEach es X.env:=by rfl) (c:(backTo pos (starEach es X.env)).any (·.1)=false:=by rfl) :
  PE X (.Call (.Name x p) (e::es) [] pos) (kJ sp dvs E t):=by
 intro a s σ H Q I h
 refine da (kG I i j ?_ b)
 refine dz (h₀:=X.base) I.ok.mod.kin l (zK (v pos a s σ H _ I h) fun us y ⟨vs,z,d,r,q⟩=>⟨d.kIn,?_⟩) he c
 exact zAc F g n hd u d r q
theorem zJM (F:FnOk X.prog X.w X.K X.mg X.base CX k f fd ps sp)(c:Room k X.A)(d:Gl X x)(g:X.mg x=some (.ref f))(i:bP X.K (.ref f)=true)(j:vF X.K fd ps ds)(hd:zL dvs ds)(l:uJ CX X E)
  (a:(x==("__debug__" : Str))=false:=by decide):PE X (.Call (.Name x p) [] [] pos) (kJ sp dvs E qV):=by
 intro b s σ H Q I h
 refine da (kG I d g ?_ a)
 exact jg I.kIn i (zAc (us:=[]) F c j hd l I .nil h)
theorem zEw {pl:Sem Bool}(he:PE X o ta)(c:Cls X.K C)(i:Meth X.K C m f)(F:FnOk X.prog X.w X.K X.mg X.base CX k f fd ps sp)(y:Room k X.A)(z:vF X.K fd ps ds)(hd:zL dvs ds)(B:uJ CX X E)(D:PA X (e::es) t)
  (d:starEach (e::es) X.env=(false,eval e X.env)::starEach es X.env:=by rfl) (g:(backTo pos (starEach es X.env)).any (·.1)=false:=by rfl)
  (G:eval (.Call (.Attribute o m apos) (e::es) [] pos) X.env=(do
   let j<-eval o X.env
   standAt apos.atName
   let(f,first)<-holding [j] (getMethod j m pl)
   callWith pos f first (backTo pos (starEach (e::es) X.env)) (backToKw pos (keywordEach [] X.env))):=by rfl) :
  PE X (.Call (.Attribute o m apos) (e::es) [] pos) (zAb C m sp dvs E ta t):=by
 intro b s σ H Q I h
 refine eZ (pl:=pl) (zK (he b s σ H _ I h) fun u J ⟨x,L,n,M,a,P,fs,ex,N,l,q⟩=>?_) G
 subst ex
 obtain rfl:u=Value.ref a:=M
 refine zEs n N c i l ?_
 refine dz (first:=[.ref a]) (h₀:=X.base) I.ok.mod.kin i.kp (zK (D pos b J σ L _ n q) fun us R ⟨vs,T,v,r,O⟩=>⟨v.kIn,?_⟩) d g
 exact zAc (us:=.ref a::us) (vs:=.ref a::vs) F y z hd B v (.cons rfl r) O
theorem zJN {pl:Sem Bool}(he:PE X o ta)(c:Cls X.K C)(g:Meth X.K C m f)(F:FnOk X.prog X.w X.K X.mg X.base CX k f fd ps sp)(j:Room k X.A)(n:vF X.K fd ps ds)(hd:zL dvs ds)(r:uJ CX X E)
  (v:eval (.Call (.Attribute o m apos) [] [] pos) X.env=(do
   let i<-eval o X.env
   standAt apos.atName
   let(f,first)<-holding [i] (getMethod i m pl)
   callWith pos f first (backTo pos (starEach [] X.env)) (backToKw pos (keywordEach [] X.env))):=by rfl) :
  PE X (.Call (.Attribute o m apos) [] [] pos) (zAb C m sp dvs E ta qV):=by
 intro b s σ H Q I h
 refine eZ (pl:=pl) (zK (he b s σ H _ I h) fun u B ⟨x,D,d,y,a,G,fs,ex,z,l,q⟩=>?_) v
 subst ex
 obtain rfl:u=Value.ref a:=y
 refine zEs d z c g l ?_
 exact jg (first:=[.ref a]) d.kIn g.kp (zAc (us:=[.ref a]) (vs:=[.ref a]) F j n hd r d (.cons rfl .nil) q)
structure Mk (K:aa) (C f:af):Prop where
 makes:iF K C=true
 init:bf K (.ref C) "__init__"=some (some (.ref f))
 fn:ik K (.ref f)=true
 kp:bP K (.ref C)=true
theorem zJO {a:List (af×Obj)}{σ:St}{H:Hp}{s:ah}{Q:VK}{us:List ae}{vs:List V}(M:Mk X.K C f)(F:FnOk X.prog X.w X.K X.mg X.base CX k f fd ps sp)(j:Room (k+1) X.A)(l:vF X.K fd ps ds)(hd:zL dvs ds)
  (n:uJ CX X E) (I:Inv X a σ H s) (r:zL vs us)
  (h:∀x c,H x=none->H c=none->c≠x->sp (.ref x::(vs++dvs)) (upd (upd H c (.own x)) x (.ins C c [])) (fun v q=>v=.non/\Q (.ref x) q) E) :
  wpAny (model X.prog X.w) X.A (call (.ref C) us) (EP X a σ Q) X.xe s:=by
 have g:=h (s.heap.objs.size+1) s.heap.objs.size (I.hok.fresh (fC _)) (I.hok.fresh (ay _)) (br (dR _))
 have d:=Inv.made (C:=C) I
 have i:zL (V.ref (s.heap.objs.size+1)::(vs++dvs)) (Value.ref (s.heap.objs.size+1)::(us++ds)):=.cons rfl (r.append hd)
 have hl:(Value.ref (s.heap.objs.size+1)::us++ds).length=ps.length:=by
  have e:=i.length
  rw[F.len _ _ _ _ g]at e
  exact e.symm
 refine mR (zJC (f:=f) I.kIn M.makes M.init (beq_iff_eq.mp M.fn) (dS (F.run _ X.stack _ _ ⟨Value.ref (s.heap.objs.size+1)::us,[]⟩ (Value.ref (s.heap.objs.size+1)::(us++ds)) _ _ E (j.make C us [])
  (d.env0.make C us []) (l _ (Value.ref (s.heap.objs.size+1)::us) d.kIn hl) i g) fun r s' b=>?_))
 cases r with
 |error e=>exact n a σ _ _ e s' d b
 |ok y=>
  cases y with
  |ret u=>
   obtain⟨v,H',z,B,ev,D⟩:=d.after b
   subst ev
   exact⟨B,⟨V.ref (s.heap.objs.size+1),H',z,rfl,D⟩⟩
  |next=>exact cf b
  |brk=>exact cf b
  |cont=>exact cf b
theorem zEx (M:Mk X.K C f)(F:FnOk X.prog X.w X.K X.mg X.base CX k f fd ps sp)(g:Room (k+1) X.A)(i:Gl X x)(j:X.mg x=some (.ref C))(l:vF X.K fd ps ds)(hd:zL dvs ds)(n:uJ CX X E)
  (u:PA X (e::es) t) (b:(x==("__debug__" : Str))=false:=by decide) (he:starEach (e::es) X.env=(false,eval e X.env)::starEach es X.env:=by rfl) (c:(backTo pos (starEach es X.env)).any (·.1)=false:=by rfl) :
  PE X (.Call (.Name x p) (e::es) [] pos) (zBN C sp dvs E t):=by
 intro a s σ H Q I h
 refine da (kG I i j ?_ b)
 refine dz (h₀:=X.base) I.ok.mod.kin M.kp (zK (u pos a s σ H _ I h) fun us v ⟨vs,y,d,r,q⟩=>⟨d.kIn,?_⟩) he c
 exact zJO M F g l hd n d r q
end
section
variable{X:Cx}{CX:vV}{k:Nat}{f C:af}{fd:ar}{ps ks:List Str}{sp:Sp}{E:XK}{x m:Str}{p pos apos kpos:Pos}{e o:bq}{es:List bq}{kws:List jc}{te ta:TE}{t tk:TA}{nm:Option Str}
variable{g:List ae->List ae->List ae}{gV:List V->List V->List V}
end
structure FnScope (N P:List Str) (sc:dv):Prop where
 kind:sc.kind=.function
 co:sc.isCoroutine=false
 gen:sc.isGenerator=false
 nd:N.Nodup
 pre:N.take P.length=P
 par:∀x∈P,sc.names.lookup x=some .local\/sc.names.lookup x=some .cell
 nofree:∀y∈sc.names,y.2≠.free
theorem zEy {kindOf:Str->Option gd}{x:Str}:∀{binds:List (Str×ae)}{m:Str->Option ae},(∀v,(x,v)∉binds)->bindL kindOf binds m x=m x
 | [],_,_=>rfl
 |(n,v)::r,m,h=>by
  unfold bindL
  rw[zEy fun w a=>h w (au _ a)]
  split
  ·have:x≠n:=by rintro rfl;exact h v av
   simp[this]
  ·rfl
theorem zEz {kindOf:Str->Option gd}{x:Str}:∀{binds:List (Str×ae)}{m:Str->Option ae},(∀v,(x,v)∉binds)->bindC kindOf binds m x=m x
 | [],_,_=>rfl
 |(n,v)::r,m,h=>by
  unfold bindC
  rw[zEz fun w a=>h w (au _ a)]
  split
  ·rfl
  ·have:x≠n:=by rintro rfl;exact h v av
   simp[this]
theorem zCY {kindOf:Str->Option gd}{x:Str}{v:ae}:∀{P:List Str}{vs:List ae}{i:Nat}{m:Str->Option ae},P.Nodup->P[i]?=some x->vs[i]?=some v->kindOf x=some .local->
  bindL kindOf (P.zip vs) m x=some v
 | [],_,_,_,_,h,_,_=>by simp at h
 |_::_,[],_,_,_,_,h,_=>by simp at h
 |p::P,w::vs,0,m,nd,a,b,c=>by
  simp at a b;subst a;subst b
  show bindL kindOf ((p,w)::P.zip vs) m p=_
  unfold bindL
  rw[zEy fun v d=>(bZ.mp nd).1 (fH d).1,if_pos c]
  simp
 |p::P,w::vs,i+1,m,nd,a,b,c=>by
  show bindL kindOf ((p,w)::P.zip vs) m x=_
  unfold bindL
  exact zCY (i:=i) (bZ.mp nd).2 (by simpa using a) (by simpa using b) c
theorem zCZ {kindOf:Str->Option gd}{x:Str}{v:ae}:∀{P:List Str}{vs:List ae}{i:Nat}{m:Str->Option ae},P.Nodup->P[i]?=some x->vs[i]?=some v->kindOf x≠some .local->
  bindC kindOf (P.zip vs) m x=some v
 | [],_,_,_,_,h,_,_=>by simp at h
 |_::_,[],_,_,_,_,h,_=>by simp at h
 |p::P,w::vs,0,m,nd,a,b,c=>by
  simp at a b;subst a;subst b
  show bindC kindOf ((p,w)::P.zip vs) m p=_
  unfold bindC
  rw[zEz fun v d=>(bZ.mp nd).1 (fH d).1,if_neg c]
  simp
 |p::P,w::vs,i+1,m,nd,a,b,c=>by
  show bindC kindOf ((p,w)::P.zip vs) m x=_
  unfold bindC
  exact zCZ (i:=i) (bZ.mp nd).2 (by simpa using a) (by simpa using b) c
def v8 (N:List Str)(vs:List V):St:=vs.map some++aA (N.length-vs.length) none
def qW (CX:vV)(P:aw)(w:aI)(K:aa)(mg:Str->Option ae)(base:bc)(N:List Str)(qual:Str)(scope:dv)(f:af)(cd:ae)(A:bB)(outer:List Env)(s:ah)(H:Hp)(E:XK):Cx where
 prog:=P
 w:=w
 K:=K
 mg:=mg
 base:=base
 A:=A.deeper (envOfC qual scope s.heap.objs.size f cd)
 N:=N
 s₀:=s
 H₀:=H
 env:=envOfC qual scope s.heap.objs.size f cd
 outer:=outer
 stack:=envOfC qual scope s.heap.objs.size f cd::outer
 ex:=[]
 calm:=true
 fn:=fun _=>true
 pn:=[]
 xe:=fun e s'=>wpAny (model P w) (A.deeper (envOfC qual scope s.heap.objs.size f cd)) (leaving (envOfC qual scope s.heap.objs.size f cd) e) (fun _ s''=>CX outer H s E e s'') (fun e' s''=>CX outer H s E e' s'') s'
theorem zBO {a:dv}{n:Nat}{x:Str}(h:a.names.lookup x=some .cell):∃c,(cellsFrom n a.names []).lookup x=some c:=by
 have q:=eR a.names n [] (.inl h)
 exact gz.mp q
theorem zJP {CX:vV}{P:aw}{w:aI}{K:aa}{mg:Str->Option ae}{base:bc}{N l:List Str}{d:Str}{scope:dv}{f:af}{C:ae}{A:bB}{outer:List Env}{s F:ah}{H:Hp}{E:XK}{us:List ae}{vs:List V}
  (S:FnScope N l scope) (hd:A.handled=none) (j:Env0 P w K mg base A outer s H) (hl:vs.length=l.length) (r:zL vs us)
  (x:InCallC s s.heap.objs.size (bindL (envOfC d scope s.heap.objs.size f C).kindOf (l.zip us) fun _=>none) (cellsFrom (s.heap.objs.size+1) scope.names []) (bindC (envOfC d scope s.heap.objs.size f C).kindOf (l.zip us) fun _=>none) F) :
  Inv (qW CX P w K mg base N d scope f C A outer s H E) [] (v8 N vs) H F:=by
 have J:l.length<=N.length:=by have:=congrArg oP S.pre;rw[aV]at this;omega
 obtain⟨D,O,rfl,G⟩:=x.done
 have m:∀b:af,b∉(qW CX P w K mg base N d scope f C A outer s H E).ex:=fun b z=>absurd (show b∈([]:List af)from z) (by simp)
 refine⟨⟨j.mod,S.kind,rfl,rfl,ay _,fun y z c D g=>?_,fun y o=>?_,fun y c _ h=>?_,fun _=>hd,iW j.frames,.inr ⟨rfl,rfl⟩,fun b z=>absurd z (m b),j.bs,j.bsz,fun b _ _=>m b,fun b z=>absurd z (m b),j.funs,j.frf⟩,
  rfl,j.bare,Un.kept G,⟨_,x.toInCall.ns,fun i y v D g Q=>?_⟩,fun y c h=>⟨_,x.cell y c h⟩,j.hok.fresh (ay _),fun y c h=>?_,fun p t=>absurd (show p∈([]:List (af×Obj))from t) (by simp),j.hok.kept G,?_⟩
 ·exact name_of_addr x.apart (bT D) (bT g)
 ·have o:scope.names.lookup y=some .cell\/scope.names.lookup y=some .free:=o
  rcases o with o|o
  ·exact zBO o
  ·exact absurd rfl (S.nofree _ (bT o))
 ·exact fQ (x.above y c (bT h))
 ·have hi:i<vs.length:=by
   unfold v8 at g
   by_cases hi:i<vs.length
   ·exact hi
   ·rw[bQ (by simpa using hi)]at g
    rw[cx]at g
    split at g<;>cases g
  have L:vs[i]?=some v:=by
   unfold v8 at g
   rw[bj (by simpa using hi),az]at g
   cases e:vs[i]? with
   |none=>rw[e]at g;cases g
   |some a=>rw[e]at g;cases g;rfl
  obtain⟨u,I,M⟩:=r.get L
  have t:l[i]?=some y:=by
   rw[<-S.pre,hU (by omega)];exact D
  have B:l.Nodup:=by rw[<-S.pre];exact S.nd.sublist (ko _ _)
  refine⟨u,M,?_⟩
  rcases S.par y (aH t)with k|k
  ·exact .inl ⟨k,zCY B t I k⟩
  ·obtain⟨c,e⟩:=zBO (n:=s.heap.objs.size+1) k
   refine .inr ⟨.inl k,c,e,?_⟩
   have q:=x.cell y c e
   rw[zCZ B t I (by show scope.names.lookup y≠_;rw[k];decide)]at q
   exact q
 ·exact j.hok.fresh (fQ (x.above y c (bT h)))
 ·unfold v8
  show _=N.length
  rw[aj,ai,di]
  omega
theorem zFA {CX:vV}{P:aw}{w:aI}{K:aa}{mg:Str->Option ae}{base:bc}{k:Nat}{f:af}{name a:Str}{d:oq}{body:List bR}{scope:dv}{L kV j pm c ct T:ae}{M od:Option af}
  {B:Array (Option ae)} {N p:List Str} {sp:Sp} (U:K.lookup f=some ⟨T,od,.func (cp name a d body scope L kV j pm M c ct),B⟩) (C:de K c a=true) (S:FnScope N p scope)
  (len:∀vs H Q E,sp vs H Q E->vs.length=p.length)
  (g:∀(A:bB) (outer:List Env) (s:ah) (H:Hp) (vs:List V) (Q:VK) (E:XK),Room k (A.deeper (envOfC a scope s.heap.objs.size f c))->sp vs H Q E->
   ∃t,vO (qW CX P w K mg base N a scope f c A outer s H E) body t/\t {nx:=fun _ H'=>Q .non H',rt:=Q} (v8 N vs) H) :
  FnOk P w K mg base CX (k+1) f (cp name a d body scope L kV j pm M c ct) p sp:=by
 refine⟨len,fun A outer s H args us vs Q E D l W r m=>?_⟩
 have hl:=len _ _ _ _ m
 have O:K.In s.heap:=l.mod.kin.keeps fun b o e=>(l.bs b o e).1
 have F:s.heap.NoLimit:=l.mod.nolimit.keeps fun b o e=>(l.bs b o e).1
 have h:∀y∈p.zip us,scope.names.lookup y.1=some .local\/(scope.names.lookup y.1=some .cell/\((cellsFrom (s.heap.objs.size+1) scope.names []).lookup y.1).isSome=true):=fun⟨n,v⟩ X=>by
  rcases S.par n (fH X).1 with q|q
  ·exact .inl q
  ·exact .inr ⟨q,eR _ _ _ (.inl q)⟩
 refine iL D.depth (O _ _ U) rfl S.co S.gen rfl (jv O C) (W _ _ _ _ ?_)
 refine gf S.kind h fun env he R x=>?_
 subst he
 refine⟨F.keeps x.toInCall.keep,codeAny_func ?_⟩
 obtain⟨t,Y,Z⟩:=g A outer s H vs Q E (D.deeper _) m
 have I:Inv (qW CX P w K mg base N a scope f c A outer s H E) [] (v8 N vs) H R:=zJP S D.hd l hl r x
 refine bX (Y [] R (v8 N vs) H _ I Z) (fun fl s' i=>?_) fun e s' i=>i
 have fin:∀{z:St} {H':Hp} {v:V} {u:ae},Inv (qW CX P w K mg base N a scope f c A outer s H E) [] z H' s'->zQ v u->Q v H'->CE outer P w H s Q u s' :=
  fun{z H' v u} J G q=>⟨v,H',J.os,J.bare,J.base,J.hok,G,q⟩
 cases fl with
 |ret u=>
  obtain⟨v,z,H',J,G,q⟩:=i
  exact fin J G q
 |next=>
  obtain⟨z,H',J,q⟩:=i
  exact fin (v:=V.non) (u:=Value.none) J rfl q
 |brk=>
  obtain⟨_,_,_,q⟩:=i
  exact cf q
 |cont=>
  obtain⟨_,_,_,q⟩:=i
  exact cf q
section
variable{X:Cx}{x:Str}{p pos:Pos}{e:bq}{es:List bq}{t:TA}{id T:String}{r:List V->Hp->VK->Prop}
def tCB (r:List V->Hp->VK->Prop)(t:TA):TE:=fun σ H Q=>t σ H fun vs H1=>r vs H1 Q
theorem z7 (d:uQ X (.builtin id) r)(f:Gl X x)(g:X.mg x=none)(i:bootBuiltins x=some (.builtin id))(j:PA X (e::es) t)(l:x≠"__name__" :=by decide)(b:(x==("__debug__" : Str))=false:=by decide)
  (he:starEach (e::es) X.env=(false,eval e X.env)::starEach es X.env:=by rfl) (c:(backTo pos (starEach es X.env)).any (·.1)=false:=by rfl):PE X (.Call (.Name x p) (e::es) [] pos) (tCB r t):=by
 intro a s σ H Q I h
 refine da (zAV I f g i ?_ l b)
 exact lR (zK (j pos a s σ H _ I h) fun us m ⟨vs,n,o,q,u⟩=>d a m σ n vs us Q o q u) he c
theorem zCa (d:uQ X (.type T) r)(f:Gl X x)(g:X.mg x=none)(i:bootBuiltins x=some (.type T))(j:PA X (e::es) t)(l:x≠"__name__" :=by decide)(b:(x==("__debug__" : Str))=false:=by decide)
  (he:starEach (e::es) X.env=(false,eval e X.env)::starEach es X.env:=by rfl) (c:(backTo pos (starEach es X.env)).any (·.1)=false:=by rfl):PE X (.Call (.Name x p) (e::es) [] pos) (tCB r t):=by
 intro a s σ H Q I h
 refine da (zAV I f g i ?_ l b)
 exact dH (zK (j pos a s σ H _ I h) fun us m ⟨vs,n,o,q,u⟩=>d a m σ n vs us Q o q u) he c
end
end L2
namespace HT
open PySem PyProof.Rows
section
open PySem.SeqAt
open PySem.AutoSeq1 (wpAny_loadPart')
open PySem.MeetsSeq PySem.MeetsSeq2 PySem.MeetsSeq3
end
section
variable{prog:aw}{w:aI}{A:bB}{E:ae->ah->Prop}{s:ah}
theorem cat_tup {t b:af}{vs a:List ae}{Q:ae->ah->Prop}(r:IsTup s.heap t vs.toArray)(u:IsTup s.heap b a.toArray)(l:vs≠[])
  (v:a=[]->Q (.ref t) s) (x:a≠[]->Q (.ref s.heap.objs.size) {s with heap:=s.heap.push {cls:=.type "tuple",data:=.seq (vs++a).toArray}})
  (hsz:vs.length+a.length<=sizeLine):wpAny (model prog w) A (binaryOp .Add (.ref t) (.ref b)) Q E s:=by
 obtain⟨⟨cls,dd,data,m⟩,i,o,n,hd⟩:=id r
 obtain⟨⟨p,d,data2,f⟩,c,g,q,h⟩:=id u
 simp only at o hd g h
 subst o hd g h
 have e:vs.toArray++a.toArray=(vs++a).toArray:=by simp
 by_cases j:a=[]
 ·exact kr ⟨_,i,rfl⟩ ⟨_,c,rfl⟩ hZ jo eS eJ (d8 _ _)
   (tuple_addW1 t b vs.toArray a.toArray n q dd d m f (by simpa using l) (by simp[j])) ⟨i,c,v j⟩
 ·refine kr ⟨_,i,rfl⟩ ⟨_,c,rfl⟩ hZ jo eS eJ (d8 _ _)
   (tuple_addW2 t b vs.toArray a.toArray n q dd d m f (by simpa using l) (by simpa using j) (by rw[aT,aT];exact hsz)) ⟨i,c,?_⟩
  rw[e]
  exact x j
def sIx (n d:Nat):Option Int->Nat
 |none=>d
 |some v=>if v<0 then(v+(n:Int)).toNat else min v.toNat n
theorem sIx_nat (n d k:Nat):sIx n d (some (k:Int))=min k n:=by
 show(if(k:Int)<0 then((k:Int)+(n:Int)).toNat else min (k:Int).toNat n)=min k n
 rw[if_neg (by omega),Int.toNat_natCast]
theorem sIx_le (n d:Nat)(hd:d<=n)(o:Option Int):sIx n d o<=n:=by
 cases o with
 |none=>exact hd
 |some v=>
  show(if v<0 then(v+(n:Int)).toNat else min v.toNat n)<=n
  by_cases a:v<0
  ·rw[if_pos a];omega
  ·rw[if_neg a];exact Nat.min_le_right _ _
end
end HT
namespace L2
open PySem PySem.Spec PyProof.Rows
abbrev TO:=St->Hp->(Option Int->Hp->Prop)->Prop
def PO (X:Cx)(e:Option bq)(t:TO):Prop :=
 ∀(pins:List (af×Obj)) (s:ah) (σ:St) (H:Hp) (Q:Option Int->Hp->Prop),Inv X pins σ H s->t σ H Q->
  wpAny (model X.prog X.w) X.A (evalPart e X.env) (fun u s'=>∃o H',Inv X pins σ H' s'/\IsPart u o/\Q o H') X.xe s
def zJQ:TO:=fun _ H Q=>Q none H
def zJR (t:TE):TO:=fun σ H Q=>t σ H fun x H1=>∃i,x=.int i/\Q (some i) H1
theorem zJS {ns:List Int}:∀{us:List ae},zL (ns.map V.int) us->ku us ns:=by
 induction ns with
 |nil=>intro us r;rw[il]at r;cases r;exact .nil
 |cons n ns ih=>
  intro us r
  rw[aF]at r
  cases r with
  |cons a b=>
   obtain⟨t,e⟩:=a
   subst e
   exact .cons n t (ih b)
section
variable{X:Cx}{e:bq}{te:TE}{lo hi:Option bq}{tl th:TO}{pos p2:Pos}
theorem zBP:PO X none zJQ:=by
 intro a s σ H Q I h
 rw[nU]
 exact bw ⟨none,H,I,.none,h⟩
theorem qC (h:PE X e te):PO X (some e) (zJR te):=by
 intro a s σ H Q I b
 rw[evalPart_some]
 refine zK (h a s σ H _ I b) fun u j ⟨x,c,d,f,g⟩=>?_
 obtain⟨i,rfl,q⟩:=g
 obtain⟨t,rfl⟩:=f
 exact⟨some i,c,d,.int i t,q⟩
def zJT (K:aa):R2:=fun x y H Q=>∃a b xs ys,x=.ref a/\y=.ref b/\yX K H a xs/\yX K H b ys/\xs≠[]/\xs.length+ys.length<=sizeLine/\
 (ys=[]->Q (.ref a) H)/\(ys≠[]->∀p,H p=none->Q (.ref p) (upd H p (.tup (xs++ys))))
theorem zL.nil_iff {xs:List V}{us:List ae}(r:zL xs us):us=[]↔xs=[]:=by
 cases r with
 |nil=>simp
 |cons _ _=>simp
theorem zFB:z9 X (binaryOp .Add) (zJT X.K):=by
 intro f s σ H x y v u Q I j l h
 obtain⟨a,b,xs,m,rfl,rfl,n,p,r,g,t,A⟩:=h
 cases j
 cases l
 obtain⟨B,d,C,_⟩:=I.tuple n
 obtain⟨i,c,p2,_⟩:=I.tuple p
 refine HT.cat_tup C p2 (fun z=>r (d.nil_iff.mp z)) (fun z=>⟨.ref a,H,I,rfl,t (c.nil_iff.mp z)⟩) (fun z=>?_) (by rw[<-d.length,<-c.length];exact g)
 refine⟨.ref s.heap.objs.size,_,I.laid (t':=s.toks) (o:=.tup (xs++m)) (fun b D q=>ao _ q) (ay _) ?_,rfl,A (fun w=>z (c.nil_iff.mpr w)) _ (I.hok.fresh (ay _))⟩
 exact⟨by rw[aj];exact g,_,d.append c,pB _ _⟩
end
def kY (n:Nat)(i:Int):Option Nat:=if 0<=i then(if i<n then some i.toNat else none)else if-(n:Int)<=i then some (i+n).toNat else none
def jU {α:Type}(xs:List α)(i:Int):Option α:=(kY xs.length i).bind fun j=>xs[j]?
theorem zFC {n:Nat}{i:Int}{j:Nat}(h:kY n i=some j):seqIndex? i n=some j/\j<n/\-(n:Int)<=i/\i<n:=by
 unfold kY at h
 by_cases b:0<=i
 ·rw[if_pos b]at h
  by_cases a:i<n
  ·rw[if_pos a]at h
   have e:i.toNat=j:=aq h
   exact⟨by rw[mm b a,e],by omega,by omega,a⟩
  ·rw[if_neg a]at h;cases h
 ·rw[if_neg b]at h
  by_cases a:-(n:Int)<=i
  ·rw[if_pos a]at h
   have e:(i+n).toNat=j:=aq h
   exact⟨by rw[kx (by omega) a,e],by omega,a,by omega⟩
  ·rw[if_neg a]at h;cases h
theorem zCb {α:Type}{xs:List α}{i:Int}{v:α}(h:jU xs i=some v):∃j,seqIndex? i xs.length=some j/\xs[j]?=some v/\j<xs.length/\-(xs.length:Int)<=i/\i<xs.length:=by
 unfold jU at h
 cases e:kY xs.length i with
 |none=>rw[e]at h;cases h
 |some j=>
  rw[e]at h
  obtain⟨a,b,c,d⟩:=zFC e
  exact⟨j,a,h,b,c,d⟩
theorem vJ {α:Type}{xs:List α}{j:Nat}{v:α}(h:xs[j]?=some v):jU xs (j:Int)=some v:=by
 have a:j<xs.length:=(ag.mp h).1
 have e:kY xs.length (j:Int)=some j:=by
  unfold kY
  rw[if_pos (by omega),if_pos (by omega)];simp
 unfold jU;rw[e];exact h
def zJU (b:bq):Prop:=∀o i,subscripted b false o i=operate [o,i] (getItem o i)
def IxR (X:Cx)(r:R2):Prop :=
 ∀(value slice:bq) (pins:List (af×Obj)) (s:ah) (σ:St) (H:Hp) (x y:V) (v u:ae) (Q:VK),Inv X pins σ H s->zQ x v->zQ y u->r x y H Q->
  subscripted slice false v u=operate [v,u] (getItem v u)->wpAny (model X.prog X.w) X.A (subscriptTail value slice v u) (EP X pins σ Q) X.xe s
def MtR (X:Cx)(id:String)(r:V->List V->Hp->VK->Prop):Prop :=
 ∀(pins:List (af×Obj)) (s:ah) (σ:St) (H:Hp) (x:V) (xs:List V) (v:ae) (us:List ae) (Q:VK),Inv X pins σ H s->zQ x v->zL xs us->r x xs H Q->
  wpAny (model X.prog X.w) X.A (call (.builtin id) (v::us)) (EP X pins σ Q) X.xe s
section
variable{X:Cx}{a b:bq}{ta tb:TE}{pos:Pos}
theorem vG {r:R2}(d:IxR X r)(e:PE X a ta)(f:PE X b tb)(g:zJU b):PE X (.Subscript a b pos) (gQ r ta tb):=by
 intro c s σ H Q I h
 exact mU (zCU e f I h fun v u i x y j l m n q=>d a b c i σ j x y v u Q l m n q (g _ _))
def zJV (K:aa):R2:=fun x y H Q=>∃p xs i v,x=.ref p/\y=.int i/\yF K H p xs/\jU xs i=some v/\Q v H
def zJW (K:aa):R2:=fun x y H Q=>∃p xs i v,x=.ref p/\y=.int i/\yX K H p xs/\jU xs i=some v/\Q v H
def zJX:R2:=fun x y H Q=>∃z i c,x=.str z/\y=.int i/\z.length<=sizeLine/\jU z.cps.toList i=some c/\Q (.str ⟨#[c]⟩) H
theorem kZ:IxR X (zJV X.K):=by
 intro value slice c s σ H x y v u Q I o A h l
 obtain⟨p,xs,i,z,rfl,rfl,B,he,q⟩:=h
 cases o
 obtain⟨t,rfl⟩:=A
 obtain⟨e,r,pl,F⟩:=I.list B
 obtain⟨j,d,C,G,D,E⟩:=zCb he
 obtain⟨w,m,f⟩:=r.get C
 have hl:=r.length
 have J:=gR
 have fin:EP X c σ Q w s:=⟨z,H,I,f,q⟩
 by_cases n:0<=i
 ·have g:i.toNat=j:=by
   rw[mm n E]at d
   exact aq d
  exact item_listR pl.isList n (by omega) (by rw[g];simpa using m) fin l
 ·have g:(i+(e.toArray.size:Int)).toNat=j:=by
   rw[kx (by omega) D]at d
   rw[aT,<-hl]
   exact aq d
  exact iq (x:=w) pl.isList.typeIs slot_list_getitem.lookup
   (wpAny_getItem_list_neg (Q:=fun r s'=>r=w/\EP X c σ Q r s') pl.isList (by omega) (by rw[aT]<;>omega) (by omega) (by rw[g];simpa using m) ⟨rfl,fin⟩) l
theorem vW:IxR X (zJW X.K):=by
 intro value slice c s σ H x y v u Q I e f h g
 obtain⟨p,xs,i,z,rfl,rfl,l,he,q⟩:=h
 cases e
 obtain⟨t,rfl⟩:=f
 obtain⟨m,r,pl,B⟩:=I.tuple l
 obtain⟨j,n,o,C,D,E⟩:=zCb he
 obtain⟨w,A,d⟩:=r.get o
 have hl:=r.length
 have F:=gR
 have fin:EP X c σ Q w s:=⟨z,H,I,d,q⟩
 exact iq (x:=w) pl.typeIs slot_tuple_getitem.lookup
  (getItem_tuple (j:=j) (Q:=fun r s'=>r=w/\EP X c σ Q r s') pl (by omega) (by omega) (by rw[aT,<-hl];exact n) (by simpa using A) ⟨rfl,fin⟩) g
theorem zJY:IxR X zJX:=by
 intro value slice d s σ H x y v u Q I f g h l
 obtain⟨z,i,c,rfl,rfl,w,he,q⟩:=h
 obtain⟨t,rfl⟩:=f
 obtain⟨t',rfl⟩:=g
 obtain⟨j,e,m,A,n,o⟩:=zCb he
 have hl:z.cps.toList.length=z.length:=by simp[jw]
 rw[hl]at e n o
 have B:=gR
 exact tail_any (typeIs_str s z t) slot_str_getitem.lookup (getItem_str (c:=c) (by
  have p:decide (i< -(2^63:Int))=false:=decide_eq_false (by omega)
  have r:decide (i>=2^63)=false:=decide_eq_false (by omega)
  rw[p,r,jq]) (by rw[e];simpa using m) ⟨.str ⟨#[c]⟩,H,I.tok _,⟨_,rfl⟩,q⟩) l
theorem zJZ (c:List ae)(n j:Nat)(u:ae):cY (·.setIfInBounds j u) {cls:=.type "list",data:=.seq c.toArray n}={cls:=.type "list",data:=.seq (c.set j u).toArray n}:=by
 simp[cY]
theorem Inv.lst {d:List (af×Obj)}{σ:St}{H:Hp}{s:ah}{p:af}{xs:List V}(I:Inv X d σ H s)(h:H p=some (.lst xs)) :
  ∃(c:List ae) (n:Nat),zL xs c/\s.heap.get? p=some {cls:=.type "list",data:=.seq c.toArray n}/\xs.length<=sizeLine:=by
 obtain⟨z,c,n,r,e⟩:=I.hok p _ h
 exact⟨c,n,r,e,z⟩
theorem Inv.lstUpd {c:List (af×Obj)}{σ:St}{H:Hp}{s:ah}{p:af}{xs g:List V}{d its':List ae}{n i:Nat}{f:Obj->Obj}(I:Inv X c σ H s)(h:H p=some (.lst xs))
  (l:s.heap.get? p=some {cls:=.type "list",data:=.seq d.toArray n}) (j:f {cls:=.type "list",data:=.seq d.toArray n}={cls:=.type "list",data:=.seq its'.toArray i}) (r:zL g its') (m:g.length<=sizeLine) (t:Nat) :
  Inv X c σ (upd H p (.lst g)) {s with heap:=s.heap.update p f,toks:=t}:=by
 have e:(s.heap.update p f).get? p=some {cls:=.type "list",data:=.seq its'.toArray i}:=by
  rw[Heap.get?_update_self f l (by rw[j]<;>rfl),j]
 refine I.write (x:=p) (e:=p) (by rw[h];trivial) (.inl rfl) (fun b u o q=>(c5 _ _ (dG o)).trans q) ⟨_,e⟩ ?_
 exact⟨m,its',i,r,e⟩
def zJa:V->V->V->Hp->(Hp->Prop)->Prop:=fun o i v H Q=>∃p xs k j,o=.ref p/\i=.int k/\H p=some (.lst xs)/\kY xs.length k=some j/\Q (upd H p (.lst (xs.set j v)))
theorem zJb:zEX X zJa:=by
 intro c s σ H o i v E F u Q I z A B h
 obtain⟨p,xs,k,j,rfl,rfl,l,C,q⟩:=h
 cases z
 obtain⟨t,rfl⟩:=A
 obtain⟨d,n,r,f,D⟩:=I.lst l
 obtain⟨e,G,m,w⟩:=zFC C
 have hl:=r.length
 have J:=gR
 have x:Inv X c σ (upd H p (.lst (xs.set j v))) {s with heap:=s.heap.update p (cY (·.setIfInBounds j u))} :=
  I.lstUpd l f (zJZ d n j u) (r.set B j) (by rw[List.length_set];exact D) s.toks
 by_cases y:0<=k
 ·have g:k.toNat=j:=by
   rw[mm y w]at e
   exact aq e
  exact PySem.W.ki_setAt f y (by omega) (by rw[aT,<-hl];exact w) (by rw[g];exact⟨_,x,q⟩)
 ·have g:(k+(d.toArray.size:Int)).toNat=j:=by
   rw[kx (by omega) m]at e
   rw[aT,<-hl]
   exact aq e
  exact PySem.W.ki_setBack f (by omega) (by rw[aT,<-hl];exact m) (by omega) (by rw[g];exact⟨_,x,q⟩)
def jV:V->Bool
 | .non=>true
 | .bl _=>true
 | .int _=>true
 | .str _=>true
 |_=>false
def qX:V->V->Bool
 | .non,.non=>true
 | .bl a,.bl b=>a==b
 | .bl a,.int b=>(if a then 1 else 0)==b
 | .int a,.bl b=>a==(if b then 1 else 0)
 | .int a,.int b=>a==b
 | .str a,.str b=>a==b
 |_,_=>false
theorem zJc {A:bB}{s:ah}{y x:V}{u v:ae}(d:zQ y u)(c:zQ x v)(f:jV y=true)(e:jV x=true):o8 A s u v (qX y x):=by
 cases y with
 |non=>
  cases d
  cases x with
  |non=>cases c;exact pF _
  |bl b=>cases c;exact oQ b
  |int b=>obtain⟨t,rfl⟩:=c;exact oX b t
  |str b=>obtain⟨t,rfl⟩:=c;exact oY b t
  |_=>exact absurd (show false=true from e) aC
 |bl a=>
  cases d
  cases x with
  |non=>cases c;exact oR a
  |bl b=>cases c;exact fA a b
  |int b=>obtain⟨t,rfl⟩:=c;exact oZ a b t
  |str b=>obtain⟨t,rfl⟩:=c;exact jf a b t
  |_=>exact absurd (show false=true from e) aC
 |int a=>
  obtain⟨t',rfl⟩:=d
  cases x with
  |non=>cases c;exact o2 a t'
  |bl b=>cases c;exact o4 a t' b
  |int b=>obtain⟨t,rfl⟩:=c;exact pb a t' b t
  |str b=>obtain⟨t,rfl⟩:=c;exact js a t' b t
  |_=>exact absurd (show false=true from e) aC
 |str a=>
  obtain⟨t',rfl⟩:=d
  cases x with
  |non=>cases c;exact o5 a t'
  |bl b=>cases c;exact je a t' b
  |int b=>obtain⟨t,rfl⟩:=c;exact jt a t' b t
  |str b=>obtain⟨t,rfl⟩:=c;exact pd a t' b t
  |_=>exact absurd (show false=true from e) aC
 |_=>exact absurd (show false=true from f) aC
def qM (x:V)(u:ae):Bool:=match u with
 | .none=>qX .non x
 | .bool b=>qX (.bl b) x
 | .int i _=>qX (.int i) x
 | .str z _=>qX (.str z) x
 |_=>false
theorem zFD {x y:V}{u:ae}(r:zQ y u)(f:jV y=true):qM x u=qX y x:=by
 cases y with
 |non=>cases r;rfl
 |bl b=>cases r;rfl
 |int i=>obtain⟨t,rfl⟩:=r;rfl
 |str z=>obtain⟨t,rfl⟩:=r;rfl
 |_=>exact absurd (show false=true from f) aC
theorem zCc {x:V}:∀{xs:List V}{us:List ae},zL xs us->xs.all jV=true->us.any (qM x)=xs.any fun y=>qX y x
 |_,_,.nil,_=>rfl
 |y::xs,u::us,.cons r t,f=>by
  rw[nV,bC]at f
  rw[c8,c8,zFD r f.1,zCc t f.2]
theorem zCd {A:bB}{s:ah}{x:V}{v:ae}(d:zQ x v)(e:jV x=true):∀{xs:List V}{us:List ae},zL xs us->xs.all jV=true->∀u∈us,o8 A s u v (qM x u)
 |_,_,.nil,_=>fun u c=>by cases c
 |y::xs,u::us,.cons r t,f=>fun g c=>by
  rw[nV,bC]at f
  rcases aJ.mp c with rfl|c
  ·rw[zFD r f.1];exact zJc r d f.1 e
  ·exact zCd d e t f.2 g c
def inV (x:V)(xs:List V):Bool:=xs.any fun y=>qX y x
def rIn (K:aa)(neg:Bool):R2:=fun x y H Q=>∃p xs,y=.ref p/\(yF K H p xs\/yX K H p xs)/\jV x=true/\xs.all jV=true/\Q (.bl (if neg then !inV x xs else inV x xs)) H
theorem zJd:z9 X (compareOp .In) (rIn X.K false):=by
 intro f s σ H x y v u Q I g j h
 obtain⟨p,xs,rfl,d,i,fs,q⟩:=h
 cases j
 rcases d with d|d
 ·obtain⟨c,r,pl,l⟩:=I.list d
  refine SeqAt.in_listAt (qM x) pl.isList (fun w e=>zCd g i r fs w (by simpa using e)) ⟨.bl _,H,I,rfl,?_⟩
  rw[show c.toArray.any (qM x)=c.any (qM x) by simp,zCc r fs]
  exact q
 ·obtain⟨c,r,pl,l⟩:=I.tuple d
  refine SeqAt.in_tupleAt (qM x) pl (fun w e=>zCd g i r fs w (by simpa using e)) ⟨.bl _,H,I,rfl,?_⟩
  rw[show c.toArray.any (qM x)=c.any (qM x) by simp,zCc r fs]
  exact q
theorem kK:uQ X (.builtin "len") (fun xs H Q=>∃p d,xs=[.ref p]/\(yF X.K H p d\/yX X.K H p d)/\Q (.int d.length) H):=by
 intro i s σ H xs us Q I r h
 obtain⟨p,d,rfl,e,q⟩:=h
 obtain⟨u,rfl,j⟩:=qL r
 cases j
 have m:=gR
 rcases e with e|e
 ·obtain⟨f,g,pl,l⟩:=I.list e
  have c:=g.length
  exact Calls.call_len_list pl.isList (by simp only[aT]<;>omega) ⟨.int d.length,H,I.tok _,⟨s.toks+1,by rw[aT,c]⟩,q⟩
 ·obtain⟨f,g,pl,l⟩:=I.tuple e
  have c:=g.length
  exact len_tuple pl (by simp only[aT]<;>omega) ⟨.int d.length,H,I.tok _,⟨s.toks+1,by rw[aT,c]⟩,q⟩
theorem gU:uQ X (.builtin "len") (fun xs H Q=>∃z,xs=[.str z]/\z.length<=sizeLine/\Q (.int z.length) H):=by
 intro c s σ H xs us Q I r h
 obtain⟨z,rfl,d,q⟩:=h
 obtain⟨u,rfl,t,rfl⟩:=qL r
 have e:=gR
 exact len_str (by omega) ⟨.int z.length,H,I.tok _,⟨_,rfl⟩,q⟩
def tyV (K:aa)(T:String)(x:V)(H:Hp):Prop:=match x with
 | .str _=>T="str"
 | .int _=>T="int"
 | .ref p=>(T="list"/\ ∃xs,yF K H p xs)\/(T="tuple"/\ ∃o,K.lookup p=some o/\o.cls=.type "tuple"/\o.dict=none)\/
   (T="dict"/\ ((∃kvs,H p=some (.dK kvs))\/∃kvs,H p=some (.dT kvs)))\/(T="set"/\ ∃S n,H p=some (.set S n))
 |_=>False
theorem zFE {f:List (af×Obj)}{σ:St}{H:Hp}{s:ah}{T:String}{x:V}{v:ae}(I:Inv X f σ H s)(r:zQ x v)(ty:tyV X.K T x H) :
  s.TypeIs v T/\∀a,v=.ref a->∃h,s.heap.get? a=some h/\h.dict=none:=by
 cases x with
 |str z=>
  obtain⟨t,rfl⟩:=r
  cases(show T="str"from ty)
  exact⟨typeIs_str s z t,fun _ e=>nomatch e⟩
 |int i=>
  obtain⟨t,rfl⟩:=r
  cases(show T="int"from ty)
  exact⟨mV s i t,fun _ e=>nomatch e⟩
 |ref p=>
  cases r
  rcases ty with⟨rfl,xs,j⟩|⟨rfl,o,d,l,hd⟩|⟨rfl,d⟩|⟨rfl,S,n,d⟩
  ·obtain⟨m,_,pl,_⟩:=I.list j
   refine⟨pl.isList.typeIs,fun a e=>?_⟩
   cases e
   obtain⟨o,n,e,c,hd,_⟩:=pl
   exact⟨o,e,hd⟩
  ·refine⟨⟨o,I.kIn p o d,l⟩,fun a e=>?_⟩
   cases e
   exact⟨o,I.kIn _ o d,hd⟩
  ·have z:∃o,s.heap.get? p=some o/\o.ExactDict:=by
    rcases d with⟨kvs,d⟩|⟨kvs,d⟩
    ·obtain⟨_,_,_,_,o,_,_,e,ex,_⟩:=I.hok p _ d
     exact⟨o,e,ex⟩
    ·obtain⟨_,_,_,_,o,_,_,e,ex,_⟩:=I.hok p _ d
     exact⟨o,e,ex⟩
   obtain⟨o,e,ex⟩:=z
   refine⟨⟨o,e,ex.1⟩,fun a g=>?_⟩
   cases g
   exact⟨o,e,ex.2.1⟩
  ·obtain⟨o,_,_,_,e,ex,_⟩:=I.hok p _ d
   refine⟨⟨o,e,ex.1⟩,fun a g=>?_⟩
   cases g
   exact⟨o,e,ex.2.1⟩
 |_=>exact cf ty
def zJe (K:aa)(T:String)(r:V->List V->Hp->VK->Prop)(to:TE):TE:=fun σ H Q=>to σ H fun x H1=>tyV K T x H1/\r x [] H1 Q
def tBM (K:aa)(T:String)(r:V->List V->Hp->VK->Prop)(to:TE)(t:TA):TE:=fun σ H Q=>to σ H fun x H1=>tyV K T x H1/\t σ H1 fun xs H2=>r x xs H2 Q
variable{o e:bq}{es:List bq}{to:TE}{t:TA}{name:Str}{apos cpos:Pos}{T id:String}{r:V->List V->Hp->VK->Prop}
theorem zJf (l:PlainAttrs T)(slot:Slot T name id)(g:typeOf (.builtin id)=pure (.type "method_descriptor"))(m:MtR X id r)(n:PE X o to)
  (d:attributeBase o name X.env (eval o X.env)=eval o X.env:=by rfl) (f:(apos.endLine==cpos.line)=true:=by rfl):PE X (.Call (.Attribute o name apos) [] [] cpos) (zJe X.K T r to):=by
 intro c s σ H Q I h
 refine wpAny_Call_method0_late d f (zK (n c s σ H _ I h) fun v p ⟨x,q,i,j,ty,u⟩=>?_)
 obtain⟨w,y⟩:=zFE i j ty
 exact⟨T,id,l,slot,g,w,y,dA rfl (PySem.evalArgs_none (m c p σ q x [] v [] Q i j .nil u))⟩
theorem zAd (p:PlainAttrs T)(slot:Slot T name id)(j:typeOf (.builtin id)=pure (.type "method_descriptor"))(q:MtR X id r)(u:PE X o to)(w:PA X (e::es) t)
  (f:attributeBase o name X.env (eval o X.env)=eval o X.env:=by rfl)
  (i:((backTo cpos (starEach (e::es) X.env)).all (fun x=>!x.1)&& (backToKw cpos (keywordEach [] X.env)).all (fun x=>x.1.isSome)
   &&decide ((e::es).length+([]:List jc).length+(if([]:List jc).isEmpty then 0 else 1)<30))=true:=by rfl)
  (g:(apos.endLine==cpos.line)=true:=by rfl) (y:starEach (e::es) X.env=(false,eval e X.env)::starEach es X.env:=by rfl) (d:(backTo cpos (starEach es X.env)).any (·.1)=false:=by rfl) :
  PE X (.Call (.Attribute o name apos) (e::es) [] cpos) (tBM X.K T r to t):=by
 intro c s σ H Q I h
 refine wpAny_Call_method_late f i g rfl (zK (u c s σ H _ I h) fun v z ⟨x,A,l,m,ty,B⟩=>?_)
 obtain⟨C,D⟩:=zFE l m ty
 refine⟨T,id,p,slot,j,C,D,?_⟩
 have n:=w cpos c z σ A _ l B
 rw[y]at n⊢
 refine dA (by show(false||(backTo cpos (starEach es X.env)).any (·.1))=false;rw[d]<;>rfl) (dN ?_)
 exact zK n fun us E ⟨vs,F,G,J,L⟩=>q c E σ F x vs v us Q G m J L
end
def MtM (X:Cx)(id:String)(r:V->List V->Hp->VK->Prop):Prop :=
 ∀(pins:List (af×Obj)) (s:ah) (σ:St) (H:Hp) (x:V) (xs:List V) (v:ae) (us:List ae) (Q:VK),Inv X pins σ H s->zQ x v->zL xs us->r x xs H Q->
  wpAny (model X.prog X.w) X.A (call (.builtin id) (v::us)) (EP X pins σ Q) X.xe s
theorem zL.one:∀{x:V}{us:List ae},zL [x] us->∃u,us=[u]/\zQ x u
 |_,_,.cons r .nil=>⟨_,rfl,r⟩
theorem zL.zero:∀{us:List ae},zL [] us->us=[]
 |_,.nil=>rfl
theorem zL.dropLast {xs:List V}{us:List ae}(h:zL xs us):zL xs.dropLast us.dropLast:=by
 induction h with
 |nil=>exact .nil
 |cons r t ih=>
  cases t with
  |nil=>exact .nil
  |cons q t'=>exact .cons r ih
theorem zL.reverse {xs:List V}{us:List ae}(h:zL xs us):zL xs.reverse us.reverse:=by
 induction h with
 |nil=>exact .nil
 |cons r t ih=>rw[ky,ky];exact zL.append ih (.cons r .nil)
theorem zL.rep {xs:List V}{us:List ae}(h:zL xs us):∀k:Nat,zL (aA k xs).flatten (aA k us).flatten
 |0=>.nil
 |k+1=>by
  rw[dt,dt,dI,dI]
  exact zL.append h (zL.rep h k)
theorem zFF (a:List ae):∀(k:Nat) (b:List ae),
  mX (fun c d=>c++d) b.toArray (aA k a.toArray)=(b++(aA k a).flatten).toArray
 |0,b=>by simp
 |k+1,b=>by
  have e:b.toArray++a.toArray=(b++a).toArray:=by simp
  have f:(b++a)++(aA k a).flatten=b++(aA (k+1) a).flatten:=by
   rw[dt,dI,eP]
  rw[<-f,<-zFF a k (b++a),<-e,dt,fI]
section
variable{X:Cx}{pins:List (af×Obj)}{σ:St}{H:Hp}{s:ah}{l b:af}{xs ys zs:List V}
theorem Inv.lset {a its':List ae}{n:Nat}{f:Array ae->Array ae}{t':Nat}(I:Inv X pins σ H s)(c:H l=some (.lst xs))
  (e:s.heap.get? l=some {cls:=.type "list",data:=.seq a.toArray n}) (d:f a.toArray=its'.toArray) (g:zL ys its') (h:ys.length<=sizeLine) :
  Inv X pins σ (upd H l (.lst ys)) {s with heap:=s.heap.update l (cY f),toks:=t'}:=by
 have q:=lS e f
 rw[d]at q
 refine I.write (x:=l) (e:=l) (by rw[c];exact trivial) (.inl rfl) (fun m u i j=>(c5 s.heap (cY f) (dG i)).trans j) ⟨_,q⟩ ?_
 exact⟨h,its',_,g,q⟩
theorem Inv.lnew {a:List ae}{t':Nat}(I:Inv X pins σ H s)(c:zL ys a)(d:ys.length<=sizeLine) :
  Inv X pins σ (upd H s.heap.objs.size (.lst ys)) {s with heap:=s.heap.push {cls:=.type "list",data:=.seq a.toArray},toks:=t'} :=
 I.laid (fun _ _ q=>ao _ q) (ay _) ⟨d,a,0,c,aZ _ rfl⟩
theorem Inv.fresh (I:Inv X pins σ H s):H s.heap.objs.size=none:=I.hok.fresh (ay _)
theorem Inv.lstM (I:Inv X pins σ H s)(c:H l=some (.lst xs)):xs.length<=sizeLine/\∃(a:List ae) (n:Nat),zL xs a/\xs.length=a.length/\s.heap.get? l=some {cls:=.type "list",data:=.seq a.toArray n}:=by
 obtain⟨z,a,n,r,e⟩:=I.hok l _ c
 exact⟨z,a,n,r,r.length,e⟩
theorem zJg {n:Nat}(h:n<=sizeLine):d9 n=false:=by
 unfold d9
 exact decide_eq_false (by omega)
end
section
variable{X:Cx}
def zJh:V->List V->Hp->VK->Prop:=fun x vs H Q=>∃l xs y,x=.ref l/\vs=[y]/\H l=some (.lst xs)/\xs.length<sizeLine/\Q .non (upd H l (.lst (xs++[y])))
theorem zJi:MtM X "list.append" zJh:=by
 intro b s σ H x vs v us Q I d f h
 obtain⟨l,xs,y,rfl,rfl,c,i,q⟩:=h
 cases d
 obtain⟨u,rfl,g⟩:=f.one
 obtain⟨z,a,n,r,hl,e⟩:=I.lstM c
 refine gh jx ⟨_,e,rfl⟩ jh (iX _ _) (kz l a.toArray n u (by rw[aT];omega)) ⟨e,?_⟩
 refine⟨.non,_,I.lset (its':=a++[u]) c e (by simp) (r.append (.cons g .nil)) ?_,rfl,q⟩
 rw[aj,dj]
 omega
def rExtend:V->List V->Hp->VK->Prop:=fun x vs H Q=>∃l b xs zs,x=.ref l/\vs=[.ref b]/\H l=some (.lst xs)/\H b=some (.lst zs)/\xs.length+zs.length<=sizeLine/\Q .non (upd H l (.lst (xs++zs)))
def zJj:R2:=fun x y H Q=>∃l b xs zs,x=.ref l/\y=.ref b/\H l=some (.lst xs)/\H b=some (.lst zs)/\xs.length+zs.length<=sizeLine/\∀p,H p=none->Q (.ref p) (upd H p (.lst (xs++zs)))
theorem zCe:z9 X (binaryOp .Add) zJj:=by
 intro d s σ H x y v u Q I f g h
 obtain⟨l,b,xs,t,rfl,rfl,i,j,w,q⟩:=h
 cases f
 cases g
 obtain⟨z,c,n,r,hl,e⟩:=I.lstM i
 obtain⟨A,a,B,m,hl2,o⟩:=I.lstM j
 refine PySem.P.add_list e o ?_ (by rw[aT,aT];omega)
 have p:c.toArray++a.toArray=(c++a).toArray:=by simp
 rw[p]
 exact⟨.ref _,_,I.lnew (t':=s.toks) (r.append m) (by rw[aj];omega),rfl,q _ I.fresh⟩
def zJk:R2:=fun x y H Q=>∃l k xs,x=.ref l/\y=.int k/\H l=some (.lst xs)/\-(2^63)<=k/\k<2^63/\xs.length*k.toNat<=sizeLine/\
 ∀p,H p=none->Q (.ref p) (upd H p (.lst (aA k.toNat xs).flatten))
theorem zJl {α:Type}(xs:List α)(k:Nat):(aA k xs).flatten.length=k*xs.length:=by
 induction k with
 |zero=>simp
 |succ k ih=>rw[dt,dI,aj,ih,Nat.succ_mul,Nat.add_comm]
theorem zFG:z9 X (binaryOp .Mult) zJk:=by
 intro p s σ H x y v u Q I A B h
 obtain⟨l,k,xs,rfl,rfl,C,D,E,w,q⟩:=h
 cases A
 obtain⟨t,rfl⟩:=B
 obtain⟨z,b,n,r,hl,e⟩:=I.lstM C
 have d:b.toArray.size*k.toNat<=sizeLine:=by rw[aT,<-hl];exact w
 have f:¬b.toArray.size*k.toNat> (2^63-1)/8:=by
  have:(sizeLine:Nat)<=(2^63-1)/8:=by decide
  omega
 have g:¬(!Builtin.List.listFitsIndex k)=true:=by
  rw[fitsIndex_both D E]
  exact aC
 have c:¬d9 (b.toArray.size*k.toNat)=true:=by
  rw[zJg d]
  exact aC
 have i:mX (fun j o=>j++o) #[] (aA (if b.toArray.isEmpty=true then 0 else k.toNat) b.toArray)=(aA k.toNat b).flatten.toArray:=by
  have G:∀m:Nat,mX (fun j o=>j++o) #[] (aA m b.toArray)=(aA m b).flatten.toArray:=fun m=>by
   have:=zFF b m []
   rw[mv]at this
   exact this
  rw[G]
  cases b with
  |nil=>simp
  |cons a J=>rw[if_neg (by simp)]
 refine wpAny_binaryOp_repeat_ref (T :="list") (U :="int") (by decide) ⟨_,e,rfl⟩ (fun s'=>mV s' k t) noFill_list_mul F.fills_int_mul mw repeat_list F.slot_int_index.lookup
  (gh mw (mV s k t) F.entry_int_rmul (F.args_int_rmul_2 _ _) (int___rmul___int_list k t l b.toArray n)
   ⟨e,rfl,⟨_,e,rfl⟩,gh F.slot_list_mul ⟨_,e,rfl⟩ F.entry_list_mul (F.args_list_mul_2 _ _) (jz l b.toArray n k t g f c) ⟨e,?_⟩⟩)
 rw[i]
 exact⟨.ref _,_,I.lnew (t':=s.toks) (r.rep k.toNat) (by rw[zJl,Nat.mul_comm];exact w),rfl,q _ I.fresh⟩
end
section
variable{κ:Type} [DecidableEq κ]
def yI (kvs:List (κ×V))(k:κ):Option V:=(kvs.find? fun kv=>decide (kv.1=k)).map (·.2)
def vL (kvs:List (κ×V))(k:κ)(v:V):List (κ×V) :=
 if(kvs.any fun kv=>decide (kv.1=k))=true then kvs.map (fun kv=>if kv.1=k then(kv.1,v)else kv)else kvs++[(k,v)]
def k6 (kvs:List (κ×V))(k:κ):List (κ×V):=kvs.filter fun kv=>decide (kv.1≠k)
theorem qD {p:κ×V}{r:List (κ×V)}{k:κ}(e:p.1=k):yI (p::r) k=some p.2:=by simp[yI,dE,e]
theorem qE {p:κ×V}{r:List (κ×V)}{k:κ}(e:¬p.1=k):yI (p::r) k=yI r k:=by simp[yI,dE,e]
theorem zBQ (k:κ):∀kvs:List (κ×V),(kvs.any fun a=>decide (a.1=k))=(yI kvs k).isSome
 | []=>rfl
 |p::r=>by
  rw[c8]
  by_cases e:p.1=k
  ·simp only[qD e,decide_eq_true e,oz,Option.isSome_some]
  ·rw[qE e,decide_eq_false e,nW];exact zBQ k r
theorem zFH (k j:κ)(y:V):∀kvs:List (κ×V),yI (kvs.map fun a=>if a.1=k then(a.1,y)else a) j=(yI kvs j).map fun x=>if j=k then y else x
 | []=>rfl
 |p::r=>by
  have ih:=zFH k j y r
  rw[aF]
  by_cases h:p.1=k
  ·rw[if_pos h]
   by_cases e:p.1=j
   ·rw[qD (p:=(p.1,y)) e,qD e,ed,if_pos (e.symm.trans h)]
   ·rw[qE (p:=(p.1,y)) e,qE e,ih]
  ·rw[if_neg h]
   by_cases e:p.1=j
   ·rw[qD (p:=p) e,qD e,ed,if_neg (fun z=>h (e.trans z))]
   ·rw[qE (p:=p) e,qE e,ih]
theorem zFI (k j:κ)(y:V):∀kvs:List (κ×V),yI kvs k=none->yI (kvs++[(k,y)]) j=if j=k then some y else yI kvs j
 | [],_=>by
  by_cases e:k=j
  ·rw[if_pos e.symm];exact qD (p:=(k,y)) e
  ·rw[if_neg (fun z=>e z.symm)];exact qE (p:=(k,y)) e
 |p::r,a=>by
  rw[lT]
  have b:¬p.1=k:=fun z=>by rw[qD z]at a;cases a
  rw[qE b]at a
  have ih:=zFI k j y r a
  by_cases e:p.1=j
  ·rw[qD e,qD e,if_neg (fun z=>b (e.trans z))]
  ·rw[qE e,qE e,ih]
theorem zJm (kvs:List (κ×V))(k j:κ)(y:V):yI (vL kvs k y) j=if j=k then some y else yI kvs j:=by
 unfold vL
 by_cases a:(kvs.any fun b=>decide (b.1=k))=true
 ·rw[if_pos a,zFH]
  rw[zBQ]at a
  by_cases e:j=k
  ·obtain⟨x,c⟩:=gz.mp a
   rw[if_pos e,e,c,ed,if_pos rfl]
  ·rw[if_neg e]
   cases yI kvs j with
   |none=>rfl
   |some x=>rw[ed,if_neg e]
 ·rw[if_neg a]
  refine zFI k j y kvs ?_
  rw[zBQ]at a
  cases q:yI kvs k with
  |none=>rfl
  |some x=>rw[q]at a;exact(a rfl).elim
theorem zCf (kvs:List (κ×V))(k:κ)(v:V):(vL kvs k v).length<=kvs.length+1:=by
 unfold vL
 split
 ·rw[ai];omega
 ·rw[aj,aR,List.length_nil];omega
theorem vQ.isSome_eq {o:Option V}{u:Option ae}(r:vQ o u):o.isSome=u.isSome:=by
 cases o with
 |none=>cases u with
  |none=>rfl
  |some _=>exact(show False from r).elim
 |some _=>cases u with
  |none=>exact(show False from r).elim
  |some _=>rfl
theorem vQ.getD {o:Option V}{u:Option ae}{d:V}{d':ae}(r:vQ o u)(rd:zQ d d'):zQ (o.getD d) (u.getD d'):=by
 cases o with
 |none=>cases u with
  |none=>exact rd
  |some _=>exact(show False from r).elim
 |some _=>cases u with
  |none=>exact(show False from r).elim
  |some _=>exact r
theorem KV.val {kvs:List (κ×V)}{vs:List (κ×ae)}(r:KV kvs vs)(k:κ):vQ (yI kvs k) (valueAt vs k):=by
 unfold KV at r
 induction r with
 |nil=>exact True.intro
 | @cons p q g a h t ih=>
  obtain⟨d,f⟩:=h
  by_cases e:p.1=k
  ·have c:q.1=k:=d.symm.trans e
   have b:valueAt (q::a) k=some q.2:=by simp[valueAt,dE,c]
   rw[qD e,b];exact f
  ·have c:¬q.1=k:=fun z=>e (d.trans z)
   have b:valueAt (q::a) k=valueAt a k:=by simp[valueAt,dE,c]
   rw[qE e,b];exact ih
theorem KV.any {kvs:List (κ×V)}{vs:List (κ×ae)}(r:KV kvs vs)(k:κ):(kvs.any fun a=>decide (a.1=k))=vs.any fun a=>decide (a.1=k):=by
 unfold KV at r
 induction r with
 |nil=>rfl
 |cons h t ih=>rw[c8,c8,ih,h.1]
theorem KV.repl {kvs:List (κ×V)}{vs:List (κ×ae)}(r:KV kvs vs)(k:κ){y:V}{u:ae}(c:zQ y u) :
  KV (kvs.map fun a=>if a.1=k then(a.1,y)else a) (vs.map fun a=>if a.1=k then(a.1,u)else a):=by
 unfold KV at r⊢
 induction r with
 |nil=>exact .nil
 | @cons p q f g h t ih=>
  rw[aF,aF]
  refine .cons ?_ ih
  obtain⟨b,d⟩:=h
  by_cases e:p.1=k
  ·rw[if_pos e,if_pos (b.symm.trans e)];exact⟨b,c⟩
  ·rw[if_neg e,if_neg (fun z=>e (b.trans z))];exact⟨b,d⟩
theorem KV.put {kvs:List (κ×V)}{vs:List (κ×ae)}(r:KV kvs vs)(k:κ){y:V}{u:ae}(a:zQ y u):KV (vL kvs k y) (stored vs k u):=by
 unfold vL stored
 rw[r.any k]
 by_cases e:(vs.any fun b=>decide (b.1=k))=true
 ·rw[if_pos e,if_pos e];exact r.repl k a
 ·rw[if_neg e,if_neg e];exact oS r ⟨rfl,a⟩
theorem KV.drop {kvs:List (κ×V)}{vs:List (κ×ae)}(r:KV kvs vs)(k:κ):KV (k6 kvs k) (without vs k):=by
 unfold KV at r⊢
 unfold k6 without
 induction r with
 |nil=>exact .nil
 | @cons p q g i h t ih=>
  obtain⟨c,d⟩:=h
  rw[lU,lU]
  by_cases e:p.1=k
  ·have a:¬decide (p.1≠k)=true:=by simp[e]
   have b:¬decide (q.1≠k)=true:=by simp[c.symm.trans e]
   rw[if_neg a,if_neg b];exact ih
  ·have f:¬q.1=k:=fun z=>e (c.trans z)
   have a:decide (p.1≠k)=true:=by simp[e]
   have b:decide (q.1≠k)=true:=by simp[f]
   rw[if_pos a,if_pos b];exact .cons ⟨c,d⟩ ih
theorem KV.length {kvs:List (κ×V)}{vs:List (κ×ae)}(r:KV kvs vs):kvs.length=vs.length:=d6 r
theorem zJn (kvs:List (κ×V))(k:κ):(k6 kvs k).length<=kvs.length:=bF _ _
end
theorem k8 {P:aw}{w:aI}{k:zX}{u:ae}(r:zQ (kV k) u):(uH P w).is k u=true:=by
 cases k with
 |inl i=>obtain⟨t,e⟩:=(show∃t,u=Value.int i t from r);subst e;exact zIM P w i t
 |inr x=>obtain⟨t,e⟩:=(show∃t,u=Value.str x t from r);subst e;exact zIN P w x t
theorem zJo {P:aw}{w:aI}{k:yS}{u:ae}(r:zQ (jM k) u):(kB P w).is k u=true:=by
 cases k with
 |inl x=>obtain⟨t,e⟩:=(show∃t,u=Value.str x t from r);subst e;show fq x (.str x t)=true;simp[fq]
 |inr b=>have e:u=Value.bool b:=r;subst e;exact beq_self_eq_true _
theorem zFJ {P:aw}{w:aI}:∀{ks:List yS}{us:List ae},zL (ks.map jM) us->ItemsAre (kB P w) ks us
 | [],_,r=>by rw[il]at r;cases r;exact .nil
 |k::ks,_,r=>by
  rw[aF]at r
  cases r with
  |cons h t=>exact .cons (zJo h) (zFJ t)
abbrev KT (H:Hp):List (List yS×V)->List (List yS×af×ae)->Prop:=lN fun p q=>p.1=q.1/\H q.2.1=some (.tup (p.1.map jM))/\zQ p.2 q.2.2
theorem KT.val {H:Hp}{kvs:List (List yS×V)}{xs:List (List yS×af×ae)}(r:KT H kvs xs)(k:List yS):vQ (yI kvs k) ((atKey xs k).map (·.2)):=by
 induction r with
 |nil=>exact True.intro
 | @cons p q g a h t ih=>
  obtain⟨d,_,f⟩:=h
  by_cases e:p.1=k
  ·have c:q.1=k:=d.symm.trans e
   have b:atKey (q::a) k=some q.2:=by simp[atKey,dE,c]
   rw[qD e,b];exact f
  ·have c:¬q.1=k:=fun z=>e (d.trans z)
   have b:atKey (q::a) k=atKey a k:=by simp[atKey,dE,c]
   rw[qE e,b];exact ih
theorem KT.repl {H:Hp}{kvs:List (List yS×V)}{xs:List (List yS×af×ae)}(r:KT H kvs xs)(k:List yS){y:V}{u:ae}(d:zQ y u) :
  KT H (kvs.map fun b=>if b.1=k then(b.1,y)else b) (xs.map (putAt k u)):=by
 induction r with
 |nil=>exact .nil
 | @cons p q g i h t ih=>
  rw[aF,aF]
  refine .cons ?_ ih
  obtain⟨a,c,f⟩:=h
  unfold putAt
  by_cases e:p.1=k
  ·rw[if_pos e,if_pos (a.symm.trans e)];exact⟨a,c,d⟩
  ·rw[if_neg e,if_neg (fun z=>e (a.trans z))];exact⟨a,c,f⟩
theorem KT.put {H:Hp}{kvs:List (List yS×V)}{xs:List (List yS×af×ae)}(r:KT H kvs xs)(k:List yS){b:af}{y:V}{u:ae}(c:H b=some (.tup (k.map jM)))(a:zQ y u) :
  KT H (vL kvs k y) (storedH xs k b u):=by
 have e:(kvs.any fun d=>decide (d.1=k))=(atKey xs k).isSome:=by
  rw[zBQ,(r.val k).isSome_eq,cU]
 unfold vL storedH
 rw[e]
 by_cases q:(atKey xs k).isSome=true
 ·rw[if_pos q,if_pos q];exact r.repl k a
 ·rw[if_neg q,if_neg q];exact oS r ⟨rfl,c,a⟩
theorem KT.keeps {H H':Hp}{kvs:List (List yS×V)}{xs:List (List yS×af×ae)}(r:KT H kvs xs)(c:∀b a,H b=some (.tup a)->H' b=some (.tup a)):KT H' kvs xs :=
 Paired.mapP r fun _ _ z=>⟨z.1,c _ _ z.2.1,z.2.2⟩
section
variable{P:aw}{w:aI}{H:Hp}{h:bc}{a:af}
theorem zFK {u:HO}(ok:z4 P w H h)(e:Rd H a u):yT P w H h a u:=e.ok ok
theorem qY {kvs:List (zX×V)}(ok:z4 P w H h)(e:Rd H a (.dK kvs)):kvs.length<=sizeLine/\(a==sysModules)=false/\∃vs,KV kvs vs/\h.DictOf (uH P w) a vs :=
 show yT P w H h a (.dK kvs)from zFK ok e
theorem k9 {kvs:List (zX×V)}(ok:z4 P w H h)(e:H a=some (.dK kvs)):kvs.length<=sizeLine/\(a==sysModules)=false/\∃vs,KV kvs vs/\h.DictOf (uH P w) a vs:=qY ok (.inl e)
theorem gW {ks:List yS}(ok:z4 P w H h)(e:H a=some (.tup (ks.map jM))):(tupleKind (kB P w)).is h ks a:=by
 obtain⟨_,b,r,o,c,d,n,f⟩:=(show yT P w H h a (.tup (ks.map jM))from ok a _ e)
 exact⟨o,b.toArray,n,c,d,f,by simpa using zFJ r⟩
theorem gA {kvs:List (List yS×V)}(ok:z4 P w H h)(e:Rd H a (.dT kvs)):kvs.length<=sizeLine/\(a==sysModules)=false/\
  ∃xs,KT H kvs xs/\h.DictOfH (tupleKind (kB P w)) a xs:=by
 obtain⟨z,y,xs,r,o,d,ep,f,g,i,j,n⟩:=(show yT P w H h a (.dT kvs)from zFK ok e)
 refine⟨z,y,xs,r,o,d,ep,f,g,i,j,fun x b=>?_,n⟩
 have all:∀{l:List (List yS×V)} {m:List (List yS×af×ae)},KT H l m->∀x∈m,(tupleKind (kB P w)).is h x.1 x.2.1:=by
  intro l m q
  induction q with
  |nil=>intro x b;exact nomatch b
  | @cons p q s u c t ih=>
   intro x b
   rcases aJ.mp b with e|b
   ·subst e
    exact gW ok (by rw[<-c.1];exact c.2.1)
   ·exact ih x b
 exact all r x b
theorem zJp {kvs:List (List yS×V)}(ok:z4 P w H h)(e:H a=some (.dT kvs)):kvs.length<=sizeLine/\(a==sysModules)=false/\
  ∃xs,KT H kvs xs/\h.DictOfH (tupleKind (kB P w)) a xs:=gA ok (.inl e)
end
def vD (H:Hp)(a:af)(y:V)(r:Option V):Prop :=
 (∃kvs k,Rd H a (.dK kvs)/\y=kV k/\r=yI kvs k)\/∃kvs k b,Rd H a (.dT kvs)/\y=.ref b/\H b=some (.tup (k.map jM))/\r=yI kvs k
def qZ (H:Hp)(a:af)(y v:V)(H':Hp):Prop :=
 (∃kvs k,H a=some (.dK kvs)/\y=kV k/\kvs.length<sizeLine/\H'=upd H a (.dK (vL kvs k v)))\/
 ∃kvs k b,H a=some (.dT kvs)/\y=.ref b/\H b=some (.tup (k.map jM))/\kvs.length<sizeLine/\H'=upd H a (.dT (vL kvs k v))
theorem vD.k {H:Hp}{a:af}{kvs:List (zX×V)}{k:zX}(e:H a=some (.dK kvs)):vD H a (kV k) (yI kvs k):=.inl ⟨kvs,k,.inl e,rfl,rfl⟩
theorem qZ.k {H:Hp}{a:af}{kvs:List (zX×V)}{k:zX}{v:V}(e:H a=some (.dK kvs))(hl:kvs.length<sizeLine):qZ H a (kV k) v (upd H a (.dK (vL kvs k v))):=.inl ⟨kvs,k,e,rfl,hl,rfl⟩
section
variable{X:Cx}{pins:List (af×Obj)}{σ:St}{H:Hp}{s:ah}{a:af}{y v:V}{u r:ae}{o:Option V}{A:bB}{E:ae->ah->Prop}
theorem Inv.big (I:Inv X pins σ H s):sysModules<s.heap.objs.size:=by
 have h:mainGlobals<s.heap.objs.size:=(I.mod.glob.keeps I.bk).lt
 exact oA (by decide) h
theorem zJq {Q:ae->ah->Prop}(n:A.units+1<cLine)(I:Inv X pins σ H s)(g:vD H a y (some v))(m:zQ y u)(h:∀d s',Inv X pins σ H s'->zQ v d->Q d s') :
  wpAny (model X.prog X.w) A (getItem (.ref a) u) Q E s:=by
 rcases g with⟨kvs,k,e,f,l⟩|⟨kvs,k,b,e,f,q,l⟩
 ·subst f
  obtain⟨z,hd,vs,rel,dd⟩:=qY I.hok e
  obtain⟨d,i,c⟩:=vQ.some_of (v:=v) (o:=valueAt vs k) (by rw[l];exact rel.val k)
  exact wpAny_getItem_of (k8 m) dd.mapOf i (h d _ (I.tok _) c)
 ·subst f
  cases(show u=Value.ref b from m)
  obtain⟨z,hd,xs,rel,dd⟩:=gA I.hok e
  obtain⟨d,i,c⟩:=vQ.some_of (v:=v) (o:=(atKey xs k).map (·.2)) (by rw[l];exact rel.val k)
  obtain⟨p,t,j⟩:=eQ.mp i
  refine wpAny_getItem_heap (dB n) (gW I.hok q) dd t ?_
  rw[j]
  exact h d _ (I.tok _) c
theorem zJr {Q:ae->ah->Prop}(f:A.units+1<cLine)(I:Inv X pins σ H s)(g:vD H a y o)(d:zQ y u)(h:∀s',Inv X pins σ H s'->Q (.bool o.isSome) s') :
  wpAny (model X.prog X.w) A (compareOp .In u (.ref a)) Q E s:=by
 rcases g with⟨kvs,k,e,c,l⟩|⟨kvs,k,b,e,c,i,l⟩
 ·subst c
  obtain⟨z,hd,vs,rel,dd⟩:=qY I.hok e
  refine wpAny_in_of (k8 d) hd dd.mapOf ?_
  rw[<- (rel.val k).isSome_eq,<-l]
  exact h _ (I.tok _)
 ·subst c
  cases(show u=Value.ref b from d)
  obtain⟨z,hd,xs,rel,dd⟩:=gA I.hok e
  refine wpAny_in_heap (dB f) (gW I.hok i) hd dd ?_
  have q:=(rel.val k).isSome_eq
  rw[cU]at q
  rw[<-q,<-l]
  exact h _ (I.tok _)
theorem zJs {Q:ae->ah->Prop}(f:A.units+1<cLine)(I:Inv X pins σ H s)(g:vD H a y o)(d:zQ y u)(h:∀s',Inv X pins σ H s'->Q (.bool (!o.isSome)) s') :
  wpAny (model X.prog X.w) A (compareOp .NotIn u (.ref a)) Q E s:=by
 rcases g with⟨kvs,k,e,c,l⟩|⟨kvs,k,b,e,c,i,l⟩
 ·subst c
  obtain⟨z,hd,vs,rel,dd⟩:=qY I.hok e
  refine wpAny_notIn_of (k8 d) hd dd.mapOf ?_
  rw[<- (rel.val k).isSome_eq,<-l]
  exact h _ (I.tok _)
 ·subst c
  cases(show u=Value.ref b from d)
  obtain⟨z,hd,xs,rel,dd⟩:=gA I.hok e
  refine wpAny_notIn_heap (dB f) (gW I.hok i) hd dd ?_
  have q:=(rel.val k).isSome_eq
  rw[cU]at q
  rw[<-q,<-l]
  exact h _ (I.tok _)
theorem zBR {h':bc}{t':Nat}{c:HO}(I:Inv X pins σ H s)(d:Mut (H a))(f:fR a s.heap h')(he:∃q,h'.get? a=some q)(new:yT X.prog X.w (upd H a c) h' a c) :
  Inv X pins σ (upd H a c) {s with heap:=h',toks:=t'} :=
 I.write (x:=a) (e:=a) d (.inl rfl) (fun b q g z=>(f.2 b g).trans z) he new
theorem zBS {P:aw}{w:aI}{H':Hp}{h':bc}{kvs:List (zX×V)}{vs:List (zX×ae)}(z:kvs.length<=sizeLine)(hd:(a==sysModules)=false)(rel:KV kvs vs)(dd:h'.DictOf (uH P w) a vs) :
  yT P w H' h' a (.dK kvs):=⟨z,hd,vs,rel,dd⟩
theorem zJt {H':Hp}{Q:Unit->ah->Prop}(C:A.units+1<cLine)(I:Inv X pins σ H s)(g:qZ H a y v H')(p:zQ y u)(t:zQ v r)(h:∀s',Inv X pins σ H' s'->Q () s') :
  wpAny (model X.prog X.w) A (setItem (.ref a) u r) Q E s:=by
 rcases g with⟨kvs,k,e,i,l,j⟩|⟨kvs,k,b,e,i,x,l,j⟩
 ·subst i j
  obtain⟨z,hd,vs,rel,dd⟩:=k9 I.hok e
  have m:vs.length<=sizeLine:=by rw[<-rel.length];exact z
  have hl:(vL kvs k v).length<=sizeLine:=by have:=zCf kvs k v;omega
  refine wpAny_setItem_pairs (hsz:=m) (k8 p) dd fun h' d n=>h _ ?_
  have he:∃q,h'.get? a=some q:=let⟨q,_,_,f,_⟩:=d;⟨q,f⟩
  exact zBR I (by rw[e];exact True.intro) n he (zBS hl hd (rel.put k t) d)
 ·subst i j
  cases(show u=Value.ref b from p)
  obtain⟨z,hd,xs,rel,dd⟩:=zJp I.hok e
  have m:xs.length<=sizeLine:=by rw[<-d6 rel];exact z
  have hl:(vL kvs k v).length<=sizeLine:=by have:=zCf kvs k v;omega
  refine wpAny_setItem_heap (hsz:=m) (dB C) (gW I.hok x) dd fun h' d n=>h _ ?_
  obtain⟨q,D,ep,f,F,G,J,_,L⟩:=d
  refine zBR I (by rw[e];exact True.intro) n ⟨q,f⟩ ⟨hl,hd,_,(rel.put k x t).keeps fun c M B=>?_,q,D,ep,f,F,G,J,L⟩
  rw[zJ (zBD B e (fun z=>nomatch z))]
  exact B
end
section
variable{X:Cx}{pins:List (af×Obj)}{σ:St}{H:Hp}{s:ah}{a:af}{kvs:List (zX×V)}{k:zX}{u:ae}{A:bB}{E:ae->ah->Prop}
theorem zJu {v:V}{more:List ae}{Q:ae->ah->Prop}(I:Inv X pins σ H s)(e:H a=some (.dK kvs))(d:zQ (kV k) u)(l:yI kvs k=some v)(g:more=[]\/∃x,more=[x])
  (h:∀b s',Inv X pins σ (upd H a (.dK (k6 kvs k))) s'->zQ v b->Q b s'):wpAny (model X.prog X.w) A (call (.builtin "dict.pop") (.ref a::u::more)) Q E s:=by
 obtain⟨z,hd,vs,rel,dd⟩:=k9 I.hok e
 obtain⟨b,j,f⟩:=vQ.some_of (v:=v) (o:=valueAt vs k) (by rw[<-l];exact rel.val k)
 have m:(keyPart u).isSome=true:=by
  cases k with
  |inl i=>obtain⟨t,q⟩:=(show∃t,u=Value.int i t from d);subst q;rfl
  |inr x=>obtain⟨t,q⟩:=(show∃t,u=Value.str x t from d);subst q;rfl
 have n:argsOk "dict.pop" ⟨.ref a::u::more,[]⟩:=by
  rcases g with q|⟨x,q⟩
  ·subst q;exact PySem.F.args_dict_pop_2 _ _
  ·subst q;exact PySem.F.args_dict_pop_3 _ _ _
 refine fT iM dd.typeIs PySem.F.entry_dict_pop n (meets_dict_pop_there (uH X.prog X.w) a (k8 d) more g m)
  ⟨vs,b,dd,by rw[<-rel.length];exact z,j,fun h' c p=>h b _ ?_ f⟩
 have he:∃q,h'.get? a=some q:=let⟨q,_,_,r,_⟩:=c;⟨q,r⟩
 exact zBR I (by rw[e];exact True.intro) p he (zBS (bV (zJn kvs k) z) hd (rel.drop k) c)
end
def zFL (i:bq):Prop:=∀ov iv,subscripted i false ov iv=operate [ov,iv] (getItem ov iv)
theorem zJv {prog:aw}{w:aI}{A:bB}{E:ae->ah->Prop}{s:ah}{env:Env}{value slice:bq}{pos:Pos}{T id:String}{Q:ae->ah->Prop}
  (hl:typeLookup (.type T) "__getitem__"=pure (some (.builtin id))) (f:zFL slice)
  (h:wpAny (model prog w) A (eval value env) (fun o c=>wpAny (model prog w) A (eval slice env) (fun i a=>a.TypeIs o T/\wpAny (model prog w) A (getItem o i) Q E a) E c) E s) :
  wpAny (model prog w) A (eval (.Subscript value slice pos) env) Q E s:=by
 refine mU (bX h (fun o c h₁=>bX h₁ (fun i a b=>?_) fun _ _ x=>x) fun _ _ x=>x)
 obtain⟨d,b⟩:=b
 unfold subscriptTail
 refine aE ?_
 rw[getitemInPython_of_ne d.not_modules]
 refine aE (wpAny_specialOf d hl ?_)
 have fin:wpAny (model prog w) A (subscripted slice false o i) (fun r e=>wpAny (model prog w) A (letTemporaryGo value o r>>=fun _=>pure r) Q E e) E a:=by
  rw[f o i]
  exact wpAny_operating (bX b (fun r e g=>aE (wpAny_letTemporaryGo (bw g))) fun _ _ x=>x)
 first
  |exact bw (aE fin)
  |exact aE (bw (aE fin))
  |exact aE fin
theorem zJw {X:Cx}{c:List (af×Obj)}{σ:St}{H:Hp}{s:ah}{a:af}{y:V}{o:Option V}(I:Inv X c σ H s)(g:vD H a y o):s.TypeIs (.ref a) "dict" :=by
 rcases g with⟨kvs,k,e,_,_⟩|⟨kvs,k,b,e,_,_,_⟩
 ·obtain⟨_,_,vs,_,dd⟩:=qY I.hok e
  exact dd.typeIs
 ·obtain⟨_,_,xs,_,dd⟩:=gA I.hok e
  exact dd.typeIs
def zBT (td ty:TE):TE:=fun σ H Q=>td σ H fun x H1=>ty σ H1 fun y H2=>∃a v,x=.ref a/\vD H2 a y (some v)/\Q v H2
def zJx (ty td:TE):TE:=fun σ H Q=>ty σ H fun y H1=>td σ H1 fun x H2=>∃a o,x=.ref a/\vD H2 a y o/\Q (.bl o.isSome) H2
def zJy (ty td:TE):TE:=fun σ H Q=>ty σ H fun y H1=>td σ H1 fun x H2=>∃a o,x=.ref a/\vD H2 a y o/\Q (.bl (!o.isSome)) H2
def zCg (td ty tv:TE):TS:=fun D σ H=>tv σ H fun v H1=>td σ H1 fun x H2=>ty σ H2 fun y H3=>∃a H4,x=.ref a/\qZ H3 a y v H4/\D.nx σ H4
section
variable{X:Cx}{o i e value:bq}{pos pos' tpos:Pos}{td ty tv:TE}
theorem uD (f:X.A.units+1<cLine)(j:PE X o td)(hi:PE X i ty)(l:zFL i):PE X (.Subscript o i pos) (zBT td ty):=by
 intro b s σ H Q I h
 refine zJv PySem.F.slot_dict_getitem.lookup l (zK (j b s σ H _ I h) fun u m ⟨x,n,p,q,r⟩=>zK (hi b m σ n _ p r) fun C D ⟨y,t,d,w,a,v,ex,g,z⟩=>?_)
 subst ex
 obtain rfl:u=Value.ref a:=q
 exact⟨zJw d g,zJq f d g w fun E G B c=>⟨v,t,B,c,z⟩⟩
theorem zFM (c:X.A.units+1<cLine)(hi:PE X i ty)(d:PE X o td):PC X .In i o (zJx ty td):=by
 intro b s σ H Q I h
 refine zK (hi b s σ H _ I h) fun z f ⟨y,j,l,m,n⟩=>zK (d b f σ j _ l n) fun u B ⟨x,p,q,r,a,t,ex,g,v⟩=>?_
 subst ex
 obtain rfl:u=Value.ref a:=r
 exact zJr c q g m fun C w=>⟨.bl t.isSome,p,w,rfl,v⟩
theorem zAe (c:X.A.units+1<cLine)(hi:PE X i ty)(d:PE X o td):PC X .NotIn i o (zJy ty td):=by
 intro b s σ H Q I h
 refine zK (hi b s σ H _ I h) fun z f ⟨y,j,l,m,n⟩=>zK (d b f σ j _ l n) fun u B ⟨x,p,q,r,a,t,ex,g,v⟩=>?_
 subst ex
 obtain rfl:u=Value.ref a:=r
 exact zJs c q g m fun C w=>⟨.bl (!t.isSome),p,w,rfl,v⟩
theorem gX (c:X.A.units+1<cLine)(d:PE X o td)(hi:PE X i ty)(f:PE X value tv)(j:swapsWith value (some (.Subscript o i pos')) pos.line X.env=pure false) :
  PS X (.Assign [.Subscript o i pos'] value pos) (zCg td ty tv):=by
 intro b s σ H D I h
 refine wpAny_Assign_Subscript (zK (f b s σ H _ I h) fun r l ⟨v,m,n,p,q⟩=>zK (d b l σ m _ n q) fun u t ⟨x,w,z,B,C⟩=>zK (hi b t σ w _ z C) fun M N ⟨y,O,E,F,a,G,ex,g,J⟩=>?_) j
 subst ex
 obtain rfl:u=Value.ref a:=B
 exact zJt c E g F p fun P L=>⟨σ,G,L,J⟩
end
theorem zJz {P:aw}{w:aI}{H:Hp}(h:bc)(a:sysModules<h.objs.size):yT P w H (h.push {cls:=.type "dict",data:=.dict #[]}) h.objs.size (.dK []) :=
 ⟨bJ _,beq_eq_false_iff_ne.mpr (dG (br a)),[],.nil,pG h⟩
def zKA:TE:=fun _ H Q=>∀p,H p=none->Q (.ref p) (upd H p (.dK []))
section
variable{X:Cx}{pos:Pos}
theorem kL:PE X (.Dict [] [] pos) zKA:=fun b s σ H Q I h=>
 wpAny_Dict_empty ⟨.ref s.heap.objs.size,_,I.laid (a:=s.heap.objs.size) (o:=.dK []) (t':=s.toks) (fun _ _ q=>ao _ q) (ay _) (zJz s.heap I.big),rfl,h _ (I.hok.fresh (ay _))⟩
end
structure M1 (X:Cx) (o:bq) (m:Str) (apos:Pos) (e:bq) (cpos:Pos):Prop where
 base:attributeBase o m X.env (eval o X.env)=eval o X.env
 few:((backTo cpos (starEach [e] X.env)).all (fun x=>!x.1)&& (backToKw cpos (keywordEach [] X.env)).all (fun x=>x.1.isSome)
  &&decide (([e]:List bq).length+([]:List jc).length+(if([]:List jc).isEmpty then 0 else 1)<30))=true
 line:(apos.endLine==cpos.line)=true
 trees:backTo cpos (starEach [e] X.env)=[(false,eval e X.env)]
structure M2 (X:Cx) (o:bq) (m:Str) (apos:Pos) (e f:bq) (cpos:Pos):Prop where
 base:attributeBase o m X.env (eval o X.env)=eval o X.env
 few:((backTo cpos (starEach [e,f] X.env)).all (fun x=>!x.1)&& (backToKw cpos (keywordEach [] X.env)).all (fun x=>x.1.isSome)
  &&decide (([e,f]:List bq).length+([]:List jc).length+(if([]:List jc).isEmpty then 0 else 1)<30))=true
 line:(apos.endLine==cpos.line)=true
 trees:backTo cpos (starEach [e,f] X.env)=[(false,eval e X.env),(false,eval f X.env)]
def IsD (H:Hp)(a:af):Prop:=(∃kvs,Rd H a (.dK kvs))\/∃kvs,Rd H a (.dT kvs)
theorem zFN {X:Cx}{f:List (af×Obj)}{σ:St}{H:Hp}{s:ah}{a:af}(I:Inv X f σ H s)(d:IsD H a) :
  s.TypeIs (.ref a) "dict"/\ (∀b,Value.ref a=.ref b->∃c,s.heap.get? b=some c/\c.dict=none)/\(a==sysModules)=false:=by
 rcases d with⟨kvs,e⟩|⟨kvs,e⟩
 ·obtain⟨_,hd,vs,_,dd⟩:=qY I.hok e
  refine⟨dd.typeIs,fun b q=>?_,hd⟩
  cases q
  obtain⟨c,_,_,g,h,_⟩:=dd
  exact⟨c,g,h.2.1⟩
 ·obtain⟨_,hd,xs,_,dd⟩:=gA I.hok e
  refine⟨dd.typeIs,fun b q=>?_,hd⟩
  cases q
  obtain⟨c,_,_,g,h,_⟩:=dd
  exact⟨c,g,h.2.1⟩
section
variable{X:Cx}{pins:List (af×Obj)}{σ:St}{H:Hp}{s:ah}{a:af}{y d:V}{u r:ae}{o:Option V}{A:bB}{E:ae->ah->Prop}
theorem zKB {Q:ae->ah->Prop}(j:A.units+1<cLine)(I:Inv X pins σ H s)(g:vD H a y o)(f:zQ y u)(rd:zQ d r)(h:∀i s',Inv X pins σ H s'->zQ (o.getD d) i->Q i s') :
  wpAny (model X.prog X.w) A (call (.builtin "dict.get") [.ref a,u,r]) Q E s:=by
 rcases g with⟨kvs,k,e,c,l⟩|⟨kvs,k,b,e,c,m,l⟩
 ·subst c
  obtain⟨z,hd,vs,rel,dd⟩:=qY I.hok e
  refine fT e7 dd.typeIs ir (h9 _ _ _) (meets_dict_get_default (uH X.prog X.w) a (k8 f) hd r) ⟨_,dd.mapOf,h _ _ (I.tok _) ?_⟩
  rw[l]
  exact(rel.val k).getD rd
 ·subst c
  cases(show u=Value.ref b from f)
  obtain⟨z,hd,xs,rel,dd⟩:=gA I.hok e
  refine fT e7 dd.typeIs ir (h9 _ _ _) (meetsH_dict_get_default (tupleKind (kB X.prog X.w)) a b hd r) ⟨dB j,k,xs,gW I.hok m,dd,h _ _ (I.tok _) ?_⟩
  rw[l]
  exact(rel.val k).getD rd
end
def zCh (td ty tx:TE):TE:=fun σ H Q=>td σ H fun x H1=>∃a,x=.ref a/\IsD H1 a/\ty σ H1 fun y H2=>tx σ H2 fun z H3=>∃o,vD H3 a y o/\Q (o.getD z) H3
def zKC (td ty:TE):TE:=fun σ H Q=>td σ H fun x H1=>∃a,x=.ref a/\IsD H1 a/\ty σ H1 fun y H2=>∃kvs k v,H2 a=some (.dK kvs)/\y=kV k/\yI kvs k=some v/\Q v (upd H2 a (.dK (k6 kvs k)))
section
variable{X:Cx}{o e f:bq}{apos cpos:Pos}{td ty tx:TE}
theorem gY (j:X.A.units+1<cLine)(l:PE X o td)(he:PE X e ty)(n:PE X f tx)(m:M2 X o "get" apos e f cpos):PE X (.Call (.Attribute o "get" apos) [e,f] [] cpos) (zCh td ty tx):=by
 intro b s σ H Q I h
 refine la m.base m.few m.line dw e7 PySem.F.type_dict_get (zK (l b s σ H _ I h) fun u p ⟨x,q,i,r,a,ex,d,t⟩=>?_)
 subst ex
 obtain rfl:u=Value.ref a:=r
 obtain⟨v,w,_⟩:=zFN i d
 refine⟨v,w,?_⟩
 rw[m.trees]
 refine dA rfl (dN (eo (zK (he b p σ q _ i t) fun P B ⟨y,C,D,E,G⟩=>
  eo (zK (n b B σ C _ D G) fun R T ⟨z,J,L,M,U,g,N⟩=>gu ?_))))
 exact zKB j L g E M fun W Y O c=>⟨_,J,O,c,N⟩
theorem zFO (i:PE X o td)(he:PE X e ty)(m:M1 X o "pop" apos e cpos):PE X (.Call (.Attribute o "pop" apos) [e] [] cpos) (zKC td ty):=by
 intro b s σ H Q I h
 refine la m.base m.few m.line dw iM PySem.F.type_dict_pop (zK (i b s σ H _ I h) fun u j ⟨x,n,g,p,a,ex,d,q⟩=>?_)
 subst ex
 obtain rfl:u=Value.ref a:=p
 obtain⟨r,t,_⟩:=zFN g d
 refine⟨r,t,?_⟩
 rw[m.trees]
 refine dA rfl (dN (eo (zK (he b j σ n _ g q) fun E G ⟨y,J,w,z,kvs,k,v,A,B,l,C⟩=>gu ?_)))
 subst B
 exact zJu w A z l (.inl rfl) fun L M D c=>⟨v,_,D,c,C⟩
end
section
variable{X:Cx}{pins:List (af×Obj)}{σ:St}{H:Hp}{s:ah}{a:af}{kvs:List (zX×V)}{A:bB}{E:ae->ah->Prop}
theorem zKD {Q:ae->ah->Prop}(I:Inv X pins σ H s)(e:Rd H a (.dK kvs))(h:∀p s',H p=none->Inv X pins σ (upd H p (.dK kvs)) s'->Q (.ref p) s'):wpAny (model X.prog X.w) A (call (.type "dict") [.ref a]) Q E s:=by
 obtain⟨z,hd,vs,rel,dd⟩:=qY I.hok e
 refine kt_call_dict hd dd (by rw[<-rel.length];exact z) fun h' c f=>?_
 refine h _ _ (I.hok.fresh (ay _)) (I.laid (a:=s.heap.objs.size) (o:=.dK kvs) (t':=s.toks) (fun b q d=>?_) (ay _) (zBS z (beq_eq_false_iff_ne.mpr (dG (br I.big))) rel c))
 exact(f.2 b (br (aD d))).trans (ao _ d)
end
end L2
namespace Att
open PySem PySem.W PySem.Calls PyProof.Rows
theorem zKE {P:mK}{h:bc}:∀(ns:List Int) (vs:List ae),WellAll P h vs (ns.map WData.int)->ku vs ns:=by
 intro ns
 induction ns with
 |nil=>
  intro vs w
  rw[il]at w
  cases w
  exact .nil
 |cons n ns ih=>
  intro vs w
  rw[aF]at w
  cases w with
  |cons a b=>
   cases a
   exact .cons _ _ (ih _ b)
theorem zKF {l:OpenLaw}{n:Nat}(p:l.most=some n){P:mK}{h:bc}{args:List WData}{b:List ae}
  (c:l.row.toRowW.claim.pre args=true) (j:WellAll P h b args) :
  ∃a vs ns,b=[Value.ref a]/\args=[WData.list (ns.map WData.int)]/\h.get? a=some {cls:=.type "list",data:=.seq vs.toArray}/\ku vs ns/\ns.length<=n:=by
 have m:WShape.hasAll [] args [.list .int]=true:=(pre_splitW c).1
 have o:l.pre.holds [] {args:=args}=true:=(pre_splitW c).2
 obtain⟨d,r,rfl,s,t⟩:=hasAllW_cons m
 obtain rfl:=hasAllW_nil t
 obtain⟨xs,rfl,u⟩:=hasW_list s
 obtain⟨ns,rfl⟩:=items_int u
 have e:ns.length<=n:=by
  unfold OpenLaw.pre at o
  have g:(WTm.not (.lt (.lit (.int (n:Int))) (.len (.arg 0)))).holds [] {args:=[.list (ns.map .int)]}=true:=by
   have g:=(holds_andW o).1
   rw[p]at g
   exact g
  have i:=condW_of g (w_not (w_lt w_lit (w_len_list (w_arg rfl))))
  rw[ai]at i
  refine Nat.le_of_not_lt fun q=>?_
  have v:(n:Int)<((ns.length:Nat):Int):=by omega
  first
   |(rw[decide_eq_true v]at i;exact absurd i (by decide))
   |(simp at i;omega)
 cases j with
 |cons w x=>
  cases x
  cases w with
  |list y f=>exact⟨_,_,ns,rfl,rfl,y,zKE ns _ f,e⟩
theorem zKG (l:OpenLaw)(args:List WData):l.row.toRowW.claim.post args (.bool true) args=true :=
 postW_of (r:=l.row.toRowW) (X:=(true==true))
  (show pe [] (.bool true) .bool=true by first|rfl|decide|simp[pe,WShape.arms,WShape.armsAll])
  (show(WTm.eq .res (.lit (.bool true))).value [] {args:=args,res:=some (.bool true),after:=args}=some (.bool (true==true))from w_eq_bool (w_res rfl) w_lit) rfl
theorem attach_call {l:OpenLaw}{n:Nat}{q:aw}{loose:List Str}{XP:(Str->Option ae)->bc->Prop}{YP:aI->bc->Prop}{d:DefRec}
  (A:l.most=some n) (p:d.params.defaults=[])
  (call:∀(w:aI) (s₀ b:ah) (mg s:Str->Option ae) (g:af) (o:Obj) (pm m c:ae) (a:af) (vs:List ae) (ns:List Int),
   Ground q loose [] XP w s₀ mg s b.heap->YP w b.heap->
   b.heap.get? g=some o->o.data=.func (docDef d.name d.params d.body d.scope pm m c)->b.heap.CodeRec m d.name->mg d.name=some (.ref g)->
   b.heap.get? a=some {cls:=.type "list",data:=.seq vs.toArray}->ku vs ns->ns.length<=n->b.gens=#[]->
   codeAny (model l.prog w) callerA (.call (.ref g) ⟨[.ref a],[]⟩) (fun r s'=>r=.ok (.ret (.bool true))/\OldK b.heap s'.heap/\s'.os=b.os/\fP s'.gens) b) :
  WalkO q loose XP YP l.row.toRowW d [] (fun f vs=>mY f vs):=by
 intro w s₀ b mg s G Y g o pm m c B kV C hd t x u D args y as h z E v F
 obtain rfl:B=.none:=Dflts.none x p
 obtain rfl:kV=.none:=Dflts.noKw x
 obtain⟨a,vs,ns,rfl,rfl,i,e,j⟩:=zKF A h v
 refine enter_call (dS (call w s₀ b mg s g o pm m c a vs ns G Y C (fd_plain hd) t u i e j D) fun r s' H=>?_)
 obtain⟨rfl,I,J,L⟩:=H
 exact⟨.inl ⟨.bool true,.bool true,[],rfl,fun _=>rfl,.bool true,zKG l _,fun _=>⟨List.Pairwise.nil,fun _ M=>(nomatch M)⟩⟩,I,J,L⟩
end Att
namespace L2
open PySem PySem.Spec PyProof.Rows
theorem zFP:∀{vs:List ae}{ns:List Int},ku vs ns->zL (ns.map V.int) vs
 |_,_,.nil=>.nil
 |_,_,.cons n t h=>.cons ⟨t,rfl⟩ (zFP h)
def zCi (H:Hp):Prop:=∀b,H b=none\/∃o xs,H b=some (.frz o (.lst xs))
theorem zKH {P:aw}{w:aI}{K:aa}{mg D:Str->Option ae}{CX:vV}{k:Nat}{E a:af}{fd:ar}{x:Str}{sp:Sp}{c:ah}{vs:List ae}{ns:List Int}
  (O:K.In c.heap) (j:c.heap.Ns mainGlobals mg) (f:c.heap.Ns builtinsNs D) (G:∀x:Str,x≠"__name__"->D x=bootBuiltins x) (l:c.heap.NoLimit) (W:c.gens=#[])
  (C:c.heap.get? a=some {cls:=.type "list",data:=.seq vs.toArray}) (hi:ku vs ns) (hl:ns.length<=sizeLine) (X:Room k callerA)
  (F:∀base:bc,K.In base->base.Ns mainGlobals mg->FnOk P w K mg base CX k E fd [x] sp) (i:∀(s:ah) (u:ae),jb s fd ⟨[u],[]⟩ [(x,u)])
  (I:∀H:Hp,zCi H->yF K H a (ns.map V.int)->sp [.ref a] H (fun v _=>v=.bl true) fun _ _ _=>False)
  (J:∀H e s',CX [] H c (fun _ _ _=>False) e s'->False) :
  codeAny (model P w) callerA (.call (.ref E) ⟨[.ref a],[]⟩) (fun r s'=>r=.ok (.ret (.bool true))/\OldK c.heap s'.heap/\s'.os=c.os/\fP s'.gens) c:=by
 have Q:=zFP hi
 have p:=hi.length
 have core:∀H:Hp,zCi H->yF K H a (ns.map V.int)->z4 P w H c.heap->(∀b,H b≠none->b=a)->(H a≠none->K.lookup a=none)->
   codeAny (model P w) callerA (.call (.ref E) ⟨[.ref a],[]⟩) (fun r s'=>r=.ok (.ret (.bool true))/\OldK c.heap s'.heap/\s'.os=c.os/\fP s'.gens) c:=by
  intro H R Y hok T Z
  have base_of:∀{b:af} {o:Obj},c.heap.get? b=some o->H b=none->(jN c.heap H).get? b=some o:=fun e n=>zIP e n
  have L:∀{b:af} {o:Obj} {t:Array DictEntry} {ep:Nat},c.heap.get? b=some o->o.data=.dict t ep->H b=none:=fun{b o t ep} e d=>by
   cases q:H b with
   |none=>rfl
   |some u=>
    have M:b=a:=T b (by rw[q];simp)
    subst M
    rw[C]at e;cases e
    have d':Data.seq vs.toArray _=Data.dict t ep:=d
    cases d'
  have g:∀{b:af} {m:Str->Option ae},c.heap.Ns b m->(jN c.heap H).Ns b m:=fun{b m} ⟨o,t,ep,e,d,r⟩=>⟨o,t,ep,base_of e (L e d),d,r⟩
  have y:K.In (jN c.heap H):=fun b o e=>base_of (O b o e) (by
   cases q:H b with
   |none=>rfl
   |some u=>
    have M:b=a:=T b (by rw[q];simp)
    subst M
    rw[Z (by rw[q];simp)]at e;cases e)
  have hM:Mod K mg (jN c.heap H):=⟨y,g j,⟨D,g f,G⟩,let⟨mc,h1,h2⟩:=l;⟨mc,g h1,h2⟩⟩
  have e0:Env0 P w K mg (jN c.heap H) callerA [] c H:=⟨rfl,hM,fun b o e=>zIQ e,dQ (zIO _ _),trivial,fun b f=>absurd (show b∈([]:List af)from f) (by simp),hok,.of_eq W⟩
  refine dS ((F _ y (g j)).run callerA [] c H ⟨[.ref a],[]⟩ [.ref a] [.ref a] _ _ X e0 (i c (.ref a)) (.cons rfl .nil) (I H R Y)) fun r s' h=>?_
  cases r with
  |error e=>exact(J H e s' h).elim
  |ok fl=>
   cases fl with
   |next=>exact cf h
   |brk=>exact cf h
   |cont=>exact cf h
   |ret u=>
    obtain⟨v,H',os,bare,un,A,r',q⟩:=h
    have q':v=.bl true:=q
    subst q'
    obtain rfl:u=Value.bool true:=r'
    refine⟨rfl,OldK.of_keep fun b o e=>?_,os,bare⟩
    cases q:H b with
    |none=>exact un.keep b o e q (by intro z;exact absurd (show b∈([]:List af)from z) (by simp)) (by simp)
    |some u=>
     rcases R b with z|⟨ob,xs,z⟩
     ·rw[q]at z;cases z
     ·have z2:=un.frzs b ob _ z
      obtain⟨U,_⟩:=hok b _ z
      obtain⟨e2,_⟩:=A b _ z2
      rw[e]at U;cases U
      exact e2
 cases N:K.lookup a with
 |some o=>
  have e:=O a o N
  rw[C]at e
  cases e
  refine core (fun _=>none) (fun _=>.inl rfl) (.inr ⟨_,vs.toArray,_,N,rfl,rfl,rfl,by rw[aT,p];exact hl,by simpa using Q⟩) (fun b u z=>by have B:(none:Option HO)=some u:=z;cases B) (fun b z=>absurd rfl z) fun z=>absurd rfl z
 |none=>
  refine core (fun b=>if b=a then some (.frz {cls:=.type "list",data:=.seq vs.toArray} (.lst (ns.map V.int)))else none) (fun b=>?_) (.inl (.inr ⟨{cls:=.type "list",data:=.seq vs.toArray},if_pos rfl⟩)) (fun b u z=>?_) (fun b z=>?_) fun _=>N
  ·by_cases f:b=a
   ·exact .inr ⟨_,_,if_pos f⟩
   ·exact .inl (if_neg f)
  ·by_cases f:b=a
   ·have B:=(if_pos f).symm.trans z
    cases B
    subst f
    exact⟨C,by rw[ai];exact hl,vs,_,Q,C⟩
   ·have B:=(if_neg f).symm.trans z
    cases B
  ·by_cases f:b=a
   ·exact f
   ·exact absurd (if_neg f) z
theorem zKI {l:iI}{n k:Nat}{q:aw}{loose:List Str}{XP:(Str->Option ae)->bc->Prop}{YP:aI->bc->Prop}{d:DefRec}{K:mK->aa}{CX:aI->vV}{sp:aI->Sp}{x:Str}
  (B:l.most=some n) (p:n<=sizeLine) (r:d.params.defaults=[]) (C:Room k callerA)
  (D:∀(w:aI) (h:bc),YP w h->(K w.params).In h)
  (F:∀(w:aI) (mg:Str->Option ae) (m:af) (h:bc),(K w.params).In h->h.Ns mainGlobals mg->mg d.name=some (.ref m)->
   ∃fd:ar,(∀(s:ah) (u:ae),jb s fd ⟨[u],[]⟩ [(x,u)])/\
    ∀base:bc,(K w.params).In base->base.Ns mainGlobals mg->FnOk l.prog w (K w.params) mg base (CX w) k m fd [x] (sp w))
  (t:∀(w:aI) (H:Hp) (a:af) (ns:List Int),ns.length<=n->zCi H->yF (K w.params) H a (ns.map V.int)->sp w [.ref a] H (fun v _=>v=.bl true) fun _ _ _=>False)
  (y:∀(w:aI) (H:Hp) (s:ah) (e:ae) (s':ah),CX w [] H s (fun _ _ _=>False) e s'->False) :
  nX q loose XP YP l.row.toRowW d [] (fun f vs=>mY f vs):=by
 refine Att.attach_call B r fun w s₀ E mg Q m o pm R I a vs ns G Y U hd J z j i c L=>?_
 have A:=D w _ Y
 obtain⟨fd,M,N⟩:=F w mg m _ A G.T.g z
 exact zKH A G.T.g G.T.b G.T.builtins G.T.nolimit L j i (bV c p) C N M (fun H O P=>t w H a ns c O P) fun H e s'=>y w H E e s'
abbrev zS:vV:=fun _ _ _ _ _ _=>False
abbrev E0:XK:=fun _ _ _=>False
theorem gZ {X:Cx}:uJ zS X E0:=fun _ _ _ _ _ _ _ h=>h.elim
structure Fun (K:aa) (x qual:Str) (st:bR) (f:af) (fd:ar):Prop where
 ex:∃(oc:ae) (od:Option af) (kV doc pm:ae) (an:Option af) (cdv ct:ae) (osl:Array (Option ae)),
  fd=cp x qual (defArgs st) (defBody st) (defScope st) .none kV doc pm an cdv ct/\K.lookup f=some ⟨oc,od,.func fd,osl⟩/\de K cdv qual=true
 kp:bP K (.ref f)=true
section
variable{P:aw}{w:aI}{K:aa}{mg:Str->Option ae}{base:bc}
theorem Fun.ok {x a:Str}{st:bR}{f:af}{fd:ar}{N d:List Str}{k:Nat}{sp:Sp}(F:Fun K x a st f fd)(S:FnScope N d (defScope st))(len:∀vs H Q E,sp vs H Q E->vs.length=d.length)
  (c:∀(b:ae) (A:bB) (outer:List Env) (s:ah) (H:Hp) (vs:List V) (Q:VK) (E:XK),Room k (A.deeper (envOfC a (defScope st) s.heap.objs.size f b))->sp vs H Q E->
   ∃t,vO (qW zS P w K mg base N a (defScope st) f b A outer s H E).nox (defBody st) t/\t {nx:=fun _ H'=>Q .non H',rt:=Q} (v8 N vs) H):FnOk P w K mg base zS (k+1) f fd d sp:=by
 obtain⟨n,od,kV,i,pm,o,b,ct,j,rfl,l,e⟩:=F.ex
 refine zFA l e S len fun A outer s H vs Q E m g=>?_
 obtain⟨t,h,q⟩:=c b A outer s H vs Q E m g
 exact⟨t,h.nox,q⟩
theorem Fun.binds {x a:Str}{st:bR}{f:af}{fd:ar}{d:List Str}(F:Fun K x a st f fd)
  (h:∀(kV b pm:ae) (e:Option af) (c ct:ae) (us:List ae),us.length=d.length->bindArgs (cp x a (defArgs st) (defBody st) (defScope st) .none kV b pm e c ct) ⟨us,[]⟩=pure (d.zip us)):vF K fd d []:=by
 obtain⟨j,od,kV,b,pm,e,c,ct,g,rfl,l,i⟩:=F.ex
 exact .all (h kV b pm e c ct)
theorem gB {x a:Str}{st:bR}{f:af}{h:ae}{od g:Option af}{e:Array (Option ae)}{kV d pm b ct:ae}(l:K.lookup f=some ⟨h,od,.func (cp x a (defArgs st) (defBody st) (defScope st) .none kV d pm g b ct),e⟩)
  (c:de K b a=true) (k:bP K (.ref f)=true):Fun K x a st f (cp x a (defArgs st) (defBody st) (defScope st) .none kV d pm g b ct):=⟨⟨h,od,kV,d,pm,g,b,ct,e,rfl,l,c⟩,k⟩
end
theorem vT {A:bB}{k:Nat}(a:Room k A):A.units+1<cLine:=Nat.lt_of_le_of_lt (Nat.add_le_add_left (by decide:1<=64) _) a.units
section
variable{X:Cx}
theorem pv (i:Nat){x:Str}{pos:Pos}(b:X.N[i]?=some x:=by rfl)(c:Vis X.env.scope x:=by first|exact Or.inl rfl|exact Or.inr (Or.inl rfl)|exact Or.inr (Or.inr rfl))(hd:(x==("__debug__" : Str))=false:=by decide)
  (a:(x==("__classdict__" : Str))=false:=by decide):PE X (.Name x pos) (vS i):=zIU b c hd a
end
theorem yA {A B:Prop}(h:B):if false=true then A else B:=by
 rw[if_neg aC]
 exact h
theorem yJ {A B:Prop}(h:A):if true=true then A else B:=by
 rw[if_pos rfl]
 exact h
theorem kM {c A B:Prop} [Decidable c] (a:c)(h:B):if(!decide c)=true then A else B:=by
 rw[decide_eq_true a]
 exact yA h
def zB (H H':Hp):Prop:=∀b o,H b=some o->H' b=some o
theorem zB.refl (H:Hp):zB H H:=fun _ _ h=>h
theorem zB.trans {H d e:Hp}(a:zB H d)(b:zB d e):zB H e:=fun c o h=>b c o (a c o h)
theorem zB.free {H H':Hp}(e:zB H H'){l:af}(h:H' l=Option.none):H l=Option.none:=by
 cases q:H l with
 |none=>rfl
 |some o=>
  rw[e l o q]at h
  cases h
theorem zB.seq {K:aa}{H H':Hp}{a:af}{xs:List V}(e:zB H H')(h:yF K H a xs):yF K H' a xs:=by
 rcases h with(h|⟨o,h⟩)|h
 ·exact .inl (.inl (e _ _ h))
 ·exact .inl (.inr ⟨o,e _ _ h⟩)
 ·exact .inr h
end L2
end
section
namespace L2
open PySem
section
variable{env:Env}
theorem zCj:∀(l:List (Str×gd)) (d:List (Str×af)),(∀x∈l,x.2=.free->∃c,env.cells.lookup x.1=some c)->(∀x c,d.lookup x=some c->env.cells.lookup x=some c)->
  ∃cl,(forIn l d (fun x r=>if(x.2==NameKind.free)=true then do let a<-cellOf env x.1;pure (ForInStep.yield ((x.1,a)::r))else pure (ForInStep.yield r)):Sem (List (Str×af)))=pure cl/\
   (∀x c,cl.lookup x=some c->env.cells.lookup x=some c)/\∀x,((x,NameKind.free)∈l\/∃c,d.lookup x=some c)->∃c,cl.lookup x=some c
 | [],d,_,i=>⟨d,rfl,i,fun x h=>h.elim (fun z=>by cases z) id⟩
 |(n,k)::l,d,h,i=>by
  have hl:∀x∈l,x.2=.free->∃c,env.cells.lookup x.1=some c:=fun x b=>h x (au _ b)
  rw[my]
  by_cases j:k=.free
  ·subst j
   obtain⟨c,q⟩:=h (n,.free) (av ..) rfl
   obtain⟨cl,e,m,o⟩:=zCj l ((n,c)::d) hl fun x p z=>by
    by_cases b:x=n
    ·subst b
     rw[e8]at z
     cases z;exact q
    ·have f:(x==n)=false:=by simpa using b
     rw[bE,f]at z
     exact i x p z
   refine⟨cl,?_,m,fun x b=>o x ?_⟩
   ·have s:cellOf env n=pure c:=by unfold cellOf;rw[q]
    simp only[beq_self_eq_true,if_true,s,pure_bind]
    exact e
   ·rcases b with b|⟨p,b⟩
    ·rcases aJ.mp b with b|b
     ·have:x=n:=(bU b).1
      subst this
      exact .inr ⟨c,e8⟩
     ·exact .inl b
    ·by_cases g:x=n
     ·subst g;exact .inr ⟨c,e8⟩
     ·have f:(x==n)=false:=by simpa using g
      exact .inr ⟨p,by rw[bE,f];exact b⟩
  ·obtain⟨cl,e,m,o⟩:=zCj l d hl i
   have t:(k==NameKind.free)=false:=by simpa using j
   refine⟨cl,?_,m,fun x b=>o x ?_⟩
   ·simp only[t,gi,if_false,pure_bind]
    exact e
   ·rcases b with b|b
    ·rcases aJ.mp b with b|b
     ·exact absurd (bU b).2.symm j
     ·exact .inl b
    ·exact .inr b
theorem zKJ {scope:dv}(h:∀x∈scope.names,x.2=.free->∃c,env.cells.lookup x.1=some c) :
  ∃cl,closureFor scope env=pure cl/\(∀x c,cl.lookup x=some c->env.cells.lookup x=some c)/\∀x,(x,NameKind.free)∈scope.names->∃c,cl.lookup x=some c:=by
 obtain⟨cl,e,a,b⟩:=zCj scope.names [] h (fun x c z=>by simp at z)
 refine⟨cl,?_,a,fun x d=>b x (.inl d)⟩
 unfold closureFor
 dsimp only
 refine Eq.trans (congrArg (· >>=pure) ?_) (Eq.trans (congrArg (· >>=pure) e) (by simp))
 rfl
end
section
variable{prog:aw}{w:aI}{A:bB}{R:Result->ah->Prop}{s:ah}
theorem zKK {a target iter:bq}{b:List bq}{scope:dv}{pos:Pos}{it d:ae}{env:Env}(J:Nat->ah->Prop)
  (e:∀n s,J n s->wpAny (model prog w) A (pyNext it) (fun r g=>match r with
   |none=>R (.ok .next) g
   |some v=>wpAny (model prog w) A (letOwnedTupleGo target it v) (fun _ j=>wpAny (model prog w) A (assign target env v) (fun _ l=>
     wpAny (model prog w) A (forIn b true fun c r=>if r=true then do let ok<-isTrue c env (eval c env);pure (ForInStep.yield ok)else pure (ForInStep.yield r)) (fun ok i=>
      if ok=true then wpAny (model prog w) A (eval a env) (fun x o=>wpAny (model prog w) A (call (.builtin "list.append") [d,x]) (fun _ p=>∃m,m<n/\J m p) (fun _ _=>False) o) (fun _ _=>False) i
      else∃m,m<n/\J m i) (fun _ _=>False) l) (fun _ _=>False) j) (fun _ _=>False) g) (fun _ _=>False) s)
  (n:Nat) (h:J n s):codeAny (model prog w) A (.compLoop (.ListComp a [⟨target,iter,b,0⟩] scope pos) 0 it d env) R s:=by
 refine codeAny_loop rfl J (fun n s z=>?_) n h
 show wpAny _ A ((compTurn (.ListComp a [⟨target,iter,b,0⟩] scope pos) 0 it d env).onRaise (fun x=>noteFrame x env>>=fun _=>theTreesLotGoes x)) _ _ s
 refine wpAny_noted ?_
 have no:∀{α:Type} {t:Sem α} {Q:α->ah->Prop} {E:ae->ah->Prop} {s:ah},wpAny (model prog w) A t Q (fun _ _=>False) s->wpAny (model prog w) A t Q E s:=fun h=>bX h (fun _ _ q=>q) fun _ _ f=>f.elim
 rw[compTurn_list]
 refine aE (jm (aE (no (bX (e n s z) (fun r g u=>?_) fun _ _ f=>f))))
 cases r with
 |none=>exact bw u
 |some v=>
  refine aE (no (bX u (fun _ j B=>?_) fun _ _ f=>f))
  refine aE (no (bX B (fun _ l C=>?_) fun _ _ f=>f))
  refine aE (no (bX C (fun ok i y=>?_) fun _ _ f=>f))
  cases ok with
  |false=>exact bw ⟨rfl,y⟩
  |true=>
   refine aE (aE (no (bX y (fun x o D=>?_) fun _ _ f=>f)))
   exact aE (no (bX D (fun _ p F=>bw (bw ⟨rfl,F⟩)) fun _ _ f=>f))
end
end L2
end
section
namespace L2
open PySem PySem.Spec PyProof.Rows
theorem z4.track {P:aw}{w:aI}{H:Hp}{h:bc}{a:af}{o:HO}(x:z4 P w H h)(d:H a=none)(new:yT P w (upd H a o) h a o):z4 P w (upd H a o) h:=fun b u e=>by
 by_cases f:b=a
 ·subst f;rw[zH]at e;cases e;exact new
 ·rw[zJ f]at e
  refine(x b u e).stay (fun c v _ q=>q) (fun c q=>?_) fun c xs q=>?_
  ·rw[zJ (vR q d)];exact q
  ·rw[zJ (vR q d)];exact q
theorem z4.but {P:aw}{w:aI}{H:Hp}{h h':bc}{C:af}(x:z4 P w H h)(a:H C=none)(k:∀b u,b≠C->h.get? b=some u->h'.get? b=some u):z4 P w H h':=fun b u e=>by
 refine(x b u e).stay (fun c v d q=>k c v ?_ q) (fun _ q=>q) fun _ _ q=>q
 rintro rfl
 rcases d with z|z
 ·rw[z,e]at a;cases a
 ·rw[z]at a;cases a
theorem zFQ {env:Env}:∀{names:List (Str×gd)}{x:Str},names.lookup x=some .free->
  (names.map fun(n,k)=>if(k==NameKind.free&&env.scope.kind== .function&&env.kindOf n==some .cell)then(n,NameKind.cell)else(n,k)).lookup x=some .cell\/
  (names.map fun(n,k)=>if(k==NameKind.free&&env.scope.kind== .function&&env.kindOf n==some .cell)then(n,NameKind.cell)else(n,k)).lookup x=some .free
 | [],_,h=>by simp at h
 |(n,k)::r,x,h=>by
  rw[aF]
  cases a:x==n with
  |true=>
   rw[bE,a]at h
   cases h
   dsimp only
   split
   ·left;rw[bE,a]
   ·right;rw[bE,a]
  |false=>
   rw[bE,a]at h
   have ih:=zFQ (env:=env) h
   dsimp only
   split
   ·rw[bE,a];exact ih
   ·rw[bE,a];exact ih
theorem zFR {env:Env}:∀{names:List (Str×gd)}{x:Str}{a:gd},(a=.cell\/a=.free)->
  (names.map fun(n,k)=>if(k==NameKind.free&&env.scope.kind== .function&&env.kindOf n==some .cell)then(n,NameKind.cell)else(n,k)).lookup x=some a->∃k,(x,k)∈names/\(k=.cell\/k=.free)
 | [],_,_,_,h=>by simp at h
 |(n,k)::r,x,a,c,h=>by
  rw[aF]at h
  cases b:x==n with
  |true=>
   have e:x=n:=by simpa using b
   subst e
   dsimp only at h
   split at h
   ·rename_i d
    have:k=.free:=by
     rw[bC,bC]at d
     simpa using d.1.1
    exact⟨k,av ..,.inr this⟩
   ·rw[bE,b]at h
    cases h
    exact⟨k,av ..,c⟩
  |false=>
   have h':(r.map fun(n,k)=>if(k==NameKind.free&&env.scope.kind== .function&&env.kindOf n==some .cell)then(n,NameKind.cell)else(n,k)).lookup x=some a:=by
    dsimp only at h
    split at h
    ·rw[bE,b]at h;exact h
    ·rw[bE,b]at h;exact h
   obtain⟨k0,f,g⟩:=zFR (env:=env) c h'
   exact⟨k0,au _ f,g⟩
def uK (X:Cx)(N:List Str)(scope:dv)(cl:List (Str×af))(C:af)(s:ah)(H:Hp)(ex:List af):Cx where
 prog:=X.prog
 w:=X.w
 K:=X.K
 mg:=X.mg
 base:=X.base
 A:=X.A
 N:=N
 s₀:=s
 H₀:=H
 env:=compEnvC scope cl C X.env
 outer:=X.stack
 stack:=X.stack
 ex:=ex
 fn:=fun _=>false
 calm:=X.calm
 pn:=[]
 xe:=fun _ _=>False
structure CompScope (sc:dv) (XN N:List Str) (scope:dv) (caps:List Nat):Prop where
 kind:scope.kind=.function
 nd:N.Nodup
 nocell:∀y∈scope.names,y.2≠.cell
 names:∀y∈scope.names,y.2=.local->scope.names.lookup y.1=some .local
 free:∀y∈scope.names,y.2=.free->sc.names.lookup y.1=some .cell\/sc.names.lookup y.1=some .free
 cap:∀(i:Nat),i<caps.length->∃x,N[i]?=some x/\XN[caps.getD i 0]?=some x/\scope.names.lookup x=some .free/\(sc.names.lookup x=some .cell\/sc.names.lookup x=some .free)
 len:caps.length<=N.length
def qN (caps:List Nat)(n:Nat)(σ:St):St:=caps.map (fun j=>(σ[j]?).join)++aA (n-caps.length) none
def PF (X:Cx)(ifs:List bq)(tc:TT):Prop :=
 ∀(pins:List (af×Obj)) (s:ah) (σ:St) (H:Hp) (Q:Bool->Hp->Prop),Inv X pins σ H s->tc σ H Q->
  wpAny (model X.prog X.w) X.A (forIn ifs true fun c r=>if r=true then do let ok<-isTrue c X.env (eval c X.env);pure (ForInStep.yield ok)else pure (ForInStep.yield r)) (TP X pins σ Q) X.xe s
def zAf:TT:=fun _ H Q=>Q true H
theorem qF {X:Cx}:PF X [] zAf:=fun a s σ H Q I h=>by
 rw[mZ]
 exact bw ⟨H,I,h⟩
theorem zCk {X:Cx}{c:bq}{b:TT}(d:PT X c b):PF X [c] b:=fun a s σ H Q I h=>by
 rw[my]
 refine aE ?_
 rw[if_pos rfl]
 refine aE (zK (d a s σ H Q I h) fun ok e q=>bw ?_)
 show wpAny _ _ (forIn [] ok _) _ _ _
 rw[mZ]
 exact bw q
def zFS (wi:TI)(g:TG)(tc:TT)(te:TE)(caps:List Nat)(n:Nat):TE:=fun σ H Q=>wi σ H fun J H1=>∃W:Nat->Nat->List V->St->Hp->Prop,(∃m,W 0 m [] (qN caps n σ) H1)/\∀i m acc σ' H',W i m acc σ' H'->
 (J.stop i H'/\∀D,H' D=none->Q (.ref D) (upd H' D (.lst acc)))\/
 (J.go i H'/\acc.length<sizeLine/\∀x H2,J.yld i H' x H2->g x σ' H2 fun σ2 H3=>tc σ2 H3 fun b H4=>if b=true then te σ2 H4 fun y H5=>∃m',m'<m/\W (i+1) m' (acc++[y]) σ2 H5 else∃m',m'<m/\W (i+1) m' acc σ2 H4)
section
variable{X:Cx}{pins:List (af×Obj)}{σ:St}{H:Hp}{s:ah}{N:List Str}{scope:dv}{cl:List (Str×af)}{C:af}{fp:List af}{caps:List Nat}
theorem zKL (I:Inv X pins σ H s)(S:CompScope X.env.scope X.N N scope caps)(g:∀x c,cl.lookup x=some c->X.env.cells.lookup x=some c)(n:∀x,(x,NameKind.free)∈scope.names->∃c,cl.lookup x=some c)
  (l:s.heap.objs.size<=C) (h:∀b∈fp,qT X pins H b) (i:∀b∈fp,b<s.heap.objs.size):(uK X N scope cl C s H fp).Ok where
 mod:=I.ok.mod
 kind:=S.kind
 glob:=I.ok.glob
 blt:=I.ok.blt
 above:=l
 inj:=fun x y c a b=>I.ok.inj x y c (g x c a) (g y c b)
 has:=fun x p=>by
  have j:∃f,(f=NameKind.cell\/f=.free)/\(relabel scope X.env).names.lookup x=some f:=by
   rcases p with z|z
   ·exact⟨_,.inl rfl,z⟩
   ·exact⟨_,.inr rfl,z⟩
  obtain⟨f,q,z⟩:=j
  obtain⟨k,m,e⟩:=zFR q z
  rcases e with e|e
  ·exact absurd e (S.nocell _ m)
  ·subst e;exact n x m
 cab:=fun x c z=>by cases z
 hd:=I.ok.hd
 frames:=I.ok.frames
 stk:=.inl rfl
 exf:=fun b d=>by
  obtain⟨_,_,_,_,r,_⟩:=h b d
  exact⟨br (aU (i b d) l),fun x c e=>r x c (g x c e)⟩
 bs:=I.bs
 bsz:=bV I.ok.bsz I.sz
 noex:=fun b o e d=>by
  obtain⟨_,_,_,t,_⟩:=h b d
  rcases t with z|z
  ·exact I.ok.noex b o e z
  ·exact absurd (aU (aD e) (bV I.ok.bsz z)) (bS _)
 exfs:=fun b d z=>by
  obtain⟨_,f1,f2,_⟩:=h b d
  rcases aJ.mp (I.stkSub b z)with e|e
  ·exact f1 e
  ·exact f2 e
 funs:=I.stack
 frf:=I.stkFree
theorem zKM {j:bc}{D:af}{od:Obj}{t:Nat}{m:Str->Option ae}(I:Inv X pins σ H s)(ok:(uK X N scope cl C s H fp).Ok)(S:CompScope X.env.scope X.N N scope caps)
  (g:∀x c,cl.lookup x=some c->X.env.cells.lookup x=some c) (n:∀x,(x,NameKind.free)∈scope.names->∃c,cl.lookup x=some c)
  (keep:∀b o,s.heap.get? b=some o->j.get? b=some o) (P:j.Ns C m) (Q:s.heap.objs.size<=C) (R:j.get? D=some od) (w:s.heap.objs.size<=D) (B:D≠C) (E:∀v,od.data≠.cell v) :
  Inv (uK X N scope cl C s H fp) [(D,od)] (qN caps N.length σ) H {s with heap:=j,toks:=t}:=by
 have a:∀x c,cl.lookup x=some c->∀v,s.heap.IsCell c v->j.IsCell c v:=fun x c e v ⟨o,F,hd⟩=>⟨o,keep c o F,hd⟩
 refine⟨ok,rfl,I.bare,Un.kept keep,⟨m,P,fun i x v T f e3=>?_⟩,fun x c e=>?_,I.hok.fresh Q,fun x c e=>I.freeC x c (g x c e),fun p U=>?_,I.hok.kept keep,?_⟩
 ·have hi:i<caps.length:=by
   by_cases hi:i<caps.length
   ·exact hi
   ·exfalso
    unfold qN at f
    rw[bQ (by simpa using hi),cx]at f
    split at f<;>cases f
  obtain⟨y,W,Y,L,M⟩:=S.cap i hi
  have G:x=y:=by
   have A:N[i]?=some x:=T
   rw[W]at A;exact(aq A).symm
  subst G
  have Z:σ[caps.getD i 0]?=some (some v):=by
   unfold qN at f
   rw[bj (by simpa using hi),az]at f
   have:caps[i]?=some (caps.getD i 0):=by rw[cg];simp[hi]
   rw[this]at f
   have d:(σ[caps.getD i 0]?).join=some v:=by simpa using f
   cases q:σ[caps.getD i 0]? with
   |none=>rw[q]at d;cases d
   |some z=>rw[q]at d;have:z=some v:=d;rw[this]
  obtain⟨m',_,hl⟩:=I.loc
  obtain⟨u,r,l⟩:=hl _ x v Y Z (M.elim (fun z=>.inr (.inl z)) fun z=>.inr (.inr z))
  refine⟨u,r,?_⟩
  have nl:X.env.kindOf x≠some .local:=by
   rcases M with z|z
   ·show X.env.scope.names.lookup x≠_;rw[z];decide
   ·show X.env.scope.names.lookup x≠_;rw[z];decide
  rcases l with⟨k,_⟩|⟨_,c,hc,z⟩
  ·exact absurd k nl
  ·obtain⟨O,h⟩:=n x (bT L)
   have:c=O:=aq (hc.symm.trans (g x O h))
   subst this
   refine .inr ⟨?_,c,h,a x c h _ z⟩
   exact zFQ (env:=X.env) L
 ·obtain⟨v,z⟩:=I.cell x c (g x c e)
  exact⟨v,a x c e v z⟩
 ·have:p=(D,od):=by
   have J:p∈[(D,od)]:=U
   simpa using J
  subst this
  refine⟨R,I.hok.fresh w,B,fun z=>?_,E⟩
  have z':D∈yW X.stack:=z
  obtain⟨_,o,F,_⟩:=I.stack.mem z'
  exact absurd (aU (aD F) w) (bS _)
 ·unfold qN
  show _=N.length
  rw[aj,ai,di]
  have:=S.len
  omega
end
section
variable{X:Cx}
theorem uL {tg iter elt:bq}{ifs:List bq}{scope:dv}{pos:Pos}{wi:TI}{g:TG}{tc:TT}{te:TE}{N:List Str}{caps:List Nat}(hc:X.calm=true)(S:CompScope X.env.scope X.N N scope caps)
  (hi:PI X tg iter wi) (hg:∀cl C s H ex,PG (uK X N scope cl C s H ex) tg g) (hf:∀cl C s H ex,PF (uK X N scope cl C s H ex) ifs tc) (he:∀cl C s H ex,PE (uK X N scope cl C s H ex) elt te)
  (hs:∀x,foldedSetIterable iter X.env x=pure x:=by intro _;rfl):PE X (.ListComp elt [⟨tg,iter,ifs,0⟩] scope pos) (zFS wi g tc te caps N.length):=by
 intro pins s σ H Q I h
 obtain⟨cl,hcl,hcl1,hcl2⟩:=zKJ (env:=X.env) (scope:=scope) fun y hy e=>I.ok.has y.1 (S.free y hy e)
 rw[eval_ListComp]
 refine wpAny_comprehension_free (use:=none) rfl hs hcl S.kind S.names (zK (hi pins s σ H _ I h) fun v s1 h1=>zK h1 fun itv s2 h2=>?_)
 obtain⟨it,fp,tn,J,H2,e,I2,T,st2,f2,W,⟨m0,w0⟩,turn⟩:=h2
 subst e
 refine kf (wpAny_newFunctionEnv S.nocell (by intro y hy;simp at hy) (fun h₁ hns hsb=>?_) S.kind)
 dsimp only at hns hsb⊢
 generalize hG:s2.heap.push {cls:=.type "list",dict:=none,data:=.seq ([]:List ae).toArray}=G at hns hsb⊢
 have hCs:G.objs.size=s2.heap.objs.size+1:=by rw[<-hG,iV]
 have hDC:s2.heap.objs.size≠G.objs.size:=by rw[hCs];exact br (dR _)
 have old:∀b o,s2.heap.get? b=some o->h₁.get? b=some o:=fun b o e=>by
  have hb:=aD e
  refine hsb.extBut b o (by rw[hCs];exact br (eT hb)) (ao _ ?_)
  rw[<-hG]
  exact ao _ e
 have hD:h₁.get? s2.heap.objs.size=some {cls:=.type "list",dict:=none,data:=.seq ([]:List ae).toArray}:=by
  refine hsb.extBut _ _ hDC (ao _ ?_)
  rw[<-hG]
  exact aZ _ rfl
 have hfo:∀b∈fp,b<s2.heap.objs.size:=fun b hb=>let⟨o,e,_⟩:=T.obj 0 _ st2 b hb;aD e
 have hCle:s2.heap.objs.size<=G.objs.size:=by omega
 have ok:=zKL (C:=G.objs.size) I2 S hcl1 hcl2 hCle f2 hfo
 have I0:Inv (uK X N scope cl G.objs.size s2 H2 fp) [(s2.heap.objs.size,{cls:=.type "list",dict:=none,data:=.seq ([]:List ae).toArray})] (qN caps N.length σ) H2 {s2 with heap:=h₁,toks:=s2.toks+([]:List (Str×ae)).length} :=
  zKM I2 ok S hcl1 hcl2 old hns hCle hD (ay _) hDC (fun v z=>by cases z)
 have st1:tn 0 h₁:=T.keep 0 _ _ st2 fun b _ o e=>old b o e
 generalize hX:uK X N scope cl G.objs.size s2 H2 fp=X' at I0
 generalize hDa:s2.heap.objs.size=D at I0 hD hDC
 have loop:codeAny (model X.prog X.w) X.A (.compLoop (.ListComp elt [⟨tg,iter,ifs,0⟩] scope pos) 0 (.ref it) (.ref D) (compEnvC scope cl G.objs.size X.env)) (compPost (model X.prog X.w) X.A X.xe none (EP X pins σ Q) (.ref D) G.objs.size)
   {s2 with heap:=h₁,toks:=s2.toks+([]:List (Str×ae)).length}:=by
  subst hX
  refine zKK (J:=fun n s'=>∃i σ' H' acc its e,Inv (uK X N scope cl G.objs.size s2 H2 fp) [(D,{cls:=.type "list",data:=.seq (fU its) e})] σ' H' s'/\zL acc its/\acc.length<=sizeLine/\tn i s'.heap/\(∀b∈fp,H' b=none)/\W i n acc σ' H')
   ?_ m0 ⟨0,_,H2,[],[],0,I0,.nil,bJ _,st1,fun b hb=>(f2 b hb).1,w0⟩
  rintro n s3 ⟨i,σ3,H3,acc,its,ep,I3,rv,hz,st3,fr3,w3⟩
  have stat:∀{H':Hp} {pl:List (af×Obj)},(∀b∈fp,H' b=none)->(∀p∈pl,p.1=D)->∀b∈fp,qT (uK X N scope cl G.objs.size s2 H2 fp) pl H' b:=fun{H' pl} hn hpl b hb=>by
   obtain⟨a1,a2⟩:=ok.exf b hb
   exact⟨hn b hb,a1,ok.exfs b hb,.inl hb,fun x c e=>a2 x c e,fun p hp=>by
    have hp':p∈pl:=hp
    rw[hpl p hp',<-hDa]
    exact kg (hfo b hb)⟩
  have one:∀p∈[(D,({cls:=.type "list",data:=.seq (fU its) ep}:Obj))],p.1=D:=fun p hp=>by
   rcases aJ.mp hp with e|e
   ·rw[e]
   ·cases e
  have pinD:∀{pl:List (af×Obj)} {σ':St} {H':Hp} {s':ah} {o:Obj},Inv (uK X N scope cl G.objs.size s2 H2 fp) pl σ' H' s'->(D,o)∈pl->s'.heap.get? D=some o/\H' D=none:=fun{pl σ' H' s' o} I' hm=>by
   obtain⟨a,b,_⟩:=I'.pin (D,o) (bb _ hm)
   exact⟨a,b⟩
  rcases turn i n acc σ3 H3 w3 with⟨stop,q⟩|⟨go,hlt,step⟩
  ·refine bX (T.done (uK X N scope cl G.objs.size s2 H2 fp) rfl rfl rfl hc i _ s3 σ3 H3 (fun _ _=>False) I3 (stat fr3 one) st3 stop) (fun r s4 ⟨hr,I4⟩=>?_) fun _ _ f=>f
   subst hr
   obtain⟨hDo,hDn⟩:=pinD I4 (av ..)
   obtain⟨m4,hm4,_⟩:=I4.loc
   refine⟨m4,hm4,fun h' hsb'=>?_⟩
   have keepC:∀b u,b≠G.objs.size->s4.heap.get? b=some u->h'.get? b=some u:=fun b u hb e=>hsb'.extBut b u hb e
   have un:Un (yW X.stack) fp H2 H3 s2.heap s4.heap:=I4.base
   have hDo':h'.get? D=some {cls:=.type "list",data:=.seq (fU its) ep}:=keepC D _ hDC hDo
   have hlow:∀b (o:Obj),s2.heap.get? b=some o->b≠G.objs.size/\b≠D:=fun b o e=>by
    have h0:=aD e
    exact⟨by rw[hCs];exact br (eT h0),by rw[<-hDa];exact br h0⟩
   have un':Un (yW X.stack) fp H2 (upd H3 D (.lst acc)) s2.heap h' :=
    ⟨fun b o e n' hb hx=>keepC b o (hlow b o e).1 (un.keep b o e n' hb hx),
     fun b o e n' hb hx=>let⟨sl,q⟩:=un.slot b o e n' hb hx;⟨sl,keepC b _ (hlow b o e).1 q⟩,
     fun b o e n' hx=>by rw[zJ (hlow b o e).2];exact un.free b o e n' hx,
     fun b o e hx=>let⟨o',q⟩:=un.there b o e hx;⟨o',keepC b _ (hlow b o e).1 q⟩,
     fun b xs e=>by rw[zJ (vR (un.tups b xs e) hDn)];exact un.tups b xs e,
     fun b o u e=>by rw[zJ (vR (un.frzs b o u e) hDn)];exact un.frzs b o u e,
     fun b ps e=>let⟨mo,q⟩:=un.tbls b ps e;⟨mo,by rw[zJ (vR q hDn)];exact q⟩⟩
   have hok:z4 X.prog X.w (upd H3 D (.lst acc)) h':=(I4.hok.but I4.free keepC).track hDn ⟨hz,its,ep,rv,hDo'⟩
   refine⟨.ref D,upd H3 D (.lst acc),I2.call' (s':={s4 with heap:=h'}) I4.os un' hok I4.bare (fun b hb=>?_),rfl,q D hDn⟩
   obtain⟨_,f1,_,f3,f4,f5⟩:=f2 b hb
   exact⟨f3,f1,f4,f5⟩
  ·refine bX (T.item (uK X N scope cl G.objs.size s2 H2 fp) rfl rfl rfl hc i _ s3 σ3 H3 (fun _ _=>False) I3 (stat fr3 one) st3 go) (fun r s4 ⟨u,hr,h4⟩=>?_) fun _ _ f=>f
   subst hr
   refine zK h4 fun _ s5 ⟨x,H5,I5,r5,y5,st5,fr5⟩=>?_
   have I5':=I5.pinned (stat fr5 one) (T.obj _ _ st5)
   refine zK (hg cl G.objs.size s2 H2 fp _ s5 σ3 H5 x u _ I5' r5 (step x H5 y5)) fun _ s6 ⟨σ6,H6,I6,q6⟩=>?_
   refine zK (hf cl G.objs.size s2 H2 fp _ s6 σ6 H6 _ I6 q6) fun b s7 ⟨H7,I7,q7⟩=>?_
   have fin:∀{pl:List (af×Obj)} {σ':St} {H':Hp} {s':ah},Inv (uK X N scope cl G.objs.size s2 H2 fp) (pl++zAX fp s5.heap) σ' H' s'->tn (i+1) s'.heap/\∀b∈fp,H' b=none:=fun{pl σ' H' s'} I'=>by
    refine⟨T.keep _ _ _ st5 fun b hb o e=>(I'.pin (b,o) (bb _ (bb _ (zBH hb e)))).1,fun b hb=>?_⟩
    obtain⟨o,e,_⟩:=T.obj _ _ st5 b hb
    exact(I'.pin (b,o) (bb _ (bb _ (zBH hb e)))).2.1
   cases b with
   |false=>
    rw[if_neg aC]at q7⊢
    obtain⟨m',hm,w7⟩:=q7
    obtain⟨a1,a2⟩:=fin I7
    exact⟨m',hm,i+1,σ6,H7,acc,its,ep,I7.unpinned,rv,hz,a1,a2,w7⟩
   |true=>
    rw[if_pos rfl]at q7⊢
    refine zK (he cl G.objs.size s2 H2 fp _ s7 σ6 H7 _ I7 q7) fun y s8 ⟨yv,H8,I8,r8,m',hm,w8⟩=>?_
    obtain⟨a1,a2⟩:=fin I8
    obtain⟨b1,b2⟩:=pinD I8 (b8 _ (av ..))
    have hl:=rv.length
    refine gh jx ⟨_,b1,rfl⟩ jh (iX _ _) (kz D its.toArray ep y (by rw[aT];omega)) ⟨b1,?_⟩
    have q9:=lS b1 (·.push y)
    have kp:∀b o,b≠D->s8.heap.get? b=some o->(s8.heap.update D (cY (·.push y))).get? b=some o:=fun b o hb e=>(c5 s8.heap (cY (·.push y)) (dG hb)).trans e
    have I9:Inv (uK X N scope cl G.objs.size s2 H2 fp) [] σ6 H8 {s8 with heap:=s8.heap.update D (cY (·.push y))} :=
     (I8.pins_of (pins':=[]) fun p hp=>by cases hp).turned (t':=s8.toks) kp b2 hDC (.inr (by rw[<-hDa];exact ay _)) (fun x c e z=>by
      have e':X.env.cells.lookup x=some c:=hcl1 x c e
      obtain⟨v',hv'⟩:=I2.cell x c e'
      have h0:=hv'.lt
      rw[z,<-hDa]at h0
      exact bS _ h0) fun p hp=>by
       have:p∈([]:List (af×Obj)):=hp
       cases this
    have hpu:its.toArray.push y=(its++[y]).toArray:=by simp
    rw[hpu]at q9
    obtain⟨e9,q9⟩:∃e9,(s8.heap.update D (cY (·.push y))).get? D=some {cls:=.type "list",data:=.seq (its++[y]).toArray e9}:=⟨_,q9⟩
    refine⟨m',hm,i+1,σ6,H8,acc++[yv],its++[y],e9,I9.pins_of fun p hp=>?_,rv.append (.cons r8 .nil),?_,T.keep _ _ _ a1 fun b hb o e=>kp b o ?_ e,a2,w8⟩
    ·obtain rfl:p=(D,{cls:=.type "list",data:=.seq (its++[y]).toArray e9}):=by
      rcases aJ.mp hp with e|e
      ·exact e
      ·cases e
     obtain⟨_,_,c3,c4,_⟩:=I8.pin (D,_) (bb _ (b8 _ (av ..)))
     exact⟨q9,b2,c3,c4,fun v z=>by cases z⟩
    ·rw[aj,dj];omega
    ·rintro rfl
     have h0:=hfo b hb
     rw[hDa]at h0
     exact bS _ h0
 exact codeAny_compStart_list loop (T.self X.A 0 _ _ _ st1 loop)
end
theorem zB.seqT {K:aa}{H H':Hp}{a:af}{xs:List V}(e:zB H H')(h:yX K H a xs):yX K H' a xs:=by
 rcases h with(h|⟨o,h⟩)|h
 ·exact .inl (.inl (e _ _ h))
 ·exact .inl (.inr ⟨o,e _ _ h⟩)
 ·exact .inr h
mutual
def yN (K:aa)(H:Hp):ba->V->Prop
 | .none,v=>v=.non
 | .bool b,v=>v=.bl b
 | .int i,v=>v=.int i
 | .str x,v=>v=.str x
 | .list ds,v=>∃a xs,v=.ref a/\yF K H a xs/\Reps K H ds xs
 | .tuple ds,v=>∃a xs,v=.ref a/\yX K H a xs/\Reps K H ds xs
 | .dict _,_=>False
def Reps (K:aa)(H:Hp):List ba->List V->Prop
 | [],xs=>xs=[]
 |d::ds,xs=>∃y ys,xs=y::ys/\yN K H d y/\Reps K H ds ys
end
mutual
theorem yN.same {K:aa}{H H':Hp}(e:zB H H'):∀(d:ba) (v:V),yN K H d v->yN K H' d v
 | .none,v,h=>h
 | .bool b,v,h=>h
 | .int i,v,h=>h
 | .str x,v,h=>h
 | .list c,v,h=>by
  obtain⟨a,xs,f,g,j⟩:=h
  exact⟨a,xs,f,e.seq g,Reps.same e c xs j⟩
 | .tuple c,v,h=>by
  obtain⟨a,xs,f,g,j⟩:=h
  exact⟨a,xs,f,e.seqT g,Reps.same e c xs j⟩
 | .dict _,v,h=>h
theorem Reps.same {K:aa}{H H':Hp}(e:zB H H'):∀(a:List ba) (xs:List V),Reps K H a xs->Reps K H' a xs
 | [],xs,h=>h
 |d::a,xs,h=>by
  obtain⟨y,b,c,f,g⟩:=h
  exact⟨y,b,c,yN.same e d y f,Reps.same e a b g⟩
end
theorem Reps.length {K:aa}{H:Hp}:∀{a:List ba}{xs:List V},Reps K H a xs->a.length=xs.length
 | [],xs,h=>by rw[show xs=[]from h];rfl
 |d::a,xs,h=>by
  obtain⟨y,e,b,_,c⟩:=h
  rw[b,aR,aR,Reps.length c]
theorem Reps.get {K:aa}{H:Hp}:∀{a:List ba}{xs:List V}{i:Nat}{y:V},Reps K H a xs->xs[i]?=some y->∃d,a[i]?=some d/\yN K H d y
 | [],xs,i,y,h,e=>by rw[show xs=[]from h]at e;simp at e
 |d::a,xs,i,y,h,e=>by
  obtain⟨z,l,b,c,f⟩:=h
  subst b
  cases i with
  |zero=>
   have:z=y:=by simpa using e
   subst this
   exact⟨d,rfl,c⟩
  |succ i=>
   obtain⟨d',g,j⟩:=Reps.get (i:=i) f (by simpa using e)
   exact⟨d',by simpa using g,j⟩
theorem Reps.append {K:aa}{H:Hp}:∀{c b:List ba}{xs a:List V},Reps K H c xs->Reps K H b a->Reps K H (c++b) (xs++a)
 | [],b,xs,a,h,h'=>by rw[show xs=[]from h];exact h'
 |d::c,b,xs,a,h,h'=>by
  obtain⟨z,e,f,g,i⟩:=h
  subst f
  exact⟨z,e++a,rfl,g,Reps.append i h'⟩
theorem Reps.one {K:aa}{H:Hp}{d:ba}{v:V}(h:yN K H d v):Reps K H [d] [v]:=⟨v,[],rfl,h,rfl⟩
theorem Reps.take {K:aa}{H:Hp}:∀{a:List ba}{xs:List V} (k:Nat),Reps K H a xs->Reps K H (a.take k) (xs.take k)
 | [],xs,k,h=>by rw[show xs=[]from h];simp[Reps]
 |d::a,xs,0,h=>by simp[Reps]
 |d::a,xs,k+1,h=>by
  obtain⟨z,b,c,e,f⟩:=h
  subst c
  exact⟨z,b.take k,rfl,e,Reps.take k f⟩
section
variable{X:Cx}{pins:List (af×Obj)}{σ:St}{H:Hp}{s:ah}
mutual
theorem yN.reads (I:Inv X pins σ H s):∀(d:ba) (v:V) (u:ae),yN X.K H d v->zQ v u->∃as,Reads s.heap u d as
 | .none,v,u,h,r=>by
  have h':v=.non:=h
  subst h'
  cases r
  exact⟨_,.none⟩
 | .bool b,v,u,h,r=>by
  have h':v=.bl b:=h
  subst h'
  cases r
  exact⟨_,.bool b⟩
 | .int i,v,u,h,r=>by
  have h':v=.int i:=h
  subst h'
  obtain⟨t,rfl⟩:=r
  exact⟨_,.int i t⟩
 | .str x,v,u,h,r=>by
  have h':v=.str x:=h
  subst h'
  obtain⟨t,rfl⟩:=r
  exact⟨_,.str x t⟩
 | .list f,v,u,h,r=>by
  obtain⟨a,xs,g,j,l⟩:=h
  subst g
  cases r
  obtain⟨c,m,⟨o,n,e,p,_,hd⟩,_⟩:=I.list j
  obtain⟨as,q⟩:=Reps.reads I f xs c l m
  exact⟨_,.list e p hd (by simpa using q)⟩
 | .tuple f,v,u,h,r=>by
  obtain⟨a,xs,g,j,l⟩:=h
  subst g
  cases r
  obtain⟨c,m,⟨o,e,p,n,hd⟩,_⟩:=I.tuple j
  obtain⟨as,q⟩:=Reps.reads I f xs c l m
  exact⟨_,.tuple e p hd (by simpa using q)⟩
 | .dict _,v,u,h,r=>h.elim
theorem Reps.reads (I:Inv X pins σ H s):∀(a:List ba) (xs:List V) (us:List ae),Reps X.K H a xs->zL xs us->∃as,ReadsAll s.heap us a as
 | [],xs,us,h,r=>by
  have h':xs=[]:=h
  subst h'
  cases r
  exact⟨_,.nil⟩
 |d::a,xs,us,h,r=>by
  obtain⟨y,b,c,e,f⟩:=h
  subst c
  cases r with
  |cons g i=>
   obtain⟨as,j⟩:=yN.reads I d y _ e g
   obtain⟨bs,l⟩:=Reps.reads I a b _ f i
   exact⟨_,.cons j l⟩
end
def zCl (K:aa)(neg:Bool):R2:=fun x y H Q=>∃d e,yN K H d x/\yN K H e y/\bI d=true/\bI e=true/\Q (.bl (if neg=true then !PyData.eqv d e else cq d e)) H
theorem zFT (a:X.A.units+64<cLine):z9 X (compareOp .Eq) (zCl X.K false):=by
 intro pins s σ H x y v u Q I b c h
 obtain⟨d,e,f,g,i,j,q⟩:=h
 obtain⟨as,l⟩:=yN.reads I d x v f b
 obtain⟨bs,m⟩:=yN.reads I e y u g c
 exact eq_dataH l m i j a ⟨.bl _,H,I,rfl,q⟩
theorem g4 (a:X.A.units+64<cLine):z9 X (compareOp .NotEq) (zCl X.K true):=by
 intro pins s σ H x y v u Q I b c h
 obtain⟨d,e,f,g,i,j,q⟩:=h
 obtain⟨as,l⟩:=yN.reads I d x v f b
 obtain⟨bs,m⟩:=yN.reads I e y u g c
 exact ne_dataH l m i j a ⟨.bl _,H,I,rfl,q⟩
end
mutual
theorem zCm:∀d:ba,d.canLay0=true->cq d d=true
 | .none,_=>rfl
 | .bool b,_=>by simp[cq]
 | .int i,_=>by simp[cq]
 | .str x,_=>by simp[cq]
 | .list a,h=>by
  have h':b7 a=true:=by simpa [cD]using h
  simp only[cq];exact eqvAll_refl a h'
 | .tuple a,h=>by
  have h':b7 a=true:=by simpa [cD]using h
  simp only[cq];exact eqvAll_refl a h'
 | .dict _,h=>by simp[cD]at h
theorem eqvAll_refl:∀a:List ba,b7 a=true->nY a a=true
 | [],_=>rfl
 |d::a,h=>by
  have h':d.canLay0=true/\b7 a=true:=by simpa [b7]using h
  simp only[nY,zCm d h'.1,eqvAll_refl a h'.2,fz]
end
end L2
end
section
open PySem PySem.W PyProof.Rows
namespace MyS
def ev {α:Type}(lt:Nat->Nat->Bool):KasT α->α
 | .ret a=>a
 | .ask i j k=>ev lt (k (lt i j))
theorem g7 {α β:Type}(lt:Nat->Nat->Bool)(f:α->KasT β):∀t:KasT α,ev lt (t.bind f)=ev lt (f (ev lt t))
 | .ret _=>rfl
 | .ask i j k=>g7 lt f (k (lt i j))
def vX {α:Type}(lt:Nat->Nat->Bool)(N:Nat):KasT α->Prop
 | .ret _=>True
 | .ask i j k=>i<N/\j<N/\i≠j/\vX lt N (k (lt i j))
theorem g8 {α β:Type}{lt:Nat->Nat->Bool}{N:Nat}{f:α->KasT β}:∀(t:KasT α),vX lt N t->vX lt N (f (ev lt t))->vX lt N (t.bind f)
 | .ret _,_,h=>h
 | .ask i j k,h,h'=>⟨h.1,h.2.1,h.2.2.1,g8 (k (lt i j)) h.2.2.2 h'⟩
structure TotalOn (lt:Nat->Nat->Bool) (n:Nat):Prop where
 irr:∀i,i<n->lt i i=false
 tr:∀i j k,i<n->j<n->k<n->lt i j=true->lt j k=true->lt i k=true
 tot:∀i j,i<n->j<n->i≠j->lt i j=true\/lt j i=true
abbrev gg (p:Array Nat)(i:Nat):Nat:=p.getD i 0
def Pm (p:Array Nat)(n:Nat):Prop:=p.toList.Perm (cb n)
theorem Pm.size {p:Array Nat}{n:Nat}(h:Pm p n):p.size=n:=by
 have:=o6 h
 simpa using this
theorem zAg {p:Array Nat}{i:Nat}(h:i<p.size):gg p i=p[i]:=by simp[gg,Array.getD,h]
theorem Pm.lt {p:Array Nat}{n i:Nat}(h:Pm p n)(hi:i<n):gg p i<n:=by
 have a:i<p.size:=by rw[h.size];exact hi
 have b:p[i]∈cb n:=(pA h).mp (by simp)
 rw[zAg a]
 exact cK.mp b
theorem Pm.ne {p:Array Nat}{n i j:Nat}(h:Pm p n)(hi:i<n)(d:j<n)(c:i≠j):gg p i≠gg p j:=by
 have a:i<p.size:=by rw[h.size];exact hi
 have b:j<p.size:=by rw[h.size];exact d
 have nd:p.toList.Nodup:=(o7 h).mpr List.nodup_range
 rw[zAg a,zAg b]
 intro e
 apply c
 have f:p.toList[i]'(by simpa using a)=p.toList[j]'(by simpa using b):=by simpa using e
 exact(fh nd).mp f
theorem Pm.perm {p q:Array Nat}{n:Nat}(h:Pm p n)(e:q.Perm p):Pm q n:=(Array.perm_iff_toList_perm.mp e).trans h
def Up (lt:Nat->Nat->Bool)(p:Array Nat)(k:Nat):Prop:=∀i j,i<j->j<k->lt (gg p i) (gg p j)=true
def Dn (lt:Nat->Nat->Bool)(p:Array Nat)(k:Nat):Prop:=∀i j,i<j->j<k->lt (gg p j) (gg p i)=true
section
variable{lt:Nat->Nat->Bool}{N:Nat}{p:Array Nat}
theorem TotalOn.flip (O:TotalOn lt N){i j:Nat}(hi:i<N)(b:j<N)(a:i≠j)(h:lt i j=false):lt j i=true:=by
 rcases O.tot i j hi b a with h'|h'
 ·rw[h]at h';cases h'
 ·exact h'
theorem Up.more (O:TotalOn lt N)(P:Pm p N){n:Nat}(d:1<=n)(b:n<N)(u:Up lt p n)(h:lt (gg p (n-1)) (gg p n)=true):Up lt p (n+1):=by
 intro i j a f
 by_cases e:j=n
 ·subst e
  by_cases c:i=j-1
  ·subst c;exact h
  ·exact O.tr _ _ _ (P.lt (by omega)) (P.lt (by omega)) (P.lt b) (u i (j-1) (by omega) (by omega)) h
 ·exact u i j a (by omega)
theorem Dn.more (O:TotalOn lt N)(P:Pm p N){n:Nat}(d:1<=n)(b:n<N)(u:Dn lt p n)(h:lt (gg p n) (gg p (n-1))=true):Dn lt p (n+1):=by
 intro i j a f
 by_cases e:j=n
 ·subst e
  by_cases c:i=j-1
  ·subst c;exact h
  ·exact O.tr _ _ _ (P.lt b) (P.lt (by omega)) (P.lt (by omega)) h (u i (j-1) (by omega) (by omega))
 ·exact u i j a (by omega)
theorem zFU:Up lt p 1:=fun i j a b=>by omega
theorem zBU (O:TotalOn lt N)(P:Pm p N):∀(f n:Nat),1<=n->n+f<=N->Up lt p n->
  n<=ev lt (eU p f n)/\ev lt (eU p f n)<=n+f/\Up lt p (ev lt (eU p f n))/\(ev lt (eU p f n)<n+f->lt (gg p (ev lt (eU p f n))) (gg p (ev lt (eU p f n)-1))=true)
 |0,n,_,_,u=>⟨ay _,ay _,u,fun h=>absurd h (bS _)⟩
 |f+1,n,a,i,u=>by
  have e:ev lt (eU p (f+1) n)=ev lt (if lt (gg p n) (gg p (n-1))=true then KasT.ret n else eU p f (n+1)):=rfl
  rw[e]
  cases c:lt (gg p n) (gg p (n-1))with
  |true=>
   rw[if_pos rfl]
   exact⟨ay _,lV _ _,u,fun _=>c⟩
  |false=>
   rw[if_neg (by simp)]
   have b:=O.flip (P.lt (by omega)) (P.lt (by omega)) (P.ne (by omega) (by omega) (by omega)) c
   obtain⟨j,l,d,g⟩:=zBU O P f (n+1) (by omega) (by omega) (u.more O P a (by omega) b)
   exact⟨by omega,by omega,d,fun h=>g (by omega)⟩
theorem zCn (P:Pm p N):∀(f n:Nat),1<=n->n+f<=N->vX lt N (eU p f n)
 |0,n,_,_=>trivial
 |f+1,n,a,b=>by
  refine⟨P.lt (by omega),P.lt (by omega),P.ne (by omega) (by omega) (by omega),?_⟩
  show vX lt N (if lt (gg p n) (gg p (n-1))=true then KasT.ret n else eU p f (n+1))
  split
  ·trivial
  ·exact zCn P f (n+1) (by omega) (by omega)
theorem zFV (O:TotalOn lt N)(P:Pm p N):∀(f n:Nat),1<=n->n+f<=N->vX lt N (dy f p n 0)
 |0,n,_,_=>trivial
 |f+1,n,b,e=>by
  refine⟨P.lt (by omega),P.lt (by omega),P.ne (by omega) (by omega) (by omega),?_⟩
  show vX lt N (if lt (gg p n) (gg p (n-1))=true then(if 0>0 then dy f (iu p (n- (0+1)) n) (n+1) 0 else dy f p (n+1) 0)
   else .ask (gg p (n-1)) (gg p n) fun d=>if d=true then .ret (p,n,0)else dy f p (n+1) (0+1))
  cases c:lt (gg p n) (gg p (n-1))with
  |true=>
   rw[if_pos rfl,if_neg (by omega)]
   exact zFV O P f (n+1) (by omega) (by omega)
  |false=>
   rw[if_neg (by simp)]
   have a:=O.flip (P.lt (by omega)) (P.lt (by omega)) (P.ne (by omega) (by omega) (by omega)) c
   refine⟨P.lt (by omega),P.lt (by omega),P.ne (by omega) (by omega) (by omega),?_⟩
   show vX lt N (if lt (gg p (n-1)) (gg p n)=true then KasT.ret (p,n,0)else dy f p (n+1) (0+1))
   rw[a,if_pos rfl]
   trivial
theorem zCo (O:TotalOn lt N)(P:Pm p N):∀(f n:Nat),1<=n->n+f<=N->Dn lt p n->
  ∃m,ev lt (dy f p n 0)=(p,m,0)/\n<=m/\m<=n+f/\Dn lt p m
 |0,n,_,_,u=>⟨n,rfl,ay _,ay _,u⟩
 |f+1,n,a,j,u=>by
  have e:ev lt (dy (f+1) p n 0)=ev lt (if lt (gg p n) (gg p (n-1))=true then(if 0>0 then dy f (iu p (n- (0+1)) n) (n+1) 0 else dy f p (n+1) 0)
   else .ask (gg p (n-1)) (gg p n) fun d=>if d=true then .ret (p,n,0)else dy f p (n+1) (0+1)):=rfl
  rw[e]
  cases c:lt (gg p n) (gg p (n-1))with
  |true=>
   rw[if_pos rfl,if_neg (by omega)]
   obtain⟨m,b,l,o,g⟩:=zCo O P f (n+1) (by omega) (by omega) (u.more O P a (by omega) c)
   exact⟨m,b,by omega,by omega,g⟩
  |false=>
   rw[if_neg (by simp)]
   have h:=O.flip (P.lt (by omega)) (P.lt (by omega)) (P.ne (by omega) (by omega) (by omega)) c
   have i:ev lt (.ask (gg p (n-1)) (gg p n) fun d=>if d=true then KasT.ret (p,n,0)else dy f p (n+1) (0+1))=ev lt (if lt (gg p (n-1)) (gg p n)=true then KasT.ret (p,n,0)else dy f p (n+1) (0+1)):=rfl
   rw[i,h,if_pos rfl]
   exact⟨n,rfl,ay _,by omega,u⟩
theorem zFW {m k:Nat}(b:m<=p.size):gg (iu p 0 m) k=if k<m then gg p (m-1-k)else gg p k:=by
 have e:=getElem?_mirror_all (i:=0) b k
 have a:∀(q:Array Nat) (x:Nat),gg q x=(q[x]?).getD 0:=fun q x=>by simp[gg]
 rw[a,a,a]
 show((mirror p 0 m ((m-0)/2))[k]?).getD 0=_
 rw[e]
 by_cases h:k<m
 ·rw[if_pos ⟨bJ _,h⟩,if_pos h]
  simp
 ·rw[if_neg (fun z=>h z.2),if_neg h]
theorem zKN (P:Pm p N){m:Nat}(b:m<=N)(d:Dn lt p m):Up lt (iu p 0 m) m:=by
 intro i j c e
 have a:m<=p.size:=by rw[P.size];exact b
 rw[zFW a,zFW a,if_pos (by omega),if_pos e]
 exact d _ _ (by omega) (by omega)
theorem zCp (P:Pm p N)(i j:Nat):Pm (iu p i j) N:=P.perm (mirror_perm p i j _)
theorem zFX (O:TotalOn lt N)(P:Pm p N)(x:2<=N):∃m q,ev lt (lW N p)=(m,q)/\1<=m/\m<=N/\Pm q N/\Up lt q m:=by
 obtain⟨b,l,a,g⟩:=zBU O P (N-1) 1 (ay _) (by omega) zFU
 unfold lW
 rw[g7]
 generalize y:ev lt (eU p (N-1) 1)=n at b l a g
 by_cases d:(n==N)=true
 ·rw[if_pos d]
  exact⟨n,p,rfl,b,by omega,P,a⟩
 ·rw[if_neg d]
  have o:n≠N:=by simpa using d
  by_cases h:n>1
  ·rw[if_pos h]
   have c:lt (gg p 0) (gg p (n-1))=true:=a 0 (n-1) (by omega) (by omega)
   have r:ev lt (KasT.ask (p.getD 0 0) (p.getD (n-1) 0) fun c=>if c=true then KasT.ret (n,p)else fV n N (iu p 0 n))=ev lt (if lt (gg p 0) (gg p (n-1))=true then KasT.ret (n,p)else fV n N (iu p 0 n)):=rfl
   rw[r,c,if_pos rfl]
   exact⟨n,p,rfl,b,by omega,P,a⟩
  ·rw[if_neg h]
   have e:n=1:=by omega
   subst e
   have c:=g (by omega)
   have s:Dn lt p 2:=fun i j t z=>by
    have:i=0:=by omega
    have:j=1:=by omega
    subst i;subst j;exact c
   obtain⟨m,u,A,B,v⟩:=zCo O P (N-2) 2 (by omega) (by omega) s
   unfold fV
   rw[g7]
   have f:ev lt (dy (N- (1+1)) p (1+1) 0)=(p,m,0):=u
   rw[f]
   dsimp only
   rw[if_neg (by omega)]
   unfold kas_tail3
   rw[g7]
   obtain⟨C,D,w,_⟩:=zBU O (zCp P 0 m) (N-m) m (by omega) (by omega) (zKN P (by omega) v)
   exact⟨_,_,rfl,by omega,by omega,zCp P 0 m,w⟩
theorem zKO (O:TotalOn lt N)(P:Pm p N)(t:2<=N):vX lt N (lW N p):=by
 obtain⟨h,l,d,f⟩:=zBU O P (N-1) 1 (ay _) (by omega) zFU
 unfold lW
 refine g8 _ (zCn P _ _ (ay _) (by omega)) ?_
 generalize u:ev lt (eU p (N-1) 1)=n at h l d f
 by_cases a:(n==N)=true
 ·rw[if_pos a];trivial
 ·rw[if_neg a]
  have o:n≠N:=by simpa using a
  by_cases g:n>1
  ·rw[if_pos g]
   have c:lt (gg p 0) (gg p (n-1))=true:=d 0 (n-1) (by omega) (by omega)
   refine⟨P.lt (by omega),P.lt (by omega),P.ne (by omega) (by omega) (by omega),?_⟩
   show vX lt N (if lt (gg p 0) (gg p (n-1))=true then KasT.ret (n,p)else fV n N (iu p 0 n))
   rw[c,if_pos rfl]
   trivial
  ·rw[if_neg g]
   have e:n=1:=by omega
   subst e
   have c:=f (by omega)
   have q:Dn lt p 2:=fun i j r v=>by
    have:i=0:=by omega
    have:j=1:=by omega
    subst i;subst j;exact c
   obtain⟨m,s,w,x,y⟩:=zCo O P (N-2) 2 (by omega) (by omega) q
   unfold fV
   refine g8 _ (zFV O P _ _ (by omega) (by omega)) ?_
   have b:ev lt (dy (N- (1+1)) p (1+1) 0)=(p,m,0):=s
   rw[b]
   dsimp only
   rw[if_neg (by omega)]
   unfold kas_tail3
   exact g8 _ (zCn (zCp P 0 m) _ _ (by omega) (by omega)) trivial
theorem zCq (P:Pm p N){k:Nat}(b:k<N):∀(f l r:Nat),r<=k->vX lt N (cy p k f l r)
 |0,l,r,_=>trivial
 |f+1,l,r,h=>by
  show vX lt N (if l>=r then KasT.ret l else .ask (p.getD k 0) (p.getD ((l+r)/2) 0) fun c=>if c=true then cy p k f l ((l+r)/2)else cy p k f ((l+r)/2+1) r)
  by_cases a:l>=r
  ·rw[if_pos a];trivial
  ·rw[if_neg a]
   refine⟨P.lt b,P.lt (by omega),P.ne b (by omega) (by omega),?_⟩
   show vX lt N (if lt (gg p k) (gg p ((l+r)/2))=true then cy p k f l ((l+r)/2)else cy p k f ((l+r)/2+1) r)
   split
   ·exact zCq P b f l _ (by omega)
   ·exact zCq P b f _ r h
theorem zCr (O:TotalOn lt N)(P:Pm p N){k:Nat}(d:k<N)(u:Up lt p k):∀(f l r:Nat),l<=r->r<=k->r-l<=f->(∀i,i<l->lt (gg p i) (gg p k)=true)->(∀i,r<=i->i<k->lt (gg p k) (gg p i)=true)->
  ev lt (cy p k f l r)<=k/\(∀i,i<ev lt (cy p k f l r)->lt (gg p i) (gg p k)=true)/\∀i,ev lt (cy p k f l r)<=i->i<k->lt (gg p k) (gg p i)=true
 |0,l,r,q,h,s,a,b=>by
  have:l=r:=by omega
  subst this
  exact⟨h,a,b⟩
 |f+1,l,r,q,h,s,a,b=>by
  have e:ev lt (cy p k (f+1) l r)=ev lt (if l>=r then KasT.ret l else .ask (p.getD k 0) (p.getD ((l+r)/2) 0) fun c=>if c=true then cy p k f l ((l+r)/2)else cy p k f ((l+r)/2+1) r):=rfl
  rw[e]
  by_cases g:l>=r
  ·rw[if_pos g]
   have:l=r:=by omega
   subst this
   exact⟨h,a,b⟩
  ·rw[if_neg g]
   have t:ev lt (KasT.ask (p.getD k 0) (p.getD ((l+r)/2) 0) fun c=>if c=true then cy p k f l ((l+r)/2)else cy p k f ((l+r)/2+1) r)=ev lt (if lt (gg p k) (gg p ((l+r)/2))=true then cy p k f l ((l+r)/2)else cy p k f ((l+r)/2+1) r):=rfl
   rw[t]
   generalize w:(l+r)/2=m
   have v:l<=m:=by omega
   have x:m<r:=by omega
   cases c:lt (gg p k) (gg p m)with
   |true=>
    rw[if_pos rfl]
    refine zCr O P d u f l m v (by omega) (by omega) a fun i hi j=>?_
    by_cases n:i=m
    ·subst n;exact c
    ·exact O.tr _ _ _ (P.lt d) (P.lt (by omega)) (P.lt (by omega)) c (u m i (by omega) j)
   |false=>
    rw[if_neg (by simp)]
    have o:=O.flip (P.lt d) (P.lt (by omega)) (P.ne d (by omega) (by omega)) c
    refine zCr O P d u f (m+1) r (by omega) h (by omega) (fun i hi=>?_) b
    by_cases n:i=m
    ·subst n;exact o
    ·exact O.tr _ _ _ (P.lt (by omega)) (P.lt (by omega)) (P.lt d) (u i m (by omega) (by omega)) o
theorem zFY {k d x:Nat}(b:k<p.size)(hd:d<=k):gg (bubble p k d) x=if x=k-d then gg p k else if k-d<x/\x<=k then gg p (x-1)else gg p x:=by
 have e:=getElem?_bubble b d hd x
 have a:∀(q:Array Nat) (x:Nat),gg q x=(q[x]?).getD 0:=fun q x=>by simp[gg]
 rw[a,a,a,a,e]
 split
 ·rfl
 ·split<;>rfl
theorem zFZ (O:TotalOn lt N):∀(f:Nat) (p:Array Nat) (k:Nat),Pm p N->k+f=N->Up lt p k->Pm (ev lt (lg f p k)) N/\Up lt (ev lt (lg f p k)) N
 |0,p,k,P,e,u=>by
  have:k=N:=by omega
  subst this
  exact⟨P,u⟩
 |f+1,p,k,P,e,u=>by
  have r:lg (f+1) p k=(cy p k k 0 k).bind fun l=>lg f (bubble p k (k-l)) (k+1):=rfl
  rw[r,g7]
  have g:k<N:=by omega
  obtain⟨s,h,m⟩:=zCr O P g u k 0 k (bJ _) (ay _) (by omega) (fun i hi=>by omega) (fun i a b=>by omega)
  generalize ev lt (cy p k k 0 k)=l at s h m
  have n:k<p.size:=by rw[P.size];exact g
  refine zFZ O f _ (k+1) (P.perm (bubble_perm p k _)) (by omega) fun i j c t=>?_
  rw[zFY n (by omega),zFY n (by omega)]
  have d:k- (k-l)=l:=by omega
  rw[d]
  by_cases a:i=l
  ·rw[if_pos a,if_neg (by omega),if_pos (by omega)]
   exact m _ (by omega) (by omega)
  ·rw[if_neg a]
   by_cases b:l<i/\i<=k
   ·rw[if_pos b,if_neg (by omega),if_pos (by omega)]
    exact u _ _ (by omega) (by omega)
   ·rw[if_neg b]
    by_cases o:j=l
    ·rw[if_pos o]
     exact h i (by omega)
    ·rw[if_neg o]
     by_cases q:l<j/\j<=k
     ·rw[if_pos q]
      by_cases v:i=j-1
      ·omega
      ·exact u _ _ (by omega) (by omega)
     ·rw[if_neg q]
      exact u _ _ c (by omega)
theorem zFa (O:TotalOn lt N):∀(f:Nat) (p:Array Nat) (k:Nat),Pm p N->k+f=N->vX lt N (lg f p k)
 |0,p,k,P,e=>trivial
 |f+1,p,k,P,e=>by
  show vX lt N ((cy p k k 0 k).bind fun l=>lg f (bubble p k (k-l)) (k+1))
  exact g8 _ (zCq P (by omega) _ _ _ (ay _)) (zFa O f _ (k+1) (P.perm (bubble_perm p k _)) (by omega))
theorem zKP (O:TotalOn lt N)(a:2<=N):vX lt N (lh N):=by
 have b:Pm (fU (cb N)) N:=iY _
 obtain⟨m,q,e,g,h,d,i⟩:=zFX O b a
 unfold lh
 refine g8 _ (zKO O b a) ?_
 rw[e]
 dsimp only
 by_cases c:m<N
 ·rw[if_pos c]
  have f:max m 1=m:=by omega
  rw[f]
  exact zFa O (N-m) q m d (by omega)
 ·rw[if_neg c];trivial
theorem zKQ (O:TotalOn lt N)(d:2<=N):Pm (ev lt (lh N)) N/\Up lt (ev lt (lh N)) N:=by
 have f:Pm (fU (cb N)) N:=iY _
 obtain⟨m,q,e,h,i,a,b⟩:=zFX O f d
 unfold lh
 rw[g7,e]
 dsimp only
 by_cases c:m<N
 ·rw[if_pos c]
  have g:max m 1=m:=by omega
  rw[g]
  exact zFZ O (N-m) q m a (by omega) b
 ·rw[if_neg c]
  have:m=N:=by omega
  subst this
  exact⟨a,b⟩
end
end MyS
end
section
namespace MyS
open PySem PySem.W PyProof.Rows PySem.Spec
theorem zFb {α:Type}{N:Nat}{cmp:Nat->Nat->(Bool->ah->Prop)->ah->Prop}{lt:Nat->Nat->Bool}{s:ah}(b:∀i j,i<N->j<N->i≠j->∀C,C (lt i j) s->cmp i j C s) :
  ∀(t:KasT α) (Q:α->ah->Prop),vX lt N t->Q (ev lt t) s->t.kasWp cmp Q s
 | .ret a,Q,_,h=>h
 | .ask i j k,Q,o,h=>b i j o.1 o.2.1 o.2.2.1 _ (zFb b (k (lt i j)) Q o.2.2.2 h)
def q8 (ks:List Str)(i:Nat):List Nat:=(ks.getD i ⟨#[]⟩).cps.toList
def jW (ks:List Str)(i j:Nat):Bool:=decide (q8 ks i<q8 ks j)
theorem Str_ext {a b:Str}(h:a.cps.toList=b.cps.toList):a=b:=by
 cases a;cases b
 congr 1
 exact lJ.mp h
theorem zKR (a b:List Nat)(e:¬a<b)(f:¬b<a):a=b:=by
 have c:b<=a:=oT.mp e
 have d:a<=b:=oT.mp f
 exact List.le_antisymm d c
theorem zKS {ks:List Str}(nd:ks.Nodup):TotalOn (jW ks) ks.length where
 irr:=fun i _=>by simp[jW,nc]
 tr:=fun i j k _ _ _ a b=>by
  simp only[jW,decide_eq_true_eq]at*
  exact nZ a b
 tot:=fun i j hi f c=>by
  simp only[jW,decide_eq_true_eq]
  by_cases a:q8 ks i<q8 ks j
  ·exact .inl a
  ·by_cases b:q8 ks j<q8 ks i
   ·exact .inr b
   ·exfalso
    have e:=zKR _ _ a b
    unfold q8 at e
    have d:=Str_ext e
    have g:ks.getD i ⟨#[]⟩=ks[i]:=by simp[hi]
    have h:ks.getD j ⟨#[]⟩=ks[j]:=by simp[f]
    rw[g,h]at d
    exact c ((fh nd).mp d)
section
variable{prog:aw}{w:aI}{A:bB}{E:ae->ah->Prop}{s:ah}
theorem zKT {κ:SortKind}{a:af}{vs:List ae}{ks:List Str}{n:Nat}{P:ow->ah->Prop}(z:s.heap.get? a=some (seqObj "list" vs.toArray n))(hl:ks.length=vs.length)(nd:ks.Nodup)(D:vs.length<64)
  (U:∀G,(∀b o,b≠a->s.heap.get? b=some o->G.get? b=some o)->2<=vs.length->∀(Q:SortKind->ah->Prop) (W:ae->ah->Prop),Q κ {s with heap:=G}->wpAny (model prog w) A (keyKind' vs.toArray) Q W {s with heap:=G})
  (X:∀G,(∀b o,b≠a->s.heap.get? b=some o->G.get? b=some o)->∀i j,i<vs.length->j<vs.length->i≠j->∀C,C (jW ks i j) {s with heap:=G}->kas_ask prog w A κ vs i j C {s with heap:=G})
  (h:∀(p:List Nat) (h':bc) (e:Nat),p.Perm (cb vs.length)->(p.map (q8 ks)).Pairwise (· < ·)->(∀b o,b≠a->s.heap.get? b=some o->h'.get? b=some o)->
   h'.get? a=some (seqObj "list" (p.map fun i=>vs.getD i Value.none).toArray e)->P (.done (.ret .none)) {s with heap:=h'}) :
  wpAny (model prog w) A (eO.«list.sort» ⟨[.ref a],[]⟩) P E s:=by
 have ha:a<s.heap.objs.size:=aD z
 rw[list_sort_plain]
 refine aE (listItems_at z rfl ?_)
 refine aE (jr z rfl ?_ (by rw[aT,aP];omega) (bJ _))
 obtain⟨F,t⟩:∃F,(s.heap.update a (cY fun _=>(#[]:Array ae))).get? a=some (seqObj "list" #[] F):=⟨_,mz z fun _=>#[]⟩
 refine aE (mq t rfl ?_)
 refine aE (wpAny_newTuple ?_ (by rw[aP];simp;omega))
 refine aE (oa ?_ (by simp))
 refine fw ?_
 show wpAny (model prog w) A _ P E {s with heap:=((s.heap.update a (cY fun _=>#[])).push (seqObj "tuple" vs.toArray 0)).push (seqObj "list" #[] 0)}
 generalize T:((s.heap.update a (cY fun _=>(#[]:Array ae))).push (seqObj "tuple" vs.toArray 0)).push (seqObj "list" #[] 0)=G
 have d:G.get? a=some (seqObj "list" #[] F):=by
  rw[<-T]
  exact ao _ (ao _ t)
 have m:∀b o,b≠a->s.heap.get? b=some o->G.get? b=some o:=fun b o B e=>by
  rw[<-T]
  exact ao _ (ao _ ((c5 _ _ (dG B)).trans e))
 have hsz:vs.toArray.size=vs.length:=by simp
 have fin:∀(p:List Nat) (q:Array ae) (c:q=(p.map fun i=>vs.getD i Value.none).toArray),p.Perm (cb vs.length)->(p.map (q8 ks)).Pairwise (· < ·)->
   P (.done (.ret .none)) {s with heap:=G.update a (cY fun _=>q)}:=fun p q c Y f=>by
  subst c
  have Z:=mz d fun _=>(p.map fun i=>vs.getD i Value.none).toArray
  exact h p _ _ Y f (fun b o B e=>(c5 _ _ (dG B)).trans (m b o B e)) Z
 dsimp only
 by_cases f:vs.toArray.size<2
 ·rw[if_pos f,if_pos f]
  refine aE (bw ?_)
  rw[StateT.run_pure]
  refine aE (bw ?_)
  dsimp only
  refine aE (mq d rfl ?_)
  refine aE (jr d rfl ?_ (by simp) (by
   show((vs.toArray.zip vs.toArray).map (·.2)).size<=sizeLine+1
   rw[aP];simp;omega))
  simp only[bne_self_eq_false,gi,if_false]
  refine bw (fin (cb vs.length) _ ?_ (iY _) ?_)
  ·show(vs.toArray.zip vs.toArray).map (·.2)=_
   match vs,f with
   | [],_=>simp
   | [v],_=>simp[fJ]
   |_::_::_,f=>simp at f;omega
  ·have:vs.length<2:=by simpa using f
   match hv:vs.length,this with
   |0,_=>simp
   |1,_=>simp[fJ]
 ·rw[if_neg f,if_neg f]
  have g:2<=vs.length:=by simpa using f
  refine aE (U G m g _ _ ?_)
  show wpAny _ _ (StateT.run sortRuns' (SortSt.mk' κ (vs.toArray.zip vs.toArray) #[] 7 none)>>=_) _ _ _
  have O:=zKS nd
  rw[hl]at O
  obtain⟨H,I⟩:=zKQ O g
  refine aE (bX (kat_run (ks:=vs) (vs:=vs) (Q:=fun l s'=>s'={s with heap:=G}/\failedOf l=none/\∃p:Array Nat,Pm p vs.length/\Up (jW ks) p vs.length/\arrOf l=p.map (kas_item (vs.toArray.zip vs.toArray)))
   (G:=fun p s'=>s'={s with heap:=G}/\Pm p vs.length/\Up (jW ks) p vs.length) rfl g D (fun p l s' _ u J x=>⟨x.1,J,p,x.2.1,x.2.2,u⟩) ?_) ?_ fun _ _ e=>e)
  ·refine zFb (N:=vs.length) (lt:=jW ks) (fun i j hi L r C M=>?_) _ _ (zKP O g) ⟨rfl,H,I⟩
   exact X G m i j hi L r C M
  ·rintro⟨⟨⟩,l⟩ s' ⟨rfl,hf,p,u,J,x⟩
   dsimp only
   have c:=kat_snds (ks:=vs) (vs:=vs) rfl x
   refine aE (mq d rfl ?_)
   refine aE (jr d rfl ?_ (by simp) (by
    rw[c,aT,ai,aP]
    have:=u.size
    simp
    omega))
   rw[hf]
   simp only[bne_self_eq_false,gi,if_false]
   refine bw (fin p.toList _ c u ?_)
   rw[bM,List.pairwise_iff_getElem]
   intro i j hi L r
   have R:i<p.size:=by simpa using hi
   have y:j<p.size:=by simpa using L
   have:=J i j r (by rw[<-u.size];exact y)
   rw[zAg R,zAg y]at this
   simpa [jW]using this
theorem sort_strs {a:af}{vs:List ae}{ks:List Str}{n:Nat}{P:ow->ah->Prop}(q:s.heap.get? a=some (seqObj "list" vs.toArray n))(f:StrsAre vs ks)(nd:ks.Nodup)(m:vs.length<64)
  (h:∀(p:List Nat) (h':bc) (e:Nat),p.Perm (cb vs.length)->(p.map (q8 ks)).Pairwise (· < ·)->(∀b o,b≠a->s.heap.get? b=some o->h'.get? b=some o)->
   h'.get? a=some (seqObj "list" (p.map fun i=>vs.getD i Value.none).toArray e)->P (.done (.ret .none)) {s with heap:=h'}) :
  wpAny (model prog w) A (eO.«list.sort» ⟨[.ref a],[]⟩) P E s:=by
 have d:ks.length=vs.length:=by rw[<-f.strs];simp
 have c:∀i,i<vs.length->∃t,vs.getD i Value.none=.str (ks.getD i ⟨#[]⟩) t:=fun i hi=>by
  obtain⟨x,t,e⟩:=f.all vs[i] (cG hi)
  refine⟨t,?_⟩
  have r:vs.getD i Value.none=vs[i]:=by simp[hi]
  have u:ks.getD i ⟨#[]⟩=x:=by
   rw[<-f.strs,cg,az,aG hi,e];rfl
  rw[r,u,e]
 refine zKT (κ:=oneType') q d nd m (fun G v y Q I z=>?_) (fun G v i j hi B D C F=>?_) h
 ·obtain⟨g,l,uI,rfl⟩:∃g l uI,vs=g::l::uI:=by
   match vs,y with
   |g::l::uI,_=>exact⟨g,l,uI,rfl⟩
  rw[keyKind_strs f]
  exact bw z
 ·obtain⟨t,e⟩:=c i hi
  obtain⟨t',H⟩:=c j B
  unfold kas_ask
  rw[e,H,keyLt'_oneType]
  exact strKind_oneLt prog w A _ _ _ _ _ _ rfl rfl F
end
end MyS
end
section
namespace L2
open PySem PySem.Spec PyProof.Rows
def qG (H:Hp)(news:List (af×HO)):Hp:=fun b=>match news.lookup b with
 |some o=>some o
 |none=>H b
theorem zCs {H:Hp}{a:List (af×HO)}{b:af}(h:b∉a.map (·.1)):qG H a b=H b:=by
 unfold qG
 have:a.lookup b=none:=by
  induction a with
  |nil=>rfl
  |cons p r ih=>
   rw[aF,aJ,not_or]at h
   have c:(b==p.1)=false:=by simpa using h.1
   obtain⟨x,y⟩:=p
   rw[bE,c]
   exact ih h.2
 rw[this]
theorem zKU {H:Hp}{a:List (af×HO)}{b:af}{o:HO}(h:qG H a b=some o):(b,o)∈a\/(b∉a.map (·.1)/\H b=some o):=by
 by_cases d:b∈a.map (·.1)
 ·left
  unfold qG at h
  cases e:a.lookup b with
  |some u=>
   rw[e]at h
   have:u=o:=aq h
   subst this
   clear h d
   induction a with
   |nil=>cases e
   |cons p r ih=>
    obtain⟨x,y⟩:=p
    rw[bE]at e
    cases c:b==x with
    |true=>
     rw[c]at e
     have f:b=x:=by simpa using c
     have g:y=u:=aq e
     subst f;subst g
     exact av ..
    |false=>
     rw[c]at e
     exact au _ (ih e)
  |none=>
   exfalso
   clear h
   induction a with
   |nil=>cases d
   |cons p r ih=>
    obtain⟨x,y⟩:=p
    rw[bE]at e
    cases c:b==x with
    |true=>rw[c]at e;cases e
    |false=>
     rw[c]at e
     rw[aF,aJ]at d
     rcases d with z|z
     ·have:(b==x)=true:=by simpa using z
      rw[this]at c;cases c
     ·exact ih z e
 ·rw[zCs d]at h
  exact .inr ⟨d,h⟩
theorem zKV {H:Hp}{a:List (af×HO)}(c:∀p∈a,H p.1=none):zB H (qG H a):=fun b o e=>by
 rw[zCs fun z=>?_]
 ·exact e
 ·obtain⟨p,d,rfl⟩:=aM.mp z
  rw[c p d]at e;cases e
theorem yT.obj {P:aw}{w:aI}{H:Hp}{h:bc}{a:af}{o:HO}(x:yT P w H h a o):∃u,h.get? a=some u:=by
 cases o with
 |lst xs=>obtain⟨_,_,_,_,e⟩:=x;exact⟨_,e⟩
 |tup xs=>obtain⟨_,_,_,_,e,_⟩:=x;exact⟨_,e⟩
 |dK kvs=>obtain⟨_,_,_,_,o,_,_,e,_⟩:=x;exact⟨_,e⟩
 |dT kvs=>obtain⟨_,_,_,_,o,_,_,e,_⟩:=x;exact⟨_,e⟩
 |set S n=>obtain⟨o,_,_,_,e,_⟩:=x;exact⟨_,e⟩
 |ins C b fs=>obtain⟨_,_,_,e,_⟩:=x;exact⟨_,e⟩
 |own y=>exact x
 |xd fs=>obtain⟨_,⟨_,_,_,e,_⟩,_⟩:=x;exact⟨_,e⟩
 |rng lo hi=>obtain⟨_,_,_,e⟩:=x;exact⟨_,e⟩
 |frz c u=>obtain⟨e,_⟩:=x;exact⟨_,e⟩
 |tbl d=>exact⟨_,(show h.get? a=some _ from x)⟩
 |met f y=>exact⟨_,(show h.get? a=some _ from x)⟩
 |ext φ=>obtain⟨_,e,_⟩:=x;exact e
theorem z4.free {P:aw}{w:aI}{H:Hp}{h:bc}{a:af}(x:z4 P w H h)(e:h.get? a=none):H a=none:=by
 cases q:H a with
 |none=>rfl
 |some u=>
  obtain⟨v,b⟩:=(x a u q).obj
  rw[b]at e;cases e
section
variable{X:Cx}{pins:List (af×Obj)}{σ:St}{H:Hp}{s:ah}
theorem Inv.many {h':bc}{t':Nat}{a:List (af×HO)}(I:Inv X pins σ H s)(k:∀b u,s.heap.get? b=some u->h'.get? b=some u)(d:∀p∈a,s.heap.get? p.1=none)
  (new:∀p∈a,yT X.prog X.w (qG H a) h' p.1 p.2):Inv X pins σ (qG H a) {s with heap:=h',toks:=t'}:=by
 have i:∀p∈a,H p.1=none:=fun p h=>I.hok.free (d p h)
 have f:=zKV i
 have g:∀b (o:Obj),s.heap.get? b=some o->qG H a b=H b:=fun b o e=>zCs fun z=>by
  obtain⟨p,h,rfl⟩:=aM.mp z
  rw[d p h]at e;cases e
 refine I.un (H':=qG H a) ⟨fun b o e _ _ _=>k b o e,fun b o e _ _ _=>⟨o.slots,k b o e⟩,fun b o e n _=>by rw[g b o e];exact n,fun b o e _=>⟨o,k b o e⟩,fun b xs e=>f b _ e,fun b o u e=>f b _ e,fun b j e=>⟨#[],by rw[f b _ e];simp⟩⟩ fun b u e=>?_
 rcases zKU e with z|⟨_,z⟩
 ·exact new (b,u) z
 ·exact(I.hok b u z).stay (fun c v _ q=>k c v q) (fun c q=>f c _ q) fun c xs q=>f c _ q
end
section
variable{X:Cx}
abbrev kN (kvs:List (Str×V)):List (zX×V):=kvs.map fun q=>(Sum.inr q.1,q.2)
theorem KV.get {kvs:List (zX×V)}{vs:List (zX×ae)}:∀{i:Nat}{k:zX}{x:ae},KV kvs vs->vs[i]?=some (k,x)->∃v,kvs[i]?=some (k,v)/\zQ v x:=by
 intro i k x r
 induction r generalizing i with
 |nil=>intro e;simp at e
 |cons h t ih=>
  intro e
  cases i with
  |zero=>
   have a:=aq (by simpa using e)
   rename_i p q _ _
   obtain⟨b,c⟩:=p
   subst a
   have d:b=k:=h.1
   subst d
   exact⟨c,rfl,h.2⟩
  |succ i=>
   obtain⟨v,f,g⟩:=ih (by simpa using e)
   exact⟨v,by simpa using f,g⟩
end
def Its (z:Str):It:=⟨fun i _=>i<z.cps.size,fun i H x H'=>H'=H/\∃c,z.cps[i]?=some c/\x=.str ⟨#[c]⟩,fun i _=>i=z.cps.size⟩
theorem zFc {P:aw}{w:aI}{K:aa}{M:bq}(it:af)(z:Str)(t:Tok)(ty:String)(l:["enumerate","zip","dict_itemiterator","dict_reverseitemiterator","odict_iterator","itertools.zip_longest","itertools.pairwise"].contains ty=false)
  (L:∀A:bB,A.handled=none->Walks P w A it [it] [it] z.cps.size (SignAt z) (fun i h=>h.IsStrIter it ty z t i))
  (N:∀(A:bB) (i:Nat) (s:ah) (Q:ae->ah->Prop) (E:ae->ah->Prop),s.heap.IsStrIter it ty z t i->Q (.ref it) s->wpAny (model P w) A (pyIter (.ref it)) Q E s):Turn P w K M (Its z) [it] it (fun i h=>h.IsStrIter it ty z t i) where
 mem:=by simp
 obj:=fun i h st b f=>by
  have e:b=it:=by simpa using f
  subst e
  obtain⟨o,e,c,d⟩:=st
  exact⟨o,e,fun v z=>by rw[d]at z;cases z⟩
 keep:=fun i h h' st k=>let⟨o,e,r⟩:=st;⟨o,k it (by simp) o e,r⟩
 item:=by
  intro X m n p q i a s σ H E I j st x
  subst m n p
  obtain⟨y,f1,f2,B,C,D⟩:=j it (by simp)
  refine(L X.A (I.ok.hd q)).item i s _ _ x st fun v h' F O g G=>?_
  obtain⟨c,u,J,rfl⟩:=O
  have R:Inv X a σ H {s with heap:=h',toks:=F}:=I.turned (fun b o f e=>G b o (by simpa using f) e) y f1 B C D
  obtain⟨o,e,T,od⟩:=id g
  exact⟨_,rfl,zAW (s:={s with heap:=h',toks:=F}) e T od l ⟨.str ⟨#[c]⟩,H,R,⟨u,rfl⟩,⟨rfl,c,J,rfl⟩,g,fun b f=>(j b f).1⟩⟩
 done:=by
  intro X m n p q i a s σ H E I j st x
  subst m n p
  obtain⟨y,f1,f2,B,C,D⟩:=j it (by simp)
  have hi:i=z.cps.size:=x
  subst hi
  exact(L X.A (I.ok.hd q)).done s _ _ st fun h' F G=>⟨rfl,I.turned (fun b o f e=>G b o (by simpa using f) e) y f1 B C D⟩
 self:=N
section
variable{X:Cx}{tg:bq}
def zKW (tl:TE):TI:=fun σ H R=>tl σ H fun x H1=>∃z,x=.str z/\R (Its z) H1
theorem zFd {l:bq}{j:TE}(hl:PE X l j):PI X tg l (zKW j):=by
 intro a s σ H R I h
 refine zK (hl a s σ H _ I h) fun v c ⟨x,f,d,p,z,r,q⟩=>?_
 subst r
 obtain⟨t,rfl⟩:=p
 have m:∀b∈[c.heap.objs.size],qT X a f b:=fun b u=>by
  have e:b=c.heap.objs.size:=by simpa using u
  subst e
  exact d.fpOk (ay _) (d.hok.fresh (ay _))
 cases n:z.cps.all (· <128)with
 |false=>
  refine wpAny_pyIter_wide n ⟨c.heap.objs.size,[c.heap.objs.size],_,_,f,rfl,d.kept (t':=c.toks) fun b o e=>ao _ e,zFc _ z t "str_iterator" (by decide) (fun A g=>Walks.strWide g _ z t) (fun A i s Q E st h=>wpAny_pyIter_striter_wide st h),⟨_,aZ _ rfl,rfl,rfl⟩,m,q⟩
 |true=>
  refine wpAny_pyIter_ascii n ⟨c.heap.objs.size,[c.heap.objs.size],_,_,f,rfl,d.kept (t':=c.toks) fun b o e=>ao _ e,zFc _ z t "str_ascii_iterator" (by decide) (fun A g=>Walks.strAscii g _ z t) (fun A i s Q E st h=>wpAny_pyIter_striter_ascii st h),⟨_,aZ _ rfl,rfl,rfl⟩,m,q⟩
end
theorem zKX (lo hi:Option Int)(n:Nat):cz lo hi 1 n=cz (some ((HT.sIx n 0 lo:Nat):Int)) (some ((HT.sIx n n hi:Nat):Int)) 1 n:=by
 have hl:=HT.sIx_le n 0 (bJ _) lo
 have m:=HT.sIx_le n n (ay _) hi
 have key:∀(o:Option Int) (d:Nat),d<=n->(match o with|none=>(d:Int)|some i=>(let i:=if i<0 then i+(n:Int)else i;max 0 (min i (n:Int))))=((HT.sIx n d o:Nat):Int):=by
  intro o d hd
  cases o with
  |none=>rfl
  |some i=>
   show max 0 (min (if i<0 then i+(n:Int)else i) (n:Int))=(((if i<0 then(i+(n:Int)).toNat else min i.toNat n):Nat):Int)
   by_cases h:i<0
   ·rw[if_pos h,if_pos h];omega
   ·rw[if_neg h,if_neg h];omega
 have p:=key lo 0 (bJ _)
 have q:=key hi n (ay _)
 have k1:max (0:Int) (min ((HT.sIx n 0 lo:Nat):Int) (n:Int))=((HT.sIx n 0 lo:Nat):Int):=by omega
 have k2:max (0:Int) (min ((HT.sIx n n hi:Nat):Int) (n:Int))=((HT.sIx n n hi:Nat):Int):=by omega
 have c:¬(((HT.sIx n 0 lo:Nat):Int)<0):=by omega
 have e:¬(((HT.sIx n n hi:Nat):Int)<0):=by omega
 unfold cz
 simp only[show((1:Int)>0)=True from by simp,if_true,c,e,if_false,k1,k2]
 have a:∀i:Int,(max 0 (min (if i<0 then i+(n:Int)else i) (n:Int)))=((HT.sIx n 0 (some i):Nat):Int):=fun i=>key (some i) 0 (bJ _)
 have b:∀i:Int,(max 0 (min (if i<0 then i+(n:Int)else i) (n:Int)))=((HT.sIx n n (some i):Nat):Int):=fun i=>key (some i) n (ay _)
 have f:((HT.sIx n 0 none:Nat):Int)=0:=rfl
 have g:((HT.sIx n n none:Nat):Int)=n:=rfl
 cases lo with
 |none=>
  cases hi with
  |none=>rfl
  |some j=>dsimp only;rw[b,f]
 |some i=>
  cases hi with
  |none=>dsimp only;rw[a,g]
  |some j=>
   dsimp only
   have l:=a i
   rw[l]
   rw[b]
theorem zKY (x:Str)(lo hi:Option Int):ox x lo hi=⟨((x.cps.toList.drop (HT.sIx x.length 0 lo)).take (HT.sIx x.length x.length hi-HT.sIx x.length 0 lo)).toArray⟩:=by
 have hl:=HT.sIx_le x.length 0 (bJ _) lo
 have f:=HT.sIx_le x.length x.length (ay _) hi
 unfold ox
 rw[zKX lo hi]
 generalize HT.sIx x.length 0 lo=a at*
 generalize HT.sIx x.length x.length hi=b at*
 have g:x.cps.toList.length=x.length:=by simp[jw]
 by_cases c:a<=b
 ·have sp:=StrLaws.sliced_plain x c f
  split
  ·rename_i h
   rw[StrLaws.strSliceIndices_plain c f]at h
   have h':b-a=x.length:=by simpa using h
   have i:a=0:=by omega
   have d:b=x.cps.toList.length:=by omega
   subst i
   apply MyS.Str_ext
   show x.cps.toList=((x.cps.toList.drop 0).take (b-0)).toArray.toList
   rw[gj,lj,d,aX]
  ·rw[sp]
 ·have d:b-a=0:=by omega
  have e:cz (some (a:Int)) (some (b:Int)) 1 x.length=[]:=by
   have j:¬((a:Int)<0):=by omega
   have l:¬((b:Int)<0):=by omega
   have m:max (0:Int) (min (a:Int) (x.length:Int))=a:=by omega
   have n:max (0:Int) (min (b:Int) (x.length:Int))=b:=by omega
   simp only[cz,sliceRange,j,l,if_false,m,n,show((1:Int)>0)=True from by simp,if_true]
   rw[if_neg (by omega)]
   rfl
  rw[e,d]
  split
  ·rename_i h
   have h':0=x.length:=by simpa using h
   omega
  ·simp
section
variable{X:Cx}{e:bq}{te:TE}{lo hi:Option bq}{tl th:TO}{pos p2:Pos}
def vY (z:Str)(lo hi:Option Int):Str:=⟨((z.cps.toList.drop (HT.sIx z.length 0 lo)).take (HT.sIx z.length z.length hi-HT.sIx z.length 0 lo)).toArray⟩
def zKZ (te:TE)(tl th:TO):TE:=fun σ H Q=>te σ H fun x H1=>tl σ H1 fun l H2=>th σ H2 fun u H3=>∃z,x=.str z/\z.length<=sizeLine/\Q (.str (vY z l u)) H3
theorem kO (he:PE X e te)(hl:PO X lo tl)(n:PO X hi th):PE X (.Subscript e (.Slice lo hi none p2) pos) (zKZ te tl th):=by
 intro a s σ H Q I h
 refine mU (zK (he a s σ H _ I h) fun v p ⟨x,r,y,B,C⟩=>?_)
 refine wpAny_Slice (zK (hl a p σ r _ y C) fun D E ⟨l,F,G,pl,J⟩=>zK (n a E σ F _ G J) fun L c ⟨u,M,N,m,O⟩=>?_)
 rw[nU]
 refine bw ?_
 obtain⟨z,rfl,d,q⟩:=O
 obtain⟨t,rfl⟩:=B
 have f:KeptH (fun h=>∀b o,c.heap.get? b=some o->h.get? b=some o):=fun h Y g b o q=>ao _ (g b o q)
 have fin:∀h' t' k,(∀b o,c.heap.get? b=some o->h'.get? b=some o)->EP X a σ Q (.str (ox z l u) t') {c with heap:=h',toks:=k}:=fun h' t' k g=>by
  refine⟨.str (vY z l u),M,N.kept g,⟨t',?_⟩,q⟩
  rw[zKY];rfl
 have go:ItemOn (model X.prog X.w) X.A X.xe (.str z t) (.ref c.heap.objs.size) (EP X a σ Q) {c with heap:=c.heap.push {cls:=.type "slice",data:=.fields #[D,L,.none]}}:=by
  cases pl with
  |none=>
   cases m with
   |none=>exact SBH.sliceItem_nn f (fun _ _ q=>q) fin d
   |int j P=>exact SBH.sliceItem_ns f (fun _ _ q=>q) fin d
  |int i Z=>
   cases m with
   |none=>exact SBH.sliceItem_sn f (fun _ _ q=>q) fin d
   |int j P=>exact SBH.sliceItem_ss f (fun _ _ q=>q) fin d
 obtain⟨T,id,R,U,W⟩:=go
 exact tail_any (ops:=[.ref c.heap.objs.size,.str z t]) U R W (by with_unfolding_all rfl)
end
section
variable{X:Cx}
theorem zBV (l:X.calm=true):uQ X (.builtin "all") (fun xs H Q=>∃(p:af) (bs:List Bool),xs=[.ref p]/\yF X.K H p (bs.map V.bl)/\Q (.bl (bs.all id)) H):=by
 intro f s σ H xs us Q I r h
 obtain⟨p,bs,rfl,m,q⟩:=h
 obtain⟨u,rfl,t⟩:=qL r
 cases t
 obtain⟨a,d,pl,G⟩:=I.list m
 have w:p≠s.heap.objs.size:=by
  obtain⟨o,n,e,_⟩:=pl
  exact br (aD e)
 have c:∀(i:Nat) (v:ae),a.toArray[i]?=some v->v=.bool (bs.getD i false):=fun i v e=>by
  have g:a[i]?=some v:=by simpa using e
  have hl:=d.length
  have hi:i<bs.length:=by
   have:=(ag.mp g).1
   simp at hl;omega
  obtain⟨u,j,y⟩:=d.get (i:=i) (x:=.bl (bs.getD i false)) (by rw[az];simp[hi])
  rw[g]at j
  cases j
  exact y
 refine call_all_walk (gq pl.isList ?_)
 refine⟨s.heap.objs.size,_,_,a.toArray.size,_,_,fun i=>bs.getD i false,rfl,pf (A:=X.A.in1) (I.ok.hd l) _ p w a.toArray,⟨⟨_,aZ _ rfl,rfl,rfl⟩,?_⟩,fun i v s' J L B C=>?_,fun h' D E=>?_⟩
 ·exact pl.isList.at fun o e=>ao _ e
 ·rw[c i v B];exact cA C
 ·refine⟨.bl (bs.all id),H,I.kept (t':=D) (h':=h') fun b o e=>E b o (fun z=>?_) (ao _ e),?_,q⟩
  ·have:b=s.heap.objs.size:=by simpa using z
   exact absurd (aD e) (by rw[this];exact bS _)
  ·have hl:=d.length
   have hsz:a.toArray.size=bs.length:=by simp at hl;simp[hl]
   have:(cb a.toArray.size).all (fun i=>bs.getD i false)=bs.all id:=by
    rw[hsz]
    rw[eh]
    simp only[c9,cK,id]
    constructor
    ·intro h b F
     obtain⟨i,hi,e⟩:=dY F
     have:=h i hi
     simpa [hi,e]using this
    ·intro h i hi
     have:=h bs[i] (cG hi)
     simpa [hi]using this
   rw[this];rfl
theorem zCt (ns:List Int):∀k,k<=ns.length->preSum (fun i=>ns.getD i 0) k=(ns.take k).sum
 |0,_=>by simp[preSum]
 |k+1,h=>by
  show preSum (fun i=>ns.getD i 0) k+ns.getD k 0=_
  have a:k<ns.length:=h
  rw[zCt ns k (by omega),ax a,mB]
  simp[a]
theorem zKa (t:X.calm=true):uQ X (.builtin "sum") (fun xs H Q=>∃(p:af) (ns:List Int),xs=[.ref p]/\yF X.K H p (ns.map V.int)/\Q (.int ns.sum) H):=by
 intro g s σ H xs us Q I r h
 obtain⟨p,ns,rfl,w,q⟩:=h
 obtain⟨u,rfl,y⟩:=qL r
 cases y
 obtain⟨a,d,pl,F⟩:=I.list w
 have c:p<s.heap.objs.size:=by
  obtain⟨o,n,e,_⟩:=pl
  exact aD e
 have hl:=d.length
 have hsz:a.toArray.size=ns.length:=by simp at hl;simp[hl]
 have z:=zJS d
 refine ll (gq pl.isList ?_)
 refine⟨s.heap.objs.size,_,_,_,a.toArray.size,_,_,fun i=>ns.getD i 0,rfl,(pf (A:=X.A.in1) (I.ok.hd t) _ p (br c) a.toArray).toS,⟨⟨_,aZ _ rfl,rfl,rfl⟩,?_⟩,fun b f=>?_,fun i v B=>?_,fun s' t' j=>?_⟩
 ·exact pl.isList.at fun o e=>ao _ e
 ·show b<(s.heap.push _).objs.size
  rw[size_push']
  rcases aJ.mp f with e|f
  ·rw[e];exact dR _
  ·rw[bH.mp f];exact eT c
 ·have l:a[i]?=some v:=by simpa using B
  have hi:i<ns.length:=by
   have:=(ag.mp l).1
   simp at hl;omega
  obtain⟨u,m,C⟩:=d.get (i:=i) (x:=.int (ns.getD i 0)) (by rw[az];simp[hi])
  rw[l]at m
  cases m
  exact C
 ·have D:∀b o,s.heap.get? b=some o->s'.heap.get? b=some o:=fun b o e=>
   j.heap b o (fun E=>absurd (aD e) (by rw[bH.mp E];exact bS _)) (ao _ e)
  rw[og j]
  refine⟨.int ns.sum,H,I.kept (h':=s'.heap) (t':=s'.toks) D,⟨t',?_⟩,q⟩
  rw[hsz,zCt ns ns.length (ay _),aX]
def zKb (d:af):Obj:={cls:=.type "dict_values",data:=.fields #[.ref d]}
def VLS (p d:af):HO:=.ext fun h=>h.get? p=some (zKb d)
def zKc:V->List V->Hp->VK->Prop:=fun x vs H Q=>∃d kvs,x=.ref d/\vs=[]/\H d=some (.dK kvs)/\∀p,H p=none->Q (.ref p) (upd H p (VLS p d))
theorem zKd:MtM X "dict.values" zKc:=by
 intro c s σ H x vs v us Q I f g h
 obtain⟨d,kvs,rfl,rfl,hd,q⟩:=h
 cases f
 have a:=g.zero
 subst a
 obtain⟨z,i,j,rel,dd⟩:=k9 I.hok hd
 refine fT hV dd.typeIs PySem.F.entry_dict_values (PySem.F.args_dict_values_1 _) (meets_dict_values (uH X.prog X.w) d i) ⟨⟨_,dd⟩,?_⟩
 refine⟨.ref s.heap.objs.size,_,I.laid (t':=s.toks) (o:=VLS s.heap.objs.size d) (fun b o e=>ao _ e) (ay _) ?_,rfl,q _ (I.hok.fresh (ay _))⟩
 exact⟨aZ _ rfl,⟨_,aZ _ rfl⟩,fun l m e k=>k _ e⟩
theorem zKe (L:X.calm=true):uQ X (.builtin "sum") (fun xs H Q=>∃(p d:af) (a:List (zX×Int)),xs=[.ref p]/\H p=some (VLS p d)/\H d=some (.dK (a.map fun q=>(q.1,V.int q.2)))/\Q (.int (a.map (·.2)).sum) H):=by
 intro F s σ H xs us Q I r h
 obtain⟨p,d,a,rfl,M,hd,q⟩:=h
 obtain⟨u,rfl,N⟩:=qL r
 cases N
 obtain⟨z,y,m,rel,dd⟩:=k9 I.hok hd
 obtain⟨G,_,_⟩:=I.hok p _ M
 obtain⟨ep,c⟩:=dd.dictAt
 have j:m.length=a.length:=by have:=rel.length;simpa using this.symm
 have B:∀(i:Nat) (v:ae),(∃k,m[i]?=some (k,v))->∃t,v=Value.int ((a.map (·.2)).getD i 0) t:=fun i v ⟨k,e⟩=>by
  obtain⟨x,l,O⟩:=KV.get rel e
  rw[az]at l
  cases g:a[i]? with
  |none=>rw[g]at l;cases l
  |some n=>
   rw[g]at l
   have C:(n.1,V.int n.2)=(k,x):=aq l
   have:x=V.int n.2:=(bU C).2.symm
   subst this
   obtain⟨t,rfl⟩:=O
   refine⟨t,?_⟩
   have:(a.map (·.2)).getD i 0=n.2:=by rw[cg,az,g];rfl
   rw[this]
 have J:=PySem.W.kdl_values (knd:=uH X.prog X.w) (kvs:=m) (ep:=ep) (r:=p) (d:=d)
 obtain⟨P,St,hit,W,st⟩:=J.iter X.A.in1 s (I.ok.hd L) ⟨⟨_,G,rfl,rfl⟩,c⟩
 have D:=J.there s.heap ⟨⟨_,G,rfl,rfl⟩,c⟩
 refine ll (hit _ _ ⟨s.heap.objs.size,_,_,_,m.length,_,_,fun i=>(a.map (·.2)).getD i 0,rfl,W.toS,st,fun b E=>?_,B,fun s' t' y=>?_⟩)
 ·show b<(s.heap.push P).objs.size
  rw[size_push']
  rcases aJ.mp E with e|E
  ·rw[e];exact dR _
  ·rw[bH.mp E];exact eT D.2
 have R:∀b o,s.heap.get? b=some o->s'.heap.get? b=some o:=fun b o e=>
  y.heap b o (fun T=>absurd (aD e) (by rw[bH.mp T];exact bS _)) (ao _ e)
 rw[og y]
 refine⟨.int (a.map (·.2)).sum,H,I.kept (h':=s'.heap) (t':=s'.toks) R,⟨t',?_⟩,q⟩
 rw[j,<-ai (f:=(·.2)) (as:=a),zCt _ _ (ay _),aX]
theorem kP:uQ X (.builtin "isinstance") (fun xs H Q=>∃x c t b,xs=[x,.ty c]/\TyOf X.K H x t/\aS X.K t (.type c)=some b/\Q (.bl b) H):=by
 intro a s σ H xs us Q I r h
 obtain⟨x,c,t,b,rfl,ty,e,q⟩:=h
 obtain⟨u,i,rfl,d,f⟩:=zAa r
 cases f
 exact zJI I d ty e fun g=>⟨.bl b,H,I.tok g,rfl,q⟩
theorem zKf {a:List Str}:∀{us:List ae},zL (a.map V.str) us->StrsAre us a:=by
 induction a with
 |nil=>intro us r;rw[il]at r;cases r;exact .nil
 |cons x a ih=>
  intro us r
  rw[aF]at r
  cases r with
  |cons b c=>
   obtain⟨t,e⟩:=b
   subst e
   exact .cons x t (ih c)
def zKg (K:aa):V->List V->Hp->VK->Prop:=fun x vs H Q=>∃(sep:Str) (l:af) (ss:List Str),x=.str sep/\vs=[.ref l]/\yF K H l (ss.map V.str)/\(ss.map (·.length)).sum+ss.length*sep.length<=16777216/\Q (.str (lu sep ss)) H
theorem zKh:MtR X "str.join" (zKg X.K):=by
 intro a s σ H x vs v us Q I b c h
 obtain⟨sep,l,d,rfl,rfl,e,f,q⟩:=h
 obtain⟨t,rfl⟩:=b
 obtain⟨u,rfl,g⟩:=qL c
 cases g
 obtain⟨i,j,pl,_⟩:=I.list e
 exact join_list pl.isList (by simpa using zKf j) f fun t' k=>⟨.str (lu sep d),H,I.tok k,⟨t',rfl⟩,q⟩
theorem zKi (l:List Str):∀a:Array Nat,(l.foldl (fun b p=>b++(⟨#[]⟩:Str).cps++p.cps) a).toList=a.toList++(l.map (·.cps.toList)).flatten:=by
 induction l with
 |nil=>intro a;simp
 |cons x r ih=>intro a;rw[fI,ih];simp
theorem zKj (a:List Str):lu ⟨#[]⟩ a=⟨(a.map (·.cps.toList)).flatten.toArray⟩:=by
 apply MyS.Str_ext
 show((a.drop 1).foldl (fun b p=>b++(⟨#[]⟩:Str).cps++p.cps) (a.headD pD).cps).toList=(a.map (·.cps.toList)).flatten.toArray.toList
 rw[zKi]
 cases a with
 |nil=>rfl
 |cons x r=>simp
def zKk:V->List V->Hp->VK->Prop:=fun x vs H Q=>∃d kvs k v,x=.ref d/\vs=[kV k,v]/\H d=some (.dK kvs)/\kvs.length<sizeLine/\(∀y,yI kvs k=some y->Q y H)/\(yI kvs k=none->Q v (upd H d (.dK (vL kvs k v))))
theorem zKl:MtM X "dict.setdefault" zKk:=by
 intro i s σ H x vs v us Q I m n h
 obtain⟨d,kvs,k,y,rfl,rfl,hd,E,o,p⟩:=h
 cases m
 obtain⟨u,r,rfl,t,b⟩:=zAa n
 obtain⟨z,j,l,rel,dd⟩:=k9 I.hok hd
 have f:l.length<=sizeLine:=by rw[<-rel.length];exact z
 refine fT fK dd.typeIs PySem.F.entry_dict_setdefault (PySem.F.args_dict_setdefault_3 _ _ _) (kt_meets_setdefault (uH X.prog X.w) d (k8 t) j r) ⟨l,dd,f,fun G A=>?_,fun B h' c C=>?_⟩
 ·have a:=rel.val k
  rw[A]at a
  cases e:yI kvs k with
  |none=>rw[e]at a;exact a.elim
  |some g=>
   rw[e]at a
   exact⟨g,H,I.tok _,a,o g e⟩
 ·have a:=rel.val k
  rw[B]at a
  cases e:yI kvs k with
  |some g=>rw[e]at a;exact a.elim
  |none=>
   have he:∃q,h'.get? d=some q:=let⟨q,_,_,D,_⟩:=c;⟨q,D⟩
   have hl:(vL kvs k y).length<=sizeLine:=by have:=zCf kvs k y;omega
   exact⟨y,_,zBR I (by rw[hd];exact True.intro) C he (zBS hl j (rel.put k b) c),b,p e⟩
def zFe:List V->Hp->VK->Prop:=fun xs H Q=>∃d kvs,xs=[.ref d]/\H d=some (.dK (kN kvs))/\(kvs.map (·.1)).Nodup/\kvs.length<64/\
 ∀(out:List Str) (l:af),out.Perm (kvs.map (·.1))->out.Pairwise (fun a b=>a.cps.toList<b.cps.toList)->H l=none->Q (.ref l) (upd H l (.lst (out.map V.str)))
theorem zAh (hc:X.calm=true):uQ X (.builtin "sorted") zFe:=by
 intro J s σ H xs us Q I rx h
 obtain⟨d,kvs,rfl,hd,nd,U,q⟩:=h
 obtain⟨u,rfl,ru⟩:=qL rx
 cases ru
 obtain⟨z,hm,ws,rel,dd⟩:=k9 I.hok hd
 have C:ws.length=kvs.length:=by have:=rel.length;simpa using this.symm
 obtain⟨ep,Y⟩:=dd.dictAt
 refine Calls.call_function_entry kind_sorted plain_sorted entry_sorted (args_sorted1 _) ?_
 unfold eO.«sorted»
 refine aE (m:=checkCount "sorted" 1 1 _) (bw ?_)
 refine aE (PySem.W.kdu_collect (A:=X.A.in1) (PySem.W.kdl_dict (knd:=uH X.prog X.w) (kvs:=ws) (ep:=ep) hm) (I.ok.hd hc) Y (by rw[C,aP];omega) fun h' tk a hk c=>?_)
 have n:a.toList.length=kvs.length:=by rw[fM];exact c.1.trans C
 have Z:StrsAre a.toList (kvs.map (·.1)):=by
  have L:∀v∈a.toList,∃x t,v=Value.str x t:=fun v hv=>by
   obtain⟨i,hi,e⟩:=dY hv
   obtain⟨k,x,f,F⟩:=c.2 i v (by rw[<-fb,aG hi,e])
   obtain⟨y,f1,_⟩:=KV.get rel f
   rw[az]at f1
   cases g:kvs[i]? with
   |none=>rw[g]at f1;cases f1
   |some p=>
    rw[g]at f1
    have:(Sum.inr p.1:zX)=k:=(bU (aq f1)).1
    subst this
    have D:jK (Sum.inr p.1) v=true:=F
    rcases u6 D with⟨j,t,G,_⟩|⟨w,t,G,z2⟩
    ·cases G
    ·exact⟨w,t,z2⟩
  have e0:=strsAre_map a.toList L
  have:a.toList.map strOf=kvs.map (·.1):=by
   apply lX
   ·simp only[ai,n]
   ·intro i h1 M
    have hi:i<a.toList.length:=by simpa using h1
    have ab:i<kvs.length:=by simpa using M
    obtain⟨k,x,f,F⟩:=c.2 i a.toList[i] (by rw[<-fb,aG hi])
    obtain⟨y,f1,_⟩:=KV.get rel f
    rw[az,aG ab]at f1
    have:(Sum.inr kvs[i].1:zX)=k:=(bU (aq f1)).1
    subst this
    have D:jK (Sum.inr kvs[i].1) a.toList[i]=true:=F
    rcases u6 D with⟨j,t,G,_⟩|⟨w,t,G,z2⟩
    ·cases G
    ·have:kvs[i].1=w:=iS G
     rw[fj,fj,z2,this]
     rfl
  rw[this]at e0
  exact e0
 refine aE (oa ?_ (by rw[n,aP];omega))
 generalize hB:h'.objs.size=B
 have N:(h'.push {cls:=.type "list",data:=.seq a.toList.toArray}).get? B=some (seqObj "list" a.toList.toArray 0):=by
  rw[<-hB];exact aZ _ rfl
 refine aE (fw (wpAny_call_entry slot_list_sort ⟨_,N,rfl⟩ entry_list_sort (MyS.sort_strs (ks:=kvs.map (·.1)) N Z nd (by rw[n];exact U) fun pm M F r O ac ak=>⟨_,rfl,?_⟩) (args_list_sort _)))
 refine bw ⟨_,rfl,?_⟩
 rw[n]at r
 have P:∀i∈pm,i<kvs.length:=fun i hi=>cK.mp (r.mem_iff.mp hi)
 have R:∀b o,s.heap.get? b=some o->M.get? b=some o:=fun b o e=>by
  have f:=hk b o e
  refine ac b o ?_ (ao _ f)
  rw[<-hB];exact br (aD f)
 have T:s.heap.get? B=none:=by
  cases g:s.heap.get? B with
  |none=>rfl
  |some o=>
   have h0:=aD (hk B o g)
   rw[hB]at h0
   exact absurd h0 (bS _)
 have qM:upd H B (.lst ((pm.map fun i=>(kvs.map (·.1)).getD i ⟨#[]⟩).map V.str))=qG H [(B,.lst ((pm.map fun i=>(kvs.map (·.1)).getD i ⟨#[]⟩).map V.str))]:=by
  funext b
  unfold upd qG
  by_cases hb:b=B
  ·subst hb;simp
  ·have al:(b==B)=false:=by simpa using hb
   rw[if_neg hb,bE,al]
   rfl
 have IM:Inv X J σ (qG H [(B,.lst ((pm.map fun i=>(kvs.map (·.1)).getD i ⟨#[]⟩).map V.str))]) {s with heap:=M,toks:=tk}:=by
  refine I.many R (fun p hp=>?_) fun p hp=>?_
  ·rcases aJ.mp hp with e|e
   ·rw[e];exact T
   ·cases e
  ·rcases aJ.mp hp with e|e
   ·subst e
    refine⟨?_,(pm.map fun i=>a.toList.getD i Value.none),_,?_,ak⟩
    ·show(iZ V.str (pm.map _)).length<=_
     rw[ai,ai,r.length_eq,bA,aP];omega
    ·have go:∀l:List Nat,(∀i∈l,i<kvs.length)->zL ((l.map fun i=>(kvs.map (·.1)).getD i ⟨#[]⟩).map V.str) (l.map fun i=>a.toList.getD i Value.none):=by
      intro l
      induction l with
      |nil=>intro _;exact .nil
      |cons i l ih=>
       intro hl
       have hi:=hl i (av ..)
       have E:i<a.toList.length:=by omega
       refine .cons ?_ (ih fun j hj=>hl j (au _ hj))
       obtain⟨x,t,e⟩:=Z.all a.toList[i] (cG E)
       refine⟨t,?_⟩
       have f:a.toList.getD i Value.none=a.toList[i]:=by
        rw[cg,aG E];rfl
       have F:(kvs.map (·.1)).getD i ⟨#[]⟩=x:=by
        rw[<-Z.strs,cg,az,aG E,e];rfl
       dsimp only
       rw[f,F,e]
     exact go pm P
   ·cases e
 refine⟨.ref B,_,IM,rfl,?_⟩
 rw[<-qM]
 refine q _ B ?_ ?_ (I.hok.free T)
 ·have f:(cb kvs.length).map (fun i=>(kvs.map (·.1)).getD i (⟨#[]⟩:Str))=kvs.map (·.1):=by
   apply lX
   ·simp
   ·intro i h1 M
    have hi:i<kvs.length:=by simpa using h1
    simp[hi]
  have:=r.map (fun i=>(kvs.map (·.1)).getD i (⟨#[]⟩:Str))
  rw[f]at this
  exact this
 ·rw[bM]
  rw[bM]at O
  exact O
theorem zFf:z9 X (binaryOp .Add) (fun x y H Q=>∃a b l,x=.ref a/\y=.ref b/\yX X.K H a []/\yX X.K H b l/\Q (.ref b) H):=by
 intro m s σ H x y v u Q I t w h
 obtain⟨a,b,l,rfl,rfl,z,A,q⟩:=h
 cases t
 cases w
 obtain⟨g,B,C,_⟩:=I.tuple z
 obtain⟨c,J,D,_⟩:=I.tuple A
 have E:g=[]:=by cases B;rfl
 subst E
 obtain⟨⟨cls,dd,data,F⟩,o,p,n,hd⟩:=id C
 obtain⟨⟨r,i,data2,j⟩,d,e,G,f⟩:=id D
 simp only at p hd e f
 subst p hd e f
 exact kr ⟨_,o,rfl⟩ ⟨_,d,rfl⟩ hZ jo eS eJ (d8 _ _)
  (tuple_addW0 a b _ c.toArray n G dd i F j (by simp)) ⟨o,d,⟨.ref b,H,I,rfl,q⟩⟩
end
structure Known (J:It) (items:List V) (Hk:Hp->Prop):Prop where
 go:∀i H,Hk H->i<items.length->J.go i H
 yld:∀i H x H',Hk H->J.yld i H x H'->H'=H/\(i<items.length->items[i]?=some x)
 stop:∀H,Hk H->J.stop items.length H
theorem jX (lo:Int)(n:Nat):Known (Itr lo n) ((cb n).map fun(i:Nat)=>V.int (lo+(i:Int))) (fun _=>True) :=
 ⟨fun i H _ h=>by show i<n;simpa using h,fun i H x H' _ h=>⟨h.1,fun hi=>by
  have a:i<n:=by simpa using hi
  rw[az,dZ a,h.2];rfl⟩,fun H _=>by show n<=_;simp⟩
theorem jY (K:aa)(a:af)(xs:List V):Known (Itl K a) xs (fun H=>yF K H a xs) :=
 ⟨fun i H h hi=>⟨xs,xs[i],h,aG hi⟩,fun i H x H' h y=>⟨y.1,fun _=>y.2 xs h⟩,fun H h=>⟨xs,h,ay _⟩⟩
theorem g9 (K:aa)(a:af)(xs:List V):Known (Itt K a) xs (fun H=>yX K H a xs) :=
 ⟨fun i H h hi=>⟨xs,xs[i],h,aG hi⟩,fun i H x H' h y=>⟨y.1,fun _=>y.2 xs h⟩,fun H h=>⟨xs,h,ay _⟩⟩
theorem zFg (z:Str):Known (Its z) (z.cps.toList.map fun c=>V.str ⟨#[c]⟩) (fun _=>True) :=
 ⟨fun i H _ h=>by show i<z.cps.size;simpa using h,fun i H x H' _ h=>⟨h.1,fun _=>by
  obtain⟨c,a,b⟩:=h.2
  rw[az,fb,a,b];rfl⟩,fun H _=>by show _=z.cps.size;simp⟩
theorem zBW {J:It}{items:List V}{D:Hp->Prop}(v:Known J items D){caps:List Nat}{n:Nat}{σ:St}{g:TG}{E:TT}{te:TE}{F:List V->Hp->Prop}{G:Hp}(l:St)(k:Nat)(Q:items.length<1000)
  (Pv:Nat->List V->Hp->Prop) (I:Pv 0 [] G) (L:∀i a H,i<=items.length->Pv i a H->D H/\a.length<=i)
  (o:∀(i:Nat) (x:V) (a:List V) (H:Hp) (f:St) (w:List V->St->Hp->Prop),(∀c H' u,u.length=k->Pv (i+1) c H'->w c (l++u) H')->items[i]?=some x->f.length=k->Pv i a H->
   g x (l++f) H fun d z=>E d z fun b q=>if b=true then te d q fun y j=>w (a++[y]) d j else w a d q)
  (fin:∀a H,Pv items.length a H->F a H) (A:qN caps n σ=l++aA k none:=by rfl) :
  ∃W:Nat->Nat->List V->St->Hp->Prop,(∃m,W 0 m [] (qN caps n σ) G)/\∀i m a r H',W i m a r H'->
   (J.stop i H'/\F a H')\/
   (J.go i H'/\a.length<sizeLine/\∀x s,J.yld i H' x s->g x r s fun d z=>E d z fun b q=>if b=true then te d q fun y j=>∃h,h<m/\W (i+1) h (a++[y]) d j else∃h,h<m/\W (i+1) h a d q):=by
 refine⟨fun i m a r H'=>i<=items.length/\m=items.length-i/\(∃f,f.length=k/\r=l++f)/\Pv i a H',⟨items.length,bJ _,rfl,⟨_,by simp,A⟩,I⟩,?_⟩
 rintro i m a r H' ⟨hi,rfl,⟨f,M,rfl⟩,pv⟩
 obtain⟨B,R⟩:=L i a H' hi pv
 by_cases e:i=items.length
 ·subst e
  exact .inl ⟨v.stop H' B,fin a H' pv⟩
 ·have t:i<items.length:=by omega
  refine .inr ⟨v.go i H' B t,by rw[aP];omega,fun x s C=>?_⟩
  obtain⟨N,O⟩:=v.yld i H' x s B C
  subst N
  exact o i x a s f (fun c d j=>∃h,h<items.length-i/\(i+1<=items.length/\h=items.length- (i+1)/\(∃f,f.length=k/\d=l++f)/\Pv (i+1) c j)) (fun c j u P p=>⟨items.length- (i+1),by omega,by omega,rfl,⟨u,P,rfl⟩,p⟩) (O t) M pv
theorem qH {J:It}{items:List V}{u:Hp->Prop}(B:Known J items u){caps:List Nat}{n:Nat}{σ:St}{g:TG}{te:TE}{F:List V->Hp->Prop}{v:Hp}(r:St)(k:Nat)(C:items.length<1000)
  (Pv:Nat->List V->Hp->Prop) (D:Pv 0 [] v) (E:∀i a H,i<=items.length->Pv i a H->u H/\a.length<=i)
  (l:∀(i:Nat) (x:V) (a:List V) (H:Hp) (s:St) (h:List V->St->Hp->Prop),(∀d H' w,w.length=k->Pv (i+1) d H'->h d (r++w) H')->items[i]?=some x->s.length=k->Pv i a H->
   g x (r++s) H fun c f=>te c f fun y j=>h (a++[y]) c j)
  (fin:∀a H,Pv items.length a H->F a H) (t:qN caps n σ=r++aA k none:=by rfl) :
  ∃W:Nat->Nat->List V->St->Hp->Prop,(∃m,W 0 m [] (qN caps n σ) v)/\∀i m a z H',W i m a z H'->
   (J.stop i H'/\F a H')\/
   (J.go i H'/\a.length<sizeLine/\∀x A,J.yld i H' x A->g x z A fun c f=>zAf c f fun b o=>if b=true then te c o fun y j=>∃q,q<m/\W (i+1) q (a++[y]) c j else∃q,q<m/\W (i+1) q a c o):=by
 refine zBW B r k C Pv D E (fun i x a H s h G I L p=>?_) fin t
 have:=l i x a H s h G I L p
 have e:(fun(c:St) (f:Hp)=>zAf c f fun b o=>if b=true then te c o fun y j=>h (a++[y]) c j else h a c o)=fun c f=>te c f fun y j=>h (a++[y]) c j:=by
  funext c f
  unfold zAf
  exact if_pos rfl
 rw[e]
 exact this
theorem qI {J:It}{items:List V}{o:Hp->Prop}(f:Known J items o){g:TG}{q:TS}{D:Ends}{σ:St}{H:Hp}(Pv:Nat->St->Hp->Prop)(s:Pv 0 σ H)(t:∀i σ H,i<=items.length->Pv i σ H->o H)
  (c:∀(i:Nat) (x:V) (σ:St) (H:Hp) (h:St->Hp->Prop),(∀a H',Pv (i+1) a H'->h a H')->items[i]?=some x->Pv i σ H->g x σ H fun j b=>q {D with nx:=h,ct:=h,bk:=D.nx} j b)
  (fin:∀σ H,Pv items.length σ H->D.nx σ H) :
  ∃W:Nat->Nat->St->Hp->Prop,(∃m,W 0 m σ H)/\∀i m σ H,W i m σ H->
   (J.stop i H/\D.nx σ H)\/(J.go i H/\∃N:St->Hp->Prop,(∀a H',N a H'->∃r,r<m/\W (i+1) r a H')/\∀x H',J.yld i H x H'->g x σ H' fun j b=>q {D with nx:=N,ct:=N,bk:=D.nx} j b):=by
 refine⟨fun i m σ H=>i<=items.length/\m=items.length-i/\Pv i σ H,⟨items.length,bJ _,rfl,s⟩,?_⟩
 rintro i m σ H ⟨hi,rfl,pv⟩
 have l:=t i σ H hi pv
 by_cases e:i=items.length
 ·subst e
  exact .inl ⟨f.stop H l,fin σ H pv⟩
 ·have d:i<items.length:=by omega
  refine .inr ⟨f.go i H l d,Pv (i+1),fun a H' p=>⟨items.length- (i+1),by omega,by omega,rfl,p⟩,fun x b n=>?_⟩
  obtain⟨u,v⟩:=f.yld i H x b l n
  subst u
  exact c i x σ b (Pv (i+1)) (fun _ _ p=>p) (v d) pv
theorem vH {c A B:Prop} [Decidable c] (a:c)(h:A):if decide c=true then A else B:=by
 rw[if_pos (decide_eq_true a)];exact h
theorem yK {c A B:Prop} [Decidable c] (a:¬c)(h:B):if decide c=true then A else B:=by
 rw[if_neg (fun z=>a (of_decide_eq_true z))];exact h
theorem zB.upd_new {H H':Hp}{a:af}{o:HO}(e:zB H H')(h:H a=none):zB H (upd H' a o):=fun b u q=>by
 rw[zJ (vR q h)];exact e b u q
theorem zB.upd1 {H:Hp}{a:af}{o:HO}(h:H a=none):zB H (upd H a o):=(zB.refl H).upd_new h
def zBX (sc:dv)(XN N:List Str)(scope:dv):Nat->List Nat->Bool
 |_,[]=>true
 |i,c::cs=>(match N[i]? with
  |some x=>decide (XN[c]?=some x)&&decide (scope.names.lookup x=some .free)&& (decide (sc.names.lookup x=some .cell)||decide (sc.names.lookup x=some .free))
  |none=>false)&&zBX sc XN N scope (i+1) cs
def zFh (sc:dv)(XN N:List Str)(scope:dv)(caps:List Nat):Bool :=
 decide (scope.kind=.function)&&decide N.Nodup&&scope.names.all (fun y=>decide (y.2≠.cell))&&scope.names.all (fun y=>decide (y.2=.local->scope.names.lookup y.1=some .local))&&
 scope.names.all (fun y=>decide (y.2=.free->sc.names.lookup y.1=some .cell\/sc.names.lookup y.1=some .free))&&zBX sc XN N scope 0 caps&&decide (caps.length<=N.length)
theorem zFi {g:dv}{l N:List Str}{scope:dv}:∀{caps:List Nat}{j:Nat},zBX g l N scope j caps=true->∀i,i<caps.length->
  ∃x,N[j+i]?=some x/\l[caps.getD i 0]?=some x/\scope.names.lookup x=some .free/\(g.names.lookup x=some .cell\/g.names.lookup x=some .free)
 | [],_,_,i,hi=>by simp at hi
 |c::o,j,h,i,hi=>by
  unfold zBX at h
  rw[bC]at h
  obtain⟨f,m⟩:=h
  cases i with
  |zero=>
   cases e:N[j]? with
   |none=>rw[e]at f;cases f
   |some x=>
    rw[e]at f
    simp only[bC,Bool.or_eq_true,decide_eq_true_eq]at f
    exact⟨x,by simpa using e,by simpa using f.1.1,f.1.2,f.2⟩
  |succ i=>
   obtain⟨x,a,b,n,d⟩:=zFi m i (by simpa using hi)
   exact⟨x,by rw[<-a];congr 1;omega,by simpa using b,n,d⟩
theorem uM {j:dv}{l N:List Str}{scope:dv}{caps:List Nat}(h:zFh j l N scope caps=true):CompScope j l N scope caps:=by
 unfold zFh at h
 simp only[bC,decide_eq_true_eq,c9]at h
 obtain⟨⟨⟨⟨⟨⟨a,b⟩,c⟩,d⟩,e⟩,f⟩,g⟩:=h
 exact⟨a,b,c,d,e,fun i hi=>by simpa using zFi f i hi,g⟩
section
variable{X:Cx}{pins:List (af×Obj)}{σ:St}{H:Hp}{s:ah}
theorem Inv.turnedT {fp:List af}{h':bc}{t':Nat}{T:af}{o:HO}(I:Inv X pins σ H s)(k:∀b u,b∉fp->s.heap.get? b=some u->h'.get? b=some u)(h:∀b∈fp,qT X pins H b)(i:s.heap.get? T=none)
  (new:yT X.prog X.w (upd H T o) h' T o):Inv X pins σ (upd H T o) {s with heap:=h',toks:=t'}:=by
 have j:H T=none:=I.hok.free i
 have d:∀b u,H b=some u->b∉fp:=fun b u e z=>by rw[(h b z).1]at e;cases e
 have f:zB H (upd H T o):=zB.upd1 j
 have old:∀b (u:Obj),s.heap.get? b=some u->upd H T o b=H b:=fun b u e=>by
  rw[zJ]
  rintro rfl
  rw[i]at e;cases e
 refine I.step (g':=s.gens) (d':=s.drawn) (ch:=fp) (fun b g=>?_) (fun b o _ _ a e _=>k b o a e) (fun b o _ _ a e _=>⟨o.slots,k b o a e⟩) (fun b u _ e n=>by rw[old b u e];exact n)
  (fun b o a e=>⟨o,k b o a e⟩) (fun b xs e=>f _ _ e) (fun b u v e=>f _ _ e) (fun b B e=>⟨#[],by rw[f _ _ e];simp⟩) (fun m l=>?_) (fun b u e=>?_) I.bare
 ·obtain⟨C,f1,f2,p,t,x⟩:=h b g
  exact⟨p,f1,t,x⟩
 ·obtain⟨o,y,ep,A,r⟩:=l
  exact⟨o,y,ep,k _ o (fun z=>(h _ z).2.1 rfl) A,r⟩
 ·by_cases g:b=T
  ·subst g;rw[zH]at e;cases e;exact new
  ·rw[zJ g]at e
   refine(I.hok b u e).stay (fun c v a q=>k c v ?_ q) (fun c q=>?_) fun c xs q=>?_
   ·rcases a with z|z
    ·rw[z];exact d b u e
    ·exact d c _ z
   ·exact f _ _ q
   ·exact f _ _ q
end
def Ite (K:aa)(a:af):It :=
 ⟨fun i H=>∃xs x,yF K H a xs/\xs[i]?=some x,fun i H x H'=>∃T y,x=.ref T/\H T=none/\H'=upd H T (.tup [.int i,y])/\∀xs,yF K H a xs->xs[i]?=some y,fun i H=>∃xs,yF K H a xs/\xs.length=i⟩
theorem zKm {P:aw}{w:aI}{K:aa}{C:List bq}{k:Nat}{pos:Pos}(a e it:af)(n:e≠it):Turn P w K (.Tuple C k pos) (Ite K a) [e,it] e (fun i h=>(∃old,IsEnum h e it i old)/\h.IsListIter it a i) where
 mem:=by simp
 obj:=fun i h st b j=>by
  obtain⟨⟨old,he⟩,hit⟩:=st
  rcases aJ.mp j with z|z
  ·subst z;exact⟨_,he,fun v z=>by cases z⟩
  ·have U:b=it:=by simpa using z
   subst U
   obtain⟨o,e,c,d⟩:=hit
   exact⟨o,e,fun v z=>by rw[d]at z;cases z⟩
 keep:=fun i h h' st kk=>⟨let⟨old,he⟩:=st.1;⟨old,kk e (by simp) _ he⟩,st.2.at fun o x=>kk it (by simp) o x⟩
 item:=by
  intro X F W Y Z i G s σ H E I N st hg
  subst F W Y
  obtain⟨xs,x,O,hx⟩:=hg
  obtain⟨f,rv,p,hz⟩:=I.list O
  obtain⟨u,hu,ru⟩:=rv.get hx
  obtain⟨⟨old,he⟩,hit⟩:=id st
  have ab:e≠a:=fun z=>by
   subst z
   obtain⟨o,B,l,_⟩:=p.isList
   rw[he]at B;cases B
   have ac:Value.type "enumerate"=Value.type "list" :=l
   exact absurd ac (by decide)
  have r:a≠it:=fun z=>by
   subst z
   obtain⟨o,B,l,_⟩:=p.isList
   obtain⟨o',m,J,_⟩:=hit
   rw[B]at m;cases m;rw[l]at J;exact absurd J (by decide)
  have D:=ph (prog:=X.prog) (w:=X.w) (A:=X.A.in1) (show X.A.in1.handled=none from I.ok.hd Z) it a r f.toArray
  have ak:i<f.toArray.size:=by
   have:=(ag.mp hu).1
   simpa using this
  refine wpAny_pyNext_enum_itemD D he ⟨hit,p.isList⟩ ak n (by simp[n,ab]) fun R h' T F ho al hT hsz hk=>?_
  have am:R=u:=by
   have:f[i]?=some R:=by simpa using F
   rw[hu]at this;exact(aq this).symm
  subst am
  refine⟨_,rfl,wpAny_letOwnedTupleGo_enum ho fun l an t=>?_⟩
  have y:s.heap.get? s.heap.objs.size=none:=by
   cases g:s.heap.get? s.heap.objs.size with
   |none=>rfl
   |some o=>exact absurd (aD g) (bS _)
  have L:e<s.heap.objs.size:=aD he
  have ap:l.get? s.heap.objs.size=some {cls:=.type "tuple",data:=.seq #[.int i T,R]}:=(t.2 _ (kg L)).trans hT
  refine⟨.ref s.heap.objs.size,upd H s.heap.objs.size (.tup [.int i,x]),I.turnedT (fp:=[e,it]) (h':=l) (t':=T+1) (fun b o j q=>?_) N y ⟨by show 2<=sizeLine;decide,[.int i T,R],.cons ⟨T,rfl⟩ (.cons ru .nil),⟨_,ap,rfl,_,rfl⟩⟩,rfl,
   ⟨_,x,rfl,I.hok.free y,rfl,fun ys hy=>by rw[I.list_inj hy O];exact hx⟩,⟨⟨_,by simpa using an⟩,al.1.at fun o q=>(t.2 it (dG n)).trans q⟩,fun b j=>?_⟩
  ·have M:b≠e:=fun z=>j (by simp[z])
   have as:b≠it:=fun z=>j (by simp[z])
   exact(t.2 b M).trans (hk b o M as q)
  ·rw[zJ]
   ·exact(N b j).1
   ·rintro rfl
    rcases aJ.mp j with z|z
    ·exact absurd L (by rw[z];exact bS _)
    ·have U:s.heap.objs.size=it:=by simpa using z
     obtain⟨o,m,_⟩:=hit
     rw[<-U,y]at m;cases m
 done:=by
  intro X F W Y Z i G s σ H E I N st hg
  subst F W Y
  obtain⟨xs,O,hx⟩:=hg
  obtain⟨f,rv,p,hz⟩:=I.list O
  obtain⟨⟨old,he⟩,hit⟩:=id st
  have hl:=rv.length
  have r:a≠it:=fun z=>by
   subst z
   obtain⟨o,B,l,_⟩:=p.isList
   obtain⟨o',m,J,_⟩:=hit
   rw[B]at m;cases m;rw[l]at J;exact absurd J (by decide)
  have D:=ph (prog:=X.prog) (w:=X.w) (A:=X.A.in1) (show X.A.in1.handled=none from I.ok.hd Z) it a r f.toArray
  obtain⟨f0,f1,f2,f3,f4,f5⟩:=N it (by simp)
  have hi:f.toArray.size=i:=by rw[aT];omega
  refine wpAny_pyNext_enum_endD D he ⟨by rw[hi];exact hit,p.isList⟩ fun h' eb=>⟨rfl,I.turned (t':=s.toks) (fun b o j e=>eb b o j e) f0 f1 f3 f4 f5⟩
 self:=fun A i s Q E st h=>let⟨old,he⟩:=st.1;lx he h
section
variable{X:Cx}{elts:List bq}{k:Nat}{tpos:Pos}
def zKn (K:aa)(ta:TA):TI:=fun σ H R=>ta σ H fun vs H1=>∃a xs,vs=[.ref a]/\H1 a=some (.lst xs)/\R (Ite K a) H1
theorem zKo {e:bq}{i:TA}{p pos:Pos}(l:Gl X "enumerate")(m:X.mg "enumerate"=none)(o:PA X [e] i)(t:starEach [e] X.env=[(false,eval e X.env)]:=by rfl):PI X (.Tuple elts k tpos) (.Call (.Name "enumerate" p) [e] [] pos) (zKn X.K i):=by
 intro c s σ H R I h
 refine Call_ (zAV I l m boot_enumerate (dH (zK (o pos c s σ H _ I h) fun us d ⟨vs,j,g,v,w⟩=>?_) t rfl))
 obtain⟨a,xs,rfl,hl,q⟩:=w
 obtain⟨u,rfl,x⟩:=qL v
 cases x
 obtain⟨z,y,n,r,A⟩:=g.hok a _ hl
 refine call_enumerate_1 A fun h' he hit hsz B=>?_
 have C:Inv X c σ j {d with heap:=h'}:=g.kept (t':=d.toks) B
 refine lx he ⟨_,[d.heap.objs.size+1,d.heap.objs.size],_,_,j,rfl,C,zKm a _ _ (Nat.succ_ne_self _),⟨⟨_,he⟩,hit⟩,fun b D=>?_,q⟩
 have f:d.heap.objs.size<=b:=by
  rcases aJ.mp D with z|z
  ·rw[z];exact fC _
  ·have:b=d.heap.objs.size:=by simpa using z
   rw[this];exact ay _
 exact g.fpOk f (g.hok.fresh f)
theorem zKp {K:aa}{a:af}{xs:List V}{g:TG}{o:TS}{D:Ends}{σ:St}{H:Hp}(Pv:Nat->St->Hp->Prop)(r:Pv 0 σ H)(s:∀i σ H,i<=xs.length->Pv i σ H->yF K H a xs)
  (c:∀(i:Nat) (x:V) (T:af) (σ:St) (H:Hp) (f:St->Hp->Prop),(∀b H',Pv (i+1) b H'->f b H')->xs[i]?=some x->Pv i σ H->H T=none->g (.ref T) σ (upd H T (.tup [.int i,x])) fun h d=>o {D with nx:=f,ct:=f,bk:=D.nx} h d)
  (fin:∀σ H,Pv xs.length σ H->D.nx σ H) :
  ∃W:Nat->Nat->St->Hp->Prop,(∃m,W 0 m σ H)/\∀i m σ H,W i m σ H->
   ((Ite K a).stop i H/\D.nx σ H)\/((Ite K a).go i H/\∃N:St->Hp->Prop,(∀b H',N b H'->∃q,q<m/\W (i+1) q b H')/\∀x H',(Ite K a).yld i H x H'->g x σ H' fun h d=>o {D with nx:=N,ct:=N,bk:=D.nx} h d):=by
 refine⟨fun i m σ H=>i<=xs.length/\m=xs.length-i/\Pv i σ H,⟨xs.length,bJ _,rfl,r⟩,?_⟩
 rintro i m σ H ⟨hi,rfl,pv⟩
 have j:=s i σ H hi pv
 by_cases e:i=xs.length
 ·subst e
  exact .inl ⟨⟨xs,j,rfl⟩,fin σ H pv⟩
 ·have l:i<xs.length:=by omega
  refine .inr ⟨⟨xs,xs[i],j,aG l⟩,Pv (i+1),fun b H' p=>⟨xs.length- (i+1),by omega,by omega,rfl,p⟩,fun x d n=>?_⟩
  obtain⟨T,y,rfl,t,rfl,u⟩:=n
  exact c i y T σ H (Pv (i+1)) (fun _ _ p=>p) (u xs j) pv t
end
end L2
end
section
set_option autoImplicit false
namespace Kn
abbrev S:=List Nat
section
variable{κ α:Type} [DecidableEq κ]
def zO:List (κ×α)->κ->α->List (κ×α)
 | [],k,v=>[(k,v)]
 |(k',v')::r,k,v=>if k'=k then(k',v)::r else(k',v')::zO r k v
def zE:List (κ×α)->κ->Option α
 | [],_=>none
 |(k',v')::r,k=>if k'=k then some v' else zE r k
theorem jA (l:List (κ×α))(k a:κ)(v:α):zE (zO l k v) a=if k=a then some v else zE l a:=by
 induction l with
 |nil=>simp[zO,zE]
 |cons p r ih=>
  obtain⟨k0,v0⟩:=p
  by_cases h:k0=k
  ·subst h
   by_cases h':k0=a<;>simp[zO,zE,h']
  ·simp only[zO,if_neg h,zE,ih]
   by_cases b:k0=a
   ·subst b
    rw[if_pos rfl,if_pos rfl,if_neg (fun e=>h e.symm)]
   ·rw[if_neg b,if_neg b]
theorem zKq (l:List (κ×α))(k:κ)(v:α):(zO l k v).map (·.1)=if k∈l.map (·.1)then l.map (·.1)else l.map (·.1)++[k]:=by
 induction l with
 |nil=>simp[zO]
 |cons p r ih=>
  obtain⟨k0,v0⟩:=p
  by_cases h:k0=k
  ·subst h;simp[zO]
  ·have h':¬k=k0:=fun e=>h e.symm
   simp only[zO,if_neg h,aF,ih,aJ,h',false_or]
   split<;>simp
theorem zAA {l:List (κ×α)}{k:κ}{v:α}(h:(l.map (·.1)).Nodup):((zO l k v).map (·.1)).Nodup:=by
 rw[zKq]
 split
 ·exact h
 ·rename_i c
  exact gv.mpr ⟨h,by simp,fun a d b f e=>by
   have:b=k:=by simpa using f
   subst this;subst e;exact c d⟩
theorem v9 {l:List (κ×α)}(h:(l.map (·.1)).Nodup)(k:κ)(v:α):(k,v)∈l↔zE l k=some v:=by
 induction l with
 |nil=>simp[zE]
 |cons p r ih=>
  obtain⟨k0,v0⟩:=p
  have a:k0∉r.map (·.1):=(bZ.mp h).1
  have b:=ih (bZ.mp h).2
  by_cases e:k0=k
  ·subst e
   have g:zE ((k0,v0)::r) k0=some v0:=by simp[zE]
   rw[g,aJ]
   constructor
   ·rintro(z|z)
    ·rw[(bU z).2]
    ·exact absurd (ji (f:=(·.1)) z) a
   ·intro z;rw[aq z];exact .inl rfl
  ·simp only[zE,if_neg e,aJ,Prod.mk.injEq]
   rw[<-b]
   constructor
   ·rintro(z|z)
    ·exact absurd z.1.symm e
    ·exact z
   ·intro z;exact .inr z
theorem gC {l:List (κ×α)}{k:κ}:zE l k=none↔k∉l.map (·.1):=by
 induction l with
 |nil=>simp[zE]
 |cons p r ih=>
  obtain⟨k0,v0⟩:=p
  by_cases e:k0=k
  ·subst e;simp[zE]
  ·have a:¬k=k0:=fun z=>e z.symm
   simp only[zE,if_neg e,ih,aF,aJ,a,false_or]
end
def vP (row:List (S×Int))(l:S):List (S×Int):=zO row l ((zE row l).getD 0+1)
def uW (rows:List (S×List (S×Int)))(p:S×S):List (S×List (S×Int)):=zO rows p.1 (vP ((zE rows p.1).getD []) p.2)
def uE (ps:List (S×S)):List (S×List (S×Int)):=ps.foldl uW []
theorem zKr (a:List (S×S))(p:S×S):uE (a++[p])=uW (uE a) p:=by
 unfold uE;rw[ly];rfl
def yB (t:S)(o:Nat):S:=t.drop (t.length-o)
def z0 (o:Nat)(nm:S):List (S×S):=(cb (nm.length+1)).map fun p=>(yB (nm.take p) o,(nm.drop p).take 1)
def zU (o:Nat)(bk:List S):List (S×S):=bk.flatMap (z0 o)
structure RowsOk (ps:List (S×S)) (rows:List (S×List (S×Int))):Prop where
 nd:(rows.map (·.1)).Nodup
 ndr:∀e row,(e,row)∈rows->(row.map (·.1)).Nodup
 val:∀e l,zE ((zE rows e).getD []) l=if 0<ps.count (e,l)then some (ps.count (e,l):Int)else none
 has:∀e,(∃row,zE rows e=some row)↔∃l,(e,l)∈ps
theorem jZ (c:List (S×S)):RowsOk c (uE c):=by
 suffices h:∀(f c:List (S×S)) rows,RowsOk c rows->RowsOk (c++f) (f.foldl uW rows) by
  have:=h c [] [] ⟨by simp,by simp,by simp[zE],by simp[zE]⟩
  simpa [uE]using this
 intro f
 induction f with
 |nil=>intro c rows h;simpa using h
 |cons q f ih=>
  intro c rows h
  obtain⟨a,b⟩:=q
  have step:RowsOk (c++[(a,b)]) (uW rows (a,b)):=by
   have i:((((zE rows a).getD []).map (·.1))).Nodup:=by
    cases g:zE rows a with
    |none=>simp
    |some row=>exact h.ndr a row ((v9 h.nd a row).mpr g)
   refine⟨zAA h.nd,fun e row m=>?_,fun e l=>?_,fun e=>?_⟩
   ·have d:=(v9 (zAA h.nd) e row).mp m
    unfold uW at d
    rw[jA]at d
    split at d
    ·have:=aq d
     rw[<-this]
     exact zAA i
    ·exact h.ndr e row ((v9 h.nd e row).mpr d)
   ·unfold uW
    rw[jA]
    by_cases he:a=e
    ·subst he
     rw[if_pos rfl]
     show zE (vP ((zE rows a).getD []) b) l=_
     unfold vP
     rw[jA,h.val a b]
     by_cases hl:b=l
     ·subst hl
      rw[if_pos rfl,gw]
      have j:eu (a,b) [(a,b)]=1:=by simp
      rw[j]
      by_cases n:0<eu (a,b) c
      ·simp[n]
      ·have:eu (a,b) c=0:=by omega
       simp[this]
     ·rw[if_neg hl,h.val a l,gw]
      have j:eu (a,l) [(a,b)]=0:=by
       simp[mC,hl]
      rw[j,oB]
    ·rw[if_neg he]
     rw[h.val e l,gw]
     have j:eu (e,l) [(a,b)]=0:=by
      simp[mC,he]
     rw[j,oB]
   ·unfold uW
    rw[jA]
    by_cases he:a=e
    ·subst he
     rw[if_pos rfl]
     exact⟨fun _=>⟨b,by simp⟩,fun _=>⟨_,rfl⟩⟩
    ·rw[if_neg he,h.has e]
     constructor
     ·rintro⟨l,hl⟩;exact⟨l,b8 _ hl⟩
     ·rintro⟨l,hl⟩
      rcases bG.mp hl with z|z
      ·exact⟨l,z⟩
      ·have:(e,l)=(a,b):=by simpa using z
       exact absurd (congrArg oU this).symm he
  have:=ih (c++[(a,b)]) (uW rows (a,b)) step
  simpa using this
def Ris {α:Type}(xs:List (S×α)):Prop:=xs.Pairwise fun a b=>a.1<b.1
theorem zAi (a:S):¬a<a:=nc a
theorem zKs {a b c:S}(d:a<b)(e:b<c):a<c:=nZ d e
theorem Ris.keys {α:Type}{xs:List (S×α)}(h:Ris xs):(xs.map (·.1)).Nodup:=by
 unfold Ris at h
 rw[fk,bM]
 exact h.imp fun{a b} c (e:a.1=b.1)=>zAi b.1 (e▸c)
structure IsRow (ps:List (S×S)) (e:S) (xs:List (S×Int)):Prop where
 ris:Ris xs
 mem:∀l n,(l,n)∈xs↔n=(ps.count (e,l):Int)/\0<n
structure IsTable (ps:List (S×S)) (tb:List (S×List (S×Int))):Prop where
 ris:Ris tb
 has:∀e,(∃xs,(e,xs)∈tb)↔∃l,(e,l)∈ps
 row:∀e xs,(e,xs)∈tb->IsRow ps e xs
theorem zBY {β:Type} [BEq β] [LawfulBEq β]:∀(a ks:List β),ks.Nodup->(∀x∈a,x∈ks)->(ks.map fun k=>(a.count k:Int)).sum=(a.length:Int)
 | [],ks,_,_=>by
  have:(ks.map fun k=>(([]:List β).count k:Int))=ks.map fun _=>(0:Int):=by simp
  rw[this]
  induction ks with
  |nil=>rfl
  |cons k r ih=>simp_all
 |x::a,ks,nd,h=>by
  have ih:=zBY a ks nd fun y d=>h y (au _ d)
  have no:∀(ks:List β),x∉ks->(ks.map fun k=>((x::a).count k:Int)).sum=(ks.map fun k=>(a.count k:Int)).sum:=by
   intro ks
   induction ks with
   |nil=>intro _;rfl
   |cons k r ih=>
    intro b
    have hx1:¬x=k:=fun e=>b (e▸av ..)
    have hx2:x∉r:=fun e=>b (au _ e)
    simp only[aF,ck,ih hx2,iN hx1]
  have one:∀(ks:List β),ks.Nodup->x∈ks->(ks.map fun k=>((x::a).count k:Int)).sum=(ks.map fun k=>(a.count k:Int)).sum+1:=by
   intro ks
   induction ks with
   |nil=>intro _ b;cases b
   |cons k r ih=>
    intro nd b
    have f:=(bZ.mp nd).1
    by_cases e:x=k
    ·subst e
     simp only[aF,ck,no r f,List.count_cons_self]
     omega
    ·have c:x∈r:=(aJ.mp b).elim (fun z=>absurd z e) id
     simp only[aF,ck,ih (bZ.mp nd).2 c,iN e]
     omega
  rw[one ks nd (h x (av ..)),ih,aR]
  omega
theorem IsRow.total {b:List (S×S)}{e:S}{xs:List (S×Int)}(a:IsRow b e xs):(xs.map (·.2)).sum=((b.filter fun p=>p.1=e).length:Int):=by
 have h:=zBY (b.filter fun p=>decide (p.1=e)) (xs.map fun p=>(e,p.1)) ?_ ?_
 ·rw[<-h,aY]
  congr 1
  apply cc
  rintro⟨l,n⟩ c
  have:=((a.mem l n).mp c).1
  show n=(eu (e,l) (b.filter fun p=>decide (p.1=e)):Int)
  rw[gx (by simp)]
  exact this
 ·have:=a.ris.keys
  rw[fk,bM]at this⊢
  exact this.imp fun{p q} d z=>d (congrArg lF z)
 ·rintro⟨g,l⟩ c
  obtain⟨i,j⟩:=cF.mp c
  have f:g=e:=by simpa using j
  subst f
  exact aM.mpr ⟨(l,(b.count (g,l):Int)),(a.mem l _).mpr ⟨rfl,by
   have:=eA.mpr i
   omega⟩,rfl⟩
theorem IsTable.total {f:List (S×S)}{b:List (S×List (S×Int))}(a:IsTable f b):(b.map fun r=>(r.2.map (·.2)).sum).sum=(f.length:Int):=by
 have h:=zBY f (b.flatMap fun r=>r.2.map fun p=>(r.1,p.1)) ?_ ?_
 ·rw[<-h,List.map_flatMap]
  have:∀(b:List (S×List (S×Int))),(∀e xs,(e,xs)∈b->IsRow f e xs)->(b.map fun r=>(r.2.map (·.2)).sum).sum=(b.flatMap fun r=>(r.2.map fun p=>(r.1,p.1)).map fun k=>(f.count k:Int)).sum:=by
   intro b
   induction b with
   |nil=>intro _;rfl
   |cons r t ih=>
    intro i
    obtain⟨e,xs⟩:=r
    rw[aF,ck,lG,mB,ih fun j g c=>i j g (au _ c)]
    congr 1
    rw[aY]
    congr 1
    apply cc
    rintro⟨l,n⟩ c
    exact(((i e xs (av ..)).mem l n).mp c).1
  exact this b a.row
 ·have:∀(b:List (S×List (S×Int))),Ris b->(∀e xs,(e,xs)∈b->IsRow f e xs)->(b.flatMap fun r=>r.2.map fun p=>(r.1,p.1)).Nodup:=by
   intro b
   induction b with
   |nil=>intro _ _;simp
   |cons r t ih=>
    intro i d
    obtain⟨e,xs⟩:=r
    rw[lG]
    refine gv.mpr ⟨?_,ih (eE.mp i).2 fun j g c=>d j g (au _ c),?_⟩
    ·have:=(d e xs (av ..)).ris.keys
     rw[fk,bM]at this⊢
     exact this.imp fun{p q} m z=>m (congrArg lF z)
    ·intro p y q A o
     obtain⟨z,_,rfl⟩:=aM.mp y
     obtain⟨w,s,u⟩:=dU.mp A
     obtain⟨C,_,B⟩:=aM.mp u
     have:e=w.1:=by
      have:=congrArg oU (o.trans B.symm)
      exact this
     have v:=(eE.mp i).1 w s
     exact zAi _ (this▸v)
  exact this b a.ris a.row
 ·rintro⟨e,l⟩ c
  obtain⟨xs,x⟩:=(a.has e).mpr ⟨l,c⟩
  refine dU.mpr ⟨(e,xs),x,aM.mpr ⟨(l,(f.count (e,l):Int)),((a.row e xs x).mem l _).mpr ⟨rfl,?_⟩,rfl⟩⟩
  have:=eA.mpr c
  omega
theorem zFj (o:Nat)(a b:List S):zU o (a++b)=zU o a++zU o b:=by
 unfold zU;rw[List.flatMap_append]
theorem zAj (o:Nat)(a:List S):((zU o a).length:Int)=(a.map fun x=>(x.length:Int)+1).sum:=by
 induction a with
 |nil=>rfl
 |cons x r ih=>
  have b:zU o (x::r)=z0 o x++zU o r:=rfl
  rw[b,aj,aF,ck,<-ih]
  simp[z0]
theorem zFk {t:S}{o:Nat}(h:t.length<=o):yB t o=t:=by
 unfold yB
 have:t.length-o=0:=by omega
 rw[this,gj]
end Kn
end
section
set_option autoImplicit false
namespace Kn
def vI (a b:Int):Int:=(el a b:Int)
def low (u d:Int):Int×Int:=(u/vI u d,d/vI u d)
structure Fq (q:Int×Int):Prop where
 up:0<=q.1
 dn:0<q.2
 co:el q.1 q.2=1
theorem zBZ {u d:Int}(hd:0<d):0<vI u d:=by
 have:0<el u d:=Int.gcd_pos_iff.mpr (.inr (by omega))
 unfold vI;omega
theorem zKt (u d:Int):u=vI u d*(u/vI u d):=(i0 (by unfold vI;exact lY ..)).symm
theorem zFl (u d:Int):d=vI u d*(d/vI u d):=(i0 (by unfold vI;exact eV ..)).symm
theorem gD {u d:Int}(hd:0<d):(low u d).1*d=u*(low u d).2:=by
 have c:=zKt u d
 have e:=zFl u d
 show u/vI u d*d=u*(d/vI u d)
 generalize vI u d=g at*
 generalize u/g=a at*
 generalize d/g=b at*
 rw[c,e,<-cn,c6 a g]
theorem j4 {u d:Int}(c:0<=u)(hd:0<d):Fq (low u d):=by
 have b:=zBZ (u:=u) hd
 refine⟨Int.ediv_nonneg c (bW b),?_,?_⟩
 ·have e:=zFl u d
  show 0<d/vI u d
  rcases Int.lt_trichotomy (d/vI u d) 0 with h|h|h
  ·have:=Int.mul_neg_of_pos_of_neg b h
   omega
  ·rw[h,Int.mul_zero]at e;omega
  ·exact h
 ·show el (u/vI u d) (d/vI u d)=1
  unfold vI at*
  have a:0<el u d:=by omega
  rw[Int.gcd_ediv (lY ..) (eV ..)]
  simp
  exact Nat.div_self a
theorem Fq.ext {p q:Int×Int}(a:Fq p)(b:Fq q)(h:p.1*q.2=q.1*p.2):p=q:=by
 obtain⟨s,t⟩:=p
 obtain⟨u,v⟩:=q
 obtain⟨f,g,i⟩:=a
 obtain⟨j,l,n⟩:=b
 dsimp only at*
 obtain⟨x,rfl⟩:=b5 f
 obtain⟨y,rfl⟩:=b5 (bW g)
 obtain⟨z,rfl⟩:=b5 j
 obtain⟨w,rfl⟩:=b5 (bW l)
 have h':x*w=z*y:=by exact_mod_cast h
 have c:oC x y=1:=by simpa [el]using i
 have d:oC z w=1:=by simpa [el]using n
 have o:0<y:=by omega
 have A:0<w:=by omega
 have d1:y∣w:=eY (m:=x) (by rw[oV,iw];exact c) (by rw[h'];exact lZ ..)
 have r:w∣y:=eY (m:=z) (by rw[oV,iw];exact d) (by rw[<-h'];exact lZ ..)
 have e:y=w:=Nat.dvd_antisymm d1 r
 subst e
 have:x=z:=Nat.eq_of_mul_eq_mul_right o h'
 rw[this]
theorem zKu {u d a d':Int}(e:0<=u)(hd:0<d)(c:0<=a)(b:0<d')(h:u*d'=a*d):low u d=low a d':=by
 refine Fq.ext (j4 e hd) (j4 c b) ?_
 have f:=gD (u:=u) hd
 have g:=gD (u:=a) b
 generalize low u d=p at*
 generalize low a d'=q at*
 have:(p.1*q.2)*(d*d')=(q.1*p.2)*(d*d'):=by
  calc (p.1*q.2)*(d*d')=(p.1*d)*(q.2*d'):=by ac_rfl
   _=(u*p.2)*(q.2*d'):=by rw[f]
   _=(u*d')*(p.2*q.2):=by ac_rfl
   _=(a*d)*(p.2*q.2):=by rw[h]
   _=(a*q.2)*(p.2*d):=by ac_rfl
   _=(q.1*d')*(p.2*d):=by rw[g]
   _=(q.1*p.2)*(d*d'):=by ac_rfl
 exact Int.eq_of_mul_eq_mul_right (by have:=dO hd b;omega) this
theorem zFm {u d:Int}(a:0<=u)(hd:0<d):(low u d).2<=d/\(low u d).1<=u:=by
 have b:=zBZ (u:=u) hd
 exact⟨ma _ (by omega),ma _ a⟩
def uX (p q:Int×Int):Int×Int:=low (p.1*q.1) (p.2*q.2)
def yO (p q:Int×Int):Bool:=decide (p.1*q.2<q.1*p.2)
theorem zCu {p q:Int×Int}(a:Fq p)(b:Fq q):Fq (uX p q):=j4 (dh a.up b.up) (dO a.dn b.dn)
theorem zBa:Fq (0,1):=⟨by decide,by decide,by decide⟩
theorem zAB:Fq (1,1):=⟨by decide,by decide,by decide⟩
theorem zKv {d:Int}(hd:0<d):low 0 d=(0,1):=by
 refine Fq.ext (j4 (Int.le_refl _) hd) zBa ?_
 have:=gD (u:=0) hd
 rw[ix]at this
 have a:(low 0 d).1=0:=by
  rcases Int.mul_eq_zero.mp this with h|h
  ·exact h
  ·omega
 rw[a];simp
theorem zKw {d:Int}(hd:0<d):low d d=(1,1):=by
 refine Fq.ext (j4 (bW hd) hd) zAB ?_
 have:=gD (u:=d) hd
 rw[c6]at this
 have:=Int.eq_of_mul_eq_mul_left (by omega) this
 rw[this]
 exact c6 _ _
theorem zFn {u d:Int}(a:0<=u)(hd:0<d)(h:u<=d):(low u d).1<=(low u d).2:=by
 have f:=j4 a hd
 have c:=gD (u:=u) hd
 by_cases b:(low u d).1<=(low u d).2
 ·exact b
 ·exfalso
  have e:(low u d).2+1<=(low u d).1:=by omega
  have g:((low u d).2+1)*d<=(low u d).1*d:=cH e (bW hd)
  have i:u*(low u d).2<=d*(low u d).2:=cH h (bW f.dn)
  rw[Int.add_mul,Int.one_mul,c6 (low u d).2 d]at g
  omega
theorem zKx {p q:Int×Int}(a:Fq p)(b:Fq q)(c:p.1<=p.2)(d:q.1<=q.2):(uX p q).1<=(uX p q).2 :=
 zFn (dh a.up b.up) (dO a.dn b.dn) (eW c d b.up (bW a.dn))
theorem zFo (p:Int×Int):yO p p=false:=by simp[yO]
end Kn
end
section
set_option autoImplicit false
namespace Kn
def tot (ps:List (S×S))(e:S):Nat:=(ps.filter fun p=>p.1=e).length
def vC (ps:List (S×S))(e l:S):Int×Int:=if ps.count (e,l)=0 then(0,1)else low (ps.count (e,l):Int) (tot ps e:Int)
def uS (ps:List (S×S))(qs:List (S×S)):Int×Int:=qs.foldl (fun w p=>uX w (vC ps p.1 p.2)) (1,1)
def y9 (ps:List (S×S))(o:Nat)(nm:S):Int×Int:=uS ps (z0 o nm)
theorem zAC (b:List (S×S))(e l:S):b.count (e,l)<=tot b e:=by
 unfold tot
 rw[<-gx (l:=b) (p:=fun p=>decide (p.1=e)) (a:=(e,l)) (by simp)]
 exact List.count_le_length
theorem zAk (a:List (S×S))(e l:S):Fq (vC a e l):=by
 unfold vC
 split
 ·exact zBa
 ·have:=zAC a e l
  exact j4 (by omega) (by omega)
theorem zFp (a:List (S×S))(e l:S):(vC a e l).1<=(vC a e l).2:=by
 unfold vC
 split
 ·decide
 ·have:=zAC a e l
  exact zFn (by omega) (by omega) (by omega)
theorem zFq {a:List (S×S)}(e l:S)(h:1<=a.length):(vC a e l).2<=(a.length:Int):=by
 unfold vC
 split
 ·show(1:Int)<=_;omega
 ·have b:=zAC a e l
  have c:tot a e<=a.length:=bF _ _
  have:=(zFm (u:=(a.count (e,l):Int)) (d:=(tot a e:Int)) (by omega) (by omega)).1
  omega
theorem zCv (a:List (S×S)):∀(b:List (S×S)) (w:Int×Int),Fq w->Fq (b.foldl (fun w p=>uX w (vC a p.1 p.2)) w)
 | [],w,h=>h
 |q::b,w,h=>zCv a b _ (zCu h (zAk a q.1 q.2))
theorem zCw (a:List (S×S)):∀(b:List (S×S)) (w:Int×Int),Fq w->w.1<=w.2->(b.foldl (fun w p=>uX w (vC a p.1 p.2)) w).1<=(b.foldl (fun w p=>uX w (vC a p.1 p.2)) w).2
 | [],w,_,h=>h
 |q::b,w,f,h=>zCw a b _ (zCu f (zAk a q.1 q.2)) (zKx f (zAk a q.1 q.2) h (zFp a q.1 q.2))
theorem zFr {a:List (S×S)}(c:1<=a.length):∀(b:List (S×S)) (w:Int×Int) (k:Nat),Fq w->w.2<=(a.length:Int)^k->(b.foldl (fun w p=>uX w (vC a p.1 p.2)) w).2<=(a.length:Int)^(k+b.length)
 | [],w,k,_,h=>h
 |q::b,w,k,f,h=>by
  have g:=zAk a q.1 q.2
  have e:k+(q::b).length=(k+1)+b.length:=by simp;omega
  rw[e,fI]
  refine zFr c b _ (k+1) (zCu f g) ?_
  have d:(uX w (vC a q.1 q.2)).2<=w.2*(vC a q.1 q.2).2:=(zFm (dh f.up g.up) (dO f.dn g.dn)).1
  have i:w.2*(vC a q.1 q.2).2<=(a.length:Int)^k*(a.length:Int):=eW h (zFq q.1 q.2 c) (bW g.dn) (by have:=f.dn;omega)
  rw[oE]
  omega
theorem zFs (a:List (S×S))(o:Nat)(nm:S):Fq (y9 a o nm):=zCv a _ _ zAB
theorem zKy (a:List (S×S))(o:Nat)(nm:S):(y9 a o nm).1<=(y9 a o nm).2:=zCw a _ _ zAB (by decide)
theorem zKz (o:Nat)(nm:S):∃r,z0 o nm=(([]:S),nm.take 1)::r:=by
 unfold z0
 rw[List.range_succ_eq_map,aF]
 have e:(yB (pE 0 nm) o,pE 1 (List.drop 0 nm))=(([]:S),nm.take 1):=by simp[yB]
 rw[e]
 exact⟨_,rfl⟩
theorem zLA {p:Int×Int}:yO (0,1) p=decide (0<p.1):=by
 simp only[yO]
 congr 1
 simp
end Kn
end
section
namespace Kn
open PySem L2
theorem z5 {N P:List Str}{h:dv}(a:h.kind=.function:=by rfl)(b:h.isCoroutine=false:=by rfl)(c:h.isGenerator=false:=by rfl)(d:N.Nodup:=by decide+kernel)(e:N.take P.length=P:=by rfl)(f:∀x∈P,h.names.lookup x=some .local\/h.names.lookup x=some .cell:=by decide+kernel)(g:∀y∈h.names,y.2≠.free:=by decide+kernel):FnScope N P h:=⟨a,b,c,d,e,f,g⟩
def zW (P:aw)(w:aI)(K:aa)(mg:Str->Option ae)(base:bc)(k:Nat)(x:Str)(ps:List Str)(sp:Sp):Prop :=
 ∃(f:af) (fd:ar),FnOk P w K mg base zS k f fd ps sp/\mg x=some (.ref f)/\bP K (.ref f)=true/\vF K fd ps []
theorem zV {X:Cx}{k:Nat}{x:Str}{g:List Str}{sp:Sp}{p pos:Pos}{e:bq}{c:List bq}{t:TA}(C:zW X.prog X.w X.K X.mg X.base k x g sp)(h:Room k X.A)(i:Gl X x)(j:PA X (e::c) t)
  (l:starEach (e::c) X.env=(false,eval e X.env)::starEach c X.env:=by rfl) (a:(backTo pos (starEach c X.env)).any (·.1)=false:=by rfl)
  (d:(x==("__debug__" : Str))=false:=by decide):PE X (.Call (.Name x p) (e::c) [] pos) (kJ sp [] E0 t):=by
 obtain⟨f,fd,G,m,kp,b⟩:=C
 exact zEv G h i m kp b .nil gZ j d l a
abbrev tx (x:S):Str:=⟨x.toArray⟩
abbrev sv (x:S):V:=.str (tx x)
theorem uY (x:S):(tx x).cps.toList=x:=by simp[tx]
theorem yP (x:S):(tx x).length=x.length:=by simp[tx,jw]
theorem zAl {n i:Nat}{x:V}(h:((cb n).map fun(i:Nat)=>V.int (0+(i:Int)))[i]?=some x):i<n/\x=.int i:=by
 have hi:i<n:=by
  have:=(ag.mp h).1
  simpa using this
 refine⟨hi,?_⟩
 rw[az,dZ hi]at h
 have:=aq h
 rw[<-this]
 show V.int (0+(i:Int))=V.int i
 rw[iy]
theorem uT {a:St}(h:a.length=1):∃y,a=[y]:=by
 match a,h with
 | [y],_=>exact⟨y,rfl⟩
theorem ys2 {a:St}(h:a.length=2):∃y z,a=[y,z]:=by
 match a,h with
 | [y,z],_=>exact⟨y,z,rfl⟩
structure Blt (mg:Str->Option ae):Prop where
 len:mg "len"=none
 range:mg "range"=none
 all:mg "all"=none
 isinstance:mg "isinstance"=none
 str:mg "str"=none
 tuple:mg "tuple"=none
 int:mg "int"=none
 bool:mg "bool"=none
 sorted:mg "sorted"=none
 sum:mg "sum"=none
 min:mg "min"=none
section
variable{P:aw}{w:aI}{K:aa}{mg:Str->Option ae}{base:bc}
theorem zCx (t:S)(o:Nat)(c:1<=o):vY (tx t) (some (-(o:Int))) none=tx (yB t o):=by
 unfold vY
 rw[yP,uY]
 have a:HT.sIx t.length 0 (some (-(o:Int)))=t.length-o:=by
  show(if-(o:Int)<0 then(-(o:Int)+(t.length:Int)).toNat else _)=_
  rw[if_pos (by omega)];omega
 have b:HT.sIx t.length t.length none=t.length:=rfl
 rw[a,b]
 unfold yB
 rw[List.take_of_length_le (by rw[fm];omega)]
theorem zCy (t:S)(p:Nat):vY (tx t) none (some (p:Int))=tx (t.take p):=by
 unfold vY
 rw[yP,uY,HT.sIx_nat]
 show tx ((t.drop 0).take (min p t.length-0))=_
 rw[gj,lj,<-List.take_eq_take_min]
theorem zCz (t:S)(p:Nat):vY (tx t) (some (p:Int)) (some ((p:Int)+1))=tx ((t.drop p).take 1):=by
 unfold vY
 rw[yP,uY,HT.sIx_nat,show((p:Int)+1)=((p+1:Nat):Int)from rfl,HT.sIx_nat]
 congr 1
 by_cases h:p<t.length
 ·have a:min p t.length=p:=by omega
  have b:min (p+1) t.length-p=1:=by omega
  rw[a,b]
 ·have a:min p t.length=t.length:=by omega
  rw[a,eX (ay _),eX (by omega)]
  simp
def zFt:Sp:=fun vs H Q _=>∃(t:S) (o:Nat),vs=[sv t,.int o]/\1<=o/\t.length<=64/\Q (sv (yB t o)) H
abbrev zDA:bR:=top 19
theorem zLB:FnScope ["text","order"] ["text","order"] (defScope zDA):=z5
theorem zLC {f:af}{fd:ar}(F:Fun K "end_of" "end_of" zDA f fd):FnOk P w K mg base zS 1 f fd ["text","order"] zFt:=by
 refine F.ok zLB (fun vs H Q E h=>?_) (fun a A outer s H vs Q E c h=>?_)
 ·obtain⟨t,o,rfl,_⟩:=h;rfl
 ·obtain⟨t,o,rfl,b,hl,k⟩:=h
  refine⟨_,zI (zT (kO (pv 0) (qC (zEb zEe (pv 1))) zBP)),?_⟩
  refine⟨_,rfl,_,rfl,_,rfl,_,rfl,_,rfl,?_,?_⟩
  ·rw[yP,aP];omega
  ·rw[zCx t o b];exact k
def pr (o:Nat)(t:S)(p:Nat):S×S:=(yB (t.take p) o,(t.drop p).take 1)
def gE (p:S×S):ba:=.tuple [.str (tx p.1),.str (tx p.2)]
def zDB (K:aa):Sp:=fun vs H Q _=>∃(t:S) (o:Nat),vs=[sv t,.int o]/\1<=o/\t.length<=64/\∀a xs H',zB H H'->H a=none->H' a=some (.lst xs)->Reps K H' ((z0 o t).map gE) xs->Q (.ref a) H'
abbrev zDC:bR:=top 20
theorem zLD:FnScope ["name","order"] ["name","order"] (defScope zDC):=z5
theorem zLE:(["name","order","place"]:List Str).Nodup:=by decide+kernel
theorem zLF {f:af}{fd:ar}(F:Fun K "ends_and_letters" "ends_and_letters" zDC f fd)(B:Blt mg)(d:zW P w K mg base 1 "end_of" ["text","order"] zFt):FnOk P w K mg base zS 2 f fd ["name","order"] (zDB K):=by
 refine F.ok zLD (fun vs H Q E h=>?_) (fun n A outer s H vs Q E q h=>?_)
 ·obtain⟨t,o,rfl,_⟩:=h;rfl
 ·obtain⟨t,o,rfl,r,hl,k⟩:=h
  refine⟨_,zI (zT (uL (N:=["name","order","place"]) (caps:=[0,1]) rfl (uM (by kernel_rfl))
   (jR rfl B.range (zA (zR vB (z7 gU (by rfl) B.len b6 (zA (pv 0) zC)) zG) zC))
   (fun cl C s H ex=>yY (i:=2) zLE rfl (Or.inl rfl))
   (fun cl C s H ex=>qF)
   (fun cl C s H ex=>y6 (zA (zV d q rfl (zA (kO (pv 0) zBP (qC (pv 2))) (zA (pv 1) zC)))
    (zA (kO (pv 0) (qC (pv 2)) (qC (zR vB (pv 2) zG))) zC))))),?_⟩
  refine⟨_,rfl,_,rfl,?_,_,_,rfl,rfl,_,rfl,?_,?_,?_⟩
  ·rw[yP,aP];omega
  ·rw[yP];omega
  ·rw[yP];omega
  have u:((tx t).length:Int)+1=((t.length+1:Nat):Int):=by rw[yP];rfl
  have b:(((tx t).length:Int)+1).toNat=t.length+1:=by rw[u];rfl
  refine qH (jX 0 _) [some (sv t),some (.int o)] 1 (by rw[ai,bA,b];omega) (fun i a H'=>zB H H'/\a.length=i/\Reps K H' (((cb i).map (pr o t)).map gE) a)
   ⟨zB.refl H,rfl,rfl⟩ (fun i a H' _ h=>⟨trivial,dQ h.2.1⟩) ?_ ?_
  ·rintro i x a H' G I v l z ⟨c,e,g⟩
   obtain⟨y,rfl⟩:=uT z
   rw[b]at l
   obtain⟨hi,rfl⟩:=zAl l
   refine⟨_,rfl,_,rfl,_,rfl,_,rfl,(by rw[yP,aP];omega),_,rfl,t.take i,o,(by rw[zCy];rfl),r,(by rw[aV];omega),?_⟩
   refine⟨_,rfl,_,rfl,_,rfl,_,rfl,_,_,rfl,rfl,_,rfl,_,rfl,(by rw[yP,aP];omega),?_⟩
   refine⟨by show 2<=sizeLine;decide,fun p m=>v _ _ [some (.int i)] rfl ⟨c.upd_new (c.free m),by rw[aj,e];rfl,?_⟩⟩
   rw[fJ,aL,aL]
   refine Reps.append (Reps.same (zB.upd1 m) _ _ g) (Reps.one ⟨p,_,rfl,.of zH,?_⟩)
   rw[zCz]
   exact⟨_,_,rfl,rfl,_,_,rfl,rfl,rfl⟩
  ·rintro a H' ⟨c,e,g⟩ D j
   refine k D a _ (c.upd_new (c.free j)) (c.free j) zH (Reps.same (zB.upd1 j) _ _ ?_)
   rw[ai,bA,b]at g
   exact g
def z3 (x:S):Prop:=1<=x.length/\x.length<=8/\∀c∈x,97<=c/\c<=122
def letters:Str:=⟨#[97,98,99,100,101,102,103,104,105,106,107,108,109,110,111,112,113,114,115,116,117,118,119,120,121,122]⟩
theorem zLG {c:Nat}(h:97<=c/\c<=122):(cQ letters ⟨#[c]⟩ 0 letters.length 1).isEmpty=false:=by
 have all:∀d:_root_.Fin 26,(cQ letters ⟨#[97+d.val]⟩ 0 letters.length 1).isEmpty=false:=by decide+kernel
 have:=all ⟨c-97,by omega⟩
 have e:97+(c-97)=c:=by omega
 simpa [e]using this
structure Cst (K:aa) (mg:Str->Option ae):Prop where
 letters:∃t,mg "LETTERS"=some (.str letters t)
 ml:∃t,mg "MOST_LETTERS"=some (.int 8 t)
 mn:∃t,mg "MOST_NAMES"=some (.int 8 t)
 mo:∃t,mg "MOST_ORDER"=some (.int 3 t)
 ib:aS K (.type "int") (.type "bool")=some false
def zDD:Sp:=fun vs H Q _=>∃x:S,vs=[sv x]/\z3 x/\∀H',zB H H'->Q (.bl true) H'
abbrev zBb:bR:=top 12
theorem zFu:FnScope ["thing"] ["thing"] (defScope zBb):=z5
theorem nd1:(["letter"]:List Str).Nodup:=by decide+kernel
theorem zLH {f:af}{fd:ar}(F:Fun K "is_name" "is_name" zBb f fd)(B:Blt mg)(C:Cst K mg):FnOk P w K mg base zS 1 f fd ["thing"] zDD:=by
 obtain⟨q,hl⟩:=C.letters
 obtain⟨r,j⟩:=C.ml
 refine F.ok zFu (fun vs H Q E h=>?_) (fun l A outer s H vs Q E u h=>?_)
 ·obtain⟨t,rfl,_⟩:=h;rfl
 ·obtain⟨x,rfl,⟨z,G,m⟩,k⟩:=h
  refine⟨_,zF (yE (PW.pt (qS (v6 (v5 (z7 kP (by rfl) B.isinstance aQ (zA (pv 0) (zA (jO (v:=.ty "str") (by rfl) B.str iO rfl) zC)))))
    (qR (v6 (zBL qA qA zG (z7 gU (by rfl) B.len b6 (zA (pv 0) zC)) (v4 (v:=.int 8) (by rfl) j ⟨_,rfl⟩))))))
    (zI (zT uC)) yC)
   (zI (zT (z7 (zBV rfl) (by rfl) B.all dF (zA (uL (N:=["letter"]) (caps:=[]) rfl (uM (by kernel_rfl)) (zFd (pv 0))
    (fun cl C s H ex=>yY (i:=0) nd1 rfl (Or.inl rfl)) (fun cl C s H ex=>qF)
    (fun cl C s H ex=>zAZ zEl (pv 0) (v4 (v:=.str letters) (by rfl) hl ⟨_,rfl⟩) (by with_unfolding_all rfl))) zC)))),?_⟩
  refine⟨_,rfl,_,_,_,true,rfl,.str _,(by rfl),_,rfl,?_⟩
  refine yA ?_
  refine⟨_,rfl,_,rfl,(by rw[yP,aP];omega),_,_,rfl,rfl,_,rfl,?_⟩
  refine vH (by rw[yP];omega) ⟨_,_,rfl,rfl,_,rfl,kM (by rw[yP];omega) ?_⟩
  refine⟨_,rfl,_,rfl,?_⟩
  refine qH (zFg (tx x)) [] 1 (by rw[ai,uY];omega) (fun i a H'=>zB H H'/\a=aA i (.bl true)) ⟨zB.refl H,rfl⟩ (fun i a H' _ h=>⟨trivial,by rw[h.2];simp⟩) ?_ ?_
  ·rintro i y a H' I J n b o ⟨d,rfl⟩
   obtain⟨L,rfl⟩:=uT o
   rw[az,uY]at b
   cases e:x[i]? with
   |none=>rw[e]at b;cases b
   |some c=>
    rw[e]at b
    have g:y=.str ⟨#[c]⟩:=(aq b).symm
    subst g
    refine⟨_,rfl,_,_,rfl,rfl,?_⟩
    rw[zLG (m c (aH e))]
    exact n _ _ [some (.str ⟨#[c]⟩)] rfl ⟨d,by rw[i8];rfl⟩
  ·rintro a H' ⟨d,rfl⟩ D p
   refine⟨D,aA _ true,rfl,.of (by rw[zH,jy]),?_⟩
   have:(aA ((tx x).cps.toList.map fun c=>V.str ⟨#[c]⟩).length true).all id=true:=by simp
   rw[this]
   exact k _ (d.upd_new (d.free p))
def zD (bk:List S):List V:=bk.map sv
structure isBk (bk:List S):Prop where
 lo:1<=bk.length
 hi:bk.length<=8
 nm:∀x∈bk,z3 x
def zFv:Sp:=fun vs H Q _=>∃(a:af) (bk:List S),vs=[.ref a]/\H a=some (.tup (zD bk))/\isBk bk/\∀H',zB H H'->Q (.bl true) H'
abbrev zBc:bR:=top 13
theorem zFw:FnScope ["thing"] ["thing"] (defScope zBc):=z5
theorem nd2:(["name"]:List Str).Nodup:=by decide+kernel
theorem zLI {f:af}{fd:ar}(F:Fun K "is_book" "is_book" zBc f fd)(B:Blt mg)(C:Cst K mg)(d:zW P w K mg base 1 "is_name" ["thing"] zDD):FnOk P w K mg base zS 2 f fd ["thing"] zFv:=by
 obtain⟨z,o⟩:=C.mn
 refine F.ok zFw (fun vs H Q E h=>?_) (fun p A outer s H vs Q E q h=>?_)
 ·obtain⟨a,bk,rfl,_⟩:=h;rfl
 ·obtain⟨a,bk,rfl,j,⟨G,I,r⟩,k⟩:=h
  refine⟨_,zF (yE (PW.pt (qS (v6 (v5 (z7 kP (by rfl) B.isinstance aQ (zA (pv 0) (zA (jO (v:=.ty "tuple") (by rfl) B.tuple ia rfl) zC)))))
    (qR (v6 (zBL qA qA zG (z7 kK (by rfl) B.len b6 (zA (pv 0) zC)) (v4 (v:=.int 8) (by rfl) o ⟨_,rfl⟩))))))
    (zI (zT uC)) yC)
   (zI (zT (z7 (zBV rfl) (by rfl) B.all dF (zA (uL (N:=["name"]) (caps:=[]) rfl (uM (by kernel_rfl)) (gP (pv 0))
    (fun cl C s H ex=>yY (i:=0) nd2 rfl (Or.inl rfl)) (fun cl C s H ex=>qF)
    (fun cl C s H ex=>zV d q rfl (zA (pv 0) zC))) zC)))),?_⟩
  refine⟨_,rfl,_,_,_,true,rfl,.tup j,(by rfl),_,rfl,?_⟩
  refine yA ?_
  refine⟨_,rfl,_,_,rfl,.inr (.of j),_,_,rfl,rfl,_,rfl,?_⟩
  have hl:(zD bk).length=bk.length:=by simp[zD]
  refine vH (by rw[hl];omega) ⟨_,_,rfl,rfl,_,rfl,kM (by rw[hl];omega) ?_⟩
  refine⟨_,rfl,_,rfl,⟨_,.of j⟩,?_⟩
  refine qH (g9 _ a (zD bk)) [] 1 (by rw[hl];omega) (fun i b H'=>zB H H'/\b=aA i (.bl true)) ⟨zB.refl H,rfl⟩ (fun i b H' _ h=>⟨.of (h.1 _ _ j),by rw[h.2];simp⟩) ?_ ?_
  ·rintro i y b H' J L t g u ⟨l,rfl⟩
   obtain⟨M,rfl⟩:=uT u
   rw[zD,az]at g
   cases e:bk[i]? with
   |none=>rw[e]at g;cases g
   |some c=>
    rw[e]at g
    have m:y=sv c:=(aq g).symm
    subst m
    exact⟨_,rfl,c,rfl,r c (aH e),fun O n=>t _ _ [some (sv c)] rfl ⟨l.trans n,by rw[i8]⟩⟩
  ·rintro b H' ⟨l,rfl⟩ D x
   refine⟨D,aA _ true,rfl,.of (by rw[zH,jy]),?_⟩
   have:(aA (zD bk).length true).all id=true:=by simp
   rw[this]
   exact k _ (l.upd_new (l.free x))
def zFx:Sp:=fun vs H Q _=>∃o a b:Nat,vs=[.int o,.int a,.int b]/\a<=o/\o<=b/\Q (.bl true) H
abbrev zBd:bR:=top 14
theorem zFy:FnScope ["thing","least","most"] ["thing","least","most"] (defScope zBd):=z5
theorem zLJ {f:af}{fd:ar}(F:Fun K "is_whole" "is_whole" zBd f fd)(B:Blt mg)(C:Cst K mg):FnOk P w K mg base zS 1 f fd ["thing","least","most"] zFx:=by
 refine F.ok zFy (fun vs H Q E h=>?_) (fun c A outer s H vs Q E d h=>?_)
 ·obtain⟨o,a,b,rfl,_⟩:=h;rfl
 ·obtain⟨o,a,b,rfl,g,i,k⟩:=h
  refine⟨_,zF (yE (PW.pt (qS (v6 (v5 (z7 kP (by rfl) B.isinstance aQ (zA (pv 0) (zA (jO (v:=.ty "int") (by rfl) B.int fc rfl) zC)))))
    (qR (v5 (z7 kP (by rfl) B.isinstance aQ (zA (pv 0) (zA (jO (v:=.ty "bool") (by rfl) B.bool iz rfl) zC)))))))
    (zI (zT uC)) yC)
   (zI (zT (zEo qA qA (pv 1) (pv 0) (pv 2)))),?_⟩
  refine⟨_,rfl,_,_,_,true,rfl,.int _,(by rfl),_,rfl,?_⟩
  refine yA ?_
  refine⟨_,rfl,_,_,_,false,rfl,.int _,C.ib,_,rfl,?_⟩
  refine yA ?_
  refine⟨_,rfl,_,rfl,_,_,rfl,rfl,_,rfl,?_⟩
  refine vH (by omega) ⟨_,rfl,_,_,rfl,rfl,?_⟩
  have e:decide ((o:Int)<=b)=true:=decide_eq_true (by omega)
  show Q (.bl (decide ((o:Int)<=b))) H
  rw[e]
  exact k
def zFz:Sp:=fun vs H Q _=>∃o:Nat,vs=[.int o]/\1<=o/\o<=3/\Q (.bl true) H
abbrev zBe:bR:=top 15
theorem zGA:FnScope ["thing"] ["thing"] (defScope zBe):=z5
theorem zLK {f:af}{fd:ar}(F:Fun K "is_order" "is_order" zBe f fd)(C:Cst K mg)(a:zW P w K mg base 1 "is_whole" ["thing","least","most"] zFx):FnOk P w K mg base zS 2 f fd ["thing"] zFz:=by
 obtain⟨i,b⟩:=C.mo
 refine F.ok zGA (fun vs H Q E h=>?_) (fun c A outer s H vs Q E d h=>?_)
 ·obtain⟨o,rfl,_⟩:=h;rfl
 ·obtain⟨o,rfl,e,g,k⟩:=h
  refine⟨_,zI (zT (zV a d rfl (zA (pv 0) (zA zG (zA (v4 (v:=.int 3) (by rfl) b ⟨_,rfl⟩) zC))))),?_⟩
  exact⟨_,rfl,o,1,3,rfl,e,g,k⟩
def zBf:Sp:=fun vs H Q _=>∃(a:af) (bk:List S),vs=[.ref a]/\H a=some (.tup (zD bk))/\isBk bk/\∀H',zB H H'->Q .non H'
abbrev zBg:bR:=top 16
theorem zGB:FnScope ["thing"] ["thing"] (defScope zBg):=z5
theorem zLL {f:af}{fd:ar}(F:Fun K "need_book" "need_book" zBg f fd)(b:zW P w K mg base 2 "is_book" ["thing"] zFv):FnOk P w K mg base zS 3 f fd ["thing"] zBf:=by
 refine F.ok zGB (fun vs H Q E h=>?_) (fun c A outer s H vs Q E d h=>?_)
 ·obtain⟨a,bk,rfl,_⟩:=h;rfl
 ·obtain⟨a,bk,rfl,e,g,k⟩:=h
  refine⟨_,zI (yE (v6 (v5 (zV b d rfl (zA (pv 0) zC)))) (zI zBF) yC),?_⟩
  exact⟨_,rfl,a,bk,rfl,e,g,fun H' i=>⟨true,rfl,yA (k H' i)⟩⟩
def zDE:Sp:=fun vs H Q _=>∃o:Nat,vs=[.int o]/\1<=o/\o<=3/\Q .non H
abbrev zBh:bR:=top 17
theorem zGC:FnScope ["thing"] ["thing"] (defScope zBh):=z5
theorem zLM {f:af}{fd:ar}(F:Fun K "need_order" "need_order" zBh f fd)(a:zW P w K mg base 2 "is_order" ["thing"] zFz):FnOk P w K mg base zS 3 f fd ["thing"] zDE:=by
 refine F.ok zGC (fun vs H Q E h=>?_) (fun b A outer s H vs Q E c h=>?_)
 ·obtain⟨o,rfl,_⟩:=h;rfl
 ·obtain⟨o,rfl,d,e,k⟩:=h
  refine⟨_,zI (yE (v6 (v5 (zV a c rfl (zA (pv 0) zC)))) (zI zBF) yC),?_⟩
  exact⟨_,rfl,o,rfl,d,e,true,rfl,yA k⟩
def j6:Sp:=fun vs H Q _=>∃x:S,vs=[sv x]/\z3 x/\∀H',zB H H'->Q .non H'
abbrev zBi:bR:=top 18
theorem zGD:FnScope ["thing"] ["thing"] (defScope zBi):=z5
theorem zLN {f:af}{fd:ar}(F:Fun K "need_name" "need_name" zBi f fd)(a:zW P w K mg base 1 "is_name" ["thing"] zDD):FnOk P w K mg base zS 2 f fd ["thing"] j6:=by
 refine F.ok zGD (fun vs H Q E h=>?_) (fun b A outer s H vs Q E c h=>?_)
 ·obtain⟨x,rfl,_⟩:=h;rfl
 ·obtain⟨x,rfl,d,k⟩:=h
  refine⟨_,zI (yE (v6 (v5 (zV a c rfl (zA (pv 0) zC)))) (zI zBF) yC),?_⟩
  exact⟨_,rfl,x,rfl,d,fun H' e=>⟨true,rfl,yA (k H' e)⟩⟩
end
theorem kR {a b:S}(h:tx a=tx b):a=b:=by
 have:=congrArg (fun z:Str=>z.cps.toList) h
 simpa [tx]using this
section
variable{α:Type}
def vE (f:α->V)(l:List (S×α)):List (zX×V):=kN (l.map fun p=>(tx p.1,f p.2))
theorem gF (f:α->V)(p:S×α)(l:List (S×α)):vE f (p::l)=((Sum.inr (tx p.1):zX),f p.2)::vE f l:=rfl
theorem zAD (f:α->V)(l:List (S×α)):(vE f l).length=l.length:=by simp[vE,kN]
theorem zAE {a b:S}:((Sum.inr (tx a):zX)=Sum.inr (tx b))↔a=b:=⟨fun h=>kR (iS h),fun h=>by rw[h]⟩
theorem uZ (f:α->V)(l:List (S×α))(k:S):yI (vE f l) (Sum.inr (tx k))=(zE l k).map f:=by
 induction l with
 |nil=>rfl
 |cons p r ih=>
  rw[gF]
  by_cases e:p.1=k
  ·rw[qD (zAE.mpr e)]
   obtain⟨a,b⟩:=p
   have c:a=k:=e
   subst c
   simp[zE]
  ·rw[qE (fun z=>e (zAE.mp z)),ih]
   obtain⟨a,b⟩:=p
   have c:¬a=k:=e
   simp[zE,c]
theorem zLO (f:α->V)(l:List (S×α))(k:S):((vE f l).any fun a=>decide (a.1=(Sum.inr (tx k):zX)))=decide (k∈l.map (·.1)):=by
 induction l with
 |nil=>rfl
 |cons p r ih=>
  rw[gF,c8,ih]
  by_cases e:p.1=k
  ·have:decide ((Sum.inr (tx p.1):zX)=Sum.inr (tx k))=true:=decide_eq_true (zAE.mpr e)
   rw[this,oz]
   exact(decide_eq_true (by rw[<-e];exact av ..)).symm
  ·have:decide ((Sum.inr (tx p.1):zX)=Sum.inr (tx k))=false:=decide_eq_false (fun z=>e (zAE.mp z))
   rw[this,nW]
   congr 1
   have b:¬k=p.1:=fun z=>e z.symm
   simp[b]
theorem zAm (f:α->V)(l:List (S×α))(k:S)(v:α)(nd:(l.map (·.1)).Nodup):vL (vE f l) (Sum.inr (tx k)) (f v)=vE f (zO l k v):=by
 unfold vL
 rw[zLO]
 by_cases c:k∈l.map (·.1)
 ·rw[if_pos (decide_eq_true c)]
  induction l with
  |nil=>cases c
  |cons p r ih=>
   obtain⟨a,b⟩:=p
   have d:=bZ.mp nd
   rw[gF,aF]
   by_cases e:a=k
   ·subst e
    have g:zO ((a,b)::r) a v=(a,v)::r:=by simp[zO]
    rw[g,gF]
    congr 1
    ·simp
    ·have:∀q∈vE f r,(if q.1=(Sum.inr (tx a):zX)then(q.1,f v)else q)=q:=fun q i=>by
      rw[if_neg]
      intro z
      obtain⟨s,j,m⟩:=aM.mp i
      obtain⟨s',h,n⟩:=aM.mp j
      have:s.1=tx s'.1:=by rw[<-n]
      have o:q.1=(Sum.inr (tx s'.1):zX):=by rw[<-m,this]
      rw[o]at z
      exact d.1 (aM.mpr ⟨s',h,zAE.mp z⟩)
     have t:=cc this
     rw[t];simp
   ·have g:zO ((a,b)::r) k v=(a,b)::zO r k v:=by simp[zO,e]
    rw[g,gF]
    congr 1
    ·rw[if_neg (fun z=>e (zAE.mp z))]
    ·exact ih d.2 (by
      rcases aJ.mp c with z|z
      ·exact absurd z.symm e
      ·exact z)
 ·rw[if_neg (by simpa using c)]
  clear nd
  induction l with
  |nil=>rfl
  |cons p r ih=>
   obtain⟨a,b⟩:=p
   have e:¬a=k:=fun z=>c (by rw[<-z];exact av ..)
   have g:zO ((a,b)::r) k v=(a,b)::zO r k v:=by simp[zO,e]
   rw[g,gF,gF,lT,ih fun z=>c (au _ z)]
theorem zBj {β:Type}(l:List (S×β))(k:S)(v:β):(zO l k v).length<=l.length+1:=by
 induction l with
 |nil=>simp[zO]
 |cons p r ih=>
  obtain⟨a,b⟩:=p
  by_cases e:a=k
  ·simp[zO,e]
  ·simp[zO,e];omega
theorem zLP {β γ:Type}(g:β->γ)(l:List (S×β))(k:S)(v:β):(zO l k v).map (fun p=>(p.1,g p.2))=zO (l.map fun p=>(p.1,g p.2)) k (g v):=by
 induction l with
 |nil=>rfl
 |cons p r ih=>
  obtain⟨a,b⟩:=p
  by_cases e:a=k
  ·simp[zO,e]
  ·simp[zO,e,ih]
theorem zGE {β γ:Type}(g:β->γ)(l:List (S×β))(k:S):zE (l.map fun p=>(p.1,g p.2)) k=(zE l k).map g:=by
 induction l with
 |nil=>rfl
 |cons p r ih=>
  obtain⟨a,b⟩:=p
  by_cases e:a=k
  ·simp[zE,e]
  ·simp[zE,e,ih]
theorem zAF {β:Type}{l:List (S×β)}{k:S}{v:β}{q:S×β}(h:q∈zO l k v):q=(k,v)\/(q∈l/\(q.1≠k\/(l.map (·.1)).Nodup->q.1≠k)):=by
 induction l with
 |nil=>simp[zO]at h;exact .inl h
 |cons p r ih=>
  obtain⟨a,b⟩:=p
  by_cases e:a=k
  ·subst e
   have c:zO ((a,b)::r) a v=(a,v)::r:=by simp[zO]
   rw[c]at h
   rcases aJ.mp h with z|z
   ·exact .inl z
   ·refine .inr ⟨au _ z,?_⟩
    rintro(w|w)
    ·exact w
    ·intro d
     exact(bZ.mp w).1 (by rw[<-d];exact ji (f:=(·.1)) z)
  ·have c:zO ((a,b)::r) k v=(a,b)::zO r k v:=by simp[zO,e]
   rw[c]at h
   rcases aJ.mp h with z|z
   ·subst z
    exact .inr ⟨av ..,fun _=>e⟩
   ·rcases ih z with w|⟨g,i⟩
    ·exact .inl w
    ·refine .inr ⟨au _ g,?_⟩
     rintro(u|u)
     ·exact u
     ·exact i (.inr (bZ.mp u).2)
theorem zAn {β:Type}(l:List (S×β))(k:S)(v:β)(h:k∉l.map (·.1)):zO l k v=l++[(k,v)]:=by
 induction l with
 |nil=>rfl
 |cons q r ih=>
  obtain⟨a,b⟩:=q
  have e:¬a=k:=fun z=>h (by rw[<-z];exact av ..)
  have c:zO ((a,b)::r) k v=(a,b)::zO r k v:=by simp[zO,e]
  rw[c,ih fun z=>h (au _ z)];rfl
theorem zGF {β γ:Type}(g:β->γ)(l:List (S×β))(k:S)(v u:β)(h:zE l k=some u)(e:g v=g u):(zO l k v).map (fun p=>(p.1,g p.2))=l.map fun p=>(p.1,g p.2):=by
 induction l with
 |nil=>cases h
 |cons p r ih=>
  obtain⟨a,b⟩:=p
  by_cases c:a=k
  ·have:b=u:=by simpa [zE,c]using h
   subst this
   simp[zO,c,e]
  ·have h':zE r k=some u:=by simpa [zE,c]using h
   simp[zO,c,ih h']
theorem zBk (d:List (S×S)):(uE d).length<=d.length/\∀r∈uE d,r.2.length<=d.length:=by
 have key:∀(c:List (S×S)) (rows:List (S×List (S×Int))) (n:Nat),(rows.length<=n/\∀r∈rows,r.2.length<=n)->(c.foldl uW rows).length<=n+c.length/\∀r∈c.foldl uW rows,r.2.length<=n+c.length:=by
  intro c
  induction c with
  |nil=>intro rows n h;simpa using h
  |cons q c ih=>
   intro rows n h
   have:=ih (uW rows q) (n+1) ⟨?_,fun r j=>?_⟩
   ·rw[fI,aR]
    have e:n+(c.length+1)=n+1+c.length:=by omega
    rw[e];exact this
   ·have:=zBj rows q.1 (vP ((zE rows q.1).getD []) q.2)
    unfold uW;omega
   ·rcases zAF j with e|⟨e,_⟩
    ·rw[e]
     have l:=zBj ((zE rows q.1).getD []) q.2 ((zE ((zE rows q.1).getD []) q.2).getD 0+1)
     have o:((zE rows q.1).getD []).length<=n:=by
      cases g:zE rows q.1 with
      |none=>simp
      |some row=>
       have m:(q.1,row)∈rows:=by
        clear h j e l
        induction rows with
        |nil=>cases g
        |cons p r f=>
         obtain⟨a,b⟩:=p
         by_cases i:a=q.1
         ·have:b=row:=by simpa [zE,i]using g
          subst this;subst i
          exact av ..
         ·exact au _ (f (by simpa [zE,i]using g))
       exact h.2 _ m
     show(vP _ _).length<=_
     unfold vP;omega
    ·have:=h.2 r e;omega
 have:=key d [] 0 ⟨ay _,by simp⟩
 simpa [uE]using this
end
abbrev yQ (row:List (S×Int)):List (zX×V):=vE V.int row
structure RA (H0 H:Hp) (d:af) (ps:List (S×S)) (ra:List (S×af×List (S×Int))):Prop where
 rows:ra.map (fun r=>(r.1,r.2.2))=uE ps
 top:H d=some (.dK (vE (fun v:af×List (S×Int)=>V.ref v.1) ra))
 row:∀r∈ra,H r.2.1=some (.dK (yQ r.2.2))
 new:∀r∈ra,H0 r.2.1=none/\r.2.1≠d
 nda:(ra.map fun r=>r.2.1).Nodup
def uN (H:Hp)(d:af)(ps:List (S×S)):Prop:=∃ra:List (S×af×List (S×Int)),ra.map (fun r=>(r.1,r.2.2))=uE ps/\H d=some (.dK (vE (fun v:af×List (S×Int)=>V.ref v.1) ra))/\∀r∈ra,H r.2.1=some (.dK (yQ r.2.2))
theorem uN.same {H H':Hp}{d:af}{a:List (S×S)}(h:uN H d a)(e:zB H H'):uN H' d a:=by
 obtain⟨b,c,f,g⟩:=h
 exact⟨b,c,e _ _ f,fun r i=>e _ _ (g r i)⟩
section
variable{P:aw}{w:aI}{K:aa}{mg:Str->Option ae}{base:bc}
def zAo:Sp:=fun vs H Q _=>∃(a:af) (bk:List S) (o:Nat),vs=[.ref a,.int o]/\H a=some (.tup (zD bk))/\bk.length<=8/\(∀x∈bk,x.length<=8)/\1<=o/\∀d H',zB H H'->H d=none->uN H' d (zU o bk)->Q (.ref d) H'
abbrev zDF:bR:=top 21
theorem zGG:FnScope ["book","order","rows","name","end","letter","row"] ["book","order"] (defScope zDF):=z5
theorem zBl {c H:Hp}{d:af}{a:List (S×S)}{b:List (S×af×List (S×Int))}(R:RA c H d a b):(b.map (·.1)).Nodup:=by
 have h:=(jZ a).nd
 rw[<-R.rows,aY]at h
 exact h
theorem RA.step {s H q:Hp}{d ad:af}{z:List (S×S)}{c:List (S×af×List (S×Int))}(R:RA s H d z c)(p:S×S)(row:List (S×Int))(n:row=((zE c p.1).map (·.2)).getD [])
  (l:∀v,zE c p.1=some v->v.1=ad) (f:zE c p.1=none->s ad=none/\ad≠d/\ad∉c.map fun r=>r.2.1)
  (C:q ad=some (.dK (yQ (vP row p.2)))) (D:q d=some (.dK (vE (fun v:af×List (S×Int)=>V.ref v.1) (zO c p.1 (ad,vP row p.2))))) (E:∀r∈c,r.2.1≠ad->q r.2.1=some (.dK (yQ r.2.2))) :
  RA s q d (z++[p]) (zO c p.1 (ad,vP row p.2)):=by
 have nd:=zBl R
 have h:∀v,zE c p.1=some v->(p.1,v)∈c:=fun v t=>(v9 nd p.1 v).mpr t
 have u:∀r∈c,r.1≠p.1->r.2.1≠ad:=fun r m x e=>by
  cases g:zE c p.1 with
  |none=>exact(f g).2.2 (aM.mpr ⟨r,m,e⟩)
  |some v=>
   have t:=h v g
   have ev:=l v g
   have:r=(p.1,v):=by
    obtain⟨i,hi,A⟩:=dY m
    obtain⟨j,F,B⟩:=dY t
    have y:i=j:=by
     refine(fh (xs:=c.map fun r=>r.2.1) (h₀:=by simpa using hi) (h₁:=by simpa using F) R.nda).mp ?_
     rw[fj,fj,A,B]
     show r.2.1=v.1
     rw[e,ev]
    subst y
    rw[<-A,<-B]
   exact x (by rw[this])
 refine⟨?_,D,fun r m=>?_,fun r m=>?_,?_⟩
 ·rw[zKr,<-R.rows]
  unfold uW
  have e:=zLP (fun v:af×List (S×Int)=>v.2) c p.1 (ad,vP row p.2)
  rw[e]
  have o:=zGE (fun v:af×List (S×Int)=>v.2) c p.1
  rw[o,<-n]
 ·rcases zAF m with e|⟨e,G⟩
  ·rw[e];exact C
  ·exact E r e (u r e (G (.inr nd)))
 ·rcases zAF m with e|⟨e,_⟩
  ·rw[e]
   cases g:zE c p.1 with
   |none=>exact⟨(f g).1,(f g).2.1⟩
   |some v=>
    have:=R.new _ (h v g)
    rw[<-l v g];exact this
  ·exact R.new r e
 ·cases g:zE c p.1 with
  |none=>
   have I:p.1∉c.map (·.1):=gC.mp g
   have e:=zAn c p.1 (ad,vP row p.2) I
   rw[e,aL]
   refine gv.mpr ⟨R.nda,by simp,fun a J b L o=>?_⟩
   have:b=ad:=by simpa using L
   exact(f g).2.2 (by rw[<-this,<-o];exact J)
  |some v=>
   have e:=zGF (fun v:af×List (S×Int)=>v.1) c p.1 (ad,vP row p.2) v g (l v g).symm
   have o:(zO c p.1 (ad,vP row p.2)).map (fun r=>r.2.1)=c.map fun r=>r.2.1:=by
    have:=congrArg (iZ lF) e
    rw[aY,aY]at this
    exact this
   rw[o];exact R.nda
def jB (H H':Hp):Prop:=∀b o,H b=some o->(∀kvs,o≠.dK kvs)->H' b=some o
theorem jB.upd {H:Hp}{a:af}{kvs:List (zX×V)}{u:HO}(h:H a=some (.dK kvs)):jB H (upd H a u):=fun b o e c=>by
 rw[zJ]
 ·exact e
 ·rintro rfl;rw[h]at e;exact c kvs (aq e).symm
theorem jB.sqL {H H':Hp}(e:jB H H'){a:af}{xs:List V}(h:yF K H a xs):yF K H' a xs:=by
 rcases h with(h|⟨o,h⟩)|h
 ·exact .inl (.inl (e _ _ h (by intro z w;cases w)))
 ·exact .inl (.inr ⟨o,e _ _ h (by intro z w;cases w)⟩)
 ·exact .inr h
theorem jB.sqT {H H':Hp}(e:jB H H'){a:af}{xs:List V}(h:yX K H a xs):yX K H' a xs:=by
 rcases h with(h|⟨o,h⟩)|h
 ·exact .inl (.inl (e _ _ h (by intro z w;cases w)))
 ·exact .inl (.inr ⟨o,e _ _ h (by intro z w;cases w)⟩)
 ·exact .inr h
mutual
theorem yN.sameQ {H H':Hp}(e:jB H H'):∀(d:ba) (v:V),yN K H d v->yN K H' d v
 | .none,v,h=>h
 | .bool b,v,h=>h
 | .int i,v,h=>h
 | .str x,v,h=>h
 | .list c,v,h=>by
  obtain⟨a,xs,f,g,j⟩:=h
  exact⟨a,xs,f,e.sqL g,Reps.sameQ e c xs j⟩
 | .tuple c,v,h=>by
  obtain⟨a,xs,f,g,j⟩:=h
  exact⟨a,xs,f,e.sqT g,Reps.sameQ e c xs j⟩
 | .dict _,v,h=>h
theorem Reps.sameQ {H H':Hp}(e:jB H H'):∀(a:List ba) (xs:List V),Reps K H a xs->Reps K H' a xs
 | [],xs,h=>h
 |d::a,xs,h=>by
  obtain⟨y,b,c,f,g⟩:=h
  exact⟨y,b,c,yN.sameQ e d y f,Reps.sameQ e a b g⟩
end
theorem zGH {β:Type}(g:β->V)(l:List (S×β))(k:S)(v u:β)(h:zE l k=some u)(e:g v=g u):vE g (zO l k v)=vE g l:=by
 have:=zGF g l k v u h e
 unfold vE
 have a:∀m:List (S×β),m.map (fun p=>(tx p.1,g p.2))=(m.map fun p=>(p.1,g p.2)).map fun q=>(tx q.1,q.2):=fun m=>by rw[aY];rfl
 rw[a,a,this]
theorem zGI {f H:Hp}{d:af}{a:List (S×S)}{g:List (S×af×List (S×Int))}(R:RA f H d a g){e:S}{v:af×List (S×Int)}(h:zE g e=some v) :
  H v.1=some (.dK (yQ v.2))/\(v.2.map (·.1)).Nodup/\v.2.length<=a.length/\f v.1=none/\v.1≠d:=by
 have c:=(v9 (zBl R) e v).mpr h
 have b:(e,v.2)∈uE a:=by rw[<-R.rows];exact aM.mpr ⟨(e,v),c,rfl⟩
 exact⟨R.row _ c,(jZ a).ndr e v.2 b,(zBk a).2 _ b,(R.new _ c).1,(R.new _ c).2⟩
theorem zLQ {f:af}{fd:ar}(F:Fun K "counted_rows" "counted_rows" zDF f fd)(ac:zW P w K mg base 2 "ends_and_letters" ["name","order"] (zDB K)):FnOk P w K mg base zS 3 f fd ["book","order"] zAo:=by
 refine F.ok zGG (fun vs H Q E h=>?_) (fun bN A outer s H vs Q E m h=>?_)
 ·obtain⟨a,bk,o,rfl,_⟩:=h;rfl
 ·obtain⟨a,bk,o,rfl,ha,b0,as,ho,k⟩:=h
  have hu:=vT m
  have nd:=zGG.nd
  refine⟨_,zF (zZ (i:=2) nd rfl (Or.inl rfl) kL)
   (zF (uV bO rfl (gP (pv 0)) (yY (i:=3) nd rfl (Or.inl rfl))
    (zI (uV bO rfl (jQ (zV ac m rfl (zA (pv 3) (zA (pv 1) zC))))
     (zCS rfl (gO (yY (i:=4) nd rfl (Or.inl rfl)) (gO (yY (i:=5) nd rfl (Or.inl rfl)) zCR)))
     (zF (zZ (i:=6) nd rfl (Or.inl rfl) (zAd dw fK PySem.F.type_dict_setdefault zKl (pv 2) (zA (pv 4) (zA kL zC))))
      (zI (gX hu (pv 6) (pv 5) (zR vB (gY hu (pv 6) (pv 5) zG ⟨rfl,rfl,rfl,rfl⟩) zG) rfl))))))
   (zI (zT (pv 2)))),?_⟩
  intro d hd
  have s1:zB H (upd H d (.dK [])):=zB.upd1 hd
  refine⟨_,rfl,a,rfl,⟨_,.of (s1 _ _ ha)⟩,?_⟩
  refine qI (g9 K a (zD bk)) (fun i σ H'=>(∃x y z u:Option V,σ=[some (.ref a),some (.int o),some (.ref d),x,y,z,u])/\zB H H'/\∃T,RA H H' d (zU o (bk.take i)) T)
   ⟨⟨_,_,_,_,rfl⟩,s1,[],⟨rfl,zH,by simp,by simp,by simp⟩⟩ (fun i σ H' _ h=>.of (h.2.1 _ _ ha)) ?_ ?_
  ·rintro i x σ H' Nx hN hx ⟨⟨x1,x2,x3,x4,rfl⟩,sm,T,R⟩
   rw[zD,az]at hx
   cases e:bk[i]? with
   |none=>rw[e]at hx;cases hx
   |some nm=>
   rw[e]at hx
   have a2:x=sv nm:=(aq hx).symm
   subst a2
   have b1:=as nm (aH e)
   have hi:i<bk.length:=(ag.mp e).1
   have ak:bk.take (i+1)=bk.take i++[nm]:=by
    rw[ax hi]
    have:=(ag.mp e).2
    rw[this]
   have n:zU o (bk.take (i+1))=zU o (bk.take i)++z0 o nm:=by
    rw[ak,zFj];simp[zU]
   have a3:((zU o (bk.take (i+1))).length:Int)<=100:=by
    rw[zAj]
    have go:∀l:List S,(∀x∈l,x.length<=8)->(l.map fun x=>(x.length:Int)+1).sum<=9*(l.length:Int):=by
     intro l
     induction l with
     |nil=>intro _;simp
     |cons x r ih=>
      intro hl
      have h1:=hl x (av ..)
      have h2:=ih fun y hy=>hl y (au _ hy)
      rw[aF,ck,aR]
      have:((r.length+1:Nat):Int)=(r.length:Int)+1:=rfl
      omega
    have:=go (bk.take (i+1)) fun x hx=>as x (fE hx)
    have h3:(bk.take (i+1)).length<=8:=by rw[aV];omega
    omega
   refine⟨_,rfl,_,rfl,nm,o,rfl,ho,by omega,fun l xs Hl sml a4 U rp=>?_⟩
   refine⟨l,rfl,⟨_,.of U⟩,?_⟩
   have R1:RA H Hl d (zU o (bk.take i)) T:=⟨R.rows,sml _ _ R.top,fun r m=>sml _ _ (R.row r m),R.new,R.nda⟩
   have b2:H l=none:=sm.free a4
   have a5:l≠d:=zBD U (sml _ _ R.top) (by intro z;cases z)
   refine qI (jY K l xs) (fun j σ q=>(∃y z u:Option V,σ=[some (.ref a),some (.int o),some (.ref d),some (sv nm),y,z,u])/\zB H q/\q l=some (.lst xs)/\Reps K q ((z0 o nm).map gE) xs/\∃T,RA H q d (zU o (bk.take i)++(z0 o nm).take j) T/\∀r∈T,r.2.1≠l)
    ⟨⟨_,_,_,rfl⟩,sm.trans sml,U,rp,T,by simpa using R1,fun r m=>zBD (R1.row r m) U (by intro z;cases z)⟩ (fun j σ q _ h=>.of h.2.2.1) ?_ ?_
   ·rintro j x σ q al a6 hx2 ⟨⟨y,z,u,rfl⟩,C,hl2,D,b,R2,a7⟩
    obtain⟨dd,G,rx⟩:=D.get hx2
    rw[az]at G
    cases ep:(z0 o nm)[j]? with
    |none=>rw[ep]at G;cases G
    |some p=>
    rw[ep]at G
    have a8:dd=gE p:=(aq G).symm
    subst a8
    obtain⟨a9,b3,rfl,be,y1,bD,rfl,bi,y2,aB,rfl,bl,aK⟩:=rx
    have bm:y1=sv p.1:=bi
    have bn:y2=sv p.2:=bl
    have en:aB=[]:=aK
    subst bm bn en
    have hj:j<(z0 o nm).length:=(ag.mp ep).1
    have aN:zU o (bk.take i)++(z0 o nm).take (j+1)=(zU o (bk.take i)++(z0 o nm).take j)++[p]:=by
     rw[ax hj,(ag.mp ep).2,eP]
    generalize bo:zU o (bk.take i)++(z0 o nm).take j=ps at R2 aN
    have b4:ps.length<=100:=by
     have h1:ps.length<=(zU o (bk.take (i+1))).length:=by
      rw[<-bo,n,aj,aj,aV];omega
     omega
    have bL:b.length<=100:=by
     have h1:=(zBk ps).1
     rw[<-R2.rows,ai]at h1
     omega
    refine⟨a9,[sv p.1,sv p.2],rfl,be,rfl,_,_,rfl,_,_,rfl,rfl,?_⟩
    refine⟨_,rfl,.inr (.inr (.inl ⟨rfl,.inl ⟨_,R2.top⟩⟩)),_,rfl,fun t W=>?_⟩
    have Z:H t=none:=C.free W
    have X:d≠t:=vR R2.top W
    have s3:zB q (upd q t (.dK [])):=zB.upd1 W
    have fin:∀(ad:af) (row:List (S×Int)) (I:Hp),I ad=some (.dK (yQ row))->(row.map (·.1)).Nodup->row.length<=100->(∀J,J=upd I ad (.dK (yQ (vP row p.2)))->al [some (.ref a),some (.int o),some (.ref d),some (sv nm),some (sv p.1),some (sv p.2),some (.ref ad)] J)->
      zCg (vS 6) (vS 5) (gQ (jS fun i j=>V.int (i+j)) (zCh (vS 6) (vS 5) (tC (.int 0))) (tC (.int 1))) {nx:=al,rt:=Q,bk:=fun _ _=>False,ct:=fun _ _=>False} [some (.ref a),some (.int o),some (.ref d),some (sv nm),some (sv p.1),some (sv p.2),some (.ref ad)] I:=by
     intro ad row I c bp b9 hq
     refine⟨_,rfl,ad,rfl,.inl ⟨_,.inl c⟩,_,rfl,_,vD.k (k:=Sum.inr (tx p.2)) c,(zE row p.2).getD 0,1,?_,rfl,?_⟩
     ·rw[uZ]
      cases zE row p.2<;>rfl
     ·refine⟨_,rfl,_,rfl,ad,_,rfl,qZ.k (k:=Sum.inr (tx p.2)) c (by rw[zAD,aP];omega),hq _ ?_⟩
      rw[zAm V.int row p.2 _ bp]
      rfl
    have B:∀(ad:af) (row:List (S×Int)) (I J:Hp),zB H I->H ad=none->I l=some (.lst xs)->Reps K I ((z0 o nm).map gE) xs->J=upd I ad (.dK (yQ (vP row p.2)))->I ad=some (.dK (yQ row))->RA H J d (ps++[p]) (zO b p.1 (ad,vP row p.2))->
      al [some (.ref a),some (.int o),some (.ref d),some (sv nm),some (sv p.1),some (sv p.2),some (.ref ad)] J:=by
     intro ad row I J sx bt Y bv L c RR
     have ab:ad≠l:=zBD c Y (by intro z;cases z)
     subst L
     refine a6 _ _ ⟨⟨_,_,_,rfl⟩,sx.upd_new bt,by rw[zJ ab.symm];exact Y,Reps.sameQ (jB.upd c) _ _ bv,_,by rw[aN];exact RR,fun r m=>?_⟩
     rcases zAF m with e|⟨e,_⟩
     ·rw[e];exact ab
     ·exact a7 r e
    have am:upd q t (.dK []) d=some (.dK (vE (fun v:af×List (S×Int)=>V.ref v.1) b)):=by rw[zJ X];exact R2.top
    have aW:upd q t (.dK []) l=some (.lst xs):=s3 _ _ hl2
    have a0:∀r∈b,upd q t (.dK []) r.2.1=some (.dK (yQ r.2.2)):=fun r m=>s3 _ _ (R2.row r m)
    have bx:∀r∈b,r.2.1≠t:=fun r m=>vR (R2.row r m) W
    refine⟨d,_,Sum.inr (tx p.1),_,rfl,rfl,am,by rw[zAD,aP];omega,fun yv M=>?_,fun an=>?_⟩
    ·
     rw[uZ]at M
     cases g:zE b p.1 with
     |none=>rw[g]at M;cases M
     |some v=>
     rw[g]at M
     have ev:yv=.ref v.1:=(aq M).symm
     subst ev
     obtain⟨r1,r2,r3,r4,r5⟩:=zGI R2 g
     have N:upd q t (.dK []) v.1=some (.dK (yQ v.2)):=s3 _ _ r1
     refine fin v.1 v.2 _ N r2 (by omega) fun J L=>B v.1 v.2 _ J (C.trans s3) r4 aW (Reps.same s3 _ _ D) L N ?_
     refine R2.step p v.2 (by rw[g];rfl) (fun v' O=>by rw[g]at O;rw[aq O]) (fun hn=>by rw[g]at hn;cases hn) (by rw[L,zH]) ?_ fun r m ap=>?_
     ·rw[L,zJ r5.symm,am]
      have:=zGH (fun v:af×List (S×Int)=>V.ref v.1) b p.1 (v.1,vP v.2 p.2) v g rfl
      rw[this]
     ·rw[L,zJ ap];exact a0 r m
    ·
     rw[uZ]at an
     have g:zE b p.1=none:=by
      cases g:zE b p.1 with
      |none=>rfl
      |some v=>rw[g]at an;cases an
     have bz:=zAm (fun v:af×List (S×Int)=>V.ref v.1) b p.1 (t,[]) (zBl R2)
     have a1:upd (upd q t (.dK [])) d (.dK (vL (vE (fun v:af×List (S×Int)=>V.ref v.1) b) (Sum.inr (tx p.1)) (.ref t))) t=some (.dK (yQ [])):=by
      rw[zJ X.symm,zH];rfl
     refine fin t [] _ a1 (by simp) (by simp) fun J L=>B t [] _ J ((C.trans s3).upd_new hd) Z (by rw[zJ a5];exact aW) (Reps.sameQ (jB.upd am) _ _ (Reps.same s3 _ _ D)) L a1 ?_
     refine R2.step p [] (by rw[g];rfl) (fun v' O=>by rw[g]at O;cases O) (fun _=>⟨Z,X.symm,fun hm=>?_⟩) (by rw[L,zH]) ?_ fun r m ap=>?_
     ·obtain⟨r,m,e⟩:=aM.mp hm
      exact bx r m e
     ·rw[L,zJ X,zH,bz]
      congr 2
      have hk:p.1∉b.map (·.1):=gC.mp g
      rw[zAn _ _ _ hk,zAn _ _ _ hk]
      unfold vE kN
      rw[aL,aL,aL,aL]
      rfl
     ·rw[L,zJ ap,zJ (R2.new r m).2];exact a0 r m
   ·rintro σ q ⟨⟨y,z,u,rfl⟩,C,hl2,D,b,R2,_⟩
    refine hN _ _ ⟨⟨_,_,_,_,rfl⟩,C,b,?_⟩
    rw[n]
    have Y:xs.length=(z0 o nm).length:=by have:=D.length;simpa using this.symm
    rw[Y,aX]at R2
    exact R2
  ·rintro σ H' ⟨⟨x1,x2,x3,x4,rfl⟩,sm,T,R⟩
   refine⟨_,rfl,k d H' sm hd ⟨T,?_,R.top,R.row⟩⟩
   rw[R.rows]
   have:(zD bk).length=bk.length:=by simp[zD]
   rw[this,aX]
theorem zGJ {a b:Int}(c:0<=a)(d:0<b):el b (a%b)=el a b:=by
 obtain⟨x,rfl⟩:=b5 c
 obtain⟨y,rfl⟩:=b5 (bW d)
 have e:((x:Int)%(y:Int))=((x%y:Nat):Int):=rfl
 rw[e]
 show oC y (x%y)=oC x y
 rw[iw y (x%y),<-Nat.gcd_rec,iw]
abbrev zDG:bR:=top 25
theorem zGK:FnScope ["one","other","rest"] ["one","other"] (defScope zDG):=z5
abbrev frO (q:Int×Int):HO:=.tup [.int q.1,.int q.2]
def zGL:Sp:=fun vs H Q _=>∃u d:Int,vs=[.int u,.int d]/\0<=u/\0<d/\d<1073741824/\∀p,H p=none->Q (.ref p) (upd H p (frO (low u d)))
abbrev zDH:bR:=top 26
theorem zGM:FnScope ["up","down","divisor"] ["up","down"] (defScope zDH):=z5
structure Sm (q:Int×Int):Prop extends Fq q where
 u1:q.1<1073741824
 d1:q.2<1073741824
def yR (K:aa)(H:Hp)(v:V)(q:Int×Int):Prop:=∃a,v=.ref a/\yX K H a [.int q.1,.int q.2]
theorem yR.same {H H':Hp}{v:V}{q:Int×Int}(h:yR K H v q)(e:zB H H'):yR K H' v q:=by
 obtain⟨a,b,c⟩:=h
 exact⟨a,b,e.seqT c⟩
theorem yR.new {H:Hp}{p:af}{q:Int×Int}:yR K (upd H p (frO q)) (.ref p) q:=⟨p,rfl,.of zH⟩
theorem yR.rep {H:Hp}{v:V}{q:Int×Int}(h:yR K H v q):yN K H (.tuple [.int q.1,.int q.2]) v:=by
 obtain⟨a,b,c⟩:=h
 exact⟨a,_,b,c,_,_,rfl,rfl,_,_,rfl,rfl,rfl⟩
theorem yR.of_rep {H:Hp}{v:V}{q:Int×Int}(h:yN K H (.tuple [.int q.1,.int q.2]) v):yR K H v q:=by
 obtain⟨a,xs,b,c,y,m,rfl,d,z,e,rfl,f,g⟩:=h
 have i:y=.int q.1:=d
 have j:z=.int q.2:=f
 have l:e=[]:=g
 subst i j l
 exact⟨a,b,c⟩
def zGN (K:aa):Sp:=fun vs H Q _=>∃(x y:V) (p q:Int×Int),vs=[x,y]/\yR K H x p/\yR K H y q/\Sm p/\Sm q/\p.2*q.2<1073741824/\∀a,H a=none->Q (.ref a) (upd H a (frO (uX p q)))
def zGO (K:aa):Sp:=fun vs H Q _=>∃(x y:V) (p q:Int×Int),vs=[x,y]/\yR K H x p/\yR K H y q/\Sm p/\Sm q/\Q (.bl (yO p q)) H
abbrev zDI:bR:=top 27
abbrev zDJ:bR:=top 28
theorem zLR:FnScope ["one","other"] ["one","other"] (defScope zDI):=z5
theorem zLS:FnScope ["one","other"] ["one","other"] (defScope zDJ):=z5
theorem cm {p:Int}(a:0<=p)(b:p<1073741824)(q:Int):zAY p q:=.inl ⟨by omega,by omega⟩
end
theorem zLT {a:List (S×S)}{e:S}{xs:List (S×Int)}(nd:(xs.map (·.1)).Nodup)(mem:∀l n,(l,n)∈xs↔n=(a.count (e,l):Int)/\0<n):(xs.map (·.2)).sum=(tot a e:Int):=by
 have h:=zBY (a.filter fun p=>decide (p.1=e)) (xs.map fun p=>(e,p.1)) ?_ ?_
 ·unfold tot
  rw[<-h,aY]
  congr 1
  apply cc
  rintro⟨l,n⟩ b
  have:=((mem l n).mp b).1
  show n=(eu (e,l) (a.filter fun p=>decide (p.1=e)):Int)
  rw[gx (by simp)]
  exact this
 ·have:=nd
  rw[fk,bM]at this⊢
  exact this.imp fun{p q} c z=>c (congrArg lF z)
 ·rintro⟨f,l⟩ b
  obtain⟨g,i⟩:=cF.mp b
  have d:f=e:=by simpa using i
  subst d
  exact aM.mpr ⟨(l,(a.count (f,l):Int)),(mem l _).mpr ⟨rfl,by
   have:=eA.mpr g
   omega⟩,rfl⟩
def vM (ps:List (S×S))(e:S):List (S×Int):=(zE (uE ps) e).getD []
theorem zDK (a:List (S×S))(e:S):((vM a e).map (·.1)).Nodup:=by
 unfold vM
 cases g:zE (uE a) e with
 |none=>simp
 |some row=>exact(jZ a).ndr e row ((v9 (jZ a).nd e row).mpr g)
theorem zBm (a:List (S×S))(e l:S):zE (vM a e) l=if 0<a.count (e,l)then some (a.count (e,l):Int)else none:=(jZ a).val e l
theorem zDL (a:List (S×S))(e l:S)(n:Int):(l,n)∈vM a e↔n=(a.count (e,l):Int)/\0<n:=by
 rw[v9 (zDK a e),zBm]
 by_cases c:0<a.count (e,l)
 ·rw[if_pos c]
  constructor
  ·intro z
   have:=aq z
   omega
  ·rintro⟨z,_⟩;rw[z]
 ·rw[if_neg c]
  constructor
  ·intro z;cases z
  ·rintro⟨b,d⟩;omega
theorem zDM (a:List (S×S))(e:S):((vM a e).map (·.2)).sum=(tot a e:Int):=zLT (zDK a e) (zDL a e)
theorem tot_le (a:List (S×S))(e:S):tot a e<=a.length:=bF ..
structure Cst2 (K:aa) (mg:Str->Option ae):Prop where
 nought:∃a,mg "NOUGHT"=some (.ref a)/\∀H,yX K H a [.int 0,.int 1]
 whole:∃a,mg "WHOLE"=some (.ref a)/\∀H,yX K H a [.int 1,.int 1]
section
variable{P:aw}{w:aI}{K:aa}{mg:Str->Option ae}{base:bc}
def zGP (K:aa):Sp:=fun vs H Q _=>∃(d:af) (ps:List (S×S)) (e l:S),vs=[.ref d,sv l]/\H d=some (.dK (yQ (vM ps e)))/\ps.length<1000/\∀v H',zB H H'->yR K H' v (vC ps e l)->Q v H'
abbrev zDN:bR:=top 30
theorem zLU:FnScope ["row","letter"] ["row","letter"] (defScope zDN):=z5
theorem zLV {f:af}{fd:ar}(F:Fun K "part_in" "part_in" zDN f fd)(B:Blt mg)(C:Cst2 K mg)(n:zW P w K mg base 2 "lowest" ["up","down"] zGL):FnOk P w K mg base zS 3 f fd ["row","letter"] (zGP K):=by
 obtain⟨g,o,r⟩:=C.nought
 refine F.ok zLU (fun vs H Q E h=>?_) (fun t A outer s H vs Q E i h=>?_)
 ·obtain⟨d,a,e,l,rfl,_⟩:=h;rfl
 ·obtain⟨d,a,e,l,rfl,hd,hl,k⟩:=h
  have j:=vT i
  refine⟨_,zF (yE (kX (zAe j (pv 1) (pv 0))) (zI (zT (v4 (v:=.ref g) (by rfl) o rfl))) yC)
   (zI (zT (zV n i rfl (zA (uD j (pv 0) (pv 1) (fun _ _=>rfl)) (zA (z7 (zKe rfl) (by rfl) B.sum iP (zA (zJf dw hV PySem.F.type_dict_values zKd (pv 0)) zC)) zC))))),?_⟩
  refine⟨_,rfl,_,rfl,d,_,rfl,vD.k (k:=Sum.inr (tx l)) hd,_,rfl,?_⟩
  rw[uZ,zBm]
  by_cases c:0<a.count (e,l)
  ·rw[if_pos c]
   refine yA ?_
   refine⟨_,rfl,_,rfl,d,.int (a.count (e,l):Int),rfl,?_,?_⟩
   ·have:=vD.k (k:=Sum.inr (tx l)) hd
    rw[uZ,zBm,if_pos c]at this
    exact this
   refine⟨_,rfl,.inr (.inr (.inl ⟨rfl,.inl ⟨_,hd⟩⟩)),d,_,rfl,rfl,hd,fun p u=>?_⟩
   have m:zB H (upd H p (VLS p d)):=zB.upd1 u
   refine⟨p,d,(vM a e).map (fun q=>((Sum.inr (tx q.1):zX),q.2)),rfl,zH,?_,?_⟩
   ·rw[m _ _ hd]
    unfold yQ vE kN
    rw[aY,aY];rfl
   ·have x:(((vM a e).map fun q=>((Sum.inr (tx q.1):zX),q.2)).map (·.2)).sum=(tot a e:Int):=by
     rw[aY];exact zDM a e
    rw[x]
    have y:=zAC a e l
    have z:=tot_le a e
    refine⟨_,_,rfl,by omega,by omega,by omega,fun D b=>k _ _ (m.trans (zB.upd1 b)) ?_⟩
    have:vC a e l=low (a.count (e,l):Int) (tot a e:Int):=by unfold vC;rw[if_neg (by omega)]
    rw[this]
    exact yR.new
  ·rw[if_neg c]
   refine yJ ?_
   have:vC a e l=(0,1):=by unfold vC;rw[if_pos (by omega)]
   exact k _ _ (zB.refl H) (by rw[this];exact⟨g,rfl,r _⟩)
theorem zLW {X:Cx}(c:aa){pos:Pos}{a:List bq}{k:Nat}{t:kH}(n:Nat)(d:X.K=c)(e:X.calm=true)(h:PGs X a t)
  (f:(assignEach a X.env).length=n) (b:(assignEach a X.env).findIdx? (·.1)=none):PG X (.Tuple a k pos) (zEY c n t):=by
 subst d
 exact zCS e h f b
def frD (q:Int×Int):ba:=.tuple [.int q.1,.int q.2]
def stD (ps:List (S×S))(p:S×S):ba:=.tuple [.str (tx p.1),.str (tx p.2),frD (vC ps p.1 p.2)]
def zGQ (K:aa):Sp:=fun vs H Q _=>∃(d:af) (ps:List (S×S)) (o:Nat) (nm:S),vs=[.ref d,.int o,sv nm]/\uN H d ps/\ps.length<1000/\1<=o/\nm.length<=64/\
 ∀a xs H',zB H H'->H a=none->H' a=some (.lst xs)->Reps K H' ((z0 o nm).map (stD ps)) xs->Q (.ref a) H'
abbrev zDO:bR:=top 31
theorem zLX:FnScope ["rows","order","name"] ["rows","order","name"] (defScope zDO):=z5
theorem nd3:(["rows","end","letter"]:List Str).Nodup:=by decide+kernel
theorem uN.get {H:Hp}{d:af}{b:List (S×S)}(h:uN H d b)(e:S):∃kvs:List (zX×V),H d=some (.dK kvs)/\((yI kvs (Sum.inr (tx e))=none/\vM b e=[])\/∃a,yI kvs (Sum.inr (tx e))=some (.ref a)/\H a=some (.dK (yQ (vM b e)))):=by
 obtain⟨c,f,j,l⟩:=h
 refine⟨_,j,?_⟩
 rw[uZ]
 have nd:(c.map (·.1)).Nodup:=by
  have h:=(jZ b).nd
  rw[<-f,aY]at h
  exact h
 have i:zE (uE b) e=(zE c e).map (·.2):=by
  rw[<-f]
  exact zGE (fun v:af×List (S×Int)=>v.2) c e
 cases g:zE c e with
 |none=>exact .inl ⟨rfl,by unfold vM;rw[i,g];rfl⟩
 |some v=>
  refine .inr ⟨v.1,rfl,?_⟩
  have:=l _ ((v9 nd e v).mpr g)
  unfold vM
  rw[i,g]
  exact this
theorem zAG (o:Nat)(nm:S):(z0 o nm).length=nm.length+1:=by simp[z0]
theorem zLY {H:Hp}{o:Nat}{nm:S}{xs:List V}{i:Nat}{x:V}(q:Reps K H ((z0 o nm).map gE) xs)(r:xs[i]?=some x):∃(p:S×S) (a:af),(z0 o nm)[i]?=some p/\x=.ref a/\yX K H a [sv p.1,sv p.2]:=by
 obtain⟨dd,b,s⟩:=q.get r
 rw[az]at b
 cases ep:(z0 o nm)[i]? with
 |none=>rw[ep]at b;cases b
 |some p=>
 rw[ep]at b
 have e:dd=gE p:=(aq b).symm
 subst e
 obtain⟨f,t,rfl,g,u,n,rfl,h,v,c,rfl,j,d⟩:=s
 have l:u=sv p.1:=h
 have m:v=sv p.2:=j
 have y:c=[]:=d
 subst l m y
 exact⟨p,f,rfl,rfl,g⟩
theorem zLZ {f:af}{fd:ar}(F:Fun K "steps_by_rows" "steps_by_rows" zDO f fd)(r:zW P w K mg base 2 "ends_and_letters" ["name","order"] (zDB K))(t:zW P w K mg base 3 "part_in" ["row","letter"] (zGP K)) :
  FnOk P w K mg base zS 4 f fd ["rows","order","name"] (zGQ K):=by
 refine F.ok zLX (fun vs H Q E h=>?_) (fun ac A outer s H vs Q E U h=>?_)
 ·obtain⟨d,g,o,nm,rfl,_⟩:=h;rfl
 ·obtain⟨d,g,o,nm,rfl,hR,L,ho,hl,k⟩:=h
  have hu:=vT U
  have hr2:=U.mono (j:=2) (by decide)
  refine⟨_,zI (zT (uL (N:=["rows","end","letter"]) (caps:=[0]) rfl (uM (by kernel_rfl))
   (jQ (zV r hr2 rfl (zA (pv 2) (zA (pv 1) zC))))
   (fun cl C s H ex=>zLW K 2 rfl rfl (gO (yY (i:=1) nd3 rfl (Or.inl rfl)) (gO (yY (i:=2) nd3 rfl (Or.inl rfl)) zCR)) rfl rfl)
   (fun cl C s H ex=>qF)
   (fun cl C s H ex=>y6 (zA (pv 1) (zA (pv 2) (zA (zV t U rfl (zA (gY hu (pv 0) (pv 1) kL ⟨rfl,rfl,rfl,rfl⟩) (zA (pv 2) zC))) zC)))))),?_⟩
  refine⟨_,rfl,_,rfl,nm,o,rfl,ho,hl,fun l xs Hl sml ak M rp=>?_⟩
  refine⟨l,rfl,⟨_,.of M⟩,?_⟩
  have W:xs.length=nm.length+1:=by have:=rp.length;rw[<-this,ai,zAG]
  refine qH (jY K l xs) [some (.ref d)] 2 (by omega) (fun i a H'=>zB Hl H'/\a.length=i/\Reps K H' (((z0 o nm).take i).map (stD g)) a)
   ⟨zB.refl _,rfl,rfl⟩ (fun i a H' _ h=>⟨.of (h.1 _ _ M),dQ h.2.1⟩) ?_ ?_
  ·rintro i x a H' ys Nx hN hx hy ⟨O,R,m⟩
   obtain⟨y,z,rfl⟩:=ys2 hy
   obtain⟨p,X,ep,rfl,Y⟩:=zLY (Reps.same O _ _ rp) hx
   have hj:i<(z0 o nm).length:=(ag.mp ep).1
   refine⟨X,[sv p.1,sv p.2],rfl,Y,rfl,_,_,rfl,_,_,rfl,rfl,?_⟩
   have R':uN H' d g:=(hR.same sml).same O
   obtain⟨kvs,hd,hv⟩:=R'.get p.1
   refine⟨_,rfl,_,rfl,_,rfl,d,rfl,.inl ⟨_,.inl hd⟩,_,rfl,fun n Z=>?_⟩
   have T:zB H' (upd H' n (.dK [])):=zB.upd1 Z
   have fin:∀(u:af),upd H' n (.dK []) u=some (.dK (yQ (vM g p.1)))->∀v,v=V.ref u->(∀(B:V) (q:Hp),zB (upd H' n (.dK [])) q->yR K q B (vC g p.1 p.2)->∀pp,q pp=none->Nx (a++[.ref pp]) [some (.ref d),some (sv p.1),some (sv p.2)] (upd q pp (.tup [sv p.1,sv p.2,B]))):=by
    intro u c v al B q J fr pp b
    refine hN _ _ [some (sv p.1),some (sv p.2)] rfl ⟨((O.trans T).trans J).trans (zB.upd1 b),by rw[aj,R];rfl,?_⟩
    rw[ax hj,(ag.mp ep).2,aL]
    refine Reps.append (Reps.same ((T.trans J).trans (zB.upd1 b)) _ _ m) (Reps.one ⟨pp,_,rfl,.of zH,?_⟩)
    exact⟨_,_,rfl,rfl,_,_,rfl,rfl,_,_,rfl,(fr.same (zB.upd1 b)).rep,rfl⟩
   have ab:upd H' n (.dK []) d=some (.dK kvs):=T _ _ hd
   refine⟨_,vD.k (k:=Sum.inr (tx p.1)) ab,_,rfl,?_⟩
   rcases hv with⟨G,I⟩|⟨u,G,I⟩
   ·rw[G]
    have c:upd H' n (.dK []) n=some (.dK (yQ (vM g p.1))):=by rw[zH,I];rfl
    exact⟨n,g,p.1,p.2,rfl,c,L,fun v q J fr=>⟨by show 3<=sizeLine;decide,fun pp b=>fin n c _ rfl v q J fr pp b⟩⟩
   ·rw[G]
    have c:upd H' n (.dK []) u=some (.dK (yQ (vM g p.1))):=T _ _ I
    exact⟨u,g,p.1,p.2,rfl,c,L,fun v q J fr=>⟨by show 3<=sizeLine;decide,fun pp b=>fin u c _ rfl v q J fr pp b⟩⟩
  ·rintro a H' ⟨O,R,m⟩ D hD
   have e:=sml.trans O
   refine k D a _ (e.upd_new (e.free hD)) (e.free hD) zH (Reps.same (zB.upd1 hD) _ _ ?_)
   have e1:(z0 o nm).take xs.length=z0 o nm:=by rw[W,<-zAG o nm,aX]
   rw[e1]at m
   exact m
end
theorem zGR {a:List (S×S)}(c:1<=a.length)(b:List (S×S)):(uS a b).2<=((a.length^b.length:Nat):Int):=by
 have:=zFr c b (1,1) 0 zAB (by simp)
 rw[ka]at this
 rw[Int.natCast_pow]
 exact this
theorem zLa (a b:List (S×S)):Fq (uS a b):=zCv a b _ zAB
theorem zLb (a b:List (S×S)):(uS a b).1<=(uS a b).2:=zCw a b _ zAB (by decide)
theorem zGS (a b:List (S×S))(p:S×S):uS a (b++[p])=uX (uS a b) (vC a p.1 p.2):=by
 unfold uS;rw[ly];rfl
theorem Sm.of_le {q:Int×Int}(h:Fq q)(b:q.1<=q.2)(a:q.2<1073741824):Sm q:=⟨h,by omega,a⟩
theorem zDP {a:List (S×S)}{o:Nat}{nm:S}(b:1<=a.length)(h:a.length^(nm.length+1)<1073741824):Sm (y9 a o nm):=by
 refine .of_le (zFs ..) (zKy ..) ?_
 have:=zGR b (z0 o nm)
 rw[zAG]at this
 unfold y9
 omega
section
variable{P:aw}{w:aI}{K:aa}{mg:Str->Option ae}{base:bc}
theorem zLc {H:Hp}{e:List (S×S)}{f:List (S×S)}{xs:List V}{i:Nat}{x:V}(t:Reps K H (f.map (stD e)) xs)(u:xs[i]?=some x):∃(p:S×S) (a:af) (v:V),f[i]?=some p/\x=.ref a/\yX K H a [sv p.1,sv p.2,v]/\yR K H v (vC e p.1 p.2):=by
 obtain⟨dd,b,y⟩:=t.get u
 rw[az]at b
 cases ep:f[i]? with
 |none=>rw[ep]at b;cases b
 |some p=>
 rw[ep]at b
 have g:dd=stD e p:=(aq b).symm
 subst g
 obtain⟨h,z,rfl,j,A,r,rfl,l,B,s,rfl,m,C,c,rfl,n,d⟩:=y
 have o:A=sv p.1:=l
 have q:B=sv p.2:=m
 have D:c=[]:=d
 subst o q D
 exact⟨p,h,C,rfl,rfl,j,yR.of_rep n⟩
def zAp (K:aa):Sp:=fun vs H Q _=>∃(d:af) (ps:List (S×S)) (o:Nat) (nm:S),vs=[.ref d,.int o,sv nm]/\uN H d ps/\1<=ps.length/\ps.length<1000/\ps.length^(nm.length+1)<1073741824/\1<=o/\nm.length<=64/\
 ∀v H',zB H H'->yR K H' v (y9 ps o nm)->Q v H'
abbrev zDQ:bR:=top 32
theorem zGT:FnScope ["rows","order","name","product","step"] ["rows","order","name"] (defScope zDQ):=z5
theorem zLd {f:af}{fd:ar}(F:Fun K "share_by_rows" "share_by_rows" zDQ f fd)(C:Cst2 K mg)(r:zW P w K mg base 4 "steps_by_rows" ["rows","order","name"] (zGQ K))(W:zW P w K mg base 3 "times" ["one","other"] (zGN K)) :
  FnOk P w K mg base zS 5 f fd ["rows","order","name"] (zAp K):=by
 obtain⟨N,X,Y⟩:=C.whole
 refine F.ok zGT (fun vs H Q E h=>?_) (fun Z A outer s H vs Q E t h=>?_)
 ·obtain⟨d,a,o,nm,rfl,_⟩:=h;rfl
 ·obtain⟨d,a,o,nm,rfl,hR,c,z,O,ho,hl,k⟩:=h
  have hu:=vT t
  have B:=t.mono (j:=3) (by decide)
  have nd:=zGT.nd
  refine⟨_,zF (zZ (i:=3) nd rfl (Or.inl rfl) (v4 (v:=.ref N) (by rfl) X rfl))
   (zF (uV bO rfl (jQ (zV r t rfl (zA (pv 0) (zA (pv 1) (zA (pv 2) zC))))) (yY (i:=4) nd rfl (Or.inl rfl))
    (zI (zZ (i:=3) nd rfl (Or.inl rfl) (zV W B rfl (zA (pv 3) (zA (vG vW (pv 4) zG (fun _ _=>rfl)) zC))))))
   (zI (zT (pv 3)))),?_⟩
  refine⟨_,rfl,_,rfl,_,rfl,d,a,o,nm,rfl,hR,z,ho,hl,fun l xs Hl sml ab g R=>?_⟩
  refine⟨l,rfl,⟨_,.of g⟩,?_⟩
  have D:xs.length=nm.length+1:=by have:=R.length;rw[<-this,ai,zAG]
  refine qI (jY K l xs) (fun i σ m=>∃(v:V) (y:Option V),σ=[some (.ref d),some (.int o),some (sv nm),some v,y]/\zB Hl m/\yR K m v (uS a ((z0 o nm).take i)))
   ⟨_,_,rfl,zB.refl _,⟨N,rfl,Y _⟩⟩ (fun i σ H' _ h=>by obtain⟨_,_,_,h,_⟩:=h;exact .of (h _ _ g)) ?_ ?_
  ·rintro i x σ m Nx hN hx ⟨v,y,rfl,q,fr⟩
   obtain⟨p,G,u,ep,rfl,I,fu⟩:=zLc (Reps.same q _ _ R) hx
   have J:i<(z0 o nm).length:=(ag.mp ep).1
   have ac:i<nm.length+1:=by rw[zAG]at J;exact J
   have L:((z0 o nm).take i).length=i:=by rw[aV];omega
   have n:=zGR c ((z0 o nm).take i)
   rw[L]at n
   have ak:a.length^i<=a.length^(nm.length+1):=dP c (by omega)
   have T:a.length^(i+1)<=a.length^(nm.length+1):=dP c (by omega)
   have M:=zFq p.1 p.2 c
   have s1:Sm (uS a ((z0 o nm).take i)):=.of_le (zLa ..) (zLb ..) (by omega)
   have U:Sm (vC a p.1 p.2):=.of_le (zAk ..) (zFp ..) (by omega)
   refine⟨_,rfl,_,rfl,G,_,2,u,rfl,rfl,I,rfl,v,u,_,_,rfl,fr,fu,s1,U,?_,fun b hb=>hN _ _ ⟨_,_,rfl,q.trans (zB.upd1 hb),?_⟩⟩
   ·have hm:(uS a ((z0 o nm).take i)).2*(vC a p.1 p.2).2<=((a.length^i:Nat):Int)*(a.length:Int):=eW n M (bW U.dn) (Int.natCast_nonneg _)
    have e:((a.length^i:Nat):Int)*(a.length:Int)=((a.length^(i+1):Nat):Int):=by rw[Nat.pow_succ];rfl
    rw[e]at hm
    omega
   ·rw[ax J,(ag.mp ep).2,zGS]
    exact yR.new
  ·rintro σ m ⟨v,y,rfl,q,fr⟩
   refine⟨_,rfl,k v m (sml.trans q) ?_⟩
   have e1:(z0 o nm).take xs.length=z0 o nm:=by rw[D,<-zAG o nm,aX]
   rw[e1]at fr
   exact fr
structure Bk (bk:List S) (o:Nat):Prop extends isBk bk where
 o1:1<=o
 o3:o<=3
structure Fit (bk:List S) (o:Nat) (x:S):Prop extends Bk bk o where
 nmn:z3 x
 pw:(zU o bk).length^(x.length+1)<1073741824
theorem Bk.l8 {bk:List S}{o:Nat}(h:Bk bk o):∀x∈bk,x.length<=8:=fun x a=>(h.nm x a).2.1
theorem zAq {bk:List S}{o:Nat}(h:Bk bk o):1<=(zU o bk).length/\(zU o bk).length<1000:=by
 have e:=zAj o bk
 have go:∀l:List S,(∀x∈l,x.length<=8)->(l.length:Int)<=(l.map fun x=>(x.length:Int)+1).sum/\(l.map fun x=>(x.length:Int)+1).sum<=9*(l.length:Int):=by
  intro l
  induction l with
  |nil=>intro _;simp
  |cons x r ih=>
   intro hl
   have a:=hl x (av ..)
   have b:=ih fun y c=>hl y (au _ c)
   rw[aF,ck,aR]
   have:((r.length+1:Nat):Int)=(r.length:Int)+1:=rfl
   omega
 have:=go bk h.l8
 have a:=h.lo
 have b:=h.hi
 omega
abbrev zDR:bR:=top 33
abbrev zDS:bR:=top 34
theorem zLe:FnScope ["book","order","name"] ["book","order","name"] (defScope zDR):=z5
theorem zLf:FnScope ["book","order","name"] ["book","order","name"] (defScope zDS):=z5
structure Needs (P:aw) (w:aI) (K:aa) (mg:Str->Option ae) (base:bc):Prop where
 bk:zW P w K mg base 3 "need_book" ["thing"] zBf
 od:zW P w K mg base 3 "need_order" ["thing"] zDE
 nm:zW P w K mg base 2 "need_name" ["thing"] j6
 rows:zW P w K mg base 3 "counted_rows" ["book","order"] zAo
def zDT (K:aa):Sp:=fun vs H Q _=>∃(a:af) (bk:List S) (o:Nat) (nm:S),vs=[.ref a,.int o,sv nm]/\H a=some (.tup (zD bk))/\Fit bk o nm/\
 ∀v H',zB H H'->yR K H' v (y9 (zU o bk) o nm)->Q v H'
theorem zLg {f:af}{fd:ar}(F:Fun K "share" "share" zDR f fd)(N:Needs P w K mg base)(g:zW P w K mg base 5 "share_by_rows" ["rows","order","name"] (zAp K)) :
  FnOk P w K mg base zS 6 f fd ["book","order","name"] (zDT K):=by
 refine F.ok zLe (fun vs H Q E h=>?_) (fun m A outer s H vs Q E i h=>?_)
 ·obtain⟨d,u,o,nm,rfl,_⟩:=h;rfl
 ·obtain⟨a,bk,o,nm,rfl,l,b,k⟩:=h
  have c:=i.mono (j:=3) (by decide)
  have hr2:=i.mono (j:=2) (by decide)
  refine⟨_,zF (yD (zV N.bk c rfl (zA (pv 0) zC))) (zF (yD (zV N.od c rfl (zA (pv 1) zC))) (zF (yD (zV N.nm hr2 rfl (zA (pv 2) zC)))
   (zI (zT (zV g i rfl (zA (zV N.rows c rfl (zA (pv 0) (zA (pv 1) zC))) (zA (pv 1) (zA (pv 2) zC)))))))),?_⟩
  refine⟨_,rfl,a,bk,rfl,l,b.toisBk,fun x n=>?_⟩
  refine⟨_,rfl,o,rfl,b.o1,b.o3,?_⟩
  refine⟨_,rfl,nm,rfl,b.nmn,fun y p=>?_⟩
  have e:=n.trans p
  have pl:=zAq b.toBk
  refine⟨_,rfl,_,rfl,a,bk,o,rfl,e _ _ l,b.hi,b.toBk.l8,b.o1,fun d z q hd R=>?_⟩
  exact⟨_,rfl,_,rfl,d,_,o,nm,rfl,R,pl.1,pl.2,b.pw,b.o1,(by have:=b.nmn.2.1;omega),fun v r t fr=>k v r ((e.trans q).trans t) fr⟩
def zGU:Sp:=fun vs H Q _=>∃(a:af) (bk:List S) (o:Nat) (nm:S),vs=[.ref a,.int o,sv nm]/\H a=some (.tup (zD bk))/\Fit bk o nm/\
 ∀H',zB H H'->Q (.bl (decide (0<(y9 (zU o bk) o nm).1))) H'
theorem zLh {f:af}{fd:ar}(F:Fun K "makes" "makes" zDS f fd)(C:Cst2 K mg)(b:zW P w K mg base 6 "share" ["book","order","name"] (zDT K))(i:zW P w K mg base 1 "is_less" ["one","other"] (zGO K)) :
  FnOk P w K mg base zS 7 f fd ["book","order","name"] zGU:=by
 obtain⟨e,l,m⟩:=C.nought
 refine F.ok zLf (fun vs H Q E h=>?_) (fun n A outer s H vs Q E g h=>?_)
 ·obtain⟨d,t,o,nm,rfl,_⟩:=h;rfl
 ·obtain⟨a,bk,o,nm,rfl,p,c,k⟩:=h
  have hr1:=g.mono (j:=1) (by decide)
  refine⟨_,zI (zT (zV i hr1 rfl (zA (v4 (v:=.ref e) (by rfl) l rfl) (zA (zV b g rfl (zA (pv 0) (zA (pv 1) (zA (pv 2) zC)))) zC)))),?_⟩
  refine⟨_,rfl,_,rfl,_,rfl,a,bk,o,nm,rfl,p,c,fun v q r fr=>?_⟩
  refine⟨_,v,(0,1),_,rfl,⟨e,rfl,m _⟩,fr,⟨zBa,by decide,by decide⟩,zDP (zAq c.toBk).1 c.pw,?_⟩
  rw[zLA]
  exact k q r
end
theorem zBn {c A B:Prop} [Decidable c] (a:¬c)(h:A):if(!decide c)=true then A else B:=by
 rw[decide_eq_false a];exact h
section
variable{P:aw}{w:aI}{K:aa}{mg:Str->Option ae}{base:bc}
theorem zGV {H:Hp}:∀ns:List Int,Reps K H (ns.map PyData.int) (ns.map V.int)
 | []=>rfl
 |n::ns=>⟨_,_,rfl,rfl,zGV ns⟩
theorem zGW:∀ns:List Int,b7 (ns.map PyData.int)=true
 | []=>rfl
 |n::ns=>by rw[aF];simp only[b7,cD,zGW ns,fz]
def zGX (K:aa):Sp:=fun vs H Q _=>∃(a:af) (ns:List Int) (k:Nat),vs=[.ref a,.int k]/\yF K H a (ns.map V.int)/\ns.length<=63/\∀(i:Int) H',zB H H'->Q (.int i) H'
abbrev zDU:bR:=top 40
theorem zLi:FnScope ["_law_script","_law_k"] ["_law_script","_law_k"] (defScope zDU):=z5
theorem zLj (ns:List Int):bI (.list (ns.map PyData.int))=true:=by
 unfold bI
 have a:(PyData.list (ns.map PyData.int)).canLay0=true:=by simp only[cD];exact zGW ns
 have b:(PyData.list (ns.map PyData.int)).depth<=64:=by
  have go:∀ns:List Int,cZ (ns.map PyData.int)<=1:=by
   intro ns
   induction ns with
   |nil=>decide
   |cons n ns ih=>rw[aF];simp only[cZ,dC];omega
  have:=go ns
  simp only[dC];omega
 rw[a,decide_eq_true b];rfl
theorem zLk {f:af}{fd:ar}(F:Fun K "_law_cell" "_law_cell" zDU f fd)(B:Blt mg):FnOk P w K mg base zS 1 f fd ["_law_script","_law_k"] (zGX K):=by
 refine F.ok zLi (fun vs H Q E h=>?_) (fun g A outer s H vs Q E i h=>?_)
 ·obtain⟨a,ns,k,rfl,_⟩:=h;rfl
 ·obtain⟨a,ns,n,rfl,e,hl,k⟩:=h
  have j:=i.units
  refine⟨_,zF (yE (yM (zFT j) (pv 0) (uR zC) (yZ _)) (zI (zT (zR u8 zG (pv 1)))) yC)
   (zI (zT (zR vB (vG kZ (pv 0) (zR jT (pv 1) (z7 kK (by rfl) B.len b6 (zA (pv 0) zC))) (fun _ _=>rfl))
    (zR u8 zG (zR zBI (pv 1) (z7 kK (by rfl) B.len b6 (zA (pv 0) zC))))))),?_⟩
  refine⟨_,rfl,by show 0<=sizeLine;decide,fun p l=>?_⟩
  have c:zB H (upd H p (.lst [])):=zB.upd1 l
  refine⟨.list (ns.map PyData.int),.list [],⟨a,_,rfl,c.seq e,zGV ns⟩,⟨p,[],rfl,.of zH,rfl⟩,zLj ns,rfl,_,rfl,?_⟩
  cases ns with
  |nil=>exact yJ ⟨_,rfl,7,n,rfl,rfl,.inl ⟨by decide,by decide⟩,k _ _ c⟩
  |cons m ns=>
   refine yA ?_
   have b:((m::ns).map V.int).length=ns.length+1:=by simp
   have o:ns.length+1<=63:=by simpa using hl
   have q:((n:Int)%(((m::ns).map V.int).length:Int))=((n%(ns.length+1):Nat):Int):=by rw[b];rfl
   have d:n%(ns.length+1)<((m::ns).map V.int).length:=by rw[b];exact Nat.mod_lt _ (Nat.succ_pos _)
   refine⟨_,rfl,_,rfl,_,rfl,a,_,rfl,.inl (c.seq e),_,_,rfl,rfl,by rw[b];omega,?_⟩
   refine⟨a,_,_,.int ((m::ns)[n%(ns.length+1)]'(by simpa using d)),rfl,rfl,c.seq e,?_,?_⟩
   ·rw[q]
    refine vJ ?_
    rw[az,aG (by simpa using d)];rfl
   ·exact⟨_,rfl,_,rfl,a,_,rfl,.inl (c.seq e),_,_,rfl,rfl,⟨by rw[b];omega,by rw[b];omega⟩,_,_,rfl,rfl,.inl ⟨by decide,by decide⟩,_,_,rfl,rfl,k _ _ c⟩
theorem lt0 {d:Int}(h:0<d):0<d:=h
theorem cmE {t d q:Int}(h:0<d)(a:d<18446744073709551616):zAY (t%d) q:=by
 have b:=fL t (show d≠0 by omega)
 have c:=eF t h
 exact .inl ⟨by omega,by omega⟩
def zDV (K:aa):Sp:=fun vs H Q _=>∃(a:af) (ns:List Int) (k m:Nat),vs=[.ref a,.int k,.int m]/\yF K H a (ns.map V.int)/\ns.length<=63/\1<=m/\m<100000/\∀(i:Nat) H',i<m->zB H H'->Q (.int i) H'
abbrev zDW:bR:=top 41
theorem zGY:FnScope ["_law_script","_law_k","_law_many","_law_cell_here"] ["_law_script","_law_k","_law_many"] (defScope zDW):=z5
theorem zLl {f:af}{fd:ar}(F:Fun K "_law_drawn" "_law_drawn" zDW f fd)(b:zW P w K mg base 1 "_law_cell" ["_law_script","_law_k"] (zGX K)):FnOk P w K mg base zS 2 f fd ["_law_script","_law_k","_law_many"] (zDV K):=by
 refine F.ok zGY (fun vs H Q E h=>?_) (fun c A outer s H vs Q E d h=>?_)
 ·obtain⟨a,ns,k,m,rfl,_⟩:=h;rfl
 ·obtain⟨a,ns,n,m,rfl,g,hl,j,l,k⟩:=h
  have nd:=zGY.nd
  refine⟨_,zF (zZ (i:=3) nd rfl (Or.inl rfl) (zR jT (zR vB (zR u8 (zR jT (zV b d rfl (zA (pv 0) (zA (pv 1) zC))) zG) zG) (zR u8 zG (zR vB (pv 1) zG))) zG))
   (zF (zZ (i:=3) nd rfl (Or.inl rfl) (zR jT (zR vB (zR u8 (pv 3) (pv 3)) (zR zBI (pv 3) zG)) zG))
   (zI (zT (zR jT (zR zBI (zR jT (zR vB (zR u8 (pv 3) (pv 3)) (zR zBI (pv 3) zG)) zG) zG) (pv 2))))),?_⟩
  refine⟨_,rfl,_,rfl,a,ns,n,rfl,g,hl,fun i H' o=>?_⟩
  have fin:∀z:Int,Q (.int (z%(m:Int))) H':=fun z=>by
   have p:0<=z%(m:Int):=fL _ (by omega)
   have q:z%(m:Int)<m:=eF _ (by omega)
   have e:z%(m:Int)=((z%(m:Int)).toNat:Int):=(Int.toNat_of_nonneg p).symm
   rw[e]
   exact k _ _ (by omega) o
  refine⟨_,_,rfl,rfl,lt0 (by decide),_,_,rfl,rfl,.inr ⟨by decide,by decide⟩,?_⟩
  refine⟨_,rfl,_,_,rfl,rfl,_,_,rfl,rfl,.inl ⟨by decide,by decide⟩,_,_,rfl,rfl,_,_,rfl,rfl,lt0 (by decide),?_⟩
  refine⟨_,rfl,_,rfl,_,_,rfl,rfl,cmE (by decide) (by decide),_,rfl,_,_,rfl,rfl,⟨by decide,by decide⟩,_,_,rfl,rfl,_,_,rfl,rfl,lt0 (by decide),?_⟩
  refine⟨_,rfl,_,rfl,_,_,rfl,rfl,cmE (by decide) (by decide),_,rfl,_,_,rfl,rfl,⟨by decide,by decide⟩,_,_,rfl,rfl,_,_,rfl,rfl,lt0 (by decide),_,_,rfl,rfl,⟨by decide,by decide⟩,_,rfl,_,_,rfl,rfl,?_,fin _⟩
  show(0:Int)<(m:Int)
  omega
def zDX (K:aa):Sp:=fun vs H Q _=>∃(a:af) (ns:List Int) (at' most:Nat),vs=[.ref a,.int at',.int most]/\yF K H a (ns.map V.int)/\ns.length<=63/\1<=most/\most<=8/\
 ∀(x:S) H',zB H H'->z3 x->x.length<=most->Q (sv x) H'
abbrev zDY:bR:=top 42
theorem zGZ:FnScope ["_law_script","_law_at","_law_most","_law_size","_law_letters"] ["_law_script","_law_at","_law_most"] (defScope zDY):=z5
theorem ndN:(["_law_letters","_law_script","_law_at","_law_k"]:List Str).Nodup:=by decide+kernel
abbrev cDr (P:aw)(w:aI)(K:aa)(mg:Str->Option ae)(base:bc):Prop:=zW P w K mg base 2 "_law_drawn" ["_law_script","_law_k","_law_many"] (zDV K)
theorem zLm {f:af}{fd:ar}(F:Fun K "_law_name" "_law_name" zDY f fd)(B:Blt mg)(v:cDr P w K mg base):FnOk P w K mg base zS 3 f fd ["_law_script","_law_at","_law_most"] (zDX K):=by
 refine F.ok zGZ (fun vs H Q E h=>?_) (fun ac A outer s H vs Q E G h=>?_)
 ·obtain⟨a,ns,k,m,rfl,_⟩:=h;rfl
 ·obtain⟨a,ns,n,m,rfl,I,hl,J,ak,k⟩:=h
  have nd:=zGZ.nd
  refine⟨_,zF (zZ (i:=3) nd rfl (Or.inl rfl) (zR vB zG (zV v G rfl (zA (pv 0) (zA (pv 1) (zA (pv 2) zC))))))
   (zF (zZ (i:=4) nd rfl (Or.inr rfl) (vG kZ (uR (zA yG (zA yG (zA yG zC)))) (zV v G rfl (zA (pv 0) (zA (zR vB (pv 1) zG) (zA zG zC)))) (fun _ _=>rfl)))
   (zI (zT (zAd PySem.F.plainAttrs_str PySem.F.slot_str_join PySem.F.type_str_join zKh yG (zA
    (uL (N:=["_law_letters","_law_script","_law_at","_law_k"]) (caps:=[4,0,1]) rfl (uM (by kernel_rfl)) (jR rfl B.range (zA (pv 3) zC))
     (fun cl C s H ex=>yY (i:=3) ndN rfl (Or.inl rfl)) (fun cl C s H ex=>qF)
     (fun cl C s H ex=>vG zJY (pv 0) (zV v G rfl (zA (pv 1) (zA (zR vB (zR vB (pv 2) zG) (pv 3)) (zA (z7 gU (by rfl) B.len b6 (zA (pv 0) zC)) zC)))) (fun _ _=>rfl))) zC))))),?_⟩
  refine⟨_,rfl,_,rfl,_,rfl,a,ns,n,m,rfl,I,hl,J,by omega,fun sz R hsz T=>?_⟩
  refine⟨_,_,rfl,rfl,?_⟩
  refine⟨by show 3<=sizeLine;decide,fun p hp=>?_⟩
  have U:zB R (upd R p (.lst [.str "ab",.str "ab",.str "abz"])):=zB.upd1 hp
  refine⟨_,rfl,_,rfl,_,_,rfl,rfl,a,ns,n+9,3,rfl,U.seq (T.seq I),hl,by decide,by decide,fun li H3 M W=>?_⟩
  have o:=(T.trans U).trans W
  obtain⟨L,X,e⟩:∃L:S,(L=[97,98]\/L=[97,98,122])/\([.str "ab",.str "ab",.str "abz"]:List V)[li]?=some (sv L):=by
   match li,M with
   |0,_=>exact⟨[97,98],.inl rfl,rfl⟩
   |1,_=>exact⟨[97,98],.inl rfl,rfl⟩
   |2,_=>exact⟨[97,98,122],.inr rfl,rfl⟩
  refine⟨p,_,_,sv L,rfl,rfl,.of (W _ _ zH),vJ e,?_⟩
  refine⟨rfl,_,rfl,_,rfl,by omega,by omega,?_⟩
  have al:L.length=2\/L.length=3:=by rcases X with h|h<;>subst h<;>simp
  have O:∀c∈L,97<=c/\c<=122:=by rcases X with h|h<;>subst h<;>decide
  have r:(1+(sz:Int)).toNat=sz+1:=by omega
  refine qH (jX 0 _) [some (sv L),some (.ref a),some (.int n)] 1 (by rw[ai,bA,r];omega) (fun i l H'=>zB H3 H'/\∃b:S,l=b.map (fun c=>V.str (tx [c]))/\b.length=i/\∀c∈b,97<=c/\c<=122)
   ⟨zB.refl _,[],rfl,rfl,by simp⟩ (fun i l H' _ h=>⟨trivial,by obtain⟨_,b,rfl,h,_⟩:=h;rw[ai];omega⟩) ?_ ?_
  ·rintro i x l H' ys Nx hN Y hy ⟨t,b,rfl,d,g⟩
   obtain⟨y,rfl⟩:=uT hy
   rw[r]at Y
   obtain⟨hi,rfl⟩:=zAl Y
   refine⟨_,rfl,_,rfl,_,rfl,_,_,rfl,rfl,_,rfl,_,_,rfl,rfl,_,rfl,tx L,rfl,by rw[yP,aP];omega,?_⟩
   rw[yP]
   refine⟨a,ns,n+1+i,L.length,rfl,(o.trans t).seq I,hl,by omega,by omega,fun j H5 Z s5=>?_⟩
   refine⟨tx L,_,L[j],rfl,rfl,by rw[yP,aP];omega,?_,?_⟩
   ·rw[uY]
    exact vJ (aG Z)
   ·refine hN _ _ [some (.int i)] rfl ⟨t.trans s5,b++[L[j]],by rw[aL];rfl,by rw[aj,d];rfl,fun c hc=>?_⟩
    rcases bG.mp hc with z|z
    ·exact g c z
    ·have:c=L[j]:=by simpa using z
     rw[this]
     exact O _ (cG Z)
  ·rintro l H' ⟨t,b,rfl,d,g⟩ D hD
   rw[ai,bA,r]at d
   have q:((b.map fun c=>tx [c]).map (·.length)).sum=b.length:=by
    clear d g
    induction b with
    |nil=>rfl
    |cons c b ih=>rw[aF,aF,ck,ih,aR,yP];show 1+_=_;omega
   refine⟨_,D,b.map (fun c=>tx [c]),rfl,rfl,.of (by rw[zH,aY];rfl),?_,?_⟩
   ·rw[q]
    show _+_*0<=_
    omega
   ·have ej:lu ⟨#[]⟩ (b.map fun c=>tx [c])=tx b:=by
     rw[zKj,aY]
     congr 1
     clear d g q
     congr 1
     induction b with
     |nil=>rfl
     |cons c b ih=>rw[aF,dI,ih];rfl
    have kk:∀u,zB H u->Q (.str (lu ⟨#[]⟩ (b.map fun c=>tx [c]))) u:=fun u sx=>by
     rw[ej]
     exact k b u sx ⟨by omega,by omega,g⟩ (by omega)
    exact kk _ ((o.trans t).trans (zB.upd1 hD))
def zGa (K:aa):Sp:=fun vs H Q _=>∃(a:af) (ns:List Int) (at' many most:Nat),vs=[.ref a,.int at',.int many,.int most]/\yF K H a (ns.map V.int)/\ns.length<=63/\1<=many/\many<=8/\1<=most/\most<=8/\
 ∀(p:af) (bk:List S) H',zB H H'->H' p=some (.tup (zD bk))->1<=bk.length->bk.length<=many->(∀x∈bk,z3 x/\x.length<=most)->Q (.ref p) H'
abbrev zDZ:bR:=top 43
theorem zGb:FnScope ["_law_script","_law_at","_law_many","_law_most","_law_found","_law_k"] ["_law_script","_law_at","_law_many","_law_most"] (defScope zDZ):=z5
theorem zLn {f:af}{fd:ar}(F:Fun K "_law_book" "_law_book" zDZ f fd)(B:Blt mg)(c1:cDr P w K mg base)(c2:zW P w K mg base 3 "_law_name" ["_law_script","_law_at","_law_most"] (zDX K)):FnOk P w K mg base zS 4 f fd ["_law_script","_law_at","_law_many","_law_most"] (zGa K):=by
 refine F.ok zGb (fun vs H Q E h=>?_) (fun ab A outer s H vs Q E N h=>?_)
 ·obtain⟨a,ns,k,m,l,rfl,_⟩:=h;rfl
 ·obtain⟨a,ns,n,many,d,rfl,O,hl,G,ac,I,J,k⟩:=h
  have nd:=zGb.nd
  have hr2:=N.mono (j:=2) (by decide)
  refine⟨_,zF (zZ (i:=4) nd rfl (Or.inl rfl) (y6 zC))
   (zF (uV bO rfl (jR rfl B.range (zA (zR vB zG (zV c1 hr2 rfl (zA (pv 0) (zA (pv 1) (zA (pv 2) zC))))) zC)) (yY (i:=5) nd rfl (Or.inl rfl))
    (zI (zZ (i:=4) nd rfl (Or.inl rfl) (zR (zFf.or zFB) (pv 4) (y6 (zA (zV c2 N rfl (zA (pv 0) (zA (zR vB (zR vB (pv 1) zG) (zR u8 zG (pv 5))) (zA (pv 3) zC)))) zC))))))
   (zI (zT (pv 4)))),?_⟩
  refine⟨by show 0<=sizeLine;decide,fun R L=>?_⟩
  have T:zB H (upd H R (.tup [])):=zB.upd1 L
  refine⟨_,rfl,_,rfl,_,rfl,a,ns,n,many,rfl,T.seq O,hl,G,by omega,fun sz H1 hsz U=>?_⟩
  refine⟨_,_,rfl,rfl,_,rfl,by omega,by omega,?_⟩
  have o:(1+(sz:Int)).toNat=sz+1:=by omega
  refine qI (jX 0 _) (fun i σ t=>∃(p:af) (bk:List S) (y:Option V),σ=[some (.ref a),some (.int n),some (.int many),some (.int d),some (.ref p),y]/\zB H t/\t p=some (.tup (zD bk))/\bk.length=i/\∀x∈bk,z3 x/\x.length<=d)
   ⟨R,[],_,rfl,T.trans U,U _ _ zH,rfl,by simp⟩ (fun _ _ _ _ _=>trivial) ?_ ?_
  ·rintro i x σ t Nx W X ⟨p,bk,y,rfl,u,v,e,g⟩
   rw[o]at X
   obtain⟨hi,rfl⟩:=zAl X
   refine⟨_,rfl,_,rfl,_,rfl,_,_,rfl,rfl,_,rfl,_,_,rfl,rfl,.inl ⟨by decide,by decide⟩,_,_,rfl,rfl,_,rfl,a,ns,n+1+10*i,d,rfl,u.seq O,hl,I,J,fun x Y C hx1 hx2=>?_⟩
   refine⟨by show 1<=sizeLine;decide,fun q hq=>?_⟩
   have D:zB Y (upd Y q (.tup [sv x])):=zB.upd1 hq
   have nx:∀b∈bk++[x],z3 b/\b.length<=d:=fun b hb=>by
    rcases bG.mp hb with z|z
    ·exact g b z
    ·have:b=x:=by simpa using z
     rw[this];exact⟨hx1,hx2⟩
   cases bk with
   |nil=>exact .inl ⟨p,q,_,rfl,rfl,.of (D _ _ (C _ _ v)),.of zH,W _ _ ⟨q,[x],_,rfl,(u.trans C).trans D,zH,by rw[<-e];rfl,nx⟩⟩
   |cons c Z=>
    refine .inr ⟨p,q,_,_,rfl,rfl,.of (D _ _ (C _ _ v)),.of zH,by simp[zD],?_,fun z=>by simp at z,fun _ r M=>W _ _ ⟨r,(c::Z)++[x],_,rfl,((u.trans C).trans D).trans (zB.upd1 M),?_,by rw[aj,e];rfl,nx⟩⟩
    ·have:(zD (c::Z)).length=i:=by rw[<-e];simp[zD]
     rw[this,aP]
     show i+1<=_
     omega
    ·rw[zH]
     unfold zD
     rw[aL];rfl
  ·rintro σ t ⟨p,bk,y,rfl,u,v,e,g⟩
   rw[ai,bA,o]at e
   exact⟨_,rfl,k p bk t u v (by omega) (by omega) g⟩
end
section
variable{X:Cx}{tg:bq}
theorem zLo (a:aa)(c:X.K=a){l:bq}{b:TE}(hl:PE X l b):PI X tg l (zEa a b):=by
 subst c;exact gP hl
theorem zLp (a:aa)(b:X.K=a)(c:X.A.units+64<cLine):z9 X (compareOp .NotEq) (zCl a true):=by
 subst b;exact g4 c
end
theorem zAr {d:ba}{A B:Prop}(hd:d.canLay0=true)(h:B):if(if true=true then !PyData.eqv d d else cq d d)=true then A else B:=by
 rw[zCm d hd];exact h
theorem zDa {t:S}(h:∀c∈t,c<=122):iA (tx t)=true:=by
 unfold iA
 rw[Array.all_eq_true']
 intro c b
 have a:c∈t:=by simpa [tx]using b
 have:=h c a
 exact decide_eq_true (by omega)
theorem zGc {c:List ba}(h:∀d∈c,d.canLay0=true/\d.depth<=10):bI (.list c)=true/\(PyData.list c).canLay0=true:=by
 have f:b7 c=true:=by
  induction c with
  |nil=>rfl
  |cons d c ih=>simp only[b7,(h d (av ..)).1,ih fun e he=>h e (au _ he),fz]
 have j:cZ c<=10:=by
  clear f
  induction c with
  |nil=>decide
  |cons d c ih=>
   have a:=(h d (av ..)).2
   have b:=ih (fun e he=>h e (au _ he))
   simp only[cZ];omega
 have g:(PyData.list c).canLay0=true:=by simp only[cD];exact f
 have i:(PyData.list c).depth<=64:=by simp only[dC];omega
 unfold bI
 rw[g,decide_eq_true i];exact⟨rfl,rfl⟩
theorem IsRow.len {c:List (S×S)}{e:S}{d:List (S×Int)}(r:IsRow c e d):d.length<=c.length:=by
 have i:=r.total
 have j:(c.filter fun p=>p.1=e).length<=c.length:=bF ..
 have f:∀q∈d,0<q.2:=fun q g=>((r.mem q.1 q.2).mp g).2
 have go:∀l:List (S×Int),(∀q∈l,0<q.2)->(l.length:Int)<=(l.map (·.2)).sum:=by
  intro l
  induction l with
  |nil=>intro _;simp
  |cons q l ih=>
   intro hl
   have a:=hl q (av ..)
   have b:=ih fun x h=>hl x (au _ h)
   rw[aF,ck,aR]
   have:((l.length+1:Nat):Int)=(l.length:Int)+1:=rfl
   omega
 have:=go d f
 omega
section
variable{P:aw}{w:aI}{K:aa}{mg:Str->Option ae}{base:bc}
abbrev zDb:bR:=top 44
theorem zGd:FnScope ["_law_book_here","_law_order","_law_found","_law_name_here","_law_size","_law_end","_law_letter"] ["_law_book_here","_law_order"] (defScope zDb):=z5
theorem zLq (t:S)(o n:Nat)(a:1<=o)(b:1<=n)(hl:t.length=n):vY (tx t) (some (0- (if(n:Int)<(o:Int)then(n:Int)else(o:Int)))) none=tx (yB t o):=by
 by_cases h:n<o
 ·rw[if_pos (by omega)]
  have e:(0:Int)- (n:Int)=-(n:Int):=by omega
  rw[e,zCx t n b,zFk (by omega),zFk (by omega)]
 ·rw[if_neg (by omega)]
  have e:(0:Int)- (o:Int)=-(o:Int):=by omega
  rw[e,zCx t o a]
theorem zGe {o:Nat}{t:S}{j:Nat}(h:j<t.length+1):(z0 o t)[j]?=some (yB (t.take j) o,(t.drop j).take 1):=by
 unfold z0
 rw[az,dZ h];rfl
theorem zBo (o:Nat)(t:S):(z0 o t).length=t.length+1:=by unfold z0;rw[ai,bA]
theorem zLr {f:af}{fd:ar}(F:Fun K "_law_counts" "_law_counts" zDb f fd)(B:Blt mg):FnOk P w K mg base zS 1 f fd ["_law_book_here","_law_order"] zAo:=by
 refine F.ok zGd (fun vs H Q E h=>?_) (fun a8 A outer s H vs Q E hr h=>?_)
 ·obtain⟨a,bk,o,rfl,_⟩:=h;rfl
 ·obtain⟨a,bk,o,rfl,ha,a9,ab,ho,k⟩:=h
  have Y:=vT hr
  have nd:=zGd.nd
  refine⟨_,zF (zZ (i:=2) nd rfl (Or.inl rfl) kL)
   (zF (uV bO rfl (gP (pv 0)) (yY (i:=3) nd rfl (Or.inl rfl))
    (zI (uV bO rfl (jR rfl B.range (zA (zR vB (z7 gU (by rfl) B.len b6 (zA (pv 3) zC)) zG) zC)) (yY (i:=4) nd rfl (Or.inl rfl))
     (zF (zZ (i:=5) nd rfl (Or.inl rfl) (gN (yM zBK (pv 4) zG (yZ _)) (kO (kO (pv 3) zBP (qC (pv 4))) (qC (zR zEd zG (z7 (zEp rfl) (by rfl) B.min iQ (zA (pv 1) (zA (pv 4) zC))))) zBP) yG))
     (zF (zZ (i:=6) nd rfl (Or.inl rfl) (kO (pv 3) (qC (pv 4)) (qC (zR vB (pv 4) zG))))
     (zF (yE (kX (zAe Y (pv 5) (pv 2))) (zI (gX Y (pv 2) (pv 5) kL rfl)) yC)
     (zI (gX Y (uD Y (pv 2) (pv 5) (fun _ _=>rfl)) (pv 6) (zR vB (gY Y (uD Y (pv 2) (pv 5) (fun _ _=>rfl)) (pv 6) zG ⟨rfl,rfl,rfl,rfl⟩) zG) rfl))))))))
   (zI (zT (pv 2)))),?_⟩
  intro d hd
  have s1:zB H (upd H d (.dK [])):=zB.upd1 hd
  refine⟨_,rfl,a,rfl,⟨_,.of (s1 _ _ ha)⟩,?_⟩
  refine qI (g9 K a (zD bk)) (fun i σ H'=>(∃x y z u:Option V,σ=[some (.ref a),some (.int o),some (.ref d),x,y,z,u])/\zB H H'/\∃M,RA H H' d (zU o (bk.take i)) M)
   ⟨⟨_,_,_,_,rfl⟩,s1,[],⟨rfl,zH,by simp,by simp,by simp⟩⟩ (fun i σ H' _ h=>.of (h.2.1 _ _ ha)) ?_ ?_
  ·rintro i x σ H' Nx hN N ⟨⟨x1,x2,x3,x4,rfl⟩,sm,M,R⟩
   rw[zD,az]at N
   cases e:bk[i]? with
   |none=>rw[e]at N;cases N
   |some nm=>
   rw[e]at N
   have aK:x=sv nm:=(aq N).symm
   subst aK
   have be:=ab nm (aH e)
   have hi:i<bk.length:=(ag.mp e).1
   have O:bk.take (i+1)=bk.take i++[nm]:=by
    rw[ax hi]
    have:=(ag.mp e).2
    rw[this]
   have m:zU o (bk.take (i+1))=zU o (bk.take i)++z0 o nm:=by
    rw[O,zFj];simp[zU]
   have aN:((zU o (bk.take (i+1))).length:Int)<=100:=by
    rw[zAj]
    have go:∀l:List S,(∀x∈l,x.length<=8)->(l.map fun x=>(x.length:Int)+1).sum<=9*(l.length:Int):=by
     intro l
     induction l with
     |nil=>intro _;simp
     |cons x r ih=>
      intro hl
      have h1:=hl x (av ..)
      have h2:=ih fun y hy=>hl y (au _ hy)
      rw[aF,ck,aR]
      have:((r.length+1:Nat):Int)=(r.length:Int)+1:=rfl
      omega
    have:=go (bk.take (i+1)) fun x N=>ab x (fE N)
    have h3:(bk.take (i+1)).length<=8:=by rw[aV];omega
    omega
   refine⟨_,rfl,tx nm,rfl,by rw[yP,aP];omega,_,_,rfl,rfl,_,rfl,by rw[yP];omega,by rw[yP];omega,?_⟩
   have ac:(((tx nm).length:Int)+1).toNat=nm.length+1:=by rw[yP];omega
   refine qI (jX 0 _) (fun j σ G=>(∃y z u:Option V,σ=[some (.ref a),some (.int o),some (.ref d),some (sv nm),y,z,u])/\zB H G/\∃M,RA H G d (zU o (bk.take i)++(z0 o nm).take j) M)
    ⟨⟨_,_,_,rfl⟩,sm,M,by simpa using R⟩ (fun _ _ _ _ _=>trivial) ?_ ?_
   ·rintro j x σ G ak al hx2 ⟨⟨y,z,u,rfl⟩,t,b,R2⟩
    rw[ac]at hx2
    obtain⟨hj,rfl⟩:=zAl hx2
    have ep:=zGe (o:=o) hj
    generalize hp:((yB (nm.take j) o,(nm.drop j).take 1):S×S)=p at ep
    have am:yB (nm.take j) o=p.1:=by rw[<-hp]
    have aW:(nm.drop j).take 1=p.2:=by rw[<-hp]
    have a0:j<(z0 o nm).length:=by rw[zBo];exact hj
    have T:zU o (bk.take i)++(z0 o nm).take (j+1)=(zU o (bk.take i)++(z0 o nm).take j)++[p]:=by
     rw[ax a0,(ag.mp ep).2,eP]
    generalize a1:zU o (bk.take i)++(z0 o nm).take j=ps at R2 T
    have bi:ps.length<=100:=by
     have h1:ps.length<=(zU o (bk.take (i+1))).length:=by
      rw[<-a1,m,aj,aj,aV];omega
     omega
    have a7:b.length<=100:=by
     have h1:=(zBk ps).1
     rw[<-R2.rows,ai]at h1
     omega
    refine⟨_,rfl,_,_,rfl,rfl,_,rfl,?_⟩
    refine' (fun(cont:∀q:V,q=sv p.1->(_:V->Prop) q)=>?main) ?cont
    case main=>
     by_cases h0:0<j
     ·refine vH (by omega) ?_
      refine⟨_,rfl,_,rfl,_,rfl,tx nm,rfl,by rw[yP,aP];omega,_,rfl,_,rfl,_,_,rfl,_,_,rfl,rfl,_,rfl,_,rfl,?_,?_⟩
      ·rw[zCy,yP,aP,aV];omega
      ·have ec:vY (vY (tx nm) none (some (j:Int))) (some (0- (if(j:Int)<(o:Int)then(j:Int)else(o:Int)))) none=tx p.1:=by
        rw[zCy,zLq (nm.take j) o j ho h0 (by rw[aV];omega),am]
       have ev:V.str (vY (vY (tx nm) none (some (j:Int))) (some (0- (if(j:Int)<(o:Int)then(j:Int)else(o:Int)))) none)=sv p.1:=congrArg V.str ec
       revert ev
       generalize V.str (vY (vY (tx nm) none (some (j:Int))) (some (0- (if(j:Int)<(o:Int)then(j:Int)else(o:Int)))) none)=q
       intro ev
       exact cont q ev
     ·have a2:j=0:=by omega
      subst a2
      refine yK (by omega) ?_
      have n:p.1=[]:=by rw[<-am];simp[yB]
      have ev:V.str ""=sv p.1:=by rw[n];rfl
      revert ev
      generalize V.str ""=q
      intro ev
      exact cont q ev
    case cont=>
     intro q hq
     subst hq
     refine⟨_,rfl,_,rfl,_,rfl,_,rfl,_,_,rfl,rfl,_,rfl,tx nm,rfl,by rw[yP,aP];omega,?_⟩
     have an:vY (tx nm) (some (j:Int)) (some ((j:Int)+1))=tx p.2:=by rw[zCz,aW]
     rw[an]
     refine⟨_,rfl,_,rfl,d,_,rfl,vD.k (k:=Sum.inr (tx p.1)) R2.top,_,rfl,?_⟩
     rw[uZ]
     have fin:∀(ad:af) (row:List (S×Int)) (Z:Hp) (U:List (zX×V)),Z d=some (.dK U)->yI U (Sum.inr (tx p.1))=some (.ref ad)->Z ad=some (.dK (yQ row))->(row.map (·.1)).Nodup->row.length<=100->(∀H4,H4=upd Z ad (.dK (yQ (vP row p.2)))->ak [some (.ref a),some (.int o),some (.ref d),some (sv nm),some (.int j),some (sv p.1),some (sv p.2)] H4)->
       zCg (zBT (vS 2) (vS 5)) (vS 6) (gQ (jS fun i j=>V.int (i+j)) (zCh (zBT (vS 2) (vS 5)) (vS 6) (tC (.int 0))) (tC (.int 1))) {nx:=ak,rt:=Q,bk:=fun _ _=>False,ct:=fun _ _=>False} [some (.ref a),some (.int o),some (.ref d),some (sv nm),some (.int j),some (sv p.1),some (sv p.2)] Z:=by
      intro ad row Z U ap as C a3 bl hq
      have dg:vD Z d (sv p.1) (some (.ref ad)):=by
       have:=vD.k (k:=Sum.inr (tx p.1)) ap
       rw[as]at this
       exact this
      refine⟨_,rfl,_,rfl,d,_,rfl,dg,ad,rfl,.inl ⟨_,.inl C⟩,_,rfl,_,vD.k (k:=Sum.inr (tx p.2)) C,(zE row p.2).getD 0,1,?_,rfl,?_⟩
      ·rw[uZ]
       cases zE row p.2<;>rfl
      ·refine⟨_,rfl,_,rfl,d,_,rfl,dg,_,rfl,ad,_,rfl,qZ.k (k:=Sum.inr (tx p.2)) C (by rw[zAD,aP];omega),hq _ ?_⟩
       rw[zAm V.int row p.2 _ a3]
       rfl
     cases g:zE b p.1 with
     |some v=>
      obtain⟨r1,r2,r3,r4,r5⟩:=zGI R2 g
      refine yA ?_
      refine fin v.1 v.2 G _ R2.top (by rw[uZ,g];rfl) r1 r2 (by omega) fun H4 I=>?_
      have RR:RA H H4 d (ps++[p]) (zO b p.1 (v.1,vP v.2 p.2)):=by
       refine R2.step p v.2 (by rw[g];rfl) (fun v' D=>by rw[g]at D;rw[aq D]) (fun hn=>by rw[g]at hn;cases hn) (by rw[I,zH]) ?_ fun r c W=>?_
       ·rw[I,zJ r5.symm,R2.top]
        have:=zGH (fun v:af×List (S×Int)=>V.ref v.1) b p.1 (v.1,vP v.2 p.2) v g rfl
        rw[this]
       ·rw[I,zJ W];exact R2.row r c
      refine al _ _ ⟨⟨_,_,_,rfl⟩,?_,_,by rw[T];exact RR⟩
      rw[I]
      exact t.upd_new r4
     |none=>
      refine yJ ?_
      intro n J
      have L:H n=none:=t.free J
      have X:d≠n:=vR R2.top J
      have s3:zB G (upd G n (.dK [])):=zB.upd1 J
      have a4:upd G n (.dK []) d=some (.dK (vE (fun v:af×List (S×Int)=>V.ref v.1) b)):=s3 _ _ R2.top
      have a5:∀r∈b,r.2.1≠n:=fun r c=>vR (R2.row r c) J
      refine⟨_,rfl,_,rfl,d,_,rfl,qZ.k (k:=Sum.inr (tx p.1)) a4 (by rw[zAD,aP];omega),?_⟩
      have aB:=zAm (fun v:af×List (S×Int)=>V.ref v.1) b p.1 (n,[]) (zBl R2)
      have a6:upd (upd G n (.dK [])) d (.dK (vL (vE (fun v:af×List (S×Int)=>V.ref v.1) b) (Sum.inr (tx p.1)) (.ref n))) n=some (.dK (yQ [])):=by
       rw[zJ X.symm,zH];rfl
      refine fin n [] _ _ zH (by rw[zJm,if_pos rfl]) a6 (by simp) (by simp) fun H4 I=>?_
      have RR:RA H H4 d (ps++[p]) (zO b p.1 (n,vP [] p.2)):=by
       refine R2.step p [] (by rw[g];rfl) (fun v' D=>by rw[g]at D;cases D) (fun _=>⟨L,X.symm,fun hm=>?_⟩) (by rw[I,zH]) ?_ fun r c W=>?_
       ·obtain⟨r,c,e⟩:=aM.mp hm
        exact a5 r c e
       ·rw[I,zJ X,zH,aB]
        congr 2
        have hk:p.1∉b.map (·.1):=gC.mp g
        rw[zAn _ _ _ hk,zAn _ _ _ hk]
        unfold vE kN
        rw[aL,aL,aL,aL]
        rfl
       ·rw[I,zJ W,zJ (R2.new r c).2];exact s3 _ _ (R2.row r c)
      refine al _ _ ⟨⟨_,_,_,rfl⟩,?_,_,by rw[T];exact RR⟩
      rw[I]
      exact((t.trans s3).upd_new hd).upd_new L
   ·rintro σ G ⟨⟨y,z,u,rfl⟩,t,b,R2⟩
    refine hN _ _ ⟨⟨_,_,_,_,rfl⟩,t,b,?_⟩
    rw[m]
    rw[ai,bA,ac,<-zBo o nm,aX]at R2
    exact R2
  ·rintro σ H' ⟨⟨x1,x2,x3,x4,rfl⟩,sm,M,R⟩
   refine⟨_,rfl,k d H' sm hd ⟨M,?_,R.top,R.row⟩⟩
   rw[R.rows]
   have:(zD bk).length=bk.length:=by simp[zD]
   rw[this,aX]
end
end Kn
end
section
namespace L2
open PySem PySem.Spec PyProof.Rows
structure Flown (P:aw) (w:aI) (outer:List Env) (H:Hp) (s:ah) (e:af) (cls a0:ae) (B:bc) (H':Hp) (s':ah):Prop where
 os:s'.os=s.os
 bare:fP s'.gens
 fly:oF B outer e cls a0 s'.heap
 trB:∀b u,H' b=some u->∃o,B.get? b=some o
 hok:z4 P w H' s'.heap
 keep:∀b o,s.heap.get? b=some o->H b=none->b∉yW outer->B.get? b=some o
 slot:∀b o,s.heap.get? b=some o->b∈yW outer->H b=none->∃sl,s'.heap.get? b=some {o with slots:=sl}
 free:∀b o,s.heap.get? b=some o->H b=none->H' b=none
 there:∀b o,s.heap.get? b=some o->b∉yW outer->∃o',B.get? b=some o'
 tups:∀b xs,H b=some (.tup xs)->H' b=some (.tup xs)
 frzs:∀b o u,H b=some (.frz o u)->H' b=some (.frz o u)
 tbls:∀b ps,H b=some (.tbl ps)->∃more,H' b=some (.tbl (ps++more))
 ef:H' e=none
def y7 (P:aw)(w:aI):vV:=fun outer H s E ev s'=>∃(e:af) (cls a0:ae) (B:bc) (H':Hp),ev=.ref e/\Flown P w outer H s e cls a0 B H' s'/\E cls none H'
section
variable{P:aw}{w:aI}{outer:List Env}{H H':Hp}{s s':ah}{e:af}{cls a0:ae}{B h':bc}
theorem zDc (ok:z4 P w H' s'.heap)(trB:∀b u,H' b=some u->∃o,B.get? b=some o)(st:B.StaysIn s'.heap)(c:B.StaysIn h'):z4 P w H' h':=fun a u q=>by
 refine(ok a u q).stay (fun b v i r=>?_) (fun _ z=>z) fun _ _ z=>z
 have d:∃f,H' b=some f:=by
  rcases i with z|z
  ·rw[z];exact⟨u,q⟩
  ·exact⟨_,z⟩
 obtain⟨f,g⟩:=d
 obtain⟨o,h⟩:=trB b f g
 have:=st b o h
 rw[r]at this
 cases this
 exact c b _ h
theorem Flown.un (F:Flown P w outer H s e cls a0 B H' s')(frf:∀b∈yW outer,H b=none):Un (yW outer) [] H H' s.heap s'.heap where
 keep:=fun b o q n a _=>F.fly.1 b o (F.keep b o q n a)
 slot:=fun b o q n a _=>F.slot b o q a n
 free:=fun b o q n _=>F.free b o q n
 there:=fun b o q _=>by
  by_cases a:b∈yW outer
  ·obtain⟨d,z⟩:=F.slot b o q a (frf b a)
   exact⟨_,z⟩
  ·obtain⟨c,z⟩:=F.there b o q a
   exact⟨c,F.fly.1 b c z⟩
 tups:=F.tups
 frzs:=F.frzs
 tbls:=F.tbls
theorem Flown.on {outer:List Env}(F:Flown P w outer H s e cls a0 B H' s')(fly:oF B outer e cls a0 h')(up:s'.heap.UpToSlots h')(a:s'.heap.FunFrames B outer):Flown P w outer H s e cls a0 B H' {s' with heap:=h'} where
 os:=F.os
 bare:=F.bare
 fly:=fly
 trB:=F.trB
 hok:=zDc F.hok F.trB F.fly.1 fly.1
 keep:=F.keep
 slot:=fun b o q f n=>by
  obtain⟨h,z⟩:=F.slot b o q f n
  obtain⟨_,i,c,hd⟩:=a.mem f
  rw[z]at c
  cases c
  obtain⟨d,g⟩:=up b _ z hd
  exact⟨d,g⟩
 free:=F.free
 there:=F.there
 tups:=F.tups
 frzs:=F.frzs
 tbls:=F.tbls
 ef:=F.ef
end
section
variable{X:Cx}{pins:List (af×Obj)}{σ:St}{H H':Hp}{s s':ah}{e:af}{cls a0:ae}{B h':bc}
theorem Inv.nstk (I:Inv X pins σ H s){b:af}{o:Obj}(q:X.s₀.heap.get? b=some o)(a:b∉X.fs):b∉yW X.stack:=fun z=>by
 rcases aJ.mp (I.stkSub b z)with r|r
 ·exact absurd (aU (aD q) I.ok.above) (by rw[r];exact bS _)
 ·exact a r
theorem zDd (c:X.stack=X.env::X.outer){b:af}(a:b∈X.fs):b∈yW X.stack:=by
 rw[c]
 unfold yW
 rw[dX]
 cases X.env.frame with
 |none=>exact a
 |some L=>exact au _ a
theorem Flown.leaves (I:Inv X pins σ H s)(j:X.stack=X.env::X.outer)(r:X.env.frame=some X.env.locals)(t:X.ex=[])(F:Flown X.prog X.w X.stack H s e cls a0 B H' s'){Q:Unit->ah->Prop}{E:ae->ah->Prop}{M:mh}
  (v:∀f,Flown X.prog X.w X.outer X.H₀ X.s₀ e cls a0 B H' f->Q () f):wpAny M X.A (leaving X.env (.ref e)) Q E s':=by
 have fly:=F.fly
 rw[j]at fly
 have g:=F.fly.2.2.1
 refine wpAny_leaves_onW (by rw[<-j];exact I.ok.frames) r fly fun h' c up=>v _ ?_
 have a:∀b:af,b∉X.ex:=fun b z=>by rw[t]at z;cases z
 refine⟨F.os.trans I.os,F.bare,c,F.trB,zDc F.hok F.trB F.fly.1 c.1,fun b o q n d=>?_,fun b o q d n=>?_,fun b o q n=>?_,fun b o q d=>?_,fun b xs q=>F.tups b xs (I.base.tups b xs q),fun b o u q=>F.frzs b o u (I.base.frzs b o u q),fun b x q=>?_,F.ef⟩
 ·exact F.keep b o (I.base.keep b o q n d (a b)) (I.base.free b o q n (a b)) (I.nstk q d)
 ·obtain⟨L,z⟩:=I.base.slot b o q n d (a b)
  obtain⟨y,p⟩:=F.slot b _ z (zDd j d) (I.base.free b o q n (a b))
  obtain⟨_,l,h,hd⟩:=g.mem (show b∈X.stack.filterMap (·.frame)from zDd j d)
  rw[p]at h
  cases h
  obtain⟨i,m⟩:=up b _ p hd
  exact⟨i,m⟩
 ·obtain⟨l,z⟩:=I.base.there b o q (a b)
  exact F.free b l z (I.base.free b o q n (a b))
 ·obtain⟨l,z⟩:=I.base.there b o q (a b)
  exact F.there b l z (I.nstk q d)
 ·obtain⟨C,D⟩:=I.base.tbls b x q
  obtain⟨G,J⟩:=F.tbls b _ D
  exact⟨C++G,by rw[J,ju]⟩
theorem zLs {C:af}{vs:List ae}(I:Inv X pins σ H s)(i:X.stack=X.env::X.outer)(v:X.env.frame=some X.env.locals)(x:X.ex=[])(j:ng s.heap h' e (.ref C) vs){Q:Unit->ah->Prop}{E:ae->ah->Prop}{M:mh}
  (y:∀d a0 B,Flown X.prog X.w X.outer X.H₀ X.s₀ e (.ref C) a0 B H d->Q () d):wpAny M X.A (leaving X.env (.ref e)) Q E {s with heap:=h'}:=by
 have fr:=I.stack
 have l:∀env∈X.stack,∀b,env.frame=some b->b∈yW X.stack:=fun env he b a=>fZ.mpr ⟨env,he,a⟩
 have f:=PySem.W.funFrames_hide (as:=yW X.stack) fr l
 rw[i]at f
 have c:∀b:af,b∉X.ex:=fun b z=>by rw[x]at z;cases z
 refine wpAny_leaves_madeW (base:=ee s.heap (yW X.stack)) (by rw[<-i];exact I.ok.frames) v (fun b o q=>fW _ q) (by rw[i];exact f) j fun F t fly tup bt up=>y _ (.ref t) (ee s.heap (yW X.stack)) ?_
 have trB:∀b u,H b=some u->∃o,(ee s.heap (yW X.stack)).get? b=some o:=fun b u q=>by
  obtain⟨o,D⟩:=(I.hok b u q).obj
  exact⟨o,dW _ D fun z=>by rw[I.stkFree b z]at q;cases q⟩
 have m:(ee s.heap (yW X.stack)).StaysIn s.heap:=fun b o q=>fW _ q
 refine⟨I.os,I.bare,fly,trB,zDc (s':=s) I.hok trB m fly.1,fun b o q n a=>?_,fun b o q a n=>?_,fun b o q n=>I.base.free b o q n (c b),fun b o q a=>?_,I.base.tups,I.base.frzs,I.base.tbls,I.hok.free j.new⟩
 ·exact dW _ (I.base.keep b o q n a (c b)) (I.nstk q a)
 ·obtain⟨G,z⟩:=I.base.slot b o q n a (c b)
  obtain⟨_,r,g,hd⟩:=fr.mem (show b∈X.stack.filterMap (·.frame)from zDd i a)
  rw[z]at g
  cases g
  obtain⟨h,p⟩:=up b _ (j.keeps b _ z) hd
  exact⟨h,p⟩
 ·obtain⟨r,z⟩:=I.base.there b o q (c b)
  exact⟨r,dW _ z (I.nstk q a)⟩
end
structure XOk (X:Cx) (E:XK):Prop where
 made:∀(pins:List (af×Obj)) (σ:St) (H:Hp) (s:ah) (h':bc) (e C:af) (vs:List ae),Inv X pins σ H s->ng s.heap h' e (.ref C) vs->E (.ref C) none H->X.xe (.ref e) {s with heap:=h'}
 pass:uJ (y7 X.prog X.w) X E
theorem zLt {P:aw}{w:aI}{K:aa}{mg:Str->Option ae}{base:bc}{N:List Str}{a:Str}{scope:dv}{f:af}{i:ae}{A:bB}{outer:List Env}{s:ah}{H:Hp}{E:XK} :
  XOk (qW (y7 P w) P w K mg base N a scope f i A outer s H E) E where
 made:=fun b σ h j h' e C vs I l c=>zLs I rfl rfl rfl l fun d g B F=>⟨e,_,g,B,h,rfl,F,c⟩
 pass:=fun b σ h j ev s' I ⟨e,cls,g,B,H',he,F,c⟩=>by
  subst he
  exact Flown.leaves I rfl rfl rfl F fun d m=>⟨e,cls,g,B,H',rfl,m,c⟩
abbrev jC:List ae:=[.type "ValueError",.type "Exception",.type "BaseException",.type "object"]
structure XCls (K:aa) (mg:Str->Option ae) (x:Str) (C:af):Prop where
 bound:mg x=some (.ref C)
 exc:cw K C jC "ValueError.__new__"=true
theorem j7 {K:aa}{h:bc}{C:af}{a:String}{c:List ae}(X:K.In h)(q:cw K C c a=true) :
  ∃bm N nm q bs hdct sn sub ab col dd k0 k1 k2 k3 k5 mN,h.get? C=some (excClassObj nm q C N bs bm hdct sn sub ab col dd k0 k1 k2 k3 k5 a)/\h.Ns N mN/\mN "__init__"=none/\OwnTail h c bm/\∃e,K.lookup C=some ⟨.type "type",dd,.cls e,#[k0,k1,k2,k3,some (.builtin a),k5]⟩/\e.mro=.ref C::bm:=by
 unfold cw at q
 split at q
 ·rename_i dd e g i
  split at q
  ·rename_i s bm k0 k1 k2 k3 n k5 j m
   simp only[bC,beq_iff_eq,Bool.not_eq_true']at q
   obtain⟨⟨⟨⟨⟨rfl,rfl⟩,b⟩,o⟩,hok⟩,d⟩:=q
   obtain⟨nm,bs,p,ns,r,hd,sn,sub,ab,col,del⟩:=e
   dsimp only at j b hok d
   subst j b
   have f:g=#[k0,k1,k2,k3,some (.builtin n),k5]:=by
    obtain⟨l⟩:=g
    simp only at m
    rw[m]
   subst f
   exact⟨bm,ns,nm,r,bs,hd,sn,sub,ab,col,dd,k0,k1,k2,k3,k5,_,X _ _ i,.of_isNs (PySem.W.isNs_of_in X hok),PySem.W.nsMap_none_of_in X hok d,PySem.W.tail_of_in X o,_,i,rfl⟩
  ·cases q
 ·cases q
def zLu (C:af)(E:XK)(t:TA):TS:=fun _ σ H=>t σ H fun vs H1=>vs.length<=sizeLine/\E (.ref C) none H1
section
variable{X:Cx}
theorem zBp {E:XK}{x:Str}{C:af}{np a pos:Pos}{g:bq}{d:List bq}{t:TA}(ok:XOk X E)(n:X.calm=true)(O:XCls X.K X.mg x C)(o:Gl X x)(p:PA X (g::d) t)
  (he:starEach (g::d) X.env=(false,eval g X.env)::starEach d X.env:=by rfl) (b:(backTo a (starEach d X.env)).any (·.1)=false:=by rfl) (j:(x==("__debug__" : Str))=false:=by decide) :
  PS X (.Raise (some (.Call (.Name x np) (g::d) [] a)) none pos) (zLu C E t):=by
 intro c s σ H D I h
 obtain⟨u,N,nm,q,bs,hdct,sn,sub,ab,col,dd,k0,k1,k2,k3,k5,mN,v,w,l,T,_⟩:=j7 I.mod.kin O.exc
 refine wpAny_Raise_call_subU (C:=C) (nm:=nm) (q:=q) (N:=N) (bs:=bs) (bm:=u) (hdct:=hdct) (sn:=sn) (sub:=sub) (ab:=ab) (col:=col) (dd:=dd) (k0:=k0) (k1:=k1) (k2:=k2) (k3:=k3) (k5:=k5)
  cj (by decide) cj (mN:=mN) (T.hasType cj.hasBase) (I.ok.hd n) (by rw[he];show(false||(backTo a (starEach d X.env)).any (·.1))=false;rw[b];rfl) l ?_
 refine kG I o O.bound ⟨rfl,?_⟩ j
 have f:=p a c s σ H _ I h
 rw[he]at f⊢
 refine dN (bX f (fun vs z A=>?_) fun _ _ y=>y)
 obtain⟨us,B,i,r,m⟩:=A
 exact⟨rfl,by rw[<-r.length];exact m.1,i.bk _ _ v,w.keeps i.bk,T.keeps i.bk,fun h' e F=>ok.made c σ B z h' e C vs i F m.2⟩
end
section
variable{P:aw}{w:aI}{K:aa}{mg:Str->Option ae}{base:bc}
theorem Fun.okR {x a:Str}{st:bR}{f:af}{fd:ar}{N d:List Str}{k:Nat}{sp:Sp}(F:Fun K x a st f fd)(S:FnScope N d (defScope st))(len:∀vs H Q E,sp vs H Q E->vs.length=d.length)
  (c:∀(b:ae) (A:bB) (outer:List Env) (s:ah) (H:Hp) (vs:List V) (Q:VK) (E:XK),Room k (A.deeper (envOfC a (defScope st) s.heap.objs.size f b))->sp vs H Q E->XOk (qW (y7 P w) P w K mg base N a (defScope st) f b A outer s H E) E->
   ∃t,vO (qW (y7 P w) P w K mg base N a (defScope st) f b A outer s H E) (defBody st) t/\t {nx:=fun _ H'=>Q .non H',rt:=Q} (v8 N vs) H):FnOk P w K mg base (y7 P w) (k+1) f fd d sp:=by
 obtain⟨m,od,kV,h,pm,n,b,ct,i,rfl,j,e⟩:=F.ex
 refine zFA j e S len fun A outer s H vs Q E l g=>?_
 exact c b A outer s H vs Q E l g zLt
def uO (P:aw)(w:aI)(K:aa)(mg:Str->Option ae)(base:bc)(k:Nat)(x:Str)(ps:List Str)(sp:Sp):Prop :=
 ∃(f:af) (fd:ar),FnOk P w K mg base (y7 P w) k f fd ps sp/\mg x=some (.ref f)/\bP K (.ref f)=true/\vF K fd ps []
theorem qO {X:Cx}{k:Nat}{x:Str}{g:List Str}{sp:Sp}{p pos:Pos}{e:bq}{c:List bq}{t:TA}{E:XK}(C:uO X.prog X.w X.K X.mg X.base k x g sp)(ok:uJ (y7 X.prog X.w) X E)(h:Room k X.A)(i:Gl X x)(j:PA X (e::c) t)
  (l:starEach (e::c) X.env=(false,eval e X.env)::starEach c X.env:=by rfl) (a:(backTo pos (starEach c X.env)).any (·.1)=false:=by rfl)
  (d:(x==("__debug__" : Str))=false:=by decide):PE X (.Call (.Name x p) (e::c) [] pos) (kJ sp [] E t):=by
 obtain⟨f,fd,G,m,kp,b⟩:=C
 exact zEv G h i m kp b .nil ok j d l a
end
def XO (e C:af):HO:=.ext fun h=>∃oe vs,h.get? e=some oe/\oe.cls=.ref C/\oe.data=.fields vs
section
variable{M:mh}{A:bB}{E:ae->ah->Prop}{h:bc}{g:Array mL}{d:Drawn}{t:Nat}{os:OsState}
theorem zGf {nm q:Str}{C N:af}{bs bm:List ae}{hdct:Bool}{sn:List Str}{sub:List ae}{ab:Bool}{col:Option Bool}{dd:Option af}{k0 k1 k2 k3 k5:Option ae}{b:String}
  {o z:Str} {L B:af} {p c:List ae} {i:Bool} {r:List Str} {l:List ae} {s:Bool} {m:Option Bool} {u:Option af} {D F G H I:Option ae} {a:String} {e:af} {x:Obj} {Q:Bool->ah->Prop}
  (J:h.get? C=some (excClassObj nm q C N bs bm hdct sn sub ab col dd k0 k1 k2 k3 k5 b)) (y:h.get? L=some (excClassObj o z L B p c i r l s m u D F G H I a)) (he:h.get? e=some x) (n:x.cls=.ref C) (j:c.contains (.type "BaseException")=true)
  (v:(Value.ref C::bm).contains (.ref L)=true) (O:Q true ⟨h,g,d,t,os⟩):wpAny M A (excMatches (.ref e) (.ref L)) Q E ⟨h,g,d,t,os⟩:=by
 have w:(Value.ref L::c).contains (.type "BaseException")=true:=by rw[gk,j,Bool.or_true]
 have f:=tc_notTuple
 unfold excMatches
 repeat(first|(with_reducible refine cE he ?_;rw[n])|with_reducible refine cE y ?_|(with_reducible refine d5 y ?_;rw[w])|(with_reducible refine d5 J ?_;rw[v])|wp_step)
 exact O
end
abbrev Cx.hand (X:Cx)(e:af):Cx:={X with A:=X.A.mark (some (.ref e)),calm:=false,xe:=fun _ _=>False}
section
variable{X:Cx}{pins:List (af×Obj)}{σ:St}{H:Hp}{s:ah}{e:af}
theorem Inv.hand (I:Inv X pins σ H s)(e:af):Inv (X.hand e) pins σ H s :=
 ⟨⟨I.ok.mod,I.ok.kind,I.ok.glob,I.ok.blt,I.ok.above,I.ok.inj,I.ok.has,I.ok.cab,(fun z=>by cases z),I.ok.frames,I.ok.stk,I.ok.exf,I.ok.bs,I.ok.bsz,I.ok.noex,I.ok.exfs,I.ok.funs,I.ok.frf⟩,I.os,I.bare,I.base,I.loc,I.cell,I.free,I.freeC,I.pin,I.hok,I.len⟩
theorem Inv.unhand (I:Inv (X.hand e) pins σ H s)(ok:X.Ok):Inv X pins σ H s :=
 ⟨ok,I.os,I.bare,I.base,I.loc,I.cell,I.free,I.freeC,I.pin,I.hok,I.len⟩
theorem Inv.track {a:af}{o:HO}(I:Inv X pins σ H s)(g:H a=none)(f:∀b d,X.s₀.heap.get? b=some d->b≠a)(h:X.env.locals≠a)(i:∀x c,X.env.cells.lookup x=some c->c≠a)(j:∀p∈X.pn++pins,p.1≠a)
  (new:yT X.prog X.w (upd H a o) s.heap a o):Inv X pins σ (upd H a o) s :=
 ⟨I.ok,I.os,I.bare,⟨I.base.keep,I.base.slot,fun b d q n l=>by rw[zJ (f b d q)];exact I.base.free b d q n l,I.base.there,fun b xs q=>by rw[zJ (vR (I.base.tups b xs q) g)];exact I.base.tups b xs q,
  fun b d u q=>by rw[zJ (vR (I.base.frzs b d u q) g)];exact I.base.frzs b d u q,fun b r q=>let⟨m,z⟩:=I.base.tbls b r q;⟨m,by rw[zJ (vR z g)];exact z⟩⟩,I.loc,I.cell,by rw[zJ h];exact I.free,
  fun x c q=>by rw[zJ (i x c q)];exact I.freeC x c q,fun p q=>let⟨t,v,y⟩:=I.pin p q;⟨t,by rw[zJ (j p q)];exact v,y⟩,I.hok.track g new,I.len⟩
theorem Inv.forget {h':bc}{A:Str->Option ae}{t':Nat}(I:Inv X pins σ H s)(l:h'.Ns X.env.locals A)(g:fR X.env.locals s.heap h'):Inv X pins (aA X.N.length none) H {s with heap:=h',toks:=t'}:=by
 obtain⟨m,C,_⟩:=id I.loc
 obtain⟨O,_,_,D,_⟩:=id C
 have cne:=I.cne
 have a:z4 X.prog X.w H h':=fun b E q=>by
  refine(I.hok b E q).stay (fun c B F r=>(g.2 c ?_).trans r) (fun _ z=>z) fun _ _ z=>z
  rintro rfl
  rcases F with z|z
  ·have:=I.free
   rw[z,q]at this;cases this
  ·rw[I.free]at z;cases z
 have f:∀b o,X.s₀.heap.get? b=some o->b≠X.env.locals:=fun b o e=>br (aU (aD e) I.ok.above)
 refine⟨I.ok,I.os,I.bare,⟨fun b o e n t h=>?_,fun b o e n t h=>?_,I.base.free,fun b o e h=>?_,I.base.tups,I.base.frzs,I.base.tbls⟩,⟨A,l,fun i x v j u P=>?_⟩,fun y c e=>?_,I.free,I.freeC,fun p G=>?_,a,by simp⟩
 ·exact(g.2 b (f b o e)).trans (I.base.keep b o e n t h)
 ·obtain⟨J,j⟩:=I.base.slot b o e n t h
  exact⟨J,(g.2 b (f b o e)).trans j⟩
 ·obtain⟨L,j⟩:=I.base.there b o e h
  exact⟨L,(g.2 b (f b o e)).trans j⟩
 ·rw[cx]at u
  split at u<;>cases u
 ·obtain⟨B,z⟩:=I.cell y c e
  exact⟨B,z.sameBut g (cne y c e)⟩
 ·obtain⟨e,n,ne,M,d⟩:=I.pin p G
  exact⟨(g.2 p.1 ne).trans e,n,ne,M,d⟩
def jD (K:aa)(C L:af):Bool:=match K.lookup C with
 |some ⟨_,_,.cls cd,_⟩=>cd.mro.contains (.ref L)
 |_=>false
theorem zLv {H':Hp}{s':ah}{C L:af}{a0:ae}{B:bc}{x n:Str}{i:Nat}{np pos:Pos}{b0:bR}{suite:List bR}{D:Ends}(I:Inv X pins σ H s)(hs:X.stack=X.env::X.outer)(hf:X.env.frame=some X.env.locals)(hx:X.ex=[])
  (F:Flown X.prog X.w X.stack H s e (.ref C) a0 B H' s') (hC:cw X.K C jC "ValueError.__new__"=true) (O:XCls X.K X.mg x L) (hsub:jD X.K C L=true) (hg:Gl X x) (hN:X.N.Nodup) (hi:X.N[i]?=some n) (hl:X.env.scope.names.lookup n=some .local)
  (k:∀s2,Inv (X.hand e) pins ((aA X.N.length none).set i (some (.ref e))) (upd H' e (XO e C)) s2->H' e=none->
   wpAny (model X.prog X.w) (X.hand e).A (execs (b0::suite) X.env) (SP (X.hand e) pins {nx:=fun _ _=>False,rt:=D.rt}) (fun _ _=>False) s2) (hdb:(x==("__debug__" : Str))=false:=by decide) :
  wpAny (model X.prog X.w) X.A (noteFrame (.ref e) X.env) (fun _ s2=>wpAny (model X.prog X.w) X.A (setFlight (.ref e) none) (fun _ s3=>
   wpAny (model X.prog X.w) X.A (handleBy (.ref e) X.env [.ExceptHandler (some (.Name x np)) (some n) (b0::suite) pos]) (SP X pins D) X.xe s3) X.xe s2) X.xe s':=by
 have fly:=F.fly
 have fun':=F.fly.2.2.1
 rw[hs]at fly
 refine mD (by rw[<-hs];exact I.ok.frames) hf fly fun h4 held up4=>?_
 refine wpAny_landsW held fun h5 fly5 up5=>?_
 have F5:=F.on (h':=h5) (by rw[hs];exact fly5) (up4.trans up5) fun'
 have I5:Inv X pins σ H' {s' with heap:=h5}:=I.call' F5.os (F5.un I.stkFree) F5.hok F5.bare (fun b z=>nomatch z)
 obtain⟨tl,N,nm,q,bs,hdct,sn,sub,ab,col,dd,k0,k1,k2,k3,k5,mN,hC1,_,_,_,cd,hlk,hmro⟩:=j7 I.mod.kin hC
 obtain⟨tl',N',nm',q',bs',hdct',sn',sub',ab',col',dd',j0,j1,j2,j3,j5,mN',hL1,_,_,T',_⟩:=j7 I.mod.kin O.exc
 have hin:(Value.ref C::tl).contains (.ref L)=true:=by
  unfold jD at hsub
  rw[hlk]at hsub
  rw[<-hmro]
  exact hsub
 have Ih:=I5.hand e
 refine jj (iR (kG (X:=X.hand e) Ih hg O.bound ?_ hdb)) (by intro z;cases z)
 obtain⟨oe,ws,hoe,hoec,hoed,_⟩:=fly5.first
 have hm:∀{Q:Bool->ah->Prop} {E':ae->ah->Prop},Q true {s' with heap:=h5}->wpAny (model X.prog X.w) (X.A.mark (some (.ref e))) (excMatches (.ref e) (.ref L)) Q E' {s' with heap:=h5}:=fun{Q E'} hq=>by
  obtain⟨hp,gg,ddd,tt,oo⟩:=s'
  exact zGf (I5.bk _ _ hC1) (I5.bk _ _ hL1) hoe hoec (T'.hasType cj.hasBase) hin hq
 refine hm ?_
 refine gm (lands_againW fly5 fun h6 fly6 up6=>?_)
 have F6:=F5.on (h':=h6) (by rw[hs];exact fly6) up6 (by rw[hs];exact fly5.2.2.1)
 have I6:Inv X pins σ H' {s' with heap:=h6}:=I.call' F6.os (F6.un I.stkFree) F6.hok F6.bare (fun b z=>nomatch z)
 obtain⟨oe6,ws6,hoe6,hoec6,hoed6,_⟩:=fly6.first
 have neB:∀b o,s.heap.get? b=some o->b≠e:=fun b o q z=>by
  by_cases hb:b∈yW X.stack
  ·obtain⟨_,o',ho',hd⟩:=fun'.mem (show b∈X.stack.filterMap (·.frame)from hb)
   obtain⟨oe',ws',he',_,hed',_⟩:=F.fly.first
   rw[z,he']at ho'
   cases ho'
   exact hd ws' hed'
  ·obtain⟨o',ho'⟩:=F.there b o q hb
   rw[z,F.fly.2.1]at ho'
   cases ho'
 have I7:Inv X pins σ (upd H' e (XO e C)) {s' with heap:=h6}:=by
  refine I6.track F.ef (fun b ob q z=>?_) (fun z=>?_) (fun y c q z=>?_) (fun p hp z=>?_) ⟨⟨oe6,ws6,hoe6,hoec6,hoed6⟩,⟨oe6,hoe6⟩,fun h1 h2 ⟨o1,v1,a1,a2,a3⟩ kk=>⟨o1,v1,kk _ a1,a2,a3⟩⟩
  ·obtain⟨o',z'⟩:=I.base.there b ob q (by rw[hx];simp)
   exact neB b o' z' z
  ·obtain⟨m,⟨o,es,ep,ho,_⟩,_⟩:=I.loc
   exact neB _ o ho z
  ·obtain⟨v,o,ho,_⟩:=I.cell y c q
   exact neB _ o ho z
  ·obtain⟨a1,_⟩:=I.pin p hp
   exact neB _ _ a1 z
 have I8:Inv X pins (aA X.N.length none) (upd H' e (XO e C)) {s' with heap:=h6}:=I7.weak (by rw[di,I7.len]) fun j v q=>by
  rw[cx]at q
  split at q<;>cases q
 refine gM (X:=X.hand e) (v:=.ref e) (I8.hand e) hN hi (.inl hl) rfl (fun s2 I9=>?_) (.inr hl)
 refine bX (k s2 I9 F.ef) (fun f s3 h3=>?_) fun _ _ z=>z.elim
 cases f with
 |next=>obtain⟨_,_,_,z⟩:=h3;exact z.elim
 |brk=>obtain⟨_,_,_,z⟩:=h3;exact z.elim
 |cont=>obtain⟨_,_,_,z⟩:=h3;exact z.elim
 |ret u=>
  obtain⟨v,σ',H2,I10,r,z⟩:=h3
  have I11:=I10.unhand I.ok
  obtain⟨m,hn,_⟩:=id I11.loc
  refine i9 hl hn (by rw[I.ok.kind];rfl) fun h' m' hn' hs'=>?_
  exact⟨v,_,H2,I11.forget hn' hs',r,z⟩
def zLw (K:aa)(N:Nat)(i:Nat)(L:af)(tb:XK->TS)(ts:TS):TS:=fun D σ H=>
 tb (fun cls _ H'=>∃C:af,cls=.ref C/\cw K C jC "ValueError.__new__"=true/\jD K C L=true/\∀e,H' e=none->ts {nx:=fun _ _=>False,rt:=D.rt} ((aA N none).set i (some (.ref e))) (upd H' e (XO e C))) D σ H
abbrev Cx.tryb (X:Cx)(ET:ae->ah->Prop)(pn:List (af×Obj)):Cx:={X with xe:=ET,pn:=pn}
theorem Inv.tryb (I:Inv X pins σ H s)(b:ae->ah->Prop):Inv (X.tryb b (X.pn++pins)) [] σ H s :=
 ⟨⟨I.ok.mod,I.ok.kind,I.ok.glob,I.ok.blt,I.ok.above,I.ok.inj,I.ok.has,I.ok.cab,I.ok.hd,I.ok.frames,I.ok.stk,I.ok.exf,I.ok.bs,I.ok.bsz,I.ok.noex,I.ok.exfs,I.ok.funs,I.ok.frf⟩,I.os,I.bare,I.base,I.loc,I.cell,I.free,I.freeC,fun p c=>I.pin p (by
  have a:p∈(X.pn++pins)++[]:=c
  rw[iG]at a
  exact a),I.hok,I.len⟩
theorem Inv.untryb {a:ae->ah->Prop}{pins':List (af×Obj)}(I:Inv (X.tryb a (X.pn++pins)) pins' σ H s)(ok:X.Ok):Inv X pins σ H s :=
 ⟨ok,I.os,I.bare,I.base,I.loc,I.cell,I.free,I.freeC,fun p b=>I.pin p (b8 _ b),I.hok,I.len⟩
theorem zGg {x n:Str}{i:Nat}{L:af}{np pos d:Pos}{body:List bR}{m:bR}{a:List bR}{z:XK->TS}{ts:TS}(M:X.stack=X.env::X.outer)(P:X.env.frame=some X.env.locals)(Q:X.ex=[])(O:XCls X.K X.mg x L)(R:Gl X x)(T:X.N.Nodup)(hi:X.N[i]?=some n)(hl:X.env.scope.names.lookup n=some .local)
  (U:∀(E:XK) (G:ae->ah->Prop) (pn:List (af×Obj)),uJ (y7 X.prog X.w) (X.tryb G pn) E->vO (X.tryb G pn) body (z E)) (o:∀e,vO (X.hand e) (m::a) ts) (p:(x==("__debug__" : Str))=false:=by decide) :
  PS X (.Try body [.ExceptHandler (some (.Name x np)) (some n) (m::a) pos] [] [] d) (zLw X.K X.N.length i L z ts):=by
 intro pins s σ H D I h
 refine md ?_
 have main:=U _ (fun ev g=>wpAny (model X.prog X.w) X.A (noteFrame ev X.env) (fun _ t=>wpAny (model X.prog X.w) X.A (setFlight ev none) (fun _ W=>
   wpAny (model X.prog X.w) X.A (handleBy ev X.env [.ExceptHandler (some (.Name x np)) (some n) (m::a) pos]) (SP X pins D) X.xe W) X.xe t) X.xe g) (X.pn++pins) ?pass [] s σ H D (I.tryb _) h
 case pass=>
  rintro pins' b H1 g ev s' Y ⟨e,cls,a0,B,H',rfl,F,C,rfl,Z,j,y⟩
  have I2:=Y.untryb I.ok
  exact zLv I2 M P Q F Z O j R T hi hl (fun t I9 hn=>o e pins t _ _ _ I9 (y e hn)) p
 refine bX main (fun f g c=>?_) fun ev g c=>c
 have l:SP X pins D f g:=by
  cases f with
  |next=>obtain⟨b,H',J,q⟩:=c;exact⟨b,H',J.untryb I.ok,q⟩
  |brk=>obtain⟨b,H',J,q⟩:=c;exact⟨b,H',J.untryb I.ok,q⟩
  |cont=>obtain⟨b,H',J,q⟩:=c;exact⟨b,H',J.untryb I.ok,q⟩
  |ret u=>obtain⟨v,b,H',J,r,q⟩:=c;exact⟨v,b,H',J.untryb I.ok,r,q⟩
 cases f with
 |next=>exact dD l
 |ret u=>exact l
 |brk=>exact l
 |cont=>exact l
end
structure RoomB (k:Nat) (A:bB):Prop where
 dp:A.depth+3*k+5<recursionLimit
 un:A.units+16*k+200<cLine
theorem RoomB.deeper {k:Nat}{A:bB}(r:RoomB (k+1) A)(env:Env):RoomB k (A.deeper env) :=
 ⟨by have:=r.dp;show A.depth+1+3*k+5<_;omega,by have:=r.un;show A.units+3+16*k+200<_;omega⟩
theorem RoomB.depth {k:Nat}{A:bB}(r:RoomB k A):A.depth<recursionLimit:=by have:=r.dp;omega
theorem RoomB.units {k:Nat}{A:bB}(r:RoomB k A):A.units+64<cLine:=by have:=r.un;omega
theorem Room.busy {k:Nat}{A:bB}(r:Room k A)(v:Option ae):RoomB k (A.mark v):=⟨r.dp,r.un⟩
def cxB (CX:vV)(P:aw)(w:aI)(K:aa)(mg:Str->Option ae)(base:bc)(N:List Str)(qual:Str)(scope:dv)(f:af)(cd:ae)(A:bB)(outer:List Env)(s:ah)(H:Hp)(E:XK):Cx :=
 {qW CX P w K mg base N qual scope f cd A outer s H E with calm:=false}
structure FnB (P:aw) (w:aI) (K:aa) (mg:Str->Option ae) (base:bc) (CX:vV) (k:Nat) (f:af) (fd:ar) (ps:List Str) (sp:Sp):Prop where
 len:∀vs H Q E,sp vs H Q E->vs.length=ps.length
 run:∀(A:bB) (outer:List Env) (s:ah) (H:Hp) (args:Args) (us:List ae) (vs:List V) (Q:VK) (E:XK),RoomB k A->Env0 P w K mg base A outer s H->jb s fd args (ps.zip us)->zL vs us->sp vs H Q E->
  codeAny (model P w) A (.call (.ref f) args) (CR CX outer P w H s Q E) s
theorem zLx {CX:vV}{P:aw}{w:aI}{K:aa}{mg:Str->Option ae}{base:bc}{N l:List Str}{d:Str}{scope:dv}{f:af}{C:ae}{A:bB}{outer:List Env}{s F:ah}{H:Hp}{E:XK}{us:List ae}{vs:List V}
  (S:FnScope N l scope) (j:Env0 P w K mg base A outer s H) (hl:vs.length=l.length) (r:zL vs us)
  (x:InCallC s s.heap.objs.size (bindL (envOfC d scope s.heap.objs.size f C).kindOf (l.zip us) fun _=>none) (cellsFrom (s.heap.objs.size+1) scope.names []) (bindC (envOfC d scope s.heap.objs.size f C).kindOf (l.zip us) fun _=>none) F) :
  Inv (cxB CX P w K mg base N d scope f C A outer s H E) [] (v8 N vs) H F:=by
 have J:l.length<=N.length:=by have:=congrArg oP S.pre;rw[aV]at this;omega
 obtain⟨D,O,rfl,G⟩:=x.done
 have m:∀b:af,b∉(cxB CX P w K mg base N d scope f C A outer s H E).ex:=fun b z=>absurd (show b∈([]:List af)from z) (by simp)
 refine⟨⟨j.mod,S.kind,rfl,rfl,ay _,fun y z c D g=>?_,fun y o=>?_,fun y c _ h=>?_,(fun z=>by cases z),iW j.frames,.inr ⟨rfl,rfl⟩,fun b z=>absurd z (m b),j.bs,j.bsz,fun b _ _=>m b,fun b z=>absurd z (m b),j.funs,j.frf⟩,
  rfl,j.bare,Un.kept G,⟨_,x.toInCall.ns,fun i y v D g Q=>?_⟩,fun y c h=>⟨_,x.cell y c h⟩,j.hok.fresh (ay _),fun y c h=>?_,fun p t=>absurd (show p∈([]:List (af×Obj))from t) (by simp),j.hok.kept G,?_⟩
 ·exact name_of_addr x.apart (bT D) (bT g)
 ·have o:scope.names.lookup y=some .cell\/scope.names.lookup y=some .free:=o
  rcases o with o|o
  ·exact zBO o
  ·exact absurd rfl (S.nofree _ (bT o))
 ·exact fQ (x.above y c (bT h))
 ·have hi:i<vs.length:=by
   unfold v8 at g
   by_cases hi:i<vs.length
   ·exact hi
   ·rw[bQ (by simpa using hi)]at g
    rw[cx]at g
    split at g<;>cases g
  have L:vs[i]?=some v:=by
   unfold v8 at g
   rw[bj (by simpa using hi),az]at g
   cases e:vs[i]? with
   |none=>rw[e]at g;cases g
   |some a=>rw[e]at g;cases g;rfl
  obtain⟨u,I,M⟩:=r.get L
  have t:l[i]?=some y:=by
   rw[<-S.pre,hU (by omega)];exact D
  have B:l.Nodup:=by rw[<-S.pre];exact S.nd.sublist (ko _ _)
  refine⟨u,M,?_⟩
  rcases S.par y (aH t)with k|k
  ·exact .inl ⟨k,zCY B t I k⟩
  ·obtain⟨c,e⟩:=zBO (n:=s.heap.objs.size+1) k
   refine .inr ⟨.inl k,c,e,?_⟩
   have q:=x.cell y c e
   rw[zCZ B t I (by show scope.names.lookup y≠_;rw[k];decide)]at q
   exact q
 ·exact j.hok.fresh (fQ (x.above y c (bT h)))
 ·unfold v8
  show _=N.length
  rw[aj,ai,di]
  omega
theorem zLy {CX:vV}{P:aw}{w:aI}{K:aa}{mg:Str->Option ae}{base:bc}{k:Nat}{f:af}{name a:Str}{d:oq}{body:List bR}{scope:dv}{G kV j pm c ct T:ae}{L od:Option af}
  {B:Array (Option ae)} {N p:List Str} {sp:Sp} (U:K.lookup f=some ⟨T,od,.func (cp name a d body scope G kV j pm L c ct),B⟩) (C:de K c a=true) (S:FnScope N p scope)
  (len:∀vs H Q E,sp vs H Q E->vs.length=p.length)
  (g:∀(A:bB) (outer:List Env) (s:ah) (H:Hp) (vs:List V) (Q:VK) (E:XK),RoomB k (A.deeper (envOfC a scope s.heap.objs.size f c))->sp vs H Q E->
   ∃t,vO (cxB CX P w K mg base N a scope f c A outer s H E) body t/\t {nx:=fun _ H'=>Q .non H',rt:=Q} (v8 N vs) H) :
  FnB P w K mg base CX (k+1) f (cp name a d body scope G kV j pm L c ct) p sp:=by
 refine⟨len,fun A outer s H args us vs Q E M l W r m=>?_⟩
 have hl:=len _ _ _ _ m
 have O:K.In s.heap:=l.mod.kin.keeps fun b o e=>(l.bs b o e).1
 have D:s.heap.NoLimit:=l.mod.nolimit.keeps fun b o e=>(l.bs b o e).1
 have h:∀y∈p.zip us,scope.names.lookup y.1=some .local\/(scope.names.lookup y.1=some .cell/\((cellsFrom (s.heap.objs.size+1) scope.names []).lookup y.1).isSome=true):=fun⟨n,v⟩ X=>by
  rcases S.par n (fH X).1 with q|q
  ·exact .inl q
  ·exact .inr ⟨q,eR _ _ _ (.inl q)⟩
 refine iL M.depth (O _ _ U) rfl S.co S.gen rfl (jv O C) (W _ _ _ _ ?_)
 refine gf S.kind h fun env he R x=>?_
 subst he
 refine⟨D.keeps x.toInCall.keep,codeAny_func ?_⟩
 obtain⟨t,Y,Z⟩:=g A outer s H vs Q E (M.deeper _) m
 have I:Inv (cxB CX P w K mg base N a scope f c A outer s H E) [] (v8 N vs) H R:=zLx S l hl r x
 refine bX (Y [] R (v8 N vs) H _ I Z) (fun fl s' i=>?_) fun e s' i=>i
 have fin:∀{z:St} {H':Hp} {v:V} {u:ae},Inv (cxB CX P w K mg base N a scope f c A outer s H E) [] z H' s'->zQ v u->Q v H'->CE outer P w H s Q u s' :=
  fun{z H' v u} J F q=>⟨v,H',J.os,J.bare,J.base,J.hok,F,q⟩
 cases fl with
 |ret u=>
  obtain⟨v,z,H',J,F,q⟩:=i
  exact fin J F q
 |next=>
  obtain⟨z,H',J,q⟩:=i
  exact fin (v:=V.non) (u:=Value.none) J rfl q
 |brk=>
  obtain⟨_,_,_,q⟩:=i
  exact cf q
 |cont=>
  obtain⟨_,_,_,q⟩:=i
  exact cf q
section
variable{P:aw}{w:aI}{K:aa}{mg:Str->Option ae}{base:bc}
theorem Fun.okB {x a:Str}{st:bR}{f:af}{fd:ar}{N d:List Str}{k:Nat}{sp:Sp}(F:Fun K x a st f fd)(S:FnScope N d (defScope st))(len:∀vs H Q E,sp vs H Q E->vs.length=d.length)
  (c:∀(b:ae) (A:bB) (outer:List Env) (s:ah) (H:Hp) (vs:List V) (Q:VK) (E:XK),RoomB k (A.deeper (envOfC a (defScope st) s.heap.objs.size f b))->sp vs H Q E->
   ∃t,vO (cxB zS P w K mg base N a (defScope st) f b A outer s H E).nox (defBody st) t/\t {nx:=fun _ H'=>Q .non H',rt:=Q} (v8 N vs) H):FnB P w K mg base zS (k+1) f fd d sp:=by
 obtain⟨n,od,kV,i,pm,o,b,ct,j,rfl,l,e⟩:=F.ex
 refine zLy l e S len fun A outer s H vs Q E m g=>?_
 obtain⟨t,h,q⟩:=c b A outer s H vs Q E m g
 exact⟨t,h.nox,q⟩
def zAH (P:aw)(w:aI)(K:aa)(mg:Str->Option ae)(base:bc)(k:Nat)(x:Str)(ps:List Str)(sp:Sp):Prop :=
 ∃(f:af) (fd:ar),FnB P w K mg base zS k f fd ps sp/\mg x=some (.ref f)/\bP K (.ref f)=true/\vF K fd ps []
theorem zLz {X:Cx}{k:Nat}{f:af}{fd:ar}{c:List Str}{sp:Sp}{a:List (af×Obj)}{σ:St}{H:Hp}{s:ah}{Q:VK}{us:List ae}{vs:List V}(F:FnB X.prog X.w X.K X.mg X.base zS k f fd c sp)(g:RoomB k X.A)(i:vF X.K fd c [])
  (I:Inv X a σ H s) (r:zL vs us) (h:sp (vs++[]) H Q E0):wpAny (model X.prog X.w) X.A (call (.ref f) us) (EP X a σ Q) X.xe s:=by
 have d:zL (vs++[]) (us++[]):=r.append .nil
 have hl:(us++[]).length=c.length:=by rw[<-d.length];exact F.len _ _ _ _ h
 refine mR (dS (F.run X.A X.stack s H ⟨us,[]⟩ (us++[]) (vs++[]) Q E0 g I.env0 (i s us I.kIn hl) d h) fun r s' b=>?_)
 cases r with
 |error e=>exact cf b
 |ok j=>
  cases j with
  |ret u=>exact I.after b
  |next=>exact cf b
  |brk=>exact cf b
  |cont=>exact cf b
theorem zDe {X:Cx}{k:Nat}{x:Str}{j:List Str}{sp:Sp}{p pos:Pos}{e:bq}{c:List bq}{t:TA}(C:zAH X.prog X.w X.K X.mg X.base k x j sp)(l:RoomB k X.A)(m:Gl X x)(n:PA X (e::c) t)
  (o:starEach (e::c) X.env=(false,eval e X.env)::starEach c X.env:=by rfl) (a:(backTo pos (starEach c X.env)).any (·.1)=false:=by rfl)
  (g:(x==("__debug__" : Str))=false:=by decide):PE X (.Call (.Name x p) (e::c) [] pos) (kJ sp [] E0 t):=by
 obtain⟨f,fd,G,u,kp,b⟩:=C
 intro d s σ H Q I h
 refine da (kG I m u ?_ g)
 refine dz (h₀:=X.base) I.ok.mod.kin kp (zK (n pos d s σ H _ I h) fun us v ⟨vs,y,i,r,q⟩=>⟨i.kIn,?_⟩) o a
 exact zLz G l b i r q
end
structure XLook (K:aa) (C:af):Prop where
 exc:cw K C jC "ValueError.__new__"=true
 ga:bf K (.ref C) "__getattribute__"=some (some (.builtin "BaseException.__getattribute__"))
 gn:bf K (.ref C) "__getattr__"=some none
 cl:bf K (.ref C) "__class__"=some (some (.builtin "object.__class__"))
 mo:jn K C (.type "object")=some true
section
variable{prog:aw}{w:aI}{A:bB}{E:ae->ah->Prop}{h:bc}{g:Array mL}{d:Drawn}{t:Nat}{os:OsState}{K:aa}{C a:af}{o:Obj}{vs:Array ae}
theorem zDf {M:mh}{name:Str}{r:Option ae}{Q:Option ae->ah->Prop}(X:K.In h)(e:bf K (.ref C) name=some r)(b:Q r ⟨h,g,d,t,os⟩):wpAny M A (typeLookup (.ref C) name) Q E ⟨h,g,d,t,os⟩ :=
 iU X e A Q E _ (fun _ _ z=>z) b
theorem zMA {M:mh}{b:ae}{Q:Unit->ah->Prop}(X:K.In h)(L:XLook K C)(f:h.get? a=some o)(i:o.cls=.ref C)(j:Q () ⟨h,g,d,t,os⟩) :
  wpAny M A (checkBuiltinCall "BaseException.__getattribute__" ⟨[.ref a,b],[]⟩) Q E ⟨h,g,d,t,os⟩:=by
 obtain⟨l,N,nm,q,bs,hdct,sn,sub,ab,col,dd,k0,k1,k2,k3,k5,mN,m,r,n,T,_⟩:=j7 X L.exc
 have p:builtinKind "BaseException.__getattribute__"=some .slot:=by decide+kernel
 have c:splitId "BaseException.__getattribute__"=some ("BaseException","__getattribute__"):=by decide+kernel
 have e:(Value.ref C::l).contains (.type "BaseException")=true:=by rw[gk,T.hasType cj.hasBase];rfl
 have s:=PySem.F.args_bexc_ga (.ref a) b
 simp only[checkBuiltinCall,p,c]
 refine aE ?_
 ·unfold isInstance
  repeat(first|(with_reducible refine cE f ?_;rw[i])|(with_reducible refine d5 m ?_;rw[e])|wp_step)
  exact j
theorem zMB {R:Result->ah->Prop}(X:K.In h)(L:XLook K C)(f:h.get? a=some o)(i:o.cls=.ref C)(n:R (.ok (.ret (.ref C))) ⟨h,g,d,t,os⟩) :
  codeAny (model prog w) A (.call (.builtin "getset_descriptor.__get__") ⟨[.builtin "object.__class__",.ref a,.ref C],[]⟩) R ⟨h,g,d,t,os⟩:=by
 obtain⟨j,N,nm,q,bs,hdct,sn,sub,ab,col,dd,k0,k1,k2,k3,k5,mN,l,p,m,T,_⟩:=j7 X L.exc
 have c:(⟨h,g,d,t,os⟩:ah).TypeIs (.builtin "object.__class__") "getset_descriptor" :=dJ
 have e:(Value.ref C::j).contains (.type (".".intercalate ("object.__class__".cutAt '.').dropLast))=true:=by
  rw[PySem.F.owner_object_class,gk,T.hasType (X :="object") (b:=true) (by decide)];rfl
 refine ja fO.plain PySem.F.entry_gs_get (fO.check _ _ _ _ _ _ _ _ c (PySem.F.args_gs_get _ _ _) ?_)
 repeat(any_goals (first|assumption|(with_reducible refine cE f ?_;rw[i])|(with_reducible refine d5 l ?_;rw[e])|wp_step))
 refine⟨Code.quiet_builtin _ (by decide+kernel),codeAny_builtin PySem.F.entry_object_class ?_⟩
 repeat(any_goals (first|assumption|(with_reducible refine cE f ?_;rw[i])|wp_step))
theorem zMC {e:Tok}{Q:ow->ah->Prop}(X:K.In h)(L:XLook K C)(b:h.get? a=some o)(c:o.cls=.ref C)(i:Q (.done (.ret (.ref C))) ⟨h,g,d,t,os⟩) :
  wpAny (model prog w) A (eO.«object.__getattribute__» ⟨[.ref a,.str "__class__" e],[]⟩) Q E ⟨h,g,d,t,os⟩:=by
 have f:(⟨h,g,d,t,os⟩:ah).TypeIs (.builtin "object.__class__") "getset_descriptor" :=dJ
 have j:=dJ
 have l:=fO.lookup
 have m:=PySem.F.slot_gs_set.lookup
 repeat(any_goals (first|assumption|(with_reducible refine cE b ?_;rw[c])|with_reducible refine zDf X L.cl ?_|wp_step))
 refine zMB X L b c ?_
 repeat(any_goals (first|assumption|wp_step))
theorem zMD {e:Tok}{fill expr:Bool}{Q:ae->ah->Prop}(X:K.In h)(L:XLook K C)(b:h.get? a=some o)(c:o.cls=.ref C)(f:Q (.ref C) ⟨h,g,d,t,os⟩) :
  wpAny (model prog w) A (getAttrBy (.ref a) (.str "__class__" e) fill expr) Q E ⟨h,g,d,t,os⟩:=by
 have i:=ic.ga.bind (.ref a)
 have hx0:(expr&&onTheHeap (Value.builtin "BaseException.__getattribute__"))=false:=by cases expr<;>rfl
 have hx2:(Value.builtin "BaseException.__getattribute__"==Value.builtin "object.__getattribute__")=false:=by decide+kernel
 have hx1:(onTheHeap (Value.ref C)&&Value.builtin "BaseException.__getattribute__"==Value.builtin "object.__getattribute__")=false:=by rw[hx2];rfl
 repeat(any_goals (first|assumption|(with_reducible refine cE b ?_;rw[c])|with_reducible refine zDf X L.ga ?_|with_reducible refine zDf X L.gn ?_|wp_step))
 refine ja ic.ga.plain PySem.F.entry_bexc_ga (zMA X L b c (zMC X L b c ?_))
 repeat(any_goals (first|assumption|wp_step))
theorem zME {Q:Option ae->ah->Prop}(X:K.In h)(L:XLook K C)(b:h.get? a=some o)(c:o.cls=.ref C)(e:Q (some (.ref C)) ⟨h,g,d,t+1,os⟩) :
  wpAny (model prog w) A (getAttr? (.ref a) "__class__") Q E ⟨h,g,d,t,os⟩:=by
 unfold getAttr? getAttrBy?
 repeat(any_goals (first|assumption|with_reducible apply zMD X L b c|wp_step))
end
theorem zGh {K:aa}{e C:af}(L:XLook K C):PySem.W.KitX K (.ref e) (.ref C) (fun h=>∃a vs,h.get? e=some a/\a.cls=.ref C/\a.data=.fields vs) where
 ty:=fun M h X ⟨a,vs,f,i,o⟩=>by
  intro A Q E s k b
  obtain⟨p,g,d,t,os⟩:=s
  have j:=k _ _ f
  repeat(first|(with_reducible refine cE j ?_;rw[i])|wp_step)
  exact b
 it:=fun M h X _=>by
  obtain⟨r,N,nm,q,bs,hdct,sn,sub,ab,col,dd,k0,k1,k2,k3,k5,mN,l,u,m,T,_⟩:=j7 X L.exc
  intro A Q E s k b
  unfold isType loadHead
  exact aE (mQ (k _ _ l) (bw b))
 ne:=fun h v dd x n F X c=>by
  obtain⟨r,N,nm,q,bs,hdct,sn,sub,ab,col,y,k0,k1,k2,k3,k5,mN,l,u,m,T,_⟩:=j7 X L.exc
  refine Bool.eq_false_iff.mpr fun z=>?_
  have B:C=v:=pJ (beq_iff_eq.mp z)
  subst B
  rw[l]at c
  have D:Value.type "type"=Value.type "tuple" :=congrArg Obj.cls (aq c)
  exact absurd (pH D) (by decide)
 ca:=fun{prog w A E Q s} X ⟨a,vs,f,i,o⟩ b=>by
  obtain⟨p,g,d,t,os⟩:=s
  exact zME X L f i b
section
variable{X:Cx}
theorem zAs:uQ X (.builtin "isinstance") (fun xs H Q=>∃e C c b,xs=[.ref e,c]/\H e=some (XO e C)/\XLook X.K C/\((∃D,c=.ref D/\aS X.K (.ref C) (.ref D)=some b)\/(∃T,c=.ty T/\aS X.K (.ref C) (.type T)=some b))/\Q (.bl b) H):=by
 intro f s σ H xs us Q I r h
 obtain⟨e,C,c,b,rfl,he,L,i,q⟩:=h
 obtain⟨u,l,rfl,j,g⟩:=zAa r
 cases j
 obtain⟨p,_,_⟩:=I.hok e _ he
 rcases i with⟨D,rfl,a⟩|⟨T,rfl,a⟩
 ·cases g
  exact bY (zGh L) I.kIn p a (fun z=>nomatch z) fun d=>⟨.bl b,H,I.tok d,rfl,q⟩
 ·cases g
  exact bY (zGh L) I.kIn p a (fun z=>nomatch z) fun d=>⟨.bl b,H,I.tok d,rfl,q⟩
theorem zGi (a b:Bool):oG (.bool a) (.bool b) (a==b):=fun prog w A E s Q h=>fA a b prog w _ _ h
theorem zGj {bs:List Bool}:∀{us:List ae},zL (bs.map V.bl) us->us=bs.map Value.bool:=by
 induction bs with
 |nil=>intro us r;cases r;rfl
 |cons b bs ih=>
  intro us r
  rw[aF]at r
  cases r with
  |cons a c=>rw[aF,<-ih c,(show _=Value.bool b from a)]
def isB (b:Bool):ae->Bool
 | .bool a=>a==b
 |_=>false
theorem zMF:MtM X "list.count" (fun x vs H Q=>∃(l:af) (bs:List Bool) (b:Bool),x=.ref l/\vs=[.bl b]/\H l=some (.lst (bs.map V.bl))/\Q (.int (bs.count b:Nat)) H):=by
 intro c s σ H x vs v us Q I d f h
 obtain⟨l,bs,b,rfl,rfl,g,q⟩:=h
 cases d
 obtain⟨u,rfl,i⟩:=f.one
 cases i
 obtain⟨z,j,n,r,hl,e⟩:=I.lstM g
 have hi:=zGj r
 subst hi
 refine gh ie ⟨_,e,rfl⟩ PySem.F.entry_list_count (PySem.F.args_list_count_2 _ _) (MeetsSeq.list_count l _ n _ (isB b) (fun y m=>?_)) ⟨e,?_⟩
 ·obtain⟨a,_,rfl⟩:=aM.mp (by simpa using m:y∈bs.map Value.bool)
  exact zGi a b
 ·refine⟨.int (bs.count b:Nat),H,I.tok _,⟨s.toks,?_⟩,q⟩
  have:(bs.map Value.bool).countP (isB b)=bs.count b:=by
   rw[List.countP_map,eu]
   rfl
  simp only[List.toList_toArray,this]
theorem zMG:MtM X "list.index" (fun x vs H Q=>∃(l:af) (bs:List Bool) (b:Bool) (j:Nat),x=.ref l/\vs=[.bl b]/\H l=some (.lst (bs.map V.bl))/\bs[j]?=some b/\(∀i,i<j->bs[i]?≠some b)/\j<1000/\Q (.int (j:Nat)) H):=by
 intro o s σ H x vs v us Q I t w h
 obtain⟨l,bs,b,j,rfl,rfl,A,p,c,J,q⟩:=h
 cases t
 obtain⟨u,rfl,B⟩:=w.one
 cases B
 obtain⟨z,C,n,r,hl,e⟩:=I.lstM A
 have hi:=zGj r
 subst hi
 have d:j<bs.length:=(ag.mp p).1
 refine gh ig ⟨_,e,rfl⟩ PySem.F.entry_list_index (PySem.F.args_list_index_2 _ _) (MeetsSeq.list_index l _ n _ (isB b) (fun y D=>?_) j (by simpa using d) (by omega) ?_ (fun m E f=>?_)) ⟨e,?_⟩
 ·obtain⟨a,_,rfl⟩:=aM.mp (by simpa using D:y∈bs.map Value.bool)
  exact zGi a b
 ·have:=(ag.mp p).2
  simp[isB,this]
 ·have g:m<bs.length:=by simpa using E
  have:=c m f
  rw[aG g]at this
  have G:bs[m]≠b:=fun z=>this (by rw[z])
  simp[isB,G]
 ·exact⟨.int (j:Nat),H,I.tok _,⟨_,rfl⟩,q⟩
end
end L2
end
section
namespace Kn
open PySem L2
mutual
def zM (H:Hp):ba->V->Prop
 | .none,v=>v=.non
 | .bool b,v=>v=.bl b
 | .int i,v=>v=.int i
 | .str x,v=>v=.str x
 | .list ds,v=>∃a xs,v=.ref a/\H a=some (.lst xs)/\Thgs H ds xs
 | .tuple ds,v=>∃a xs,v=.ref a/\H a=some (.tup xs)/\Thgs H ds xs
 | .dict _,_=>False
def Thgs (H:Hp):List ba->List V->Prop
 | [],xs=>xs=[]
 |d::ds,xs=>∃y ys,xs=y::ys/\zM H d y/\Thgs H ds ys
end
mutual
theorem zM.same {H H':Hp}(e:zB H H'):∀(d:ba) (v:V),zM H d v->zM H' d v
 | .none,v,h=>h
 | .bool b,v,h=>h
 | .int i,v,h=>h
 | .str x,v,h=>h
 | .list c,v,h=>by
  obtain⟨a,xs,f,g,j⟩:=h
  exact⟨a,xs,f,e _ _ g,Thgs.same e c xs j⟩
 | .tuple c,v,h=>by
  obtain⟨a,xs,f,g,j⟩:=h
  exact⟨a,xs,f,e _ _ g,Thgs.same e c xs j⟩
 | .dict _,v,h=>h
theorem Thgs.same {H H':Hp}(e:zB H H'):∀(a:List ba) (xs:List V),Thgs H a xs->Thgs H' a xs
 | [],xs,h=>h
 |d::a,xs,h=>by
  obtain⟨y,b,c,f,g⟩:=h
  exact⟨y,b,c,zM.same e d y f,Thgs.same e a b g⟩
end
mutual
theorem zM.rep {K:aa}{H:Hp}:∀(d:ba) (v:V),zM H d v->yN K H d v
 | .none,v,h=>h
 | .bool b,v,h=>h
 | .int i,v,h=>h
 | .str x,v,h=>h
 | .list c,v,h=>by
  obtain⟨a,xs,e,f,g⟩:=h
  exact⟨a,xs,e,.of f,Thgs.reps c xs g⟩
 | .tuple c,v,h=>by
  obtain⟨a,xs,e,f,g⟩:=h
  exact⟨a,xs,e,.of f,Thgs.reps c xs g⟩
 | .dict _,v,h=>h
theorem Thgs.reps {K:aa}{H:Hp}:∀(a:List ba) (xs:List V),Thgs H a xs->Reps K H a xs
 | [],xs,h=>h
 |d::a,xs,h=>by
  obtain⟨y,b,c,e,f⟩:=h
  exact⟨y,b,c,zM.rep d y e,Thgs.reps a b f⟩
end
theorem Thgs.length {H:Hp}:∀{a:List ba}{xs:List V},Thgs H a xs->a.length=xs.length
 | [],xs,h=>by rw[show xs=[]from h];rfl
 |d::a,xs,h=>by
  obtain⟨y,e,b,_,c⟩:=h
  rw[b,aR,aR,Thgs.length c]
theorem Thgs.get {H:Hp}:∀{a:List ba}{xs:List V}{i:Nat}{y:V},Thgs H a xs->xs[i]?=some y->∃d,a[i]?=some d/\zM H d y
 | [],xs,i,y,h,e=>by rw[show xs=[]from h]at e;simp at e
 |d::a,xs,i,y,h,e=>by
  obtain⟨z,l,b,c,f⟩:=h
  subst b
  cases i with
  |zero=>
   have:z=y:=by simpa using e
   subst this
   exact⟨d,rfl,c⟩
  |succ i=>
   obtain⟨d',g,j⟩:=Thgs.get (i:=i) f (by simpa using e)
   exact⟨d',by simpa using g,j⟩
theorem Thgs.strs {H:Hp}:∀(l:List S),Thgs H (l.map fun x=>PyData.str (tx x)) (l.map sv)
 | []=>rfl
 |x::l=>⟨_,_,rfl,rfl,Thgs.strs l⟩
mutual
def sml:ba->Bool
 | .str x=>decide (x.length<=900)&&x.cps.toList.all fun c=>decide (c<128)
 | .list ds=>decide (ds.length<=900)&&smls ds
 | .tuple ds=>decide (ds.length<=900)&&smls ds
 | .dict _=>false
 |_=>true
def smls:List ba->Bool
 | []=>true
 |d::ds=>sml d&&smls ds
end
theorem zGk:∀{a:List ba}{d:ba},smls a=true->d∈a->sml d=true
 |e::a,d,h,b=>by
  have h':sml e=true/\smls a=true:=by simpa [smls]using h
  rcases aJ.mp b with z|z
  ·rw[z];exact h'.1
  ·exact zGk h'.2 z
def zAI (c:Nat):Bool:=decide (97<=c)&&decide (c<=122)
def yL:ba->Bool
 | .str x=>(decide (1<=x.length)&&decide (x.length<=8))&&x.cps.toList.all zAI
 |_=>false
def uU:ba->Bool
 | .tuple ds=>(decide (1<=ds.length)&&decide (ds.length<=8))&&ds.all yL
 |_=>false
def gH:ba->Bool
 | .int i=>decide (1<=i)&&decide (i<=3)
 |_=>false
theorem zAJ {x:S}(h:z3 x):yL (.str (tx x))=true:=by
 simp only[yL,bC,decide_eq_true_eq,c9,zAI,yP,uY]
 exact⟨⟨h.1,h.2.1⟩,h.2.2⟩
theorem Thgs.strs_inv {H:Hp}:∀{l:List S}{xs:List V},Thgs H (l.map fun x=>PyData.str (tx x)) xs->xs=l.map sv
 | [],xs,h=>h
 |x::l,xs,h=>by
  obtain⟨y,e,b,c,d⟩:=h
  have a:y=sv x:=c
  rw[b,a,Thgs.strs_inv d];rfl
structure KitF (K:aa):Prop where
 ns:aS K (.type "NoneType") (.type "str")=some false
 bs:aS K (.type "bool") (.type "str")=some false
 is:aS K (.type "int") (.type "str")=some false
 ls:aS K (.type "list") (.type "str")=some false
 ts:aS K (.type "tuple") (.type "str")=some false
 nt:aS K (.type "NoneType") (.type "tuple")=some false
 bt:aS K (.type "bool") (.type "tuple")=some false
 it:aS K (.type "int") (.type "tuple")=some false
 lt:aS K (.type "list") (.type "tuple")=some false
 st:aS K (.type "str") (.type "tuple")=some false
 ni:aS K (.type "NoneType") (.type "int")=some false
 bi:aS K (.type "bool") (.type "int")=some true
 li:aS K (.type "list") (.type "int")=some false
 ti:aS K (.type "tuple") (.type "int")=some false
 si:aS K (.type "str") (.type "int")=some false
theorem zMH {c:Nat}(h:c<128):(cQ letters ⟨#[c]⟩ 0 letters.length 1).isEmpty=!zAI c:=by
 have all:∀d:_root_.Fin 128,(cQ letters ⟨#[d.val]⟩ 0 letters.length 1).isEmpty=!zAI d.val:=by decide+kernel
 exact all ⟨c,h⟩
section
variable{P:aw}{w:aI}{K:aa}{mg:Str->Option ae}{base:bc}
theorem zMI (KF:KitF K){H:Hp}:∀{d:ba}{v:V},zM H d v->∃t b,TyOf K H v t/\aS K t (.type "str")=some b/\(b=true↔∃x,d=.str x)
 | .none,v,h=>by cases(show v=.non from h);exact⟨_,_,.non,KF.ns,by simp⟩
 | .bool b,v,h=>by cases(show v=.bl b from h);exact⟨_,_,.bl _,KF.bs,by simp⟩
 | .int i,v,h=>by cases(show v=.int i from h);exact⟨_,_,.int _,KF.is,by simp⟩
 | .str x,v,h=>by cases(show v=.str x from h);exact⟨_,true,.str _,rfl,by simp⟩
 | .list e,v,h=>by obtain⟨a,xs,rfl,c,_⟩:=h;exact⟨_,_,.lst c,KF.ls,by simp⟩
 | .tuple e,v,h=>by obtain⟨a,xs,rfl,c,_⟩:=h;exact⟨_,_,.tup c,KF.ts,by simp⟩
 | .dict _,v,h=>h.elim
theorem zMJ (KF:KitF K){H:Hp}:∀{d:ba}{v:V},zM H d v->∃t b,TyOf K H v t/\aS K t (.type "tuple")=some b/\(b=true↔∃c,d=.tuple c)
 | .none,v,h=>by cases(show v=.non from h);exact⟨_,_,.non,KF.nt,by simp⟩
 | .bool b,v,h=>by cases(show v=.bl b from h);exact⟨_,_,.bl _,KF.bt,by simp⟩
 | .int i,v,h=>by cases(show v=.int i from h);exact⟨_,_,.int _,KF.it,by simp⟩
 | .str x,v,h=>by cases(show v=.str x from h);exact⟨_,_,.str _,KF.st,by simp⟩
 | .list c,v,h=>by obtain⟨a,xs,rfl,e,_⟩:=h;exact⟨_,_,.lst e,KF.lt,by simp⟩
 | .tuple c,v,h=>by obtain⟨a,xs,rfl,e,_⟩:=h;exact⟨_,true,.tup e,rfl,by simp⟩
 | .dict _,v,h=>h.elim
def zDg:Sp:=fun vs H Q _=>∃v d,vs=[v]/\zM H d v/\sml d=true/\∀H',zB H H'->Q (.bl (yL d)) H'
theorem zMK {f:af}{fd:ar}(F:Fun K "is_name" "is_name" zBb f fd)(B:Blt mg)(C:Cst K mg)(KF:KitF K):FnOk P w K mg base zS 1 f fd ["thing"] zDg:=by
 obtain⟨W,hl⟩:=C.letters
 obtain⟨X,J⟩:=C.ml
 refine F.ok zFu (fun vs H Q E h=>?_) (fun L A outer s H vs Q E Y h=>?_)
 ·obtain⟨v,d,rfl,_⟩:=h;rfl
 ·obtain⟨v,d,rfl,u,G,k⟩:=h
  refine⟨_,zF (yE (PW.pt (qS (v6 (v5 (z7 kP (by rfl) B.isinstance aQ (zA (pv 0) (zA (jO (v:=.ty "str") (by rfl) B.str iO rfl) zC)))))
    (qR (v6 (zBL qA qA zG (z7 gU (by rfl) B.len b6 (zA (pv 0) zC)) (v4 (v:=.int 8) (by rfl) J ⟨_,rfl⟩))))))
    (zI (zT uC)) yC)
   (zI (zT (z7 (zBV rfl) (by rfl) B.all dF (zA (uL (N:=["letter"]) (caps:=[]) rfl (uM (by kernel_rfl)) (zFd (pv 0))
    (fun cl C s H ex=>yY (i:=0) nd1 rfl (Or.inl rfl)) (fun cl C s H ex=>qF)
    (fun cl C s H ex=>zAZ zEl (pv 0) (v4 (v:=.str letters) (by rfl) hl ⟨_,rfl⟩) (by with_unfolding_all rfl))) zC)))),?_⟩
  obtain⟨t,b,m,g,I⟩:=zMI KF u
  refine⟨_,rfl,_,_,t,b,rfl,m,g,b,rfl,?_⟩
  cases b with
  |false=>
   have hd:yL d=false:=by
    cases d with
    |str x=>exact absurd (I.mpr ⟨x,rfl⟩) (by decide)
    |_=>rfl
   rw[hd]at k
   exact yJ (yJ (k H (zB.refl H)))
  |true=>
   obtain⟨x,rfl⟩:=I.mp rfl
   have n:v=.str x:=u
   subst n
   have o:x.length<=900/\∀c∈x.cps.toList,c<128:=by
    simp only[sml,bC,decide_eq_true_eq,c9]at G
    exact G
   refine yA ?_
   refine⟨_,rfl,x,rfl,(by rw[aP];omega),_,_,rfl,rfl,_,rfl,?_⟩
   by_cases p:1<=x.length
   ·refine vH (by omega) ⟨_,_,rfl,rfl,_,rfl,?_⟩
    by_cases q:x.length<=8
    ·refine kM (by omega) ?_
     refine⟨_,rfl,_,rfl,?_⟩
     have M:x.cps.toList.length=x.length:=by simp[jw]
     refine qH (zFg x) [] 1 (by rw[ai];omega) (fun i a H'=>zB H H'/\a=((x.cps.toList.take i).map zAI).map V.bl) ⟨zB.refl H,rfl⟩ (fun i a H' _ h=>⟨trivial,by rw[h.2,ai,ai,aV];omega⟩) ?_ ?_
     ·rintro i y a H' Z Nx O j R ⟨l,rfl⟩
      obtain⟨y',rfl⟩:=uT R
      rw[az]at j
      cases e:x.cps.toList[i]? with
      |none=>rw[e]at j;cases j
      |some c=>
       rw[e]at j
       have r:y=.str ⟨#[c]⟩:=(aq j).symm
       subst r
       have hi:i<x.cps.toList.length:=(ag.mp e).1
       refine⟨_,rfl,_,_,rfl,rfl,?_⟩
       rw[zMH (o.2 c (aH e)),Bool.not_not]
       refine O _ _ [some (.str ⟨#[c]⟩)] rfl ⟨l,?_⟩
       rw[ax hi,(ag.mp e).2,aL,aL];rfl
     ·rintro a H' ⟨l,rfl⟩ D T
      rw[ai,aX]
      refine⟨D,_,rfl,.of zH,?_⟩
      have U:((x.cps.toList.map zAI).all id)=yL (.str x):=by
       simp only[yL,decide_eq_true p,decide_eq_true q,fz,oh,lH]
       rfl
      rw[U]
      exact k _ (l.upd_new (l.free T))
    ·have hd:yL (.str x)=false:=by simp[yL,q]
     rw[hd]at k
     refine zBn (fun z=>q (by omega)) (k H (zB.refl H))
   ·have hd:yL (.str x)=false:=by simp[yL,p]
    rw[hd]at k
    refine yK (fun z=>p (by omega)) ?_
    exact⟨false,rfl,yJ (k H (zB.refl H))⟩
def zGl:Sp:=fun vs H Q _=>∃v d,vs=[v]/\zM H d v/\sml d=true/\∀H',zB H H'->Q (.bl (uU d)) H'
theorem zML {f:af}{fd:ar}(F:Fun K "is_book" "is_book" zBc f fd)(B:Blt mg)(C:Cst K mg)(KF:KitF K)(l:zW P w K mg base 1 "is_name" ["thing"] zDg):FnOk P w K mg base zS 2 f fd ["thing"] zGl:=by
 obtain⟨t8,R⟩:=C.mn
 refine F.ok zFw (fun vs H Q E h=>?_) (fun T A outer s H vs Q E U h=>?_)
 ·obtain⟨v,d,rfl,_⟩:=h;rfl
 ·obtain⟨v,d,rfl,L,M,k⟩:=h
  refine⟨_,zF (yE (PW.pt (qS (v6 (v5 (z7 kP (by rfl) B.isinstance aQ (zA (pv 0) (zA (jO (v:=.ty "tuple") (by rfl) B.tuple ia rfl) zC)))))
    (qR (v6 (zBL qA qA zG (z7 kK (by rfl) B.len b6 (zA (pv 0) zC)) (v4 (v:=.int 8) (by rfl) R ⟨_,rfl⟩))))))
    (zI (zT uC)) yC)
   (zI (zT (z7 (zBV rfl) (by rfl) B.all dF (zA (uL (N:=["name"]) (caps:=[]) rfl (uM (by kernel_rfl)) (gP (pv 0))
    (fun cl C s H ex=>yY (i:=0) nd2 rfl (Or.inl rfl)) (fun cl C s H ex=>qF)
    (fun cl C s H ex=>zV l U rfl (zA (pv 0) zC))) zC)))),?_⟩
  obtain⟨t,b,p,m,O⟩:=zMJ KF L
  refine⟨_,rfl,_,_,t,b,rfl,p,m,b,rfl,?_⟩
  cases b with
  |false=>
   have hd:uU d=false:=by
    cases d with
    |tuple x=>exact absurd (O.mpr ⟨x,rfl⟩) (by decide)
    |_=>rfl
   rw[hd]at k
   exact yJ (yJ (k H (zB.refl H)))
  |true=>
   obtain⟨c,rfl⟩:=O.mp rfl
   obtain⟨a,xs,rfl,q,n⟩:=L
   have r:c.length<=900/\smls c=true:=by
    simp only[sml,bC,decide_eq_true_eq]at M
    exact M
   have g:xs.length=c.length:=n.length.symm
   refine yA ?_
   refine⟨_,rfl,_,_,rfl,.inr (.of q),_,_,rfl,rfl,_,rfl,?_⟩
   by_cases u:1<=c.length
   ·refine vH (by rw[g];omega) ⟨_,_,rfl,rfl,_,rfl,?_⟩
    by_cases G:c.length<=8
    ·refine kM (by rw[g];omega) ?_
     refine⟨_,rfl,a,rfl,⟨_,.of q⟩,?_⟩
     refine qH (g9 _ a xs) [] 1 (by omega) (fun i j H'=>zB H H'/\j=((c.take i).map yL).map V.bl) ⟨zB.refl H,rfl⟩ (fun i j H' _ h=>⟨.of (h.1 _ _ q),by rw[h.2,ai,ai,aV];omega⟩) ?_ ?_
     ·rintro i y j H' ys Nx W X Y ⟨o,rfl⟩
      obtain⟨y',rfl⟩:=uT Y
      obtain⟨e,he,I⟩:=n.get X
      have hi:i<c.length:=(ag.mp he).1
      refine⟨_,rfl,y,e,rfl,zM.same o _ _ I,zGk r.2 (aH he),fun H5 J=>W _ _ [some y] rfl ⟨o.trans J,?_⟩⟩
      rw[ax hi,(ag.mp he).2,aL,aL];rfl
     ·rintro j H' ⟨o,rfl⟩ D Z
      rw[g,aX]
      refine⟨D,_,rfl,.of zH,?_⟩
      have e2:((c.map yL).all id)=uU (.tuple c):=by
       simp only[uU,decide_eq_true u,decide_eq_true G,fz,oh,lH]
       rfl
      rw[e2]
      exact k _ (o.upd_new (o.free Z))
    ·have hd:uU (.tuple c)=false:=by simp[uU,G]
     rw[hd]at k
     refine zBn (fun z=>G (by rw[g]at z;omega)) (k H (zB.refl H))
   ·have hd:uU (.tuple c)=false:=by simp[uU,u]
    rw[hd]at k
    refine yK (fun z=>u (by rw[g]at z;omega)) ?_
    exact⟨false,rfl,yJ (k H (zB.refl H))⟩
def zAK (a b:Int):ba->Bool
 | .int i=>decide (a<=i)&&decide (i<=b)
 |_=>false
theorem zMM (d:ba):gH d=zAK 1 3 d:=by
 cases d<;>rfl
def zGm:Sp:=fun vs H Q _=>∃v d a b,vs=[v,.int a,.int b]/\zM H d v/\Q (.bl (zAK a b d)) H
theorem zMN {f:af}{fd:ar}(F:Fun K "is_whole" "is_whole" zBd f fd)(B:Blt mg)(C:Cst K mg)(KF:KitF K):FnOk P w K mg base zS 1 f fd ["thing","least","most"] zGm:=by
 refine F.ok zFy (fun vs H Q E h=>?_) (fun j A outer s H vs Q E m h=>?_)
 ·obtain⟨v,d,a,b,rfl,_⟩:=h;rfl
 ·obtain⟨v,d,a,b,rfl,g,k⟩:=h
  refine⟨_,zF (yE (PW.pt (qS (v6 (v5 (z7 kP (by rfl) B.isinstance aQ (zA (pv 0) (zA (jO (v:=.ty "int") (by rfl) B.int fc rfl) zC)))))
    (qR (v5 (z7 kP (by rfl) B.isinstance aQ (zA (pv 0) (zA (jO (v:=.ty "bool") (by rfl) B.bool iz rfl) zC)))))))
    (zI (zT uC)) yC)
   (zI (zT (zEo qA qA (pv 1) (pv 0) (pv 2)))),?_⟩
  cases d with
  |none=>cases(show v=.non from g);exact⟨_,rfl,_,_,_,false,rfl,.non,KF.ni,_,rfl,yJ (yJ k)⟩
  |str x=>cases(show v=.str x from g);exact⟨_,rfl,_,_,_,false,rfl,.str _,KF.si,_,rfl,yJ (yJ k)⟩
  |list l=>obtain⟨a,xs,rfl,c,_⟩:=g;exact⟨_,rfl,_,_,_,false,rfl,.lst c,KF.li,_,rfl,yJ (yJ k)⟩
  |tuple l=>obtain⟨a,xs,rfl,c,_⟩:=g;exact⟨_,rfl,_,_,_,false,rfl,.tup c,KF.ti,_,rfl,yJ (yJ k)⟩
  |dict _=>exact g.elim
  |bool b=>
   cases(show v=.bl b from g)
   exact⟨_,rfl,_,_,_,true,rfl,.bl _,KF.bi,_,rfl,yA ⟨_,rfl,_,_,_,true,rfl,.bl _,(by rfl),_,rfl,yJ k⟩⟩
  |int i=>
   cases(show v=.int i from g)
   refine⟨_,rfl,_,_,_,true,rfl,.int _,(by rfl),_,rfl,?_⟩
   refine yA ?_
   refine⟨_,rfl,_,_,_,false,rfl,.int _,C.ib,_,rfl,?_⟩
   refine yA ?_
   refine⟨_,rfl,_,rfl,_,_,rfl,rfl,_,rfl,?_⟩
   by_cases c:a<=i
   ·refine vH c ⟨_,rfl,_,_,rfl,rfl,?_⟩
    have e:zAK a b (.int i)=decide (i<=b):=by simp[zAK,c]
    rw[e]at k
    exact k
   ·have e:zAK a b (.int i)=false:=by simp[zAK,c]
    rw[e]at k
    exact yK c k
def zGn:Sp:=fun vs H Q _=>∃v d,vs=[v]/\zM H d v/\Q (.bl (gH d)) H
theorem zMO {f:af}{fd:ar}(F:Fun K "is_order" "is_order" zBe f fd)(C:Cst K mg)(a:zW P w K mg base 1 "is_whole" ["thing","least","most"] zGm):FnOk P w K mg base zS 2 f fd ["thing"] zGn:=by
 obtain⟨i,b⟩:=C.mo
 refine F.ok zGA (fun vs H Q E h=>?_) (fun c A outer s H vs Q E e h=>?_)
 ·obtain⟨v,d,rfl,_⟩:=h;rfl
 ·obtain⟨v,d,rfl,g,k⟩:=h
  refine⟨_,zI (zT (zV a e rfl (zA (pv 0) (zA zG (zA (v4 (v:=.int 3) (by rfl) b ⟨_,rfl⟩) zC))))),?_⟩
  rw[zMM]at k
  exact⟨_,rfl,v,d,1,3,rfl,g,k⟩
def u3 (C:af)(ok:ba->Bool):Sp:=fun vs H Q E=>∃v d,vs=[v]/\zM H d v/\sml d=true/\(ok d=true->∀H',zB H H'->Q .non H')/\(ok d=false->∀H',zB H H'->E (.ref C) none H')
theorem zMP {f:af}{fd:ar}{C:af}(F:Fun K "need_book" "need_book" zBg f fd)(O:XCls K mg "NoBook" C)(b:zW P w K mg base 2 "is_book" ["thing"] zGl):FnOk P w K mg base (y7 P w) 3 f fd ["thing"] (u3 C uU):=by
 refine F.okR zGB (fun vs H Q E h=>?_) (fun c A outer s H vs Q E g h ok=>?_)
 ·obtain⟨v,d,rfl,_⟩:=h;rfl
 ·obtain⟨v,d,rfl,i,j,k1,k2⟩:=h
  refine⟨_,zI (yE (v6 (v5 (zV b g rfl (zA (pv 0) zC)))) (zI (zBp ok rfl O (by rfl) (zA yG zC))) yC),?_⟩
  refine⟨_,rfl,v,d,rfl,i,j,fun H' a=>⟨_,rfl,?_⟩⟩
  cases e:uU d with
  |true=>exact yA (k1 e H' a)
  |false=>exact yJ ⟨by show 1<=sizeLine;decide,k2 e H' a⟩
theorem zMQ {f:af}{fd:ar}{C:af}(F:Fun K "need_order" "need_order" zBh f fd)(O:XCls K mg "NoOrder" C)(a:zW P w K mg base 2 "is_order" ["thing"] zGn):FnOk P w K mg base (y7 P w) 3 f fd ["thing"] (u3 C gH):=by
 refine F.okR zGC (fun vs H Q E h=>?_) (fun b A outer s H vs Q E c h ok=>?_)
 ·obtain⟨v,d,rfl,_⟩:=h;rfl
 ·obtain⟨v,d,rfl,g,i,k1,k2⟩:=h
  refine⟨_,zI (yE (v6 (v5 (zV a c rfl (zA (pv 0) zC)))) (zI (zBp ok rfl O (by rfl) (zA yG zC))) yC),?_⟩
  refine⟨_,rfl,v,d,rfl,g,_,rfl,?_⟩
  cases e:gH d with
  |true=>exact yA (k1 e H (zB.refl H))
  |false=>exact yJ ⟨by show 1<=sizeLine;decide,k2 e H (zB.refl H)⟩
theorem zMR {f:af}{fd:ar}{C:af}(F:Fun K "need_name" "need_name" zBi f fd)(O:XCls K mg "NoName" C)(b:zW P w K mg base 1 "is_name" ["thing"] zDg):FnOk P w K mg base (y7 P w) 2 f fd ["thing"] (u3 C yL):=by
 refine F.okR zGD (fun vs H Q E h=>?_) (fun c A outer s H vs Q E g h ok=>?_)
 ·obtain⟨v,d,rfl,_⟩:=h;rfl
 ·obtain⟨v,d,rfl,i,j,k1,k2⟩:=h
  refine⟨_,zI (yE (v6 (v5 (zV b g rfl (zA (pv 0) zC)))) (zI (zBp ok rfl O (by rfl) (zA yG zC))) yC),?_⟩
  refine⟨_,rfl,v,d,rfl,i,j,fun H' a=>⟨_,rfl,?_⟩⟩
  cases e:yL d with
  |true=>exact yA (k1 e H' a)
  |false=>exact yJ ⟨by show 1<=sizeLine;decide,k2 e H' a⟩
end
end Kn
end
section
namespace L2
open PySem PySem.Spec PyProof.Rows
theorem z4.freeze {P:aw}{w:aI}{H:Hp}{h:bc}{a:af}{o:Obj}{kvs:List (zX×V)}(x:z4 P w H h)(e:H a=some (.dK kvs))(g:h.get? a=some o):z4 P w (upd H a (.frz o (.dK kvs))) h:=fun b u d=>by
 by_cases f:b=a
 ·subst f;rw[zH]at d;cases d
  exact⟨g,x b _ e⟩
 ·rw[zJ f]at d
  refine(x b u d).stay (fun c v _ q=>q) (fun c q=>?_) fun c xs q=>?_
  ·rw[zJ (by rintro rfl;rw[e]at q;cases q)];exact q
  ·rw[zJ (by rintro rfl;rw[e]at q;cases q)];exact q
theorem zMS {P:aw}{w:aI}{k:zX}{u:ae}(h:(uH P w).is k u=true):zQ (kV k) u:=by
 rw[zIL]at h
 rcases u6 h with⟨i,t,rfl,rfl⟩|⟨x,t,rfl,rfl⟩
 ·exact⟨_,rfl⟩
 ·exact⟨_,rfl⟩
theorem zGo {α β:Type}{F:α->β->Prop}:∀{c:List α}{d:List β}{i:Nat}{x:α},lN F c d->c[i]?=some x->∃y,d[i]?=some y/\F x y
 | [],_,i,x,_,h=>by simp at h
 |a::l,[],i,x,p,_=>by cases p
 |a::l,b::m,0,x,p,h=>by
  cases p with
  |cons e f=>cases h;exact⟨b,rfl,e⟩
 |a::l,b::m,i+1,x,p,h=>by
  cases p with
  |cons e f=>
   obtain⟨y,g,j⟩:=zGo (i:=i) (x:=x) f (by simpa using h)
   exact⟨y,by simpa using g,j⟩
def Itd (a:af)(o:Obj)(kvs:List (zX×V)):It where
 go:=fun i H=>H a=some (.frz o (.dK kvs))/\i<kvs.length
 yld:=fun i H x H'=>H'=H/\(kvs.map fun p=>kV p.1)[i]?=some x
 stop:=fun i H=>H a=some (.frz o (.dK kvs))/\kvs.length<=i
theorem zMT (a:af)(o:Obj)(kvs:List (zX×V)):Known (Itd a o kvs) (kvs.map fun p=>kV p.1) (fun H=>H a=some (.frz o (.dK kvs))) :=
 ⟨fun i H h hi=>⟨h,by simpa using hi⟩,fun i H x H' h y=>⟨y.1,fun _=>y.2⟩,fun H h=>⟨h,by simp⟩⟩
theorem zMU {P:aw}{w:aI}{K:aa}{tg:bq}(a it:af)(o:Obj)(kvs:List (zX×V))(n ep:Nat)(hn:n=kvs.length)(B:∃M,o.data=.dict M ep):Turn P w K tg (Itd a o kvs) [it] it (fun i h=>h.IsKeyIter it a i n ep) where
 mem:=by simp
 obj:=fun i h st b r=>by
  have e:b=it:=by simpa using r
  subst e
  obtain⟨o,e,c,d⟩:=st
  exact⟨o,e,fun v z=>by rw[d]at z;cases z⟩
 keep:=fun i h h' st k=>st.at fun o e=>k it (by simp) o e
 item:=by
  intro X N O R hc i m s σ H E I J st T
  subst N O R
  obtain⟨g,hi⟩:=T
  obtain⟨z,hS,vs,rel,dd⟩:=qY I.hok (.inr ⟨o,g⟩)
  obtain⟨j,_⟩:=(show s.heap.get? a=some o/\_ from I.hok a _ g)
  obtain⟨t,l⟩:=dd.dictAt
  have u:t=ep:=by
   obtain⟨o',M,C,_,U,_⟩:=id l
   obtain⟨W,D⟩:=B
   rw[j]at C;cases C
   rw[U]at D;injection D
  subst u
  have f:vs.length=n:=by rw[hn];exact(d6 rel).symm
  rw[<-f]at st
  obtain⟨Y,f1,f2,Z,f4,f5⟩:=J it (by simp)
  obtain⟨q,L⟩:∃q,vs[i]?=some q:=⟨_,aG (by omega)⟩
  obtain⟨k,v⟩:=q
  refine wpAny_pyNext_dict_item st l L fun key h' F x sb=>?_
  have I1:Inv X m σ H {s with heap:=h'}:=I.turned (t':=s.toks) (fun b o r e=>(sb.2 b r).trans e) Y f1 Z f4 f5
  obtain⟨oi,e,c,d⟩:=id x
  rw[f]at x
  obtain⟨p,hp,e1,e2⟩:∃p,kvs[i]?=some p/\p.1=k/\zQ p.2 v:=by
   have G:i<kvs.length:=hi
   obtain⟨y,hy,hr⟩:=zGo rel (aG G)
   rw[L]at hy;cases hy
   exact⟨_,aG G,hr.1,hr.2⟩
  refine⟨key,rfl,zAW (s:={s with heap:=h'}) e c d (by decide) ⟨kV k,H,I1,zMS F,⟨rfl,?_⟩,x,fun b r=>(J b r).1⟩⟩
  rw[az,hp,<-e1];rfl
 done:=by
  intro X N O R hc i m s σ H E I J st T
  subst N O R
  obtain⟨g,hi⟩:=T
  obtain⟨z,hS,vs,rel,dd⟩:=qY I.hok (.inr ⟨o,g⟩)
  obtain⟨j,_⟩:=(show s.heap.get? a=some o/\_ from I.hok a _ g)
  obtain⟨t,l⟩:=dd.dictAt
  have u:t=ep:=by
   obtain⟨o',M,C,_,U,_⟩:=id l
   obtain⟨W,D⟩:=B
   rw[j]at C;cases C
   rw[U]at D;injection D
  subst u
  have f:vs.length=n:=by rw[hn];exact(d6 rel).symm
  rw[<-f]at st
  obtain⟨Y,f1,f2,Z,f4,f5⟩:=J it (by simp)
  refine wpAny_pyNext_dict_end (I.ok.hd hc) st l (by rw[List.getElem?_eq_none];omega) fun h' he=>⟨rfl,?_⟩
  exact I.turned (t':=s.toks) (fun b o r e=>he b o r e) Y f1 Z f4 f5
 self:=fun A i s Q E st L=>wpAny_pyIter_keyiter st L
section
variable{X:Cx}{pins:List (af×Obj)}{σ:St}{H:Hp}{s:ah}{tg:bq}
theorem Inv.freeze {a:af}{o:Obj}{kvs:List (zX×V)}(I:Inv X pins σ H s)(e:H a=some (.dK kvs))(g:s.heap.get? a=some o):Inv X pins σ (upd H a (.frz o (.dK kvs))) s:=by
 have ne:∀{b:af} {u:Option HO},H b=u->u≠some (.dK kvs)->b≠a:=fun{b u} q n z=>n (by rw[<-q,z,e])
 refine⟨I.ok,I.os,I.bare,⟨I.base.keep,I.base.slot,fun b d q n h=>?_,I.base.there,fun b xs q=>?_,fun b d u q=>?_,fun b i q=>?_⟩,I.loc,I.cell,?_,fun x c q=>?_,fun p q=>?_,I.hok.freeze e g,I.len⟩
 ·have:=I.base.free b d q n h
  rw[zJ (ne this (by simp))];exact this
 ·have:=I.base.tups b xs q
  rw[zJ (ne this (by simp))];exact this
 ·have:=I.base.frzs b d u q
  rw[zJ (ne this (by simp))];exact this
 ·obtain⟨m,z⟩:=I.base.tbls b i q
  exact⟨m,by rw[zJ (ne z (by simp))];exact z⟩
 ·have:=I.free
  rw[zJ (ne this (by simp))];exact this
 ·have:=I.freeC x c q
  rw[zJ (ne this (by simp))];exact this
 ·obtain⟨j,f,l⟩:=I.pin p q
  exact⟨j,by rw[zJ (ne f (by simp))];exact f,l⟩
def zGp (tl:TE):TI:=fun σ H R=>tl σ H fun x H1=>∃a kvs,x=.ref a/\H1 a=some (.dK kvs)/\∀o,R (Itd a o kvs) (upd H1 a (.frz o (.dK kvs)))
theorem zMV {l:bq}{m:TE}(hl:PE X l m):PI X tg l (zGp m):=by
 intro pins s σ H R I h
 refine zK (hl pins s σ H _ I h) fun v c ⟨x,n,f,p,r⟩=>?_
 obtain⟨a,kvs,e,g,q⟩:=r
 subst e
 cases p
 obtain⟨z,t,vs,rel,dd⟩:=k9 f.hok g
 obtain⟨ep,d⟩:=dd.dictAt
 obtain⟨o,u,i,_,j,_⟩:=id d
 refine wpAny_pyIter_dict t d ?_
 have w:=(f.freeze g i).kept (t':=c.toks) (h':=c.heap.push {cls:=.type "dict_keyiterator",data:=.fields #[.ref a,.int 0 0,.int vs.length 0,.int ep 0]}) fun b o e=>ao _ e
 refine⟨c.heap.objs.size,[c.heap.objs.size],_,_,upd n a (.frz o (.dK kvs)),rfl,w,zMU a _ o kvs vs.length ep (d6 rel).symm ⟨u,j⟩,⟨_,aZ _ rfl,rfl,rfl⟩,fun b y=>?_,q o⟩
 have e:b=c.heap.objs.size:=by simpa using y
 subst e
 exact(f.freeze g i).fpOk (ay _) ((f.freeze g i).hok.fresh (ay _))
theorem z4.thaw {P:aw}{w:aI}{H:Hp}{h:bc}{a:af}{o:Obj}{kvs:List (zX×V)}(x:z4 P w H h)(e:H a=some (.frz o (.dK kvs))):z4 P w (upd H a (.dK kvs)) h:=fun b u d=>by
 by_cases f:b=a
 ·subst f;rw[zH]at d;cases d
  exact(show h.get? b=some o/\yT P w H h b (.dK kvs)from x b _ e).2
 ·rw[zJ f]at d
  refine(x b u d).stay (fun c v _ q=>q) (fun c q=>?_) fun c xs q=>?_
  ·rw[zJ (by rintro rfl;rw[e]at q;cases q)];exact q
  ·rw[zJ (by rintro rfl;rw[e]at q;cases q)];exact q
theorem Inv.thaw {a:af}{o:Obj}{kvs:List (zX×V)}{pins':List (af×Obj)}{g:St}{H':Hp}{s':ah}(I:Inv X pins σ H s)(h:Inv X pins' g H' s')(i:H' a=some (.dK kvs))(e:H a=some (.frz o (.dK kvs))):Inv X pins σ (upd H a (.dK kvs)) s:=by
 have ne:∀{b:af} {u:Option HO},H b=u->u≠some (.frz o (.dK kvs))->b≠a:=fun{b u} q n z=>n (by rw[<-q,z,e])
 refine⟨I.ok,I.os,I.bare,⟨I.base.keep,I.base.slot,fun b d q n j=>?_,I.base.there,fun b xs q=>?_,fun b d u q=>?_,fun b l q=>?_⟩,I.loc,I.cell,?_,fun x c q=>?_,fun p q=>?_,I.hok.thaw e,I.len⟩
 ·have:=I.base.free b d q n j
  rw[zJ (ne this (by simp))];exact this
 ·have:=I.base.tups b xs q
  rw[zJ (ne this (by simp))];exact this
 ·have:=I.base.frzs b d u q
  rw[zJ (by rintro rfl;have:=h.base.frzs _ d u q;rw[i]at this;cases this)];exact this
 ·obtain⟨m,z⟩:=I.base.tbls b l q
  exact⟨m,by rw[zJ (ne z (by simp))];exact z⟩
 ·have:=I.free
  rw[zJ (ne this (by simp))];exact this
 ·have:=I.freeC x c q
  rw[zJ (ne this (by simp))];exact this
 ·obtain⟨r,f,t⟩:=I.pin p q
  exact⟨r,by rw[zJ (ne f (by simp))];exact f,t⟩
def zGq (t:TE):TE:=fun σ H Q=>∃a kvs,H a=some (.dK kvs)/\t σ H fun y H'=>∃o,H' a=some (.frz o (.dK kvs))/\Q y (upd H' a (.dK kvs))
theorem zMW {e:bq}{t:TE}(he:PE X e t):PE X e (zGq t):=by
 intro pins s σ H Q I h
 obtain⟨a,kvs,b,h⟩:=h
 exact zK (he pins s σ H _ I h) fun u f ⟨y,H',c,r,o,d,q⟩=>⟨y,_,c.thaw I b d,r,q⟩
end
open AutoSeq1 (wpAny_loadPart')
theorem Room.units65 {k:Nat}{A:bB}(r:Room k A):A.units+65<cLine:=by have:=r.un;omega
open PySem.AutoSeq1 (wpAny_loadPart')
open PySem.MeetsSeq PySem.MeetsSeq2 PySem.MeetsSeq3 PySem.SeqAt
section
open MyS PySem.W
variable{prog:aw}{w:aI}{A:bB}{E:ae->ah->Prop}{s:ah}
end
section
open MyS PySem.W
variable{prog:aw}{w:aI}{A:bB}{E:ae->ah->Prop}{s:ah}
end
section
open MyS PySem.W
variable{prog:aw}{w:aI}{A:bB}{E:ae->ah->Prop}{s:ah}
end
section
variable{X:Cx}
theorem zDh:z9 X (binaryOp .Add) (fun x y H Q=>∃a b xs d,x=.ref a/\y=.ref b/\H a=some (.tup xs)/\H b=some (.tup d)/\xs.length+d.length<=sizeLine/\∀p H',zB H H'->H' p=some (.tup (xs++d))->Q (.ref p) H'):=by
 intro c s σ H x y v u Q I g i h
 obtain⟨a,b,xs,d,rfl,rfl,e,f,l,q⟩:=h
 by_cases j:xs=[]
 ·subst j
  exact zFf c s σ H _ _ v u Q I g i ⟨a,b,d,rfl,rfl,.of e,.of f,q b H (zB.refl H) f⟩
 ·refine zFB c s σ H _ _ v u Q I g i ⟨a,b,xs,d,rfl,rfl,.of e,.of f,j,l,fun m=>q a H (zB.refl H) (by rw[m,iG];exact e),fun _ p n=>q p _ (zB.upd1 n) zH⟩
end
def zMX (i j:Int):Prop:=0<j/\j<1606938044258990275541962092341162602522202993782792835301376
theorem zBq {X:Cx}:z9 X (binaryOp .FloorDiv) (rI zMX fun i j=>.int (i/j)):=opI fun i j _ _ _ _ _ hc q=>by
 have h1:(0:Int)<j:=hc.1
 have h2:j<1606938044258990275541962092341162602522202993782792835301376:=hc.2
 have h3 : j.natAbs.log2<200 :=(Nat.log2_lt (by omega)).mpr (by have e : 2^200=1606938044258990275541962092341162602522202993782792835301376 :=by decide
                                                                rw[e];omega)
 exact floordiv_int (by omega) (by rw[f9 i (by omega)];exact q) (.inl (PyProof.noPylong_of_log2 (by omega)))
end L2
end
section
namespace Kn
theorem zGr (t l:S)(o:Nat):yB (yB t o++l) o=yB (t++l) o:=by
 unfold yB
 rw[aj,aj,fm]
 by_cases h:t.length<=o
 ·rw[show t.length-o=0 by omega,gj,lj]
 ·rw[me,me,List.drop_drop,fm]
  congr 1
  ·congr 1;omega
  ·congr 1;omega
def pp (o:Nat)(t:S):List (S×S):=(cb t.length).map fun p=>(yB (t.take p) o,(t.drop p).take 1)
theorem zMY (o:Nat)(t:S)(c:Nat):pp o (t++[c])=pp o t++[(yB t o,[c])]:=by
 unfold pp
 rw[aj,dj,fJ,aL]
 congr 1
 ·refine cc fun p a=>?_
  have b:p<t.length:=cK.mp a
  rw[fF (by omega),List.drop_append_of_le_length (by omega)]
  congr 1
  have:1<=(t.drop p).length:=by rw[fm];omega
  rw[fF this]
 ·simp
theorem zMZ {o:Nat}{nm e:S}{c:Nat}(h:(e,[c])∈z0 o nm):∃l,(yB (e++[c]) o,l)∈z0 o nm:=by
 unfold z0 at h
 obtain⟨p,d,b⟩:=aM.mp h
 have f:p<nm.length+1:=cK.mp d
 have g:yB (nm.take p) o=e:=congrArg oU b
 have a:(nm.drop p).take 1=[c]:=congrArg lF b
 have hl:p<nm.length:=by
  by_cases h:p<nm.length
  ·exact h
  ·rw[eX (by omega)]at a;cases a
 have i:nm.take (p+1)=nm.take p++[c]:=by
  rw[<-a,<-List.take_add]
 refine⟨(nm.drop (p+1)).take 1,?_⟩
 rw[<-g,zGr,<-i]
 exact aM.mpr ⟨p+1,cK.mpr (by omega),rfl⟩
theorem zMa {o:Nat}{bk:List S}{e:S}{c:Nat}(h:(e,[c])∈zU o bk):∃l,(yB (e++[c]) o,l)∈zU o bk:=by
 obtain⟨nm,a,b⟩:=dU.mp h
 obtain⟨l,hl⟩:=zMZ b
 exact⟨l,dU.mpr ⟨nm,a,hl⟩⟩
theorem zGs {α:Type} [DecidableEq α]:∀(l L:List α),l.Nodup->(∀x∈l,x∈L)->l.length<=L.length
 | [],L,_,_=>bJ _
 |x::l,L,b,c=>by
  have d:=c x (av ..)
  have f:=zGs l (L.erase x) (bZ.mp b).2 fun y e=>by
   have a:y≠x:=fun z=>(bZ.mp b).1 (by rw[<-z];exact e)
   exact(List.mem_erase_of_ne a).mpr (c y (au _ e))
  rw[List.length_erase_of_mem d]at f
  have g:0<L.length:=List.length_pos_of_mem d
  rw[aR];omega
theorem zMb {t:S}(h:t≠[]):∃u c,t=u++[c]:=by
 rcases List.eq_nil_or_concat t with z|⟨u,c,z⟩
 ·exact absurd z h
 ·exact⟨u,c,by simpa using z⟩
def Go (ps:List (S×S))(o:Nat)(t:S):Prop:=∀q∈pp o t,q∈ps
instance (ps:List (S×S)) (o:Nat) (t:S):Decidable (Go ps o t):=by unfold Go;infer_instance
theorem zMc {a:List (S×S)}{o:Nat}{t:S}{c:Nat}:Go a o (t++[c])↔Go a o t/\(yB t o,[c])∈a:=by
 unfold Go
 rw[zMY]
 constructor
 ·intro h
  exact⟨fun q b=>h q (b8 _ b),h _ (bb _ (eM _))⟩
 ·rintro⟨d,e⟩ q b
  rcases bG.mp b with z|z
  ·exact d q z
  ·have:q=(yB t o,[c]):=by simpa using z
   rw[this];exact e
theorem zMd {o:Nat}{bk:List S}(a:bk≠[]){t:S}(h:Go (zU o bk) o t):∃l,(yB t o,l)∈zU o bk:=by
 by_cases e:t=[]
 ·subst e
  match bk,a with
  |nm::r,_=>
   obtain⟨f,b⟩:=zKz o nm
   refine⟨nm.take 1,dU.mpr ⟨nm,av ..,?_⟩⟩
   rw[b]
   have:yB [] o=[]:=by simp[yB]
   rw[this];exact av ..
 ·obtain⟨u,c,rfl⟩:=zMb e
  obtain⟨_,d⟩:=zMc.mp h
  obtain⟨l,hl⟩:=zMa d
  rw[zGr]at hl
  exact⟨l,hl⟩
abbrev St2:=(S×Bool)×S
theorem zGt {κ α:Type} [DecidableEq κ] {l:List (κ×α)}{k:κ}{v:α}(nd:(l.map (·.1)).Nodup)(q:κ×α):q∈zO l k v↔q=(k,v)\/q∈l/\q.1≠k:=by
 obtain⟨a,b⟩:=q
 rw[v9 (zAA nd),jA,v9 nd]
 by_cases e:k=a
 ·subst e
  rw[if_pos rfl]
  constructor
  ·intro h;exact .inl (by rw[aq h])
  ·rintro(h|⟨_,h⟩)
   ·rw[(bU h).2]
   ·exact absurd rfl h
 ·rw[if_neg e]
  constructor
  ·intro h;exact .inr ⟨h,fun z=>e z.symm⟩
  ·rintro(h|⟨h,_⟩)
   ·exact absurd (bU h).1.symm e
   ·exact h
structure Fst (ps1 ps2:List (S×S)) (o n:Nat) (F:List St2):Prop where
 nd:(F.map (·.1)).Nodup
 snd:∀p∈F,p.2.length=n/\Go ps2 o p.2/\p.1=(yB p.2 o,decide (Go ps1 o p.2))
 all:∀t,t.length=n->Go ps2 o t->∃u,((yB t o,decide (Go ps1 o t)),u)∈F/\¬t<u
end Kn
end
section
namespace Kn
open PySem L2
theorem zMe {a:List (S×S)}{F:List St2}(nd:(F.map (·.1)).Nodup)(h:∀p∈F,∃l,(p.1.1,l)∈a):F.length<=2*a.length:=by
 have:=zGs (F.map (·.1)) ((a.map (·.1)).map (·,true)++(a.map (·.1)).map (·,false)) nd fun k c=>by
  obtain⟨p,d,rfl⟩:=aM.mp c
  obtain⟨l,hl⟩:=h p d
  have b:p.1.1∈a.map (·.1):=aM.mpr ⟨_,hl,rfl⟩
  cases e:p.1.2 with
  |true=>exact b8 _ (aM.mpr ⟨_,b,pI rfl e.symm⟩)
  |false=>exact bb _ (aM.mpr ⟨_,b,pI rfl e.symm⟩)
 simp at this
 omega
theorem Fst.rows {o:Nat}{a:List (S×S)}{bk:List S}{n:Nat}{F:List St2}(h:Fst a (zU o bk) o n F)(b:bk≠[]){p:St2}(c:p∈F):∃l,(p.1.1,l)∈zU o bk:=by
 obtain⟨_,d,e⟩:=h.snd p c
 rw[e]
 exact zMd b d
theorem Fst.few {o:Nat}{a:List (S×S)}{bk:List S}{n:Nat}{F:List St2}(h:Fst a (zU o bk) o n F)(b:Bk bk o):F.length<1000:=by
 have c:=zMe h.nd fun p d=>h.rows (fun z=>by have:=b.lo;rw[z]at this;cases this) d
 have e:((zU o bk).length:Int)<=72:=by
  rw[zAj]
  have go:∀l:List S,(∀x∈l,x.length<=8)->(l.map fun x=>(x.length:Int)+1).sum<=9*(l.length:Int):=by
   intro l
   induction l with
   |nil=>intro _;simp
   |cons x r ih=>
    intro hl
    have c:=hl x (av ..)
    have e:=ih fun y f=>hl y (au _ f)
    rw[aF,ck,aR]
    have:((r.length+1:Nat):Int)=(r.length:Int)+1:=rfl
    omega
  have:=go bk b.l8
  have:=b.hi
  omega
 omega
theorem uN.row {H:Hp}{d:af}{a:List (S×S)}(h:uN H d a){e l:S}(hl:(e,l)∈a):∃(kvs:List (zX×V)) (b:af),H d=some (.dK kvs)/\yI kvs (Sum.inr (tx e))=some (.ref b)/\H b=some (.dK (yQ (vM a e))):=by
 obtain⟨kvs,f,g⟩:=h.get e
 rcases g with⟨_,c⟩|⟨b,c,i⟩
 ·exfalso
  have:=(zDL a e l (a.count (e,l):Int)).mpr ⟨rfl,by have:=eA.mpr hl;omega⟩
  rw[c]at this;cases this
 ·exact⟨kvs,b,f,c,i⟩
def zGu (H H':Hp):Prop:=∀b u,H b=some u->Rd H' b u
theorem zGu.frz {H:Hp}{a:af}{o:Obj}{u:HO}(h:H a=some u):zGu H (upd H a (.frz o u)):=fun b v e=>by
 by_cases c:b=a
 ·subst c
  rw[h]at e
  cases e
  exact .inr ⟨o,zH⟩
 ·exact .inl (by rw[zJ c];exact e)
end Kn
end
section
namespace L2
open PySem PySem.Spec PyProof.Rows
section
open MyS PySem.W
variable{X:Cx}
end
end L2
end
section
namespace Kn
open PySem L2
section
variable{P:aw}{w:aI}{K:aa}{mg:Str->Option ae}{base:bc}
theorem uN.keys {H:Hp}{d:af}{a:List (S×S)}(R:uN H d a):∃b:List (S×af×List (S×Int)),H d=some (.dK (vE (fun v:af×List (S×Int)=>V.ref v.1) b))/\(b.map (·.1)).Nodup/\b.length<=a.length/\∀e,e∈b.map (·.1)↔∃l,(e,l)∈a:=by
 obtain⟨b,c,f,i⟩:=R
 have j:b.map (·.1)=(uE a).map (·.1):=by rw[<-c,aY];rfl
 refine⟨b,f,by rw[j];exact(jZ a).nd,?_,fun e=>?_⟩
 ·have m:=(zBk a).1
  rw[<-c,ai]at m
  exact m
 ·rw[j,<- (jZ a).has e]
  constructor
  ·intro h
   cases g:zE (uE a) e with
   |none=>exact absurd h (gC.mp g)
   |some r=>exact⟨r,rfl⟩
  ·rintro⟨r,g⟩
   exact aM.mpr ⟨_,(v9 (jZ a).nd e r).mpr g,rfl⟩
theorem uN.has {H:Hp}{d:af}{a:List (S×S)}(R:uN H d a)(e:S):∃o,vD H d (sv e) o/\(o.isSome=true↔∃l,(e,l)∈a):=by
 obtain⟨b,c,f,_,h⟩:=R.keys
 refine⟨_,vD.k (k:=Sum.inr (tx e)) c,?_⟩
 rw[uZ,<-h e]
 cases g:zE b e with
 |none=>simp[gC.mp g]
 |some v=>simp;exact⟨v.1,v.2,(v9 f e v).mpr g⟩
end
end Kn
end
section
namespace L2
open PySem PySem.Spec PyProof.Rows
theorem FnOk.calm {P:aw}{w:aI}{K:aa}{mg:Str->Option ae}{base:bc}{k:Nat}{f:af}{fd:ar}{b:List Str}{sp a:Sp}(F:FnOk P w K mg base (y7 P w) k f fd b sp)
  (h:∀vs H Q E,a vs H Q E->sp vs H Q (fun _ _ _=>False)):FnOk P w K mg base zS k f fd b a:=by
 refine⟨fun vs H Q E q=>F.len vs H Q _ (h _ _ _ _ q),fun A outer s H args us vs Q E d he g i j=>?_⟩
 refine dS (F.run A outer s H args us vs Q (fun _ _ _=>False) d he g i (h _ _ _ _ j)) fun res s' c=>?_
 cases res with
 |error e=>
  obtain⟨_,_,_,_,_,_,_,z⟩:=c
  exact z.elim
 |ok l=>cases l<;>exact c
end L2
end
section
namespace Kn.Ln
open PySem L2 Kn
section
variable{P:aw}{w:aI}{K:aa}{mg:Str->Option ae}{base:bc}
theorem uO.calm {k:Nat}{x:Str}{b:List Str}{sp a:Sp}(C:uO P w K mg base k x b sp)(h:∀vs H Q E,a vs H Q E->sp vs H Q (fun _ _ _=>False)):zW P w K mg base k x b a :=
 let⟨f,fd,F,r⟩:=C
 ⟨f,fd,F.calm h,r⟩
end
end Kn.Ln
end
section
namespace L2
open PySem PySem.Spec PyProof.Rows
def zAL (i:Int):Prop:=0<=i/\i<1606938044258990275541962092341162602522202993782792835301376
theorem zAL.bits {i:Int}(h:zAL i):jk i<=2^20:=by
 unfold jk
 split
 ·exact bJ _
 ·rename_i hz
  have hz':¬i=0:=fun z=>hz (by rw[z];rfl)
  have h0:=h.1
  have h1:=h.2
  have h3 : i.natAbs.log2<200 :=(Nat.log2_lt (by omega)).mpr (by have e : 2^200=1606938044258990275541962092341162602522202993782792835301376 :=by decide
                                                                 rw[e];omega)
  have e2:2^20=1048576:=by decide
  omega
theorem zBr {X:Cx}:z9 X (binaryOp .Mult) (rI (fun i j=>zAL i/\zAL j) fun i j=>.int (i*j)):=opI fun _ _ _ _ _ _ _ a q=>mul_int q (IntMulOk.of_bits a.1.bits a.2.bits)
end L2
end
section
namespace Kn
open PySem L2
section
variable{P:aw}{w:aI}{K:aa}{mg:Str->Option ae}{base:bc}
def zGv:Sp:=fun vs H Q _=>∃u d:Int,vs=[.int u,.int d]/\0<=u/\0<d/\d<1606938044258990275541962092341162602522202993782792835301376/\Q (.int (vI u d)) H
def zAt:Sp:=fun vs H Q _=>∃u d:Int,vs=[.int u,.int d]/\0<=u/\0<d/\d<1606938044258990275541962092341162602522202993782792835301376/\∀p,H p=none->Q (.ref p) (upd H p (frO (low u d)))
theorem zMf {f:af}{fd:ar}(F:Fun K "greatest_divisor" "greatest_divisor" zDG f fd):FnOk P w K mg base zS 1 f fd ["one","other"] zGv:=by
 refine F.ok zGK (fun vs H Q E h=>?_) (fun y A outer s H vs Q E I h=>?_)
 ·obtain⟨a,b,rfl,_⟩:=h;rfl
 ·obtain⟨u,d,rfl,j,l,n,k⟩:=h
  have nd:=zGK.nd
  refine⟨_,zF (zEZ bO (yM zBJ (pv 1) zG (yZ _))
    (zF (zZ (i:=2) nd rfl (Or.inl rfl) (zR jT (pv 0) (pv 1))) (zF (zZ (i:=0) nd rfl (Or.inl rfl) (pv 1)) (zI (zZ (i:=1) nd rfl (Or.inl rfl) (pv 2))))))
   (zI (zT (pv 0))),?_⟩
  refine⟨fun m σ H'=>H'=H/\∃(a b:Int) (r:Option V),σ=[some (.int a),some (.int b),r]/\m=b.toNat/\0<=a/\0<=b/\b<1606938044258990275541962092341162602522202993782792835301376/\el a b=el u d,⟨_,rfl,u,d,none,rfl,rfl,j,bW l,n,rfl⟩,?_⟩
  rintro m σ H' ⟨rfl,a,b,r,rfl,rfl,q,B,C,t⟩
  refine⟨_,rfl,rfl,_,rfl,?_⟩
  by_cases o:b=0
  ·subst o
   refine kM rfl ⟨_,rfl,?_⟩
   have e:a=vI u d:=by
    unfold vI
    rw[<-t]
    obtain⟨x,rfl⟩:=b5 q
    simp
   show Q (.int a) H'
   rw[e]
   exact k
  ·have c:0<b:=by omega
   have p:¬(V.int b=V.int 0):=fun z=>o (V.int.inj z)
   have D:(!decide (V.int b=V.int 0))=true:=by rw[decide_eq_false p];rfl
   show if(!decide (V.int b=V.int 0))=true then _ else _
   rw[if_pos D]
   refine⟨fun v g=>g=H'/\v=[some (.int b),some (.int (a%b)),some (.int (a%b))],?_,?_⟩
   ·rintro v g ⟨rfl,rfl⟩
    have G:=fL a o
    have J:=eF a c
    exact⟨(a%b).toNat,by omega,rfl,b,a%b,_,rfl,rfl,B,G,by omega,by rw[zGJ q c];exact t⟩
   ·exact⟨_,rfl,_,rfl,_,_,rfl,rfl,c,_,rfl,_,rfl,rfl,rfl⟩
theorem zMg {f:af}{fd:ar}(F:Fun K "lowest" "lowest" zDH f fd)(j:zW P w K mg base 1 "greatest_divisor" ["one","other"] zGv):FnOk P w K mg base zS 2 f fd ["up","down"] zAt:=by
 refine F.ok zGM (fun vs H Q E h=>?_) (fun l A outer s H vs Q E m h=>?_)
 ·obtain⟨a,b,rfl,_⟩:=h;rfl
 ·obtain⟨u,d,rfl,e,c,g,k⟩:=h
  have nd:=zGM.nd
  refine⟨_,zF (zZ (i:=2) nd rfl (Or.inl rfl) (zV j m rfl (zA (pv 0) (zA (pv 1) zC))))
   (zI (zT (y6 (zA (zR zBq (pv 0) (pv 2)) (zA (zR zBq (pv 1) (pv 2)) zC))))),?_⟩
  have g1:=zBZ (u:=u) c
  have g2:vI u d<=d:=om c (eV ..)
  refine⟨_,rfl,_,rfl,u,d,rfl,e,c,g,?_⟩
  exact⟨_,rfl,_,rfl,_,_,rfl,rfl,⟨g1,by omega⟩,_,rfl,_,rfl,_,_,rfl,rfl,⟨g1,by omega⟩,by show 2<=sizeLine;decide,k⟩
structure Vx (q:Int×Int):Prop extends Fq q where
 u1:q.1<1267650600228229401496703205376
 d1:q.2<1267650600228229401496703205376
theorem Sm.vx {q:Int×Int}(h:Sm q):Vx q:=⟨h.toFq,by have:=h.u1;omega,by have:=h.d1;omega⟩
theorem Vx.prod {p q:Int×Int}(a:Vx p)(b:Vx q):p.2*q.2<1606938044258990275541962092341162602522202993782792835301376:=by
 have c:p.2*q.2<1267650600228229401496703205376*1267650600228229401496703205376:=Int.lt_of_lt_of_le (c7 a.d1 b.dn) (Int.mul_le_mul_of_nonneg_left (bW b.d1) (by decide))
 have e:(1267650600228229401496703205376:Int)*1267650600228229401496703205376=1606938044258990275541962092341162602522202993782792835301376:=by decide
 rw[e]at c;exact c
theorem Vx.bu {p:Int×Int}(a:Vx p):zAL p.1:=⟨a.up,by have:=a.u1;omega⟩
theorem Vx.bd {p:Int×Int}(a:Vx p):zAL p.2:=⟨bW a.dn,by have:=a.d1;omega⟩
def zGw (K:aa):Sp:=fun vs H Q _=>∃(x y:V) (p q:Int×Int),vs=[x,y]/\yR K H x p/\yR K H y q/\Vx p/\Vx q/\∀a,H a=none->Q (.ref a) (upd H a (frO (uX p q)))
def zDi (K:aa):Sp:=fun vs H Q _=>∃(x y:V) (p q:Int×Int),vs=[x,y]/\yR K H x p/\yR K H y q/\Vx p/\Vx q/\Q (.bl (yO p q)) H
theorem zMh {f:af}{fd:ar}(F:Fun K "times" "times" zDI f fd)(g:zW P w K mg base 2 "lowest" ["up","down"] zAt):FnOk P w K mg base zS 3 f fd ["one","other"] (zGw K):=by
 refine F.ok zLR (fun vs H Q E h=>?_) (fun i A outer s H vs Q E j h=>?_)
 ·obtain⟨x,y,p,q,rfl,_⟩:=h;rfl
 ·obtain⟨x,y,p,q,rfl,⟨a,rfl,d⟩,⟨b,rfl,e⟩,sp,c,k⟩:=h
  refine⟨_,zI (zT (zV g j rfl (zA (zR zBr (vG vW (pv 0) zG (fun _ _=>rfl)) (vG vW (pv 1) zG (fun _ _=>rfl)))
   (zA (zR zBr (vG vW (pv 0) zG (fun _ _=>rfl)) (vG vW (pv 1) zG (fun _ _=>rfl))) zC)))),?_⟩
  have l:=sp.up;have m:=c.up;have n:=sp.dn;have o:=c.dn
  refine⟨_,rfl,a,_,0,_,rfl,rfl,d,rfl,_,rfl,b,_,0,_,rfl,rfl,e,rfl,_,_,rfl,rfl,⟨sp.bu,c.bu⟩,?_⟩
  refine⟨_,rfl,a,_,1,_,rfl,rfl,d,rfl,_,rfl,b,_,1,_,rfl,rfl,e,rfl,_,_,rfl,rfl,⟨sp.bd,c.bd⟩,?_⟩
  exact⟨_,_,rfl,dh l m,dO n o,(Vx.prod sp c),k⟩
theorem zMi {f:af}{fd:ar}(F:Fun K "is_less" "is_less" zDJ f fd):FnOk P w K mg base zS 1 f fd ["one","other"] (zDi K):=by
 refine F.ok zLS (fun vs H Q E h=>?_) (fun g A outer s H vs Q E i h=>?_)
 ·obtain⟨x,y,p,q,rfl,_⟩:=h;rfl
 ·obtain⟨x,y,p,q,rfl,⟨a,rfl,d⟩,⟨b,rfl,e⟩,sp,c,k⟩:=h
  refine⟨_,zI (zT (zAZ zEk (zR zBr (vG vW (pv 0) zG (fun _ _=>rfl)) (vG vW (pv 1) zG (fun _ _=>rfl))) (zR zBr (vG vW (pv 1) zG (fun _ _=>rfl)) (vG vW (pv 0) zG (fun _ _=>rfl))) (yZ _))),?_⟩
  have j:=sp.up;have l:=c.up
  refine⟨_,rfl,a,_,0,_,rfl,rfl,d,rfl,_,rfl,b,_,1,_,rfl,rfl,e,rfl,_,_,rfl,rfl,⟨sp.bu,c.bd⟩,?_⟩
  exact⟨_,rfl,b,_,0,_,rfl,rfl,e,rfl,_,rfl,a,_,1,_,rfl,rfl,d,rfl,_,_,rfl,rfl,⟨c.bu,sp.bd⟩,_,_,rfl,rfl,k⟩
end
def uF (st:Option Nat×(Int×Int))(i:Nat)(q:Int×Int):Option Nat×(Int×Int):=if yO st.2 q=true then(some i,q)else st
def vU:List (Int×Int)->Nat->Option Nat×(Int×Int)->Option Nat×(Int×Int)
 | [],_,st=>st
 |q::qs,i,st=>vU qs (i+1) (uF st i q)
def j8 (qs:List (Int×Int)):Option Nat:=(vU qs 0 (none,(0,1))).1
theorem zBs:∀(a:List (Int×Int)) (q:Int×Int) (i:Nat) (st:Option Nat×(Int×Int)),vU (a++[q]) i st=uF (vU a i st) (i+a.length) q
 | [],q,i,st=>rfl
 |r::a,q,i,st=>by
  show vU (a++[q]) (i+1) (uF st i r)=uF (vU a (i+1) (uF st i r)) (i+(a.length+1)) q
  rw[zBs a q (i+1)]
  congr 1;omega
def zGx:Option Nat->V
 |none=>.non
 |some i=>.int i
section
variable{P:aw}{w:aI}{K:aa}{mg:Str->Option ae}{base:bc}
structure FrsAt (K:aa) (H:Hp) (vs:List V) (qs:List (Int×Int)):Prop where
 len:vs.length=qs.length
 at_:∀(i:Nat) (v:V) (q:Int×Int),vs[i]?=some v->qs[i]?=some q->yR K H v q
def zGy (K:aa):Sp:=fun vs H Q _=>∃(l:af) (xs:List V) (qs:List (Int×Int)),vs=[.ref l]/\H l=some (.lst xs)/\FrsAt K H xs qs/\(∀q∈qs,Vx q)/\∀H',zB H H'->Q (zGx (j8 qs)) H'
abbrev zDj:bR:=top 29
theorem zGz:FnScope ["fractions","found","greatest","place","fraction"] ["fractions"] (defScope zDj):=z5
theorem zMj {f:af}{fd:ar}(F:Fun K "place_of_greatest" "place_of_greatest" zDj f fd)(m:mg "enumerate"=none)(C:Cst2 K mg)(G:zW P w K mg base 1 "is_less" ["one","other"] (zDi K)):FnOk P w K mg base zS 2 f fd ["fractions"] (zGy K):=by
 obtain⟨r,n,I⟩:=C.nought
 refine F.ok zGz (fun vs H Q E h=>?_) (fun J A outer s H vs Q E L h=>?_)
 ·obtain⟨l,xs,a,rfl,_⟩:=h;rfl
 ·obtain⟨l,xs,a,rfl,hl,fr,M,k⟩:=h
  have nd:=zGz.nd
  refine⟨_,zF (zZ (i:=1) nd rfl (Or.inl rfl) u7)
   (zF (zZ (i:=2) nd rfl (Or.inl rfl) (v4 (v:=.ref r) (by rfl) n rfl))
   (zF (uV bO rfl (zKo rfl m (zA (pv 0) zC)) (zCS rfl (gO (yY (i:=3) nd rfl (Or.inl rfl)) (gO (yY (i:=4) nd rfl (Or.inl rfl)) zCR)))
    (zI (yE (v5 (zV G L rfl (zA (pv 2) (zA (pv 4) zC)))) (zF (zZ (i:=1) nd rfl (Or.inl rfl) (pv 3)) (zI (zZ (i:=2) nd rfl (Or.inl rfl) (pv 4)))) yC)))
   (zI (zT (pv 1))))),?_⟩
  refine⟨_,rfl,l,xs,rfl,hl,?_⟩
  refine zKp (K:=K) (xs:=xs) (fun i σ H'=>∃(g:V) (y z:Option V),σ=[some (.ref l),some (zGx (vU (a.take i) 0 (none,(0,1))).1),some g,y,z]/\zB H H'/\yR K H' g (vU (a.take i) 0 (none,(0,1))).2/\Vx (vU (a.take i) 0 (none,(0,1))).2)
   ⟨_,_,_,rfl,zB.refl H,⟨r,rfl,I _⟩,⟨zBa,(by show(0:Int)<_;decide),(by show(1:Int)<_;decide)⟩⟩ (fun i σ H' _ h=>by obtain⟨_,_,_,_,h,_⟩:=h;exact .of (h _ _ hl)) ?_ ?_
  ·rintro i x T σ H' O t u ⟨g,y,z,rfl,d,o,p⟩ N
   have hi:i<xs.length:=(ag.mp u).1
   have c:i<a.length:=by rw[<-fr.len];exact hi
   have eq:a[i]?=some a[i]:=aG c
   have e:zB H' (upd H' T (.tup [.int i,x])):=zB.upd1 N
   have B:=M a[i] (cG c)
   have D:yR K (upd H' T (.tup [.int i,x])) x a[i]:=(fr.at_ i x a[i] u eq).same (d.trans e)
   have b:vU (a.take (i+1)) 0 (none,(0,1))=uF (vU (a.take i) 0 (none,(0,1))) i a[i]:=by
    rw[ax c,zBs]
    congr 1
    rw[aV];omega
   refine⟨T,_,rfl,.of zH,rfl,_,_,rfl,_,_,rfl,rfl,?_⟩
   refine⟨_,rfl,_,rfl,g,x,_,a[i],rfl,o.same e,D,p,B,?_⟩
   cases j:yO (vU (a.take i) 0 (none,(0,1))).2 a[i]with
   |true=>
    have q:uF (vU (a.take i) 0 (none,(0,1))) i a[i]=(some i,a[i]):=by unfold uF;rw[if_pos j]
    rw[q]at b
    refine⟨true,rfl,yJ ⟨_,rfl,_,rfl,t _ _ ⟨x,some (.int (i:Int)),some x,?_,d.trans e,?_,?_⟩⟩⟩
    ·rw[b];rfl
    ·rw[b];exact D
    ·rw[b];exact B
   |false=>
    have q:uF (vU (a.take i) 0 (none,(0,1))) i a[i]=vU (a.take i) 0 (none,(0,1)):=by unfold uF;rw[if_neg (by rw[j];exact aC)]
    rw[q]at b
    refine⟨false,rfl,yA (t _ _ ⟨g,some (.int (i:Int)),some x,?_,d.trans e,?_,?_⟩)⟩
    ·rw[b];rfl
    ·rw[b];exact o.same e
    ·rw[b];exact p
  ·rintro σ H' ⟨g,y,z,rfl,d,o,p⟩
   rw[fr.len,aX]
   exact⟨_,rfl,k H' d⟩
theorem FrsAt.same {H H':Hp}{vs:List V}{a:List (Int×Int)}(h:FrsAt K H vs a)(e:zB H H'):FrsAt K H' vs a:=⟨h.len,fun i v q b c=>(h.at_ i v q b c).same e⟩
theorem FrsAt.snoc {H:Hp}{vs:List V}{g:List (Int×Int)}{v:V}{q:Int×Int}(h:FrsAt K H vs g)(f:yR K H v q):FrsAt K H (vs++[v]) (g++[q]):=by
 refine⟨by rw[aj,aj,h.len];rfl,fun i u r a b=>?_⟩
 by_cases hi:i<vs.length
 ·rw[bj hi]at a
  rw[bj (by rw[<-h.len];exact hi)]at b
  exact h.at_ i u r a b
 ·have j:i=vs.length:=by
   have:=(ag.mp a).1
   rw[aj]at this
   have e:([v]:List V).length=1:=rfl
   omega
  subst j
  rw[bQ (ay _),iB]at a
  rw[bQ (by rw[h.len];exact ay _),h.len,iB]at b
  have c:v=u:=aq a
  have d:q=r:=aq b
  subst c d
  exact f
theorem FrsAt.nil {H:Hp}:FrsAt K H [] []:=⟨rfl,fun i v q h=>by cases h⟩
end
end Kn
end
section
namespace Kn.Ln
open PySem L2 Kn
def vZ (bk:List S)(o:Nat)(nm:S):Prop:=0<(y9 (zU o bk) o nm).1
instance (bk:List S) (o:Nat) (nm:S):Decidable (vZ bk o nm):=by unfold vZ;infer_instance
end Kn.Ln
end
section
namespace Kn
open PySem L2
theorem zBt {p q:Int×Int}:yO p q=true↔p.1*q.2<q.1*p.2:=by unfold yO;exact decide_eq_true_iff
theorem zDk {p q r:Int×Int}(c:0<p.2)(d:0<q.2)(e:0<r.2)(f:yO p q=true)(g:yO q r=true):yO p r=true:=by
 rw[zBt]at*
 have a:=c7 f e
 have b:=c7 g c
 have h:p.1*q.2*r.2=p.1*r.2*q.2:=by rw[cn,c6 q.2,<-cn]
 have i:q.1*p.2*r.2=q.1*r.2*p.2:=by rw[cn,c6 p.2,<-cn]
 have j:r.1*q.2*p.2=r.1*p.2*q.2:=by rw[cn,c6 q.2,<-cn]
 rw[h,i]at a
 rw[j]at b
 exact Int.lt_of_mul_lt_mul_right (Int.lt_trans a b) (bW d)
theorem zHA {p q r:Int×Int}(f:0<p.2)(g:0<q.2)(i:0<r.2)(d:yO p q=false)(e:yO q r=false):yO p r=false:=by
 have j:¬p.1*q.2<q.1*p.2:=fun z=>by rw[zBt.mpr z]at d;cases d
 have l:¬q.1*r.2<r.1*q.2:=fun z=>by rw[zBt.mpr z]at e;cases e
 cases h:yO p r with
 |false=>rfl
 |true=>
  have m:=zBt.mp h
  have a:=cH (pj.mp j) (bW i)
  have b:=cH (pj.mp l) (bW f)
  have c:=c7 m g
  have n:p.1*q.2*r.2=p.1*r.2*q.2:=by rw[cn,c6 q.2,<-cn]
  have o:q.1*p.2*r.2=q.1*r.2*p.2:=by rw[cn,c6 p.2,<-cn]
  have s:r.1*q.2*p.2=r.1*p.2*q.2:=by rw[cn,c6 q.2,<-cn]
  rw[n,o]at a
  rw[s]at b
  omega
inductive IsPlace (qs:List (Int×Int)):Option Nat->Prop
 |no (h:∀q∈qs,yO (0,1) q=false):IsPlace qs none
 |at_ (i:Nat) (q:Int×Int) (hi:qs[i]?=some q) (hp:yO (0,1) q=true) (hl:∀(j:Nat) (r:Int×Int),j<i->qs[j]?=some r->yO r q=true) (hm:∀r∈qs,yO q r=false):IsPlace qs (some i)
def zBu (qs:List (Int×Int))(st:Option Nat×(Int×Int)):Prop:=IsPlace qs st.1/\(st.1=none->st.2=(0,1))/\∀i,st.1=some i->qs[i]?=some st.2
theorem zMk {b:List (Int×Int)}{st:Option Nat×(Int×Int)}{q:Int×Int}(D:∀r∈b++[q],0<r.2)(h:zBu b st):zBu (b++[q]) (uF st b.length q):=by
 obtain⟨x,f⟩:=st
 obtain⟨y,u,v⟩:=h
 have y:IsPlace b x:=y
 have u:x=none->f=(0,1):=u
 have v:∀i,x=some i->b[i]?=some f:=v
 have w:0<q.2:=D q (by simp)
 have dr:∀r∈b,0<r.2:=fun r c=>D r (b8 _ c)
 have d:(b++[q])[b.length]?=some q:=by simp
 have left:∀{j:Nat} {r:Int×Int},j<b.length->(b++[q])[j]?=some r->b[j]?=some r:=fun{j r} o h=>by rw[bj o]at h;exact h
 show zBu (b++[q]) (if yO f q=true then(some b.length,q)else(x,f))
 cases a:yO f q with
 |true=>
  rw[if_pos rfl]
  refine⟨?_,(fun z=>by cases z),(fun i z=>by cases z;exact d)⟩
  cases y with
  |no h=>
   have e:=u rfl
   rw[e]at a
   refine .at_ _ q d a (fun j r o c=>?_) fun r c=>?_
   ·have l:=left o c
    have m:=h r (aH l)
    cases p:yO r q with
    |true=>rfl
    |false=>
     have:=zHA (by decide) (dr r (aH l)) w m p
     rw[a]at this;cases this
   ·rcases bG.mp c with z|z
    ·cases s:yO q r with
     |false=>rfl
     |true=>have:=zDk (by decide) w (dr r z) a s;rw[h r z]at this;cases this
    ·have:r=q:=by simpa using z
     rw[this];exact zFo q
  |at_ i g hi t hl A=>
   have e:b[i]?=some f:=v i rfl
   have B:f=g:=by rw[hi]at e;exact(aq e).symm
   subst B
   have C:0<f.2:=dr _ (aH hi)
   refine .at_ _ q d (zDk (by decide) C w t a) (fun j r o c=>?_) fun r c=>?_
   ·have l:=left o c
    have m:=A r (aH l)
    cases p:yO r q with
    |true=>rfl
    |false=>
     have:=zHA C (dr r (aH l)) w m p
     rw[a]at this;cases this
   ·rcases bG.mp c with z|z
    ·cases s:yO q r with
     |false=>rfl
     |true=>have:=zDk C w (dr r z) a s;rw[A r z]at this;cases this
    ·have:r=q:=by simpa using z
     rw[this];exact zFo q
 |false=>
  rw[if_neg aC]
  refine⟨?_,u,fun i z=>?_⟩
  ·cases y with
   |no h=>
    refine .no fun r c=>?_
    rcases bG.mp c with z|z
    ·exact h r z
    ·have:r=q:=by simpa using z
     rw[this,<-u rfl];exact a
   |at_ i g hi t hl A=>
    have e:b[i]?=some f:=v i rfl
    have B:f=g:=by rw[hi]at e;exact(aq e).symm
    subst B
    have n:i<b.length:=(ag.mp hi).1
    refine .at_ i f (by rw[bj n];exact hi) t (fun j r o c=>hl j r o (left (oA o n) c)) fun r c=>?_
    rcases bG.mp c with z|z
    ·exact A r z
    ·have:r=q:=by simpa using z
     rw[this];exact a
  ·have E:=v i z
   have n:i<b.length:=(ag.mp E).1
   rw[bj n];exact E
theorem zMl {a:List (Int×Int)}(b:∀r∈a,0<r.2):IsPlace a (j8 a):=by
 have go:∀n,n<=a.length->zBu (a.take n) (vU (a.take n) 0 (none,(0,1))):=by
  intro n
  induction n with
  |zero=>intro _;exact⟨.no (fun q b=>by cases b),(fun _=>rfl),(fun i z=>by cases z)⟩
  |succ n ih=>
   intro e
   have c:n<a.length:=by omega
   rw[ax c,zBs,ka]
   refine zMk (fun r d=>b r ?_) (ih (by omega))
   rcases bG.mp d with z|z
   ·exact fE z
   ·have:r=a[n]:=by simpa using z
    rw[this];exact cG c
 have:=go a.length (ay _)
 rw[aX]at this
 exact this.1
theorem IsPlace.like {α:Type}{l:List α}{f g:α->Int×Int}{x:Option Nat}(h:∀a b,yO (g a) (g b)=yO (f a) (f b))(n:∀a,yO (0,1) (g a)=yO (0,1) (f a))(p:IsPlace (l.map f) x):IsPlace (l.map g) x:=by
 cases p with
 |no o=>
  refine .no fun q d=>?_
  obtain⟨a,s,rfl⟩:=aM.mp d
  rw[n];exact o _ (aM.mpr ⟨a,s,rfl⟩)
 |at_ i q hi t hl u=>
  rw[az]at hi
  cases e:l[i]? with
  |none=>rw[e]at hi;cases hi
  |some a=>
   rw[e]at hi
   have d:f a=q:=aq hi
   subst d
   refine .at_ i (g a) (by rw[az,e];rfl) (by rw[n];exact t) (fun j r v c=>?_) fun r c=>?_
   ·rw[az]at c
    cases m:l[j]? with
    |none=>rw[m]at c;cases c
    |some b=>
     rw[m]at c
     have:g b=r:=aq c
     subst this
     rw[h];exact hl j (f b) v (by rw[az,m];rfl)
   ·obtain⟨b,w,rfl⟩:=aM.mp c
    rw[h];exact u _ (aM.mpr ⟨b,w,rfl⟩)
end Kn
end
section
namespace L2
open PySem
structure CMeth (K:aa) (C:af) (m:Str) (f:af):Prop where
 rd:mE K C (.type "type")=true
 sp:gs K (.ref C) "__getattribute__"=some (some (.builtin "type.__getattribute__"))
 at_:mF K (.ref C) (.type "type") m=some (.val (.ref f))
 kp:bP K (.ref f)=true
def tCM (C:af)(sp:Sp)(dvs:List V)(E:XK)(ta:TE)(t:TA):TE:=fun σ H Q=>ta σ H fun x H1=>x=.ref C/\t σ H1 fun vs H2=>sp (vs++dvs) H2 Q E
theorem zMm {X:Cx}{CX:vV}{k:Nat}{f C:af}{fd:ar}{l:List Str}{sp:Sp}{c:List V}{n:List ae}{E:XK}{m:Str}{pos apos:Pos}{e o:bq}{b:List bq}{p:TE}{t:TA}{pl:Sem Bool}
  (he:PE X o p) (d:CMeth X.K C m f) (F:FnOk X.prog X.w X.K X.mg X.base CX k f fd l sp) (z:Room k X.A) (B:vF X.K fd l n) (hd:zL c n) (D:uJ CX X E) (G:PA X (e::b) t)
  (g:starEach (e::b) X.env=(false,eval e X.env)::starEach b X.env:=by rfl) (i:(backTo pos (starEach b X.env)).any (·.1)=false:=by rfl)
  (J:eval (.Call (.Attribute o m apos) (e::b) [] pos) X.env=(do
   let v<-eval o X.env
   standAt apos.atName
   let(f,first)<-holding [v] (getMethod v m pl)
   callWith pos f first (backTo pos (starEach (e::b) X.env)) (backToKw pos (keywordEach [] X.env))):=by rfl) :
  PE X (.Call (.Attribute o m apos) (e::b) [] pos) (tCM C sp c E p t):=by
 intro a s σ H Q I h
 refine eZ (pl:=pl) (zK (he a s σ H _ I h) fun u L ⟨x,M,j,N,ex,q⟩=>?_) J
 subst ex
 obtain rfl:u=Value.ref C:=N
 refine PySem.W.method_cls j.kIn d.sp (PySem.W.cls_value j.kIn d.rd d.at_ rfl ?_)
 have O:=j.tok (L.toks+1)
 refine dz (first:=[]) (h₀:=X.base) I.ok.mod.kin d.kp (zK (G pos a _ σ M _ O q) fun us R ⟨vs,T,y,r,P⟩=>⟨y.kIn,?_⟩) g i
 exact zAc F z B hd D y r P
theorem zHB {X:Cx}:uQ X (.type "dict") (fun xs H Q=>∃a kvs,xs=[.ref a]/\H a=some (.dK kvs)/\∀p,H p=none->Q (.ref p) (upd H p (.dK kvs))):=by
 intro b s σ H xs us Q I r h
 obtain⟨a,kvs,rfl,c,q⟩:=h
 obtain⟨u,rfl,d⟩:=qL r
 cases d
 exact zKD I (.inl c) fun p s' e f=>⟨.ref p,_,f,rfl,q p e⟩
end L2
end
section
namespace Kn.Ln
open PySem L2 Kn
def v3 (P:aw)(w:aI)(K:aa)(mg:Str->Option ae)(base:bc)(C:af)(k:Nat)(m:Str)(ps:List Str)(sp:Sp):Prop :=
 ∃(f:af) (fd:ar),FnOk P w K mg base zS k f fd ps sp/\Meth K C m f/\Cls K C/\vF K fd ps []
theorem kS {X:Cx}{C:af}{k:Nat}{m:Str}{j:List Str}{sp:Sp}{pl:Sem Bool}{apos pos:Pos}{o e:bq}{a:List bq}{h:TE}{t:TA}(M:v3 X.prog X.w X.K X.mg X.base C k m j sp)(l:Room k X.A)(he:PE X o h)(n:PA X (e::a) t)
  (d:starEach (e::a) X.env=(false,eval e X.env)::starEach a X.env:=by rfl) (g:(backTo pos (starEach a X.env)).any (·.1)=false:=by rfl)
  (p:eval (.Call (.Attribute o m apos) (e::a) [] pos) X.env=(do
   let i<-eval o X.env
   standAt apos.atName
   let(f,first)<-holding [i] (getMethod i m pl)
   callWith pos f first (backTo pos (starEach (e::a) X.env)) (backToKw pos (keywordEach [] X.env))):=by rfl) :
  PE X (.Call (.Attribute o m apos) (e::a) [] pos) (zAb C m sp [] E0 h t):=by
 obtain⟨f,fd,F,q,c,b⟩:=M
 exact zEw (pl:=pl) he c q F l b .nil gZ n d g p
theorem zBv {X:Cx}{C:af}{k:Nat}{m:Str}{e:List Str}{sp:Sp}{pl:Sem Bool}{apos pos:Pos}{o:bq}{a:TE}(M:v3 X.prog X.w X.K X.mg X.base C k m e sp)(g:Room k X.A)(he:PE X o a)
  (h:eval (.Call (.Attribute o m apos) [] [] pos) X.env=(do
   let d<-eval o X.env
   standAt apos.atName
   let(f,first)<-holding [d] (getMethod d m pl)
   callWith pos f first (backTo pos (starEach [] X.env)) (backToKw pos (keywordEach [] X.env))):=by rfl) :
  PE X (.Call (.Attribute o m apos) [] [] pos) (zAb C m sp [] E0 a qV):=by
 obtain⟨f,fd,F,i,c,b⟩:=M
 exact zJN (pl:=pl) he c i F g b .nil gZ h
def zDl (P:aw)(w:aI)(K:aa)(mg:Str->Option ae)(base:bc)(C:af)(k:Nat)(x:Str)(ps:List Str)(sp:Sp):Prop :=
 ∃(f:af) (fd:ar),FnOk P w K mg base zS k f fd ps sp/\L2.Mk K C f/\mg x=some (.ref C)/\vF K fd ps []
theorem zMn {X:Cx}{C:af}{k:Nat}{x:Str}{g:List Str}{sp:Sp}{p pos:Pos}{e:bq}{a:List bq}{t:TA}(M:zDl X.prog X.w X.K X.mg X.base C k x g sp)(h:Room (k+1) X.A)(i:Gl X x)(j:PA X (e::a) t)
  (c:(x==("__debug__" : Str))=false:=by decide) (he:starEach (e::a) X.env=(false,eval e X.env)::starEach a X.env:=by rfl) (d:(backTo pos (starEach a X.env)).any (·.1)=false:=by rfl) :
  PE X (.Call (.Name x p) (e::a) [] pos) (zBN C sp [] E0 t):=by
 obtain⟨f,fd,F,mk,l,b⟩:=M
 exact zEx mk F h i l b .nil gZ j c he d
def zDm (P:aw)(w:aI)(K:aa)(mg:Str->Option ae)(base:bc)(C:af)(k:Nat)(m:Str)(ps:List Str)(sp:Sp):Prop :=
 ∃(f:af) (fd:ar),FnOk P w K mg base zS k f fd ps sp/\CMeth K C m f/\vF K fd ps []
theorem zMo {X:Cx}{C:af}{k:Nat}{m:Str}{i:List Str}{sp:Sp}{pl:Sem Bool}{apos pos:Pos}{o e:bq}{a:List bq}{g:TE}{t:TA}(M:zDm X.prog X.w X.K X.mg X.base C k m i sp)(j:Room k X.A)(he:PE X o g)(l:PA X (e::a) t)
  (c:starEach (e::a) X.env=(false,eval e X.env)::starEach a X.env:=by rfl) (d:(backTo pos (starEach a X.env)).any (·.1)=false:=by rfl)
  (n:eval (.Call (.Attribute o m apos) (e::a) [] pos) X.env=(do
   let h<-eval o X.env
   standAt apos.atName
   let(f,first)<-holding [h] (getMethod h m pl)
   callWith pos f first (backTo pos (starEach (e::a) X.env)) (backToKw pos (keywordEach [] X.env))):=by rfl) :
  PE X (.Call (.Attribute o m apos) (e::a) [] pos) (tCM C sp [] E0 g t):=by
 obtain⟨f,fd,F,p,b⟩:=M
 exact zMm (pl:=pl) he p F j b .nil gZ l c d n
def u4 (K:aa)(C:af)(m qual:Str)(st:bR)(ps:List Str):Prop:=∃(f:af) (fd:ar),Fun K m qual st f fd/\Meth K C m f/\vF K fd ps []
theorem zDn {K:aa}{C:af}{m b:Str}{st:bR}{f:af}{g kV h pm d ct:ae}{od i:Option af}{j:Array (Option ae)}(e:List Str)(o:∀(fd:ar),Fun K m b st f fd->vF K fd e [])
  (a:bf K (.ref C) m=some (some (.ref f))) (n:ik K (.ref f)=true) (l:K.lookup f=some ⟨g,od,.func (cp m b (defArgs st) (defBody st) (defScope st) .none kV h pm i d ct),j⟩) (c:de K d b=true) (k:bP K (.ref f)=true):u4 K C m b st e :=
 ⟨f,_,gB (st:=st) l c k,⟨a,n,k⟩,o _ (gB (st:=st) l c k)⟩
abbrev zP:=af×List S
def vA (kvs:List (S×zP)):List (zX×V):=vE (fun q:zP=>V.ref q.1) kvs
def zAM (d:af):List (Str×V):=[("now",.ref d)]
def zAN (d dn:af):List (Str×V):=[("now",.ref d),("done",.ref dn)]
def zDo (d dn un:af):List (Str×V):=[("now",.ref d),("done",.ref dn),("undone",.ref un)]
def uG (d dn un:af)(o:Nat):List (Str×V):=[("now",.ref d),("done",.ref dn),("undone",.ref un),("order",.int o)]
structure LgAt (H:Hp) (C k dx d dn un:af) (o:Nat) (kvs:List (S×zP)) (ds:List V):Prop where
 ins:H k=some (.ins C dx (uG d dn un o))
 now:H d=some (.dK (vA kvs))
 don:H dn=some (.lst ds)
 bks:∀q∈kvs,H q.2.1=some (.tup (zD q.2.2))
 nd:(kvs.map (·.1)).Nodup
structure LgC (K:aa) (C:af):Prop where
 cls:Cls K C
 now:qU K C "now"
 don:qU K C "done"
 und:qU K C "undone"
 ord:qU K C "order"
def yH (k:af)(H H':Hp):Prop:=∀b u,b≠k->H b=some u->H' b=some u
def yV (k l:af)(H H':Hp):Prop:=∀b u,b≠k->b≠l->H b=some u->H' b=some u
theorem yH.of {k:af}{H H':Hp}(s:zB H H'):yH k H H':=fun b u _ h=>s b u h
theorem yH.trans {k:af}{H d e:Hp}(a:yH k H d)(b:yH k d e):yH k H e:=fun c u n h=>b c u n (a c u n h)
theorem yH.upd {k:af}{H:Hp}{o:HO}:yH k H (upd H k o):=fun b u n h=>(zJ n).trans h
theorem yV.of {k l:af}{H H':Hp}(s:zB H H'):yV k l H H':=fun b u _ _ h=>s b u h
theorem yV.trans {k l:af}{H d e:Hp}(a:yV k l H d)(b:yV k l d e):yV k l H e:=fun c u n m h=>b c u n m (a c u n m h)
theorem yV.one {k l:af}{H:Hp}{o:HO}:yV k l H (upd H k o):=fun b u n _ h=>(zJ n).trans h
theorem yV.two {k l:af}{H:Hp}{o:HO}:yV k l H (upd H l o):=fun b u _ m h=>(zJ m).trans h
theorem y8 {H:Hp}{a b:af}{u v:HO}(c:H a=some u)(d:H b=some v)(n:u≠v):a≠b:=fun z=>n (by rw[z,d]at c;exact(aq c).symm)
theorem zMp {H H':Hp}{b k:af}(s:yH k H H')(a:b≠k)(h:H' b=none):H b=none:=by
 cases z:H b with
 |none=>rfl
 |some u=>rw[s _ _ a z]at h;cases h
theorem zHC {H:Hp}{a b:af}{u:HO}(c:H a=none)(d:H b=some u):a≠b:=fun z=>by rw[z,d]at c;cases c
section
variable{P:aw}{w:aI}{K:aa}{mg:Str->Option ae}{base:bc}
abbrev sSI:bR:=inClass (top 36) 0
theorem zMq:FnScope ["self","now"] ["self","now"] (defScope sSI):=z5
def zDp (C:af):Sp:=fun vs H Q _=>∃k dx d,vs=[.ref k,.ref d]/\H k=some (.ins C dx [])/\∀dn un H',yH k H H'->H dn=none->H' k=some (.ins C dx (zDo d dn un))->H' dn=some (.lst [])->Q .non H'
theorem zMr {f C:af}{fd:ar}(F:Fun K "__init__" "Stepper.__init__" sSI f fd)(c:LgC K C):FnOk P w K mg base zS 1 f fd ["self","now"] (zDp C):=by
 refine F.ok zMq (fun vs H Q E h=>?_) (fun t A outer s H vs Q E B h=>?_)
 ·obtain⟨k,a,d,rfl,_⟩:=h;rfl
 ·obtain⟨k,a,d,rfl,u,v⟩:=h
  refine⟨_,zF (gT (pv 0) (pv 1) rfl) (zF (gT (pv 0) (uR zC) rfl) (zI (gT (pv 0) (uR zC) rfl))),?_⟩
  refine⟨_,rfl,_,rfl,k,C,a,[],rfl,u,c.cls,c.now,by decide,?_⟩
  have x:vK "now" (.ref d) []=zAM d:=rfl
  rw[x]
  have j:yH k H (upd H k (.ins C a (zAM d))):=yH.upd
  have k1:upd H k (.ins C a (zAM d)) k=some (.ins C a (zAM d)):=zH
  generalize upd H k (.ins C a (zAM d))=e at j k1
  refine⟨bJ _,fun dn b=>?_⟩
  have l:dn≠k:=zHC b k1
  have m:zB e (upd e dn (.lst [])):=zB.upd1 b
  have q:upd e dn (.lst []) dn=some (.lst []):=zH
  generalize upd e dn (.lst [])=g at m q
  refine⟨_,rfl,k,C,a,_,rfl,m _ _ k1,c.cls,c.don,by show 1<1000;decide,?_⟩
  have y:vK "done" (.ref dn) (zAM d)=zAN d dn:=rfl
  rw[y]
  have n:yH k g (upd g k (.ins C a (zAN d dn))):=yH.upd
  have k3:upd g k (.ins C a (zAN d dn)) k=some (.ins C a (zAN d dn)):=zH
  have r:=n _ _ l q
  generalize upd g k (.ins C a (zAN d dn))=o at n k3 r
  refine⟨bJ _,fun un p=>?_⟩
  have i:zB o (upd o un (.lst [])):=zB.upd1 p
  generalize upd o un (.lst [])=D at i
  refine⟨_,rfl,k,C,a,_,rfl,i _ _ k3,c.cls,c.und,by show 2<1000;decide,?_⟩
  have z:vK "undone" (.ref un) (zAN d dn)=zDo d dn un:=rfl
  rw[z]
  exact v dn un _ (j.trans ((yH.of m).trans (n.trans ((yH.of i).trans yH.upd)))) (zMp j l b) zH ((zJ l).trans (i _ _ r))
abbrev sST:bR:=inClass (top 36) 1
theorem zMs:FnScope ["self","after","word"] ["self","after","word"] (defScope sST):=z5
def zAu (C:af):Sp:=fun vs H Q _=>∃(k dx d dn un a:af) (o:Nat) (ds:List V) (x:Str),vs=[.ref k,.ref a,.str x]/\H k=some (.ins C dx (uG d dn un o))/\H dn=some (.lst ds)/\ds.length<=100/\
 ∀y un' H',yV k dn H H'->H' k=some (.ins C dx (uG a dn un' o))->H' dn=some (.lst (ds++[y]))->Q .non H'
theorem zMt {f C:af}{fd:ar}(F:Fun K "step_to" "Stepper.step_to" sST f fd)(e:LgC K C):FnOk P w K mg base zS 1 f fd ["self","after","word"] (zAu C):=by
 refine F.ok zMs (fun vs H Q E h=>?_) (fun D A outer s H vs Q E M h=>?_)
 ·obtain⟨k,c,d,dn,un,a,o,g,x,rfl,_⟩:=h;rfl
 ·obtain⟨k,c,d,dn,un,a,o,g,x,rfl,l,hd,hl,G⟩:=h
  refine⟨_,zF (yD (zAd eN PySem.F.slot_list_append PySem.F.type_list_append zJi (qB (pv 0) rfl) (zA (y6 (zA (qB (pv 0) rfl) (zA (pv 2) zC))) zC)))
   (zF (gT (pv 0) (uR zC) rfl) (zI (gT (pv 0) (pv 1) rfl))),?_⟩
  have p:dn≠k:=y8 hd l nofun
  refine⟨_,rfl,k,C,c,_,_,rfl,l,e.cls,e.don,rfl,.inl ⟨rfl,_,.of hd⟩,_,rfl,k,C,c,_,_,rfl,l,e.cls,e.now,rfl,_,rfl,by show 2<=sizeLine;decide,fun y I=>?_⟩
  have m:zB H (upd H y (.tup [.ref d,.str x])):=zB.upd1 I
  generalize upd H y (.tup [.ref d,.str x])=i at m
  refine⟨dn,_,_,rfl,rfl,m _ _ hd,by rw[aP];omega,?_⟩
  have t:yV k dn i (upd i dn (.lst (g++[.ref y]))):=yV.two
  have u:upd i dn (.lst (g++[.ref y])) dn=some (.lst (g++[.ref y])):=zH
  have k2:upd i dn (.lst (g++[.ref y])) k=some (.ins C c (uG d dn un o)):=(zJ p.symm).trans (m _ _ l)
  generalize upd i dn (.lst (g++[.ref y]))=q at t u k2
  refine⟨bJ _,fun b r=>?_⟩
  have n:zB q (upd q b (.lst [])):=zB.upd1 r
  generalize upd q b (.lst [])=j at n
  refine⟨_,rfl,k,C,c,_,rfl,n _ _ k2,e.cls,e.und,by show 4<1000;decide,?_⟩
  have J:vK "undone" (.ref b) (uG d dn un o)=uG d dn b o:=rfl
  rw[J]
  have v:yV k dn j (upd j k (.ins C c (uG d dn b o))):=yV.one
  have z:upd j k (.ins C c (uG d dn b o)) k=some (.ins C c (uG d dn b o)):=zH
  have B:upd j k (.ins C c (uG d dn b o)) dn=some (.lst (g++[.ref y])):=(zJ p).trans (n _ _ u)
  generalize upd j k (.ins C c (uG d dn b o))=N at v z B
  refine⟨_,rfl,_,rfl,k,C,c,_,rfl,z,e.cls,e.now,by show 4<1000;decide,?_⟩
  have L:vK "now" (.ref a) (uG d dn b o)=uG a dn b o:=rfl
  rw[L]
  exact G (.ref y) b _ ((yV.of m).trans (t.trans ((yV.of n).trans (v.trans yV.one)))) zH ((zJ p).trans B)
abbrev sLI:bR:=inClass (top 38) 0
theorem zHD:FnScope ["self","order"] ["self","order"] (defScope sLI):=z5
def zBw (C:af):Sp:=fun vs H Q _=>∃(k dx:af) (o:Nat),vs=[.ref k,.int o]/\H k=some (.ins C dx [])/\1<=o/\o<=3/\∀d dn un H',yH k H H'->H d=none->H dn=none->LgAt H' C k dx d dn un o [] []->Q .non H'
theorem zMu {f C c:af}{fd:ar}(F:Fun K "__init__" "Ledger.__init__" sLI f fd)(i:LgC K C)(p:mg "Stepper"=some (.ref c))(r:zW P w K mg base 3 "need_order" ["thing"] zDE)(t:zDm P w K mg base c 1 "__init__" ["self","now"] (zDp C)):FnOk P w K mg base zS 4 f fd ["self","order"] (zBw C):=by
 refine F.ok zHD (fun vs H Q E h=>?_) (fun x A outer s H vs Q E l h=>?_)
 ·obtain⟨k,e,o,rfl,_⟩:=h;rfl
 ·obtain⟨k,e,o,rfl,g,o1,o3,y⟩:=h
  have B:=l.mono (j:=1) (by decide)
  refine⟨_,zF (yD (zV r l rfl (zA (pv 1) zC))) (zF (yD (zMo t B (v4 (v:=.ref c) (by rfl) p rfl) (zA (pv 0) (zA kL zC)))) (zI (gT (pv 0) (pv 1) rfl))),?_⟩
  refine⟨_,rfl,o,rfl,o1,o3,?_⟩
  refine⟨rfl,_,rfl,fun d hd=>?_⟩
  have b:zB H (upd H d (.dK [])):=zB.upd1 hd
  have d1:upd H d (.dK []) d=some (.dK []):=zH
  generalize upd H d (.dK [])=L at b d1
  refine⟨k,e,d,rfl,b _ _ g,fun dn un M m a k2 D=>?_⟩
  have n:d≠k:=y8 d1 (b _ _ g) nofun
  have G:dn≠k:=zHC a (b _ _ g)
  refine⟨_,rfl,_,rfl,k,C,e,_,rfl,k2,i.cls,i.ord,by show 3<1000;decide,?_⟩
  have I:vK "order" (.int o) (zDo d dn un)=uG d dn un o:=rfl
  rw[I]
  refine y d dn un _ ((yH.of b).trans (m.trans yH.upd)) hd ?_ ⟨zH,(zJ n).trans (m _ _ n d1),(zJ G).trans D,(fun q J=>by cases J),nh⟩
  cases z:H dn with
  |none=>rfl
  |some u=>rw[b _ _ z]at a;cases a
end
def u5 (kvs:List (S×zP))(t:S):List (S×zP):=kvs.filter fun q=>decide (q.1≠t)
theorem zHE (kvs:List (S×zP))(t:S):k6 (vA kvs) (Sum.inr (tx t))=vA (u5 kvs t):=by
 unfold k6 vA vE kN u5
 rw[aY,aY,mG]
 congr 1
 refine lI fun q _=>?_
 show decide ((Sum.inr (tx q.1):zX)≠Sum.inr (tx t))=decide (q.1≠t)
 rw[decide_eq_decide]
 exact⟨fun h e=>h (by rw[e]),fun h e=>h (kR (iS e))⟩
theorem zDq {kvs:List (S×zP)}(t:S)(v:zP)(nd:(kvs.map (·.1)).Nodup):vL (vA kvs) (Sum.inr (tx t)) (.ref v.1)=vA (zO kvs t v):=zAm (fun q:zP=>V.ref q.1) kvs t v nd
theorem zBx (kvs:List (S×zP))(t:S):yI (vA kvs) (Sum.inr (tx t))=(zE kvs t).map fun q=>V.ref q.1:=uZ _ kvs t
theorem zDr (kvs:List (S×zP)):(vA kvs).length=kvs.length:=zAD _ kvs
theorem LgAt.same {H H':Hp}{C k a d dn un:af}{o:Nat}{kvs:List (S×zP)}{b:List V}(g:LgAt H C k a d dn un o kvs b)(s:zB H H'):LgAt H' C k a d dn un o kvs b:=⟨s _ _ g.ins,s _ _ g.now,s _ _ g.don,fun q c=>s _ _ (g.bks q c),g.nd⟩
theorem LgAt.get {H:Hp}{C k b d dn un:af}{o:Nat}{kvs:List (S×zP)}{c:List V}(g:LgAt H C k b d dn un o kvs c){t:S}{a:af}{bk:List S}(h:zE kvs t=some (a,bk)):H a=some (.tup (zD bk)):=g.bks (t,(a,bk)) ((v9 g.nd t (a,bk)).mpr h)
theorem LgAt.dget {H:Hp}{C k a d dn un:af}{o:Nat}{kvs:List (S×zP)}{b:List V}(g:LgAt H C k a d dn un o kvs b)(t:S):vD H d (sv t) ((zE kvs t).map fun q=>V.ref q.1):=by
 rw[<-zBx];exact vD.k (k:=Sum.inr (tx t)) g.now
theorem LgAt.put {H H':Hp}{C k b d d' dn un a:af}{o:Nat}{kvs:List (S×zP)}{c:List V}{y:V}{t:S}{v:zP}(g:LgAt H C k b d dn un o kvs c)(s:yV k dn H H')(f:H' k=some (.ins C b (uG d' dn a o)))(h:H' dn=some (.lst (c++[y])))(e:H d'=some (.dK (vA (zO kvs t v))))(i:H v.1=some (.tup (zD v.2))):LgAt H' C k b d' dn a o (zO kvs t v) (c++[y]):=by
 refine⟨f,s _ _ (y8 e g.ins nofun) (y8 e g.don nofun) e,h,fun q j=>?_,zAA g.nd⟩
 have:H q.2.1=some (.tup (zD q.2.2)):=by
  rcases(zGt g.nd q).mp j with rfl|⟨z,_⟩
  ·exact i
  ·exact g.bks q z
 exact s _ _ (y8 this g.ins nofun) (y8 this g.don nofun) this
theorem LgAt.del {H H':Hp}{C k b d d' dn un a:af}{o:Nat}{kvs:List (S×zP)}{c:List V}{y:V}{t:S}(g:LgAt H C k b d dn un o kvs c)(s:yV k dn H H')(f:H' k=some (.ins C b (uG d' dn a o)))(h:H' dn=some (.lst (c++[y])))(e:H d'=some (.dK (vA (u5 kvs t)))):LgAt H' C k b d' dn a o (u5 kvs t) (c++[y]):=by
 refine⟨f,s _ _ (y8 e g.ins nofun) (y8 e g.don nofun) e,h,fun q i=>?_,g.nd.sublist ((jl).map _)⟩
 have this:=g.bks q (cF.mp i).1
 exact s _ _ (y8 this g.ins nofun) (y8 this g.don nofun) this
section
variable{P:aw}{w:aI}{K:aa}{mg:Str->Option ae}{base:bc}
abbrev sNT:bR:=inClass (top 38) 1
theorem zHF:FnScope ["self","title"] ["self","title"] (defScope sNT):=z5
def zAv (C:af):Sp:=fun vs H Q _=>∃(k dx d dn un:af) (o:Nat) (kvs:List (S×zP)) (ds:List V) (t:S) (v:zP),vs=[.ref k,sv t]/\LgAt H C k dx d dn un o kvs ds/\zE kvs t=some v/\Q .non H
theorem zMv {f C:af}{fd:ar}(F:Fun K "need_title" "Ledger.need_title" sNT f fd)(a:LgC K C):FnOk P w K mg base zS 1 f fd ["self","title"] (zAv C):=by
 refine F.ok zHF (fun vs H Q E h=>?_) (fun c A outer s H vs Q E e h=>?_)
 ·obtain⟨k,b,d,dn,un,o,kvs,i,t,v,rfl,_⟩:=h;rfl
 ·obtain⟨k,b,d,dn,un,o,kvs,i,t,v,rfl,g,j,l⟩:=h
  have m:=vT e
  refine⟨_,zI (yE (kX (zAe m (pv 1) (qB (pv 0) rfl))) (zI zBF) yC),?_⟩
  refine⟨_,rfl,_,rfl,k,C,b,_,_,rfl,g.ins,a.cls,a.now,rfl,d,_,rfl,g.dget t,_,rfl,?_⟩
  rw[j]
  exact yA l
abbrev sWB:bR:=inClass (top 38) 2
theorem zHG:FnScope ["self","title","book","after"] ["self","title","book"] (defScope sWB):=z5
def zBy (C:af):Sp:=fun vs H Q _=>∃(k dx d dn un:af) (o:Nat) (kvs:List (S×zP)) (ds:List V) (t:S) (v:zP),vs=[.ref k,sv t,.ref v.1]/\LgAt H C k dx d dn un o kvs ds/\kvs.length<=100/\∀p H',zB H H'->H p=none->H' p=some (.dK (vA (zO kvs t v)))->Q (.ref p) H'
theorem zMw {f C:af}{fd:ar}(F:Fun K "with_book" "Ledger.with_book" sWB f fd)(e:LgC K C)(a:mg "dict"=none):FnOk P w K mg base zS 1 f fd ["self","title","book"] (zBy C):=by
 refine F.ok zHG (fun vs H Q E h=>?_) (fun n A outer s H vs Q E q h=>?_)
 ·obtain⟨k,j,d,dn,un,o,kvs,r,t,v,rfl,_⟩:=h;rfl
 ·obtain⟨k,j,d,dn,un,o,kvs,r,t,v,rfl,g,hl,x⟩:=h
  have y:=vT q
  have nd:=zHG.nd
  refine⟨_,zF (zZ (i:=3) nd rfl (Or.inl rfl) (zCa zHB (by rfl) a iC (zA (qB (pv 0) rfl) zC))) (zF (gX y (pv 3) (pv 1) (pv 2) rfl) (zI (zT (pv 3)))),?_⟩
  refine⟨_,rfl,k,C,j,_,_,rfl,g.ins,e.cls,e.now,rfl,d,_,rfl,g.now,fun p l=>?_⟩
  have B:upd H p (.dK (vA kvs)) p=some (.dK (vA kvs)):=zH
  refine⟨_,rfl,_,rfl,_,rfl,p,_,rfl,qZ.k (k:=Sum.inr (tx t)) B (by rw[zDr,aP];omega),_,rfl,?_⟩
  refine x p _ (fun b u c=>?_) l (by rw[zH,zDq t v g.nd])
  have m:b≠p:=fun z=>by rw[z,l]at c;cases c
  rw[zJ m,zJ m];exact c
abbrev zBz:bR:=inClass (top 38) 3
theorem zDs:FnScope ["self","title","book","stood"] ["self","title","book"] (defScope zBz):=z5
def zHH (C:af):Sp:=fun vs H Q _=>∃(k dx d dn un:af) (o:Nat) (kvs:List (S×zP)) (ds:List V) (t:S) (v:zP),vs=[.ref k,sv t,.ref v.1]/\LgAt H C k dx d dn un o kvs ds/\kvs.length<=100/\ds.length<=100/\z3 t/\H v.1=some (.tup (zD v.2))/\isBk v.2/\
 ∀d' un' y H',yV k dn H H'->H d'=none->LgAt H' C k dx d' dn un' o (zO kvs t v) (ds++[y])->Q (.bl (zE kvs t).isSome) H'
theorem zMx {f C:af}{fd:ar}(F:Fun K "keep" "Ledger.keep" zBz f fd)(u:LgC K C)(G:zW P w K mg base 2 "need_name" ["thing"] j6)(I:zW P w K mg base 3 "need_book" ["thing"] zBf)(J:v3 P w K mg base C 1 "with_book" ["self","title","book"] (zBy C))(L:v3 P w K mg base C 1 "step_to" ["self","after","word"] (zAu C)):FnOk P w K mg base zS 4 f fd ["self","title","book"] (zHH C):=by
 refine F.ok zDs (fun vs H Q E h=>?_) (fun M A outer s H vs Q E b h=>?_)
 ·obtain⟨k,a,d,dn,un,o,kvs,e,t,v,rfl,_⟩:=h;rfl
 ·obtain⟨k,a,d,dn,un,o,kvs,e,t,v,rfl,g,hl,l,N,x,O,R⟩:=h
  have T:=vT b
  have nd:=zDs.nd
  have U:=b.mono (j:=2) (by decide)
  have z:=b.mono (j:=1) (by decide)
  refine⟨_,zF (yD (zV G U rfl (zA (pv 1) zC))) (zF (yD (zV I b rfl (zA (pv 2) zC))) (zF (zZ (i:=3) nd rfl (Or.inl rfl) (zEV (zFM T (pv 1) (qB (pv 0) rfl))))
   (zF (yD (kS L z (pv 0) (zA (kS J z (pv 0) (zA (pv 1) (zA (pv 2) zC))) (zA yG zC)))) (zI (zT (pv 3)))))),?_⟩
  refine⟨_,rfl,t,rfl,N,fun H1 B=>?_⟩
  refine⟨_,rfl,v.1,v.2,rfl,B _ _ x,O,fun H2 m=>?_⟩
  have c:=B.trans m
  have g2:=g.same c
  refine⟨_,rfl,_,rfl,k,C,a,_,_,rfl,g2.ins,u.cls,u.now,rfl,d,_,rfl,g2.dget t,?_⟩
  rw[cU]
  refine⟨_,rfl,k,a,_,rfl,g2.ins,rfl,_,rfl,k,a,_,rfl,g2.ins,rfl,_,rfl,_,rfl,k,a,d,dn,un,o,kvs,e,t,v,rfl,g2,hl,fun p H3 n q W=>?_⟩
  have g3:=g2.same n
  refine⟨k,a,d,dn,un,p,o,e,"keep",rfl,g3.ins,g3.don,l,fun y r X D Y Z=>?_⟩
  exact⟨_,rfl,R p r y X ((yV.of (c.trans n)).trans D) (c.free q) (g3.put D Y Z W ((c.trans n) _ _ x))⟩
abbrev zCA:bR:=inClass (top 38) 4
theorem zDt:FnScope ["self","title","after","dropped"] ["self","title"] (defScope zCA):=z5
def zHI (C:af):Sp:=fun vs H Q _=>∃(k dx d dn un:af) (o:Nat) (kvs:List (S×zP)) (ds:List V) (t:S) (v:zP),vs=[.ref k,sv t]/\LgAt H C k dx d dn un o kvs ds/\ds.length<=100/\z3 t/\zE kvs t=some v/\
 ∀d' un' y H',yV k dn H H'->H d'=none->LgAt H' C k dx d' dn un' o (u5 kvs t) (ds++[y])->Q (.ref v.1) H'
theorem zMy {f C:af}{fd:ar}(F:Fun K "drop" "Ledger.drop" zCA f fd)(B:LgC K C)(e:mg "dict"=none)(R:zW P w K mg base 2 "need_name" ["thing"] j6)(T:v3 P w K mg base C 1 "need_title" ["self","title"] (zAv C))(U:v3 P w K mg base C 1 "step_to" ["self","after","word"] (zAu C)):FnOk P w K mg base zS 3 f fd ["self","title"] (zHI C):=by
 refine F.ok zDt (fun vs H Q E h=>?_) (fun W A outer s H vs Q E D h=>?_)
 ·obtain⟨k,a,d,dn,un,o,kvs,l,t,v,rfl,_⟩:=h;rfl
 ·obtain⟨k,a,d,dn,un,o,kvs,l,t,v,rfl,g,m,X,G,Y⟩:=h
  have nd:=zDt.nd
  have I:=D.mono (j:=1) (by decide)
  refine⟨_,zF (yD (zV R D rfl (zA (pv 1) zC))) (zF (yD (kS T I (pv 0) (zA (pv 1) zC))) (zF (zZ (i:=2) nd rfl (Or.inl rfl) (zCa zHB (by rfl) e iC (zA (qB (pv 0) rfl) zC)))
   (zF (zZ (i:=3) nd rfl (Or.inl rfl) (zFO (pv 2) (pv 1) ⟨rfl,rfl,rfl,rfl⟩)) (zF (yD (kS U I (pv 0) (zA (pv 2) (zA yG zC)))) (zI (zT (pv 3))))))),?_⟩
  refine⟨_,rfl,t,rfl,X,fun c n=>?_⟩
  have g1:=g.same n
  refine⟨_,rfl,k,a,_,rfl,g1.ins,rfl,_,rfl,k,a,d,dn,un,o,kvs,l,t,v,rfl,g1,G,?_⟩
  refine⟨_,rfl,k,C,a,_,_,rfl,g1.ins,B.cls,B.now,rfl,d,_,rfl,g1.now,fun p J=>?_⟩
  have L:upd c p (.dK (vA kvs)) p=some (.dK (vA kvs)):=zH
  refine⟨_,rfl,p,rfl,.inl ⟨_,.inl L⟩,_,rfl,_,Sum.inr (tx t),.ref v.1,L,rfl,by rw[zBx,G];rfl,?_⟩
  rw[zHE]
  have q:zB c (upd (upd c p (.dK (vA kvs))) p (.dK (vA (u5 kvs t)))):=fun b u r=>by
   have M:b≠p:=fun z=>by rw[z,J]at r;cases r
   rw[zJ M,zJ M];exact r
  have N:upd (upd c p (.dK (vA kvs))) p (.dK (vA (u5 kvs t))) p=some (.dK (vA (u5 kvs t))):=zH
  generalize upd (upd c p (.dK (vA kvs))) p (.dK (vA (u5 kvs t)))=H2 at q N
  have g2:=g1.same q
  refine⟨_,rfl,k,a,_,rfl,g2.ins,rfl,_,rfl,k,a,d,dn,un,p,o,l,"drop",rfl,g2.ins,g2.don,m,fun y x Z O k4 d4=>?_⟩
  exact⟨_,rfl,Y p x y Z ((yV.of (n.trans q)).trans O) (n.free J) (g2.del O k4 d4 N)⟩
abbrev zCB:bR:=inClass (top 38) 5
theorem zCC:FnScope ["self","title","name","longer"] ["self","title","name"] (defScope zCB):=z5
def zHJ (C:af):Sp:=fun vs H Q _=>∃(k dx d dn un:af) (o:Nat) (kvs:List (S×zP)) (ds:List V) (t x:S) (v:zP),vs=[.ref k,sv t,sv x]/\LgAt H C k dx d dn un o kvs ds/\kvs.length<=100/\ds.length<=100/\z3 t/\z3 x/\zE kvs t=some v/\v.2.length<8/\(∀y∈v.2,z3 y)/\
 ∀a d' un' y H',yV k dn H H'->H d'=none->LgAt H' C k dx d' dn un' o (zO kvs t (a,v.2++[x])) (ds++[y])->Q (.int ((v.2.length+1:Nat):Int)) H'
theorem zMz {f C:af}{fd:ar}(F:Fun K "hear" "Ledger.hear" zCB f fd)(X:LgC K C)(B:Blt mg)(Y:zW P w K mg base 2 "need_name" ["thing"] j6)(cB:zW P w K mg base 3 "need_book" ["thing"] zBf)(mT:v3 P w K mg base C 1 "need_title" ["self","title"] (zAv C))(mW:v3 P w K mg base C 1 "with_book" ["self","title","book"] (zBy C))(mS:v3 P w K mg base C 1 "step_to" ["self","after","word"] (zAu C)):FnOk P w K mg base zS 4 f fd ["self","title","name"] (zHJ C):=by
 refine F.ok zCC (fun vs H Q E h=>?_) (fun ab A outer s H vs Q E l h=>?_)
 ·obtain⟨k,b,d,dn,un,o,kvs,n,t,x,v,rfl,_⟩:=h;rfl
 ·obtain⟨k,b,d,dn,un,o,kvs,n,t,x,v,rfl,g,hl,D,ht,Z,G,h8,hn,kQ⟩:=h
  have hu:=vT l
  have nd:=zCC.nd
  have r2:=l.mono (j:=2) (by decide)
  have I:=l.mono (j:=1) (by decide)
  refine⟨_,zF (yD (zV Y r2 rfl (zA (pv 1) zC))) (zF (yD (zV Y r2 rfl (zA (pv 2) zC))) (zF (yD (kS mT I (pv 0) (zA (pv 1) zC)))
   (zF (zZ (i:=3) nd rfl (Or.inl rfl) (zR zDh (uD hu (qB (pv 0) rfl) (pv 1) (fun _ _=>rfl)) (y6 (zA (pv 2) zC)))) (zF (yD (zV cB l rfl (zA (pv 3) zC)))
   (zF (yD (kS mS I (pv 0) (zA (kS mW I (pv 0) (zA (pv 1) (zA (pv 3) zC))) (zA yG zC)))) (zI (zT (z7 kK (by rfl) B.len b6 (zA (pv 3) zC))))))))),?_⟩
  refine⟨_,rfl,t,rfl,ht,fun H1 s1=>?_⟩
  refine⟨_,rfl,x,rfl,Z,fun q J=>?_⟩
  have L:=s1.trans J
  have g2:=g.same L
  refine⟨_,rfl,k,b,_,rfl,g2.ins,rfl,_,rfl,k,b,d,dn,un,o,kvs,n,t,v,rfl,g2,G,?_⟩
  have dg:=g2.dget t
  rw[G]at dg
  refine⟨_,rfl,k,C,b,_,_,rfl,g2.ins,X.cls,X.now,rfl,_,rfl,d,_,rfl,dg,_,rfl,by show 1<=sizeLine;decide,fun m hm=>?_⟩
  have M:zB q (upd q m (.tup [sv x])):=zB.upd1 hm
  have m3:upd q m (.tup [sv x]) m=some (.tup [sv x]):=zH
  generalize upd q m (.tup [sv x])=H3 at M m3
  have g3:=g2.same M
  have bl:(zD v.2).length=v.2.length:=by unfold zD;rw[ai]
  refine⟨v.1,m,_,_,rfl,rfl,g3.get G,m3,by rw[aP,bl];show v.2.length+1<=_;omega,fun a H4 s4 N=>?_⟩
  have e1:zD v.2++[sv x]=zD (v.2++[x]):=by unfold zD;rw[aL];rfl
  rw[e1]at N
  have O:isBk (v.2++[x]):=⟨by rw[aj,dj];omega,by rw[aj,dj];omega,fun y hy=>(bG.mp hy).elim (hn y) fun z=>by rw[bH.mp z];exact Z⟩
  refine⟨_,rfl,a,v.2++[x],rfl,N,O,fun H5 s5=>?_⟩
  have c:=M.trans (s4.trans s5)
  have r:=g2.same c
  refine⟨_,rfl,k,b,_,rfl,r.ins,rfl,_,rfl,k,b,_,rfl,r.ins,rfl,_,rfl,_,rfl,k,b,d,dn,un,o,kvs,n,t,(a,v.2++[x]),rfl,r,hl,fun p H6 R T hp=>?_⟩
  have e:=r.same R
  have u:=R _ _ (s5 _ _ N)
  refine⟨k,b,d,dn,un,p,o,n,"hear",rfl,e.ins,e.don,D,fun y U H7 W k7 d7=>?_⟩
  refine⟨_,rfl,a,_,rfl,.inr (.of (W _ _ (y8 u e.ins nofun) (y8 u e.don nofun) u)),?_⟩
  have e3:((zD (v.2++[x])).length:Int)=((v.2.length+1:Nat):Int):=by unfold zD;rw[ai,aj];rfl
  rw[e3]
  exact kQ a p U y H7 ((yV.of (L.trans (c.trans R))).trans W) ((L.trans c).free T) (e.put W k7 d7 hp u)
abbrev zDu:bR:=inClass (top 38) 6
theorem zNA:FnScope ["self"] ["self"] (defScope zDu):=z5
def zAO (C:af):Sp:=fun vs H Q _=>∃(k dx d dn un:af) (o:Nat) (kvs:List (S×zP)) (ds:List V),vs=[.ref k]/\LgAt H C k dx d dn un o kvs ds/\kvs.length<64/\∀(l:af) (ts:List S),ts.Perm (kvs.map (·.1))->ts.Pairwise (· < ·)->H l=none->Q (.ref l) (upd H l (.lst (zD ts)))
theorem zDv (z:Str):tx z.cps.toList=z:=MyS.Str_ext (by rw[uY])
theorem zNB {f C:af}{fd:ar}(F:Fun K "titles" "Ledger.titles" zDu f fd)(b:LgC K C)(B:Blt mg):FnOk P w K mg base zS 1 f fd ["self"] (zAO C):=by
 refine F.ok zNA (fun vs H Q E h=>?_) (fun m A outer s H vs Q E x h=>?_)
 ·obtain⟨k,c,d,dn,un,o,kvs,n,rfl,_⟩:=h;rfl
 ·obtain⟨k,c,d,dn,un,o,kvs,n,rfl,g,hl,q⟩:=h
  refine⟨_,zI (zT (z7 (zAh rfl) (by rfl) B.sorted cJ (zA (qB (pv 0) rfl) zC))),?_⟩
  have i:(kvs.map fun p:S×zP=>(tx p.1,V.ref p.2.1)).map (·.1)=(kvs.map (·.1)).map tx:=by rw[aY,aY];rfl
  refine⟨_,rfl,k,C,c,_,_,rfl,g.ins,b.cls,b.now,rfl,d,_,rfl,g.now,?_,by rw[ai];exact hl,fun a l j r t=>?_⟩
  ·rw[i,fk,bM]
   exact gy (fun h e=>h (kR e)) g.nd
  rw[i]at j
  have u:a.map V.str=zD (a.map fun z=>z.cps.toList):=by
   unfold zD
   rw[aY]
   refine cc fun z _=>?_
   show V.str z=V.str (tx z.cps.toList)
   rw[zDv]
  rw[u]
  refine q l _ ?_ (bM.mpr r) t
  have:=j.map (fun z:Str=>z.cps.toList)
  rw[aY]at this
  have v:((fun z:Str=>z.cps.toList) ∘ tx:S->S)=id:=by funext z;show(tx z).cps.toList=z;rw[uY]
  rw[v,mr]at this
  exact this
abbrev zCD:bR:=inClass (top 38) 7
theorem zHK:FnScope ["self","title"] ["self","title"] (defScope zCD):=z5
def zHL (C:af):Sp:=fun vs H Q _=>∃(k dx d dn un:af) (o:Nat) (kvs:List (S×zP)) (ds:List V) (t:S) (v:zP),vs=[.ref k,sv t]/\LgAt H C k dx d dn un o kvs ds/\z3 t/\zE kvs t=some v/\∀H',zB H H'->Q (.ref v.1) H'
theorem zNC {f C:af}{fd:ar}(F:Fun K "book" "Ledger.book" zCD f fd)(c:LgC K C)(n:zW P w K mg base 2 "need_name" ["thing"] j6)(p:v3 P w K mg base C 1 "need_title" ["self","title"] (zAv C)):FnOk P w K mg base zS 3 f fd ["self","title"] (zHL C):=by
 refine F.ok zHK (fun vs H Q E h=>?_) (fun q A outer s H vs Q E b h=>?_)
 ·obtain⟨k,a,d,dn,un,o,kvs,e,t,v,rfl,_⟩:=h;rfl
 ·obtain⟨k,a,d,dn,un,o,kvs,e,t,v,rfl,g,r,i,u⟩:=h
  have x:=vT b
  have y:=b.mono (j:=1) (by decide)
  refine⟨_,zF (yD (zV n b rfl (zA (pv 1) zC))) (zF (yD (kS p y (pv 0) (zA (pv 1) zC))) (zI (zT (uD x (qB (pv 0) rfl) (pv 1) (fun _ _=>rfl))))),?_⟩
  refine⟨_,rfl,t,rfl,r,fun z l=>?_⟩
  have g1:=g.same l
  refine⟨_,rfl,k,a,_,rfl,g1.ins,rfl,_,rfl,k,a,d,dn,un,o,kvs,e,t,v,rfl,g1,i,?_⟩
  have m:=g1.dget t
  rw[i]at m
  exact⟨_,rfl,k,C,a,_,_,rfl,g1.ins,c.cls,c.now,rfl,_,rfl,d,_,rfl,m,u z l⟩
end
theorem zHM (x:S)(l:List S):inV (sv x) (zD l)=decide (x∈l):=by
 unfold inV zD
 rw[List.any_map]
 induction l with
 |nil=>simp
 |cons y l ih=>
  rw[c8,ih]
  have e:qX (sv y) (sv x)=decide (x=y):=by
   show((tx y)==(tx x))=_
   by_cases z:x=y
   ·subst z;simp
   ·rw[decide_eq_false z,beq_eq_false_iff_ne]
    exact fun q=>z (kR q).symm
  show(qX (sv y) (sv x)||_)=_
  rw[e]
  by_cases z:x=y
  ·subst z;simp
  ·simp[z]
theorem zHN (l:List S):(zD l).all jV=true:=by
 unfold zD
 rw[lH]
 exact c9.mpr fun _ _=>rfl
theorem zAP {l:List S}{i:Nat}{x:V}(h:(zD l)[i]?=some x):∃y,l[i]?=some y/\x=sv y:=by
 unfold zD at h
 rw[az]at h
 cases e:l[i]? with
 |none=>rw[e]at h;cases h
 |some y=>rw[e]at h;exact⟨y,rfl,(aq h).symm⟩
theorem zHO {X:Cx}(a:aa)(b:X.K=a):z9 X (compareOp .In) (rIn a false):=by
 subst b;exact zJd
theorem zAw {X:Cx}(a:aa)(c:X.K=a){e:bq}{f:Str}{pos:Pos}{b:TE}(he:PE X e b)(d:attributeBase e f X.env (eval e X.env)=eval e X.env):PE X (.Attribute e f pos) (zEt a b f):=by
 subst c;exact qB he d
def vN (kvs:List (S×zP))(ts:List S):Prop:=ts.Perm (kvs.map (·.1))/\ts.Pairwise (· < ·)
def qP (kvs:List (S×zP))(t:S):zP:=(zE kvs t).getD (0,[])
abbrev zY (kvs:List (S×zP))(t:S):List S:=(qP kvs t).2
theorem vN.get {kvs:List (S×zP)}{ts:List S}(h:vN kvs ts){t:S}(a:t∈ts):zE kvs t=some (qP kvs t):=by
 have b:=h.1.mem_iff.mp a
 cases e:zE kvs t with
 |none=>exact absurd b (gC.mp e)
 |some v=>unfold qP;rw[e];rfl
theorem vN.mem {kvs:List (S×zP)}{ts:List S}(nd:(kvs.map (·.1)).Nodup)(h:vN kvs ts){t:S}(a:t∈ts):(t,qP kvs t)∈kvs:=(v9 nd t _).mpr (h.get a)
def uA (ts:List S):Option Nat->V
 |none=>.non
 |some i=>(ts[i]?.map sv).getD .non
section
variable{P:aw}{w:aI}{K:aa}{mg:Str->Option ae}{base:bc}
abbrev zCE:bR:=inClass (top 38) 8
theorem zHP:FnScope ["self","name"] ["self","name"] (defScope zCE):=z5
theorem zND:(["name","self","title"]:List Str).Nodup:=by decide+kernel
def zHQ (C:af):Sp:=fun vs H Q _=>∃(k dx d dn un:af) (o:Nat) (kvs:List (S×zP)) (ds:List V) (x:S),vs=[.ref k,sv x]/\LgAt H C k dx d dn un o kvs ds/\kvs.length<64/\z3 x/\∀(l:af) (ts:List S) H',vN kvs ts->zB H H'->H' l=some (.lst (zD (ts.filter fun t=>decide (x∈zY kvs t))))->Q (.ref l) H'
theorem zNE {f C:af}{fd:ar}(F:Fun K "tellers" "Ledger.tellers" zCE f fd)(v:LgC K C)(M:zW P w K mg base 2 "need_name" ["thing"] j6)(O:v3 P w K mg base C 1 "titles" ["self"] (zAO C)):FnOk P w K mg base zS 3 f fd ["self","name"] (zHQ C):=by
 refine F.ok zHP (fun vs H Q E h=>?_) (fun R A outer s H vs Q E n h=>?_)
 ·obtain⟨k,c,d,dn,un,o,kvs,B,x,rfl,_⟩:=h;rfl
 ·obtain⟨k,c,d,dn,un,o,kvs,B,x,rfl,g,hl,T,U⟩:=h
  have W:=vT n
  have Y:=n.mono (j:=1) (by decide)
  refine⟨_,zF (yD (zV M n rfl (zA (pv 1) zC))) (zI (zT (uL (N:=["name","self","title"]) (caps:=[1,0]) rfl (uM (by kernel_rfl)) (jQ (zBv O Y (pv 0)))
    (fun cl X s H ex=>yY (i:=2) zND rfl (Or.inl rfl)) (fun cl X s H ex=>zCk (yM (zHO K rfl) (pv 0) (uD W (zAw K rfl (pv 1) rfl) (pv 2) (fun _ _=>rfl)) (by with_unfolding_all rfl))) (fun cl X s H ex=>pv 2)))),?_⟩
  refine⟨_,rfl,x,rfl,T,fun e G=>?_⟩
  have g1:=g.same G
  refine⟨_,rfl,k,c,_,rfl,g1.ins,rfl,k,c,d,dn,un,o,kvs,B,rfl,g1,hl,fun l ts I Z hn=>?_⟩
  have it:vN kvs ts:=⟨I,Z⟩
  have p:zB e (upd e l (.lst (zD ts))):=zB.upd1 hn
  have q:upd e l (.lst (zD ts)) l=some (.lst (zD ts)):=zH
  generalize upd e l (.lst (zD ts))=H2 at p q
  have g2:=g1.same p
  have tl:ts.length=kvs.length:=by rw[I.length_eq,ai]
  have bl:(zD ts).length=ts.length:=by unfold zD;rw[ai]
  refine⟨l,rfl,⟨_,.of q⟩,?_⟩
  refine zBW (jY K l (zD ts)) [some (sv x),some (.ref k)] 1 (by omega) (fun i a H'=>H'=H2/\a=zD ((ts.take i).filter fun t=>decide (x∈zY kvs t)))
   ⟨rfl,rfl⟩ (fun i a H' _ h=>⟨.of (by rw[h.1];exact q),by
    rw[h.2];unfold zD;rw[ai]
    exact bV (bF ..) (by rw[aV];omega)⟩) ?_ ?_
  ·rintro i y a H' ys Nx J hy r ⟨rfl,rfl⟩
   obtain⟨z,rfl⟩:=uT r
   obtain⟨t,u,rfl⟩:=zAP hy
   have hi:i<ts.length:=(ag.mp u).1
   have b:ts.take (i+1)=ts.take i++[t]:=by rw[ax hi,(ag.mp u).2]
   have gt:=it.get (aH u)
   have L:=g2.dget t
   rw[gt]at L
   refine⟨_,rfl,_,rfl,k,C,c,_,_,rfl,g2.ins,v.cls,v.now,rfl,_,rfl,d,_,rfl,L,(qP kvs t).1,_,rfl,.inr (.of (g2.get gt)),rfl,zHN _,_,rfl,?_⟩
   rw[if_neg aC,zHM]
   by_cases m:x∈zY kvs t
   ·refine vH m ⟨_,rfl,J _ _ [_] rfl ⟨rfl,?_⟩⟩
    rw[b,cI];unfold zD;rw[aL];congr 1;simp[m]
   ·refine yK m (J _ _ [_] rfl ⟨rfl,?_⟩)
    rw[b,cI];simp[m]
  rintro a H' ⟨rfl,rfl⟩ D hD
  rw[bl,aX]
  exact U D ts _ it ((G.trans p).trans (zB.upd1 hD)) zH
abbrev zCF:bR:=inClass (top 38) 9
theorem zHR:FnScope ["self","name"] ["self","name"] (defScope zCF):=z5
theorem zHS:(["self","name","title"]:List Str).Nodup:=by decide+kernel
def zHT (C:af):Sp:=fun vs H Q _=>∃(k dx d dn un:af) (o:Nat) (kvs:List (S×zP)) (ds:List V) (x:S),vs=[.ref k,sv x]/\LgAt H C k dx d dn un o kvs ds/\kvs.length<64/\z3 x/\(∀q∈kvs,Fit q.2.2 o x)/\∀(l:af) (ts:List S) H',vN kvs ts->zB H H'->H' l=some (.lst (zD (ts.filter fun t=>decide (vZ (zY kvs t) o x))))->Q (.ref l) H'
theorem zNF {f C:af}{fd:ar}(F:Fun K "makers_of" "Ledger.makers_of" zCF f fd)(m:LgC K C)(R:zW P w K mg base 2 "need_name" ["thing"] j6)(T:zW P w K mg base 7 "makes" ["book","order","name"] zGU)(U:v3 P w K mg base C 1 "titles" ["self"] (zAO C)):FnOk P w K mg base zS 8 f fd ["self","name"] (zHT C):=by
 refine F.ok zHR (fun vs H Q E h=>?_) (fun W A outer s H vs Q E n h=>?_)
 ·obtain⟨k,b,d,dn,un,o,kvs,G,x,rfl,_⟩:=h;rfl
 ·obtain⟨k,b,d,dn,un,o,kvs,G,x,rfl,g,hl,Y,Z,kQ⟩:=h
  have hu:=vT n
  have r2:=n.mono (j:=2) (by decide)
  have r1:=n.mono (j:=1) (by decide)
  refine⟨_,zF (yD (zV R r2 rfl (zA (pv 1) zC))) (zI (zT (uL (N:=["self","name","title"]) (caps:=[0,1]) rfl (uM (by kernel_rfl)) (jQ (zBv U r1 (pv 0)))
    (fun cl X s H ex=>yY (i:=2) zHS rfl (Or.inl rfl)) (fun cl X s H ex=>zCk (v5 (zV T n rfl (zA (uD hu (zAw K rfl (pv 0) rfl) (pv 2) (fun _ _=>rfl)) (zA (zAw K rfl (pv 0) rfl) (zA (pv 1) zC)))))) (fun cl X s H ex=>pv 2)))),?_⟩
  refine⟨_,rfl,x,rfl,Y,fun p I=>?_⟩
  have g1:=g.same I
  refine⟨_,rfl,k,b,_,rfl,g1.ins,rfl,k,b,d,dn,un,o,kvs,G,rfl,g1,hl,fun l ts J hs hn=>?_⟩
  have it:vN kvs ts:=⟨J,hs⟩
  have u:zB p (upd p l (.lst (zD ts))):=zB.upd1 hn
  have v:upd p l (.lst (zD ts)) l=some (.lst (zD ts)):=zH
  generalize upd p l (.lst (zD ts))=H2 at u v
  have g2:=g1.same u
  have tl:ts.length=kvs.length:=by rw[J.length_eq,ai]
  have bl:(zD ts).length=ts.length:=by unfold zD;rw[ai]
  refine⟨l,rfl,⟨_,.of v⟩,?_⟩
  refine zBW (jY K l (zD ts)) [some (.ref k),some (sv x)] 1 (by omega) (fun i a H'=>zB H2 H'/\a=zD ((ts.take i).filter fun t=>decide (vZ (zY kvs t) o x)))
   ⟨zB.refl _,rfl⟩ (fun i a H' _ h=>⟨.of (h.1 _ _ v),by
    rw[h.2];unfold zD;rw[ai]
    exact bV (bF ..) (by rw[aV];omega)⟩) ?_ ?_
  ·rintro i y a H' ys Nx L hy B ⟨c,rfl⟩
   obtain⟨z,rfl⟩:=uT B
   obtain⟨t,q,rfl⟩:=zAP hy
   have hi:i<ts.length:=(ag.mp q).1
   have e:ts.take (i+1)=ts.take i++[t]:=by rw[ax hi,(ag.mp q).2]
   have gt:=it.get (aH q)
   have g3:=g2.same c
   have M:=g3.dget t
   rw[gt]at M
   refine⟨_,rfl,k,C,b,_,_,rfl,g3.ins,m.cls,m.now,rfl,_,rfl,d,_,rfl,M,_,rfl,k,C,b,_,_,rfl,g3.ins,m.cls,m.ord,rfl,_,rfl,(qP kvs t).1,zY kvs t,o,x,rfl,g3.get gt,Z _ (it.mem g.nd (aH q)),fun H5 O=>⟨_,rfl,?_⟩⟩
   by_cases r:vZ (zY kvs t) o x
   ·refine vH r ⟨_,rfl,L _ _ [_] rfl ⟨c.trans O,?_⟩⟩
    rw[e,cI];unfold zD;rw[aL];congr 1;simp[r]
   ·refine yK r (L _ _ [_] rfl ⟨c.trans O,?_⟩)
    rw[e,cI];simp[r]
  rintro a H' ⟨c,rfl⟩ D hD
  rw[bl,aX]
  exact kQ D ts _ it (((I.trans u).trans c).trans (zB.upd1 hD)) zH
abbrev zCG:bR:=inClass (top 38) 10
theorem zDw:FnScope ["self","name","titles","place"] ["self","name"] (defScope zCG):=z5
def zHU (C:af):Sp:=fun vs H Q _=>∃(k dx d dn un:af) (o:Nat) (kvs:List (S×zP)) (ds:List V) (x:S),vs=[.ref k,sv x]/\LgAt H C k dx d dn un o kvs ds/\kvs.length<64/\z3 x/\(∀q∈kvs,Fit q.2.2 o x)/\∀(ts:List S) H',vN kvs ts->zB H H'->Q (uA ts (j8 (ts.map fun t=>y9 (zU o (zY kvs t)) o x))) H'
theorem zNG {f C:af}{fd:ar}(F:Fun K "best_of" "Ledger.best_of" zCG f fd)(p:LgC K C)(cN:zW P w K mg base 2 "need_name" ["thing"] j6)(cS:zW P w K mg base 6 "share" ["book","order","name"] (zDT K))(cP:zW P w K mg base 2 "place_of_greatest" ["fractions"] (zGy K))(mT:v3 P w K mg base C 1 "titles" ["self"] (zAO C)):FnOk P w K mg base zS 7 f fd ["self","name"] (zHU C):=by
 refine F.ok zDw (fun vs H Q E h=>?_) (fun ab A outer s H vs Q E b h=>?_)
 ·obtain⟨k,c,d,dn,un,o,kvs,T,x,rfl,_⟩:=h;rfl
 ·obtain⟨k,c,d,dn,un,o,kvs,T,x,rfl,g,hl,hx,U,kQ⟩:=h
  have hu:=vT b
  have nd:=zDw.nd
  have W:=b.mono (j:=2) (by decide)
  have r1:=b.mono (j:=1) (by decide)
  refine⟨_,zF (yD (zV cN W rfl (zA (pv 1) zC))) (zF (zZ (i:=2) nd rfl (Or.inl rfl) (zBv mT r1 (pv 0)))
   (zF (zZ (i:=3) nd rfl (Or.inl rfl) (zV cP W rfl (zA (uL (N:=["self","name","title"]) (caps:=[0,1]) rfl (uM (by kernel_rfl)) (jQ (pv 2))
    (fun cl X s H ex=>yY (i:=2) zHS rfl (Or.inl rfl)) (fun cl X s H ex=>qF) (fun cl X s H ex=>zV cS b rfl (zA (uD hu (zAw K rfl (pv 0) rfl) (pv 2) (fun _ _=>rfl)) (zA (zAw K rfl (pv 0) rfl) (zA (pv 1) zC))))) zC)))
   (zI (zT (gN (yM zIw (pv 3) u7 (yZ _)) u7 (vG kZ (pv 2) (pv 3) (fun _ _=>rfl))))))),?_⟩
  refine⟨_,rfl,x,rfl,hx,fun u Y=>?_⟩
  have g1:=g.same Y
  refine⟨_,rfl,k,c,_,rfl,g1.ins,rfl,k,c,d,dn,un,o,kvs,T,rfl,g1,hl,fun l ts Z hs hn=>?_⟩
  have it:vN kvs ts:=⟨Z,hs⟩
  have M:zB u (upd u l (.lst (zD ts))):=zB.upd1 hn
  have B:upd u l (.lst (zD ts)) l=some (.lst (zD ts)):=zH
  generalize upd u l (.lst (zD ts))=H2 at M B
  have g2:=g1.same M
  have tl:ts.length=kvs.length:=by rw[Z.length_eq,ai]
  have bl:(zD ts).length=ts.length:=by unfold zD;rw[ai]
  refine⟨_,rfl,l,rfl,⟨_,.of B⟩,?_⟩
  refine qH (jY K l (zD ts)) [some (.ref k),some (sv x)] 1 (by omega) (fun i a H'=>zB H2 H'/\FrsAt K H' a ((ts.take i).map fun t=>y9 (zU o (zY kvs t)) o x))
   ⟨zB.refl _,FrsAt.nil⟩ (fun i a H' _ h=>⟨.of (h.1 _ _ B),by rw[h.2.len,ai,aV];omega⟩) ?_ ?_
  ·rintro i y a H' ys Nx hN hy O ⟨G,I⟩
   obtain⟨z,rfl⟩:=uT O
   obtain⟨t,J,rfl⟩:=zAP hy
   have hi:i<ts.length:=(ag.mp J).1
   have R:ts.take (i+1)=ts.take i++[t]:=by rw[ax hi,(ag.mp J).2]
   have gt:=it.get (aH J)
   have g3:=g2.same G
   have dg:=g3.dget t
   rw[gt]at dg
   refine⟨_,rfl,k,C,c,_,_,rfl,g3.ins,p.cls,p.now,rfl,_,rfl,d,_,rfl,dg,_,rfl,k,C,c,_,_,rfl,g3.ins,p.cls,p.ord,rfl,_,rfl,(qP kvs t).1,zY kvs t,o,x,rfl,g3.get gt,U _ (it.mem g.nd (aH J)),fun v H5 e fr=>hN _ _ [_] rfl ⟨G.trans e,?_⟩⟩
   rw[R,aL]
   exact(I.same e).snoc fr
  rintro a H' ⟨G,I⟩ D hD
  rw[bl,aX]at I
  have s4:zB H' (upd H' D (.lst a)):=zB.upd1 hD
  have m:=G.trans s4
  refine⟨D,a,_,rfl,zH,I.same s4,fun q hq=>?_,fun H5 e=>?_⟩
  ·obtain⟨t,ht,rfl⟩:=aM.mp hq
   have ft:=U _ (it.mem g.nd ht)
   exact(zDP (zAq ft.toBk).1 ft.pw).vx
  have l5:=(m.trans e) _ _ B
  have L:=kQ ts H5 it ((Y.trans M).trans (m.trans e))
  have ip:IsPlace (ts.map fun t=>y9 (zU o (zY kvs t)) o x) (j8 (ts.map fun t=>y9 (zU o (zY kvs t)) o x)):=zMl fun r b=>by
   obtain⟨t,_,rfl⟩:=aM.mp b
   exact(zFs _ _ _).dn
  generalize j8 (ts.map fun t=>y9 (zU o (zY kvs t)) o x)=pl at L ip
  refine⟨_,rfl,rfl,_,rfl,?_⟩
  cases ip with
  |no h=>exact vH rfl L
  |at_ i q hi _ _ _=>
   have n:i<ts.length:=by
    have:=(ag.mp hi).1
    rw[ai]at this;exact this
   have eb:uA ts (some i)=sv ts[i]:=by show(ts[i]?.map sv).getD .non=_;rw[aG n];rfl
   rw[eb]at L
   refine yK (fun z=>by cases z) ⟨_,rfl,_,rfl,l,_,_,sv ts[i],rfl,rfl,.of l5,?_,L⟩
   refine vJ (j:=i) ?_
   unfold zD
   rw[az,aG n];rfl
end
def qJ (P:aw)(w:aI)(K:aa)(mg:Str->Option ae)(base:bc)(C:af)(k:Nat)(m:Str)(ps:List Str)(sp:Sp):Prop :=
 ∃(f:af) (fd:ar),FnOk P w K mg base (y7 P w) k f fd ps sp/\Meth K C m f/\Cls K C/\vF K fd ps []
theorem jE {X:Cx}{C:af}{k:Nat}{m:Str}{j:List Str}{sp:Sp}{pl:Sem Bool}{apos pos:Pos}{o e:bq}{a:List bq}{h:TE}{t:TA}{E:XK}(M:qJ X.prog X.w X.K X.mg X.base C k m j sp)(ok:uJ (y7 X.prog X.w) X E)(l:Room k X.A)(he:PE X o h)(n:PA X (e::a) t)
  (d:starEach (e::a) X.env=(false,eval e X.env)::starEach a X.env:=by rfl) (g:(backTo pos (starEach a X.env)).any (·.1)=false:=by rfl)
  (p:eval (.Call (.Attribute o m apos) (e::a) [] pos) X.env=(do
   let i<-eval o X.env
   standAt apos.atName
   let(f,first)<-holding [i] (getMethod i m pl)
   callWith pos f first (backTo pos (starEach (e::a) X.env)) (backToKw pos (keywordEach [] X.env))):=by rfl) :
  PE X (.Call (.Attribute o m apos) (e::a) [] pos) (zAb C m sp [] E h t):=by
 obtain⟨f,fd,F,q,c,b⟩:=M
 exact zEw (pl:=pl) he c q F l b .nil ok n d g p
def zDx (P:aw)(w:aI)(K:aa)(mg:Str->Option ae)(base:bc)(C:af)(k:Nat)(x:Str)(ps:List Str)(sp:Sp):Prop :=
 ∃(f:af) (fd:ar),FnOk P w K mg base (y7 P w) k f fd ps sp/\L2.Mk K C f/\mg x=some (.ref C)/\vF K fd ps []
theorem zNH {X:Cx}{C:af}{k:Nat}{x:Str}{g:List Str}{sp:Sp}{p pos:Pos}{e:bq}{a:List bq}{t:TA}{E:XK}(M:zDx X.prog X.w X.K X.mg X.base C k x g sp)(ok:uJ (y7 X.prog X.w) X E)(h:Room (k+1) X.A)(i:Gl X x)(j:PA X (e::a) t)
  (c:(x==("__debug__" : Str))=false:=by decide) (he:starEach (e::a) X.env=(false,eval e X.env)::starEach a X.env:=by rfl) (d:(backTo pos (starEach a X.env)).any (·.1)=false:=by rfl) :
  PE X (.Call (.Name x p) (e::a) [] pos) (zBN C sp [] E t):=by
 obtain⟨f,fd,F,mk,l,b⟩:=M
 exact zEx mk F h i l b .nil ok j c he d
section
variable{P:aw}{w:aI}{K:aa}{mg:Str->Option ae}{base:bc}
theorem gI {k:Nat}{f:af}{fd:ar}{b:List Str}{sp a:Sp}(F:FnOk P w K mg base zS k f fd b sp)(G:FnOk P w K mg base (y7 P w) k f fd b a):FnOk P w K mg base (y7 P w) k f fd b (fun vs H Q E=>sp vs H Q E\/a vs H Q E):=by
 refine⟨fun vs H Q E h=>h.elim (F.len _ _ _ _) (G.len _ _ _ _),fun A outer s H args us vs Q E d he g i j=>?_⟩
 rcases j with h|h
 ·refine dS (F.run A outer s H args us vs Q E d he g i h) fun res s' c=>?_
  cases res with
  |error e=>exact c.elim
  |ok l=>cases l<;>exact c
 ·exact G.run A outer s H args us vs Q E d he g i h
theorem tf {b:Bool}{A:Prop}(h:b=true)(z:b=false):A:=by rw[h]at z;cases z
def zAx (C nt:af):Sp:=fun vs H Q E=>∃(k dx d dn un:af) (o:Nat) (kvs:List (S×zP)) (ds:List V) (t:S),vs=[.ref k,sv t]/\LgAt H C k dx d dn un o kvs ds/\((zE kvs t).isSome=true->Q .non H)/\(zE kvs t=none->E (.ref nt) none H)
theorem zNI {f C nt:af}{fd:ar}(F:Fun K "need_title" "Ledger.need_title" sNT f fd)(a:LgC K C)(O:XCls K mg "Nothing" nt):FnOk P w K mg base (y7 P w) 1 f fd ["self","title"] (zAx C nt):=by
 refine F.okR zHF (fun vs H Q E h=>?_) (fun c A outer s H vs Q E i h ok=>?_)
 ·obtain⟨k,b,d,dn,un,o,kvs,j,t,rfl,_⟩:=h;rfl
 ·obtain⟨k,b,d,dn,un,o,kvs,j,t,rfl,g,k1,k2⟩:=h
  have l:=vT i
  refine⟨_,zI (yE (kX (zAe l (pv 1) (qB (pv 0) rfl))) (zI (zBp ok rfl O (by rfl) (zA yG zC))) yC),?_⟩
  refine⟨_,rfl,_,rfl,k,C,b,_,_,rfl,g.ins,a.cls,a.now,rfl,d,_,rfl,g.dget t,_,rfl,?_⟩
  cases e:zE kvs t with
  |none=>exact yJ ⟨by show 1<=sizeLine;decide,k2 e⟩
  |some v=>exact yA (k1 (by rw[e];rfl))
def zAQ (nn:af):Sp:=fun vs H Q E=>∃(k:af) (u:V) (d:ba),vs=[.ref k,u]/\zM H d u/\sml d=true/\yL d=false/\∀H',zB H H'->E (.ref nn) none H'
theorem zNJ {f a:af}{fd:ar}(F:Fun K "tellers" "Ledger.tellers" zCE f fd)(b:uO P w K mg base 2 "need_name" ["thing"] (u3 a yL)):FnOk P w K mg base (y7 P w) 3 f fd ["self","name"] (zAQ a):=by
 refine F.okR zHP (fun vs H Q E h=>?_) (fun c A outer s H vs Q E e h ok=>?_)
 ·obtain⟨k,u,d,rfl,_⟩:=h;rfl
 ·obtain⟨k,u,d,rfl,hd,g,nd,kE⟩:=h
  exact⟨_,zF (yD (qO b ok.pass e rfl (zA (pv 1) zC))) jP,_,rfl,u,d,rfl,hd,g,fun z=>tf z nd,fun _=>kE⟩
theorem zNK {f a:af}{fd:ar}(F:Fun K "makers_of" "Ledger.makers_of" zCF f fd)(b:uO P w K mg base 2 "need_name" ["thing"] (u3 a yL)):FnOk P w K mg base (y7 P w) 8 f fd ["self","name"] (zAQ a):=by
 refine F.okR zHR (fun vs H Q E h=>?_) (fun c A outer s H vs Q E e h ok=>?_)
 ·obtain⟨k,u,d,rfl,_⟩:=h;rfl
 ·obtain⟨k,u,d,rfl,hd,g,nd,kE⟩:=h
  exact⟨_,zF (yD (qO b ok.pass (e.mono (by decide)) rfl (zA (pv 1) zC))) jP,_,rfl,u,d,rfl,hd,g,fun z=>tf z nd,fun _=>kE⟩
theorem zNL {f a:af}{fd:ar}(F:Fun K "best_of" "Ledger.best_of" zCG f fd)(b:uO P w K mg base 2 "need_name" ["thing"] (u3 a yL)):FnOk P w K mg base (y7 P w) 7 f fd ["self","name"] (zAQ a):=by
 refine F.okR zDw (fun vs H Q E h=>?_) (fun c A outer s H vs Q E e h ok=>?_)
 ·obtain⟨k,u,d,rfl,_⟩:=h;rfl
 ·obtain⟨k,u,d,rfl,hd,g,nd,kE⟩:=h
  exact⟨_,zF (yD (qO b ok.pass (e.mono (by decide)) rfl (zA (pv 1) zC))) jP,_,rfl,u,d,rfl,hd,g,fun z=>tf z nd,fun _=>kE⟩
def zDy (no:af):Sp:=fun vs H Q E=>∃(k:af) (u:V) (d:ba),vs=[.ref k,u]/\zM H d u/\sml d=true/\gH d=false/\∀H',zB H H'->E (.ref no) none H'
theorem zNM {f no:af}{fd:ar}(F:Fun K "__init__" "Ledger.__init__" sLI f fd)(a:uO P w K mg base 3 "need_order" ["thing"] (u3 no gH)):FnOk P w K mg base (y7 P w) 4 f fd ["self","order"] (zDy no):=by
 refine F.okR zHD (fun vs H Q E h=>?_) (fun b A outer s H vs Q E c h ok=>?_)
 ·obtain⟨k,u,d,rfl,_⟩:=h;rfl
 ·obtain⟨k,u,d,rfl,hd,e,nd,kE⟩:=h
  exact⟨_,zF (yD (qO a ok.pass c rfl (zA (pv 1) zC))) jP,_,rfl,u,d,rfl,hd,e,fun z=>tf z nd,fun _=>kE⟩
def zCH (C nn nt:af):Sp:=fun vs H Q E=>∃(k:af) (u:V),vs=[.ref k,u]/\((∃d:ba,zM H d u/\sml d=true/\yL d=false/\∀H',zB H H'->E (.ref nn) none H')\/
 ∃(dx d dn un:af) (o:Nat) (kvs:List (S×zP)) (ds:List V) (t:S),u=sv t/\z3 t/\LgAt H C k dx d dn un o kvs ds/\zE kvs t=none/\∀H',zB H H'->E (.ref nt) none H')
theorem qK {t:S}(h:z3 t):sml (.str (tx t))=true:=by
 unfold sml
 rw[yP,uY,bC]
 refine⟨decide_eq_true (by have:=h.2.1;omega),c9.mpr fun c a=>decide_eq_true ?_⟩
 have:=h.2.2 c a
 omega
theorem zNN {f C a nt:af}{fd:ar}(F:Fun K "drop" "Ledger.drop" zCA f fd)(j:uO P w K mg base 2 "need_name" ["thing"] (u3 a yL))(l:qJ P w K mg base C 1 "need_title" ["self","title"] (zAx C nt)):FnOk P w K mg base (y7 P w) 3 f fd ["self","title"] (zCH C a nt):=by
 refine F.okR zDt (fun vs H Q E h=>?_) (fun m A outer s H vs Q E b h ok=>?_)
 ·obtain⟨k,u,rfl,_⟩:=h;rfl
 ·obtain⟨k,u,rfl,h⟩:=h
  refine⟨_,zF (yD (qO j ok.pass b rfl (zA (pv 1) zC))) (zF (yD (jE l ok.pass (b.mono (by decide)) (pv 0) (zA (pv 1) zC))) jP),?_⟩
  rcases h with⟨d,hd,n,nd,kE⟩|⟨c,d,dn,un,o,kvs,p,t,rfl,e,g,q,kE⟩
  ·exact⟨_,rfl,u,d,rfl,hd,n,fun z=>tf z nd,fun _=>kE⟩
  ·refine⟨_,rfl,sv t,.str (tx t),rfl,rfl,qK e,fun _ r i=>?_,fun z=>tf (zAJ e) z⟩
   have g1:=g.same i
   refine⟨_,rfl,k,c,_,rfl,g1.ins,rfl,_,rfl,k,c,d,dn,un,o,kvs,p,t,rfl,g1,fun z=>?_,fun _=>kE r i⟩
   rw[q]at z;cases z
theorem zNO {f C a nt:af}{fd:ar}(F:Fun K "book" "Ledger.book" zCD f fd)(j:uO P w K mg base 2 "need_name" ["thing"] (u3 a yL))(l:qJ P w K mg base C 1 "need_title" ["self","title"] (zAx C nt)):FnOk P w K mg base (y7 P w) 3 f fd ["self","title"] (zCH C a nt):=by
 refine F.okR zHK (fun vs H Q E h=>?_) (fun m A outer s H vs Q E b h ok=>?_)
 ·obtain⟨k,u,rfl,_⟩:=h;rfl
 ·obtain⟨k,u,rfl,h⟩:=h
  refine⟨_,zF (yD (qO j ok.pass b rfl (zA (pv 1) zC))) (zF (yD (jE l ok.pass (b.mono (by decide)) (pv 0) (zA (pv 1) zC))) jP),?_⟩
  rcases h with⟨d,hd,n,nd,kE⟩|⟨c,d,dn,un,o,kvs,p,t,rfl,e,g,q,kE⟩
  ·exact⟨_,rfl,u,d,rfl,hd,n,fun z=>tf z nd,fun _=>kE⟩
  ·refine⟨_,rfl,sv t,.str (tx t),rfl,rfl,qK e,fun _ r i=>?_,fun z=>tf (zAJ e) z⟩
   have g1:=g.same i
   refine⟨_,rfl,k,c,_,rfl,g1.ins,rfl,_,rfl,k,c,d,dn,un,o,kvs,p,t,rfl,g1,fun z=>?_,fun _=>kE r i⟩
   rw[q]at z;cases z
def zHV (nn nb:af):Sp:=fun vs H Q E=>∃(k:af) (u b:V) (d e:ba),vs=[.ref k,u,b]/\zM H d u/\sml d=true/\zM H e b/\sml e=true/\((yL d=false/\∀H',zB H H'->E (.ref nn) none H')\/(yL d=true/\uU e=false/\∀H',zB H H'->E (.ref nb) none H'))
theorem zNP {f c g:af}{fd:ar}(F:Fun K "keep" "Ledger.keep" zBz f fd)(l:uO P w K mg base 2 "need_name" ["thing"] (u3 c yL))(m:uO P w K mg base 3 "need_book" ["thing"] (u3 g uU)):FnOk P w K mg base (y7 P w) 4 f fd ["self","title","book"] (zHV c g):=by
 refine F.okR zDs (fun vs H Q E h=>?_) (fun n A outer s H vs Q E i h ok=>?_)
 ·obtain⟨k,u,b,d,e,rfl,_⟩:=h;rfl
 ·obtain⟨k,u,b,d,e,rfl,hd,o,he,p,h⟩:=h
  refine⟨_,zF (yD (qO l ok.pass (i.mono (by decide)) rfl (zA (pv 1) zC))) (zF (yD (qO m ok.pass i rfl (zA (pv 2) zC))) jP),?_⟩
  refine⟨_,rfl,u,d,rfl,hd,o,fun z j a=>?_,fun z j a=>?_⟩
  ·refine⟨_,rfl,b,e,rfl,zM.same a _ _ he,p,fun y=>?_,fun y q r=>?_⟩
   ·rcases h with h|h
    ·exact tf z h.1
    ·exact tf y h.2.1
   ·rcases h with h|h
    ·exact tf z h.1
    ·exact h.2.2 q (a.trans r)
  ·rcases h with h|h
   ·exact h.2 j a
   ·exact tf h.1 z
def zHW (C nn nb nt:af):Sp:=fun vs H Q E=>∃(k:af) (u y:V) (d e:ba),vs=[.ref k,u,y]/\zM H d u/\sml d=true/\zM H e y/\sml e=true/\((yL d=false/\∀H',zB H H'->E (.ref nn) none H')\/(yL d=true/\yL e=false/\∀H',zB H H'->E (.ref nn) none H')\/
 ∃(dx dd dn un:af) (o:Nat) (kvs:List (S×zP)) (ds:List V) (t x:S),u=sv t/\y=sv x/\z3 t/\z3 x/\LgAt H C k dx dd dn un o kvs ds/\((zE kvs t=none/\∀H',zB H H'->E (.ref nt) none H')\/∃v,zE kvs t=some v/\v.2.length=8/\(∀z∈v.2,z3 z)/\∀H',zB H H'->E (.ref nb) none H'))
theorem zHX {l:List S}(h:∀z∈l,z3 z):smls (l.map fun x=>PyData.str (tx x))=true:=by
 induction l with
 |nil=>rfl
 |cons a l ih=>
  unfold smls
  rw[aF]
  show(sml _&&smls _)=true
  rw[qK (h a (av ..)),ih fun z b=>h z (au _ b)];rfl
theorem zNQ {f C L M nt:af}{fd:ar}(F:Fun K "hear" "Ledger.hear" zCB f fd)(N:LgC K C)(O:uO P w K mg base 2 "need_name" ["thing"] (u3 L yL))(cB:uO P w K mg base 3 "need_book" ["thing"] (u3 M uU))(mT:qJ P w K mg base C 1 "need_title" ["self","title"] (zAx C nt)):FnOk P w K mg base (y7 P w) 4 f fd ["self","title","name"] (zHW C L M nt):=by
 refine F.okR zCC (fun vs H Q E h=>?_) (fun ab A outer s H vs Q E n h ok=>?_)
 ·obtain⟨k,u,y,d,e,rfl,_⟩:=h;rfl
 ·obtain⟨k,u,y,d,e,rfl,hd,R,he,se,h⟩:=h
  have hu:=vT n
  have nd:=zCC.nd
  have T:=n.mono (j:=2) (by decide)
  refine⟨_,zF (yD (qO O ok.pass T rfl (zA (pv 1) zC))) (zF (yD (qO O ok.pass T rfl (zA (pv 2) zC))) (zF (yD (jE mT ok.pass (n.mono (by decide)) (pv 0) (zA (pv 1) zC)))
   (zF (zZ (i:=3) nd rfl (Or.inl rfl) (zR zDh (uD hu (qB (pv 0) rfl) (pv 1) (fun _ _=>rfl)) (y6 (zA (pv 2) zC)))) (zF (yD (qO cB ok.pass n rfl (zA (pv 3) zC))) jP)))),?_⟩
  rcases h with⟨r,kE⟩|⟨r,b2,kE⟩|⟨B,dd,dn,un,o,kvs,ds,t,x,rfl,rfl,U,D,g,h⟩
  ·exact⟨_,rfl,u,d,rfl,hd,R,fun z=>tf z r,fun _=>kE⟩
  ·refine⟨_,rfl,u,d,rfl,hd,R,fun _ H1 p=>?_,fun z=>tf r z⟩
   exact⟨_,rfl,y,e,rfl,zM.same p _ _ he,se,fun z=>tf z b2,fun _ b l=>kE b (p.trans l)⟩
  ·refine⟨_,rfl,sv t,.str (tx t),rfl,rfl,qK U,fun _ H1 p=>?_,fun z=>tf (zAJ U) z⟩
   refine⟨_,rfl,sv x,.str (tx x),rfl,rfl,qK D,fun _ b G=>?_,fun z=>tf (zAJ D) z⟩
   have l:=p.trans G
   have g2:=g.same l
   refine⟨_,rfl,k,B,_,rfl,g2.ins,rfl,_,rfl,k,B,dd,dn,un,o,kvs,ds,t,rfl,g2,fun z=>?_,fun z=>?_⟩
   ·rcases h with⟨c,_⟩|⟨v,c,h8,hn,kE⟩
    ·rw[c]at z;cases z
    have W:=g2.dget t
    rw[c]at W
    refine⟨_,rfl,k,C,B,_,_,rfl,g2.ins,N.cls,N.now,rfl,_,rfl,dd,_,rfl,W,_,rfl,by show 1<=sizeLine;decide,fun m hm=>?_⟩
    have I:zB b (upd b m (.tup [sv x])):=zB.upd1 hm
    have X:upd b m (.tup [sv x]) m=some (.tup [sv x]):=zH
    generalize upd b m (.tup [sv x])=H3 at I X
    have g3:=g2.same I
    have bl:(zD v.2).length=v.2.length:=by unfold zD;rw[ai]
    refine⟨v.1,m,_,_,rfl,rfl,g3.get c,X,by rw[aP,bl];show v.2.length+1<=_;omega,fun a H4 s4 Y=>?_⟩
    have e1:zD v.2++[sv x]=zD (v.2++[x]):=by unfold zD;rw[aL];rfl
    rw[e1]at Y
    have J:∀z∈v.2++[x],z3 z:=fun z hz=>(bG.mp hz).elim (hn z) fun q=>by rw[bH.mp q];exact D
    have Z:(v.2++[x]).length=9:=by rw[aj,h8];rfl
    refine⟨_,rfl,.ref a,.tuple ((v.2++[x]).map fun x=>PyData.str (tx x)),rfl,⟨a,_,rfl,Y,Thgs.strs _⟩,?_,fun z=>?_,fun _ H5 s5=>kE H5 (((l.trans I).trans s4).trans s5)⟩
    ·unfold sml
     rw[ai,Z,zHX J];rfl
    ·have z2:(iZ (fun x=>PyData.str (tx x)) (v.2++[x])).length<=8:=by
      have z':((decide (1<=(iZ (fun x=>PyData.str (tx x)) (v.2++[x])).length)&&decide ((iZ (fun x=>PyData.str (tx x)) (v.2++[x])).length<=8))&& (iZ (fun x=>PyData.str (tx x)) (v.2++[x])).all yL)=true:=z
      rw[bC,bC]at z'
      exact of_decide_eq_true z'.1.2
     rw[ai,Z]at z2
     exact absurd z2 (by decide)
   ·rcases h with⟨_,kE⟩|⟨v,c,_⟩
    ·exact kE b l
    ·rw[c]at z;cases z
end
def zDz (K:aa)(cs:List af)(L:af):Bool :=
 cw K L jC "ValueError.__new__"&&cs.all (fun c=>cw K c jC "ValueError.__new__"&&jD K c L&& (bf K (.ref c) "__getattribute__"==some (some (.builtin "BaseException.__getattribute__")))&& (bf K (.ref c) "__getattr__"==some none)
  && (bf K (.ref c) "__class__"==some (some (.builtin "object.__class__")))&& (jn K c (.type "object")==some true)&& (aS K (.ref c) (.type "ValueError")==some true))
 && (cb cs.length).all fun i=>(cb cs.length).all fun j=>aS K (.ref (cs.getD i 0)) (.ref (cs.getD j 0))==some (decide (j=i))
def zHY:List Str:=["NoOrder","NoName","NoBook","Nothing"]
structure ErrX (K:aa) (mg:Str->Option ae) (cs:List af) (L:af):Prop where
 len:cs.length=4
 like:XCls K mg "LikeError" L
 at_:∀i,i<4->XCls K mg (zHY.getD i ⟨#[]⟩) (cs.getD i 0)/\XLook K (cs.getD i 0)/\jD K (cs.getD i 0) L=true/\aS K (.ref (cs.getD i 0)) (.type "ValueError")=some true
 kit:∀i j,i<4->j<4->aS K (.ref (cs.getD i 0)) (.ref (cs.getD j 0))=some (decide (j=i))
theorem zNR {K:aa}{mg:Str->Option ae}{a b c d L:af}(g:mg "NoOrder"=some (.ref a))(l:mg "NoName"=some (.ref b))(m:mg "NoBook"=some (.ref c))(n:mg "Nothing"=some (.ref d))(o:mg "LikeError"=some (.ref L))(h:zDz K [a,b,c,d] L=true):ErrX K mg [a,b,c,d] L:=by
 unfold zDz at h
 simp only[bC,c9,beq_iff_eq]at h
 obtain⟨⟨p,q⟩,r⟩:=h
 refine⟨rfl,⟨o,p⟩,fun i hi=>?_,fun i j hi s=>r i (cK.mpr hi) j (cK.mpr s)⟩
 have t:([a,b,c,d].getD i 0)∈[a,b,c,d]:=by
  have e:i< [a,b,c,d].length:=hi
  rw[cg,aG e]
  exact cG e
 obtain⟨⟨⟨⟨⟨⟨f,u⟩,v⟩,w⟩,x⟩,y⟩,z⟩:=q _ t
 refine⟨⟨?_,f⟩,⟨f,v,w,x,y⟩,u,z⟩
 match i,hi with
 |0,_=>exact g
 |1,_=>exact l
 |2,_=>exact m
 |3,_=>exact n
theorem zNS {K:aa}{a b c d L:af}(e:aO K mainGlobals "NoOrder"=some (some (.ref a)))(f:aO K mainGlobals "NoName"=some (some (.ref b)))(g:aO K mainGlobals "NoBook"=some (some (.ref c)))(i:aO K mainGlobals "Nothing"=some (some (.ref d)))(j:aO K mainGlobals "LikeError"=some (some (.ref L)))(h:zDz K [a,b,c,d] L=true):∃l L,∀(h:bc) (mg:Str->Option ae),K.In h->h.Ns mainGlobals mg->ErrX K mg l L :=
 ⟨_,_,fun m mg X G=>zNR (bK X G e) (bK X G f) (bK X G g) (bK X G i) (bK X G j) h⟩
section
variable{P:aw}{w:aI}{K:aa}{mg:Str->Option ae}{base:bc}
def zCI (H:Hp)(p:af)(j:Nat):Prop:=H p=some (.tup [.str "refused",.int j])
def zAR (cs:List af):Sp:=fun vs H Q _=>∃(e:af) (j:Nat),vs=[.ref e]/\j<4/\H e=some (XO e (cs.getD j 0))/\∀p H',zB H H'->H p=none->zCI H' p j->Q (.ref p) H'
abbrev zEA:bR:=top 47
theorem zHZ:FnScope ["_law_e","_law_flags"] ["_law_e"] (defScope zEA):=z5
structure BltE (mg:Str->Option ae):Prop where
 isinstance:mg "isinstance"=none
 ve:mg "ValueError"=none
def jF (j:Nat):List Bool:=[decide (0=j),decide (1=j),decide (2=j),decide (3=j)]
theorem zNT {j:Nat}(h:j<4):(jF j).count true=1/\(jF j)[j]?=some true/\∀i,i<j->(jF j)[i]?≠some true:=by
 have all:∀d:_root_.Fin 4,(jF d.val).count true=1/\(jF d.val)[d.val]?=some true/\∀i:_root_.Fin 4,i<d->(jF d.val)[i.val]?≠some true:=by decide+kernel
 obtain⟨a,b,c⟩:=all ⟨j,h⟩
 exact⟨a,b,fun i hi=>c ⟨i,by omega⟩ hi⟩
theorem zNU {f:af}{fd:ar}{a:List af}{L:af}(F:Fun K "_law_refused" "_law_refused" zEA f fd)(B:BltE mg)(E:ErrX K mg a L):FnB P w K mg base zS 1 f fd ["_law_e"] (zAR a):=by
 have g:∀i (hi:i<4),mg (zHY.getD i ⟨#[]⟩)=some (.ref (a.getD i 0)):=fun i hi=>(E.at_ i hi).1.bound
 refine F.okB zHZ (fun vs H Q E h=>?_) (fun y A outer s H vs Q J M h=>?_)
 ·obtain⟨e,j,rfl,_⟩:=h;rfl
 ·obtain⟨e,j,rfl,d,he,k⟩:=h
  have nd:=zHZ.nd
  refine⟨_,zF (zZ (i:=1) nd rfl (Or.inl rfl) (uR (zA (z7 zAs (by rfl) B.isinstance aQ (zA (pv 0) (zA (v4 (v:=.ref (a.getD 0 0)) (by rfl) (g 0 (by decide)) rfl) zC)))
    (zA (z7 zAs (by rfl) B.isinstance aQ (zA (pv 0) (zA (v4 (v:=.ref (a.getD 1 0)) (by rfl) (g 1 (by decide)) rfl) zC)))
    (zA (z7 zAs (by rfl) B.isinstance aQ (zA (pv 0) (zA (v4 (v:=.ref (a.getD 2 0)) (by rfl) (g 2 (by decide)) rfl) zC))) zC)))))
   (zF (zZ (i:=1) nd rfl (Or.inl rfl) (zR zCe (pv 1) (uR (zA (z7 zAs (by rfl) B.isinstance aQ (zA (pv 0) (zA (v4 (v:=.ref (a.getD 3 0)) (by rfl) (g 3 (by decide)) rfl) zC))) zC))))
   (zF (yE (PW.pt (qS (yM zBJ (zAd eN ie PySem.F.type_list_count zMF (pv 1) (zA uC zC)) zG (yZ _))
     (qR (v6 (v5 (z7 zAs (by rfl) B.isinstance aQ (zA (pv 0) (zA (jO (v:=.ty "ValueError") (by rfl) B.ve PyProof.Rows.Boot.«ValueError» rfl) zC)))))))) (zI (zT (y6 (zA yG (zA (zEb zEe zG) zC))))) yC)
   (zI (zT (y6 (zA yG (zA (zAd eN ig PySem.F.type_list_index zMG (pv 1) (zA uC zC)) zC))))))),?_⟩
  have kit:∀i,i<4->aS K (.ref (a.getD j 0)) (.ref (a.getD i 0))=some (decide (i=j)):=fun i hi=>E.kit j i d hi
  have b:=(E.at_ j d).2.1
  refine⟨_,rfl,e,_,_,_,rfl,he,b,.inl ⟨_,rfl,kit 0 (by decide)⟩,_,rfl,e,_,_,_,rfl,he,b,.inl ⟨_,rfl,kit 1 (by decide)⟩,_,rfl,e,_,_,_,rfl,he,b,.inl ⟨_,rfl,kit 2 (by decide)⟩,?_⟩
  refine⟨by show 3<=sizeLine;decide,fun z p=>?_⟩
  have t:=zB.upd1 (o:=.lst [V.bl (decide (0=j)),V.bl (decide (1=j)),V.bl (decide (2=j))]) p
  refine⟨_,rfl,_,rfl,e,_,_,_,rfl,t _ _ he,b,.inl ⟨_,rfl,kit 3 (by decide)⟩,?_⟩
  refine⟨by show 1<=sizeLine;decide,fun C q=>?_⟩
  have u:=zB.upd1 (o:=.lst [V.bl (decide (3=j))]) q
  refine⟨z,C,_,_,rfl,rfl,u _ _ zH,zH,by show 4<=sizeLine;decide,fun l r=>?_⟩
  have D:=zB.upd1 (o:=.lst ((jF j).map V.bl)) r
  have m:=(t.trans u).trans D
  obtain⟨f1,f2,G⟩:=zNT d
  have n:∀{x:Hp},upd x l (.lst ([V.bl (decide (0=j)),V.bl (decide (1=j)),V.bl (decide (2=j))]++[V.bl (decide (3=j))])) l=some (.lst ((jF j).map V.bl)):=fun{x}=>by rw[zH];rfl
  refine⟨_,rfl,.inl ⟨rfl,_,.of n⟩,l,jF j,true,rfl,rfl,n,rfl,_,rfl,kM (by rw[f1];rfl) ?_⟩
  refine⟨_,rfl,e,_,_,true,rfl,m _ _ he,b,.inr ⟨_,rfl,(E.at_ j d).2.2.2⟩,true,rfl,yA ?_⟩
  refine⟨_,rfl,.inl ⟨rfl,_,.of n⟩,l,jF j,true,j,rfl,rfl,n,f2,G,by omega,by show 2<=sizeLine;decide,fun I c=>?_⟩
  exact k I _ (m.upd_new (m.free c)) (m.free c) zH
end
def y0 (L:List S):List ba:=L.map fun x=>PyData.str (tx x)
inductive Thing where
 |bad:Thing
 |nm:S->Thing
 |bk:List S->Thing
def z6 (j:Nat):ba:=.tuple [.str "refused",.int j]
abbrev jG:=List (S×List S)
def kT (m:jG)(t:S):jG:=m.filter fun q=>decide (q.1≠t)
def jH (m:jG)(wy:Nat)(ot:Option S)(th:Thing):ba×jG:=match ot with
 |none=>(z6 1,m)
 |some t=>match wy with
  |0=>(match th with
   | .bk b=>(.bool (zE m t).isSome,zO m t b)
   |_=>(z6 2,m))
  |1=>(match zE m t with
   |none=>(z6 3,m)
   |some b=>(.tuple (y0 b),kT m t))
  |2=>(match th with
   | .nm x=>(match zE m t with
    |none=>(z6 3,m)
    |some b=>if b.length=8 then(z6 2,m)else(.int ((b.length+1:Nat):Int),zO m t (b++[x])))
   |_=>(z6 1,m))
  |_=>(match zE m t with
   |none=>(z6 3,m)
   |some b=>(.tuple (y0 b),m))
def cnt (kvs:List (S×zP)):jG:=kvs.map fun q=>(q.1,q.2.2)
theorem uB (kvs:List (S×zP))(t:S):zE (cnt kvs) t=(zE kvs t).map (·.2):=by
 induction kvs with
 |nil=>rfl
 |cons q l ih=>
  obtain⟨k,v⟩:=q
  show(if k=t then some v.2 else zE (cnt l) t)=pk (·.2) (if k=t then some v else zE l t)
  by_cases h:k=t
  ·rw[if_pos h,if_pos h];rfl
  ·rw[if_neg h,if_neg h,ih]
theorem zCJ (kvs:List (S×zP))(t:S)(v:zP):cnt (zO kvs t v)=zO (cnt kvs) t v.2:=by
 induction kvs with
 |nil=>rfl
 |cons q l ih=>
  obtain⟨k,u⟩:=q
  show cnt (if k=t then(k,v)::l else(k,u)::zO l t v)=(if k=t then(k,v.2)::cnt l else(k,u.2)::zO (cnt l) t v.2)
  by_cases h:k=t
  ·rw[if_pos h,if_pos h];rfl
  ·rw[if_neg h,if_neg h,<-ih];rfl
theorem zHa (kvs:List (S×zP))(t:S):cnt (u5 kvs t)=kT (cnt kvs) t:=by
 unfold cnt u5 kT
 rw[mG];rfl
theorem zEB (kvs:List (S×zP)):(cnt kvs).map (·.1)=kvs.map (·.1):=by unfold cnt;rw[aY];rfl
def zAS (u:V):Option S->Prop
 |none=>u=.non\/u=.str "A"\/u=.int 5
 |some t=>u=sv t/\z3 t
def uP (H:Hp)(wy:Nat)(b:V):Thing->Prop
 | .bad=>b=.non\/if wy=0 then∃p,b=.ref p/\H p=some (.tup [])else b=.str ""
 | .nm x=>wy≠0/\b=sv x/\z3 x
 | .bk l=>wy=0/\∃p,b=.ref p/\H p=some (.tup (zD l))/\isBk l
theorem zAS.bad {H:Hp}{u:V}(h:zAS u none):∃d,zM H d u/\sml d=true/\yL d=false:=by
 rcases h with rfl|rfl|rfl
 ·exact⟨.none,rfl,rfl,rfl⟩
 ·exact⟨.str "A",rfl,by decide+kernel,by decide+kernel⟩
 ·exact⟨.int 5,rfl,rfl,rfl⟩
theorem uP.same {H H':Hp}{wy:Nat}{b:V}{th:Thing}(h:uP H wy b th)(s:zB H H'):uP H' wy b th:=by
 cases th with
 |bad=>
  refine h.imp id fun z=>?_
  by_cases d:wy=0
  ·rw[if_pos d]at z⊢
   obtain⟨p,e,c⟩:=z
   exact⟨p,e,s _ _ c⟩
  ·rw[if_neg d]at z⊢;exact z
 |nm x=>exact h
 |bk l=>
  obtain⟨a,p,e,c,f⟩:=h
  exact⟨a,p,e,s _ _ c,f⟩
theorem uP.book {H:Hp}{b:V}{th:Thing}(h:uP H 0 b th):(∃l p,th=.bk l/\b=.ref p/\H p=some (.tup (zD l))/\isBk l)\/(th=.bad/\∃e,zM H e b/\sml e=true/\uU e=false):=by
 cases th with
 |bad=>
  refine .inr ⟨rfl,?_⟩
  rcases h with rfl|h
  ·exact⟨.none,rfl,rfl,rfl⟩
  ·rw[if_pos rfl]at h
   obtain⟨p,rfl,a⟩:=h
   exact⟨.tuple [],⟨p,[],rfl,a,rfl⟩,rfl,rfl⟩
 |nm x=>exact absurd rfl h.1
 |bk l=>
  obtain⟨_,p,e,a,c⟩:=h
  exact .inl ⟨l,p,rfl,e,a,c⟩
theorem uP.name {H:Hp}{wy:Nat}{b:V}{th:Thing}(a:wy≠0)(h:uP H wy b th):(∃x,th=.nm x/\b=sv x/\z3 x)\/(th=.bad/\∃e,zM H e b/\sml e=true/\yL e=false):=by
 cases th with
 |bad=>
  refine .inr ⟨rfl,?_⟩
  rcases h with rfl|h
  ·exact⟨.none,rfl,rfl,rfl⟩
  ·rw[if_neg a]at h
   subst h
   exact⟨.str "",rfl,by decide+kernel,by decide+kernel⟩
 |nm x=>exact .inl ⟨x,rfl,h.2.1,h.2.2⟩
 |bk l=>exact absurd h.1 a
theorem zNV {l:List S}(h:isBk l):sml (.tuple (l.map fun x=>PyData.str (tx x)))=true:=by
 unfold sml
 rw[ai,zHX h.nm,Bool.and_true]
 exact decide_eq_true (by have:=h.hi;omega)
abbrev gJ (sp sp':Sp):Sp:=fun vs H Q E=>sp vs H Q E\/sp' vs H Q E
theorem kU {H:Hp}{p:af}{j:Nat}(h:zCI H p j):zM H (z6 j) (.ref p):=⟨p,_,rfl,h,_,_,rfl,rfl,_,_,rfl,rfl,rfl⟩
theorem zAT {H:Hp}{p:af}{l:List S}(h:H p=some (.tup (zD l))):zM H (.tuple (y0 l)) (.ref p):=⟨p,_,rfl,h,Thgs.strs l⟩
def GB (kvs:List (S×zP)):Prop:=∀q∈kvs,z3 q.1/\isBk q.2.2
theorem GB.get {kvs:List (S×zP)}(h:GB kvs)(nd:(kvs.map (·.1)).Nodup){t:S}{v:zP}(e:zE kvs t=some v):isBk v.2:=(h (t,v) ((v9 nd t v).mpr e)).2
section
variable{P:aw}{w:aI}{K:aa}{mg:Str->Option ae}{base:bc}
structure ToldC (P:aw) (w:aI) (K:aa) (mg:Str->Option ae) (base:bc) (C:af) (cs:List af):Prop where
 kp:qJ P w K mg base C 4 "keep" ["self","title","book"] (gJ (zHH C) (zHV (cs.getD 1 0) (cs.getD 2 0)))
 dp:qJ P w K mg base C 3 "drop" ["self","title"] (gJ (zHI C) (zCH C (cs.getD 1 0) (cs.getD 3 0)))
 he:qJ P w K mg base C 4 "hear" ["self","title","name"] (gJ (zHJ C) (zHW C (cs.getD 1 0) (cs.getD 2 0) (cs.getD 3 0)))
 bo:qJ P w K mg base C 3 "book" ["self","title"] (gJ (zHL C) (zCH C (cs.getD 1 0) (cs.getD 3 0)))
abbrev zEC:bR:=top 48
theorem zHb:FnScope ["_law_ledger","_law_way","_law_title","_law_thing","_law_e"] ["_law_ledger","_law_way","_law_title","_law_thing"] (defScope zEC):=z5
def zHc (C:af):Sp:=fun vs H Q _=>∃(k dx d dn un:af) (wy o:Nat) (u b:V) (kvs:List (S×zP)) (ds:List V) (ot:Option S) (th:Thing),vs=[.ref k,.int wy,u,b]/\wy<4/\LgAt H C k dx d dn un o kvs ds/\GB kvs/\kvs.length<=50/\ds.length<=100/\zAS u ot/\uP H wy b th/\
 ∀q r d' un' kvs' ds' H',yV k dn H H'->(H d'=none\/d'=d)->LgAt H' C k dx d' dn un' o kvs' ds'->ds'.length<=ds.length+1->jH (cnt kvs) wy ot th=(r,cnt kvs')->zM H' r q->Q q H'
theorem zNW {f C:af}{fd:ar}{X:List af}{L:af}(F:Fun K "_law_told" "_law_told" zEC f fd)(E:ErrX K mg X L)(Z:ToldC P w K mg base C X)(cR:zAH P w K mg base 1 "_law_refused" ["_law_e"] (zAR X)) :
  FnOk P w K mg base zS 5 f fd ["_law_ledger","_law_way","_law_title","_law_thing"] (zHc C):=by
 refine F.ok zHb (fun vs H Q E h=>?_) (fun ak A outer s H vs Q E' hr h=>?_)
 ·obtain⟨k,q,d,dn,un,wy,o,u,b,kvs,B,ot,th,rfl,_⟩:=h;rfl
 ·obtain⟨k,q,d,dn,un,wy,o,u,b,kvs,B,ot,th,rfl,hw,g,gb,hl,M,J,hb,Y⟩:=h
  have nd:=zHb.nd
  have ab:=hr.mono (j:=3) (by decide)
  have hr1:=hr.mono (j:=1) (by decide)
  refine⟨_,zI (zGg (i:=4) rfl rfl rfl E.like (by rfl) nd rfl rfl
   (fun E1 ET pn ok=>zF (yE (yM u9 (pv 1) zG (yZ _)) (zI (zT (jE Z.kp ok hr (pv 0) (zA (pv 2) (zA (pv 3) zC))))) yC)
    (zF (yE (yM u9 (pv 1) zG (yZ _)) (zI (zT (jE Z.dp ok ab (pv 0) (zA (pv 2) zC)))) yC)
    (zF (yE (yM u9 (pv 1) zG (yZ _)) (zI (zT (jE Z.he ok hr (pv 0) (zA (pv 2) (zA (pv 3) zC))))) yC)
    (zI (zT (jE Z.bo ok ab (pv 0) (zA (pv 2) zC)))))))
   (fun e=>zI (zT (zDe cR (hr1.busy _) rfl (zA (pv 4) zC))))),?_⟩
  have c:∀(j:Nat),j<4->jH (cnt kvs) wy ot th=(z6 j,cnt kvs)->∀H1,zB H H1->∃C:af,Value.ref (X.getD j 0)=.ref C/\cw K C jC "ValueError.__new__"=true/\jD K C L=true/\∀T,H1 T=none->
    zBE (kJ (zAR X) [] E0 (kI (vS 4) qV)) {nx:=fun _ _=>False,rt:=Q} ((aA 5 none).set 4 (some (.ref T))) (upd H1 T (XO T C)):=fun j hj kk H1 s1=>by
   obtain⟨a1,a2,a3,_⟩:=E.at_ j hj
   refine⟨_,rfl,a1.exc,a3,fun T ac=>?_⟩
   refine⟨_,rfl,T,j,rfl,hj,zH,fun p H' sm _ hp=>?_⟩
   have sH:=s1.trans ((zB.upd1 ac).trans sm)
   exact Y (.ref p) _ d un kvs B H' (yV.of sH) (.inr rfl) (g.same sH) (fC _) kk (kU hp)
  refine⟨_,rfl,rfl,_,rfl,?_⟩
  match wy,hw with
  |0,_=>
   refine vH rfl ?_
   refine⟨_,rfl,k,q,_,rfl,g.ins,rfl,_,rfl,_,rfl,?_⟩
   cases ot with
   |none=>
    obtain⟨d1,D,G,I⟩:=J.bad (H:=H)
    refine .inr ?_
    rcases hb.book with⟨l,p,rfl,rfl,hp,ib⟩|⟨rfl,e,N,O,n2⟩
    ·exact⟨k,u,_,d1,_,rfl,D,G,zAT hp,zNV ib,.inl ⟨I,c 1 (by decide) rfl⟩⟩
    ·exact⟨k,u,_,d1,_,rfl,D,G,N,O,.inl ⟨I,c 1 (by decide) rfl⟩⟩
   |some t=>
    obtain⟨rfl,n⟩:=J
    rcases hb.book with⟨l,p,rfl,rfl,hp,ib⟩|⟨rfl,e,N,O,n2⟩
    ·refine .inl ⟨k,q,d,dn,un,o,kvs,B,t,(p,l),rfl,g,by omega,M,n,hp,ib,fun d' r y H' U n' g'=>?_⟩
     refine Y _ (.bool (zE kvs t).isSome) d' r _ _ H' U (.inl n') g' (by rw[aj];exact ay _) ?_ rfl
     show(PyData.bool (zE (cnt kvs) t).isSome,zO (cnt kvs) t l)=_
     rw[zCJ,uB,cU]
    ·exact .inr ⟨k,_,_,.str (tx t),e,rfl,rfl,qK n,N,O,.inr ⟨zAJ n,n2,c 2 (by decide) rfl⟩⟩
  |1,_=>
   refine yK (by intro z;cases z) ⟨_,rfl,rfl,_,rfl,vH rfl ?_⟩
   refine⟨_,rfl,k,q,_,rfl,g.ins,rfl,_,rfl,?_⟩
   cases ot with
   |none=>
    obtain⟨d1,D,G,I⟩:=J.bad (H:=H)
    exact .inr ⟨k,u,rfl,.inl ⟨d1,D,G,I,c 1 (by decide) rfl⟩⟩
   |some t=>
    obtain⟨rfl,n⟩:=J
    cases m:zE kvs t with
    |none=>
     refine .inr ⟨k,_,rfl,.inr ⟨q,d,dn,un,o,kvs,B,t,rfl,n,g,m,c 3 (by decide) ?_⟩⟩
     show(match zE (cnt kvs) t with|none=>(z6 3,cnt kvs)|some b=>(.tuple (y0 b),kT (cnt kvs) t))=_
     rw[uB,m];rfl
    |some v=>
     refine .inl ⟨k,q,d,dn,un,o,kvs,B,t,v,rfl,g,M,n,m,fun d' r y H' U n' g'=>?_⟩
     have b2:=g.get m
     refine Y _ (.tuple (y0 v.2)) d' r _ _ H' U (.inl n') g' (by rw[aj];exact ay _) ?_ (zAT (U _ _ (y8 b2 g.ins nofun) (y8 b2 g.don nofun) b2))
     show(match zE (cnt kvs) t with|none=>(z6 3,cnt kvs)|some b=>(.tuple (y0 b),kT (cnt kvs) t))=_
     rw[uB,m,zHa];rfl
  |2,_=>
   refine yK (by intro z;cases z) ⟨_,rfl,rfl,_,rfl,yK (by intro z;cases z) ⟨_,rfl,rfl,_,rfl,vH rfl ?_⟩⟩
   refine⟨_,rfl,k,q,_,rfl,g.ins,rfl,_,rfl,_,rfl,?_⟩
   cases ot with
   |none=>
    obtain⟨d1,D,G,I⟩:=J.bad (H:=H)
    refine .inr ?_
    rcases hb.name (by decide)with⟨x,rfl,rfl,R⟩|⟨rfl,e,N,O,n2⟩
    ·exact⟨k,u,_,d1,.str (tx x),rfl,D,G,rfl,qK R,.inl ⟨I,c 1 (by decide) rfl⟩⟩
    ·exact⟨k,u,_,d1,e,rfl,D,G,N,O,.inl ⟨I,c 1 (by decide) rfl⟩⟩
   |some t=>
    obtain⟨rfl,n⟩:=J
    rcases hb.name (by decide)with⟨x,rfl,rfl,R⟩|⟨rfl,e,N,O,n2⟩
    ·have W:jH (cnt kvs) 2 (some t) (.nm x)=(match zE (cnt kvs) t with|none=>(z6 3,cnt kvs)|some b=>if b.length=8 then(z6 2,cnt kvs)else(.int ((b.length+1:Nat):Int),zO (cnt kvs) t (b++[x]))):=rfl
     cases m:zE kvs t with
     |none=>
      refine .inr ⟨k,_,_,.str (tx t),.str (tx x),rfl,rfl,qK n,rfl,qK R,.inr (.inr ⟨q,d,dn,un,o,kvs,B,t,x,rfl,rfl,n,R,g,.inl ⟨m,c 3 (by decide) ?_⟩⟩)⟩
      rw[W,uB,m];rfl
     |some v=>
      have ib:=gb.get g.nd m
      by_cases h8:v.2.length=8
      ·refine .inr ⟨k,_,_,.str (tx t),.str (tx x),rfl,rfl,qK n,rfl,qK R,.inr (.inr ⟨q,d,dn,un,o,kvs,B,t,x,rfl,rfl,n,R,g,.inr ⟨v,m,h8,ib.nm,c 2 (by decide) ?_⟩⟩)⟩
       rw[W,uB,m]
       exact if_pos h8
      ·have l8:v.2.length<8:=by have:=ib.hi;omega
       refine .inl ⟨k,q,d,dn,un,o,kvs,B,t,x,v,rfl,g,by omega,M,n,R,m,l8,ib.nm,fun a d' r y H' U n' g'=>?_⟩
       refine Y _ (.int ((v.2.length+1:Nat):Int)) d' r _ _ H' U (.inl n') g' (by rw[aj];exact ay _) ?_ rfl
       rw[W,uB,m,zCJ]
       exact if_neg h8
    ·exact .inr ⟨k,_,_,.str (tx t),e,rfl,rfl,qK n,N,O,.inr (.inl ⟨zAJ n,n2,c 1 (by decide) rfl⟩)⟩
  |3,_=>
   refine yK (by intro z;cases z) ⟨_,rfl,rfl,_,rfl,yK (by intro z;cases z) ⟨_,rfl,rfl,_,rfl,yK (by intro z;cases z) ?_⟩⟩
   refine⟨_,rfl,k,q,_,rfl,g.ins,rfl,_,rfl,?_⟩
   cases ot with
   |none=>
    obtain⟨d1,D,G,I⟩:=J.bad (H:=H)
    exact .inr ⟨k,u,rfl,.inl ⟨d1,D,G,I,c 1 (by decide) rfl⟩⟩
   |some t=>
    obtain⟨rfl,n⟩:=J
    have W:jH (cnt kvs) 3 (some t) th=(match zE (cnt kvs) t with|none=>(z6 3,cnt kvs)|some b=>(.tuple (y0 b),cnt kvs)):=rfl
    cases m:zE kvs t with
    |none=>
     refine .inr ⟨k,_,rfl,.inr ⟨q,d,dn,un,o,kvs,B,t,rfl,n,g,m,c 3 (by decide) ?_⟩⟩
     rw[W,uB,m];rfl
    |some v=>
     refine .inl ⟨k,q,d,dn,un,o,kvs,B,t,v,rfl,g,n,m,fun H' s'=>?_⟩
     refine Y _ (.tuple (y0 v.2)) d un _ _ H' (yV.of s') (.inr rfl) (g.same s') (fC _) ?_ (zAT (s' _ _ (g.get m)))
     rw[W,uB,m];rfl
end
end Kn.Ln
end
section
namespace L2
open PySem PySem.Spec PyProof.Rows
section
variable{X:Cx}{pins:List (af×Obj)}{σ:St}{H:Hp}{s:ah}{e:af}
theorem zNX {H':Hp}{s':ah}{C L:af}{a0:ae}{B:bc}{x n:Str}{i:Nat}{np pos:Pos}{b0:bR}{suite:List bR}{D:Ends}(I:Inv X pins σ H s)(hs:X.stack=X.env::X.outer)(hf:X.env.frame=some X.env.locals)(hx:X.ex=[])
  (F:Flown X.prog X.w X.stack H s e (.ref C) a0 B H' s') (hC:cw X.K C jC "ValueError.__new__"=true) (O:XCls X.K X.mg x L) (hsub:jD X.K C L=true) (hg:Gl X x) (hN:X.N.Nodup) (hi:X.N[i]?=some n) (hl:X.env.scope.names.lookup n=some .local)
  (k:∀s2,Inv (X.hand e) pins ((aA X.N.length none).set i (some (.ref e))) (upd H' e (XO e C)) s2->H' e=none->
   wpAny (model X.prog X.w) (X.hand e).A (execs (b0::suite) X.env) (SP (X.hand e) pins {nx:=fun _ H2=>D.nx (aA X.N.length none) H2,rt:=D.rt}) (fun _ _=>False) s2) (hdb:(x==("__debug__" : Str))=false:=by decide) :
  wpAny (model X.prog X.w) X.A (noteFrame (.ref e) X.env) (fun _ s2=>wpAny (model X.prog X.w) X.A (setFlight (.ref e) none) (fun _ s3=>
   wpAny (model X.prog X.w) X.A (handleBy (.ref e) X.env [.ExceptHandler (some (.Name x np)) (some n) (b0::suite) pos]) (SP X pins D) X.xe s3) X.xe s2) X.xe s':=by
 have fly:=F.fly
 have fun':=F.fly.2.2.1
 rw[hs]at fly
 refine mD (by rw[<-hs];exact I.ok.frames) hf fly fun h4 held up4=>?_
 refine wpAny_landsW held fun h5 fly5 up5=>?_
 have F5:=F.on (h':=h5) (by rw[hs];exact fly5) (up4.trans up5) fun'
 have I5:Inv X pins σ H' {s' with heap:=h5}:=I.call' F5.os (F5.un I.stkFree) F5.hok F5.bare (fun b z=>nomatch z)
 obtain⟨tl,N,nm,q,bs,hdct,sn,sub,ab,col,dd,k0,k1,k2,k3,k5,mN,hC1,_,_,_,cd,hlk,hmro⟩:=j7 I.mod.kin hC
 obtain⟨tl',N',nm',q',bs',hdct',sn',sub',ab',col',dd',j0,j1,j2,j3,j5,mN',hL1,_,_,T',_⟩:=j7 I.mod.kin O.exc
 have hin:(Value.ref C::tl).contains (.ref L)=true:=by
  unfold jD at hsub
  rw[hlk]at hsub
  rw[<-hmro]
  exact hsub
 have Ih:=I5.hand e
 refine jj (iR (kG (X:=X.hand e) Ih hg O.bound ?_ hdb)) (by intro z;cases z)
 obtain⟨oe,ws,hoe,hoec,hoed,_⟩:=fly5.first
 have hm:∀{Q:Bool->ah->Prop} {E':ae->ah->Prop},Q true {s' with heap:=h5}->wpAny (model X.prog X.w) (X.A.mark (some (.ref e))) (excMatches (.ref e) (.ref L)) Q E' {s' with heap:=h5}:=fun{Q E'} hq=>by
  obtain⟨hp,gg,ddd,tt,oo⟩:=s'
  exact zGf (I5.bk _ _ hC1) (I5.bk _ _ hL1) hoe hoec (T'.hasType cj.hasBase) hin hq
 refine hm ?_
 refine gm (lands_againW fly5 fun h6 fly6 up6=>?_)
 have F6:=F5.on (h':=h6) (by rw[hs];exact fly6) up6 (by rw[hs];exact fly5.2.2.1)
 have I6:Inv X pins σ H' {s' with heap:=h6}:=I.call' F6.os (F6.un I.stkFree) F6.hok F6.bare (fun b z=>nomatch z)
 obtain⟨oe6,ws6,hoe6,hoec6,hoed6,_⟩:=fly6.first
 have neB:∀b o,s.heap.get? b=some o->b≠e:=fun b o q z=>by
  by_cases hb:b∈yW X.stack
  ·obtain⟨_,o',ho',hd⟩:=fun'.mem (show b∈X.stack.filterMap (·.frame)from hb)
   obtain⟨oe',ws',he',_,hed',_⟩:=F.fly.first
   rw[z,he']at ho'
   cases ho'
   exact hd ws' hed'
  ·obtain⟨o',ho'⟩:=F.there b o q hb
   rw[z,F.fly.2.1]at ho'
   cases ho'
 have I7:Inv X pins σ (upd H' e (XO e C)) {s' with heap:=h6}:=by
  refine I6.track F.ef (fun b ob q z=>?_) (fun z=>?_) (fun y c q z=>?_) (fun p hp z=>?_) ⟨⟨oe6,ws6,hoe6,hoec6,hoed6⟩,⟨oe6,hoe6⟩,fun h1 h2 ⟨o1,v1,a1,a2,a3⟩ kk=>⟨o1,v1,kk _ a1,a2,a3⟩⟩
  ·obtain⟨o',z'⟩:=I.base.there b ob q (by rw[hx];simp)
   exact neB b o' z' z
  ·obtain⟨m,⟨o,es,ep,ho,_⟩,_⟩:=I.loc
   exact neB _ o ho z
  ·obtain⟨v,o,ho,_⟩:=I.cell y c q
   exact neB _ o ho z
  ·obtain⟨a1,_⟩:=I.pin p hp
   exact neB _ _ a1 z
 have I8:Inv X pins (aA X.N.length none) (upd H' e (XO e C)) {s' with heap:=h6}:=I7.weak (by rw[di,I7.len]) fun j v q=>by
  rw[cx]at q
  split at q<;>cases q
 refine gM (X:=X.hand e) (v:=.ref e) (I8.hand e) hN hi (.inl hl) rfl (fun s2 I9=>?_) (.inr hl)
 refine bX (k s2 I9 F.ef) (fun f s3 h3=>?_) fun _ _ z=>z.elim
 cases f with
 |next=>
  obtain⟨σ',H2,I10,z⟩:=h3
  have I11:=I10.unhand I.ok
  obtain⟨m,hn,_⟩:=id I11.loc
  refine i9 hl hn (by rw[I.ok.kind];rfl) fun h' m' hn' hs'=>?_
  exact⟨_,H2,I11.forget hn' hs',z⟩
 |brk=>obtain⟨_,_,_,z⟩:=h3;exact z.elim
 |cont=>obtain⟨_,_,_,z⟩:=h3;exact z.elim
 |ret u=>
  obtain⟨v,σ',H2,I10,r,z⟩:=h3
  have I11:=I10.unhand I.ok
  obtain⟨m,hn,_⟩:=id I11.loc
  refine i9 hl hn (by rw[I.ok.kind];rfl) fun h' m' hn' hs'=>?_
  exact⟨v,_,H2,I11.forget hn' hs',r,z⟩
def zNY (K:aa)(N:Nat)(i:Nat)(L:af)(tb:XK->TS)(ts:TS):TS:=fun D σ H=>
 tb (fun cls _ H'=>∃C:af,cls=.ref C/\cw K C jC "ValueError.__new__"=true/\jD K C L=true/\∀e,H' e=none->ts {nx:=fun _ H2=>D.nx (aA N none) H2,rt:=D.rt} ((aA N none).set i (some (.ref e))) (upd H' e (XO e C))) D σ H
theorem zNZ {x n:Str}{i:Nat}{L:af}{np pos d:Pos}{body:List bR}{m:bR}{a:List bR}{z:XK->TS}{ts:TS}(M:X.stack=X.env::X.outer)(P:X.env.frame=some X.env.locals)(Q:X.ex=[])(O:XCls X.K X.mg x L)(R:Gl X x)(T:X.N.Nodup)(hi:X.N[i]?=some n)(hl:X.env.scope.names.lookup n=some .local)
  (U:∀(E:XK) (G:ae->ah->Prop) (pn:List (af×Obj)),uJ (y7 X.prog X.w) (X.tryb G pn) E->vO (X.tryb G pn) body (z E)) (o:∀e,vO (X.hand e) (m::a) ts) (p:(x==("__debug__" : Str))=false:=by decide) :
  PS X (.Try body [.ExceptHandler (some (.Name x np)) (some n) (m::a) pos] [] [] d) (zNY X.K X.N.length i L z ts):=by
 intro pins s σ H D I h
 refine md ?_
 have main:=U _ (fun ev g=>wpAny (model X.prog X.w) X.A (noteFrame ev X.env) (fun _ t=>wpAny (model X.prog X.w) X.A (setFlight ev none) (fun _ W=>
   wpAny (model X.prog X.w) X.A (handleBy ev X.env [.ExceptHandler (some (.Name x np)) (some n) (m::a) pos]) (SP X pins D) X.xe W) X.xe t) X.xe g) (X.pn++pins) ?pass [] s σ H D (I.tryb _) h
 case pass=>
  rintro pins' b H1 g ev s' Y ⟨e,cls,a0,B,H',rfl,F,C,rfl,Z,j,y⟩
  have I2:=Y.untryb I.ok
  exact zNX I2 M P Q F Z O j R T hi hl (fun t I9 hn=>o e pins t _ _ _ I9 (y e hn)) p
 refine bX main (fun f g c=>?_) fun ev g c=>c
 have l:SP X pins D f g:=by
  cases f with
  |next=>obtain⟨b,H',J,q⟩:=c;exact⟨b,H',J.untryb I.ok,q⟩
  |brk=>obtain⟨b,H',J,q⟩:=c;exact⟨b,H',J.untryb I.ok,q⟩
  |cont=>obtain⟨b,H',J,q⟩:=c;exact⟨b,H',J.untryb I.ok,q⟩
  |ret u=>obtain⟨v,b,H',J,r,q⟩:=c;exact⟨v,b,H',J.untryb I.ok,r,q⟩
 cases f with
 |next=>exact dD l
 |ret u=>exact l
 |brk=>exact l
 |cont=>exact l
end
end L2
end
section
namespace Kn.Ln
open PySem L2 Kn
section
variable{P:aw}{w:aI}{K:aa}{mg:Str->Option ae}{base:bc}
structure AskC (P:aw) (w:aI) (K:aa) (mg:Str->Option ae) (base:bc) (C:af) (cs:List af):Prop where
 te:qJ P w K mg base C 3 "tellers" ["self","name"] (gJ (zHQ C) (zAQ (cs.getD 1 0)))
 mo:qJ P w K mg base C 8 "makers_of" ["self","name"] (gJ (zHT C) (zAQ (cs.getD 1 0)))
 be:qJ P w K mg base C 7 "best_of" ["self","name"] (gJ (zHU C) (zAQ (cs.getD 1 0)))
def zAU (H:Hp)(kvs:List (S×zP))(ts:List S)(o:Nat)(x:S)(wy:Nat)(v:V):Prop:=match wy with
 |0=>∃l,v=.ref l/\H l=some (.lst (zD (ts.filter fun t=>decide (x∈zY kvs t))))
 |1=>∃l,v=.ref l/\H l=some (.lst (zD (ts.filter fun t=>decide (vZ (zY kvs t) o x))))
 |_=>v=uA ts (j8 (ts.map fun t=>y9 (zU o (zY kvs t)) o x))
abbrev zED:bR:=top 49
theorem zHd:FnScope ["_law_ledger","_law_way","_law_name_here","_law_e"] ["_law_ledger","_law_way","_law_name_here"] (defScope zED):=z5
def zHe (C:af):Sp:=fun vs H Q _=>∃(k dx d dn un:af) (wy o:Nat) (u:V) (kvs:List (S×zP)) (ds:List V),vs=[.ref k,.int wy,u]/\wy<3/\LgAt H C k dx d dn un o kvs ds/\kvs.length<64/\
 ((∃x,u=sv x/\z3 x/\(∀q∈kvs,Fit q.2.2 o x)/\∀v ts H',vN kvs ts->zB H H'->zAU H' kvs ts o x wy v->Q v H')\/(∃e,zM H e u/\sml e=true/\yL e=false/\∀p H',zB H H'->zCI H' p 1->Q (.ref p) H'))
theorem zNa {f C:af}{fd:ar}{n:List af}{L:af}(F:Fun K "_law_asked" "_law_asked" zED f fd)(E:ErrX K mg n L)(Z:AskC P w K mg base C n)(N:zAH P w K mg base 1 "_law_refused" ["_law_e"] (zAR n)) :
  FnOk P w K mg base zS 9 f fd ["_law_ledger","_law_way","_law_name_here"] (zHe C):=by
 refine F.ok zHd (fun vs H Q E h=>?_) (fun O A outer s H vs Q E' y h=>?_)
 ·obtain⟨k,c,d,dn,un,wy,o,u,kvs,B,rfl,_⟩:=h;rfl
 ·obtain⟨k,c,d,dn,un,wy,o,u,kvs,B,rfl,R,g,hl,h⟩:=h
  have nd:=zHd.nd
  have I:=y.mono (j:=7) (by decide)
  have J:=y.mono (j:=3) (by decide)
  have hr1:=y.mono (j:=1) (by decide)
  refine⟨_,zI (zGg (i:=3) rfl rfl rfl E.like (by rfl) nd rfl rfl
   (fun E1 ET pn ok=>zF (yE (yM u9 (pv 1) zG (yZ _)) (zI (zT (jE Z.te ok J (pv 0) (zA (pv 2) zC)))) yC)
    (zI (zT (gN (yM u9 (pv 1) zG (yZ _)) (jE Z.mo ok y (pv 0) (zA (pv 2) zC)) (jE Z.be ok I (pv 0) (zA (pv 2) zC))))))
   (fun e=>zI (zT (zDe N (hr1.busy _) rfl (zA (pv 3) zC))))),?_⟩
  have a:(∀p H',zB H H'->zCI H' p 1->Q (.ref p) H')->∀D,zB H D->∃C:af,Value.ref (n.getD 1 0)=.ref C/\cw K C jC "ValueError.__new__"=true/\jD K C L=true/\∀m,D m=none->
    zBE (kJ (zAR n) [] E0 (kI (vS 3) qV)) {nx:=fun _ _=>False,rt:=Q} ((aA 4 none).set 3 (some (.ref m))) (upd D m (XO m C)):=fun T D U=>by
   obtain⟨W,a2,X,_⟩:=E.at_ 1 (by decide)
   refine⟨_,rfl,W.exc,X,fun m M=>?_⟩
   exact⟨_,rfl,m,1,rfl,by decide,zH,fun p H' Y _ hp=>T p H' (U.trans ((zB.upd1 M).trans Y)) hp⟩
  refine⟨_,rfl,rfl,_,rfl,?_⟩
  match wy,R with
  |0,_=>
   refine vH rfl ⟨_,rfl,k,c,_,rfl,g.ins,rfl,_,rfl,?_⟩
   rcases h with⟨x,rfl,q,G,b⟩|⟨e,r,t,v,b⟩
   ·exact .inl ⟨k,c,d,dn,un,o,kvs,B,x,rfl,g,hl,q,fun l ts H' it s' hl=>b _ ts H' it s' ⟨l,rfl,hl⟩⟩
   ·exact .inr ⟨k,u,e,rfl,r,t,v,a b⟩
  |1,_=>
   refine yK (by intro z;cases z) ⟨_,rfl,rfl,_,rfl,vH rfl ⟨_,rfl,k,c,_,rfl,g.ins,rfl,_,rfl,?_⟩⟩
   rcases h with⟨x,rfl,q,G,b⟩|⟨e,r,t,v,b⟩
   ·exact .inl ⟨k,c,d,dn,un,o,kvs,B,x,rfl,g,hl,q,G,fun l ts H' it s' hl=>b _ ts H' it s' ⟨l,rfl,hl⟩⟩
   ·exact .inr ⟨k,u,e,rfl,r,t,v,a b⟩
  |2,_=>
   refine yK (by intro z;cases z) ⟨_,rfl,rfl,_,rfl,yK (by intro z;cases z) ⟨_,rfl,k,c,_,rfl,g.ins,rfl,_,rfl,?_⟩⟩
   rcases h with⟨x,rfl,q,G,b⟩|⟨e,r,t,v,b⟩
   ·exact .inl ⟨k,c,d,dn,un,o,kvs,B,x,rfl,g,hl,q,G,fun ts H' it s'=>b _ ts H' it s' rfl⟩
   ·exact .inr ⟨k,u,e,rfl,r,t,v,a b⟩
abbrev zEE:bR:=top 52
theorem zHf:FnScope ["_law_bad","_law_e"] [] (defScope zEE):=z5
def zHg:Sp:=fun vs H Q _=>vs=[]/\∀H',zB H H'->Q (.bl true) H'
theorem zNb {x:V}{i:Nat}(h:[V.int 0,V.int 4,V.non,V.bl true,V.str "1"][i]?=some x):∃d,(∀H,zM H d x)/\sml d=true/\gH d=false:=by
 match i,h with
 |0,h=>cases h;exact⟨.int 0,fun _=>rfl,rfl,rfl⟩
 |1,h=>cases h;exact⟨.int 4,fun _=>rfl,rfl,rfl⟩
 |2,h=>cases h;exact⟨.none,fun _=>rfl,rfl,rfl⟩
 |3,h=>cases h;exact⟨.bool true,fun _=>rfl,rfl,rfl⟩
 |4,h=>cases h;exact⟨.str "1",fun _=>rfl,by decide+kernel,rfl⟩
theorem zNc {f C:af}{fd:ar}{g:List af}{L:af}(F:Fun K "_law_orders" "_law_orders" zEE f fd)(E:ErrX K mg g L)(J:zDx P w K mg base C 4 "Ledger" ["self","order"] (zDy (g.getD 0 0)))(M:zAH P w K mg base 1 "_law_refused" ["_law_e"] (zAR g)) :
  FnOk P w K mg base zS 6 f fd [] zHg:=by
 refine F.ok zHf (fun vs H Q E h=>?_) (fun N A outer s H vs Q E' m h=>?_)
 ·obtain⟨rfl,_⟩:=h;rfl
 ·obtain⟨rfl,O⟩:=h
  have nd:=zHf.nd
  have hr1:=m.mono (j:=1) (by decide)
  refine⟨_,zF (uV bO rfl (zLo K rfl (y6 (zA zG (zA zG (zA u7 (zA uC (zA yG zC))))))) (yY (i:=0) nd rfl (Or.inl rfl))
   (zI (zNZ (i:=1) rfl rfl rfl E.like (by rfl) nd rfl rfl
    (fun E1 ET pn ok=>zF (yD (zNH J ok m rfl (zA (pv 0) zC))) jP)
    (fun e=>zI (yE (yM (zLp K rfl (m.busy _).units) (zDe M (hr1.busy _) rfl (zA (pv 1) zC)) (y6 (zA yG (zA zG zC))) (yZ _)) (zI (zT uC)) yC)))))
   (zI (zT uC)),?_⟩
  refine⟨by show 5<=sizeLine;decide,fun l hl=>?_⟩
  have B:zB H (upd H l (.tup [V.int 0,V.int 4,V.non,V.bl true,V.str "1"])):=zB.upd1 hl
  have n:upd H l (.tup [V.int 0,V.int 4,V.non,V.bl true,V.str "1"]) l=some (.tup [V.int 0,V.int 4,V.non,V.bl true,V.str "1"]):=zH
  generalize upd H l (.tup [V.int 0,V.int 4,V.non,V.bl true,V.str "1"])=D at B n
  refine⟨l,rfl,⟨_,.of n⟩,?_⟩
  refine qI (g9 K l _) (fun i σ H'=>(∃y z:Option V,σ=[y,z])/\zB D H') ⟨⟨_,_,rfl⟩,zB.refl D⟩ (fun i σ H' _ h=>.of (h.2 _ _ n)) ?_ ?_
  ·rintro i x σ H' Nx R T ⟨⟨y,z,rfl⟩,o⟩
   obtain⟨d,U,W,nd⟩:=zNb T
   refine⟨_,rfl,fun a q X r Y=>⟨a,x,d,rfl,U _,W,nd,fun H2 Z=>?_⟩⟩
   have s0:zB H' (upd (upd H' q (.own a)) a (.ins C q [])):=fun b u c=>by
    have b1:b≠a:=fun z=>by rw[z,X]at c;cases c
    have b2:b≠q:=fun z=>by rw[z,r]at c;cases c
    rw[zJ b1,zJ b2];exact c
   obtain⟨a1,a2,a3,_⟩:=E.at_ 0 (by decide)
   refine⟨_,rfl,a1.exc,a3,fun e1 t=>?_⟩
   refine⟨_,rfl,e1,0,rfl,by decide,zH,fun p G s3 _ hp=>?_⟩
   have s4:=o.trans ((s0.trans Z).trans ((zB.upd1 t).trans s3))
   refine⟨by show 2<=sizeLine;decide,fun p2 v=>?_⟩
   have I:zB G (upd G p2 (.tup [.str "refused",.int 0])):=zB.upd1 v
   refine⟨z6 0,z6 0,zM.rep _ _ (kU (I _ _ hp)),zM.rep _ _ (kU zH),by decide+kernel,by decide+kernel,false,?_,yA (R _ _ ⟨⟨_,_,rfl⟩,s4.trans I⟩)⟩
   decide+kernel
  ·rintro σ H' ⟨⟨y,z,rfl⟩,o⟩
   exact O H' (B.trans o)
end
end Kn.Ln
end
section
namespace L2
open PySem PySem.Spec PyProof.Rows
section
open MyS PySem.W
variable{X:Cx}{pins:List (af×Obj)}{σ:List (Option V)}{H:Hp}{s:ah}
end
open MyS PySem.W
end L2
end
section
namespace Kn.Ln
open PySem L2 Kn
theorem zEF {t u:TS}{D:Ends}{σ:St}{H:Hp}(R:St->Hp->Prop)(b:∀a H',R a H'->u D a H')(c:∀N:St->Hp->Prop,(∀a H',R a H'->N a H')->t {D with nx:=N} σ H):zCP t u D σ H:=c (u D) b
theorem j9 {i:Nat}{v:V}{σ:St}{H:Hp}{Q:St->Hp->Prop}(h:Q (σ.set i (some v)) H):zBG i v σ H Q:=h
section
variable{K:aa}{H:Hp}
theorem zEG:∀(L:List S),Reps K H (y0 L) (zD L)
 | []=>rfl
 |x::L=>⟨_,_,rfl,rfl,zEG L⟩
theorem zNd {b:af}{L:List S}(h:H b=some (.tup (zD L))):yN K H (.tuple (y0 L)) (.ref b):=⟨b,_,rfl,.of h,zEG L⟩
theorem zCK {b:af}{L:List S}(h:H b=some (.lst (zD L))):yN K H (.list (y0 L)) (.ref b):=⟨b,_,rfl,.of h,zEG L⟩
theorem shL {L:List S}(h:∀x∈L,z3 x):bI (.list (y0 L))=true/\(PyData.list (y0 L)).canLay0=true:=zGc fun d hd=>by
 obtain⟨x,a,rfl⟩:=aM.mp hd
 exact⟨zDa fun c b=>((h x a).2.2 c b).2,by show 0<=10;decide⟩
theorem shT {L:List S}(h:∀x∈L,z3 x):bI (.tuple (y0 L))=true/\(PyData.tuple (y0 L)).canLay0=true:=by
 obtain⟨a,b⟩:=shL h
 unfold bI at a⊢
 simp only[cD,dC]at a b⊢
 exact⟨a,b⟩
end
theorem kW (L:List S):(zD L).length=L.length:=by unfold zD;rw[ai]
theorem zNe (L:List S)(x:S):zD (L++[x])=zD L++[sv x]:=by unfold zD;rw[aL];rfl
def zNf (K:aa):R2:=fun x y H Q=>∃d ds,yN K H d x/\yN K H (.tuple ds) y/\bI d=true/\bI (.tuple ds)=true/\Q (.bl (ds.any fun e=>cq e d)) H
theorem zEH {X:Cx}(c:X.A.units+65<cLine):z9 X (compareOp .In) (zNf X.K):=by
 intro a s σ H x y v u Q I e f h
 obtain⟨d,g,i,j,b,l,q⟩:=h
 obtain⟨as,m⟩:=yN.reads I d x v i e
 obtain⟨bs,n⟩:=yN.reads I (.tuple g) y u j f
 exact SeqAt.in_tuple_reads n m (iD l) (iD b) (mJ b c) ⟨.bl _,H,I,rfl,q⟩
theorem neA {t:S}(h:z3 t):(("A" : Str)==tx t)=false:=by
 rw[beq_eq_false_iff_ne]
 intro z
 have e:tx [65]=tx t:=z
 have:=h.2.2 65 (by rw[<-kR e];exact bH.mpr rfl)
 omega
theorem ne0 {t:S}(h:z3 t):(("" : Str)==tx t)=false:=by
 rw[beq_eq_false_iff_ne]
 intro z
 have e:tx []=tx t:=z
 have:=h.1
 rw[<-kR e]at this
 exact absurd this (by decide)
theorem zNg {t:S}(h:z3 t):([PyData.none,.str "A",.int 5].any fun e=>cq e (.str (tx t)))=false:=by
 simp only[c8,oH,cq,neA h,jq]
theorem zNh {t:S}(h:z3 t):([PyData.none,.str "",.str "A"].any fun e=>cq e (.str (tx t)))=false:=by
 simp only[c8,oH,cq,neA h,ne0 h,jq]
theorem zNi {l:List S}(h:isBk l):([PyData.none,.tuple []].any fun e=>cq e (.tuple (y0 l)))=false:=by
 have:1<=l.length:=h.lo
 cases l with
 |nil=>exact absurd this (by decide)
 |cons a l=>rfl
theorem zHh {t:S}(h:z3 t):bI (.str (tx t))=true:=by
 unfold bI
 rw[show(PyData.str (tx t)).canLay0=true from zDa fun c a=>(h.2.2 c a).2];rfl
structure KpAt (H:Hp) (D:af) (kvs:List (S×zP)):Prop where
 now:H D=some (.dK (vA kvs))
 bks:∀q∈kvs,H q.2.1=some (.tup (zD q.2.2))
 nd:(kvs.map (·.1)).Nodup
theorem KpAt.same {H H':Hp}{D:af}{kvs:List (S×zP)}(g:KpAt H D kvs)(s:zB H H'):KpAt H' D kvs:=⟨s _ _ g.now,fun q a=>s _ _ (g.bks q a),g.nd⟩
theorem KpAt.get {H:Hp}{D:af}{kvs:List (S×zP)}(g:KpAt H D kvs){t:S}{v:zP}(h:zE kvs t=some v):H v.1=some (.tup (zD v.2)):=g.bks (t,v) ((v9 g.nd t v).mpr h)
theorem KpAt.dget {H:Hp}{D:af}{kvs:List (S×zP)}(g:KpAt H D kvs)(t:S):vD H D (sv t) ((zE kvs t).map fun q=>V.ref q.1):=by
 rw[<-zBx];exact vD.k (k:=Sum.inr (tx t)) g.now
theorem KpAt.put {H:Hp}{D:af}{kvs:List (S×zP)}(g:KpAt H D kvs){t:S}{v:zP}(a:H v.1=some (.tup (zD v.2))):KpAt (upd H D (.dK (vA (zO kvs t v)))) D (zO kvs t v):=by
 refine⟨zH,fun q b=>?_,zAA g.nd⟩
 have:H q.2.1=some (.tup (zD q.2.2)):=by
  rcases(zGt g.nd q).mp b with rfl|⟨z,_⟩
  ·exact a
  ·exact g.bks q z
 rw[zJ (y8 this g.now nofun)];exact this
theorem KpAt.del {H:Hp}{D:af}{kvs:List (S×zP)}(g:KpAt H D kvs)(t:S):KpAt (upd H D (.dK (vA (u5 kvs t)))) D (u5 kvs t):=by
 refine⟨zH,fun q a=>?_,g.nd.sublist ((jl).map _)⟩
 have this:=g.bks q (cF.mp a).1
 rw[zJ (y8 this g.now nofun)];exact this
section
variable{P:aw}{w:aI}{K:aa}{mg:Str->Option ae}{base:bc}
abbrev zEI:bR:=top 50
theorem zHi:FnScope ["_law_kept","_law_way","_law_title","_law_thing","_law_there"] ["_law_kept","_law_way","_law_title","_law_thing"] (defScope zEI):=z5
def zHj:Sp:=fun vs H Q _=>∃(D:af) (wy:Nat) (u b:V) (kvs:List (S×zP)) (ot:Option S) (th:Thing),vs=[.ref D,.int wy,u,b]/\wy<4/\KpAt H D kvs/\GB kvs/\kvs.length<=50/\zAS u ot/\uP H wy b th/\
 ∀q r kvs' H',yH D H H'->KpAt H' D kvs'->jH (cnt kvs) wy ot th=(r,cnt kvs')->zM H' r q->Q q H'
theorem zNj {f:af}{fd:ar}(F:Fun K "_law_due" "_law_due" zEI f fd)(B:Blt mg):FnOk P w K mg base zS 1 f fd ["_law_kept","_law_way","_law_title","_law_thing"] zHj:=by
 refine F.ok zHi (fun vs H Q E h=>?_) (fun cdv A outer s H vs Q E hr h=>?_)
 ·obtain⟨D,wy,u,b,kvs,ot,th,rfl,_⟩:=h;rfl
 ·obtain⟨D,wy,u,b,kvs,ot,th,rfl,hw,g,gb,hl,hu',hb,kQ⟩:=h
  have nd:=zHi.nd
  have hu:=vT hr
  have h65:=hr.units65
  refine⟨_,zF (yE (PW.pt (qS (yM (zEH h65) (pv 2) (y6 (zA u7 (zA yG (zA zG zC)))) (by with_unfolding_all rfl))
        (qR (PW.pt (zCO (yM u9 (pv 1) zG (yZ _)) (zCN (yM (zEH h65) (pv 3) (y6 (zA u7 (zA yG (zA yG zC)))) (by with_unfolding_all rfl))))))))
    (zI (zT (y6 (zA yG (zA zG zC))))) yC)
   (zF (yE (yM u9 (pv 1) zG (yZ _))
    (zF (yE (yM (zEH h65) (pv 3) (y6 (zA u7 (zA (y6 zC) zC))) (by with_unfolding_all rfl)) (zI (zT (y6 (zA yG (zA zG zC))))) yC)
    (zF (zZ (i:=4) nd rfl (Or.inl rfl) (zEV (zFM hu (pv 2) (pv 0)))) (zF (gX hu (pv 0) (pv 2) (pv 3) rfl) (zI (zT (pv 4)))))) yC)
   (zF (yE (PW.pt (zCO (yM u9 (pv 1) zG (yZ _)) (zCN (yM u9 (z7 kK (by rfl) B.len b6 (zA (gY hu (pv 0) (pv 2) (y6 zC) ⟨rfl,rfl,rfl,rfl⟩) zC)) zG (yZ _)))))
    (zI (zT (y6 (zA yG (zA zG zC))))) yC)
   (zF (yE (kX (zAe hu (pv 2) (pv 0))) (zI (zT (y6 (zA yG (zA zG zC))))) yC)
   (zF (yE (yM u9 (pv 1) zG (yZ _)) (zI (zT (zFO (pv 0) (pv 2) ⟨rfl,rfl,rfl,rfl⟩))) yC)
   (zF (yE (yM u9 (pv 1) zG (yZ _))
    (zF (gX hu (pv 0) (pv 2) (zR zDh (uD hu (pv 0) (pv 2) (fun _ _=>rfl)) (y6 (zA (pv 3) zC))) rfl)
    (zI (zT (z7 kK (by rfl) B.len b6 (zA (uD hu (pv 0) (pv 2) (fun _ _=>rfl)) zC))))) yC)
   (zI (zT (uD hu (pv 0) (pv 2) (fun _ _=>rfl))))))))),?_⟩
  have ret3:∀(j:Nat) (G:Hp),yH D H G->KpAt G D kvs->jH (cnt kvs) wy ot th=(z6 j,cnt kvs)->∀σ:St,zBE (zEu (kI (tC (.str "refused")) (kI (tC (.int j)) qV))) {nx:=fun _ H'=>Q .non H',rt:=Q} σ G:=fun j G sG gG e σ=>by
   refine⟨by show 2<=sizeLine;decide,fun p hp=>?_⟩
   exact kQ _ _ kvs _ (sG.trans (yH.of (zB.upd1 hp))) (gG.same (zB.upd1 hp)) e (kU zH)
  refine⟨_,rfl,by show 3<=sizeLine;decide,fun p hp=>?_⟩
  have s1:zB H (upd H p (.tup [V.non,V.str "A",V.int 5])):=zB.upd1 hp
  have p1:zM (upd H p (.tup [V.non,V.str "A",V.int 5])) (.tuple [.none,.str "A",.int 5]) (.ref p):=⟨p,_,rfl,zH,_,_,rfl,rfl,_,_,rfl,rfl,_,_,rfl,rfl,rfl⟩
  generalize upd H p (.tup [V.non,V.str "A",V.int 5])=H1 at s1 p1
  cases ot with
  |none=>
   obtain⟨d,td,sd,hd⟩:∃d,zM H1 d u/\bI d=true/\([PyData.none,.str "A",.int 5].any fun e=>cq e d)=true:=by
    rcases hu' with rfl|rfl|rfl
    ·exact⟨.none,rfl,by decide+kernel,by decide+kernel⟩
    ·exact⟨.str "A",rfl,by decide+kernel,by decide+kernel⟩
    ·exact⟨.int 5,rfl,by decide+kernel,by decide+kernel⟩
   refine⟨d,_,zM.rep _ _ td,zM.rep _ _ p1,sd,by decide+kernel,true,?_,yJ (yJ (ret3 1 H1 (yH.of s1) (g.same s1) rfl _))⟩
   rw[hd]
  |some t=>
   obtain⟨rfl,ht⟩:=hu'
   refine⟨.str (tx t),_,rfl,zM.rep _ _ p1,zHh ht,by decide+kernel,false,?_,yA ?_⟩
   ·rw[zNg ht]
   refine⟨_,rfl,rfl,_,rfl,?_⟩
   have g1:=g.same s1
   have x1:yH D H H1:=yH.of s1
   have hb1:=hb.same s1
   clear p1
   match wy,hw with
   |0,_=>
    refine yK (by intro z;cases z) (yA ⟨_,rfl,rfl,_,rfl,vH rfl ?_⟩)
    refine⟨_,rfl,bJ _,fun p2 hp2=>⟨by show 2<=sizeLine;decide,fun p3 hp3=>?_⟩⟩
    have s2:zB H1 (upd (upd H1 p2 (.tup [])) p3 (.tup [V.non,.ref p2])):=(zB.upd1 hp2).trans (zB.upd1 hp3)
    have p4:zM (upd (upd H1 p2 (.tup [])) p3 (.tup [V.non,.ref p2])) (.tuple [.none,.tuple []]) (.ref p3):=⟨p3,_,rfl,zH,_,_,rfl,rfl,_,_,rfl,⟨p2,_,rfl,(zB.upd1 hp3) _ _ zH,rfl⟩,rfl⟩
    generalize upd (upd H1 p2 (.tup [])) p3 (.tup [V.non,.ref p2])=H2 at s2 p4
    have x2:=x1.trans (yH.of (k:=D) s2)
    have g2:=g1.same s2
    have hb2:=hb1.same s2
    cases th with
    |bad=>
     obtain⟨d,td,sd,hd⟩:∃d,zM H2 d b/\bI d=true/\([PyData.none,.tuple []].any fun e=>cq e d)=true:=by
      rcases hb2 with rfl|h
      ·exact⟨.none,rfl,by decide+kernel,by decide+kernel⟩
      ·rw[if_pos rfl]at h
       obtain⟨q,rfl,hq⟩:=h
       exact⟨.tuple [],⟨q,[],rfl,hq,rfl⟩,by decide+kernel,by decide+kernel⟩
     refine⟨d,_,zM.rep _ _ td,zM.rep _ _ p4,sd,by decide+kernel,true,?_,yJ (ret3 2 H2 x2 g2 rfl _)⟩
     rw[hd]
    |nm x=>exact absurd rfl hb2.1
    |bk l=>
     obtain⟨_,q,rfl,hq,ib⟩:=hb2
     refine⟨.tuple (y0 l),_,zNd hq,zM.rep _ _ p4,(shT ib.nm).1,by decide+kernel,false,?_,yA ?_⟩
     ·rw[zNi ib]
     refine⟨_,rfl,_,rfl,D,_,rfl,g2.dget t,?_⟩
     rw[cU]
     refine⟨_,rfl,_,rfl,_,rfl,D,_,rfl,qZ.k (k:=Sum.inr (tx t)) g2.now (by rw[zDr,aP];omega),_,rfl,?_⟩
     have e0:vL (vA kvs) (Sum.inr (tx t)) (.ref q)=vA (zO kvs t (q,l)):=zDq t (q,l) g.nd
     rw[e0]
     refine kQ _ (.bool (zE kvs t).isSome) _ _ (x2.trans yH.upd) (g2.put (v:=(q,l)) hq) ?_ rfl
     show(PyData.bool (zE (cnt kvs) t).isSome,zO (cnt kvs) t l)=_
     rw[zCJ,uB,cU]
   |1,_=>
    refine yK (by intro z;cases z) (yA ⟨_,rfl,rfl,_,rfl,yK (by intro z;cases z) ?_⟩)
    refine⟨_,rfl,rfl,_,rfl,yK (by intro z;cases z) (yA ?_)⟩
    refine⟨_,rfl,_,rfl,D,_,rfl,g1.dget t,_,rfl,?_⟩
    have eD:jH (cnt kvs) 1 (some t) th=(match zE (cnt kvs) t with|none=>(z6 3,cnt kvs)|some b=>(.tuple (y0 b),kT (cnt kvs) t)):=rfl
    cases hv:zE kvs t with
    |none=>exact yJ (ret3 3 H1 x1 g1 (by rw[eD,uB,hv];rfl) _)
    |some v=>
     refine yA ⟨_,rfl,rfl,_,rfl,vH rfl ⟨_,rfl,D,rfl,.inl ⟨_,.inl g1.now⟩,_,rfl,_,Sum.inr (tx t),.ref v.1,g1.now,rfl,by rw[zBx,hv];rfl,?_⟩⟩
     rw[zHE]
     have b2:=g1.get hv
     refine kQ _ (.tuple (y0 v.2)) _ _ (x1.trans yH.upd) (g1.del t) ?_ (zAT ((zJ (y8 b2 g1.now nofun)).trans b2))
     rw[eD,uB,hv,zHa];rfl
   |2,_=>
    refine vH rfl ⟨_,rfl,by show 3<=sizeLine;decide,fun p2 hp2=>?_⟩
    have s2:zB H1 (upd H1 p2 (.tup [V.non,V.str "",V.str "A"])):=zB.upd1 hp2
    have p4:zM (upd H1 p2 (.tup [V.non,V.str "",V.str "A"])) (.tuple [.none,.str "",.str "A"]) (.ref p2):=⟨p2,_,rfl,zH,_,_,rfl,rfl,_,_,rfl,rfl,_,_,rfl,rfl,rfl⟩
    generalize upd H1 p2 (.tup [V.non,V.str "",V.str "A"])=H2 at s2 p4
    have x2:=x1.trans (yH.of (k:=D) s2)
    have g2:=g1.same s2
    cases th with
    |bad=>
     obtain⟨d,td,sd,hd⟩:∃d,zM H2 d b/\bI d=true/\([PyData.none,.str "",.str "A"].any fun e=>cq e d)=true:=by
      rcases hb1 with rfl|h
      ·exact⟨.none,rfl,by decide+kernel,by decide+kernel⟩
      ·rw[if_neg (by decide)]at h
       subst h
       exact⟨.str "",rfl,by decide+kernel,by decide+kernel⟩
     refine⟨d,_,zM.rep _ _ td,zM.rep _ _ p4,sd,by decide+kernel,true,?_,yJ (ret3 1 H2 x2 g2 rfl _)⟩
     rw[hd]
    |bk l=>exact absurd hb1.1 (by decide)
    |nm x=>
     obtain⟨_,rfl,hx⟩:=hb1
     refine⟨.str (tx x),_,rfl,zM.rep _ _ p4,zHh hx,by decide+kernel,false,?_,yA ?_⟩
     ·rw[zNh hx]
     have eD:jH (cnt kvs) 2 (some t) (.nm x)=(match zE (cnt kvs) t with|none=>(z6 3,cnt kvs)|some b=>if b.length=8 then(z6 2,cnt kvs)else(.int ((b.length+1:Nat):Int),zO (cnt kvs) t (b++[x]))):=rfl
     refine⟨_,rfl,rfl,_,rfl,yK (by intro z;cases z) ⟨_,rfl,rfl,_,rfl,vH rfl ⟨_,rfl,D,rfl,.inl ⟨_,.inl g2.now⟩,_,rfl,bJ _,fun p3 hp3=>?_⟩⟩⟩
     have s3:zB H2 (upd H2 p3 (.tup [])):=zB.upd1 hp3
     have p5:upd H2 p3 (.tup []) p3=some (.tup []):=zH
     generalize upd H2 p3 (.tup [])=H3 at s3 p5
     have x3:=x2.trans (yH.of (k:=D) s3)
     have g3:=g2.same s3
     have dg:=g3.dget t
     refine⟨_,dg,?_⟩
     cases hv:zE kvs t with
     |none=>
      refine⟨p3,_,rfl,.inr (.of p5),rfl,_,rfl,yK (by intro z;cases z) ?_⟩
      rw[hv]at dg
      refine⟨_,rfl,_,rfl,D,_,rfl,dg,_,rfl,?_⟩
      exact yJ (ret3 3 H3 x3 g3 (by rw[eD,uB,hv];rfl) _)
     |some v=>
      rw[hv]at dg
      have b3:=g3.get hv
      refine⟨v.1,_,rfl,.inr (.of b3),rfl,_,rfl,?_⟩
      rw[kW]
      by_cases h8:v.2.length=8
      ·refine vH (by rw[h8];rfl) (ret3 2 H3 x3 g3 ?_ _)
       rw[eD,uB,hv]
       exact if_pos h8
      refine yK (fun z=>h8 (by have:=V.int.inj z;omega)) ?_
      refine⟨_,rfl,_,rfl,D,_,rfl,dg,_,rfl,?_⟩
      refine yA ⟨_,rfl,rfl,_,rfl,yK (by intro z;cases z) ⟨_,rfl,rfl,_,rfl,vH rfl ?_⟩⟩
      refine⟨_,rfl,_,rfl,D,_,rfl,dg,_,rfl,by show 1<=sizeLine;decide,fun m hm=>?_⟩
      have s4:zB H3 (upd H3 m (.tup [sv x])):=zB.upd1 hm
      have m4:upd H3 m (.tup [sv x]) m=some (.tup [sv x]):=zH
      generalize upd H3 m (.tup [sv x])=H4 at s4 m4
      have ib:=gb.get g.nd hv
      have l8:=ib.hi
      refine⟨v.1,m,_,_,rfl,rfl,s4 _ _ b3,m4,by rw[aP,kW];show v.2.length+1<=_;omega,fun a H5 s5 ha=>?_⟩
      rw[<-zNe]at ha
      have g5:=g3.same (s4.trans s5)
      have x5:=x3.trans (yH.of (k:=D) (s4.trans s5))
      refine⟨_,rfl,_,rfl,D,_,rfl,qZ.k (k:=Sum.inr (tx t)) g5.now (by rw[zDr,aP];omega),?_⟩
      have e0:vL (vA kvs) (Sum.inr (tx t)) (.ref a)=vA (zO kvs t (a,v.2++[x])):=zDq t (a,v.2++[x]) g.nd
      rw[e0]
      have g6:=g5.put (t:=t) (v:=(a,v.2++[x])) ha
      have dg6:=g6.dget t
      have gt:zE (zO kvs t (a,v.2++[x])) t=some (a,v.2++[x]):=by rw[jA,if_pos rfl]
      rw[gt]at dg6
      refine⟨_,rfl,_,rfl,D,_,rfl,dg6,a,_,rfl,.inr (.of (g6.get gt)),?_⟩
      rw[kW,aj]
      refine kQ _ (.int ((v.2.length+1:Nat):Int)) _ _ (x5.trans yH.upd) g6 ?_ rfl
      rw[eD,uB,hv,zCJ]
      exact if_neg h8
   |3,_=>
    refine yK (by intro z;cases z) (yA ⟨_,rfl,rfl,_,rfl,yK (by intro z;cases z) ?_⟩)
    refine⟨_,rfl,rfl,_,rfl,yK (by intro z;cases z) (yA ?_)⟩
    refine⟨_,rfl,_,rfl,D,_,rfl,g1.dget t,_,rfl,?_⟩
    have eD:jH (cnt kvs) 3 (some t) th=(match zE (cnt kvs) t with|none=>(z6 3,cnt kvs)|some b=>(.tuple (y0 b),cnt kvs)):=rfl
    have dg:=g1.dget t
    cases hv:zE kvs t with
    |none=>exact yJ (ret3 3 H1 x1 g1 (by rw[eD,uB,hv];rfl) _)
    |some v=>
     rw[hv]at dg
     refine yA ⟨_,rfl,rfl,_,rfl,yK (by intro z;cases z) ⟨_,rfl,rfl,_,rfl,yK (by intro z;cases z) ⟨_,rfl,_,rfl,D,_,rfl,dg,?_⟩⟩⟩
     refine kQ _ (.tuple (y0 v.2)) kvs _ x1 g1 ?_ (zAT (g1.get hv))
     rw[eD,uB,hv];rfl
end
end Kn.Ln
end
section
namespace Kn
open PySem L2
section
variable{P:aw}{w:aI}{K:aa}{mg:Str->Option ae}{base:bc}
abbrev zEJ:bR:=top 45
theorem zHk:FnScope ["_law_up","_law_down","_law_one","_law_other"] ["_law_up","_law_down"] (defScope zEJ):=z5
theorem zNk {f:af}{fd:ar}(F:Fun K "_law_lowest" "_law_lowest" zEJ f fd):FnOk P w K mg base zS 1 f fd ["_law_up","_law_down"] zAt:=by
 refine F.ok zHk (fun vs H Q E h=>?_) (fun y A outer s H vs Q E G h=>?_)
 ·obtain⟨a,b,rfl,_⟩:=h;rfl
 ·obtain⟨u,d,rfl,n,g,o,k⟩:=h
  have nd:=zHk.nd
  refine⟨_,zF (zZ (i:=2) nd rfl (Or.inl rfl) (pv 0)) (zF (zZ (i:=3) nd rfl (Or.inl rfl) (pv 1))
   (zF (zEZ bO (yM zBK (pv 3) zG (yZ _))
    (zI (zIl (i:=2) (j:=3) rfl nd rfl rfl (by decide) rfl rfl (zA (pv 3) (zA (zR jT (pv 2) (pv 3)) zC)) rfl)))
   (zI (zT (y6 (zA (zR zBq (pv 0) (pv 2)) (zA (zR zBq (pv 1) (pv 2)) zC))))))),?_⟩
  refine⟨_,rfl,_,rfl,?_⟩
  refine⟨fun m σ H'=>H'=H/\∃(a b:Int),σ=[some (.int u),some (.int d),some (.int a),some (.int b)]/\m=b.toNat/\0<=a/\0<=b/\b<1606938044258990275541962092341162602522202993782792835301376/\el a b=el u d,⟨_,rfl,u,d,rfl,rfl,n,bW g,o,rfl⟩,?_⟩
  rintro m σ H' ⟨rfl,a,b,rfl,rfl,q,z,B,r⟩
  refine⟨_,rfl,_,_,rfl,rfl,_,rfl,?_⟩
  by_cases t:b=0
  ·subst t
   refine yK (by decide) ?_
   have e:a=vI u d:=by
    unfold vI
    rw[<-r]
    obtain⟨x,rfl⟩:=b5 q
    simp
   have g1:=zBZ (u:=u) g
   have g2:vI u d<=d:=om g (eV ..)
   rw[<-e]at g1 g2
   refine⟨_,rfl,_,rfl,_,_,rfl,rfl,⟨g1,by omega⟩,_,rfl,_,rfl,_,_,rfl,rfl,⟨g1,by omega⟩,by show 2<=sizeLine;decide,fun p C=>?_⟩
   have:=k p C
   unfold low at this
   rw[<-e]at this
   exact this
  ·have c:0<b:=by omega
   refine vH c ?_
   refine⟨fun v l=>l=H'/\v=[some (.int u),some (.int d),some (.int b),some (.int (a%b))],?_,?_⟩
   ·rintro v l ⟨rfl,rfl⟩
    have D:=fL a t
    have I:=eF a c
    exact⟨(a%b).toNat,by omega,rfl,b,a%b,rfl,rfl,z,D,by omega,by rw[zGJ q c];exact r⟩
   ·exact⟨_,rfl,_,rfl,_,rfl,_,_,rfl,rfl,c,_,_,rfl,rfl,rfl⟩
end
theorem zNl (nm:S)(o i:Nat)(hi:i<=nm.length):vY (tx nm) (some (if(i:Int)- (o:Int)>0 then(i:Int)- (o:Int)else 0)) (some (i:Int))=tx (yB (nm.take i) o):=by
 have e:(if(i:Int)- (o:Int)>0 then(i:Int)- (o:Int)else 0)=((i-o:Nat):Int):=by split<;>omega
 rw[e]
 unfold vY
 rw[yP,HT.sIx_nat,HT.sIx_nat,uY,iJ hi,iJ (by omega)]
 unfold yB
 rw[aV,iJ hi,List.drop_take]
theorem zNm (a:List (S×S))(e l:S):vC a e l=low (a.count (e,l):Int) (if(tot a e:Int)>1 then(tot a e:Int)else 1):=by
 have h:=zAC a e l
 unfold vC
 by_cases c:a.count (e,l)=0
 ·rw[if_pos c,c]
  show(0,1)=low 0 _
  rw[zKv]
  split<;>omega
 ·rw[if_neg c]
  have:(if(tot a e:Int)>1 then(tot a e:Int)else 1)=(tot a e:Int):=by split<;>omega
  rw[this]
theorem zNn {a b c d u v x y:Int}(e:a*v=u*b)(f:c*y=x*d):a*c*(v*y)=u*x*(b*d):=by grind
theorem zNo {u v x y:Int}(c:0<=u)(a:0<v)(d:0<=x)(b:0<y):uX (low u v) (low x y)=low (u*x) (v*y):=by
 have f:=j4 c a
 have g:=j4 d b
 exact zKu (dh f.up g.up) (dO f.dn g.dn) (dh c d) (dO a b) (zNn (gD a) (gD b))
section
variable{P:aw}{w:aI}{K:aa}{mg:Str->Option ae}{base:bc}
theorem zNp {row:List (S×Int)}{i:Nat}{x:V}(h:((yQ row).map fun p=>kV p.1)[i]?=some x):∃(hi:i<row.length),x=sv row[i].1:=by
 unfold yQ vE kN at h
 rw[az,az,az]at h
 cases e:row[i]? with
 |none=>rw[e]at h;cases h
 |some q=>
  rw[e]at h
  obtain⟨hi,a⟩:=ag.mp e
  refine⟨hi,?_⟩
  rw[a]
  exact(aq h).symm
theorem zNq {σ:St}{H:Hp}{Q:V->Hp->Prop}{n:Nat}{a:af}{row:List (S×Int)}(r:σ[n]?=some (some (.ref a)))(g:H a=some (.dK (yQ row)))(j:(row.map (·.1)).Nodup)(hl:row.length<1000)
  (k:∀D H',zB H H'->H' D=some (.lst ((row.map (·.2)).map V.int))->Q (.ref D) H'):zGq (zFS (zGp (vS n)) (zBG 1) zAf (zBT (vS 0) (vS 1)) [n] 2) σ H Q:=by
 refine⟨a,yQ row,g,_,r,a,_,rfl,g,fun o=>?_⟩
 have d:((yQ row).map fun p=>kV p.1).length=row.length:=by rw[ai];exact zAD _ _
 refine qH (zMT a o (yQ row)) [some (.ref a)] 1 (by rw[d];exact hl) (fun i c H'=>H'=upd H a (.frz o (.dK (yQ row)))/\c=((row.take i).map (·.2)).map V.int) ⟨rfl,rfl⟩ (fun i c H' _ h=>⟨by rw[h.1,zH],by rw[h.2,ai,ai,aV];omega⟩) ?_ ?_ (by simp[qN,r])
 ·rintro i x c H' A B s t v ⟨rfl,rfl⟩
  obtain⟨C,rfl⟩:=uT v
  obtain⟨hi,rfl⟩:=zNp t
  refine⟨_,rfl,_,rfl,a,.int row[i].2,rfl,.inl ⟨yQ row,Sum.inr (tx row[i].1),.inr ⟨o,zH⟩,rfl,?_⟩,s _ _ [some (sv row[i].1)] rfl ⟨rfl,?_⟩⟩
  ·unfold yQ
   have y:zE row row[i].1=some row[i].2:=(v9 j _ _).mp (cG hi)
   rw[uZ,y];rfl
  ·rw[ax hi,aL,aL];rfl
 ·rintro c H' ⟨rfl,rfl⟩ D f
  rw[d,aX]
  have e:a≠D:=fun z=>by rw[<-z,zH]at f;cases f
  have l:H D=none:=by rw[zJ e.symm]at f;exact f
  refine⟨o,by rw[zJ e,zH],k D _ (fun b u q=>?_) (by rw[zJ e.symm,zH])⟩
  by_cases m:b=a
  ·subst m;rw[zH,<-q,g]
  ·rw[zJ m,zJ (vR q l),zJ m];exact q
theorem zNr (a:List (S×S))(e:S):(vM a e).length<=a.length:=by
 have c:=zDM a e
 have b:∀p∈vM a e,(1:Int)<=p.2:=fun p d=>by
  have:=((zDL a e p.1 p.2).mp d).2
  omega
 have go:∀l:List (S×Int),(∀p∈l,(1:Int)<=p.2)->(l.length:Int)<=(l.map (·.2)).sum:=by
  intro l
  induction l with
  |nil=>intro _;simp
  |cons x r ih=>
   intro hl
   have c:=hl x (av ..)
   have b:=ih fun y f=>hl y (au _ f)
   rw[aF,ck,aR]
   have:((r.length+1:Nat):Int)=(r.length:Int)+1:=rfl
   omega
 have g:=go _ b
 have h:tot a e<=a.length:=bF ..
 omega
abbrev zEK:bR:=top 46
theorem zHl:FnScope ["_law_rows","_law_order","_law_name_here","_law_up","_law_down","_law_many","_law_row"] ["_law_rows","_law_order","_law_name_here"] (defScope zEK):=z5
theorem zNs:(["_law_row","_law_letter"]:List Str).Nodup:=by decide+kernel
theorem zNt {f:af}{fd:ar}(F:Fun K "_law_share_by" "_law_share_by" zEK f fd)(B:Blt mg)(t:mg "max"=none)(cL:zW P w K mg base 1 "_law_lowest" ["_law_up","_law_down"] zAt) :
  FnOk P w K mg base zS 2 f fd ["_law_rows","_law_order","_law_name_here"] (zAp K):=by
 refine F.ok zHl (fun vs H Q E h=>?_) (fun an A outer s H vs Q E hr h=>?_)
 ·obtain⟨d,a,o,nm,rfl,_⟩:=h;rfl
 ·obtain⟨d,a,o,nm,rfl,R,ab,ap,as,ho,aB,k⟩:=h
  have hu:=vT hr
  have nd:=zHl.nd
  refine⟨_,zF (zZ (i:=3) nd rfl (Or.inl rfl) zG) (zF (zZ (i:=4) nd rfl (Or.inl rfl) zG)
   (zF (uV bO rfl (jR rfl B.range (zA (zR vB (z7 gU (by rfl) B.len b6 (zA (pv 2) zC)) zG) zC)) (yY (i:=5) nd rfl (Or.inl rfl))
    (zF (zZ (i:=6) nd rfl (Or.inr rfl) (gY hu (pv 0) (kO (pv 2) (qC (z7 (zCW rfl) (by rfl) t ff (zA zG (zA (zR zEd (pv 5) (pv 1)) zC)))) (qC (pv 5))) kL ⟨rfl,rfl,rfl,rfl⟩))
    (zF (zZ (i:=3) nd rfl (Or.inl rfl) (zR u8 (pv 3) (gY hu (pv 6) (kO (pv 2) (qC (pv 5)) (qC (zR vB (pv 5) zG))) zG ⟨rfl,rfl,rfl,rfl⟩)))
    (zI (zZ (i:=4) nd rfl (Or.inl rfl) (zR u8 (pv 4) (z7 (zCW rfl) (by rfl) t ff (zA zG (zA (z7 (zKa rfl) (by rfl) B.sum iP (zA
     (zMW (uL (N:=["_law_row","_law_letter"]) (caps:=[6]) rfl (uM (by kernel_rfl)) (zMV (pv 6)) (fun cl X s H ex=>yY (i:=1) zNs rfl (Or.inl rfl)) (fun cl X s H ex=>qF) (fun cl X s H ex=>uD hu (pv 0) (pv 1) (fun _ _=>rfl)))) zC)) zC)))))))))
   (zI (zT (zV cL hr rfl (zA (pv 3) (zA (pv 4) zC))))))),?_⟩
  have u:∀v H',zB H H'->yR K H' v (uS a (z0 o nm))->Q v H':=k
  refine⟨_,rfl,tx nm,rfl,by rw[yP,aP];omega,_,_,rfl,rfl,_,rfl,by rw[yP];omega,by rw[yP];omega,?_⟩
  have C:(((tx nm).length:Int)+1).toNat=nm.length+1:=by rw[yP];omega
  refine qI (jX 0 _) (fun i σ H'=>(∃(U D:Int) (y z:Option V),σ=[some (.ref d),some (.int o),some (sv nm),some (.int U),some (.int D),y,z]/\0<=U/\0<D/\U<=D/\D<=(a.length:Int)^i/\low U D=uS a ((z0 o nm).take i))/\zB H H')
   ⟨⟨1,1,_,_,rfl,by decide,by decide,by decide,by simp,by simp[uS,zKw]⟩,zB.refl H⟩ (fun _ _ _ _ _=>trivial) ?_ ?_
  ·rintro i x σ H' Nx hN hx2 ⟨⟨U,D,y,z,rfl,O,W,ud,dp,b⟩,G⟩
   rw[C]at hx2
   obtain⟨hi,rfl⟩:=zAl hx2
   have ep:=zGe (o:=o) hi
   have ac:i<(z0 o nm).length:=by rw[zBo];exact hi
   have j:(z0 o nm).take (i+1)=(z0 o nm).take i++[(yB (nm.take i) o,(nm.drop i).take 1)]:=by
    rw[ax ac,(ag.mp ep).2]
   have ak:D<1073741824:=by
    have e1:a.length^i<=a.length^(nm.length+1):=dP ab (by omega)
    have e2:((a.length^i:Nat):Int)=(a.length:Int)^i:=by simp
    omega
   obtain⟨kvs,I,hv⟩:=(R.same G).get (yB (nm.take i) o)
   refine⟨_,rfl,d,rfl,.inl ⟨_,.inl I⟩,_,rfl,_,rfl,_,rfl,_,_,rfl,rfl,0,_,rfl,_,rfl,_,rfl,_,rfl,tx nm,rfl,by rw[yP,aP];omega,?_⟩
   rw[zNl nm o i (by omega)]
   intro J al
   have Y:zB H' (upd H' J (.dK [])):=zB.upd1 al
   obtain⟨r,e1,g⟩:∃r,(yI kvs (Sum.inr (tx (yB (nm.take i) o)))).getD (.ref J)=.ref r/\upd H' J (.dK []) r=some (.dK (yQ (vM a (yB (nm.take i) o)))):=by
    rcases hv with⟨m,n⟩|⟨r,m,n⟩
    ·exact⟨J,by rw[m];rfl,by rw[zH,n];rfl⟩
    ·exact⟨r,by rw[m];rfl,Y _ _ n⟩
   refine⟨_,vD.k (k:=Sum.inr (tx (yB (nm.take i) o))) (Y _ _ I),?_⟩
   rw[e1]
   generalize upd H' J (.dK [])=H2 at Y g
   generalize am:yB (nm.take i) o=e at g j
   generalize L:(nm.drop i).take 1=l at j
   have aK:tot a e<=a.length:=bF ..
   have aN:=zAC a e l
   refine⟨_,rfl,_,rfl,r,rfl,.inl ⟨_,.inl g⟩,_,rfl,_,rfl,_,rfl,_,rfl,_,_,rfl,rfl,_,rfl,tx nm,rfl,by rw[yP,aP];omega,?_⟩
   rw[zCz,L]
   have M:yI (yQ (vM a e)) (Sum.inr (tx l))=(zE (vM a e) l).map V.int:=uZ _ _ _
   refine⟨_,vD.k (k:=Sum.inr (tx l)) g,U,(a.count (e,l):Int),rfl,?_,.inl ⟨by omega,by omega⟩,?_⟩
   ·rw[M,zBm]
    by_cases c:0<a.count (e,l)
    ·rw[if_pos c];rfl
    ·rw[if_neg c,show a.count (e,l)=0 by omega];rfl
   refine⟨_,rfl,zNq rfl g (zDK _ _) (by have:=zNr a e;omega) fun Dl H3 s3 hD=>?_⟩
   refine⟨Dl,(vM a e).map (·.2),rfl,.of hD,1,_,rfl,D,_,rfl,rfl,.inl ⟨by omega,by omega⟩,?_⟩
   rw[zDM]
   have Z:=zNm a e l
   generalize q:(if(tot a e:Int)>1 then(tot a e:Int)else 1)=T at Z
   have t1:1<=T:=by rw[<-q];split<;>omega
   have t2:T<=(a.length:Int):=by rw[<-q];split<;>omega
   have t3:(a.count (e,l):Int)<=T:=by rw[<-q];split<;>omega
   refine hN _ _ ⟨⟨U*(a.count (e,l):Int),D*T,_,_,rfl,dh O (by omega),dO W (by omega),?_,?_,?_⟩,(G.trans Y).trans s3⟩
   ·exact eW ud t3 (by omega) (by omega)
   ·rw[oE]
    exact eW dp t2 (by omega) (Int.pow_nonneg (by omega))
   ·rw[j,zGS,<-b,Z]
    exact(zNo O W (by omega) (by omega)).symm
  ·rintro σ H' ⟨⟨U,D,y,z,rfl,O,W,ud,dp,b⟩,G⟩
   rw[ai,bA,C]at dp b
   rw[<-zBo o nm,aX]at b
   have ak:D<1073741824:=by
    have e2:((a.length^(nm.length+1):Nat):Int)=(a.length:Int)^(nm.length+1):=by simp
    omega
   refine⟨_,rfl,_,rfl,U,D,rfl,O,W,by omega,fun p Z=>u _ _ (G.upd_new (G.free Z)) ?_⟩
   rw[<-b]
   exact yR.new
end
end Kn
end
section
namespace Kn.Ln
open PySem L2 Kn
section
variable{P:aw}{w:aI}{K:aa}{mg:Str->Option ae}{base:bc}
def zAy (K:aa)(H:Hp)(ts:List S)(b:V)(st:Option Nat×(Int×Int)):Prop:=match st.1 with
 |none=>b=.non/\st.2=(0,1)
 |some j=>∃a v t,b=.ref a/\H a=some (.tup [v,sv t])/\ts[j]?=some t/\yR K H v st.2/\Sm st.2/\0<st.2.1
theorem zAy.same {K:aa}{H H':Hp}{ts:List S}{b:V}{st:Option Nat×(Int×Int)}(h:zAy K H ts b st)(s:zB H H'):zAy K H' ts b st:=by
 obtain⟨o,q⟩:=st
 cases o with
 |none=>exact h
 |some j=>
  obtain⟨a,v,t,c,d,e,f,g,i⟩:=h
  exact⟨a,v,t,c,s _ _ d,e,f.same s,g,i⟩
abbrev sBT:bR:=top 51
theorem zHm:FnScope ["_law_kept","_law_order","_law_name_here","_law_best","_law_title","_law_here"] ["_law_kept","_law_order","_law_name_here"] (defScope sBT):=z5
def zHn:Sp:=fun vs H Q _=>∃(D:af) (o:Nat) (x:S) (kvs:List (S×zP)),vs=[.ref D,.int o,sv x]/\KpAt H D kvs/\kvs.length<64/\(∀q∈kvs,Fit q.2.2 o x)/\∀ts H',vN kvs ts->zB H H'->Q (uA ts (j8 (ts.map fun t=>y9 (zU o (zY kvs t)) o x))) H'
theorem zNu {f:af}{fd:ar}(F:Fun K "_law_best_title" "_law_best_title" sBT f fd)(B:Blt mg)(cC:zW P w K mg base 1 "_law_counts" ["_law_book_here","_law_order"] zAo)(cS:zW P w K mg base 2 "_law_share_by" ["_law_rows","_law_order","_law_name_here"] (zAp K)):FnOk P w K mg base zS 3 f fd ["_law_kept","_law_order","_law_name_here"] zHn:=by
 refine F.ok zHm (fun vs H Q E h=>?_) (fun ac A outer s H vs Q E hr h=>?_)
 ·obtain⟨D,o,x,kvs,rfl,_⟩:=h;rfl
 ·obtain⟨D,o,x,kvs,rfl,g,hl,hf,kQ⟩:=h
  have hu:=vT hr
  have nd:=zHm.nd
  have r1:=hr.mono (j:=1) (by decide)
  refine⟨_,zF (zZ (i:=3) nd rfl (Or.inl rfl) u7)
   (zF (uV bO rfl (jQ (z7 (zAh rfl) (by rfl) B.sorted cJ (zA (pv 0) zC))) (yY (i:=4) nd rfl (Or.inl rfl))
    (zF (zZ (i:=5) nd rfl (Or.inl rfl) (zV cS hr rfl (zA (zV cC r1 rfl (zA (uD hu (pv 0) (pv 4) (fun _ _=>rfl)) (zA (pv 1) zC))) (zA (pv 1) (zA (pv 2) zC)))))
    (zI (yE (PW.pt (zCO (yM zBK (vG vW (pv 5) zG (fun _ _=>rfl)) zG (yZ _))
      (zCN (PW.pt (qS (kX (zEU (pv 3))) (qR (yM zEk (zR u8 (vG vW (vG vW (pv 3) zG (fun _ _=>rfl)) zG (fun _ _=>rfl)) (vG vW (pv 5) zG (fun _ _=>rfl))) (zR u8 (vG vW (pv 5) zG (fun _ _=>rfl)) (vG vW (vG vW (pv 3) zG (fun _ _=>rfl)) zG (fun _ _=>rfl))) (yZ _))))))))
     (zI (zZ (i:=3) nd rfl (Or.inl rfl) (y6 (zA (pv 5) (zA (pv 4) zC))))) yC))))
   (zI (zT (gN (kX (zEU (pv 3))) u7 (vG vW (pv 3) zG (fun _ _=>rfl)))))),?_⟩
  have ek:(kvs.map fun p:S×zP=>(tx p.1,V.ref p.2.1)).map (·.1)=(kvs.map (·.1)).map tx:=by rw[aY,aY];rfl
  refine⟨_,rfl,D,_,rfl,g.now,?_,by rw[ai];exact hl,fun n l hp hs hn=>?_⟩
  ·rw[ek,fk,bM]
   exact gy (fun h e=>h (kR e)) g.nd
  rw[ek]at hp
  have e1:n.map V.str=zD (n.map fun z=>z.cps.toList):=by
   unfold zD
   rw[aY]
   refine cc fun z _=>?_
   show V.str z=V.str (tx z.cps.toList)
   rw[zDv]
  rw[e1]
  have it:vN kvs (n.map fun z=>z.cps.toList):=by
   refine⟨?_,bM.mpr hs⟩
   have:=hp.map (fun z:Str=>z.cps.toList)
   rw[aY]at this
   have O:((fun z:Str=>z.cps.toList) ∘ tx:S->S)=id:=by funext z;show(tx z).cps.toList=z;rw[uY]
   rw[O,mr]at this
   exact this
  generalize(n.map fun z=>z.cps.toList)=ts at it
  have s2:zB H (upd H l (.lst (zD ts))):=zB.upd1 hn
  have l2:upd H l (.lst (zD ts)) l=some (.lst (zD ts)):=zH
  generalize upd H l (.lst (zD ts))=H2 at s2 l2
  have g2:=g.same s2
  have bl:(zD ts).length=ts.length:=by unfold zD;rw[ai]
  refine⟨l,rfl,⟨_,.of l2⟩,?_⟩
  refine qI (jY K l (zD ts)) (fun i σ H'=>(∃(b:V) (y4 y5:Option V),σ=[some (.ref D),some (.int o),some (sv x),some b,y4,y5]/\zAy K H' ts b (vU ((ts.take i).map fun t=>y9 (zU o (zY kvs t)) o x) 0 (none,(0,1))))/\zB H2 H')
   ⟨⟨_,_,_,rfl,rfl,rfl⟩,zB.refl _⟩ (fun i σ H' _ h=>.of (h.2 _ _ l2)) ?_ ?_
  ·rintro i y σ H' Nx u hy ⟨⟨b,y4,y5,rfl,bi⟩,Z⟩
   obtain⟨t,T,rfl⟩:=zAP hy
   have hi:i<ts.length:=(ag.mp T).1
   have ab:ts.take (i+1)=ts.take i++[t]:=by rw[ax hi,(ag.mp T).2]
   have gt:=it.get (aH T)
   have g3:=g2.same Z
   have dg:=g3.dget t
   rw[gt]at dg
   have G:Fit (zY kvs t) o x:=hf _ (it.mem g.nd (aH T))
   have pl:=zAq G.toBk
   refine⟨_,rfl,_,rfl,D,_,rfl,dg,_,rfl,(qP kvs t).1,zY kvs t,o,rfl,g3.get gt,G.hi,G.l8,G.o1,fun d H3 s3 hd R=>?_⟩
   refine⟨_,rfl,_,rfl,d,zU o (zY kvs t),o,x,rfl,R,pl.1,pl.2,G.pw,G.o1,by have:=G.nmn.2.1;omega,fun v H4 s4 fr=>?_⟩
   have U:=zDP (o:=o) pl.1 G.pw
   rw[ab,aL]at u
   rw[show([t].map fun t=>y9 (zU o (zY kvs t)) o x)=[y9 (zU o (zY kvs t)) o x]from rfl,zBs]at u
   have c:=bi.same (s3.trans s4)
   have C:=Z.trans (s3.trans s4)
   generalize y9 (zU o (zY kvs t)) o x=q at fr U u
   generalize vU ((ts.take i).map fun t=>y9 (zU o (zY kvs t)) o x) 0 (none,(0,1))=st at c u
   clear bi
   obtain⟨hv,rfl,J⟩:=id fr
   refine⟨_,rfl,hv,_,0,.int q.1,rfl,rfl,J,rfl,_,_,rfl,rfl,_,rfl,?_⟩
   obtain⟨I,r⟩:=st
   by_cases c0:q.1>0
   case neg=>
    have q0:q.1=0:=by have:=U.up;omega
    refine yK c0 (yA (u _ _ ⟨⟨b,_,_,rfl,?_⟩,C⟩))
    have e:uF (I,r) (0+((ts.take i).map fun t=>y9 (zU o (zY kvs t)) o x).length) q=(I,r):=by
     unfold uF
     refine if_neg fun z=>?_
     have z':r.1*q.2<q.1*r.2:=of_decide_eq_true z
     rw[q0,ix]at z'
     have:0<=r.1*q.2:=by
      cases I with
      |none=>
       have O:r=(0,1):=c.2
       rw[O];exact Int.le_of_eq (ix _).symm
      |some j=>
       obtain⟨_,_,_,_,_,_,_,N,_⟩:=c
       exact dh N.up (bW U.dn)
     omega
    rw[e];exact c
   refine vH c0 ?_
   have li:0+((ts.take i).map fun t=>y9 (zU o (zY kvs t)) o x).length=i:=by rw[ai,aV];omega
   rw[li]at u
   have new:yO r q=true->∀m,H4 m=none->zAy K (upd H4 m (.tup [.ref hv,sv t])) ts (.ref m) (uF (I,r) i q):=fun L m M=>by
    have e:uF (I,r) i q=(some i,q):=if_pos L
    rw[e]
    exact⟨m,_,t,rfl,zH,T,fr.same (zB.upd1 M),U,c0⟩
   cases I with
   |none=>
    obtain⟨rfl,O⟩:=c
    have e3:r=(0,1):=O
    have L:yO r q=true:=by
     rw[e3]
     refine decide_eq_true ?_
     show 0*q.2<q.1*1
     rw[ix,oN];exact c0
    refine⟨_,rfl,_,rfl,yJ (yJ ⟨_,rfl,_,rfl,by show 2<=sizeLine;decide,fun m M=>?_⟩)⟩
    exact u _ _ ⟨⟨_,_,_,rfl,new L m M⟩,C.trans (zB.upd1 M)⟩
   |some j=>
    obtain⟨a,v,t',rfl,W,h3,h4,N,h6⟩:=c
    obtain⟨va,rfl,X⟩:=id h4
    refine⟨_,rfl,_,rfl,yA ?_⟩
    refine⟨_,rfl,a,_,0,.ref va,rfl,rfl,.of W,rfl,va,_,0,.int r.1,rfl,rfl,X,rfl,_,rfl,hv,_,1,.int q.2,rfl,rfl,J,rfl,_,_,rfl,rfl,.inl ⟨by have:=N.up;have:(0:Int)<=r.1:=N.up;omega,by have:r.1<1073741824:=N.u1;omega⟩,?_⟩
    refine⟨_,rfl,hv,_,0,.int q.1,rfl,rfl,J,rfl,_,rfl,a,_,0,.ref va,rfl,rfl,.of W,rfl,va,_,1,.int r.2,rfl,rfl,X,rfl,_,_,rfl,rfl,.inl ⟨by omega,by have:=U.u1;omega⟩,_,_,rfl,rfl,_,rfl,?_⟩
    by_cases c1:r.1*q.2<q.1*r.2
    ·refine vH c1 ⟨_,rfl,_,rfl,by show 2<=sizeLine;decide,fun m M=>?_⟩
     exact u _ _ ⟨⟨_,_,_,rfl,new (decide_eq_true c1) m M⟩,C.trans (zB.upd1 M)⟩
    ·refine yK c1 (u _ _ ⟨⟨_,_,_,rfl,?_⟩,C⟩)
     have e:uF (some j,r) i q=(some j,r):=if_neg fun z=>c1 (of_decide_eq_true z)
     rw[e]
     exact⟨a,_,t',rfl,W,h3,h4,N,h6⟩
  ·rintro σ H' ⟨⟨b,y4,y5,rfl,bi⟩,Z⟩
   rw[bl,aX]at bi
   have Y:=kQ ts H' it (s2.trans Z)
   unfold j8 at Y
   generalize vU (ts.map fun t=>y9 (zU o (zY kvs t)) o x) 0 (none,(0,1))=st at bi Y
   obtain⟨I,q⟩:=st
   cases I with
   |none=>
    obtain⟨rfl,_⟩:=bi
    exact⟨_,rfl,_,rfl,yJ Y⟩
   |some j=>
    obtain⟨a,v,t,rfl,W,h3,_⟩:=bi
    have e:uA ts (some j)=sv t:=by show(pk sv ts[j]?).getD V.non=sv t;rw[h3];rfl
    rw[e]at Y
    exact⟨_,rfl,_,rfl,yA ⟨_,rfl,a,_,1,sv t,rfl,rfl,.of W,rfl,Y⟩⟩
end
end Kn.Ln
end
section
namespace Kn
open PySem L2
def qQ (f:bq->Option ba):List bq->Option (List ba)
 | []=>some []
 |e::es=>(f e).bind fun d=>(qQ f es).map fun ds=>d::ds
def lit:Nat->bq->Option ba
 |0,_=>none
 |n+1,e=>match e with
  | .Constant (.int i) _ _=>some (.int i)
  | .Constant (.bool b) _ _=>some (.bool b)
  | .Constant .none _ _=>some .none
  | .Constant (.str x) _ _=>some (.str x)
  | .Tuple es _ _=>if es.length<=900 then(qQ (lit n) es).map .tuple else none
  | .List es _=>if es.length<=900 then(qQ (lit n) es).map .list else none
  |_=>none
theorem zEL {f:bq->Option ba}:∀{b:List bq}{a:List ba},qQ f b=some a->a.length=b.length
 | [],a,h=>by cases(show some []=some a from h);rfl
 |e::b,a,h=>by
  unfold qQ at h
  cases c:f e with
  |none=>rw[c]at h;cases h
  |some d=>
   cases g:qQ f b with
   |none=>rw[c,g]at h;cases h
   |some i=>
    rw[c,g]at h
    cases h
    rw[aR,aR,zEL g]
def zCL:bq->Bool
 | .Starred ..=>false
 |_=>true
theorem zNv {e:bq}{a:List bq}(h:zCL e=true)(env):starEach (e::a) env=(false,eval e env)::starEach a env:=by
 cases e<;>first|rfl|(cases h)
section
variable{X:Cx}{e:bq}{es:List bq}{te:TE}{t:TA}{pos:Pos}
theorem zNw (a:PE X e te)(b:PA X es t)(c:zCL e=true:=by rfl):PA X (e::es) (kI te t):=zA a b (zNv c _)
end
def zHo (d:ba):TE:=fun σ H Q=>∀v H',zB H H'->zM H' d v->Q v H'
def zNx (ds:List ba):TA:=fun σ H Q=>∀vs H',zB H H'->Thgs H' ds vs->Q vs H'
theorem zHp {n:Nat}{e:bq}{d:ba}(h:lit n e=some d):zCL e=true:=by
 cases n with
 |zero=>cases h
 |succ n=>cases e<;>first|rfl|(cases h)
theorem PE.mono {X:Cx}{e:bq}{t t':TE}(h:PE X e t)(q:∀σ H Q,t' σ H Q->t σ H Q):PE X e t':=fun a s σ H Q I k=>h a s σ H Q I (q σ H Q k)
theorem PA.mono {X:Cx}{b:List bq}{t t':TA}(h:PA X b t)(q:∀σ H Q,t' σ H Q->t σ H Q):PA X b t':=fun pos a s σ H Q I k=>h pos a s σ H Q I (q σ H Q k)
theorem zEM {X:Cx}{f:bq->Option ba}(j:∀e d,f e=some d->zCL e=true/\PE X e (zHo d)):∀{b:List bq}{a:List ba},qQ f b=some a->PA X b (zNx a)
 | [],a,h=>by
  cases(show some []=some a from h)
  exact PA.mono zC fun σ H Q q=>q [] H (zB.refl H) rfl
 |e::b,a,h=>by
  unfold qQ at h
  cases c:f e with
  |none=>rw[c]at h;cases h
  |some d=>
   cases g:qQ f b with
   |none=>rw[c,g]at h;cases h
   |some m=>
    rw[c,g]at h
    cases h
    obtain⟨ns,he⟩:=j e d c
    refine PA.mono (zNw he (zEM j g) ns) fun σ H Q q=>?_
    intro v r n o vs p l i
    exact q (v::vs) p (n.trans l) ⟨_,_,rfl,zM.same l _ _ o,i⟩
theorem zAz {X:Cx}:∀(n:Nat) (e:bq) (d:ba),lit n e=some d->PE X e (zHo d)
 |0,e,d,h=>by cases h
 |n+1,e,d,h=>by
  unfold lit at h
  split at h
  ·cases h;exact PE.mono zG fun σ H Q q=>q _ H (zB.refl H) rfl
  ·cases h;exact PE.mono uC fun σ H Q q=>q _ H (zB.refl H) rfl
  ·cases h;exact PE.mono u7 fun σ H Q q=>q _ H (zB.refl H) rfl
  ·cases h;exact PE.mono yG fun σ H Q q=>q _ H (zB.refl H) rfl
  ·rename_i f _ _
   split at h
   ·rename_i hl
    cases b:qQ (lit n) f with
    |none=>rw[b]at h;cases h
    |some i=>
     rw[b]at h
     cases h
     refine PE.mono (y6 (zEM (fun e d q=>⟨zHp q,zAz n e d q⟩) b)) fun σ H Q q=>?_
     intro vs j g a
     have:=zEL b
     have:=a.length
     refine⟨by rw[aP];omega,fun p c=>q _ _ (g.trans (zB.upd1 c)) ⟨p,vs,rfl,zH,Thgs.same (zB.upd1 c) _ _ a⟩⟩
   ·cases h
  ·rename_i f _
   split at h
   ·rename_i hl
    cases b:qQ (lit n) f with
    |none=>rw[b]at h;cases h
    |some i=>
     rw[b]at h
     cases h
     refine PE.mono (uR (zEM (fun e d q=>⟨zHp q,zAz n e d q⟩) b)) fun σ H Q q=>?_
     intro vs j g a
     have:=zEL b
     have:=a.length
     refine⟨by rw[aP];omega,fun p c=>q _ _ (g.trans (zB.upd1 c)) ⟨p,vs,rfl,zH,Thgs.same (zB.upd1 c) _ _ a⟩⟩
   ·cases h
  ·cases h
end Kn
namespace Kn.Ln
open PySem L2 Kn
theorem zHq:∀{l m:List S},l.Pairwise (· < ·)->m.Pairwise (· < ·)->(∀x,x∈l↔x∈m)->l=m
 | [],[],_,_,_=>rfl
 | [],y::f,_,_,h=>absurd ((h y).mpr (av ..)) (by simp)
 |x::xs,[],_,_,h=>absurd ((h x).mp (av ..)) (by simp)
 |x::xs,y::f,g,i,h=>by
  have hx1:=eE.mp g
  have a:=eE.mp i
  have c:x=y:=by
   rcases aJ.mp ((h x).mp (av ..))with e|e
   ·exact e
   ·rcases aJ.mp ((h y).mpr (av ..))with d|d
    ·exact d.symm
    ·exact absurd (zKs (a.1 x e) (hx1.1 y d)) (zAi y)
  subst c
  have:xs=f:=zHq hx1.2 a.2 fun p=>by
   constructor
   ·intro b
    rcases aJ.mp ((h p).mp (au _ b))with e|e
    ·subst e;exact absurd (hx1.1 p b) (zAi p)
    ·exact e
   ·intro b
    rcases aJ.mp ((h p).mpr (au _ b))with e|e
    ·subst e;exact absurd (a.1 p b) (zAi p)
    ·exact e
  rw[this]
theorem zBA {te:TE}{g:TG}{u:TS}{D:Ends}{σ:St}{H:Hp}(h:te σ H fun x a=>g x σ a (u D)):zCP (zCT te g) u D σ H:=h
theorem zCM {lo:Int}{n i:Nat}{x:V}(h:((cb n).map fun(i:Nat)=>V.int (lo+(i:Int)))[i]?=some x):i<n/\x=V.int (lo+(i:Int)):=by
 have hi:i<n:=by
  have:=(ag.mp h).1
  simpa using this
 rw[az,dZ hi]at h
 exact⟨hi,(aq h).symm⟩
theorem zNy {B:List S}{o:Nat}(h:∀x∈B,x.length<=3):(zU o B).length<=4*B.length:=by
 have a:((zU o B).length:Int)<=4*(B.length:Int):=by
  rw[zAj]
  have go:∀l:List S,(∀x∈l,x.length<=3)->(l.map fun x=>(x.length:Int)+1).sum<=4*(l.length:Int):=by
   intro l
   induction l with
   |nil=>intro _;simp
   |cons x r ih=>
    intro hl
    have c:=hl x (av ..)
    have a:=ih fun y b=>hl y (au _ b)
    rw[aF,ck,aR]
    have:((r.length+1:Nat):Int)=(r.length:Int)+1:=rfl
    omega
  exact go B h
 omega
theorem zNz {n l:Nat}(a:n<=32)(hl:l<=3):n^(l+1)<=1048576:=by
 have b:n^(l+1)<=32^(l+1):=Nat.pow_le_pow_left a _
 have c:(32:Nat)^(l+1)<=32^4:=dP (by decide) (by omega)
 have d:(32:Nat)^4=1048576:=by decide
 omega
theorem vN.uniq {kvs:List (S×zP)}{ts us:List S}(a:vN kvs ts)(b:vN kvs us):us=ts:=zHq b.2 a.2 fun x=>by rw[b.1.mem_iff,a.1.mem_iff]
structure LB (bk:List S) (o:Nat):Prop where
 toB:Bk bk o
 l3:∀x∈bk,x.length<=3
theorem LB.pw {bk:List S}{o:Nat}(h:LB bk o){x:S}(a:x.length<=3):(zU o bk).length^(x.length+1)<=1048576:=zNz (by have:=zNy (o:=o) h.l3;have:=h.toB.hi;omega) a
theorem LB.fit {bk:List S}{o:Nat}(h:LB bk o){x:S}(a:z3 x)(b:x.length<=3):Fit bk o x:=⟨h.toB,a,by have:=h.pw b;omega⟩
theorem zOA {C:af}{H:Hp}{σ:St}{i o:Nat}{Q:VK}(hi:σ[i]?=some (some (.int (o:Int))))(o1:1<=o)(o3:o<=3)(h:∀k a d dn un H',zB H H'->H dn=none->LgAt H' C k a d dn un o [] []->Q (.ref k) H') :
  zBN C (zBw C) [] E0 (kI (vS i) qV) σ H Q:=by
 refine⟨_,hi,fun x a j hd l=>?_⟩
 refine⟨x,a,o,rfl,zH,o1,o3,fun d dn un H' m n c g=>⟨rfl,h x a d dn un H' (fun b u e=>?_) ?_ g⟩⟩
 ·have f:b≠x:=fun z=>by rw[z,j]at e;cases e
  have bd:b≠a:=fun z=>by rw[z,hd]at e;cases e
  exact m _ _ f (by rw[zJ f,zJ bd];exact e)
 ·cases z:H dn with
  |none=>rfl
  |some u=>
   have f:dn≠x:=fun q=>by rw[q,j]at z;cases z
   have bd:dn≠a:=fun q=>by rw[q,hd]at z;cases z
   rw[zJ f,zJ bd,z]at c;cases c
def zOB:HO->Prop
 | .lst _=>True
 | .tup _=>True
 | .frz _ _=>True
 |_=>False
theorem zOC {X:Cx}{k:Nat}{x:Str}{sp:Sp}{p pos:Pos}(C:zW X.prog X.w X.K X.mg X.base k x [] sp)(c:Room k X.A)(d:Gl X x)(a:(x==("__debug__" : Str))=false:=by decide):PE X (.Call (.Name x p) [] [] pos) (kJ sp [] E0 qV):=by
 obtain⟨f,fd,G,e,kp,b⟩:=C
 exact zJM G c d e kp b .nil gZ a
theorem zEN {P:aw}{w:aI}{K:aa}{mg:Str->Option ae}{base:bc}{k:Nat}{x:Str}{b:List Str}{sp a:Sp}(C:zW P w K mg base k x b sp)(h:∀{vs H Q E},a vs H Q E->sp vs H Q E):zW P w K mg base k x b a :=
 let⟨f,fd,F,r⟩:=C
 ⟨f,fd,F.imp fun _ _ _ _ z=>h z,r⟩
section
variable{K:aa}
theorem zOD {vs:List V}{H:Hp}{Q:VK}{E:XK}(h:zGL vs H Q E):zAt vs H Q E:=by
 obtain⟨u,d,rfl,a,b,c,k⟩:=h
 exact⟨u,d,rfl,a,b,by omega,k⟩
theorem zOE {vs:List V}{H:Hp}{Q:VK}{E:XK}(h:zGN K vs H Q E):zGw K vs H Q E:=by
 obtain⟨x,y,p,q,rfl,a,b,c,d,_,k⟩:=h
 exact⟨x,y,p,q,rfl,a,b,c.vx,d.vx,k⟩
theorem zOF {vs:List V}{H:Hp}{Q:VK}{E:XK}(h:zGO K vs H Q E):zDi K vs H Q E:=by
 obtain⟨x,y,p,q,rfl,a,b,c,d,k⟩:=h
 exact⟨x,y,p,q,rfl,a,b,c.vx,d.vx,k⟩
end
def zHr (K:aa)(C:af)(m qual:Str)(st:bR)(ps:List Str):Prop:=∃(f:af) (fd:ar),Fun K m qual st f fd/\CMeth K C m f/\vF K fd ps []
theorem zOG {K:aa}{C:af}{m b:Str}{st:bR}{f:af}{g kV h pm d ct:ae}{od i:Option af}{j:Array (Option ae)}(e:List Str)(n:∀(fd:ar),Fun K m b st f fd->vF K fd e [])
  (a:mF K (.ref C) (.type "type") m=some (.val (.ref f))) (rd:mE K C (.type "type")=true) (sp:gs K (.ref C) "__getattribute__"=some (some (.builtin "type.__getattribute__"))) (l:K.lookup f=some ⟨g,od,.func (cp m b (defArgs st) (defBody st) (defScope st) .none kV h pm i d ct),j⟩) (c:de K d b=true) (k:bP K (.ref f)=true):zHr K C m b st e :=
 ⟨f,_,gB (st:=st) l c k,⟨rd,sp,a,k⟩,n _ (gB (st:=st) l c k)⟩
structure LgCls (K:aa) (S0 C:af):Prop where
 ns:aO K mainGlobals "Ledger"=some (some (.ref C))
 nst:aO K mainGlobals "Stepper"=some (some (.ref S0))
 cls:Cls K C
 now:bf K (.ref C) "now"=some none
 don:bf K (.ref C) "done"=some none
 und:bf K (.ref C) "undone"=some none
 ord:bf K (.ref C) "order"=some none
 makes:iF K C=true
 kp:bP K (.ref C)=true
def tt3:List S:=[[116],[117],[116,98]]
theorem zOH:∀t∈tt3,z3 t:=by
 intro t a
 unfold tt3 at a
 simp only[aJ,mf,or_false]at a
 rcases a with rfl|rfl|rfl<;>exact⟨by decide,by decide,by decide⟩
def zHs:List V:=[.str "t",.str "u",.str "tb",.str "t",.str "u",.non,.str "A",.int 5]
theorem zOI {j:Nat}(h:j<8):∃u ot,jU zHs (j:Int)=some u/\zAS u ot/\∀t,ot=some t->t∈tt3:=by
 have a:=zOH
 match j,h with
 |0,_=>exact⟨_,some [116],vJ (j:=0) rfl,⟨rfl,a _ (by decide)⟩,fun t e=>by cases e;decide⟩
 |1,_=>exact⟨_,some [117],vJ (j:=1) rfl,⟨rfl,a _ (by decide)⟩,fun t e=>by cases e;decide⟩
 |2,_=>exact⟨_,some [116,98],vJ (j:=2) rfl,⟨rfl,a _ (by decide)⟩,fun t e=>by cases e;decide⟩
 |3,_=>exact⟨_,some [116],vJ (j:=3) rfl,⟨rfl,a _ (by decide)⟩,fun t e=>by cases e;decide⟩
 |4,_=>exact⟨_,some [117],vJ (j:=4) rfl,⟨rfl,a _ (by decide)⟩,fun t e=>by cases e;decide⟩
 |5,_=>exact⟨_,none,vJ (j:=5) rfl,.inl rfl,fun t e=>by cases e⟩
 |6,_=>exact⟨_,none,vJ (j:=6) rfl,.inr (.inl rfl),fun t e=>by cases e⟩
 |7,_=>exact⟨_,none,vJ (j:=7) rfl,.inr (.inr rfl),fun t e=>by cases e⟩
def zHt:List V:=[.int 0,.int 0,.int 0,.int 1,.int 2,.int 2,.int 3]
theorem zOJ {j:Nat}(h:j<7):∃wy:Nat,wy<4/\jU zHt (j:Int)=some (.int (wy:Int)):=by
 match j,h with
 |0,_=>exact⟨0,by decide,vJ (j:=0) rfl⟩
 |1,_=>exact⟨0,by decide,vJ (j:=1) rfl⟩
 |2,_=>exact⟨0,by decide,vJ (j:=2) rfl⟩
 |3,_=>exact⟨1,by decide,vJ (j:=3) rfl⟩
 |4,_=>exact⟨2,by decide,vJ (j:=4) rfl⟩
 |5,_=>exact⟨2,by decide,vJ (j:=5) rfl⟩
 |6,_=>exact⟨3,by decide,vJ (j:=6) rfl⟩
def CM (m:jG):Prop:=∀q∈m,z3 q.1/\isBk q.2/\∀x∈q.2,x.length<=3
def Th3:Thing->Prop
 | .bad=>True
 | .nm x=>x.length<=3
 | .bk l=>∀x∈l,x.length<=3
theorem CM.put {m:jG}(h:CM m){t:S}{b:List S}(a:z3 t)(c:isBk b)(d:∀x∈b,x.length<=3):CM (zO m t b):=fun q e=>by
 rcases zAF e with rfl|⟨z,_⟩
 ·exact⟨a,c,d⟩
 ·exact h q z
theorem CM.del {m:jG}(h:CM m)(t:S):CM (kT m t):=fun q a=>h q (cF.mp a).1
theorem CM.gb {kvs:List (S×zP)}(h:CM (cnt kvs)):GB kvs:=fun q a=>by
 have z:=h (q.1,q.2.2) (aM.mpr ⟨q,a,rfl⟩)
 exact⟨z.1,z.2.1⟩
theorem zOK {m:jG}{t:S}{b:List S}(h:zE m t=some b):(t,b)∈m:=by
 induction m with
 |nil=>cases h
 |cons q l ih=>
  obtain⟨k,v⟩:=q
  have h':(if k=t then some v else zE l t)=some b:=h
  by_cases e:k=t
  ·rw[if_pos e]at h';cases h';rw[e];exact av ..
  ·rw[if_neg e]at h';exact au _ (ih h')
theorem CM.lb {kvs:List (S×zP)}(h:CM (cnt kvs)){o:Nat}(o1:1<=o)(o3:o<=3):∀q∈kvs,LB q.2.2 o:=fun q a=>by
 have z:=h (q.1,q.2.2) (aM.mpr ⟨q,a,rfl⟩)
 exact⟨⟨z.2.1,o1,o3⟩,z.2.2⟩
inductive RS:ba->Prop
 |bl (b:Bool):RS (.bool b)
 |num (n:Nat):RS (.int (n:Int))
 |tup (ds:List ba) (vs:List V) (sh:bI (.tuple ds)=true) (cl:(PyData.tuple ds).canLay0=true) (inv:∀H v,zM H (.tuple ds) v->∃p,v=.ref p/\H p=some (.tup vs)) (mk:∀(H:Hp) p,H p=some (.tup vs)->zM H (.tuple ds) (.ref p)):RS (.tuple ds)
theorem RS.sh {r:ba}(h:RS r):bI r=true/\r.canLay0=true:=by
 cases h with
 |bl b=>exact⟨rfl,rfl⟩
 |num n=>exact⟨rfl,rfl⟩
 |tup c vs sh cl a mk=>exact⟨sh,cl⟩
theorem RS.keep {r:ba}(h:RS r){H H':Hp}{v:V}(t:zM H r v)(s:∀p u,H p=some (.tup u)->H' p=some (.tup u)):zM H' r v:=by
 cases h with
 |bl b=>exact t
 |num n=>exact t
 |tup d vs sh cl a mk=>
  obtain⟨p,rfl,c⟩:=a _ _ t
  exact mk _ _ (s _ _ c)
theorem kA (j:Nat):RS (z6 j):=by
 refine .tup _ [.str "refused",.int j] ?_ ?_ (fun H v h=>?_) fun H p h=>kU h
 ·have:iA "refused"=true:=by decide+kernel
  unfold bI
  simp only[cD,b7,dC,cZ,this]
  rfl
 ·have:iA "refused"=true:=by decide+kernel
  simp only[cD,b7,this];rfl
 ·obtain⟨a,xs,rfl,b,y,c,rfl,rfl,z,d,rfl,rfl,rfl⟩:=h
  exact⟨a,rfl,b⟩
theorem zHu {l:List S}(h:∀x∈l,z3 x):RS (.tuple (y0 l)):=by
 obtain⟨a,b⟩:=shT h
 refine .tup _ (zD l) a b (fun H v h=>?_) fun H p h=>zAT h
 obtain⟨p,xs,rfl,c,d⟩:=h
 rw[Thgs.strs_inv d]at c
 exact⟨p,rfl,c⟩
theorem zHv {m f:jG}{wy:Nat}{ot:Option S}{th:Thing}{r:ba}{u b:V}{H:Hp}(h:CM m)(C:zAS u ot)(v:uP H wy b th)(A:Th3 th)(e:jH m wy ot th=(r,f)) :
  CM f/\f.length<=m.length+1/\(∀q∈f,q.1∈m.map (·.1)\/ot=some q.1)/\RS r:=by
 have same:m=f->RS r->CM f/\f.length<=m.length+1/\(∀q∈f,q.1∈m.map (·.1)\/ot=some q.1)/\RS r:=fun z j=>by
  subst z
  exact⟨h,fC _,fun q g=>.inl (aM.mpr ⟨q,g,rfl⟩),j⟩
 cases ot with
 |none=>cases e;exact same rfl (kA 1)
 |some t=>
  obtain⟨rfl,D⟩:=C
  have o:∀{c},zE m t=some c->isBk c/\∀x∈c,x.length<=3:=fun z=>(h _ (zOK z)).2
  have put:∀{c:List S},isBk c->(∀x∈c,x.length<=3)->f=zO m t c->RS r->CM f/\f.length<=m.length+1/\(∀q∈f,q.1∈m.map (·.1)\/some t=some q.1)/\RS r:=fun{c} i p z j=>by
   subst z
   refine⟨h.put D i p,zBj _ _ _,fun q g=>?_,j⟩
   rcases zAF g with rfl|⟨z,_⟩
   ·exact .inr rfl
   ·exact .inl (aM.mpr ⟨q,z,rfl⟩)
  match wy with
  |0=>
   cases th with
   |bad=>cases e;exact same rfl (kA 2)
   |nm x=>cases e;exact same rfl (kA 2)
   |bk l=>
    cases e
    exact put v.2.choose_spec.2.2 A rfl (.bl _)
  |1=>
   have d:(match zE m t with|none=>(z6 3,m)|some b=>(.tuple (y0 b),kT m t))=(r,f):=e
   cases z:zE m t with
   |none=>rw[z]at d;cases d;exact same rfl (kA 3)
   |some c=>
    rw[z]at d;cases d
    exact⟨h.del t,bV (bF ..) (fC _),fun q g=>.inl (aM.mpr ⟨q,(cF.mp g).1,rfl⟩),zHu (o z).1.nm⟩
  |2=>
   cases th with
   |bad=>cases e;exact same rfl (kA 1)
   |bk l=>cases e;exact same rfl (kA 1)
   |nm x=>
    have d:(match zE m t with|none=>(z6 3,m)|some b=>if b.length=8 then(z6 2,m)else(.int ((b.length+1:Nat):Int),zO m t (b++[x])))=(r,f):=e
    cases z:zE m t with
    |none=>rw[z]at d;cases d;exact same rfl (kA 3)
    |some c=>
     rw[z]at d
     obtain⟨i,p⟩:=o z
     dsimp only at d
     by_cases B:c.length=8
     ·rw[if_pos B]at d;cases d;exact same rfl (kA 2)
     ·rw[if_neg B]at d;cases d
      obtain⟨_,_,E⟩:=v
      have a:=i.hi
      refine put (c:=c++[x]) ⟨by rw[aj];exact bV i.lo (lV _ _),by rw[aj];show c.length+1<=8;omega,fun y s=>?_⟩ (fun y s=>?_) rfl (.num _)
      ·rcases bG.mp s with w|w
       ·exact i.nm y w
       ·rw[bH.mp w];exact E
      ·rcases bG.mp s with w|w
       ·exact p y w
       ·rw[bH.mp w];exact A
  |n+3=>
   have d:(match zE m t with|none=>(z6 3,m)|some b=>(.tuple (y0 b),m))=(r,f):=e
   cases z:zE m t with
   |none=>rw[z]at d;cases d;exact same rfl (kA 3)
   |some c=>rw[z]at d;cases d;exact same rfl (zHu (o z).1.nm)
theorem zHw (kvs:List (S×zP))(t:S):zY kvs t=(zE (cnt kvs) t).getD []:=by
 unfold zY qP
 rw[uB]
 cases zE kvs t<;>rfl
theorem vN.cnt {kvs a:List (S×zP)}{ts:List S}(h:vN kvs ts)(e:cnt kvs=cnt a):vN a ts:=by
 refine⟨?_,h.2⟩
 rw[<-zEB,<-e,zEB];exact h.1
theorem jI (kvs:List (S×zP)):(cnt kvs).length=kvs.length:=by unfold Ln.cnt;rw[ai]
theorem zAU.same {H H':Hp}{kvs:List (S×zP)}{ts:List S}{o:Nat}{x:S}{wy:Nat}{v:V}(h:zAU H kvs ts o x wy v)(s:zB H H'):zAU H' kvs ts o x wy v:=by
 unfold zAU at h⊢
 match wy with
 |0=>obtain⟨l,e,z⟩:=h;exact⟨l,e,s _ _ z⟩
 |1=>obtain⟨l,e,z⟩:=h;exact⟨l,e,s _ _ z⟩
 |n+2=>exact h
def zEO (ts:List S):Option Nat->ba
 |none=>.none
 |some i=>(ts[i]?.map fun t=>PyData.str (tx t)).getD .none
theorem zHx {K:aa}{H:Hp}(ts:List S)(p:Option Nat):yN K H (zEO ts p) (uA ts p):=by
 cases p with
 |none=>rfl
 |some i=>
  show yN K H ((ts[i]?.map fun t=>PyData.str (tx t)).getD .none) ((ts[i]?.map sv).getD .non)
  cases ts[i]? <;>rfl
theorem zOL {ts:List S}(h:∀t∈ts,z3 t)(p:Option Nat):(zEO ts p).canLay0=true/\(zEO ts p).depth<=10:=by
 cases p with
 |none=>exact⟨rfl,by show 0<=10;decide⟩
 |some i=>
  show(cD ((ts[i]?.map fun t=>PyData.str (tx t)).getD .none))=true/\(dC ((ts[i]?.map fun t=>PyData.str (tx t)).getD .none))<=10
  cases e:ts[i]? with
  |none=>exact⟨rfl,by decide⟩
  |some t=>exact⟨zDa fun c a=>((h t (aH e)).2.2 c a).2,by show 0<=10;decide⟩
theorem zHy (L:List S):(PyData.list (y0 L)).depth<=10:=by
 have:cZ (y0 L)=0:=by
  induction L with
  |nil=>rfl
  |cons x l ih=>
   show cZ (PyData.str (tx x)::y0 l)=0
   simp only[cZ,ih,dC];rfl
 simp only[dC,this];decide
def zEP (a b:List S)(c:ba):ba:=.list [.list (y0 a),.list (y0 b),c]
theorem zOM {a b:List S}{c:ba}(e:∀x∈a,z3 x)(f:∀x∈b,z3 x)(g:c.canLay0=true/\c.depth<=10):bI (zEP a b c)=true/\(zEP a b c).canLay0=true:=zGc fun d hd=>by
 simp only[aJ,mf,or_false]at hd
 rcases hd with rfl|rfl|rfl
 ·exact⟨(shL e).2,zHy a⟩
 ·exact⟨(shL f).2,zHy b⟩
 ·exact g
theorem zHz {K:aa}{H:Hp}{l p q:af}{a b:List S}{c:ba}{v:V}(h:H l=some (.lst [.ref p,.ref q,v]))(d:H p=some (.lst (zD a)))(e:H q=some (.lst (zD b)))(f:yN K H c v):yN K H (zEP a b c) (.ref l) :=
 ⟨l,_,rfl,.of h,_,_,rfl,zCK d,_,_,rfl,zCK e,_,_,rfl,f,rfl⟩
theorem zIA {ts:List S}{p:S->Bool}(h:∀t∈ts,z3 t):∀t∈ts.filter p,z3 t:=fun t a=>h t (cF.mp a).1
theorem zON {H:Hp}{v:V}(h:zM H (.list [.int 0,.int 0,.int 0,.int 1,.int 2,.int 2,.int 3]) v):∃l,v=.ref l/\H l=some (.lst zHt):=by
 obtain⟨l,xs,rfl,hl,_,_,rfl,rfl,_,_,rfl,rfl,_,_,rfl,rfl,_,_,rfl,rfl,_,_,rfl,rfl,_,_,rfl,rfl,_,_,rfl,rfl,rfl⟩:=h
 exact⟨l,rfl,hl⟩
theorem zOO {H:Hp}{v:V}(h:zM H (.list [.str "t",.str "u",.str "tb",.str "t",.str "u",.none,.str "A",.int 5]) v):∃l,v=.ref l/\H l=some (.lst zHs):=by
 obtain⟨l,xs,rfl,hl,_,_,rfl,rfl,_,_,rfl,rfl,_,_,rfl,rfl,_,_,rfl,rfl,_,_,rfl,rfl,_,_,rfl,rfl,_,_,rfl,rfl,_,_,rfl,rfl,rfl⟩:=h
 exact⟨l,rfl,hl⟩
theorem zEQ {D:af}{kvs:List (S×zP)}{σ:St}{H:Hp}{Q:VK}{i:Nat}(hi:σ[i]?=some (some (.ref D)))(g:KpAt H D kvs)(hl:kvs.length<64)(k:∀l ts,vN kvs ts->H l=none->Q (.ref l) (upd H l (.lst (zD ts)))):tCB zFe (kI (vS i) qV) σ H Q:=by
 have b:(kvs.map fun p:S×zP=>(tx p.1,V.ref p.2.1)).map (·.1)=(kvs.map (·.1)).map tx:=by rw[aY,aY];rfl
 refine⟨_,hi,D,_,rfl,g.now,?_,by rw[ai];exact hl,fun a l c d f=>?_⟩
 ·rw[b,fk,bM]
  exact gy (fun h e=>h (kR e)) g.nd
 rw[b]at c
 have j:a.map V.str=zD (a.map fun z=>z.cps.toList):=by
  unfold zD
  rw[aY]
  refine cc fun z _=>?_
  show V.str z=V.str (tx z.cps.toList)
  rw[zDv]
 rw[j]
 refine k l _ ⟨?_,bM.mpr d⟩ f
 have:=c.map (fun z:Str=>z.cps.toList)
 rw[aY]at this
 have m:((fun z:Str=>z.cps.toList) ∘ tx:S->S)=id:=by funext z;show(tx z).cps.toList=z;rw[uY]
 rw[m,mr]at this
 exact this
theorem uP.keep {H H':Hp}{wy:Nat}{b:V}{th:Thing}(h:uP H wy b th)(s:∀p u,H p=some (.tup u)->H' p=some (.tup u)):uP H' wy b th:=by
 cases th with
 |bad=>
  refine h.imp id fun z=>?_
  by_cases d:wy=0
  ·rw[if_pos d]at z⊢
   obtain⟨p,e,c⟩:=z
   exact⟨p,e,s _ _ c⟩
  ·rw[if_neg d]at z⊢;exact z
 |nm x=>exact h
 |bk l=>
  obtain⟨a,p,e,c,f⟩:=h
  exact⟨a,p,e,s _ _ c,f⟩
theorem LgAt.butD {H H':Hp}{C k c d dn un D:af}{o:Nat}{kvs:List (S×zP)}{e:List V}{h:List (zX×V)}(g:LgAt H C k c d dn un o kvs e)(b:yH D H H')(a:H D=some (.dK h))(n:D≠d):LgAt H' C k c d dn un o kvs e :=
 ⟨b _ _ (y8 g.ins a nofun) g.ins,b _ _ (dG n) g.now,b _ _ (y8 g.don a nofun) g.don,fun q f=>b _ _ (y8 (g.bks q f) a nofun) (g.bks q f),g.nd⟩
theorem KpAt.but2 {H H':Hp}{C k e d dn un D:af}{o:Nat}{kvs a:List (S×zP)}{f:List V}(q:KpAt H D a)(g:LgAt H C k e d dn un o kvs f)(b:yV k dn H H'):KpAt H' D a :=
 ⟨b _ _ (y8 q.now g.ins nofun) (y8 q.now g.don nofun) q.now,fun p c=>b _ _ (y8 (q.bks p c) g.ins nofun) (y8 (q.bks p c) g.don nofun) (q.bks p c),q.nd⟩
theorem LgAt.tups {H H':Hp}{C k a d dn un:af}{o:Nat}{kvs:List (S×zP)}{c:List V}(g:LgAt H C k a d dn un o kvs c)(b:yV k dn H H'):∀p u,H p=some (.tup u)->H' p=some (.tup u):=fun p u h=>b _ _ (y8 h g.ins nofun) (y8 h g.don nofun) h
theorem zIB (n:Nat):∃m:Int,(if(if(n:Int)<12 then(n:Int)else 12)>1 then(if(n:Int)<12 then(n:Int)else 12)else 1)=m/\1<=m/\m<=12:=by
 by_cases h:(n:Int)<12
 ·rw[if_pos h]
  by_cases a:(n:Int)>1
  ·rw[if_pos a];exact⟨_,rfl,by omega,by omega⟩
  ·rw[if_neg a];exact⟨_,rfl,by decide,by decide⟩
 ·rw[if_neg h,if_pos (by decide)];exact⟨_,rfl,by decide,by decide⟩
theorem zOP {x:V}{i:Nat}(h:[V.non,V.str "A",V.str ""][i]?=some x):∃d,(∀H,zM H d x)/\sml d=true/\yL d=false:=by
 match i,h with
 |0,h=>cases h;exact⟨.none,fun _=>rfl,rfl,rfl⟩
 |1,h=>cases h;exact⟨.str "A",fun _=>rfl,by decide+kernel,by decide+kernel⟩
 |2,h=>cases h;exact⟨.str "",fun _=>rfl,by decide+kernel,by decide+kernel⟩
section
variable{P:aw}{w:aI}{K:aa}{mg:Str->Option ae}{base:bc}
structure LawC (P:aw) (w:aI) (K:aa) (mg:Str->Option ae) (base:bc) (C:af):Prop where
 dr:zW P w K mg base 2 "_law_drawn" ["_law_script","_law_k","_law_many"] (zDV K)
 nm:zW P w K mg base 3 "_law_name" ["_law_script","_law_at","_law_most"] (zDX K)
 bk:zW P w K mg base 4 "_law_book" ["_law_script","_law_at","_law_many","_law_most"] (zGa K)
 ti:v3 P w K mg base C 1 "titles" ["self"] (zAO C)
 make:zDl P w K mg base C 4 "Ledger" ["self","order"] (zBw C)
 to:zW P w K mg base 5 "_law_told" ["_law_ledger","_law_way","_law_title","_law_thing"] (zHc C)
 as_:zW P w K mg base 9 "_law_asked" ["_law_ledger","_law_way","_law_name_here"] (zHe C)
 du:zW P w K mg base 1 "_law_due" ["_law_kept","_law_way","_law_title","_law_thing"] zHj
 co:zW P w K mg base 1 "_law_counts" ["_law_book_here","_law_order"] zAo
 sh:zW P w K mg base 2 "_law_share_by" ["_law_rows","_law_order","_law_name_here"] (zAp K)
 bt:zW P w K mg base 3 "_law_best_title" ["_law_kept","_law_order","_law_name_here"] zHn
 od:zW P w K mg base 6 "_law_orders" [] zHg
def zBB (K:aa):Sp:=fun vs H Q _=>∃(a:af) (ns:List Int),vs=[.ref a]/\yF K H a (ns.map V.int)/\ns.length<=63/\∀H',Q (.bl true) H'
abbrev jJ:bR:=top 53
theorem zIC:FnScope ["_law_script","_law_order","_law_ledger","_law_kept","_law_k","_law_here","_law_way","_law_title","_law_thing","_law_due_here","_law_name_here","_law_rows","_law_one","_law_told_here","_law_bad"] ["_law_script"] (defScope jJ):=z5
theorem zOQ:(["_law_name_here","_law_kept","_law_one"]:List Str).Nodup:=by decide+kernel
theorem zOR:(["_law_ledger","_law_name_here","_law_asked_here"]:List Str).Nodup:=by decide+kernel
theorem zOS:(["_law_ledger","_law_k"]:List Str).Nodup:=by decide+kernel
theorem zOT:(["_law_ledger","_law_bad","_law_way"]:List Str).Nodup:=by decide+kernel
theorem zOU {f Kc:af}{fd:ar}(F:Fun K "law" "law" jJ f fd)(B:Blt mg)(hmx:mg "max"=none)(C:LawC P w K mg base Kc):FnOk P w K mg base zS 10 f fd ["_law_script"] (zBB K):=by
 refine F.ok zIC (fun vs H Q E h=>?_) (fun cdv A outer s H vs Q E hr h=>?_)
 ·obtain⟨a,ns,rfl,_⟩:=h;rfl
 ·obtain⟨a,ns,rfl,ha,hl,k⟩:=h
  have nd:=zIC.nd
  have hu:=hr.units
  have hu1:=vT hr
  have r6:=hr.mono (j:=6) (by decide)
  have r5:=hr.mono (j:=5) (by decide)
  have r4:=hr.mono (j:=4) (by decide)
  have r3:=hr.mono (j:=3) (by decide)
  have r2:=hr.mono (j:=2) (by decide)
  have r1:=hr.mono (j:=1) (by decide)
  refine⟨_,zF (zZ (i:=1) nd rfl (Or.inl rfl) (zR vB zG (zV C.dr r2 rfl (zA (pv 0) (zA zG (zA zG zC))))))
   (zF (zZ (i:=2) nd rfl (Or.inr rfl) (zMn C.make r5 rfl (zA (pv 1) zC)))
   (zF (zZ (i:=3) nd rfl (Or.inr rfl) kL)
   (zF (uV bO rfl (jR rfl B.range (zA (z7 (zCW rfl) (by rfl) hmx ff (zA zG (zA (z7 (zEp rfl) (by rfl) B.min iQ (zA zG (zA (z7 kK (by rfl) B.len b6 (zA (pv 0) zC)) zC))) zC))) zC)) (yY (i:=4) nd rfl (Or.inl rfl))
    (zF (zZ (i:=5) nd rfl (Or.inl rfl) (zR vB zG (zR u8 zG (pv 4))))
    (zF (zZ (i:=6) nd rfl (Or.inl rfl) (vG kZ (zAz 3 _ _ rfl) (zV C.dr r2 rfl (zA (pv 0) (zA (pv 5) (zA zG zC)))) (fun _ _=>rfl)))
    (zF (zZ (i:=7) nd rfl (Or.inl rfl) (vG kZ (zAz 3 _ _ rfl) (zR jT (zV C.dr r2 rfl (zA (pv 0) (zA (zR vB (pv 5) zG) (zA zG zC)))) zG) (fun _ _=>rfl)))
    (zF (zZ (i:=8) nd rfl (Or.inl rfl) (gN (yM zBJ (pv 6) zG (yZ _)) (zV C.nm r3 rfl (zA (pv 0) (zA (zR vB (pv 5) zG) (zA zG zC)))) (zV C.bk r4 rfl (zA (pv 0) (zA (zR vB (pv 5) zG) (zA zG (zA zG zC)))))))
    (zF (yE (yM u9 (zV C.dr r2 rfl (zA (pv 0) (zA (zR vB (pv 5) zG) (zA zG zC)))) zG (yZ _))
     (zI (zZ (i:=8) nd rfl (Or.inl rfl) (vG kZ (uR (zA u7 (zA (gN (yM zBJ (pv 6) zG (yZ _)) yG (y6 zC)) zC))) (zV C.dr r2 rfl (zA (pv 0) (zA (zR vB (pv 5) zG) (zA zG zC)))) (fun _ _=>rfl)))) yC)
    (zF (zZ (i:=9) nd rfl (Or.inl rfl) (zV C.du r1 rfl (zA (pv 3) (zA (pv 6) (zA (pv 7) (zA (pv 8) zC))))))
    (zF (yE (PW.pt (qS (yM (g4 hu) (zV C.to r5 rfl (zA (pv 2) (zA (pv 6) (zA (pv 7) (zA (pv 8) zC))))) (pv 9) (yZ _)) (qR (yM (g4 hu) (zBv C.ti r1 (pv 2)) (z7 (zAh rfl) (by rfl) B.sorted cJ (zA (pv 3) zC)) (yZ _))))) (zI (zT uC)) yC)
    (zF (zZ (i:=10) nd rfl (Or.inr rfl) (zV C.nm r3 rfl (zA (pv 0) (zA (zR vB (pv 5) zG) (zA zG zC)))))
    (zF (zZ (i:=11) nd rfl (Or.inl rfl) (uR (zA (uL (N:=["_law_name_here","_law_kept","_law_one"]) (caps:=[10,3]) rfl (uM (by kernel_rfl)) (jQ (z7 (zAh rfl) (by rfl) B.sorted cJ (zA (pv 3) zC))) (fun cl X s H ex=>yY (i:=2) zOQ rfl (Or.inl rfl)) (fun cl X s H ex=>zCk (yM (zHO K rfl) (pv 0) (uD hu1 (pv 1) (pv 2) (fun _ _=>rfl)) (by with_unfolding_all rfl))) (fun cl X s H ex=>pv 2))
      (zA (uR zC) (zA (zV C.bt r3 rfl (zA (pv 3) (zA (pv 1) (zA (pv 10) zC)))) zC)))))
    (zF (uV bO rfl (jQ (z7 (zAh rfl) (by rfl) B.sorted cJ (zA (pv 3) zC))) (yY (i:=12) nd rfl (Or.inl rfl))
     (zI (zIj (zR zCe (vG kZ (pv 11) zG (fun _ _=>rfl)) (zR zFG (uR (zA (pv 12) zC)) (zCa zIx (by rfl) B.int fc (zA (zAZ zBK (vG vW (zV C.sh r2 rfl (zA (zV C.co r1 rfl (zA (uD hu1 (pv 3) (pv 12) (fun _ _=>rfl)) (zA (pv 1) zC))) (zA (pv 1) (zA (pv 10) zC)))) zG (fun _ _=>rfl)) zG (yZ _)) zC)))) (zIi (pv 11) zG zJb))))
    (zI (yE (yM (g4 hu) (uL (N:=["_law_ledger","_law_name_here","_law_asked_here"]) (caps:=[2,10]) rfl (uM (by kernel_rfl)) (jR rfl B.range (zA zG zC)) (fun cl X s H ex=>yY (i:=2) zOR rfl (Or.inl rfl)) (fun cl X s H ex=>qF) (fun cl X s H ex=>zV C.as_ hr rfl (zA (pv 0) (zA (pv 2) (zA (pv 1) zC))))) (pv 11) (yZ _)) (zI (zT uC)) yC)))))))))))))
   (zF (zZ (i:=13) nd rfl (Or.inl rfl) (zR zCe (uR (zA (zV C.to r5 rfl (zA (pv 2) (zA zG (zA yG (zA (y6 (zA yG zC)) zC))))) zC)) (uL (N:=["_law_ledger","_law_k"]) (caps:=[2]) rfl (uM (by kernel_rfl)) (jR rfl B.range (zA zG zC)) (fun cl X s H ex=>yY (i:=1) zOS rfl (Or.inl rfl)) (fun cl X s H ex=>qF) (fun cl X s H ex=>zV C.to r5 rfl (zA (pv 0) (zA zG (zA yG (zA yG zC))))))))
   (zF (yE (yM (g4 hu) (pv 13) (zAz 3 _ _ rfl) (yZ _)) (zI (zT uC)) yC)
   (zF (uV bO rfl (gP (y6 (zA u7 (zA yG (zA yG zC))))) (yY (i:=14) nd rfl (Or.inr rfl))
    (zI (yE (yM (g4 hu) (uL (N:=["_law_ledger","_law_bad","_law_way"]) (caps:=[2,14]) rfl (uM (by kernel_rfl)) (jR rfl B.range (zA zG zC)) (fun cl X s H ex=>yY (i:=2) zOT rfl (Or.inl rfl)) (fun cl X s H ex=>qF) (fun cl X s H ex=>zV C.as_ hr rfl (zA (pv 0) (zA (pv 2) (zA (pv 1) zC))))) (zR zFG (uR (zA (y6 (zA yG (zA zG zC))) zC)) zG) (yZ _)) (zI (zT uC)) yC)))
   (zI (zT (zIa (zAZ (zFT hu) (zV C.to r5 rfl (zA (pv 2) (zA zG (zA yG (zA yG zC))))) (y6 (zA yG (zA zG zC))) (yZ _)) (zIZ (zOC C.od r6 rfl))))))))))),?_⟩
  refine⟨_,rfl,a,ns,50,3,rfl,ha,hl,by decide,by decide,fun d2 H1 hd2 s1=>⟨_,_,rfl,rfl,?_⟩⟩
  obtain⟨o,ho,o1,o3⟩:∃o:Nat,(1:Int)+(d2:Int)=(o:Int)/\1<=o/\o<=3:=⟨1+d2,by omega,by omega,by omega⟩
  dsimp only
  rw[ho]
  have ha1:=s1.seq ha
  clear s1 ha
  refine j9 ?_
  refine zBA ?_
  refine zOA (i:=1) rfl o1 o3 fun k1 dx d dn un H2 s2 hdn g2=>?_
  obtain⟨F0,f0,f0s⟩:∃F0:List (af×HO),(∀p∈F0,H2 p.1=some p.2/\zOB p.2/\p.1≠dn)/\∀H',(∀p∈F0,H' p.1=some p.2)->yF K H' a (ns.map V.int):=by
   have nn:∀{b:af} {u:HO},H1 b=some u->b≠dn:=fun h z=>by rw[z,hdn]at h;cases h
   rcases ha1 with z|z
   ·rcases z with z|⟨o',z⟩
    ·exact⟨[(a,.lst (ns.map V.int))],(fun p hp=>by rw[bH.mp hp];exact⟨s2 _ _ z,trivial,nn z⟩),fun H' h=>.inl (.inl (h _ (eM _)))⟩
    ·exact⟨[(a,.frz o' (.lst (ns.map V.int)))],(fun p hp=>by rw[bH.mp hp];exact⟨s2 _ _ z,trivial,nn z⟩),fun H' h=>.inl (.inr ⟨o',h _ (eM _)⟩)⟩
   ·exact⟨[],(fun p hp=>by cases hp),fun H' _=>.inr z⟩
  have gS:∀{G:Hp},(∀p∈F0,G p.1=some p.2)->yF K G a (ns.map V.int):=fun{G} h=>f0s G h
  have fS:∀{G G':Hp},(∀p∈F0,G p.1=some p.2)->zB G G'->∀p∈F0,G' p.1=some p.2:=fun{G G'} h s p hp=>s _ _ (h p hp)
  have fB:∀{G G':Hp} {C' dx':af} {fs:List (Str×V)},G k1=some (.ins C' dx' fs)->(∀p∈F0,G p.1=some p.2)->yV k1 dn G G'->∀p∈F0,G' p.1=some p.2:=fun{G G' C' dx' fs} hk hf hb p hp=>hb _ _ (y8 (hf p hp) hk fun z=>by have:=(f0 p hp).2.1;rw[z]at this;exact this) (f0 p hp).2.2 (hf p hp)
  have fD:∀{G G':Hp} {D:af} {es:List (zX×V)},G D=some (.dK es)->(∀p∈F0,G p.1=some p.2)->yH D G G'->∀p∈F0,G' p.1=some p.2:=fun{G G' D es} hk hf hb p hp=>hb _ _ (y8 (hf p hp) hk fun z=>by have:=(f0 p hp).2.1;rw[z]at this;exact this) (hf p hp)
  have f2:∀p∈F0,H2 p.1=some p.2:=fun p hp=>(f0 p hp).1
  clear hdn ha1 s2 H1
  refine j9 ?_
  refine zBA (fun D hD=>?_)
  have s3:zB H2 (upd H2 D (.dK [])):=zB.upd1 hD
  have q3:KpAt (upd H2 D (.dK [])) D []:=⟨zH,(fun q hq=>by cases hq),nh⟩
  have nDd:D≠d:=fun z=>by rw[z,g2.now]at hD;cases hD
  generalize upd H2 D (.dK [])=H3 at s3 q3
  have g3:=g2.same s3
  have f3:=fS f2 s3
  clear g2 f2 s3 f0 f0s hD H2
  refine⟨_,rfl,a,_,rfl,.inl (gS f3),_,_,rfl,_,_,rfl,?_⟩
  rw[ai]
  obtain⟨mx,hmx',mx1,zIB⟩:=zIB ns.length
  rw[hmx']
  refine⟨mx,rfl,by omega,by omega,?_⟩
  refine qI (jX 0 _) (fun i σ G=>(∃x4 x5 x6 x7 x8 x9 x10 x11 x12 x13 x14:Option V,σ=[some (.ref a),some (.int o),some (.ref k1),some (.ref D),x4,x5,x6,x7,x8,x9,x10,x11,x12,x13,x14])/\∃d un kvs ds kvk,LgAt G Kc k1 dx d dn un o kvs ds/\KpAt G D kvk/\cnt kvk=cnt kvs/\CM (cnt kvs)/\(∀q∈cnt kvs,q.1∈tt3)/\kvs.length<=i/\ds.length<=i/\D≠d/\∀p∈F0,G p.1=some p.2)
   ⟨⟨_,_,_,_,_,_,_,_,_,_,_,rfl⟩,d,un,[],[],[],g3,q3,rfl,(fun q hq=>by cases hq),(fun q hq=>by cases hq),ay _,ay _,nDd,f3⟩ (fun _ _ _ _ _=>trivial) ?_ ?_
  ·rintro i x σ G Nx hN hx ⟨⟨x4,x5,x6,x7,x8,x9,x10,x11,x12,x13,x14,rfl⟩,d',un',kvs,ds,kvk,gL,gK,eC,cm,tt,hkl,hds,nD,fG⟩
   clear g3 f3 q3 nDd
   obtain⟨hi9,rfl⟩:=zCM hx
   have hi11:i<=11:=by omega
   rw[iy]
   clear hx hi9
   refine⟨_,rfl,_,_,rfl,rfl,.inl (by decide),_,_,rfl,rfl,?_⟩
   obtain⟨h0,hh0,hh9⟩:∃h0:Nat,(100:Int)+60*(i:Int)=(h0:Int)/\h0<=800:=⟨100+60*i,by omega,by omega⟩
   dsimp only
   rw[hh0]
   clear hh0
   refine j9 ?_
   refine zBA (fun v1 G1 s1 hv1=>?_)
   obtain⟨l1,rfl,hl1⟩:=zON hv1
   refine⟨_,rfl,_,rfl,a,ns,h0,7,rfl,gS (fS fG s1),hl,by decide,by decide,fun j G2 hj s2=>?_⟩
   obtain⟨wy,hw,hat⟩:=zOJ hj
   refine⟨l1,_,_,_,rfl,rfl,.of (s2 _ _ hl1),hat,?_⟩
   have sm:=s1.trans s2
   clear hv1 hl1 hat hj s1 s2 G1
   refine j9 ?_
   refine zBA (fun v2 G3 s3 hv2=>?_)
   obtain⟨l2,rfl,hl2⟩:=zOO hv2
   refine⟨_,rfl,_,rfl,_,_,rfl,rfl,a,ns,h0+1,16,rfl,gS (fS fG (sm.trans s3)),hl,by decide,by decide,fun j G4 hj s4=>⟨_,_,rfl,rfl,(by show(0:Int)<8;decide),?_⟩⟩
   obtain⟨u,ot,hat,hu',hot⟩:=zOI (j:=j%8) (by omega)
   rw[show((j%8:Nat):Int)=(j:Int)%8 from by omega]at hat
   refine⟨l2,_,_,_,rfl,rfl,.of (s4 _ _ hl2),hat,?_⟩
   have sm2:=sm.trans (s3.trans s4)
   clear hv2 hl2 hat hj s3 s4 sm G2 G3
   refine j9 ?_
   refine zEF (fun σ' G'=>∃b th,σ'=[some (.ref a),some (.int o),some (.ref k1),some (.ref D),some (.int i),some (.int h0),some (.int wy),some u,some b,x9,x10,x11,x12,x13,x14]/\zB G G'/\uP G' wy b th/\Th3 th) ?ct fun N hNl=>?ml
   case ml=>
    refine⟨_,rfl,rfl,_,rfl,?_⟩
    by_cases w0:wy=0
    ·subst w0
     refine kM rfl ?_
     refine⟨_,rfl,_,rfl,_,_,rfl,rfl,a,ns,h0+15,3,3,rfl,gS (fS fG sm2),hl,by decide,by decide,by decide,by decide,fun p bk G5 s5 hp b1 b3 hn=>hNl _ _ ⟨_,.bk bk,rfl,sm2.trans s5,⟨rfl,p,rfl,hp,⟨b1,by omega,fun x hx=>(hn x hx).1⟩⟩,fun x hx=>(hn x hx).2⟩⟩
    ·refine zBn (fun z=>w0 (by injection z with z;omega)) ?_
     exact⟨_,rfl,_,rfl,_,_,rfl,rfl,a,ns,h0+4,3,rfl,gS (fS fG sm2),hl,by decide,by decide,fun x G5 s5 hx hx3=>hNl _ _ ⟨_,.nm x,rfl,sm2.trans s5,⟨w0,rfl,hx⟩,hx3⟩⟩
   clear sm2 G4
   rintro σ G5 ⟨b,th,rfl,sm5,hb,h3⟩
   refine zEF (fun σ' G'=>∃b th,σ'=[some (.ref a),some (.int o),some (.ref k1),some (.ref D),some (.int i),some (.int h0),some (.int wy),some u,some b,x9,x10,x11,x12,x13,x14]/\zB G G'/\uP G' wy b th/\Th3 th) ?ct2 fun N hNl=>?ml2
   case ml2=>
    refine⟨_,rfl,_,rfl,_,_,rfl,rfl,a,ns,h0+3,8,rfl,gS (fS fG sm5),hl,by decide,by decide,fun j G6 hj s6=>⟨rfl,_,rfl,?_⟩⟩
    have sm6:=sm5.trans s6
    by_cases j0:V.int (j:Int)=V.int 0
    case neg=>exact yK j0 (hNl _ _ ⟨b,th,rfl,sm6,hb.same s6,h3⟩)
    refine vH j0 ?_
    refine⟨_,rfl,rfl,_,rfl,?_⟩
    by_cases w0:wy=0
    ·subst w0
     refine kM rfl ⟨bJ _,fun pz hpz=>⟨by show 2<=sizeLine;decide,fun lz hlz=>?_⟩⟩
     have sz:=(zB.upd1 (o:=.tup []) hpz).trans (zB.upd1 (o:=.lst [.non,.ref pz]) hlz)
     have hz:=(zB.upd1 (o:=.lst [V.non,.ref pz]) hlz) _ _ (zH (H:=G6) (a:=pz) (o:=.tup []))
     have lz1:upd (upd G6 pz (.tup [])) lz (.lst [.non,.ref pz]) lz=some (.lst [.non,.ref pz]):=zH
     generalize upd (upd G6 pz (.tup [])) lz (.lst [.non,.ref pz])=G7 at sz hz lz1
     refine⟨_,rfl,_,rfl,_,_,rfl,rfl,a,ns,h0+2,2,rfl,gS (fS fG (sm6.trans sz)),hl,by decide,by decide,fun j G8 hj s8=>?_⟩
     match j,hj with
     |0,_=>exact⟨lz,_,_,_,rfl,rfl,.of (s8 _ _ lz1),vJ (j:=0) rfl,hNl _ _ ⟨_,.bad,rfl,sm6.trans (sz.trans s8),.inl rfl,trivial⟩⟩
     |1,_=>exact⟨lz,_,_,_,rfl,rfl,.of (s8 _ _ lz1),vJ (j:=1) rfl,hNl _ _ ⟨_,.bad,rfl,sm6.trans (sz.trans s8),.inr (by rw[if_pos rfl];exact⟨pz,rfl,s8 _ _ hz⟩),trivial⟩⟩
    ·refine zBn (fun z=>w0 (by injection z with z;omega)) ⟨by show 2<=sizeLine;decide,fun lz hlz=>?_⟩
     have sz:=zB.upd1 (o:=.lst [.non,.str ""]) hlz
     have lz1:upd G6 lz (.lst [.non,.str ""]) lz=some (.lst [.non,.str ""]):=zH
     generalize upd G6 lz (.lst [.non,.str ""])=G7 at sz lz1
     refine⟨_,rfl,_,rfl,_,_,rfl,rfl,a,ns,h0+2,2,rfl,gS (fS fG (sm6.trans sz)),hl,by decide,by decide,fun j G8 hj s8=>?_⟩
     match j,hj with
     |0,_=>exact⟨lz,_,_,_,rfl,rfl,.of (s8 _ _ lz1),vJ (j:=0) rfl,hNl _ _ ⟨_,.bad,rfl,sm6.trans (sz.trans s8),.inl rfl,trivial⟩⟩
     |1,_=>exact⟨lz,_,_,_,rfl,rfl,.of (s8 _ _ lz1),vJ (j:=1) rfl,hNl _ _ ⟨_,.bad,rfl,sm6.trans (sz.trans s8),.inr (by rw[if_neg w0]),trivial⟩⟩
   clear hb h3 sm5 th b
   rintro σ G6 ⟨b,th,rfl,sm6,hb,h3⟩
   clear G5
   have gK6:=gK.same sm6
   have gL6:=gL.same sm6
   have fG6:=fS fG sm6
   clear gK gL fG sm6 G
   have ekl:kvk.length=kvs.length:=by rw[<-jI,eC,jI]
   refine⟨_,rfl,_,rfl,_,rfl,_,rfl,D,wy,u,b,kvk,ot,th,rfl,hw,gK6,(CM.gb (by rw[eC];exact cm)),by omega,hu',hb,fun q1 r kvk1 G8 bD gK8 e1 t1=>?_⟩
   rw[eC]at e1
   have gL8:=gL6.butD bD gK6.now nD
   have fG8:=fD gK6.now fG6 bD
   have hb8:=hb.keep (fun p v h=>bD _ _ (y8 h gK6.now nofun) h)
   obtain⟨cm1,ln1,tt1,rs⟩:=zHv cm hu' hb h3 e1
   clear gK6 gL6 fG6 bD hb G6 ekl eC
   refine j9 ?_
   refine⟨_,rfl,_,rfl,_,rfl,_,rfl,k1,dx,d',dn,un',wy,o,u,b,kvs,ds,ot,th,rfl,hw,gL8,cm.gb,by omega,by omega,hu',hb8,fun q2 r2 d1 un1 kvs1 ds1 G9 b9 hd1 gL9 hds1 e2 t2=>?_⟩
   obtain⟨er,eC1⟩:=bU (e1.symm.trans e2)
   subst er
   have gK9:=gK8.but2 gL8 b9
   have fG9:=fB gL8.ins fG8 b9
   have t9:=rs.keep t1 (gL8.tups b9)
   have nD1:D≠d1:=by
    rcases hd1 with z|z
    ·exact fun q=>by rw[<-q,gK8.now]at z;cases z
    ·rw[z];exact nD
   rw[eC1]at cm1 ln1 tt1
   rw[jI,jI]at ln1
   have tt1':∀q∈cnt kvs1,q.1∈tt3:=fun q hq=>(tt1 q hq).elim (fun z=>by obtain⟨p,hp,e⟩:=aM.mp z;rw[<-e];exact tt p hp) (fun z=>hot _ z)
   refine⟨_,rfl,r,r,zM.rep _ _ t2,zM.rep _ _ t9,rs.sh.1,rs.sh.1,_,rfl,zAr rs.sh.2 ?_⟩
   have kl1:kvs1.length<=i+1:=by omega
   have dl1:ds1.length<=i+1:=by omega
   clear t1 t2 t9 rs e1 e2 gL8 gK8 fG8 hb8 b9 hd1 hds1 tt1 ln1 tt cm hkl hds nD hot hu' h3 hw kvs ds kvk d' un' th ot r G8
   have ekl:kvk1.length=kvs1.length:=by rw[<-jI,eC1,jI]
   refine⟨_,rfl,k1,dx,_,rfl,gL9.ins,rfl,k1,dx,d1,dn,un1,o,kvs1,ds1,rfl,gL9,by omega,fun lt ts hp hs hn=>?_⟩
   have it:vN kvs1 ts:=⟨hp,hs⟩
   have tl:ts.length=kvs1.length:=by rw[hp.length_eq,ai]
   have tsn:∀t∈ts,z3 t:=fun t ht=>by
    have z:=it.1.mem_iff.mp ht
    rw[<-zEB]at z
    obtain⟨q,hq,rfl⟩:=aM.mp z
    exact(cm1 q hq).1
   have sA:zB G9 (upd G9 lt (.lst (zD ts))):=zB.upd1 hn
   have lA:upd G9 lt (.lst (zD ts)) lt=some (.lst (zD ts)):=zH
   generalize upd G9 lt (.lst (zD ts))=Ga at sA lA
   refine zEQ (i:=3) rfl (gK9.same sA) (by omega) fun l2 ts2 it2 hn2=>?_
   rw[it.uniq (it2.cnt eC1)]
   have sB:zB Ga (upd Ga l2 (.lst (zD ts))):=zB.upd1 hn2
   have lB:upd Ga l2 (.lst (zD ts)) l2=some (.lst (zD ts)):=zH
   generalize upd Ga l2 (.lst (zD ts))=Gb at sB lB
   have sh:=shL tsn
   refine⟨.list (y0 ts),.list (y0 ts),zCK (sB _ _ lA),zCK lB,sh.1,sh.1,_,rfl,zAr sh.2 ?_⟩
   have gLb:=gL9.same (sA.trans sB)
   have gKb:=gK9.same (sA.trans sB)
   have fGb:=fS fG9 (sA.trans sB)
   clear sA lA sB lB hn hn2 it2 ts2 hp hs gL9 gK9 fG9 sh Ga G9
   refine⟨_,rfl,_,rfl,_,_,rfl,rfl,a,ns,h0+50,2,rfl,gS fGb,hl,by decide,by decide,fun x Gc sc hx hx2=>?_⟩
   have gLc:=gLb.same sc
   have gKc:=gKb.same sc
   have fGc:=fS fGb sc
   clear gLb gKb fGb sc Gb
   refine j9 ?_
   dsimp only
   refine zBA ?_
   have lbs:∀q∈kvs1,Fit q.2.2 o x:=fun q hq=>(cm1.lb o1 o3 q hq).fit hx (by omega)
   have lbk:∀q∈kvk1,Fit q.2.2 o x:=fun q hq=>(CM.lb (kvs:=kvk1) (by rw[eC1];exact cm1) o1 o3 q hq).fit hx (by omega)
   have eB:∀t,zY kvk1 t=zY kvs1 t:=fun t=>by rw[zHw,zHw,eC1]
   have itk:vN kvk1 ts:=it.cnt eC1.symm
   refine zEQ (i:=3) rfl gKc (by omega) fun l3 ts3 it3 hn3=>?_
   rw[itk.uniq it3]
   have s3:zB Gc (upd Gc l3 (.lst (zD ts))):=zB.upd1 hn3
   have l33:upd Gc l3 (.lst (zD ts)) l3=some (.lst (zD ts)):=zH
   generalize upd Gc l3 (.lst (zD ts))=Gd at s3 l33
   have gKd:=gKc.same s3
   refine⟨l3,rfl,⟨_,.of l33⟩,?_⟩
   refine zBW (jY K l3 (zD ts)) [some (sv x),some (.ref D)] 1 (by rw[kW];omega) (fun j acc G'=>G'=Gd/\acc=zD ((ts.take j).filter fun t=>decide (x∈zY kvk1 t)))
    ⟨rfl,rfl⟩ (fun j acc G' _ h=>⟨.of (by rw[h.1];exact l33),by rw[h.2,kW];exact bV (bF ..) (by rw[aV];omega)⟩) ?_ ?_
   ·rintro j y acc G' ys Nx2 hN2 hy hys ⟨rfl,rfl⟩
    obtain⟨z,rfl⟩:=uT hys
    obtain⟨t,et,rfl⟩:=zAP hy
    have hj:j<ts.length:=(ag.mp et).1
    have etk:ts.take (j+1)=ts.take j++[t]:=by rw[ax hj,(ag.mp et).2]
    have gt:=itk.get (aH et)
    have dg:=gKd.dget t
    rw[gt]at dg
    refine⟨_,rfl,_,rfl,_,rfl,D,_,rfl,dg,(qP kvk1 t).1,_,rfl,.inr (.of (gKd.get gt)),rfl,zHN _,_,rfl,?_⟩
    rw[if_neg aC,zHM]
    by_cases hm:x∈zY kvk1 t
    ·refine vH hm ⟨_,rfl,hN2 _ _ [_] rfl ⟨rfl,?_⟩⟩
     rw[etk,cI];unfold zD;rw[aL];congr 1;simp[hm]
    ·refine yK hm (hN2 _ _ [_] rfl ⟨rfl,?_⟩)
     rw[etk,cI];simp[hm]
   rintro acc G' ⟨rfl,rfl⟩ Da hDa
   rw[kW,aX]
   obtain⟨fo,hfo⟩:∃fo,fo=ts.filter fun t=>decide (x∈zY kvs1 t):=⟨_,rfl⟩
   have ef:(ts.filter fun t=>decide (x∈zY kvk1 t))=fo:=by rw[hfo];congr 1;funext t;rw[eB]
   rw[ef]
   have sDa:zB G' (upd G' Da (.lst (zD fo))):=zB.upd1 hDa
   have lDa:upd G' Da (.lst (zD fo)) Da=some (.lst (zD fo)):=zH
   generalize upd G' Da (.lst (zD fo))=Ge at sDa lDa
   refine⟨bJ _,fun e0 he0=>?_⟩
   have sE:zB Ge (upd Ge e0 (.lst [])):=zB.upd1 he0
   have lE:upd Ge e0 (.lst []) e0=some (.lst []):=zH
   have lDf:=sE _ _ lDa
   generalize upd Ge e0 (.lst [])=Gf at sE lE lDf
   have sf:zB Gc Gf:=s3.trans (sDa.trans sE)
   refine⟨_,rfl,_,rfl,_,rfl,D,o,x,kvk1,rfl,gKc.same sf,by omega,lbk,fun ts4 Gg it4 s4=>?_⟩
   rw[itk.uniq it4]
   have ep:(ts.map fun t=>y9 (zU o (zY kvk1 t)) o x)=ts.map fun t=>y9 (zU o (zY kvs1 t)) o x:=cc fun t _=>by rw[eB]
   rw[ep]
   obtain⟨pl,hpl⟩:∃pl,pl=j8 (ts.map fun t=>y9 (zU o (zY kvs1 t)) o x):=⟨_,rfl⟩
   rw[<-hpl]
   have sg:zB Gc Gg:=sf.trans s4
   have lDg:=s4 _ _ lDf
   have lEg:=s4 _ _ lE
   clear lDf lE s4 it4 ts4 sf sE sDa lDa he0 hDa Ge Gf gKd l33 s3 hn3 it3 ts3 ep ef G'
   have gLg:=gLc.same sg
   have gKg:=gKc.same sg
   have fGg:=fS fGc sg
   clear sg gLc gKc fGc Gc
   refine⟨by show 3<=sizeLine;decide,fun lr hlr=>?_⟩
   have sr:zB Gg (upd Gg lr (.lst [.ref Da,.ref e0,uA ts pl])):=zB.upd1 hlr
   have lr1:upd Gg lr (.lst [.ref Da,.ref e0,uA ts pl]) lr=some (.lst [.ref Da,.ref e0,uA ts pl]):=zH
   generalize upd Gg lr (.lst [.ref Da,.ref e0,uA ts pl])=Gh at sr lr1
   refine j9 ?_
   refine zEF (fun σ' G'=>∃(l2:af) (y12:Option V),σ'=[some (.ref a),some (.int o),some (.ref k1),some (.ref D),some (.int i),some (.int h0),some (.int wy),some u,some b,some q1,some (sv x),some (.ref lr),y12,x13,x14]/\zB Gg G'/\G' lr=some (.lst [.ref Da,.ref l2,uA ts pl])/\G' l2=some (.lst (zD (ts.filter fun t=>decide (vZ (zY kvs1 t) o x))))) ?ct3 fun N hNl=>?ml3
   case ml3=>
    refine zEQ (i:=3) rfl (gKg.same sr) (by omega) fun l5 ts5 it5 hn5=>?_
    rw[itk.uniq it5]
    have l5r:l5≠lr:=fun z=>by rw[z,lr1]at hn5;cases hn5
    have s5:zB Gh (upd Gh l5 (.lst (zD ts))):=zB.upd1 hn5
    have l55:upd Gh l5 (.lst (zD ts)) l5=some (.lst (zD ts)):=zH
    generalize upd Gh l5 (.lst (zD ts))=Gi at s5 l55
    refine⟨l5,rfl,⟨_,.of l55⟩,?_⟩
    refine qI (jY K l5 (zD ts)) (fun j σ' G'=>(∃(l2:af) (y12:Option V),σ'=[some (.ref a),some (.int o),some (.ref k1),some (.ref D),some (.int i),some (.int h0),some (.int wy),some u,some b,some q1,some (sv x),some (.ref lr),y12,x13,x14]/\G' lr=some (.lst [.ref Da,.ref l2,uA ts pl])/\G' l2=some (.lst (zD ((ts.take j).filter fun t=>decide (vZ (zY kvk1 t) o x)))))/\zB Gg G'/\G' l5=some (.lst (zD ts)))
     ⟨⟨e0,_,rfl,s5 _ _ lr1,s5 _ _ (sr _ _ lEg)⟩,sr.trans s5,l55⟩ (fun j σ' G' _ h=>.of h.2.2) ?_ ?_
    ·rintro j y σ' G' Nx2 hN2 hy ⟨⟨l2,y12,rfl,hlr',hl2⟩,sg',hl5⟩
     obtain⟨t,et,rfl⟩:=zAP hy
     have ht:=aH et
     have hj:j<ts.length:=(ag.mp et).1
     have etk:ts.take (j+1)=ts.take j++[t]:=by rw[ax hj,(ag.mp et).2]
     have gt:=itk.get ht
     have ft:Fit (zY kvk1 t) o x:=lbk _ (itk.mem gKg.nd ht)
     have pl':=zAq ft.toBk
     refine⟨_,rfl,lr,_,_,_,rfl,rfl,.of hlr',vJ (j:=1) rfl,_,rfl,by show 1<=sizeLine;decide,fun l6 hl6=>?_⟩
     have s6:zB G' (upd G' l6 (.lst [sv t])):=zB.upd1 hl6
     have l66:upd G' l6 (.lst [sv t]) l6=some (.lst [sv t]):=zH
     generalize upd G' l6 (.lst [sv t])=G6 at s6 l66
     have gK6:=gKg.same (sg'.trans s6)
     have dg:=gK6.dget t
     rw[gt]at dg
     refine⟨_,rfl,_,rfl,D,_,rfl,dg,_,rfl,(qP kvk1 t).1,zY kvk1 t,o,rfl,gK6.get gt,ft.hi,ft.l8,ft.o1,fun dd H3 s3 hd R=>?_⟩
     refine⟨_,rfl,_,rfl,dd,zU o (zY kvk1 t),o,x,rfl,R,pl'.1,pl'.2,ft.pw,ft.o1,by have:=hx.2.1;omega,fun v H4 s4 fr=>?_⟩
     obtain⟨hv,rfl,hvq⟩:=fr
     refine⟨hv,_,0,.int (y9 (zU o (zY kvk1 t)) o x).1,rfl,rfl,hvq,rfl,_,_,rfl,rfl,.inr ⟨_,rfl,?_⟩⟩
     obtain⟨kk,hkk,hk0⟩:∃kk:Nat,(if decide (0<(y9 (zU o (zY kvk1 t)) o x).1)=true then(1:Int)else 0)=(kk:Int)/\((vZ (zY kvk1 t) o x/\kk=1)\/(¬vZ (zY kvk1 t) o x/\kk=0)):=by
      by_cases hm:vZ (zY kvk1 t) o x
      ·exact⟨1,if_pos (decide_eq_true hm),.inl ⟨hm,rfl⟩⟩
      ·exact⟨0,if_neg (fun z=>hm (of_decide_eq_true z)),.inr ⟨hm,rfl⟩⟩
     have k1':kk<=1:=by rcases hk0 with⟨_,e⟩|⟨_,e⟩<;>omega
     have s34:=s3.trans s4
     have l64:=s34 _ _ l66
     refine⟨l6,(kk:Int),_,rfl,congrArg V.int hkk,l64,by omega,by omega,(by rw[aP];show 1*(kk:Int).toNat<=_;omega),fun l7 hl7=>?_⟩
     have s7:zB H4 (upd H4 l7 (.lst (aA (kk:Int).toNat [sv t]).flatten)):=zB.upd1 hl7
     have l77:upd H4 l7 (.lst (aA (kk:Int).toNat [sv t]).flatten) l7=some (.lst (aA (kk:Int).toNat [sv t]).flatten):=zH
     generalize upd H4 l7 (.lst (aA (kk:Int).toNat [sv t]).flatten)=G7 at s7 l77
     have s67:=s6.trans (s34.trans s7)
     have ecat:zD ((ts.take j).filter fun t=>decide (vZ (zY kvk1 t) o x))++(aA (kk:Int).toNat [sv t]).flatten=zD ((ts.take (j+1)).filter fun t=>decide (vZ (zY kvk1 t) o x)):=by
      rw[etk,cI];unfold zD;rw[aL];congr 1
      rcases hk0 with⟨hm,rfl⟩|⟨hm,rfl⟩<;>simp[hm]
     refine⟨l2,l7,_,_,rfl,rfl,s67 _ _ hl2,l77,?_,fun l8 hl8=>?_⟩
     ·rw[<-aj,ecat,kW,aP]
      exact bV (bF ..) (by rw[aV];omega)
     rw[ecat]
     have s8:zB G7 (upd G7 l8 (.lst (zD ((ts.take (j+1)).filter fun t=>decide (vZ (zY kvk1 t) o x))))):=zB.upd1 hl8
     have l88:upd G7 l8 (.lst (zD ((ts.take (j+1)).filter fun t=>decide (vZ (zY kvk1 t) o x)))) l8=some (.lst (zD ((ts.take (j+1)).filter fun t=>decide (vZ (zY kvk1 t) o x)))):=zH
     have l8r:l8≠lr:=fun z=>by rw[z,s67 _ _ hlr']at hl8;cases hl8
     generalize upd G7 l8 (.lst (zD ((ts.take (j+1)).filter fun t=>decide (vZ (zY kvk1 t) o x))))=G8 at s8 l88
     have s68:=s67.trans s8
     refine⟨_,rfl,lr,_,_,1,rfl,rfl,s68 _ _ hlr',rfl,hN2 _ _ ⟨⟨l8,_,rfl,zH,(zJ l8r).trans l88⟩,(sg'.trans s68).upd_new hlr,(zJ l5r).trans (s68 _ _ hl5)⟩⟩
    ·rintro σ' G' ⟨⟨l2,y12,rfl,hlr',hl2⟩,sg',hl5⟩
     rw[kW,aX]at hl2
     refine hNl _ _ ⟨l2,_,rfl,sg',hlr',hl2.trans ?_⟩
     congr 3;exact lI fun t _=>by rw[eB]
   rintro σ Gj ⟨l2,y12,rfl,sj,hlr',hl2⟩
   have gLj:=gLg.same sj
   have gKj:=gKg.same sj
   have fGj:=fS fGg sj
   have lDj:=sj _ _ lDg
   clear sj gLg gKg fGg lDg lEg sr lr1 hlr Gh Gg lbk itk
   refine⟨3,rfl,by decide,by decide,?_⟩
   refine qH (jX 0 _) [some (.ref k1),some (sv x)] 1 (by rw[ai,bA];decide) (fun j acc G'=>zB Gj G'/\acc.length=j/\∀m v,acc[m]?=some v->zAU G' kvs1 ts o x m v)
    ⟨zB.refl _,rfl,fun m v h=>by cases h⟩ (fun j acc G' _ h=>⟨trivial,dQ h.2.1⟩) ?_ ?_
   ·rintro j y acc G' ys Nx2 hN2 hy hys ⟨sq,hal,hak⟩
    obtain⟨z,rfl⟩:=uT hys
    obtain⟨hj,rfl⟩:=zCM hy
    rw[iy]
    refine⟨_,rfl,_,rfl,_,rfl,k1,dx,d1,dn,un1,j,o,sv x,kvs1,ds1,rfl,hj,gLj.same sq,by omega,.inl ⟨x,rfl,hx,lbs,fun v ts6 G6 it6 s6 ak=>hN2 _ _ [_] rfl ⟨sq.trans s6,by rw[aj,hal];rfl,fun m w hw=>?_⟩⟩⟩
    rw[it.uniq it6]at ak
    by_cases hm:m<j
    ·rw[bj (by omega)]at hw
     exact(hak m w hw).same s6
    ·rw[bQ (by omega)]at hw
     have em:m=j:=by
      have:=(ag.mp hw).1
      have:m-acc.length<1:=this
      omega
     subst em
     rw[hal,iB]at hw
     cases hw
     exact ak
   rintro acc G' ⟨sq,hal,hak⟩ Dz hDz
   obtain⟨v0,v1,v2,rfl⟩:∃v0 v1 v2,acc=[v0,v1,v2]:=by
    match acc,hal with
    | [v0,v1,v2],_=>exact⟨v0,v1,v2,rfl⟩
   obtain⟨p0,rfl,hp0⟩:=hak 0 _ rfl
   obtain⟨p1,rfl,hp1⟩:=hak 1 _ rfl
   have e2:v2=uA ts pl:=by rw[hpl];exact hak 2 _ rfl
   subst e2
   clear hak hal
   have sz:zB G' (upd G' Dz (.lst [.ref p0,.ref p1,uA ts pl])):=zB.upd1 hDz
   have lz:upd G' Dz (.lst [.ref p0,.ref p1,uA ts pl]) Dz=some (.lst [.ref p0,.ref p1,uA ts pl]):=zH
   generalize upd G' Dz (.lst [.ref p0,.ref p1,uA ts pl])=Gz at sz lz
   have sjz:=sq.trans sz
   have shR:=zOM (zIA tsn) (zIA tsn) (zOL tsn pl) (a:=ts.filter fun t=>decide (x∈zY kvs1 t)) (b:=ts.filter fun t=>decide (vZ (zY kvs1 t) o x))
   rw[hfo]at lDj
   refine⟨_,rfl,_,_,zHz lz (sz _ _ hp0) (sz _ _ hp1) (zHx ts pl),zHz (sjz _ _ hlr') (sjz _ _ lDj) (sjz _ _ hl2) (zHx ts pl),shR.1,shR.1,_,rfl,zAr shR.2 ?_⟩
   exact hN _ _ ⟨⟨_,_,_,_,_,_,_,_,_,_,_,rfl⟩,d1,un1,kvs1,ds1,kvk1,gLj.same sjz,gKj.same sjz,eC1,cm1,tt1',kl1,dl1,nD1,fS fGj sjz⟩
  rintro σ G ⟨⟨x4,x5,x6,x7,x8,x9,x10,x11,x12,x13,x14,rfl⟩,d',un',kvs,ds,kvk,gL,_,_,cm,tt,hkl,hds,_,_⟩
  clear g3 f3 q3 nDd fS fB fD gS
  have hkl':kvs.length<=12:=by rw[ai,bA]at hkl;omega
  have hds':ds.length<=12:=by rw[ai,bA]at hds;omega
  clear hkl hds
  have zN:z3 [122]:=⟨by decide,by decide,by decide⟩
  have zzN:z3 [122,122]:=⟨by decide,by decide,by decide⟩
  have bN:z3 [98]:=⟨by decide,by decide,by decide⟩
  have aB:isBk [[97]]:=⟨by decide,by decide,fun x hx=>by rw[bH.mp hx];exact⟨by decide,by decide,by decide⟩⟩
  have noT:∀t:S,t∉tt3->zE (cnt kvs) t=none:=fun t ht=>gC.mpr fun z=>by
   obtain⟨q,hq,e⟩:=aM.mp z
   rw[<-e]at ht
   exact ht (tt q hq)
  have nz:=noT [122] (by decide)
  have nzz:=noT [122,122] (by decide)
  clear noT tt
  refine⟨_,rfl,by show 1<=sizeLine;decide,fun p0 hp0=>?_⟩
  have s0:zB G (upd G p0 (.tup [.str "a"])):=zB.upd1 hp0
  have p00:upd G p0 (.tup [.str "a"]) p0=some (.tup (zD [[97]])):=zH
  generalize upd G p0 (.tup [.str "a"])=G0 at s0 p00
  refine⟨k1,dx,d',dn,un',0,o,_,_,kvs,ds,some [122],.bk [[97]],rfl,by decide,gL.same s0,cm.gb,by omega,by omega,⟨rfl,zN⟩,⟨rfl,p0,rfl,p00,aB⟩,fun q1 r1 d1 un1 kvs1 ds1 G1 b1 hd1 gL1 hds1 e1 t1=>?_⟩
  obtain⟨er,ec⟩:=bU e1
  rw[nz]at er
  subst er
  have e1':q1=.bl false:=t1
  subst e1'
  have l1:kvs1.length<=13:=by
   rw[<-jI,<-ec]
   exact bV (zBj _ _ _) (by rw[jI];omega)
  have cm1:CM (cnt kvs1):=by
   rw[<-ec]
   exact cm.put zN aB (by decide)
  have gz1:zE (cnt kvs1) [122]=some [[97]]:=by rw[<-ec,jA,if_pos rfl]
  have gzz1:zE (cnt kvs1) [122,122]=none:=by rw[<-ec,jA,if_neg (by decide)];exact nzz
  have dl1:ds1.length<=13:=by omega
  clear ec e1 t1 hd1 hds1 nz nzz cm hkl' hds' p00 s0 hp0 gL b1
  refine⟨by show 1<=sizeLine;decide,fun lt hlt=>?_⟩
  have sA:zB G1 (upd G1 lt (.lst [.bl false])):=zB.upd1 hlt
  have lA:upd G1 lt (.lst [.bl false]) lt=some (.lst [.bl false]):=zH
  have ltd:lt≠dn:=fun z=>by rw[z,gL1.don]at hlt;cases hlt
  generalize upd G1 lt (.lst [.bl false])=G2 at sA lA
  have gL2:=gL1.same sA
  clear sA hlt gL1 G1
  refine⟨8,rfl,by decide,by decide,?_⟩
  refine qH (jX 0 _) [some (.ref k1)] 1 (by rw[ai,bA];decide) (fun j acc G'=>∃d un kvs ds,LgAt G' Kc k1 dx d dn un o kvs ds/\CM (cnt kvs)/\kvs.length<=13+j/\ds.length<=13+j/\(∃b,zE (cnt kvs) [122]=some b/\b.length=min (j+1) 8)/\zE (cnt kvs) [122,122]=none/\G' lt=some (.lst [.bl false])/\acc.length=j/\(∀m v,m<7->acc[m]?=some v->v=.int ((m+2:Nat):Int))/\∀v,acc[7]?=some v->zM G' (z6 2) v)
   ⟨d1,un1,kvs1,ds1,gL2,cm1,l1,dl1,⟨_,gz1,rfl⟩,gzz1,lA,rfl,(fun m v _ h=>by cases h),fun v h=>by cases h⟩ (fun j acc G' _ h=>by obtain⟨_,_,_,_,_,_,_,_,_,_,_,h,_⟩:=h;exact⟨trivial,dQ h⟩) ?_ ?_
  ·clear gL2 lA gz1 gzz1 cm1 l1 dl1 d1 un1 kvs1 ds1
   rintro j y acc G' ys Nx2 hN2 hy hys ⟨d1,un1,kvs1,ds1,gL1,cm1,l1,dl1,⟨b,gz1,bl⟩,gzz1,hlt,hal,ha1,ha2⟩
   obtain⟨z,rfl⟩:=uT hys
   obtain⟨hj',rfl⟩:=zCM hy
   have hj:j<8:=hj'
   refine⟨_,rfl,k1,dx,d1,dn,un1,2,o,_,_,kvs1,ds1,some [122],.nm [98],rfl,by decide,gL1,cm1.gb,by omega,by omega,⟨rfl,zN⟩,⟨by decide,rfl,bN⟩,fun q2 r2 d2 un2 kvs2 ds2 G2 b2 _ gL2 hds2 e2 t2=>?_⟩
   have hlt2:=b2 _ _ (y8 hlt gL1.ins nofun) ltd hlt
   obtain⟨cm2,ln2,tt2,rs2⟩:=zHv (H:=G') (b:=sv [98]) (u:=sv [122]) (ot:=some [122]) (th:=.nm [98]) (wy:=2) cm1 ⟨rfl,zN⟩ ⟨by decide,rfl,bN⟩ (by decide:[98].length<=3) e2
   have e2':(if b.length=8 then(z6 2,cnt kvs1)else(.int ((b.length+1:Nat):Int),zO (cnt kvs1) [122] (b++[[98]])))=(r2,cnt kvs2):=by
    have e3:(match zE (cnt kvs1) [122]with|none=>(z6 3,cnt kvs1)|some b=>if b.length=8 then(z6 2,cnt kvs1)else(.int ((b.length+1:Nat):Int),zO (cnt kvs1) [122] (b++[[98]])))=(r2,cnt kvs2):=e2
    rw[gz1]at e3;exact e3
   rw[jI,jI]at ln2
   refine hN2 _ _ [_] rfl ?_
   by_cases h7:j=7
   ·rw[if_pos (by omega)]at e2'
    obtain⟨er,ec⟩:=bU e2'
    subst er
    refine⟨d2,un2,kvs2,ds2,gL2,cm2,by omega,by omega,⟨b,by rw[<-ec];exact gz1,by omega⟩,by rw[<-ec];exact gzz1,hlt2,by rw[aj,hal];rfl,fun m v hm hv=>?_,fun v hv=>?_⟩
    ·rw[bj (by omega)]at hv
     exact ha1 m v hm hv
    ·rw[bQ (by omega),hal,h7]at hv
     cases hv
     exact t2
   ·rw[if_neg (by omega)]at e2'
    obtain⟨er,ec⟩:=bU e2'
    subst er
    have eq2:q2=.int ((b.length+1:Nat):Int):=t2
    refine⟨d2,un2,kvs2,ds2,gL2,cm2,by omega,by omega,⟨b++[[98]],by rw[<-ec,jA,if_pos rfl],by rw[aj];show b.length+1=_;omega⟩,by rw[<-ec,jA,if_neg (by decide)];exact gzz1,hlt2,by rw[aj,hal];rfl,fun m v hm hv=>?_,fun v hv=>?_⟩
    ·by_cases hmj:m<j
     ·rw[bj (by omega)]at hv
      exact ha1 m v hm hv
     ·rw[bQ (by omega)]at hv
      have em:m=j:=by
       have:=(ag.mp hv).1
       have:m-acc.length<1:=this
       omega
      subst em
      rw[hal,iB]at hv
      cases hv
      rw[eq2]
      have:b.length+1=m+2:=by omega
      rw[this]
    ·have:=(ag.mp hv).1
     rw[aj,hal]at this
     have:7<j+1:=this
     omega
  rintro acc G' ⟨d2,un2,kvs2,ds2,gL3,cm2,l2,dl2,⟨bz,gz2,bl2⟩,gzz2,hlt,hal,ha1,ha2⟩ Dz hDz
  clear gL2 lA gz1 gzz1 cm1 l1 dl1 d1 un1 kvs1 ds1 G2
  have hal':acc.length=8:=by rw[hal];rfl
  have l2':kvs2.length<=21:=by rw[ai,bA]at l2;exact l2
  have dl2':ds2.length<=21:=by rw[ai,bA]at dl2;exact dl2
  obtain⟨v7,rfl,t7⟩:∃v7,acc=[.int 2,.int 3,.int 4,.int 5,.int 6,.int 7,.int 8,v7]/\zM G' (z6 2) v7:=by
   match acc,hal',ha1,ha2 with
   | [w0,w1,w2,w3,w4,w5,w6,w7],_,ha1,ha2=>
    have e0:=ha1 0 w0 (by decide) rfl
    have e1:=ha1 1 w1 (by decide) rfl
    have e2:=ha1 2 w2 (by decide) rfl
    have e3:=ha1 3 w3 (by decide) rfl
    have e4:=ha1 4 w4 (by decide) rfl
    have e5:=ha1 5 w5 (by decide) rfl
    have e6:=ha1 6 w6 (by decide) rfl
    subst e0 e1 e2 e3 e4 e5 e6
    exact⟨w7,rfl,ha2 w7 rfl⟩
  clear ha1 ha2 hal hal' l2 dl2 bl2 gz2 bz
  have sD:zB G' (upd G' Dz (.lst [.int 2,.int 3,.int 4,.int 5,.int 6,.int 7,.int 8,v7])):=zB.upd1 hDz
  have lD:upd G' Dz (.lst [.int 2,.int 3,.int 4,.int 5,.int 6,.int 7,.int 8,v7]) Dz=some (.lst [.int 2,.int 3,.int 4,.int 5,.int 6,.int 7,.int 8,v7]):=zH
  generalize upd G' Dz (.lst [.int 2,.int 3,.int 4,.int 5,.int 6,.int 7,.int 8,v7])=G4 at sD lD
  refine⟨lt,Dz,_,_,rfl,rfl,sD _ _ hlt,lD,by show 1+8<=sizeLine;decide,fun lc hlc=>?_⟩
  have sC:zB G4 (upd G4 lc (.lst ([.bl false]++[.int 2,.int 3,.int 4,.int 5,.int 6,.int 7,.int 8,v7]))):=zB.upd1 hlc
  have lC:upd G4 lc (.lst ([.bl false]++[.int 2,.int 3,.int 4,.int 5,.int 6,.int 7,.int 8,v7])) lc=some (.lst [.bl false,.int 2,.int 3,.int 4,.int 5,.int 6,.int 7,.int 8,v7]):=zH
  generalize upd G4 lc (.lst ([.bl false]++[.int 2,.int 3,.int 4,.int 5,.int 6,.int 7,.int 8,v7]))=G5 at sC lC
  have s5:=sD.trans sC
  have gL5:=gL3.same s5
  have t75:=zM.same s5 _ _ t7
  clear sD lD hDz sC hlc gL3 t7 hlt s5 G4 G'
  refine j9 ?_
  refine⟨_,rfl,fun v H6 s6 hv=>?_⟩
  have tL:zM H6 (.list [.bool false,.int 2,.int 3,.int 4,.int 5,.int 6,.int 7,.int 8,z6 2]) (.ref lc) :=
   ⟨lc,_,rfl,s6 _ _ lC,_,_,rfl,rfl,_,_,rfl,rfl,_,_,rfl,rfl,_,_,rfl,rfl,_,_,rfl,rfl,_,_,rfl,rfl,_,_,rfl,rfl,_,_,rfl,rfl,_,_,rfl,zM.same s6 _ _ t75,rfl⟩
  refine⟨_,_,zM.rep _ _ tL,zM.rep _ _ hv,by decide+kernel,by decide+kernel,_,rfl,zAr (d:=.list [.bool false,.int 2,.int 3,.int 4,.int 5,.int 6,.int 7,.int 8,z6 2]) (by decide+kernel) ?_⟩
  have gL6:=gL5.same s6
  clear tL hv v gL5 t75 lC s6 G5
  refine⟨by show 3<=sizeLine;decide,fun lb hlb=>?_⟩
  have sb:zB H6 (upd H6 lb (.tup [.non,.str "A",.str ""])):=zB.upd1 hlb
  have lb1:upd H6 lb (.tup [.non,.str "A",.str ""]) lb=some (.tup [.non,.str "A",.str ""]):=zH
  generalize upd H6 lb (.tup [.non,.str "A",.str ""])=G7 at sb lb1
  have gL7:=gL6.same sb
  clear sb hlb gL6 H6
  refine⟨lb,rfl,⟨_,.of lb1⟩,?_⟩
  refine qI (g9 K lb _) (fun i σ G=>(∃y14:Option V,σ=[some (.ref a),some (.int o),some (.ref k1),some (.ref D),x4,x5,x6,x7,x8,x9,x10,x11,x12,some (.ref lc),y14])/\zB G7 G) ⟨⟨_,rfl⟩,zB.refl _⟩ (fun i σ G _ h=>.of (h.2 _ _ lb1)) ?_ ?_
  ·rintro i y σ G Nx hN hy ⟨⟨y14,rfl⟩,sm⟩
   obtain⟨e,te,se,ne⟩:=zOP hy
   refine⟨3,rfl,by decide,by decide,?_⟩
   refine qH (jX 0 _) [some (.ref k1),some y] 1 (by rw[ai,bA];decide) (fun j acc G'=>zB G G'/\acc.length=j/\∀v∈acc,zM G' (z6 1) v)
    ⟨zB.refl _,rfl,fun v h=>by cases h⟩ (fun j acc G' _ h=>⟨trivial,dQ h.2.1⟩) ?_ ?_
   ·rintro j z acc G' ys Nx2 hN2 hz hys ⟨sq,hal,hak⟩
    obtain⟨z',rfl⟩:=uT hys
    obtain⟨hj,rfl⟩:=zCM hz
    rw[iy]
    refine⟨_,rfl,_,rfl,_,rfl,k1,dx,d2,dn,un2,j,o,y,kvs2,ds2,rfl,hj,gL7.same (sm.trans sq),by omega,.inr ⟨e,te _,se,ne,fun p G6 s6 hp=>hN2 _ _ [_] rfl ⟨sq.trans s6,by rw[aj,hal];rfl,fun v hv=>?_⟩⟩⟩
    rcases bG.mp hv with h|h
    ·exact zM.same s6 _ _ (hak v h)
    ·rw[bH.mp h];exact kU hp
   rintro acc G' ⟨sq,hal,hak⟩ Dz hDz
   obtain⟨v0,v1,v2,rfl⟩:∃v0 v1 v2,acc=[v0,v1,v2]:=by
    match acc,hal with
    | [v0,v1,v2],_=>exact⟨v0,v1,v2,rfl⟩
   have t0:=hak v0 (by simp)
   have t1:=hak v1 (by simp)
   have t2:=hak v2 (by simp)
   have sD:zB G' (upd G' Dz (.lst [v0,v1,v2])):=zB.upd1 hDz
   have lD:zM (upd G' Dz (.lst [v0,v1,v2])) (.list [z6 1,z6 1,z6 1]) (.ref Dz):=⟨Dz,_,rfl,zH,_,_,rfl,zM.same sD _ _ t0,_,_,rfl,zM.same sD _ _ t1,_,_,rfl,zM.same sD _ _ t2,rfl⟩
   generalize upd G' Dz (.lst [v0,v1,v2])=G8 at sD lD
   clear hak hal t0 t1 t2
   refine⟨by show 2<=sizeLine;decide,fun pr hpr=>⟨by show 1<=sizeLine;decide,fun lp hlp=>?_⟩⟩
   have sP:zB G8 (upd G8 pr (.tup [.str "refused",.int 1])):=zB.upd1 hpr
   have tP:zM (upd G8 pr (.tup [.str "refused",.int 1])) (z6 1) (.ref pr):=kU zH
   generalize upd G8 pr (.tup [.str "refused",.int 1])=G9 at sP tP hlp
   have sL:zB G9 (upd G9 lp (.lst [.ref pr])):=zB.upd1 hlp
   have lL:upd G9 lp (.lst [.ref pr]) lp=some (.lst [.ref pr]):=zH
   generalize upd G9 lp (.lst [.ref pr])=Ga at sL lL
   refine⟨lp,3,_,rfl,rfl,lL,by decide,by decide,by show 1*3<=sizeLine;decide,fun lq hlq=>?_⟩
   have er:(aA (3:Int).toNat [V.ref pr]).flatten=[.ref pr,.ref pr,.ref pr]:=rfl
   rw[er]
   have sQ:zB Ga (upd Ga lq (.lst [.ref pr,.ref pr,.ref pr])):=zB.upd1 hlq
   have tQ:=zM.same (sL.trans sQ) _ _ tP
   have lQ:zM (upd Ga lq (.lst [.ref pr,.ref pr,.ref pr])) (.list [z6 1,z6 1,z6 1]) (.ref lq):=⟨lq,_,rfl,zH,_,_,rfl,tQ,_,_,rfl,tQ,_,_,rfl,tQ,rfl⟩
   have s8:=sP.trans (sL.trans sQ)
   exact⟨_,_,zM.rep _ _ (zM.same s8 _ _ lD),zM.rep _ _ lQ,by decide+kernel,by decide+kernel,_,rfl,zAr (by decide+kernel) (hN _ _ ⟨⟨_,rfl⟩,sm.trans (sq.trans (sD.trans s8))⟩)⟩
  rintro σ G ⟨⟨y14,rfl⟩,sm⟩
  have gL8:=gL7.same sm
  refine⟨_,rfl,k1,dx,d2,dn,un2,2,o,_,_,kvs2,ds2,some [122,122],.nm [98],rfl,by decide,gL8,cm2.gb,by omega,by omega,⟨rfl,zzN⟩,⟨by decide,rfl,bN⟩,fun q3 r3 d3 un3 kvs3 ds3 G9 b9 _ gL9 _ e3 t3=>?_⟩
  have er:z6 3=r3:=by
   have e4:(match zE (cnt kvs2) [122,122]with|none=>(z6 3,cnt kvs2)|some b=>if b.length=8 then(z6 2,cnt kvs2)else(.int ((b.length+1:Nat):Int),zO (cnt kvs2) [122,122] (b++[[98]])))=(r3,cnt kvs3):=e3
   rw[gzz2]at e4
   exact(bU e4).1
  subst er
  refine⟨by show 2<=sizeLine;decide,fun pp hpp=>?_⟩
  refine⟨z6 3,z6 3,zM.rep _ _ (zM.same (zB.upd1 hpp) _ _ t3),zM.rep _ _ (kU zH),by decide+kernel,by decide+kernel,_,rfl,?_⟩
  rw[if_neg aC,zCm _ (by decide+kernel)]
  exact yJ ⟨rfl,fun H' _=>k H'⟩
end
end Kn.Ln
end
section
namespace Kn
open PySem L2 Ln
def z8 (K:aa)(x:Str)(st:bR)(ps:List Str):Prop :=
 ∃(f:af) (fd:ar),aO K mainGlobals x=some (some (.ref f))/\Fun K x x st f fd/\bP K (.ref f)=true/\vF K fd ps []
theorem zBC {K:aa}{x:Str}{st:bR}{f:af}{e kV g pm b ct:ae}{od h:Option af}{i:Array (Option ae)}(d:List Str)
  (j:∀(fd:ar),Fun K x x st f fd->vF K fd d [])
  (a:aO K mainGlobals x=some (some (.ref f))) (l:K.lookup f=some ⟨e,od,.func (cp x x (defArgs st) (defBody st) (defScope st) .none kV g pm h b ct),i⟩) (c:de K b x=true) (k:bP K (.ref f)=true):z8 K x st d :=
 ⟨f,_,a,gB (st:=st) l c k,k,j _ (gB (st:=st) l c k)⟩
structure Top (K:aa):Prop where
 is_name:z8 K "is_name" zBb ["thing"]
 is_book:z8 K "is_book" zBc ["thing"]
 is_whole:z8 K "is_whole" zBd ["thing","least","most"]
 is_order:z8 K "is_order" zBe ["thing"]
 need_book:z8 K "need_book" zBg ["thing"]
 need_order:z8 K "need_order" zBh ["thing"]
 need_name:z8 K "need_name" zBi ["thing"]
 end_of:z8 K "end_of" zDA ["text","order"]
 ends:z8 K "ends_and_letters" zDC ["name","order"]
 rows:z8 K "counted_rows" zDF ["book","order"]
 gcd:z8 K "greatest_divisor" zDG ["one","other"]
 low:z8 K "lowest" zDH ["up","down"]
 times:z8 K "times" zDI ["one","other"]
 is_less:z8 K "is_less" zDJ ["one","other"]
 place:z8 K "place_of_greatest" zDj ["fractions"]
 part_in:z8 K "part_in" zDN ["row","letter"]
 stepsR:z8 K "steps_by_rows" zDO ["rows","order","name"]
 shareR:z8 K "share_by_rows" zDQ ["rows","order","name"]
 share:z8 K "share" zDR ["book","order","name"]
 makes:z8 K "makes" zDS ["book","order","name"]
 cell:z8 K "_law_cell" zDU ["_law_script","_law_k"]
 drawn:z8 K "_law_drawn" zDW ["_law_script","_law_k","_law_many"]
 lname:z8 K "_law_name" zDY ["_law_script","_law_at","_law_most"]
 lbook:z8 K "_law_book" zDZ ["_law_script","_law_at","_law_many","_law_most"]
 lcounts:z8 K "_law_counts" zDb ["_law_book_here","_law_order"]
 llow:z8 K "_law_lowest" zEJ ["_law_up","_law_down"]
 lshare:z8 K "_law_share_by" zEK ["_law_rows","_law_order","_law_name_here"]
 lrefused:z8 K "_law_refused" zEA ["_law_e"]
 ltold:z8 K "_law_told" zEC ["_law_ledger","_law_way","_law_title","_law_thing"]
 lasked:z8 K "_law_asked" zED ["_law_ledger","_law_way","_law_name_here"]
 ldue:z8 K "_law_due" zEI ["_law_kept","_law_way","_law_title","_law_thing"]
 lbt:z8 K "_law_best_title" sBT ["_law_kept","_law_order","_law_name_here"]
 lord:z8 K "_law_orders" zEE []
 letters:∃t,aO K mainGlobals "LETTERS"=some (some (.str letters t))
 ml:∃t,aO K mainGlobals "MOST_LETTERS"=some (some (.int 8 t))
 mn:∃t,aO K mainGlobals "MOST_NAMES"=some (some (.int 8 t))
 mo:∃t,aO K mainGlobals "MOST_ORDER"=some (some (.int 3 t))
 ib:aS K (.type "int") (.type "bool")=some false
 nought:∃a,aO K mainGlobals "NOUGHT"=some (some (.ref a))/\∀H,yX K H a [.int 0,.int 1]
 whole:∃a,aO K mainGlobals "WHOLE"=some (some (.ref a))/\∀H,yX K H a [.int 1,.int 1]
 errs:∃cs L,∀(h:bc) (mg:Str->Option ae),K.In h->h.Ns mainGlobals mg->Ln.ErrX K mg cs L
 kitf:KitF K
 kst:∃S0 C,LgCls K S0 C/\zHr K S0 "__init__" "Stepper.__init__" sSI ["self","now"]/\u4 K C "__init__" "Ledger.__init__" sLI ["self","order"]/\u4 K C "step_to" "Stepper.step_to" sST ["self","after","word"]/\u4 K C "need_title" "Ledger.need_title" sNT ["self","title"]/\u4 K C "with_book" "Ledger.with_book" sWB ["self","title","book"]/\u4 K C "keep" "Ledger.keep" zBz ["self","title","book"]/\u4 K C "drop" "Ledger.drop" zCA ["self","title"]/\u4 K C "hear" "Ledger.hear" zCB ["self","title","name"]/\u4 K C "titles" "Ledger.titles" zDu ["self"]/\u4 K C "book" "Ledger.book" zCD ["self","title"]/\u4 K C "tellers" "Ledger.tellers" zCE ["self","name"]/\u4 K C "makers_of" "Ledger.makers_of" zCF ["self","name"]/\u4 K C "best_of" "Ledger.best_of" zCG ["self","name"]
 zlen:aO K mainGlobals "len"=some none
 zrange:aO K mainGlobals "range"=some none
 zall:aO K mainGlobals "all"=some none
 zisinstance:aO K mainGlobals "isinstance"=some none
 zstr:aO K mainGlobals "str"=some none
 ztuple:aO K mainGlobals "tuple"=some none
 zint:aO K mainGlobals "int"=some none
 zbool:aO K mainGlobals "bool"=some none
 zsorted:aO K mainGlobals "sorted"=some none
 zsum:aO K mainGlobals "sum"=some none
 zmin:aO K mainGlobals "min"=some none
 zmax:aO K mainGlobals "max"=some none
 zlist:aO K mainGlobals "list"=some none
 zenumerate:aO K mainGlobals "enumerate"=some none
 zdict:aO K mainGlobals "dict"=some none
 zValueError:aO K mainGlobals "ValueError"=some none
theorem zOV:(oJ "abcdefghijklmnopqrstuvwxyz")=letters:=by decide+kernel
theorem zOW {K:aa}{t:Tok}(h:aO K mainGlobals "LETTERS"=some (some (.str (oJ "abcdefghijklmnopqrstuvwxyz") t))):∃t,aO K mainGlobals "LETTERS"=some (some (.str letters t)):=by
 rw[zOV]at h;exact⟨t,h⟩
theorem zOX {K:aa}{x:Str}{i:Int}{t:Tok}(h:aO K mainGlobals x=some (some (.int i t))):∃t,aO K mainGlobals x=some (some (.int i t)):=⟨t,h⟩
theorem zOY {K:aa}{x:Str}{a:af}{i j:Int}{t t':Tok}{n:Nat}{dd:Option af}{b:Array (Option ae)}(h:aO K mainGlobals x=some (some (.ref a)))
  (l:K.lookup a=some ⟨.type "tuple",dd,.seq #[.int i t,.int j t'] n,b⟩):∃a,aO K mainGlobals x=some (some (.ref a))/\∀H,yX K H a [.int i,.int j] :=
 ⟨a,h,fun H=>.inr ⟨_,_,_,l,rfl,rfl,by show 2<=sizeLine;decide,.cons ⟨t,rfl⟩ (.cons ⟨t',rfl⟩ .nil)⟩⟩
section
variable{P:aw}{w:aI}{K:aa}{mg:Str->Option ae}{base:bc}{h:bc}
theorem zOZ {x:Str}{st:bR}{c:List Str}{k:Nat}{sp:Sp}(X:K.In h)(G:h.Ns mainGlobals mg)(H:z8 K x st c)(ok:∀(f:af) (fd:ar),Fun K x x st f fd->FnOk P w K mg base zS k f fd c sp):zW P w K mg base k x c sp:=by
 obtain⟨f,fd,a,F,kp,b⟩:=H
 exact⟨f,fd,ok f fd F,bK X G a,kp,b⟩
theorem zOa {x:Str}{st:bR}{c:List Str}{k:Nat}{sp:Sp}(X:K.In h)(G:h.Ns mainGlobals mg)(H:z8 K x st c)(ok:∀(f:af) (fd:ar),Fun K x x st f fd->FnOk P w K mg base (y7 P w) k f fd c sp):uO P w K mg base k x c sp:=by
 obtain⟨f,fd,a,F,kp,b⟩:=H
 exact⟨f,fd,ok f fd F,bK X G a,kp,b⟩
theorem zOb {x:Str}{st:bR}{c:List Str}{k:Nat}{sp:Sp}(X:K.In h)(G:h.Ns mainGlobals mg)(H:z8 K x st c)(ok:∀(f:af) (fd:ar),Fun K x x st f fd->FnB P w K mg base zS k f fd c sp):zAH P w K mg base k x c sp:=by
 obtain⟨f,fd,a,F,kp,b⟩:=H
 exact⟨f,fd,ok f fd F,bK X G a,kp,b⟩
theorem zOc (X:K.In h)(G:h.Ns mainGlobals mg)(T:Top K){f:af}{fd:ar}(F:Fun K "law" "law" jJ f fd):FnOk P w K mg base zS 10 f fd ["_law_script"] (zBB K):=by
 have B:Blt mg:=⟨bh X G T.zlen,bh X G T.zrange,bh X G T.zall,bh X G T.zisinstance,bh X G T.zstr,bh X G T.ztuple,bh X G T.zint,bh X G T.zbool,bh X G T.zsorted,bh X G T.zsum,bh X G T.zmin⟩
 have C:Cst K mg:=⟨let⟨t,e⟩:=T.letters;⟨t,bK X G e⟩,let⟨t,e⟩:=T.ml;⟨t,bK X G e⟩,let⟨t,e⟩:=T.mn;⟨t,bK X G e⟩,let⟨t,e⟩:=T.mo;⟨t,bK X G e⟩,T.ib⟩
 have c {x:Str} {st:bR} {D:List Str} {k:Nat} {sp:Sp} (a:z8 K x st D) (b:∀(f:af) (fd:ar),Fun K x x st f fd->FnOk P w K mg base zS k f fd D sp):zW P w K mg base k x D sp:=zOZ X G a b
 have r {x:Str} {st:bR} {D:List Str} {k:Nat} {sp:Sp} (a:z8 K x st D) (b:∀(f:af) (fd:ar),Fun K x x st f fd->FnOk P w K mg base (y7 P w) k f fd D sp):uO P w K mg base k x D sp:=zOa X G a b
 have ac {x:Str} {st:bR} {D:List Str} {k:Nat} {sp:Sp} (a:z8 K x st D) (b:∀(f:af) (fd:ar),Fun K x x st f fd->FnB P w K mg base zS k f fd D sp):zAH P w K mg base k x D sp:=zOb X G a b
 have C2:Cst2 K mg:=⟨let⟨a,e,q⟩:=T.nought;⟨a,bK X G e,q⟩,let⟨a,e,q⟩:=T.whole;⟨a,bK X G e,q⟩⟩
 have bi:=bh X G T.zenumerate
 have aN:=bh X G T.zdict
 have aW:=bh X G T.zmax
 obtain⟨cs,L,hE⟩:=T.errs
 have E:=hE h mg X G
 have KF:=T.kitf
 have BE:Ln.BltE mg:=⟨bh X G T.zisinstance,bh X G T.zValueError⟩
 have a0:=c T.end_of fun f fd F=>zLC F
 have H:=c T.ends fun f fd F=>zLF F B a0
 have l:=c T.is_name fun f fd F=>zLH F B C
 have I:=c T.is_book fun f fd F=>zLI F B C l
 have y:=c T.is_whole fun f fd F=>zLJ F B C
 have z:=c T.is_order fun f fd F=>zLK F C y
 have ak:=c T.need_book fun f fd F=>zLL F I
 have a1:=c T.need_order fun f fd F=>zLM F z
 have n:=c T.need_name fun f fd F=>zLN F l
 have al:=c T.rows fun f fd F=>zLQ F H
 have N:Needs P w K mg base:=⟨ak,a1,n,al⟩
 have a2:=c T.gcd fun f fd F=>zMf F
 have Z:=c T.low fun f fd F=>zMg F a2
 have U:=c T.times fun f fd F=>zMh F Z
 have J:=c T.is_less fun f fd F=>zMi F
 have am:=c T.part_in fun f fd F=>zLV F B C2 (zEN Z zOD)
 have a3:=c T.stepsR fun f fd F=>zLZ F H am
 have a4:=c T.shareR fun f fd F=>zLd F C2 a3 (zEN U zOE)
 have a5:=c T.share fun f fd F=>zLg F N a4
 have bl:=c T.makes fun f fd F=>zLh F C2 a5 (zEN J zOF)
 have bm:=c T.place fun f fd F=>zMj F bi C2 J
 have i:=c T.is_name fun f fd F=>zMK F B C KF
 have A:=c T.is_book fun f fd F=>zML F B C KF i
 have s:=c T.is_whole fun f fd F=>zMN F B C KF
 have u:=c T.is_order fun f fd F=>zMO F C s
 have ab:=r T.need_book fun f fd F=>zMP F (E.at_ 2 (by decide)).1 A
 have a6:=r T.need_order fun f fd F=>zMQ F (E.at_ 0 (by decide)).1 u
 have g:=r T.need_name fun f fd F=>zMR F (E.at_ 1 (by decide)).1 i
 have an:=c T.cell fun f fd F=>zLk F B
 have j:=c T.drawn fun f fd F=>zLl F an
 have M:=c T.lname fun f fd F=>zLm F B j
 have ap:=c T.lbook fun f fd F=>zLn F B j M
 obtain⟨S0,o,d,mc,mi,mt,m1,m2,m3,m4,m5,m6,m7,m8,m9,bn⟩:=T.kst
 have v:LgC K o:=⟨d.cls,d.now,d.don,d.und,d.ord⟩
 have bo:zDm P w K mg base S0 1 "__init__" ["self","now"] (zDp o):=let⟨f,fd,F,m,b⟩:=mc;⟨f,fd,zMr F v,m,b⟩
 have mI:zDl P w K mg base o 4 "Ledger" ["self","order"] (zBw o):=let⟨f,fd,F,m,b⟩:=mi;⟨f,fd,zMu F v (bK X G d.nst) a1 bo,⟨d.makes,m.at_,m.fn,d.kp⟩,bK X G d.ns,b⟩
 have as:v3 P w K mg base o 1 "step_to" ["self","after","word"] (zAu o):=let⟨f,fd,F,m,b⟩:=mt;⟨f,fd,zMt F v,m,d.cls,b⟩
 have aB:v3 P w K mg base o 1 "need_title" ["self","title"] (zAv o):=let⟨f,fd,F,m,b⟩:=m1;⟨f,fd,zMv F v,m,d.cls,b⟩
 have a7:v3 P w K mg base o 1 "with_book" ["self","title","book"] (zBy o):=let⟨f,fd,F,m,b⟩:=m2;⟨f,fd,zMw F v aN,m,d.cls,b⟩
 have W:v3 P w K mg base o 1 "titles" ["self"] (zAO o):=let⟨f,fd,F,m,b⟩:=m6;⟨f,fd,zNB F v B,m,d.cls,b⟩
 have O:qJ P w K mg base o 1 "need_title" ["self","title"] (zAx o (cs.getD 3 0)):=let⟨f,fd,F,m,b⟩:=m1;⟨f,fd,zNI F v (E.at_ 3 (by decide)).1,m,d.cls,b⟩
 have ZT:ToldC P w K mg base o cs:=⟨let⟨f,fd,F,m,b⟩:=m3;⟨f,fd,gI (zMx F v n ak a7 as) (zNP F g ab),m,d.cls,b⟩,let⟨f,fd,F,m,b⟩:=m4;⟨f,fd,gI (zMy F v aN n aB as) (zNN F g O),m,d.cls,b⟩,let⟨f,fd,F,m,b⟩:=m5;⟨f,fd,gI (zMz F v B n ak aB a7 as) (zNQ F v g ab O),m,d.cls,b⟩,let⟨f,fd,F,m,b⟩:=m7;⟨f,fd,gI (zNC F v n aB) (zNO F g O),m,d.cls,b⟩⟩
 have ZA:AskC P w K mg base o cs:=⟨let⟨f,fd,F,m,b⟩:=m8;⟨f,fd,gI (zNE F v n W) (zNJ F g),m,d.cls,b⟩,let⟨f,fd,F,m,b⟩:=m9;⟨f,fd,gI (zNF F v n bl W) (zNK F g),m,d.cls,b⟩,let⟨f,fd,F,m,b⟩:=bn;⟨f,fd,gI (zNG F v n a5 bm W) (zNL F g),m,d.cls,b⟩⟩
 have bp:zDx P w K mg base o 4 "Ledger" ["self","order"] (zDy (cs.getD 0 0)):=let⟨f,fd,F,m,b⟩:=mi;⟨f,fd,zNM F a6,⟨d.makes,m.at_,m.fn,d.kp⟩,bK X G d.ns,b⟩
 have p:=c T.lcounts fun f fd F=>zLr F B
 have Y:=c T.llow fun f fd F=>zNk F
 have Q:=c T.lshare fun f fd F=>zNt F B aW Y
 have R:=ac T.lrefused fun f fd F=>Ln.zNU F BE E
 have aK:=c T.ltold fun f fd F=>zNW F E ZT R
 have a8:=c T.lasked fun f fd F=>zNa F E ZA R
 have a9:=c T.ldue fun f fd F=>zNj F B
 have bt:=c T.lbt fun f fd F=>zNu F B p Q
 have be:=c T.lord fun f fd F=>zNc F E bp R
 exact zOU F B aW ⟨j,M,ap,W,mI,aK,a8,a9,p,Q,bt,be⟩
end
theorem zOd {l:iI}{w:aI}{K:aa}{h:bc}{mg:Str->Option ae}{p i:af}(X:K.In h)(G:h.Ns mainGlobals mg)(j:mg "law"=some (.ref p))
  {m b:Option af} {n:Array (Option ae)} {o c d f a g:ae} (T:Top K)
  (q:aO K mainGlobals "law"=some (some (.ref i))) (r:K.lookup i=some ⟨o,m,.func (cp "law" "law" (defArgs jJ) (defBody jJ) (defScope jJ) .none c d f b a g),n⟩) (t:de K a "law"=true) (u:bP K (.ref i)=true) :
  ∃fd:ar,(∀(s:ah) (v:ae),jb s fd ⟨[v],[]⟩ [("_law_script",v)])/\∀base:bc,K.In base->base.Ns mainGlobals mg->FnOk l.prog w K mg base zS 10 p fd ["_law_script"] (zBB K):=by
 have e:=j.symm.trans (bK X G q)
 cases e
 have x:=gB (st:=jJ) r t u
 exact⟨cp "law" "law" (defArgs jJ) (defBody jJ) (defScope jJ) .none c d f b a g,fun s v=>.of_eq rfl,fun base _ _=>zOc X G T x⟩
theorem zOe {l:iI}{q:aw}{loose:List Str}{XP:(Str->Option ae)->bc->Prop}{YP:aI->bc->Prop}{d:DefRec}{K:mK->aa}(e:l.most=some 63)(b:d.params.defaults=[])
  (g:∀(w:aI) (h:bc),YP w h->(K w.params).In h)
  (F:∀(w:aI) (mg:Str->Option ae) (c:af) (h:bc),(K w.params).In h->h.Ns mainGlobals mg->mg d.name=some (.ref c)->
   ∃fd:ar,(∀(s:ah) (u:ae),jb s fd ⟨[u],[]⟩ [("_law_script",u)])/\∀base:bc,(K w.params).In base->base.Ns mainGlobals mg->FnOk l.prog w (K w.params) mg base zS 10 c fd ["_law_script"] (zBB (K w.params))) :
  nX q loose XP YP l.row.toRowW d [] (fun f vs=>mY f vs) :=
 L2.zKI (n:=63) (k:=10) (x :="_law_script") (CX:=fun _=>zS) (sp:=fun w=>zBB (K w.params)) e (by decide) b ⟨rfl,by decide,by decide⟩ g F (fun _ _ a ns hl _ i=>⟨a,ns,rfl,i,hl,fun _=>rfl⟩) fun _ _ _ _ _ z=>z
end Kn
end
section
open PySem PySem.W PyProof.Rows
set_option maxRecDepth 100000 in
set_option maxHeartbeats 0 in
theorem PySem.Challenge.cw_kinnames_k89_ledgers_holds : PySem.Challenge.rw_kinnames_k89_ledgers.Holds := by
 w_on;o_law
 refine PySem.W.holds_open (q:=Kn.kq) (loose:=Kn.klo) (Xt:=fun s=>xlAt Kn.kq [] s&&recOk [] s) (XP:=XL Kn.kq []) (Yf:=Hook.obs (kHook Kn.kfr Kn.kas Kn.kas_e)) (Ya:=Hook.val (kHook Kn.kfr Kn.kas Kn.kas_e)) (YP:=Hook.says (kHook Kn.kfr Kn.kas Kn.kas_e)) (N:=6492) Kn.hl (Hook.of (kHook Kn.kfr Kn.kas Kn.kas_e)) (Hook.keeps (kHook Kn.kfr Kn.kas Kn.kas_e)) (fun s e=>xl_of s (Bool.and_eq_true_iff.mp e).1) XL.keeps (by rfl) (by rfl) (by rfl) (fun s e=>recFacts_of (Bool.and_eq_true_iff.mp e).2) (by rfl) (by first|assumption|decide+kernel) (by decide+kernel) ⟨rfl,rfl,rfl,rfl,rfl,by decide+kernel⟩ ?hw ?hc
 (case hw=>w_witness2)
 k_fill
 refine Kn.zOe (l:=PySem.Challenge.rw_kinnames_k89_ledgers) rfl rfl (fun w h Y=>PySem.W.kIn_of Y) ?F
 case F=>
  intro w mg fa h KX G hmg
  refine' Kn.zOd KX G hmg ?T ?a4 ?l4 ?c4 ?k4
  (case T=>
   refine' ⟨?is_name,?is_book,?is_whole,?is_order,?need_book,?need_order,?need_name,?end_of,?ends,?rows,?gcd,?low,?times,?is_less,?place,?part_in,?stepsR,?shareR,?share,?makes,?cell,?drawn,?lname,?lbook,?lcounts,?llow,?lshare,?lrefused,?ltold,?lasked,?ldue,?lbt,?lord,?letters,?ml,?mn,?mo,?ib,?nought,?whole,?errs,?kitf,?kst,?zlen,?zrange,?zall,?zisinstance,?zstr,?ztuple,?zint,?zbool,?zsorted,?zsum,?zmin,?zmax,?zlist,?zenumerate,?zdict,?zValueError⟩
   (case lord=>refine' Kn.zBC _ (fun fd F=>F.binds fun _ _ _ _ _ _ us hl=>match us,hl with| [],_=>rfl) ?kna ?knl ?knc ?knk;(case kna=>k_is);(case knl=>k_is);(case knc=>k_is);(case knk=>k_is))
   (case is_name|is_book|is_order|need_book|need_order|need_name|place|lrefused=>refine' Kn.zBC _ (fun fd F=>F.binds fun _ _ _ _ _ _ us hl=>match us,hl with| [_],_=>rfl) ?kna ?knl ?knc ?knk;(case kna=>k_is);(case knl=>k_is);(case knc=>k_is);(case knk=>k_is))
   (case end_of|ends|rows|gcd|low|times|is_less|part_in|cell|lcounts|llow=>refine' Kn.zBC _ (fun fd F=>F.binds fun _ _ _ _ _ _ us hl=>match us,hl with| [_,_],_=>rfl) ?kna ?knl ?knc ?knk;(case kna=>k_is);(case knl=>k_is);(case knc=>k_is);(case knk=>k_is))
   (case is_whole|stepsR|shareR|share|makes|drawn|lname|lshare|lasked|lbt=>refine' Kn.zBC _ (fun fd F=>F.binds fun _ _ _ _ _ _ us hl=>match us,hl with| [_,_,_],_=>rfl) ?kna ?knl ?knc ?knk;(case kna=>k_is);(case knl=>k_is);(case knc=>k_is);(case knk=>k_is))
   (case lbook|ltold|ldue=>refine' Kn.zBC _ (fun fd F=>F.binds fun _ _ _ _ _ _ us hl=>match us,hl with| [_,_,_,_],_=>rfl) ?kna ?knl ?knc ?knk;(case kna=>k_is);(case knl=>k_is);(case knc=>k_is);(case knk=>k_is))
   (case letters=>refine' Kn.zOW ?knq;(case knq=>k_is))
   (case ml|mn|mo=>refine' Kn.zOX ?knq;(case knq=>k_is))
   (case ib=>first|rfl|kernel_rfl|decide+kernel)
   (case nought|whole=>refine' Kn.zOY ?knq ?knr;(case knq=>k_is);(case knr=>k_is))
   (case errs=>refine' Kn.Ln.zNS ?e0 ?e1 ?e2 ?e3 ?eL ?eK;(case e0=>k_is);(case e1=>k_is);(case e2=>k_is);(case e3=>k_is);(case eL=>k_is);(case eK=>first|rfl|kernel_rfl|decide+kernel))
   (case kitf=>constructor<;>first|rfl|kernel_rfl|decide+kernel)
   (case kst=>refine' ⟨_,_,⟨?n0,?n1,⟨?n2,?n3,?n4,?n5⟩,?n6,?n7,?n8,?n9,?na,?nb⟩,?mc,?mi,?mt,?m1,?m2,?m3,?m4,?m5,?m6,?m7,?m8,?m9,?m10⟩;(case n0=>k_is);(case n1=>k_is);(case n2|n3|n4|n5|n6|n7|n8|n9|na|nb=>k_is);(case mc=>refine' Kn.Ln.zOG _ (fun fd F=>F.binds fun _ _ _ _ _ _ us hl=>match us,hl with| [_,_],_=>rfl) ?kna ?knr ?kns ?knl ?knc ?knk;(case kna=>k_is);(case knr=>k_is);(case kns=>k_is);(case knl=>k_is);(case knc=>k_is);(case knk=>k_is));(case m6=>refine' Kn.Ln.zDn _ (fun fd F=>F.binds fun _ _ _ _ _ _ us hl=>match us,hl with| [_],_=>rfl) ?kna ?kni ?knl ?knc ?knk;(case kna=>k_is);(case kni=>k_is);(case knl=>k_is);(case knc=>k_is);(case knk=>k_is));(case mi|m1|m4|m7|m8|m9|m10=>refine' Kn.Ln.zDn _ (fun fd F=>F.binds fun _ _ _ _ _ _ us hl=>match us,hl with| [_,_],_=>rfl) ?kna ?kni ?knl ?knc ?knk;(case kna=>k_is);(case kni=>k_is);(case knl=>k_is);(case knc=>k_is);(case knk=>k_is));(case mt|m2|m3|m5=>refine' Kn.Ln.zDn _ (fun fd F=>F.binds fun _ _ _ _ _ _ us hl=>match us,hl with| [_,_,_],_=>rfl) ?kna ?kni ?knl ?knc ?knk;(case kna=>k_is);(case kni=>k_is);(case knl=>k_is);(case knc=>k_is);(case knk=>k_is)))
   (case zlen|zrange|zall|zisinstance|zstr|ztuple|zint|zbool|zsorted|zsum|zmin|zmax|zlist|zenumerate|zdict|zValueError=>k_is))
  (case a4=>k_is);(case l4=>k_is);(case c4=>k_is);(case k4=>k_is)
end
