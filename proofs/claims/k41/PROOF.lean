import PyProof.Rows.All
import Wide.All
import OpenK.AllK
import Wide.FinOn
import Lean
import PyProof.EqAt
import PyProof.EqKinds
import PyProof.TupleCall
import PyProof.CompFree
import KE.KSortAsk
import KE.KSortTup
import KE.KRevSl
import PyProof.AttrMissSeq
import KE.KDictOf
import KE.KxText
import PyProof.StationsW
import PyProof.Rows.Catch
import PyProof.ExcClass3
import PyProof.ExcBaseAll.ValueError
import OpenK.KOwn
import KE.KIsAll
import PyProof.ExcAttrAll.ValueError
import PyProof.Rows.Range3
import PyProof.ZipIter
import PyProof.Draws
import PyProof.TupleIter
import PyProof.Rows.ZipGen
import PyProof.WalksMore
import PyProof.Rows.InDataRows
import PyProof.Rows.SetFrom
import PyProof.ListMulRoad
import PyProof.StrOps2
import PyProof.FactsAll.tuple_2
import PyProof.RulesTry
import PyProof.FitsBits
import PySem.Challenge.RW_kinnames_k41_whole_drawing
set_option Elab.async false
set_option linter.all false
set_option maxRecDepth 100000
set_option maxHeartbeats 4000000
section
namespace L2
open PySem
def inClass (s:Stmt) (j:Nat):Stmt:=match s with
 | .ClassDef _ _ _ body _ _ _ _ _ _ _=>body.getD j (.Pass ⟨0,0,0,0⟩)
 | _=>.Pass ⟨0,0,0,0⟩
def defArgs (s:Stmt):Arguments:=match s with
 | .FunctionDef _ a _ _ _ _ _ _ _ _=>a
 | _=>{ posonlyargs:=[],args:=[],vararg:=none,kwonlyargs:=[],kw_defaults:=[],kwarg:=none,defaults:=[] }
def defBody (s:Stmt):List Stmt:=match s with
 | .FunctionDef _ _ b _ _ _ _ _ _ _=>b
 | _=>[]
def defScope (s:Stmt):Scope:=match s with
 | .FunctionDef _ _ _ _ _ _ sc _ _ _=>sc
 | _=>{ kind:=.function,names:=[],isGenerator:=false,isCoroutine:=false }
end L2
namespace Kn
open PySem
def top (i:Nat):Stmt:=PySem.Challenge.pw_kinnames_k41_whole_drawing.main.body.getD i (.Pass ⟨0,0,0,0⟩)
end Kn
namespace Kn
open PySem PySem.W PyProof.Rows
def topRunT (tb:String->Option Builtin) (p:Program) (w:World) (n₀:Nat) (ann:Option Value):Nat->SharedT->Thread->Option SharedT
 | 0,_,_=>none
 | n+1,s,t=>match through t with
  | true=>some s
  | false=>match stepOk n₀ ann t with
   | false=>none
   | true=>match stepT (denote tb) p w s t with
    | some (s',t')=>topRunT tb p w n₀ ann n s' t'
    | none=>none
theorem topRun_of {tb:String->Option Builtin}{p:Program}{w:World}{n₀:Nat}{ann:Option Value}:∀ {n:Nat}{s s':SharedT}{t:Thread},topRunT tb p w n₀ ann n s t=some s'->topRun tb p w n₀ ann n s.abs t=some s'.abs
 | 0,_,_,_,h=>by cases h
 | n+1,s,s',t,h=>by
  unfold topRunT at h
  unfold topRun
  cases he:through t with
  | true=>rw [he] at h; cases h; rfl
  | false =>
   rw [he] at h
   cases hk:stepOk n₀ ann t with
   | false=>rw [hk] at h; cases h
   | true =>
    rw [hk] at h
    cases hs:stepT (denote tb) p w s t with
    | none=>rw [hs] at h; cases h
    | some r=>obtain ⟨s₂,t₂⟩:=r; rw [hs] at h; rw [stepT_spec hs]; exact topRun_of h
def insAll:List Obj->Nat->BT->Option BT
 | [],_,T=>some T
 | o::os,n,T=>match ((T.ins n o).get n).isSome with
  | true=>insAll os (n+1) (T.ins n o)
  | false=>none
theorem insAll_abs {life:Life}:∀ {os:List Obj}{n:Nat}{T T':BT},insAll os n T=some T'->(absHeap T' (n+os.length) life).objs.toList=(absHeap T n life).objs.toList++os
 | [],n,T,T',h=>by cases h; simp
 | o::os,n,T,T',h=>by
  unfold insAll at h
  cases hi:((T.ins n o).get n).isSome with
  | false=>rw [hi] at h; cases h
  | true =>
   rw [hi] at h
   have h1:=insAll_abs (life:=life) h
   have h2:=absHeap_ins (life:=life) hi
   have e:n+1+os.length=n+(o::os).length:=by rw [List.length_cons]; omega
   rw [<- e,h1,h2]
   show ((absHeap T n life).objs.push o).toList++os=_
   rw [Array.toList_push,List.append_assoc]; rfl
theorem insAll_of {s:Shared}{T:BT} (h:insAll s.heap.objs.toList 0 .nil=some T):(SharedT.mk T s.heap.objs.size s.heap.life s.gens s.drawn s.toks s.os).abs=s:=by
 have h1:=insAll_abs (life:=s.heap.life) h
 have e0:(absHeap .nil 0 s.heap.life).objs.toList=[]:=rfl
 have e1:0+s.heap.objs.toList.length=s.heap.objs.size:=by rw [Nat.zero_add]; rfl
 rw [e0,List.nil_append,e1] at h1
 have h2:absHeap T s.heap.objs.size s.heap.life=s.heap:=by
  have h3:(absHeap T s.heap.objs.size s.heap.life).objs=s.heap.objs:=Array.toList_inj.mp h1
  have h4:(absHeap T s.heap.objs.size s.heap.life).life=s.heap.life:=rfl
  generalize absHeap T s.heap.objs.size s.heap.life=A at h3 h4
  cases A
  obtain ⟨⟨o,l⟩,_,_,_,_⟩:=s
  subst h3 h4
  rfl
 unfold SharedT.abs
 dsimp only
 rw [h2]
def topFromT (tb:String->Option Builtin) (p:Program) (w:World) (N:Nat) (s₀:Shared) (T₀:SharedT):Option Shared :=
 match s₀.heap.isNs mainGlobals && s₀.gens.size == 0 with
 | true=>(topRunT tb p w s₀.heap.objs.size (s₀.heap.nsMap mainGlobals "__annotations__") N T₀ (topStub p)).bind fun t₁=>match staticsOk (importedModules p.main.body) s₀.heap t₁.abs.heap && namesBound p t₁.abs.heap && gensDone t₁.abs && laidKept s₀.heap t₁.abs.heap with
   | true=>some t₁.abs
   | false=>none
 | false=>none
theorem topFrom_of {tb:String->Option Builtin}{p:Program}{w:World}{N:Nat}{s₀:Shared}{T₀:SharedT}{s₁:Shared} (e:T₀.abs=s₀) (h:topFromT tb p w N s₀ T₀=some s₁):topFrom tb p w N s₀=some s₁:=by
 unfold topFromT at h
 unfold topFrom
 cases hb:s₀.heap.isNs mainGlobals && s₀.gens.size == 0 with
 | false=>rw [hb] at h; cases h
 | true =>
  rw [hb] at h
  dsimp only at h ⊢
  obtain ⟨t₁,h1,h2⟩:=Option.bind_eq_some_iff.mp h
  have h3:=topRun_of h1
  rw [e] at h3
  rw [h3]
  exact h2
def openEndsT (tb:String->Option Builtin) (p:Program) (w:World) (N:Nat):Option Shared:=(fencedOpening tb p w N).bind fun s₀=>(insAll s₀.heap.objs.toList 0 .nil).bind fun T=>topFromT tb p w N s₀ ⟨T,s₀.heap.objs.size,s₀.heap.life,s₀.gens,s₀.drawn,s₀.toks,s₀.os⟩
theorem openEnds_of {tb:String->Option Builtin}{p:Program}{w:World}{N:Nat}{s₁:Shared} (h:openEndsT tb p w N=some s₁):openEnds tb p w N=some s₁:=by
 obtain ⟨s₀,h1,h2⟩:=Option.bind_eq_some_iff.mp h
 obtain ⟨T,h3,h4⟩:=Option.bind_eq_some_iff.mp h2
 unfold openEnds
 rw [h1]
 exact topFrom_of (insAll_of h3) h4
theorem openMap_of {tb:String->Option Builtin}{p:Program}{w:World}{N:Nat}{α:Type}{F:Shared->α}{r:α} (h:(openEndsT tb p w N).map F=some r):(openEnds tb p w N).map F=some r:=by
 obtain ⟨s₁,h1,h2⟩:=Option.map_eq_some_iff.mp h
 rw [openEnds_of h1,Option.map_some,h2]
end Kn
open PySem PySem.W PyProof.Rows
namespace Kn
open L2
def kE (P:Params) (x:Str) (t:Nat) (v:Value):DictEntry:=⟨PyData.keyHash P x,.str x t,v⟩
def kF (s:Stmt) (nm qn:Str) (df kd doc pm:Value) (an:Option Addr) (cd ct:Value) (c:Value) (d:Option Addr) (sl:Array (Option Value)):Obj :=
 ⟨c,d,.func (PySem.W.fnOf nm qn (defArgs s) (defBody s) (defScope s) df kd doc pm an cd ct),sl⟩
noncomputable def kfr:Params->Frag:=fun P=>(nat_lit 2,⟨.none,none,.dict #[] 0,#[]⟩) ::
 (nat_lit 3,⟨(.type "dict"),none,.dict #[kE P (.ofString "__name__") 165 (.str (.ofString "law_kinnames_k41_whole_drawing") 678),kE P (.ofString "__doc__") 166 .none,kE P (.ofString "__package__") 167 .none,kE P (.ofString "__loader__") 168 (.builtin "__main__.__loader__#opaque"),kE P (.ofString "__spec__") 169 .none,kE P (.ofString "__annotations__") 170 (.ref 6),kE P (.ofString "__builtins__") 171 (.ref 4),kE P (.ofString "__file__") 173 (.str (.ofString "/claim/cut.py") 172),kE P (.ofString "__cached__") 174 .none,kE P (.ofString "LikeError") 206 (.ref 24),kE P (.ofString "NoBook") 222 (.ref 37),kE P (.ofString "NoOrder") 238 (.ref 49),kE P (.ofString "NoName") 254 (.ref 61),kE P (.ofString "NoWish") 270 (.ref 73),kE P (.ofString "NoNumber") 286 (.ref 85),kE P (.ofString "NotMade") 302 (.ref 97),kE P (.ofString "TooShort") 318 (.ref 109),kE P (.ofString "LETTERS") 322 (.str (.ofString "abcdefghijklmnopqrstuvwxyz") 321),kE P (.ofString "MOST_LETTERS") 324 (.int (8) 323),kE P (.ofString "MOST_NAMES") 326 (.int (8) 325),kE P (.ofString "MOST_ORDER") 328 (.int (3) 327),kE P (.ofString "is_name") 334 (.ref 116),kE P (.ofString "is_book") 340 (.ref 121),kE P (.ofString "is_whole") 349 (.ref 128),kE P (.ofString "is_order") 356 (.ref 135),kE P (.ofString "is_rising") 362 (.ref 140),kE P (.ofString "need_book") 369 (.ref 147),kE P (.ofString "need_order") 376 (.ref 154),kE P (.ofString "need_name") 383 (.ref 161),kE P (.ofString "need_name_or_empty") 390 (.ref 168),kE P (.ofString "end_of") 398 (.ref 175),kE P (.ofString "ends_and_letters") 404 (.ref 180),kE P (.ofString "counted_rows") 417 (.ref 187),kE P (.ofString "behind") 427 (.ref 194),kE P (.ofString "NOUGHT") 432 (.ref 195),kE P (.ofString "WHOLE") 435 (.ref 196),kE P (.ofString "greatest_divisor") 444 (.ref 203),kE P (.ofString "lowest") 453 (.ref 210),kE P (.ofString "times") 461 (.ref 217),kE P (.ofString "is_less") 469 (.ref 224),kE P (.ofString "part_in") 477 (.ref 231),kE P (.ofString "steps_by_rows") 483 (.ref 236),kE P (.ofString "share_by_rows") 494 (.ref 243),kE P (.ofString "share") 503 (.ref 250),kE P (.ofString "makes") 512 (.ref 257),kE P (.ofString "LEAST") 516 (.int (0) 515),kE P (.ofString "MOST") 518 (.int (1) 517),kE P (.ofString "HEAD") 520 (.int (2) 519),kE P (.ofString "TAIL") 522 (.int (3) 521),kE P (.ofString "BARRED") 524 (.int (4) 523),kE P (.ofString "TOLD") 526 (.int (5) 525),kE P (.ofString "MANY_PARTS") 528 (.int (6) 527),kE P (.ofString "MOST_EDGE") 530 (.int (3) 529),kE P (.ofString "MOST_BARRED") 532 (.int (6) 531),kE P (.ofString "is_edge") 539 (.ref 264),kE P (.ofString "is_barred") 545 (.ref 269),kE P (.ofString "is_wish") 552 (.ref 276),kE P (.ofString "need_wish") 559 (.ref 283),kE P (.ofString "has_form") 567 (.ref 290),kE P (.ofString "left_out") 575 (.ref 297),kE P (.ofString "fits") 584 (.ref 304),kE P (.ofString "MOST_NUMBERS") 588 (.int (99) 587),kE P (.ofString "GREATEST_NUMBER") 590 (.int (9999) 589),kE P (.ofString "are_numbers") 596 (.ref 309),kE P (.ofString "need_numbers") 603 (.ref 316),kE P (.ofString "pot_of") 612 (.ref 323),kE P (.ofString "pots_by_end") 618 (.ref 328),kE P (.ofString "drawn_from") 632 (.ref 335),kE P (.ofString "drawn") 641 (.ref 342),kE P (.ofString "first_drawn") 654 (.ref 349),kE P (.ofString "drawn_fitting") 664 (.ref 356),kE P (.ofString "numbers_for") 677 (.ref 363),kE P (.ofString "_law_cell") 687 (.ref 370),kE P (.ofString "_law_drawn") 697 (.ref 377),kE P (.ofString "_law_name") 703 (.ref 382),kE P (.ofString "_law_book") 715 (.ref 389),kE P (.ofString "_law_wish") 730 (.ref 396),kE P (.ofString "_law_fits") 739 (.ref 403),kE P (.ofString "_law_text") 748 (.ref 410),kE P (.ofString "_law_fitting") 758 (.ref 417),kE P (.ofString "_law_picks_fit") 764 (.ref 422),kE P (.ofString "_law_drawn_well") 770 (.ref 427),kE P (.ofString "law") 776 (.ref 432)] 83,#[]⟩) ::
 (nat_lit 23,⟨(.type "dict"),none,.dict #[kE P (.ofString "__module__") 196 (.str (.ofString "kinnames.errors") 187),kE P (.ofString "__firstlineno__") 200 (.int (2) 199),kE P (.ofString "__static_attributes__") 201 (.ref 22),kE P (.ofString "__weakref__") 203 (.ref 25),kE P (.ofString "__doc__") 204 .none] 3,#[]⟩) ::
 (nat_lit 24,⟨(.type "type"),none,.cls ⟨(.ofString "LikeError"),[(.type "ValueError")],[(.ref 24),(.type "ValueError"),(.type "Exception"),(.type "BaseException"),(.type "object")],23,(.ofString "LikeError"),true,[],[(.ref 37),(.ref 49),(.ref 61),(.ref 73),(.ref 85),(.ref 97),(.ref 109)],false,none,false⟩,#[(some (.ref 15)),none,(some (.str (.ofString "LikeError") 189)),(some (.str (.ofString "LikeError") 197)),(some (.builtin "ValueError.__new__")),(some (.bool true))]⟩) ::
 (nat_lit 25,⟨(.type "getset_descriptor"),none,.fields #[(.str (.ofString "__weakref__") 202),(.ref 24),(.builtin "ExceptionGroup.__weakref__"),.none],#[]⟩) ::
 (nat_lit 36,⟨(.type "dict"),none,.dict #[kE P (.ofString "__module__") 214 (.str (.ofString "kinnames.errors") 187),kE P (.ofString "__firstlineno__") 218 (.int (4) 217),kE P (.ofString "__static_attributes__") 219 (.ref 35),kE P (.ofString "__doc__") 220 .none] 2,#[]⟩) ::
 (nat_lit 37,⟨(.type "type"),none,.cls ⟨(.ofString "NoBook"),[(.ref 24)],[(.ref 37),(.ref 24),(.type "ValueError"),(.type "Exception"),(.type "BaseException"),(.type "object")],36,(.ofString "NoBook"),true,[],[],false,none,false⟩,#[(some (.ref 28)),none,(some (.str (.ofString "NoBook") 207)),(some (.str (.ofString "NoBook") 215)),(some (.builtin "ValueError.__new__")),(some (.bool true))]⟩) ::
 (nat_lit 48,⟨(.type "dict"),none,.dict #[kE P (.ofString "__module__") 230 (.str (.ofString "kinnames.errors") 187),kE P (.ofString "__firstlineno__") 234 (.int (6) 233),kE P (.ofString "__static_attributes__") 235 (.ref 47),kE P (.ofString "__doc__") 236 .none] 2,#[]⟩) ::
 (nat_lit 49,⟨(.type "type"),none,.cls ⟨(.ofString "NoOrder"),[(.ref 24)],[(.ref 49),(.ref 24),(.type "ValueError"),(.type "Exception"),(.type "BaseException"),(.type "object")],48,(.ofString "NoOrder"),true,[],[],false,none,false⟩,#[(some (.ref 40)),none,(some (.str (.ofString "NoOrder") 223)),(some (.str (.ofString "NoOrder") 231)),(some (.builtin "ValueError.__new__")),(some (.bool true))]⟩) ::
 (nat_lit 60,⟨(.type "dict"),none,.dict #[kE P (.ofString "__module__") 246 (.str (.ofString "kinnames.errors") 187),kE P (.ofString "__firstlineno__") 250 (.int (8) 249),kE P (.ofString "__static_attributes__") 251 (.ref 59),kE P (.ofString "__doc__") 252 .none] 2,#[]⟩) ::
 (nat_lit 61,⟨(.type "type"),none,.cls ⟨(.ofString "NoName"),[(.ref 24)],[(.ref 61),(.ref 24),(.type "ValueError"),(.type "Exception"),(.type "BaseException"),(.type "object")],60,(.ofString "NoName"),true,[],[],false,none,false⟩,#[(some (.ref 52)),none,(some (.str (.ofString "NoName") 239)),(some (.str (.ofString "NoName") 247)),(some (.builtin "ValueError.__new__")),(some (.bool true))]⟩) ::
 (nat_lit 72,⟨(.type "dict"),none,.dict #[kE P (.ofString "__module__") 262 (.str (.ofString "kinnames.errors") 187),kE P (.ofString "__firstlineno__") 266 (.int (10) 265),kE P (.ofString "__static_attributes__") 267 (.ref 71),kE P (.ofString "__doc__") 268 .none] 2,#[]⟩) ::
 (nat_lit 73,⟨(.type "type"),none,.cls ⟨(.ofString "NoWish"),[(.ref 24)],[(.ref 73),(.ref 24),(.type "ValueError"),(.type "Exception"),(.type "BaseException"),(.type "object")],72,(.ofString "NoWish"),true,[],[],false,none,false⟩,#[(some (.ref 64)),none,(some (.str (.ofString "NoWish") 255)),(some (.str (.ofString "NoWish") 263)),(some (.builtin "ValueError.__new__")),(some (.bool true))]⟩) ::
 (nat_lit 84,⟨(.type "dict"),none,.dict #[kE P (.ofString "__module__") 278 (.str (.ofString "kinnames.errors") 187),kE P (.ofString "__firstlineno__") 282 (.int (12) 281),kE P (.ofString "__static_attributes__") 283 (.ref 83),kE P (.ofString "__doc__") 284 .none] 2,#[]⟩) ::
 (nat_lit 85,⟨(.type "type"),none,.cls ⟨(.ofString "NoNumber"),[(.ref 24)],[(.ref 85),(.ref 24),(.type "ValueError"),(.type "Exception"),(.type "BaseException"),(.type "object")],84,(.ofString "NoNumber"),true,[],[],false,none,false⟩,#[(some (.ref 76)),none,(some (.str (.ofString "NoNumber") 271)),(some (.str (.ofString "NoNumber") 279)),(some (.builtin "ValueError.__new__")),(some (.bool true))]⟩) ::
 (nat_lit 96,⟨(.type "dict"),none,.dict #[kE P (.ofString "__module__") 294 (.str (.ofString "kinnames.errors") 187),kE P (.ofString "__firstlineno__") 298 (.int (14) 297),kE P (.ofString "__static_attributes__") 299 (.ref 95),kE P (.ofString "__doc__") 300 .none] 2,#[]⟩) ::
 (nat_lit 97,⟨(.type "type"),none,.cls ⟨(.ofString "NotMade"),[(.ref 24)],[(.ref 97),(.ref 24),(.type "ValueError"),(.type "Exception"),(.type "BaseException"),(.type "object")],96,(.ofString "NotMade"),true,[],[],false,none,false⟩,#[(some (.ref 88)),none,(some (.str (.ofString "NotMade") 287)),(some (.str (.ofString "NotMade") 295)),(some (.builtin "ValueError.__new__")),(some (.bool true))]⟩) ::
 (nat_lit 108,⟨(.type "dict"),none,.dict #[kE P (.ofString "__module__") 310 (.str (.ofString "kinnames.errors") 187),kE P (.ofString "__firstlineno__") 314 (.int (16) 313),kE P (.ofString "__static_attributes__") 315 (.ref 107),kE P (.ofString "__doc__") 316 .none] 2,#[]⟩) ::
 (nat_lit 109,⟨(.type "type"),none,.cls ⟨(.ofString "TooShort"),[(.ref 24)],[(.ref 109),(.ref 24),(.type "ValueError"),(.type "Exception"),(.type "BaseException"),(.type "object")],108,(.ofString "TooShort"),true,[],[],false,none,false⟩,#[(some (.ref 100)),none,(some (.str (.ofString "TooShort") 303)),(some (.str (.ofString "TooShort") 311)),(some (.builtin "ValueError.__new__")),(some (.bool true))]⟩) ::
 (nat_lit 115,⟨(.type "code"),none,.fields #[(.str (.ofString "is_name") 329),(.str (.ofString "is_name") 330),(.str (.ofString "/claim/cut.py") 331),(.int (23) 0),(.int (1) 0),(.int (0) 0),(.int (0) 0),(.int (3) 0),(.ref 112),(.bool true),(.int (181) 0),(.ref 113),.none,.none,.none,(.ref 114),(.int (332) 0),(.int (23) 0),(.str (.ofString "/claim/cut.py") 333)],#[]⟩) ::
 (nat_lit 116,kF (top 14) (.ofString "is_name") (.ofString "is_name") .none .none .none (.str (.ofString "kinnames.books") 319) none (.ref 115) .none (.type "function") none #[]) ::
 (nat_lit 120,⟨(.type "code"),none,.fields #[(.str (.ofString "is_book") 335),(.str (.ofString "is_book") 336),(.str (.ofString "/claim/cut.py") 337),(.int (27) 0),(.int (1) 0),(.int (0) 0),(.int (0) 0),(.int (3) 0),(.ref 117),(.bool true),(.int (181) 0),(.ref 118),.none,.none,.none,(.ref 119),(.int (338) 0),(.int (27) 0),(.str (.ofString "/claim/cut.py") 339)],#[]⟩) ::
 (nat_lit 121,kF (top 15) (.ofString "is_book") (.ofString "is_book") .none .none .none (.str (.ofString "kinnames.books") 319) none (.ref 120) .none (.type "function") none #[]) ::
 (nat_lit 127,⟨(.type "code"),none,.fields #[(.str (.ofString "is_whole") 341),(.str (.ofString "is_whole") 342),(.str (.ofString "/claim/cut.py") 343),(.int (31) 0),(.int (3) 0),(.int (0) 0),(.int (0) 0),(.int (3) 0),(.ref 122),(.bool true),(.int (181) 0),(.ref 123),.none,(.ref 124),(.ref 125),(.ref 126),(.int (347) 0),(.int (31) 0),(.str (.ofString "/claim/cut.py") 348)],#[]⟩) ::
 (nat_lit 128,kF (top 16) (.ofString "is_whole") (.ofString "is_whole") .none .none .none (.str (.ofString "kinnames.books") 319) none (.ref 127) .none (.type "function") none #[]) ::
 (nat_lit 134,⟨(.type "code"),none,.fields #[(.str (.ofString "is_order") 350),(.str (.ofString "is_order") 351),(.str (.ofString "/claim/cut.py") 352),(.int (35) 0),(.int (1) 0),(.int (0) 0),(.int (0) 0),(.int (3) 0),(.ref 129),(.bool true),(.int (181) 0),(.ref 130),.none,(.ref 131),(.ref 132),(.ref 133),(.int (354) 0),(.int (35) 0),(.str (.ofString "/claim/cut.py") 355)],#[]⟩) ::
 (nat_lit 135,kF (top 17) (.ofString "is_order") (.ofString "is_order") .none .none .none (.str (.ofString "kinnames.books") 319) none (.ref 134) .none (.type "function") none #[]) ::
 (nat_lit 139,⟨(.type "code"),none,.fields #[(.str (.ofString "is_rising") 357),(.str (.ofString "is_rising") 358),(.str (.ofString "/claim/cut.py") 359),(.int (37) 0),(.int (1) 0),(.int (0) 0),(.int (0) 0),(.int (3) 0),(.ref 136),(.bool true),(.int (181) 0),(.ref 137),.none,.none,.none,(.ref 138),(.int (360) 0),(.int (37) 0),(.str (.ofString "/claim/cut.py") 361)],#[]⟩) ::
 (nat_lit 140,kF (top 18) (.ofString "is_rising") (.ofString "is_rising") .none .none .none (.str (.ofString "kinnames.books") 319) none (.ref 139) .none (.type "function") none #[]) ::
 (nat_lit 146,⟨(.type "code"),none,.fields #[(.str (.ofString "need_book") 363),(.str (.ofString "need_book") 364),(.str (.ofString "/claim/cut.py") 365),(.int (39) 0),(.int (1) 0),(.int (0) 0),(.int (0) 0),(.int (3) 0),(.ref 141),(.bool true),(.int (181) 0),(.ref 142),.none,(.ref 143),(.ref 144),(.ref 145),(.int (367) 0),(.int (39) 0),(.str (.ofString "/claim/cut.py") 368)],#[]⟩) ::
 (nat_lit 147,kF (top 19) (.ofString "need_book") (.ofString "need_book") .none .none .none (.str (.ofString "kinnames.books") 319) none (.ref 146) .none (.type "function") none #[]) ::
 (nat_lit 153,⟨(.type "code"),none,.fields #[(.str (.ofString "need_order") 370),(.str (.ofString "need_order") 371),(.str (.ofString "/claim/cut.py") 372),(.int (42) 0),(.int (1) 0),(.int (0) 0),(.int (0) 0),(.int (3) 0),(.ref 148),(.bool true),(.int (181) 0),(.ref 149),.none,(.ref 150),(.ref 151),(.ref 152),(.int (374) 0),(.int (42) 0),(.str (.ofString "/claim/cut.py") 375)],#[]⟩) ::
 (nat_lit 154,kF (top 20) (.ofString "need_order") (.ofString "need_order") .none .none .none (.str (.ofString "kinnames.books") 319) none (.ref 153) .none (.type "function") none #[]) ::
 (nat_lit 160,⟨(.type "code"),none,.fields #[(.str (.ofString "need_name") 377),(.str (.ofString "need_name") 378),(.str (.ofString "/claim/cut.py") 379),(.int (45) 0),(.int (1) 0),(.int (0) 0),(.int (0) 0),(.int (3) 0),(.ref 155),(.bool true),(.int (181) 0),(.ref 156),.none,(.ref 157),(.ref 158),(.ref 159),(.int (381) 0),(.int (45) 0),(.str (.ofString "/claim/cut.py") 382)],#[]⟩) ::
 (nat_lit 161,kF (top 21) (.ofString "need_name") (.ofString "need_name") .none .none .none (.str (.ofString "kinnames.books") 319) none (.ref 160) .none (.type "function") none #[]) ::
 (nat_lit 167,⟨(.type "code"),none,.fields #[(.str (.ofString "need_name_or_empty") 384),(.str (.ofString "need_name_or_empty") 385),(.str (.ofString "/claim/cut.py") 386),(.int (48) 0),(.int (1) 0),(.int (0) 0),(.int (0) 0),(.int (3) 0),(.ref 162),(.bool true),(.int (181) 0),(.ref 163),.none,(.ref 164),(.ref 165),(.ref 166),(.int (388) 0),(.int (48) 0),(.str (.ofString "/claim/cut.py") 389)],#[]⟩) ::
 (nat_lit 168,kF (top 22) (.ofString "need_name_or_empty") (.ofString "need_name_or_empty") .none .none .none (.str (.ofString "kinnames.books") 319) none (.ref 167) .none (.type "function") none #[]) ::
 (nat_lit 174,⟨(.type "code"),none,.fields #[(.str (.ofString "end_of") 391),(.str (.ofString "end_of") 392),(.str (.ofString "/claim/cut.py") 393),(.int (51) 0),(.int (2) 0),(.int (0) 0),(.int (0) 0),(.int (3) 0),(.ref 169),(.bool true),(.int (181) 0),(.ref 170),.none,(.ref 171),(.ref 172),(.ref 173),(.int (396) 0),(.int (51) 0),(.str (.ofString "/claim/cut.py") 397)],#[]⟩) ::
 (nat_lit 175,kF (top 23) (.ofString "end_of") (.ofString "end_of") .none .none .none (.str (.ofString "kinnames.books") 319) none (.ref 174) .none (.type "function") none #[]) ::
 (nat_lit 179,⟨(.type "code"),none,.fields #[(.str (.ofString "ends_and_letters") 399),(.str (.ofString "ends_and_letters") 400),(.str (.ofString "/claim/cut.py") 401),(.int (53) 0),(.int (2) 0),(.int (0) 0),(.int (0) 0),(.int (3) 0),(.ref 176),(.bool true),(.int (181) 0),(.ref 177),.none,.none,.none,(.ref 178),(.int (402) 0),(.int (53) 0),(.str (.ofString "/claim/cut.py") 403)],#[]⟩) ::
 (nat_lit 180,kF (top 24) (.ofString "ends_and_letters") (.ofString "ends_and_letters") .none .none .none (.str (.ofString "kinnames.books") 319) none (.ref 179) .none (.type "function") none #[]) ::
 (nat_lit 186,⟨(.type "code"),none,.fields #[(.str (.ofString "counted_rows") 405),(.str (.ofString "counted_rows") 406),(.str (.ofString "/claim/cut.py") 407),(.int (55) 0),(.int (2) 0),(.int (0) 0),(.int (0) 0),(.int (3) 0),(.ref 181),(.bool true),(.int (181) 0),(.ref 182),.none,(.ref 183),(.ref 184),(.ref 185),(.int (415) 0),(.int (55) 0),(.str (.ofString "/claim/cut.py") 416)],#[]⟩) ::
 (nat_lit 187,kF (top 25) (.ofString "counted_rows") (.ofString "counted_rows") .none .none .none (.str (.ofString "kinnames.books") 319) none (.ref 186) .none (.type "function") none #[]) ::
 (nat_lit 193,⟨(.type "code"),none,.fields #[(.str (.ofString "behind") 418),(.str (.ofString "behind") 419),(.str (.ofString "/claim/cut.py") 420),(.int (62) 0),(.int (3) 0),(.int (0) 0),(.int (0) 0),(.int (3) 0),(.ref 188),(.bool true),(.int (181) 0),(.ref 189),.none,(.ref 190),(.ref 191),(.ref 192),(.int (425) 0),(.int (62) 0),(.str (.ofString "/claim/cut.py") 426)],#[]⟩) ::
 (nat_lit 194,kF (top 26) (.ofString "behind") (.ofString "behind") .none .none .none (.str (.ofString "kinnames.books") 319) none (.ref 193) .none (.type "function") none #[]) ::
 (nat_lit 195,⟨(.type "tuple"),none,.seq #[(.int (0) 430),(.int (1) 431)] 0,#[]⟩) ::
 (nat_lit 196,⟨(.type "tuple"),none,.seq #[(.int (1) 433),(.int (1) 434)] 0,#[]⟩) ::
 (nat_lit 202,⟨(.type "code"),none,.fields #[(.str (.ofString "greatest_divisor") 436),(.str (.ofString "greatest_divisor") 437),(.str (.ofString "/claim/cut.py") 438),(.int (71) 0),(.int (2) 0),(.int (0) 0),(.int (0) 0),(.int (3) 0),(.ref 197),(.bool true),(.int (181) 0),(.ref 198),.none,(.ref 199),(.ref 200),(.ref 201),(.int (442) 0),(.int (71) 0),(.str (.ofString "/claim/cut.py") 443)],#[]⟩) ::
 (nat_lit 203,kF (top 30) (.ofString "greatest_divisor") (.ofString "greatest_divisor") .none .none .none (.str (.ofString "kinnames.shares") 428) none (.ref 202) .none (.type "function") none #[]) ::
 (nat_lit 209,⟨(.type "code"),none,.fields #[(.str (.ofString "lowest") 445),(.str (.ofString "lowest") 446),(.str (.ofString "/claim/cut.py") 447),(.int (77) 0),(.int (2) 0),(.int (0) 0),(.int (0) 0),(.int (3) 0),(.ref 204),(.bool true),(.int (181) 0),(.ref 205),.none,(.ref 206),(.ref 207),(.ref 208),(.int (451) 0),(.int (77) 0),(.str (.ofString "/claim/cut.py") 452)],#[]⟩) ::
 (nat_lit 210,kF (top 31) (.ofString "lowest") (.ofString "lowest") .none .none .none (.str (.ofString "kinnames.shares") 428) none (.ref 209) .none (.type "function") none #[]) ::
 (nat_lit 216,⟨(.type "code"),none,.fields #[(.str (.ofString "times") 454),(.str (.ofString "times") 455),(.str (.ofString "/claim/cut.py") 456),(.int (80) 0),(.int (2) 0),(.int (0) 0),(.int (0) 0),(.int (3) 0),(.ref 211),(.bool true),(.int (181) 0),(.ref 212),.none,(.ref 213),(.ref 214),(.ref 215),(.int (459) 0),(.int (80) 0),(.str (.ofString "/claim/cut.py") 460)],#[]⟩) ::
 (nat_lit 217,kF (top 32) (.ofString "times") (.ofString "times") .none .none .none (.str (.ofString "kinnames.shares") 428) none (.ref 216) .none (.type "function") none #[]) ::
 (nat_lit 223,⟨(.type "code"),none,.fields #[(.str (.ofString "is_less") 462),(.str (.ofString "is_less") 463),(.str (.ofString "/claim/cut.py") 464),(.int (82) 0),(.int (2) 0),(.int (0) 0),(.int (0) 0),(.int (3) 0),(.ref 218),(.bool true),(.int (181) 0),(.ref 219),.none,(.ref 220),(.ref 221),(.ref 222),(.int (467) 0),(.int (82) 0),(.str (.ofString "/claim/cut.py") 468)],#[]⟩) ::
 (nat_lit 224,kF (top 33) (.ofString "is_less") (.ofString "is_less") .none .none .none (.str (.ofString "kinnames.shares") 428) none (.ref 223) .none (.type "function") none #[]) ::
 (nat_lit 230,⟨(.type "code"),none,.fields #[(.str (.ofString "part_in") 470),(.str (.ofString "part_in") 471),(.str (.ofString "/claim/cut.py") 472),(.int (84) 0),(.int (2) 0),(.int (0) 0),(.int (0) 0),(.int (3) 0),(.ref 225),(.bool true),(.int (181) 0),(.ref 226),.none,(.ref 227),(.ref 228),(.ref 229),(.int (475) 0),(.int (84) 0),(.str (.ofString "/claim/cut.py") 476)],#[]⟩) ::
 (nat_lit 231,kF (top 34) (.ofString "part_in") (.ofString "part_in") .none .none .none (.str (.ofString "kinnames.shares") 428) none (.ref 230) .none (.type "function") none #[]) ::
 (nat_lit 235,⟨(.type "code"),none,.fields #[(.str (.ofString "steps_by_rows") 478),(.str (.ofString "steps_by_rows") 479),(.str (.ofString "/claim/cut.py") 480),(.int (88) 0),(.int (3) 0),(.int (0) 0),(.int (0) 0),(.int (3) 0),(.ref 232),(.bool true),(.int (181) 0),(.ref 233),.none,.none,.none,(.ref 234),(.int (481) 0),(.int (88) 0),(.str (.ofString "/claim/cut.py") 482)],#[]⟩) ::
 (nat_lit 236,kF (top 35) (.ofString "steps_by_rows") (.ofString "steps_by_rows") .none .none .none (.str (.ofString "kinnames.shares") 428) none (.ref 235) .none (.type "function") none #[]) ::
 (nat_lit 242,⟨(.type "code"),none,.fields #[(.str (.ofString "share_by_rows") 484),(.str (.ofString "share_by_rows") 485),(.str (.ofString "/claim/cut.py") 486),(.int (90) 0),(.int (3) 0),(.int (0) 0),(.int (0) 0),(.int (3) 0),(.ref 237),(.bool true),(.int (181) 0),(.ref 238),.none,(.ref 239),(.ref 240),(.ref 241),(.int (492) 0),(.int (90) 0),(.str (.ofString "/claim/cut.py") 493)],#[]⟩) ::
 (nat_lit 243,kF (top 36) (.ofString "share_by_rows") (.ofString "share_by_rows") .none .none .none (.str (.ofString "kinnames.shares") 428) none (.ref 242) .none (.type "function") none #[]) ::
 (nat_lit 249,⟨(.type "code"),none,.fields #[(.str (.ofString "share") 495),(.str (.ofString "share") 496),(.str (.ofString "/claim/cut.py") 497),(.int (95) 0),(.int (3) 0),(.int (0) 0),(.int (0) 0),(.int (3) 0),(.ref 244),(.bool true),(.int (181) 0),(.ref 245),.none,(.ref 246),(.ref 247),(.ref 248),(.int (501) 0),(.int (95) 0),(.str (.ofString "/claim/cut.py") 502)],#[]⟩) ::
 (nat_lit 250,kF (top 37) (.ofString "share") (.ofString "share") .none .none .none (.str (.ofString "kinnames.shares") 428) none (.ref 249) .none (.type "function") none #[]) ::
 (nat_lit 256,⟨(.type "code"),none,.fields #[(.str (.ofString "makes") 504),(.str (.ofString "makes") 505),(.str (.ofString "/claim/cut.py") 506),(.int (100) 0),(.int (3) 0),(.int (0) 0),(.int (0) 0),(.int (3) 0),(.ref 251),(.bool true),(.int (181) 0),(.ref 252),.none,(.ref 253),(.ref 254),(.ref 255),(.int (510) 0),(.int (100) 0),(.str (.ofString "/claim/cut.py") 511)],#[]⟩) ::
 (nat_lit 257,kF (top 38) (.ofString "makes") (.ofString "makes") .none .none .none (.str (.ofString "kinnames.shares") 428) none (.ref 256) .none (.type "function") none #[]) ::
 (nat_lit 263,⟨(.type "code"),none,.fields #[(.str (.ofString "is_edge") 533),(.str (.ofString "is_edge") 534),(.str (.ofString "/claim/cut.py") 535),(.int (112) 0),(.int (1) 0),(.int (0) 0),(.int (0) 0),(.int (3) 0),(.ref 258),(.bool true),(.int (181) 0),(.ref 259),.none,(.ref 260),(.ref 261),(.ref 262),(.int (537) 0),(.int (112) 0),(.str (.ofString "/claim/cut.py") 538)],#[]⟩) ::
 (nat_lit 264,kF (top 49) (.ofString "is_edge") (.ofString "is_edge") .none .none .none (.str (.ofString "kinnames.wishes") 513) none (.ref 263) .none (.type "function") none #[]) ::
 (nat_lit 268,⟨(.type "code"),none,.fields #[(.str (.ofString "is_barred") 540),(.str (.ofString "is_barred") 541),(.str (.ofString "/claim/cut.py") 542),(.int (114) 0),(.int (1) 0),(.int (0) 0),(.int (0) 0),(.int (3) 0),(.ref 265),(.bool true),(.int (181) 0),(.ref 266),.none,.none,.none,(.ref 267),(.int (543) 0),(.int (114) 0),(.str (.ofString "/claim/cut.py") 544)],#[]⟩) ::
 (nat_lit 269,kF (top 50) (.ofString "is_barred") (.ofString "is_barred") .none .none .none (.str (.ofString "kinnames.wishes") 513) none (.ref 268) .none (.type "function") none #[]) ::
 (nat_lit 275,⟨(.type "code"),none,.fields #[(.str (.ofString "is_wish") 546),(.str (.ofString "is_wish") 547),(.str (.ofString "/claim/cut.py") 548),(.int (118) 0),(.int (1) 0),(.int (0) 0),(.int (0) 0),(.int (3) 0),(.ref 270),(.bool true),(.int (181) 0),(.ref 271),.none,(.ref 272),(.ref 273),(.ref 274),(.int (550) 0),(.int (118) 0),(.str (.ofString "/claim/cut.py") 551)],#[]⟩) ::
 (nat_lit 276,kF (top 51) (.ofString "is_wish") (.ofString "is_wish") .none .none .none (.str (.ofString "kinnames.wishes") 513) none (.ref 275) .none (.type "function") none #[]) ::
 (nat_lit 282,⟨(.type "code"),none,.fields #[(.str (.ofString "need_wish") 553),(.str (.ofString "need_wish") 554),(.str (.ofString "/claim/cut.py") 555),(.int (126) 0),(.int (1) 0),(.int (0) 0),(.int (0) 0),(.int (3) 0),(.ref 277),(.bool true),(.int (181) 0),(.ref 278),.none,(.ref 279),(.ref 280),(.ref 281),(.int (557) 0),(.int (126) 0),(.str (.ofString "/claim/cut.py") 558)],#[]⟩) ::
 (nat_lit 283,kF (top 52) (.ofString "need_wish") (.ofString "need_wish") .none .none .none (.str (.ofString "kinnames.wishes") 513) none (.ref 282) .none (.type "function") none #[]) ::
 (nat_lit 289,⟨(.type "code"),none,.fields #[(.str (.ofString "has_form") 560),(.str (.ofString "has_form") 561),(.str (.ofString "/claim/cut.py") 562),(.int (129) 0),(.int (2) 0),(.int (0) 0),(.int (0) 0),(.int (3) 0),(.ref 284),(.bool true),(.int (181) 0),(.ref 285),.none,(.ref 286),(.ref 287),(.ref 288),(.int (565) 0),(.int (129) 0),(.str (.ofString "/claim/cut.py") 566)],#[]⟩) ::
 (nat_lit 290,kF (top 53) (.ofString "has_form") (.ofString "has_form") .none .none .none (.str (.ofString "kinnames.wishes") 513) none (.ref 289) .none (.type "function") none #[]) ::
 (nat_lit 296,⟨(.type "code"),none,.fields #[(.str (.ofString "left_out") 568),(.str (.ofString "left_out") 569),(.str (.ofString "/claim/cut.py") 570),(.int (133) 0),(.int (2) 0),(.int (0) 0),(.int (0) 0),(.int (3) 0),(.ref 291),(.bool true),(.int (181) 0),(.ref 292),.none,(.ref 293),(.ref 294),(.ref 295),(.int (573) 0),(.int (133) 0),(.str (.ofString "/claim/cut.py") 574)],#[]⟩) ::
 (nat_lit 297,kF (top 54) (.ofString "left_out") (.ofString "left_out") .none .none .none (.str (.ofString "kinnames.wishes") 513) none (.ref 296) .none (.type "function") none #[]) ::
 (nat_lit 303,⟨(.type "code"),none,.fields #[(.str (.ofString "fits") 576),(.str (.ofString "fits") 577),(.str (.ofString "/claim/cut.py") 578),(.int (137) 0),(.int (3) 0),(.int (0) 0),(.int (0) 0),(.int (3) 0),(.ref 298),(.bool true),(.int (181) 0),(.ref 299),.none,(.ref 300),(.ref 301),(.ref 302),(.int (582) 0),(.int (137) 0),(.str (.ofString "/claim/cut.py") 583)],#[]⟩) ::
 (nat_lit 304,kF (top 55) (.ofString "fits") (.ofString "fits") .none .none .none (.str (.ofString "kinnames.wishes") 513) none (.ref 303) .none (.type "function") none #[]) ::
 (nat_lit 308,⟨(.type "code"),none,.fields #[(.str (.ofString "are_numbers") 591),(.str (.ofString "are_numbers") 592),(.str (.ofString "/claim/cut.py") 593),(.int (145) 0),(.int (1) 0),(.int (0) 0),(.int (0) 0),(.int (3) 0),(.ref 305),(.bool true),(.int (181) 0),(.ref 306),.none,.none,.none,(.ref 307),(.int (594) 0),(.int (145) 0),(.str (.ofString "/claim/cut.py") 595)],#[]⟩) ::
 (nat_lit 309,kF (top 59) (.ofString "are_numbers") (.ofString "are_numbers") .none .none .none (.str (.ofString "kinnames.drawing") 585) none (.ref 308) .none (.type "function") none #[]) ::
 (nat_lit 315,⟨(.type "code"),none,.fields #[(.str (.ofString "need_numbers") 597),(.str (.ofString "need_numbers") 598),(.str (.ofString "/claim/cut.py") 599),(.int (149) 0),(.int (1) 0),(.int (0) 0),(.int (0) 0),(.int (3) 0),(.ref 310),(.bool true),(.int (181) 0),(.ref 311),.none,(.ref 312),(.ref 313),(.ref 314),(.int (601) 0),(.int (149) 0),(.str (.ofString "/claim/cut.py") 602)],#[]⟩) ::
 (nat_lit 316,kF (top 60) (.ofString "need_numbers") (.ofString "need_numbers") .none .none .none (.str (.ofString "kinnames.drawing") 585) none (.ref 315) .none (.type "function") none #[]) ::
 (nat_lit 322,⟨(.type "code"),none,.fields #[(.str (.ofString "pot_of") 604),(.str (.ofString "pot_of") 605),(.str (.ofString "/claim/cut.py") 606),(.int (152) 0),(.int (1) 0),(.int (0) 0),(.int (0) 0),(.int (3) 0),(.ref 317),(.bool true),(.int (181) 0),(.ref 318),.none,(.ref 319),(.ref 320),(.ref 321),(.int (610) 0),(.int (152) 0),(.str (.ofString "/claim/cut.py") 611)],#[]⟩) ::
 (nat_lit 323,kF (top 61) (.ofString "pot_of") (.ofString "pot_of") .none .none .none (.str (.ofString "kinnames.drawing") 585) none (.ref 322) .none (.type "function") none #[]) ::
 (nat_lit 327,⟨(.type "code"),none,.fields #[(.str (.ofString "pots_by_end") 613),(.str (.ofString "pots_by_end") 614),(.str (.ofString "/claim/cut.py") 615),(.int (157) 0),(.int (2) 0),(.int (0) 0),(.int (0) 0),(.int (3) 0),(.ref 324),(.bool true),(.int (181) 0),(.ref 325),.none,.none,.none,(.ref 326),(.int (616) 0),(.int (157) 0),(.str (.ofString "/claim/cut.py") 617)],#[]⟩) ::
 (nat_lit 328,kF (top 62) (.ofString "pots_by_end") (.ofString "pots_by_end") .none .none .none (.str (.ofString "kinnames.drawing") 585) none (.ref 327) .none (.type "function") none #[]) ::
 (nat_lit 334,⟨(.type "code"),none,.fields #[(.str (.ofString "drawn_from") 619),(.str (.ofString "drawn_from") 620),(.str (.ofString "/claim/cut.py") 621),(.int (159) 0),(.int (4) 0),(.int (0) 0),(.int (0) 0),(.int (3) 0),(.ref 329),(.bool true),(.int (181) 0),(.ref 330),.none,(.ref 331),(.ref 332),(.ref 333),(.int (630) 0),(.int (159) 0),(.str (.ofString "/claim/cut.py") 631)],#[]⟩) ::
 (nat_lit 335,kF (top 63) (.ofString "drawn_from") (.ofString "drawn_from") .none .none .none (.str (.ofString "kinnames.drawing") 585) none (.ref 334) .none (.type "function") none #[]) ::
 (nat_lit 341,⟨(.type "code"),none,.fields #[(.str (.ofString "drawn") 633),(.str (.ofString "drawn") 634),(.str (.ofString "/claim/cut.py") 635),(.int (168) 0),(.int (3) 0),(.int (0) 0),(.int (0) 0),(.int (3) 0),(.ref 336),(.bool true),(.int (181) 0),(.ref 337),.none,(.ref 338),(.ref 339),(.ref 340),(.int (639) 0),(.int (168) 0),(.str (.ofString "/claim/cut.py") 640)],#[]⟩) ::
 (nat_lit 342,kF (top 64) (.ofString "drawn") (.ofString "drawn") .none .none .none (.str (.ofString "kinnames.drawing") 585) none (.ref 341) .none (.type "function") none #[]) ::
 (nat_lit 348,⟨(.type "code"),none,.fields #[(.str (.ofString "first_drawn") 642),(.str (.ofString "first_drawn") 643),(.str (.ofString "/claim/cut.py") 644),(.int (173) 0),(.int (5) 0),(.int (0) 0),(.int (0) 0),(.int (3) 0),(.ref 343),(.bool true),(.int (181) 0),(.ref 344),.none,(.ref 345),(.ref 346),(.ref 347),(.int (652) 0),(.int (173) 0),(.str (.ofString "/claim/cut.py") 653)],#[]⟩) ::
 (nat_lit 349,kF (top 65) (.ofString "first_drawn") (.ofString "first_drawn") .none .none .none (.str (.ofString "kinnames.drawing") 585) none (.ref 348) .none (.type "function") none #[]) ::
 (nat_lit 355,⟨(.type "code"),none,.fields #[(.str (.ofString "drawn_fitting") 655),(.str (.ofString "drawn_fitting") 656),(.str (.ofString "/claim/cut.py") 657),(.int (179) 0),(.int (4) 0),(.int (0) 0),(.int (0) 0),(.int (3) 0),(.ref 350),(.bool true),(.int (181) 0),(.ref 351),.none,(.ref 352),(.ref 353),(.ref 354),(.int (662) 0),(.int (179) 0),(.str (.ofString "/claim/cut.py") 663)],#[]⟩) ::
 (nat_lit 356,kF (top 66) (.ofString "drawn_fitting") (.ofString "drawn_fitting") .none .none .none (.str (.ofString "kinnames.drawing") 585) none (.ref 355) .none (.type "function") none #[]) ::
 (nat_lit 362,⟨(.type "code"),none,.fields #[(.str (.ofString "numbers_for") 665),(.str (.ofString "numbers_for") 666),(.str (.ofString "/claim/cut.py") 667),(.int (185) 0),(.int (3) 0),(.int (0) 0),(.int (0) 0),(.int (3) 0),(.ref 357),(.bool true),(.int (181) 0),(.ref 358),.none,(.ref 359),(.ref 360),(.ref 361),(.int (675) 0),(.int (185) 0),(.str (.ofString "/claim/cut.py") 676)],#[]⟩) ::
 (nat_lit 363,kF (top 67) (.ofString "numbers_for") (.ofString "numbers_for") .none .none .none (.str (.ofString "kinnames.drawing") 585) none (.ref 362) .none (.type "function") none #[]) ::
 (nat_lit 369,⟨(.type "code"),none,.fields #[(.str (.ofString "_law_cell") 680),(.str (.ofString "_law_cell") 681),(.str (.ofString "/claim/cut.py") 682),(.int (197) 0),(.int (2) 0),(.int (0) 0),(.int (0) 0),(.int (3) 0),(.ref 364),(.bool true),(.int (181) 0),(.ref 365),.none,(.ref 366),(.ref 367),(.ref 368),(.int (685) 0),(.int (197) 0),(.str (.ofString "/claim/cut.py") 686)],#[]⟩) ::
 (nat_lit 370,kF (top 69) (.ofString "_law_cell") (.ofString "_law_cell") .none .none .none (.str (.ofString "law_kinnames_k41_whole_drawing") 678) none (.ref 369) .none (.type "function") none #[]) ::
 (nat_lit 376,⟨(.type "code"),none,.fields #[(.str (.ofString "_law_drawn") 688),(.str (.ofString "_law_drawn") 689),(.str (.ofString "/claim/cut.py") 690),(.int (201) 0),(.int (3) 0),(.int (0) 0),(.int (0) 0),(.int (3) 0),(.ref 371),(.bool true),(.int (181) 0),(.ref 372),.none,(.ref 373),(.ref 374),(.ref 375),(.int (695) 0),(.int (201) 0),(.str (.ofString "/claim/cut.py") 696)],#[]⟩) ::
 (nat_lit 377,kF (top 70) (.ofString "_law_drawn") (.ofString "_law_drawn") .none .none .none (.str (.ofString "law_kinnames_k41_whole_drawing") 678) none (.ref 376) .none (.type "function") none #[]) ::
 (nat_lit 381,⟨(.type "code"),none,.fields #[(.str (.ofString "_law_name") 698),(.str (.ofString "_law_name") 699),(.str (.ofString "/claim/cut.py") 700),(.int (205) 0),(.int (3) 0),(.int (0) 0),(.int (0) 0),(.int (3) 0),(.ref 378),(.bool true),(.int (181) 0),(.ref 379),.none,.none,.none,(.ref 380),(.int (701) 0),(.int (205) 0),(.str (.ofString "/claim/cut.py") 702)],#[]⟩) ::
 (nat_lit 382,kF (top 71) (.ofString "_law_name") (.ofString "_law_name") .none .none .none (.str (.ofString "law_kinnames_k41_whole_drawing") 678) none (.ref 381) .none (.type "function") none #[]) ::
 (nat_lit 388,⟨(.type "code"),none,.fields #[(.str (.ofString "_law_book") 704),(.str (.ofString "_law_book") 705),(.str (.ofString "/claim/cut.py") 706),(.int (209) 0),(.int (4) 0),(.int (0) 0),(.int (0) 0),(.int (3) 0),(.ref 383),(.bool true),(.int (181) 0),(.ref 384),.none,(.ref 385),(.ref 386),(.ref 387),(.int (713) 0),(.int (209) 0),(.str (.ofString "/claim/cut.py") 714)],#[]⟩) ::
 (nat_lit 389,kF (top 72) (.ofString "_law_book") (.ofString "_law_book") .none .none .none (.str (.ofString "law_kinnames_k41_whole_drawing") 678) none (.ref 388) .none (.type "function") none #[]) ::
 (nat_lit 395,⟨(.type "code"),none,.fields #[(.str (.ofString "_law_wish") 716),(.str (.ofString "_law_wish") 717),(.str (.ofString "/claim/cut.py") 718),(.int (214) 0),(.int (2) 0),(.int (0) 0),(.int (0) 0),(.int (3) 0),(.ref 390),(.bool true),(.int (181) 0),(.ref 391),.none,(.ref 392),(.ref 393),(.ref 394),(.int (728) 0),(.int (214) 0),(.str (.ofString "/claim/cut.py") 729)],#[]⟩) ::
 (nat_lit 396,kF (top 73) (.ofString "_law_wish") (.ofString "_law_wish") .none .none .none (.str (.ofString "law_kinnames_k41_whole_drawing") 678) none (.ref 395) .none (.type "function") none #[]) ::
 (nat_lit 409,⟨(.type "code"),none,.fields #[(.str (.ofString "_law_text") 740),(.str (.ofString "_law_text") 741),(.str (.ofString "/claim/cut.py") 742),(.int (230) 0),(.int (3) 0),(.int (0) 0),(.int (0) 0),(.int (3) 0),(.ref 404),(.bool true),(.int (181) 0),(.ref 405),.none,(.ref 406),(.ref 407),(.ref 408),(.int (746) 0),(.int (230) 0),(.str (.ofString "/claim/cut.py") 747)],#[]⟩) ::
 (nat_lit 410,kF (top 75) (.ofString "_law_text") (.ofString "_law_text") .none .none .none (.str (.ofString "law_kinnames_k41_whole_drawing") 678) none (.ref 409) .none (.type "function") none #[]) ::
 (nat_lit 416,⟨(.type "code"),none,.fields #[(.str (.ofString "_law_fitting") 749),(.str (.ofString "_law_fitting") 750),(.str (.ofString "/claim/cut.py") 751),(.int (235) 0),(.int (4) 0),(.int (0) 0),(.int (0) 0),(.int (3) 0),(.ref 411),(.bool true),(.int (181) 0),(.ref 412),.none,(.ref 413),(.ref 414),(.ref 415),(.int (756) 0),(.int (235) 0),(.str (.ofString "/claim/cut.py") 757)],#[]⟩) ::
 (nat_lit 417,kF (top 76) (.ofString "_law_fitting") (.ofString "_law_fitting") .none .none .none (.str (.ofString "law_kinnames_k41_whole_drawing") 678) none (.ref 416) .none (.type "function") none #[]) ::
 (nat_lit 421,⟨(.type "code"),none,.fields #[(.str (.ofString "_law_picks_fit") 759),(.str (.ofString "_law_picks_fit") 760),(.str (.ofString "/claim/cut.py") 761),(.int (240) 0),(.int (2) 0),(.int (0) 0),(.int (0) 0),(.int (3) 0),(.ref 418),(.bool true),(.int (181) 0),(.ref 419),.none,.none,.none,(.ref 420),(.int (762) 0),(.int (240) 0),(.str (.ofString "/claim/cut.py") 763)],#[]⟩) ::
 (nat_lit 422,kF (top 77) (.ofString "_law_picks_fit") (.ofString "_law_picks_fit") .none .none .none (.str (.ofString "law_kinnames_k41_whole_drawing") 678) none (.ref 421) .none (.type "function") none #[]) ::
 (nat_lit 426,⟨(.type "code"),none,.fields #[(.str (.ofString "_law_drawn_well") 765),(.str (.ofString "_law_drawn_well") 766),(.str (.ofString "/claim/cut.py") 767),(.int (248) 0),(.int (4) 0),(.int (0) 0),(.int (0) 0),(.int (3) 0),(.ref 423),(.bool true),(.int (181) 0),(.ref 424),.none,.none,.none,(.ref 425),(.int (768) 0),(.int (248) 0),(.str (.ofString "/claim/cut.py") 769)],#[]⟩) ::
 (nat_lit 427,kF (top 78) (.ofString "_law_drawn_well") (.ofString "_law_drawn_well") .none .none .none (.str (.ofString "law_kinnames_k41_whole_drawing") 678) none (.ref 426) .none (.type "function") none #[]) ::
 (nat_lit 431,⟨(.type "code"),none,.fields #[(.str (.ofString "law") 771),(.str (.ofString "law") 772),(.str (.ofString "/claim/cut.py") 773),(.int (259) 0),(.int (1) 0),(.int (0) 0),(.int (0) 0),(.int (3) 0),(.ref 428),(.bool true),(.int (181) 0),(.ref 429),.none,.none,.none,(.ref 430),(.int (774) 0),(.int (259) 0),(.str (.ofString "/claim/cut.py") 775)],#[]⟩) ::
 (nat_lit 432,kF (top 79) (.ofString "law") (.ofString "law") .none .none .none (.str (.ofString "law_kinnames_k41_whole_drawing") 678) none (.ref 431) .none (.type "function") none #[])::[]
def kas:List Addr:=[2,3,23,24,25,36,37,48,49,60,61,72,73,84,85,96,97,108,109,115,116,120,121,127,128,134,135,139,140,146,147,153,154,160,161,167,168,174,175,179,180,186,187,193,194,195,196,202,203,209,210,216,217,223,224,230,231,235,236,242,243,249,250,256,257,263,264,268,269,275,276,282,283,289,290,296,297,303,304,308,309,315,316,322,323,327,328,334,335,341,342,348,349,355,356,362,363,369,370,376,377,381,382,388,389,395,396,409,410,416,417,421,422,426,427,431,432]
def kq:Program:=view PySem.Challenge.pw_kinnames_k41_whole_drawing [1,2,3,4,5,6,7,8,10,11,12,13,14,15,16,17,18,19,20,21,22,23,24,25,26,28,29,30,31,32,33,34,35,36,37,38,40,41,42,43,44,45,46,47,48,49,50,51,52,53,54,55,57,58,59,60,61,62,63,64,65,66,67,69,70,71,72,73,74,75,76,77,78,79]
def klo:List Str:=[]
theorem kas_e:∀ P,kas=(kfr P).map (·.1):=fun _=>by kernel_rfl
noncomputable def hl0 (w:World):=(openEndsT treeTable PySem.Challenge.pw_kinnames_k41_whole_drawing w 6838).map (fun s=>(seen ((recsOf kq).map (·.name)) (ownsOf kq) [] { s with gens:=#[] },s.heap.bltView))
noncomputable def hr0 (w:World):=some (expectedOf kq,bltViewBooted)
theorem hl0_e:hl0=hl0:=rfl
theorem hr0_e:hr0=hr0:=rfl
noncomputable def hl1 (w:World):=(openEndsT treeTable PySem.Challenge.pw_kinnames_k41_whole_drawing w 6838).map (fun s=>((s.heap.keysOk (looseW kq klo) ((recsOf kq).map (·.name)) ((litsOf kq).map (·.1)) ((clssOf kq (looseW kq klo)).map (·.name)) && s.heap.accountedOkI (importedModules PySem.Challenge.pw_kinnames_k41_whole_drawing.main.body) && s.heap.isNs mainGlobals && s.heap.isNs builtinsNs && tablesOk kq s.heap && (xlAt kq [] s && recOk [] s) && (if true=true then s.gens.size == 0 else !leftWithCleanup s.gens))))
noncomputable def hr1 (w:World):=some (true)
theorem hl1_e:hl1=hl1:=rfl
noncomputable def hl2 (w:World):=(openEndsT treeTable PySem.Challenge.pw_kinnames_k41_whole_drawing w 6838).map (fun s=>(tabsOk kq s,pinSeenD kq (drecsOf kq) s,plainSeenE kq (looseW kq klo) s,plainSeenD kq klo s))
noncomputable def hr2 (w:World):=some (true,pinGoodD (drecsOf kq),plainGoodE kq (looseW kq klo),plainGoodD kq klo)
theorem hl2_e:hl2=hl2:=rfl
theorem hr2_e:hr2=hr2:=rfl
noncomputable def hl3 (w:World):=(openEndsT treeTable PySem.Challenge.pw_kinnames_k41_whole_drawing w 6838).map (fun s=>(wideSeen kq s,clsSeenW kq klo s))
noncomputable def hr3 (w:World):=some (wideGood kq,clsGoodW kq klo)
theorem hl3_e:hl3=hl3:=rfl
theorem hr3_e:hr3=hr3:=rfl
noncomputable def hl4 (w:World):=(openEndsT treeTable PySem.Challenge.pw_kinnames_k41_whole_drawing w 6838).map (fun s=>(kas.map s.heap.get?))
noncomputable def hr4 (w:World):=some ((kfr w.params).map fun p=>some p.2)
theorem hl4_e:hl4=hl4:=rfl
theorem hr4_e:hr4=hr4:=rfl
end Kn
name_quick hl0Q for Kn.hl0 by Kn.hl0_e
name_quick hr0Q for Kn.hr0 by Kn.hr0_e
theorem Kn.hq0 (w:World):PySem.W.Fast.hl0Q w=PySem.W.Fast.hr0Q w:=by kernel_rfl
theorem Kn.hx0 (w:World):Kn.hl0 w=Kn.hr0 w:=((congrFun PySem.W.Fast.hl0Q_eq w).trans (Kn.hq0 w)).trans (congrFun PySem.W.Fast.hr0Q_eq w).symm
name_quick hl1Q for Kn.hl1 by Kn.hl1_e
theorem Kn.hq1 (w:World):PySem.W.Fast.hl1Q w=Kn.hr1 w:=by kernel_rfl
theorem Kn.hx1 (w:World):Kn.hl1 w=Kn.hr1 w:=(congrFun PySem.W.Fast.hl1Q_eq w).trans (Kn.hq1 w)
name_quick hl2Q for Kn.hl2 by Kn.hl2_e
name_quick hr2Q for Kn.hr2 by Kn.hr2_e
theorem Kn.hq2 (w:World):PySem.W.Fast.hl2Q w=PySem.W.Fast.hr2Q w:=by kernel_rfl
theorem Kn.hx2 (w:World):Kn.hl2 w=Kn.hr2 w:=((congrFun PySem.W.Fast.hl2Q_eq w).trans (Kn.hq2 w)).trans (congrFun PySem.W.Fast.hr2Q_eq w).symm
name_quick hl3Q for Kn.hl3 by Kn.hl3_e
name_quick hr3Q for Kn.hr3 by Kn.hr3_e
theorem Kn.hq3 (w:World):PySem.W.Fast.hl3Q w=PySem.W.Fast.hr3Q w:=by kernel_rfl
theorem Kn.hx3 (w:World):Kn.hl3 w=Kn.hr3 w:=((congrFun PySem.W.Fast.hl3Q_eq w).trans (Kn.hq3 w)).trans (congrFun PySem.W.Fast.hr3Q_eq w).symm
name_quick hl4Q for Kn.hl4 by Kn.hl4_e
name_quick hr4Q for Kn.hr4 by Kn.hr4_e
theorem Kn.hq4 (w:World):PySem.W.Fast.hl4Q w=PySem.W.Fast.hr4Q w:=by kernel_rfl
theorem Kn.hx4 (w:World):Kn.hl4 w=Kn.hr4 w:=((congrFun PySem.W.Fast.hl4Q_eq w).trans (Kn.hq4 w)).trans (congrFun PySem.W.Fast.hr4Q_eq w).symm
theorem Kn.hl:LeftO PySem.Challenge.pw_kinnames_k41_whole_drawing Kn.kq Kn.klo (fun s=>xlAt Kn.kq [] s && recOk [] s) (Hook.obs (kHook Kn.kfr Kn.kas Kn.kas_e)) (Hook.val (kHook Kn.kfr Kn.kas Kn.kas_e)) 6838:=fun w=>by
 refine Kn.openMap_of ?_
 obtain ⟨s,e,x0⟩:=Option.map_eq_some_iff.mp (Kn.hx0 w)
 have y1:=Kn.hx1 w
 unfold Kn.hl1 at y1
 rw [e] at y1
 have x1:=Option.some.inj y1
 have y2:=Kn.hx2 w
 unfold Kn.hl2 at y2
 rw [e] at y2
 have x2:=Option.some.inj y2
 have y3:=Kn.hx3 w
 unfold Kn.hl3 at y3
 rw [e] at y3
 have x3:=Option.some.inj y3
 have y4:=Kn.hx4 w
 unfold Kn.hl4 at y4
 rw [e] at y4
 have x4:=Option.some.inj y4
 obtain ⟨a1,z0_0⟩:=Prod.mk.inj x0
 have a2:=z0_0
 have a3:=x1
 obtain ⟨a4,z2_0⟩:=Prod.mk.inj x2
 obtain ⟨a5,z2_1⟩:=Prod.mk.inj z2_0
 obtain ⟨a6,z2_2⟩:=Prod.mk.inj z2_1
 have a7:=z2_2
 obtain ⟨a8,z3_0⟩:=Prod.mk.inj x3
 have a9:=z3_0
 have aK:=x4
 rw [e]
 exact congrArg some (looks_pair (looks_pair a1 (looks_pair a2 (looks_pair a3 (looks_pair a4 (looks_pair a5 (looks_pair a6 (looks_pair a7 (looks_pair a8 a9)))))))) aK)
end
section
namespace L2
open PySem PySem.Spec PyProof.Rows
abbrev zV:=Sum Int Str
def jN:zV->Value->Bool
 | .inl k,v=>Value.isInt k v
 | .inr x,v=>Value.isStrOf x v
def zIp (w:World):zV->Int
 | .inl k=>hashInt k
 | .inr x=>hashStr w x
theorem qP:∀ {k:zV}{v:Value},jN k v=true->(∃ i t,k=Sum.inl i/\v=Value.int i t)\/(∃ x t,k=Sum.inr x/\v=Value.str x t)
 | .inl i,v,h=>by
  obtain ⟨t,e⟩:=Value.isInt_shape (k:=i) (v:=v) h
  exact .inl ⟨i,t,rfl,e⟩
 | .inr x,v,h=>by
  obtain ⟨t,e⟩:=Value.isStrOf_shape (x:=x) (v:=v) h
  exact .inr ⟨x,t,rfl,e⟩
theorem zIq (i:Int) (t:Tok):jN (.inl i) (.int i t)=true:=by simp [jN,Value.isInt]
theorem zIr (x:Str) (t:Tok):jN (.inr x) (.str x t)=true:=by simp [jN,Value.isStrOf]
theorem zIs (a b:Int):decide ((Sum.inl a:zV)=Sum.inl b)=(a == b):=by
 by_cases e:a=b
 ·subst e; simp
 ·have h:¬ (Sum.inl a:zV)=Sum.inl b:=fun q=>e (Sum.inl.inj q)
  rw [decide_eq_false h]
  exact (beq_eq_false_iff_ne.mpr e).symm
theorem zIt (a b:Str):decide ((Sum.inr a:zV)=Sum.inr b)=decide (a=b):=by
 by_cases e:a=b
 ·subst e; simp
 ·have h:¬ (Sum.inr a:zV)=Sum.inr b:=fun q=>e (Sum.inr.inj q)
  rw [decide_eq_false h,decide_eq_false e]
theorem zIu (a:Int) (b:Str):decide ((Sum.inl a:zV)=Sum.inr b)=false:=decide_eq_false (fun q=>nomatch q)
theorem zIv (a:Str) (b:Int):decide ((Sum.inr a:zV)=Sum.inl b)=false:=decide_eq_false (fun q=>nomatch q)
def vP (prog:Program) (w:World):PySem.KeyKind prog w zV where
 is:=jN
 hash:=zIp w
 inj:=fun v a b ha hb=>by
  rcases qP ha with ⟨i,t,rfl,rfl⟩ | ⟨x,t,rfl,rfl⟩
  ·rcases qP hb with ⟨j,u,rfl,e⟩ | ⟨y,u,rfl,e⟩
   ·injection e with e1 _; rw [e1]
   ·exact nomatch e
  ·rcases qP hb with ⟨j,u,rfl,e⟩ | ⟨y,u,rfl,e⟩
   ·exact nomatch e
   ·injection e with e1 _; rw [e1]
 byValue:=fun k v h=>by
  rcases qP h with ⟨i,t,rfl,rfl⟩ | ⟨x,t,rfl,rfl⟩ <;> rfl
 pyHash:=fun hv h=>by
  rcases qP hv with ⟨i,t,rfl,rfl⟩ | ⟨x,t,rfl,rfl⟩
  ·exact wpAny_pyHash_int h
  ·exact wpAny_pyHash_str h
 eqBool:=fun hu hv h=>by
  rcases qP hu with ⟨i,t,rfl,rfl⟩ | ⟨x,t,rfl,rfl⟩
  ·rcases qP hv with ⟨j,u,rfl,rfl⟩ | ⟨y,u,rfl,rfl⟩
   ·rw [zIs] at h; exact wpAny_eqBool_int h
   ·rw [zIu] at h; exact SeqAt.EqAt.int_str i t y u _ _ _ _ h
  ·rcases qP hv with ⟨j,u,rfl,rfl⟩ | ⟨y,u,rfl,rfl⟩
   ·rw [zIv] at h; exact SeqAt.EqAt.str_int x t j u _ _ _ _ h
   ·rw [zIt] at h; exact wpAny_eqBool_str h
 «strs»:=fun k x t v h=>by
  rcases qP h with ⟨i,u,rfl,e⟩ | ⟨y,u,rfl,e⟩
  ·exact nomatch e
  ·injection e with e1 _
   subst e1
   cases v <;> rfl
abbrev yP:=Sum Str Bool
def zEV:yP->Value->Bool
 | .inl x,v=>Value.isStrOf x v
 | .inr b,v=>v == Value.bool b
theorem jX:∀ {k:yP}{v:Value},zEV k v=true->(∃ x t,k=Sum.inl x/\v=Value.str x t)\/(∃ b,k=Sum.inr b/\v=Value.bool b)
 | .inl x,v,h=>by
  obtain ⟨t,e⟩:=Value.isStrOf_shape (x:=x) (v:=v) h
  exact .inl ⟨x,t,rfl,e⟩
 | .inr b,v,h=>.inr ⟨b,rfl,eq_of_beq h⟩
def tkH (w:World):yP->Int
 | .inl x=>hashStr w x
 | .inr b=>reduceHash (if b then 1 else 0)
theorem zIw {prog:Program}{w:World}{A:Around}{E:Value->Shared->Prop}{s:Shared}{b:Bool}{Q:Int->Shared->Prop} (h:Q (reduceHash (if b then 1 else 0)) { s with toks:=s.toks+1 }) :
  wpAny (model prog w) A (pyHash (.bool b)) Q E s:=by
 refine PySem.W.pyHash_slot (T := "bool") rfl F.slot_bool_hash F.entry_int_hash (F.args_int_hash_1 _) (by decide) (.inl (by cases b <;> rfl)) ?_
 unfold Builtin.«int.__hash__»
 cases b
 ·wp_walk
  exact ⟨_,_,rfl,h⟩
 ·wp_walk
  exact ⟨_,_,rfl,h⟩
def kN (prog:Program) (w:World):PySem.KeyKind prog w yP where
 is:=zEV
 hash:=tkH w
 inj:=fun v a b ha hb=>by
  rcases jX ha with ⟨x,t,rfl,rfl⟩ | ⟨c,rfl,rfl⟩
  ·rcases jX hb with ⟨y,u,rfl,e⟩ | ⟨d,rfl,e⟩
   ·injection e with e1 _; rw [e1]
   ·exact nomatch e
  ·rcases jX hb with ⟨y,u,rfl,e⟩ | ⟨d,rfl,e⟩
   ·exact nomatch e
   ·injection e with e1; rw [e1]
 byValue:=fun k v h=>by
  rcases jX h with ⟨x,t,rfl,rfl⟩ | ⟨c,rfl,rfl⟩ <;> rfl
 pyHash:=fun hv h=>by
  rcases jX hv with ⟨x,t,rfl,rfl⟩ | ⟨c,rfl,rfl⟩
  ·exact wpAny_pyHash_str h
  ·exact zIw h
 eqBool:=fun hu hv h=>by
  rcases jX hu with ⟨x,t,rfl,rfl⟩ | ⟨c,rfl,rfl⟩
  ·rcases jX hv with ⟨y,u,rfl,rfl⟩ | ⟨d,rfl,rfl⟩
   ·have e:decide ((Sum.inl x:yP)=Sum.inl y)=decide (x=y):=by
     by_cases q:x=y
     ·subst q; simp
     ·rw [decide_eq_false q,decide_eq_false fun z=>q (Sum.inl.inj z)]
    rw [e] at h; exact wpAny_eqBool_str h
   ·rw [decide_eq_false (fun q=>nomatch q)] at h; exact SeqAt.EqAt.str_bool x t d _ _ _ _ h
  ·rcases jX hv with ⟨y,u,rfl,rfl⟩ | ⟨d,rfl,rfl⟩
   ·rw [decide_eq_false (fun q=>nomatch q)] at h; exact SeqAt.EqAt.bool_str c y u _ _ _ _ h
   ·refine SeqAt.EqAt.bool_bool c d _ _ _ _ ?_
    have e:decide ((Sum.inr c:yP)=Sum.inr d)=(c == d):=by cases c <;> cases d <;> rfl
    rw [<- e]; exact h
 «strs»:=fun k x t v h=>by
  rcases jX h with ⟨y,u,rfl,e⟩ | ⟨d,rfl,e⟩
  ·injection e with e1 _
   subst e1
   cases v <;> rfl
  ·exact nomatch e
theorem zIx (prog:Program) (w:World) (k:zV) (v:Value):(vP prog w).is k v=jN k v:=rfl
theorem zIy (prog:Program) (w:World) (i:Int) (t:Tok):(vP prog w).is (.inl i) (.int i t)=true:=zIq i t
theorem zEW (prog:Program) (w:World) (x:Str) (t:Tok):(vP prog w).is (.inr x) (.str x t)=true:=zIr x t
end L2
namespace L2
open PySem PySem.Spec PyProof.Rows
inductive V where
 | non | bl (b:Bool) | int (i:Int) | str (x:Str) | byt (b:Array UInt8) | flt (b:UInt64) | ref (a:Addr) | ty (n:String)
 deriving DecidableEq
def zT:V->Value->Prop
 | .non,u=>u=Value.none
 | .bl b,u=>u=Value.bool b
 | .int i,u=>∃ t,u=Value.int i t
 | .str x,u=>∃ t,u=Value.str x t
 | .byt b,u=>∃ t,u=Value.bytes b t
 | .flt b,u=>∃ t,u=Value.float b t
 | .ref a,u=>u=Value.ref a
 | .ty n,u=>u=Value.type n
abbrev zM:List V->List Value->Prop:=Paired zT
theorem zM.length {xs:List V}{us:List Value} (r:zM xs us):xs.length=us.length:=Paired.length r
theorem zM.get:∀ {xs:List V}{us:List Value}{i:Nat}{x:V},zM xs us->xs[i]?=some x->∃ u,us[i]?=some u/\zT x u
 | _,_,_,_,.nil,e=>by simp at e
 | _,_,0,_,.cons r _,e=>by simp at e; subst e; exact ⟨_,rfl,r⟩
 | _,_,i+1,x,.cons _ t,e=>by
  obtain ⟨u,h1,h2⟩:=zM.get (i:=i) (x:=x) t (by simpa using e)
  exact ⟨u,by simpa using h1,h2⟩
theorem zM.set {x:V}{u:Value} (r:zT x u):∀ {xs:List V}{us:List Value} (i:Nat),zM xs us->zM (xs.set i x) (us.set i u)
 | _,_,_,.nil=>.nil
 | _,_,0,.cons _ t=>.cons r t
 | _,_,i+1,.cons q t=>.cons q (zM.set r i t)
theorem zM.append:∀ {xs ys:List V}{us ws:List Value},zM xs us->zM ys ws->zM (xs++ys) (us++ws)
 | _,_,_,_,.nil,s=>s
 | _,_,_,_,.cons r t,s=>.cons r (zM.append t s)
theorem zM.take:∀ {xs:List V}{us:List Value} (n:Nat),zM xs us->zM (xs.take n) (us.take n)
 | _,_,0,_=>.nil
 | _,_,_+1,.nil=>.nil
 | _,_,n+1,.cons r t=>.cons r (zM.take n t)
theorem zM.drop:∀ {xs:List V}{us:List Value} (n:Nat),zM xs us->zM (xs.drop n) (us.drop n)
 | _,_,0,r=>r
 | _,_,_+1,.nil=>.nil
 | _,_,n+1,.cons _ t=>zM.drop n t
def qQ:Option V->Option Value->Prop
 | some v,some u=>zT v u
 | none,none=>True
 | _,_=>False
def KV {κ:Type}:List (κ × V)->List (κ × Value)->Prop:=Paired fun (p:κ × V) (q:κ × Value)=>p.1=q.1/\zT p.2 q.2
def kV:zV->V
 | .inl i=>.int i
 | .inr x=>.str x
def jY:yP->V
 | .inl x=>.str x
 | .inr b=>.bl b
inductive HO where
 | lst (xs:List V)
 | tup (xs:List V)
 | dK (kvs:List (zV × V)) | dT (kvs:List (List yP × V))
 | set (S:Int->Bool) (n:Nat)
 | ins (C dx:Addr) (fs:List (Str × V))
 | own (x:Addr)
 | xd (fs:List (Str × V))
 | met (f x:Addr)
 | rng (lo hi:Int)
 | frz (o:Obj) (u:HO)
 | tbl (ps:Array Value)
 | ext (φ:Heap->Prop)
abbrev Hp:=Addr->Option HO
def upd (H:Hp) (a:Addr) (o:HO):Hp:=fun b=>if b=a then some o else H b
theorem zI {H:Hp}{a:Addr}{o:HO}:upd H a o a=some o:=by unfold upd; rw [if_pos rfl]
theorem zU {H:Hp}{a b:Addr}{o:HO} (h:b≠a):upd H a o b=H b:=by unfold upd; rw [if_neg h]
theorem zBA {H:Hp}{a b:Addr}{o u:HO} (h:H a=some o) (h':H b=some u) (d:o≠u):a≠b:=by
 intro e; subst e; rw [h] at h'; exact d (Option.some.inj h')
theorem y7 {H:Hp}{a b:Addr}{o:HO} (h:H a=some o) (h':H b=none):a≠b:=by
 intro e; subst e; rw [h] at h'; cases h'
section
variable (P:Program) (w:World)
def yF (H:Hp) (h:Heap) (a:Addr):HO->Prop
 | .lst xs=>xs.length<=sizeLine/\∃ (its:List Value) (n:Nat),zM xs its/\h.get? a=some { cls:=.type "list",data:=.seq its.toArray n }
 | .tup xs=>xs.length<=sizeLine/\∃ its:List Value,zM xs its/\IsTup h a its.toArray
 | .dK kvs=>kvs.length<=sizeLine/\(a == sysModules)=false/\∃ vs,KV kvs vs/\h.DictOf (vP P w) a vs
 | .dT kvs=>kvs.length<=sizeLine/\(a == sysModules)=false/\∃ xs:List (List yP × Addr × Value),
   Paired (fun (p:List yP × V) (q:List yP × Addr × Value)=>p.1=q.1/\H q.2.1=some (.tup (p.1.map jY))/\zT p.2 q.2.2) kvs xs /\
   ∃ o es ep,h.get? a=some o/\o.ExactDict/\o.data=.dict es ep/\es.toList=xs.map (entryOfKey (tupleKind (kN P w)))/\(xs.map (·.1)).Nodup
 | .set S n=>h.SetOf (intKind P w) a S n
 | .ins C dx fs=>H dx=some (.own a)/\fs.length<=1000/\dx≠a/\h.get? a=some (PySem.W.instObj C dx) /\
   ∃ mA,h.Ns1 dx mA/\(∀ f,qQ (fs.lookup f) (mA f))/\PySem.Within mA (fs.map (·.1))
 | .own _=>∃ o,h.get? a=some o
 | .xd fs=>∃ mA,h.Ns1 a mA/\∀ f,qQ (fs.lookup f) (mA f)
 | .rng lo hi=>∃ t u v,h.get? a=some { cls:=.type "range",data:=.fields #[.int lo t,.int hi u,.int 1 v] }
 | .frz o u=>h.get? a=some o/\yF H h a u
 | .tbl ps=>h.get? a=some { cls:=.none,data:=.fields ps }
 | .met f x=>h.get? a=some (PySem.W.methodObj (.ref f) (.ref x))
 | .ext φ=>φ h/\(∃ o,h.get? a=some o)/\∀ h1 h2:Heap,φ h1->(∀ o,h1.get? a=some o->h2.get? a=some o)->φ h2
def z6 (H:Hp) (h:Heap):Prop:=∀ a o,H a=some o->yF P w H h a o
end
section
variable {P:Program}{w:World}{H H':Hp}{h h':Heap}{a:Addr}{o:HO}
theorem yF.lt (x:yF P w H h a o):a < h.objs.size:=by
 cases o with
 | lst xs=>obtain ⟨_,_,_,_,e⟩:=x; exact Heap.lt_size e
 | tup xs=>obtain ⟨_,_,_,p⟩:=x; exact p.lt
 | dK kvs=>obtain ⟨_,_,_,_,o,_,_,e,_⟩:=x; exact Heap.lt_size e
 | dT kvs=>obtain ⟨_,_,_,_,o,_,_,e,_⟩:=x; exact Heap.lt_size e
 | set S n=>obtain ⟨o,_,_,_,e,_⟩:=x; exact Heap.lt_size e
 | ins C dx fs=>obtain ⟨_,_,_,e,_⟩:=x; exact Heap.lt_size e
 | own y=>obtain ⟨_,e⟩:=x; exact Heap.lt_size e
 | xd fs=>obtain ⟨_,⟨_,_,_,e,_⟩,_⟩:=x; exact Heap.lt_size e
 | rng lo hi=>obtain ⟨_,_,_,e⟩:=x; exact Heap.lt_size e
 | frz ob u=>obtain ⟨e,_⟩:=x; exact Heap.lt_size e
 | tbl ps=>exact Heap.lt_size (show h.get? a=some _ from x)
 | met f y=>exact Heap.lt_size (show h.get? a=some _ from x)
 | ext φ=>obtain ⟨_,⟨_,e⟩,_⟩:=x; exact Heap.lt_size e
theorem Paired.mapP {α β:Type}{F G:α->β->Prop}:∀ {l₁:List α}{l₂:List β},Paired F l₁ l₂->(∀ a b,F a b->G a b)->Paired G l₁ l₂
 | _,_,.nil,_=>.nil
 | _,_,.cons r t,f=>.cons (f _ _ r) (Paired.mapP t f)
theorem yF.stay (x:yF P w H h a o) (k:∀ b u,(b=a\/H b=some (.own a))->h.get? b=some u->h'.get? b=some u)
  (ho:∀ b,H b=some (.own a)->H' b=some (.own a)) (ht:∀ b xs,H b=some (.tup xs)->H' b=some (.tup xs)):yF P w H' h' a o:=by
 induction o with
 | lst xs=>obtain ⟨z,its,n,r,e⟩:=x; exact ⟨z,its,n,r,k _ _ (.inl rfl) e⟩
 | tup xs=>obtain ⟨z,its,r,ob,e,c⟩:=x; exact ⟨z,its,r,ob,k _ _ (.inl rfl) e,c⟩
 | dK kvs=>obtain ⟨z,y,vs,r,ob,es,ep,e,c⟩:=x; exact ⟨z,y,vs,r,ob,es,ep,k _ _ (.inl rfl) e,c⟩
 | dT kvs =>
  obtain ⟨z,y,xs,r,ob,es,ep,e,c⟩:=x
  exact ⟨z,y,xs,Paired.mapP r fun p q z=>⟨z.1,ht _ _ z.2.1,z.2.2⟩,ob,es,ep,k _ _ (.inl rfl) e,c⟩
 | set S n=>obtain ⟨ob,es,ep,t,e,c⟩:=x; exact ⟨ob,es,ep,t,k _ _ (.inl rfl) e,c⟩
 | ins C dx fs =>
  obtain ⟨d,z,ne,e,mA,⟨od,es,ep,e2,c⟩,r⟩:=x
  exact ⟨ho _ d,z,ne,k _ _ (.inl rfl) e,mA,⟨od,es,ep,k _ _ (.inr d) e2,c⟩,r⟩
 | own y=>obtain ⟨ob,e⟩:=x; exact ⟨ob,k _ _ (.inl rfl) e⟩
 | xd fs=>obtain ⟨mA,⟨od,es,ep,e,c⟩,r⟩:=x; exact ⟨mA,⟨od,es,ep,k _ _ (.inl rfl) e,c⟩,r⟩
 | rng lo hi=>obtain ⟨t,u,v,e⟩:=x; exact ⟨t,u,v,k _ _ (.inl rfl) e⟩
 | frz ob u ih=>obtain ⟨e,q⟩:=x; exact ⟨k _ _ (.inl rfl) e,ih q⟩
 | tbl ps =>
  have e:h.get? a=some { cls:=.none,data:=.fields ps }:=x
  show h'.get? a=some { cls:=.none,data:=.fields ps }
  exact k a _ (.inl rfl) e
 | met f y =>
  have e:h.get? a=some (PySem.W.methodObj (.ref f) (.ref y)):=x
  show h'.get? a=some (PySem.W.methodObj (.ref f) (.ref y))
  exact k a _ (.inl rfl) e
 | ext φ=>obtain ⟨p,⟨o,e⟩,st⟩:=x; exact ⟨st _ _ p fun o q=>k _ _ (.inl rfl) q,⟨o,k _ _ (.inl rfl) e⟩,st⟩
theorem z6.lt (x:z6 P w H h) (e:H a=some o):a < h.objs.size:=(x a o e).lt
theorem z6.fresh (x:z6 P w H h) (e:h.objs.size<=a):H a=none:=by
 cases q:H a with
 | none=>rfl
 | some u=>exact absurd (Nat.lt_of_lt_of_le (x.lt q) e) (Nat.lt_irrefl _)
theorem z6.kept (x:z6 P w H h) (k:∀ b u,h.get? b=some u->h'.get? b=some u):z6 P w H h':=fun a o e =>
 (x a o e).stay (fun b u _ q=>k b u q) (fun _ q=>q) fun _ _ q=>q
theorem z6.laid (x:z6 P w H h) (k:∀ b u,h.get? b=some u->h'.get? b=some u) (hp:h.objs.size<=a) (new:yF P w (upd H a o) h' a o):z6 P w (upd H a o) h':=fun b u e=>by
 have hn:=x.fresh hp
 by_cases hb:b=a
 ·subst hb; rw [zI] at e; cases e; exact new
 ·rw [zU hb] at e
  exact (x b u e).stay (fun c v _ q=>k c v q) (fun c q=>by rw [zU (y7 q hn)]; exact q) fun c xs q=>by rw [zU (y7 q hn)]; exact q
end
def Rd (H:Hp) (a:Addr) (u:HO):Prop:=H a=some u\/∃ o,H a=some (.frz o u)
theorem Rd.ok {P:Program}{w:World}{H:Hp}{h:Heap}{a:Addr}{u:HO} (r:Rd H a u) (x:z6 P w H h):yF P w H h a u:=by
 rcases r with r | ⟨o,r⟩
 ·exact x a u r
 ·obtain ⟨_,q⟩:=x a _ r
  exact q
def Mut:Option HO->Prop
 | some (.lst _)=>True
 | some (.dK _)=>True
 | some (.dT _)=>True
 | some (.set _ _)=>True
 | some (.ins _ _ _)=>True
 | some (.ext _)=>True
 | _=>False
section
variable {P:Program}{w:World}{H:Hp}{h h':Heap}{x e:Addr}{o':HO}
theorem z6.write (ok:z6 P w H h) (mu:Mut (H x)) (he:e=x\/H e=some (.own x)) (k:∀ b u,b≠e->h.get? b=some u->h'.get? b=some u) (heo:∃ u,h'.get? e=some u)
  (new:yF P w (upd H x o') h' x o'):z6 P w (upd H x o') h':=fun b u q=>by
 have nown:∀ c y,H c=some (.own y)->c≠x:=fun c y r z=>by subst z; rw [r] at mu; exact mu
 have ntup:∀ c xs,H c=some (.tup xs)->c≠x:=fun c xs r z=>by subst z; rw [r] at mu; exact mu
 by_cases hb:b=x
 ·subst hb; rw [zI] at q; cases q; exact new
 ·rw [zU hb] at q
  by_cases hbe:b=e
  ·have q':H b=some (.own x):=by
    rcases he with z | z
    ·exact absurd (hbe.trans z) hb
    ·rw [hbe]; exact z
   rw [q] at q'; cases q'
   obtain ⟨v,hv⟩:=heo
   exact ⟨v,by rw [hbe]; exact hv⟩
  ·refine (ok b u q).stay (fun c v hc r=>k c v ?_ r) (fun c r=>by rw [zU (nown c b r)]; exact r) fun c xs r=>by rw [zU (ntup c xs r)]; exact r
   rcases hc with rfl | hc
   ·exact hbe
   ·rintro rfl
    rcases he with z | z
    ·exact nown c b hc z
    ·rw [hc] at z; cases z; exact hb rfl
end
structure Un (fs ex:List Addr) (H H':Hp) (h h':Heap):Prop where
 keep:∀ b o,h.get? b=some o->H b=none->b ∉ fs->b ∉ ex->h'.get? b=some o
 slot:∀ b o,h.get? b=some o->H b=none->b∈fs->b ∉ ex->∃ sl,h'.get? b=some { o with slots:=sl }
 free:∀ b o,h.get? b=some o->H b=none->b ∉ ex->H' b=none
 there:∀ b o,h.get? b=some o->b ∉ ex->∃ o',h'.get? b=some o'
 tups:∀ b xs,H b=some (.tup xs)->H' b=some (.tup xs)
 frzs:∀ b o u,H b=some (.frz o u)->H' b=some (.frz o u)
 tbls:∀ b ps,H b=some (.tbl ps)->∃ more,H' b=some (.tbl (ps++more))
section
variable {fs fs' ex ex':List Addr}{H H1 H2:Hp}{h h1 h2 h':Heap}{a x e:Addr}{o:HO}
theorem Un.any (u:Un fs ex H H1 h h1) {b:Addr}{ob:Obj} (q:h.get? b=some ob) (n:H b=none) (hx:b ∉ ex):∃ sl,h1.get? b=some { ob with slots:=sl }:=by
 by_cases hb:b∈fs
 ·exact u.slot b ob q n hb hx
 ·exact ⟨ob.slots,u.keep b ob q n hb hx⟩
theorem Un.kept (k:∀ b u,h.get? b=some u->h'.get? b=some u):Un fs ex H H h h' :=
 ⟨fun b ob q _ _ _=>k b ob q,fun b ob q _ _ _=>⟨ob.slots,k b ob q⟩,fun _ _ _ n _=>n,fun b ob q _=>⟨ob,k b ob q⟩,fun _ _ q=>q,fun _ _ _ q=>q,fun _ ps q=>⟨#[],by rw [q]; simp⟩⟩
theorem Un.refl:Un fs ex H H h h:=Un.kept fun _ _ q=>q
theorem Un.laid (k:∀ b u,h.get? b=some u->h'.get? b=some u) (hp:h.objs.size<=a) (hn:H a=none):Un fs ex H (upd H a o) h h' where
 keep:=fun b u q _ _ _=>k b u q
 slot:=fun b u q _ _ _=>⟨u.slots,k b u q⟩
 free:=fun b u q n _=>by rw [zU (Nat.ne_of_lt (Nat.lt_of_lt_of_le (Heap.lt_size q) hp))]; exact n
 there:=fun b u q _=>⟨u,k b u q⟩
 tups:=fun b xs q=>by rw [zU (y7 q hn)]; exact q
 frzs:=fun b u xs q=>by rw [zU (y7 q hn)]; exact q
 tbls:=fun b ps q=>⟨#[],by rw [zU (y7 q hn),q]; simp⟩
theorem Un.write (mu:Mut (H x)) (he:e=x\/H e=some (.own x)) (k:∀ b u,b≠e->h.get? b=some u->h'.get? b=some u) (heo:∃ u,h'.get? e=some u):Un fs ex H (upd H x o) h h':=by
 have hx:∀ b,H b=none->b≠x:=fun b n z=>by subst z; rw [n] at mu; exact mu
 have hb:∀ b,H b=none->b≠e:=fun b n z=>by
  subst z
  rcases he with r | r
  ·exact hx b n r
  ·rw [n] at r; cases r
 have hm:∀ b u,H b=some u->¬ Mut (some u)->b≠x:=fun b u q nm z=>by subst z; rw [q] at mu; exact nm mu
 refine ⟨fun b u q n _ _=>k b u (hb b n) q,fun b u q n _ _=>⟨u.slots,k b u (hb b n) q⟩,fun b u q n _=>by rw [zU (hx b n)]; exact n,fun b u q _=>?_,
  fun b xs q=>by rw [zU (hm b _ q fun z=>z)]; exact q,fun b u xs q=>by rw [zU (hm b _ q fun z=>z)]; exact q,fun b ps q=>⟨#[],by rw [zU (hm b _ q fun z=>z),q]; simp⟩⟩
 by_cases hbe:b=e
 ·subst hbe; exact heo
 ·exact ⟨u,k b u hbe q⟩
end
def trk (h:Heap) (H:Hp):List Addr:=(List.range h.objs.size).filter fun a=>(H a).isSome
def jZ (h:Heap) (H:Hp):Heap:=PySem.W.hideAll h (trk h H)
theorem zIz (h:Heap) (H:Hp):(jZ h H).objs.size=h.objs.size:=PySem.W.hideAll_size _ _
theorem zJA {h:Heap}{H:Hp}{b:Addr}{o:Obj} (e:h.get? b=some o) (n:H b=none):(jZ h H).get? b=some o :=
 PySem.W.hideAll_get _ e fun hm=>by
  have q:(H b).isSome=true:=(List.mem_filter.mp hm).2
  rw [n] at q; simp at q
theorem zJB {h:Heap}{H:Hp}{b:Addr}{o:Obj} (e:(jZ h H).get? b=some o):h.get? b=some o/\H b=none:=by
 have e':h.get? b=some o:=PySem.W.of_hideAll (trk h H) e
 refine ⟨e',?_⟩
 cases q:H b with
 | none=>rfl
 | some x =>
  have hm:b∈trk h H:=List.mem_filter.mpr ⟨List.mem_range.mpr (Heap.lt_size e'),by simp [q]⟩
  have z:(jZ h H).get? b=none:=PySem.W.hideAll_none (trk h H) hm
  rw [z] at e; cases e
def zJC (g h:Heap) (L:Addr):List (Addr × Obj):=(List.range h.objs.size).filterMap fun a=>if a=L\/(g.get? a).isSome=true then none else (h.get? a).map fun o=>(a,o)
def vI (g h:Heap) (L d:Addr):List (Addr × Obj):=(zJC g h L).filter fun p=>decide (p.1≠d)
end L2
namespace L2
open PySem PySem.Spec PyProof.Rows
structure Mod (K:PySem.W.Frag) (mg:Str->Option Value) (base:Heap):Prop where
 kin:K.In base
 glob:base.Ns mainGlobals mg
 blt:∃ mb,base.Ns builtinsNs mb/\∀ x:Str,x ≠ "__name__" -> mb x=bootBuiltins x
 nolimit:base.NoLimit
structure Cx where
 prog:Program
 w:World
 K:PySem.W.Frag
 mg:Str->Option Value
 base:Heap
 A:Around
 N:List Str
 s₀:Shared
 H₀:Hp
 env:Env
 outer:List Env
 stack:List Env
 ex:List Addr
 fn:Str->Bool
 calm:Bool
 pn:List (Addr × Obj)
 xe:Value->Shared->Prop
def yQ (l:List Env):List Addr:=l.filterMap (·.frame)
abbrev Cx.fs (X:Cx):List Addr:=yQ X.outer
def Vis (sc:Scope) (x:Str):Prop:=sc.names.lookup x=some .local\/sc.names.lookup x=some .cell\/sc.names.lookup x=some .free
def Loc (sc:Scope) (x:Str):Prop:=sc.names.lookup x=some .local\/sc.names.lookup x=some .cell
def zJD (env:Env) (h:Heap) (m:Str->Option Value) (x:Str) (u:Value):Prop :=
 (env.kindOf x=some .local/\m x=some u)\/((env.kindOf x=some .cell\/env.kindOf x=some .free)/\∃ c,env.cells.lookup x=some c/\h.IsCell c (some u))
structure Cx.Ok (X:Cx):Prop where
 mod:Mod X.K X.mg X.base
 kind:X.env.scope.kind=.function
 glob:X.env.globals=mainGlobals
 blt:X.env.builtins=builtinsNs
 above:X.s₀.heap.objs.size<=X.env.locals
 inj:∀ x y c,X.env.cells.lookup x=some c->X.env.cells.lookup y=some c->x=y
 has:∀ x,(X.env.kindOf x=some .cell\/X.env.kindOf x=some .free)->∃ c,X.env.cells.lookup x=some c
 cab:∀ x c,X.fn x=true->X.env.cells.lookup x=some c->X.s₀.heap.objs.size<=c
 hd:X.calm=true->X.A.handled=none
 frames:X.A.frames=some X.stack
 stk:X.stack=X.outer\/(X.stack=X.env::X.outer/\X.env.frame=some X.env.locals)
 exf:∀ b∈X.ex,b≠X.env.locals/\∀ x c,X.env.cells.lookup x=some c->c≠b
 bs:∀ b o,X.base.get? b=some o->X.s₀.heap.get? b=some o/\X.H₀ b=none
 bsz:X.base.objs.size<=X.s₀.heap.objs.size
 noex:∀ b o,X.base.get? b=some o->b ∉ X.ex
 exfs:∀ b∈X.ex,b ∉ X.fs
 funs:X.s₀.heap.FunFrames X.base X.outer
 frf:∀ b∈X.fs,X.H₀ b=none
structure Inv (X:Cx) (pins:List (Addr × Obj)) (σ:List (Option V)) (H:Hp) (s:Shared):Prop where
 ok:X.Ok
 os:s.os=X.s₀.os
 bare:AllBare s.gens
 base:Un X.fs X.ex X.H₀ H X.s₀.heap s.heap
 loc:∃ m,s.heap.Ns X.env.locals m/\∀ (i:Nat) (x:Str) (v:V),X.N[i]?=some x->σ[i]?=some (some v)->Vis X.env.scope x->∃ u,zT v u/\zJD X.env s.heap m x u
 cell:∀ x c,X.env.cells.lookup x=some c->∃ v,s.heap.IsCell c v
 free:H X.env.locals=none
 freeC:∀ x c,X.env.cells.lookup x=some c->H c=none
 pin:∀ p∈X.pn++pins,s.heap.get? p.1=some p.2/\H p.1=none/\p.1≠X.env.locals/\p.1 ∉ X.fs/\∀ v,p.2.data≠.cell v
 hok:z6 X.prog X.w H s.heap
 len:σ.length=X.N.length
section
variable {X:Cx}{pins:List (Addr × Obj)}{σ:List (Option V)}{H H':Hp}{s:Shared}{h':Heap}
theorem Cx.Ok.nofr (ok:X.Ok) {b:Addr}{o:Obj} (e:X.base.get? b=some o):b ∉ X.fs:=fun hb=>by
 have:=(ok.funs.mem hb).1
 rw [e] at this; cases this
theorem Inv.bs (I:Inv X pins σ H s):∀ b o,X.base.get? b=some o->s.heap.get? b=some o/\H b=none:=fun b o e =>
 ⟨I.base.keep b o (I.ok.bs b o e).1 (I.ok.bs b o e).2 (I.ok.nofr e) (I.ok.noex b o e),I.base.free b o (I.ok.bs b o e).1 (I.ok.bs b o e).2 (I.ok.noex b o e)⟩
theorem Inv.bk (I:Inv X pins σ H s):∀ b o,X.base.get? b=some o->s.heap.get? b=some o:=fun b o e=>(I.bs b o e).1
theorem Inv.mod (I:Inv X pins σ H s):Mod X.K X.mg X.base:=I.ok.mod
theorem Inv.kIn (I:Inv X pins σ H s):X.K.In s.heap:=I.ok.mod.kin.keeps I.bk
theorem Inv.nolimit (I:Inv X pins σ H s):s.heap.NoLimit:=I.ok.mod.nolimit.keeps I.bk
theorem Inv.fr (I:Inv X pins σ H s):∃ m,Fr X.base X.env.locals s.heap m :=
 let ⟨m,hn,_⟩:=I.loc
 ⟨m,hn,I.bk,Nat.le_trans I.ok.bsz I.ok.above⟩
theorem Inv.lt (I:Inv X pins σ H s):X.env.locals < s.heap.objs.size:=let ⟨_,hn,_⟩:=I.loc; hn.lt
theorem Inv.sz (I:Inv X pins σ H s):X.s₀.heap.objs.size<=s.heap.objs.size:=Nat.le_trans I.ok.above (Nat.le_of_lt I.lt)
theorem Inv.nofs (I:Inv X pins σ H s) {a:Addr} (h:s.heap.objs.size<=a):a ∉ X.fs:=fun hb=>by
 obtain ⟨_,o,ho,_⟩:=I.ok.funs.mem hb
 exact absurd (Nat.lt_of_lt_of_le (Heap.lt_size ho) (Nat.le_trans I.sz h)) (Nat.lt_irrefl _)
theorem Inv.cne (I:Inv X pins σ H s):∀ x c,X.env.cells.lookup x=some c->c≠X.env.locals:=fun x c e z=>by
 obtain ⟨v,o,ho,hd⟩:=I.cell x c e
 obtain ⟨m,⟨o',es,ep,ho',hd',_⟩,_⟩:=I.loc
 rw [z,ho'] at ho; cases ho; rw [hd'] at hd; cases hd
theorem Inv.funs (I:Inv X pins σ H s):s.heap.FunFrames X.base X.outer:=by
 have all:∀ (l:List Env),(∀ b∈yQ l,b∈X.fs)->X.s₀.heap.FunFrames X.base l->s.heap.FunFrames X.base l:=by
  intro l
  induction l with
  | nil=>intro _ _; trivial
  | cons env r ih =>
   intro hs hl
   obtain ⟨hk,⟨L,o,hf,hn,ho,hd⟩,hr⟩:=hl
   have hL:L∈X.fs:=hs L (by unfold yQ; rw [List.filterMap_cons,hf]; exact List.mem_cons_self)
   obtain ⟨sl,e⟩:=I.base.slot L o ho (I.ok.frf L hL) hL fun z=>I.ok.exfs L z hL
   exact ⟨hk,⟨L,_,hf,hn,e,hd⟩,ih (fun b hb=>hs b (by unfold yQ; rw [List.filterMap_cons,hf]; exact List.mem_cons_of_mem _ hb)) hr⟩
 exact all X.outer (fun _ hb=>hb) I.ok.funs
theorem Inv.stack (I:Inv X pins σ H s):s.heap.FunFrames X.base X.stack:=by
 rcases I.ok.stk with e | ⟨e,hf⟩
 ·rw [e]; exact I.funs
 ·rw [e]
  obtain ⟨m,hn,_⟩:=I.loc
  refine .cons (by rw [I.ok.kind]; decide) hf hn ?_ I.funs
  exact Heap.get?_none_of_le (Nat.le_trans I.ok.bsz I.ok.above)
theorem Inv.stkSub (I:Inv X pins σ H s):∀ b∈yQ X.stack,b∈X.env.locals::X.fs:=fun b hb=>by
 rcases I.ok.stk with e | ⟨e,hf⟩
 ·rw [e] at hb; exact List.mem_cons_of_mem _ hb
 ·rw [e] at hb
  unfold yQ at hb
  rw [List.filterMap_cons,hf] at hb
  exact hb
theorem Inv.stkFree (I:Inv X pins σ H s):∀ b∈yQ X.stack,H b=none:=fun b hb=>by
 rcases List.mem_cons.mp (I.stkSub b hb) with e | hb
 ·rw [e]; exact I.free
 ·obtain ⟨_,o,ho,_⟩:=I.ok.funs.mem hb
  exact I.base.free b o ho (I.ok.frf b hb) fun z=>I.ok.exfs b z hb
theorem Inv.step {g':Array GenState}{t':Nat}{d':Drawn}{ch:List Addr} (I:Inv X pins σ H s)
  (hch:∀ b∈ch,(b∈X.ex\/X.s₀.heap.objs.size<=b)/\b≠X.env.locals/\(∀ x c,X.env.cells.lookup x=some c->c≠b)/\∀ p∈X.pn++pins,p.1≠b)
  (keep:∀ b o,b≠X.env.locals->b ∉ X.fs->b ∉ ch->s.heap.get? b=some o->H b=none->h'.get? b=some o)
  (slot:∀ b o,b≠X.env.locals->b∈X.fs->b ∉ ch->s.heap.get? b=some o->H b=none->∃ sl,h'.get? b=some { o with slots:=sl }) (free:∀ b o,b ∉ ch->s.heap.get? b=some o->H b=none->H' b=none)
  (there:∀ b o,b ∉ ch->s.heap.get? b=some o->∃ o',h'.get? b=some o')
  (tups:∀ b xs,H b=some (.tup xs)->H' b=some (.tup xs)) (frzs:∀ b o u,H b=some (.frz o u)->H' b=some (.frz o u)) (tbls:∀ b ps,H b=some (.tbl ps)->∃ more,H' b=some (.tbl (ps++more)))
  (ns:∀ m,s.heap.Ns X.env.locals m->h'.Ns X.env.locals m) (hok:z6 X.prog X.w H' h') (hg:AllBare g') :
  Inv X pins σ H' { s with heap:=h',gens:=g',drawn:=d',toks:=t' }:=by
 have neL:∀ b o,X.s₀.heap.get? b=some o->b≠X.env.locals:=fun b o e=>Nat.ne_of_lt (Nat.lt_of_lt_of_le (Heap.lt_size e) I.ok.above)
 have neC:∀ b o,X.s₀.heap.get? b=some o->b ∉ X.ex->b ∉ ch:=fun b o e hx hb=>by
  rcases (hch b hb).1 with z | z
  ·exact hx z
  ·exact absurd (Nat.lt_of_lt_of_le (Heap.lt_size e) z) (Nat.lt_irrefl _)
 have cellK:∀ x c,X.env.cells.lookup x=some c->∀ v,s.heap.IsCell c v->h'.IsCell c v:=fun x c e v ⟨o,ho,hd⟩=>by
  have nch:c ∉ ch:=fun z=>(hch c z).2.2.1 x c e rfl
  by_cases hc:c∈X.fs
  ·obtain ⟨sl,q⟩:=slot c o (I.cne x c e) hc nch ho (I.freeC x c e)
   exact ⟨_,q,hd⟩
  ·exact ⟨o,keep c o (I.cne x c e) hc nch ho (I.freeC x c e),hd⟩
 refine ⟨I.ok,I.os,hg,⟨fun b o e n hb hx=>?_,fun b o e n hb hx=>?_,fun b o e n hx=>?_,fun b o e hx=>?_,fun b xs e=>tups b xs (I.base.tups b xs e),fun b o xs e=>frzs b o xs (I.base.frzs b o xs e),fun b ps e=>?_⟩,?_,fun x c e=>?_,?_,fun x c e=>?_,fun p hp=>?_,hok,I.len⟩
 ·exact keep b o (neL b o e) hb (neC b o e hx) (I.base.keep b o e n hb hx) (I.base.free b o e n hx)
 ·obtain ⟨sl,e1⟩:=I.base.slot b o e n hb hx
  obtain ⟨sl',e2⟩:=slot b _ (neL b o e) hb (neC b o e hx) e1 (I.base.free b o e n hx)
  exact ⟨sl',e2⟩
 ·obtain ⟨o',e1⟩:=I.base.there b o e hx
  exact free b o' (neC b o e hx) e1 (I.base.free b o e n hx)
 ·obtain ⟨o',e1⟩:=I.base.there b o e hx
  exact there b o' (neC b o e hx) e1
 ·obtain ⟨m1,e1⟩:=I.base.tbls b ps e
  obtain ⟨m2,e2⟩:=tbls b _ e1
  exact ⟨m1++m2,by rw [e2,Array.append_assoc]⟩
 ·obtain ⟨m,hn,hl⟩:=I.loc
  refine ⟨m,ns m hn,fun i x v e1 e2 e3=>?_⟩
  obtain ⟨u,r,l⟩:=hl i x v e1 e2 e3
  refine ⟨u,r,?_⟩
  rcases l with l | ⟨k,c,e,z⟩
  ·exact .inl l
  ·exact .inr ⟨k,c,e,cellK x c e _ z⟩
 ·obtain ⟨v,z⟩:=I.cell x c e
  exact ⟨v,cellK x c e v z⟩
 ·obtain ⟨m,⟨o,_,_,ho,_⟩,_⟩:=I.loc
  exact free _ o (fun z=>(hch _ z).2.1 rfl) ho I.free
 ·obtain ⟨v,o,ho,hd⟩:=I.cell x c e
  exact free c o (fun z=>(hch c z).2.2.1 x c e rfl) ho (I.freeC x c e)
 ·obtain ⟨e,n,ne,nf,d⟩:=I.pin p hp
  have nch:p.1 ∉ ch:=fun z=>(hch p.1 z).2.2.2 p hp rfl
  exact ⟨keep p.1 p.2 ne nf nch e n,free p.1 p.2 nch e n,ne,nf,d⟩
theorem Inv.un {t':Nat} (I:Inv X pins σ H s) (u:Un X.fs [] H H' s.heap h') (hok:z6 X.prog X.w H' h'):Inv X pins σ H' { s with heap:=h',toks:=t' }:=by
 obtain ⟨m,⟨o,es,ep,ho,r⟩,_⟩:=id I.loc
 obtain ⟨sl,hL⟩:=u.any ho I.free (by simp)
 exact I.step (g':=s.gens) (d':=s.drawn) (ch:=[]) (fun _ z=>nomatch z) (fun b o _ hb _ e n=>u.keep b o e n hb (by simp)) (fun b o _ hb _ e n=>u.slot b o e n hb (by simp)) (fun b o _ e n=>u.free b o e n (by simp)) (fun b o _ e=>u.there b o e (by simp)) u.tups u.frzs u.tbls (fun m' hm=>by
  obtain ⟨o',es',ep',ho',r'⟩:=hm
  rw [ho] at ho'; cases ho'
  exact ⟨_,es',ep',hL,r'⟩) hok I.bare
theorem Inv.call {g':Array GenState}{t':Nat}{d':Drawn}{ch:List Addr} (I:Inv X pins σ H s) (u:Un (yQ X.stack) ch H H' s.heap h') (hok:z6 X.prog X.w H' h') (hg:AllBare g')
  (hch:∀ b∈ch,(b∈X.ex\/X.s₀.heap.objs.size<=b)/\b≠X.env.locals/\(∀ x c,X.env.cells.lookup x=some c->c≠b)/\∀ p∈X.pn++pins,p.1≠b) :
  Inv X pins σ H' { s with heap:=h',gens:=g',drawn:=d',toks:=t' }:=by
 obtain ⟨m,⟨o,es,ep,ho,r⟩,_⟩:=id I.loc
 obtain ⟨sl,hL⟩:=u.any ho I.free fun z=>(hch _ z).2.1 rfl
 exact I.step (ch:=ch) hch (fun b o hL hb hc e n=>u.keep b o e n (fun z=>(List.mem_cons.mp (I.stkSub b z)).elim hL hb) hc) (fun b o _ _ hc e n=>u.any e n hc) (fun b o hc e n=>u.free b o e n hc) (fun b o hc e=>u.there b o e hc) u.tups u.frzs u.tbls (fun m' hm=>by
  obtain ⟨o',es',ep',ho',r'⟩:=hm
  rw [ho] at ho'; cases ho'
  exact ⟨_,es',ep',hL,r'⟩) hok hg
theorem Inv.turned {t':Nat}{it:Addr} (I:Inv X pins σ H s) (k:∀ b o,b≠it->s.heap.get? b=some o->h'.get? b=some o) (hn:H it=none) (hL:it≠X.env.locals)
  (h1:it∈X.ex\/X.s₀.heap.objs.size<=it) (h2:∀ x c,X.env.cells.lookup x=some c->c≠it) (h3:∀ p∈X.pn++pins,p.1≠it):Inv X pins σ H { s with heap:=h',toks:=t' }:=by
 have nit:∀ b u,H b=some u->b≠it:=fun b u e z=>by rw [z,hn] at e; cases e
 refine I.step (g':=s.gens) (d':=s.drawn) (ch:=[it]) (fun b hb=>?_) (fun b o _ _ hc e _=>k b o (fun z=>hc (by simp [z])) e) (fun b o _ _ hc e _=>⟨o.slots,k b o (fun z=>hc (by simp [z])) e⟩) (fun _ _ _ _ n=>n)
  (fun b o hc e=>⟨o,k b o (fun z=>hc (by simp [z])) e⟩) (fun _ _ e=>e) (fun _ _ _ e=>e) (fun b ps e=>⟨#[],by rw [e]; simp⟩) (fun m hm=>?_) (fun b u e=>?_) I.bare
 ·have e:b=it:=by simpa using hb
  subst e
  exact ⟨h1,hL,h2,h3⟩
 ·obtain ⟨o,es,ep,ho,r⟩:=hm
  exact ⟨o,es,ep,k _ o (Ne.symm hL) ho,r⟩
 ·refine (I.hok b u e).stay (fun c v hc q=>k c v ?_ q) (fun _ q=>q) fun _ _ q=>q
  rcases hc with z | z
  ·rw [z]; exact nit b u e
  ·exact nit c _ z
theorem Inv.tok (I:Inv X pins σ H s) (t:Nat):Inv X pins σ H { s with toks:=t }:=I.un (h':=s.heap) (t':=t) Un.refl I.hok
theorem Inv.kept {t':Nat} (I:Inv X pins σ H s) (k:∀ b u,s.heap.get? b=some u->h'.get? b=some u):Inv X pins σ H { s with heap:=h',toks:=t' }:=I.un (Un.kept k) (I.hok.kept k)
theorem Inv.laid {a:Addr}{o:HO}{t':Nat} (I:Inv X pins σ H s) (k:∀ b u,s.heap.get? b=some u->h'.get? b=some u) (hp:s.heap.objs.size<=a) (new:yF X.prog X.w (upd H a o) h' a o) :
  Inv X pins σ (upd H a o) { s with heap:=h',toks:=t' }:=I.un (Un.laid k hp (I.hok.fresh hp)) (I.hok.laid k hp new)
theorem Inv.write {x e:Addr}{o:HO}{t':Nat} (I:Inv X pins σ H s) (mu:Mut (H x)) (he:e=x\/H e=some (.own x)) (k:∀ b u,b≠e->s.heap.get? b=some u->h'.get? b=some u) (heo:∃ u,h'.get? e=some u)
  (new:yF X.prog X.w (upd H x o) h' x o):Inv X pins σ (upd H x o) { s with heap:=h',toks:=t' }:=I.un (Un.write mu he k heo) (I.hok.write mu he k heo new)
theorem Inv.weak {σ':List (Option V)} (I:Inv X pins σ H s) (hl:σ'.length=σ.length) (w:∀ (i:Nat) v,σ'[i]?=some (some v)->σ[i]?=some (some v)):Inv X pins σ' H s :=
 ⟨I.ok,I.os,I.bare,I.base,let ⟨m,hn,hl'⟩:=I.loc; ⟨m,hn,fun i x v e1 e2 e3=>hl' i x v e1 (w i v e2) e3⟩,I.cell,I.free,I.freeC,I.pin,I.hok,hl.trans I.len⟩
theorem Inv.pins_of {pins':List (Addr × Obj)} (I:Inv X pins σ H s) (h:∀ p∈pins',s.heap.get? p.1=some p.2/\H p.1=none/\p.1≠X.env.locals/\p.1 ∉ X.fs/\∀ v,p.2.data≠.cell v):Inv X pins' σ H s :=
 ⟨I.ok,I.os,I.bare,I.base,I.loc,I.cell,I.free,I.freeC,fun p hp=>(List.mem_append.mp hp).elim (fun z=>I.pin p (List.mem_append_left _ z)) (h p),I.hok,I.len⟩
theorem zEX {N:List Str} (hN:N.Nodup) {i j:Nat}{x:Str} (a:N[i]?=some x) (b:N[j]?=some x):i=j:=by
 obtain ⟨h1,e1⟩:=List.getElem?_eq_some_iff.mp a
 obtain ⟨h2,e2⟩:=List.getElem?_eq_some_iff.mp b
 exact (List.getElem_inj hN).mp (e1.trans e2.symm)
theorem zJE {M:Model}{A:Around}{E:Value->Shared->Prop}{i:Nat}{x:Str}{v:V}{u:Value}{Q:Unit->Shared->Prop} (I:Inv X pins σ H s) (hN:X.N.Nodup) (hi:X.N[i]?=some x) (hx:Loc X.env.scope x) (r:zT v u)
  (h:∀ s',Inv X pins (σ.set i (some v)) H s'->(∃ a,Heap.SameBut a s.heap s'.heap/\(a=X.env.locals\/X.env.cells.lookup x=some a))->Q () s') (hf:X.fn x=true\/X.env.scope.names.lookup x=some .local:=by first | exact .inl rfl | exact .inr rfl | assumption):wpAny M A (storeName X.env x u) Q E s:=by
 obtain ⟨m,hn,hl⟩:=id I.loc
 have hcls:(X.env.scope.kind == .class || (X.env.scope.kind == .module && X.env.locals != X.env.globals))=false:=by rw [I.ok.kind]; rfl
 have hiσ:i < σ.length:=by rw [I.len]; exact (List.getElem?_eq_some_iff.mp hi).1
 have cne:=I.cne
 have tracked:∀ {a:Addr} {h':Heap},(∃ o,s.heap.get? a=some o/\H a=none)->Heap.SameBut a s.heap h'->z6 X.prog X.w H h':=fun {a h'} ha hs b ob e=>by
  obtain ⟨_,_,hfree⟩:=ha
  refine (I.hok b ob e).stay (fun c w' hc q=>(hs.2 c ?_).trans q) (fun _ q=>q) fun _ _ q=>q
  rintro rfl
  rcases hc with rfl | hc
  ·rw [hfree] at e; cases e
  ·rw [hfree] at hc; cases hc
 rcases hx with hk | hk
 ·refine wpAny_storeName_local hk hn (fun h' hn' hs=>?_) hcls
  obtain ⟨oL,_,_,hoL,_⟩:=id hn
  refine h _ ⟨I.ok,I.os,I.bare,⟨fun b o e n hb hx=>?_,fun b o e n hb hx=>?_,I.base.free,fun b o e hx=>?_,I.base.tups,I.base.frzs,I.base.tbls⟩,⟨_,hn',fun j y v' e1 e2 e3=>?_⟩,fun y c e=>?_,I.free,I.freeC,fun p hp=>?_,tracked ⟨oL,hoL,I.free⟩ hs,by simpa using I.len⟩ ⟨_,hs,.inl rfl⟩
  ·exact (hs.2 b (Nat.ne_of_lt (Nat.lt_of_lt_of_le (Heap.lt_size e) I.ok.above))).trans (I.base.keep b o e n hb hx)
  ·obtain ⟨sl,e1⟩:=I.base.slot b o e n hb hx
   exact ⟨sl,(hs.2 b (Nat.ne_of_lt (Nat.lt_of_lt_of_le (Heap.lt_size e) I.ok.above))).trans e1⟩
  ·obtain ⟨o',e1⟩:=I.base.there b o e hx
   exact ⟨o',(hs.2 b (Nat.ne_of_lt (Nat.lt_of_lt_of_le (Heap.lt_size e) I.ok.above))).trans e1⟩
  ·by_cases hj:j=i
   ·subst hj
    rw [hi] at e1; cases e1
    rw [List.getElem?_set_self hiσ] at e2
    cases e2
    exact ⟨u,r,.inl ⟨hk,by simp⟩⟩
   ·rw [List.getElem?_set_ne (Ne.symm hj)] at e2
    obtain ⟨u',r',q⟩:=hl j y v' e1 e2 e3
    refine ⟨u',r',?_⟩
    rcases q with ⟨k,e⟩ | ⟨k,c,e,z⟩
    ·refine .inl ⟨k,?_⟩
     have:y≠x:=fun e=>hj (zEX hN e1 (e ▸ hi))
     simp [this,e]
    ·exact .inr ⟨k,c,e,z.sameBut hs (cne y c e)⟩
  ·obtain ⟨w',z⟩:=I.cell y c e
   exact ⟨w',z.sameBut hs (cne y c e)⟩
  ·obtain ⟨e,n,ne,nf,d⟩:=I.pin p hp
   exact ⟨(hs.2 p.1 ne).trans e,n,ne,nf,d⟩
 ·have hfn:X.fn x=true:=by
   rcases hf with z | z
   ·exact z
   ·rw [z] at hk; cases hk
  obtain ⟨c,hc⟩:=I.ok.has x (.inl hk)
  obtain ⟨w',z⟩:=I.cell x c hc
  refine wpAny_storeName_cell I.ok.kind hk hc z (fun h' hc' hs=>?_)
  obtain ⟨oc,hoc,hocd⟩:=id z
  refine h { s with heap:=h' } ⟨I.ok,I.os,I.bare,⟨fun b o e n hb hx=>?_,fun b o e n hb hx=>?_,I.base.free,fun b o e hx=>?_,I.base.tups,I.base.frzs,I.base.tbls⟩,⟨m,hn.sameBut hs (Ne.symm (cne x c hc)),fun j y v' e1 e2 e3=>?_⟩,fun y c' e=>?_,I.free,I.freeC,fun p hp=>?_,tracked ⟨oc,hoc,I.freeC x c hc⟩ hs,by simpa using I.len⟩ ⟨c,hs,.inr hc⟩
  ·exact (hs.2 b (Nat.ne_of_lt (Nat.lt_of_lt_of_le (Heap.lt_size e) (I.ok.cab x c hfn hc)))).trans (I.base.keep b o e n hb hx)
  ·obtain ⟨sl,e1⟩:=I.base.slot b o e n hb hx
   exact ⟨sl,(hs.2 b (Nat.ne_of_lt (Nat.lt_of_lt_of_le (Heap.lt_size e) (I.ok.cab x c hfn hc)))).trans e1⟩
  ·obtain ⟨o',e1⟩:=I.base.there b o e hx
   exact ⟨o',(hs.2 b (Nat.ne_of_lt (Nat.lt_of_lt_of_le (Heap.lt_size e) (I.ok.cab x c hfn hc)))).trans e1⟩
  ·by_cases hj:j=i
   ·subst hj
    rw [hi] at e1; cases e1
    rw [List.getElem?_set_self hiσ] at e2
    cases e2
    exact ⟨u,r,.inr ⟨.inl hk,c,hc,hc'⟩⟩
   ·rw [List.getElem?_set_ne (Ne.symm hj)] at e2
    obtain ⟨u',r',q⟩:=hl j y v' e1 e2 e3
    refine ⟨u',r',?_⟩
    rcases q with q | ⟨k,c',e,z'⟩
    ·exact .inl q
    ·refine .inr ⟨k,c',e,z'.sameBut hs ?_⟩
     rintro rfl
     exact hj (zEX hN e1 (I.ok.inj _ _ _ e hc ▸ hi))
  ·by_cases hcc:c'=c
   ·subst hcc; exact ⟨_,hc'⟩
   ·obtain ⟨w2,z2⟩:=I.cell y c' e
    exact ⟨w2,z2.sameBut hs hcc⟩
  ·obtain ⟨e,n,ne,nf,d⟩:=I.pin p hp
   refine ⟨(hs.2 p.1 ?_).trans e,n,ne,nf,d⟩
   intro q
   rw [q,hoc] at e
   have q':oc=p.2:=Option.some.inj e
   exact d w' (by rw [<- q']; exact hocd)
theorem zCL {M:Model}{A:Around}{E:Value->Shared->Prop}{i:Nat}{x:Str}{v:V}{u:Value}{Q:Unit->Shared->Prop} (I:Inv X pins σ H s) (hN:X.N.Nodup) (hi:X.N[i]?=some x) (hx:Loc X.env.scope x) (r:zT v u)
  (h:∀ s',Inv X pins (σ.set i (some v)) H s'->Q () s') (hf:X.fn x=true\/X.env.scope.names.lookup x=some .local:=by first | exact .inl rfl | exact .inr rfl | assumption):wpAny M A (storeName X.env x u) Q E s :=
 zJE I hN hi hx r (fun s' I' _=>h s' I') hf
theorem Inv.call' {s':Shared}{ch:List Addr} (I:Inv X pins σ H s) (ho:s'.os=s.os) (u:Un (yQ X.stack) ch H H' s.heap s'.heap) (hok:z6 X.prog X.w H' s'.heap) (hg:AllBare s'.gens)
  (hch:∀ b∈ch,(b∈X.ex\/X.s₀.heap.objs.size<=b)/\b≠X.env.locals/\(∀ x c,X.env.cells.lookup x=some c->c≠b)/\∀ p∈X.pn++pins,p.1≠b):Inv X pins σ H' s':=by
 obtain ⟨h',g',d',t',o'⟩:=s'
 have e:o'=s.os:=ho
 subst e
 exact I.call (g':=g') (t':=t') (d':=d') u hok hg hch
end
abbrev XK:=Value->Option Addr->Hp->Prop
abbrev St:=List (Option V)
abbrev VK:=V->Hp->Prop
abbrev TE:=St->Hp->VK->Prop
abbrev TT:=St->Hp->(Bool->Hp->Prop)->Prop
abbrev TA:=St->Hp->(List V->Hp->Prop)->Prop
structure Ends where
 nx:St->Hp->Prop
 rt:VK
 bk:St->Hp->Prop:=fun _ _=>False
 ct:St->Hp->Prop:=fun _ _=>False
abbrev TS:=Ends->St->Hp->Prop
def EP (X:Cx) (pins:List (Addr × Obj)) (σ:St) (Q:VK) (u:Value) (s':Shared):Prop:=∃ v H',Inv X pins σ H' s'/\zT v u/\Q v H'
def TP (X:Cx) (pins:List (Addr × Obj)) (σ:St) (Q:Bool->Hp->Prop) (b:Bool) (s':Shared):Prop:=∃ H',Inv X pins σ H' s'/\Q b H'
def AP (X:Cx) (pins:List (Addr × Obj)) (σ:St) (Q:List V->Hp->Prop) (us:List Value) (s':Shared):Prop:=∃ vs H',Inv X pins σ H' s'/\zM vs us/\Q vs H'
def SP (X:Cx) (pins:List (Addr × Obj)) (D:Ends) (f:Flow) (s':Shared):Prop :=
 match f with
 | .next=>∃ σ' H',Inv X pins σ' H' s'/\D.nx σ' H'
 | .brk=>∃ σ' H',Inv X pins σ' H' s'/\D.bk σ' H'
 | .cont=>∃ σ' H',Inv X pins σ' H' s'/\D.ct σ' H'
 | .ret u=>∃ v σ' H',Inv X pins σ' H' s'/\zT v u/\D.rt v H'
def PE (X:Cx) (e:Expr) (t:TE):Prop :=
 ∀ (pins:List (Addr × Obj)) (s:Shared) (σ:St) (H:Hp) (Q:VK),Inv X pins σ H s->t σ H Q->wpAny (model X.prog X.w) X.A (eval e X.env) (EP X pins σ Q) X.xe s
def PT (X:Cx) (e:Expr) (t:TT):Prop :=
 ∀ (pins:List (Addr × Obj)) (s:Shared) (σ:St) (H:Hp) (Q:Bool->Hp->Prop),Inv X pins σ H s->t σ H Q->wpAny (model X.prog X.w) X.A (isTrue e X.env (eval e X.env)) (TP X pins σ Q) X.xe s
def PW (X:Cx) (e:Expr) (t:TT):Prop :=
 ∀ (whole:Sem Value) (pins:List (Addr × Obj)) (s:Shared) (σ:St) (H:Hp) (Q:Bool->Hp->Prop),Inv X pins σ H s->t σ H Q->wpAny (model X.prog X.w) X.A (isTrue e X.env whole) (TP X pins σ Q) X.xe s
theorem PW.pt {X:Cx}{e:Expr}{t:TT} (h:PW X e t):PT X e t:=h _
def PA (X:Cx) (es:List Expr) (t:TA):Prop :=
 ∀ (pos:Pos) (pins:List (Addr × Obj)) (s:Shared) (σ:St) (H:Hp) (Q:List V->Hp->Prop),Inv X pins σ H s->t σ H Q->wpAny (model X.prog X.w) X.A (spliced (backTo pos (starEach es X.env))) (AP X pins σ Q) X.xe s
def PS (X:Cx) (st:Stmt) (t:TS):Prop :=
 ∀ (pins:List (Addr × Obj)) (s:Shared) (σ:St) (H:Hp) (D:Ends),Inv X pins σ H s->t D σ H->wpAny (model X.prog X.w) X.A (exec st X.env) (SP X pins D) X.xe s
def uI (X:Cx) (st:List Stmt) (t:TS):Prop :=
 ∀ (pins:List (Addr × Obj)) (s:Shared) (σ:St) (H:Hp) (D:Ends),Inv X pins σ H s->t D σ H->wpAny (model X.prog X.w) X.A (execs st X.env) (SP X pins D) X.xe s
theorem zJ {α:Type}{t:Sem α}{Q Q':α->Shared->Prop}{M:Model}{A:Around}{E:Value->Shared->Prop}{s:Shared} (h:wpAny M A t Q E s) (hQ:∀ a s,Q a s->Q' a s):wpAny M A t Q' E s:=wpAny_mono h hQ fun _ _ x=>x
end L2
namespace L2
open PySem PySem.Spec PyProof.Rows
section
variable {X:Cx}
def g0 (i:Nat):TE:=fun σ H Q=>∃ v,σ[i]?=some (some v)/\Q v H
def tC (v:V):TE:=fun _ H Q=>Q v H
theorem zJF {i:Nat}{x:Str}{pos:Pos} (hN:X.N[i]?=some x) (hv:Vis X.env.scope x) (hd:(x == ("__debug__" : Str))=false:=by decide) (hcd:(x == ("__classdict__" : Str))=false:=by decide):PE X (.Name x pos) (g0 i):=by
 intro pins s σ H Q I h
 obtain ⟨v,e,h⟩:=h
 obtain ⟨m,hn,hl⟩:=I.loc
 obtain ⟨u,r,l⟩:=hl i x v hN e hv
 have fin:EP X pins σ Q u s:=⟨v,H,I,r,h⟩
 rcases l with ⟨hk,hm⟩ | ⟨hk,c,hc,hcell⟩
 ·exact wpAny_Name (wpAny_loadName_local I.ok.kind hk hn hm fin) hd
 ·rcases hk with hk | hk
  ·exact wpAny_Name (wpAny_loadName_cell I.ok.kind hk hc hcell fin) hd
  ·exact wpAny_Name (wpAny_loadName_free I.ok.kind hk hc hcell fin hcd) hd
theorem zH {i j pos}:PE X (.Constant (.int i) j pos) (tC (.int i)):=fun _ _ _ H _ I h=>wpAny_Constant_int ⟨.int i,H,I.tok _,⟨_,rfl⟩,h⟩
theorem vJ {b j pos}:PE X (.Constant (.bool b) j pos) (tC (.bl b)):=fun _ _ _ H _ I h=>Constant_bool ⟨.bl b,H,I,rfl,h⟩
theorem gF {j pos}:PE X (.Constant .none j pos) (tC .non):=fun _ _ _ H _ I h=>Constant_none ⟨.non,H,I,rfl,h⟩
theorem yZ {x j pos}:PE X (.Constant (.str x) j pos) (tC (.str x)):=fun _ _ _ H _ I h=>Calls.Constant_str ⟨.str x,H,I.tok _,⟨_,rfl⟩,h⟩
def Gl (X:Cx) (x:Str):Prop:=X.env.kindOf x=some .globalImplicit
theorem zBB {E:Value->Shared->Prop}{pins:List (Addr × Obj)}{s:Shared}{σ:St}{H:Hp}{x:Str}{u:Value}{pos:Pos}{Q:Value->Shared->Prop} (I:Inv X pins σ H s) (hg:Gl X x) (hm:X.mg x=some u) (h:Q u s)
  (hd:(x == ("__debug__" : Str))=false:=by decide):wpAny (model X.prog X.w) X.A (eval (.Name x pos) X.env) Q E s :=
 Calls.Name_function_global I.ok.kind hg (Calls.loadGlobal_global (by rw [I.ok.glob]; exact I.mod.glob.keeps I.bk) hm h) hd
theorem j4 {E:Value->Shared->Prop}{pins:List (Addr × Obj)}{s:Shared}{σ:St}{H:Hp}{x:Str}{u:Value}{pos:Pos}{Q:Value->Shared->Prop} (I:Inv X pins σ H s) (hg:Gl X x) (hm:X.mg x=none) (hv:bootBuiltins x=some u) (h:Q u s)
  (hn:x ≠ "__name__" := by decide) (hd:(x == ("__debug__" : Str))=false:=by decide):wpAny (model X.prog X.w) X.A (eval (.Name x pos) X.env) Q E s:=by
 obtain ⟨mb,h1,h2⟩:=I.mod.blt
 exact Calls.Name_function_global I.ok.kind hg (Calls.loadGlobal_builtin (by rw [I.ok.glob]; exact I.mod.glob.keeps I.bk) hm (by rw [I.ok.blt]; exact h1.keeps I.bk) ((h2 x hn).trans hv) h) hd
theorem yR {x:Str}{v:V}{u:Value}{pos:Pos} (hg:Gl X x) (hm:X.mg x=some u) (r:zT v u) (hd:(x == ("__debug__" : Str))=false:=by decide):PE X (.Name x pos) (tC v) :=
 fun _ _ _ H _ I h=>zBB I hg hm ⟨v,H,I,r,h⟩ hd
theorem qR {x:Str}{v:V}{u:Value}{pos:Pos} (hg:Gl X x) (hm:X.mg x=none) (hv:bootBuiltins x=some u) (r:zT v u) (hn:x ≠ "__name__" := by decide) (hd:(x == ("__debug__" : Str))=false:=by decide):PE X (.Name x pos) (tC v) :=
 fun _ _ _ H _ I h=>j4 I hg hm hv ⟨v,H,I,r,h⟩ hn hd
variable {a b:Expr}{ta tb:TE}{pos:Pos}
def PC (X:Cx) (op:CmpOp) (a b:Expr) (t:TE):Prop :=
 ∀ (pins:List (Addr × Obj)) (s:Shared) (σ:St) (H:Hp) (Q:VK),Inv X pins σ H s->t σ H Q ->
  wpAny (model X.prog X.w) X.A (eval a X.env) (fun v s₁=>wpAny (model X.prog X.w) X.A (eval b X.env) (fun u s₂=>wpAny (model X.prog X.w) X.A (compareOp op v u) (EP X pins σ Q) X.xe s₂) X.xe s₁) X.xe s
theorem zJG (b:Expr) {op:CmpOp} (h:op≠.In) (h2:op≠.NotIn):behindInMarks op b=false:=by
 have e1:(op == CmpOp.In)=false:=by cases op <;> first | rfl | exact absurd rfl h
 have e2:(op == CmpOp.NotIn)=false:=by cases op <;> first | rfl | exact absurd rfl h2
 cases b <;> simp [behindInMarks,e1,e2]
def tB (t:TE):TT:=fun σ H Q=>t σ H fun x H1=>∃ c,x=.bl c/\Q c H1
theorem zJH {op:CmpOp}{t:TE} (h:PC X op a b t) (h1:behindInMarks op b=false:=by first | exact zJG _ (by decide) (by decide) | rfl):PT X (.Compare a [op] [b] pos) (tB t):=by
 intro pins s σ H Q I hw
 refine wpAny_isTrue_Compare1 (zJ (h pins s σ H _ I hw) fun v s1 h1=>zJ h1 fun u s2 h2=>zJ h2 fun c s3 ⟨x,H1,I1,r1,q1⟩=>?_) h1
 obtain ⟨d,rfl,q⟩:=q1
 cases r1
 exact wpAny_truthy_bool ⟨H1,I1,q⟩
theorem yV {e:Expr}{t:TE} (h:PE X e t) (he:∀ whole,isTrue e X.env whole=(do let v <- whole; standAt e.pos; holding [v] (truthy v)):=by intro _; rfl):PT X e (tB t):=by
 intro pins s σ H Q I hw
 refine isTrue_plain (zJ (h pins s σ H _ I hw) fun v s1 ⟨x,H1,I1,r1,q1⟩=>?_) (he _)
 obtain ⟨d,rfl,q⟩:=q1
 cases r1
 exact wpAny_truthy_bool ⟨H1,I1,q⟩
variable {tA tB':TT}{vI:List Expr}
def zJI (t u:TT):TT:=fun σ H Q=>t σ H fun c H1=>if c=true then u σ H1 Q else Q false H1
def tOr (t u:TT):TT:=fun σ H Q=>t σ H fun c H1=>if c=true then Q true H1 else u σ H1 Q
def zJJ (t:TT):TT:=fun σ H Q=>t σ H fun c H1=>Q (!c) H1
theorem zEY (ha:PT X a tA):PW X (.BoolOp .And [a] pos) tA:=by
 intro wh pins s σ H Q I h
 refine isTrue_and (zJ (ha pins s σ H Q I h) fun c s1 e=>?_)
 cases c with
 | true=>exact isTrue_and_nil e
 | false=>exact e
theorem uS (ha:PT X a tA):PW X (.BoolOp .Or [a] pos) tA:=by
 intro wh pins s σ H Q I h
 refine isTrue_or (zJ (ha pins s σ H Q I h) fun c s1 e=>?_)
 cases c with
 | false=>exact isTrue_or_nil e
 | true=>exact e
theorem zEZ (ha:PT X a tA) (hb:PW X (.BoolOp .And (b::vI) pos) tB'):PW X (.BoolOp .And (a::b::vI) pos) (zJI tA tB'):=by
 intro wh pins s σ H Q I h
 refine isTrue_and (zJ (ha pins s σ H _ I h) fun c s1 ⟨H1,I1,q1⟩=>?_)
 cases c with
 | true=>exact hb wh pins s1 σ H1 Q I1 q1
 | false=>exact ⟨H1,I1,q1⟩
theorem uJ (ha:PT X a tA) (hb:PW X (.BoolOp .Or (b::vI) pos) tB'):PW X (.BoolOp .Or (a::b::vI) pos) (tOr tA tB'):=by
 intro wh pins s σ H Q I h
 refine isTrue_or (zJ (ha pins s σ H _ I h) fun c s1 ⟨H1,I1,q1⟩=>?_)
 cases c with
 | true=>exact ⟨H1,I1,q1⟩
 | false=>exact hb wh pins s1 σ H1 Q I1 q1
theorem yS (ha:PT X a tA):PT X (.UnaryOp .Not a pos) (zJJ tA):=by
 intro pins s σ H Q I h
 exact isTrue_not (ha pins s σ H (fun c H1=>Q (!c) H1) I h)
def zJK (ta tb:TE):TE:=fun σ H Q=>ta σ H fun x H1=>∃ c,x=.bl c/\if c=true then tb σ H1 Q else Q (.bl false) H1
def zJL (ta tb:TE):TE:=fun σ H Q=>ta σ H fun x H1=>∃ c,x=.bl c/\if c=true then Q (.bl true) H1 else tb σ H1 Q
theorem gG {op}{t:TE} (h:PE X a t):PE X (.BoolOp op [a] pos) t:=fun pins s σ H Q I hw=>BoolOp_one (h pins s σ H Q I hw)
theorem zAQ (ha:PE X a ta) (hb:PE X (.BoolOp .And (b::vI) pos) tb):PE X (.BoolOp .And (a::b::vI) pos) (zJK ta tb):=by
 intro pins s σ H Q I h
 refine BoolOp_and (zJ (ha pins s σ H _ I h) fun v s1 ⟨x,H1,I1,r1,q1⟩=>?_)
 obtain ⟨c,rfl,q1⟩:=q1
 cases r1
 refine wpAny_truthy_bool ?_
 cases c with
 | true=>exact hb pins s1 σ H1 Q I1 q1
 | false=>exact ⟨.bl false,H1,I1,rfl,q1⟩
theorem zEa (ha:PE X a ta) (hb:PE X (.BoolOp .Or (b::vI) pos) tb):PE X (.BoolOp .Or (a::b::vI) pos) (zJL ta tb):=by
 intro pins s σ H Q I h
 refine BoolOp_or (zJ (ha pins s σ H _ I h) fun v s1 ⟨x,H1,I1,r1,q1⟩=>?_)
 obtain ⟨c,rfl,q1⟩:=q1
 cases r1
 refine wpAny_truthy_bool ?_
 cases c with
 | false=>exact hb pins s1 σ H1 Q I1 q1
 | true=>exact ⟨.bl true,H1,I1,rfl,q1⟩
end
end L2
namespace L2
open PySem PySem.Spec PyProof.Rows
def yC (K:PySem.W.Frag) (H:Hp) (a:Addr) (xs:List V):Prop :=
 Rd H a (.lst xs) \/
  ∃ (o:Obj) (its:Array Value) (n:Nat),K.lookup a=some o/\o.cls=.type "list" /\ o.dict=none/\o.data=.seq its n/\its.size<=sizeLine/\zM xs its.toList
def zZ (K:PySem.W.Frag) (H:Hp) (a:Addr) (xs:List V):Prop :=
 Rd H a (.tup xs) \/
  ∃ (o:Obj) (its:Array Value) (n:Nat),K.lookup a=some o/\o.cls=.type "tuple" /\ o.data=.seq its n/\its.size<=sizeLine/\zM xs its.toList
def zJM:Value->Option V
 | .none=>some .non
 | .bool b=>some (.bl b)
 | .int i _=>some (.int i)
 | .str x _=>some (.str x)
 | .bytes b _=>some (.byt b)
 | .float b _=>some (.flt b)
 | .ref a=>some (.ref a)
 | .type n=>some (.ty n)
 | _=>none
theorem zT.abs {x:V}{u:Value} (r:zT x u):zJM u=some x:=by
 cases x with
 | non=>cases r; rfl
 | bl _=>cases r; rfl
 | int _=>obtain ⟨t,rfl⟩:=r; rfl
 | str _=>obtain ⟨t,rfl⟩:=r; rfl
 | byt _=>obtain ⟨t,rfl⟩:=r; rfl
 | flt _=>obtain ⟨t,rfl⟩:=r; rfl
 | ref _=>cases r; rfl
 | ty _=>cases r; rfl
theorem zT.inj {x y:V}{u:Value} (r:zT x u) (q:zT y u):x=y:=Option.some.inj (r.abs.symm.trans q.abs)
theorem zM.inj:∀ {xs ys:List V}{us:List Value},zM xs us->zM ys us->xs=ys
 | _,_,_,.nil,.nil=>rfl
 | _,_,_,.cons r t,.cons r' t'=>by rw [r.inj r',zM.inj t t']
section
variable {X:Cx}{pins:List (Addr × Obj)}{σ:St}{H:Hp}{s:Shared}{a:Addr}{xs ys:List V}
theorem yC.of {K:PySem.W.Frag} (h:H a=some (.lst xs)):yC K H a xs:=.inl (.inl h)
theorem zZ.of {K:PySem.W.Frag} (h:H a=some (.tup xs)):zZ K H a xs:=.inl (.inl h)
theorem Inv.list (I:Inv X pins σ H s) (h:yC X.K H a xs):∃ its:List Value,zM xs its/\PlainL s.heap a its.toArray/\xs.length<=sizeLine:=by
 rcases h with h | ⟨o,its,n,hk,hc,hd,hs,hz,r⟩
 ·obtain ⟨z,its,n,r,e⟩:=h.ok I.hok
  exact ⟨its,r,⟨_,n,e,rfl,rfl,rfl⟩,z⟩
 ·refine ⟨its.toList,r,⟨o,n,I.kIn a o hk,hc,hd,by simpa using hs⟩,?_⟩
  have e:=r.length
  simp only [Array.length_toList] at e
  omega
theorem Inv.tuple (I:Inv X pins σ H s) (h:zZ X.K H a xs):∃ its:List Value,zM xs its/\IsTup s.heap a its.toArray/\xs.length<=sizeLine:=by
 rcases h with h | ⟨o,its,n,hk,hc,hs,hz,r⟩
 ·obtain ⟨z,its,r,p⟩:=h.ok I.hok
  exact ⟨its,r,p,z⟩
 ·refine ⟨its.toList,r,⟨o,I.kIn a o hk,hc,n,by simpa using hs⟩,?_⟩
  have e:=r.length
  simp only [Array.length_toList] at e
  omega
theorem Inv.list_inj (I:Inv X pins σ H s) (h:yC X.K H a xs) (h':yC X.K H a ys):xs=ys:=by
 obtain ⟨its,r,⟨o,n,e,_,_,d⟩,_⟩:=I.list h
 obtain ⟨its',r',⟨o',n',e',_,_,d'⟩,_⟩:=I.list h'
 rw [e] at e'; cases e'
 rw [d] at d'
 injection d' with d1 _
 have:its=its':=by simpa using congrArg Array.toList d1
 subst this
 exact r.inj r'
theorem Inv.tuple_inj (I:Inv X pins σ H s) (h:zZ X.K H a xs) (h':zZ X.K H a ys):xs=ys:=by
 obtain ⟨its,r,⟨o,e,_,n,d⟩,_⟩:=I.tuple h
 obtain ⟨its',r',⟨o',e',_,n',d'⟩,_⟩:=I.tuple h'
 rw [e] at e'; cases e'
 rw [d] at d'
 injection d' with d1 _
 have:its=its':=by simpa using congrArg Array.toList d1
 subst this
 exact r.inj r'
end
abbrev Cx.wish (X:Cx) (E:Value->Shared->Prop):Cx:={ X with xe:=E }
abbrev Cx.nox (X:Cx):Cx:=X.wish fun _ _=>False
theorem Cx.Ok.wish {X:Cx} (ok:X.Ok) (E:Value->Shared->Prop):(X.wish E).Ok :=
 ⟨ok.mod,ok.kind,ok.glob,ok.blt,ok.above,ok.inj,ok.has,ok.cab,ok.hd,ok.frames,ok.stk,ok.exf,ok.bs,ok.bsz,ok.noex,ok.exfs,ok.funs,ok.frf⟩
theorem Cx.Ok.unwish {X:Cx}{E:Value->Shared->Prop} (ok:(X.wish E).Ok):X.Ok :=
 ⟨ok.mod,ok.kind,ok.glob,ok.blt,ok.above,ok.inj,ok.has,ok.cab,ok.hd,ok.frames,ok.stk,ok.exf,ok.bs,ok.bsz,ok.noex,ok.exfs,ok.funs,ok.frf⟩
section
variable {X:Cx}{pins:List (Addr × Obj)}{σ:St}{H:Hp}{s:Shared}{E:Value->Shared->Prop}
theorem Inv.wish (I:Inv X pins σ H s) (E:Value->Shared->Prop):Inv (X.wish E) pins σ H s:=⟨I.ok.wish E,I.os,I.bare,I.base,I.loc,I.cell,I.free,I.freeC,I.pin,I.hok,I.len⟩
theorem Inv.unwish (I:Inv (X.wish E) pins σ H s):Inv X pins σ H s:=⟨I.ok.unwish,I.os,I.bare,I.base,I.loc,I.cell,I.free,I.freeC,I.pin,I.hok,I.len⟩
theorem SP.unwish {D:Ends}{f:Flow}{s':Shared} (h:SP (X.wish E) pins D f s'):SP X pins D f s':=by
 cases f with
 | next=>obtain ⟨σ',H',I,q⟩:=h; exact ⟨σ',H',I.unwish,q⟩
 | brk=>obtain ⟨σ',H',I,q⟩:=h; exact ⟨σ',H',I.unwish,q⟩
 | cont=>obtain ⟨σ',H',I,q⟩:=h; exact ⟨σ',H',I.unwish,q⟩
 | ret u=>obtain ⟨v,σ',H',I,r,q⟩:=h; exact ⟨v,σ',H',I.unwish,r,q⟩
theorem uI.nox {st:List Stmt}{t:TS} (h:uI X.nox st t):uI X st t:=fun pins s σ H D I hw =>
 wpAny_mono (h pins s σ H D (I.wish _) hw) (fun _ _ q=>q.unwish) fun _ _ z=>False.elim z
end
section
variable {X:Cx}{st:Stmt}{vI:List Stmt}{t u:TS}{e:Expr}{te:TE}{pos:Pos}
def zJN:TS:=fun D σ H=>D.nx σ H
def zJO (t u:TS):TS:=fun D σ H=>t { D with nx:=u D } σ H
theorem yH:uI X [] zJN:=fun _ _ σ H _ I h=>wpAny_execs_nil ⟨σ,H,I,h⟩
theorem zG (h1:PS X st t) (h2:uI X vI u):uI X (st::vI) (zJO t u):=by
 intro pins s σ H D I h
 refine wpAny_execs_cons (zJ (h1 pins s σ H { D with nx:=u D } I h) fun f s1 q=>?_)
 cases f with
 | next =>
  obtain ⟨σ',H',I',q⟩:=q
  exact h2 pins s1 σ' H' D I' q
 | ret v=>exact q
 | brk=>exact q
 | cont=>exact q
theorem zE (h1:PS X st t):uI X [st] t:=by
 intro pins s σ H D I h
 refine wpAny_execs_cons (zJ (h1 pins s σ H D I h) fun f s1 q=>?_)
 cases f with
 | next=>exact wpAny_execs_nil q
 | ret v=>exact q
 | brk=>exact q
 | cont=>exact q
theorem Inv.quiet {pins:List (Addr × Obj)}{σ:St}{H:Hp}{s:Shared} (I:Inv X pins σ H s):interactive X.env=false:=by simp [interactive,I.ok.kind]
def zJP (te:TE):TS:=fun D σ H=>te σ H fun _ H1=>D.nx σ H1
theorem vD (he:PE X e te) (hs:swapsWith e none pos.line X.env=pure false:=by rfl):PS X (.Expr e pos) (zJP te):=by
 intro pins s σ H D I h
 exact wpAny_Expr_any (zJ (he pins s σ H _ I h) fun v s1 ⟨x,H1,I1,r1,q1⟩=>⟨σ,H1,I1,q1⟩) I.quiet hs
def zJQ (te:TE):TS:=fun D σ H=>te σ H D.rt
theorem zP (he:PE X e te):PS X (.Return (some e) pos) (zJQ te):=by
 intro pins s σ H D I h
 exact wpAny_Return_some (zJ (he pins s σ H _ I h) fun v s1 ⟨x,H1,I1,r1,q1⟩=>⟨x,σ,H1,I1,r1,q1⟩)
def zJR (c:TT) (t u:TS):TS:=fun D σ H=>c σ H fun b H1=>if b=true then t D σ H1 else u D σ H1
theorem yI {c:Expr}{a b:List Stmt}{tc:TT} (hc:PT X c tc) (ha:uI X a t) (hb:uI X b u):PS X (.If c a b pos) (zJR tc t u):=by
 intro pins s σ H D I h
 refine wpAny_If (zJ (hc pins s σ H _ I h) fun d s1 ⟨H1,I1,q1⟩=>?_)
 cases d with
 | true=>exact ha pins s1 σ H1 D I1 q1
 | false=>exact hb pins s1 σ H1 D I1 q1
def zJS:TS:=fun _ _ _=>False
theorem zCM:PS X st zJS:=fun _ _ _ _ _ _ h=>h.elim
end
abbrev TG:=V->St->Hp->(St->Hp->Prop)->Prop
abbrev kO:=List V->St->Hp->(St->Hp->Prop)->Prop
def PG (X:Cx) (target:Expr) (t:TG):Prop :=
 ∀ (pins:List (Addr × Obj)) (s:Shared) (σ:St) (H:Hp) (v:V) (u:Value) (Q:St->Hp->Prop),Inv X pins σ H s->zT v u->t v σ H Q ->
  wpAny (model X.prog X.w) X.A (assign target X.env u) (fun _ s'=>∃ σ' H',Inv X pins σ' H' s'/\Q σ' H') X.xe s
def PGs (X:Cx) (ts:List Expr) (t:kO):Prop :=
 ∀ (pins:List (Addr × Obj)) (s:Shared) (σ:St) (H:Hp) (vs:List V) (us:List Value) (Q:St->Hp->Prop),Inv X pins σ H s->zM vs us->t vs σ H Q ->
  wpAny (model X.prog X.w) X.A (assignInOrder ((assignEach ts X.env).map (·.2)) us) (fun _ s'=>∃ σ' H',Inv X pins σ' H' s'/\Q σ' H') X.xe s
section
variable {X:Cx}{pos:Pos}
def zCN (i:Nat):TG:=fun v σ H Q=>Q (σ.set i (some v)) H
theorem yG {i:Nat}{x:Str} (hN:X.N.Nodup) (hi:X.N[i]?=some x) (hx:Loc X.env.scope x) (hf:X.fn x=true\/X.env.scope.names.lookup x=some .local:=by first | exact .inl rfl | exact .inr rfl | assumption):PG X (.Name x pos) (zCN i):=by
 intro pins s σ H v u Q I r h
 exact wpAny_assign_Name (zCL I hN hi hx r (fun s' I'=>⟨_,H,I',h⟩) hf)
def zJT:kO:=fun vs σ H Q=>vs=[]/\Q σ H
def zJU (t:TG) (u:kO):kO:=fun vs σ H Q=>∃ v r,vs=v::r/\t v σ H fun σ' H'=>u r σ' H' Q
theorem jE:PGs X [] zJT:=by
 intro pins s σ H vs us Q I r h
 obtain ⟨e,h⟩:=h
 subst e
 cases r
 exact assignInOrder_nil ⟨σ,H,I,h⟩
theorem vQ {e:Expr}{es:List Expr}{t:TG}{u:kO} (h1:PG X e t) (h2:PGs X es u)
  (hs:(assignEach (e::es) X.env).map (·.2)=assign e X.env::(assignEach es X.env).map (·.2):=by rfl):PGs X (e::es) (zJU t u):=by
 intro pins s σ H vs us Q I r h
 obtain ⟨v,vr,e1,h⟩:=h
 subst e1
 cases r with
 | cons r rr =>
  rw [hs]
  refine assignInOrder_cons (zJ (h1 pins s σ H _ _ _ I r h) fun _ s1 ⟨σ1,H1,I1,q1⟩=>?_)
  exact h2 pins s1 σ1 H1 _ _ Q I1 rr q1
def zEb (K:PySem.W.Frag) (n:Nat) (t:kO):TG:=fun v σ H Q=>∃ a xs,v=.ref a/\zZ K H a xs/\xs.length=n/\t xs σ H Q
theorem g6 {es:List Expr}{k:Nat}{t:kO}{n:Nat} (hc:X.calm=true) (h:PGs X es t)
  (hn:(assignEach es X.env).length=n:=by rfl) (hst:(assignEach es X.env).findIdx? (·.1)=none:=by rfl):PG X (.Tuple es k pos) (zEb X.K n t):=by
 intro pins s σ H v u Q I r hw
 obtain ⟨a,xs,e1,hq,hl,hw⟩:=hw
 subst e1
 cases r
 obtain ⟨its,rv,ht,hz⟩:=I.tuple hq
 refine assign_Tuple_tuple (I.ok.hd hc) ht (by simp [hn,<- hl,rv.length]) hst fun h' hx=>?_
 have I1:Inv X pins σ H { s with heap:=h' }:=I.kept (t':=s.toks) fun b o e=>hx b o (Nat.ne_of_lt (Heap.lt_size e)) e
 exact h pins _ σ H xs _ Q I1 (by simpa using rv) hw
def zCO (te:TE) (g:TG):TS:=fun D σ H=>te σ H fun x H1=>g x σ H1 D.nx
theorem zJV {tg e:Expr}{te:TE}{g:TG} (he:PE X e te) (hg:PG X tg g) (hs:swapsWithSole [tg] e pos.line X.env=pure false:=by rfl) (hw:swappedStores [tg] e X.env=pure none:=by rfl)
  (h1:(assignEach [tg] X.env).map (·.2)=[assign tg X.env]:=by rfl):PS X (.Assign [tg] e pos) (zCO te g):=by
 intro pins s σ H D I h
 refine wpAny_Assign_stores (zJ (he pins s σ H _ I h) fun v s1 ⟨x,H1,I1,r1,q1⟩=>?_) hs hw
 rw [h1]
 exact zJ (hg pins s1 σ H1 x v _ I1 r1 q1) fun _ s2 q=>q
theorem z9 {i:Nat}{x:Str}{e:Expr}{te:TE}{pos':Pos} (hN:X.N.Nodup) (hi:X.N[i]?=some x) (hx:Loc X.env.scope x) (he:PE X e te) (hs:swapsWith e (some (.Name x pos')) pos.line X.env=pure false:=by rfl) (hf:X.fn x=true\/X.env.scope.names.lookup x=some .local:=by first | exact .inl rfl | exact .inr rfl | assumption) :
  PS X (.Assign [.Name x pos'] e pos) (zCO te (zCN i)):=by
 intro pins s σ H D I h
 refine wpAny_Assign_Name (zJ (he pins s σ H _ I h) fun v s1 ⟨y,H1,I1,r1,q1⟩=>?_) hs
 exact zCL I1 hN hi hx r1 (fun s2 I2=>⟨_,H1,I2,q1⟩) hf
end
section
variable {X:Cx}{pos:Pos}
def zJW (c:TT) (tb:TS):TS:=fun D σ H=>∃ W:Nat->St->Hp->Prop,(∃ m,W m σ H)/\∀ m σ H,W m σ H ->
 c σ H fun b H1=>if b=true then ∃ N:St->Hp->Prop,(∀ σ' H',N σ' H'->∃ m',m' < m/\W m' σ' H')/\tb { D with nx:=N,ct:=N,bk:=D.nx } σ H1 else D.nx σ H1
theorem zCP {c:Expr}{body:List Stmt}{tc:TT}{tb:TS} (hp:PassesOwn (model X.prog X.w) X.A X.env X.xe) (hc:PT X c tc) (hb:uI X body tb):PS X (.While c body [] pos) (zJW tc tb):=by
 intro pins s σ H D I h
 obtain ⟨W,⟨m0,w0⟩,turn⟩:=h
 refine wpAny_While (codeAny_whileLoop (fun n s'=>∃ σ' H',Inv X pins σ' H' s'/\W n σ' H') ?_ m0 ⟨σ,H,I,w0⟩)
 rintro n s1 ⟨σ1,H1,I1,w1⟩
 refine wpAny_passesOwn hp (zJ (hc pins s1 σ1 H1 _ I1 (turn n σ1 H1 w1)) fun b s2 ⟨H2,I2,q2⟩=>?_)
 cases b with
 | true =>
  obtain ⟨N,hN,q2⟩:=q2
  rw [if_pos rfl]
  refine wpAny_passesOwn hp (zJ (hb pins s2 σ1 H2 _ I2 q2) fun f s3 q3=>?_)
  cases f with
  | next =>
   obtain ⟨σ3,H3,I3,n3⟩:=q3
   obtain ⟨m',hm,w3⟩:=hN σ3 H3 n3
   exact ⟨m',hm,σ3,H3,I3,w3⟩
  | cont =>
   obtain ⟨σ3,H3,I3,n3⟩:=q3
   obtain ⟨m',hm,w3⟩:=hN σ3 H3 n3
   exact ⟨m',hm,σ3,H3,I3,w3⟩
  | brk=>exact q3
  | ret v=>exact q3
 | false =>
  rw [if_neg Bool.false_ne_true]
  exact wpAny_execs_nil ⟨σ1,H2,I2,q2⟩
end
structure It where
 go:Nat->Hp->Prop
 yld:Nat->Hp->V->Hp->Prop
 stop:Nat->Hp->Prop
def qE (X:Cx) (pins:List (Addr × Obj)) (H:Hp) (b:Addr):Prop :=
 H b=none/\b≠X.env.locals/\b ∉ X.fs/\(b∈X.ex\/X.s₀.heap.objs.size<=b)/\(∀ x c,X.env.cells.lookup x=some c->c≠b)/\∀ p∈X.pn++pins,p.1≠b
theorem Inv.fpOk {X:Cx}{pins:List (Addr × Obj)}{σ:St}{H H':Hp}{s:Shared}{b:Addr} (I:Inv X pins σ H s) (hb:s.heap.objs.size<=b) (hn:H' b=none):qE X pins H' b:=by
 refine ⟨hn,Nat.ne_of_gt (Nat.lt_of_lt_of_le I.lt hb),I.nofs hb,.inr (Nat.le_trans I.sz hb),fun x c e z=>?_,fun p hp z=>?_⟩
 ·obtain ⟨v,q⟩:=I.cell x c e
  exact absurd (Nat.lt_of_lt_of_le q.lt (by rw [z]; exact hb)) (Nat.lt_irrefl _)
 ·exact absurd (Nat.lt_of_lt_of_le (Heap.lt_size (I.pin p hp).1) (by rw [z]; exact hb)) (Nat.lt_irrefl _)
structure Turn (P:Program) (w:World) (K:PySem.W.Frag) (tg:Expr) (J:It) (fp:List Addr) (it:Addr) (tn:Nat->Heap->Prop):Prop where
 mem:it∈fp
 obj:∀ i h,tn i h->∀ b∈fp,∃ o,h.get? b=some o/\∀ v,o.data≠.cell v
 keep:∀ i h h',tn i h->(∀ b∈fp,∀ o,h.get? b=some o->h'.get? b=some o)->tn i h'
 item:∀ (X:Cx),X.prog=P->X.w=w->X.K=K->X.calm=true->∀ (i:Nat) (pins:List (Addr × Obj)) (s:Shared) (σ:St) (H:Hp) (E:Value->Shared->Prop),Inv X pins σ H s->(∀ b∈fp,qE X pins H b)->tn i s.heap->J.go i H ->
  wpAny (model P w) X.A (pyNext (.ref it)) (fun r s1=>∃ u,r=some u /\
   wpAny (model P w) X.A (letOwnedTupleGo tg (.ref it) u) (fun _ s2=>∃ x H',Inv X pins σ H' s2/\zT x u/\J.yld i H x H'/\tn (i+1) s2.heap/\∀ b∈fp,H' b=none) E s1) E s
 done:∀ (X:Cx),X.prog=P->X.w=w->X.K=K->X.calm=true->∀ (i:Nat) (pins:List (Addr × Obj)) (s:Shared) (σ:St) (H:Hp) (E:Value->Shared->Prop),Inv X pins σ H s->(∀ b∈fp,qE X pins H b)->tn i s.heap->J.stop i H ->
  wpAny (model P w) X.A (pyNext (.ref it)) (fun r s1=>r=none/\Inv X pins σ H s1) E s
 self:∀ (A:Around) (i:Nat) (s:Shared) (Q:Value->Shared->Prop) (E:Value->Shared->Prop),tn i s.heap->Q (.ref it) s->wpAny (model P w) A (pyIter (.ref it)) Q E s
abbrev TI:=St->Hp->(It->Hp->Prop)->Prop
def PIE (X:Cx) (pins:List (Addr × Obj)) (σ:St) (tg:Expr) (R:It->Hp->Prop) (itv:Value) (s2:Shared):Prop :=
 ∃ (it:Addr) (fp:List Addr) (tn:Nat->Heap->Prop) (J:It) (H':Hp),itv=.ref it/\Inv X pins σ H' s2/\Turn X.prog X.w X.K tg J fp it tn/\tn 0 s2.heap/\(∀ b∈fp,qE X pins H' b)/\R J H'
def PI (X:Cx) (tg iter:Expr) (wi:TI):Prop :=
 ∀ (pins:List (Addr × Obj)) (s:Shared) (σ:St) (H:Hp) (R:It->Hp->Prop),Inv X pins σ H s->wi σ H R ->
  wpAny (model X.prog X.w) X.A (eval iter X.env) (fun v s1=>wpAny (model X.prog X.w) X.A (pyIter v) (PIE X pins σ tg R) X.xe s1) X.xe s
theorem zBC {M:Model}{A:Around}{E:Value->Shared->Prop}{s:Shared}{tg:Expr}{it:Addr}{u:Value}{o:Obj}{n:String}{vs:Array Value}{Q:Unit->Shared->Prop} (ho:s.heap.get? it=some o) (hc:o.cls=.type n) (hd:o.data=.fields vs)
  (hn:["enumerate", "zip", "dict_itemiterator", "dict_reverseitemiterator", "odict_iterator", "itertools.zip_longest", "itertools.pairwise"].contains n=false) (hQ:Q () s):wpAny M A (letOwnedTupleGo tg (.ref it) u) Q E s:=by
 unfold letOwnedTupleGo
 cases tg <;> first
  | exact wpAny_pure hQ
  | (cases u <;> first
    | exact wpAny_pure hQ
    | (refine wpAny_bind (wpAny_load ho ?_)
       rw [hc,hd]
       show wpAny M A (if (["enumerate", "zip", "dict_itemiterator", "dict_reverseitemiterator", "odict_iterator", "itertools.zip_longest", "itertools.pairwise"].contains n && vs[0]? == some (rawInt _))=true then _ else _) Q E s
       rw [if_neg (by intro h; rw [hn,Bool.false_and] at h; cases h)]
       exact wpAny_pure hQ))
def Itl (K:PySem.W.Frag) (a:Addr):It :=
 ⟨fun i H=>∃ xs x,yC K H a xs/\xs[i]?=some x,fun i H x H'=>H'=H/\∀ xs,yC K H a xs->xs[i]?=some x,fun i H=>∃ xs,yC K H a xs/\xs.length<=i⟩
def Itt (K:PySem.W.Frag) (a:Addr):It :=
 ⟨fun i H=>∃ xs x,zZ K H a xs/\xs[i]?=some x,fun i H x H'=>H'=H/\∀ xs,zZ K H a xs->xs[i]?=some x,fun i H=>∃ xs,zZ K H a xs/\xs.length<=i⟩
def Itr (lo:Int) (n:Nat):It:=⟨fun i _=>i < n,fun i H x H'=>H'=H/\x=.int (lo+i),fun i _=>n<=i⟩
theorem zJX {P:Program}{w:World}{K:PySem.W.Frag}{tg:Expr} (a it:Addr):Turn P w K tg (Itl K a) [it] it (fun i h=>h.IsListIter it a i) where
 mem:=by simp
 obj:=fun i h st b hb=>by
  have e:b=it:=by simpa using hb
  subst e
  obtain ⟨o,e,c,d⟩:=st
  exact ⟨o,e,fun v z=>by rw [d] at z; cases z⟩
 keep:=fun i h h' st k=>st.at fun o e=>k it (by simp) o e
 item:=by
  intro X hP hw hK hc i pins s σ H E I hf st hg
  subst hP hw hK
  obtain ⟨xs,x,hq,hx⟩:=hg
  obtain ⟨its,rv,p,hz⟩:=I.list hq
  obtain ⟨u,hu,ru⟩:=rv.get hx
  obtain ⟨f0,f1,f2,f3,f4,f5⟩:=hf it (by simp)
  refine wpAny_pyNext_list_item st p.isList (x:=u) (by simpa using hu) fun h' st' sb=>?_
  have I1:Inv X pins σ H { s with heap:=h' }:=I.turned (t':=s.toks) (fun b o hb e=>(sb.2 b hb).trans e) f0 f1 f3 f4 f5
  obtain ⟨o,e,c,d⟩:=id st'
  exact ⟨u,rfl,zBC (s:={ s with heap:=h' }) e c d (by decide) ⟨x,H,I1,ru,⟨rfl,fun ys hy=>by rw [I.list_inj hy hq]; exact hx⟩,st',fun b hb=>(hf b hb).1⟩⟩
 done:=by
  intro X hP hw hK hc i pins s σ H E I hf st hg
  subst hP hw hK
  obtain ⟨xs,hq,hx⟩:=hg
  obtain ⟨its,rv,p,hz⟩:=I.list hq
  obtain ⟨f0,f1,f2,f3,f4,f5⟩:=hf it (by simp)
  have hl:=rv.length
  exact wpAny_pyNext_list_end (I.ok.hd hc) st p.isList (by simp; omega) fun h' eb=>⟨rfl,I.turned (t':=s.toks) (fun b o hb e=>eb b o hb e) f0 f1 f3 f4 f5⟩
 self:=fun _ _ _ _ _ st h=>wpAny_pyIter_listiter st h
theorem zJY {P:Program}{w:World}{K:PySem.W.Frag}{tg:Expr} (a it:Addr):Turn P w K tg (Itt K a) [it] it (fun i h=>h.IsTupleIter it a i) where
 mem:=by simp
 obj:=fun i h st b hb=>by
  have e:b=it:=by simpa using hb
  subst e
  obtain ⟨o,e,c,d⟩:=st
  exact ⟨o,e,fun v z=>by rw [d] at z; cases z⟩
 keep:=fun i h h' st k=>st.at fun o e=>k it (by simp) o e
 item:=by
  intro X hP hw hK hc i pins s σ H E I hf st hg
  subst hP hw hK
  obtain ⟨xs,x,hq,hx⟩:=hg
  obtain ⟨its,rv,p,hz⟩:=I.tuple hq
  obtain ⟨u,hu,ru⟩:=rv.get hx
  obtain ⟨f0,f1,f2,f3,f4,f5⟩:=hf it (by simp)
  refine wpAny_pyNext_tuple_item st (show s.heap.IsTuple a its.toArray from p) (x:=u) (by simpa using hu) fun h' st' sb=>?_
  have I1:Inv X pins σ H { s with heap:=h' }:=I.turned (t':=s.toks) (fun b o hb e=>(sb.2 b hb).trans e) f0 f1 f3 f4 f5
  obtain ⟨o,e,c,d⟩:=id st'
  exact ⟨u,rfl,zBC (s:={ s with heap:=h' }) e c d (by decide) ⟨x,H,I1,ru,⟨rfl,fun ys hy=>by rw [I.tuple_inj hy hq]; exact hx⟩,st',fun b hb=>(hf b hb).1⟩⟩
 done:=by
  intro X hP hw hK hc i pins s σ H E I hf st hg
  subst hP hw hK
  obtain ⟨xs,hq,hx⟩:=hg
  obtain ⟨its,rv,p,hz⟩:=I.tuple hq
  obtain ⟨f0,f1,f2,f3,f4,f5⟩:=hf it (by simp)
  have hl:=rv.length
  exact wpAny_pyNext_tuple_end (I.ok.hd hc) st (show s.heap.IsTuple a its.toArray from p) (by simp; omega) fun h' eb=>⟨rfl,I.turned (t':=s.toks) (fun b o hb e=>eb b o hb e) f0 f1 f3 f4 f5⟩
 self:=fun _ _ _ _ _ st h=>wpAny_pyIter_tupleiter st h
theorem zJZ {P:Program}{w:World}{K:PySem.W.Frag}{tg:Expr} (it:Addr) (lo:Int) (n:Nat):Turn P w K tg (Itr lo n) [it] it (fun i h=>IsRangeIter h it (lo+(i:Nat) * 1) ((n:Int) - (i:Nat)) 1) where
 mem:=by simp
 obj:=fun i h st b hb=>by
  have e:b=it:=by simpa using hb
  subst e
  exact ⟨_,st,fun v z=>by
   have z':Data.fields _=Data.cell v:=z
   cases z'⟩
 keep:=fun i h h' st k=>k it (by simp) _ st
 item:=by
  intro X hP hw hK hc i pins s σ H E I hf st hg
  subst hP hw hK
  obtain ⟨f0,f1,f2,f3,f4,f5⟩:=hf it (by simp)
  have W:=Walks.range (prog:=X.prog) (w:=X.w) (I.ok.hd hc) it lo 1 n
  refine W.item i s _ _ hg st fun v h' tk hv st' kk=>?_
  obtain ⟨t,rfl⟩:=hv
  have I1:Inv X pins σ H { s with heap:=h',toks:=tk }:=I.turned (fun b o hb e=>kk b o (by simpa using hb) e) f0 f1 f3 f4 f5
  refine ⟨_,rfl,zBC (s:={ s with heap:=h',toks:=tk }) (n := "range_iterator") st' rfl rfl (by decide) ⟨.int (lo+i),H,I1,⟨t,?_⟩,⟨rfl,rfl⟩,st',fun b hb=>(hf b hb).1⟩⟩
  rw [Int.mul_one]
 done:=by
  intro X hP hw hK hc i pins s σ H E I hf st hg
  subst hP hw hK
  obtain ⟨f0,f1,f2,f3,f4,f5⟩:=hf it (by simp)
  exact wpAny_pyNext_range_end (I.ok.hd hc) st (by have:n<=i:=hg; omega) fun h' eb=>⟨rfl,I.turned (t':=s.toks) (fun b o hb e=>eb b o hb e) f0 f1 f3 f4 f5⟩
 self:=fun _ _ _ _ _ st h=>wpAny_pyIter_rangeiter st h
end L2
namespace L2
open PySem PySem.Spec PyProof.Rows
section
variable {X:Cx}{tg:Expr}
def zJa (K:PySem.W.Frag) (tl:TE):TI:=fun σ H R=>tl σ H fun x H1=>∃ a,x=.ref a/\(∃ xs,yC K H1 a xs)/\R (Itl K a) H1
def zJb (K:PySem.W.Frag) (tl:TE):TI:=fun σ H R=>tl σ H fun x H1=>∃ a,x=.ref a/\(∃ xs,zZ K H1 a xs)/\R (Itt K a) H1
theorem j6 {l:Expr}{tl:TE} (hl:PE X l tl):PI X tg l (zJa X.K tl):=by
 intro pins s σ H R I h
 refine zJ (hl pins s σ H _ I h) fun v s1 ⟨x,H1,I1,r1,q1⟩=>?_
 obtain ⟨a,e,⟨xs,hq⟩,q⟩:=q1
 subst e
 cases r1
 obtain ⟨its,rv,p,hz⟩:=I1.list hq
 refine wpAny_pyIter_list p.isList ?_
 refine ⟨s1.heap.objs.size,[s1.heap.objs.size],_,_,H1,rfl,I1.kept (t':=s1.toks) fun b o e=>Heap.get?_push_of_some _ e,zJX a _,⟨_,Heap.get?_push_size _ rfl,rfl,rfl⟩,fun b hb=>?_,q⟩
 have e:b=s1.heap.objs.size:=by simpa using hb
 subst e
 exact I1.fpOk (Nat.le_refl _) (I1.hok.fresh (Nat.le_refl _))
theorem gH {l:Expr}{tl:TE} (hl:PE X l tl):PI X tg l (zJb X.K tl):=by
 intro pins s σ H R I h
 refine zJ (hl pins s σ H _ I h) fun v s1 ⟨x,H1,I1,r1,q1⟩=>?_
 obtain ⟨a,e,⟨xs,hq⟩,q⟩:=q1
 subst e
 cases r1
 obtain ⟨its,rv,p,hz⟩:=I1.tuple hq
 refine wpAny_pyIter_tuple (show s1.heap.IsTuple a its.toArray from p) ?_
 refine ⟨s1.heap.objs.size,[s1.heap.objs.size],_,_,H1,rfl,I1.kept (t':=s1.toks) fun b o e=>Heap.get?_push_of_some _ e,zJY a _,⟨_,Heap.get?_push_size _ rfl,rfl,rfl⟩,fun b hb=>?_,q⟩
 have e:b=s1.heap.objs.size:=by simpa using hb
 subst e
 exact I1.fpOk (Nat.le_refl _) (I1.hok.fresh (Nat.le_refl _))
theorem zEc {pins:List (Addr × Obj)}{σ:St}{H:Hp}{s:Shared}{R:It->Hp->Prop}{E:Value->Shared->Prop}{lo hi:Int}{t u v:Tok}{tk:Nat} (I:Inv X pins σ H s) (h1:-(2 ^ 62)<=lo) (h2:lo < 2 ^ 62) (h3:-(2 ^ 62)<=hi) (h4:hi < 2 ^ 62)
  (q:R (Itr lo (hi - lo).toNat) H):wpAny (model X.prog X.w) X.A (pyIter (.ref s.heap.objs.size)) (PIE X pins σ tg R) E { s with heap:=s.heap.push { cls:=.type "range",data:=.fields #[.int lo t,.int hi u,.int 1 v] },toks:=tk }:=by
 refine wpAny_pyIter_range (IsRange.new ..) (small_one h1 h2 h3 h4) ?_
 have I1:Inv X pins σ H { s with heap:=s.heap.push { cls:=.type "range",data:=.fields #[.int lo t,.int hi u,.int 1 v] },toks:=tk }:=I.kept fun b o e=>Heap.get?_push_of_some _ e
 refine ⟨(s.heap.push { cls:=.type "range",data:=.fields #[.int lo t,.int hi u,.int 1 v] }).objs.size,[(s.heap.push { cls:=.type "range",data:=.fields #[.int lo t,.int hi u,.int 1 v] }).objs.size],_,_,H,rfl,
  I1.kept (t':=tk) fun b o e=>Heap.get?_push_of_some _ e,zJZ _ lo (hi - lo).toNat,?_,fun b hb=>?_,q⟩
 ·have e1:lo+((0:Nat):Int) * 1=lo:=by simp
  have e2:(((hi - lo).toNat:Nat):Int) - ((0:Nat):Int)=Builtin.Range.rangeSize lo hi 1:=by rw [rangeSize_one]; split <;> omega
  show IsRangeIter _ _ (lo+((0:Nat):Int) * 1) ((((hi - lo).toNat:Nat):Int) - ((0:Nat):Int)) 1
  rw [e1,e2]
  exact Heap.get?_push_size _ rfl
 ·have e:b=(s.heap.push { cls:=.type "range",data:=.fields #[.int lo t,.int hi u,.int 1 v] }).objs.size:=by simpa using hb
  subst e
  exact I1.fpOk (Nat.le_refl _) (I1.hok.fresh (Nat.le_refl _))
def zJc (ta:TA):TI:=fun σ H R=>ta σ H fun vs H1=>∃ j:Int,vs=[.int j]/\-(2 ^ 62)<=j/\j < 2 ^ 62/\R (Itr 0 j.toNat) H1
def zJd (ta:TA):TI:=fun σ H R=>ta σ H fun vs H1=>∃ i j:Int,vs=[.int i,.int j]/\(-(2 ^ 62)<=i/\i < 2 ^ 62/\-(2 ^ 62)<=j/\j < 2 ^ 62)/\R (Itr i (j - i).toNat) H1
theorem zAR {a:Expr}{ta:TA}{p pos:Pos} (hg:Gl X "range") (hm:X.mg "range" = none) (ha:PA X [a] ta) (hs:starEach [a] X.env=[(false,eval a X.env)]:=by rfl):PI X tg (.Call (.Name "range" p) [a] [] pos) (zJc ta):=by
 intro pins s σ H R I h
 refine Call_ (j4 I hg hm boot_range (PyProof.Rows.callWith_type1 (zJ (ha pos pins s σ H _ I h) fun us s1 ⟨vs,H1,I1,r1,q1⟩=>?_) hs rfl))
 obtain ⟨j,e,q1,q2,q⟩:=q1
 subst e
 cases r1 with
 | cons r rr =>
  cases rr
  obtain ⟨t,rfl⟩:=r
  exact call_range_1 (zEc I1 (by omega) (by omega) q1 q2 (by simpa using q))
theorem zJe {a b:Expr}{ta:TA}{p pos:Pos} (hg:Gl X "range") (hm:X.mg "range" = none) (ha:PA X [a,b] ta) (hs:starEach [a,b] X.env=[(false,eval a X.env),(false,eval b X.env)]:=by rfl) (hs2:starEach [b] X.env=[(false,eval b X.env)]:=by rfl) :
  PI X tg (.Call (.Name "range" p) [a,b] [] pos) (zJd ta):=by
 intro pins s σ H R I h
 refine Call_ (j4 I hg hm boot_range (PyProof.Rows.callWith_type1 (zJ (ha pos pins s σ H _ I h) fun us s1 ⟨vs,H1,I1,r1,q1⟩=>?_) (by rw [hs,hs2]) (by rw [hs2]; rfl)))
 obtain ⟨i,j,e,⟨q1,q2,q3,q4⟩,q⟩:=q1
 subst e
 cases r1 with
 | cons r rr =>
  cases rr with
  | cons r' rr =>
   cases rr
   obtain ⟨t,rfl⟩:=r
   obtain ⟨t',rfl⟩:=r'
   exact call_range_2 (zEc I1 q1 q2 q3 q4 q)
def zJf (wi:TI) (g:TG) (tb:TS):TS:=fun D σ H=>wi σ H fun J H1=>∃ W:Nat->Nat->St->Hp->Prop,(∃ m,W 0 m σ H1)/\∀ i m σ H,W i m σ H ->
 (J.stop i H/\D.nx σ H)\/(J.go i H/\∃ N:St->Hp->Prop,(∀ σ' H',N σ' H'->∃ m',m' < m/\W (i+1) m' σ' H')/\∀ x H',J.yld i H x H'->g x σ H' fun σ2 H2=>tb { D with nx:=N,ct:=N,bk:=D.nx } σ2 H2)
def g7 (fp:List Addr) (h:Heap):List (Addr × Obj):=fp.filterMap fun b=>(h.get? b).map fun o=>(b,o)
theorem gI {fp:List Addr}{h:Heap}{b:Addr}{o:Obj} (hb:b∈fp) (e:h.get? b=some o):(b,o)∈g7 fp h:=List.mem_filterMap.mpr ⟨b,hb,by rw [e]; rfl⟩
theorem zJg {fp:List Addr}{h:Heap}{p:Addr × Obj} (hp:p∈g7 fp h):p.1∈fp/\h.get? p.1=some p.2:=by
 obtain ⟨b,hb,e⟩:=List.mem_filterMap.mp hp
 cases q:h.get? b with
 | none=>rw [q] at e; cases e
 | some o =>
  rw [q] at e
  have e':(b,o)=p:=Option.some.inj e
  subst e'
  exact ⟨hb,q⟩
theorem Inv.pinned {pins:List (Addr × Obj)}{σ:St}{H:Hp}{s:Shared}{fp:List Addr} (I:Inv X pins σ H s) (hf:∀ b∈fp,qE X pins H b) (ho:∀ b∈fp,∃ o,s.heap.get? b=some o/\∀ v,o.data≠.cell v):Inv X (pins++g7 fp s.heap) σ H s :=
 I.pins_of fun p hp=>(List.mem_append.mp hp).elim (fun z=>I.pin p (List.mem_append_right _ z)) fun z=>by
  obtain ⟨hb,e⟩:=zJg z
  obtain ⟨f0,f1,f2,_⟩:=hf p.1 hb
  obtain ⟨o,e',d⟩:=ho p.1 hb
  rw [e] at e'; cases e'
  exact ⟨e,f0,f1,f2,d⟩
theorem Inv.unpinned {pins pl:List (Addr × Obj)}{σ:St}{H:Hp}{s:Shared} (I:Inv X (pins++pl) σ H s):Inv X pins σ H s:=I.pins_of fun p hp=>I.pin p (List.mem_append_right _ (List.mem_append_left _ hp))
theorem jO {iter:Expr}{body:List Stmt}{wi:TI}{g:TG}{tb:TS}{pos:Pos} (hp:PassesOwn (model X.prog X.w) X.A X.env X.xe) (hc:X.calm=true) (hi:PI X tg iter wi) (hg:PG X tg g) (hb:uI X body tb)
  (hs:∀ x,foldedSetIterable iter X.env x=pure x:=by intro _; rfl):PS X (.For tg iter body [] pos) (zJf wi g tb):=by
 intro pins s σ H D I h
 refine wpAny_For (zJ (hi pins s σ H _ I h) fun v s1 h1=>zJ h1 fun itv s2 h2=>?_) hs
 obtain ⟨it,fp,tn,J,H2,e,I2,T,st2,f2,W,⟨m0,w0⟩,turn⟩:=h2
 subst e
 have stat:∀ {H':Hp},(∀ b∈fp,H' b=none)->∀ b∈fp,qE X pins H' b:=fun hn b hb=>⟨hn b hb,(f2 b hb).2⟩
 refine codeAny_forLoop_any (fun n s'=>∃ i σ' H',Inv X pins σ' H' s'/\tn i s'.heap/\(∀ b∈fp,H' b=none)/\W i n σ' H') ?_ m0 ⟨0,σ,H2,I2,st2,fun b hb=>(f2 b hb).1,w0⟩
 rintro n s3 ⟨i,σ3,H3,I3,st3,fr3,w3⟩
 rcases turn i n σ3 H3 w3 with ⟨stop,qn⟩ | ⟨go,N,hN,step⟩
 ·refine wpAny_passesOwn hp (zJ (T.done X rfl rfl rfl hc i pins s3 σ3 H3 X.xe I3 (stat fr3) st3 stop) fun r s4 ⟨hr,I4⟩=>?_)
  subst hr
  exact wpAny_execs_nil ⟨σ3,H3,I4,qn⟩
 ·refine wpAny_passesOwn hp (zJ (T.item X rfl rfl rfl hc i pins s3 σ3 H3 X.xe I3 (stat fr3) st3 go) fun r s4 ⟨u,hr,h4⟩=>?_)
  subst hr
  refine wpAny_passesOwn hp (zJ h4 fun _ s5 ⟨x,H5,I5,r5,y5,st5,fr5⟩=>?_)
  have I5':=I5.pinned (stat fr5) (T.obj _ _ st5)
  refine wpAny_passesOwn hp (zJ (hg _ s5 σ3 H5 x u _ I5' r5 (step x H5 y5)) fun _ s6 ⟨σ6,H6,I6,q6⟩=>?_)
  refine wpAny_passesOwn hp (zJ (hb _ s6 σ6 H6 _ I6 q6) fun f s7 q7=>?_)
  have again:∀ {σ7:St} {H7:Hp},Inv X (pins++g7 fp s5.heap) σ7 H7 s7->N σ7 H7->∃ m,m < n/\∃ i σ' H',Inv X pins σ' H' s7/\tn i s7.heap/\(∀ b∈fp,H' b=none)/\W i m σ' H':=fun {σ7 H7} I7 n7=>by
   obtain ⟨m',hm,w7⟩:=hN σ7 H7 n7
   refine ⟨m',hm,i+1,σ7,H7,I7.unpinned,T.keep _ _ _ st5 fun b hb o e=>(I7.pin (b,o) (List.mem_append_right _ (List.mem_append_right _ (gI hb e)))).1,fun b hb=>?_,w7⟩
   obtain ⟨o,e,d⟩:=T.obj _ _ st5 b hb
   exact (I7.pin (b,o) (List.mem_append_right _ (List.mem_append_right _ (gI hb e)))).2.1
  cases f with
  | next=>obtain ⟨σ7,H7,I7,n7⟩:=q7; exact again I7 n7
  | cont=>obtain ⟨σ7,H7,I7,n7⟩:=q7; exact again I7 n7
  | brk=>obtain ⟨σ7,H7,I7,q7⟩:=q7; exact ⟨σ7,H7,I7.unpinned,q7⟩
  | ret v=>obtain ⟨x7,σ7,H7,I7,r7,q7⟩:=q7; exact ⟨x7,σ7,H7,I7.unpinned,r7,q7⟩
end
end L2
namespace L2
open PySem PySem.Spec PyProof.Rows
abbrev R2:=V->V->Hp->VK->Prop
def yE (X:Cx) (f:Value->Value->Sem Value) (r:R2):Prop :=
 ∀ (pins:List (Addr × Obj)) (s:Shared) (σ:St) (H:Hp) (x y:V) (v u:Value) (Q:VK),Inv X pins σ H s->zT x v->zT y u->r x y H Q ->
  wpAny (model X.prog X.w) X.A (f v u) (EP X pins σ Q) X.xe s
def UnR (X:Cx) (f:Value->Sem Value) (r:V->Hp->VK->Prop):Prop :=
 ∀ (pins:List (Addr × Obj)) (s:Shared) (σ:St) (H:Hp) (x:V) (v:Value) (Q:VK),Inv X pins σ H s->zT x v->r x H Q ->
  wpAny (model X.prog X.w) X.A (f v) (EP X pins σ Q) X.xe s
def qF (X:Cx) (f:Value) (r:List V->Hp->VK->Prop):Prop :=
 ∀ (pins:List (Addr × Obj)) (s:Shared) (σ:St) (H:Hp) (xs:List V) (us:List Value) (Q:VK),Inv X pins σ H s->zM xs us->r xs H Q ->
  wpAny (model X.prog X.w) X.A (call f us) (EP X pins σ Q) X.xe s
def tOp (r:R2) (ta tb:TE):TE:=fun σ H Q=>ta σ H fun x H1=>tb σ H1 fun y H2=>r x y H2 Q
def tUn (r:V->Hp->VK->Prop) (ta:TE):TE:=fun σ H Q=>ta σ H fun x H1=>r x H1 Q
def rI (C:Int->Int->Prop) (g:Int->Int->V):R2:=fun x y H Q=>∃ i j,x=.int i/\y=.int j/\C i j/\Q (g i j) H
def kP (g:Int->Int->V):R2:=fun x y H Q=>∃ i j,x=.int i/\y=.int j/\Q (g i j) H
def rU (g:Int->V):V->Hp->VK->Prop:=fun x H Q=>∃ i,x=.int i/\Q (g i) H
section
variable {X:Cx}{a b c:Expr}{ta tb tc:TE}{pos:Pos}
theorem zCQ (ha:PE X a ta) (hb:PE X b tb) {pins:List (Addr × Obj)}{s:Shared}{σ:St}{H:Hp}{R:V->V->Hp->Prop} (I:Inv X pins σ H s)
  (h:ta σ H fun x H1=>tb σ H1 fun y H2=>R x y H2) {Q:Value->Shared->Prop} {f:Value->Value->Sem Value}
  (hf:∀ v u s2 x y H2,Inv X pins σ H2 s2->zT x v->zT y u->R x y H2->wpAny (model X.prog X.w) X.A (f v u) Q X.xe s2) :
  wpAny (model X.prog X.w) X.A (eval a X.env) (fun v s₁=>wpAny (model X.prog X.w) X.A (eval b X.env) (fun u s₂=>wpAny (model X.prog X.w) X.A (f v u) Q X.xe s₂) X.xe s₁) X.xe s:=by
 refine zJ (ha pins s σ H _ I h) fun v s1 ⟨x,H1,I1,r1,q1⟩=>?_
 refine zJ (hb pins s1 σ H1 _ I1 q1) fun u s2 ⟨y,H2,I2,r2,q2⟩=>?_
 exact hf v u s2 x y H2 I2 r1 r2 q2
theorem zR {op:Operator}{r:R2} (ho:yE X (binaryOp op) r) (ha:PE X a ta) (hb:PE X b tb):PE X (.BinOp a op b pos) (tOp r ta tb):=by
 intro pins s σ H Q I h
 exact wpAny_BinOp (zCQ ha hb I h fun v u s2 x y H2 I2 rx ry q=>ho pins s2 σ H2 x y v u Q I2 rx ry q)
theorem zBD {op:UnaryOp}{r:V->Hp->VK->Prop} (ho:UnR X (unaryOp op) r) (ha:PE X a ta):PE X (.UnaryOp op a pos) (tUn r ta):=by
 intro pins s σ H Q I h
 exact UnaryOp_ (zJ (ha pins s σ H _ I h) fun v s1 ⟨x,H1,I1,r1,q1⟩=>ho pins s1 σ H1 x v Q I1 r1 q1)
theorem opI {f:Value->Value->Sem Value}{C:Int->Int->Prop}{g:Int->Int->Int}
  (rule:∀ (i j:Int) (t u:Tok) (s:Shared) (Q:Value->Shared->Prop) (E:Value->Shared->Prop),C i j->Q (.int (g i j) s.toks) { s with toks:=s.toks+1 }->wpAny (model X.prog X.w) X.A (f (.int i t) (.int j u)) Q E s) :
  yE X f (rI C fun i j=>.int (g i j)):=by
 intro pins s σ H x y v u Q I rx ry h
 obtain ⟨i,j,rfl,rfl,hc,q⟩:=h
 obtain ⟨t,rfl⟩:=rx
 obtain ⟨t',rfl⟩:=ry
 exact rule i j t t' s _ _ hc ⟨.int (g i j),H,I.tok _,⟨_,rfl⟩,q⟩
theorem zEd {f:Value->Value->Sem Value}{g:Int->Int->Int}
  (rule:∀ (i j:Int) (t u:Tok) (s:Shared) (Q:Value->Shared->Prop) (E:Value->Shared->Prop),Q (.int (g i j) s.toks) { s with toks:=s.toks+1 }->wpAny (model X.prog X.w) X.A (f (.int i t) (.int j u)) Q E s) :
  yE X f (kP fun i j=>.int (g i j)):=by
 intro pins s σ H x y v u Q I rx ry h
 obtain ⟨i,j,rfl,rfl,q⟩:=h
 obtain ⟨t,rfl⟩:=rx
 obtain ⟨t',rfl⟩:=ry
 exact rule i j t t' s _ _ ⟨.int (g i j),H,I.tok _,⟨_,rfl⟩,q⟩
theorem zCR {f:Value->Value->Sem Value}{g:Int->Int->Bool}
  (rule:∀ (i j:Int) (t u:Tok) (s:Shared) (Q:Value->Shared->Prop) (E:Value->Shared->Prop),Q (.bool (g i j)) s->wpAny (model X.prog X.w) X.A (f (.int i t) (.int j u)) Q E s) :
  yE X f (kP fun i j=>.bl (g i j)):=by
 intro pins s σ H x y v u Q I rx ry h
 obtain ⟨i,j,rfl,rfl,q⟩:=h
 obtain ⟨t,rfl⟩:=rx
 obtain ⟨t',rfl⟩:=ry
 exact rule i j t t' s _ _ ⟨.bl (g i j),H,I,rfl,q⟩
def zJh (i j:Int):Prop:=0 < j/\j < 1073741824
def zBE (i j:Int):Prop:=(-(2 ^ 64) < i/\i < 2 ^ 64)\/(-(2 ^ 64) < j/\j < 2 ^ 64)
theorem zBE.ok {i j:Int} (h:zBE i j):IntMulOk i j:=by
 rcases h with ⟨h1,h2⟩ | ⟨h1,h2⟩
 ·exact .of_left (intBits_le_64 h1 h2)
 ·exact .of_right (intBits_le_64 h1 h2)
theorem yW:yE X (binaryOp .Add) (kP fun i j=>.int (i+j)):=zEd fun _ _ _ _ _ _ _ q=>add_int q
theorem zEe:yE X (binaryOp .Sub) (kP fun i j=>.int (i - j)):=zEd fun _ _ _ _ _ _ _ q=>sub_int q
theorem gJ:yE X (binaryOp .Mult) (rI zBE fun i j=>.int (i * j)):=opI fun _ _ _ _ _ _ _ hc q=>mul_int q hc.ok
theorem g8:yE X (binaryOp .FloorDiv) (rI zJh fun i j=>.int (i / j)):=opI fun i j _ _ _ _ _ hc q=>by
 have h1:(0:Int) < j:=hc.1
 have h2:j < 1073741824:=hc.2
 exact floordiv_int (by omega) (by rw [Int.fdiv_eq_ediv_of_nonneg i (by omega)]; exact q) (.inl (PyProof.noPylong_small (by omega)))
theorem j7:yE X (binaryOp .Mod) (rI (fun _ j=>0 < j) fun i j=>.int (i % j)):=opI fun i j _ _ _ _ _ hc q=>by
 have h1:(0:Int) < j:=hc
 exact mod_int' (by omega) (by rw [Int.fmod_eq_emod_of_nonneg i (by omega)]; exact q)
theorem unI {f:Value->Sem Value}{g:Int->Int}
  (rule:∀ (i:Int) (t:Tok) (s:Shared) (Q:Value->Shared->Prop) (E:Value->Shared->Prop),Q (.int (g i) s.toks) { s with toks:=s.toks+1 }->wpAny (model X.prog X.w) X.A (f (.int i t)) Q E s) :
  UnR X f (rU fun i=>.int (g i)):=by
 intro pins s σ H x v Q I rx h
 obtain ⟨i,rfl,q⟩:=h
 obtain ⟨t,rfl⟩:=rx
 exact rule i t s _ _ ⟨.int (g i),H,I.tok _,⟨_,rfl⟩,q⟩
theorem zBF:UnR X (unaryOp .USub) (rU fun i=>.int (-i)):=unI fun _ _ _ _ _ q=>neg_int q
end
def zEf:V->V->Bool
 | .non,.non=>true | .non,.int _=>true | .int _,.non=>true | .non,.bl _=>true | .bl _,.non=>true | .non,.str _=>true | .str _,.non=>true
 | .int _,.int _=>true | .bl _,.bl _=>true | .str _,.str _=>true | .byt _,.byt _=>true
 | .int _,.str _=>true | .str _,.int _=>true | .bl _,.str _=>true | .str _,.bl _=>true
 | _,_=>false
def rEq:R2:=fun x y H Q=>zEf x y=true/\Q (.bl (decide (x=y))) H
def rNe:R2:=fun x y H Q=>zEf x y=true/\Q (.bl (!decide (x=y))) H
theorem zEg {i j:Int}:decide (V.int i=V.int j)=(i == j):=by
 rw [Bool.eq_iff_iff]
 simp
theorem zEh {i j:Bool}:decide (V.bl i=V.bl j)=(i == j):=by
 rw [Bool.eq_iff_iff]
 simp
theorem zEi {i j:Str}:decide (V.str i=V.str j)=(i == j):=by
 rw [Bool.eq_iff_iff]
 simp
theorem zEj {i j:Array UInt8}:decide (V.byt i=V.byt j)=(i.toList == j.toList):=by
 rw [Bool.eq_iff_iff]
 cases i
 cases j
 simp
section
variable {X:Cx}{a b c:Expr}{ta tb tc:TE}{pos:Pos}
theorem yL {pins:List (Addr × Obj)}{σ:St}{H:Hp}{s:Shared}{Q:VK}{k k':Bool} (I:Inv X pins σ H s) (q:Q (.bl k) H) (e:k=k'):EP X pins σ Q (.bool k') s:=by
 subst e
 exact ⟨.bl k,H,I,rfl,q⟩
theorem zCS:yE X (compareOp .Eq) rEq:=by
 intro pins s σ H x y v u Q I rx ry h
 obtain ⟨hs,q⟩:=h
 cases x with
 | non =>
  cases rx
  cases y with
  | non=>cases ry; exact PySem.EqNone.eq_none_none (yL I q (by simp))
  | bl j=>cases ry; exact PySem.EqNone.eq_none_bool (yL I q (by simp))
  | int j=>obtain ⟨t',rfl⟩:=ry; exact PySem.EqNone.eq_none_int (yL I q (by simp))
  | str j=>obtain ⟨t',rfl⟩:=ry; exact PySem.EqNone.eq_none_str (yL I q (by simp))
  | _=>exact absurd (show false=true from hs) Bool.false_ne_true
 | bl i =>
  cases rx
  cases y with
  | non=>cases ry; exact PySem.EqNone.eq_bool_none (yL I q (by simp))
  | bl j=>cases ry; exact eq_bool (yL I q zEh)
  | str j=>obtain ⟨t',rfl⟩:=ry; exact PySem.EqMixed.eq_bool_str (yL I q (by simp))
  | _=>exact absurd (show false=true from hs) Bool.false_ne_true
 | int i =>
  obtain ⟨t,rfl⟩:=rx
  cases y with
  | non=>cases ry; exact PySem.EqNone.eq_int_none (yL I q (by simp))
  | int j=>obtain ⟨t',rfl⟩:=ry; exact eq_int (yL I q zEg)
  | str j=>obtain ⟨t',rfl⟩:=ry; exact PySem.EqMixed.eq_int_str (yL I q (by simp))
  | _=>exact absurd (show false=true from hs) Bool.false_ne_true
 | str i =>
  obtain ⟨t,rfl⟩:=rx
  cases y with
  | non=>cases ry; exact PySem.EqNone.eq_str_none (yL I q (by simp))
  | bl j=>cases ry; exact PySem.EqMixed.eq_str_bool (yL I q (by simp))
  | int j=>obtain ⟨t',rfl⟩:=ry; exact PySem.EqMixed.eq_str_int (yL I q (by simp))
  | str j=>obtain ⟨t',rfl⟩:=ry; exact eq_str (yL I q zEi)
  | _=>exact absurd (show false=true from hs) Bool.false_ne_true
 | byt i =>
  obtain ⟨t,rfl⟩:=rx
  cases y with
  | byt j=>obtain ⟨t',rfl⟩:=ry; exact PySem.W.eq_bytes (yL I q zEj)
  | _=>exact absurd (show false=true from hs) Bool.false_ne_true
 | _=>cases y <;> exact absurd (show false=true from hs) Bool.false_ne_true
theorem zAS:yE X (compareOp .NotEq) rNe:=by
 intro pins s σ H x y v u Q I rx ry h
 obtain ⟨hs,q⟩:=h
 cases x with
 | non =>
  cases rx
  cases y with
  | non=>cases ry; exact PySem.EqNone.ne_none_none (yL I q (by simp))
  | bl j=>cases ry; exact PySem.EqNone.ne_none_bool (yL I q (by simp))
  | int j=>obtain ⟨t',rfl⟩:=ry; exact PySem.EqNone.ne_none_int (yL I q (by simp))
  | str j=>obtain ⟨t',rfl⟩:=ry; exact PySem.EqNone.ne_none_str (yL I q (by simp))
  | _=>exact absurd (show false=true from hs) Bool.false_ne_true
 | bl i =>
  cases rx
  cases y with
  | non=>cases ry; exact PySem.EqNone.ne_bool_none (yL I q (by simp))
  | bl j=>cases ry; exact ne_bool (yL I q (congrArg not zEh))
  | str j=>obtain ⟨t',rfl⟩:=ry; exact PySem.EqMixed.ne_bool_str (yL I q (by simp))
  | _=>exact absurd (show false=true from hs) Bool.false_ne_true
 | int i =>
  obtain ⟨t,rfl⟩:=rx
  cases y with
  | non=>cases ry; exact PySem.EqNone.ne_int_none (yL I q (by simp))
  | int j=>obtain ⟨t',rfl⟩:=ry; exact ne_int (yL I q (congrArg not zEg))
  | str j=>obtain ⟨t',rfl⟩:=ry; exact PySem.EqMixed.ne_int_str (yL I q (by simp))
  | _=>exact absurd (show false=true from hs) Bool.false_ne_true
 | str i =>
  obtain ⟨t,rfl⟩:=rx
  cases y with
  | non=>cases ry; exact PySem.EqNone.ne_str_none (yL I q (by simp))
  | bl j=>cases ry; exact PySem.EqMixed.ne_str_bool (yL I q (by simp))
  | int j=>obtain ⟨t',rfl⟩:=ry; exact PySem.EqMixed.ne_str_int (yL I q (by simp))
  | str j=>obtain ⟨t',rfl⟩:=ry; exact ne_str (yL I q (congrArg not zEi))
  | _=>exact absurd (show false=true from hs) Bool.false_ne_true
 | byt i =>
  obtain ⟨t,rfl⟩:=rx
  cases y with
  | byt j=>obtain ⟨t',rfl⟩:=ry; exact PySem.W.ne_bytes (yL I q (congrArg not zEj))
  | _=>exact absurd (show false=true from hs) Bool.false_ne_true
 | _=>cases y <;> exact absurd (show false=true from hs) Bool.false_ne_true
theorem zJi:yE X (compareOp .Lt) (kP fun i j=>.bl (decide (i < j))):=zCR fun _ _ _ _ _ _ _ q=>lt_int q
theorem uT:yE X (compareOp .LtE) (kP fun i j=>.bl (decide (i<=j))):=zCR fun _ _ _ _ _ _ _ q=>le_int q
theorem zCT:yE X (compareOp .Gt) (kP fun i j=>.bl (decide (j < i))):=zCR fun _ _ _ _ _ _ _ q=>gt_int q
theorem zJj:yE X (compareOp .Lt) (fun x y H Q=>∃ i j,x=.str i/\y=.str j/\Q (.bl (decide (i.cps.toList < j.cps.toList))) H):=by
 intro pins s σ H x y v u Q I rx ry h
 obtain ⟨i,j,rfl,rfl,q⟩:=h
 obtain ⟨t,rfl⟩:=rx
 obtain ⟨t',rfl⟩:=ry
 exact lt_str (yL I q rfl)
theorem zEk:yE X (compareOp .In) (fun x y H Q=>∃ i j,x=.str i/\y=.str j/\Q (.bl (!(Builtin.Str.occurrences j i 0 j.length 1).isEmpty)) H):=by
 intro pins s σ H x y v u Q I rx ry h
 obtain ⟨i,j,rfl,rfl,q⟩:=h
 obtain ⟨t,rfl⟩:=rx
 obtain ⟨t',rfl⟩:=ry
 exact in_str (yL I q rfl)
theorem zJk:yE X (compareOp .Is) (fun x y H Q=>y=.non/\Q (.bl (decide (x=.non))) H):=by
 intro pins s σ H x y v u Q I rx ry h
 obtain ⟨rfl,q⟩:=h
 cases ry
 refine is_none_gen (yL I q ?_)
 cases x <;> first
  | (cases rx; rfl)
  | (obtain ⟨t,rfl⟩:=rx; rfl)
theorem zCU:yE X (compareOp .IsNot) (fun x y H Q=>y=.non/\Q (.bl (!decide (x=.non))) H):=by
 intro pins s σ H x y v u Q I rx ry h
 obtain ⟨rfl,q⟩:=h
 cases ry
 refine isnot_none_gen (yL I q ?_)
 cases x <;> first
  | (cases rx; rfl)
  | (obtain ⟨t,rfl⟩:=rx; rfl)
theorem yE.or {f:Value->Value->Sem Value}{r r':R2} (h:yE X f r) (h':yE X f r'):yE X f (fun x y H Q=>r x y H Q\/r' x y H Q):=by
 intro pins s σ H x y v u Q I rx ry q
 rcases q with q | q
 ·exact h pins s σ H x y v u Q I rx ry q
 ·exact h' pins s σ H x y v u Q I rx ry q
theorem y9 (b:Expr) {op:CmpOp} (h:op≠.In:=by decide) (h2:op≠.NotIn:=by decide):behindInMarks op b=false:=by
 have e1:(op == CmpOp.In)=false:=by cases op <;> first | rfl | exact absurd rfl h
 have e2:(op == CmpOp.NotIn)=false:=by cases op <;> first | rfl | exact absurd rfl h2
 cases b <;> simp [behindInMarks,e1,e2]
theorem qZ {op:CmpOp}{r:R2} (ho:yE X (compareOp op) r) (ha:PE X a ta) (hb:PE X b tb) (hm:behindInMarks op b=false):PE X (.Compare a [op] [b] pos) (tOp r ta tb):=by
 intro pins s σ H Q I h
 exact wpAny_Compare1 (zCQ ha hb I h fun v u s2 x y H2 I2 rx ry q=>ho pins s2 σ H2 x y v u Q I2 rx ry q) hm
def zEl (t:TE):TT:=fun σ H Q=>t σ H fun x H'=>∃ k,x=.bl k/\Q k H'
theorem vK {op:CmpOp}{r:R2} (ho:yE X (compareOp op) r) (ha:PE X a ta) (hb:PE X b tb) (hm:behindInMarks op b=false):PT X (.Compare a [op] [b] pos) (zEl (tOp r ta tb)):=by
 intro pins s σ H Q I h
 refine wpAny_isTrue_Compare1 (zJ (ha pins s σ H _ I h) fun v s1 ⟨x,H1,I1,r1,q1⟩=>zJ (hb pins s1 σ H1 _ I1 q1) fun u s2 ⟨y,H2,I2,r2,q2⟩ =>
  zJ (ho pins s2 σ H2 x y v u _ I2 r1 r2 q2) fun c s3 ⟨z,H3,I3,r3,k,e,q3⟩=>?_) hm
 subst e
 cases r3
 exact wpAny_truthy_bool ⟨H3,I3,q3⟩
def zEm (r r':R2) (ta tb tc:TE):TE:=fun σ H Q=>ta σ H fun x H1=>tb σ H1 fun y H2=>r x y H2 fun z H3=>∃ k,z=.bl k /\
 (if k=true then tc σ H3 fun w' H4=>r' y w' H4 Q else Q (.bl false) H3)
theorem zEn {op op':CmpOp}{r r':R2} (ho:yE X (compareOp op) r) (ho':yE X (compareOp op') r') (ha:PE X a ta) (hb:PE X b tb) (hc:PE X c tc)
  (hm:lastMarks [op,op'] [b,c]=false:=by with_unfolding_all rfl):PE X (.Compare a [op,op'] [b,c] pos) (zEm r r' ta tb tc):=by
 intro pins s σ H Q I h
 refine Compare_chain (zJ (ha pins s σ H _ I h) fun v s1 ⟨x,H1,I1,r1,q1⟩=>chain_link (zJ (hb pins s1 σ H1 _ I1 q1) fun u s2 ⟨y,H2,I2,r2,q2⟩ =>
  zJ (ho pins s2 σ H2 x y v u _ I2 r1 r2 q2) fun d s3 ⟨z,H3,I3,r3,k,e,q3⟩=>?_)) hm
 subst e
 cases r3
 refine wpAny_truthy_bool ?_
 cases k with
 | false=>exact ite_ff ⟨.bl false,H3,I3,rfl,q3⟩
 | true=>exact ite_tt (chain_last (zJ (hc pins s3 σ H3 _ I3 q3) fun w' s4 ⟨z',H4,I4,r4,q4⟩=>ho' pins s4 σ H4 y z' u w' Q I4 r2 r4 q4))
theorem zAT {op op':CmpOp}{r r':R2} (ho:yE X (compareOp op) r) (ho':yE X (compareOp op') r') (ha:PE X a ta) (hb:PE X b tb) (hc:PE X c tc)
  (hm:lastMarks [op,op'] [b,c]=false:=by with_unfolding_all rfl):PT X (.Compare a [op,op'] [b,c] pos) (zEl (zEm r r' ta tb tc)):=by
 intro pins s σ H Q I h
 refine isTrue_chain (zJ (ha pins s σ H _ I h) fun v s1 ⟨x,H1,I1,r1,q1⟩=>test_link (zJ (hb pins s1 σ H1 _ I1 q1) fun u s2 ⟨y,H2,I2,r2,q2⟩ =>
  zJ (ho pins s2 σ H2 x y v u _ I2 r1 r2 q2) fun d s3 ⟨z,H3,I3,r3,k,e,q3⟩=>?_)) hm
 subst e
 cases r3
 refine wpAny_truthy_bool ?_
 cases k with
 | false =>
  obtain ⟨k',e',q'⟩:=q3
  cases e'
  exact ite_ff ⟨H3,I3,q'⟩
 | true =>
  refine ite_tt (test_last (zJ (hc pins s3 σ H3 _ I3 q3) fun w' s4 ⟨z',H4,I4,r4,q4⟩=>zJ (ho' pins s4 σ H4 y z' u w' _ I4 r2 r4 q4) fun d' s5 ⟨z2,H5,I5,r5,k2,e2,q5⟩=>?_))
  subst e2
  cases r5
  exact wpAny_truthy_bool ⟨H5,I5,q5⟩
theorem zAU:(sizeLine:Nat) < 2 ^ 63:=by rw [sizeLine_eq]; decide
theorem zJl:yE X (binaryOp .Add) (fun x y H Q=>∃ i j,x=.str i/\y=.str j/\i.length+j.length<=sizeLine/\Q (.str (i++j)) H):=by
 intro pins s σ H x y v u Q I rx ry h
 obtain ⟨i,j,rfl,rfl,hz,q⟩:=h
 obtain ⟨t,rfl⟩:=rx
 obtain ⟨t',rfl⟩:=ry
 exact add_str (fun t' tk=>⟨.str (i++j),H,I.tok _,⟨_,rfl⟩,q⟩) hz
theorem uU {x:V}{us:List Value} (r:zM [x] us):∃ u,us=[u]/\zT x u:=by
 cases r with
 | cons r1 r2=>cases r2; exact ⟨_,rfl,r1⟩
theorem zAV {x y:V}{us:List Value} (r:zM [x,y] us):∃ u w',us=[u,w']/\zT x u/\zT y w':=by
 cases r with
 | cons r1 r2 =>
  cases r2 with
  | cons r3 r4=>cases r4; exact ⟨_,_,rfl,r1,r3⟩
end
end L2
namespace L2
open PySem PySem.Spec PyProof.Rows
structure ObjM (h:Heap) (x dx C:Addr) (mA:Str->Option Value):Prop where
 obj:h.get? x=some (PySem.W.instObj C dx)
 ns:h.Ns1 dx mA
 ne:dx≠x
theorem zJm {h:Heap}{dx:Addr}{mA:Str->Option Value} (n:h.Ns1 dx mA):∃ od,h.get? dx=some od/\∀ name,PySem.W.lookIn name od=some (mA name):=by
 obtain ⟨o,es,ep,ho,hd,hk,_,hm⟩:=n
 refine ⟨o,ho,fun name=>?_⟩
 have e:=hm name
 unfold nsFind findBy at e
 rw [<- Array.find?_toList] at e
 unfold PySem.W.lookIn
 rw [hd]
 dsimp only
 split
 ·rename_i y q
  rw [q] at e
  exact congrArg some e
 ·rename_i q
  rw [q] at e
  have a:es.toList.any (·.refKey)=false:=by
   rw [List.any_eq_false]
   intro y hy
   obtain ⟨z,t,hkey⟩:=hk y (Array.mem_toList_iff.mp hy)
   simp [DictEntry.refKey,hkey]
  have a':¬ es.toList.any (·.refKey)=true:=by rw [a]; exact Bool.false_ne_true
  rw [if_neg a']
  exact congrArg some e
theorem ObjM.look {h:Heap}{x dx C:Addr}{mA:Str->Option Value} (I:ObjM h x dx C mA):∃ od,PySem.W.InstAt h x (PySem.W.instObj C dx) C (some od)/\∀ name,PySem.W.lookIn name od=some (mA name) :=
 let ⟨od,ho,hl⟩:=zJm I.ns
 ⟨od,⟨I.obj,rfl,rfl,ho⟩,hl⟩
section
variable {prog:Program}{w:World}{A:Around}{E:Value->Shared->Prop}{s:Shared}{K:PySem.W.Frag}{x dx C f:Addr}{mA:Str->Option Value}{name:Str}{v:Value}
end
theorem qQ.some_of {v:V}{o:Option Value} (r:qQ (some v) o):∃ u,o=some u/\zT v u:=by
 cases o with
 | none=>exact (show False from r).elim
 | some u=>exact ⟨u,rfl,r⟩
section
variable {P:Program}{w:World}{H H':Hp}{h h':Heap}{a C dx:Addr}{fs fs':List (Str × V)}
theorem zEo (hok:z6 P w H h) (e:H a=some (.ins C dx fs)):∃ mA,ObjM h a dx C mA/\(∀ f,qQ (fs.lookup f) (mA f))/\PySem.Within mA (fs.map (·.1))/\fs.length<=1000/\H dx=some (.own a):=by
 obtain ⟨d,z,ne,ob,mA,n,r,q⟩:=(show yF P w H h a (.ins C dx fs) from hok a _ e)
 exact ⟨mA,⟨ob,n,ne⟩,r,q,z,d⟩
end
structure Cls (K:PySem.W.Frag) (C:Addr):Prop where
 pg:PySem.W.plainGet K C Str.empty=true
 hd:PySem.W.hasDictIn K C=true
 po:PySem.W.plainOver K C=true
 sa:PySem.W.findIn K (.ref C) "__setattr__" = some (some (.builtin "object.__setattr__"))
theorem Cls.get {K:PySem.W.Frag}{C:Addr} (c:Cls K C) (f:Str):PySem.W.plainGet K C f=true:=c.pg
section
variable {X:Cx}{pins:List (Addr × Obj)}{σ:St}{H:Hp}{s:Shared}{a C dx:Addr}{fs:List (Str × V)}{f:Str}{v:V}{A:Around}{E:Value->Shared->Prop}
theorem Inv.made (I:Inv X pins σ H s):Inv X pins σ (upd (upd H s.heap.objs.size (.own (s.heap.objs.size+1))) (s.heap.objs.size+1) (.ins C s.heap.objs.size []))
  { s with heap:=(s.heap.push PySem.W.emptyDict).push (PySem.W.instObj C s.heap.objs.size) }:=by
 have e1:(s.heap.push PySem.W.emptyDict).get? s.heap.objs.size=some PySem.W.emptyDict:=Heap.get?_push_size s.heap rfl
 have e2:((s.heap.push PySem.W.emptyDict).push (PySem.W.instObj C s.heap.objs.size)).get? (s.heap.objs.size+1)=some (PySem.W.instObj C s.heap.objs.size):=by
  have:=Heap.get?_push_size (s.heap.push PySem.W.emptyDict) (o:=PySem.W.instObj C s.heap.objs.size) rfl
  rwa [Heap.size_push] at this
 have e3:(s.heap.push PySem.W.emptyDict).Ns s.heap.objs.size (fun _=>none):=⟨PySem.W.emptyDict,#[],_,e1,rfl,(fun e he=>absurd he (by simp)),fun _=>rfl⟩
 have I1:=I.laid (a:=s.heap.objs.size) (o:=.own (s.heap.objs.size+1)) (h':=s.heap.push PySem.W.emptyDict) (t':=s.toks) (fun b u q=>Heap.get?_push_of_some _ q) (Nat.le_refl _) ⟨_,e1⟩
 refine I1.laid (a:=s.heap.objs.size+1) (o:=.ins C s.heap.objs.size []) (t':=s.toks) (fun b u q=>Heap.get?_push_of_some _ q) (Nat.le_of_eq (Heap.size_push _ _)) ?_
 have ne:s.heap.objs.size≠s.heap.objs.size+1:=Nat.ne_of_lt (Nat.lt_succ_self _)
 refine ⟨by rw [zU ne,zI],Nat.zero_le _,ne,e2,fun _=>none,(Heap.Ns1.of_empty e3).at fun o q=>Heap.get?_push_of_some _ q,fun _=>True.intro,fun y hy=>absurd rfl hy⟩
end
section
variable {X:Cx}{o e value:Expr}{f:Str}{pos pos' tpos:Pos}{ta tv:TE}
end
section
variable {X:Cx}{pins:List (Addr × Obj)}{σ:St}{H:Hp}{s:Shared}{A:Around}{E:Value->Shared->Prop}{Q:Value->Shared->Prop}{c:Value}{b:Bool}
inductive TyOf (K:PySem.W.Frag) (H:Hp):V->Value->Prop where
 | non:TyOf K H .non (.type "NoneType")
 | bl (x:Bool):TyOf K H (.bl x) (.type "bool")
 | int (i:Int):TyOf K H (.int i) (.type "int")
 | str (x:Str):TyOf K H (.str x) (.type "str")
 | flt (x:UInt64):TyOf K H (.flt x) (.type "float")
 | lst {a:Addr} {xs:List V} (e:H a=some (.lst xs)):TyOf K H (.ref a) (.type "list")
 | frz {a:Addr} {o:Obj} {xs:List V} (e:H a=some (.frz o (.lst xs))):TyOf K H (.ref a) (.type "list")
 | tup {a:Addr} {xs:List V} (e:H a=some (.tup xs)):TyOf K H (.ref a) (.type "tuple")
 | dK {a:Addr} {kvs:List (zV × V)} (e:H a=some (.dK kvs)):TyOf K H (.ref a) (.type "dict")
 | dT {a:Addr} {kvs:List (List yP × V)} (e:H a=some (.dT kvs)):TyOf K H (.ref a) (.type "dict")
 | ins {a C dx:Addr} {fs:List (Str × V)} (e:H a=some (.ins C dx fs)) (cl:Cls K C) (ha:PySem.W.findIn K (.ref C) "__class__" = some (some (.builtin "object.__class__")))
   (hn:PySem.W.specialIn K (.builtin "object.__class__") "__get__" = some (some (.builtin "getset_descriptor.__get__"))) (htk:PySem.W.takesIn K (.builtin "object.__class__")=some true)
   (hm:PySem.W.mroIn K C (.type "object")=some true):TyOf K H (.ref a) (.ref C)
theorem zJn {x:V}{u t:Value} (I:Inv X pins σ H s) (rx:zT x u) (ty:TyOf X.K H x t) (e:PySem.W.kitOne X.K t c=some b) (h:∀ tk,Q (.bool b) { s with toks:=tk }) :
  wpAny (model X.prog X.w) A (call (.builtin "isinstance") [u,c]) Q E s:=by
 cases ty with
 | non=>cases (show u=Value.none from rx); exact PySem.W.kia_one PySem.W.kitx_none I.kIn True.intro e (fun z=>nomatch z) h
 | bl y=>cases (show u=Value.bool y from rx); exact PySem.W.kia_one PySem.W.kitx_bool I.kIn True.intro e (fun z=>nomatch z) h
 | int i=>obtain ⟨t,q⟩:=(show ∃ t,u=Value.int i t from rx); cases q; exact PySem.W.kia_one PySem.W.kitx_int I.kIn True.intro e (fun z=>nomatch z) h
 | str y=>obtain ⟨t,q⟩:=(show ∃ t,u=Value.str y t from rx); cases q; exact PySem.W.kia_one PySem.W.kitx_str I.kIn True.intro e (fun z=>nomatch z) h
 | flt y=>obtain ⟨t,q⟩:=(show ∃ t,u=Value.float y t from rx); cases q; exact PySem.W.kia_one PySem.W.kitx_float I.kIn True.intro e (fun z=>nomatch z) h
 | @lst a xs ea =>
  cases (show u=Value.ref a from rx)
  obtain ⟨_,_,n,_,h1⟩:=(show yF X.prog X.w H s.heap a (.lst xs) from I.hok a _ ea)
  exact PySem.W.kia_one PySem.W.kitx_list I.kIn ⟨_,h1,rfl⟩ e (fun z=>nomatch z) h
 | @frz a ob xs ea =>
  cases (show u=Value.ref a from rx)
  obtain ⟨_,_,_,n,_,h1⟩:=(show yF X.prog X.w H s.heap a (.frz ob (.lst xs)) from I.hok a _ ea)
  exact PySem.W.kia_one PySem.W.kitx_list I.kIn ⟨_,h1,rfl⟩ e (fun z=>nomatch z) h
 | @tup a xs ea =>
  cases (show u=Value.ref a from rx)
  obtain ⟨_,_,_,p⟩:=(show yF X.prog X.w H s.heap a (.tup xs) from I.hok a _ ea)
  obtain ⟨o,h1,h2,_⟩:=p
  exact PySem.W.kia_one PySem.W.kitx_tuple I.kIn ⟨o,h1,h2⟩ e (fun z=>nomatch z) h
 | @dK a kvs ea =>
  cases (show u=Value.ref a from rx)
  obtain ⟨_,_,vs,_,p⟩:=(show yF X.prog X.w H s.heap a (.dK kvs) from I.hok a _ ea)
  obtain ⟨o,es,ep,h1,h2,_⟩:=p
  exact PySem.W.kia_one PySem.W.kitx_dict I.kIn ⟨o,h1,h2.1⟩ e (fun z=>nomatch z) h
 | @dT a kvs ea =>
  cases (show u=Value.ref a from rx)
  obtain ⟨_,_,xs,_,o,es,ep,h1,h2,_⟩:=(show yF X.prog X.w H s.heap a (.dT kvs) from I.hok a _ ea)
  exact PySem.W.kia_one PySem.W.kitx_dict I.kIn ⟨o,h1,h2.1⟩ e (fun z=>nomatch z) h
 | @ins a C dx fs ea cl ha hn htk hm =>
  cases (show u=Value.ref a from rx)
  obtain ⟨mA,O,_⟩:=zEo I.hok ea
  obtain ⟨od,J,_⟩:=O.look
  exact PySem.W.kia_one (PySem.W.kitx_own (cl.get _) cl.hd ha hn htk hm) I.kIn J e (fun z=>nomatch z) h
end
end L2
namespace L2
open PySem PySem.Spec PyProof.Rows
structure Room (k:Nat) (A:Around):Prop where
 hd:A.handled=none
 dp:A.depth+3 * k+5 < recursionLimit
 un:A.units+16 * k+200 < cLine
theorem Room.mono {j k:Nat}{A:Around} (r:Room k A) (h:j<=k):Room j A:=⟨r.hd,by have:=r.dp; omega,by have:=r.un; omega⟩
theorem Room.deeper {k:Nat}{A:Around} (r:Room (k+1) A) (env:Env):Room k (A.deeper env) :=
 ⟨r.hd,by have:=r.dp; show A.depth+1+3 * k+5 < _; omega,by have:=r.un; show A.units+3+16 * k+200 < _; omega⟩
theorem Room.in1 {k:Nat}{A:Around} (r:Room (k+1) A):Room k A.in1 :=
 ⟨r.hd,by have:=r.dp; show A.depth+3 * k+5 < _; omega,by have:=r.un; show A.units+1+16 * k+200 < _; omega⟩
theorem Room.depth {k:Nat}{A:Around} (r:Room k A):A.depth < recursionLimit:=by have:=r.dp; omega
theorem Room.units {k:Nat}{A:Around} (r:Room k A):A.units+64 < cLine:=by have:=r.un; omega
def zJo:TA:=fun _ H Q=>Q [] H
def zEp (ta:TE) (tr:TA):TA:=fun σ H Q=>ta σ H fun x H1=>tr σ H1 fun xs H2=>Q (x::xs) H2
section
variable {X:Cx}{e:Expr}{es:List Expr}{te:TE}{t:TA}{pos:Pos}
theorem zC:PA X [] zJo:=fun _ _ _ _ H Q I h=>Calls.spliced_nil ⟨[],H,I,.nil,h⟩
theorem zA (ha:PE X e te) (hr:PA X es t) (hs:starEach (e::es) X.env=(false,eval e X.env)::starEach es X.env:=by rfl):PA X (e::es) (zEp te t):=by
 intro pos pins s σ H Q I h
 rw [hs]
 show wpAny _ _ (spliced ((false,eval e X.env)::backTo pos (starEach es X.env))) _ _ s
 refine Calls.spliced_cons (zJ (ha pins s σ H _ I h) fun u s1 ⟨x,H1,I1,r1,q1⟩=>?_)
 exact zJ (hr pos pins s1 σ H1 _ I1 q1) fun us s2 ⟨xs,H2,I2,r2,q2⟩=>⟨x::xs,H2,I2,.cons r1 r2,q2⟩
def zJp (t:TA):TE:=fun σ H Q=>t σ H fun xs H1=>xs.length<=sizeLine/\∀ p,H1 p=none->Q (.ref p) (upd H1 p (.tup xs))
def zJq (t:TA):TE:=fun σ H Q=>t σ H fun xs H1=>xs.length<=sizeLine/\∀ p,H1 p=none->Q (.ref p) (upd H1 p (.lst xs))
theorem uK {x1} (h:PA X es t):PE X (.Tuple es x1 pos) (zJp t):=by
 intro pins s σ H Q I hq
 refine wpAny_Tuple_spliced (zJ (h pos pins s σ H _ I hq) fun us s1 ⟨xs,H1,I1,r,z,q⟩=>⟨by rw [<- r.length]; exact z,?_⟩)
 have hf:H1 s1.heap.objs.size=none:=I1.hok.fresh (Nat.le_refl _)
 refine ⟨.ref s1.heap.objs.size,upd H1 s1.heap.objs.size (.tup xs),I1.laid (t':=s1.toks) (fun b u e=>Heap.get?_push_of_some _ e) (Nat.le_refl _) ?_,rfl,q _ hf⟩
 exact ⟨z,us,r,⟨_,Heap.get?_push_size _ rfl,rfl,_,rfl⟩⟩
theorem uV (h:PA X es t):PE X (.List es pos) (zJq t):=by
 intro pins s σ H Q I hq
 refine wpAny_List_spliced (zJ (h pos pins s σ H _ I hq) fun us s1 ⟨xs,H1,I1,r,z,q⟩=>⟨by rw [<- r.length]; exact z,?_⟩)
 have hf:H1 s1.heap.objs.size=none:=I1.hok.fresh (Nat.le_refl _)
 refine ⟨.ref s1.heap.objs.size,upd H1 s1.heap.objs.size (.lst xs),I1.laid (t':=s1.toks) (fun b u e=>Heap.get?_push_of_some _ e) (Nat.le_refl _) ?_,rfl,q _ hf⟩
 exact ⟨z,us,0,r,Heap.get?_push_size _ rfl⟩
end
abbrev Sp:=List V->Hp->VK->XK->Prop
abbrev qG:=List Env->Hp->Shared->XK->Value->Shared->Prop
structure Env0 (P:Program) (w:World) (K:PySem.W.Frag) (mg:Str->Option Value) (base:Heap) (A:Around) (outer:List Env) (s:Shared) (H:Hp):Prop where
 frames:A.frames=some outer
 mod:Mod K mg base
 bs:∀ b o,base.get? b=some o->s.heap.get? b=some o/\H b=none
 bsz:base.objs.size<=s.heap.objs.size
 funs:s.heap.FunFrames base outer
 frf:∀ b∈yQ outer,H b=none
 hok:z6 P w H s.heap
 bare:AllBare s.gens
def CE (outer:List Env) (P:Program) (w:World) (H:Hp) (s:Shared) (Q:VK) (u:Value) (s':Shared):Prop :=
 ∃ v H',s'.os=s.os/\AllBare s'.gens/\Un (yQ outer) [] H H' s.heap s'.heap/\z6 P w H' s'.heap/\zT v u/\Q v H'
def CR (CX:qG) (outer:List Env) (P:Program) (w:World) (H:Hp) (s:Shared) (Q:VK) (E:XK) (r:Result) (s':Shared):Prop :=
 match r with
 | .ok (.ret u)=>CE outer P w H s Q u s'
 | .ok _=>False
 | .error e=>CX outer H s E e s'
structure FnOk (P:Program) (w:World) (K:PySem.W.Frag) (mg:Str->Option Value) (base:Heap) (CX:qG) (k:Nat) (f:Addr) (fd:FuncData) (ps:List Str) (sp:Sp):Prop where
 len:∀ vs H Q E,sp vs H Q E->vs.length=ps.length
 run:∀ (A:Around) (outer:List Env) (s:Shared) (H:Hp) (args:Args) (us:List Value) (vs:List V) (Q:VK) (E:XK),Room k A->Env0 P w K mg base A outer s H->BindsTo s fd args (ps.zip us)->zM vs us->sp vs H Q E ->
  codeAny (model P w) A (.call (.ref f) args) (CR CX outer P w H s Q E) s
theorem FnOk.imp {P:Program}{w:World}{K:PySem.W.Frag}{mg:Str->Option Value}{base:Heap}{CX:qG}{k:Nat}{f:Addr}{fd:FuncData}{ps:List Str}{sp sp':Sp} (F:FnOk P w K mg base CX k f fd ps sp)
  (h:∀ vs H Q E,sp' vs H Q E->sp vs H Q E):FnOk P w K mg base CX k f fd ps sp' :=
 ⟨fun vs H Q E q=>F.len vs H Q E (h _ _ _ _ q),fun A outer s H args us vs Q E hr he hb hv hs=>F.run A outer s H args us vs Q E hr he hb hv (h _ _ _ _ hs)⟩
theorem Env0.in1 {P:Program}{w:World}{K:PySem.W.Frag}{mg:Str->Option Value}{base:Heap}{A:Around}{outer:List Env}{s:Shared}{H:Hp} (e:Env0 P w K mg base A outer s H) :
  Env0 P w K mg base A.in1 outer s H:=⟨e.frames,e.mod,e.bs,e.bsz,e.funs,e.frf,e.hok,e.bare⟩
section
variable {X:Cx}{pins:List (Addr × Obj)}{σ:St}{H:Hp}{s s':Shared}
theorem Inv.env0 (I:Inv X pins σ H s):Env0 X.prog X.w X.K X.mg X.base X.A X.stack s H :=
 ⟨I.ok.frames,I.ok.mod,I.bs,Nat.le_trans I.ok.bsz I.sz,I.stack,I.stkFree,I.hok,I.bare⟩
theorem Inv.after {Q:VK}{u:Value} (I:Inv X pins σ H s) (h:CE X.stack X.prog X.w H s Q u s'):EP X pins σ Q u s':=by
 obtain ⟨v,H',os,bare,un,hok,r,q⟩:=h
 obtain ⟨hh,g,d,t,os'⟩:=s'
 obtain rfl:os'=s.os:=os
 exact ⟨v,H',I.call (h':=hh) (g':=g) (d':=d) (t':=t) (ch:=[]) un hok bare (fun b z=>absurd z (by simp)),r,q⟩
end
def zCV (sp:Sp) (dvs:List V) (E:XK) (t:TA):TE:=fun σ H Q=>t σ H fun vs H1=>sp (vs++dvs) H1 Q E
def jP (K:PySem.W.Frag) (fd:FuncData) (ps:List Str) (ds:List Value):Prop :=
 ∀ (s:Shared) (us:List Value),K.In s.heap->(us++ds).length=ps.length->BindsTo s fd ⟨us,[]⟩ (ps.zip (us++ds))
theorem jP.all {K:PySem.W.Frag}{fd:FuncData}{ps:List Str} (h:∀ us:List Value,us.length=ps.length->bindArgs fd ⟨us,[]⟩=pure (ps.zip us)):jP K fd ps []:=fun s us _ hl=>by
 rw [List.append_nil] at hl ⊢
 exact .of_eq (h us hl)
def g9 (CX:qG) (X:Cx) (E:XK):Prop:=∀ (pins:List (Addr × Obj)) (σ:St) (H:Hp) (s:Shared) (e:Value) (s':Shared),Inv X pins σ H s->CX X.stack H s E e s'->X.xe e s'
section
variable {X:Cx}{CX:qG}{k:Nat}{f C:Addr}{fd:FuncData}{ps:List Str}{sp:Sp}{dvs:List V}{ds:List Value}{E:XK}{x m:Str}{p pos apos:Pos}{e o:Expr}{es:List Expr}{ta:TE}{t:TA}
theorem zJr {pins:List (Addr × Obj)}{σ:St}{H:Hp}{s:Shared}{Q:VK}{us:List Value}{vs:List V} (F:FnOk X.prog X.w X.K X.mg X.base CX k f fd ps sp) (hr:Room k X.A) (hb:jP X.K fd ps ds) (hd:zM dvs ds) (hx:g9 CX X E)
  (I:Inv X pins σ H s) (r:zM vs us) (h:sp (vs++dvs) H Q E):wpAny (model X.prog X.w) X.A (call (.ref f) us) (EP X pins σ Q) X.xe s:=by
 have r2:zM (vs++dvs) (us++ds):=r.append hd
 have hl:(us++ds).length=ps.length:=by rw [<- r2.length]; exact F.len _ _ _ _ h
 refine wpAny_call (codeAny_mono (F.run X.A X.stack s H ⟨us,[]⟩ (us++ds) (vs++dvs) Q E hr I.env0 (hb s us I.kIn hl) r2 h) fun r s' hq=>?_)
 cases r with
 | error e=>exact hx pins σ H s e s' I hq
 | ok fl =>
  cases fl with
  | ret u=>exact I.after hq
  | next=>exact False.elim hq
  | brk=>exact False.elim hq
  | cont=>exact False.elim hq
theorem zEq (F:FnOk X.prog X.w X.K X.mg X.base CX k f fd ps sp) (hr:Room k X.A) (hg:Gl X x) (hm:X.mg x=some (.ref f)) (hk:PySem.W.keepIn X.K (.ref f)=true) (hb:jP X.K fd ps ds) (hd:zM dvs ds) (hx:g9 CX X E)
  (ha:PA X (e::es) t) (hdb:(x == ("__debug__" : Str))=false:=by decide) (he:starEach (e::es) X.env=(false,eval e X.env)::starEach es X.env:=by rfl) (hpl:(backTo pos (starEach es X.env)).any (·.1)=false:=by rfl) :
  PE X (.Call (.Name x p) (e::es) [] pos) (zCV sp dvs E t):=by
 intro pins s σ H Q I h
 refine wpAny_Call_Name_kw (zBB I hg hm ?_ hdb)
 refine PySem.W.callWith_K (h₀:=X.base) I.ok.mod.kin hk (zJ (ha pos pins s σ H _ I h) fun us s1 ⟨vs,H1,I1,r,q⟩=>⟨I1.kIn,?_⟩) he hpl
 exact zJr F hr hb hd hx I1 r q
end
section
variable {X:Cx}{CX:qG}{k:Nat}{f C:Addr}{fd:FuncData}{ps ks:List Str}{sp:Sp}{E:XK}{x m:Str}{p pos apos kpos:Pos}{e o:Expr}{es:List Expr}{kws:List Keyword}{te ta:TE}{t tk:TA}{nm:Option Str}
variable {g:List Value->List Value->List Value}{gV:List V->List V->List V}
end
structure FnScope (N P:List Str) (sc:Scope):Prop where
 kind:sc.kind=.function
 co:sc.isCoroutine=false
 gen:sc.isGenerator=false
 nd:N.Nodup
 pre:N.take P.length=P
 par:∀ x∈P,sc.names.lookup x=some .local\/sc.names.lookup x=some .cell
 nofree:∀ y∈sc.names,y.2≠.free
theorem zEr {kindOf:Str->Option NameKind}{x:Str}:∀ {binds:List (Str × Value)}{m:Str->Option Value},(∀ v,(x,v) ∉ binds)->bindL kindOf binds m x=m x
 | [],_,_=>rfl
 | (n,v)::r,m,h=>by
  unfold bindL
  rw [zEr fun w hw=>h w (List.mem_cons_of_mem _ hw)]
  split
  ·have:x≠n:=by rintro rfl; exact h v List.mem_cons_self
   simp [this]
  ·rfl
theorem zEs {kindOf:Str->Option NameKind}{x:Str}:∀ {binds:List (Str × Value)}{m:Str->Option Value},(∀ v,(x,v) ∉ binds)->bindC kindOf binds m x=m x
 | [],_,_=>rfl
 | (n,v)::r,m,h=>by
  unfold bindC
  rw [zEs fun w hw=>h w (List.mem_cons_of_mem _ hw)]
  split
  ·rfl
  ·have:x≠n:=by rintro rfl; exact h v List.mem_cons_self
   simp [this]
theorem zEt {kindOf:Str->Option NameKind}{x:Str}{v:Value}:∀ {P:List Str}{vs:List Value}{i:Nat}{m:Str->Option Value},P.Nodup->P[i]?=some x->vs[i]?=some v->kindOf x=some .local ->
  bindL kindOf (P.zip vs) m x=some v
 | [],_,_,_,_,h,_,_=>by simp at h
 | _::_,[],_,_,_,_,h,_=>by simp at h
 | p::P,w::vs,0,m,nd,h1,h2,hk=>by
  simp at h1 h2; subst h1; subst h2
  show bindL kindOf ((p,w)::P.zip vs) m p=_
  unfold bindL
  rw [zEr fun v hv=>(List.nodup_cons.mp nd).1 (List.of_mem_zip hv).1,if_pos hk]
  simp
 | p::P,w::vs,i+1,m,nd,h1,h2,hk=>by
  show bindL kindOf ((p,w)::P.zip vs) m x=_
  unfold bindL
  exact zEt (i:=i) (List.nodup_cons.mp nd).2 (by simpa using h1) (by simpa using h2) hk
theorem zEu {kindOf:Str->Option NameKind}{x:Str}{v:Value}:∀ {P:List Str}{vs:List Value}{i:Nat}{m:Str->Option Value},P.Nodup->P[i]?=some x->vs[i]?=some v->kindOf x≠some .local ->
  bindC kindOf (P.zip vs) m x=some v
 | [],_,_,_,_,h,_,_=>by simp at h
 | _::_,[],_,_,_,_,h,_=>by simp at h
 | p::P,w::vs,0,m,nd,h1,h2,hk=>by
  simp at h1 h2; subst h1; subst h2
  show bindC kindOf ((p,w)::P.zip vs) m p=_
  unfold bindC
  rw [zEs fun v hv=>(List.nodup_cons.mp nd).1 (List.of_mem_zip hv).1,if_neg hk]
  simp
 | p::P,w::vs,i+1,m,nd,h1,h2,hk=>by
  show bindC kindOf ((p,w)::P.zip vs) m x=_
  unfold bindC
  exact zEu (i:=i) (List.nodup_cons.mp nd).2 (by simpa using h1) (by simpa using h2) hk
def j8 (N:List Str) (vs:List V):St:=vs.map some++List.replicate (N.length - vs.length) none
def j9 (CX:qG) (P:Program) (w:World) (K:PySem.W.Frag) (mg:Str->Option Value) (base:Heap) (N:List Str) (qual:Str) (scope:Scope) (f:Addr) (cd:Value) (A:Around) (outer:List Env) (s:Shared) (H:Hp) (E:XK):Cx where
 prog:=P
 w:=w
 K:=K
 mg:=mg
 base:=base
 A:=A.deeper (envOfC qual scope s.heap.objs.size f cd)
 N:=N
 s₀:=s
 H₀:=H
 env:=envOfC qual scope s.heap.objs.size f cd
 outer:=outer
 stack:=envOfC qual scope s.heap.objs.size f cd::outer
 ex:=[]
 calm:=true
 fn:=fun _=>true
 pn:=[]
 xe:=fun e s'=>wpAny (model P w) (A.deeper (envOfC qual scope s.heap.objs.size f cd)) (leaving (envOfC qual scope s.heap.objs.size f cd) e) (fun _ s''=>CX outer H s E e s'') (fun e' s''=>CX outer H s E e' s'') s'
theorem zEv {sc:Scope}{n:Nat}{x:Str} (h:sc.names.lookup x=some .cell):∃ c,(cellsFrom n sc.names []).lookup x=some c:=by
 have q:=PySem.W.cellsFrom_some sc.names n [] (.inl h)
 exact Option.isSome_iff_exists.mp q
theorem zJs {CX:qG}{P:Program}{w:World}{K:PySem.W.Frag}{mg:Str->Option Value}{base:Heap}{N ps:List Str}{qual:Str}{scope:Scope}{f:Addr}{cd:Value}{A:Around}{outer:List Env}{s s1:Shared}{H:Hp}{E:XK}{us:List Value}{vs:List V}
  (S:FnScope N ps scope) (hd:A.handled=none) (e0:Env0 P w K mg base A outer s H) (hl:vs.length=ps.length) (r:zM vs us)
  (x:InCallC s s.heap.objs.size (bindL (envOfC qual scope s.heap.objs.size f cd).kindOf (ps.zip us) fun _=>none) (cellsFrom (s.heap.objs.size+1) scope.names []) (bindC (envOfC qual scope s.heap.objs.size f cd).kindOf (ps.zip us) fun _=>none) s1) :
  Inv (j9 CX P w K mg base N qual scope f cd A outer s H E) [] (j8 N vs) H s1:=by
 have hpl:ps.length<=N.length:=by have:=congrArg List.length S.pre; rw [List.length_take] at this; omega
 obtain ⟨h1,tk,rfl,hk⟩:=x.done
 have noA:∀ b:Addr,b ∉ (j9 CX P w K mg base N qual scope f cd A outer s H E).ex:=fun b z=>absurd (show b∈([]:List Addr) from z) (by simp)
 refine ⟨⟨e0.mod,S.kind,rfl,rfl,Nat.le_refl _,fun y z c h1 h2=>?_,fun y hy=>?_,fun y c _ h=>?_,fun _=>hd,Around.frames_deeper e0.frames,.inr ⟨rfl,rfl⟩,fun b z=>absurd z (noA b),e0.bs,e0.bsz,fun b _ _=>noA b,fun b z=>absurd z (noA b),e0.funs,e0.frf⟩,
  rfl,e0.bare,Un.kept hk,⟨_,x.toInCall.ns,fun i y v h1 h2 h3=>?_⟩,fun y c h=>⟨_,x.cell y c h⟩,e0.hok.fresh (Nat.le_refl _),fun y c h=>?_,fun p hp=>absurd (show p∈([]:List (Addr × Obj)) from hp) (by simp),e0.hok.kept hk,?_⟩
 ·exact name_of_addr x.apart (PySem.mem_of_lookup h1) (PySem.mem_of_lookup h2)
 ·have hy:scope.names.lookup y=some .cell\/scope.names.lookup y=some .free:=hy
  rcases hy with hy | hy
  ·exact zEv hy
  ·exact absurd rfl (S.nofree _ (PySem.mem_of_lookup hy))
 ·exact Nat.le_of_lt (x.above y c (PySem.mem_of_lookup h))
 ·have hi:i < vs.length:=by
   unfold j8 at h2
   by_cases hi:i < vs.length
   ·exact hi
   ·rw [List.getElem?_append_right (by simpa using hi)] at h2
    rw [List.getElem?_replicate] at h2
    split at h2 <;> cases h2
  have ha:vs[i]?=some v:=by
   unfold j8 at h2
   rw [List.getElem?_append_left (by simpa using hi),List.getElem?_map] at h2
   cases e:vs[i]? with
   | none=>rw [e] at h2; cases h2
   | some a=>rw [e] at h2; cases h2; rfl
  obtain ⟨u,hu,rv⟩:=r.get ha
  have hp:ps[i]?=some y:=by
   rw [<- S.pre,List.getElem?_take_of_lt (by omega)]; exact h1
  have ndP:ps.Nodup:=by rw [<- S.pre]; exact S.nd.sublist (List.take_sublist _ _)
  refine ⟨u,rv,?_⟩
  rcases S.par y (List.mem_of_getElem? hp) with k | k
  ·exact .inl ⟨k,zEt ndP hp hu k⟩
  ·obtain ⟨c,e⟩:=zEv (n:=s.heap.objs.size+1) k
   refine .inr ⟨.inl k,c,e,?_⟩
   have q:=x.cell y c e
   rw [zEu ndP hp hu (by show scope.names.lookup y≠_; rw [k]; decide)] at q
   exact q
 ·exact e0.hok.fresh (Nat.le_of_lt (x.above y c (PySem.mem_of_lookup h)))
 ·unfold j8
  show _=N.length
  rw [List.length_append,List.length_map,List.length_replicate]
  omega
theorem zEw {CX:qG}{P:Program}{w:World}{K:PySem.W.Frag}{mg:Str->Option Value}{base:Heap}{k:Nat}{f:Addr}{name qual:Str}{params:Arguments}{body:List Stmt}{scope:Scope}{dV kV doc pm cdv ct oc:Value}{an od:Option Addr}
  {osl:Array (Option Value)} {N ps:List Str} {sp:Sp} (lk:K.lookup f=some ⟨oc,od,.func (PySem.W.fnOf name qual params body scope dV kV doc pm an cdv ct),osl⟩) (hcd:PySem.W.codeIn K cdv qual=true) (S:FnScope N ps scope)
  (len:∀ vs H Q E,sp vs H Q E->vs.length=ps.length)
  (hbody:∀ (A:Around) (outer:List Env) (s:Shared) (H:Hp) (vs:List V) (Q:VK) (E:XK),Room k (A.deeper (envOfC qual scope s.heap.objs.size f cdv))->sp vs H Q E ->
   ∃ t,uI (j9 CX P w K mg base N qual scope f cdv A outer s H E) body t/\t { nx:=fun _ H'=>Q .non H',rt:=Q } (j8 N vs) H) :
  FnOk P w K mg base CX (k+1) f (PySem.W.fnOf name qual params body scope dV kV doc pm an cdv ct) ps sp:=by
 refine ⟨len,fun A outer s H args us vs Q E hr e0 hb r hsp=>?_⟩
 have hl:=len _ _ _ _ hsp
 have KX:K.In s.heap:=e0.mod.kin.keeps fun b o e=>(e0.bs b o e).1
 have lim:s.heap.NoLimit:=e0.mod.nolimit.keeps fun b o e=>(e0.bs b o e).1
 have hkind:∀ y∈ps.zip us,scope.names.lookup y.1=some .local\/(scope.names.lookup y.1=some .cell/\((cellsFrom (s.heap.objs.size+1) scope.names []).lookup y.1).isSome=true):=fun ⟨n,v⟩ hy=>by
  rcases S.par n (List.of_mem_zip hy).1 with q | q
  ·exact .inl q
  ·exact .inr ⟨q,PySem.W.cellsFrom_some _ _ _ (.inl q)⟩
 refine codeAny_call_function hr.depth (KX _ _ lk) rfl S.co S.gen rfl (PySem.W.codeRec_of KX hcd) (hb _ _ _ _ ?_)
 refine wpAny_newFunctionEnv_cells S.kind hkind fun env he s1 x=>?_
 subst he
 refine ⟨lim.keeps x.toInCall.keep,codeAny_func ?_⟩
 obtain ⟨t,ht,hq⟩:=hbody A outer s H vs Q E (hr.deeper _) hsp
 have I:Inv (j9 CX P w K mg base N qual scope f cdv A outer s H E) [] (j8 N vs) H s1:=zJs S hr.hd e0 hl r x
 refine wpAny_mono (ht [] s1 (j8 N vs) H _ I hq) (fun fl s' hs=>?_) fun e s' hs=>hs
 have fin:∀ {σ':St} {H':Hp} {v:V} {u:Value},Inv (j9 CX P w K mg base N qual scope f cdv A outer s H E) [] σ' H' s'->zT v u->Q v H'->CE outer P w H s Q u s' :=
  fun {σ' H' v u} J rv q=>⟨v,H',J.os,J.bare,J.base,J.hok,rv,q⟩
 cases fl with
 | ret u =>
  obtain ⟨v,σ',H',J,rv,q⟩:=hs
  exact fin J rv q
 | next =>
  obtain ⟨σ',H',J,q⟩:=hs
  exact fin (v:=V.non) (u:=Value.none) J rfl q
 | brk =>
  obtain ⟨_,_,_,q⟩:=hs
  exact False.elim q
 | cont =>
  obtain ⟨_,_,_,q⟩:=hs
  exact False.elim q
end L2
namespace L2
open PySem PySem.Spec PyProof.Rows
section
variable {X:Cx}{x:Str}{p pos:Pos}{e:Expr}{es:List Expr}{t:TA}{id T:String}{r:List V->Hp->VK->Prop}
def tCB (r:List V->Hp->VK->Prop) (t:TA):TE:=fun σ H Q=>t σ H fun vs H1=>r vs H1 Q
theorem yA (hc:qF X (.builtin id) r) (hg:Gl X x) (hm:X.mg x=none) (hv:bootBuiltins x=some (.builtin id)) (ha:PA X (e::es) t) (hn:x ≠ "__name__" := by decide) (hdb:(x == ("__debug__" : Str))=false:=by decide)
  (he:starEach (e::es) X.env=(false,eval e X.env)::starEach es X.env:=by rfl) (hpl:(backTo pos (starEach es X.env)).any (·.1)=false:=by rfl):PE X (.Call (.Name x p) (e::es) [] pos) (tCB r t):=by
 intro pins s σ H Q I h
 refine wpAny_Call_Name_kw (j4 I hg hm hv ?_ hn hdb)
 exact PyProof.Rows.callWith_builtin1 (zJ (ha pos pins s σ H _ I h) fun us s1 ⟨vs,H1,I1,r1,q1⟩=>hc pins s1 σ H1 vs us Q I1 r1 q1) he hpl
theorem zBG (hc:qF X (.type T) r) (hg:Gl X x) (hm:X.mg x=none) (hv:bootBuiltins x=some (.type T)) (ha:PA X (e::es) t) (hn:x ≠ "__name__" := by decide) (hdb:(x == ("__debug__" : Str))=false:=by decide)
  (he:starEach (e::es) X.env=(false,eval e X.env)::starEach es X.env:=by rfl) (hpl:(backTo pos (starEach es X.env)).any (·.1)=false:=by rfl):PE X (.Call (.Name x p) (e::es) [] pos) (tCB r t):=by
 intro pins s σ H Q I h
 refine wpAny_Call_Name_kw (j4 I hg hm hv ?_ hn hdb)
 exact PyProof.Rows.callWith_type1 (zJ (ha pos pins s σ H _ I h) fun us s1 ⟨vs,H1,I1,r1,q1⟩=>hc pins s1 σ H1 vs us Q I1 r1 q1) he hpl
end
end L2
namespace HT
open PySem PyProof.Rows
section
open PySem.SeqAt
open PySem.AutoSeq1 (wpAny_loadPart')
open PySem.MeetsSeq PySem.MeetsSeq2 PySem.MeetsSeq3
end
section
variable {prog:Program}{w:World}{A:Around}{E:Value->Shared->Prop}{s:Shared}
theorem cat_tup {t b:Addr}{vs ws:List Value}{Q:Value->Shared->Prop} (ht:IsTup s.heap t vs.toArray) (hb:IsTup s.heap b ws.toArray) (hv:vs≠[])
  (h1:ws=[]->Q (.ref t) s) (h2:ws≠[]->Q (.ref s.heap.objs.size) { s with heap:=s.heap.push { cls:=.type "tuple",data:=.seq (vs++ws).toArray } })
  (hsz:vs.length+ws.length<=sizeLine):wpAny (model prog w) A (binaryOp .Add (.ref t) (.ref b)) Q E s:=by
 obtain ⟨⟨cls,dd,data,sl⟩,ho,hc,n,hd⟩:=id ht
 obtain ⟨⟨cls2,dd2,data2,sl2⟩,ho2,hc2,n2,hd2⟩:=id hb
 simp only at hc hd hc2 hd2
 subst hc hd hc2 hd2
 have e:vs.toArray++ws.toArray=(vs++ws).toArray:=by simp
 by_cases hw:ws=[]
 ·exact concat_meets ⟨_,ho,rfl⟩ ⟨_,ho2,rfl⟩ noFill_tuple_add seq_tuple_add PySem.F.slot_tuple_add PySem.F.entry_tuple_add (PySem.F.args_tuple_add_2 _ _)
   (tuple_addW1 t b vs.toArray ws.toArray n n2 dd dd2 sl sl2 (by simpa using hv) (by simp [hw])) ⟨ho,ho2,h1 hw⟩
 ·refine concat_meets ⟨_,ho,rfl⟩ ⟨_,ho2,rfl⟩ noFill_tuple_add seq_tuple_add PySem.F.slot_tuple_add PySem.F.entry_tuple_add (PySem.F.args_tuple_add_2 _ _)
   (tuple_addW2 t b vs.toArray ws.toArray n n2 dd dd2 sl sl2 (by simpa using hv) (by simpa using hw) (by rw [List.size_toArray,List.size_toArray]; exact hsz)) ⟨ho,ho2,?_⟩
  rw [e]
  exact h2 hw
def sIx (n d:Nat):Option Int->Nat
 | none=>d
 | some v=>if v < 0 then (v+(n:Int)).toNat else min v.toNat n
theorem sIx_nat (n d k:Nat):sIx n d (some (k:Int))=min k n:=by
 show (if (k:Int) < 0 then ((k:Int)+(n:Int)).toNat else min (k:Int).toNat n)=min k n
 rw [if_neg (by omega),Int.toNat_natCast]
theorem sIx_le (n d:Nat) (hd:d<=n) (o:Option Int):sIx n d o<=n:=by
 cases o with
 | none=>exact hd
 | some v =>
  show (if v < 0 then (v+(n:Int)).toNat else min v.toNat n)<=n
  by_cases hv:v < 0
  ·rw [if_pos hv]; omega
  ·rw [if_neg hv]; exact Nat.min_le_right _ _
theorem zEx (v:Int) (n d:Nat):(if v < 0 then max (v+(n:Int)) 0 else min v (n:Int))=((sIx n d (some v):Nat):Int):=by
 show (if v < 0 then max (v+(n:Int)) 0 else min v (n:Int))=(((if v < 0 then (v+(n:Int)).toNat else min v.toNat n):Nat):Int)
 by_cases hv:v < 0
 ·simp only [if_pos hv]; omega
 ·simp only [if_neg hv]; omega
theorem zJt (lo hi:Option Int) (n:Nat):Builtin.Slice.sliceAdjust lo hi 1 (n:Int)=(((sIx n 0 lo:Nat):Int),((sIx n n hi:Nat):Int)):=by
 have h1:¬ ((1:Int) < 0):=by omega
 unfold Builtin.Slice.sliceAdjust
 simp only [h1,if_false]
 refine Prod.ext ?_ ?_
 ·cases lo with
  | none=>rfl
  | some v=>exact zEx v n 0
 ·cases hi with
  | none=>rfl
  | some v=>exact zEx v n n
theorem zJu (i j:Nat):Builtin.Slice.slicePlaces (i:Int) (j:Int) 1=j - i:=by
 unfold Builtin.Slice.slicePlaces
 have h1:(1:Int) > 0:=by omega
 simp only [h1,if_true,Int.ediv_one]
 split <;> omega
theorem zEy {v:Value}{o:Option Int}{Q:Option Int->Shared->Prop} (p:IsPart v o) (h:Q o s):wpAny (model prog w) A (Builtin.Slice.slicePartIndex v) Q E s:=by
 cases p with
 | none=>exact slicePart_none h
 | int i t=>exact slicePart_int h
theorem sliceApplied_gen {sl:Addr}{vl vu:Value}{lo hi:Option Int}{n:Nat}{Q:Int × Int × Nat->Shared->Prop} (hs:s.heap.IsSliceOf sl vl vu .none) (pl:IsPart vl lo) (pu:IsPart vu hi)
  (h:Q (((sIx n 0 lo:Nat):Int),1,sIx n n hi - sIx n 0 lo) s):wpAny (model prog w) A (Builtin.Slice.sliceApplied (.ref sl) (pure (n:Int))) Q E s:=by
 obtain ⟨os,hos,hcs,hds⟩:=id hs
 unfold Builtin.Slice.sliceApplied Builtin.Slice.sliceFields
 refine wpAny_bind (wpAny_bind (wpAny_field hos hds (x:=vl) rfl (wpAny_bind (wpAny_field hos hds (x:=vu) rfl (wpAny_bind (wpAny_field hos hds (x:=.none) rfl (wpAny_pure ?_)))))))
 refine wpAny_bind (slicePart_none ?_)
 show wpAny _ _ (if ((1:Int) == 0)=true then _ else _) _ _ s
 rw [if_neg (by decide)]
 refine wpAny_bind (zEy pl (wpAny_bind (zEy pu (wpAny_bind (wpAny_pure ?_)))))
 show wpAny _ _ (match Builtin.Slice.sliceAdjust lo hi 1 (n:Int) with | (lo,hi)=>pure (lo,(1:Int),Builtin.Slice.slicePlaces lo hi 1)) _ _ s
 rw [zJt lo hi n]
 show wpAny _ _ (pure (((sIx n 0 lo:Nat):Int),(1:Int),Builtin.Slice.slicePlaces ((sIx n 0 lo:Nat):Int) ((sIx n n hi:Nat):Int) 1)) _ _ s
 rw [zJu]
 exact wpAny_pure h
theorem zJv (xs:Array Value) (i k:Nat):((List.range k).filterMap fun (m:Nat)=>xs[((i:Int)+(m:Int) * 1).toNat]?).toArray=((xs.toList.drop i).take k).toArray:=by
 have e:(fun (m:Nat)=>xs[((i:Int)+(m:Int) * 1).toNat]?)=fun m=>xs[i+m]?:=by
  funext m
  have:((i:Int)+(m:Int) * 1).toNat=i+m:=by omega
  rw [this]
 rw [e]
 have:=pick_run xs i k
 rw [List.filterMap_map] at this
 have e2:((fun x=>xs[x]?) ∘ fun x=>i+x)=fun m=>xs[i+m]?:=rfl
 rw [e2] at this
 rw [this]
theorem getItem_tuple_cut {t sl:Addr}{items:Array Value}{vl vu:Value}{lo hi:Option Int}{Q:Value->Shared->Prop} (ht:IsTup s.heap t items) (hs:s.heap.IsSliceOf sl vl vu .none) (pl:IsPart vl lo) (pu:IsPart vu hi)
  (hw:¬ (sIx items.size 0 lo=0/\sIx items.size items.size hi=items.size))
  (h:Q (.ref s.heap.objs.size) { s with heap:=s.heap.push { cls:=.type "tuple",data:=.seq ((items.toList.drop (sIx items.size 0 lo)).take (sIx items.size items.size hi - sIx items.size 0 lo)).toArray } })
  (hsz:items.size<=sizeLine):wpAny (model prog w) A (getItem (.ref t) (.ref sl)) Q E s:=by
 have htake:sizeOk (.seq ((items.toList.drop (sIx items.size 0 lo)).take (sIx items.size items.size hi - sIx items.size 0 lo)).toArray):=by
  show ((items.toList.drop (sIx items.size 0 lo)).take (sIx items.size items.size hi - sIx items.size 0 lo)).toArray.size<=sizeLine
  rw [List.size_toArray,List.length_take,List.length_drop,Array.length_toList]
  omega
 have hj:sIx items.size items.size hi<=items.size:=sIx_le _ _ (Nat.le_refl _) hi
 obtain ⟨os,hos,hcs,hds⟩:=id hs
 have hTs:s.TypeIs (.ref sl) "slice" := ⟨os,hos,hcs⟩
 unfold getItem
 try with_reducible refine wpAny_holding ?_
 first | refine wpAny_bind (wpAny_pure ?_) | skip
 refine wpAny_bind (wpAny_sequenceKey ht.typeIs (by decide) ?_)
 refine wpAny_bind (wpAny_callSpecial?_slot (name:=Str.ofString "__getitem__") ht.typeIs PyProof.Rows.slot_tuple_getitem
  (wpAny_call_entry PyProof.Rows.slot_tuple_getitem ht.typeIs entry_tuple_getitem ?_ (args_tuple_getitem _ _)))
 show wpAny _ _ (Builtin.Tuple.tupleItemsOf (.ref t) >>= _) _ _ s
 refine wpAny_bind (tupleItemsOf_ ht ?_)
 refine wpAny_bind (wpAny_typeOf hTs ?_)
 rw [if_pos (by decide)]
 refine wpAny_bind (sliceApplied_gen hs pl pu ?_)
 have hno:¬ ((((sIx items.size 0 lo:Nat):Int) == 0 && (1:Int) == 1 && (sIx items.size items.size hi - sIx items.size 0 lo) == items.size)=true):=by
  intro q
  rw [Bool.and_eq_true,Bool.and_eq_true] at q
  have q1:((sIx items.size 0 lo:Nat):Int)=0:=eq_of_beq q.1.1
  have q2:sIx items.size items.size hi - sIx items.size 0 lo=items.size:=eq_of_beq q.2
  exact hw ⟨by omega,by omega⟩
 show wpAny _ _ (if (((sIx items.size 0 lo:Nat):Int) == 0 && (1:Int) == 1 && (sIx items.size items.size hi - sIx items.size 0 lo) == items.size)=true then _ else _) _ _ s
 rw [if_neg hno,zJv]
 first
  | exact wpAny_bind (m:=Builtin.Tuple.tupleExact _) (wpAny_newObj_type (wpAny_pure ⟨_,rfl,wpAny_pure h⟩) htake)
  | exact wpAny_bind (m:=Builtin.Tuple.tupleExact _) (wpAny_newObj_type (wpAny_bind (wpAny_pure (wpAny_pure ⟨_,rfl,wpAny_pure h⟩))) htake)
  | exact wpAny_bind (wpAny_bind (m:=Builtin.Tuple.tupleExact _) (wpAny_newObj_type (wpAny_pure (wpAny_pure ⟨_,rfl,wpAny_pure h⟩)) htake))
  | exact wpAny_bind (wpAny_bind (m:=Builtin.Tuple.tupleExact _) (wpAny_newObj_type (wpAny_pure ⟨_,rfl,wpAny_pure h⟩) htake))
end
end HT
namespace L2
open PySem PySem.Spec PyProof.Rows
abbrev TO:=St->Hp->(Option Int->Hp->Prop)->Prop
def PO (X:Cx) (e:Option Expr) (t:TO):Prop :=
 ∀ (pins:List (Addr × Obj)) (s:Shared) (σ:St) (H:Hp) (Q:Option Int->Hp->Prop),Inv X pins σ H s->t σ H Q ->
  wpAny (model X.prog X.w) X.A (evalPart e X.env) (fun u s'=>∃ o H',Inv X pins σ H' s'/\IsPart u o/\Q o H') X.xe s
def zJw:TO:=fun _ H Q=>Q none H
def zJx (t:TE):TO:=fun σ H Q=>t σ H fun x H1=>∃ i,x=.int i/\Q (some i) H1
theorem zJy {ns:List Int}:∀ {us:List Value},zM (ns.map V.int) us->IntsAre us ns:=by
 induction ns with
 | nil=>intro us r; rw [List.map_nil] at r; cases r; exact .nil
 | cons n ns ih =>
  intro us r
  rw [List.map_cons] at r
  cases r with
  | cons r1 r2 =>
   obtain ⟨t,e⟩:=r1
   subst e
   exact .cons n t (ih r2)
section
variable {X:Cx}{e:Expr}{te:TE}{lo hi:Option Expr}{tl th:TO}{pos p2:Pos}
theorem kR:PO X none zJw:=by
 intro pins s σ H Q I h
 rw [evalPart_none]
 exact wpAny_pure ⟨none,H,I,.none,h⟩
theorem jQ (h:PE X e te):PO X (some e) (zJx te):=by
 intro pins s σ H Q I hw
 rw [evalPart_some]
 refine zJ (h pins s σ H _ I hw) fun u s1 ⟨x,H1,I1,r1,q1⟩=>?_
 obtain ⟨i,rfl,q⟩:=q1
 obtain ⟨t,rfl⟩:=r1
 exact ⟨some i,H1,I1,.int i t,q⟩
def SlR (X:Cx) (r:V->Option Int->Option Int->Hp->VK->Prop):Prop :=
 ∀ (pins:List (Addr × Obj)) (s:Shared) (σ:St) (H:Hp) (x:V) (v vl vu:Value) (lo hi:Option Int) (sl:Addr) (Q:VK),Inv X pins σ H s->zT x v->s.heap.IsSliceOf sl vl vu .none->IsPart vl lo->IsPart vu hi->r x lo hi H Q ->
  ∃ T id,typeLookup (.type T) "__getitem__" = pure (some (.builtin id))/\s.TypeIs v T/\wpAny (model X.prog X.w) X.A (getItem v (.ref sl)) (EP X pins σ Q) X.xe s
def tSl (r:V->Option Int->Option Int->Hp->VK->Prop) (te:TE) (tl th:TO):TE:=fun σ H Q=>te σ H fun x H1=>tl σ H1 fun l H2=>th σ H2 fun u H3=>r x l u H3 Q
theorem zBH {r:V->Option Int->Option Int->Hp->VK->Prop} (hr:SlR X r) (he:PE X e te) (hl:PO X lo tl) (hu:PO X hi th):PE X (.Subscript e (.Slice lo hi none p2) pos) (tSl r te tl th):=by
 intro pins s σ H Q I h
 refine Subscript_ (zJ (he pins s σ H _ I h) fun v s1 ⟨x,H1,I1,r1,q1⟩=>?_)
 refine wpAny_Slice (zJ (hl pins s1 σ H1 _ I1 q1) fun vl s2 ⟨l,H2,I2,pl,q2⟩=>zJ (hu pins s2 σ H2 _ I2 q2) fun vu s3 ⟨u,H3,I3,pu,q3⟩=>?_)
 rw [evalPart_none]
 refine wpAny_pure ?_
 have I4:Inv X pins σ H3 { s3 with heap:=s3.heap.push { cls:=.type "slice",data:=.fields #[vl,vu,.none] } }:=I3.kept (t':=s3.toks) fun b ob q=>Heap.get?_push_of_some _ q
 obtain ⟨T,id,hT,ht,hg⟩:=hr pins { s3 with heap:=s3.heap.push { cls:=.type "slice",data:=.fields #[vl,vu,.none] } } σ H3 x v vl vu l u s3.heap.objs.size Q I4 r1 (Heap.IsSliceOf.new ..) pl pu q3
 show wpAny (model X.prog X.w) X.A (subscriptTail e (.Slice lo hi none p2) v (.ref s3.heap.objs.size)) (EP X pins σ Q) X.xe { s3 with heap:=s3.heap.push { cls:=.type "slice",data:=.fields #[vl,vu,.none] } }
 exact tail_any (ops:=[.ref s3.heap.objs.size,v]) ht hT hg (by with_unfolding_all rfl)
def vU (xs:List V) (lo hi:Option Int):List V:=(xs.drop (HT.sIx xs.length 0 lo)).take (HT.sIx xs.length xs.length hi - HT.sIx xs.length 0 lo)
theorem zEz (xs:List V) (lo hi:Option Int):(vU xs lo hi).length<=xs.length:=by
 unfold vU
 rw [List.length_take,List.length_drop]
 omega
def zJz (K:PySem.W.Frag):V->Option Int->Option Int->Hp->VK->Prop:=fun x lo hi H Q=>∃ a xs,x=.ref a/\zZ K H a xs /\
 ¬ (HT.sIx xs.length 0 lo=0/\HT.sIx xs.length xs.length hi=xs.length)/\∀ p,H p=none->Q (.ref p) (upd H p (.tup (vU xs lo hi)))
theorem zKA:SlR X (zJz X.K):=by
 intro pins s σ H x v vl vu lo hi sl Q I rx hs pl pu h
 obtain ⟨a,xs,rfl,hx,hw,q⟩:=h
 cases rx
 obtain ⟨its,r,ht,hz⟩:=I.tuple hx
 have hlen:its.toArray.size=xs.length:=by rw [List.size_toArray]; exact r.length.symm
 refine ⟨"tuple",_,PyProof.Rows.slot_tuple_getitem.lookup,ht.typeIs,?_⟩
 refine HT.getItem_tuple_cut ht hs pl pu (by rw [hlen]; exact hw) ?_ (by rw [hlen]; exact hz)
 rw [hlen]
 refine ⟨.ref s.heap.objs.size,_,I.laid (t':=s.toks) (o:=.tup (vU xs lo hi)) (fun b ob q=>Heap.get?_push_of_some _ q) (Nat.le_refl _) ?_,rfl,q _ (I.hok.fresh (Nat.le_refl _))⟩
 exact ⟨Nat.le_trans (zEz xs lo hi) hz,_,(r.drop (HT.sIx xs.length 0 lo)).take (HT.sIx xs.length xs.length hi - HT.sIx xs.length 0 lo),IsTup.new _ _⟩
def zKB (K:PySem.W.Frag):R2:=fun x y H Q=>∃ a b xs ys,x=.ref a/\y=.ref b/\zZ K H a xs/\zZ K H b ys/\xs≠[]/\xs.length+ys.length<=sizeLine /\
 (ys=[]->Q (.ref a) H)/\(ys≠[]->∀ p,H p=none->Q (.ref p) (upd H p (.tup (xs++ys))))
theorem zM.nil_iff {xs:List V}{us:List Value} (r:zM xs us):us=[]↔xs=[]:=by
 cases r with
 | nil=>simp
 | cons _ _=>simp
theorem zFA:yE X (binaryOp .Add) (zKB X.K):=by
 intro pins s σ H x y v u Q I rx ry h
 obtain ⟨a,b,xs,ys,rfl,rfl,ha,hb,hx,hz,q1,q2⟩:=h
 cases rx
 cases ry
 obtain ⟨its,r1,p1,_⟩:=I.tuple ha
 obtain ⟨its2,r2,p2,_⟩:=I.tuple hb
 refine HT.cat_tup p1 p2 (fun z=>hx (r1.nil_iff.mp z)) (fun z=>⟨.ref a,H,I,rfl,q1 (r2.nil_iff.mp z)⟩) (fun z=>?_) (by rw [<- r1.length,<- r2.length]; exact hz)
 refine ⟨.ref s.heap.objs.size,_,I.laid (t':=s.toks) (o:=.tup (xs++ys)) (fun b ob q=>Heap.get?_push_of_some _ q) (Nat.le_refl _) ?_,rfl,q2 (fun w=>z (r2.nil_iff.mpr w)) _ (I.hok.fresh (Nat.le_refl _))⟩
 exact ⟨by rw [List.length_append]; exact hz,_,r1.append r2,IsTup.new _ _⟩
end
end L2
namespace L2
open PySem PySem.Spec PyProof.Rows
def kS (n:Nat) (i:Int):Option Nat:=if 0<=i then (if i < n then some i.toNat else none) else if -(n:Int)<=i then some (i+n).toNat else none
def uW {α:Type} (xs:List α) (i:Int):Option α:=(kS xs.length i).bind fun j=>xs[j]?
theorem zKC {n:Nat}{i:Int}{j:Nat} (h:kS n i=some j):seqIndex? i n=some j/\j < n/\-(n:Int)<=i/\i < n:=by
 unfold kS at h
 by_cases h0:0<=i
 ·rw [if_pos h0] at h
  by_cases h1:i < n
  ·rw [if_pos h1] at h
   have e:i.toNat=j:=Option.some.inj h
   exact ⟨by rw [seqIndex_of h0 h1,e],by omega,by omega,h1⟩
  ·rw [if_neg h1] at h; cases h
 ·rw [if_neg h0] at h
  by_cases h1:-(n:Int)<=i
  ·rw [if_pos h1] at h
   have e:(i+n).toNat=j:=Option.some.inj h
   exact ⟨by rw [seqIndex_neg (by omega) h1,e],by omega,h1,by omega⟩
  ·rw [if_neg h1] at h; cases h
theorem zCW {α:Type}{xs:List α}{i:Int}{v:α} (h:uW xs i=some v):∃ j,seqIndex? i xs.length=some j/\xs[j]?=some v/\j < xs.length/\-(xs.length:Int)<=i/\i < xs.length:=by
 unfold uW at h
 cases e:kS xs.length i with
 | none=>rw [e] at h; cases h
 | some j =>
  rw [e] at h
  obtain ⟨h1,h2,h3,h4⟩:=zKC e
  exact ⟨j,h1,h,h2,h3,h4⟩
theorem jF {α:Type}{xs:List α}{j:Nat}{v:α} (h:xs[j]?=some v):uW xs (j:Int)=some v:=by
 have hj:j < xs.length:=(List.getElem?_eq_some_iff.mp h).1
 have e:kS xs.length (j:Int)=some j:=by
  unfold kS
  rw [if_pos (by omega),if_pos (by omega)]; simp
 unfold uW; rw [e]; exact h
theorem zKD {α:Type} (xs:List α) (v:α):uW (xs++[v]) (-1)=some v:=by
 have hl:(xs++[v]).length=xs.length+1:=by simp
 have e:kS (xs++[v]).length (-1)=some xs.length:=by
  unfold kS
  rw [hl,if_neg (by decide),if_pos (by omega)]
  congr 1
  omega
 unfold uW
 rw [e]
 show (xs++[v])[xs.length]?=some v
 simp
def zKE (b:Expr):Prop:=∀ o i,subscripted b false o i=operate [o,i] (getItem o i)
def kA (X:Cx) (r:R2):Prop :=
 ∀ (value slice:Expr) (pins:List (Addr × Obj)) (s:Shared) (σ:St) (H:Hp) (x y:V) (v u:Value) (Q:VK),Inv X pins σ H s->zT x v->zT y u->r x y H Q ->
  subscripted slice false v u=operate [v,u] (getItem v u)->wpAny (model X.prog X.w) X.A (subscriptTail value slice v u) (EP X pins σ Q) X.xe s
def gK (X:Cx) (id:String) (r:V->List V->Hp->VK->Prop):Prop :=
 ∀ (pins:List (Addr × Obj)) (s:Shared) (σ:St) (H:Hp) (x:V) (xs:List V) (v:Value) (us:List Value) (Q:VK),Inv X pins σ H s->zT x v->zM xs us->r x xs H Q ->
  wpAny (model X.prog X.w) X.A (call (.builtin id) (v::us)) (EP X pins σ Q) X.xe s
section
variable {X:Cx}{a b:Expr}{ta tb:TE}{pos:Pos}
theorem kA.or {r r':R2} (h:kA X r) (h':kA X r'):kA X (fun x y H Q=>r x y H Q\/r' x y H Q):=by
 intro value slice pins s σ H x y v u Q I rx ry q hs
 rcases q with q | q
 ·exact h value slice pins s σ H x y v u Q I rx ry q hs
 ·exact h' value slice pins s σ H x y v u Q I rx ry q hs
theorem yD {r:R2} (hr:kA X r) (ha:PE X a ta) (hb:PE X b tb) (hs:zKE b):PE X (.Subscript a b pos) (tOp r ta tb):=by
 intro pins s σ H Q I h
 exact Subscript_ (zCQ ha hb I h fun v u s2 x y H2 I2 rx ry q=>hr a b pins s2 σ H2 x y v u Q I2 rx ry q (hs _ _))
def zFB (K:PySem.W.Frag):R2:=fun x y H Q=>∃ p xs i v,x=.ref p/\y=.int i/\yC K H p xs/\uW xs i=some v/\Q v H
def zFC (K:PySem.W.Frag):R2:=fun x y H Q=>∃ p xs i v,x=.ref p/\y=.int i/\zZ K H p xs/\uW xs i=some v/\Q v H
def zFD:R2:=fun x y H Q=>∃ z i c,x=.str z/\y=.int i/\z.length<=sizeLine/\uW z.cps.toList i=some c/\Q (.str ⟨#[c]⟩) H
theorem zAA:kA X (zFB X.K):=by
 intro value slice pins s σ H x y v u Q I rx ry h hs
 obtain ⟨p,xs,i,z,rfl,rfl,hq,he,q⟩:=h
 cases rx
 obtain ⟨t,rfl⟩:=ry
 obtain ⟨its,r,pl,hz⟩:=I.list hq
 obtain ⟨j,h1,h2,h3,h4,h5⟩:=zCW he
 obtain ⟨w,ew,rw'⟩:=r.get h2
 have hl:=r.length
 have hn:=zAU
 have fin:EP X pins σ Q w s:=⟨z,H,I,rw',q⟩
 by_cases h0:0<=i
 ·have hj:i.toNat=j:=by
   rw [seqIndex_of h0 h5] at h1
   exact Option.some.inj h1
  exact item_listR pl.isList h0 (by omega) (by rw [hj]; simpa using ew) fin hs
 ·have hj:(i+(its.toArray.size:Int)).toNat=j:=by
   rw [seqIndex_neg (by omega) h4] at h1
   rw [List.size_toArray,<- hl]
   exact Option.some.inj h1
  exact subscriptTail_builtinR (x:=w) pl.isList.typeIs slot_list_getitem.lookup
   (wpAny_getItem_list_neg (Q:=fun r s'=>r=w/\EP X pins σ Q r s') pl.isList (by omega) (by rw [List.size_toArray] <;> omega) (by omega) (by rw [hj]; simpa using ew) ⟨rfl,fin⟩) hs
theorem yT:kA X (zFC X.K):=by
 intro value slice pins s σ H x y v u Q I rx ry h hs
 obtain ⟨p,xs,i,z,rfl,rfl,hq,he,q⟩:=h
 cases rx
 obtain ⟨t,rfl⟩:=ry
 obtain ⟨its,r,pl,hz⟩:=I.tuple hq
 obtain ⟨j,h1,h2,h3,h4,h5⟩:=zCW he
 obtain ⟨w,ew,rw'⟩:=r.get h2
 have hl:=r.length
 have hn:=zAU
 have fin:EP X pins σ Q w s:=⟨z,H,I,rw',q⟩
 exact subscriptTail_builtinR (x:=w) pl.typeIs slot_tuple_getitem.lookup
  (getItem_tuple (j:=j) (Q:=fun r s'=>r=w/\EP X pins σ Q r s') pl (by omega) (by omega) (by rw [List.size_toArray,<- hl]; exact h1) (by simpa using ew) ⟨rfl,fin⟩) hs
theorem gL:kA X zFD:=by
 intro value slice pins s σ H x y v u Q I rx ry h hs
 obtain ⟨z,i,c,rfl,rfl,hz,he,q⟩:=h
 obtain ⟨t,rfl⟩:=rx
 obtain ⟨t',rfl⟩:=ry
 obtain ⟨j,h1,h2,h3,h4,h5⟩:=zCW he
 have hl:z.cps.toList.length=z.length:=by simp [Str.length]
 rw [hl] at h1 h4 h5
 have hn:=zAU
 exact tail_any (typeIs_str s z t) slot_str_getitem.lookup (getItem_str (c:=c) (by
  have e1:decide (i < -(2 ^ 63:Int))=false:=decide_eq_false (by omega)
  have e2:decide (i >= 2 ^ 63)=false:=decide_eq_false (by omega)
  rw [e1,e2,Bool.or_false]) (by rw [h1]; simpa using h2) ⟨.str ⟨#[c]⟩,H,I.tok _,⟨_,rfl⟩,q⟩) hs
def rIx (K:PySem.W.Frag):R2:=fun x y H Q=>zFB K x y H Q\/zFC K x y H Q\/zFD x y H Q
theorem zKF:kA X (rIx X.K):=zAA.or (yT.or gL)
theorem Inv.lst {pins:List (Addr × Obj)}{σ:St}{H:Hp}{s:Shared}{p:Addr}{xs:List V} (I:Inv X pins σ H s) (h:H p=some (.lst xs)) :
  ∃ (its:List Value) (n:Nat),zM xs its/\s.heap.get? p=some { cls:=.type "list",data:=.seq its.toArray n }/\xs.length<=sizeLine:=by
 obtain ⟨z,its,n,r,e⟩:=I.hok p _ h
 exact ⟨its,n,r,e,z⟩
theorem zKG (lo hi:Option Int) (n:Nat):(sliceBounds lo hi none n).1=((HT.sIx n 0 lo:Nat):Int)/\(sliceBounds lo hi none n).2.1=((HT.sIx n n hi:Nat):Int)/\(sliceBounds lo hi none n).2.2=1:=by
 refine ⟨?_,?_,rfl⟩
 ·cases lo with
  | none=>simp [sliceBounds,HT.sIx]
  | some i =>
   simp only [sliceBounds,HT.sIx,Option.getD_none,show (1:Int) > 0 by decide,if_true]
   by_cases h:i < 0
   ·simp only [h,if_true] <;> omega
   ·simp only [h,if_false] <;> omega
 ·cases hi with
  | none=>simp [sliceBounds,HT.sIx]
  | some i =>
   simp only [sliceBounds,HT.sIx,Option.getD_none,show (1:Int) > 0 by decide,if_true]
   by_cases h:i < 0
   ·simp only [h,if_true] <;> omega
   ·simp only [h,if_false] <;> omega
theorem zKH (its:List Value) (lo hi:Option Int):slicePick its.toArray lo hi none=((its.drop (HT.sIx its.length 0 lo)).take (HT.sIx its.length its.length hi - HT.sIx its.length 0 lo)).toArray:=by
 obtain ⟨h1,h2,h3⟩:=zKG lo hi its.toArray.size
 unfold slicePick
 rw [h1,h2,h3]
 simp only [sliceRange_one,pick_run,List.size_toArray] <;> rfl
def zKI (K:PySem.W.Frag):V->Option Int->Option Int->Hp->VK->Prop:=fun x lo hi H Q=>∃ a xs,x=.ref a/\yC K H a xs/\∀ p,H p=none->Q (.ref p) (upd H p (.lst (vU xs lo hi)))
theorem zCX:SlR X (zKI X.K):=by
 intro pins s σ H x v vl vu lo hi sl Q I rx hs pl pu h
 obtain ⟨a,xs,rfl,hx,q⟩:=h
 cases rx
 obtain ⟨its,r,ht,hz⟩:=I.list hx
 have hlen:=r.length
 refine ⟨"list",_,slot_list_getitem.lookup,ht.isList.typeIs,?_⟩
 refine wpAny_getItem_list_slice ht.isList hs pl pu .none (by simp) ?_ (by rw [List.size_toArray] <;> omega)
 rw [zKH,<- hlen]
 refine ⟨.ref s.heap.objs.size,_,I.laid (t':=s.toks) (o:=.lst (vU xs lo hi)) (fun b ob q=>Heap.get?_push_of_some _ q) (Nat.le_refl _) ?_,rfl,q _ (I.hok.fresh (Nat.le_refl _))⟩
 exact ⟨Nat.le_trans (zEz xs lo hi) hz,_,0,(r.drop (HT.sIx xs.length 0 lo)).take (HT.sIx xs.length xs.length hi - HT.sIx xs.length 0 lo),Heap.get?_push_size _ rfl⟩
def kB:V->Bool
 | .non=>true
 | .bl _=>true
 | .int _=>true
 | .str _=>true
 | _=>false
def qS:V->V->Bool
 | .non,.non=>true
 | .bl a,.bl b=>a == b
 | .bl a,.int b=>(if a then 1 else 0) == b
 | .int a,.bl b=>a == (if b then 1 else 0)
 | .int a,.int b=>a == b
 | .str a,.str b=>a == b
 | _,_=>false
theorem zKJ {A:Around}{s:Shared}{y x:V}{u v:Value} (ry:zT y u) (rx:zT x v) (fy:kB y=true) (fx:kB x=true):SeqAt.EqAt A s u v (qS y x):=by
 cases y with
 | non =>
  cases ry
  cases x with
  | non=>cases rx; exact SeqAt.EqAt.same _
  | bl b=>cases rx; exact SeqAt.EqAt.none_bool b
  | int b=>obtain ⟨t,rfl⟩:=rx; exact SeqAt.EqAt.none_int b t
  | str b=>obtain ⟨t,rfl⟩:=rx; exact SeqAt.EqAt.none_str b t
  | _=>exact absurd (show false=true from fx) Bool.false_ne_true
 | bl a =>
  cases ry
  cases x with
  | non=>cases rx; exact SeqAt.EqAt.bool_none a
  | bl b=>cases rx; exact SeqAt.EqAt.bool_bool a b
  | int b=>obtain ⟨t,rfl⟩:=rx; exact SeqAt.EqAt.bool_int a b t
  | str b=>obtain ⟨t,rfl⟩:=rx; exact SeqAt.EqAt.bool_str a b t
  | _=>exact absurd (show false=true from fx) Bool.false_ne_true
 | int a =>
  obtain ⟨t',rfl⟩:=ry
  cases x with
  | non=>cases rx; exact SeqAt.EqAt.int_none a t'
  | bl b=>cases rx; exact SeqAt.EqAt.int_bool a t' b
  | int b=>obtain ⟨t,rfl⟩:=rx; exact SeqAt.EqAt.int_int a t' b t
  | str b=>obtain ⟨t,rfl⟩:=rx; exact SeqAt.EqAt.int_str a t' b t
  | _=>exact absurd (show false=true from fx) Bool.false_ne_true
 | str a =>
  obtain ⟨t',rfl⟩:=ry
  cases x with
  | non=>cases rx; exact SeqAt.EqAt.str_none a t'
  | bl b=>cases rx; exact SeqAt.EqAt.str_bool a t' b
  | int b=>obtain ⟨t,rfl⟩:=rx; exact SeqAt.EqAt.str_int a t' b t
  | str b=>obtain ⟨t,rfl⟩:=rx; exact SeqAt.EqAt.str_str a t' b t
  | _=>exact absurd (show false=true from fx) Bool.false_ne_true
 | _=>exact absurd (show false=true from fy) Bool.false_ne_true
def uD (x:V) (u:Value):Bool:=match u with
 | .none=>qS .non x
 | .bool b=>qS (.bl b) x
 | .int i _=>qS (.int i) x
 | .str z _=>qS (.str z) x
 | _=>false
theorem zFE {x y:V}{u:Value} (r:zT y u) (f:kB y=true):uD x u=qS y x:=by
 cases y with
 | non=>cases r; rfl
 | bl b=>cases r; rfl
 | int i=>obtain ⟨t,rfl⟩:=r; rfl
 | str z=>obtain ⟨t,rfl⟩:=r; rfl
 | _=>exact absurd (show false=true from f) Bool.false_ne_true
theorem zAW {x:V}:∀ {xs:List V}{us:List Value},zM xs us->xs.all kB=true->us.any (uD x)=xs.any fun y=>qS y x
 | _,_,.nil,_=>rfl
 | y::xs,u::us,.cons r t,f=>by
  rw [List.all_cons,Bool.and_eq_true] at f
  rw [List.any_cons,List.any_cons,zFE r f.1,zAW t f.2]
theorem zAX {A:Around}{s:Shared}{x:V}{v:Value} (rx:zT x v) (fx:kB x=true):∀ {xs:List V}{us:List Value},zM xs us->xs.all kB=true->∀ u∈us,SeqAt.EqAt A s u v (uD x u)
 | _,_,.nil,_=>fun u hu=>by cases hu
 | y::xs,u::us,.cons r t,f=>fun u' hu=>by
  rw [List.all_cons,Bool.and_eq_true] at f
  rcases List.mem_cons.mp hu with rfl | hu
  ·rw [zFE r f.1]; exact zKJ r rx f.1 fx
  ·exact zAX rx fx t f.2 u' hu
def gM (x:V) (xs:List V):Bool:=xs.any fun y=>qS y x
def rIn (K:PySem.W.Frag) (neg:Bool):R2:=fun x y H Q=>∃ p xs,y=.ref p/\(yC K H p xs\/zZ K H p xs)/\kB x=true/\xs.all kB=true/\Q (.bl (if neg then !gM x xs else gM x xs)) H
theorem zKK:yE X (compareOp .In) (rIn X.K false):=by
 intro pins s σ H x y v u Q I rx ry h
 obtain ⟨p,xs,rfl,hq,fx,fs,q⟩:=h
 cases ry
 rcases hq with hq | hq
 ·obtain ⟨its,r,pl,hz⟩:=I.list hq
  refine SeqAt.in_listAt (uD x) pl.isList (fun w hw=>zAX rx fx r fs w (by simpa using hw)) ⟨.bl _,H,I,rfl,?_⟩
  rw [show its.toArray.any (uD x)=its.any (uD x) by simp,zAW r fs]
  exact q
 ·obtain ⟨its,r,pl,hz⟩:=I.tuple hq
  refine SeqAt.in_tupleAt (uD x) pl (fun w hw=>zAX rx fx r fs w (by simpa using hw)) ⟨.bl _,H,I,rfl,?_⟩
  rw [show its.toArray.any (uD x)=its.any (uD x) by simp,zAW r fs]
  exact q
theorem zAY:yE X (compareOp .NotIn) (rIn X.K true):=by
 intro pins s σ H x y v u Q I rx ry h
 obtain ⟨p,xs,rfl,hq,fx,fs,q⟩:=h
 cases ry
 rcases hq with hq | hq
 ·obtain ⟨its,r,pl,hz⟩:=I.list hq
  refine SeqAt.notIn_listAt (uD x) pl.isList (fun w hw=>zAX rx fx r fs w (by simpa using hw)) ⟨.bl _,H,I,rfl,?_⟩
  rw [show its.toArray.any (uD x)=its.any (uD x) by simp,zAW r fs]
  exact q
 ·obtain ⟨its,r,pl,hz⟩:=I.tuple hq
  refine SeqAt.notIn_tupleAt (uD x) pl (fun w hw=>zAX rx fx r fs w (by simpa using hw)) ⟨.bl _,H,I,rfl,?_⟩
  rw [show its.toArray.any (uD x)=its.any (uD x) by simp,zAW r fs]
  exact q
theorem jR:qF X (.builtin "len") (fun xs H Q=>∃ p ys,xs=[.ref p]/\(yC X.K H p ys\/zZ X.K H p ys)/\Q (.int ys.length) H):=by
 intro pins s σ H xs us Q I r h
 obtain ⟨p,ys,rfl,hq,q⟩:=h
 obtain ⟨u,rfl,rx⟩:=uU r
 cases rx
 have hn:=zAU
 rcases hq with hq | hq
 ·obtain ⟨its,r',pl,hz⟩:=I.list hq
  have hlen:=r'.length
  exact Calls.call_len_list pl.isList (by simp only [List.size_toArray] <;> omega) ⟨.int ys.length,H,I.tok _,⟨s.toks+1,by rw [List.size_toArray,hlen]⟩,q⟩
 ·obtain ⟨its,r',pl,hz⟩:=I.tuple hq
  have hlen:=r'.length
  exact len_tuple pl (by simp only [List.size_toArray] <;> omega) ⟨.int ys.length,H,I.tok _,⟨s.toks+1,by rw [List.size_toArray,hlen]⟩,q⟩
theorem jG:qF X (.builtin "len") (fun xs H Q=>∃ z,xs=[.str z]/\z.length<=sizeLine/\Q (.int z.length) H):=by
 intro pins s σ H xs us Q I r h
 obtain ⟨z,rfl,hz,q⟩:=h
 obtain ⟨u,rfl,t,rfl⟩:=uU r
 have hn:=zAU
 exact len_str (by omega) ⟨.int z.length,H,I.tok _,⟨_,rfl⟩,q⟩
theorem zKL:qF X (.type "list") (fun xs H Q=>∃ p ys,xs=[.ref p]/\(yC X.K H p ys\/zZ X.K H p ys)/\∀ l,H l=none->Q (.ref l) (upd H l (.lst ys))):=by
 intro pins s σ H xs us Q I r h
 obtain ⟨p,ys,rfl,hq,q⟩:=h
 obtain ⟨u,rfl,rx⟩:=uU r
 cases rx
 have fin:∀ (its:List Value),zM ys its->ys.length<=sizeLine->∀ (h':Heap) (c':Nat),(∀ b o',s.heap.get? b=some o'->h'.get? b=some o') ->
   h'.get? s.heap.objs.size=some { cls:=.type "list",dict:=none,data:=.seq its.toArray c',slots:=#[] }->EP X pins σ Q (.ref s.heap.objs.size) { s with heap:=h' }:=fun its r' hz h' c' kp e =>
  ⟨.ref s.heap.objs.size,_,I.laid (t':=s.toks) kp (Nat.le_refl _) (show yF X.prog X.w _ h' _ (.lst ys) from ⟨hz,its,c',r',e⟩),rfl,q _ (I.hok.fresh (Nat.le_refl _))⟩
 rcases hq with hq | hq
 ·obtain ⟨its,r',pl,hz⟩:=I.list hq
  have hlen:=r'.length
  obtain ⟨o,ho,hc,n,hd⟩:=pl.isList
  exact call_list_seq p (.inl rfl) ho hc hd (fun h' c' kp e=>fin its r' hz h' c' kp e) (by simp only [List.size_toArray] <;> omega)
 ·obtain ⟨its,r',pl,hz⟩:=I.tuple hq
  have hlen:=r'.length
  obtain ⟨o,ho,hc,n,hd⟩:=pl
  exact call_list_seq p (.inr rfl) ho hc hd (fun h' c' kp e=>fin its r' hz h' c' kp e) (by simp only [List.size_toArray] <;> omega)
theorem zFF:qF X (.type "tuple") (fun xs H Q=>∃ p ys,xs=[.ref p]/\((yC X.K H p ys/\∀ l,H l=none->Q (.ref l) (upd H l (.tup ys)))\/(zZ X.K H p ys/\Q (.ref p) H))):=by
 intro pins s σ H xs us Q I r h
 obtain ⟨p,ys,rfl,h⟩:=h
 obtain ⟨u,rfl,rx⟩:=uU r
 cases rx
 rcases h with ⟨hq,q⟩ | ⟨hq,q⟩
 ·obtain ⟨its,r',pl,hz⟩:=I.list hq
  have hlen:=r'.length
  refine call_tuple_list pl.isList (fun h' kp=>?_) (by simp only [List.size_toArray] <;> omega)
  have I1:Inv X pins σ H { s with heap:=h' }:=I.kept (t':=s.toks) kp
  have I2:Inv X pins σ (upd H h'.objs.size (.tup ys)) { s with heap:=h'.push { cls:=.type "tuple",data:=.seq its.toArray } } :=
   I1.laid (t':=s.toks) (fun b o e=>Heap.get?_push_of_some _ e) (Nat.le_refl _) (show yF X.prog X.w _ _ _ (.tup ys) from ⟨hz,its,r',IsTup.new _ _⟩)
  exact ⟨.ref h'.objs.size,_,I2,rfl,q _ (I1.hok.fresh (Nat.le_refl _))⟩
 ·obtain ⟨its,r',pl,hz⟩:=I.tuple hq
  exact call_tuple_same pl ⟨.ref p,H,I,rfl,q⟩
def tyV (K:PySem.W.Frag) (T:String) (x:V) (H:Hp):Prop:=match x with
 | .str _=>T = "str"
 | .int _=>T = "int"
 | .ref p=>(T = "list" /\ ∃ xs,yC K H p xs)\/(T = "tuple" /\ ∃ o,K.lookup p=some o/\o.cls=.type "tuple" /\ o.dict=none) \/
   (T = "dict" /\ ((∃ kvs,H p=some (.dK kvs))\/∃ kvs,H p=some (.dT kvs)))\/(T = "set" /\ ∃ S n,H p=some (.set S n))
 | _=>False
theorem zFG {pins:List (Addr × Obj)}{σ:St}{H:Hp}{s:Shared}{T:String}{x:V}{v:Value} (I:Inv X pins σ H s) (r:zT x v) (ty:tyV X.K T x H) :
  s.TypeIs v T/\∀ a,v=.ref a->∃ ob,s.heap.get? a=some ob/\ob.dict=none:=by
 cases x with
 | str z =>
  obtain ⟨t,rfl⟩:=r
  cases (show T = "str" from ty)
  exact ⟨typeIs_str s z t,fun _ e=>nomatch e⟩
 | int i =>
  obtain ⟨t,rfl⟩:=r
  cases (show T = "int" from ty)
  exact ⟨typeIs_int s i t,fun _ e=>nomatch e⟩
 | ref p =>
  cases r
  rcases ty with ⟨rfl,xs,hq⟩ | ⟨rfl,o,hk,hc,hd⟩ | ⟨rfl,hk⟩ | ⟨rfl,S,n,hk⟩
  ·obtain ⟨its,_,pl,_⟩:=I.list hq
   refine ⟨pl.isList.typeIs,fun a e=>?_⟩
   cases e
   obtain ⟨o,n,e,c,hd,_⟩:=pl
   exact ⟨o,e,hd⟩
  ·refine ⟨⟨o,I.kIn p o hk,hc⟩,fun a e=>?_⟩
   cases e
   exact ⟨o,I.kIn _ o hk,hd⟩
  ·have z:∃ o,s.heap.get? p=some o/\o.ExactDict:=by
    rcases hk with ⟨kvs,hk⟩ | ⟨kvs,hk⟩
    ·obtain ⟨_,_,_,_,o,_,_,e,ex,_⟩:=I.hok p _ hk
     exact ⟨o,e,ex⟩
    ·obtain ⟨_,_,_,_,o,_,_,e,ex,_⟩:=I.hok p _ hk
     exact ⟨o,e,ex⟩
   obtain ⟨o,e,ex⟩:=z
   refine ⟨⟨o,e,ex.1⟩,fun a e2=>?_⟩
   cases e2
   exact ⟨o,e,ex.2.1⟩
  ·obtain ⟨o,_,_,_,e,ex,_⟩:=I.hok p _ hk
   refine ⟨⟨o,e,ex.1⟩,fun a e2=>?_⟩
   cases e2
   exact ⟨o,e,ex.2.1⟩
 | _=>exact False.elim ty
def zFH (K:PySem.W.Frag) (T:String) (r:V->List V->Hp->VK->Prop) (to:TE):TE:=fun σ H Q=>to σ H fun x H1=>tyV K T x H1/\r x [] H1 Q
def tBM (K:PySem.W.Frag) (T:String) (r:V->List V->Hp->VK->Prop) (to:TE) (t:TA):TE:=fun σ H Q=>to σ H fun x H1=>tyV K T x H1/\t σ H1 fun xs H2=>r x xs H2 Q
variable {o e:Expr}{es:List Expr}{to:TE}{t:TA}{name:Str}{apos cpos:Pos}{T id:String}{r:V->List V->Hp->VK->Prop}
theorem zCY (pa:PlainAttrs T) (slot:Slot T name id) (hty:typeOf (.builtin id)=pure (.type "method_descriptor")) (hm:gK X id r) (ho:PE X o to)
  (hbase:attributeBase o name X.env (eval o X.env)=eval o X.env:=by rfl) (hline:(apos.endLine == cpos.line)=true:=by rfl):PE X (.Call (.Attribute o name apos) [] [] cpos) (zFH X.K T r to):=by
 intro pins s σ H Q I h
 refine wpAny_Call_method0_late hbase hline (zJ (ho pins s σ H _ I h) fun v s1 ⟨x,H1,I1,r1,ty,q1⟩=>?_)
 obtain ⟨h1,h2⟩:=zFG I1 r1 ty
 exact ⟨T,id,pa,slot,hty,h1,h2,Calls.callWith_builtin rfl (PySem.evalArgs_none (hm pins s1 σ H1 x [] v [] Q I1 r1 .nil q1))⟩
theorem jH (pa:PlainAttrs T) (slot:Slot T name id) (hty:typeOf (.builtin id)=pure (.type "method_descriptor")) (hm:gK X id r) (ho:PE X o to) (ha:PA X (e::es) t)
  (hbase:attributeBase o name X.env (eval o X.env)=eval o X.env:=by rfl)
  (hfew:((backTo cpos (starEach (e::es) X.env)).all (fun x=>!x.1) && (backToKw cpos (keywordEach [] X.env)).all (fun x=>x.1.isSome)
   && decide ((e::es).length+([]:List Keyword).length+(if ([]:List Keyword).isEmpty then 0 else 1) < 30))=true:=by rfl)
  (hline:(apos.endLine == cpos.line)=true:=by rfl) (hs:starEach (e::es) X.env=(false,eval e X.env)::starEach es X.env:=by rfl) (hplain:(backTo cpos (starEach es X.env)).any (·.1)=false:=by rfl) :
  PE X (.Call (.Attribute o name apos) (e::es) [] cpos) (tBM X.K T r to t):=by
 intro pins s σ H Q I h
 refine wpAny_Call_method_late hbase hfew hline rfl (zJ (ho pins s σ H _ I h) fun v s1 ⟨x,H1,I1,r1,ty,q1⟩=>?_)
 obtain ⟨h1,h2⟩:=zFG I1 r1 ty
 refine ⟨T,id,pa,slot,hty,h1,h2,?_⟩
 have hA:=ha cpos pins s1 σ H1 _ I1 q1
 rw [hs] at hA ⊢
 refine Calls.callWith_builtin (by show (false || (backTo cpos (starEach es X.env)).any (·.1))=false; rw [hplain] <;> rfl) (Calls.evalArgs_plain ?_)
 exact zJ hA fun us s2 ⟨vs,H2,I2,r2,q2⟩=>hm pins s2 σ H2 x vs v us Q I2 r1 r2 q2
end
end L2
namespace L2
open PySem PySem.Spec PyProof.Rows
def gN (X:Cx) (id:String) (r:V->List V->Hp->VK->Prop):Prop :=
 ∀ (pins:List (Addr × Obj)) (s:Shared) (σ:St) (H:Hp) (x:V) (xs:List V) (v:Value) (us:List Value) (Q:VK),Inv X pins σ H s->zT x v->zM xs us->r x xs H Q ->
  wpAny (model X.prog X.w) X.A (call (.builtin id) (v::us)) (EP X pins σ Q) X.xe s
theorem zM.one:∀ {x:V}{us:List Value},zM [x] us->∃ u,us=[u]/\zT x u
 | _,_,.cons r .nil=>⟨_,rfl,r⟩
theorem zM.zero:∀ {us:List Value},zM [] us->us=[]
 | _,.nil=>rfl
theorem zM.dropLast {xs:List V}{us:List Value} (h:zM xs us):zM xs.dropLast us.dropLast:=by
 induction h with
 | nil=>exact .nil
 | cons r t ih =>
  cases t with
  | nil=>exact .nil
  | cons q t'=>exact .cons r ih
theorem zM.eraseIdx:∀ {xs:List V}{us:List Value} (i:Nat),zM xs us->zM (xs.eraseIdx i) (us.eraseIdx i)
 | _,_,_,.nil=>.nil
 | _,_,0,.cons _ t=>t
 | _,_,i+1,.cons r t=>.cons r (zM.eraseIdx i t)
theorem zM.reverse {xs:List V}{us:List Value} (h:zM xs us):zM xs.reverse us.reverse:=by
 induction h with
 | nil=>exact .nil
 | cons r t ih=>rw [List.reverse_cons,List.reverse_cons]; exact zM.append ih (.cons r .nil)
theorem zM.rep {xs:List V}{us:List Value} (h:zM xs us):∀ k:Nat,zM (List.replicate k xs).flatten (List.replicate k us).flatten
 | 0=>.nil
 | k+1=>by
  rw [List.replicate_succ,List.replicate_succ,List.flatten_cons,List.flatten_cons]
  exact zM.append h (zM.rep h k)
theorem zFI (its:List Value):∀ (k:Nat) (acc:List Value),
  List.foldl (fun x1 x2=>x1++x2) acc.toArray (List.replicate k its.toArray)=(acc++(List.replicate k its).flatten).toArray
 | 0,acc=>by simp
 | k+1,acc=>by
  have e:acc.toArray++its.toArray=(acc++its).toArray:=by simp
  have e2:(acc++its)++(List.replicate k its).flatten=acc++(List.replicate (k+1) its).flatten:=by
   rw [List.replicate_succ,List.flatten_cons,List.append_assoc]
  rw [<- e2,<- zFI its k (acc++its),<- e,List.replicate_succ,List.foldl_cons]
section
variable {X:Cx}{pins:List (Addr × Obj)}{σ:St}{H:Hp}{s:Shared}{l b:Addr}{xs ys zs:List V}
theorem Inv.lset {its its':List Value}{n:Nat}{f:Array Value->Array Value}{t':Nat} (I:Inv X pins σ H s) (hH:H l=some (.lst xs))
  (e:s.heap.get? l=some { cls:=.type "list",data:=.seq its.toArray n }) (hf:f its.toArray=its'.toArray) (hv:zM ys its') (hz:ys.length<=sizeLine) :
  Inv X pins σ (upd H l (.lst ys)) { s with heap:=s.heap.update l (Obj.mapSeq f),toks:=t' }:=by
 have q:=PySem.IsL.update e f
 rw [hf] at q
 refine I.write (x:=l) (e:=l) (by rw [hH]; exact trivial) (.inl rfl) (fun b' u hb hu=>(Heap.get?_update_other s.heap (Obj.mapSeq f) (Ne.symm hb)).trans hu) ⟨_,q⟩ ?_
 exact ⟨hz,its',_,hv,q⟩
theorem Inv.lnew {its:List Value}{t':Nat} (I:Inv X pins σ H s) (hv:zM ys its) (hz:ys.length<=sizeLine) :
  Inv X pins σ (upd H s.heap.objs.size (.lst ys)) { s with heap:=s.heap.push { cls:=.type "list",data:=.seq its.toArray },toks:=t' } :=
 I.laid (fun _ _ q=>Heap.get?_push_of_some _ q) (Nat.le_refl _) ⟨hz,its,0,hv,Heap.get?_push_size _ rfl⟩
theorem Inv.fresh (I:Inv X pins σ H s):H s.heap.objs.size=none:=I.hok.fresh (Nat.le_refl _)
theorem Inv.lstM (I:Inv X pins σ H s) (hH:H l=some (.lst xs)):xs.length<=sizeLine/\∃ (its:List Value) (n:Nat),zM xs its/\xs.length=its.length/\s.heap.get? l=some { cls:=.type "list",data:=.seq its.toArray n }:=by
 obtain ⟨z,its,n,r,e⟩:=I.hok l _ hH
 exact ⟨z,its,n,r,r.length,e⟩
theorem zFJ {n:Nat} (h:n<=sizeLine):Builtin.List.listTooLong n=false:=by
 unfold Builtin.List.listTooLong
 exact decide_eq_false (by omega)
end
section
variable {X:Cx}
def zKM:V->List V->Hp->VK->Prop:=fun x vs H Q=>∃ l xs y,x=.ref l/\vs=[y]/\H l=some (.lst xs)/\xs.length < sizeLine/\Q .non (upd H l (.lst (xs++[y])))
theorem zBI:gN X "list.append" zKM:=by
 intro pins s σ H x vs v us Q I rx rv h
 obtain ⟨l,xs,y,rfl,rfl,hH,hz,q⟩:=h
 cases rx
 obtain ⟨u,rfl,ru⟩:=rv.one
 obtain ⟨z,its,n,r,hl,e⟩:=I.lstM hH
 refine call_meets F.slot_list_append ⟨_,e,rfl⟩ F.entry_list_append (F.args_list_append_2 _ _) (PySem.list_append l its.toArray n u (by rw [List.size_toArray]; omega)) ⟨e,?_⟩
 refine ⟨.non,_,I.lset (its':=its++[u]) hH e (by simp) (r.append (.cons ru .nil)) ?_,rfl,q⟩
 rw [List.length_append,List.length_singleton]
 omega
def zKN:V->List V->Hp->VK->Prop:=fun x vs H Q=>∃ l b xs zs,x=.ref l/\vs=[.ref b]/\H l=some (.lst xs)/\H b=some (.lst zs)/\xs.length+zs.length<=sizeLine/\Q .non (upd H l (.lst (xs++zs)))
theorem zKO:gN X "list.extend" zKN:=by
 intro pins s σ H x vs v us Q I rx rv h
 obtain ⟨l,b,xs,zs,rfl,rfl,hH,hB,hz,q⟩:=h
 cases rx
 obtain ⟨u,rfl,ru⟩:=rv.one
 cases ru
 obtain ⟨z,its,n,r,hl,e⟩:=I.lstM hH
 obtain ⟨z2,its2,n2,r2,hl2,e2⟩:=I.lstM hB
 have hsz:its.toArray.size+its2.toArray.size<=sizeLine:=by rw [List.size_toArray,List.size_toArray]; omega
 have hlong:¬ (!its.toArray.isEmpty && Builtin.List.listTooLong (its.toArray.size+its2.toArray.size))=true:=by
  rw [zFJ hsz,Bool.and_false]
  exact Bool.false_ne_true
 refine call_meets F.slot_list_extend ⟨_,e,rfl⟩ F.entry_list_extend (F.args_list_extend_2 _ _)
  (AutoSeq1.list_extend_list_list_0 l its.toArray n b its2.toArray n2 hlong (by rw [List.size_toArray]; omega) (by omega)) ⟨e,e2,?_⟩
 refine ⟨.non,_,I.lset (its':=its++its2) hH e (by simp) (r.append r2) ?_,rfl,q⟩
 rw [List.length_append]
 omega
def zKP:R2:=fun x y H Q=>∃ l b xs zs,x=.ref l/\y=.ref b/\H l=some (.lst xs)/\H b=some (.lst zs)/\xs.length+zs.length<=sizeLine/\∀ p,H p=none->Q (.ref p) (upd H p (.lst (xs++zs)))
theorem zFK:yE X (binaryOp .Add) zKP:=by
 intro pins s σ H x y v u Q I rx ry h
 obtain ⟨l,b,xs,zs,rfl,rfl,hH,hB,hz,q⟩:=h
 cases rx
 cases ry
 obtain ⟨z,its,n,r,hl,e⟩:=I.lstM hH
 obtain ⟨z2,its2,n2,r2,hl2,e2⟩:=I.lstM hB
 refine PySem.P.add_list e e2 ?_ (by rw [List.size_toArray,List.size_toArray]; omega)
 have ea:its.toArray++its2.toArray=(its++its2).toArray:=by simp
 rw [ea]
 exact ⟨.ref _,_,I.lnew (t':=s.toks) (r.append r2) (by rw [List.length_append]; omega),rfl,q _ I.fresh⟩
def zKQ:R2:=fun x y H Q=>∃ l k xs,x=.ref l/\y=.int k/\H l=some (.lst xs)/\-(2 ^ 63)<=k/\k < 2 ^ 63/\xs.length * k.toNat<=sizeLine /\
 ∀ p,H p=none->Q (.ref p) (upd H p (.lst (List.replicate k.toNat xs).flatten))
theorem zFL {α:Type} (xs:List α) (k:Nat):(List.replicate k xs).flatten.length=k * xs.length:=by
 induction k with
 | zero=>simp
 | succ k ih=>rw [List.replicate_succ,List.flatten_cons,List.length_append,ih,Nat.succ_mul,Nat.add_comm]
theorem zFM:yE X (binaryOp .Mult) zKQ:=by
 intro pins s σ H x y v u Q I rx ry h
 obtain ⟨l,k,xs,rfl,rfl,hH,h1,h2,hz,q⟩:=h
 cases rx
 obtain ⟨t,rfl⟩:=ry
 obtain ⟨z,its,n,r,hl,e⟩:=I.lstM hH
 have hlen:its.toArray.size * k.toNat<=sizeLine:=by rw [List.size_toArray,<- hl]; exact hz
 have hcap:¬ its.toArray.size * k.toNat > (2 ^ 63 - 1) / 8:=by
  have:(sizeLine:Nat)<=(2 ^ 63 - 1) / 8:=by decide
  omega
 have hfit:¬ (!Builtin.List.listFitsIndex k)=true:=by
  rw [fitsIndex_both h1 h2]
  exact Bool.false_ne_true
 have hlong:¬ Builtin.List.listTooLong (its.toArray.size * k.toNat)=true:=by
  rw [zFJ hlen]
  exact Bool.false_ne_true
 have hnew:List.foldl (fun x1 x2=>x1++x2) #[] (List.replicate (if its.toArray.isEmpty=true then 0 else k.toNat) its.toArray)=(List.replicate k.toNat its).flatten.toArray:=by
  have f0:∀ m:Nat,List.foldl (fun x1 x2=>x1++x2) #[] (List.replicate m its.toArray)=(List.replicate m its).flatten.toArray:=fun m=>by
   have:=zFI its m []
   rw [List.nil_append] at this
   exact this
  rw [f0]
  cases its with
  | nil=>simp
  | cons a r'=>rw [if_neg (by simp)]
 refine wpAny_binaryOp_repeat_ref (T := "list") (U := "int") (by decide) ⟨_,e,rfl⟩ (fun s'=>typeIs_int s' k t) noFill_list_mul F.fills_int_mul F.slot_int_rmul repeat_list F.slot_int_index.lookup
  (call_meets F.slot_int_rmul (typeIs_int s k t) F.entry_int_rmul (F.args_int_rmul_2 _ _) (int___rmul___int_list k t l its.toArray n)
   ⟨e,rfl,⟨_,e,rfl⟩,call_meets F.slot_list_mul ⟨_,e,rfl⟩ F.entry_list_mul (F.args_list_mul_2 _ _) (AutoListH.list___mul___list_int_3 l its.toArray n k t hfit hcap hlong) ⟨e,?_⟩⟩)
 rw [hnew]
 exact ⟨.ref _,_,I.lnew (t':=s.toks) (r.rep k.toNat) (by rw [zFL,Nat.mul_comm]; exact hz),rfl,q _ I.fresh⟩
end
section
variable {prog:Program}{w:World}{A:Around}{E:Value->Shared->Prop}{s:Shared}
end
section
variable {X:Cx}
end
end L2
namespace L2
open PySem PySem.Spec PyProof.Rows
section
variable {κ:Type} [DecidableEq κ]
def vY (kvs:List (κ × V)) (k:κ):Option V:=(kvs.find? fun kv=>decide (kv.1=k)).map (·.2)
def uL (kvs:List (κ × V)) (k:κ) (v:V):List (κ × V) :=
 if (kvs.any fun kv=>decide (kv.1=k))=true then kvs.map (fun kv=>if kv.1=k then (kv.1,v) else kv) else kvs++[(k,v)]
theorem zBJ {p:κ × V}{r:List (κ × V)}{k:κ} (e:p.1=k):vY (p::r) k=some p.2:=by simp [vY,List.find?_cons,e]
theorem zBK {p:κ × V}{r:List (κ × V)}{k:κ} (e:¬ p.1=k):vY (p::r) k=vY r k:=by simp [vY,List.find?_cons,e]
theorem zFN (k:κ):∀ kvs:List (κ × V),(kvs.any fun kv=>decide (kv.1=k))=(vY kvs k).isSome
 | []=>rfl
 | p::r=>by
  rw [List.any_cons]
  by_cases e:p.1=k
  ·simp only [zBJ e,decide_eq_true e,Bool.true_or,Option.isSome_some]
  ·rw [zBK e,decide_eq_false e,Bool.false_or]; exact zFN k r
theorem zCZ (kvs:List (κ × V)) (k:κ) (v:V):(uL kvs k v).length<=kvs.length+1:=by
 unfold uL
 split
 ·rw [List.length_map]; omega
 ·rw [List.length_append,List.length_cons,List.length_nil]; omega
theorem qQ.isSome_eq {o:Option V}{u:Option Value} (r:qQ o u):o.isSome=u.isSome:=by
 cases o with
 | none=>cases u with
  | none=>rfl
  | some _=>exact (show False from r).elim
 | some _=>cases u with
  | none=>exact (show False from r).elim
  | some _=>rfl
theorem qQ.getD {o:Option V}{u:Option Value}{d:V}{d':Value} (r:qQ o u) (rd:zT d d'):zT (o.getD d) (u.getD d'):=by
 cases o with
 | none=>cases u with
  | none=>exact rd
  | some _=>exact (show False from r).elim
 | some _=>cases u with
  | none=>exact (show False from r).elim
  | some _=>exact r
theorem KV.val {kvs:List (κ × V)}{vs:List (κ × Value)} (r:KV kvs vs) (k:κ):qQ (vY kvs k) (valueAt vs k):=by
 unfold KV at r
 induction r with
 | nil=>exact True.intro
 | @cons p q ps qs h t ih =>
  obtain ⟨h1,h2⟩:=h
  by_cases e:p.1=k
  ·have e':q.1=k:=h1.symm.trans e
   have b:valueAt (q::qs) k=some q.2:=by simp [valueAt,List.find?_cons,e']
   rw [zBJ e,b]; exact h2
  ·have e':¬ q.1=k:=fun z=>e (h1.trans z)
   have b:valueAt (q::qs) k=valueAt qs k:=by simp [valueAt,List.find?_cons,e']
   rw [zBK e,b]; exact ih
theorem KV.any {kvs:List (κ × V)}{vs:List (κ × Value)} (r:KV kvs vs) (k:κ):(kvs.any fun kv=>decide (kv.1=k))=vs.any fun kv=>decide (kv.1=k):=by
 unfold KV at r
 induction r with
 | nil=>rfl
 | cons h t ih=>rw [List.any_cons,List.any_cons,ih,h.1]
theorem KV.repl {kvs:List (κ × V)}{vs:List (κ × Value)} (r:KV kvs vs) (k:κ) {y:V}{u:Value} (ry:zT y u) :
  KV (kvs.map fun kv=>if kv.1=k then (kv.1,y) else kv) (vs.map fun kv=>if kv.1=k then (kv.1,u) else kv):=by
 unfold KV at r ⊢
 induction r with
 | nil=>exact .nil
 | @cons p q ps qs h t ih =>
  rw [List.map_cons,List.map_cons]
  refine .cons ?_ ih
  obtain ⟨h1,h2⟩:=h
  by_cases e:p.1=k
  ·rw [if_pos e,if_pos (h1.symm.trans e)]; exact ⟨h1,ry⟩
  ·rw [if_neg e,if_neg (fun z=>e (h1.trans z))]; exact ⟨h1,h2⟩
theorem KV.put {kvs:List (κ × V)}{vs:List (κ × Value)} (r:KV kvs vs) (k:κ) {y:V}{u:Value} (ry:zT y u):KV (uL kvs k y) (stored vs k u):=by
 unfold uL stored
 rw [r.any k]
 by_cases e:(vs.any fun kv=>decide (kv.1=k))=true
 ·rw [if_pos e,if_pos e]; exact r.repl k ry
 ·rw [if_neg e,if_neg e]; exact Paired.snoc r ⟨rfl,ry⟩
theorem KV.keys {kvs:List (κ × V)}{vs:List (κ × Value)} (r:KV kvs vs):kvs.map (·.1)=vs.map (·.1):=by
 unfold KV at r
 induction r with
 | nil=>rfl
 | cons h t ih=>rw [List.map_cons,List.map_cons,ih,h.1]
theorem KV.length {kvs:List (κ × V)}{vs:List (κ × Value)} (r:KV kvs vs):kvs.length=vs.length:=Paired.length r
end
theorem zAZ {P:Program}{w:World}{k:zV}{u:Value} (r:zT (kV k) u):(vP P w).is k u=true:=by
 cases k with
 | inl i=>obtain ⟨t,e⟩:=(show ∃ t,u=Value.int i t from r); subst e; exact zIy P w i t
 | inr x=>obtain ⟨t,e⟩:=(show ∃ t,u=Value.str x t from r); subst e; exact zEW P w x t
theorem zKR {P:Program}{w:World}{k:yP}{u:Value} (r:zT (jY k) u):(kN P w).is k u=true:=by
 cases k with
 | inl x=>obtain ⟨t,e⟩:=(show ∃ t,u=Value.str x t from r); subst e; show Value.isStrOf x (.str x t)=true; simp [Value.isStrOf]
 | inr b=>have e:u=Value.bool b:=r; subst e; exact beq_self_eq_true _
theorem zFO {P:Program}{w:World}:∀ {ks:List yP}{us:List Value},zM (ks.map jY) us->ItemsAre (kN P w) ks us
 | [],_,r=>by rw [List.map_nil] at r; cases r; exact .nil
 | k::ks,_,r=>by
  rw [List.map_cons] at r
  cases r with
  | cons h t=>exact .cons (zKR h) (zFO t)
abbrev KT (H:Hp):List (List yP × V)->List (List yP × Addr × Value)->Prop:=Paired fun p q=>p.1=q.1/\H q.2.1=some (.tup (p.1.map jY))/\zT p.2 q.2.2
theorem KT.val {H:Hp}{kvs:List (List yP × V)}{xs:List (List yP × Addr × Value)} (r:KT H kvs xs) (k:List yP):qQ (vY kvs k) ((atKey xs k).map (·.2)):=by
 induction r with
 | nil=>exact True.intro
 | @cons p q ps qs h t ih =>
  obtain ⟨h1,_,h2⟩:=h
  by_cases e:p.1=k
  ·have e':q.1=k:=h1.symm.trans e
   have b:atKey (q::qs) k=some q.2:=by simp [atKey,List.find?_cons,e']
   rw [zBJ e,b]; exact h2
  ·have e':¬ q.1=k:=fun z=>e (h1.trans z)
   have b:atKey (q::qs) k=atKey qs k:=by simp [atKey,List.find?_cons,e']
   rw [zBK e,b]; exact ih
theorem KT.repl {H:Hp}{kvs:List (List yP × V)}{xs:List (List yP × Addr × Value)} (r:KT H kvs xs) (k:List yP) {y:V}{u:Value} (ry:zT y u) :
  KT H (kvs.map fun kv=>if kv.1=k then (kv.1,y) else kv) (xs.map (putAt k u)):=by
 induction r with
 | nil=>exact .nil
 | @cons p q ps qs h t ih =>
  rw [List.map_cons,List.map_cons]
  refine .cons ?_ ih
  obtain ⟨h1,h2,h3⟩:=h
  unfold putAt
  by_cases e:p.1=k
  ·rw [if_pos e,if_pos (h1.symm.trans e)]; exact ⟨h1,h2,ry⟩
  ·rw [if_neg e,if_neg (fun z=>e (h1.trans z))]; exact ⟨h1,h2,h3⟩
theorem KT.put {H:Hp}{kvs:List (List yP × V)}{xs:List (List yP × Addr × Value)} (r:KT H kvs xs) (k:List yP) {b:Addr}{y:V}{u:Value} (hb:H b=some (.tup (k.map jY))) (ry:zT y u) :
  KT H (uL kvs k y) (storedH xs k b u):=by
 have e:(kvs.any fun kv=>decide (kv.1=k))=(atKey xs k).isSome:=by
  rw [zFN,(r.val k).isSome_eq,Option.isSome_map]
 unfold uL storedH
 rw [e]
 by_cases q:(atKey xs k).isSome=true
 ·rw [if_pos q,if_pos q]; exact r.repl k ry
 ·rw [if_neg q,if_neg q]; exact Paired.snoc r ⟨rfl,hb,ry⟩
theorem KT.keeps {H H':Hp}{kvs:List (List yP × V)}{xs:List (List yP × Addr × Value)} (r:KT H kvs xs) (ht:∀ b ys,H b=some (.tup ys)->H' b=some (.tup ys)):KT H' kvs xs :=
 Paired.mapP r fun _ _ z=>⟨z.1,ht _ _ z.2.1,z.2.2⟩
section
variable {P:Program}{w:World}{H:Hp}{h:Heap}{a:Addr}
theorem zFP {u:HO} (ok:z6 P w H h) (e:Rd H a u):yF P w H h a u:=e.ok ok
theorem kT {kvs:List (zV × V)} (ok:z6 P w H h) (e:Rd H a (.dK kvs)):kvs.length<=sizeLine/\(a == sysModules)=false/\∃ vs,KV kvs vs/\h.DictOf (vP P w) a vs :=
 show yF P w H h a (.dK kvs) from zFP ok e
theorem kU {kvs:List (zV × V)} (ok:z6 P w H h) (e:H a=some (.dK kvs)):kvs.length<=sizeLine/\(a == sysModules)=false/\∃ vs,KV kvs vs/\h.DictOf (vP P w) a vs:=kT ok (.inl e)
theorem zAa {ks:List yP} (ok:z6 P w H h) (e:H a=some (.tup (ks.map jY))):(tupleKind (kN P w)).is h ks a:=by
 obtain ⟨_,its,r,o,h1,h2,n,h3⟩:=(show yF P w H h a (.tup (ks.map jY)) from ok a _ e)
 exact ⟨o,its.toArray,n,h1,h2,h3,by simpa using zFO r⟩
theorem zAB {kvs:List (List yP × V)} (ok:z6 P w H h) (e:Rd H a (.dT kvs)):kvs.length<=sizeLine/\(a == sysModules)=false /\
  ∃ xs,KT H kvs xs/\h.DictOfH (tupleKind (kN P w)) a xs:=by
 obtain ⟨z,y,xs,r,o,es,ep,h1,h2,h3,h4,h5⟩:=(show yF P w H h a (.dT kvs) from zFP ok e)
 refine ⟨z,y,xs,r,o,es,ep,h1,h2,h3,h4,fun x hx=>?_,h5⟩
 have all:∀ {l:List (List yP × V)} {m:List (List yP × Addr × Value)},KT H l m->∀ x∈m,(tupleKind (kN P w)).is h x.1 x.2.1:=by
  intro l m q
  induction q with
  | nil=>intro x hx; exact nomatch hx
  | @cons p q ps qs hq t ih =>
   intro x hx
   rcases List.mem_cons.mp hx with e | hx
   ·subst e
    exact zAa ok (by rw [<- hq.1]; exact hq.2.1)
   ·exact ih x hx
 exact all r x hx
theorem zKS {kvs:List (List yP × V)} (ok:z6 P w H h) (e:H a=some (.dT kvs)):kvs.length<=sizeLine/\(a == sysModules)=false /\
  ∃ xs,KT H kvs xs/\h.DictOfH (tupleKind (kN P w)) a xs:=zAB ok (.inl e)
end
def uB (H:Hp) (a:Addr) (y:V) (r:Option V):Prop :=
 (∃ kvs k,Rd H a (.dK kvs)/\y=kV k/\r=vY kvs k)\/∃ kvs k b,Rd H a (.dT kvs)/\y=.ref b/\H b=some (.tup (k.map jY))/\r=vY kvs k
def zAb (H:Hp) (a:Addr) (y v:V) (H':Hp):Prop :=
 (∃ kvs k,H a=some (.dK kvs)/\y=kV k/\kvs.length < sizeLine/\H'=upd H a (.dK (uL kvs k v))) \/
 ∃ kvs k b,H a=some (.dT kvs)/\y=.ref b/\H b=some (.tup (k.map jY))/\kvs.length < sizeLine/\H'=upd H a (.dT (uL kvs k v))
theorem uB.k {H:Hp}{a:Addr}{kvs:List (zV × V)}{k:zV} (e:H a=some (.dK kvs)):uB H a (kV k) (vY kvs k):=.inl ⟨kvs,k,.inl e,rfl,rfl⟩
theorem zAb.k {H:Hp}{a:Addr}{kvs:List (zV × V)}{k:zV}{v:V} (e:H a=some (.dK kvs)) (hl:kvs.length < sizeLine):zAb H a (kV k) v (upd H a (.dK (uL kvs k v))):=.inl ⟨kvs,k,e,rfl,hl,rfl⟩
section
variable {X:Cx}{pins:List (Addr × Obj)}{σ:St}{H:Hp}{s:Shared}{a:Addr}{y v:V}{u r:Value}{o:Option V}{A:Around}{E:Value->Shared->Prop}
theorem Inv.big (I:Inv X pins σ H s):sysModules < s.heap.objs.size:=by
 have h:mainGlobals < s.heap.objs.size:=(I.mod.glob.keeps I.bk).lt
 exact Nat.lt_trans (by decide) h
theorem zKT {Q:Value->Shared->Prop} (hu:A.units+1 < cLine) (I:Inv X pins σ H s) (g:uB H a y (some v)) (ry:zT y u) (h:∀ w' s',Inv X pins σ H s'->zT v w'->Q w' s') :
  wpAny (model X.prog X.w) A (getItem (.ref a) u) Q E s:=by
 rcases g with ⟨kvs,k,e,ey,l⟩ | ⟨kvs,k,b,e,ey,eb,l⟩
 ·subst ey
  obtain ⟨z,hd,vs,rel,dd⟩:=kT I.hok e
  obtain ⟨w',hw,rw'⟩:=qQ.some_of (v:=v) (o:=valueAt vs k) (by rw [l]; exact rel.val k)
  exact wpAny_getItem_of (zAZ ry) dd.mapOf hw (h w' _ (I.tok _) rw')
 ·subst ey
  cases (show u=Value.ref b from ry)
  obtain ⟨z,hd,xs,rel,dd⟩:=zAB I.hok e
  obtain ⟨w',hw,rw'⟩:=qQ.some_of (v:=v) (o:=(atKey xs k).map (·.2)) (by rw [l]; exact rel.val k)
  obtain ⟨p,hp,hp2⟩:=Option.map_eq_some_iff.mp hw
  refine wpAny_getItem_heap (tupleKind_room_in1 hu) (zAa I.hok eb) dd hp ?_
  rw [hp2]
  exact h w' _ (I.tok _) rw'
theorem zKU {Q:Value->Shared->Prop} (hu:A.units+1 < cLine) (I:Inv X pins σ H s) (g:uB H a y o) (ry:zT y u) (h:∀ s',Inv X pins σ H s'->Q (.bool (!o.isSome)) s') :
  wpAny (model X.prog X.w) A (compareOp .NotIn u (.ref a)) Q E s:=by
 rcases g with ⟨kvs,k,e,ey,l⟩ | ⟨kvs,k,b,e,ey,eb,l⟩
 ·subst ey
  obtain ⟨z,hd,vs,rel,dd⟩:=kT I.hok e
  refine wpAny_notIn_of (zAZ ry) hd dd.mapOf ?_
  rw [<- (rel.val k).isSome_eq,<- l]
  exact h _ (I.tok _)
 ·subst ey
  cases (show u=Value.ref b from ry)
  obtain ⟨z,hd,xs,rel,dd⟩:=zAB I.hok e
  refine wpAny_notIn_heap (tupleKind_room_in1 hu) (zAa I.hok eb) hd dd ?_
  have q:=(rel.val k).isSome_eq
  rw [Option.isSome_map] at q
  rw [<- q,<- l]
  exact h _ (I.tok _)
theorem zCa {h':Heap}{t':Nat}{ob:HO} (I:Inv X pins σ H s) (mu:Mut (H a)) (hs:Heap.SameBut a s.heap h') (he:∃ q,h'.get? a=some q) (new:yF X.prog X.w (upd H a ob) h' a ob) :
  Inv X pins σ (upd H a ob) { s with heap:=h',toks:=t' } :=
 I.write (x:=a) (e:=a) mu (.inl rfl) (fun b q hb z=>(hs.2 b hb).trans z) he new
theorem zCb {P:Program}{w:World}{H':Hp}{h':Heap}{kvs:List (zV × V)}{vs:List (zV × Value)} (z:kvs.length<=sizeLine) (hd:(a == sysModules)=false) (rel:KV kvs vs) (dd:h'.DictOf (vP P w) a vs) :
  yF P w H' h' a (.dK kvs):=⟨z,hd,vs,rel,dd⟩
theorem zKV {H':Hp}{Q:Unit->Shared->Prop} (hu:A.units+1 < cLine) (I:Inv X pins σ H s) (g:zAb H a y v H') (ry:zT y u) (rv:zT v r) (h:∀ s',Inv X pins σ H' s'->Q () s') :
  wpAny (model X.prog X.w) A (setItem (.ref a) u r) Q E s:=by
 rcases g with ⟨kvs,k,e,ey,l,eH⟩ | ⟨kvs,k,b,e,ey,eb,l,eH⟩
 ·subst ey eH
  obtain ⟨z,hd,vs,rel,dd⟩:=kU I.hok e
  have hz:vs.length<=sizeLine:=by rw [<- rel.length]; exact z
  have hl:(uL kvs k v).length<=sizeLine:=by have:=zCZ kvs k v; omega
  refine wpAny_setItem_pairs (hsz:=hz) (zAZ ry) dd fun h' dd' hs=>h _ ?_
  have he:∃ q,h'.get? a=some q:=let ⟨q,_,_,hq,_⟩:=dd'; ⟨q,hq⟩
  exact zCa I (by rw [e]; exact True.intro) hs he (zCb hl hd (rel.put k rv) dd')
 ·subst ey eH
  cases (show u=Value.ref b from ry)
  obtain ⟨z,hd,xs,rel,dd⟩:=zKS I.hok e
  have hz:xs.length<=sizeLine:=by rw [<- Paired.length rel]; exact z
  have hl:(uL kvs k v).length<=sizeLine:=by have:=zCZ kvs k v; omega
  refine wpAny_setItem_heap (hsz:=hz) (tupleKind_room_in1 hu) (zAa I.hok eb) dd fun h' dd' hs=>h _ ?_
  obtain ⟨q,es,ep,hq,h2,h3,h4,_,h5⟩:=dd'
  refine zCa I (by rw [e]; exact True.intro) hs ⟨q,hq⟩ ⟨hl,hd,_,(rel.put k eb rv).keeps fun c ys ec=>?_,q,es,ep,hq,h2,h3,h4,h5⟩
  rw [zU (zBA ec e (fun z=>nomatch z))]
  exact ec
end
section
variable {X:Cx}{pins:List (Addr × Obj)}{σ:St}{H:Hp}{s:Shared}{a:Addr}{kvs:List (zV × V)}{k:zV}{u:Value}{A:Around}{E:Value->Shared->Prop}
end
def zFQ (i:Expr):Prop:=∀ ov iv,subscripted i false ov iv=operate [ov,iv] (getItem ov iv)
theorem zKW {prog:Program}{w:World}{A:Around}{E:Value->Shared->Prop}{s:Shared}{env:Env}{value slice:Expr}{pos:Pos}{T id:String}{Q:Value->Shared->Prop}
  (hl:typeLookup (.type T) "__getitem__" = pure (some (.builtin id))) (hs:zFQ slice)
  (h:wpAny (model prog w) A (eval value env) (fun o s₁=>wpAny (model prog w) A (eval slice env) (fun i s₂=>s₂.TypeIs o T/\wpAny (model prog w) A (getItem o i) Q E s₂) E s₁) E s) :
  wpAny (model prog w) A (eval (.Subscript value slice pos) env) Q E s:=by
 refine Subscript_ (wpAny_mono h (fun o s₁ h₁=>wpAny_mono h₁ (fun i s₂ h₂=>?_) fun _ _ x=>x) fun _ _ x=>x)
 obtain ⟨hT,h₂⟩:=h₂
 unfold subscriptTail
 refine wpAny_bind ?_
 rw [getitemInPython_of_ne hT.not_modules]
 refine wpAny_bind (wpAny_specialOf hT hl ?_)
 have fin:wpAny (model prog w) A (subscripted slice false o i) (fun r s₃=>wpAny (model prog w) A (letTemporaryGo value o r >>= fun _=>pure r) Q E s₃) E s₂:=by
  rw [hs o i]
  exact wpAny_operating (wpAny_mono h₂ (fun r s₃ h₃=>wpAny_bind (wpAny_letTemporaryGo (wpAny_pure h₃))) fun _ _ x=>x)
 first
  | exact wpAny_pure (wpAny_bind fin)
  | exact wpAny_bind (wpAny_pure (wpAny_bind fin))
  | exact wpAny_bind fin
theorem zKX {X:Cx}{pins:List (Addr × Obj)}{σ:St}{H:Hp}{s:Shared}{a:Addr}{y:V}{o:Option V} (I:Inv X pins σ H s) (g:uB H a y o):s.TypeIs (.ref a) "dict" := by
 rcases g with ⟨kvs,k,e,_,_⟩ | ⟨kvs,k,b,e,_,_,_⟩
 ·obtain ⟨_,_,vs,_,dd⟩:=kT I.hok e
  exact dd.typeIs
 ·obtain ⟨_,_,xs,_,dd⟩:=zAB I.hok e
  exact dd.typeIs
def zKY (td ty:TE):TE:=fun σ H Q=>td σ H fun x H1=>ty σ H1 fun y H2=>∃ a v,x=.ref a/\uB H2 a y (some v)/\Q v H2
def zKZ (ty td:TE):TE:=fun σ H Q=>ty σ H fun y H1=>td σ H1 fun x H2=>∃ a o,x=.ref a/\uB H2 a y o/\Q (.bl (!o.isSome)) H2
def zFR (td ty tv:TE):TS:=fun D σ H=>tv σ H fun v H1=>td σ H1 fun x H2=>ty σ H2 fun y H3=>∃ a H4,x=.ref a/\zAb H3 a y v H4/\D.nx σ H4
section
variable {X:Cx}{o i e value:Expr}{pos pos' tpos:Pos}{td ty tv:TE}
theorem zAc (hu:X.A.units+1 < cLine) (ho:PE X o td) (hi:PE X i ty) (hs:zFQ i):PE X (.Subscript o i pos) (zKY td ty):=by
 intro pins s σ H Q I h
 refine zKW PySem.F.slot_dict_getitem.lookup hs (zJ (ho pins s σ H _ I h) fun u s1 ⟨x,H1,I1,rx,q1⟩=>zJ (hi pins s1 σ H1 _ I1 q1) fun iv s2 ⟨y,H2,I2,ry,a,v,ex,g,q2⟩=>?_)
 subst ex
 obtain rfl:u=Value.ref a:=rx
 exact ⟨zKX I2 g,zKT hu I2 g ry fun w' s3 I3 rw'=>⟨v,H2,I3,rw',q2⟩⟩
theorem zKa (hu:X.A.units+1 < cLine) (hi:PE X i ty) (ho:PE X o td):PC X .NotIn i o (zKZ ty td):=by
 intro pins s σ H Q I h
 refine zJ (hi pins s σ H _ I h) fun iv s1 ⟨y,H1,I1,ry,q1⟩=>zJ (ho pins s1 σ H1 _ I1 q1) fun u s2 ⟨x,H2,I2,rx,a,ov,ex,g,q2⟩=>?_
 subst ex
 obtain rfl:u=Value.ref a:=rx
 exact zKU hu I2 g ry fun s3 I3=>⟨.bl (!ov.isSome),H2,I3,rfl,q2⟩
theorem zKb (hu:X.A.units+1 < cLine) (ho:PE X o td) (hi:PE X i ty) (hv:PE X value tv) (hs:swapsWith value (some (.Subscript o i pos')) pos.line X.env=pure false) :
  PS X (.Assign [.Subscript o i pos'] value pos) (zFR td ty tv):=by
 intro pins s σ H D I h
 refine wpAny_Assign_Subscript (zJ (hv pins s σ H _ I h) fun r s1 ⟨v,H1,I1,rv,q1⟩=>zJ (ho pins s1 σ H1 _ I1 q1) fun u s2 ⟨x,H2,I2,rx,q2⟩=>zJ (hi pins s2 σ H2 _ I2 q2) fun iv s3 ⟨y,H3,I3,ry,a,H4,ex,g,q3⟩=>?_) hs
 subst ex
 obtain rfl:u=Value.ref a:=rx
 exact zKV hu I3 g ry rv fun s4 I4=>⟨σ,H4,I4,q3⟩
end
theorem zKc {P:Program}{w:World}{H:Hp} (h:Heap) (hb:sysModules < h.objs.size):yF P w H (h.push { cls:=.type "dict",data:=.dict #[] }) h.objs.size (.dK []) :=
 ⟨Nat.zero_le _,beq_eq_false_iff_ne.mpr (Ne.symm (Nat.ne_of_lt hb)),[],.nil,Heap.DictOf.new h⟩
def zKd:TE:=fun _ H Q=>∀ p,H p=none->Q (.ref p) (upd H p (.dK []))
section
variable {X:Cx}{pos:Pos}
theorem zBL:PE X (.Dict [] [] pos) zKd:=fun pins s σ H Q I h =>
 wpAny_Dict_empty ⟨.ref s.heap.objs.size,_,I.laid (a:=s.heap.objs.size) (o:=.dK []) (t':=s.toks) (fun _ _ q=>Heap.get?_push_of_some _ q) (Nat.le_refl _) (zKc s.heap I.big),rfl,h _ (I.hok.fresh (Nat.le_refl _))⟩
end
structure M2 (X:Cx) (o:Expr) (m:Str) (apos:Pos) (e f:Expr) (cpos:Pos):Prop where
 base:attributeBase o m X.env (eval o X.env)=eval o X.env
 few:((backTo cpos (starEach [e,f] X.env)).all (fun x=>!x.1) && (backToKw cpos (keywordEach [] X.env)).all (fun x=>x.1.isSome)
  && decide (([e,f]:List Expr).length+([]:List Keyword).length+(if ([]:List Keyword).isEmpty then 0 else 1) < 30))=true
 line:(apos.endLine == cpos.line)=true
 trees:backTo cpos (starEach [e,f] X.env)=[(false,eval e X.env),(false,eval f X.env)]
def IsD (H:Hp) (a:Addr):Prop:=(∃ kvs,Rd H a (.dK kvs))\/∃ kvs,Rd H a (.dT kvs)
theorem zKe {X:Cx}{pins:List (Addr × Obj)}{σ:St}{H:Hp}{s:Shared}{a:Addr} (I:Inv X pins σ H s) (d:IsD H a) :
  s.TypeIs (.ref a) "dict" /\ (∀ b,Value.ref a=.ref b->∃ ob,s.heap.get? b=some ob/\ob.dict=none)/\(a == sysModules)=false:=by
 rcases d with ⟨kvs,e⟩ | ⟨kvs,e⟩
 ·obtain ⟨_,hd,vs,_,dd⟩:=kT I.hok e
  refine ⟨dd.typeIs,fun b q=>?_,hd⟩
  cases q
  obtain ⟨ob,_,_,h1,h2,_⟩:=dd
  exact ⟨ob,h1,h2.2.1⟩
 ·obtain ⟨_,hd,xs,_,dd⟩:=zAB I.hok e
  refine ⟨dd.typeIs,fun b q=>?_,hd⟩
  cases q
  obtain ⟨ob,_,_,h1,h2,_⟩:=dd
  exact ⟨ob,h1,h2.2.1⟩
section
variable {X:Cx}{pins:List (Addr × Obj)}{σ:St}{H:Hp}{s:Shared}{a:Addr}{y d:V}{u r:Value}{o:Option V}{A:Around}{E:Value->Shared->Prop}
theorem zKf {Q:Value->Shared->Prop} (hu:A.units+1 < cLine) (I:Inv X pins σ H s) (g:uB H a y o) (ry:zT y u) (rd:zT d r) (h:∀ w' s',Inv X pins σ H s'->zT (o.getD d) w'->Q w' s') :
  wpAny (model X.prog X.w) A (call (.builtin "dict.get") [.ref a,u,r]) Q E s:=by
 rcases g with ⟨kvs,k,e,ey,l⟩ | ⟨kvs,k,b,e,ey,eb,l⟩
 ·subst ey
  obtain ⟨z,hd,vs,rel,dd⟩:=kT I.hok e
  refine call_meetsIn PySem.F.slot_dict_get dd.typeIs PySem.F.entry_dict_get (PySem.F.args_dict_get_3 _ _ _) (meets_dict_get_default (vP X.prog X.w) a (zAZ ry) hd r) ⟨_,dd.mapOf,h _ _ (I.tok _) ?_⟩
  rw [l]
  exact (rel.val k).getD rd
 ·subst ey
  cases (show u=Value.ref b from ry)
  obtain ⟨z,hd,xs,rel,dd⟩:=zAB I.hok e
  refine call_meetsIn PySem.F.slot_dict_get dd.typeIs PySem.F.entry_dict_get (PySem.F.args_dict_get_3 _ _ _) (meetsH_dict_get_default (tupleKind (kN X.prog X.w)) a b hd r) ⟨tupleKind_room_in1 hu,k,xs,zAa I.hok eb,dd,h _ _ (I.tok _) ?_⟩
  rw [l]
  exact (rel.val k).getD rd
end
def zFS (td ty tx:TE):TE:=fun σ H Q=>td σ H fun x H1=>∃ a,x=.ref a/\IsD H1 a/\ty σ H1 fun y H2=>tx σ H2 fun z H3=>∃ o,uB H3 a y o/\Q (o.getD z) H3
section
variable {X:Cx}{o e f:Expr}{apos cpos:Pos}{td ty tx:TE}
theorem zCc (hu:X.A.units+1 < cLine) (ho:PE X o td) (he:PE X e ty) (hf:PE X f tx) (m:M2 X o "get" apos e f cpos):PE X (.Call (.Attribute o "get" apos) [e,f] [] cpos) (zFS td ty tx):=by
 intro pins s σ H Q I h
 refine wpAny_Call_method m.base m.few m.line PySem.F.plainAttrs_dict PySem.F.slot_dict_get PySem.F.type_dict_get (zJ (ho pins s σ H _ I h) fun u s1 ⟨x,H1,I1,rx,a,ex,d,q1⟩=>?_)
 subst ex
 obtain rfl:u=Value.ref a:=rx
 obtain ⟨t1,t2,_⟩:=zKe I1 d
 refine ⟨t1,t2,?_⟩
 rw [m.trees]
 refine Calls.callWith_builtin rfl (Calls.evalArgs_plain (Calls.spliced_cons (zJ (he pins s1 σ H1 _ I1 q1) fun iv s2 ⟨y,H2,I2,ry,q2⟩ =>
  Calls.spliced_cons (zJ (hf pins s2 σ H2 _ I2 q2) fun fv s3 ⟨z,H3,I3,rz,ov,g,q3⟩=>Calls.spliced_nil ?_))))
 exact zKf hu I3 g ry rz fun w' s4 I4 rw'=>⟨_,H3,I4,rw',q3⟩
end
section
variable {X:Cx}{pins:List (Addr × Obj)}{σ:St}{H:Hp}{s:Shared}{a:Addr}{kvs:List (zV × V)}{A:Around}{E:Value->Shared->Prop}
end
section
variable {X:Cx}{pins:List (Addr × Obj)}{σ:St}{H:Hp}{s:Shared}{a:Addr}{y:V}{u:Value}{A:Around}{E:Value->Shared->Prop}
end
end L2
namespace Att
open PySem PySem.W PySem.Calls PyProof.Rows
theorem zKg {P:Params}{h:Heap}:∀ (ns:List Int) (vs:List Value),WellAll P h vs (ns.map WData.int)->IntsAre vs ns:=by
 intro ns
 induction ns with
 | nil =>
  intro vs w
  rw [List.map_nil] at w
  cases w
  exact .nil
 | cons n ns ih =>
  intro vs w
  rw [List.map_cons] at w
  cases w with
  | cons a b =>
   cases a
   exact .cons _ _ (ih _ b)
theorem zKh {l:OpenLaw}{n:Nat} (hn:l.most=some n) {P:Params}{h:Heap}{args:List WData}{vals:List Value}
  (hpre:l.row.toRowW.claim.pre args=true) (hwl:WellAll P h vals args) :
  ∃ a vs ns,vals=[Value.ref a]/\args=[WData.list (ns.map WData.int)]/\h.get? a=some { cls:=.type "list",data:=.seq vs.toArray }/\IntsAre vs ns/\ns.length<=n:=by
 have hsh:WShape.hasAll [] args [.list .int]=true:=(pre_splitW hpre).1
 have hc:l.pre.holds [] { args:=args }=true:=(pre_splitW hpre).2
 obtain ⟨d,r,rfl,h1,h2⟩:=hasAllW_cons hsh
 obtain rfl:=hasAllW_nil h2
 obtain ⟨xs,rfl,h3⟩:=hasW_list h1
 obtain ⟨ns,rfl⟩:=items_int h3
 have hlen:ns.length<=n:=by
  unfold OpenLaw.pre at hc
  have h4:(WTm.not (.lt (.lit (.int (n:Int))) (.len (.arg 0)))).holds [] { args:=[.list (ns.map .int)] }=true:=by
   have h4:=(holds_andW hc).1
   rw [hn] at h4
   exact h4
  have h5:=condW_of h4 (w_not (w_lt w_lit (w_len_list (w_arg rfl))))
  rw [List.length_map] at h5
  refine Nat.le_of_not_lt fun q=>?_
  have q':(n:Int) < ((ns.length:Nat):Int):=by omega
  first
   | (rw [decide_eq_true q'] at h5; exact absurd h5 (by decide))
   | (simp at h5; omega)
 cases hwl with
 | cons w1 w2 =>
  cases w2
  cases w1 with
  | list ho hall=>exact ⟨_,_,ns,rfl,rfl,ho,zKg ns _ hall,hlen⟩
theorem zKi (l:OpenLaw) (args:List WData):l.row.toRowW.claim.post args (.bool true) args=true :=
 postW_of (r:=l.row.toRowW) (X:=(true == true))
  (show WShape.has [] (.bool true) .bool=true by first | rfl | decide | simp [WShape.has,WShape.arms,WShape.armsAll])
  (show (WTm.eq .res (.lit (.bool true))).value [] { args:=args,res:=some (.bool true),after:=args }=some (.bool (true == true)) from w_eq_bool (w_res rfl) w_lit) rfl
theorem attach_call {l:OpenLaw}{n:Nat}{q:Program}{loose:List Str}{XP:(Str->Option Value)->Heap->Prop}{YP:World->Heap->Prop}{d:DefRec}
  (hn:l.most=some n) (hdf:d.params.defaults=[])
  (call:∀ (w:World) (s₀ s₁:Shared) (mg mb:Str->Option Value) (fa:Addr) (o:Obj) (pm cd doc:Value) (a:Addr) (vs:List Value) (ns:List Int),
   Ground q loose [] XP w s₀ mg mb s₁.heap->YP w s₁.heap ->
   s₁.heap.get? fa=some o->o.data=.func (docDef d.name d.params d.body d.scope pm cd doc)->s₁.heap.CodeRec cd d.name->mg d.name=some (.ref fa) ->
   s₁.heap.get? a=some { cls:=.type "list",data:=.seq vs.toArray }->IntsAre vs ns->ns.length<=n->s₁.gens=#[] ->
   codeAny (model l.prog w) callerA (.call (.ref fa) ⟨[.ref a],[]⟩) (fun r s'=>r=.ok (.ret (.bool true))/\OldK s₁.heap s'.heap/\s'.os=s₁.os/\AllBare s'.gens) s₁) :
  WalkO q loose XP YP l.row.toRowW d [] (fun f vs=>PySem.call f vs):=by
 intro w s₀ s₁ mg mb G Y fa o pm cd doc dV kV ho hd hcd hD hmg hg args vals as hpre hlay hrd hwl hlo
 obtain rfl:dV=.none:=Dflts.none hD hdf
 obtain rfl:kV=.none:=Dflts.noKw hD
 obtain ⟨a,vs,ns,rfl,rfl,hobj,hints,hlen⟩:=zKh hn hpre hwl
 refine enter_call (codeAny_mono (call w s₀ s₁ mg mb fa o pm cd doc a vs ns G Y ho (fd_plain hd) hcd hmg hobj hints hlen hg) fun r s' hq=>?_)
 obtain ⟨rfl,h2,h3,h4⟩:=hq
 exact ⟨.inl ⟨.bool true,.bool true,[],rfl,fun _=>rfl,.bool true,zKi l _,fun _=>⟨List.Pairwise.nil,fun _ hm=>(nomatch hm)⟩⟩,h2,h3,h4⟩
section
variable {prog:Program}{w:World}{A:Around}{E:Value->Shared->Prop}{s:Shared}{K:Frag}
end
end Att
namespace L2
open PySem PySem.Spec PyProof.Rows
theorem zFT:∀ {vs:List Value}{ns:List Int},IntsAre vs ns->zM (ns.map V.int) vs
 | _,_,.nil=>.nil
 | _,_,.cons n t h=>.cons ⟨t,rfl⟩ (zFT h)
def zCd (H:Hp):Prop:=∀ b,H b=none\/∃ o xs,H b=some (.frz o (.lst xs))
theorem zKj {P:Program}{w:World}{K:PySem.W.Frag}{mg mb:Str->Option Value}{CX:qG}{k:Nat}{fa a:Addr}{fd:FuncData}{x:Str}{sp:Sp}{s₁:Shared}{vs:List Value}{ns:List Int}
  (KX:K.In s₁.heap) (hns:s₁.heap.Ns mainGlobals mg) (hb:s₁.heap.Ns builtinsNs mb) (hbb:∀ x:Str,x ≠ "__name__" -> mb x=bootBuiltins x) (hlim:s₁.heap.NoLimit) (hg:s₁.gens=#[])
  (ha:s₁.heap.get? a=some { cls:=.type "list",data:=.seq vs.toArray }) (hi:IntsAre vs ns) (hl:ns.length<=sizeLine) (hr:Room k callerA)
  (F:∀ base:Heap,K.In base->base.Ns mainGlobals mg->FnOk P w K mg base CX k fa fd [x] sp) (hbind:∀ (s:Shared) (u:Value),BindsTo s fd ⟨[u],[]⟩ [(x,u)])
  (hsp:∀ H:Hp,zCd H->yC K H a (ns.map V.int)->sp [.ref a] H (fun v _=>v=.bl true) fun _ _ _=>False)
  (hCX:∀ H e s',CX [] H s₁ (fun _ _ _=>False) e s'->False) :
  codeAny (model P w) callerA (.call (.ref fa) ⟨[.ref a],[]⟩) (fun r s'=>r=.ok (.ret (.bool true))/\OldK s₁.heap s'.heap/\s'.os=s₁.os/\AllBare s'.gens) s₁:=by
 have rv:=zFT hi
 have lenV:=hi.length
 have core:∀ H:Hp,zCd H->yC K H a (ns.map V.int)->z6 P w H s₁.heap->(∀ b,H b≠none->b=a)->(H a≠none->K.lookup a=none) ->
   codeAny (model P w) callerA (.call (.ref fa) ⟨[.ref a],[]⟩) (fun r s'=>r=.ok (.ret (.bool true))/\OldK s₁.heap s'.heap/\s'.os=s₁.os/\AllBare s'.gens) s₁:=by
  intro H hO hS hok hA hK
  have base_of:∀ {b:Addr} {o:Obj},s₁.heap.get? b=some o->H b=none->(jZ s₁.heap H).get? b=some o:=fun e n=>zJA e n
  have noA:∀ {b:Addr} {o:Obj} {es:Array DictEntry} {ep:Nat},s₁.heap.get? b=some o->o.data=.dict es ep->H b=none:=fun {b o es ep} e d=>by
   cases q:H b with
   | none=>rfl
   | some u =>
    have e':b=a:=hA b (by rw [q]; simp)
    subst e'
    rw [ha] at e; cases e
    have d':Data.seq vs.toArray _=Data.dict es ep:=d
    cases d'
  have nsK:∀ {b:Addr} {m:Str->Option Value},s₁.heap.Ns b m->(jZ s₁.heap H).Ns b m:=fun {b m} ⟨o,es,ep,e,d,r⟩=>⟨o,es,ep,base_of e (noA e d),d,r⟩
  have hKb:K.In (jZ s₁.heap H):=fun b o e=>base_of (KX b o e) (by
   cases q:H b with
   | none=>rfl
   | some u =>
    have e':b=a:=hA b (by rw [q]; simp)
    subst e'
    rw [hK (by rw [q]; simp)] at e; cases e)
  have hM:Mod K mg (jZ s₁.heap H):=⟨hKb,nsK hns,⟨mb,nsK hb,hbb⟩,let ⟨mc,h1,h2⟩:=hlim; ⟨mc,nsK h1,h2⟩⟩
  have e0:Env0 P w K mg (jZ s₁.heap H) callerA [] s₁ H:=⟨rfl,hM,fun b o e=>zJB e,Nat.le_of_eq (zIz _ _),trivial,fun b hb=>absurd (show b∈([]:List Addr) from hb) (by simp),hok,.of_eq hg⟩
  refine codeAny_mono ((F _ hKb (nsK hns)).run callerA [] s₁ H ⟨[.ref a],[]⟩ [.ref a] [.ref a] _ _ hr e0 (hbind s₁ (.ref a)) (.cons rfl .nil) (hsp H hO hS)) fun r s' h=>?_
  cases r with
  | error e=>exact (hCX H e s' h).elim
  | ok fl =>
   cases fl with
   | next=>exact False.elim h
   | brk=>exact False.elim h
   | cont=>exact False.elim h
   | ret u =>
    obtain ⟨v,H',os,bare,un,hok',r',q⟩:=h
    have q':v=.bl true:=q
    subst q'
    obtain rfl:u=Value.bool true:=r'
    refine ⟨rfl,OldK.of_keep fun b o e=>?_,os,bare⟩
    cases q:H b with
    | none=>exact un.keep b o e q (by intro z; exact absurd (show b∈([]:List Addr) from z) (by simp)) (by simp)
    | some u =>
     rcases hO b with z | ⟨ob,xs,z⟩
     ·rw [q] at z; cases z
     ·have z2:=un.frzs b ob _ z
      obtain ⟨e1,_⟩:=hok b _ z
      obtain ⟨e2,_⟩:=hok' b _ z2
      rw [e] at e1; cases e1
      exact e2
 cases hk:K.lookup a with
 | some o =>
  have e:=KX a o hk
  rw [ha] at e
  cases e
  refine core (fun _=>none) (fun _=>.inl rfl) (.inr ⟨_,vs.toArray,_,hk,rfl,rfl,rfl,by rw [List.size_toArray,lenV]; exact hl,by simpa using rv⟩) (fun b u z=>by have z':(none:Option HO)=some u:=z; cases z') (fun b z=>absurd rfl z) fun z=>absurd rfl z
 | none =>
  refine core (fun b=>if b=a then some (.frz { cls:=.type "list",data:=.seq vs.toArray } (.lst (ns.map V.int))) else none) (fun b=>?_) (.inl (.inr ⟨{ cls:=.type "list",data:=.seq vs.toArray },if_pos rfl⟩)) (fun b u z=>?_) (fun b z=>?_) fun _=>hk
  ·by_cases hb:b=a
   ·exact .inr ⟨_,_,if_pos hb⟩
   ·exact .inl (if_neg hb)
  ·by_cases hb:b=a
   ·have z':=(if_pos hb).symm.trans z
    cases z'
    subst hb
    exact ⟨ha,by rw [List.length_map]; exact hl,vs,_,rv,ha⟩
   ·have z':=(if_neg hb).symm.trans z
    cases z'
  ·by_cases hb:b=a
   ·exact hb
   ·exact absurd (if_neg hb) z
end L2
namespace L2
open PySem PySem.Spec PyProof.Rows
theorem zKk {l:PySem.W.OpenLaw}{n k:Nat}{q:Program}{loose:List Str}{XP:(Str->Option Value)->Heap->Prop}{YP:World->Heap->Prop}{d:DefRec}{K:Params->PySem.W.Frag}{CX:World->qG}{sp:World->Sp}{x:Str}
  (hn:l.most=some n) (hn2:n<=sizeLine) (hdf:d.params.defaults=[]) (hr:Room k callerA)
  (hY:∀ (w:World) (h:Heap),YP w h->(K w.params).In h)
  (F:∀ (w:World) (mg:Str->Option Value) (fa:Addr) (h:Heap),(K w.params).In h->h.Ns mainGlobals mg->mg d.name=some (.ref fa) ->
   ∃ fd:FuncData,(∀ (s:Shared) (u:Value),BindsTo s fd ⟨[u],[]⟩ [(x,u)]) /\
    ∀ base:Heap,(K w.params).In base->base.Ns mainGlobals mg->FnOk l.prog w (K w.params) mg base (CX w) k fa fd [x] (sp w))
  (hsp:∀ (w:World) (H:Hp) (a:Addr) (ns:List Int),ns.length<=n->zCd H->yC (K w.params) H a (ns.map V.int)->sp w [.ref a] H (fun v _=>v=.bl true) fun _ _ _=>False)
  (hCX:∀ (w:World) (H:Hp) (s:Shared) (e:Value) (s':Shared),CX w [] H s (fun _ _ _=>False) e s'->False) :
  PySem.W.WalkO q loose XP YP l.row.toRowW d [] (fun f vs=>PySem.call f vs):=by
 refine Att.attach_call hn hdf fun w s₀ s₁ mg mb fa o pm cd doc a vs ns G Y ho hd hcd hmg hobj hints hlen hg=>?_
 have KX:=hY w _ Y
 obtain ⟨fd,hb,hF⟩:=F w mg fa _ KX G.T.g hmg
 exact zKj KX G.T.g G.T.b G.T.builtins G.T.nolimit hg hobj hints (Nat.le_trans hlen hn2) hr hF hb (fun H hO hS=>hsp w H a ns hlen hO hS) fun H e s'=>hCX w H s₁ e s'
end L2
namespace L2
open PySem PySem.Spec PyProof.Rows
abbrev zY:qG:=fun _ _ _ _ _ _=>False
abbrev E0:XK:=fun _ _ _=>False
theorem zKl {X:Cx}:g9 zY X E0:=fun _ _ _ _ _ _ _ h=>h.elim
structure Fun (K:PySem.W.Frag) (x qual:Str) (st:Stmt) (f:Addr) (fd:FuncData):Prop where
 ex:∃ (oc:Value) (od:Option Addr) (kV doc pm:Value) (an:Option Addr) (cdv ct:Value) (osl:Array (Option Value)),
  fd=PySem.W.fnOf x qual (defArgs st) (defBody st) (defScope st) .none kV doc pm an cdv ct/\K.lookup f=some ⟨oc,od,.func fd,osl⟩/\PySem.W.codeIn K cdv qual=true
 kp:PySem.W.keepIn K (.ref f)=true
section
variable {P:Program}{w:World}{K:PySem.W.Frag}{mg:Str->Option Value}{base:Heap}
theorem Fun.ok {x qual:Str}{st:Stmt}{f:Addr}{fd:FuncData}{N ps:List Str}{k:Nat}{sp:Sp} (F:Fun K x qual st f fd) (S:FnScope N ps (defScope st)) (len:∀ vs H Q E,sp vs H Q E->vs.length=ps.length)
  (hbody:∀ (cdv:Value) (A:Around) (outer:List Env) (s:Shared) (H:Hp) (vs:List V) (Q:VK) (E:XK),Room k (A.deeper (envOfC qual (defScope st) s.heap.objs.size f cdv))->sp vs H Q E ->
   ∃ t,uI (j9 zY P w K mg base N qual (defScope st) f cdv A outer s H E).nox (defBody st) t/\t { nx:=fun _ H'=>Q .non H',rt:=Q } (j8 N vs) H):FnOk P w K mg base zY (k+1) f fd ps sp:=by
 obtain ⟨oc,od,kV,doc,pm,an,cdv,ct,osl,rfl,lk,hcd⟩:=F.ex
 refine zEw lk hcd S len fun A outer s H vs Q E hr hsp=>?_
 obtain ⟨t,h,q⟩:=hbody cdv A outer s H vs Q E hr hsp
 exact ⟨t,h.nox,q⟩
theorem Fun.binds {x qual:Str}{st:Stmt}{f:Addr}{fd:FuncData}{ps:List Str} (F:Fun K x qual st f fd)
  (h:∀ (kV doc pm:Value) (an:Option Addr) (cdv ct:Value) (us:List Value),us.length=ps.length->bindArgs (PySem.W.fnOf x qual (defArgs st) (defBody st) (defScope st) .none kV doc pm an cdv ct) ⟨us,[]⟩=pure (ps.zip us)):jP K fd ps []:=by
 obtain ⟨oc,od,kV,doc,pm,an,cdv,ct,osl,rfl,lk,hcd⟩:=F.ex
 exact .all (h kV doc pm an cdv ct)
theorem zCe {x qual:Str}{st:Stmt}{f:Addr}{oc:Value}{od an:Option Addr}{osl:Array (Option Value)}{kV doc pm cdv ct:Value} (l:K.lookup f=some ⟨oc,od,.func (PySem.W.fnOf x qual (defArgs st) (defBody st) (defScope st) .none kV doc pm an cdv ct),osl⟩)
  (c:PySem.W.codeIn K cdv qual=true) (k:PySem.W.keepIn K (.ref f)=true):Fun K x qual st f (PySem.W.fnOf x qual (defArgs st) (defBody st) (defScope st) .none kV doc pm an cdv ct):=⟨⟨oc,od,kV,doc,pm,an,cdv,ct,osl,rfl,l,c⟩,k⟩
end
theorem gO {A:Around}{k:Nat} (hr:Room k A):A.units+1 < cLine:=Nat.lt_of_le_of_lt (Nat.add_le_add_left (by decide:1<=64) _) hr.units
section
variable {X:Cx}
theorem pv (i:Nat) {x:Str}{pos:Pos} (hN:X.N[i]?=some x:=by rfl) (hv:Vis X.env.scope x:=by first | exact Or.inl rfl | exact Or.inr (Or.inl rfl) | exact Or.inr (Or.inr rfl)) (hd:(x == ("__debug__" : Str))=false:=by decide)
  (hcd:(x == ("__classdict__" : Str))=false:=by decide):PE X (.Name x pos) (g0 i):=zJF hN hv hd hcd
end
theorem z4 {A B:Prop} (h:B):if false=true then A else B:=by
 rw [if_neg Bool.false_ne_true]
 exact h
theorem yB {A B:Prop} (h:A):if true=true then A else B:=by
 rw [if_pos rfl]
 exact h
theorem uM {c A B:Prop} [Decidable c] (hc:c) (h:B):if (!decide c)=true then A else B:=by
 rw [decide_eq_true hc]
 exact z4 h
def zB (H H':Hp):Prop:=∀ b o,H b=some o->H' b=some o
theorem zB.refl (H:Hp):zB H H:=fun _ _ h=>h
theorem zB.trans {H H1 H2:Hp} (a:zB H H1) (b:zB H1 H2):zB H H2:=fun c o h=>b c o (a c o h)
theorem zB.free {H H':Hp} (e:zB H H') {l:Addr} (h:H' l=Option.none):H l=Option.none:=by
 cases q:H l with
 | none=>rfl
 | some o =>
  rw [e l o q] at h
  cases h
theorem zB.seq {K:PySem.W.Frag}{H H':Hp}{a:Addr}{xs:List V} (e:zB H H') (h:yC K H a xs):yC K H' a xs:=by
 rcases h with (h | ⟨o,h⟩) | h
 ·exact .inl (.inl (e _ _ h))
 ·exact .inl (.inr ⟨o,e _ _ h⟩)
 ·exact .inr h
section
variable {κ:Type} [DecidableEq κ]
end
end L2
end
section
namespace L2
open PySem
section
variable {env:Env}
theorem zCf:∀ (l:List (Str × NameKind)) (cs:List (Str × Addr)),(∀ x∈l,x.2=.free->∃ c,env.cells.lookup x.1=some c)->(∀ x c,cs.lookup x=some c->env.cells.lookup x=some c) ->
  ∃ cl,(forIn l cs (fun x r=>if (x.2 == NameKind.free)=true then do let a <- cellOf env x.1; pure (ForInStep.yield ((x.1,a)::r)) else pure (ForInStep.yield r)):Sem (List (Str × Addr)))=pure cl /\
   (∀ x c,cl.lookup x=some c->env.cells.lookup x=some c)/\∀ x,((x,NameKind.free)∈l\/∃ c,cs.lookup x=some c)->∃ c,cl.lookup x=some c
 | [],cs,_,hs=>⟨cs,rfl,hs,fun x h=>h.elim (fun z=>by cases z) id⟩
 | (n,k)::l,cs,h,hs=>by
  have hl:∀ x∈l,x.2=.free->∃ c,env.cells.lookup x.1=some c:=fun x hx=>h x (List.mem_cons_of_mem _ hx)
  rw [List.forIn_cons]
  by_cases hk:k=.free
  ·subst hk
   obtain ⟨c,hc⟩:=h (n,.free) (List.mem_cons_self ..) rfl
   obtain ⟨cl,e,h1,h2⟩:=zCf l ((n,c)::cs) hl fun x c' z=>by
    by_cases hx:x=n
    ·subst hx
     rw [List.lookup_cons_self] at z
     cases z; exact hc
    ·have hx':(x == n)=false:=by simpa using hx
     rw [List.lookup_cons,hx'] at z
     exact hs x c' z
   refine ⟨cl,?_,h1,fun x hx=>h2 x ?_⟩
   ·have e0:cellOf env n=pure c:=by unfold cellOf; rw [hc]
    simp only [beq_self_eq_true,if_true,e0,pure_bind]
    exact e
   ·rcases hx with hx | ⟨c',hx⟩
    ·rcases List.mem_cons.mp hx with hx | hx
     ·have:x=n:=(Prod.mk.inj hx).1
      subst this
      exact .inr ⟨c,List.lookup_cons_self⟩
     ·exact .inl hx
    ·by_cases hxn:x=n
     ·subst hxn; exact .inr ⟨c,List.lookup_cons_self⟩
     ·have hx':(x == n)=false:=by simpa using hxn
      exact .inr ⟨c',by rw [List.lookup_cons,hx']; exact hx⟩
  ·obtain ⟨cl,e,h1,h2⟩:=zCf l cs hl hs
   have hb:(k == NameKind.free)=false:=by simpa using hk
   refine ⟨cl,?_,h1,fun x hx=>h2 x ?_⟩
   ·simp only [hb,Bool.false_eq_true,if_false,pure_bind]
    exact e
   ·rcases hx with hx | hx
    ·rcases List.mem_cons.mp hx with hx | hx
     ·exact absurd (Prod.mk.inj hx).2.symm hk
     ·exact .inl hx
    ·exact .inr hx
theorem zFU {scope:Scope} (h:∀ x∈scope.names,x.2=.free->∃ c,env.cells.lookup x.1=some c) :
  ∃ cl,closureFor scope env=pure cl/\(∀ x c,cl.lookup x=some c->env.cells.lookup x=some c)/\∀ x,(x,NameKind.free)∈scope.names->∃ c,cl.lookup x=some c:=by
 obtain ⟨cl,e,h1,h2⟩:=zCf scope.names [] h (fun x c z=>by simp at z)
 refine ⟨cl,?_,h1,fun x hx=>h2 x (.inl hx)⟩
 unfold closureFor
 dsimp only
 refine Eq.trans (congrArg (· >>= pure) ?_) (Eq.trans (congrArg (· >>= pure) e) (by simp))
 rfl
end
section
variable {prog:Program}{w:World}{A:Around}{R:Result->Shared->Prop}{s:Shared}
theorem zFV {elt target iter:Expr}{ifs:List Expr}{scope:Scope}{pos:Pos}{it acc:Value}{env:Env} (J:Nat->Shared->Prop)
  (turn:∀ n s,J n s->wpAny (model prog w) A (pyNext it) (fun r s1=>match r with
   | none=>R (.ok .next) s1
   | some v=>wpAny (model prog w) A (letOwnedTupleGo target it v) (fun _ s2=>wpAny (model prog w) A (assign target env v) (fun _ s3 =>
     wpAny (model prog w) A (forIn ifs true fun c r=>if r=true then do let ok <- isTrue c env (eval c env); pure (ForInStep.yield ok) else pure (ForInStep.yield r)) (fun ok s4 =>
      if ok=true then wpAny (model prog w) A (eval elt env) (fun x s5=>wpAny (model prog w) A (call (.builtin "list.append") [acc,x]) (fun _ s6=>∃ m,m < n/\J m s6) (fun _ _=>False) s5) (fun _ _=>False) s4
      else ∃ m,m < n/\J m s4) (fun _ _=>False) s3) (fun _ _=>False) s2) (fun _ _=>False) s1) (fun _ _=>False) s)
  (n:Nat) (h:J n s):codeAny (model prog w) A (.compLoop (.ListComp elt [⟨target,iter,ifs,0⟩] scope pos) 0 it acc env) R s:=by
 refine codeAny_loop rfl J (fun n s hJ=>?_) n h
 show wpAny _ A ((compTurn (.ListComp elt [⟨target,iter,ifs,0⟩] scope pos) 0 it acc env).onRaise (fun x=>noteFrame x env >>= fun _=>theTreesLotGoes x)) _ _ s
 refine wpAny_noted ?_
 have no:∀ {α:Type} {t:Sem α} {Q:α->Shared->Prop} {E:Value->Shared->Prop} {s:Shared},wpAny (model prog w) A t Q (fun _ _=>False) s->wpAny (model prog w) A t Q E s:=fun h=>wpAny_mono h (fun _ _ q=>q) fun _ _ f=>f.elim
 rw [compTurn_list]
 refine wpAny_bind (wpAny_standAt (wpAny_bind (no (wpAny_mono (turn n s hJ) (fun r s1 h1=>?_) fun _ _ f=>f))))
 cases r with
 | none=>exact wpAny_pure h1
 | some v =>
  refine wpAny_bind (no (wpAny_mono h1 (fun _ s2 h2=>?_) fun _ _ f=>f))
  refine wpAny_bind (no (wpAny_mono h2 (fun _ s3 h3=>?_) fun _ _ f=>f))
  refine wpAny_bind (no (wpAny_mono h3 (fun ok s4 h4=>?_) fun _ _ f=>f))
  cases ok with
  | false=>exact wpAny_pure ⟨rfl,h4⟩
  | true =>
   refine wpAny_bind (wpAny_bind (no (wpAny_mono h4 (fun x s5 h5=>?_) fun _ _ f=>f)))
   exact wpAny_bind (no (wpAny_mono h5 (fun _ s6 h6=>wpAny_pure (wpAny_pure ⟨rfl,h6⟩)) fun _ _ f=>f))
end
end L2
end
section
namespace L2
open PySem PySem.Spec PyProof.Rows
theorem z6.track {P:Program}{w:World}{H:Hp}{h:Heap}{a:Addr}{o:HO} (x:z6 P w H h) (hn:H a=none) (new:yF P w (upd H a o) h a o):z6 P w (upd H a o) h:=fun b u e=>by
 by_cases hb:b=a
 ·subst hb; rw [zI] at e; cases e; exact new
 ·rw [zU hb] at e
  refine (x b u e).stay (fun c v _ q=>q) (fun c q=>?_) fun c xs q=>?_
  ·rw [zU (y7 q hn)]; exact q
  ·rw [zU (y7 q hn)]; exact q
theorem z6.but {P:Program}{w:World}{H:Hp}{h h':Heap}{C:Addr} (x:z6 P w H h) (hn:H C=none) (k:∀ b u,b≠C->h.get? b=some u->h'.get? b=some u):z6 P w H h':=fun b u e=>by
 refine (x b u e).stay (fun c v hc q=>k c v ?_ q) (fun _ q=>q) fun _ _ q=>q
 rintro rfl
 rcases hc with z | z
 ·rw [z,e] at hn; cases hn
 ·rw [z] at hn; cases hn
theorem zFW {env:Env}:∀ {names:List (Str × NameKind)}{x:Str},names.lookup x=some .free ->
  (names.map fun (n,k)=>if (k == NameKind.free && env.scope.kind == .function && env.kindOf n == some .cell) then (n,NameKind.cell) else (n,k)).lookup x=some .cell \/
  (names.map fun (n,k)=>if (k == NameKind.free && env.scope.kind == .function && env.kindOf n == some .cell) then (n,NameKind.cell) else (n,k)).lookup x=some .free
 | [],_,h=>by simp at h
 | (n,k)::r,x,h=>by
  rw [List.map_cons]
  cases hx:x == n with
  | true =>
   rw [List.lookup_cons,hx] at h
   cases h
   dsimp only
   split
   ·left; rw [List.lookup_cons,hx]
   ·right; rw [List.lookup_cons,hx]
  | false =>
   rw [List.lookup_cons,hx] at h
   have ih:=zFW (env:=env) h
   dsimp only
   split
   ·rw [List.lookup_cons,hx]; exact ih
   ·rw [List.lookup_cons,hx]; exact ih
theorem zFX {env:Env}:∀ {names:List (Str × NameKind)}{x:Str}{k':NameKind},(k'=.cell\/k'=.free) ->
  (names.map fun (n,k)=>if (k == NameKind.free && env.scope.kind == .function && env.kindOf n == some .cell) then (n,NameKind.cell) else (n,k)).lookup x=some k'->∃ k,(x,k)∈names/\(k=.cell\/k=.free)
 | [],_,_,_,h=>by simp at h
 | (n,k)::r,x,k',hk,h=>by
  rw [List.map_cons] at h
  cases hx:x == n with
  | true =>
   have e:x=n:=by simpa using hx
   subst e
   dsimp only at h
   split at h
   ·rename_i hc
    have:k=.free:=by
     rw [Bool.and_eq_true,Bool.and_eq_true] at hc
     simpa using hc.1.1
    exact ⟨k,List.mem_cons_self ..,.inr this⟩
   ·rw [List.lookup_cons,hx] at h
    cases h
    exact ⟨k,List.mem_cons_self ..,hk⟩
  | false =>
   have h':(r.map fun (n,k)=>if (k == NameKind.free && env.scope.kind == .function && env.kindOf n == some .cell) then (n,NameKind.cell) else (n,k)).lookup x=some k':=by
    dsimp only at h
    split at h
    ·rw [List.lookup_cons,hx] at h; exact h
    ·rw [List.lookup_cons,hx] at h; exact h
   obtain ⟨k0,h0,h1⟩:=zFX (env:=env) hk h'
   exact ⟨k0,List.mem_cons_of_mem _ h0,h1⟩
def vA (X:Cx) (N:List Str) (scope:Scope) (cl:List (Str × Addr)) (C:Addr) (s:Shared) (H:Hp) (ex:List Addr):Cx where
 prog:=X.prog
 w:=X.w
 K:=X.K
 mg:=X.mg
 base:=X.base
 A:=X.A
 N:=N
 s₀:=s
 H₀:=H
 env:=compEnvC scope cl C X.env
 outer:=X.stack
 stack:=X.stack
 ex:=ex
 fn:=fun _=>false
 calm:=X.calm
 pn:=[]
 xe:=fun _ _=>False
structure CompScope (sc:Scope) (XN N:List Str) (scope:Scope) (caps:List Nat):Prop where
 kind:scope.kind=.function
 nd:N.Nodup
 nocell:∀ y∈scope.names,y.2≠.cell
 names:∀ y∈scope.names,y.2=.local->scope.names.lookup y.1=some .local
 free:∀ y∈scope.names,y.2=.free->sc.names.lookup y.1=some .cell\/sc.names.lookup y.1=some .free
 cap:∀ (i:Nat),i < caps.length->∃ x,N[i]?=some x/\XN[caps.getD i 0]?=some x/\scope.names.lookup x=some .free/\(sc.names.lookup x=some .cell\/sc.names.lookup x=some .free)
 len:caps.length<=N.length
def uX (caps:List Nat) (n:Nat) (σ:St):St:=caps.map (fun j=>(σ[j]?).join)++List.replicate (n - caps.length) none
def PF (X:Cx) (ifs:List Expr) (tc:TT):Prop :=
 ∀ (pins:List (Addr × Obj)) (s:Shared) (σ:St) (H:Hp) (Q:Bool->Hp->Prop),Inv X pins σ H s->tc σ H Q ->
  wpAny (model X.prog X.w) X.A (forIn ifs true fun c r=>if r=true then do let ok <- isTrue c X.env (eval c X.env); pure (ForInStep.yield ok) else pure (ForInStep.yield r)) (TP X pins σ Q) X.xe s
def kW:TT:=fun _ H Q=>Q true H
theorem uN {X:Cx}:PF X [] kW:=fun pins s σ H Q I h=>by
 rw [List.forIn_nil]
 exact wpAny_pure ⟨H,I,h⟩
theorem zKm {X:Cx}{c:Expr}{tc:TT} (hc:PT X c tc):PF X [c] tc:=fun pins s σ H Q I h=>by
 rw [List.forIn_cons]
 refine wpAny_bind ?_
 rw [if_pos rfl]
 refine wpAny_bind (zJ (hc pins s σ H Q I h) fun ok s1 q=>wpAny_pure ?_)
 show wpAny _ _ (forIn [] ok _) _ _ _
 rw [List.forIn_nil]
 exact wpAny_pure q
def zFY (wi:TI) (g:TG) (tc:TT) (te:TE) (caps:List Nat) (n:Nat):TE:=fun σ H Q=>wi σ H fun J H1=>∃ W:Nat->Nat->List V->St->Hp->Prop,(∃ m,W 0 m [] (uX caps n σ) H1)/\∀ i m acc σ' H',W i m acc σ' H' ->
 (J.stop i H'/\∀ D,H' D=none->Q (.ref D) (upd H' D (.lst acc))) \/
 (J.go i H'/\acc.length < sizeLine/\∀ x H2,J.yld i H' x H2->g x σ' H2 fun σ2 H3=>tc σ2 H3 fun b H4=>if b=true then te σ2 H4 fun y H5=>∃ m',m' < m/\W (i+1) m' (acc++[y]) σ2 H5 else ∃ m',m' < m/\W (i+1) m' acc σ2 H4)
section
variable {X:Cx}{pins:List (Addr × Obj)}{σ:St}{H:Hp}{s:Shared}{N:List Str}{scope:Scope}{cl:List (Str × Addr)}{C:Addr}{fp:List Addr}{caps:List Nat}
theorem zFZ (I:Inv X pins σ H s) (S:CompScope X.env.scope X.N N scope caps) (h1:∀ x c,cl.lookup x=some c->X.env.cells.lookup x=some c) (h2:∀ x,(x,NameKind.free)∈scope.names->∃ c,cl.lookup x=some c)
  (hC:s.heap.objs.size<=C) (hf:∀ b∈fp,qE X pins H b) (hfo:∀ b∈fp,b < s.heap.objs.size):(vA X N scope cl C s H fp).Ok where
 mod:=I.ok.mod
 kind:=S.kind
 glob:=I.ok.glob
 blt:=I.ok.blt
 above:=hC
 inj:=fun x y c a b=>I.ok.inj x y c (h1 x c a) (h1 y c b)
 has:=fun x hx=>by
  have hx':∃ k',(k'=NameKind.cell\/k'=.free)/\(relabel scope X.env).names.lookup x=some k':=by
   rcases hx with z | z
   ·exact ⟨_,.inl rfl,z⟩
   ·exact ⟨_,.inr rfl,z⟩
  obtain ⟨k',hk,z⟩:=hx'
  obtain ⟨k,m,e⟩:=zFX hk z
  rcases e with e | e
  ·exact absurd e (S.nocell _ m)
  ·subst e; exact h2 x m
 cab:=fun x c z=>by cases z
 hd:=I.ok.hd
 frames:=I.ok.frames
 stk:=.inl rfl
 exf:=fun b hb=>by
  obtain ⟨_,_,_,_,f4,_⟩:=hf b hb
  exact ⟨Nat.ne_of_lt (Nat.lt_of_lt_of_le (hfo b hb) hC),fun x c e=>f4 x c (h1 x c e)⟩
 bs:=I.bs
 bsz:=Nat.le_trans I.ok.bsz I.sz
 noex:=fun b o e hb=>by
  obtain ⟨_,_,_,f3,_⟩:=hf b hb
  rcases f3 with z | z
  ·exact I.ok.noex b o e z
  ·exact absurd (Nat.lt_of_lt_of_le (Heap.lt_size e) (Nat.le_trans I.ok.bsz z)) (Nat.lt_irrefl _)
 exfs:=fun b hb z=>by
  obtain ⟨_,f1,f2,_⟩:=hf b hb
  rcases List.mem_cons.mp (I.stkSub b z) with e | e
  ·exact f1 e
  ·exact f2 e
 funs:=I.stack
 frf:=I.stkFree
theorem zFa {h1:Heap}{D:Addr}{od:Obj}{t:Nat}{m:Str->Option Value} (I:Inv X pins σ H s) (ok:(vA X N scope cl C s H fp).Ok) (S:CompScope X.env.scope X.N N scope caps)
  (hcl:∀ x c,cl.lookup x=some c->X.env.cells.lookup x=some c) (hcl2:∀ x,(x,NameKind.free)∈scope.names->∃ c,cl.lookup x=some c)
  (keep:∀ b o,s.heap.get? b=some o->h1.get? b=some o) (hn:h1.Ns C m) (hC:s.heap.objs.size<=C) (hD:h1.get? D=some od) (hDs:s.heap.objs.size<=D) (hDC:D≠C) (hdc:∀ v,od.data≠.cell v) :
  Inv (vA X N scope cl C s H fp) [(D,od)] (uX caps N.length σ) H { s with heap:=h1,toks:=t }:=by
 have cellK:∀ x c,cl.lookup x=some c->∀ v,s.heap.IsCell c v->h1.IsCell c v:=fun x c e v ⟨o,ho,hd⟩=>⟨o,keep c o ho,hd⟩
 refine ⟨ok,rfl,I.bare,Un.kept keep,⟨m,hn,fun i x v e1 e2 e3=>?_⟩,fun x c e=>?_,I.hok.fresh hC,fun x c e=>I.freeC x c (hcl x c e),fun p hp=>?_,I.hok.kept keep,?_⟩
 ·have hi:i < caps.length:=by
   by_cases hi:i < caps.length
   ·exact hi
   ·exfalso
    unfold uX at e2
    rw [List.getElem?_append_right (by simpa using hi),List.getElem?_replicate] at e2
    split at e2 <;> cases e2
  obtain ⟨y,y1,y2,y3,y4⟩:=S.cap i hi
  have exy:x=y:=by
   have e1':N[i]?=some x:=e1
   rw [y1] at e1'; exact (Option.some.inj e1').symm
  subst exy
  have e4:σ[caps.getD i 0]?=some (some v):=by
   unfold uX at e2
   rw [List.getElem?_append_left (by simpa using hi),List.getElem?_map] at e2
   have:caps[i]?=some (caps.getD i 0):=by rw [List.getD_eq_getElem?_getD]; simp [hi]
   rw [this] at e2
   have e2':(σ[caps.getD i 0]?).join=some v:=by simpa using e2
   cases q:σ[caps.getD i 0]? with
   | none=>rw [q] at e2'; cases e2'
   | some z=>rw [q] at e2'; have:z=some v:=e2'; rw [this]
  obtain ⟨m',_,hl⟩:=I.loc
  obtain ⟨u,r,l⟩:=hl _ x v y2 e4 (y4.elim (fun z=>.inr (.inl z)) fun z=>.inr (.inr z))
  refine ⟨u,r,?_⟩
  have nl:X.env.kindOf x≠some .local:=by
   rcases y4 with z | z
   ·show X.env.scope.names.lookup x≠_; rw [z]; decide
   ·show X.env.scope.names.lookup x≠_; rw [z]; decide
  rcases l with ⟨k,_⟩ | ⟨_,c,hc,z⟩
  ·exact absurd k nl
  ·obtain ⟨c',hc'⟩:=hcl2 x (PySem.mem_of_lookup y3)
   have:c=c':=Option.some.inj (hc.symm.trans (hcl x c' hc'))
   subst this
   refine .inr ⟨?_,c,hc',cellK x c hc' _ z⟩
   exact zFW (env:=X.env) y3
 ·obtain ⟨v,z⟩:=I.cell x c (hcl x c e)
  exact ⟨v,cellK x c e v z⟩
 ·have:p=(D,od):=by
   have hp':p∈[(D,od)]:=hp
   simpa using hp'
  subst this
  refine ⟨hD,I.hok.fresh hDs,hDC,fun z=>?_,hdc⟩
  have z':D∈yQ X.stack:=z
  obtain ⟨_,o,ho,_⟩:=I.stack.mem z'
  exact absurd (Nat.lt_of_lt_of_le (Heap.lt_size ho) hDs) (Nat.lt_irrefl _)
 ·unfold uX
  show _=N.length
  rw [List.length_append,List.length_map,List.length_replicate]
  have:=S.len
  omega
end
section
variable {X:Cx}
theorem qH {tg iter elt:Expr}{ifs:List Expr}{scope:Scope}{pos:Pos}{wi:TI}{g:TG}{tc:TT}{te:TE}{N:List Str}{caps:List Nat} (hc:X.calm=true) (S:CompScope X.env.scope X.N N scope caps)
  (hi:PI X tg iter wi) (hg:∀ cl C s H ex,PG (vA X N scope cl C s H ex) tg g) (hf:∀ cl C s H ex,PF (vA X N scope cl C s H ex) ifs tc) (he:∀ cl C s H ex,PE (vA X N scope cl C s H ex) elt te)
  (hs:∀ x,foldedSetIterable iter X.env x=pure x:=by intro _; rfl):PE X (.ListComp elt [⟨tg,iter,ifs,0⟩] scope pos) (zFY wi g tc te caps N.length):=by
 intro pins s σ H Q I h
 obtain ⟨cl,hcl,hcl1,hcl2⟩:=zFU (env:=X.env) (scope:=scope) fun y hy e=>I.ok.has y.1 (S.free y hy e)
 rw [eval_ListComp]
 refine wpAny_comprehension_free (use:=none) rfl hs hcl S.kind S.names (zJ (hi pins s σ H _ I h) fun v s1 h1=>zJ h1 fun itv s2 h2=>?_)
 obtain ⟨it,fp,tn,J,H2,e,I2,T,st2,f2,W,⟨m0,w0⟩,turn⟩:=h2
 subst e
 refine wpAny_newObj_type (wpAny_newFunctionEnv S.nocell (by intro y hy; simp at hy) (fun h₁ hns hsb=>?_) S.kind)
 dsimp only at hns hsb ⊢
 generalize hG:s2.heap.push { cls:=.type "list",dict:=none,data:=.seq ([]:List Value).toArray }=G at hns hsb ⊢
 have hCs:G.objs.size=s2.heap.objs.size+1:=by rw [<- hG,Heap.size_push]
 have hDC:s2.heap.objs.size≠G.objs.size:=by rw [hCs]; exact Nat.ne_of_lt (Nat.lt_succ_self _)
 have old:∀ b o,s2.heap.get? b=some o->h₁.get? b=some o:=fun b o e=>by
  have hb:=Heap.lt_size e
  refine hsb.extBut b o (by rw [hCs]; exact Nat.ne_of_lt (Nat.lt_succ_of_lt hb)) (Heap.get?_push_of_some _ ?_)
  rw [<- hG]
  exact Heap.get?_push_of_some _ e
 have hD:h₁.get? s2.heap.objs.size=some { cls:=.type "list",dict:=none,data:=.seq ([]:List Value).toArray }:=by
  refine hsb.extBut _ _ hDC (Heap.get?_push_of_some _ ?_)
  rw [<- hG]
  exact Heap.get?_push_size _ rfl
 have hfo:∀ b∈fp,b < s2.heap.objs.size:=fun b hb=>let ⟨o,e,_⟩:=T.obj 0 _ st2 b hb; Heap.lt_size e
 have hCle:s2.heap.objs.size<=G.objs.size:=by omega
 have ok:=zFZ (C:=G.objs.size) I2 S hcl1 hcl2 hCle f2 hfo
 have I0:Inv (vA X N scope cl G.objs.size s2 H2 fp) [(s2.heap.objs.size,{ cls:=.type "list",dict:=none,data:=.seq ([]:List Value).toArray })] (uX caps N.length σ) H2 { s2 with heap:=h₁,toks:=s2.toks+([]:List (Str × Value)).length } :=
  zFa I2 ok S hcl1 hcl2 old hns hCle hD (Nat.le_refl _) hDC (fun v z=>by cases z)
 have st1:tn 0 h₁:=T.keep 0 _ _ st2 fun b _ o e=>old b o e
 generalize hX:vA X N scope cl G.objs.size s2 H2 fp=X' at I0
 generalize hDa:s2.heap.objs.size=D at I0 hD hDC
 have loop:codeAny (model X.prog X.w) X.A (.compLoop (.ListComp elt [⟨tg,iter,ifs,0⟩] scope pos) 0 (.ref it) (.ref D) (compEnvC scope cl G.objs.size X.env)) (compPost (model X.prog X.w) X.A X.xe none (EP X pins σ Q) (.ref D) G.objs.size)
   { s2 with heap:=h₁,toks:=s2.toks+([]:List (Str × Value)).length }:=by
  subst hX
  refine zFV (J:=fun n s'=>∃ i σ' H' acc its e,Inv (vA X N scope cl G.objs.size s2 H2 fp) [(D,{ cls:=.type "list",data:=.seq (List.toArray its) e })] σ' H' s'/\zM acc its/\acc.length<=sizeLine/\tn i s'.heap/\(∀ b∈fp,H' b=none)/\W i n acc σ' H')
   ?_ m0 ⟨0,_,H2,[],[],0,I0,.nil,Nat.zero_le _,st1,fun b hb=>(f2 b hb).1,w0⟩
  rintro n s3 ⟨i,σ3,H3,acc,its,ep,I3,rv,hz,st3,fr3,w3⟩
  have stat:∀ {H':Hp} {pl:List (Addr × Obj)},(∀ b∈fp,H' b=none)->(∀ p∈pl,p.1=D)->∀ b∈fp,qE (vA X N scope cl G.objs.size s2 H2 fp) pl H' b:=fun {H' pl} hn hpl b hb=>by
   obtain ⟨a1,a2⟩:=ok.exf b hb
   exact ⟨hn b hb,a1,ok.exfs b hb,.inl hb,fun x c e=>a2 x c e,fun p hp=>by
    have hp':p∈pl:=hp
    rw [hpl p hp',<- hDa]
    exact Nat.ne_of_gt (hfo b hb)⟩
  have one:∀ p∈[(D,({ cls:=.type "list",data:=.seq (List.toArray its) ep }:Obj))],p.1=D:=fun p hp=>by
   rcases List.mem_cons.mp hp with e | e
   ·rw [e]
   ·cases e
  have pinD:∀ {pl:List (Addr × Obj)} {σ':St} {H':Hp} {s':Shared} {o:Obj},Inv (vA X N scope cl G.objs.size s2 H2 fp) pl σ' H' s'->(D,o)∈pl->s'.heap.get? D=some o/\H' D=none:=fun {pl σ' H' s' o} I' hm=>by
   obtain ⟨a,b,_⟩:=I'.pin (D,o) (List.mem_append_right _ hm)
   exact ⟨a,b⟩
  rcases turn i n acc σ3 H3 w3 with ⟨stop,q⟩ | ⟨go,hlt,step⟩
  ·refine wpAny_mono (T.done (vA X N scope cl G.objs.size s2 H2 fp) rfl rfl rfl hc i _ s3 σ3 H3 (fun _ _=>False) I3 (stat fr3 one) st3 stop) (fun r s4 ⟨hr,I4⟩=>?_) fun _ _ f=>f
   subst hr
   obtain ⟨hDo,hDn⟩:=pinD I4 (List.mem_cons_self ..)
   obtain ⟨m4,hm4,_⟩:=I4.loc
   refine ⟨m4,hm4,fun h' hsb'=>?_⟩
   have keepC:∀ b u,b≠G.objs.size->s4.heap.get? b=some u->h'.get? b=some u:=fun b u hb e=>hsb'.extBut b u hb e
   have un:Un (yQ X.stack) fp H2 H3 s2.heap s4.heap:=I4.base
   have hDo':h'.get? D=some { cls:=.type "list",data:=.seq (List.toArray its) ep }:=keepC D _ hDC hDo
   have hlow:∀ b (o:Obj),s2.heap.get? b=some o->b≠G.objs.size/\b≠D:=fun b o e=>by
    have h0:=Heap.lt_size e
    exact ⟨by rw [hCs]; exact Nat.ne_of_lt (Nat.lt_succ_of_lt h0),by rw [<- hDa]; exact Nat.ne_of_lt h0⟩
   have un':Un (yQ X.stack) fp H2 (upd H3 D (.lst acc)) s2.heap h' :=
    ⟨fun b o e n' hb hx=>keepC b o (hlow b o e).1 (un.keep b o e n' hb hx),
     fun b o e n' hb hx=>let ⟨sl,q⟩:=un.slot b o e n' hb hx; ⟨sl,keepC b _ (hlow b o e).1 q⟩,
     fun b o e n' hx=>by rw [zU (hlow b o e).2]; exact un.free b o e n' hx,
     fun b o e hx=>let ⟨o',q⟩:=un.there b o e hx; ⟨o',keepC b _ (hlow b o e).1 q⟩,
     fun b xs e=>by rw [zU (y7 (un.tups b xs e) hDn)]; exact un.tups b xs e,
     fun b o u e=>by rw [zU (y7 (un.frzs b o u e) hDn)]; exact un.frzs b o u e,
     fun b ps e=>let ⟨mo,q⟩:=un.tbls b ps e; ⟨mo,by rw [zU (y7 q hDn)]; exact q⟩⟩
   have hok:z6 X.prog X.w (upd H3 D (.lst acc)) h':=(I4.hok.but I4.free keepC).track hDn ⟨hz,its,ep,rv,hDo'⟩
   refine ⟨.ref D,upd H3 D (.lst acc),I2.call' (s':={ s4 with heap:=h' }) I4.os un' hok I4.bare (fun b hb=>?_),rfl,q D hDn⟩
   obtain ⟨_,f1,_,f3,f4,f5⟩:=f2 b hb
   exact ⟨f3,f1,f4,f5⟩
  ·refine wpAny_mono (T.item (vA X N scope cl G.objs.size s2 H2 fp) rfl rfl rfl hc i _ s3 σ3 H3 (fun _ _=>False) I3 (stat fr3 one) st3 go) (fun r s4 ⟨u,hr,h4⟩=>?_) fun _ _ f=>f
   subst hr
   refine zJ h4 fun _ s5 ⟨x,H5,I5,r5,y5,st5,fr5⟩=>?_
   have I5':=I5.pinned (stat fr5 one) (T.obj _ _ st5)
   refine zJ (hg cl G.objs.size s2 H2 fp _ s5 σ3 H5 x u _ I5' r5 (step x H5 y5)) fun _ s6 ⟨σ6,H6,I6,q6⟩=>?_
   refine zJ (hf cl G.objs.size s2 H2 fp _ s6 σ6 H6 _ I6 q6) fun b s7 ⟨H7,I7,q7⟩=>?_
   have fin:∀ {pl:List (Addr × Obj)} {σ':St} {H':Hp} {s':Shared},Inv (vA X N scope cl G.objs.size s2 H2 fp) (pl++g7 fp s5.heap) σ' H' s'->tn (i+1) s'.heap/\∀ b∈fp,H' b=none:=fun {pl σ' H' s'} I'=>by
    refine ⟨T.keep _ _ _ st5 fun b hb o e=>(I'.pin (b,o) (List.mem_append_right _ (List.mem_append_right _ (gI hb e)))).1,fun b hb=>?_⟩
    obtain ⟨o,e,_⟩:=T.obj _ _ st5 b hb
    exact (I'.pin (b,o) (List.mem_append_right _ (List.mem_append_right _ (gI hb e)))).2.1
   cases b with
   | false =>
    rw [if_neg Bool.false_ne_true] at q7 ⊢
    obtain ⟨m',hm,w7⟩:=q7
    obtain ⟨a1,a2⟩:=fin I7
    exact ⟨m',hm,i+1,σ6,H7,acc,its,ep,I7.unpinned,rv,hz,a1,a2,w7⟩
   | true =>
    rw [if_pos rfl] at q7 ⊢
    refine zJ (he cl G.objs.size s2 H2 fp _ s7 σ6 H7 _ I7 q7) fun y s8 ⟨yv,H8,I8,r8,m',hm,w8⟩=>?_
    obtain ⟨a1,a2⟩:=fin I8
    obtain ⟨b1,b2⟩:=pinD I8 (List.mem_append_left _ (List.mem_cons_self ..))
    have hl:=rv.length
    refine call_meets F.slot_list_append ⟨_,b1,rfl⟩ F.entry_list_append (F.args_list_append_2 _ _) (PySem.list_append D its.toArray ep y (by rw [List.size_toArray]; omega)) ⟨b1,?_⟩
    have q9:=PySem.IsL.update b1 (·.push y)
    have kp:∀ b o,b≠D->s8.heap.get? b=some o->(s8.heap.update D (Obj.mapSeq (·.push y))).get? b=some o:=fun b o hb e=>(Heap.get?_update_other s8.heap (Obj.mapSeq (·.push y)) (Ne.symm hb)).trans e
    have I9:Inv (vA X N scope cl G.objs.size s2 H2 fp) [] σ6 H8 { s8 with heap:=s8.heap.update D (Obj.mapSeq (·.push y)) } :=
     (I8.pins_of (pins':=[]) fun p hp=>by cases hp).turned (t':=s8.toks) kp b2 hDC (.inr (by rw [<- hDa]; exact Nat.le_refl _)) (fun x c e z=>by
      have e':X.env.cells.lookup x=some c:=hcl1 x c e
      obtain ⟨v',hv'⟩:=I2.cell x c e'
      have h0:=hv'.lt
      rw [z,<- hDa] at h0
      exact Nat.lt_irrefl _ h0) fun p hp=>by
       have:p∈([]:List (Addr × Obj)):=hp
       cases this
    have hpu:its.toArray.push y=(its++[y]).toArray:=by simp
    rw [hpu] at q9
    obtain ⟨e9,q9⟩:∃ e9,(s8.heap.update D (Obj.mapSeq (·.push y))).get? D=some { cls:=.type "list",data:=.seq (its++[y]).toArray e9 }:=⟨_,q9⟩
    refine ⟨m',hm,i+1,σ6,H8,acc++[yv],its++[y],e9,I9.pins_of fun p hp=>?_,rv.append (.cons r8 .nil),?_,T.keep _ _ _ a1 fun b hb o e=>kp b o ?_ e,a2,w8⟩
    ·obtain rfl:p=(D,{ cls:=.type "list",data:=.seq (its++[y]).toArray e9 }):=by
      rcases List.mem_cons.mp hp with e | e
      ·exact e
      ·cases e
     obtain ⟨_,_,c3,c4,_⟩:=I8.pin (D,_) (List.mem_append_right _ (List.mem_append_left _ (List.mem_cons_self ..)))
     exact ⟨q9,b2,c3,c4,fun v z=>by cases z⟩
    ·rw [List.length_append,List.length_singleton]; omega
    ·rintro rfl
     have h0:=hfo b hb
     rw [hDa] at h0
     exact Nat.lt_irrefl _ h0
 exact codeAny_compStart_list loop (T.self X.A 0 _ _ _ st1 loop)
end
end L2
end
section
namespace L2
open PySem PySem.Spec PyProof.Rows
theorem zB.seqT {K:PySem.W.Frag}{H H':Hp}{a:Addr}{xs:List V} (e:zB H H') (h:zZ K H a xs):zZ K H' a xs:=by
 rcases h with (h | ⟨o,h⟩) | h
 ·exact .inl (.inl (e _ _ h))
 ·exact .inl (.inr ⟨o,e _ _ h⟩)
 ·exact .inr h
mutual
def vF (K:PySem.W.Frag) (H:Hp):PyData->V->Prop
 | .none,v=>v=.non
 | .bool b,v=>v=.bl b
 | .int i,v=>v=.int i
 | .str x,v=>v=.str x
 | .list ds,v=>∃ a xs,v=.ref a/\yC K H a xs/\Reps K H ds xs
 | .tuple ds,v=>∃ a xs,v=.ref a/\zZ K H a xs/\Reps K H ds xs
 | .dict _,_=>False
def Reps (K:PySem.W.Frag) (H:Hp):List PyData->List V->Prop
 | [],xs=>xs=[]
 | d::ds,xs=>∃ y ys,xs=y::ys/\vF K H d y/\Reps K H ds ys
end
mutual
theorem vF.same {K:PySem.W.Frag}{H H':Hp} (e:zB H H'):∀ (d:PyData) (v:V),vF K H d v->vF K H' d v
 | .none,v,h=>h
 | .bool b,v,h=>h
 | .int i,v,h=>h
 | .str x,v,h=>h
 | .list ds,v,h=>by
  obtain ⟨a,xs,h1,h2,h3⟩:=h
  exact ⟨a,xs,h1,e.seq h2,Reps.same e ds xs h3⟩
 | .tuple ds,v,h=>by
  obtain ⟨a,xs,h1,h2,h3⟩:=h
  exact ⟨a,xs,h1,e.seqT h2,Reps.same e ds xs h3⟩
 | .dict _,v,h=>h
theorem Reps.same {K:PySem.W.Frag}{H H':Hp} (e:zB H H'):∀ (ds:List PyData) (xs:List V),Reps K H ds xs->Reps K H' ds xs
 | [],xs,h=>h
 | d::ds,xs,h=>by
  obtain ⟨y,ys,h1,h2,h3⟩:=h
  exact ⟨y,ys,h1,vF.same e d y h2,Reps.same e ds ys h3⟩
end
theorem Reps.length {K:PySem.W.Frag}{H:Hp}:∀ {ds:List PyData}{xs:List V},Reps K H ds xs->ds.length=xs.length
 | [],xs,h=>by rw [show xs=[] from h]; rfl
 | d::ds,xs,h=>by
  obtain ⟨y,ys,h1,_,h3⟩:=h
  rw [h1,List.length_cons,List.length_cons,Reps.length h3]
theorem Reps.get {K:PySem.W.Frag}{H:Hp}:∀ {ds:List PyData}{xs:List V}{i:Nat}{y:V},Reps K H ds xs->xs[i]?=some y->∃ d,ds[i]?=some d/\vF K H d y
 | [],xs,i,y,h,e=>by rw [show xs=[] from h] at e; simp at e
 | d::ds,xs,i,y,h,e=>by
  obtain ⟨z,zs,h1,h2,h3⟩:=h
  subst h1
  cases i with
  | zero =>
   have:z=y:=by simpa using e
   subst this
   exact ⟨d,rfl,h2⟩
  | succ i =>
   obtain ⟨d',e1,e2⟩:=Reps.get (i:=i) h3 (by simpa using e)
   exact ⟨d',by simpa using e1,e2⟩
theorem Reps.append {K:PySem.W.Frag}{H:Hp}:∀ {ds es:List PyData}{xs ys:List V},Reps K H ds xs->Reps K H es ys->Reps K H (ds++es) (xs++ys)
 | [],es,xs,ys,h,h'=>by rw [show xs=[] from h]; exact h'
 | d::ds,es,xs,ys,h,h'=>by
  obtain ⟨z,zs,h1,h2,h3⟩:=h
  subst h1
  exact ⟨z,zs++ys,rfl,h2,Reps.append h3 h'⟩
theorem Reps.one {K:PySem.W.Frag}{H:Hp}{d:PyData}{v:V} (h:vF K H d v):Reps K H [d] [v]:=⟨v,[],rfl,h,rfl⟩
section
variable {X:Cx}{pins:List (Addr × Obj)}{σ:St}{H:Hp}{s:Shared}
mutual
theorem vF.reads (I:Inv X pins σ H s):∀ (d:PyData) (v:V) (u:Value),vF X.K H d v->zT v u->∃ as,Reads s.heap u d as
 | .none,v,u,h,r=>by
  have h':v=.non:=h
  subst h'
  cases r
  exact ⟨_,.none⟩
 | .bool b,v,u,h,r=>by
  have h':v=.bl b:=h
  subst h'
  cases r
  exact ⟨_,.bool b⟩
 | .int i,v,u,h,r=>by
  have h':v=.int i:=h
  subst h'
  obtain ⟨t,rfl⟩:=r
  exact ⟨_,.int i t⟩
 | .str x,v,u,h,r=>by
  have h':v=.str x:=h
  subst h'
  obtain ⟨t,rfl⟩:=r
  exact ⟨_,.str x t⟩
 | .list ds,v,u,h,r=>by
  obtain ⟨a,xs,h1,h2,h3⟩:=h
  subst h1
  cases r
  obtain ⟨its,rv,⟨o,n,e,hc,_,hd⟩,_⟩:=I.list h2
  obtain ⟨as,ra⟩:=Reps.reads I ds xs its h3 rv
  exact ⟨_,.list e hc hd (by simpa using ra)⟩
 | .tuple ds,v,u,h,r=>by
  obtain ⟨a,xs,h1,h2,h3⟩:=h
  subst h1
  cases r
  obtain ⟨its,rv,⟨o,e,hc,n,hd⟩,_⟩:=I.tuple h2
  obtain ⟨as,ra⟩:=Reps.reads I ds xs its h3 rv
  exact ⟨_,.tuple e hc hd (by simpa using ra)⟩
 | .dict _,v,u,h,r=>h.elim
theorem Reps.reads (I:Inv X pins σ H s):∀ (ds:List PyData) (xs:List V) (us:List Value),Reps X.K H ds xs->zM xs us->∃ as,ReadsAll s.heap us ds as
 | [],xs,us,h,r=>by
  have h':xs=[]:=h
  subst h'
  cases r
  exact ⟨_,.nil⟩
 | d::ds,xs,us,h,r=>by
  obtain ⟨y,ys,h1,h2,h3⟩:=h
  subst h1
  cases r with
  | cons r1 r2 =>
   obtain ⟨as,ra⟩:=vF.reads I d y _ h2 r1
   obtain ⟨bs,rb⟩:=Reps.reads I ds ys _ h3 r2
   exact ⟨_,.cons ra rb⟩
end
def zFb (K:PySem.W.Frag) (neg:Bool):R2:=fun x y H Q=>∃ d e,vF K H d x/\vF K H e y/\SeqAt.shaped d=true/\SeqAt.shaped e=true/\Q (.bl (if neg=true then !PyData.eqv d e else PyData.eqv d e)) H
theorem zAd (hu:X.A.units+64 < cLine):yE X (compareOp .Eq) (zFb X.K false):=by
 intro pins s σ H x y v u Q I rx ry h
 obtain ⟨d,e,h1,h2,h3,h4,q⟩:=h
 obtain ⟨as,ra⟩:=vF.reads I d x v h1 rx
 obtain ⟨bs,rb⟩:=vF.reads I e y u h2 ry
 exact eq_dataH ra rb h3 h4 hu ⟨.bl _,H,I,rfl,q⟩
theorem zBM (hu:X.A.units+64 < cLine):yE X (compareOp .NotEq) (zFb X.K true):=by
 intro pins s σ H x y v u Q I rx ry h
 obtain ⟨d,e,h1,h2,h3,h4,q⟩:=h
 obtain ⟨as,ra⟩:=vF.reads I d x v h1 rx
 obtain ⟨bs,rb⟩:=vF.reads I e y u h2 ry
 exact ne_dataH ra rb h3 h4 hu ⟨.bl _,H,I,rfl,q⟩
end
mutual
theorem zBN:∀ d:PyData,d.canLay0=true->PyData.eqv d d=true
 | .none,_=>rfl
 | .bool b,_=>by simp [PyData.eqv]
 | .int i,_=>by simp [PyData.eqv]
 | .str x,_=>by simp [PyData.eqv]
 | .list ds,h=>by
  have h':PyData.canLayAll0 ds=true:=by simpa [PyData.canLay0] using h
  simp only [PyData.eqv]; exact eqvAll_refl ds h'
 | .tuple ds,h=>by
  have h':PyData.canLayAll0 ds=true:=by simpa [PyData.canLay0] using h
  simp only [PyData.eqv]; exact eqvAll_refl ds h'
 | .dict _,h=>by simp [PyData.canLay0] at h
theorem eqvAll_refl:∀ ds:List PyData,PyData.canLayAll0 ds=true->PyData.eqvAll ds ds=true
 | [],_=>rfl
 | d::ds,h=>by
  have h':d.canLay0=true/\PyData.canLayAll0 ds=true:=by simpa [PyData.canLayAll0] using h
  simp only [PyData.eqvAll,zBN d h'.1,eqvAll_refl ds h'.2,Bool.and_self]
end
end L2
end
section
open PySem PySem.W PyProof.Rows
namespace MyS
def ev {α:Type} (lt:Nat->Nat->Bool):KasT α->α
 | .ret a=>a
 | .ask i j k=>ev lt (k (lt i j))
theorem zAC {α β:Type} (lt:Nat->Nat->Bool) (f:α->KasT β):∀ t:KasT α,ev lt (t.bind f)=ev lt (f (ev lt t))
 | .ret _=>rfl
 | .ask i j k=>zAC lt f (k (lt i j))
def vL {α:Type} (lt:Nat->Nat->Bool) (N:Nat):KasT α->Prop
 | .ret _=>True
 | .ask i j k=>i < N/\j < N/\i≠j/\vL lt N (k (lt i j))
theorem zAD {α β:Type}{lt:Nat->Nat->Bool}{N:Nat}{f:α->KasT β}:∀ (t:KasT α),vL lt N t->vL lt N (f (ev lt t))->vL lt N (t.bind f)
 | .ret _,_,h=>h
 | .ask i j k,h,h'=>⟨h.1,h.2.1,h.2.2.1,zAD (k (lt i j)) h.2.2.2 h'⟩
structure TotalOn (lt:Nat->Nat->Bool) (n:Nat):Prop where
 irr:∀ i,i < n->lt i i=false
 tr:∀ i j k,i < n->j < n->k < n->lt i j=true->lt j k=true->lt i k=true
 tot:∀ i j,i < n->j < n->i≠j->lt i j=true\/lt j i=true
abbrev gg (p:Array Nat) (i:Nat):Nat:=p.getD i 0
def Pm (p:Array Nat) (n:Nat):Prop:=p.toList.Perm (List.range n)
theorem Pm.size {p:Array Nat}{n:Nat} (h:Pm p n):p.size=n:=by
 have:=List.Perm.length_eq h
 simpa using this
theorem zAe {p:Array Nat}{i:Nat} (h:i < p.size):gg p i=p[i]:=by simp [gg,Array.getD,h]
theorem Pm.lt {p:Array Nat}{n i:Nat} (h:Pm p n) (hi:i < n):gg p i < n:=by
 have hs:i < p.size:=by rw [h.size]; exact hi
 have hm:p[i]∈List.range n:=(List.Perm.mem_iff h).mp (by simp)
 rw [zAe hs]
 exact List.mem_range.mp hm
theorem Pm.ne {p:Array Nat}{n i j:Nat} (h:Pm p n) (hi:i < n) (hj:j < n) (hij:i≠j):gg p i≠gg p j:=by
 have hsi:i < p.size:=by rw [h.size]; exact hi
 have hsj:j < p.size:=by rw [h.size]; exact hj
 have nd:p.toList.Nodup:=(List.Perm.nodup_iff h).mpr List.nodup_range
 rw [zAe hsi,zAe hsj]
 intro e
 apply hij
 have e':p.toList[i]'(by simpa using hsi)=p.toList[j]'(by simpa using hsj):=by simpa using e
 exact (List.getElem_inj nd).mp e'
theorem Pm.perm {p q:Array Nat}{n:Nat} (h:Pm p n) (e:q.Perm p):Pm q n:=(Array.perm_iff_toList_perm.mp e).trans h
def Up (lt:Nat->Nat->Bool) (p:Array Nat) (k:Nat):Prop:=∀ i j,i < j->j < k->lt (gg p i) (gg p j)=true
def Dn (lt:Nat->Nat->Bool) (p:Array Nat) (k:Nat):Prop:=∀ i j,i < j->j < k->lt (gg p j) (gg p i)=true
section
variable {lt:Nat->Nat->Bool}{N:Nat}{p:Array Nat}
theorem TotalOn.flip (O:TotalOn lt N) {i j:Nat} (hi:i < N) (hj:j < N) (hne:i≠j) (h:lt i j=false):lt j i=true:=by
 rcases O.tot i j hi hj hne with h' | h'
 ·rw [h] at h'; cases h'
 ·exact h'
theorem Up.more (O:TotalOn lt N) (P:Pm p N) {n:Nat} (h1:1<=n) (hn:n < N) (u:Up lt p n) (h:lt (gg p (n - 1)) (gg p n)=true):Up lt p (n+1):=by
 intro i j hij hj
 by_cases e:j=n
 ·subst e
  by_cases e':i=j - 1
  ·subst e'; exact h
  ·exact O.tr _ _ _ (P.lt (by omega)) (P.lt (by omega)) (P.lt hn) (u i (j - 1) (by omega) (by omega)) h
 ·exact u i j hij (by omega)
theorem Dn.more (O:TotalOn lt N) (P:Pm p N) {n:Nat} (h1:1<=n) (hn:n < N) (u:Dn lt p n) (h:lt (gg p n) (gg p (n - 1))=true):Dn lt p (n+1):=by
 intro i j hij hj
 by_cases e:j=n
 ·subst e
  by_cases e':i=j - 1
  ·subst e'; exact h
  ·exact O.tr _ _ _ (P.lt hn) (P.lt (by omega)) (P.lt (by omega)) h (u i (j - 1) (by omega) (by omega))
 ·exact u i j hij (by omega)
theorem zFc:Up lt p 1:=fun i j hij hj=>by omega
theorem zBO (O:TotalOn lt N) (P:Pm p N):∀ (f n:Nat),1<=n->n+f<=N->Up lt p n ->
  n<=ev lt (kas_asc p f n)/\ev lt (kas_asc p f n)<=n+f/\Up lt p (ev lt (kas_asc p f n))/\(ev lt (kas_asc p f n) < n+f->lt (gg p (ev lt (kas_asc p f n))) (gg p (ev lt (kas_asc p f n) - 1))=true)
 | 0,n,_,_,u=>⟨Nat.le_refl _,Nat.le_refl _,u,fun h=>absurd h (Nat.lt_irrefl _)⟩
 | f+1,n,h1,hn,u=>by
  have e:ev lt (kas_asc p (f+1) n)=ev lt (if lt (gg p n) (gg p (n - 1))=true then KasT.ret n else kas_asc p f (n+1)):=rfl
  rw [e]
  cases c:lt (gg p n) (gg p (n - 1)) with
  | true =>
   rw [if_pos rfl]
   exact ⟨Nat.le_refl _,Nat.le_add_right _ _,u,fun _=>c⟩
  | false =>
   rw [if_neg (by simp)]
   have c':=O.flip (P.lt (by omega)) (P.lt (by omega)) (P.ne (by omega) (by omega) (by omega)) c
   obtain ⟨a1,a2,a3,a4⟩:=zBO O P f (n+1) (by omega) (by omega) (u.more O P h1 (by omega) c')
   exact ⟨by omega,by omega,a3,fun h=>a4 (by omega)⟩
theorem zCg (P:Pm p N):∀ (f n:Nat),1<=n->n+f<=N->vL lt N (kas_asc p f n)
 | 0,n,_,_=>trivial
 | f+1,n,h1,hn=>by
  refine ⟨P.lt (by omega),P.lt (by omega),P.ne (by omega) (by omega) (by omega),?_⟩
  show vL lt N (if lt (gg p n) (gg p (n - 1))=true then KasT.ret n else kas_asc p f (n+1))
  split
  ·trivial
  ·exact zCg P f (n+1) (by omega) (by omega)
theorem zFd (O:TotalOn lt N) (P:Pm p N):∀ (f n:Nat),1<=n->n+f<=N->vL lt N (kas_desc f p n 0)
 | 0,n,_,_=>trivial
 | f+1,n,h1,hn=>by
  refine ⟨P.lt (by omega),P.lt (by omega),P.ne (by omega) (by omega) (by omega),?_⟩
  show vL lt N (if lt (gg p n) (gg p (n - 1))=true then (if 0 > 0 then kas_desc f (kas_rev p (n - (0+1)) n) (n+1) 0 else kas_desc f p (n+1) 0)
   else .ask (gg p (n - 1)) (gg p n) fun d=>if d=true then .ret (p,n,0) else kas_desc f p (n+1) (0+1))
  cases c:lt (gg p n) (gg p (n - 1)) with
  | true =>
   rw [if_pos rfl,if_neg (by omega)]
   exact zFd O P f (n+1) (by omega) (by omega)
  | false =>
   rw [if_neg (by simp)]
   have c':=O.flip (P.lt (by omega)) (P.lt (by omega)) (P.ne (by omega) (by omega) (by omega)) c
   refine ⟨P.lt (by omega),P.lt (by omega),P.ne (by omega) (by omega) (by omega),?_⟩
   show vL lt N (if lt (gg p (n - 1)) (gg p n)=true then KasT.ret (p,n,0) else kas_desc f p (n+1) (0+1))
   rw [c',if_pos rfl]
   trivial
theorem zCh (O:TotalOn lt N) (P:Pm p N):∀ (f n:Nat),1<=n->n+f<=N->Dn lt p n ->
  ∃ m,ev lt (kas_desc f p n 0)=(p,m,0)/\n<=m/\m<=n+f/\Dn lt p m
 | 0,n,_,_,u=>⟨n,rfl,Nat.le_refl _,Nat.le_refl _,u⟩
 | f+1,n,h1,hn,u=>by
  have e:ev lt (kas_desc (f+1) p n 0)=ev lt (if lt (gg p n) (gg p (n - 1))=true then (if 0 > 0 then kas_desc f (kas_rev p (n - (0+1)) n) (n+1) 0 else kas_desc f p (n+1) 0)
   else .ask (gg p (n - 1)) (gg p n) fun d=>if d=true then .ret (p,n,0) else kas_desc f p (n+1) (0+1)):=rfl
  rw [e]
  cases c:lt (gg p n) (gg p (n - 1)) with
  | true =>
   rw [if_pos rfl,if_neg (by omega)]
   obtain ⟨m,a1,a2,a3,a4⟩:=zCh O P f (n+1) (by omega) (by omega) (u.more O P h1 (by omega) c)
   exact ⟨m,a1,by omega,by omega,a4⟩
  | false =>
   rw [if_neg (by simp)]
   have c':=O.flip (P.lt (by omega)) (P.lt (by omega)) (P.ne (by omega) (by omega) (by omega)) c
   have e2:ev lt (.ask (gg p (n - 1)) (gg p n) fun d=>if d=true then KasT.ret (p,n,0) else kas_desc f p (n+1) (0+1))=ev lt (if lt (gg p (n - 1)) (gg p n)=true then KasT.ret (p,n,0) else kas_desc f p (n+1) (0+1)):=rfl
   rw [e2,c',if_pos rfl]
   exact ⟨n,rfl,Nat.le_refl _,by omega,u⟩
theorem zFe {m k:Nat} (hm:m<=p.size):gg (kas_rev p 0 m) k=if k < m then gg p (m - 1 - k) else gg p k:=by
 have e:=getElem?_mirror_all (i:=0) hm k
 have e0:∀ (q:Array Nat) (x:Nat),gg q x=(q[x]?).getD 0:=fun q x=>by simp [gg]
 rw [e0,e0,e0]
 show ((mirror p 0 m ((m - 0) / 2))[k]?).getD 0=_
 rw [e]
 by_cases h:k < m
 ·rw [if_pos ⟨Nat.zero_le _,h⟩,if_pos h]
  simp
 ·rw [if_neg (fun z=>h z.2),if_neg h]
theorem zKn (P:Pm p N) {m:Nat} (hm:m<=N) (d:Dn lt p m):Up lt (kas_rev p 0 m) m:=by
 intro i j hij hj
 have hs:m<=p.size:=by rw [P.size]; exact hm
 rw [zFe hs,zFe hs,if_pos (by omega),if_pos hj]
 exact d _ _ (by omega) (by omega)
theorem zCi (P:Pm p N) (i j:Nat):Pm (kas_rev p i j) N:=P.perm (mirror_perm p i j _)
theorem zFf (O:TotalOn lt N) (P:Pm p N) (h2:2<=N):∃ m q,ev lt (kas_count N p)=(m,q)/\1<=m/\m<=N/\Pm q N/\Up lt q m:=by
 obtain ⟨a1,a2,a3,a4⟩:=zBO O P (N - 1) 1 (Nat.le_refl _) (by omega) zFc
 unfold kas_count
 rw [zAC]
 generalize hn:ev lt (kas_asc p (N - 1) 1)=n at a1 a2 a3 a4
 by_cases e1:(n == N)=true
 ·rw [if_pos e1]
  exact ⟨n,p,rfl,a1,by omega,P,a3⟩
 ·rw [if_neg e1]
  have hne:n≠N:=by simpa using e1
  by_cases e2:n > 1
  ·rw [if_pos e2]
   have c:lt (gg p 0) (gg p (n - 1))=true:=a3 0 (n - 1) (by omega) (by omega)
   have e3:ev lt (KasT.ask (p.getD 0 0) (p.getD (n - 1) 0) fun c=>if c=true then KasT.ret (n,p) else kas_descPart n N (kas_rev p 0 n))=ev lt (if lt (gg p 0) (gg p (n - 1))=true then KasT.ret (n,p) else kas_descPart n N (kas_rev p 0 n)):=rfl
   rw [e3,c,if_pos rfl]
   exact ⟨n,p,rfl,a1,by omega,P,a3⟩
  ·rw [if_neg e2]
   have e:n=1:=by omega
   subst e
   have c:=a4 (by omega)
   have d2:Dn lt p 2:=fun i j hij hj=>by
    have:i=0:=by omega
    have:j=1:=by omega
    subst i; subst j; exact c
   obtain ⟨m,b1,b2,b3,b4⟩:=zCh O P (N - 2) 2 (by omega) (by omega) d2
   unfold kas_descPart
   rw [zAC]
   have b1':ev lt (kas_desc (N - (1+1)) p (1+1) 0)=(p,m,0):=b1
   rw [b1']
   dsimp only
   rw [if_neg (by omega)]
   unfold kas_tail3
   rw [zAC]
   obtain ⟨c1,c2,c3,_⟩:=zBO O (zCi P 0 m) (N - m) m (by omega) (by omega) (zKn P (by omega) b4)
   exact ⟨_,_,rfl,by omega,by omega,zCi P 0 m,c3⟩
theorem zKo (O:TotalOn lt N) (P:Pm p N) (h2:2<=N):vL lt N (kas_count N p):=by
 obtain ⟨a1,a2,a3,a4⟩:=zBO O P (N - 1) 1 (Nat.le_refl _) (by omega) zFc
 unfold kas_count
 refine zAD _ (zCg P _ _ (Nat.le_refl _) (by omega)) ?_
 generalize hn:ev lt (kas_asc p (N - 1) 1)=n at a1 a2 a3 a4
 by_cases e1:(n == N)=true
 ·rw [if_pos e1]; trivial
 ·rw [if_neg e1]
  have hne:n≠N:=by simpa using e1
  by_cases e2:n > 1
  ·rw [if_pos e2]
   have c:lt (gg p 0) (gg p (n - 1))=true:=a3 0 (n - 1) (by omega) (by omega)
   refine ⟨P.lt (by omega),P.lt (by omega),P.ne (by omega) (by omega) (by omega),?_⟩
   show vL lt N (if lt (gg p 0) (gg p (n - 1))=true then KasT.ret (n,p) else kas_descPart n N (kas_rev p 0 n))
   rw [c,if_pos rfl]
   trivial
  ·rw [if_neg e2]
   have e:n=1:=by omega
   subst e
   have c:=a4 (by omega)
   have d2:Dn lt p 2:=fun i j hij hj=>by
    have:i=0:=by omega
    have:j=1:=by omega
    subst i; subst j; exact c
   obtain ⟨m,b1,b2,b3,b4⟩:=zCh O P (N - 2) 2 (by omega) (by omega) d2
   unfold kas_descPart
   refine zAD _ (zFd O P _ _ (by omega) (by omega)) ?_
   have b1':ev lt (kas_desc (N - (1+1)) p (1+1) 0)=(p,m,0):=b1
   rw [b1']
   dsimp only
   rw [if_neg (by omega)]
   unfold kas_tail3
   exact zAD _ (zCg (zCi P 0 m) _ _ (by omega) (by omega)) trivial
theorem zCj (P:Pm p N) {k:Nat} (hk:k < N):∀ (f l r:Nat),r<=k->vL lt N (kas_place p k f l r)
 | 0,l,r,_=>trivial
 | f+1,l,r,h=>by
  show vL lt N (if l >= r then KasT.ret l else .ask (p.getD k 0) (p.getD ((l+r) / 2) 0) fun c=>if c=true then kas_place p k f l ((l+r) / 2) else kas_place p k f ((l+r) / 2+1) r)
  by_cases hlr:l >= r
  ·rw [if_pos hlr]; trivial
  ·rw [if_neg hlr]
   refine ⟨P.lt hk,P.lt (by omega),P.ne hk (by omega) (by omega),?_⟩
   show vL lt N (if lt (gg p k) (gg p ((l+r) / 2))=true then kas_place p k f l ((l+r) / 2) else kas_place p k f ((l+r) / 2+1) r)
   split
   ·exact zCj P hk f l _ (by omega)
   ·exact zCj P hk f _ r h
theorem zCk (O:TotalOn lt N) (P:Pm p N) {k:Nat} (hk:k < N) (u:Up lt p k):∀ (f l r:Nat),l<=r->r<=k->r - l<=f->(∀ i,i < l->lt (gg p i) (gg p k)=true)->(∀ i,r<=i->i < k->lt (gg p k) (gg p i)=true) ->
  ev lt (kas_place p k f l r)<=k/\(∀ i,i < ev lt (kas_place p k f l r)->lt (gg p i) (gg p k)=true)/\∀ i,ev lt (kas_place p k f l r)<=i->i < k->lt (gg p k) (gg p i)=true
 | 0,l,r,h1,h2,h3,a,b=>by
  have:l=r:=by omega
  subst this
  exact ⟨h2,a,b⟩
 | f+1,l,r,h1,h2,h3,a,b=>by
  have e:ev lt (kas_place p k (f+1) l r)=ev lt (if l >= r then KasT.ret l else .ask (p.getD k 0) (p.getD ((l+r) / 2) 0) fun c=>if c=true then kas_place p k f l ((l+r) / 2) else kas_place p k f ((l+r) / 2+1) r):=rfl
  rw [e]
  by_cases hlr:l >= r
  ·rw [if_pos hlr]
   have:l=r:=by omega
   subst this
   exact ⟨h2,a,b⟩
  ·rw [if_neg hlr]
   have e2:ev lt (KasT.ask (p.getD k 0) (p.getD ((l+r) / 2) 0) fun c=>if c=true then kas_place p k f l ((l+r) / 2) else kas_place p k f ((l+r) / 2+1) r)=ev lt (if lt (gg p k) (gg p ((l+r) / 2))=true then kas_place p k f l ((l+r) / 2) else kas_place p k f ((l+r) / 2+1) r):=rfl
   rw [e2]
   generalize hm:(l+r) / 2=m
   have m1:l<=m:=by omega
   have m2:m < r:=by omega
   cases c:lt (gg p k) (gg p m) with
   | true =>
    rw [if_pos rfl]
    refine zCk O P hk u f l m m1 (by omega) (by omega) a fun i hi hik=>?_
    by_cases e3:i=m
    ·subst e3; exact c
    ·exact O.tr _ _ _ (P.lt hk) (P.lt (by omega)) (P.lt (by omega)) c (u m i (by omega) hik)
   | false =>
    rw [if_neg (by simp)]
    have c':=O.flip (P.lt hk) (P.lt (by omega)) (P.ne hk (by omega) (by omega)) c
    refine zCk O P hk u f (m+1) r (by omega) h2 (by omega) (fun i hi=>?_) b
    by_cases e3:i=m
    ·subst e3; exact c'
    ·exact O.tr _ _ _ (P.lt (by omega)) (P.lt (by omega)) (P.lt hk) (u i m (by omega) (by omega)) c'
theorem zFg {k d x:Nat} (hk:k < p.size) (hd:d<=k):gg (bubble p k d) x=if x=k - d then gg p k else if k - d < x/\x<=k then gg p (x - 1) else gg p x:=by
 have e:=getElem?_bubble hk d hd x
 have e0:∀ (q:Array Nat) (x:Nat),gg q x=(q[x]?).getD 0:=fun q x=>by simp [gg]
 rw [e0,e0,e0,e0,e]
 split
 ·rfl
 ·split <;> rfl
theorem zFh (O:TotalOn lt N):∀ (f:Nat) (p:Array Nat) (k:Nat),Pm p N->k+f=N->Up lt p k->Pm (ev lt (kas_bin f p k)) N/\Up lt (ev lt (kas_bin f p k)) N
 | 0,p,k,P,e,u=>by
  have:k=N:=by omega
  subst this
  exact ⟨P,u⟩
 | f+1,p,k,P,e,u=>by
  have e1:kas_bin (f+1) p k=(kas_place p k k 0 k).bind fun l=>kas_bin f (bubble p k (k - l)) (k+1):=rfl
  rw [e1,zAC]
  have hk:k < N:=by omega
  obtain ⟨a1,a2,a3⟩:=zCk O P hk u k 0 k (Nat.zero_le _) (Nat.le_refl _) (by omega) (fun i hi=>by omega) (fun i h1 h2=>by omega)
  generalize ev lt (kas_place p k k 0 k)=l at a1 a2 a3
  have hs:k < p.size:=by rw [P.size]; exact hk
  refine zFh O f _ (k+1) (P.perm (bubble_perm p k _)) (by omega) fun i j hij hj=>?_
  rw [zFg hs (by omega),zFg hs (by omega)]
  have ekl:k - (k - l)=l:=by omega
  rw [ekl]
  by_cases h1:i=l
  ·rw [if_pos h1,if_neg (by omega),if_pos (by omega)]
   exact a3 _ (by omega) (by omega)
  ·rw [if_neg h1]
   by_cases h2:l < i/\i<=k
   ·rw [if_pos h2,if_neg (by omega),if_pos (by omega)]
    exact u _ _ (by omega) (by omega)
   ·rw [if_neg h2]
    by_cases h3:j=l
    ·rw [if_pos h3]
     exact a2 i (by omega)
    ·rw [if_neg h3]
     by_cases h4:l < j/\j<=k
     ·rw [if_pos h4]
      by_cases h5:i=j - 1
      ·omega
      ·exact u _ _ (by omega) (by omega)
     ·rw [if_neg h4]
      exact u _ _ hij (by omega)
theorem zFi (O:TotalOn lt N):∀ (f:Nat) (p:Array Nat) (k:Nat),Pm p N->k+f=N->vL lt N (kas_bin f p k)
 | 0,p,k,P,e=>trivial
 | f+1,p,k,P,e=>by
  show vL lt N ((kas_place p k k 0 k).bind fun l=>kas_bin f (bubble p k (k - l)) (k+1))
  exact zAD _ (zCj P (by omega) _ _ _ (Nat.le_refl _)) (zFi O f _ (k+1) (P.perm (bubble_perm p k _)) (by omega))
theorem zKp (O:TotalOn lt N) (h2:2<=N):vL lt N (kas_sort N):=by
 have P0:Pm (List.toArray (List.range N)) N:=List.Perm.refl _
 obtain ⟨m,q,e,m1,m2,Pq,uq⟩:=zFf O P0 h2
 unfold kas_sort
 refine zAD _ (zKo O P0 h2) ?_
 rw [e]
 dsimp only
 by_cases hm:m < N
 ·rw [if_pos hm]
  have em:max m 1=m:=by omega
  rw [em]
  exact zFi O (N - m) q m Pq (by omega)
 ·rw [if_neg hm]; trivial
theorem zKq (O:TotalOn lt N) (h2:2<=N):Pm (ev lt (kas_sort N)) N/\Up lt (ev lt (kas_sort N)) N:=by
 have P0:Pm (List.toArray (List.range N)) N:=List.Perm.refl _
 obtain ⟨m,q,e,m1,m2,Pq,uq⟩:=zFf O P0 h2
 unfold kas_sort
 rw [zAC,e]
 dsimp only
 by_cases hm:m < N
 ·rw [if_pos hm]
  have em:max m 1=m:=by omega
  rw [em]
  exact zFh O (N - m) q m Pq (by omega) uq
 ·rw [if_neg hm]
  have:m=N:=by omega
  subst this
  exact ⟨Pq,uq⟩
end
end MyS
end
section
namespace MyS
open PySem PySem.W PyProof.Rows PySem.Spec
theorem zFj {α:Type}{N:Nat}{cmp:Nat->Nat->(Bool->Shared->Prop)->Shared->Prop}{lt:Nat->Nat->Bool}{s:Shared} (hc:∀ i j,i < N->j < N->i≠j->∀ C,C (lt i j) s->cmp i j C s) :
  ∀ (t:KasT α) (Q:α->Shared->Prop),vL lt N t->Q (ev lt t) s->t.kasWp cmp Q s
 | .ret a,Q,_,h=>h
 | .ask i j k,Q,o,h=>hc i j o.1 o.2.1 o.2.2.1 _ (zFj hc (k (lt i j)) Q o.2.2.2 h)
def keyAt (ks:List Str) (i:Nat):List Nat:=(ks.getD i ⟨#[]⟩).cps.toList
def kC (ks:List Str) (i j:Nat):Bool:=decide (keyAt ks i < keyAt ks j)
theorem Str_ext {a b:Str} (h:a.cps.toList=b.cps.toList):a=b:=by
 cases a; cases b
 congr 1
 exact Array.toList_inj.mp h
theorem zKr (a b:List Nat) (h1:¬ a < b) (h2:¬ b < a):a=b:=by
 have h1':b<=a:=List.not_lt.mp h1
 have h2':a<=b:=List.not_lt.mp h2
 exact List.le_antisymm h2' h1'
theorem zKs {ks:List Str} (nd:ks.Nodup):TotalOn (kC ks) ks.length where
 irr:=fun i _=>by simp [kC,List.lt_irrefl]
 tr:=fun i j k _ _ _ h1 h2=>by
  simp only [kC,decide_eq_true_eq] at *
  exact List.lt_trans h1 h2
 tot:=fun i j hi hj hne=>by
  simp only [kC,decide_eq_true_eq]
  by_cases h1:keyAt ks i < keyAt ks j
  ·exact .inl h1
  ·by_cases h2:keyAt ks j < keyAt ks i
   ·exact .inr h2
   ·exfalso
    have e:=zKr _ _ h1 h2
    unfold keyAt at e
    have e':=Str_ext e
    have e1:ks.getD i ⟨#[]⟩=ks[i]:=by simp [hi]
    have e2:ks.getD j ⟨#[]⟩=ks[j]:=by simp [hj]
    rw [e1,e2] at e'
    exact hne ((List.getElem_inj nd).mp e')
def kX (h:Heap) (a:Addr) (v:Value) (k:Str):Prop:=∃ b o t x n,v=Value.ref b/\b≠a/\h.get? b=some o/\o.cls=.type "tuple" /\ o.data=.seq #[.str k t,x] n
theorem kX.keep {h h':Heap}{a:Addr}{v:Value}{k:Str} (p:kX h a v k) (e:∀ b o,b≠a->h.get? b=some o->h'.get? b=some o):kX h' a v k:=by
 obtain ⟨b,o,t,x,n,h1,h2,h3,h4⟩:=p
 exact ⟨b,o,t,x,n,h1,h2,e b o h2 h3,h4⟩
section
variable {prog:Program}{w:World}{A:Around}{E:Value->Shared->Prop}{s:Shared}
theorem zKt {v u:Value}{k l:Str}{a:Addr}{C:Bool->Shared->Prop} (hv:kX s.heap a v k) (hu:kX s.heap a u l) (e:k≠l) (h:C (decide (k.cps.toList < l.cps.toList)) s) :
  wpAny (model prog w) A (keyLt' (tuples' true) v u) C E s:=by
 obtain ⟨b,o,t,x,n,h1,h2,h3,h4,h5⟩:=hv
 obtain ⟨b',o',t',x',n',h1',h2',h3',h4',h5'⟩:=hu
 subst h1; subst h1'
 refine kat_lt h3 h5 h3' h5' ?_
 have eb:(k == l)=false:=by simpa using e
 have q:=SeqAt.EqAt.str_str (A:=A) (s:=s) k t l t'
 rw [eb] at q
 refine kat_cons (q prog w _ _ (kat_no ?_))
 exact strKind_oneLt prog w A _ s (.str k t) (.str l t') k.cps.toList l.cps.toList rfl rfl h
end
section
variable {prog:Program}{w:World}{A:Around}{E:Value->Shared->Prop}{s:Shared}
theorem zFk {κ:SortKind}{a:Addr}{vs:List Value}{ks:List Str}{n:Nat}{P:PySem.Fin->Shared->Prop} (ho:s.heap.get? a=some (seqObj "list" vs.toArray n)) (hl:ks.length=vs.length) (nd:ks.Nodup) (h64:vs.length < 64)
  (hK:∀ G,(∀ b o,b≠a->s.heap.get? b=some o->G.get? b=some o)->2<=vs.length->∀ (Q:SortKind->Shared->Prop) (E':Value->Shared->Prop),Q κ { s with heap:=G }->wpAny (model prog w) A (keyKind' vs.toArray) Q E' { s with heap:=G })
  (hC:∀ G,(∀ b o,b≠a->s.heap.get? b=some o->G.get? b=some o)->∀ i j,i < vs.length->j < vs.length->i≠j->∀ C,C (kC ks i j) { s with heap:=G }->kas_ask prog w A κ vs i j C { s with heap:=G })
  (h:∀ (p:List Nat) (h':Heap) (e:Nat),p.Perm (List.range vs.length)->(p.map (keyAt ks)).Pairwise (· < ·)->(∀ b o,b≠a->s.heap.get? b=some o->h'.get? b=some o) ->
   h'.get? a=some (seqObj "list" (p.map fun i=>vs.getD i Value.none).toArray e)->P (.done (.ret .none)) { s with heap:=h' }) :
  wpAny (model prog w) A (Builtin.«list.sort» ⟨[.ref a],[]⟩) P E s:=by
 have ha:a < s.heap.objs.size:=Heap.lt_size ho
 rw [list_sort_plain]
 refine wpAny_bind (listItems_at ho rfl ?_)
 refine wpAny_bind (listUpdate_at ho rfl ?_ (by rw [List.size_toArray,sizeLine_eq]; omega) (Nat.zero_le _))
 obtain ⟨e1,ho1⟩:∃ e1,(s.heap.update a (Obj.mapSeq fun _=>(#[]:Array Value))).get? a=some (seqObj "list" #[] e1):=⟨_,get?_update_seq ho fun _=>#[]⟩
 refine wpAny_bind (seqEpoch_at ho1 rfl ?_)
 refine wpAny_bind (wpAny_newTuple ?_ (by rw [sizeLine_eq]; simp; omega))
 refine wpAny_bind (wpAny_newList ?_ (by simp))
 refine wpAny_holding ?_
 show wpAny (model prog w) A _ P E { s with heap:=((s.heap.update a (Obj.mapSeq fun _=>#[])).push (seqObj "tuple" vs.toArray 0)).push (seqObj "list" #[] 0) }
 generalize hG:((s.heap.update a (Obj.mapSeq fun _=>(#[]:Array Value))).push (seqObj "tuple" vs.toArray 0)).push (seqObj "list" #[] 0)=G
 have hG1:G.get? a=some (seqObj "list" #[] e1):=by
  rw [<- hG]
  exact Heap.get?_push_of_some _ (Heap.get?_push_of_some _ ho1)
 have hG2:∀ b o,b≠a->s.heap.get? b=some o->G.get? b=some o:=fun b o hb e=>by
  rw [<- hG]
  exact Heap.get?_push_of_some _ (Heap.get?_push_of_some _ ((Heap.get?_update_other _ _ (Ne.symm hb)).trans e))
 have hsz:vs.toArray.size=vs.length:=by simp
 have fin:∀ (p:List Nat) (out:Array Value) (hout:out=(p.map fun i=>vs.getD i Value.none).toArray),p.Perm (List.range vs.length)->(p.map (keyAt ks)).Pairwise (· < ·) ->
   P (.done (.ret .none)) { s with heap:=G.update a (Obj.mapSeq fun _=>out) }:=fun p out hout h1 h2=>by
  subst hout
  have e3:=get?_update_seq hG1 fun _=>(p.map fun i=>vs.getD i Value.none).toArray
  exact h p _ _ h1 h2 (fun b o hb e=>(Heap.get?_update_other _ _ (Ne.symm hb)).trans (hG2 b o hb e)) e3
 dsimp only
 by_cases h2:vs.toArray.size < 2
 ·rw [if_pos h2,if_pos h2]
  refine wpAny_bind (wpAny_pure ?_)
  rw [StateT.run_pure]
  refine wpAny_bind (wpAny_pure ?_)
  dsimp only
  refine wpAny_bind (seqEpoch_at hG1 rfl ?_)
  refine wpAny_bind (listUpdate_at hG1 rfl ?_ (by simp) (by
   show ((vs.toArray.zip vs.toArray).map (·.2)).size<=sizeLine+1
   rw [sizeLine_eq]; simp; omega))
  simp only [bne_self_eq_false,Bool.false_eq_true,if_false]
  refine wpAny_pure (fin (List.range vs.length) _ ?_ (List.Perm.refl _) ?_)
  ·show (vs.toArray.zip vs.toArray).map (·.2)=_
   match vs,h2 with
   | [],_=>simp
   | [v],_=>simp [List.range_succ]
   | _::_::_,h2=>simp at h2; omega
  ·have:vs.length < 2:=by simpa using h2
   match hv:vs.length,this with
   | 0,_=>simp
   | 1,_=>simp [List.range_succ]
 ·rw [if_neg h2,if_neg h2]
  have h2':2<=vs.length:=by simpa using h2
  refine wpAny_bind (hK G hG2 h2' _ _ ?_)
  show wpAny _ _ (StateT.run sortRuns' (SortSt.mk' κ (vs.toArray.zip vs.toArray) #[] 7 none) >>= _) _ _ _
  have O:=zKs nd
  rw [hl] at O
  obtain ⟨so1,so2⟩:=zKq O h2'
  refine wpAny_bind (wpAny_mono (kat_run (ks:=vs) (vs:=vs) (Q:=fun st' s'=>s'={ s with heap:=G }/\failedOf st'=none/\∃ p:Array Nat,Pm p vs.length/\Up (kC ks) p vs.length/\arrOf st'=p.map (kas_item (vs.toArray.zip vs.toArray)))
   (G:=fun p s'=>s'={ s with heap:=G }/\Pm p vs.length/\Up (kC ks) p vs.length) rfl h2' h64 (fun p st' s' _ q1 q2 q3=>⟨q3.1,q2,p,q3.2.1,q3.2.2,q1⟩) ?_) ?_ fun _ _ e=>e)
  ·refine zFj (N:=vs.length) (lt:=kC ks) (fun i j hi hj hij C hC'=>?_) _ _ (zKp O h2') ⟨rfl,so1,so2⟩
   exact hC G hG2 i j hi hj hij C hC'
  ·rintro ⟨⟨⟩,st'⟩ s' ⟨rfl,hf,p,q1,q2,q3⟩
   dsimp only
   have hout:=kat_snds (ks:=vs) (vs:=vs) rfl q3
   refine wpAny_bind (seqEpoch_at hG1 rfl ?_)
   refine wpAny_bind (listUpdate_at hG1 rfl ?_ (by simp) (by
    rw [hout,List.size_toArray,List.length_map,sizeLine_eq]
    have:=q1.size
    simp
    omega))
   rw [hf]
   simp only [bne_self_eq_false,Bool.false_eq_true,if_false]
   refine wpAny_pure (fin p.toList _ hout q1 ?_)
   rw [List.pairwise_map,List.pairwise_iff_getElem]
   intro i j hi hj hij
   have hi':i < p.size:=by simpa using hi
   have hj':j < p.size:=by simpa using hj
   have:=q2 i j hij (by rw [<- q1.size]; exact hj')
   rw [zAe hi',zAe hj'] at this
   simpa [kC] using this
end
section
variable {prog:Program}{w:World}{A:Around}{E:Value->Shared->Prop}{s:Shared}
theorem zKu {ks:List Str} (nd:ks.Nodup) {i j:Nat} (hi:i < ks.length) (hj:j < ks.length) (hij:i≠j):ks.getD i ⟨#[]⟩≠ks.getD j ⟨#[]⟩:=fun e=>by
 have e1:ks.getD i ⟨#[]⟩=ks[i]:=by simp [hi]
 have e2:ks.getD j ⟨#[]⟩=ks[j]:=by simp [hj]
 rw [e1,e2] at e
 exact hij ((List.getElem_inj nd).mp e)
theorem sort_pairs {a:Addr}{vs:List Value}{ks:List Str}{n:Nat}{P:PySem.Fin->Shared->Prop} (ho:s.heap.get? a=some (seqObj "list" vs.toArray n)) (hl:ks.length=vs.length)
  (hp:∀ (i:Nat) (v:Value),vs[i]?=some v->∃ k,ks[i]?=some k/\kX s.heap a v k) (nd:ks.Nodup) (h64:vs.length < 64)
  (h:∀ (p:List Nat) (h':Heap) (e:Nat),p.Perm (List.range vs.length)->(p.map (keyAt ks)).Pairwise (· < ·)->(∀ b o,b≠a->s.heap.get? b=some o->h'.get? b=some o) ->
   h'.get? a=some (seqObj "list" (p.map fun i=>vs.getD i Value.none).toArray e)->P (.done (.ret .none)) { s with heap:=h' }) :
  wpAny (model prog w) A (Builtin.«list.sort» ⟨[.ref a],[]⟩) P E s:=by
 have hpG:∀ G,(∀ b o,b≠a->s.heap.get? b=some o->G.get? b=some o)->∀ i,i < vs.length->kX G a (vs.getD i Value.none) (ks.getD i ⟨#[]⟩):=fun G hG i hi=>by
  obtain ⟨k,e,q⟩:=hp i vs[i] (List.getElem?_eq_getElem hi)
  have e1:vs.getD i Value.none=vs[i]:=by simp [hi]
  have e2:ks.getD i ⟨#[]⟩=k:=by rw [List.getD_eq_getElem?_getD,e]; rfl
  rw [e1,e2]
  exact q.keep hG
 refine zFk (κ:=tuples' true) ho hl nd h64 (fun G hG h2 Q E' hQ=>?_) (fun G hG i j hi hj hij C hC=>zKt (s:={ s with heap:=G }) (hpG G hG i hi) (hpG G hG j hj) (zKu nd (by omega) (by omega) hij) hC) h
 have go:∀ l:List Value,(∀ v∈l,∃ k,kX G a v k)->∃ fs,KatTups G l fs/\(∀ v∈fs,∃ k t,v=Value.str k t)/\fs.length=l.length:=by
  intro l
  induction l with
  | nil=>intro _; exact ⟨[],.nil,by simp,rfl⟩
  | cons v l ih =>
   intro hl
   obtain ⟨k,b,o,t,x,n,q1,q2,q3,q4,q5⟩:=hl v (List.mem_cons_self ..)
   obtain ⟨fs,f1,f2,f3⟩:=ih fun u hu=>hl u (List.mem_cons_of_mem _ hu)
   subst q1
   refine ⟨.str k t::fs,.cons q3 q4 q5 rfl f1,fun u hu=>?_,by simp [f3]⟩
   rcases List.mem_cons.mp hu with rfl | hu
   ·exact ⟨k,t,rfl⟩
   ·exact f2 u hu
 obtain ⟨fs,f1,f2,f3⟩:=go vs fun v hv=>by
  obtain ⟨i,hi,e⟩:=List.getElem_of_mem hv
  have:=hpG G hG i hi
  have e1:vs.getD i Value.none=v:=by simp [hi,e]
  rw [e1] at this
  exact ⟨_,this⟩
 refine kat_kind (s:={ s with heap:=G }) (T:=.type "str") f1 (by omega) (fun v hv=>?_) rfl hQ
 obtain ⟨k,t,rfl⟩:=f2 v hv
 exact .now
theorem sort_strs {a:Addr}{vs:List Value}{ks:List Str}{n:Nat}{P:PySem.Fin->Shared->Prop} (ho:s.heap.get? a=some (seqObj "list" vs.toArray n)) (hS:StrsAre vs ks) (nd:ks.Nodup) (h64:vs.length < 64)
  (h:∀ (p:List Nat) (h':Heap) (e:Nat),p.Perm (List.range vs.length)->(p.map (keyAt ks)).Pairwise (· < ·)->(∀ b o,b≠a->s.heap.get? b=some o->h'.get? b=some o) ->
   h'.get? a=some (seqObj "list" (p.map fun i=>vs.getD i Value.none).toArray e)->P (.done (.ret .none)) { s with heap:=h' }) :
  wpAny (model prog w) A (Builtin.«list.sort» ⟨[.ref a],[]⟩) P E s:=by
 have hlen:ks.length=vs.length:=by rw [<- hS.strs]; simp
 have hget:∀ i,i < vs.length->∃ t,vs.getD i Value.none=.str (ks.getD i ⟨#[]⟩) t:=fun i hi=>by
  obtain ⟨x,t,e⟩:=hS.all vs[i] (List.getElem_mem hi)
  refine ⟨t,?_⟩
  have e1:vs.getD i Value.none=vs[i]:=by simp [hi]
  have e2:ks.getD i ⟨#[]⟩=x:=by
   rw [<- hS.strs,List.getD_eq_getElem?_getD,List.getElem?_map,List.getElem?_eq_getElem hi,e]; rfl
  rw [e1,e2,e]
 refine zFk (κ:=oneType') ho hlen nd h64 (fun G hG h2 Q E' hQ=>?_) (fun G hG i j hi hj hij C hC=>?_) h
 ·obtain ⟨v₁,v₂,vI,rfl⟩:∃ v₁ v₂ vI,vs=v₁::v₂::vI:=by
   match vs,h2 with
   | v₁::v₂::vI,_=>exact ⟨v₁,v₂,vI,rfl⟩
  rw [keyKind_strs hS]
  exact wpAny_pure hQ
 ·obtain ⟨t,e⟩:=hget i hi
  obtain ⟨t',e'⟩:=hget j hj
  unfold kas_ask
  rw [e,e',keyLt'_oneType]
  exact strKind_oneLt prog w A _ _ _ _ _ _ rfl rfl hC
end
end MyS
end
section
namespace L2
open PySem PySem.Spec PyProof.Rows
def uE (H:Hp) (news:List (Addr × HO)):Hp:=fun b=>match news.lookup b with
 | some o=>some o
 | none=>H b
theorem zCl {H:Hp}{news:List (Addr × HO)}{b:Addr} (h:b ∉ news.map (·.1)):uE H news b=H b:=by
 unfold uE
 have:news.lookup b=none:=by
  induction news with
  | nil=>rfl
  | cons p r ih =>
   rw [List.map_cons,List.mem_cons,not_or] at h
   have hb:(b == p.1)=false:=by simpa using h.1
   obtain ⟨x,y⟩:=p
   rw [List.lookup_cons,hb]
   exact ih h.2
 rw [this]
theorem zFl {H:Hp}:∀ {news:List (Addr × HO)}{b:Addr}{o:HO},(news.map (·.1)).Nodup->(b,o)∈news->uE H news b=some o:=by
 intro news b o nd hm
 unfold uE
 have:news.lookup b=some o:=by
  induction news with
  | nil=>cases hm
  | cons p r ih =>
   obtain ⟨x,y⟩:=p
   rw [List.map_cons] at nd
   have nd':=List.nodup_cons.mp nd
   rcases List.mem_cons.mp hm with e | e
   ·have e1:b=x:=(Prod.mk.inj e).1
    have e2:o=y:=(Prod.mk.inj e).2
    subst e1; subst e2
    rw [List.lookup_cons_self]
   ·have hb:(b == x)=false:=by
     have:b≠x:=fun z=>nd'.1 (by rw [<- z]; exact List.mem_map_of_mem (f:=(·.1)) e)
     simpa using this
    rw [List.lookup_cons,hb]
    exact ih nd'.2 e
 rw [this]
theorem zKv {H:Hp}{news:List (Addr × HO)}{b:Addr}{o:HO} (h:uE H news b=some o):(b,o)∈news\/(b ∉ news.map (·.1)/\H b=some o):=by
 by_cases hb:b∈news.map (·.1)
 ·left
  unfold uE at h
  cases e:news.lookup b with
  | some u =>
   rw [e] at h
   have:u=o:=Option.some.inj h
   subst this
   clear h hb
   induction news with
   | nil=>cases e
   | cons p r ih =>
    obtain ⟨x,y⟩:=p
    rw [List.lookup_cons] at e
    cases hx:b == x with
    | true =>
     rw [hx] at e
     have e1:b=x:=by simpa using hx
     have e2:y=u:=Option.some.inj e
     subst e1; subst e2
     exact List.mem_cons_self ..
    | false =>
     rw [hx] at e
     exact List.mem_cons_of_mem _ (ih e)
  | none =>
   exfalso
   clear h
   induction news with
   | nil=>cases hb
   | cons p r ih =>
    obtain ⟨x,y⟩:=p
    rw [List.lookup_cons] at e
    cases hx:b == x with
    | true=>rw [hx] at e; cases e
    | false =>
     rw [hx] at e
     rw [List.map_cons,List.mem_cons] at hb
     rcases hb with z | z
     ·have:(b == x)=true:=by simpa using z
      rw [this] at hx; cases hx
     ·exact ih z e
 ·rw [zCl hb] at h
  exact .inr ⟨hb,h⟩
theorem zFm {H:Hp}{news:List (Addr × HO)} (hn:∀ p∈news,H p.1=none):zB H (uE H news):=fun b o e=>by
 rw [zCl fun z=>?_]
 ·exact e
 ·obtain ⟨p,hp,rfl⟩:=List.mem_map.mp z
  rw [hn p hp] at e; cases e
theorem yF.obj {P:Program}{w:World}{H:Hp}{h:Heap}{a:Addr}{o:HO} (x:yF P w H h a o):∃ u,h.get? a=some u:=by
 cases o with
 | lst xs=>obtain ⟨_,_,_,_,e⟩:=x; exact ⟨_,e⟩
 | tup xs=>obtain ⟨_,_,_,_,e,_⟩:=x; exact ⟨_,e⟩
 | dK kvs=>obtain ⟨_,_,_,_,o,_,_,e,_⟩:=x; exact ⟨_,e⟩
 | dT kvs=>obtain ⟨_,_,_,_,o,_,_,e,_⟩:=x; exact ⟨_,e⟩
 | set S n=>obtain ⟨o,_,_,_,e,_⟩:=x; exact ⟨_,e⟩
 | ins C dx fs=>obtain ⟨_,_,_,e,_⟩:=x; exact ⟨_,e⟩
 | own y=>exact x
 | xd fs=>obtain ⟨_,⟨_,_,_,e,_⟩,_⟩:=x; exact ⟨_,e⟩
 | rng lo hi=>obtain ⟨_,_,_,e⟩:=x; exact ⟨_,e⟩
 | frz ob u=>obtain ⟨e,_⟩:=x; exact ⟨_,e⟩
 | tbl ps=>exact ⟨_,(show h.get? a=some _ from x)⟩
 | met f y=>exact ⟨_,(show h.get? a=some _ from x)⟩
 | ext φ=>obtain ⟨_,e,_⟩:=x; exact e
theorem z6.free {P:Program}{w:World}{H:Hp}{h:Heap}{a:Addr} (x:z6 P w H h) (e:h.get? a=none):H a=none:=by
 cases q:H a with
 | none=>rfl
 | some u =>
  obtain ⟨v,hv⟩:=(x a u q).obj
  rw [hv] at e; cases e
section
variable {X:Cx}{pins:List (Addr × Obj)}{σ:St}{H:Hp}{s:Shared}
theorem Inv.many {h':Heap}{t':Nat}{news:List (Addr × HO)} (I:Inv X pins σ H s) (k:∀ b u,s.heap.get? b=some u->h'.get? b=some u) (hge:∀ p∈news,s.heap.get? p.1=none)
  (new:∀ p∈news,yF X.prog X.w (uE H news) h' p.1 p.2):Inv X pins σ (uE H news) { s with heap:=h',toks:=t' }:=by
 have hn:∀ p∈news,H p.1=none:=fun p hp=>I.hok.free (hge p hp)
 have sm:=zFm hn
 have hold:∀ b (o:Obj),s.heap.get? b=some o->uE H news b=H b:=fun b o e=>zCl fun z=>by
  obtain ⟨p,hp,rfl⟩:=List.mem_map.mp z
  rw [hge p hp] at e; cases e
 refine I.un (H':=uE H news) ⟨fun b o e _ _ _=>k b o e,fun b o e _ _ _=>⟨o.slots,k b o e⟩,fun b o e n _=>by rw [hold b o e]; exact n,fun b o e _=>⟨o,k b o e⟩,fun b xs e=>sm b _ e,fun b o u e=>sm b _ e,fun b ps e=>⟨#[],by rw [sm b _ e]; simp⟩⟩ fun b u e=>?_
 rcases zKv e with z | ⟨_,z⟩
 ·exact new (b,u) z
 ·exact (I.hok b u z).stay (fun c v _ q=>k c v q) (fun c q=>sm c _ q) fun c xs q=>sm c _ q
end
def zFn (d:Addr):Obj:={ cls:=.type "dict_items",data:=.fields #[.ref d] }
def VW (p d:Addr):HO:=.ext fun h=>h.get? p=some (zFn d)
section
variable {X:Cx}
def zKw:V->List V->Hp->VK->Prop:=fun x vs H Q=>∃ d kvs,x=.ref d/\vs=[]/\H d=some (.dK kvs)/\∀ p,H p=none->Q (.ref p) (upd H p (VW p d))
theorem zFo:gN X "dict.items" zKw:=by
 intro pins s σ H x vs v us Q I rx rv h
 obtain ⟨d,kvs,rfl,rfl,hd,q⟩:=h
 cases rx
 have hus:=rv.zero
 subst hus
 obtain ⟨z,hm,ws,rel,dd⟩:=kU I.hok hd
 refine call_meetsIn PySem.F.slot_dict_items dd.typeIs PySem.F.entry_dict_items (PySem.F.args_dict_items_1 _) (meets_dict_items (vP X.prog X.w) d hm) ⟨⟨_,dd⟩,?_⟩
 refine ⟨.ref s.heap.objs.size,_,I.laid (t':=s.toks) (o:=VW s.heap.objs.size d) (fun b o e=>Heap.get?_push_of_some _ e) (Nat.le_refl _) ?_,rfl,q _ (I.hok.fresh (Nat.le_refl _))⟩
 exact ⟨Heap.get?_push_size _ rfl,⟨_,Heap.get?_push_size _ rfl⟩,fun h1 h2 e k=>k _ e⟩
abbrev q8 (kvs:List (Str × V)):List (zV × V):=kvs.map fun q=>(Sum.inr q.1,q.2)
theorem KV.get {kvs:List (zV × V)}{vs:List (zV × Value)}:∀ {i:Nat}{k:zV}{x:Value},KV kvs vs->vs[i]?=some (k,x)->∃ v,kvs[i]?=some (k,v)/\zT v x:=by
 intro i k x r
 induction r generalizing i with
 | nil=>intro e; simp at e
 | cons h t ih =>
  intro e
  cases i with
  | zero =>
   have e':=Option.some.inj (by simpa using e)
   rename_i p q _ _
   obtain ⟨p1,p2⟩:=p
   subst e'
   have h1:p1=k:=h.1
   subst h1
   exact ⟨p2,rfl,h.2⟩
  | succ i =>
   obtain ⟨v,e1,e2⟩:=ih (by simpa using e)
   exact ⟨v,by simpa using e1,e2⟩
def zKx:List V->Hp->VK->Prop:=fun xs H Q=>∃ p d kvs,xs=[.ref p]/\H p=some (VW p d)/\H d=some (.dK (q8 kvs))/\(kvs.map (·.1)).Nodup/\kvs.length < 64 /\
 ∀ (out:List (Str × V)) (l:Addr) (ts:List V) (H':Hp),out.Perm kvs->out.Pairwise (fun a b=>a.1.cps.toList < b.1.cps.toList)->zB H H'->H' l=some (.lst ts)->H l=none->ts.length=out.length ->
  (∀ (i:Nat) (q:Str × V),out[i]?=some q->∃ a,ts[i]?=some (.ref a)/\H a=none/\H' a=some (.tup [.str q.1,q.2]))->Q (.ref l) H'
theorem zKy (hc:X.calm=true):qF X (.builtin "sorted") zKx:=by
 intro pins s σ H xs us Q I rx h
 obtain ⟨p,d,kvs,rfl,hp,hd,nd,h64,q⟩:=h
 obtain ⟨u,rfl,ru⟩:=uU rx
 cases ru
 obtain ⟨z,hm,ws,rel,dd⟩:=kU I.hok hd
 obtain ⟨hv,_,_⟩:=I.hok p _ hp
 have hlen:ws.length=kvs.length:=by have:=rel.length; simpa using this.symm
 obtain ⟨ep,hat⟩:=dd.dictAt
 refine Calls.call_function_entry kind_sorted plain_sorted entry_sorted (args_sorted1 _) ?_
 unfold Builtin.«sorted»
 refine wpAny_bind (m:=checkCount "sorted" 1 1 _) (wpAny_pure ?_)
 refine wpAny_bind (PySem.W.kdx_collect (A:=X.A.in1) (knd:=vP X.prog X.w) (kvs:=ws) (ep:=ep) (I.ok.hd hc) ⟨_,hv,rfl,rfl⟩ hat (by rw [hlen,sizeLine_eq]; omega) fun h' tk as hk hl hG=>?_)
 have hasl:as.length=kvs.length:=hl.trans hlen
 refine wpAny_bind (wpAny_newList ?_ (by rw [List.length_map,hasl,sizeLine_eq]; omega))
 generalize hB:h'.objs.size=B
 have hoL:(h'.push { cls:=.type "list",data:=.seq (as.map Value.ref).toArray }).get? B=some (seqObj "list" (as.map Value.ref).toArray 0):=by
  rw [<- hB]; exact Heap.get?_push_size _ rfl
 have asB:∀ a∈as,a≠B:=fun a ha=>by rw [<- hB]; exact Nat.ne_of_lt (hG.there ha)
 have hpair:∀ (i:Nat) (a:Addr),as[i]?=some a->∃ (q:Str × V) (t:Tok) (x:Value),kvs[i]?=some q/\zT q.2 x/\h'.get? a=some { cls:=.type "tuple",data:=.seq #[.str q.1 t,x] }:=fun i a e=>by
  obtain ⟨key,k,x,e1,e2,e3⟩:=hG.pairs i a e
  obtain ⟨v,f1,f2⟩:=rel.get e1
  rw [List.getElem?_map] at f1
  cases g:kvs[i]? with
  | none=>rw [g] at f1; cases f1
  | some q =>
   rw [g] at f1
   have f1':((Sum.inr q.1:zV),q.2)=(k,v):=Option.some.inj f1
   obtain ⟨g1,g2⟩:=Prod.mk.inj f1'
   subst g1; subst g2
   have e2':jN (Sum.inr q.1) key=true:=e2
   rcases qP e2' with ⟨j,t,z1,_⟩ | ⟨y,t,z1,z2⟩
   ·cases z1
   ·have:q.1=y:=Sum.inr.inj z1
    subst this; subst z2
    exact ⟨q,t,x,rfl,f2,e3⟩
 refine wpAny_bind (wpAny_holding (wpAny_call_entry slot_list_sort ⟨_,hoL,rfl⟩ entry_list_sort (MyS.sort_pairs (ks:=kvs.map (·.1)) hoL (by simp [hasl]) (fun i v e=>?_) nd (by simpa [hasl] using h64) fun pm h2 e2 hp1 hp2 hk2 ho2=>⟨_,rfl,?_⟩) (args_list_sort _)))
 ·rw [List.getElem?_map] at e
  cases g:as[i]? with
  | none=>rw [g] at e; cases e
  | some a =>
   rw [g] at e
   have e':v=.ref a:=(Option.some.inj e).symm
   subst e'
   obtain ⟨q,t,x,f1,f2,f3⟩:=hpair i a g
   have ha:a∈as:=List.mem_of_getElem? g
   exact ⟨q.1,by rw [List.getElem?_map,f1]; rfl,a,_,t,x,0,rfl,asB a ha,Heap.get?_push_of_some _ f3,rfl,rfl⟩
 ·refine wpAny_pure ⟨_,rfl,?_⟩
  have hpl:pm.length=kvs.length:=by have:=hp1.length_eq; simpa [hasl] using this
  have pmlt:∀ i∈pm,i < kvs.length:=fun i hi=>by
   have:=(hp1.mem_iff).mp hi
   simpa [hasl] using this
  have hold:∀ b o,s.heap.get? b=some o->h2.get? b=some o:=fun b o e=>by
   have e1:=hk b o e
   refine hk2 b o ?_ (Heap.get?_push_of_some _ e1)
   rw [<- hB]; exact Nat.ne_of_lt (Heap.lt_size e1)
  have dflt:Str × V:=(⟨#[]⟩,.non)
  let out:List (Str × V):=pm.map fun i=>kvs.getD i (⟨#[]⟩,.non)
  let ts:List V:=pm.map fun i=>V.ref (as.getD i 0)
  let news:List (Addr × HO):=(B,.lst ts)::(List.range kvs.length).map fun i=>(as.getD i 0,.tup [.str (kvs.getD i (⟨#[]⟩,.non)).1,(kvs.getD i (⟨#[]⟩,.non)).2])
  have asget:∀ i,i < kvs.length->as[i]?=some (as.getD i 0):=fun i hi=>by
   have hi':i < as.length:=by omega
   simp [hi']
  have kvget:∀ i,i < kvs.length->kvs[i]?=some (kvs.getD i (⟨#[]⟩,.non)):=fun i hi=>by simp [hi]
  have asnd:as.Nodup:=hG.rise.imp fun {a b} hab=>Nat.ne_of_lt hab
  have hnd:(news.map (·.1)).Nodup:=by
   show (B::((List.range kvs.length).map fun i=>(as.getD i 0,HO.tup [.str (kvs.getD i (⟨#[]⟩,.non)).1,(kvs.getD i (⟨#[]⟩,.non)).2])).map (·.1)).Nodup
   rw [List.map_map]
   refine List.nodup_cons.mpr ⟨fun hm=>?_,?_⟩
   ·obtain ⟨i,hi,e⟩:=List.mem_map.mp hm
    have e':as.getD i 0=B:=e
    exact asB _ (List.mem_of_getElem? (asget i (List.mem_range.mp hi))) e'
   ·rw [List.Nodup,List.pairwise_map,List.pairwise_iff_getElem]
    intro i j hi hj hij e
    simp only [List.length_range] at hi hj
    simp only [List.getElem_range] at e
    have e':as.getD i 0=as.getD j 0:=e
    have hi':i < as.length:=by omega
    have hj':j < as.length:=by omega
    have e1:as.getD i 0=as[i]:=by simp [hi']
    have e2:as.getD j 0=as[j]:=by simp [hj']
    rw [e1,e2] at e'
    have:=(List.getElem_inj asnd).mp e'
    omega
  have hfr:∀ q∈news,s.heap.get? q.1=none:=fun q hq=>by
   rcases List.mem_cons.mp hq with e | e
   ·rw [e]
    cases g:s.heap.get? B with
    | none=>rfl
    | some o =>
     have h0:=Heap.lt_size (hk B o g)
     rw [hB] at h0
     exact absurd h0 (Nat.lt_irrefl _)
   ·obtain ⟨i,hi,e'⟩:=List.mem_map.mp e
    rw [<- e']
    exact Heap.get?_none_of_le (Nat.le_of_lt (hG.above _ (List.mem_of_getElem? (asget i (List.mem_range.mp hi)))))
  have hH:∀ q∈news,H q.1=none:=fun q hq=>I.hok.free (hfr q hq)
  have tupM:∀ i,i < kvs.length->(as.getD i 0,HO.tup [.str (kvs.getD i (⟨#[]⟩,.non)).1,(kvs.getD i (⟨#[]⟩,.non)).2])∈news:=fun i hi =>
   List.mem_cons_of_mem _ (List.mem_map.mpr ⟨i,List.mem_range.mpr hi,rfl⟩)
  have IM:Inv X pins σ (uE H news) { s with heap:=h2,toks:=tk }:=by
   refine I.many hold hfr fun q hq=>?_
   rcases List.mem_cons.mp hq with e | e
   ·subst e
    refine ⟨?_,(pm.map fun i=>(as.map Value.ref).getD i Value.none),_,?_,ho2⟩
    ·show (pm.map _).length<=_
     rw [List.length_map,hpl,sizeLine_eq]; omega
    ·have go:∀ l:List Nat,(∀ i∈l,i < kvs.length)->zM (l.map fun i=>V.ref (as.getD i 0)) (l.map fun i=>(as.map Value.ref).getD i Value.none):=by
      intro l
      induction l with
      | nil=>intro _; exact .nil
      | cons i l ih =>
       intro hl
       have hi:i < as.length:=by have:=hl i (List.mem_cons_self ..); omega
       refine .cons ?_ (ih fun j hj=>hl j (List.mem_cons_of_mem _ hj))
       show (as.map Value.ref).getD i Value.none=Value.ref (as.getD i 0)
       simp [hi]
     exact go pm pmlt
   ·obtain ⟨i,hi,e'⟩:=List.mem_map.mp e
    have hi':=List.mem_range.mp hi
    subst e'
    obtain ⟨q,t,x,f1,f2,f3⟩:=hpair i _ (asget i hi')
    rw [kvget i hi'] at f1
    have f1':=Option.some.inj f1
    refine ⟨by show 2<=sizeLine; decide,[.str q.1 t,x],?_,?_⟩
    ·rw [f1']
     exact .cons ⟨t,rfl⟩ (.cons f2 .nil)
    ·refine ⟨_,hk2 _ _ (asB _ (List.mem_of_getElem? (asget i hi'))) (Heap.get?_push_of_some _ f3),rfl,0,rfl⟩
  refine ⟨.ref B,uE H news,IM,rfl,q out B ts (uE H news) ?_ ?_ (zFm hH) (zFl hnd (List.mem_cons_self ..)) (hH _ (List.mem_cons_self ..)) (by simp [out,ts]) fun i q' e=>?_⟩
  ·
   have e1:(List.range kvs.length).map (fun i=>kvs.getD i (⟨#[]⟩,.non))=kvs:=by
    apply List.ext_getElem
    ·simp
    ·intro i h1 h2
     have hi:i < kvs.length:=by simpa using h1
     simp [hi]
   have:=(by simpa [hasl] using hp1:pm.Perm (List.range kvs.length)).map (fun i=>kvs.getD i (⟨#[]⟩,.non))
   rw [e1] at this
   exact this
  ·show (pm.map fun i=>kvs.getD i (⟨#[]⟩,.non)).Pairwise _
   rw [List.pairwise_map]
   rw [List.pairwise_map] at hp2
   refine List.Pairwise.imp_of_mem ?_ hp2
   intro i j hi hj hij
   have e1:MyS.keyAt (kvs.map (·.1)) i=(kvs.getD i (⟨#[]⟩,.non)).1.cps.toList:=by
    have:=pmlt i hi
    simp [MyS.keyAt,this]
   have e2:MyS.keyAt (kvs.map (·.1)) j=(kvs.getD j (⟨#[]⟩,.non)).1.cps.toList:=by
    have:=pmlt j hj
    simp [MyS.keyAt,this]
   rw [e1,e2] at hij
   exact hij
  ·have e':(pm.map fun i=>kvs.getD i (⟨#[]⟩,.non))[i]?=some q':=e
   rw [List.getElem?_map] at e'
   cases g:pm[i]? with
   | none=>rw [g] at e'; cases e'
   | some j =>
    rw [g] at e'
    have hj:=pmlt j (List.mem_of_getElem? g)
    have e2:kvs.getD j (⟨#[]⟩,.non)=q':=Option.some.inj e'
    refine ⟨as.getD j 0,?_,hH _ (tupM j hj),?_⟩
    ·show (pm.map fun i=>V.ref (as.getD i 0))[i]?=_
     rw [List.getElem?_map,g]; rfl
    ·rw [<- e2]
     exact zFl hnd (tupM j hj)
end
end L2
end
section
namespace L2
open PySem PySem.Spec PyProof.Rows
def Its (z:Str):It:=⟨fun i _=>i < z.cps.size,fun i H x H'=>H'=H/\∃ c,z.cps[i]?=some c/\x=.str ⟨#[c]⟩,fun i _=>i=z.cps.size⟩
theorem zFp {P:Program}{w:World}{K:PySem.W.Frag}{tg:Expr} (it:Addr) (z:Str) (t:Tok) (ty:String) (hno:["enumerate", "zip", "dict_itemiterator", "dict_reverseitemiterator", "odict_iterator", "itertools.zip_longest", "itertools.pairwise"].contains ty=false)
  (hW:∀ A:Around,A.handled=none->Walks P w A it [it] [it] z.cps.size (SignAt z) (fun i h=>h.IsStrIter it ty z t i))
  (hS:∀ (A:Around) (i:Nat) (s:Shared) (Q:Value->Shared->Prop) (E:Value->Shared->Prop),s.heap.IsStrIter it ty z t i->Q (.ref it) s->wpAny (model P w) A (pyIter (.ref it)) Q E s):Turn P w K tg (Its z) [it] it (fun i h=>h.IsStrIter it ty z t i) where
 mem:=by simp
 obj:=fun i h st b hb=>by
  have e:b=it:=by simpa using hb
  subst e
  obtain ⟨o,e,c,d⟩:=st
  exact ⟨o,e,fun v z=>by rw [d] at z; cases z⟩
 keep:=fun i h h' st k=>let ⟨o,e,r⟩:=st; ⟨o,k it (by simp) o e,r⟩
 item:=by
  intro X hP hw hK hc i pins s σ H E I hf st hg
  subst hP hw hK
  obtain ⟨f0,f1,f2,f3,f4,f5⟩:=hf it (by simp)
  refine (hW X.A (I.ok.hd hc)).item i s _ _ hg st fun v h' tk hv st' kk=>?_
  obtain ⟨c,u,hcu,rfl⟩:=hv
  have I1:Inv X pins σ H { s with heap:=h',toks:=tk }:=I.turned (fun b o hb e=>kk b o (by simpa using hb) e) f0 f1 f3 f4 f5
  obtain ⟨o,e,oc,od⟩:=id st'
  exact ⟨_,rfl,zBC (s:={ s with heap:=h',toks:=tk }) e oc od hno ⟨.str ⟨#[c]⟩,H,I1,⟨u,rfl⟩,⟨rfl,c,hcu,rfl⟩,st',fun b hb=>(hf b hb).1⟩⟩
 done:=by
  intro X hP hw hK hc i pins s σ H E I hf st hg
  subst hP hw hK
  obtain ⟨f0,f1,f2,f3,f4,f5⟩:=hf it (by simp)
  have hi:i=z.cps.size:=hg
  subst hi
  exact (hW X.A (I.ok.hd hc)).done s _ _ st fun h' tk kk=>⟨rfl,I.turned (fun b o hb e=>kk b o (by simpa using hb) e) f0 f1 f3 f4 f5⟩
 self:=hS
section
variable {X:Cx}{tg:Expr}
def zKz (tl:TE):TI:=fun σ H R=>tl σ H fun x H1=>∃ z,x=.str z/\R (Its z) H1
theorem zFq {l:Expr}{tl:TE} (hl:PE X l tl):PI X tg l (zKz tl):=by
 intro pins s σ H R I h
 refine zJ (hl pins s σ H _ I h) fun v s1 ⟨x,H1,I1,r1,z,ez,q⟩=>?_
 subst ez
 obtain ⟨t,rfl⟩:=r1
 have hn:∀ b∈[s1.heap.objs.size],qE X pins H1 b:=fun b hb=>by
  have e:b=s1.heap.objs.size:=by simpa using hb
  subst e
  exact I1.fpOk (Nat.le_refl _) (I1.hok.fresh (Nat.le_refl _))
 cases ha:z.cps.all (· < 128) with
 | false =>
  refine wpAny_pyIter_wide ha ⟨s1.heap.objs.size,[s1.heap.objs.size],_,_,H1,rfl,I1.kept (t':=s1.toks) fun b o e=>Heap.get?_push_of_some _ e,zFp _ z t "str_iterator" (by decide) (fun A hA=>Walks.strWide hA _ z t) (fun A i s Q E st h=>wpAny_pyIter_striter_wide st h),⟨_,Heap.get?_push_size _ rfl,rfl,rfl⟩,hn,q⟩
 | true =>
  refine wpAny_pyIter_ascii ha ⟨s1.heap.objs.size,[s1.heap.objs.size],_,_,H1,rfl,I1.kept (t':=s1.toks) fun b o e=>Heap.get?_push_of_some _ e,zFp _ z t "str_ascii_iterator" (by decide) (fun A hA=>Walks.strAscii hA _ z t) (fun A i s Q E st h=>wpAny_pyIter_striter_ascii st h),⟨_,Heap.get?_push_size _ rfl,rfl,rfl⟩,hn,q⟩
end
theorem zLA (lo hi:Option Int) (n:Nat):Builtin.Str.strSliceIndices lo hi 1 n=Builtin.Str.strSliceIndices (some ((HT.sIx n 0 lo:Nat):Int)) (some ((HT.sIx n n hi:Nat):Int)) 1 n:=by
 have hl:=HT.sIx_le n 0 (Nat.zero_le _) lo
 have hh:=HT.sIx_le n n (Nat.le_refl _) hi
 have key:∀ (o:Option Int) (d:Nat),d<=n->(match o with | none=>(d:Int) | some i=>(let i:=if i < 0 then i+(n:Int) else i; max 0 (min i (n:Int))))=((HT.sIx n d o:Nat):Int):=by
  intro o d hd
  cases o with
  | none=>rfl
  | some i =>
   show max 0 (min (if i < 0 then i+(n:Int) else i) (n:Int))=(((if i < 0 then (i+(n:Int)).toNat else min i.toNat n):Nat):Int)
   by_cases h:i < 0
   ·rw [if_pos h,if_pos h]; omega
   ·rw [if_neg h,if_neg h]; omega
 have e1:=key lo 0 (Nat.zero_le _)
 have e2:=key hi n (Nat.le_refl _)
 have k1:max (0:Int) (min ((HT.sIx n 0 lo:Nat):Int) (n:Int))=((HT.sIx n 0 lo:Nat):Int):=by omega
 have k2:max (0:Int) (min ((HT.sIx n n hi:Nat):Int) (n:Int))=((HT.sIx n n hi:Nat):Int):=by omega
 have n1:¬ (((HT.sIx n 0 lo:Nat):Int) < 0):=by omega
 have n2:¬ (((HT.sIx n n hi:Nat):Int) < 0):=by omega
 unfold Builtin.Str.strSliceIndices
 simp only [show ((1:Int) > 0)=True from by simp,if_true,n1,n2,if_false,k1,k2]
 have z1:∀ i:Int,(max 0 (min (if i < 0 then i+(n:Int) else i) (n:Int)))=((HT.sIx n 0 (some i):Nat):Int):=fun i=>key (some i) 0 (Nat.zero_le _)
 have z2:∀ i:Int,(max 0 (min (if i < 0 then i+(n:Int) else i) (n:Int)))=((HT.sIx n n (some i):Nat):Int):=fun i=>key (some i) n (Nat.le_refl _)
 have w1:((HT.sIx n 0 none:Nat):Int)=0:=rfl
 have w2:((HT.sIx n n none:Nat):Int)=n:=rfl
 cases lo with
 | none =>
  cases hi with
  | none=>rfl
  | some j=>dsimp only; rw [z2,w1]
 | some i =>
  cases hi with
  | none=>dsimp only; rw [z1,w2]
  | some j =>
   dsimp only
   have zz:=z1 i
   rw [zz]
   rw [z2]
theorem zLB (x:Str) (lo hi:Option Int):Txt.slice x lo hi=⟨((x.cps.toList.drop (HT.sIx x.length 0 lo)).take (HT.sIx x.length x.length hi - HT.sIx x.length 0 lo)).toArray⟩:=by
 have hl:=HT.sIx_le x.length 0 (Nat.zero_le _) lo
 have hh:=HT.sIx_le x.length x.length (Nat.le_refl _) hi
 unfold Txt.slice
 rw [zLA lo hi]
 generalize HT.sIx x.length 0 lo=a at *
 generalize HT.sIx x.length x.length hi=b at *
 have hlen:x.cps.toList.length=x.length:=by simp [Str.length]
 by_cases hab:a<=b
 ·have sp:=StrLaws.sliced_plain x hab hh
  split
  ·rename_i h
   rw [StrLaws.strSliceIndices_plain hab hh] at h
   have h':b - a=x.length:=by simpa using h
   have ha:a=0:=by omega
   have hb:b=x.cps.toList.length:=by omega
   subst ha
   apply MyS.Str_ext
   show x.cps.toList=((x.cps.toList.drop 0).take (b - 0)).toArray.toList
   rw [List.drop_zero,Nat.sub_zero,hb,List.take_length]
  ·rw [sp]
 ·have hb:b - a=0:=by omega
  have e:Builtin.Str.strSliceIndices (some (a:Int)) (some (b:Int)) 1 x.length=[]:=by
   have h1:¬ ((a:Int) < 0):=by omega
   have h2:¬ ((b:Int) < 0):=by omega
   have e1:max (0:Int) (min (a:Int) (x.length:Int))=a:=by omega
   have e2:max (0:Int) (min (b:Int) (x.length:Int))=b:=by omega
   simp only [Builtin.Str.strSliceIndices,sliceRange,h1,h2,if_false,e1,e2,show ((1:Int) > 0)=True from by simp,if_true]
   rw [if_neg (by omega)]
   rfl
  rw [e,hb]
  split
  ·rename_i h
   have h':0=x.length:=by simpa using h
   omega
  ·simp
section
variable {X:Cx}{e:Expr}{te:TE}{lo hi:Option Expr}{tl th:TO}{pos p2:Pos}
def kY (z:Str) (lo hi:Option Int):Str:=⟨((z.cps.toList.drop (HT.sIx z.length 0 lo)).take (HT.sIx z.length z.length hi - HT.sIx z.length 0 lo)).toArray⟩
def zLC (te:TE) (tl th:TO):TE:=fun σ H Q=>te σ H fun x H1=>tl σ H1 fun l H2=>th σ H2 fun u H3=>∃ z,x=.str z/\z.length<=sizeLine/\Q (.str (kY z l u)) H3
theorem zAf (he:PE X e te) (hl:PO X lo tl) (hu:PO X hi th):PE X (.Subscript e (.Slice lo hi none p2) pos) (zLC te tl th):=by
 intro pins s σ H Q I h
 refine Subscript_ (zJ (he pins s σ H _ I h) fun v s1 ⟨x,H1,I1,r1,q1⟩=>?_)
 refine wpAny_Slice (zJ (hl pins s1 σ H1 _ I1 q1) fun vl s2 ⟨l,H2,I2,pl,q2⟩=>zJ (hu pins s2 σ H2 _ I2 q2) fun vu s3 ⟨u,H3,I3,pu,q3⟩=>?_)
 rw [evalPart_none]
 refine wpAny_pure ?_
 obtain ⟨z,rfl,hz,q⟩:=q3
 obtain ⟨t,rfl⟩:=r1
 have hk:KeptH (fun h=>∀ b o,s3.heap.get? b=some o->h.get? b=some o):=fun h ob hP b o q=>Heap.get?_push_of_some _ (hP b o q)
 have fin:∀ h' t' k,(∀ b o,s3.heap.get? b=some o->h'.get? b=some o)->EP X pins σ Q (.str (Txt.slice z l u) t') { s3 with heap:=h',toks:=k }:=fun h' t' k hP=>by
  refine ⟨.str (kY z l u),H3,I3.kept hP,⟨t',?_⟩,q⟩
  rw [zLB]; rfl
 have go:ItemOn (model X.prog X.w) X.A X.xe (.str z t) (.ref s3.heap.objs.size) (EP X pins σ Q) { s3 with heap:=s3.heap.push { cls:=.type "slice",data:=.fields #[vl,vu,.none] } }:=by
  cases pl with
  | none =>
   cases pu with
   | none=>exact SBH.sliceItem_nn hk (fun _ _ q=>q) fin hz
   | int j uj=>exact SBH.sliceItem_ns hk (fun _ _ q=>q) fin hz
  | int i ui =>
   cases pu with
   | none=>exact SBH.sliceItem_sn hk (fun _ _ q=>q) fin hz
   | int j uj=>exact SBH.sliceItem_ss hk (fun _ _ q=>q) fin hz
 obtain ⟨T,id,hT,ht,hg⟩:=go
 exact tail_any (ops:=[.ref s3.heap.objs.size,.str z t]) ht hT hg (by with_unfolding_all rfl)
end
section
variable {X:Cx}
theorem gP (hc:X.calm=true):qF X (.builtin "all") (fun xs H Q=>∃ (p:Addr) (bs:List Bool),xs=[.ref p]/\yC X.K H p (bs.map V.bl)/\Q (.bl (bs.all id)) H):=by
 intro pins s σ H xs us Q I r h
 obtain ⟨p,bs,rfl,hq,q⟩:=h
 obtain ⟨u,rfl,ru⟩:=uU r
 cases ru
 obtain ⟨its,rv,pl,hz⟩:=I.list hq
 have hp:p≠s.heap.objs.size:=by
  obtain ⟨o,n,e,_⟩:=pl
  exact Nat.ne_of_lt (Heap.lt_size e)
 have vget:∀ (i:Nat) (v:Value),its.toArray[i]?=some v->v=.bool (bs.getD i false):=fun i v e=>by
  have e':its[i]?=some v:=by simpa using e
  have hl:=rv.length
  have hi:i < bs.length:=by
   have:=(List.getElem?_eq_some_iff.mp e').1
   simp at hl; omega
  obtain ⟨u,e1,e2⟩:=rv.get (i:=i) (x:=.bl (bs.getD i false)) (by rw [List.getElem?_map]; simp [hi])
  rw [e'] at e1
  cases e1
  exact e2
 refine call_all_walk (wpAny_pyIter_list pl.isList ?_)
 refine ⟨s.heap.objs.size,_,_,its.toArray.size,_,_,fun i=>bs.getD i false,rfl,Walks.list (A:=X.A.in1) (I.ok.hd hc) _ p hp its.toArray,⟨⟨_,Heap.get?_push_size _ rfl,rfl,rfl⟩,?_⟩,fun i v s' Q' E' hv hQ=>?_,fun h' tk hk=>?_⟩
 ·exact pl.isList.at fun o e=>Heap.get?_push_of_some _ e
 ·rw [vget i v hv]; exact wpAny_truthy_bool hQ
 ·refine ⟨.bl (bs.all id),H,I.kept (t':=tk) (h':=h') fun b o e=>hk b o (fun z=>?_) (Heap.get?_push_of_some _ e),?_,q⟩
  ·have:b=s.heap.objs.size:=by simpa using z
   exact absurd (Heap.lt_size e) (by rw [this]; exact Nat.lt_irrefl _)
  ·have hl:=rv.length
   have hsz:its.toArray.size=bs.length:=by simp at hl; simp [hl]
   have:(List.range its.toArray.size).all (fun i=>bs.getD i false)=bs.all id:=by
    rw [hsz]
    rw [Bool.eq_iff_iff]
    simp only [List.all_eq_true,List.mem_range,id]
    constructor
    ·intro h b hb
     obtain ⟨i,hi,e⟩:=List.getElem_of_mem hb
     have:=h i hi
     simpa [hi,e] using this
    ·intro h i hi
     have:=h bs[i] (List.getElem_mem hi)
     simpa [hi] using this
   rw [this]; rfl
theorem zCm (ns:List Int):∀ k,k<=ns.length->preSum (fun i=>ns.getD i 0) k=(ns.take k).sum
 | 0,_=>by simp [preSum]
 | k+1,h=>by
  show preSum (fun i=>ns.getD i 0) k+ns.getD k 0=_
  have hk:k < ns.length:=h
  rw [zCm ns k (by omega),List.take_succ_eq_append_getElem hk,List.sum_append]
  simp [hk]
theorem zFr (hc:X.calm=true):qF X (.builtin "sum") (fun xs H Q=>∃ (p:Addr) (ns:List Int),xs=[.ref p]/\yC X.K H p (ns.map V.int)/\Q (.int ns.sum) H):=by
 intro pins s σ H xs us Q I r h
 obtain ⟨p,ns,rfl,hq,q⟩:=h
 obtain ⟨u,rfl,ru⟩:=uU r
 cases ru
 obtain ⟨its,rv,pl,hz⟩:=I.list hq
 have hpl:p < s.heap.objs.size:=by
  obtain ⟨o,n,e,_⟩:=pl
  exact Heap.lt_size e
 have hl:=rv.length
 have hsz:its.toArray.size=ns.length:=by simp at hl; simp [hl]
 have hia:=zJy rv
 refine call_sum_walkAnyS (wpAny_pyIter_list pl.isList ?_)
 refine ⟨s.heap.objs.size,_,_,_,its.toArray.size,_,_,fun i=>ns.getD i 0,rfl,(Walks.list (A:=X.A.in1) (I.ok.hd hc) _ p (Nat.ne_of_lt hpl) its.toArray).toS,⟨⟨_,Heap.get?_push_size _ rfl,rfl,rfl⟩,?_⟩,fun b hb=>?_,fun i v hv=>?_,fun s' t' hm=>?_⟩
 ·exact pl.isList.at fun o e=>Heap.get?_push_of_some _ e
 ·show b < (s.heap.push _).objs.size
  rw [size_push']
  rcases List.mem_cons.mp hb with e | hb
  ·rw [e]; exact Nat.lt_succ_self _
  ·rw [List.mem_singleton.mp hb]; exact Nat.lt_succ_of_lt hpl
 ·have e':its[i]?=some v:=by simpa using hv
  have hi:i < ns.length:=by
   have:=(List.getElem?_eq_some_iff.mp e').1
   simp at hl; omega
  obtain ⟨u,e1,e2⟩:=rv.get (i:=i) (x:=.int (ns.getD i 0)) (by rw [List.getElem?_map]; simp [hi])
  rw [e'] at e1
  cases e1
  exact e2
 ·have hk:∀ b o,s.heap.get? b=some o->s'.heap.get? b=some o:=fun b o e =>
   hm.heap b o (fun hI=>absurd (Heap.lt_size e) (by rw [List.mem_singleton.mp hI]; exact Nat.lt_irrefl _)) (Heap.get?_push_of_some _ e)
  rw [Moved.eq_with hm]
  refine ⟨.int ns.sum,H,I.kept (h':=s'.heap) (t':=s'.toks) hk,⟨t',?_⟩,q⟩
  rw [hsz,zCm ns ns.length (Nat.le_refl _),List.take_length]
def zLD (d:Addr):Obj:={ cls:=.type "dict_values",data:=.fields #[.ref d] }
def VLS (p d:Addr):HO:=.ext fun h=>h.get? p=some (zLD d)
def zLE:V->List V->Hp->VK->Prop:=fun x vs H Q=>∃ d kvs,x=.ref d/\vs=[]/\H d=some (.dK kvs)/\∀ p,H p=none->Q (.ref p) (upd H p (VLS p d))
theorem zLF:gN X "dict.values" zLE:=by
 intro pins s σ H x vs v us Q I rx rv h
 obtain ⟨d,kvs,rfl,rfl,hd,q⟩:=h
 cases rx
 have hus:=rv.zero
 subst hus
 obtain ⟨z,hm,ws,rel,dd⟩:=kU I.hok hd
 refine call_meetsIn PySem.F.slot_dict_values dd.typeIs PySem.F.entry_dict_values (PySem.F.args_dict_values_1 _) (meets_dict_values (vP X.prog X.w) d hm) ⟨⟨_,dd⟩,?_⟩
 refine ⟨.ref s.heap.objs.size,_,I.laid (t':=s.toks) (o:=VLS s.heap.objs.size d) (fun b o e=>Heap.get?_push_of_some _ e) (Nat.le_refl _) ?_,rfl,q _ (I.hok.fresh (Nat.le_refl _))⟩
 exact ⟨Heap.get?_push_size _ rfl,⟨_,Heap.get?_push_size _ rfl⟩,fun h1 h2 e k=>k _ e⟩
theorem zLG (hc:X.calm=true):qF X (.builtin "sum") (fun xs H Q=>∃ (p d:Addr) (kns:List (zV × Int)),xs=[.ref p]/\H p=some (VLS p d)/\H d=some (.dK (kns.map fun q=>(q.1,V.int q.2)))/\Q (.int (kns.map (·.2)).sum) H):=by
 intro pins s σ H xs us Q I r h
 obtain ⟨p,d,kns,rfl,hp,hd,q⟩:=h
 obtain ⟨u,rfl,ru⟩:=uU r
 cases ru
 obtain ⟨z,hm,ws,rel,dd⟩:=kU I.hok hd
 obtain ⟨hv,_,_⟩:=I.hok p _ hp
 obtain ⟨ep,hat⟩:=dd.dictAt
 have hlen:ws.length=kns.length:=by have:=rel.length; simpa using this.symm
 have hwi:∀ (i:Nat) (v:Value),(∃ k,ws[i]?=some (k,v))->∃ t,v=Value.int ((kns.map (·.2)).getD i 0) t:=fun i v ⟨k,e⟩=>by
  obtain ⟨x,e1,e2⟩:=KV.get rel e
  rw [List.getElem?_map] at e1
  cases g:kns[i]? with
  | none=>rw [g] at e1; cases e1
  | some q' =>
   rw [g] at e1
   have e1':(q'.1,V.int q'.2)=(k,x):=Option.some.inj e1
   have:x=V.int q'.2:=(Prod.mk.inj e1').2.symm
   subst this
   obtain ⟨t,rfl⟩:=e2
   refine ⟨t,?_⟩
   have:(kns.map (·.2)).getD i 0=q'.2:=by rw [List.getD_eq_getElem?_getD,List.getElem?_map,g]; rfl
   rw [this]
 have Ks:=PySem.W.kdl_values (knd:=vP X.prog X.w) (kvs:=ws) (ep:=ep) (r:=p) (d:=d)
 obtain ⟨oI,St,hit,W,st⟩:=Ks.iter X.A.in1 s (I.ok.hd hc) ⟨⟨_,hv,rfl,rfl⟩,hat⟩
 have hth:=Ks.there s.heap ⟨⟨_,hv,rfl,rfl⟩,hat⟩
 refine call_sum_walkAnyS (hit _ _ ⟨s.heap.objs.size,_,_,_,ws.length,_,_,fun i=>(kns.map (·.2)).getD i 0,rfl,W.toS,st,fun b hb=>?_,hwi,fun s' t' hm=>?_⟩)
 ·show b < (s.heap.push oI).objs.size
  rw [size_push']
  rcases List.mem_cons.mp hb with e | hb
  ·rw [e]; exact Nat.lt_succ_self _
  ·rw [List.mem_singleton.mp hb]; exact Nat.lt_succ_of_lt hth.2
 have hk:∀ b o,s.heap.get? b=some o->s'.heap.get? b=some o:=fun b o e =>
  hm.heap b o (fun hI=>absurd (Heap.lt_size e) (by rw [List.mem_singleton.mp hI]; exact Nat.lt_irrefl _)) (Heap.get?_push_of_some _ e)
 rw [Moved.eq_with hm]
 refine ⟨.int (kns.map (·.2)).sum,H,I.kept (h':=s'.heap) (t':=s'.toks) hk,⟨t',?_⟩,q⟩
 rw [hlen,<- List.length_map (f:=(·.2)) (as:=kns),zCm _ _ (Nat.le_refl _),List.take_length]
end
end L2
end
section
namespace L2
open PySem PySem.Spec PyProof.Rows
section
variable {X:Cx}
theorem jI:qF X (.builtin "isinstance") (fun xs H Q=>∃ x c t b,xs=[x,.ty c]/\TyOf X.K H x t/\PySem.W.kitOne X.K t (.type c)=some b/\Q (.bl b) H):=by
 intro pins s σ H xs us Q I r h
 obtain ⟨x,c,t,b,rfl,ty,e,q⟩:=h
 obtain ⟨u,w',rfl,rx,rc⟩:=zAV r
 cases rc
 exact zJn I rx ty e fun tk=>⟨.bl b,H,I.tok tk,rfl,q⟩
theorem zLH {ss:List Str}:∀ {us:List Value},zM (ss.map V.str) us->StrsAre us ss:=by
 induction ss with
 | nil=>intro us r; rw [List.map_nil] at r; cases r; exact .nil
 | cons x ss ih =>
  intro us r
  rw [List.map_cons] at r
  cases r with
  | cons r1 r2 =>
   obtain ⟨t,e⟩:=r1
   subst e
   exact .cons x t (ih r2)
def zLI (K:PySem.W.Frag):V->List V->Hp->VK->Prop:=fun x vs H Q=>∃ (sep:Str) (l:Addr) (ss:List Str),x=.str sep/\vs=[.ref l]/\yC K H l (ss.map V.str)/\(ss.map (·.length)).sum+ss.length * sep.length<=16777216/\Q (.str (Txt.join sep ss)) H
theorem zLJ:gK X "str.join" (zLI X.K):=by
 intro pins s σ H x vs v us Q I rx rv h
 obtain ⟨sep,l,ss,rfl,rfl,hq,hz,q⟩:=h
 obtain ⟨t,rfl⟩:=rx
 obtain ⟨u,rfl,ru⟩:=uU rv
 cases ru
 obtain ⟨its,r',pl,_⟩:=I.list hq
 exact join_list pl.isList (by simpa using zLH r') hz fun t' k=>⟨.str (Txt.join sep ss),H,I.tok k,⟨t',rfl⟩,q⟩
theorem zLK (l:List Str):∀ a:Array Nat,(l.foldl (fun acc p=>acc++(⟨#[]⟩:Str).cps++p.cps) a).toList=a.toList++(l.map (·.cps.toList)).flatten:=by
 induction l with
 | nil=>intro a; simp
 | cons x r ih=>intro a; rw [List.foldl_cons,ih]; simp
theorem zLL (ss:List Str):Txt.join ⟨#[]⟩ ss=⟨(ss.map (·.cps.toList)).flatten.toArray⟩:=by
 apply MyS.Str_ext
 show ((ss.drop 1).foldl (fun acc p=>acc++(⟨#[]⟩:Str).cps++p.cps) (ss.headD Str.empty).cps).toList=(ss.map (·.cps.toList)).flatten.toArray.toList
 rw [zLK]
 cases ss with
 | nil=>rfl
 | cons x r=>simp
def zLM:V->List V->Hp->VK->Prop:=fun x vs H Q=>∃ d kvs k v,x=.ref d/\vs=[kV k,v]/\H d=some (.dK kvs)/\kvs.length < sizeLine/\(∀ y,vY kvs k=some y->Q y H)/\(vY kvs k=none->Q v (upd H d (.dK (uL kvs k v))))
theorem zLN:gN X "dict.setdefault" zLM:=by
 intro pins s σ H x vs v us Q I rx rv h
 obtain ⟨d,kvs,k,y,rfl,rfl,hd,hz,q1,q2⟩:=h
 cases rx
 obtain ⟨u,w',rfl,ru,rw'⟩:=zAV rv
 obtain ⟨z,hm,ws,rel,dd⟩:=kU I.hok hd
 have hwz:ws.length<=sizeLine:=by rw [<- rel.length]; exact z
 refine call_meetsIn PySem.F.slot_dict_setdefault dd.typeIs PySem.F.entry_dict_setdefault (PySem.F.args_dict_setdefault_3 _ _ _) (kt_meets_setdefault (vP X.prog X.w) d (zAZ ru) hm w') ⟨ws,dd,hwz,fun v' hv=>?_,fun hn h' dd' hs=>?_⟩
 ·have rr:=rel.val k
  rw [hv] at rr
  cases e:vY kvs k with
  | none=>rw [e] at rr; exact rr.elim
  | some y' =>
   rw [e] at rr
   exact ⟨y',H,I.tok _,rr,q1 y' e⟩
 ·have rr:=rel.val k
  rw [hn] at rr
  cases e:vY kvs k with
  | some y'=>rw [e] at rr; exact rr.elim
  | none =>
   have he:∃ q,h'.get? d=some q:=let ⟨q,_,_,hq,_⟩:=dd'; ⟨q,hq⟩
   have hl:(uL kvs k y).length<=sizeLine:=by have:=zCZ kvs k y; omega
   exact ⟨y,_,zCa I (by rw [hd]; exact True.intro) hs he (zCb hl hm (rel.put k rw') dd'),rw',q2 e⟩
def zLO:List V->Hp->VK->Prop:=fun xs H Q=>∃ d kvs,xs=[.ref d]/\H d=some (.dK (q8 kvs))/\(kvs.map (·.1)).Nodup/\kvs.length < 64 /\
 ∀ (out:List Str) (l:Addr),out.Perm (kvs.map (·.1))->out.Pairwise (fun a b=>a.cps.toList < b.cps.toList)->H l=none->Q (.ref l) (upd H l (.lst (out.map V.str)))
theorem zLP (hc:X.calm=true):qF X (.builtin "sorted") zLO:=by
 intro pins s σ H xs us Q I rx h
 obtain ⟨d,kvs,rfl,hd,nd,h64,q⟩:=h
 obtain ⟨u,rfl,ru⟩:=uU rx
 cases ru
 obtain ⟨z,hm,ws,rel,dd⟩:=kU I.hok hd
 have hlen:ws.length=kvs.length:=by have:=rel.length; simpa using this.symm
 obtain ⟨ep,hat⟩:=dd.dictAt
 refine Calls.call_function_entry kind_sorted plain_sorted entry_sorted (args_sorted1 _) ?_
 unfold Builtin.«sorted»
 refine wpAny_bind (m:=checkCount "sorted" 1 1 _) (wpAny_pure ?_)
 refine wpAny_bind (PySem.W.kdu_collect (A:=X.A.in1) (PySem.W.kdl_dict (knd:=vP X.prog X.w) (kvs:=ws) (ep:=ep) hm) (I.ok.hd hc) hat (by rw [hlen,sizeLine_eq]; omega) fun h' tk acc hk hacc=>?_)
 have hal:acc.toList.length=kvs.length:=by rw [Array.length_toList]; exact hacc.1.trans hlen
 have hS:StrsAre acc.toList (kvs.map (·.1)):=by
  have hall:∀ v∈acc.toList,∃ x t,v=Value.str x t:=fun v hv=>by
   obtain ⟨i,hi,e⟩:=List.getElem_of_mem hv
   obtain ⟨k,x,e1,e2⟩:=hacc.2 i v (by rw [<- Array.getElem?_toList,List.getElem?_eq_getElem hi,e])
   obtain ⟨y,f1,_⟩:=KV.get rel e1
   rw [List.getElem?_map] at f1
   cases g:kvs[i]? with
   | none=>rw [g] at f1; cases f1
   | some p =>
    rw [g] at f1
    have:(Sum.inr p.1:zV)=k:=(Prod.mk.inj (Option.some.inj f1)).1
    subst this
    have e2':jN (Sum.inr p.1) v=true:=e2
    rcases qP e2' with ⟨j,t,z1,_⟩ | ⟨w,t,z1,z2⟩
    ·cases z1
    ·exact ⟨w,t,z2⟩
  have e0:=strsAre_map acc.toList hall
  have:acc.toList.map strOf=kvs.map (·.1):=by
   apply List.ext_getElem
   ·simp only [List.length_map,hal]
   ·intro i h1 h2
    have hi:i < acc.toList.length:=by simpa using h1
    have hi':i < kvs.length:=by simpa using h2
    obtain ⟨k,x,e1,e2⟩:=hacc.2 i acc.toList[i] (by rw [<- Array.getElem?_toList,List.getElem?_eq_getElem hi])
    obtain ⟨y,f1,_⟩:=KV.get rel e1
    rw [List.getElem?_map,List.getElem?_eq_getElem hi'] at f1
    have:(Sum.inr kvs[i].1:zV)=k:=(Prod.mk.inj (Option.some.inj f1)).1
    subst this
    have e2':jN (Sum.inr kvs[i].1) acc.toList[i]=true:=e2
    rcases qP e2' with ⟨j,t,z1,_⟩ | ⟨w,t,z1,z2⟩
    ·cases z1
    ·have:kvs[i].1=w:=Sum.inr.inj z1
     rw [List.getElem_map,List.getElem_map,z2,this]
     rfl
  rw [this] at e0
  exact e0
 refine wpAny_bind (wpAny_newList ?_ (by rw [hal,sizeLine_eq]; omega))
 generalize hB:h'.objs.size=B
 have hoL:(h'.push { cls:=.type "list",data:=.seq acc.toList.toArray }).get? B=some (seqObj "list" acc.toList.toArray 0):=by
  rw [<- hB]; exact Heap.get?_push_size _ rfl
 refine wpAny_bind (wpAny_holding (wpAny_call_entry slot_list_sort ⟨_,hoL,rfl⟩ entry_list_sort (MyS.sort_strs (ks:=kvs.map (·.1)) hoL hS nd (by rw [hal]; exact h64) fun pm h2 e2 hp1 hp2 hk2 ho2=>⟨_,rfl,?_⟩) (args_list_sort _)))
 refine wpAny_pure ⟨_,rfl,?_⟩
 rw [hal] at hp1
 have pmlt:∀ i∈pm,i < kvs.length:=fun i hi=>List.mem_range.mp (hp1.mem_iff.mp hi)
 have hold:∀ b o,s.heap.get? b=some o->h2.get? b=some o:=fun b o e=>by
  have e1:=hk b o e
  refine hk2 b o ?_ (Heap.get?_push_of_some _ e1)
  rw [<- hB]; exact Nat.ne_of_lt (Heap.lt_size e1)
 have hfB:s.heap.get? B=none:=by
  cases g:s.heap.get? B with
  | none=>rfl
  | some o =>
   have h0:=Heap.lt_size (hk B o g)
   rw [hB] at h0
   exact absurd h0 (Nat.lt_irrefl _)
 have uD:upd H B (.lst ((pm.map fun i=>(kvs.map (·.1)).getD i ⟨#[]⟩).map V.str))=uE H [(B,.lst ((pm.map fun i=>(kvs.map (·.1)).getD i ⟨#[]⟩).map V.str))]:=by
  funext b
  unfold upd uE
  by_cases hb:b=B
  ·subst hb; simp
  ·have hb':(b == B)=false:=by simpa using hb
   rw [if_neg hb,List.lookup_cons,hb']
   rfl
 have IM:Inv X pins σ (uE H [(B,.lst ((pm.map fun i=>(kvs.map (·.1)).getD i ⟨#[]⟩).map V.str))]) { s with heap:=h2,toks:=tk }:=by
  refine I.many hold (fun p hp=>?_) fun p hp=>?_
  ·rcases List.mem_cons.mp hp with e | e
   ·rw [e]; exact hfB
   ·cases e
  ·rcases List.mem_cons.mp hp with e | e
   ·subst e
    refine ⟨?_,(pm.map fun i=>acc.toList.getD i Value.none),_,?_,ho2⟩
    ·show (List.map V.str (pm.map _)).length<=_
     rw [List.length_map,List.length_map,hp1.length_eq,List.length_range,sizeLine_eq]; omega
    ·have go:∀ l:List Nat,(∀ i∈l,i < kvs.length)->zM ((l.map fun i=>(kvs.map (·.1)).getD i ⟨#[]⟩).map V.str) (l.map fun i=>acc.toList.getD i Value.none):=by
      intro l
      induction l with
      | nil=>intro _; exact .nil
      | cons i l ih =>
       intro hl
       have hi:=hl i (List.mem_cons_self ..)
       have hi2:i < acc.toList.length:=by omega
       refine .cons ?_ (ih fun j hj=>hl j (List.mem_cons_of_mem _ hj))
       obtain ⟨x,t,e⟩:=hS.all acc.toList[i] (List.getElem_mem hi2)
       refine ⟨t,?_⟩
       have e1:acc.toList.getD i Value.none=acc.toList[i]:=by
        rw [List.getD_eq_getElem?_getD,List.getElem?_eq_getElem hi2]; rfl
       have e2:(kvs.map (·.1)).getD i ⟨#[]⟩=x:=by
        rw [<- hS.strs,List.getD_eq_getElem?_getD,List.getElem?_map,List.getElem?_eq_getElem hi2,e]; rfl
       dsimp only
       rw [e1,e2,e]
     exact go pm pmlt
   ·cases e
 refine ⟨.ref B,_,IM,rfl,?_⟩
 rw [<- uD]
 refine q _ B ?_ ?_ (I.hok.free hfB)
 ·have e1:(List.range kvs.length).map (fun i=>(kvs.map (·.1)).getD i (⟨#[]⟩:Str))=kvs.map (·.1):=by
   apply List.ext_getElem
   ·simp
   ·intro i h1 h2
    have hi:i < kvs.length:=by simpa using h1
    simp [hi]
  have:=hp1.map (fun i=>(kvs.map (·.1)).getD i (⟨#[]⟩:Str))
  rw [e1] at this
  exact this
 ·rw [List.pairwise_map]
  rw [List.pairwise_map] at hp2
  exact hp2
theorem zFs:yE X (binaryOp .Add) (fun x y H Q=>∃ a b ys,x=.ref a/\y=.ref b/\zZ X.K H a []/\zZ X.K H b ys/\Q (.ref b) H):=by
 intro pins s σ H x y v u Q I rx ry h
 obtain ⟨a,b,ys,rfl,rfl,ha,hb,q⟩:=h
 cases rx
 cases ry
 obtain ⟨its,r1,p1,_⟩:=I.tuple ha
 obtain ⟨its2,r2,p2,_⟩:=I.tuple hb
 have e0:its=[]:=by cases r1; rfl
 subst e0
 obtain ⟨⟨cls,dd,data,sl⟩,ho,hc,n,hd⟩:=id p1
 obtain ⟨⟨cls2,dd2,data2,sl2⟩,ho2,hc2,n2,hd2⟩:=id p2
 simp only at hc hd hc2 hd2
 subst hc hd hc2 hd2
 exact concat_meets ⟨_,ho,rfl⟩ ⟨_,ho2,rfl⟩ noFill_tuple_add seq_tuple_add PySem.F.slot_tuple_add PySem.F.entry_tuple_add (PySem.F.args_tuple_add_2 _ _)
  (tuple_addW0 a b _ its2.toArray n n2 dd dd2 sl sl2 (by simp)) ⟨ho,ho2,⟨.ref b,H,I,rfl,q⟩⟩
end
section
variable {prog:Program}{w:World}{A:Around}{E:Value->Shared->Prop}{s:Shared}
end
section
variable {X:Cx}{e st:Expr}{te ts:TE}{pos p2:Pos}
end
end L2
end
section
namespace L2
open PySem PySem.Spec PyProof.Rows
structure Known (J:It) (items:List V) (Hk:Hp->Prop):Prop where
 go:∀ i H,Hk H->i < items.length->J.go i H
 yld:∀ i H x H',Hk H->J.yld i H x H'->H'=H/\(i < items.length->items[i]?=some x)
 stop:∀ H,Hk H->J.stop items.length H
theorem zAE (lo:Int) (n:Nat):Known (Itr lo n) ((List.range n).map fun (i:Nat)=>V.int (lo+(i:Int))) (fun _=>True) :=
 ⟨fun i H _ h=>by show i < n; simpa using h,fun i H x H' _ h=>⟨h.1,fun hi=>by
  have hi':i < n:=by simpa using hi
  rw [List.getElem?_map,List.getElem?_range hi',h.2]; rfl⟩,fun H _=>by show n<=_; simp⟩
theorem kD (K:PySem.W.Frag) (a:Addr) (xs:List V):Known (Itl K a) xs (fun H=>yC K H a xs) :=
 ⟨fun i H h hi=>⟨xs,xs[i],h,List.getElem?_eq_getElem hi⟩,fun i H x H' h y=>⟨y.1,fun _=>y.2 xs h⟩,fun H h=>⟨xs,h,Nat.le_refl _⟩⟩
theorem gQ (K:PySem.W.Frag) (a:Addr) (xs:List V):Known (Itt K a) xs (fun H=>zZ K H a xs) :=
 ⟨fun i H h hi=>⟨xs,xs[i],h,List.getElem?_eq_getElem hi⟩,fun i H x H' h y=>⟨y.1,fun _=>y.2 xs h⟩,fun H h=>⟨xs,h,Nat.le_refl _⟩⟩
theorem zFt (z:Str):Known (Its z) (z.cps.toList.map fun c=>V.str ⟨#[c]⟩) (fun _=>True) :=
 ⟨fun i H _ h=>by show i < z.cps.size; simpa using h,fun i H x H' _ h=>⟨h.1,fun _=>by
  obtain ⟨c,e1,e2⟩:=h.2
  rw [List.getElem?_map,Array.getElem?_toList,e1,e2]; rfl⟩,fun H _=>by show _=z.cps.size; simp⟩
theorem zFu {J:It}{items:List V}{Hk:Hp->Prop} (kn:Known J items Hk) {caps:List Nat}{n:Nat}{σ:St}{g:TG}{tc:TT}{te:TE}{F:List V->Hp->Prop}{H1:Hp} (cv:St) (k:Nat) (hn:items.length < 1000)
  (Pv:Nat->List V->Hp->Prop) (h0:Pv 0 [] H1) (hk:∀ i acc H,i<=items.length->Pv i acc H->Hk H/\acc.length<=i)
  (turn:∀ (i:Nat) (x:V) (acc:List V) (H:Hp) (ys:St) (Nx:List V->St->Hp->Prop),(∀ acc' H' zs,zs.length=k->Pv (i+1) acc' H'->Nx acc' (cv++zs) H')->items[i]?=some x->ys.length=k->Pv i acc H ->
   g x (cv++ys) H fun σ2 H3=>tc σ2 H3 fun b H4=>if b=true then te σ2 H4 fun y H5=>Nx (acc++[y]) σ2 H5 else Nx acc σ2 H4)
  (fin:∀ acc H,Pv items.length acc H->F acc H) (hcv:uX caps n σ=cv++List.replicate k none:=by rfl) :
  ∃ W:Nat->Nat->List V->St->Hp->Prop,(∃ m,W 0 m [] (uX caps n σ) H1)/\∀ i m acc σ' H',W i m acc σ' H' ->
   (J.stop i H'/\F acc H') \/
   (J.go i H'/\acc.length < sizeLine/\∀ x H2,J.yld i H' x H2->g x σ' H2 fun σ2 H3=>tc σ2 H3 fun b H4=>if b=true then te σ2 H4 fun y H5=>∃ m',m' < m/\W (i+1) m' (acc++[y]) σ2 H5 else ∃ m',m' < m/\W (i+1) m' acc σ2 H4):=by
 refine ⟨fun i m acc σ' H'=>i<=items.length/\m=items.length - i/\(∃ ys,ys.length=k/\σ'=cv++ys)/\Pv i acc H',⟨items.length,Nat.zero_le _,rfl,⟨_,by simp,hcv⟩,h0⟩,?_⟩
 rintro i m acc σ' H' ⟨hi,rfl,⟨ys,hy,rfl⟩,pv⟩
 obtain ⟨hH,ha⟩:=hk i acc H' hi pv
 by_cases e:i=items.length
 ·subst e
  exact .inl ⟨kn.stop H' hH,fin acc H' pv⟩
 ·have hi':i < items.length:=by omega
  refine .inr ⟨kn.go i H' hH hi',by rw [sizeLine_eq]; omega,fun x H2 hy2=>?_⟩
  obtain ⟨e2,e3⟩:=kn.yld i H' x H2 hH hy2
  subst e2
  exact turn i x acc H2 ys (fun acc' σ2 H5=>∃ m',m' < items.length - i/\(i+1<=items.length/\m'=items.length - (i+1)/\(∃ ys,ys.length=k/\σ2=cv++ys)/\Pv (i+1) acc' H5)) (fun acc' H5 zs hz p=>⟨items.length - (i+1),by omega,by omega,rfl,⟨zs,hz,rfl⟩,p⟩) (e3 hi') hy pv
theorem uY {J:It}{items:List V}{Hk:Hp->Prop} (kn:Known J items Hk) {caps:List Nat}{n:Nat}{σ:St}{g:TG}{te:TE}{F:List V->Hp->Prop}{H1:Hp} (cv:St) (k:Nat) (hn:items.length < 1000)
  (Pv:Nat->List V->Hp->Prop) (h0:Pv 0 [] H1) (hk:∀ i acc H,i<=items.length->Pv i acc H->Hk H/\acc.length<=i)
  (turn:∀ (i:Nat) (x:V) (acc:List V) (H:Hp) (ys:St) (Nx:List V->St->Hp->Prop),(∀ acc' H' zs,zs.length=k->Pv (i+1) acc' H'->Nx acc' (cv++zs) H')->items[i]?=some x->ys.length=k->Pv i acc H ->
   g x (cv++ys) H fun σ2 H3=>te σ2 H3 fun y H5=>Nx (acc++[y]) σ2 H5)
  (fin:∀ acc H,Pv items.length acc H->F acc H) (hcv:uX caps n σ=cv++List.replicate k none:=by rfl) :
  ∃ W:Nat->Nat->List V->St->Hp->Prop,(∃ m,W 0 m [] (uX caps n σ) H1)/\∀ i m acc σ' H',W i m acc σ' H' ->
   (J.stop i H'/\F acc H') \/
   (J.go i H'/\acc.length < sizeLine/\∀ x H2,J.yld i H' x H2->g x σ' H2 fun σ2 H3=>kW σ2 H3 fun b H4=>if b=true then te σ2 H4 fun y H5=>∃ m',m' < m/\W (i+1) m' (acc++[y]) σ2 H5 else ∃ m',m' < m/\W (i+1) m' acc σ2 H4):=by
 refine zFu kn cv k hn Pv h0 hk (fun i x acc H ys Nx hN hx hy p=>?_) fin hcv
 have:=turn i x acc H ys Nx hN hx hy p
 have e:(fun (σ2:St) (H3:Hp)=>kW σ2 H3 fun b H4=>if b=true then te σ2 H4 fun y H5=>Nx (acc++[y]) σ2 H5 else Nx acc σ2 H4)=fun σ2 H3=>te σ2 H3 fun y H5=>Nx (acc++[y]) σ2 H5:=by
  funext σ2 H3
  unfold kW
  exact if_pos rfl
 rw [e]
 exact this
theorem kZ {J:It}{items:List V}{Hk:Hp->Prop} (kn:Known J items Hk) {g:TG}{tb:TS}{D:Ends}{σ:St}{H:Hp} (Pv:Nat->St->Hp->Prop) (h0:Pv 0 σ H) (hk:∀ i σ H,i<=items.length->Pv i σ H->Hk H)
  (turn:∀ (i:Nat) (x:V) (σ:St) (H:Hp) (Nx:St->Hp->Prop),(∀ σ' H',Pv (i+1) σ' H'->Nx σ' H')->items[i]?=some x->Pv i σ H->g x σ H fun σ2 H2=>tb { D with nx:=Nx,ct:=Nx,bk:=D.nx } σ2 H2)
  (fin:∀ σ H,Pv items.length σ H->D.nx σ H) :
  ∃ W:Nat->Nat->St->Hp->Prop,(∃ m,W 0 m σ H)/\∀ i m σ H,W i m σ H ->
   (J.stop i H/\D.nx σ H)\/(J.go i H/\∃ N:St->Hp->Prop,(∀ σ' H',N σ' H'->∃ m',m' < m/\W (i+1) m' σ' H')/\∀ x H',J.yld i H x H'->g x σ H' fun σ2 H2=>tb { D with nx:=N,ct:=N,bk:=D.nx } σ2 H2):=by
 refine ⟨fun i m σ H=>i<=items.length/\m=items.length - i/\Pv i σ H,⟨items.length,Nat.zero_le _,rfl,h0⟩,?_⟩
 rintro i m σ H ⟨hi,rfl,pv⟩
 have hH:=hk i σ H hi pv
 by_cases e:i=items.length
 ·subst e
  exact .inl ⟨kn.stop H hH,fin σ H pv⟩
 ·have hi':i < items.length:=by omega
  refine .inr ⟨kn.go i H hH hi',Pv (i+1),fun σ' H' p=>⟨items.length - (i+1),by omega,by omega,rfl,p⟩,fun x H2 hy2=>?_⟩
  obtain ⟨e2,e3⟩:=kn.yld i H x H2 hH hy2
  subst e2
  exact turn i x σ H2 (Pv (i+1)) (fun _ _ p=>p) (e3 hi') pv
theorem uZ {c A B:Prop} [Decidable c] (hc:c) (h:A):if decide c=true then A else B:=by
 rw [if_pos (decide_eq_true hc)]; exact h
theorem jA {c A B:Prop} [Decidable c] (hc:¬ c) (h:B):if decide c=true then A else B:=by
 rw [if_neg (fun z=>hc (of_decide_eq_true z))]; exact h
theorem zB.upd_new {H H':Hp}{a:Addr}{o:HO} (e:zB H H') (h:H a=none):zB H (upd H' a o):=fun b u q=>by
 rw [zU (y7 q h)]; exact e b u q
theorem zB.upd1 {H:Hp}{a:Addr}{o:HO} (h:H a=none):zB H (upd H a o):=(zB.refl H).upd_new h
def zBP (sc:Scope) (XN N:List Str) (scope:Scope):Nat->List Nat->Bool
 | _,[]=>true
 | i,c::cs=>(match N[i]? with
  | some x=>decide (XN[c]?=some x) && decide (scope.names.lookup x=some .free) && (decide (sc.names.lookup x=some .cell) || decide (sc.names.lookup x=some .free))
  | none=>false) && zBP sc XN N scope (i+1) cs
def zFv (sc:Scope) (XN N:List Str) (scope:Scope) (caps:List Nat):Bool :=
 decide (scope.kind=.function) && decide N.Nodup && scope.names.all (fun y=>decide (y.2≠.cell)) && scope.names.all (fun y=>decide (y.2=.local->scope.names.lookup y.1=some .local)) &&
 scope.names.all (fun y=>decide (y.2=.free->sc.names.lookup y.1=some .cell\/sc.names.lookup y.1=some .free)) && zBP sc XN N scope 0 caps && decide (caps.length<=N.length)
theorem zFw {sc:Scope}{XN N:List Str}{scope:Scope}:∀ {caps:List Nat}{j:Nat},zBP sc XN N scope j caps=true->∀ i,i < caps.length ->
  ∃ x,N[j+i]?=some x/\XN[caps.getD i 0]?=some x/\scope.names.lookup x=some .free/\(sc.names.lookup x=some .cell\/sc.names.lookup x=some .free)
 | [],_,_,i,hi=>by simp at hi
 | c::cs,j,h,i,hi=>by
  unfold zBP at h
  rw [Bool.and_eq_true] at h
  obtain ⟨h1,h2⟩:=h
  cases i with
  | zero =>
   cases e:N[j]? with
   | none=>rw [e] at h1; cases h1
   | some x =>
    rw [e] at h1
    simp only [Bool.and_eq_true,Bool.or_eq_true,decide_eq_true_eq] at h1
    exact ⟨x,by simpa using e,by simpa using h1.1.1,h1.1.2,h1.2⟩
  | succ i =>
   obtain ⟨x,a,b,c',d⟩:=zFw h2 i (by simpa using hi)
   exact ⟨x,by rw [<- a]; congr 1; omega,by simpa using b,c',d⟩
theorem uF {sc:Scope}{XN N:List Str}{scope:Scope}{caps:List Nat} (h:zFv sc XN N scope caps=true):CompScope sc XN N scope caps:=by
 unfold zFv at h
 simp only [Bool.and_eq_true,decide_eq_true_eq,List.all_eq_true] at h
 obtain ⟨⟨⟨⟨⟨⟨a,b⟩,c⟩,d⟩,e⟩,f⟩,g⟩:=h
 exact ⟨a,b,c,d,e,fun i hi=>by simpa using zFw f i hi,g⟩
end L2
end
section
namespace L2
open PySem PySem.Spec PyProof.Rows
section
variable {X:Cx}{pins:List (Addr × Obj)}{σ:St}{H:Hp}{s:Shared}
theorem Inv.turnedT {fp:List Addr}{h':Heap}{t':Nat}{T:Addr}{o:HO} (I:Inv X pins σ H s) (k:∀ b u,b ∉ fp->s.heap.get? b=some u->h'.get? b=some u) (hf:∀ b∈fp,qE X pins H b) (hT:s.heap.get? T=none)
  (new:yF X.prog X.w (upd H T o) h' T o):Inv X pins σ (upd H T o) { s with heap:=h',toks:=t' }:=by
 have hn:H T=none:=I.hok.free hT
 have nit:∀ b u,H b=some u->b ∉ fp:=fun b u e z=>by rw [(hf b z).1] at e; cases e
 have sm:zB H (upd H T o):=zB.upd1 hn
 have old:∀ b (u:Obj),s.heap.get? b=some u->upd H T o b=H b:=fun b u e=>by
  rw [zU]
  rintro rfl
  rw [hT] at e; cases e
 refine I.step (g':=s.gens) (d':=s.drawn) (ch:=fp) (fun b hb=>?_) (fun b o _ _ hc e _=>k b o hc e) (fun b o _ _ hc e _=>⟨o.slots,k b o hc e⟩) (fun b u _ e n=>by rw [old b u e]; exact n)
  (fun b o hc e=>⟨o,k b o hc e⟩) (fun b xs e=>sm _ _ e) (fun b u v e=>sm _ _ e) (fun b ps e=>⟨#[],by rw [sm _ _ e]; simp⟩) (fun m hm=>?_) (fun b u e=>?_) I.bare
 ·obtain ⟨f0,f1,f2,f3,f4,f5⟩:=hf b hb
  exact ⟨f3,f1,f4,f5⟩
 ·obtain ⟨o,es,ep,ho,r⟩:=hm
  exact ⟨o,es,ep,k _ o (fun z=>(hf _ z).2.1 rfl) ho,r⟩
 ·by_cases hb:b=T
  ·subst hb; rw [zI] at e; cases e; exact new
  ·rw [zU hb] at e
   refine (I.hok b u e).stay (fun c v hc q=>k c v ?_ q) (fun c q=>?_) fun c xs q=>?_
   ·rcases hc with z | z
    ·rw [z]; exact nit b u e
    ·exact nit c _ z
   ·exact sm _ _ q
   ·exact sm _ _ q
end
def Ite (K:PySem.W.Frag) (a:Addr):It :=
 ⟨fun i H=>∃ xs x,yC K H a xs/\xs[i]?=some x,fun i H x H'=>∃ T y,x=.ref T/\H T=none/\H'=upd H T (.tup [.int i,y])/\∀ xs,yC K H a xs->xs[i]?=some y,fun i H=>∃ xs,yC K H a xs/\xs.length=i⟩
theorem zLQ {P:Program}{w:World}{K:PySem.W.Frag}{elts:List Expr}{k:Nat}{pos:Pos} (a e it:Addr) (hei:e≠it):Turn P w K (.Tuple elts k pos) (Ite K a) [e,it] e (fun i h=>(∃ old,IsEnum h e it i old)/\h.IsListIter it a i) where
 mem:=by simp
 obj:=fun i h st b hb=>by
  obtain ⟨⟨old,he⟩,hit⟩:=st
  rcases List.mem_cons.mp hb with z | z
  ·subst z; exact ⟨_,he,fun v z=>by cases z⟩
  ·have z':b=it:=by simpa using z
   subst z'
   obtain ⟨o,e,c,d⟩:=hit
   exact ⟨o,e,fun v z=>by rw [d] at z; cases z⟩
 keep:=fun i h h' st kk=>⟨let ⟨old,he⟩:=st.1; ⟨old,kk e (by simp) _ he⟩,st.2.at fun o x=>kk it (by simp) o x⟩
 item:=by
  intro X hP hw hK hc i pins s σ H E I hf st hg
  subst hP hw hK
  obtain ⟨xs,x,hq,hx⟩:=hg
  obtain ⟨its,rv,p,hz⟩:=I.list hq
  obtain ⟨u,hu,ru⟩:=rv.get hx
  obtain ⟨⟨old,he⟩,hit⟩:=id st
  have hae:e≠a:=fun z=>by
   subst z
   obtain ⟨o,h1,h2,_⟩:=p.isList
   rw [he] at h1; cases h1
   have h2':Value.type "enumerate" = Value.type "list" := h2
   exact absurd h2' (by decide)
  have hai:a≠it:=fun z=>by
   subst z
   obtain ⟨o,h1,h2,_⟩:=p.isList
   obtain ⟨o',h3,h4,_⟩:=hit
   rw [h1] at h3; cases h3; rw [h2] at h4; exact absurd h4 (by decide)
  have D:=Draws.list (prog:=X.prog) (w:=X.w) (A:=X.A.in1) (show X.A.in1.handled=none from I.ok.hd hc) it a hai its.toArray
  have hlt:i < its.toArray.size:=by
   have:=(List.getElem?_eq_some_iff.mp hu).1
   simpa using this
  refine wpAny_pyNext_enum_itemD D he ⟨hit,p.isList⟩ hlt hei (by simp [hei,hae]) fun x' h' tk hP ho hs' hT hsz hk=>?_
  have hx':x'=u:=by
   have:its[i]?=some x':=by simpa using hP
   rw [hu] at this; exact (Option.some.inj this).symm
  subst hx'
  refine ⟨_,rfl,wpAny_letOwnedTupleGo_enum ho fun h2 he2 hs2=>?_⟩
  have hTn:s.heap.get? s.heap.objs.size=none:=by
   cases g:s.heap.get? s.heap.objs.size with
   | none=>rfl
   | some o=>exact absurd (Heap.lt_size g) (Nat.lt_irrefl _)
  have hel:e < s.heap.objs.size:=Heap.lt_size he
  have hT2:h2.get? s.heap.objs.size=some { cls:=.type "tuple",data:=.seq #[.int i tk,x'] }:=(hs2.2 _ (Nat.ne_of_gt hel)).trans hT
  refine ⟨.ref s.heap.objs.size,upd H s.heap.objs.size (.tup [.int i,x]),I.turnedT (fp:=[e,it]) (h':=h2) (t':=tk+1) (fun b o hb q=>?_) hf hTn ⟨by show 2<=sizeLine; decide,[.int i tk,x'],.cons ⟨tk,rfl⟩ (.cons ru .nil),⟨_,hT2,rfl,_,rfl⟩⟩,rfl,
   ⟨_,x,rfl,I.hok.free hTn,rfl,fun ys hy=>by rw [I.list_inj hy hq]; exact hx⟩,⟨⟨_,by simpa using he2⟩,hs'.1.at fun o q=>(hs2.2 it (Ne.symm hei)).trans q⟩,fun b hb=>?_⟩
  ·have hbe:b≠e:=fun z=>hb (by simp [z])
   have hbi:b≠it:=fun z=>hb (by simp [z])
   exact (hs2.2 b hbe).trans (hk b o hbe hbi q)
  ·rw [zU]
   ·exact (hf b hb).1
   ·rintro rfl
    rcases List.mem_cons.mp hb with z | z
    ·exact absurd hel (by rw [z]; exact Nat.lt_irrefl _)
    ·have z':s.heap.objs.size=it:=by simpa using z
     obtain ⟨o,h3,_⟩:=hit
     rw [<- z',hTn] at h3; cases h3
 done:=by
  intro X hP hw hK hc i pins s σ H E I hf st hg
  subst hP hw hK
  obtain ⟨xs,hq,hx⟩:=hg
  obtain ⟨its,rv,p,hz⟩:=I.list hq
  obtain ⟨⟨old,he⟩,hit⟩:=id st
  have hl:=rv.length
  have hai:a≠it:=fun z=>by
   subst z
   obtain ⟨o,h1,h2,_⟩:=p.isList
   obtain ⟨o',h3,h4,_⟩:=hit
   rw [h1] at h3; cases h3; rw [h2] at h4; exact absurd h4 (by decide)
  have D:=Draws.list (prog:=X.prog) (w:=X.w) (A:=X.A.in1) (show X.A.in1.handled=none from I.ok.hd hc) it a hai its.toArray
  obtain ⟨f0,f1,f2,f3,f4,f5⟩:=hf it (by simp)
  have hi:its.toArray.size=i:=by rw [List.size_toArray]; omega
  refine wpAny_pyNext_enum_endD D he ⟨by rw [hi]; exact hit,p.isList⟩ fun h' eb=>⟨rfl,I.turned (t':=s.toks) (fun b o hb e=>eb b o hb e) f0 f1 f3 f4 f5⟩
 self:=fun A i s Q E st h=>let ⟨old,he⟩:=st.1; wpAny_pyIter_enum he h
section
variable {X:Cx}{elts:List Expr}{k:Nat}{tpos:Pos}
def zLR (K:PySem.W.Frag) (ta:TA):TI:=fun σ H R=>ta σ H fun vs H1=>∃ a xs,vs=[.ref a]/\H1 a=some (.lst xs)/\R (Ite K a) H1
theorem zFx {e:Expr}{ta:TA}{p pos:Pos} (hg:Gl X "enumerate") (hm:X.mg "enumerate" = none) (ha:PA X [e] ta) (hs:starEach [e] X.env=[(false,eval e X.env)]:=by rfl):PI X (.Tuple elts k tpos) (.Call (.Name "enumerate" p) [e] [] pos) (zLR X.K ta):=by
 intro pins s σ H R I h
 refine Call_ (j4 I hg hm boot_enumerate (PyProof.Rows.callWith_type1 (zJ (ha pos pins s σ H _ I h) fun us s1 ⟨vs,H1,I1,r1,q1⟩=>?_) hs rfl))
 obtain ⟨a,xs,rfl,hl,q⟩:=q1
 obtain ⟨u,rfl,ru⟩:=uU r1
 cases ru
 obtain ⟨z,its,n,r,e0⟩:=I1.hok a _ hl
 refine call_enumerate_1 e0 fun h' he hit hsz hk=>?_
 have I2:Inv X pins σ H1 { s1 with heap:=h' }:=I1.kept (t':=s1.toks) hk
 refine wpAny_pyIter_enum he ⟨_,[s1.heap.objs.size+1,s1.heap.objs.size],_,_,H1,rfl,I2,zLQ a _ _ (Nat.succ_ne_self _),⟨⟨_,he⟩,hit⟩,fun b hb=>?_,q⟩
 have hb':s1.heap.objs.size<=b:=by
  rcases List.mem_cons.mp hb with z | z
  ·rw [z]; exact Nat.le_succ _
  ·have:b=s1.heap.objs.size:=by simpa using z
   rw [this]; exact Nat.le_refl _
 exact I1.fpOk hb' (I1.hok.fresh hb')
theorem zFy {K:PySem.W.Frag}{a:Addr}{xs:List V}{g:TG}{tb:TS}{D:Ends}{σ:St}{H:Hp} (Pv:Nat->St->Hp->Prop) (h0:Pv 0 σ H) (hk:∀ i σ H,i<=xs.length->Pv i σ H->yC K H a xs)
  (turn:∀ (i:Nat) (x:V) (T:Addr) (σ:St) (H:Hp) (Nx:St->Hp->Prop),(∀ σ' H',Pv (i+1) σ' H'->Nx σ' H')->xs[i]?=some x->Pv i σ H->H T=none->g (.ref T) σ (upd H T (.tup [.int i,x])) fun σ2 H2=>tb { D with nx:=Nx,ct:=Nx,bk:=D.nx } σ2 H2)
  (fin:∀ σ H,Pv xs.length σ H->D.nx σ H) :
  ∃ W:Nat->Nat->St->Hp->Prop,(∃ m,W 0 m σ H)/\∀ i m σ H,W i m σ H ->
   ((Ite K a).stop i H/\D.nx σ H)\/((Ite K a).go i H/\∃ N:St->Hp->Prop,(∀ σ' H',N σ' H'->∃ m',m' < m/\W (i+1) m' σ' H')/\∀ x H',(Ite K a).yld i H x H'->g x σ H' fun σ2 H2=>tb { D with nx:=N,ct:=N,bk:=D.nx } σ2 H2):=by
 refine ⟨fun i m σ H=>i<=xs.length/\m=xs.length - i/\Pv i σ H,⟨xs.length,Nat.zero_le _,rfl,h0⟩,?_⟩
 rintro i m σ H ⟨hi,rfl,pv⟩
 have hH:=hk i σ H hi pv
 by_cases e:i=xs.length
 ·subst e
  exact .inl ⟨⟨xs,hH,rfl⟩,fin σ H pv⟩
 ·have hi':i < xs.length:=by omega
  refine .inr ⟨⟨xs,xs[i],hH,List.getElem?_eq_getElem hi'⟩,Pv (i+1),fun σ' H' p=>⟨xs.length - (i+1),by omega,by omega,rfl,p⟩,fun x H2 hy2=>?_⟩
  obtain ⟨T,y,rfl,hT,rfl,hy⟩:=hy2
  exact turn i y T σ H (Pv (i+1)) (fun _ _ p=>p) (hy xs hH) pv hT
theorem zLS:gK X "str.endswith" (fun x vs H Q=>∃ a b:Str,x=.str a/\vs=[.str b]/\Q (.bl (Txt.endswith a b)) H):=by
 intro pins s σ H x vs v us Q I rx rv h
 obtain ⟨a,b,rfl,rfl,q⟩:=h
 obtain ⟨t,rfl⟩:=rx
 obtain ⟨u,rfl,ru⟩:=uU rv
 obtain ⟨t',rfl⟩:=ru
 exact SC.endswith ⟨.bl _,H,I,rfl,q⟩
end
section
variable {X:Cx}{e st:Expr}{te ts:TE}{pos p2:Pos}
end
end L2
end
section
namespace L2
open PySem PySem.Spec PyProof.Rows
theorem zLT:typeLookup (.type "list") "keys" = pure none:=am_miss_of_fast (by kernel_rfl)
theorem zLU {prog:Program}{w:World}{A:Around}{E:Value->Shared->Prop}{s:Shared}{a:Addr}{o:Obj}{xs:Array Value}{k:Nat}{name:Str}{Q:Option Value->Shared->Prop}
  (hx:s.heap.get? a=some o) (hc:o.cls=.type "list") (hdat:o.data=.seq xs k) (hd:o.dict=none) (hmiss:typeLookup (.type "list") name=pure none) (hname:(["__module__", "__name__", "__qualname__", "__doc__", "__annotations__"]:List Str).contains name=false) (hA:A.handled=none)
  (h:∀ h' tk,(∀ b ob,s.heap.get? b=some ob->h'.get? b=some ob)->Q none { s with heap:=h',toks:=tk }) (hsz:name.length+100<=sizeLine:=by size_fits) :
  wpAny (model prog w) A (getAttr? (.ref a) name) Q E s:=by
 obtain ⟨c,dct,dat,sl⟩:=o
 simp only at hc hdat hd
 subst hc hdat hd
 obtain ⟨hp,g,d,tk,os⟩:=s
 have hT:∀ tk',(⟨hp,g,d,tk',os⟩:Shared).TypeIs (.ref a) "list" := fun _=>⟨_,hx,rfl⟩
 have f1:=sub_AttributeError
 have f3:=PySem.F.slot_list_getattribute.lookup
 have f4:=PySem.F.slot_list_getattribute.bind (.ref a)
 have f5:=am_list_getattr_none
 unfold getAttr? getAttrBy? getAttrBy
 repeat (any_goals (first | assumption | exact hT _ | ((with_reducible show wpAny _ _ (call (Value.builtin "list.__getattribute__") _ _) _ _ _); refine call_meets PySem.F.slot_list_getattribute (hT _) am_entry_list_getattribute (PySem.F.args_list_getattribute_2 _ _) (meets_getattribute_miss_list a xs k sl name _ hmiss hname hsz) ⟨hx,hA,fun h' tk' e hx'=>?_⟩) | wp_step))
 obtain ⟨t',u',he⟩:=hx'.there
 show wpAny _ _ (getattributeRaised _ _ _ _ _ _ _) _ _ _
 unfold getattributeRaised
 repeat (any_goals (first | assumption | wp_step))
 exact h _ _ hx'.of.keeps
theorem zFz:entryFor table "dict.update.loop" = some Builtin.«dict.update.loop»:=entryFor_of_tree (by kernel_rfl)
theorem zBQ:plainId "dict.update.loop" = true:=by decide +kernel
theorem zLV {κ:Type} [DecidableEq κ] {kvs:List (κ × Value)}{k:κ}{v:Value} (h:k ∉ kvs.map (·.1)):stored kvs k v=kvs++[(k,v)]:=by
 unfold stored
 rw [if_neg]
 rw [List.any_eq_true]
 rintro ⟨kv,hkv,he⟩
 exact h (List.mem_map.mpr ⟨kv,hkv,of_decide_eq_true he⟩)
section
variable {prog:Program}{w:World}{A:Around}{R:Result->Shared->Prop}
theorem zLW {I ax D:Addr}{items:Array Value}{kvs:List (Str × Value)} (hh:A.in1.handled=none) (hIx:ax≠I) (hDI:D≠I) (hDx:D≠ax) (hlen:kvs.length=items.size) (hz:kvs.length<=1000) (nd:(kvs.map (·.1)).Nodup) :
  ∀ (m i:Nat) (s:Shared),items.size - i=m->i<=items.size->(s.heap.IsListIter I ax i/\s.heap.IsList ax items) ->
   (∀ (j:Nat) (v:Value),items[j]?=some v->∃ q,kvs[j]?=some q/\∃ b o t n,v=Value.ref b/\b≠D/\b≠I/\s.heap.get? b=some o/\o.cls=.type "tuple" /\ o.data=.seq #[.str q.1 t,q.2] n) ->
   s.heap.DictOf (vP prog w) D ((kvs.take i).map fun q=>((Sum.inr q.1:zV),q.2)) ->
   (∀ h' tk,(∀ b o,b≠D->b≠I->s.heap.get? b=some o->h'.get? b=some o)->h'.DictOf (vP prog w) D (kvs.map fun q=>((Sum.inr q.1:zV),q.2))->R (.ok (.ret .none)) { s with heap:=h',toks:=tk }) ->
   ∀ n:Tok,codeAny (model prog w) A (.builtin "dict.update.loop" ⟨[.ref D,.ref I,.int (i:Int) n,.none],[]⟩) R s:=by
 have W:=Walks.list (prog:=prog) (w:=w) (A:=A.in1) hh I ax hIx items
 intro m
 induction m with
 | zero =>
  intro i s hm hi st hp hd hR n
  have hin:i=items.size:=by omega
  subst hin
  refine codeAny_builtin zFz ?_
  rw [Around.under_plainId zBQ _]
  show wpAny _ A.in1 (pyNext (.ref I) >>= _) _ _ s
  refine wpAny_bind (W.done s _ _ st fun h' tk hk=>?_)
  show wpAny _ A.in1 (Builtin.Dict.addKeywords D [] >>= _) _ _ _
  refine wpAny_bind (wpAny_pure (wpAny_pure (hR h' tk (fun b o h1 h2 e=>hk b o (by simpa using h2) e) ?_)))
  rw [<- hlen,List.take_length] at hd
  obtain ⟨o,es,ep,ho,vI⟩:=hd
  exact ⟨o,es,ep,hk D o (by simpa using hDI) ho,vI⟩
 | succ m ih =>
  intro i s hm hi st hp hd hR n
  have hlt:i < items.size:=by omega
  refine codeAny_builtin zFz ?_
  rw [Around.under_plainId zBQ _]
  show wpAny _ A.in1 (pyNext (.ref I) >>= _) _ _ s
  refine wpAny_bind (W.item i s _ _ hlt st fun v h1 tk hv st1 hk=>?_)
  obtain ⟨q,hq,b,o,t,nn,rfl,hbD,hbI,ho,hoc,hod⟩:=hp i v hv
  have ho1:h1.get? b=some o:=hk b o (by simpa using hbI) ho
  have hd1:h1.DictOf (vP prog w) D ((kvs.take i).map fun q=>((Sum.inr q.1:zV),q.2)):=by
   obtain ⟨o',es,ep,ho',vI⟩:=hd
   exact ⟨o',es,ep,hk D o' (by simpa using hDI) ho',vI⟩
  show wpAny _ A.in1 (holding [Value.ref b] _ >>= _) _ _ _
  refine wpAny_bind (wpAny_holding ?_)
  have hT:Shared.TypeIs { s with heap:=h1,toks:=tk } (.ref b) "tuple" := ⟨o,ho1,hoc⟩
  refine wpAny_bind (wpAny_tryCatch ?_)
  unfold Builtin.Dict.pairItems
  refine wpAny_bind (wpAny_typeOf hT ?_)
  rw [if_pos (by decide)]
  refine wpAny_bind (wpAny_seqItems ho1 hod (wpAny_pure ?_))
  show wpAny _ A.in1 (holding [Value.str q.1 t,q.2] (dictSet D (.str q.1 t) q.2)) _ _ _
  have hqi:kvs[i]?=some q:=hq
  have hi':i < kvs.length:=(List.getElem?_eq_some_iff.mp hqi).1
  have eq1:kvs[i]=q:=(List.getElem?_eq_some_iff.mp hqi).2
  refine wpAny_holding (wpAny_dictSet_pairs (knd:=vP prog w) (k:=Sum.inr q.1) (s:={ s with heap:=h1,toks:=tk }) (zEW prog w q.1 t) hd1 (fun h2 hd2 hs2=>?_) (by rw [List.length_map,List.length_take,sizeLine_eq]; omega))
  have hnew:(Sum.inr q.1:zV) ∉ (((kvs.take i).map fun q=>((Sum.inr q.1:zV),q.2)).map (·.1)):=by
   rw [List.map_map]
   intro hm
   obtain ⟨p,hp',e⟩:=List.mem_map.mp hm
   have e':p.1=q.1:=Sum.inr.inj e
   obtain ⟨j,hj,ej⟩:=List.getElem_of_mem hp'
   have hj1:j < i:=by rw [List.length_take] at hj; omega
   have hj2:j < kvs.length:=by omega
   rw [List.getElem_take] at ej
   have:=(List.getElem_inj (xs:=kvs.map (·.1)) (h₀:=by simpa using hj2) (h₁:=by simpa using hi') nd).mp (by rw [List.getElem_map,List.getElem_map,ej,eq1]; exact e')
   omega
  rw [zLV hnew] at hd2
  have ed:((kvs.take i).map fun q=>((Sum.inr q.1:zV),q.2))++[((Sum.inr q.1:zV),q.2)]=(kvs.take (i+1)).map fun q=>((Sum.inr q.1:zV),q.2):=by
   rw [List.take_succ_eq_append_getElem hi',eq1,List.map_append]; rfl
  rw [ed] at hd2
  show wpAny _ A.in1 (again _) _ _ _
  refine wpAny_pure ⟨plainId_quiet zBQ _,?_⟩
  have keep:∀ b o,b≠D->b≠I->s.heap.get? b=some o->h2.get? b=some o:=fun b o e1 e2 e=>by
   rw [hs2.2 b e1]; exact hk b o (by simpa using e2) e
  refine ih (i+1) { s with heap:=h2,toks:=tk+1 } (by omega) hlt (W.frame _ h1 h2 st1 fun b hb o e=>?_) (fun j v hv=>?_) hd2 (fun h' tk' hk' hd'=>hR h' tk' (fun b o e1 e2 e=>hk' b o e1 e2 (keep b o e1 e2 e)) hd') _
  ·rw [hs2.2 b]
   ·exact e
   ·rintro rfl
    rcases List.mem_cons.mp hb with z | z
    ·exact hDI z
    ·exact hDx (by simpa using z)
  ·obtain ⟨q',hq',b',o',t',n',e1,e2,e3,e4,e5⟩:=hp j v hv
   exact ⟨q',hq',b',o',t',n',e1,e2,e3,keep b' o' e2 e3 e4,e5⟩
theorem zLX {E:Value->Shared->Prop}{s:Shared}{l:Addr}{items:Array Value}{kvs:List (Str × Value)}{Q:Value->Shared->Prop} (hh:A.handled=none) (hl:PlainL s.heap l items) (hlen:kvs.length=items.size) (hz:kvs.length<=1000) (nd:(kvs.map (·.1)).Nodup)
  (hp:∀ (j:Nat) (v:Value),items[j]?=some v->∃ q,kvs[j]?=some q/\∃ b o t n,v=Value.ref b/\s.heap.get? b=some o/\o.cls=.type "tuple" /\ o.data=.seq #[.str q.1 t,q.2] n)
  (h:∀ h' tk,(∀ b o,s.heap.get? b=some o->h'.get? b=some o)->h'.DictOf (vP prog w) s.heap.objs.size (kvs.map fun q=>((Sum.inr q.1:zV),q.2))->Q (.ref s.heap.objs.size) { s with heap:=h',toks:=tk }) :
  wpAny (model prog w) A (call (.type "dict") [.ref l]) Q E s:=by
 refine callType_codes (Q₁:=fun obj s₁=>obj=.ref s.heap.objs.size/\s₁={ s with heap:=s.heap.push { cls:=.type "dict",data:=.dict #[] } }) PySem.F.kt_called_dict (PySem.F.kt_typeCall_dict_1 _) PySem.F.entry_dict_init (kt_code_dict_new _ ⟨rfl,rfl⟩) ?_
 rintro obj s₁ ⟨rfl,rfl⟩
 have hnew:(s.heap.push { cls:=.type "dict",data:=.dict #[] }).DictOf (vP prog w) s.heap.objs.size []:=Heap.DictOf.new s.heap
 obtain ⟨o,n,ho,hc,hdn,hd⟩:=id hl
 have hlS:l < s.heap.objs.size:=Heap.lt_size ho
 have ho1:(s.heap.push { cls:=.type "dict",data:=.dict #[] }).get? l=some o:=Heap.get?_push_of_some _ ho
 refine ⟨hnew.typeIs,PySem.F.args_dict_init_2 _ _,?_⟩
 unfold Builtin.«dict.__init__»
 refine wpAny_bind ?_
 unfold Builtin.Dict.selfAndRest
 refine wpAny_bind (wpAny_notOrdered_dict hnew.typeIs ?_)
 show wpAny _ _ (pure (s.heap.objs.size,[Value.ref l])) _ _ _
 refine wpAny_pure ?_
 show wpAny _ _ (Builtin.Dict.updateFrom "dict.__init__" s.heap.objs.size (.ref l) [] .none) _ _ _
 unfold Builtin.Dict.updateFrom
 have hT:Shared.TypeIs { s with heap:=s.heap.push { cls:=.type "dict",data:=.dict #[] } } (.ref l) "list" := ⟨o,ho1,hc⟩
 refine wpAny_bind (wpAny_typeOf hT ?_)
 rw [if_pos (by decide)]
 refine wpAny_bind (zLU ho1 hc hd hdn zLT (by decide) (by simp [hh]) (fun h2 tk2 hk2=>?_))
 rw [if_pos (show (none:Option Value).isNone=true from rfl)]
 refine wpAny_bind (wpAny_rule (wpAny_bind ?_))
 have hl2:h2.IsList l items:=⟨o,hk2 _ _ ho1,hc,n,hd⟩
 refine wpAny_pyIter_list (s:={ s with heap:=h2,toks:=tk2 }) hl2 ?_
 have hDsz:s.heap.objs.size < h2.objs.size:=by
  obtain ⟨o',es,ep,ho',_⟩:=hnew
  exact Heap.lt_size (hk2 _ _ ho')
 have hlsz:l < h2.objs.size:=Nat.lt_trans hlS hDsz
 refine wpAny_pure ⟨plainId_quiet zBQ _,?_⟩
 have old:∀ b o,s.heap.get? b=some o->h2.get? b=some o:=fun b o e=>hk2 b o (Heap.get?_push_of_some _ e)
 refine zLW (I:=h2.objs.size) (ax:=l) (D:=s.heap.objs.size) (items:=items) (kvs:=kvs) (by simp [hh]) (Nat.ne_of_lt hlsz) (Nat.ne_of_lt hDsz) (Nat.ne_of_gt hlS) hlen hz nd items.size 0 _ rfl (Nat.zero_le _)
  ⟨⟨_,Heap.get?_push_size _ rfl,rfl,rfl⟩,hl2.push _⟩ (fun j v hv=>?_) ?_ (fun h' tk' hk' hd'=>⟨rfl,h h' tk' (fun b o e=>?_) hd'⟩) _
 ·obtain ⟨q,hq,b,ob,t,nn,e1,e2,e3,e4⟩:=hp j v hv
  exact ⟨q,hq,b,ob,t,nn,e1,Nat.ne_of_lt (Heap.lt_size e2),Nat.ne_of_lt (Nat.lt_trans (Heap.lt_size e2) hDsz),Heap.get?_push_of_some _ (old _ _ e2),e3,e4⟩
 ·rw [List.take_zero]
  obtain ⟨o',es,ep,ho',vI⟩:=hnew
  exact ⟨o',es,ep,Heap.get?_push_of_some _ (hk2 _ _ ho'),vI⟩
 ·exact hk' b o (Nat.ne_of_lt (Heap.lt_size e)) (Nat.ne_of_lt (Nat.lt_trans (Heap.lt_size e) hDsz)) (Heap.get?_push_of_some _ (old _ _ e))
end
section
variable {X:Cx}
def zCn (K:PySem.W.Frag) (H:Hp) (ts:List V) (kvs:List (Str × V)):Prop:=ts.length=kvs.length/\∀ (i:Nat) (q:Str × V),kvs[i]?=some q->∃ a,ts[i]?=some (.ref a)/\zZ K H a [.str q.1,q.2]
theorem zLY {pins:List (Addr × Obj)}{σ:St}{H:Hp}{s:Shared} (I:Inv X pins σ H s) {ts:List V}{kvs:List (Str × V)}{its:List Value} (hp:zCn X.K H ts kvs) (rv:zM ts its) :
  ∃ ws:List (Str × Value),KV kvs ws/\∀ (j:Nat) (v:Value),its[j]?=some v->∃ q,ws[j]?=some q/\∃ b o t n,v=Value.ref b/\s.heap.get? b=some o/\o.cls=.type "tuple" /\ o.data=.seq #[.str q.1 t,q.2] n:=by
 have one:∀ (i:Nat) (q:Str × V) (u:Value),kvs[i]?=some q->its[i]?=some u->∃ x,zT q.2 x/\∃ b o t n,u=Value.ref b/\s.heap.get? b=some o/\o.cls=.type "tuple" /\ o.data=.seq #[.str q.1 t,x] n:=fun i q u hq hu=>by
  obtain ⟨a,ha,hs⟩:=hp.2 i q hq
  obtain ⟨u',e1,e2⟩:=rv.get ha
  rw [hu] at e1
  cases e1
  cases e2
  obtain ⟨its2,r2,⟨o,ho,hc,n,hd⟩,_⟩:=I.tuple hs
  obtain ⟨x1,x2,rfl,rx1,rx2⟩:=zAV r2
  obtain ⟨t,rfl⟩:=rx1
  exact ⟨x2,rx2,a,o,t,n,rfl,ho,hc,hd⟩
 have hl:its.length=kvs.length:=by rw [<- rv.length]; exact hp.1
 clear hp rv
 induction kvs generalizing its with
 | nil =>
  refine ⟨[],.nil,fun j v hv=>?_⟩
  have:its=[]:=by simpa using hl
  rw [this] at hv; simp at hv
 | cons q kvs ih =>
  cases its with
  | nil=>simp at hl
  | cons u its =>
   obtain ⟨x,rx,hx⟩:=one 0 q u rfl rfl
   obtain ⟨ws,kv,hws⟩:=ih (its:=its) (fun i q' u' h1 h2=>one (i+1) q' u' (by simpa using h1) (by simpa using h2)) (by simpa using hl)
   refine ⟨(q.1,x)::ws,.cons ⟨rfl,rx⟩ kv,fun j v hv=>?_⟩
   cases j with
   | zero =>
    have:u=v:=by simpa using hv
    subst this
    exact ⟨_,rfl,hx⟩
   | succ j =>
    obtain ⟨q',e1,e2⟩:=hws j v (by simpa using hv)
    exact ⟨q',by simpa using e1,e2⟩
theorem KV.enc {kvs:List (Str × V)}{ws:List (Str × Value)} (h:KV kvs ws):KV (q8 kvs) (ws.map fun q=>((Sum.inr q.1:zV),q.2)):=by
 induction h with
 | nil=>exact .nil
 | cons h t ih=>exact .cons ⟨congrArg Sum.inr h.1,h.2⟩ ih
def zLZ (K:PySem.W.Frag):List V->Hp->VK->Prop:=fun xs H Q=>∃ p ts kvs,xs=[.ref p]/\yC K H p ts/\zCn K H ts kvs/\(kvs.map (·.1)).Nodup/\kvs.length<=1000/\∀ d,H d=none->Q (.ref d) (upd H d (.dK (q8 kvs)))
theorem zLa (hc:X.calm=true):qF X (.type "dict") (zLZ X.K):=by
 intro pins s σ H xs us Q I rx h
 obtain ⟨p,ts,kvs,rfl,hp,hprs,nd,hz,q⟩:=h
 obtain ⟨u,rfl,ru⟩:=uU rx
 cases ru
 obtain ⟨its,rv,pl,_⟩:=I.list hp
 obtain ⟨ws,kv,hws⟩:=zLY I hprs rv
 have hl:ws.length=kvs.length:=(Paired.length kv).symm
 have hits:its.length=kvs.length:=by rw [<- rv.length]; exact hprs.1
 refine zLX (kvs:=ws) (I.ok.hd hc) pl (by rw [hl]; simp [hits]) (by omega) (by rw [<- kv.keys]; exact nd) (fun j v hv=>hws j v (by simpa using hv)) fun h' tk hk hd=>?_
 have hlo:(s.heap.objs.size == sysModules)=false:=by
  have h0:=I.big
  have h1:s.heap.objs.size≠sysModules:=Nat.ne_of_gt h0
  simpa using h1
 exact ⟨.ref s.heap.objs.size,_,I.laid (t':=tk) (o:=.dK (q8 kvs)) hk (Nat.le_refl _) (zCb (by simp [q8]; rw [sizeLine_eq]; omega) hlo kv.enc hd),rfl,q _ (I.hok.fresh (Nat.le_refl _))⟩
end
end L2
end
section
set_option autoImplicit false
namespace Kn
abbrev S:=List Nat
section
variable {κ α:Type} [DecidableEq κ]
def z3:List (κ × α)->κ->α->List (κ × α)
 | [],k,v=>[(k,v)]
 | (k',v')::r,k,v=>if k'=k then (k',v)::r else (k',v')::z3 r k v
def zS:List (κ × α)->κ->Option α
 | [],_=>none
 | (k',v')::r,k=>if k'=k then some v' else zS r k
theorem zBR (l:List (κ × α)) (k k':κ) (v:α):zS (z3 l k v) k'=if k=k' then some v else zS l k':=by
 induction l with
 | nil=>simp [z3,zS]
 | cons p r ih =>
  obtain ⟨k0,v0⟩:=p
  by_cases h:k0=k
  ·subst h
   by_cases h':k0=k' <;> simp [z3,zS,h']
  ·simp only [z3,if_neg h,zS,ih]
   by_cases h1:k0=k'
   ·subst h1
    rw [if_pos rfl,if_pos rfl,if_neg (fun e=>h e.symm)]
   ·rw [if_neg h1,if_neg h1]
theorem zLb (l:List (κ × α)) (k:κ) (v:α):(z3 l k v).map (·.1)=if k∈l.map (·.1) then l.map (·.1) else l.map (·.1)++[k]:=by
 induction l with
 | nil=>simp [z3]
 | cons p r ih =>
  obtain ⟨k0,v0⟩:=p
  by_cases h:k0=k
  ·subst h; simp [z3]
  ·have h':¬ k=k0:=fun e=>h e.symm
   simp only [z3,if_neg h,List.map_cons,ih,List.mem_cons,h',false_or]
   split <;> simp
theorem zCo {l:List (κ × α)}{k:κ}{v:α} (h:(l.map (·.1)).Nodup):((z3 l k v).map (·.1)).Nodup:=by
 rw [zLb]
 split
 ·exact h
 ·rename_i hk
  exact List.nodup_append.mpr ⟨h,by simp,fun a ha b hb e=>by
   have:b=k:=by simpa using hb
   subst this; subst e; exact hk ha⟩
theorem uO {l:List (κ × α)} (h:(l.map (·.1)).Nodup) (k:κ) (v:α):(k,v)∈l↔zS l k=some v:=by
 induction l with
 | nil=>simp [zS]
 | cons p r ih =>
  obtain ⟨k0,v0⟩:=p
  have h1:k0 ∉ r.map (·.1):=(List.nodup_cons.mp h).1
  have h2:=ih (List.nodup_cons.mp h).2
  by_cases e:k0=k
  ·subst e
   have g:zS ((k0,v0)::r) k0=some v0:=by simp [zS]
   rw [g,List.mem_cons]
   constructor
   ·rintro (z | z)
    ·rw [(Prod.mk.inj z).2]
    ·exact absurd (List.mem_map_of_mem (f:=(·.1)) z) h1
   ·intro z; rw [Option.some.inj z]; exact .inl rfl
  ·simp only [zS,if_neg e,List.mem_cons,Prod.mk.injEq]
   rw [<- h2]
   constructor
   ·rintro (z | z)
    ·exact absurd z.1.symm e
    ·exact z
   ·intro z; exact .inr z
theorem zGA {l:List (κ × α)}{k:κ}:zS l k=none↔k ∉ l.map (·.1):=by
 induction l with
 | nil=>simp [zS]
 | cons p r ih =>
  obtain ⟨k0,v0⟩:=p
  by_cases e:k0=k
  ·subst e; simp [zS]
  ·have e':¬ k=k0:=fun z=>e z.symm
   simp only [zS,if_neg e,ih,List.map_cons,List.mem_cons,e',false_or]
end
def uG (row:List (S × Int)) (l:S):List (S × Int):=z3 row l ((zS row l).getD 0+1)
def qT (rows:List (S × List (S × Int))) (p:S × S):List (S × List (S × Int)):=z3 rows p.1 (uG ((zS rows p.1).getD []) p.2)
def vV (ps:List (S × S)):List (S × List (S × Int)):=ps.foldl qT []
theorem zLc (ps:List (S × S)) (p:S × S):vV (ps++[p])=qT (vV ps) p:=by
 unfold vV; rw [List.foldl_append]; rfl
def zQ (t:S) (o:Nat):S:=t.drop (t.length - o)
def zN (o:Nat) (nm:S):List (S × S):=(List.range (nm.length+1)).map fun p=>(zQ (nm.take p) o,(nm.drop p).take 1)
def zD (o:Nat) (bk:List S):List (S × S):=bk.flatMap (zN o)
structure RowsOk (ps:List (S × S)) (rows:List (S × List (S × Int))):Prop where
 nd:(rows.map (·.1)).Nodup
 ndr:∀ e row,(e,row)∈rows->(row.map (·.1)).Nodup
 val:∀ e l,zS ((zS rows e).getD []) l=if 0 < ps.count (e,l) then some (ps.count (e,l):Int) else none
 has:∀ e,(∃ row,zS rows e=some row)↔∃ l,(e,l)∈ps
theorem u9 (ps:List (S × S)):RowsOk ps (vV ps):=by
 suffices h:∀ (qs ps:List (S × S)) rows,RowsOk ps rows->RowsOk (ps++qs) (qs.foldl qT rows) by
  have:=h ps [] [] ⟨by simp,by simp,by simp [zS],by simp [zS]⟩
  simpa [vV] using this
 intro qs
 induction qs with
 | nil=>intro ps rows h; simpa using h
 | cons q qs ih =>
  intro ps rows h
  obtain ⟨e0,l0⟩:=q
  have step:RowsOk (ps++[(e0,l0)]) (qT rows (e0,l0)):=by
   have hrow:((((zS rows e0).getD []).map (·.1))).Nodup:=by
    cases g:zS rows e0 with
    | none=>simp
    | some row=>exact h.ndr e0 row ((uO h.nd e0 row).mpr g)
   refine ⟨zCo h.nd,fun e row hm=>?_,fun e l=>?_,fun e=>?_⟩
   ·have hm':=(uO (zCo h.nd) e row).mp hm
    unfold qT at hm'
    rw [zBR] at hm'
    split at hm'
    ·have:=Option.some.inj hm'
     rw [<- this]
     exact zCo hrow
    ·exact h.ndr e row ((uO h.nd e row).mpr hm')
   ·unfold qT
    rw [zBR]
    by_cases he:e0=e
    ·subst he
     rw [if_pos rfl]
     show zS (uG ((zS rows e0).getD []) l0) l=_
     unfold uG
     rw [zBR,h.val e0 l0]
     by_cases hl:l0=l
     ·subst hl
      rw [if_pos rfl,List.count_append]
      have e1:List.count (e0,l0) [(e0,l0)]=1:=by simp
      rw [e1]
      by_cases hc:0 < List.count (e0,l0) ps
      ·simp [hc]
      ·have:List.count (e0,l0) ps=0:=by omega
       simp [this]
     ·rw [if_neg hl,h.val e0 l,List.count_append]
      have e1:List.count (e0,l) [(e0,l0)]=0:=by
       simp [List.count_cons,hl]
      rw [e1,Nat.add_zero]
    ·rw [if_neg he]
     rw [h.val e l,List.count_append]
     have e1:List.count (e,l) [(e0,l0)]=0:=by
      simp [List.count_cons,he]
     rw [e1,Nat.add_zero]
   ·unfold qT
    rw [zBR]
    by_cases he:e0=e
    ·subst he
     rw [if_pos rfl]
     exact ⟨fun _=>⟨l0,by simp⟩,fun _=>⟨_,rfl⟩⟩
    ·rw [if_neg he,h.has e]
     constructor
     ·rintro ⟨l,hl⟩; exact ⟨l,List.mem_append_left _ hl⟩
     ·rintro ⟨l,hl⟩
      rcases List.mem_append.mp hl with z | z
      ·exact ⟨l,z⟩
      ·have:(e,l)=(e0,l0):=by simpa using z
       exact absurd (congrArg Prod.fst this).symm he
  have:=ih (ps++[(e0,l0)]) (qT rows (e0,l0)) step
  simpa using this
def Ris {α:Type} (xs:List (S × α)):Prop:=xs.Pairwise fun a b=>a.1 < b.1
theorem zAF (a:S):¬ a < a:=List.lt_irrefl a
theorem zGB {a b c:S} (h1:a < b) (h2:b < c):a < c:=List.lt_trans h1 h2
theorem Ris.keys {α:Type}{xs:List (S × α)} (h:Ris xs):(xs.map (·.1)).Nodup:=by
 unfold Ris at h
 rw [List.Nodup,List.pairwise_map]
 exact h.imp fun {a b} hab (e:a.1=b.1)=>zAF b.1 (e ▸ hab)
structure IsRow (ps:List (S × S)) (e:S) (xs:List (S × Int)):Prop where
 ris:Ris xs
 mem:∀ l n,(l,n)∈xs↔n=(ps.count (e,l):Int)/\0 < n
theorem IsRow.of {ps:List (S × S)}{rows:List (S × List (S × Int))} (h:RowsOk ps rows) {e:S}{xs:List (S × Int)} (hr:Ris xs) (hp:xs.Perm ((zS rows e).getD [])):IsRow ps e xs:=by
 refine ⟨hr,fun l n=>?_⟩
 have hnd:(((zS rows e).getD []).map (·.1)).Nodup:=by
  cases g:zS rows e with
  | none=>simp
  | some row=>exact h.ndr e row ((uO h.nd e row).mpr g)
 rw [hp.mem_iff,uO hnd,h.val]
 by_cases c:0 < List.count (e,l) ps
 ·rw [if_pos c]
  constructor
  ·intro z
   have:=Option.some.inj z
   omega
  ·rintro ⟨z,_⟩; rw [z]
 ·rw [if_neg c]
  constructor
  ·intro z; cases z
  ·rintro ⟨z1,z2⟩; omega
theorem zCp {β:Type} [BEq β] [LawfulBEq β]:∀ (ps ks:List β),ks.Nodup->(∀ x∈ps,x∈ks)->(ks.map fun k=>(ps.count k:Int)).sum=(ps.length:Int)
 | [],ks,_,_=>by
  have:(ks.map fun k=>(([]:List β).count k:Int))=ks.map fun _=>(0:Int):=by simp
  rw [this]
  induction ks with
  | nil=>rfl
  | cons k r ih=>simp_all
 | x::ps,ks,nd,h=>by
  have ih:=zCp ps ks nd fun y hy=>h y (List.mem_cons_of_mem _ hy)
  have no:∀ (ks:List β),x ∉ ks->(ks.map fun k=>((x::ps).count k:Int)).sum=(ks.map fun k=>(ps.count k:Int)).sum:=by
   intro ks
   induction ks with
   | nil=>intro _; rfl
   | cons k r ih =>
    intro hx
    have hx1:¬ x=k:=fun e=>hx (e ▸ List.mem_cons_self ..)
    have hx2:x ∉ r:=fun e=>hx (List.mem_cons_of_mem _ e)
    simp only [List.map_cons,List.sum_cons,ih hx2,List.count_cons_of_ne hx1]
  have one:∀ (ks:List β),ks.Nodup->x∈ks->(ks.map fun k=>((x::ps).count k:Int)).sum=(ks.map fun k=>(ps.count k:Int)).sum+1:=by
   intro ks
   induction ks with
   | nil=>intro _ hx; cases hx
   | cons k r ih =>
    intro nd hx
    have hk:=(List.nodup_cons.mp nd).1
    by_cases e:x=k
    ·subst e
     simp only [List.map_cons,List.sum_cons,no r hk,List.count_cons_self]
     omega
    ·have hx':x∈r:=(List.mem_cons.mp hx).elim (fun z=>absurd z e) id
     simp only [List.map_cons,List.sum_cons,ih (List.nodup_cons.mp nd).2 hx',List.count_cons_of_ne e]
     omega
  rw [one ks nd (h x (List.mem_cons_self ..)),ih,List.length_cons]
  omega
theorem IsRow.total {ps:List (S × S)}{e:S}{xs:List (S × Int)} (a:IsRow ps e xs):(xs.map (·.2)).sum=((ps.filter fun p=>p.1=e).length:Int):=by
 have h:=zCp (ps.filter fun p=>decide (p.1=e)) (xs.map fun p=>(e,p.1)) ?_ ?_
 ·rw [<- h,List.map_map]
  congr 1
  apply List.map_congr_left
  rintro ⟨l,n⟩ hm
  have:=((a.mem l n).mp hm).1
  show n=(List.count (e,l) (ps.filter fun p=>decide (p.1=e)):Int)
  rw [List.count_filter (by simp)]
  exact this
 ·have:=a.ris.keys
  rw [List.Nodup,List.pairwise_map] at this ⊢
  exact this.imp fun {p q} hpq z=>hpq (congrArg Prod.snd z)
 ·rintro ⟨e',l⟩ hm
  obtain ⟨h1,h2⟩:=List.mem_filter.mp hm
  have h2':e'=e:=by simpa using h2
  subst h2'
  exact List.mem_map.mpr ⟨(l,(ps.count (e',l):Int)),(a.mem l _).mpr ⟨rfl,by
   have:=List.count_pos_iff.mpr h1
   omega⟩,rfl⟩
theorem zLd (o:Nat) (a b:List S):zD o (a++b)=zD o a++zD o b:=by
 unfold zD; rw [List.flatMap_append]
theorem zBS (o:Nat) (a:List S):((zD o a).length:Int)=(a.map fun x=>(x.length:Int)+1).sum:=by
 induction a with
 | nil=>rfl
 | cons x r ih =>
  have e1:zD o (x::r)=zN o x++zD o r:=rfl
  rw [e1,List.length_append,List.map_cons,List.sum_cons,<- ih]
  simp [zN]
end Kn
end
section
set_option autoImplicit false
namespace Kn
def vC (a b:Int):Int:=(Int.gcd a b:Int)
def low (u d:Int):Int × Int:=(u / vC u d,d / vC u d)
structure Fq (q:Int × Int):Prop where
 up:0<=q.1
 dn:0 < q.2
 co:Int.gcd q.1 q.2=1
theorem zBT {u d:Int} (hd:0 < d):0 < vC u d:=by
 have:0 < Int.gcd u d:=Int.gcd_pos_iff.mpr (.inr (by omega))
 unfold vC; omega
theorem zLe (u d:Int):u=vC u d * (u / vC u d):=(Int.mul_ediv_cancel' (by unfold vC; exact Int.gcd_dvd_left ..)).symm
theorem zGC (u d:Int):d=vC u d * (d / vC u d):=(Int.mul_ediv_cancel' (by unfold vC; exact Int.gcd_dvd_right ..)).symm
theorem zBU {u d:Int} (hd:0 < d):(low u d).1 * d=u * (low u d).2:=by
 have h1:=zLe u d
 have h2:=zGC u d
 show u / vC u d * d=u * (d / vC u d)
 generalize vC u d=g at *
 generalize u / g=a at *
 generalize d / g=b at *
 rw [h1,h2,<- Int.mul_assoc,Int.mul_comm a g]
theorem zAg {u d:Int} (hu:0<=u) (hd:0 < d):Fq (low u d):=by
 have hg:=zBT (u:=u) hd
 refine ⟨Int.ediv_nonneg hu (Int.le_of_lt hg),?_,?_⟩
 ·have h2:=zGC u d
  show 0 < d / vC u d
  rcases Int.lt_trichotomy (d / vC u d) 0 with h | h | h
  ·have:=Int.mul_neg_of_pos_of_neg hg h
   omega
  ·rw [h,Int.mul_zero] at h2; omega
  ·exact h
 ·show Int.gcd (u / vC u d) (d / vC u d)=1
  unfold vC at *
  have hg':0 < Int.gcd u d:=by omega
  rw [Int.gcd_ediv (Int.gcd_dvd_left ..) (Int.gcd_dvd_right ..)]
  simp
  exact Nat.div_self hg'
theorem Fq.ext {p q:Int × Int} (a:Fq p) (b:Fq q) (h:p.1 * q.2=q.1 * p.2):p=q:=by
 obtain ⟨p1,p2⟩:=p
 obtain ⟨q1,q2⟩:=q
 obtain ⟨a1,a2,a3⟩:=a
 obtain ⟨b1,b2,b3⟩:=b
 dsimp only at *
 obtain ⟨x,rfl⟩:=Int.eq_ofNat_of_zero_le a1
 obtain ⟨y,rfl⟩:=Int.eq_ofNat_of_zero_le (Int.le_of_lt a2)
 obtain ⟨z,rfl⟩:=Int.eq_ofNat_of_zero_le b1
 obtain ⟨w,rfl⟩:=Int.eq_ofNat_of_zero_le (Int.le_of_lt b2)
 have h':x * w=z * y:=by exact_mod_cast h
 have a3':Nat.gcd x y=1:=by simpa [Int.gcd] using a3
 have b3':Nat.gcd z w=1:=by simpa [Int.gcd] using b3
 have hy:0 < y:=by omega
 have hw:0 < w:=by omega
 have d1:y ∣ w:=Nat.Coprime.dvd_of_dvd_mul_left (m:=x) (by rw [Nat.Coprime,Nat.gcd_comm]; exact a3') (by rw [h']; exact Nat.dvd_mul_left ..)
 have d2:w ∣ y:=Nat.Coprime.dvd_of_dvd_mul_left (m:=z) (by rw [Nat.Coprime,Nat.gcd_comm]; exact b3') (by rw [<- h']; exact Nat.dvd_mul_left ..)
 have e:y=w:=Nat.dvd_antisymm d1 d2
 subst e
 have:x=z:=Nat.eq_of_mul_eq_mul_right hy h'
 rw [this]
theorem zGD {u d:Int} (hu:0<=u) (hd:0 < d):(low u d).2<=d/\(low u d).1<=u:=by
 have hg:=zBT (u:=u) hd
 exact ⟨Int.ediv_le_self _ (by omega),Int.ediv_le_self _ hu⟩
def vR (p q:Int × Int):Int × Int:=low (p.1 * q.1) (p.2 * q.2)
def lss (p q:Int × Int):Bool:=decide (p.1 * q.2 < q.1 * p.2)
theorem zAG {p q:Int × Int} (a:Fq p) (b:Fq q):Fq (vR p q):=zAg (Int.mul_nonneg a.up b.up) (Int.mul_pos a.dn b.dn)
theorem zCq:Fq (0,1):=⟨by decide,by decide,by decide⟩
theorem zAh:Fq (1,1):=⟨by decide,by decide,by decide⟩
theorem zGE {d:Int} (hd:0 < d):low 0 d=(0,1):=by
 refine Fq.ext (zAg (Int.le_refl _) hd) zCq ?_
 have:=zBU (u:=0) hd
 rw [Int.zero_mul] at this
 have h0:(low 0 d).1=0:=by
  rcases Int.mul_eq_zero.mp this with h | h
  ·exact h
  ·omega
 rw [h0]; simp
theorem zLf {q:Int × Int} (b:Fq q):vR (0,1) q=(0,1):=by
 unfold vR
 have:((0:Int),(1:Int)).1 * q.1=0:=Int.zero_mul _
 rw [this]
 exact zGE (Int.mul_pos (by decide) b.dn)
theorem zLg {p:Int × Int} (a:Fq p):vR p (0,1)=(0,1):=by
 unfold vR
 have:p.1 * ((0:Int),(1:Int)).1=0:=Int.mul_zero _
 rw [this]
 exact zGE (Int.mul_pos a.dn (by decide))
theorem zLh {p q:Int × Int} (a:Fq p) (b:Fq q) (hp:0 < p.1) (hq:0 < q.1):0 < (vR p q).1:=by
 have f:=zAG a b
 have c:(vR p q).1 * (p.2 * q.2)=(p.1 * q.1) * (vR p q).2:=zBU (Int.mul_pos a.dn b.dn)
 rcases Int.lt_or_eq_of_le f.up with h | h
 ·exact h
 ·rw [<- h,Int.zero_mul] at c
  have h1:0 < p.1 * q.1:=Int.mul_pos hp hq
  have h2:0 < (p.1 * q.1) * (vR p q).2:=Int.mul_pos h1 f.dn
  omega
theorem zLi {u d:Int} (hu:0 < u) (hd:0 < d):0 < (low u d).1:=by
 have f:=zAg (Int.le_of_lt hu) hd
 have c:=zBU (u:=u) hd
 rcases Int.lt_or_eq_of_le f.up with h | h
 ·exact h
 ·rw [<- h,Int.zero_mul] at c
  have:=Int.mul_pos hu f.dn
  omega
theorem zGF {u d:Int} (hu:0<=u) (hd:0 < d) (h:u<=d):(low u d).1<=(low u d).2:=by
 have f:=zAg hu hd
 have c:=zBU (u:=u) hd
 by_cases hh:(low u d).1<=(low u d).2
 ·exact hh
 ·exfalso
  have h1:(low u d).2+1<=(low u d).1:=by omega
  have h2:((low u d).2+1) * d<=(low u d).1 * d:=Int.mul_le_mul_of_nonneg_right h1 (Int.le_of_lt hd)
  have h3:u * (low u d).2<=d * (low u d).2:=Int.mul_le_mul_of_nonneg_right h (Int.le_of_lt f.dn)
  rw [Int.add_mul,Int.one_mul,Int.mul_comm (low u d).2 d] at h2
  omega
theorem zLj {p q:Int × Int} (a:Fq p) (b:Fq q) (hp:p.1<=p.2) (hq:q.1<=q.2):(vR p q).1<=(vR p q).2 :=
 zGF (Int.mul_nonneg a.up b.up) (Int.mul_pos a.dn b.dn) (Int.mul_le_mul hp hq b.up (Int.le_of_lt a.dn))
end Kn
end
section
set_option autoImplicit false
namespace Kn
def tot (ps:List (S × S)) (e:S):Nat:=(ps.filter fun p=>p.1=e).length
def yN (ps:List (S × S)) (e l:S):Int × Int:=if ps.count (e,l)=0 then (0,1) else low (ps.count (e,l):Int) (tot ps e:Int)
def jB (ps:List (S × S)) (qs:List (S × S)):Int × Int:=qs.foldl (fun w p=>vR w (yN ps p.1 p.2)) (1,1)
def gR (ps:List (S × S)) (o:Nat) (nm:S):Int × Int:=jB ps (zN o nm)
theorem zAi (ps:List (S × S)) (e l:S):ps.count (e,l)<=tot ps e:=by
 unfold tot
 rw [<- List.count_filter (l:=ps) (p:=fun p=>decide (p.1=e)) (a:=(e,l)) (by simp)]
 exact List.count_le_length
theorem kG (ps:List (S × S)) (e l:S):Fq (yN ps e l):=by
 unfold yN
 split
 ·exact zCq
 ·have:=zAi ps e l
  exact zAg (by omega) (by omega)
theorem zGG (ps:List (S × S)) (e l:S):(yN ps e l).1<=(yN ps e l).2:=by
 unfold yN
 split
 ·decide
 ·have:=zAi ps e l
  exact zGF (by omega) (by omega) (by omega)
theorem zLk {ps:List (S × S)}{e l:S} (h:(e,l)∈ps):0 < (yN ps e l).1:=by
 have hc:=List.count_pos_iff.mpr h
 have:=zAi ps e l
 unfold yN
 rw [if_neg (by omega)]
 exact zLi (by omega) (by omega)
theorem zLl {ps:List (S × S)}{e l:S} (h:(e,l) ∉ ps):yN ps e l=(0,1):=by
 unfold yN
 rw [if_pos (List.count_eq_zero.mpr h)]
theorem zGH {ps:List (S × S)} (e l:S) (h:1<=ps.length):(yN ps e l).2<=(ps.length:Int):=by
 unfold yN
 split
 ·show (1:Int)<=_; omega
 ·have h1:=zAi ps e l
  have h2:tot ps e<=ps.length:=List.length_filter_le _ _
  have:=(zGD (u:=(ps.count (e,l):Int)) (d:=(tot ps e:Int)) (by omega) (by omega)).1
  omega
theorem zGI (ps:List (S × S)):∀ (qs:List (S × S)) (w:Int × Int),Fq w->Fq (qs.foldl (fun w p=>vR w (yN ps p.1 p.2)) w)
 | [],w,h=>h
 | q::qs,w,h=>zGI ps qs _ (zAG h (kG ps q.1 q.2))
theorem zGJ (ps:List (S × S)):∀ (qs:List (S × S)) (w:Int × Int),Fq w->w.1<=w.2->(qs.foldl (fun w p=>vR w (yN ps p.1 p.2)) w).1<=(qs.foldl (fun w p=>vR w (yN ps p.1 p.2)) w).2
 | [],w,_,h=>h
 | q::qs,w,f,h=>zGJ ps qs _ (zAG f (kG ps q.1 q.2)) (zLj f (kG ps q.1 q.2) h (zGG ps q.1 q.2))
theorem zGK (ps:List (S × S)):∀ (qs:List (S × S)) (w:Int × Int),Fq w->0 < w.1->(∀ q∈qs,q∈ps)->0 < (qs.foldl (fun w p=>vR w (yN ps p.1 p.2)) w).1
 | [],w,_,h,_=>h
 | q::qs,w,f,h,hq=>zGK ps qs _ (zAG f (kG ps q.1 q.2)) (zLh f (kG ps q.1 q.2) h (zLk (hq q (List.mem_cons_self ..)))) fun r hr=>hq r (List.mem_cons_of_mem _ hr)
theorem zGL (ps:List (S × S)):∀ (qs:List (S × S)),qs.foldl (fun w p=>vR w (yN ps p.1 p.2)) (0,1)=(0,1)
 | []=>rfl
 | q::qs=>by
  rw [List.foldl_cons,zLf (kG ps q.1 q.2)]
  exact zGL ps qs
theorem zGM {ps:List (S × S)} (h1:1<=ps.length):∀ (qs:List (S × S)) (w:Int × Int) (k:Nat),Fq w->w.2<=(ps.length:Int) ^ k->(qs.foldl (fun w p=>vR w (yN ps p.1 p.2)) w).2<=(ps.length:Int) ^ (k+qs.length)
 | [],w,k,_,h=>h
 | q::qs,w,k,f,h=>by
  have g:=kG ps q.1 q.2
  have e:k+(q::qs).length=(k+1)+qs.length:=by simp; omega
  rw [e,List.foldl_cons]
  refine zGM h1 qs _ (k+1) (zAG f g) ?_
  have a1:(vR w (yN ps q.1 q.2)).2<=w.2 * (yN ps q.1 q.2).2:=(zGD (Int.mul_nonneg f.up g.up) (Int.mul_pos f.dn g.dn)).1
  have a2:w.2 * (yN ps q.1 q.2).2<=(ps.length:Int) ^ k * (ps.length:Int):=Int.mul_le_mul h (zGH q.1 q.2 h1) (Int.le_of_lt g.dn) (by have:=f.dn; omega)
  rw [Int.pow_succ]
  omega
theorem zLm (a b:S) (h1:¬ a < b) (h2:¬ b < a):a=b:=List.le_antisymm (List.not_lt.mp h2) (List.not_lt.mp h1)
theorem zLn {p:Int × Int}:lss (0,1) p=decide (0 < p.1):=by
 simp only [lss]
 congr 1
 simp
end Kn
end
section
namespace Kn
open PySem L2
def zO (P:Program) (w:World) (K:PySem.W.Frag) (mg:Str->Option Value) (base:Heap) (k:Nat) (x:Str) (ps:List Str) (sp:Sp):Prop :=
 ∃ (f:Addr) (fd:FuncData),FnOk P w K mg base zY k f fd ps sp/\mg x=some (.ref f)/\PySem.W.keepIn K (.ref f)=true/\jP K fd ps []
theorem zK {X:Cx}{k:Nat}{x:Str}{ps:List Str}{sp:Sp}{p pos:Pos}{e:Expr}{es:List Expr}{t:TA} (C:zO X.prog X.w X.K X.mg X.base k x ps sp) (hr:Room k X.A) (hg:Gl X x) (ha:PA X (e::es) t)
  (hs:starEach (e::es) X.env=(false,eval e X.env)::starEach es X.env:=by rfl) (hplain:(backTo pos (starEach es X.env)).any (·.1)=false:=by rfl)
  (hdb:(x == ("__debug__" : Str))=false:=by decide):PE X (.Call (.Name x p) (e::es) [] pos) (zCV sp [] E0 t):=by
 obtain ⟨f,fd,G,hm,kp,b⟩:=C
 exact zEq G hr hg hm kp b .nil zKl ha hdb hs hplain
abbrev tx (x:S):Str:=⟨x.toArray⟩
abbrev sv (x:S):V:=.str (tx x)
theorem vM (x:S):(tx x).cps.toList=x:=by simp [tx]
theorem yJ (x:S):(tx x).length=x.length:=by simp [tx,Str.length]
theorem zAj {n i:Nat}{x:V} (h:((List.range n).map fun (i:Nat)=>V.int (0+(i:Int)))[i]?=some x):i < n/\x=.int i:=by
 have hi:i < n:=by
  have:=(List.getElem?_eq_some_iff.mp h).1
  simpa using this
 refine ⟨hi,?_⟩
 rw [List.getElem?_map,List.getElem?_range hi] at h
 have:=Option.some.inj h
 rw [<- this]
 show V.int (0+(i:Int))=V.int i
 rw [Int.zero_add]
theorem qI {ys:St} (h:ys.length=1):∃ y,ys=[y]:=by
 match ys,h with
 | [y],_=>exact ⟨y,rfl⟩
theorem k6 {ys:St} (h:ys.length=2):∃ y z,ys=[y,z]:=by
 match ys,h with
 | [y,z],_=>exact ⟨y,z,rfl⟩
theorem ys3 {ys:St} (h:ys.length=3):∃ y z u,ys=[y,z,u]:=by
 match ys,h with
 | [y,z,u],_=>exact ⟨y,z,u,rfl⟩
structure Blt (mg:Str->Option Value):Prop where
 len:mg "len" = none
 range:mg "range" = none
 all:mg "all" = none
 isinstance:mg "isinstance" = none
 str:mg "str" = none
 tuple:mg "tuple" = none
 int:mg "int" = none
 bool:mg "bool" = none
 sorted:mg "sorted" = none
 sum:mg "sum" = none
 min:mg "min" = none
section
variable {P:Program}{w:World}{K:PySem.W.Frag}{mg:Str->Option Value}{base:Heap}
theorem zGN (t:S) (o:Nat) (ho:1<=o):kY (tx t) (some (-(o:Int))) none=tx (zQ t o):=by
 unfold kY
 rw [yJ,vM]
 have e1:HT.sIx t.length 0 (some (-(o:Int)))=t.length - o:=by
  show (if -(o:Int) < 0 then (-(o:Int)+(t.length:Int)).toNat else _)=_
  rw [if_pos (by omega)]; omega
 have e2:HT.sIx t.length t.length none=t.length:=rfl
 rw [e1,e2]
 unfold zQ
 rw [List.take_of_length_le (by rw [List.length_drop]; omega)]
theorem zGO (t:S) (p:Nat):kY (tx t) none (some (p:Int))=tx (t.take p):=by
 unfold kY
 rw [yJ,vM,HT.sIx_nat]
 show tx ((t.drop 0).take (min p t.length - 0))=_
 rw [List.drop_zero,Nat.sub_zero,<- List.take_eq_take_min]
theorem zLo (t:S) (p:Nat):kY (tx t) (some (p:Int)) (some ((p:Int)+1))=tx ((t.drop p).take 1):=by
 unfold kY
 rw [yJ,vM,HT.sIx_nat,show ((p:Int)+1)=((p+1:Nat):Int) from rfl,HT.sIx_nat]
 congr 1
 by_cases h:p < t.length
 ·have e1:min p t.length=p:=by omega
  have e2:min (p+1) t.length - p=1:=by omega
  rw [e1,e2]
 ·have e1:min p t.length=t.length:=by omega
  rw [e1,List.drop_of_length_le (Nat.le_refl _),List.drop_of_length_le (by omega)]
  simp
def zCr:Sp:=fun vs H Q _=>∃ (t:S) (o:Nat),vs=[sv t,.int o]/\1<=o/\t.length<=64/\Q (sv (zQ t o)) H
abbrev zBV:Stmt:=top 23
theorem zGP:FnScope ["text", "order"] ["text", "order"] (defScope zBV):=⟨rfl,rfl,rfl,by decide +kernel,rfl,by decide +kernel,by decide +kernel⟩
theorem zLp {f:Addr}{fd:FuncData} (F:Fun K "end_of" "end_of" zBV f fd):FnOk P w K mg base zY 1 f fd ["text", "order"] zCr:=by
 refine F.ok zGP (fun vs H Q E h=>?_) (fun cdv A outer s H vs Q E hr h=>?_)
 ·obtain ⟨t,o,rfl,_⟩:=h; rfl
 ·obtain ⟨t,o,rfl,ho,hl,k⟩:=h
  refine ⟨_,zE (zP (zAf (pv 0) (jQ (zBD zBF (pv 1))) kR)),?_⟩
  refine ⟨_,rfl,_,rfl,_,rfl,_,rfl,_,rfl,?_,?_⟩
  ·rw [yJ,sizeLine_eq]; omega
  ·rw [zGN t o ho]; exact k
def pr (o:Nat) (t:S) (p:Nat):S × S:=(zQ (t.take p) o,(t.drop p).take 1)
def k7 (p:S × S):PyData:=.tuple [.str (tx p.1),.str (tx p.2)]
def zBW (K:PySem.W.Frag):Sp:=fun vs H Q _=>∃ (t:S) (o:Nat),vs=[sv t,.int o]/\1<=o/\t.length<=64/\∀ a xs H',zB H H'->H a=none->H' a=some (.lst xs)->Reps K H' ((zN o t).map k7) xs->Q (.ref a) H'
abbrev zCs:Stmt:=top 24
theorem zLq:FnScope ["name", "order"] ["name", "order"] (defScope zCs):=⟨rfl,rfl,rfl,by decide +kernel,rfl,by decide +kernel,by decide +kernel⟩
theorem zLr:(["name", "order", "place"]:List Str).Nodup:=by decide +kernel
theorem zLs {f:Addr}{fd:FuncData} (F:Fun K "ends_and_letters" "ends_and_letters" zCs f fd) (B:Blt mg) (cEnd:zO P w K mg base 1 "end_of" ["text", "order"] zCr):FnOk P w K mg base zY 2 f fd ["name", "order"] (zBW K):=by
 refine F.ok zLq (fun vs H Q E h=>?_) (fun cdv A outer s H vs Q E hr h=>?_)
 ·obtain ⟨t,o,rfl,_⟩:=h; rfl
 ·obtain ⟨t,o,rfl,ho,hl,k⟩:=h
  refine ⟨_,zE (zP (qH (N:=["name", "order", "place"]) (caps:=[0,1]) rfl (uF (by kernel_rfl))
   (zAR rfl B.range (zA (zR yW (yA jG (by rfl) B.len PySem.boot_len (zA (pv 0) zC)) zH) zC))
   (fun cl C s H ex=>yG (i:=2) zLr rfl (Or.inl rfl))
   (fun cl C s H ex=>uN)
   (fun cl C s H ex=>uK (zA (zK cEnd hr rfl (zA (zAf (pv 0) kR (jQ (pv 2))) (zA (pv 1) zC)))
    (zA (zAf (pv 0) (jQ (pv 2)) (jQ (zR yW (pv 2) zH))) zC))))),?_⟩
  refine ⟨_,rfl,_,rfl,?_,_,_,rfl,rfl,_,rfl,?_,?_,?_⟩
  ·rw [yJ,sizeLine_eq]; omega
  ·rw [yJ]; omega
  ·rw [yJ]; omega
  have hn:((tx t).length:Int)+1=((t.length+1:Nat):Int):=by rw [yJ]; rfl
  have hnn:(((tx t).length:Int)+1).toNat=t.length+1:=by rw [hn]; rfl
  refine uY (zAE 0 _) [some (sv t),some (.int o)] 1 (by rw [List.length_map,List.length_range,hnn]; omega) (fun i acc H'=>zB H H'/\acc.length=i/\Reps K H' (((List.range i).map (pr o t)).map k7) acc)
   ⟨zB.refl H,rfl,rfl⟩ (fun i acc H' _ h=>⟨trivial,Nat.le_of_eq h.2.1⟩) ?_ ?_
  ·rintro i x acc H' ys Nx hN hx hy ⟨sm,hal,rp⟩
   obtain ⟨y,rfl⟩:=qI hy
   rw [hnn] at hx
   obtain ⟨hi,rfl⟩:=zAj hx
   refine ⟨_,rfl,_,rfl,_,rfl,_,rfl,(by rw [yJ,sizeLine_eq]; omega),_,rfl,t.take i,o,(by rw [zGO]; rfl),ho,(by rw [List.length_take]; omega),?_⟩
   refine ⟨_,rfl,_,rfl,_,rfl,_,rfl,_,_,rfl,rfl,_,rfl,_,rfl,(by rw [yJ,sizeLine_eq]; omega),?_⟩
   refine ⟨by show 2<=sizeLine; decide,fun p hp=>hN _ _ [some (.int i)] rfl ⟨sm.upd_new (sm.free hp),by rw [List.length_append,hal]; rfl,?_⟩⟩
   rw [List.range_succ,List.map_append,List.map_append]
   refine Reps.append (Reps.same (zB.upd1 hp) _ _ rp) (Reps.one ⟨p,_,rfl,.of zI,?_⟩)
   rw [zLo]
   exact ⟨_,_,rfl,rfl,_,_,rfl,rfl,rfl⟩
  ·rintro acc H' ⟨sm,hal,rp⟩ D hD
   refine k D acc _ (sm.upd_new (sm.free hD)) (sm.free hD) zI (Reps.same (zB.upd1 hD) _ _ ?_)
   rw [List.length_map,List.length_range,hnn] at rp
   exact rp
def yK (x:S):Prop:=1<=x.length/\x.length<=8/\∀ c∈x,97<=c/\c<=122
def letters:Str:=⟨#[97,98,99,100,101,102,103,104,105,106,107,108,109,110,111,112,113,114,115,116,117,118,119,120,121,122]⟩
theorem zLt {c:Nat} (h:97<=c/\c<=122):(Builtin.Str.occurrences letters ⟨#[c]⟩ 0 letters.length 1).isEmpty=false:=by
 have all:∀ d:_root_.Fin 26,(Builtin.Str.occurrences letters ⟨#[97+d.val]⟩ 0 letters.length 1).isEmpty=false:=by decide +kernel
 have:=all ⟨c - 97,by omega⟩
 have e:97+(c - 97)=c:=by omega
 simpa [e] using this
structure Cst (K:PySem.W.Frag) (mg:Str->Option Value):Prop where
 letters:∃ t,mg "LETTERS" = some (.str letters t)
 ml:∃ t,mg "MOST_LETTERS" = some (.int 8 t)
 mn:∃ t,mg "MOST_NAMES" = some (.int 8 t)
 mo:∃ t,mg "MOST_ORDER" = some (.int 3 t)
 ib:PySem.W.kitOne K (.type "int") (.type "bool")=some false
def zCt:Sp:=fun vs H Q _=>∃ x:S,vs=[sv x]/\yK x/\∀ H',zB H H'->Q (.bl true) H'
abbrev zBX:Stmt:=top 14
theorem zGQ:FnScope ["thing"] ["thing"] (defScope zBX):=⟨rfl,rfl,rfl,by decide +kernel,rfl,by decide +kernel,by decide +kernel⟩
theorem nd1:(["letter"]:List Str).Nodup:=by decide +kernel
theorem zLu {f:Addr}{fd:FuncData} (F:Fun K "is_name" "is_name" zBX f fd) (B:Blt mg) (C:Cst K mg):FnOk P w K mg base zY 1 f fd ["thing"] zCt:=by
 obtain ⟨tl,hl⟩:=C.letters
 obtain ⟨t8,h8⟩:=C.ml
 refine F.ok zGQ (fun vs H Q E h=>?_) (fun cdv A outer s H vs Q E hr h=>?_)
 ·obtain ⟨t,rfl,_⟩:=h; rfl
 ·obtain ⟨x,rfl,⟨n1,n2,n3⟩,k⟩:=h
  refine ⟨_,zG (yI (PW.pt (uJ (yS (yV (yA jI (by rfl) B.isinstance PyProof.Rows.boot_isinstance (zA (pv 0) (zA (qR (v:=.ty "str") (by rfl) B.str PyProof.Rows.boot_str rfl) zC)))))
    (uS (yS (zAT uT uT zH (yA jG (by rfl) B.len PySem.boot_len (zA (pv 0) zC)) (yR (v:=.int 8) (by rfl) h8 ⟨_,rfl⟩))))))
    (zE (zP vJ)) yH)
   (zE (zP (yA (gP rfl) (by rfl) B.all PyProof.Rows.boot_all (zA (qH (N:=["letter"]) (caps:=[]) rfl (uF (by kernel_rfl)) (zFq (pv 0))
    (fun cl C s H ex=>yG (i:=0) nd1 rfl (Or.inl rfl)) (fun cl C s H ex=>uN)
    (fun cl C s H ex=>qZ zEk (pv 0) (yR (v:=.str letters) (by rfl) hl ⟨_,rfl⟩) (by with_unfolding_all rfl))) zC)))),?_⟩
  refine ⟨_,rfl,_,_,_,true,rfl,.str _,(by rfl),_,rfl,?_⟩
  refine z4 ?_
  refine ⟨_,rfl,_,rfl,(by rw [yJ,sizeLine_eq]; omega),_,_,rfl,rfl,_,rfl,?_⟩
  refine uZ (by rw [yJ]; omega) ⟨_,_,rfl,rfl,_,rfl,uM (by rw [yJ]; omega) ?_⟩
  refine ⟨_,rfl,_,rfl,?_⟩
  refine uY (zFt (tx x)) [] 1 (by rw [List.length_map,vM]; omega) (fun i acc H'=>zB H H'/\acc=List.replicate i (.bl true)) ⟨zB.refl H,rfl⟩ (fun i acc H' _ h=>⟨trivial,by rw [h.2]; simp⟩) ?_ ?_
  ·rintro i y acc H' ys Nx hN hx hy ⟨sm,rfl⟩
   obtain ⟨y',rfl⟩:=qI hy
   rw [List.getElem?_map,vM] at hx
   cases e:x[i]? with
   | none=>rw [e] at hx; cases hx
   | some c =>
    rw [e] at hx
    have hy2:y=.str ⟨#[c]⟩:=(Option.some.inj hx).symm
    subst hy2
    refine ⟨_,rfl,_,_,rfl,rfl,?_⟩
    rw [zLt (n3 c (List.mem_of_getElem? e))]
    exact hN _ _ [some (.str ⟨#[c]⟩)] rfl ⟨sm,by rw [List.replicate_succ']; rfl⟩
  ·rintro acc H' ⟨sm,rfl⟩ D hD
   refine ⟨D,List.replicate _ true,rfl,.of (by rw [zI,List.map_replicate]),?_⟩
   have:(List.replicate ((tx x).cps.toList.map fun c=>V.str ⟨#[c]⟩).length true).all id=true:=by simp
   rw [this]
   exact k _ (sm.upd_new (sm.free hD))
def zF (bk:List S):List V:=bk.map sv
structure isBk (bk:List S):Prop where
 lo:1<=bk.length
 hi:bk.length<=8
 nm:∀ x∈bk,yK x
def zGR:Sp:=fun vs H Q _=>∃ (a:Addr) (bk:List S),vs=[.ref a]/\H a=some (.tup (zF bk))/\isBk bk/\∀ H',zB H H'->Q (.bl true) H'
abbrev zBY:Stmt:=top 15
theorem zGS:FnScope ["thing"] ["thing"] (defScope zBY):=⟨rfl,rfl,rfl,by decide +kernel,rfl,by decide +kernel,by decide +kernel⟩
theorem nd2:(["name"]:List Str).Nodup:=by decide +kernel
theorem zLv {f:Addr}{fd:FuncData} (F:Fun K "is_book" "is_book" zBY f fd) (B:Blt mg) (C:Cst K mg) (cName:zO P w K mg base 1 "is_name" ["thing"] zCt):FnOk P w K mg base zY 2 f fd ["thing"] zGR:=by
 obtain ⟨t8,h8⟩:=C.mn
 refine F.ok zGS (fun vs H Q E h=>?_) (fun cdv A outer s H vs Q E hr h=>?_)
 ·obtain ⟨a,bk,rfl,_⟩:=h; rfl
 ·obtain ⟨a,bk,rfl,ha,⟨n1,n2,n3⟩,k⟩:=h
  refine ⟨_,zG (yI (PW.pt (uJ (yS (yV (yA jI (by rfl) B.isinstance PyProof.Rows.boot_isinstance (zA (pv 0) (zA (qR (v:=.ty "tuple") (by rfl) B.tuple PyProof.Rows.boot_tuple rfl) zC)))))
    (uS (yS (zAT uT uT zH (yA jR (by rfl) B.len PySem.boot_len (zA (pv 0) zC)) (yR (v:=.int 8) (by rfl) h8 ⟨_,rfl⟩))))))
    (zE (zP vJ)) yH)
   (zE (zP (yA (gP rfl) (by rfl) B.all PyProof.Rows.boot_all (zA (qH (N:=["name"]) (caps:=[]) rfl (uF (by kernel_rfl)) (gH (pv 0))
    (fun cl C s H ex=>yG (i:=0) nd2 rfl (Or.inl rfl)) (fun cl C s H ex=>uN)
    (fun cl C s H ex=>zK cName hr rfl (zA (pv 0) zC))) zC)))),?_⟩
  refine ⟨_,rfl,_,_,_,true,rfl,.tup ha,(by rfl),_,rfl,?_⟩
  refine z4 ?_
  refine ⟨_,rfl,_,_,rfl,.inr (.of ha),_,_,rfl,rfl,_,rfl,?_⟩
  have hl:(zF bk).length=bk.length:=by simp [zF]
  refine uZ (by rw [hl]; omega) ⟨_,_,rfl,rfl,_,rfl,uM (by rw [hl]; omega) ?_⟩
  refine ⟨_,rfl,_,rfl,⟨_,.of ha⟩,?_⟩
  refine uY (gQ _ a (zF bk)) [] 1 (by rw [hl]; omega) (fun i acc H'=>zB H H'/\acc=List.replicate i (.bl true)) ⟨zB.refl H,rfl⟩ (fun i acc H' _ h=>⟨.of (h.1 _ _ ha),by rw [h.2]; simp⟩) ?_ ?_
  ·rintro i y acc H' ys Nx hN hx hy ⟨sm,rfl⟩
   obtain ⟨y',rfl⟩:=qI hy
   rw [zF,List.getElem?_map] at hx
   cases e:bk[i]? with
   | none=>rw [e] at hx; cases hx
   | some c =>
    rw [e] at hx
    have hy2:y=sv c:=(Option.some.inj hx).symm
    subst hy2
    exact ⟨_,rfl,c,rfl,n3 c (List.mem_of_getElem? e),fun H5 sm5=>hN _ _ [some (sv c)] rfl ⟨sm.trans sm5,by rw [List.replicate_succ']⟩⟩
  ·rintro acc H' ⟨sm,rfl⟩ D hD
   refine ⟨D,List.replicate _ true,rfl,.of (by rw [zI,List.map_replicate]),?_⟩
   have:(List.replicate (zF bk).length true).all id=true:=by simp
   rw [this]
   exact k _ (sm.upd_new (sm.free hD))
def zGT:Sp:=fun vs H Q _=>∃ o a b:Nat,vs=[.int o,.int a,.int b]/\a<=o/\o<=b/\Q (.bl true) H
abbrev zBZ:Stmt:=top 16
theorem zGU:FnScope ["thing", "least", "most"] ["thing", "least", "most"] (defScope zBZ):=⟨rfl,rfl,rfl,by decide +kernel,rfl,by decide +kernel,by decide +kernel⟩
theorem zLw {f:Addr}{fd:FuncData} (F:Fun K "is_whole" "is_whole" zBZ f fd) (B:Blt mg) (C:Cst K mg):FnOk P w K mg base zY 1 f fd ["thing", "least", "most"] zGT:=by
 refine F.ok zGU (fun vs H Q E h=>?_) (fun cdv A outer s H vs Q E hr h=>?_)
 ·obtain ⟨o,a,b,rfl,_⟩:=h; rfl
 ·obtain ⟨o,a,b,rfl,n1,n2,k⟩:=h
  refine ⟨_,zG (yI (PW.pt (uJ (yS (yV (yA jI (by rfl) B.isinstance PyProof.Rows.boot_isinstance (zA (pv 0) (zA (qR (v:=.ty "int") (by rfl) B.int PyProof.Rows.boot_int rfl) zC)))))
    (uS (yV (yA jI (by rfl) B.isinstance PyProof.Rows.boot_isinstance (zA (pv 0) (zA (qR (v:=.ty "bool") (by rfl) B.bool PyProof.Rows.boot_bool rfl) zC)))))))
    (zE (zP vJ)) yH)
   (zE (zP (zEn uT uT (pv 1) (pv 0) (pv 2)))),?_⟩
  refine ⟨_,rfl,_,_,_,true,rfl,.int _,(by rfl),_,rfl,?_⟩
  refine z4 ?_
  refine ⟨_,rfl,_,_,_,false,rfl,.int _,C.ib,_,rfl,?_⟩
  refine z4 ?_
  refine ⟨_,rfl,_,rfl,_,_,rfl,rfl,_,rfl,?_⟩
  refine uZ (by omega) ⟨_,rfl,_,_,rfl,rfl,?_⟩
  have e:decide ((o:Int)<=b)=true:=decide_eq_true (by omega)
  show Q (.bl (decide ((o:Int)<=b))) H
  rw [e]
  exact k
def zGV:Sp:=fun vs H Q _=>∃ o:Nat,vs=[.int o]/\1<=o/\o<=3/\Q (.bl true) H
abbrev zBa:Stmt:=top 17
theorem zGW:FnScope ["thing"] ["thing"] (defScope zBa):=⟨rfl,rfl,rfl,by decide +kernel,rfl,by decide +kernel,by decide +kernel⟩
theorem zLx {f:Addr}{fd:FuncData} (F:Fun K "is_order" "is_order" zBa f fd) (C:Cst K mg) (cW:zO P w K mg base 1 "is_whole" ["thing", "least", "most"] zGT):FnOk P w K mg base zY 2 f fd ["thing"] zGV:=by
 obtain ⟨t3,h3⟩:=C.mo
 refine F.ok zGW (fun vs H Q E h=>?_) (fun cdv A outer s H vs Q E hr h=>?_)
 ·obtain ⟨o,rfl,_⟩:=h; rfl
 ·obtain ⟨o,rfl,n1,n2,k⟩:=h
  refine ⟨_,zE (zP (zK cW hr rfl (zA (pv 0) (zA zH (zA (yR (v:=.int 3) (by rfl) h3 ⟨_,rfl⟩) zC))))),?_⟩
  exact ⟨_,rfl,o,1,3,rfl,n1,n2,k⟩
def zGX:Sp:=fun vs H Q _=>∃ (a:Addr) (bk:List S),vs=[.ref a]/\H a=some (.tup (zF bk))/\isBk bk/\∀ H',zB H H'->Q .non H'
abbrev zBb:Stmt:=top 19
theorem zGY:FnScope ["thing"] ["thing"] (defScope zBb):=⟨rfl,rfl,rfl,by decide +kernel,rfl,by decide +kernel,by decide +kernel⟩
theorem zLy {f:Addr}{fd:FuncData} (F:Fun K "need_book" "need_book" zBb f fd) (c1:zO P w K mg base 2 "is_book" ["thing"] zGR):FnOk P w K mg base zY 3 f fd ["thing"] zGX:=by
 refine F.ok zGY (fun vs H Q E h=>?_) (fun cdv A outer s H vs Q E hr h=>?_)
 ·obtain ⟨a,bk,rfl,_⟩:=h; rfl
 ·obtain ⟨a,bk,rfl,ha,hb,k⟩:=h
  refine ⟨_,zE (yI (yS (yV (zK c1 hr rfl (zA (pv 0) zC)))) (zE zCM) yH),?_⟩
  exact ⟨_,rfl,a,bk,rfl,ha,hb,fun H' sm=>⟨true,rfl,z4 (k H' sm)⟩⟩
def zGZ:Sp:=fun vs H Q _=>∃ o:Nat,vs=[.int o]/\1<=o/\o<=3/\Q .non H
abbrev zBc:Stmt:=top 20
theorem zGa:FnScope ["thing"] ["thing"] (defScope zBc):=⟨rfl,rfl,rfl,by decide +kernel,rfl,by decide +kernel,by decide +kernel⟩
theorem zLz {f:Addr}{fd:FuncData} (F:Fun K "need_order" "need_order" zBc f fd) (c1:zO P w K mg base 2 "is_order" ["thing"] zGV):FnOk P w K mg base zY 3 f fd ["thing"] zGZ:=by
 refine F.ok zGa (fun vs H Q E h=>?_) (fun cdv A outer s H vs Q E hr h=>?_)
 ·obtain ⟨o,rfl,_⟩:=h; rfl
 ·obtain ⟨o,rfl,n1,n2,k⟩:=h
  refine ⟨_,zE (yI (yS (yV (zK c1 hr rfl (zA (pv 0) zC)))) (zE zCM) yH),?_⟩
  exact ⟨_,rfl,o,rfl,n1,n2,true,rfl,z4 k⟩
def zCu:Sp:=fun vs H Q _=>∃ x:S,vs=[sv x]/\yK x/\∀ H',zB H H'->Q .non H'
abbrev zBd:Stmt:=top 21
theorem zGb:FnScope ["thing"] ["thing"] (defScope zBd):=⟨rfl,rfl,rfl,by decide +kernel,rfl,by decide +kernel,by decide +kernel⟩
theorem zMA {f:Addr}{fd:FuncData} (F:Fun K "need_name" "need_name" zBd f fd) (c1:zO P w K mg base 1 "is_name" ["thing"] zCt):FnOk P w K mg base zY 2 f fd ["thing"] zCu:=by
 refine F.ok zGb (fun vs H Q E h=>?_) (fun cdv A outer s H vs Q E hr h=>?_)
 ·obtain ⟨x,rfl,_⟩:=h; rfl
 ·obtain ⟨x,rfl,hx,k⟩:=h
  refine ⟨_,zE (yI (yS (yV (zK c1 hr rfl (zA (pv 0) zC)))) (zE zCM) yH),?_⟩
  exact ⟨_,rfl,x,rfl,hx,fun H' sm=>⟨true,rfl,z4 (k H' sm)⟩⟩
end
end Kn
end
section
namespace Kn
open PySem L2
theorem qJ {a b:S} (h:tx a=tx b):a=b:=by
 have:=congrArg (fun z:Str=>z.cps.toList) h
 simpa [tx] using this
section
variable {α:Type}
def vN (f:α->V) (l:List (S × α)):List (zV × V):=q8 (l.map fun p=>(tx p.1,f p.2))
theorem gS (f:α->V) (p:S × α) (l:List (S × α)):vN f (p::l)=((Sum.inr (tx p.1):zV),f p.2)::vN f l:=rfl
theorem zCv (f:α->V) (l:List (S × α)):(vN f l).length=l.length:=by simp [vN,q8]
theorem zAH {a b:S}:((Sum.inr (tx a):zV)=Sum.inr (tx b))↔a=b:=⟨fun h=>qJ (Sum.inr.inj h),fun h=>by rw [h]⟩
theorem k8 (f:α->V) (l:List (S × α)) (k:S):vY (vN f l) (Sum.inr (tx k))=(zS l k).map f:=by
 induction l with
 | nil=>rfl
 | cons p r ih =>
  rw [gS]
  by_cases e:p.1=k
  ·rw [zBJ (zAH.mpr e)]
   obtain ⟨a,b⟩:=p
   have e':a=k:=e
   subst e'
   simp [zS]
  ·rw [zBK (fun z=>e (zAH.mp z)),ih]
   obtain ⟨a,b⟩:=p
   have e':¬ a=k:=e
   simp [zS,e']
theorem zMB (f:α->V) (l:List (S × α)) (k:S):((vN f l).any fun kv=>decide (kv.1=(Sum.inr (tx k):zV)))=decide (k∈l.map (·.1)):=by
 induction l with
 | nil=>rfl
 | cons p r ih =>
  rw [gS,List.any_cons,ih]
  by_cases e:p.1=k
  ·have:decide ((Sum.inr (tx p.1):zV)=Sum.inr (tx k))=true:=decide_eq_true (zAH.mpr e)
   rw [this,Bool.true_or]
   exact (decide_eq_true (by rw [<- e]; exact List.mem_cons_self ..)).symm
  ·have:decide ((Sum.inr (tx p.1):zV)=Sum.inr (tx k))=false:=decide_eq_false (fun z=>e (zAH.mp z))
   rw [this,Bool.false_or]
   congr 1
   have e':¬ k=p.1:=fun z=>e z.symm
   simp [e']
theorem zGc (f:α->V) (l:List (S × α)) (k:S) (v:α) (nd:(l.map (·.1)).Nodup):uL (vN f l) (Sum.inr (tx k)) (f v)=vN f (z3 l k v):=by
 unfold uL
 rw [zMB]
 by_cases hk:k∈l.map (·.1)
 ·rw [if_pos (decide_eq_true hk)]
  induction l with
  | nil=>cases hk
  | cons p r ih =>
   obtain ⟨a,b⟩:=p
   have nd':=List.nodup_cons.mp nd
   rw [gS,List.map_cons]
   by_cases e:a=k
   ·subst e
    have e1:z3 ((a,b)::r) a v=(a,v)::r:=by simp [z3]
    rw [e1,gS]
    congr 1
    ·simp
    ·have:∀ q∈vN f r,(if q.1=(Sum.inr (tx a):zV) then (q.1,f v) else q)=q:=fun q hq=>by
      rw [if_neg]
      intro z
      obtain ⟨s,hs,e2⟩:=List.mem_map.mp hq
      obtain ⟨s',hs',e3⟩:=List.mem_map.mp hs
      have:s.1=tx s'.1:=by rw [<- e3]
      have h4:q.1=(Sum.inr (tx s'.1):zV):=by rw [<- e2,this]
      rw [h4] at z
      exact nd'.1 (List.mem_map.mpr ⟨s',hs',zAH.mp z⟩)
     have h5:=List.map_congr_left this
     rw [h5]; simp
   ·have e1:z3 ((a,b)::r) k v=(a,b)::z3 r k v:=by simp [z3,e]
    rw [e1,gS]
    congr 1
    ·rw [if_neg (fun z=>e (zAH.mp z))]
    ·exact ih nd'.2 (by
      rcases List.mem_cons.mp hk with z | z
      ·exact absurd z.symm e
      ·exact z)
 ·rw [if_neg (by simpa using hk)]
  clear nd
  induction l with
  | nil=>rfl
  | cons p r ih =>
   obtain ⟨a,b⟩:=p
   have e:¬ a=k:=fun z=>hk (by rw [<- z]; exact List.mem_cons_self ..)
   have e1:z3 ((a,b)::r) k v=(a,b)::z3 r k v:=by simp [z3,e]
   rw [e1,gS,gS,List.cons_append,ih fun z=>hk (List.mem_cons_of_mem _ z)]
theorem zGd {β:Type} (l:List (S × β)) (k:S) (v:β):(z3 l k v).length<=l.length+1:=by
 induction l with
 | nil=>simp [z3]
 | cons p r ih =>
  obtain ⟨a,b⟩:=p
  by_cases e:a=k
  ·simp [z3,e]
  ·simp [z3,e]; omega
theorem zMC {β γ:Type} (g:β->γ) (l:List (S × β)) (k:S) (v:β):(z3 l k v).map (fun p=>(p.1,g p.2))=z3 (l.map fun p=>(p.1,g p.2)) k (g v):=by
 induction l with
 | nil=>rfl
 | cons p r ih =>
  obtain ⟨a,b⟩:=p
  by_cases e:a=k
  ·simp [z3,e]
  ·simp [z3,e,ih]
theorem zGe {β γ:Type} (g:β->γ) (l:List (S × β)) (k:S):zS (l.map fun p=>(p.1,g p.2)) k=(zS l k).map g:=by
 induction l with
 | nil=>rfl
 | cons p r ih =>
  obtain ⟨a,b⟩:=p
  by_cases e:a=k
  ·simp [zS,e]
  ·simp [zS,e,ih]
theorem zBe {β:Type}{l:List (S × β)}{k:S}{v:β}{q:S × β} (h:q∈z3 l k v):q=(k,v)\/(q∈l/\(q.1≠k\/(l.map (·.1)).Nodup->q.1≠k)):=by
 induction l with
 | nil=>simp [z3] at h; exact .inl h
 | cons p r ih =>
  obtain ⟨a,b⟩:=p
  by_cases e:a=k
  ·subst e
   have e1:z3 ((a,b)::r) a v=(a,v)::r:=by simp [z3]
   rw [e1] at h
   rcases List.mem_cons.mp h with z | z
   ·exact .inl z
   ·refine .inr ⟨List.mem_cons_of_mem _ z,?_⟩
    rintro (w | w)
    ·exact w
    ·intro e2
     exact (List.nodup_cons.mp w).1 (by rw [<- e2]; exact List.mem_map_of_mem (f:=(·.1)) z)
  ·have e1:z3 ((a,b)::r) k v=(a,b)::z3 r k v:=by simp [z3,e]
   rw [e1] at h
   rcases List.mem_cons.mp h with z | z
   ·subst z
    exact .inr ⟨List.mem_cons_self ..,fun _=>e⟩
   ·rcases ih z with w | ⟨w1,w2⟩
    ·exact .inl w
    ·refine .inr ⟨List.mem_cons_of_mem _ w1,?_⟩
     rintro (u | u)
     ·exact u
     ·exact w2 (.inr (List.nodup_cons.mp u).2)
theorem zCw {β:Type} (l:List (S × β)) (k:S) (v:β) (h:k ∉ l.map (·.1)):z3 l k v=l++[(k,v)]:=by
 induction l with
 | nil=>rfl
 | cons q r ih =>
  obtain ⟨a,b⟩:=q
  have e:¬ a=k:=fun z=>h (by rw [<- z]; exact List.mem_cons_self ..)
  have e1:z3 ((a,b)::r) k v=(a,b)::z3 r k v:=by simp [z3,e]
  rw [e1,ih fun z=>h (List.mem_cons_of_mem _ z)]; rfl
theorem zGf {β γ:Type} (g:β->γ) (l:List (S × β)) (k:S) (v u:β) (h:zS l k=some u) (e:g v=g u):(z3 l k v).map (fun p=>(p.1,g p.2))=l.map fun p=>(p.1,g p.2):=by
 induction l with
 | nil=>cases h
 | cons p r ih =>
  obtain ⟨a,b⟩:=p
  by_cases ea:a=k
  ·have:b=u:=by simpa [zS,ea] using h
   subst this
   simp [z3,ea,e]
  ·have h':zS r k=some u:=by simpa [zS,ea] using h
   simp [z3,ea,ih h']
theorem zCx (ps:List (S × S)):(vV ps).length<=ps.length/\∀ r∈vV ps,r.2.length<=ps.length:=by
 have key:∀ (qs:List (S × S)) (rows:List (S × List (S × Int))) (n:Nat),(rows.length<=n/\∀ r∈rows,r.2.length<=n)->(qs.foldl qT rows).length<=n+qs.length/\∀ r∈qs.foldl qT rows,r.2.length<=n+qs.length:=by
  intro qs
  induction qs with
  | nil=>intro rows n h; simpa using h
  | cons q qs ih =>
   intro rows n h
   have:=ih (qT rows q) (n+1) ⟨?_,fun r hr=>?_⟩
   ·rw [List.foldl_cons,List.length_cons]
    have e:n+(qs.length+1)=n+1+qs.length:=by omega
    rw [e]; exact this
   ·have:=zGd rows q.1 (uG ((zS rows q.1).getD []) q.2)
    unfold qT; omega
   ·rcases zBe hr with e | ⟨e,_⟩
    ·rw [e]
     have h1:=zGd ((zS rows q.1).getD []) q.2 ((zS ((zS rows q.1).getD []) q.2).getD 0+1)
     have h2:((zS rows q.1).getD []).length<=n:=by
      cases g:zS rows q.1 with
      | none=>simp
      | some row =>
       have hm:(q.1,row)∈rows:=by
        clear h hr e h1
        induction rows with
        | nil=>cases g
        | cons p r ih2 =>
         obtain ⟨a,b⟩:=p
         by_cases ea:a=q.1
         ·have:b=row:=by simpa [zS,ea] using g
          subst this; subst ea
          exact List.mem_cons_self ..
         ·exact List.mem_cons_of_mem _ (ih2 (by simpa [zS,ea] using g))
       exact h.2 _ hm
     show (uG _ _).length<=_
     unfold uG; omega
    ·have:=h.2 r e; omega
 have:=key ps [] 0 ⟨Nat.le_refl _,by simp⟩
 simpa [vV] using this
end
abbrev vG (row:List (S × Int)):List (zV × V):=vN V.int row
structure RA (H0 H:Hp) (d:Addr) (ps:List (S × S)) (ra:List (S × Addr × List (S × Int))):Prop where
 rows:ra.map (fun r=>(r.1,r.2.2))=vV ps
 top:H d=some (.dK (vN (fun v:Addr × List (S × Int)=>V.ref v.1) ra))
 row:∀ r∈ra,H r.2.1=some (.dK (vG r.2.2))
 new:∀ r∈ra,H0 r.2.1=none/\r.2.1≠d
 nda:(ra.map fun r=>r.2.1).Nodup
def kH (H:Hp) (d:Addr) (ps:List (S × S)):Prop:=∃ ra:List (S × Addr × List (S × Int)),ra.map (fun r=>(r.1,r.2.2))=vV ps/\H d=some (.dK (vN (fun v:Addr × List (S × Int)=>V.ref v.1) ra))/\∀ r∈ra,H r.2.1=some (.dK (vG r.2.2))
theorem kH.same {H H':Hp}{d:Addr}{ps:List (S × S)} (h:kH H d ps) (e:zB H H'):kH H' d ps:=by
 obtain ⟨ra,h1,h2,h3⟩:=h
 exact ⟨ra,h1,e _ _ h2,fun r hr=>e _ _ (h3 r hr)⟩
section
variable {P:Program}{w:World}{K:PySem.W.Frag}{mg:Str->Option Value}{base:Heap}
def zCy:Sp:=fun vs H Q _=>∃ (a:Addr) (bk:List S) (o:Nat),vs=[.ref a,.int o]/\H a=some (.tup (zF bk))/\bk.length<=8/\(∀ x∈bk,x.length<=8)/\1<=o/\∀ d H',zB H H'->H d=none->kH H' d (zD o bk)->Q (.ref d) H'
abbrev zCz:Stmt:=top 25
theorem zGg:FnScope ["book", "order", "rows", "name", "end", "letter", "row"] ["book", "order"] (defScope zCz):=⟨rfl,rfl,rfl,by decide +kernel,rfl,by decide +kernel,by decide +kernel⟩
theorem zDA {H0 H:Hp}{d:Addr}{ps:List (S × S)}{ra:List (S × Addr × List (S × Int))} (R:RA H0 H d ps ra):(ra.map (·.1)).Nodup:=by
 have h:=(u9 ps).nd
 rw [<- R.rows,List.map_map] at h
 exact h
theorem RA.step {H0 H H2:Hp}{d ad:Addr}{ps:List (S × S)}{ra:List (S × Addr × List (S × Int))} (R:RA H0 H d ps ra) (p:S × S) (row:List (S × Int)) (hrow:row=((zS ra p.1).map (·.2)).getD [])
  (had:∀ v,zS ra p.1=some v->v.1=ad) (hnew:zS ra p.1=none->H0 ad=none/\ad≠d/\ad ∉ ra.map fun r=>r.2.1)
  (h1:H2 ad=some (.dK (vG (uG row p.2)))) (h2:H2 d=some (.dK (vN (fun v:Addr × List (S × Int)=>V.ref v.1) (z3 ra p.1 (ad,uG row p.2))))) (h3:∀ r∈ra,r.2.1≠ad->H2 r.2.1=some (.dK (vG r.2.2))) :
  RA H0 H2 d (ps++[p]) (z3 ra p.1 (ad,uG row p.2)):=by
 have nd:=zDA R
 have isin:∀ v,zS ra p.1=some v->(p.1,v)∈ra:=fun v hv=>(uO nd p.1 v).mpr hv
 have adr:∀ r∈ra,r.1≠p.1->r.2.1≠ad:=fun r hr hne e=>by
  cases g:zS ra p.1 with
  | none=>exact (hnew g).2.2 (List.mem_map.mpr ⟨r,hr,e⟩)
  | some v =>
   have hv:=isin v g
   have ev:=had v g
   have:r=(p.1,v):=by
    obtain ⟨i,hi,ei⟩:=List.getElem_of_mem hr
    obtain ⟨j,hj,ej⟩:=List.getElem_of_mem hv
    have hij:i=j:=by
     refine (List.getElem_inj (xs:=ra.map fun r=>r.2.1) (h₀:=by simpa using hi) (h₁:=by simpa using hj) R.nda).mp ?_
     rw [List.getElem_map,List.getElem_map,ei,ej]
     show r.2.1=v.1
     rw [e,ev]
    subst hij
    rw [<- ei,<- ej]
   exact hne (by rw [this])
 refine ⟨?_,h2,fun r hr=>?_,fun r hr=>?_,?_⟩
 ·rw [zLc,<- R.rows]
  unfold qT
  have e:=zMC (fun v:Addr × List (S × Int)=>v.2) ra p.1 (ad,uG row p.2)
  rw [e]
  have e2:=zGe (fun v:Addr × List (S × Int)=>v.2) ra p.1
  rw [e2,<- hrow]
 ·rcases zBe hr with e | ⟨e,e'⟩
  ·rw [e]; exact h1
  ·exact h3 r e (adr r e (e' (.inr nd)))
 ·rcases zBe hr with e | ⟨e,_⟩
  ·rw [e]
   cases g:zS ra p.1 with
   | none=>exact ⟨(hnew g).1,(hnew g).2.1⟩
   | some v =>
    have:=R.new _ (isin v g)
    rw [<- had v g]; exact this
  ·exact R.new r e
 ·cases g:zS ra p.1 with
  | none =>
   have hk:p.1 ∉ ra.map (·.1):=zGA.mp g
   have e:=zCw ra p.1 (ad,uG row p.2) hk
   rw [e,List.map_append]
   refine List.nodup_append.mpr ⟨R.nda,by simp,fun a ha b hb e2=>?_⟩
   have:b=ad:=by simpa using hb
   exact (hnew g).2.2 (by rw [<- this,<- e2]; exact ha)
  | some v =>
   have e:=zGf (fun v:Addr × List (S × Int)=>v.1) ra p.1 (ad,uG row p.2) v g (had v g).symm
   have e2:(z3 ra p.1 (ad,uG row p.2)).map (fun r=>r.2.1)=ra.map fun r=>r.2.1:=by
    have:=congrArg (List.map Prod.snd) e
    rw [List.map_map,List.map_map] at this
    exact this
   rw [e2]; exact R.nda
def jS (H H':Hp):Prop:=∀ b o,H b=some o->(∀ kvs,o≠.dK kvs)->H' b=some o
theorem jS.upd {H:Hp}{a:Addr}{kvs:List (zV × V)}{u:HO} (h:H a=some (.dK kvs)):jS H (upd H a u):=fun b o e hn=>by
 rw [zU]
 ·exact e
 ·rintro rfl; rw [h] at e; exact hn kvs (Option.some.inj e).symm
theorem jS.sqL {H H':Hp} (e:jS H H') {a:Addr}{xs:List V} (h:yC K H a xs):yC K H' a xs:=by
 rcases h with (h | ⟨o,h⟩) | h
 ·exact .inl (.inl (e _ _ h (by intro z w; cases w)))
 ·exact .inl (.inr ⟨o,e _ _ h (by intro z w; cases w)⟩)
 ·exact .inr h
theorem jS.sqT {H H':Hp} (e:jS H H') {a:Addr}{xs:List V} (h:zZ K H a xs):zZ K H' a xs:=by
 rcases h with (h | ⟨o,h⟩) | h
 ·exact .inl (.inl (e _ _ h (by intro z w; cases w)))
 ·exact .inl (.inr ⟨o,e _ _ h (by intro z w; cases w)⟩)
 ·exact .inr h
mutual
theorem vF.sameQ {H H':Hp} (e:jS H H'):∀ (d:PyData) (v:V),vF K H d v->vF K H' d v
 | .none,v,h=>h
 | .bool b,v,h=>h
 | .int i,v,h=>h
 | .str x,v,h=>h
 | .list ds,v,h=>by
  obtain ⟨a,xs,h1,h2,h3⟩:=h
  exact ⟨a,xs,h1,e.sqL h2,Reps.sameQ e ds xs h3⟩
 | .tuple ds,v,h=>by
  obtain ⟨a,xs,h1,h2,h3⟩:=h
  exact ⟨a,xs,h1,e.sqT h2,Reps.sameQ e ds xs h3⟩
 | .dict _,v,h=>h
theorem Reps.sameQ {H H':Hp} (e:jS H H'):∀ (ds:List PyData) (xs:List V),Reps K H ds xs->Reps K H' ds xs
 | [],xs,h=>h
 | d::ds,xs,h=>by
  obtain ⟨y,ys,h1,h2,h3⟩:=h
  exact ⟨y,ys,h1,vF.sameQ e d y h2,Reps.sameQ e ds ys h3⟩
end
theorem zMD {β:Type} (g:β->V) (l:List (S × β)) (k:S) (v u:β) (h:zS l k=some u) (e:g v=g u):vN g (z3 l k v)=vN g l:=by
 have:=zGf g l k v u h e
 unfold vN
 have e2:∀ m:List (S × β),m.map (fun p=>(tx p.1,g p.2))=(m.map fun p=>(p.1,g p.2)).map fun q=>(tx q.1,q.2):=fun m=>by rw [List.map_map]; rfl
 rw [e2,e2,this]
theorem zME {H0 H:Hp}{d:Addr}{ps:List (S × S)}{ra:List (S × Addr × List (S × Int))} (R:RA H0 H d ps ra) {e:S}{v:Addr × List (S × Int)} (h:zS ra e=some v) :
  H v.1=some (.dK (vG v.2))/\(v.2.map (·.1)).Nodup/\v.2.length<=ps.length/\H0 v.1=none/\v.1≠d:=by
 have hm:=(uO (zDA R) e v).mpr h
 have hm2:(e,v.2)∈vV ps:=by rw [<- R.rows]; exact List.mem_map.mpr ⟨(e,v),hm,rfl⟩
 exact ⟨R.row _ hm,(u9 ps).ndr e v.2 hm2,(zCx ps).2 _ hm2,(R.new _ hm).1,(R.new _ hm).2⟩
theorem zMF {f:Addr}{fd:FuncData} (F:Fun K "counted_rows" "counted_rows" zCz f fd) (cEnds:zO P w K mg base 2 "ends_and_letters" ["name", "order"] (zBW K)):FnOk P w K mg base zY 3 f fd ["book", "order"] zCy:=by
 refine F.ok zGg (fun vs H Q E h=>?_) (fun cdv A outer s H vs Q E hr h=>?_)
 ·obtain ⟨a,bk,o,rfl,_⟩:=h; rfl
 ·obtain ⟨a,bk,o,rfl,ha,hb1,hb2,ho,k⟩:=h
  have hu:=gO hr
  have nd:=zGg.nd
  refine ⟨_,zG (z9 (i:=2) nd rfl (Or.inl rfl) zBL)
   (zG (jO PassesOwn.never rfl (gH (pv 0)) (yG (i:=3) nd rfl (Or.inl rfl))
    (zE (jO PassesOwn.never rfl (j6 (zK cEnds hr rfl (zA (pv 3) (zA (pv 1) zC))))
     (g6 rfl (vQ (yG (i:=4) nd rfl (Or.inl rfl)) (vQ (yG (i:=5) nd rfl (Or.inl rfl)) jE)))
     (zG (z9 (i:=6) nd rfl (Or.inl rfl) (jH PySem.F.plainAttrs_dict PySem.F.slot_dict_setdefault PySem.F.type_dict_setdefault zLN (pv 2) (zA (pv 4) (zA zBL zC))))
      (zE (zKb hu (pv 6) (pv 5) (zR yW (zCc hu (pv 6) (pv 5) zH ⟨rfl,rfl,rfl,rfl⟩) zH) rfl))))))
   (zE (zP (pv 2)))),?_⟩
  intro d hd
  have s1:zB H (upd H d (.dK [])):=zB.upd1 hd
  refine ⟨_,rfl,a,rfl,⟨_,.of (s1 _ _ ha)⟩,?_⟩
  refine kZ (gQ K a (zF bk)) (fun i σ H'=>(∃ x y z u:Option V,σ=[some (.ref a),some (.int o),some (.ref d),x,y,z,u])/\zB H H'/\∃ ra,RA H H' d (zD o (bk.take i)) ra)
   ⟨⟨_,_,_,_,rfl⟩,s1,[],⟨rfl,zI,by simp,by simp,by simp⟩⟩ (fun i σ H' _ h=>.of (h.2.1 _ _ ha)) ?_ ?_
  ·rintro i x σ H' Nx hN hx ⟨⟨x1,x2,x3,x4,rfl⟩,sm,ra,R⟩
   rw [zF,List.getElem?_map] at hx
   cases e:bk[i]? with
   | none=>rw [e] at hx; cases hx
   | some nm =>
   rw [e] at hx
   have hy2:x=sv nm:=(Option.some.inj hx).symm
   subst hy2
   have hnm:=hb2 nm (List.mem_of_getElem? e)
   have hi:i < bk.length:=(List.getElem?_eq_some_iff.mp e).1
   have etake:bk.take (i+1)=bk.take i++[nm]:=by
    rw [List.take_succ_eq_append_getElem hi]
    have:=(List.getElem?_eq_some_iff.mp e).2
    rw [this]
   have epairs:zD o (bk.take (i+1))=zD o (bk.take i)++zN o nm:=by
    rw [etake,zLd]; simp [zD]
   have hplen:((zD o (bk.take (i+1))).length:Int)<=100:=by
    rw [zBS]
    have go:∀ l:List S,(∀ x∈l,x.length<=8)->(l.map fun x=>(x.length:Int)+1).sum<=9 * (l.length:Int):=by
     intro l
     induction l with
     | nil=>intro _; simp
     | cons x r ih =>
      intro hl
      have h1:=hl x (List.mem_cons_self ..)
      have h2:=ih fun y hy=>hl y (List.mem_cons_of_mem _ hy)
      rw [List.map_cons,List.sum_cons,List.length_cons]
      have:((r.length+1:Nat):Int)=(r.length:Int)+1:=rfl
      omega
    have:=go (bk.take (i+1)) fun x hx=>hb2 x (List.mem_of_mem_take hx)
    have h3:(bk.take (i+1)).length<=8:=by rw [List.length_take]; omega
    omega
   refine ⟨_,rfl,_,rfl,nm,o,rfl,ho,by omega,fun l xs Hl sml hln hll rp=>?_⟩
   refine ⟨l,rfl,⟨_,.of hll⟩,?_⟩
   have R1:RA H Hl d (zD o (bk.take i)) ra:=⟨R.rows,sml _ _ R.top,fun r hr=>sml _ _ (R.row r hr),R.new,R.nda⟩
   have hld:H l=none:=sm.free hln
   have hdl:l≠d:=zBA hll (sml _ _ R.top) (by intro z; cases z)
   refine kZ (kD K l xs) (fun j σ H2=>(∃ y z u:Option V,σ=[some (.ref a),some (.int o),some (.ref d),some (sv nm),y,z,u])/\zB H H2/\H2 l=some (.lst xs)/\Reps K H2 ((zN o nm).map k7) xs/\∃ ra,RA H H2 d (zD o (bk.take i)++(zN o nm).take j) ra/\∀ r∈ra,r.2.1≠l)
    ⟨⟨_,_,_,rfl⟩,sm.trans sml,hll,rp,ra,by simpa using R1,fun r hr=>zBA (R1.row r hr) hll (by intro z; cases z)⟩ (fun j σ H2 _ h=>.of h.2.2.1) ?_ ?_
   ·rintro j x σ H2 Nx2 hN2 hx2 ⟨⟨y,z,u,rfl⟩,sm2,hl2,rp2,ra2,R2,hal⟩
    obtain ⟨dd,hdd,rx⟩:=rp2.get hx2
    rw [List.getElem?_map] at hdd
    cases ep:(zN o nm)[j]? with
    | none=>rw [ep] at hdd; cases hdd
    | some p =>
    rw [ep] at hdd
    have hd2:dd=k7 p:=(Option.some.inj hdd).symm
    subst hd2
    obtain ⟨at',xs',rfl,hsq,y1,ys1',rfl,ry1,y2,ys2',rfl,ry2,hnil⟩:=rx
    have ey1:y1=sv p.1:=ry1
    have ey2:y2=sv p.2:=ry2
    have en:ys2'=[]:=hnil
    subst ey1 ey2 en
    have hj:j < (zN o nm).length:=(List.getElem?_eq_some_iff.mp ep).1
    have etk:zD o (bk.take i)++(zN o nm).take (j+1)=(zD o (bk.take i)++(zN o nm).take j)++[p]:=by
     rw [List.take_succ_eq_append_getElem hj,(List.getElem?_eq_some_iff.mp ep).2,List.append_assoc]
    generalize hps:zD o (bk.take i)++(zN o nm).take j=ps at R2 etk
    have hpl:ps.length<=100:=by
     have h1:ps.length<=(zD o (bk.take (i+1))).length:=by
      rw [<- hps,epairs,List.length_append,List.length_append,List.length_take]; omega
     omega
    have hral:ra2.length<=100:=by
     have h1:=(zCx ps).1
     rw [<- R2.rows,List.length_map] at h1
     omega
    refine ⟨at',[sv p.1,sv p.2],rfl,hsq,rfl,_,_,rfl,_,_,rfl,rfl,?_⟩
    refine ⟨_,rfl,.inr (.inr (.inl ⟨rfl,.inl ⟨_,R2.top⟩⟩)),_,rfl,fun e0 he0=>?_⟩
    have he0H:H e0=none:=sm2.free he0
    have hde:d≠e0:=y7 R2.top he0
    have s3:zB H2 (upd H2 e0 (.dK [])):=zB.upd1 he0
    have fin:∀ (ad:Addr) (row:List (S × Int)) (Hx:Hp),Hx ad=some (.dK (vG row))->(row.map (·.1)).Nodup->row.length<=100->(∀ H4,H4=upd Hx ad (.dK (vG (uG row p.2)))->Nx2 [some (.ref a),some (.int o),some (.ref d),some (sv nm),some (sv p.1),some (sv p.2),some (.ref ad)] H4) ->
      zFR (g0 6) (g0 5) (tOp (kP fun i j=>V.int (i+j)) (zFS (g0 6) (g0 5) (tC (.int 0))) (tC (.int 1))) { nx:=Nx2,rt:=Q,bk:=fun _ _=>False,ct:=fun _ _=>False } [some (.ref a),some (.int o),some (.ref d),some (sv nm),some (sv p.1),some (sv p.2),some (.ref ad)] Hx:=by
     intro ad row Hx hrow hnd hrl hq
     refine ⟨_,rfl,ad,rfl,.inl ⟨_,.inl hrow⟩,_,rfl,_,uB.k (k:=Sum.inr (tx p.2)) hrow,(zS row p.2).getD 0,1,?_,rfl,?_⟩
     ·rw [k8]
      cases zS row p.2 <;> rfl
     ·refine ⟨_,rfl,_,rfl,ad,_,rfl,zAb.k (k:=Sum.inr (tx p.2)) hrow (by rw [zCv,sizeLine_eq]; omega),hq _ ?_⟩
      rw [zGc V.int row p.2 _ hnd]
      rfl
    have common:∀ (ad:Addr) (row:List (S × Int)) (Hx H4:Hp),zB H Hx->H ad=none->Hx l=some (.lst xs)->Reps K Hx ((zN o nm).map k7) xs->H4=upd Hx ad (.dK (vG (uG row p.2)))->Hx ad=some (.dK (vG row))->RA H H4 d (ps++[p]) (z3 ra2 p.1 (ad,uG row p.2)) ->
      Nx2 [some (.ref a),some (.int o),some (.ref d),some (sv nm),some (sv p.1),some (sv p.2),some (.ref ad)] H4:=by
     intro ad row Hx H4 sx had hxl hxr e4 hrow RR
     have hadl:ad≠l:=zBA hrow hxl (by intro z; cases z)
     subst e4
     refine hN2 _ _ ⟨⟨_,_,_,rfl⟩,sx.upd_new had,by rw [zU hadl.symm]; exact hxl,Reps.sameQ (jS.upd hrow) _ _ hxr,_,by rw [etk]; exact RR,fun r hr=>?_⟩
     rcases zBe hr with e | ⟨e,_⟩
     ·rw [e]; exact hadl
     ·exact hal r e
    have hx3:upd H2 e0 (.dK []) d=some (.dK (vN (fun v:Addr × List (S × Int)=>V.ref v.1) ra2)):=by rw [zU hde]; exact R2.top
    have hl3:upd H2 e0 (.dK []) l=some (.lst xs):=s3 _ _ hl2
    have hr3:∀ r∈ra2,upd H2 e0 (.dK []) r.2.1=some (.dK (vG r.2.2)):=fun r hr=>s3 _ _ (R2.row r hr)
    have hre:∀ r∈ra2,r.2.1≠e0:=fun r hr=>y7 (R2.row r hr) he0
    refine ⟨d,_,Sum.inr (tx p.1),_,rfl,rfl,hx3,by rw [zCv,sizeLine_eq]; omega,fun yv hyv=>?_,fun hnv=>?_⟩
    ·
     rw [k8] at hyv
     cases g:zS ra2 p.1 with
     | none=>rw [g] at hyv; cases hyv
     | some v =>
     rw [g] at hyv
     have ev:yv=.ref v.1:=(Option.some.inj hyv).symm
     subst ev
     obtain ⟨r1,r2,r3,r4,r5⟩:=zME R2 g
     have hrow3:upd H2 e0 (.dK []) v.1=some (.dK (vG v.2)):=s3 _ _ r1
     refine fin v.1 v.2 _ hrow3 r2 (by omega) fun H4 e4=>common v.1 v.2 _ H4 (sm2.trans s3) r4 hl3 (Reps.same s3 _ _ rp2) e4 hrow3 ?_
     refine R2.step p v.2 (by rw [g]; rfl) (fun v' hv'=>by rw [g] at hv'; rw [Option.some.inj hv']) (fun hn=>by rw [g] at hn; cases hn) (by rw [e4,zI]) ?_ fun r hr hne=>?_
     ·rw [e4,zU r5.symm,hx3]
      have:=zMD (fun v:Addr × List (S × Int)=>V.ref v.1) ra2 p.1 (v.1,uG v.2 p.2) v g rfl
      rw [this]
     ·rw [e4,zU hne]; exact hr3 r hr
    ·
     rw [k8] at hnv
     have g:zS ra2 p.1=none:=by
      cases g:zS ra2 p.1 with
      | none=>rfl
      | some v=>rw [g] at hnv; cases hnv
     have hp2:=zGc (fun v:Addr × List (S × Int)=>V.ref v.1) ra2 p.1 (e0,[]) (zDA R2)
     have hHx:upd (upd H2 e0 (.dK [])) d (.dK (uL (vN (fun v:Addr × List (S × Int)=>V.ref v.1) ra2) (Sum.inr (tx p.1)) (.ref e0))) e0=some (.dK (vG [])):=by
      rw [zU hde.symm,zI]; rfl
     refine fin e0 [] _ hHx (by simp) (by simp) fun H4 e4=>common e0 [] _ H4 ((sm2.trans s3).upd_new hd) he0H (by rw [zU hdl]; exact hl3) (Reps.sameQ (jS.upd hx3) _ _ (Reps.same s3 _ _ rp2)) e4 hHx ?_
     refine R2.step p [] (by rw [g]; rfl) (fun v' hv'=>by rw [g] at hv'; cases hv') (fun _=>⟨he0H,hde.symm,fun hm=>?_⟩) (by rw [e4,zI]) ?_ fun r hr hne=>?_
     ·obtain ⟨r,hr,e⟩:=List.mem_map.mp hm
      exact hre r hr e
     ·rw [e4,zU hde,zI,hp2]
      congr 2
      have hk:p.1 ∉ ra2.map (·.1):=zGA.mp g
      rw [zCw _ _ _ hk,zCw _ _ _ hk]
      unfold vN q8
      rw [List.map_append,List.map_append,List.map_append,List.map_append]
      rfl
     ·rw [e4,zU hne,zU (R2.new r hr).2]; exact hr3 r hr
   ·rintro σ H2 ⟨⟨y,z,u,rfl⟩,sm2,hl2,rp2,ra2,R2,_⟩
    refine hN _ _ ⟨⟨_,_,_,_,rfl⟩,sm2,ra2,?_⟩
    rw [epairs]
    have hxl:xs.length=(zN o nm).length:=by have:=rp2.length; simpa using this.symm
    rw [hxl,List.take_length] at R2
    exact R2
  ·rintro σ H' ⟨⟨x1,x2,x3,x4,rfl⟩,sm,ra,R⟩
   refine ⟨_,rfl,k d H' sm hd ⟨ra,?_,R.top,R.row⟩⟩
   rw [R.rows]
   have:(zF bk).length=bk.length:=by simp [zF]
   rw [this,List.take_length]
end
end Kn
end
section
namespace Kn
open PySem L2
section
variable {P:Program}{w:World}{K:PySem.W.Frag}{mg:Str->Option Value}{base:Heap}
theorem zGh {a b:Int} (ha:0<=a) (hb:0 < b):Int.gcd b (a % b)=Int.gcd a b:=by
 obtain ⟨x,rfl⟩:=Int.eq_ofNat_of_zero_le ha
 obtain ⟨y,rfl⟩:=Int.eq_ofNat_of_zero_le (Int.le_of_lt hb)
 have e:((x:Int) % (y:Int))=((x % y:Nat):Int):=rfl
 rw [e]
 show Nat.gcd y (x % y)=Nat.gcd x y
 rw [Nat.gcd_comm y (x % y),<- Nat.gcd_rec,Nat.gcd_comm]
def zGi:Sp:=fun vs H Q _=>∃ u d:Int,vs=[.int u,.int d]/\0<=u/\0 < d/\d < 1073741824/\Q (.int (vC u d)) H
abbrev zBf:Stmt:=top 30
theorem zBg:FnScope ["one", "other", "rest"] ["one", "other"] (defScope zBf):=⟨rfl,rfl,rfl,by decide +kernel,rfl,by decide +kernel,by decide +kernel⟩
theorem zMG {f:Addr}{fd:FuncData} (F:Fun K "greatest_divisor" "greatest_divisor" zBf f fd):FnOk P w K mg base zY 1 f fd ["one", "other"] zGi:=by
 refine F.ok zBg (fun vs H Q E h=>?_) (fun cdv A outer s H vs Q E hr h=>?_)
 ·obtain ⟨a,b,rfl,_⟩:=h; rfl
 ·obtain ⟨u,d,rfl,hu0,hd0,hd1,k⟩:=h
  have nd:=zBg.nd
  refine ⟨_,zG (zCP PassesOwn.never (vK zAS (pv 1) zH (y9 _))
    (zG (z9 (i:=2) nd rfl (Or.inl rfl) (zR j7 (pv 0) (pv 1))) (zG (z9 (i:=0) nd rfl (Or.inl rfl) (pv 1)) (zE (z9 (i:=1) nd rfl (Or.inl rfl) (pv 2))))))
   (zE (zP (pv 0))),?_⟩
  refine ⟨fun m σ H'=>H'=H/\∃ (a b:Int) (r:Option V),σ=[some (.int a),some (.int b),r]/\m=b.toNat/\0<=a/\0<=b/\b < 1073741824/\Int.gcd a b=Int.gcd u d,⟨_,rfl,u,d,none,rfl,rfl,hu0,Int.le_of_lt hd0,hd1,rfl⟩,?_⟩
  rintro m σ H' ⟨rfl,a,b,r,rfl,rfl,ha,hb,hb1,hg⟩
  refine ⟨_,rfl,rfl,_,rfl,?_⟩
  by_cases hz:b=0
  ·subst hz
   refine uM rfl ⟨_,rfl,?_⟩
   have e:a=vC u d:=by
    unfold vC
    rw [<- hg]
    obtain ⟨x,rfl⟩:=Int.eq_ofNat_of_zero_le ha
    simp
   show Q (.int a) H'
   rw [e]
   exact k
  ·have hb0:0 < b:=by omega
   have hne:¬ (V.int b=V.int 0):=fun z=>hz (V.int.inj z)
   have et:(!decide (V.int b=V.int 0))=true:=by rw [decide_eq_false hne]; rfl
   show if (!decide (V.int b=V.int 0))=true then _ else _
   rw [if_pos et]
   refine ⟨fun σ' H''=>H''=H'/\σ'=[some (.int b),some (.int (a % b)),some (.int (a % b))],?_,?_⟩
   ·rintro σ' H'' ⟨rfl,rfl⟩
    have h1:=Int.emod_nonneg a hz
    have h2:=Int.emod_lt_of_pos a hb0
    exact ⟨(a % b).toNat,by omega,rfl,b,a % b,_,rfl,rfl,hb,h1,by omega,by rw [zGh ha hb0]; exact hg⟩
   ·exact ⟨_,rfl,_,rfl,_,_,rfl,rfl,hb0,_,rfl,_,rfl,rfl,rfl⟩
abbrev frO (q:Int × Int):HO:=.tup [.int q.1,.int q.2]
def zGj:Sp:=fun vs H Q _=>∃ u d:Int,vs=[.int u,.int d]/\0<=u/\0 < d/\d < 1073741824/\∀ p,H p=none->Q (.ref p) (upd H p (frO (low u d)))
abbrev zBh:Stmt:=top 31
theorem zBi:FnScope ["up", "down", "divisor"] ["up", "down"] (defScope zBh):=⟨rfl,rfl,rfl,by decide +kernel,rfl,by decide +kernel,by decide +kernel⟩
theorem zMH {f:Addr}{fd:FuncData} (F:Fun K "lowest" "lowest" zBh f fd) (c1:zO P w K mg base 1 "greatest_divisor" ["one", "other"] zGi):FnOk P w K mg base zY 2 f fd ["up", "down"] zGj:=by
 refine F.ok zBi (fun vs H Q E h=>?_) (fun cdv A outer s H vs Q E hr h=>?_)
 ·obtain ⟨a,b,rfl,_⟩:=h; rfl
 ·obtain ⟨u,d,rfl,hu0,hd0,hd1,k⟩:=h
  have nd:=zBi.nd
  refine ⟨_,zG (z9 (i:=2) nd rfl (Or.inl rfl) (zK c1 hr rfl (zA (pv 0) (zA (pv 1) zC))))
   (zE (zP (uK (zA (zR g8 (pv 0) (pv 2)) (zA (zR g8 (pv 1) (pv 2)) zC))))),?_⟩
  have g1:=zBT (u:=u) hd0
  have g2:vC u d<=d:=Int.le_of_dvd hd0 (Int.gcd_dvd_right ..)
  refine ⟨_,rfl,_,rfl,u,d,rfl,hu0,hd0,hd1,?_⟩
  exact ⟨_,rfl,_,rfl,_,_,rfl,rfl,⟨g1,by omega⟩,_,rfl,_,rfl,_,_,rfl,rfl,⟨g1,by omega⟩,by show 2<=sizeLine; decide,k⟩
def vS (K:PySem.W.Frag) (H:Hp) (v:V) (q:Int × Int):Prop:=∃ a,v=.ref a/\zZ K H a [.int q.1,.int q.2]
theorem vS.same {H H':Hp}{v:V}{q:Int × Int} (h:vS K H v q) (e:zB H H'):vS K H' v q:=by
 obtain ⟨a,h1,h2⟩:=h
 exact ⟨a,h1,e.seqT h2⟩
theorem vS.new {H:Hp}{p:Addr}{q:Int × Int}:vS K (upd H p (frO q)) (.ref p) q:=⟨p,rfl,.of zI⟩
theorem vS.rep {H:Hp}{v:V}{q:Int × Int} (h:vS K H v q):vF K H (.tuple [.int q.1,.int q.2]) v:=by
 obtain ⟨a,h1,h2⟩:=h
 exact ⟨a,_,h1,h2,_,_,rfl,rfl,_,_,rfl,rfl,rfl⟩
theorem vS.of_rep {H:Hp}{v:V}{q:Int × Int} (h:vF K H (.tuple [.int q.1,.int q.2]) v):vS K H v q:=by
 obtain ⟨a,xs,h1,h2,y,ys,rfl,h3,z,zs,rfl,h4,h5⟩:=h
 have e1:y=.int q.1:=h3
 have e2:z=.int q.2:=h4
 have e3:zs=[]:=h5
 subst e1 e2 e3
 exact ⟨a,h1,h2⟩
abbrev zDB:Stmt:=top 32
abbrev zDC:Stmt:=top 33
theorem zMI:FnScope ["one", "other"] ["one", "other"] (defScope zDB):=⟨rfl,rfl,rfl,by decide +kernel,rfl,by decide +kernel,by decide +kernel⟩
theorem zMJ:FnScope ["one", "other"] ["one", "other"] (defScope zDC):=⟨rfl,rfl,rfl,by decide +kernel,rfl,by decide +kernel,by decide +kernel⟩
end
end Kn
end
section
namespace Kn
open PySem L2
theorem zMK {ps:List (S × S)}{e:S}{xs:List (S × Int)} (nd:(xs.map (·.1)).Nodup) (mem:∀ l n,(l,n)∈xs↔n=(ps.count (e,l):Int)/\0 < n):(xs.map (·.2)).sum=(tot ps e:Int):=by
 have h:=zCp (ps.filter fun p=>decide (p.1=e)) (xs.map fun p=>(e,p.1)) ?_ ?_
 ·unfold tot
  rw [<- h,List.map_map]
  congr 1
  apply List.map_congr_left
  rintro ⟨l,n⟩ hm
  have:=((mem l n).mp hm).1
  show n=(List.count (e,l) (ps.filter fun p=>decide (p.1=e)):Int)
  rw [List.count_filter (by simp)]
  exact this
 ·have:=nd
  rw [List.Nodup,List.pairwise_map] at this ⊢
  exact this.imp fun {p q} hpq z=>hpq (congrArg Prod.snd z)
 ·rintro ⟨e',l⟩ hm
  obtain ⟨h1,h2⟩:=List.mem_filter.mp hm
  have h2':e'=e:=by simpa using h2
  subst h2'
  exact List.mem_map.mpr ⟨(l,(ps.count (e',l):Int)),(mem l _).mpr ⟨rfl,by
   have:=List.count_pos_iff.mpr h1
   omega⟩,rfl⟩
def yO (ps:List (S × S)) (e:S):List (S × Int):=(zS (vV ps) e).getD []
theorem zAk (ps:List (S × S)) (e:S):((yO ps e).map (·.1)).Nodup:=by
 unfold yO
 cases g:zS (vV ps) e with
 | none=>simp
 | some row=>exact (u9 ps).ndr e row ((uO (u9 ps).nd e row).mpr g)
theorem zBj (ps:List (S × S)) (e l:S):zS (yO ps e) l=if 0 < ps.count (e,l) then some (ps.count (e,l):Int) else none:=(u9 ps).val e l
theorem zAl (ps:List (S × S)) (e l:S) (n:Int):(l,n)∈yO ps e↔n=(ps.count (e,l):Int)/\0 < n:=by
 rw [uO (zAk ps e),zBj]
 by_cases c:0 < ps.count (e,l)
 ·rw [if_pos c]
  constructor
  ·intro z
   have:=Option.some.inj z
   omega
  ·rintro ⟨z,_⟩; rw [z]
 ·rw [if_neg c]
  constructor
  ·intro z; cases z
  ·rintro ⟨z1,z2⟩; omega
theorem zDD (ps:List (S × S)) (e:S):((yO ps e).map (·.2)).sum=(tot ps e:Int):=zMK (zAk ps e) (zAl ps e)
theorem tot_le (ps:List (S × S)) (e:S):tot ps e<=ps.length:=List.length_filter_le ..
structure Cst2 (K:PySem.W.Frag) (mg:Str->Option Value):Prop where
 nought:∃ a,mg "NOUGHT" = some (.ref a)/\∀ H,zZ K H a [.int 0,.int 1]
 whole:∃ a,mg "WHOLE" = some (.ref a)/\∀ H,zZ K H a [.int 1,.int 1]
section
variable {P:Program}{w:World}{K:PySem.W.Frag}{mg:Str->Option Value}{base:Heap}
def zGk (K:PySem.W.Frag):Sp:=fun vs H Q _=>∃ (d:Addr) (ps:List (S × S)) (e l:S),vs=[.ref d,sv l]/\H d=some (.dK (vG (yO ps e)))/\ps.length < 1000/\∀ v H',zB H H'->vS K H' v (yN ps e l)->Q v H'
abbrev zDE:Stmt:=top 34
theorem zML:FnScope ["row", "letter"] ["row", "letter"] (defScope zDE):=⟨rfl,rfl,rfl,by decide +kernel,rfl,by decide +kernel,by decide +kernel⟩
theorem zMM {f:Addr}{fd:FuncData} (F:Fun K "part_in" "part_in" zDE f fd) (B:Blt mg) (C:Cst2 K mg) (c1:zO P w K mg base 2 "lowest" ["up", "down"] zGj):FnOk P w K mg base zY 3 f fd ["row", "letter"] (zGk K):=by
 obtain ⟨aN,hN,tN⟩:=C.nought
 refine F.ok zML (fun vs H Q E h=>?_) (fun cdv A outer s H vs Q E hr h=>?_)
 ·obtain ⟨d,ps,e,l,rfl,_⟩:=h; rfl
 ·obtain ⟨d,ps,e,l,rfl,hd,hl,k⟩:=h
  have hu:=gO hr
  refine ⟨_,zG (yI (zJH (zKa hu (pv 1) (pv 0))) (zE (zP (yR (v:=.ref aN) (by rfl) hN rfl))) yH)
   (zE (zP (zK c1 hr rfl (zA (zAc hu (pv 0) (pv 1) (fun _ _=>rfl)) (zA (yA (zLG rfl) (by rfl) B.sum PyProof.Rows.boot_sum (zA (zCY PySem.F.plainAttrs_dict PySem.F.slot_dict_values PySem.F.type_dict_values zLF (pv 0)) zC)) zC))))),?_⟩
  refine ⟨_,rfl,_,rfl,d,_,rfl,uB.k (k:=Sum.inr (tx l)) hd,_,rfl,?_⟩
  rw [k8,zBj]
  by_cases c:0 < ps.count (e,l)
  ·rw [if_pos c]
   refine z4 ?_
   refine ⟨_,rfl,_,rfl,d,.int (ps.count (e,l):Int),rfl,?_,?_⟩
   ·have:=uB.k (k:=Sum.inr (tx l)) hd
    rw [k8,zBj,if_pos c] at this
    exact this
   refine ⟨_,rfl,.inr (.inr (.inl ⟨rfl,.inl ⟨_,hd⟩⟩)),d,_,rfl,rfl,hd,fun p hp=>?_⟩
   have s1:zB H (upd H p (VLS p d)):=zB.upd1 hp
   refine ⟨p,d,(yO ps e).map (fun q=>((Sum.inr (tx q.1):zV),q.2)),rfl,zI,?_,?_⟩
   ·rw [s1 _ _ hd]
    unfold vG vN q8
    rw [List.map_map,List.map_map]; rfl
   ·have e1:(((yO ps e).map fun q=>((Sum.inr (tx q.1):zV),q.2)).map (·.2)).sum=(tot ps e:Int):=by
     rw [List.map_map]; exact zDD ps e
    rw [e1]
    have h1:=zAi ps e l
    have h2:=tot_le ps e
    refine ⟨_,_,rfl,by omega,by omega,by omega,fun p2 hp2=>k _ _ (s1.trans (zB.upd1 hp2)) ?_⟩
    have:yN ps e l=low (ps.count (e,l):Int) (tot ps e:Int):=by unfold yN; rw [if_neg (by omega)]
    rw [this]
    exact vS.new
  ·rw [if_neg c]
   refine yB ?_
   have:yN ps e l=(0,1):=by unfold yN; rw [if_pos (by omega)]
   exact k _ _ (zB.refl H) (by rw [this]; exact ⟨aN,rfl,tN _⟩)
end
end Kn
end
section
namespace Kn
open PySem L2
section
variable {P:Program}{w:World}{K:PySem.W.Frag}{mg:Str->Option Value}{base:Heap}
theorem zAI {X:Cx} (K':PySem.W.Frag) {pos:Pos}{es:List Expr}{k:Nat}{t:kO} (n:Nat) (hK:X.K=K') (hc:X.calm=true) (h:PGs X es t)
  (hn:(assignEach es X.env).length=n) (hst:(assignEach es X.env).findIdx? (·.1)=none):PG X (.Tuple es k pos) (zEb K' n t):=by
 subst hK
 exact g6 hc h hn hst
def frD (q:Int × Int):PyData:=.tuple [.int q.1,.int q.2]
def stD (ps:List (S × S)) (p:S × S):PyData:=.tuple [.str (tx p.1),.str (tx p.2),frD (yN ps p.1 p.2)]
def zGl (K:PySem.W.Frag):Sp:=fun vs H Q _=>∃ (d:Addr) (ps:List (S × S)) (o:Nat) (nm:S),vs=[.ref d,.int o,sv nm]/\kH H d ps/\ps.length < 1000/\1<=o/\nm.length<=64 /\
 ∀ a xs H',zB H H'->H a=none->H' a=some (.lst xs)->Reps K H' ((zN o nm).map (stD ps)) xs->Q (.ref a) H'
abbrev zDF:Stmt:=top 35
theorem zMN:FnScope ["rows", "order", "name"] ["rows", "order", "name"] (defScope zDF):=⟨rfl,rfl,rfl,by decide +kernel,rfl,by decide +kernel,by decide +kernel⟩
theorem nd3:(["rows", "end", "letter"]:List Str).Nodup:=by decide +kernel
theorem kH.get {H:Hp}{d:Addr}{ps:List (S × S)} (h:kH H d ps) (e:S):∃ kvs:List (zV × V),H d=some (.dK kvs)/\((vY kvs (Sum.inr (tx e))=none/\yO ps e=[])\/∃ a,vY kvs (Sum.inr (tx e))=some (.ref a)/\H a=some (.dK (vG (yO ps e)))):=by
 obtain ⟨ra,h1,h2,h3⟩:=h
 refine ⟨_,h2,?_⟩
 rw [k8]
 have nd:(ra.map (·.1)).Nodup:=by
  have h:=(u9 ps).nd
  rw [<- h1,List.map_map] at h
  exact h
 have e2:zS (vV ps) e=(zS ra e).map (·.2):=by
  rw [<- h1]
  exact zGe (fun v:Addr × List (S × Int)=>v.2) ra e
 cases g:zS ra e with
 | none=>exact .inl ⟨rfl,by unfold yO; rw [e2,g]; rfl⟩
 | some v =>
  refine .inr ⟨v.1,rfl,?_⟩
  have:=h3 _ ((uO nd e v).mpr g)
  unfold yO
  rw [e2,g]
  exact this
theorem qU (o:Nat) (nm:S):(zN o nm).length=nm.length+1:=by simp [zN]
theorem zMO {H:Hp}{o:Nat}{nm:S}{xs:List V}{i:Nat}{x:V} (rp:Reps K H ((zN o nm).map k7) xs) (hx:xs[i]?=some x):∃ (p:S × S) (a:Addr),(zN o nm)[i]?=some p/\x=.ref a/\zZ K H a [sv p.1,sv p.2]:=by
 obtain ⟨dd,hdd,rx⟩:=rp.get hx
 rw [List.getElem?_map] at hdd
 cases ep:(zN o nm)[i]? with
 | none=>rw [ep] at hdd; cases hdd
 | some p =>
 rw [ep] at hdd
 have hd2:dd=k7 p:=(Option.some.inj hdd).symm
 subst hd2
 obtain ⟨at',xs',rfl,hsq,y1,ys1',rfl,ry1,y2,ys2',rfl,ry2,hnil⟩:=rx
 have ey1:y1=sv p.1:=ry1
 have ey2:y2=sv p.2:=ry2
 have en:ys2'=[]:=hnil
 subst ey1 ey2 en
 exact ⟨p,at',rfl,rfl,hsq⟩
theorem zMP {f:Addr}{fd:FuncData} (F:Fun K "steps_by_rows" "steps_by_rows" zDF f fd) (cEnds:zO P w K mg base 2 "ends_and_letters" ["name", "order"] (zBW K)) (cPart:zO P w K mg base 3 "part_in" ["row", "letter"] (zGk K)) :
  FnOk P w K mg base zY 4 f fd ["rows", "order", "name"] (zGl K):=by
 refine F.ok zMN (fun vs H Q E h=>?_) (fun cdv A outer s H vs Q E hr h=>?_)
 ·obtain ⟨d,ps,o,nm,rfl,_⟩:=h; rfl
 ·obtain ⟨d,ps,o,nm,rfl,hR,hps,ho,hl,k⟩:=h
  have hu:=gO hr
  have hr2:=hr.mono (j:=2) (by decide)
  refine ⟨_,zE (zP (qH (N:=["rows", "end", "letter"]) (caps:=[0]) rfl (uF (by kernel_rfl))
   (j6 (zK cEnds hr2 rfl (zA (pv 2) (zA (pv 1) zC))))
   (fun cl C s H ex=>zAI K 2 rfl rfl (vQ (yG (i:=1) nd3 rfl (Or.inl rfl)) (vQ (yG (i:=2) nd3 rfl (Or.inl rfl)) jE)) rfl rfl)
   (fun cl C s H ex=>uN)
   (fun cl C s H ex=>uK (zA (pv 1) (zA (pv 2) (zA (zK cPart hr rfl (zA (zCc hu (pv 0) (pv 1) zBL ⟨rfl,rfl,rfl,rfl⟩) (zA (pv 2) zC))) zC)))))),?_⟩
  refine ⟨_,rfl,_,rfl,nm,o,rfl,ho,hl,fun l xs Hl sml hln hll rp=>?_⟩
  refine ⟨l,rfl,⟨_,.of hll⟩,?_⟩
  have hxl:xs.length=nm.length+1:=by have:=rp.length; rw [<- this,List.length_map,qU]
  refine uY (kD K l xs) [some (.ref d)] 2 (by omega) (fun i acc H'=>zB Hl H'/\acc.length=i/\Reps K H' (((zN o nm).take i).map (stD ps)) acc)
   ⟨zB.refl _,rfl,rfl⟩ (fun i acc H' _ h=>⟨.of (h.1 _ _ hll),Nat.le_of_eq h.2.1⟩) ?_ ?_
  ·rintro i x acc H' ys Nx hN hx hy ⟨sm,hal,rp'⟩
   obtain ⟨y,z,rfl⟩:=k6 hy
   obtain ⟨p,at',ep,rfl,hsq⟩:=zMO (Reps.same sm _ _ rp) hx
   have hj:i < (zN o nm).length:=(List.getElem?_eq_some_iff.mp ep).1
   refine ⟨at',[sv p.1,sv p.2],rfl,hsq,rfl,_,_,rfl,_,_,rfl,rfl,?_⟩
   have R':kH H' d ps:=(hR.same sml).same sm
   obtain ⟨kvs,hd,hv⟩:=R'.get p.1
   refine ⟨_,rfl,_,rfl,_,rfl,d,rfl,.inl ⟨_,.inl hd⟩,_,rfl,fun e0 he0=>?_⟩
   have s3:zB H' (upd H' e0 (.dK [])):=zB.upd1 he0
   have fin:∀ (ra:Addr),upd H' e0 (.dK []) ra=some (.dK (vG (yO ps p.1)))->∀ v,v=V.ref ra->(∀ (ra2:V) (H5:Hp),zB (upd H' e0 (.dK [])) H5->vS K H5 ra2 (yN ps p.1 p.2)->∀ pp,H5 pp=none->Nx (acc++[.ref pp]) [some (.ref d),some (sv p.1),some (sv p.2)] (upd H5 pp (.tup [sv p.1,sv p.2,ra2]))):=by
    intro ra hra v hv' ra2 H5 s5 fr pp hpp
    refine hN _ _ [some (sv p.1),some (sv p.2)] rfl ⟨((sm.trans s3).trans s5).trans (zB.upd1 hpp),by rw [List.length_append,hal]; rfl,?_⟩
    rw [List.take_succ_eq_append_getElem hj,(List.getElem?_eq_some_iff.mp ep).2,List.map_append]
    refine Reps.append (Reps.same ((s3.trans s5).trans (zB.upd1 hpp)) _ _ rp') (Reps.one ⟨pp,_,rfl,.of zI,?_⟩)
    exact ⟨_,_,rfl,rfl,_,_,rfl,rfl,_,_,rfl,(fr.same (zB.upd1 hpp)).rep,rfl⟩
   have hd3:upd H' e0 (.dK []) d=some (.dK kvs):=s3 _ _ hd
   refine ⟨_,uB.k (k:=Sum.inr (tx p.1)) hd3,_,rfl,?_⟩
   rcases hv with ⟨hv1,hv2⟩ | ⟨ra,hv1,hv2⟩
   ·rw [hv1]
    have hra:upd H' e0 (.dK []) e0=some (.dK (vG (yO ps p.1))):=by rw [zI,hv2]; rfl
    exact ⟨e0,ps,p.1,p.2,rfl,hra,hps,fun v H5 s5 fr=>⟨by show 3<=sizeLine; decide,fun pp hpp=>fin e0 hra _ rfl v H5 s5 fr pp hpp⟩⟩
   ·rw [hv1]
    have hra:upd H' e0 (.dK []) ra=some (.dK (vG (yO ps p.1))):=s3 _ _ hv2
    exact ⟨ra,ps,p.1,p.2,rfl,hra,hps,fun v H5 s5 fr=>⟨by show 3<=sizeLine; decide,fun pp hpp=>fin ra hra _ rfl v H5 s5 fr pp hpp⟩⟩
  ·rintro acc H' ⟨sm,hal,rp'⟩ D hD
   have sml2:=sml.trans sm
   refine k D acc _ (sml2.upd_new (sml2.free hD)) (sml2.free hD) zI (Reps.same (zB.upd1 hD) _ _ ?_)
   have e1:(zN o nm).take xs.length=zN o nm:=by rw [hxl,<- qU o nm,List.take_length]
   rw [e1] at rp'
   exact rp'
end
end Kn
end
section
namespace Kn
open PySem L2
theorem zMQ {ps:List (S × S)} (h1:1<=ps.length) (qs:List (S × S)):(jB ps qs).2<=((ps.length ^ qs.length:Nat):Int):=by
 have:=zGM h1 qs (1,1) 0 zAh (by simp)
 rw [Nat.zero_add] at this
 rw [Int.natCast_pow]
 exact this
theorem zMR (ps qs:List (S × S)):Fq (jB ps qs):=zGI ps qs _ zAh
theorem zMS (ps qs:List (S × S)):(jB ps qs).1<=(jB ps qs).2:=zGJ ps qs _ zAh (by decide)
theorem zMT (ps qs:List (S × S)) (p:S × S):jB ps (qs++[p])=vR (jB ps qs) (yN ps p.1 p.2):=by
 unfold jB; rw [List.foldl_append]; rfl
section
variable {P:Program}{w:World}{K:PySem.W.Frag}{mg:Str->Option Value}{base:Heap}
theorem zMU {H:Hp}{ps:List (S × S)}{qs:List (S × S)}{xs:List V}{i:Nat}{x:V} (rp:Reps K H (qs.map (stD ps)) xs) (hx:xs[i]?=some x):∃ (p:S × S) (a:Addr) (v:V),qs[i]?=some p/\x=.ref a/\zZ K H a [sv p.1,sv p.2,v]/\vS K H v (yN ps p.1 p.2):=by
 obtain ⟨dd,hdd,rx⟩:=rp.get hx
 rw [List.getElem?_map] at hdd
 cases ep:qs[i]? with
 | none=>rw [ep] at hdd; cases hdd
 | some p =>
 rw [ep] at hdd
 have hd2:dd=stD ps p:=(Option.some.inj hdd).symm
 subst hd2
 obtain ⟨at',xs',rfl,hsq,y1,ys1',rfl,ry1,y2,ys2',rfl,ry2,y3,ys3',rfl,ry3,hnil⟩:=rx
 have ey1:y1=sv p.1:=ry1
 have ey2:y2=sv p.2:=ry2
 have en:ys3'=[]:=hnil
 subst ey1 ey2 en
 exact ⟨p,at',y3,rfl,rfl,hsq,vS.of_rep ry3⟩
abbrev zDG:Stmt:=top 36
theorem zGm:FnScope ["rows", "order", "name", "product", "step"] ["rows", "order", "name"] (defScope zDG):=⟨rfl,rfl,rfl,by decide +kernel,rfl,by decide +kernel,by decide +kernel⟩
structure Bk (bk:List S) (o:Nat):Prop extends isBk bk where
 o1:1<=o
 o3:o<=3
theorem Bk.l8 {bk:List S}{o:Nat} (h:Bk bk o):∀ x∈bk,x.length<=8:=fun x hx=>(h.nm x hx).2.1
theorem zGn {bk:List S}{o:Nat} (h:Bk bk o):1<=(zD o bk).length/\(zD o bk).length < 1000:=by
 have e:=zBS o bk
 have go:∀ l:List S,(∀ x∈l,x.length<=8)->(l.length:Int)<=(l.map fun x=>(x.length:Int)+1).sum/\(l.map fun x=>(x.length:Int)+1).sum<=9 * (l.length:Int):=by
  intro l
  induction l with
  | nil=>intro _; simp
  | cons x r ih =>
   intro hl
   have h1:=hl x (List.mem_cons_self ..)
   have h2:=ih fun y hy=>hl y (List.mem_cons_of_mem _ hy)
   rw [List.map_cons,List.sum_cons,List.length_cons]
   have:((r.length+1:Nat):Int)=(r.length:Int)+1:=rfl
   omega
 have:=go bk h.l8
 have h1:=h.lo
 have h2:=h.hi
 omega
abbrev zDH:Stmt:=top 37
abbrev zDI:Stmt:=top 38
theorem zMV:FnScope ["book", "order", "name"] ["book", "order", "name"] (defScope zDH):=⟨rfl,rfl,rfl,by decide +kernel,rfl,by decide +kernel,by decide +kernel⟩
theorem zMW:FnScope ["book", "order", "name"] ["book", "order", "name"] (defScope zDI):=⟨rfl,rfl,rfl,by decide +kernel,rfl,by decide +kernel,by decide +kernel⟩
structure Needs (P:Program) (w:World) (K:PySem.W.Frag) (mg:Str->Option Value) (base:Heap):Prop where
 bk:zO P w K mg base 3 "need_book" ["thing"] zGX
 od:zO P w K mg base 3 "need_order" ["thing"] zGZ
 nm:zO P w K mg base 2 "need_name" ["thing"] zCu
 rows:zO P w K mg base 3 "counted_rows" ["book", "order"] zCy
end
end Kn
end
section
namespace Kn
open PySem L2
section
variable {P:Program}{w:World}{K:PySem.W.Frag}{mg:Str->Option Value}{base:Heap}
end
end Kn
end
section
namespace Kn
open PySem L2
theorem zBk (x:Str):tx x.cps.toList=x:=by
 apply MyS.Str_ext
 simp [tx]
theorem zMX (l:List Str):(l.map fun x=>x.cps.toList).map tx=l:=by
 rw [List.map_map]
 conv=>rhs; rw [<- List.map_id l]
 apply List.map_congr_left
 intro x _
 exact zBk x
def zBl:V->Int
 | .int i=>i
 | _=>0
theorem zMY {out:List (Str × V)}{row:List (S × Int)} (h:out.Perm (row.map fun q=>(tx q.1,V.int q.2))):∃ rs:List (S × Int),rs.Perm row/\out=rs.map fun q=>(tx q.1,V.int q.2):=by
 refine ⟨out.map fun p=>(p.1.cps.toList,zBl p.2),?_,?_⟩
 ·have:=h.map fun p:Str × V=>(p.1.cps.toList,zBl p.2)
  rw [List.map_map] at this
  have e:(row.map ((fun p:Str × V=>(p.1.cps.toList,zBl p.2)) ∘ fun q=>(tx q.1,V.int q.2)))=row:=by
   conv=>rhs; rw [<- List.map_id row]
   apply List.map_congr_left
   rintro ⟨a,b⟩ _
   show ((tx a).cps.toList,b)=(a,b)
   rw [vM]
  rw [e] at this
  exact this
 ·rw [List.map_map]
  conv=>lhs; rw [<- List.map_id out]
  apply List.map_congr_left
  rintro ⟨a,b⟩ hm
  obtain ⟨q,_,e⟩:=List.mem_map.mp (h.mem_iff.mp hm)
  have e1:tx q.1=a:=(Prod.mk.inj e).1
  have e2:V.int q.2=b:=(Prod.mk.inj e).2
  subst e2
  show (a,V.int q.2)=(tx a.cps.toList,V.int (zBl (V.int q.2)))
  rw [zBk]; rfl
def zBm (q:S × Int):PyData:=.tuple [.str (tx q.1),.int q.2]
section
variable {P:Program}{w:World}{K:PySem.W.Frag}{mg:Str->Option Value}{base:Heap}
theorem zGo {H:Hp}:∀ (rs:List (S × Int)) (ts:List V),ts.length=rs.length->(∀ (i:Nat) (q:S × Int),rs[i]?=some q->∃ a,ts[i]?=some (.ref a)/\H a=some (.tup [sv q.1,.int q.2]))->Reps K H (rs.map zBm) ts
 | [],ts,hl,_=>by
  have:ts=[]:=by simpa using hl
  rw [this]; exact rfl
 | q::rs,ts,hl,h=>by
  obtain ⟨a,e,ha⟩:=h 0 q rfl
  cases ts with
  | nil=>simp at e
  | cons t ts =>
   have e':t=.ref a:=by simpa using e
   subst e'
   refine ⟨_,_,rfl,⟨a,_,rfl,.of ha,_,_,rfl,rfl,_,_,rfl,rfl,rfl⟩,zGo rs ts (by simpa using hl) fun i q' hq=>?_⟩
   obtain ⟨b,e2,hb⟩:=h (i+1) q' (by simpa using hq)
   exact ⟨b,by simpa using e2,hb⟩
theorem zMZ {X:Cx} (K':PySem.W.Frag) (hK:X.K=K') {o:Expr}{to:TE}{name:Str}{apos cpos:Pos}{T id:String}{r:V->List V->Hp->VK->Prop} (pa:PlainAttrs T) (slot:Slot T name id) (hty:typeOf (.builtin id)=pure (.type "method_descriptor")) (hm:gK X id r) (ho:PE X o to)
  (hbase:attributeBase o name X.env (eval o X.env)=eval o X.env:=by rfl) (hline:(apos.endLine == cpos.line)=true:=by rfl):PE X (.Call (.Attribute o name apos) [] [] cpos) (zFH K' T r to):=by
 subst hK
 exact zCY pa slot hty hm ho hbase hline
end
end Kn
end
section
namespace Kn
open PySem L2
section
variable {P:Program}{w:World}{K:PySem.W.Frag}{mg:Str->Option Value}{base:Heap}
theorem zGp {H:Hp}:∀ ns:List Int,Reps K H (ns.map PyData.int) (ns.map V.int)
 | []=>rfl
 | n::ns=>⟨_,_,rfl,rfl,zGp ns⟩
theorem zGq:∀ ns:List Int,PyData.canLayAll0 (ns.map PyData.int)=true
 | []=>rfl
 | n::ns=>by rw [List.map_cons]; simp only [PyData.canLayAll0,PyData.canLay0,zGq ns,Bool.and_self]
def zGr (K:PySem.W.Frag):Sp:=fun vs H Q _=>∃ (a:Addr) (ns:List Int) (k:Nat),vs=[.ref a,.int k]/\yC K H a (ns.map V.int)/\ns.length<=63/\∀ (i:Int) H',zB H H'->Q (.int i) H'
abbrev zDJ:Stmt:=top 69
theorem zMa:FnScope ["_law_script", "_law_k"] ["_law_script", "_law_k"] (defScope zDJ):=⟨rfl,rfl,rfl,by decide +kernel,rfl,by decide +kernel,by decide +kernel⟩
theorem zMb (ns:List Int):SeqAt.shaped (.list (ns.map PyData.int))=true:=by
 unfold SeqAt.shaped
 have h1:(PyData.list (ns.map PyData.int)).canLay0=true:=by simp only [PyData.canLay0]; exact zGq ns
 have h2:(PyData.list (ns.map PyData.int)).depth<=64:=by
  have go:∀ ns:List Int,PyData.depthAll (ns.map PyData.int)<=1:=by
   intro ns
   induction ns with
   | nil=>decide
   | cons n ns ih=>rw [List.map_cons]; simp only [PyData.depthAll,PyData.depth]; omega
  have:=go ns
  simp only [PyData.depth]; omega
 rw [h1,decide_eq_true h2]; rfl
theorem zMc {f:Addr}{fd:FuncData} (F:Fun K "_law_cell" "_law_cell" zDJ f fd) (B:Blt mg):FnOk P w K mg base zY 1 f fd ["_law_script", "_law_k"] (zGr K):=by
 refine F.ok zMa (fun vs H Q E h=>?_) (fun cdv A outer s H vs Q E hr h=>?_)
 ·obtain ⟨a,ns,k,rfl,_⟩:=h; rfl
 ·obtain ⟨a,ns,n,rfl,ha,hl,k⟩:=h
  have hu:=hr.units
  refine ⟨_,zG (yI (vK (zAd hu) (pv 0) (uV zC) (y9 _)) (zE (zP (zR gJ zH (pv 1)))) yH)
   (zE (zP (zR yW (yD zAA (pv 0) (zR j7 (pv 1) (yA jR (by rfl) B.len PySem.boot_len (zA (pv 0) zC))) (fun _ _=>rfl))
    (zR gJ zH (zR g8 (pv 1) (yA jR (by rfl) B.len PySem.boot_len (zA (pv 0) zC))))))),?_⟩
  refine ⟨_,rfl,by show 0<=sizeLine; decide,fun p hp=>?_⟩
  have s1:zB H (upd H p (.lst [])):=zB.upd1 hp
  refine ⟨.list (ns.map PyData.int),.list [],⟨a,_,rfl,s1.seq ha,zGp ns⟩,⟨p,[],rfl,.of zI,rfl⟩,zMb ns,rfl,_,rfl,?_⟩
  cases ns with
  | nil=>exact yB ⟨_,rfl,7,n,rfl,rfl,.inl ⟨by decide,by decide⟩,k _ _ s1⟩
  | cons m ns =>
   refine z4 ?_
   have hlen:((m::ns).map V.int).length=ns.length+1:=by simp
   have hll:ns.length+1<=63:=by simpa using hl
   have hm:((n:Int) % (((m::ns).map V.int).length:Int))=((n % (ns.length+1):Nat):Int):=by rw [hlen]; rfl
   have hlt:n % (ns.length+1) < ((m::ns).map V.int).length:=by rw [hlen]; exact Nat.mod_lt _ (Nat.succ_pos _)
   refine ⟨_,rfl,_,rfl,_,rfl,a,_,rfl,.inl (s1.seq ha),_,_,rfl,rfl,by rw [hlen]; omega,?_⟩
   refine ⟨a,_,_,.int ((m::ns)[n % (ns.length+1)]'(by simpa using hlt)),rfl,rfl,s1.seq ha,?_,?_⟩
   ·rw [hm]
    refine jF ?_
    rw [List.getElem?_map,List.getElem?_eq_getElem (by simpa using hlt)]; rfl
   ·exact ⟨_,rfl,_,rfl,a,_,rfl,.inl (s1.seq ha),_,_,rfl,rfl,⟨by rw [hlen]; omega,by rw [hlen]; omega⟩,_,_,rfl,rfl,.inl ⟨by decide,by decide⟩,_,_,rfl,rfl,k _ _ s1⟩
theorem lt0 {d:Int} (h:0 < d):0 < d:=h
theorem cmE {t d q:Int} (h:0 < d) (h2:d < 18446744073709551616):zBE (t % d) q:=by
 have h1:=Int.emod_nonneg t (show d≠0 by omega)
 have h3:=Int.emod_lt_of_pos t h
 exact .inl ⟨by omega,by omega⟩
def zBn (K:PySem.W.Frag):Sp:=fun vs H Q _=>∃ (a:Addr) (ns:List Int) (k m:Nat),vs=[.ref a,.int k,.int m]/\yC K H a (ns.map V.int)/\ns.length<=63/\1<=m/\m < 1000/\∀ (i:Nat) H',i < m->zB H H'->Q (.int i) H'
abbrev zDK:Stmt:=top 70
theorem zGs:FnScope ["_law_script", "_law_k", "_law_many", "_law_cell_here"] ["_law_script", "_law_k", "_law_many"] (defScope zDK):=⟨rfl,rfl,rfl,by decide +kernel,rfl,by decide +kernel,by decide +kernel⟩
theorem zMd {f:Addr}{fd:FuncData} (F:Fun K "_law_drawn" "_law_drawn" zDK f fd) (c1:zO P w K mg base 1 "_law_cell" ["_law_script", "_law_k"] (zGr K)):FnOk P w K mg base zY 2 f fd ["_law_script", "_law_k", "_law_many"] (zBn K):=by
 refine F.ok zGs (fun vs H Q E h=>?_) (fun cdv A outer s H vs Q E hr h=>?_)
 ·obtain ⟨a,ns,k,m,rfl,_⟩:=h; rfl
 ·obtain ⟨a,ns,n,m,rfl,ha,hl,hm1,hm2,k⟩:=h
  have nd:=zGs.nd
  refine ⟨_,zG (z9 (i:=3) nd rfl (Or.inl rfl) (zR j7 (zR yW (zR gJ (zR j7 (zK c1 hr rfl (zA (pv 0) (zA (pv 1) zC))) zH) zH) (zR gJ zH (zR yW (pv 1) zH))) zH))
   (zG (z9 (i:=3) nd rfl (Or.inl rfl) (zR j7 (zR yW (zR gJ (pv 3) (pv 3)) (zR g8 (pv 3) zH)) zH))
   (zE (zP (zR j7 (zR g8 (zR j7 (zR yW (zR gJ (pv 3) (pv 3)) (zR g8 (pv 3) zH)) zH) zH) (pv 2))))),?_⟩
  refine ⟨_,rfl,_,rfl,a,ns,n,rfl,ha,hl,fun i H' s1=>?_⟩
  have fin:∀ z:Int,Q (.int (z % (m:Int))) H':=fun z=>by
   have z1:0<=z % (m:Int):=Int.emod_nonneg _ (by omega)
   have z2:z % (m:Int) < m:=Int.emod_lt_of_pos _ (by omega)
   have e:z % (m:Int)=((z % (m:Int)).toNat:Int):=(Int.toNat_of_nonneg z1).symm
   rw [e]
   exact k _ _ (by omega) s1
  refine ⟨_,_,rfl,rfl,lt0 (by decide),_,_,rfl,rfl,.inr ⟨by decide,by decide⟩,?_⟩
  refine ⟨_,rfl,_,_,rfl,rfl,_,_,rfl,rfl,.inl ⟨by decide,by decide⟩,_,_,rfl,rfl,_,_,rfl,rfl,lt0 (by decide),?_⟩
  refine ⟨_,rfl,_,rfl,_,_,rfl,rfl,cmE (by decide) (by decide),_,rfl,_,_,rfl,rfl,⟨by decide,by decide⟩,_,_,rfl,rfl,_,_,rfl,rfl,lt0 (by decide),?_⟩
  refine ⟨_,rfl,_,rfl,_,_,rfl,rfl,cmE (by decide) (by decide),_,rfl,_,_,rfl,rfl,⟨by decide,by decide⟩,_,_,rfl,rfl,_,_,rfl,rfl,lt0 (by decide),_,_,rfl,rfl,⟨by decide,by decide⟩,_,rfl,_,_,rfl,rfl,?_,fin _⟩
  show (0:Int) < (m:Int)
  omega
end
end Kn
end
section
namespace Kn
open PySem L2
section
variable {P:Program}{w:World}{K:PySem.W.Frag}{mg:Str->Option Value}{base:Heap}
def zGt (K:PySem.W.Frag):Sp:=fun vs H Q _=>∃ (a:Addr) (ns:List Int) (at' most:Nat),vs=[.ref a,.int at',.int most]/\yC K H a (ns.map V.int)/\ns.length<=63/\1<=most/\most<=8 /\
 ∀ (x:S) H',zB H H'->yK x->x.length<=most->Q (sv x) H'
abbrev zDL:Stmt:=top 71
theorem zGu:FnScope ["_law_script", "_law_at", "_law_most", "_law_size", "_law_letters"] ["_law_script", "_law_at", "_law_most"] (defScope zDL):=⟨rfl,rfl,rfl,by decide +kernel,rfl,by decide +kernel,by decide +kernel⟩
theorem ndN:(["_law_letters", "_law_script", "_law_at", "_law_k"]:List Str).Nodup:=by decide +kernel
abbrev cDr (P:Program) (w:World) (K:PySem.W.Frag) (mg:Str->Option Value) (base:Heap):Prop:=zO P w K mg base 2 "_law_drawn" ["_law_script", "_law_k", "_law_many"] (zBn K)
theorem zMe {f:Addr}{fd:FuncData} (F:Fun K "_law_name" "_law_name" zDL f fd) (B:Blt mg) (c1:cDr P w K mg base):FnOk P w K mg base zY 3 f fd ["_law_script", "_law_at", "_law_most"] (zGt K):=by
 refine F.ok zGu (fun vs H Q E h=>?_) (fun cdv A outer s H vs Q E hr h=>?_)
 ·obtain ⟨a,ns,k,m,rfl,_⟩:=h; rfl
 ·obtain ⟨a,ns,n,m,rfl,ha,hl,hm1,hm2,k⟩:=h
  have nd:=zGu.nd
  refine ⟨_,zG (z9 (i:=3) nd rfl (Or.inl rfl) (zR yW zH (zK c1 hr rfl (zA (pv 0) (zA (pv 1) (zA (pv 2) zC))))))
   (zG (z9 (i:=4) nd rfl (Or.inr rfl) (yD zAA (uV (zA yZ (zA yZ (zA yZ zC)))) (zK c1 hr rfl (zA (pv 0) (zA (zR yW (pv 1) zH) (zA zH zC)))) (fun _ _=>rfl)))
   (zE (zP (jH PySem.F.plainAttrs_str PySem.F.slot_str_join PySem.F.type_str_join zLJ yZ (zA
    (qH (N:=["_law_letters", "_law_script", "_law_at", "_law_k"]) (caps:=[4,0,1]) rfl (uF (by kernel_rfl)) (zAR rfl B.range (zA (pv 3) zC))
     (fun cl C s H ex=>yG (i:=3) ndN rfl (Or.inl rfl)) (fun cl C s H ex=>uN)
     (fun cl C s H ex=>yD gL (pv 0) (zK c1 hr rfl (zA (pv 1) (zA (zR yW (zR yW (pv 2) zH) (pv 3)) (zA (yA jG (by rfl) B.len PySem.boot_len (zA (pv 0) zC)) zC)))) (fun _ _=>rfl))) zC))))),?_⟩
  refine ⟨_,rfl,_,rfl,_,rfl,a,ns,n,m,rfl,ha,hl,hm1,by omega,fun sz H1 hsz s1=>?_⟩
  refine ⟨_,_,rfl,rfl,?_⟩
  refine ⟨by show 3<=sizeLine; decide,fun p hp=>?_⟩
  have s2:zB H1 (upd H1 p (.lst [.str "ab",.str "ab",.str "abz"])):=zB.upd1 hp
  refine ⟨_,rfl,_,rfl,_,_,rfl,rfl,a,ns,n+9,3,rfl,s2.seq (s1.seq ha),hl,by decide,by decide,fun li H3 hli s3=>?_⟩
  have s123:=(s1.trans s2).trans s3
  obtain ⟨L,hL,e⟩:∃ L:S,(L=[97,98]\/L=[97,98,122])/\([.str "ab",.str "ab",.str "abz"]:List V)[li]?=some (sv L):=by
   match li,hli with
   | 0,_=>exact ⟨[97,98],.inl rfl,rfl⟩
   | 1,_=>exact ⟨[97,98],.inl rfl,rfl⟩
   | 2,_=>exact ⟨[97,98,122],.inr rfl,rfl⟩
  refine ⟨p,_,_,sv L,rfl,rfl,.of (s3 _ _ zI),jF e,?_⟩
  refine ⟨rfl,_,rfl,_,rfl,by omega,by omega,?_⟩
  have hLl:L.length=2\/L.length=3:=by rcases hL with h | h <;> subst h <;> simp
  have hLc:∀ c∈L,97<=c/\c<=122:=by rcases hL with h | h <;> subst h <;> decide
  have hnn:(1+(sz:Int)).toNat=sz+1:=by omega
  refine uY (zAE 0 _) [some (sv L),some (.ref a),some (.int n)] 1 (by rw [List.length_map,List.length_range,hnn]; omega) (fun i acc H'=>zB H3 H'/\∃ cs:S,acc=cs.map (fun c=>V.str (tx [c]))/\cs.length=i/\∀ c∈cs,97<=c/\c<=122)
   ⟨zB.refl _,[],rfl,rfl,by simp⟩ (fun i acc H' _ h=>⟨trivial,by obtain ⟨_,cs,rfl,h,_⟩:=h; rw [List.length_map]; omega⟩) ?_ ?_
  ·rintro i x acc H' ys Nx hN hx hy ⟨sm,cs,rfl,hcl,hcs⟩
   obtain ⟨y,rfl⟩:=qI hy
   rw [hnn] at hx
   obtain ⟨hi,rfl⟩:=zAj hx
   refine ⟨_,rfl,_,rfl,_,rfl,_,_,rfl,rfl,_,rfl,_,_,rfl,rfl,_,rfl,tx L,rfl,by rw [yJ,sizeLine_eq]; omega,?_⟩
   rw [yJ]
   refine ⟨a,ns,n+1+i,L.length,rfl,(s123.trans sm).seq ha,hl,by omega,by omega,fun j H5 hj s5=>?_⟩
   refine ⟨tx L,_,L[j],rfl,rfl,by rw [yJ,sizeLine_eq]; omega,?_,?_⟩
   ·rw [vM]
    exact jF (List.getElem?_eq_getElem hj)
   ·refine hN _ _ [some (.int i)] rfl ⟨sm.trans s5,cs++[L[j]],by rw [List.map_append]; rfl,by rw [List.length_append,hcl]; rfl,fun c hc=>?_⟩
    rcases List.mem_append.mp hc with z | z
    ·exact hcs c z
    ·have:c=L[j]:=by simpa using z
     rw [this]
     exact hLc _ (List.getElem_mem hj)
  ·rintro acc H' ⟨sm,cs,rfl,hcl,hcs⟩ D hD
   rw [List.length_map,List.length_range,hnn] at hcl
   have esum:((cs.map fun c=>tx [c]).map (·.length)).sum=cs.length:=by
    clear hcl hcs
    induction cs with
    | nil=>rfl
    | cons c cs ih=>rw [List.map_cons,List.map_cons,List.sum_cons,ih,List.length_cons,yJ]; show 1+_=_; omega
   refine ⟨_,D,cs.map (fun c=>tx [c]),rfl,rfl,.of (by rw [zI,List.map_map]; rfl),?_,?_⟩
   ·rw [esum]
    show _+_ * 0<=_
    omega
   ·have ej:Txt.join ⟨#[]⟩ (cs.map fun c=>tx [c])=tx cs:=by
     rw [zLL,List.map_map]
     congr 1
     clear hcl hcs esum
     congr 1
     induction cs with
     | nil=>rfl
     | cons c cs ih=>rw [List.map_cons,List.flatten_cons,ih]; rfl
    have kk:∀ Hx,zB H Hx->Q (.str (Txt.join ⟨#[]⟩ (cs.map fun c=>tx [c]))) Hx:=fun Hx sx=>by
     rw [ej]
     exact k cs Hx sx ⟨by omega,by omega,hcs⟩ (by omega)
    exact kk _ ((s123.trans sm).trans (zB.upd1 hD))
end
end Kn
end
section
namespace Kn
open PySem L2
section
variable {P:Program}{w:World}{K:PySem.W.Frag}{mg:Str->Option Value}{base:Heap}
def zGv (K:PySem.W.Frag):Sp:=fun vs H Q _=>∃ (a:Addr) (ns:List Int) (at' many most:Nat),vs=[.ref a,.int at',.int many,.int most]/\yC K H a (ns.map V.int)/\ns.length<=63/\1<=many/\many<=8/\1<=most/\most<=8 /\
 ∀ (p:Addr) (bk:List S) H',zB H H'->H' p=some (.tup (zF bk))->1<=bk.length->bk.length<=many->(∀ x∈bk,yK x/\x.length<=most)->Q (.ref p) H'
abbrev zDM:Stmt:=top 72
theorem zGw:FnScope ["_law_script", "_law_at", "_law_many", "_law_most", "_law_found", "_law_k"] ["_law_script", "_law_at", "_law_many", "_law_most"] (defScope zDM):=⟨rfl,rfl,rfl,by decide +kernel,rfl,by decide +kernel,by decide +kernel⟩
theorem zMf {f:Addr}{fd:FuncData} (F:Fun K "_law_book" "_law_book" zDM f fd) (B:Blt mg) (c1:cDr P w K mg base) (c2:zO P w K mg base 3 "_law_name" ["_law_script", "_law_at", "_law_most"] (zGt K)):FnOk P w K mg base zY 4 f fd ["_law_script", "_law_at", "_law_many", "_law_most"] (zGv K):=by
 refine F.ok zGw (fun vs H Q E h=>?_) (fun cdv A outer s H vs Q E hr h=>?_)
 ·obtain ⟨a,ns,k,m,l,rfl,_⟩:=h; rfl
 ·obtain ⟨a,ns,n,many,most,rfl,ha,hl,hm1,hm2,hs1,hs2,k⟩:=h
  have nd:=zGw.nd
  have hr2:=hr.mono (j:=2) (by decide)
  refine ⟨_,zG (z9 (i:=4) nd rfl (Or.inl rfl) (uK zC))
   (zG (jO PassesOwn.never rfl (zAR rfl B.range (zA (zR yW zH (zK c1 hr2 rfl (zA (pv 0) (zA (pv 1) (zA (pv 2) zC))))) zC)) (yG (i:=5) nd rfl (Or.inl rfl))
    (zE (z9 (i:=4) nd rfl (Or.inl rfl) (zR (zFs.or zFA) (pv 4) (uK (zA (zK c2 hr rfl (zA (pv 0) (zA (zR yW (zR yW (pv 1) zH) (zR gJ zH (pv 5))) (zA (pv 3) zC)))) zC))))))
   (zE (zP (pv 4)))),?_⟩
  refine ⟨by show 0<=sizeLine; decide,fun p0 hp0=>?_⟩
  have s0:zB H (upd H p0 (.tup [])):=zB.upd1 hp0
  refine ⟨_,rfl,_,rfl,_,rfl,a,ns,n,many,rfl,s0.seq ha,hl,hm1,by omega,fun sz H1 hsz s1=>?_⟩
  refine ⟨_,_,rfl,rfl,_,rfl,by omega,by omega,?_⟩
  have hnn:(1+(sz:Int)).toNat=sz+1:=by omega
  refine kZ (zAE 0 _) (fun i σ H2=>∃ (p:Addr) (bk:List S) (y:Option V),σ=[some (.ref a),some (.int n),some (.int many),some (.int most),some (.ref p),y]/\zB H H2/\H2 p=some (.tup (zF bk))/\bk.length=i/\∀ x∈bk,yK x/\x.length<=most)
   ⟨p0,[],_,rfl,s0.trans s1,s1 _ _ zI,rfl,by simp⟩ (fun _ _ _ _ _=>trivial) ?_ ?_
  ·rintro i x σ H2 Nx hN hx ⟨p,bk,y,rfl,sm,hp,hbl,hbn⟩
   rw [hnn] at hx
   obtain ⟨hi,rfl⟩:=zAj hx
   refine ⟨_,rfl,_,rfl,_,rfl,_,_,rfl,rfl,_,rfl,_,_,rfl,rfl,.inl ⟨by decide,by decide⟩,_,_,rfl,rfl,_,rfl,a,ns,n+1+10 * i,most,rfl,sm.seq ha,hl,hs1,hs2,fun x H3 s3 hx1 hx2=>?_⟩
   refine ⟨by show 1<=sizeLine; decide,fun q hq=>?_⟩
   have s4:zB H3 (upd H3 q (.tup [sv x])):=zB.upd1 hq
   have nx:∀ b∈bk++[x],yK b/\b.length<=most:=fun b hb=>by
    rcases List.mem_append.mp hb with z | z
    ·exact hbn b z
    ·have:b=x:=by simpa using z
     rw [this]; exact ⟨hx1,hx2⟩
   cases bk with
   | nil=>exact .inl ⟨p,q,_,rfl,rfl,.of (s4 _ _ (s3 _ _ hp)),.of zI,hN _ _ ⟨q,[x],_,rfl,(sm.trans s3).trans s4,zI,by rw [<- hbl]; rfl,nx⟩⟩
   | cons c cs =>
    refine .inr ⟨p,q,_,_,rfl,rfl,.of (s4 _ _ (s3 _ _ hp)),.of zI,by simp [zF],?_,fun z=>by simp at z,fun _ r hr'=>hN _ _ ⟨r,(c::cs)++[x],_,rfl,((sm.trans s3).trans s4).trans (zB.upd1 hr'),?_,by rw [List.length_append,hbl]; rfl,nx⟩⟩
    ·have:(zF (c::cs)).length=i:=by rw [<- hbl]; simp [zF]
     rw [this,sizeLine_eq]
     show i+1<=_
     omega
    ·rw [zI]
     unfold zF
     rw [List.map_append]; rfl
  ·rintro σ H2 ⟨p,bk,y,rfl,sm,hp,hbl,hbn⟩
   rw [List.length_map,List.length_range,hnn] at hbl
   exact ⟨_,rfl,k p bk H2 sm hp (by omega) (by omega) hbn⟩
end
end Kn
end
section
namespace Kn
open PySem L2
theorem k9 {c A B:Prop} [Decidable c] (hc:¬ c) (h:A):if (!decide c)=true then A else B:=by
 rw [decide_eq_false hc]; exact h
section
variable {P:Program}{w:World}{K:PySem.W.Frag}{mg:Str->Option Value}{base:Heap}
def NE (x:S):Prop:=x=[]\/yK x
theorem NE.l8 {x:S} (h:NE x):x.length<=8:=by
 rcases h with h | h
 ·rw [h]; decide
 ·exact h.2.1
def zGx:Sp:=fun vs H Q _=>∃ x:S,vs=[sv x]/\NE x/\∀ H',zB H H'->Q .non H'
abbrev zDN:Stmt:=top 22
theorem zMg:FnScope ["thing"] ["thing"] (defScope zDN):=⟨rfl,rfl,rfl,by decide +kernel,rfl,by decide +kernel,by decide +kernel⟩
theorem zMh {f:Addr}{fd:FuncData} (F:Fun K "need_name_or_empty" "need_name_or_empty" zDN f fd) (c1:zO P w K mg base 2 "need_name" ["thing"] zCu):FnOk P w K mg base zY 3 f fd ["thing"] zGx:=by
 refine F.ok zMg (fun vs H Q E h=>?_) (fun cdv A outer s H vs Q E hr h=>?_)
 ·obtain ⟨x,rfl,_⟩:=h; rfl
 ·obtain ⟨x,rfl,hx,k⟩:=h
  refine ⟨_,zE (yI (vK zAS (pv 0) yZ (y9 _)) (zE (vD (zK c1 hr rfl (zA (pv 0) zC)))) yH),?_⟩
  refine ⟨_,rfl,rfl,_,rfl,?_⟩
  rcases hx with rfl | hx
  ·exact uM rfl (k H (zB.refl H))
  ·refine k9 (fun z=>?_) ⟨_,rfl,x,rfl,hx,fun H' sm=>k H' sm⟩
   have e:tx x=tx []:=V.str.inj z
   have:=qJ e
   rw [this] at hx
   exact absurd hx.1 (by simp)
def zDO (K:PySem.W.Frag):Sp:=fun vs H Q _=>∃ (a:Addr) (bk:List S) (o:Nat) (x:S),vs=[.ref a,.int o,sv x]/\H a=some (.tup (zF bk))/\Bk bk o/\NE x/\(zD o bk).length < 64 /\
 ∀ rs l xs H',IsRow (zD o bk) (zQ x o) rs->zB H H'->H l=none->H' l=some (.lst xs)->Reps K H' (rs.map zBm) xs->Q (.ref l) H'
abbrev zDP:Stmt:=top 26
theorem zGy:FnScope ["book", "order", "text", "row"] ["book", "order", "text"] (defScope zDP):=⟨rfl,rfl,rfl,by decide +kernel,rfl,by decide +kernel,by decide +kernel⟩
theorem zMi {f:Addr}{fd:FuncData} (F:Fun K "behind" "behind" zDP f fd) (B:Blt mg) (N:Needs P w K mg base) (cNE:zO P w K mg base 3 "need_name_or_empty" ["thing"] zGx) (cEnd:zO P w K mg base 1 "end_of" ["text", "order"] zCr):FnOk P w K mg base zY 4 f fd ["book", "order", "text"] (zDO K):=by
 refine F.ok zGy (fun vs H Q E h=>?_) (fun cdv A outer s H vs Q E hr h=>?_)
 ·obtain ⟨a,bk,o,x,rfl,_⟩:=h; rfl
 ·obtain ⟨a,bk,o,x,rfl,ha,hb,hx,h64,k⟩:=h
  have hu:=gO hr
  have hr3:=hr.mono (j:=3) (by decide)
  have hr2:=hr.mono (j:=2) (by decide)
  have hr1:=hr.mono (j:=1) (by decide)
  have nd:=zGy.nd
  refine ⟨_,zG (vD (zK N.bk hr3 rfl (zA (pv 0) zC))) (zG (vD (zK N.od hr3 rfl (zA (pv 1) zC))) (zG (vD (zK cNE hr3 rfl (zA (pv 2) zC)))
   (zG (z9 (i:=3) nd rfl (Or.inl rfl) (zCc hu (zK N.rows hr3 rfl (zA (pv 0) (zA (pv 1) zC))) (zK cEnd hr1 rfl (zA (pv 2) (zA (pv 1) zC))) zBL ⟨rfl,rfl,rfl,rfl⟩))
   (zE (zP (yA (zKy rfl) (by rfl) B.sorted PyProof.Rows.boot_sorted (zA (zCY PySem.F.plainAttrs_dict PySem.F.slot_dict_items PySem.F.type_dict_items zFo (pv 3)) zC))))))),?_⟩
  refine ⟨_,rfl,a,bk,rfl,ha,hb.toisBk,fun H1 s1=>?_⟩
  refine ⟨_,rfl,o,rfl,hb.o1,hb.o3,?_⟩
  refine ⟨_,rfl,x,rfl,hx,fun H2 s2=>?_⟩
  refine ⟨_,rfl,_,rfl,a,bk,o,rfl,s2 _ _ (s1 _ _ ha),hb.hi,hb.l8,hb.o1,fun d H3 s3 hd R=>?_⟩
  obtain ⟨kvs,hdk,hv⟩:=R.get (zQ x o)
  refine ⟨d,rfl,.inl ⟨_,.inl hdk⟩,_,rfl,_,rfl,x,o,rfl,hb.o1,(by have:=hx.l8; omega),fun e0 he0=>?_⟩
  have s4:zB H3 (upd H3 e0 (.dK [])):=zB.upd1 he0
  have sm4:=((s1.trans s2).trans s3).trans s4
  obtain ⟨ra,e1,hra⟩:∃ ra,(vY kvs (Sum.inr (tx (zQ x o)))).getD (.ref e0)=.ref ra/\upd H3 e0 (.dK []) ra=some (.dK (vG (yO (zD o bk) (zQ x o)))):=by
   rcases hv with ⟨hv1,hv2⟩ | ⟨ra,hv1,hv2⟩
   ·exact ⟨e0,by rw [hv1]; rfl,by rw [zI,hv2]; rfl⟩
   ·exact ⟨ra,by rw [hv1]; rfl,s4 _ _ hv2⟩
  refine ⟨_,uB.k (k:=Sum.inr (tx (zQ x o))) (s4 _ _ hdk),?_⟩
  rw [e1]
  refine ⟨_,rfl,.inr (.inr (.inl ⟨rfl,.inl ⟨_,hra⟩⟩)),ra,_,rfl,rfl,hra,fun p hp=>?_⟩
  have s5:zB (upd H3 e0 (.dK [])) (upd (upd H3 e0 (.dK [])) p (VW p ra)):=zB.upd1 hp
  have hrl:(yO (zD o bk) (zQ x o)).length < 64:=by
   unfold yO
   cases g:zS (vV (zD o bk)) (zQ x o) with
   | none=>show 0 < 64; decide
   | some row =>
    have h1:row.length<=(zD o bk).length:=(zCx (zD o bk)).2 (zQ x o,row) ((uO (u9 _).nd _ _).mpr g)
    show row.length < 64
    omega
  refine ⟨p,ra,(yO (zD o bk) (zQ x o)).map (fun q:S × Int=>(tx q.1,V.int q.2)),rfl,zI,s5 _ _ hra,?_,by rw [List.length_map]; exact hrl,fun out2 l2 ts H6 hp6 hs6 s6 hl6 hn6 hlt6 hel=>?_⟩
  ·have:(((yO (zD o bk) (zQ x o)).map fun q=>(tx q.1,V.int q.2)).map (·.1))=((yO (zD o bk) (zQ x o)).map (·.1)).map tx:=by rw [List.map_map,List.map_map]; rfl
   rw [this]
   exact List.Pairwise.map tx (fun a b hab z=>hab (qJ z)) (zAk _ _)
  obtain ⟨rs,hrs,rfl⟩:=zMY hp6
  refine k rs l2 ts H6 (IsRow.of (u9 (zD o bk)) ?_ hrs) ((sm4.trans s5).trans s6) ((sm4.trans s5).free hn6) hl6 ?_
  ·have:=List.pairwise_map.mp hs6
   refine this.imp fun {a b} hab=>?_
   have h':(tx a.1).cps.toList < (tx b.1).cps.toList:=hab
   rw [vM,vM] at h'
   exact h'
  ·refine zGo rs ts (by rw [hlt6,List.length_map]) fun j q hq=>?_
   obtain ⟨a',e1,_,e2⟩:=hel j (tx q.1,V.int q.2) (by rw [List.getElem?_map,hq]; rfl)
   exact ⟨a',e1,e2⟩
end
end Kn
end
section
namespace Kn
open PySem L2
section
variable {X:Cx}{tg:Expr}
end
theorem zMj (a b:S):tx a++tx b=tx (a++b):=by
 apply MyS.Str_ext
 show ((tx a).cps++(tx b).cps).toList=_
 simp [tx]
theorem zBo {d:PyData}{A B:Prop} (hd:d.canLay0=true) (h:B):if (if true=true then !PyData.eqv d d else PyData.eqv d d)=true then A else B:=by
 rw [zBN d hd]; exact h
theorem zGz {t:S} (h:∀ c∈t,c<=122):PyData.strOk (tx t)=true:=by
 unfold PyData.strOk
 rw [Array.all_eq_true']
 intro c hc
 have hc':c∈t:=by simpa [tx] using hc
 have:=h c hc'
 exact decide_eq_true (by omega)
theorem zMk {o:Nat}{t:S} (h:yK t) {p:S × S} (hp:p∈zN o t):(∀ c∈p.1,97<=c/\c<=122)/\∀ c∈p.2,97<=c/\c<=122:=by
 obtain ⟨i,_,rfl⟩:=List.mem_map.mp hp
 refine ⟨fun c hc=>?_,fun c hc=>?_⟩
 ·exact h.2.2 c (List.mem_of_mem_take (List.mem_of_mem_drop hc))
 ·exact h.2.2 c (List.mem_of_mem_drop (List.mem_of_mem_take hc))
theorem zMl {o:Nat}{bk:List S} (h:isBk bk) {p:S × S} (hp:p∈zD o bk):(∀ c∈p.1,97<=c/\c<=122)/\∀ c∈p.2,97<=c/\c<=122:=by
 obtain ⟨x,hx,hm⟩:=List.mem_flatMap.mp hp
 exact zMk (h.nm x hx) hm
theorem zMm {bk:List S}{o:Nat} (h:∀ x∈bk,x.length<=4):(zD o bk).length<=5 * bk.length:=by
 have e:=zBS o bk
 have go:∀ l:List S,(∀ x∈l,x.length<=4)->(l.map fun x=>(x.length:Int)+1).sum<=5 * (l.length:Int):=by
  intro l
  induction l with
  | nil=>intro _; simp
  | cons x r ih =>
   intro hl
   have h1:=hl x (List.mem_cons_self ..)
   have h2:=ih fun y hy=>hl y (List.mem_cons_of_mem _ hy)
   rw [List.map_cons,List.sum_cons,List.length_cons]
   have:((r.length+1:Nat):Int)=(r.length:Int)+1:=rfl
   omega
 have:=go bk h
 omega
section
variable {K:PySem.W.Frag}
theorem zDQ {H:Hp}{rs:List (S × Int)}{xs:List V}{i:Nat}{x:V} (rp:Reps K H (rs.map zBm) xs) (hx:xs[i]?=some x) :
  ∃ (q:S × Int) (a:Addr),rs[i]?=some q/\x=.ref a/\zZ K H a [sv q.1,.int q.2]:=by
 obtain ⟨dd,hdd,rx⟩:=rp.get hx
 rw [List.getElem?_map] at hdd
 cases ep:rs[i]? with
 | none=>rw [ep] at hdd; cases hdd
 | some q =>
 rw [ep] at hdd
 have hd2:dd=zBm q:=(Option.some.inj hdd).symm
 subst hd2
 obtain ⟨at',xs',rfl,hsq,y1,ys1',rfl,ry1,y2,ys2',rfl,ry2,hnil⟩:=rx
 have ey1:y1=sv q.1:=ry1
 have ey2:y2=.int q.2:=ry2
 have en:ys2'=[]:=hnil
 subst ey1 ey2 en
 exact ⟨q,at',rfl,rfl,hsq⟩
end
theorem IsRow.len {ps:List (S × S)}{e:S}{rs:List (S × Int)} (r:IsRow ps e rs):rs.length<=ps.length:=by
 have h1:=r.total
 have h2:(ps.filter fun p=>p.1=e).length<=ps.length:=List.length_filter_le ..
 have h3:∀ q∈rs,0 < q.2:=fun q hq=>((r.mem q.1 q.2).mp hq).2
 have go:∀ l:List (S × Int),(∀ q∈l,0 < q.2)->(l.length:Int)<=(l.map (·.2)).sum:=by
  intro l
  induction l with
  | nil=>intro _; simp
  | cons q l ih =>
   intro hl
   have a:=hl q (List.mem_cons_self ..)
   have b:=ih fun x hx=>hl x (List.mem_cons_of_mem _ hx)
   rw [List.map_cons,List.sum_cons,List.length_cons]
   have:((l.length+1:Nat):Int)=(l.length:Int)+1:=rfl
   omega
 have:=go rs h3
 omega
end Kn
end
section
namespace L2
open PySem PySem.Spec PyProof.Rows
structure Flown (P:Program) (w:World) (outer:List Env) (H:Hp) (s:Shared) (e:Addr) (cls a0:Value) (B:Heap) (H':Hp) (s':Shared):Prop where
 os:s'.os=s.os
 bare:AllBare s'.gens
 fly:Heap.FlyingW B outer e cls a0 s'.heap
 trB:∀ b u,H' b=some u->∃ o,B.get? b=some o
 hok:z6 P w H' s'.heap
 keep:∀ b o,s.heap.get? b=some o->H b=none->b ∉ yQ outer->B.get? b=some o
 slot:∀ b o,s.heap.get? b=some o->b∈yQ outer->H b=none->∃ sl,s'.heap.get? b=some { o with slots:=sl }
 free:∀ b o,s.heap.get? b=some o->H b=none->H' b=none
 there:∀ b o,s.heap.get? b=some o->b ∉ yQ outer->∃ o',B.get? b=some o'
 tups:∀ b xs,H b=some (.tup xs)->H' b=some (.tup xs)
 frzs:∀ b o u,H b=some (.frz o u)->H' b=some (.frz o u)
 tbls:∀ b ps,H b=some (.tbl ps)->∃ more,H' b=some (.tbl (ps++more))
 ef:H' e=none
def vW (P:Program) (w:World):qG:=fun outer H s E ev s'=>∃ (e:Addr) (cls a0:Value) (B:Heap) (H':Hp),ev=.ref e/\Flown P w outer H s e cls a0 B H' s'/\E cls none H'
section
variable {P:Program}{w:World}{outer:List Env}{H H':Hp}{s s':Shared}{e:Addr}{cls a0:Value}{B h':Heap}
theorem zDR (ok:z6 P w H' s'.heap) (trB:∀ b u,H' b=some u->∃ o,B.get? b=some o) (st:B.StaysIn s'.heap) (st':B.StaysIn h'):z6 P w H' h':=fun a u q=>by
 refine (ok a u q).stay (fun b v hb r=>?_) (fun _ z=>z) fun _ _ z=>z
 have hb':∃ u',H' b=some u':=by
  rcases hb with z | z
  ·rw [z]; exact ⟨u,q⟩
  ·exact ⟨_,z⟩
 obtain ⟨u',hu'⟩:=hb'
 obtain ⟨o,ho⟩:=trB b u' hu'
 have:=st b o ho
 rw [r] at this
 cases this
 exact st' b _ ho
theorem Flown.un (F:Flown P w outer H s e cls a0 B H' s') (frf:∀ b∈yQ outer,H b=none):Un (yQ outer) [] H H' s.heap s'.heap where
 keep:=fun b o q n hb _=>F.fly.1 b o (F.keep b o q n hb)
 slot:=fun b o q n hb _=>F.slot b o q hb n
 free:=fun b o q n _=>F.free b o q n
 there:=fun b o q _=>by
  by_cases hb:b∈yQ outer
  ·obtain ⟨sl,z⟩:=F.slot b o q hb (frf b hb)
   exact ⟨_,z⟩
  ·obtain ⟨o',z⟩:=F.there b o q hb
   exact ⟨o',F.fly.1 b o' z⟩
 tups:=F.tups
 frzs:=F.frzs
 tbls:=F.tbls
theorem Flown.on {outer:List Env} (F:Flown P w outer H s e cls a0 B H' s') (fly:Heap.FlyingW B outer e cls a0 h') (up:s'.heap.UpToSlots h') (fun':s'.heap.FunFrames B outer):Flown P w outer H s e cls a0 B H' { s' with heap:=h' } where
 os:=F.os
 bare:=F.bare
 fly:=fly
 trB:=F.trB
 hok:=zDR F.hok F.trB F.fly.1 fly.1
 keep:=F.keep
 slot:=fun b o q hb n=>by
  obtain ⟨sl,z⟩:=F.slot b o q hb n
  obtain ⟨_,o',ho',hd⟩:=fun'.mem hb
  rw [z] at ho'
  cases ho'
  obtain ⟨sl',z'⟩:=up b _ z hd
  exact ⟨sl',z'⟩
 free:=F.free
 there:=F.there
 tups:=F.tups
 frzs:=F.frzs
 tbls:=F.tbls
 ef:=F.ef
end
section
variable {X:Cx}{pins:List (Addr × Obj)}{σ:St}{H H':Hp}{s s':Shared}{e:Addr}{cls a0:Value}{B h':Heap}
theorem Inv.nstk (I:Inv X pins σ H s) {b:Addr}{o:Obj} (q:X.s₀.heap.get? b=some o) (hb:b ∉ X.fs):b ∉ yQ X.stack:=fun z=>by
 rcases List.mem_cons.mp (I.stkSub b z) with r | r
 ·exact absurd (Nat.lt_of_lt_of_le (Heap.lt_size q) I.ok.above) (by rw [r]; exact Nat.lt_irrefl _)
 ·exact hb r
theorem zDS (hs:X.stack=X.env::X.outer) {b:Addr} (hb:b∈X.fs):b∈yQ X.stack:=by
 rw [hs]
 unfold yQ
 rw [List.filterMap_cons]
 cases X.env.frame with
 | none=>exact hb
 | some L=>exact List.mem_cons_of_mem _ hb
theorem Flown.leaves (I:Inv X pins σ H s) (hs:X.stack=X.env::X.outer) (hf:X.env.frame=some X.env.locals) (hx:X.ex=[]) (F:Flown X.prog X.w X.stack H s e cls a0 B H' s') {Q:Unit->Shared->Prop}{E:Value->Shared->Prop}{M:Model}
  (hQ:∀ s'',Flown X.prog X.w X.outer X.H₀ X.s₀ e cls a0 B H' s''->Q () s''):wpAny M X.A (leaving X.env (.ref e)) Q E s':=by
 have fly:=F.fly
 rw [hs] at fly
 have fun':=F.fly.2.2.1
 refine wpAny_leaves_onW (by rw [<- hs]; exact I.ok.frames) hf fly fun h' fly' up=>hQ _ ?_
 have nex:∀ b:Addr,b ∉ X.ex:=fun b z=>by rw [hx] at z; cases z
 refine ⟨F.os.trans I.os,F.bare,fly',F.trB,zDR F.hok F.trB F.fly.1 fly'.1,fun b o q n hb=>?_,fun b o q hb n=>?_,fun b o q n=>?_,fun b o q hb=>?_,fun b xs q=>F.tups b xs (I.base.tups b xs q),fun b o u q=>F.frzs b o u (I.base.frzs b o u q),fun b ps q=>?_,F.ef⟩
 ·exact F.keep b o (I.base.keep b o q n hb (nex b)) (I.base.free b o q n (nex b)) (I.nstk q hb)
 ·obtain ⟨sl,z⟩:=I.base.slot b o q n hb (nex b)
  obtain ⟨sl',z'⟩:=F.slot b _ z (zDS hs hb) (I.base.free b o q n (nex b))
  obtain ⟨_,o',ho',hd⟩:=fun'.mem (show b∈X.stack.filterMap (·.frame) from zDS hs hb)
  rw [z'] at ho'
  cases ho'
  obtain ⟨sl'',z''⟩:=up b _ z' hd
  exact ⟨sl'',z''⟩
 ·obtain ⟨o',z⟩:=I.base.there b o q (nex b)
  exact F.free b o' z (I.base.free b o q n (nex b))
 ·obtain ⟨o',z⟩:=I.base.there b o q (nex b)
  exact F.there b o' z (I.nstk q hb)
 ·obtain ⟨m1,e1⟩:=I.base.tbls b ps q
  obtain ⟨m2,e2⟩:=F.tbls b _ e1
  exact ⟨m1++m2,by rw [e2,Array.append_assoc]⟩
theorem zMn {C:Addr}{vs:List Value} (I:Inv X pins σ H s) (hs:X.stack=X.env::X.outer) (hf:X.env.frame=some X.env.locals) (hx:X.ex=[]) (hm:Heap.MadeExcOf s.heap h' e (.ref C) vs) {Q:Unit->Shared->Prop}{E:Value->Shared->Prop}{M:Model}
  (hQ:∀ s'' a0 B,Flown X.prog X.w X.outer X.H₀ X.s₀ e (.ref C) a0 B H s''->Q () s''):wpAny M X.A (leaving X.env (.ref e)) Q E { s with heap:=h' }:=by
 have fr:=I.stack
 have hin:∀ env∈X.stack,∀ b,env.frame=some b->b∈yQ X.stack:=fun env he b hb=>List.mem_filterMap.mpr ⟨env,he,hb⟩
 have fr':=PySem.W.funFrames_hide (as:=yQ X.stack) fr hin
 rw [hs] at fr'
 have nex:∀ b:Addr,b ∉ X.ex:=fun b z=>by rw [hx] at z; cases z
 refine wpAny_leaves_madeW (base:=PySem.W.hideAll s.heap (yQ X.stack)) (by rw [<- hs]; exact I.ok.frames) hf (fun b o q=>PySem.W.of_hideAll _ q) (by rw [hs]; exact fr') hm fun h2 t fly tup bt up=>hQ _ (.ref t) (PySem.W.hideAll s.heap (yQ X.stack)) ?_
 have trB:∀ b u,H b=some u->∃ o,(PySem.W.hideAll s.heap (yQ X.stack)).get? b=some o:=fun b u q=>by
  obtain ⟨o,ho⟩:=(I.hok b u q).obj
  exact ⟨o,PySem.W.hideAll_get _ ho fun z=>by rw [I.stkFree b z] at q; cases q⟩
 have stS:(PySem.W.hideAll s.heap (yQ X.stack)).StaysIn s.heap:=fun b o q=>PySem.W.of_hideAll _ q
 refine ⟨I.os,I.bare,fly,trB,zDR (s':=s) I.hok trB stS fly.1,fun b o q n hb=>?_,fun b o q hb n=>?_,fun b o q n=>I.base.free b o q n (nex b),fun b o q hb=>?_,I.base.tups,I.base.frzs,I.base.tbls,I.hok.free hm.new⟩
 ·exact PySem.W.hideAll_get _ (I.base.keep b o q n hb (nex b)) (I.nstk q hb)
 ·obtain ⟨sl,z⟩:=I.base.slot b o q n hb (nex b)
  obtain ⟨_,o',ho',hd⟩:=fr.mem (show b∈X.stack.filterMap (·.frame) from zDS hs hb)
  rw [z] at ho'
  cases ho'
  obtain ⟨sl'',z''⟩:=up b _ (hm.keeps b _ z) hd
  exact ⟨sl'',z''⟩
 ·obtain ⟨o',z⟩:=I.base.there b o q (nex b)
  exact ⟨o',PySem.W.hideAll_get _ z (I.nstk q hb)⟩
end
structure XOk (X:Cx) (E:XK):Prop where
 made:∀ (pins:List (Addr × Obj)) (σ:St) (H:Hp) (s:Shared) (h':Heap) (e C:Addr) (vs:List Value),Inv X pins σ H s->Heap.MadeExcOf s.heap h' e (.ref C) vs->E (.ref C) none H->X.xe (.ref e) { s with heap:=h' }
 pass:g9 (vW X.prog X.w) X E
theorem zMo {P:Program}{w:World}{K:PySem.W.Frag}{mg:Str->Option Value}{base:Heap}{N:List Str}{qual:Str}{scope:Scope}{f:Addr}{cd:Value}{A:Around}{outer:List Env}{s:Shared}{H:Hp}{E:XK} :
  XOk (j9 (vW P w) P w K mg base N qual scope f cd A outer s H E) E where
 made:=fun pins σ H1 s1 h' e C vs I hm hE=>zMn I rfl rfl rfl hm fun s'' a0 B F=>⟨e,_,a0,B,H1,rfl,F,hE⟩
 pass:=fun pins σ H1 s1 ev s' I ⟨e,cls,a0,B,H',he,F,hE⟩=>by
  subst he
  exact Flown.leaves I rfl rfl rfl F fun s'' F'=>⟨e,cls,a0,B,H',rfl,F',hE⟩
abbrev zBp:List Value:=[.type "ValueError",.type "Exception",.type "BaseException",.type "object"]
structure XCls (K:PySem.W.Frag) (mg:Str->Option Value) (x:Str) (C:Addr):Prop where
 bound:mg x=some (.ref C)
 exc:PySem.W.excIn K C zBp "ValueError.__new__" = true
theorem zDT {K:PySem.W.Frag}{h:Heap}{C:Addr}{newId:String}{bmB:List Value} (X:K.In h) (q:PySem.W.excIn K C bmB newId=true) :
  ∃ bm N nm q bs hdct sn sub ab col dd k0 k1 k2 k3 k5 mN,h.get? C=some (excClassObj nm q C N bs bm hdct sn sub ab col dd k0 k1 k2 k3 k5 newId)/\h.Ns N mN/\mN "__init__" = none/\OwnTail h bmB bm/\∃ cd,K.lookup C=some ⟨.type "type",dd,.cls cd,#[k0,k1,k2,k3,some (.builtin newId),k5]⟩/\cd.mro=.ref C::bm:=by
 unfold PySem.W.excIn at q
 split at q
 ·rename_i dd cd sl ho
  split at q
  ·rename_i C' bm k0 k1 k2 k3 n k5 hm hs
   simp only [Bool.and_eq_true,beq_iff_eq,Bool.not_eq_true'] at q
   obtain ⟨⟨⟨⟨⟨rfl,rfl⟩,hdel⟩,ht⟩,hok⟩,hni⟩:=q
   obtain ⟨nm,bs,mro,ns,qn,hd,sn,sub,ab,col,del⟩:=cd
   dsimp only at hm hdel hok hni
   subst hm hdel
   have hsl:sl=#[k0,k1,k2,k3,some (.builtin n),k5]:=by
    obtain ⟨l⟩:=sl
    simp only at hs
    rw [hs]
   subst hsl
   exact ⟨bm,ns,nm,qn,bs,hd,sn,sub,ab,col,dd,k0,k1,k2,k3,k5,_,X _ _ ho,.of_isNs (PySem.W.isNs_of_in X hok),PySem.W.nsMap_none_of_in X hok hni,PySem.W.tail_of_in X ht,_,ho,rfl⟩
  ·cases q
 ·cases q
def zMp (C:Addr) (E:XK) (t:TA):TS:=fun _ σ H=>t σ H fun vs H1=>vs.length<=sizeLine/\E (.ref C) none H1
section
variable {X:Cx}
theorem gT {E:XK}{x:Str}{C:Addr}{np cpos pos:Pos}{e0:Expr}{es:List Expr}{t:TA} (ok:XOk X E) (hc:X.calm=true) (O:XCls X.K X.mg x C) (hg:Gl X x) (ha:PA X (e0::es) t)
  (he:starEach (e0::es) X.env=(false,eval e0 X.env)::starEach es X.env:=by rfl) (hplain:(backTo cpos (starEach es X.env)).any (·.1)=false:=by rfl) (hdb:(x == ("__debug__" : Str))=false:=by decide) :
  PS X (.Raise (some (.Call (.Name x np) (e0::es) [] cpos)) none pos) (zMp C E t):=by
 intro pins s σ H D I h
 obtain ⟨tl,N,nm,q,bs,hdct,sn,sub,ab,col,dd,k0,k1,k2,k3,k5,mN,hC,hN,hni,T,_⟩:=zDT I.mod.kin O.exc
 refine wpAny_Raise_call_subU (C:=C) (nm:=nm) (q:=q) (N:=N) (bs:=bs) (bm:=tl) (hdct:=hdct) (sn:=sn) (sub:=sub) (ab:=ab) (col:=col) (dd:=dd) (k0:=k0) (k1:=k1) (k2:=k2) (k3:=k3) (k5:=k5)
  PySem.F.excBase_ValueError (by decide) PySem.F.excBase_ValueError (mN:=mN) (T.hasType PySem.F.excBase_ValueError.hasBase) (I.ok.hd hc) (by rw [he]; show (false || (backTo cpos (starEach es X.env)).any (·.1))=false; rw [hplain]; rfl) hni ?_
 refine zBB I hg O.bound ⟨rfl,?_⟩ hdb
 have hpa:=ha cpos pins s σ H _ I h
 rw [he] at hpa ⊢
 refine Calls.evalArgs_plain (wpAny_mono hpa (fun vs s₂ h₂=>?_) fun _ _ y=>y)
 obtain ⟨us,H1,I1,r,q1⟩:=h₂
 exact ⟨rfl,by rw [<- r.length]; exact q1.1,I1.bk _ _ hC,hN.keeps I1.bk,T.keeps I1.bk,fun h' e hm=>ok.made pins σ H1 s₂ h' e C vs I1 hm q1.2⟩
end
section
variable {P:Program}{w:World}{K:PySem.W.Frag}{mg:Str->Option Value}{base:Heap}
theorem Fun.okR {x qual:Str}{st:Stmt}{f:Addr}{fd:FuncData}{N ps:List Str}{k:Nat}{sp:Sp} (F:Fun K x qual st f fd) (S:FnScope N ps (defScope st)) (len:∀ vs H Q E,sp vs H Q E->vs.length=ps.length)
  (hbody:∀ (cdv:Value) (A:Around) (outer:List Env) (s:Shared) (H:Hp) (vs:List V) (Q:VK) (E:XK),Room k (A.deeper (envOfC qual (defScope st) s.heap.objs.size f cdv))->sp vs H Q E->XOk (j9 (vW P w) P w K mg base N qual (defScope st) f cdv A outer s H E) E ->
   ∃ t,uI (j9 (vW P w) P w K mg base N qual (defScope st) f cdv A outer s H E) (defBody st) t/\t { nx:=fun _ H'=>Q .non H',rt:=Q } (j8 N vs) H):FnOk P w K mg base (vW P w) (k+1) f fd ps sp:=by
 obtain ⟨oc,od,kV,doc,pm,an,cdv,ct,osl,rfl,lk,hcd⟩:=F.ex
 refine zEw lk hcd S len fun A outer s H vs Q E hr hsp=>?_
 exact hbody cdv A outer s H vs Q E hr hsp zMo
def y6 (P:Program) (w:World) (K:PySem.W.Frag) (mg:Str->Option Value) (base:Heap) (k:Nat) (x:Str) (ps:List Str) (sp:Sp):Prop :=
 ∃ (f:Addr) (fd:FuncData),FnOk P w K mg base (vW P w) k f fd ps sp/\mg x=some (.ref f)/\PySem.W.keepIn K (.ref f)=true/\jP K fd ps []
theorem vZ {X:Cx}{k:Nat}{x:Str}{ps:List Str}{sp:Sp}{p pos:Pos}{e:Expr}{es:List Expr}{t:TA}{E:XK} (C:y6 X.prog X.w X.K X.mg X.base k x ps sp) (ok:g9 (vW X.prog X.w) X E) (hr:Room k X.A) (hg:Gl X x) (ha:PA X (e::es) t)
  (hs:starEach (e::es) X.env=(false,eval e X.env)::starEach es X.env:=by rfl) (hplain:(backTo pos (starEach es X.env)).any (·.1)=false:=by rfl)
  (hdb:(x == ("__debug__" : Str))=false:=by decide):PE X (.Call (.Name x p) (e::es) [] pos) (zCV sp [] E t):=by
 obtain ⟨f,fd,G,hm,kp,b⟩:=C
 exact zEq G hr hg hm kp b .nil ok ha hdb hs hplain
end
def XO (e C:Addr):HO:=.ext fun h=>∃ oe vs,h.get? e=some oe/\oe.cls=.ref C/\oe.data=.fields vs
section
variable {M:Model}{A:Around}{E:Value->Shared->Prop}{h:Heap}{g:Array GenState}{d:Drawn}{t:Nat}{os:OsState}
theorem zMq {nm q:Str}{C N:Addr}{bs bm:List Value}{hdct:Bool}{sn:List Str}{sub:List Value}{ab:Bool}{col:Option Bool}{dd:Option Addr}{k0 k1 k2 k3 k5:Option Value}{newId:String}
  {nm' q':Str} {L N':Addr} {bs' bm':List Value} {hdct':Bool} {sn':List Str} {sub':List Value} {ab':Bool} {col':Option Bool} {dd':Option Addr} {j0 j1 j2 j3 j5:Option Value} {newId':String} {e:Addr} {oe:Obj} {Q:Bool->Shared->Prop}
  (hC:h.get? C=some (excClassObj nm q C N bs bm hdct sn sub ab col dd k0 k1 k2 k3 k5 newId)) (hL:h.get? L=some (excClassObj nm' q' L N' bs' bm' hdct' sn' sub' ab' col' dd' j0 j1 j2 j3 j5 newId')) (he:h.get? e=some oe) (hcls:oe.cls=.ref C) (hbase:bm'.contains (.type "BaseException")=true)
  (hin:(Value.ref C::bm).contains (.ref L)=true) (hq:Q true ⟨h,g,d,t,os⟩):wpAny M A (excMatches (.ref e) (.ref L)) Q E ⟨h,g,d,t,os⟩:=by
 have hcB:(Value.ref L::bm').contains (.type "BaseException")=true:=by rw [List.contains_cons,hbase,Bool.or_true]
 have f:=tc_notTuple
 unfold excMatches
 repeat (first | (with_reducible refine wpAny_loadPart_at he ?_; rw [hcls]) | with_reducible refine wpAny_loadPart_at hL ?_ | (with_reducible refine wpAny_isSubtype_exc hL ?_; rw [hcB]) | (with_reducible refine wpAny_isSubtype_exc hC ?_; rw [hin]) | wp_step)
 exact hq
end
abbrev Cx.hand (X:Cx) (e:Addr):Cx:={ X with A:=X.A.mark (some (.ref e)),calm:=false,xe:=fun _ _=>False }
section
variable {X:Cx}{pins:List (Addr × Obj)}{σ:St}{H:Hp}{s:Shared}{e:Addr}
theorem Inv.hand (I:Inv X pins σ H s) (e:Addr):Inv (X.hand e) pins σ H s :=
 ⟨⟨I.ok.mod,I.ok.kind,I.ok.glob,I.ok.blt,I.ok.above,I.ok.inj,I.ok.has,I.ok.cab,(fun z=>by cases z),I.ok.frames,I.ok.stk,I.ok.exf,I.ok.bs,I.ok.bsz,I.ok.noex,I.ok.exfs,I.ok.funs,I.ok.frf⟩,I.os,I.bare,I.base,I.loc,I.cell,I.free,I.freeC,I.pin,I.hok,I.len⟩
theorem Inv.unhand (I:Inv (X.hand e) pins σ H s) (ok:X.Ok):Inv X pins σ H s :=
 ⟨ok,I.os,I.bare,I.base,I.loc,I.cell,I.free,I.freeC,I.pin,I.hok,I.len⟩
theorem Inv.track {a:Addr}{o:HO} (I:Inv X pins σ H s) (hn:H a=none) (hnew:∀ b ob,X.s₀.heap.get? b=some ob->b≠a) (hL:X.env.locals≠a) (hc:∀ x c,X.env.cells.lookup x=some c->c≠a) (hp:∀ p∈X.pn++pins,p.1≠a)
  (new:yF X.prog X.w (upd H a o) s.heap a o):Inv X pins σ (upd H a o) s :=
 ⟨I.ok,I.os,I.bare,⟨I.base.keep,I.base.slot,fun b ob q n hx=>by rw [zU (hnew b ob q)]; exact I.base.free b ob q n hx,I.base.there,fun b xs q=>by rw [zU (y7 (I.base.tups b xs q) hn)]; exact I.base.tups b xs q,
  fun b ob u q=>by rw [zU (y7 (I.base.frzs b ob u q) hn)]; exact I.base.frzs b ob u q,fun b ps q=>let ⟨m,z⟩:=I.base.tbls b ps q; ⟨m,by rw [zU (y7 z hn)]; exact z⟩⟩,I.loc,I.cell,by rw [zU hL]; exact I.free,
  fun x c q=>by rw [zU (hc x c q)]; exact I.freeC x c q,fun p q=>let ⟨a1,a2,a3⟩:=I.pin p q; ⟨a1,by rw [zU (hp p q)]; exact a2,a3⟩,I.hok.track hn new,I.len⟩
def qK (K:PySem.W.Frag) (C L:Addr):Bool:=match K.lookup C with
 | some ⟨_,_,.cls cd,_⟩=>cd.mro.contains (.ref L)
 | _=>false
abbrev Cx.tryb (X:Cx) (ET:Value->Shared->Prop) (pn:List (Addr × Obj)):Cx:={ X with xe:=ET,pn:=pn }
theorem Inv.tryb (I:Inv X pins σ H s) (ET:Value->Shared->Prop):Inv (X.tryb ET (X.pn++pins)) [] σ H s :=
 ⟨⟨I.ok.mod,I.ok.kind,I.ok.glob,I.ok.blt,I.ok.above,I.ok.inj,I.ok.has,I.ok.cab,I.ok.hd,I.ok.frames,I.ok.stk,I.ok.exf,I.ok.bs,I.ok.bsz,I.ok.noex,I.ok.exfs,I.ok.funs,I.ok.frf⟩,I.os,I.bare,I.base,I.loc,I.cell,I.free,I.freeC,fun p hp=>I.pin p (by
  have hp':p∈(X.pn++pins)++[]:=hp
  rw [List.append_nil] at hp'
  exact hp'),I.hok,I.len⟩
theorem Inv.untryb {ET:Value->Shared->Prop}{pins':List (Addr × Obj)} (I:Inv (X.tryb ET (X.pn++pins)) pins' σ H s) (ok:X.Ok):Inv X pins σ H s :=
 ⟨ok,I.os,I.bare,I.base,I.loc,I.cell,I.free,I.freeC,fun p hp=>I.pin p (List.mem_append_left _ hp),I.hok,I.len⟩
end
structure RoomB (k:Nat) (A:Around):Prop where
 dp:A.depth+3 * k+5 < recursionLimit
 un:A.units+16 * k+200 < cLine
structure FnB (P:Program) (w:World) (K:PySem.W.Frag) (mg:Str->Option Value) (base:Heap) (CX:qG) (k:Nat) (f:Addr) (fd:FuncData) (ps:List Str) (sp:Sp):Prop where
 len:∀ vs H Q E,sp vs H Q E->vs.length=ps.length
 run:∀ (A:Around) (outer:List Env) (s:Shared) (H:Hp) (args:Args) (us:List Value) (vs:List V) (Q:VK) (E:XK),RoomB k A->Env0 P w K mg base A outer s H->BindsTo s fd args (ps.zip us)->zM vs us->sp vs H Q E ->
  codeAny (model P w) A (.call (.ref f) args) (CR CX outer P w H s Q E) s
section
variable {P:Program}{w:World}{K:PySem.W.Frag}{mg:Str->Option Value}{base:Heap}
def CalB (P:Program) (w:World) (K:PySem.W.Frag) (mg:Str->Option Value) (base:Heap) (k:Nat) (x:Str) (ps:List Str) (sp:Sp):Prop :=
 ∃ (f:Addr) (fd:FuncData),FnB P w K mg base zY k f fd ps sp/\mg x=some (.ref f)/\PySem.W.keepIn K (.ref f)=true/\jP K fd ps []
end
end L2
end
section
namespace L2
open PySem PySem.Spec PyProof.Rows
section
variable {prog:Program}{w:World}{A:Around}{E:Value->Shared->Prop}{h:Heap}{g:Array GenState}{d:Drawn}{t:Nat}{os:OsState}{K:PySem.W.Frag}{C a:Addr}{o:Obj}{vs:Array Value}
end
section
variable {X:Cx}
end
end L2
end
section
namespace L2
open PySem PySem.Spec PyProof.Rows
section
variable {X:Cx}
end
end L2
end
section
namespace L2
open PySem PySem.Spec PyProof.Rows
theorem z6.freeze {P:Program}{w:World}{H:Hp}{h:Heap}{a:Addr}{o:Obj}{kvs:List (zV × V)} (x:z6 P w H h) (e:H a=some (.dK kvs)) (ho:h.get? a=some o):z6 P w (upd H a (.frz o (.dK kvs))) h:=fun b u eb=>by
 by_cases hb:b=a
 ·subst hb; rw [zI] at eb; cases eb
  exact ⟨ho,x b _ e⟩
 ·rw [zU hb] at eb
  refine (x b u eb).stay (fun c v _ q=>q) (fun c q=>?_) fun c xs q=>?_
  ·rw [zU (by rintro rfl; rw [e] at q; cases q)]; exact q
  ·rw [zU (by rintro rfl; rw [e] at q; cases q)]; exact q
theorem zMr {P:Program}{w:World}{k:zV}{u:Value} (h:(vP P w).is k u=true):zT (kV k) u:=by
 rw [zIx] at h
 rcases qP h with ⟨i,t,rfl,rfl⟩ | ⟨x,t,rfl,rfl⟩
 ·exact ⟨_,rfl⟩
 ·exact ⟨_,rfl⟩
theorem zHA {α β:Type}{F:α->β->Prop}:∀ {l₁:List α}{l₂:List β}{i:Nat}{x:α},Paired F l₁ l₂->l₁[i]?=some x->∃ y,l₂[i]?=some y/\F x y
 | [],_,i,x,_,h=>by simp at h
 | a::l,[],i,x,p,_=>by cases p
 | a::l,b::m,0,x,p,h=>by
  cases p with
  | cons h1 h2=>cases h; exact ⟨b,rfl,h1⟩
 | a::l,b::m,i+1,x,p,h=>by
  cases p with
  | cons h1 h2 =>
   obtain ⟨y,e1,e2⟩:=zHA (i:=i) (x:=x) h2 (by simpa using h)
   exact ⟨y,by simpa using e1,e2⟩
section
variable {X:Cx}{pins:List (Addr × Obj)}{σ:St}{H:Hp}{s:Shared}{tg:Expr}
theorem Inv.freeze {a:Addr}{o:Obj}{kvs:List (zV × V)} (I:Inv X pins σ H s) (e:H a=some (.dK kvs)) (ho:s.heap.get? a=some o):Inv X pins σ (upd H a (.frz o (.dK kvs))) s:=by
 have ne:∀ {b:Addr} {u:Option HO},H b=u->u≠some (.dK kvs)->b≠a:=fun {b u} q n z=>n (by rw [<- q,z,e])
 refine ⟨I.ok,I.os,I.bare,⟨I.base.keep,I.base.slot,fun b ob q n hx=>?_,I.base.there,fun b xs q=>?_,fun b ob u q=>?_,fun b ps q=>?_⟩,I.loc,I.cell,?_,fun x c q=>?_,fun p q=>?_,I.hok.freeze e ho,I.len⟩
 ·have:=I.base.free b ob q n hx
  rw [zU (ne this (by simp))]; exact this
 ·have:=I.base.tups b xs q
  rw [zU (ne this (by simp))]; exact this
 ·have:=I.base.frzs b ob u q
  rw [zU (ne this (by simp))]; exact this
 ·obtain ⟨m,z⟩:=I.base.tbls b ps q
  exact ⟨m,by rw [zU (ne z (by simp))]; exact z⟩
 ·have:=I.free
  rw [zU (ne this (by simp))]; exact this
 ·have:=I.freeC x c q
  rw [zU (ne this (by simp))]; exact this
 ·obtain ⟨a1,a2,a3⟩:=I.pin p q
  exact ⟨a1,by rw [zU (ne a2 (by simp))]; exact a2,a3⟩
end
end L2
end
section
namespace L2
open PySem PySem.Spec PyProof.Rows
theorem zMs:entryFor table "dict_itemiterator.__iter__" = some Builtin.«dict_keyiterator.__iter__» :=
 entryFor_alias (id' := "dict_keyiterator.__iter__") (by kernel_rfl) rfl (by decide +kernel) (by kernel_rfl)
def Iti (a:Addr) (o:Obj) (kvs:List (zV × V)):It where
 go:=fun i H=>H a=some (.frz o (.dK kvs))/\i < kvs.length
 yld:=fun i H x H'=>∃ T q,x=.ref T/\H T=none/\H'=upd H T (.tup [kV q.1,q.2])/\kvs[i]?=some q
 stop:=fun i H=>H a=some (.frz o (.dK kvs))/\kvs.length<=i
theorem zMt {P:Program}{w:World}{K:PySem.W.Frag}{elts:List Expr}{k:Nat}{pos:Pos} (a it:Addr) (o:Obj) (kvs:List (zV × V)) (n ep:Nat) (hn:n=kvs.length) (hep:∃ es,o.data=.dict es ep) :
  Turn P w K (.Tuple elts k pos) (Iti a o kvs) [it] it (fun i h=>∃ ok ov,IsItemIter h it a i n ep ok ov) where
 mem:=by simp
 obj:=fun i h st b hb=>by
  have e:b=it:=by simpa using hb
  subst e
  obtain ⟨ok,ov,st⟩:=st
  exact ⟨_,st,fun v z=>by
   have z':Data.fields _=Data.cell v:=z
   cases z'⟩
 keep:=fun i h h' st kk=>let ⟨ok,ov,st⟩:=st; ⟨ok,ov,kk it (by simp) _ st⟩
 item:=by
  intro X hP hw hK hc i pins s σ H E I hf st hg
  subst hP hw hK
  obtain ⟨hfz,hi⟩:=hg
  obtain ⟨ok,ov,st⟩:=st
  obtain ⟨z,hS,vs,rel,dd⟩:=kT I.hok (.inr ⟨o,hfz⟩)
  obtain ⟨hget,_⟩:=(show s.heap.get? a=some o/\_ from I.hok a _ hfz)
  obtain ⟨ep',dat⟩:=dd.dictAt
  have epe:ep'=ep:=by
   obtain ⟨o',es,h1,_,h2,_⟩:=id dat
   obtain ⟨es',h3⟩:=hep
   rw [hget] at h1; cases h1
   rw [h2] at h3; injection h3
  subst epe
  have hlen:vs.length=n:=by rw [hn]; exact (Paired.length rel).symm
  rw [<- hlen] at st
  obtain ⟨q,hq⟩:∃ q,vs[i]?=some q:=⟨_,List.getElem?_eq_getElem (by omega)⟩
  obtain ⟨k,v⟩:=q
  obtain ⟨p,hp,e1,e2⟩:∃ p,kvs[i]?=some p/\p.1=k/\zT p.2 v:=by
   have hi':i < kvs.length:=hi
   obtain ⟨y,hy,hr⟩:=zHA rel (List.getElem?_eq_getElem hi')
   rw [hq] at hy; cases hy
   exact ⟨_,List.getElem?_eq_getElem hi',hr.1,hr.2⟩
  refine wpAny_pyNext_items_item st dat hq fun key h' hkey hout hT hsz hk=>?_
  refine ⟨_,rfl,wpAny_letOwnedTupleGo_items hout fun h2 he2 hs2=>?_⟩
  have hTn:s.heap.get? s.heap.objs.size=none:=by
   cases g:s.heap.get? s.heap.objs.size with
   | none=>rfl
   | some o=>exact absurd (Heap.lt_size g) (Nat.lt_irrefl _)
  have hel:it < s.heap.objs.size:=Heap.lt_size st
  have hT2:h2.get? s.heap.objs.size=some { cls:=.type "tuple",data:=.seq #[key,v] }:=(hs2.2 _ (Nat.ne_of_gt hel)).trans hT
  refine ⟨.ref s.heap.objs.size,upd H s.heap.objs.size (.tup [kV p.1,p.2]),I.turnedT (fp:=[it]) (h':=h2) (t':=s.toks) (fun b ob hb q=>?_) hf hTn ⟨by show 2<=sizeLine; decide,[key,v],.cons (by rw [e1]; exact zMr hkey) (.cons e2 .nil),⟨_,hT2,rfl,_,rfl⟩⟩,rfl,
   ⟨_,p,rfl,I.hok.free hTn,rfl,hp⟩,⟨_,_,by rw [hlen] at he2; exact he2⟩,fun b hb=>?_⟩
  ·have hbe:b≠it:=fun z=>hb (by simp [z])
   exact (hs2.2 b hbe).trans (hk b ob hbe q)
  ·rw [zU]
   ·exact (hf b hb).1
   ·rintro rfl
    have z':s.heap.objs.size=it:=by simpa using hb
    exact absurd hel (by rw [z']; exact Nat.lt_irrefl _)
 done:=by
  intro X hP hw hK hc i pins s σ H E I hf st hg
  subst hP hw hK
  obtain ⟨hfz,hi⟩:=hg
  obtain ⟨ok,ov,st⟩:=st
  obtain ⟨z,hS,vs,rel,dd⟩:=kT I.hok (.inr ⟨o,hfz⟩)
  obtain ⟨hget,_⟩:=(show s.heap.get? a=some o/\_ from I.hok a _ hfz)
  obtain ⟨ep',dat⟩:=dd.dictAt
  have epe:ep'=ep:=by
   obtain ⟨o',es,h1,_,h2,_⟩:=id dat
   obtain ⟨es',h3⟩:=hep
   rw [hget] at h1; cases h1
   rw [h2] at h3; injection h3
  subst epe
  have hlen:vs.length=n:=by rw [hn]; exact (Paired.length rel).symm
  rw [<- hlen] at st
  obtain ⟨f0,f1,f2,f3,f4,f5⟩:=hf it (by simp)
  refine wpAny_pyNext_items_end (I.ok.hd hc) st dat (by rw [List.getElem?_eq_none]; omega) fun h' he=>⟨rfl,?_⟩
  exact I.turned (t':=s.toks) (fun b o hb e=>he b o hb e) f0 f1 f3 f4 f5
 self:=fun A i s Q E st hq=>by
  obtain ⟨ok,ov,st⟩:=st
  have hT:s.TypeIs (.ref it) "dict_itemiterator" := ⟨_,st,rfl⟩
  refine wpAny_pyIter_slot hT F.slot_dict_itemiterator_iter (wpAny_call_entry F.slot_dict_itemiterator_iter hT zMs ?_ (F.args_dict_itemiterator_iter_1 _))
  show wpAny _ _ (ret (.ref it)) _ _ s
  exact wpAny_pure ⟨_,rfl, "dict_itemiterator",_,hT,F.slot_dict_itemiterator_next.lookup,hq⟩
section
variable {X:Cx}{elts:List Expr}{kk:Nat}{tpos:Pos}{tg:Expr}
def zMu (tl:TE):TI:=fun σ H R=>tl σ H fun x H1=>∃ p a kvs,x=.ref p/\H1 p=some (VW p a)/\H1 a=some (.dK kvs)/\∀ o,R (Iti a o kvs) (upd H1 a (.frz o (.dK kvs)))
theorem zMv {l:Expr}{tl:TE} (hl:PE X l tl):PI X (.Tuple elts kk tpos) l (zMu tl):=by
 intro pins s σ H R I h
 refine zJ (hl pins s σ H _ I h) fun v s1 ⟨x,H1,I1,r1,q1⟩=>?_
 obtain ⟨p,a,kvs,e,hp,hq,q⟩:=q1
 subst e
 cases r1
 obtain ⟨z,hS,vs,rel,dd⟩:=kU I1.hok hq
 obtain ⟨ep,dat⟩:=dd.dictAt
 obtain ⟨o,es,ho,_,hod,_⟩:=id dat
 have hvw:s1.heap.get? p=some (zFn a):=(I1.hok p _ hp).1
 refine wpAny_pyIter_items (v:=p) ⟨_,hvw,rfl,rfl⟩ dat ?_
 have I2:=(I1.freeze hq ho).kept (t':=s1.toks) (h':=s1.heap.push { cls:=.type "dict_itemiterator",data:=.fields #[.none,.bool false,.ref a,.int 0 0,.int vs.length 0,.int ep 0,.none,.none] }) fun b o e=>Heap.get?_push_of_some _ e
 refine ⟨s1.heap.objs.size,[s1.heap.objs.size],_,_,upd H1 a (.frz o (.dK kvs)),rfl,I2,zMt a _ o kvs vs.length ep (Paired.length rel).symm ⟨es,hod⟩,⟨_,_,Heap.get?_push_size _ rfl⟩,fun b hb=>?_,q o⟩
 have e:b=s1.heap.objs.size:=by simpa using hb
 subst e
 exact (I1.freeze hq ho).fpOk (Nat.le_refl _) ((I1.freeze hq ho).hok.fresh (Nat.le_refl _))
theorem zMw {a:Addr}{o:Obj}{kvs:List (zV × V)}{caps:List Nat}{n:Nat}{σ:St}{g:TG}{te:TE}{F:List V->Hp->Prop}{H1:Hp} (cv:St) (k:Nat) (hn:kvs.length < 1000)
  (Pv:Nat->List V->Hp->Prop) (h0:Pv 0 [] H1) (hk:∀ i acc H,i<=kvs.length->Pv i acc H->H a=some (.frz o (.dK kvs))/\acc.length<=i)
  (turn:∀ (i:Nat) (q:zV × V) (T:Addr) (acc:List V) (H:Hp) (ys:St) (Nx:List V->St->Hp->Prop),(∀ acc' H' zs,zs.length=k->Pv (i+1) acc' H'->Nx acc' (cv++zs) H')->kvs[i]?=some q->ys.length=k->Pv i acc H->H T=none ->
   g (.ref T) (cv++ys) (upd H T (.tup [kV q.1,q.2])) fun σ2 H3=>te σ2 H3 fun y H5=>Nx (acc++[y]) σ2 H5)
  (fin:∀ acc H,Pv kvs.length acc H->F acc H) (hcv:uX caps n σ=cv++List.replicate k none:=by rfl) :
  ∃ W:Nat->Nat->List V->St->Hp->Prop,(∃ m,W 0 m [] (uX caps n σ) H1)/\∀ i m acc σ' H',W i m acc σ' H' ->
   ((Iti a o kvs).stop i H'/\F acc H') \/
   ((Iti a o kvs).go i H'/\acc.length < sizeLine/\∀ x H2,(Iti a o kvs).yld i H' x H2->g x σ' H2 fun σ2 H3=>kW σ2 H3 fun b H4=>if b=true then te σ2 H4 fun y H5=>∃ m',m' < m/\W (i+1) m' (acc++[y]) σ2 H5 else ∃ m',m' < m/\W (i+1) m' acc σ2 H4):=by
 refine ⟨fun i m acc σ' H'=>i<=kvs.length/\m=kvs.length - i/\(∃ ys,ys.length=k/\σ'=cv++ys)/\Pv i acc H',⟨kvs.length,Nat.zero_le _,rfl,⟨_,by simp,hcv⟩,h0⟩,?_⟩
 rintro i m acc σ' H' ⟨hi,rfl,⟨ys,hy,rfl⟩,pv⟩
 obtain ⟨hH,ha⟩:=hk i acc H' hi pv
 by_cases e:i=kvs.length
 ·subst e
  exact .inl ⟨⟨hH,Nat.le_refl _⟩,fin acc H' pv⟩
 ·have hi':i < kvs.length:=by omega
  refine .inr ⟨⟨hH,hi'⟩,by rw [sizeLine_eq]; omega,fun x H2 hy2=>?_⟩
  obtain ⟨T,q,rfl,hT,rfl,hq⟩:=hy2
  have:=turn i q T acc H' ys (fun acc' σ2 H5=>∃ m',m' < kvs.length - i/\(i+1<=kvs.length/\m'=kvs.length - (i+1)/\(∃ ys,ys.length=k/\σ2=cv++ys)/\Pv (i+1) acc' H5)) (fun acc' H5 zs hz p=>⟨kvs.length - (i+1),by omega,by omega,rfl,⟨zs,hz,rfl⟩,p⟩) hq hy pv hT
  have e:(fun (σ2:St) (H3:Hp)=>kW σ2 H3 fun b H4=>if b=true then te σ2 H4 fun y H5=>∃ m',m' < kvs.length - i/\(i+1<=kvs.length/\m'=kvs.length - (i+1)/\(∃ ys,ys.length=k/\σ2=cv++ys)/\Pv (i+1) (acc++[y]) H5) else ∃ m',m' < kvs.length - i/\(i+1<=kvs.length/\m'=kvs.length - (i+1)/\(∃ ys,ys.length=k/\σ2=cv++ys)/\Pv (i+1) acc H4))=fun σ2 H3=>te σ2 H3 fun y H5=>∃ m',m' < kvs.length - i/\(i+1<=kvs.length/\m'=kvs.length - (i+1)/\(∃ ys,ys.length=k/\σ2=cv++ys)/\Pv (i+1) (acc++[y]) H5):=by
   funext σ2 H3
   unfold kW
   simp
  rw [e]
  exact this
end
end L2
end
section
namespace L2
open PySem PySem.Spec PyProof.Rows
section
variable {X:Cx}
theorem zHB (a b:Str) (t u:Tok):PySem.MeetsSeq.EqGives (.str a t) (.str b u) (a == b):=fun prog w A E s Q h=>SeqAt.EqAt.str_str a t b u prog w _ _ h
def zAm (b:Str):Value->Bool
 | .str x _=>x == b
 | _=>false
theorem zMx {ss:List Str}:∀ {us:List Value},zM (ss.map V.str) us->us.length=ss.length/\∀ (i:Nat) (z:Str),ss[i]?=some z->∃ t,us[i]?=some (Value.str z t):=by
 induction ss with
 | nil=>intro us h; cases h; exact ⟨rfl,fun i z h=>by simp at h⟩
 | cons s ss ih =>
  intro us h
  cases h with
  | cons h1 h2 =>
   obtain ⟨t,rfl⟩:=h1
   obtain ⟨e1,e2⟩:=ih h2
   refine ⟨by rw [List.length_cons,List.length_cons,e1],fun i z h=>?_⟩
   cases i with
   | zero=>cases (Option.some.inj h:s=z); exact ⟨t,rfl⟩
   | succ i=>exact e2 i z h
theorem zMy:gN X "list.index" (fun x vs H Q=>∃ (l:Addr) (bs:List Str) (b:Str) (j:Nat),x=.ref l/\vs=[.str b]/\H l=some (.lst (bs.map V.str))/\bs[j]?=some b/\(∀ i,i < j->bs[i]?≠some b)/\j < 1000/\Q (.int (j:Nat)) H):=by
 intro pins s σ H x vs v us Q I rx rv h
 obtain ⟨l,bs,b,j,rfl,rfl,hH,hj,hno,hz,q⟩:=h
 cases rx
 obtain ⟨u,rfl,ru⟩:=rv.one
 obtain ⟨tb,rfl⟩:=ru
 obtain ⟨z,its,n,r,hl,e⟩:=I.lstM hH
 obtain ⟨hlen,hget⟩:=zMx r
 have hjl:j < bs.length:=(List.getElem?_eq_some_iff.mp hj).1
 obtain ⟨tj,hgj⟩:=hget j b hj
 refine call_meets PySem.F.slot_list_index ⟨_,e,rfl⟩ PySem.F.entry_list_index (PySem.F.args_list_index_2 _ _) (MeetsSeq.list_index l _ n _ (zAm b) (fun y hy=>?_) j (by simpa [hlen] using hjl) (by omega) ?_ (fun m hm hmj=>?_)) ⟨e,?_⟩
 ·have hy':y∈its:=by simpa using hy
  obtain ⟨i,hi,e1⟩:=List.mem_iff_getElem.mp hy'
  have hib:i < bs.length:=by omega
  obtain ⟨ti,hgi⟩:=hget i bs[i] (List.getElem?_eq_getElem hib)
  rw [List.getElem?_eq_getElem hi] at hgi
  have e2:=Option.some.inj hgi
  rw [e1] at e2
  subst e2
  exact zHB _ _ _ _
 ·have hjs:j < its.length:=by omega
  rw [List.getElem?_eq_getElem hjs] at hgj
  have e2:=Option.some.inj hgj
  simp [zAm,e2]
 ·have hm':m < its.length:=by simpa using hm
  have hmb:m < bs.length:=by omega
  obtain ⟨tm,hgm⟩:=hget m bs[m] (List.getElem?_eq_getElem hmb)
  rw [List.getElem?_eq_getElem hm'] at hgm
  have e2:=Option.some.inj hgm
  have:=hno m hmj
  rw [List.getElem?_eq_getElem hmb] at this
  have h2:bs[m]≠b:=fun z=>this (by rw [z])
  simp [zAm,e2,h2]
 ·exact ⟨.int (j:Nat),H,I.tok _,⟨_,rfl⟩,q⟩
theorem zMz:gN X "list.count" (fun x vs H Q=>∃ (l:Addr) (bs:List Str) (b:Str),x=.ref l/\vs=[.str b]/\H l=some (.lst (bs.map V.str))/\Q (.int (bs.count b:Nat)) H):=by
 intro pins s σ H x vs v us Q I rx rv h
 obtain ⟨l,bs,b,rfl,rfl,hH,q⟩:=h
 cases rx
 obtain ⟨u,rfl,ru⟩:=rv.one
 obtain ⟨tb,rfl⟩:=ru
 obtain ⟨z,its,n,r,hl,e⟩:=I.lstM hH
 have key:∀ {ss:List Str} {us:List Value},zM (ss.map V.str) us->us.countP (zAm b)=ss.count b/\∀ y∈us,∃ z t,y=Value.str z t:=by
  intro ss
  induction ss with
  | nil=>intro us h; cases h; exact ⟨rfl,fun y hy=>by cases hy⟩
  | cons s ss ih =>
   intro us h
   cases h with
   | cons h1 h2 =>
    obtain ⟨t,rfl⟩:=h1
    obtain ⟨e1,e2⟩:=ih h2
    refine ⟨?_,fun y hy=>?_⟩
    ·rw [List.countP_cons,e1,List.count_cons]
     rfl
    ·rcases List.mem_cons.mp hy with z | z
     ·exact ⟨s,t,z⟩
     ·exact e2 y z
 obtain ⟨hc,hk⟩:=key r
 refine call_meets PySem.F.slot_list_count ⟨_,e,rfl⟩ PySem.F.entry_list_count (PySem.F.args_list_count_2 _ _) (MeetsSeq.list_count l _ n _ (zAm b) (fun y hy=>?_)) ⟨e,?_⟩
 ·obtain ⟨z,t,rfl⟩:=hk y (by simpa using hy)
  exact zHB _ _ _ _
 ·refine ⟨.int (bs.count b:Nat),H,I.tok _,⟨s.toks,?_⟩,q⟩
  simp only [List.toList_toArray,hc]
end
end L2
end
section
namespace Kn
theorem zHC (t l:S) (o:Nat):zQ (zQ t o++l) o=zQ (t++l) o:=by
 unfold zQ
 rw [List.length_append,List.length_append,List.length_drop]
 by_cases h:t.length<=o
 ·rw [show t.length - o=0 by omega,List.drop_zero,Nat.sub_zero]
 ·rw [List.drop_append,List.drop_append,List.drop_drop,List.length_drop]
  congr 1
  ·congr 1; omega
  ·congr 1; omega
def pp (o:Nat) (t:S):List (S × S):=(List.range t.length).map fun p=>(zQ (t.take p) o,(t.drop p).take 1)
theorem zAJ (o:Nat) (t:S):zN o t=pp o t++[(zQ t o,[])]:=by
 unfold zN pp
 rw [List.range_succ,List.map_append]
 simp
theorem zNA (o:Nat) (t:S) (c:Nat):pp o (t++[c])=pp o t++[(zQ t o,[c])]:=by
 unfold pp
 rw [List.length_append,List.length_singleton,List.range_succ,List.map_append]
 congr 1
 ·refine List.map_congr_left fun p hp=>?_
  have hp':p < t.length:=List.mem_range.mp hp
  rw [List.take_append_of_le_length (by omega),List.drop_append_of_le_length (by omega)]
  congr 1
  have:1<=(t.drop p).length:=by rw [List.length_drop]; omega
  rw [List.take_append_of_le_length this]
 ·simp
theorem zHD (o:Nat):pp o []=[]:=rfl
theorem zNB {o:Nat}{nm e:S}{c:Nat} (h:(e,[c])∈zN o nm):∃ l,(zQ (e++[c]) o,l)∈zN o nm:=by
 unfold zN at h
 obtain ⟨p,hp,e1⟩:=List.mem_map.mp h
 have hp':p < nm.length+1:=List.mem_range.mp hp
 have e2:zQ (nm.take p) o=e:=congrArg Prod.fst e1
 have e3:(nm.drop p).take 1=[c]:=congrArg Prod.snd e1
 have hl:p < nm.length:=by
  by_cases h:p < nm.length
  ·exact h
  ·rw [List.drop_of_length_le (by omega)] at e3; cases e3
 have e4:nm.take (p+1)=nm.take p++[c]:=by
  rw [<- e3,<- List.take_add]
 refine ⟨(nm.drop (p+1)).take 1,?_⟩
 rw [<- e2,zHC,<- e4]
 exact List.mem_map.mpr ⟨p+1,List.mem_range.mpr (by omega),rfl⟩
theorem zNC {o:Nat}{bk:List S}{e:S}{c:Nat} (h:(e,[c])∈zD o bk):∃ l,(zQ (e++[c]) o,l)∈zD o bk:=by
 obtain ⟨nm,hn,hp⟩:=List.mem_flatMap.mp h
 obtain ⟨l,hl⟩:=zNB hp
 exact ⟨l,List.mem_flatMap.mpr ⟨nm,hn,hl⟩⟩
theorem zND {o:Nat}{nm e l:S} (h:(e,l)∈zN o nm):l.length<=1:=by
 unfold zN at h
 obtain ⟨p,_,e1⟩:=List.mem_map.mp h
 have e3:(nm.drop p).take 1=l:=congrArg Prod.snd e1
 rw [<- e3,List.length_take]; omega
theorem zNE {o:Nat}{bk:List S}{e l:S} (h:(e,l)∈zD o bk):l.length<=1:=by
 obtain ⟨nm,hn,hp⟩:=List.mem_flatMap.mp h
 exact zND hp
theorem zNF {l:S} (h:l.length<=1) (hn:l≠[]):∃ c,l=[c]:=by
 match l,h,hn with
 | [c],_,_=>exact ⟨c,rfl⟩
theorem zHE (ps:List (S × S)):∀ (qs:List (S × S)) (w:Int × Int),Fq w->(∃ q∈qs,q ∉ ps)->qs.foldl (fun w p=>vR w (yN ps p.1 p.2)) w=(0,1)
 | [],_,_,h=>by obtain ⟨q,hq,_⟩:=h; cases hq
 | p::qs,w,hw,h=>by
  rw [List.foldl_cons]
  by_cases hp:p∈ps
  ·refine zHE ps qs _ (zAG hw (kG ..)) ?_
   obtain ⟨q,hq,hn⟩:=h
   rcases List.mem_cons.mp hq with e | e
   ·rw [e] at hn; exact absurd hp hn
   ·exact ⟨q,e,hn⟩
  ·have:yN ps p.1 p.2=(0,1):=zLl hp
   rw [this,zLg hw]
   exact zGL ps qs
theorem zHF {ps:List (S × S)}{o:Nat}{x:S}:0 < (gR ps o x).1↔∀ q∈zN o x,q∈ps:=by
 constructor
 ·intro h q hq
  by_cases hp:q∈ps
  ·exact hp
  ·have:=zHE ps (zN o x) (1,1) zAh ⟨q,hq,hp⟩
   unfold gR jB at h
   rw [this] at h
   exact absurd h (by decide)
 ·intro h
  exact zGK _ _ _ zAh (by decide) h
def lft (w:Int) (q:Int × Int):Int:=w * q.1 / q.2
end Kn
end
section
namespace Kn
def kI (x:S):List S->List S
 | []=>[x]
 | y::l=>if x < y then x::y::l else if y < x then y::kI x l else y::l
def zAn (l:List S):List S:=l.foldr kI []
theorem zDU (x z:S):∀ l:List S,z∈kI x l↔z=x\/z∈l
 | []=>by simp [kI]
 | y::l=>by
  have ih:=zDU x z l
  unfold kI
  split
  ·simp
  ·split
   ·rw [List.mem_cons,ih,List.mem_cons]
    constructor
    ·rintro (h | h | h)
     ·exact .inr (.inl h)
     ·exact .inl h
     ·exact .inr (.inr h)
    ·rintro (h | h | h)
     ·exact .inr (.inl h)
     ·exact .inl h
     ·exact .inr (.inr h)
   ·rename_i h1 h2
    have e:=zLm x y h1 h2
    subst e
    rw [List.mem_cons]
    exact ⟨fun h=>.inr h,fun h=>h.elim .inl id⟩
theorem zHG (x:S):∀ l:List S,l.Pairwise (· < ·)->(kI x l).Pairwise (· < ·)
 | [],_=>by simp [kI]
 | y::l,h=>by
  have h1:=List.pairwise_cons.mp h
  unfold kI
  split
  ·rename_i hx
   refine List.pairwise_cons.mpr ⟨fun z hz=>?_,h⟩
   rcases List.mem_cons.mp hz with e | e
   ·rw [e]; exact hx
   ·exact zGB hx (h1.1 z e)
  ·split
   ·rename_i hy
    refine List.pairwise_cons.mpr ⟨fun z hz=>?_,zHG x l h1.2⟩
    rcases (zDU x z l).mp hz with e | e
    ·rw [e]; exact hy
    ·exact h1.1 z e
   ·exact h
theorem zHH (z:S):∀ l:List S,z∈zAn l↔z∈l
 | []=>by simp [zAn]
 | y::l=>by
  show z∈kI y (zAn l)↔_
  rw [zDU,zHH z l,List.mem_cons]
theorem zBq:∀ l:List S,(zAn l).Pairwise (· < ·)
 | []=>List.Pairwise.nil
 | y::l=>zHG y _ (zBq l)
theorem zHI:∀ {l m:List S},l.Pairwise (· < ·)->m.Pairwise (· < ·)->(∀ x,x∈l↔x∈m)->l=m
 | [],[],_,_,_=>rfl
 | [],y::ys,_,_,h=>absurd ((h y).mpr (List.mem_cons_self ..)) (by simp)
 | x::xs,[],_,_,h=>absurd ((h x).mp (List.mem_cons_self ..)) (by simp)
 | x::xs,y::ys,hx,hy,h=>by
  have hx1:=List.pairwise_cons.mp hx
  have hy1:=List.pairwise_cons.mp hy
  have exy:x=y:=by
   rcases List.mem_cons.mp ((h x).mp (List.mem_cons_self ..)) with e | e
   ·exact e
   ·rcases List.mem_cons.mp ((h y).mpr (List.mem_cons_self ..)) with e' | e'
    ·exact e'.symm
    ·exact absurd (zGB (hy1.1 x e) (hx1.1 y e')) (zAF y)
  subst exy
  have:xs=ys:=zHI hx1.2 hy1.2 fun p=>by
   constructor
   ·intro hp
    rcases List.mem_cons.mp ((h p).mp (List.mem_cons_of_mem _ hp)) with e | e
    ·subst e; exact absurd (hx1.1 p hp) (zAF p)
    ·exact e
   ·intro hp
    rcases List.mem_cons.mp ((h p).mpr (List.mem_cons_of_mem _ hp)) with e | e
    ·subst e; exact absurd (hy1.1 p hp) (zAF p)
    ·exact e
  rw [this]
def vX (ps:List (S × S)) (e:S):List S:=zAn ((ps.filter fun p=>decide (p.1=e)).map (·.2))
theorem zAK (ps:List (S × S)) (e l:S):l∈vX ps e↔(e,l)∈ps:=by
 unfold vX
 rw [zHH,List.mem_map]
 constructor
 ·rintro ⟨⟨e',l'⟩,h,rfl⟩
  obtain ⟨h1,h2⟩:=List.mem_filter.mp h
  have:e'=e:=of_decide_eq_true h2
  subst this; exact h1
 ·intro h
  exact ⟨(e,l),List.mem_filter.mpr ⟨h,decide_eq_true rfl⟩,rfl⟩
theorem zNG {ps:List (S × S)}{e:S}{m:List S} (h:m.Pairwise (· < ·)) (h2:∀ x,x∈m↔(e,x)∈ps):m=vX ps e :=
 zHI h (zBq _) fun x=>by rw [h2]; exact (zAK ps e x).symm
def pot (ps:List (S × S)) (e:S):List S:=(vX ps e).flatMap fun l=>List.replicate (ps.count (e,l)) l
theorem kJ (ps:List (S × S)) (e l:S):l∈pot ps e↔(e,l)∈ps:=by
 unfold pot
 rw [List.mem_flatMap]
 constructor
 ·rintro ⟨l',h1,h2⟩
  rw [(List.mem_replicate.mp h2).2]
  exact (zAK ps e l').mp h1
 ·intro h
  refine ⟨l,(zAK ps e l).mpr h,List.mem_replicate.mpr ⟨?_,rfl⟩⟩
  have:=List.count_pos_iff.mpr h
  omega
def pick (ps:List (S × S)) (e:S) (n:Nat):S:=(pot ps e).getD (n % (pot ps e).length) []
def dr (ps:List (S × S)) (o:Nat):S->List Nat->Nat->Option (S × Nat)
 | _,[],_=>none
 | t,n::ns,p=>if pick ps (zQ t o) n=[] then some (t,p+1) else dr ps o (t++pick ps (zQ t o) n) ns (p+1)
theorem zBr {ps:List (S × S)}{e:S} (h:∃ l,(e,l)∈ps) (n:Nat):(e,pick ps e n)∈ps:=by
 obtain ⟨l,hl⟩:=h
 have h1:=(kJ ps e l).mpr hl
 have h2:0 < (pot ps e).length:=List.length_pos_of_mem h1
 have h3:n % (pot ps e).length < (pot ps e).length:=Nat.mod_lt _ h2
 unfold pick
 rw [List.getD_eq_getElem?_getD,List.getElem?_eq_getElem h3]
 exact (kJ ps e _).mp (List.getElem_mem _)
theorem zNH {ps:List (S × S)}{e:S} (h:∃ l,(e,l)∈ps) (n:Nat):(pot ps e)[n % (pot ps e).length]?=some (pick ps e n)/\0 < (pot ps e).length:=by
 obtain ⟨l,hl⟩:=h
 have h2:0 < (pot ps e).length:=List.length_pos_of_mem ((kJ ps e l).mpr hl)
 have h3:n % (pot ps e).length < (pot ps e).length:=Nat.mod_lt _ h2
 refine ⟨?_,h2⟩
 unfold pick
 rw [List.getD_eq_getElem?_getD,List.getElem?_eq_getElem h3]; rfl
def vH (o:Nat) (bk:List S) (t:S):Prop:=∃ l,(zQ t o,l)∈zD o bk
theorem vH.next {o:Nat}{bk:List S}{t:S}{c:Nat} (h:(zQ t o,[c])∈zD o bk):vH o bk (t++[c]):=by
 obtain ⟨l,hl⟩:=zNC h
 rw [zHC] at hl
 exact ⟨l,hl⟩
theorem vH.pick {o:Nat}{bk:List S}{t:S} (h:vH o bk t) (n:Nat):pick (zD o bk) (zQ t o) n=[]\/∃ c,pick (zD o bk) (zQ t o) n=[c]/\vH o bk (t++[c]):=by
 have h1:=zBr h n
 by_cases e:Kn.pick (zD o bk) (zQ t o) n=[]
 ·exact .inl e
 ·obtain ⟨c,hc⟩:=zNF (zNE h1) e
  rw [hc] at h1
  exact .inr ⟨c,hc,vH.next h1⟩
theorem vH.nil {o:Nat}{bk:List S} (h:bk≠[]):vH o bk []:=by
 cases bk with
 | nil=>exact absurd rfl h
 | cons x bk =>
  refine ⟨x.take 1,List.mem_flatMap.mpr ⟨x,List.mem_cons_self ..,List.mem_map.mpr ⟨0,List.mem_range.mpr (by omega),?_⟩⟩⟩
  simp [zQ]
theorem zAo {o:Nat}{bk:List S}:∀ (ns:List Nat) (t:S) (p:Nat) (x:S) (q:Nat),vH o bk t->dr (zD o bk) o t ns p=some (x,q)->p < q/\q<=p+ns.length/\x.length+p+1=t.length+q
 | [],t,p,x,q,_,h=>by cases h
 | n::ns,t,p,x,q,ha,h=>by
  unfold dr at h
  rcases ha.pick n with e | ⟨c,e,h2⟩
  ·rw [if_pos e] at h
   have h3:=Option.some.inj h
   have e1:=(Prod.mk.inj h3).1
   have e2:=(Prod.mk.inj h3).2
   subst e1 e2
   simp only [List.length_cons]; omega
  ·rw [if_neg (by rw [e]; simp),e] at h
   have:=zAo ns _ _ x q h2 h
   rw [List.length_append,List.length_singleton] at this
   simp only [List.length_cons]; omega
theorem zHJ (ps:List (S × S)) (o:Nat):∀ (ns ms:List Nat) (t:S) (p:Nat) (r:S × Nat),dr ps o t ns p=some r->dr ps o t (ns++ms) p=some r
 | [],ms,t,p,r,h=>by cases h
 | n::ns,ms,t,p,r,h=>by
  rw [List.cons_append]
  unfold dr at h ⊢
  split
  ·rename_i e; rw [if_pos e] at h; exact h
  ·rename_i e; rw [if_neg e] at h; exact zHJ ps o ns ms _ _ r h
theorem zDV (ps:List (S × S)) (o:Nat):∀ (ns:List Nat) (t:S) (p k:Nat) (x:S) (q:Nat),dr ps o t ns p=some (x,q)->q<=p+k->dr ps o t (ns.take k) p=some (x,q)
 | [],t,p,k,x,q,h,_=>by cases h
 | n::ns,t,p,0,x,q,h,hk=>by
  exfalso
  have go:∀ (ns:List Nat) (t:S) (p:Nat),dr ps o t ns p=some (x,q)->p < q:=by
   intro ns
   induction ns with
   | nil=>intro t p h; cases h
   | cons n ns ih =>
    intro t p h
    unfold dr at h
    split at h
    ·have:=(Prod.mk.inj (Option.some.inj h)).2; omega
    ·have:=ih _ _ h; omega
  have:=go _ _ _ h
  omega
 | n::ns,t,p,k+1,x,q,h,hk=>by
  rw [List.take_succ_cons]
  unfold dr at h ⊢
  split
  ·rename_i e; rw [if_pos e] at h; exact h
  ·rename_i e; rw [if_neg e] at h; exact zDV ps o ns _ _ k x q h (by omega)
theorem zHK (ps:List (S × S)) (o:Nat):∀ (ns:List Nat) (t:S) (p k:Nat) (x:S) (q:Nat),dr ps o t ns p=some (x,q)->p+k < q->dr ps o t (ns.take k) p=none
 | [],t,p,k,x,q,h,_=>by cases h
 | n::ns,t,p,0,x,q,h,hk=>rfl
 | n::ns,t,p,k+1,x,q,h,hk=>by
  rw [List.take_succ_cons]
  unfold dr at h ⊢
  split
  ·rename_i e; rw [if_pos e] at h
   have:=(Prod.mk.inj (Option.some.inj h)).2
   omega
  ·rename_i e; rw [if_neg e] at h; exact zHK ps o ns _ _ k x q h (by omega)
def yX (ps:List (S × S)) (o:Nat) (ok:S->Bool) (ns:List Nat):Nat->Nat->Option (S × Nat)
 | 0,_=>none
 | f+1,p=>match dr ps o [] (ns.drop p) p with
  | none=>none
  | some r=>if ok r.1 then some r else yX ps o ok ns f r.2
theorem zDW (ps:List (S × S)) (o:Nat):∀ (ns:List Nat) (t:S) (p:Nat) (x:S) (q:Nat),dr ps o t ns p=some (x,q)->p < q/\q<=p+ns.length
 | [],t,p,x,q,h=>by cases h
 | n::ns,t,p,x,q,h=>by
  unfold dr at h
  split at h
  ·have:=(Prod.mk.inj (Option.some.inj h)).2
   simp only [List.length_cons]; omega
  ·have:=zDW ps o ns _ _ x q h
   simp only [List.length_cons]; omega
theorem zBs (ps:List (S × S)) (o:Nat) (ok:S->Bool) (ns:List Nat):∀ (f g p:Nat),ns.length < f+p->ns.length < g+p->yX ps o ok ns f p=yX ps o ok ns g p
 | 0,0,p,_,_=>rfl
 | 0,g+1,p,h,_=>by
  unfold yX
  rw [List.drop_of_length_le (by omega)]; rfl
 | f+1,0,p,_,h=>by
  unfold yX
  rw [List.drop_of_length_le (by omega)]; rfl
 | f+1,g+1,p,h1,h2=>by
  unfold yX
  cases e:dr ps o [] (ns.drop p) p with
  | none=>rfl
  | some r =>
   have h3:=zDW ps o _ _ _ r.1 r.2 e
   show (if ok r.1 then some r else _)=(if ok r.1 then some r else _)
   rw [zBs ps o ok ns f g r.2 (by omega) (by omega)]
theorem zBt (ps:List (S × S)) (o:Nat) (ok:S->Bool) (ns:List Nat):∀ (f p:Nat) (x:S) (q:Nat),yX ps o ok ns f p=some (x,q)->p < q/\q<=ns.length/\ok x=true
 | 0,p,x,q,h=>by cases h
 | f+1,p,x,q,h=>by
  unfold yX at h
  cases e:dr ps o [] (ns.drop p) p with
  | none=>rw [e] at h; cases h
  | some r =>
   rw [e] at h
   have h3:=zDW ps o _ _ _ r.1 r.2 e
   rw [List.length_drop] at h3
   by_cases hk:ok r.1=true
   ·have h4:some r=some (x,q):=by simpa [hk] using h
    have h5:=Option.some.inj h4
    rw [h5] at h3 hk
    exact ⟨h3.1,by have h6:=h3.1; have h7:=h3.2; simp only at h6 h7; omega,hk⟩
   ·have h4:yX ps o ok ns f r.2=some (x,q):=by simpa [hk] using h
    have:=zBt ps o ok ns f r.2 x q h4
    exact ⟨by omega,this.2⟩
theorem zHL (ps:List (S × S)) (o:Nat) (ok:S->Bool) (ns:List Nat) (k:Nat):∀ (f p:Nat) (x:S) (q:Nat),yX ps o ok ns f p=some (x,q)->q<=k->yX ps o ok (ns.take k) f p=some (x,q)
 | 0,p,x,q,h,_=>by cases h
 | f+1,p,x,q,h,hq=>by
  have hlt:=zBt ps o ok ns (f+1) p x q h
  unfold yX at h ⊢
  cases e:dr ps o [] (ns.drop p) p with
  | none=>rw [e] at h; cases h
  | some r' =>
   rw [e] at h
   have h':(if ok r'.1 then some r' else yX ps o ok ns f r'.2)=some (x,q):=h
   have hr:r'.2<=q:=by
    by_cases hk:ok r'.1=true
    ·rw [if_pos hk] at h'
     rw [Option.some.inj h']; exact Nat.le_refl _
    ·rw [if_neg hk] at h'
     exact Nat.le_of_lt (zBt ps o ok ns f r'.2 x q h').1
   rw [List.drop_take,zDV ps o _ [] p (k - p) r'.1 r'.2 e (by omega)]
   show (if ok r'.1 then some r' else _)=some (x,q)
   by_cases hk:ok r'.1=true
   ·rw [if_pos hk] at h' ⊢; exact h'
   ·rw [if_neg hk] at h' ⊢; exact zHL ps o ok ns k f r'.2 x q h' hq
def v6 (ps:List (S × S)) (qs:List (S × S)):List Nat:=qs.map fun q=>(pot ps q.1).idxOf q.2
theorem zBu {ps:List (S × S)}{e l:S} (h:(e,l)∈ps):pick ps e ((pot ps e).idxOf l)=l:=by
 have h1:=(kJ ps e l).mpr h
 have h2:=List.idxOf_lt_length_iff.mpr h1
 unfold pick
 rw [Nat.mod_eq_of_lt h2,List.getD_eq_getElem?_getD,List.getElem?_eq_getElem h2,List.getElem_idxOf h2]; rfl
theorem zHM (ps:List (S × S)) (o:Nat):∀ (u t:S) (ms:List Nat) (p:Nat),(∀ q∈zN o (t++u),q∈ps)->dr ps o t (v6 ps ((zN o (t++u)).drop t.length)++ms) p=some (t++u,p+u.length+1)
 | [],t,ms,p,h=>by
  rw [List.append_nil] at h ⊢
  rw [zAJ]
  have e:(pp o t++[(zQ t o,([]:S))]).drop t.length=[(zQ t o,[])]:=by
   have hl:(pp o t).length=t.length:=by unfold pp; rw [List.length_map,List.length_range]
   rw [<- hl,List.drop_left]
  rw [e]
  have hm:(zQ t o,([]:S))∈ps:=h _ (by rw [zAJ]; simp)
  unfold v6
  rw [List.map_singleton,List.singleton_append]
  unfold dr
  rw [zBu hm,if_pos rfl]; rfl
 | c::u,t,ms,p,h=>by
  have hm:(zQ t o,[c])∈zN o (t++c::u):=by
   refine List.mem_map.mpr ⟨t.length,List.mem_range.mpr (by rw [List.length_append,List.length_cons]; omega),?_⟩
   rw [List.take_left,List.drop_left]; rfl
  have hd:(zN o (t++c::u)).drop t.length=(zQ t o,[c])::(zN o (t++c::u)).drop (t.length+1):=by
   have hl:t.length < (zN o (t++c::u)).length:=by
    unfold zN; rw [List.length_map,List.length_range,List.length_append,List.length_cons]; omega
   rw [List.drop_eq_getElem_cons hl]
   congr 1
   have h5:(zN o (t++c::u))[t.length]?=some (zQ t o,[c]):=by
    unfold zN
    rw [List.getElem?_map,List.getElem?_range (by rw [List.length_append,List.length_cons]; omega)]
    show some (zQ (List.take t.length (t++c::u)) o,List.take 1 (List.drop t.length (t++c::u)))=_
    rw [List.take_left,List.drop_left]; rfl
   exact (List.getElem?_eq_some_iff.mp h5).2
  rw [hd]
  unfold v6
  rw [List.map_cons,List.cons_append]
  unfold dr
  rw [zBu (h _ hm),if_neg (by simp)]
  have e2:t++c::u=(t++[c])++u:=by simp
  have ih:=zHM ps o u (t++[c]) ms (p+1) (by rw [<- e2]; exact h)
  rw [<- e2,List.length_append,List.length_singleton] at ih
  unfold v6 at ih
  rw [ih,List.length_cons]
  congr 2
  omega
theorem zHN {ps:List (S × S)}{o:Nat}{x:S} (ms:List Nat) (h:∀ q∈zN o x,q∈ps):dr ps o [] (v6 ps (zN o x)++ms) 0=some (x,x.length+1):=by
 have:=zHM ps o x [] ms 0 (by simpa using h)
 simpa using this
end Kn
end
section
namespace Kn.Dr
open PySem L2 Kn
theorem gU {α β:Type}{f:α->β}{l:List α}{i:Nat}{y:β} (h:(l.map f)[i]?=some y):∃ x,l[i]?=some x/\y=f x:=by
 rw [List.getElem?_map] at h
 cases e:l[i]? with
 | none=>rw [e] at h; cases h
 | some x=>rw [e] at h; exact ⟨x,rfl,(Option.some.inj h).symm⟩
theorem jC {α:Type}{l:List α}{i:Nat}{x:α} (h:l[i]?=some x):l.take (i+1)=l.take i++[x]:=by
 rw [List.take_succ_eq_append_getElem (List.getElem?_eq_some_iff.mp h).1,(List.getElem?_eq_some_iff.mp h).2]
def yY (f:Addr) (H H':Hp):Prop:=∀ b u,b≠f->H b=some u->H' b=some u
theorem yY.refl {f:Addr} (H:Hp):yY f H H:=fun b u _ h=>h
theorem yY.updf {f:Addr}{H H':Hp}{u:HO} (s:yY f H H'):yY f H (upd H' f u):=fun b v hb e=>by rw [zU hb]; exact s b v hb e
theorem yY.trans {f:Addr}{H H' H'':Hp} (s:yY f H H') (t:yY f H' H''):yY f H H'':=fun b v hb e=>t b v hb (s b v hb e)
theorem yY.of {f:Addr}{H H':Hp} (s:zB H H'):yY f H H':=fun b v _ e=>s b v e
theorem yY.same {f:Addr}{H H0 H':Hp} (t:zB H H0) (hf:H f=none) (s:yY f H0 H'):zB H H':=fun b v e=>s b v (y7 e hf) (t b v e)
abbrev nxD (ps:List (S × S)) (e:S):List S:=(yO ps e).map (·.1)
theorem zHO (ps:List (S × S)) (e l:S):l∈nxD ps e↔(e,l)∈ps:=by
 constructor
 ·intro h
  obtain ⟨⟨l',n⟩,h1,rfl⟩:=List.mem_map.mp h
  obtain ⟨h2,h3⟩:=(zAl ps e l' n).mp h1
  have h4:0 < ps.count (e,l'):=by rw [h2] at h3; omega
  exact List.count_pos_iff.mp h4
 ·intro h
  exact List.mem_map.mpr ⟨(l,(ps.count (e,l):Int)),(zAl ps e l _).mpr ⟨rfl,by have:=List.count_pos_iff.mpr h; omega⟩,rfl⟩
theorem zNI (ps:List (S × S)) (e:S):(yO ps e).length<=ps.length:=by
 have h1:=zDD ps e
 have h2:=tot_le ps e
 have h3:∀ q∈yO ps e,0 < q.2:=fun q hq=>((zAl ps e q.1 q.2).mp hq).2
 have go:∀ l:List (S × Int),(∀ q∈l,0 < q.2)->(l.length:Int)<=(l.map (·.2)).sum:=by
  intro l
  induction l with
  | nil=>intro _; simp
  | cons q l ih =>
   intro hl
   have a:=hl q (List.mem_cons_self ..)
   have b:=ih fun x hx=>hl x (List.mem_cons_of_mem _ hx)
   rw [List.map_cons,List.sum_cons,List.length_cons]
   omega
 have:=go _ h3
 omega
theorem zNJ {ps:List (S × S)}{ra:List (S × Addr × List (S × Int))} (h:ra.map (fun r=>(r.1,r.2.2))=vV ps) {r:S × Addr × List (S × Int)} (hr:r∈ra):r.2.2=yO ps r.1:=by
 have h1:(r.1,r.2.2)∈vV ps:=by rw [<- h]; exact List.mem_map.mpr ⟨r,hr,rfl⟩
 unfold yO
 rw [(uO (u9 ps).nd _ _).mp h1]; rfl
theorem zNK {ps:List (S × S)}:(vV ps).length<=ps.length:=by
 have nd:=(u9 ps).nd
 have hs:∀ e∈(vV ps).map (·.1),e∈ps.map (·.1):=fun e he=>by
  obtain ⟨r,hr,rfl⟩:=List.mem_map.mp he
  obtain ⟨l,hl⟩:=((u9 ps).has r.1).mp ⟨r.2,(uO nd _ _).mp hr⟩
  exact List.mem_map.mpr ⟨_,hl,rfl⟩
 have go:∀ (a b:List S),a.Nodup->(∀ x∈a,x∈b)->a.length<=b.length:=by
  intro a
  induction a with
  | nil=>intro b _ _; exact Nat.zero_le _
  | cons x a ih =>
   intro b nd h
   have hx:=h x (List.mem_cons_self ..)
   have h1:=List.nodup_cons.mp nd
   have:=ih (b.erase x) h1.2 fun y hy=>(List.mem_erase_of_ne (fun z=>h1.1 (by rw [<- z]; exact hy))).mpr (h y (List.mem_cons_of_mem _ hy))
   rw [List.length_erase_of_mem hx] at this
   have:=List.length_pos_of_mem hx
   rw [List.length_cons]; omega
 have:=go _ _ nd hs
 rwa [List.length_map,List.length_map] at this
theorem zNL {ps:List (S × S)}{ra:List (S × Addr × List (S × Int))} (r1:ra.map (fun r=>(r.1,r.2.2))=vV ps) (e:S):e∈ra.map (·.1)↔∃ l,(e,l)∈ps:=by
 have e1:ra.map (·.1)=(vV ps).map (·.1):=by rw [<- r1,List.map_map]; rfl
 rw [e1]
 rw [<- (u9 ps).has e]
 constructor
 ·intro h
  obtain ⟨r,hr,rfl⟩:=List.mem_map.mp h
  exact ⟨r.2,(uO (u9 ps).nd _ _).mp hr⟩
 ·rintro ⟨row,h⟩
  exact List.mem_map.mpr ⟨_,(uO (u9 ps).nd _ _).mpr h,rfl⟩
theorem gW (ps:List (S × S)) (e:S):(pot ps e).length=tot ps e:=by
 have h1:=zDD ps e
 have hp:(vX ps e).Perm (nxD ps e):=by
  refine (List.perm_ext_iff_of_nodup ?_ (zAk ps e)).mpr fun x=>by rw [zAK,zHO]
  exact (zBq _).imp fun {a b} h z=>by subst z; exact zAF _ h
 unfold pot
 rw [List.length_flatMap]
 have e1:((vX ps e).map fun l=>(List.replicate (ps.count (e,l)) l).length)=(vX ps e).map fun l=>ps.count (e,l):=List.map_congr_left fun l _=>List.length_replicate
 rw [e1,(hp.map fun l=>ps.count (e,l)).sum_nat]
 have e2:(yO ps e).map (·.2)=((nxD ps e).map fun l=>ps.count (e,l)).map fun (n:Nat)=>(n:Int):=by
  rw [List.map_map,List.map_map]
  refine List.map_congr_left fun q hq=>?_
  exact ((zAl ps e q.1 q.2).mp hq).1
 rw [e2] at h1
 have go:∀ l:List Nat,(l.map fun (n:Nat)=>(n:Int)).sum=((l.sum:Nat):Int):=by
  intro l
  induction l with
  | nil=>rfl
  | cons x l ih=>rw [List.map_cons,List.sum_cons,ih,List.sum_cons]; omega
 rw [go] at h1
 omega
section
variable {P:Program}{w:World}{K:PySem.W.Frag}{mg:Str->Option Value}{base:Heap}
abbrev zDX:Stmt:=top 61
theorem zHP:FnScope ["row", "pot", "letter"] ["row"] (defScope zDX):=⟨rfl,rfl,rfl,by decide +kernel,rfl,by decide +kernel,by decide +kernel⟩
def zHQ:Sp:=fun vs H Q _=>∃ (ra:Addr) (ps:List (S × S)) (e:S),vs=[.ref ra]/\H ra=some (.dK (vG (yO ps e)))/\ps.length < 64 /\
 ∀ (l:Addr) (H':Hp),zB H H'->H l=none->H' l=some (.lst ((pot ps e).map sv))->Q (.ref l) H'
theorem zHR (n:Nat) (v:V):(List.replicate n [v]).flatten=List.replicate n v:=by
 induction n with
 | zero=>rfl
 | succ n ih=>rw [List.replicate_succ,List.flatten_cons,ih,List.replicate_succ]; rfl
theorem zNM {f:Addr}{fd:FuncData} (F:Fun K "pot_of" "pot_of" zDX f fd) (B:Blt mg):FnOk P w K mg base zY 1 f fd ["row"] zHQ:=by
 refine F.ok zHP (fun vs H Q E h=>?_) (fun cdv A outer s H vs Q E hr h=>?_)
 ·obtain ⟨ra,ps,e,rfl,_⟩:=h; rfl
 ·obtain ⟨ra,ps,e,rfl,hra,h64,k⟩:=h
  have hu:=gO hr
  have nd:=zHP.nd
  refine ⟨_,zG (z9 (i:=1) nd rfl (Or.inl rfl) (uV zC))
   (zG (jO PassesOwn.never rfl (j6 (yA (zLP rfl) (by rfl) B.sorted PyProof.Rows.boot_sorted (zA (pv 0) zC))) (yG (i:=2) nd rfl (Or.inl rfl))
    (zE (vD (jH PySem.F.plainAttrs_list PySem.F.slot_list_extend PySem.F.type_list_extend zKO (pv 1) (zA (zR zFM (uV (zA (pv 2) zC)) (zAc hu (pv 0) (pv 2) (fun _ _=>rfl))) zC)))))
   (zE (zP (pv 1)))),?_⟩
  refine ⟨by show 0<=sizeLine; decide,fun lo hlo=>?_⟩
  have s1:zB H (upd H lo (.lst [])):=zB.upd1 hlo
  have hrl:(yO ps e).length < 64:=by have:=zNI ps e; omega
  have ekeys:(((yO ps e).map fun p=>(tx p.1,V.int p.2)).map (·.1))=(nxD ps e).map tx:=by rw [List.map_map,List.map_map]; rfl
  have ndt:(((yO ps e).map fun p=>(tx p.1,V.int p.2)).map (·.1)).Nodup:=by
   rw [ekeys]
   exact List.Pairwise.map tx (fun a b hab z=>hab (qJ z)) (zAk _ _)
  refine ⟨_,rfl,ra,(yO ps e).map (fun p:S × Int=>(tx p.1,V.int p.2)),rfl,s1 _ _ hra,ndt,by rw [List.length_map]; exact hrl,fun out l hperm hsrt hl=>?_⟩
  rw [ekeys] at hperm
  have eout:out=(out.map fun x=>x.cps.toList).map tx:=(zMX out).symm
  have hm2:∀ x,x∈(out.map fun x=>x.cps.toList)↔(e,x)∈ps:=fun x=>by
   rw [<- zHO]
   constructor
   ·intro h
    obtain ⟨y,hy,rfl⟩:=List.mem_map.mp h
    obtain ⟨z,hz,e1⟩:=List.mem_map.mp (hperm.mem_iff.mp hy)
    rw [<- e1,vM]; exact hz
   ·intro h
    exact List.mem_map.mpr ⟨tx x,hperm.mem_iff.mpr (List.mem_map.mpr ⟨x,h,rfl⟩),vM x⟩
  have hos:(out.map fun x=>x.cps.toList)=vX ps e:=zNG (List.pairwise_map.mpr hsrt) hm2
  rw [hos] at eout
  subst eout
  have s2:zB (upd H lo (.lst [])) (upd (upd H lo (.lst [])) l (.lst (((vX ps e).map tx).map V.str))):=zB.upd1 hl
  have hllo:l≠lo:=fun z=>by rw [z,zI] at hl; cases hl
  have hl6:upd (upd H lo (.lst [])) l (.lst (((vX ps e).map tx).map V.str)) l=some (.lst (((vX ps e).map tx).map V.str)):=zI
  have hlo6:=s2 _ _ (zI (H:=H) (a:=lo) (o:=.lst []))
  have hra6:=s2 _ _ (s1 _ _ hra)
  have s12:=s1.trans s2
  generalize upd (upd H lo (.lst [])) l (.lst (((vX ps e).map tx).map V.str))=H6 at hl6 hlo6 hra6 s12
  refine ⟨l,rfl,⟨_,.of hl6⟩,?_⟩
  have hrlo:ra≠lo:=y7 hra hlo
  refine kZ (kD K l (((vX ps e).map tx).map V.str)) (fun i σ H'=>(∃ x2:Option V,σ=[some (.ref ra),some (.ref lo),x2])/\yY lo H6 H'/\H' lo=some (.lst ((((vX ps e).take i).flatMap fun l=>List.replicate (ps.count (e,l)) l).map sv)))
   ⟨⟨_,rfl⟩,yY.refl _,hlo6⟩ (fun i σ H' _ h=>.of (h.2.1 _ _ hllo hl6)) ?_ ?_
  ·rintro i x σ H' Nx hN hx ⟨⟨x2,rfl⟩,sx,hlo'⟩
   obtain ⟨y,hy,rfl⟩:=gU hx
   obtain ⟨c,hc,rfl⟩:=gU hy
   have hce:(e,c)∈ps:=(zAK ps e c).mp (List.mem_of_getElem? hc)
   have hra':=sx _ _ hrlo hra6
   have hcnt:ps.count (e,c) < 64:=Nat.lt_of_le_of_lt (List.count_le_length ..) h64
   refine ⟨_,rfl,.inl ⟨rfl,_,.of hlo'⟩,_,rfl,by show 1<=sizeLine; decide,fun l0 hl0=>?_⟩
   have t0:zB H' (upd H' l0 (.lst [V.str (tx c)])):=zB.upd1 hl0
   have dg:uB (upd H' l0 (.lst [V.str (tx c)])) ra (sv c) (some (.int (ps.count (e,c):Int))):=by
    have:=uB.k (k:=Sum.inr (tx c)) (t0 _ _ hra')
    unfold vG at this
    rw [k8,zBj,if_pos (List.count_pos_iff.mpr hce)] at this
    exact this
   refine ⟨_,rfl,_,rfl,ra,_,rfl,dg,l0,_,[V.str (tx c)],rfl,rfl,zI,by omega,by omega,by rw [sizeLine_eq]; show 1 * _<=_; omega,fun l1 hl1=>?_⟩
   have e0:(List.replicate ((ps.count (e,c):Int)).toNat [V.str (tx c)]).flatten=(List.replicate (ps.count (e,c)) c).map sv:=by
    rw [zHR,List.map_replicate]; rfl
   rw [e0]
   have t1:zB (upd H' l0 (.lst [V.str (tx c)])) (upd (upd H' l0 (.lst [V.str (tx c)])) l1 (.lst ((List.replicate (ps.count (e,c)) c).map sv))):=zB.upd1 hl1
   have t01:=t0.trans t1
   have hb:((((vX ps e).take i).flatMap fun l=>List.replicate (ps.count (e,l)) l).map sv).length+((List.replicate (ps.count (e,c)) c).map sv).length<=sizeLine:=by
    have hp:=gW ps e
    have h1:((vX ps e).take (i+1)).flatMap (fun l=>List.replicate (ps.count (e,l)) l)=((vX ps e).take i).flatMap (fun l=>List.replicate (ps.count (e,l)) l)++List.replicate (ps.count (e,c)) c:=by
     rw [jC hc,List.flatMap_append]; simp
    have h2:(((vX ps e).take (i+1)).flatMap fun l=>List.replicate (ps.count (e,l)) l).length<=(pot ps e).length:=by
     unfold pot
     conv=>rhs; rw [<- List.take_append_drop (i+1) (vX ps e),List.flatMap_append,List.length_append]
     omega
    rw [h1,List.length_append] at h2
    have h3:=tot_le ps e
    rw [List.length_map,List.length_map,sizeLine_eq]; omega
   refine ⟨lo,l1,_,_,rfl,rfl,t01 _ _ hlo',zI,hb,hN _ _ ⟨⟨_,rfl⟩,(sx.trans (yY.of t01)).updf,?_⟩⟩
   rw [zI,jC hc,List.flatMap_append,List.map_append]
   simp
  ·rintro σ H' ⟨⟨x2,rfl⟩,sx,hlo'⟩
   rw [List.length_map,List.length_map,List.take_length] at hlo'
   exact ⟨_,rfl,k lo H' (yY.same s12 hlo sx) hlo hlo'⟩
def gA (H:Hp) (d:Addr) (ps:List (S × S)):Prop:=∃ pa:List (S × Addr),H d=some (.dK (vN V.ref pa))/\(pa.map (·.1)).Nodup/\(∀ e,e∈pa.map (·.1)↔∃ l,(e,l)∈ps)/\∀ r∈pa,H r.2=some (.lst ((pot ps r.1).map sv))
theorem gA.same {H H':Hp}{d:Addr}{ps:List (S × S)} (h:gA H d ps) (s:zB H H'):gA H' d ps :=
 let ⟨pa,h1,h2,h3,h4⟩:=h; ⟨pa,s _ _ h1,h2,h3,fun r hr=>s _ _ (h4 r hr)⟩
theorem gA.get {H:Hp}{d:Addr}{ps:List (S × S)} (h:gA H d ps) {e:S} (he:∃ l,(e,l)∈ps):∃ a,uB H d (sv e) (some (.ref a))/\H a=some (.lst ((pot ps e).map sv)):=by
 obtain ⟨pa,h1,h2,h3,h4⟩:=h
 obtain ⟨r,hr,rfl⟩:=List.mem_map.mp ((h3 e).mpr he)
 refine ⟨r.2,?_,h4 r hr⟩
 have:=uB.k (k:=Sum.inr (tx r.1)) h1
 rw [k8,(uO h2 r.1 r.2).mp hr] at this
 exact this
abbrev zDY:Stmt:=top 62
theorem zNN:FnScope ["book", "order"] ["book", "order"] (defScope zDY):=⟨rfl,rfl,rfl,by decide +kernel,rfl,by decide +kernel,by decide +kernel⟩
theorem zHS:(["end", "row"]:List Str).Nodup:=by decide +kernel
def zBv:Sp:=fun vs H Q _=>∃ (a:Addr) (bk:List S) (o:Nat),vs=[.ref a,.int o]/\H a=some (.tup (zF bk))/\Bk bk o/\(zD o bk).length < 64 /\
 ∀ (d:Addr) (H':Hp),zB H H'->gA H' d (zD o bk)->Q (.ref d) H'
theorem zNO {f:Addr}{fd:FuncData} (F:Fun K "pots_by_end" "pots_by_end" zDY f fd) (hdi:mg "dict" = none) (cRows:zO P w K mg base 3 "counted_rows" ["book", "order"] zCy) (cPot:zO P w K mg base 1 "pot_of" ["row"] zHQ):FnOk P w K mg base zY 4 f fd ["book", "order"] zBv:=by
 refine F.ok zNN (fun vs H Q E h=>?_) (fun cdv A outer s H vs Q E hr h=>?_)
 ·obtain ⟨a,bk,o,rfl,_⟩:=h; rfl
 ·obtain ⟨a,bk,o,rfl,ha,hb,h64,k⟩:=h
  have r1:=hr.mono (j:=1) (by decide)
  refine ⟨_,zE (zP (zBG (zLa rfl) (by rfl) hdi PyProof.Rows.boot_dict (zA
    (qH (N:=["end", "row"]) (caps:=[]) rfl (uF (by kernel_rfl)) (zMv (zMZ K rfl PySem.F.plainAttrs_dict PySem.F.slot_dict_items PySem.F.type_dict_items zFo (zK cRows hr rfl (zA (pv 0) (zA (pv 1) zC)))))
     (fun cl X s H ex=>zAI K 2 rfl rfl (vQ (yG (i:=0) zHS rfl (Or.inl rfl)) (vQ (yG (i:=1) zHS rfl (Or.inl rfl)) jE)) rfl rfl) (fun cl X s H ex=>uN)
     (fun cl X s H ex=>uK (zA (pv 0) (zA (zK cPot r1 rfl (zA (pv 1) zC)) zC)))) zC))),?_⟩
  refine ⟨_,rfl,_,rfl,a,bk,o,rfl,ha,hb.hi,hb.l8,hb.o1,fun d H1 s1 hd R=>?_⟩
  obtain ⟨ra,q1,q2,q3⟩:=R
  refine ⟨.inr (.inr (.inl ⟨rfl,.inl ⟨_,q2⟩⟩)),d,_,rfl,rfl,q2,fun p hp=>?_⟩
  have s2:zB H1 (upd H1 p (VW p d)):=zB.upd1 hp
  refine ⟨p,d,_,rfl,zI,s2 _ _ q2,fun ob=>?_⟩
  generalize hkv:vN (fun v:Addr × List (S × Int)=>V.ref v.1) ra=kvs at q2
  have ral:ra.length < 64:=by
   have h1:=zNK (ps:=zD o bk)
   rw [<- q1,List.length_map] at h1; omega
  have hkl:kvs.length=ra.length:=by rw [<- hkv]; exact zCv _ _
  have rne:∀ r∈ra,r.2.1≠d:=fun r hr z=>by
   have h1:=q3 r hr
   rw [z,q2] at h1
   have h2:kvs=vG r.2.2:=HO.dK.inj (Option.some.inj h1)
   rw [<- hkv] at h2
   cases ra with
   | nil=>cases hr
   | cons r0 ra =>
    cases hr2:r.2.2 with
    | nil=>rw [hr2] at h2; cases h2
    | cons q qs =>
     rw [hr2] at h2
     have h3:=(Prod.mk.inj (List.cons.inj h2).1).2
     cases h3
  have knd0:(ra.map (·.1)).Nodup:=by
   have h:=(u9 (zD o bk)).nd
   rw [<- q1,List.map_map] at h
   exact h
  have s3:zB H (upd (upd H1 p (VW p d)) d (.frz ob (.dK kvs))):=fun b u e=>by
   rw [zU (y7 e hd)]; exact s2 _ _ (s1 _ _ e)
  have q3':∀ r∈ra,upd (upd H1 p (VW p d)) d (.frz ob (.dK kvs)) r.2.1=some (.dK (vG r.2.2)):=fun r hr=>by
   rw [zU (rne r hr)]; exact s2 _ _ (q3 r hr)
  have hd3:upd (upd H1 p (VW p d)) d (.frz ob (.dK kvs)) d=some (.frz ob (.dK kvs)):=zI
  generalize upd (upd H1 p (VW p d)) d (.frz ob (.dK kvs))=H3 at s3 q3' hd3
  refine zMw [] 2 (by omega) (fun i acc H'=>zB H3 H'/\∃ pa:List (S × Addr),pa.map (·.1)=(ra.take i).map (·.1)/\zCn K H' acc (pa.map fun r=>(tx r.1,V.ref r.2))/\∀ r∈pa,H' r.2=some (.lst ((pot (zD o bk) r.1).map sv)))
   ⟨zB.refl _,[],rfl,⟨rfl,fun i q h=>by simp at h⟩,fun r hr=>by cases hr⟩ (fun i acc H' hi h=>⟨h.1 _ _ hd3,?_⟩) ?_ ?_
  ·obtain ⟨_,pa,e1,e2,_⟩:=h
   have:=congrArg List.length e1
   rw [List.length_map,List.length_map,List.length_take] at this
   rw [e2.1,List.length_map]; omega
  ·rintro i q T acc H' ys Nx hN hq hy ⟨sm,pa,e1,e2,e3⟩ hT
   obtain ⟨y1,y2,rfl⟩:=k6 hy
   rw [<- hkv] at hq
   unfold vN q8 at hq
   obtain ⟨z,hz,rfl⟩:=gU hq
   obtain ⟨r0,hr0,rfl⟩:=gU hz
   have hmem:r0∈ra:=List.mem_of_getElem? hr0
   have t1:zB H' (upd H' T (.tup [sv r0.1,.ref r0.2.1])):=zB.upd1 hT
   refine ⟨T,[sv r0.1,.ref r0.2.1],rfl,.of zI,rfl,_,_,rfl,_,_,rfl,rfl,?_⟩
   have hrow:upd H' T (.tup [sv r0.1,.ref r0.2.1]) r0.2.1=some (.dK (vG (yO (zD o bk) r0.1))):=by
    rw [<- zNJ q1 hmem]; exact t1 _ _ (sm _ _ (q3' r0 hmem))
   refine ⟨_,rfl,_,rfl,r0.2.1,zD o bk,r0.1,rfl,hrow,h64,fun l H5 s5 hl hpl=>?_⟩
   refine ⟨by show 2<=sizeLine; decide,fun t ht=>hN _ _ [_,_] rfl ⟨(sm.trans (t1.trans s5)).trans (zB.upd1 ht),pa++[(r0.1,l)],?_,?_,?_⟩⟩
   ·rw [List.map_append,e1,jC hr0,List.map_append]; rfl
   ·have s6:zB H' (upd H5 t (.tup [sv r0.1,.ref l])):=(t1.trans s5).trans (zB.upd1 ht)
    refine ⟨by rw [List.length_append,e2.1,List.length_map,List.length_map,List.length_append]; rfl,fun j q hq=>?_⟩
    rw [List.map_append] at hq
    have hal:acc.length=pa.length:=by rw [e2.1,List.length_map]
    by_cases hj:j < pa.length
    ·rw [List.getElem?_append_left (by rw [List.length_map]; exact hj)] at hq
     obtain ⟨a',g1,g2⟩:=e2.2 j q hq
     exact ⟨a',by rw [List.getElem?_append_left (by omega)]; exact g1,s6.seqT g2⟩
    ·rw [List.getElem?_append_right (by rw [List.length_map]; omega),List.length_map] at hq
     have hj0:j - pa.length=0:=by
      have:=(List.getElem?_eq_some_iff.mp hq).1
      simp at this; omega
     rw [hj0] at hq
     have hq2:q=(tx r0.1,V.ref l):=(Option.some.inj hq).symm
     subst hq2
     refine ⟨t,?_,.of zI⟩
     rw [List.getElem?_append_right (by omega),hal,hj0]; rfl
   ·intro r hr
    have s6:zB H' (upd H5 t (.tup [sv r0.1,.ref l])):=(t1.trans s5).trans (zB.upd1 ht)
    rcases List.mem_append.mp hr with z | z
    ·exact s6 _ _ (e3 r z)
    ·have hr2:r=(r0.1,l):=List.mem_singleton.mp z
     subst hr2
     exact zB.upd1 ht _ _ hpl
  ·rintro acc H' ⟨sm,pa,e1,e2,e3⟩ D hD
   rw [hkl,List.take_length] at e1
   have sD:zB H' (upd H' D (.lst acc)):=zB.upd1 hD
   have ndk:((pa.map fun r=>(tx r.1,V.ref r.2)).map (·.1)).Nodup:=by
    rw [List.map_map]
    have:(pa.map ((fun x:Str × V=>x.1) ∘ fun r=>(tx r.1,V.ref r.2)))=(pa.map (·.1)).map tx:=by rw [List.map_map]; rfl
    rw [this,e1]
    exact List.Pairwise.map tx (fun a b hab z=>hab (qJ z)) knd0
   have hpl:pa.length=ra.length:=by have:=congrArg List.length e1; rwa [List.length_map,List.length_map] at this
   refine ⟨D,acc,_,rfl,.of zI,⟨e2.1,fun i q hq=>let ⟨a',g1,g2⟩:=e2.2 i q hq; ⟨a',g1,sD.seqT g2⟩⟩,ndk,by rw [List.length_map]; omega,fun dd hdd=>?_⟩
   have sF:zB (upd H' D (.lst acc)) (upd (upd H' D (.lst acc)) dd (.dK (q8 (pa.map fun r=>(tx r.1,V.ref r.2))))):=zB.upd1 hdd
   refine k dd _ (s3.trans (sm.trans (sD.trans sF))) ⟨pa,zI,by rw [e1]; exact knd0,fun e=>by rw [e1]; exact zNL q1 e,fun r hr=>sF _ _ (sD _ _ (e3 r hr))⟩
end
end Kn.Dr
end
section
namespace Kn
open PySem L2
mutual
def zW (H:Hp):PyData->V->Prop
 | .none,v=>v=.non
 | .bool b,v=>v=.bl b
 | .int i,v=>v=.int i
 | .str x,v=>v=.str x
 | .list ds,v=>∃ a xs,v=.ref a/\H a=some (.lst xs)/\Thgs H ds xs
 | .tuple ds,v=>∃ a xs,v=.ref a/\H a=some (.tup xs)/\Thgs H ds xs
 | .dict _,_=>False
def Thgs (H:Hp):List PyData->List V->Prop
 | [],xs=>xs=[]
 | d::ds,xs=>∃ y ys,xs=y::ys/\zW H d y/\Thgs H ds ys
end
mutual
theorem zW.same {H H':Hp} (e:zB H H'):∀ (d:PyData) (v:V),zW H d v->zW H' d v
 | .none,v,h=>h
 | .bool b,v,h=>h
 | .int i,v,h=>h
 | .str x,v,h=>h
 | .list ds,v,h=>by
  obtain ⟨a,xs,h1,h2,h3⟩:=h
  exact ⟨a,xs,h1,e _ _ h2,Thgs.same e ds xs h3⟩
 | .tuple ds,v,h=>by
  obtain ⟨a,xs,h1,h2,h3⟩:=h
  exact ⟨a,xs,h1,e _ _ h2,Thgs.same e ds xs h3⟩
 | .dict _,v,h=>h
theorem Thgs.same {H H':Hp} (e:zB H H'):∀ (ds:List PyData) (xs:List V),Thgs H ds xs->Thgs H' ds xs
 | [],xs,h=>h
 | d::ds,xs,h=>by
  obtain ⟨y,ys,h1,h2,h3⟩:=h
  exact ⟨y,ys,h1,zW.same e d y h2,Thgs.same e ds ys h3⟩
end
mutual
theorem zW.rep {K:PySem.W.Frag}{H:Hp}:∀ (d:PyData) (v:V),zW H d v->vF K H d v
 | .none,v,h=>h
 | .bool b,v,h=>h
 | .int i,v,h=>h
 | .str x,v,h=>h
 | .list ds,v,h=>by
  obtain ⟨a,xs,h1,h2,h3⟩:=h
  exact ⟨a,xs,h1,.of h2,Thgs.reps ds xs h3⟩
 | .tuple ds,v,h=>by
  obtain ⟨a,xs,h1,h2,h3⟩:=h
  exact ⟨a,xs,h1,.of h2,Thgs.reps ds xs h3⟩
 | .dict _,v,h=>h
theorem Thgs.reps {K:PySem.W.Frag}{H:Hp}:∀ (ds:List PyData) (xs:List V),Thgs H ds xs->Reps K H ds xs
 | [],xs,h=>h
 | d::ds,xs,h=>by
  obtain ⟨y,ys,h1,h2,h3⟩:=h
  exact ⟨y,ys,h1,zW.rep d y h2,Thgs.reps ds ys h3⟩
end
theorem Thgs.length {H:Hp}:∀ {ds:List PyData}{xs:List V},Thgs H ds xs->ds.length=xs.length
 | [],xs,h=>by rw [show xs=[] from h]; rfl
 | d::ds,xs,h=>by
  obtain ⟨y,ys,h1,_,h3⟩:=h
  rw [h1,List.length_cons,List.length_cons,Thgs.length h3]
theorem Thgs.get {H:Hp}:∀ {ds:List PyData}{xs:List V}{i:Nat}{y:V},Thgs H ds xs->xs[i]?=some y->∃ d,ds[i]?=some d/\zW H d y
 | [],xs,i,y,h,e=>by rw [show xs=[] from h] at e; simp at e
 | d::ds,xs,i,y,h,e=>by
  obtain ⟨z,zs,h1,h2,h3⟩:=h
  subst h1
  cases i with
  | zero =>
   have:z=y:=by simpa using e
   subst this
   exact ⟨d,rfl,h2⟩
  | succ i =>
   obtain ⟨d',e1,e2⟩:=Thgs.get (i:=i) h3 (by simpa using e)
   exact ⟨d',by simpa using e1,e2⟩
theorem Thgs.strs {H:Hp}:∀ (l:List S),Thgs H (l.map fun x=>PyData.str (tx x)) (l.map sv)
 | []=>rfl
 | x::l=>⟨_,_,rfl,rfl,Thgs.strs l⟩
mutual
def sml:PyData->Bool
 | .str x=>decide (x.length<=900) && x.cps.toList.all fun c=>decide (c < 128)
 | .list ds=>decide (ds.length<=900) && smls ds
 | .tuple ds=>decide (ds.length<=900) && smls ds
 | .dict _=>false
 | _=>true
def smls:List PyData->Bool
 | []=>true
 | d::ds=>sml d && smls ds
end
theorem zBw:∀ {ds:List PyData}{d:PyData},smls ds=true->d∈ds->sml d=true
 | e::ds,d,h,hm=>by
  have h':sml e=true/\smls ds=true:=by simpa [smls] using h
  rcases List.mem_cons.mp hm with z | z
  ·rw [z]; exact h'.1
  ·exact zBw h'.2 z
def gX (c:Nat):Bool:=decide (97<=c) && decide (c<=122)
def yM:PyData->Bool
 | .str x=>(decide (1<=x.length) && decide (x.length<=8)) && x.cps.toList.all gX
 | _=>false
def yU:PyData->Bool
 | .tuple ds=>(decide (1<=ds.length) && decide (ds.length<=8)) && ds.all yM
 | _=>false
def uC:PyData->Bool
 | .int i=>decide (1<=i) && decide (i<=3)
 | _=>false
theorem zAp {d:PyData} (h:yM d=true):∃ x:S,d=.str (tx x)/\yK x:=by
 cases d with
 | str x =>
  simp only [yM,Bool.and_eq_true,decide_eq_true_eq,List.all_eq_true,gX] at h
  refine ⟨x.cps.toList,by rw [zBk],?_,?_,h.2⟩
  ·have:=h.1.1; simpa [Str.length] using this
  ·have:=h.1.2; simpa [Str.length] using this
 | none=>cases h
 | bool b=>cases h
 | int i=>cases h
 | list ds=>cases h
 | tuple ds=>cases h
 | dict _=>cases h
theorem zAq {x:S} (h:yK x):yM (.str (tx x))=true:=by
 simp only [yM,Bool.and_eq_true,decide_eq_true_eq,List.all_eq_true,gX,yJ,vM]
 exact ⟨⟨h.1,h.2.1⟩,h.2.2⟩
theorem zNP {d:PyData} (h:yU d=true):∃ bk:List S,d=.tuple (bk.map fun x=>PyData.str (tx x))/\isBk bk:=by
 cases d with
 | tuple ds =>
  simp only [yU,Bool.and_eq_true,decide_eq_true_eq,List.all_eq_true] at h
  obtain ⟨⟨h1,h2⟩,h3⟩:=h
  have go:∀ ds:List PyData,(∀ d∈ds,yM d=true)->∃ bk:List S,ds=bk.map (fun x=>PyData.str (tx x))/\∀ x∈bk,yK x:=by
   intro ds
   induction ds with
   | nil=>intro _; exact ⟨[],rfl,by simp⟩
   | cons d ds ih =>
    intro hd
    obtain ⟨x,rfl,hx⟩:=zAp (hd d (List.mem_cons_self ..))
    obtain ⟨bk,rfl,hb⟩:=ih fun e he=>hd e (List.mem_cons_of_mem _ he)
    refine ⟨x::bk,rfl,fun y hy=>?_⟩
    rcases List.mem_cons.mp hy with z | z
    ·rw [z]; exact hx
    ·exact hb y z
  obtain ⟨bk,rfl,hb⟩:=go ds h3
  rw [List.length_map] at h1 h2
  exact ⟨bk,rfl,h1,h2,hb⟩
 | none=>cases h
 | bool b=>cases h
 | int i=>cases h
 | list ds=>cases h
 | str x=>cases h
 | dict _=>cases h
theorem zAr {bk:List S} (h:isBk bk):yU (.tuple (bk.map fun x=>PyData.str (tx x)))=true:=by
 simp only [yU,Bool.and_eq_true,decide_eq_true_eq,List.all_eq_true,List.length_map]
 refine ⟨⟨h.lo,h.hi⟩,fun d hd=>?_⟩
 obtain ⟨x,hx,rfl⟩:=List.mem_map.mp hd
 exact zAq (h.nm x hx)
theorem Thgs.strs_inv {H:Hp}:∀ {l:List S}{xs:List V},Thgs H (l.map fun x=>PyData.str (tx x)) xs->xs=l.map sv
 | [],xs,h=>h
 | x::l,xs,h=>by
  obtain ⟨y,ys,h1,h2,h3⟩:=h
  have h2':y=sv x:=h2
  rw [h1,h2',Thgs.strs_inv h3]; rfl
theorem zBx {H:Hp}{d:PyData}{v:V} (h:zW H d v) (hb:yU d=true):∃ (a:Addr) (bk:List S),v=.ref a/\H a=some (.tup (zF bk))/\isBk bk/\d=.tuple (bk.map fun x=>PyData.str (tx x)):=by
 obtain ⟨bk,rfl,hk⟩:=zNP hb
 obtain ⟨a,xs,rfl,h1,h2⟩:=h
 rw [Thgs.strs_inv h2] at h1
 exact ⟨a,bk,rfl,h1,hk,rfl⟩
theorem zDZ {H:Hp}{d:PyData}{v:V} (h:zW H d v) (hb:uC d=true):∃ o:Nat,v=.int o/\1<=o/\o<=3:=by
 cases d with
 | int i =>
  simp only [uC,Bool.and_eq_true,decide_eq_true_eq] at hb
  refine ⟨i.toNat,?_,by omega,by omega⟩
  rw [show v=.int i from h]
  congr 1
  omega
 | none=>cases hb
 | bool b=>cases hb
 | list ds=>cases hb
 | tuple ds=>cases hb
 | str x=>cases hb
 | dict _=>cases hb
theorem zHT {H:Hp}{d:PyData}{v:V} (h:zW H d v) (hb:yM d=true):∃ x:S,v=sv x/\yK x/\d=.str (tx x):=by
 obtain ⟨x,rfl,hx⟩:=zAp hb
 exact ⟨x,h,hx,rfl⟩
structure KitF (K:PySem.W.Frag):Prop where
 ns:PySem.W.kitOne K (.type "NoneType") (.type "str")=some false
 bs:PySem.W.kitOne K (.type "bool") (.type "str")=some false
 is:PySem.W.kitOne K (.type "int") (.type "str")=some false
 ls:PySem.W.kitOne K (.type "list") (.type "str")=some false
 ts:PySem.W.kitOne K (.type "tuple") (.type "str")=some false
 nt:PySem.W.kitOne K (.type "NoneType") (.type "tuple")=some false
 bt:PySem.W.kitOne K (.type "bool") (.type "tuple")=some false
 it:PySem.W.kitOne K (.type "int") (.type "tuple")=some false
 lt:PySem.W.kitOne K (.type "list") (.type "tuple")=some false
 st:PySem.W.kitOne K (.type "str") (.type "tuple")=some false
 ni:PySem.W.kitOne K (.type "NoneType") (.type "int")=some false
 bi:PySem.W.kitOne K (.type "bool") (.type "int")=some true
 li:PySem.W.kitOne K (.type "list") (.type "int")=some false
 ti:PySem.W.kitOne K (.type "tuple") (.type "int")=some false
 si:PySem.W.kitOne K (.type "str") (.type "int")=some false
theorem zNQ {c:Nat} (h:c < 128):(Builtin.Str.occurrences letters ⟨#[c]⟩ 0 letters.length 1).isEmpty=!gX c:=by
 have all:∀ d:_root_.Fin 128,(Builtin.Str.occurrences letters ⟨#[d.val]⟩ 0 letters.length 1).isEmpty=!gX d.val:=by decide +kernel
 exact all ⟨c,h⟩
section
variable {P:Program}{w:World}{K:PySem.W.Frag}{mg:Str->Option Value}{base:Heap}
theorem zNR (KF:KitF K) {H:Hp}:∀ {d:PyData}{v:V},zW H d v->∃ t b,TyOf K H v t/\PySem.W.kitOne K t (.type "str")=some b/\(b=true↔∃ x,d=.str x)
 | .none,v,h=>by cases (show v=.non from h); exact ⟨_,_,.non,KF.ns,by simp⟩
 | .bool b,v,h=>by cases (show v=.bl b from h); exact ⟨_,_,.bl _,KF.bs,by simp⟩
 | .int i,v,h=>by cases (show v=.int i from h); exact ⟨_,_,.int _,KF.is,by simp⟩
 | .str x,v,h=>by cases (show v=.str x from h); exact ⟨_,true,.str _,rfl,by simp⟩
 | .list ds,v,h=>by obtain ⟨a,xs,rfl,h1,_⟩:=h; exact ⟨_,_,.lst h1,KF.ls,by simp⟩
 | .tuple ds,v,h=>by obtain ⟨a,xs,rfl,h1,_⟩:=h; exact ⟨_,_,.tup h1,KF.ts,by simp⟩
 | .dict _,v,h=>h.elim
theorem zDa (KF:KitF K) {H:Hp}:∀ {d:PyData}{v:V},zW H d v->∃ t b,TyOf K H v t/\PySem.W.kitOne K t (.type "tuple")=some b/\(b=true↔∃ ds,d=.tuple ds)
 | .none,v,h=>by cases (show v=.non from h); exact ⟨_,_,.non,KF.nt,by simp⟩
 | .bool b,v,h=>by cases (show v=.bl b from h); exact ⟨_,_,.bl _,KF.bt,by simp⟩
 | .int i,v,h=>by cases (show v=.int i from h); exact ⟨_,_,.int _,KF.it,by simp⟩
 | .str x,v,h=>by cases (show v=.str x from h); exact ⟨_,_,.str _,KF.st,by simp⟩
 | .list ds,v,h=>by obtain ⟨a,xs,rfl,h1,_⟩:=h; exact ⟨_,_,.lst h1,KF.lt,by simp⟩
 | .tuple ds,v,h=>by obtain ⟨a,xs,rfl,h1,_⟩:=h; exact ⟨_,true,.tup h1,rfl,by simp⟩
 | .dict _,v,h=>h.elim
def zAL:Sp:=fun vs H Q _=>∃ v d,vs=[v]/\zW H d v/\sml d=true/\∀ H',zB H H'->Q (.bl (yM d)) H'
theorem zNS {f:Addr}{fd:FuncData} (F:Fun K "is_name" "is_name" zBX f fd) (B:Blt mg) (C:Cst K mg) (KF:KitF K):FnOk P w K mg base zY 1 f fd ["thing"] zAL:=by
 obtain ⟨tl,hl⟩:=C.letters
 obtain ⟨t8,h8⟩:=C.ml
 refine F.ok zGQ (fun vs H Q E h=>?_) (fun cdv A outer s H vs Q E hr h=>?_)
 ·obtain ⟨v,d,rfl,_⟩:=h; rfl
 ·obtain ⟨v,d,rfl,hv,hs,k⟩:=h
  refine ⟨_,zG (yI (PW.pt (uJ (yS (yV (yA jI (by rfl) B.isinstance PyProof.Rows.boot_isinstance (zA (pv 0) (zA (qR (v:=.ty "str") (by rfl) B.str PyProof.Rows.boot_str rfl) zC)))))
    (uS (yS (zAT uT uT zH (yA jG (by rfl) B.len PySem.boot_len (zA (pv 0) zC)) (yR (v:=.int 8) (by rfl) h8 ⟨_,rfl⟩))))))
    (zE (zP vJ)) yH)
   (zE (zP (yA (gP rfl) (by rfl) B.all PyProof.Rows.boot_all (zA (qH (N:=["letter"]) (caps:=[]) rfl (uF (by kernel_rfl)) (zFq (pv 0))
    (fun cl C s H ex=>yG (i:=0) nd1 rfl (Or.inl rfl)) (fun cl C s H ex=>uN)
    (fun cl C s H ex=>qZ zEk (pv 0) (yR (v:=.str letters) (by rfl) hl ⟨_,rfl⟩) (by with_unfolding_all rfl))) zC)))),?_⟩
  obtain ⟨t,b,hty,hkit,hb⟩:=zNR KF hv
  refine ⟨_,rfl,_,_,t,b,rfl,hty,hkit,b,rfl,?_⟩
  cases b with
  | false =>
   have hd:yM d=false:=by
    cases d with
    | str x=>exact absurd (hb.mpr ⟨x,rfl⟩) (by decide)
    | _=>rfl
   rw [hd] at k
   exact yB (yB (k H (zB.refl H)))
  | true =>
   obtain ⟨x,rfl⟩:=hb.mp rfl
   have hv':v=.str x:=hv
   subst hv'
   have hsx:x.length<=900/\∀ c∈x.cps.toList,c < 128:=by
    simp only [sml,Bool.and_eq_true,decide_eq_true_eq,List.all_eq_true] at hs
    exact hs
   refine z4 ?_
   refine ⟨_,rfl,x,rfl,(by rw [sizeLine_eq]; omega),_,_,rfl,rfl,_,rfl,?_⟩
   by_cases h1:1<=x.length
   ·refine uZ (by omega) ⟨_,_,rfl,rfl,_,rfl,?_⟩
    by_cases h2:x.length<=8
    ·refine uM (by omega) ?_
     refine ⟨_,rfl,_,rfl,?_⟩
     have hxl:x.cps.toList.length=x.length:=by simp [Str.length]
     refine uY (zFt x) [] 1 (by rw [List.length_map]; omega) (fun i acc H'=>zB H H'/\acc=((x.cps.toList.take i).map gX).map V.bl) ⟨zB.refl H,rfl⟩ (fun i acc H' _ h=>⟨trivial,by rw [h.2,List.length_map,List.length_map,List.length_take]; omega⟩) ?_ ?_
     ·rintro i y acc H' ys Nx hN hx hy ⟨sm,rfl⟩
      obtain ⟨y',rfl⟩:=qI hy
      rw [List.getElem?_map] at hx
      cases e:x.cps.toList[i]? with
      | none=>rw [e] at hx; cases hx
      | some c =>
       rw [e] at hx
       have hy2:y=.str ⟨#[c]⟩:=(Option.some.inj hx).symm
       subst hy2
       have hi:i < x.cps.toList.length:=(List.getElem?_eq_some_iff.mp e).1
       refine ⟨_,rfl,_,_,rfl,rfl,?_⟩
       rw [zNQ (hsx.2 c (List.mem_of_getElem? e)),Bool.not_not]
       refine hN _ _ [some (.str ⟨#[c]⟩)] rfl ⟨sm,?_⟩
       rw [List.take_succ_eq_append_getElem hi,(List.getElem?_eq_some_iff.mp e).2,List.map_append,List.map_append]; rfl
     ·rintro acc H' ⟨sm,rfl⟩ D hD
      rw [List.length_map,List.take_length]
      refine ⟨D,_,rfl,.of zI,?_⟩
      have e2:((x.cps.toList.map gX).all id)=yM (.str x):=by
       simp only [yM,decide_eq_true h1,decide_eq_true h2,Bool.and_self,Bool.true_and,List.all_map]
       rfl
      rw [e2]
      exact k _ (sm.upd_new (sm.free hD))
    ·have hd:yM (.str x)=false:=by simp [yM,h2]
     rw [hd] at k
     refine k9 (fun z=>h2 (by omega)) (k H (zB.refl H))
   ·have hd:yM (.str x)=false:=by simp [yM,h1]
    rw [hd] at k
    refine jA (fun z=>h1 (by omega)) ?_
    exact ⟨false,rfl,yB (k H (zB.refl H))⟩
def zHU:Sp:=fun vs H Q _=>∃ v d,vs=[v]/\zW H d v/\sml d=true/\∀ H',zB H H'->Q (.bl (yU d)) H'
theorem zNT {f:Addr}{fd:FuncData} (F:Fun K "is_book" "is_book" zBY f fd) (B:Blt mg) (C:Cst K mg) (KF:KitF K) (cName:zO P w K mg base 1 "is_name" ["thing"] zAL):FnOk P w K mg base zY 2 f fd ["thing"] zHU:=by
 obtain ⟨t8,h8⟩:=C.mn
 refine F.ok zGS (fun vs H Q E h=>?_) (fun cdv A outer s H vs Q E hr h=>?_)
 ·obtain ⟨v,d,rfl,_⟩:=h; rfl
 ·obtain ⟨v,d,rfl,hv,hs,k⟩:=h
  refine ⟨_,zG (yI (PW.pt (uJ (yS (yV (yA jI (by rfl) B.isinstance PyProof.Rows.boot_isinstance (zA (pv 0) (zA (qR (v:=.ty "tuple") (by rfl) B.tuple PyProof.Rows.boot_tuple rfl) zC)))))
    (uS (yS (zAT uT uT zH (yA jR (by rfl) B.len PySem.boot_len (zA (pv 0) zC)) (yR (v:=.int 8) (by rfl) h8 ⟨_,rfl⟩))))))
    (zE (zP vJ)) yH)
   (zE (zP (yA (gP rfl) (by rfl) B.all PyProof.Rows.boot_all (zA (qH (N:=["name"]) (caps:=[]) rfl (uF (by kernel_rfl)) (gH (pv 0))
    (fun cl C s H ex=>yG (i:=0) nd2 rfl (Or.inl rfl)) (fun cl C s H ex=>uN)
    (fun cl C s H ex=>zK cName hr rfl (zA (pv 0) zC))) zC)))),?_⟩
  obtain ⟨t,b,hty,hkit,hb⟩:=zDa KF hv
  refine ⟨_,rfl,_,_,t,b,rfl,hty,hkit,b,rfl,?_⟩
  cases b with
  | false =>
   have hd:yU d=false:=by
    cases d with
    | tuple x=>exact absurd (hb.mpr ⟨x,rfl⟩) (by decide)
    | _=>rfl
   rw [hd] at k
   exact yB (yB (k H (zB.refl H)))
  | true =>
   obtain ⟨ds,rfl⟩:=hb.mp rfl
   obtain ⟨a,xs,rfl,ha,hxs⟩:=hv
   have hsx:ds.length<=900/\smls ds=true:=by
    simp only [sml,Bool.and_eq_true,decide_eq_true_eq] at hs
    exact hs
   have hxl:xs.length=ds.length:=hxs.length.symm
   refine z4 ?_
   refine ⟨_,rfl,_,_,rfl,.inr (.of ha),_,_,rfl,rfl,_,rfl,?_⟩
   by_cases h1:1<=ds.length
   ·refine uZ (by rw [hxl]; omega) ⟨_,_,rfl,rfl,_,rfl,?_⟩
    by_cases h2:ds.length<=8
    ·refine uM (by rw [hxl]; omega) ?_
     refine ⟨_,rfl,a,rfl,⟨_,.of ha⟩,?_⟩
     refine uY (gQ _ a xs) [] 1 (by omega) (fun i acc H'=>zB H H'/\acc=((ds.take i).map yM).map V.bl) ⟨zB.refl H,rfl⟩ (fun i acc H' _ h=>⟨.of (h.1 _ _ ha),by rw [h.2,List.length_map,List.length_map,List.length_take]; omega⟩) ?_ ?_
     ·rintro i y acc H' ys Nx hN hx hy ⟨sm,rfl⟩
      obtain ⟨y',rfl⟩:=qI hy
      obtain ⟨e,he,hye⟩:=hxs.get hx
      have hi:i < ds.length:=(List.getElem?_eq_some_iff.mp he).1
      refine ⟨_,rfl,y,e,rfl,zW.same sm _ _ hye,zBw hsx.2 (List.mem_of_getElem? he),fun H5 sm5=>hN _ _ [some y] rfl ⟨sm.trans sm5,?_⟩⟩
      rw [List.take_succ_eq_append_getElem hi,(List.getElem?_eq_some_iff.mp he).2,List.map_append,List.map_append]; rfl
     ·rintro acc H' ⟨sm,rfl⟩ D hD
      rw [hxl,List.take_length]
      refine ⟨D,_,rfl,.of zI,?_⟩
      have e2:((ds.map yM).all id)=yU (.tuple ds):=by
       simp only [yU,decide_eq_true h1,decide_eq_true h2,Bool.and_self,Bool.true_and,List.all_map]
       rfl
      rw [e2]
      exact k _ (sm.upd_new (sm.free hD))
    ·have hd:yU (.tuple ds)=false:=by simp [yU,h2]
     rw [hd] at k
     refine k9 (fun z=>h2 (by rw [hxl] at z; omega)) (k H (zB.refl H))
   ·have hd:yU (.tuple ds)=false:=by simp [yU,h1]
    rw [hd] at k
    refine jA (fun z=>h1 (by rw [hxl] at z; omega)) ?_
    exact ⟨false,rfl,yB (k H (zB.refl H))⟩
def vE (a b:Int):PyData->Bool
 | .int i=>decide (a<=i) && decide (i<=b)
 | _=>false
theorem zNU (d:PyData):uC d=vE 1 3 d:=by
 cases d <;> rfl
def zBy:Sp:=fun vs H Q _=>∃ v d a b,vs=[v,.int a,.int b]/\zW H d v/\Q (.bl (vE a b d)) H
theorem zNV {f:Addr}{fd:FuncData} (F:Fun K "is_whole" "is_whole" zBZ f fd) (B:Blt mg) (C:Cst K mg) (KF:KitF K):FnOk P w K mg base zY 1 f fd ["thing", "least", "most"] zBy:=by
 refine F.ok zGU (fun vs H Q E h=>?_) (fun cdv A outer s H vs Q E hr h=>?_)
 ·obtain ⟨v,d,a,b,rfl,_⟩:=h; rfl
 ·obtain ⟨v,d,a,b,rfl,hv,k⟩:=h
  refine ⟨_,zG (yI (PW.pt (uJ (yS (yV (yA jI (by rfl) B.isinstance PyProof.Rows.boot_isinstance (zA (pv 0) (zA (qR (v:=.ty "int") (by rfl) B.int PyProof.Rows.boot_int rfl) zC)))))
    (uS (yV (yA jI (by rfl) B.isinstance PyProof.Rows.boot_isinstance (zA (pv 0) (zA (qR (v:=.ty "bool") (by rfl) B.bool PyProof.Rows.boot_bool rfl) zC)))))))
    (zE (zP vJ)) yH)
   (zE (zP (zEn uT uT (pv 1) (pv 0) (pv 2)))),?_⟩
  cases d with
  | none=>cases (show v=.non from hv); exact ⟨_,rfl,_,_,_,false,rfl,.non,KF.ni,_,rfl,yB (yB k)⟩
  | str x=>cases (show v=.str x from hv); exact ⟨_,rfl,_,_,_,false,rfl,.str _,KF.si,_,rfl,yB (yB k)⟩
  | list ds=>obtain ⟨a,xs,rfl,h1,_⟩:=hv; exact ⟨_,rfl,_,_,_,false,rfl,.lst h1,KF.li,_,rfl,yB (yB k)⟩
  | tuple ds=>obtain ⟨a,xs,rfl,h1,_⟩:=hv; exact ⟨_,rfl,_,_,_,false,rfl,.tup h1,KF.ti,_,rfl,yB (yB k)⟩
  | dict _=>exact hv.elim
  | bool b =>
   cases (show v=.bl b from hv)
   exact ⟨_,rfl,_,_,_,true,rfl,.bl _,KF.bi,_,rfl,z4 ⟨_,rfl,_,_,_,true,rfl,.bl _,(by rfl),_,rfl,yB k⟩⟩
  | int i =>
   cases (show v=.int i from hv)
   refine ⟨_,rfl,_,_,_,true,rfl,.int _,(by rfl),_,rfl,?_⟩
   refine z4 ?_
   refine ⟨_,rfl,_,_,_,false,rfl,.int _,C.ib,_,rfl,?_⟩
   refine z4 ?_
   refine ⟨_,rfl,_,rfl,_,_,rfl,rfl,_,rfl,?_⟩
   by_cases h1:a<=i
   ·refine uZ h1 ⟨_,rfl,_,_,rfl,rfl,?_⟩
    have e:vE a b (.int i)=decide (i<=b):=by simp [vE,h1]
    rw [e] at k
    exact k
   ·have e:vE a b (.int i)=false:=by simp [vE,h1]
    rw [e] at k
    exact jA h1 k
def zHV:Sp:=fun vs H Q _=>∃ v d,vs=[v]/\zW H d v/\Q (.bl (uC d)) H
theorem zNW {f:Addr}{fd:FuncData} (F:Fun K "is_order" "is_order" zBa f fd) (C:Cst K mg) (cW:zO P w K mg base 1 "is_whole" ["thing", "least", "most"] zBy):FnOk P w K mg base zY 2 f fd ["thing"] zHV:=by
 obtain ⟨t3,h3⟩:=C.mo
 refine F.ok zGW (fun vs H Q E h=>?_) (fun cdv A outer s H vs Q E hr h=>?_)
 ·obtain ⟨v,d,rfl,_⟩:=h; rfl
 ·obtain ⟨v,d,rfl,hv,k⟩:=h
  refine ⟨_,zE (zP (zK cW hr rfl (zA (pv 0) (zA zH (zA (yR (v:=.int 3) (by rfl) h3 ⟨_,rfl⟩) zC))))),?_⟩
  rw [zNU] at k
  exact ⟨_,rfl,v,d,1,3,rfl,hv,k⟩
def qA (C:Addr) (ok:PyData->Bool):Sp:=fun vs H Q E=>∃ v d,vs=[v]/\zW H d v/\sml d=true/\(ok d=true->∀ H',zB H H'->Q .non H')/\(ok d=false->∀ H',zB H H'->E (.ref C) none H')
theorem zNX {f:Addr}{fd:FuncData}{C:Addr} (F:Fun K "need_book" "need_book" zBb f fd) (O:XCls K mg "NoBook" C) (c1:zO P w K mg base 2 "is_book" ["thing"] zHU):FnOk P w K mg base (vW P w) 3 f fd ["thing"] (qA C yU):=by
 refine F.okR zGY (fun vs H Q E h=>?_) (fun cdv A outer s H vs Q E hr h ok=>?_)
 ·obtain ⟨v,d,rfl,_⟩:=h; rfl
 ·obtain ⟨v,d,rfl,hv,hs,k1,k2⟩:=h
  refine ⟨_,zE (yI (yS (yV (zK c1 hr rfl (zA (pv 0) zC)))) (zE (gT ok rfl O (by rfl) (zA yZ zC))) yH),?_⟩
  refine ⟨_,rfl,v,d,rfl,hv,hs,fun H' sm=>⟨_,rfl,?_⟩⟩
  cases e:yU d with
  | true=>exact z4 (k1 e H' sm)
  | false=>exact yB ⟨by show 1<=sizeLine; decide,k2 e H' sm⟩
theorem zNY {f:Addr}{fd:FuncData}{C:Addr} (F:Fun K "need_order" "need_order" zBc f fd) (O:XCls K mg "NoOrder" C) (c1:zO P w K mg base 2 "is_order" ["thing"] zHV):FnOk P w K mg base (vW P w) 3 f fd ["thing"] (qA C uC):=by
 refine F.okR zGa (fun vs H Q E h=>?_) (fun cdv A outer s H vs Q E hr h ok=>?_)
 ·obtain ⟨v,d,rfl,_⟩:=h; rfl
 ·obtain ⟨v,d,rfl,hv,hs,k1,k2⟩:=h
  refine ⟨_,zE (yI (yS (yV (zK c1 hr rfl (zA (pv 0) zC)))) (zE (gT ok rfl O (by rfl) (zA yZ zC))) yH),?_⟩
  refine ⟨_,rfl,v,d,rfl,hv,_,rfl,?_⟩
  cases e:uC d with
  | true=>exact z4 (k1 e H (zB.refl H))
  | false=>exact yB ⟨by show 1<=sizeLine; decide,k2 e H (zB.refl H)⟩
theorem zNZ {f:Addr}{fd:FuncData}{C:Addr} (F:Fun K "need_name" "need_name" zBd f fd) (O:XCls K mg "NoName" C) (c1:zO P w K mg base 1 "is_name" ["thing"] zAL):FnOk P w K mg base (vW P w) 2 f fd ["thing"] (qA C yM):=by
 refine F.okR zGb (fun vs H Q E h=>?_) (fun cdv A outer s H vs Q E hr h ok=>?_)
 ·obtain ⟨v,d,rfl,_⟩:=h; rfl
 ·obtain ⟨v,d,rfl,hv,hs,k1,k2⟩:=h
  refine ⟨_,zE (yI (yS (yV (zK c1 hr rfl (zA (pv 0) zC)))) (zE (gT ok rfl O (by rfl) (zA yZ zC))) yH),?_⟩
  refine ⟨_,rfl,v,d,rfl,hv,hs,fun H' sm=>⟨_,rfl,?_⟩⟩
  cases e:yM d with
  | true=>exact z4 (k1 e H' sm)
  | false=>exact yB ⟨by show 1<=sizeLine; decide,k2 e H' sm⟩
end
end Kn
end
section
namespace Kn
open PySem L2
section
variable {P:Program}{w:World}{K:PySem.W.Frag}{mg:Str->Option Value}{base:Heap}
end
end Kn
end
section
namespace L2
open PySem PySem.Spec PyProof.Rows
section
variable {prog:Program}{w:World}{A:Around}{E:Value->Shared->Prop}{s:Shared}
theorem zNa {it t:Addr}{i:Nat}{items}{x:Value}{Q:Value->Shared->Prop} (hit:s.heap.IsTupleIter it t i) (ht:s.heap.IsTuple t items) (hx:items[i]?=some x)
  (hQ:∀ h',h'.IsTupleIter it t (i+1)->Heap.SameBut it s.heap h'->Q x { s with heap:=h' }):wpAny (model prog w) A (Builtin.SmallTypes.nextOf (.ref it)) Q E s:=by
 obtain ⟨o,ho,hc,hd⟩:=id hit
 obtain ⟨ol,hol,_,nl,hdl⟩:=ht
 unfold Builtin.SmallTypes.nextOf
 refine wpAny_bind (wpAny_callSpecial?_slot (name:=Str.ofString "__next__") hit.typeIs F.slot_tuple_iterator_next (wpAny_call_entry F.slot_tuple_iterator_next hit.typeIs F.entry_tuple_iterator_next ?_ (F.args_tuple_iterator_next_1 _)))
 show wpAny _ _ (field (.ref it) 0 >>= _) _ _ s
 refine wpAny_bind (wpAny_field ho hd (x:=.ref t) rfl ?_)
 show wpAny _ _ (if (Value.ref t == Value.none)=true then _ else _) _ _ s
 rw [if_neg (show ¬ ((Value.ref t == Value.none)=true) from Bool.false_ne_true)]
 show wpAny _ _ (field (.ref it) 1 >>= _) _ _ s
 refine wpAny_bind (wpAny_field ho hd (x:=.int i 0) rfl ?_)
 show wpAny _ _ (seqItems? (.ref t) >>= _) _ _ s
 refine wpAny_bind (wpAny_seqItems hol hdl ?_)
 simp only [Int.toNat_natCast,hx]
 refine wpAny_bind (wpAny_setField ho hd (by simp) (wpAny_pure ⟨x,rfl,wpAny_pure (hQ _ ?_ (Heap.SameBut.update ..))⟩))
 exact ⟨_,Heap.get?_update_self _ ho (Obj.isFreed_of_fields (Obj.data_mapFields hd _)),(Obj.cls_mapFields ..).trans hc,by rw [Obj.data_mapFields hd]; simp [rawInt]⟩
theorem zNb {it t:Addr}{i:Nat}{items}{Q:Value->Shared->Prop} (hh:A.handled=none) (hit:s.heap.IsTupleIter it t i) (ht:s.heap.IsTuple t items) (hx:items[i]?=none)
  (hE:∀ h' e,Heap.ExtBut it s.heap h'->(∃ o,h'.get? e=some o/\o.cls=.type "StopIteration")->E (.ref e) { s with heap:=h' }):wpAny (model prog w) A (Builtin.SmallTypes.nextOf (.ref it)) Q E s:=by
 obtain ⟨o,ho,hc,hd⟩:=id hit
 obtain ⟨ol,hol,_,nl,hdl⟩:=ht
 unfold Builtin.SmallTypes.nextOf
 refine wpAny_bind (wpAny_callSpecial?_slot (name:=Str.ofString "__next__") hit.typeIs F.slot_tuple_iterator_next (wpAny_call_entry F.slot_tuple_iterator_next hit.typeIs F.entry_tuple_iterator_next ?_ (F.args_tuple_iterator_next_1 _)))
 show wpAny _ _ (field (.ref it) 0 >>= _) _ _ s
 refine wpAny_bind (wpAny_field ho hd (x:=.ref t) rfl ?_)
 show wpAny _ _ (if (Value.ref t == Value.none)=true then _ else _) _ _ s
 rw [if_neg (show ¬ ((Value.ref t == Value.none)=true) from Bool.false_ne_true)]
 show wpAny _ _ (field (.ref it) 1 >>= _) _ _ s
 refine wpAny_bind (wpAny_field ho hd (x:=.int i 0) rfl ?_)
 show wpAny _ _ (seqItems? (.ref t) >>= _) _ _ s
 refine wpAny_bind (wpAny_seqItems hol hdl ?_)
 simp only [Int.toNat_natCast,hx]
 refine wpAny_bind (wpAny_rule (wpAny_bind (wpAny_setField ho hd (by simp) ?_)))
 show wpAny _ _ (newExc (.type "StopIteration") [] >>= _) _ _ _
 refine wpAny_bind ?_
 simp only [newExc,newTuple]
 refine wpAny_bind (wpAny_newObj_type ?_ (by size_fits))
 refine wpAny_bind (m:=firstArgMember _ _) (wpAny_of_eq (a:=Value.none) (by first | rfl | (simp only [firstArgMember]; rfl)) ?_)
 refine wpAny_newObj_type ?_ (by size_fits)
 simp only [raiseNew]
 refine wpAny_bind (wpAny_handled ?_)
 first | rw [show A.in1.handled=none from hh] | rw [hh]
 refine wpAny_bind (wpAny_pure (wpAny_throw ?_))
 exact hE _ _ (((Heap.SameBut.update ..).extBut.push _).push _) ⟨_,Heap.get?_push_size _ rfl,rfl⟩
end
theorem zDb {prog:Program}{w:World}{A:Around} (hh:A.handled=none) (it l:Addr) (hne:l≠it) (items:Array Value) :
  Draws prog w A it [it,l] items.size (fun i v=>items[i]?=some v) (fun i h=>h.IsTupleIter it l i/\h.IsTuple l items) where
 live:=fun _ _ st=>let ⟨o,ho,_⟩:=st.1; ⟨o,ho⟩
 frame:=fun _ _ _ st hk=>⟨st.1.at fun o e=>hk it (by simp) o e,let ⟨o,e,r⟩:=st.2; ⟨o,hk l (by simp) o e,r⟩⟩
 item:=fun i s Q E hi st hQ=>zNa st.1 st.2 (x:=items[i]) (by simp [hi]) fun h' hit' hs'=>hQ _ h' s.toks (by simp [hi]) ⟨hit',st.2.extBut hs'.extBut hne⟩ hs'
 done:=fun s Q E st hE=>zNb hh st.1 st.2 (by simp) hE
structure Side (z TI TO i1 i2:Addr) (fp1 fp2:List Addr):Prop where
 TIz:TI≠z
 TOz:TO≠z
 i1z:i1≠z
 i2z:i2≠z
 TITO:TI≠TO
 TIi1:TI≠i1
 TIi2:TI≠i2
 TOi1:TO≠i1
 TOi2:TO≠i2
 i12:i1≠i2
 f1:∀ c∈fp1,c≠z/\c≠TO/\c≠i2
 f2:∀ c∈fp2,c≠z/\c≠TO/\c≠i1
section
variable {prog:Program}{w:World}{A:Around}{E:Value->Shared->Prop}{s:Shared}{z TI TO i1 i2:Addr}{fp1 fp2:List Addr}{n1 n2:Nat}{P1 P2:Nat->Value->Prop}{T1 T2:Nat->Heap->Prop}{k:Nat}{a b:Value}
theorem zNc {Q:Value->Shared->Prop} (D1:Draws prog w A i1 fp1 n1 P1 T1) (D2:Draws prog w A i2 fp2 n2 P2 T2) (D:Side z TI TO i1 i2 fp1 fp2)
  (hz:IsZip s.heap z TI TO .none) (hTI:IsPair s.heap TI (.ref i1) (.ref i2)) (hTO:IsPair s.heap TO a b) (t1:T1 k s.heap) (t2:T2 k s.heap) (l1:k < n1) (l2:k < n2)
  (hQ:∀ x y h' tk,P1 k x->P2 k y->IsZip h' z TI TO (rawInt s.heap.objs.size)->IsPair h' TO x y->T1 (k+1) h'->T2 (k+1) h'->IsPair h' s.heap.objs.size x y->h'.objs.size=s.heap.objs.size+1 ->
   (∀ c o,c≠z->c≠TO->c≠i1->c≠i2->s.heap.get? c=some o->h'.get? c=some o)->Q (.ref s.heap.objs.size) { s with heap:=h',toks:=tk }) :
  wpAny (model prog w) A (Builtin.«zip.__next__» ⟨[.ref z],[]⟩) (fun fin s'=>∃ v,fin=.done (.ret v)/\Q v s') E s:=by
 show wpAny _ _ (field (.ref z) 2 >>= _) _ _ _
 refine wpAny_bind (wpAny_field hz rfl (x:=.bool false) rfl ?_)
 show wpAny _ _ (field (.ref z) 3 >>= _) _ _ _
 refine wpAny_bind (wpAny_field hz rfl (x:=.ref TI) rfl ?_)
 refine wpAny_bind (wpAny_seqItems hTI rfl ?_)
 show wpAny _ _ (Builtin.SmallTypes.ownedTupleIsFree (.ref z) >>= _) _ _ _
 refine wpAny_bind ?_
 unfold Builtin.SmallTypes.ownedTupleIsFree
 refine wpAny_bind (wpAny_field hz rfl (x:=.none) rfl (wpAny_pure ?_))
 simp only [if_true]
 refine wpAny_bind (wpAny_rule ?_)
 refine wpAny_bind (wpAny_field hz rfl (x:=.ref TO) rfl ?_)
 refine wpAny_bind (wpAny_setField_rec hz (by simp) fun h₁ hz₁ hs₁=>?_)
 replace hz₁:IsZip h₁ z TI TO .ellipsis:=hz₁
 refine wpAny_bind ?_
 simp only [List.zipIdx_cons,List.zipIdx_nil,List.forIn_cons,List.forIn_nil]
 refine wpAny_bind (wpAny_bind (wpAny_onRaise ?_))
 show wpAny _ _ (Builtin.SmallTypes.nextOf (.ref i1) >>= _) _ _ _
 have t1₁:T1 k h₁:=D1.frame _ _ _ t1 fun c hc o e=>hs₁.extBut _ _ (D.f1 c hc).1 e
 have t2₁:T2 k h₁:=D2.frame _ _ _ t2 fun c hc o e=>hs₁.extBut _ _ (D.f2 c hc).1 e
 refine wpAny_bind (D1.item k _ _ _ l1 t1₁ fun x h₂ tk2 px t1₂ hs₂=>wpAny_pure ?_)
 have hTO₂:IsPair h₂ TO a b:=hs₂.extBut _ _ D.TOi1 (hs₁.extBut _ _ D.TOz hTO)
 refine wpAny_bind (wpAny_seqItems hTO₂ rfl ?_)
 refine wpAny_bind (wpAny_updateSeq_pair hTO₂ fun h₃ hTO₃ hs₃=>?_)
 replace hTO₃:IsPair h₃ TO x b:=hTO₃
 refine wpAny_bind (wpAny_letGo (wpAny_pure ?_))
 refine wpAny_bind (wpAny_bind (wpAny_onRaise ?_))
 show wpAny _ _ (Builtin.SmallTypes.nextOf (.ref i2) >>= _) _ _ _
 have t2₃:T2 k h₃:=D2.frame _ _ _ t2₁ fun c hc o e=>hs₃.extBut _ _ (D.f2 c hc).2.1 (hs₂.extBut _ _ (D.f2 c hc).2.2 e)
 refine wpAny_bind (D2.item k _ _ _ l2 t2₃ fun y h₄ tk4 py t2₄ hs₄=>wpAny_pure ?_)
 have hTO₄:IsPair h₄ TO x b:=hs₄.extBut _ _ D.TOi2 hTO₃
 refine wpAny_bind (wpAny_seqItems hTO₄ rfl ?_)
 refine wpAny_bind (wpAny_updateSeq_pair hTO₄ fun h₅ hTO₅ hs₅=>?_)
 replace hTO₅:IsPair h₅ TO x y:=hTO₅
 refine wpAny_bind (wpAny_letGo (wpAny_pure (wpAny_pure ?_)))
 refine wpAny_bind (wpAny_seqItems hTO₅ rfl ?_)
 refine wpAny_bind (wpAny_newTuple ?_)
 have hsz:h₅.objs.size=s.heap.objs.size:=by rw [hs₅.1,hs₄.1,hs₃.1,hs₂.1,hs₁.1]
 have hz₅:IsZip h₅ z TI TO .ellipsis:=hs₅.extBut _ _ D.TOz.symm (hs₄.extBut _ _ D.i2z.symm (hs₃.extBut _ _ D.TOz.symm (hs₂.extBut _ _ D.i1z.symm hz₁)))
 have hk₅:∀ c o,c≠z->c≠TO->c≠i1->c≠i2->s.heap.get? c=some o->h₅.get? c=some o:=fun c o c1 c2 c3 c4 e =>
  hs₅.extBut _ _ c2 (hs₄.extBut _ _ c4 (hs₃.extBut _ _ c2 (hs₂.extBut _ _ c3 (hs₁.extBut _ _ c1 e))))
 have t1₅:T1 (k+1) h₅:=D1.frame _ _ _ t1₂ fun c hc o e=>hs₅.extBut _ _ (D.f1 c hc).2.1 (hs₄.extBut _ _ (D.f1 c hc).2.2 (hs₃.extBut _ _ (D.f1 c hc).2.1 e))
 have t2₅:T2 (k+1) h₅:=D2.frame _ _ _ t2₄ fun c hc o e=>hs₅.extBut _ _ (D.f2 c hc).2.1 e
 have hzlt:z < h₅.objs.size:=Heap.lt_size hz₅
 show wpAny _ _ (Builtin.SmallTypes.ownedTupleHandOut (.ref z) (.ref h₅.objs.size) >>= _) _ _ _
 refine wpAny_bind ?_
 unfold Builtin.SmallTypes.ownedTupleHandOut
 have hz₆:IsZip (h₅.push { cls:=.type "tuple",data:=.seq #[x,y] }) z TI TO .ellipsis:=Heap.get?_push_of_some _ hz₅
 refine wpAny_bind (wpAny_setField_rec hz₆ (by simp) fun h₇ hz₇ hs₇=>?_)
 replace hz₇:IsZip h₇ z TI TO (rawInt h₅.objs.size):=hz₇
 refine wpAny_setField_rec hz₇ (by simp) fun h₈ hz₈ hs₈=>?_
 replace hz₈:IsZip h₈ z TI TO (rawInt h₅.objs.size):=hz₈
 have up:∀ c o,c≠z->h₅.get? c=some o->h₈.get? c=some o:=fun c o c1 e=>hs₈.extBut _ _ c1 (hs₇.extBut _ _ c1 (Heap.get?_push_of_some _ e))
 have hT₈:IsPair h₈ h₅.objs.size x y:=hs₈.extBut _ _ (Nat.ne_of_gt hzlt) (hs₇.extBut _ _ (Nat.ne_of_gt hzlt) (Heap.get?_push_size _ rfl))
 have hz8:h₈.objs.size=h₅.objs.size+1:=by rw [hs₈.1,hs₇.1,Heap.size_push]
 rw [hsz] at hz₈ hT₈ hz8
 refine wpAny_pure ⟨_,rfl,?_⟩
 show Q (.ref h₅.objs.size) _
 rw [hsz]
 exact hQ x y h₈ _ px py hz₈ (up _ _ D.TOz hTO₅) (D1.frame _ _ _ t1₅ fun c hc o e=>up c o (D.f1 c hc).1 e) (D2.frame _ _ _ t2₅ fun c hc o e=>up c o (D.f2 c hc).1 e) hT₈ hz8 fun c o c1 c2 c3 c4 e=>up c o c1 (hk₅ c o c1 c2 c3 c4 e)
theorem zNd {Q:Fin->Shared->Prop} (D1:Draws prog w A i1 fp1 n1 P1 T1) (D2:Draws prog w A i2 fp2 n2 P2 T2) (D:Side z TI TO i1 i2 fp1 fp2)
  (hz:IsZip s.heap z TI TO .none) (hTI:IsPair s.heap TI (.ref i1) (.ref i2)) (hTO:IsPair s.heap TO a b) (t1:T1 n1 s.heap)
  (hE:∀ h' e,(∀ c o,c≠z->c≠TO->c≠i1->c≠i2->s.heap.get? c=some o->h'.get? c=some o)->(∃ o,h'.get? e=some o/\o.cls=.type "StopIteration")->E (.ref e) { s with heap:=h' }) :
  wpAny (model prog w) A (Builtin.«zip.__next__» ⟨[.ref z],[]⟩) Q E s:=by
 show wpAny _ _ (field (.ref z) 2 >>= _) _ _ _
 refine wpAny_bind (wpAny_field hz rfl (x:=.bool false) rfl ?_)
 show wpAny _ _ (field (.ref z) 3 >>= _) _ _ _
 refine wpAny_bind (wpAny_field hz rfl (x:=.ref TI) rfl ?_)
 refine wpAny_bind (wpAny_seqItems hTI rfl ?_)
 show wpAny _ _ (Builtin.SmallTypes.ownedTupleIsFree (.ref z) >>= _) _ _ _
 refine wpAny_bind ?_
 unfold Builtin.SmallTypes.ownedTupleIsFree
 refine wpAny_bind (wpAny_field hz rfl (x:=.none) rfl (wpAny_pure ?_))
 simp only [if_true]
 refine wpAny_bind (wpAny_rule ?_)
 refine wpAny_bind (wpAny_field hz rfl (x:=.ref TO) rfl ?_)
 refine wpAny_bind (wpAny_setField_rec hz (by simp) fun h₁ hz₁ hs₁=>?_)
 replace hz₁:IsZip h₁ z TI TO .ellipsis:=hz₁
 refine wpAny_bind ?_
 simp only [List.zipIdx_cons,List.zipIdx_nil,List.forIn_cons,List.forIn_nil]
 refine wpAny_bind (wpAny_bind (wpAny_onRaise ?_))
 show wpAny _ _ (Builtin.SmallTypes.nextOf (.ref i1) >>= _) _ _ _
 have t1₁:T1 n1 h₁:=D1.frame _ _ _ t1 fun c hc o e=>hs₁.extBut _ _ (D.f1 c hc).1 e
 refine wpAny_bind (D1.done _ _ _ t1₁ fun h₂ e hs₂ he=>?_)
 obtain ⟨oe,hoe,hce⟩:=he
 have hz₂:IsZip h₂ z TI TO .ellipsis:=hs₂ _ _ D.i1z.symm hz₁
 have hez:e≠z:=fun x=>by subst x; rw [hz₂] at hoe; cases hoe; simp at hce
 refine wpAny_setField_rec hz₂ (by simp) fun h₃ _ hs₃=>hE h₃ e (fun c o c1 _ c3 _ x=>hs₃.extBut _ _ c1 (hs₂ _ _ c3 (hs₁.extBut _ _ c1 x))) ⟨oe,hs₃.extBut _ _ hez hoe,hce⟩
theorem zNe {Q:Fin->Shared->Prop} (D1:Draws prog w A i1 fp1 n1 P1 T1) (D2:Draws prog w A i2 fp2 n2 P2 T2) (D:Side z TI TO i1 i2 fp1 fp2)
  (hz:IsZip s.heap z TI TO .none) (hTI:IsPair s.heap TI (.ref i1) (.ref i2)) (hTO:IsPair s.heap TO a b) (t1:T1 n2 s.heap) (l1:n2 < n1) (t2:T2 n2 s.heap)
  (hE:∀ h' e tk,(∀ c o,c≠z->c≠TO->c≠i1->c≠i2->s.heap.get? c=some o->h'.get? c=some o)->(∃ o,h'.get? e=some o/\o.cls=.type "StopIteration")->E (.ref e) { s with heap:=h',toks:=tk }) :
  wpAny (model prog w) A (Builtin.«zip.__next__» ⟨[.ref z],[]⟩) Q E s:=by
 show wpAny _ _ (field (.ref z) 2 >>= _) _ _ _
 refine wpAny_bind (wpAny_field hz rfl (x:=.bool false) rfl ?_)
 show wpAny _ _ (field (.ref z) 3 >>= _) _ _ _
 refine wpAny_bind (wpAny_field hz rfl (x:=.ref TI) rfl ?_)
 refine wpAny_bind (wpAny_seqItems hTI rfl ?_)
 show wpAny _ _ (Builtin.SmallTypes.ownedTupleIsFree (.ref z) >>= _) _ _ _
 refine wpAny_bind ?_
 unfold Builtin.SmallTypes.ownedTupleIsFree
 refine wpAny_bind (wpAny_field hz rfl (x:=.none) rfl (wpAny_pure ?_))
 simp only [if_true]
 refine wpAny_bind (wpAny_rule ?_)
 refine wpAny_bind (wpAny_field hz rfl (x:=.ref TO) rfl ?_)
 refine wpAny_bind (wpAny_setField_rec hz (by simp) fun h₁ hz₁ hs₁=>?_)
 replace hz₁:IsZip h₁ z TI TO .ellipsis:=hz₁
 refine wpAny_bind ?_
 simp only [List.zipIdx_cons,List.zipIdx_nil,List.forIn_cons,List.forIn_nil]
 refine wpAny_bind (wpAny_bind (wpAny_onRaise ?_))
 show wpAny _ _ (Builtin.SmallTypes.nextOf (.ref i1) >>= _) _ _ _
 have t1₁:T1 n2 h₁:=D1.frame _ _ _ t1 fun c hc o e=>hs₁.extBut _ _ (D.f1 c hc).1 e
 have t2₁:T2 n2 h₁:=D2.frame _ _ _ t2 fun c hc o e=>hs₁.extBut _ _ (D.f2 c hc).1 e
 refine wpAny_bind (D1.item n2 _ _ _ l1 t1₁ fun x h₂ tk2 px t1₂ hs₂=>wpAny_pure ?_)
 have hTO₂:IsPair h₂ TO a b:=hs₂.extBut _ _ D.TOi1 (hs₁.extBut _ _ D.TOz hTO)
 refine wpAny_bind (wpAny_seqItems hTO₂ rfl ?_)
 refine wpAny_bind (wpAny_updateSeq_pair hTO₂ fun h₃ hTO₃ hs₃=>?_)
 refine wpAny_bind (wpAny_letGo (wpAny_pure ?_))
 refine wpAny_bind (wpAny_bind (wpAny_onRaise ?_))
 show wpAny _ _ (Builtin.SmallTypes.nextOf (.ref i2) >>= _) _ _ _
 have t2₃:T2 n2 h₃:=D2.frame _ _ _ t2₁ fun c hc o e=>hs₃.extBut _ _ (D.f2 c hc).2.1 (hs₂.extBut _ _ (D.f2 c hc).2.2 e)
 refine wpAny_bind (D2.done _ _ _ t2₃ fun h₄ e hs₄ he=>?_)
 obtain ⟨oe,hoe,hce⟩:=he
 have hz₄:IsZip h₄ z TI TO .ellipsis:=hs₄ _ _ D.i2z.symm (hs₃.extBut _ _ D.TOz.symm (hs₂.extBut _ _ D.i1z.symm hz₁))
 have hez:e≠z:=fun x=>by subst x; rw [hz₄] at hoe; cases hoe; simp at hce
 refine wpAny_setField_rec hz₄ (by simp) fun h₅ _ hs₅=>hE h₅ e _ (fun c o c1 c2 c3 c4 x=>hs₅.extBut _ _ c1 (hs₄ _ _ c4 (hs₃.extBut _ _ c2 (hs₂.extBut _ _ c3 (hs₁.extBut _ _ c1 x))))) ⟨oe,hs₅.extBut _ _ hez hoe,hce⟩
end
section
variable {prog:Program}{w:World}{A:Around}{E:Value->Shared->Prop}{s:Shared}{z TI TO i1 i2:Addr}{fp1 fp2:List Addr}{n1 n2:Nat}{P1 P2:Nat->Value->Prop}{T1 T2:Nat->Heap->Prop}{k:Nat}{a b:Value}
theorem zNf {Q:Option Value->Shared->Prop} (D1:Draws prog w A.in1 i1 fp1 n1 P1 T1) (D2:Draws prog w A.in1 i2 fp2 n2 P2 T2) (D:Side z TI TO i1 i2 fp1 fp2)
  (hz:IsZip s.heap z TI TO .none) (hTI:IsPair s.heap TI (.ref i1) (.ref i2)) (hTO:IsPair s.heap TO a b) (t1:T1 k s.heap) (t2:T2 k s.heap) (l1:k < n1) (l2:k < n2)
  (hQ:∀ x y h' tk,P1 k x->P2 k y->IsZip h' z TI TO (rawInt s.heap.objs.size)->IsPair h' TO x y->T1 (k+1) h'->T2 (k+1) h'->IsPair h' s.heap.objs.size x y->h'.objs.size=s.heap.objs.size+1 ->
   (∀ c o,c≠z->c≠TO->c≠i1->c≠i2->s.heap.get? c=some o->h'.get? c=some o)->Q (some (.ref s.heap.objs.size)) { s with heap:=h',toks:=tk }):wpAny (model prog w) A (pyNext (.ref z)) Q E s:=by
 have hT:s.TypeIs (.ref z) "zip" := ⟨_,hz,rfl⟩
 unfold pyNext
 exact wpAny_bind (wpAny_attempt (wpAny_callSpecial?_slot (name:=Str.ofString "__next__") hT F.slot_zip_next
  (wpAny_call_entry F.slot_zip_next hT F.entry_zip_next (zNc D1 D2 D hz hTI hTO t1 t2 l1 l2 fun x y h' tk p1 p2 a1 a2 a3 a4 a5 a6 a7=>wpAny_pure (hQ x y h' tk p1 p2 a1 a2 a3 a4 a5 a6 a7)) (F.args_zip_next_1 _))))
theorem zNg {Q:Option Value->Shared->Prop} (D1:Draws prog w A.in1 i1 fp1 n1 P1 T1) (D2:Draws prog w A.in1 i2 fp2 n2 P2 T2) (D:Side z TI TO i1 i2 fp1 fp2)
  (hz:IsZip s.heap z TI TO .none) (hTI:IsPair s.heap TI (.ref i1) (.ref i2)) (hTO:IsPair s.heap TO a b) (t1:T1 k s.heap) (t2:T2 k s.heap) (hk:k=n1\/k < n1/\k=n2)
  (hQ:∀ h' tk,(∀ c o,c≠z->c≠TO->c≠i1->c≠i2->s.heap.get? c=some o->h'.get? c=some o)->Q none { s with heap:=h',toks:=tk }):wpAny (model prog w) A (pyNext (.ref z)) Q E s:=by
 have hT:s.TypeIs (.ref z) "zip" := ⟨_,hz,rfl⟩
 unfold pyNext
 rcases hk with rfl | ⟨h1,rfl⟩
 ·refine wpAny_bind (wpAny_attempt (wpAny_callSpecial?_slot (name:=Str.ofString "__next__") hT F.slot_zip_next
   (wpAny_call_entry F.slot_zip_next hT F.entry_zip_next (zNd D1 D2 D hz hTI hTO t1 fun h' e hk he=>?_) (F.args_zip_next_1 _))))
  obtain ⟨o,ho,hc⟩:=he
  refine wpAny_bind (wpAny_isInstance (T := "StopIteration") (b:=true) ⟨o,ho,hc⟩ isSubtype_stop ?_)
  exact wpAny_pure (hQ _ s.toks hk)
 ·refine wpAny_bind (wpAny_attempt (wpAny_callSpecial?_slot (name:=Str.ofString "__next__") hT F.slot_zip_next
   (wpAny_call_entry F.slot_zip_next hT F.entry_zip_next (zNe D1 D2 D hz hTI hTO t1 h1 t2 fun h' e tk hk he=>?_) (F.args_zip_next_1 _))))
  obtain ⟨o,ho,hc⟩:=he
  refine wpAny_bind (wpAny_isInstance (T := "StopIteration") (b:=true) ⟨o,ho,hc⟩ isSubtype_stop ?_)
  exact wpAny_pure (hQ _ tk hk)
end
section
variable {prog:Program}{w:World}{A:Around}{E:Value->Shared->Prop}{s:Shared}
end
theorem Inv.turnedF {X:Cx}{pins:List (Addr × Obj)}{σ:St}{H:Hp}{s:Shared}{fp:List Addr}{h':Heap}{t':Nat} (I:Inv X pins σ H s) (k:∀ b u,b ∉ fp->s.heap.get? b=some u->h'.get? b=some u) (hf:∀ b∈fp,qE X pins H b):Inv X pins σ H { s with heap:=h',toks:=t' }:=by
 have nit:∀ b u,H b=some u->b ∉ fp:=fun b u e z=>by rw [(hf b z).1] at e; cases e
 refine I.step (g':=s.gens) (d':=s.drawn) (ch:=fp) (fun b hb=>?_) (fun b o _ _ hc e _=>k b o hc e) (fun b o _ _ hc e _=>⟨o.slots,k b o hc e⟩) (fun _ _ _ _ n=>n)
  (fun b o hc e=>⟨o,k b o hc e⟩) (fun _ _ e=>e) (fun _ _ _ e=>e) (fun b ps e=>⟨#[],by rw [e]; simp⟩) (fun m hm=>?_) (fun b u e=>?_) I.bare
 ·obtain ⟨f0,f1,f2,f3,f4,f5⟩:=hf b hb
  exact ⟨f3,f1,f4,f5⟩
 ·obtain ⟨o,es,ep,ho,r⟩:=hm
  exact ⟨o,es,ep,k _ o (fun z=>(hf _ z).2.1 rfl) ho,r⟩
 ·refine (I.hok b u e).stay (fun c v hc q=>k c v ?_ q) (fun c q=>q) fun c xs q=>q
  rcases hc with z | z
  ·rw [z]; exact nit b u e
  ·exact nit c _ z
def SqB (tp:Bool) (K:PySem.W.Frag) (H:Hp) (b:Addr) (ys:List V):Prop:=if tp=true then zZ K H b ys else yC K H b ys
def gB (tp:Bool) (h:Heap) (it b:Addr) (i:Nat):Prop:=if tp=true then h.IsTupleIter it b i else h.IsListIter it b i
theorem uP {n i j:Nat} (h:i≠j):n+i≠n+j:=by omega
theorem jT {a n:Nat} (i:Nat) (h:a < n):a≠n+i:=by omega
theorem zDc {n a b:Nat} (ha:a < n) (hb:b < n):Side (n+4) (n+2) (n+3) n (n+1) [n,a] [n+1,b] where
 TIz:=uP (by decide)
 TOz:=uP (by decide)
 i1z:=uP (n:=n) (i:=0) (by decide)
 i2z:=uP (by decide)
 TITO:=uP (by decide)
 TIi1:=uP (n:=n) (j:=0) (by decide)
 TIi2:=uP (by decide)
 TOi1:=uP (n:=n) (j:=0) (by decide)
 TOi2:=uP (by decide)
 i12:=uP (n:=n) (i:=0) (by decide)
 f1:=fun c hc=>by
  rcases List.mem_cons.mp hc with z | z
  ·subst z; exact ⟨uP (i:=0) (by decide),uP (i:=0) (by decide),uP (i:=0) (by decide)⟩
  ·have z':c=a:=by simpa using z
   subst z'; exact ⟨jT 4 ha,jT 3 ha,jT 1 ha⟩
 f2:=fun c hc=>by
  rcases List.mem_cons.mp hc with z | z
  ·subst z; exact ⟨uP (by decide),uP (by decide),uP (j:=0) (by decide)⟩
  ·have z':c=b:=by simpa using z
   subst z'; exact ⟨jT 4 hb,jT 3 hb,jT 0 hb⟩
theorem zHW {X:Cx}{pins:List (Addr × Obj)}{σ:St}{H:Hp}{s:Shared} (I:Inv X pins σ H s) (hc:X.calm=true) {tp:Bool}{b it:Addr}{ys:List V} (hq:SqB tp X.K H b ys) (hne:b≠it) :
  ∃ (its:List Value) (T2:Nat->Heap->Prop),zM ys its/\Draws X.prog X.w X.A.in1 it [it,b] its.length (fun i v=>its[i]?=some v) T2/\(∀ i,gB tp s.heap it b i->T2 i s.heap)/\∀ i h,T2 i h->gB tp h it b i:=by
 cases tp with
 | true =>
  obtain ⟨its,rv,p,hz⟩:=I.tuple (show zZ X.K H b ys from hq)
  have D:=zDb (prog:=X.prog) (w:=X.w) (A:=X.A.in1) (show X.A.in1.handled=none from I.ok.hd hc) it b hne its.toArray
  refine ⟨its,fun i h=>h.IsTupleIter it b i/\h.IsTuple b its.toArray,rv,?_,fun i h=>⟨h,(show s.heap.IsTuple b its.toArray from p)⟩,fun i h t=>t.1⟩
  have e:its.toArray.size=its.length:=List.size_toArray
  rw [e] at D
  exact ⟨D.live,D.frame,fun i s Q E hi st hQ=>D.item i s Q E hi st fun x h' tk hp=>hQ x h' tk (by simpa using hp),D.done⟩
 | false =>
  obtain ⟨its,rv,p,hz⟩:=I.list (show yC X.K H b ys from hq)
  have D:=Draws.list (prog:=X.prog) (w:=X.w) (A:=X.A.in1) (show X.A.in1.handled=none from I.ok.hd hc) it b hne its.toArray
  refine ⟨its,fun i h=>h.IsListIter it b i/\h.IsList b its.toArray,rv,?_,fun i h=>⟨h,p.isList⟩,fun i h t=>t.1⟩
  have e:its.toArray.size=its.length:=List.size_toArray
  rw [e] at D
  exact ⟨D.live,D.frame,fun i s Q E hi st hQ=>D.item i s Q E hi st fun x h' tk hp=>hQ x h' tk (by simpa using hp),D.done⟩
theorem gB.keep {tp:Bool}{h h':Heap}{it b:Addr}{i:Nat} (x:gB tp h it b i) (e:∀ o,h.get? it=some o->h'.get? it=some o):gB tp h' it b i:=by
 cases tp with
 | true=>exact (show h.IsTupleIter it b i from x).at e
 | false=>exact (show h.IsListIter it b i from x).at e
theorem gB.obj {tp:Bool}{h:Heap}{it b:Addr}{i:Nat} (x:gB tp h it b i):∃ o,h.get? it=some o/\∀ v,o.data≠.cell v:=by
 cases tp with
 | true=>obtain ⟨o,e,c,d⟩:=(show h.IsTupleIter it b i from x); exact ⟨o,e,fun v z=>by rw [d] at z; cases z⟩
 | false=>obtain ⟨o,e,c,d⟩:=(show h.IsListIter it b i from x); exact ⟨o,e,fun v z=>by rw [d] at z; cases z⟩
section
variable {X:Cx}{elts:List Expr}{k:Nat}{tpos:Pos}
end
end L2
end
section
namespace L2
open PySem PySem.Spec PyProof.Rows
open AutoSeq1 (wpAny_loadPart')
section
variable {prog:Program}{w:World}{A:Around}{E:Value->Shared->Prop}{s:Shared}
end
section
variable {X:Cx}{elts:List Expr}{k:Nat}{tpos:Pos}
end
theorem zNh {J:It}{xs ys:List V}{len:Nat}{Hk:Hp->Prop} (hgo:∀ i H,Hk H->i < len->J.go i H) (hst:∀ i H,Hk H->i=len->J.stop i H) (hyl:∀ i H x H',Hk H->J.yld i H x H'->∃ T x1 y1,x=.ref T/\H T=none/\H'=upd H T (.tup [x1,y1])/\xs[i]?=some x1/\ys[i]?=some y1)
  {caps:List Nat} {n:Nat} {σ:St} {g:TG} {tc:TT} {te:TE} {F:List V->Hp->Prop} {H1:Hp} (cv:St) (k:Nat) (hn:len < 1000)
  (Pv:Nat->List V->Hp->Prop) (h0:Pv 0 [] H1) (hk:∀ i acc H,i<=len->Pv i acc H->Hk H/\acc.length<=i)
  (turn:∀ (i:Nat) (x y:V) (T:Addr) (acc:List V) (H:Hp) (zs:St) (Nx:List V->St->Hp->Prop),(∀ acc' H' zs,zs.length=k->Pv (i+1) acc' H'->Nx acc' (cv++zs) H')->xs[i]?=some x->ys[i]?=some y->zs.length=k->Pv i acc H->H T=none ->
   g (.ref T) (cv++zs) (upd H T (.tup [x,y])) fun σ2 H3=>tc σ2 H3 fun b H4=>if b=true then te σ2 H4 fun y H5=>Nx (acc++[y]) σ2 H5 else Nx acc σ2 H4)
  (fin:∀ acc H,Pv len acc H->F acc H) (hcv:uX caps n σ=cv++List.replicate k none:=by rfl) :
  ∃ W:Nat->Nat->List V->St->Hp->Prop,(∃ m,W 0 m [] (uX caps n σ) H1)/\∀ i m acc σ' H',W i m acc σ' H' ->
   (J.stop i H'/\F acc H') \/
   (J.go i H'/\acc.length < sizeLine/\∀ x H2,J.yld i H' x H2->g x σ' H2 fun σ2 H3=>tc σ2 H3 fun b H4=>if b=true then te σ2 H4 fun y H5=>∃ m',m' < m/\W (i+1) m' (acc++[y]) σ2 H5 else ∃ m',m' < m/\W (i+1) m' acc σ2 H4):=by
 refine ⟨fun i m acc σ' H'=>i<=len/\m=len - i/\(∃ ys,ys.length=k/\σ'=cv++ys)/\Pv i acc H',⟨len,Nat.zero_le _,rfl,⟨_,by simp,hcv⟩,h0⟩,?_⟩
 rintro i m acc σ' H' ⟨hi,rfl,⟨zs,hy,rfl⟩,pv⟩
 obtain ⟨hH,ha⟩:=hk i acc H' hi pv
 by_cases e:i=len
 ·subst e
  exact .inl ⟨hst _ _ hH rfl,fin acc H' pv⟩
 ·have hi':i < len:=by omega
  refine .inr ⟨hgo _ _ hH hi',by rw [sizeLine_eq]; omega,fun x H2 hy2=>?_⟩
  obtain ⟨T,x1,y1,rfl,hT,rfl,e1,e2⟩:=hyl _ _ _ _ hH hy2
  exact turn i x1 y1 T acc H' zs (fun acc' σ2 H5=>∃ m',m' < len - i/\(i+1<=len/\m'=len - (i+1)/\(∃ ys,ys.length=k/\σ2=cv++ys)/\Pv (i+1) acc' H5)) (fun acc' H5 zs hz p=>⟨len - (i+1),by omega,by omega,rfl,⟨zs,hz,rfl⟩,p⟩) e1 e2 hy pv hT
section
variable {X:Cx}
end
section
variable {X:Cx}
end
end L2
end
section
namespace L2
open PySem PySem.Spec PyProof.Rows
section
variable {prog:Program}{w:World}{A:Around}{E:Value->Shared->Prop}{s:Shared}
end
section
variable {X:Cx}{pins:List (Addr × Obj)}{σ:St}{H:Hp}{s:Shared}
end
section
variable {X:Cx}{elts:List Expr}{kk:Nat}{tpos:Pos}{tg:Expr}
end
end L2
end
section
namespace L2
open PySem PySem.Spec PyProof.Rows
open PySem.AutoSeq1 (wpAny_loadPart')
open PySem.MeetsSeq PySem.MeetsSeq2 PySem.MeetsSeq3 PySem.SeqAt
section
variable {prog:Program}{w:World}{A:Around}{E:Value->Shared->Prop}{s:Shared}
end
section
open MyS PySem.W
variable {prog:Program}{w:World}{A:Around}{E:Value->Shared->Prop}{s:Shared}
end
section
variable {prog:Program}{w:World}{A:Around}{E:Value->Shared->Prop}{s:Shared}
end
section
open MyS PySem.W
variable {prog:Program}{w:World}{A:Around}{E:Value->Shared->Prop}{s:Shared}
end
section
variable {X:Cx}
end
end L2
end
section
namespace MyS
open PySem PySem.Spec PyProof.Rows PySem.W
section
variable {prog:Program}{w:World}{A:Around}{E:Value->Shared->Prop}{s:Shared}
end
end MyS
namespace L2
open PySem PySem.Spec PyProof.Rows
section
open MyS PySem.W
variable {prog:Program}{w:World}{A:Around}{E:Value->Shared->Prop}{s:Shared}
end
section
variable {X:Cx}
end
end L2
end
section
namespace L2
open PySem PySem.Spec PyProof.Rows
section
variable {X:Cx}
end
end L2
end
section
namespace L2
open PySem PySem.Spec PyProof.Rows
section
open MyS PySem.W
variable {X:Cx}
end
end L2
end
section
namespace L2
open PySem PySem.Spec PyProof.Rows
theorem zNi (t:SetTable) (es:Array (Int × Value)) (h:Int) (x:Value):(layNew t es h x).2.1.led=t.led/\(t.plain=false->(layNew t es h x).2.1.plain=false):=by
 unfold layNew
 split
 ·dsimp only
  unfold SetTable.orStandIn
  split
  ·exact ⟨rfl,fun e=>e⟩
  ·exact ⟨rfl,fun _=>rfl⟩
 ·exact ⟨rfl,fun _=>rfl⟩
theorem zNj {mask finger moves:Nat}{led plain:Bool}{hs:Array Int}{t:SetTable}{o:Array Nat} (e:SetTable.laid mask finger moves led plain hs=some (t,o)):t.led=led/\t.plain=plain:=by
 unfold SetTable.laid at e
 cases q:SetTable.layClean mask hs with
 | none=>rw [q] at e; cases e
 | some ow =>
  rw [q] at e
  injection e with e
  injection e with e1 e2
  subst e1
  exact ⟨rfl,rfl⟩
theorem zNk (t:SetTable) (es:Array (Int × Value)) (n:Nat):(relayAll t es n).2.1.led=t.led/\(t.plain=false->(relayAll t es n).2.1.plain=false):=by
 unfold relayAll
 split
 ·rename_i t' o e
  dsimp only
  have k:=zNj e
  split
  ·exact ⟨k.1,fun q=>k.2.trans q⟩
  ·exact ⟨rfl,fun _=>rfl⟩
 ·exact ⟨rfl,fun _=>rfl⟩
abbrev qB (es:Array (Int × Value)) (ep:Nat) (t:SetTable):Obj:={ cls:=.type "set",dict:=none,data:=.set es ep t }
def zNl (w:World) (es:Array (Int × Value)) (t:SetTable):Prop:=t.fits es.size=true/\t.led=!w.params.followText "set-order" /\ (es.size=0\/t.plain=false)
def zAM (prog:Program) (w:World) (h:Heap) (a:Addr) (es:Array (Int × Value)):Prop :=
 ∃ ep t,h.get? a=some (qB es ep t)/\ElemsOf (PySem.strKind prog w) es.toList/\es.size < scanBound/\zNl w es t
def uH:Value->Str
 | .str x _=>x
 | _=>⟨#[]⟩
abbrev jD (es:Array (Int × Value)):List Str:=es.toList.map fun e=>uH e.2
theorem zDd {k:Str}{x:Value} (h:Value.isStrOf k x=true):uH x=k:=by
 obtain ⟨t,rfl⟩:=Value.isStrOf_shape h; rfl
theorem zNm {k:Str}{x:Value} (h:Value.isStrOf k x=true):x.scannable=true:=by
 obtain ⟨t,rfl⟩:=Value.isStrOf_shape h; rfl
section
variable {prog:Program}{w:World}{A:Around}{E:Value->Shared->Prop}{s:Shared}
theorem zHX {h:Heap}{a:Addr}{es es':Array (Int × Value)}{ep:Nat}{t t':SetTable} (ho:h.get? a=some (qB es ep t)):(h.update a (Obj.putSet es' t')).get? a=some (qB es' (ep+1) t'):=by
 have:=Heap.get?_update_self (Obj.putSet es' t') ho rfl
 exact this
theorem zNn {a:Addr}{es:Array (Int × Value)}{k:Str}{x:Value}{Q:Bool->Shared->Prop} (hkey:Value.isStrOf k x=true) (hS:zAM prog w s.heap a es) (hroom:es.size+1 < scanBound)
  (h:∀ b h' es',Heap.SameBut a s.heap h'->zAM prog w h' a es'->(k∈jD es/\es'.toList.Perm es.toList\/k ∉ jD es/\(jD es').Perm (k::jD es))->Q b { s with heap:=h' }) :
  wpAny (model prog w) A (setAddHashed a x (hashStr w k)) Q E s:=by
 obtain ⟨ep,t,ho,hel,hb,hf,hled,hpl⟩:=id hS
 have hsc:=zNm hkey
 have e:s={ s with heap:=s.heap }:=by cases s; rfl
 unfold setAddHashed setAddHashedIn
 refine wpAny_holding (wpAny_bind (wpAny_setState_of ho rfl hf ?_))
 dsimp only
 rw [byScan_of (knd:=PySem.strKind prog w) hsc hb hel]
 simp only [↓reduceIte]
 unfold setAddByScan
 refine wpAny_bind ?_
 refine wpAny_bind (wpAny_rule ?_)
 refine wpAny_bind (wpAny_setScan_of (knd:=PySem.strKind prog w) (k:=k) hkey ho rfl hf hel ?_)
 cases hr:List.findIdx? (fun e=>(PySem.strKind prog w).is k e.2) es.toList with
 | some j =>
  dsimp only
  obtain ⟨hj,hpj,_⟩:=List.findIdx?_eq_some_iff_getElem.mp hr
  refine wpAny_pure (wpAny_pure ?_)
  rw [e]
  exact h _ s.heap es (Heap.SameBut.refl a s.heap) hS (.inl ⟨List.mem_map.mpr ⟨es.toList[j],List.getElem_mem hj,zDd hpj⟩,List.Perm.refl _⟩)
 | none =>
  dsimp only
  have hno:k ∉ jD es:=fun q=>by
   obtain ⟨y,hy,q⟩:=List.mem_map.mp q
   obtain ⟨⟨k',hk',_⟩,_⟩:=hel y hy
   have e1:k'=k:=(zDd hk').symm.trans q
   have:=List.findIdx?_eq_none_iff.mp hr y hy
   rw [<- e1,hk'] at this
   cases this
  have hperm:=layNew_perm t es (hashStr w k) x
  have hfits:=layNew_fits t es (hashStr w k) x
  have hkeep:=zNi t es (hashStr w k) x
  show wpAny _ _ _ _ _ _
  change wpAny _ _ (match layNew t es (hashStr w k) x with | (es,t,wasDummy,gave)=>_) _ _ _
  generalize hL:layNew t es (hashStr w k) x=L at hperm hfits hkeep ⊢
  obtain ⟨es1,t1,wasDummy,gave⟩:=L
  dsimp only at hperm hfits hkeep ⊢
  rw [Array.toList_push] at hperm
  have hel1:ElemsOf (PySem.strKind prog w) es1.toList:=(ElemsOf.push (knd:=PySem.strKind prog w) hel hkey hsc).perm hperm
  have hsz:es1.size=es.size+1:=by rw [<- Array.length_toList,hperm.length_eq,List.length_append,Array.length_toList]; rfl
  have hb1:es1.size < scanBound:=by rw [hsz]; exact hroom
  have htx:(jD es1).Perm (k::jD es):=by
   have:=hperm.map fun e:Int × Value=>uH e.2
   rw [List.map_append] at this
   refine this.trans ?_
   rw [List.map_singleton,zDd hkey]
   exact List.perm_append_singleton _ _
  have hgw:∀ (b:Bool) {s₁:Shared} {Q':Unit->Shared->Prop},Q' () s₁->wpAny (model prog w) A (match b with | true=>rule "set.scan.the-table-gave-way" | false=>pure ()) Q' E s₁ :=
   fun b s₁ Q' hq=>by cases b <;> first | exact wpAny_pure hq | exact wpAny_rule hq
  refine wpAny_bind (hgw _ ?_)
  have tail:∀ t2:SetTable,t2.fits es1.size=true->t2.led=t.led->t2.plain=false->∀ wd:Bool,wpAny (model prog w) A (do
    storeSet a es1 t2
    if (!wd && t2.tooFull)=true then do
      (match (relayAll t2 es1 (SetTable.grown es1.size)).2.2 with | true=>rule "set.scan.the-table-gave-way" | false=>pure ())
      storeSet a (relayAll t2 es1 (SetTable.grown es1.size)).1 (relayAll t2 es1 (SetTable.grown es1.size)).2.1
      pure (some true)
     else pure (some true)) (fun r s'=>wpAny (model prog w) A (match r with | some added=>pure added | none=>setAddHashedIn a x (hashStr w k) 99999) Q E s') E s:=by
   intro t2 f2 l2 p2 wd
   refine wpAny_bind (wpAny_storeSet_of ho rfl ?_ (fits_of_scanBound hb1))
   have ho1:=zHX (es':=es1) (t':=t2) ho
   have sb1:=Heap.SameBut.update s.heap a (Obj.putSet es1 t2)
   split
   ·have hp:=relayAll_perm t2 es1 (SetTable.grown es1.size)
    have hfr:=relayAll_fits t2 es1 (SetTable.grown es1.size)
    have hkr:=zNk t2 es1 (SetTable.grown es1.size)
    generalize hRl:relayAll t2 es1 (SetTable.grown es1.size)=Rl at hp hfr hkr ⊢
    obtain ⟨es2,t3,gave2⟩:=Rl
    dsimp only at hp hfr hkr ⊢
    have hs2:es2.size=es1.size:=by rw [<- Array.length_toList,hp.length_eq,Array.length_toList]
    have hb2:es2.size < scanBound:=by rw [hs2]; exact hb1
    refine wpAny_bind (hgw _ ?_)
    refine wpAny_bind (wpAny_storeSet_of ho1 rfl ?_ (fits_of_scanBound hb2))
    refine wpAny_pure (wpAny_pure ?_)
    exact h _ _ es2 (sb1.trans (Heap.SameBut.update _ a _)) ⟨_,t3,zHX ho1,hel1.perm hp,hb2,hfr,(hkr.1.trans l2).trans hled,.inr (hkr.2 p2)⟩ (.inr ⟨hno,(hp.map _).trans htx⟩)
   ·exact wpAny_pure (wpAny_pure (h _ _ es1 sb1 ⟨_,t2,ho1,hel1,hb1,f2,l2.trans hled,.inr p2⟩ (.inr ⟨hno,htx⟩)))
  obtain ⟨tk,rfl⟩:=Value.isStrOf_shape hkey
  by_cases hp1:t1.plain=true
  ·rw [if_pos hp1]
   refine wpAny_bind ?_
   rw [hashByValue_scannable 8 hsc]
   refine wpAny_pure ?_
   exact tail { t1 with plain:=false } hfits hkeep.1 rfl wasDummy
  ·rw [if_neg hp1]
   refine wpAny_bind (wpAny_pure ?_)
   simp only [↓reduceIte]
   exact tail t1 hfits hkeep.1 (by simpa using hp1) wasDummy
end
def jJ (prog:Program) (w:World) (h:Heap) (a:Addr) (ks:List Str):Prop:=∃ es,zAM prog w h a es/\(jD es).Nodup/\(∀ x,x∈jD es↔x∈ks)/\es.size<=ks.length
theorem jJ.stay {prog:Program}{w:World}{h h':Heap}{S:Addr}{ks:List Str} (x:jJ prog w h S ks) (e:∀ o,h.get? S=some o->h'.get? S=some o):jJ prog w h' S ks:=by
 obtain ⟨es,⟨ep,t,ho,r⟩,q⟩:=x
 exact ⟨es,⟨ep,t,e _ ho,r⟩,q⟩
section
variable {prog:Program}{w:World}{A:Around}{R:Result->Shared->Prop}{I:Addr}{fp wr:List Addr}{G:Array GenState->Array GenState->Prop}{P:Nat->Value->Prop}{St:Nat->Shared->Prop}
theorem zNo {ks:List Str} (W:WalksS prog w A.in1 I fp wr G ks.length P St) (S:Addr) (hS:S ∉ fp) (hv:∀ i v,P i v->Value.isStrOf (ks.getD i ⟨#[]⟩) v=true) (hn:ks.length+1 < scanBound) :
  ∀ (m i:Nat) (s:Shared),ks.length - i=m->i<=ks.length->St i s->jJ prog w s.heap S (ks.take i) ->
   (∀ s',Moved (S::wr) G s s'->jJ prog w s'.heap S ks->R (.ok (.ret .none)) s') ->
   codeAny (model prog w) A (.builtin "set.update.loop" ⟨[.ref S,.ref I],[]⟩) R s:=by
 have nw:S ∉ wr:=fun z=>hS (W.sub _ z)
 have more:∀ b∈wr,b∈S::wr:=fun b z=>List.mem_cons_of_mem _ z
 intro m
 induction m with
 | zero =>
  intro i s e1 e2 st x hR
  obtain rfl:i=ks.length:=by omega
  refine codeAny_builtin F.entry_set_update_loop ?_
  rw [Around.under_plainId F.plain_set_update_loop _]
  refine wpAny_bind (m:=pyNext (.ref I)) (W.done s _ _ st fun s' mv=>?_)
  rw [List.take_length] at x
  exact wpAny_pure (hR s' (mv.mono more) (x.stay fun o ho=>mv.heap S _ nw ho))
 | succ m ih =>
  intro i s e1 e2 st x hR
  have lt:i < ks.length:=by omega
  refine codeAny_builtin F.entry_set_update_loop ?_
  rw [Around.under_plainId F.plain_set_update_loop _]
  refine wpAny_bind (m:=pyNext (.ref I)) (W.item i s _ _ lt st fun v s' hP st' mv=>?_)
  have hk:=hv i v hP
  obtain ⟨es,sx,nd,mem,sz⟩:=x.stay fun o ho=>mv.heap S _ nw ho
  have room:es.size+1 < scanBound:=by rw [List.length_take] at sz; omega
  refine wpAny_bind (m:=holding [v] (setAdd S v)) (wpAny_holding ?_)
  unfold setAdd
  refine wpAny_holding (wpAny_bind ((PySem.strKind prog w).pyHash (k:=ks.getD i ⟨#[]⟩) hk ?_))
  refine zNn (s:={ s' with toks:=s'.toks+1 }) hk sx room fun b h' es' sb y al=>?_
  have e3:ks.take (i+1)=ks.take i++[ks.getD i ⟨#[]⟩]:=by
   rw [List.take_succ_eq_append_getElem lt]; simp [lt]
  have y':jJ prog w h' S (ks.take (i+1)):=by
   rcases al with ⟨hin,pm⟩ | ⟨hno,pm⟩
   ·have pt:(jD es').Perm (jD es):=pm.map _
    refine ⟨es',y,pt.nodup_iff.mpr nd,fun z=>?_,?_⟩
    ·rw [pt.mem_iff,mem z,e3,List.mem_append,List.mem_singleton]
     exact ⟨.inl,fun q=>q.elim id fun q=>q ▸ (mem _).mp hin⟩
    ·have:es'.size=es.size:=by rw [<- Array.length_toList,pm.length_eq,Array.length_toList]
     rw [this,e3,List.length_append]; omega
   ·refine ⟨es',y,pm.nodup_iff.mpr (List.nodup_cons.mpr ⟨hno,nd⟩),fun z=>?_,?_⟩
    ·rw [pm.mem_iff,List.mem_cons,mem z,e3,List.mem_append,List.mem_singleton]
     exact Or.comm
    ·have:=pm.length_eq
     simp only [List.length_map,Array.length_toList,List.length_cons] at this
     rw [this,e3,List.length_append,List.length_singleton]; omega
  refine wpAny_pure ⟨plainId_quiet F.plain_set_update_loop _,ih (i+1) _ (by omega) lt (W.frame _ s' _ _ st' (Nat.le_succ _) fun b hb o e=>?_) y' fun s'' mv'' z=>?_⟩
  ·exact (sb.2 b (fun q=>hS (by rw [<- q]; exact hb))).trans e
  ·refine hR s'' (Moved.trans W.gtrans ((mv.mono more).then_heap (Nat.le_succ _) fun b o hb e=>?_) mv'') z
   exact (sb.2 b (fun q=>hb (by rw [q]; exact List.mem_cons_self))).trans e
end
section
variable {prog:Program}{w:World}{A:Around}{E:Value->Shared->Prop}{s:Shared}
theorem zNp:isSubtype (.type "tuple") (.type "set")=pure false:=by
 rw [isSubtype_type]; kernel_rfl
theorem zNq:isSubtype (.type "tuple") (.type "frozenset")=pure false:=by
 rw [isSubtype_type]; kernel_rfl
abbrev qV (w:World):Obj:=qB #[] 0 (.fresh 0 0 (!w.params.followText "set-order"))
theorem zNr (prog:Program) (w:World) {h:Heap}{a:Addr} (e:h.get? a=some (qV w)):jJ prog w h a [] :=
 ⟨#[],⟨0,_,e,(fun _ q=>nomatch q),(by unfold scanBound; decide),rfl,rfl,.inl rfl⟩,List.nodup_nil,(fun _=>Iff.rfl),Nat.le_refl _⟩
theorem zNs (a:Value) {Q₁:Value->Shared->Prop} (h:Q₁ (.ref s.heap.objs.size) { s with heap:=s.heap.push (qV w) }) :
  codeAny (model prog w) A (.call (.builtin "set.__new__") ⟨[.type "set",a],[]⟩) (wants Q₁ E) s:=by
 refine codeAny_of_tree ?_
 show wpAny _ A.in1 (do checkBuiltinCall "set.__new__" ⟨[.type "set",a],[]⟩; again (.builtin "set.__new__" ⟨[.type "set",a],[]⟩)) _ _ s
 refine wpAny_bind (wpAny_of_eq (F.newCall_set_1 a) (wpAny_pure ⟨plainId_quiet F.plain_set_new _,codeAny_builtin F.entry_set_new ?_⟩))
 rw [Around.under_plainId F.plain_set_new _]
 unfold Builtin.«set.__new__» Builtin.Frozenset.newClass
 have hsub:=sub_set_self
 obtain ⟨hp,g,d,tk,os⟩:=s
 dsimp only
 wp_walk
 refine wpAny_askSetting (wpAny_pure ?_)
 dsimp only
 simp only [newObj]
 refine wpAny_bind (wpAny_alloc (wpAny_pure ?_))
 exact wpAny_pure h
theorem zNt {A0:Around}{R:Result->Shared->Prop}{l:Addr}{items:Array Value}{ks:List Str} (hh:A.handled=none) (hl:s.heap.IsTuple l items) (hlen:items.size=ks.length) (hv:∀ i v,items[i]?=some v->Value.isStrOf (ks.getD i ⟨#[]⟩) v=true) (hb:ks.length+1 < scanBound)
  (hR:∀ h' tk,jJ prog w h' s.heap.objs.size ks->(∀ b o,b < s.heap.objs.size->s.heap.get? b=some o->h'.get? b=some o)->R (.ok (.ret .none)) { s with heap:=h',toks:=tk }) :
  wpAny (model prog w) A (Builtin.«set.__init__» ⟨[.ref s.heap.objs.size,.ref l],[]⟩) (fun fin s'=>match fin with | .done f=>R (.ok f) s' | .again c'=>c'.quiet=true/\codeAny (model prog w) A0 c' R s') (fun e s'=>R (.error e) s') { s with heap:=s.heap.push (qV w) }:=by
 have new:(s.heap.push (qV w)).get? s.heap.objs.size=some (qV w):=Heap.get?_push_size _ rfl
 have ty:Shared.TypeIs { s with heap:=s.heap.push (qV w) } (.ref s.heap.objs.size) "set" := ⟨_,new,rfl⟩
 obtain ⟨ol,hol,hcl,nl,hdl⟩:=id hl
 obtain ⟨ocls,odict,odata,oslots⟩:=ol
 simp only at hcl hdl
 subst hcl; subst hdl
 have old:(s.heap.push (qV w)).get? l=some { cls:=.type "tuple",dict:=odict,data:=.seq items nl,slots:=oslots }:=Heap.get?_push_of_some _ hol
 have n1:=zNp
 have n2:=zNq
 have n3:(Value.type "tuple" == Value.type "dict")=false:=by decide
 have tl:(s.heap.push (qV w)).IsTuple l items:=⟨_,old,rfl,nl,rfl⟩
 unfold Builtin.«set.__init__» noKeywords Builtin.Frozenset.updateFrom
 generalize hPI:pyIter=PI
 wp_walk
 subst hPI
 refine wpAny_pyIter_tuple tl (wpAny_bind (wpAny_runValue ?_))
 have lS:l < s.heap.objs.size:=Heap.lt_size hol
 have h3:A.in1.handled=none:=by simp [hh]
 have ne:l≠(s.heap.push (qV w)).objs.size:=by
  rw [Heap.size_push]
  exact Nat.ne_of_lt (Nat.lt_succ_of_lt lS)
 have nf:s.heap.objs.size ∉ [(s.heap.push (qV w)).objs.size,l]:=by
  rw [Heap.size_push]
  simp only [List.mem_cons,List.mem_singleton,List.not_mem_nil,or_false,not_or]
  exact ⟨Nat.ne_of_lt (Nat.lt_succ_self _),Nat.ne_of_gt lS⟩
 have WW:=(Walks.tuple (prog:=prog) (w:=w) (A:=A.in1) h3 _ l ne items).toS
 rw [hlen] at WW
 refine zNo WW s.heap.objs.size nf hv hb (ks.length - 0) 0 _ (by omega) (Nat.zero_le _) ?st0 ?x0 fun s' mv x=>?_
 case st0=>exact ⟨⟨_,Heap.get?_push_size _ rfl,rfl,rfl⟩,tl.push _⟩
 case x0=>exact zNr prog w (Heap.get?_push_of_some _ new)
 obtain ⟨h',g',d',tk',os'⟩:=s'
 obtain rfl:g'=s.gens:=mv.gens
 obtain rfl:d'=s.drawn:=mv.drawn
 obtain rfl:os'=s.os:=mv.os
 refine wpAny_pure ?_
 refine wpAny_pure (hR h' tk' x fun b o hb e=>?_)
 have b1:b≠s.heap.objs.size:=Nat.ne_of_lt hb
 have b2:b≠(s.heap.push (qV w)).objs.size:=by
  rw [Heap.size_push]
  exact Nat.ne_of_lt (Nat.lt_succ_of_lt hb)
 refine mv.heap b o ?_ (Heap.get?_push_of_some _ (Heap.get?_push_of_some _ e))
 simp only [List.mem_cons,List.mem_singleton,List.not_mem_nil,or_false,not_or]
 exact ⟨b1,b2⟩
theorem zNu {l:Addr}{items:Array Value}{ks:List Str}{Q:Value->Shared->Prop} (hh:A.handled=none) (hl:s.heap.IsTuple l items) (hlen:items.size=ks.length) (hv:∀ i v,items[i]?=some v->Value.isStrOf (ks.getD i ⟨#[]⟩) v=true) (hb:ks.length+1 < scanBound)
  (h:∀ h' tk,jJ prog w h' s.heap.objs.size ks->(∀ b o,b < s.heap.objs.size->s.heap.get? b=some o->h'.get? b=some o)->Q (.ref s.heap.objs.size) { s with heap:=h',toks:=tk }) :
  wpAny (model prog w) A (call (.type "set") [.ref l]) Q E s:=by
 obtain ⟨c0,tl0,m0⟩:=F.called_set.mro
 have m1:=F.called_set.made
 have m2:=F.called_set.sub
 refine wpAny_call (codeAny_of_tree (?_:wpAny _ _ (callAny (.type "set") _) _ _ _))
 refine wpAny_pure (And.intro (Code.quiet_builtin _ (by decide +kernel)) (codeAny_builtin F.entry_type_call ?_))
 rw [Around.under_plain (weight_type_call_type "set" [Value.ref l] []) rfl]
 have m3:=F.called_set.notType
 have m4:=F.called_set.canCreate
 have m5:=F.typeCall_set_1 (.ref l)
 all_goals (repeat (any_goals (first | assumption | wp_step)))
 refine codeAny_mono (zNs (w:=w) (.ref l) (E:=E) (Q₁:=fun v s₁=>v=.ref s.heap.objs.size/\s₁={ s with heap:=s.heap.push (qV w) }) ⟨rfl,rfl⟩) fun r s₁ hr=>?_
 match r,hr with
 | .error e,hr=>exact hr
 | .ok (.ret v),hr =>
  obtain ⟨rfl,rfl⟩:=hr
  have ty:Shared.TypeIs { s with heap:=s.heap.push (qV w) } (.ref s.heap.objs.size) "set" := ⟨_,Heap.get?_push_size _ rfl,rfl⟩
  have m6:=F.called_set.init.lookup
  have m7:=F.called_set.init.bind (.ref s.heap.objs.size)
  all_goals (repeat (any_goals (first | assumption | wp_step)))
  refine codeAny_mono (codeAny_call_builtin (R:=wants (fun q s₂=>q=.none/\∃ h' tk,s₂={ s with heap:=h',toks:=tk }/\jJ prog w h' s.heap.objs.size ks/\∀ b o,b < s.heap.objs.size->s.heap.get? b=some o->h'.get? b=some o) E)
   F.called_set.init.plain F.entry_set_init (check_set_init_1 ty (zNt (by simp [hh]) hl hlen hv hb fun h' tk x k=>⟨rfl,h',tk,rfl,x,k⟩))) fun r₂ s₂ hr₂=>?_
  match r₂,hr₂ with
  | .error e,hr₂=>exact hr₂
  | .ok (.ret q),hr₂ =>
   obtain ⟨rfl,h',tk,rfl,x,k⟩:=hr₂
   all_goals (repeat (any_goals (first | assumption | wp_step)))
   exact h _ _ x k
  | .ok .next,hr₂=>exact hr₂.elim
  | .ok .brk,hr₂=>exact hr₂.elim
  | .ok .cont,hr₂=>exact hr₂.elim
 | .ok .next,hr=>exact hr.elim
 | .ok .brk,hr=>exact hr.elim
 | .ok .cont,hr=>exact hr.elim
end
end L2
end
section
namespace L2
open PySem PySem.Spec PyProof.Rows
theorem zHY:Manifest.owners.lookup (String.ofList ['r','o','t','a','r','e','t','i','_','t','e','s'].reverse)=some Manifest.sig_set_iterator:=by kernel_rfl
theorem kK:Slot "set_iterator" "__next__" "set_iterator.__next__" :=
 .of (owner := "set_iterator") (n := "__next__") (by rw [typeLookup_type,builtinLookup_eq_fast]; kernel_rfl) (by decide +kernel) (by decide +kernel) (by decide +kernel)
  (by first | exact .inl (by decide +kernel) | exact .inr (by decide +kernel)) (by rw [isSubtype_type]; kernel_rfl)
theorem zDe:entryFor table "set_iterator.__next__" = some Builtin.«set_iterator.__next__»:=entryFor_of_tree (by kernel_rfl)
theorem zDf (a:Value):argsOk "set_iterator.__next__" ⟨[a],[]⟩:=by
 unfold argsOk; rw [signature?_of (id := "set_iterator.__next__") (n:=['_','_','t','x','e','n','_','_']) (o:=['r','o','t','a','r','e','t','i','_','t','e','s']) (by kernel_rfl) zHY]; kernel_rfl
theorem zHZ:Slot "set_iterator" "__iter__" "set_iterator.__iter__" :=
 .of (owner := "set_iterator") (n := "__iter__") (by rw [typeLookup_type,builtinLookup_eq_fast]; kernel_rfl) (by decide +kernel) (by decide +kernel) (by decide +kernel)
  (by first | exact .inl (by decide +kernel) | exact .inr (by decide +kernel)) (by rw [isSubtype_type]; kernel_rfl)
theorem zNv:entryFor table "set_iterator.__iter__" = some Builtin.«dict_keyiterator.__iter__» :=
 entryFor_alias (id' := "dict_keyiterator.__iter__") (by kernel_rfl) (by first | rfl | decide +kernel | (unfold String.splitOn; simp +decide [String.splitOnAux])) (by decide +kernel) (by kernel_rfl)
theorem zNw (a:Value):argsOk "set_iterator.__iter__" ⟨[a],[]⟩:=by
 unfold argsOk; rw [signature?_of (id := "set_iterator.__iter__") (n:=['_','_','r','e','t','i','_','_']) (o:=['r','o','t','a','r','e','t','i','_','t','e','s']) (by kernel_rfl) zHY]; kernel_rfl
theorem zNx:entryFor table "set.__iter__" = some Builtin.«frozenset.__iter__» :=
 entryFor_alias (id' := "frozenset.__iter__") (by kernel_rfl) (by first | rfl | decide +kernel | (unfold String.splitOn; simp +decide [String.splitOnAux])) (by decide +kernel) (by kernel_rfl)
abbrev kL (f:Value) (i:Nat) (a:Addr) (n ep:Nat):Obj:={ cls:=.type "set_iterator",dict:=none,data:=.fields #[f,.int i 0,.ref a,.int n 0,.int ep 0] }
section
variable {prog:Program}{w:World}{A:Around}{E:Value->Shared->Prop}{s:Shared}
theorem zNy {I a T:Addr}{i ep:Nat}{es:Array (Int × Value)}{t:SetTable}{pl:List Nat}{e1 j:Nat}{x:Int × Value}{Q:Option Value->Shared->Prop}
  (hi:s.heap.get? I=some (kL (.ref T) i a es.size ep)) (ha:s.heap.get? a=some (qB es ep t)) (hf:t.fits es.size=true) (hT:s.heap.get? T=some (seqObj "tuple" (pl.map fun (i:Nat)=>rawInt i).toArray e1)) (hj:pl[i]?=some j) (hx:es[j]?=some x)
  (hQ:∀ h',h'.get? I=some (kL (.ref T) (i+1) a es.size ep)->Heap.SameBut I s.heap h'->Q (some x.2) { s with heap:=h' }) :
  wpAny (model prog w) A (pyNext (.ref I)) Q E s:=by
 have ty:s.TypeIs (.ref I) "set_iterator" := ⟨_,hi,rfl⟩
 unfold pyNext
 refine wpAny_bind (wpAny_attempt (wpAny_callSpecial?_slot (name:=Str.ofString "__next__") ty kK (wpAny_call_entry kK ty zDe ?_ (zDf _))))
 unfold Builtin.«set_iterator.__next__»
 refine wpAny_bind (m:=slotArgs "__next__" 0 _) (wpAny_pure ?_)
 refine wpAny_bind (wpAny_fieldsOf hi rfl ?_)
 dsimp only
 refine wpAny_bind (wpAny_setEntries_of ha rfl hf ?_)
 rw [if_neg (by simp)]
 refine wpAny_bind (wpAny_seqItems hT rfl ?_)
 have e2:((pl.map fun (i:Nat)=>rawInt i).toArray)[((i:Nat):Int).toNat]?=some (.int (j:Int) 0):=by
  rw [Int.toNat_natCast,List.getElem?_toArray,List.getElem?_map,hj]; rfl
 dsimp only
 rw [e2]
 dsimp only
 unfold setNextDrawn
 refine wpAny_bind (wpAny_bind (wpAny_setState_of ha rfl hf ?_))
 dsimp only
 rw [Int.toNat_natCast,Int.toNat_natCast,if_neg (by simp),hx]
 refine wpAny_pure ?_
 refine wpAny_bind (wpAny_setField_rec hi (by simp) fun h' e3 sb=>?_)
 exact wpAny_pure ⟨_,rfl,wpAny_pure (hQ h' (by rw [e3]; rfl) sb)⟩
theorem zHa {Q:Option Value->Shared->Prop}{R:PySem.Fin->Shared->Prop} (hh:A.handled=none) (hQ:∀ h',(∀ b o,s.heap.get? b=some o->h'.get? b=some o)->Q none { s with heap:=h' }) :
  wpAny (model prog w) A.in1 (do let e <- newExc (.type "StopIteration") []; raiseNew e) R (fun e s'=>wpAny (model prog w) A (do let b <- isInstance e (.type "StopIteration"); if b=true then pure none else throw e) Q E s') s:=by
 refine wpAny_bind ?_
 simp only [newExc,newTuple]
 refine wpAny_bind (wpAny_newObj_type ?_ (by size_fits))
 refine wpAny_bind (m:=firstArgMember _ _) (wpAny_of_eq (a:=Value.none) (by first | rfl | (simp only [firstArgMember]; rfl)) ?_)
 refine wpAny_newObj_type ?_ (by size_fits)
 simp only [raiseNew]
 refine wpAny_bind (wpAny_handled ?_)
 rw [show A.in1.handled=none from hh]
 refine wpAny_bind (wpAny_pure (wpAny_throw ?_))
 refine wpAny_bind (wpAny_isInstance (T := "StopIteration") (b:=true) ⟨_,Heap.get?_push_size _ rfl,rfl⟩ isSubtype_stop ?_)
 exact wpAny_pure (hQ _ fun b o e=>Heap.get?_push_of_some _ (Heap.get?_push_of_some _ e))
theorem zNz {I a T:Addr}{i ep:Nat}{es:Array (Int × Value)}{t:SetTable}{pl:List Nat}{e1:Nat}{Q:Option Value->Shared->Prop} (hh:A.handled=none)
  (hi:s.heap.get? I=some (kL (.ref T) i a es.size ep)) (ha:s.heap.get? a=some (qB es ep t)) (hf:t.fits es.size=true) (hT:s.heap.get? T=some (seqObj "tuple" (pl.map fun (i:Nat)=>rawInt i).toArray e1)) (hj:pl[i]?=none)
  (hQ:∀ h',(∀ b o,b≠I->s.heap.get? b=some o->h'.get? b=some o)->Q none { s with heap:=h' }) :
  wpAny (model prog w) A (pyNext (.ref I)) Q E s:=by
 have ty:s.TypeIs (.ref I) "set_iterator" := ⟨_,hi,rfl⟩
 unfold pyNext
 refine wpAny_bind (wpAny_attempt (wpAny_callSpecial?_slot (name:=Str.ofString "__next__") ty kK (wpAny_call_entry kK ty zDe ?_ (zDf _))))
 unfold Builtin.«set_iterator.__next__»
 refine wpAny_bind (m:=slotArgs "__next__" 0 _) (wpAny_pure ?_)
 refine wpAny_bind (wpAny_fieldsOf hi rfl ?_)
 dsimp only
 refine wpAny_bind (wpAny_setEntries_of ha rfl hf ?_)
 rw [if_neg (by simp)]
 refine wpAny_bind (wpAny_seqItems hT rfl ?_)
 have e2:((pl.map fun (i:Nat)=>rawInt i).toArray)[((i:Nat):Int).toNat]?=none:=by
  rw [Int.toNat_natCast,List.getElem?_toArray,List.getElem?_map,hj]; rfl
 dsimp only
 rw [e2]
 dsimp only
 refine wpAny_bind (wpAny_setField_rec hi (by simp) fun h1 e3 sb1=>?_)
 refine wpAny_bind (wpAny_setField_rec (s:={ s with heap:=h1 }) e3 (by simp) fun h2 e4 sb2=>?_)
 refine zHa (s:={ s with heap:=h2 }) hh fun h3 ex=>hQ h3 fun b o hb e=>ex b o ?_
 exact (sb2.2 b hb).trans ((sb1.2 b hb).trans e)
theorem zBz {Q:Bool->Shared->Prop} (h:Q (w.params.followText "set-order") s):wpAny (model prog w) A setsByText Q E s:=by
 unfold setsByText
 exact wpAny_bind (wpAny_askSetting (wpAny_pure h))
theorem zOA {a:Addr}{ep:Nat}{es:Array (Int × Value)}{t:SetTable}{Q:Array (Int × Value)->Shared->Prop} (ha:s.heap.get? a=some (qB es ep t)) (hf:t.fits es.size=true) (hb:w.params.followText "set-order" = true) (h:Q (pickOrder (w.params.setOrder a ep) es) s) :
  wpAny (model prog w) A (setWalk a) Q E s:=by
 unfold setWalk
 refine wpAny_bind (wpAny_setState_of ha rfl hf ?_)
 dsimp only
 refine wpAny_bind (zBz ?_)
 rw [hb]
 exact wpAny_bind (wpAny_askSetting (wpAny_pure h))
theorem zCA {I a:Addr}{f i ep:Nat}{es:Array (Int × Value)}{t:SetTable}{r:Option (Value × Nat)}{Q:Option Value->Shared->Prop} (hh:A.handled=none)
  (hi:s.heap.get? I=some (kL (.int f 0) i a es.size ep)) (ha:s.heap.get? a=some (qB es ep t)) (hf:t.fits es.size=true)
  (hr:∀ (A:Around) (E:Value->Shared->Prop) (Q:Option (Value × Nat)->Shared->Prop),Q r s->wpAny (model prog w) A (setNext a f i ep) Q E s)
  (hQ:∀ x j,r=some (x,j)->∀ h',h'.get? I=some (kL (.int j 0) (i+1) a es.size ep)->Heap.SameBut I s.heap h'->Q (some x) { s with heap:=h' })
  (hN:r=none->∀ h',(∀ b o,b≠I->s.heap.get? b=some o->h'.get? b=some o)->Q none { s with heap:=h' }) :
  wpAny (model prog w) A (pyNext (.ref I)) Q E s:=by
 have ty:s.TypeIs (.ref I) "set_iterator" := ⟨_,hi,rfl⟩
 unfold pyNext
 refine wpAny_bind (wpAny_attempt (wpAny_callSpecial?_slot (name:=Str.ofString "__next__") ty kK (wpAny_call_entry kK ty zDe ?_ (zDf _))))
 unfold Builtin.«set_iterator.__next__»
 refine wpAny_bind (m:=slotArgs "__next__" 0 _) (wpAny_pure ?_)
 refine wpAny_bind (wpAny_fieldsOf hi rfl ?_)
 dsimp only
 refine wpAny_bind (wpAny_setEntries_of ha rfl hf ?_)
 rw [if_neg (by simp)]
 rw [Int.toNat_natCast,Int.toNat_natCast,Int.toNat_natCast]
 refine wpAny_bind (hr _ _ _ ?_)
 match r,hQ,hN with
 | none,_,hN =>
  dsimp only
  refine wpAny_bind (wpAny_setField_rec hi (by simp) fun h1 e3 sb1=>?_)
  exact zHa (s:={ s with heap:=h1 }) hh fun h3 ex=>hN rfl h3 fun b o hb e=>ex b o ((sb1.2 b hb).trans e)
 | some (x,j),hQ,_ =>
  dsimp only
  refine wpAny_bind (wpAny_setField_rec hi (by simp) fun h1 e3 sb1=>?_)
  refine wpAny_bind (wpAny_setField_rec (s:={ s with heap:=h1 }) e3 (by simp) fun h2 e4 sb2=>?_)
  exact wpAny_pure ⟨_,rfl,wpAny_pure (hQ x j rfl h2 (by rw [e4]; rfl) (sb1.trans sb2))⟩
theorem zHb {a:Addr}{f i ep:Nat}{es:Array (Int × Value)}{t:SetTable}{Q:Option (Value × Nat)->Shared->Prop} (ha:s.heap.get? a=some (qB es ep t)) (hf:t.fits es.size=true) (hb:w.params.followText "set-order" = true)
  (h:Q (((pickOrder (w.params.setOrder a ep) es)[i]?).map fun e=>(e.2,f)) s):wpAny (model prog w) A (setNext a f i ep) Q E s:=by
 unfold setNext
 refine wpAny_bind (wpAny_setState_of ha rfl hf ?_)
 dsimp only
 refine wpAny_bind (zBz ?_)
 rw [hb,if_pos rfl,if_neg (by simp)]
 refine wpAny_bind (zOA ha hf hb ?_)
 exact wpAny_pure h
theorem zHc {a:Addr}{f i ep:Nat}{es:Array (Int × Value)}{t:SetTable}{Q:Option (Value × Nat)->Shared->Prop} (ha:s.heap.get? a=some (qB es ep t)) (hf:t.fits es.size=true) (hb:w.params.followText "set-order" = false) (hl:t.led=true) (h1:es.size<=1)
  (h:Q (match es[SetTable.below t.place f]?,t.place[SetTable.below t.place f]? with | some (_,x),some j=>some (x,j+1) | _,_=>none) s):wpAny (model prog w) A (setNext a f i ep) Q E s:=by
 unfold setNext
 refine wpAny_bind (wpAny_setState_of ha rfl hf ?_)
 dsimp only
 refine wpAny_bind (zBz ?_)
 rw [hb,if_neg (by decide)]
 refine wpAny_ite_split (fun hd=>?_) (fun _=>?_)
 ·have hd':(!t.plain && decide (es.size > 1))=true:=hd
  simp only [Bool.and_eq_true,decide_eq_true_eq] at hd'
  omega
 ·show wpAny _ _ ((if (!t.led && !es.isEmpty)=true then unsupported "set:maker-not-led" else pure ()) >>= _) _ _ _
  rw [hl,if_neg (by simp)]
  exact wpAny_bind (wpAny_pure (wpAny_pure h))
theorem zDg {α:Type}:∀ {l:List α}{i:Nat} (h:i < l.length),(l[i]::l.eraseIdx i).Perm l
 | x::l,0,h=>List.Perm.refl _
 | x::l,i+1,h=>by
  have q:=zDg (l:=l) (i:=i) (by simpa using h)
  exact (List.Perm.swap ..).trans (q.cons x)
theorem zDh {α:Type} (next:Nat->Nat) (xs:Array α):(pickOrder next xs).toList.Perm xs.toList:=by
 have go:∀ (fuel k:Nat) (left:List α) (out:Array α),left.length=fuel->(pickOrder.go next fuel k left out).toList.Perm (out.toList++left):=by
  intro fuel
  induction fuel with
  | zero =>
   intro k left out e
   rw [List.length_eq_zero_iff.mp e]
   simp [pickOrder.go]
  | succ fuel ih =>
   intro k left out e
   have lt:next k % left.length < left.length:=Nat.mod_lt _ (by omega)
   unfold pickOrder.go
   rw [List.getElem?_eq_getElem lt]
   dsimp only
   refine (ih _ _ _ (by rw [List.length_eraseIdx_of_lt lt,e]; rfl)).trans ?_
   rw [Array.toList_push,List.append_assoc]
   refine List.Perm.append_left _ ?_
   exact zDg lt
 have:=go xs.size 0 xs.toList #[] rfl
 simpa [pickOrder] using this
theorem zOB {src:Source}{n:Nat}{Q:Nat->Shared->Prop} (hn:0 < n) (h:∀ d r,r < n->Q r { s with drawn:=d }):wpAny (model prog w) A (choose src n) Q E s :=
 fun Γ p hΓ=>⟨Nat.ne_of_gt hn,h _ _ (Nat.mod_lt _ hn)⟩
theorem zHd {α:Type}:∀ (n:Nat) (xs:List α) {s:Shared}{Q:List α->Shared->Prop},xs.length=n->(∀ d ord,ord.Perm xs->Q ord { s with drawn:=d })->wpAny (model prog w) A (drawOrder n xs) Q E s
 | 0,xs,s,Q,e,h=>by
  rw [List.length_eq_zero_iff.mp e] at h
  unfold drawOrder
  have:s={ s with drawn:=s.drawn }:=rfl
  exact wpAny_pure (h s.drawn [] (List.Perm.refl _))
 | n+1,[],s,Q,e,h=>by cases e
 | n+1,x::xs,s,Q,e,h=>by
  unfold drawOrder
  refine wpAny_bind (zOB (by rw [e]; omega) fun d r hr=>?_)
  rw [List.getElem?_eq_getElem hr]
  dsimp only
  refine wpAny_bind (zHd n _ (by rw [List.length_eraseIdx_of_lt hr,e]; rfl) fun d2 ord pm=>?_)
  refine wpAny_pure (h d2 _ ?_)
  exact (pm.cons _).trans (zDg hr)
theorem zDi {I:Addr}{f:Value}{i:Nat}{a:Addr}{n ep:Nat}{Q:Value->Shared->Prop} (hi:s.heap.get? I=some (kL f i a n ep)) (h:Q (.ref I) s):wpAny (model prog w) A (pyIter (.ref I)) Q E s:=by
 have ty:s.TypeIs (.ref I) "set_iterator" := ⟨_,hi,rfl⟩
 refine wpAny_pyIter_slot ty zHZ (wpAny_call_entry zHZ ty zNv ?_ (zNw _))
 show wpAny _ _ (ret (.ref I)) _ _ s
 exact wpAny_pure ⟨_,rfl, "set_iterator",_,ty,kK.lookup,h⟩
theorem zOC {I a:Addr}{ep:Nat}{es:Array (Int × Value)}{t:SetTable} (hh:A.handled=none) (ne:a≠I) (hf:t.fits es.size=true) (hb:w.params.followText "set-order" = true) :
  Walks prog w A I [I,a] [I] es.size (fun i v=>((pickOrder (w.params.setOrder a ep) es).toList.map (·.2))[i]?=some v) (fun i h=>h.get? I=some (kL (.int 0 0) i a es.size ep)/\h.get? a=some (qB es ep t)) where
 sub:=fun b hb=>by simp at hb; simp [hb]
 frame:=fun _ _ _ st hk=>⟨hk I (by simp) _ st.1,hk a (by simp) _ st.2⟩
 item:=fun i s Q E lt st hQ=>by
  have ez:(pickOrder (w.params.setOrder a ep) es).size=es.size:=by rw [<- Array.length_toList,(zDh _ es).length_eq,Array.length_toList]
  have li:i < (pickOrder (w.params.setOrder a ep) es).size:=by rw [ez]; exact lt
  refine zCA (f:=0) (r:=some ((pickOrder (w.params.setOrder a ep) es)[i].2,0)) hh st.1 st.2 hf (fun A E Q q=>zHb st.2 hf hb (by rw [Array.getElem?_eq_getElem li]; exact q)) (fun x j e h' e1 sb=>?_) (fun e=>nomatch e)
  injection e with e
  injection e with e2 e3
  subst e2 e3
  refine hQ _ h' s.toks ?_ ⟨e1,(sb.2 a ne).trans st.2⟩ fun b o hb e=>(sb.2 b (by simpa using hb)).trans e
  rw [List.getElem?_map,Array.getElem?_toList,Array.getElem?_eq_getElem li]; rfl
 done:=fun s Q E st hQ=>by
  have ez:(pickOrder (w.params.setOrder a ep) es).size=es.size:=by rw [<- Array.length_toList,(zDh _ es).length_eq,Array.length_toList]
  refine zCA (f:=0) (r:=none) hh st.1 st.2 hf (fun A E Q q=>zHb st.2 hf hb (by rw [Array.getElem?_eq_none (by rw [ez]; exact Nat.le_refl _)]; exact q)) (fun _ _ e=>nomatch e) (fun _ h' k=>?_)
  exact hQ h' s.toks fun b o hb e=>k b o (by simpa using hb) e
 self:=fun _ _ _ _ st hQ=>zDi st.1 hQ
theorem zOD {I a T:Addr}{ep e1:Nat}{es:Array (Int × Value)}{t:SetTable}{pl:List Nat} (hh:A.handled=none) (ne:a≠I) (nt:T≠I) (hf:t.fits es.size=true) (hl:pl.length=es.size) (hp:∀ j∈pl,j < es.size) :
  Walks prog w A I [I,a,T] [I] es.size (fun i v=>(pl.map fun j=>(es.getD j (0,.none)).2)[i]?=some v) (fun i h=>h.get? I=some (kL (.ref T) i a es.size ep)/\h.get? a=some (qB es ep t)/\h.get? T=some (seqObj "tuple" (pl.map fun (i:Nat)=>rawInt i).toArray e1)) where
 sub:=fun b hb=>by simp at hb; simp [hb]
 frame:=fun _ _ _ st hk=>⟨hk I (by simp) _ st.1,hk a (by simp) _ st.2.1,hk T (by simp) _ st.2.2⟩
 item:=fun i s Q E lt st hQ=>by
  have li:i < pl.length:=by rw [hl]; exact lt
  have lj:pl[i] < es.size:=hp _ (List.getElem_mem li)
  refine zNy (j:=pl[i]) (x:=es[pl[i]]) st.1 st.2.1 hf st.2.2 (List.getElem?_eq_getElem li) (Array.getElem?_eq_getElem lj) fun h' e2 sb=>?_
  refine hQ _ h' s.toks ?_ ⟨e2,(sb.2 a ne).trans st.2.1,(sb.2 T nt).trans st.2.2⟩ fun b o hb e=>(sb.2 b (by simpa using hb)).trans e
  rw [List.getElem?_map,List.getElem?_eq_getElem li]
  simp [lj]
 done:=fun s Q E st hQ=>zNz hh st.1 st.2.1 hf st.2.2 (List.getElem?_eq_none (by rw [hl]; exact Nat.le_refl _)) fun h' k=>hQ h' s.toks fun b o hb e=>k b o (by simpa using hb) e
 self:=fun _ _ _ _ st hQ=>zDi st.1 hQ
theorem zOE (j:Nat):SetTable.below #[j] (j+1)=1:=by
 unfold SetTable.below
 simp [SetTable.below.go]
theorem zOF (j:Nat):SetTable.below #[j] 0=0:=by
 unfold SetTable.below
 simp [SetTable.below.go]
theorem zOG {I a:Addr}{ep:Nat}{es:Array (Int × Value)}{t:SetTable} (hh:A.handled=none) (ne:a≠I) (hf:t.fits es.size=true) (hb:w.params.followText "set-order" = false) (hl:t.led=true) (h1:es.size<=1) :
  Walks prog w A I [I,a] [I] es.size (fun i v=>(es.toList.map (·.2))[i]?=some v) (fun i h=>h.get? I=some (kL (.int ((if i=0 then 0 else t.place.getD 0 0+1:Nat):Int) 0) i a es.size ep)/\h.get? a=some (qB es ep t)) where
 sub:=fun b hb=>by simp at hb; simp [hb]
 frame:=fun _ _ _ st hk=>⟨hk I (by simp) _ st.1,hk a (by simp) _ st.2⟩
 item:=fun i s Q E lt st hQ=>by
  obtain rfl:i=0:=by omega
  have z1:es.size=1:=by omega
  have pz:t.place.size=1:=by
   simp only [SetTable.fits,Bool.and_eq_true,beq_iff_eq] at hf
   rw [hf.1,z1]
  obtain ⟨j, hj⟩ : ∃ j, t.place = #[j] := ⟨t.place[0], by apply Array.ext <;> simp [pz]; intro i hi; have : i = 0 := by omega
                                                          subst this; rfl⟩
  have li:0 < es.size:=by omega
  refine zCA (f:=0) (r:=some (es[0].2,j+1)) hh st.1 st.2 hf (fun A E Q q=>zHc st.2 hf hb hl h1 (by rw [hj,zOF,Array.getElem?_eq_getElem li]; exact q)) (fun x j' e h' e1 sb=>?_) (fun e=>nomatch e)
  injection e with e
  injection e with e2 e3
  subst e2 e3
  refine hQ _ h' s.toks ?_ ⟨?_,(sb.2 a ne).trans st.2⟩ fun b o hb e=>(sb.2 b (by simpa using hb)).trans e
  ·rw [List.getElem?_map,Array.getElem?_toList,Array.getElem?_eq_getElem li]; rfl
  ·rw [e1,hj]; rfl
 done:=fun s Q E st hQ=>by
  have nx:(match es[SetTable.below t.place (if es.size=0 then 0 else t.place.getD 0 0+1)]?,t.place[SetTable.below t.place (if es.size=0 then 0 else t.place.getD 0 0+1)]? with | some (_,x),some j=>some (x,j+1) | _,_=>(none:Option (Value × Nat)))=none:=by
   have hz:t.place.size=es.size:=by
    simp only [SetTable.fits,Bool.and_eq_true,beq_iff_eq] at hf
    exact hf.1
   by_cases z:es.size=0
   ·have:es=#[]:=Array.size_eq_zero_iff.mp z
    subst this
    simp
   ·have z1:es.size=1:=by omega
    obtain ⟨j, hj⟩ : ∃ j, t.place = #[j] := ⟨t.place[0], by apply Array.ext <;> simp [hz, z1]; intro i hi; have : i = 0 := by omega
                                                            subst this; rfl⟩
    rw [if_neg z,hj]
    have e4:(#[j]:Array Nat).getD 0 0=j:=rfl
    rw [e4,zOE,Array.getElem?_eq_none (by rw [z1]; exact Nat.le_refl _)]
  refine zCA (r:=none) hh st.1 st.2 hf (fun A E Q q=>zHc st.2 hf hb hl h1 (by rw [nx]; exact q)) (fun _ _ e=>nomatch e) (fun _ h' k=>?_)
  exact hQ h' s.toks fun b o hb e=>k b o (by simpa using hb) e
 self:=fun _ _ _ _ st hQ=>zDi st.1 hQ
theorem zOH {a:Addr}{es:Array (Int × Value)}{Q:Value->Shared->Prop} (hh:A.handled=none) (hS:zAM prog w s.heap a es)
  (hQ:∀ (I:Addr) (h1:Heap) (d:Drawn) (ord:List Value) (fp:List Addr) (St:Nat->Heap->Prop),ord.Perm (es.toList.map (·.2))->Walks prog w A I fp [I] es.size (fun i v=>ord[i]?=some v) St->St 0 h1->s.heap.objs.size<=I->(∀ b∈fp,b=a\/s.heap.objs.size<=b) ->
   (∀ b∈fp,b < h1.objs.size)->(∀ b o,s.heap.get? b=some o->h1.get? b=some o)->Q (.ref I) { s with heap:=h1,drawn:=d }) :
  wpAny (model prog w) A (pyIter (.ref a)) Q E s:=by
 obtain ⟨ep,t,ho,hel,hbd,hf,hled,hpl⟩:=id hS
 have ty:s.TypeIs (.ref a) "set" := ⟨_,ho,rfl⟩
 have la:a < s.heap.objs.size:=Heap.lt_size ho
 refine wpAny_pyIter_slot ty PySem.F.slot_set_iter (wpAny_call_entry PySem.F.slot_set_iter ty zNx ?_ (PySem.F.args_set_iter_1 _))
 unfold Builtin.«frozenset.__iter__» Builtin.Frozenset.slot0 Builtin.Frozenset.sizeOf
 refine wpAny_bind (wpAny_bind (m:=slotArgs "__iter__" 0 _) (wpAny_pure (wpAny_pure ?_)))
 refine wpAny_bind (wpAny_bind (wpAny_setEntries_of ho rfl hf (wpAny_pure ?_)))
 unfold setDrawn
 refine wpAny_bind (wpAny_bind (wpAny_setState_of ho rfl hf ?_))
 dsimp only
 refine wpAny_bind (zBz (wpAny_pure ?_))
 have szl:es.size<=sizeLine:=fits_of_scanBound hbd
 refine wpAny_ite_split (fun hd=>?_) (fun hd=>?_)
 ·refine wpAny_bind (zHd es.size (List.range es.size) (by simp) fun d pl pm=>?_)
  have pl_len:pl.length=es.size:=by rw [pm.length_eq,List.length_range]
  refine wpAny_bind (wpAny_newTuple ?_ (by rw [List.length_map,pl_len]; exact szl))
  have ho2:(s.heap.push (seqObj "tuple" (pl.map fun (i:Nat)=>rawInt i).toArray 0)).get? a=some (qB es ep t):=Heap.get?_push_of_some _ ho
  refine wpAny_bind (wpAny_setEpoch_of ho2 rfl hf ?_)
  refine wpAny_bind (wpAny_newObj_type (wpAny_pure ⟨_,rfl, "set_iterator",_,⟨_,Heap.get?_push_size _ rfl,rfl⟩,kK.lookup,hQ _ _ d _ _ _ ?pm (zOD (a:=a) (T:=s.heap.objs.size) (t:=t) (ep:=ep) (e1:=0) (pl:=pl) hh ?ne ?nt hf pl_len fun j hj=>List.mem_range.mp (pm.mem_iff.mp hj)) ?st ?ge ?fp ?lt ?kp⟩))
  case pm =>
   refine (pm.map _).trans ?_
   rw [show (List.range es.size).map (fun j=>(es.getD j (0,Value.none)).2)=es.toList.map (·.2) from ?_]
   apply List.ext_getElem
   ·simp
   ·intro i h1 h2
    have hi:i < es.size:=by simpa using h1
    simp [hi]
  case ne=>show a≠(s.heap.push _).objs.size; rw [Heap.size_push]; exact Nat.ne_of_lt (Nat.lt_succ_of_lt la)
  case nt=>show s.heap.objs.size≠(s.heap.push _).objs.size; rw [Heap.size_push]; exact Nat.ne_of_lt (Nat.lt_succ_self _)
  case st=>exact ⟨Heap.get?_push_size _ rfl,Heap.get?_push_of_some _ ho2,Heap.get?_push_of_some _ (Heap.get?_push_size _ rfl)⟩
  case ge=>show s.heap.objs.size<=(s.heap.push _).objs.size; rw [Heap.size_push]; exact Nat.le_succ _
  case fp =>
   intro b hb
   simp only [List.mem_cons,List.not_mem_nil,or_false] at hb
   rcases hb with rfl | rfl | rfl
   ·right; show s.heap.objs.size<=(s.heap.push _).objs.size; rw [Heap.size_push]; exact Nat.le_succ _
   ·exact .inl rfl
   ·exact .inr (Nat.le_refl _)
  case lt =>
   intro b hb
   simp only [List.mem_cons,List.not_mem_nil,or_false] at hb
   rw [Heap.size_push]
   rcases hb with rfl | rfl | rfl
   ·exact Nat.lt_succ_self _
   ·rw [Heap.size_push]; exact Nat.lt_succ_of_lt (Nat.lt_succ_of_lt la)
   ·rw [Heap.size_push]; exact Nat.lt_succ_of_lt (Nat.lt_succ_self _)
  case kp=>exact fun b o e=>Heap.get?_push_of_some _ (Heap.get?_push_of_some _ e)
 ·refine wpAny_bind (wpAny_pure ?_)
  refine wpAny_bind (wpAny_setEpoch_of ho rfl hf ?_)
  refine wpAny_bind (wpAny_newObj_type (wpAny_pure ⟨_,rfl, "set_iterator",_,⟨_,Heap.get?_push_size _ rfl,rfl⟩,kK.lookup,?_⟩))
  have ne:a≠s.heap.objs.size:=Nat.ne_of_lt la
  have fpo:∀ b∈[s.heap.objs.size,a],b=a\/s.heap.objs.size<=b:=fun b hb=>by
   simp only [List.mem_cons,List.not_mem_nil,or_false] at hb
   rcases hb with rfl | rfl
   ·exact .inr (Nat.le_refl _)
   ·exact .inl rfl
  have flt:∀ (o:Obj),∀ b∈[s.heap.objs.size,a],b < (s.heap.push o).objs.size:=fun o b hb=>by
   simp only [List.mem_cons,List.not_mem_nil,or_false] at hb
   rw [Heap.size_push]
   rcases hb with rfl | rfl
   ·exact Nat.lt_succ_self _
   ·exact Nat.lt_succ_of_lt la
  by_cases hb:w.params.followText "set-order" = true
  ·exact hQ _ _ s.drawn _ _ _ ((zDh _ es).map _) (zOC (a:=a) (ep:=ep) (t:=t) hh ne hf hb) ⟨Heap.get?_push_size _ rfl,Heap.get?_push_of_some _ ho⟩ (Nat.le_refl _) fpo (flt _) fun b o e=>Heap.get?_push_of_some _ e
  ·have hb':w.params.followText "set-order" = false:=by simpa using hb
   have h1:es.size<=1:=by
    have hd':¬ (!w.params.followText "set-order" && (!t.plain && decide (es.size > 1)))=true:=hd
    rw [hb'] at hd'
    rcases hpl with z | z
    ·omega
    ·rw [z] at hd'
     simpa using hd'
   have hl:t.led=true:=by rw [hled,hb']; rfl
   exact hQ _ _ s.drawn _ _ _ (List.Perm.refl _) (zOG (a:=a) (ep:=ep) (t:=t) hh ne hf hb' hl h1) ⟨Heap.get?_push_size _ rfl,Heap.get?_push_of_some _ ho⟩ (Nat.le_refl _) fpo (flt _) fun b o e=>Heap.get?_push_of_some _ e
end
end L2
end
section
namespace L2
open PySem PySem.Spec PyProof.Rows
section
variable {prog:Program}{w:World}{A:Around}{E:Value->Shared->Prop}{s:Shared}
theorem zOI:typeLookup (.type "set") "__len__" = pure (some (.builtin "set.__len__")):=by rw [typeLookup_type,builtinLookup_eq_fast]; kernel_rfl
theorem zOJ {r:Addr}{Q:Bool->Shared->Prop} (hT:s.TypeIs (.ref r) "set") (h:Q false s):wpAny (model prog w) A (Builtin.List.listLengthHint (.ref r)) Q E s:=by
 unfold Builtin.List.listLengthHint
 refine wpAny_bind (wpAny_specialOf hT zOI ?_)
 generalize hid:("set.__len__" : String)=id0
 wp_delta
 rw [show splitId id0=some ("set", "__len__") from by subst hid; decide +kernel]
 subst hid
 refine wpAny_bind (wpAny_isInstance (T := "set") (b:=true) hT (by rw [isSubtype_type]; kernel_rfl) ?_)
 refine wpAny_ite_split (fun hab=>absurd hab (by decide)) (fun _=>?_)
 refine wpAny_ite_split (fun _=>?_) (fun hab=>absurd (by decide +kernel) hab)
 refine wpAny_bind (wpAny_typeOf hT ?_)
 exact wpAny_pure h
theorem zOK {a:Addr}{es:Array (Int × Value)}{R:List Value->Shared->Prop} (hh:A.handled=none) (hS:zAM prog w s.heap a es)
  (h:∀ h' tk d ord,ord.Perm (es.toList.map (·.2))->(∀ b o,s.heap.get? b=some o->h'.get? b=some o)->R ord { s with heap:=h',toks:=tk,drawn:=d }) :
  wpAny (model prog w) A (collect (.ref a)) R E s:=by
 obtain ⟨ep,t,ho,hel,hbd,hf,hled,hpl⟩:=id hS
 have la:a < s.heap.objs.size:=Heap.lt_size ho
 unfold collect
 refine wpAny_bind (wpAny_runValue (codeAny_builtin PySem.F.entry_proto_collect ?_))
 rw [Around.under_plainId PySem.F.plain_proto_collect _]
 show wpAny _ A.in1 (newList [] >>= fun l=>again (.builtin "list.__iadd__" ⟨[l,.ref a],[]⟩)) _ _ s
 refine wpAny_bind (wpAny_newObj_type ?_)
 refine wpAny_pure ⟨plainId_quiet PySem.F.plain_list_iadd _,codeAny_builtin PySem.F.entry_list_iadd ?_⟩
 rw [Around.under_plainId PySem.F.plain_list_iadd _]
 show wpAny _ A.in1 (Builtin.List.listExtendWith (.ref s.heap.objs.size) (.ref a) (.ref s.heap.objs.size)) _ _ _
 have ho1:(s.heap.push { cls:=.type "list",data:=.seq ([]:List Value).toArray }).get? a=some (qB es ep t):=Heap.get?_push_of_some _ ho
 have hS1:zAM prog w (s.heap.push { cls:=.type "list",data:=.seq ([]:List Value).toArray }) a es:=⟨ep,t,ho1,hel,hbd,hf,hled,hpl⟩
 have hL:(s.heap.push { cls:=.type "list",data:=.seq ([]:List Value).toArray }).get? s.heap.objs.size=some { cls:=.type "list",data:=.seq #[] }:=Heap.get?_push_size _ rfl
 unfold Builtin.List.listExtendWith
 refine wpAny_bind (wpAny_typeOf (T := "set") ⟨_,ho1,rfl⟩ ?_)
 have ne:s.heap.objs.size≠a:=Nat.ne_of_gt la
 have q1:Builtin.List.listSameRef (.ref s.heap.objs.size) (.ref a)=false:=by simp [Builtin.List.listSameRef,ne]
 rw [if_neg (by rw [q1]; decide)]
 refine wpAny_bind (zOH (A:=A.in1) (s:={ s with heap:=s.heap.push { cls:=.type "list",data:=.seq ([]:List Value).toArray } }) hh hS1 fun I h1 d ord fp St pm W st ge fpo flt kp=>?_)
 dsimp only at ge fpo kp
 rw [Heap.size_push] at ge fpo
 have nf:s.heap.objs.size ∉ fp:=fun z=>by
  rcases fpo _ z with e | e
  ·exact ne e
  ·exact Nat.lt_irrefl _ e
 have hn:es.size<=sizeLine:=fits_of_scanBound hbd
 have ol:ord.length=es.size:=by rw [pm.length_eq,List.length_map,Array.length_toList]
 have key:∀ (g:Heap) (c₁:Nat),St 0 g->(∀ b o,b≠s.heap.objs.size->h1.get? b=some o->g.get? b=some o)->g.get? s.heap.objs.size=some { cls:=.type "list",data:=.seq #[] c₁ } ->
   codeAny (model prog w) A (.builtin "list.extend.loop" ⟨[.ref s.heap.objs.size,.ref I,.ref s.heap.objs.size],[]⟩) (fun q s'=>∃ (h':Heap) (tk:Nat) (acc:Array Value) (c':Nat),q=.ok (.ret (.ref s.heap.objs.size))/\s'={ s with heap:=h',toks:=tk,drawn:=d } /\
    (∀ b o,s.heap.get? b=some o->h'.get? b=some o)/\h'.get? s.heap.objs.size=some { cls:=.type "list",dict:=none,data:=.seq acc c',slots:=#[] }/\acc.toList=ord) { s with heap:=g,drawn:=d }:=by
  intro g c₁ hst hk hg
  refine codeAny_extend_loopS W.toS hn _ nf _ es.size 0 _ #[] c₁ rfl (Nat.zero_le _) hst hg (ItemsOf.nil _) fun s' acc' c' hm hS' hacc=>?_
  have e1:acc'.toList=ord:=by
   apply List.ext_getElem
   ·rw [Array.length_toList,hacc.1,ol]
   ·intro i i1 i2
    have:ord[i]?=some (acc'[i]'(by simpa using i1)):=hacc.2 i _ (Array.getElem?_eq_getElem (by simpa using i1))
    rw [List.getElem?_eq_getElem i2] at this
    injection this with this
    simpa using this.symm
  refine ⟨s'.heap,s'.toks,acc',c',rfl,Moved.eq_with hm,fun b o e=>?_,hS',e1⟩
  have nb:b≠s.heap.objs.size:=Nat.ne_of_lt (Heap.lt_size e)
  refine hm.heap b o (fun z=>?_) (hk b o nb (kp b o (Heap.get?_push_of_some _ e)))
  rcases List.mem_cons.mp z with e' | z
  ·exact nb e'
  ·rw [List.mem_singleton.mp z] at e
   exact absurd (Heap.lt_size e) (Nat.not_lt.mpr (Nat.le_of_succ_le ge))
 have fin : ∀ (q : Result) (s' : Shared), (∃ (h' : Heap) (tk : Nat) (acc : Array Value) (c' : Nat), q = .ok (.ret (.ref s.heap.objs.size)) /\ s' = { s with heap := h', toks := tk, drawn := d } /\
       (∀ b o,s.heap.get? b=some o->h'.get? b=some o)/\h'.get? s.heap.objs.size=some { cls:=.type "list",dict:=none,data:=.seq acc c',slots:=#[] }/\acc.toList=ord) ->
   q=.ok (.ret (.ref s.heap.objs.size))/\wpAny (model prog w) A (load s.heap.objs.size >>= fun o=>match o.data with | .seq xs _=>pure xs.toList | _=>unsupported "internal:collect") R E s':=by
  rintro q s' ⟨h',tk,acc,c',rfl,rfl,kk,hg,e1⟩
  refine ⟨rfl,wpAny_bind (wpAny_load hg ?_)⟩
  show wpAny _ _ (pure acc.toList) _ _ _
  rw [e1]
  exact wpAny_pure (h h' tk d ord pm kk)
 have hL1:=kp _ _ hL
 have hoa:=kp _ _ ho1
 refine wpAny_bind (wpAny_holding (zOJ (s:={ s with heap:=h1,drawn:=d }) ⟨_,hoa,rfl⟩ ?_))
 refine wpAny_ite_split (fun _=>?_) (fun _=>wpAny_pure ⟨plainId_quiet PySem.F.plain_extend_loop _,codeAny_mono (key h1 _ st (fun b o _ e=>e) hL1) fun q s' y=>?_⟩)
 ·refine wpAny_bind (wpAny_rule ?_)
  refine wpAny_bind ?_
  show wpAny _ _ (updateSeq s.heap.objs.size (·.push .none) >>= fun _=>updateSeq s.heap.objs.size (·.pop)) _ _ _
  refine wpAny_bind (wpAny_updateSeq hL1 rfl ?_)
  have hL2:=Heap.get?_update_self (Obj.mapSeq (·.push Value.none)) hL1 rfl
  refine wpAny_updateSeq (hz:=by seq_fits) hL2 rfl ?_
  have hL3:=Heap.get?_update_self (Obj.mapSeq (·.pop)) hL2 rfl
  refine wpAny_pure ⟨plainId_quiet PySem.F.plain_extend_loop _,codeAny_mono (key _ _ ?_ (fun b o hb e=>?_) hL3) fun q s' y=>?_⟩
  ·refine W.frame 0 _ _ st fun b hb o e=>?_
   have hbS:b≠s.heap.objs.size:=fun z=>nf (z ▸ hb)
   exact (Heap.get?_update_other _ _ (Ne.symm hbS)).trans ((Heap.get?_update_other _ _ (Ne.symm hbS)).trans e)
  ·exact (Heap.get?_update_other _ _ (Ne.symm hb)).trans ((Heap.get?_update_other _ _ (Ne.symm hb)).trans e)
  ·obtain ⟨rfl,y2⟩:=fin q s' y
   exact y2
 ·obtain ⟨rfl,y2⟩:=fin q s' y
  exact y2
end
section
open MyS PySem.W
variable {X:Cx}{pins:List (Addr × Obj)}{σ:List (Option V)}{H:Hp}{s:Shared}
theorem Inv.draw {h':Heap}{tk:Nat}{d:Drawn} (I:Inv X pins σ H { s with heap:=h',toks:=tk }):Inv X pins σ H { s with heap:=h',toks:=tk,drawn:=d } :=
 ⟨I.ok,I.os,I.bare,I.base,I.loc,I.cell,I.free,I.freeC,I.pin,I.hok,I.len⟩
theorem Inv.grown {h':Heap}{tk:Nat} (I:Inv X pins σ H s) (k:∀ b u,s.heap.get? b=some u->h'.get? b=some u):Inv X pins σ H { s with heap:=h',toks:=tk } :=
 I.un (Un.kept k) (I.hok.kept k)
theorem zOL (hc:X.calm=true) {a:Addr}{ks:List Str}{Q:VK} (I:Inv X pins σ H s) (hS:jJ X.prog X.w s.heap a ks) (h64:ks.length < 64)
  (q:∀ (out:List Str) (l:Addr),(∀ x,x∈out↔x∈ks)->out.Pairwise (fun a b=>a.cps.toList < b.cps.toList)->H l=none->Q (.ref l) (upd H l (.lst (out.map V.str)))) :
  wpAny (model X.prog X.w) X.A (call (.builtin "sorted") [.ref a]) (EP X pins σ Q) X.xe s:=by
 obtain ⟨es,sx,nd,mem,sz⟩:=hS
 refine Calls.call_function_entry kind_sorted plain_sorted entry_sorted (args_sorted1 _) ?_
 unfold Builtin.«sorted»
 refine wpAny_bind (m:=checkCount "sorted" 1 1 _) (wpAny_pure ?_)
 refine wpAny_bind (zOK (A:=X.A.in1) (I.ok.hd hc) sx fun h' tk d ord pm hk=>?_)
 have I1:Inv X pins σ H { s with heap:=h',toks:=tk,drawn:=d }:=(I.grown hk).draw
 obtain ⟨ep,t,ho,hel,_⟩:=sx
 have hstr:∀ v∈ord,∃ x u,v=Value.str x u:=fun v hv=>by
  obtain ⟨e,he,rfl⟩:=List.mem_map.mp (pm.mem_iff.mp hv)
  obtain ⟨⟨k,hk',_⟩,_⟩:=hel e he
  obtain ⟨u,e2⟩:=Value.isStrOf_shape hk'
  exact ⟨k,u,e2⟩
 have hS:StrsAre ord (ord.map uH):=by
  have go:∀ l:List Value,(∀ v∈l,∃ x u,v=Value.str x u)->StrsAre l (l.map uH):=by
   intro l
   induction l with
   | nil=>intro _; exact .nil
   | cons v l ih =>
    intro hl
    obtain ⟨x,u,rfl⟩:=hl v (List.mem_cons_self ..)
    exact .cons _ _ (ih fun v hv=>hl v (List.mem_cons_of_mem _ hv))
  exact go ord hstr
 have pt:(ord.map uH).Perm (jD es):=by
  have:=pm.map uH
  rw [List.map_map] at this
  exact this
 have hnd:(ord.map uH).Nodup:=pt.nodup_iff.mpr nd
 have ol:ord.length=es.size:=by rw [pm.length_eq,List.length_map,Array.length_toList]
 have h64':ord.length < 64:=by omega
 refine wpAny_bind (wpAny_newList ?_ (by rw [sizeLine_eq]; omega))
 dsimp only
 generalize hB:h'.objs.size=B
 have hoL:(h'.push { cls:=.type "list",data:=.seq ord.toArray }).get? B=some (seqObj "list" ord.toArray 0):=by
  rw [<- hB]; exact Heap.get?_push_size _ rfl
 have old:∀ b o,h'.get? b=some o->(h'.push { cls:=.type "list",data:=.seq ord.toArray }).get? b=some o/\b≠B:=fun b o e=>⟨Heap.get?_push_of_some _ e,by rw [<- hB]; exact Nat.ne_of_lt (Heap.lt_size e)⟩
 refine wpAny_bind (wpAny_holding (wpAny_call_entry slot_list_sort ⟨_,hoL,rfl⟩ entry_list_sort (sort_strs (ks:=ord.map uH) hoL hS hnd h64' fun p h2 e2 hp1 hp2 hk2 ho2=>⟨_,rfl,?_⟩) (args_list_sort _)))
 refine wpAny_pure ⟨_,rfl,?_⟩
 have hold:∀ b o,h'.get? b=some o->h2.get? b=some o:=fun b o e=>hk2 b o (old _ _ e).2 (old _ _ e).1
 refine ⟨.ref B,_,I1.laid (t':=tk) (o:=.lst ((p.map fun i=>(ord.map uH).getD i ⟨#[]⟩).map V.str)) hold (Nat.le_of_eq hB) ⟨?_,_,_,?_,ho2⟩,rfl,q _ B ?_ ?_ (I1.hok.fresh (Nat.le_of_eq hB))⟩
 ·rw [List.length_map,List.length_map,hp1.length_eq,List.length_range,sizeLine_eq]; omega
 ·have go:∀ l:List Nat,(∀ i∈l,i < ord.length)->zM ((l.map fun i=>(ord.map uH).getD i ⟨#[]⟩).map V.str) (l.map fun i=>ord.getD i Value.none):=by
   intro l
   induction l with
   | nil=>intro _; exact .nil
   | cons i l ih =>
    intro hl'
    have hi:i < ord.length:=hl' i (List.mem_cons_self ..)
    refine .cons ?_ (ih fun j hj=>hl' j (List.mem_cons_of_mem _ hj))
    obtain ⟨x,u,e⟩:=hstr ord[i] (List.getElem_mem hi)
    have a1:ord.getD i Value.none=Value.str x u:=by simp [hi,e]
    have a2:(ord.map uH).getD i ⟨#[]⟩=x:=by simp [hi,e,uH]
    show zT (V.str ((ord.map uH).getD i ⟨#[]⟩)) (ord.getD i Value.none)
    rw [a1,a2]
    exact ⟨_,rfl⟩
  exact go p fun i hi=>List.mem_range.mp (hp1.mem_iff.mp hi)
 ·intro x
  have e1:(List.range ord.length).map (fun i=>(ord.map uH).getD i (⟨#[]⟩:Str))=ord.map uH:=by
   apply List.ext_getElem
   ·simp
   ·intro i h1 h2
    have hi:i < ord.length:=by simpa using h1
    simp [hi]
  have p2:=hp1.map (fun i=>(ord.map uH).getD i (⟨#[]⟩:Str))
  rw [e1] at p2
  rw [p2.mem_iff,pt.mem_iff]
  exact mem x
 ·rw [List.pairwise_map]
  rw [List.pairwise_map] at hp2
  exact hp2
def zDj (K:PySem.W.Frag) (x:V) (H:Hp) (Q:VK):Prop:=∃ (p:Addr) (ks:List Str),x=.ref p/\zZ K H p (ks.map V.str)/\ks.length < 64 /\
 ∀ (out:List Str) (l:Addr),(∀ x,x∈out↔x∈ks)->out.Pairwise (fun a b=>a.cps.toList < b.cps.toList)->H l=none->Q (.ref l) (upd H l (.lst (out.map V.str)))
def zOM (K:PySem.W.Frag) (t:TE):TE:=fun σ H Q=>t σ H fun x H1=>zDj K x H1 Q
theorem zON {x y:Str}{e:Expr}{te:TE}{p p2 pos pos2:Pos} (hc:X.calm=true) (he:PE X e te) (hg:Gl X x) (hm:X.mg x=none) (hv:bootBuiltins x=some (.builtin "sorted")) (hg2:Gl X y) (hm2:X.mg y=none) (hv2:bootBuiltins y=some (.type "set"))
  (hn:x ≠ "__name__" := by decide) (hdb:(x == ("__debug__" : Str))=false:=by decide) (hn2:y ≠ "__name__" := by decide) (hdb2:(y == ("__debug__" : Str))=false:=by decide)
  (hs:starEach [e] X.env=(false,eval e X.env)::starEach [] X.env:=by rfl)
  (hs2:starEach [Expr.Call (.Name y p2) [e] [] pos2] X.env=(false,eval (Expr.Call (.Name y p2) [e] [] pos2) X.env)::starEach [] X.env:=by rfl) :
  PE X (.Call (.Name x p) [.Call (.Name y p2) [e] [] pos2] [] pos) (zOM X.K te):=by
 intro pins s σ H Q I h
 refine wpAny_Call_Name_kw (j4 I hg hm hv ?_ hn hdb)
 refine PyProof.Rows.callWith_builtin1 ?_ hs2 rfl
 rw [hs2]
 show wpAny _ _ (spliced ((false,eval (Expr.Call (.Name y p2) [e] [] pos2) X.env)::backTo pos (starEach [] X.env))) _ _ s
 refine Calls.spliced_cons ?_
 refine wpAny_Call_Name_kw (j4 I hg2 hm2 hv2 ?_ hn2 hdb2)
 refine PyProof.Rows.callWith_type1 (zJ (zA he zC hs pos2 pins s σ H (fun xs H1=>match xs with | [x]=>zDj X.K x H1 Q | _=>False) I ?_) fun us s1 ⟨vs,H1,I1,r1,q1⟩=>?_) hs rfl
 ·exact h
 ·obtain ⟨x,rfl,q1⟩:∃ x,vs=[x]/\zDj X.K x H1 Q:=by
   match vs,q1 with
   | [x],q1=>exact ⟨x,rfl,q1⟩
   | [],q1=>exact q1.elim
   | _::_::_,q1=>exact q1.elim
  obtain ⟨a,ks,rfl,hsq,h64,q⟩:=q1
  obtain ⟨u,rfl,ru⟩:=uU r1
  cases ru
  obtain ⟨its,rv,tp,_⟩:=I1.tuple hsq
  have hlen:its.toArray.size=ks.length:=by have:=rv.length; simp at this; simp [this]
  refine zNu (A:=X.A) (I.ok.hd hc) tp hlen (fun i v hv=>?_) (by unfold scanBound; omega) fun h' tk sk k=>?_
  ·have hi:i < ks.length:=by
    rw [<- hlen]
    exact (Array.getElem?_eq_some_iff.mp hv).1
   obtain ⟨u,e1,e2⟩:=rv.get (i:=i) (x:=.str (ks.getD i ⟨#[]⟩)) (by rw [List.getElem?_map]; simp [hi])
   have e3:its[i]?=some v:=by simpa using hv
   rw [e1] at e3
   injection e3 with e3
   subst e3
   obtain ⟨t,rfl⟩:=e2
   simp [Value.isStrOf]
  ·refine Calls.spliced_nil ?_
   exact zOL hc (I1.grown (tk:=tk) fun b u e=>k b u (Heap.lt_size e) e) sk h64 q
end
end L2
end
section
namespace L2
open PySem PySem.Spec PyProof.Rows
theorem zOO (l1 l2:Addr) (xs ys:Array Value) :
  Meets (Builtin.«zip.__new__» ⟨[.type "zip",.ref l1,.ref l2],[]⟩) (fun _ R s=>s.heap.IsTuple l1 xs/\s.heap.IsTuple l2 ys /\
   R (.ok (.ret (.ref (s.heap.objs.size+4)))) { s with heap:=((((s.heap.push { cls:=.type "tuple_iterator",data:=.fields #[.ref l1,.int 0 0] }).push { cls:=.type "tuple_iterator",data:=.fields #[.ref l2,.int 0 0] }).push { cls:=.type "tuple",data:=.seq #[.ref s.heap.objs.size,.ref (s.heap.objs.size+1)] }).push { cls:=.type "tuple",data:=.seq #[.none,.none] }).push { cls:=.type "zip",data:=.fields #[.none,.bool false,.bool false,.ref (s.heap.objs.size+2),.ref (s.heap.objs.size+3)] } }) :=
 .of_wp fun prog w A R s h=>by
  obtain ⟨hp,g,d,tk,os⟩:=s; obtain ⟨hl1,hl2,h⟩:=h
  have hsub:=sub_zip
  have hL1:Heap.IsTuple (Shared.heap ⟨hp,g,d,tk,os⟩) l1 xs:=hl1
  have hL2:Heap.IsTuple (Shared.heap ⟨hp.push { cls:=.type "tuple_iterator",data:=.fields #[.ref l1,.int 0 0] },g,d,tk,os⟩) l2 ys:=Heap.IsTuple.push hl2 _
  wp_walk using wpAny_pyIter_tuple hL1,wpAny_pyIter_tuple hL2
  refine ⟨_,rfl,?_⟩
  simp only [Heap.size_push] at *
  exact h
section
variable {prog:Program}{w:World}{A:Around}{E:Value->Shared->Prop}{s:Shared}
theorem zOP {l1 l2:Addr}{xs ys:Array Value}{Q:Value->Shared->Prop} (hl1:s.heap.IsTuple l1 xs) (hl2:s.heap.IsTuple l2 ys)
  (h:∀ h',IsZip h' (s.heap.objs.size+4) (s.heap.objs.size+2) (s.heap.objs.size+3) .none->IsPair h' (s.heap.objs.size+2) (.ref s.heap.objs.size) (.ref (s.heap.objs.size+1)) ->
   IsPair h' (s.heap.objs.size+3) .none .none->h'.IsTupleIter s.heap.objs.size l1 0->h'.IsTupleIter (s.heap.objs.size+1) l2 0 ->
   (∀ c o,s.heap.get? c=some o->h'.get? c=some o)->Q (.ref (s.heap.objs.size+4)) { s with heap:=h' }) :
  wpAny (model prog w) A (call (.type "zip") [.ref l1,.ref l2]) Q E s:=by
 refine callType_new F.called_zip (by decide) (F.typeCall_zip_2 _ _) (F.newCall_zip_2 _ _) (fun obj=>F.args_object_init_3 obj _ _) F.entry_zip_new (zOO l1 l2 xs ys) ⟨hl1,hl2,?_⟩
 have g5:∀ (h:Heap) (o:Obj) (n:Nat),h.objs.size=n->o.isFreed=false->(h.push o).get? n=some o:=fun h o n e f=>by subst e; exact Heap.get?_push_size _ f
 have z1:∀ (h:Heap) (o:Obj) (n:Nat),h.objs.size=n->(h.push o).objs.size=n+1:=fun h o n e=>by rw [Heap.size_push,e]
 have y1:=z1 s.heap { cls:=.type "tuple_iterator",data:=.fields #[.ref l1,.int 0 0] } _ rfl
 have y2:=z1 _ { cls:=.type "tuple_iterator",data:=.fields #[.ref l2,.int 0 0] } _ y1
 have y3:=z1 _ { cls:=.type "tuple",data:=.seq #[.ref s.heap.objs.size,.ref (s.heap.objs.size+1)] } _ y2
 have y4:=z1 _ { cls:=.type "tuple",data:=.seq #[.none,.none] } _ y3
 have e5:=g5 _ { cls:=.type "zip",data:=.fields #[.none,.bool false,.bool false,.ref (s.heap.objs.size+2),.ref (s.heap.objs.size+3)] } _ y4 rfl
 show _/\_
 exact ⟨⟨_,e5,rfl⟩,h _ e5 (Heap.get?_push_of_some _ (Heap.get?_push_of_some _ (g5 _ _ _ y2 rfl))) (Heap.get?_push_of_some _ (g5 _ _ _ y3 rfl))
  ⟨_,Heap.get?_push_of_some _ (Heap.get?_push_of_some _ (Heap.get?_push_of_some _ (Heap.get?_push_of_some _ (g5 _ _ _ rfl rfl)))),rfl,rfl⟩
  ⟨_,Heap.get?_push_of_some _ (Heap.get?_push_of_some _ (Heap.get?_push_of_some _ (g5 _ _ _ y1 rfl))),rfl,rfl⟩
  fun c o x=>Heap.get?_push_of_some _ (Heap.get?_push_of_some _ (Heap.get?_push_of_some _ (Heap.get?_push_of_some _ (Heap.get?_push_of_some _ x))))⟩
end
def zDk (K:PySem.W.Frag) (a b:Addr):It :=
 ⟨fun i H=>∃ xs ys x y,zZ K H a xs/\zZ K H b ys/\xs[i]?=some x/\ys[i]?=some y,
  fun i H x H'=>∃ T x1 y1,x=.ref T/\H T=none/\H'=upd H T (.tup [x1,y1])/\(∀ xs,zZ K H a xs->xs[i]?=some x1)/\(∀ ys,zZ K H b ys->ys[i]?=some y1),
  fun i H=>∃ xs ys,zZ K H a xs/\zZ K H b ys/\(i=xs.length\/i < xs.length/\i=ys.length)⟩
structure Znt (n a b:Nat) (i:Nat) (h:Heap):Prop where
 zz:IsZip h (n+4) (n+2) (n+3) .none
 ti:IsPair h (n+2) (.ref n) (.ref (n+1))
 to:∃ u v,IsPair h (n+3) u v
 i1:h.IsTupleIter n a i
 i2:gB true h (n+1) b i
theorem zOQ {P:Program}{w:World}{K:PySem.W.Frag}{elts:List Expr}{kk:Nat}{pos:Pos}{n a b:Nat} (ha:a < n) (hb:b < n):Turn P w K (.Tuple elts kk pos) (zDk K a b) [n+4,n+2,n+3,n,n+1] (n+4) (Znt n a b) where
 mem:=by simp
 obj:=fun i h st c hc=>by
  have hc':c=n+4\/c=n+2\/c=n+3\/c=n\/c=n+1:=by simpa using hc
  rcases hc' with z | z | z | z | z
  ·rw [z]; exact ⟨_,st.zz,fun v z=>by cases z⟩
  ·rw [z]; exact ⟨_,st.ti,fun v z=>by cases z⟩
  ·rw [z]; obtain ⟨u,v,e⟩:=st.to; exact ⟨_,e,fun v z=>by cases z⟩
  ·rw [z]; obtain ⟨o,e,c,d⟩:=st.i1; exact ⟨o,e,fun v z=>by rw [d] at z; cases z⟩
  ·rw [z]; exact st.i2.obj
 keep:=fun i h h' st k=>⟨k _ (by simp) _ st.zz,k _ (by simp) _ st.ti,let ⟨u,v,e⟩:=st.to; ⟨u,v,k _ (by simp) _ e⟩,st.i1.at fun o e=>k _ (by simp) o e,st.i2.keep fun o e=>k _ (by simp) o e⟩
 item:=by
  intro X hP hw hK hc i pins s σ H E I hf st hg
  subst hP hw hK
  obtain ⟨xs,ys,x,y,hq1,hq2,hx,hy⟩:=hg
  obtain ⟨its,rv,p,hz⟩:=I.tuple hq1
  obtain ⟨u,hu,ru⟩:=rv.get hx
  obtain ⟨jts,T2,rv2,D2,to2,of2⟩:=zHW (tp:=true) I hc hq2 (jT 1 hb)
  obtain ⟨v,hv,rw2⟩:=rv2.get hy
  have D1:=zDb (prog:=X.prog) (w:=X.w) (A:=X.A.in1) (show X.A.in1.handled=none from I.ok.hd hc) n a (jT 0 ha) its.toArray
  obtain ⟨t0,t00,hTO⟩:=st.to
  have l1:i < its.toArray.size:=by have:=(List.getElem?_eq_some_iff.mp hu).1; simpa using this
  have l2:i < jts.length:=(List.getElem?_eq_some_iff.mp hv).1
  refine zNf D1 D2 (zDc ha hb) st.zz st.ti hTO ⟨st.i1,p⟩ (to2 _ st.i2) l1 l2 fun x' y' h' tk px py a1 a2 a3 a4 a5 a6 hk=>?_
  have hx':x'=u:=by
   have:its[i]?=some x':=by simpa using px
   rw [hu] at this; exact (Option.some.inj this).symm
  have hy':y'=v:=by
   have:jts[i]?=some y':=py
   rw [hv] at this; exact (Option.some.inj this).symm
  subst hx' hy'
  refine ⟨_,rfl,wpAny_letOwnedTupleGo_zip a1 fun h2 hz2 hs2=>?_⟩
  have hTn:s.heap.get? s.heap.objs.size=none:=by
   cases g:s.heap.get? s.heap.objs.size with
   | none=>rfl
   | some o=>exact absurd (Heap.lt_size g) (Nat.lt_irrefl _)
  have hzl:n+4 < s.heap.objs.size:=Heap.lt_size st.zz
  have hT2:IsPair h2 s.heap.objs.size x' y':=(hs2.2 _ (Nat.ne_of_gt hzl)).trans a5
  have S:=zDc ha hb
  refine ⟨.ref s.heap.objs.size,upd H s.heap.objs.size (.tup [x,y]),I.turnedT (fp:=[n+4,n+2,n+3,n,n+1]) (h':=h2) (t':=tk) (fun c o hcf q=>?_) hf hTn ⟨by show 2<=sizeLine; decide,[x',y'],.cons ru (.cons rw2 .nil),⟨_,hT2,rfl,_,rfl⟩⟩,rfl,
   ⟨_,x,y,rfl,I.hok.free hTn,rfl,(fun zs hzs=>by rw [I.tuple_inj hzs hq1]; exact hx),(fun zs hzs=>by rw [I.tuple_inj hzs hq2]; exact hy)⟩,
   ⟨hz2,(hs2.2 _ S.TIz).trans (hk _ _ S.TIz S.TITO S.TIi1 S.TIi2 st.ti),⟨_,_,(hs2.2 _ S.TOz).trans a2⟩,a3.1.at fun o q=>(hs2.2 n S.i1z).trans q,(of2 _ _ a4).keep fun o q=>(hs2.2 (n+1) S.i2z).trans q⟩,fun c hcf=>?_⟩
  ·have c1:c≠n+4:=fun z=>hcf (by simp [z])
   have c2:c≠n+3:=fun z=>hcf (by simp [z])
   have c3:c≠n:=fun z=>hcf (by simp [z])
   have c4:c≠n+1:=fun z=>hcf (by simp [z])
   exact (hs2.2 c c1).trans (hk c o c1 c2 c3 c4 q)
  ·rw [zU]
   ·exact (hf c hcf).1
   ·rintro rfl
    have hc':s.heap.objs.size=n+4\/s.heap.objs.size=n+2\/s.heap.objs.size=n+3\/s.heap.objs.size=n\/s.heap.objs.size=n+1:=by simpa using hcf
    omega
 done:=by
  intro X hP hw hK hc i pins s σ H E I hf st hg
  subst hP hw hK
  obtain ⟨xs,ys,hq1,hq2,hx⟩:=hg
  obtain ⟨its,rv,p,hz⟩:=I.tuple hq1
  obtain ⟨jts,T2,rv2,D2,to2,of2⟩:=zHW (tp:=true) I hc hq2 (jT 1 hb)
  have e1:=rv.length
  have e2:=rv2.length
  have D1:=zDb (prog:=X.prog) (w:=X.w) (A:=X.A.in1) (show X.A.in1.handled=none from I.ok.hd hc) n a (jT 0 ha) its.toArray
  obtain ⟨t0,t00,hTO⟩:=st.to
  refine zNg D1 D2 (zDc ha hb) st.zz st.ti hTO ⟨st.i1,p⟩ (to2 _ st.i2) (by rw [List.size_toArray]; omega) fun h' tk hk=>⟨rfl,I.turnedF (fp:=[n+4,n+2,n+3,n,n+1]) (fun c o hcf q=>?_) hf⟩
  exact hk c o (fun z=>hcf (by simp [z])) (fun z=>hcf (by simp [z])) (fun z=>hcf (by simp [z])) (fun z=>hcf (by simp [z])) q
 self:=fun A i s Q E st h=>wpAny_pyIter_zip st.zz h
section
variable {X:Cx}{elts:List Expr}{k:Nat}{tpos:Pos}
def zOR (K:PySem.W.Frag) (ta:TA):TI:=fun σ H R=>ta σ H fun vs H1=>∃ a b xs ys,vs=[.ref a,.ref b]/\zZ K H1 a xs/\zZ K H1 b ys/\R (zDk K a b) H1
theorem zOS {e f:Expr}{ta:TA}{p pos:Pos} (hg:Gl X "zip") (hm:X.mg "zip" = none) (ha:PA X [e,f] ta) (hs:starEach [e,f] X.env=[(false,eval e X.env),(false,eval f X.env)]:=by rfl) (hs2:starEach [f] X.env=[(false,eval f X.env)]:=by rfl) :
  PI X (.Tuple elts k tpos) (.Call (.Name "zip" p) [e,f] [] pos) (zOR X.K ta):=by
 intro pins s σ H R I h
 refine Call_ (j4 I hg hm boot_zip (PyProof.Rows.callWith_type1 (zJ (ha pos pins s σ H _ I h) fun us s1 ⟨vs,H1,I1,r1,q1⟩=>?_) (by rw [hs,hs2]) (by rw [hs2]; rfl)))
 obtain ⟨a,b,xs,ys,rfl,hl,hb,q⟩:=q1
 cases r1 with
 | cons ra rr =>
 cases rr with
 | cons rb rn =>
 cases rn
 cases ra
 cases rb
 obtain ⟨its,rv,pa,hz⟩:=I1.tuple hl
 have fresh:∀ (h':Heap),(∀ c o,s1.heap.get? c=some o->h'.get? c=some o)->∀ c∈[s1.heap.objs.size+4,s1.heap.objs.size+2,s1.heap.objs.size+3,s1.heap.objs.size,s1.heap.objs.size+1],qE X pins H1 c:=fun h' hk c hc=>by
  have hc':s1.heap.objs.size<=c:=by
   have:c=s1.heap.objs.size+4\/c=s1.heap.objs.size+2\/c=s1.heap.objs.size+3\/c=s1.heap.objs.size\/c=s1.heap.objs.size+1:=by simpa using hc
   omega
  exact I1.fpOk hc' (I1.hok.fresh hc')
 have pa':s1.heap.IsTuple a its.toArray:=pa
 have la:a < s1.heap.objs.size:=let ⟨o,e,_⟩:=pa'; Heap.lt_size e
 obtain ⟨jts,rv2,pb,hz2⟩:=I1.tuple hb
 have pb':s1.heap.IsTuple b jts.toArray:=pb
 have lb:b < s1.heap.objs.size:=let ⟨o,e,_⟩:=pb'; Heap.lt_size e
 refine zOP pa' pb' fun h' a1 a2 a3 a4 a5 hk=>?_
 exact wpAny_pyIter_zip a1 ⟨_,[s1.heap.objs.size+4,s1.heap.objs.size+2,s1.heap.objs.size+3,s1.heap.objs.size,s1.heap.objs.size+1],_,_,H1,rfl,I1.kept (t':=s1.toks) hk,zOQ la lb,⟨a1,a2,⟨_,_,a3⟩,a4,a5⟩,fresh h' hk,q⟩
end
end L2
end
section
namespace L2
open PySem PySem.Spec PyProof.Rows
section
variable {X:Cx}
end
section
variable {prog:Program}{w:World}{A:Around}{E:Value->Shared->Prop}{s:Shared}
theorem zOT {t sl:Addr}{items:Array Value}{vl vu:Value}{lo hi:Option Int}{Q:Value->Shared->Prop} (ht:IsTup s.heap t items) (hs:s.heap.IsSliceOf sl vl vu .none) (pl:IsPart vl lo) (pu:IsPart vu hi)
  (hw:HT.sIx items.size 0 lo=0/\HT.sIx items.size items.size hi=items.size)
  (h:Q (.ref t) s)
  (hsz:items.size<=sizeLine):wpAny (model prog w) A (getItem (.ref t) (.ref sl)) Q E s:=by
 obtain ⟨os,hos,hcs,hds⟩:=id hs
 have hTs:s.TypeIs (.ref sl) "slice" := ⟨os,hos,hcs⟩
 unfold getItem
 try with_reducible refine wpAny_holding ?_
 first | refine wpAny_bind (wpAny_pure ?_) | skip
 refine wpAny_bind (wpAny_sequenceKey ht.typeIs (by decide) ?_)
 refine wpAny_bind (wpAny_callSpecial?_slot (name:=Str.ofString "__getitem__") ht.typeIs PyProof.Rows.slot_tuple_getitem
  (wpAny_call_entry PyProof.Rows.slot_tuple_getitem ht.typeIs entry_tuple_getitem ?_ (args_tuple_getitem _ _)))
 show wpAny _ _ (Builtin.Tuple.tupleItemsOf (.ref t) >>= _) _ _ s
 refine wpAny_bind (tupleItemsOf_ ht ?_)
 refine wpAny_bind (wpAny_typeOf hTs ?_)
 rw [if_pos (by decide)]
 refine wpAny_bind (HT.sliceApplied_gen hs pl pu ?_)
 rw [hw.1,hw.2]
 show wpAny _ _ (if (((0:Nat):Int) == 0 && (1:Int) == 1 && (items.size - 0) == items.size)=true then _ else _) _ _ s
 rw [if_pos (by simp)]
 unfold Builtin.Tuple.tupleIsExact
 refine wpAny_bind (wpAny_bind (wpAny_typeOf ht.typeIs (wpAny_pure ?_)))
 rw [if_pos (by decide)]
 exact wpAny_bind (wpAny_rule (wpAny_pure ⟨_,rfl,wpAny_pure h⟩))
end
section
variable {X:Cx}
def zOU (K:PySem.W.Frag):V->Option Int->Option Int->Hp->VK->Prop:=fun x lo hi H Q=>∃ a xs,x=.ref a/\zZ K H a xs/\(HT.sIx xs.length 0 lo=0/\HT.sIx xs.length xs.length hi=xs.length)/\Q (.ref a) H
theorem zOV:SlR X (zOU X.K):=by
 intro pins s σ H x v vl vu lo hi sl Q I rx hs pl pu h
 obtain ⟨a,xs,rfl,hx,hw,q⟩:=h
 cases rx
 obtain ⟨its,r,ht,hz⟩:=I.tuple hx
 have hlen:its.toArray.size=xs.length:=by rw [List.size_toArray]; exact r.length.symm
 refine ⟨"tuple",_,PyProof.Rows.slot_tuple_getitem.lookup,ht.typeIs,?_⟩
 exact zOT ht hs pl pu (by rw [hlen]; exact hw) ⟨.ref a,H,I,rfl,q⟩ (by rw [hlen]; exact hz)
theorem zHe:yE X (binaryOp .Add) (fun x y H Q=>∃ a b xs ys,x=.ref a/\y=.ref b/\H a=some (.tup xs)/\H b=some (.tup ys)/\xs.length+ys.length<=sizeLine/\∀ p H',zB H H'->H' p=some (.tup (xs++ys))->Q (.ref p) H'):=by
 intro pins s σ H x y v u Q I rx ry h
 obtain ⟨a,b,xs,ys,rfl,rfl,ha,hb,hz,q⟩:=h
 by_cases hx:xs=[]
 ·subst hx
  exact zFs pins s σ H _ _ v u Q I rx ry ⟨a,b,ys,rfl,rfl,.of ha,.of hb,q b H (zB.refl H) hb⟩
 ·refine zFA pins s σ H _ _ v u Q I rx ry ⟨a,b,xs,ys,rfl,rfl,.of ha,.of hb,hx,hz,fun hy=>q a H (zB.refl H) (by rw [hy,List.append_nil]; exact ha),fun _ p hp=>q p _ (zB.upd1 hp) zI⟩
theorem zOW {xs:List V}{lo hi:Option Int} (h:HT.sIx xs.length 0 lo=0/\HT.sIx xs.length xs.length hi=xs.length):vU xs lo hi=xs:=by
 unfold vU
 rw [h.1,h.2,List.drop_zero,Nat.sub_zero,List.take_length]
theorem zOX:SlR X (fun x lo hi H Q=>∃ a xs,x=.ref a/\H a=some (.tup xs)/\∀ p H',zB H H'->H' p=some (.tup (vU xs lo hi))->Q (.ref p) H'):=by
 intro pins s σ H x v vl vu lo hi sl Q I rx hs pl pu h
 obtain ⟨a,xs,rfl,ha,q⟩:=h
 by_cases hw:HT.sIx xs.length 0 lo=0/\HT.sIx xs.length xs.length hi=xs.length
 ·exact zOV pins s σ H _ v vl vu lo hi sl Q I rx hs pl pu ⟨a,xs,rfl,.of ha,hw,q a H (zB.refl H) (by rw [zOW hw]; exact ha)⟩
 ·exact zKA pins s σ H _ v vl vu lo hi sl Q I rx hs pl pu ⟨a,xs,rfl,.of ha,hw,fun p hp=>q p _ (zB.upd1 hp) zI⟩
end
end L2
end
section
namespace Kn
open PySem L2
def qL (l:List S):Bool:=(l.zip (l.drop 1)).all fun p=>decide (p.1 < p.2)
def qC (d:PyData):Bool:=match d with
 | .str x=>decide (x.length=0) || (yM (.str x) && decide (x.length<=3))
 | _=>false
def zCB:PyData->S
 | .str x=>x.cps.toList
 | _=>[]
def qM:PyData->Bool
 | .tuple ds=>decide (ds.length<=6) && (ds.all yM && qL (ds.map zCB))
 | _=>false
def zCC:PyData->Bool
 | .bool _=>true
 | _=>false
def zCD:PyData->Int
 | .int i=>i
 | _=>0
def vB:PyData->Bool
 | .tuple [a,b,h,t,ba,to]=>(vE 1 8 a && vE (zCD a) 8 b) && ((qC h && qC t) && (qM ba && zCC to))
 | _=>false
section
variable {P:Program}{w:World}{K:PySem.W.Frag}{mg:Str->Option Value}{base:Heap}
structure CstW (mg:Str->Option Value):Prop where
 least:∃ t,mg "LEAST" = some (.int 0 t)
 most:∃ t,mg "MOST" = some (.int 1 t)
 head:∃ t,mg "HEAD" = some (.int 2 t)
 tail:∃ t,mg "TAIL" = some (.int 3 t)
 barred:∃ t,mg "BARRED" = some (.int 4 t)
 told:∃ t,mg "TOLD" = some (.int 5 t)
 parts:∃ t,mg "MANY_PARTS" = some (.int 6 t)
 edge:∃ t,mg "MOST_EDGE" = some (.int 3 t)
 mb:∃ t,mg "MOST_BARRED" = some (.int 6 t)
def zHf:Sp:=fun vs H Q _=>∃ (a:Addr) (l:List S),vs=[.ref a]/\H a=some (.tup (zF l))/\l.length<=100/\∀ H',zB H H'->Q (.bl (qL l)) H'
abbrev zDl:Stmt:=top 18
theorem zOY:FnScope ["things"] ["things"] (defScope zDl):=⟨rfl,rfl,rfl,by decide +kernel,rfl,by decide +kernel,by decide +kernel⟩
theorem zHg:(["one", "other"]:List Str).Nodup:=by decide +kernel
theorem zOZ (l:List S):vU (zF l) (some 1) none=zF (l.drop 1):=by
 unfold vU
 have e:HT.sIx (zF l).length 0 (some 1)=min 1 (zF l).length:=HT.sIx_nat _ _ 1
 have e2:HT.sIx (zF l).length (zF l).length none=(zF l).length:=rfl
 rw [e,e2]
 unfold zF
 rw [List.map_drop,List.length_map]
 cases l with
 | nil=>rfl
 | cons x l =>
  rw [List.length_cons,Nat.min_eq_left (by omega)]
  rw [List.take_of_length_le (by rw [List.length_drop,List.length_map,List.length_cons]; omega)]
theorem zAs {l:List S}{i:Nat}{v:V} (h:(zF l)[i]?=some v):∃ x,l[i]?=some x/\v=sv x:=by
 unfold zF at h
 rw [List.getElem?_map] at h
 cases e:l[i]? with
 | none=>rw [e] at h; cases h
 | some x=>rw [e] at h; exact ⟨x,rfl,(Option.some.inj h).symm⟩
theorem zOa {f:Addr}{fd:FuncData} (F:Fun K "is_rising" "is_rising" zDl f fd) (B:Blt mg) (hz:mg "zip" = none):FnOk P w K mg base zY 1 f fd ["things"] zHf:=by
 refine F.ok zOY (fun vs H Q E h=>?_) (fun cdv A outer s H vs Q E hr h=>?_)
 ·obtain ⟨a,l,rfl,_⟩:=h; rfl
 ·obtain ⟨a,l,rfl,ha,h100,k⟩:=h
  refine ⟨_,zE (zP (yA (gP rfl) (by rfl) B.all PyProof.Rows.boot_all (zA (qH (N:=["one", "other"]) (caps:=[]) rfl (uF (by kernel_rfl)) (zOS rfl hz (zA (pv 0) (zA (zBH zOX (pv 0) (jQ zH) kR) zC)))
    (fun cl C s H ex=>zAI K 2 rfl rfl (vQ (yG (i:=0) zHg rfl (Or.inl rfl)) (vQ (yG (i:=1) zHg rfl (Or.inl rfl)) jE)) rfl rfl)
    (fun cl C s H ex=>uN)
    (fun cl C s H ex=>qZ zJj (pv 0) (pv 1) (y9 _))) zC))),?_⟩
  refine ⟨_,rfl,_,rfl,_,rfl,a,_,rfl,ha,fun b H1 t1 hb1=>?_⟩
  rw [zOZ] at hb1
  have ha1:=t1 _ _ ha
  refine ⟨a,b,_,_,rfl,.of ha1,.of hb1,?_⟩
  have dl:(l.drop 1).length=l.length - 1:=by rw [List.length_drop]
  have bl:∀ l:List S,(zF l).length=l.length:=fun l=>by unfold zF; rw [List.length_map]
  refine zNh (J:=zDk K a b) (xs:=zF l) (ys:=zF (l.drop 1)) (len:=(l.drop 1).length) (Hk:=fun H'=>zZ K H' a (zF l)/\zZ K H' b (zF (l.drop 1)))
   (fun i H' hk hi=>⟨zF l,zF (l.drop 1),(zF l)[i]'(by rw [bl]; omega),(zF (l.drop 1))[i]'(by rw [bl]; exact hi),hk.1,hk.2,List.getElem?_eq_getElem _,List.getElem?_eq_getElem _⟩)
   (fun i H' hk e=>⟨zF l,zF (l.drop 1),hk.1,hk.2,by rw [bl,bl]; omega⟩)
   (fun i H' x H'' hk ⟨T,x1,y1,e1,e2,e3,e4,e5⟩=>⟨T,x1,y1,e1,e2,e3,e4 _ hk.1,e5 _ hk.2⟩)
   [] 2 (by omega) (fun i acc H'=>zB H1 H'/\acc=(((l.zip (l.drop 1)).take i).map fun p=>decide (p.1 < p.2)).map V.bl)
   ⟨zB.refl _,rfl⟩ (fun i acc H' hi h=>⟨⟨.of (h.1 _ _ ha1),.of (h.1 _ _ hb1)⟩,by rw [h.2,List.length_map,List.length_map,List.length_take]; omega⟩) ?_ ?_
  ·rintro i x y T acc H' zs Nx hN hx hy hz' ⟨sm,rfl⟩ hT
   obtain ⟨z1,z2,rfl⟩:=k6 hz'
   obtain ⟨n1,e1,rfl⟩:=zAs hx
   obtain ⟨n2,e2,rfl⟩:=zAs hy
   have t2:zB H' (upd H' T (.tup [sv n1,sv n2])):=zB.upd1 hT
   refine ⟨T,_,rfl,.of zI,rfl,_,_,rfl,_,_,rfl,rfl,?_⟩
   unfold kW
   dsimp only
   rw [if_pos rfl]
   refine ⟨_,rfl,_,rfl,_,_,rfl,rfl,hN _ _ [_,_] rfl ⟨sm.trans t2,?_⟩⟩
   have ez:(l.zip (l.drop 1))[i]?=some (n1,n2):=by
    rw [List.getElem?_zip_eq_some]; exact ⟨e1,e2⟩
   rw [List.take_succ_eq_append_getElem (List.getElem?_eq_some_iff.mp ez).1,(List.getElem?_eq_some_iff.mp ez).2,List.map_append,List.map_append]
   rfl
  ·rintro acc H' ⟨sm,rfl⟩ D hD
   have e:(l.zip (l.drop 1)).take (l.drop 1).length=l.zip (l.drop 1):=List.take_of_length_le (by rw [List.length_zip]; omega)
   rw [e]
   refine ⟨D,(l.zip (l.drop 1)).map fun p=>decide (p.1 < p.2),rfl,.of zI,?_⟩
   have e3:((l.zip (l.drop 1)).map fun p=>decide (p.1 < p.2)).all id=qL l:=by unfold qL; rw [List.all_map]; rfl
   rw [e3]
   exact k _ ((t1.trans sm).upd_new ((t1.trans sm).free hD))
def zHh:Sp:=fun vs H Q _=>∃ v d,vs=[v]/\zW H d v/\sml d=true/\SeqAt.shaped d=true/\∀ H',zB H H'->Q (.bl (qC d)) H'
abbrev zDm:Stmt:=top 49
theorem zOb:FnScope ["thing"] ["thing"] (defScope zDm):=⟨rfl,rfl,rfl,by decide +kernel,rfl,by decide +kernel,by decide +kernel⟩
theorem zOc {x:Str}:PyData.eqv (.str x) (.str ⟨#[]⟩)=decide (x.length=0):=by
 unfold PyData.eqv
 by_cases h:x.length=0
 ·have:x=⟨#[]⟩:=MyS.Str_ext (by
   have h':x.cps.toList.length=0:=by simpa [Str.length] using h
   rw [List.length_eq_zero_iff.mp h'])
  subst this
  rfl
 ·rw [decide_eq_false h]
  rw [beq_eq_false_iff_ne]
  intro e
  subst e
  exact h rfl
theorem zOd {d:PyData} (h:∀ x,d≠.str x):PyData.eqv d (.str ⟨#[]⟩)=false:=by
 cases d with
 | str x=>exact absurd rfl (h x)
 | _=>rfl
theorem zOe:SeqAt.shaped (.str ⟨#[]⟩)=true:=by decide +kernel
theorem zOf {f:Addr}{fd:FuncData} (F:Fun K "is_edge" "is_edge" zDm f fd) (B:Blt mg) (W:CstW mg) (cN:zO P w K mg base 1 "is_name" ["thing"] zAL):FnOk P w K mg base zY 2 f fd ["thing"] zHh:=by
 obtain ⟨t3,h3⟩:=W.edge
 refine F.ok zOb (fun vs H Q E h=>?_) (fun cdv A outer s H vs Q E hr h=>?_)
 ·obtain ⟨v,d,rfl,_⟩:=h; rfl
 ·obtain ⟨v,d,rfl,hv,hs,hsh,k⟩:=h
  refine ⟨_,zE (zP (zEa (qZ (zAd hr.units) (pv 0) yZ (y9 _)) (gG (zAQ (zK cN hr rfl (zA (pv 0) zC)) (gG (qZ uT (yA jG (by rfl) B.len PySem.boot_len (zA (pv 0) zC)) (yR (v:=.int 3) (by rfl) h3 ⟨_,rfl⟩) (y9 _))))))),?_⟩
  refine ⟨_,rfl,d,.str ⟨#[]⟩,zW.rep _ _ hv,rfl,hsh,zOe,_,rfl,?_⟩
  rw [show (if false=true then !PyData.eqv d (.str ⟨#[]⟩) else PyData.eqv d (.str ⟨#[]⟩))=PyData.eqv d (.str ⟨#[]⟩) from rfl]
  cases d with
  | str x =>
   rw [zOc]
   by_cases h0:x.length=0
   ·have e:qC (.str x)=true:=by simp [qC,h0]
    rw [e] at k
    exact uZ h0 (k H (zB.refl H))
   ·refine jA h0 ?_
    refine ⟨_,rfl,v,_,rfl,hv,hs,fun H' sm=>?_⟩
    cases (show v=.str x from hv)
    refine ⟨_,rfl,?_⟩
    cases hn:yM (.str x) with
    | false =>
     have e:qC (.str x)=false:=by simp [qC,h0,hn]
     rw [e] at k
     exact z4 (k H' sm)
    | true =>
     refine yB ?_
     refine ⟨_,rfl,x,rfl,?_,_,_,rfl,rfl,?_⟩
     ·simp only [sml,Bool.and_eq_true,decide_eq_true_eq] at hs
      rw [sizeLine_eq]; omega
     ·have e:qC (.str x)=decide (x.length<=3):=by simp [qC,h0,hn]
      have e2:decide ((x.length:Int)<=3)=decide (x.length<=3):=decide_eq_decide.mpr (by omega)
      rw [e,<- e2] at k
      exact k H' sm
  | _ =>
   rw [zOd (by intro x; simp)]
   refine z4 ⟨_,rfl,v,_,rfl,hv,hs,fun H' sm=>⟨_,rfl,z4 (k H' sm)⟩⟩
def zHi:Sp:=fun vs H Q _=>∃ v d,vs=[v]/\zW H d v/\sml d=true/\∀ H',zB H H'->Q (.bl (qM d)) H'
abbrev zDn:Stmt:=top 50
theorem zOg:FnScope ["thing"] ["thing"] (defScope zDn):=⟨rfl,rfl,rfl,by decide +kernel,rfl,by decide +kernel,by decide +kernel⟩
theorem zOh:(["name"]:List Str).Nodup:=by decide +kernel
theorem zDo:∀ {ds:List PyData},(∀ d∈ds,yM d=true)->∃ bk:List S,ds=bk.map (fun x=>PyData.str (tx x))/\∀ x∈bk,yK x
 | [],_=>⟨[],rfl,by simp⟩
 | d::ds,hd=>by
  obtain ⟨x,rfl,hx⟩:=zAp (hd d (List.mem_cons_self ..))
  obtain ⟨bk,rfl,hb⟩:=zDo fun e he=>hd e (List.mem_cons_of_mem _ he)
  refine ⟨x::bk,rfl,fun y hy=>?_⟩
  rcases List.mem_cons.mp hy with z | z
  ·rw [z]; exact hx
  ·exact hb y z
theorem zOi {f:Addr}{fd:FuncData} (F:Fun K "is_barred" "is_barred" zDn f fd) (B:Blt mg) (KF:KitF K) (W:CstW mg) (cN:zO P w K mg base 1 "is_name" ["thing"] zAL) (cR:zO P w K mg base 1 "is_rising" ["things"] zHf):FnOk P w K mg base zY 2 f fd ["thing"] zHi:=by
 obtain ⟨t6,h6⟩:=W.mb
 refine F.ok zOg (fun vs H Q E h=>?_) (fun cdv A outer s H vs Q E hr h=>?_)
 ·obtain ⟨v,d,rfl,_⟩:=h; rfl
 ·obtain ⟨v,d,rfl,hv,hs,k⟩:=h
  refine ⟨_,zG (yI (PW.pt (uJ (yS (yV (yA jI (by rfl) B.isinstance PyProof.Rows.boot_isinstance (zA (pv 0) (zA (qR (v:=.ty "tuple") (by rfl) B.tuple PyProof.Rows.boot_tuple rfl) zC)))))
    (uS (vK zCT (yA jR (by rfl) B.len PySem.boot_len (zA (pv 0) zC)) (yR (v:=.int 6) (by rfl) h6 ⟨_,rfl⟩) (y9 _)))))
    (zE (zP vJ)) yH)
   (zE (zP (zAQ (yA (gP rfl) (by rfl) B.all PyProof.Rows.boot_all (zA (qH (N:=["name"]) (caps:=[]) rfl (uF (by kernel_rfl)) (gH (pv 0))
    (fun cl C s H ex=>yG (i:=0) zOh rfl (Or.inl rfl)) (fun cl C s H ex=>uN)
    (fun cl C s H ex=>zK cN hr rfl (zA (pv 0) zC))) zC)) (gG (zK cR hr rfl (zA (pv 0) zC)))))),?_⟩
  obtain ⟨t,b,hty,hkit,hb⟩:=zDa KF hv
  refine ⟨_,rfl,_,_,t,b,rfl,hty,hkit,b,rfl,?_⟩
  cases b with
  | false =>
   have hd:qM d=false:=by
    cases d with
    | tuple x=>exact absurd (hb.mpr ⟨x,rfl⟩) (by decide)
    | _=>rfl
   rw [hd] at k
   exact yB (yB (k H (zB.refl H)))
  | true =>
   obtain ⟨ds,rfl⟩:=hb.mp rfl
   obtain ⟨a,xs,rfl,ha,hxs⟩:=hv
   have hsx:ds.length<=900/\smls ds=true:=by
    simp only [sml,Bool.and_eq_true,decide_eq_true_eq] at hs
    exact hs
   have hxl:xs.length=ds.length:=hxs.length.symm
   refine z4 ?_
   refine ⟨_,rfl,_,_,rfl,.inr (.of ha),_,_,rfl,rfl,_,rfl,?_⟩
   by_cases h2:ds.length<=6
   ·refine jA (by rw [hxl]; omega) ?_
    refine ⟨_,rfl,a,rfl,⟨_,.of ha⟩,?_⟩
    refine uY (gQ _ a xs) [] 1 (by omega) (fun i acc H'=>zB H H'/\acc=((ds.take i).map yM).map V.bl) ⟨zB.refl H,rfl⟩ (fun i acc H' _ h=>⟨.of (h.1 _ _ ha),by rw [h.2,List.length_map,List.length_map,List.length_take]; omega⟩) ?_ ?_
    ·rintro i y acc H' ys Nx hN hx hy ⟨sm,rfl⟩
     obtain ⟨y',rfl⟩:=qI hy
     obtain ⟨e,he,hye⟩:=hxs.get hx
     have hi:i < ds.length:=(List.getElem?_eq_some_iff.mp he).1
     refine ⟨_,rfl,y,e,rfl,zW.same sm _ _ hye,zBw hsx.2 (List.mem_of_getElem? he),fun H5 sm5=>hN _ _ [some y] rfl ⟨sm.trans sm5,?_⟩⟩
     rw [List.take_succ_eq_append_getElem hi,(List.getElem?_eq_some_iff.mp he).2,List.map_append,List.map_append]; rfl
    ·rintro acc H' ⟨sm,rfl⟩ D hD
     rw [hxl,List.take_length]
     refine ⟨D,_,rfl,.of zI,_,rfl,?_⟩
     have sm2:=sm.upd_new (o:=.lst ((ds.map yM).map V.bl)) (sm.free hD)
     have e2:((ds.map yM).all id)=ds.all yM:=by rw [List.all_map]; rfl
     rw [e2]
     cases hn:ds.all yM with
     | false =>
      have e:qM (.tuple ds)=false:=by simp only [qM,hn,Bool.false_and,Bool.and_false]
      rw [e] at k
      exact z4 (k _ sm2)
     | true =>
      obtain ⟨bk,rfl,hbk⟩:=zDo (fun d hd=>List.all_eq_true.mp hn d hd)
      have ha2:=sm2 _ _ ha
      rw [Thgs.strs_inv hxs] at ha2
      refine yB ?_
      rw [List.length_map] at h2
      refine ⟨_,rfl,a,bk,rfl,ha2,by omega,fun H6 sm6=>?_⟩
      have e:qM (.tuple (bk.map fun x=>PyData.str (tx x)))=qL bk:=by
       have e3:(bk.map fun x=>PyData.str (tx x)).map zCB=bk:=by
        rw [List.map_map]
        conv=>rhs; rw [<- List.map_id bk]
        refine List.map_congr_left fun x _=>?_
        show (tx x).cps.toList=x
        rw [vM]
       simp only [qM,hn,e3,List.length_map,decide_eq_true h2,Bool.true_and]
      rw [e] at k
      exact k _ (sm2.trans sm6)
   ·have hd:qM (.tuple ds)=false:=by simp [qM,h2]
    rw [hd] at k
    exact uZ (by rw [hxl]; omega) (k H (zB.refl H))
end
end Kn
end
section
namespace Kn
open PySem L2
structure KitB (K:PySem.W.Frag):Prop where
 nb:PySem.W.kitOne K (.type "NoneType") (.type "bool")=some false
 sb:PySem.W.kitOne K (.type "str") (.type "bool")=some false
 lb:PySem.W.kitOne K (.type "list") (.type "bool")=some false
 tb:PySem.W.kitOne K (.type "tuple") (.type "bool")=some false
theorem zHj:∀ {ds:List PyData}{d:PyData},PyData.canLayAll0 ds=true->d∈ds->d.canLay0=true
 | e::ds,d,h,hm=>by
  simp only [PyData.canLayAll0,Bool.and_eq_true] at h
  rcases List.mem_cons.mp hm with z | z
  ·rw [z]; exact h.1
  ·exact zHj h.2 z
theorem zHk:∀ {ds:List PyData}{d:PyData},d∈ds->d.depth<=PyData.depthAll ds
 | e::ds,d,hm=>by
  simp only [PyData.depthAll]
  rcases List.mem_cons.mp hm with z | z
  ·rw [z]; omega
  ·have:=zHk z; omega
theorem zOj {ds:List PyData}{d:PyData} (h:SeqAt.shaped (.tuple ds)=true) (hm:d∈ds):SeqAt.shaped d=true:=by
 have h0:=SeqAt.canLay_of_shaped h
 have h3:=SeqAt.depth_of_shaped h
 have h4:(PyData.tuple ds).depth=PyData.depthAll ds+1:=by simp only [PyData.depth]
 have h1:=zHj (show PyData.canLayAll0 ds=true by simpa only [PyData.canLay0] using h0) hm
 have h2:=zHk hm
 rw [h4] at h3
 unfold SeqAt.shaped
 rw [h1,decide_eq_true (show d.depth<=64 by omega)]; rfl
section
variable {P:Program}{w:World}{K:PySem.W.Frag}{mg:Str->Option Value}{base:Heap}
theorem zOk (KB:KitB K) (C:Cst K mg) {H:Hp}:∀ {d:PyData}{v:V},zW H d v->∃ t,TyOf K H v t/\PySem.W.kitOne K t (.type "bool")=some (zCC d)
 | .none,v,h=>by cases (show v=.non from h); exact ⟨_,.non,KB.nb⟩
 | .bool b,v,h=>by cases (show v=.bl b from h); exact ⟨_,.bl _,rfl⟩
 | .int i,v,h=>by cases (show v=.int i from h); exact ⟨_,.int _,C.ib⟩
 | .str x,v,h=>by cases (show v=.str x from h); exact ⟨_,.str _,KB.sb⟩
 | .list ds,v,h=>by obtain ⟨a,xs,rfl,h1,_⟩:=h; exact ⟨_,.lst h1,KB.lb⟩
 | .tuple ds,v,h=>by obtain ⟨a,xs,rfl,h1,_⟩:=h; exact ⟨_,.tup h1,KB.tb⟩
 | .dict _,v,h=>h.elim
def zHl:Sp:=fun vs H Q _=>∃ v d,vs=[v]/\zW H d v/\sml d=true/\SeqAt.shaped d=true/\∀ H',zB H H'->Q (.bl (vB d)) H'
abbrev zDp:Stmt:=top 51
theorem zOl:FnScope ["thing"] ["thing"] (defScope zDp):=⟨rfl,rfl,rfl,by decide +kernel,rfl,by decide +kernel,by decide +kernel⟩
theorem zHm {ds:List PyData} (h:ds.length≠6):vB (.tuple ds)=false:=by
 match ds,h with
 | [],_=>rfl
 | [_],_=>rfl
 | [_,_],_=>rfl
 | [_,_,_],_=>rfl
 | [_,_,_,_],_=>rfl
 | [_,_,_,_,_],_=>rfl
 | [_,_,_,_,_,_],h=>exact absurd rfl h
 | _::_::_::_::_::_::_::_,_=>rfl
theorem six {α:Type}{l:List α} (h:l.length=6):∃ a b c d e f,l=[a,b,c,d,e,f]:=by
 match l,h with
 | [a,b,c,d,e,f],_=>exact ⟨a,b,c,d,e,f,rfl⟩
theorem zCE {a b:Int}{d:PyData} (h:vE a b d=true):∃ i,d=.int i/\a<=i/\i<=b:=by
 cases d with
 | int i=>simp only [vE,Bool.and_eq_true,decide_eq_true_eq] at h; exact ⟨i,rfl,h⟩
 | _=>cases h
theorem zOm {f:Addr}{fd:FuncData} (F:Fun K "is_wish" "is_wish" zDp f fd) (B:Blt mg) (C:Cst K mg) (KF:KitF K) (KB:KitB K) (W:CstW mg) (cW:zO P w K mg base 1 "is_whole" ["thing", "least", "most"] zBy) (cE:zO P w K mg base 2 "is_edge" ["thing"] zHh) (cB:zO P w K mg base 2 "is_barred" ["thing"] zHi):FnOk P w K mg base zY 3 f fd ["thing"] zHl:=by
 obtain ⟨u0,h0⟩:=W.least
 obtain ⟨u1,h1⟩:=W.most
 obtain ⟨u2,h2⟩:=W.head
 obtain ⟨u3,h3⟩:=W.tail
 obtain ⟨u4,h4⟩:=W.barred
 obtain ⟨u5,h5⟩:=W.told
 obtain ⟨u6,h6⟩:=W.parts
 obtain ⟨u8,h8⟩:=C.ml
 refine F.ok zOl (fun vs H Q E h=>?_) (fun cdv A outer s H vs Q E hr h=>?_)
 ·obtain ⟨v,d,rfl,_⟩:=h; rfl
 ·obtain ⟨v,d,rfl,hv,hs,hsh,k⟩:=h
  have r1:=hr.mono (j:=1) (by decide)
  refine ⟨_,zG (yI (PW.pt (uJ (yS (yV (yA jI (by rfl) B.isinstance PyProof.Rows.boot_isinstance (zA (pv 0) (zA (qR (v:=.ty "tuple") (by rfl) B.tuple PyProof.Rows.boot_tuple rfl) zC)))))
    (uS (vK zAS (yA jR (by rfl) B.len PySem.boot_len (zA (pv 0) zC)) (yR (v:=.int 6) (by rfl) h6 ⟨_,rfl⟩) (y9 _)))))
    (zE (zP vJ)) yH)
   (zG (yI (PW.pt (uJ (yS (yV (zK cW r1 rfl (zA (yD yT (pv 0) (yR (v:=.int 0) (by rfl) h0 ⟨_,rfl⟩) (fun _ _=>rfl)) (zA zH (zA (yR (v:=.int 8) (by rfl) h8 ⟨_,rfl⟩) zC))))))
     (uS (yS (yV (zK cW r1 rfl (zA (yD yT (pv 0) (yR (v:=.int 1) (by rfl) h1 ⟨_,rfl⟩) (fun _ _=>rfl)) (zA (yD yT (pv 0) (yR (v:=.int 0) (by rfl) h0 ⟨_,rfl⟩) (fun _ _=>rfl)) (zA (yR (v:=.int 8) (by rfl) h8 ⟨_,rfl⟩) zC)))))))))
    (zE (zP vJ)) yH)
   (zG (yI (PW.pt (uJ (yS (yV (zK cE hr rfl (zA (yD yT (pv 0) (yR (v:=.int 2) (by rfl) h2 ⟨_,rfl⟩) (fun _ _=>rfl)) zC))))
     (uS (yS (yV (zK cE hr rfl (zA (yD yT (pv 0) (yR (v:=.int 3) (by rfl) h3 ⟨_,rfl⟩) (fun _ _=>rfl)) zC)))))))
    (zE (zP vJ)) yH)
   (zE (zP (zAQ (zK cB hr rfl (zA (yD yT (pv 0) (yR (v:=.int 4) (by rfl) h4 ⟨_,rfl⟩) (fun _ _=>rfl)) zC))
    (gG (yA jI (by rfl) B.isinstance PyProof.Rows.boot_isinstance (zA (yD yT (pv 0) (yR (v:=.int 5) (by rfl) h5 ⟨_,rfl⟩) (fun _ _=>rfl)) (zA (qR (v:=.ty "bool") (by rfl) B.bool PyProof.Rows.boot_bool rfl) zC))))))))),?_⟩
  obtain ⟨t,b,hty,hkit,hb⟩:=zDa KF hv
  refine ⟨_,rfl,_,_,t,b,rfl,hty,hkit,b,rfl,?_⟩
  cases b with
  | false =>
   have hd:vB d=false:=by
    cases d with
    | tuple x=>exact absurd (hb.mpr ⟨x,rfl⟩) (by decide)
    | _=>rfl
   rw [hd] at k
   exact yB (yB (k H (zB.refl H)))
  | true =>
   obtain ⟨ds,rfl⟩:=hb.mp rfl
   obtain ⟨a,xs,rfl,ha,hxs⟩:=hv
   have hsx:ds.length<=900/\smls ds=true:=by
    simp only [sml,Bool.and_eq_true,decide_eq_true_eq] at hs
    exact hs
   have hxl:xs.length=ds.length:=hxs.length.symm
   refine z4 ?_
   refine ⟨_,rfl,_,_,rfl,.inr (.of ha),rfl,_,rfl,?_⟩
   by_cases hl:ds.length=6
   ·refine uM (by rw [hxl,hl]; rfl) ?_
    obtain ⟨a0,a1,a2,a3,a4,a5,rfl⟩:=six hl
    obtain ⟨y0,ys0,rfl,q0,hxs⟩:=hxs
    obtain ⟨y1,qI,rfl,q1,hxs⟩:=hxs
    obtain ⟨y2,k6,rfl,q2,hxs⟩:=hxs
    obtain ⟨y3,ys3,rfl,q3,hxs⟩:=hxs
    obtain ⟨y4,ys4,rfl,q4,hxs⟩:=hxs
    obtain ⟨y5,ys5,rfl,q5,hxs⟩:=hxs
    cases (show ys5=[] from hxs)
    have sm_:∀ d∈[a0,a1,a2,a3,a4,a5],sml d=true:=fun d hd=>zBw hsx.2 hd
    have sh_:∀ d∈[a0,a1,a2,a3,a4,a5],SeqAt.shaped d=true:=fun d hd=>zOj hsh hd
    refine ⟨_,rfl,a,_,0,y0,rfl,rfl,.of ha,rfl,y0,a0,1,8,rfl,q0,_,rfl,?_⟩
    cases e0:vE 1 8 a0 with
    | false =>
     have e:vB (.tuple [a0,a1,a2,a3,a4,a5])=false:=by simp only [vB,e0,Bool.false_and]
     rw [e] at k
     exact yB (yB (k H (zB.refl H)))
    | true =>
    obtain ⟨i0,rfl,l0,l1⟩:=zCE e0
    cases (show y0=.int i0 from q0)
    refine z4 ?_
    refine ⟨_,rfl,a,_,1,y1,rfl,rfl,.of ha,rfl,_,rfl,a,_,0,.int i0,rfl,rfl,.of ha,rfl,y1,a1,i0,8,rfl,q1,_,rfl,?_⟩
    cases e1:vE i0 8 a1 with
    | false =>
     have e:vB (.tuple [.int i0,a1,a2,a3,a4,a5])=false:=by simp only [vB,zCD,e1,Bool.false_and,Bool.and_false]
     rw [e] at k
     exact yB (k H (zB.refl H))
    | true =>
    refine z4 ?_
    refine ⟨_,rfl,a,_,2,y2,rfl,rfl,.of ha,rfl,y2,a2,rfl,q2,sm_ a2 (by simp),sh_ a2 (by simp),fun H1 s1=>⟨_,rfl,?_⟩⟩
    cases e2:qC a2 with
    | false =>
     have e:vB (.tuple [.int i0,a1,a2,a3,a4,a5])=false:=by simp only [vB,e2,Bool.false_and,Bool.and_false]
     rw [e] at k
     exact yB (yB (k H1 s1))
    | true =>
    refine z4 ?_
    refine ⟨_,rfl,a,_,3,y3,rfl,rfl,.of (s1 _ _ ha),rfl,y3,a3,rfl,zW.same s1 _ _ q3,sm_ a3 (by simp),sh_ a3 (by simp),fun H2 s2=>⟨_,rfl,?_⟩⟩
    have s12:=s1.trans s2
    cases e3:qC a3 with
    | false =>
     have e:vB (.tuple [.int i0,a1,a2,a3,a4,a5])=false:=by simp only [vB,e3,Bool.false_and,Bool.and_false]
     rw [e] at k
     exact yB (k H2 s12)
    | true =>
    refine z4 ?_
    refine ⟨_,rfl,a,_,4,y4,rfl,rfl,.of (s12 _ _ ha),rfl,y4,a4,rfl,zW.same s12 _ _ q4,sm_ a4 (by simp),fun H3 s3=>⟨_,rfl,?_⟩⟩
    have s13:=s12.trans s3
    cases e4:qM a4 with
    | false =>
     have e:vB (.tuple [.int i0,a1,a2,a3,a4,a5])=false:=by simp only [vB,e4,Bool.false_and,Bool.and_false]
     rw [e] at k
     exact z4 (k H3 s13)
    | true =>
    refine yB ?_
    obtain ⟨t5,ht5,hk5⟩:=zOk KB C (zW.same s13 _ _ q5)
    refine ⟨_,rfl,a,_,5,y5,rfl,rfl,.of (s13 _ _ ha),rfl,_,_,t5,_,rfl,ht5,hk5,?_⟩
    have e:vB (.tuple [.int i0,a1,a2,a3,a4,a5])=zCC a5:=by simp only [vB,zCD,e0,e1,e2,e3,e4,Bool.true_and]
    rw [e] at k
    exact k H3 s13
   ·have e:vB (.tuple ds)=false:=zHm hl
    rw [e] at k
    refine k9 ?_ (k H (zB.refl H))
    intro z
    injection z with z
    rw [hxl] at z
    omega
end
end Kn
end
section
namespace Kn
open PySem L2
def kM (lo hi:Int) (hd tl:S) (ba:List S) (to:Bool):PyData:=.tuple [.int lo,.int hi,.str (tx hd),.str (tx tl),.tuple (ba.map fun x=>PyData.str (tx x)),.bool to]
structure GW (lo hi:Int) (hd tl:S) (ba:List S):Prop where
 glo:1<=lo
 gle:lo<=hi
 ghi:hi<=8
 ghd:hd=[]\/(yK hd/\hd.length<=3)
 gtl:tl=[]\/(yK tl/\tl.length<=3)
 len:ba.length<=6
 nm:∀ x∈ba,yK x
 ris:qL ba=true
theorem zHn {d:PyData} (h:qC d=true):∃ x:S,d=.str (tx x)/\(x=[]\/(yK x/\x.length<=3)):=by
 cases d with
 | str x =>
  simp only [qC,Bool.or_eq_true,Bool.and_eq_true,decide_eq_true_eq] at h
  rcases h with h | ⟨h,h2⟩
  ·refine ⟨[],?_,.inl rfl⟩
   congr 1
   refine MyS.Str_ext ?_
   have h':x.cps.toList.length=0:=by simpa [Str.length] using h
   rw [List.length_eq_zero_iff.mp h']
  ·obtain ⟨y,e,hy⟩:=zAp h
   injection e with e
   subst e
   exact ⟨y,rfl,.inr ⟨hy,by rw [yJ] at h2; exact h2⟩⟩
 | _=>cases h
theorem zOn {d:PyData} (h:qM d=true):∃ ba:List S,d=.tuple (ba.map fun x=>PyData.str (tx x))/\ba.length<=6/\(∀ x∈ba,yK x)/\qL ba=true:=by
 cases d with
 | tuple ds =>
  simp only [qM,Bool.and_eq_true,decide_eq_true_eq] at h
  obtain ⟨h1,h2,h3⟩:=h
  obtain ⟨bk,rfl,hb⟩:=zDo (fun d hd=>List.all_eq_true.mp h2 d hd)
  have e3:(bk.map fun x=>PyData.str (tx x)).map zCB=bk:=by
   rw [List.map_map]
   conv=>rhs; rw [<- List.map_id bk]
   refine List.map_congr_left fun x _=>?_
   show (tx x).cps.toList=x
   rw [vM]
  rw [e3] at h3
  rw [List.length_map] at h1
  exact ⟨bk,rfl,h1,hb,h3⟩
 | _=>cases h
theorem zHo {d:PyData} (h:vB d=true):∃ lo hi hd tl ba to,d=kM lo hi hd tl ba to/\GW lo hi hd tl ba:=by
 cases d with
 | tuple ds =>
  by_cases hl:ds.length=6
  ·obtain ⟨a0,a1,a2,a3,a4,a5,rfl⟩:=six hl
   simp only [vB,Bool.and_eq_true] at h
   obtain ⟨⟨h0,h1⟩,⟨h2,h3⟩,h4,h5⟩:=h
   obtain ⟨i0,rfl,l0,l1⟩:=zCE h0
   obtain ⟨i1,rfl,l2,l3⟩:=zCE h1
   obtain ⟨x2,rfl,e2⟩:=zHn h2
   obtain ⟨x3,rfl,e3⟩:=zHn h3
   obtain ⟨ba,rfl,b1,b2,b3⟩:=zOn h4
   cases a5 with
   | bool b=>exact ⟨i0,i1,x2,x3,ba,b,rfl,⟨l0,l2,l3,e2,e3,b1,b2,b3⟩⟩
   | _=>cases h5
  ·rw [zHm hl] at h; cases h
 | _=>cases h
def qW (H:Hp) (a:Addr) (lo hi:Int) (hd tl:S) (ba:List S) (to:Bool):Prop:=∃ b,H a=some (.tup [.int lo,.int hi,sv hd,sv tl,.ref b,.bl to])/\H b=some (.tup (zF ba))
theorem qW.same {H H':Hp}{a:Addr}{lo hi:Int}{hd tl:S}{ba:List S}{to:Bool} (h:qW H a lo hi hd tl ba to) (e:zB H H'):qW H' a lo hi hd tl ba to :=
 let ⟨b,h1,h2⟩:=h; ⟨b,e _ _ h1,e _ _ h2⟩
theorem zDq {H:Hp}{v:V}{lo hi:Int}{hd tl:S}{ba:List S}{to:Bool} (h:zW H (kM lo hi hd tl ba to) v):∃ a,v=.ref a/\qW H a lo hi hd tl ba to:=by
 obtain ⟨a,xs,rfl,h1,h2⟩:=h
 obtain ⟨y0,ys0,rfl,q0,h2⟩:=h2
 obtain ⟨y1,qI,rfl,q1,h2⟩:=h2
 obtain ⟨y2,k6,rfl,q2,h2⟩:=h2
 obtain ⟨y3,ys3,rfl,q3,h2⟩:=h2
 obtain ⟨y4,ys4,rfl,q4,h2⟩:=h2
 obtain ⟨y5,ys5,rfl,q5,h2⟩:=h2
 cases (show ys5=[] from h2)
 cases (show y0=.int lo from q0)
 cases (show y1=.int hi from q1)
 cases (show y2=.str (tx hd) from q2)
 cases (show y3=.str (tx tl) from q3)
 cases (show y5=.bl to from q5)
 obtain ⟨b,xs4,rfl,h4,h5⟩:=q4
 rw [Thgs.strs_inv h5] at h4
 exact ⟨a,rfl,b,h1,h4⟩
def qD (lo hi:Int) (hd tl x:S):Bool:=(decide (lo<=(x.length:Int)) && decide ((x.length:Int)<=hi)) && (Txt.startswith (tx x) (tx hd) && Txt.endswith (tx x) (tx tl))
def zAN (bk ba:List S) (to:Bool) (x:S):Bool:=decide (x∈ba) || (!to && decide (x∈bk))
def v9 (bk:List S) (lo hi:Int) (hd tl:S) (ba:List S) (to:Bool) (x:S):Bool:=qD lo hi hd tl x && !zAN bk ba to x
theorem zOo {X:Cx}:gK X "str.startswith" (fun x vs H Q=>∃ a b:Str,x=.str a/\vs=[.str b]/\Q (.bl (Txt.startswith a b)) H):=by
 intro pins s σ H x vs v us Q I rx rv h
 obtain ⟨a,b,rfl,rfl,q⟩:=h
 obtain ⟨t,rfl⟩:=rx
 obtain ⟨u,rfl,ru⟩:=uU rv
 obtain ⟨t',rfl⟩:=ru
 exact SC.startswith ⟨.bl _,H,I,rfl,q⟩
theorem zAt (x:S) (l:List S):gM (sv x) (zF l)=decide (x∈l):=by
 unfold gM zF
 rw [List.any_map]
 induction l with
 | nil=>simp
 | cons y l ih =>
  rw [List.any_cons,ih]
  have e:qS (sv y) (sv x)=decide (x=y):=by
   show ((tx y) == (tx x))=_
   by_cases z:x=y
   ·subst z; simp
   ·rw [decide_eq_false z,beq_eq_false_iff_ne]
    exact fun q=>z (qJ q).symm
  show (qS (sv y) (sv x) || _)=_
  rw [e]
  by_cases z:x=y
  ·subst z; simp
  ·simp [z]
theorem zAu (l:List S):(zF l).all kB=true:=by
 unfold zF
 rw [List.all_map]
 exact List.all_eq_true.mpr fun _ _=>rfl
section
variable {P:Program}{w:World}{K:PySem.W.Frag}{mg:Str->Option Value}{base:Heap}
abbrev zDr:Stmt:=top 52
theorem zOp:FnScope ["thing"] ["thing"] (defScope zDr):=⟨rfl,rfl,rfl,by decide +kernel,rfl,by decide +kernel,by decide +kernel⟩
def zDs (C:Addr):Sp:=fun vs H Q E=>∃ v d,vs=[v]/\zW H d v/\sml d=true/\SeqAt.shaped d=true/\(vB d=true->∀ H',zB H H'->Q .non H')/\(vB d=false->∀ H',zB H H'->E (.ref C) none H')
theorem zOq {f:Addr}{fd:FuncData}{C:Addr} (F:Fun K "need_wish" "need_wish" zDr f fd) (O:XCls K mg "NoWish" C) (c1:zO P w K mg base 3 "is_wish" ["thing"] zHl):FnOk P w K mg base (vW P w) 4 f fd ["thing"] (zDs C):=by
 refine F.okR zOp (fun vs H Q E h=>?_) (fun cdv A outer s H vs Q E hr h ok=>?_)
 ·obtain ⟨v,d,rfl,_⟩:=h; rfl
 ·obtain ⟨v,d,rfl,hv,hs,hsh,k1,k2⟩:=h
  refine ⟨_,zE (yI (yS (yV (zK c1 hr rfl (zA (pv 0) zC)))) (zE (gT ok rfl O (by rfl) (zA yZ zC))) yH),?_⟩
  refine ⟨_,rfl,v,d,rfl,hv,hs,hsh,fun H' sm=>⟨_,rfl,?_⟩⟩
  cases e:vB d with
  | true=>exact z4 (k1 e H' sm)
  | false=>exact yB ⟨by show 1<=sizeLine; decide,k2 e H' sm⟩
def zDt:Sp:=fun vs H Q _=>∃ (a:Addr) (lo hi:Int) (hd tl:S) (ba:List S) (to:Bool) (x:S),vs=[.ref a,sv x]/\qW H a lo hi hd tl ba to/\x.length<=900/\Q (.bl (qD lo hi hd tl x)) H
abbrev zDu:Stmt:=top 53
theorem zOr:FnScope ["wish", "name"] ["wish", "name"] (defScope zDu):=⟨rfl,rfl,rfl,by decide +kernel,rfl,by decide +kernel,by decide +kernel⟩
theorem zOs {f:Addr}{fd:FuncData} (F:Fun K "has_form" "has_form" zDu f fd) (B:Blt mg) (W:CstW mg):FnOk P w K mg base zY 1 f fd ["wish", "name"] zDt:=by
 obtain ⟨u0,h0⟩:=W.least
 obtain ⟨u1,h1⟩:=W.most
 obtain ⟨u2,h2⟩:=W.head
 obtain ⟨u3,h3⟩:=W.tail
 refine F.ok zOr (fun vs H Q E h=>?_) (fun cdv A outer s H vs Q E hr h=>?_)
 ·obtain ⟨a,lo,hi,hd,tl,ba,to,x,rfl,_⟩:=h; rfl
 ·obtain ⟨a,lo,hi,hd,tl,ba,to,x,rfl,⟨b,ha,hb⟩,hx,k⟩:=h
  refine ⟨_,zG (yI (yS (zAT uT uT (yD yT (pv 0) (yR (v:=.int 0) (by rfl) h0 ⟨_,rfl⟩) (fun _ _=>rfl)) (yA jG (by rfl) B.len PySem.boot_len (zA (pv 1) zC)) (yD yT (pv 0) (yR (v:=.int 1) (by rfl) h1 ⟨_,rfl⟩) (fun _ _=>rfl))))
    (zE (zP vJ)) yH)
   (zE (zP (zAQ (jH PySem.F.plainAttrs_str PySem.F.slot_str_startswith PySem.F.type_str_startswith zOo (pv 1) (zA (yD yT (pv 0) (yR (v:=.int 2) (by rfl) h2 ⟨_,rfl⟩) (fun _ _=>rfl)) zC))
    (gG (jH PySem.F.plainAttrs_str PySem.F.slot_str_endswith PySem.F.type_str_endswith zLS (pv 1) (zA (yD yT (pv 0) (yR (v:=.int 3) (by rfl) h3 ⟨_,rfl⟩) (fun _ _=>rfl)) zC)))))),?_⟩
  refine ⟨_,rfl,a,_,0,.int lo,rfl,rfl,.of ha,rfl,_,rfl,tx x,rfl,by rw [yJ,sizeLine_eq]; omega,_,_,rfl,rfl,_,rfl,?_⟩
  by_cases hl:lo<=(x.length:Int)
  ·refine uZ (by rw [yJ]; exact hl) ⟨_,rfl,a,_,1,.int hi,rfl,rfl,.of ha,rfl,_,_,rfl,rfl,_,rfl,?_⟩
   by_cases hh:(x.length:Int)<=hi
   ·refine uM (by rw [yJ]; exact hh) ?_
    refine ⟨_,rfl,rfl,_,rfl,a,_,2,sv hd,rfl,rfl,.of ha,rfl,_,_,rfl,rfl,_,rfl,?_⟩
    cases e1:Txt.startswith (tx x) (tx hd) with
    | false =>
     have e:qD lo hi hd tl x=false:=by simp only [qD,e1,Bool.false_and,Bool.and_false]
     rw [e] at k
     exact z4 k
    | true =>
     refine yB ⟨_,rfl,rfl,_,rfl,a,_,3,sv tl,rfl,rfl,.of ha,rfl,_,_,rfl,rfl,?_⟩
     have e:qD lo hi hd tl x=Txt.endswith (tx x) (tx tl):=by simp only [qD,e1,decide_eq_true hl,decide_eq_true hh,Bool.true_and]
     rw [e] at k
     exact k
   ·have e:qD lo hi hd tl x=false:=by simp only [qD,decide_eq_false hh,Bool.false_and,Bool.and_false]
    rw [e] at k
    exact k9 (by rw [yJ]; exact hh) k
  ·have e:qD lo hi hd tl x=false:=by simp only [qD,decide_eq_false hl,Bool.false_and]
   rw [e] at k
   exact jA (by rw [yJ]; exact hl) ⟨_,rfl,yB k⟩
def zDv:Sp:=fun vs H Q _=>∃ (c a:Addr) (bk:List S) (lo hi:Int) (hd tl:S) (ba:List S) (to:Bool),vs=[.ref c,.ref a]/\H c=some (.tup (zF bk))/\bk.length<=8/\qW H a lo hi hd tl ba to/\ba.length<=6 /\
 ∀ (l:Addr) (out:List S) (H':Hp),zB H H'->H' l=some (.lst (zF out))->(∀ x,decide (x∈out)=zAN bk ba to x)->Q (.ref l) H'
abbrev zDw:Stmt:=top 54
theorem zOt:FnScope ["book", "wish"] ["book", "wish"] (defScope zDw):=⟨rfl,rfl,rfl,by decide +kernel,rfl,by decide +kernel,by decide +kernel⟩
theorem zOu (l:List S):zF l=(l.map tx).map V.str:=by
 unfold zF
 rw [List.map_map]; rfl
theorem zOv {f:Addr}{fd:FuncData} (F:Fun K "left_out" "left_out" zDw f fd) (B:Blt mg) (W:CstW mg) (hli:mg "list" = none) (hse:mg "set" = none):FnOk P w K mg base zY 1 f fd ["book", "wish"] zDv:=by
 obtain ⟨u4,h4⟩:=W.barred
 obtain ⟨u5,h5⟩:=W.told
 refine F.ok zOt (fun vs H Q E h=>?_) (fun cdv A outer s H vs Q E hr h=>?_)
 ·obtain ⟨c,a,bk,lo,hi,hd,tl,ba,to,rfl,_⟩:=h; rfl
 ·obtain ⟨c,a,bk,lo,hi,hd,tl,ba,to,rfl,hc,h8,⟨b,ha,hb⟩,h6,k⟩:=h
  refine ⟨_,zG (yI (yV (yD yT (pv 1) (yR (v:=.int 5) (by rfl) h5 ⟨_,rfl⟩) (fun _ _=>rfl)))
    (zE (zP (zBG zKL (by rfl) hli PyProof.Rows.boot_list (zA (yD yT (pv 1) (yR (v:=.int 4) (by rfl) h4 ⟨_,rfl⟩) (fun _ _=>rfl)) zC)))) yH)
   (zE (zP (zON rfl (zR zHe (yD yT (pv 1) (yR (v:=.int 4) (by rfl) h4 ⟨_,rfl⟩) (fun _ _=>rfl)) (pv 0)) (by rfl) B.sorted PyProof.Rows.boot_sorted (by rfl) hse (by decide +kernel)))),?_⟩
  refine ⟨_,rfl,a,_,5,.bl to,rfl,rfl,.of ha,rfl,_,rfl,?_⟩
  cases to with
  | true =>
   refine yB ?_
   refine ⟨_,rfl,a,_,4,.ref b,rfl,rfl,.of ha,rfl,b,_,rfl,.inr (.of hb),fun l hl=>?_⟩
   refine k l ba _ (zB.upd1 hl) zI fun x=>?_
   unfold zAN; simp
  | false =>
   refine z4 ?_
   refine ⟨_,rfl,a,_,4,.ref b,rfl,rfl,.of ha,rfl,_,rfl,?_⟩
   have bl:∀ l:List S,(zF l).length=l.length:=fun l=>by unfold zF; rw [List.length_map]
   refine ⟨b,c,_,_,rfl,rfl,hb,hc,by rw [bl,bl,sizeLine_eq]; omega,fun p H1 s1 hp=>?_⟩
   have ep:zF ba++zF bk=((ba++bk).map tx).map V.str:=by rw [<- zOu]; unfold zF; rw [List.map_append]
   rw [ep] at hp
   refine ⟨p,(ba++bk).map tx,rfl,.of hp,by rw [List.length_map,List.length_append]; omega,fun out l hmem hsrt hl=>?_⟩
   have eo:out.map V.str=zF (out.map fun x=>x.cps.toList):=by
    unfold zF
    rw [List.map_map]
    refine List.map_congr_left fun x _=>?_
    show V.str x=V.str (tx x.cps.toList)
    rw [zBk]
   rw [eo]
   refine k l _ _ (s1.upd_new (s1.free hl)) zI fun x=>?_
   have e1:x∈(out.map fun x=>x.cps.toList)↔x∈ba\/x∈bk:=by
    rw [List.mem_map]
    constructor
    ·rintro ⟨y,hy,rfl⟩
     obtain ⟨z,hz,e⟩:=List.mem_map.mp ((hmem y).mp hy)
     have:z=y.cps.toList:=by rw [<- e,vM]
     rw [<- this]
     exact List.mem_append.mp hz
    ·intro h
     refine ⟨tx x,(hmem _).mpr (List.mem_map.mpr ⟨x,List.mem_append.mpr h,rfl⟩),vM x⟩
   unfold zAN
   have e2:decide (x∈(out.map fun x=>x.cps.toList))=(decide (x∈ba) || decide (x∈bk)):=by
    rw [Bool.eq_iff_iff,Bool.or_eq_true,decide_eq_true_eq,decide_eq_true_eq,decide_eq_true_eq]
    exact e1
   rw [e2]
   rfl
def zHp (nb nw nn:Addr):Sp:=fun vs H Q E=>∃ v u x d e g,vs=[v,u,x]/\zW H d v/\zW H e u/\zW H g x/\sml d=true/\sml e=true/\sml g=true/\SeqAt.shaped e=true /\
 (yU d=false->∀ H',zB H H'->E (.ref nb) none H')/\(yU d=true->vB e=false->∀ H',zB H H'->E (.ref nw) none H')/\(yU d=true->vB e=true->yM g=false->∀ H',zB H H'->E (.ref nn) none H') /\
 (∀ bk lo hi hd tl ba to y,isBk bk->d=.tuple (bk.map fun x=>PyData.str (tx x))->GW lo hi hd tl ba->e=kM lo hi hd tl ba to->yK y->g=.str (tx y)->∀ H',zB H H'->Q (.bl (v9 bk lo hi hd tl ba to y)) H')
abbrev zDx:Stmt:=top 55
theorem zOw:FnScope ["book", "wish", "name"] ["book", "wish", "name"] (defScope zDx):=⟨rfl,rfl,rfl,by decide +kernel,rfl,by decide +kernel,by decide +kernel⟩
theorem zOx {f:Addr}{fd:FuncData}{nb nw nn:Addr} (F:Fun K "fits" "fits" zDx f fd) (cNB:y6 P w K mg base 3 "need_book" ["thing"] (qA nb yU)) (cNW:y6 P w K mg base 4 "need_wish" ["thing"] (zDs nw)) (cNN:y6 P w K mg base 2 "need_name" ["thing"] (qA nn yM))
  (cF:zO P w K mg base 1 "has_form" ["wish", "name"] zDt) (cO:zO P w K mg base 1 "left_out" ["book", "wish"] zDv):FnOk P w K mg base (vW P w) 5 f fd ["book", "wish", "name"] (zHp nb nw nn):=by
 refine F.okR zOw (fun vs H Q E h=>?_) (fun cdv A outer s H vs Q E hr h ok=>?_)
 ·obtain ⟨v,u,x,d,e,g,rfl,_⟩:=h; rfl
 ·obtain ⟨v,u,x,d,e,g,rfl,hv,hu,hx,sd,se,sg,she,kb,kw,kn,kg⟩:=h
  have r1:=hr.mono (j:=1) (by decide)
  have r2:=hr.mono (j:=2) (by decide)
  have r3:=hr.mono (j:=3) (by decide)
  refine ⟨_,zG (vD (vZ cNB ok.pass r3 rfl (zA (pv 0) zC))) (zG (vD (vZ cNW ok.pass hr rfl (zA (pv 1) zC))) (zG (vD (vZ cNN ok.pass r2 rfl (zA (pv 2) zC)))
   (zE (zP (zAQ (zK cF r1 rfl (zA (pv 1) (zA (pv 2) zC))) (gG (qZ zAY (pv 2) (zK cO r1 rfl (zA (pv 0) (zA (pv 1) zC))) (by with_unfolding_all rfl)))))))),?_⟩
  refine ⟨_,rfl,v,d,rfl,hv,sd,fun g1 H1 s1=>?_,fun b1 H1 s1=>kb b1 H1 s1⟩
  refine ⟨_,rfl,u,e,rfl,zW.same s1 _ _ hu,se,she,fun g2 H2 s2'=>?_,fun b2 H2 s2'=>kw g1 b2 _ (s1.trans s2')⟩
  have s2:=s1.trans s2'
  refine ⟨_,rfl,x,g,rfl,zW.same s2 _ _ hx,sg,fun g3 H3 s3'=>?_,fun b3 H3 s3'=>kn g1 g2 b3 _ (s2.trans s3')⟩
  have s3:=s2.trans s3'
  obtain ⟨c,bk,rfl,hc,hbk,rfl⟩:=zBx hv g1
  obtain ⟨lo,hi,hd,tl,ba,to,rfl,gw⟩:=zHo g2
  obtain ⟨a,rfl,hw⟩:=zDq hu
  obtain ⟨y,rfl,hy,rfl⟩:=zHT hx g3
  have kq:=kg bk lo hi hd tl ba to y hbk rfl gw rfl hy rfl
  have y8:y.length<=8:=hy.2.1
  refine ⟨_,rfl,_,rfl,a,lo,hi,hd,tl,ba,to,y,rfl,hw.same s3,by omega,_,rfl,?_⟩
  cases e1:qD lo hi hd tl y with
  | false =>
   have e2:v9 bk lo hi hd tl ba to y=false:=by simp only [v9,e1,Bool.false_and]
   rw [e2] at kq
   exact z4 (kq _ s3)
  | true =>
   refine yB ?_
   refine ⟨_,rfl,_,rfl,_,rfl,c,a,bk,lo,hi,hd,tl,ba,to,rfl,s3 _ _ hc,hbk.hi,hw.same s3,gw.len,fun l out H4 s4 hl hmem=>?_⟩
   refine ⟨l,_,rfl,.inl (.of hl),rfl,zAu _,?_⟩
   have e2:v9 bk lo hi hd tl ba to y=!zAN bk ba to y:=by simp only [v9,e1,Bool.true_and]
   rw [zAt,hmem y]
   rw [e2] at kq
   exact kq _ (s3.trans s4)
end
end Kn
end
section
namespace L2
open PySem PySem.Spec PyProof.Rows
section
variable {X:Cx}{pins:List (Addr × Obj)}{σ:St}{H:Hp}{s:Shared}{A:Around}{E:Value->Shared->Prop}{Q:Value->Shared->Prop}{b:Bool}
theorem zOy {x:V}{u t:Value}{tp:Addr}{dd:Option Addr}{its:List Value}{n:Nat}{sl:Array (Option Value)} (I:Inv X pins σ H s) (rx:zT x u) (ty:TyOf X.K H x t) (htp:s.heap.get? tp=some ⟨.type "tuple",dd,.seq its.toArray n,sl⟩) (e:PySem.W.kitAny X.K t its=some b) (h:∀ tk,Q (.bool b) { s with toks:=tk }) :
  wpAny (model X.prog X.w) A (call (.builtin "isinstance") [u,.ref tp]) Q E s:=by
 cases ty with
 | non=>cases (show u=Value.none from rx); exact PySem.W.kia_tup PySem.W.kitx_none I.kIn True.intro htp e (fun z=>nomatch z) h
 | bl y=>cases (show u=Value.bool y from rx); exact PySem.W.kia_tup PySem.W.kitx_bool I.kIn True.intro htp e (fun z=>nomatch z) h
 | int i=>obtain ⟨t,q⟩:=(show ∃ t,u=Value.int i t from rx); cases q; exact PySem.W.kia_tup PySem.W.kitx_int I.kIn True.intro htp e (fun z=>nomatch z) h
 | str y=>obtain ⟨t,q⟩:=(show ∃ t,u=Value.str y t from rx); cases q; exact PySem.W.kia_tup PySem.W.kitx_str I.kIn True.intro htp e (fun z=>nomatch z) h
 | flt y=>obtain ⟨t,q⟩:=(show ∃ t,u=Value.float y t from rx); cases q; exact PySem.W.kia_tup PySem.W.kitx_float I.kIn True.intro htp e (fun z=>nomatch z) h
 | @lst a xs ea =>
  cases (show u=Value.ref a from rx)
  obtain ⟨_,_,n,_,h1⟩:=(show yF X.prog X.w H s.heap a (.lst xs) from I.hok a _ ea)
  exact PySem.W.kia_tup PySem.W.kitx_list I.kIn ⟨_,h1,rfl⟩ htp e (fun z=>nomatch z) h
 | @frz a ob xs ea =>
  cases (show u=Value.ref a from rx)
  obtain ⟨_,_,_,n,_,h1⟩:=(show yF X.prog X.w H s.heap a (.frz ob (.lst xs)) from I.hok a _ ea)
  exact PySem.W.kia_tup PySem.W.kitx_list I.kIn ⟨_,h1,rfl⟩ htp e (fun z=>nomatch z) h
 | @tup a xs ea =>
  cases (show u=Value.ref a from rx)
  obtain ⟨_,_,_,p⟩:=(show yF X.prog X.w H s.heap a (.tup xs) from I.hok a _ ea)
  obtain ⟨o,h1,h2,_⟩:=p
  exact PySem.W.kia_tup PySem.W.kitx_tuple I.kIn ⟨o,h1,h2⟩ htp e (fun z=>nomatch z) h
 | @dK a kvs ea =>
  cases (show u=Value.ref a from rx)
  obtain ⟨_,_,vs,_,p⟩:=(show yF X.prog X.w H s.heap a (.dK kvs) from I.hok a _ ea)
  obtain ⟨o,es,ep,h1,h2,_⟩:=p
  exact PySem.W.kia_tup PySem.W.kitx_dict I.kIn ⟨o,h1,h2.1⟩ htp e (fun z=>nomatch z) h
 | @dT a kvs ea =>
  cases (show u=Value.ref a from rx)
  obtain ⟨_,_,xs,_,o,es,ep,h1,h2,_⟩:=(show yF X.prog X.w H s.heap a (.dT kvs) from I.hok a _ ea)
  exact PySem.W.kia_tup PySem.W.kitx_dict I.kIn ⟨o,h1,h2.1⟩ htp e (fun z=>nomatch z) h
 | @ins a C dx fs ea cl ha hn htk hm =>
  cases (show u=Value.ref a from rx)
  obtain ⟨mA,O,_⟩:=zEo I.hok ea
  obtain ⟨od,J,_⟩:=O.look
  exact PySem.W.kia_tup (PySem.W.kitx_own (cl.get _) cl.hd ha hn htk hm) I.kIn J htp e (fun z=>nomatch z) h
theorem zOz:qF X (.builtin "isinstance") (fun xs H Q=>∃ x tp c d t b,xs=[x,.ref tp]/\H tp=some (.tup [.ty c,.ty d])/\TyOf X.K H x t/\PySem.W.kitAny X.K t [.type c,.type d]=some b/\Q (.bl b) H):=by
 intro pins s σ H xs us Q I r h
 obtain ⟨x,tp,c,d,t,b,rfl,hH,ty,e,q⟩:=h
 obtain ⟨u,w',rfl,rx,rc⟩:=zAV r
 cases rc
 obtain ⟨_,its,rv,p⟩:=(show yF X.prog X.w H s.heap tp (.tup [.ty c,.ty d]) from I.hok tp _ hH)
 obtain ⟨y,z,e2,ry,rz⟩:=zAV rv
 subst e2
 cases (show y=Value.type c from ry)
 cases (show z=Value.type d from rz)
 obtain ⟨⟨oc,od,odt,os⟩,h1,h2,n,h3⟩:=p
 simp only at h2 h3
 subst h2 h3
 exact zOy I rx ty h1 e fun tk=>⟨.bl b,H,I.tok tk,rfl,q⟩
end
end L2
end
section
namespace L2
open PySem PySem.Spec PyProof.Rows
section
variable {X:Cx}{pins:List (Addr × Obj)}{σ:St}{H:Hp}{s:Shared}{e:Addr}
theorem zPA {H':Hp}{s':Shared}{C L:Addr}{a0:Value}{B:Heap}{x:Str}{np pos:Pos}{b0:Stmt}{suite:List Stmt}{D:Ends} (I:Inv X pins σ H s) (hs:X.stack=X.env::X.outer) (hf:X.env.frame=some X.env.locals) (hx:X.ex=[])
  (F:Flown X.prog X.w X.stack H s e (.ref C) a0 B H' s') (hC:PySem.W.excIn X.K C zBp "ValueError.__new__" = true) (O:XCls X.K X.mg x L) (hsub:qK X.K C L=true) (hg:Gl X x)
  (k:∀ s2,Inv (X.hand e) pins (List.replicate X.N.length none) (upd H' e (XO e C)) s2->H' e=none ->
   wpAny (model X.prog X.w) (X.hand e).A (execs (b0::suite) X.env) (SP (X.hand e) pins { nx:=fun _ _=>False,rt:=D.rt }) (fun _ _=>False) s2) (hdb:(x == ("__debug__" : Str))=false:=by decide) :
  wpAny (model X.prog X.w) X.A (noteFrame (.ref e) X.env) (fun _ s2=>wpAny (model X.prog X.w) X.A (setFlight (.ref e) none) (fun _ s3 =>
   wpAny (model X.prog X.w) X.A (handleBy (.ref e) X.env [.ExceptHandler (some (.Name x np)) none (b0::suite) pos]) (SP X pins D) X.xe s3) X.xe s2) X.xe s':=by
 have fly:=F.fly
 have fun':=F.fly.2.2.1
 rw [hs] at fly
 refine wpAny_looks_onW (by rw [<- hs]; exact I.ok.frames) hf fly fun h4 held up4=>?_
 refine wpAny_landsW held fun h5 fly5 up5=>?_
 have F5:=F.on (h':=h5) (by rw [hs]; exact fly5) (up4.trans up5) fun'
 have I5:Inv X pins σ H' { s' with heap:=h5 }:=I.call' F5.os (F5.un I.stkFree) F5.hok F5.bare (fun b z=>nomatch z)
 obtain ⟨tl,N,nm,q,bs,hdct,sn,sub,ab,col,dd,k0,k1,k2,k3,k5,mN,hC1,_,_,_,cd,hlk,hmro⟩:=zDT I.mod.kin hC
 obtain ⟨tl',N',nm',q',bs',hdct',sn',sub',ab',col',dd',j0,j1,j2,j3,j5,mN',hL1,_,_,T',_⟩:=zDT I.mod.kin O.exc
 have hin:(Value.ref C::tl).contains (.ref L)=true:=by
  unfold qK at hsub
  rw [hlk] at hsub
  rw [<- hmro]
  exact hsub
 have Ih:=I5.hand e
 refine wpAny_handleBy_cons (codeAny_handlers_test (zBB (X:=X.hand e) Ih hg O.bound ?_ hdb)) (by intro z; cases z)
 obtain ⟨oe,ws,hoe,hoec,hoed,_⟩:=fly5.first
 have hm:∀ {Q:Bool->Shared->Prop} {E':Value->Shared->Prop},Q true { s' with heap:=h5 }->wpAny (model X.prog X.w) (X.A.mark (some (.ref e))) (excMatches (.ref e) (.ref L)) Q E' { s' with heap:=h5 }:=fun {Q E'} hq=>by
  obtain ⟨hp,gg,ddd,tt,oo⟩:=s'
  exact zMq (I5.bk _ _ hC1) (I5.bk _ _ hL1) hoe hoec (T'.hasType PySem.F.excBase_ValueError.hasBase) hin hq
 refine hm ?_
 refine codeAny_handlers_suite (lands_againW fly5 fun h6 fly6 up6=>?_)
 have F6:=F5.on (h':=h6) (by rw [hs]; exact fly6) up6 (by rw [hs]; exact fly5.2.2.1)
 have I6:Inv X pins σ H' { s' with heap:=h6 }:=I.call' F6.os (F6.un I.stkFree) F6.hok F6.bare (fun b z=>nomatch z)
 obtain ⟨oe6,ws6,hoe6,hoec6,hoed6,_⟩:=fly6.first
 have neB:∀ b o,s.heap.get? b=some o->b≠e:=fun b o q z=>by
  by_cases hb:b∈yQ X.stack
  ·obtain ⟨_,o',ho',hd⟩:=fun'.mem (show b∈X.stack.filterMap (·.frame) from hb)
   obtain ⟨oe',ws',he',_,hed',_⟩:=F.fly.first
   rw [z,he'] at ho'
   cases ho'
   exact hd ws' hed'
  ·obtain ⟨o',ho'⟩:=F.there b o q hb
   rw [z,F.fly.2.1] at ho'
   cases ho'
 have I7:Inv X pins σ (upd H' e (XO e C)) { s' with heap:=h6 }:=by
  refine I6.track F.ef (fun b ob q z=>?_) (fun z=>?_) (fun y c q z=>?_) (fun p hp z=>?_) ⟨⟨oe6,ws6,hoe6,hoec6,hoed6⟩,⟨oe6,hoe6⟩,fun h1 h2 ⟨o1,v1,a1,a2,a3⟩ kk=>⟨o1,v1,kk _ a1,a2,a3⟩⟩
  ·obtain ⟨o',z'⟩:=I.base.there b ob q (by rw [hx]; simp)
   exact neB b o' z' z
  ·obtain ⟨m,⟨o,es,ep,ho,_⟩,_⟩:=I.loc
   exact neB _ o ho z
  ·obtain ⟨v,o,ho,_⟩:=I.cell y c q
   exact neB _ o ho z
  ·obtain ⟨a1,_⟩:=I.pin p hp
   exact neB _ _ a1 z
 have I8:Inv X pins (List.replicate X.N.length none) (upd H' e (XO e C)) { s' with heap:=h6 }:=I7.weak (by rw [List.length_replicate,I7.len]) fun j v q=>by
  rw [List.getElem?_replicate] at q
  split at q <;> cases q
 refine wpAny_mono (k _ (I8.hand e) F.ef) (fun f s3 h3=>?_) fun _ _ z=>z.elim
 cases f with
 | next=>obtain ⟨_,_,_,z⟩:=h3; exact z.elim
 | brk=>obtain ⟨_,_,_,z⟩:=h3; exact z.elim
 | cont=>obtain ⟨_,_,_,z⟩:=h3; exact z.elim
 | ret u =>
  obtain ⟨v,σ',H2,I10,r,z⟩:=h3
  exact ⟨v,σ',H2,I10.unhand I.ok,r,z⟩
def zPB (K:PySem.W.Frag) (N:Nat) (L:Addr) (tb:XK->TS) (ts:TS):TS:=fun D σ H =>
 tb (fun cls _ H'=>∃ C:Addr,cls=.ref C/\PySem.W.excIn K C zBp "ValueError.__new__" = true/\qK K C L=true/\∀ e,H' e=none->ts { nx:=fun _ _=>False,rt:=D.rt } (List.replicate N none) (upd H' e (XO e C))) D σ H
theorem zHq {x:Str}{L:Addr}{np pos pos':Pos}{body:List Stmt}{b0:Stmt}{suite:List Stmt}{tb:XK->TS}{ts:TS} (hs:X.stack=X.env::X.outer) (hf:X.env.frame=some X.env.locals) (hx:X.ex=[]) (O:XCls X.K X.mg x L) (hg:Gl X x)
  (hb:∀ (E:XK) (ET:Value->Shared->Prop) (pn:List (Addr × Obj)),g9 (vW X.prog X.w) (X.tryb ET pn) E->uI (X.tryb ET pn) body (tb E)) (hsu:∀ e,uI (X.hand e) (b0::suite) ts) (hdb:(x == ("__debug__" : Str))=false:=by decide) :
  PS X (.Try body [.ExceptHandler (some (.Name x np)) none (b0::suite) pos] [] [] pos') (zPB X.K X.N.length L tb ts):=by
 intro pins s σ H D I h
 refine wpAny_Try_except ?_
 have main:=hb _ (fun ev s1=>wpAny (model X.prog X.w) X.A (noteFrame ev X.env) (fun _ s2=>wpAny (model X.prog X.w) X.A (setFlight ev none) (fun _ s3 =>
   wpAny (model X.prog X.w) X.A (handleBy ev X.env [.ExceptHandler (some (.Name x np)) none (b0::suite) pos]) (SP X pins D) X.xe s3) X.xe s2) X.xe s1) (X.pn++pins) ?pass [] s σ H D (I.tryb _) h
 case pass =>
  rintro pins' σ' H1 s1 ev s' I1 ⟨e,cls,a0,B,H',rfl,F,C,rfl,hC,hsub,hts⟩
  have I2:=I1.untryb I.ok
  exact zPA I2 hs hf hx F hC O hsub hg (fun s2 I9 hn=>hsu e pins s2 _ _ _ I9 (hts e hn)) hdb
 refine wpAny_mono main (fun f s1 h1=>?_) fun ev s1 h1=>h1
 have h2:SP X pins D f s1:=by
  cases f with
  | next=>obtain ⟨σ',H',J,q⟩:=h1; exact ⟨σ',H',J.untryb I.ok,q⟩
  | brk=>obtain ⟨σ',H',J,q⟩:=h1; exact ⟨σ',H',J.untryb I.ok,q⟩
  | cont=>obtain ⟨σ',H',J,q⟩:=h1; exact ⟨σ',H',J.untryb I.ok,q⟩
  | ret u=>obtain ⟨v,σ',H',J,r,q⟩:=h1; exact ⟨v,σ',H',J.untryb I.ok,r,q⟩
 cases f with
 | next=>exact wpAny_execs_nil h2
 | ret u=>exact h2
 | brk=>exact h2
 | cont=>exact h2
end
end L2
end
section
namespace Kn.Dr
open PySem L2 Kn
def vT:PyData->Bool
 | .list ds=>decide (ds.length<=99) && ds.all (vE 0 9999)
 | .tuple ds=>decide (ds.length<=99) && ds.all (vE 0 9999)
 | _=>false
def vO (ns:List Nat):List PyData:=ns.map fun (n:Nat)=>PyData.int (n:Int)
def zX (ns:List Nat):List V:=ns.map fun (n:Nat)=>V.int (n:Int)
def qX (g:PyData) (ns:List Nat):Prop:=g=.list (vO ns)\/g=.tuple (vO ns)
def jK (H:Hp) (v:V) (ns:List Nat):Prop:=∃ a,v=.ref a/\(H a=some (.lst (zX ns))\/H a=some (.tup (zX ns)))
theorem jK.same {H H':Hp}{v:V}{ns:List Nat} (h:jK H v ns) (s:zB H H'):jK H' v ns :=
 let ⟨a,e,h⟩:=h; ⟨a,e,h.elim (fun h=>.inl (s _ _ h)) fun h=>.inr (s _ _ h)⟩
theorem Thgs.nums {H:Hp}:∀ ns:List Nat,Thgs H (vO ns) (zX ns)
 | []=>rfl
 | n::ns=>⟨_,_,rfl,rfl,Thgs.nums ns⟩
theorem Thgs.nums_inv {H:Hp}:∀ {ns:List Nat}{xs:List V},Thgs H (vO ns) xs->xs=zX ns
 | [],xs,h=>h
 | n::ns,xs,h=>by
  obtain ⟨y,ys,rfl,h1,h2⟩:=h
  rw [Thgs.nums_inv h2]
  cases (show y=.int (n:Int) from h1); rfl
theorem qX.thg {H:Hp}{g:PyData}{v:V}{ns:List Nat} (h:qX g ns) (t:zW H g v):jK H v ns:=by
 rcases h with rfl | rfl
 ·obtain ⟨a,xs,rfl,h1,h2⟩:=t
  rw [Thgs.nums_inv h2] at h1
  exact ⟨a,rfl,.inl h1⟩
 ·obtain ⟨a,xs,rfl,h1,h2⟩:=t
  rw [Thgs.nums_inv h2] at h1
  exact ⟨a,rfl,.inr h1⟩
theorem zDy:∀ {ds:List PyData},ds.all (vE 0 9999)=true->∃ ns:List Nat,ds=vO ns/\∀ n∈ns,n<=9999
 | [],_=>⟨[],rfl,by simp⟩
 | d::ds,h=>by
  rw [List.all_cons,Bool.and_eq_true] at h
  obtain ⟨i,rfl,h1,h2⟩:=zCE h.1
  obtain ⟨ns,rfl,h3⟩:=zDy h.2
  refine ⟨i.toNat::ns,?_,fun n hn=>?_⟩
  ·show _=PyData.int ((i.toNat:Nat):Int)::_
   rw [Int.toNat_of_nonneg h1]; rfl
  ·rcases List.mem_cons.mp hn with z | z
   ·omega
   ·exact h3 n z
theorem nums_inv {g:PyData} (h:vT g=true):∃ ns,qX g ns/\ns.length<=99:=by
 cases g with
 | list ds =>
  simp only [vT,Bool.and_eq_true,decide_eq_true_eq] at h
  obtain ⟨ns,rfl,_⟩:=zDy h.2
  exact ⟨ns,.inl rfl,by have:=h.1; unfold vO at this; rwa [List.length_map] at this⟩
 | tuple ds =>
  simp only [vT,Bool.and_eq_true,decide_eq_true_eq] at h
  obtain ⟨ns,rfl,_⟩:=zDy h.2
  exact ⟨ns,.inr rfl,by have:=h.1; unfold vO at this; rwa [List.length_map] at this⟩
 | _=>cases h
theorem gC (ns:List Nat):(zX ns).length=ns.length:=by unfold zX; rw [List.length_map]
structure KitL (K:PySem.W.Frag):Prop where
 nl:PySem.W.kitOne K (.type "NoneType") (.type "list")=some false
 bl:PySem.W.kitOne K (.type "bool") (.type "list")=some false
 il:PySem.W.kitOne K (.type "int") (.type "list")=some false
 sl:PySem.W.kitOne K (.type "str") (.type "list")=some false
 tl:PySem.W.kitOne K (.type "tuple") (.type "list")=some false
def zHr:PyData->Bool
 | .list _=>true
 | .tuple _=>true
 | _=>false
theorem PI.or {X:Cx}{tg e:Expr}{w1 w2:TI} (h1:PI X tg e w1) (h2:PI X tg e w2):PI X tg e (fun σ H R=>w1 σ H R\/w2 σ H R):=fun pins s σ H R I h=>h.elim (h1 pins s σ H R I) (h2 pins s σ H R I)
structure CstD (mg:Str->Option Value):Prop where
 mn:∃ t,mg "MOST_NUMBERS" = some (.int 99 t)
 gn:∃ t,mg "GREATEST_NUMBER" = some (.int 9999 t)
section
variable {P:Program}{w:World}{K:PySem.W.Frag}{mg:Str->Option Value}{base:Heap}
theorem zAO {t:Value}{b1 b2:Bool}{c d:Value} (h1:PySem.W.kitOne K t c=some b1) (h2:PySem.W.kitOne K t d=some b2):PySem.W.kitAny K t [c,d]=some (b1 || b2):=by
 unfold PySem.W.kitAny
 rw [h1]
 cases b1 with
 | true=>rfl
 | false =>
  show PySem.W.kitAny K t [d]=_
  unfold PySem.W.kitAny
  rw [h2]
  cases b2 <;> rfl
theorem zPC (KF:KitF K) (KL:KitL K) {H:Hp}:∀ {d:PyData}{v:V},zW H d v->∃ t,TyOf K H v t/\PySem.W.kitAny K t [.type "list",.type "tuple"]=some (zHr d)
 | .none,v,h=>by cases (show v=.non from h); exact ⟨_,.non,zAO KL.nl KF.nt⟩
 | .bool b,v,h=>by cases (show v=.bl b from h); exact ⟨_,.bl _,zAO KL.bl KF.bt⟩
 | .int i,v,h=>by cases (show v=.int i from h); exact ⟨_,.int _,zAO KL.il KF.it⟩
 | .str x,v,h=>by cases (show v=.str x from h); exact ⟨_,.str _,zAO KL.sl KF.st⟩
 | .list ds,v,h=>by obtain ⟨a,xs,rfl,h1,_⟩:=h; exact ⟨_,.lst h1,zAO (b1:=true) rfl KF.lt⟩
 | .tuple ds,v,h=>by obtain ⟨a,xs,rfl,h1,_⟩:=h; exact ⟨_,.tup h1,zAO (b2:=true) KL.tl rfl⟩
 | .dict _,v,h=>h.elim
abbrev zDz:Stmt:=top 59
theorem zPD:FnScope ["thing"] ["thing"] (defScope zDz):=⟨rfl,rfl,rfl,by decide +kernel,rfl,by decide +kernel,by decide +kernel⟩
theorem zPE:(["number"]:List Str).Nodup:=by decide +kernel
def zHs:Sp:=fun vs H Q _=>∃ v d,vs=[v]/\zW H d v/\sml d=true/\∀ H',zB H H'->Q (.bl (vT d)) H'
theorem zPF {f:Addr}{fd:FuncData} (F:Fun K "are_numbers" "are_numbers" zDz f fd) (B:Blt mg) (hli:mg "list" = none) (D:CstD mg) (KF:KitF K) (KL:KitL K) (cW:zO P w K mg base 1 "is_whole" ["thing", "least", "most"] zBy):FnOk P w K mg base zY 2 f fd ["thing"] zHs:=by
 obtain ⟨tm,hm⟩:=D.mn
 obtain ⟨tg,hg⟩:=D.gn
 refine F.ok zPD (fun vs H Q E h=>?_) (fun cdv A outer s H vs Q E hr h=>?_)
 ·obtain ⟨v,d,rfl,_⟩:=h; rfl
 ·obtain ⟨v,d,rfl,hv,hs,k⟩:=h
  refine ⟨_,zG (yI (PW.pt (uJ (yS (yV (yA zOz (by rfl) B.isinstance PyProof.Rows.boot_isinstance (zA (pv 0) (zA (uK (zA (qR (v:=.ty "list") (by rfl) hli PyProof.Rows.boot_list rfl) (zA (qR (v:=.ty "tuple") (by rfl) B.tuple PyProof.Rows.boot_tuple rfl) zC))) zC)))))
    (uS (vK zCT (yA jR (by rfl) B.len PySem.boot_len (zA (pv 0) zC)) (yR (v:=.int 99) (by rfl) hm ⟨_,rfl⟩) (y9 _)))))
    (zE (zP vJ)) yH)
   (zE (zP (yA (gP rfl) (by rfl) B.all PyProof.Rows.boot_all (zA (qH (N:=["number"]) (caps:=[]) rfl (uF (by kernel_rfl)) (PI.or (j6 (pv 0)) (gH (pv 0)))
    (fun cl C s H ex=>yG (i:=0) zPE rfl (Or.inl rfl)) (fun cl C s H ex=>uN)
    (fun cl C s H ex=>zK cW hr rfl (zA (pv 0) (zA zH (zA (yR (v:=.int 9999) (by rfl) hg ⟨_,rfl⟩) zC))))) zC)))),?_⟩
  refine ⟨_,rfl,by show 2<=sizeLine; decide,fun tp htp=>?_⟩
  have t1:zB H (upd H tp (.tup [.ty "list",.ty "tuple"])):=zB.upd1 htp
  have hv1:=zW.same t1 _ _ hv
  have htp1:upd H tp (.tup [.ty "list",.ty "tuple"]) tp=some (.tup [.ty "list",.ty "tuple"]):=zI
  generalize upd H tp (.tup [.ty "list",.ty "tuple"])=H1 at t1 hv1 htp1
  obtain ⟨t,hty,hkit⟩:=zPC KF KL hv1
  refine ⟨v,tp, "list", "tuple",t,zHr d,rfl,htp1,hty,hkit,_,rfl,?_⟩
  cases d with
  | list ds =>
   obtain ⟨a,xs,rfl,ha,hxs⟩:=hv1
   have hsx:ds.length<=900/\smls ds=true:=by
    simp only [sml,Bool.and_eq_true,decide_eq_true_eq] at hs
    exact hs
   have hxl:xs.length=ds.length:=hxs.length.symm
   refine z4 ?_
   refine ⟨_,rfl,_,_,rfl,.inl (.of ha),_,_,rfl,rfl,_,rfl,?_⟩
   by_cases h2:ds.length<=99
   ·refine jA (by rw [hxl]; omega) ?_
    refine .inl ⟨_,rfl,a,rfl,⟨_,.of ha⟩,?_⟩
    refine uY (kD _ a xs) [] 1 (by omega) (fun i acc H'=>zB H1 H'/\acc=((ds.take i).map (vE 0 9999)).map V.bl) ⟨zB.refl _,rfl⟩ (fun i acc H' _ h=>⟨.of (h.1 _ _ ha),by rw [h.2,List.length_map,List.length_map,List.length_take]; omega⟩) ?_ ?_
    ·rintro i y acc H' ys Nx hN hx hy ⟨sm,rfl⟩
     obtain ⟨y',rfl⟩:=qI hy
     obtain ⟨e,he,hye⟩:=hxs.get hx
     refine ⟨_,rfl,y,e,0,9999,rfl,zW.same sm _ _ hye,hN _ _ [some y] rfl ⟨sm,?_⟩⟩
     rw [jC he,List.map_append,List.map_append]; rfl
    ·rintro acc H' ⟨sm,rfl⟩ D hD
     rw [hxl,List.take_length]
     refine ⟨D,_,rfl,.of zI,?_⟩
     have e:vT (.list ds)=(ds.map (vE 0 9999)).all id:=by
      simp only [vT,decide_eq_true h2,Bool.true_and,List.all_map]; rfl
     rw [<- e]
     exact k _ (t1.trans (sm.upd_new (sm.free hD)))
   ·have e:vT (.list ds)=false:=by simp only [vT,decide_eq_false h2,Bool.false_and]
    rw [e] at k
    exact uZ (by rw [hxl]; omega) (k _ t1)
  | tuple ds =>
   obtain ⟨a,xs,rfl,ha,hxs⟩:=hv1
   have hsx:ds.length<=900/\smls ds=true:=by
    simp only [sml,Bool.and_eq_true,decide_eq_true_eq] at hs
    exact hs
   have hxl:xs.length=ds.length:=hxs.length.symm
   refine z4 ?_
   refine ⟨_,rfl,_,_,rfl,.inr (.of ha),_,_,rfl,rfl,_,rfl,?_⟩
   by_cases h2:ds.length<=99
   ·refine jA (by rw [hxl]; omega) ?_
    refine .inr ⟨_,rfl,a,rfl,⟨_,.of ha⟩,?_⟩
    refine uY (gQ _ a xs) [] 1 (by omega) (fun i acc H'=>zB H1 H'/\acc=((ds.take i).map (vE 0 9999)).map V.bl) ⟨zB.refl _,rfl⟩ (fun i acc H' _ h=>⟨.of (h.1 _ _ ha),by rw [h.2,List.length_map,List.length_map,List.length_take]; omega⟩) ?_ ?_
    ·rintro i y acc H' ys Nx hN hx hy ⟨sm,rfl⟩
     obtain ⟨y',rfl⟩:=qI hy
     obtain ⟨e,he,hye⟩:=hxs.get hx
     refine ⟨_,rfl,y,e,0,9999,rfl,zW.same sm _ _ hye,hN _ _ [some y] rfl ⟨sm,?_⟩⟩
     rw [jC he,List.map_append,List.map_append]; rfl
    ·rintro acc H' ⟨sm,rfl⟩ D hD
     rw [hxl,List.take_length]
     refine ⟨D,_,rfl,.of zI,?_⟩
     have e:vT (.tuple ds)=(ds.map (vE 0 9999)).all id:=by
      simp only [vT,decide_eq_true h2,Bool.true_and,List.all_map]; rfl
     rw [<- e]
     exact k _ (t1.trans (sm.upd_new (sm.free hD)))
   ·have e:vT (.tuple ds)=false:=by simp only [vT,decide_eq_false h2,Bool.false_and]
    rw [e] at k
    exact uZ (by rw [hxl]; omega) (k _ t1)
  | _=>exact yB (yB (k _ t1))
abbrev zEA:Stmt:=top 60
theorem zPG:FnScope ["thing"] ["thing"] (defScope zEA):=⟨rfl,rfl,rfl,by decide +kernel,rfl,by decide +kernel,by decide +kernel⟩
theorem zPH {f:Addr}{fd:FuncData}{C:Addr} (F:Fun K "need_numbers" "need_numbers" zEA f fd) (O:XCls K mg "NoNumber" C) (c1:zO P w K mg base 2 "are_numbers" ["thing"] zHs):FnOk P w K mg base (vW P w) 3 f fd ["thing"] (qA C vT):=by
 refine F.okR zPG (fun vs H Q E h=>?_) (fun cdv A outer s H vs Q E hr h ok=>?_)
 ·obtain ⟨v,d,rfl,_⟩:=h; rfl
 ·obtain ⟨v,d,rfl,hv,hs,k1,k2⟩:=h
  refine ⟨_,zE (yI (yS (yV (zK c1 hr rfl (zA (pv 0) zC)))) (zE (gT ok rfl O (by rfl) (zA yZ zC))) yH),?_⟩
  refine ⟨_,rfl,v,d,rfl,hv,hs,fun H' sm=>⟨_,rfl,?_⟩⟩
  cases e:vT d with
  | true=>exact z4 (k1 e H' sm)
  | false=>exact yB ⟨by show 1<=sizeLine; decide,k2 e H' sm⟩
def zHt:Sp:=fun vs H Q _=>∃ (t:S) (o:Nat),vs=[sv t,.int o]/\1<=o/\t.length<=900/\Q (sv (zQ t o)) H
theorem zPI {f:Addr}{fd:FuncData} (F:Fun K "end_of" "end_of" zBV f fd):FnOk P w K mg base zY 1 f fd ["text", "order"] zHt:=by
 refine F.ok zGP (fun vs H Q E h=>?_) (fun cdv A outer s H vs Q E hr h=>?_)
 ·obtain ⟨t,o,rfl,_⟩:=h; rfl
 ·obtain ⟨t,o,rfl,ho,hl,k⟩:=h
  refine ⟨_,zE (zP (zAf (pv 0) (jQ (zBD zBF (pv 1))) kR)),?_⟩
  refine ⟨_,rfl,_,rfl,_,rfl,_,rfl,_,rfl,?_,?_⟩
  ·rw [yJ,sizeLine_eq]; omega
  ·rw [zGN t o ho]; exact k
theorem gD (ps:List (S × S)) (o:Nat) (t:S) (n:Nat) (ns:List Nat) (p:Nat):dr ps o t (n::ns) p=if pick ps (zQ t o) n=[] then some (t,p+1) else dr ps o (t++pick ps (zQ t o) n) ns (p+1):=rfl
abbrev sDF:Stmt:=top 63
theorem zHu:FnScope ["pots", "order", "numbers", "start", "text", "place", "pot", "letter"] ["pots", "order", "numbers", "start"] (defScope sDF):=⟨rfl,rfl,rfl,by decide +kernel,rfl,by decide +kernel,by decide +kernel⟩
def zEB (C:Addr):Sp:=fun vs H Q E=>∃ (d:Addr) (nv:V) (bk:List S) (o st:Nat) (ns:List Nat),vs=[.ref d,.int o,nv,.int st]/\Bk bk o/\(zD o bk).length < 64/\gA H d (zD o bk)/\jK H nv ns/\ns.length<=99/\st<=ns.length /\
 (dr (zD o bk) o [] (ns.drop st) st=none->E (.ref C) none H) /\
 (∀ x q,dr (zD o bk) o [] (ns.drop st) st=some (x,q)->∀ (p:Addr) (H':Hp),zB H H'->H p=none->H' p=some (.tup [sv x,.int (q:Int)])->Q (.ref p) H')
theorem zPJ {f:Addr}{fd:FuncData}{C:Addr} (F:Fun K "drawn_from" "drawn_from" sDF f fd) (B:Blt mg) (O:XCls K mg "TooShort" C) (cEnd:zO P w K mg base 1 "end_of" ["text", "order"] zHt):FnOk P w K mg base (vW P w) 2 f fd ["pots", "order", "numbers", "start"] (zEB C):=by
 refine F.okR zHu (fun vs H Q E h=>?_) (fun cdv A outer s H vs Q E hr h ok=>?_)
 ·obtain ⟨d,nv,bk,o,st,ns,rfl,_⟩:=h; rfl
 ·obtain ⟨d,nv,bk,o,st,ns,rfl,hb,h64,hP,⟨na,rfl,hna⟩,h99,hst,kE,kQ⟩:=h
  have hu:=gO hr
  have nd:=zHu.nd
  refine ⟨_,zG (z9 (i:=4) nd rfl (Or.inl rfl) yZ)
   (zG (jO PassesOwn.leaving rfl (zJe rfl B.range (zA (pv 3) (zA (yA jR (by rfl) B.len PySem.boot_len (zA (pv 2) zC)) zC))) (yG (i:=5) nd rfl (Or.inl rfl))
    (zG (z9 (i:=6) nd rfl (Or.inl rfl) (zAc hu (pv 0) (zK cEnd hr rfl (zA (pv 4) (zA (pv 1) zC))) (fun _ _=>rfl)))
    (zG (z9 (i:=7) nd rfl (Or.inl rfl) (yD zAA (pv 6) (zR j7 (yD zKF (pv 2) (pv 5) (fun _ _=>rfl)) (yA jR (by rfl) B.len PySem.boot_len (zA (pv 6) zC))) (fun _ _=>rfl)))
    (zG (yI (vK zCS (pv 7) yZ (y9 _)) (zE (zP (uK (zA (pv 4) (zA (zR yW (pv 5) zH) zC))))) yH)
    (zE (z9 (i:=4) nd rfl (Or.inl rfl) (zR zJl (pv 4) (pv 7))))))))
   (zE (gT ok rfl O (by rfl) (zA yZ zC)))),?_⟩
  have hsq:yC K H na (zX ns)\/zZ K H na (zX ns):=hna.elim (fun h=>.inl (.of h)) fun h=>.inr (.of h)
  refine ⟨_,rfl,_,rfl,na,zX ns,rfl,hsq,(st:Int),((zX ns).length:Int),rfl,⟨by omega,by omega,by omega,by rw [gC]; omega⟩,?_⟩
  have enn:(((zX ns).length:Int) - (st:Int)).toNat=ns.length - st:=by rw [gC]; omega
  have hne:bk≠[]:=fun z=>by have:=hb.lo; rw [z] at this; simp at this
  refine kZ (zAE (st:Int) _) (fun i σ H'=>H'=H/\∃ (t:S) (x5 x6 x7:Option V),σ=[some (.ref d),some (.int o),some (.ref na),some (.int st),some (sv t),x5,x6,x7]/\t.length=i/\vH o bk t/\dr (zD o bk) o [] (ns.drop st) st=dr (zD o bk) o t (ns.drop (st+i)) (st+i))
   ⟨rfl,[],_,_,_,rfl,rfl,vH.nil hne,rfl⟩ (fun i σ H' _ h=>trivial) ?_ ?_
  ·rintro i x σ H' Nx hN hx ⟨rfl,t,x5,x6,x7,rfl,htl,hal,hdr⟩
   rw [enn] at hx
   obtain ⟨j,hj,rfl⟩:=gU hx
   have hi:i < ns.length - st:=by
    have:=(List.getElem?_eq_some_iff.mp hj).1
    rwa [List.length_range] at this
   rw [List.getElem?_range hi] at hj
   cases hj
   have hnx:ns[st+i]?=some (ns[st+i]'(by omega)):=List.getElem?_eq_getElem _
   generalize ns[st+i]'(by omega)=n at hnx
   have hdd:ns.drop (st+i)=n::ns.drop (st+i+1):=by
    rw [List.drop_eq_getElem_cons (by omega)]
    rw [(List.getElem?_eq_some_iff.mp hnx).2]
   rw [hdd,gD] at hdr
   obtain ⟨pa,dg,hpa⟩:=hP.get hal
   obtain ⟨hpk,hpl⟩:=zNH hal n
   refine ⟨_,rfl,_,rfl,_,rfl,t,o,rfl,hb.o1,by omega,d,.ref pa,rfl,dg,?_⟩
   have hv0:(zX ns)[st+i]?=some (V.int (n:Int)):=by unfold zX; rw [List.getElem?_map,hnx]; rfl
   have ix0:uW (zX ns) ((st:Int)+(i:Int))=some (V.int (n:Int)):=by
    have:((st:Int)+(i:Int))=((st+i:Nat):Int):=rfl
    rw [this]; exact jF hv0
   have ixp:uW ((pot (zD o bk) (zQ t o)).map sv) ((n:Int) % (((pot (zD o bk) (zQ t o)).map sv).length:Int))=some (sv (pick (zD o bk) (zQ t o) n)):=by
    rw [List.length_map]
    have:(n:Int) % ((pot (zD o bk) (zQ t o)).length:Int)=((n % (pot (zD o bk) (zQ t o)).length:Nat):Int):=rfl
    rw [this]
    exact jF (by rw [List.getElem?_map,hpk]; rfl)
   have hmod:(0:Int) < (((pot (zD o bk) (zQ t o)).map sv).length:Int):=by rw [List.length_map]; omega
   refine ⟨_,rfl,_,rfl,_,rfl,?_⟩
   have step:∀ (R:V->Hp->Prop),R (V.int (n:Int)) H'->rIx K (.ref na) (.int ((st:Int)+(i:Int))) H' R:=fun R hR=>by
    rcases hna with h | h
    ·exact .inl ⟨na,zX ns,_,_,rfl,rfl,.of h,ix0,hR⟩
    ·exact .inr (.inl ⟨na,zX ns,_,_,rfl,rfl,.of h,ix0,hR⟩)
   refine step _ ?_
   refine ⟨_,rfl,pa,_,rfl,.inl (.of hpa),_,_,rfl,rfl,hmod,pa,_,_,sv (pick (zD o bk) (zQ t o) n),rfl,rfl,.of hpa,ixp,?_⟩
   refine ⟨_,rfl,rfl,_,rfl,?_⟩
   rcases hal.pick n with e | ⟨c,e,hal2⟩
   ·rw [if_pos e] at hdr
    refine uZ (by rw [e]; rfl) ?_
    refine ⟨_,rfl,_,rfl,_,_,rfl,rfl,by show 2<=sizeLine; decide,fun p hp=>?_⟩
    refine kQ _ _ hdr p _ (zB.upd1 hp) hp ?_
    rw [zI]; rfl
   ·rw [if_neg (by rw [e]; simp),e] at hdr
    refine jA (by rw [e]; intro z; cases z) ?_
    rw [e]
    refine ⟨_,rfl,_,rfl,tx t,tx [c],rfl,rfl,by rw [yJ,yJ,sizeLine_eq]; show _+1<=_; omega,hN _ _ ⟨rfl,t++[c],_,_,_,by rw [zMj]; rfl,by rw [List.length_append]; simp [htl],hal2,?_⟩⟩
    rw [hdr]; rfl
  ·rintro σ H' ⟨rfl,t,x5,x6,x7,rfl,htl,hal,hdr⟩
   have e9:ns.drop (st+(ns.length - st))=[]:=List.drop_of_length_le (by omega)
   rw [List.length_map,List.length_range,enn,e9] at hdr
   exact ⟨by show 1<=sizeLine; decide,kE hdr⟩
end
end Kn.Dr
end
section
namespace Kn.Dr
open PySem L2 Kn
theorem zPK {C G R:Prop} (main:(C->R)->G) (cont:C->R):G:=main cont
theorem zPL {l:List S}{x:S} (h:x∈l):(l.map tx)[l.idxOf x]?=some (tx x)/\∀ i,i < l.idxOf x->(l.map tx)[i]?≠some (tx x):=by
 have h2:=List.idxOf_lt_length_iff.mpr h
 refine ⟨?_,fun i hi z=>?_⟩
 ·rw [List.getElem?_map,List.getElem?_eq_getElem h2,List.getElem_idxOf h2]; rfl
 ·have hil:i < l.length:=by omega
  rw [List.getElem?_map,List.getElem?_eq_getElem hil] at z
  have e:=qJ (Option.some.inj z)
  have h3:l.findIdx (· == x)<=i:=by
   by_cases hc:i < l.findIdx (· == x)
   ·have:=List.not_of_lt_findIdx hc
    rw [e] at this
    simp at this
   ·omega
  have h4:l.idxOf x=l.findIdx (· == x):=rfl
  omega
section
variable {P:Program}{w:World}{K:PySem.W.Frag}{mg:Str->Option Value}{base:Heap}
theorem zPM {H:Hp}{qs:List (S × S)}{xs:List V}{i:Nat}{y:V} (rp:Reps K H (qs.map k7) xs) (hx:xs[i]?=some y):∃ (p:S × S) (a:Addr),qs[i]?=some p/\y=.ref a/\zZ K H a [sv p.1,sv p.2]:=by
 obtain ⟨dd,hdd,rx⟩:=rp.get hx
 obtain ⟨p,hp,rfl⟩:=gU hdd
 obtain ⟨at',xs',rfl,hsq,y1,ys1',rfl,ry1,y2,ys2',rfl,ry2,hnil⟩:=rx
 have ey1:y1=sv p.1:=ry1
 have ey2:y2=sv p.2:=ry2
 have en:ys2'=[]:=hnil
 subst ey1 ey2 en
 exact ⟨p,at',hp,rfl,hsq⟩
abbrev zEC:Stmt:=top 64
theorem zPN:FnScope ["book", "order", "numbers"] ["book", "order", "numbers"] (defScope zEC):=⟨rfl,rfl,rfl,by decide +kernel,rfl,by decide +kernel,by decide +kernel⟩
def zED (nb no nu ts:Addr):Sp:=fun vs H Q E=>∃ v u x d e g,vs=[v,u,x]/\zW H d v/\zW H e u/\zW H g x/\sml d=true/\sml e=true/\sml g=true /\
 (yU d=false->∀ H',zB H H'->E (.ref nb) none H')/\(yU d=true->uC e=false->∀ H',zB H H'->E (.ref no) none H')/\(yU d=true->uC e=true->vT g=false->∀ H',zB H H'->E (.ref nu) none H') /\
 (∀ bk o ns,Bk bk o->d=.tuple (bk.map fun x=>PyData.str (tx x))->u=.int (o:Nat)->qX g ns->ns.length<=99->(zD o bk).length < 64 /\
  (dr (zD o bk) o [] ns 0=none->∀ H',zB H H'->E (.ref ts) none H') /\
  (∀ x q,dr (zD o bk) o [] ns 0=some (x,q)->∀ (p:Addr) (H':Hp),zB H H'->H p=none->H' p=some (.tup [sv x,.int (q:Int)])->Q (.ref p) H'))
theorem zPO {f:Addr}{fd:FuncData}{nb no nu ts:Addr} (F:Fun K "drawn" "drawn" zEC f fd) (cNB:y6 P w K mg base 3 "need_book" ["thing"] (qA nb yU)) (cNO:y6 P w K mg base 3 "need_order" ["thing"] (qA no uC)) (cNu:y6 P w K mg base 3 "need_numbers" ["thing"] (qA nu vT))
  (cP:zO P w K mg base 4 "pots_by_end" ["book", "order"] zBv) (cD:y6 P w K mg base 2 "drawn_from" ["pots", "order", "numbers", "start"] (zEB ts)):FnOk P w K mg base (vW P w) 5 f fd ["book", "order", "numbers"] (zED nb no nu ts):=by
 refine F.okR zPN (fun vs H Q E h=>?_) (fun cdv A outer s H vs Q E hr h ok=>?_)
 ·obtain ⟨v,u,x,d,e,g,rfl,_⟩:=h; rfl
 ·obtain ⟨v,u,x,d,e,g,rfl,hv,hu,hx,sd,se,sg,kb,ko,kn,kg⟩:=h
  have r2:=hr.mono (j:=2) (by decide)
  have r3:=hr.mono (j:=3) (by decide)
  refine ⟨_,zG (vD (vZ cNB ok.pass r3 rfl (zA (pv 0) zC))) (zG (vD (vZ cNO ok.pass r3 rfl (zA (pv 1) zC))) (zG (vD (vZ cNu ok.pass r3 rfl (zA (pv 2) zC)))
   (zE (zP (vZ cD ok.pass r2 rfl (zA (zK cP hr rfl (zA (pv 0) (zA (pv 1) zC))) (zA (pv 1) (zA (pv 2) (zA zH zC))))))))),?_⟩
  refine ⟨_,rfl,v,d,rfl,hv,sd,fun g1 H1 s1=>?_,fun b1 H1 s1=>kb b1 H1 s1⟩
  refine ⟨_,rfl,u,e,rfl,zW.same s1 _ _ hu,se,fun g2 H2 s2'=>?_,fun b2 H2 s2'=>ko g1 b2 _ (s1.trans s2')⟩
  have s2:=s1.trans s2'
  refine ⟨_,rfl,x,g,rfl,zW.same s2 _ _ hx,sg,fun g3 H3 s3'=>?_,fun b3 H3 s3'=>kn g1 g2 b3 _ (s2.trans s3')⟩
  have s3:=s2.trans s3'
  obtain ⟨c,bk,rfl,hc,hbk,rfl⟩:=zBx hv g1
  obtain ⟨o,rfl,o1,o3⟩:=zDZ hu g2
  obtain ⟨ns,hns,h99⟩:=nums_inv g3
  have hb:Bk bk o:=⟨hbk,o1,o3⟩
  obtain ⟨h64,kE,kQ⟩:=kg bk o ns hb rfl rfl hns h99
  refine ⟨_,rfl,_,rfl,c,bk,o,rfl,s3 _ _ hc,hb,h64,fun pd H4 s4 hP=>?_⟩
  have s34:=s3.trans s4
  refine ⟨_,rfl,_,rfl,pd,x,bk,o,0,ns,rfl,hb,h64,hP,(hns.thg hx).same s34,h99,Nat.zero_le _,fun h=>kE h H4 s34,fun x q h p H5 s5 hp hq=>kQ x q h p H5 (s34.trans s5) (s34.free hp) hq⟩
abbrev sFD:Stmt:=top 65
theorem zHv:FnScope ["book", "order", "wish", "barred", "numbers", "pots", "pair"] ["book", "order", "wish", "barred", "numbers"] (defScope sFD):=⟨rfl,rfl,rfl,by decide +kernel,rfl,by decide +kernel,by decide +kernel⟩
def qN (lo hi:Int) (hd tl:S) (out:List S) (x:S):Bool:=qD lo hi hd tl x && !decide (x∈out)
def zHw (ts:Addr):Sp:=fun vs H Q E=>∃ (c wa ba:Addr) (nv:V) (bk:List S) (o:Nat) (lo hi:Int) (hd tl:S) (wb:List S) (to:Bool) (out:List S) (ns:List Nat),vs=[.ref c,.int o,.ref wa,.ref ba,nv]/\H c=some (.tup (zF bk))/\Bk bk o/\(zD o bk).length < 64/\qW H wa lo hi hd tl wb to/\H ba=some (.lst (zF out))/\jK H nv ns/\ns.length<=99 /\
 (yX (zD o bk) o (qN lo hi hd tl out) ns (ns.length+1) 0=none->∀ H',zB H H'->E (.ref ts) none H') /\
 (∀ x q,yX (zD o bk) o (qN lo hi hd tl out) ns (ns.length+1) 0=some (x,q)->∀ (p:Addr) (H':Hp),zB H H'->H p=none->H' p=some (.tup [sv x,.int (q:Int)])->Q (.ref p) H')
theorem zPP {f:Addr}{fd:FuncData}{ts:Addr} (F:Fun K "first_drawn" "first_drawn" sFD f fd) (cP:zO P w K mg base 4 "pots_by_end" ["book", "order"] zBv) (cD:y6 P w K mg base 2 "drawn_from" ["pots", "order", "numbers", "start"] (zEB ts))
  (cF:zO P w K mg base 1 "has_form" ["wish", "name"] zDt):FnOk P w K mg base (vW P w) 5 f fd ["book", "order", "wish", "barred", "numbers"] (zHw ts):=by
 refine F.okR zHv (fun vs H Q E h=>?_) (fun cdv A outer s H vs Q E hr h ok=>?_)
 ·obtain ⟨c,wa,ba,nv,bk,o,lo,hi,hd,tl,wb,to,out,ns,rfl,_⟩:=h; rfl
 ·obtain ⟨c,wa,ba,nv,bk,o,lo,hi,hd,tl,wb,to,out,ns,rfl,hc,hb,h64,hw,hba,hnv,h99,kE,kQ⟩:=h
  have nd:=zHv.nd
  have r2:=hr.mono (j:=2) (by decide)
  have r1:=hr.mono (j:=1) (by decide)
  refine ⟨_,zG (z9 (i:=5) nd rfl (Or.inl rfl) (zK cP hr rfl (zA (pv 0) (zA (pv 1) zC))))
   (zG (z9 (i:=6) nd rfl (Or.inl rfl) (vZ cD ok.pass r2 rfl (zA (pv 5) (zA (pv 1) (zA (pv 4) (zA zH zC))))))
   (zG (zCP PassesOwn.leaving (PW.pt (uJ (yS (yV (zK cF r1 rfl (zA (pv 2) (zA (yD yT (pv 6) zH (fun _ _=>rfl)) zC))))) (uS (vK zKK (yD yT (pv 6) zH (fun _ _=>rfl)) (pv 3) (by with_unfolding_all rfl)))))
    (zE (z9 (i:=6) nd rfl (Or.inl rfl) (vZ cD ok.pass r2 rfl (zA (pv 5) (zA (pv 1) (zA (pv 4) (zA (yD yT (pv 6) zH (fun _ _=>rfl)) zC))))))))
   (zE (zP (pv 6))))),?_⟩
  have hne:bk≠[]:=fun z=>by have:=hb.lo; rw [z] at this; simp at this
  refine ⟨_,rfl,_,rfl,c,bk,o,rfl,hc,hb,h64,fun pd H1 s1 hP=>?_⟩
  generalize hfull:yX (zD o bk) o (qN lo hi hd tl out) ns (ns.length+1) 0=full at kE kQ
  have hfull0:=hfull
  unfold yX at hfull
  rw [List.drop_zero] at hfull
  refine ⟨_,rfl,_,rfl,_,rfl,pd,nv,bk,o,0,ns,rfl,hb,h64,hP,hnv.same s1,h99,Nat.zero_le _,fun h=>?_,fun x q h p H2 s2 hp hq=>?_⟩
  ·rw [List.drop_zero] at h
   rw [h] at hfull
   exact kE hfull.symm H1 s1
  ·rw [List.drop_zero] at h
   rw [h] at hfull
   have s12:=s1.trans s2
   have hdl:=zAo ns [] 0 x q (vH.nil hne) h
   have hxl:x.length<=99:=by have:=hdl.2.2; have:=hdl.2.1; simp only [List.length_nil] at *; omega
   have hst:full=if qN lo hi hd tl out x=true then some (x,q) else yX (zD o bk) o (qN lo hi hd tl out) ns (ns.length+1) q:=by
    rw [<- hfull]
    show (if _ then _ else _)=_
    rw [zBs _ _ _ ns ns.length (ns.length+1) q (by omega) (by omega)]
   refine ⟨fun m σ H'=>∃ (p:Addr) (x:S) (q:Nat),σ=[some (.ref c),some (.int o),some (.ref wa),some (.ref ba),some nv,some (.ref pd),some (.ref p)]/\H' p=some (.tup [sv x,.int (q:Int)])/\H p=none/\zB H1 H'/\m=ns.length - q/\q<=ns.length/\x.length<=99 /\
     full=if qN lo hi hd tl out x=true then some (x,q) else yX (zD o bk) o (qN lo hi hd tl out) ns (ns.length+1) q,⟨_,p,x,q,rfl,hq,s1.free hp,s2,rfl,by omega,hxl,hst⟩,?_⟩
   clear hst hxl hdl s12 hq hp s2 h hfull hfull0
   clear p x q H2
   rintro m σ H' ⟨p,x,q,rfl,hp,hpn,sm,rfl,hqn,hxl,hst⟩
   have s1m:=s1.trans sm
   refine ⟨_,rfl,_,rfl,p,_,0,sv x,rfl,rfl,.of hp,rfl,wa,lo,hi,hd,tl,wb,to,x,rfl,hw.same s1m,by omega,_,rfl,?_⟩
   have hend:qN lo hi hd tl out x=true->Q (.ref p) H':=fun ho=>by
    rw [if_pos ho] at hst
    exact kQ x q hst p H' s1m hpn hp
   apply zPK (C:=qN lo hi hd tl out x=false)
   case main =>
    intro cont
    cases e1:qD lo hi hd tl x with
    | false=>exact yB (yB (cont (by simp only [qN,e1,Bool.false_and])))
    | true =>
     refine z4 ?_
     refine ⟨_,rfl,p,_,0,sv x,rfl,rfl,.of hp,rfl,_,rfl,ba,zF out,rfl,.inl (.of (s1m _ _ hba)),rfl,zAu _,_,rfl,?_⟩
     rw [zAt]
     by_cases hin:x∈out
     ·exact uZ hin (cont (by simp only [qN,decide_eq_true hin,Bool.not_true,Bool.and_false]))
     ·exact jA hin ⟨_,rfl,hend (by simp only [qN,e1,decide_eq_false hin,Bool.not_false,Bool.and_true])⟩
   case cont =>
    intro hno
    rw [if_neg (by rw [hno]; decide)] at hst
    have hst2:=hst
    unfold yX at hst
    refine ⟨_,fun _ _ h=>h,?_⟩
    refine ⟨_,rfl,_,rfl,_,rfl,_,rfl,p,_,1,.int (q:Int),rfl,rfl,.of hp,rfl,pd,nv,bk,o,q,ns,rfl,hb,h64,hP.same sm,hnv.same s1m,h99,hqn,fun h=>?_,fun x2 q2 h p2 H3 s3 hp2 hq2=>?_⟩
    ·rw [h] at hst
     exact kE hst H' s1m
    ·rw [h] at hst
     have hdl:=zAo _ [] q x2 q2 (vH.nil hne) h
     rw [List.length_drop] at hdl
     have h9:x2.length<=99:=by have:=hdl.2.2; have:=hdl.2.1; simp only [List.length_nil] at *; omega
     refine ⟨ns.length - q2,by omega,p2,x2,q2,rfl,hq2,s1m.free hp2,sm.trans s3,rfl,by omega,h9,?_⟩
     rw [hst]
     show (if _ then _ else _)=_
     rw [zBs _ _ _ ns ns.length (ns.length+1) q2 (by omega) (by omega)]
abbrev zEE:Stmt:=top 66
theorem zPQ:FnScope ["book", "order", "wish", "numbers"] ["book", "order", "wish", "numbers"] (defScope zEE):=⟨rfl,rfl,rfl,by decide +kernel,rfl,by decide +kernel,by decide +kernel⟩
def zHx (nb no nw nu ts:Addr):Sp:=fun vs H Q E=>∃ v u y x d e z g,vs=[v,u,y,x]/\zW H d v/\zW H e u/\zW H z y/\zW H g x/\sml d=true/\sml e=true/\sml z=true/\SeqAt.shaped z=true/\sml g=true /\
 (yU d=false->∀ H',zB H H'->E (.ref nb) none H')/\(yU d=true->uC e=false->∀ H',zB H H'->E (.ref no) none H')/\(yU d=true->uC e=true->vB z=false->∀ H',zB H H'->E (.ref nw) none H')/\(yU d=true->uC e=true->vB z=true->vT g=false->∀ H',zB H H'->E (.ref nu) none H') /\
 (∀ bk o lo hi hd tl ba to ns,Bk bk o->d=.tuple (bk.map fun x=>PyData.str (tx x))->u=.int (o:Nat)->GW lo hi hd tl ba->z=kM lo hi hd tl ba to->qX g ns->ns.length<=99->(zD o bk).length < 64 /\
  (yX (zD o bk) o (v9 bk lo hi hd tl ba to) ns (ns.length+1) 0=none->∀ H',zB H H'->E (.ref ts) none H') /\
  (∀ x q,yX (zD o bk) o (v9 bk lo hi hd tl ba to) ns (ns.length+1) 0=some (x,q)->∀ (p:Addr) (H':Hp),zB H H'->H p=none->H' p=some (.tup [sv x,.int (q:Int)])->Q (.ref p) H'))
theorem zPR {f:Addr}{fd:FuncData}{nb no nw nu ts:Addr} (F:Fun K "drawn_fitting" "drawn_fitting" zEE f fd) (cNB:y6 P w K mg base 3 "need_book" ["thing"] (qA nb yU)) (cNO:y6 P w K mg base 3 "need_order" ["thing"] (qA no uC)) (cNW:y6 P w K mg base 4 "need_wish" ["thing"] (zDs nw)) (cNu:y6 P w K mg base 3 "need_numbers" ["thing"] (qA nu vT))
  (cO:zO P w K mg base 1 "left_out" ["book", "wish"] zDv) (cD:y6 P w K mg base 5 "first_drawn" ["book", "order", "wish", "barred", "numbers"] (zHw ts)):FnOk P w K mg base (vW P w) 6 f fd ["book", "order", "wish", "numbers"] (zHx nb no nw nu ts):=by
 refine F.okR zPQ (fun vs H Q E h=>?_) (fun cdv A outer s H vs Q E hr h ok=>?_)
 ·obtain ⟨v,u,y,x,d,e,z,g,rfl,_⟩:=h; rfl
 ·obtain ⟨v,u,y,x,d,e,z,g,rfl,hv,hu,hy,hx,sd,se,sz,shz,sg,kb,ko,kw,kn,kg⟩:=h
  have r1:=hr.mono (j:=1) (by decide)
  have r3:=hr.mono (j:=3) (by decide)
  have r4:=hr.mono (j:=4) (by decide)
  refine ⟨_,zG (vD (vZ cNB ok.pass r3 rfl (zA (pv 0) zC))) (zG (vD (vZ cNO ok.pass r3 rfl (zA (pv 1) zC))) (zG (vD (vZ cNW ok.pass r4 rfl (zA (pv 2) zC))) (zG (vD (vZ cNu ok.pass r3 rfl (zA (pv 3) zC)))
   (zE (zP (vZ cD ok.pass hr rfl (zA (pv 0) (zA (pv 1) (zA (pv 2) (zA (zK cO r1 rfl (zA (pv 0) (zA (pv 2) zC))) (zA (pv 3) zC))))))))))),?_⟩
  refine ⟨_,rfl,v,d,rfl,hv,sd,fun g1 H1 s1=>?_,fun b1 H1 s1=>kb b1 H1 s1⟩
  refine ⟨_,rfl,u,e,rfl,zW.same s1 _ _ hu,se,fun g2 H2 s2'=>?_,fun b2 H2 s2'=>ko g1 b2 _ (s1.trans s2')⟩
  have s2:=s1.trans s2'
  refine ⟨_,rfl,y,z,rfl,zW.same s2 _ _ hy,sz,shz,fun g4 H4 s4'=>?_,fun b4 H4 s4'=>kw g1 g2 b4 _ (s2.trans s4')⟩
  have s4:=s2.trans s4'
  refine ⟨_,rfl,x,g,rfl,zW.same s4 _ _ hx,sg,fun g3 H3 s3'=>?_,fun b3 H3 s3'=>kn g1 g2 g4 b3 _ (s4.trans s3')⟩
  have s3:=s4.trans s3'
  obtain ⟨c,bk,rfl,hc,hbk,rfl⟩:=zBx hv g1
  obtain ⟨o,rfl,o1,o3⟩:=zDZ hu g2
  obtain ⟨lo,hi,hd,tl,ba,to,rfl,gw⟩:=zHo g4
  obtain ⟨a,rfl,hw⟩:=zDq hy
  obtain ⟨ns,hns,h99⟩:=nums_inv g3
  have hb:Bk bk o:=⟨hbk,o1,o3⟩
  obtain ⟨h64,kE,kQ⟩:=kg bk o lo hi hd tl ba to ns hb rfl rfl gw rfl hns h99
  refine ⟨_,rfl,_,rfl,_,rfl,_,rfl,_,rfl,c,a,bk,lo,hi,hd,tl,ba,to,rfl,s3 _ _ hc,hb.hi,hw.same s3,gw.len,fun l out H5 s5 hl hout=>?_⟩
  have s35:=s3.trans s5
  have eok:qN lo hi hd tl out=v9 bk lo hi hd tl ba to:=by
   funext x
   unfold qN v9
   rw [hout]
  refine ⟨_,rfl,c,a,l,x,bk,o,lo,hi,hd,tl,ba,to,out,ns,rfl,s35 _ _ hc,hb,h64,hw.same s35,hl,(hns.thg hx).same s35,h99,?_⟩
  rw [eok]
  exact ⟨fun h H6 s6=>kE h H6 (s35.trans s6),fun x q h p H6 s6 hp hq=>kQ x q h p H6 (s35.trans s6) (s35.free hp) hq⟩
abbrev sNF:Stmt:=top 67
theorem zHy:FnScope ["book", "order", "name", "pots", "found", "end", "letter"] ["book", "order", "name"] (defScope sNF):=⟨rfl,rfl,rfl,by decide +kernel,rfl,by decide +kernel,by decide +kernel⟩
def zHz (nb no nn nm:Addr):Sp:=fun vs H Q E=>∃ v u x d e g,vs=[v,u,x]/\zW H d v/\zW H e u/\zW H g x/\sml d=true/\sml e=true/\sml g=true /\
 (yU d=false->∀ H',zB H H'->E (.ref nb) none H')/\(yU d=true->uC e=false->∀ H',zB H H'->E (.ref no) none H')/\(yU d=true->uC e=true->yM g=false->∀ H',zB H H'->E (.ref nn) none H') /\
 (∀ bk o nm',Bk bk o->d=.tuple (bk.map fun x=>PyData.str (tx x))->u=.int (o:Nat)->yK nm'->g=.str (tx nm')->(zD o bk).length < 64 /\
  (¬ (∀ q∈zN o nm',q∈zD o bk)->∀ H',zB H H'->E (.ref nm) none H') /\
  ((∀ q∈zN o nm',q∈zD o bk)->∀ (l:Addr) (H':Hp),zB H H'->H l=none->H' l=some (.lst (zX (v6 (zD o bk) (zN o nm'))))->Q (.ref l) H'))
theorem zPS {f:Addr}{fd:FuncData}{nb no nn nm:Addr} (F:Fun K "numbers_for" "numbers_for" sNF f fd) (O:XCls K mg "NotMade" nm) (cNB:y6 P w K mg base 3 "need_book" ["thing"] (qA nb yU)) (cNO:y6 P w K mg base 3 "need_order" ["thing"] (qA no uC)) (cNN:y6 P w K mg base 2 "need_name" ["thing"] (qA nn yM))
  (cP:zO P w K mg base 4 "pots_by_end" ["book", "order"] zBv) (cE:zO P w K mg base 2 "ends_and_letters" ["name", "order"] (zBW K)):FnOk P w K mg base (vW P w) 5 f fd ["book", "order", "name"] (zHz nb no nn nm):=by
 refine F.okR zHy (fun vs H Q E h=>?_) (fun cdv A outer s H vs Q E hr h ok=>?_)
 ·obtain ⟨v,u,x,d,e,g,rfl,_⟩:=h; rfl
 ·obtain ⟨v,u,x,d,e,g,rfl,hv,hu,hx,sd,se,sg,kb,ko,kn,kg⟩:=h
  have hu1:=gO hr
  have nd:=zHy.nd
  have r2:=hr.mono (j:=2) (by decide)
  have r3:=hr.mono (j:=3) (by decide)
  refine ⟨_,zG (vD (vZ cNB ok.pass r3 rfl (zA (pv 0) zC))) (zG (vD (vZ cNO ok.pass r3 rfl (zA (pv 1) zC))) (zG (vD (vZ cNN ok.pass r2 rfl (zA (pv 2) zC)))
   (zG (z9 (i:=3) nd rfl (Or.inl rfl) (zK cP hr rfl (zA (pv 0) (zA (pv 1) zC))))
   (zG (z9 (i:=4) nd rfl (Or.inl rfl) (uV zC))
   (zG (jO PassesOwn.leaving rfl (j6 (zK cE r2 rfl (zA (pv 2) (zA (pv 1) zC)))) (g6 rfl (vQ (yG (i:=5) nd rfl (Or.inl rfl)) (vQ (yG (i:=6) nd rfl (Or.inl rfl)) jE)))
    (zG (yI (vK zAY (pv 6) (zAc hu1 (pv 3) (pv 5) (fun _ _=>rfl)) (by with_unfolding_all rfl)) (zE (gT ok rfl O (by rfl) (zA yZ zC))) yH)
    (zE (vD (jH PySem.F.plainAttrs_list PySem.F.slot_list_append PySem.F.type_list_append zBI (pv 4) (zA (jH PySem.F.plainAttrs_list PySem.F.slot_list_index PySem.F.type_list_index zMy (zAc hu1 (pv 3) (pv 5) (fun _ _=>rfl)) (zA (pv 6) zC)) zC))))))
   (zE (zP (pv 4)))))))),?_⟩
  refine ⟨_,rfl,v,d,rfl,hv,sd,fun g1 H1 s1=>?_,fun b1 H1 s1=>kb b1 H1 s1⟩
  refine ⟨_,rfl,u,e,rfl,zW.same s1 _ _ hu,se,fun g2 H2 s2'=>?_,fun b2 H2 s2'=>ko g1 b2 _ (s1.trans s2')⟩
  have s2:=s1.trans s2'
  refine ⟨_,rfl,x,g,rfl,zW.same s2 _ _ hx,sg,fun g3 H3 s3'=>?_,fun b3 H3 s3'=>kn g1 g2 b3 _ (s2.trans s3')⟩
  have s3:=s2.trans s3'
  obtain ⟨c,bk,rfl,hc,hbk,rfl⟩:=zBx hv g1
  obtain ⟨o,rfl,o1,o3⟩:=zDZ hu g2
  obtain ⟨y,rfl,hy,rfl⟩:=zHT hx g3
  have hb:Bk bk o:=⟨hbk,o1,o3⟩
  obtain ⟨h64,kE,kQ⟩:=kg bk o y hb rfl rfl hy rfl
  have hne:bk≠[]:=fun z=>by have:=hb.lo; rw [z] at this; simp at this
  have hy8:=hy.2.1
  refine ⟨_,rfl,_,rfl,c,bk,o,rfl,s3 _ _ hc,hb,h64,fun pd H4 s4 hP=>?_⟩
  refine ⟨by show 0<=sizeLine; decide,fun lo hlo=>?_⟩
  have s5:zB H4 (upd H4 lo (.lst [])):=zB.upd1 hlo
  have hlo5:upd H4 lo (.lst []) lo=some (.lst []):=zI
  have hP5:=hP.same s5
  generalize upd H4 lo (.lst [])=H5 at s5 hlo5 hP5
  refine ⟨_,rfl,_,rfl,y,o,rfl,o1,by omega,fun l xs H6 s6 hl hll rp=>?_⟩
  refine ⟨l,rfl,⟨_,.of hll⟩,?_⟩
  have hlo6:=s6 _ _ hlo5
  have hllo:l≠lo:=fun z=>by rw [z,hlo5] at hl; cases hl
  have s36:zB H H6:=(s3.trans s4).trans (s5.trans s6)
  have hloH:H lo=none:=(s3.trans s4).free hlo
  have hP6:=hP5.same s6
  have hxl:xs.length=y.length+1:=by have:=rp.length; rw [<- this,List.length_map,qU]
  have hpn:∀ ys,¬ Rd H6 lo (.tup ys):=fun ys z=>by rcases z with z | ⟨_,z⟩ <;> rw [hlo6] at z <;> cases z
  refine kZ (kD K l xs) (fun i σ H'=>∃ x5 x6:Option V,σ=[some (.ref c),some (.int o),some (sv y),some (.ref pd),some (.ref lo),x5,x6]/\yY lo H6 H'/\H' lo=some (.lst (zX (v6 (zD o bk) ((zN o y).take i))))/\(∀ q∈(zN o y).take i,q∈zD o bk)/\(i<=y.length->vH o bk (y.take i)))
   ⟨_,_,rfl,yY.refl _,hlo6,by simp,fun _=>vH.nil hne⟩ (fun i σ H' _ h=>by obtain ⟨_,_,_,h,_⟩:=h; exact .of (h _ _ hllo hll)) ?_ ?_
  ·rintro i z σ H' Nx hN hz ⟨x5,x6,rfl,sx,hlo',hall,hal⟩
   obtain ⟨p,at',ep,rfl,hsq⟩:=zPM rp hz
   have hi:i < y.length+1:=by have:=(List.getElem?_eq_some_iff.mp ep).1; rwa [qU] at this
   have hpe:p=(zQ (y.take i) o,(y.drop i).take 1):=by
    have h1:=ep
    unfold zN at h1
    rw [List.getElem?_map,List.getElem?_range hi] at h1
    exact (Option.some.inj h1).symm
   have hsq':zZ K H' at' [sv p.1,sv p.2]:=by
    rcases hsq with h | h
    ·have hb':at'≠lo:=fun z=>by subst z; exact hpn _ h
     rcases h with h | ⟨ob,h⟩
     ·exact .inl (.inl (sx _ _ hb' h))
     ·exact .inl (.inr ⟨ob,sx _ _ hb' h⟩)
    ·exact .inr h
   have halp:∃ l,(p.1,l)∈zD o bk:=by rw [hpe]; exact hal (by omega)
   have hP':gA H' pd (zD o bk):=by
    obtain ⟨pa,h1,h2,h3,h4⟩:=hP6
    have hd1:pd≠lo:=fun z=>by rw [z,hlo6] at h1; cases h1
    refine ⟨pa,sx _ _ hd1 h1,h2,h3,fun r hr=>?_⟩
    have h5:=h4 r hr
    have hr1:r.2≠lo:=fun z=>by
     rw [z,hlo6] at h5
     have h6:([]:List V)=(pot (zD o bk) r.1).map sv:=HO.lst.inj (Option.some.inj h5)
     obtain ⟨l',hl'⟩:=(h3 r.1).mp (List.mem_map.mpr ⟨r,hr,rfl⟩)
     have h7:=(kJ _ _ _).mpr hl'
     rw [List.map_eq_nil_iff.mp h6.symm] at h7
     cases h7
    exact sx _ _ hr1 h5
   obtain ⟨ra,dg,hra⟩:=hP'.get halp
   refine ⟨at',_,rfl,hsq',rfl,_,_,rfl,_,_,rfl,rfl,?_⟩
   refine ⟨_,rfl,_,rfl,_,rfl,pd,.ref ra,rfl,dg,ra,_,rfl,.inl (.of hra),rfl,zAu _,_,rfl,?_⟩
   rw [show (pot (zD o bk) p.1).map sv=zF (pot (zD o bk) p.1) from rfl,zAt]
   by_cases hin:p.2∈pot (zD o bk) p.1
   ·have hm:=(kJ _ _ _).mp hin
    refine uM hin ?_
    obtain ⟨j1,j2⟩:=zPL hin
    have hjl:(pot (zD o bk) p.1).idxOf p.2 < 1000:=by
     have h1:=List.idxOf_lt_length_iff.mpr hin
     have h2:=gW (zD o bk) p.1
     have h3:=tot_le (zD o bk) p.1
     omega
    have hra2:H' ra=some (.lst (((pot (zD o bk) p.1).map tx).map V.str)):=by rw [hra,List.map_map]; rfl
    have hnl:(zX (v6 (zD o bk) ((zN o y).take i))).length < sizeLine:=by
     rw [gC]
     unfold v6
     rw [List.length_map,List.length_take,sizeLine_eq]; omega
    refine ⟨_,rfl,.inl ⟨rfl,_,.of hlo'⟩,_,rfl,_,rfl,pd,.ref ra,rfl,dg,.inl ⟨rfl,_,.of hra⟩,_,rfl,ra,(pot (zD o bk) p.1).map tx,tx p.2,_,rfl,rfl,hra2,j1,j2,hjl,lo,_,_,rfl,rfl,hlo',hnl,hN _ _ ⟨_,_,rfl,sx.updf,?_,?_,fun hi'=>?_⟩⟩
    ·rw [zI,jC ep]
     unfold v6 zX
     rw [List.map_append,List.map_append]; rfl
    ·intro q hq
     rw [jC ep] at hq
     rcases List.mem_append.mp hq with z | z
     ·exact hall q z
     ·rw [List.mem_singleton.mp z]; exact hm
    ·have hl2:p.2=[y[i]'(by omega)]:=by
      rw [hpe]
      show (y.drop i).take 1=_
      rw [List.drop_eq_getElem_cons (by omega)]; rfl
     have hm2:=hm
     have hp1:p.1=zQ (y.take i) o:=by rw [hpe]
     have hm3:(zQ (y.take i) o,[y[i]'(by omega)])∈zD o bk:=by rw [<- hp1,<- hl2]; exact hm
     rw [List.take_succ_eq_append_getElem (by omega)]
     exact vH.next hm3
   ·refine k9 hin ?_
    refine ⟨by show 1<=sizeLine; decide,kE (fun hq=>hin ((kJ _ _ _).mpr (hq p (List.mem_of_getElem? ep)))) H' (yY.same s36 hloH sx)⟩
  ·rintro σ H' ⟨x5,x6,rfl,sx,hlo',hall,hal⟩
   have e1:(zN o y).take xs.length=zN o y:=by rw [hxl,<- qU o y,List.take_length]
   rw [e1] at hlo' hall
   exact ⟨_,rfl,kQ hall lo H' (yY.same s36 hloH sx) hloH hlo'⟩
end
end Kn.Dr
end
section
namespace Kn
open PySem L2
theorem zEF:∀ l:List S,qL l=true↔l.Pairwise (· < ·)
 | []=>by simp [qL]
 | [x]=>by simp [qL]
 | x::y::l=>by
  have ih:=zEF (y::l)
  have e:qL (x::y::l)=(decide (x < y) && qL (y::l)):=by simp [qL]
  rw [e,Bool.and_eq_true,decide_eq_true_eq,ih]
  constructor
  ·rintro ⟨h1,h2⟩
   refine List.pairwise_cons.mpr ⟨fun z hz=>?_,h2⟩
   rcases List.mem_cons.mp hz with rfl | hz
   ·exact h1
   ·exact List.lt_trans h1 ((List.pairwise_cons.mp h2).1 z hz)
  ·intro h
   exact ⟨(List.pairwise_cons.mp h).1 y (List.mem_cons_self ..),(List.pairwise_cons.mp h).2⟩
def jU:List S:=[[97],[97,97],[97,98],[98],[98,97],[122]]
def gE:List S:=[[],[],[97],[98],[97,98],[97,98,97],[122]]
theorem zPT:[V.str "a",V.str "aa",V.str "ab",V.str "b",V.str "ba",V.str "z"]=zF jU:=by
 have e1:("a" : Str)=tx [97]:=by decide +kernel
 have e2:("aa" : Str)=tx [97,97]:=by decide +kernel
 have e3:("ab" : Str)=tx [97,98]:=by decide +kernel
 have e4:("b" : Str)=tx [98]:=by decide +kernel
 have e5:("ba" : Str)=tx [98,97]:=by decide +kernel
 have e6:("z" : Str)=tx [122]:=by decide +kernel
 rw [e1,e2,e3,e4,e5,e6]; rfl
theorem zPU:[V.str "",V.str "",V.str "a",V.str "b",V.str "ab",V.str "aba",V.str "z"]=zF gE:=by
 have e0:("" : Str)=tx []:=by decide +kernel
 have e1:("a" : Str)=tx [97]:=by decide +kernel
 have e3:("ab" : Str)=tx [97,98]:=by decide +kernel
 have e4:("b" : Str)=tx [98]:=by decide +kernel
 have e5:("aba" : Str)=tx [97,98,97]:=by decide +kernel
 have e6:("z" : Str)=tx [122]:=by decide +kernel
 rw [e0,e1,e3,e4,e5,e6]; rfl
theorem zIA:jU.Pairwise (· < ·)/\∀ x∈jU,yK x:=by
 refine ⟨(zEF _).mp (by decide),fun x hx=>?_⟩
 unfold jU at hx
 simp only [List.mem_cons,List.not_mem_nil,or_false] at hx
 rcases hx with rfl | rfl | rfl | rfl | rfl | rfl <;> (refine ⟨by decide,by decide,?_⟩; decide)
theorem zPV:∀ x∈gE,x=[]\/(yK x/\x.length<=3):=fun x hx=>by
 unfold gE at hx
 simp only [List.mem_cons,List.not_mem_nil,or_false] at hx
 rcases hx with rfl | rfl | rfl | rfl | rfl | rfl | rfl
 ·exact .inl rfl
 ·exact .inl rfl
 all_goals (refine .inr ⟨⟨by decide,by decide,?_⟩,by decide⟩; decide)
theorem zPW {l:List S} (h:l.Sublist jU):l.length<=6/\(∀ x∈l,yK x)/\qL l=true :=
 ⟨h.length_le,fun x hx=>zIA.2 x (h.subset hx),(zEF _).mpr (zIA.1.sublist h)⟩
section
variable {P:Program}{w:World}{K:PySem.W.Frag}{mg:Str->Option Value}{base:Heap}
def zIB (K:PySem.W.Frag):Sp:=fun vs H Q _=>∃ (a:Addr) (ns:List Int) (at':Nat),vs=[.ref a,.int at']/\yC K H a (ns.map V.int)/\ns.length<=63 /\
 ∀ (p:Addr) (lo hi:Int) (hd tl:S) (ba:List S) (to:Bool) (H':Hp),zB H H'->GW lo hi hd tl ba->qW H' p lo hi hd tl ba to->Q (.ref p) H'
abbrev sLW:Stmt:=top 73
theorem zIC:FnScope ["_law_script", "_law_at", "_law_least", "_law_most", "_law_ends", "_law_barred", "_law_k", "_law_name_here", "_law_head"] ["_law_script", "_law_at"] (defScope sLW):=⟨rfl,rfl,rfl,by decide +kernel,rfl,by decide +kernel,by decide +kernel⟩
theorem zPX {f:Addr}{fd:FuncData} (F:Fun K "_law_wish" "_law_wish" sLW f fd) (B:Blt mg) (hen:mg "enumerate" = none) (cD:zO P w K mg base 2 "_law_drawn" ["_law_script", "_law_k", "_law_many"] (zBn K)):FnOk P w K mg base zY 3 f fd ["_law_script", "_law_at"] (zIB K):=by
 refine F.ok zIC (fun vs H Q E h=>?_) (fun cdv A outer s H vs Q E hr h=>?_)
 ·obtain ⟨a,ns,at',rfl,_⟩:=h; rfl
 ·obtain ⟨a,ns,at',rfl,hsc,h63,k⟩:=h
  have nd:=zIC.nd
  refine ⟨_,zG (z9 (i:=2) nd rfl (Or.inl rfl) (zR yW zH (zK cD hr rfl (zA (pv 0) (zA (pv 1) (zA zH zC))))))
   (zG (z9 (i:=3) nd rfl (Or.inl rfl) (zR yW (pv 2) (zK cD hr rfl (zA (pv 0) (zA (zR yW (pv 1) zH) (zA (zR zEe zH (pv 2)) zC))))))
   (zG (z9 (i:=4) nd rfl (Or.inl rfl) (uV (zA yZ (zA yZ (zA yZ (zA yZ (zA yZ (zA yZ (zA yZ zC)))))))))
   (zG (z9 (i:=5) nd rfl (Or.inl rfl) (uV zC))
   (zG (jO PassesOwn.never rfl (zFx rfl hen (zA (uV (zA yZ (zA yZ (zA yZ (zA yZ (zA yZ (zA yZ zC))))))) zC)) (g6 rfl (vQ (yG (i:=6) nd rfl (Or.inl rfl)) (vQ (yG (i:=7) nd rfl (Or.inl rfl)) jE)))
    (zE (yI (vK zCS (zK cD hr rfl (zA (pv 0) (zA (zR yW (zR yW (pv 1) zH) (pv 6)) (zA zH zC)))) zH (y9 _))
     (zE (vD (jH PySem.F.plainAttrs_list PySem.F.slot_list_append PySem.F.type_list_append zBI (pv 5) (zA (pv 7) zC)))) yH)))
   (zG (z9 (i:=8) nd rfl (Or.inl rfl) (yD zAA (pv 4) (zK cD hr rfl (zA (pv 0) (zA (zR yW (pv 1) zH) (zA zH zC)))) (fun _ _=>rfl)))
   (zE (zP (uK (zA (pv 2) (zA (pv 3) (zA (pv 8) (zA (yD zAA (pv 4) (zK cD hr rfl (zA (pv 0) (zA (zR yW (pv 1) zH) (zA zH zC)))) (fun _ _=>rfl))
    (zA (zBG zFF (by rfl) B.tuple PyProof.Rows.boot_tuple (zA (pv 5) zC)) (zA (qZ zCS (zK cD hr rfl (zA (pv 0) (zA (zR yW (pv 1) zH) (zA zH zC)))) zH (y9 _)) zC)))))))))))))),?_⟩
  refine ⟨_,rfl,_,rfl,a,ns,at',3,rfl,hsc,h63,by decide,by decide,fun d0 H1 hd0 s1=>?_⟩
  refine ⟨_,_,rfl,rfl,_,rfl,_,rfl,_,rfl,_,_,rfl,rfl,_,rfl,_,_,rfl,rfl,a,ns,at'+1,4 - d0,?_,s1.seq hsc,h63,by omega,by omega,fun d1 H2 hd1 s2'=>?_⟩
  ·have e1:((at'+1:Nat):Int)=(at':Int)+1:=by omega
   have e2:((4 - d0:Nat):Int)=5 - (1+(d0:Int)):=by omega
   rw [e1,e2]; rfl
  have s2:=s1.trans s2'
  refine ⟨_,_,rfl,rfl,?_⟩
  refine ⟨by show 7<=sizeLine; decide,fun pe hpe=>?_⟩
  have hpe1:(upd H2 pe (.lst [V.str "",V.str "",V.str "a",V.str "b",V.str "ab",V.str "aba",V.str "z"])) pe=some (.lst (zF gE)):=by rw [zI,zPU]
  have s3:=s2.trans (zB.upd1 (o:=.lst [V.str "",V.str "",V.str "a",V.str "b",V.str "ab",V.str "aba",V.str "z"]) hpe)
  generalize upd H2 pe (.lst [V.str "",V.str "",V.str "a",V.str "b",V.str "ab",V.str "aba",V.str "z"])=HA at s3 hpe1 ⊢
  refine ⟨by show 0<=sizeLine; decide,fun g hg=>?_⟩
  refine ⟨by show 6<=sizeLine; decide,fun en hen2=>⟨en,_,rfl,zI,?_⟩⟩
  have neg:en≠g:=fun z=>by subst z; rw [zI] at hen2; cases hen2
  refine zFy (K:=K) (xs:=[V.str "a",V.str "aa",V.str "ab",V.str "b",V.str "ba",V.str "z"]) (fun i σ H'=>∃ (y z:Option V) (sl:List S),σ=[some (.ref a),some (.int (at':Int)),some (.int (1+(d0:Int))),some (.int (1+(d0:Int)+(d1:Int))),some (.ref pe),some (.ref g),y,z,none]/\zB HA H'/\H' g=some (.lst (zF sl)) /\
    H' en=some (.lst [V.str "a",V.str "aa",V.str "ab",V.str "b",V.str "ba",V.str "z"])/\sl.Sublist (jU.take i))
   ⟨_,_,[],rfl,(zB.upd1 hg).trans (zB.upd1 hen2),(zB.upd1 hen2) _ _ zI,zI,List.nil_sublist _⟩ (fun i σ H' _ h=>by obtain ⟨_,_,_,_,_,_,h,_⟩:=h; exact .of h) ?_ ?_
  ·rintro i x T σ H' Nx hN hx ⟨y,z,sl,rfl,sm,hg',hen',hsub⟩ hT
   have t1:zB H' (upd H' T (.tup [.int i,x])):=zB.upd1 hT
   refine ⟨T,_,rfl,.of zI,rfl,_,_,rfl,_,_,rfl,rfl,?_⟩
   have sm1:=sm.trans t1
   have hg1:=t1 _ _ hg'
   have he1:=t1 _ _ hen'
   rw [zPT] at hx
   obtain ⟨nm,hnm,rfl⟩:=zAs hx
   have hi:i < jU.length:=(List.getElem?_eq_some_iff.mp hnm).1
   have hi6:i < 6:=hi
   have etk:jU.take (i+1)=jU.take i++[nm]:=by rw [List.take_succ_eq_append_getElem hi,(List.getElem?_eq_some_iff.mp hnm).2]
   refine ⟨_,rfl,_,rfl,_,_,rfl,rfl,_,rfl,_,_,rfl,rfl,a,ns,at'+4+i,3,?_,(s3.trans sm1).seq hsc,h63,by decide,by decide,fun d H3 hd s4=>?_⟩
   ·have e1:((at'+4+i:Nat):Int)=(at':Int)+4+(i:Int):=by omega
    rw [e1]; rfl
   have sm2:=sm1.trans s4
   have hg2:=s4 _ _ hg1
   have he2:=s4 _ _ he1
   refine ⟨rfl,_,rfl,?_⟩
   by_cases hz:(d:Int)=0
   ·have e0:decide (V.int (d:Int)=V.int 0)=true:=decide_eq_true (by rw [hz])
    rw [e0]
    refine yB ?_
    have hl6:sl.length<=6:=Nat.le_trans hsub.length_le (by rw [List.length_take]; omega)
    refine ⟨_,rfl,.inl ⟨rfl,_,.of hg2⟩,_,rfl,g,_,_,rfl,rfl,hg2,by unfold zF; rw [List.length_map,sizeLine_eq]; omega,hN _ _ ⟨_,_,sl++[nm],rfl,sm2.upd_new hg,by rw [zI]; unfold zF; rw [List.map_append]; rfl,by rw [zU neg]; exact he2,?_⟩⟩
    rw [etk]
    exact hsub.append (List.Sublist.refl _)
   ·have e0:decide (V.int (d:Int)=V.int 0)=false:=decide_eq_false (fun q=>hz (by injection q))
    rw [e0]
    refine z4 (hN _ _ ⟨_,_,sl,rfl,sm2,hg2,he2,?_⟩)
    rw [etk]
    exact hsub.trans (List.sublist_append_left _ _)
  ·rintro σ H' ⟨y,z,sl,rfl,sm,hg',hen',hsub⟩
   have hsub':sl.Sublist jU:=hsub
   obtain ⟨b1,b2,b3⟩:=zPW hsub'
   have sH:=s3.trans sm
   refine ⟨_,rfl,_,rfl,_,rfl,_,_,rfl,rfl,a,ns,at'+2,7,?_,sH.seq hsc,h63,by decide,by decide,fun d2 H4 hd2 s4=>?_⟩
   ·have e1:((at'+2:Nat):Int)=(at':Int)+2:=by omega
    rw [e1]; rfl
   have s4H:=sH.trans s4
   have hpe4:=s4 _ _ (sm _ _ hpe1)
   have hg4:=s4 _ _ hg'
   have ge7:∀ {d:Nat},d < 7->∃ x,gE[d]?=some x/\(zF gE)[d]?=some (sv x)/\(x=[]\/(yK x/\x.length<=3)):=fun {d} hd=>by
    have hd':d < gE.length:=hd
    refine ⟨gE[d],List.getElem?_eq_getElem hd',?_,zPV _ (List.getElem_mem hd')⟩
    unfold zF
    rw [List.getElem?_map,List.getElem?_eq_getElem hd']; rfl
   obtain ⟨hx,_,hx2,hx3⟩:=ge7 hd2
   refine ⟨pe,_,(d2:Int),sv hx,rfl,rfl,.of hpe4,jF hx2,?_⟩
   refine ⟨_,rfl,_,rfl,_,rfl,_,rfl,_,rfl,_,rfl,_,_,rfl,rfl,a,ns,at'+3,7,?_,s4H.seq hsc,h63,by decide,by decide,fun d3 H5 hd3 s5=>?_⟩
   ·have e1:((at'+3:Nat):Int)=(at':Int)+3:=by omega
    rw [e1]; rfl
   obtain ⟨tx',_,tx2,tx3⟩:=ge7 hd3
   have s5H:=s4H.trans s5
   have hg5:=s5 _ _ hg4
   refine ⟨pe,_,(d3:Int),sv tx',rfl,rfl,.of (s5 _ _ hpe4),jF tx2,?_⟩
   refine ⟨_,rfl,g,_,rfl,.inl ⟨.of hg5,fun pt hpt=>?_⟩⟩
   have t6:=zB.upd1 (o:=.tup (zF sl)) hpt
   have s6H:=s5H.trans t6
   refine ⟨_,rfl,_,rfl,_,_,rfl,rfl,a,ns,at'+10,2,?_,s6H.seq hsc,h63,by decide,by decide,fun d4 H7 hd4 s7=>?_⟩
   ·have e1:((at'+10:Nat):Int)=(at':Int)+10:=by omega
    rw [e1]; rfl
   refine ⟨rfl,by show 6<=sizeLine; decide,fun p hp=>?_⟩
   have t8:=zB.upd1 (o:=.tup [.int (1+(d0:Int)),.int (1+(d0:Int)+(d1:Int)),sv hx,sv tx',.ref pt,.bl (decide (V.int (d4:Int)=V.int 0))]) hp
   refine k p (1+(d0:Int)) (1+(d0:Int)+(d1:Int)) hx tx' sl (decide (V.int (d4:Int)=V.int 0)) _ ((s6H.trans s7).trans t8) ⟨by omega,by omega,by omega,hx3,tx3,b1,b2,b3⟩ ⟨pt,zI,t8 _ _ (s7 _ _ zI)⟩
end
end Kn
end
section
namespace Kn
open PySem L2
def jL (f:Expr->Option PyData):List Expr->Option (List PyData)
 | []=>some []
 | e::es=>(f e).bind fun d=>(jL f es).map fun ds=>d::ds
def lit:Nat->Expr->Option PyData
 | 0,_=>none
 | n+1,e=>match e with
  | .Constant (.int i) _ _=>some (.int i)
  | .Constant (.bool b) _ _=>some (.bool b)
  | .Constant .none _ _=>some .none
  | .Constant (.str x) _ _=>some (.str x)
  | .Tuple es _ _=>if es.length<=900 then (jL (lit n) es).map .tuple else none
  | .List es _=>if es.length<=900 then (jL (lit n) es).map .list else none
  | _=>none
theorem zEG {f:Expr->Option PyData}:∀ {es:List Expr}{ds:List PyData},jL f es=some ds->ds.length=es.length
 | [],ds,h=>by cases (show some []=some ds from h); rfl
 | e::es,ds,h=>by
  unfold jL at h
  cases h1:f e with
  | none=>rw [h1] at h; cases h
  | some d =>
   cases h2:jL f es with
   | none=>rw [h1,h2] at h; cases h
   | some ds' =>
    rw [h1,h2] at h
    cases h
    rw [List.length_cons,List.length_cons,zEG h2]
def zCF:Expr->Bool
 | .Starred ..=>false
 | _=>true
theorem zPY {e:Expr}{es:List Expr} (h:zCF e=true) (env):starEach (e::es) env=(false,eval e env)::starEach es env:=by
 cases e <;> first | rfl | (cases h)
section
variable {X:Cx}{e:Expr}{es:List Expr}{te:TE}{t:TA}{pos:Pos}
theorem zL (ha:PE X e te) (hr:PA X es t) (hs:zCF e=true:=by rfl):PA X (e::es) (zEp te t):=zA ha hr (zPY hs _)
end
def zID (d:PyData):TE:=fun σ H Q=>∀ v H',zB H H'->zW H' d v->Q v H'
def zPZ (ds:List PyData):TA:=fun σ H Q=>∀ vs H',zB H H'->Thgs H' ds vs->Q vs H'
theorem zIE {n:Nat}{e:Expr}{d:PyData} (h:lit n e=some d):zCF e=true:=by
 cases n with
 | zero=>cases h
 | succ n=>cases e <;> first | rfl | (cases h)
theorem PE.mono {X:Cx}{e:Expr}{t t':TE} (h:PE X e t) (q:∀ σ H Q,t' σ H Q->t σ H Q):PE X e t':=fun pins s σ H Q I k=>h pins s σ H Q I (q σ H Q k)
theorem PA.mono {X:Cx}{es:List Expr}{t t':TA} (h:PA X es t) (q:∀ σ H Q,t' σ H Q->t σ H Q):PA X es t':=fun pos pins s σ H Q I k=>h pos pins s σ H Q I (q σ H Q k)
theorem zEH {X:Cx}{f:Expr->Option PyData} (hf:∀ e d,f e=some d->zCF e=true/\PE X e (zID d)):∀ {es:List Expr}{ds:List PyData},jL f es=some ds->PA X es (zPZ ds)
 | [],ds,h=>by
  cases (show some []=some ds from h)
  exact PA.mono zC fun σ H Q q=>q [] H (zB.refl H) rfl
 | e::es,ds,h=>by
  unfold jL at h
  cases h1:f e with
  | none=>rw [h1] at h; cases h
  | some d =>
   cases h2:jL f es with
   | none=>rw [h1,h2] at h; cases h
   | some ds' =>
    rw [h1,h2] at h
    cases h
    obtain ⟨ns,he⟩:=hf e d h1
    refine PA.mono (zL he (zEH hf h2) ns) fun σ H Q q=>?_
    intro v H1 s1 hv vs H2 s2 hvs
    exact q (v::vs) H2 (s1.trans s2) ⟨_,_,rfl,zW.same s2 _ _ hv,hvs⟩
theorem zEI {X:Cx}:∀ (n:Nat) (e:Expr) (d:PyData),lit n e=some d->PE X e (zID d)
 | 0,e,d,h=>by cases h
 | n+1,e,d,h=>by
  unfold lit at h
  split at h
  ·cases h; exact PE.mono zH fun σ H Q q=>q _ H (zB.refl H) rfl
  ·cases h; exact PE.mono vJ fun σ H Q q=>q _ H (zB.refl H) rfl
  ·cases h; exact PE.mono gF fun σ H Q q=>q _ H (zB.refl H) rfl
  ·cases h; exact PE.mono yZ fun σ H Q q=>q _ H (zB.refl H) rfl
  ·rename_i es _ _
   split at h
   ·rename_i hl
    cases h2:jL (lit n) es with
    | none=>rw [h2] at h; cases h
    | some ds =>
     rw [h2] at h
     cases h
     refine PE.mono (uK (zEH (fun e d q=>⟨zIE q,zEI n e d q⟩) h2)) fun σ H Q q=>?_
     intro vs H1 s1 hvs
     have:=zEG h2
     have:=hvs.length
     refine ⟨by rw [sizeLine_eq]; omega,fun p hp=>q _ _ (s1.trans (zB.upd1 hp)) ⟨p,vs,rfl,zI,Thgs.same (zB.upd1 hp) _ _ hvs⟩⟩
   ·cases h
  ·rename_i es _
   split at h
   ·rename_i hl
    cases h2:jL (lit n) es with
    | none=>rw [h2] at h; cases h
    | some ds =>
     rw [h2] at h
     cases h
     refine PE.mono (uV (zEH (fun e d q=>⟨zIE q,zEI n e d q⟩) h2)) fun σ H Q q=>?_
     intro vs H1 s1 hvs
     have:=zEG h2
     have:=hvs.length
     refine ⟨by rw [sizeLine_eq]; omega,fun p hp=>q _ _ (s1.trans (zB.upd1 hp)) ⟨p,vs,rfl,zI,Thgs.same (zB.upd1 hp) _ _ hvs⟩⟩
   ·cases h
  ·cases h
end Kn
end
section
namespace L2
open PySem PySem.Spec PyProof.Rows
section
variable {X:Cx}
theorem zEJ {j:Nat}{y:Str}{py spos:Pos}{tg iter elt:Expr}{ifs:List Expr}{scope:Scope}{pos:Pos}{wi:TI}{g:TG}{tc:TT}{te:TE}{N:List Str}{caps:List Nat} (hN:X.N.Nodup) (hj:X.N[j]?=some y) (hy:Loc X.env.scope y) (hc:X.calm=true) (S:CompScope X.env.scope X.N N scope caps)
  (hi:PI X tg iter wi) (hg:∀ cl C s H ex,PG (vA X N scope cl C s H ex) tg g) (hf:∀ cl C s H ex,PF (vA X N scope cl C s H ex) ifs tc) (he:∀ cl C s H ex,PE (vA X N scope cl C s H ex) elt te)
  (hs:∀ x,foldedSetIterable iter X.env x=pure x:=by intro _; rfl) (hsw:swapsWith (.ListComp elt [⟨tg,iter,ifs,0⟩] scope pos) (some (.Name y py)) spos.line X.env=pure true:=by rfl)
  (hfn:X.fn y=true\/X.env.scope.names.lookup y=some .local:=by first | exact .inl rfl | exact .inr rfl | assumption):PS X (.Assign [.Name y py] (.ListComp elt [⟨tg,iter,ifs,0⟩] scope pos) spos) (zCO (zFY wi g tc te caps N.length) (zCN j)):=by
 intro pins s σ H D0 I h
 obtain ⟨cl,hcl,hcl1,hcl2⟩:=zFU (env:=X.env) (scope:=scope) fun y hy e=>I.ok.has y.1 (S.free y hy e)
 rw [exec_Assign_Name_used _ _ _ _ hsw]
 refine wpAny_bind (wpAny_standAt (wpAny_bind ?_))
 show wpAny _ X.A (do let _ <- comprehension (.ListComp elt [⟨tg,iter,ifs,0⟩] scope pos) scope X.env _ (newList []) false (eval iter X.env) (some (assign (.Name y py) X.env))) _ _ s
 refine wpAny_bind (wpAny_mono (wpAny_comprehension_free (use:=some (assign (.Name y py) X.env)) (Q:=fun _ s'=>SP X pins D0 .next s') rfl hs hcl S.kind S.names (zJ (hi pins s σ H _ I h) fun v s1 h1=>zJ h1 fun itv s2 h2=>?_))
  (fun _ s' hq=>wpAny_pure (wpAny_pure hq)) fun _ _ e=>e)
 obtain ⟨it,fp,tn,J,H2,e,I2,T,st2,f2,W,⟨m0,w0⟩,turn⟩:=h2
 subst e
 refine wpAny_newObj_type (wpAny_newFunctionEnv S.nocell (by intro y hy; simp at hy) (fun h₁ hns hsb=>?_) S.kind)
 dsimp only at hns hsb ⊢
 generalize hG:s2.heap.push { cls:=.type "list",dict:=none,data:=.seq ([]:List Value).toArray }=G at hns hsb ⊢
 have hCs:G.objs.size=s2.heap.objs.size+1:=by rw [<- hG,Heap.size_push]
 have hDC:s2.heap.objs.size≠G.objs.size:=by rw [hCs]; exact Nat.ne_of_lt (Nat.lt_succ_self _)
 have old:∀ b o,s2.heap.get? b=some o->h₁.get? b=some o:=fun b o e=>by
  have hb:=Heap.lt_size e
  refine hsb.extBut b o (by rw [hCs]; exact Nat.ne_of_lt (Nat.lt_succ_of_lt hb)) (Heap.get?_push_of_some _ ?_)
  rw [<- hG]
  exact Heap.get?_push_of_some _ e
 have hD:h₁.get? s2.heap.objs.size=some { cls:=.type "list",dict:=none,data:=.seq ([]:List Value).toArray }:=by
  refine hsb.extBut _ _ hDC (Heap.get?_push_of_some _ ?_)
  rw [<- hG]
  exact Heap.get?_push_size _ rfl
 have hfo:∀ b∈fp,b < s2.heap.objs.size:=fun b hb=>let ⟨o,e,_⟩:=T.obj 0 _ st2 b hb; Heap.lt_size e
 have hCle:s2.heap.objs.size<=G.objs.size:=by omega
 have ok:=zFZ (C:=G.objs.size) I2 S hcl1 hcl2 hCle f2 hfo
 have I0:Inv (vA X N scope cl G.objs.size s2 H2 fp) [(s2.heap.objs.size,{ cls:=.type "list",dict:=none,data:=.seq ([]:List Value).toArray })] (uX caps N.length σ) H2 { s2 with heap:=h₁,toks:=s2.toks+([]:List (Str × Value)).length } :=
  zFa I2 ok S hcl1 hcl2 old hns hCle hD (Nat.le_refl _) hDC (fun v z=>by cases z)
 have st1:tn 0 h₁:=T.keep 0 _ _ st2 fun b _ o e=>old b o e
 generalize hX:vA X N scope cl G.objs.size s2 H2 fp=X' at I0
 generalize hDa:s2.heap.objs.size=D at I0 hD hDC
 have loop:codeAny (model X.prog X.w) X.A (.compLoop (.ListComp elt [⟨tg,iter,ifs,0⟩] scope pos) 0 (.ref it) (.ref D) (compEnvC scope cl G.objs.size X.env)) (compPost (model X.prog X.w) X.A X.xe (some (assign (.Name y py) X.env)) (fun _ s'=>SP X pins D0 .next s') (.ref D) G.objs.size)
   { s2 with heap:=h₁,toks:=s2.toks+([]:List (Str × Value)).length }:=by
  subst hX
  refine zFV (J:=fun n s'=>∃ i σ' H' acc its e,Inv (vA X N scope cl G.objs.size s2 H2 fp) [(D,{ cls:=.type "list",data:=.seq (List.toArray its) e })] σ' H' s'/\zM acc its/\acc.length<=sizeLine/\tn i s'.heap/\(∀ b∈fp,H' b=none)/\W i n acc σ' H')
   ?_ m0 ⟨0,_,H2,[],[],0,I0,.nil,Nat.zero_le _,st1,fun b hb=>(f2 b hb).1,w0⟩
  rintro n s3 ⟨i,σ3,H3,acc,its,ep,I3,rv,hz,st3,fr3,w3⟩
  have stat:∀ {H':Hp} {pl:List (Addr × Obj)},(∀ b∈fp,H' b=none)->(∀ p∈pl,p.1=D)->∀ b∈fp,qE (vA X N scope cl G.objs.size s2 H2 fp) pl H' b:=fun {H' pl} hn hpl b hb=>by
   obtain ⟨a1,a2⟩:=ok.exf b hb
   exact ⟨hn b hb,a1,ok.exfs b hb,.inl hb,fun x c e=>a2 x c e,fun p hp=>by
    have hp':p∈pl:=hp
    rw [hpl p hp',<- hDa]
    exact Nat.ne_of_gt (hfo b hb)⟩
  have one:∀ p∈[(D,({ cls:=.type "list",data:=.seq (List.toArray its) ep }:Obj))],p.1=D:=fun p hp=>by
   rcases List.mem_cons.mp hp with e | e
   ·rw [e]
   ·cases e
  have pinD:∀ {pl:List (Addr × Obj)} {σ':St} {H':Hp} {s':Shared} {o:Obj},Inv (vA X N scope cl G.objs.size s2 H2 fp) pl σ' H' s'->(D,o)∈pl->s'.heap.get? D=some o/\H' D=none:=fun {pl σ' H' s' o} I' hm=>by
   obtain ⟨a,b,_⟩:=I'.pin (D,o) (List.mem_append_right _ hm)
   exact ⟨a,b⟩
  rcases turn i n acc σ3 H3 w3 with ⟨stop,q⟩ | ⟨go,hlt,step⟩
  ·refine wpAny_mono (T.done (vA X N scope cl G.objs.size s2 H2 fp) rfl rfl rfl hc i _ s3 σ3 H3 (fun _ _=>False) I3 (stat fr3 one) st3 stop) (fun r s4 ⟨hr,I4⟩=>?_) fun _ _ f=>f
   subst hr
   obtain ⟨hDo,hDn⟩:=pinD I4 (List.mem_cons_self ..)
   obtain ⟨m4,hm4,_⟩:=I4.loc
   have keepC:∀ b (u:Obj),b≠G.objs.size->s4.heap.get? b=some u->s4.heap.get? b=some u:=fun b u _ e=>e
   have un:Un (yQ X.stack) fp H2 H3 s2.heap s4.heap:=I4.base
   have hDo':=hDo
   have hlow:∀ b (o:Obj),s2.heap.get? b=some o->b≠G.objs.size/\b≠D:=fun b o e=>by
    have h0:=Heap.lt_size e
    exact ⟨by rw [hCs]; exact Nat.ne_of_lt (Nat.lt_succ_of_lt h0),by rw [<- hDa]; exact Nat.ne_of_lt h0⟩
   have un':Un (yQ X.stack) fp H2 (upd H3 D (.lst acc)) s2.heap s4.heap :=
    ⟨fun b o e n' hb hx=>keepC b o (hlow b o e).1 (un.keep b o e n' hb hx),
     fun b o e n' hb hx=>let ⟨sl,q⟩:=un.slot b o e n' hb hx; ⟨sl,keepC b _ (hlow b o e).1 q⟩,
     fun b o e n' hx=>by rw [zU (hlow b o e).2]; exact un.free b o e n' hx,
     fun b o e hx=>let ⟨o',q⟩:=un.there b o e hx; ⟨o',keepC b _ (hlow b o e).1 q⟩,
     fun b xs e=>by rw [zU (y7 (un.tups b xs e) hDn)]; exact un.tups b xs e,
     fun b o u e=>by rw [zU (y7 (un.frzs b o u e) hDn)]; exact un.frzs b o u e,
     fun b ps e=>let ⟨mo,q⟩:=un.tbls b ps e; ⟨mo,by rw [zU (y7 q hDn)]; exact q⟩⟩
   have hok:z6 X.prog X.w (upd H3 D (.lst acc)) s4.heap:=I4.hok.track hDn ⟨hz,its,ep,rv,hDo'⟩
   have IX:Inv X pins σ (upd H3 D (.lst acc)) s4:=I2.call' I4.os un' hok I4.bare (fun b hb=>by
    obtain ⟨_,f1,_,f3,f4,f5⟩:=f2 b hb
    exact ⟨f3,f1,f4,f5⟩)
   have hCn:upd H3 D (.lst acc) G.objs.size=none:=by
    rw [zU (Ne.symm hDC)]; exact I4.free
   have fpC:qE X pins (upd H3 D (.lst acc)) G.objs.size:=I2.fpOk hCle hCn
   obtain ⟨oC,es,epC,hoC,hdC,hsk,hnf⟩:=hm4
   have IXp:=IX.pinned (fp:=[G.objs.size]) (fun b hb=>by
    have:b=G.objs.size:=by simpa using hb
    rw [this]; exact fpC) (fun b hb=>by
    have:b=G.objs.size:=by simpa using hb
    rw [this]; exact ⟨oC,hoC,fun v z=>by rw [hdC] at z; cases z⟩)
   refine wpAny_assign_Name (zCL IXp hN hj hy (v:=.ref D) rfl (fun s5 I5=>?_) hfn)
   have pC:=(I5.pin (G.objs.size,oC) (List.mem_append_right _ (List.mem_append_right _ (gI (List.mem_cons_self ..) hoC)))).1
   refine ⟨m4,⟨oC,es,epC,pC,hdC,hsk,hnf⟩,fun h' hsb'=>?_⟩
   obtain ⟨c0,c1,c2,c3,c4,c5⟩:=fpC
   exact ⟨_,_,I5.unpinned.turned (t':=s5.toks) (fun b o hb e=>hsb'.extBut b o hb e) c0 c1 c3 c4 c5,q D hDn⟩
  ·refine wpAny_mono (T.item (vA X N scope cl G.objs.size s2 H2 fp) rfl rfl rfl hc i _ s3 σ3 H3 (fun _ _=>False) I3 (stat fr3 one) st3 go) (fun r s4 ⟨u,hr,h4⟩=>?_) fun _ _ f=>f
   subst hr
   refine zJ h4 fun _ s5 ⟨x,H5,I5,r5,y5,st5,fr5⟩=>?_
   have I5':=I5.pinned (stat fr5 one) (T.obj _ _ st5)
   refine zJ (hg cl G.objs.size s2 H2 fp _ s5 σ3 H5 x u _ I5' r5 (step x H5 y5)) fun _ s6 ⟨σ6,H6,I6,q6⟩=>?_
   refine zJ (hf cl G.objs.size s2 H2 fp _ s6 σ6 H6 _ I6 q6) fun b s7 ⟨H7,I7,q7⟩=>?_
   have fin:∀ {pl:List (Addr × Obj)} {σ':St} {H':Hp} {s':Shared},Inv (vA X N scope cl G.objs.size s2 H2 fp) (pl++g7 fp s5.heap) σ' H' s'->tn (i+1) s'.heap/\∀ b∈fp,H' b=none:=fun {pl σ' H' s'} I'=>by
    refine ⟨T.keep _ _ _ st5 fun b hb o e=>(I'.pin (b,o) (List.mem_append_right _ (List.mem_append_right _ (gI hb e)))).1,fun b hb=>?_⟩
    obtain ⟨o,e,_⟩:=T.obj _ _ st5 b hb
    exact (I'.pin (b,o) (List.mem_append_right _ (List.mem_append_right _ (gI hb e)))).2.1
   cases b with
   | false =>
    rw [if_neg Bool.false_ne_true] at q7 ⊢
    obtain ⟨m',hm,w7⟩:=q7
    obtain ⟨a1,a2⟩:=fin I7
    exact ⟨m',hm,i+1,σ6,H7,acc,its,ep,I7.unpinned,rv,hz,a1,a2,w7⟩
   | true =>
    rw [if_pos rfl] at q7 ⊢
    refine zJ (he cl G.objs.size s2 H2 fp _ s7 σ6 H7 _ I7 q7) fun y s8 ⟨yv,H8,I8,r8,m',hm,w8⟩=>?_
    obtain ⟨a1,a2⟩:=fin I8
    obtain ⟨b1,b2⟩:=pinD I8 (List.mem_append_left _ (List.mem_cons_self ..))
    have hl:=rv.length
    refine call_meets F.slot_list_append ⟨_,b1,rfl⟩ F.entry_list_append (F.args_list_append_2 _ _) (PySem.list_append D its.toArray ep y (by rw [List.size_toArray]; omega)) ⟨b1,?_⟩
    have q9:=PySem.IsL.update b1 (·.push y)
    have kp:∀ b o,b≠D->s8.heap.get? b=some o->(s8.heap.update D (Obj.mapSeq (·.push y))).get? b=some o:=fun b o hb e=>(Heap.get?_update_other s8.heap (Obj.mapSeq (·.push y)) (Ne.symm hb)).trans e
    have I9:Inv (vA X N scope cl G.objs.size s2 H2 fp) [] σ6 H8 { s8 with heap:=s8.heap.update D (Obj.mapSeq (·.push y)) } :=
     (I8.pins_of (pins':=[]) fun p hp=>by cases hp).turned (t':=s8.toks) kp b2 hDC (.inr (by rw [<- hDa]; exact Nat.le_refl _)) (fun x c e z=>by
      have e':X.env.cells.lookup x=some c:=hcl1 x c e
      obtain ⟨v',hv'⟩:=I2.cell x c e'
      have h0:=hv'.lt
      rw [z,<- hDa] at h0
      exact Nat.lt_irrefl _ h0) fun p hp=>by
       have:p∈([]:List (Addr × Obj)):=hp
       cases this
    have hpu:its.toArray.push y=(its++[y]).toArray:=by simp
    rw [hpu] at q9
    obtain ⟨e9,q9⟩:∃ e9,(s8.heap.update D (Obj.mapSeq (·.push y))).get? D=some { cls:=.type "list",data:=.seq (its++[y]).toArray e9 }:=⟨_,q9⟩
    refine ⟨m',hm,i+1,σ6,H8,acc++[yv],its++[y],e9,I9.pins_of fun p hp=>?_,rv.append (.cons r8 .nil),?_,T.keep _ _ _ a1 fun b hb o e=>kp b o ?_ e,a2,w8⟩
    ·obtain rfl:p=(D,{ cls:=.type "list",data:=.seq (its++[y]).toArray e9 }):=by
      rcases List.mem_cons.mp hp with e | e
      ·exact e
      ·cases e
     obtain ⟨_,_,c3,c4,_⟩:=I8.pin (D,_) (List.mem_append_right _ (List.mem_append_left _ (List.mem_cons_self ..)))
     exact ⟨q9,b2,c3,c4,fun v z=>by cases z⟩
    ·rw [List.length_append,List.length_singleton]; omega
    ·rintro rfl
     have h0:=hfo b hb
     rw [hDa] at h0
     exact Nat.lt_irrefl _ h0
 exact codeAny_compStart_list loop (T.self X.A 0 _ _ _ st1 loop)
end
end L2
end
section
namespace Kn
open PySem L2
def uA (n:Nat) (d:PyData):Prop:=sml d=true/\d.canLay0=true/\d.depth<=n
theorem uA.sh {n:Nat}{d:PyData} (h:uA n d) (hn:n<=64):SeqAt.shaped d=true:=by
 unfold SeqAt.shaped
 rw [h.2.1,decide_eq_true (show d.depth<=64 by have:=h.2.2; omega)]; rfl
theorem uA.mono {n m:Nat}{d:PyData} (h:uA n d) (hm:n<=m):uA m d:=⟨h.1,h.2.1,Nat.le_trans h.2.2 hm⟩
theorem zIF {ds:List PyData}{n:Nat} (h:∀ d∈ds,uA n d):smls ds=true/\PyData.canLayAll0 ds=true/\PyData.depthAll ds<=n:=by
 induction ds with
 | nil=>exact ⟨rfl,rfl,Nat.zero_le _⟩
 | cons d ds ih =>
  obtain ⟨a1,a2,a3⟩:=h d (List.mem_cons_self ..)
  obtain ⟨b1,b2,b3⟩:=ih fun e he=>h e (List.mem_cons_of_mem _ he)
  refine ⟨by simp only [smls,a1,b1,Bool.and_self],by simp only [PyData.canLayAll0,a2,b2,Bool.and_self],?_⟩
  simp only [PyData.depthAll]; omega
theorem vL {ds:List PyData}{n:Nat} (h:∀ d∈ds,uA n d) (hl:ds.length<=900):uA (n+1) (.tuple ds):=by
 obtain ⟨a,b,c⟩:=zIF h
 refine ⟨by simp only [sml,a,Bool.and_true]; exact decide_eq_true hl,by simp only [PyData.canLay0]; exact b,?_⟩
 simp only [PyData.depth]; omega
theorem okL {ds:List PyData}{n:Nat} (h:∀ d∈ds,uA n d) (hl:ds.length<=900):uA (n+1) (.list ds):=by
 obtain ⟨a,b,c⟩:=zIF h
 refine ⟨by simp only [sml,a,Bool.and_true]; exact decide_eq_true hl,by simp only [PyData.canLay0]; exact b,?_⟩
 simp only [PyData.depth]; omega
theorem zEK {x:S} (h:∀ c∈x,c<=122) (hl:x.length<=900):uA 5 (.str (tx x)):=by
 refine ⟨?_,by simp only [PyData.canLay0]; exact zGz h,by simp only [PyData.depth]; decide⟩
 simp only [sml,yJ,vM,Bool.and_eq_true,decide_eq_true_eq,List.all_eq_true]
 exact ⟨hl,fun c hc=>by have:=h c hc; omega⟩
theorem zAv {x:S} (h:yK x):uA 5 (.str (tx x)):=zEK (fun c hc=>(h.2.2 c hc).2) (by have:=h.2.1; omega)
theorem zIG {x:S} (h:x=[]\/(yK x/\x.length<=3)):uA 5 (.str (tx x)):=by
 rcases h with rfl | h
 ·exact zEK (by simp) (by simp)
 ·exact zAv h.1
theorem zPa (xs:List V) (n:Nat):vU xs none (some (n:Int))=xs.take n:=by
 unfold vU
 rw [HT.sIx_nat]
 show (xs.drop 0).take (min n xs.length - 0)=_
 rw [List.drop_zero,Nat.sub_zero,<- List.take_eq_take_min]
def zAw (lo hi:Int) (hd tl:S) (ba:List S) (to:Bool):List PyData:=[.int lo,.int hi,.str (tx hd),.str (tx tl),.tuple (ba.map fun x=>PyData.str (tx x)),.bool to]
theorem zPb {lo hi:Int}{hd tl:S}{ba:List S}{to:Bool} (g:GW lo hi hd tl ba):∀ d∈zAw lo hi hd tl ba to,uA 6 d:=fun d h=>by
 unfold zAw at h
 simp only [List.mem_cons,List.not_mem_nil,or_false] at h
 rcases h with rfl | rfl | rfl | rfl | rfl | rfl
 ·exact ⟨rfl,rfl,by simp only [PyData.depth]; decide⟩
 ·exact ⟨rfl,rfl,by simp only [PyData.depth]; decide⟩
 ·exact (zIG g.ghd).mono (by decide)
 ·exact (zIG g.gtl).mono (by decide)
 ·refine vL (n:=5) (fun d hd=>?_) (by rw [List.length_map]; have:=g.len; omega)
  obtain ⟨x,hx,rfl⟩:=List.mem_map.mp hd
  exact zAv (g.nm x hx)
 ·exact ⟨rfl,rfl,by simp only [PyData.depth]; decide⟩
theorem zPc {H:Hp}{a:Addr}{lo hi:Int}{hd tl:S}{ba:List S}{to:Bool} (h:qW H a lo hi hd tl ba to):∃ xs,H a=some (.tup xs)/\Thgs H (zAw lo hi hd tl ba to) xs/\xs.length=6:=by
 obtain ⟨b,h1,h2⟩:=h
 refine ⟨_,h1,⟨_,_,rfl,rfl,_,_,rfl,rfl,_,_,rfl,rfl,_,_,rfl,rfl,_,_,rfl,⟨b,_,rfl,h2,Thgs.strs ba⟩,_,_,rfl,rfl,rfl⟩,rfl⟩
theorem zIH {lo hi:Int}{hd tl:S}{ba:List S}{to:Bool} (g:GW lo hi hd tl ba):vB (.tuple (zAw lo hi hd tl ba to))=true:=by
 have e0:vE 1 8 (.int lo)=true:=by
  have:=g.glo; have:=g.gle; have:=g.ghi
  simp only [vE,Bool.and_eq_true,decide_eq_true_eq]; omega
 have e1:vE lo 8 (.int hi)=true:=by
  have:=g.gle; have:=g.ghi
  simp only [vE,Bool.and_eq_true,decide_eq_true_eq]; omega
 have ed:∀ x:S,(x=[]\/(yK x/\x.length<=3))->qC (.str (tx x))=true:=fun x h=>by
  rcases h with rfl | ⟨h,h3⟩
  ·rfl
  ·simp only [qC,zAq h,yJ,decide_eq_true h3,Bool.and_self,Bool.or_true]
 have e4:qM (.tuple (ba.map fun x=>PyData.str (tx x)))=true:=by
  have e3:(ba.map fun x=>PyData.str (tx x)).map zCB=ba:=by
   rw [List.map_map]
   conv=>rhs; rw [<- List.map_id ba]
   refine List.map_congr_left fun x _=>?_
   show (tx x).cps.toList=x
   rw [vM]
  have ea:(ba.map fun x=>PyData.str (tx x)).all yM=true:=by
   rw [List.all_map,List.all_eq_true]
   exact fun x hx=>zAq (g.nm x hx)
  simp only [qM,e3,ea,g.ris,List.length_map,decide_eq_true g.len,Bool.and_self]
 simp only [vB,zAw,zCD,e0,e1,ed _ g.ghd,ed _ g.gtl,e4,zCC,Bool.and_self]
end Kn
end
section
namespace L2
open PySem PySem.Spec PyProof.Rows
theorem FnOk.calm {P:Program}{w:World}{K:PySem.W.Frag}{mg:Str->Option Value}{base:Heap}{k:Nat}{f:Addr}{fd:FuncData}{ps:List Str}{sp sp':Sp} (F:FnOk P w K mg base (vW P w) k f fd ps sp)
  (h:∀ vs H Q E,sp' vs H Q E->sp vs H Q (fun _ _ _=>False)):FnOk P w K mg base zY k f fd ps sp':=by
 refine ⟨fun vs H Q E q=>F.len vs H Q _ (h _ _ _ _ q),fun A outer s H args us vs Q E hr he hb hv hs=>?_⟩
 refine codeAny_mono (F.run A outer s H args us vs Q (fun _ _ _=>False) hr he hb hv (h _ _ _ _ hs)) fun res s' c=>?_
 cases res with
 | error e =>
  obtain ⟨_,_,_,_,_,_,_,z⟩:=c
  exact z.elim
 | ok fl=>cases fl <;> exact c
end L2
end
section
namespace Kn.Dr
open PySem L2 Kn
theorem gY {K:PySem.W.Frag}{x:Str}{c:Addr} (b:PySem.W.nsIn K mainGlobals x=some (some (.ref c))) (h:PySem.W.excIn K c zBp "ValueError.__new__" = true) (h2:qK K c c=true):∃ C,qK K C C=true/\∀ (h:Heap) (mg:Str->Option Value),K.In h->h.Ns mainGlobals mg->XCls K mg x C :=
 ⟨c,h2,fun hp mg X G=>⟨PySem.W.mg_of X G b,h⟩⟩
theorem gZ:∀ {l m:List S},(l.map fun x=>PyData.str (tx x))=(m.map fun x=>PyData.str (tx x))->l=m
 | [],[],_=>rfl
 | [],_::_,h=>nomatch h
 | _::_,[],h=>nomatch h
 | a::l,b::m,h=>by
  injection h with h1 h2
  rw [qJ (PyData.str.inj h1),gZ h2]
theorem zEL:∀ {l m:List Nat},vO l=vO m->l=m
 | [],[],_=>rfl
 | [],_::_,h=>nomatch h
 | _::_,[],h=>nomatch h
 | a::l,b::m,h=>by
  have h':PyData.int (a:Int)::vO l=PyData.int (b:Int)::vO m:=h
  injection h' with h1 h2
  have:=PyData.int.inj h1
  rw [zEL h2,show a=b by omega]
theorem zII {lo hi lo' hi':Int}{hd tl hd' tl':S}{ba ba':List S}{to to':Bool} (h:kM lo hi hd tl ba to=kM lo' hi' hd' tl' ba' to'):lo=lo'/\hi=hi'/\hd=hd'/\tl=tl'/\ba=ba'/\to=to':=by
 have h:=PyData.tuple.inj h
 injection h with h1 h
 injection h with h2 h
 injection h with h3 h
 injection h with h4 h
 injection h with h5 h
 injection h with h6 h
 exact ⟨PyData.int.inj h1,PyData.int.inj h2,qJ (PyData.str.inj h3),qJ (PyData.str.inj h4),gZ (PyData.tuple.inj h5),PyData.bool.inj h6⟩
theorem zAx {H:Hp}{p:Addr}{bk:List S} (h:H p=some (.tup (zF bk))):zW H (.tuple (bk.map fun x=>PyData.str (tx x))) (.ref p):=⟨p,_,rfl,h,Thgs.strs bk⟩
theorem zAy {bk:List S} (h:isBk bk):sml (.tuple (bk.map fun x=>PyData.str (tx x)))=true :=
 (vL (n:=5) (fun d hd=>by obtain ⟨x,hx,rfl⟩:=List.mem_map.mp hd; exact zAv (h.nm x hx)) (by rw [List.length_map]; have:=h.hi; omega)).1
theorem uQ {b:Bool}{A:Prop} (h:b=true):b=false->A:=fun z=>by rw [h] at z; cases z
theorem zCG {o:Nat} (h1:1<=o) (h3:o<=3):uC (.int (o:Int))=true:=by simp only [uC,Bool.and_eq_true,decide_eq_true_eq]; omega
theorem zIJ {H:Hp}{a:Addr}{lo hi:Int}{hd tl:S}{ba:List S}{to:Bool} (h:qW H a lo hi hd tl ba to):zW H (kM lo hi hd tl ba to) (.ref a):=by
 obtain ⟨xs,h1,h2,_⟩:=zPc h
 exact ⟨a,xs,rfl,h1,h2⟩
theorem zCH {lo hi:Int}{hd tl:S}{ba:List S}{to:Bool} (g:GW lo hi hd tl ba):uA 7 (kM lo hi hd tl ba to):=vL (n:=6) (zPb g) (by show 6<=900; omega)
theorem okN {ns:List Nat} (h:ns.length<=99):uA 6 (.list (vO ns))/\uA 6 (.tuple (vO ns)):=by
 have h1:∀ d∈vO ns,uA 5 d:=fun d hd=>by
  obtain ⟨n,_,rfl⟩:=List.mem_map.mp hd
  exact ⟨rfl,rfl,by simp only [PyData.depth]; decide⟩
 have h2:(vO ns).length<=900:=by unfold vO; rw [List.length_map]; omega
 exact ⟨okL h1 h2,vL h1 h2⟩
theorem zIK {ns:List Nat} (h:ns.length<=99) (h2:∀ n∈ns,n<=9999):vT (.list (vO ns))=true/\vT (.tuple (vO ns))=true:=by
 have h1:(vO ns).all (vE 0 9999)=true:=by
  rw [List.all_eq_true]
  intro d hd
  obtain ⟨n,hn,rfl⟩:=List.mem_map.mp hd
  have:=h2 n hn
  simp only [vE,Bool.and_eq_true,decide_eq_true_eq]; omega
 have h3:(vO ns).length<=99:=by unfold vO; rw [List.length_map]; exact h
 constructor <;> simp only [vT,h1,decide_eq_true h3,Bool.and_self]
theorem jK.thg {H:Hp}{v:V}{ns:List Nat} (h:jK H v ns):∃ g,zW H g v/\qX g ns:=by
 obtain ⟨a,rfl,h | h⟩:=h
 ·exact ⟨.list (vO ns),⟨a,_,rfl,h,Thgs.nums ns⟩,.inl rfl⟩
 ·exact ⟨.tuple (vO ns),⟨a,_,rfl,h,Thgs.nums ns⟩,.inr rfl⟩
theorem qX.sml {g:PyData}{ns:List Nat} (h:qX g ns) (h9:ns.length<=99):Kn.sml g=true:=by
 rcases h with rfl | rfl
 ·exact (okN h9).1.1
 ·exact (okN h9).2.1
theorem qX.is {g:PyData}{ns:List Nat} (h:qX g ns) (h9:ns.length<=99) (h2:∀ n∈ns,n<=9999):vT g=true:=by
 rcases h with rfl | rfl
 ·exact (zIK h9 h2).1
 ·exact (zIK h9 h2).2
theorem qX.uniq {g:PyData}{ns ms:List Nat} (h:qX g ns) (h':qX g ms):ms=ns:=by
 rcases h with rfl | rfl
 ·rcases h' with z | z
  ·exact (zEL (PyData.list.inj z)).symm
  ·cases z
 ·rcases h' with z | z
  ·cases z
  ·exact (zEL (PyData.tuple.inj z)).symm
def jV (H:Hp) (Q:VK) (r:Option (S × Nat)):Prop:=(r=none->∀ H',zB H H'->Q .non H')/\∀ x q,r=some (x,q)->∀ (p:Addr) (H':Hp),zB H H'->H p=none->H' p=some (.tup [sv x,.int (q:Int)])->Q (.ref p) H'
section
variable {P:Program}{w:World}{K:PySem.W.Frag}{mg:Str->Option Value}{base:Heap}
theorem y6.calmD {k:Nat}{x:Str}{ps:List Str}{sp sp':Sp} (C:y6 P w K mg base k x ps sp) (h:∀ vs H Q E,sp' vs H Q E->sp vs H Q (fun _ _ _=>False)):zO P w K mg base k x ps sp' :=
 let ⟨f,fd,F,r⟩:=C
 ⟨f,fd,F.calm h,r⟩
def zIL:Sp:=fun vs H Q _=>∃ (c:Addr) (bk:List S) (o:Nat) (x:S),vs=[.ref c,.int o,sv x]/\H c=some (.tup (zF bk))/\Bk bk o/\(zD o bk).length < 64/\yK x/\(∀ q∈zN o x,q∈zD o bk) /\
 ∀ (l:Addr) (H':Hp),zB H H'->H l=none->H' l=some (.lst (zX (v6 (zD o bk) (zN o x))))->Q (.ref l) H'
theorem nfG {nb no nn nm:Addr} (C:y6 P w K mg base 5 "numbers_for" ["book", "order", "name"] (zHz nb no nn nm)):zO P w K mg base 5 "numbers_for" ["book", "order", "name"] zIL:=by
 refine y6.calmD C fun vs H Q E h=>?_
 obtain ⟨c,bk,o,x,rfl,hc,hb,h64,hx,hall,k⟩:=h
 refine ⟨_,_,_,_,.int o,.str (tx x),rfl,zAx hc,rfl,rfl,zAy hb.toisBk,rfl,(zAv hx).1,uQ (zAr hb.toisBk),fun _=>uQ (zCG hb.o1 hb.o3),fun _ _=>uQ (zAq hx),fun bk' o' x' hb' e1 e2 hx' e3=>?_⟩
 have q1:=gZ (PyData.tuple.inj e1)
 have q2:=V.int.inj e2
 have q3:=qJ (PyData.str.inj e3)
 have q2':o=o':=by omega
 subst q1 q2' q3
 exact ⟨h64,fun z=>absurd hall z,fun _=>k⟩
def zIM:Sp:=fun vs H Q _=>∃ (c a:Addr) (bk:List S) (lo hi:Int) (hd tl:S) (ba:List S) (to:Bool) (x:S),vs=[.ref c,.ref a,sv x]/\H c=some (.tup (zF bk))/\isBk bk/\qW H a lo hi hd tl ba to/\GW lo hi hd tl ba/\yK x /\
 ∀ H',zB H H'->Q (.bl (v9 bk lo hi hd tl ba to x)) H'
theorem zPd {nb nw nn:Addr} (C:y6 P w K mg base 5 "fits" ["book", "wish", "name"] (zHp nb nw nn)):zO P w K mg base 5 "fits" ["book", "wish", "name"] zIM:=by
 refine y6.calmD C fun vs H Q E h=>?_
 obtain ⟨c,a,bk,lo,hi,hd,tl,ba,to,x,rfl,hc,hb,hw,gw,hx,k⟩:=h
 refine ⟨_,_,_,_,_,.str (tx x),rfl,zAx hc,zIJ hw,rfl,zAy hb,(zCH gw).1,(zAv hx).1,(zCH gw).sh (by decide),uQ (zAr hb),fun _=>uQ (zIH gw),fun _ _=>uQ (zAq hx),fun bk' lo' hi' hd' tl' ba' to' x' hb' e1 gw' e2 hx' e3=>?_⟩
 have q1:=gZ (PyData.tuple.inj e1)
 have q3:=qJ (PyData.str.inj e3)
 obtain ⟨w1,w2,w3,w4,w5,w6⟩:=zII e2
 subst q1 q3 w1 w2 w3 w4 w5 w6
 exact k
def zEM:Sp:=fun vs H Q _=>∃ (c:Addr) (nv:V) (bk:List S) (o:Nat) (ns:List Nat) (x:S) (q:Nat),vs=[.ref c,.int o,nv]/\H c=some (.tup (zF bk))/\Bk bk o/\(zD o bk).length < 64/\jK H nv ns/\ns.length<=99/\(∀ n∈ns,n<=9999)/\dr (zD o bk) o [] ns 0=some (x,q) /\
 ∀ (p:Addr) (H':Hp),zB H H'->H p=none->H' p=some (.tup [sv x,.int (q:Int)])->Q (.ref p) H'
theorem zIN {nb no nu ts:Addr} (C:y6 P w K mg base 5 "drawn" ["book", "order", "numbers"] (zED nb no nu ts)):zO P w K mg base 5 "drawn" ["book", "order", "numbers"] zEM:=by
 refine y6.calmD C fun vs H Q E h=>?_
 obtain ⟨c,nv,bk,o,ns,x,q,rfl,hc,hb,h64,hn,h99,h9,hdr,k⟩:=h
 obtain ⟨g,tg,ng⟩:=hn.thg
 refine ⟨_,_,_,_,.int o,g,rfl,zAx hc,rfl,tg,zAy hb.toisBk,rfl,ng.sml h99,uQ (zAr hb.toisBk),fun _=>uQ (zCG hb.o1 hb.o3),fun _ _=>uQ (ng.is h99 h9),fun bk' o' ns' hb' e1 e2 e3 h99'=>?_⟩
 have q1:=gZ (PyData.tuple.inj e1)
 have q2:=V.int.inj e2
 have q2':o=o':=by omega
 have q3:=ng.uniq e3
 subst q1 q2' q3
 refine ⟨h64,fun z=>by (rw [hdr] at z; cases z),fun x' q' z=>?_⟩
 rw [hdr] at z
 cases z
 exact k
end
end Kn.Dr
end
section
namespace Kn.Dr
open PySem L2 Kn
theorem zEN {o:Nat}{bk:List S} (hb:isBk bk):∀ (ns:List Nat) (t:S) (p:Nat) (x:S) (q:Nat),vH o bk t->(∀ c∈t,97<=c/\c<=122)->dr (zD o bk) o t ns p=some (x,q)->∀ c∈x,97<=c/\c<=122
 | [],t,p,x,q,_,_,h=>by cases h
 | n::ns,t,p,x,q,ha,ht,h=>by
  rw [gD] at h
  have hm:=zBr ha n
  rcases ha.pick n with e | ⟨c,e,h2⟩
  ·rw [if_pos e] at h
   have e1:=(Prod.mk.inj (Option.some.inj h)).1
   rw [<- e1]; exact ht
  ·rw [if_neg (by rw [e]; simp),e] at h
   refine zEN hb ns _ _ x q h2 (fun d hd=>?_) h
   rcases List.mem_append.mp hd with z | z
   ·exact ht d z
   ·rw [e] at hm
    exact (zMl hb hm).2 d z
theorem zEO (ps:List (S × S)) (o:Nat) (ok:S->Bool) (ns:List Nat):∀ (f p:Nat) (x:S) (q:Nat),yX ps o ok ns f p=some (x,q)->∃ p',dr ps o [] (ns.drop p') p'=some (x,q)
 | 0,p,x,q,h=>by cases h
 | f+1,p,x,q,h=>by
  unfold yX at h
  cases e:dr ps o [] (ns.drop p) p with
  | none=>rw [e] at h; cases h
  | some r =>
   rw [e] at h
   have h':(if ok r.1 then some r else yX ps o ok ns f r.2)=some (x,q):=h
   by_cases hk:ok r.1=true
   ·rw [if_pos hk] at h'
    exact ⟨p,by rw [e,h']⟩
   ·rw [if_neg hk] at h'
    exact zEO ps o ok ns f r.2 x q h'
theorem zCI {bk:List S} (h:isBk bk):bk≠[]:=fun z=>by have:=h.lo; rw [z] at this; simp at this
theorem zPe {o:Nat}{bk:List S} (hb:isBk bk) {ok:S->Bool}{ns:List Nat}{f p:Nat}{x:S}{q:Nat} (h:yX (zD o bk) o ok ns f p=some (x,q)):∀ c∈x,97<=c/\c<=122:=by
 obtain ⟨p',h⟩:=zEO _ _ _ _ _ _ _ _ h
 exact zEN hb _ _ _ _ _ (vH.nil (zCI hb)) (by simp) h
theorem zPf {bk:List S}{lo hi:Int}{hd tl:S}{ba:List S}{to:Bool}{x:S} (g:GW lo hi hd tl ba) (h:¬ (1<=x.length/\x.length<=8)):v9 bk lo hi hd tl ba to x=false:=by
 have:=g.glo; have:=g.ghi
 have e:(decide (lo<=(x.length:Int)) && decide ((x.length:Int)<=hi))=false:=by
  rw [Bool.and_eq_false_iff,decide_eq_false_iff_not,decide_eq_false_iff_not]
  by_cases h1:lo<=(x.length:Int)
  ·right; omega
  ·left; exact h1
 simp only [v9,qD,e,Bool.false_and]
theorem zPg {bk:List S}{x:S} (h:yK x):v9 bk 1 8 [] [] [] true x=true:=by
 have h1:=h.1; have h2:=h.2.1
 have e1:Txt.startswith (tx x) (tx [])=true:=by
  unfold Txt.startswith
  rw [show (tx ([]:S)).length=0 from rfl]
  simp [Builtin.Str.subAt,Str.length,tx]
 have e2:Txt.endswith (tx x) (tx [])=true:=by
  unfold Txt.endswith
  rw [show (tx ([]:S)).length=0 from rfl]
  simp [Builtin.Str.subAt,Str.length,tx]
 simp only [v9,qD,zAN,e1,e2,decide_eq_true (show (1:Int)<=(x.length:Int) by omega),decide_eq_true (show (x.length:Int)<=8 by omega)]
 simp
def qY (H:Hp) (v:V) (r:Option (S × Nat)):Prop:=match r with
 | none=>v=.non
 | some (x,q)=>∃ p,v=.ref p/\H p=some (.tup [sv x,.int (q:Int)])
def uR:Option (S × Nat)->PyData
 | none=>.none
 | some (x,q)=>.tuple [.str (tx x),.int (q:Int)]
theorem qY.rep {K:PySem.W.Frag}{H:Hp}{v:V}{r:Option (S × Nat)} (h:qY H v r):vF K H (uR r) v:=by
 cases r with
 | none=>exact h
 | some p=>obtain ⟨a,rfl,h⟩:=h; exact ⟨a,_,rfl,.of h,_,_,rfl,rfl,_,_,rfl,rfl,rfl⟩
theorem jV.of {H:Hp}{Q:VK}{r:Option (S × Nat)} (h:∀ v H',zB H H'->qY H' v r->Q v H'):jV H Q r :=
 ⟨fun e H' s=>h _ _ s (by rw [e]; exact rfl),fun x q e p H' s _ hp=>h _ _ s (by rw [e]; exact ⟨p,rfl,hp⟩)⟩
theorem zEP {r:Option (S × Nat)} (h:∀ x q,r=some (x,q)->∀ c∈x,97<=c/\c<=122):(uR r).canLay0=true/\SeqAt.shaped (uR r)=true:=by
 cases r with
 | none=>exact ⟨rfl,by decide +kernel⟩
 | some p =>
  have h1:PyData.strOk (tx p.1)=true:=zGz fun c hc=>(h p.1 p.2 rfl c hc).2
  have h2:(uR (some p)).canLay0=true:=by
   show (PyData.tuple [.str (tx p.1),.int (p.2:Int)]).canLay0=true
   simp only [PyData.canLay0,PyData.canLayAll0,h1,Bool.and_self]
  refine ⟨h2,?_⟩
  unfold SeqAt.shaped
  rw [h2]
  show (true && decide ((PyData.tuple [.str (tx p.1),.int (p.2:Int)]).depth<=64))=true
  simp only [PyData.depth,PyData.depthAll]
  rfl
theorem zPh {ps:List (S × S)} (h:ps.length < 64) (qs:List (S × S)) (hq:∀ q∈qs,q∈ps):∀ n∈v6 ps qs,n<=9999:=fun n hn=>by
 obtain ⟨q,hq',rfl⟩:=List.mem_map.mp hn
 have h1:=List.idxOf_lt_length_iff.mpr ((kJ ps q.1 q.2).mpr (hq q hq'))
 have h2:=gW ps q.1
 have h3:=tot_le ps q.1
 omega
theorem zIO (a b:List Nat):zX a++zX b=zX (a++b):=by unfold zX; rw [List.map_append]
theorem zEQ (a:List Nat) (k:Nat):vU (zX a) none (some (k:Int))=zX (a.take k):=by rw [zPa]; unfold zX; rw [List.map_take]
theorem told_all {o:Nat}{bk:List S}{x:S} (h:x∈bk):∀ q∈zN o x,q∈zD o bk:=fun q hq=>List.mem_flatMap.mpr ⟨x,h,hq⟩
theorem zIP {A:Prop}{C R:Hp->Prop} (main:(∀ G,C G->R G)->A) (cont:∀ G,C G->R G):A:=main cont
end Kn.Dr
end
section
namespace L2
open PySem PySem.Spec PyProof.Rows
def zPi (i j:Int):Prop:=0 < j/\j < 1606938044258990275541962092341162602522202993782792835301376
theorem zIQ {X:Cx}:yE X (binaryOp .FloorDiv) (rI zPi fun i j=>.int (i / j)):=opI fun i j _ _ _ _ _ hc q=>by
 have h1:(0:Int) < j:=hc.1
 have h2:j < 1606938044258990275541962092341162602522202993782792835301376:=hc.2
 have h3 : j.natAbs.log2 < 200 := (Nat.log2_lt (by omega)).mpr (by have e : 2 ^ 200 = 1606938044258990275541962092341162602522202993782792835301376 := by decide
                                                                   rw [e]; omega)
 exact floordiv_int (by omega) (by rw [Int.fdiv_eq_ediv_of_nonneg i (by omega)]; exact q) (.inl (PyProof.noPylong_of_log2 (by omega)))
section
variable {X:Cx}{E:XK}{fe e:Expr}{es:List Expr}{tf:TE}{t:TA}{pos:Pos}
end
end L2
end
section
namespace L2
open PySem PySem.Spec PyProof.Rows
def zAP (i:Int):Prop:=0<=i/\i < 1606938044258990275541962092341162602522202993782792835301376
theorem zAP.bits {i:Int} (h:zAP i):Builtin.Int.intBits i<=2 ^ 20:=by
 unfold Builtin.Int.intBits
 split
 ·exact Nat.zero_le _
 ·rename_i hz
  have hz':¬ i=0:=fun z=>hz (by rw [z]; rfl)
  have h0:=h.1
  have h1:=h.2
  have h3 : i.natAbs.log2 < 200 := (Nat.log2_lt (by omega)).mpr (by have e : 2 ^ 200 = 1606938044258990275541962092341162602522202993782792835301376 := by decide
                                                                    rw [e]; omega)
  have e2:2 ^ 20=1048576:=by decide
  omega
theorem zCJ {X:Cx}:yE X (binaryOp .Mult) (rI (fun i j=>zAP i/\zAP j) fun i j=>.int (i * j)):=opI fun _ _ _ _ _ _ _ hc q=>mul_int q (IntMulOk.of_bits hc.1.bits hc.2.bits)
end L2
end
section
namespace Kn
open PySem L2
section
variable {P:Program}{w:World}{K:PySem.W.Frag}{mg:Str->Option Value}{base:Heap}
def zIR:Sp:=fun vs H Q _=>∃ u d:Int,vs=[.int u,.int d]/\0<=u/\0 < d/\d < 1606938044258990275541962092341162602522202993782792835301376/\Q (.int (vC u d)) H
def zIS:Sp:=fun vs H Q _=>∃ u d:Int,vs=[.int u,.int d]/\0<=u/\0 < d/\d < 1606938044258990275541962092341162602522202993782792835301376/\∀ p,H p=none->Q (.ref p) (upd H p (frO (low u d)))
theorem zPj {f:Addr}{fd:FuncData} (F:Fun K "greatest_divisor" "greatest_divisor" zBf f fd):FnOk P w K mg base zY 1 f fd ["one", "other"] zIR:=by
 refine F.ok zBg (fun vs H Q E h=>?_) (fun cdv A outer s H vs Q E hr h=>?_)
 ·obtain ⟨a,b,rfl,_⟩:=h; rfl
 ·obtain ⟨u,d,rfl,hu0,hd0,hd1,k⟩:=h
  have nd:=zBg.nd
  refine ⟨_,zG (zCP PassesOwn.never (vK zAS (pv 1) zH (y9 _))
    (zG (z9 (i:=2) nd rfl (Or.inl rfl) (zR j7 (pv 0) (pv 1))) (zG (z9 (i:=0) nd rfl (Or.inl rfl) (pv 1)) (zE (z9 (i:=1) nd rfl (Or.inl rfl) (pv 2))))))
   (zE (zP (pv 0))),?_⟩
  refine ⟨fun m σ H'=>H'=H/\∃ (a b:Int) (r:Option V),σ=[some (.int a),some (.int b),r]/\m=b.toNat/\0<=a/\0<=b/\b < 1606938044258990275541962092341162602522202993782792835301376/\Int.gcd a b=Int.gcd u d,⟨_,rfl,u,d,none,rfl,rfl,hu0,Int.le_of_lt hd0,hd1,rfl⟩,?_⟩
  rintro m σ H' ⟨rfl,a,b,r,rfl,rfl,ha,hb,hb1,hg⟩
  refine ⟨_,rfl,rfl,_,rfl,?_⟩
  by_cases hz:b=0
  ·subst hz
   refine uM rfl ⟨_,rfl,?_⟩
   have e:a=vC u d:=by
    unfold vC
    rw [<- hg]
    obtain ⟨x,rfl⟩:=Int.eq_ofNat_of_zero_le ha
    simp
   show Q (.int a) H'
   rw [e]
   exact k
  ·have hb0:0 < b:=by omega
   have hne:¬ (V.int b=V.int 0):=fun z=>hz (V.int.inj z)
   have et:(!decide (V.int b=V.int 0))=true:=by rw [decide_eq_false hne]; rfl
   show if (!decide (V.int b=V.int 0))=true then _ else _
   rw [if_pos et]
   refine ⟨fun σ' H''=>H''=H'/\σ'=[some (.int b),some (.int (a % b)),some (.int (a % b))],?_,?_⟩
   ·rintro σ' H'' ⟨rfl,rfl⟩
    have h1:=Int.emod_nonneg a hz
    have h2:=Int.emod_lt_of_pos a hb0
    exact ⟨(a % b).toNat,by omega,rfl,b,a % b,_,rfl,rfl,hb,h1,by omega,by rw [zGh ha hb0]; exact hg⟩
   ·exact ⟨_,rfl,_,rfl,_,_,rfl,rfl,hb0,_,rfl,_,rfl,rfl,rfl⟩
theorem zPk {f:Addr}{fd:FuncData} (F:Fun K "lowest" "lowest" zBh f fd) (c1:zO P w K mg base 1 "greatest_divisor" ["one", "other"] zIR):FnOk P w K mg base zY 2 f fd ["up", "down"] zIS:=by
 refine F.ok zBi (fun vs H Q E h=>?_) (fun cdv A outer s H vs Q E hr h=>?_)
 ·obtain ⟨a,b,rfl,_⟩:=h; rfl
 ·obtain ⟨u,d,rfl,hu0,hd0,hd1,k⟩:=h
  have nd:=zBi.nd
  refine ⟨_,zG (z9 (i:=2) nd rfl (Or.inl rfl) (zK c1 hr rfl (zA (pv 0) (zA (pv 1) zC))))
   (zE (zP (uK (zA (zR zIQ (pv 0) (pv 2)) (zA (zR zIQ (pv 1) (pv 2)) zC))))),?_⟩
  have g1:=zBT (u:=u) hd0
  have g2:vC u d<=d:=Int.le_of_dvd hd0 (Int.gcd_dvd_right ..)
  refine ⟨_,rfl,_,rfl,u,d,rfl,hu0,hd0,hd1,?_⟩
  exact ⟨_,rfl,_,rfl,_,_,rfl,rfl,⟨g1,by omega⟩,_,rfl,_,rfl,_,_,rfl,rfl,⟨g1,by omega⟩,by show 2<=sizeLine; decide,k⟩
structure Vx (q:Int × Int):Prop extends Fq q where
 u1:q.1 < 1267650600228229401496703205376
 d1:q.2 < 1267650600228229401496703205376
theorem Vx.prod {p q:Int × Int} (a:Vx p) (b:Vx q):p.2 * q.2 < 1606938044258990275541962092341162602522202993782792835301376:=by
 have h1:p.2 * q.2 < 1267650600228229401496703205376 * 1267650600228229401496703205376:=Int.lt_of_lt_of_le (Int.mul_lt_mul_of_pos_right a.d1 b.dn) (Int.mul_le_mul_of_nonneg_left (Int.le_of_lt b.d1) (by decide))
 have e:(1267650600228229401496703205376:Int) * 1267650600228229401496703205376=1606938044258990275541962092341162602522202993782792835301376:=by decide
 rw [e] at h1; exact h1
theorem Vx.bu {p:Int × Int} (a:Vx p):zAP p.1:=⟨a.up,by have:=a.u1; omega⟩
theorem Vx.bd {p:Int × Int} (a:Vx p):zAP p.2:=⟨Int.le_of_lt a.dn,by have:=a.d1; omega⟩
def zIT (K:PySem.W.Frag):Sp:=fun vs H Q _=>∃ (x y:V) (p q:Int × Int),vs=[x,y]/\vS K H x p/\vS K H y q/\Vx p/\Vx q/\∀ a,H a=none->Q (.ref a) (upd H a (frO (vR p q)))
def zIU (K:PySem.W.Frag):Sp:=fun vs H Q _=>∃ (x y:V) (p q:Int × Int),vs=[x,y]/\vS K H x p/\vS K H y q/\Vx p/\Vx q/\Q (.bl (lss p q)) H
theorem zPl {f:Addr}{fd:FuncData} (F:Fun K "times" "times" zDB f fd) (c1:zO P w K mg base 2 "lowest" ["up", "down"] zIS):FnOk P w K mg base zY 3 f fd ["one", "other"] (zIT K):=by
 refine F.ok zMI (fun vs H Q E h=>?_) (fun cdv A outer s H vs Q E hr h=>?_)
 ·obtain ⟨x,y,p,q,rfl,_⟩:=h; rfl
 ·obtain ⟨x,y,p,q,rfl,⟨a,rfl,ha⟩,⟨b,rfl,hb⟩,sp,sq,k⟩:=h
  refine ⟨_,zE (zP (zK c1 hr rfl (zA (zR zCJ (yD yT (pv 0) zH (fun _ _=>rfl)) (yD yT (pv 1) zH (fun _ _=>rfl)))
   (zA (zR zCJ (yD yT (pv 0) zH (fun _ _=>rfl)) (yD yT (pv 1) zH (fun _ _=>rfl))) zC)))),?_⟩
  have p0:=sp.up; have q0:=sq.up; have p1:=sp.dn; have q1:=sq.dn
  refine ⟨_,rfl,a,_,0,_,rfl,rfl,ha,rfl,_,rfl,b,_,0,_,rfl,rfl,hb,rfl,_,_,rfl,rfl,⟨sp.bu,sq.bu⟩,?_⟩
  refine ⟨_,rfl,a,_,1,_,rfl,rfl,ha,rfl,_,rfl,b,_,1,_,rfl,rfl,hb,rfl,_,_,rfl,rfl,⟨sp.bd,sq.bd⟩,?_⟩
  exact ⟨_,_,rfl,Int.mul_nonneg p0 q0,Int.mul_pos p1 q1,(Vx.prod sp sq),k⟩
theorem zPm {f:Addr}{fd:FuncData} (F:Fun K "is_less" "is_less" zDC f fd):FnOk P w K mg base zY 1 f fd ["one", "other"] (zIU K):=by
 refine F.ok zMJ (fun vs H Q E h=>?_) (fun cdv A outer s H vs Q E hr h=>?_)
 ·obtain ⟨x,y,p,q,rfl,_⟩:=h; rfl
 ·obtain ⟨x,y,p,q,rfl,⟨a,rfl,ha⟩,⟨b,rfl,hb⟩,sp,sq,k⟩:=h
  refine ⟨_,zE (zP (qZ zJi (zR zCJ (yD yT (pv 0) zH (fun _ _=>rfl)) (yD yT (pv 1) zH (fun _ _=>rfl))) (zR zCJ (yD yT (pv 1) zH (fun _ _=>rfl)) (yD yT (pv 0) zH (fun _ _=>rfl))) (y9 _))),?_⟩
  have p0:=sp.up; have q0:=sq.up
  refine ⟨_,rfl,a,_,0,_,rfl,rfl,ha,rfl,_,rfl,b,_,1,_,rfl,rfl,hb,rfl,_,_,rfl,rfl,⟨sp.bu,sq.bd⟩,?_⟩
  exact ⟨_,rfl,b,_,0,_,rfl,rfl,hb,rfl,_,rfl,a,_,1,_,rfl,rfl,ha,rfl,_,_,rfl,rfl,⟨sq.bu,sp.bd⟩,_,_,rfl,rfl,k⟩
end
end Kn
end
section
namespace Kn
open PySem L2
theorem zIV {bk:List S}{o:Nat} (hb:Bk bk o):(zD o bk).length<=72:=by
 have h2:((zD o bk).length:Int)<=72:=by
  rw [zBS]
  have go:∀ l:List S,(∀ x∈l,x.length<=8)->(l.map fun x=>(x.length:Int)+1).sum<=9 * (l.length:Int):=by
   intro l
   induction l with
   | nil=>intro _; simp
   | cons x r ih =>
    intro hl
    have h1:=hl x (List.mem_cons_self ..)
    have h2:=ih fun y hy=>hl y (List.mem_cons_of_mem _ hy)
    rw [List.map_cons,List.sum_cons,List.length_cons]
    have:((r.length+1:Nat):Int)=(r.length:Int)+1:=rfl
    omega
  have:=go bk hb.l8
  have:=hb.hi
  omega
 omega
theorem Vx.of_le {q:Int × Int} (h:Fq q) (h1:q.1<=q.2) (h2:q.2 < 1267650600228229401496703205376):Vx q:=⟨h,by omega,h2⟩
theorem zPn {n k:Nat} (hn:n<=72) (h1:1<=n) (hk:k<=9):n ^ k<=51998697814228992:=by
 have h2:n ^ k<=n ^ 9:=Nat.pow_le_pow_right h1 hk
 have h3:n ^ 9<=72 ^ 9:=Nat.pow_le_pow_left hn 9
 have e:72 ^ 9=51998697814228992:=by decide
 omega
theorem zIW {ps:List (S × S)} (h1:1<=ps.length) (h2:ps.length<=72) {qs:List (S × S)} (hq:qs.length<=9):Vx (jB ps qs):=by
 have h3:=zMQ h1 qs
 have h4:=zPn h2 h1 hq
 exact .of_le (zMR ..) (zMS ..) (by omega)
theorem zPo {bk:List S}{o:Nat}{x:S} (hb:Bk bk o) (hx:x.length<=8):Vx (gR (zD o bk) o x):=by
 unfold gR
 exact zIW (zGn hb).1 (zIV hb) (by rw [qU]; omega)
section
variable {P:Program}{w:World}{K:PySem.W.Frag}{mg:Str->Option Value}{base:Heap}
def zIX (K:PySem.W.Frag):Sp:=fun vs H Q _=>∃ (d:Addr) (ps:List (S × S)) (o:Nat) (nm:S),vs=[.ref d,.int o,sv nm]/\kH H d ps/\1<=ps.length/\ps.length<=72/\1<=o/\nm.length<=8 /\
 ∀ v H',zB H H'->vS K H' v (gR ps o nm)->Q v H'
theorem zPp {f:Addr}{fd:FuncData} (F:Fun K "share_by_rows" "share_by_rows" zDG f fd) (C:Cst2 K mg) (cSt:zO P w K mg base 4 "steps_by_rows" ["rows", "order", "name"] (zGl K)) (cT:zO P w K mg base 3 "times" ["one", "other"] (zIT K)) :
  FnOk P w K mg base zY 5 f fd ["rows", "order", "name"] (zIX K):=by
 obtain ⟨aW,hW,tW⟩:=C.whole
 refine F.ok zGm (fun vs H Q E h=>?_) (fun cdv A outer s H vs Q E hr h=>?_)
 ·obtain ⟨d,ps,o,nm,rfl,_⟩:=h; rfl
 ·obtain ⟨d,ps,o,nm,rfl,hR,hp1,hps,ho,hl,k⟩:=h
  have hr3:=hr.mono (j:=3) (by decide)
  have nd:=zGm.nd
  refine ⟨_,zG (z9 (i:=3) nd rfl (Or.inl rfl) (yR (v:=.ref aW) (by rfl) hW rfl))
   (zG (jO PassesOwn.never rfl (j6 (zK cSt hr rfl (zA (pv 0) (zA (pv 1) (zA (pv 2) zC))))) (yG (i:=4) nd rfl (Or.inl rfl))
    (zE (z9 (i:=3) nd rfl (Or.inl rfl) (zK cT hr3 rfl (zA (pv 3) (zA (yD yT (pv 4) zH (fun _ _=>rfl)) zC))))))
   (zE (zP (pv 3)))),?_⟩
  refine ⟨_,rfl,_,rfl,_,rfl,d,ps,o,nm,rfl,hR,by omega,ho,by omega,fun l xs Hl sml hln hll rp=>?_⟩
  refine ⟨l,rfl,⟨_,.of hll⟩,?_⟩
  have hxl:xs.length=nm.length+1:=by have:=rp.length; rw [<- this,List.length_map,qU]
  refine kZ (kD K l xs) (fun i σ H2=>∃ (v:V) (y:Option V),σ=[some (.ref d),some (.int o),some (sv nm),some v,y]/\zB Hl H2/\vS K H2 v (jB ps ((zN o nm).take i)))
   ⟨_,_,rfl,zB.refl _,⟨aW,rfl,tW _⟩⟩ (fun i σ H' _ h=>by obtain ⟨_,_,_,h,_⟩:=h; exact .of (h _ _ hll)) ?_ ?_
  ·rintro i x σ H2 Nx hN hx ⟨v,y,rfl,sm,fr⟩
   obtain ⟨p,at',u,ep,rfl,hsq,fu⟩:=zMU (Reps.same sm _ _ rp) hx
   have hj:i < (zN o nm).length:=(List.getElem?_eq_some_iff.mp ep).1
   have hj2:i < nm.length+1:=by rw [qU] at hj; exact hj
   have s1:Vx (jB ps ((zN o nm).take i)):=zIW hp1 hps (by rw [List.length_take]; omega)
   have hpd:=zGH p.1 p.2 hp1
   have s2:Vx (yN ps p.1 p.2):=.of_le (kG ..) (zGG ..) (by omega)
   refine ⟨_,rfl,_,rfl,at',_,2,u,rfl,rfl,hsq,rfl,v,u,_,_,rfl,fr,fu,s1,s2,fun b hb=>hN _ _ ⟨_,_,rfl,sm.trans (zB.upd1 hb),?_⟩⟩
   rw [List.take_succ_eq_append_getElem hj,(List.getElem?_eq_some_iff.mp ep).2,zMT]
   exact vS.new
  ·rintro σ H2 ⟨v,y,rfl,sm,fr⟩
   refine ⟨_,rfl,k v H2 (sml.trans sm) ?_⟩
   have e1:(zN o nm).take xs.length=zN o nm:=by rw [hxl,<- qU o nm,List.take_length]
   rw [e1] at fr
   exact fr
def zIY (K:PySem.W.Frag):Sp:=fun vs H Q _=>∃ (a:Addr) (bk:List S) (o:Nat) (nm:S),vs=[.ref a,.int o,sv nm]/\H a=some (.tup (zF bk))/\Bk bk o/\yK nm /\
 ∀ v H',zB H H'->vS K H' v (gR (zD o bk) o nm)->Q v H'
theorem zPq {f:Addr}{fd:FuncData} (F:Fun K "share" "share" zDH f fd) (N:Needs P w K mg base) (cSh:zO P w K mg base 5 "share_by_rows" ["rows", "order", "name"] (zIX K)) :
  FnOk P w K mg base zY 6 f fd ["book", "order", "name"] (zIY K):=by
 refine F.ok zMV (fun vs H Q E h=>?_) (fun cdv A outer s H vs Q E hr h=>?_)
 ·obtain ⟨d,ps,o,nm,rfl,_⟩:=h; rfl
 ·obtain ⟨a,bk,o,nm,rfl,ha,hb,hn,k⟩:=h
  have hr3:=hr.mono (j:=3) (by decide)
  have hr2:=hr.mono (j:=2) (by decide)
  refine ⟨_,zG (vD (zK N.bk hr3 rfl (zA (pv 0) zC))) (zG (vD (zK N.od hr3 rfl (zA (pv 1) zC))) (zG (vD (zK N.nm hr2 rfl (zA (pv 2) zC)))
   (zE (zP (zK cSh hr rfl (zA (zK N.rows hr3 rfl (zA (pv 0) (zA (pv 1) zC))) (zA (pv 1) (zA (pv 2) zC)))))))),?_⟩
  refine ⟨_,rfl,a,bk,rfl,ha,hb.toisBk,fun H1 s1=>?_⟩
  refine ⟨_,rfl,o,rfl,hb.o1,hb.o3,?_⟩
  refine ⟨_,rfl,nm,rfl,hn,fun H2 s2=>?_⟩
  have s12:=s1.trans s2
  refine ⟨_,rfl,_,rfl,a,bk,o,rfl,s12 _ _ ha,hb.hi,hb.l8,hb.o1,fun d H3 s3 hd R=>?_⟩
  exact ⟨_,rfl,_,rfl,d,_,o,nm,rfl,R,(zGn hb).1,zIV hb,hb.o1,hn.2.1,fun v H4 s4 fr=>k v H4 ((s12.trans s3).trans s4) fr⟩
def zER:Sp:=fun vs H Q _=>∃ (a:Addr) (bk:List S) (o:Nat) (nm:S),vs=[.ref a,.int o,sv nm]/\H a=some (.tup (zF bk))/\Bk bk o/\yK nm /\
 ∀ H',zB H H'->Q (.bl (decide (0 < (gR (zD o bk) o nm).1))) H'
theorem zPr {f:Addr}{fd:FuncData} (F:Fun K "makes" "makes" zDI f fd) (C:Cst2 K mg) (cSh:zO P w K mg base 6 "share" ["book", "order", "name"] (zIY K)) (cL:zO P w K mg base 1 "is_less" ["one", "other"] (zIU K)) :
  FnOk P w K mg base zY 7 f fd ["book", "order", "name"] zER:=by
 obtain ⟨aN,hN,tN⟩:=C.nought
 refine F.ok zMW (fun vs H Q E h=>?_) (fun cdv A outer s H vs Q E hr h=>?_)
 ·obtain ⟨d,ps,o,nm,rfl,_⟩:=h; rfl
 ·obtain ⟨a,bk,o,nm,rfl,ha,hb,hn,k⟩:=h
  have hr1:=hr.mono (j:=1) (by decide)
  refine ⟨_,zE (zP (zK cL hr1 rfl (zA (yR (v:=.ref aN) (by rfl) hN rfl) (zA (zK cSh hr rfl (zA (pv 0) (zA (pv 1) (zA (pv 2) zC)))) zC)))),?_⟩
  refine ⟨_,rfl,_,rfl,_,rfl,a,bk,o,nm,rfl,ha,hb,hn,fun v H1 s1 fr=>?_⟩
  refine ⟨_,v,(0,1),_,rfl,⟨aN,rfl,tN _⟩,fr,⟨zCq,by decide,by decide⟩,zPo hb hn.2.1,?_⟩
  rw [zLn]
  exact k H1 s1
end
end Kn
end
section
namespace Kn.Dr
open PySem L2 Kn
theorem zES (ps:List (S × S)) (o:Nat):∀ (ns:List Nat) (t:S) (p:Nat) (x:S) (q:Nat),dr ps o t ns p=some (x,q)->∃ u,x=t++u
 | [],t,p,x,q,h=>by cases h
 | n::ns,t,p,x,q,h=>by
  rw [gD] at h
  split at h
  ·have e:=(Prod.mk.inj (Option.some.inj h)).1
   exact ⟨[],by rw [<- e,List.append_nil]⟩
  ·obtain ⟨u,rfl⟩:=zES ps o ns _ _ x q h
   exact ⟨_,List.append_assoc ..⟩
theorem zET {o:Nat}{bk:List S}:∀ (ns:List Nat) (t:S) (p:Nat) (x:S) (q:Nat),vH o bk t->(∀ q∈pp o t,q∈zD o bk)->dr (zD o bk) o t ns p=some (x,q)->∀ q∈zN o x,q∈zD o bk
 | [],t,p,x,q,_,_,h=>by cases h
 | n::ns,t,p,x,q,ha,hm,h=>by
  rw [gD] at h
  have hk:=zBr ha n
  rcases ha.pick n with e | ⟨c,e,h2⟩
  ·rw [if_pos e] at h
   have e1:=(Prod.mk.inj (Option.some.inj h)).1
   rw [<- e1,zAJ]
   intro r hr
   rcases List.mem_append.mp hr with z | z
   ·exact hm r z
   ·rw [List.mem_singleton.mp z]; rw [e] at hk; exact hk
  ·rw [if_neg (by rw [e]; simp),e] at h
   refine zET ns _ _ x q h2 (fun r hr=>?_) h
   rw [zNA] at hr
   rcases List.mem_append.mp hr with z | z
   ·exact hm r z
   ·rw [List.mem_singleton.mp z]; rw [e] at hk; exact hk
theorem zPs {o:Nat}{bk:List S} (hb:Bk bk o):(([]:S),([]:S)) ∉ zD o bk:=fun h=>by
 obtain ⟨x,hx,h⟩:=List.mem_flatMap.mp h
 obtain ⟨p,hp,h⟩:=List.mem_map.mp h
 have h1:=(hb.nm x hx).1
 have e1:=(Prod.mk.inj h).1
 have e2:=(Prod.mk.inj h).2
 have hp2:p < x.length+1:=List.mem_range.mp hp
 have hpl:x.length<=p:=by
  have:=congrArg List.length e2
  rw [List.length_take,List.length_drop] at this
  simp only [List.length_nil] at this
  omega
 have:=congrArg List.length e1
 unfold zQ at this
 rw [List.length_drop,List.length_take] at this
 simp only [List.length_nil] at this
 have:=hb.o1
 omega
theorem zIZ {o:Nat}{bk:List S} (hb:Bk bk o) (n:Nat):∃ c,pick (zD o bk) [] n=[c]/\(([]:S),[c])∈zD o bk:=by
 have ha:vH o bk []:=vH.nil (zCI hb.toisBk)
 have e0:zQ ([]:S) o=[]:=by simp [zQ]
 have hm:=zBr ha n
 rw [e0] at hm
 rcases ha.pick n with e | ⟨c,e,_⟩
 ·rw [e0] at e
  rw [e] at hm
  exact absurd hm (zPs hb)
 ·rw [e0] at e
  rw [e] at hm
  exact ⟨c,e,hm⟩
theorem zPt {o:Nat}{bk:List S} (hb:Bk bk o) {c:Nat} (h:(([]:S),[c])∈zD o bk):∃ x∈bk,x.head?=some c:=by
 obtain ⟨x,hx,h⟩:=List.mem_flatMap.mp h
 obtain ⟨p,hp,h⟩:=List.mem_map.mp h
 refine ⟨x,hx,?_⟩
 have e1:=(Prod.mk.inj h).1
 have e2:=(Prod.mk.inj h).2
 have hp0:p=0:=by
  have h1:=(hb.nm x hx).1
  have hp2:p < x.length+1:=List.mem_range.mp hp
  have:=congrArg List.length e1
  unfold zQ at this
  rw [List.length_drop,List.length_take] at this
  simp only [List.length_nil] at this
  have:=hb.o1
  omega
 subst hp0
 rw [List.drop_zero] at e2
 cases x with
 | nil=>cases e2
 | cons d x=>simp at e2; simp [e2]
theorem zPu {o:Nat}{bk:List S} (hb:Bk bk o) {t:S} (ht:t≠[]) (h:(zQ t o,([]:S))∈zD o bk):∃ x∈bk,x.getLast?=t.getLast?:=by
 obtain ⟨x,hx,h⟩:=List.mem_flatMap.mp h
 obtain ⟨p,hp,h⟩:=List.mem_map.mp h
 refine ⟨x,hx,?_⟩
 have e1:=(Prod.mk.inj h).1
 have e2:=(Prod.mk.inj h).2
 have hp2:p < x.length+1:=List.mem_range.mp hp
 have hpl:p=x.length:=by
  have:=congrArg List.length e2
  rw [List.length_take,List.length_drop] at this
  simp only [List.length_nil] at this
  omega
 rw [hpl,List.take_length] at e1
 have go:∀ y:S,y≠[]->(zQ y o).getLast?=y.getLast?:=fun y hy=>by
  unfold zQ
  have hl:0 < y.length:=List.length_pos_iff.mpr hy
  have:=hb.o1
  rw [List.getLast?_drop,if_neg (by omega)]
 have hxn:x≠[]:=fun z=>by have:=(hb.nm x hx).1; rw [z] at this; simp at this
 rw [<- go x hxn,e1,go t ht]
theorem zIa (f:S->Nat) (x:S):∀ L:List S,L.Nodup->(L.flatMap fun l=>List.replicate (f l) l).count x=if x∈L then f x else 0
 | [],_=>by simp
 | y::L,h=>by
  have h1:=List.nodup_cons.mp h
  rw [List.flatMap_cons,List.count_append,zIa f x L h1.2,List.count_replicate]
  by_cases e:y=x
  ·subst e
   rw [if_neg h1.1]
   simp
  ·have e':¬ x=y:=fun z=>e z.symm
   simp [e,e']
theorem zPv (ps:List (S × S)) (e l:S):(pot ps e).count l=ps.count (e,l):=by
 unfold pot
 rw [zIa (fun l=>ps.count (e,l)) l (vX ps e) ((zBq _).imp fun {a b} h z=>by subst z; exact zAF _ h)]
 split
 ·rfl
 ·rename_i h
  rw [zAK] at h
  exact (List.count_eq_zero.mpr h).symm
theorem zPw (ps:List (S × S)) (e:S):(List.range (pot ps e).length).map (pick ps e)=pot ps e:=by
 apply List.ext_getElem
 ·simp
 ·intro i h1 h2
  rw [List.getElem_map,List.getElem_range]
  unfold pick
  rw [Nat.mod_eq_of_lt h2,List.getD_eq_getElem?_getD,List.getElem?_eq_getElem h2]; rfl
theorem zPx (ps:List (S × S)) (e l:S) (P:S->Bool):(((List.range (pot ps e).length).filter fun n=>P (pick ps e n)).map (pick ps e)).count l=if P l then ps.count (e,l) else 0:=by
 have e1:((List.range (pot ps e).length).filter fun n=>P (pick ps e n)).map (pick ps e)=(pot ps e).filter P:=by
  conv=>rhs; rw [<- zPw ps e]
  rw [List.filter_map]; rfl
 rw [e1]
 split
 ·rename_i h
  rw [List.count_filter h,zPv]
 ·rename_i h
  refine List.count_eq_zero.mpr fun z=>h (List.mem_filter.mp z).2
theorem zIb (ps:List (S × S)) (e:S) (n:Nat):pick ps e (n+(pot ps e).length)=pick ps e n:=by
 unfold pick
 rw [Nat.add_mod_right]
theorem zIc (ps:List (S × S)) (o:Nat):∀ (u t:S) (ms:List Nat) (p:Nat),(∀ q∈zN o (t++u),q∈ps)->dr ps o t ((((zN o (t++u)).drop t.length).map fun q=>(pot ps q.1).idxOf q.2+(pot ps q.1).length)++ms) p=some (t++u,p+u.length+1)
 | [],t,ms,p,h=>by
  rw [List.append_nil] at h ⊢
  rw [zAJ]
  have e:(pp o t++[(zQ t o,([]:S))]).drop t.length=[(zQ t o,[])]:=by
   have hl:(pp o t).length=t.length:=by unfold pp; rw [List.length_map,List.length_range]
   rw [<- hl,List.drop_left]
  rw [e]
  have hm:(zQ t o,([]:S))∈ps:=h _ (by rw [zAJ]; simp)
  rw [List.map_singleton,List.singleton_append,gD,zIb,zBu hm,if_pos rfl]; rfl
 | c::u,t,ms,p,h=>by
  have hm:(zQ t o,[c])∈zN o (t++c::u):=by
   refine List.mem_map.mpr ⟨t.length,List.mem_range.mpr (by rw [List.length_append,List.length_cons]; omega),?_⟩
   rw [List.take_left,List.drop_left]; rfl
  have hd:(zN o (t++c::u)).drop t.length=(zQ t o,[c])::(zN o (t++c::u)).drop (t.length+1):=by
   have hl:t.length < (zN o (t++c::u)).length:=by
    unfold zN; rw [List.length_map,List.length_range,List.length_append,List.length_cons]; omega
   rw [List.drop_eq_getElem_cons hl]
   congr 1
   have h5:(zN o (t++c::u))[t.length]?=some (zQ t o,[c]):=by
    unfold zN
    rw [List.getElem?_map,List.getElem?_range (by rw [List.length_append,List.length_cons]; omega)]
    show some (zQ (List.take t.length (t++c::u)) o,List.take 1 (List.drop t.length (t++c::u)))=_
    rw [List.take_left,List.drop_left]; rfl
   exact (List.getElem?_eq_some_iff.mp h5).2
  rw [hd,List.map_cons,List.cons_append,gD,zIb,zBu (h _ hm),if_neg (by simp)]
  have e2:t++c::u=(t++[c])++u:=by simp
  have ih:=zIc ps o u (t++[c]) ms (p+1) (by rw [<- e2]; exact h)
  rw [<- e2,List.length_append,List.length_singleton] at ih
  rw [ih,List.length_cons]
  congr 2
  omega
theorem zPy {ps:List (S × S)}{o:Nat}{x:S} (h:∀ q∈zN o x,q∈ps):dr ps o [] ((zN o x).map fun q=>(pot ps q.1).idxOf q.2+(pot ps q.1).length) 0=some (x,x.length+1):=by
 have:=zIc ps o x [] [] 0 (by simpa using h)
 simpa using this
section
variable {P:Program}{w:World}{K:PySem.W.Frag}{mg:Str->Option Value}{base:Heap}
theorem zPz {X:Cx} (K':PySem.W.Frag) (hK:X.K=K'):yE X (compareOp .NotIn) (rIn K' true):=by
 subst hK
 exact zAY
theorem zQA {X:Cx} (K':PySem.W.Frag) (hK:X.K=K') {o e:Expr}{es:List Expr}{to:TE}{t:TA}{name:Str}{apos cpos:Pos}{T id:String}{r:V->List V->Hp->VK->Prop} (pa:PlainAttrs T) (slot:Slot T name id) (hty:typeOf (.builtin id)=pure (.type "method_descriptor")) (hm:gK X id r) (ho:PE X o to) (ha:PA X (e::es) t)
  (hbase:attributeBase o name X.env (eval o X.env)=eval o X.env:=by rfl)
  (hfew:((backTo cpos (starEach (e::es) X.env)).all (fun x=>!x.1) && (backToKw cpos (keywordEach [] X.env)).all (fun x=>x.1.isSome)
   && decide ((e::es).length+([]:List Keyword).length+(if ([]:List Keyword).isEmpty then 0 else 1) < 30))=true:=by rfl)
  (hline:(apos.endLine == cpos.line)=true:=by rfl) (hs:starEach (e::es) X.env=(false,eval e X.env)::starEach es X.env:=by rfl) (hplain:(backTo cpos (starEach es X.env)).any (·.1)=false:=by rfl) :
  PE X (.Call (.Attribute o name apos) (e::es) [] cpos) (tBM K' T r to t):=by
 subst hK
 exact jH pa slot hty hm ho ha hbase hfew hline hs hplain
abbrev sTx:Stmt:=top 75
theorem zQB:FnScope ["_law_book_here", "_law_order", "_law_numbers"] ["_law_book_here", "_law_order", "_law_numbers"] (defScope sTx):=⟨rfl,rfl,rfl,by decide +kernel,rfl,by decide +kernel,by decide +kernel⟩
def zCK:Sp:=fun vs H Q _=>∃ (c:Addr) (nv:V) (bk:List S) (o:Nat) (ns:List Nat),vs=[.ref c,.int o,nv]/\H c=some (.tup (zF bk))/\Bk bk o/\(zD o bk).length < 64/\jK H nv ns/\ns.length<=99/\(∀ n∈ns,n<=9999)/\jV H Q (dr (zD o bk) o [] ns 0)
theorem zQC {f:Addr}{fd:FuncData}{nb no nu ts:Addr} (F:Fun K "_law_text" "_law_text" sTx f fd) (O:XCls K mg "TooShort" ts) (hsub:qK K ts ts=true) (cD:y6 P w K mg base 5 "drawn" ["book", "order", "numbers"] (zED nb no nu ts)) :
  FnOk P w K mg base zY 6 f fd ["_law_book_here", "_law_order", "_law_numbers"] zCK:=by
 refine F.ok zQB (fun vs H Q E h=>?_) (fun cdv A outer s H vs Q E' hr h=>?_)
 ·obtain ⟨c,nv,bk,o,ns,rfl,_⟩:=h; rfl
 ·obtain ⟨c,nv,bk,o,ns,rfl,hc,hb,h64,hn,h99,h9,k0,k1⟩:=h
  refine ⟨_,zE (zHq rfl rfl rfl O (by rfl)
   (fun E1 ET pn ok=>zE (zP (vZ cD ok hr rfl (zA (pv 0) (zA (pv 1) (zA (pv 2) zC))))))
   (fun e=>zE (zP gF))),?_⟩
  obtain ⟨g,tg,ng⟩:=hn.thg
  refine ⟨_,rfl,_,rfl,_,rfl,_,_,_,_,.int o,g,rfl,zAx hc,rfl,tg,zAy hb.toisBk,rfl,ng.sml h99,uQ (zAr hb.toisBk),fun _=>uQ (zCG hb.o1 hb.o3),fun _ _=>uQ (ng.is h99 h9),fun bk' o' ns' hb' e1 e2 e3 h99'=>?_⟩
  have q1:=gZ (PyData.tuple.inj e1)
  have q2:=V.int.inj e2
  have q2':o=o':=by omega
  have q3:=ng.uniq e3
  subst q1 q2' q3
  exact ⟨h64,fun z H' s'=>⟨ts,rfl,O.exc,hsub,fun e he=>k0 z _ (s'.upd_new (s'.free he))⟩,k1⟩
abbrev sFt:Stmt:=top 76
theorem zQD:FnScope ["_law_book_here", "_law_order", "_law_wish_here", "_law_numbers"] ["_law_book_here", "_law_order", "_law_wish_here", "_law_numbers"] (defScope sFt):=⟨rfl,rfl,rfl,by decide +kernel,rfl,by decide +kernel,by decide +kernel⟩
def zEU:Sp:=fun vs H Q _=>∃ (c wa:Addr) (nv:V) (bk:List S) (o:Nat) (lo hi:Int) (hd tl:S) (ba:List S) (to:Bool) (ns:List Nat),vs=[.ref c,.int o,.ref wa,nv]/\H c=some (.tup (zF bk))/\Bk bk o/\(zD o bk).length < 64/\qW H wa lo hi hd tl ba to/\GW lo hi hd tl ba/\jK H nv ns/\ns.length<=99/\(∀ n∈ns,n<=9999) /\
 jV H Q (yX (zD o bk) o (v9 bk lo hi hd tl ba to) ns (ns.length+1) 0)
theorem zQE {f:Addr}{fd:FuncData}{nb no nw nu ts:Addr} (F:Fun K "_law_fitting" "_law_fitting" sFt f fd) (O:XCls K mg "TooShort" ts) (hsub:qK K ts ts=true) (cF:y6 P w K mg base 6 "drawn_fitting" ["book", "order", "wish", "numbers"] (zHx nb no nw nu ts)) :
  FnOk P w K mg base zY 7 f fd ["_law_book_here", "_law_order", "_law_wish_here", "_law_numbers"] zEU:=by
 refine F.ok zQD (fun vs H Q E h=>?_) (fun cdv A outer s H vs Q E' hr h=>?_)
 ·obtain ⟨c,wa,nv,bk,o,lo,hi,hd,tl,ba,to,ns,rfl,_⟩:=h; rfl
 ·obtain ⟨c,wa,nv,bk,o,lo,hi,hd,tl,ba,to,ns,rfl,hc,hb,h64,hw,gw,hn,h99,h9,k0,k1⟩:=h
  refine ⟨_,zE (zHq rfl rfl rfl O (by rfl)
   (fun E1 ET pn ok=>zE (zP (vZ cF ok hr rfl (zA (pv 0) (zA (pv 1) (zA (pv 2) (zA (pv 3) zC)))))))
   (fun e=>zE (zP gF))),?_⟩
  obtain ⟨g,tg,ng⟩:=hn.thg
  refine ⟨_,rfl,_,rfl,_,rfl,_,rfl,_,_,_,_,_,.int o,_,g,rfl,zAx hc,rfl,zIJ hw,tg,zAy hb.toisBk,rfl,(zCH gw).1,(zCH gw).sh (by decide),ng.sml h99,uQ (zAr hb.toisBk),fun _=>uQ (zCG hb.o1 hb.o3),fun _ _=>uQ (zIH gw),fun _ _ _=>uQ (ng.is h99 h9),fun bk' o' lo' hi' hd' tl' ba' to' ns' hb' e1 e2 gw' e4 e3 h99'=>?_⟩
  have q1:=gZ (PyData.tuple.inj e1)
  have q2:=V.int.inj e2
  have q2':o=o':=by omega
  have q3:=ng.uniq e3
  obtain ⟨w1,w2,w3,w4,w5,w6⟩:=zII e4
  subst q1 q2' q3 w1 w2 w3 w4 w5 w6
  exact ⟨h64,fun z H' s'=>⟨ts,rfl,O.exc,hsub,fun e he=>k0 z _ (s'.upd_new (s'.free he))⟩,k1⟩
abbrev sPF:Stmt:=top 77
theorem zId:FnScope ["_law_book_here", "_law_order", "_law_row", "_law_picks", "_law_number", "_law_text_here"] ["_law_book_here", "_law_order"] (defScope sPF):=⟨rfl,rfl,rfl,by decide +kernel,rfl,by decide +kernel,by decide +kernel⟩
theorem zIe:(["_law_letter", "_law_many"]:List Str).Nodup:=by decide +kernel
theorem zIf:(["_law_picks", "_law_letter", "_law_many"]:List Str).Nodup:=by decide +kernel
def zIg:Sp:=fun vs H Q _=>∃ (c:Addr) (bk:List S) (o:Nat),vs=[.ref c,.int o]/\H c=some (.tup (zF bk))/\Bk bk o/\(zD o bk).length < 64/\∀ H',zB H H'->Q (.bl true) H'
theorem zQF (p:Nat->Bool) (i:Nat):(List.range (i+1)).filter p=(List.range i).filter p++(if p i then [i] else []):=by
 rw [List.range_succ,List.filter_append]
 cases h:p i <;> simp [h]
theorem zQG (l:List S) (x:S):(l.map tx).count (tx x)=l.count x:=by
 induction l with
 | nil=>rfl
 | cons y l ih =>
  rw [List.map_cons,List.count_cons,List.count_cons,ih]
  congr 1
  by_cases e:y=x
  ·subst e; simp
  ·rw [beq_eq_false_iff_ne.mpr e,beq_eq_false_iff_ne.mpr fun z=>e (qJ z)]
theorem zQH:PyData.eqv (.list []) (.list [])=true:=rfl
theorem zQI {f:Addr}{fd:FuncData} (F:Fun K "_law_picks_fit" "_law_picks_fit" sPF f fd) (B:Blt mg) (cB:zO P w K mg base 4 "behind" ["book", "order", "text"] (zDO K)) (cT:zO P w K mg base 6 "_law_text" ["_law_book_here", "_law_order", "_law_numbers"] zCK) :
  FnOk P w K mg base zY 7 f fd ["_law_book_here", "_law_order"] zIg:=by
 refine F.ok zId (fun vs H Q E h=>?_) (fun cdv A outer s H vs Q E' hr h=>?_)
 ·obtain ⟨c,bk,o,rfl,_⟩:=h; rfl
 ·obtain ⟨c,bk,o,rfl,hc,hb,h64,k⟩:=h
  have nd:=zId.nd
  have hu:=hr.units
  have r4:=hr.mono (j:=4) (by decide)
  refine ⟨_,zG (z9 (i:=2) nd rfl (Or.inl rfl) (zK cB r4 rfl (zA (pv 0) (zA (pv 1) (zA yZ zC)))))
   (zG (z9 (i:=3) nd rfl (Or.inr rfl) (uV zC))
   (zG (jO PassesOwn.never rfl (zAR rfl B.range (zA (yA (zFr rfl) (by rfl) B.sum PyProof.Rows.boot_sum (zA (qH (N:=["_law_letter", "_law_many"]) (caps:=[]) rfl (uF (by kernel_rfl)) (j6 (pv 2))
     (fun cl X s H ex=>zAI K 2 rfl rfl (vQ (yG (i:=0) zIe rfl (Or.inl rfl)) (vQ (yG (i:=1) zIe rfl (Or.inl rfl)) jE)) rfl rfl) (fun cl X s H ex=>uN) (fun cl X s H ex=>pv 1)) zC)) zC)) (yG (i:=4) nd rfl (Or.inl rfl))
    (zG (z9 (i:=5) nd rfl (Or.inl rfl) (zK cT hr rfl (zA (pv 0) (zA (pv 1) (zA (zR zFK (uV (zA (pv 4) zC)) (zR zFM (uV (zA zH zC)) zH)) zC)))))
    (zE (yI (vK zCU (pv 5) gF (y9 _)) (zE (vD (jH PySem.F.plainAttrs_list PySem.F.slot_list_append PySem.F.type_list_append zBI (pv 3) (zA (yD gL (yD yT (pv 5) zH (fun _ _=>rfl)) zH (fun _ _=>rfl)) zC)))) yH))))
   (zE (zP (qZ (zAd hu) (qH (N:=["_law_picks", "_law_letter", "_law_many"]) (caps:=[3]) rfl (uF (by kernel_rfl)) (j6 (pv 2))
     (fun cl X s H ex=>zAI K 2 rfl rfl (vQ (yG (i:=1) zIf rfl (Or.inl rfl)) (vQ (yG (i:=2) zIf rfl (Or.inl rfl)) jE)) rfl rfl)
     (fun cl X s H ex=>zKm (vK (zPz K rfl) (zQA K rfl PySem.F.plainAttrs_list PySem.F.slot_list_count PySem.F.type_list_count zMz (pv 0) (zA (pv 1) zC)) (uK (zA zH (zA (pv 2) zC))) (by with_unfolding_all rfl)))
     (fun cl X s H ex=>pv 1)) (uV zC) (y9 _)))))),?_⟩
  refine ⟨_,rfl,_,rfl,c,bk,o,[],rfl,hc,hb,.inl rfl,h64,fun rs l xs H1 row s1 hl1 hl rp=>?_⟩
  have e0:zQ ([]:S) o=[]:=by simp [zQ]
  rw [e0] at row
  refine ⟨by show 0<=sizeLine; decide,fun pk hpk=>?_⟩
  have t2:=zB.upd1 (o:=.lst []) hpk
  have hpk2:upd H1 pk (.lst []) pk=some (.lst (zF [])):=zI
  have hl2:=t2 _ _ hl
  have rp2:=Reps.same t2 _ _ rp
  have hlpk:l≠pk:=y7 hl hpk
  have s2:=s1.trans t2
  have hpkH:H pk=none:=s1.free hpk
  generalize upd H1 pk (.lst [])=H2 at t2 hpk2 hl2 rp2 s2
  have hxl:xs.length=rs.length:=by have:=rp.length; simpa using this.symm
  have hrl:rs.length < 64:=by have:=row.len; omega
  refine ⟨_,rfl,l,rfl,⟨_,.of hl2⟩,?_⟩
  refine uY (kD K l xs) [] 2 (by omega) (fun i acc H'=>zB H2 H'/\acc=((rs.take i).map (·.2)).map V.int)
   ⟨zB.refl _,rfl⟩ (fun i acc H' _ h=>⟨.of (h.1 _ _ hl2),by rw [h.2,List.length_map,List.length_map,List.length_take]; omega⟩) ?_ ?_
  ·rintro i y acc H' ys Nx hN hx hy ⟨sm,rfl⟩
   obtain ⟨y1,y2,rfl⟩:=k6 hy
   obtain ⟨q,a',hq,rfl,hsq⟩:=zDQ (Reps.same sm _ _ rp2) hx
   refine ⟨a',_,rfl,hsq,rfl,_,_,rfl,_,_,rfl,rfl,?_⟩
   refine ⟨_,rfl,hN _ _ [_,_] rfl ⟨sm,?_⟩⟩
   rw [jC hq,List.map_append,List.map_append]; rfl
  rintro acc H' ⟨sm,rfl⟩ D hD
  rw [hxl,List.take_length]
  have t3:=sm.trans (zB.upd1 (o:=.lst ((rs.map (·.2)).map V.int)) hD)
  refine ⟨D,_,rfl,.of zI,?_⟩
  have htot:(rs.map (·.2)).sum=((pot (zD o bk) []).length:Int):=by
   rw [row.total,gW]; rfl
  rw [htot]
  have hpl:(pot (zD o bk) []).length < 64:=by rw [gW]; have:=tot_le (zD o bk) []; omega
  refine ⟨_,rfl,by omega,by omega,?_⟩
  have hpk3:=t3 _ _ hpk2
  have hl3:=t3 _ _ hl2
  have rp3:=Reps.same t3 _ _ rp2
  have s3:=s2.trans t3
  generalize upd H' D (.lst ((rs.map (·.2)).map V.int))=H3 at t3 hpk3 hl3 rp3 s3
  have hc3:=s3 _ _ hc
  have hcpk:c≠pk:=fun z=>by rw [z] at hc; rw [hpkH] at hc; cases hc
  have hpn:∀ ys,¬ Rd H3 pk (.tup ys):=fun ys z=>by rcases z with z | ⟨_,z⟩ <;> rw [hpk3] at z <;> cases z
  have sqX:∀ {G:Hp} {a':Addr} {ys:List V},yY pk H3 G->zZ K H3 a' ys->zZ K G a' ys:=fun {G a' ys} sx hsq=>by
   rcases hsq with h | h
   ·have hb':a'≠pk:=fun z=>by subst z; exact hpn _ h
    rcases h with h | ⟨ob,h⟩
    ·exact .inl (.inl (sx _ _ hb' h))
    ·exact .inl (.inr ⟨ob,sx _ _ hb' h⟩)
   ·exact .inr h
  refine kZ (zAE 0 _) (fun i σ G=>∃ x4 x5:Option V,σ=[some (.ref c),some (.int (o:Int)),some (.ref l),some (.ref pk),x4,x5]/\yY pk H3 G/\G pk=some (.lst (zF (((List.range i).filter fun n=>(dr (zD o bk) o (pick (zD o bk) [] n) (List.replicate 60 0) 1).isSome).map (pick (zD o bk) [])))))
   ⟨_,_,rfl,yY.refl _,hpk3⟩ (fun i σ G _ h=>trivial) ?_ ?_
  ·rintro i x σ G Nx hN hx ⟨x4,x5,rfl,sx,hpkG⟩
   have hnn:((pot (zD o bk) []).length:Int).toNat=(pot (zD o bk) []).length:=by omega
   rw [hnn] at hx
   obtain ⟨hi,rfl⟩:=zAj hx
   obtain ⟨ch,hch,hchm⟩:=zIZ hb i
   refine ⟨_,rfl,_,rfl,_,rfl,by show 1<=sizeLine; decide,fun l1 hl1'=>?_⟩
   have u1:=zB.upd1 (o:=.lst [V.int (i:Int)]) hl1'
   refine ⟨by show 1<=sizeLine; decide,fun l2 hl2'=>?_⟩
   have u2:=u1.trans (zB.upd1 (o:=.lst [V.int 0]) hl2')
   refine ⟨l2,60,[V.int 0],rfl,rfl,zI,by decide,by decide,by rw [sizeLine_eq]; show 1 * 60<=_; omega,fun l3 hl3'=>?_⟩
   have u3:=u2.trans (zB.upd1 (o:=.lst (List.replicate ((60:Int)).toNat [V.int 0]).flatten) hl3')
   refine ⟨l1,l3,_,_,rfl,rfl,((zB.upd1 hl3') _ _ ((zB.upd1 hl2') _ _ zI)),zI,by rw [sizeLine_eq]; show 1+_<=_; rw [zFL]; show 1+60 * 1<=_; omega,fun l4 hl4=>?_⟩
   have ez:[V.int (i:Int)]++(List.replicate ((60:Int)).toNat [V.int 0]).flatten=zX (i::List.replicate 60 0):=by
    rw [zHR]; unfold zX; rw [List.map_cons,List.map_replicate]; rfl
   have u4:=u3.trans (zB.upd1 (o:=.lst ([V.int (i:Int)]++(List.replicate ((60:Int)).toNat [V.int 0]).flatten)) hl4)
   have hl44:upd (upd (upd (upd G l1 (.lst [V.int (i:Int)])) l2 (.lst [V.int 0])) l3 (.lst (List.replicate ((60:Int)).toNat [V.int 0]).flatten)) l4 (.lst ([V.int (i:Int)]++(List.replicate ((60:Int)).toNat [V.int 0]).flatten)) l4=some (.lst (zX (i::List.replicate 60 0))):=by rw [zI,ez]
   refine ⟨c,.ref l4,bk,o,i::List.replicate 60 0,rfl,u4 _ _ (sx _ _ hcpk hc3),hb,h64,⟨l4,rfl,.inl hl44⟩,by rw [List.length_cons,List.length_replicate]; omega,fun n hn=>?_,jV.of fun ov G5 s5 hov=>?_⟩
   ·rcases List.mem_cons.mp hn with z | z
    ·omega
    ·have:=(List.mem_replicate.mp z).2; omega
   have u5:=u4.trans s5
   have edr:dr (zD o bk) o [] (i::List.replicate 60 0) 0=dr (zD o bk) o (pick (zD o bk) [] i) (List.replicate 60 0) 1:=by
    rw [gD,e0,if_neg (by rw [hch]; simp),List.nil_append]
   rw [edr] at hov
   have hpk5:=u5 _ _ hpkG
   refine ⟨_,rfl,rfl,_,rfl,?_⟩
   have ers:(List.range (i+1)).filter (fun n=>(dr (zD o bk) o (pick (zD o bk) [] n) (List.replicate 60 0) 1).isSome)=(List.range i).filter (fun n=>(dr (zD o bk) o (pick (zD o bk) [] n) (List.replicate 60 0) 1).isSome)++(if (dr (zD o bk) o (pick (zD o bk) [] i) (List.replicate 60 0) 1).isSome then [i] else []):=zQF _ i
   cases hr5:dr (zD o bk) o (pick (zD o bk) [] i) (List.replicate 60 0) 1 with
   | none =>
    rw [hr5] at hov ers
    cases (show ov=.non from hov)
    refine uM rfl (hN _ _ ⟨_,_,rfl,sx.trans (yY.of u5),?_⟩)
    rw [ers]
    simpa using hpk5
   | some r =>
    obtain ⟨x1,q1⟩:=r
    rw [hr5] at hov ers
    obtain ⟨p5,rfl,hp5⟩:=hov
    obtain ⟨uu,hx1⟩:=zES _ _ _ _ _ _ _ hr5
    rw [hch] at hx1
    refine k9 (by intro z; cases z) ?_
    have hx0:uW (tx x1).cps.toList 0=some ch:=by rw [vM,hx1]; exact jF (j:=0) rfl
    have hlenx:x1.length<=99:=by
     have:=zAo _ _ _ _ _ (vH.next (t:=[]) (by rw [e0]; exact hchm)) (by rw [List.nil_append,<- hch]; exact hr5)
     rw [List.length_replicate] at this
     simp only [List.nil_append,List.length_singleton] at this
     omega
    have hlen3:(zF (((List.range i).filter fun n=>(dr (zD o bk) o (pick (zD o bk) [] n) (List.replicate 60 0) 1).isSome).map (pick (zD o bk) []))).length < sizeLine:=by
     unfold zF
     rw [List.length_map,List.length_map]
     have:=List.length_filter_le (fun n=>(dr (zD o bk) o (pick (zD o bk) [] n) (List.replicate 60 0) 1).isSome) (List.range i)
     rw [List.length_range] at this
     rw [sizeLine_eq]; omega
    refine ⟨_,rfl,.inl ⟨rfl,_,.of hpk5⟩,_,rfl,p5,_,0,sv x1,rfl,rfl,.of hp5,rfl,tx x1,0,ch,rfl,rfl,by rw [yJ,sizeLine_eq]; omega,hx0,pk,_,_,rfl,rfl,hpk5,hlen3,hN _ _ ⟨_,_,rfl,(sx.trans (yY.of u5)).updf,?_⟩⟩
    rw [zI,ers]
    unfold zF
    rw [List.map_append,List.map_append]
    show _=some (HO.lst (_++[sv (pick (zD o bk) [] i)]))
    rw [hch]
  rintro σ G ⟨x4,x5,rfl,sx,hpkG⟩
  have hnn:((pot (zD o bk) []).length:Int).toNat=(pot (zD o bk) []).length:=by omega
  rw [List.length_map,List.length_range,hnn] at hpkG
  have hlG:=sx _ _ hlpk hl3
  refine ⟨_,rfl,l,rfl,⟨_,.of hlG⟩,?_⟩
  generalize hpks:((List.range (pot (zD o bk) []).length).filter fun n=>(dr (zD o bk) o (pick (zD o bk) [] n) (List.replicate 60 0) 1).isSome).map (pick (zD o bk) [])=pks at hpkG
  have hcnt:∀ lt,pks.count lt=if (dr (zD o bk) o lt (List.replicate 60 0) 1).isSome then (zD o bk).count ([],lt) else 0:=fun lt=>by
   rw [<- hpks]
   exact zPx (zD o bk) [] lt fun l=>(dr (zD o bk) o l (List.replicate 60 0) 1).isSome
  refine zFu (kD K l xs) [some (.ref pk)] 2 (by omega) (fun i acc G'=>zB G G'/\acc=[])
   ⟨zB.refl _,rfl⟩ (fun i acc G' _ h=>⟨.of (h.1 _ _ hlG),by rw [h.2]; exact Nat.zero_le _⟩) ?_ ?_
  ·rintro i y acc G' ys Nx hN hx hy ⟨sm,rfl⟩
   obtain ⟨y1,y2,rfl⟩:=k6 hy
   obtain ⟨q,a',hq,rfl,hsq⟩:=zDQ rp3 hx
   have hsq':zZ K G' a' [sv q.1,.int q.2]:=sm.seqT (sqX sx hsq)
   have hmem:=(row.mem q.1 q.2).mp (List.mem_of_getElem? hq)
   refine ⟨a',_,rfl,hsq',rfl,_,_,rfl,_,_,rfl,rfl,?_⟩
   have hpkG':G' pk=some (.lst ((pks.map tx).map V.str)):=by rw [sm _ _ hpkG]; unfold zF; rw [List.map_map]; rfl
   refine ⟨_,rfl,.inl ⟨rfl,_,.of hpkG'⟩,_,rfl,pk,pks.map tx,tx q.1,rfl,rfl,hpkG',?_⟩
   have ecnt:(pks.map tx).count (tx q.1)=pks.count q.1:=zQG pks q.1
   rw [ecnt]
   refine ⟨_,rfl,by show 2<=sizeLine; decide,fun p2 hp2=>?_⟩
   refine ⟨p2,_,rfl,.inr (.of zI),rfl,rfl,_,rfl,?_⟩
   have hin:gM (V.int ((pks.count q.1:Nat):Int)) [V.int 0,V.int q.2]=true:=by
    rw [hcnt]
    split
    ·show (qS (V.int 0) _ || (qS (V.int q.2) _ || false))=true
     rw [<- hmem.1]
     have:qS (V.int q.2) (V.int q.2)=true:=by show (q.2 == q.2)=true; simp
     rw [this]; simp
    ·rfl
   rw [hin]
   exact z4 (hN _ _ [_,_] rfl ⟨sm.trans (zB.upd1 hp2),rfl⟩)
  rintro acc G' ⟨sm,rfl⟩ D2 hD2
  have v1:=sm.trans (zB.upd1 (o:=.lst []) hD2)
  refine ⟨by show 0<=sizeLine; decide,fun e1 he1=>?_⟩
  have v2:=zB.upd1 (o:=.lst []) he1
  refine ⟨.list [],.list [],⟨D2,[],rfl,.of (v2 _ _ zI),rfl⟩,⟨e1,[],rfl,.of zI,rfl⟩,rfl,rfl,?_⟩
  rw [zQH]
  exact k _ ((yY.same s3 hpkH sx).trans (v1.trans v2))
end
end Kn.Dr
end
section
namespace Kn.Dr
open PySem L2 Kn
theorem zIh {α:Type}{xs:List α}{v:α} (h:xs.getLast?=some v):uW xs (-1)=some v:=by
 obtain ⟨ys,rfl⟩:=List.getLast?_eq_some_iff.mp h
 exact zKD ys v
theorem zIi {l:S} (h:l≠[]):l.drop (l.length - 1)=[l.getLast h]:=by
 obtain ⟨ys,y,rfl⟩:∃ ys y,l=ys++[y]:=⟨l.dropLast,l.getLast h,(List.dropLast_concat_getLast h).symm⟩
 simp
section
variable {P:Program}{w:World}{K:PySem.W.Frag}{mg:Str->Option Value}{base:Heap}
abbrev sDW:Stmt:=top 78
theorem zIj:FnScope ["_law_book_here", "_law_order", "_law_numbers", "_law_found", "_law_text_here", "_law_took", "_law_firsts", "_law_lasts"] ["_law_book_here", "_law_order", "_law_numbers", "_law_found"] (defScope sDW):=⟨rfl,rfl,rfl,by decide +kernel,rfl,by decide +kernel,by decide +kernel⟩
theorem zIk:(["_law_told"]:List Str).Nodup:=by decide +kernel
def zIl:Sp:=fun vs H Q _=>∃ (c nl p:Addr) (bk:List S) (o:Nat) (ns:List Nat) (x:S) (q:Nat),vs=[.ref c,.int o,.ref nl,.ref p]/\H c=some (.tup (zF bk))/\Bk bk o/\(zD o bk).length < 64/\H nl=some (.lst (zX ns))/\ns.length<=90/\(∀ n∈ns,n<=9999)/\dr (zD o bk) o [] ns 0=some (x,q)/\H p=some (.tup [sv x,.int (q:Int)]) /\
 ∀ H',zB H H'->Q (.bl true) H'
theorem zQJ {f:Addr}{fd:FuncData} (F:Fun K "_law_drawn_well" "_law_drawn_well" sDW f fd) (B:Blt mg) (cN:zO P w K mg base 1 "is_name" ["thing"] zAL) (cM:zO P w K mg base 7 "makes" ["book", "order", "name"] zER) (cD:zO P w K mg base 5 "drawn" ["book", "order", "numbers"] zEM) (cT:zO P w K mg base 6 "_law_text" ["_law_book_here", "_law_order", "_law_numbers"] zCK)
  (cF:zO P w K mg base 7 "_law_fitting" ["_law_book_here", "_law_order", "_law_wish_here", "_law_numbers"] zEU):FnOk P w K mg base zY 8 f fd ["_law_book_here", "_law_order", "_law_numbers", "_law_found"] zIl:=by
 refine F.ok zIj (fun vs H Q E h=>?_) (fun cdv A outer s H vs Q E' hr h=>?_)
 ·obtain ⟨c,nl,p,bk,o,ns,x,q,rfl,_⟩:=h; rfl
 ·obtain ⟨c,nl,p,bk,o,ns,x,q,rfl,hc,hb,h64,hnl,h90,h9,hdr,hp,k⟩:=h
  have nd:=zIj.nd
  have hu:=hr.units
  have r6:=hr.mono (j:=6) (by decide)
  have r5:=hr.mono (j:=5) (by decide)
  have r1:=hr.mono (j:=1) (by decide)
  refine ⟨_,zG (zJV (pv 3) (g6 rfl (vQ (yG (i:=4) nd rfl (Or.inl rfl)) (vQ (yG (i:=5) nd rfl (Or.inl rfl)) jE))))
   (zG (zEJ (j:=6) (N:=["_law_told"]) (caps:=[]) nd rfl (Or.inl rfl) rfl (uF (by kernel_rfl)) (gH (pv 0)) (fun cl X s H ex=>yG (i:=0) zIk rfl (Or.inl rfl)) (fun cl X s H ex=>uN) (fun cl X s H ex=>yD gL (pv 0) zH (fun _ _=>rfl)))
   (zG (zEJ (j:=7) (N:=["_law_told"]) (caps:=[]) nd rfl (Or.inl rfl) rfl (uF (by kernel_rfl)) (gH (pv 0)) (fun cl X s H ex=>yG (i:=0) zIk rfl (Or.inl rfl)) (fun cl X s H ex=>uN) (fun cl X s H ex=>yD gL (pv 0) (zBD zBF zH) (fun _ _=>rfl)))
   (zG (yI (PW.pt (uJ (vK zAY (yD gL (pv 4) zH (fun _ _=>rfl)) (pv 6) (by with_unfolding_all rfl)) (uJ (vK zAY (yD gL (pv 4) (zBD zBF zH) (fun _ _=>rfl)) (pv 7) (by with_unfolding_all rfl))
     (uS (vK zAS (pv 5) (zR yW (yA jG (by rfl) B.len PySem.boot_len (zL (pv 4) zC)) zH) (y9 _)))))) (zE (zP vJ)) yH)
   (zG (yI (PW.pt (zEZ (yV (zK cN r1 rfl (zL (pv 4) zC))) (zEY (yS (yV (zK cM hr rfl (zL (pv 0) (zL (pv 1) (zL (pv 4) zC))))))))) (zE (zP vJ)) yH)
   (zG (yI (PW.pt (uJ (vK (zBM hu) (zK cD r5 rfl (zL (pv 0) (zL (pv 1) (zL (zR zFK (zBH zCX (pv 2) kR (jQ (pv 5))) (uV (zL zH zC))) zC)))) (pv 3) (y9 _))
     (uS (vK zCU (zK cT r6 rfl (zL (pv 0) (zL (pv 1) (zL (zBH zCX (pv 2) kR (jQ (zR zEe (pv 5) zH))) zC)))) gF (y9 _))))) (zE (zP vJ)) yH)
   (zE (zP (zEa (qZ zCT (yA jG (by rfl) B.len PySem.boot_len (zL (pv 4) zC)) zH (y9 _)) (gG (qZ (zAd hu) (zK cF hr rfl (zL (pv 0) (zL (pv 1) (zL (zEI 3 _ (kM 1 8 [] [] [] true) (by kernel_rfl)) (zL (pv 2) zC))))) (pv 3) (y9 _))))))))))),?_⟩
  have isb:=hb.toisBk
  have hal:=vH.nil (o:=o) (zCI isb)
  have hch:=zEN isb _ _ _ _ _ hal (by simp) hdr
  have hdl:=zAo _ _ _ _ _ hal hdr
  simp only [List.length_nil] at hdl
  have hmade:=zET _ _ _ _ _ hal (by rw [zHD]; simp) hdr
  have lay0:=zEP (r:=some (x,q)) fun x' q' e=>by cases e; exact hch
  obtain ⟨n0,ms,rfl⟩:∃ n ms,ns=n::ms:=by
   cases ns with
   | nil=>cases hdr
   | cons n ms=>exact ⟨n,ms,rfl⟩
  obtain ⟨ch,hck,hcm⟩:=zIZ hb n0
  obtain ⟨u,hxu⟩:∃ u,x=ch::u:=by
   have h1:=hdr
   rw [gD,show zQ ([]:S) o=[] by simp [zQ],if_neg (by rw [hck]; simp),hck] at h1
   obtain ⟨u,h2⟩:=zES _ _ _ _ _ _ _ h1
   exact ⟨u,h2⟩
  have hxn:x≠[]:=by rw [hxu]; simp
  obtain ⟨lc,hlc⟩:∃ lc,x.getLast?=some lc:=⟨_,List.getLast?_eq_some_getLast hxn⟩
  obtain ⟨y1,hy1,hy1c⟩:=zPt hb hcm
  obtain ⟨y2,hy2,hy2c⟩:=zPu hb hxn (hmade _ (by rw [zAJ]; simp))
  rw [hlc] at hy2c
  have hx0:uW (tx x).cps.toList 0=some ch:=by rw [vM,hxu]; exact jF (j:=0) rfl
  have hxL:uW (tx x).cps.toList (-1)=some lc:=by rw [vM]; exact zIh hlc
  have hxs:(tx x).length<=sizeLine:=by rw [yJ,sizeLine_eq]; omega
  refine ⟨_,rfl,p,_,rfl,.of hp,rfl,_,_,rfl,_,_,rfl,rfl,?_⟩
  refine ⟨_,rfl,c,rfl,⟨_,.of hc⟩,?_⟩
  have bl:(zF bk).length=bk.length:=by unfold zF; rw [List.length_map]
  have b8:=hb.hi
  refine uY (gQ K c (zF bk)) [] 1 (by omega) (fun i acc H'=>zB H H'/\acc=zF ((bk.take i).map fun y=>y.take 1)) ⟨zB.refl _,rfl⟩ (fun i acc H' _ h=>⟨.of (h.1 _ _ hc),by rw [h.2]; unfold zF; rw [List.length_map,List.length_map,List.length_take]; omega⟩) ?_ ?_
  ·rintro i y acc H' ys Nx hN hx hy ⟨sm,rfl⟩
   obtain ⟨y',rfl⟩:=qI hy
   obtain ⟨z,hz,rfl⟩:=zAs hx
   have hzm:=isb.nm z (List.mem_of_getElem? hz)
   have z1:=hzm.1; have z8:=hzm.2.1
   refine ⟨_,rfl,tx z,0,z[0]'(by omega),rfl,rfl,by rw [yJ,sizeLine_eq]; omega,by rw [vM]; exact jF (j:=0) (List.getElem?_eq_getElem (by omega)),hN _ _ [_] rfl ⟨sm,?_⟩⟩
   rw [jC hz]
   unfold zF
   rw [List.map_append,List.map_append]
   congr 1
   show [V.str _]=[sv (z.take 1)]
   cases z with
   | nil=>simp at z1
   | cons d z=>rfl
  rintro acc H1 ⟨s1,rfl⟩ D1 hD1
  rw [bl,List.take_length]
  have t1:=s1.trans (zB.upd1 (o:=.lst (zF (bk.map fun y=>y.take 1))) hD1)
  have hD11:upd H1 D1 (.lst (zF (bk.map fun y=>y.take 1))) D1=some (.lst (zF (bk.map fun y=>y.take 1))):=zI
  generalize upd H1 D1 (.lst (zF (bk.map fun y=>y.take 1)))=H2 at t1 hD11
  refine ⟨_,rfl,c,rfl,⟨_,.of (t1 _ _ hc)⟩,?_⟩
  refine uY (gQ K c (zF bk)) [] 1 (by omega) (fun i acc H'=>zB H2 H'/\acc=zF ((bk.take i).map fun y=>y.drop (y.length - 1))) ⟨zB.refl _,rfl⟩ (fun i acc H' _ h=>⟨.of (h.1 _ _ (t1 _ _ hc)),by rw [h.2]; unfold zF; rw [List.length_map,List.length_map,List.length_take]; omega⟩) ?_ ?_
  ·rintro i y acc H' ys Nx hN hx hy ⟨sm,rfl⟩
   obtain ⟨y',rfl⟩:=qI hy
   obtain ⟨z,hz,rfl⟩:=zAs hx
   have hzm:=isb.nm z (List.mem_of_getElem? hz)
   have z1:=hzm.1; have z8:=hzm.2.1
   have hzn:z≠[]:=fun e=>by rw [e] at z1; simp at z1
   refine ⟨_,rfl,_,rfl,tx z,-1,z.getLast hzn,rfl,rfl,by rw [yJ,sizeLine_eq]; omega,by rw [vM]; exact zIh (List.getLast?_eq_some_getLast hzn),hN _ _ [_] rfl ⟨sm,?_⟩⟩
   rw [jC hz]
   unfold zF
   rw [List.map_append,List.map_append]
   congr 1
   show [V.str _]=[sv (z.drop (z.length - 1))]
   rw [zIi hzn]
  rintro acc H3 ⟨s3,rfl⟩ D2 hD2
  rw [bl,List.take_length]
  have t3:=s3.trans (zB.upd1 (o:=.lst (zF (bk.map fun y=>y.drop (y.length - 1)))) hD2)
  have hD22:upd H3 D2 (.lst (zF (bk.map fun y=>y.drop (y.length - 1)))) D2=some (.lst (zF (bk.map fun y=>y.drop (y.length - 1)))):=zI
  generalize upd H3 D2 (.lst (zF (bk.map fun y=>y.drop (y.length - 1))))=H4 at t3 hD22
  have t4:=t1.trans t3
  have hin1:[ch]∈bk.map fun y=>y.take 1:=List.mem_map.mpr ⟨y1,hy1,by
   cases y1 with
   | nil=>cases hy1c
   | cons d y=>cases hy1c; rfl⟩
  have hin2:[lc]∈bk.map fun y=>y.drop (y.length - 1):=List.mem_map.mpr ⟨y2,hy2,by
   have hn2:y2≠[]:=fun e=>by rw [e] at hy2c; cases hy2c
   show y2.drop (y2.length - 1)=[lc]
   rw [zIi hn2]
   rw [List.getLast?_eq_some_getLast hn2] at hy2c
   rw [Option.some.inj hy2c]⟩
  refine ⟨_,rfl,tx x,0,ch,rfl,rfl,hxs,hx0,_,rfl,D1,_,rfl,.inl (.of (t3 _ _ hD11)),rfl,zAu _,_,rfl,?_⟩
  rw [show gM (V.str ⟨#[ch]⟩) (zF (bk.map fun y=>y.take 1))=decide ([ch]∈bk.map fun y=>y.take 1) from zAt [ch] _]
  refine uM hin1 ?_
  refine ⟨_,rfl,_,rfl,tx x,-1,lc,rfl,rfl,hxs,hxL,_,rfl,D2,_,rfl,.inl (.of hD22),rfl,zAu _,_,rfl,?_⟩
  rw [show gM (V.str ⟨#[lc]⟩) (zF (bk.map fun y=>y.drop (y.length - 1)))=decide ([lc]∈bk.map fun y=>y.drop (y.length - 1)) from zAt [lc] _]
  refine uM hin2 ?_
  refine ⟨_,rfl,_,rfl,tx x,rfl,hxs,_,_,rfl,rfl,rfl,_,rfl,uM (by rw [yJ]; congr 1; omega) ?_⟩
  have hsx:uA 5 (.str (tx x)):=zEK (fun c hc=>(hch c hc).2) (by omega)
  refine ⟨_,rfl,sv x,.str (tx x),rfl,rfl,hsx.1,fun H5 s5=>⟨_,rfl,?_⟩⟩
  have t5:=t4.trans s5
  apply zIP (C:=fun G=>zB H5 G)
  case main =>
   intro cont
   cases en:yM (.str (tx x)) with
   | false=>exact z4 (z4 (cont H5 (zB.refl _)))
   | true =>
    obtain ⟨y,e1,hy⟩:=zAp en
    have e2:=qJ (PyData.str.inj e1)
    rw [<- e2] at hy
    refine yB ⟨_,rfl,_,rfl,_,rfl,c,bk,o,x,rfl,t5 _ _ hc,hb,hy,fun H6 s6=>⟨_,rfl,?_⟩⟩
    rw [decide_eq_true (zHF.mpr hmade)]
    exact z4 (cont H6 s6)
  case cont =>
   intro H6 s6
   have t6:=t5.trans s6
   have hnl6:=t6 _ _ hnl
   have hp6:=t6 _ _ hp
   have hc6:=t6 _ _ hc
   refine ⟨_,rfl,_,rfl,_,rfl,_,rfl,_,rfl,nl,_,rfl,.of hnl6,fun cu hcu=>?_⟩
   have u1:=zB.upd1 (o:=.lst (vU (zX (n0::ms)) none (some (q:Int)))) hcu
   refine ⟨by show 1<=sizeLine; decide,fun l9 hl9=>?_⟩
   have u2:=u1.trans (zB.upd1 (o:=.lst [V.int 9]) hl9)
   have hcu1:upd (upd H6 cu (.lst (vU (zX (n0::ms)) none (some (q:Int))))) l9 (.lst [V.int 9]) cu=some (.lst (zX ((n0::ms).take q))):=(zB.upd1 hl9) _ _ (by rw [zI,zEQ])
   refine ⟨cu,l9,_,_,rfl,rfl,hcu1,zI,by rw [gC,List.length_take,sizeLine_eq]; show _+1<=_; omega,fun l8 hl8=>?_⟩
   have u3:=u2.trans (zB.upd1 (o:=.lst (zX ((n0::ms).take q)++[V.int 9])) hl8)
   have e9:zX ((n0::ms).take q)++[V.int 9]=zX ((n0::ms).take q++[9]):=by rw [<- zIO]; rfl
   have hl88:upd (upd (upd H6 cu (.lst (vU (zX (n0::ms)) none (some (q:Int))))) l9 (.lst [V.int 9])) l8 (.lst (zX ((n0::ms).take q)++[V.int 9])) l8=some (.lst (zX ((n0::ms).take q++[9]))):=by rw [zI,e9]
   refine ⟨c,.ref l8,bk,o,(n0::ms).take q++[9],x,q,rfl,u3 _ _ hc6,hb,h64,⟨l8,rfl,.inl hl88⟩,by rw [List.length_append,List.length_take]; show _+1<=_; omega,fun n hn=>?_,zHJ _ _ _ _ _ _ _ (zDV _ _ _ _ _ _ _ _ hdr (by omega)),fun p2 G2 s2 hp2n hp2=>?_⟩
   ·rcases List.mem_append.mp hn with z | z
    ·exact h9 n (List.mem_of_mem_take z)
    ·have:=List.mem_singleton.mp z; omega
   have u4:=u3.trans s2
   refine ⟨_,rfl,uR (some (x,q)),uR (some (x,q)),qY.rep ⟨p2,rfl,hp2⟩,qY.rep ⟨p,rfl,u4 _ _ hp6⟩,lay0.2,lay0.2,_,rfl,zBo lay0.1 ?_⟩
   refine ⟨_,rfl,_,rfl,_,rfl,_,rfl,_,_,rfl,rfl,_,rfl,nl,_,rfl,.of (u4 _ _ hnl6),fun cv hcv=>?_⟩
   have eq1:(q:Int) - 1=((q - 1:Nat):Int):=by omega
   have u5:=u4.trans (zB.upd1 (o:=.lst (vU (zX (n0::ms)) none (some ((q:Int) - 1)))) hcv)
   have hcv1:upd G2 cv (.lst (vU (zX (n0::ms)) none (some ((q:Int) - 1)))) cv=some (.lst (zX ((n0::ms).take (q - 1)))):=by rw [zI,eq1,zEQ]
   refine ⟨c,.ref cv,bk,o,(n0::ms).take (q - 1),rfl,u5 _ _ hc6,hb,h64,⟨cv,rfl,.inl hcv1⟩,by rw [List.length_take]; omega,fun n hn=>h9 n (List.mem_of_mem_take hn),jV.of fun ov G3 s3' hov=>?_⟩
   rw [zHK _ _ _ _ _ _ _ _ hdr (by omega)] at hov
   cases (show ov=.non from hov)
   refine ⟨rfl,_,rfl,uM rfl ?_⟩
   have u6:=u5.trans s3'
   refine ⟨_,rfl,tx x,rfl,hxs,_,_,rfl,rfl,_,rfl,?_⟩
   by_cases h8:(8:Int) < ((tx x).length:Int)
   ·exact uZ h8 (k _ (t6.trans u6))
   ·refine jA h8 ?_
    rw [yJ] at h8
    refine ⟨_,rfl,_,rfl,fun v7 G7 s7 hv7=>?_⟩
    obtain ⟨pe,rfl,hw7⟩:=zDq hv7
    have u7:=u6.trans s7
    have gw8:GW 1 8 [] [] []:=⟨by decide,by decide,by decide,.inl rfl,.inl rfl,by decide,by simp,rfl⟩
    have hnx:yK x:=⟨by rw [hxu]; simp,by omega,hch⟩
    refine ⟨_,rfl,c,pe,.ref nl,bk,o,1,8,[],[],[],true,n0::ms,rfl,u7 _ _ hc6,hb,h64,hw7,gw8,⟨nl,rfl,.inl (u7 _ _ hnl6)⟩,by omega,h9,jV.of fun v8 G8 s8 hv8=>?_⟩
    have e1:yX (zD o bk) o (v9 bk 1 8 [] [] [] true) (n0::ms) ((n0::ms).length+1) 0=some (x,q):=by
     unfold yX
     rw [List.drop_zero,hdr]
     show (if v9 bk 1 8 [] [] [] true x then _ else _)=_
     rw [if_pos (zPg hnx)]
    rw [e1] at hv8
    have u8:=u7.trans s8
    refine ⟨_,rfl,uR (some (x,q)),uR (some (x,q)),hv8.rep,qY.rep ⟨p,rfl,u8 _ _ hp6⟩,lay0.2,lay0.2,?_⟩
    rw [zBN _ lay0.1]
    exact k _ (t6.trans u8)
end
end Kn.Dr
end
section
namespace Kn.Dr
open PySem L2 Kn
section
variable {P:Program}{w:World}{K:PySem.W.Frag}{mg:Str->Option Value}{base:Heap}
structure LawC (P:Program) (w:World) (K:PySem.W.Frag) (mg:Str->Option Value) (base:Heap):Prop where
 dr:zO P w K mg base 2 "_law_drawn" ["_law_script", "_law_k", "_law_many"] (zBn K)
 bk:zO P w K mg base 4 "_law_book" ["_law_script", "_law_at", "_law_many", "_law_most"] (zGv K)
 ws:zO P w K mg base 3 "_law_wish" ["_law_script", "_law_at"] (zIB K)
 tx:zO P w K mg base 6 "_law_text" ["_law_book_here", "_law_order", "_law_numbers"] zCK
 fg:zO P w K mg base 7 "_law_fitting" ["_law_book_here", "_law_order", "_law_wish_here", "_law_numbers"] zEU
 pf:zO P w K mg base 7 "_law_picks_fit" ["_law_book_here", "_law_order"] zIg
 dw:zO P w K mg base 8 "_law_drawn_well" ["_law_book_here", "_law_order", "_law_numbers", "_law_found"] zIl
 nf:zO P w K mg base 5 "numbers_for" ["book", "order", "name"] zIL
 ft:zO P w K mg base 5 "fits" ["book", "wish", "name"] zIM
 dn:zO P w K mg base 5 "drawn" ["book", "order", "numbers"] zEM
 bh:zO P w K mg base 4 "behind" ["book", "order", "text"] (zDO K)
 mks:zO P w K mg base 7 "makes" ["book", "order", "name"] zER
def zAz (K:PySem.W.Frag):Sp:=fun vs H Q _=>∃ (a:Addr) (ns:List Int),vs=[.ref a]/\yC K H a (ns.map V.int)/\ns.length<=63/\∀ H',Q (.bl true) H'
abbrev jW:Stmt:=top 79
theorem zIm:FnScope ["_law_script", "_law_book_here", "_law_order", "_law_wish_here", "_law_name_here", "_law_numbers", "_law_raised", "_law_size", "_law_number", "_law_some", "_law_found", "_law_told"] ["_law_script"] (defScope jW):=⟨rfl,rfl,rfl,by decide +kernel,rfl,by decide +kernel,by decide +kernel⟩
theorem zQK:(["_law_script", "_law_k"]:List Str).Nodup:=by decide +kernel
theorem zIn:(["_law_letter", "_law_many"]:List Str).Nodup:=by decide +kernel
theorem zQL {f:Addr}{fd:FuncData} (F:Fun K "law" "law" jW f fd) (B:Blt mg) (hen:mg "enumerate" = none) (C:LawC P w K mg base):FnOk P w K mg base zY 9 f fd ["_law_script"] (zAz K):=by
 refine F.ok zIm (fun vs H Q E h=>?_) (fun cdv A outer s H vs Q E hr h=>?_)
 ·obtain ⟨a,ns,rfl,_⟩:=h; rfl
 ·obtain ⟨a,ns,rfl,ha,hl,k⟩:=h
  have nd:=zIm.nd
  have hu:=hr.units
  have r7:=hr.mono (j:=7) (by decide)
  have r6:=hr.mono (j:=6) (by decide)
  have r5:=hr.mono (j:=5) (by decide)
  have r4:=hr.mono (j:=4) (by decide)
  have r3:=hr.mono (j:=3) (by decide)
  have r2:=hr.mono (j:=2) (by decide)
  refine ⟨_,zG (z9 (i:=1) nd rfl (Or.inl rfl) (zK C.bk r4 rfl (zL (pv 0) (zL zH (zL zH (zL zH zC))))))
   (zG (z9 (i:=2) nd rfl (Or.inl rfl) (zR yW zH (zK C.dr r2 rfl (zL (pv 0) (zL zH (zL zH zC))))))
   (zG (z9 (i:=3) nd rfl (Or.inl rfl) (zK C.ws r3 rfl (zL (pv 0) (zL zH zC))))
   (zG (z9 (i:=4) nd rfl (Or.inl rfl) (yD yT (pv 1) (zK C.dr r2 rfl (zL (pv 0) (zL zH (zL (yA jR (by rfl) B.len PySem.boot_len (zL (pv 1) zC)) zC)))) (fun _ _=>rfl)))
   (zG (z9 (i:=5) nd rfl (Or.inl rfl) (zK C.nf r5 rfl (zL (pv 1) (zL (pv 2) (zL (pv 4) zC)))))
   (zG (yI (vK (zBM hu) (zK C.dn r5 rfl (zL (pv 1) (zL (pv 2) (zL (pv 5) zC)))) (uK (zL (pv 4) (zL (zR yW (yA jG (by rfl) B.len PySem.boot_len (zL (pv 4) zC)) zH) zC))) (y9 _)) (zE (zP vJ)) yH)
   (zG (yI (vK (zBM hu) (zK C.dn r5 rfl (zL (pv 1) (zL (pv 2) (zL (zR zHe (zBG zFF (by rfl) B.tuple PyProof.Rows.boot_tuple (zL (pv 5) zC)) (uK (zL zH zC))) zC)))) (uK (zL (pv 4) (zL (zR yW (yA jG (by rfl) B.len PySem.boot_len (zL (pv 4) zC)) zH) zC))) (y9 _)) (zE (zP vJ)) yH)
   (zG (z9 (i:=6) nd rfl (Or.inl rfl) (uV zC))
   (zG (jO PassesOwn.never rfl (zFx rfl hen (zL (pv 5) zC)) (g6 rfl (vQ (yG (i:=7) nd rfl (Or.inl rfl)) (vQ (yG (i:=8) nd rfl (Or.inl rfl)) jE)))
     (zE (vD (jH PySem.F.plainAttrs_list PySem.F.slot_list_append PySem.F.type_list_append zBI (pv 6) (zL (zR yW (pv 8) (yA (zFr rfl) (by rfl) B.sum PyProof.Rows.boot_sum (zL
      (qH (N:=["_law_letter", "_law_many"]) (caps:=[]) rfl (uF (by kernel_rfl)) (j6 (zK C.bh r4 rfl (zL (pv 1) (zL (pv 2) (zL (zAf (pv 4) kR (jQ (pv 7))) zC)))))
       (fun cl X s H ex=>zAI K 2 rfl rfl (vQ (yG (i:=0) zIn rfl (Or.inl rfl)) (vQ (yG (i:=1) zIn rfl (Or.inl rfl)) jE)) rfl rfl) (fun cl X s H ex=>uN) (fun cl X s H ex=>pv 1)) zC))) zC)))))
   (zG (yI (vK (zBM hu) (zK C.dn r5 rfl (zL (pv 1) (zL (pv 2) (zL (pv 6) zC)))) (uK (zL (pv 4) (zL (zR yW (yA jG (by rfl) B.len PySem.boot_len (zL (pv 4) zC)) zH) zC))) (y9 _)) (zE (zP vJ)) yH)
   (zG (yI (yS (yV (zK C.pf r7 rfl (zL (pv 1) (zL (pv 2) zC))))) (zE (zP vJ)) yH)
   (zG (zEJ (j:=9) (N:=["_law_script", "_law_k"]) (caps:=[0]) nd rfl (Or.inl rfl) rfl (uF (by kernel_rfl)) (zAR rfl B.range (zL (zK C.dr r2 rfl (zL (pv 0) (zL zH (zL zH zC)))) zC))
     (fun cl X s H ex=>yG (i:=1) zQK rfl (Or.inl rfl)) (fun cl X s H ex=>uN)
     (fun cl X s H ex=>zK C.dr r2 rfl (zL (pv 0) (zL (zR yW zH (pv 1)) (zL zH zC)))))
   (zG (z9 (i:=10) nd rfl (Or.inl rfl) (zK C.tx r6 rfl (zL (pv 1) (zL (pv 2) (zL (pv 9) zC)))))
   (zG (yI (PW.pt (zEZ (vK zCU (pv 10) gF (y9 _)) (zEY (yS (yV (zK C.dw hr rfl (zL (pv 1) (zL (pv 2) (zL (pv 9) (zL (pv 10) zC)))))))))) (zE (zP vJ)) yH)
   (zG (z9 (i:=11) nd rfl (Or.inl rfl) (zK C.fg r7 rfl (zL (pv 1) (zL (pv 2) (zL (pv 3) (zL (pv 9) zC))))))
   (zG (yI (vK zJk (pv 11) gF (y9 _)) (zE (zP vJ)) yH)
   (zG (yI (PW.pt (uJ (yS (yV (zK C.ft r5 rfl (zL (pv 1) (zL (pv 3) (zL (yD yT (pv 11) zH (fun _ _=>rfl)) zC)))))) (uS (yS (yV (zK C.mks r7 rfl (zL (pv 1) (zL (pv 2) (zL (yD yT (pv 11) zH (fun _ _=>rfl)) zC))))))))) (zE (zP vJ)) yH)
   (zE (zP (qZ (zAd hu) (zK C.fg r7 rfl (zL (pv 1) (zL (pv 2) (zL (pv 3) (zL (zBH zCX (pv 9) kR (jQ (yD yT (pv 11) zH (fun _ _=>rfl)))) zC))))) (pv 11) (y9 _)))))))))))))))))))),?_⟩
  refine ⟨_,rfl,a,ns,0,4,4,rfl,ha,hl,by decide,by decide,by decide,by decide,fun b bk H1 s1 hb1 bl1 bl2 bn=>?_⟩
  refine ⟨_,rfl,a,ns,50,3,rfl,s1.seq ha,hl,by decide,by decide,fun d2 H2 hd2 s2'=>⟨_,_,rfl,rfl,?_⟩⟩
  have s2:=s1.trans s2'
  obtain ⟨o,ho,o1,o3⟩:∃ o:Nat,(1:Int)+(d2:Int)=(o:Int)/\1<=o/\o<=3:=⟨1+d2,by omega,by omega,by omega⟩
  dsimp only
  rw [ho]
  refine ⟨_,rfl,a,ns,60,rfl,s2.seq ha,hl,fun pw lo hi hd tl ba to H3 s3' gw hw=>?_⟩
  have s3:=s2.trans s3'
  have isb:isBk bk:=⟨bl1,by omega,fun x hx=>(bn x hx).1⟩
  have hB:Bk bk o:=⟨isb,o1,o3⟩
  have p64:(zD o bk).length < 64:=by
   have:=zMm (o:=o) (bk:=bk) fun x hx=>(bn x hx).2
   omega
  have hb3:=s3' _ _ (s2' _ _ hb1)
  have bl:(zF bk).length=bk.length:=by unfold zF; rw [List.length_map]
  refine ⟨_,rfl,_,rfl,_,rfl,b,_,rfl,.inr (.of hb3),a,ns,51,bk.length,by rw [bl]; rfl,s3.seq ha,hl,by omega,by omega,fun d4 H4 hd4 s4'=>?_⟩
  have s4:=s3.trans s4'
  obtain ⟨x0,hx0⟩:∃ x,bk[d4]?=some x:=⟨_,List.getElem?_eq_getElem hd4⟩
  have hx0m:=List.mem_of_getElem? hx0
  obtain ⟨x01,x04⟩:=bn x0 hx0m
  have hb0:(zF bk)[d4]?=some (sv x0):=by unfold zF; rw [List.getElem?_map,hx0]; rfl
  have hb4:=s4' _ _ hb3
  have hw4:=hw.same s4'
  refine ⟨b,_,(d4:Int),sv x0,rfl,rfl,.of hb4,jF hb0,?_⟩
  have x08:=x01.2.1
  have hall:=told_all (o:=o) hx0m
  refine ⟨_,rfl,_,rfl,_,rfl,b,bk,o,x0,rfl,hb4,hB,p64,x01,hall,fun nl H5 s5' hnln hnl=>?_⟩
  have s5:=s4.trans s5'
  have hb5:=s5' _ _ hb4
  have hw5:=hw4.same s5'
  have hnn:=zPh p64 (zN o x0) hall
  have hlen:(v6 (zD o bk) (zN o x0)).length=x0.length+1:=by unfold v6; rw [List.length_map,qU]
  have hdr1:=zHN [] hall
  have hdr2:=zHN [7] hall
  rw [List.append_nil] at hdr1
  have ha5:=s5.seq ha
  clear hw hw4 hb4 hb3 hb1 s5' s4' s3' s2' s5 s4 s3 s2 s1 ha hnln
  have lay0:=zEP (r:=some (x0,x0.length+1)) fun x q e=>by cases e; exact x01.2.2
  have tup0:∀ {G:Hp} {p:Addr},upd G p (.tup [sv x0,.int (((tx x0).length:Int)+1)]) p=some (.tup [sv x0,.int ((x0.length+1:Nat):Int)]):=by intro G p; rw [zI,yJ]; rfl
  have len0:(tx x0).length<=sizeLine:=by rw [yJ,sizeLine_eq]; omega
  refine ⟨_,rfl,_,rfl,_,rfl,b,.ref nl,bk,o,_,x0,x0.length+1,rfl,hb5,hB,p64,⟨nl,rfl,.inl hnl⟩,by omega,hnn,hdr1,fun p1 G1 u1 hp1n hp1=>?_⟩
  refine ⟨_,rfl,_,rfl,tx x0,rfl,len0,_,_,rfl,rfl,by show 2<=sizeLine; decide,fun p2 hp2=>?_⟩
  have t1:=zB.upd1 (o:=.tup [sv x0,.int (((tx x0).length:Int)+1)]) hp2
  refine ⟨uR (some (x0,x0.length+1)),uR (some (x0,x0.length+1)),qY.rep ⟨p1,rfl,t1 _ _ hp1⟩,qY.rep ⟨p2,rfl,tup0⟩,lay0.2,lay0.2,_,rfl,zBo lay0.1 ?_⟩
  have v1:=u1.trans t1
  generalize upd G1 p2 (.tup [sv x0,.int (((tx x0).length:Int)+1)])=G2 at v1
  clear t1 hp2 hp1 hp1n u1
  refine ⟨_,rfl,_,rfl,_,rfl,nl,_,rfl,.inl ⟨.of (v1 _ _ hnl),fun pt hpt=>?_⟩⟩
  have v2:=v1.trans (zB.upd1 (o:=.tup (zX (v6 (zD o bk) (zN o x0)))) hpt)
  refine ⟨by show 1<=sizeLine; decide,fun p7 hp7=>?_⟩
  have v3:=v2.trans (zB.upd1 (o:=.tup [V.int 7]) hp7)
  refine ⟨pt,p7,_,_,rfl,rfl,(zB.upd1 hp7) _ _ zI,zI,by rw [gC,sizeLine_eq]; show _+1<=_; omega,fun p8 G3 w3 hp8=>?_⟩
  have v4:=v3.trans w3
  have e7:zX (v6 (zD o bk) (zN o x0))++[V.int 7]=zX (v6 (zD o bk) (zN o x0)++[7]):=by rw [<- zIO]; rfl
  rw [e7] at hp8
  refine ⟨b,.ref p8,bk,o,_,x0,x0.length+1,rfl,v4 _ _ hb5,hB,p64,⟨p8,rfl,.inr hp8⟩,by rw [List.length_append]; show _+1<=_; omega,fun n hn=>?_,hdr2,fun p1 G4 u1 hp1n hp1=>?_⟩
  ·rcases List.mem_append.mp hn with z | z
   ·exact hnn n z
   ·have:=List.mem_singleton.mp z; omega
  refine ⟨_,rfl,_,rfl,tx x0,rfl,len0,_,_,rfl,rfl,by show 2<=sizeLine; decide,fun p2 hp2=>?_⟩
  have t1:=zB.upd1 (o:=.tup [sv x0,.int (((tx x0).length:Int)+1)]) hp2
  refine ⟨uR (some (x0,x0.length+1)),uR (some (x0,x0.length+1)),qY.rep ⟨p1,rfl,t1 _ _ hp1⟩,qY.rep ⟨p2,rfl,tup0⟩,lay0.2,lay0.2,_,rfl,zBo lay0.1 ?_⟩
  have v5:=v4.trans (u1.trans t1)
  generalize upd G4 p2 (.tup [sv x0,.int (((tx x0).length:Int)+1)])=G5 at v5
  clear t1 hp2 hp1 hp1n u1 v4 w3 hp8 v3 hp7 v2 hpt v1
  have hb6:=v5 _ _ hb5
  have hw6:=hw5.same v5
  have hnl6:=v5 _ _ hnl
  have ha6:=v5.seq ha5
  clear v5 hb5 hw5 hnl ha5
  refine ⟨by show 0<=sizeLine; decide,fun rl hrl=>?_⟩
  have t2:=zB.upd1 (o:=.lst []) hrl
  have hrl2:upd G5 rl (.lst []) rl=some (.lst (zX [])):=zI
  have hb7:=t2 _ _ hb6
  have hw7:=hw6.same t2
  have hnl7:=t2 _ _ hnl6
  have ha7:=t2.seq ha6
  generalize upd G5 rl (.lst [])=G6 at hrl2 hb7 hw7 hnl7 ha7 t2
  have hnlrl:nl≠rl:=y7 hnl6 hrl
  have hbrl:b≠rl:=y7 hb6 hrl
  have haX:∀ {G:Hp},yY rl G6 G->yC K G a (ns.map V.int):=fun {G} sx=>by
   rcases ha6 with h | h
   ·rcases h with h | ⟨ob,h⟩
    ·exact .inl (.inl (sx _ _ (y7 h hrl) (t2 _ _ h)))
    ·exact .inl (.inr ⟨ob,sx _ _ (y7 h hrl) (t2 _ _ h)⟩)
   ·exact .inr h
  clear t2 hrl hnl6 hb6 hw6 ha6 ha7
  refine ⟨_,rfl,nl,_,rfl,hnl7,?_⟩
  refine zFy (K:=K) (xs:=zX (v6 (zD o bk) (zN o x0))) (fun i σ G=>∃ x7 x8:Option V,σ=[some (.ref a),some (.ref b),some (.int (o:Int)),some (.ref pw),some (sv x0),some (.ref nl),some (.ref rl),x7,x8,none,none,none]/\yY rl G6 G/\G rl=some (.lst (zX (((zN o x0).take i).map fun q=>(pot (zD o bk) q.1).idxOf q.2+(pot (zD o bk) q.1).length))))
   ⟨_,_,rfl,yY.refl _,hrl2⟩ (fun i σ G _ h=>by obtain ⟨_,_,_,h,_⟩:=h; exact .of (h _ _ hnlrl hnl7)) ?_ ?_
  ·rintro i y T σ G Nx hN hy ⟨x7,x8,rfl,sx,hrlG⟩ hT
   unfold zX v6 at hy
   rw [List.map_map] at hy
   obtain ⟨pq,hpq,rfl⟩:=gU hy
   have hi:i < x0.length+1:=by have:=(List.getElem?_eq_some_iff.mp hpq).1; rwa [qU] at this
   have hpe:pq=(zQ (x0.take i) o,(x0.drop i).take 1):=by
    have h1:=hpq
    unfold zN at h1
    rw [List.getElem?_map,List.getElem?_range hi] at h1
    exact (Option.some.inj h1).symm
   have t3:=zB.upd1 (o:=.tup [.int (i:Int),V.int (((pot (zD o bk) pq.1).idxOf pq.2:Nat):Int)]) hT
   refine ⟨T,_,rfl,.of zI,rfl,_,_,rfl,_,_,rfl,rfl,?_⟩
   have hbG:=t3 _ _ (sx _ _ hbrl hb7)
   have hrlG3:=t3 _ _ hrlG
   have hNE:NE (x0.take i):=by
    by_cases h0:x0.take i=[]
    ·exact .inl h0
    ·have h1:(x0.take i).length≠0:=fun z=>h0 (List.length_eq_zero_iff.mp z)
     exact .inr ⟨by omega,by rw [List.length_take]; omega,fun c hc=>x01.2.2 c (List.mem_of_mem_take hc)⟩
   refine ⟨_,rfl,.inl ⟨rfl,_,.of hrlG3⟩,_,rfl,_,rfl,_,rfl,_,rfl,_,rfl,_,rfl,tx x0,rfl,len0,b,bk,o,x0.take i,by rw [zGO]; rfl,hbG,hB,hNE,p64,fun rs l xs G7 row s7 hln hll rp=>?_⟩
   have hxl:xs.length=rs.length:=by have:=rp.length; simpa using this.symm
   have hrl':rs.length < 64:=by have:=row.len; omega
   refine ⟨l,rfl,⟨_,.of hll⟩,?_⟩
   refine uY (kD K l xs) [] 2 (by omega) (fun i acc H'=>zB G7 H'/\acc=((rs.take i).map (·.2)).map V.int)
    ⟨zB.refl _,rfl⟩ (fun i acc H' _ h=>⟨.of (h.1 _ _ hll),by rw [h.2,List.length_map,List.length_map,List.length_take]; omega⟩) ?_ ?_
   ·rintro j y acc H' ys Nx2 hN2 hx hy2 ⟨sm,rfl⟩
    obtain ⟨y1,y2,rfl⟩:=k6 hy2
    obtain ⟨q,a',hq,rfl,hsq⟩:=zDQ (Reps.same sm _ _ rp) hx
    refine ⟨a',_,rfl,hsq,rfl,_,_,rfl,_,_,rfl,rfl,?_⟩
    refine ⟨_,rfl,hN2 _ _ [_,_] rfl ⟨sm,?_⟩⟩
    rw [jC hq,List.map_append,List.map_append]; rfl
   rintro acc H' ⟨sm,rfl⟩ D hD
   rw [hxl,List.take_length]
   have t4:=sm.trans (zB.upd1 (o:=.lst ((rs.map (·.2)).map V.int)) hD)
   refine ⟨D,_,rfl,.of zI,?_⟩
   have htot:(rs.map (·.2)).sum=((pot (zD o bk) pq.1).length:Int):=by
    rw [row.total,gW,hpe]; rfl
   rw [htot]
   have hrlE:=t4 _ _ (s7 _ _ hrlG3)
   have hlr:(zX (((zN o x0).take i).map fun q=>(pot (zD o bk) q.1).idxOf q.2+(pot (zD o bk) q.1).length)).length < sizeLine:=by
    rw [gC,List.length_map,List.length_take,sizeLine_eq]; omega
   refine ⟨_,_,rfl,rfl,rl,_,_,rfl,rfl,hrlE,hlr,hN _ _ ⟨_,_,rfl,(sx.trans (yY.of (t3.trans (s7.trans t4)))).updf,?_⟩⟩
   rw [zI,jC hpq]
   unfold zX
   rw [List.map_append,List.map_append]; rfl
  rintro σ G ⟨x7,x8,rfl,sx,hrlG⟩
  rw [gC,hlen] at hrlG
  have e1:(zN o x0).take (x0.length+1)=zN o x0:=by rw [<- qU o x0,List.take_length]
  rw [e1] at hrlG
  have hbG:=sx _ _ hbrl hb7
  have hwG:qW G pw lo hi hd tl ba to:=by
   obtain ⟨bb,h1,h2⟩:=hw7
   exact ⟨bb,sx _ _ (fun z=>by rw [z,hrl2] at h1; cases h1) h1,sx _ _ (fun z=>by rw [z,hrl2] at h2; cases h2) h2⟩
  have haG:=haX sx
  have hr9:∀ n∈(zN o x0).map (fun q=>(pot (zD o bk) q.1).idxOf q.2+(pot (zD o bk) q.1).length),n<=9999:=fun n hn=>by
   obtain ⟨q,hq,rfl⟩:=List.mem_map.mp hn
   have h1:=hnn _ (List.mem_map.mpr ⟨q,hq,rfl⟩)
   have h2:=List.idxOf_lt_length_iff.mpr ((kJ _ q.1 q.2).mpr (hall q hq))
   have h3:=gW (zD o bk) q.1
   have h4:=tot_le (zD o bk) q.1
   omega
  clear sx hb7 hw7 hnl7 hrl2 hnlrl hbrl haX
  refine ⟨_,rfl,_,rfl,_,rfl,b,.ref rl,bk,o,_,x0,x0.length+1,rfl,hbG,hB,p64,⟨rl,rfl,.inl hrlG⟩,by rw [List.length_map,qU]; omega,hr9,zPy hall,fun p1 G1 u1 hp1n hp1=>?_⟩
  refine ⟨_,rfl,_,rfl,tx x0,rfl,len0,_,_,rfl,rfl,by show 2<=sizeLine; decide,fun p2 hp2=>?_⟩
  have t1:=zB.upd1 (o:=.tup [sv x0,.int (((tx x0).length:Int)+1)]) hp2
  refine ⟨uR (some (x0,x0.length+1)),uR (some (x0,x0.length+1)),qY.rep ⟨p1,rfl,t1 _ _ hp1⟩,qY.rep ⟨p2,rfl,tup0⟩,lay0.2,lay0.2,_,rfl,zBo lay0.1 ?_⟩
  have v1:=u1.trans t1
  generalize upd G1 p2 (.tup [sv x0,.int (((tx x0).length:Int)+1)])=G2 at v1
  refine ⟨_,rfl,_,rfl,b,bk,o,rfl,v1 _ _ hbG,hB,p64,fun G3 s3=>⟨true,rfl,z4 ?_⟩⟩
  have v3:=v1.trans s3
  refine ⟨_,rfl,a,ns,52,31,rfl,v3.seq haG,hl,by decide,by decide,fun m H4 hm s4'=>?_⟩
  refine ⟨(m:Int),rfl,by omega,by omega,?_⟩
  have v4:=v3.trans s4'
  have hb4:=v4 _ _ hbG
  have hw4:=hwG.same v4
  have ha4:=v4.seq haG
  clear v4 s4' v3 s3 v1 hp2 t1 hp1 hp1n u1 hrlG hr9 hbG hwG haG hnn hlen hdr1 hdr2 lay0 tup0 len0
  refine uY (zAE 0 _) [some (.ref a)] 1 (by rw [List.length_map,List.length_range]; omega) (fun i acc H'=>zB H4 H'/\∃ n0:List Nat,acc=zX n0/\n0.length=i/\∀ n∈n0,n<=9999)
   ⟨zB.refl _,[],rfl,rfl,by simp⟩ (fun i acc H' _ h=>⟨trivial,by obtain ⟨_,n0,rfl,h,_⟩:=h; rw [gC]; omega⟩) ?_ ?_
  ·rintro i x acc H' ys Nx hN hx hy ⟨sm,n0,rfl,hn0,hnn⟩
   obtain ⟨y,rfl⟩:=qI hy
   obtain ⟨hi',rfl⟩:=zAj hx
   refine ⟨_,rfl,_,rfl,_,_,rfl,rfl,a,ns,100+i,50,rfl,sm.seq ha4,hl,by decide,by decide,fun d H5 hd5 s5=>hN _ _ [some (.int i)] rfl ⟨sm.trans s5,n0++[d],?_,by rw [List.length_append,hn0]; rfl,fun n hn=>?_⟩⟩
   ·unfold zX; rw [List.map_append]; rfl
   ·rcases List.mem_append.mp hn with z | z
    ·exact hnn n z
    ·have:=List.mem_singleton.mp z; omega
  rintro acc H' ⟨sm,M,rfl,hn0,hM9⟩ D hD
  have hM30:M.length<=30:=by rw [List.length_map,List.length_range] at hn0; omega
  have t5:=sm.trans (zB.upd1 (o:=.lst (zX M)) hD)
  have hD5:upd H' D (.lst (zX M)) D=some (.lst (zX M)):=zI
  generalize upd H' D (.lst (zX M))=H5 at t5 hD5
  have hb5:=t5 _ _ hb4
  have hw5:=hw4.same t5
  clear hD sm hn0 t5 hb4 hw4 ha4
  refine ⟨_,rfl,_,rfl,_,rfl,b,.ref D,bk,o,M,rfl,hb5,hB,p64,⟨D,rfl,.inl hD5⟩,by omega,hM9,jV.of fun ov H6 s6 hov=>?_⟩
  have hb6:=s6 _ _ hb5
  have hw6:=hw5.same s6
  have hD6:=s6 _ _ hD5
  clear s6 hb5 hw5 hD5
  generalize hdr:dr (zD o bk) o [] M 0=one at hov
  refine ⟨_,rfl,rfl,_,rfl,?_⟩
  apply zIP (C:=fun G2=>zB H6 G2)
  case main =>
   intro cont
   cases hone:one with
   | none =>
    rw [hone] at hov
    cases (show ov=.non from hov)
    exact uM rfl (z4 (cont H6 (zB.refl _)))
   | some r =>
    obtain ⟨x1,q1⟩:=r
    rw [hone] at hov hdr
    obtain ⟨p,rfl,hp⟩:=hov
    refine k9 (by intro z; cases z) ?_
    exact ⟨_,rfl,_,rfl,_,rfl,_,rfl,b,D,p,bk,o,M,x1,q1,rfl,hb6,hB,p64,hD6,by omega,hM9,hdr,hp,fun G2 s2=>⟨true,rfl,z4 (cont G2 s2)⟩⟩
  case cont =>
   intro G7 s7
   have hb7:=s7 _ _ hb6
   have hw7:=hw6.same s7
   have hD7:=s7 _ _ hD6
   refine ⟨_,rfl,_,rfl,_,rfl,_,rfl,b,pw,.ref D,bk,o,lo,hi,hd,tl,ba,to,M,rfl,hb7,hB,p64,hw7,gw,⟨D,rfl,.inl hD7⟩,by omega,hM9,jV.of fun tv G8 s8 htv=>?_⟩
   have hb8:=s8 _ _ hb7
   have hw8:=hw7.same s8
   have hD8:=s8 _ _ hD7
   refine ⟨_,rfl,rfl,_,rfl,?_⟩
   generalize hfe:yX (zD o bk) o (v9 bk lo hi hd tl ba to) M (M.length+1) 0=full at htv
   cases full with
   | none =>
    cases (show tv=.non from htv)
    exact uZ rfl (k _)
   | some r =>
    obtain ⟨xf,qf⟩:=r
    obtain ⟨pf,rfl,hpf⟩:=htv
    obtain ⟨hlt,hqM,hokf⟩:=zBt _ _ _ _ _ _ xf qf hfe
    have hch:=zPe isb hfe
    have hnx:yK xf:=by
     by_cases hz:1<=xf.length/\xf.length<=8
     ·exact ⟨hz.1,hz.2,hch⟩
     ·rw [zPf gw hz] at hokf; cases hokf
    obtain ⟨pp',hpd⟩:=zEO _ _ _ _ _ _ _ _ hfe
    have hmade:=zET _ _ _ _ _ (vH.nil (zCI isb)) (by rw [zHD]; simp) hpd
    have layF:=zEP (r:=some (xf,qf)) fun x q e=>by cases e; exact hch
    refine jA (by intro z; cases z) ?_
    refine ⟨_,rfl,_,rfl,_,rfl,pf,_,0,sv xf,rfl,rfl,.of hpf,rfl,b,pw,bk,lo,hi,hd,tl,ba,to,xf,rfl,hb8,isb,hw8,gw,hnx,fun G9 s9=>⟨_,rfl,?_⟩⟩
    rw [hokf]
    refine z4 ?_
    refine ⟨_,rfl,_,rfl,_,rfl,pf,_,0,sv xf,rfl,rfl,.of (s9 _ _ hpf),rfl,b,bk,o,xf,rfl,s9 _ _ hb8,hB,hnx,fun G10 s10=>⟨_,rfl,?_⟩⟩
    rw [decide_eq_true (zHF.mpr hmade)]
    refine z4 ?_
    have s90:=s9.trans s10
    refine ⟨_,rfl,_,rfl,_,rfl,_,rfl,_,rfl,pf,_,1,.int (qf:Int),rfl,rfl,.of (s90 _ _ hpf),rfl,_,rfl,D,_,rfl,.of (s90 _ _ hD8),fun cu hcu=>?_⟩
    have u4:=s90.trans (zB.upd1 (o:=.lst (vU (zX M) none (some (qf:Int)))) hcu)
    have hcu1:upd G10 cu (.lst (vU (zX M) none (some (qf:Int)))) cu=some (.lst (zX (M.take qf))):=by rw [zI,zEQ]
    refine ⟨b,pw,.ref cu,bk,o,lo,hi,hd,tl,ba,to,M.take qf,rfl,u4 _ _ hb8,hB,p64,hw8.same u4,gw,⟨cu,rfl,.inl hcu1⟩,by rw [List.length_take]; omega,fun n hn=>hM9 n (List.mem_of_mem_take hn),jV.of fun v2 G11 s11 hv2=>?_⟩
    have e2:yX (zD o bk) o (v9 bk lo hi hd tl ba to) (M.take qf) ((M.take qf).length+1) 0=some (xf,qf):=by
     rw [zBs _ _ _ _ _ (M.length+1) 0 (by omega) (by rw [List.length_take]; omega)]
     exact zHL _ _ _ _ _ _ _ _ _ hfe (Nat.le_refl _)
    rw [e2] at hv2
    refine ⟨_,rfl,uR (some (xf,qf)),uR (some (xf,qf)),hv2.rep,qY.rep ⟨pf,rfl,(u4.trans s11) _ _ hpf⟩,layF.2,layF.2,?_⟩
    rw [zBN _ layF.1]
    exact k _
end
end Kn.Dr
end
section
namespace Kn
open PySem L2 Dr
def z0 (K:PySem.W.Frag) (x:Str) (st:Stmt) (ps:List Str):Prop :=
 ∃ (f:Addr) (fd:FuncData),PySem.W.nsIn K mainGlobals x=some (some (.ref f))/\Fun K x x st f fd/\PySem.W.keepIn K (.ref f)=true/\jP K fd ps []
theorem z5 {K:PySem.W.Frag}{x:Str}{st:Stmt}{f:Addr}{oc kV dc pm cd ct:Value}{od an:Option Addr}{sl:Array (Option Value)} (ps:List Str)
  (hb:∀ (fd:FuncData),Fun K x x st f fd->jP K fd ps [])
  (a:PySem.W.nsIn K mainGlobals x=some (some (.ref f))) (l:K.lookup f=some ⟨oc,od,.func (PySem.W.fnOf x x (defArgs st) (defBody st) (defScope st) .none kV dc pm an cd ct),sl⟩) (c:PySem.W.codeIn K cd x=true) (k:PySem.W.keepIn K (.ref f)=true):z0 K x st ps :=
 ⟨f,_,a,zCe (st:=st) l c k,k,hb _ (zCe (st:=st) l c k)⟩
structure Top (K:PySem.W.Frag):Prop where
 is_name:z0 K "is_name" zBX ["thing"]
 is_book:z0 K "is_book" zBY ["thing"]
 is_whole:z0 K "is_whole" zBZ ["thing", "least", "most"]
 is_order:z0 K "is_order" zBa ["thing"]
 is_rising:z0 K "is_rising" zDl ["things"]
 need_book:z0 K "need_book" zBb ["thing"]
 need_order:z0 K "need_order" zBc ["thing"]
 need_name:z0 K "need_name" zBd ["thing"]
 end_of:z0 K "end_of" zBV ["text", "order"]
 ends:z0 K "ends_and_letters" zCs ["name", "order"]
 rows:z0 K "counted_rows" zCz ["book", "order"]
 is_edge:z0 K "is_edge" zDm ["thing"]
 is_barred:z0 K "is_barred" zDn ["thing"]
 is_wish:z0 K "is_wish" zDp ["thing"]
 need_wish:z0 K "need_wish" zDr ["thing"]
 form:z0 K "has_form" zDu ["wish", "name"]
 out:z0 K "left_out" zDw ["book", "wish"]
 fits:z0 K "fits" zDx ["book", "wish", "name"]
 are:z0 K "are_numbers" zDz ["thing"]
 neednu:z0 K "need_numbers" zEA ["thing"]
 pot:z0 K "pot_of" zDX ["row"]
 pots:z0 K "pots_by_end" zDY ["book", "order"]
 df:z0 K "drawn_from" sDF ["pots", "order", "numbers", "start"]
 drn:z0 K "drawn" zEC ["book", "order", "numbers"]
 fd:z0 K "first_drawn" sFD ["book", "order", "wish", "barred", "numbers"]
 dfi:z0 K "drawn_fitting" zEE ["book", "order", "wish", "numbers"]
 nf:z0 K "numbers_for" sNF ["book", "order", "name"]
 cell:z0 K "_law_cell" zDJ ["_law_script", "_law_k"]
 drawn:z0 K "_law_drawn" zDK ["_law_script", "_law_k", "_law_many"]
 lname:z0 K "_law_name" zDL ["_law_script", "_law_at", "_law_most"]
 lbook:z0 K "_law_book" zDM ["_law_script", "_law_at", "_law_many", "_law_most"]
 lwish:z0 K "_law_wish" sLW ["_law_script", "_law_at"]
 ltx:z0 K "_law_text" sTx ["_law_book_here", "_law_order", "_law_numbers"]
 lft:z0 K "_law_fitting" sFt ["_law_book_here", "_law_order", "_law_wish_here", "_law_numbers"]
 lpf:z0 K "_law_picks_fit" sPF ["_law_book_here", "_law_order"]
 ldw:z0 K "_law_drawn_well" sDW ["_law_book_here", "_law_order", "_law_numbers", "_law_found"]
 neednoe:z0 K "need_name_or_empty" zDN ["thing"]
 behind:z0 K "behind" zDP ["book", "order", "text"]
 gcd:z0 K "greatest_divisor" zBf ["one", "other"]
 low:z0 K "lowest" zBh ["up", "down"]
 times:z0 K "times" zDB ["one", "other"]
 is_less:z0 K "is_less" zDC ["one", "other"]
 part_in:z0 K "part_in" zDE ["row", "letter"]
 stepsR:z0 K "steps_by_rows" zDF ["rows", "order", "name"]
 shareR:z0 K "share_by_rows" zDG ["rows", "order", "name"]
 share:z0 K "share" zDH ["book", "order", "name"]
 makes:z0 K "makes" zDI ["book", "order", "name"]
 letters:∃ t,PySem.W.nsIn K mainGlobals "LETTERS" = some (some (.str letters t))
 ml:∃ t,PySem.W.nsIn K mainGlobals "MOST_LETTERS" = some (some (.int 8 t))
 mn:∃ t,PySem.W.nsIn K mainGlobals "MOST_NAMES" = some (some (.int 8 t))
 mo:∃ t,PySem.W.nsIn K mainGlobals "MOST_ORDER" = some (some (.int 3 t))
 w0:∃ t,PySem.W.nsIn K mainGlobals "LEAST" = some (some (.int 0 t))
 w1:∃ t,PySem.W.nsIn K mainGlobals "MOST" = some (some (.int 1 t))
 w2:∃ t,PySem.W.nsIn K mainGlobals "HEAD" = some (some (.int 2 t))
 w3:∃ t,PySem.W.nsIn K mainGlobals "TAIL" = some (some (.int 3 t))
 w4:∃ t,PySem.W.nsIn K mainGlobals "BARRED" = some (some (.int 4 t))
 w5:∃ t,PySem.W.nsIn K mainGlobals "TOLD" = some (some (.int 5 t))
 w6:∃ t,PySem.W.nsIn K mainGlobals "MANY_PARTS" = some (some (.int 6 t))
 w7:∃ t,PySem.W.nsIn K mainGlobals "MOST_EDGE" = some (some (.int 3 t))
 w8:∃ t,PySem.W.nsIn K mainGlobals "MOST_BARRED" = some (some (.int 6 t))
 d0:∃ t,PySem.W.nsIn K mainGlobals "MOST_NUMBERS" = some (some (.int 99 t))
 d1:∃ t,PySem.W.nsIn K mainGlobals "GREATEST_NUMBER" = some (some (.int 9999 t))
 ib:PySem.W.kitOne K (.type "int") (.type "bool")=some false
 nought:∃ a,PySem.W.nsIn K mainGlobals "NOUGHT" = some (some (.ref a))/\∀ H,zZ K H a [.int 0,.int 1]
 whole:∃ a,PySem.W.nsIn K mainGlobals "WHOLE" = some (some (.ref a))/\∀ H,zZ K H a [.int 1,.int 1]
 xb:∃ C,qK K C C=true/\∀ (h:Heap) (mg:Str->Option Value),K.In h->h.Ns mainGlobals mg->XCls K mg "NoBook" C
 xo:∃ C,qK K C C=true/\∀ (h:Heap) (mg:Str->Option Value),K.In h->h.Ns mainGlobals mg->XCls K mg "NoOrder" C
 xn:∃ C,qK K C C=true/\∀ (h:Heap) (mg:Str->Option Value),K.In h->h.Ns mainGlobals mg->XCls K mg "NoName" C
 xw:∃ C,qK K C C=true/\∀ (h:Heap) (mg:Str->Option Value),K.In h->h.Ns mainGlobals mg->XCls K mg "NoWish" C
 xu:∃ C,qK K C C=true/\∀ (h:Heap) (mg:Str->Option Value),K.In h->h.Ns mainGlobals mg->XCls K mg "NoNumber" C
 xm:∃ C,qK K C C=true/\∀ (h:Heap) (mg:Str->Option Value),K.In h->h.Ns mainGlobals mg->XCls K mg "NotMade" C
 xs:∃ C,qK K C C=true/\∀ (h:Heap) (mg:Str->Option Value),K.In h->h.Ns mainGlobals mg->XCls K mg "TooShort" C
 kitf:KitF K
 kitb:KitB K
 kitl:KitL K
 zlen:PySem.W.nsIn K mainGlobals "len" = some none
 zrange:PySem.W.nsIn K mainGlobals "range" = some none
 zall:PySem.W.nsIn K mainGlobals "all" = some none
 zisinstance:PySem.W.nsIn K mainGlobals "isinstance" = some none
 zstr:PySem.W.nsIn K mainGlobals "str" = some none
 ztuple:PySem.W.nsIn K mainGlobals "tuple" = some none
 zint:PySem.W.nsIn K mainGlobals "int" = some none
 zbool:PySem.W.nsIn K mainGlobals "bool" = some none
 zsorted:PySem.W.nsIn K mainGlobals "sorted" = some none
 zsum:PySem.W.nsIn K mainGlobals "sum" = some none
 zmin:PySem.W.nsIn K mainGlobals "min" = some none
 zlist:PySem.W.nsIn K mainGlobals "list" = some none
 zset:PySem.W.nsIn K mainGlobals "set" = some none
 zzip:PySem.W.nsIn K mainGlobals "zip" = some none
 zenumerate:PySem.W.nsIn K mainGlobals "enumerate" = some none
 zdict:PySem.W.nsIn K mainGlobals "dict" = some none
theorem zQM:(Str.ofString "abcdefghijklmnopqrstuvwxyz")=letters:=by decide +kernel
theorem zQN {K:PySem.W.Frag}{t:Tok} (h:PySem.W.nsIn K mainGlobals "LETTERS" = some (some (.str (Str.ofString "abcdefghijklmnopqrstuvwxyz") t))):∃ t,PySem.W.nsIn K mainGlobals "LETTERS" = some (some (.str letters t)):=by
 rw [zQM] at h; exact ⟨t,h⟩
theorem qO {K:PySem.W.Frag}{x:Str}{i:Int}{t:Tok} (h:PySem.W.nsIn K mainGlobals x=some (some (.int i t))):∃ t,PySem.W.nsIn K mainGlobals x=some (some (.int i t)):=⟨t,h⟩
theorem zIo {K:PySem.W.Frag}{x:Str}{a:Addr}{i j:Int}{t t':Tok}{n:Nat}{dd:Option Addr}{sl:Array (Option Value)} (h:PySem.W.nsIn K mainGlobals x=some (some (.ref a)))
  (l:K.lookup a=some ⟨.type "tuple",dd,.seq #[.int i t,.int j t'] n,sl⟩):∃ a,PySem.W.nsIn K mainGlobals x=some (some (.ref a))/\∀ H,zZ K H a [.int i,.int j] :=
 ⟨a,h,fun H=>.inr ⟨_,_,_,l,rfl,rfl,by show 2<=sizeLine; decide,.cons ⟨t,rfl⟩ (.cons ⟨t',rfl⟩ .nil)⟩⟩
section
variable {P:Program}{w:World}{K:PySem.W.Frag}{mg:Str->Option Value}{base:Heap}{h:Heap}
theorem z7 {x:Str}{st:Stmt}{ps:List Str}{k:Nat}{sp:Sp} (X:K.In h) (G:h.Ns mainGlobals mg) (H:z0 K x st ps) (ok:∀ (f:Addr) (fd:FuncData),Fun K x x st f fd->FnOk P w K mg base zY k f fd ps sp):zO P w K mg base k x ps sp:=by
 obtain ⟨f,fd,a,F,kp,b⟩:=H
 exact ⟨f,fd,ok f fd F,PySem.W.mg_of X G a,kp,b⟩
theorem jM {x:Str}{st:Stmt}{ps:List Str}{k:Nat}{sp:Sp} (X:K.In h) (G:h.Ns mainGlobals mg) (H:z0 K x st ps) (ok:∀ (f:Addr) (fd:FuncData),Fun K x x st f fd->FnOk P w K mg base (vW P w) k f fd ps sp):y6 P w K mg base k x ps sp:=by
 obtain ⟨f,fd,a,F,kp,b⟩:=H
 exact ⟨f,fd,ok f fd F,PySem.W.mg_of X G a,kp,b⟩
theorem zQO (X:K.In h) (G:h.Ns mainGlobals mg) (T:Top K) {f:Addr}{fd:FuncData} (F:Fun K "law" "law" jW f fd):FnOk P w K mg base zY 9 f fd ["_law_script"] (zAz K):=by
 have B:Blt mg:=⟨PySem.W.mg_none_of X G T.zlen,PySem.W.mg_none_of X G T.zrange,PySem.W.mg_none_of X G T.zall,PySem.W.mg_none_of X G T.zisinstance,PySem.W.mg_none_of X G T.zstr,PySem.W.mg_none_of X G T.ztuple,PySem.W.mg_none_of X G T.zint,PySem.W.mg_none_of X G T.zbool,PySem.W.mg_none_of X G T.zsorted,PySem.W.mg_none_of X G T.zsum,PySem.W.mg_none_of X G T.zmin⟩
 have C:Cst K mg:=⟨let ⟨t,e⟩:=T.letters; ⟨t,PySem.W.mg_of X G e⟩,let ⟨t,e⟩:=T.ml; ⟨t,PySem.W.mg_of X G e⟩,let ⟨t,e⟩:=T.mn; ⟨t,PySem.W.mg_of X G e⟩,let ⟨t,e⟩:=T.mo; ⟨t,PySem.W.mg_of X G e⟩,T.ib⟩
 have hli:=PySem.W.mg_none_of X G T.zlist
 have hse:=PySem.W.mg_none_of X G T.zset
 have hzi:=PySem.W.mg_none_of X G T.zzip
 have hen:=PySem.W.mg_none_of X G T.zenumerate
 have hdi:=PySem.W.mg_none_of X G T.zdict
 have W:CstW mg:=⟨let ⟨t,e⟩:=T.w0; ⟨t,PySem.W.mg_of X G e⟩,let ⟨t,e⟩:=T.w1; ⟨t,PySem.W.mg_of X G e⟩,let ⟨t,e⟩:=T.w2; ⟨t,PySem.W.mg_of X G e⟩,let ⟨t,e⟩:=T.w3; ⟨t,PySem.W.mg_of X G e⟩,let ⟨t,e⟩:=T.w4; ⟨t,PySem.W.mg_of X G e⟩,let ⟨t,e⟩:=T.w5; ⟨t,PySem.W.mg_of X G e⟩,let ⟨t,e⟩:=T.w6; ⟨t,PySem.W.mg_of X G e⟩,let ⟨t,e⟩:=T.w7; ⟨t,PySem.W.mg_of X G e⟩,let ⟨t,e⟩:=T.w8; ⟨t,PySem.W.mg_of X G e⟩⟩
 have DD:CstD mg:=⟨let ⟨t,e⟩:=T.d0; ⟨t,PySem.W.mg_of X G e⟩,let ⟨t,e⟩:=T.d1; ⟨t,PySem.W.mg_of X G e⟩⟩
 obtain ⟨nb,_,hb⟩:=T.xb
 obtain ⟨no,_,ho⟩:=T.xo
 obtain ⟨nn,_,hn⟩:=T.xn
 obtain ⟨nw,_,hw⟩:=T.xw
 obtain ⟨nu,_,hu⟩:=T.xu
 obtain ⟨nm,_,hm⟩:=T.xm
 obtain ⟨ts,hts,hs⟩:=T.xs
 have Ob:=hb h mg X G
 have Oo:=ho h mg X G
 have On:=hn h mg X G
 have Ow:=hw h mg X G
 have Ou:=hu h mg X G
 have Om:=hm h mg X G
 have Os:=hs h mg X G
 have KF:=T.kitf
 have KB:=T.kitb
 have KL:=T.kitl
 have cEnd:=z7 (P:=P) (w:=w) (base:=base) X G T.end_of fun f fd F=>zLp F
 have cEndB:=z7 (P:=P) (w:=w) (base:=base) X G T.end_of fun f fd F=>zPI F
 have cEnds:=z7 (P:=P) (w:=w) (base:=base) X G T.ends fun f fd F=>zLs F B cEnd
 have cRows:=z7 (P:=P) (w:=w) (base:=base) X G T.rows fun f fd F=>zMF F cEnds
 have cIsName:=z7 (P:=P) (w:=w) (base:=base) X G T.is_name fun f fd F=>zNS F B C KF
 have cIsBook:=z7 (P:=P) (w:=w) (base:=base) X G T.is_book fun f fd F=>zNT F B C KF cIsName
 have cIsWhole:=z7 (P:=P) (w:=w) (base:=base) X G T.is_whole fun f fd F=>zNV F B C KF
 have cIsOrder:=z7 (P:=P) (w:=w) (base:=base) X G T.is_order fun f fd F=>zNW F C cIsWhole
 have cRis:=z7 (P:=P) (w:=w) (base:=base) X G T.is_rising fun f fd F=>zOa F B hzi
 have cNB:=jM (P:=P) (w:=w) (base:=base) X G T.need_book fun f fd F=>zNX F Ob cIsBook
 have cNO:=jM (P:=P) (w:=w) (base:=base) X G T.need_order fun f fd F=>zNY F Oo cIsOrder
 have cNN:=jM (P:=P) (w:=w) (base:=base) X G T.need_name fun f fd F=>zNZ F On cIsName
 have cEd:=z7 (P:=P) (w:=w) (base:=base) X G T.is_edge fun f fd F=>zOf F B W cIsName
 have cBa:=z7 (P:=P) (w:=w) (base:=base) X G T.is_barred fun f fd F=>zOi F B KF W cIsName cRis
 have cWi:=z7 (P:=P) (w:=w) (base:=base) X G T.is_wish fun f fd F=>zOm F B C KF KB W cIsWhole cEd cBa
 have cNW:=jM (P:=P) (w:=w) (base:=base) X G T.need_wish fun f fd F=>zOq F Ow cWi
 have cFo:=z7 (P:=P) (w:=w) (base:=base) X G T.form fun f fd F=>zOs F B W
 have cOu:=z7 (P:=P) (w:=w) (base:=base) X G T.out fun f fd F=>zOv F B W hli hse
 have cFi:=jM (P:=P) (w:=w) (base:=base) X G T.fits fun f fd F=>zOx F cNB cNW cNN cFo cOu
 have cAre:=z7 (P:=P) (w:=w) (base:=base) X G T.are fun f fd F=>zPF F B hli DD KF KL cIsWhole
 have cNu:=jM (P:=P) (w:=w) (base:=base) X G T.neednu fun f fd F=>zPH F Ou cAre
 have cPot:=z7 (P:=P) (w:=w) (base:=base) X G T.pot fun f fd F=>zNM F B
 have cPots:=z7 (P:=P) (w:=w) (base:=base) X G T.pots fun f fd F=>zNO F hdi cRows cPot
 have cDF:=jM (P:=P) (w:=w) (base:=base) X G T.df fun f fd F=>zPJ F B Os cEndB
 have cDrn:=jM (P:=P) (w:=w) (base:=base) X G T.drn fun f fd F=>zPO F cNB cNO cNu cPots cDF
 have cFD:=jM (P:=P) (w:=w) (base:=base) X G T.fd fun f fd F=>zPP F cPots cDF cFo
 have cDfi:=jM (P:=P) (w:=w) (base:=base) X G T.dfi fun f fd F=>zPR F cNB cNO cNW cNu cOu cFD
 have cNF:=jM (P:=P) (w:=w) (base:=base) X G T.nf fun f fd F=>zPS F Om cNB cNO cNN cPots cEnds
 have cCell:=z7 (P:=P) (w:=w) (base:=base) X G T.cell fun f fd F=>zMc F B
 have cDrawn:=z7 (P:=P) (w:=w) (base:=base) X G T.drawn fun f fd F=>zMd F cCell
 have cName:=z7 (P:=P) (w:=w) (base:=base) X G T.lname fun f fd F=>zMe F B cDrawn
 have cBook:=z7 (P:=P) (w:=w) (base:=base) X G T.lbook fun f fd F=>zMf F B cDrawn cName
 have cLW:=z7 (P:=P) (w:=w) (base:=base) X G T.lwish fun f fd F=>zPX F B hen cDrawn
 have cTx:=z7 (P:=P) (w:=w) (base:=base) X G T.ltx fun f fd F=>zQC F Os hts cDrn
 have cFt:=z7 (P:=P) (w:=w) (base:=base) X G T.lft fun f fd F=>zQE F Os hts cDfi
 have C2:Cst2 K mg:=⟨let ⟨a,e,q⟩:=T.nought; ⟨a,PySem.W.mg_of X G e,q⟩,let ⟨a,e,q⟩:=T.whole; ⟨a,PySem.W.mg_of X G e,q⟩⟩
 have cIsNameG:=z7 (P:=P) (w:=w) (base:=base) X G T.is_name fun f fd F=>zLu F B C
 have cIsBookG:=z7 (P:=P) (w:=w) (base:=base) X G T.is_book fun f fd F=>zLv F B C cIsNameG
 have cIsWholeG:=z7 (P:=P) (w:=w) (base:=base) X G T.is_whole fun f fd F=>zLw F B C
 have cIsOrderG:=z7 (P:=P) (w:=w) (base:=base) X G T.is_order fun f fd F=>zLx F C cIsWholeG
 have cNBG:=z7 (P:=P) (w:=w) (base:=base) X G T.need_book fun f fd F=>zLy F cIsBookG
 have cNOG:=z7 (P:=P) (w:=w) (base:=base) X G T.need_order fun f fd F=>zLz F cIsOrderG
 have cNNG:=z7 (P:=P) (w:=w) (base:=base) X G T.need_name fun f fd F=>zMA F cIsNameG
 have N:Needs P w K mg base:=⟨cNBG,cNOG,cNNG,cRows⟩
 have cNE:=z7 (P:=P) (w:=w) (base:=base) X G T.neednoe fun f fd F=>zMh F cNNG
 have cBh:=z7 (P:=P) (w:=w) (base:=base) X G T.behind fun f fd F=>zMi F B N cNE cEnd
 have cGcdW:=z7 (P:=P) (w:=w) (base:=base) X G T.gcd fun f fd F=>zPj F
 have cLowW:=z7 (P:=P) (w:=w) (base:=base) X G T.low fun f fd F=>zPk F cGcdW
 have cGcd:=z7 (P:=P) (w:=w) (base:=base) X G T.gcd fun f fd F=>zMG F
 have cLow:=z7 (P:=P) (w:=w) (base:=base) X G T.low fun f fd F=>zMH F cGcd
 have cTimesX:=z7 (P:=P) (w:=w) (base:=base) X G T.times fun f fd F=>zPl F cLowW
 have cLessX:=z7 (P:=P) (w:=w) (base:=base) X G T.is_less fun f fd F=>zPm F
 have cPart:=z7 (P:=P) (w:=w) (base:=base) X G T.part_in fun f fd F=>zMM F B C2 cLow
 have cStR:=z7 (P:=P) (w:=w) (base:=base) X G T.stepsR fun f fd F=>zMP F cEnds cPart
 have cShRX:=z7 (P:=P) (w:=w) (base:=base) X G T.shareR fun f fd F=>zPp F C2 cStR cTimesX
 have cShX:=z7 (P:=P) (w:=w) (base:=base) X G T.share fun f fd F=>zPq F N cShRX
 have cMkX:=z7 (P:=P) (w:=w) (base:=base) X G T.makes fun f fd F=>zPr F C2 cShX cLessX
 have cPF:=z7 (P:=P) (w:=w) (base:=base) X G T.lpf fun f fd F=>zQI F B cBh cTx
 have cDW:=z7 (P:=P) (w:=w) (base:=base) X G T.ldw fun f fd F=>zQJ F B cIsName cMkX (zIN cDrn) cTx cFt
 exact zQL F B hen ⟨cDrawn,cBook,cLW,cTx,cFt,cPF,cDW,nfG cNF,zPd cFi,zIN cDrn,cBh,cMkX⟩
end
theorem zQP {l:PySem.W.OpenLaw}{w:World}{K:PySem.W.Frag}{h:Heap}{mg:Str->Option Value}{fa f4:Addr} (X:K.In h) (G:h.Ns mainGlobals mg) (hfa:mg "law" = some (.ref fa))
  {od4 an4:Option Addr} {sl4:Array (Option Value)} {oc4 kV4 dc4 pm4 cd4 ct4:Value} (T:Top K)
  (a4:PySem.W.nsIn K mainGlobals "law" = some (some (.ref f4))) (l4:K.lookup f4=some ⟨oc4,od4,.func (PySem.W.fnOf "law" "law" (defArgs jW) (defBody jW) (defScope jW) .none kV4 dc4 pm4 an4 cd4 ct4),sl4⟩) (c4:PySem.W.codeIn K cd4 "law" = true) (k4:PySem.W.keepIn K (.ref f4)=true) :
  ∃ fd:FuncData,(∀ (s:Shared) (v:Value),BindsTo s fd ⟨[v],[]⟩ [("_law_script",v)])/\∀ base:Heap,K.In base->base.Ns mainGlobals mg->FnOk l.prog w K mg base zY 9 fa fd ["_law_script"] (zAz K):=by
 have e:=hfa.symm.trans (PySem.W.mg_of X G a4)
 cases e
 have F4:=zCe (st:=jW) l4 c4 k4
 exact ⟨PySem.W.fnOf "law" "law" (defArgs jW) (defBody jW) (defScope jW) .none kV4 dc4 pm4 an4 cd4 ct4,fun s v=>.of_eq rfl,fun base _ _=>zQO X G T F4⟩
theorem zQQ {l:PySem.W.OpenLaw}{q:Program}{loose:List Str}{XP:(Str->Option Value)->Heap->Prop}{YP:World->Heap->Prop}{d:DefRec}{K:Params->PySem.W.Frag} (hn:l.most=some 63) (hdf:d.params.defaults=[])
  (hY:∀ (w:World) (h:Heap),YP w h->(K w.params).In h)
  (F:∀ (w:World) (mg:Str->Option Value) (fa:Addr) (h:Heap),(K w.params).In h->h.Ns mainGlobals mg->mg d.name=some (.ref fa) ->
   ∃ fd:FuncData,(∀ (s:Shared) (u:Value),BindsTo s fd ⟨[u],[]⟩ [("_law_script",u)])/\∀ base:Heap,(K w.params).In base->base.Ns mainGlobals mg->FnOk l.prog w (K w.params) mg base zY 9 fa fd ["_law_script"] (zAz (K w.params))) :
  PySem.W.WalkO q loose XP YP l.row.toRowW d [] (fun f vs=>PySem.call f vs) :=
 L2.zKk (n:=63) (k:=9) (x := "_law_script") (CX:=fun _=>zY) (sp:=fun w=>zAz (K w.params)) hn (by decide) hdf ⟨rfl,by decide,by decide⟩ hY F (fun _ _ a ns hl _ hS=>⟨a,ns,rfl,hS,hl,fun _=>rfl⟩) fun _ _ _ _ _ z=>z
end Kn
end
section
open PySem PySem.W PyProof.Rows
set_option maxRecDepth 100000 in
set_option maxHeartbeats 0 in
theorem PySem.Challenge.cw_kinnames_k41_whole_drawing_holds : PySem.Challenge.rw_kinnames_k41_whole_drawing.Holds := by
 w_on; o_law
 refine PySem.W.holds_open (q:=Kn.kq) (loose:=Kn.klo) (Xt:=fun s=>xlAt Kn.kq [] s && recOk [] s) (XP:=XL Kn.kq []) (Yf:=Hook.obs (kHook Kn.kfr Kn.kas Kn.kas_e)) (Ya:=Hook.val (kHook Kn.kfr Kn.kas Kn.kas_e)) (YP:=Hook.says (kHook Kn.kfr Kn.kas Kn.kas_e)) (N:=6838) Kn.hl (Hook.of (kHook Kn.kfr Kn.kas Kn.kas_e)) (Hook.keeps (kHook Kn.kfr Kn.kas Kn.kas_e)) (fun s e=>xl_of s (Bool.and_eq_true_iff.mp e).1) XL.keeps (by rfl) (by rfl) (by rfl) (fun s e=>recFacts_of (Bool.and_eq_true_iff.mp e).2) (by rfl) (by first | assumption | decide +kernel) (by decide +kernel) ⟨rfl,rfl,rfl,rfl,rfl,by decide +kernel⟩ ?hw ?hc
 (case hw=>w_witness2)
 k_fill
 refine Kn.zQQ (l:=PySem.Challenge.rw_kinnames_k41_whole_drawing) rfl rfl (fun w h Y=>PySem.W.kIn_of Y) ?F
 case F =>
  intro w mg fa h KX G hmg
  refine' Kn.zQP KX G hmg ?T ?a4 ?l4 ?c4 ?k4
  (case T =>
   refine' ⟨?is_name,?is_book,?is_whole,?is_order,?is_rising,?need_book,?need_order,?need_name,?end_of,?ends,?rows,?is_edge,?is_barred,?is_wish,?need_wish,?form,?out,?fits,?are,?neednu,?pot,?pots,?df,?drn,?fd,?dfi,?nf,?cell,?drawn,?lname,?lbook,?lwish,?ltx,?lft,?lpf,?ldw,?neednoe,?behind,?gcd,?low,?times,?is_less,?part_in,?stepsR,?shareR,?share,?makes,?letters,?ml,?mn,?mo,?w0,?w1,?w2,?w3,?w4,?w5,?w6,?w7,?w8,?d0,?d1,?ib,?nought,?whole,?xb,?xo,?xn,?xw,?xu,?xm,?xs,?kitf,?kitb,?kitl,?zlen,?zrange,?zall,?zisinstance,?zstr,?ztuple,?zint,?zbool,?zsorted,?zsum,?zmin,?zlist,?zset,?zzip,?zenumerate,?zdict⟩
   (case is_name=>refine' Kn.z5 _ (fun fd F=>F.binds fun _ _ _ _ _ _ us hl=>match us,hl with | [_],_=>rfl) ?kna ?knl ?knc ?knk; (case kna=>k_is); (case knl=>k_is); (case knc=>k_is); (case knk=>k_is))
   (case is_book=>refine' Kn.z5 _ (fun fd F=>F.binds fun _ _ _ _ _ _ us hl=>match us,hl with | [_],_=>rfl) ?kna ?knl ?knc ?knk; (case kna=>k_is); (case knl=>k_is); (case knc=>k_is); (case knk=>k_is))
   (case is_whole=>refine' Kn.z5 _ (fun fd F=>F.binds fun _ _ _ _ _ _ us hl=>match us,hl with | [_,_,_],_=>rfl) ?kna ?knl ?knc ?knk; (case kna=>k_is); (case knl=>k_is); (case knc=>k_is); (case knk=>k_is))
   (case is_order=>refine' Kn.z5 _ (fun fd F=>F.binds fun _ _ _ _ _ _ us hl=>match us,hl with | [_],_=>rfl) ?kna ?knl ?knc ?knk; (case kna=>k_is); (case knl=>k_is); (case knc=>k_is); (case knk=>k_is))
   (case is_rising=>refine' Kn.z5 _ (fun fd F=>F.binds fun _ _ _ _ _ _ us hl=>match us,hl with | [_],_=>rfl) ?kna ?knl ?knc ?knk; (case kna=>k_is); (case knl=>k_is); (case knc=>k_is); (case knk=>k_is))
   (case need_book=>refine' Kn.z5 _ (fun fd F=>F.binds fun _ _ _ _ _ _ us hl=>match us,hl with | [_],_=>rfl) ?kna ?knl ?knc ?knk; (case kna=>k_is); (case knl=>k_is); (case knc=>k_is); (case knk=>k_is))
   (case need_order=>refine' Kn.z5 _ (fun fd F=>F.binds fun _ _ _ _ _ _ us hl=>match us,hl with | [_],_=>rfl) ?kna ?knl ?knc ?knk; (case kna=>k_is); (case knl=>k_is); (case knc=>k_is); (case knk=>k_is))
   (case need_name=>refine' Kn.z5 _ (fun fd F=>F.binds fun _ _ _ _ _ _ us hl=>match us,hl with | [_],_=>rfl) ?kna ?knl ?knc ?knk; (case kna=>k_is); (case knl=>k_is); (case knc=>k_is); (case knk=>k_is))
   (case end_of=>refine' Kn.z5 _ (fun fd F=>F.binds fun _ _ _ _ _ _ us hl=>match us,hl with | [_,_],_=>rfl) ?kna ?knl ?knc ?knk; (case kna=>k_is); (case knl=>k_is); (case knc=>k_is); (case knk=>k_is))
   (case ends=>refine' Kn.z5 _ (fun fd F=>F.binds fun _ _ _ _ _ _ us hl=>match us,hl with | [_,_],_=>rfl) ?kna ?knl ?knc ?knk; (case kna=>k_is); (case knl=>k_is); (case knc=>k_is); (case knk=>k_is))
   (case rows=>refine' Kn.z5 _ (fun fd F=>F.binds fun _ _ _ _ _ _ us hl=>match us,hl with | [_,_],_=>rfl) ?kna ?knl ?knc ?knk; (case kna=>k_is); (case knl=>k_is); (case knc=>k_is); (case knk=>k_is))
   (case is_edge=>refine' Kn.z5 _ (fun fd F=>F.binds fun _ _ _ _ _ _ us hl=>match us,hl with | [_],_=>rfl) ?kna ?knl ?knc ?knk; (case kna=>k_is); (case knl=>k_is); (case knc=>k_is); (case knk=>k_is))
   (case is_barred=>refine' Kn.z5 _ (fun fd F=>F.binds fun _ _ _ _ _ _ us hl=>match us,hl with | [_],_=>rfl) ?kna ?knl ?knc ?knk; (case kna=>k_is); (case knl=>k_is); (case knc=>k_is); (case knk=>k_is))
   (case is_wish=>refine' Kn.z5 _ (fun fd F=>F.binds fun _ _ _ _ _ _ us hl=>match us,hl with | [_],_=>rfl) ?kna ?knl ?knc ?knk; (case kna=>k_is); (case knl=>k_is); (case knc=>k_is); (case knk=>k_is))
   (case need_wish=>refine' Kn.z5 _ (fun fd F=>F.binds fun _ _ _ _ _ _ us hl=>match us,hl with | [_],_=>rfl) ?kna ?knl ?knc ?knk; (case kna=>k_is); (case knl=>k_is); (case knc=>k_is); (case knk=>k_is))
   (case form=>refine' Kn.z5 _ (fun fd F=>F.binds fun _ _ _ _ _ _ us hl=>match us,hl with | [_,_],_=>rfl) ?kna ?knl ?knc ?knk; (case kna=>k_is); (case knl=>k_is); (case knc=>k_is); (case knk=>k_is))
   (case out=>refine' Kn.z5 _ (fun fd F=>F.binds fun _ _ _ _ _ _ us hl=>match us,hl with | [_,_],_=>rfl) ?kna ?knl ?knc ?knk; (case kna=>k_is); (case knl=>k_is); (case knc=>k_is); (case knk=>k_is))
   (case fits=>refine' Kn.z5 _ (fun fd F=>F.binds fun _ _ _ _ _ _ us hl=>match us,hl with | [_,_,_],_=>rfl) ?kna ?knl ?knc ?knk; (case kna=>k_is); (case knl=>k_is); (case knc=>k_is); (case knk=>k_is))
   (case are=>refine' Kn.z5 _ (fun fd F=>F.binds fun _ _ _ _ _ _ us hl=>match us,hl with | [_],_=>rfl) ?kna ?knl ?knc ?knk; (case kna=>k_is); (case knl=>k_is); (case knc=>k_is); (case knk=>k_is))
   (case neednu=>refine' Kn.z5 _ (fun fd F=>F.binds fun _ _ _ _ _ _ us hl=>match us,hl with | [_],_=>rfl) ?kna ?knl ?knc ?knk; (case kna=>k_is); (case knl=>k_is); (case knc=>k_is); (case knk=>k_is))
   (case pot=>refine' Kn.z5 _ (fun fd F=>F.binds fun _ _ _ _ _ _ us hl=>match us,hl with | [_],_=>rfl) ?kna ?knl ?knc ?knk; (case kna=>k_is); (case knl=>k_is); (case knc=>k_is); (case knk=>k_is))
   (case pots=>refine' Kn.z5 _ (fun fd F=>F.binds fun _ _ _ _ _ _ us hl=>match us,hl with | [_,_],_=>rfl) ?kna ?knl ?knc ?knk; (case kna=>k_is); (case knl=>k_is); (case knc=>k_is); (case knk=>k_is))
   (case df=>refine' Kn.z5 _ (fun fd F=>F.binds fun _ _ _ _ _ _ us hl=>match us,hl with | [_,_,_,_],_=>rfl) ?kna ?knl ?knc ?knk; (case kna=>k_is); (case knl=>k_is); (case knc=>k_is); (case knk=>k_is))
   (case drn=>refine' Kn.z5 _ (fun fd F=>F.binds fun _ _ _ _ _ _ us hl=>match us,hl with | [_,_,_],_=>rfl) ?kna ?knl ?knc ?knk; (case kna=>k_is); (case knl=>k_is); (case knc=>k_is); (case knk=>k_is))
   (case fd=>refine' Kn.z5 _ (fun fd F=>F.binds fun _ _ _ _ _ _ us hl=>match us,hl with | [_,_,_,_,_],_=>rfl) ?kna ?knl ?knc ?knk; (case kna=>k_is); (case knl=>k_is); (case knc=>k_is); (case knk=>k_is))
   (case dfi=>refine' Kn.z5 _ (fun fd F=>F.binds fun _ _ _ _ _ _ us hl=>match us,hl with | [_,_,_,_],_=>rfl) ?kna ?knl ?knc ?knk; (case kna=>k_is); (case knl=>k_is); (case knc=>k_is); (case knk=>k_is))
   (case nf=>refine' Kn.z5 _ (fun fd F=>F.binds fun _ _ _ _ _ _ us hl=>match us,hl with | [_,_,_],_=>rfl) ?kna ?knl ?knc ?knk; (case kna=>k_is); (case knl=>k_is); (case knc=>k_is); (case knk=>k_is))
   (case cell=>refine' Kn.z5 _ (fun fd F=>F.binds fun _ _ _ _ _ _ us hl=>match us,hl with | [_,_],_=>rfl) ?kna ?knl ?knc ?knk; (case kna=>k_is); (case knl=>k_is); (case knc=>k_is); (case knk=>k_is))
   (case drawn=>refine' Kn.z5 _ (fun fd F=>F.binds fun _ _ _ _ _ _ us hl=>match us,hl with | [_,_,_],_=>rfl) ?kna ?knl ?knc ?knk; (case kna=>k_is); (case knl=>k_is); (case knc=>k_is); (case knk=>k_is))
   (case lname=>refine' Kn.z5 _ (fun fd F=>F.binds fun _ _ _ _ _ _ us hl=>match us,hl with | [_,_,_],_=>rfl) ?kna ?knl ?knc ?knk; (case kna=>k_is); (case knl=>k_is); (case knc=>k_is); (case knk=>k_is))
   (case lbook=>refine' Kn.z5 _ (fun fd F=>F.binds fun _ _ _ _ _ _ us hl=>match us,hl with | [_,_,_,_],_=>rfl) ?kna ?knl ?knc ?knk; (case kna=>k_is); (case knl=>k_is); (case knc=>k_is); (case knk=>k_is))
   (case lwish=>refine' Kn.z5 _ (fun fd F=>F.binds fun _ _ _ _ _ _ us hl=>match us,hl with | [_,_],_=>rfl) ?kna ?knl ?knc ?knk; (case kna=>k_is); (case knl=>k_is); (case knc=>k_is); (case knk=>k_is))
   (case ltx=>refine' Kn.z5 _ (fun fd F=>F.binds fun _ _ _ _ _ _ us hl=>match us,hl with | [_,_,_],_=>rfl) ?kna ?knl ?knc ?knk; (case kna=>k_is); (case knl=>k_is); (case knc=>k_is); (case knk=>k_is))
   (case lft=>refine' Kn.z5 _ (fun fd F=>F.binds fun _ _ _ _ _ _ us hl=>match us,hl with | [_,_,_,_],_=>rfl) ?kna ?knl ?knc ?knk; (case kna=>k_is); (case knl=>k_is); (case knc=>k_is); (case knk=>k_is))
   (case lpf=>refine' Kn.z5 _ (fun fd F=>F.binds fun _ _ _ _ _ _ us hl=>match us,hl with | [_,_],_=>rfl) ?kna ?knl ?knc ?knk; (case kna=>k_is); (case knl=>k_is); (case knc=>k_is); (case knk=>k_is))
   (case ldw=>refine' Kn.z5 _ (fun fd F=>F.binds fun _ _ _ _ _ _ us hl=>match us,hl with | [_,_,_,_],_=>rfl) ?kna ?knl ?knc ?knk; (case kna=>k_is); (case knl=>k_is); (case knc=>k_is); (case knk=>k_is))
   (case neednoe=>refine' Kn.z5 _ (fun fd F=>F.binds fun _ _ _ _ _ _ us hl=>match us,hl with | [_],_=>rfl) ?kna ?knl ?knc ?knk; (case kna=>k_is); (case knl=>k_is); (case knc=>k_is); (case knk=>k_is))
   (case behind=>refine' Kn.z5 _ (fun fd F=>F.binds fun _ _ _ _ _ _ us hl=>match us,hl with | [_,_,_],_=>rfl) ?kna ?knl ?knc ?knk; (case kna=>k_is); (case knl=>k_is); (case knc=>k_is); (case knk=>k_is))
   (case gcd=>refine' Kn.z5 _ (fun fd F=>F.binds fun _ _ _ _ _ _ us hl=>match us,hl with | [_,_],_=>rfl) ?kna ?knl ?knc ?knk; (case kna=>k_is); (case knl=>k_is); (case knc=>k_is); (case knk=>k_is))
   (case low=>refine' Kn.z5 _ (fun fd F=>F.binds fun _ _ _ _ _ _ us hl=>match us,hl with | [_,_],_=>rfl) ?kna ?knl ?knc ?knk; (case kna=>k_is); (case knl=>k_is); (case knc=>k_is); (case knk=>k_is))
   (case times=>refine' Kn.z5 _ (fun fd F=>F.binds fun _ _ _ _ _ _ us hl=>match us,hl with | [_,_],_=>rfl) ?kna ?knl ?knc ?knk; (case kna=>k_is); (case knl=>k_is); (case knc=>k_is); (case knk=>k_is))
   (case is_less=>refine' Kn.z5 _ (fun fd F=>F.binds fun _ _ _ _ _ _ us hl=>match us,hl with | [_,_],_=>rfl) ?kna ?knl ?knc ?knk; (case kna=>k_is); (case knl=>k_is); (case knc=>k_is); (case knk=>k_is))
   (case part_in=>refine' Kn.z5 _ (fun fd F=>F.binds fun _ _ _ _ _ _ us hl=>match us,hl with | [_,_],_=>rfl) ?kna ?knl ?knc ?knk; (case kna=>k_is); (case knl=>k_is); (case knc=>k_is); (case knk=>k_is))
   (case stepsR=>refine' Kn.z5 _ (fun fd F=>F.binds fun _ _ _ _ _ _ us hl=>match us,hl with | [_,_,_],_=>rfl) ?kna ?knl ?knc ?knk; (case kna=>k_is); (case knl=>k_is); (case knc=>k_is); (case knk=>k_is))
   (case shareR=>refine' Kn.z5 _ (fun fd F=>F.binds fun _ _ _ _ _ _ us hl=>match us,hl with | [_,_,_],_=>rfl) ?kna ?knl ?knc ?knk; (case kna=>k_is); (case knl=>k_is); (case knc=>k_is); (case knk=>k_is))
   (case share=>refine' Kn.z5 _ (fun fd F=>F.binds fun _ _ _ _ _ _ us hl=>match us,hl with | [_,_,_],_=>rfl) ?kna ?knl ?knc ?knk; (case kna=>k_is); (case knl=>k_is); (case knc=>k_is); (case knk=>k_is))
   (case makes=>refine' Kn.z5 _ (fun fd F=>F.binds fun _ _ _ _ _ _ us hl=>match us,hl with | [_,_,_],_=>rfl) ?kna ?knl ?knc ?knk; (case kna=>k_is); (case knl=>k_is); (case knc=>k_is); (case knk=>k_is))
   (case letters=>refine' Kn.zQN ?knq; (case knq=>k_is))
   (case ml=>refine' Kn.qO ?knq; (case knq=>k_is))
   (case mn=>refine' Kn.qO ?knq; (case knq=>k_is))
   (case mo=>refine' Kn.qO ?knq; (case knq=>k_is))
   (case w0=>refine' Kn.qO ?knq; (case knq=>k_is))
   (case w1=>refine' Kn.qO ?knq; (case knq=>k_is))
   (case w2=>refine' Kn.qO ?knq; (case knq=>k_is))
   (case w3=>refine' Kn.qO ?knq; (case knq=>k_is))
   (case w4=>refine' Kn.qO ?knq; (case knq=>k_is))
   (case w5=>refine' Kn.qO ?knq; (case knq=>k_is))
   (case w6=>refine' Kn.qO ?knq; (case knq=>k_is))
   (case w7=>refine' Kn.qO ?knq; (case knq=>k_is))
   (case w8=>refine' Kn.qO ?knq; (case knq=>k_is))
   (case d0=>refine' Kn.qO ?knq; (case knq=>k_is))
   (case d1=>refine' Kn.qO ?knq; (case knq=>k_is))
   (case ib=>first | rfl | kernel_rfl | decide +kernel)
   (case nought=>refine' Kn.zIo ?knq ?knr; (case knq=>k_is); (case knr=>k_is))
   (case whole=>refine' Kn.zIo ?knq ?knr; (case knq=>k_is); (case knr=>k_is))
   (case xb=>refine' Kn.Dr.gY ?e0 ?e1 ?e2; (case e0=>k_is); (case e1=>first | rfl | kernel_rfl | decide +kernel); (case e2=>first | rfl | kernel_rfl | decide +kernel))
   (case xo=>refine' Kn.Dr.gY ?e0 ?e1 ?e2; (case e0=>k_is); (case e1=>first | rfl | kernel_rfl | decide +kernel); (case e2=>first | rfl | kernel_rfl | decide +kernel))
   (case xn=>refine' Kn.Dr.gY ?e0 ?e1 ?e2; (case e0=>k_is); (case e1=>first | rfl | kernel_rfl | decide +kernel); (case e2=>first | rfl | kernel_rfl | decide +kernel))
   (case xw=>refine' Kn.Dr.gY ?e0 ?e1 ?e2; (case e0=>k_is); (case e1=>first | rfl | kernel_rfl | decide +kernel); (case e2=>first | rfl | kernel_rfl | decide +kernel))
   (case xu=>refine' Kn.Dr.gY ?e0 ?e1 ?e2; (case e0=>k_is); (case e1=>first | rfl | kernel_rfl | decide +kernel); (case e2=>first | rfl | kernel_rfl | decide +kernel))
   (case xm=>refine' Kn.Dr.gY ?e0 ?e1 ?e2; (case e0=>k_is); (case e1=>first | rfl | kernel_rfl | decide +kernel); (case e2=>first | rfl | kernel_rfl | decide +kernel))
   (case xs=>refine' Kn.Dr.gY ?e0 ?e1 ?e2; (case e0=>k_is); (case e1=>first | rfl | kernel_rfl | decide +kernel); (case e2=>first | rfl | kernel_rfl | decide +kernel))
   (case kitf=>constructor <;> first | rfl | kernel_rfl | decide +kernel)
   (case kitb=>constructor <;> first | rfl | kernel_rfl | decide +kernel)
   (case kitl=>constructor <;> first | rfl | kernel_rfl | decide +kernel)
   (case zlen=>k_is)
   (case zrange=>k_is)
   (case zall=>k_is)
   (case zisinstance=>k_is)
   (case zstr=>k_is)
   (case ztuple=>k_is)
   (case zint=>k_is)
   (case zbool=>k_is)
   (case zsorted=>k_is)
   (case zsum=>k_is)
   (case zmin=>k_is)
   (case zlist=>k_is)
   (case zset=>k_is)
   (case zzip=>k_is)
   (case zenumerate=>k_is)
   (case zdict=>k_is))
  (case a4=>k_is); (case l4=>k_is); (case c4=>k_is); (case k4=>k_is)
end
