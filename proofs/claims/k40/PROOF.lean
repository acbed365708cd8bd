import PyProof.Rows.All
import Wide.All
import OpenK.AllK
import Wide.FinOn
import Lean
import PyProof.EqAt
import PyProof.EqKinds
import PyProof.TupleCall
import PyProof.CompFree
import KE.KSortAsk
import KE.KSortTup
import KE.KRevSl
import PyProof.AttrMissSeq
import KE.KDictOf
import KE.KxText
import PyProof.StationsW
import PyProof.Rows.Catch
import PyProof.ExcClass3
import PyProof.ExcBaseAll.ValueError
import OpenK.KOwn
import KE.KIsAll
import PyProof.ExcAttrAll.ValueError
import PyProof.Rows.Range3
import PyProof.ZipIter
import PyProof.Draws
import PyProof.TupleIter
import PyProof.Rows.ZipGen
import PyProof.WalksMore
import PyProof.Rows.InDataRows
import PyProof.Rows.SetFrom
import PyProof.ListMulRoad
import PyProof.StrOps2
import PyProof.FactsAll.tuple_2
import PyProof.RulesTry
import PySem.Challenge.RW_kinnames_k40_drawing
set_option Elab.async false
set_option linter.all false
set_option maxRecDepth 100000
set_option maxHeartbeats 4000000
section
namespace L2
open PySem
def inClass (s:Stmt) (j:Nat):Stmt:=match s with
 | .ClassDef _ _ _ body _ _ _ _ _ _ _=>body.getD j (.Pass ⟨0,0,0,0⟩)
 | _=>.Pass ⟨0,0,0,0⟩
def defArgs (s:Stmt):Arguments:=match s with
 | .FunctionDef _ a _ _ _ _ _ _ _ _=>a
 | _=>{ posonlyargs:=[],args:=[],vararg:=none,kwonlyargs:=[],kw_defaults:=[],kwarg:=none,defaults:=[] }
def defBody (s:Stmt):List Stmt:=match s with
 | .FunctionDef _ _ b _ _ _ _ _ _ _=>b
 | _=>[]
def defScope (s:Stmt):Scope:=match s with
 | .FunctionDef _ _ _ _ _ _ sc _ _ _=>sc
 | _=>{ kind:=.function,names:=[],isGenerator:=false,isCoroutine:=false }
end L2
namespace Kn
open PySem
def top (i:Nat):Stmt:=PySem.Challenge.pw_kinnames_k40_drawing.main.body.getD i (.Pass ⟨0,0,0,0⟩)
end Kn
namespace Kn
open PySem PySem.W PyProof.Rows
def topRunT (tb:String->Option Builtin) (p:Program) (w:World) (n₀:Nat) (ann:Option Value):Nat->SharedT->Thread->Option SharedT
 | 0,_,_=>none
 | n+1,s,t=>match through t with
  | true=>some s
  | false=>match stepOk n₀ ann t with
   | false=>none
   | true=>match stepT (denote tb) p w s t with
    | some (s',t')=>topRunT tb p w n₀ ann n s' t'
    | none=>none
theorem topRun_of {tb:String->Option Builtin}{p:Program}{w:World}{n₀:Nat}{ann:Option Value}:∀ {n:Nat}{s s':SharedT}{t:Thread},topRunT tb p w n₀ ann n s t=some s'->topRun tb p w n₀ ann n s.abs t=some s'.abs
 | 0,_,_,_,h=>by cases h
 | n+1,s,s',t,h=>by
  unfold topRunT at h
  unfold topRun
  cases he:through t with
  | true=>rw [he] at h; cases h; rfl
  | false =>
   rw [he] at h
   cases hk:stepOk n₀ ann t with
   | false=>rw [hk] at h; cases h
   | true =>
    rw [hk] at h
    cases hs:stepT (denote tb) p w s t with
    | none=>rw [hs] at h; cases h
    | some r=>obtain ⟨s₂,t₂⟩:=r; rw [hs] at h; rw [stepT_spec hs]; exact topRun_of h
def insAll:List Obj->Nat->BT->Option BT
 | [],_,T=>some T
 | o::os,n,T=>match ((T.ins n o).get n).isSome with
  | true=>insAll os (n+1) (T.ins n o)
  | false=>none
theorem insAll_abs {life:Life}:∀ {os:List Obj}{n:Nat}{T T':BT},insAll os n T=some T'->(absHeap T' (n+os.length) life).objs.toList=(absHeap T n life).objs.toList++os
 | [],n,T,T',h=>by cases h; simp
 | o::os,n,T,T',h=>by
  unfold insAll at h
  cases hi:((T.ins n o).get n).isSome with
  | false=>rw [hi] at h; cases h
  | true =>
   rw [hi] at h
   have h1:=insAll_abs (life:=life) h
   have h2:=absHeap_ins (life:=life) hi
   have e:n+1+os.length=n+(o::os).length:=by rw [List.length_cons]; omega
   rw [<- e,h1,h2]
   show ((absHeap T n life).objs.push o).toList++os=_
   rw [Array.toList_push,List.append_assoc]; rfl
theorem insAll_of {s:Shared}{T:BT} (h:insAll s.heap.objs.toList 0 .nil=some T):(SharedT.mk T s.heap.objs.size s.heap.life s.gens s.drawn s.toks s.os).abs=s:=by
 have h1:=insAll_abs (life:=s.heap.life) h
 have e0:(absHeap .nil 0 s.heap.life).objs.toList=[]:=rfl
 have e1:0+s.heap.objs.toList.length=s.heap.objs.size:=by rw [Nat.zero_add]; rfl
 rw [e0,List.nil_append,e1] at h1
 have h2:absHeap T s.heap.objs.size s.heap.life=s.heap:=by
  have h3:(absHeap T s.heap.objs.size s.heap.life).objs=s.heap.objs:=Array.toList_inj.mp h1
  have h4:(absHeap T s.heap.objs.size s.heap.life).life=s.heap.life:=rfl
  generalize absHeap T s.heap.objs.size s.heap.life=A at h3 h4
  cases A
  obtain ⟨⟨o,l⟩,_,_,_,_⟩:=s
  subst h3 h4
  rfl
 unfold SharedT.abs
 dsimp only
 rw [h2]
def topFromT (tb:String->Option Builtin) (p:Program) (w:World) (N:Nat) (s₀:Shared) (T₀:SharedT):Option Shared :=
 match s₀.heap.isNs mainGlobals && s₀.gens.size == 0 with
 | true=>(topRunT tb p w s₀.heap.objs.size (s₀.heap.nsMap mainGlobals "__annotations__") N T₀ (topStub p)).bind fun t₁=>match staticsOk (importedModules p.main.body) s₀.heap t₁.abs.heap && namesBound p t₁.abs.heap && gensDone t₁.abs && laidKept s₀.heap t₁.abs.heap with
   | true=>some t₁.abs
   | false=>none
 | false=>none
theorem topFrom_of {tb:String->Option Builtin}{p:Program}{w:World}{N:Nat}{s₀:Shared}{T₀:SharedT}{s₁:Shared} (e:T₀.abs=s₀) (h:topFromT tb p w N s₀ T₀=some s₁):topFrom tb p w N s₀=some s₁:=by
 unfold topFromT at h
 unfold topFrom
 cases hb:s₀.heap.isNs mainGlobals && s₀.gens.size == 0 with
 | false=>rw [hb] at h; cases h
 | true =>
  rw [hb] at h
  dsimp only at h ⊢
  obtain ⟨t₁,h1,h2⟩:=Option.bind_eq_some_iff.mp h
  have h3:=topRun_of h1
  rw [e] at h3
  rw [h3]
  exact h2
def openEndsT (tb:String->Option Builtin) (p:Program) (w:World) (N:Nat):Option Shared:=(fencedOpening tb p w N).bind fun s₀=>(insAll s₀.heap.objs.toList 0 .nil).bind fun T=>topFromT tb p w N s₀ ⟨T,s₀.heap.objs.size,s₀.heap.life,s₀.gens,s₀.drawn,s₀.toks,s₀.os⟩
theorem openEnds_of {tb:String->Option Builtin}{p:Program}{w:World}{N:Nat}{s₁:Shared} (h:openEndsT tb p w N=some s₁):openEnds tb p w N=some s₁:=by
 obtain ⟨s₀,h1,h2⟩:=Option.bind_eq_some_iff.mp h
 obtain ⟨T,h3,h4⟩:=Option.bind_eq_some_iff.mp h2
 unfold openEnds
 rw [h1]
 exact topFrom_of (insAll_of h3) h4
theorem openMap_of {tb:String->Option Builtin}{p:Program}{w:World}{N:Nat}{α:Type}{F:Shared->α}{r:α} (h:(openEndsT tb p w N).map F=some r):(openEnds tb p w N).map F=some r:=by
 obtain ⟨s₁,h1,h2⟩:=Option.map_eq_some_iff.mp h
 rw [openEnds_of h1,Option.map_some,h2]
end Kn
open PySem PySem.W PyProof.Rows
namespace Kn
open L2
def kE (P:Params) (x:Str) (t:Nat) (v:Value):DictEntry:=⟨PyData.keyHash P x,.str x t,v⟩
def kF (s:Stmt) (nm qn:Str) (df kd doc pm:Value) (an:Option Addr) (cd ct:Value) (c:Value) (d:Option Addr) (sl:Array (Option Value)):Obj :=
 ⟨c,d,.func (PySem.W.fnOf nm qn (defArgs s) (defBody s) (defScope s) df kd doc pm an cd ct),sl⟩
noncomputable def kfr:Params->Frag:=fun P=>(nat_lit 2,⟨.none,none,.dict #[] 0,#[]⟩) ::
 (nat_lit 3,⟨(.type "dict"),none,.dict #[kE P (.ofString "__name__") 165 (.str (.ofString "law_kinnames_k40_drawing") 583),kE P (.ofString "__doc__") 166 .none,kE P (.ofString "__package__") 167 .none,kE P (.ofString "__loader__") 168 (.builtin "__main__.__loader__#opaque"),kE P (.ofString "__spec__") 169 .none,kE P (.ofString "__annotations__") 170 (.ref 6),kE P (.ofString "__builtins__") 171 (.ref 4),kE P (.ofString "__file__") 173 (.str (.ofString "/claim/cut.py") 172),kE P (.ofString "__cached__") 174 .none,kE P (.ofString "LikeError") 206 (.ref 24),kE P (.ofString "NoBook") 222 (.ref 37),kE P (.ofString "NoOrder") 238 (.ref 49),kE P (.ofString "NoName") 254 (.ref 61),kE P (.ofString "NoWish") 270 (.ref 73),kE P (.ofString "NoNumber") 286 (.ref 85),kE P (.ofString "NotMade") 302 (.ref 97),kE P (.ofString "TooShort") 318 (.ref 109),kE P (.ofString "Nothing") 334 (.ref 121),kE P (.ofString "LETTERS") 338 (.str (.ofString "abcdefghijklmnopqrstuvwxyz") 337),kE P (.ofString "MOST_LETTERS") 340 (.int (8) 339),kE P (.ofString "MOST_NAMES") 342 (.int (8) 341),kE P (.ofString "MOST_ORDER") 344 (.int (3) 343),kE P (.ofString "is_name") 350 (.ref 128),kE P (.ofString "is_book") 356 (.ref 133),kE P (.ofString "is_whole") 365 (.ref 140),kE P (.ofString "is_order") 372 (.ref 147),kE P (.ofString "is_rising") 378 (.ref 152),kE P (.ofString "need_book") 385 (.ref 159),kE P (.ofString "need_order") 392 (.ref 166),kE P (.ofString "need_name") 399 (.ref 173),kE P (.ofString "end_of") 407 (.ref 180),kE P (.ofString "ends_and_letters") 413 (.ref 185),kE P (.ofString "counted_rows") 426 (.ref 192),kE P (.ofString "LEAST") 430 (.int (0) 429),kE P (.ofString "MOST") 432 (.int (1) 431),kE P (.ofString "HEAD") 434 (.int (2) 433),kE P (.ofString "TAIL") 436 (.int (3) 435),kE P (.ofString "BARRED") 438 (.int (4) 437),kE P (.ofString "TOLD") 440 (.int (5) 439),kE P (.ofString "MANY_PARTS") 442 (.int (6) 441),kE P (.ofString "MOST_EDGE") 444 (.int (3) 443),kE P (.ofString "MOST_BARRED") 446 (.int (6) 445),kE P (.ofString "is_edge") 453 (.ref 199),kE P (.ofString "is_barred") 459 (.ref 204),kE P (.ofString "is_wish") 466 (.ref 211),kE P (.ofString "need_wish") 473 (.ref 218),kE P (.ofString "has_form") 481 (.ref 225),kE P (.ofString "left_out") 489 (.ref 232),kE P (.ofString "MOST_NUMBERS") 493 (.int (99) 492),kE P (.ofString "GREATEST_NUMBER") 495 (.int (9999) 494),kE P (.ofString "are_numbers") 501 (.ref 237),kE P (.ofString "need_numbers") 508 (.ref 244),kE P (.ofString "pot_of") 517 (.ref 251),kE P (.ofString "pots_by_end") 523 (.ref 256),kE P (.ofString "drawn_from") 537 (.ref 263),kE P (.ofString "drawn") 546 (.ref 270),kE P (.ofString "first_drawn") 559 (.ref 277),kE P (.ofString "drawn_fitting") 569 (.ref 284),kE P (.ofString "numbers_for") 582 (.ref 291),kE P (.ofString "_law_cell") 592 (.ref 298),kE P (.ofString "_law_drawn") 602 (.ref 305),kE P (.ofString "_law_name") 608 (.ref 310),kE P (.ofString "_law_book") 620 (.ref 317),kE P (.ofString "_law_counts") 633 (.ref 324),kE P (.ofString "_law_row") 643 (.ref 331),kE P (.ofString "_law_lowest") 653 (.ref 338),kE P (.ofString "_law_share") 659 (.ref 343),kE P (.ofString "_law_sum") 669 (.ref 350),kE P (.ofString "_law_made") 675 (.ref 355),kE P (.ofString "_law_wish") 690 (.ref 362),kE P (.ofString "_law_fits") 699 (.ref 369),kE P (.ofString "_law_refused") 707 (.ref 376),kE P (.ofString "_law_told") 719 (.ref 383),kE P (.ofString "_law_picked") 729 (.ref 390),kE P (.ofString "_law_drawn_text") 742 (.ref 397),kE P (.ofString "_law_drawn_fitting") 754 (.ref 404),kE P (.ofString "_law_numbers") 760 (.ref 409),kE P (.ofString "law") 766 (.ref 414)] 78,#[]⟩) ::
 (nat_lit 23,⟨(.type "dict"),none,.dict #[kE P (.ofString "__module__") 196 (.str (.ofString "kinnames.errors") 187),kE P (.ofString "__firstlineno__") 200 (.int (2) 199),kE P (.ofString "__static_attributes__") 201 (.ref 22),kE P (.ofString "__weakref__") 203 (.ref 25),kE P (.ofString "__doc__") 204 .none] 3,#[]⟩) ::
 (nat_lit 24,⟨(.type "type"),none,.cls ⟨(.ofString "LikeError"),[(.type "ValueError")],[(.ref 24),(.type "ValueError"),(.type "Exception"),(.type "BaseException"),(.type "object")],23,(.ofString "LikeError"),true,[],[(.ref 37),(.ref 49),(.ref 61),(.ref 73),(.ref 85),(.ref 97),(.ref 109),(.ref 121)],false,none,false⟩,#[(some (.ref 15)),none,(some (.str (.ofString "LikeError") 189)),(some (.str (.ofString "LikeError") 197)),(some (.builtin "ValueError.__new__")),(some (.bool true))]⟩) ::
 (nat_lit 25,⟨(.type "getset_descriptor"),none,.fields #[(.str (.ofString "__weakref__") 202),(.ref 24),(.builtin "ExceptionGroup.__weakref__"),.none],#[]⟩) ::
 (nat_lit 36,⟨(.type "dict"),none,.dict #[kE P (.ofString "__module__") 214 (.str (.ofString "kinnames.errors") 187),kE P (.ofString "__firstlineno__") 218 (.int (4) 217),kE P (.ofString "__static_attributes__") 219 (.ref 35),kE P (.ofString "__doc__") 220 .none] 2,#[]⟩) ::
 (nat_lit 37,⟨(.type "type"),none,.cls ⟨(.ofString "NoBook"),[(.ref 24)],[(.ref 37),(.ref 24),(.type "ValueError"),(.type "Exception"),(.type "BaseException"),(.type "object")],36,(.ofString "NoBook"),true,[],[],false,none,false⟩,#[(some (.ref 28)),none,(some (.str (.ofString "NoBook") 207)),(some (.str (.ofString "NoBook") 215)),(some (.builtin "ValueError.__new__")),(some (.bool true))]⟩) ::
 (nat_lit 48,⟨(.type "dict"),none,.dict #[kE P (.ofString "__module__") 230 (.str (.ofString "kinnames.errors") 187),kE P (.ofString "__firstlineno__") 234 (.int (6) 233),kE P (.ofString "__static_attributes__") 235 (.ref 47),kE P (.ofString "__doc__") 236 .none] 2,#[]⟩) ::
 (nat_lit 49,⟨(.type "type"),none,.cls ⟨(.ofString "NoOrder"),[(.ref 24)],[(.ref 49),(.ref 24),(.type "ValueError"),(.type "Exception"),(.type "BaseException"),(.type "object")],48,(.ofString "NoOrder"),true,[],[],false,none,false⟩,#[(some (.ref 40)),none,(some (.str (.ofString "NoOrder") 223)),(some (.str (.ofString "NoOrder") 231)),(some (.builtin "ValueError.__new__")),(some (.bool true))]⟩) ::
 (nat_lit 60,⟨(.type "dict"),none,.dict #[kE P (.ofString "__module__") 246 (.str (.ofString "kinnames.errors") 187),kE P (.ofString "__firstlineno__") 250 (.int (8) 249),kE P (.ofString "__static_attributes__") 251 (.ref 59),kE P (.ofString "__doc__") 252 .none] 2,#[]⟩) ::
 (nat_lit 61,⟨(.type "type"),none,.cls ⟨(.ofString "NoName"),[(.ref 24)],[(.ref 61),(.ref 24),(.type "ValueError"),(.type "Exception"),(.type "BaseException"),(.type "object")],60,(.ofString "NoName"),true,[],[],false,none,false⟩,#[(some (.ref 52)),none,(some (.str (.ofString "NoName") 239)),(some (.str (.ofString "NoName") 247)),(some (.builtin "ValueError.__new__")),(some (.bool true))]⟩) ::
 (nat_lit 72,⟨(.type "dict"),none,.dict #[kE P (.ofString "__module__") 262 (.str (.ofString "kinnames.errors") 187),kE P (.ofString "__firstlineno__") 266 (.int (10) 265),kE P (.ofString "__static_attributes__") 267 (.ref 71),kE P (.ofString "__doc__") 268 .none] 2,#[]⟩) ::
 (nat_lit 73,⟨(.type "type"),none,.cls ⟨(.ofString "NoWish"),[(.ref 24)],[(.ref 73),(.ref 24),(.type "ValueError"),(.type "Exception"),(.type "BaseException"),(.type "object")],72,(.ofString "NoWish"),true,[],[],false,none,false⟩,#[(some (.ref 64)),none,(some (.str (.ofString "NoWish") 255)),(some (.str (.ofString "NoWish") 263)),(some (.builtin "ValueError.__new__")),(some (.bool true))]⟩) ::
 (nat_lit 84,⟨(.type "dict"),none,.dict #[kE P (.ofString "__module__") 278 (.str (.ofString "kinnames.errors") 187),kE P (.ofString "__firstlineno__") 282 (.int (12) 281),kE P (.ofString "__static_attributes__") 283 (.ref 83),kE P (.ofString "__doc__") 284 .none] 2,#[]⟩) ::
 (nat_lit 85,⟨(.type "type"),none,.cls ⟨(.ofString "NoNumber"),[(.ref 24)],[(.ref 85),(.ref 24),(.type "ValueError"),(.type "Exception"),(.type "BaseException"),(.type "object")],84,(.ofString "NoNumber"),true,[],[],false,none,false⟩,#[(some (.ref 76)),none,(some (.str (.ofString "NoNumber") 271)),(some (.str (.ofString "NoNumber") 279)),(some (.builtin "ValueError.__new__")),(some (.bool true))]⟩) ::
 (nat_lit 96,⟨(.type "dict"),none,.dict #[kE P (.ofString "__module__") 294 (.str (.ofString "kinnames.errors") 187),kE P (.ofString "__firstlineno__") 298 (.int (14) 297),kE P (.ofString "__static_attributes__") 299 (.ref 95),kE P (.ofString "__doc__") 300 .none] 2,#[]⟩) ::
 (nat_lit 97,⟨(.type "type"),none,.cls ⟨(.ofString "NotMade"),[(.ref 24)],[(.ref 97),(.ref 24),(.type "ValueError"),(.type "Exception"),(.type "BaseException"),(.type "object")],96,(.ofString "NotMade"),true,[],[],false,none,false⟩,#[(some (.ref 88)),none,(some (.str (.ofString "NotMade") 287)),(some (.str (.ofString "NotMade") 295)),(some (.builtin "ValueError.__new__")),(some (.bool true))]⟩) ::
 (nat_lit 108,⟨(.type "dict"),none,.dict #[kE P (.ofString "__module__") 310 (.str (.ofString "kinnames.errors") 187),kE P (.ofString "__firstlineno__") 314 (.int (16) 313),kE P (.ofString "__static_attributes__") 315 (.ref 107),kE P (.ofString "__doc__") 316 .none] 2,#[]⟩) ::
 (nat_lit 109,⟨(.type "type"),none,.cls ⟨(.ofString "TooShort"),[(.ref 24)],[(.ref 109),(.ref 24),(.type "ValueError"),(.type "Exception"),(.type "BaseException"),(.type "object")],108,(.ofString "TooShort"),true,[],[],false,none,false⟩,#[(some (.ref 100)),none,(some (.str (.ofString "TooShort") 303)),(some (.str (.ofString "TooShort") 311)),(some (.builtin "ValueError.__new__")),(some (.bool true))]⟩) ::
 (nat_lit 120,⟨(.type "dict"),none,.dict #[kE P (.ofString "__module__") 326 (.str (.ofString "kinnames.errors") 187),kE P (.ofString "__firstlineno__") 330 (.int (18) 329),kE P (.ofString "__static_attributes__") 331 (.ref 119),kE P (.ofString "__doc__") 332 .none] 2,#[]⟩) ::
 (nat_lit 121,⟨(.type "type"),none,.cls ⟨(.ofString "Nothing"),[(.ref 24)],[(.ref 121),(.ref 24),(.type "ValueError"),(.type "Exception"),(.type "BaseException"),(.type "object")],120,(.ofString "Nothing"),true,[],[],false,none,false⟩,#[(some (.ref 112)),none,(some (.str (.ofString "Nothing") 319)),(some (.str (.ofString "Nothing") 327)),(some (.builtin "ValueError.__new__")),(some (.bool true))]⟩) ::
 (nat_lit 127,⟨(.type "code"),none,.fields #[(.str (.ofString "is_name") 345),(.str (.ofString "is_name") 346),(.str (.ofString "/claim/cut.py") 347),(.int (25) 0),(.int (1) 0),(.int (0) 0),(.int (0) 0),(.int (3) 0),(.ref 124),(.bool true),(.int (181) 0),(.ref 125),.none,.none,.none,(.ref 126),(.int (348) 0),(.int (25) 0),(.str (.ofString "/claim/cut.py") 349)],#[]⟩) ::
 (nat_lit 128,kF (top 15) (.ofString "is_name") (.ofString "is_name") .none .none .none (.str (.ofString "kinnames.books") 335) none (.ref 127) .none (.type "function") none #[]) ::
 (nat_lit 132,⟨(.type "code"),none,.fields #[(.str (.ofString "is_book") 351),(.str (.ofString "is_book") 352),(.str (.ofString "/claim/cut.py") 353),(.int (29) 0),(.int (1) 0),(.int (0) 0),(.int (0) 0),(.int (3) 0),(.ref 129),(.bool true),(.int (181) 0),(.ref 130),.none,.none,.none,(.ref 131),(.int (354) 0),(.int (29) 0),(.str (.ofString "/claim/cut.py") 355)],#[]⟩) ::
 (nat_lit 133,kF (top 16) (.ofString "is_book") (.ofString "is_book") .none .none .none (.str (.ofString "kinnames.books") 335) none (.ref 132) .none (.type "function") none #[]) ::
 (nat_lit 139,⟨(.type "code"),none,.fields #[(.str (.ofString "is_whole") 357),(.str (.ofString "is_whole") 358),(.str (.ofString "/claim/cut.py") 359),(.int (33) 0),(.int (3) 0),(.int (0) 0),(.int (0) 0),(.int (3) 0),(.ref 134),(.bool true),(.int (181) 0),(.ref 135),.none,(.ref 136),(.ref 137),(.ref 138),(.int (363) 0),(.int (33) 0),(.str (.ofString "/claim/cut.py") 364)],#[]⟩) ::
 (nat_lit 140,kF (top 17) (.ofString "is_whole") (.ofString "is_whole") .none .none .none (.str (.ofString "kinnames.books") 335) none (.ref 139) .none (.type "function") none #[]) ::
 (nat_lit 146,⟨(.type "code"),none,.fields #[(.str (.ofString "is_order") 366),(.str (.ofString "is_order") 367),(.str (.ofString "/claim/cut.py") 368),(.int (37) 0),(.int (1) 0),(.int (0) 0),(.int (0) 0),(.int (3) 0),(.ref 141),(.bool true),(.int (181) 0),(.ref 142),.none,(.ref 143),(.ref 144),(.ref 145),(.int (370) 0),(.int (37) 0),(.str (.ofString "/claim/cut.py") 371)],#[]⟩) ::
 (nat_lit 147,kF (top 18) (.ofString "is_order") (.ofString "is_order") .none .none .none (.str (.ofString "kinnames.books") 335) none (.ref 146) .none (.type "function") none #[]) ::
 (nat_lit 151,⟨(.type "code"),none,.fields #[(.str (.ofString "is_rising") 373),(.str (.ofString "is_rising") 374),(.str (.ofString "/claim/cut.py") 375),(.int (39) 0),(.int (1) 0),(.int (0) 0),(.int (0) 0),(.int (3) 0),(.ref 148),(.bool true),(.int (181) 0),(.ref 149),.none,.none,.none,(.ref 150),(.int (376) 0),(.int (39) 0),(.str (.ofString "/claim/cut.py") 377)],#[]⟩) ::
 (nat_lit 152,kF (top 19) (.ofString "is_rising") (.ofString "is_rising") .none .none .none (.str (.ofString "kinnames.books") 335) none (.ref 151) .none (.type "function") none #[]) ::
 (nat_lit 158,⟨(.type "code"),none,.fields #[(.str (.ofString "need_book") 379),(.str (.ofString "need_book") 380),(.str (.ofString "/claim/cut.py") 381),(.int (41) 0),(.int (1) 0),(.int (0) 0),(.int (0) 0),(.int (3) 0),(.ref 153),(.bool true),(.int (181) 0),(.ref 154),.none,(.ref 155),(.ref 156),(.ref 157),(.int (383) 0),(.int (41) 0),(.str (.ofString "/claim/cut.py") 384)],#[]⟩) ::
 (nat_lit 159,kF (top 20) (.ofString "need_book") (.ofString "need_book") .none .none .none (.str (.ofString "kinnames.books") 335) none (.ref 158) .none (.type "function") none #[]) ::
 (nat_lit 165,⟨(.type "code"),none,.fields #[(.str (.ofString "need_order") 386),(.str (.ofString "need_order") 387),(.str (.ofString "/claim/cut.py") 388),(.int (44) 0),(.int (1) 0),(.int (0) 0),(.int (0) 0),(.int (3) 0),(.ref 160),(.bool true),(.int (181) 0),(.ref 161),.none,(.ref 162),(.ref 163),(.ref 164),(.int (390) 0),(.int (44) 0),(.str (.ofString "/claim/cut.py") 391)],#[]⟩) ::
 (nat_lit 166,kF (top 21) (.ofString "need_order") (.ofString "need_order") .none .none .none (.str (.ofString "kinnames.books") 335) none (.ref 165) .none (.type "function") none #[]) ::
 (nat_lit 172,⟨(.type "code"),none,.fields #[(.str (.ofString "need_name") 393),(.str (.ofString "need_name") 394),(.str (.ofString "/claim/cut.py") 395),(.int (47) 0),(.int (1) 0),(.int (0) 0),(.int (0) 0),(.int (3) 0),(.ref 167),(.bool true),(.int (181) 0),(.ref 168),.none,(.ref 169),(.ref 170),(.ref 171),(.int (397) 0),(.int (47) 0),(.str (.ofString "/claim/cut.py") 398)],#[]⟩) ::
 (nat_lit 173,kF (top 22) (.ofString "need_name") (.ofString "need_name") .none .none .none (.str (.ofString "kinnames.books") 335) none (.ref 172) .none (.type "function") none #[]) ::
 (nat_lit 179,⟨(.type "code"),none,.fields #[(.str (.ofString "end_of") 400),(.str (.ofString "end_of") 401),(.str (.ofString "/claim/cut.py") 402),(.int (50) 0),(.int (2) 0),(.int (0) 0),(.int (0) 0),(.int (3) 0),(.ref 174),(.bool true),(.int (181) 0),(.ref 175),.none,(.ref 176),(.ref 177),(.ref 178),(.int (405) 0),(.int (50) 0),(.str (.ofString "/claim/cut.py") 406)],#[]⟩) ::
 (nat_lit 180,kF (top 23) (.ofString "end_of") (.ofString "end_of") .none .none .none (.str (.ofString "kinnames.books") 335) none (.ref 179) .none (.type "function") none #[]) ::
 (nat_lit 184,⟨(.type "code"),none,.fields #[(.str (.ofString "ends_and_letters") 408),(.str (.ofString "ends_and_letters") 409),(.str (.ofString "/claim/cut.py") 410),(.int (52) 0),(.int (2) 0),(.int (0) 0),(.int (0) 0),(.int (3) 0),(.ref 181),(.bool true),(.int (181) 0),(.ref 182),.none,.none,.none,(.ref 183),(.int (411) 0),(.int (52) 0),(.str (.ofString "/claim/cut.py") 412)],#[]⟩) ::
 (nat_lit 185,kF (top 24) (.ofString "ends_and_letters") (.ofString "ends_and_letters") .none .none .none (.str (.ofString "kinnames.books") 335) none (.ref 184) .none (.type "function") none #[]) ::
 (nat_lit 191,⟨(.type "code"),none,.fields #[(.str (.ofString "counted_rows") 414),(.str (.ofString "counted_rows") 415),(.str (.ofString "/claim/cut.py") 416),(.int (54) 0),(.int (2) 0),(.int (0) 0),(.int (0) 0),(.int (3) 0),(.ref 186),(.bool true),(.int (181) 0),(.ref 187),.none,(.ref 188),(.ref 189),(.ref 190),(.int (424) 0),(.int (54) 0),(.str (.ofString "/claim/cut.py") 425)],#[]⟩) ::
 (nat_lit 192,kF (top 25) (.ofString "counted_rows") (.ofString "counted_rows") .none .none .none (.str (.ofString "kinnames.books") 335) none (.ref 191) .none (.type "function") none #[]) ::
 (nat_lit 198,⟨(.type "code"),none,.fields #[(.str (.ofString "is_edge") 447),(.str (.ofString "is_edge") 448),(.str (.ofString "/claim/cut.py") 449),(.int (71) 0),(.int (1) 0),(.int (0) 0),(.int (0) 0),(.int (3) 0),(.ref 193),(.bool true),(.int (181) 0),(.ref 194),.none,(.ref 195),(.ref 196),(.ref 197),(.int (451) 0),(.int (71) 0),(.str (.ofString "/claim/cut.py") 452)],#[]⟩) ::
 (nat_lit 199,kF (top 36) (.ofString "is_edge") (.ofString "is_edge") .none .none .none (.str (.ofString "kinnames.wishes") 427) none (.ref 198) .none (.type "function") none #[]) ::
 (nat_lit 203,⟨(.type "code"),none,.fields #[(.str (.ofString "is_barred") 454),(.str (.ofString "is_barred") 455),(.str (.ofString "/claim/cut.py") 456),(.int (73) 0),(.int (1) 0),(.int (0) 0),(.int (0) 0),(.int (3) 0),(.ref 200),(.bool true),(.int (181) 0),(.ref 201),.none,.none,.none,(.ref 202),(.int (457) 0),(.int (73) 0),(.str (.ofString "/claim/cut.py") 458)],#[]⟩) ::
 (nat_lit 204,kF (top 37) (.ofString "is_barred") (.ofString "is_barred") .none .none .none (.str (.ofString "kinnames.wishes") 427) none (.ref 203) .none (.type "function") none #[]) ::
 (nat_lit 210,⟨(.type "code"),none,.fields #[(.str (.ofString "is_wish") 460),(.str (.ofString "is_wish") 461),(.str (.ofString "/claim/cut.py") 462),(.int (77) 0),(.int (1) 0),(.int (0) 0),(.int (0) 0),(.int (3) 0),(.ref 205),(.bool true),(.int (181) 0),(.ref 206),.none,(.ref 207),(.ref 208),(.ref 209),(.int (464) 0),(.int (77) 0),(.str (.ofString "/claim/cut.py") 465)],#[]⟩) ::
 (nat_lit 211,kF (top 38) (.ofString "is_wish") (.ofString "is_wish") .none .none .none (.str (.ofString "kinnames.wishes") 427) none (.ref 210) .none (.type "function") none #[]) ::
 (nat_lit 217,⟨(.type "code"),none,.fields #[(.str (.ofString "need_wish") 467),(.str (.ofString "need_wish") 468),(.str (.ofString "/claim/cut.py") 469),(.int (85) 0),(.int (1) 0),(.int (0) 0),(.int (0) 0),(.int (3) 0),(.ref 212),(.bool true),(.int (181) 0),(.ref 213),.none,(.ref 214),(.ref 215),(.ref 216),(.int (471) 0),(.int (85) 0),(.str (.ofString "/claim/cut.py") 472)],#[]⟩) ::
 (nat_lit 218,kF (top 39) (.ofString "need_wish") (.ofString "need_wish") .none .none .none (.str (.ofString "kinnames.wishes") 427) none (.ref 217) .none (.type "function") none #[]) ::
 (nat_lit 224,⟨(.type "code"),none,.fields #[(.str (.ofString "has_form") 474),(.str (.ofString "has_form") 475),(.str (.ofString "/claim/cut.py") 476),(.int (88) 0),(.int (2) 0),(.int (0) 0),(.int (0) 0),(.int (3) 0),(.ref 219),(.bool true),(.int (181) 0),(.ref 220),.none,(.ref 221),(.ref 222),(.ref 223),(.int (479) 0),(.int (88) 0),(.str (.ofString "/claim/cut.py") 480)],#[]⟩) ::
 (nat_lit 225,kF (top 40) (.ofString "has_form") (.ofString "has_form") .none .none .none (.str (.ofString "kinnames.wishes") 427) none (.ref 224) .none (.type "function") none #[]) ::
 (nat_lit 231,⟨(.type "code"),none,.fields #[(.str (.ofString "left_out") 482),(.str (.ofString "left_out") 483),(.str (.ofString "/claim/cut.py") 484),(.int (92) 0),(.int (2) 0),(.int (0) 0),(.int (0) 0),(.int (3) 0),(.ref 226),(.bool true),(.int (181) 0),(.ref 227),.none,(.ref 228),(.ref 229),(.ref 230),(.int (487) 0),(.int (92) 0),(.str (.ofString "/claim/cut.py") 488)],#[]⟩) ::
 (nat_lit 232,kF (top 41) (.ofString "left_out") (.ofString "left_out") .none .none .none (.str (.ofString "kinnames.wishes") 427) none (.ref 231) .none (.type "function") none #[]) ::
 (nat_lit 236,⟨(.type "code"),none,.fields #[(.str (.ofString "are_numbers") 496),(.str (.ofString "are_numbers") 497),(.str (.ofString "/claim/cut.py") 498),(.int (99) 0),(.int (1) 0),(.int (0) 0),(.int (0) 0),(.int (3) 0),(.ref 233),(.bool true),(.int (181) 0),(.ref 234),.none,.none,.none,(.ref 235),(.int (499) 0),(.int (99) 0),(.str (.ofString "/claim/cut.py") 500)],#[]⟩) ::
 (nat_lit 237,kF (top 45) (.ofString "are_numbers") (.ofString "are_numbers") .none .none .none (.str (.ofString "kinnames.drawing") 490) none (.ref 236) .none (.type "function") none #[]) ::
 (nat_lit 243,⟨(.type "code"),none,.fields #[(.str (.ofString "need_numbers") 502),(.str (.ofString "need_numbers") 503),(.str (.ofString "/claim/cut.py") 504),(.int (103) 0),(.int (1) 0),(.int (0) 0),(.int (0) 0),(.int (3) 0),(.ref 238),(.bool true),(.int (181) 0),(.ref 239),.none,(.ref 240),(.ref 241),(.ref 242),(.int (506) 0),(.int (103) 0),(.str (.ofString "/claim/cut.py") 507)],#[]⟩) ::
 (nat_lit 244,kF (top 46) (.ofString "need_numbers") (.ofString "need_numbers") .none .none .none (.str (.ofString "kinnames.drawing") 490) none (.ref 243) .none (.type "function") none #[]) ::
 (nat_lit 250,⟨(.type "code"),none,.fields #[(.str (.ofString "pot_of") 509),(.str (.ofString "pot_of") 510),(.str (.ofString "/claim/cut.py") 511),(.int (106) 0),(.int (1) 0),(.int (0) 0),(.int (0) 0),(.int (3) 0),(.ref 245),(.bool true),(.int (181) 0),(.ref 246),.none,(.ref 247),(.ref 248),(.ref 249),(.int (515) 0),(.int (106) 0),(.str (.ofString "/claim/cut.py") 516)],#[]⟩) ::
 (nat_lit 251,kF (top 47) (.ofString "pot_of") (.ofString "pot_of") .none .none .none (.str (.ofString "kinnames.drawing") 490) none (.ref 250) .none (.type "function") none #[]) ::
 (nat_lit 255,⟨(.type "code"),none,.fields #[(.str (.ofString "pots_by_end") 518),(.str (.ofString "pots_by_end") 519),(.str (.ofString "/claim/cut.py") 520),(.int (111) 0),(.int (2) 0),(.int (0) 0),(.int (0) 0),(.int (3) 0),(.ref 252),(.bool true),(.int (181) 0),(.ref 253),.none,.none,.none,(.ref 254),(.int (521) 0),(.int (111) 0),(.str (.ofString "/claim/cut.py") 522)],#[]⟩) ::
 (nat_lit 256,kF (top 48) (.ofString "pots_by_end") (.ofString "pots_by_end") .none .none .none (.str (.ofString "kinnames.drawing") 490) none (.ref 255) .none (.type "function") none #[]) ::
 (nat_lit 262,⟨(.type "code"),none,.fields #[(.str (.ofString "drawn_from") 524),(.str (.ofString "drawn_from") 525),(.str (.ofString "/claim/cut.py") 526),(.int (113) 0),(.int (4) 0),(.int (0) 0),(.int (0) 0),(.int (3) 0),(.ref 257),(.bool true),(.int (181) 0),(.ref 258),.none,(.ref 259),(.ref 260),(.ref 261),(.int (535) 0),(.int (113) 0),(.str (.ofString "/claim/cut.py") 536)],#[]⟩) ::
 (nat_lit 263,kF (top 49) (.ofString "drawn_from") (.ofString "drawn_from") .none .none .none (.str (.ofString "kinnames.drawing") 490) none (.ref 262) .none (.type "function") none #[]) ::
 (nat_lit 269,⟨(.type "code"),none,.fields #[(.str (.ofString "drawn") 538),(.str (.ofString "drawn") 539),(.str (.ofString "/claim/cut.py") 540),(.int (122) 0),(.int (3) 0),(.int (0) 0),(.int (0) 0),(.int (3) 0),(.ref 264),(.bool true),(.int (181) 0),(.ref 265),.none,(.ref 266),(.ref 267),(.ref 268),(.int (544) 0),(.int (122) 0),(.str (.ofString "/claim/cut.py") 545)],#[]⟩) ::
 (nat_lit 270,kF (top 50) (.ofString "drawn") (.ofString "drawn") .none .none .none (.str (.ofString "kinnames.drawing") 490) none (.ref 269) .none (.type "function") none #[]) ::
 (nat_lit 276,⟨(.type "code"),none,.fields #[(.str (.ofString "first_drawn") 547),(.str (.ofString "first_drawn") 548),(.str (.ofString "/claim/cut.py") 549),(.int (127) 0),(.int (5) 0),(.int (0) 0),(.int (0) 0),(.int (3) 0),(.ref 271),(.bool true),(.int (181) 0),(.ref 272),.none,(.ref 273),(.ref 274),(.ref 275),(.int (557) 0),(.int (127) 0),(.str (.ofString "/claim/cut.py") 558)],#[]⟩) ::
 (nat_lit 277,kF (top 51) (.ofString "first_drawn") (.ofString "first_drawn") .none .none .none (.str (.ofString "kinnames.drawing") 490) none (.ref 276) .none (.type "function") none #[]) ::
 (nat_lit 283,⟨(.type "code"),none,.fields #[(.str (.ofString "drawn_fitting") 560),(.str (.ofString "drawn_fitting") 561),(.str (.ofString "/claim/cut.py") 562),(.int (133) 0),(.int (4) 0),(.int (0) 0),(.int (0) 0),(.int (3) 0),(.ref 278),(.bool true),(.int (181) 0),(.ref 279),.none,(.ref 280),(.ref 281),(.ref 282),(.int (567) 0),(.int (133) 0),(.str (.ofString "/claim/cut.py") 568)],#[]⟩) ::
 (nat_lit 284,kF (top 52) (.ofString "drawn_fitting") (.ofString "drawn_fitting") .none .none .none (.str (.ofString "kinnames.drawing") 490) none (.ref 283) .none (.type "function") none #[]) ::
 (nat_lit 290,⟨(.type "code"),none,.fields #[(.str (.ofString "numbers_for") 570),(.str (.ofString "numbers_for") 571),(.str (.ofString "/claim/cut.py") 572),(.int (139) 0),(.int (3) 0),(.int (0) 0),(.int (0) 0),(.int (3) 0),(.ref 285),(.bool true),(.int (181) 0),(.ref 286),.none,(.ref 287),(.ref 288),(.ref 289),(.int (580) 0),(.int (139) 0),(.str (.ofString "/claim/cut.py") 581)],#[]⟩) ::
 (nat_lit 291,kF (top 53) (.ofString "numbers_for") (.ofString "numbers_for") .none .none .none (.str (.ofString "kinnames.drawing") 490) none (.ref 290) .none (.type "function") none #[]) ::
 (nat_lit 297,⟨(.type "code"),none,.fields #[(.str (.ofString "_law_cell") 585),(.str (.ofString "_law_cell") 586),(.str (.ofString "/claim/cut.py") 587),(.int (151) 0),(.int (2) 0),(.int (0) 0),(.int (0) 0),(.int (3) 0),(.ref 292),(.bool true),(.int (181) 0),(.ref 293),.none,(.ref 294),(.ref 295),(.ref 296),(.int (590) 0),(.int (151) 0),(.str (.ofString "/claim/cut.py") 591)],#[]⟩) ::
 (nat_lit 298,kF (top 55) (.ofString "_law_cell") (.ofString "_law_cell") .none .none .none (.str (.ofString "law_kinnames_k40_drawing") 583) none (.ref 297) .none (.type "function") none #[]) ::
 (nat_lit 304,⟨(.type "code"),none,.fields #[(.str (.ofString "_law_drawn") 593),(.str (.ofString "_law_drawn") 594),(.str (.ofString "/claim/cut.py") 595),(.int (155) 0),(.int (3) 0),(.int (0) 0),(.int (0) 0),(.int (3) 0),(.ref 299),(.bool true),(.int (181) 0),(.ref 300),.none,(.ref 301),(.ref 302),(.ref 303),(.int (600) 0),(.int (155) 0),(.str (.ofString "/claim/cut.py") 601)],#[]⟩) ::
 (nat_lit 305,kF (top 56) (.ofString "_law_drawn") (.ofString "_law_drawn") .none .none .none (.str (.ofString "law_kinnames_k40_drawing") 583) none (.ref 304) .none (.type "function") none #[]) ::
 (nat_lit 309,⟨(.type "code"),none,.fields #[(.str (.ofString "_law_name") 603),(.str (.ofString "_law_name") 604),(.str (.ofString "/claim/cut.py") 605),(.int (159) 0),(.int (3) 0),(.int (0) 0),(.int (0) 0),(.int (3) 0),(.ref 306),(.bool true),(.int (181) 0),(.ref 307),.none,.none,.none,(.ref 308),(.int (606) 0),(.int (159) 0),(.str (.ofString "/claim/cut.py") 607)],#[]⟩) ::
 (nat_lit 310,kF (top 57) (.ofString "_law_name") (.ofString "_law_name") .none .none .none (.str (.ofString "law_kinnames_k40_drawing") 583) none (.ref 309) .none (.type "function") none #[]) ::
 (nat_lit 316,⟨(.type "code"),none,.fields #[(.str (.ofString "_law_book") 609),(.str (.ofString "_law_book") 610),(.str (.ofString "/claim/cut.py") 611),(.int (163) 0),(.int (4) 0),(.int (0) 0),(.int (0) 0),(.int (3) 0),(.ref 311),(.bool true),(.int (181) 0),(.ref 312),.none,(.ref 313),(.ref 314),(.ref 315),(.int (618) 0),(.int (163) 0),(.str (.ofString "/claim/cut.py") 619)],#[]⟩) ::
 (nat_lit 317,kF (top 58) (.ofString "_law_book") (.ofString "_law_book") .none .none .none (.str (.ofString "law_kinnames_k40_drawing") 583) none (.ref 316) .none (.type "function") none #[]) ::
 (nat_lit 323,⟨(.type "code"),none,.fields #[(.str (.ofString "_law_counts") 621),(.str (.ofString "_law_counts") 622),(.str (.ofString "/claim/cut.py") 623),(.int (168) 0),(.int (2) 0),(.int (0) 0),(.int (0) 0),(.int (3) 0),(.ref 318),(.bool true),(.int (181) 0),(.ref 319),.none,(.ref 320),(.ref 321),(.ref 322),(.int (631) 0),(.int (168) 0),(.str (.ofString "/claim/cut.py") 632)],#[]⟩) ::
 (nat_lit 324,kF (top 59) (.ofString "_law_counts") (.ofString "_law_counts") .none .none .none (.str (.ofString "law_kinnames_k40_drawing") 583) none (.ref 323) .none (.type "function") none #[]) ::
 (nat_lit 330,⟨(.type "code"),none,.fields #[(.str (.ofString "_law_row") 634),(.str (.ofString "_law_row") 635),(.str (.ofString "/claim/cut.py") 636),(.int (178) 0),(.int (3) 0),(.int (0) 0),(.int (0) 0),(.int (3) 0),(.ref 325),(.bool true),(.int (181) 0),(.ref 326),.none,(.ref 327),(.ref 328),(.ref 329),(.int (641) 0),(.int (178) 0),(.str (.ofString "/claim/cut.py") 642)],#[]⟩) ::
 (nat_lit 331,kF (top 60) (.ofString "_law_row") (.ofString "_law_row") .none .none .none (.str (.ofString "law_kinnames_k40_drawing") 583) none (.ref 330) .none (.type "function") none #[]) ::
 (nat_lit 361,⟨(.type "code"),none,.fields #[(.str (.ofString "_law_wish") 676),(.str (.ofString "_law_wish") 677),(.str (.ofString "/claim/cut.py") 678),(.int (213) 0),(.int (2) 0),(.int (0) 0),(.int (0) 0),(.int (3) 0),(.ref 356),(.bool true),(.int (181) 0),(.ref 357),.none,(.ref 358),(.ref 359),(.ref 360),(.int (688) 0),(.int (213) 0),(.str (.ofString "/claim/cut.py") 689)],#[]⟩) ::
 (nat_lit 362,kF (top 65) (.ofString "_law_wish") (.ofString "_law_wish") .none .none .none (.str (.ofString "law_kinnames_k40_drawing") 583) none (.ref 361) .none (.type "function") none #[]) ::
 (nat_lit 368,⟨(.type "code"),none,.fields #[(.str (.ofString "_law_fits") 691),(.str (.ofString "_law_fits") 692),(.str (.ofString "/claim/cut.py") 693),(.int (223) 0),(.int (3) 0),(.int (0) 0),(.int (0) 0),(.int (3) 0),(.ref 363),(.bool true),(.int (181) 0),(.ref 364),.none,(.ref 365),(.ref 366),(.ref 367),(.int (697) 0),(.int (223) 0),(.str (.ofString "/claim/cut.py") 698)],#[]⟩) ::
 (nat_lit 369,kF (top 66) (.ofString "_law_fits") (.ofString "_law_fits") .none .none .none (.str (.ofString "law_kinnames_k40_drawing") 583) none (.ref 368) .none (.type "function") none #[]) ::
 (nat_lit 375,⟨(.type "code"),none,.fields #[(.str (.ofString "_law_refused") 700),(.str (.ofString "_law_refused") 701),(.str (.ofString "/claim/cut.py") 702),(.int (229) 0),(.int (1) 0),(.int (0) 0),(.int (0) 0),(.int (3) 0),(.ref 370),(.bool true),(.int (181) 0),(.ref 371),.none,(.ref 372),(.ref 373),(.ref 374),(.int (705) 0),(.int (229) 0),(.str (.ofString "/claim/cut.py") 706)],#[]⟩) ::
 (nat_lit 376,kF (top 67) (.ofString "_law_refused") (.ofString "_law_refused") .none .none .none (.str (.ofString "law_kinnames_k40_drawing") 583) none (.ref 375) .none (.type "function") none #[]) ::
 (nat_lit 382,⟨(.type "code"),none,.fields #[(.str (.ofString "_law_told") 708),(.str (.ofString "_law_told") 709),(.str (.ofString "/claim/cut.py") 710),(.int (236) 0),(.int (5) 0),(.int (0) 0),(.int (0) 0),(.int (3) 0),(.ref 377),(.bool true),(.int (181) 0),(.ref 378),.none,(.ref 379),(.ref 380),(.ref 381),(.int (717) 0),(.int (236) 0),(.str (.ofString "/claim/cut.py") 718)],#[]⟩) ::
 (nat_lit 383,kF (top 68) (.ofString "_law_told") (.ofString "_law_told") .none .none .none (.str (.ofString "law_kinnames_k40_drawing") 583) none (.ref 382) .none (.type "function") none #[]) ::
 (nat_lit 389,⟨(.type "code"),none,.fields #[(.str (.ofString "_law_picked") 720),(.str (.ofString "_law_picked") 721),(.str (.ofString "/claim/cut.py") 722),(.int (243) 0),(.int (2) 0),(.int (0) 0),(.int (0) 0),(.int (3) 0),(.ref 384),(.bool true),(.int (181) 0),(.ref 385),.none,(.ref 386),(.ref 387),(.ref 388),(.int (727) 0),(.int (243) 0),(.str (.ofString "/claim/cut.py") 728)],#[]⟩) ::
 (nat_lit 390,kF (top 69) (.ofString "_law_picked") (.ofString "_law_picked") .none .none .none (.str (.ofString "law_kinnames_k40_drawing") 583) none (.ref 389) .none (.type "function") none #[]) ::
 (nat_lit 396,⟨(.type "code"),none,.fields #[(.str (.ofString "_law_drawn_text") 730),(.str (.ofString "_law_drawn_text") 731),(.str (.ofString "/claim/cut.py") 732),(.int (248) 0),(.int (3) 0),(.int (0) 0),(.int (0) 0),(.int (3) 0),(.ref 391),(.bool true),(.int (181) 0),(.ref 392),.none,(.ref 393),(.ref 394),(.ref 395),(.int (740) 0),(.int (248) 0),(.str (.ofString "/claim/cut.py") 741)],#[]⟩) ::
 (nat_lit 397,kF (top 70) (.ofString "_law_drawn_text") (.ofString "_law_drawn_text") .none .none .none (.str (.ofString "law_kinnames_k40_drawing") 583) none (.ref 396) .none (.type "function") none #[]) ::
 (nat_lit 403,⟨(.type "code"),none,.fields #[(.str (.ofString "_law_drawn_fitting") 743),(.str (.ofString "_law_drawn_fitting") 744),(.str (.ofString "/claim/cut.py") 745),(.int (256) 0),(.int (4) 0),(.int (0) 0),(.int (0) 0),(.int (3) 0),(.ref 398),(.bool true),(.int (181) 0),(.ref 399),.none,(.ref 400),(.ref 401),(.ref 402),(.int (752) 0),(.int (256) 0),(.str (.ofString "/claim/cut.py") 753)],#[]⟩) ::
 (nat_lit 404,kF (top 71) (.ofString "_law_drawn_fitting") (.ofString "_law_drawn_fitting") .none .none .none (.str (.ofString "law_kinnames_k40_drawing") 583) none (.ref 403) .none (.type "function") none #[]) ::
 (nat_lit 408,⟨(.type "code"),none,.fields #[(.str (.ofString "_law_numbers") 755),(.str (.ofString "_law_numbers") 756),(.str (.ofString "/claim/cut.py") 757),(.int (265) 0),(.int (3) 0),(.int (0) 0),(.int (0) 0),(.int (3) 0),(.ref 405),(.bool true),(.int (181) 0),(.ref 406),.none,.none,.none,(.ref 407),(.int (758) 0),(.int (265) 0),(.str (.ofString "/claim/cut.py") 759)],#[]⟩) ::
 (nat_lit 409,kF (top 72) (.ofString "_law_numbers") (.ofString "_law_numbers") .none .none .none (.str (.ofString "law_kinnames_k40_drawing") 583) none (.ref 408) .none (.type "function") none #[]) ::
 (nat_lit 413,⟨(.type "code"),none,.fields #[(.str (.ofString "law") 761),(.str (.ofString "law") 762),(.str (.ofString "/claim/cut.py") 763),(.int (274) 0),(.int (1) 0),(.int (0) 0),(.int (0) 0),(.int (3) 0),(.ref 410),(.bool true),(.int (181) 0),(.ref 411),.none,.none,.none,(.ref 412),(.int (764) 0),(.int (274) 0),(.str (.ofString "/claim/cut.py") 765)],#[]⟩) ::
 (nat_lit 414,kF (top 73) (.ofString "law") (.ofString "law") .none .none .none (.str (.ofString "law_kinnames_k40_drawing") 583) none (.ref 413) .none (.type "function") none #[])::[]
def kas:List Addr:=[2,3,23,24,25,36,37,48,49,60,61,72,73,84,85,96,97,108,109,120,121,127,128,132,133,139,140,146,147,151,152,158,159,165,166,172,173,179,180,184,185,191,192,198,199,203,204,210,211,217,218,224,225,231,232,236,237,243,244,250,251,255,256,262,263,269,270,276,277,283,284,290,291,297,298,304,305,309,310,316,317,323,324,330,331,361,362,368,369,375,376,382,383,389,390,396,397,403,404,408,409,413,414]
def kq:Program:=view PySem.Challenge.pw_kinnames_k40_drawing [1,2,3,4,5,6,7,8,9,11,12,13,14,15,16,17,18,19,20,21,22,23,24,25,27,28,29,30,31,32,33,34,35,36,37,38,39,40,41,43,44,45,46,47,48,49,50,51,52,53,55,56,57,58,59,60,61,62,63,64,65,66,67,68,69,70,71,72,73]
def klo:List Str:=[]
theorem kas_e:∀ P,kas=(kfr P).map (·.1):=fun _=>by kernel_rfl
noncomputable def hl0 (w:World):=(openEndsT treeTable PySem.Challenge.pw_kinnames_k40_drawing w 6986).map (fun s=>(seen ((recsOf kq).map (·.name)) (ownsOf kq) [] { s with gens:=#[] },s.heap.bltView))
noncomputable def hr0 (w:World):=some (expectedOf kq,bltViewBooted)
theorem hl0_e:hl0=hl0:=rfl
theorem hr0_e:hr0=hr0:=rfl
noncomputable def hl1 (w:World):=(openEndsT treeTable PySem.Challenge.pw_kinnames_k40_drawing w 6986).map (fun s=>((s.heap.keysOk (looseW kq klo) ((recsOf kq).map (·.name)) ((litsOf kq).map (·.1)) ((clssOf kq (looseW kq klo)).map (·.name)) && s.heap.accountedOkI (importedModules PySem.Challenge.pw_kinnames_k40_drawing.main.body) && s.heap.isNs mainGlobals && s.heap.isNs builtinsNs && tablesOk kq s.heap && (xlAt kq [] s && recOk [] s) && (if true=true then s.gens.size == 0 else !leftWithCleanup s.gens))))
noncomputable def hr1 (w:World):=some (true)
theorem hl1_e:hl1=hl1:=rfl
noncomputable def hl2 (w:World):=(openEndsT treeTable PySem.Challenge.pw_kinnames_k40_drawing w 6986).map (fun s=>(tabsOk kq s,pinSeenD kq (drecsOf kq) s,plainSeenE kq (looseW kq klo) s,plainSeenD kq klo s))
noncomputable def hr2 (w:World):=some (true,pinGoodD (drecsOf kq),plainGoodE kq (looseW kq klo),plainGoodD kq klo)
theorem hl2_e:hl2=hl2:=rfl
theorem hr2_e:hr2=hr2:=rfl
noncomputable def hl3 (w:World):=(openEndsT treeTable PySem.Challenge.pw_kinnames_k40_drawing w 6986).map (fun s=>(wideSeen kq s,clsSeenW kq klo s))
noncomputable def hr3 (w:World):=some (wideGood kq,clsGoodW kq klo)
theorem hl3_e:hl3=hl3:=rfl
theorem hr3_e:hr3=hr3:=rfl
noncomputable def hl4 (w:World):=(openEndsT treeTable PySem.Challenge.pw_kinnames_k40_drawing w 6986).map (fun s=>(kas.map s.heap.get?))
noncomputable def hr4 (w:World):=some ((kfr w.params).map fun p=>some p.2)
theorem hl4_e:hl4=hl4:=rfl
theorem hr4_e:hr4=hr4:=rfl
end Kn
name_quick hl0Q for Kn.hl0 by Kn.hl0_e
name_quick hr0Q for Kn.hr0 by Kn.hr0_e
theorem Kn.hq0 (w:World):PySem.W.Fast.hl0Q w=PySem.W.Fast.hr0Q w:=by kernel_rfl
theorem Kn.hx0 (w:World):Kn.hl0 w=Kn.hr0 w:=((congrFun PySem.W.Fast.hl0Q_eq w).trans (Kn.hq0 w)).trans (congrFun PySem.W.Fast.hr0Q_eq w).symm
name_quick hl1Q for Kn.hl1 by Kn.hl1_e
theorem Kn.hq1 (w:World):PySem.W.Fast.hl1Q w=Kn.hr1 w:=by kernel_rfl
theorem Kn.hx1 (w:World):Kn.hl1 w=Kn.hr1 w:=(congrFun PySem.W.Fast.hl1Q_eq w).trans (Kn.hq1 w)
name_quick hl2Q for Kn.hl2 by Kn.hl2_e
name_quick hr2Q for Kn.hr2 by Kn.hr2_e
theorem Kn.hq2 (w:World):PySem.W.Fast.hl2Q w=PySem.W.Fast.hr2Q w:=by kernel_rfl
theorem Kn.hx2 (w:World):Kn.hl2 w=Kn.hr2 w:=((congrFun PySem.W.Fast.hl2Q_eq w).trans (Kn.hq2 w)).trans (congrFun PySem.W.Fast.hr2Q_eq w).symm
name_quick hl3Q for Kn.hl3 by Kn.hl3_e
name_quick hr3Q for Kn.hr3 by Kn.hr3_e
theorem Kn.hq3 (w:World):PySem.W.Fast.hl3Q w=PySem.W.Fast.hr3Q w:=by kernel_rfl
theorem Kn.hx3 (w:World):Kn.hl3 w=Kn.hr3 w:=((congrFun PySem.W.Fast.hl3Q_eq w).trans (Kn.hq3 w)).trans (congrFun PySem.W.Fast.hr3Q_eq w).symm
name_quick hl4Q for Kn.hl4 by Kn.hl4_e
name_quick hr4Q for Kn.hr4 by Kn.hr4_e
theorem Kn.hq4 (w:World):PySem.W.Fast.hl4Q w=PySem.W.Fast.hr4Q w:=by kernel_rfl
theorem Kn.hx4 (w:World):Kn.hl4 w=Kn.hr4 w:=((congrFun PySem.W.Fast.hl4Q_eq w).trans (Kn.hq4 w)).trans (congrFun PySem.W.Fast.hr4Q_eq w).symm
theorem Kn.hl:LeftO PySem.Challenge.pw_kinnames_k40_drawing Kn.kq Kn.klo (fun s=>xlAt Kn.kq [] s && recOk [] s) (Hook.obs (kHook Kn.kfr Kn.kas Kn.kas_e)) (Hook.val (kHook Kn.kfr Kn.kas Kn.kas_e)) 6986:=fun w=>by
 refine Kn.openMap_of ?_
 obtain ⟨s,e,x0⟩:=Option.map_eq_some_iff.mp (Kn.hx0 w)
 have y1:=Kn.hx1 w
 unfold Kn.hl1 at y1
 rw [e] at y1
 have x1:=Option.some.inj y1
 have y2:=Kn.hx2 w
 unfold Kn.hl2 at y2
 rw [e] at y2
 have x2:=Option.some.inj y2
 have y3:=Kn.hx3 w
 unfold Kn.hl3 at y3
 rw [e] at y3
 have x3:=Option.some.inj y3
 have y4:=Kn.hx4 w
 unfold Kn.hl4 at y4
 rw [e] at y4
 have x4:=Option.some.inj y4
 obtain ⟨a1,z0_0⟩:=Prod.mk.inj x0
 have a2:=z0_0
 have a3:=x1
 obtain ⟨a4,z2_0⟩:=Prod.mk.inj x2
 obtain ⟨a5,z2_1⟩:=Prod.mk.inj z2_0
 obtain ⟨a6,z2_2⟩:=Prod.mk.inj z2_1
 have a7:=z2_2
 obtain ⟨a8,z3_0⟩:=Prod.mk.inj x3
 have a9:=z3_0
 have aK:=x4
 rw [e]
 exact congrArg some (looks_pair (looks_pair a1 (looks_pair a2 (looks_pair a3 (looks_pair a4 (looks_pair a5 (looks_pair a6 (looks_pair a7 (looks_pair a8 a9)))))))) aK)
end
section
namespace L2
open PySem PySem.Spec PyProof.Rows
abbrev zU:=Sum Int Str
def kH:zU->Value->Bool
 | .inl k,v=>Value.isInt k v
 | .inr x,v=>Value.isStrOf x v
def zHh (w:World):zU->Int
 | .inl k=>hashInt k
 | .inr x=>hashStr w x
theorem qT:∀ {k:zU}{v:Value},kH k v=true->(∃ i t,k=Sum.inl i/\v=Value.int i t)\/(∃ x t,k=Sum.inr x/\v=Value.str x t)
 | .inl i,v,h=>by
  obtain ⟨t,e⟩:=Value.isInt_shape (k:=i) (v:=v) h
  exact .inl ⟨i,t,rfl,e⟩
 | .inr x,v,h=>by
  obtain ⟨t,e⟩:=Value.isStrOf_shape (x:=x) (v:=v) h
  exact .inr ⟨x,t,rfl,e⟩
theorem zHi (i:Int) (t:Tok):kH (.inl i) (.int i t)=true:=by simp [kH,Value.isInt]
theorem zHj (x:Str) (t:Tok):kH (.inr x) (.str x t)=true:=by simp [kH,Value.isStrOf]
theorem zHk (a b:Int):decide ((Sum.inl a:zU)=Sum.inl b)=(a == b):=by
 by_cases e:a=b
 ·subst e; simp
 ·have h:¬ (Sum.inl a:zU)=Sum.inl b:=fun q=>e (Sum.inl.inj q)
  rw [decide_eq_false h]
  exact (beq_eq_false_iff_ne.mpr e).symm
theorem zHl (a b:Str):decide ((Sum.inr a:zU)=Sum.inr b)=decide (a=b):=by
 by_cases e:a=b
 ·subst e; simp
 ·have h:¬ (Sum.inr a:zU)=Sum.inr b:=fun q=>e (Sum.inr.inj q)
  rw [decide_eq_false h,decide_eq_false e]
theorem zHm (a:Int) (b:Str):decide ((Sum.inl a:zU)=Sum.inr b)=false:=decide_eq_false (fun q=>nomatch q)
theorem zHn (a:Str) (b:Int):decide ((Sum.inr a:zU)=Sum.inl b)=false:=decide_eq_false (fun q=>nomatch q)
def uA (prog:Program) (w:World):PySem.KeyKind prog w zU where
 is:=kH
 hash:=zHh w
 inj:=fun v a b ha hb=>by
  rcases qT ha with ⟨i,t,rfl,rfl⟩ | ⟨x,t,rfl,rfl⟩
  ·rcases qT hb with ⟨j,u,rfl,e⟩ | ⟨y,u,rfl,e⟩
   ·injection e with e1 _; rw [e1]
   ·exact nomatch e
  ·rcases qT hb with ⟨j,u,rfl,e⟩ | ⟨y,u,rfl,e⟩
   ·exact nomatch e
   ·injection e with e1 _; rw [e1]
 byValue:=fun k v h=>by
  rcases qT h with ⟨i,t,rfl,rfl⟩ | ⟨x,t,rfl,rfl⟩ <;> rfl
 pyHash:=fun hv h=>by
  rcases qT hv with ⟨i,t,rfl,rfl⟩ | ⟨x,t,rfl,rfl⟩
  ·exact wpAny_pyHash_int h
  ·exact wpAny_pyHash_str h
 eqBool:=fun hu hv h=>by
  rcases qT hu with ⟨i,t,rfl,rfl⟩ | ⟨x,t,rfl,rfl⟩
  ·rcases qT hv with ⟨j,u,rfl,rfl⟩ | ⟨y,u,rfl,rfl⟩
   ·rw [zHk] at h; exact wpAny_eqBool_int h
   ·rw [zHm] at h; exact SeqAt.EqAt.int_str i t y u _ _ _ _ h
  ·rcases qT hv with ⟨j,u,rfl,rfl⟩ | ⟨y,u,rfl,rfl⟩
   ·rw [zHn] at h; exact SeqAt.EqAt.str_int x t j u _ _ _ _ h
   ·rw [zHl] at h; exact wpAny_eqBool_str h
 «strs»:=fun k x t v h=>by
  rcases qT h with ⟨i,u,rfl,e⟩ | ⟨y,u,rfl,e⟩
  ·exact nomatch e
  ·injection e with e1 _
   subst e1
   cases v <;> rfl
abbrev y8:=Sum Str Bool
def zEG:y8->Value->Bool
 | .inl x,v=>Value.isStrOf x v
 | .inr b,v=>v == Value.bool b
theorem kI:∀ {k:y8}{v:Value},zEG k v=true->(∃ x t,k=Sum.inl x/\v=Value.str x t)\/(∃ b,k=Sum.inr b/\v=Value.bool b)
 | .inl x,v,h=>by
  obtain ⟨t,e⟩:=Value.isStrOf_shape (x:=x) (v:=v) h
  exact .inl ⟨x,t,rfl,e⟩
 | .inr b,v,h=>.inr ⟨b,rfl,eq_of_beq h⟩
def tkH (w:World):y8->Int
 | .inl x=>hashStr w x
 | .inr b=>reduceHash (if b then 1 else 0)
theorem zHo {prog:Program}{w:World}{A:Around}{E:Value->Shared->Prop}{s:Shared}{b:Bool}{Q:Int->Shared->Prop} (h:Q (reduceHash (if b then 1 else 0)) { s with toks:=s.toks+1 }) :
  wpAny (model prog w) A (pyHash (.bool b)) Q E s:=by
 refine PySem.W.pyHash_slot (T := "bool") rfl F.slot_bool_hash F.entry_int_hash (F.args_int_hash_1 _) (by decide) (.inl (by cases b <;> rfl)) ?_
 unfold Builtin.«int.__hash__»
 cases b
 ·wp_walk
  exact ⟨_,_,rfl,h⟩
 ·wp_walk
  exact ⟨_,_,rfl,h⟩
def k7 (prog:Program) (w:World):PySem.KeyKind prog w y8 where
 is:=zEG
 hash:=tkH w
 inj:=fun v a b ha hb=>by
  rcases kI ha with ⟨x,t,rfl,rfl⟩ | ⟨c,rfl,rfl⟩
  ·rcases kI hb with ⟨y,u,rfl,e⟩ | ⟨d,rfl,e⟩
   ·injection e with e1 _; rw [e1]
   ·exact nomatch e
  ·rcases kI hb with ⟨y,u,rfl,e⟩ | ⟨d,rfl,e⟩
   ·exact nomatch e
   ·injection e with e1; rw [e1]
 byValue:=fun k v h=>by
  rcases kI h with ⟨x,t,rfl,rfl⟩ | ⟨c,rfl,rfl⟩ <;> rfl
 pyHash:=fun hv h=>by
  rcases kI hv with ⟨x,t,rfl,rfl⟩ | ⟨c,rfl,rfl⟩
  ·exact wpAny_pyHash_str h
  ·exact zHo h
 eqBool:=fun hu hv h=>by
  rcases kI hu with ⟨x,t,rfl,rfl⟩ | ⟨c,rfl,rfl⟩
  ·rcases kI hv with ⟨y,u,rfl,rfl⟩ | ⟨d,rfl,rfl⟩
   ·have e:decide ((Sum.inl x:y8)=Sum.inl y)=decide (x=y):=by
     by_cases q:x=y
     ·subst q; simp
     ·rw [decide_eq_false q,decide_eq_false fun z=>q (Sum.inl.inj z)]
    rw [e] at h; exact wpAny_eqBool_str h
   ·rw [decide_eq_false (fun q=>nomatch q)] at h; exact SeqAt.EqAt.str_bool x t d _ _ _ _ h
  ·rcases kI hv with ⟨y,u,rfl,rfl⟩ | ⟨d,rfl,rfl⟩
   ·rw [decide_eq_false (fun q=>nomatch q)] at h; exact SeqAt.EqAt.bool_str c y u _ _ _ _ h
   ·refine SeqAt.EqAt.bool_bool c d _ _ _ _ ?_
    have e:decide ((Sum.inr c:y8)=Sum.inr d)=(c == d):=by cases c <;> cases d <;> rfl
    rw [<- e]; exact h
 «strs»:=fun k x t v h=>by
  rcases kI h with ⟨y,u,rfl,e⟩ | ⟨d,rfl,e⟩
  ·injection e with e1 _
   subst e1
   cases v <;> rfl
  ·exact nomatch e
theorem zHp (prog:Program) (w:World) (k:zU) (v:Value):(uA prog w).is k v=kH k v:=rfl
theorem zHq (prog:Program) (w:World) (i:Int) (t:Tok):(uA prog w).is (.inl i) (.int i t)=true:=zHi i t
theorem zEH (prog:Program) (w:World) (x:Str) (t:Tok):(uA prog w).is (.inr x) (.str x t)=true:=zHj x t
end L2
namespace L2
open PySem PySem.Spec PyProof.Rows
inductive V where
 | non | bl (b:Bool) | int (i:Int) | str (x:Str) | byt (b:Array UInt8) | flt (b:UInt64) | ref (a:Addr) | ty (n:String)
 deriving DecidableEq
def zQ:V->Value->Prop
 | .non,u=>u=Value.none
 | .bl b,u=>u=Value.bool b
 | .int i,u=>∃ t,u=Value.int i t
 | .str x,u=>∃ t,u=Value.str x t
 | .byt b,u=>∃ t,u=Value.bytes b t
 | .flt b,u=>∃ t,u=Value.float b t
 | .ref a,u=>u=Value.ref a
 | .ty n,u=>u=Value.type n
abbrev zL:List V->List Value->Prop:=Paired zQ
theorem zL.length {xs:List V}{us:List Value} (r:zL xs us):xs.length=us.length:=Paired.length r
theorem zL.get:∀ {xs:List V}{us:List Value}{i:Nat}{x:V},zL xs us->xs[i]?=some x->∃ u,us[i]?=some u/\zQ x u
 | _,_,_,_,.nil,e=>by simp at e
 | _,_,0,_,.cons r _,e=>by simp at e; subst e; exact ⟨_,rfl,r⟩
 | _,_,i+1,x,.cons _ t,e=>by
  obtain ⟨u,h1,h2⟩:=zL.get (i:=i) (x:=x) t (by simpa using e)
  exact ⟨u,by simpa using h1,h2⟩
theorem zL.set {x:V}{u:Value} (r:zQ x u):∀ {xs:List V}{us:List Value} (i:Nat),zL xs us->zL (xs.set i x) (us.set i u)
 | _,_,_,.nil=>.nil
 | _,_,0,.cons _ t=>.cons r t
 | _,_,i+1,.cons q t=>.cons q (zL.set r i t)
theorem zL.append:∀ {xs ys:List V}{us ws:List Value},zL xs us->zL ys ws->zL (xs++ys) (us++ws)
 | _,_,_,_,.nil,s=>s
 | _,_,_,_,.cons r t,s=>.cons r (zL.append t s)
theorem zL.take:∀ {xs:List V}{us:List Value} (n:Nat),zL xs us->zL (xs.take n) (us.take n)
 | _,_,0,_=>.nil
 | _,_,_+1,.nil=>.nil
 | _,_,n+1,.cons r t=>.cons r (zL.take n t)
theorem zL.drop:∀ {xs:List V}{us:List Value} (n:Nat),zL xs us->zL (xs.drop n) (us.drop n)
 | _,_,0,r=>r
 | _,_,_+1,.nil=>.nil
 | _,_,n+1,.cons _ t=>zL.drop n t
def qG:Option V->Option Value->Prop
 | some v,some u=>zQ v u
 | none,none=>True
 | _,_=>False
def KV {κ:Type}:List (κ × V)->List (κ × Value)->Prop:=Paired fun (p:κ × V) (q:κ × Value)=>p.1=q.1/\zQ p.2 q.2
def kV:zU->V
 | .inl i=>.int i
 | .inr x=>.str x
def kJ:y8->V
 | .inl x=>.str x
 | .inr b=>.bl b
inductive HO where
 | lst (xs:List V)
 | tup (xs:List V)
 | dK (kvs:List (zU × V)) | dT (kvs:List (List y8 × V))
 | set (S:Int->Bool) (n:Nat)
 | ins (C dx:Addr) (fs:List (Str × V))
 | own (x:Addr)
 | xd (fs:List (Str × V))
 | met (f x:Addr)
 | rng (lo hi:Int)
 | frz (o:Obj) (u:HO)
 | tbl (ps:Array Value)
 | ext (φ:Heap->Prop)
abbrev Hp:=Addr->Option HO
def upd (H:Hp) (a:Addr) (o:HO):Hp:=fun b=>if b=a then some o else H b
theorem zG {H:Hp}{a:Addr}{o:HO}:upd H a o a=some o:=by unfold upd; rw [if_pos rfl]
theorem zN {H:Hp}{a b:Addr}{o:HO} (h:b≠a):upd H a o b=H b:=by unfold upd; rw [if_neg h]
theorem zBD {H:Hp}{a b:Addr}{o u:HO} (h:H a=some o) (h':H b=some u) (d:o≠u):a≠b:=by
 intro e; subst e; rw [h] at h'; exact d (Option.some.inj h')
theorem vO {H:Hp}{a b:Addr}{o:HO} (h:H a=some o) (h':H b=none):a≠b:=by
 intro e; subst e; rw [h] at h'; cases h'
section
variable (P:Program) (w:World)
def yM (H:Hp) (h:Heap) (a:Addr):HO->Prop
 | .lst xs=>xs.length<=sizeLine/\∃ (its:List Value) (n:Nat),zL xs its/\h.get? a=some { cls:=.type "list",data:=.seq its.toArray n }
 | .tup xs=>xs.length<=sizeLine/\∃ its:List Value,zL xs its/\IsTup h a its.toArray
 | .dK kvs=>kvs.length<=sizeLine/\(a == sysModules)=false/\∃ vs,KV kvs vs/\h.DictOf (uA P w) a vs
 | .dT kvs=>kvs.length<=sizeLine/\(a == sysModules)=false/\∃ xs:List (List y8 × Addr × Value),
   Paired (fun (p:List y8 × V) (q:List y8 × Addr × Value)=>p.1=q.1/\H q.2.1=some (.tup (p.1.map kJ))/\zQ p.2 q.2.2) kvs xs /\
   ∃ o es ep,h.get? a=some o/\o.ExactDict/\o.data=.dict es ep/\es.toList=xs.map (entryOfKey (tupleKind (k7 P w)))/\(xs.map (·.1)).Nodup
 | .set S n=>h.SetOf (intKind P w) a S n
 | .ins C dx fs=>H dx=some (.own a)/\fs.length<=1000/\dx≠a/\h.get? a=some (PySem.W.instObj C dx) /\
   ∃ mA,h.Ns1 dx mA/\(∀ f,qG (fs.lookup f) (mA f))/\PySem.Within mA (fs.map (·.1))
 | .own _=>∃ o,h.get? a=some o
 | .xd fs=>∃ mA,h.Ns1 a mA/\∀ f,qG (fs.lookup f) (mA f)
 | .rng lo hi=>∃ t u v,h.get? a=some { cls:=.type "range",data:=.fields #[.int lo t,.int hi u,.int 1 v] }
 | .frz o u=>h.get? a=some o/\yM H h a u
 | .tbl ps=>h.get? a=some { cls:=.none,data:=.fields ps }
 | .met f x=>h.get? a=some (PySem.W.methodObj (.ref f) (.ref x))
 | .ext φ=>φ h/\(∃ o,h.get? a=some o)/\∀ h1 h2:Heap,φ h1->(∀ o,h1.get? a=some o->h2.get? a=some o)->φ h2
def zZ (H:Hp) (h:Heap):Prop:=∀ a o,H a=some o->yM P w H h a o
end
section
variable {P:Program}{w:World}{H H':Hp}{h h':Heap}{a:Addr}{o:HO}
theorem yM.lt (x:yM P w H h a o):a < h.objs.size:=by
 cases o with
 | lst xs=>obtain ⟨_,_,_,_,e⟩:=x; exact Heap.lt_size e
 | tup xs=>obtain ⟨_,_,_,p⟩:=x; exact p.lt
 | dK kvs=>obtain ⟨_,_,_,_,o,_,_,e,_⟩:=x; exact Heap.lt_size e
 | dT kvs=>obtain ⟨_,_,_,_,o,_,_,e,_⟩:=x; exact Heap.lt_size e
 | set S n=>obtain ⟨o,_,_,_,e,_⟩:=x; exact Heap.lt_size e
 | ins C dx fs=>obtain ⟨_,_,_,e,_⟩:=x; exact Heap.lt_size e
 | own y=>obtain ⟨_,e⟩:=x; exact Heap.lt_size e
 | xd fs=>obtain ⟨_,⟨_,_,_,e,_⟩,_⟩:=x; exact Heap.lt_size e
 | rng lo hi=>obtain ⟨_,_,_,e⟩:=x; exact Heap.lt_size e
 | frz ob u=>obtain ⟨e,_⟩:=x; exact Heap.lt_size e
 | tbl ps=>exact Heap.lt_size (show h.get? a=some _ from x)
 | met f y=>exact Heap.lt_size (show h.get? a=some _ from x)
 | ext φ=>obtain ⟨_,⟨_,e⟩,_⟩:=x; exact Heap.lt_size e
theorem Paired.mapP {α β:Type}{F G:α->β->Prop}:∀ {l₁:List α}{l₂:List β},Paired F l₁ l₂->(∀ a b,F a b->G a b)->Paired G l₁ l₂
 | _,_,.nil,_=>.nil
 | _,_,.cons r t,f=>.cons (f _ _ r) (Paired.mapP t f)
theorem yM.stay (x:yM P w H h a o) (k:∀ b u,(b=a\/H b=some (.own a))->h.get? b=some u->h'.get? b=some u)
  (ho:∀ b,H b=some (.own a)->H' b=some (.own a)) (ht:∀ b xs,H b=some (.tup xs)->H' b=some (.tup xs)):yM P w H' h' a o:=by
 induction o with
 | lst xs=>obtain ⟨z,its,n,r,e⟩:=x; exact ⟨z,its,n,r,k _ _ (.inl rfl) e⟩
 | tup xs=>obtain ⟨z,its,r,ob,e,c⟩:=x; exact ⟨z,its,r,ob,k _ _ (.inl rfl) e,c⟩
 | dK kvs=>obtain ⟨z,y,vs,r,ob,es,ep,e,c⟩:=x; exact ⟨z,y,vs,r,ob,es,ep,k _ _ (.inl rfl) e,c⟩
 | dT kvs =>
  obtain ⟨z,y,xs,r,ob,es,ep,e,c⟩:=x
  exact ⟨z,y,xs,Paired.mapP r fun p q z=>⟨z.1,ht _ _ z.2.1,z.2.2⟩,ob,es,ep,k _ _ (.inl rfl) e,c⟩
 | set S n=>obtain ⟨ob,es,ep,t,e,c⟩:=x; exact ⟨ob,es,ep,t,k _ _ (.inl rfl) e,c⟩
 | ins C dx fs =>
  obtain ⟨d,z,ne,e,mA,⟨od,es,ep,e2,c⟩,r⟩:=x
  exact ⟨ho _ d,z,ne,k _ _ (.inl rfl) e,mA,⟨od,es,ep,k _ _ (.inr d) e2,c⟩,r⟩
 | own y=>obtain ⟨ob,e⟩:=x; exact ⟨ob,k _ _ (.inl rfl) e⟩
 | xd fs=>obtain ⟨mA,⟨od,es,ep,e,c⟩,r⟩:=x; exact ⟨mA,⟨od,es,ep,k _ _ (.inl rfl) e,c⟩,r⟩
 | rng lo hi=>obtain ⟨t,u,v,e⟩:=x; exact ⟨t,u,v,k _ _ (.inl rfl) e⟩
 | frz ob u ih=>obtain ⟨e,q⟩:=x; exact ⟨k _ _ (.inl rfl) e,ih q⟩
 | tbl ps =>
  have e:h.get? a=some { cls:=.none,data:=.fields ps }:=x
  show h'.get? a=some { cls:=.none,data:=.fields ps }
  exact k a _ (.inl rfl) e
 | met f y =>
  have e:h.get? a=some (PySem.W.methodObj (.ref f) (.ref y)):=x
  show h'.get? a=some (PySem.W.methodObj (.ref f) (.ref y))
  exact k a _ (.inl rfl) e
 | ext φ=>obtain ⟨p,⟨o,e⟩,st⟩:=x; exact ⟨st _ _ p fun o q=>k _ _ (.inl rfl) q,⟨o,k _ _ (.inl rfl) e⟩,st⟩
theorem zZ.lt (x:zZ P w H h) (e:H a=some o):a < h.objs.size:=(x a o e).lt
theorem zZ.fresh (x:zZ P w H h) (e:h.objs.size<=a):H a=none:=by
 cases q:H a with
 | none=>rfl
 | some u=>exact absurd (Nat.lt_of_lt_of_le (x.lt q) e) (Nat.lt_irrefl _)
theorem zZ.kept (x:zZ P w H h) (k:∀ b u,h.get? b=some u->h'.get? b=some u):zZ P w H h':=fun a o e =>
 (x a o e).stay (fun b u _ q=>k b u q) (fun _ q=>q) fun _ _ q=>q
theorem zZ.laid (x:zZ P w H h) (k:∀ b u,h.get? b=some u->h'.get? b=some u) (hp:h.objs.size<=a) (new:yM P w (upd H a o) h' a o):zZ P w (upd H a o) h':=fun b u e=>by
 have hn:=x.fresh hp
 by_cases hb:b=a
 ·subst hb; rw [zG] at e; cases e; exact new
 ·rw [zN hb] at e
  exact (x b u e).stay (fun c v _ q=>k c v q) (fun c q=>by rw [zN (vO q hn)]; exact q) fun c xs q=>by rw [zN (vO q hn)]; exact q
end
def Rd (H:Hp) (a:Addr) (u:HO):Prop:=H a=some u\/∃ o,H a=some (.frz o u)
theorem Rd.ok {P:Program}{w:World}{H:Hp}{h:Heap}{a:Addr}{u:HO} (r:Rd H a u) (x:zZ P w H h):yM P w H h a u:=by
 rcases r with r | ⟨o,r⟩
 ·exact x a u r
 ·obtain ⟨_,q⟩:=x a _ r
  exact q
def Mut:Option HO->Prop
 | some (.lst _)=>True
 | some (.dK _)=>True
 | some (.dT _)=>True
 | some (.set _ _)=>True
 | some (.ins _ _ _)=>True
 | some (.ext _)=>True
 | _=>False
section
variable {P:Program}{w:World}{H:Hp}{h h':Heap}{x e:Addr}{o':HO}
theorem zZ.write (ok:zZ P w H h) (mu:Mut (H x)) (he:e=x\/H e=some (.own x)) (k:∀ b u,b≠e->h.get? b=some u->h'.get? b=some u) (heo:∃ u,h'.get? e=some u)
  (new:yM P w (upd H x o') h' x o'):zZ P w (upd H x o') h':=fun b u q=>by
 have nown:∀ c y,H c=some (.own y)->c≠x:=fun c y r z=>by subst z; rw [r] at mu; exact mu
 have ntup:∀ c xs,H c=some (.tup xs)->c≠x:=fun c xs r z=>by subst z; rw [r] at mu; exact mu
 by_cases hb:b=x
 ·subst hb; rw [zG] at q; cases q; exact new
 ·rw [zN hb] at q
  by_cases hbe:b=e
  ·have q':H b=some (.own x):=by
    rcases he with z | z
    ·exact absurd (hbe.trans z) hb
    ·rw [hbe]; exact z
   rw [q] at q'; cases q'
   obtain ⟨v,hv⟩:=heo
   exact ⟨v,by rw [hbe]; exact hv⟩
  ·refine (ok b u q).stay (fun c v hc r=>k c v ?_ r) (fun c r=>by rw [zN (nown c b r)]; exact r) fun c xs r=>by rw [zN (ntup c xs r)]; exact r
   rcases hc with rfl | hc
   ·exact hbe
   ·rintro rfl
    rcases he with z | z
    ·exact nown c b hc z
    ·rw [hc] at z; cases z; exact hb rfl
end
structure Un (fs ex:List Addr) (H H':Hp) (h h':Heap):Prop where
 keep:∀ b o,h.get? b=some o->H b=none->b ∉ fs->b ∉ ex->h'.get? b=some o
 slot:∀ b o,h.get? b=some o->H b=none->b∈fs->b ∉ ex->∃ sl,h'.get? b=some { o with slots:=sl }
 free:∀ b o,h.get? b=some o->H b=none->b ∉ ex->H' b=none
 there:∀ b o,h.get? b=some o->b ∉ ex->∃ o',h'.get? b=some o'
 tups:∀ b xs,H b=some (.tup xs)->H' b=some (.tup xs)
 frzs:∀ b o u,H b=some (.frz o u)->H' b=some (.frz o u)
 tbls:∀ b ps,H b=some (.tbl ps)->∃ more,H' b=some (.tbl (ps++more))
section
variable {fs fs' ex ex':List Addr}{H H1 H2:Hp}{h h1 h2 h':Heap}{a x e:Addr}{o:HO}
theorem Un.any (u:Un fs ex H H1 h h1) {b:Addr}{ob:Obj} (q:h.get? b=some ob) (n:H b=none) (hx:b ∉ ex):∃ sl,h1.get? b=some { ob with slots:=sl }:=by
 by_cases hb:b∈fs
 ·exact u.slot b ob q n hb hx
 ·exact ⟨ob.slots,u.keep b ob q n hb hx⟩
theorem Un.kept (k:∀ b u,h.get? b=some u->h'.get? b=some u):Un fs ex H H h h' :=
 ⟨fun b ob q _ _ _=>k b ob q,fun b ob q _ _ _=>⟨ob.slots,k b ob q⟩,fun _ _ _ n _=>n,fun b ob q _=>⟨ob,k b ob q⟩,fun _ _ q=>q,fun _ _ _ q=>q,fun _ ps q=>⟨#[],by rw [q]; simp⟩⟩
theorem Un.refl:Un fs ex H H h h:=Un.kept fun _ _ q=>q
theorem Un.laid (k:∀ b u,h.get? b=some u->h'.get? b=some u) (hp:h.objs.size<=a) (hn:H a=none):Un fs ex H (upd H a o) h h' where
 keep:=fun b u q _ _ _=>k b u q
 slot:=fun b u q _ _ _=>⟨u.slots,k b u q⟩
 free:=fun b u q n _=>by rw [zN (Nat.ne_of_lt (Nat.lt_of_lt_of_le (Heap.lt_size q) hp))]; exact n
 there:=fun b u q _=>⟨u,k b u q⟩
 tups:=fun b xs q=>by rw [zN (vO q hn)]; exact q
 frzs:=fun b u xs q=>by rw [zN (vO q hn)]; exact q
 tbls:=fun b ps q=>⟨#[],by rw [zN (vO q hn),q]; simp⟩
theorem Un.write (mu:Mut (H x)) (he:e=x\/H e=some (.own x)) (k:∀ b u,b≠e->h.get? b=some u->h'.get? b=some u) (heo:∃ u,h'.get? e=some u):Un fs ex H (upd H x o) h h':=by
 have hx:∀ b,H b=none->b≠x:=fun b n z=>by subst z; rw [n] at mu; exact mu
 have hb:∀ b,H b=none->b≠e:=fun b n z=>by
  subst z
  rcases he with r | r
  ·exact hx b n r
  ·rw [n] at r; cases r
 have hm:∀ b u,H b=some u->¬ Mut (some u)->b≠x:=fun b u q nm z=>by subst z; rw [q] at mu; exact nm mu
 refine ⟨fun b u q n _ _=>k b u (hb b n) q,fun b u q n _ _=>⟨u.slots,k b u (hb b n) q⟩,fun b u q n _=>by rw [zN (hx b n)]; exact n,fun b u q _=>?_,
  fun b xs q=>by rw [zN (hm b _ q fun z=>z)]; exact q,fun b u xs q=>by rw [zN (hm b _ q fun z=>z)]; exact q,fun b ps q=>⟨#[],by rw [zN (hm b _ q fun z=>z),q]; simp⟩⟩
 by_cases hbe:b=e
 ·subst hbe; exact heo
 ·exact ⟨u,k b u hbe q⟩
end
def trk (h:Heap) (H:Hp):List Addr:=(List.range h.objs.size).filter fun a=>(H a).isSome
def kK (h:Heap) (H:Hp):Heap:=PySem.W.hideAll h (trk h H)
theorem zHr (h:Heap) (H:Hp):(kK h H).objs.size=h.objs.size:=PySem.W.hideAll_size _ _
theorem zHs {h:Heap}{H:Hp}{b:Addr}{o:Obj} (e:h.get? b=some o) (n:H b=none):(kK h H).get? b=some o :=
 PySem.W.hideAll_get _ e fun hm=>by
  have q:(H b).isSome=true:=(List.mem_filter.mp hm).2
  rw [n] at q; simp at q
theorem zHt {h:Heap}{H:Hp}{b:Addr}{o:Obj} (e:(kK h H).get? b=some o):h.get? b=some o/\H b=none:=by
 have e':h.get? b=some o:=PySem.W.of_hideAll (trk h H) e
 refine ⟨e',?_⟩
 cases q:H b with
 | none=>rfl
 | some x =>
  have hm:b∈trk h H:=List.mem_filter.mpr ⟨List.mem_range.mpr (Heap.lt_size e'),by simp [q]⟩
  have z:(kK h H).get? b=none:=PySem.W.hideAll_none (trk h H) hm
  rw [z] at e; cases e
def zHu (g h:Heap) (L:Addr):List (Addr × Obj):=(List.range h.objs.size).filterMap fun a=>if a=L\/(g.get? a).isSome=true then none else (h.get? a).map fun o=>(a,o)
def vY (g h:Heap) (L d:Addr):List (Addr × Obj):=(zHu g h L).filter fun p=>decide (p.1≠d)
end L2
namespace L2
open PySem PySem.Spec PyProof.Rows
structure Mod (K:PySem.W.Frag) (mg:Str->Option Value) (base:Heap):Prop where
 kin:K.In base
 glob:base.Ns mainGlobals mg
 blt:∃ mb,base.Ns builtinsNs mb/\∀ x:Str,x ≠ "__name__" -> mb x=bootBuiltins x
 nolimit:base.NoLimit
structure Cx where
 prog:Program
 w:World
 K:PySem.W.Frag
 mg:Str->Option Value
 base:Heap
 A:Around
 N:List Str
 s₀:Shared
 H₀:Hp
 env:Env
 outer:List Env
 stack:List Env
 ex:List Addr
 fn:Str->Bool
 calm:Bool
 pn:List (Addr × Obj)
 xe:Value->Shared->Prop
def y9 (l:List Env):List Addr:=l.filterMap (·.frame)
abbrev Cx.fs (X:Cx):List Addr:=y9 X.outer
def Vis (sc:Scope) (x:Str):Prop:=sc.names.lookup x=some .local\/sc.names.lookup x=some .cell\/sc.names.lookup x=some .free
def Loc (sc:Scope) (x:Str):Prop:=sc.names.lookup x=some .local\/sc.names.lookup x=some .cell
def zHv (env:Env) (h:Heap) (m:Str->Option Value) (x:Str) (u:Value):Prop :=
 (env.kindOf x=some .local/\m x=some u)\/((env.kindOf x=some .cell\/env.kindOf x=some .free)/\∃ c,env.cells.lookup x=some c/\h.IsCell c (some u))
structure Cx.Ok (X:Cx):Prop where
 mod:Mod X.K X.mg X.base
 kind:X.env.scope.kind=.function
 glob:X.env.globals=mainGlobals
 blt:X.env.builtins=builtinsNs
 above:X.s₀.heap.objs.size<=X.env.locals
 inj:∀ x y c,X.env.cells.lookup x=some c->X.env.cells.lookup y=some c->x=y
 has:∀ x,(X.env.kindOf x=some .cell\/X.env.kindOf x=some .free)->∃ c,X.env.cells.lookup x=some c
 cab:∀ x c,X.fn x=true->X.env.cells.lookup x=some c->X.s₀.heap.objs.size<=c
 hd:X.calm=true->X.A.handled=none
 frames:X.A.frames=some X.stack
 stk:X.stack=X.outer\/(X.stack=X.env::X.outer/\X.env.frame=some X.env.locals)
 exf:∀ b∈X.ex,b≠X.env.locals/\∀ x c,X.env.cells.lookup x=some c->c≠b
 bs:∀ b o,X.base.get? b=some o->X.s₀.heap.get? b=some o/\X.H₀ b=none
 bsz:X.base.objs.size<=X.s₀.heap.objs.size
 noex:∀ b o,X.base.get? b=some o->b ∉ X.ex
 exfs:∀ b∈X.ex,b ∉ X.fs
 funs:X.s₀.heap.FunFrames X.base X.outer
 frf:∀ b∈X.fs,X.H₀ b=none
structure Inv (X:Cx) (pins:List (Addr × Obj)) (σ:List (Option V)) (H:Hp) (s:Shared):Prop where
 ok:X.Ok
 os:s.os=X.s₀.os
 bare:AllBare s.gens
 base:Un X.fs X.ex X.H₀ H X.s₀.heap s.heap
 loc:∃ m,s.heap.Ns X.env.locals m/\∀ (i:Nat) (x:Str) (v:V),X.N[i]?=some x->σ[i]?=some (some v)->Vis X.env.scope x->∃ u,zQ v u/\zHv X.env s.heap m x u
 cell:∀ x c,X.env.cells.lookup x=some c->∃ v,s.heap.IsCell c v
 free:H X.env.locals=none
 freeC:∀ x c,X.env.cells.lookup x=some c->H c=none
 pin:∀ p∈X.pn++pins,s.heap.get? p.1=some p.2/\H p.1=none/\p.1≠X.env.locals/\p.1 ∉ X.fs/\∀ v,p.2.data≠.cell v
 hok:zZ X.prog X.w H s.heap
 len:σ.length=X.N.length
section
variable {X:Cx}{pins:List (Addr × Obj)}{σ:List (Option V)}{H H':Hp}{s:Shared}{h':Heap}
theorem Cx.Ok.nofr (ok:X.Ok) {b:Addr}{o:Obj} (e:X.base.get? b=some o):b ∉ X.fs:=fun hb=>by
 have:=(ok.funs.mem hb).1
 rw [e] at this; cases this
theorem Inv.bs (I:Inv X pins σ H s):∀ b o,X.base.get? b=some o->s.heap.get? b=some o/\H b=none:=fun b o e =>
 ⟨I.base.keep b o (I.ok.bs b o e).1 (I.ok.bs b o e).2 (I.ok.nofr e) (I.ok.noex b o e),I.base.free b o (I.ok.bs b o e).1 (I.ok.bs b o e).2 (I.ok.noex b o e)⟩
theorem Inv.bk (I:Inv X pins σ H s):∀ b o,X.base.get? b=some o->s.heap.get? b=some o:=fun b o e=>(I.bs b o e).1
theorem Inv.mod (I:Inv X pins σ H s):Mod X.K X.mg X.base:=I.ok.mod
theorem Inv.kIn (I:Inv X pins σ H s):X.K.In s.heap:=I.ok.mod.kin.keeps I.bk
theorem Inv.nolimit (I:Inv X pins σ H s):s.heap.NoLimit:=I.ok.mod.nolimit.keeps I.bk
theorem Inv.fr (I:Inv X pins σ H s):∃ m,Fr X.base X.env.locals s.heap m :=
 let ⟨m,hn,_⟩:=I.loc
 ⟨m,hn,I.bk,Nat.le_trans I.ok.bsz I.ok.above⟩
theorem Inv.lt (I:Inv X pins σ H s):X.env.locals < s.heap.objs.size:=let ⟨_,hn,_⟩:=I.loc; hn.lt
theorem Inv.sz (I:Inv X pins σ H s):X.s₀.heap.objs.size<=s.heap.objs.size:=Nat.le_trans I.ok.above (Nat.le_of_lt I.lt)
theorem Inv.nofs (I:Inv X pins σ H s) {a:Addr} (h:s.heap.objs.size<=a):a ∉ X.fs:=fun hb=>by
 obtain ⟨_,o,ho,_⟩:=I.ok.funs.mem hb
 exact absurd (Nat.lt_of_lt_of_le (Heap.lt_size ho) (Nat.le_trans I.sz h)) (Nat.lt_irrefl _)
theorem Inv.cne (I:Inv X pins σ H s):∀ x c,X.env.cells.lookup x=some c->c≠X.env.locals:=fun x c e z=>by
 obtain ⟨v,o,ho,hd⟩:=I.cell x c e
 obtain ⟨m,⟨o',es,ep,ho',hd',_⟩,_⟩:=I.loc
 rw [z,ho'] at ho; cases ho; rw [hd'] at hd; cases hd
theorem Inv.funs (I:Inv X pins σ H s):s.heap.FunFrames X.base X.outer:=by
 have all:∀ (l:List Env),(∀ b∈y9 l,b∈X.fs)->X.s₀.heap.FunFrames X.base l->s.heap.FunFrames X.base l:=by
  intro l
  induction l with
  | nil=>intro _ _; trivial
  | cons env r ih =>
   intro hs hl
   obtain ⟨hk,⟨L,o,hf,hn,ho,hd⟩,hr⟩:=hl
   have hL:L∈X.fs:=hs L (by unfold y9; rw [List.filterMap_cons,hf]; exact List.mem_cons_self)
   obtain ⟨sl,e⟩:=I.base.slot L o ho (I.ok.frf L hL) hL fun z=>I.ok.exfs L z hL
   exact ⟨hk,⟨L,_,hf,hn,e,hd⟩,ih (fun b hb=>hs b (by unfold y9; rw [List.filterMap_cons,hf]; exact List.mem_cons_of_mem _ hb)) hr⟩
 exact all X.outer (fun _ hb=>hb) I.ok.funs
theorem Inv.stack (I:Inv X pins σ H s):s.heap.FunFrames X.base X.stack:=by
 rcases I.ok.stk with e | ⟨e,hf⟩
 ·rw [e]; exact I.funs
 ·rw [e]
  obtain ⟨m,hn,_⟩:=I.loc
  refine .cons (by rw [I.ok.kind]; decide) hf hn ?_ I.funs
  exact Heap.get?_none_of_le (Nat.le_trans I.ok.bsz I.ok.above)
theorem Inv.stkSub (I:Inv X pins σ H s):∀ b∈y9 X.stack,b∈X.env.locals::X.fs:=fun b hb=>by
 rcases I.ok.stk with e | ⟨e,hf⟩
 ·rw [e] at hb; exact List.mem_cons_of_mem _ hb
 ·rw [e] at hb
  unfold y9 at hb
  rw [List.filterMap_cons,hf] at hb
  exact hb
theorem Inv.stkFree (I:Inv X pins σ H s):∀ b∈y9 X.stack,H b=none:=fun b hb=>by
 rcases List.mem_cons.mp (I.stkSub b hb) with e | hb
 ·rw [e]; exact I.free
 ·obtain ⟨_,o,ho,_⟩:=I.ok.funs.mem hb
  exact I.base.free b o ho (I.ok.frf b hb) fun z=>I.ok.exfs b z hb
theorem Inv.step {g':Array GenState}{t':Nat}{d':Drawn}{ch:List Addr} (I:Inv X pins σ H s)
  (hch:∀ b∈ch,(b∈X.ex\/X.s₀.heap.objs.size<=b)/\b≠X.env.locals/\(∀ x c,X.env.cells.lookup x=some c->c≠b)/\∀ p∈X.pn++pins,p.1≠b)
  (keep:∀ b o,b≠X.env.locals->b ∉ X.fs->b ∉ ch->s.heap.get? b=some o->H b=none->h'.get? b=some o)
  (slot:∀ b o,b≠X.env.locals->b∈X.fs->b ∉ ch->s.heap.get? b=some o->H b=none->∃ sl,h'.get? b=some { o with slots:=sl }) (free:∀ b o,b ∉ ch->s.heap.get? b=some o->H b=none->H' b=none)
  (there:∀ b o,b ∉ ch->s.heap.get? b=some o->∃ o',h'.get? b=some o')
  (tups:∀ b xs,H b=some (.tup xs)->H' b=some (.tup xs)) (frzs:∀ b o u,H b=some (.frz o u)->H' b=some (.frz o u)) (tbls:∀ b ps,H b=some (.tbl ps)->∃ more,H' b=some (.tbl (ps++more)))
  (ns:∀ m,s.heap.Ns X.env.locals m->h'.Ns X.env.locals m) (hok:zZ X.prog X.w H' h') (hg:AllBare g') :
  Inv X pins σ H' { s with heap:=h',gens:=g',drawn:=d',toks:=t' }:=by
 have neL:∀ b o,X.s₀.heap.get? b=some o->b≠X.env.locals:=fun b o e=>Nat.ne_of_lt (Nat.lt_of_lt_of_le (Heap.lt_size e) I.ok.above)
 have neC:∀ b o,X.s₀.heap.get? b=some o->b ∉ X.ex->b ∉ ch:=fun b o e hx hb=>by
  rcases (hch b hb).1 with z | z
  ·exact hx z
  ·exact absurd (Nat.lt_of_lt_of_le (Heap.lt_size e) z) (Nat.lt_irrefl _)
 have cellK:∀ x c,X.env.cells.lookup x=some c->∀ v,s.heap.IsCell c v->h'.IsCell c v:=fun x c e v ⟨o,ho,hd⟩=>by
  have nch:c ∉ ch:=fun z=>(hch c z).2.2.1 x c e rfl
  by_cases hc:c∈X.fs
  ·obtain ⟨sl,q⟩:=slot c o (I.cne x c e) hc nch ho (I.freeC x c e)
   exact ⟨_,q,hd⟩
  ·exact ⟨o,keep c o (I.cne x c e) hc nch ho (I.freeC x c e),hd⟩
 refine ⟨I.ok,I.os,hg,⟨fun b o e n hb hx=>?_,fun b o e n hb hx=>?_,fun b o e n hx=>?_,fun b o e hx=>?_,fun b xs e=>tups b xs (I.base.tups b xs e),fun b o xs e=>frzs b o xs (I.base.frzs b o xs e),fun b ps e=>?_⟩,?_,fun x c e=>?_,?_,fun x c e=>?_,fun p hp=>?_,hok,I.len⟩
 ·exact keep b o (neL b o e) hb (neC b o e hx) (I.base.keep b o e n hb hx) (I.base.free b o e n hx)
 ·obtain ⟨sl,e1⟩:=I.base.slot b o e n hb hx
  obtain ⟨sl',e2⟩:=slot b _ (neL b o e) hb (neC b o e hx) e1 (I.base.free b o e n hx)
  exact ⟨sl',e2⟩
 ·obtain ⟨o',e1⟩:=I.base.there b o e hx
  exact free b o' (neC b o e hx) e1 (I.base.free b o e n hx)
 ·obtain ⟨o',e1⟩:=I.base.there b o e hx
  exact there b o' (neC b o e hx) e1
 ·obtain ⟨m1,e1⟩:=I.base.tbls b ps e
  obtain ⟨m2,e2⟩:=tbls b _ e1
  exact ⟨m1++m2,by rw [e2,Array.append_assoc]⟩
 ·obtain ⟨m,hn,hl⟩:=I.loc
  refine ⟨m,ns m hn,fun i x v e1 e2 e3=>?_⟩
  obtain ⟨u,r,l⟩:=hl i x v e1 e2 e3
  refine ⟨u,r,?_⟩
  rcases l with l | ⟨k,c,e,z⟩
  ·exact .inl l
  ·exact .inr ⟨k,c,e,cellK x c e _ z⟩
 ·obtain ⟨v,z⟩:=I.cell x c e
  exact ⟨v,cellK x c e v z⟩
 ·obtain ⟨m,⟨o,_,_,ho,_⟩,_⟩:=I.loc
  exact free _ o (fun z=>(hch _ z).2.1 rfl) ho I.free
 ·obtain ⟨v,o,ho,hd⟩:=I.cell x c e
  exact free c o (fun z=>(hch c z).2.2.1 x c e rfl) ho (I.freeC x c e)
 ·obtain ⟨e,n,ne,nf,d⟩:=I.pin p hp
  have nch:p.1 ∉ ch:=fun z=>(hch p.1 z).2.2.2 p hp rfl
  exact ⟨keep p.1 p.2 ne nf nch e n,free p.1 p.2 nch e n,ne,nf,d⟩
theorem Inv.un {t':Nat} (I:Inv X pins σ H s) (u:Un X.fs [] H H' s.heap h') (hok:zZ X.prog X.w H' h'):Inv X pins σ H' { s with heap:=h',toks:=t' }:=by
 obtain ⟨m,⟨o,es,ep,ho,r⟩,_⟩:=id I.loc
 obtain ⟨sl,hL⟩:=u.any ho I.free (by simp)
 exact I.step (g':=s.gens) (d':=s.drawn) (ch:=[]) (fun _ z=>nomatch z) (fun b o _ hb _ e n=>u.keep b o e n hb (by simp)) (fun b o _ hb _ e n=>u.slot b o e n hb (by simp)) (fun b o _ e n=>u.free b o e n (by simp)) (fun b o _ e=>u.there b o e (by simp)) u.tups u.frzs u.tbls (fun m' hm=>by
  obtain ⟨o',es',ep',ho',r'⟩:=hm
  rw [ho] at ho'; cases ho'
  exact ⟨_,es',ep',hL,r'⟩) hok I.bare
theorem Inv.call {g':Array GenState}{t':Nat}{d':Drawn}{ch:List Addr} (I:Inv X pins σ H s) (u:Un (y9 X.stack) ch H H' s.heap h') (hok:zZ X.prog X.w H' h') (hg:AllBare g')
  (hch:∀ b∈ch,(b∈X.ex\/X.s₀.heap.objs.size<=b)/\b≠X.env.locals/\(∀ x c,X.env.cells.lookup x=some c->c≠b)/\∀ p∈X.pn++pins,p.1≠b) :
  Inv X pins σ H' { s with heap:=h',gens:=g',drawn:=d',toks:=t' }:=by
 obtain ⟨m,⟨o,es,ep,ho,r⟩,_⟩:=id I.loc
 obtain ⟨sl,hL⟩:=u.any ho I.free fun z=>(hch _ z).2.1 rfl
 exact I.step (ch:=ch) hch (fun b o hL hb hc e n=>u.keep b o e n (fun z=>(List.mem_cons.mp (I.stkSub b z)).elim hL hb) hc) (fun b o _ _ hc e n=>u.any e n hc) (fun b o hc e n=>u.free b o e n hc) (fun b o hc e=>u.there b o e hc) u.tups u.frzs u.tbls (fun m' hm=>by
  obtain ⟨o',es',ep',ho',r'⟩:=hm
  rw [ho] at ho'; cases ho'
  exact ⟨_,es',ep',hL,r'⟩) hok hg
theorem Inv.turned {t':Nat}{it:Addr} (I:Inv X pins σ H s) (k:∀ b o,b≠it->s.heap.get? b=some o->h'.get? b=some o) (hn:H it=none) (hL:it≠X.env.locals)
  (h1:it∈X.ex\/X.s₀.heap.objs.size<=it) (h2:∀ x c,X.env.cells.lookup x=some c->c≠it) (h3:∀ p∈X.pn++pins,p.1≠it):Inv X pins σ H { s with heap:=h',toks:=t' }:=by
 have nit:∀ b u,H b=some u->b≠it:=fun b u e z=>by rw [z,hn] at e; cases e
 refine I.step (g':=s.gens) (d':=s.drawn) (ch:=[it]) (fun b hb=>?_) (fun b o _ _ hc e _=>k b o (fun z=>hc (by simp [z])) e) (fun b o _ _ hc e _=>⟨o.slots,k b o (fun z=>hc (by simp [z])) e⟩) (fun _ _ _ _ n=>n)
  (fun b o hc e=>⟨o,k b o (fun z=>hc (by simp [z])) e⟩) (fun _ _ e=>e) (fun _ _ _ e=>e) (fun b ps e=>⟨#[],by rw [e]; simp⟩) (fun m hm=>?_) (fun b u e=>?_) I.bare
 ·have e:b=it:=by simpa using hb
  subst e
  exact ⟨h1,hL,h2,h3⟩
 ·obtain ⟨o,es,ep,ho,r⟩:=hm
  exact ⟨o,es,ep,k _ o (Ne.symm hL) ho,r⟩
 ·refine (I.hok b u e).stay (fun c v hc q=>k c v ?_ q) (fun _ q=>q) fun _ _ q=>q
  rcases hc with z | z
  ·rw [z]; exact nit b u e
  ·exact nit c _ z
theorem Inv.tok (I:Inv X pins σ H s) (t:Nat):Inv X pins σ H { s with toks:=t }:=I.un (h':=s.heap) (t':=t) Un.refl I.hok
theorem Inv.kept {t':Nat} (I:Inv X pins σ H s) (k:∀ b u,s.heap.get? b=some u->h'.get? b=some u):Inv X pins σ H { s with heap:=h',toks:=t' }:=I.un (Un.kept k) (I.hok.kept k)
theorem Inv.laid {a:Addr}{o:HO}{t':Nat} (I:Inv X pins σ H s) (k:∀ b u,s.heap.get? b=some u->h'.get? b=some u) (hp:s.heap.objs.size<=a) (new:yM X.prog X.w (upd H a o) h' a o) :
  Inv X pins σ (upd H a o) { s with heap:=h',toks:=t' }:=I.un (Un.laid k hp (I.hok.fresh hp)) (I.hok.laid k hp new)
theorem Inv.write {x e:Addr}{o:HO}{t':Nat} (I:Inv X pins σ H s) (mu:Mut (H x)) (he:e=x\/H e=some (.own x)) (k:∀ b u,b≠e->s.heap.get? b=some u->h'.get? b=some u) (heo:∃ u,h'.get? e=some u)
  (new:yM X.prog X.w (upd H x o) h' x o):Inv X pins σ (upd H x o) { s with heap:=h',toks:=t' }:=I.un (Un.write mu he k heo) (I.hok.write mu he k heo new)
theorem Inv.weak {σ':List (Option V)} (I:Inv X pins σ H s) (hl:σ'.length=σ.length) (w:∀ (i:Nat) v,σ'[i]?=some (some v)->σ[i]?=some (some v)):Inv X pins σ' H s :=
 ⟨I.ok,I.os,I.bare,I.base,let ⟨m,hn,hl'⟩:=I.loc; ⟨m,hn,fun i x v e1 e2 e3=>hl' i x v e1 (w i v e2) e3⟩,I.cell,I.free,I.freeC,I.pin,I.hok,hl.trans I.len⟩
theorem Inv.pins_of {pins':List (Addr × Obj)} (I:Inv X pins σ H s) (h:∀ p∈pins',s.heap.get? p.1=some p.2/\H p.1=none/\p.1≠X.env.locals/\p.1 ∉ X.fs/\∀ v,p.2.data≠.cell v):Inv X pins' σ H s :=
 ⟨I.ok,I.os,I.bare,I.base,I.loc,I.cell,I.free,I.freeC,fun p hp=>(List.mem_append.mp hp).elim (fun z=>I.pin p (List.mem_append_left _ z)) (h p),I.hok,I.len⟩
theorem zEI {N:List Str} (hN:N.Nodup) {i j:Nat}{x:Str} (a:N[i]?=some x) (b:N[j]?=some x):i=j:=by
 obtain ⟨h1,e1⟩:=List.getElem?_eq_some_iff.mp a
 obtain ⟨h2,e2⟩:=List.getElem?_eq_some_iff.mp b
 exact (List.getElem_inj hN).mp (e1.trans e2.symm)
theorem zHw {M:Model}{A:Around}{E:Value->Shared->Prop}{i:Nat}{x:Str}{v:V}{u:Value}{Q:Unit->Shared->Prop} (I:Inv X pins σ H s) (hN:X.N.Nodup) (hi:X.N[i]?=some x) (hx:Loc X.env.scope x) (r:zQ v u)
  (h:∀ s',Inv X pins (σ.set i (some v)) H s'->(∃ a,Heap.SameBut a s.heap s'.heap/\(a=X.env.locals\/X.env.cells.lookup x=some a))->Q () s') (hf:X.fn x=true\/X.env.scope.names.lookup x=some .local:=by first | exact .inl rfl | exact .inr rfl | assumption):wpAny M A (storeName X.env x u) Q E s:=by
 obtain ⟨m,hn,hl⟩:=id I.loc
 have hcls:(X.env.scope.kind == .class || (X.env.scope.kind == .module && X.env.locals != X.env.globals))=false:=by rw [I.ok.kind]; rfl
 have hiσ:i < σ.length:=by rw [I.len]; exact (List.getElem?_eq_some_iff.mp hi).1
 have cne:=I.cne
 have tracked:∀ {a:Addr} {h':Heap},(∃ o,s.heap.get? a=some o/\H a=none)->Heap.SameBut a s.heap h'->zZ X.prog X.w H h':=fun {a h'} ha hs b ob e=>by
  obtain ⟨_,_,hfree⟩:=ha
  refine (I.hok b ob e).stay (fun c w' hc q=>(hs.2 c ?_).trans q) (fun _ q=>q) fun _ _ q=>q
  rintro rfl
  rcases hc with rfl | hc
  ·rw [hfree] at e; cases e
  ·rw [hfree] at hc; cases hc
 rcases hx with hk | hk
 ·refine wpAny_storeName_local hk hn (fun h' hn' hs=>?_) hcls
  obtain ⟨oL,_,_,hoL,_⟩:=id hn
  refine h _ ⟨I.ok,I.os,I.bare,⟨fun b o e n hb hx=>?_,fun b o e n hb hx=>?_,I.base.free,fun b o e hx=>?_,I.base.tups,I.base.frzs,I.base.tbls⟩,⟨_,hn',fun j y v' e1 e2 e3=>?_⟩,fun y c e=>?_,I.free,I.freeC,fun p hp=>?_,tracked ⟨oL,hoL,I.free⟩ hs,by simpa using I.len⟩ ⟨_,hs,.inl rfl⟩
  ·exact (hs.2 b (Nat.ne_of_lt (Nat.lt_of_lt_of_le (Heap.lt_size e) I.ok.above))).trans (I.base.keep b o e n hb hx)
  ·obtain ⟨sl,e1⟩:=I.base.slot b o e n hb hx
   exact ⟨sl,(hs.2 b (Nat.ne_of_lt (Nat.lt_of_lt_of_le (Heap.lt_size e) I.ok.above))).trans e1⟩
  ·obtain ⟨o',e1⟩:=I.base.there b o e hx
   exact ⟨o',(hs.2 b (Nat.ne_of_lt (Nat.lt_of_lt_of_le (Heap.lt_size e) I.ok.above))).trans e1⟩
  ·by_cases hj:j=i
   ·subst hj
    rw [hi] at e1; cases e1
    rw [List.getElem?_set_self hiσ] at e2
    cases e2
    exact ⟨u,r,.inl ⟨hk,by simp⟩⟩
   ·rw [List.getElem?_set_ne (Ne.symm hj)] at e2
    obtain ⟨u',r',q⟩:=hl j y v' e1 e2 e3
    refine ⟨u',r',?_⟩
    rcases q with ⟨k,e⟩ | ⟨k,c,e,z⟩
    ·refine .inl ⟨k,?_⟩
     have:y≠x:=fun e=>hj (zEI hN e1 (e ▸ hi))
     simp [this,e]
    ·exact .inr ⟨k,c,e,z.sameBut hs (cne y c e)⟩
  ·obtain ⟨w',z⟩:=I.cell y c e
   exact ⟨w',z.sameBut hs (cne y c e)⟩
  ·obtain ⟨e,n,ne,nf,d⟩:=I.pin p hp
   exact ⟨(hs.2 p.1 ne).trans e,n,ne,nf,d⟩
 ·have hfn:X.fn x=true:=by
   rcases hf with z | z
   ·exact z
   ·rw [z] at hk; cases hk
  obtain ⟨c,hc⟩:=I.ok.has x (.inl hk)
  obtain ⟨w',z⟩:=I.cell x c hc
  refine wpAny_storeName_cell I.ok.kind hk hc z (fun h' hc' hs=>?_)
  obtain ⟨oc,hoc,hocd⟩:=id z
  refine h { s with heap:=h' } ⟨I.ok,I.os,I.bare,⟨fun b o e n hb hx=>?_,fun b o e n hb hx=>?_,I.base.free,fun b o e hx=>?_,I.base.tups,I.base.frzs,I.base.tbls⟩,⟨m,hn.sameBut hs (Ne.symm (cne x c hc)),fun j y v' e1 e2 e3=>?_⟩,fun y c' e=>?_,I.free,I.freeC,fun p hp=>?_,tracked ⟨oc,hoc,I.freeC x c hc⟩ hs,by simpa using I.len⟩ ⟨c,hs,.inr hc⟩
  ·exact (hs.2 b (Nat.ne_of_lt (Nat.lt_of_lt_of_le (Heap.lt_size e) (I.ok.cab x c hfn hc)))).trans (I.base.keep b o e n hb hx)
  ·obtain ⟨sl,e1⟩:=I.base.slot b o e n hb hx
   exact ⟨sl,(hs.2 b (Nat.ne_of_lt (Nat.lt_of_lt_of_le (Heap.lt_size e) (I.ok.cab x c hfn hc)))).trans e1⟩
  ·obtain ⟨o',e1⟩:=I.base.there b o e hx
   exact ⟨o',(hs.2 b (Nat.ne_of_lt (Nat.lt_of_lt_of_le (Heap.lt_size e) (I.ok.cab x c hfn hc)))).trans e1⟩
  ·by_cases hj:j=i
   ·subst hj
    rw [hi] at e1; cases e1
    rw [List.getElem?_set_self hiσ] at e2
    cases e2
    exact ⟨u,r,.inr ⟨.inl hk,c,hc,hc'⟩⟩
   ·rw [List.getElem?_set_ne (Ne.symm hj)] at e2
    obtain ⟨u',r',q⟩:=hl j y v' e1 e2 e3
    refine ⟨u',r',?_⟩
    rcases q with q | ⟨k,c',e,z'⟩
    ·exact .inl q
    ·refine .inr ⟨k,c',e,z'.sameBut hs ?_⟩
     rintro rfl
     exact hj (zEI hN e1 (I.ok.inj _ _ _ e hc ▸ hi))
  ·by_cases hcc:c'=c
   ·subst hcc; exact ⟨_,hc'⟩
   ·obtain ⟨w2,z2⟩:=I.cell y c' e
    exact ⟨w2,z2.sameBut hs hcc⟩
  ·obtain ⟨e,n,ne,nf,d⟩:=I.pin p hp
   refine ⟨(hs.2 p.1 ?_).trans e,n,ne,nf,d⟩
   intro q
   rw [q,hoc] at e
   have q':oc=p.2:=Option.some.inj e
   exact d w' (by rw [<- q']; exact hocd)
theorem zBE {M:Model}{A:Around}{E:Value->Shared->Prop}{i:Nat}{x:Str}{v:V}{u:Value}{Q:Unit->Shared->Prop} (I:Inv X pins σ H s) (hN:X.N.Nodup) (hi:X.N[i]?=some x) (hx:Loc X.env.scope x) (r:zQ v u)
  (h:∀ s',Inv X pins (σ.set i (some v)) H s'->Q () s') (hf:X.fn x=true\/X.env.scope.names.lookup x=some .local:=by first | exact .inl rfl | exact .inr rfl | assumption):wpAny M A (storeName X.env x u) Q E s :=
 zHw I hN hi hx r (fun s' I' _=>h s' I') hf
theorem Inv.call' {s':Shared}{ch:List Addr} (I:Inv X pins σ H s) (ho:s'.os=s.os) (u:Un (y9 X.stack) ch H H' s.heap s'.heap) (hok:zZ X.prog X.w H' s'.heap) (hg:AllBare s'.gens)
  (hch:∀ b∈ch,(b∈X.ex\/X.s₀.heap.objs.size<=b)/\b≠X.env.locals/\(∀ x c,X.env.cells.lookup x=some c->c≠b)/\∀ p∈X.pn++pins,p.1≠b):Inv X pins σ H' s':=by
 obtain ⟨h',g',d',t',o'⟩:=s'
 have e:o'=s.os:=ho
 subst e
 exact I.call (g':=g') (t':=t') (d':=d') u hok hg hch
end
abbrev XK:=Value->Option Addr->Hp->Prop
abbrev St:=List (Option V)
abbrev VK:=V->Hp->Prop
abbrev TE:=St->Hp->VK->Prop
abbrev TT:=St->Hp->(Bool->Hp->Prop)->Prop
abbrev TA:=St->Hp->(List V->Hp->Prop)->Prop
structure Ends where
 nx:St->Hp->Prop
 rt:VK
 bk:St->Hp->Prop:=fun _ _=>False
 ct:St->Hp->Prop:=fun _ _=>False
abbrev TS:=Ends->St->Hp->Prop
def EP (X:Cx) (pins:List (Addr × Obj)) (σ:St) (Q:VK) (u:Value) (s':Shared):Prop:=∃ v H',Inv X pins σ H' s'/\zQ v u/\Q v H'
def TP (X:Cx) (pins:List (Addr × Obj)) (σ:St) (Q:Bool->Hp->Prop) (b:Bool) (s':Shared):Prop:=∃ H',Inv X pins σ H' s'/\Q b H'
def AP (X:Cx) (pins:List (Addr × Obj)) (σ:St) (Q:List V->Hp->Prop) (us:List Value) (s':Shared):Prop:=∃ vs H',Inv X pins σ H' s'/\zL vs us/\Q vs H'
def SP (X:Cx) (pins:List (Addr × Obj)) (D:Ends) (f:Flow) (s':Shared):Prop :=
 match f with
 | .next=>∃ σ' H',Inv X pins σ' H' s'/\D.nx σ' H'
 | .brk=>∃ σ' H',Inv X pins σ' H' s'/\D.bk σ' H'
 | .cont=>∃ σ' H',Inv X pins σ' H' s'/\D.ct σ' H'
 | .ret u=>∃ v σ' H',Inv X pins σ' H' s'/\zQ v u/\D.rt v H'
def PE (X:Cx) (e:Expr) (t:TE):Prop :=
 ∀ (pins:List (Addr × Obj)) (s:Shared) (σ:St) (H:Hp) (Q:VK),Inv X pins σ H s->t σ H Q->wpAny (model X.prog X.w) X.A (eval e X.env) (EP X pins σ Q) X.xe s
def PT (X:Cx) (e:Expr) (t:TT):Prop :=
 ∀ (pins:List (Addr × Obj)) (s:Shared) (σ:St) (H:Hp) (Q:Bool->Hp->Prop),Inv X pins σ H s->t σ H Q->wpAny (model X.prog X.w) X.A (isTrue e X.env (eval e X.env)) (TP X pins σ Q) X.xe s
def PW (X:Cx) (e:Expr) (t:TT):Prop :=
 ∀ (whole:Sem Value) (pins:List (Addr × Obj)) (s:Shared) (σ:St) (H:Hp) (Q:Bool->Hp->Prop),Inv X pins σ H s->t σ H Q->wpAny (model X.prog X.w) X.A (isTrue e X.env whole) (TP X pins σ Q) X.xe s
theorem PW.pt {X:Cx}{e:Expr}{t:TT} (h:PW X e t):PT X e t:=h _
def PA (X:Cx) (es:List Expr) (t:TA):Prop :=
 ∀ (pos:Pos) (pins:List (Addr × Obj)) (s:Shared) (σ:St) (H:Hp) (Q:List V->Hp->Prop),Inv X pins σ H s->t σ H Q->wpAny (model X.prog X.w) X.A (spliced (backTo pos (starEach es X.env))) (AP X pins σ Q) X.xe s
def PS (X:Cx) (st:Stmt) (t:TS):Prop :=
 ∀ (pins:List (Addr × Obj)) (s:Shared) (σ:St) (H:Hp) (D:Ends),Inv X pins σ H s->t D σ H->wpAny (model X.prog X.w) X.A (exec st X.env) (SP X pins D) X.xe s
def uD (X:Cx) (st:List Stmt) (t:TS):Prop :=
 ∀ (pins:List (Addr × Obj)) (s:Shared) (σ:St) (H:Hp) (D:Ends),Inv X pins σ H s->t D σ H->wpAny (model X.prog X.w) X.A (execs st X.env) (SP X pins D) X.xe s
theorem zK {α:Type}{t:Sem α}{Q Q':α->Shared->Prop}{M:Model}{A:Around}{E:Value->Shared->Prop}{s:Shared} (h:wpAny M A t Q E s) (hQ:∀ a s,Q a s->Q' a s):wpAny M A t Q' E s:=wpAny_mono h hQ fun _ _ x=>x
end L2
namespace L2
open PySem PySem.Spec PyProof.Rows
section
variable {X:Cx}
def qH (i:Nat):TE:=fun σ H Q=>∃ v,σ[i]?=some (some v)/\Q v H
def tC (v:V):TE:=fun _ H Q=>Q v H
theorem zHx {i:Nat}{x:Str}{pos:Pos} (hN:X.N[i]?=some x) (hv:Vis X.env.scope x) (hd:(x == ("__debug__" : Str))=false:=by decide) (hcd:(x == ("__classdict__" : Str))=false:=by decide):PE X (.Name x pos) (qH i):=by
 intro pins s σ H Q I h
 obtain ⟨v,e,h⟩:=h
 obtain ⟨m,hn,hl⟩:=I.loc
 obtain ⟨u,r,l⟩:=hl i x v hN e hv
 have fin:EP X pins σ Q u s:=⟨v,H,I,r,h⟩
 rcases l with ⟨hk,hm⟩ | ⟨hk,c,hc,hcell⟩
 ·exact wpAny_Name (wpAny_loadName_local I.ok.kind hk hn hm fin) hd
 ·rcases hk with hk | hk
  ·exact wpAny_Name (wpAny_loadName_cell I.ok.kind hk hc hcell fin) hd
  ·exact wpAny_Name (wpAny_loadName_free I.ok.kind hk hc hcell fin hcd) hd
theorem zH {i j pos}:PE X (.Constant (.int i) j pos) (tC (.int i)):=fun _ _ _ H _ I h=>wpAny_Constant_int ⟨.int i,H,I.tok _,⟨_,rfl⟩,h⟩
theorem vT {b j pos}:PE X (.Constant (.bool b) j pos) (tC (.bl b)):=fun _ _ _ H _ I h=>Constant_bool ⟨.bl b,H,I,rfl,h⟩
theorem gP {j pos}:PE X (.Constant .none j pos) (tC .non):=fun _ _ _ H _ I h=>Constant_none ⟨.non,H,I,rfl,h⟩
theorem yD {x j pos}:PE X (.Constant (.str x) j pos) (tC (.str x)):=fun _ _ _ H _ I h=>Calls.Constant_str ⟨.str x,H,I.tok _,⟨_,rfl⟩,h⟩
def Gl (X:Cx) (x:Str):Prop:=X.env.kindOf x=some .globalImplicit
theorem zAf {E:Value->Shared->Prop}{pins:List (Addr × Obj)}{s:Shared}{σ:St}{H:Hp}{x:Str}{u:Value}{pos:Pos}{Q:Value->Shared->Prop} (I:Inv X pins σ H s) (hg:Gl X x) (hm:X.mg x=some u) (h:Q u s)
  (hd:(x == ("__debug__" : Str))=false:=by decide):wpAny (model X.prog X.w) X.A (eval (.Name x pos) X.env) Q E s :=
 Calls.Name_function_global I.ok.kind hg (Calls.loadGlobal_global (by rw [I.ok.glob]; exact I.mod.glob.keeps I.bk) hm h) hd
theorem kL {E:Value->Shared->Prop}{pins:List (Addr × Obj)}{s:Shared}{σ:St}{H:Hp}{x:Str}{u:Value}{pos:Pos}{Q:Value->Shared->Prop} (I:Inv X pins σ H s) (hg:Gl X x) (hm:X.mg x=none) (hv:bootBuiltins x=some u) (h:Q u s)
  (hn:x ≠ "__name__" := by decide) (hd:(x == ("__debug__" : Str))=false:=by decide):wpAny (model X.prog X.w) X.A (eval (.Name x pos) X.env) Q E s:=by
 obtain ⟨mb,h1,h2⟩:=I.mod.blt
 exact Calls.Name_function_global I.ok.kind hg (Calls.loadGlobal_builtin (by rw [I.ok.glob]; exact I.mod.glob.keeps I.bk) hm (by rw [I.ok.blt]; exact h1.keeps I.bk) ((h2 x hn).trans hv) h) hd
theorem yX {x:Str}{v:V}{u:Value}{pos:Pos} (hg:Gl X x) (hm:X.mg x=some u) (r:zQ v u) (hd:(x == ("__debug__" : Str))=false:=by decide):PE X (.Name x pos) (tC v) :=
 fun _ _ _ H _ I h=>zAf I hg hm ⟨v,H,I,r,h⟩ hd
theorem jR {x:Str}{v:V}{u:Value}{pos:Pos} (hg:Gl X x) (hm:X.mg x=none) (hv:bootBuiltins x=some u) (r:zQ v u) (hn:x ≠ "__name__" := by decide) (hd:(x == ("__debug__" : Str))=false:=by decide):PE X (.Name x pos) (tC v) :=
 fun _ _ _ H _ I h=>kL I hg hm hv ⟨v,H,I,r,h⟩ hn hd
variable {a b:Expr}{ta tb:TE}{pos:Pos}
def PC (X:Cx) (op:CmpOp) (a b:Expr) (t:TE):Prop :=
 ∀ (pins:List (Addr × Obj)) (s:Shared) (σ:St) (H:Hp) (Q:VK),Inv X pins σ H s->t σ H Q ->
  wpAny (model X.prog X.w) X.A (eval a X.env) (fun v s₁=>wpAny (model X.prog X.w) X.A (eval b X.env) (fun u s₂=>wpAny (model X.prog X.w) X.A (compareOp op v u) (EP X pins σ Q) X.xe s₂) X.xe s₁) X.xe s
theorem zHy (b:Expr) {op:CmpOp} (h:op≠.In) (h2:op≠.NotIn):behindInMarks op b=false:=by
 have e1:(op == CmpOp.In)=false:=by cases op <;> first | rfl | exact absurd rfl h
 have e2:(op == CmpOp.NotIn)=false:=by cases op <;> first | rfl | exact absurd rfl h2
 cases b <;> simp [behindInMarks,e1,e2]
def tB (t:TE):TT:=fun σ H Q=>t σ H fun x H1=>∃ c,x=.bl c/\Q c H1
theorem zEJ {op:CmpOp}{t:TE} (h:PC X op a b t) (h1:behindInMarks op b=false:=by first | exact zHy _ (by decide) (by decide) | rfl):PT X (.Compare a [op] [b] pos) (tB t):=by
 intro pins s σ H Q I hw
 refine wpAny_isTrue_Compare1 (zK (h pins s σ H _ I hw) fun v s1 h1=>zK h1 fun u s2 h2=>zK h2 fun c s3 ⟨x,H1,I1,r1,q1⟩=>?_) h1
 obtain ⟨d,rfl,q⟩:=q1
 cases r1
 exact wpAny_truthy_bool ⟨H1,I1,q⟩
theorem v4 {e:Expr}{t:TE} (h:PE X e t) (he:∀ whole,isTrue e X.env whole=(do let v <- whole; standAt e.pos; holding [v] (truthy v)):=by intro _; rfl):PT X e (tB t):=by
 intro pins s σ H Q I hw
 refine isTrue_plain (zK (h pins s σ H _ I hw) fun v s1 ⟨x,H1,I1,r1,q1⟩=>?_) (he _)
 obtain ⟨d,rfl,q⟩:=q1
 cases r1
 exact wpAny_truthy_bool ⟨H1,I1,q⟩
variable {tA tB':TT}{vY:List Expr}
def tOr (t u:TT):TT:=fun σ H Q=>t σ H fun c H1=>if c=true then Q true H1 else u σ H1 Q
def zHz (t:TT):TT:=fun σ H Q=>t σ H fun c H1=>Q (!c) H1
theorem qU (ha:PT X a tA):PW X (.BoolOp .Or [a] pos) tA:=by
 intro wh pins s σ H Q I h
 refine isTrue_or (zK (ha pins s σ H Q I h) fun c s1 e=>?_)
 cases c with
 | false=>exact isTrue_or_nil e
 | true=>exact e
theorem qV (ha:PT X a tA) (hb:PW X (.BoolOp .Or (b::vY) pos) tB'):PW X (.BoolOp .Or (a::b::vY) pos) (tOr tA tB'):=by
 intro wh pins s σ H Q I h
 refine isTrue_or (zK (ha pins s σ H _ I h) fun c s1 ⟨H1,I1,q1⟩=>?_)
 cases c with
 | true=>exact ⟨H1,I1,q1⟩
 | false=>exact hb wh pins s1 σ H1 Q I1 q1
theorem vZ (ha:PT X a tA):PT X (.UnaryOp .Not a pos) (zHz tA):=by
 intro pins s σ H Q I h
 exact isTrue_not (ha pins s σ H (fun c H1=>Q (!c) H1) I h)
def zIA (ta tb:TE):TE:=fun σ H Q=>ta σ H fun x H1=>∃ c,x=.bl c/\if c=true then tb σ H1 Q else Q (.bl false) H1
def zIB (ta tb:TE):TE:=fun σ H Q=>ta σ H fun x H1=>∃ c,x=.bl c/\if c=true then Q (.bl true) H1 else tb σ H1 Q
theorem zAF {op}{t:TE} (h:PE X a t):PE X (.BoolOp op [a] pos) t:=fun pins s σ H Q I hw=>BoolOp_one (h pins s σ H Q I hw)
theorem zBF (ha:PE X a ta) (hb:PE X (.BoolOp .And (b::vY) pos) tb):PE X (.BoolOp .And (a::b::vY) pos) (zIA ta tb):=by
 intro pins s σ H Q I h
 refine BoolOp_and (zK (ha pins s σ H _ I h) fun v s1 ⟨x,H1,I1,r1,q1⟩=>?_)
 obtain ⟨c,rfl,q1⟩:=q1
 cases r1
 refine wpAny_truthy_bool ?_
 cases c with
 | true=>exact hb pins s1 σ H1 Q I1 q1
 | false=>exact ⟨.bl false,H1,I1,rfl,q1⟩
theorem zEK (ha:PE X a ta) (hb:PE X (.BoolOp .Or (b::vY) pos) tb):PE X (.BoolOp .Or (a::b::vY) pos) (zIB ta tb):=by
 intro pins s σ H Q I h
 refine BoolOp_or (zK (ha pins s σ H _ I h) fun v s1 ⟨x,H1,I1,r1,q1⟩=>?_)
 obtain ⟨c,rfl,q1⟩:=q1
 cases r1
 refine wpAny_truthy_bool ?_
 cases c with
 | false=>exact hb pins s1 σ H1 Q I1 q1
 | true=>exact ⟨.bl true,H1,I1,rfl,q1⟩
def tIf (t:TT) (ta tb:TE):TE:=fun σ H Q=>t σ H fun c H1=>if c=true then ta σ H1 Q else tb σ H1 Q
theorem zBG {c:Expr} (hc:PT X c tA) (ha:PE X a ta) (hb:PE X b tb):PE X (.IfExp c a b pos) (tIf tA ta tb):=by
 intro pins s σ H Q I h
 refine wpAny_IfExp (zK (hc pins s σ H _ I h) fun d s1 ⟨H1,I1,q1⟩=>?_)
 cases d with
 | true=>exact ha pins s1 σ H1 Q I1 q1
 | false=>exact hb pins s1 σ H1 Q I1 q1
end
end L2
namespace L2
open PySem PySem.Spec PyProof.Rows
def yJ (K:PySem.W.Frag) (H:Hp) (a:Addr) (xs:List V):Prop :=
 Rd H a (.lst xs) \/
  ∃ (o:Obj) (its:Array Value) (n:Nat),K.lookup a=some o/\o.cls=.type "list" /\ o.dict=none/\o.data=.seq its n/\its.size<=sizeLine/\zL xs its.toList
def yG (K:PySem.W.Frag) (H:Hp) (a:Addr) (xs:List V):Prop :=
 Rd H a (.tup xs) \/
  ∃ (o:Obj) (its:Array Value) (n:Nat),K.lookup a=some o/\o.cls=.type "tuple" /\ o.data=.seq its n/\its.size<=sizeLine/\zL xs its.toList
def zIC:Value->Option V
 | .none=>some .non
 | .bool b=>some (.bl b)
 | .int i _=>some (.int i)
 | .str x _=>some (.str x)
 | .bytes b _=>some (.byt b)
 | .float b _=>some (.flt b)
 | .ref a=>some (.ref a)
 | .type n=>some (.ty n)
 | _=>none
theorem zQ.abs {x:V}{u:Value} (r:zQ x u):zIC u=some x:=by
 cases x with
 | non=>cases r; rfl
 | bl _=>cases r; rfl
 | int _=>obtain ⟨t,rfl⟩:=r; rfl
 | str _=>obtain ⟨t,rfl⟩:=r; rfl
 | byt _=>obtain ⟨t,rfl⟩:=r; rfl
 | flt _=>obtain ⟨t,rfl⟩:=r; rfl
 | ref _=>cases r; rfl
 | ty _=>cases r; rfl
theorem zQ.inj {x y:V}{u:Value} (r:zQ x u) (q:zQ y u):x=y:=Option.some.inj (r.abs.symm.trans q.abs)
theorem zL.inj:∀ {xs ys:List V}{us:List Value},zL xs us->zL ys us->xs=ys
 | _,_,_,.nil,.nil=>rfl
 | _,_,_,.cons r t,.cons r' t'=>by rw [r.inj r',zL.inj t t']
section
variable {X:Cx}{pins:List (Addr × Obj)}{σ:St}{H:Hp}{s:Shared}{a:Addr}{xs ys:List V}
theorem yJ.of {K:PySem.W.Frag} (h:H a=some (.lst xs)):yJ K H a xs:=.inl (.inl h)
theorem yG.of {K:PySem.W.Frag} (h:H a=some (.tup xs)):yG K H a xs:=.inl (.inl h)
theorem Inv.list (I:Inv X pins σ H s) (h:yJ X.K H a xs):∃ its:List Value,zL xs its/\PlainL s.heap a its.toArray/\xs.length<=sizeLine:=by
 rcases h with h | ⟨o,its,n,hk,hc,hd,hs,hz,r⟩
 ·obtain ⟨z,its,n,r,e⟩:=h.ok I.hok
  exact ⟨its,r,⟨_,n,e,rfl,rfl,rfl⟩,z⟩
 ·refine ⟨its.toList,r,⟨o,n,I.kIn a o hk,hc,hd,by simpa using hs⟩,?_⟩
  have e:=r.length
  simp only [Array.length_toList] at e
  omega
theorem Inv.tuple (I:Inv X pins σ H s) (h:yG X.K H a xs):∃ its:List Value,zL xs its/\IsTup s.heap a its.toArray/\xs.length<=sizeLine:=by
 rcases h with h | ⟨o,its,n,hk,hc,hs,hz,r⟩
 ·obtain ⟨z,its,r,p⟩:=h.ok I.hok
  exact ⟨its,r,p,z⟩
 ·refine ⟨its.toList,r,⟨o,I.kIn a o hk,hc,n,by simpa using hs⟩,?_⟩
  have e:=r.length
  simp only [Array.length_toList] at e
  omega
theorem Inv.list_inj (I:Inv X pins σ H s) (h:yJ X.K H a xs) (h':yJ X.K H a ys):xs=ys:=by
 obtain ⟨its,r,⟨o,n,e,_,_,d⟩,_⟩:=I.list h
 obtain ⟨its',r',⟨o',n',e',_,_,d'⟩,_⟩:=I.list h'
 rw [e] at e'; cases e'
 rw [d] at d'
 injection d' with d1 _
 have:its=its':=by simpa using congrArg Array.toList d1
 subst this
 exact r.inj r'
theorem Inv.tuple_inj (I:Inv X pins σ H s) (h:yG X.K H a xs) (h':yG X.K H a ys):xs=ys:=by
 obtain ⟨its,r,⟨o,e,_,n,d⟩,_⟩:=I.tuple h
 obtain ⟨its',r',⟨o',e',_,n',d'⟩,_⟩:=I.tuple h'
 rw [e] at e'; cases e'
 rw [d] at d'
 injection d' with d1 _
 have:its=its':=by simpa using congrArg Array.toList d1
 subst this
 exact r.inj r'
end
abbrev Cx.wish (X:Cx) (E:Value->Shared->Prop):Cx:={ X with xe:=E }
abbrev Cx.nox (X:Cx):Cx:=X.wish fun _ _=>False
theorem Cx.Ok.wish {X:Cx} (ok:X.Ok) (E:Value->Shared->Prop):(X.wish E).Ok :=
 ⟨ok.mod,ok.kind,ok.glob,ok.blt,ok.above,ok.inj,ok.has,ok.cab,ok.hd,ok.frames,ok.stk,ok.exf,ok.bs,ok.bsz,ok.noex,ok.exfs,ok.funs,ok.frf⟩
theorem Cx.Ok.unwish {X:Cx}{E:Value->Shared->Prop} (ok:(X.wish E).Ok):X.Ok :=
 ⟨ok.mod,ok.kind,ok.glob,ok.blt,ok.above,ok.inj,ok.has,ok.cab,ok.hd,ok.frames,ok.stk,ok.exf,ok.bs,ok.bsz,ok.noex,ok.exfs,ok.funs,ok.frf⟩
section
variable {X:Cx}{pins:List (Addr × Obj)}{σ:St}{H:Hp}{s:Shared}{E:Value->Shared->Prop}
theorem Inv.wish (I:Inv X pins σ H s) (E:Value->Shared->Prop):Inv (X.wish E) pins σ H s:=⟨I.ok.wish E,I.os,I.bare,I.base,I.loc,I.cell,I.free,I.freeC,I.pin,I.hok,I.len⟩
theorem Inv.unwish (I:Inv (X.wish E) pins σ H s):Inv X pins σ H s:=⟨I.ok.unwish,I.os,I.bare,I.base,I.loc,I.cell,I.free,I.freeC,I.pin,I.hok,I.len⟩
theorem SP.unwish {D:Ends}{f:Flow}{s':Shared} (h:SP (X.wish E) pins D f s'):SP X pins D f s':=by
 cases f with
 | next=>obtain ⟨σ',H',I,q⟩:=h; exact ⟨σ',H',I.unwish,q⟩
 | brk=>obtain ⟨σ',H',I,q⟩:=h; exact ⟨σ',H',I.unwish,q⟩
 | cont=>obtain ⟨σ',H',I,q⟩:=h; exact ⟨σ',H',I.unwish,q⟩
 | ret u=>obtain ⟨v,σ',H',I,r,q⟩:=h; exact ⟨v,σ',H',I.unwish,r,q⟩
theorem uD.nox {st:List Stmt}{t:TS} (h:uD X.nox st t):uD X st t:=fun pins s σ H D I hw =>
 wpAny_mono (h pins s σ H D (I.wish _) hw) (fun _ _ q=>q.unwish) fun _ _ z=>False.elim z
end
section
variable {X:Cx}{st:Stmt}{vY:List Stmt}{t u:TS}{e:Expr}{te:TE}{pos:Pos}
def zID:TS:=fun D σ H=>D.nx σ H
def zIE (t u:TS):TS:=fun D σ H=>t { D with nx:=u D } σ H
theorem yP:uD X [] zID:=fun _ _ σ H _ I h=>wpAny_execs_nil ⟨σ,H,I,h⟩
theorem zI (h1:PS X st t) (h2:uD X vY u):uD X (st::vY) (zIE t u):=by
 intro pins s σ H D I h
 refine wpAny_execs_cons (zK (h1 pins s σ H { D with nx:=u D } I h) fun f s1 q=>?_)
 cases f with
 | next =>
  obtain ⟨σ',H',I',q⟩:=q
  exact h2 pins s1 σ' H' D I' q
 | ret v=>exact q
 | brk=>exact q
 | cont=>exact q
theorem zJ (h1:PS X st t):uD X [st] t:=by
 intro pins s σ H D I h
 refine wpAny_execs_cons (zK (h1 pins s σ H D I h) fun f s1 q=>?_)
 cases f with
 | next=>exact wpAny_execs_nil q
 | ret v=>exact q
 | brk=>exact q
 | cont=>exact q
theorem Inv.quiet {pins:List (Addr × Obj)}{σ:St}{H:Hp}{s:Shared} (I:Inv X pins σ H s):interactive X.env=false:=by simp [interactive,I.ok.kind]
def zIF (te:TE):TS:=fun D σ H=>te σ H fun _ H1=>D.nx σ H1
theorem uX (he:PE X e te) (hs:swapsWith e none pos.line X.env=pure false:=by rfl):PS X (.Expr e pos) (zIF te):=by
 intro pins s σ H D I h
 exact wpAny_Expr_any (zK (he pins s σ H _ I h) fun v s1 ⟨x,H1,I1,r1,q1⟩=>⟨σ,H1,I1,q1⟩) I.quiet hs
def zEL (te:TE):TS:=fun D σ H=>te σ H D.rt
theorem zV (he:PE X e te):PS X (.Return (some e) pos) (zEL te):=by
 intro pins s σ H D I h
 exact wpAny_Return_some (zK (he pins s σ H _ I h) fun v s1 ⟨x,H1,I1,r1,q1⟩=>⟨x,σ,H1,I1,r1,q1⟩)
def zIG (c:TT) (t u:TS):TS:=fun D σ H=>c σ H fun b H1=>if b=true then t D σ H1 else u D σ H1
theorem yQ {c:Expr}{a b:List Stmt}{tc:TT} (hc:PT X c tc) (ha:uD X a t) (hb:uD X b u):PS X (.If c a b pos) (zIG tc t u):=by
 intro pins s σ H D I h
 refine wpAny_If (zK (hc pins s σ H _ I h) fun d s1 ⟨H1,I1,q1⟩=>?_)
 cases d with
 | true=>exact ha pins s1 σ H1 D I1 q1
 | false=>exact hb pins s1 σ H1 D I1 q1
end
abbrev TG:=V->St->Hp->(St->Hp->Prop)->Prop
abbrev k8:=List V->St->Hp->(St->Hp->Prop)->Prop
def PG (X:Cx) (target:Expr) (t:TG):Prop :=
 ∀ (pins:List (Addr × Obj)) (s:Shared) (σ:St) (H:Hp) (v:V) (u:Value) (Q:St->Hp->Prop),Inv X pins σ H s->zQ v u->t v σ H Q ->
  wpAny (model X.prog X.w) X.A (assign target X.env u) (fun _ s'=>∃ σ' H',Inv X pins σ' H' s'/\Q σ' H') X.xe s
def PGs (X:Cx) (ts:List Expr) (t:k8):Prop :=
 ∀ (pins:List (Addr × Obj)) (s:Shared) (σ:St) (H:Hp) (vs:List V) (us:List Value) (Q:St->Hp->Prop),Inv X pins σ H s->zL vs us->t vs σ H Q ->
  wpAny (model X.prog X.w) X.A (assignInOrder ((assignEach ts X.env).map (·.2)) us) (fun _ s'=>∃ σ' H',Inv X pins σ' H' s'/\Q σ' H') X.xe s
section
variable {X:Cx}{pos:Pos}
def zBx (i:Nat):TG:=fun v σ H Q=>Q (σ.set i (some v)) H
theorem yS {i:Nat}{x:Str} (hN:X.N.Nodup) (hi:X.N[i]?=some x) (hx:Loc X.env.scope x) (hf:X.fn x=true\/X.env.scope.names.lookup x=some .local:=by first | exact .inl rfl | exact .inr rfl | assumption):PG X (.Name x pos) (zBx i):=by
 intro pins s σ H v u Q I r h
 exact wpAny_assign_Name (zBE I hN hi hx r (fun s' I'=>⟨_,H,I',h⟩) hf)
def zIH:k8:=fun vs σ H Q=>vs=[]/\Q σ H
def zII (t:TG) (u:k8):k8:=fun vs σ H Q=>∃ v r,vs=v::r/\t v σ H fun σ' H'=>u r σ' H' Q
theorem zAG:PGs X [] zIH:=by
 intro pins s σ H vs us Q I r h
 obtain ⟨e,h⟩:=h
 subst e
 cases r
 exact assignInOrder_nil ⟨σ,H,I,h⟩
theorem qW {e:Expr}{es:List Expr}{t:TG}{u:k8} (h1:PG X e t) (h2:PGs X es u)
  (hs:(assignEach (e::es) X.env).map (·.2)=assign e X.env::(assignEach es X.env).map (·.2):=by rfl):PGs X (e::es) (zII t u):=by
 intro pins s σ H vs us Q I r h
 obtain ⟨v,vr,e1,h⟩:=h
 subst e1
 cases r with
 | cons r rr =>
  rw [hs]
  refine assignInOrder_cons (zK (h1 pins s σ H _ _ _ I r h) fun _ s1 ⟨σ1,H1,I1,q1⟩=>?_)
  exact h2 pins s1 σ1 H1 _ _ Q I1 rr q1
def zEM (K:PySem.W.Frag) (n:Nat) (t:k8):TG:=fun v σ H Q=>∃ a xs,v=.ref a/\yG K H a xs/\xs.length=n/\t xs σ H Q
theorem zAg {es:List Expr}{k:Nat}{t:k8}{n:Nat} (hc:X.calm=true) (h:PGs X es t)
  (hn:(assignEach es X.env).length=n:=by rfl) (hst:(assignEach es X.env).findIdx? (·.1)=none:=by rfl):PG X (.Tuple es k pos) (zEM X.K n t):=by
 intro pins s σ H v u Q I r hw
 obtain ⟨a,xs,e1,hq,hl,hw⟩:=hw
 subst e1
 cases r
 obtain ⟨its,rv,ht,hz⟩:=I.tuple hq
 refine assign_Tuple_tuple (I.ok.hd hc) ht (by simp [hn,<- hl,rv.length]) hst fun h' hx=>?_
 have I1:Inv X pins σ H { s with heap:=h' }:=I.kept (t':=s.toks) fun b o e=>hx b o (Nat.ne_of_lt (Heap.lt_size e)) e
 exact h pins _ σ H xs _ Q I1 (by simpa using rv) hw
def zEN (te:TE) (g:TG):TS:=fun D σ H=>te σ H fun x H1=>g x σ H1 D.nx
theorem z0 {i:Nat}{x:Str}{e:Expr}{te:TE}{pos':Pos} (hN:X.N.Nodup) (hi:X.N[i]?=some x) (hx:Loc X.env.scope x) (he:PE X e te) (hs:swapsWith e (some (.Name x pos')) pos.line X.env=pure false:=by rfl) (hf:X.fn x=true\/X.env.scope.names.lookup x=some .local:=by first | exact .inl rfl | exact .inr rfl | assumption) :
  PS X (.Assign [.Name x pos'] e pos) (zEN te (zBx i)):=by
 intro pins s σ H D I h
 refine wpAny_Assign_Name (zK (he pins s σ H _ I h) fun v s1 ⟨y,H1,I1,r1,q1⟩=>?_) hs
 exact zBE I1 hN hi hx r1 (fun s2 I2=>⟨_,H1,I2,q1⟩) hf
end
section
variable {X:Cx}{pos:Pos}
def zIJ (c:TT) (tb:TS):TS:=fun D σ H=>∃ W:Nat->St->Hp->Prop,(∃ m,W m σ H)/\∀ m σ H,W m σ H ->
 c σ H fun b H1=>if b=true then ∃ N:St->Hp->Prop,(∀ σ' H',N σ' H'->∃ m',m' < m/\W m' σ' H')/\tb { D with nx:=N,ct:=N,bk:=D.nx } σ H1 else D.nx σ H1
theorem zEO {c:Expr}{body:List Stmt}{tc:TT}{tb:TS} (hp:PassesOwn (model X.prog X.w) X.A X.env X.xe) (hc:PT X c tc) (hb:uD X body tb):PS X (.While c body [] pos) (zIJ tc tb):=by
 intro pins s σ H D I h
 obtain ⟨W,⟨m0,w0⟩,turn⟩:=h
 refine wpAny_While (codeAny_whileLoop (fun n s'=>∃ σ' H',Inv X pins σ' H' s'/\W n σ' H') ?_ m0 ⟨σ,H,I,w0⟩)
 rintro n s1 ⟨σ1,H1,I1,w1⟩
 refine wpAny_passesOwn hp (zK (hc pins s1 σ1 H1 _ I1 (turn n σ1 H1 w1)) fun b s2 ⟨H2,I2,q2⟩=>?_)
 cases b with
 | true =>
  obtain ⟨N,hN,q2⟩:=q2
  rw [if_pos rfl]
  refine wpAny_passesOwn hp (zK (hb pins s2 σ1 H2 _ I2 q2) fun f s3 q3=>?_)
  cases f with
  | next =>
   obtain ⟨σ3,H3,I3,n3⟩:=q3
   obtain ⟨m',hm,w3⟩:=hN σ3 H3 n3
   exact ⟨m',hm,σ3,H3,I3,w3⟩
  | cont =>
   obtain ⟨σ3,H3,I3,n3⟩:=q3
   obtain ⟨m',hm,w3⟩:=hN σ3 H3 n3
   exact ⟨m',hm,σ3,H3,I3,w3⟩
  | brk=>exact q3
  | ret v=>exact q3
 | false =>
  rw [if_neg Bool.false_ne_true]
  exact wpAny_execs_nil ⟨σ1,H2,I2,q2⟩
end
structure It where
 go:Nat->Hp->Prop
 yld:Nat->Hp->V->Hp->Prop
 stop:Nat->Hp->Prop
def uY (X:Cx) (pins:List (Addr × Obj)) (H:Hp) (b:Addr):Prop :=
 H b=none/\b≠X.env.locals/\b ∉ X.fs/\(b∈X.ex\/X.s₀.heap.objs.size<=b)/\(∀ x c,X.env.cells.lookup x=some c->c≠b)/\∀ p∈X.pn++pins,p.1≠b
theorem Inv.fpOk {X:Cx}{pins:List (Addr × Obj)}{σ:St}{H H':Hp}{s:Shared}{b:Addr} (I:Inv X pins σ H s) (hb:s.heap.objs.size<=b) (hn:H' b=none):uY X pins H' b:=by
 refine ⟨hn,Nat.ne_of_gt (Nat.lt_of_lt_of_le I.lt hb),I.nofs hb,.inr (Nat.le_trans I.sz hb),fun x c e z=>?_,fun p hp z=>?_⟩
 ·obtain ⟨v,q⟩:=I.cell x c e
  exact absurd (Nat.lt_of_lt_of_le q.lt (by rw [z]; exact hb)) (Nat.lt_irrefl _)
 ·exact absurd (Nat.lt_of_lt_of_le (Heap.lt_size (I.pin p hp).1) (by rw [z]; exact hb)) (Nat.lt_irrefl _)
structure Turn (P:Program) (w:World) (K:PySem.W.Frag) (tg:Expr) (J:It) (fp:List Addr) (it:Addr) (tn:Nat->Heap->Prop):Prop where
 mem:it∈fp
 obj:∀ i h,tn i h->∀ b∈fp,∃ o,h.get? b=some o/\∀ v,o.data≠.cell v
 keep:∀ i h h',tn i h->(∀ b∈fp,∀ o,h.get? b=some o->h'.get? b=some o)->tn i h'
 item:∀ (X:Cx),X.prog=P->X.w=w->X.K=K->X.calm=true->∀ (i:Nat) (pins:List (Addr × Obj)) (s:Shared) (σ:St) (H:Hp) (E:Value->Shared->Prop),Inv X pins σ H s->(∀ b∈fp,uY X pins H b)->tn i s.heap->J.go i H ->
  wpAny (model P w) X.A (pyNext (.ref it)) (fun r s1=>∃ u,r=some u /\
   wpAny (model P w) X.A (letOwnedTupleGo tg (.ref it) u) (fun _ s2=>∃ x H',Inv X pins σ H' s2/\zQ x u/\J.yld i H x H'/\tn (i+1) s2.heap/\∀ b∈fp,H' b=none) E s1) E s
 done:∀ (X:Cx),X.prog=P->X.w=w->X.K=K->X.calm=true->∀ (i:Nat) (pins:List (Addr × Obj)) (s:Shared) (σ:St) (H:Hp) (E:Value->Shared->Prop),Inv X pins σ H s->(∀ b∈fp,uY X pins H b)->tn i s.heap->J.stop i H ->
  wpAny (model P w) X.A (pyNext (.ref it)) (fun r s1=>r=none/\Inv X pins σ H s1) E s
 self:∀ (A:Around) (i:Nat) (s:Shared) (Q:Value->Shared->Prop) (E:Value->Shared->Prop),tn i s.heap->Q (.ref it) s->wpAny (model P w) A (pyIter (.ref it)) Q E s
abbrev TI:=St->Hp->(It->Hp->Prop)->Prop
def PIE (X:Cx) (pins:List (Addr × Obj)) (σ:St) (tg:Expr) (R:It->Hp->Prop) (itv:Value) (s2:Shared):Prop :=
 ∃ (it:Addr) (fp:List Addr) (tn:Nat->Heap->Prop) (J:It) (H':Hp),itv=.ref it/\Inv X pins σ H' s2/\Turn X.prog X.w X.K tg J fp it tn/\tn 0 s2.heap/\(∀ b∈fp,uY X pins H' b)/\R J H'
def PI (X:Cx) (tg iter:Expr) (wi:TI):Prop :=
 ∀ (pins:List (Addr × Obj)) (s:Shared) (σ:St) (H:Hp) (R:It->Hp->Prop),Inv X pins σ H s->wi σ H R ->
  wpAny (model X.prog X.w) X.A (eval iter X.env) (fun v s1=>wpAny (model X.prog X.w) X.A (pyIter v) (PIE X pins σ tg R) X.xe s1) X.xe s
theorem zAh {M:Model}{A:Around}{E:Value->Shared->Prop}{s:Shared}{tg:Expr}{it:Addr}{u:Value}{o:Obj}{n:String}{vs:Array Value}{Q:Unit->Shared->Prop} (ho:s.heap.get? it=some o) (hc:o.cls=.type n) (hd:o.data=.fields vs)
  (hn:["enumerate", "zip", "dict_itemiterator", "dict_reverseitemiterator", "odict_iterator", "itertools.zip_longest", "itertools.pairwise"].contains n=false) (hQ:Q () s):wpAny M A (letOwnedTupleGo tg (.ref it) u) Q E s:=by
 unfold letOwnedTupleGo
 cases tg <;> first
  | exact wpAny_pure hQ
  | (cases u <;> first
    | exact wpAny_pure hQ
    | (refine wpAny_bind (wpAny_load ho ?_)
       rw [hc,hd]
       show wpAny M A (if (["enumerate", "zip", "dict_itemiterator", "dict_reverseitemiterator", "odict_iterator", "itertools.zip_longest", "itertools.pairwise"].contains n && vs[0]? == some (rawInt _))=true then _ else _) Q E s
       rw [if_neg (by intro h; rw [hn,Bool.false_and] at h; cases h)]
       exact wpAny_pure hQ))
def Itl (K:PySem.W.Frag) (a:Addr):It :=
 ⟨fun i H=>∃ xs x,yJ K H a xs/\xs[i]?=some x,fun i H x H'=>H'=H/\∀ xs,yJ K H a xs->xs[i]?=some x,fun i H=>∃ xs,yJ K H a xs/\xs.length<=i⟩
def Itt (K:PySem.W.Frag) (a:Addr):It :=
 ⟨fun i H=>∃ xs x,yG K H a xs/\xs[i]?=some x,fun i H x H'=>H'=H/\∀ xs,yG K H a xs->xs[i]?=some x,fun i H=>∃ xs,yG K H a xs/\xs.length<=i⟩
def Itr (lo:Int) (n:Nat):It:=⟨fun i _=>i < n,fun i H x H'=>H'=H/\x=.int (lo+i),fun i _=>n<=i⟩
theorem zIK {P:Program}{w:World}{K:PySem.W.Frag}{tg:Expr} (a it:Addr):Turn P w K tg (Itl K a) [it] it (fun i h=>h.IsListIter it a i) where
 mem:=by simp
 obj:=fun i h st b hb=>by
  have e:b=it:=by simpa using hb
  subst e
  obtain ⟨o,e,c,d⟩:=st
  exact ⟨o,e,fun v z=>by rw [d] at z; cases z⟩
 keep:=fun i h h' st k=>st.at fun o e=>k it (by simp) o e
 item:=by
  intro X hP hw hK hc i pins s σ H E I hf st hg
  subst hP hw hK
  obtain ⟨xs,x,hq,hx⟩:=hg
  obtain ⟨its,rv,p,hz⟩:=I.list hq
  obtain ⟨u,hu,ru⟩:=rv.get hx
  obtain ⟨f0,f1,f2,f3,f4,f5⟩:=hf it (by simp)
  refine wpAny_pyNext_list_item st p.isList (x:=u) (by simpa using hu) fun h' st' sb=>?_
  have I1:Inv X pins σ H { s with heap:=h' }:=I.turned (t':=s.toks) (fun b o hb e=>(sb.2 b hb).trans e) f0 f1 f3 f4 f5
  obtain ⟨o,e,c,d⟩:=id st'
  exact ⟨u,rfl,zAh (s:={ s with heap:=h' }) e c d (by decide) ⟨x,H,I1,ru,⟨rfl,fun ys hy=>by rw [I.list_inj hy hq]; exact hx⟩,st',fun b hb=>(hf b hb).1⟩⟩
 done:=by
  intro X hP hw hK hc i pins s σ H E I hf st hg
  subst hP hw hK
  obtain ⟨xs,hq,hx⟩:=hg
  obtain ⟨its,rv,p,hz⟩:=I.list hq
  obtain ⟨f0,f1,f2,f3,f4,f5⟩:=hf it (by simp)
  have hl:=rv.length
  exact wpAny_pyNext_list_end (I.ok.hd hc) st p.isList (by simp; omega) fun h' eb=>⟨rfl,I.turned (t':=s.toks) (fun b o hb e=>eb b o hb e) f0 f1 f3 f4 f5⟩
 self:=fun _ _ _ _ _ st h=>wpAny_pyIter_listiter st h
theorem zIL {P:Program}{w:World}{K:PySem.W.Frag}{tg:Expr} (a it:Addr):Turn P w K tg (Itt K a) [it] it (fun i h=>h.IsTupleIter it a i) where
 mem:=by simp
 obj:=fun i h st b hb=>by
  have e:b=it:=by simpa using hb
  subst e
  obtain ⟨o,e,c,d⟩:=st
  exact ⟨o,e,fun v z=>by rw [d] at z; cases z⟩
 keep:=fun i h h' st k=>st.at fun o e=>k it (by simp) o e
 item:=by
  intro X hP hw hK hc i pins s σ H E I hf st hg
  subst hP hw hK
  obtain ⟨xs,x,hq,hx⟩:=hg
  obtain ⟨its,rv,p,hz⟩:=I.tuple hq
  obtain ⟨u,hu,ru⟩:=rv.get hx
  obtain ⟨f0,f1,f2,f3,f4,f5⟩:=hf it (by simp)
  refine wpAny_pyNext_tuple_item st (show s.heap.IsTuple a its.toArray from p) (x:=u) (by simpa using hu) fun h' st' sb=>?_
  have I1:Inv X pins σ H { s with heap:=h' }:=I.turned (t':=s.toks) (fun b o hb e=>(sb.2 b hb).trans e) f0 f1 f3 f4 f5
  obtain ⟨o,e,c,d⟩:=id st'
  exact ⟨u,rfl,zAh (s:={ s with heap:=h' }) e c d (by decide) ⟨x,H,I1,ru,⟨rfl,fun ys hy=>by rw [I.tuple_inj hy hq]; exact hx⟩,st',fun b hb=>(hf b hb).1⟩⟩
 done:=by
  intro X hP hw hK hc i pins s σ H E I hf st hg
  subst hP hw hK
  obtain ⟨xs,hq,hx⟩:=hg
  obtain ⟨its,rv,p,hz⟩:=I.tuple hq
  obtain ⟨f0,f1,f2,f3,f4,f5⟩:=hf it (by simp)
  have hl:=rv.length
  exact wpAny_pyNext_tuple_end (I.ok.hd hc) st (show s.heap.IsTuple a its.toArray from p) (by simp; omega) fun h' eb=>⟨rfl,I.turned (t':=s.toks) (fun b o hb e=>eb b o hb e) f0 f1 f3 f4 f5⟩
 self:=fun _ _ _ _ _ st h=>wpAny_pyIter_tupleiter st h
theorem zIM {P:Program}{w:World}{K:PySem.W.Frag}{tg:Expr} (it:Addr) (lo:Int) (n:Nat):Turn P w K tg (Itr lo n) [it] it (fun i h=>IsRangeIter h it (lo+(i:Nat) * 1) ((n:Int) - (i:Nat)) 1) where
 mem:=by simp
 obj:=fun i h st b hb=>by
  have e:b=it:=by simpa using hb
  subst e
  exact ⟨_,st,fun v z=>by
   have z':Data.fields _=Data.cell v:=z
   cases z'⟩
 keep:=fun i h h' st k=>k it (by simp) _ st
 item:=by
  intro X hP hw hK hc i pins s σ H E I hf st hg
  subst hP hw hK
  obtain ⟨f0,f1,f2,f3,f4,f5⟩:=hf it (by simp)
  have W:=Walks.range (prog:=X.prog) (w:=X.w) (I.ok.hd hc) it lo 1 n
  refine W.item i s _ _ hg st fun v h' tk hv st' kk=>?_
  obtain ⟨t,rfl⟩:=hv
  have I1:Inv X pins σ H { s with heap:=h',toks:=tk }:=I.turned (fun b o hb e=>kk b o (by simpa using hb) e) f0 f1 f3 f4 f5
  refine ⟨_,rfl,zAh (s:={ s with heap:=h',toks:=tk }) (n := "range_iterator") st' rfl rfl (by decide) ⟨.int (lo+i),H,I1,⟨t,?_⟩,⟨rfl,rfl⟩,st',fun b hb=>(hf b hb).1⟩⟩
  rw [Int.mul_one]
 done:=by
  intro X hP hw hK hc i pins s σ H E I hf st hg
  subst hP hw hK
  obtain ⟨f0,f1,f2,f3,f4,f5⟩:=hf it (by simp)
  exact wpAny_pyNext_range_end (I.ok.hd hc) st (by have:n<=i:=hg; omega) fun h' eb=>⟨rfl,I.turned (t':=s.toks) (fun b o hb e=>eb b o hb e) f0 f1 f3 f4 f5⟩
 self:=fun _ _ _ _ _ st h=>wpAny_pyIter_rangeiter st h
end L2
namespace L2
open PySem PySem.Spec PyProof.Rows
section
variable {X:Cx}{tg:Expr}
def zIN (K:PySem.W.Frag) (tl:TE):TI:=fun σ H R=>tl σ H fun x H1=>∃ a,x=.ref a/\(∃ xs,yJ K H1 a xs)/\R (Itl K a) H1
def zIO (K:PySem.W.Frag) (tl:TE):TI:=fun σ H R=>tl σ H fun x H1=>∃ a,x=.ref a/\(∃ xs,yG K H1 a xs)/\R (Itt K a) H1
theorem zAH {l:Expr}{tl:TE} (hl:PE X l tl):PI X tg l (zIN X.K tl):=by
 intro pins s σ H R I h
 refine zK (hl pins s σ H _ I h) fun v s1 ⟨x,H1,I1,r1,q1⟩=>?_
 obtain ⟨a,e,⟨xs,hq⟩,q⟩:=q1
 subst e
 cases r1
 obtain ⟨its,rv,p,hz⟩:=I1.list hq
 refine wpAny_pyIter_list p.isList ?_
 refine ⟨s1.heap.objs.size,[s1.heap.objs.size],_,_,H1,rfl,I1.kept (t':=s1.toks) fun b o e=>Heap.get?_push_of_some _ e,zIK a _,⟨_,Heap.get?_push_size _ rfl,rfl,rfl⟩,fun b hb=>?_,q⟩
 have e:b=s1.heap.objs.size:=by simpa using hb
 subst e
 exact I1.fpOk (Nat.le_refl _) (I1.hok.fresh (Nat.le_refl _))
theorem gQ {l:Expr}{tl:TE} (hl:PE X l tl):PI X tg l (zIO X.K tl):=by
 intro pins s σ H R I h
 refine zK (hl pins s σ H _ I h) fun v s1 ⟨x,H1,I1,r1,q1⟩=>?_
 obtain ⟨a,e,⟨xs,hq⟩,q⟩:=q1
 subst e
 cases r1
 obtain ⟨its,rv,p,hz⟩:=I1.tuple hq
 refine wpAny_pyIter_tuple (show s1.heap.IsTuple a its.toArray from p) ?_
 refine ⟨s1.heap.objs.size,[s1.heap.objs.size],_,_,H1,rfl,I1.kept (t':=s1.toks) fun b o e=>Heap.get?_push_of_some _ e,zIL a _,⟨_,Heap.get?_push_size _ rfl,rfl,rfl⟩,fun b hb=>?_,q⟩
 have e:b=s1.heap.objs.size:=by simpa using hb
 subst e
 exact I1.fpOk (Nat.le_refl _) (I1.hok.fresh (Nat.le_refl _))
theorem zEP {pins:List (Addr × Obj)}{σ:St}{H:Hp}{s:Shared}{R:It->Hp->Prop}{E:Value->Shared->Prop}{lo hi:Int}{t u v:Tok}{tk:Nat} (I:Inv X pins σ H s) (h1:-(2 ^ 62)<=lo) (h2:lo < 2 ^ 62) (h3:-(2 ^ 62)<=hi) (h4:hi < 2 ^ 62)
  (q:R (Itr lo (hi - lo).toNat) H):wpAny (model X.prog X.w) X.A (pyIter (.ref s.heap.objs.size)) (PIE X pins σ tg R) E { s with heap:=s.heap.push { cls:=.type "range",data:=.fields #[.int lo t,.int hi u,.int 1 v] },toks:=tk }:=by
 refine wpAny_pyIter_range (IsRange.new ..) (small_one h1 h2 h3 h4) ?_
 have I1:Inv X pins σ H { s with heap:=s.heap.push { cls:=.type "range",data:=.fields #[.int lo t,.int hi u,.int 1 v] },toks:=tk }:=I.kept fun b o e=>Heap.get?_push_of_some _ e
 refine ⟨(s.heap.push { cls:=.type "range",data:=.fields #[.int lo t,.int hi u,.int 1 v] }).objs.size,[(s.heap.push { cls:=.type "range",data:=.fields #[.int lo t,.int hi u,.int 1 v] }).objs.size],_,_,H,rfl,
  I1.kept (t':=tk) fun b o e=>Heap.get?_push_of_some _ e,zIM _ lo (hi - lo).toNat,?_,fun b hb=>?_,q⟩
 ·have e1:lo+((0:Nat):Int) * 1=lo:=by simp
  have e2:(((hi - lo).toNat:Nat):Int) - ((0:Nat):Int)=Builtin.Range.rangeSize lo hi 1:=by rw [rangeSize_one]; split <;> omega
  show IsRangeIter _ _ (lo+((0:Nat):Int) * 1) ((((hi - lo).toNat:Nat):Int) - ((0:Nat):Int)) 1
  rw [e1,e2]
  exact Heap.get?_push_size _ rfl
 ·have e:b=(s.heap.push { cls:=.type "range",data:=.fields #[.int lo t,.int hi u,.int 1 v] }).objs.size:=by simpa using hb
  subst e
  exact I1.fpOk (Nat.le_refl _) (I1.hok.fresh (Nat.le_refl _))
def zIP (ta:TA):TI:=fun σ H R=>ta σ H fun vs H1=>∃ j:Int,vs=[.int j]/\-(2 ^ 62)<=j/\j < 2 ^ 62/\R (Itr 0 j.toNat) H1
def zIQ (ta:TA):TI:=fun σ H R=>ta σ H fun vs H1=>∃ i j:Int,vs=[.int i,.int j]/\(-(2 ^ 62)<=i/\i < 2 ^ 62/\-(2 ^ 62)<=j/\j < 2 ^ 62)/\R (Itr i (j - i).toNat) H1
theorem kM {a:Expr}{ta:TA}{p pos:Pos} (hg:Gl X "range") (hm:X.mg "range" = none) (ha:PA X [a] ta) (hs:starEach [a] X.env=[(false,eval a X.env)]:=by rfl):PI X tg (.Call (.Name "range" p) [a] [] pos) (zIP ta):=by
 intro pins s σ H R I h
 refine Call_ (kL I hg hm boot_range (PyProof.Rows.callWith_type1 (zK (ha pos pins s σ H _ I h) fun us s1 ⟨vs,H1,I1,r1,q1⟩=>?_) hs rfl))
 obtain ⟨j,e,q1,q2,q⟩:=q1
 subst e
 cases r1 with
 | cons r rr =>
  cases rr
  obtain ⟨t,rfl⟩:=r
  exact call_range_1 (zEP I1 (by omega) (by omega) q1 q2 (by simpa using q))
theorem zIR {a b:Expr}{ta:TA}{p pos:Pos} (hg:Gl X "range") (hm:X.mg "range" = none) (ha:PA X [a,b] ta) (hs:starEach [a,b] X.env=[(false,eval a X.env),(false,eval b X.env)]:=by rfl) (hs2:starEach [b] X.env=[(false,eval b X.env)]:=by rfl) :
  PI X tg (.Call (.Name "range" p) [a,b] [] pos) (zIQ ta):=by
 intro pins s σ H R I h
 refine Call_ (kL I hg hm boot_range (PyProof.Rows.callWith_type1 (zK (ha pos pins s σ H _ I h) fun us s1 ⟨vs,H1,I1,r1,q1⟩=>?_) (by rw [hs,hs2]) (by rw [hs2]; rfl)))
 obtain ⟨i,j,e,⟨q1,q2,q3,q4⟩,q⟩:=q1
 subst e
 cases r1 with
 | cons r rr =>
  cases rr with
  | cons r' rr =>
   cases rr
   obtain ⟨t,rfl⟩:=r
   obtain ⟨t',rfl⟩:=r'
   exact call_range_2 (zEP I1 q1 q2 q3 q4 q)
def zIS (wi:TI) (g:TG) (tb:TS):TS:=fun D σ H=>wi σ H fun J H1=>∃ W:Nat->Nat->St->Hp->Prop,(∃ m,W 0 m σ H1)/\∀ i m σ H,W i m σ H ->
 (J.stop i H/\D.nx σ H)\/(J.go i H/\∃ N:St->Hp->Prop,(∀ σ' H',N σ' H'->∃ m',m' < m/\W (i+1) m' σ' H')/\∀ x H',J.yld i H x H'->g x σ H' fun σ2 H2=>tb { D with nx:=N,ct:=N,bk:=D.nx } σ2 H2)
def zAI (fp:List Addr) (h:Heap):List (Addr × Obj):=fp.filterMap fun b=>(h.get? b).map fun o=>(b,o)
theorem gR {fp:List Addr}{h:Heap}{b:Addr}{o:Obj} (hb:b∈fp) (e:h.get? b=some o):(b,o)∈zAI fp h:=List.mem_filterMap.mpr ⟨b,hb,by rw [e]; rfl⟩
theorem zIT {fp:List Addr}{h:Heap}{p:Addr × Obj} (hp:p∈zAI fp h):p.1∈fp/\h.get? p.1=some p.2:=by
 obtain ⟨b,hb,e⟩:=List.mem_filterMap.mp hp
 cases q:h.get? b with
 | none=>rw [q] at e; cases e
 | some o =>
  rw [q] at e
  have e':(b,o)=p:=Option.some.inj e
  subst e'
  exact ⟨hb,q⟩
theorem Inv.pinned {pins:List (Addr × Obj)}{σ:St}{H:Hp}{s:Shared}{fp:List Addr} (I:Inv X pins σ H s) (hf:∀ b∈fp,uY X pins H b) (ho:∀ b∈fp,∃ o,s.heap.get? b=some o/\∀ v,o.data≠.cell v):Inv X (pins++zAI fp s.heap) σ H s :=
 I.pins_of fun p hp=>(List.mem_append.mp hp).elim (fun z=>I.pin p (List.mem_append_right _ z)) fun z=>by
  obtain ⟨hb,e⟩:=zIT z
  obtain ⟨f0,f1,f2,_⟩:=hf p.1 hb
  obtain ⟨o,e',d⟩:=ho p.1 hb
  rw [e] at e'; cases e'
  exact ⟨e,f0,f1,f2,d⟩
theorem Inv.unpinned {pins pl:List (Addr × Obj)}{σ:St}{H:Hp}{s:Shared} (I:Inv X (pins++pl) σ H s):Inv X pins σ H s:=I.pins_of fun p hp=>I.pin p (List.mem_append_right _ (List.mem_append_left _ hp))
theorem qI {iter:Expr}{body:List Stmt}{wi:TI}{g:TG}{tb:TS}{pos:Pos} (hp:PassesOwn (model X.prog X.w) X.A X.env X.xe) (hc:X.calm=true) (hi:PI X tg iter wi) (hg:PG X tg g) (hb:uD X body tb)
  (hs:∀ x,foldedSetIterable iter X.env x=pure x:=by intro _; rfl):PS X (.For tg iter body [] pos) (zIS wi g tb):=by
 intro pins s σ H D I h
 refine wpAny_For (zK (hi pins s σ H _ I h) fun v s1 h1=>zK h1 fun itv s2 h2=>?_) hs
 obtain ⟨it,fp,tn,J,H2,e,I2,T,st2,f2,W,⟨m0,w0⟩,turn⟩:=h2
 subst e
 have stat:∀ {H':Hp},(∀ b∈fp,H' b=none)->∀ b∈fp,uY X pins H' b:=fun hn b hb=>⟨hn b hb,(f2 b hb).2⟩
 refine codeAny_forLoop_any (fun n s'=>∃ i σ' H',Inv X pins σ' H' s'/\tn i s'.heap/\(∀ b∈fp,H' b=none)/\W i n σ' H') ?_ m0 ⟨0,σ,H2,I2,st2,fun b hb=>(f2 b hb).1,w0⟩
 rintro n s3 ⟨i,σ3,H3,I3,st3,fr3,w3⟩
 rcases turn i n σ3 H3 w3 with ⟨stop,qn⟩ | ⟨go,N,hN,step⟩
 ·refine wpAny_passesOwn hp (zK (T.done X rfl rfl rfl hc i pins s3 σ3 H3 X.xe I3 (stat fr3) st3 stop) fun r s4 ⟨hr,I4⟩=>?_)
  subst hr
  exact wpAny_execs_nil ⟨σ3,H3,I4,qn⟩
 ·refine wpAny_passesOwn hp (zK (T.item X rfl rfl rfl hc i pins s3 σ3 H3 X.xe I3 (stat fr3) st3 go) fun r s4 ⟨u,hr,h4⟩=>?_)
  subst hr
  refine wpAny_passesOwn hp (zK h4 fun _ s5 ⟨x,H5,I5,r5,y5,st5,fr5⟩=>?_)
  have I5':=I5.pinned (stat fr5) (T.obj _ _ st5)
  refine wpAny_passesOwn hp (zK (hg _ s5 σ3 H5 x u _ I5' r5 (step x H5 y5)) fun _ s6 ⟨σ6,H6,I6,q6⟩=>?_)
  refine wpAny_passesOwn hp (zK (hb _ s6 σ6 H6 _ I6 q6) fun f s7 q7=>?_)
  have again:∀ {σ7:St} {H7:Hp},Inv X (pins++zAI fp s5.heap) σ7 H7 s7->N σ7 H7->∃ m,m < n/\∃ i σ' H',Inv X pins σ' H' s7/\tn i s7.heap/\(∀ b∈fp,H' b=none)/\W i m σ' H':=fun {σ7 H7} I7 n7=>by
   obtain ⟨m',hm,w7⟩:=hN σ7 H7 n7
   refine ⟨m',hm,i+1,σ7,H7,I7.unpinned,T.keep _ _ _ st5 fun b hb o e=>(I7.pin (b,o) (List.mem_append_right _ (List.mem_append_right _ (gR hb e)))).1,fun b hb=>?_,w7⟩
   obtain ⟨o,e,d⟩:=T.obj _ _ st5 b hb
   exact (I7.pin (b,o) (List.mem_append_right _ (List.mem_append_right _ (gR hb e)))).2.1
  cases f with
  | next=>obtain ⟨σ7,H7,I7,n7⟩:=q7; exact again I7 n7
  | cont=>obtain ⟨σ7,H7,I7,n7⟩:=q7; exact again I7 n7
  | brk=>obtain ⟨σ7,H7,I7,q7⟩:=q7; exact ⟨σ7,H7,I7.unpinned,q7⟩
  | ret v=>obtain ⟨x7,σ7,H7,I7,r7,q7⟩:=q7; exact ⟨x7,σ7,H7,I7.unpinned,r7,q7⟩
end
end L2
namespace L2
open PySem PySem.Spec PyProof.Rows
abbrev R2:=V->V->Hp->VK->Prop
def yO (X:Cx) (f:Value->Value->Sem Value) (r:R2):Prop :=
 ∀ (pins:List (Addr × Obj)) (s:Shared) (σ:St) (H:Hp) (x y:V) (v u:Value) (Q:VK),Inv X pins σ H s->zQ x v->zQ y u->r x y H Q ->
  wpAny (model X.prog X.w) X.A (f v u) (EP X pins σ Q) X.xe s
def UnR (X:Cx) (f:Value->Sem Value) (r:V->Hp->VK->Prop):Prop :=
 ∀ (pins:List (Addr × Obj)) (s:Shared) (σ:St) (H:Hp) (x:V) (v:Value) (Q:VK),Inv X pins σ H s->zQ x v->r x H Q ->
  wpAny (model X.prog X.w) X.A (f v) (EP X pins σ Q) X.xe s
def uO (X:Cx) (f:Value) (r:List V->Hp->VK->Prop):Prop :=
 ∀ (pins:List (Addr × Obj)) (s:Shared) (σ:St) (H:Hp) (xs:List V) (us:List Value) (Q:VK),Inv X pins σ H s->zL xs us->r xs H Q ->
  wpAny (model X.prog X.w) X.A (call f us) (EP X pins σ Q) X.xe s
def tOp (r:R2) (ta tb:TE):TE:=fun σ H Q=>ta σ H fun x H1=>tb σ H1 fun y H2=>r x y H2 Q
def tUn (r:V->Hp->VK->Prop) (ta:TE):TE:=fun σ H Q=>ta σ H fun x H1=>r x H1 Q
def rI (C:Int->Int->Prop) (g:Int->Int->V):R2:=fun x y H Q=>∃ i j,x=.int i/\y=.int j/\C i j/\Q (g i j) H
def k9 (g:Int->Int->V):R2:=fun x y H Q=>∃ i j,x=.int i/\y=.int j/\Q (g i j) H
def rU (g:Int->V):V->Hp->VK->Prop:=fun x H Q=>∃ i,x=.int i/\Q (g i) H
section
variable {X:Cx}{a b c:Expr}{ta tb tc:TE}{pos:Pos}
theorem zBy (ha:PE X a ta) (hb:PE X b tb) {pins:List (Addr × Obj)}{s:Shared}{σ:St}{H:Hp}{R:V->V->Hp->Prop} (I:Inv X pins σ H s)
  (h:ta σ H fun x H1=>tb σ H1 fun y H2=>R x y H2) {Q:Value->Shared->Prop} {f:Value->Value->Sem Value}
  (hf:∀ v u s2 x y H2,Inv X pins σ H2 s2->zQ x v->zQ y u->R x y H2->wpAny (model X.prog X.w) X.A (f v u) Q X.xe s2) :
  wpAny (model X.prog X.w) X.A (eval a X.env) (fun v s₁=>wpAny (model X.prog X.w) X.A (eval b X.env) (fun u s₂=>wpAny (model X.prog X.w) X.A (f v u) Q X.xe s₂) X.xe s₁) X.xe s:=by
 refine zK (ha pins s σ H _ I h) fun v s1 ⟨x,H1,I1,r1,q1⟩=>?_
 refine zK (hb pins s1 σ H1 _ I1 q1) fun u s2 ⟨y,H2,I2,r2,q2⟩=>?_
 exact hf v u s2 x y H2 I2 r1 r2 q2
theorem zP {op:Operator}{r:R2} (ho:yO X (binaryOp op) r) (ha:PE X a ta) (hb:PE X b tb):PE X (.BinOp a op b pos) (tOp r ta tb):=by
 intro pins s σ H Q I h
 exact wpAny_BinOp (zBy ha hb I h fun v u s2 x y H2 I2 rx ry q=>ho pins s2 σ H2 x y v u Q I2 rx ry q)
theorem zAJ {op:UnaryOp}{r:V->Hp->VK->Prop} (ho:UnR X (unaryOp op) r) (ha:PE X a ta):PE X (.UnaryOp op a pos) (tUn r ta):=by
 intro pins s σ H Q I h
 exact UnaryOp_ (zK (ha pins s σ H _ I h) fun v s1 ⟨x,H1,I1,r1,q1⟩=>ho pins s1 σ H1 x v Q I1 r1 q1)
theorem opI {f:Value->Value->Sem Value}{C:Int->Int->Prop}{g:Int->Int->Int}
  (rule:∀ (i j:Int) (t u:Tok) (s:Shared) (Q:Value->Shared->Prop) (E:Value->Shared->Prop),C i j->Q (.int (g i j) s.toks) { s with toks:=s.toks+1 }->wpAny (model X.prog X.w) X.A (f (.int i t) (.int j u)) Q E s) :
  yO X f (rI C fun i j=>.int (g i j)):=by
 intro pins s σ H x y v u Q I rx ry h
 obtain ⟨i,j,rfl,rfl,hc,q⟩:=h
 obtain ⟨t,rfl⟩:=rx
 obtain ⟨t',rfl⟩:=ry
 exact rule i j t t' s _ _ hc ⟨.int (g i j),H,I.tok _,⟨_,rfl⟩,q⟩
theorem zEQ {f:Value->Value->Sem Value}{g:Int->Int->Int}
  (rule:∀ (i j:Int) (t u:Tok) (s:Shared) (Q:Value->Shared->Prop) (E:Value->Shared->Prop),Q (.int (g i j) s.toks) { s with toks:=s.toks+1 }->wpAny (model X.prog X.w) X.A (f (.int i t) (.int j u)) Q E s) :
  yO X f (k9 fun i j=>.int (g i j)):=by
 intro pins s σ H x y v u Q I rx ry h
 obtain ⟨i,j,rfl,rfl,q⟩:=h
 obtain ⟨t,rfl⟩:=rx
 obtain ⟨t',rfl⟩:=ry
 exact rule i j t t' s _ _ ⟨.int (g i j),H,I.tok _,⟨_,rfl⟩,q⟩
theorem zER {f:Value->Value->Sem Value}{g:Int->Int->Bool}
  (rule:∀ (i j:Int) (t u:Tok) (s:Shared) (Q:Value->Shared->Prop) (E:Value->Shared->Prop),Q (.bool (g i j)) s->wpAny (model X.prog X.w) X.A (f (.int i t) (.int j u)) Q E s) :
  yO X f (k9 fun i j=>.bl (g i j)):=by
 intro pins s σ H x y v u Q I rx ry h
 obtain ⟨i,j,rfl,rfl,q⟩:=h
 obtain ⟨t,rfl⟩:=rx
 obtain ⟨t',rfl⟩:=ry
 exact rule i j t t' s _ _ ⟨.bl (g i j),H,I,rfl,q⟩
def zIU (i j:Int):Prop:=0 < j/\j < 1073741824
def zBH (i j:Int):Prop:=(-(2 ^ 64) < i/\i < 2 ^ 64)\/(-(2 ^ 64) < j/\j < 2 ^ 64)
theorem zBH.ok {i j:Int} (h:zBH i j):IntMulOk i j:=by
 rcases h with ⟨h1,h2⟩ | ⟨h1,h2⟩
 ·exact .of_left (intBits_le_64 h1 h2)
 ·exact .of_right (intBits_le_64 h1 h2)
theorem yT:yO X (binaryOp .Add) (k9 fun i j=>.int (i+j)):=zEQ fun _ _ _ _ _ _ _ q=>add_int q
theorem zBI:yO X (binaryOp .Sub) (k9 fun i j=>.int (i - j)):=zEQ fun _ _ _ _ _ _ _ q=>sub_int q
theorem gS:yO X (binaryOp .Mult) (rI zBH fun i j=>.int (i * j)):=opI fun _ _ _ _ _ _ _ hc q=>mul_int q hc.ok
theorem zBJ:yO X (binaryOp .FloorDiv) (rI zIU fun i j=>.int (i / j)):=opI fun i j _ _ _ _ _ hc q=>by
 have h1:(0:Int) < j:=hc.1
 have h2:j < 1073741824:=hc.2
 exact floordiv_int (by omega) (by rw [Int.fdiv_eq_ediv_of_nonneg i (by omega)]; exact q) (.inl (PyProof.noPylong_small (by omega)))
theorem gA:yO X (binaryOp .Mod) (rI (fun _ j=>0 < j) fun i j=>.int (i % j)):=opI fun i j _ _ _ _ _ hc q=>by
 have h1:(0:Int) < j:=hc
 exact mod_int' (by omega) (by rw [Int.fmod_eq_emod_of_nonneg i (by omega)]; exact q)
theorem unI {f:Value->Sem Value}{g:Int->Int}
  (rule:∀ (i:Int) (t:Tok) (s:Shared) (Q:Value->Shared->Prop) (E:Value->Shared->Prop),Q (.int (g i) s.toks) { s with toks:=s.toks+1 }->wpAny (model X.prog X.w) X.A (f (.int i t)) Q E s) :
  UnR X f (rU fun i=>.int (g i)):=by
 intro pins s σ H x v Q I rx h
 obtain ⟨i,rfl,q⟩:=h
 obtain ⟨t,rfl⟩:=rx
 exact rule i t s _ _ ⟨.int (g i),H,I.tok _,⟨_,rfl⟩,q⟩
theorem zAK:UnR X (unaryOp .USub) (rU fun i=>.int (-i)):=unI fun _ _ _ _ _ q=>neg_int q
end
def zES:V->V->Bool
 | .non,.non=>true | .non,.int _=>true | .int _,.non=>true | .non,.bl _=>true | .bl _,.non=>true | .non,.str _=>true | .str _,.non=>true
 | .int _,.int _=>true | .bl _,.bl _=>true | .str _,.str _=>true | .byt _,.byt _=>true
 | .int _,.str _=>true | .str _,.int _=>true | .bl _,.str _=>true | .str _,.bl _=>true
 | _,_=>false
def rEq:R2:=fun x y H Q=>zES x y=true/\Q (.bl (decide (x=y))) H
def rNe:R2:=fun x y H Q=>zES x y=true/\Q (.bl (!decide (x=y))) H
theorem zET {i j:Int}:decide (V.int i=V.int j)=(i == j):=by
 rw [Bool.eq_iff_iff]
 simp
theorem zEU {i j:Bool}:decide (V.bl i=V.bl j)=(i == j):=by
 rw [Bool.eq_iff_iff]
 simp
theorem zEV {i j:Str}:decide (V.str i=V.str j)=(i == j):=by
 rw [Bool.eq_iff_iff]
 simp
theorem zEW {i j:Array UInt8}:decide (V.byt i=V.byt j)=(i.toList == j.toList):=by
 rw [Bool.eq_iff_iff]
 cases i
 cases j
 simp
section
variable {X:Cx}{a b c:Expr}{ta tb tc:TE}{pos:Pos}
theorem yY {pins:List (Addr × Obj)}{σ:St}{H:Hp}{s:Shared}{Q:VK}{k k':Bool} (I:Inv X pins σ H s) (q:Q (.bl k) H) (e:k=k'):EP X pins σ Q (.bool k') s:=by
 subst e
 exact ⟨.bl k,H,I,rfl,q⟩
theorem zAL:yO X (compareOp .Eq) rEq:=by
 intro pins s σ H x y v u Q I rx ry h
 obtain ⟨hs,q⟩:=h
 cases x with
 | non =>
  cases rx
  cases y with
  | non=>cases ry; exact PySem.EqNone.eq_none_none (yY I q (by simp))
  | bl j=>cases ry; exact PySem.EqNone.eq_none_bool (yY I q (by simp))
  | int j=>obtain ⟨t',rfl⟩:=ry; exact PySem.EqNone.eq_none_int (yY I q (by simp))
  | str j=>obtain ⟨t',rfl⟩:=ry; exact PySem.EqNone.eq_none_str (yY I q (by simp))
  | _=>exact absurd (show false=true from hs) Bool.false_ne_true
 | bl i =>
  cases rx
  cases y with
  | non=>cases ry; exact PySem.EqNone.eq_bool_none (yY I q (by simp))
  | bl j=>cases ry; exact eq_bool (yY I q zEU)
  | str j=>obtain ⟨t',rfl⟩:=ry; exact PySem.EqMixed.eq_bool_str (yY I q (by simp))
  | _=>exact absurd (show false=true from hs) Bool.false_ne_true
 | int i =>
  obtain ⟨t,rfl⟩:=rx
  cases y with
  | non=>cases ry; exact PySem.EqNone.eq_int_none (yY I q (by simp))
  | int j=>obtain ⟨t',rfl⟩:=ry; exact eq_int (yY I q zET)
  | str j=>obtain ⟨t',rfl⟩:=ry; exact PySem.EqMixed.eq_int_str (yY I q (by simp))
  | _=>exact absurd (show false=true from hs) Bool.false_ne_true
 | str i =>
  obtain ⟨t,rfl⟩:=rx
  cases y with
  | non=>cases ry; exact PySem.EqNone.eq_str_none (yY I q (by simp))
  | bl j=>cases ry; exact PySem.EqMixed.eq_str_bool (yY I q (by simp))
  | int j=>obtain ⟨t',rfl⟩:=ry; exact PySem.EqMixed.eq_str_int (yY I q (by simp))
  | str j=>obtain ⟨t',rfl⟩:=ry; exact eq_str (yY I q zEV)
  | _=>exact absurd (show false=true from hs) Bool.false_ne_true
 | byt i =>
  obtain ⟨t,rfl⟩:=rx
  cases y with
  | byt j=>obtain ⟨t',rfl⟩:=ry; exact PySem.W.eq_bytes (yY I q zEW)
  | _=>exact absurd (show false=true from hs) Bool.false_ne_true
 | _=>cases y <;> exact absurd (show false=true from hs) Bool.false_ne_true
theorem zAi:yO X (compareOp .NotEq) rNe:=by
 intro pins s σ H x y v u Q I rx ry h
 obtain ⟨hs,q⟩:=h
 cases x with
 | non =>
  cases rx
  cases y with
  | non=>cases ry; exact PySem.EqNone.ne_none_none (yY I q (by simp))
  | bl j=>cases ry; exact PySem.EqNone.ne_none_bool (yY I q (by simp))
  | int j=>obtain ⟨t',rfl⟩:=ry; exact PySem.EqNone.ne_none_int (yY I q (by simp))
  | str j=>obtain ⟨t',rfl⟩:=ry; exact PySem.EqNone.ne_none_str (yY I q (by simp))
  | _=>exact absurd (show false=true from hs) Bool.false_ne_true
 | bl i =>
  cases rx
  cases y with
  | non=>cases ry; exact PySem.EqNone.ne_bool_none (yY I q (by simp))
  | bl j=>cases ry; exact ne_bool (yY I q (congrArg not zEU))
  | str j=>obtain ⟨t',rfl⟩:=ry; exact PySem.EqMixed.ne_bool_str (yY I q (by simp))
  | _=>exact absurd (show false=true from hs) Bool.false_ne_true
 | int i =>
  obtain ⟨t,rfl⟩:=rx
  cases y with
  | non=>cases ry; exact PySem.EqNone.ne_int_none (yY I q (by simp))
  | int j=>obtain ⟨t',rfl⟩:=ry; exact ne_int (yY I q (congrArg not zET))
  | str j=>obtain ⟨t',rfl⟩:=ry; exact PySem.EqMixed.ne_int_str (yY I q (by simp))
  | _=>exact absurd (show false=true from hs) Bool.false_ne_true
 | str i =>
  obtain ⟨t,rfl⟩:=rx
  cases y with
  | non=>cases ry; exact PySem.EqNone.ne_str_none (yY I q (by simp))
  | bl j=>cases ry; exact PySem.EqMixed.ne_str_bool (yY I q (by simp))
  | int j=>obtain ⟨t',rfl⟩:=ry; exact PySem.EqMixed.ne_str_int (yY I q (by simp))
  | str j=>obtain ⟨t',rfl⟩:=ry; exact ne_str (yY I q (congrArg not zEV))
  | _=>exact absurd (show false=true from hs) Bool.false_ne_true
 | byt i =>
  obtain ⟨t,rfl⟩:=rx
  cases y with
  | byt j=>obtain ⟨t',rfl⟩:=ry; exact PySem.W.ne_bytes (yY I q (congrArg not zEW))
  | _=>exact absurd (show false=true from hs) Bool.false_ne_true
 | _=>cases y <;> exact absurd (show false=true from hs) Bool.false_ne_true
theorem jK:yO X (compareOp .LtE) (k9 fun i j=>.bl (decide (i<=j))):=zER fun _ _ _ _ _ _ _ q=>le_int q
theorem zBz:yO X (compareOp .Gt) (k9 fun i j=>.bl (decide (j < i))):=zER fun _ _ _ _ _ _ _ q=>gt_int q
theorem zEX:yO X (compareOp .Lt) (fun x y H Q=>∃ i j,x=.str i/\y=.str j/\Q (.bl (decide (i.cps.toList < j.cps.toList))) H):=by
 intro pins s σ H x y v u Q I rx ry h
 obtain ⟨i,j,rfl,rfl,q⟩:=h
 obtain ⟨t,rfl⟩:=rx
 obtain ⟨t',rfl⟩:=ry
 exact lt_str (yY I q rfl)
theorem zIV:yO X (compareOp .In) (fun x y H Q=>∃ i j,x=.str i/\y=.str j/\Q (.bl (!(Builtin.Str.occurrences j i 0 j.length 1).isEmpty)) H):=by
 intro pins s σ H x y v u Q I rx ry h
 obtain ⟨i,j,rfl,rfl,q⟩:=h
 obtain ⟨t,rfl⟩:=rx
 obtain ⟨t',rfl⟩:=ry
 exact in_str (yY I q rfl)
theorem zEY:yO X (compareOp .IsNot) (fun x y H Q=>y=.non/\Q (.bl (!decide (x=.non))) H):=by
 intro pins s σ H x y v u Q I rx ry h
 obtain ⟨rfl,q⟩:=h
 cases ry
 refine isnot_none_gen (yY I q ?_)
 cases x <;> first
  | (cases rx; rfl)
  | (obtain ⟨t,rfl⟩:=rx; rfl)
theorem yO.or {f:Value->Value->Sem Value}{r r':R2} (h:yO X f r) (h':yO X f r'):yO X f (fun x y H Q=>r x y H Q\/r' x y H Q):=by
 intro pins s σ H x y v u Q I rx ry q
 rcases q with q | q
 ·exact h pins s σ H x y v u Q I rx ry q
 ·exact h' pins s σ H x y v u Q I rx ry q
theorem vC (b:Expr) {op:CmpOp} (h:op≠.In:=by decide) (h2:op≠.NotIn:=by decide):behindInMarks op b=false:=by
 have e1:(op == CmpOp.In)=false:=by cases op <;> first | rfl | exact absurd rfl h
 have e2:(op == CmpOp.NotIn)=false:=by cases op <;> first | rfl | exact absurd rfl h2
 cases b <;> simp [behindInMarks,e1,e2]
theorem gT {op:CmpOp}{r:R2} (ho:yO X (compareOp op) r) (ha:PE X a ta) (hb:PE X b tb) (hm:behindInMarks op b=false):PE X (.Compare a [op] [b] pos) (tOp r ta tb):=by
 intro pins s σ H Q I h
 exact wpAny_Compare1 (zBy ha hb I h fun v u s2 x y H2 I2 rx ry q=>ho pins s2 σ H2 x y v u Q I2 rx ry q) hm
def zEZ (t:TE):TT:=fun σ H Q=>t σ H fun x H'=>∃ k,x=.bl k/\Q k H'
theorem vH {op:CmpOp}{r:R2} (ho:yO X (compareOp op) r) (ha:PE X a ta) (hb:PE X b tb) (hm:behindInMarks op b=false):PT X (.Compare a [op] [b] pos) (zEZ (tOp r ta tb)):=by
 intro pins s σ H Q I h
 refine wpAny_isTrue_Compare1 (zK (ha pins s σ H _ I h) fun v s1 ⟨x,H1,I1,r1,q1⟩=>zK (hb pins s1 σ H1 _ I1 q1) fun u s2 ⟨y,H2,I2,r2,q2⟩ =>
  zK (ho pins s2 σ H2 x y v u _ I2 r1 r2 q2) fun c s3 ⟨z,H3,I3,r3,k,e,q3⟩=>?_) hm
 subst e
 cases r3
 exact wpAny_truthy_bool ⟨H3,I3,q3⟩
def zEa (r r':R2) (ta tb tc:TE):TE:=fun σ H Q=>ta σ H fun x H1=>tb σ H1 fun y H2=>r x y H2 fun z H3=>∃ k,z=.bl k /\
 (if k=true then tc σ H3 fun w' H4=>r' y w' H4 Q else Q (.bl false) H3)
theorem zIW {op op':CmpOp}{r r':R2} (ho:yO X (compareOp op) r) (ho':yO X (compareOp op') r') (ha:PE X a ta) (hb:PE X b tb) (hc:PE X c tc)
  (hm:lastMarks [op,op'] [b,c]=false:=by with_unfolding_all rfl):PE X (.Compare a [op,op'] [b,c] pos) (zEa r r' ta tb tc):=by
 intro pins s σ H Q I h
 refine Compare_chain (zK (ha pins s σ H _ I h) fun v s1 ⟨x,H1,I1,r1,q1⟩=>chain_link (zK (hb pins s1 σ H1 _ I1 q1) fun u s2 ⟨y,H2,I2,r2,q2⟩ =>
  zK (ho pins s2 σ H2 x y v u _ I2 r1 r2 q2) fun d s3 ⟨z,H3,I3,r3,k,e,q3⟩=>?_)) hm
 subst e
 cases r3
 refine wpAny_truthy_bool ?_
 cases k with
 | false=>exact ite_ff ⟨.bl false,H3,I3,rfl,q3⟩
 | true=>exact ite_tt (chain_last (zK (hc pins s3 σ H3 _ I3 q3) fun w' s4 ⟨z',H4,I4,r4,q4⟩=>ho' pins s4 σ H4 y z' u w' Q I4 r2 r4 q4))
theorem zBK {op op':CmpOp}{r r':R2} (ho:yO X (compareOp op) r) (ho':yO X (compareOp op') r') (ha:PE X a ta) (hb:PE X b tb) (hc:PE X c tc)
  (hm:lastMarks [op,op'] [b,c]=false:=by with_unfolding_all rfl):PT X (.Compare a [op,op'] [b,c] pos) (zEZ (zEa r r' ta tb tc)):=by
 intro pins s σ H Q I h
 refine isTrue_chain (zK (ha pins s σ H _ I h) fun v s1 ⟨x,H1,I1,r1,q1⟩=>test_link (zK (hb pins s1 σ H1 _ I1 q1) fun u s2 ⟨y,H2,I2,r2,q2⟩ =>
  zK (ho pins s2 σ H2 x y v u _ I2 r1 r2 q2) fun d s3 ⟨z,H3,I3,r3,k,e,q3⟩=>?_)) hm
 subst e
 cases r3
 refine wpAny_truthy_bool ?_
 cases k with
 | false =>
  obtain ⟨k',e',q'⟩:=q3
  cases e'
  exact ite_ff ⟨H3,I3,q'⟩
 | true =>
  refine ite_tt (test_last (zK (hc pins s3 σ H3 _ I3 q3) fun w' s4 ⟨z',H4,I4,r4,q4⟩=>zK (ho' pins s4 σ H4 y z' u w' _ I4 r2 r4 q4) fun d' s5 ⟨z2,H5,I5,r5,k2,e2,q5⟩=>?_))
  subst e2
  cases r5
  exact wpAny_truthy_bool ⟨H5,I5,q5⟩
theorem zAj:(sizeLine:Nat) < 2 ^ 63:=by rw [sizeLine_eq]; decide
theorem zCA:yO X (binaryOp .Add) (fun x y H Q=>∃ i j,x=.str i/\y=.str j/\i.length+j.length<=sizeLine/\Q (.str (i++j)) H):=by
 intro pins s σ H x y v u Q I rx ry h
 obtain ⟨i,j,rfl,rfl,hz,q⟩:=h
 obtain ⟨t,rfl⟩:=rx
 obtain ⟨t',rfl⟩:=ry
 exact add_str (fun t' tk=>⟨.str (i++j),H,I.tok _,⟨_,rfl⟩,q⟩) hz
theorem qJ {x:V}{us:List Value} (r:zL [x] us):∃ u,us=[u]/\zQ x u:=by
 cases r with
 | cons r1 r2=>cases r2; exact ⟨_,rfl,r1⟩
theorem gB {x y:V}{us:List Value} (r:zL [x,y] us):∃ u w',us=[u,w']/\zQ x u/\zQ y w':=by
 cases r with
 | cons r1 r2 =>
  cases r2 with
  | cons r3 r4=>cases r4; exact ⟨_,_,rfl,r1,r3⟩
theorem zIX (hc:X.calm=true):uO X (.builtin "max") (fun xs H Q=>∃ i j,xs=[.int i,.int j]/\Q (.int (if j > i then j else i)) H):=by
 intro pins s σ H xs us Q I r h
 obtain ⟨i,j,rfl,q⟩:=h
 obtain ⟨u,w',rfl,⟨t,rfl⟩,⟨t',rfl⟩⟩:=gB r
 refine max_two_ints (I.ok.hd hc) fun h' tk k=>⟨_,H,I.kept k,?_,q⟩
 by_cases hj:j > i
 ·rw [if_pos hj,if_pos hj]; exact ⟨_,rfl⟩
 ·rw [if_neg hj,if_neg hj]; exact ⟨_,rfl⟩
theorem zEb (hc:X.calm=true):uO X (.builtin "min") (fun xs H Q=>∃ i j,xs=[.int i,.int j]/\Q (.int (if j < i then j else i)) H):=by
 intro pins s σ H xs us Q I r h
 obtain ⟨i,j,rfl,q⟩:=h
 obtain ⟨u,w',rfl,⟨t,rfl⟩,⟨t',rfl⟩⟩:=gB r
 refine min_two_ints (I.ok.hd hc) fun h' tk k=>⟨_,H,I.kept k,?_,q⟩
 by_cases hj:j < i
 ·rw [if_pos hj,if_pos hj]; exact ⟨_,rfl⟩
 ·rw [if_neg hj,if_neg hj]; exact ⟨_,rfl⟩
end
end L2
namespace L2
open PySem PySem.Spec PyProof.Rows
structure ObjM (h:Heap) (x dx C:Addr) (mA:Str->Option Value):Prop where
 obj:h.get? x=some (PySem.W.instObj C dx)
 ns:h.Ns1 dx mA
 ne:dx≠x
theorem zIY {h:Heap}{dx:Addr}{mA:Str->Option Value} (n:h.Ns1 dx mA):∃ od,h.get? dx=some od/\∀ name,PySem.W.lookIn name od=some (mA name):=by
 obtain ⟨o,es,ep,ho,hd,hk,_,hm⟩:=n
 refine ⟨o,ho,fun name=>?_⟩
 have e:=hm name
 unfold nsFind findBy at e
 rw [<- Array.find?_toList] at e
 unfold PySem.W.lookIn
 rw [hd]
 dsimp only
 split
 ·rename_i y q
  rw [q] at e
  exact congrArg some e
 ·rename_i q
  rw [q] at e
  have a:es.toList.any (·.refKey)=false:=by
   rw [List.any_eq_false]
   intro y hy
   obtain ⟨z,t,hkey⟩:=hk y (Array.mem_toList_iff.mp hy)
   simp [DictEntry.refKey,hkey]
  have a':¬ es.toList.any (·.refKey)=true:=by rw [a]; exact Bool.false_ne_true
  rw [if_neg a']
  exact congrArg some e
theorem ObjM.look {h:Heap}{x dx C:Addr}{mA:Str->Option Value} (I:ObjM h x dx C mA):∃ od,PySem.W.InstAt h x (PySem.W.instObj C dx) C (some od)/\∀ name,PySem.W.lookIn name od=some (mA name) :=
 let ⟨od,ho,hl⟩:=zIY I.ns
 ⟨od,⟨I.obj,rfl,rfl,ho⟩,hl⟩
section
variable {prog:Program}{w:World}{A:Around}{E:Value->Shared->Prop}{s:Shared}{K:PySem.W.Frag}{x dx C f:Addr}{mA:Str->Option Value}{name:Str}{v:Value}
end
theorem qG.some_of {v:V}{o:Option Value} (r:qG (some v) o):∃ u,o=some u/\zQ v u:=by
 cases o with
 | none=>exact (show False from r).elim
 | some u=>exact ⟨u,rfl,r⟩
section
variable {P:Program}{w:World}{H H':Hp}{h h':Heap}{a C dx:Addr}{fs fs':List (Str × V)}
theorem zEc (hok:zZ P w H h) (e:H a=some (.ins C dx fs)):∃ mA,ObjM h a dx C mA/\(∀ f,qG (fs.lookup f) (mA f))/\PySem.Within mA (fs.map (·.1))/\fs.length<=1000/\H dx=some (.own a):=by
 obtain ⟨d,z,ne,ob,mA,n,r,q⟩:=(show yM P w H h a (.ins C dx fs) from hok a _ e)
 exact ⟨mA,⟨ob,n,ne⟩,r,q,z,d⟩
end
structure Cls (K:PySem.W.Frag) (C:Addr):Prop where
 pg:PySem.W.plainGet K C Str.empty=true
 hd:PySem.W.hasDictIn K C=true
 po:PySem.W.plainOver K C=true
 sa:PySem.W.findIn K (.ref C) "__setattr__" = some (some (.builtin "object.__setattr__"))
theorem Cls.get {K:PySem.W.Frag}{C:Addr} (c:Cls K C) (f:Str):PySem.W.plainGet K C f=true:=c.pg
section
variable {X:Cx}{pins:List (Addr × Obj)}{σ:St}{H:Hp}{s:Shared}{a C dx:Addr}{fs:List (Str × V)}{f:Str}{v:V}{A:Around}{E:Value->Shared->Prop}
theorem Inv.made (I:Inv X pins σ H s):Inv X pins σ (upd (upd H s.heap.objs.size (.own (s.heap.objs.size+1))) (s.heap.objs.size+1) (.ins C s.heap.objs.size []))
  { s with heap:=(s.heap.push PySem.W.emptyDict).push (PySem.W.instObj C s.heap.objs.size) }:=by
 have e1:(s.heap.push PySem.W.emptyDict).get? s.heap.objs.size=some PySem.W.emptyDict:=Heap.get?_push_size s.heap rfl
 have e2:((s.heap.push PySem.W.emptyDict).push (PySem.W.instObj C s.heap.objs.size)).get? (s.heap.objs.size+1)=some (PySem.W.instObj C s.heap.objs.size):=by
  have:=Heap.get?_push_size (s.heap.push PySem.W.emptyDict) (o:=PySem.W.instObj C s.heap.objs.size) rfl
  rwa [Heap.size_push] at this
 have e3:(s.heap.push PySem.W.emptyDict).Ns s.heap.objs.size (fun _=>none):=⟨PySem.W.emptyDict,#[],_,e1,rfl,(fun e he=>absurd he (by simp)),fun _=>rfl⟩
 have I1:=I.laid (a:=s.heap.objs.size) (o:=.own (s.heap.objs.size+1)) (h':=s.heap.push PySem.W.emptyDict) (t':=s.toks) (fun b u q=>Heap.get?_push_of_some _ q) (Nat.le_refl _) ⟨_,e1⟩
 refine I1.laid (a:=s.heap.objs.size+1) (o:=.ins C s.heap.objs.size []) (t':=s.toks) (fun b u q=>Heap.get?_push_of_some _ q) (Nat.le_of_eq (Heap.size_push _ _)) ?_
 have ne:s.heap.objs.size≠s.heap.objs.size+1:=Nat.ne_of_lt (Nat.lt_succ_self _)
 refine ⟨by rw [zN ne,zG],Nat.zero_le _,ne,e2,fun _=>none,(Heap.Ns1.of_empty e3).at fun o q=>Heap.get?_push_of_some _ q,fun _=>True.intro,fun y hy=>absurd rfl hy⟩
end
section
variable {X:Cx}{o e value:Expr}{f:Str}{pos pos' tpos:Pos}{ta tv:TE}
end
section
variable {X:Cx}{pins:List (Addr × Obj)}{σ:St}{H:Hp}{s:Shared}{A:Around}{E:Value->Shared->Prop}{Q:Value->Shared->Prop}{c:Value}{b:Bool}
inductive TyOf (K:PySem.W.Frag) (H:Hp):V->Value->Prop where
 | non:TyOf K H .non (.type "NoneType")
 | bl (x:Bool):TyOf K H (.bl x) (.type "bool")
 | int (i:Int):TyOf K H (.int i) (.type "int")
 | str (x:Str):TyOf K H (.str x) (.type "str")
 | flt (x:UInt64):TyOf K H (.flt x) (.type "float")
 | lst {a:Addr} {xs:List V} (e:H a=some (.lst xs)):TyOf K H (.ref a) (.type "list")
 | frz {a:Addr} {o:Obj} {xs:List V} (e:H a=some (.frz o (.lst xs))):TyOf K H (.ref a) (.type "list")
 | tup {a:Addr} {xs:List V} (e:H a=some (.tup xs)):TyOf K H (.ref a) (.type "tuple")
 | dK {a:Addr} {kvs:List (zU × V)} (e:H a=some (.dK kvs)):TyOf K H (.ref a) (.type "dict")
 | dT {a:Addr} {kvs:List (List y8 × V)} (e:H a=some (.dT kvs)):TyOf K H (.ref a) (.type "dict")
 | ins {a C dx:Addr} {fs:List (Str × V)} (e:H a=some (.ins C dx fs)) (cl:Cls K C) (ha:PySem.W.findIn K (.ref C) "__class__" = some (some (.builtin "object.__class__")))
   (hn:PySem.W.specialIn K (.builtin "object.__class__") "__get__" = some (some (.builtin "getset_descriptor.__get__"))) (htk:PySem.W.takesIn K (.builtin "object.__class__")=some true)
   (hm:PySem.W.mroIn K C (.type "object")=some true):TyOf K H (.ref a) (.ref C)
theorem zIZ {x:V}{u t:Value} (I:Inv X pins σ H s) (rx:zQ x u) (ty:TyOf X.K H x t) (e:PySem.W.kitOne X.K t c=some b) (h:∀ tk,Q (.bool b) { s with toks:=tk }) :
  wpAny (model X.prog X.w) A (call (.builtin "isinstance") [u,c]) Q E s:=by
 cases ty with
 | non=>cases (show u=Value.none from rx); exact PySem.W.kia_one PySem.W.kitx_none I.kIn True.intro e (fun z=>nomatch z) h
 | bl y=>cases (show u=Value.bool y from rx); exact PySem.W.kia_one PySem.W.kitx_bool I.kIn True.intro e (fun z=>nomatch z) h
 | int i=>obtain ⟨t,q⟩:=(show ∃ t,u=Value.int i t from rx); cases q; exact PySem.W.kia_one PySem.W.kitx_int I.kIn True.intro e (fun z=>nomatch z) h
 | str y=>obtain ⟨t,q⟩:=(show ∃ t,u=Value.str y t from rx); cases q; exact PySem.W.kia_one PySem.W.kitx_str I.kIn True.intro e (fun z=>nomatch z) h
 | flt y=>obtain ⟨t,q⟩:=(show ∃ t,u=Value.float y t from rx); cases q; exact PySem.W.kia_one PySem.W.kitx_float I.kIn True.intro e (fun z=>nomatch z) h
 | @lst a xs ea =>
  cases (show u=Value.ref a from rx)
  obtain ⟨_,_,n,_,h1⟩:=(show yM X.prog X.w H s.heap a (.lst xs) from I.hok a _ ea)
  exact PySem.W.kia_one PySem.W.kitx_list I.kIn ⟨_,h1,rfl⟩ e (fun z=>nomatch z) h
 | @frz a ob xs ea =>
  cases (show u=Value.ref a from rx)
  obtain ⟨_,_,_,n,_,h1⟩:=(show yM X.prog X.w H s.heap a (.frz ob (.lst xs)) from I.hok a _ ea)
  exact PySem.W.kia_one PySem.W.kitx_list I.kIn ⟨_,h1,rfl⟩ e (fun z=>nomatch z) h
 | @tup a xs ea =>
  cases (show u=Value.ref a from rx)
  obtain ⟨_,_,_,p⟩:=(show yM X.prog X.w H s.heap a (.tup xs) from I.hok a _ ea)
  obtain ⟨o,h1,h2,_⟩:=p
  exact PySem.W.kia_one PySem.W.kitx_tuple I.kIn ⟨o,h1,h2⟩ e (fun z=>nomatch z) h
 | @dK a kvs ea =>
  cases (show u=Value.ref a from rx)
  obtain ⟨_,_,vs,_,p⟩:=(show yM X.prog X.w H s.heap a (.dK kvs) from I.hok a _ ea)
  obtain ⟨o,es,ep,h1,h2,_⟩:=p
  exact PySem.W.kia_one PySem.W.kitx_dict I.kIn ⟨o,h1,h2.1⟩ e (fun z=>nomatch z) h
 | @dT a kvs ea =>
  cases (show u=Value.ref a from rx)
  obtain ⟨_,_,xs,_,o,es,ep,h1,h2,_⟩:=(show yM X.prog X.w H s.heap a (.dT kvs) from I.hok a _ ea)
  exact PySem.W.kia_one PySem.W.kitx_dict I.kIn ⟨o,h1,h2.1⟩ e (fun z=>nomatch z) h
 | @ins a C dx fs ea cl ha hn htk hm =>
  cases (show u=Value.ref a from rx)
  obtain ⟨mA,O,_⟩:=zEc I.hok ea
  obtain ⟨od,J,_⟩:=O.look
  exact PySem.W.kia_one (PySem.W.kitx_own (cl.get _) cl.hd ha hn htk hm) I.kIn J e (fun z=>nomatch z) h
end
end L2
namespace L2
open PySem PySem.Spec PyProof.Rows
structure Room (k:Nat) (A:Around):Prop where
 hd:A.handled=none
 dp:A.depth+3 * k+5 < recursionLimit
 un:A.units+16 * k+200 < cLine
theorem Room.mono {j k:Nat}{A:Around} (r:Room k A) (h:j<=k):Room j A:=⟨r.hd,by have:=r.dp; omega,by have:=r.un; omega⟩
theorem Room.deeper {k:Nat}{A:Around} (r:Room (k+1) A) (env:Env):Room k (A.deeper env) :=
 ⟨r.hd,by have:=r.dp; show A.depth+1+3 * k+5 < _; omega,by have:=r.un; show A.units+3+16 * k+200 < _; omega⟩
theorem Room.in1 {k:Nat}{A:Around} (r:Room (k+1) A):Room k A.in1 :=
 ⟨r.hd,by have:=r.dp; show A.depth+3 * k+5 < _; omega,by have:=r.un; show A.units+1+16 * k+200 < _; omega⟩
theorem Room.depth {k:Nat}{A:Around} (r:Room k A):A.depth < recursionLimit:=by have:=r.dp; omega
theorem Room.units {k:Nat}{A:Around} (r:Room k A):A.units+64 < cLine:=by have:=r.un; omega
def zEd:TA:=fun _ H Q=>Q [] H
def zCB (ta:TE) (tr:TA):TA:=fun σ H Q=>ta σ H fun x H1=>tr σ H1 fun xs H2=>Q (x::xs) H2
section
variable {X:Cx}{e:Expr}{es:List Expr}{te:TE}{t:TA}{pos:Pos}
theorem zD:PA X [] zEd:=fun _ _ _ _ H Q I h=>Calls.spliced_nil ⟨[],H,I,.nil,h⟩
theorem zC (ha:PE X e te) (hr:PA X es t) (hs:starEach (e::es) X.env=(false,eval e X.env)::starEach es X.env:=by rfl):PA X (e::es) (zCB te t):=by
 intro pos pins s σ H Q I h
 rw [hs]
 show wpAny _ _ (spliced ((false,eval e X.env)::backTo pos (starEach es X.env))) _ _ s
 refine Calls.spliced_cons (zK (ha pins s σ H _ I h) fun u s1 ⟨x,H1,I1,r1,q1⟩=>?_)
 exact zK (hr pos pins s1 σ H1 _ I1 q1) fun us s2 ⟨xs,H2,I2,r2,q2⟩=>⟨x::xs,H2,I2,.cons r1 r2,q2⟩
def zIa (t:TA):TE:=fun σ H Q=>t σ H fun xs H1=>xs.length<=sizeLine/\∀ p,H1 p=none->Q (.ref p) (upd H1 p (.tup xs))
def zIb (t:TA):TE:=fun σ H Q=>t σ H fun xs H1=>xs.length<=sizeLine/\∀ p,H1 p=none->Q (.ref p) (upd H1 p (.lst xs))
theorem vJ {x1} (h:PA X es t):PE X (.Tuple es x1 pos) (zIa t):=by
 intro pins s σ H Q I hq
 refine wpAny_Tuple_spliced (zK (h pos pins s σ H _ I hq) fun us s1 ⟨xs,H1,I1,r,z,q⟩=>⟨by rw [<- r.length]; exact z,?_⟩)
 have hf:H1 s1.heap.objs.size=none:=I1.hok.fresh (Nat.le_refl _)
 refine ⟨.ref s1.heap.objs.size,upd H1 s1.heap.objs.size (.tup xs),I1.laid (t':=s1.toks) (fun b u e=>Heap.get?_push_of_some _ e) (Nat.le_refl _) ?_,rfl,q _ hf⟩
 exact ⟨z,us,r,⟨_,Heap.get?_push_size _ rfl,rfl,_,rfl⟩⟩
theorem yR (h:PA X es t):PE X (.List es pos) (zIb t):=by
 intro pins s σ H Q I hq
 refine wpAny_List_spliced (zK (h pos pins s σ H _ I hq) fun us s1 ⟨xs,H1,I1,r,z,q⟩=>⟨by rw [<- r.length]; exact z,?_⟩)
 have hf:H1 s1.heap.objs.size=none:=I1.hok.fresh (Nat.le_refl _)
 refine ⟨.ref s1.heap.objs.size,upd H1 s1.heap.objs.size (.lst xs),I1.laid (t':=s1.toks) (fun b u e=>Heap.get?_push_of_some _ e) (Nat.le_refl _) ?_,rfl,q _ hf⟩
 exact ⟨z,us,0,r,Heap.get?_push_size _ rfl⟩
end
abbrev Sp:=List V->Hp->VK->XK->Prop
abbrev uH:=List Env->Hp->Shared->XK->Value->Shared->Prop
structure Env0 (P:Program) (w:World) (K:PySem.W.Frag) (mg:Str->Option Value) (base:Heap) (A:Around) (outer:List Env) (s:Shared) (H:Hp):Prop where
 frames:A.frames=some outer
 mod:Mod K mg base
 bs:∀ b o,base.get? b=some o->s.heap.get? b=some o/\H b=none
 bsz:base.objs.size<=s.heap.objs.size
 funs:s.heap.FunFrames base outer
 frf:∀ b∈y9 outer,H b=none
 hok:zZ P w H s.heap
 bare:AllBare s.gens
def CE (outer:List Env) (P:Program) (w:World) (H:Hp) (s:Shared) (Q:VK) (u:Value) (s':Shared):Prop :=
 ∃ v H',s'.os=s.os/\AllBare s'.gens/\Un (y9 outer) [] H H' s.heap s'.heap/\zZ P w H' s'.heap/\zQ v u/\Q v H'
def CR (CX:uH) (outer:List Env) (P:Program) (w:World) (H:Hp) (s:Shared) (Q:VK) (E:XK) (r:Result) (s':Shared):Prop :=
 match r with
 | .ok (.ret u)=>CE outer P w H s Q u s'
 | .ok _=>False
 | .error e=>CX outer H s E e s'
structure FnOk (P:Program) (w:World) (K:PySem.W.Frag) (mg:Str->Option Value) (base:Heap) (CX:uH) (k:Nat) (f:Addr) (fd:FuncData) (ps:List Str) (sp:Sp):Prop where
 len:∀ vs H Q E,sp vs H Q E->vs.length=ps.length
 run:∀ (A:Around) (outer:List Env) (s:Shared) (H:Hp) (args:Args) (us:List Value) (vs:List V) (Q:VK) (E:XK),Room k A->Env0 P w K mg base A outer s H->BindsTo s fd args (ps.zip us)->zL vs us->sp vs H Q E ->
  codeAny (model P w) A (.call (.ref f) args) (CR CX outer P w H s Q E) s
theorem FnOk.imp {P:Program}{w:World}{K:PySem.W.Frag}{mg:Str->Option Value}{base:Heap}{CX:uH}{k:Nat}{f:Addr}{fd:FuncData}{ps:List Str}{sp sp':Sp} (F:FnOk P w K mg base CX k f fd ps sp)
  (h:∀ vs H Q E,sp' vs H Q E->sp vs H Q E):FnOk P w K mg base CX k f fd ps sp' :=
 ⟨fun vs H Q E q=>F.len vs H Q E (h _ _ _ _ q),fun A outer s H args us vs Q E hr he hb hv hs=>F.run A outer s H args us vs Q E hr he hb hv (h _ _ _ _ hs)⟩
theorem Env0.in1 {P:Program}{w:World}{K:PySem.W.Frag}{mg:Str->Option Value}{base:Heap}{A:Around}{outer:List Env}{s:Shared}{H:Hp} (e:Env0 P w K mg base A outer s H) :
  Env0 P w K mg base A.in1 outer s H:=⟨e.frames,e.mod,e.bs,e.bsz,e.funs,e.frf,e.hok,e.bare⟩
section
variable {X:Cx}{pins:List (Addr × Obj)}{σ:St}{H:Hp}{s s':Shared}
theorem Inv.env0 (I:Inv X pins σ H s):Env0 X.prog X.w X.K X.mg X.base X.A X.stack s H :=
 ⟨I.ok.frames,I.ok.mod,I.bs,Nat.le_trans I.ok.bsz I.sz,I.stack,I.stkFree,I.hok,I.bare⟩
theorem Inv.after {Q:VK}{u:Value} (I:Inv X pins σ H s) (h:CE X.stack X.prog X.w H s Q u s'):EP X pins σ Q u s':=by
 obtain ⟨v,H',os,bare,un,hok,r,q⟩:=h
 obtain ⟨hh,g,d,t,os'⟩:=s'
 obtain rfl:os'=s.os:=os
 exact ⟨v,H',I.call (h':=hh) (g':=g) (d':=d) (t':=t) (ch:=[]) un hok bare (fun b z=>absurd z (by simp)),r,q⟩
end
def zAk (sp:Sp) (dvs:List V) (E:XK) (t:TA):TE:=fun σ H Q=>t σ H fun vs H1=>sp (vs++dvs) H1 Q E
def jL (K:PySem.W.Frag) (fd:FuncData) (ps:List Str) (ds:List Value):Prop :=
 ∀ (s:Shared) (us:List Value),K.In s.heap->(us++ds).length=ps.length->BindsTo s fd ⟨us,[]⟩ (ps.zip (us++ds))
theorem jL.all {K:PySem.W.Frag}{fd:FuncData}{ps:List Str} (h:∀ us:List Value,us.length=ps.length->bindArgs fd ⟨us,[]⟩=pure (ps.zip us)):jL K fd ps []:=fun s us _ hl=>by
 rw [List.append_nil] at hl ⊢
 exact .of_eq (h us hl)
def zAM (CX:uH) (X:Cx) (E:XK):Prop:=∀ (pins:List (Addr × Obj)) (σ:St) (H:Hp) (s:Shared) (e:Value) (s':Shared),Inv X pins σ H s->CX X.stack H s E e s'->X.xe e s'
section
variable {X:Cx}{CX:uH}{k:Nat}{f C:Addr}{fd:FuncData}{ps:List Str}{sp:Sp}{dvs:List V}{ds:List Value}{E:XK}{x m:Str}{p pos apos:Pos}{e o:Expr}{es:List Expr}{ta:TE}{t:TA}
theorem zIc {pins:List (Addr × Obj)}{σ:St}{H:Hp}{s:Shared}{Q:VK}{us:List Value}{vs:List V} (F:FnOk X.prog X.w X.K X.mg X.base CX k f fd ps sp) (hr:Room k X.A) (hb:jL X.K fd ps ds) (hd:zL dvs ds) (hx:zAM CX X E)
  (I:Inv X pins σ H s) (r:zL vs us) (h:sp (vs++dvs) H Q E):wpAny (model X.prog X.w) X.A (call (.ref f) us) (EP X pins σ Q) X.xe s:=by
 have r2:zL (vs++dvs) (us++ds):=r.append hd
 have hl:(us++ds).length=ps.length:=by rw [<- r2.length]; exact F.len _ _ _ _ h
 refine wpAny_call (codeAny_mono (F.run X.A X.stack s H ⟨us,[]⟩ (us++ds) (vs++dvs) Q E hr I.env0 (hb s us I.kIn hl) r2 h) fun r s' hq=>?_)
 cases r with
 | error e=>exact hx pins σ H s e s' I hq
 | ok fl =>
  cases fl with
  | ret u=>exact I.after hq
  | next=>exact False.elim hq
  | brk=>exact False.elim hq
  | cont=>exact False.elim hq
theorem zEe (F:FnOk X.prog X.w X.K X.mg X.base CX k f fd ps sp) (hr:Room k X.A) (hg:Gl X x) (hm:X.mg x=some (.ref f)) (hk:PySem.W.keepIn X.K (.ref f)=true) (hb:jL X.K fd ps ds) (hd:zL dvs ds) (hx:zAM CX X E)
  (ha:PA X (e::es) t) (hdb:(x == ("__debug__" : Str))=false:=by decide) (he:starEach (e::es) X.env=(false,eval e X.env)::starEach es X.env:=by rfl) (hpl:(backTo pos (starEach es X.env)).any (·.1)=false:=by rfl) :
  PE X (.Call (.Name x p) (e::es) [] pos) (zAk sp dvs E t):=by
 intro pins s σ H Q I h
 refine wpAny_Call_Name_kw (zAf I hg hm ?_ hdb)
 refine PySem.W.callWith_K (h₀:=X.base) I.ok.mod.kin hk (zK (ha pos pins s σ H _ I h) fun us s1 ⟨vs,H1,I1,r,q⟩=>⟨I1.kIn,?_⟩) he hpl
 exact zIc F hr hb hd hx I1 r q
end
section
variable {X:Cx}{CX:uH}{k:Nat}{f C:Addr}{fd:FuncData}{ps ks:List Str}{sp:Sp}{E:XK}{x m:Str}{p pos apos kpos:Pos}{e o:Expr}{es:List Expr}{kws:List Keyword}{te ta:TE}{t tk:TA}{nm:Option Str}
variable {g:List Value->List Value->List Value}{gV:List V->List V->List V}
end
structure FnScope (N P:List Str) (sc:Scope):Prop where
 kind:sc.kind=.function
 co:sc.isCoroutine=false
 gen:sc.isGenerator=false
 nd:N.Nodup
 pre:N.take P.length=P
 par:∀ x∈P,sc.names.lookup x=some .local\/sc.names.lookup x=some .cell
 nofree:∀ y∈sc.names,y.2≠.free
theorem zEf {kindOf:Str->Option NameKind}{x:Str}:∀ {binds:List (Str × Value)}{m:Str->Option Value},(∀ v,(x,v) ∉ binds)->bindL kindOf binds m x=m x
 | [],_,_=>rfl
 | (n,v)::r,m,h=>by
  unfold bindL
  rw [zEf fun w hw=>h w (List.mem_cons_of_mem _ hw)]
  split
  ·have:x≠n:=by rintro rfl; exact h v List.mem_cons_self
   simp [this]
  ·rfl
theorem zEg {kindOf:Str->Option NameKind}{x:Str}:∀ {binds:List (Str × Value)}{m:Str->Option Value},(∀ v,(x,v) ∉ binds)->bindC kindOf binds m x=m x
 | [],_,_=>rfl
 | (n,v)::r,m,h=>by
  unfold bindC
  rw [zEg fun w hw=>h w (List.mem_cons_of_mem _ hw)]
  split
  ·rfl
  ·have:x≠n:=by rintro rfl; exact h v List.mem_cons_self
   simp [this]
theorem zCC {kindOf:Str->Option NameKind}{x:Str}{v:Value}:∀ {P:List Str}{vs:List Value}{i:Nat}{m:Str->Option Value},P.Nodup->P[i]?=some x->vs[i]?=some v->kindOf x=some .local ->
  bindL kindOf (P.zip vs) m x=some v
 | [],_,_,_,_,h,_,_=>by simp at h
 | _::_,[],_,_,_,_,h,_=>by simp at h
 | p::P,w::vs,0,m,nd,h1,h2,hk=>by
  simp at h1 h2; subst h1; subst h2
  show bindL kindOf ((p,w)::P.zip vs) m p=_
  unfold bindL
  rw [zEf fun v hv=>(List.nodup_cons.mp nd).1 (List.of_mem_zip hv).1,if_pos hk]
  simp
 | p::P,w::vs,i+1,m,nd,h1,h2,hk=>by
  show bindL kindOf ((p,w)::P.zip vs) m x=_
  unfold bindL
  exact zCC (i:=i) (List.nodup_cons.mp nd).2 (by simpa using h1) (by simpa using h2) hk
theorem zCD {kindOf:Str->Option NameKind}{x:Str}{v:Value}:∀ {P:List Str}{vs:List Value}{i:Nat}{m:Str->Option Value},P.Nodup->P[i]?=some x->vs[i]?=some v->kindOf x≠some .local ->
  bindC kindOf (P.zip vs) m x=some v
 | [],_,_,_,_,h,_,_=>by simp at h
 | _::_,[],_,_,_,_,h,_=>by simp at h
 | p::P,w::vs,0,m,nd,h1,h2,hk=>by
  simp at h1 h2; subst h1; subst h2
  show bindC kindOf ((p,w)::P.zip vs) m p=_
  unfold bindC
  rw [zEg fun v hv=>(List.nodup_cons.mp nd).1 (List.of_mem_zip hv).1,if_neg hk]
  simp
 | p::P,w::vs,i+1,m,nd,h1,h2,hk=>by
  show bindC kindOf ((p,w)::P.zip vs) m x=_
  unfold bindC
  exact zCD (i:=i) (List.nodup_cons.mp nd).2 (by simpa using h1) (by simpa using h2) hk
def uI (N:List Str) (vs:List V):St:=vs.map some++List.replicate (N.length - vs.length) none
def jS (CX:uH) (P:Program) (w:World) (K:PySem.W.Frag) (mg:Str->Option Value) (base:Heap) (N:List Str) (qual:Str) (scope:Scope) (f:Addr) (cd:Value) (A:Around) (outer:List Env) (s:Shared) (H:Hp) (E:XK):Cx where
 prog:=P
 w:=w
 K:=K
 mg:=mg
 base:=base
 A:=A.deeper (envOfC qual scope s.heap.objs.size f cd)
 N:=N
 s₀:=s
 H₀:=H
 env:=envOfC qual scope s.heap.objs.size f cd
 outer:=outer
 stack:=envOfC qual scope s.heap.objs.size f cd::outer
 ex:=[]
 calm:=true
 fn:=fun _=>true
 pn:=[]
 xe:=fun e s'=>wpAny (model P w) (A.deeper (envOfC qual scope s.heap.objs.size f cd)) (leaving (envOfC qual scope s.heap.objs.size f cd) e) (fun _ s''=>CX outer H s E e s'') (fun e' s''=>CX outer H s E e' s'') s'
theorem zBL {sc:Scope}{n:Nat}{x:Str} (h:sc.names.lookup x=some .cell):∃ c,(cellsFrom n sc.names []).lookup x=some c:=by
 have q:=PySem.W.cellsFrom_some sc.names n [] (.inl h)
 exact Option.isSome_iff_exists.mp q
theorem zId {CX:uH}{P:Program}{w:World}{K:PySem.W.Frag}{mg:Str->Option Value}{base:Heap}{N ps:List Str}{qual:Str}{scope:Scope}{f:Addr}{cd:Value}{A:Around}{outer:List Env}{s s1:Shared}{H:Hp}{E:XK}{us:List Value}{vs:List V}
  (S:FnScope N ps scope) (hd:A.handled=none) (e0:Env0 P w K mg base A outer s H) (hl:vs.length=ps.length) (r:zL vs us)
  (x:InCallC s s.heap.objs.size (bindL (envOfC qual scope s.heap.objs.size f cd).kindOf (ps.zip us) fun _=>none) (cellsFrom (s.heap.objs.size+1) scope.names []) (bindC (envOfC qual scope s.heap.objs.size f cd).kindOf (ps.zip us) fun _=>none) s1) :
  Inv (jS CX P w K mg base N qual scope f cd A outer s H E) [] (uI N vs) H s1:=by
 have hpl:ps.length<=N.length:=by have:=congrArg List.length S.pre; rw [List.length_take] at this; omega
 obtain ⟨h1,tk,rfl,hk⟩:=x.done
 have noA:∀ b:Addr,b ∉ (jS CX P w K mg base N qual scope f cd A outer s H E).ex:=fun b z=>absurd (show b∈([]:List Addr) from z) (by simp)
 refine ⟨⟨e0.mod,S.kind,rfl,rfl,Nat.le_refl _,fun y z c h1 h2=>?_,fun y hy=>?_,fun y c _ h=>?_,fun _=>hd,Around.frames_deeper e0.frames,.inr ⟨rfl,rfl⟩,fun b z=>absurd z (noA b),e0.bs,e0.bsz,fun b _ _=>noA b,fun b z=>absurd z (noA b),e0.funs,e0.frf⟩,
  rfl,e0.bare,Un.kept hk,⟨_,x.toInCall.ns,fun i y v h1 h2 h3=>?_⟩,fun y c h=>⟨_,x.cell y c h⟩,e0.hok.fresh (Nat.le_refl _),fun y c h=>?_,fun p hp=>absurd (show p∈([]:List (Addr × Obj)) from hp) (by simp),e0.hok.kept hk,?_⟩
 ·exact name_of_addr x.apart (PySem.mem_of_lookup h1) (PySem.mem_of_lookup h2)
 ·have hy:scope.names.lookup y=some .cell\/scope.names.lookup y=some .free:=hy
  rcases hy with hy | hy
  ·exact zBL hy
  ·exact absurd rfl (S.nofree _ (PySem.mem_of_lookup hy))
 ·exact Nat.le_of_lt (x.above y c (PySem.mem_of_lookup h))
 ·have hi:i < vs.length:=by
   unfold uI at h2
   by_cases hi:i < vs.length
   ·exact hi
   ·rw [List.getElem?_append_right (by simpa using hi)] at h2
    rw [List.getElem?_replicate] at h2
    split at h2 <;> cases h2
  have ha:vs[i]?=some v:=by
   unfold uI at h2
   rw [List.getElem?_append_left (by simpa using hi),List.getElem?_map] at h2
   cases e:vs[i]? with
   | none=>rw [e] at h2; cases h2
   | some a=>rw [e] at h2; cases h2; rfl
  obtain ⟨u,hu,rv⟩:=r.get ha
  have hp:ps[i]?=some y:=by
   rw [<- S.pre,List.getElem?_take_of_lt (by omega)]; exact h1
  have ndP:ps.Nodup:=by rw [<- S.pre]; exact S.nd.sublist (List.take_sublist _ _)
  refine ⟨u,rv,?_⟩
  rcases S.par y (List.mem_of_getElem? hp) with k | k
  ·exact .inl ⟨k,zCC ndP hp hu k⟩
  ·obtain ⟨c,e⟩:=zBL (n:=s.heap.objs.size+1) k
   refine .inr ⟨.inl k,c,e,?_⟩
   have q:=x.cell y c e
   rw [zCD ndP hp hu (by show scope.names.lookup y≠_; rw [k]; decide)] at q
   exact q
 ·exact e0.hok.fresh (Nat.le_of_lt (x.above y c (PySem.mem_of_lookup h)))
 ·unfold uI
  show _=N.length
  rw [List.length_append,List.length_map,List.length_replicate]
  omega
theorem zEh {CX:uH}{P:Program}{w:World}{K:PySem.W.Frag}{mg:Str->Option Value}{base:Heap}{k:Nat}{f:Addr}{name qual:Str}{params:Arguments}{body:List Stmt}{scope:Scope}{dV kV doc pm cdv ct oc:Value}{an od:Option Addr}
  {osl:Array (Option Value)} {N ps:List Str} {sp:Sp} (lk:K.lookup f=some ⟨oc,od,.func (PySem.W.fnOf name qual params body scope dV kV doc pm an cdv ct),osl⟩) (hcd:PySem.W.codeIn K cdv qual=true) (S:FnScope N ps scope)
  (len:∀ vs H Q E,sp vs H Q E->vs.length=ps.length)
  (hbody:∀ (A:Around) (outer:List Env) (s:Shared) (H:Hp) (vs:List V) (Q:VK) (E:XK),Room k (A.deeper (envOfC qual scope s.heap.objs.size f cdv))->sp vs H Q E ->
   ∃ t,uD (jS CX P w K mg base N qual scope f cdv A outer s H E) body t/\t { nx:=fun _ H'=>Q .non H',rt:=Q } (uI N vs) H) :
  FnOk P w K mg base CX (k+1) f (PySem.W.fnOf name qual params body scope dV kV doc pm an cdv ct) ps sp:=by
 refine ⟨len,fun A outer s H args us vs Q E hr e0 hb r hsp=>?_⟩
 have hl:=len _ _ _ _ hsp
 have KX:K.In s.heap:=e0.mod.kin.keeps fun b o e=>(e0.bs b o e).1
 have lim:s.heap.NoLimit:=e0.mod.nolimit.keeps fun b o e=>(e0.bs b o e).1
 have hkind:∀ y∈ps.zip us,scope.names.lookup y.1=some .local\/(scope.names.lookup y.1=some .cell/\((cellsFrom (s.heap.objs.size+1) scope.names []).lookup y.1).isSome=true):=fun ⟨n,v⟩ hy=>by
  rcases S.par n (List.of_mem_zip hy).1 with q | q
  ·exact .inl q
  ·exact .inr ⟨q,PySem.W.cellsFrom_some _ _ _ (.inl q)⟩
 refine codeAny_call_function hr.depth (KX _ _ lk) rfl S.co S.gen rfl (PySem.W.codeRec_of KX hcd) (hb _ _ _ _ ?_)
 refine wpAny_newFunctionEnv_cells S.kind hkind fun env he s1 x=>?_
 subst he
 refine ⟨lim.keeps x.toInCall.keep,codeAny_func ?_⟩
 obtain ⟨t,ht,hq⟩:=hbody A outer s H vs Q E (hr.deeper _) hsp
 have I:Inv (jS CX P w K mg base N qual scope f cdv A outer s H E) [] (uI N vs) H s1:=zId S hr.hd e0 hl r x
 refine wpAny_mono (ht [] s1 (uI N vs) H _ I hq) (fun fl s' hs=>?_) fun e s' hs=>hs
 have fin:∀ {σ':St} {H':Hp} {v:V} {u:Value},Inv (jS CX P w K mg base N qual scope f cdv A outer s H E) [] σ' H' s'->zQ v u->Q v H'->CE outer P w H s Q u s' :=
  fun {σ' H' v u} J rv q=>⟨v,H',J.os,J.bare,J.base,J.hok,rv,q⟩
 cases fl with
 | ret u =>
  obtain ⟨v,σ',H',J,rv,q⟩:=hs
  exact fin J rv q
 | next =>
  obtain ⟨σ',H',J,q⟩:=hs
  exact fin (v:=V.non) (u:=Value.none) J rfl q
 | brk =>
  obtain ⟨_,_,_,q⟩:=hs
  exact False.elim q
 | cont =>
  obtain ⟨_,_,_,q⟩:=hs
  exact False.elim q
end L2
namespace L2
open PySem PySem.Spec PyProof.Rows
section
variable {X:Cx}{x:Str}{p pos:Pos}{e:Expr}{es:List Expr}{t:TA}{id T:String}{r:List V->Hp->VK->Prop}
def tCB (r:List V->Hp->VK->Prop) (t:TA):TE:=fun σ H Q=>t σ H fun vs H1=>r vs H1 Q
theorem yC (hc:uO X (.builtin id) r) (hg:Gl X x) (hm:X.mg x=none) (hv:bootBuiltins x=some (.builtin id)) (ha:PA X (e::es) t) (hn:x ≠ "__name__" := by decide) (hdb:(x == ("__debug__" : Str))=false:=by decide)
  (he:starEach (e::es) X.env=(false,eval e X.env)::starEach es X.env:=by rfl) (hpl:(backTo pos (starEach es X.env)).any (·.1)=false:=by rfl):PE X (.Call (.Name x p) (e::es) [] pos) (tCB r t):=by
 intro pins s σ H Q I h
 refine wpAny_Call_Name_kw (kL I hg hm hv ?_ hn hdb)
 exact PyProof.Rows.callWith_builtin1 (zK (ha pos pins s σ H _ I h) fun us s1 ⟨vs,H1,I1,r1,q1⟩=>hc pins s1 σ H1 vs us Q I1 r1 q1) he hpl
theorem zBM (hc:uO X (.type T) r) (hg:Gl X x) (hm:X.mg x=none) (hv:bootBuiltins x=some (.type T)) (ha:PA X (e::es) t) (hn:x ≠ "__name__" := by decide) (hdb:(x == ("__debug__" : Str))=false:=by decide)
  (he:starEach (e::es) X.env=(false,eval e X.env)::starEach es X.env:=by rfl) (hpl:(backTo pos (starEach es X.env)).any (·.1)=false:=by rfl):PE X (.Call (.Name x p) (e::es) [] pos) (tCB r t):=by
 intro pins s σ H Q I h
 refine wpAny_Call_Name_kw (kL I hg hm hv ?_ hn hdb)
 exact PyProof.Rows.callWith_type1 (zK (ha pos pins s σ H _ I h) fun us s1 ⟨vs,H1,I1,r1,q1⟩=>hc pins s1 σ H1 vs us Q I1 r1 q1) he hpl
end
end L2
namespace HT
open PySem PyProof.Rows
section
open PySem.SeqAt
open PySem.AutoSeq1 (wpAny_loadPart')
open PySem.MeetsSeq PySem.MeetsSeq2 PySem.MeetsSeq3
end
section
variable {prog:Program}{w:World}{A:Around}{E:Value->Shared->Prop}{s:Shared}
theorem cat_tup {t b:Addr}{vs ws:List Value}{Q:Value->Shared->Prop} (ht:IsTup s.heap t vs.toArray) (hb:IsTup s.heap b ws.toArray) (hv:vs≠[])
  (h1:ws=[]->Q (.ref t) s) (h2:ws≠[]->Q (.ref s.heap.objs.size) { s with heap:=s.heap.push { cls:=.type "tuple",data:=.seq (vs++ws).toArray } })
  (hsz:vs.length+ws.length<=sizeLine):wpAny (model prog w) A (binaryOp .Add (.ref t) (.ref b)) Q E s:=by
 obtain ⟨⟨cls,dd,data,sl⟩,ho,hc,n,hd⟩:=id ht
 obtain ⟨⟨cls2,dd2,data2,sl2⟩,ho2,hc2,n2,hd2⟩:=id hb
 simp only at hc hd hc2 hd2
 subst hc hd hc2 hd2
 have e:vs.toArray++ws.toArray=(vs++ws).toArray:=by simp
 by_cases hw:ws=[]
 ·exact concat_meets ⟨_,ho,rfl⟩ ⟨_,ho2,rfl⟩ noFill_tuple_add seq_tuple_add PySem.F.slot_tuple_add PySem.F.entry_tuple_add (PySem.F.args_tuple_add_2 _ _)
   (tuple_addW1 t b vs.toArray ws.toArray n n2 dd dd2 sl sl2 (by simpa using hv) (by simp [hw])) ⟨ho,ho2,h1 hw⟩
 ·refine concat_meets ⟨_,ho,rfl⟩ ⟨_,ho2,rfl⟩ noFill_tuple_add seq_tuple_add PySem.F.slot_tuple_add PySem.F.entry_tuple_add (PySem.F.args_tuple_add_2 _ _)
   (tuple_addW2 t b vs.toArray ws.toArray n n2 dd dd2 sl sl2 (by simpa using hv) (by simpa using hw) (by rw [List.size_toArray,List.size_toArray]; exact hsz)) ⟨ho,ho2,?_⟩
  rw [e]
  exact h2 hw
def sIx (n d:Nat):Option Int->Nat
 | none=>d
 | some v=>if v < 0 then (v+(n:Int)).toNat else min v.toNat n
theorem sIx_nat (n d k:Nat):sIx n d (some (k:Int))=min k n:=by
 show (if (k:Int) < 0 then ((k:Int)+(n:Int)).toNat else min (k:Int).toNat n)=min k n
 rw [if_neg (by omega),Int.toNat_natCast]
theorem sIx_le (n d:Nat) (hd:d<=n) (o:Option Int):sIx n d o<=n:=by
 cases o with
 | none=>exact hd
 | some v =>
  show (if v < 0 then (v+(n:Int)).toNat else min v.toNat n)<=n
  by_cases hv:v < 0
  ·rw [if_pos hv]; omega
  ·rw [if_neg hv]; exact Nat.min_le_right _ _
theorem zEi (v:Int) (n d:Nat):(if v < 0 then max (v+(n:Int)) 0 else min v (n:Int))=((sIx n d (some v):Nat):Int):=by
 show (if v < 0 then max (v+(n:Int)) 0 else min v (n:Int))=(((if v < 0 then (v+(n:Int)).toNat else min v.toNat n):Nat):Int)
 by_cases hv:v < 0
 ·simp only [if_pos hv]; omega
 ·simp only [if_neg hv]; omega
theorem zIe (lo hi:Option Int) (n:Nat):Builtin.Slice.sliceAdjust lo hi 1 (n:Int)=(((sIx n 0 lo:Nat):Int),((sIx n n hi:Nat):Int)):=by
 have h1:¬ ((1:Int) < 0):=by omega
 unfold Builtin.Slice.sliceAdjust
 simp only [h1,if_false]
 refine Prod.ext ?_ ?_
 ·cases lo with
  | none=>rfl
  | some v=>exact zEi v n 0
 ·cases hi with
  | none=>rfl
  | some v=>exact zEi v n n
theorem zIf (i j:Nat):Builtin.Slice.slicePlaces (i:Int) (j:Int) 1=j - i:=by
 unfold Builtin.Slice.slicePlaces
 have h1:(1:Int) > 0:=by omega
 simp only [h1,if_true,Int.ediv_one]
 split <;> omega
theorem zEj {v:Value}{o:Option Int}{Q:Option Int->Shared->Prop} (p:IsPart v o) (h:Q o s):wpAny (model prog w) A (Builtin.Slice.slicePartIndex v) Q E s:=by
 cases p with
 | none=>exact slicePart_none h
 | int i t=>exact slicePart_int h
theorem sliceApplied_gen {sl:Addr}{vl vu:Value}{lo hi:Option Int}{n:Nat}{Q:Int × Int × Nat->Shared->Prop} (hs:s.heap.IsSliceOf sl vl vu .none) (pl:IsPart vl lo) (pu:IsPart vu hi)
  (h:Q (((sIx n 0 lo:Nat):Int),1,sIx n n hi - sIx n 0 lo) s):wpAny (model prog w) A (Builtin.Slice.sliceApplied (.ref sl) (pure (n:Int))) Q E s:=by
 obtain ⟨os,hos,hcs,hds⟩:=id hs
 unfold Builtin.Slice.sliceApplied Builtin.Slice.sliceFields
 refine wpAny_bind (wpAny_bind (wpAny_field hos hds (x:=vl) rfl (wpAny_bind (wpAny_field hos hds (x:=vu) rfl (wpAny_bind (wpAny_field hos hds (x:=.none) rfl (wpAny_pure ?_)))))))
 refine wpAny_bind (slicePart_none ?_)
 show wpAny _ _ (if ((1:Int) == 0)=true then _ else _) _ _ s
 rw [if_neg (by decide)]
 refine wpAny_bind (zEj pl (wpAny_bind (zEj pu (wpAny_bind (wpAny_pure ?_)))))
 show wpAny _ _ (match Builtin.Slice.sliceAdjust lo hi 1 (n:Int) with | (lo,hi)=>pure (lo,(1:Int),Builtin.Slice.slicePlaces lo hi 1)) _ _ s
 rw [zIe lo hi n]
 show wpAny _ _ (pure (((sIx n 0 lo:Nat):Int),(1:Int),Builtin.Slice.slicePlaces ((sIx n 0 lo:Nat):Int) ((sIx n n hi:Nat):Int) 1)) _ _ s
 rw [zIf]
 exact wpAny_pure h
theorem zIg (xs:Array Value) (i k:Nat):((List.range k).filterMap fun (m:Nat)=>xs[((i:Int)+(m:Int) * 1).toNat]?).toArray=((xs.toList.drop i).take k).toArray:=by
 have e:(fun (m:Nat)=>xs[((i:Int)+(m:Int) * 1).toNat]?)=fun m=>xs[i+m]?:=by
  funext m
  have:((i:Int)+(m:Int) * 1).toNat=i+m:=by omega
  rw [this]
 rw [e]
 have:=pick_run xs i k
 rw [List.filterMap_map] at this
 have e2:((fun x=>xs[x]?) ∘ fun x=>i+x)=fun m=>xs[i+m]?:=rfl
 rw [e2] at this
 rw [this]
theorem getItem_tuple_cut {t sl:Addr}{items:Array Value}{vl vu:Value}{lo hi:Option Int}{Q:Value->Shared->Prop} (ht:IsTup s.heap t items) (hs:s.heap.IsSliceOf sl vl vu .none) (pl:IsPart vl lo) (pu:IsPart vu hi)
  (hw:¬ (sIx items.size 0 lo=0/\sIx items.size items.size hi=items.size))
  (h:Q (.ref s.heap.objs.size) { s with heap:=s.heap.push { cls:=.type "tuple",data:=.seq ((items.toList.drop (sIx items.size 0 lo)).take (sIx items.size items.size hi - sIx items.size 0 lo)).toArray } })
  (hsz:items.size<=sizeLine):wpAny (model prog w) A (getItem (.ref t) (.ref sl)) Q E s:=by
 have htake:sizeOk (.seq ((items.toList.drop (sIx items.size 0 lo)).take (sIx items.size items.size hi - sIx items.size 0 lo)).toArray):=by
  show ((items.toList.drop (sIx items.size 0 lo)).take (sIx items.size items.size hi - sIx items.size 0 lo)).toArray.size<=sizeLine
  rw [List.size_toArray,List.length_take,List.length_drop,Array.length_toList]
  omega
 have hj:sIx items.size items.size hi<=items.size:=sIx_le _ _ (Nat.le_refl _) hi
 obtain ⟨os,hos,hcs,hds⟩:=id hs
 have hTs:s.TypeIs (.ref sl) "slice" := ⟨os,hos,hcs⟩
 unfold getItem
 try with_reducible refine wpAny_holding ?_
 first | refine wpAny_bind (wpAny_pure ?_) | skip
 refine wpAny_bind (wpAny_sequenceKey ht.typeIs (by decide) ?_)
 refine wpAny_bind (wpAny_callSpecial?_slot (name:=Str.ofString "__getitem__") ht.typeIs PyProof.Rows.slot_tuple_getitem
  (wpAny_call_entry PyProof.Rows.slot_tuple_getitem ht.typeIs entry_tuple_getitem ?_ (args_tuple_getitem _ _)))
 show wpAny _ _ (Builtin.Tuple.tupleItemsOf (.ref t) >>= _) _ _ s
 refine wpAny_bind (tupleItemsOf_ ht ?_)
 refine wpAny_bind (wpAny_typeOf hTs ?_)
 rw [if_pos (by decide)]
 refine wpAny_bind (sliceApplied_gen hs pl pu ?_)
 have hno:¬ ((((sIx items.size 0 lo:Nat):Int) == 0 && (1:Int) == 1 && (sIx items.size items.size hi - sIx items.size 0 lo) == items.size)=true):=by
  intro q
  rw [Bool.and_eq_true,Bool.and_eq_true] at q
  have q1:((sIx items.size 0 lo:Nat):Int)=0:=eq_of_beq q.1.1
  have q2:sIx items.size items.size hi - sIx items.size 0 lo=items.size:=eq_of_beq q.2
  exact hw ⟨by omega,by omega⟩
 show wpAny _ _ (if (((sIx items.size 0 lo:Nat):Int) == 0 && (1:Int) == 1 && (sIx items.size items.size hi - sIx items.size 0 lo) == items.size)=true then _ else _) _ _ s
 rw [if_neg hno,zIg]
 first
  | exact wpAny_bind (m:=Builtin.Tuple.tupleExact _) (wpAny_newObj_type (wpAny_pure ⟨_,rfl,wpAny_pure h⟩) htake)
  | exact wpAny_bind (m:=Builtin.Tuple.tupleExact _) (wpAny_newObj_type (wpAny_bind (wpAny_pure (wpAny_pure ⟨_,rfl,wpAny_pure h⟩))) htake)
  | exact wpAny_bind (wpAny_bind (m:=Builtin.Tuple.tupleExact _) (wpAny_newObj_type (wpAny_pure (wpAny_pure ⟨_,rfl,wpAny_pure h⟩)) htake))
  | exact wpAny_bind (wpAny_bind (m:=Builtin.Tuple.tupleExact _) (wpAny_newObj_type (wpAny_pure ⟨_,rfl,wpAny_pure h⟩) htake))
end
end HT
namespace L2
open PySem PySem.Spec PyProof.Rows
abbrev TO:=St->Hp->(Option Int->Hp->Prop)->Prop
def PO (X:Cx) (e:Option Expr) (t:TO):Prop :=
 ∀ (pins:List (Addr × Obj)) (s:Shared) (σ:St) (H:Hp) (Q:Option Int->Hp->Prop),Inv X pins σ H s->t σ H Q ->
  wpAny (model X.prog X.w) X.A (evalPart e X.env) (fun u s'=>∃ o H',Inv X pins σ H' s'/\IsPart u o/\Q o H') X.xe s
def zIh:TO:=fun _ H Q=>Q none H
def zIi (t:TE):TO:=fun σ H Q=>t σ H fun x H1=>∃ i,x=.int i/\Q (some i) H1
theorem zIj {ns:List Int}:∀ {us:List Value},zL (ns.map V.int) us->IntsAre us ns:=by
 induction ns with
 | nil=>intro us r; rw [List.map_nil] at r; cases r; exact .nil
 | cons n ns ih =>
  intro us r
  rw [List.map_cons] at r
  cases r with
  | cons r1 r2 =>
   obtain ⟨t,e⟩:=r1
   subst e
   exact .cons n t (ih r2)
section
variable {X:Cx}{e:Expr}{te:TE}{lo hi:Option Expr}{tl th:TO}{pos p2:Pos}
theorem qX:PO X none zIh:=by
 intro pins s σ H Q I h
 rw [evalPart_none]
 exact wpAny_pure ⟨none,H,I,.none,h⟩
theorem uE (h:PE X e te):PO X (some e) (zIi te):=by
 intro pins s σ H Q I hw
 rw [evalPart_some]
 refine zK (h pins s σ H _ I hw) fun u s1 ⟨x,H1,I1,r1,q1⟩=>?_
 obtain ⟨i,rfl,q⟩:=q1
 obtain ⟨t,rfl⟩:=r1
 exact ⟨some i,H1,I1,.int i t,q⟩
def SlR (X:Cx) (r:V->Option Int->Option Int->Hp->VK->Prop):Prop :=
 ∀ (pins:List (Addr × Obj)) (s:Shared) (σ:St) (H:Hp) (x:V) (v vl vu:Value) (lo hi:Option Int) (sl:Addr) (Q:VK),Inv X pins σ H s->zQ x v->s.heap.IsSliceOf sl vl vu .none->IsPart vl lo->IsPart vu hi->r x lo hi H Q ->
  ∃ T id,typeLookup (.type T) "__getitem__" = pure (some (.builtin id))/\s.TypeIs v T/\wpAny (model X.prog X.w) X.A (getItem v (.ref sl)) (EP X pins σ Q) X.xe s
def tSl (r:V->Option Int->Option Int->Hp->VK->Prop) (te:TE) (tl th:TO):TE:=fun σ H Q=>te σ H fun x H1=>tl σ H1 fun l H2=>th σ H2 fun u H3=>r x l u H3 Q
theorem zCE {r:V->Option Int->Option Int->Hp->VK->Prop} (hr:SlR X r) (he:PE X e te) (hl:PO X lo tl) (hu:PO X hi th):PE X (.Subscript e (.Slice lo hi none p2) pos) (tSl r te tl th):=by
 intro pins s σ H Q I h
 refine Subscript_ (zK (he pins s σ H _ I h) fun v s1 ⟨x,H1,I1,r1,q1⟩=>?_)
 refine wpAny_Slice (zK (hl pins s1 σ H1 _ I1 q1) fun vl s2 ⟨l,H2,I2,pl,q2⟩=>zK (hu pins s2 σ H2 _ I2 q2) fun vu s3 ⟨u,H3,I3,pu,q3⟩=>?_)
 rw [evalPart_none]
 refine wpAny_pure ?_
 have I4:Inv X pins σ H3 { s3 with heap:=s3.heap.push { cls:=.type "slice",data:=.fields #[vl,vu,.none] } }:=I3.kept (t':=s3.toks) fun b ob q=>Heap.get?_push_of_some _ q
 obtain ⟨T,id,hT,ht,hg⟩:=hr pins { s3 with heap:=s3.heap.push { cls:=.type "slice",data:=.fields #[vl,vu,.none] } } σ H3 x v vl vu l u s3.heap.objs.size Q I4 r1 (Heap.IsSliceOf.new ..) pl pu q3
 show wpAny (model X.prog X.w) X.A (subscriptTail e (.Slice lo hi none p2) v (.ref s3.heap.objs.size)) (EP X pins σ Q) X.xe { s3 with heap:=s3.heap.push { cls:=.type "slice",data:=.fields #[vl,vu,.none] } }
 exact tail_any (ops:=[.ref s3.heap.objs.size,v]) ht hT hg (by with_unfolding_all rfl)
def uB (xs:List V) (lo hi:Option Int):List V:=(xs.drop (HT.sIx xs.length 0 lo)).take (HT.sIx xs.length xs.length hi - HT.sIx xs.length 0 lo)
theorem zEk (xs:List V) (lo hi:Option Int):(uB xs lo hi).length<=xs.length:=by
 unfold uB
 rw [List.length_take,List.length_drop]
 omega
def zIk (K:PySem.W.Frag):V->Option Int->Option Int->Hp->VK->Prop:=fun x lo hi H Q=>∃ a xs,x=.ref a/\yG K H a xs /\
 ¬ (HT.sIx xs.length 0 lo=0/\HT.sIx xs.length xs.length hi=xs.length)/\∀ p,H p=none->Q (.ref p) (upd H p (.tup (uB xs lo hi)))
theorem zIl:SlR X (zIk X.K):=by
 intro pins s σ H x v vl vu lo hi sl Q I rx hs pl pu h
 obtain ⟨a,xs,rfl,hx,hw,q⟩:=h
 cases rx
 obtain ⟨its,r,ht,hz⟩:=I.tuple hx
 have hlen:its.toArray.size=xs.length:=by rw [List.size_toArray]; exact r.length.symm
 refine ⟨"tuple",_,PyProof.Rows.slot_tuple_getitem.lookup,ht.typeIs,?_⟩
 refine HT.getItem_tuple_cut ht hs pl pu (by rw [hlen]; exact hw) ?_ (by rw [hlen]; exact hz)
 rw [hlen]
 refine ⟨.ref s.heap.objs.size,_,I.laid (t':=s.toks) (o:=.tup (uB xs lo hi)) (fun b ob q=>Heap.get?_push_of_some _ q) (Nat.le_refl _) ?_,rfl,q _ (I.hok.fresh (Nat.le_refl _))⟩
 exact ⟨Nat.le_trans (zEk xs lo hi) hz,_,(r.drop (HT.sIx xs.length 0 lo)).take (HT.sIx xs.length xs.length hi - HT.sIx xs.length 0 lo),IsTup.new _ _⟩
def zIm (K:PySem.W.Frag):R2:=fun x y H Q=>∃ a b xs ys,x=.ref a/\y=.ref b/\yG K H a xs/\yG K H b ys/\xs≠[]/\xs.length+ys.length<=sizeLine /\
 (ys=[]->Q (.ref a) H)/\(ys≠[]->∀ p,H p=none->Q (.ref p) (upd H p (.tup (xs++ys))))
theorem zL.nil_iff {xs:List V}{us:List Value} (r:zL xs us):us=[]↔xs=[]:=by
 cases r with
 | nil=>simp
 | cons _ _=>simp
theorem zEl:yO X (binaryOp .Add) (zIm X.K):=by
 intro pins s σ H x y v u Q I rx ry h
 obtain ⟨a,b,xs,ys,rfl,rfl,ha,hb,hx,hz,q1,q2⟩:=h
 cases rx
 cases ry
 obtain ⟨its,r1,p1,_⟩:=I.tuple ha
 obtain ⟨its2,r2,p2,_⟩:=I.tuple hb
 refine HT.cat_tup p1 p2 (fun z=>hx (r1.nil_iff.mp z)) (fun z=>⟨.ref a,H,I,rfl,q1 (r2.nil_iff.mp z)⟩) (fun z=>?_) (by rw [<- r1.length,<- r2.length]; exact hz)
 refine ⟨.ref s.heap.objs.size,_,I.laid (t':=s.toks) (o:=.tup (xs++ys)) (fun b ob q=>Heap.get?_push_of_some _ q) (Nat.le_refl _) ?_,rfl,q2 (fun w=>z (r2.nil_iff.mpr w)) _ (I.hok.fresh (Nat.le_refl _))⟩
 exact ⟨by rw [List.length_append]; exact hz,_,r1.append r2,IsTup.new _ _⟩
end
end L2
namespace L2
open PySem PySem.Spec PyProof.Rows
def gC (n:Nat) (i:Int):Option Nat:=if 0<=i then (if i < n then some i.toNat else none) else if -(n:Int)<=i then some (i+n).toNat else none
def qK {α:Type} (xs:List α) (i:Int):Option α:=(gC xs.length i).bind fun j=>xs[j]?
theorem zIn {n:Nat}{i:Int}{j:Nat} (h:gC n i=some j):seqIndex? i n=some j/\j < n/\-(n:Int)<=i/\i < n:=by
 unfold gC at h
 by_cases h0:0<=i
 ·rw [if_pos h0] at h
  by_cases h1:i < n
  ·rw [if_pos h1] at h
   have e:i.toNat=j:=Option.some.inj h
   exact ⟨by rw [seqIndex_of h0 h1,e],by omega,by omega,h1⟩
  ·rw [if_neg h1] at h; cases h
 ·rw [if_neg h0] at h
  by_cases h1:-(n:Int)<=i
  ·rw [if_pos h1] at h
   have e:(i+n).toNat=j:=Option.some.inj h
   exact ⟨by rw [seqIndex_neg (by omega) h1,e],by omega,h1,by omega⟩
  ·rw [if_neg h1] at h; cases h
theorem zCF {α:Type}{xs:List α}{i:Int}{v:α} (h:qK xs i=some v):∃ j,seqIndex? i xs.length=some j/\xs[j]?=some v/\j < xs.length/\-(xs.length:Int)<=i/\i < xs.length:=by
 unfold qK at h
 cases e:gC xs.length i with
 | none=>rw [e] at h; cases h
 | some j =>
  rw [e] at h
  obtain ⟨h1,h2,h3,h4⟩:=zIn e
  exact ⟨j,h1,h,h2,h3,h4⟩
theorem qY {α:Type}{xs:List α}{j:Nat}{v:α} (h:xs[j]?=some v):qK xs (j:Int)=some v:=by
 have hj:j < xs.length:=(List.getElem?_eq_some_iff.mp h).1
 have e:gC xs.length (j:Int)=some j:=by
  unfold gC
  rw [if_pos (by omega),if_pos (by omega)]; simp
 unfold qK; rw [e]; exact h
theorem zIo {α:Type} (xs:List α) (v:α):qK (xs++[v]) (-1)=some v:=by
 have hl:(xs++[v]).length=xs.length+1:=by simp
 have e:gC (xs++[v]).length (-1)=some xs.length:=by
  unfold gC
  rw [hl,if_neg (by decide),if_pos (by omega)]
  congr 1
  omega
 unfold qK
 rw [e]
 show (xs++[v])[xs.length]?=some v
 simp
def zIp (b:Expr):Prop:=∀ o i,subscripted b false o i=operate [o,i] (getItem o i)
def kN (X:Cx) (r:R2):Prop :=
 ∀ (value slice:Expr) (pins:List (Addr × Obj)) (s:Shared) (σ:St) (H:Hp) (x y:V) (v u:Value) (Q:VK),Inv X pins σ H s->zQ x v->zQ y u->r x y H Q ->
  subscripted slice false v u=operate [v,u] (getItem v u)->wpAny (model X.prog X.w) X.A (subscriptTail value slice v u) (EP X pins σ Q) X.xe s
def MtR (X:Cx) (id:String) (r:V->List V->Hp->VK->Prop):Prop :=
 ∀ (pins:List (Addr × Obj)) (s:Shared) (σ:St) (H:Hp) (x:V) (xs:List V) (v:Value) (us:List Value) (Q:VK),Inv X pins σ H s->zQ x v->zL xs us->r x xs H Q ->
  wpAny (model X.prog X.w) X.A (call (.builtin id) (v::us)) (EP X pins σ Q) X.xe s
section
variable {X:Cx}{a b:Expr}{ta tb:TE}{pos:Pos}
theorem kN.or {r r':R2} (h:kN X r) (h':kN X r'):kN X (fun x y H Q=>r x y H Q\/r' x y H Q):=by
 intro value slice pins s σ H x y v u Q I rx ry q hs
 rcases q with q | q
 ·exact h value slice pins s σ H x y v u Q I rx ry q hs
 ·exact h' value slice pins s σ H x y v u Q I rx ry q hs
theorem yK {r:R2} (hr:kN X r) (ha:PE X a ta) (hb:PE X b tb) (hs:zIp b):PE X (.Subscript a b pos) (tOp r ta tb):=by
 intro pins s σ H Q I h
 exact Subscript_ (zBy ha hb I h fun v u s2 x y H2 I2 rx ry q=>hr a b pins s2 σ H2 x y v u Q I2 rx ry q (hs _ _))
def zEm (K:PySem.W.Frag):R2:=fun x y H Q=>∃ p xs i v,x=.ref p/\y=.int i/\yJ K H p xs/\qK xs i=some v/\Q v H
def zEn (K:PySem.W.Frag):R2:=fun x y H Q=>∃ p xs i v,x=.ref p/\y=.int i/\yG K H p xs/\qK xs i=some v/\Q v H
def zEo:R2:=fun x y H Q=>∃ z i c,x=.str z/\y=.int i/\z.length<=sizeLine/\qK z.cps.toList i=some c/\Q (.str ⟨#[c]⟩) H
theorem jT:kN X (zEm X.K):=by
 intro value slice pins s σ H x y v u Q I rx ry h hs
 obtain ⟨p,xs,i,z,rfl,rfl,hq,he,q⟩:=h
 cases rx
 obtain ⟨t,rfl⟩:=ry
 obtain ⟨its,r,pl,hz⟩:=I.list hq
 obtain ⟨j,h1,h2,h3,h4,h5⟩:=zCF he
 obtain ⟨w,ew,rw'⟩:=r.get h2
 have hl:=r.length
 have hn:=zAj
 have fin:EP X pins σ Q w s:=⟨z,H,I,rw',q⟩
 by_cases h0:0<=i
 ·have hj:i.toNat=j:=by
   rw [seqIndex_of h0 h5] at h1
   exact Option.some.inj h1
  exact item_listR pl.isList h0 (by omega) (by rw [hj]; simpa using ew) fin hs
 ·have hj:(i+(its.toArray.size:Int)).toNat=j:=by
   rw [seqIndex_neg (by omega) h4] at h1
   rw [List.size_toArray,<- hl]
   exact Option.some.inj h1
  exact subscriptTail_builtinR (x:=w) pl.isList.typeIs slot_list_getitem.lookup
   (wpAny_getItem_list_neg (Q:=fun r s'=>r=w/\EP X pins σ Q r s') pl.isList (by omega) (by rw [List.size_toArray] <;> omega) (by omega) (by rw [hj]; simpa using ew) ⟨rfl,fin⟩) hs
theorem vA:kN X (zEn X.K):=by
 intro value slice pins s σ H x y v u Q I rx ry h hs
 obtain ⟨p,xs,i,z,rfl,rfl,hq,he,q⟩:=h
 cases rx
 obtain ⟨t,rfl⟩:=ry
 obtain ⟨its,r,pl,hz⟩:=I.tuple hq
 obtain ⟨j,h1,h2,h3,h4,h5⟩:=zCF he
 obtain ⟨w,ew,rw'⟩:=r.get h2
 have hl:=r.length
 have hn:=zAj
 have fin:EP X pins σ Q w s:=⟨z,H,I,rw',q⟩
 exact subscriptTail_builtinR (x:=w) pl.typeIs slot_tuple_getitem.lookup
  (getItem_tuple (j:=j) (Q:=fun r s'=>r=w/\EP X pins σ Q r s') pl (by omega) (by omega) (by rw [List.size_toArray,<- hl]; exact h1) (by simpa using ew) ⟨rfl,fin⟩) hs
theorem zEp:kN X zEo:=by
 intro value slice pins s σ H x y v u Q I rx ry h hs
 obtain ⟨z,i,c,rfl,rfl,hz,he,q⟩:=h
 obtain ⟨t,rfl⟩:=rx
 obtain ⟨t',rfl⟩:=ry
 obtain ⟨j,h1,h2,h3,h4,h5⟩:=zCF he
 have hl:z.cps.toList.length=z.length:=by simp [Str.length]
 rw [hl] at h1 h4 h5
 have hn:=zAj
 exact tail_any (typeIs_str s z t) slot_str_getitem.lookup (getItem_str (c:=c) (by
  have e1:decide (i < -(2 ^ 63:Int))=false:=decide_eq_false (by omega)
  have e2:decide (i >= 2 ^ 63)=false:=decide_eq_false (by omega)
  rw [e1,e2,Bool.or_false]) (by rw [h1]; simpa using h2) ⟨.str ⟨#[c]⟩,H,I.tok _,⟨_,rfl⟩,q⟩) hs
def rIx (K:PySem.W.Frag):R2:=fun x y H Q=>zEm K x y H Q\/zEn K x y H Q\/zEo x y H Q
theorem zIq:kN X (rIx X.K):=jT.or (vA.or zEp)
theorem Inv.lst {pins:List (Addr × Obj)}{σ:St}{H:Hp}{s:Shared}{p:Addr}{xs:List V} (I:Inv X pins σ H s) (h:H p=some (.lst xs)) :
  ∃ (its:List Value) (n:Nat),zL xs its/\s.heap.get? p=some { cls:=.type "list",data:=.seq its.toArray n }/\xs.length<=sizeLine:=by
 obtain ⟨z,its,n,r,e⟩:=I.hok p _ h
 exact ⟨its,n,r,e,z⟩
theorem zIr (lo hi:Option Int) (n:Nat):(sliceBounds lo hi none n).1=((HT.sIx n 0 lo:Nat):Int)/\(sliceBounds lo hi none n).2.1=((HT.sIx n n hi:Nat):Int)/\(sliceBounds lo hi none n).2.2=1:=by
 refine ⟨?_,?_,rfl⟩
 ·cases lo with
  | none=>simp [sliceBounds,HT.sIx]
  | some i =>
   simp only [sliceBounds,HT.sIx,Option.getD_none,show (1:Int) > 0 by decide,if_true]
   by_cases h:i < 0
   ·simp only [h,if_true] <;> omega
   ·simp only [h,if_false] <;> omega
 ·cases hi with
  | none=>simp [sliceBounds,HT.sIx]
  | some i =>
   simp only [sliceBounds,HT.sIx,Option.getD_none,show (1:Int) > 0 by decide,if_true]
   by_cases h:i < 0
   ·simp only [h,if_true] <;> omega
   ·simp only [h,if_false] <;> omega
theorem zIs (its:List Value) (lo hi:Option Int):slicePick its.toArray lo hi none=((its.drop (HT.sIx its.length 0 lo)).take (HT.sIx its.length its.length hi - HT.sIx its.length 0 lo)).toArray:=by
 obtain ⟨h1,h2,h3⟩:=zIr lo hi its.toArray.size
 unfold slicePick
 rw [h1,h2,h3]
 simp only [sliceRange_one,pick_run,List.size_toArray] <;> rfl
def zIt (K:PySem.W.Frag):V->Option Int->Option Int->Hp->VK->Prop:=fun x lo hi H Q=>∃ a xs,x=.ref a/\yJ K H a xs/\∀ p,H p=none->Q (.ref p) (upd H p (.lst (uB xs lo hi)))
theorem zIu:SlR X (zIt X.K):=by
 intro pins s σ H x v vl vu lo hi sl Q I rx hs pl pu h
 obtain ⟨a,xs,rfl,hx,q⟩:=h
 cases rx
 obtain ⟨its,r,ht,hz⟩:=I.list hx
 have hlen:=r.length
 refine ⟨"list",_,slot_list_getitem.lookup,ht.isList.typeIs,?_⟩
 refine wpAny_getItem_list_slice ht.isList hs pl pu .none (by simp) ?_ (by rw [List.size_toArray] <;> omega)
 rw [zIs,<- hlen]
 refine ⟨.ref s.heap.objs.size,_,I.laid (t':=s.toks) (o:=.lst (uB xs lo hi)) (fun b ob q=>Heap.get?_push_of_some _ q) (Nat.le_refl _) ?_,rfl,q _ (I.hok.fresh (Nat.le_refl _))⟩
 exact ⟨Nat.le_trans (zEk xs lo hi) hz,_,0,(r.drop (HT.sIx xs.length 0 lo)).take (HT.sIx xs.length xs.length hi - HT.sIx xs.length 0 lo),Heap.get?_push_size _ rfl⟩
def kO:V->Bool
 | .non=>true
 | .bl _=>true
 | .int _=>true
 | .str _=>true
 | _=>false
def jU:V->V->Bool
 | .non,.non=>true
 | .bl a,.bl b=>a == b
 | .bl a,.int b=>(if a then 1 else 0) == b
 | .int a,.bl b=>a == (if b then 1 else 0)
 | .int a,.int b=>a == b
 | .str a,.str b=>a == b
 | _,_=>false
theorem zIv {A:Around}{s:Shared}{y x:V}{u v:Value} (ry:zQ y u) (rx:zQ x v) (fy:kO y=true) (fx:kO x=true):SeqAt.EqAt A s u v (jU y x):=by
 cases y with
 | non =>
  cases ry
  cases x with
  | non=>cases rx; exact SeqAt.EqAt.same _
  | bl b=>cases rx; exact SeqAt.EqAt.none_bool b
  | int b=>obtain ⟨t,rfl⟩:=rx; exact SeqAt.EqAt.none_int b t
  | str b=>obtain ⟨t,rfl⟩:=rx; exact SeqAt.EqAt.none_str b t
  | _=>exact absurd (show false=true from fx) Bool.false_ne_true
 | bl a =>
  cases ry
  cases x with
  | non=>cases rx; exact SeqAt.EqAt.bool_none a
  | bl b=>cases rx; exact SeqAt.EqAt.bool_bool a b
  | int b=>obtain ⟨t,rfl⟩:=rx; exact SeqAt.EqAt.bool_int a b t
  | str b=>obtain ⟨t,rfl⟩:=rx; exact SeqAt.EqAt.bool_str a b t
  | _=>exact absurd (show false=true from fx) Bool.false_ne_true
 | int a =>
  obtain ⟨t',rfl⟩:=ry
  cases x with
  | non=>cases rx; exact SeqAt.EqAt.int_none a t'
  | bl b=>cases rx; exact SeqAt.EqAt.int_bool a t' b
  | int b=>obtain ⟨t,rfl⟩:=rx; exact SeqAt.EqAt.int_int a t' b t
  | str b=>obtain ⟨t,rfl⟩:=rx; exact SeqAt.EqAt.int_str a t' b t
  | _=>exact absurd (show false=true from fx) Bool.false_ne_true
 | str a =>
  obtain ⟨t',rfl⟩:=ry
  cases x with
  | non=>cases rx; exact SeqAt.EqAt.str_none a t'
  | bl b=>cases rx; exact SeqAt.EqAt.str_bool a t' b
  | int b=>obtain ⟨t,rfl⟩:=rx; exact SeqAt.EqAt.str_int a t' b t
  | str b=>obtain ⟨t,rfl⟩:=rx; exact SeqAt.EqAt.str_str a t' b t
  | _=>exact absurd (show false=true from fx) Bool.false_ne_true
 | _=>exact absurd (show false=true from fy) Bool.false_ne_true
def uJ (x:V) (u:Value):Bool:=match u with
 | .none=>jU .non x
 | .bool b=>jU (.bl b) x
 | .int i _=>jU (.int i) x
 | .str z _=>jU (.str z) x
 | _=>false
theorem zEq {x y:V}{u:Value} (r:zQ y u) (f:kO y=true):uJ x u=jU y x:=by
 cases y with
 | non=>cases r; rfl
 | bl b=>cases r; rfl
 | int i=>obtain ⟨t,rfl⟩:=r; rfl
 | str z=>obtain ⟨t,rfl⟩:=r; rfl
 | _=>exact absurd (show false=true from f) Bool.false_ne_true
theorem zAl {x:V}:∀ {xs:List V}{us:List Value},zL xs us->xs.all kO=true->us.any (uJ x)=xs.any fun y=>jU y x
 | _,_,.nil,_=>rfl
 | y::xs,u::us,.cons r t,f=>by
  rw [List.all_cons,Bool.and_eq_true] at f
  rw [List.any_cons,List.any_cons,zEq r f.1,zAl t f.2]
theorem zAm {A:Around}{s:Shared}{x:V}{v:Value} (rx:zQ x v) (fx:kO x=true):∀ {xs:List V}{us:List Value},zL xs us->xs.all kO=true->∀ u∈us,SeqAt.EqAt A s u v (uJ x u)
 | _,_,.nil,_=>fun u hu=>by cases hu
 | y::xs,u::us,.cons r t,f=>fun u' hu=>by
  rw [List.all_cons,Bool.and_eq_true] at f
  rcases List.mem_cons.mp hu with rfl | hu
  ·rw [zEq r f.1]; exact zIv r rx f.1 fx
  ·exact zAm rx fx t f.2 u' hu
def inV (x:V) (xs:List V):Bool:=xs.any fun y=>jU y x
def rIn (K:PySem.W.Frag) (neg:Bool):R2:=fun x y H Q=>∃ p xs,y=.ref p/\(yJ K H p xs\/yG K H p xs)/\kO x=true/\xs.all kO=true/\Q (.bl (if neg then !inV x xs else inV x xs)) H
theorem zEr:yO X (compareOp .In) (rIn X.K false):=by
 intro pins s σ H x y v u Q I rx ry h
 obtain ⟨p,xs,rfl,hq,fx,fs,q⟩:=h
 cases ry
 rcases hq with hq | hq
 ·obtain ⟨its,r,pl,hz⟩:=I.list hq
  refine SeqAt.in_listAt (uJ x) pl.isList (fun w hw=>zAm rx fx r fs w (by simpa using hw)) ⟨.bl _,H,I,rfl,?_⟩
  rw [show its.toArray.any (uJ x)=its.any (uJ x) by simp,zAl r fs]
  exact q
 ·obtain ⟨its,r,pl,hz⟩:=I.tuple hq
  refine SeqAt.in_tupleAt (uJ x) pl (fun w hw=>zAm rx fx r fs w (by simpa using hw)) ⟨.bl _,H,I,rfl,?_⟩
  rw [show its.toArray.any (uJ x)=its.any (uJ x) by simp,zAl r fs]
  exact q
theorem zEs:yO X (compareOp .NotIn) (rIn X.K true):=by
 intro pins s σ H x y v u Q I rx ry h
 obtain ⟨p,xs,rfl,hq,fx,fs,q⟩:=h
 cases ry
 rcases hq with hq | hq
 ·obtain ⟨its,r,pl,hz⟩:=I.list hq
  refine SeqAt.notIn_listAt (uJ x) pl.isList (fun w hw=>zAm rx fx r fs w (by simpa using hw)) ⟨.bl _,H,I,rfl,?_⟩
  rw [show its.toArray.any (uJ x)=its.any (uJ x) by simp,zAl r fs]
  exact q
 ·obtain ⟨its,r,pl,hz⟩:=I.tuple hq
  refine SeqAt.notIn_tupleAt (uJ x) pl (fun w hw=>zAm rx fx r fs w (by simpa using hw)) ⟨.bl _,H,I,rfl,?_⟩
  rw [show its.toArray.any (uJ x)=its.any (uJ x) by simp,zAl r fs]
  exact q
theorem kP:uO X (.builtin "len") (fun xs H Q=>∃ p ys,xs=[.ref p]/\(yJ X.K H p ys\/yG X.K H p ys)/\Q (.int ys.length) H):=by
 intro pins s σ H xs us Q I r h
 obtain ⟨p,ys,rfl,hq,q⟩:=h
 obtain ⟨u,rfl,rx⟩:=qJ r
 cases rx
 have hn:=zAj
 rcases hq with hq | hq
 ·obtain ⟨its,r',pl,hz⟩:=I.list hq
  have hlen:=r'.length
  exact Calls.call_len_list pl.isList (by simp only [List.size_toArray] <;> omega) ⟨.int ys.length,H,I.tok _,⟨s.toks+1,by rw [List.size_toArray,hlen]⟩,q⟩
 ·obtain ⟨its,r',pl,hz⟩:=I.tuple hq
  have hlen:=r'.length
  exact len_tuple pl (by simp only [List.size_toArray] <;> omega) ⟨.int ys.length,H,I.tok _,⟨s.toks+1,by rw [List.size_toArray,hlen]⟩,q⟩
theorem qZ:uO X (.builtin "len") (fun xs H Q=>∃ z,xs=[.str z]/\z.length<=sizeLine/\Q (.int z.length) H):=by
 intro pins s σ H xs us Q I r h
 obtain ⟨z,rfl,hz,q⟩:=h
 obtain ⟨u,rfl,t,rfl⟩:=qJ r
 have hn:=zAj
 exact len_str (by omega) ⟨.int z.length,H,I.tok _,⟨_,rfl⟩,q⟩
theorem zEt:uO X (.type "list") (fun xs H Q=>∃ p ys,xs=[.ref p]/\(yJ X.K H p ys\/yG X.K H p ys)/\∀ l,H l=none->Q (.ref l) (upd H l (.lst ys))):=by
 intro pins s σ H xs us Q I r h
 obtain ⟨p,ys,rfl,hq,q⟩:=h
 obtain ⟨u,rfl,rx⟩:=qJ r
 cases rx
 have fin:∀ (its:List Value),zL ys its->ys.length<=sizeLine->∀ (h':Heap) (c':Nat),(∀ b o',s.heap.get? b=some o'->h'.get? b=some o') ->
   h'.get? s.heap.objs.size=some { cls:=.type "list",dict:=none,data:=.seq its.toArray c',slots:=#[] }->EP X pins σ Q (.ref s.heap.objs.size) { s with heap:=h' }:=fun its r' hz h' c' kp e =>
  ⟨.ref s.heap.objs.size,_,I.laid (t':=s.toks) kp (Nat.le_refl _) (show yM X.prog X.w _ h' _ (.lst ys) from ⟨hz,its,c',r',e⟩),rfl,q _ (I.hok.fresh (Nat.le_refl _))⟩
 rcases hq with hq | hq
 ·obtain ⟨its,r',pl,hz⟩:=I.list hq
  have hlen:=r'.length
  obtain ⟨o,ho,hc,n,hd⟩:=pl.isList
  exact call_list_seq p (.inl rfl) ho hc hd (fun h' c' kp e=>fin its r' hz h' c' kp e) (by simp only [List.size_toArray] <;> omega)
 ·obtain ⟨its,r',pl,hz⟩:=I.tuple hq
  have hlen:=r'.length
  obtain ⟨o,ho,hc,n,hd⟩:=pl
  exact call_list_seq p (.inr rfl) ho hc hd (fun h' c' kp e=>fin its r' hz h' c' kp e) (by simp only [List.size_toArray] <;> omega)
theorem zIw:uO X (.type "tuple") (fun xs H Q=>∃ p ys,xs=[.ref p]/\((yJ X.K H p ys/\∀ l,H l=none->Q (.ref l) (upd H l (.tup ys)))\/(yG X.K H p ys/\Q (.ref p) H))):=by
 intro pins s σ H xs us Q I r h
 obtain ⟨p,ys,rfl,h⟩:=h
 obtain ⟨u,rfl,rx⟩:=qJ r
 cases rx
 rcases h with ⟨hq,q⟩ | ⟨hq,q⟩
 ·obtain ⟨its,r',pl,hz⟩:=I.list hq
  have hlen:=r'.length
  refine call_tuple_list pl.isList (fun h' kp=>?_) (by simp only [List.size_toArray] <;> omega)
  have I1:Inv X pins σ H { s with heap:=h' }:=I.kept (t':=s.toks) kp
  have I2:Inv X pins σ (upd H h'.objs.size (.tup ys)) { s with heap:=h'.push { cls:=.type "tuple",data:=.seq its.toArray } } :=
   I1.laid (t':=s.toks) (fun b o e=>Heap.get?_push_of_some _ e) (Nat.le_refl _) (show yM X.prog X.w _ _ _ (.tup ys) from ⟨hz,its,r',IsTup.new _ _⟩)
  exact ⟨.ref h'.objs.size,_,I2,rfl,q _ (I1.hok.fresh (Nat.le_refl _))⟩
 ·obtain ⟨its,r',pl,hz⟩:=I.tuple hq
  exact call_tuple_same pl ⟨.ref p,H,I,rfl,q⟩
def tyV (K:PySem.W.Frag) (T:String) (x:V) (H:Hp):Prop:=match x with
 | .str _=>T = "str"
 | .int _=>T = "int"
 | .ref p=>(T = "list" /\ ∃ xs,yJ K H p xs)\/(T = "tuple" /\ ∃ o,K.lookup p=some o/\o.cls=.type "tuple" /\ o.dict=none) \/
   (T = "dict" /\ ((∃ kvs,H p=some (.dK kvs))\/∃ kvs,H p=some (.dT kvs)))\/(T = "set" /\ ∃ S n,H p=some (.set S n))
 | _=>False
theorem zEu {pins:List (Addr × Obj)}{σ:St}{H:Hp}{s:Shared}{T:String}{x:V}{v:Value} (I:Inv X pins σ H s) (r:zQ x v) (ty:tyV X.K T x H) :
  s.TypeIs v T/\∀ a,v=.ref a->∃ ob,s.heap.get? a=some ob/\ob.dict=none:=by
 cases x with
 | str z =>
  obtain ⟨t,rfl⟩:=r
  cases (show T = "str" from ty)
  exact ⟨typeIs_str s z t,fun _ e=>nomatch e⟩
 | int i =>
  obtain ⟨t,rfl⟩:=r
  cases (show T = "int" from ty)
  exact ⟨typeIs_int s i t,fun _ e=>nomatch e⟩
 | ref p =>
  cases r
  rcases ty with ⟨rfl,xs,hq⟩ | ⟨rfl,o,hk,hc,hd⟩ | ⟨rfl,hk⟩ | ⟨rfl,S,n,hk⟩
  ·obtain ⟨its,_,pl,_⟩:=I.list hq
   refine ⟨pl.isList.typeIs,fun a e=>?_⟩
   cases e
   obtain ⟨o,n,e,c,hd,_⟩:=pl
   exact ⟨o,e,hd⟩
  ·refine ⟨⟨o,I.kIn p o hk,hc⟩,fun a e=>?_⟩
   cases e
   exact ⟨o,I.kIn _ o hk,hd⟩
  ·have z:∃ o,s.heap.get? p=some o/\o.ExactDict:=by
    rcases hk with ⟨kvs,hk⟩ | ⟨kvs,hk⟩
    ·obtain ⟨_,_,_,_,o,_,_,e,ex,_⟩:=I.hok p _ hk
     exact ⟨o,e,ex⟩
    ·obtain ⟨_,_,_,_,o,_,_,e,ex,_⟩:=I.hok p _ hk
     exact ⟨o,e,ex⟩
   obtain ⟨o,e,ex⟩:=z
   refine ⟨⟨o,e,ex.1⟩,fun a e2=>?_⟩
   cases e2
   exact ⟨o,e,ex.2.1⟩
  ·obtain ⟨o,_,_,_,e,ex,_⟩:=I.hok p _ hk
   refine ⟨⟨o,e,ex.1⟩,fun a e2=>?_⟩
   cases e2
   exact ⟨o,e,ex.2.1⟩
 | _=>exact False.elim ty
def zEv (K:PySem.W.Frag) (T:String) (r:V->List V->Hp->VK->Prop) (to:TE):TE:=fun σ H Q=>to σ H fun x H1=>tyV K T x H1/\r x [] H1 Q
def tBM (K:PySem.W.Frag) (T:String) (r:V->List V->Hp->VK->Prop) (to:TE) (t:TA):TE:=fun σ H Q=>to σ H fun x H1=>tyV K T x H1/\t σ H1 fun xs H2=>r x xs H2 Q
variable {o e:Expr}{es:List Expr}{to:TE}{t:TA}{name:Str}{apos cpos:Pos}{T id:String}{r:V->List V->Hp->VK->Prop}
theorem zIx (pa:PlainAttrs T) (slot:Slot T name id) (hty:typeOf (.builtin id)=pure (.type "method_descriptor")) (hm:MtR X id r) (ho:PE X o to)
  (hbase:attributeBase o name X.env (eval o X.env)=eval o X.env:=by rfl) (hline:(apos.endLine == cpos.line)=true:=by rfl):PE X (.Call (.Attribute o name apos) [] [] cpos) (zEv X.K T r to):=by
 intro pins s σ H Q I h
 refine wpAny_Call_method0_late hbase hline (zK (ho pins s σ H _ I h) fun v s1 ⟨x,H1,I1,r1,ty,q1⟩=>?_)
 obtain ⟨h1,h2⟩:=zEu I1 r1 ty
 exact ⟨T,id,pa,slot,hty,h1,h2,Calls.callWith_builtin rfl (PySem.evalArgs_none (hm pins s1 σ H1 x [] v [] Q I1 r1 .nil q1))⟩
theorem jM (pa:PlainAttrs T) (slot:Slot T name id) (hty:typeOf (.builtin id)=pure (.type "method_descriptor")) (hm:MtR X id r) (ho:PE X o to) (ha:PA X (e::es) t)
  (hbase:attributeBase o name X.env (eval o X.env)=eval o X.env:=by rfl)
  (hfew:((backTo cpos (starEach (e::es) X.env)).all (fun x=>!x.1) && (backToKw cpos (keywordEach [] X.env)).all (fun x=>x.1.isSome)
   && decide ((e::es).length+([]:List Keyword).length+(if ([]:List Keyword).isEmpty then 0 else 1) < 30))=true:=by rfl)
  (hline:(apos.endLine == cpos.line)=true:=by rfl) (hs:starEach (e::es) X.env=(false,eval e X.env)::starEach es X.env:=by rfl) (hplain:(backTo cpos (starEach es X.env)).any (·.1)=false:=by rfl) :
  PE X (.Call (.Attribute o name apos) (e::es) [] cpos) (tBM X.K T r to t):=by
 intro pins s σ H Q I h
 refine wpAny_Call_method_late hbase hfew hline rfl (zK (ho pins s σ H _ I h) fun v s1 ⟨x,H1,I1,r1,ty,q1⟩=>?_)
 obtain ⟨h1,h2⟩:=zEu I1 r1 ty
 refine ⟨T,id,pa,slot,hty,h1,h2,?_⟩
 have hA:=ha cpos pins s1 σ H1 _ I1 q1
 rw [hs] at hA ⊢
 refine Calls.callWith_builtin (by show (false || (backTo cpos (starEach es X.env)).any (·.1))=false; rw [hplain] <;> rfl) (Calls.evalArgs_plain ?_)
 exact zK hA fun us s2 ⟨vs,H2,I2,r2,q2⟩=>hm pins s2 σ H2 x vs v us Q I2 r1 r2 q2
end
end L2
namespace L2
open PySem PySem.Spec PyProof.Rows
def gU (X:Cx) (id:String) (r:V->List V->Hp->VK->Prop):Prop :=
 ∀ (pins:List (Addr × Obj)) (s:Shared) (σ:St) (H:Hp) (x:V) (xs:List V) (v:Value) (us:List Value) (Q:VK),Inv X pins σ H s->zQ x v->zL xs us->r x xs H Q ->
  wpAny (model X.prog X.w) X.A (call (.builtin id) (v::us)) (EP X pins σ Q) X.xe s
theorem zL.one:∀ {x:V}{us:List Value},zL [x] us->∃ u,us=[u]/\zQ x u
 | _,_,.cons r .nil=>⟨_,rfl,r⟩
theorem zL.zero:∀ {us:List Value},zL [] us->us=[]
 | _,.nil=>rfl
theorem zL.dropLast {xs:List V}{us:List Value} (h:zL xs us):zL xs.dropLast us.dropLast:=by
 induction h with
 | nil=>exact .nil
 | cons r t ih =>
  cases t with
  | nil=>exact .nil
  | cons q t'=>exact .cons r ih
theorem zL.eraseIdx:∀ {xs:List V}{us:List Value} (i:Nat),zL xs us->zL (xs.eraseIdx i) (us.eraseIdx i)
 | _,_,_,.nil=>.nil
 | _,_,0,.cons _ t=>t
 | _,_,i+1,.cons r t=>.cons r (zL.eraseIdx i t)
theorem zL.reverse {xs:List V}{us:List Value} (h:zL xs us):zL xs.reverse us.reverse:=by
 induction h with
 | nil=>exact .nil
 | cons r t ih=>rw [List.reverse_cons,List.reverse_cons]; exact zL.append ih (.cons r .nil)
theorem zL.rep {xs:List V}{us:List Value} (h:zL xs us):∀ k:Nat,zL (List.replicate k xs).flatten (List.replicate k us).flatten
 | 0=>.nil
 | k+1=>by
  rw [List.replicate_succ,List.replicate_succ,List.flatten_cons,List.flatten_cons]
  exact zL.append h (zL.rep h k)
theorem zEw (its:List Value):∀ (k:Nat) (acc:List Value),
  List.foldl (fun x1 x2=>x1++x2) acc.toArray (List.replicate k its.toArray)=(acc++(List.replicate k its).flatten).toArray
 | 0,acc=>by simp
 | k+1,acc=>by
  have e:acc.toArray++its.toArray=(acc++its).toArray:=by simp
  have e2:(acc++its)++(List.replicate k its).flatten=acc++(List.replicate (k+1) its).flatten:=by
   rw [List.replicate_succ,List.flatten_cons,List.append_assoc]
  rw [<- e2,<- zEw its k (acc++its),<- e,List.replicate_succ,List.foldl_cons]
section
variable {X:Cx}{pins:List (Addr × Obj)}{σ:St}{H:Hp}{s:Shared}{l b:Addr}{xs ys zs:List V}
theorem Inv.lset {its its':List Value}{n:Nat}{f:Array Value->Array Value}{t':Nat} (I:Inv X pins σ H s) (hH:H l=some (.lst xs))
  (e:s.heap.get? l=some { cls:=.type "list",data:=.seq its.toArray n }) (hf:f its.toArray=its'.toArray) (hv:zL ys its') (hz:ys.length<=sizeLine) :
  Inv X pins σ (upd H l (.lst ys)) { s with heap:=s.heap.update l (Obj.mapSeq f),toks:=t' }:=by
 have q:=PySem.IsL.update e f
 rw [hf] at q
 refine I.write (x:=l) (e:=l) (by rw [hH]; exact trivial) (.inl rfl) (fun b' u hb hu=>(Heap.get?_update_other s.heap (Obj.mapSeq f) (Ne.symm hb)).trans hu) ⟨_,q⟩ ?_
 exact ⟨hz,its',_,hv,q⟩
theorem Inv.lnew {its:List Value}{t':Nat} (I:Inv X pins σ H s) (hv:zL ys its) (hz:ys.length<=sizeLine) :
  Inv X pins σ (upd H s.heap.objs.size (.lst ys)) { s with heap:=s.heap.push { cls:=.type "list",data:=.seq its.toArray },toks:=t' } :=
 I.laid (fun _ _ q=>Heap.get?_push_of_some _ q) (Nat.le_refl _) ⟨hz,its,0,hv,Heap.get?_push_size _ rfl⟩
theorem Inv.fresh (I:Inv X pins σ H s):H s.heap.objs.size=none:=I.hok.fresh (Nat.le_refl _)
theorem Inv.lstM (I:Inv X pins σ H s) (hH:H l=some (.lst xs)):xs.length<=sizeLine/\∃ (its:List Value) (n:Nat),zL xs its/\xs.length=its.length/\s.heap.get? l=some { cls:=.type "list",data:=.seq its.toArray n }:=by
 obtain ⟨z,its,n,r,e⟩:=I.hok l _ hH
 exact ⟨z,its,n,r,r.length,e⟩
theorem zEx {n:Nat} (h:n<=sizeLine):Builtin.List.listTooLong n=false:=by
 unfold Builtin.List.listTooLong
 exact decide_eq_false (by omega)
end
section
variable {X:Cx}
def zIy:V->List V->Hp->VK->Prop:=fun x vs H Q=>∃ l xs y,x=.ref l/\vs=[y]/\H l=some (.lst xs)/\xs.length < sizeLine/\Q .non (upd H l (.lst (xs++[y])))
theorem zCG:gU X "list.append" zIy:=by
 intro pins s σ H x vs v us Q I rx rv h
 obtain ⟨l,xs,y,rfl,rfl,hH,hz,q⟩:=h
 cases rx
 obtain ⟨u,rfl,ru⟩:=rv.one
 obtain ⟨z,its,n,r,hl,e⟩:=I.lstM hH
 refine call_meets F.slot_list_append ⟨_,e,rfl⟩ F.entry_list_append (F.args_list_append_2 _ _) (PySem.list_append l its.toArray n u (by rw [List.size_toArray]; omega)) ⟨e,?_⟩
 refine ⟨.non,_,I.lset (its':=its++[u]) hH e (by simp) (r.append (.cons ru .nil)) ?_,rfl,q⟩
 rw [List.length_append,List.length_singleton]
 omega
def zIz:V->List V->Hp->VK->Prop:=fun x vs H Q=>∃ l b xs zs,x=.ref l/\vs=[.ref b]/\H l=some (.lst xs)/\H b=some (.lst zs)/\xs.length+zs.length<=sizeLine/\Q .non (upd H l (.lst (xs++zs)))
theorem zJA:gU X "list.extend" zIz:=by
 intro pins s σ H x vs v us Q I rx rv h
 obtain ⟨l,b,xs,zs,rfl,rfl,hH,hB,hz,q⟩:=h
 cases rx
 obtain ⟨u,rfl,ru⟩:=rv.one
 cases ru
 obtain ⟨z,its,n,r,hl,e⟩:=I.lstM hH
 obtain ⟨z2,its2,n2,r2,hl2,e2⟩:=I.lstM hB
 have hsz:its.toArray.size+its2.toArray.size<=sizeLine:=by rw [List.size_toArray,List.size_toArray]; omega
 have hlong:¬ (!its.toArray.isEmpty && Builtin.List.listTooLong (its.toArray.size+its2.toArray.size))=true:=by
  rw [zEx hsz,Bool.and_false]
  exact Bool.false_ne_true
 refine call_meets F.slot_list_extend ⟨_,e,rfl⟩ F.entry_list_extend (F.args_list_extend_2 _ _)
  (AutoSeq1.list_extend_list_list_0 l its.toArray n b its2.toArray n2 hlong (by rw [List.size_toArray]; omega) (by omega)) ⟨e,e2,?_⟩
 refine ⟨.non,_,I.lset (its':=its++its2) hH e (by simp) (r.append r2) ?_,rfl,q⟩
 rw [List.length_append]
 omega
def zJB:R2:=fun x y H Q=>∃ l b xs zs,x=.ref l/\y=.ref b/\H l=some (.lst xs)/\H b=some (.lst zs)/\xs.length+zs.length<=sizeLine/\∀ p,H p=none->Q (.ref p) (upd H p (.lst (xs++zs)))
theorem zBN:yO X (binaryOp .Add) zJB:=by
 intro pins s σ H x y v u Q I rx ry h
 obtain ⟨l,b,xs,zs,rfl,rfl,hH,hB,hz,q⟩:=h
 cases rx
 cases ry
 obtain ⟨z,its,n,r,hl,e⟩:=I.lstM hH
 obtain ⟨z2,its2,n2,r2,hl2,e2⟩:=I.lstM hB
 refine PySem.P.add_list e e2 ?_ (by rw [List.size_toArray,List.size_toArray]; omega)
 have ea:its.toArray++its2.toArray=(its++its2).toArray:=by simp
 rw [ea]
 exact ⟨.ref _,_,I.lnew (t':=s.toks) (r.append r2) (by rw [List.length_append]; omega),rfl,q _ I.fresh⟩
def zJC:R2:=fun x y H Q=>∃ l k xs,x=.ref l/\y=.int k/\H l=some (.lst xs)/\-(2 ^ 63)<=k/\k < 2 ^ 63/\xs.length * k.toNat<=sizeLine /\
 ∀ p,H p=none->Q (.ref p) (upd H p (.lst (List.replicate k.toNat xs).flatten))
theorem zJD {α:Type} (xs:List α) (k:Nat):(List.replicate k xs).flatten.length=k * xs.length:=by
 induction k with
 | zero=>simp
 | succ k ih=>rw [List.replicate_succ,List.flatten_cons,List.length_append,ih,Nat.succ_mul,Nat.add_comm]
theorem jV:yO X (binaryOp .Mult) zJC:=by
 intro pins s σ H x y v u Q I rx ry h
 obtain ⟨l,k,xs,rfl,rfl,hH,h1,h2,hz,q⟩:=h
 cases rx
 obtain ⟨t,rfl⟩:=ry
 obtain ⟨z,its,n,r,hl,e⟩:=I.lstM hH
 have hlen:its.toArray.size * k.toNat<=sizeLine:=by rw [List.size_toArray,<- hl]; exact hz
 have hcap:¬ its.toArray.size * k.toNat > (2 ^ 63 - 1) / 8:=by
  have:(sizeLine:Nat)<=(2 ^ 63 - 1) / 8:=by decide
  omega
 have hfit:¬ (!Builtin.List.listFitsIndex k)=true:=by
  rw [fitsIndex_both h1 h2]
  exact Bool.false_ne_true
 have hlong:¬ Builtin.List.listTooLong (its.toArray.size * k.toNat)=true:=by
  rw [zEx hlen]
  exact Bool.false_ne_true
 have hnew:List.foldl (fun x1 x2=>x1++x2) #[] (List.replicate (if its.toArray.isEmpty=true then 0 else k.toNat) its.toArray)=(List.replicate k.toNat its).flatten.toArray:=by
  have f0:∀ m:Nat,List.foldl (fun x1 x2=>x1++x2) #[] (List.replicate m its.toArray)=(List.replicate m its).flatten.toArray:=fun m=>by
   have:=zEw its m []
   rw [List.nil_append] at this
   exact this
  rw [f0]
  cases its with
  | nil=>simp
  | cons a r'=>rw [if_neg (by simp)]
 refine wpAny_binaryOp_repeat_ref (T := "list") (U := "int") (by decide) ⟨_,e,rfl⟩ (fun s'=>typeIs_int s' k t) noFill_list_mul F.fills_int_mul F.slot_int_rmul repeat_list F.slot_int_index.lookup
  (call_meets F.slot_int_rmul (typeIs_int s k t) F.entry_int_rmul (F.args_int_rmul_2 _ _) (int___rmul___int_list k t l its.toArray n)
   ⟨e,rfl,⟨_,e,rfl⟩,call_meets F.slot_list_mul ⟨_,e,rfl⟩ F.entry_list_mul (F.args_list_mul_2 _ _) (AutoListH.list___mul___list_int_3 l its.toArray n k t hfit hcap hlong) ⟨e,?_⟩⟩)
 rw [hnew]
 exact ⟨.ref _,_,I.lnew (t':=s.toks) (r.rep k.toNat) (by rw [zJD,Nat.mul_comm]; exact hz),rfl,q _ I.fresh⟩
end
section
variable {prog:Program}{w:World}{A:Around}{E:Value->Shared->Prop}{s:Shared}
end
section
variable {X:Cx}
end
end L2
namespace L2
open PySem PySem.Spec PyProof.Rows
section
variable {κ:Type} [DecidableEq κ]
def vF (kvs:List (κ × V)) (k:κ):Option V:=(kvs.find? fun kv=>decide (kv.1=k)).map (·.2)
def uC (kvs:List (κ × V)) (k:κ) (v:V):List (κ × V) :=
 if (kvs.any fun kv=>decide (kv.1=k))=true then kvs.map (fun kv=>if kv.1=k then (kv.1,v) else kv) else kvs++[(k,v)]
theorem jA {p:κ × V}{r:List (κ × V)}{k:κ} (e:p.1=k):vF (p::r) k=some p.2:=by simp [vF,List.find?_cons,e]
theorem jB {p:κ × V}{r:List (κ × V)}{k:κ} (e:¬ p.1=k):vF (p::r) k=vF r k:=by simp [vF,List.find?_cons,e]
theorem zBO (k:κ):∀ kvs:List (κ × V),(kvs.any fun kv=>decide (kv.1=k))=(vF kvs k).isSome
 | []=>rfl
 | p::r=>by
  rw [List.any_cons]
  by_cases e:p.1=k
  ·simp only [jA e,decide_eq_true e,Bool.true_or,Option.isSome_some]
  ·rw [jB e,decide_eq_false e,Bool.false_or]; exact zBO k r
theorem zEy (k j:κ) (y:V):∀ kvs:List (κ × V),vF (kvs.map fun kv=>if kv.1=k then (kv.1,y) else kv) j=(vF kvs j).map fun x=>if j=k then y else x
 | []=>rfl
 | p::r=>by
  have ih:=zEy k j y r
  rw [List.map_cons]
  by_cases h:p.1=k
  ·rw [if_pos h]
   by_cases e:p.1=j
   ·rw [jA (p:=(p.1,y)) e,jA e,Option.map_some,if_pos (e.symm.trans h)]
   ·rw [jB (p:=(p.1,y)) e,jB e,ih]
  ·rw [if_neg h]
   by_cases e:p.1=j
   ·rw [jA (p:=p) e,jA e,Option.map_some,if_neg (fun z=>h (e.trans z))]
   ·rw [jB (p:=p) e,jB e,ih]
theorem zEz (k j:κ) (y:V):∀ kvs:List (κ × V),vF kvs k=none->vF (kvs++[(k,y)]) j=if j=k then some y else vF kvs j
 | [],_=>by
  by_cases e:k=j
  ·rw [if_pos e.symm]; exact jA (p:=(k,y)) e
  ·rw [if_neg (fun z=>e z.symm)]; exact jB (p:=(k,y)) e
 | p::r,hn=>by
  rw [List.cons_append]
  have hk:¬ p.1=k:=fun z=>by rw [jA z] at hn; cases hn
  rw [jB hk] at hn
  have ih:=zEz k j y r hn
  by_cases e:p.1=j
  ·rw [jA e,jA e,if_neg (fun z=>hk (e.trans z))]
  ·rw [jB e,jB e,ih]
theorem zJE (kvs:List (κ × V)) (k j:κ) (y:V):vF (uC kvs k y) j=if j=k then some y else vF kvs j:=by
 unfold uC
 by_cases a:(kvs.any fun kv=>decide (kv.1=k))=true
 ·rw [if_pos a,zEy]
  rw [zBO] at a
  by_cases e:j=k
  ·obtain ⟨x,hx⟩:=Option.isSome_iff_exists.mp a
   rw [if_pos e,e,hx,Option.map_some,if_pos rfl]
  ·rw [if_neg e]
   cases vF kvs j with
   | none=>rfl
   | some x=>rw [Option.map_some,if_neg e]
 ·rw [if_neg a]
  refine zEz k j y kvs ?_
  rw [zBO] at a
  cases q:vF kvs k with
  | none=>rfl
  | some x=>rw [q] at a; exact (a rfl).elim
theorem zCH (kvs:List (κ × V)) (k:κ) (v:V):(uC kvs k v).length<=kvs.length+1:=by
 unfold uC
 split
 ·rw [List.length_map]; omega
 ·rw [List.length_append,List.length_cons,List.length_nil]; omega
theorem qG.isSome_eq {o:Option V}{u:Option Value} (r:qG o u):o.isSome=u.isSome:=by
 cases o with
 | none=>cases u with
  | none=>rfl
  | some _=>exact (show False from r).elim
 | some _=>cases u with
  | none=>exact (show False from r).elim
  | some _=>rfl
theorem qG.getD {o:Option V}{u:Option Value}{d:V}{d':Value} (r:qG o u) (rd:zQ d d'):zQ (o.getD d) (u.getD d'):=by
 cases o with
 | none=>cases u with
  | none=>exact rd
  | some _=>exact (show False from r).elim
 | some _=>cases u with
  | none=>exact (show False from r).elim
  | some _=>exact r
theorem KV.val {kvs:List (κ × V)}{vs:List (κ × Value)} (r:KV kvs vs) (k:κ):qG (vF kvs k) (valueAt vs k):=by
 unfold KV at r
 induction r with
 | nil=>exact True.intro
 | @cons p q ps qs h t ih =>
  obtain ⟨h1,h2⟩:=h
  by_cases e:p.1=k
  ·have e':q.1=k:=h1.symm.trans e
   have b:valueAt (q::qs) k=some q.2:=by simp [valueAt,List.find?_cons,e']
   rw [jA e,b]; exact h2
  ·have e':¬ q.1=k:=fun z=>e (h1.trans z)
   have b:valueAt (q::qs) k=valueAt qs k:=by simp [valueAt,List.find?_cons,e']
   rw [jB e,b]; exact ih
theorem KV.any {kvs:List (κ × V)}{vs:List (κ × Value)} (r:KV kvs vs) (k:κ):(kvs.any fun kv=>decide (kv.1=k))=vs.any fun kv=>decide (kv.1=k):=by
 unfold KV at r
 induction r with
 | nil=>rfl
 | cons h t ih=>rw [List.any_cons,List.any_cons,ih,h.1]
theorem KV.repl {kvs:List (κ × V)}{vs:List (κ × Value)} (r:KV kvs vs) (k:κ) {y:V}{u:Value} (ry:zQ y u) :
  KV (kvs.map fun kv=>if kv.1=k then (kv.1,y) else kv) (vs.map fun kv=>if kv.1=k then (kv.1,u) else kv):=by
 unfold KV at r ⊢
 induction r with
 | nil=>exact .nil
 | @cons p q ps qs h t ih =>
  rw [List.map_cons,List.map_cons]
  refine .cons ?_ ih
  obtain ⟨h1,h2⟩:=h
  by_cases e:p.1=k
  ·rw [if_pos e,if_pos (h1.symm.trans e)]; exact ⟨h1,ry⟩
  ·rw [if_neg e,if_neg (fun z=>e (h1.trans z))]; exact ⟨h1,h2⟩
theorem KV.put {kvs:List (κ × V)}{vs:List (κ × Value)} (r:KV kvs vs) (k:κ) {y:V}{u:Value} (ry:zQ y u):KV (uC kvs k y) (stored vs k u):=by
 unfold uC stored
 rw [r.any k]
 by_cases e:(vs.any fun kv=>decide (kv.1=k))=true
 ·rw [if_pos e,if_pos e]; exact r.repl k ry
 ·rw [if_neg e,if_neg e]; exact Paired.snoc r ⟨rfl,ry⟩
theorem KV.keys {kvs:List (κ × V)}{vs:List (κ × Value)} (r:KV kvs vs):kvs.map (·.1)=vs.map (·.1):=by
 unfold KV at r
 induction r with
 | nil=>rfl
 | cons h t ih=>rw [List.map_cons,List.map_cons,ih,h.1]
theorem KV.length {kvs:List (κ × V)}{vs:List (κ × Value)} (r:KV kvs vs):kvs.length=vs.length:=Paired.length r
end
theorem zAn {P:Program}{w:World}{k:zU}{u:Value} (r:zQ (kV k) u):(uA P w).is k u=true:=by
 cases k with
 | inl i=>obtain ⟨t,e⟩:=(show ∃ t,u=Value.int i t from r); subst e; exact zHq P w i t
 | inr x=>obtain ⟨t,e⟩:=(show ∃ t,u=Value.str x t from r); subst e; exact zEH P w x t
theorem zJF {P:Program}{w:World}{k:y8}{u:Value} (r:zQ (kJ k) u):(k7 P w).is k u=true:=by
 cases k with
 | inl x=>obtain ⟨t,e⟩:=(show ∃ t,u=Value.str x t from r); subst e; show Value.isStrOf x (.str x t)=true; simp [Value.isStrOf]
 | inr b=>have e:u=Value.bool b:=r; subst e; exact beq_self_eq_true _
theorem zFA {P:Program}{w:World}:∀ {ks:List y8}{us:List Value},zL (ks.map kJ) us->ItemsAre (k7 P w) ks us
 | [],_,r=>by rw [List.map_nil] at r; cases r; exact .nil
 | k::ks,_,r=>by
  rw [List.map_cons] at r
  cases r with
  | cons h t=>exact .cons (zJF h) (zFA t)
abbrev KT (H:Hp):List (List y8 × V)->List (List y8 × Addr × Value)->Prop:=Paired fun p q=>p.1=q.1/\H q.2.1=some (.tup (p.1.map kJ))/\zQ p.2 q.2.2
theorem KT.val {H:Hp}{kvs:List (List y8 × V)}{xs:List (List y8 × Addr × Value)} (r:KT H kvs xs) (k:List y8):qG (vF kvs k) ((atKey xs k).map (·.2)):=by
 induction r with
 | nil=>exact True.intro
 | @cons p q ps qs h t ih =>
  obtain ⟨h1,_,h2⟩:=h
  by_cases e:p.1=k
  ·have e':q.1=k:=h1.symm.trans e
   have b:atKey (q::qs) k=some q.2:=by simp [atKey,List.find?_cons,e']
   rw [jA e,b]; exact h2
  ·have e':¬ q.1=k:=fun z=>e (h1.trans z)
   have b:atKey (q::qs) k=atKey qs k:=by simp [atKey,List.find?_cons,e']
   rw [jB e,b]; exact ih
theorem KT.repl {H:Hp}{kvs:List (List y8 × V)}{xs:List (List y8 × Addr × Value)} (r:KT H kvs xs) (k:List y8) {y:V}{u:Value} (ry:zQ y u) :
  KT H (kvs.map fun kv=>if kv.1=k then (kv.1,y) else kv) (xs.map (putAt k u)):=by
 induction r with
 | nil=>exact .nil
 | @cons p q ps qs h t ih =>
  rw [List.map_cons,List.map_cons]
  refine .cons ?_ ih
  obtain ⟨h1,h2,h3⟩:=h
  unfold putAt
  by_cases e:p.1=k
  ·rw [if_pos e,if_pos (h1.symm.trans e)]; exact ⟨h1,h2,ry⟩
  ·rw [if_neg e,if_neg (fun z=>e (h1.trans z))]; exact ⟨h1,h2,h3⟩
theorem KT.put {H:Hp}{kvs:List (List y8 × V)}{xs:List (List y8 × Addr × Value)} (r:KT H kvs xs) (k:List y8) {b:Addr}{y:V}{u:Value} (hb:H b=some (.tup (k.map kJ))) (ry:zQ y u) :
  KT H (uC kvs k y) (storedH xs k b u):=by
 have e:(kvs.any fun kv=>decide (kv.1=k))=(atKey xs k).isSome:=by
  rw [zBO,(r.val k).isSome_eq,Option.isSome_map]
 unfold uC storedH
 rw [e]
 by_cases q:(atKey xs k).isSome=true
 ·rw [if_pos q,if_pos q]; exact r.repl k ry
 ·rw [if_neg q,if_neg q]; exact Paired.snoc r ⟨rfl,hb,ry⟩
theorem KT.keeps {H H':Hp}{kvs:List (List y8 × V)}{xs:List (List y8 × Addr × Value)} (r:KT H kvs xs) (ht:∀ b ys,H b=some (.tup ys)->H' b=some (.tup ys)):KT H' kvs xs :=
 Paired.mapP r fun _ _ z=>⟨z.1,ht _ _ z.2.1,z.2.2⟩
section
variable {P:Program}{w:World}{H:Hp}{h:Heap}{a:Addr}
theorem zFB {u:HO} (ok:zZ P w H h) (e:Rd H a u):yM P w H h a u:=e.ok ok
theorem jW {kvs:List (zU × V)} (ok:zZ P w H h) (e:Rd H a (.dK kvs)):kvs.length<=sizeLine/\(a == sysModules)=false/\∃ vs,KV kvs vs/\h.DictOf (uA P w) a vs :=
 show yM P w H h a (.dK kvs) from zFB ok e
theorem zAN {kvs:List (zU × V)} (ok:zZ P w H h) (e:H a=some (.dK kvs)):kvs.length<=sizeLine/\(a == sysModules)=false/\∃ vs,KV kvs vs/\h.DictOf (uA P w) a vs:=jW ok (.inl e)
theorem zAo {ks:List y8} (ok:zZ P w H h) (e:H a=some (.tup (ks.map kJ))):(tupleKind (k7 P w)).is h ks a:=by
 obtain ⟨_,its,r,o,h1,h2,n,h3⟩:=(show yM P w H h a (.tup (ks.map kJ)) from ok a _ e)
 exact ⟨o,its.toArray,n,h1,h2,h3,by simpa using zFA r⟩
theorem zAO {kvs:List (List y8 × V)} (ok:zZ P w H h) (e:Rd H a (.dT kvs)):kvs.length<=sizeLine/\(a == sysModules)=false /\
  ∃ xs,KT H kvs xs/\h.DictOfH (tupleKind (k7 P w)) a xs:=by
 obtain ⟨z,y,xs,r,o,es,ep,h1,h2,h3,h4,h5⟩:=(show yM P w H h a (.dT kvs) from zFB ok e)
 refine ⟨z,y,xs,r,o,es,ep,h1,h2,h3,h4,fun x hx=>?_,h5⟩
 have all:∀ {l:List (List y8 × V)} {m:List (List y8 × Addr × Value)},KT H l m->∀ x∈m,(tupleKind (k7 P w)).is h x.1 x.2.1:=by
  intro l m q
  induction q with
  | nil=>intro x hx; exact nomatch hx
  | @cons p q ps qs hq t ih =>
   intro x hx
   rcases List.mem_cons.mp hx with e | hx
   ·subst e
    exact zAo ok (by rw [<- hq.1]; exact hq.2.1)
   ·exact ih x hx
 exact all r x hx
theorem zJG {kvs:List (List y8 × V)} (ok:zZ P w H h) (e:H a=some (.dT kvs)):kvs.length<=sizeLine/\(a == sysModules)=false /\
  ∃ xs,KT H kvs xs/\h.DictOfH (tupleKind (k7 P w)) a xs:=zAO ok (.inl e)
end
def vW (H:Hp) (a:Addr) (y:V) (r:Option V):Prop :=
 (∃ kvs k,Rd H a (.dK kvs)/\y=kV k/\r=vF kvs k)\/∃ kvs k b,Rd H a (.dT kvs)/\y=.ref b/\H b=some (.tup (k.map kJ))/\r=vF kvs k
def gW (H:Hp) (a:Addr) (y v:V) (H':Hp):Prop :=
 (∃ kvs k,H a=some (.dK kvs)/\y=kV k/\kvs.length < sizeLine/\H'=upd H a (.dK (uC kvs k v))) \/
 ∃ kvs k b,H a=some (.dT kvs)/\y=.ref b/\H b=some (.tup (k.map kJ))/\kvs.length < sizeLine/\H'=upd H a (.dT (uC kvs k v))
theorem vW.k {H:Hp}{a:Addr}{kvs:List (zU × V)}{k:zU} (e:H a=some (.dK kvs)):vW H a (kV k) (vF kvs k):=.inl ⟨kvs,k,.inl e,rfl,rfl⟩
theorem gW.k {H:Hp}{a:Addr}{kvs:List (zU × V)}{k:zU}{v:V} (e:H a=some (.dK kvs)) (hl:kvs.length < sizeLine):gW H a (kV k) v (upd H a (.dK (uC kvs k v))):=.inl ⟨kvs,k,e,rfl,hl,rfl⟩
section
variable {X:Cx}{pins:List (Addr × Obj)}{σ:St}{H:Hp}{s:Shared}{a:Addr}{y v:V}{u r:Value}{o:Option V}{A:Around}{E:Value->Shared->Prop}
theorem Inv.big (I:Inv X pins σ H s):sysModules < s.heap.objs.size:=by
 have h:mainGlobals < s.heap.objs.size:=(I.mod.glob.keeps I.bk).lt
 exact Nat.lt_trans (by decide) h
theorem zJH {Q:Value->Shared->Prop} (hu:A.units+1 < cLine) (I:Inv X pins σ H s) (g:vW H a y (some v)) (ry:zQ y u) (h:∀ w' s',Inv X pins σ H s'->zQ v w'->Q w' s') :
  wpAny (model X.prog X.w) A (getItem (.ref a) u) Q E s:=by
 rcases g with ⟨kvs,k,e,ey,l⟩ | ⟨kvs,k,b,e,ey,eb,l⟩
 ·subst ey
  obtain ⟨z,hd,vs,rel,dd⟩:=jW I.hok e
  obtain ⟨w',hw,rw'⟩:=qG.some_of (v:=v) (o:=valueAt vs k) (by rw [l]; exact rel.val k)
  exact wpAny_getItem_of (zAn ry) dd.mapOf hw (h w' _ (I.tok _) rw')
 ·subst ey
  cases (show u=Value.ref b from ry)
  obtain ⟨z,hd,xs,rel,dd⟩:=zAO I.hok e
  obtain ⟨w',hw,rw'⟩:=qG.some_of (v:=v) (o:=(atKey xs k).map (·.2)) (by rw [l]; exact rel.val k)
  obtain ⟨p,hp,hp2⟩:=Option.map_eq_some_iff.mp hw
  refine wpAny_getItem_heap (tupleKind_room_in1 hu) (zAo I.hok eb) dd hp ?_
  rw [hp2]
  exact h w' _ (I.tok _) rw'
theorem zJI {Q:Value->Shared->Prop} (hu:A.units+1 < cLine) (I:Inv X pins σ H s) (g:vW H a y o) (ry:zQ y u) (h:∀ s',Inv X pins σ H s'->Q (.bool (!o.isSome)) s') :
  wpAny (model X.prog X.w) A (compareOp .NotIn u (.ref a)) Q E s:=by
 rcases g with ⟨kvs,k,e,ey,l⟩ | ⟨kvs,k,b,e,ey,eb,l⟩
 ·subst ey
  obtain ⟨z,hd,vs,rel,dd⟩:=jW I.hok e
  refine wpAny_notIn_of (zAn ry) hd dd.mapOf ?_
  rw [<- (rel.val k).isSome_eq,<- l]
  exact h _ (I.tok _)
 ·subst ey
  cases (show u=Value.ref b from ry)
  obtain ⟨z,hd,xs,rel,dd⟩:=zAO I.hok e
  refine wpAny_notIn_heap (tupleKind_room_in1 hu) (zAo I.hok eb) hd dd ?_
  have q:=(rel.val k).isSome_eq
  rw [Option.isSome_map] at q
  rw [<- q,<- l]
  exact h _ (I.tok _)
theorem zCI {h':Heap}{t':Nat}{ob:HO} (I:Inv X pins σ H s) (mu:Mut (H a)) (hs:Heap.SameBut a s.heap h') (he:∃ q,h'.get? a=some q) (new:yM X.prog X.w (upd H a ob) h' a ob) :
  Inv X pins σ (upd H a ob) { s with heap:=h',toks:=t' } :=
 I.write (x:=a) (e:=a) mu (.inl rfl) (fun b q hb z=>(hs.2 b hb).trans z) he new
theorem zCJ {P:Program}{w:World}{H':Hp}{h':Heap}{kvs:List (zU × V)}{vs:List (zU × Value)} (z:kvs.length<=sizeLine) (hd:(a == sysModules)=false) (rel:KV kvs vs) (dd:h'.DictOf (uA P w) a vs) :
  yM P w H' h' a (.dK kvs):=⟨z,hd,vs,rel,dd⟩
theorem zJJ {H':Hp}{Q:Unit->Shared->Prop} (hu:A.units+1 < cLine) (I:Inv X pins σ H s) (g:gW H a y v H') (ry:zQ y u) (rv:zQ v r) (h:∀ s',Inv X pins σ H' s'->Q () s') :
  wpAny (model X.prog X.w) A (setItem (.ref a) u r) Q E s:=by
 rcases g with ⟨kvs,k,e,ey,l,eH⟩ | ⟨kvs,k,b,e,ey,eb,l,eH⟩
 ·subst ey eH
  obtain ⟨z,hd,vs,rel,dd⟩:=zAN I.hok e
  have hz:vs.length<=sizeLine:=by rw [<- rel.length]; exact z
  have hl:(uC kvs k v).length<=sizeLine:=by have:=zCH kvs k v; omega
  refine wpAny_setItem_pairs (hsz:=hz) (zAn ry) dd fun h' dd' hs=>h _ ?_
  have he:∃ q,h'.get? a=some q:=let ⟨q,_,_,hq,_⟩:=dd'; ⟨q,hq⟩
  exact zCI I (by rw [e]; exact True.intro) hs he (zCJ hl hd (rel.put k rv) dd')
 ·subst ey eH
  cases (show u=Value.ref b from ry)
  obtain ⟨z,hd,xs,rel,dd⟩:=zJG I.hok e
  have hz:xs.length<=sizeLine:=by rw [<- Paired.length rel]; exact z
  have hl:(uC kvs k v).length<=sizeLine:=by have:=zCH kvs k v; omega
  refine wpAny_setItem_heap (hsz:=hz) (tupleKind_room_in1 hu) (zAo I.hok eb) dd fun h' dd' hs=>h _ ?_
  obtain ⟨q,es,ep,hq,h2,h3,h4,_,h5⟩:=dd'
  refine zCI I (by rw [e]; exact True.intro) hs ⟨q,hq⟩ ⟨hl,hd,_,(rel.put k eb rv).keeps fun c ys ec=>?_,q,es,ep,hq,h2,h3,h4,h5⟩
  rw [zN (zBD ec e (fun z=>nomatch z))]
  exact ec
end
section
variable {X:Cx}{pins:List (Addr × Obj)}{σ:St}{H:Hp}{s:Shared}{a:Addr}{kvs:List (zU × V)}{k:zU}{u:Value}{A:Around}{E:Value->Shared->Prop}
end
def zFC (i:Expr):Prop:=∀ ov iv,subscripted i false ov iv=operate [ov,iv] (getItem ov iv)
theorem zJK {prog:Program}{w:World}{A:Around}{E:Value->Shared->Prop}{s:Shared}{env:Env}{value slice:Expr}{pos:Pos}{T id:String}{Q:Value->Shared->Prop}
  (hl:typeLookup (.type T) "__getitem__" = pure (some (.builtin id))) (hs:zFC slice)
  (h:wpAny (model prog w) A (eval value env) (fun o s₁=>wpAny (model prog w) A (eval slice env) (fun i s₂=>s₂.TypeIs o T/\wpAny (model prog w) A (getItem o i) Q E s₂) E s₁) E s) :
  wpAny (model prog w) A (eval (.Subscript value slice pos) env) Q E s:=by
 refine Subscript_ (wpAny_mono h (fun o s₁ h₁=>wpAny_mono h₁ (fun i s₂ h₂=>?_) fun _ _ x=>x) fun _ _ x=>x)
 obtain ⟨hT,h₂⟩:=h₂
 unfold subscriptTail
 refine wpAny_bind ?_
 rw [getitemInPython_of_ne hT.not_modules]
 refine wpAny_bind (wpAny_specialOf hT hl ?_)
 have fin:wpAny (model prog w) A (subscripted slice false o i) (fun r s₃=>wpAny (model prog w) A (letTemporaryGo value o r >>= fun _=>pure r) Q E s₃) E s₂:=by
  rw [hs o i]
  exact wpAny_operating (wpAny_mono h₂ (fun r s₃ h₃=>wpAny_bind (wpAny_letTemporaryGo (wpAny_pure h₃))) fun _ _ x=>x)
 first
  | exact wpAny_pure (wpAny_bind fin)
  | exact wpAny_bind (wpAny_pure (wpAny_bind fin))
  | exact wpAny_bind fin
theorem zJL {X:Cx}{pins:List (Addr × Obj)}{σ:St}{H:Hp}{s:Shared}{a:Addr}{y:V}{o:Option V} (I:Inv X pins σ H s) (g:vW H a y o):s.TypeIs (.ref a) "dict" := by
 rcases g with ⟨kvs,k,e,_,_⟩ | ⟨kvs,k,b,e,_,_,_⟩
 ·obtain ⟨_,_,vs,_,dd⟩:=jW I.hok e
  exact dd.typeIs
 ·obtain ⟨_,_,xs,_,dd⟩:=zAO I.hok e
  exact dd.typeIs
def zCK (td ty:TE):TE:=fun σ H Q=>td σ H fun x H1=>ty σ H1 fun y H2=>∃ a v,x=.ref a/\vW H2 a y (some v)/\Q v H2
def zJM (ty td:TE):TE:=fun σ H Q=>ty σ H fun y H1=>td σ H1 fun x H2=>∃ a o,x=.ref a/\vW H2 a y o/\Q (.bl (!o.isSome)) H2
def zCL (td ty tv:TE):TS:=fun D σ H=>tv σ H fun v H1=>td σ H1 fun x H2=>ty σ H2 fun y H3=>∃ a H4,x=.ref a/\gW H3 a y v H4/\D.nx σ H4
section
variable {X:Cx}{o i e value:Expr}{pos pos' tpos:Pos}{td ty tv:TE}
theorem gD (hu:X.A.units+1 < cLine) (ho:PE X o td) (hi:PE X i ty) (hs:zFC i):PE X (.Subscript o i pos) (zCK td ty):=by
 intro pins s σ H Q I h
 refine zJK PySem.F.slot_dict_getitem.lookup hs (zK (ho pins s σ H _ I h) fun u s1 ⟨x,H1,I1,rx,q1⟩=>zK (hi pins s1 σ H1 _ I1 q1) fun iv s2 ⟨y,H2,I2,ry,a,v,ex,g,q2⟩=>?_)
 subst ex
 obtain rfl:u=Value.ref a:=rx
 exact ⟨zJL I2 g,zJH hu I2 g ry fun w' s3 I3 rw'=>⟨v,H2,I3,rw',q2⟩⟩
theorem zFD (hu:X.A.units+1 < cLine) (hi:PE X i ty) (ho:PE X o td):PC X .NotIn i o (zJM ty td):=by
 intro pins s σ H Q I h
 refine zK (hi pins s σ H _ I h) fun iv s1 ⟨y,H1,I1,ry,q1⟩=>zK (ho pins s1 σ H1 _ I1 q1) fun u s2 ⟨x,H2,I2,rx,a,ov,ex,g,q2⟩=>?_
 subst ex
 obtain rfl:u=Value.ref a:=rx
 exact zJI hu I2 g ry fun s3 I3=>⟨.bl (!ov.isSome),H2,I3,rfl,q2⟩
theorem zCM (hu:X.A.units+1 < cLine) (ho:PE X o td) (hi:PE X i ty) (hv:PE X value tv) (hs:swapsWith value (some (.Subscript o i pos')) pos.line X.env=pure false) :
  PS X (.Assign [.Subscript o i pos'] value pos) (zCL td ty tv):=by
 intro pins s σ H D I h
 refine wpAny_Assign_Subscript (zK (hv pins s σ H _ I h) fun r s1 ⟨v,H1,I1,rv,q1⟩=>zK (ho pins s1 σ H1 _ I1 q1) fun u s2 ⟨x,H2,I2,rx,q2⟩=>zK (hi pins s2 σ H2 _ I2 q2) fun iv s3 ⟨y,H3,I3,ry,a,H4,ex,g,q3⟩=>?_) hs
 subst ex
 obtain rfl:u=Value.ref a:=rx
 exact zJJ hu I3 g ry rv fun s4 I4=>⟨σ,H4,I4,q3⟩
end
theorem zJN {P:Program}{w:World}{H:Hp} (h:Heap) (hb:sysModules < h.objs.size):yM P w H (h.push { cls:=.type "dict",data:=.dict #[] }) h.objs.size (.dK []) :=
 ⟨Nat.zero_le _,beq_eq_false_iff_ne.mpr (Ne.symm (Nat.ne_of_lt hb)),[],.nil,Heap.DictOf.new h⟩
def zJO:TE:=fun _ H Q=>∀ p,H p=none->Q (.ref p) (upd H p (.dK []))
section
variable {X:Cx}{pos:Pos}
theorem zAp:PE X (.Dict [] [] pos) zJO:=fun pins s σ H Q I h =>
 wpAny_Dict_empty ⟨.ref s.heap.objs.size,_,I.laid (a:=s.heap.objs.size) (o:=.dK []) (t':=s.toks) (fun _ _ q=>Heap.get?_push_of_some _ q) (Nat.le_refl _) (zJN s.heap I.big),rfl,h _ (I.hok.fresh (Nat.le_refl _))⟩
end
structure M2 (X:Cx) (o:Expr) (m:Str) (apos:Pos) (e f:Expr) (cpos:Pos):Prop where
 base:attributeBase o m X.env (eval o X.env)=eval o X.env
 few:((backTo cpos (starEach [e,f] X.env)).all (fun x=>!x.1) && (backToKw cpos (keywordEach [] X.env)).all (fun x=>x.1.isSome)
  && decide (([e,f]:List Expr).length+([]:List Keyword).length+(if ([]:List Keyword).isEmpty then 0 else 1) < 30))=true
 line:(apos.endLine == cpos.line)=true
 trees:backTo cpos (starEach [e,f] X.env)=[(false,eval e X.env),(false,eval f X.env)]
def IsD (H:Hp) (a:Addr):Prop:=(∃ kvs,Rd H a (.dK kvs))\/∃ kvs,Rd H a (.dT kvs)
theorem zJP {X:Cx}{pins:List (Addr × Obj)}{σ:St}{H:Hp}{s:Shared}{a:Addr} (I:Inv X pins σ H s) (d:IsD H a) :
  s.TypeIs (.ref a) "dict" /\ (∀ b,Value.ref a=.ref b->∃ ob,s.heap.get? b=some ob/\ob.dict=none)/\(a == sysModules)=false:=by
 rcases d with ⟨kvs,e⟩ | ⟨kvs,e⟩
 ·obtain ⟨_,hd,vs,_,dd⟩:=jW I.hok e
  refine ⟨dd.typeIs,fun b q=>?_,hd⟩
  cases q
  obtain ⟨ob,_,_,h1,h2,_⟩:=dd
  exact ⟨ob,h1,h2.2.1⟩
 ·obtain ⟨_,hd,xs,_,dd⟩:=zAO I.hok e
  refine ⟨dd.typeIs,fun b q=>?_,hd⟩
  cases q
  obtain ⟨ob,_,_,h1,h2,_⟩:=dd
  exact ⟨ob,h1,h2.2.1⟩
section
variable {X:Cx}{pins:List (Addr × Obj)}{σ:St}{H:Hp}{s:Shared}{a:Addr}{y d:V}{u r:Value}{o:Option V}{A:Around}{E:Value->Shared->Prop}
theorem zJQ {Q:Value->Shared->Prop} (hu:A.units+1 < cLine) (I:Inv X pins σ H s) (g:vW H a y o) (ry:zQ y u) (rd:zQ d r) (h:∀ w' s',Inv X pins σ H s'->zQ (o.getD d) w'->Q w' s') :
  wpAny (model X.prog X.w) A (call (.builtin "dict.get") [.ref a,u,r]) Q E s:=by
 rcases g with ⟨kvs,k,e,ey,l⟩ | ⟨kvs,k,b,e,ey,eb,l⟩
 ·subst ey
  obtain ⟨z,hd,vs,rel,dd⟩:=jW I.hok e
  refine call_meetsIn PySem.F.slot_dict_get dd.typeIs PySem.F.entry_dict_get (PySem.F.args_dict_get_3 _ _ _) (meets_dict_get_default (uA X.prog X.w) a (zAn ry) hd r) ⟨_,dd.mapOf,h _ _ (I.tok _) ?_⟩
  rw [l]
  exact (rel.val k).getD rd
 ·subst ey
  cases (show u=Value.ref b from ry)
  obtain ⟨z,hd,xs,rel,dd⟩:=zAO I.hok e
  refine call_meetsIn PySem.F.slot_dict_get dd.typeIs PySem.F.entry_dict_get (PySem.F.args_dict_get_3 _ _ _) (meetsH_dict_get_default (tupleKind (k7 X.prog X.w)) a b hd r) ⟨tupleKind_room_in1 hu,k,xs,zAo I.hok eb,dd,h _ _ (I.tok _) ?_⟩
  rw [l]
  exact (rel.val k).getD rd
end
def zCN (td ty tx:TE):TE:=fun σ H Q=>td σ H fun x H1=>∃ a,x=.ref a/\IsD H1 a/\ty σ H1 fun y H2=>tx σ H2 fun z H3=>∃ o,vW H3 a y o/\Q (o.getD z) H3
section
variable {X:Cx}{o e f:Expr}{apos cpos:Pos}{td ty tx:TE}
theorem zCO (hu:X.A.units+1 < cLine) (ho:PE X o td) (he:PE X e ty) (hf:PE X f tx) (m:M2 X o "get" apos e f cpos):PE X (.Call (.Attribute o "get" apos) [e,f] [] cpos) (zCN td ty tx):=by
 intro pins s σ H Q I h
 refine wpAny_Call_method m.base m.few m.line PySem.F.plainAttrs_dict PySem.F.slot_dict_get PySem.F.type_dict_get (zK (ho pins s σ H _ I h) fun u s1 ⟨x,H1,I1,rx,a,ex,d,q1⟩=>?_)
 subst ex
 obtain rfl:u=Value.ref a:=rx
 obtain ⟨t1,t2,_⟩:=zJP I1 d
 refine ⟨t1,t2,?_⟩
 rw [m.trees]
 refine Calls.callWith_builtin rfl (Calls.evalArgs_plain (Calls.spliced_cons (zK (he pins s1 σ H1 _ I1 q1) fun iv s2 ⟨y,H2,I2,ry,q2⟩ =>
  Calls.spliced_cons (zK (hf pins s2 σ H2 _ I2 q2) fun fv s3 ⟨z,H3,I3,rz,ov,g,q3⟩=>Calls.spliced_nil ?_))))
 exact zJQ hu I3 g ry rz fun w' s4 I4 rw'=>⟨_,H3,I4,rw',q3⟩
end
section
variable {X:Cx}{pins:List (Addr × Obj)}{σ:St}{H:Hp}{s:Shared}{a:Addr}{kvs:List (zU × V)}{A:Around}{E:Value->Shared->Prop}
end
section
variable {X:Cx}{pins:List (Addr × Obj)}{σ:St}{H:Hp}{s:Shared}{a:Addr}{y:V}{u:Value}{A:Around}{E:Value->Shared->Prop}
end
end L2
namespace Att
open PySem PySem.W PySem.Calls PyProof.Rows
theorem zJR {P:Params}{h:Heap}:∀ (ns:List Int) (vs:List Value),WellAll P h vs (ns.map WData.int)->IntsAre vs ns:=by
 intro ns
 induction ns with
 | nil =>
  intro vs w
  rw [List.map_nil] at w
  cases w
  exact .nil
 | cons n ns ih =>
  intro vs w
  rw [List.map_cons] at w
  cases w with
  | cons a b =>
   cases a
   exact .cons _ _ (ih _ b)
theorem zJS {l:OpenLaw}{n:Nat} (hn:l.most=some n) {P:Params}{h:Heap}{args:List WData}{vals:List Value}
  (hpre:l.row.toRowW.claim.pre args=true) (hwl:WellAll P h vals args) :
  ∃ a vs ns,vals=[Value.ref a]/\args=[WData.list (ns.map WData.int)]/\h.get? a=some { cls:=.type "list",data:=.seq vs.toArray }/\IntsAre vs ns/\ns.length<=n:=by
 have hsh:WShape.hasAll [] args [.list .int]=true:=(pre_splitW hpre).1
 have hc:l.pre.holds [] { args:=args }=true:=(pre_splitW hpre).2
 obtain ⟨d,r,rfl,h1,h2⟩:=hasAllW_cons hsh
 obtain rfl:=hasAllW_nil h2
 obtain ⟨xs,rfl,h3⟩:=hasW_list h1
 obtain ⟨ns,rfl⟩:=items_int h3
 have hlen:ns.length<=n:=by
  unfold OpenLaw.pre at hc
  have h4:(WTm.not (.lt (.lit (.int (n:Int))) (.len (.arg 0)))).holds [] { args:=[.list (ns.map .int)] }=true:=by
   have h4:=(holds_andW hc).1
   rw [hn] at h4
   exact h4
  have h5:=condW_of h4 (w_not (w_lt w_lit (w_len_list (w_arg rfl))))
  rw [List.length_map] at h5
  refine Nat.le_of_not_lt fun q=>?_
  have q':(n:Int) < ((ns.length:Nat):Int):=by omega
  first
   | (rw [decide_eq_true q'] at h5; exact absurd h5 (by decide))
   | (simp at h5; omega)
 cases hwl with
 | cons w1 w2 =>
  cases w2
  cases w1 with
  | list ho hall=>exact ⟨_,_,ns,rfl,rfl,ho,zJR ns _ hall,hlen⟩
theorem zJT (l:OpenLaw) (args:List WData):l.row.toRowW.claim.post args (.bool true) args=true :=
 postW_of (r:=l.row.toRowW) (X:=(true == true))
  (show WShape.has [] (.bool true) .bool=true by first | rfl | decide | simp [WShape.has,WShape.arms,WShape.armsAll])
  (show (WTm.eq .res (.lit (.bool true))).value [] { args:=args,res:=some (.bool true),after:=args }=some (.bool (true == true)) from w_eq_bool (w_res rfl) w_lit) rfl
theorem attach_call {l:OpenLaw}{n:Nat}{q:Program}{loose:List Str}{XP:(Str->Option Value)->Heap->Prop}{YP:World->Heap->Prop}{d:DefRec}
  (hn:l.most=some n) (hdf:d.params.defaults=[])
  (call:∀ (w:World) (s₀ s₁:Shared) (mg mb:Str->Option Value) (fa:Addr) (o:Obj) (pm cd doc:Value) (a:Addr) (vs:List Value) (ns:List Int),
   Ground q loose [] XP w s₀ mg mb s₁.heap->YP w s₁.heap ->
   s₁.heap.get? fa=some o->o.data=.func (docDef d.name d.params d.body d.scope pm cd doc)->s₁.heap.CodeRec cd d.name->mg d.name=some (.ref fa) ->
   s₁.heap.get? a=some { cls:=.type "list",data:=.seq vs.toArray }->IntsAre vs ns->ns.length<=n->s₁.gens=#[] ->
   codeAny (model l.prog w) callerA (.call (.ref fa) ⟨[.ref a],[]⟩) (fun r s'=>r=.ok (.ret (.bool true))/\OldK s₁.heap s'.heap/\s'.os=s₁.os/\AllBare s'.gens) s₁) :
  WalkO q loose XP YP l.row.toRowW d [] (fun f vs=>PySem.call f vs):=by
 intro w s₀ s₁ mg mb G Y fa o pm cd doc dV kV ho hd hcd hD hmg hg args vals as hpre hlay hrd hwl hlo
 obtain rfl:dV=.none:=Dflts.none hD hdf
 obtain rfl:kV=.none:=Dflts.noKw hD
 obtain ⟨a,vs,ns,rfl,rfl,hobj,hints,hlen⟩:=zJS hn hpre hwl
 refine enter_call (codeAny_mono (call w s₀ s₁ mg mb fa o pm cd doc a vs ns G Y ho (fd_plain hd) hcd hmg hobj hints hlen hg) fun r s' hq=>?_)
 obtain ⟨rfl,h2,h3,h4⟩:=hq
 exact ⟨.inl ⟨.bool true,.bool true,[],rfl,fun _=>rfl,.bool true,zJT l _,fun _=>⟨List.Pairwise.nil,fun _ hm=>(nomatch hm)⟩⟩,h2,h3,h4⟩
section
variable {prog:Program}{w:World}{A:Around}{E:Value->Shared->Prop}{s:Shared}{K:Frag}
end
end Att
namespace L2
open PySem PySem.Spec PyProof.Rows
theorem zFE:∀ {vs:List Value}{ns:List Int},IntsAre vs ns->zL (ns.map V.int) vs
 | _,_,.nil=>.nil
 | _,_,.cons n t h=>.cons ⟨t,rfl⟩ (zFE h)
def zCP (H:Hp):Prop:=∀ b,H b=none\/∃ o xs,H b=some (.frz o (.lst xs))
theorem zJU {P:Program}{w:World}{K:PySem.W.Frag}{mg mb:Str->Option Value}{CX:uH}{k:Nat}{fa a:Addr}{fd:FuncData}{x:Str}{sp:Sp}{s₁:Shared}{vs:List Value}{ns:List Int}
  (KX:K.In s₁.heap) (hns:s₁.heap.Ns mainGlobals mg) (hb:s₁.heap.Ns builtinsNs mb) (hbb:∀ x:Str,x ≠ "__name__" -> mb x=bootBuiltins x) (hlim:s₁.heap.NoLimit) (hg:s₁.gens=#[])
  (ha:s₁.heap.get? a=some { cls:=.type "list",data:=.seq vs.toArray }) (hi:IntsAre vs ns) (hl:ns.length<=sizeLine) (hr:Room k callerA)
  (F:∀ base:Heap,K.In base->base.Ns mainGlobals mg->FnOk P w K mg base CX k fa fd [x] sp) (hbind:∀ (s:Shared) (u:Value),BindsTo s fd ⟨[u],[]⟩ [(x,u)])
  (hsp:∀ H:Hp,zCP H->yJ K H a (ns.map V.int)->sp [.ref a] H (fun v _=>v=.bl true) fun _ _ _=>False)
  (hCX:∀ H e s',CX [] H s₁ (fun _ _ _=>False) e s'->False) :
  codeAny (model P w) callerA (.call (.ref fa) ⟨[.ref a],[]⟩) (fun r s'=>r=.ok (.ret (.bool true))/\OldK s₁.heap s'.heap/\s'.os=s₁.os/\AllBare s'.gens) s₁:=by
 have rv:=zFE hi
 have lenV:=hi.length
 have core:∀ H:Hp,zCP H->yJ K H a (ns.map V.int)->zZ P w H s₁.heap->(∀ b,H b≠none->b=a)->(H a≠none->K.lookup a=none) ->
   codeAny (model P w) callerA (.call (.ref fa) ⟨[.ref a],[]⟩) (fun r s'=>r=.ok (.ret (.bool true))/\OldK s₁.heap s'.heap/\s'.os=s₁.os/\AllBare s'.gens) s₁:=by
  intro H hO hS hok hA hK
  have base_of:∀ {b:Addr} {o:Obj},s₁.heap.get? b=some o->H b=none->(kK s₁.heap H).get? b=some o:=fun e n=>zHs e n
  have noA:∀ {b:Addr} {o:Obj} {es:Array DictEntry} {ep:Nat},s₁.heap.get? b=some o->o.data=.dict es ep->H b=none:=fun {b o es ep} e d=>by
   cases q:H b with
   | none=>rfl
   | some u =>
    have e':b=a:=hA b (by rw [q]; simp)
    subst e'
    rw [ha] at e; cases e
    have d':Data.seq vs.toArray _=Data.dict es ep:=d
    cases d'
  have nsK:∀ {b:Addr} {m:Str->Option Value},s₁.heap.Ns b m->(kK s₁.heap H).Ns b m:=fun {b m} ⟨o,es,ep,e,d,r⟩=>⟨o,es,ep,base_of e (noA e d),d,r⟩
  have hKb:K.In (kK s₁.heap H):=fun b o e=>base_of (KX b o e) (by
   cases q:H b with
   | none=>rfl
   | some u =>
    have e':b=a:=hA b (by rw [q]; simp)
    subst e'
    rw [hK (by rw [q]; simp)] at e; cases e)
  have hM:Mod K mg (kK s₁.heap H):=⟨hKb,nsK hns,⟨mb,nsK hb,hbb⟩,let ⟨mc,h1,h2⟩:=hlim; ⟨mc,nsK h1,h2⟩⟩
  have e0:Env0 P w K mg (kK s₁.heap H) callerA [] s₁ H:=⟨rfl,hM,fun b o e=>zHt e,Nat.le_of_eq (zHr _ _),trivial,fun b hb=>absurd (show b∈([]:List Addr) from hb) (by simp),hok,.of_eq hg⟩
  refine codeAny_mono ((F _ hKb (nsK hns)).run callerA [] s₁ H ⟨[.ref a],[]⟩ [.ref a] [.ref a] _ _ hr e0 (hbind s₁ (.ref a)) (.cons rfl .nil) (hsp H hO hS)) fun r s' h=>?_
  cases r with
  | error e=>exact (hCX H e s' h).elim
  | ok fl =>
   cases fl with
   | next=>exact False.elim h
   | brk=>exact False.elim h
   | cont=>exact False.elim h
   | ret u =>
    obtain ⟨v,H',os,bare,un,hok',r',q⟩:=h
    have q':v=.bl true:=q
    subst q'
    obtain rfl:u=Value.bool true:=r'
    refine ⟨rfl,OldK.of_keep fun b o e=>?_,os,bare⟩
    cases q:H b with
    | none=>exact un.keep b o e q (by intro z; exact absurd (show b∈([]:List Addr) from z) (by simp)) (by simp)
    | some u =>
     rcases hO b with z | ⟨ob,xs,z⟩
     ·rw [q] at z; cases z
     ·have z2:=un.frzs b ob _ z
      obtain ⟨e1,_⟩:=hok b _ z
      obtain ⟨e2,_⟩:=hok' b _ z2
      rw [e] at e1; cases e1
      exact e2
 cases hk:K.lookup a with
 | some o =>
  have e:=KX a o hk
  rw [ha] at e
  cases e
  refine core (fun _=>none) (fun _=>.inl rfl) (.inr ⟨_,vs.toArray,_,hk,rfl,rfl,rfl,by rw [List.size_toArray,lenV]; exact hl,by simpa using rv⟩) (fun b u z=>by have z':(none:Option HO)=some u:=z; cases z') (fun b z=>absurd rfl z) fun z=>absurd rfl z
 | none =>
  refine core (fun b=>if b=a then some (.frz { cls:=.type "list",data:=.seq vs.toArray } (.lst (ns.map V.int))) else none) (fun b=>?_) (.inl (.inr ⟨{ cls:=.type "list",data:=.seq vs.toArray },if_pos rfl⟩)) (fun b u z=>?_) (fun b z=>?_) fun _=>hk
  ·by_cases hb:b=a
   ·exact .inr ⟨_,_,if_pos hb⟩
   ·exact .inl (if_neg hb)
  ·by_cases hb:b=a
   ·have z':=(if_pos hb).symm.trans z
    cases z'
    subst hb
    exact ⟨ha,by rw [List.length_map]; exact hl,vs,_,rv,ha⟩
   ·have z':=(if_neg hb).symm.trans z
    cases z'
  ·by_cases hb:b=a
   ·exact hb
   ·exact absurd (if_neg hb) z
end L2
namespace L2
open PySem PySem.Spec PyProof.Rows
theorem zJV {l:PySem.W.OpenLaw}{n k:Nat}{q:Program}{loose:List Str}{XP:(Str->Option Value)->Heap->Prop}{YP:World->Heap->Prop}{d:DefRec}{K:Params->PySem.W.Frag}{CX:World->uH}{sp:World->Sp}{x:Str}
  (hn:l.most=some n) (hn2:n<=sizeLine) (hdf:d.params.defaults=[]) (hr:Room k callerA)
  (hY:∀ (w:World) (h:Heap),YP w h->(K w.params).In h)
  (F:∀ (w:World) (mg:Str->Option Value) (fa:Addr) (h:Heap),(K w.params).In h->h.Ns mainGlobals mg->mg d.name=some (.ref fa) ->
   ∃ fd:FuncData,(∀ (s:Shared) (u:Value),BindsTo s fd ⟨[u],[]⟩ [(x,u)]) /\
    ∀ base:Heap,(K w.params).In base->base.Ns mainGlobals mg->FnOk l.prog w (K w.params) mg base (CX w) k fa fd [x] (sp w))
  (hsp:∀ (w:World) (H:Hp) (a:Addr) (ns:List Int),ns.length<=n->zCP H->yJ (K w.params) H a (ns.map V.int)->sp w [.ref a] H (fun v _=>v=.bl true) fun _ _ _=>False)
  (hCX:∀ (w:World) (H:Hp) (s:Shared) (e:Value) (s':Shared),CX w [] H s (fun _ _ _=>False) e s'->False) :
  PySem.W.WalkO q loose XP YP l.row.toRowW d [] (fun f vs=>PySem.call f vs):=by
 refine Att.attach_call hn hdf fun w s₀ s₁ mg mb fa o pm cd doc a vs ns G Y ho hd hcd hmg hobj hints hlen hg=>?_
 have KX:=hY w _ Y
 obtain ⟨fd,hb,hF⟩:=F w mg fa _ KX G.T.g hmg
 exact zJU KX G.T.g G.T.b G.T.builtins G.T.nolimit hg hobj hints (Nat.le_trans hlen hn2) hr hF hb (fun H hO hS=>hsp w H a ns hlen hO hS) fun H e s'=>hCX w H s₁ e s'
end L2
namespace L2
open PySem PySem.Spec PyProof.Rows
abbrev yF:uH:=fun _ _ _ _ _ _=>False
abbrev E0:XK:=fun _ _ _=>False
theorem zJW {X:Cx}:zAM yF X E0:=fun _ _ _ _ _ _ _ h=>h.elim
structure Fun (K:PySem.W.Frag) (x qual:Str) (st:Stmt) (f:Addr) (fd:FuncData):Prop where
 ex:∃ (oc:Value) (od:Option Addr) (kV doc pm:Value) (an:Option Addr) (cdv ct:Value) (osl:Array (Option Value)),
  fd=PySem.W.fnOf x qual (defArgs st) (defBody st) (defScope st) .none kV doc pm an cdv ct/\K.lookup f=some ⟨oc,od,.func fd,osl⟩/\PySem.W.codeIn K cdv qual=true
 kp:PySem.W.keepIn K (.ref f)=true
section
variable {P:Program}{w:World}{K:PySem.W.Frag}{mg:Str->Option Value}{base:Heap}
theorem Fun.ok {x qual:Str}{st:Stmt}{f:Addr}{fd:FuncData}{N ps:List Str}{k:Nat}{sp:Sp} (F:Fun K x qual st f fd) (S:FnScope N ps (defScope st)) (len:∀ vs H Q E,sp vs H Q E->vs.length=ps.length)
  (hbody:∀ (cdv:Value) (A:Around) (outer:List Env) (s:Shared) (H:Hp) (vs:List V) (Q:VK) (E:XK),Room k (A.deeper (envOfC qual (defScope st) s.heap.objs.size f cdv))->sp vs H Q E ->
   ∃ t,uD (jS yF P w K mg base N qual (defScope st) f cdv A outer s H E).nox (defBody st) t/\t { nx:=fun _ H'=>Q .non H',rt:=Q } (uI N vs) H):FnOk P w K mg base yF (k+1) f fd ps sp:=by
 obtain ⟨oc,od,kV,doc,pm,an,cdv,ct,osl,rfl,lk,hcd⟩:=F.ex
 refine zEh lk hcd S len fun A outer s H vs Q E hr hsp=>?_
 obtain ⟨t,h,q⟩:=hbody cdv A outer s H vs Q E hr hsp
 exact ⟨t,h.nox,q⟩
theorem Fun.binds {x qual:Str}{st:Stmt}{f:Addr}{fd:FuncData}{ps:List Str} (F:Fun K x qual st f fd)
  (h:∀ (kV doc pm:Value) (an:Option Addr) (cdv ct:Value) (us:List Value),us.length=ps.length->bindArgs (PySem.W.fnOf x qual (defArgs st) (defBody st) (defScope st) .none kV doc pm an cdv ct) ⟨us,[]⟩=pure (ps.zip us)):jL K fd ps []:=by
 obtain ⟨oc,od,kV,doc,pm,an,cdv,ct,osl,rfl,lk,hcd⟩:=F.ex
 exact .all (h kV doc pm an cdv ct)
theorem zCQ {x qual:Str}{st:Stmt}{f:Addr}{oc:Value}{od an:Option Addr}{osl:Array (Option Value)}{kV doc pm cdv ct:Value} (l:K.lookup f=some ⟨oc,od,.func (PySem.W.fnOf x qual (defArgs st) (defBody st) (defScope st) .none kV doc pm an cdv ct),osl⟩)
  (c:PySem.W.codeIn K cdv qual=true) (k:PySem.W.keepIn K (.ref f)=true):Fun K x qual st f (PySem.W.fnOf x qual (defArgs st) (defBody st) (defScope st) .none kV doc pm an cdv ct):=⟨⟨oc,od,kV,doc,pm,an,cdv,ct,osl,rfl,l,c⟩,k⟩
end
theorem gE {A:Around}{k:Nat} (hr:Room k A):A.units+1 < cLine:=Nat.lt_of_le_of_lt (Nat.add_le_add_left (by decide:1<=64) _) hr.units
section
variable {X:Cx}
theorem pv (i:Nat) {x:Str}{pos:Pos} (hN:X.N[i]?=some x:=by rfl) (hv:Vis X.env.scope x:=by first | exact Or.inl rfl | exact Or.inr (Or.inl rfl) | exact Or.inr (Or.inr rfl)) (hd:(x == ("__debug__" : Str))=false:=by decide)
  (hcd:(x == ("__classdict__" : Str))=false:=by decide):PE X (.Name x pos) (qH i):=zHx hN hv hd hcd
end
theorem yU {A B:Prop} (h:B):if false=true then A else B:=by
 rw [if_neg Bool.false_ne_true]
 exact h
theorem z7 {A B:Prop} (h:A):if true=true then A else B:=by
 rw [if_pos rfl]
 exact h
theorem jC {c A B:Prop} [Decidable c] (hc:c) (h:B):if (!decide c)=true then A else B:=by
 rw [decide_eq_true hc]
 exact yU h
def zB (H H':Hp):Prop:=∀ b o,H b=some o->H' b=some o
theorem zB.refl (H:Hp):zB H H:=fun _ _ h=>h
theorem zB.trans {H H1 H2:Hp} (a:zB H H1) (b:zB H1 H2):zB H H2:=fun c o h=>b c o (a c o h)
theorem zB.free {H H':Hp} (e:zB H H') {l:Addr} (h:H' l=Option.none):H l=Option.none:=by
 cases q:H l with
 | none=>rfl
 | some o =>
  rw [e l o q] at h
  cases h
theorem zB.seq {K:PySem.W.Frag}{H H':Hp}{a:Addr}{xs:List V} (e:zB H H') (h:yJ K H a xs):yJ K H' a xs:=by
 rcases h with (h | ⟨o,h⟩) | h
 ·exact .inl (.inl (e _ _ h))
 ·exact .inl (.inr ⟨o,e _ _ h⟩)
 ·exact .inr h
section
variable {κ:Type} [DecidableEq κ]
end
end L2
end
section
namespace L2
open PySem
section
variable {env:Env}
theorem zCR:∀ (l:List (Str × NameKind)) (cs:List (Str × Addr)),(∀ x∈l,x.2=.free->∃ c,env.cells.lookup x.1=some c)->(∀ x c,cs.lookup x=some c->env.cells.lookup x=some c) ->
  ∃ cl,(forIn l cs (fun x r=>if (x.2 == NameKind.free)=true then do let a <- cellOf env x.1; pure (ForInStep.yield ((x.1,a)::r)) else pure (ForInStep.yield r)):Sem (List (Str × Addr)))=pure cl /\
   (∀ x c,cl.lookup x=some c->env.cells.lookup x=some c)/\∀ x,((x,NameKind.free)∈l\/∃ c,cs.lookup x=some c)->∃ c,cl.lookup x=some c
 | [],cs,_,hs=>⟨cs,rfl,hs,fun x h=>h.elim (fun z=>by cases z) id⟩
 | (n,k)::l,cs,h,hs=>by
  have hl:∀ x∈l,x.2=.free->∃ c,env.cells.lookup x.1=some c:=fun x hx=>h x (List.mem_cons_of_mem _ hx)
  rw [List.forIn_cons]
  by_cases hk:k=.free
  ·subst hk
   obtain ⟨c,hc⟩:=h (n,.free) (List.mem_cons_self ..) rfl
   obtain ⟨cl,e,h1,h2⟩:=zCR l ((n,c)::cs) hl fun x c' z=>by
    by_cases hx:x=n
    ·subst hx
     rw [List.lookup_cons_self] at z
     cases z; exact hc
    ·have hx':(x == n)=false:=by simpa using hx
     rw [List.lookup_cons,hx'] at z
     exact hs x c' z
   refine ⟨cl,?_,h1,fun x hx=>h2 x ?_⟩
   ·have e0:cellOf env n=pure c:=by unfold cellOf; rw [hc]
    simp only [beq_self_eq_true,if_true,e0,pure_bind]
    exact e
   ·rcases hx with hx | ⟨c',hx⟩
    ·rcases List.mem_cons.mp hx with hx | hx
     ·have:x=n:=(Prod.mk.inj hx).1
      subst this
      exact .inr ⟨c,List.lookup_cons_self⟩
     ·exact .inl hx
    ·by_cases hxn:x=n
     ·subst hxn; exact .inr ⟨c,List.lookup_cons_self⟩
     ·have hx':(x == n)=false:=by simpa using hxn
      exact .inr ⟨c',by rw [List.lookup_cons,hx']; exact hx⟩
  ·obtain ⟨cl,e,h1,h2⟩:=zCR l cs hl hs
   have hb:(k == NameKind.free)=false:=by simpa using hk
   refine ⟨cl,?_,h1,fun x hx=>h2 x ?_⟩
   ·simp only [hb,Bool.false_eq_true,if_false,pure_bind]
    exact e
   ·rcases hx with hx | hx
    ·rcases List.mem_cons.mp hx with hx | hx
     ·exact absurd (Prod.mk.inj hx).2.symm hk
     ·exact .inl hx
    ·exact .inr hx
theorem zFF {scope:Scope} (h:∀ x∈scope.names,x.2=.free->∃ c,env.cells.lookup x.1=some c) :
  ∃ cl,closureFor scope env=pure cl/\(∀ x c,cl.lookup x=some c->env.cells.lookup x=some c)/\∀ x,(x,NameKind.free)∈scope.names->∃ c,cl.lookup x=some c:=by
 obtain ⟨cl,e,h1,h2⟩:=zCR scope.names [] h (fun x c z=>by simp at z)
 refine ⟨cl,?_,h1,fun x hx=>h2 x (.inl hx)⟩
 unfold closureFor
 dsimp only
 refine Eq.trans (congrArg (· >>= pure) ?_) (Eq.trans (congrArg (· >>= pure) e) (by simp))
 rfl
end
section
variable {prog:Program}{w:World}{A:Around}{R:Result->Shared->Prop}{s:Shared}
theorem zFG {elt target iter:Expr}{ifs:List Expr}{scope:Scope}{pos:Pos}{it acc:Value}{env:Env} (J:Nat->Shared->Prop)
  (turn:∀ n s,J n s->wpAny (model prog w) A (pyNext it) (fun r s1=>match r with
   | none=>R (.ok .next) s1
   | some v=>wpAny (model prog w) A (letOwnedTupleGo target it v) (fun _ s2=>wpAny (model prog w) A (assign target env v) (fun _ s3 =>
     wpAny (model prog w) A (forIn ifs true fun c r=>if r=true then do let ok <- isTrue c env (eval c env); pure (ForInStep.yield ok) else pure (ForInStep.yield r)) (fun ok s4 =>
      if ok=true then wpAny (model prog w) A (eval elt env) (fun x s5=>wpAny (model prog w) A (call (.builtin "list.append") [acc,x]) (fun _ s6=>∃ m,m < n/\J m s6) (fun _ _=>False) s5) (fun _ _=>False) s4
      else ∃ m,m < n/\J m s4) (fun _ _=>False) s3) (fun _ _=>False) s2) (fun _ _=>False) s1) (fun _ _=>False) s)
  (n:Nat) (h:J n s):codeAny (model prog w) A (.compLoop (.ListComp elt [⟨target,iter,ifs,0⟩] scope pos) 0 it acc env) R s:=by
 refine codeAny_loop rfl J (fun n s hJ=>?_) n h
 show wpAny _ A ((compTurn (.ListComp elt [⟨target,iter,ifs,0⟩] scope pos) 0 it acc env).onRaise (fun x=>noteFrame x env >>= fun _=>theTreesLotGoes x)) _ _ s
 refine wpAny_noted ?_
 have no:∀ {α:Type} {t:Sem α} {Q:α->Shared->Prop} {E:Value->Shared->Prop} {s:Shared},wpAny (model prog w) A t Q (fun _ _=>False) s->wpAny (model prog w) A t Q E s:=fun h=>wpAny_mono h (fun _ _ q=>q) fun _ _ f=>f.elim
 rw [compTurn_list]
 refine wpAny_bind (wpAny_standAt (wpAny_bind (no (wpAny_mono (turn n s hJ) (fun r s1 h1=>?_) fun _ _ f=>f))))
 cases r with
 | none=>exact wpAny_pure h1
 | some v =>
  refine wpAny_bind (no (wpAny_mono h1 (fun _ s2 h2=>?_) fun _ _ f=>f))
  refine wpAny_bind (no (wpAny_mono h2 (fun _ s3 h3=>?_) fun _ _ f=>f))
  refine wpAny_bind (no (wpAny_mono h3 (fun ok s4 h4=>?_) fun _ _ f=>f))
  cases ok with
  | false=>exact wpAny_pure ⟨rfl,h4⟩
  | true =>
   refine wpAny_bind (wpAny_bind (no (wpAny_mono h4 (fun x s5 h5=>?_) fun _ _ f=>f)))
   exact wpAny_bind (no (wpAny_mono h5 (fun _ s6 h6=>wpAny_pure (wpAny_pure ⟨rfl,h6⟩)) fun _ _ f=>f))
end
end L2
end
section
namespace L2
open PySem PySem.Spec PyProof.Rows
theorem zZ.track {P:Program}{w:World}{H:Hp}{h:Heap}{a:Addr}{o:HO} (x:zZ P w H h) (hn:H a=none) (new:yM P w (upd H a o) h a o):zZ P w (upd H a o) h:=fun b u e=>by
 by_cases hb:b=a
 ·subst hb; rw [zG] at e; cases e; exact new
 ·rw [zN hb] at e
  refine (x b u e).stay (fun c v _ q=>q) (fun c q=>?_) fun c xs q=>?_
  ·rw [zN (vO q hn)]; exact q
  ·rw [zN (vO q hn)]; exact q
theorem zZ.but {P:Program}{w:World}{H:Hp}{h h':Heap}{C:Addr} (x:zZ P w H h) (hn:H C=none) (k:∀ b u,b≠C->h.get? b=some u->h'.get? b=some u):zZ P w H h':=fun b u e=>by
 refine (x b u e).stay (fun c v hc q=>k c v ?_ q) (fun _ q=>q) fun _ _ q=>q
 rintro rfl
 rcases hc with z | z
 ·rw [z,e] at hn; cases hn
 ·rw [z] at hn; cases hn
theorem zFH {env:Env}:∀ {names:List (Str × NameKind)}{x:Str},names.lookup x=some .free ->
  (names.map fun (n,k)=>if (k == NameKind.free && env.scope.kind == .function && env.kindOf n == some .cell) then (n,NameKind.cell) else (n,k)).lookup x=some .cell \/
  (names.map fun (n,k)=>if (k == NameKind.free && env.scope.kind == .function && env.kindOf n == some .cell) then (n,NameKind.cell) else (n,k)).lookup x=some .free
 | [],_,h=>by simp at h
 | (n,k)::r,x,h=>by
  rw [List.map_cons]
  cases hx:x == n with
  | true =>
   rw [List.lookup_cons,hx] at h
   cases h
   dsimp only
   split
   ·left; rw [List.lookup_cons,hx]
   ·right; rw [List.lookup_cons,hx]
  | false =>
   rw [List.lookup_cons,hx] at h
   have ih:=zFH (env:=env) h
   dsimp only
   split
   ·rw [List.lookup_cons,hx]; exact ih
   ·rw [List.lookup_cons,hx]; exact ih
theorem zFI {env:Env}:∀ {names:List (Str × NameKind)}{x:Str}{k':NameKind},(k'=.cell\/k'=.free) ->
  (names.map fun (n,k)=>if (k == NameKind.free && env.scope.kind == .function && env.kindOf n == some .cell) then (n,NameKind.cell) else (n,k)).lookup x=some k'->∃ k,(x,k)∈names/\(k=.cell\/k=.free)
 | [],_,_,_,h=>by simp at h
 | (n,k)::r,x,k',hk,h=>by
  rw [List.map_cons] at h
  cases hx:x == n with
  | true =>
   have e:x=n:=by simpa using hx
   subst e
   dsimp only at h
   split at h
   ·rename_i hc
    have:k=.free:=by
     rw [Bool.and_eq_true,Bool.and_eq_true] at hc
     simpa using hc.1.1
    exact ⟨k,List.mem_cons_self ..,.inr this⟩
   ·rw [List.lookup_cons,hx] at h
    cases h
    exact ⟨k,List.mem_cons_self ..,hk⟩
  | false =>
   have h':(r.map fun (n,k)=>if (k == NameKind.free && env.scope.kind == .function && env.kindOf n == some .cell) then (n,NameKind.cell) else (n,k)).lookup x=some k':=by
    dsimp only at h
    split at h
    ·rw [List.lookup_cons,hx] at h; exact h
    ·rw [List.lookup_cons,hx] at h; exact h
   obtain ⟨k0,h0,h1⟩:=zFI (env:=env) hk h'
   exact ⟨k0,List.mem_cons_of_mem _ h0,h1⟩
def vK (X:Cx) (N:List Str) (scope:Scope) (cl:List (Str × Addr)) (C:Addr) (s:Shared) (H:Hp) (ex:List Addr):Cx where
 prog:=X.prog
 w:=X.w
 K:=X.K
 mg:=X.mg
 base:=X.base
 A:=X.A
 N:=N
 s₀:=s
 H₀:=H
 env:=compEnvC scope cl C X.env
 outer:=X.stack
 stack:=X.stack
 ex:=ex
 fn:=fun _=>false
 calm:=X.calm
 pn:=[]
 xe:=fun _ _=>False
structure CompScope (sc:Scope) (XN N:List Str) (scope:Scope) (caps:List Nat):Prop where
 kind:scope.kind=.function
 nd:N.Nodup
 nocell:∀ y∈scope.names,y.2≠.cell
 names:∀ y∈scope.names,y.2=.local->scope.names.lookup y.1=some .local
 free:∀ y∈scope.names,y.2=.free->sc.names.lookup y.1=some .cell\/sc.names.lookup y.1=some .free
 cap:∀ (i:Nat),i < caps.length->∃ x,N[i]?=some x/\XN[caps.getD i 0]?=some x/\scope.names.lookup x=some .free/\(sc.names.lookup x=some .cell\/sc.names.lookup x=some .free)
 len:caps.length<=N.length
def uS (caps:List Nat) (n:Nat) (σ:St):St:=caps.map (fun j=>(σ[j]?).join)++List.replicate (n - caps.length) none
def PF (X:Cx) (ifs:List Expr) (tc:TT):Prop :=
 ∀ (pins:List (Addr × Obj)) (s:Shared) (σ:St) (H:Hp) (Q:Bool->Hp->Prop),Inv X pins σ H s->tc σ H Q ->
  wpAny (model X.prog X.w) X.A (forIn ifs true fun c r=>if r=true then do let ok <- isTrue c X.env (eval c X.env); pure (ForInStep.yield ok) else pure (ForInStep.yield r)) (TP X pins σ Q) X.xe s
def gF:TT:=fun _ H Q=>Q true H
theorem uZ {X:Cx}:PF X [] gF:=fun pins s σ H Q I h=>by
 rw [List.forIn_nil]
 exact wpAny_pure ⟨H,I,h⟩
theorem zJX {X:Cx}{c:Expr}{tc:TT} (hc:PT X c tc):PF X [c] tc:=fun pins s σ H Q I h=>by
 rw [List.forIn_cons]
 refine wpAny_bind ?_
 rw [if_pos rfl]
 refine wpAny_bind (zK (hc pins s σ H Q I h) fun ok s1 q=>wpAny_pure ?_)
 show wpAny _ _ (forIn [] ok _) _ _ _
 rw [List.forIn_nil]
 exact wpAny_pure q
def zFJ (wi:TI) (g:TG) (tc:TT) (te:TE) (caps:List Nat) (n:Nat):TE:=fun σ H Q=>wi σ H fun J H1=>∃ W:Nat->Nat->List V->St->Hp->Prop,(∃ m,W 0 m [] (uS caps n σ) H1)/\∀ i m acc σ' H',W i m acc σ' H' ->
 (J.stop i H'/\∀ D,H' D=none->Q (.ref D) (upd H' D (.lst acc))) \/
 (J.go i H'/\acc.length < sizeLine/\∀ x H2,J.yld i H' x H2->g x σ' H2 fun σ2 H3=>tc σ2 H3 fun b H4=>if b=true then te σ2 H4 fun y H5=>∃ m',m' < m/\W (i+1) m' (acc++[y]) σ2 H5 else ∃ m',m' < m/\W (i+1) m' acc σ2 H4)
section
variable {X:Cx}{pins:List (Addr × Obj)}{σ:St}{H:Hp}{s:Shared}{N:List Str}{scope:Scope}{cl:List (Str × Addr)}{C:Addr}{fp:List Addr}{caps:List Nat}
theorem zFK (I:Inv X pins σ H s) (S:CompScope X.env.scope X.N N scope caps) (h1:∀ x c,cl.lookup x=some c->X.env.cells.lookup x=some c) (h2:∀ x,(x,NameKind.free)∈scope.names->∃ c,cl.lookup x=some c)
  (hC:s.heap.objs.size<=C) (hf:∀ b∈fp,uY X pins H b) (hfo:∀ b∈fp,b < s.heap.objs.size):(vK X N scope cl C s H fp).Ok where
 mod:=I.ok.mod
 kind:=S.kind
 glob:=I.ok.glob
 blt:=I.ok.blt
 above:=hC
 inj:=fun x y c a b=>I.ok.inj x y c (h1 x c a) (h1 y c b)
 has:=fun x hx=>by
  have hx':∃ k',(k'=NameKind.cell\/k'=.free)/\(relabel scope X.env).names.lookup x=some k':=by
   rcases hx with z | z
   ·exact ⟨_,.inl rfl,z⟩
   ·exact ⟨_,.inr rfl,z⟩
  obtain ⟨k',hk,z⟩:=hx'
  obtain ⟨k,m,e⟩:=zFI hk z
  rcases e with e | e
  ·exact absurd e (S.nocell _ m)
  ·subst e; exact h2 x m
 cab:=fun x c z=>by cases z
 hd:=I.ok.hd
 frames:=I.ok.frames
 stk:=.inl rfl
 exf:=fun b hb=>by
  obtain ⟨_,_,_,_,f4,_⟩:=hf b hb
  exact ⟨Nat.ne_of_lt (Nat.lt_of_lt_of_le (hfo b hb) hC),fun x c e=>f4 x c (h1 x c e)⟩
 bs:=I.bs
 bsz:=Nat.le_trans I.ok.bsz I.sz
 noex:=fun b o e hb=>by
  obtain ⟨_,_,_,f3,_⟩:=hf b hb
  rcases f3 with z | z
  ·exact I.ok.noex b o e z
  ·exact absurd (Nat.lt_of_lt_of_le (Heap.lt_size e) (Nat.le_trans I.ok.bsz z)) (Nat.lt_irrefl _)
 exfs:=fun b hb z=>by
  obtain ⟨_,f1,f2,_⟩:=hf b hb
  rcases List.mem_cons.mp (I.stkSub b z) with e | e
  ·exact f1 e
  ·exact f2 e
 funs:=I.stack
 frf:=I.stkFree
theorem zFL {h1:Heap}{D:Addr}{od:Obj}{t:Nat}{m:Str->Option Value} (I:Inv X pins σ H s) (ok:(vK X N scope cl C s H fp).Ok) (S:CompScope X.env.scope X.N N scope caps)
  (hcl:∀ x c,cl.lookup x=some c->X.env.cells.lookup x=some c) (hcl2:∀ x,(x,NameKind.free)∈scope.names->∃ c,cl.lookup x=some c)
  (keep:∀ b o,s.heap.get? b=some o->h1.get? b=some o) (hn:h1.Ns C m) (hC:s.heap.objs.size<=C) (hD:h1.get? D=some od) (hDs:s.heap.objs.size<=D) (hDC:D≠C) (hdc:∀ v,od.data≠.cell v) :
  Inv (vK X N scope cl C s H fp) [(D,od)] (uS caps N.length σ) H { s with heap:=h1,toks:=t }:=by
 have cellK:∀ x c,cl.lookup x=some c->∀ v,s.heap.IsCell c v->h1.IsCell c v:=fun x c e v ⟨o,ho,hd⟩=>⟨o,keep c o ho,hd⟩
 refine ⟨ok,rfl,I.bare,Un.kept keep,⟨m,hn,fun i x v e1 e2 e3=>?_⟩,fun x c e=>?_,I.hok.fresh hC,fun x c e=>I.freeC x c (hcl x c e),fun p hp=>?_,I.hok.kept keep,?_⟩
 ·have hi:i < caps.length:=by
   by_cases hi:i < caps.length
   ·exact hi
   ·exfalso
    unfold uS at e2
    rw [List.getElem?_append_right (by simpa using hi),List.getElem?_replicate] at e2
    split at e2 <;> cases e2
  obtain ⟨y,y1,y2,y3,y4⟩:=S.cap i hi
  have exy:x=y:=by
   have e1':N[i]?=some x:=e1
   rw [y1] at e1'; exact (Option.some.inj e1').symm
  subst exy
  have e4:σ[caps.getD i 0]?=some (some v):=by
   unfold uS at e2
   rw [List.getElem?_append_left (by simpa using hi),List.getElem?_map] at e2
   have:caps[i]?=some (caps.getD i 0):=by rw [List.getD_eq_getElem?_getD]; simp [hi]
   rw [this] at e2
   have e2':(σ[caps.getD i 0]?).join=some v:=by simpa using e2
   cases q:σ[caps.getD i 0]? with
   | none=>rw [q] at e2'; cases e2'
   | some z=>rw [q] at e2'; have:z=some v:=e2'; rw [this]
  obtain ⟨m',_,hl⟩:=I.loc
  obtain ⟨u,r,l⟩:=hl _ x v y2 e4 (y4.elim (fun z=>.inr (.inl z)) fun z=>.inr (.inr z))
  refine ⟨u,r,?_⟩
  have nl:X.env.kindOf x≠some .local:=by
   rcases y4 with z | z
   ·show X.env.scope.names.lookup x≠_; rw [z]; decide
   ·show X.env.scope.names.lookup x≠_; rw [z]; decide
  rcases l with ⟨k,_⟩ | ⟨_,c,hc,z⟩
  ·exact absurd k nl
  ·obtain ⟨c',hc'⟩:=hcl2 x (PySem.mem_of_lookup y3)
   have:c=c':=Option.some.inj (hc.symm.trans (hcl x c' hc'))
   subst this
   refine .inr ⟨?_,c,hc',cellK x c hc' _ z⟩
   exact zFH (env:=X.env) y3
 ·obtain ⟨v,z⟩:=I.cell x c (hcl x c e)
  exact ⟨v,cellK x c e v z⟩
 ·have:p=(D,od):=by
   have hp':p∈[(D,od)]:=hp
   simpa using hp'
  subst this
  refine ⟨hD,I.hok.fresh hDs,hDC,fun z=>?_,hdc⟩
  have z':D∈y9 X.stack:=z
  obtain ⟨_,o,ho,_⟩:=I.stack.mem z'
  exact absurd (Nat.lt_of_lt_of_le (Heap.lt_size ho) hDs) (Nat.lt_irrefl _)
 ·unfold uS
  show _=N.length
  rw [List.length_append,List.length_map,List.length_replicate]
  have:=S.len
  omega
end
section
variable {X:Cx}
theorem qA {tg iter elt:Expr}{ifs:List Expr}{scope:Scope}{pos:Pos}{wi:TI}{g:TG}{tc:TT}{te:TE}{N:List Str}{caps:List Nat} (hc:X.calm=true) (S:CompScope X.env.scope X.N N scope caps)
  (hi:PI X tg iter wi) (hg:∀ cl C s H ex,PG (vK X N scope cl C s H ex) tg g) (hf:∀ cl C s H ex,PF (vK X N scope cl C s H ex) ifs tc) (he:∀ cl C s H ex,PE (vK X N scope cl C s H ex) elt te)
  (hs:∀ x,foldedSetIterable iter X.env x=pure x:=by intro _; rfl):PE X (.ListComp elt [⟨tg,iter,ifs,0⟩] scope pos) (zFJ wi g tc te caps N.length):=by
 intro pins s σ H Q I h
 obtain ⟨cl,hcl,hcl1,hcl2⟩:=zFF (env:=X.env) (scope:=scope) fun y hy e=>I.ok.has y.1 (S.free y hy e)
 rw [eval_ListComp]
 refine wpAny_comprehension_free (use:=none) rfl hs hcl S.kind S.names (zK (hi pins s σ H _ I h) fun v s1 h1=>zK h1 fun itv s2 h2=>?_)
 obtain ⟨it,fp,tn,J,H2,e,I2,T,st2,f2,W,⟨m0,w0⟩,turn⟩:=h2
 subst e
 refine wpAny_newObj_type (wpAny_newFunctionEnv S.nocell (by intro y hy; simp at hy) (fun h₁ hns hsb=>?_) S.kind)
 dsimp only at hns hsb ⊢
 generalize hG:s2.heap.push { cls:=.type "list",dict:=none,data:=.seq ([]:List Value).toArray }=G at hns hsb ⊢
 have hCs:G.objs.size=s2.heap.objs.size+1:=by rw [<- hG,Heap.size_push]
 have hDC:s2.heap.objs.size≠G.objs.size:=by rw [hCs]; exact Nat.ne_of_lt (Nat.lt_succ_self _)
 have old:∀ b o,s2.heap.get? b=some o->h₁.get? b=some o:=fun b o e=>by
  have hb:=Heap.lt_size e
  refine hsb.extBut b o (by rw [hCs]; exact Nat.ne_of_lt (Nat.lt_succ_of_lt hb)) (Heap.get?_push_of_some _ ?_)
  rw [<- hG]
  exact Heap.get?_push_of_some _ e
 have hD:h₁.get? s2.heap.objs.size=some { cls:=.type "list",dict:=none,data:=.seq ([]:List Value).toArray }:=by
  refine hsb.extBut _ _ hDC (Heap.get?_push_of_some _ ?_)
  rw [<- hG]
  exact Heap.get?_push_size _ rfl
 have hfo:∀ b∈fp,b < s2.heap.objs.size:=fun b hb=>let ⟨o,e,_⟩:=T.obj 0 _ st2 b hb; Heap.lt_size e
 have hCle:s2.heap.objs.size<=G.objs.size:=by omega
 have ok:=zFK (C:=G.objs.size) I2 S hcl1 hcl2 hCle f2 hfo
 have I0:Inv (vK X N scope cl G.objs.size s2 H2 fp) [(s2.heap.objs.size,{ cls:=.type "list",dict:=none,data:=.seq ([]:List Value).toArray })] (uS caps N.length σ) H2 { s2 with heap:=h₁,toks:=s2.toks+([]:List (Str × Value)).length } :=
  zFL I2 ok S hcl1 hcl2 old hns hCle hD (Nat.le_refl _) hDC (fun v z=>by cases z)
 have st1:tn 0 h₁:=T.keep 0 _ _ st2 fun b _ o e=>old b o e
 generalize hX:vK X N scope cl G.objs.size s2 H2 fp=X' at I0
 generalize hDa:s2.heap.objs.size=D at I0 hD hDC
 have loop:codeAny (model X.prog X.w) X.A (.compLoop (.ListComp elt [⟨tg,iter,ifs,0⟩] scope pos) 0 (.ref it) (.ref D) (compEnvC scope cl G.objs.size X.env)) (compPost (model X.prog X.w) X.A X.xe none (EP X pins σ Q) (.ref D) G.objs.size)
   { s2 with heap:=h₁,toks:=s2.toks+([]:List (Str × Value)).length }:=by
  subst hX
  refine zFG (J:=fun n s'=>∃ i σ' H' acc its e,Inv (vK X N scope cl G.objs.size s2 H2 fp) [(D,{ cls:=.type "list",data:=.seq (List.toArray its) e })] σ' H' s'/\zL acc its/\acc.length<=sizeLine/\tn i s'.heap/\(∀ b∈fp,H' b=none)/\W i n acc σ' H')
   ?_ m0 ⟨0,_,H2,[],[],0,I0,.nil,Nat.zero_le _,st1,fun b hb=>(f2 b hb).1,w0⟩
  rintro n s3 ⟨i,σ3,H3,acc,its,ep,I3,rv,hz,st3,fr3,w3⟩
  have stat:∀ {H':Hp} {pl:List (Addr × Obj)},(∀ b∈fp,H' b=none)->(∀ p∈pl,p.1=D)->∀ b∈fp,uY (vK X N scope cl G.objs.size s2 H2 fp) pl H' b:=fun {H' pl} hn hpl b hb=>by
   obtain ⟨a1,a2⟩:=ok.exf b hb
   exact ⟨hn b hb,a1,ok.exfs b hb,.inl hb,fun x c e=>a2 x c e,fun p hp=>by
    have hp':p∈pl:=hp
    rw [hpl p hp',<- hDa]
    exact Nat.ne_of_gt (hfo b hb)⟩
  have one:∀ p∈[(D,({ cls:=.type "list",data:=.seq (List.toArray its) ep }:Obj))],p.1=D:=fun p hp=>by
   rcases List.mem_cons.mp hp with e | e
   ·rw [e]
   ·cases e
  have pinD:∀ {pl:List (Addr × Obj)} {σ':St} {H':Hp} {s':Shared} {o:Obj},Inv (vK X N scope cl G.objs.size s2 H2 fp) pl σ' H' s'->(D,o)∈pl->s'.heap.get? D=some o/\H' D=none:=fun {pl σ' H' s' o} I' hm=>by
   obtain ⟨a,b,_⟩:=I'.pin (D,o) (List.mem_append_right _ hm)
   exact ⟨a,b⟩
  rcases turn i n acc σ3 H3 w3 with ⟨stop,q⟩ | ⟨go,hlt,step⟩
  ·refine wpAny_mono (T.done (vK X N scope cl G.objs.size s2 H2 fp) rfl rfl rfl hc i _ s3 σ3 H3 (fun _ _=>False) I3 (stat fr3 one) st3 stop) (fun r s4 ⟨hr,I4⟩=>?_) fun _ _ f=>f
   subst hr
   obtain ⟨hDo,hDn⟩:=pinD I4 (List.mem_cons_self ..)
   obtain ⟨m4,hm4,_⟩:=I4.loc
   refine ⟨m4,hm4,fun h' hsb'=>?_⟩
   have keepC:∀ b u,b≠G.objs.size->s4.heap.get? b=some u->h'.get? b=some u:=fun b u hb e=>hsb'.extBut b u hb e
   have un:Un (y9 X.stack) fp H2 H3 s2.heap s4.heap:=I4.base
   have hDo':h'.get? D=some { cls:=.type "list",data:=.seq (List.toArray its) ep }:=keepC D _ hDC hDo
   have hlow:∀ b (o:Obj),s2.heap.get? b=some o->b≠G.objs.size/\b≠D:=fun b o e=>by
    have h0:=Heap.lt_size e
    exact ⟨by rw [hCs]; exact Nat.ne_of_lt (Nat.lt_succ_of_lt h0),by rw [<- hDa]; exact Nat.ne_of_lt h0⟩
   have un':Un (y9 X.stack) fp H2 (upd H3 D (.lst acc)) s2.heap h' :=
    ⟨fun b o e n' hb hx=>keepC b o (hlow b o e).1 (un.keep b o e n' hb hx),
     fun b o e n' hb hx=>let ⟨sl,q⟩:=un.slot b o e n' hb hx; ⟨sl,keepC b _ (hlow b o e).1 q⟩,
     fun b o e n' hx=>by rw [zN (hlow b o e).2]; exact un.free b o e n' hx,
     fun b o e hx=>let ⟨o',q⟩:=un.there b o e hx; ⟨o',keepC b _ (hlow b o e).1 q⟩,
     fun b xs e=>by rw [zN (vO (un.tups b xs e) hDn)]; exact un.tups b xs e,
     fun b o u e=>by rw [zN (vO (un.frzs b o u e) hDn)]; exact un.frzs b o u e,
     fun b ps e=>let ⟨mo,q⟩:=un.tbls b ps e; ⟨mo,by rw [zN (vO q hDn)]; exact q⟩⟩
   have hok:zZ X.prog X.w (upd H3 D (.lst acc)) h':=(I4.hok.but I4.free keepC).track hDn ⟨hz,its,ep,rv,hDo'⟩
   refine ⟨.ref D,upd H3 D (.lst acc),I2.call' (s':={ s4 with heap:=h' }) I4.os un' hok I4.bare (fun b hb=>?_),rfl,q D hDn⟩
   obtain ⟨_,f1,_,f3,f4,f5⟩:=f2 b hb
   exact ⟨f3,f1,f4,f5⟩
  ·refine wpAny_mono (T.item (vK X N scope cl G.objs.size s2 H2 fp) rfl rfl rfl hc i _ s3 σ3 H3 (fun _ _=>False) I3 (stat fr3 one) st3 go) (fun r s4 ⟨u,hr,h4⟩=>?_) fun _ _ f=>f
   subst hr
   refine zK h4 fun _ s5 ⟨x,H5,I5,r5,y5,st5,fr5⟩=>?_
   have I5':=I5.pinned (stat fr5 one) (T.obj _ _ st5)
   refine zK (hg cl G.objs.size s2 H2 fp _ s5 σ3 H5 x u _ I5' r5 (step x H5 y5)) fun _ s6 ⟨σ6,H6,I6,q6⟩=>?_
   refine zK (hf cl G.objs.size s2 H2 fp _ s6 σ6 H6 _ I6 q6) fun b s7 ⟨H7,I7,q7⟩=>?_
   have fin:∀ {pl:List (Addr × Obj)} {σ':St} {H':Hp} {s':Shared},Inv (vK X N scope cl G.objs.size s2 H2 fp) (pl++zAI fp s5.heap) σ' H' s'->tn (i+1) s'.heap/\∀ b∈fp,H' b=none:=fun {pl σ' H' s'} I'=>by
    refine ⟨T.keep _ _ _ st5 fun b hb o e=>(I'.pin (b,o) (List.mem_append_right _ (List.mem_append_right _ (gR hb e)))).1,fun b hb=>?_⟩
    obtain ⟨o,e,_⟩:=T.obj _ _ st5 b hb
    exact (I'.pin (b,o) (List.mem_append_right _ (List.mem_append_right _ (gR hb e)))).2.1
   cases b with
   | false =>
    rw [if_neg Bool.false_ne_true] at q7 ⊢
    obtain ⟨m',hm,w7⟩:=q7
    obtain ⟨a1,a2⟩:=fin I7
    exact ⟨m',hm,i+1,σ6,H7,acc,its,ep,I7.unpinned,rv,hz,a1,a2,w7⟩
   | true =>
    rw [if_pos rfl] at q7 ⊢
    refine zK (he cl G.objs.size s2 H2 fp _ s7 σ6 H7 _ I7 q7) fun y s8 ⟨yv,H8,I8,r8,m',hm,w8⟩=>?_
    obtain ⟨a1,a2⟩:=fin I8
    obtain ⟨b1,b2⟩:=pinD I8 (List.mem_append_left _ (List.mem_cons_self ..))
    have hl:=rv.length
    refine call_meets F.slot_list_append ⟨_,b1,rfl⟩ F.entry_list_append (F.args_list_append_2 _ _) (PySem.list_append D its.toArray ep y (by rw [List.size_toArray]; omega)) ⟨b1,?_⟩
    have q9:=PySem.IsL.update b1 (·.push y)
    have kp:∀ b o,b≠D->s8.heap.get? b=some o->(s8.heap.update D (Obj.mapSeq (·.push y))).get? b=some o:=fun b o hb e=>(Heap.get?_update_other s8.heap (Obj.mapSeq (·.push y)) (Ne.symm hb)).trans e
    have I9:Inv (vK X N scope cl G.objs.size s2 H2 fp) [] σ6 H8 { s8 with heap:=s8.heap.update D (Obj.mapSeq (·.push y)) } :=
     (I8.pins_of (pins':=[]) fun p hp=>by cases hp).turned (t':=s8.toks) kp b2 hDC (.inr (by rw [<- hDa]; exact Nat.le_refl _)) (fun x c e z=>by
      have e':X.env.cells.lookup x=some c:=hcl1 x c e
      obtain ⟨v',hv'⟩:=I2.cell x c e'
      have h0:=hv'.lt
      rw [z,<- hDa] at h0
      exact Nat.lt_irrefl _ h0) fun p hp=>by
       have:p∈([]:List (Addr × Obj)):=hp
       cases this
    have hpu:its.toArray.push y=(its++[y]).toArray:=by simp
    rw [hpu] at q9
    obtain ⟨e9,q9⟩:∃ e9,(s8.heap.update D (Obj.mapSeq (·.push y))).get? D=some { cls:=.type "list",data:=.seq (its++[y]).toArray e9 }:=⟨_,q9⟩
    refine ⟨m',hm,i+1,σ6,H8,acc++[yv],its++[y],e9,I9.pins_of fun p hp=>?_,rv.append (.cons r8 .nil),?_,T.keep _ _ _ a1 fun b hb o e=>kp b o ?_ e,a2,w8⟩
    ·obtain rfl:p=(D,{ cls:=.type "list",data:=.seq (its++[y]).toArray e9 }):=by
      rcases List.mem_cons.mp hp with e | e
      ·exact e
      ·cases e
     obtain ⟨_,_,c3,c4,_⟩:=I8.pin (D,_) (List.mem_append_right _ (List.mem_append_left _ (List.mem_cons_self ..)))
     exact ⟨q9,b2,c3,c4,fun v z=>by cases z⟩
    ·rw [List.length_append,List.length_singleton]; omega
    ·rintro rfl
     have h0:=hfo b hb
     rw [hDa] at h0
     exact Nat.lt_irrefl _ h0
 exact codeAny_compStart_list loop (T.self X.A 0 _ _ _ st1 loop)
end
end L2
end
section
namespace L2
open PySem PySem.Spec PyProof.Rows
theorem zB.seqT {K:PySem.W.Frag}{H H':Hp}{a:Addr}{xs:List V} (e:zB H H') (h:yG K H a xs):yG K H' a xs:=by
 rcases h with (h | ⟨o,h⟩) | h
 ·exact .inl (.inl (e _ _ h))
 ·exact .inl (.inr ⟨o,e _ _ h⟩)
 ·exact .inr h
mutual
def vR (K:PySem.W.Frag) (H:Hp):PyData->V->Prop
 | .none,v=>v=.non
 | .bool b,v=>v=.bl b
 | .int i,v=>v=.int i
 | .str x,v=>v=.str x
 | .list ds,v=>∃ a xs,v=.ref a/\yJ K H a xs/\Reps K H ds xs
 | .tuple ds,v=>∃ a xs,v=.ref a/\yG K H a xs/\Reps K H ds xs
 | .dict _,_=>False
def Reps (K:PySem.W.Frag) (H:Hp):List PyData->List V->Prop
 | [],xs=>xs=[]
 | d::ds,xs=>∃ y ys,xs=y::ys/\vR K H d y/\Reps K H ds ys
end
mutual
theorem vR.same {K:PySem.W.Frag}{H H':Hp} (e:zB H H'):∀ (d:PyData) (v:V),vR K H d v->vR K H' d v
 | .none,v,h=>h
 | .bool b,v,h=>h
 | .int i,v,h=>h
 | .str x,v,h=>h
 | .list ds,v,h=>by
  obtain ⟨a,xs,h1,h2,h3⟩:=h
  exact ⟨a,xs,h1,e.seq h2,Reps.same e ds xs h3⟩
 | .tuple ds,v,h=>by
  obtain ⟨a,xs,h1,h2,h3⟩:=h
  exact ⟨a,xs,h1,e.seqT h2,Reps.same e ds xs h3⟩
 | .dict _,v,h=>h
theorem Reps.same {K:PySem.W.Frag}{H H':Hp} (e:zB H H'):∀ (ds:List PyData) (xs:List V),Reps K H ds xs->Reps K H' ds xs
 | [],xs,h=>h
 | d::ds,xs,h=>by
  obtain ⟨y,ys,h1,h2,h3⟩:=h
  exact ⟨y,ys,h1,vR.same e d y h2,Reps.same e ds ys h3⟩
end
theorem Reps.length {K:PySem.W.Frag}{H:Hp}:∀ {ds:List PyData}{xs:List V},Reps K H ds xs->ds.length=xs.length
 | [],xs,h=>by rw [show xs=[] from h]; rfl
 | d::ds,xs,h=>by
  obtain ⟨y,ys,h1,_,h3⟩:=h
  rw [h1,List.length_cons,List.length_cons,Reps.length h3]
theorem Reps.get {K:PySem.W.Frag}{H:Hp}:∀ {ds:List PyData}{xs:List V}{i:Nat}{y:V},Reps K H ds xs->xs[i]?=some y->∃ d,ds[i]?=some d/\vR K H d y
 | [],xs,i,y,h,e=>by rw [show xs=[] from h] at e; simp at e
 | d::ds,xs,i,y,h,e=>by
  obtain ⟨z,zs,h1,h2,h3⟩:=h
  subst h1
  cases i with
  | zero =>
   have:z=y:=by simpa using e
   subst this
   exact ⟨d,rfl,h2⟩
  | succ i =>
   obtain ⟨d',e1,e2⟩:=Reps.get (i:=i) h3 (by simpa using e)
   exact ⟨d',by simpa using e1,e2⟩
theorem Reps.append {K:PySem.W.Frag}{H:Hp}:∀ {ds es:List PyData}{xs ys:List V},Reps K H ds xs->Reps K H es ys->Reps K H (ds++es) (xs++ys)
 | [],es,xs,ys,h,h'=>by rw [show xs=[] from h]; exact h'
 | d::ds,es,xs,ys,h,h'=>by
  obtain ⟨z,zs,h1,h2,h3⟩:=h
  subst h1
  exact ⟨z,zs++ys,rfl,h2,Reps.append h3 h'⟩
theorem Reps.one {K:PySem.W.Frag}{H:Hp}{d:PyData}{v:V} (h:vR K H d v):Reps K H [d] [v]:=⟨v,[],rfl,h,rfl⟩
section
variable {X:Cx}{pins:List (Addr × Obj)}{σ:St}{H:Hp}{s:Shared}
mutual
theorem vR.reads (I:Inv X pins σ H s):∀ (d:PyData) (v:V) (u:Value),vR X.K H d v->zQ v u->∃ as,Reads s.heap u d as
 | .none,v,u,h,r=>by
  have h':v=.non:=h
  subst h'
  cases r
  exact ⟨_,.none⟩
 | .bool b,v,u,h,r=>by
  have h':v=.bl b:=h
  subst h'
  cases r
  exact ⟨_,.bool b⟩
 | .int i,v,u,h,r=>by
  have h':v=.int i:=h
  subst h'
  obtain ⟨t,rfl⟩:=r
  exact ⟨_,.int i t⟩
 | .str x,v,u,h,r=>by
  have h':v=.str x:=h
  subst h'
  obtain ⟨t,rfl⟩:=r
  exact ⟨_,.str x t⟩
 | .list ds,v,u,h,r=>by
  obtain ⟨a,xs,h1,h2,h3⟩:=h
  subst h1
  cases r
  obtain ⟨its,rv,⟨o,n,e,hc,_,hd⟩,_⟩:=I.list h2
  obtain ⟨as,ra⟩:=Reps.reads I ds xs its h3 rv
  exact ⟨_,.list e hc hd (by simpa using ra)⟩
 | .tuple ds,v,u,h,r=>by
  obtain ⟨a,xs,h1,h2,h3⟩:=h
  subst h1
  cases r
  obtain ⟨its,rv,⟨o,e,hc,n,hd⟩,_⟩:=I.tuple h2
  obtain ⟨as,ra⟩:=Reps.reads I ds xs its h3 rv
  exact ⟨_,.tuple e hc hd (by simpa using ra)⟩
 | .dict _,v,u,h,r=>h.elim
theorem Reps.reads (I:Inv X pins σ H s):∀ (ds:List PyData) (xs:List V) (us:List Value),Reps X.K H ds xs->zL xs us->∃ as,ReadsAll s.heap us ds as
 | [],xs,us,h,r=>by
  have h':xs=[]:=h
  subst h'
  cases r
  exact ⟨_,.nil⟩
 | d::ds,xs,us,h,r=>by
  obtain ⟨y,ys,h1,h2,h3⟩:=h
  subst h1
  cases r with
  | cons r1 r2 =>
   obtain ⟨as,ra⟩:=vR.reads I d y _ h2 r1
   obtain ⟨bs,rb⟩:=Reps.reads I ds ys _ h3 r2
   exact ⟨_,.cons ra rb⟩
end
def zFM (K:PySem.W.Frag) (neg:Bool):R2:=fun x y H Q=>∃ d e,vR K H d x/\vR K H e y/\SeqAt.shaped d=true/\SeqAt.shaped e=true/\Q (.bl (if neg=true then !PyData.eqv d e else PyData.eqv d e)) H
theorem zCS (hu:X.A.units+64 < cLine):yO X (compareOp .Eq) (zFM X.K false):=by
 intro pins s σ H x y v u Q I rx ry h
 obtain ⟨d,e,h1,h2,h3,h4,q⟩:=h
 obtain ⟨as,ra⟩:=vR.reads I d x v h1 rx
 obtain ⟨bs,rb⟩:=vR.reads I e y u h2 ry
 exact eq_dataH ra rb h3 h4 hu ⟨.bl _,H,I,rfl,q⟩
theorem gG (hu:X.A.units+64 < cLine):yO X (compareOp .NotEq) (zFM X.K true):=by
 intro pins s σ H x y v u Q I rx ry h
 obtain ⟨d,e,h1,h2,h3,h4,q⟩:=h
 obtain ⟨as,ra⟩:=vR.reads I d x v h1 rx
 obtain ⟨bs,rb⟩:=vR.reads I e y u h2 ry
 exact ne_dataH ra rb h3 h4 hu ⟨.bl _,H,I,rfl,q⟩
end
mutual
theorem zCT:∀ d:PyData,d.canLay0=true->PyData.eqv d d=true
 | .none,_=>rfl
 | .bool b,_=>by simp [PyData.eqv]
 | .int i,_=>by simp [PyData.eqv]
 | .str x,_=>by simp [PyData.eqv]
 | .list ds,h=>by
  have h':PyData.canLayAll0 ds=true:=by simpa [PyData.canLay0] using h
  simp only [PyData.eqv]; exact eqvAll_refl ds h'
 | .tuple ds,h=>by
  have h':PyData.canLayAll0 ds=true:=by simpa [PyData.canLay0] using h
  simp only [PyData.eqv]; exact eqvAll_refl ds h'
 | .dict _,h=>by simp [PyData.canLay0] at h
theorem eqvAll_refl:∀ ds:List PyData,PyData.canLayAll0 ds=true->PyData.eqvAll ds ds=true
 | [],_=>rfl
 | d::ds,h=>by
  have h':d.canLay0=true/\PyData.canLayAll0 ds=true:=by simpa [PyData.canLayAll0] using h
  simp only [PyData.eqvAll,zCT d h'.1,eqvAll_refl ds h'.2,Bool.and_self]
end
end L2
end
section
open PySem PySem.W PyProof.Rows
namespace MyS
def ev {α:Type} (lt:Nat->Nat->Bool):KasT α->α
 | .ret a=>a
 | .ask i j k=>ev lt (k (lt i j))
theorem zAP {α β:Type} (lt:Nat->Nat->Bool) (f:α->KasT β):∀ t:KasT α,ev lt (t.bind f)=ev lt (f (ev lt t))
 | .ret _=>rfl
 | .ask i j k=>zAP lt f (k (lt i j))
def vS {α:Type} (lt:Nat->Nat->Bool) (N:Nat):KasT α->Prop
 | .ret _=>True
 | .ask i j k=>i < N/\j < N/\i≠j/\vS lt N (k (lt i j))
theorem zAQ {α β:Type}{lt:Nat->Nat->Bool}{N:Nat}{f:α->KasT β}:∀ (t:KasT α),vS lt N t->vS lt N (f (ev lt t))->vS lt N (t.bind f)
 | .ret _,_,h=>h
 | .ask i j k,h,h'=>⟨h.1,h.2.1,h.2.2.1,zAQ (k (lt i j)) h.2.2.2 h'⟩
structure TotalOn (lt:Nat->Nat->Bool) (n:Nat):Prop where
 irr:∀ i,i < n->lt i i=false
 tr:∀ i j k,i < n->j < n->k < n->lt i j=true->lt j k=true->lt i k=true
 tot:∀ i j,i < n->j < n->i≠j->lt i j=true\/lt j i=true
abbrev gg (p:Array Nat) (i:Nat):Nat:=p.getD i 0
def Pm (p:Array Nat) (n:Nat):Prop:=p.toList.Perm (List.range n)
theorem Pm.size {p:Array Nat}{n:Nat} (h:Pm p n):p.size=n:=by
 have:=List.Perm.length_eq h
 simpa using this
theorem zAq {p:Array Nat}{i:Nat} (h:i < p.size):gg p i=p[i]:=by simp [gg,Array.getD,h]
theorem Pm.lt {p:Array Nat}{n i:Nat} (h:Pm p n) (hi:i < n):gg p i < n:=by
 have hs:i < p.size:=by rw [h.size]; exact hi
 have hm:p[i]∈List.range n:=(List.Perm.mem_iff h).mp (by simp)
 rw [zAq hs]
 exact List.mem_range.mp hm
theorem Pm.ne {p:Array Nat}{n i j:Nat} (h:Pm p n) (hi:i < n) (hj:j < n) (hij:i≠j):gg p i≠gg p j:=by
 have hsi:i < p.size:=by rw [h.size]; exact hi
 have hsj:j < p.size:=by rw [h.size]; exact hj
 have nd:p.toList.Nodup:=(List.Perm.nodup_iff h).mpr List.nodup_range
 rw [zAq hsi,zAq hsj]
 intro e
 apply hij
 have e':p.toList[i]'(by simpa using hsi)=p.toList[j]'(by simpa using hsj):=by simpa using e
 exact (List.getElem_inj nd).mp e'
theorem Pm.perm {p q:Array Nat}{n:Nat} (h:Pm p n) (e:q.Perm p):Pm q n:=(Array.perm_iff_toList_perm.mp e).trans h
def Up (lt:Nat->Nat->Bool) (p:Array Nat) (k:Nat):Prop:=∀ i j,i < j->j < k->lt (gg p i) (gg p j)=true
def Dn (lt:Nat->Nat->Bool) (p:Array Nat) (k:Nat):Prop:=∀ i j,i < j->j < k->lt (gg p j) (gg p i)=true
section
variable {lt:Nat->Nat->Bool}{N:Nat}{p:Array Nat}
theorem TotalOn.flip (O:TotalOn lt N) {i j:Nat} (hi:i < N) (hj:j < N) (hne:i≠j) (h:lt i j=false):lt j i=true:=by
 rcases O.tot i j hi hj hne with h' | h'
 ·rw [h] at h'; cases h'
 ·exact h'
theorem Up.more (O:TotalOn lt N) (P:Pm p N) {n:Nat} (h1:1<=n) (hn:n < N) (u:Up lt p n) (h:lt (gg p (n - 1)) (gg p n)=true):Up lt p (n+1):=by
 intro i j hij hj
 by_cases e:j=n
 ·subst e
  by_cases e':i=j - 1
  ·subst e'; exact h
  ·exact O.tr _ _ _ (P.lt (by omega)) (P.lt (by omega)) (P.lt hn) (u i (j - 1) (by omega) (by omega)) h
 ·exact u i j hij (by omega)
theorem Dn.more (O:TotalOn lt N) (P:Pm p N) {n:Nat} (h1:1<=n) (hn:n < N) (u:Dn lt p n) (h:lt (gg p n) (gg p (n - 1))=true):Dn lt p (n+1):=by
 intro i j hij hj
 by_cases e:j=n
 ·subst e
  by_cases e':i=j - 1
  ·subst e'; exact h
  ·exact O.tr _ _ _ (P.lt hn) (P.lt (by omega)) (P.lt (by omega)) h (u i (j - 1) (by omega) (by omega))
 ·exact u i j hij (by omega)
theorem zFN:Up lt p 1:=fun i j hij hj=>by omega
theorem zBP (O:TotalOn lt N) (P:Pm p N):∀ (f n:Nat),1<=n->n+f<=N->Up lt p n ->
  n<=ev lt (kas_asc p f n)/\ev lt (kas_asc p f n)<=n+f/\Up lt p (ev lt (kas_asc p f n))/\(ev lt (kas_asc p f n) < n+f->lt (gg p (ev lt (kas_asc p f n))) (gg p (ev lt (kas_asc p f n) - 1))=true)
 | 0,n,_,_,u=>⟨Nat.le_refl _,Nat.le_refl _,u,fun h=>absurd h (Nat.lt_irrefl _)⟩
 | f+1,n,h1,hn,u=>by
  have e:ev lt (kas_asc p (f+1) n)=ev lt (if lt (gg p n) (gg p (n - 1))=true then KasT.ret n else kas_asc p f (n+1)):=rfl
  rw [e]
  cases c:lt (gg p n) (gg p (n - 1)) with
  | true =>
   rw [if_pos rfl]
   exact ⟨Nat.le_refl _,Nat.le_add_right _ _,u,fun _=>c⟩
  | false =>
   rw [if_neg (by simp)]
   have c':=O.flip (P.lt (by omega)) (P.lt (by omega)) (P.ne (by omega) (by omega) (by omega)) c
   obtain ⟨a1,a2,a3,a4⟩:=zBP O P f (n+1) (by omega) (by omega) (u.more O P h1 (by omega) c')
   exact ⟨by omega,by omega,a3,fun h=>a4 (by omega)⟩
theorem zCU (P:Pm p N):∀ (f n:Nat),1<=n->n+f<=N->vS lt N (kas_asc p f n)
 | 0,n,_,_=>trivial
 | f+1,n,h1,hn=>by
  refine ⟨P.lt (by omega),P.lt (by omega),P.ne (by omega) (by omega) (by omega),?_⟩
  show vS lt N (if lt (gg p n) (gg p (n - 1))=true then KasT.ret n else kas_asc p f (n+1))
  split
  ·trivial
  ·exact zCU P f (n+1) (by omega) (by omega)
theorem zFO (O:TotalOn lt N) (P:Pm p N):∀ (f n:Nat),1<=n->n+f<=N->vS lt N (kas_desc f p n 0)
 | 0,n,_,_=>trivial
 | f+1,n,h1,hn=>by
  refine ⟨P.lt (by omega),P.lt (by omega),P.ne (by omega) (by omega) (by omega),?_⟩
  show vS lt N (if lt (gg p n) (gg p (n - 1))=true then (if 0 > 0 then kas_desc f (kas_rev p (n - (0+1)) n) (n+1) 0 else kas_desc f p (n+1) 0)
   else .ask (gg p (n - 1)) (gg p n) fun d=>if d=true then .ret (p,n,0) else kas_desc f p (n+1) (0+1))
  cases c:lt (gg p n) (gg p (n - 1)) with
  | true =>
   rw [if_pos rfl,if_neg (by omega)]
   exact zFO O P f (n+1) (by omega) (by omega)
  | false =>
   rw [if_neg (by simp)]
   have c':=O.flip (P.lt (by omega)) (P.lt (by omega)) (P.ne (by omega) (by omega) (by omega)) c
   refine ⟨P.lt (by omega),P.lt (by omega),P.ne (by omega) (by omega) (by omega),?_⟩
   show vS lt N (if lt (gg p (n - 1)) (gg p n)=true then KasT.ret (p,n,0) else kas_desc f p (n+1) (0+1))
   rw [c',if_pos rfl]
   trivial
theorem zCV (O:TotalOn lt N) (P:Pm p N):∀ (f n:Nat),1<=n->n+f<=N->Dn lt p n ->
  ∃ m,ev lt (kas_desc f p n 0)=(p,m,0)/\n<=m/\m<=n+f/\Dn lt p m
 | 0,n,_,_,u=>⟨n,rfl,Nat.le_refl _,Nat.le_refl _,u⟩
 | f+1,n,h1,hn,u=>by
  have e:ev lt (kas_desc (f+1) p n 0)=ev lt (if lt (gg p n) (gg p (n - 1))=true then (if 0 > 0 then kas_desc f (kas_rev p (n - (0+1)) n) (n+1) 0 else kas_desc f p (n+1) 0)
   else .ask (gg p (n - 1)) (gg p n) fun d=>if d=true then .ret (p,n,0) else kas_desc f p (n+1) (0+1)):=rfl
  rw [e]
  cases c:lt (gg p n) (gg p (n - 1)) with
  | true =>
   rw [if_pos rfl,if_neg (by omega)]
   obtain ⟨m,a1,a2,a3,a4⟩:=zCV O P f (n+1) (by omega) (by omega) (u.more O P h1 (by omega) c)
   exact ⟨m,a1,by omega,by omega,a4⟩
  | false =>
   rw [if_neg (by simp)]
   have c':=O.flip (P.lt (by omega)) (P.lt (by omega)) (P.ne (by omega) (by omega) (by omega)) c
   have e2:ev lt (.ask (gg p (n - 1)) (gg p n) fun d=>if d=true then KasT.ret (p,n,0) else kas_desc f p (n+1) (0+1))=ev lt (if lt (gg p (n - 1)) (gg p n)=true then KasT.ret (p,n,0) else kas_desc f p (n+1) (0+1)):=rfl
   rw [e2,c',if_pos rfl]
   exact ⟨n,rfl,Nat.le_refl _,by omega,u⟩
theorem zFP {m k:Nat} (hm:m<=p.size):gg (kas_rev p 0 m) k=if k < m then gg p (m - 1 - k) else gg p k:=by
 have e:=getElem?_mirror_all (i:=0) hm k
 have e0:∀ (q:Array Nat) (x:Nat),gg q x=(q[x]?).getD 0:=fun q x=>by simp [gg]
 rw [e0,e0,e0]
 show ((mirror p 0 m ((m - 0) / 2))[k]?).getD 0=_
 rw [e]
 by_cases h:k < m
 ·rw [if_pos ⟨Nat.zero_le _,h⟩,if_pos h]
  simp
 ·rw [if_neg (fun z=>h z.2),if_neg h]
theorem zJY (P:Pm p N) {m:Nat} (hm:m<=N) (d:Dn lt p m):Up lt (kas_rev p 0 m) m:=by
 intro i j hij hj
 have hs:m<=p.size:=by rw [P.size]; exact hm
 rw [zFP hs,zFP hs,if_pos (by omega),if_pos hj]
 exact d _ _ (by omega) (by omega)
theorem zCW (P:Pm p N) (i j:Nat):Pm (kas_rev p i j) N:=P.perm (mirror_perm p i j _)
theorem zFQ (O:TotalOn lt N) (P:Pm p N) (h2:2<=N):∃ m q,ev lt (kas_count N p)=(m,q)/\1<=m/\m<=N/\Pm q N/\Up lt q m:=by
 obtain ⟨a1,a2,a3,a4⟩:=zBP O P (N - 1) 1 (Nat.le_refl _) (by omega) zFN
 unfold kas_count
 rw [zAP]
 generalize hn:ev lt (kas_asc p (N - 1) 1)=n at a1 a2 a3 a4
 by_cases e1:(n == N)=true
 ·rw [if_pos e1]
  exact ⟨n,p,rfl,a1,by omega,P,a3⟩
 ·rw [if_neg e1]
  have hne:n≠N:=by simpa using e1
  by_cases e2:n > 1
  ·rw [if_pos e2]
   have c:lt (gg p 0) (gg p (n - 1))=true:=a3 0 (n - 1) (by omega) (by omega)
   have e3:ev lt (KasT.ask (p.getD 0 0) (p.getD (n - 1) 0) fun c=>if c=true then KasT.ret (n,p) else kas_descPart n N (kas_rev p 0 n))=ev lt (if lt (gg p 0) (gg p (n - 1))=true then KasT.ret (n,p) else kas_descPart n N (kas_rev p 0 n)):=rfl
   rw [e3,c,if_pos rfl]
   exact ⟨n,p,rfl,a1,by omega,P,a3⟩
  ·rw [if_neg e2]
   have e:n=1:=by omega
   subst e
   have c:=a4 (by omega)
   have d2:Dn lt p 2:=fun i j hij hj=>by
    have:i=0:=by omega
    have:j=1:=by omega
    subst i; subst j; exact c
   obtain ⟨m,b1,b2,b3,b4⟩:=zCV O P (N - 2) 2 (by omega) (by omega) d2
   unfold kas_descPart
   rw [zAP]
   have b1':ev lt (kas_desc (N - (1+1)) p (1+1) 0)=(p,m,0):=b1
   rw [b1']
   dsimp only
   rw [if_neg (by omega)]
   unfold kas_tail3
   rw [zAP]
   obtain ⟨c1,c2,c3,_⟩:=zBP O (zCW P 0 m) (N - m) m (by omega) (by omega) (zJY P (by omega) b4)
   exact ⟨_,_,rfl,by omega,by omega,zCW P 0 m,c3⟩
theorem zJZ (O:TotalOn lt N) (P:Pm p N) (h2:2<=N):vS lt N (kas_count N p):=by
 obtain ⟨a1,a2,a3,a4⟩:=zBP O P (N - 1) 1 (Nat.le_refl _) (by omega) zFN
 unfold kas_count
 refine zAQ _ (zCU P _ _ (Nat.le_refl _) (by omega)) ?_
 generalize hn:ev lt (kas_asc p (N - 1) 1)=n at a1 a2 a3 a4
 by_cases e1:(n == N)=true
 ·rw [if_pos e1]; trivial
 ·rw [if_neg e1]
  have hne:n≠N:=by simpa using e1
  by_cases e2:n > 1
  ·rw [if_pos e2]
   have c:lt (gg p 0) (gg p (n - 1))=true:=a3 0 (n - 1) (by omega) (by omega)
   refine ⟨P.lt (by omega),P.lt (by omega),P.ne (by omega) (by omega) (by omega),?_⟩
   show vS lt N (if lt (gg p 0) (gg p (n - 1))=true then KasT.ret (n,p) else kas_descPart n N (kas_rev p 0 n))
   rw [c,if_pos rfl]
   trivial
  ·rw [if_neg e2]
   have e:n=1:=by omega
   subst e
   have c:=a4 (by omega)
   have d2:Dn lt p 2:=fun i j hij hj=>by
    have:i=0:=by omega
    have:j=1:=by omega
    subst i; subst j; exact c
   obtain ⟨m,b1,b2,b3,b4⟩:=zCV O P (N - 2) 2 (by omega) (by omega) d2
   unfold kas_descPart
   refine zAQ _ (zFO O P _ _ (by omega) (by omega)) ?_
   have b1':ev lt (kas_desc (N - (1+1)) p (1+1) 0)=(p,m,0):=b1
   rw [b1']
   dsimp only
   rw [if_neg (by omega)]
   unfold kas_tail3
   exact zAQ _ (zCU (zCW P 0 m) _ _ (by omega) (by omega)) trivial
theorem zCX (P:Pm p N) {k:Nat} (hk:k < N):∀ (f l r:Nat),r<=k->vS lt N (kas_place p k f l r)
 | 0,l,r,_=>trivial
 | f+1,l,r,h=>by
  show vS lt N (if l >= r then KasT.ret l else .ask (p.getD k 0) (p.getD ((l+r) / 2) 0) fun c=>if c=true then kas_place p k f l ((l+r) / 2) else kas_place p k f ((l+r) / 2+1) r)
  by_cases hlr:l >= r
  ·rw [if_pos hlr]; trivial
  ·rw [if_neg hlr]
   refine ⟨P.lt hk,P.lt (by omega),P.ne hk (by omega) (by omega),?_⟩
   show vS lt N (if lt (gg p k) (gg p ((l+r) / 2))=true then kas_place p k f l ((l+r) / 2) else kas_place p k f ((l+r) / 2+1) r)
   split
   ·exact zCX P hk f l _ (by omega)
   ·exact zCX P hk f _ r h
theorem zCY (O:TotalOn lt N) (P:Pm p N) {k:Nat} (hk:k < N) (u:Up lt p k):∀ (f l r:Nat),l<=r->r<=k->r - l<=f->(∀ i,i < l->lt (gg p i) (gg p k)=true)->(∀ i,r<=i->i < k->lt (gg p k) (gg p i)=true) ->
  ev lt (kas_place p k f l r)<=k/\(∀ i,i < ev lt (kas_place p k f l r)->lt (gg p i) (gg p k)=true)/\∀ i,ev lt (kas_place p k f l r)<=i->i < k->lt (gg p k) (gg p i)=true
 | 0,l,r,h1,h2,h3,a,b=>by
  have:l=r:=by omega
  subst this
  exact ⟨h2,a,b⟩
 | f+1,l,r,h1,h2,h3,a,b=>by
  have e:ev lt (kas_place p k (f+1) l r)=ev lt (if l >= r then KasT.ret l else .ask (p.getD k 0) (p.getD ((l+r) / 2) 0) fun c=>if c=true then kas_place p k f l ((l+r) / 2) else kas_place p k f ((l+r) / 2+1) r):=rfl
  rw [e]
  by_cases hlr:l >= r
  ·rw [if_pos hlr]
   have:l=r:=by omega
   subst this
   exact ⟨h2,a,b⟩
  ·rw [if_neg hlr]
   have e2:ev lt (KasT.ask (p.getD k 0) (p.getD ((l+r) / 2) 0) fun c=>if c=true then kas_place p k f l ((l+r) / 2) else kas_place p k f ((l+r) / 2+1) r)=ev lt (if lt (gg p k) (gg p ((l+r) / 2))=true then kas_place p k f l ((l+r) / 2) else kas_place p k f ((l+r) / 2+1) r):=rfl
   rw [e2]
   generalize hm:(l+r) / 2=m
   have m1:l<=m:=by omega
   have m2:m < r:=by omega
   cases c:lt (gg p k) (gg p m) with
   | true =>
    rw [if_pos rfl]
    refine zCY O P hk u f l m m1 (by omega) (by omega) a fun i hi hik=>?_
    by_cases e3:i=m
    ·subst e3; exact c
    ·exact O.tr _ _ _ (P.lt hk) (P.lt (by omega)) (P.lt (by omega)) c (u m i (by omega) hik)
   | false =>
    rw [if_neg (by simp)]
    have c':=O.flip (P.lt hk) (P.lt (by omega)) (P.ne hk (by omega) (by omega)) c
    refine zCY O P hk u f (m+1) r (by omega) h2 (by omega) (fun i hi=>?_) b
    by_cases e3:i=m
    ·subst e3; exact c'
    ·exact O.tr _ _ _ (P.lt (by omega)) (P.lt (by omega)) (P.lt hk) (u i m (by omega) (by omega)) c'
theorem zFR {k d x:Nat} (hk:k < p.size) (hd:d<=k):gg (bubble p k d) x=if x=k - d then gg p k else if k - d < x/\x<=k then gg p (x - 1) else gg p x:=by
 have e:=getElem?_bubble hk d hd x
 have e0:∀ (q:Array Nat) (x:Nat),gg q x=(q[x]?).getD 0:=fun q x=>by simp [gg]
 rw [e0,e0,e0,e0,e]
 split
 ·rfl
 ·split <;> rfl
theorem zFS (O:TotalOn lt N):∀ (f:Nat) (p:Array Nat) (k:Nat),Pm p N->k+f=N->Up lt p k->Pm (ev lt (kas_bin f p k)) N/\Up lt (ev lt (kas_bin f p k)) N
 | 0,p,k,P,e,u=>by
  have:k=N:=by omega
  subst this
  exact ⟨P,u⟩
 | f+1,p,k,P,e,u=>by
  have e1:kas_bin (f+1) p k=(kas_place p k k 0 k).bind fun l=>kas_bin f (bubble p k (k - l)) (k+1):=rfl
  rw [e1,zAP]
  have hk:k < N:=by omega
  obtain ⟨a1,a2,a3⟩:=zCY O P hk u k 0 k (Nat.zero_le _) (Nat.le_refl _) (by omega) (fun i hi=>by omega) (fun i h1 h2=>by omega)
  generalize ev lt (kas_place p k k 0 k)=l at a1 a2 a3
  have hs:k < p.size:=by rw [P.size]; exact hk
  refine zFS O f _ (k+1) (P.perm (bubble_perm p k _)) (by omega) fun i j hij hj=>?_
  rw [zFR hs (by omega),zFR hs (by omega)]
  have ekl:k - (k - l)=l:=by omega
  rw [ekl]
  by_cases h1:i=l
  ·rw [if_pos h1,if_neg (by omega),if_pos (by omega)]
   exact a3 _ (by omega) (by omega)
  ·rw [if_neg h1]
   by_cases h2:l < i/\i<=k
   ·rw [if_pos h2,if_neg (by omega),if_pos (by omega)]
    exact u _ _ (by omega) (by omega)
   ·rw [if_neg h2]
    by_cases h3:j=l
    ·rw [if_pos h3]
     exact a2 i (by omega)
    ·rw [if_neg h3]
     by_cases h4:l < j/\j<=k
     ·rw [if_pos h4]
      by_cases h5:i=j - 1
      ·omega
      ·exact u _ _ (by omega) (by omega)
     ·rw [if_neg h4]
      exact u _ _ hij (by omega)
theorem zFT (O:TotalOn lt N):∀ (f:Nat) (p:Array Nat) (k:Nat),Pm p N->k+f=N->vS lt N (kas_bin f p k)
 | 0,p,k,P,e=>trivial
 | f+1,p,k,P,e=>by
  show vS lt N ((kas_place p k k 0 k).bind fun l=>kas_bin f (bubble p k (k - l)) (k+1))
  exact zAQ _ (zCX P (by omega) _ _ _ (Nat.le_refl _)) (zFT O f _ (k+1) (P.perm (bubble_perm p k _)) (by omega))
theorem zJa (O:TotalOn lt N) (h2:2<=N):vS lt N (kas_sort N):=by
 have P0:Pm (List.toArray (List.range N)) N:=List.Perm.refl _
 obtain ⟨m,q,e,m1,m2,Pq,uq⟩:=zFQ O P0 h2
 unfold kas_sort
 refine zAQ _ (zJZ O P0 h2) ?_
 rw [e]
 dsimp only
 by_cases hm:m < N
 ·rw [if_pos hm]
  have em:max m 1=m:=by omega
  rw [em]
  exact zFT O (N - m) q m Pq (by omega)
 ·rw [if_neg hm]; trivial
theorem zJb (O:TotalOn lt N) (h2:2<=N):Pm (ev lt (kas_sort N)) N/\Up lt (ev lt (kas_sort N)) N:=by
 have P0:Pm (List.toArray (List.range N)) N:=List.Perm.refl _
 obtain ⟨m,q,e,m1,m2,Pq,uq⟩:=zFQ O P0 h2
 unfold kas_sort
 rw [zAP,e]
 dsimp only
 by_cases hm:m < N
 ·rw [if_pos hm]
  have em:max m 1=m:=by omega
  rw [em]
  exact zFS O (N - m) q m Pq (by omega) uq
 ·rw [if_neg hm]
  have:m=N:=by omega
  subst this
  exact ⟨Pq,uq⟩
end
end MyS
end
section
namespace MyS
open PySem PySem.W PyProof.Rows PySem.Spec
theorem zFU {α:Type}{N:Nat}{cmp:Nat->Nat->(Bool->Shared->Prop)->Shared->Prop}{lt:Nat->Nat->Bool}{s:Shared} (hc:∀ i j,i < N->j < N->i≠j->∀ C,C (lt i j) s->cmp i j C s) :
  ∀ (t:KasT α) (Q:α->Shared->Prop),vS lt N t->Q (ev lt t) s->t.kasWp cmp Q s
 | .ret a,Q,_,h=>h
 | .ask i j k,Q,o,h=>hc i j o.1 o.2.1 o.2.2.1 _ (zFU hc (k (lt i j)) Q o.2.2.2 h)
def jX (ks:List Str) (i:Nat):List Nat:=(ks.getD i ⟨#[]⟩).cps.toList
def kS (ks:List Str) (i j:Nat):Bool:=decide (jX ks i < jX ks j)
theorem Str_ext {a b:Str} (h:a.cps.toList=b.cps.toList):a=b:=by
 cases a; cases b
 congr 1
 exact Array.toList_inj.mp h
theorem zJc (a b:List Nat) (h1:¬ a < b) (h2:¬ b < a):a=b:=by
 have h1':b<=a:=List.not_lt.mp h1
 have h2':a<=b:=List.not_lt.mp h2
 exact List.le_antisymm h2' h1'
theorem zJd {ks:List Str} (nd:ks.Nodup):TotalOn (kS ks) ks.length where
 irr:=fun i _=>by simp [kS,List.lt_irrefl]
 tr:=fun i j k _ _ _ h1 h2=>by
  simp only [kS,decide_eq_true_eq] at *
  exact List.lt_trans h1 h2
 tot:=fun i j hi hj hne=>by
  simp only [kS,decide_eq_true_eq]
  by_cases h1:jX ks i < jX ks j
  ·exact .inl h1
  ·by_cases h2:jX ks j < jX ks i
   ·exact .inr h2
   ·exfalso
    have e:=zJc _ _ h1 h2
    unfold jX at e
    have e':=Str_ext e
    have e1:ks.getD i ⟨#[]⟩=ks[i]:=by simp [hi]
    have e2:ks.getD j ⟨#[]⟩=ks[j]:=by simp [hj]
    rw [e1,e2] at e'
    exact hne ((List.getElem_inj nd).mp e')
section
variable {prog:Program}{w:World}{A:Around}{E:Value->Shared->Prop}{s:Shared}
end
section
variable {prog:Program}{w:World}{A:Around}{E:Value->Shared->Prop}{s:Shared}
theorem zJe {κ:SortKind}{a:Addr}{vs:List Value}{ks:List Str}{n:Nat}{P:PySem.Fin->Shared->Prop} (ho:s.heap.get? a=some (seqObj "list" vs.toArray n)) (hl:ks.length=vs.length) (nd:ks.Nodup) (h64:vs.length < 64)
  (hK:∀ G,(∀ b o,b≠a->s.heap.get? b=some o->G.get? b=some o)->2<=vs.length->∀ (Q:SortKind->Shared->Prop) (E':Value->Shared->Prop),Q κ { s with heap:=G }->wpAny (model prog w) A (keyKind' vs.toArray) Q E' { s with heap:=G })
  (hC:∀ G,(∀ b o,b≠a->s.heap.get? b=some o->G.get? b=some o)->∀ i j,i < vs.length->j < vs.length->i≠j->∀ C,C (kS ks i j) { s with heap:=G }->kas_ask prog w A κ vs i j C { s with heap:=G })
  (h:∀ (p:List Nat) (h':Heap) (e:Nat),p.Perm (List.range vs.length)->(p.map (jX ks)).Pairwise (· < ·)->(∀ b o,b≠a->s.heap.get? b=some o->h'.get? b=some o) ->
   h'.get? a=some (seqObj "list" (p.map fun i=>vs.getD i Value.none).toArray e)->P (.done (.ret .none)) { s with heap:=h' }) :
  wpAny (model prog w) A (Builtin.«list.sort» ⟨[.ref a],[]⟩) P E s:=by
 have ha:a < s.heap.objs.size:=Heap.lt_size ho
 rw [list_sort_plain]
 refine wpAny_bind (listItems_at ho rfl ?_)
 refine wpAny_bind (listUpdate_at ho rfl ?_ (by rw [List.size_toArray,sizeLine_eq]; omega) (Nat.zero_le _))
 obtain ⟨e1,ho1⟩:∃ e1,(s.heap.update a (Obj.mapSeq fun _=>(#[]:Array Value))).get? a=some (seqObj "list" #[] e1):=⟨_,get?_update_seq ho fun _=>#[]⟩
 refine wpAny_bind (seqEpoch_at ho1 rfl ?_)
 refine wpAny_bind (wpAny_newTuple ?_ (by rw [sizeLine_eq]; simp; omega))
 refine wpAny_bind (wpAny_newList ?_ (by simp))
 refine wpAny_holding ?_
 show wpAny (model prog w) A _ P E { s with heap:=((s.heap.update a (Obj.mapSeq fun _=>#[])).push (seqObj "tuple" vs.toArray 0)).push (seqObj "list" #[] 0) }
 generalize hG:((s.heap.update a (Obj.mapSeq fun _=>(#[]:Array Value))).push (seqObj "tuple" vs.toArray 0)).push (seqObj "list" #[] 0)=G
 have hG1:G.get? a=some (seqObj "list" #[] e1):=by
  rw [<- hG]
  exact Heap.get?_push_of_some _ (Heap.get?_push_of_some _ ho1)
 have hG2:∀ b o,b≠a->s.heap.get? b=some o->G.get? b=some o:=fun b o hb e=>by
  rw [<- hG]
  exact Heap.get?_push_of_some _ (Heap.get?_push_of_some _ ((Heap.get?_update_other _ _ (Ne.symm hb)).trans e))
 have hsz:vs.toArray.size=vs.length:=by simp
 have fin:∀ (p:List Nat) (out:Array Value) (hout:out=(p.map fun i=>vs.getD i Value.none).toArray),p.Perm (List.range vs.length)->(p.map (jX ks)).Pairwise (· < ·) ->
   P (.done (.ret .none)) { s with heap:=G.update a (Obj.mapSeq fun _=>out) }:=fun p out hout h1 h2=>by
  subst hout
  have e3:=get?_update_seq hG1 fun _=>(p.map fun i=>vs.getD i Value.none).toArray
  exact h p _ _ h1 h2 (fun b o hb e=>(Heap.get?_update_other _ _ (Ne.symm hb)).trans (hG2 b o hb e)) e3
 dsimp only
 by_cases h2:vs.toArray.size < 2
 ·rw [if_pos h2,if_pos h2]
  refine wpAny_bind (wpAny_pure ?_)
  rw [StateT.run_pure]
  refine wpAny_bind (wpAny_pure ?_)
  dsimp only
  refine wpAny_bind (seqEpoch_at hG1 rfl ?_)
  refine wpAny_bind (listUpdate_at hG1 rfl ?_ (by simp) (by
   show ((vs.toArray.zip vs.toArray).map (·.2)).size<=sizeLine+1
   rw [sizeLine_eq]; simp; omega))
  simp only [bne_self_eq_false,Bool.false_eq_true,if_false]
  refine wpAny_pure (fin (List.range vs.length) _ ?_ (List.Perm.refl _) ?_)
  ·show (vs.toArray.zip vs.toArray).map (·.2)=_
   match vs,h2 with
   | [],_=>simp
   | [v],_=>simp [List.range_succ]
   | _::_::_,h2=>simp at h2; omega
  ·have:vs.length < 2:=by simpa using h2
   match hv:vs.length,this with
   | 0,_=>simp
   | 1,_=>simp [List.range_succ]
 ·rw [if_neg h2,if_neg h2]
  have h2':2<=vs.length:=by simpa using h2
  refine wpAny_bind (hK G hG2 h2' _ _ ?_)
  show wpAny _ _ (StateT.run sortRuns' (SortSt.mk' κ (vs.toArray.zip vs.toArray) #[] 7 none) >>= _) _ _ _
  have O:=zJd nd
  rw [hl] at O
  obtain ⟨so1,so2⟩:=zJb O h2'
  refine wpAny_bind (wpAny_mono (kat_run (ks:=vs) (vs:=vs) (Q:=fun st' s'=>s'={ s with heap:=G }/\failedOf st'=none/\∃ p:Array Nat,Pm p vs.length/\Up (kS ks) p vs.length/\arrOf st'=p.map (kas_item (vs.toArray.zip vs.toArray)))
   (G:=fun p s'=>s'={ s with heap:=G }/\Pm p vs.length/\Up (kS ks) p vs.length) rfl h2' h64 (fun p st' s' _ q1 q2 q3=>⟨q3.1,q2,p,q3.2.1,q3.2.2,q1⟩) ?_) ?_ fun _ _ e=>e)
  ·refine zFU (N:=vs.length) (lt:=kS ks) (fun i j hi hj hij C hC'=>?_) _ _ (zJa O h2') ⟨rfl,so1,so2⟩
   exact hC G hG2 i j hi hj hij C hC'
  ·rintro ⟨⟨⟩,st'⟩ s' ⟨rfl,hf,p,q1,q2,q3⟩
   dsimp only
   have hout:=kat_snds (ks:=vs) (vs:=vs) rfl q3
   refine wpAny_bind (seqEpoch_at hG1 rfl ?_)
   refine wpAny_bind (listUpdate_at hG1 rfl ?_ (by simp) (by
    rw [hout,List.size_toArray,List.length_map,sizeLine_eq]
    have:=q1.size
    simp
    omega))
   rw [hf]
   simp only [bne_self_eq_false,Bool.false_eq_true,if_false]
   refine wpAny_pure (fin p.toList _ hout q1 ?_)
   rw [List.pairwise_map,List.pairwise_iff_getElem]
   intro i j hi hj hij
   have hi':i < p.size:=by simpa using hi
   have hj':j < p.size:=by simpa using hj
   have:=q2 i j hij (by rw [<- q1.size]; exact hj')
   rw [zAq hi',zAq hj'] at this
   simpa [kS] using this
end
section
variable {prog:Program}{w:World}{A:Around}{E:Value->Shared->Prop}{s:Shared}
theorem sort_strs {a:Addr}{vs:List Value}{ks:List Str}{n:Nat}{P:PySem.Fin->Shared->Prop} (ho:s.heap.get? a=some (seqObj "list" vs.toArray n)) (hS:StrsAre vs ks) (nd:ks.Nodup) (h64:vs.length < 64)
  (h:∀ (p:List Nat) (h':Heap) (e:Nat),p.Perm (List.range vs.length)->(p.map (jX ks)).Pairwise (· < ·)->(∀ b o,b≠a->s.heap.get? b=some o->h'.get? b=some o) ->
   h'.get? a=some (seqObj "list" (p.map fun i=>vs.getD i Value.none).toArray e)->P (.done (.ret .none)) { s with heap:=h' }) :
  wpAny (model prog w) A (Builtin.«list.sort» ⟨[.ref a],[]⟩) P E s:=by
 have hlen:ks.length=vs.length:=by rw [<- hS.strs]; simp
 have hget:∀ i,i < vs.length->∃ t,vs.getD i Value.none=.str (ks.getD i ⟨#[]⟩) t:=fun i hi=>by
  obtain ⟨x,t,e⟩:=hS.all vs[i] (List.getElem_mem hi)
  refine ⟨t,?_⟩
  have e1:vs.getD i Value.none=vs[i]:=by simp [hi]
  have e2:ks.getD i ⟨#[]⟩=x:=by
   rw [<- hS.strs,List.getD_eq_getElem?_getD,List.getElem?_map,List.getElem?_eq_getElem hi,e]; rfl
  rw [e1,e2,e]
 refine zJe (κ:=oneType') ho hlen nd h64 (fun G hG h2 Q E' hQ=>?_) (fun G hG i j hi hj hij C hC=>?_) h
 ·obtain ⟨v₁,v₂,vY,rfl⟩:∃ v₁ v₂ vY,vs=v₁::v₂::vY:=by
   match vs,h2 with
   | v₁::v₂::vY,_=>exact ⟨v₁,v₂,vY,rfl⟩
  rw [keyKind_strs hS]
  exact wpAny_pure hQ
 ·obtain ⟨t,e⟩:=hget i hi
  obtain ⟨t',e'⟩:=hget j hj
  unfold kas_ask
  rw [e,e',keyLt'_oneType]
  exact strKind_oneLt prog w A _ _ _ _ _ _ rfl rfl hC
end
end MyS
end
section
namespace L2
open PySem PySem.Spec PyProof.Rows
def jD (H:Hp) (news:List (Addr × HO)):Hp:=fun b=>match news.lookup b with
 | some o=>some o
 | none=>H b
theorem zCZ {H:Hp}{news:List (Addr × HO)}{b:Addr} (h:b ∉ news.map (·.1)):jD H news b=H b:=by
 unfold jD
 have:news.lookup b=none:=by
  induction news with
  | nil=>rfl
  | cons p r ih =>
   rw [List.map_cons,List.mem_cons,not_or] at h
   have hb:(b == p.1)=false:=by simpa using h.1
   obtain ⟨x,y⟩:=p
   rw [List.lookup_cons,hb]
   exact ih h.2
 rw [this]
theorem zJf {H:Hp}{news:List (Addr × HO)}{b:Addr}{o:HO} (h:jD H news b=some o):(b,o)∈news\/(b ∉ news.map (·.1)/\H b=some o):=by
 by_cases hb:b∈news.map (·.1)
 ·left
  unfold jD at h
  cases e:news.lookup b with
  | some u =>
   rw [e] at h
   have:u=o:=Option.some.inj h
   subst this
   clear h hb
   induction news with
   | nil=>cases e
   | cons p r ih =>
    obtain ⟨x,y⟩:=p
    rw [List.lookup_cons] at e
    cases hx:b == x with
    | true =>
     rw [hx] at e
     have e1:b=x:=by simpa using hx
     have e2:y=u:=Option.some.inj e
     subst e1; subst e2
     exact List.mem_cons_self ..
    | false =>
     rw [hx] at e
     exact List.mem_cons_of_mem _ (ih e)
  | none =>
   exfalso
   clear h
   induction news with
   | nil=>cases hb
   | cons p r ih =>
    obtain ⟨x,y⟩:=p
    rw [List.lookup_cons] at e
    cases hx:b == x with
    | true=>rw [hx] at e; cases e
    | false =>
     rw [hx] at e
     rw [List.map_cons,List.mem_cons] at hb
     rcases hb with z | z
     ·have:(b == x)=true:=by simpa using z
      rw [this] at hx; cases hx
     ·exact ih z e
 ·rw [zCZ hb] at h
  exact .inr ⟨hb,h⟩
theorem zJg {H:Hp}{news:List (Addr × HO)} (hn:∀ p∈news,H p.1=none):zB H (jD H news):=fun b o e=>by
 rw [zCZ fun z=>?_]
 ·exact e
 ·obtain ⟨p,hp,rfl⟩:=List.mem_map.mp z
  rw [hn p hp] at e; cases e
theorem yM.obj {P:Program}{w:World}{H:Hp}{h:Heap}{a:Addr}{o:HO} (x:yM P w H h a o):∃ u,h.get? a=some u:=by
 cases o with
 | lst xs=>obtain ⟨_,_,_,_,e⟩:=x; exact ⟨_,e⟩
 | tup xs=>obtain ⟨_,_,_,_,e,_⟩:=x; exact ⟨_,e⟩
 | dK kvs=>obtain ⟨_,_,_,_,o,_,_,e,_⟩:=x; exact ⟨_,e⟩
 | dT kvs=>obtain ⟨_,_,_,_,o,_,_,e,_⟩:=x; exact ⟨_,e⟩
 | set S n=>obtain ⟨o,_,_,_,e,_⟩:=x; exact ⟨_,e⟩
 | ins C dx fs=>obtain ⟨_,_,_,e,_⟩:=x; exact ⟨_,e⟩
 | own y=>exact x
 | xd fs=>obtain ⟨_,⟨_,_,_,e,_⟩,_⟩:=x; exact ⟨_,e⟩
 | rng lo hi=>obtain ⟨_,_,_,e⟩:=x; exact ⟨_,e⟩
 | frz ob u=>obtain ⟨e,_⟩:=x; exact ⟨_,e⟩
 | tbl ps=>exact ⟨_,(show h.get? a=some _ from x)⟩
 | met f y=>exact ⟨_,(show h.get? a=some _ from x)⟩
 | ext φ=>obtain ⟨_,e,_⟩:=x; exact e
theorem zZ.free {P:Program}{w:World}{H:Hp}{h:Heap}{a:Addr} (x:zZ P w H h) (e:h.get? a=none):H a=none:=by
 cases q:H a with
 | none=>rfl
 | some u =>
  obtain ⟨v,hv⟩:=(x a u q).obj
  rw [hv] at e; cases e
section
variable {X:Cx}{pins:List (Addr × Obj)}{σ:St}{H:Hp}{s:Shared}
theorem Inv.many {h':Heap}{t':Nat}{news:List (Addr × HO)} (I:Inv X pins σ H s) (k:∀ b u,s.heap.get? b=some u->h'.get? b=some u) (hge:∀ p∈news,s.heap.get? p.1=none)
  (new:∀ p∈news,yM X.prog X.w (jD H news) h' p.1 p.2):Inv X pins σ (jD H news) { s with heap:=h',toks:=t' }:=by
 have hn:∀ p∈news,H p.1=none:=fun p hp=>I.hok.free (hge p hp)
 have sm:=zJg hn
 have hold:∀ b (o:Obj),s.heap.get? b=some o->jD H news b=H b:=fun b o e=>zCZ fun z=>by
  obtain ⟨p,hp,rfl⟩:=List.mem_map.mp z
  rw [hge p hp] at e; cases e
 refine I.un (H':=jD H news) ⟨fun b o e _ _ _=>k b o e,fun b o e _ _ _=>⟨o.slots,k b o e⟩,fun b o e n _=>by rw [hold b o e]; exact n,fun b o e _=>⟨o,k b o e⟩,fun b xs e=>sm b _ e,fun b o u e=>sm b _ e,fun b ps e=>⟨#[],by rw [sm b _ e]; simp⟩⟩ fun b u e=>?_
 rcases zJf e with z | ⟨_,z⟩
 ·exact new (b,u) z
 ·exact (I.hok b u z).stay (fun c v _ q=>k c v q) (fun c q=>sm c _ q) fun c xs q=>sm c _ q
end
def zFV (d:Addr):Obj:={ cls:=.type "dict_items",data:=.fields #[.ref d] }
def VW (p d:Addr):HO:=.ext fun h=>h.get? p=some (zFV d)
section
variable {X:Cx}
def zJh:V->List V->Hp->VK->Prop:=fun x vs H Q=>∃ d kvs,x=.ref d/\vs=[]/\H d=some (.dK kvs)/\∀ p,H p=none->Q (.ref p) (upd H p (VW p d))
theorem zJi:gU X "dict.items" zJh:=by
 intro pins s σ H x vs v us Q I rx rv h
 obtain ⟨d,kvs,rfl,rfl,hd,q⟩:=h
 cases rx
 have hus:=rv.zero
 subst hus
 obtain ⟨z,hm,ws,rel,dd⟩:=zAN I.hok hd
 refine call_meetsIn PySem.F.slot_dict_items dd.typeIs PySem.F.entry_dict_items (PySem.F.args_dict_items_1 _) (meets_dict_items (uA X.prog X.w) d hm) ⟨⟨_,dd⟩,?_⟩
 refine ⟨.ref s.heap.objs.size,_,I.laid (t':=s.toks) (o:=VW s.heap.objs.size d) (fun b o e=>Heap.get?_push_of_some _ e) (Nat.le_refl _) ?_,rfl,q _ (I.hok.fresh (Nat.le_refl _))⟩
 exact ⟨Heap.get?_push_size _ rfl,⟨_,Heap.get?_push_size _ rfl⟩,fun h1 h2 e k=>k _ e⟩
abbrev jE (kvs:List (Str × V)):List (zU × V):=kvs.map fun q=>(Sum.inr q.1,q.2)
theorem KV.get {kvs:List (zU × V)}{vs:List (zU × Value)}:∀ {i:Nat}{k:zU}{x:Value},KV kvs vs->vs[i]?=some (k,x)->∃ v,kvs[i]?=some (k,v)/\zQ v x:=by
 intro i k x r
 induction r generalizing i with
 | nil=>intro e; simp at e
 | cons h t ih =>
  intro e
  cases i with
  | zero =>
   have e':=Option.some.inj (by simpa using e)
   rename_i p q _ _
   obtain ⟨p1,p2⟩:=p
   subst e'
   have h1:p1=k:=h.1
   subst h1
   exact ⟨p2,rfl,h.2⟩
  | succ i =>
   obtain ⟨v,e1,e2⟩:=ih (by simpa using e)
   exact ⟨v,by simpa using e1,e2⟩
end
end L2
end
section
namespace L2
open PySem PySem.Spec PyProof.Rows
def Its (z:Str):It:=⟨fun i _=>i < z.cps.size,fun i H x H'=>H'=H/\∃ c,z.cps[i]?=some c/\x=.str ⟨#[c]⟩,fun i _=>i=z.cps.size⟩
theorem zFW {P:Program}{w:World}{K:PySem.W.Frag}{tg:Expr} (it:Addr) (z:Str) (t:Tok) (ty:String) (hno:["enumerate", "zip", "dict_itemiterator", "dict_reverseitemiterator", "odict_iterator", "itertools.zip_longest", "itertools.pairwise"].contains ty=false)
  (hW:∀ A:Around,A.handled=none->Walks P w A it [it] [it] z.cps.size (SignAt z) (fun i h=>h.IsStrIter it ty z t i))
  (hS:∀ (A:Around) (i:Nat) (s:Shared) (Q:Value->Shared->Prop) (E:Value->Shared->Prop),s.heap.IsStrIter it ty z t i->Q (.ref it) s->wpAny (model P w) A (pyIter (.ref it)) Q E s):Turn P w K tg (Its z) [it] it (fun i h=>h.IsStrIter it ty z t i) where
 mem:=by simp
 obj:=fun i h st b hb=>by
  have e:b=it:=by simpa using hb
  subst e
  obtain ⟨o,e,c,d⟩:=st
  exact ⟨o,e,fun v z=>by rw [d] at z; cases z⟩
 keep:=fun i h h' st k=>let ⟨o,e,r⟩:=st; ⟨o,k it (by simp) o e,r⟩
 item:=by
  intro X hP hw hK hc i pins s σ H E I hf st hg
  subst hP hw hK
  obtain ⟨f0,f1,f2,f3,f4,f5⟩:=hf it (by simp)
  refine (hW X.A (I.ok.hd hc)).item i s _ _ hg st fun v h' tk hv st' kk=>?_
  obtain ⟨c,u,hcu,rfl⟩:=hv
  have I1:Inv X pins σ H { s with heap:=h',toks:=tk }:=I.turned (fun b o hb e=>kk b o (by simpa using hb) e) f0 f1 f3 f4 f5
  obtain ⟨o,e,oc,od⟩:=id st'
  exact ⟨_,rfl,zAh (s:={ s with heap:=h',toks:=tk }) e oc od hno ⟨.str ⟨#[c]⟩,H,I1,⟨u,rfl⟩,⟨rfl,c,hcu,rfl⟩,st',fun b hb=>(hf b hb).1⟩⟩
 done:=by
  intro X hP hw hK hc i pins s σ H E I hf st hg
  subst hP hw hK
  obtain ⟨f0,f1,f2,f3,f4,f5⟩:=hf it (by simp)
  have hi:i=z.cps.size:=hg
  subst hi
  exact (hW X.A (I.ok.hd hc)).done s _ _ st fun h' tk kk=>⟨rfl,I.turned (fun b o hb e=>kk b o (by simpa using hb) e) f0 f1 f3 f4 f5⟩
 self:=hS
section
variable {X:Cx}{tg:Expr}
def zJj (tl:TE):TI:=fun σ H R=>tl σ H fun x H1=>∃ z,x=.str z/\R (Its z) H1
theorem zJk {l:Expr}{tl:TE} (hl:PE X l tl):PI X tg l (zJj tl):=by
 intro pins s σ H R I h
 refine zK (hl pins s σ H _ I h) fun v s1 ⟨x,H1,I1,r1,z,ez,q⟩=>?_
 subst ez
 obtain ⟨t,rfl⟩:=r1
 have hn:∀ b∈[s1.heap.objs.size],uY X pins H1 b:=fun b hb=>by
  have e:b=s1.heap.objs.size:=by simpa using hb
  subst e
  exact I1.fpOk (Nat.le_refl _) (I1.hok.fresh (Nat.le_refl _))
 cases ha:z.cps.all (· < 128) with
 | false =>
  refine wpAny_pyIter_wide ha ⟨s1.heap.objs.size,[s1.heap.objs.size],_,_,H1,rfl,I1.kept (t':=s1.toks) fun b o e=>Heap.get?_push_of_some _ e,zFW _ z t "str_iterator" (by decide) (fun A hA=>Walks.strWide hA _ z t) (fun A i s Q E st h=>wpAny_pyIter_striter_wide st h),⟨_,Heap.get?_push_size _ rfl,rfl,rfl⟩,hn,q⟩
 | true =>
  refine wpAny_pyIter_ascii ha ⟨s1.heap.objs.size,[s1.heap.objs.size],_,_,H1,rfl,I1.kept (t':=s1.toks) fun b o e=>Heap.get?_push_of_some _ e,zFW _ z t "str_ascii_iterator" (by decide) (fun A hA=>Walks.strAscii hA _ z t) (fun A i s Q E st h=>wpAny_pyIter_striter_ascii st h),⟨_,Heap.get?_push_size _ rfl,rfl,rfl⟩,hn,q⟩
end
theorem zJl (lo hi:Option Int) (n:Nat):Builtin.Str.strSliceIndices lo hi 1 n=Builtin.Str.strSliceIndices (some ((HT.sIx n 0 lo:Nat):Int)) (some ((HT.sIx n n hi:Nat):Int)) 1 n:=by
 have hl:=HT.sIx_le n 0 (Nat.zero_le _) lo
 have hh:=HT.sIx_le n n (Nat.le_refl _) hi
 have key:∀ (o:Option Int) (d:Nat),d<=n->(match o with | none=>(d:Int) | some i=>(let i:=if i < 0 then i+(n:Int) else i; max 0 (min i (n:Int))))=((HT.sIx n d o:Nat):Int):=by
  intro o d hd
  cases o with
  | none=>rfl
  | some i =>
   show max 0 (min (if i < 0 then i+(n:Int) else i) (n:Int))=(((if i < 0 then (i+(n:Int)).toNat else min i.toNat n):Nat):Int)
   by_cases h:i < 0
   ·rw [if_pos h,if_pos h]; omega
   ·rw [if_neg h,if_neg h]; omega
 have e1:=key lo 0 (Nat.zero_le _)
 have e2:=key hi n (Nat.le_refl _)
 have k1:max (0:Int) (min ((HT.sIx n 0 lo:Nat):Int) (n:Int))=((HT.sIx n 0 lo:Nat):Int):=by omega
 have k2:max (0:Int) (min ((HT.sIx n n hi:Nat):Int) (n:Int))=((HT.sIx n n hi:Nat):Int):=by omega
 have n1:¬ (((HT.sIx n 0 lo:Nat):Int) < 0):=by omega
 have n2:¬ (((HT.sIx n n hi:Nat):Int) < 0):=by omega
 unfold Builtin.Str.strSliceIndices
 simp only [show ((1:Int) > 0)=True from by simp,if_true,n1,n2,if_false,k1,k2]
 have z1:∀ i:Int,(max 0 (min (if i < 0 then i+(n:Int) else i) (n:Int)))=((HT.sIx n 0 (some i):Nat):Int):=fun i=>key (some i) 0 (Nat.zero_le _)
 have z2:∀ i:Int,(max 0 (min (if i < 0 then i+(n:Int) else i) (n:Int)))=((HT.sIx n n (some i):Nat):Int):=fun i=>key (some i) n (Nat.le_refl _)
 have w1:((HT.sIx n 0 none:Nat):Int)=0:=rfl
 have w2:((HT.sIx n n none:Nat):Int)=n:=rfl
 cases lo with
 | none =>
  cases hi with
  | none=>rfl
  | some j=>dsimp only; rw [z2,w1]
 | some i =>
  cases hi with
  | none=>dsimp only; rw [z1,w2]
  | some j =>
   dsimp only
   have zz:=z1 i
   rw [zz]
   rw [z2]
theorem zJm (x:Str) (lo hi:Option Int):Txt.slice x lo hi=⟨((x.cps.toList.drop (HT.sIx x.length 0 lo)).take (HT.sIx x.length x.length hi - HT.sIx x.length 0 lo)).toArray⟩:=by
 have hl:=HT.sIx_le x.length 0 (Nat.zero_le _) lo
 have hh:=HT.sIx_le x.length x.length (Nat.le_refl _) hi
 unfold Txt.slice
 rw [zJl lo hi]
 generalize HT.sIx x.length 0 lo=a at *
 generalize HT.sIx x.length x.length hi=b at *
 have hlen:x.cps.toList.length=x.length:=by simp [Str.length]
 by_cases hab:a<=b
 ·have sp:=StrLaws.sliced_plain x hab hh
  split
  ·rename_i h
   rw [StrLaws.strSliceIndices_plain hab hh] at h
   have h':b - a=x.length:=by simpa using h
   have ha:a=0:=by omega
   have hb:b=x.cps.toList.length:=by omega
   subst ha
   apply MyS.Str_ext
   show x.cps.toList=((x.cps.toList.drop 0).take (b - 0)).toArray.toList
   rw [List.drop_zero,Nat.sub_zero,hb,List.take_length]
  ·rw [sp]
 ·have hb:b - a=0:=by omega
  have e:Builtin.Str.strSliceIndices (some (a:Int)) (some (b:Int)) 1 x.length=[]:=by
   have h1:¬ ((a:Int) < 0):=by omega
   have h2:¬ ((b:Int) < 0):=by omega
   have e1:max (0:Int) (min (a:Int) (x.length:Int))=a:=by omega
   have e2:max (0:Int) (min (b:Int) (x.length:Int))=b:=by omega
   simp only [Builtin.Str.strSliceIndices,sliceRange,h1,h2,if_false,e1,e2,show ((1:Int) > 0)=True from by simp,if_true]
   rw [if_neg (by omega)]
   rfl
  rw [e,hb]
  split
  ·rename_i h
   have h':0=x.length:=by simpa using h
   omega
  ·simp
section
variable {X:Cx}{e:Expr}{te:TE}{lo hi:Option Expr}{tl th:TO}{pos p2:Pos}
def v5 (z:Str) (lo hi:Option Int):Str:=⟨((z.cps.toList.drop (HT.sIx z.length 0 lo)).take (HT.sIx z.length z.length hi - HT.sIx z.length 0 lo)).toArray⟩
def zJn (te:TE) (tl th:TO):TE:=fun σ H Q=>te σ H fun x H1=>tl σ H1 fun l H2=>th σ H2 fun u H3=>∃ z,x=.str z/\z.length<=sizeLine/\Q (.str (v5 z l u)) H3
theorem jF (he:PE X e te) (hl:PO X lo tl) (hu:PO X hi th):PE X (.Subscript e (.Slice lo hi none p2) pos) (zJn te tl th):=by
 intro pins s σ H Q I h
 refine Subscript_ (zK (he pins s σ H _ I h) fun v s1 ⟨x,H1,I1,r1,q1⟩=>?_)
 refine wpAny_Slice (zK (hl pins s1 σ H1 _ I1 q1) fun vl s2 ⟨l,H2,I2,pl,q2⟩=>zK (hu pins s2 σ H2 _ I2 q2) fun vu s3 ⟨u,H3,I3,pu,q3⟩=>?_)
 rw [evalPart_none]
 refine wpAny_pure ?_
 obtain ⟨z,rfl,hz,q⟩:=q3
 obtain ⟨t,rfl⟩:=r1
 have hk:KeptH (fun h=>∀ b o,s3.heap.get? b=some o->h.get? b=some o):=fun h ob hP b o q=>Heap.get?_push_of_some _ (hP b o q)
 have fin:∀ h' t' k,(∀ b o,s3.heap.get? b=some o->h'.get? b=some o)->EP X pins σ Q (.str (Txt.slice z l u) t') { s3 with heap:=h',toks:=k }:=fun h' t' k hP=>by
  refine ⟨.str (v5 z l u),H3,I3.kept hP,⟨t',?_⟩,q⟩
  rw [zJm]; rfl
 have go:ItemOn (model X.prog X.w) X.A X.xe (.str z t) (.ref s3.heap.objs.size) (EP X pins σ Q) { s3 with heap:=s3.heap.push { cls:=.type "slice",data:=.fields #[vl,vu,.none] } }:=by
  cases pl with
  | none =>
   cases pu with
   | none=>exact SBH.sliceItem_nn hk (fun _ _ q=>q) fin hz
   | int j uj=>exact SBH.sliceItem_ns hk (fun _ _ q=>q) fin hz
  | int i ui =>
   cases pu with
   | none=>exact SBH.sliceItem_sn hk (fun _ _ q=>q) fin hz
   | int j uj=>exact SBH.sliceItem_ss hk (fun _ _ q=>q) fin hz
 obtain ⟨T,id,hT,ht,hg⟩:=go
 exact tail_any (ops:=[.ref s3.heap.objs.size,.str z t]) ht hT hg (by with_unfolding_all rfl)
end
section
variable {X:Cx}
theorem zAr (hc:X.calm=true):uO X (.builtin "all") (fun xs H Q=>∃ (p:Addr) (bs:List Bool),xs=[.ref p]/\yJ X.K H p (bs.map V.bl)/\Q (.bl (bs.all id)) H):=by
 intro pins s σ H xs us Q I r h
 obtain ⟨p,bs,rfl,hq,q⟩:=h
 obtain ⟨u,rfl,ru⟩:=qJ r
 cases ru
 obtain ⟨its,rv,pl,hz⟩:=I.list hq
 have hp:p≠s.heap.objs.size:=by
  obtain ⟨o,n,e,_⟩:=pl
  exact Nat.ne_of_lt (Heap.lt_size e)
 have vget:∀ (i:Nat) (v:Value),its.toArray[i]?=some v->v=.bool (bs.getD i false):=fun i v e=>by
  have e':its[i]?=some v:=by simpa using e
  have hl:=rv.length
  have hi:i < bs.length:=by
   have:=(List.getElem?_eq_some_iff.mp e').1
   simp at hl; omega
  obtain ⟨u,e1,e2⟩:=rv.get (i:=i) (x:=.bl (bs.getD i false)) (by rw [List.getElem?_map]; simp [hi])
  rw [e'] at e1
  cases e1
  exact e2
 refine call_all_walk (wpAny_pyIter_list pl.isList ?_)
 refine ⟨s.heap.objs.size,_,_,its.toArray.size,_,_,fun i=>bs.getD i false,rfl,Walks.list (A:=X.A.in1) (I.ok.hd hc) _ p hp its.toArray,⟨⟨_,Heap.get?_push_size _ rfl,rfl,rfl⟩,?_⟩,fun i v s' Q' E' hv hQ=>?_,fun h' tk hk=>?_⟩
 ·exact pl.isList.at fun o e=>Heap.get?_push_of_some _ e
 ·rw [vget i v hv]; exact wpAny_truthy_bool hQ
 ·refine ⟨.bl (bs.all id),H,I.kept (t':=tk) (h':=h') fun b o e=>hk b o (fun z=>?_) (Heap.get?_push_of_some _ e),?_,q⟩
  ·have:b=s.heap.objs.size:=by simpa using z
   exact absurd (Heap.lt_size e) (by rw [this]; exact Nat.lt_irrefl _)
  ·have hl:=rv.length
   have hsz:its.toArray.size=bs.length:=by simp at hl; simp [hl]
   have:(List.range its.toArray.size).all (fun i=>bs.getD i false)=bs.all id:=by
    rw [hsz]
    rw [Bool.eq_iff_iff]
    simp only [List.all_eq_true,List.mem_range,id]
    constructor
    ·intro h b hb
     obtain ⟨i,hi,e⟩:=List.getElem_of_mem hb
     have:=h i hi
     simpa [hi,e] using this
    ·intro h i hi
     have:=h bs[i] (List.getElem_mem hi)
     simpa [hi] using this
   rw [this]; rfl
theorem zFX (ns:List Int):∀ k,k<=ns.length->preSum (fun i=>ns.getD i 0) k=(ns.take k).sum
 | 0,_=>by simp [preSum]
 | k+1,h=>by
  show preSum (fun i=>ns.getD i 0) k+ns.getD k 0=_
  have hk:k < ns.length:=h
  rw [zFX ns k (by omega),List.take_succ_eq_append_getElem hk,List.sum_append]
  simp [hk]
theorem zJo (hc:X.calm=true):uO X (.builtin "sum") (fun xs H Q=>∃ (p:Addr) (ns:List Int),xs=[.ref p]/\yJ X.K H p (ns.map V.int)/\Q (.int ns.sum) H):=by
 intro pins s σ H xs us Q I r h
 obtain ⟨p,ns,rfl,hq,q⟩:=h
 obtain ⟨u,rfl,ru⟩:=qJ r
 cases ru
 obtain ⟨its,rv,pl,hz⟩:=I.list hq
 have hpl:p < s.heap.objs.size:=by
  obtain ⟨o,n,e,_⟩:=pl
  exact Heap.lt_size e
 have hl:=rv.length
 have hsz:its.toArray.size=ns.length:=by simp at hl; simp [hl]
 have hia:=zIj rv
 refine call_sum_walkAnyS (wpAny_pyIter_list pl.isList ?_)
 refine ⟨s.heap.objs.size,_,_,_,its.toArray.size,_,_,fun i=>ns.getD i 0,rfl,(Walks.list (A:=X.A.in1) (I.ok.hd hc) _ p (Nat.ne_of_lt hpl) its.toArray).toS,⟨⟨_,Heap.get?_push_size _ rfl,rfl,rfl⟩,?_⟩,fun b hb=>?_,fun i v hv=>?_,fun s' t' hm=>?_⟩
 ·exact pl.isList.at fun o e=>Heap.get?_push_of_some _ e
 ·show b < (s.heap.push _).objs.size
  rw [size_push']
  rcases List.mem_cons.mp hb with e | hb
  ·rw [e]; exact Nat.lt_succ_self _
  ·rw [List.mem_singleton.mp hb]; exact Nat.lt_succ_of_lt hpl
 ·have e':its[i]?=some v:=by simpa using hv
  have hi:i < ns.length:=by
   have:=(List.getElem?_eq_some_iff.mp e').1
   simp at hl; omega
  obtain ⟨u,e1,e2⟩:=rv.get (i:=i) (x:=.int (ns.getD i 0)) (by rw [List.getElem?_map]; simp [hi])
  rw [e'] at e1
  cases e1
  exact e2
 ·have hk:∀ b o,s.heap.get? b=some o->s'.heap.get? b=some o:=fun b o e =>
   hm.heap b o (fun hI=>absurd (Heap.lt_size e) (by rw [List.mem_singleton.mp hI]; exact Nat.lt_irrefl _)) (Heap.get?_push_of_some _ e)
  rw [Moved.eq_with hm]
  refine ⟨.int ns.sum,H,I.kept (h':=s'.heap) (t':=s'.toks) hk,⟨t',?_⟩,q⟩
  rw [hsz,zFX ns ns.length (Nat.le_refl _),List.take_length]
end
end L2
end
section
namespace L2
open PySem PySem.Spec PyProof.Rows
section
variable {X:Cx}
theorem gX:uO X (.builtin "isinstance") (fun xs H Q=>∃ x c t b,xs=[x,.ty c]/\TyOf X.K H x t/\PySem.W.kitOne X.K t (.type c)=some b/\Q (.bl b) H):=by
 intro pins s σ H xs us Q I r h
 obtain ⟨x,c,t,b,rfl,ty,e,q⟩:=h
 obtain ⟨u,w',rfl,rx,rc⟩:=gB r
 cases rc
 exact zIZ I rx ty e fun tk=>⟨.bl b,H,I.tok tk,rfl,q⟩
theorem zJp {ss:List Str}:∀ {us:List Value},zL (ss.map V.str) us->StrsAre us ss:=by
 induction ss with
 | nil=>intro us r; rw [List.map_nil] at r; cases r; exact .nil
 | cons x ss ih =>
  intro us r
  rw [List.map_cons] at r
  cases r with
  | cons r1 r2 =>
   obtain ⟨t,e⟩:=r1
   subst e
   exact .cons x t (ih r2)
def zJq (K:PySem.W.Frag):V->List V->Hp->VK->Prop:=fun x vs H Q=>∃ (sep:Str) (l:Addr) (ss:List Str),x=.str sep/\vs=[.ref l]/\yJ K H l (ss.map V.str)/\(ss.map (·.length)).sum+ss.length * sep.length<=16777216/\Q (.str (Txt.join sep ss)) H
theorem zJr:MtR X "str.join" (zJq X.K):=by
 intro pins s σ H x vs v us Q I rx rv h
 obtain ⟨sep,l,ss,rfl,rfl,hq,hz,q⟩:=h
 obtain ⟨t,rfl⟩:=rx
 obtain ⟨u,rfl,ru⟩:=qJ rv
 cases ru
 obtain ⟨its,r',pl,_⟩:=I.list hq
 exact join_list pl.isList (by simpa using zJp r') hz fun t' k=>⟨.str (Txt.join sep ss),H,I.tok k,⟨t',rfl⟩,q⟩
theorem zJs (l:List Str):∀ a:Array Nat,(l.foldl (fun acc p=>acc++(⟨#[]⟩:Str).cps++p.cps) a).toList=a.toList++(l.map (·.cps.toList)).flatten:=by
 induction l with
 | nil=>intro a; simp
 | cons x r ih=>intro a; rw [List.foldl_cons,ih]; simp
theorem zJt (ss:List Str):Txt.join ⟨#[]⟩ ss=⟨(ss.map (·.cps.toList)).flatten.toArray⟩:=by
 apply MyS.Str_ext
 show ((ss.drop 1).foldl (fun acc p=>acc++(⟨#[]⟩:Str).cps++p.cps) (ss.headD Str.empty).cps).toList=(ss.map (·.cps.toList)).flatten.toArray.toList
 rw [zJs]
 cases ss with
 | nil=>rfl
 | cons x r=>simp
def zJu:V->List V->Hp->VK->Prop:=fun x vs H Q=>∃ d kvs k v,x=.ref d/\vs=[kV k,v]/\H d=some (.dK kvs)/\kvs.length < sizeLine/\(∀ y,vF kvs k=some y->Q y H)/\(vF kvs k=none->Q v (upd H d (.dK (uC kvs k v))))
theorem zJv:gU X "dict.setdefault" zJu:=by
 intro pins s σ H x vs v us Q I rx rv h
 obtain ⟨d,kvs,k,y,rfl,rfl,hd,hz,q1,q2⟩:=h
 cases rx
 obtain ⟨u,w',rfl,ru,rw'⟩:=gB rv
 obtain ⟨z,hm,ws,rel,dd⟩:=zAN I.hok hd
 have hwz:ws.length<=sizeLine:=by rw [<- rel.length]; exact z
 refine call_meetsIn PySem.F.slot_dict_setdefault dd.typeIs PySem.F.entry_dict_setdefault (PySem.F.args_dict_setdefault_3 _ _ _) (kt_meets_setdefault (uA X.prog X.w) d (zAn ru) hm w') ⟨ws,dd,hwz,fun v' hv=>?_,fun hn h' dd' hs=>?_⟩
 ·have rr:=rel.val k
  rw [hv] at rr
  cases e:vF kvs k with
  | none=>rw [e] at rr; exact rr.elim
  | some y' =>
   rw [e] at rr
   exact ⟨y',H,I.tok _,rr,q1 y' e⟩
 ·have rr:=rel.val k
  rw [hn] at rr
  cases e:vF kvs k with
  | some y'=>rw [e] at rr; exact rr.elim
  | none =>
   have he:∃ q,h'.get? d=some q:=let ⟨q,_,_,hq,_⟩:=dd'; ⟨q,hq⟩
   have hl:(uC kvs k y).length<=sizeLine:=by have:=zCH kvs k y; omega
   exact ⟨y,_,zCI I (by rw [hd]; exact True.intro) hs he (zCJ hl hm (rel.put k rw') dd'),rw',q2 e⟩
def zJw:List V->Hp->VK->Prop:=fun xs H Q=>∃ d kvs,xs=[.ref d]/\H d=some (.dK (jE kvs))/\(kvs.map (·.1)).Nodup/\kvs.length < 64 /\
 ∀ (out:List Str) (l:Addr),out.Perm (kvs.map (·.1))->out.Pairwise (fun a b=>a.cps.toList < b.cps.toList)->H l=none->Q (.ref l) (upd H l (.lst (out.map V.str)))
theorem zFY (hc:X.calm=true):uO X (.builtin "sorted") zJw:=by
 intro pins s σ H xs us Q I rx h
 obtain ⟨d,kvs,rfl,hd,nd,h64,q⟩:=h
 obtain ⟨u,rfl,ru⟩:=qJ rx
 cases ru
 obtain ⟨z,hm,ws,rel,dd⟩:=zAN I.hok hd
 have hlen:ws.length=kvs.length:=by have:=rel.length; simpa using this.symm
 obtain ⟨ep,hat⟩:=dd.dictAt
 refine Calls.call_function_entry kind_sorted plain_sorted entry_sorted (args_sorted1 _) ?_
 unfold Builtin.«sorted»
 refine wpAny_bind (m:=checkCount "sorted" 1 1 _) (wpAny_pure ?_)
 refine wpAny_bind (PySem.W.kdu_collect (A:=X.A.in1) (PySem.W.kdl_dict (knd:=uA X.prog X.w) (kvs:=ws) (ep:=ep) hm) (I.ok.hd hc) hat (by rw [hlen,sizeLine_eq]; omega) fun h' tk acc hk hacc=>?_)
 have hal:acc.toList.length=kvs.length:=by rw [Array.length_toList]; exact hacc.1.trans hlen
 have hS:StrsAre acc.toList (kvs.map (·.1)):=by
  have hall:∀ v∈acc.toList,∃ x t,v=Value.str x t:=fun v hv=>by
   obtain ⟨i,hi,e⟩:=List.getElem_of_mem hv
   obtain ⟨k,x,e1,e2⟩:=hacc.2 i v (by rw [<- Array.getElem?_toList,List.getElem?_eq_getElem hi,e])
   obtain ⟨y,f1,_⟩:=KV.get rel e1
   rw [List.getElem?_map] at f1
   cases g:kvs[i]? with
   | none=>rw [g] at f1; cases f1
   | some p =>
    rw [g] at f1
    have:(Sum.inr p.1:zU)=k:=(Prod.mk.inj (Option.some.inj f1)).1
    subst this
    have e2':kH (Sum.inr p.1) v=true:=e2
    rcases qT e2' with ⟨j,t,z1,_⟩ | ⟨w,t,z1,z2⟩
    ·cases z1
    ·exact ⟨w,t,z2⟩
  have e0:=strsAre_map acc.toList hall
  have:acc.toList.map strOf=kvs.map (·.1):=by
   apply List.ext_getElem
   ·simp only [List.length_map,hal]
   ·intro i h1 h2
    have hi:i < acc.toList.length:=by simpa using h1
    have hi':i < kvs.length:=by simpa using h2
    obtain ⟨k,x,e1,e2⟩:=hacc.2 i acc.toList[i] (by rw [<- Array.getElem?_toList,List.getElem?_eq_getElem hi])
    obtain ⟨y,f1,_⟩:=KV.get rel e1
    rw [List.getElem?_map,List.getElem?_eq_getElem hi'] at f1
    have:(Sum.inr kvs[i].1:zU)=k:=(Prod.mk.inj (Option.some.inj f1)).1
    subst this
    have e2':kH (Sum.inr kvs[i].1) acc.toList[i]=true:=e2
    rcases qT e2' with ⟨j,t,z1,_⟩ | ⟨w,t,z1,z2⟩
    ·cases z1
    ·have:kvs[i].1=w:=Sum.inr.inj z1
     rw [List.getElem_map,List.getElem_map,z2,this]
     rfl
  rw [this] at e0
  exact e0
 refine wpAny_bind (wpAny_newList ?_ (by rw [hal,sizeLine_eq]; omega))
 generalize hB:h'.objs.size=B
 have hoL:(h'.push { cls:=.type "list",data:=.seq acc.toList.toArray }).get? B=some (seqObj "list" acc.toList.toArray 0):=by
  rw [<- hB]; exact Heap.get?_push_size _ rfl
 refine wpAny_bind (wpAny_holding (wpAny_call_entry slot_list_sort ⟨_,hoL,rfl⟩ entry_list_sort (MyS.sort_strs (ks:=kvs.map (·.1)) hoL hS nd (by rw [hal]; exact h64) fun pm h2 e2 hp1 hp2 hk2 ho2=>⟨_,rfl,?_⟩) (args_list_sort _)))
 refine wpAny_pure ⟨_,rfl,?_⟩
 rw [hal] at hp1
 have pmlt:∀ i∈pm,i < kvs.length:=fun i hi=>List.mem_range.mp (hp1.mem_iff.mp hi)
 have hold:∀ b o,s.heap.get? b=some o->h2.get? b=some o:=fun b o e=>by
  have e1:=hk b o e
  refine hk2 b o ?_ (Heap.get?_push_of_some _ e1)
  rw [<- hB]; exact Nat.ne_of_lt (Heap.lt_size e1)
 have hfB:s.heap.get? B=none:=by
  cases g:s.heap.get? B with
  | none=>rfl
  | some o =>
   have h0:=Heap.lt_size (hk B o g)
   rw [hB] at h0
   exact absurd h0 (Nat.lt_irrefl _)
 have uJ:upd H B (.lst ((pm.map fun i=>(kvs.map (·.1)).getD i ⟨#[]⟩).map V.str))=jD H [(B,.lst ((pm.map fun i=>(kvs.map (·.1)).getD i ⟨#[]⟩).map V.str))]:=by
  funext b
  unfold upd jD
  by_cases hb:b=B
  ·subst hb; simp
  ·have hb':(b == B)=false:=by simpa using hb
   rw [if_neg hb,List.lookup_cons,hb']
   rfl
 have IM:Inv X pins σ (jD H [(B,.lst ((pm.map fun i=>(kvs.map (·.1)).getD i ⟨#[]⟩).map V.str))]) { s with heap:=h2,toks:=tk }:=by
  refine I.many hold (fun p hp=>?_) fun p hp=>?_
  ·rcases List.mem_cons.mp hp with e | e
   ·rw [e]; exact hfB
   ·cases e
  ·rcases List.mem_cons.mp hp with e | e
   ·subst e
    refine ⟨?_,(pm.map fun i=>acc.toList.getD i Value.none),_,?_,ho2⟩
    ·show (List.map V.str (pm.map _)).length<=_
     rw [List.length_map,List.length_map,hp1.length_eq,List.length_range,sizeLine_eq]; omega
    ·have go:∀ l:List Nat,(∀ i∈l,i < kvs.length)->zL ((l.map fun i=>(kvs.map (·.1)).getD i ⟨#[]⟩).map V.str) (l.map fun i=>acc.toList.getD i Value.none):=by
      intro l
      induction l with
      | nil=>intro _; exact .nil
      | cons i l ih =>
       intro hl
       have hi:=hl i (List.mem_cons_self ..)
       have hi2:i < acc.toList.length:=by omega
       refine .cons ?_ (ih fun j hj=>hl j (List.mem_cons_of_mem _ hj))
       obtain ⟨x,t,e⟩:=hS.all acc.toList[i] (List.getElem_mem hi2)
       refine ⟨t,?_⟩
       have e1:acc.toList.getD i Value.none=acc.toList[i]:=by
        rw [List.getD_eq_getElem?_getD,List.getElem?_eq_getElem hi2]; rfl
       have e2:(kvs.map (·.1)).getD i ⟨#[]⟩=x:=by
        rw [<- hS.strs,List.getD_eq_getElem?_getD,List.getElem?_map,List.getElem?_eq_getElem hi2,e]; rfl
       dsimp only
       rw [e1,e2,e]
     exact go pm pmlt
   ·cases e
 refine ⟨.ref B,_,IM,rfl,?_⟩
 rw [<- uJ]
 refine q _ B ?_ ?_ (I.hok.free hfB)
 ·have e1:(List.range kvs.length).map (fun i=>(kvs.map (·.1)).getD i (⟨#[]⟩:Str))=kvs.map (·.1):=by
   apply List.ext_getElem
   ·simp
   ·intro i h1 h2
    have hi:i < kvs.length:=by simpa using h1
    simp [hi]
  have:=hp1.map (fun i=>(kvs.map (·.1)).getD i (⟨#[]⟩:Str))
  rw [e1] at this
  exact this
 ·rw [List.pairwise_map]
  rw [List.pairwise_map] at hp2
  exact hp2
theorem zFZ:yO X (binaryOp .Add) (fun x y H Q=>∃ a b ys,x=.ref a/\y=.ref b/\yG X.K H a []/\yG X.K H b ys/\Q (.ref b) H):=by
 intro pins s σ H x y v u Q I rx ry h
 obtain ⟨a,b,ys,rfl,rfl,ha,hb,q⟩:=h
 cases rx
 cases ry
 obtain ⟨its,r1,p1,_⟩:=I.tuple ha
 obtain ⟨its2,r2,p2,_⟩:=I.tuple hb
 have e0:its=[]:=by cases r1; rfl
 subst e0
 obtain ⟨⟨cls,dd,data,sl⟩,ho,hc,n,hd⟩:=id p1
 obtain ⟨⟨cls2,dd2,data2,sl2⟩,ho2,hc2,n2,hd2⟩:=id p2
 simp only at hc hd hc2 hd2
 subst hc hd hc2 hd2
 exact concat_meets ⟨_,ho,rfl⟩ ⟨_,ho2,rfl⟩ noFill_tuple_add seq_tuple_add PySem.F.slot_tuple_add PySem.F.entry_tuple_add (PySem.F.args_tuple_add_2 _ _)
  (tuple_addW0 a b _ its2.toArray n n2 dd dd2 sl sl2 (by simp)) ⟨ho,ho2,⟨.ref b,H,I,rfl,q⟩⟩
end
section
variable {prog:Program}{w:World}{A:Around}{E:Value->Shared->Prop}{s:Shared}
end
section
variable {X:Cx}{e st:Expr}{te ts:TE}{pos p2:Pos}
end
end L2
end
section
namespace L2
open PySem PySem.Spec PyProof.Rows
structure Known (J:It) (items:List V) (Hk:Hp->Prop):Prop where
 go:∀ i H,Hk H->i < items.length->J.go i H
 yld:∀ i H x H',Hk H->J.yld i H x H'->H'=H/\(i < items.length->items[i]?=some x)
 stop:∀ H,Hk H->J.stop items.length H
theorem jY (lo:Int) (n:Nat):Known (Itr lo n) ((List.range n).map fun (i:Nat)=>V.int (lo+(i:Int))) (fun _=>True) :=
 ⟨fun i H _ h=>by show i < n; simpa using h,fun i H x H' _ h=>⟨h.1,fun hi=>by
  have hi':i < n:=by simpa using hi
  rw [List.getElem?_map,List.getElem?_range hi',h.2]; rfl⟩,fun H _=>by show n<=_; simp⟩
theorem zAR (K:PySem.W.Frag) (a:Addr) (xs:List V):Known (Itl K a) xs (fun H=>yJ K H a xs) :=
 ⟨fun i H h hi=>⟨xs,xs[i],h,List.getElem?_eq_getElem hi⟩,fun i H x H' h y=>⟨y.1,fun _=>y.2 xs h⟩,fun H h=>⟨xs,h,Nat.le_refl _⟩⟩
theorem gY (K:PySem.W.Frag) (a:Addr) (xs:List V):Known (Itt K a) xs (fun H=>yG K H a xs) :=
 ⟨fun i H h hi=>⟨xs,xs[i],h,List.getElem?_eq_getElem hi⟩,fun i H x H' h y=>⟨y.1,fun _=>y.2 xs h⟩,fun H h=>⟨xs,h,Nat.le_refl _⟩⟩
theorem zJx (z:Str):Known (Its z) (z.cps.toList.map fun c=>V.str ⟨#[c]⟩) (fun _=>True) :=
 ⟨fun i H _ h=>by show i < z.cps.size; simpa using h,fun i H x H' _ h=>⟨h.1,fun _=>by
  obtain ⟨c,e1,e2⟩:=h.2
  rw [List.getElem?_map,Array.getElem?_toList,e1,e2]; rfl⟩,fun H _=>by show _=z.cps.size; simp⟩
theorem zFa {J:It}{items:List V}{Hk:Hp->Prop} (kn:Known J items Hk) {caps:List Nat}{n:Nat}{σ:St}{g:TG}{tc:TT}{te:TE}{F:List V->Hp->Prop}{H1:Hp} (cv:St) (k:Nat) (hn:items.length < 1000)
  (Pv:Nat->List V->Hp->Prop) (h0:Pv 0 [] H1) (hk:∀ i acc H,i<=items.length->Pv i acc H->Hk H/\acc.length<=i)
  (turn:∀ (i:Nat) (x:V) (acc:List V) (H:Hp) (ys:St) (Nx:List V->St->Hp->Prop),(∀ acc' H' zs,zs.length=k->Pv (i+1) acc' H'->Nx acc' (cv++zs) H')->items[i]?=some x->ys.length=k->Pv i acc H ->
   g x (cv++ys) H fun σ2 H3=>tc σ2 H3 fun b H4=>if b=true then te σ2 H4 fun y H5=>Nx (acc++[y]) σ2 H5 else Nx acc σ2 H4)
  (fin:∀ acc H,Pv items.length acc H->F acc H) (hcv:uS caps n σ=cv++List.replicate k none:=by rfl) :
  ∃ W:Nat->Nat->List V->St->Hp->Prop,(∃ m,W 0 m [] (uS caps n σ) H1)/\∀ i m acc σ' H',W i m acc σ' H' ->
   (J.stop i H'/\F acc H') \/
   (J.go i H'/\acc.length < sizeLine/\∀ x H2,J.yld i H' x H2->g x σ' H2 fun σ2 H3=>tc σ2 H3 fun b H4=>if b=true then te σ2 H4 fun y H5=>∃ m',m' < m/\W (i+1) m' (acc++[y]) σ2 H5 else ∃ m',m' < m/\W (i+1) m' acc σ2 H4):=by
 refine ⟨fun i m acc σ' H'=>i<=items.length/\m=items.length - i/\(∃ ys,ys.length=k/\σ'=cv++ys)/\Pv i acc H',⟨items.length,Nat.zero_le _,rfl,⟨_,by simp,hcv⟩,h0⟩,?_⟩
 rintro i m acc σ' H' ⟨hi,rfl,⟨ys,hy,rfl⟩,pv⟩
 obtain ⟨hH,ha⟩:=hk i acc H' hi pv
 by_cases e:i=items.length
 ·subst e
  exact .inl ⟨kn.stop H' hH,fin acc H' pv⟩
 ·have hi':i < items.length:=by omega
  refine .inr ⟨kn.go i H' hH hi',by rw [sizeLine_eq]; omega,fun x H2 hy2=>?_⟩
  obtain ⟨e2,e3⟩:=kn.yld i H' x H2 hH hy2
  subst e2
  exact turn i x acc H2 ys (fun acc' σ2 H5=>∃ m',m' < items.length - i/\(i+1<=items.length/\m'=items.length - (i+1)/\(∃ ys,ys.length=k/\σ2=cv++ys)/\Pv (i+1) acc' H5)) (fun acc' H5 zs hz p=>⟨items.length - (i+1),by omega,by omega,rfl,⟨zs,hz,rfl⟩,p⟩) (e3 hi') hy pv
theorem qL {J:It}{items:List V}{Hk:Hp->Prop} (kn:Known J items Hk) {caps:List Nat}{n:Nat}{σ:St}{g:TG}{te:TE}{F:List V->Hp->Prop}{H1:Hp} (cv:St) (k:Nat) (hn:items.length < 1000)
  (Pv:Nat->List V->Hp->Prop) (h0:Pv 0 [] H1) (hk:∀ i acc H,i<=items.length->Pv i acc H->Hk H/\acc.length<=i)
  (turn:∀ (i:Nat) (x:V) (acc:List V) (H:Hp) (ys:St) (Nx:List V->St->Hp->Prop),(∀ acc' H' zs,zs.length=k->Pv (i+1) acc' H'->Nx acc' (cv++zs) H')->items[i]?=some x->ys.length=k->Pv i acc H ->
   g x (cv++ys) H fun σ2 H3=>te σ2 H3 fun y H5=>Nx (acc++[y]) σ2 H5)
  (fin:∀ acc H,Pv items.length acc H->F acc H) (hcv:uS caps n σ=cv++List.replicate k none:=by rfl) :
  ∃ W:Nat->Nat->List V->St->Hp->Prop,(∃ m,W 0 m [] (uS caps n σ) H1)/\∀ i m acc σ' H',W i m acc σ' H' ->
   (J.stop i H'/\F acc H') \/
   (J.go i H'/\acc.length < sizeLine/\∀ x H2,J.yld i H' x H2->g x σ' H2 fun σ2 H3=>gF σ2 H3 fun b H4=>if b=true then te σ2 H4 fun y H5=>∃ m',m' < m/\W (i+1) m' (acc++[y]) σ2 H5 else ∃ m',m' < m/\W (i+1) m' acc σ2 H4):=by
 refine zFa kn cv k hn Pv h0 hk (fun i x acc H ys Nx hN hx hy p=>?_) fin hcv
 have:=turn i x acc H ys Nx hN hx hy p
 have e:(fun (σ2:St) (H3:Hp)=>gF σ2 H3 fun b H4=>if b=true then te σ2 H4 fun y H5=>Nx (acc++[y]) σ2 H5 else Nx acc σ2 H4)=fun σ2 H3=>te σ2 H3 fun y H5=>Nx (acc++[y]) σ2 H5:=by
  funext σ2 H3
  unfold gF
  exact if_pos rfl
 rw [e]
 exact this
theorem jN {J:It}{items:List V}{Hk:Hp->Prop} (kn:Known J items Hk) {g:TG}{tb:TS}{D:Ends}{σ:St}{H:Hp} (Pv:Nat->St->Hp->Prop) (h0:Pv 0 σ H) (hk:∀ i σ H,i<=items.length->Pv i σ H->Hk H)
  (turn:∀ (i:Nat) (x:V) (σ:St) (H:Hp) (Nx:St->Hp->Prop),(∀ σ' H',Pv (i+1) σ' H'->Nx σ' H')->items[i]?=some x->Pv i σ H->g x σ H fun σ2 H2=>tb { D with nx:=Nx,ct:=Nx,bk:=D.nx } σ2 H2)
  (fin:∀ σ H,Pv items.length σ H->D.nx σ H) :
  ∃ W:Nat->Nat->St->Hp->Prop,(∃ m,W 0 m σ H)/\∀ i m σ H,W i m σ H ->
   (J.stop i H/\D.nx σ H)\/(J.go i H/\∃ N:St->Hp->Prop,(∀ σ' H',N σ' H'->∃ m',m' < m/\W (i+1) m' σ' H')/\∀ x H',J.yld i H x H'->g x σ H' fun σ2 H2=>tb { D with nx:=N,ct:=N,bk:=D.nx } σ2 H2):=by
 refine ⟨fun i m σ H=>i<=items.length/\m=items.length - i/\Pv i σ H,⟨items.length,Nat.zero_le _,rfl,h0⟩,?_⟩
 rintro i m σ H ⟨hi,rfl,pv⟩
 have hH:=hk i σ H hi pv
 by_cases e:i=items.length
 ·subst e
  exact .inl ⟨kn.stop H hH,fin σ H pv⟩
 ·have hi':i < items.length:=by omega
  refine .inr ⟨kn.go i H hH hi',Pv (i+1),fun σ' H' p=>⟨items.length - (i+1),by omega,by omega,rfl,p⟩,fun x H2 hy2=>?_⟩
  obtain ⟨e2,e3⟩:=kn.yld i H x H2 hH hy2
  subst e2
  exact turn i x σ H2 (Pv (i+1)) (fun _ _ p=>p) (e3 hi') pv
theorem uK {c A B:Prop} [Decidable c] (hc:c) (h:A):if decide c=true then A else B:=by
 rw [if_pos (decide_eq_true hc)]; exact h
theorem uL {c A B:Prop} [Decidable c] (hc:¬ c) (h:B):if decide c=true then A else B:=by
 rw [if_neg (fun z=>hc (of_decide_eq_true z))]; exact h
theorem zB.upd_new {H H':Hp}{a:Addr}{o:HO} (e:zB H H') (h:H a=none):zB H (upd H' a o):=fun b u q=>by
 rw [zN (vO q h)]; exact e b u q
theorem zB.upd1 {H:Hp}{a:Addr}{o:HO} (h:H a=none):zB H (upd H a o):=(zB.refl H).upd_new h
def zBQ (sc:Scope) (XN N:List Str) (scope:Scope):Nat->List Nat->Bool
 | _,[]=>true
 | i,c::cs=>(match N[i]? with
  | some x=>decide (XN[c]?=some x) && decide (scope.names.lookup x=some .free) && (decide (sc.names.lookup x=some .cell) || decide (sc.names.lookup x=some .free))
  | none=>false) && zBQ sc XN N scope (i+1) cs
def zFb (sc:Scope) (XN N:List Str) (scope:Scope) (caps:List Nat):Bool :=
 decide (scope.kind=.function) && decide N.Nodup && scope.names.all (fun y=>decide (y.2≠.cell)) && scope.names.all (fun y=>decide (y.2=.local->scope.names.lookup y.1=some .local)) &&
 scope.names.all (fun y=>decide (y.2=.free->sc.names.lookup y.1=some .cell\/sc.names.lookup y.1=some .free)) && zBQ sc XN N scope 0 caps && decide (caps.length<=N.length)
theorem zFc {sc:Scope}{XN N:List Str}{scope:Scope}:∀ {caps:List Nat}{j:Nat},zBQ sc XN N scope j caps=true->∀ i,i < caps.length ->
  ∃ x,N[j+i]?=some x/\XN[caps.getD i 0]?=some x/\scope.names.lookup x=some .free/\(sc.names.lookup x=some .cell\/sc.names.lookup x=some .free)
 | [],_,_,i,hi=>by simp at hi
 | c::cs,j,h,i,hi=>by
  unfold zBQ at h
  rw [Bool.and_eq_true] at h
  obtain ⟨h1,h2⟩:=h
  cases i with
  | zero =>
   cases e:N[j]? with
   | none=>rw [e] at h1; cases h1
   | some x =>
    rw [e] at h1
    simp only [Bool.and_eq_true,Bool.or_eq_true,decide_eq_true_eq] at h1
    exact ⟨x,by simpa using e,by simpa using h1.1.1,h1.1.2,h1.2⟩
  | succ i =>
   obtain ⟨x,a,b,c',d⟩:=zFc h2 i (by simpa using hi)
   exact ⟨x,by rw [<- a]; congr 1; omega,by simpa using b,c',d⟩
theorem uT {sc:Scope}{XN N:List Str}{scope:Scope}{caps:List Nat} (h:zFb sc XN N scope caps=true):CompScope sc XN N scope caps:=by
 unfold zFb at h
 simp only [Bool.and_eq_true,decide_eq_true_eq,List.all_eq_true] at h
 obtain ⟨⟨⟨⟨⟨⟨a,b⟩,c⟩,d⟩,e⟩,f⟩,g⟩:=h
 exact ⟨a,b,c,d,e,fun i hi=>by simpa using zFc f i hi,g⟩
end L2
end
section
namespace L2
open PySem PySem.Spec PyProof.Rows
section
variable {X:Cx}{pins:List (Addr × Obj)}{σ:St}{H:Hp}{s:Shared}
theorem Inv.turnedT {fp:List Addr}{h':Heap}{t':Nat}{T:Addr}{o:HO} (I:Inv X pins σ H s) (k:∀ b u,b ∉ fp->s.heap.get? b=some u->h'.get? b=some u) (hf:∀ b∈fp,uY X pins H b) (hT:s.heap.get? T=none)
  (new:yM X.prog X.w (upd H T o) h' T o):Inv X pins σ (upd H T o) { s with heap:=h',toks:=t' }:=by
 have hn:H T=none:=I.hok.free hT
 have nit:∀ b u,H b=some u->b ∉ fp:=fun b u e z=>by rw [(hf b z).1] at e; cases e
 have sm:zB H (upd H T o):=zB.upd1 hn
 have old:∀ b (u:Obj),s.heap.get? b=some u->upd H T o b=H b:=fun b u e=>by
  rw [zN]
  rintro rfl
  rw [hT] at e; cases e
 refine I.step (g':=s.gens) (d':=s.drawn) (ch:=fp) (fun b hb=>?_) (fun b o _ _ hc e _=>k b o hc e) (fun b o _ _ hc e _=>⟨o.slots,k b o hc e⟩) (fun b u _ e n=>by rw [old b u e]; exact n)
  (fun b o hc e=>⟨o,k b o hc e⟩) (fun b xs e=>sm _ _ e) (fun b u v e=>sm _ _ e) (fun b ps e=>⟨#[],by rw [sm _ _ e]; simp⟩) (fun m hm=>?_) (fun b u e=>?_) I.bare
 ·obtain ⟨f0,f1,f2,f3,f4,f5⟩:=hf b hb
  exact ⟨f3,f1,f4,f5⟩
 ·obtain ⟨o,es,ep,ho,r⟩:=hm
  exact ⟨o,es,ep,k _ o (fun z=>(hf _ z).2.1 rfl) ho,r⟩
 ·by_cases hb:b=T
  ·subst hb; rw [zG] at e; cases e; exact new
  ·rw [zN hb] at e
   refine (I.hok b u e).stay (fun c v hc q=>k c v ?_ q) (fun c q=>?_) fun c xs q=>?_
   ·rcases hc with z | z
    ·rw [z]; exact nit b u e
    ·exact nit c _ z
   ·exact sm _ _ q
   ·exact sm _ _ q
end
def Ite (K:PySem.W.Frag) (a:Addr):It :=
 ⟨fun i H=>∃ xs x,yJ K H a xs/\xs[i]?=some x,fun i H x H'=>∃ T y,x=.ref T/\H T=none/\H'=upd H T (.tup [.int i,y])/\∀ xs,yJ K H a xs->xs[i]?=some y,fun i H=>∃ xs,yJ K H a xs/\xs.length=i⟩
theorem zJy {P:Program}{w:World}{K:PySem.W.Frag}{elts:List Expr}{k:Nat}{pos:Pos} (a e it:Addr) (hei:e≠it):Turn P w K (.Tuple elts k pos) (Ite K a) [e,it] e (fun i h=>(∃ old,IsEnum h e it i old)/\h.IsListIter it a i) where
 mem:=by simp
 obj:=fun i h st b hb=>by
  obtain ⟨⟨old,he⟩,hit⟩:=st
  rcases List.mem_cons.mp hb with z | z
  ·subst z; exact ⟨_,he,fun v z=>by cases z⟩
  ·have z':b=it:=by simpa using z
   subst z'
   obtain ⟨o,e,c,d⟩:=hit
   exact ⟨o,e,fun v z=>by rw [d] at z; cases z⟩
 keep:=fun i h h' st kk=>⟨let ⟨old,he⟩:=st.1; ⟨old,kk e (by simp) _ he⟩,st.2.at fun o x=>kk it (by simp) o x⟩
 item:=by
  intro X hP hw hK hc i pins s σ H E I hf st hg
  subst hP hw hK
  obtain ⟨xs,x,hq,hx⟩:=hg
  obtain ⟨its,rv,p,hz⟩:=I.list hq
  obtain ⟨u,hu,ru⟩:=rv.get hx
  obtain ⟨⟨old,he⟩,hit⟩:=id st
  have hae:e≠a:=fun z=>by
   subst z
   obtain ⟨o,h1,h2,_⟩:=p.isList
   rw [he] at h1; cases h1
   have h2':Value.type "enumerate" = Value.type "list" := h2
   exact absurd h2' (by decide)
  have hai:a≠it:=fun z=>by
   subst z
   obtain ⟨o,h1,h2,_⟩:=p.isList
   obtain ⟨o',h3,h4,_⟩:=hit
   rw [h1] at h3; cases h3; rw [h2] at h4; exact absurd h4 (by decide)
  have D:=Draws.list (prog:=X.prog) (w:=X.w) (A:=X.A.in1) (show X.A.in1.handled=none from I.ok.hd hc) it a hai its.toArray
  have hlt:i < its.toArray.size:=by
   have:=(List.getElem?_eq_some_iff.mp hu).1
   simpa using this
  refine wpAny_pyNext_enum_itemD D he ⟨hit,p.isList⟩ hlt hei (by simp [hei,hae]) fun x' h' tk hP ho hs' hT hsz hk=>?_
  have hx':x'=u:=by
   have:its[i]?=some x':=by simpa using hP
   rw [hu] at this; exact (Option.some.inj this).symm
  subst hx'
  refine ⟨_,rfl,wpAny_letOwnedTupleGo_enum ho fun h2 he2 hs2=>?_⟩
  have hTn:s.heap.get? s.heap.objs.size=none:=by
   cases g:s.heap.get? s.heap.objs.size with
   | none=>rfl
   | some o=>exact absurd (Heap.lt_size g) (Nat.lt_irrefl _)
  have hel:e < s.heap.objs.size:=Heap.lt_size he
  have hT2:h2.get? s.heap.objs.size=some { cls:=.type "tuple",data:=.seq #[.int i tk,x'] }:=(hs2.2 _ (Nat.ne_of_gt hel)).trans hT
  refine ⟨.ref s.heap.objs.size,upd H s.heap.objs.size (.tup [.int i,x]),I.turnedT (fp:=[e,it]) (h':=h2) (t':=tk+1) (fun b o hb q=>?_) hf hTn ⟨by show 2<=sizeLine; decide,[.int i tk,x'],.cons ⟨tk,rfl⟩ (.cons ru .nil),⟨_,hT2,rfl,_,rfl⟩⟩,rfl,
   ⟨_,x,rfl,I.hok.free hTn,rfl,fun ys hy=>by rw [I.list_inj hy hq]; exact hx⟩,⟨⟨_,by simpa using he2⟩,hs'.1.at fun o q=>(hs2.2 it (Ne.symm hei)).trans q⟩,fun b hb=>?_⟩
  ·have hbe:b≠e:=fun z=>hb (by simp [z])
   have hbi:b≠it:=fun z=>hb (by simp [z])
   exact (hs2.2 b hbe).trans (hk b o hbe hbi q)
  ·rw [zN]
   ·exact (hf b hb).1
   ·rintro rfl
    rcases List.mem_cons.mp hb with z | z
    ·exact absurd hel (by rw [z]; exact Nat.lt_irrefl _)
    ·have z':s.heap.objs.size=it:=by simpa using z
     obtain ⟨o,h3,_⟩:=hit
     rw [<- z',hTn] at h3; cases h3
 done:=by
  intro X hP hw hK hc i pins s σ H E I hf st hg
  subst hP hw hK
  obtain ⟨xs,hq,hx⟩:=hg
  obtain ⟨its,rv,p,hz⟩:=I.list hq
  obtain ⟨⟨old,he⟩,hit⟩:=id st
  have hl:=rv.length
  have hai:a≠it:=fun z=>by
   subst z
   obtain ⟨o,h1,h2,_⟩:=p.isList
   obtain ⟨o',h3,h4,_⟩:=hit
   rw [h1] at h3; cases h3; rw [h2] at h4; exact absurd h4 (by decide)
  have D:=Draws.list (prog:=X.prog) (w:=X.w) (A:=X.A.in1) (show X.A.in1.handled=none from I.ok.hd hc) it a hai its.toArray
  obtain ⟨f0,f1,f2,f3,f4,f5⟩:=hf it (by simp)
  have hi:its.toArray.size=i:=by rw [List.size_toArray]; omega
  refine wpAny_pyNext_enum_endD D he ⟨by rw [hi]; exact hit,p.isList⟩ fun h' eb=>⟨rfl,I.turned (t':=s.toks) (fun b o hb e=>eb b o hb e) f0 f1 f3 f4 f5⟩
 self:=fun A i s Q E st h=>let ⟨old,he⟩:=st.1; wpAny_pyIter_enum he h
section
variable {X:Cx}{elts:List Expr}{k:Nat}{tpos:Pos}
def zJz (K:PySem.W.Frag) (ta:TA):TI:=fun σ H R=>ta σ H fun vs H1=>∃ a xs,vs=[.ref a]/\H1 a=some (.lst xs)/\R (Ite K a) H1
theorem zFd {e:Expr}{ta:TA}{p pos:Pos} (hg:Gl X "enumerate") (hm:X.mg "enumerate" = none) (ha:PA X [e] ta) (hs:starEach [e] X.env=[(false,eval e X.env)]:=by rfl):PI X (.Tuple elts k tpos) (.Call (.Name "enumerate" p) [e] [] pos) (zJz X.K ta):=by
 intro pins s σ H R I h
 refine Call_ (kL I hg hm boot_enumerate (PyProof.Rows.callWith_type1 (zK (ha pos pins s σ H _ I h) fun us s1 ⟨vs,H1,I1,r1,q1⟩=>?_) hs rfl))
 obtain ⟨a,xs,rfl,hl,q⟩:=q1
 obtain ⟨u,rfl,ru⟩:=qJ r1
 cases ru
 obtain ⟨z,its,n,r,e0⟩:=I1.hok a _ hl
 refine call_enumerate_1 e0 fun h' he hit hsz hk=>?_
 have I2:Inv X pins σ H1 { s1 with heap:=h' }:=I1.kept (t':=s1.toks) hk
 refine wpAny_pyIter_enum he ⟨_,[s1.heap.objs.size+1,s1.heap.objs.size],_,_,H1,rfl,I2,zJy a _ _ (Nat.succ_ne_self _),⟨⟨_,he⟩,hit⟩,fun b hb=>?_,q⟩
 have hb':s1.heap.objs.size<=b:=by
  rcases List.mem_cons.mp hb with z | z
  ·rw [z]; exact Nat.le_succ _
  ·have:b=s1.heap.objs.size:=by simpa using z
   rw [this]; exact Nat.le_refl _
 exact I1.fpOk hb' (I1.hok.fresh hb')
theorem zFe {K:PySem.W.Frag}{a:Addr}{xs:List V}{g:TG}{tb:TS}{D:Ends}{σ:St}{H:Hp} (Pv:Nat->St->Hp->Prop) (h0:Pv 0 σ H) (hk:∀ i σ H,i<=xs.length->Pv i σ H->yJ K H a xs)
  (turn:∀ (i:Nat) (x:V) (T:Addr) (σ:St) (H:Hp) (Nx:St->Hp->Prop),(∀ σ' H',Pv (i+1) σ' H'->Nx σ' H')->xs[i]?=some x->Pv i σ H->H T=none->g (.ref T) σ (upd H T (.tup [.int i,x])) fun σ2 H2=>tb { D with nx:=Nx,ct:=Nx,bk:=D.nx } σ2 H2)
  (fin:∀ σ H,Pv xs.length σ H->D.nx σ H) :
  ∃ W:Nat->Nat->St->Hp->Prop,(∃ m,W 0 m σ H)/\∀ i m σ H,W i m σ H ->
   ((Ite K a).stop i H/\D.nx σ H)\/((Ite K a).go i H/\∃ N:St->Hp->Prop,(∀ σ' H',N σ' H'->∃ m',m' < m/\W (i+1) m' σ' H')/\∀ x H',(Ite K a).yld i H x H'->g x σ H' fun σ2 H2=>tb { D with nx:=N,ct:=N,bk:=D.nx } σ2 H2):=by
 refine ⟨fun i m σ H=>i<=xs.length/\m=xs.length - i/\Pv i σ H,⟨xs.length,Nat.zero_le _,rfl,h0⟩,?_⟩
 rintro i m σ H ⟨hi,rfl,pv⟩
 have hH:=hk i σ H hi pv
 by_cases e:i=xs.length
 ·subst e
  exact .inl ⟨⟨xs,hH,rfl⟩,fin σ H pv⟩
 ·have hi':i < xs.length:=by omega
  refine .inr ⟨⟨xs,xs[i],hH,List.getElem?_eq_getElem hi'⟩,Pv (i+1),fun σ' H' p=>⟨xs.length - (i+1),by omega,by omega,rfl,p⟩,fun x H2 hy2=>?_⟩
  obtain ⟨T,y,rfl,hT,rfl,hy⟩:=hy2
  exact turn i y T σ H (Pv (i+1)) (fun _ _ p=>p) (hy xs hH) pv hT
theorem zKA:MtR X "str.endswith" (fun x vs H Q=>∃ a b:Str,x=.str a/\vs=[.str b]/\Q (.bl (Txt.endswith a b)) H):=by
 intro pins s σ H x vs v us Q I rx rv h
 obtain ⟨a,b,rfl,rfl,q⟩:=h
 obtain ⟨t,rfl⟩:=rx
 obtain ⟨u,rfl,ru⟩:=qJ rv
 obtain ⟨t',rfl⟩:=ru
 exact SC.endswith ⟨.bl _,H,I,rfl,q⟩
end
section
variable {X:Cx}{e st:Expr}{te ts:TE}{pos p2:Pos}
end
end L2
end
section
namespace L2
open PySem PySem.Spec PyProof.Rows
theorem zKB:typeLookup (.type "list") "keys" = pure none:=am_miss_of_fast (by kernel_rfl)
theorem zKC {prog:Program}{w:World}{A:Around}{E:Value->Shared->Prop}{s:Shared}{a:Addr}{o:Obj}{xs:Array Value}{k:Nat}{name:Str}{Q:Option Value->Shared->Prop}
  (hx:s.heap.get? a=some o) (hc:o.cls=.type "list") (hdat:o.data=.seq xs k) (hd:o.dict=none) (hmiss:typeLookup (.type "list") name=pure none) (hname:(["__module__", "__name__", "__qualname__", "__doc__", "__annotations__"]:List Str).contains name=false) (hA:A.handled=none)
  (h:∀ h' tk,(∀ b ob,s.heap.get? b=some ob->h'.get? b=some ob)->Q none { s with heap:=h',toks:=tk }) (hsz:name.length+100<=sizeLine:=by size_fits) :
  wpAny (model prog w) A (getAttr? (.ref a) name) Q E s:=by
 obtain ⟨c,dct,dat,sl⟩:=o
 simp only at hc hdat hd
 subst hc hdat hd
 obtain ⟨hp,g,d,tk,os⟩:=s
 have hT:∀ tk',(⟨hp,g,d,tk',os⟩:Shared).TypeIs (.ref a) "list" := fun _=>⟨_,hx,rfl⟩
 have f1:=sub_AttributeError
 have f3:=PySem.F.slot_list_getattribute.lookup
 have f4:=PySem.F.slot_list_getattribute.bind (.ref a)
 have f5:=am_list_getattr_none
 unfold getAttr? getAttrBy? getAttrBy
 repeat (any_goals (first | assumption | exact hT _ | ((with_reducible show wpAny _ _ (call (Value.builtin "list.__getattribute__") _ _) _ _ _); refine call_meets PySem.F.slot_list_getattribute (hT _) am_entry_list_getattribute (PySem.F.args_list_getattribute_2 _ _) (meets_getattribute_miss_list a xs k sl name _ hmiss hname hsz) ⟨hx,hA,fun h' tk' e hx'=>?_⟩) | wp_step))
 obtain ⟨t',u',he⟩:=hx'.there
 show wpAny _ _ (getattributeRaised _ _ _ _ _ _ _) _ _ _
 unfold getattributeRaised
 repeat (any_goals (first | assumption | wp_step))
 exact h _ _ hx'.of.keeps
theorem zFf:entryFor table "dict.update.loop" = some Builtin.«dict.update.loop»:=entryFor_of_tree (by kernel_rfl)
theorem zBR:plainId "dict.update.loop" = true:=by decide +kernel
theorem zKD {κ:Type} [DecidableEq κ] {kvs:List (κ × Value)}{k:κ}{v:Value} (h:k ∉ kvs.map (·.1)):stored kvs k v=kvs++[(k,v)]:=by
 unfold stored
 rw [if_neg]
 rw [List.any_eq_true]
 rintro ⟨kv,hkv,he⟩
 exact h (List.mem_map.mpr ⟨kv,hkv,of_decide_eq_true he⟩)
section
variable {prog:Program}{w:World}{A:Around}{R:Result->Shared->Prop}
theorem zKE {I ax D:Addr}{items:Array Value}{kvs:List (Str × Value)} (hh:A.in1.handled=none) (hIx:ax≠I) (hDI:D≠I) (hDx:D≠ax) (hlen:kvs.length=items.size) (hz:kvs.length<=1000) (nd:(kvs.map (·.1)).Nodup) :
  ∀ (m i:Nat) (s:Shared),items.size - i=m->i<=items.size->(s.heap.IsListIter I ax i/\s.heap.IsList ax items) ->
   (∀ (j:Nat) (v:Value),items[j]?=some v->∃ q,kvs[j]?=some q/\∃ b o t n,v=Value.ref b/\b≠D/\b≠I/\s.heap.get? b=some o/\o.cls=.type "tuple" /\ o.data=.seq #[.str q.1 t,q.2] n) ->
   s.heap.DictOf (uA prog w) D ((kvs.take i).map fun q=>((Sum.inr q.1:zU),q.2)) ->
   (∀ h' tk,(∀ b o,b≠D->b≠I->s.heap.get? b=some o->h'.get? b=some o)->h'.DictOf (uA prog w) D (kvs.map fun q=>((Sum.inr q.1:zU),q.2))->R (.ok (.ret .none)) { s with heap:=h',toks:=tk }) ->
   ∀ n:Tok,codeAny (model prog w) A (.builtin "dict.update.loop" ⟨[.ref D,.ref I,.int (i:Int) n,.none],[]⟩) R s:=by
 have W:=Walks.list (prog:=prog) (w:=w) (A:=A.in1) hh I ax hIx items
 intro m
 induction m with
 | zero =>
  intro i s hm hi st hp hd hR n
  have hin:i=items.size:=by omega
  subst hin
  refine codeAny_builtin zFf ?_
  rw [Around.under_plainId zBR _]
  show wpAny _ A.in1 (pyNext (.ref I) >>= _) _ _ s
  refine wpAny_bind (W.done s _ _ st fun h' tk hk=>?_)
  show wpAny _ A.in1 (Builtin.Dict.addKeywords D [] >>= _) _ _ _
  refine wpAny_bind (wpAny_pure (wpAny_pure (hR h' tk (fun b o h1 h2 e=>hk b o (by simpa using h2) e) ?_)))
  rw [<- hlen,List.take_length] at hd
  obtain ⟨o,es,ep,ho,vY⟩:=hd
  exact ⟨o,es,ep,hk D o (by simpa using hDI) ho,vY⟩
 | succ m ih =>
  intro i s hm hi st hp hd hR n
  have hlt:i < items.size:=by omega
  refine codeAny_builtin zFf ?_
  rw [Around.under_plainId zBR _]
  show wpAny _ A.in1 (pyNext (.ref I) >>= _) _ _ s
  refine wpAny_bind (W.item i s _ _ hlt st fun v h1 tk hv st1 hk=>?_)
  obtain ⟨q,hq,b,o,t,nn,rfl,hbD,hbI,ho,hoc,hod⟩:=hp i v hv
  have ho1:h1.get? b=some o:=hk b o (by simpa using hbI) ho
  have hd1:h1.DictOf (uA prog w) D ((kvs.take i).map fun q=>((Sum.inr q.1:zU),q.2)):=by
   obtain ⟨o',es,ep,ho',vY⟩:=hd
   exact ⟨o',es,ep,hk D o' (by simpa using hDI) ho',vY⟩
  show wpAny _ A.in1 (holding [Value.ref b] _ >>= _) _ _ _
  refine wpAny_bind (wpAny_holding ?_)
  have hT:Shared.TypeIs { s with heap:=h1,toks:=tk } (.ref b) "tuple" := ⟨o,ho1,hoc⟩
  refine wpAny_bind (wpAny_tryCatch ?_)
  unfold Builtin.Dict.pairItems
  refine wpAny_bind (wpAny_typeOf hT ?_)
  rw [if_pos (by decide)]
  refine wpAny_bind (wpAny_seqItems ho1 hod (wpAny_pure ?_))
  show wpAny _ A.in1 (holding [Value.str q.1 t,q.2] (dictSet D (.str q.1 t) q.2)) _ _ _
  have hqi:kvs[i]?=some q:=hq
  have hi':i < kvs.length:=(List.getElem?_eq_some_iff.mp hqi).1
  have eq1:kvs[i]=q:=(List.getElem?_eq_some_iff.mp hqi).2
  refine wpAny_holding (wpAny_dictSet_pairs (knd:=uA prog w) (k:=Sum.inr q.1) (s:={ s with heap:=h1,toks:=tk }) (zEH prog w q.1 t) hd1 (fun h2 hd2 hs2=>?_) (by rw [List.length_map,List.length_take,sizeLine_eq]; omega))
  have hnew:(Sum.inr q.1:zU) ∉ (((kvs.take i).map fun q=>((Sum.inr q.1:zU),q.2)).map (·.1)):=by
   rw [List.map_map]
   intro hm
   obtain ⟨p,hp',e⟩:=List.mem_map.mp hm
   have e':p.1=q.1:=Sum.inr.inj e
   obtain ⟨j,hj,ej⟩:=List.getElem_of_mem hp'
   have hj1:j < i:=by rw [List.length_take] at hj; omega
   have hj2:j < kvs.length:=by omega
   rw [List.getElem_take] at ej
   have:=(List.getElem_inj (xs:=kvs.map (·.1)) (h₀:=by simpa using hj2) (h₁:=by simpa using hi') nd).mp (by rw [List.getElem_map,List.getElem_map,ej,eq1]; exact e')
   omega
  rw [zKD hnew] at hd2
  have ed:((kvs.take i).map fun q=>((Sum.inr q.1:zU),q.2))++[((Sum.inr q.1:zU),q.2)]=(kvs.take (i+1)).map fun q=>((Sum.inr q.1:zU),q.2):=by
   rw [List.take_succ_eq_append_getElem hi',eq1,List.map_append]; rfl
  rw [ed] at hd2
  show wpAny _ A.in1 (again _) _ _ _
  refine wpAny_pure ⟨plainId_quiet zBR _,?_⟩
  have keep:∀ b o,b≠D->b≠I->s.heap.get? b=some o->h2.get? b=some o:=fun b o e1 e2 e=>by
   rw [hs2.2 b e1]; exact hk b o (by simpa using e2) e
  refine ih (i+1) { s with heap:=h2,toks:=tk+1 } (by omega) hlt (W.frame _ h1 h2 st1 fun b hb o e=>?_) (fun j v hv=>?_) hd2 (fun h' tk' hk' hd'=>hR h' tk' (fun b o e1 e2 e=>hk' b o e1 e2 (keep b o e1 e2 e)) hd') _
  ·rw [hs2.2 b]
   ·exact e
   ·rintro rfl
    rcases List.mem_cons.mp hb with z | z
    ·exact hDI z
    ·exact hDx (by simpa using z)
  ·obtain ⟨q',hq',b',o',t',n',e1,e2,e3,e4,e5⟩:=hp j v hv
   exact ⟨q',hq',b',o',t',n',e1,e2,e3,keep b' o' e2 e3 e4,e5⟩
theorem zKF {E:Value->Shared->Prop}{s:Shared}{l:Addr}{items:Array Value}{kvs:List (Str × Value)}{Q:Value->Shared->Prop} (hh:A.handled=none) (hl:PlainL s.heap l items) (hlen:kvs.length=items.size) (hz:kvs.length<=1000) (nd:(kvs.map (·.1)).Nodup)
  (hp:∀ (j:Nat) (v:Value),items[j]?=some v->∃ q,kvs[j]?=some q/\∃ b o t n,v=Value.ref b/\s.heap.get? b=some o/\o.cls=.type "tuple" /\ o.data=.seq #[.str q.1 t,q.2] n)
  (h:∀ h' tk,(∀ b o,s.heap.get? b=some o->h'.get? b=some o)->h'.DictOf (uA prog w) s.heap.objs.size (kvs.map fun q=>((Sum.inr q.1:zU),q.2))->Q (.ref s.heap.objs.size) { s with heap:=h',toks:=tk }) :
  wpAny (model prog w) A (call (.type "dict") [.ref l]) Q E s:=by
 refine callType_codes (Q₁:=fun obj s₁=>obj=.ref s.heap.objs.size/\s₁={ s with heap:=s.heap.push { cls:=.type "dict",data:=.dict #[] } }) PySem.F.kt_called_dict (PySem.F.kt_typeCall_dict_1 _) PySem.F.entry_dict_init (kt_code_dict_new _ ⟨rfl,rfl⟩) ?_
 rintro obj s₁ ⟨rfl,rfl⟩
 have hnew:(s.heap.push { cls:=.type "dict",data:=.dict #[] }).DictOf (uA prog w) s.heap.objs.size []:=Heap.DictOf.new s.heap
 obtain ⟨o,n,ho,hc,hdn,hd⟩:=id hl
 have hlS:l < s.heap.objs.size:=Heap.lt_size ho
 have ho1:(s.heap.push { cls:=.type "dict",data:=.dict #[] }).get? l=some o:=Heap.get?_push_of_some _ ho
 refine ⟨hnew.typeIs,PySem.F.args_dict_init_2 _ _,?_⟩
 unfold Builtin.«dict.__init__»
 refine wpAny_bind ?_
 unfold Builtin.Dict.selfAndRest
 refine wpAny_bind (wpAny_notOrdered_dict hnew.typeIs ?_)
 show wpAny _ _ (pure (s.heap.objs.size,[Value.ref l])) _ _ _
 refine wpAny_pure ?_
 show wpAny _ _ (Builtin.Dict.updateFrom "dict.__init__" s.heap.objs.size (.ref l) [] .none) _ _ _
 unfold Builtin.Dict.updateFrom
 have hT:Shared.TypeIs { s with heap:=s.heap.push { cls:=.type "dict",data:=.dict #[] } } (.ref l) "list" := ⟨o,ho1,hc⟩
 refine wpAny_bind (wpAny_typeOf hT ?_)
 rw [if_pos (by decide)]
 refine wpAny_bind (zKC ho1 hc hd hdn zKB (by decide) (by simp [hh]) (fun h2 tk2 hk2=>?_))
 rw [if_pos (show (none:Option Value).isNone=true from rfl)]
 refine wpAny_bind (wpAny_rule (wpAny_bind ?_))
 have hl2:h2.IsList l items:=⟨o,hk2 _ _ ho1,hc,n,hd⟩
 refine wpAny_pyIter_list (s:={ s with heap:=h2,toks:=tk2 }) hl2 ?_
 have hDsz:s.heap.objs.size < h2.objs.size:=by
  obtain ⟨o',es,ep,ho',_⟩:=hnew
  exact Heap.lt_size (hk2 _ _ ho')
 have hlsz:l < h2.objs.size:=Nat.lt_trans hlS hDsz
 refine wpAny_pure ⟨plainId_quiet zBR _,?_⟩
 have old:∀ b o,s.heap.get? b=some o->h2.get? b=some o:=fun b o e=>hk2 b o (Heap.get?_push_of_some _ e)
 refine zKE (I:=h2.objs.size) (ax:=l) (D:=s.heap.objs.size) (items:=items) (kvs:=kvs) (by simp [hh]) (Nat.ne_of_lt hlsz) (Nat.ne_of_lt hDsz) (Nat.ne_of_gt hlS) hlen hz nd items.size 0 _ rfl (Nat.zero_le _)
  ⟨⟨_,Heap.get?_push_size _ rfl,rfl,rfl⟩,hl2.push _⟩ (fun j v hv=>?_) ?_ (fun h' tk' hk' hd'=>⟨rfl,h h' tk' (fun b o e=>?_) hd'⟩) _
 ·obtain ⟨q,hq,b,ob,t,nn,e1,e2,e3,e4⟩:=hp j v hv
  exact ⟨q,hq,b,ob,t,nn,e1,Nat.ne_of_lt (Heap.lt_size e2),Nat.ne_of_lt (Nat.lt_trans (Heap.lt_size e2) hDsz),Heap.get?_push_of_some _ (old _ _ e2),e3,e4⟩
 ·rw [List.take_zero]
  obtain ⟨o',es,ep,ho',vY⟩:=hnew
  exact ⟨o',es,ep,Heap.get?_push_of_some _ (hk2 _ _ ho'),vY⟩
 ·exact hk' b o (Nat.ne_of_lt (Heap.lt_size e)) (Nat.ne_of_lt (Nat.lt_trans (Heap.lt_size e) hDsz)) (Heap.get?_push_of_some _ (old _ _ e))
end
section
variable {X:Cx}
def zCa (K:PySem.W.Frag) (H:Hp) (ts:List V) (kvs:List (Str × V)):Prop:=ts.length=kvs.length/\∀ (i:Nat) (q:Str × V),kvs[i]?=some q->∃ a,ts[i]?=some (.ref a)/\yG K H a [.str q.1,q.2]
theorem zKG {pins:List (Addr × Obj)}{σ:St}{H:Hp}{s:Shared} (I:Inv X pins σ H s) {ts:List V}{kvs:List (Str × V)}{its:List Value} (hp:zCa X.K H ts kvs) (rv:zL ts its) :
  ∃ ws:List (Str × Value),KV kvs ws/\∀ (j:Nat) (v:Value),its[j]?=some v->∃ q,ws[j]?=some q/\∃ b o t n,v=Value.ref b/\s.heap.get? b=some o/\o.cls=.type "tuple" /\ o.data=.seq #[.str q.1 t,q.2] n:=by
 have one:∀ (i:Nat) (q:Str × V) (u:Value),kvs[i]?=some q->its[i]?=some u->∃ x,zQ q.2 x/\∃ b o t n,u=Value.ref b/\s.heap.get? b=some o/\o.cls=.type "tuple" /\ o.data=.seq #[.str q.1 t,x] n:=fun i q u hq hu=>by
  obtain ⟨a,ha,hs⟩:=hp.2 i q hq
  obtain ⟨u',e1,e2⟩:=rv.get ha
  rw [hu] at e1
  cases e1
  cases e2
  obtain ⟨its2,r2,⟨o,ho,hc,n,hd⟩,_⟩:=I.tuple hs
  obtain ⟨x1,x2,rfl,rx1,rx2⟩:=gB r2
  obtain ⟨t,rfl⟩:=rx1
  exact ⟨x2,rx2,a,o,t,n,rfl,ho,hc,hd⟩
 have hl:its.length=kvs.length:=by rw [<- rv.length]; exact hp.1
 clear hp rv
 induction kvs generalizing its with
 | nil =>
  refine ⟨[],.nil,fun j v hv=>?_⟩
  have:its=[]:=by simpa using hl
  rw [this] at hv; simp at hv
 | cons q kvs ih =>
  cases its with
  | nil=>simp at hl
  | cons u its =>
   obtain ⟨x,rx,hx⟩:=one 0 q u rfl rfl
   obtain ⟨ws,kv,hws⟩:=ih (its:=its) (fun i q' u' h1 h2=>one (i+1) q' u' (by simpa using h1) (by simpa using h2)) (by simpa using hl)
   refine ⟨(q.1,x)::ws,.cons ⟨rfl,rx⟩ kv,fun j v hv=>?_⟩
   cases j with
   | zero =>
    have:u=v:=by simpa using hv
    subst this
    exact ⟨_,rfl,hx⟩
   | succ j =>
    obtain ⟨q',e1,e2⟩:=hws j v (by simpa using hv)
    exact ⟨q',by simpa using e1,e2⟩
theorem KV.enc {kvs:List (Str × V)}{ws:List (Str × Value)} (h:KV kvs ws):KV (jE kvs) (ws.map fun q=>((Sum.inr q.1:zU),q.2)):=by
 induction h with
 | nil=>exact .nil
 | cons h t ih=>exact .cons ⟨congrArg Sum.inr h.1,h.2⟩ ih
def zKH (K:PySem.W.Frag):List V->Hp->VK->Prop:=fun xs H Q=>∃ p ts kvs,xs=[.ref p]/\yJ K H p ts/\zCa K H ts kvs/\(kvs.map (·.1)).Nodup/\kvs.length<=1000/\∀ d,H d=none->Q (.ref d) (upd H d (.dK (jE kvs)))
theorem zKI (hc:X.calm=true):uO X (.type "dict") (zKH X.K):=by
 intro pins s σ H xs us Q I rx h
 obtain ⟨p,ts,kvs,rfl,hp,hprs,nd,hz,q⟩:=h
 obtain ⟨u,rfl,ru⟩:=qJ rx
 cases ru
 obtain ⟨its,rv,pl,_⟩:=I.list hp
 obtain ⟨ws,kv,hws⟩:=zKG I hprs rv
 have hl:ws.length=kvs.length:=(Paired.length kv).symm
 have hits:its.length=kvs.length:=by rw [<- rv.length]; exact hprs.1
 refine zKF (kvs:=ws) (I.ok.hd hc) pl (by rw [hl]; simp [hits]) (by omega) (by rw [<- kv.keys]; exact nd) (fun j v hv=>hws j v (by simpa using hv)) fun h' tk hk hd=>?_
 have hlo:(s.heap.objs.size == sysModules)=false:=by
  have h0:=I.big
  have h1:s.heap.objs.size≠sysModules:=Nat.ne_of_gt h0
  simpa using h1
 exact ⟨.ref s.heap.objs.size,_,I.laid (t':=tk) (o:=.dK (jE kvs)) hk (Nat.le_refl _) (zCJ (by simp [jE]; rw [sizeLine_eq]; omega) hlo kv.enc hd),rfl,q _ (I.hok.fresh (Nat.le_refl _))⟩
end
end L2
end
section
set_option autoImplicit false
namespace Kn
abbrev S:=List Nat
section
variable {κ α:Type} [DecidableEq κ]
def z9:List (κ × α)->κ->α->List (κ × α)
 | [],k,v=>[(k,v)]
 | (k',v')::r,k,v=>if k'=k then (k',v)::r else (k',v')::z9 r k v
def zR:List (κ × α)->κ->Option α
 | [],_=>none
 | (k',v')::r,k=>if k'=k then some v' else zR r k
theorem zBS (l:List (κ × α)) (k k':κ) (v:α):zR (z9 l k v) k'=if k=k' then some v else zR l k':=by
 induction l with
 | nil=>simp [z9,zR]
 | cons p r ih =>
  obtain ⟨k0,v0⟩:=p
  by_cases h:k0=k
  ·subst h
   by_cases h':k0=k' <;> simp [z9,zR,h']
  ·simp only [z9,if_neg h,zR,ih]
   by_cases h1:k0=k'
   ·subst h1
    rw [if_pos rfl,if_pos rfl,if_neg (fun e=>h e.symm)]
   ·rw [if_neg h1,if_neg h1]
theorem zKJ (l:List (κ × α)) (k:κ) (v:α):(z9 l k v).map (·.1)=if k∈l.map (·.1) then l.map (·.1) else l.map (·.1)++[k]:=by
 induction l with
 | nil=>simp [z9]
 | cons p r ih =>
  obtain ⟨k0,v0⟩:=p
  by_cases h:k0=k
  ·subst h; simp [z9]
  ·have h':¬ k=k0:=fun e=>h e.symm
   simp only [z9,if_neg h,List.map_cons,ih,List.mem_cons,h',false_or]
   split <;> simp
theorem zCb {l:List (κ × α)}{k:κ}{v:α} (h:(l.map (·.1)).Nodup):((z9 l k v).map (·.1)).Nodup:=by
 rw [zKJ]
 split
 ·exact h
 ·rename_i hk
  exact List.nodup_append.mpr ⟨h,by simp,fun a ha b hb e=>by
   have:b=k:=by simpa using hb
   subst this; subst e; exact hk ha⟩
theorem qB {l:List (κ × α)} (h:(l.map (·.1)).Nodup) (k:κ) (v:α):(k,v)∈l↔zR l k=some v:=by
 induction l with
 | nil=>simp [zR]
 | cons p r ih =>
  obtain ⟨k0,v0⟩:=p
  have h1:k0 ∉ r.map (·.1):=(List.nodup_cons.mp h).1
  have h2:=ih (List.nodup_cons.mp h).2
  by_cases e:k0=k
  ·subst e
   have g:zR ((k0,v0)::r) k0=some v0:=by simp [zR]
   rw [g,List.mem_cons]
   constructor
   ·rintro (z | z)
    ·rw [(Prod.mk.inj z).2]
    ·exact absurd (List.mem_map_of_mem (f:=(·.1)) z) h1
   ·intro z; rw [Option.some.inj z]; exact .inl rfl
  ·simp only [zR,if_neg e,List.mem_cons,Prod.mk.injEq]
   rw [<- h2]
   constructor
   ·rintro (z | z)
    ·exact absurd z.1.symm e
    ·exact z
   ·intro z; exact .inr z
theorem zCc {l:List (κ × α)}{k:κ}:zR l k=none↔k ∉ l.map (·.1):=by
 induction l with
 | nil=>simp [zR]
 | cons p r ih =>
  obtain ⟨k0,v0⟩:=p
  by_cases e:k0=k
  ·subst e; simp [zR]
  ·have e':¬ k=k0:=fun z=>e z.symm
   simp only [zR,if_neg e,ih,List.map_cons,List.mem_cons,e',false_or]
end
def v3 (row:List (S × Int)) (l:S):List (S × Int):=z9 row l ((zR row l).getD 0+1)
def qM (rows:List (S × List (S × Int))) (p:S × S):List (S × List (S × Int)):=z9 rows p.1 (v3 ((zR rows p.1).getD []) p.2)
def v6 (ps:List (S × S)):List (S × List (S × Int)):=ps.foldl qM []
theorem zKK (ps:List (S × S)) (p:S × S):v6 (ps++[p])=qM (v6 ps) p:=by
 unfold v6; rw [List.foldl_append]; rfl
def zS (t:S) (o:Nat):S:=t.drop (t.length - o)
def zX (o:Nat) (nm:S):List (S × S):=(List.range (nm.length+1)).map fun p=>(zS (nm.take p) o,(nm.drop p).take 1)
def zE (o:Nat) (bk:List S):List (S × S):=bk.flatMap (zX o)
structure RowsOk (ps:List (S × S)) (rows:List (S × List (S × Int))):Prop where
 nd:(rows.map (·.1)).Nodup
 ndr:∀ e row,(e,row)∈rows->(row.map (·.1)).Nodup
 val:∀ e l,zR ((zR rows e).getD []) l=if 0 < ps.count (e,l) then some (ps.count (e,l):Int) else none
 has:∀ e,(∃ row,zR rows e=some row)↔∃ l,(e,l)∈ps
theorem qN (ps:List (S × S)):RowsOk ps (v6 ps):=by
 suffices h:∀ (qs ps:List (S × S)) rows,RowsOk ps rows->RowsOk (ps++qs) (qs.foldl qM rows) by
  have:=h ps [] [] ⟨by simp,by simp,by simp [zR],by simp [zR]⟩
  simpa [v6] using this
 intro qs
 induction qs with
 | nil=>intro ps rows h; simpa using h
 | cons q qs ih =>
  intro ps rows h
  obtain ⟨e0,l0⟩:=q
  have step:RowsOk (ps++[(e0,l0)]) (qM rows (e0,l0)):=by
   have hrow:((((zR rows e0).getD []).map (·.1))).Nodup:=by
    cases g:zR rows e0 with
    | none=>simp
    | some row=>exact h.ndr e0 row ((qB h.nd e0 row).mpr g)
   refine ⟨zCb h.nd,fun e row hm=>?_,fun e l=>?_,fun e=>?_⟩
   ·have hm':=(qB (zCb h.nd) e row).mp hm
    unfold qM at hm'
    rw [zBS] at hm'
    split at hm'
    ·have:=Option.some.inj hm'
     rw [<- this]
     exact zCb hrow
    ·exact h.ndr e row ((qB h.nd e row).mpr hm')
   ·unfold qM
    rw [zBS]
    by_cases he:e0=e
    ·subst he
     rw [if_pos rfl]
     show zR (v3 ((zR rows e0).getD []) l0) l=_
     unfold v3
     rw [zBS,h.val e0 l0]
     by_cases hl:l0=l
     ·subst hl
      rw [if_pos rfl,List.count_append]
      have e1:List.count (e0,l0) [(e0,l0)]=1:=by simp
      rw [e1]
      by_cases hc:0 < List.count (e0,l0) ps
      ·simp [hc]
      ·have:List.count (e0,l0) ps=0:=by omega
       simp [this]
     ·rw [if_neg hl,h.val e0 l,List.count_append]
      have e1:List.count (e0,l) [(e0,l0)]=0:=by
       simp [List.count_cons,hl]
      rw [e1,Nat.add_zero]
    ·rw [if_neg he]
     rw [h.val e l,List.count_append]
     have e1:List.count (e,l) [(e0,l0)]=0:=by
      simp [List.count_cons,he]
     rw [e1,Nat.add_zero]
   ·unfold qM
    rw [zBS]
    by_cases he:e0=e
    ·subst he
     rw [if_pos rfl]
     exact ⟨fun _=>⟨l0,by simp⟩,fun _=>⟨_,rfl⟩⟩
    ·rw [if_neg he,h.has e]
     constructor
     ·rintro ⟨l,hl⟩; exact ⟨l,List.mem_append_left _ hl⟩
     ·rintro ⟨l,hl⟩
      rcases List.mem_append.mp hl with z | z
      ·exact ⟨l,z⟩
      ·have:(e,l)=(e0,l0):=by simpa using z
       exact absurd (congrArg Prod.fst this).symm he
  have:=ih (ps++[(e0,l0)]) (qM rows (e0,l0)) step
  simpa using this
def jZ {α:Type} (xs:List (S × α)):Prop:=xs.Pairwise fun a b=>a.1 < b.1
theorem jG (a:S):¬ a < a:=List.lt_irrefl a
theorem zBT {a b c:S} (h1:a < b) (h2:b < c):a < c:=List.lt_trans h1 h2
theorem jZ.keys {α:Type}{xs:List (S × α)} (h:jZ xs):(xs.map (·.1)).Nodup:=by
 unfold jZ at h
 rw [List.Nodup,List.pairwise_map]
 exact h.imp fun {a b} hab (e:a.1=b.1)=>jG b.1 (e ▸ hab)
theorem jZ.ext {α:Type}:∀ {xs ys:List (S × α)},jZ xs->jZ ys->(∀ p,p∈xs↔p∈ys)->xs=ys
 | [],[],_,_,_=>rfl
 | [],y::ys,_,_,h=>absurd ((h y).mpr (List.mem_cons_self ..)) (by simp)
 | x::xs,[],_,_,h=>absurd ((h x).mp (List.mem_cons_self ..)) (by simp)
 | x::xs,y::ys,hx,hy,h=>by
  have hx1:=(List.pairwise_cons.mp hx).1
  have hy1:=(List.pairwise_cons.mp hy).1
  have exy:x=y:=by
   rcases List.mem_cons.mp ((h x).mp (List.mem_cons_self ..)) with e | e
   ·exact e
   ·rcases List.mem_cons.mp ((h y).mpr (List.mem_cons_self ..)) with e' | e'
    ·exact e'.symm
    ·exact absurd (zBT (hy1 x e) (hx1 y e')) (jG _)
  subst exy
  have:xs=ys:=jZ.ext (List.pairwise_cons.mp hx).2 (List.pairwise_cons.mp hy).2 fun p=>by
   constructor
   ·intro hp
    rcases List.mem_cons.mp ((h p).mp (List.mem_cons_of_mem _ hp)) with e | e
    ·subst e; exact absurd (hx1 p hp) (jG _)
    ·exact e
   ·intro hp
    rcases List.mem_cons.mp ((h p).mpr (List.mem_cons_of_mem _ hp)) with e | e
    ·subst e; exact absurd (hy1 p hp) (jG _)
    ·exact e
  rw [this]
structure IsRow (ps:List (S × S)) (e:S) (xs:List (S × Int)):Prop where
 ris:jZ xs
 mem:∀ l n,(l,n)∈xs↔n=(ps.count (e,l):Int)/\0 < n
structure IsTable (ps:List (S × S)) (tb:List (S × List (S × Int))):Prop where
 ris:jZ tb
 has:∀ e,(∃ xs,(e,xs)∈tb)↔∃ l,(e,l)∈ps
 row:∀ e xs,(e,xs)∈tb->IsRow ps e xs
theorem zBU {β:Type} [BEq β] [LawfulBEq β]:∀ (ps ks:List β),ks.Nodup->(∀ x∈ps,x∈ks)->(ks.map fun k=>(ps.count k:Int)).sum=(ps.length:Int)
 | [],ks,_,_=>by
  have:(ks.map fun k=>(([]:List β).count k:Int))=ks.map fun _=>(0:Int):=by simp
  rw [this]
  induction ks with
  | nil=>rfl
  | cons k r ih=>simp_all
 | x::ps,ks,nd,h=>by
  have ih:=zBU ps ks nd fun y hy=>h y (List.mem_cons_of_mem _ hy)
  have no:∀ (ks:List β),x ∉ ks->(ks.map fun k=>((x::ps).count k:Int)).sum=(ks.map fun k=>(ps.count k:Int)).sum:=by
   intro ks
   induction ks with
   | nil=>intro _; rfl
   | cons k r ih =>
    intro hx
    have hx1:¬ x=k:=fun e=>hx (e ▸ List.mem_cons_self ..)
    have hx2:x ∉ r:=fun e=>hx (List.mem_cons_of_mem _ e)
    simp only [List.map_cons,List.sum_cons,ih hx2,List.count_cons_of_ne hx1]
  have one:∀ (ks:List β),ks.Nodup->x∈ks->(ks.map fun k=>((x::ps).count k:Int)).sum=(ks.map fun k=>(ps.count k:Int)).sum+1:=by
   intro ks
   induction ks with
   | nil=>intro _ hx; cases hx
   | cons k r ih =>
    intro nd hx
    have hk:=(List.nodup_cons.mp nd).1
    by_cases e:x=k
    ·subst e
     simp only [List.map_cons,List.sum_cons,no r hk,List.count_cons_self]
     omega
    ·have hx':x∈r:=(List.mem_cons.mp hx).elim (fun z=>absurd z e) id
     simp only [List.map_cons,List.sum_cons,ih (List.nodup_cons.mp nd).2 hx',List.count_cons_of_ne e]
     omega
  rw [one ks nd (h x (List.mem_cons_self ..)),ih,List.length_cons]
  omega
theorem IsRow.total {ps:List (S × S)}{e:S}{xs:List (S × Int)} (a:IsRow ps e xs):(xs.map (·.2)).sum=((ps.filter fun p=>p.1=e).length:Int):=by
 have h:=zBU (ps.filter fun p=>decide (p.1=e)) (xs.map fun p=>(e,p.1)) ?_ ?_
 ·rw [<- h,List.map_map]
  congr 1
  apply List.map_congr_left
  rintro ⟨l,n⟩ hm
  have:=((a.mem l n).mp hm).1
  show n=(List.count (e,l) (ps.filter fun p=>decide (p.1=e)):Int)
  rw [List.count_filter (by simp)]
  exact this
 ·have:=a.ris.keys
  rw [List.Nodup,List.pairwise_map] at this ⊢
  exact this.imp fun {p q} hpq z=>hpq (congrArg Prod.snd z)
 ·rintro ⟨e',l⟩ hm
  obtain ⟨h1,h2⟩:=List.mem_filter.mp hm
  have h2':e'=e:=by simpa using h2
  subst h2'
  exact List.mem_map.mpr ⟨(l,(ps.count (e',l):Int)),(a.mem l _).mpr ⟨rfl,by
   have:=List.count_pos_iff.mpr h1
   omega⟩,rfl⟩
theorem IsTable.total {ps:List (S × S)}{tb:List (S × List (S × Int))} (a:IsTable ps tb):(tb.map fun r=>(r.2.map (·.2)).sum).sum=(ps.length:Int):=by
 have h:=zBU ps (tb.flatMap fun r=>r.2.map fun p=>(r.1,p.1)) ?_ ?_
 ·rw [<- h,List.map_flatMap]
  have:∀ (tb:List (S × List (S × Int))),(∀ e xs,(e,xs)∈tb->IsRow ps e xs)->(tb.map fun r=>(r.2.map (·.2)).sum).sum=(tb.flatMap fun r=>(r.2.map fun p=>(r.1,p.1)).map fun k=>(ps.count k:Int)).sum:=by
   intro tb
   induction tb with
   | nil=>intro _; rfl
   | cons r t ih =>
    intro hr
    obtain ⟨e,xs⟩:=r
    rw [List.map_cons,List.sum_cons,List.flatMap_cons,List.sum_append,ih fun e' xs' hm=>hr e' xs' (List.mem_cons_of_mem _ hm)]
    congr 1
    rw [List.map_map]
    congr 1
    apply List.map_congr_left
    rintro ⟨l,n⟩ hm
    exact (((hr e xs (List.mem_cons_self ..)).mem l n).mp hm).1
  exact this tb a.row
 ·have:∀ (tb:List (S × List (S × Int))),jZ tb->(∀ e xs,(e,xs)∈tb->IsRow ps e xs)->(tb.flatMap fun r=>r.2.map fun p=>(r.1,p.1)).Nodup:=by
   intro tb
   induction tb with
   | nil=>intro _ _; simp
   | cons r t ih =>
    intro hr hrow
    obtain ⟨e,xs⟩:=r
    rw [List.flatMap_cons]
    refine List.nodup_append.mpr ⟨?_,ih (List.pairwise_cons.mp hr).2 fun e' xs' hm=>hrow e' xs' (List.mem_cons_of_mem _ hm),?_⟩
    ·have:=(hrow e xs (List.mem_cons_self ..)).ris.keys
     rw [List.Nodup,List.pairwise_map] at this ⊢
     exact this.imp fun {p q} hpq z=>hpq (congrArg Prod.snd z)
    ·intro p hp q hq epq
     obtain ⟨z,_,rfl⟩:=List.mem_map.mp hp
     obtain ⟨r',hr',hz'⟩:=List.mem_flatMap.mp hq
     obtain ⟨z',_,e2⟩:=List.mem_map.mp hz'
     have:e=r'.1:=by
      have:=congrArg Prod.fst (epq.trans e2.symm)
      exact this
     have hlt:=(List.pairwise_cons.mp hr).1 r' hr'
     exact jG _ (this ▸ hlt)
  exact this tb a.ris a.row
 ·rintro ⟨e,l⟩ hm
  obtain ⟨xs,hx⟩:=(a.has e).mpr ⟨l,hm⟩
  refine List.mem_flatMap.mpr ⟨(e,xs),hx,List.mem_map.mpr ⟨(l,(ps.count (e,l):Int)),((a.row e xs hx).mem l _).mpr ⟨rfl,?_⟩,rfl⟩⟩
  have:=List.count_pos_iff.mpr hm
  omega
theorem zFg (o:Nat) (a b:List S):zE o (a++b)=zE o a++zE o b:=by
 unfold zE; rw [List.flatMap_append]
theorem zCd (o:Nat) (a:List S):((zE o a).length:Int)=(a.map fun x=>(x.length:Int)+1).sum:=by
 induction a with
 | nil=>rfl
 | cons x r ih =>
  have e1:zE o (x::r)=zX o x++zE o r:=rfl
  rw [e1,List.length_append,List.map_cons,List.sum_cons,<- ih]
  simp [zX]
theorem zFh {t:S}{o:Nat} (h:t.length<=o):zS t o=t:=by
 unfold zS
 have:t.length - o=0:=by omega
 rw [this,List.drop_zero]
end Kn
end
section
set_option autoImplicit false
namespace Kn
structure Fq (q:Int × Int):Prop where
 up:0<=q.1
 dn:0 < q.2
 co:Int.gcd q.1 q.2=1
theorem Fq.ext {p q:Int × Int} (a:Fq p) (b:Fq q) (h:p.1 * q.2=q.1 * p.2):p=q:=by
 obtain ⟨p1,p2⟩:=p
 obtain ⟨q1,q2⟩:=q
 obtain ⟨a1,a2,a3⟩:=a
 obtain ⟨b1,b2,b3⟩:=b
 dsimp only at *
 obtain ⟨x,rfl⟩:=Int.eq_ofNat_of_zero_le a1
 obtain ⟨y,rfl⟩:=Int.eq_ofNat_of_zero_le (Int.le_of_lt a2)
 obtain ⟨z,rfl⟩:=Int.eq_ofNat_of_zero_le b1
 obtain ⟨w,rfl⟩:=Int.eq_ofNat_of_zero_le (Int.le_of_lt b2)
 have h':x * w=z * y:=by exact_mod_cast h
 have a3':Nat.gcd x y=1:=by simpa [Int.gcd] using a3
 have b3':Nat.gcd z w=1:=by simpa [Int.gcd] using b3
 have hy:0 < y:=by omega
 have hw:0 < w:=by omega
 have d1:y ∣ w:=Nat.Coprime.dvd_of_dvd_mul_left (m:=x) (by rw [Nat.Coprime,Nat.gcd_comm]; exact a3') (by rw [h']; exact Nat.dvd_mul_left ..)
 have d2:w ∣ y:=Nat.Coprime.dvd_of_dvd_mul_left (m:=z) (by rw [Nat.Coprime,Nat.gcd_comm]; exact b3') (by rw [<- h']; exact Nat.dvd_mul_left ..)
 have e:y=w:=Nat.dvd_antisymm d1 d2
 subst e
 have:x=z:=Nat.eq_of_mul_eq_mul_right hy h'
 rw [this]
end Kn
end
section
set_option autoImplicit false
namespace Kn
def tot (ps:List (S × S)) (e:S):Nat:=(ps.filter fun p=>p.1=e).length
theorem zKL (a b:S) (h1:¬ a < b) (h2:¬ b < a):a=b:=List.le_antisymm (List.not_lt.mp h2) (List.not_lt.mp h1)
end Kn
end
section
namespace Kn
open PySem L2
def yH (P:Program) (w:World) (K:PySem.W.Frag) (mg:Str->Option Value) (base:Heap) (k:Nat) (x:Str) (ps:List Str) (sp:Sp):Prop :=
 ∃ (f:Addr) (fd:FuncData),FnOk P w K mg base yF k f fd ps sp/\mg x=some (.ref f)/\PySem.W.keepIn K (.ref f)=true/\jL K fd ps []
theorem zT {X:Cx}{k:Nat}{x:Str}{ps:List Str}{sp:Sp}{p pos:Pos}{e:Expr}{es:List Expr}{t:TA} (C:yH X.prog X.w X.K X.mg X.base k x ps sp) (hr:Room k X.A) (hg:Gl X x) (ha:PA X (e::es) t)
  (hs:starEach (e::es) X.env=(false,eval e X.env)::starEach es X.env:=by rfl) (hplain:(backTo pos (starEach es X.env)).any (·.1)=false:=by rfl)
  (hdb:(x == ("__debug__" : Str))=false:=by decide):PE X (.Call (.Name x p) (e::es) [] pos) (zAk sp [] E0 t):=by
 obtain ⟨f,fd,G,hm,kp,b⟩:=C
 exact zEe G hr hg hm kp b .nil zJW ha hdb hs hplain
abbrev tx (x:S):Str:=⟨x.toArray⟩
abbrev sv (x:S):V:=.str (tx x)
theorem v7 (x:S):(tx x).cps.toList=x:=by simp [tx]
theorem zY (x:S):(tx x).length=x.length:=by simp [tx,Str.length]
theorem kT {n i:Nat}{x:V} (h:((List.range n).map fun (i:Nat)=>V.int (0+(i:Int)))[i]?=some x):i < n/\x=.int i:=by
 have hi:i < n:=by
  have:=(List.getElem?_eq_some_iff.mp h).1
  simpa using this
 refine ⟨hi,?_⟩
 rw [List.getElem?_map,List.getElem?_range hi] at h
 have:=Option.some.inj h
 rw [<- this]
 show V.int (0+(i:Int))=V.int i
 rw [Int.zero_add]
theorem uP {ys:St} (h:ys.length=1):∃ y,ys=[y]:=by
 match ys,h with
 | [y],_=>exact ⟨y,rfl⟩
theorem ys2 {ys:St} (h:ys.length=2):∃ y z,ys=[y,z]:=by
 match ys,h with
 | [y,z],_=>exact ⟨y,z,rfl⟩
theorem ys3 {ys:St} (h:ys.length=3):∃ y z u,ys=[y,z,u]:=by
 match ys,h with
 | [y,z,u],_=>exact ⟨y,z,u,rfl⟩
structure Blt (mg:Str->Option Value):Prop where
 len:mg "len" = none
 range:mg "range" = none
 all:mg "all" = none
 isinstance:mg "isinstance" = none
 str:mg "str" = none
 tuple:mg "tuple" = none
 int:mg "int" = none
 bool:mg "bool" = none
 sorted:mg "sorted" = none
 sum:mg "sum" = none
 min:mg "min" = none
section
variable {P:Program}{w:World}{K:PySem.W.Frag}{mg:Str->Option Value}{base:Heap}
theorem zBV (t:S) (o:Nat) (ho:1<=o):v5 (tx t) (some (-(o:Int))) none=tx (zS t o):=by
 unfold v5
 rw [zY,v7]
 have e1:HT.sIx t.length 0 (some (-(o:Int)))=t.length - o:=by
  show (if -(o:Int) < 0 then (-(o:Int)+(t.length:Int)).toNat else _)=_
  rw [if_pos (by omega)]; omega
 have e2:HT.sIx t.length t.length none=t.length:=rfl
 rw [e1,e2]
 unfold zS
 rw [List.take_of_length_le (by rw [List.length_drop]; omega)]
theorem zAs (t:S) (p:Nat):v5 (tx t) none (some (p:Int))=tx (t.take p):=by
 unfold v5
 rw [zY,v7,HT.sIx_nat]
 show tx ((t.drop 0).take (min p t.length - 0))=_
 rw [List.drop_zero,Nat.sub_zero,<- List.take_eq_take_min]
theorem zCe (t:S) (p:Nat):v5 (tx t) (some (p:Int)) (some ((p:Int)+1))=tx ((t.drop p).take 1):=by
 unfold v5
 rw [zY,v7,HT.sIx_nat,show ((p:Int)+1)=((p+1:Nat):Int) from rfl,HT.sIx_nat]
 congr 1
 by_cases h:p < t.length
 ·have e1:min p t.length=p:=by omega
  have e2:min (p+1) t.length - p=1:=by omega
  rw [e1,e2]
 ·have e1:min p t.length=t.length:=by omega
  rw [e1,List.drop_of_length_le (Nat.le_refl _),List.drop_of_length_le (by omega)]
  simp
def zFi:Sp:=fun vs H Q _=>∃ (t:S) (o:Nat),vs=[sv t,.int o]/\1<=o/\t.length<=64/\Q (sv (zS t o)) H
abbrev zBW:Stmt:=top 23
theorem zFj:FnScope ["text", "order"] ["text", "order"] (defScope zBW):=⟨rfl,rfl,rfl,by decide +kernel,rfl,by decide +kernel,by decide +kernel⟩
theorem zKM {f:Addr}{fd:FuncData} (F:Fun K "end_of" "end_of" zBW f fd):FnOk P w K mg base yF 1 f fd ["text", "order"] zFi:=by
 refine F.ok zFj (fun vs H Q E h=>?_) (fun cdv A outer s H vs Q E hr h=>?_)
 ·obtain ⟨t,o,rfl,_⟩:=h; rfl
 ·obtain ⟨t,o,rfl,ho,hl,k⟩:=h
  refine ⟨_,zJ (zV (jF (pv 0) (uE (zAJ zAK (pv 1))) qX)),?_⟩
  refine ⟨_,rfl,_,rfl,_,rfl,_,rfl,_,rfl,?_,?_⟩
  ·rw [zY,sizeLine_eq]; omega
  ·rw [zBV t o ho]; exact k
def pr (o:Nat) (t:S) (p:Nat):S × S:=(zS (t.take p) o,(t.drop p).take 1)
def elD (p:S × S):PyData:=.tuple [.str (tx p.1),.str (tx p.2)]
def zCf (K:PySem.W.Frag):Sp:=fun vs H Q _=>∃ (t:S) (o:Nat),vs=[sv t,.int o]/\1<=o/\t.length<=64/\∀ a xs H',zB H H'->H a=none->H' a=some (.lst xs)->Reps K H' ((zX o t).map elD) xs->Q (.ref a) H'
abbrev zCg:Stmt:=top 24
theorem zKN:FnScope ["name", "order"] ["name", "order"] (defScope zCg):=⟨rfl,rfl,rfl,by decide +kernel,rfl,by decide +kernel,by decide +kernel⟩
theorem zKO:(["name", "order", "place"]:List Str).Nodup:=by decide +kernel
theorem zKP {f:Addr}{fd:FuncData} (F:Fun K "ends_and_letters" "ends_and_letters" zCg f fd) (B:Blt mg) (cEnd:yH P w K mg base 1 "end_of" ["text", "order"] zFi):FnOk P w K mg base yF 2 f fd ["name", "order"] (zCf K):=by
 refine F.ok zKN (fun vs H Q E h=>?_) (fun cdv A outer s H vs Q E hr h=>?_)
 ·obtain ⟨t,o,rfl,_⟩:=h; rfl
 ·obtain ⟨t,o,rfl,ho,hl,k⟩:=h
  refine ⟨_,zJ (zV (qA (N:=["name", "order", "place"]) (caps:=[0,1]) rfl (uT (by kernel_rfl))
   (kM rfl B.range (zC (zP yT (yC qZ (by rfl) B.len PySem.boot_len (zC (pv 0) zD)) zH) zD))
   (fun cl C s H ex=>yS (i:=2) zKO rfl (Or.inl rfl))
   (fun cl C s H ex=>uZ)
   (fun cl C s H ex=>vJ (zC (zT cEnd hr rfl (zC (jF (pv 0) qX (uE (pv 2))) (zC (pv 1) zD)))
    (zC (jF (pv 0) (uE (pv 2)) (uE (zP yT (pv 2) zH))) zD))))),?_⟩
  refine ⟨_,rfl,_,rfl,?_,_,_,rfl,rfl,_,rfl,?_,?_,?_⟩
  ·rw [zY,sizeLine_eq]; omega
  ·rw [zY]; omega
  ·rw [zY]; omega
  have hn:((tx t).length:Int)+1=((t.length+1:Nat):Int):=by rw [zY]; rfl
  have hnn:(((tx t).length:Int)+1).toNat=t.length+1:=by rw [hn]; rfl
  refine qL (jY 0 _) [some (sv t),some (.int o)] 1 (by rw [List.length_map,List.length_range,hnn]; omega) (fun i acc H'=>zB H H'/\acc.length=i/\Reps K H' (((List.range i).map (pr o t)).map elD) acc)
   ⟨zB.refl H,rfl,rfl⟩ (fun i acc H' _ h=>⟨trivial,Nat.le_of_eq h.2.1⟩) ?_ ?_
  ·rintro i x acc H' ys Nx hN hx hy ⟨sm,hal,rp⟩
   obtain ⟨y,rfl⟩:=uP hy
   rw [hnn] at hx
   obtain ⟨hi,rfl⟩:=kT hx
   refine ⟨_,rfl,_,rfl,_,rfl,_,rfl,(by rw [zY,sizeLine_eq]; omega),_,rfl,t.take i,o,(by rw [zAs]; rfl),ho,(by rw [List.length_take]; omega),?_⟩
   refine ⟨_,rfl,_,rfl,_,rfl,_,rfl,_,_,rfl,rfl,_,rfl,_,rfl,(by rw [zY,sizeLine_eq]; omega),?_⟩
   refine ⟨by show 2<=sizeLine; decide,fun p hp=>hN _ _ [some (.int i)] rfl ⟨sm.upd_new (sm.free hp),by rw [List.length_append,hal]; rfl,?_⟩⟩
   rw [List.range_succ,List.map_append,List.map_append]
   refine Reps.append (Reps.same (zB.upd1 hp) _ _ rp) (Reps.one ⟨p,_,rfl,.of zG,?_⟩)
   rw [zCe]
   exact ⟨_,_,rfl,rfl,_,_,rfl,rfl,rfl⟩
  ·rintro acc H' ⟨sm,hal,rp⟩ D hD
   refine k D acc _ (sm.upd_new (sm.free hD)) (sm.free hD) zG (Reps.same (zB.upd1 hD) _ _ ?_)
   rw [List.length_map,List.length_range,hnn] at rp
   exact rp
def vI (x:S):Prop:=1<=x.length/\x.length<=8/\∀ c∈x,97<=c/\c<=122
def letters:Str:=⟨#[97,98,99,100,101,102,103,104,105,106,107,108,109,110,111,112,113,114,115,116,117,118,119,120,121,122]⟩
structure Cst (K:PySem.W.Frag) (mg:Str->Option Value):Prop where
 letters:∃ t,mg "LETTERS" = some (.str letters t)
 ml:∃ t,mg "MOST_LETTERS" = some (.int 8 t)
 mn:∃ t,mg "MOST_NAMES" = some (.int 8 t)
 mo:∃ t,mg "MOST_ORDER" = some (.int 3 t)
 ib:PySem.W.kitOne K (.type "int") (.type "bool")=some false
abbrev zCh:Stmt:=top 15
theorem zKQ:FnScope ["thing"] ["thing"] (defScope zCh):=⟨rfl,rfl,rfl,by decide +kernel,rfl,by decide +kernel,by decide +kernel⟩
theorem nd1:(["letter"]:List Str).Nodup:=by decide +kernel
def zM (bk:List S):List V:=bk.map sv
structure isBk (bk:List S):Prop where
 lo:1<=bk.length
 hi:bk.length<=8
 nm:∀ x∈bk,vI x
abbrev zCi:Stmt:=top 16
theorem zKR:FnScope ["thing"] ["thing"] (defScope zCi):=⟨rfl,rfl,rfl,by decide +kernel,rfl,by decide +kernel,by decide +kernel⟩
theorem nd2:(["name"]:List Str).Nodup:=by decide +kernel
abbrev zCj:Stmt:=top 17
theorem zKS:FnScope ["thing", "least", "most"] ["thing", "least", "most"] (defScope zCj):=⟨rfl,rfl,rfl,by decide +kernel,rfl,by decide +kernel,by decide +kernel⟩
abbrev zCk:Stmt:=top 18
theorem zKT:FnScope ["thing"] ["thing"] (defScope zCk):=⟨rfl,rfl,rfl,by decide +kernel,rfl,by decide +kernel,by decide +kernel⟩
abbrev zCl:Stmt:=top 20
theorem zKU:FnScope ["thing"] ["thing"] (defScope zCl):=⟨rfl,rfl,rfl,by decide +kernel,rfl,by decide +kernel,by decide +kernel⟩
abbrev zCm:Stmt:=top 21
theorem zKV:FnScope ["thing"] ["thing"] (defScope zCm):=⟨rfl,rfl,rfl,by decide +kernel,rfl,by decide +kernel,by decide +kernel⟩
abbrev zCn:Stmt:=top 22
theorem zKW:FnScope ["thing"] ["thing"] (defScope zCn):=⟨rfl,rfl,rfl,by decide +kernel,rfl,by decide +kernel,by decide +kernel⟩
end
end Kn
end
section
namespace Kn
open PySem L2
theorem jH {a b:S} (h:tx a=tx b):a=b:=by
 have:=congrArg (fun z:Str=>z.cps.toList) h
 simpa [tx] using this
section
variable {α:Type}
def vP (f:α->V) (l:List (S × α)):List (zU × V):=jE (l.map fun p=>(tx p.1,f p.2))
theorem gZ (f:α->V) (p:S × α) (l:List (S × α)):vP f (p::l)=((Sum.inr (tx p.1):zU),f p.2)::vP f l:=rfl
theorem zAS (f:α->V) (l:List (S × α)):(vP f l).length=l.length:=by simp [vP,jE]
theorem zAT {a b:S}:((Sum.inr (tx a):zU)=Sum.inr (tx b))↔a=b:=⟨fun h=>jH (Sum.inr.inj h),fun h=>by rw [h]⟩
theorem jI (f:α->V) (l:List (S × α)) (k:S):vF (vP f l) (Sum.inr (tx k))=(zR l k).map f:=by
 induction l with
 | nil=>rfl
 | cons p r ih =>
  rw [gZ]
  by_cases e:p.1=k
  ·rw [jA (zAT.mpr e)]
   obtain ⟨a,b⟩:=p
   have e':a=k:=e
   subst e'
   simp [zR]
  ·rw [jB (fun z=>e (zAT.mp z)),ih]
   obtain ⟨a,b⟩:=p
   have e':¬ a=k:=e
   simp [zR,e']
theorem zKX (f:α->V) (l:List (S × α)) (k:S):((vP f l).any fun kv=>decide (kv.1=(Sum.inr (tx k):zU)))=decide (k∈l.map (·.1)):=by
 induction l with
 | nil=>rfl
 | cons p r ih =>
  rw [gZ,List.any_cons,ih]
  by_cases e:p.1=k
  ·have:decide ((Sum.inr (tx p.1):zU)=Sum.inr (tx k))=true:=decide_eq_true (zAT.mpr e)
   rw [this,Bool.true_or]
   exact (decide_eq_true (by rw [<- e]; exact List.mem_cons_self ..)).symm
  ·have:decide ((Sum.inr (tx p.1):zU)=Sum.inr (tx k))=false:=decide_eq_false (fun z=>e (zAT.mp z))
   rw [this,Bool.false_or]
   congr 1
   have e':¬ k=p.1:=fun z=>e z.symm
   simp [e']
theorem zBX (f:α->V) (l:List (S × α)) (k:S) (v:α) (nd:(l.map (·.1)).Nodup):uC (vP f l) (Sum.inr (tx k)) (f v)=vP f (z9 l k v):=by
 unfold uC
 rw [zKX]
 by_cases hk:k∈l.map (·.1)
 ·rw [if_pos (decide_eq_true hk)]
  induction l with
  | nil=>cases hk
  | cons p r ih =>
   obtain ⟨a,b⟩:=p
   have nd':=List.nodup_cons.mp nd
   rw [gZ,List.map_cons]
   by_cases e:a=k
   ·subst e
    have e1:z9 ((a,b)::r) a v=(a,v)::r:=by simp [z9]
    rw [e1,gZ]
    congr 1
    ·simp
    ·have:∀ q∈vP f r,(if q.1=(Sum.inr (tx a):zU) then (q.1,f v) else q)=q:=fun q hq=>by
      rw [if_neg]
      intro z
      obtain ⟨s,hs,e2⟩:=List.mem_map.mp hq
      obtain ⟨s',hs',e3⟩:=List.mem_map.mp hs
      have:s.1=tx s'.1:=by rw [<- e3]
      have h4:q.1=(Sum.inr (tx s'.1):zU):=by rw [<- e2,this]
      rw [h4] at z
      exact nd'.1 (List.mem_map.mpr ⟨s',hs',zAT.mp z⟩)
     have h5:=List.map_congr_left this
     rw [h5]; simp
   ·have e1:z9 ((a,b)::r) k v=(a,b)::z9 r k v:=by simp [z9,e]
    rw [e1,gZ]
    congr 1
    ·rw [if_neg (fun z=>e (zAT.mp z))]
    ·exact ih nd'.2 (by
      rcases List.mem_cons.mp hk with z | z
      ·exact absurd z.symm e
      ·exact z)
 ·rw [if_neg (by simpa using hk)]
  clear nd
  induction l with
  | nil=>rfl
  | cons p r ih =>
   obtain ⟨a,b⟩:=p
   have e:¬ a=k:=fun z=>hk (by rw [<- z]; exact List.mem_cons_self ..)
   have e1:z9 ((a,b)::r) k v=(a,b)::z9 r k v:=by simp [z9,e]
   rw [e1,gZ,gZ,List.cons_append,ih fun z=>hk (List.mem_cons_of_mem _ z)]
theorem zFk {β:Type} (l:List (S × β)) (k:S) (v:β):(z9 l k v).length<=l.length+1:=by
 induction l with
 | nil=>simp [z9]
 | cons p r ih =>
  obtain ⟨a,b⟩:=p
  by_cases e:a=k
  ·simp [z9,e]
  ·simp [z9,e]; omega
theorem zKY {β γ:Type} (g:β->γ) (l:List (S × β)) (k:S) (v:β):(z9 l k v).map (fun p=>(p.1,g p.2))=z9 (l.map fun p=>(p.1,g p.2)) k (g v):=by
 induction l with
 | nil=>rfl
 | cons p r ih =>
  obtain ⟨a,b⟩:=p
  by_cases e:a=k
  ·simp [z9,e]
  ·simp [z9,e,ih]
theorem zFl {β γ:Type} (g:β->γ) (l:List (S × β)) (k:S):zR (l.map fun p=>(p.1,g p.2)) k=(zR l k).map g:=by
 induction l with
 | nil=>rfl
 | cons p r ih =>
  obtain ⟨a,b⟩:=p
  by_cases e:a=k
  ·simp [zR,e]
  ·simp [zR,e,ih]
theorem zBY {β:Type}{l:List (S × β)}{k:S}{v:β}{q:S × β} (h:q∈z9 l k v):q=(k,v)\/(q∈l/\(q.1≠k\/(l.map (·.1)).Nodup->q.1≠k)):=by
 induction l with
 | nil=>simp [z9] at h; exact .inl h
 | cons p r ih =>
  obtain ⟨a,b⟩:=p
  by_cases e:a=k
  ·subst e
   have e1:z9 ((a,b)::r) a v=(a,v)::r:=by simp [z9]
   rw [e1] at h
   rcases List.mem_cons.mp h with z | z
   ·exact .inl z
   ·refine .inr ⟨List.mem_cons_of_mem _ z,?_⟩
    rintro (w | w)
    ·exact w
    ·intro e2
     exact (List.nodup_cons.mp w).1 (by rw [<- e2]; exact List.mem_map_of_mem (f:=(·.1)) z)
  ·have e1:z9 ((a,b)::r) k v=(a,b)::z9 r k v:=by simp [z9,e]
   rw [e1] at h
   rcases List.mem_cons.mp h with z | z
   ·subst z
    exact .inr ⟨List.mem_cons_self ..,fun _=>e⟩
   ·rcases ih z with w | ⟨w1,w2⟩
    ·exact .inl w
    ·refine .inr ⟨List.mem_cons_of_mem _ w1,?_⟩
     rintro (u | u)
     ·exact u
     ·exact w2 (.inr (List.nodup_cons.mp u).2)
theorem zAt {β:Type} (l:List (S × β)) (k:S) (v:β) (h:k ∉ l.map (·.1)):z9 l k v=l++[(k,v)]:=by
 induction l with
 | nil=>rfl
 | cons q r ih =>
  obtain ⟨a,b⟩:=q
  have e:¬ a=k:=fun z=>h (by rw [<- z]; exact List.mem_cons_self ..)
  have e1:z9 ((a,b)::r) k v=(a,b)::z9 r k v:=by simp [z9,e]
  rw [e1,ih fun z=>h (List.mem_cons_of_mem _ z)]; rfl
theorem zFm {β γ:Type} (g:β->γ) (l:List (S × β)) (k:S) (v u:β) (h:zR l k=some u) (e:g v=g u):(z9 l k v).map (fun p=>(p.1,g p.2))=l.map fun p=>(p.1,g p.2):=by
 induction l with
 | nil=>cases h
 | cons p r ih =>
  obtain ⟨a,b⟩:=p
  by_cases ea:a=k
  ·have:b=u:=by simpa [zR,ea] using h
   subst this
   simp [z9,ea,e]
  ·have h':zR r k=some u:=by simpa [zR,ea] using h
   simp [z9,ea,ih h']
theorem zCo (ps:List (S × S)):(v6 ps).length<=ps.length/\∀ r∈v6 ps,r.2.length<=ps.length:=by
 have key:∀ (qs:List (S × S)) (rows:List (S × List (S × Int))) (n:Nat),(rows.length<=n/\∀ r∈rows,r.2.length<=n)->(qs.foldl qM rows).length<=n+qs.length/\∀ r∈qs.foldl qM rows,r.2.length<=n+qs.length:=by
  intro qs
  induction qs with
  | nil=>intro rows n h; simpa using h
  | cons q qs ih =>
   intro rows n h
   have:=ih (qM rows q) (n+1) ⟨?_,fun r hr=>?_⟩
   ·rw [List.foldl_cons,List.length_cons]
    have e:n+(qs.length+1)=n+1+qs.length:=by omega
    rw [e]; exact this
   ·have:=zFk rows q.1 (v3 ((zR rows q.1).getD []) q.2)
    unfold qM; omega
   ·rcases zBY hr with e | ⟨e,_⟩
    ·rw [e]
     have h1:=zFk ((zR rows q.1).getD []) q.2 ((zR ((zR rows q.1).getD []) q.2).getD 0+1)
     have h2:((zR rows q.1).getD []).length<=n:=by
      cases g:zR rows q.1 with
      | none=>simp
      | some row =>
       have hm:(q.1,row)∈rows:=by
        clear h hr e h1
        induction rows with
        | nil=>cases g
        | cons p r ih2 =>
         obtain ⟨a,b⟩:=p
         by_cases ea:a=q.1
         ·have:b=row:=by simpa [zR,ea] using g
          subst this; subst ea
          exact List.mem_cons_self ..
         ·exact List.mem_cons_of_mem _ (ih2 (by simpa [zR,ea] using g))
       exact h.2 _ hm
     show (v3 _ _).length<=_
     unfold v3; omega
    ·have:=h.2 r e; omega
 have:=key ps [] 0 ⟨Nat.le_refl _,by simp⟩
 simpa [v6] using this
end
abbrev yV (row:List (S × Int)):List (zU × V):=vP V.int row
structure RA (H0 H:Hp) (d:Addr) (ps:List (S × S)) (ra:List (S × Addr × List (S × Int))):Prop where
 rows:ra.map (fun r=>(r.1,r.2.2))=v6 ps
 top:H d=some (.dK (vP (fun v:Addr × List (S × Int)=>V.ref v.1) ra))
 row:∀ r∈ra,H r.2.1=some (.dK (yV r.2.2))
 new:∀ r∈ra,H0 r.2.1=none/\r.2.1≠d
 nda:(ra.map fun r=>r.2.1).Nodup
def zCp (H:Hp) (d:Addr) (ps:List (S × S)):Prop:=∃ ra:List (S × Addr × List (S × Int)),ra.map (fun r=>(r.1,r.2.2))=v6 ps/\H d=some (.dK (vP (fun v:Addr × List (S × Int)=>V.ref v.1) ra))/\∀ r∈ra,H r.2.1=some (.dK (yV r.2.2))
section
variable {P:Program}{w:World}{K:PySem.W.Frag}{mg:Str->Option Value}{base:Heap}
def zBZ:Sp:=fun vs H Q _=>∃ (a:Addr) (bk:List S) (o:Nat),vs=[.ref a,.int o]/\H a=some (.tup (zM bk))/\bk.length<=8/\(∀ x∈bk,x.length<=8)/\1<=o/\∀ d H',zB H H'->H d=none->zCp H' d (zE o bk)->Q (.ref d) H'
abbrev zCq:Stmt:=top 25
theorem zFn:FnScope ["book", "order", "rows", "name", "end", "letter", "row"] ["book", "order"] (defScope zCq):=⟨rfl,rfl,rfl,by decide +kernel,rfl,by decide +kernel,by decide +kernel⟩
theorem zBa {H0 H:Hp}{d:Addr}{ps:List (S × S)}{ra:List (S × Addr × List (S × Int))} (R:RA H0 H d ps ra):(ra.map (·.1)).Nodup:=by
 have h:=(qN ps).nd
 rw [<- R.rows,List.map_map] at h
 exact h
theorem RA.step {H0 H H2:Hp}{d ad:Addr}{ps:List (S × S)}{ra:List (S × Addr × List (S × Int))} (R:RA H0 H d ps ra) (p:S × S) (row:List (S × Int)) (hrow:row=((zR ra p.1).map (·.2)).getD [])
  (had:∀ v,zR ra p.1=some v->v.1=ad) (hnew:zR ra p.1=none->H0 ad=none/\ad≠d/\ad ∉ ra.map fun r=>r.2.1)
  (h1:H2 ad=some (.dK (yV (v3 row p.2)))) (h2:H2 d=some (.dK (vP (fun v:Addr × List (S × Int)=>V.ref v.1) (z9 ra p.1 (ad,v3 row p.2))))) (h3:∀ r∈ra,r.2.1≠ad->H2 r.2.1=some (.dK (yV r.2.2))) :
  RA H0 H2 d (ps++[p]) (z9 ra p.1 (ad,v3 row p.2)):=by
 have nd:=zBa R
 have isin:∀ v,zR ra p.1=some v->(p.1,v)∈ra:=fun v hv=>(qB nd p.1 v).mpr hv
 have adr:∀ r∈ra,r.1≠p.1->r.2.1≠ad:=fun r hr hne e=>by
  cases g:zR ra p.1 with
  | none=>exact (hnew g).2.2 (List.mem_map.mpr ⟨r,hr,e⟩)
  | some v =>
   have hv:=isin v g
   have ev:=had v g
   have:r=(p.1,v):=by
    obtain ⟨i,hi,ei⟩:=List.getElem_of_mem hr
    obtain ⟨j,hj,ej⟩:=List.getElem_of_mem hv
    have hij:i=j:=by
     refine (List.getElem_inj (xs:=ra.map fun r=>r.2.1) (h₀:=by simpa using hi) (h₁:=by simpa using hj) R.nda).mp ?_
     rw [List.getElem_map,List.getElem_map,ei,ej]
     show r.2.1=v.1
     rw [e,ev]
    subst hij
    rw [<- ei,<- ej]
   exact hne (by rw [this])
 refine ⟨?_,h2,fun r hr=>?_,fun r hr=>?_,?_⟩
 ·rw [zKK,<- R.rows]
  unfold qM
  have e:=zKY (fun v:Addr × List (S × Int)=>v.2) ra p.1 (ad,v3 row p.2)
  rw [e]
  have e2:=zFl (fun v:Addr × List (S × Int)=>v.2) ra p.1
  rw [e2,<- hrow]
 ·rcases zBY hr with e | ⟨e,e'⟩
  ·rw [e]; exact h1
  ·exact h3 r e (adr r e (e' (.inr nd)))
 ·rcases zBY hr with e | ⟨e,_⟩
  ·rw [e]
   cases g:zR ra p.1 with
   | none=>exact ⟨(hnew g).1,(hnew g).2.1⟩
   | some v =>
    have:=R.new _ (isin v g)
    rw [<- had v g]; exact this
  ·exact R.new r e
 ·cases g:zR ra p.1 with
  | none =>
   have hk:p.1 ∉ ra.map (·.1):=zCc.mp g
   have e:=zAt ra p.1 (ad,v3 row p.2) hk
   rw [e,List.map_append]
   refine List.nodup_append.mpr ⟨R.nda,by simp,fun a ha b hb e2=>?_⟩
   have:b=ad:=by simpa using hb
   exact (hnew g).2.2 (by rw [<- this,<- e2]; exact ha)
  | some v =>
   have e:=zFm (fun v:Addr × List (S × Int)=>v.1) ra p.1 (ad,v3 row p.2) v g (had v g).symm
   have e2:(z9 ra p.1 (ad,v3 row p.2)).map (fun r=>r.2.1)=ra.map fun r=>r.2.1:=by
    have:=congrArg (List.map Prod.snd) e
    rw [List.map_map,List.map_map] at this
    exact this
   rw [e2]; exact R.nda
def j4 (H H':Hp):Prop:=∀ b o,H b=some o->(∀ kvs,o≠.dK kvs)->H' b=some o
theorem j4.upd {H:Hp}{a:Addr}{kvs:List (zU × V)}{u:HO} (h:H a=some (.dK kvs)):j4 H (upd H a u):=fun b o e hn=>by
 rw [zN]
 ·exact e
 ·rintro rfl; rw [h] at e; exact hn kvs (Option.some.inj e).symm
theorem j4.sqL {H H':Hp} (e:j4 H H') {a:Addr}{xs:List V} (h:yJ K H a xs):yJ K H' a xs:=by
 rcases h with (h | ⟨o,h⟩) | h
 ·exact .inl (.inl (e _ _ h (by intro z w; cases w)))
 ·exact .inl (.inr ⟨o,e _ _ h (by intro z w; cases w)⟩)
 ·exact .inr h
theorem j4.sqT {H H':Hp} (e:j4 H H') {a:Addr}{xs:List V} (h:yG K H a xs):yG K H' a xs:=by
 rcases h with (h | ⟨o,h⟩) | h
 ·exact .inl (.inl (e _ _ h (by intro z w; cases w)))
 ·exact .inl (.inr ⟨o,e _ _ h (by intro z w; cases w)⟩)
 ·exact .inr h
mutual
theorem vR.sameQ {H H':Hp} (e:j4 H H'):∀ (d:PyData) (v:V),vR K H d v->vR K H' d v
 | .none,v,h=>h
 | .bool b,v,h=>h
 | .int i,v,h=>h
 | .str x,v,h=>h
 | .list ds,v,h=>by
  obtain ⟨a,xs,h1,h2,h3⟩:=h
  exact ⟨a,xs,h1,e.sqL h2,Reps.sameQ e ds xs h3⟩
 | .tuple ds,v,h=>by
  obtain ⟨a,xs,h1,h2,h3⟩:=h
  exact ⟨a,xs,h1,e.sqT h2,Reps.sameQ e ds xs h3⟩
 | .dict _,v,h=>h
theorem Reps.sameQ {H H':Hp} (e:j4 H H'):∀ (ds:List PyData) (xs:List V),Reps K H ds xs->Reps K H' ds xs
 | [],xs,h=>h
 | d::ds,xs,h=>by
  obtain ⟨y,ys,h1,h2,h3⟩:=h
  exact ⟨y,ys,h1,vR.sameQ e d y h2,Reps.sameQ e ds ys h3⟩
end
theorem zFo {β:Type} (g:β->V) (l:List (S × β)) (k:S) (v u:β) (h:zR l k=some u) (e:g v=g u):vP g (z9 l k v)=vP g l:=by
 have:=zFm g l k v u h e
 unfold vP
 have e2:∀ m:List (S × β),m.map (fun p=>(tx p.1,g p.2))=(m.map fun p=>(p.1,g p.2)).map fun q=>(tx q.1,q.2):=fun m=>by rw [List.map_map]; rfl
 rw [e2,e2,this]
theorem zFp {H0 H:Hp}{d:Addr}{ps:List (S × S)}{ra:List (S × Addr × List (S × Int))} (R:RA H0 H d ps ra) {e:S}{v:Addr × List (S × Int)} (h:zR ra e=some v) :
  H v.1=some (.dK (yV v.2))/\(v.2.map (·.1)).Nodup/\v.2.length<=ps.length/\H0 v.1=none/\v.1≠d:=by
 have hm:=(qB (zBa R) e v).mpr h
 have hm2:(e,v.2)∈v6 ps:=by rw [<- R.rows]; exact List.mem_map.mpr ⟨(e,v),hm,rfl⟩
 exact ⟨R.row _ hm,(qN ps).ndr e v.2 hm2,(zCo ps).2 _ hm2,(R.new _ hm).1,(R.new _ hm).2⟩
theorem zKZ {f:Addr}{fd:FuncData} (F:Fun K "counted_rows" "counted_rows" zCq f fd) (cEnds:yH P w K mg base 2 "ends_and_letters" ["name", "order"] (zCf K)):FnOk P w K mg base yF 3 f fd ["book", "order"] zBZ:=by
 refine F.ok zFn (fun vs H Q E h=>?_) (fun cdv A outer s H vs Q E hr h=>?_)
 ·obtain ⟨a,bk,o,rfl,_⟩:=h; rfl
 ·obtain ⟨a,bk,o,rfl,ha,hb1,hb2,ho,k⟩:=h
  have hu:=gE hr
  have nd:=zFn.nd
  refine ⟨_,zI (z0 (i:=2) nd rfl (Or.inl rfl) zAp)
   (zI (qI PassesOwn.never rfl (gQ (pv 0)) (yS (i:=3) nd rfl (Or.inl rfl))
    (zJ (qI PassesOwn.never rfl (zAH (zT cEnds hr rfl (zC (pv 3) (zC (pv 1) zD))))
     (zAg rfl (qW (yS (i:=4) nd rfl (Or.inl rfl)) (qW (yS (i:=5) nd rfl (Or.inl rfl)) zAG)))
     (zI (z0 (i:=6) nd rfl (Or.inl rfl) (jM PySem.F.plainAttrs_dict PySem.F.slot_dict_setdefault PySem.F.type_dict_setdefault zJv (pv 2) (zC (pv 4) (zC zAp zD))))
      (zJ (zCM hu (pv 6) (pv 5) (zP yT (zCO hu (pv 6) (pv 5) zH ⟨rfl,rfl,rfl,rfl⟩) zH) rfl))))))
   (zJ (zV (pv 2)))),?_⟩
  intro d hd
  have s1:zB H (upd H d (.dK [])):=zB.upd1 hd
  refine ⟨_,rfl,a,rfl,⟨_,.of (s1 _ _ ha)⟩,?_⟩
  refine jN (gY K a (zM bk)) (fun i σ H'=>(∃ x y z u:Option V,σ=[some (.ref a),some (.int o),some (.ref d),x,y,z,u])/\zB H H'/\∃ ra,RA H H' d (zE o (bk.take i)) ra)
   ⟨⟨_,_,_,_,rfl⟩,s1,[],⟨rfl,zG,by simp,by simp,by simp⟩⟩ (fun i σ H' _ h=>.of (h.2.1 _ _ ha)) ?_ ?_
  ·rintro i x σ H' Nx hN hx ⟨⟨x1,x2,x3,x4,rfl⟩,sm,ra,R⟩
   rw [zM,List.getElem?_map] at hx
   cases e:bk[i]? with
   | none=>rw [e] at hx; cases hx
   | some nm =>
   rw [e] at hx
   have hy2:x=sv nm:=(Option.some.inj hx).symm
   subst hy2
   have hnm:=hb2 nm (List.mem_of_getElem? e)
   have hi:i < bk.length:=(List.getElem?_eq_some_iff.mp e).1
   have etake:bk.take (i+1)=bk.take i++[nm]:=by
    rw [List.take_succ_eq_append_getElem hi]
    have:=(List.getElem?_eq_some_iff.mp e).2
    rw [this]
   have epairs:zE o (bk.take (i+1))=zE o (bk.take i)++zX o nm:=by
    rw [etake,zFg]; simp [zE]
   have hplen:((zE o (bk.take (i+1))).length:Int)<=100:=by
    rw [zCd]
    have go:∀ l:List S,(∀ x∈l,x.length<=8)->(l.map fun x=>(x.length:Int)+1).sum<=9 * (l.length:Int):=by
     intro l
     induction l with
     | nil=>intro _; simp
     | cons x r ih =>
      intro hl
      have h1:=hl x (List.mem_cons_self ..)
      have h2:=ih fun y hy=>hl y (List.mem_cons_of_mem _ hy)
      rw [List.map_cons,List.sum_cons,List.length_cons]
      have:((r.length+1:Nat):Int)=(r.length:Int)+1:=rfl
      omega
    have:=go (bk.take (i+1)) fun x hx=>hb2 x (List.mem_of_mem_take hx)
    have h3:(bk.take (i+1)).length<=8:=by rw [List.length_take]; omega
    omega
   refine ⟨_,rfl,_,rfl,nm,o,rfl,ho,by omega,fun l xs Hl sml hln hll rp=>?_⟩
   refine ⟨l,rfl,⟨_,.of hll⟩,?_⟩
   have R1:RA H Hl d (zE o (bk.take i)) ra:=⟨R.rows,sml _ _ R.top,fun r hr=>sml _ _ (R.row r hr),R.new,R.nda⟩
   have hld:H l=none:=sm.free hln
   have hdl:l≠d:=zBD hll (sml _ _ R.top) (by intro z; cases z)
   refine jN (zAR K l xs) (fun j σ H2=>(∃ y z u:Option V,σ=[some (.ref a),some (.int o),some (.ref d),some (sv nm),y,z,u])/\zB H H2/\H2 l=some (.lst xs)/\Reps K H2 ((zX o nm).map elD) xs/\∃ ra,RA H H2 d (zE o (bk.take i)++(zX o nm).take j) ra/\∀ r∈ra,r.2.1≠l)
    ⟨⟨_,_,_,rfl⟩,sm.trans sml,hll,rp,ra,by simpa using R1,fun r hr=>zBD (R1.row r hr) hll (by intro z; cases z)⟩ (fun j σ H2 _ h=>.of h.2.2.1) ?_ ?_
   ·rintro j x σ H2 Nx2 hN2 hx2 ⟨⟨y,z,u,rfl⟩,sm2,hl2,rp2,ra2,R2,hal⟩
    obtain ⟨dd,hdd,rx⟩:=rp2.get hx2
    rw [List.getElem?_map] at hdd
    cases ep:(zX o nm)[j]? with
    | none=>rw [ep] at hdd; cases hdd
    | some p =>
    rw [ep] at hdd
    have hd2:dd=elD p:=(Option.some.inj hdd).symm
    subst hd2
    obtain ⟨at',xs',rfl,hsq,y1,ys1',rfl,ry1,y2,ys2',rfl,ry2,hnil⟩:=rx
    have ey1:y1=sv p.1:=ry1
    have ey2:y2=sv p.2:=ry2
    have en:ys2'=[]:=hnil
    subst ey1 ey2 en
    have hj:j < (zX o nm).length:=(List.getElem?_eq_some_iff.mp ep).1
    have etk:zE o (bk.take i)++(zX o nm).take (j+1)=(zE o (bk.take i)++(zX o nm).take j)++[p]:=by
     rw [List.take_succ_eq_append_getElem hj,(List.getElem?_eq_some_iff.mp ep).2,List.append_assoc]
    generalize hps:zE o (bk.take i)++(zX o nm).take j=ps at R2 etk
    have hpl:ps.length<=100:=by
     have h1:ps.length<=(zE o (bk.take (i+1))).length:=by
      rw [<- hps,epairs,List.length_append,List.length_append,List.length_take]; omega
     omega
    have hral:ra2.length<=100:=by
     have h1:=(zCo ps).1
     rw [<- R2.rows,List.length_map] at h1
     omega
    refine ⟨at',[sv p.1,sv p.2],rfl,hsq,rfl,_,_,rfl,_,_,rfl,rfl,?_⟩
    refine ⟨_,rfl,.inr (.inr (.inl ⟨rfl,.inl ⟨_,R2.top⟩⟩)),_,rfl,fun e0 he0=>?_⟩
    have he0H:H e0=none:=sm2.free he0
    have hde:d≠e0:=vO R2.top he0
    have s3:zB H2 (upd H2 e0 (.dK [])):=zB.upd1 he0
    have fin:∀ (ad:Addr) (row:List (S × Int)) (Hx:Hp),Hx ad=some (.dK (yV row))->(row.map (·.1)).Nodup->row.length<=100->(∀ H4,H4=upd Hx ad (.dK (yV (v3 row p.2)))->Nx2 [some (.ref a),some (.int o),some (.ref d),some (sv nm),some (sv p.1),some (sv p.2),some (.ref ad)] H4) ->
      zCL (qH 6) (qH 5) (tOp (k9 fun i j=>V.int (i+j)) (zCN (qH 6) (qH 5) (tC (.int 0))) (tC (.int 1))) { nx:=Nx2,rt:=Q,bk:=fun _ _=>False,ct:=fun _ _=>False } [some (.ref a),some (.int o),some (.ref d),some (sv nm),some (sv p.1),some (sv p.2),some (.ref ad)] Hx:=by
     intro ad row Hx hrow hnd hrl hq
     refine ⟨_,rfl,ad,rfl,.inl ⟨_,.inl hrow⟩,_,rfl,_,vW.k (k:=Sum.inr (tx p.2)) hrow,(zR row p.2).getD 0,1,?_,rfl,?_⟩
     ·rw [jI]
      cases zR row p.2 <;> rfl
     ·refine ⟨_,rfl,_,rfl,ad,_,rfl,gW.k (k:=Sum.inr (tx p.2)) hrow (by rw [zAS,sizeLine_eq]; omega),hq _ ?_⟩
      rw [zBX V.int row p.2 _ hnd]
      rfl
    have common:∀ (ad:Addr) (row:List (S × Int)) (Hx H4:Hp),zB H Hx->H ad=none->Hx l=some (.lst xs)->Reps K Hx ((zX o nm).map elD) xs->H4=upd Hx ad (.dK (yV (v3 row p.2)))->Hx ad=some (.dK (yV row))->RA H H4 d (ps++[p]) (z9 ra2 p.1 (ad,v3 row p.2)) ->
      Nx2 [some (.ref a),some (.int o),some (.ref d),some (sv nm),some (sv p.1),some (sv p.2),some (.ref ad)] H4:=by
     intro ad row Hx H4 sx had hxl hxr e4 hrow RR
     have hadl:ad≠l:=zBD hrow hxl (by intro z; cases z)
     subst e4
     refine hN2 _ _ ⟨⟨_,_,_,rfl⟩,sx.upd_new had,by rw [zN hadl.symm]; exact hxl,Reps.sameQ (j4.upd hrow) _ _ hxr,_,by rw [etk]; exact RR,fun r hr=>?_⟩
     rcases zBY hr with e | ⟨e,_⟩
     ·rw [e]; exact hadl
     ·exact hal r e
    have hx3:upd H2 e0 (.dK []) d=some (.dK (vP (fun v:Addr × List (S × Int)=>V.ref v.1) ra2)):=by rw [zN hde]; exact R2.top
    have hl3:upd H2 e0 (.dK []) l=some (.lst xs):=s3 _ _ hl2
    have hr3:∀ r∈ra2,upd H2 e0 (.dK []) r.2.1=some (.dK (yV r.2.2)):=fun r hr=>s3 _ _ (R2.row r hr)
    have hre:∀ r∈ra2,r.2.1≠e0:=fun r hr=>vO (R2.row r hr) he0
    refine ⟨d,_,Sum.inr (tx p.1),_,rfl,rfl,hx3,by rw [zAS,sizeLine_eq]; omega,fun yv hyv=>?_,fun hnv=>?_⟩
    ·
     rw [jI] at hyv
     cases g:zR ra2 p.1 with
     | none=>rw [g] at hyv; cases hyv
     | some v =>
     rw [g] at hyv
     have ev:yv=.ref v.1:=(Option.some.inj hyv).symm
     subst ev
     obtain ⟨r1,r2,r3,r4,r5⟩:=zFp R2 g
     have hrow3:upd H2 e0 (.dK []) v.1=some (.dK (yV v.2)):=s3 _ _ r1
     refine fin v.1 v.2 _ hrow3 r2 (by omega) fun H4 e4=>common v.1 v.2 _ H4 (sm2.trans s3) r4 hl3 (Reps.same s3 _ _ rp2) e4 hrow3 ?_
     refine R2.step p v.2 (by rw [g]; rfl) (fun v' hv'=>by rw [g] at hv'; rw [Option.some.inj hv']) (fun hn=>by rw [g] at hn; cases hn) (by rw [e4,zG]) ?_ fun r hr hne=>?_
     ·rw [e4,zN r5.symm,hx3]
      have:=zFo (fun v:Addr × List (S × Int)=>V.ref v.1) ra2 p.1 (v.1,v3 v.2 p.2) v g rfl
      rw [this]
     ·rw [e4,zN hne]; exact hr3 r hr
    ·
     rw [jI] at hnv
     have g:zR ra2 p.1=none:=by
      cases g:zR ra2 p.1 with
      | none=>rfl
      | some v=>rw [g] at hnv; cases hnv
     have hp2:=zBX (fun v:Addr × List (S × Int)=>V.ref v.1) ra2 p.1 (e0,[]) (zBa R2)
     have hHx:upd (upd H2 e0 (.dK [])) d (.dK (uC (vP (fun v:Addr × List (S × Int)=>V.ref v.1) ra2) (Sum.inr (tx p.1)) (.ref e0))) e0=some (.dK (yV [])):=by
      rw [zN hde.symm,zG]; rfl
     refine fin e0 [] _ hHx (by simp) (by simp) fun H4 e4=>common e0 [] _ H4 ((sm2.trans s3).upd_new hd) he0H (by rw [zN hdl]; exact hl3) (Reps.sameQ (j4.upd hx3) _ _ (Reps.same s3 _ _ rp2)) e4 hHx ?_
     refine R2.step p [] (by rw [g]; rfl) (fun v' hv'=>by rw [g] at hv'; cases hv') (fun _=>⟨he0H,hde.symm,fun hm=>?_⟩) (by rw [e4,zG]) ?_ fun r hr hne=>?_
     ·obtain ⟨r,hr,e⟩:=List.mem_map.mp hm
      exact hre r hr e
     ·rw [e4,zN hde,zG,hp2]
      congr 2
      have hk:p.1 ∉ ra2.map (·.1):=zCc.mp g
      rw [zAt _ _ _ hk,zAt _ _ _ hk]
      unfold vP jE
      rw [List.map_append,List.map_append,List.map_append,List.map_append]
      rfl
     ·rw [e4,zN hne,zN (R2.new r hr).2]; exact hr3 r hr
   ·rintro σ H2 ⟨⟨y,z,u,rfl⟩,sm2,hl2,rp2,ra2,R2,_⟩
    refine hN _ _ ⟨⟨_,_,_,_,rfl⟩,sm2,ra2,?_⟩
    rw [epairs]
    have hxl:xs.length=(zX o nm).length:=by have:=rp2.length; simpa using this.symm
    rw [hxl,List.take_length] at R2
    exact R2
  ·rintro σ H' ⟨⟨x1,x2,x3,x4,rfl⟩,sm,ra,R⟩
   refine ⟨_,rfl,k d H' sm hd ⟨ra,?_,R.top,R.row⟩⟩
   rw [R.rows]
   have:(zM bk).length=bk.length:=by simp [zM]
   rw [this,List.take_length]
end
end Kn
end
section
namespace Kn
open PySem L2
theorem zKa {ps:List (S × S)}{e:S}{xs:List (S × Int)} (nd:(xs.map (·.1)).Nodup) (mem:∀ l n,(l,n)∈xs↔n=(ps.count (e,l):Int)/\0 < n):(xs.map (·.2)).sum=(tot ps e:Int):=by
 have h:=zBU (ps.filter fun p=>decide (p.1=e)) (xs.map fun p=>(e,p.1)) ?_ ?_
 ·unfold tot
  rw [<- h,List.map_map]
  congr 1
  apply List.map_congr_left
  rintro ⟨l,n⟩ hm
  have:=((mem l n).mp hm).1
  show n=(List.count (e,l) (ps.filter fun p=>decide (p.1=e)):Int)
  rw [List.count_filter (by simp)]
  exact this
 ·have:=nd
  rw [List.Nodup,List.pairwise_map] at this ⊢
  exact this.imp fun {p q} hpq z=>hpq (congrArg Prod.snd z)
 ·rintro ⟨e',l⟩ hm
  obtain ⟨h1,h2⟩:=List.mem_filter.mp hm
  have h2':e'=e:=by simpa using h2
  subst h2'
  exact List.mem_map.mpr ⟨(l,(ps.count (e',l):Int)),(mem l _).mpr ⟨rfl,by
   have:=List.count_pos_iff.mpr h1
   omega⟩,rfl⟩
def yL (ps:List (S × S)) (e:S):List (S × Int):=(zR (v6 ps) e).getD []
theorem g0 (ps:List (S × S)) (e:S):((yL ps e).map (·.1)).Nodup:=by
 unfold yL
 cases g:zR (v6 ps) e with
 | none=>simp
 | some row=>exact (qN ps).ndr e row ((qB (qN ps).nd e row).mpr g)
theorem zBb (ps:List (S × S)) (e l:S):zR (yL ps e) l=if 0 < ps.count (e,l) then some (ps.count (e,l):Int) else none:=(qN ps).val e l
theorem zAU (ps:List (S × S)) (e l:S) (n:Int):(l,n)∈yL ps e↔n=(ps.count (e,l):Int)/\0 < n:=by
 rw [qB (g0 ps e),zBb]
 by_cases c:0 < ps.count (e,l)
 ·rw [if_pos c]
  constructor
  ·intro z
   have:=Option.some.inj z
   omega
  ·rintro ⟨z,_⟩; rw [z]
 ·rw [if_neg c]
  constructor
  ·intro z; cases z
  ·rintro ⟨z1,z2⟩; omega
theorem zFq (ps:List (S × S)) (e:S):((yL ps e).map (·.2)).sum=(tot ps e:Int):=zKa (g0 ps e) (zAU ps e)
theorem tot_le (ps:List (S × S)) (e:S):tot ps e<=ps.length:=List.length_filter_le ..
section
variable {P:Program}{w:World}{K:PySem.W.Frag}{mg:Str->Option Value}{base:Heap}
theorem zFr {X:Cx} (K':PySem.W.Frag) {pos:Pos}{es:List Expr}{k:Nat}{t:k8} (n:Nat) (hK:X.K=K') (hc:X.calm=true) (h:PGs X es t)
  (hn:(assignEach es X.env).length=n) (hst:(assignEach es X.env).findIdx? (·.1)=none):PG X (.Tuple es k pos) (zEM K' n t):=by
 subst hK
 exact zAg hc h hn hst
end
theorem zCp.get {H:Hp}{d:Addr}{ps:List (S × S)} (h:zCp H d ps) (e:S):∃ kvs:List (zU × V),H d=some (.dK kvs)/\((vF kvs (Sum.inr (tx e))=none/\yL ps e=[])\/∃ a,vF kvs (Sum.inr (tx e))=some (.ref a)/\H a=some (.dK (yV (yL ps e)))):=by
 obtain ⟨ra,h1,h2,h3⟩:=h
 refine ⟨_,h2,?_⟩
 rw [jI]
 have nd:(ra.map (·.1)).Nodup:=by
  have h:=(qN ps).nd
  rw [<- h1,List.map_map] at h
  exact h
 have e2:zR (v6 ps) e=(zR ra e).map (·.2):=by
  rw [<- h1]
  exact zFl (fun v:Addr × List (S × Int)=>v.2) ra e
 cases g:zR ra e with
 | none=>exact .inl ⟨rfl,by unfold yL; rw [e2,g]; rfl⟩
 | some v =>
  refine .inr ⟨v.1,rfl,?_⟩
  have:=h3 _ ((qB nd e v).mpr g)
  unfold yL
  rw [e2,g]
  exact this
theorem zBc (o:Nat) (nm:S):(zX o nm).length=nm.length+1:=by simp [zX]
structure Bk (bk:List S) (o:Nat):Prop extends isBk bk where
 o1:1<=o
 o3:o<=3
theorem Bk.l8 {bk:List S}{o:Nat} (h:Bk bk o):∀ x∈bk,x.length<=8:=fun x hx=>(h.nm x hx).2.1
section
variable {P:Program}{w:World}{K:PySem.W.Frag}{mg:Str->Option Value}{base:Heap}
end
end Kn
end
section
namespace Kn
open PySem L2
theorem zCr (x:Str):tx x.cps.toList=x:=by
 apply MyS.Str_ext
 simp [tx]
theorem zFs (l:List Str):(l.map fun x=>x.cps.toList).map tx=l:=by
 rw [List.map_map]
 conv=>rhs; rw [<- List.map_id l]
 apply List.map_congr_left
 intro x _
 exact zCr x
section
variable {P:Program}{w:World}{K:PySem.W.Frag}{mg:Str->Option Value}{base:Heap}
theorem zKb {X:Cx} (K':PySem.W.Frag) (hK:X.K=K') {o:Expr}{to:TE}{name:Str}{apos cpos:Pos}{T id:String}{r:V->List V->Hp->VK->Prop} (pa:PlainAttrs T) (slot:Slot T name id) (hty:typeOf (.builtin id)=pure (.type "method_descriptor")) (hm:MtR X id r) (ho:PE X o to)
  (hbase:attributeBase o name X.env (eval o X.env)=eval o X.env:=by rfl) (hline:(apos.endLine == cpos.line)=true:=by rfl):PE X (.Call (.Attribute o name apos) [] [] cpos) (zEv K' T r to):=by
 subst hK
 exact zIx pa slot hty hm ho hbase hline
end
theorem jO {c A B:Prop} [Decidable c] (hc:¬ c) (h:A):if (!decide c)=true then A else B:=by
 rw [decide_eq_false hc]; exact h
end Kn
end
section
namespace Kn
open PySem L2
section
variable {P:Program}{w:World}{K:PySem.W.Frag}{mg:Str->Option Value}{base:Heap}
theorem zFt {H:Hp}:∀ ns:List Int,Reps K H (ns.map PyData.int) (ns.map V.int)
 | []=>rfl
 | n::ns=>⟨_,_,rfl,rfl,zFt ns⟩
theorem zFu:∀ ns:List Int,PyData.canLayAll0 (ns.map PyData.int)=true
 | []=>rfl
 | n::ns=>by rw [List.map_cons]; simp only [PyData.canLayAll0,PyData.canLay0,zFu ns,Bool.and_self]
def zFv (K:PySem.W.Frag):Sp:=fun vs H Q _=>∃ (a:Addr) (ns:List Int) (k:Nat),vs=[.ref a,.int k]/\yJ K H a (ns.map V.int)/\ns.length<=63/\∀ (i:Int) H',zB H H'->Q (.int i) H'
abbrev zCs:Stmt:=top 55
theorem zKc:FnScope ["_law_script", "_law_k"] ["_law_script", "_law_k"] (defScope zCs):=⟨rfl,rfl,rfl,by decide +kernel,rfl,by decide +kernel,by decide +kernel⟩
theorem zKd (ns:List Int):SeqAt.shaped (.list (ns.map PyData.int))=true:=by
 unfold SeqAt.shaped
 have h1:(PyData.list (ns.map PyData.int)).canLay0=true:=by simp only [PyData.canLay0]; exact zFu ns
 have h2:(PyData.list (ns.map PyData.int)).depth<=64:=by
  have go:∀ ns:List Int,PyData.depthAll (ns.map PyData.int)<=1:=by
   intro ns
   induction ns with
   | nil=>decide
   | cons n ns ih=>rw [List.map_cons]; simp only [PyData.depthAll,PyData.depth]; omega
  have:=go ns
  simp only [PyData.depth]; omega
 rw [h1,decide_eq_true h2]; rfl
theorem zKe {f:Addr}{fd:FuncData} (F:Fun K "_law_cell" "_law_cell" zCs f fd) (B:Blt mg):FnOk P w K mg base yF 1 f fd ["_law_script", "_law_k"] (zFv K):=by
 refine F.ok zKc (fun vs H Q E h=>?_) (fun cdv A outer s H vs Q E hr h=>?_)
 ·obtain ⟨a,ns,k,rfl,_⟩:=h; rfl
 ·obtain ⟨a,ns,n,rfl,ha,hl,k⟩:=h
  have hu:=hr.units
  refine ⟨_,zI (yQ (vH (zCS hu) (pv 0) (yR zD) (vC _)) (zJ (zV (zP gS zH (pv 1)))) yP)
   (zJ (zV (zP yT (yK jT (pv 0) (zP gA (pv 1) (yC kP (by rfl) B.len PySem.boot_len (zC (pv 0) zD))) (fun _ _=>rfl))
    (zP gS zH (zP zBJ (pv 1) (yC kP (by rfl) B.len PySem.boot_len (zC (pv 0) zD))))))),?_⟩
  refine ⟨_,rfl,by show 0<=sizeLine; decide,fun p hp=>?_⟩
  have s1:zB H (upd H p (.lst [])):=zB.upd1 hp
  refine ⟨.list (ns.map PyData.int),.list [],⟨a,_,rfl,s1.seq ha,zFt ns⟩,⟨p,[],rfl,.of zG,rfl⟩,zKd ns,rfl,_,rfl,?_⟩
  cases ns with
  | nil=>exact z7 ⟨_,rfl,7,n,rfl,rfl,.inl ⟨by decide,by decide⟩,k _ _ s1⟩
  | cons m ns =>
   refine yU ?_
   have hlen:((m::ns).map V.int).length=ns.length+1:=by simp
   have hll:ns.length+1<=63:=by simpa using hl
   have hm:((n:Int) % (((m::ns).map V.int).length:Int))=((n % (ns.length+1):Nat):Int):=by rw [hlen]; rfl
   have hlt:n % (ns.length+1) < ((m::ns).map V.int).length:=by rw [hlen]; exact Nat.mod_lt _ (Nat.succ_pos _)
   refine ⟨_,rfl,_,rfl,_,rfl,a,_,rfl,.inl (s1.seq ha),_,_,rfl,rfl,by rw [hlen]; omega,?_⟩
   refine ⟨a,_,_,.int ((m::ns)[n % (ns.length+1)]'(by simpa using hlt)),rfl,rfl,s1.seq ha,?_,?_⟩
   ·rw [hm]
    refine qY ?_
    rw [List.getElem?_map,List.getElem?_eq_getElem (by simpa using hlt)]; rfl
   ·exact ⟨_,rfl,_,rfl,a,_,rfl,.inl (s1.seq ha),_,_,rfl,rfl,⟨by rw [hlen]; omega,by rw [hlen]; omega⟩,_,_,rfl,rfl,.inl ⟨by decide,by decide⟩,_,_,rfl,rfl,k _ _ s1⟩
theorem lt0 {d:Int} (h:0 < d):0 < d:=h
theorem cmE {t d q:Int} (h:0 < d) (h2:d < 18446744073709551616):zBH (t % d) q:=by
 have h1:=Int.emod_nonneg t (show d≠0 by omega)
 have h3:=Int.emod_lt_of_pos t h
 exact .inl ⟨by omega,by omega⟩
def zBd (K:PySem.W.Frag):Sp:=fun vs H Q _=>∃ (a:Addr) (ns:List Int) (k m:Nat),vs=[.ref a,.int k,.int m]/\yJ K H a (ns.map V.int)/\ns.length<=63/\1<=m/\m < 100000/\∀ (i:Nat) H',i < m->zB H H'->Q (.int i) H'
abbrev zCt:Stmt:=top 56
theorem zFw:FnScope ["_law_script", "_law_k", "_law_many", "_law_cell_here"] ["_law_script", "_law_k", "_law_many"] (defScope zCt):=⟨rfl,rfl,rfl,by decide +kernel,rfl,by decide +kernel,by decide +kernel⟩
theorem zKf {f:Addr}{fd:FuncData} (F:Fun K "_law_drawn" "_law_drawn" zCt f fd) (c1:yH P w K mg base 1 "_law_cell" ["_law_script", "_law_k"] (zFv K)):FnOk P w K mg base yF 2 f fd ["_law_script", "_law_k", "_law_many"] (zBd K):=by
 refine F.ok zFw (fun vs H Q E h=>?_) (fun cdv A outer s H vs Q E hr h=>?_)
 ·obtain ⟨a,ns,k,m,rfl,_⟩:=h; rfl
 ·obtain ⟨a,ns,n,m,rfl,ha,hl,hm1,hm2,k⟩:=h
  have nd:=zFw.nd
  refine ⟨_,zI (z0 (i:=3) nd rfl (Or.inl rfl) (zP gA (zP yT (zP gS (zP gA (zT c1 hr rfl (zC (pv 0) (zC (pv 1) zD))) zH) zH) (zP gS zH (zP yT (pv 1) zH))) zH))
   (zI (z0 (i:=3) nd rfl (Or.inl rfl) (zP gA (zP yT (zP gS (pv 3) (pv 3)) (zP zBJ (pv 3) zH)) zH))
   (zJ (zV (zP gA (zP zBJ (zP gA (zP yT (zP gS (pv 3) (pv 3)) (zP zBJ (pv 3) zH)) zH) zH) (pv 2))))),?_⟩
  refine ⟨_,rfl,_,rfl,a,ns,n,rfl,ha,hl,fun i H' s1=>?_⟩
  have fin:∀ z:Int,Q (.int (z % (m:Int))) H':=fun z=>by
   have z1:0<=z % (m:Int):=Int.emod_nonneg _ (by omega)
   have z2:z % (m:Int) < m:=Int.emod_lt_of_pos _ (by omega)
   have e:z % (m:Int)=((z % (m:Int)).toNat:Int):=(Int.toNat_of_nonneg z1).symm
   rw [e]
   exact k _ _ (by omega) s1
  refine ⟨_,_,rfl,rfl,lt0 (by decide),_,_,rfl,rfl,.inr ⟨by decide,by decide⟩,?_⟩
  refine ⟨_,rfl,_,_,rfl,rfl,_,_,rfl,rfl,.inl ⟨by decide,by decide⟩,_,_,rfl,rfl,_,_,rfl,rfl,lt0 (by decide),?_⟩
  refine ⟨_,rfl,_,rfl,_,_,rfl,rfl,cmE (by decide) (by decide),_,rfl,_,_,rfl,rfl,⟨by decide,by decide⟩,_,_,rfl,rfl,_,_,rfl,rfl,lt0 (by decide),?_⟩
  refine ⟨_,rfl,_,rfl,_,_,rfl,rfl,cmE (by decide) (by decide),_,rfl,_,_,rfl,rfl,⟨by decide,by decide⟩,_,_,rfl,rfl,_,_,rfl,rfl,lt0 (by decide),_,_,rfl,rfl,⟨by decide,by decide⟩,_,rfl,_,_,rfl,rfl,?_,fin _⟩
  show (0:Int) < (m:Int)
  omega
end
end Kn
end
section
namespace Kn
open PySem L2
section
variable {P:Program}{w:World}{K:PySem.W.Frag}{mg:Str->Option Value}{base:Heap}
def zCu (K:PySem.W.Frag):Sp:=fun vs H Q _=>∃ (a:Addr) (ns:List Int) (at' most:Nat),vs=[.ref a,.int at',.int most]/\yJ K H a (ns.map V.int)/\ns.length<=63/\1<=most/\most<=8 /\
 ∀ (x:S) H',zB H H'->vI x->x.length<=most->Q (sv x) H'
abbrev zCv:Stmt:=top 57
theorem zFx:FnScope ["_law_script", "_law_at", "_law_most", "_law_size", "_law_letters"] ["_law_script", "_law_at", "_law_most"] (defScope zCv):=⟨rfl,rfl,rfl,by decide +kernel,rfl,by decide +kernel,by decide +kernel⟩
theorem ndN:(["_law_letters", "_law_script", "_law_at", "_law_k"]:List Str).Nodup:=by decide +kernel
abbrev cDr (P:Program) (w:World) (K:PySem.W.Frag) (mg:Str->Option Value) (base:Heap):Prop:=yH P w K mg base 2 "_law_drawn" ["_law_script", "_law_k", "_law_many"] (zBd K)
theorem zKg {f:Addr}{fd:FuncData} (F:Fun K "_law_name" "_law_name" zCv f fd) (B:Blt mg) (c1:cDr P w K mg base):FnOk P w K mg base yF 3 f fd ["_law_script", "_law_at", "_law_most"] (zCu K):=by
 refine F.ok zFx (fun vs H Q E h=>?_) (fun cdv A outer s H vs Q E hr h=>?_)
 ·obtain ⟨a,ns,k,m,rfl,_⟩:=h; rfl
 ·obtain ⟨a,ns,n,m,rfl,ha,hl,hm1,hm2,k⟩:=h
  have nd:=zFx.nd
  refine ⟨_,zI (z0 (i:=3) nd rfl (Or.inl rfl) (zP yT zH (zT c1 hr rfl (zC (pv 0) (zC (pv 1) (zC (pv 2) zD))))))
   (zI (z0 (i:=4) nd rfl (Or.inr rfl) (yK jT (yR (zC yD (zC yD (zC yD zD)))) (zT c1 hr rfl (zC (pv 0) (zC (zP yT (pv 1) zH) (zC zH zD)))) (fun _ _=>rfl)))
   (zJ (zV (jM PySem.F.plainAttrs_str PySem.F.slot_str_join PySem.F.type_str_join zJr yD (zC
    (qA (N:=["_law_letters", "_law_script", "_law_at", "_law_k"]) (caps:=[4,0,1]) rfl (uT (by kernel_rfl)) (kM rfl B.range (zC (pv 3) zD))
     (fun cl C s H ex=>yS (i:=3) ndN rfl (Or.inl rfl)) (fun cl C s H ex=>uZ)
     (fun cl C s H ex=>yK zEp (pv 0) (zT c1 hr rfl (zC (pv 1) (zC (zP yT (zP yT (pv 2) zH) (pv 3)) (zC (yC qZ (by rfl) B.len PySem.boot_len (zC (pv 0) zD)) zD)))) (fun _ _=>rfl))) zD))))),?_⟩
  refine ⟨_,rfl,_,rfl,_,rfl,a,ns,n,m,rfl,ha,hl,hm1,by omega,fun sz H1 hsz s1=>?_⟩
  refine ⟨_,_,rfl,rfl,?_⟩
  refine ⟨by show 3<=sizeLine; decide,fun p hp=>?_⟩
  have s2:zB H1 (upd H1 p (.lst [.str "ab",.str "ab",.str "abz"])):=zB.upd1 hp
  refine ⟨_,rfl,_,rfl,_,_,rfl,rfl,a,ns,n+9,3,rfl,s2.seq (s1.seq ha),hl,by decide,by decide,fun li H3 hli s3=>?_⟩
  have s123:=(s1.trans s2).trans s3
  obtain ⟨L,hL,e⟩:∃ L:S,(L=[97,98]\/L=[97,98,122])/\([.str "ab",.str "ab",.str "abz"]:List V)[li]?=some (sv L):=by
   match li,hli with
   | 0,_=>exact ⟨[97,98],.inl rfl,rfl⟩
   | 1,_=>exact ⟨[97,98],.inl rfl,rfl⟩
   | 2,_=>exact ⟨[97,98,122],.inr rfl,rfl⟩
  refine ⟨p,_,_,sv L,rfl,rfl,.of (s3 _ _ zG),qY e,?_⟩
  refine ⟨rfl,_,rfl,_,rfl,by omega,by omega,?_⟩
  have hLl:L.length=2\/L.length=3:=by rcases hL with h | h <;> subst h <;> simp
  have hLc:∀ c∈L,97<=c/\c<=122:=by rcases hL with h | h <;> subst h <;> decide
  have hnn:(1+(sz:Int)).toNat=sz+1:=by omega
  refine qL (jY 0 _) [some (sv L),some (.ref a),some (.int n)] 1 (by rw [List.length_map,List.length_range,hnn]; omega) (fun i acc H'=>zB H3 H'/\∃ cs:S,acc=cs.map (fun c=>V.str (tx [c]))/\cs.length=i/\∀ c∈cs,97<=c/\c<=122)
   ⟨zB.refl _,[],rfl,rfl,by simp⟩ (fun i acc H' _ h=>⟨trivial,by obtain ⟨_,cs,rfl,h,_⟩:=h; rw [List.length_map]; omega⟩) ?_ ?_
  ·rintro i x acc H' ys Nx hN hx hy ⟨sm,cs,rfl,hcl,hcs⟩
   obtain ⟨y,rfl⟩:=uP hy
   rw [hnn] at hx
   obtain ⟨hi,rfl⟩:=kT hx
   refine ⟨_,rfl,_,rfl,_,rfl,_,_,rfl,rfl,_,rfl,_,_,rfl,rfl,_,rfl,tx L,rfl,by rw [zY,sizeLine_eq]; omega,?_⟩
   rw [zY]
   refine ⟨a,ns,n+1+i,L.length,rfl,(s123.trans sm).seq ha,hl,by omega,by omega,fun j H5 hj s5=>?_⟩
   refine ⟨tx L,_,L[j],rfl,rfl,by rw [zY,sizeLine_eq]; omega,?_,?_⟩
   ·rw [v7]
    exact qY (List.getElem?_eq_getElem hj)
   ·refine hN _ _ [some (.int i)] rfl ⟨sm.trans s5,cs++[L[j]],by rw [List.map_append]; rfl,by rw [List.length_append,hcl]; rfl,fun c hc=>?_⟩
    rcases List.mem_append.mp hc with z | z
    ·exact hcs c z
    ·have:c=L[j]:=by simpa using z
     rw [this]
     exact hLc _ (List.getElem_mem hj)
  ·rintro acc H' ⟨sm,cs,rfl,hcl,hcs⟩ D hD
   rw [List.length_map,List.length_range,hnn] at hcl
   have esum:((cs.map fun c=>tx [c]).map (·.length)).sum=cs.length:=by
    clear hcl hcs
    induction cs with
    | nil=>rfl
    | cons c cs ih=>rw [List.map_cons,List.map_cons,List.sum_cons,ih,List.length_cons,zY]; show 1+_=_; omega
   refine ⟨_,D,cs.map (fun c=>tx [c]),rfl,rfl,.of (by rw [zG,List.map_map]; rfl),?_,?_⟩
   ·rw [esum]
    show _+_ * 0<=_
    omega
   ·have ej:Txt.join ⟨#[]⟩ (cs.map fun c=>tx [c])=tx cs:=by
     rw [zJt,List.map_map]
     congr 1
     clear hcl hcs esum
     congr 1
     induction cs with
     | nil=>rfl
     | cons c cs ih=>rw [List.map_cons,List.flatten_cons,ih]; rfl
    have kk:∀ Hx,zB H Hx->Q (.str (Txt.join ⟨#[]⟩ (cs.map fun c=>tx [c]))) Hx:=fun Hx sx=>by
     rw [ej]
     exact k cs Hx sx ⟨by omega,by omega,hcs⟩ (by omega)
    exact kk _ ((s123.trans sm).trans (zB.upd1 hD))
end
end Kn
end
section
namespace Kn
open PySem L2
section
variable {P:Program}{w:World}{K:PySem.W.Frag}{mg:Str->Option Value}{base:Heap}
def zFy (K:PySem.W.Frag):Sp:=fun vs H Q _=>∃ (a:Addr) (ns:List Int) (at' many most:Nat),vs=[.ref a,.int at',.int many,.int most]/\yJ K H a (ns.map V.int)/\ns.length<=63/\1<=many/\many<=8/\1<=most/\most<=8 /\
 ∀ (p:Addr) (bk:List S) H',zB H H'->H' p=some (.tup (zM bk))->1<=bk.length->bk.length<=many->(∀ x∈bk,vI x/\x.length<=most)->Q (.ref p) H'
abbrev zCw:Stmt:=top 58
theorem zFz:FnScope ["_law_script", "_law_at", "_law_many", "_law_most", "_law_found", "_law_k"] ["_law_script", "_law_at", "_law_many", "_law_most"] (defScope zCw):=⟨rfl,rfl,rfl,by decide +kernel,rfl,by decide +kernel,by decide +kernel⟩
theorem zKh {f:Addr}{fd:FuncData} (F:Fun K "_law_book" "_law_book" zCw f fd) (B:Blt mg) (c1:cDr P w K mg base) (c2:yH P w K mg base 3 "_law_name" ["_law_script", "_law_at", "_law_most"] (zCu K)):FnOk P w K mg base yF 4 f fd ["_law_script", "_law_at", "_law_many", "_law_most"] (zFy K):=by
 refine F.ok zFz (fun vs H Q E h=>?_) (fun cdv A outer s H vs Q E hr h=>?_)
 ·obtain ⟨a,ns,k,m,l,rfl,_⟩:=h; rfl
 ·obtain ⟨a,ns,n,many,most,rfl,ha,hl,hm1,hm2,hs1,hs2,k⟩:=h
  have nd:=zFz.nd
  have hr2:=hr.mono (j:=2) (by decide)
  refine ⟨_,zI (z0 (i:=4) nd rfl (Or.inl rfl) (vJ zD))
   (zI (qI PassesOwn.never rfl (kM rfl B.range (zC (zP yT zH (zT c1 hr2 rfl (zC (pv 0) (zC (pv 1) (zC (pv 2) zD))))) zD)) (yS (i:=5) nd rfl (Or.inl rfl))
    (zJ (z0 (i:=4) nd rfl (Or.inl rfl) (zP (zFZ.or zEl) (pv 4) (vJ (zC (zT c2 hr rfl (zC (pv 0) (zC (zP yT (zP yT (pv 1) zH) (zP gS zH (pv 5))) (zC (pv 3) zD)))) zD))))))
   (zJ (zV (pv 4)))),?_⟩
  refine ⟨by show 0<=sizeLine; decide,fun p0 hp0=>?_⟩
  have s0:zB H (upd H p0 (.tup [])):=zB.upd1 hp0
  refine ⟨_,rfl,_,rfl,_,rfl,a,ns,n,many,rfl,s0.seq ha,hl,hm1,by omega,fun sz H1 hsz s1=>?_⟩
  refine ⟨_,_,rfl,rfl,_,rfl,by omega,by omega,?_⟩
  have hnn:(1+(sz:Int)).toNat=sz+1:=by omega
  refine jN (jY 0 _) (fun i σ H2=>∃ (p:Addr) (bk:List S) (y:Option V),σ=[some (.ref a),some (.int n),some (.int many),some (.int most),some (.ref p),y]/\zB H H2/\H2 p=some (.tup (zM bk))/\bk.length=i/\∀ x∈bk,vI x/\x.length<=most)
   ⟨p0,[],_,rfl,s0.trans s1,s1 _ _ zG,rfl,by simp⟩ (fun _ _ _ _ _=>trivial) ?_ ?_
  ·rintro i x σ H2 Nx hN hx ⟨p,bk,y,rfl,sm,hp,hbl,hbn⟩
   rw [hnn] at hx
   obtain ⟨hi,rfl⟩:=kT hx
   refine ⟨_,rfl,_,rfl,_,rfl,_,_,rfl,rfl,_,rfl,_,_,rfl,rfl,.inl ⟨by decide,by decide⟩,_,_,rfl,rfl,_,rfl,a,ns,n+1+10 * i,most,rfl,sm.seq ha,hl,hs1,hs2,fun x H3 s3 hx1 hx2=>?_⟩
   refine ⟨by show 1<=sizeLine; decide,fun q hq=>?_⟩
   have s4:zB H3 (upd H3 q (.tup [sv x])):=zB.upd1 hq
   have nx:∀ b∈bk++[x],vI b/\b.length<=most:=fun b hb=>by
    rcases List.mem_append.mp hb with z | z
    ·exact hbn b z
    ·have:b=x:=by simpa using z
     rw [this]; exact ⟨hx1,hx2⟩
   cases bk with
   | nil=>exact .inl ⟨p,q,_,rfl,rfl,.of (s4 _ _ (s3 _ _ hp)),.of zG,hN _ _ ⟨q,[x],_,rfl,(sm.trans s3).trans s4,zG,by rw [<- hbl]; rfl,nx⟩⟩
   | cons c cs =>
    refine .inr ⟨p,q,_,_,rfl,rfl,.of (s4 _ _ (s3 _ _ hp)),.of zG,by simp [zM],?_,fun z=>by simp at z,fun _ r hr'=>hN _ _ ⟨r,(c::cs)++[x],_,rfl,((sm.trans s3).trans s4).trans (zB.upd1 hr'),?_,by rw [List.length_append,hbl]; rfl,nx⟩⟩
    ·have:(zM (c::cs)).length=i:=by rw [<- hbl]; simp [zM]
     rw [this,sizeLine_eq]
     show i+1<=_
     omega
    ·rw [zG]
     unfold zM
     rw [List.map_append]; rfl
  ·rintro σ H2 ⟨p,bk,y,rfl,sm,hp,hbl,hbn⟩
   rw [List.length_map,List.length_range,hnn] at hbl
   exact ⟨_,rfl,k p bk H2 sm hp (by omega) (by omega) hbn⟩
end
end Kn
end
section
namespace Kn
open PySem L2
section
variable {X:Cx}{tg:Expr}
theorem zKi (K':PySem.W.Frag) (hK:X.K=K'):uO X (.type "list") (fun xs H Q=>∃ p ys,xs=[.ref p]/\(yJ K' H p ys\/yG K' H p ys)/\∀ l,H l=none->Q (.ref l) (upd H l (.lst ys))):=by
 subst hK; exact zEt
end
theorem zCx (a b:S):tx a++tx b=tx (a++b):=by
 apply MyS.Str_ext
 show ((tx a).cps++(tx b).cps).toList=_
 simp [tx]
theorem j6 {d:PyData}{A B:Prop} (hd:d.canLay0=true) (h:B):if (if true=true then !PyData.eqv d d else PyData.eqv d d)=true then A else B:=by
 rw [zCT d hd]; exact h
theorem zGA {t:S} (h:∀ c∈t,c<=122):PyData.strOk (tx t)=true:=by
 unfold PyData.strOk
 rw [Array.all_eq_true']
 intro c hc
 have hc':c∈t:=by simpa [tx] using hc
 have:=h c hc'
 exact decide_eq_true (by omega)
theorem zGB {ds:List PyData} (h:∀ d∈ds,d.canLay0=true/\d.depth<=10):SeqAt.shaped (.list ds)=true/\(PyData.list ds).canLay0=true:=by
 have h1:PyData.canLayAll0 ds=true:=by
  induction ds with
  | nil=>rfl
  | cons d ds ih=>simp only [PyData.canLayAll0,(h d (List.mem_cons_self ..)).1,ih fun e he=>h e (List.mem_cons_of_mem _ he),Bool.and_self]
 have h2:PyData.depthAll ds<=10:=by
  clear h1
  induction ds with
  | nil=>decide
  | cons d ds ih =>
   have a:=(h d (List.mem_cons_self ..)).2
   have b:=ih (fun e he=>h e (List.mem_cons_of_mem _ he))
   simp only [PyData.depthAll]; omega
 have h3:(PyData.list ds).canLay0=true:=by simp only [PyData.canLay0]; exact h1
 have h4:(PyData.list ds).depth<=64:=by simp only [PyData.depth]; omega
 unfold SeqAt.shaped
 rw [h3,decide_eq_true h4]; exact ⟨rfl,rfl⟩
theorem zKj {o:Nat}{t:S} (h:vI t) {p:S × S} (hp:p∈zX o t):(∀ c∈p.1,97<=c/\c<=122)/\∀ c∈p.2,97<=c/\c<=122:=by
 obtain ⟨i,_,rfl⟩:=List.mem_map.mp hp
 refine ⟨fun c hc=>?_,fun c hc=>?_⟩
 ·exact h.2.2 c (List.mem_of_mem_take (List.mem_of_mem_drop hc))
 ·exact h.2.2 c (List.mem_of_mem_drop (List.mem_of_mem_take hc))
theorem zKk {o:Nat}{bk:List S} (h:isBk bk) {p:S × S} (hp:p∈zE o bk):(∀ c∈p.1,97<=c/\c<=122)/\∀ c∈p.2,97<=c/\c<=122:=by
 obtain ⟨x,hx,hm⟩:=List.mem_flatMap.mp hp
 exact zKj (h.nm x hx) hm
theorem zKl {bk:List S}{o:Nat} (h:∀ x∈bk,x.length<=4):(zE o bk).length<=5 * bk.length:=by
 have e:=zCd o bk
 have go:∀ l:List S,(∀ x∈l,x.length<=4)->(l.map fun x=>(x.length:Int)+1).sum<=5 * (l.length:Int):=by
  intro l
  induction l with
  | nil=>intro _; simp
  | cons x r ih =>
   intro hl
   have h1:=hl x (List.mem_cons_self ..)
   have h2:=ih fun y hy=>hl y (List.mem_cons_of_mem _ hy)
   rw [List.map_cons,List.sum_cons,List.length_cons]
   have:((r.length+1:Nat):Int)=(r.length:Int)+1:=rfl
   omega
 have:=go bk h
 omega
section
variable {K:PySem.W.Frag}
end
theorem zKm (t:S) (o:Nat):v5 (tx t) (some (if ((tx t).length:Int) - (o:Int) > 0 then ((tx t).length:Int) - (o:Int) else 0)) none=tx (zS t o):=by
 unfold v5
 rw [zY,v7]
 have e1:(if (t.length:Int) - (o:Int) > 0 then (t.length:Int) - (o:Int) else 0)=((t.length - o:Nat):Int):=by
  by_cases h:(t.length:Int) - (o:Int) > 0
  ·rw [if_pos h]; omega
  ·rw [if_neg h]; omega
 rw [e1,HT.sIx_nat]
 have e2:HT.sIx t.length t.length none=t.length:=rfl
 rw [e2]
 unfold zS
 have e3:min (t.length - o) t.length=t.length - o:=by omega
 rw [e3,List.take_of_length_le (by rw [List.length_drop]; omega)]
theorem IsRow.len {ps:List (S × S)}{e:S}{rs:List (S × Int)} (r:IsRow ps e rs):rs.length<=ps.length:=by
 have h1:=r.total
 have h2:(ps.filter fun p=>p.1=e).length<=ps.length:=List.length_filter_le ..
 have h3:∀ q∈rs,0 < q.2:=fun q hq=>((r.mem q.1 q.2).mp hq).2
 have go:∀ l:List (S × Int),(∀ q∈l,0 < q.2)->(l.length:Int)<=(l.map (·.2)).sum:=by
  intro l
  induction l with
  | nil=>intro _; simp
  | cons q l ih =>
   intro hl
   have a:=hl q (List.mem_cons_self ..)
   have b:=ih fun x hx=>hl x (List.mem_cons_of_mem _ hx)
   rw [List.map_cons,List.sum_cons,List.length_cons]
   have:((l.length+1:Nat):Int)=(l.length:Int)+1:=rfl
   omega
 have:=go rs h3
 omega
end Kn
end
section
namespace L2
open PySem PySem.Spec PyProof.Rows
structure Flown (P:Program) (w:World) (outer:List Env) (H:Hp) (s:Shared) (e:Addr) (cls a0:Value) (B:Heap) (H':Hp) (s':Shared):Prop where
 os:s'.os=s.os
 bare:AllBare s'.gens
 fly:Heap.FlyingW B outer e cls a0 s'.heap
 trB:∀ b u,H' b=some u->∃ o,B.get? b=some o
 hok:zZ P w H' s'.heap
 keep:∀ b o,s.heap.get? b=some o->H b=none->b ∉ y9 outer->B.get? b=some o
 slot:∀ b o,s.heap.get? b=some o->b∈y9 outer->H b=none->∃ sl,s'.heap.get? b=some { o with slots:=sl }
 free:∀ b o,s.heap.get? b=some o->H b=none->H' b=none
 there:∀ b o,s.heap.get? b=some o->b ∉ y9 outer->∃ o',B.get? b=some o'
 tups:∀ b xs,H b=some (.tup xs)->H' b=some (.tup xs)
 frzs:∀ b o u,H b=some (.frz o u)->H' b=some (.frz o u)
 tbls:∀ b ps,H b=some (.tbl ps)->∃ more,H' b=some (.tbl (ps++more))
 ef:H' e=none
def v8 (P:Program) (w:World):uH:=fun outer H s E ev s'=>∃ (e:Addr) (cls a0:Value) (B:Heap) (H':Hp),ev=.ref e/\Flown P w outer H s e cls a0 B H' s'/\E cls none H'
section
variable {P:Program}{w:World}{outer:List Env}{H H':Hp}{s s':Shared}{e:Addr}{cls a0:Value}{B h':Heap}
theorem zCy (ok:zZ P w H' s'.heap) (trB:∀ b u,H' b=some u->∃ o,B.get? b=some o) (st:B.StaysIn s'.heap) (st':B.StaysIn h'):zZ P w H' h':=fun a u q=>by
 refine (ok a u q).stay (fun b v hb r=>?_) (fun _ z=>z) fun _ _ z=>z
 have hb':∃ u',H' b=some u':=by
  rcases hb with z | z
  ·rw [z]; exact ⟨u,q⟩
  ·exact ⟨_,z⟩
 obtain ⟨u',hu'⟩:=hb'
 obtain ⟨o,ho⟩:=trB b u' hu'
 have:=st b o ho
 rw [r] at this
 cases this
 exact st' b _ ho
theorem Flown.un (F:Flown P w outer H s e cls a0 B H' s') (frf:∀ b∈y9 outer,H b=none):Un (y9 outer) [] H H' s.heap s'.heap where
 keep:=fun b o q n hb _=>F.fly.1 b o (F.keep b o q n hb)
 slot:=fun b o q n hb _=>F.slot b o q hb n
 free:=fun b o q n _=>F.free b o q n
 there:=fun b o q _=>by
  by_cases hb:b∈y9 outer
  ·obtain ⟨sl,z⟩:=F.slot b o q hb (frf b hb)
   exact ⟨_,z⟩
  ·obtain ⟨o',z⟩:=F.there b o q hb
   exact ⟨o',F.fly.1 b o' z⟩
 tups:=F.tups
 frzs:=F.frzs
 tbls:=F.tbls
theorem Flown.on {outer:List Env} (F:Flown P w outer H s e cls a0 B H' s') (fly:Heap.FlyingW B outer e cls a0 h') (up:s'.heap.UpToSlots h') (fun':s'.heap.FunFrames B outer):Flown P w outer H s e cls a0 B H' { s' with heap:=h' } where
 os:=F.os
 bare:=F.bare
 fly:=fly
 trB:=F.trB
 hok:=zCy F.hok F.trB F.fly.1 fly.1
 keep:=F.keep
 slot:=fun b o q hb n=>by
  obtain ⟨sl,z⟩:=F.slot b o q hb n
  obtain ⟨_,o',ho',hd⟩:=fun'.mem hb
  rw [z] at ho'
  cases ho'
  obtain ⟨sl',z'⟩:=up b _ z hd
  exact ⟨sl',z'⟩
 free:=F.free
 there:=F.there
 tups:=F.tups
 frzs:=F.frzs
 tbls:=F.tbls
 ef:=F.ef
end
section
variable {X:Cx}{pins:List (Addr × Obj)}{σ:St}{H H':Hp}{s s':Shared}{e:Addr}{cls a0:Value}{B h':Heap}
theorem Inv.nstk (I:Inv X pins σ H s) {b:Addr}{o:Obj} (q:X.s₀.heap.get? b=some o) (hb:b ∉ X.fs):b ∉ y9 X.stack:=fun z=>by
 rcases List.mem_cons.mp (I.stkSub b z) with r | r
 ·exact absurd (Nat.lt_of_lt_of_le (Heap.lt_size q) I.ok.above) (by rw [r]; exact Nat.lt_irrefl _)
 ·exact hb r
theorem zCz (hs:X.stack=X.env::X.outer) {b:Addr} (hb:b∈X.fs):b∈y9 X.stack:=by
 rw [hs]
 unfold y9
 rw [List.filterMap_cons]
 cases X.env.frame with
 | none=>exact hb
 | some L=>exact List.mem_cons_of_mem _ hb
theorem Flown.leaves (I:Inv X pins σ H s) (hs:X.stack=X.env::X.outer) (hf:X.env.frame=some X.env.locals) (hx:X.ex=[]) (F:Flown X.prog X.w X.stack H s e cls a0 B H' s') {Q:Unit->Shared->Prop}{E:Value->Shared->Prop}{M:Model}
  (hQ:∀ s'',Flown X.prog X.w X.outer X.H₀ X.s₀ e cls a0 B H' s''->Q () s''):wpAny M X.A (leaving X.env (.ref e)) Q E s':=by
 have fly:=F.fly
 rw [hs] at fly
 have fun':=F.fly.2.2.1
 refine wpAny_leaves_onW (by rw [<- hs]; exact I.ok.frames) hf fly fun h' fly' up=>hQ _ ?_
 have nex:∀ b:Addr,b ∉ X.ex:=fun b z=>by rw [hx] at z; cases z
 refine ⟨F.os.trans I.os,F.bare,fly',F.trB,zCy F.hok F.trB F.fly.1 fly'.1,fun b o q n hb=>?_,fun b o q hb n=>?_,fun b o q n=>?_,fun b o q hb=>?_,fun b xs q=>F.tups b xs (I.base.tups b xs q),fun b o u q=>F.frzs b o u (I.base.frzs b o u q),fun b ps q=>?_,F.ef⟩
 ·exact F.keep b o (I.base.keep b o q n hb (nex b)) (I.base.free b o q n (nex b)) (I.nstk q hb)
 ·obtain ⟨sl,z⟩:=I.base.slot b o q n hb (nex b)
  obtain ⟨sl',z'⟩:=F.slot b _ z (zCz hs hb) (I.base.free b o q n (nex b))
  obtain ⟨_,o',ho',hd⟩:=fun'.mem (show b∈X.stack.filterMap (·.frame) from zCz hs hb)
  rw [z'] at ho'
  cases ho'
  obtain ⟨sl'',z''⟩:=up b _ z' hd
  exact ⟨sl'',z''⟩
 ·obtain ⟨o',z⟩:=I.base.there b o q (nex b)
  exact F.free b o' z (I.base.free b o q n (nex b))
 ·obtain ⟨o',z⟩:=I.base.there b o q (nex b)
  exact F.there b o' z (I.nstk q hb)
 ·obtain ⟨m1,e1⟩:=I.base.tbls b ps q
  obtain ⟨m2,e2⟩:=F.tbls b _ e1
  exact ⟨m1++m2,by rw [e2,Array.append_assoc]⟩
theorem zKn {C:Addr}{vs:List Value} (I:Inv X pins σ H s) (hs:X.stack=X.env::X.outer) (hf:X.env.frame=some X.env.locals) (hx:X.ex=[]) (hm:Heap.MadeExcOf s.heap h' e (.ref C) vs) {Q:Unit->Shared->Prop}{E:Value->Shared->Prop}{M:Model}
  (hQ:∀ s'' a0 B,Flown X.prog X.w X.outer X.H₀ X.s₀ e (.ref C) a0 B H s''->Q () s''):wpAny M X.A (leaving X.env (.ref e)) Q E { s with heap:=h' }:=by
 have fr:=I.stack
 have hin:∀ env∈X.stack,∀ b,env.frame=some b->b∈y9 X.stack:=fun env he b hb=>List.mem_filterMap.mpr ⟨env,he,hb⟩
 have fr':=PySem.W.funFrames_hide (as:=y9 X.stack) fr hin
 rw [hs] at fr'
 have nex:∀ b:Addr,b ∉ X.ex:=fun b z=>by rw [hx] at z; cases z
 refine wpAny_leaves_madeW (base:=PySem.W.hideAll s.heap (y9 X.stack)) (by rw [<- hs]; exact I.ok.frames) hf (fun b o q=>PySem.W.of_hideAll _ q) (by rw [hs]; exact fr') hm fun h2 t fly tup bt up=>hQ _ (.ref t) (PySem.W.hideAll s.heap (y9 X.stack)) ?_
 have trB:∀ b u,H b=some u->∃ o,(PySem.W.hideAll s.heap (y9 X.stack)).get? b=some o:=fun b u q=>by
  obtain ⟨o,ho⟩:=(I.hok b u q).obj
  exact ⟨o,PySem.W.hideAll_get _ ho fun z=>by rw [I.stkFree b z] at q; cases q⟩
 have stS:(PySem.W.hideAll s.heap (y9 X.stack)).StaysIn s.heap:=fun b o q=>PySem.W.of_hideAll _ q
 refine ⟨I.os,I.bare,fly,trB,zCy (s':=s) I.hok trB stS fly.1,fun b o q n hb=>?_,fun b o q hb n=>?_,fun b o q n=>I.base.free b o q n (nex b),fun b o q hb=>?_,I.base.tups,I.base.frzs,I.base.tbls,I.hok.free hm.new⟩
 ·exact PySem.W.hideAll_get _ (I.base.keep b o q n hb (nex b)) (I.nstk q hb)
 ·obtain ⟨sl,z⟩:=I.base.slot b o q n hb (nex b)
  obtain ⟨_,o',ho',hd⟩:=fr.mem (show b∈X.stack.filterMap (·.frame) from zCz hs hb)
  rw [z] at ho'
  cases ho'
  obtain ⟨sl'',z''⟩:=up b _ (hm.keeps b _ z) hd
  exact ⟨sl'',z''⟩
 ·obtain ⟨o',z⟩:=I.base.there b o q (nex b)
  exact ⟨o',PySem.W.hideAll_get _ z (I.nstk q hb)⟩
end
structure XOk (X:Cx) (E:XK):Prop where
 made:∀ (pins:List (Addr × Obj)) (σ:St) (H:Hp) (s:Shared) (h':Heap) (e C:Addr) (vs:List Value),Inv X pins σ H s->Heap.MadeExcOf s.heap h' e (.ref C) vs->E (.ref C) none H->X.xe (.ref e) { s with heap:=h' }
 pass:zAM (v8 X.prog X.w) X E
theorem zKo {P:Program}{w:World}{K:PySem.W.Frag}{mg:Str->Option Value}{base:Heap}{N:List Str}{qual:Str}{scope:Scope}{f:Addr}{cd:Value}{A:Around}{outer:List Env}{s:Shared}{H:Hp}{E:XK} :
  XOk (jS (v8 P w) P w K mg base N qual scope f cd A outer s H E) E where
 made:=fun pins σ H1 s1 h' e C vs I hm hE=>zKn I rfl rfl rfl hm fun s'' a0 B F=>⟨e,_,a0,B,H1,rfl,F,hE⟩
 pass:=fun pins σ H1 s1 ev s' I ⟨e,cls,a0,B,H',he,F,hE⟩=>by
  subst he
  exact Flown.leaves I rfl rfl rfl F fun s'' F'=>⟨e,cls,a0,B,H',rfl,F',hE⟩
abbrev g6:List Value:=[.type "ValueError",.type "Exception",.type "BaseException",.type "object"]
structure XCls (K:PySem.W.Frag) (mg:Str->Option Value) (x:Str) (C:Addr):Prop where
 bound:mg x=some (.ref C)
 exc:PySem.W.excIn K C g6 "ValueError.__new__" = true
theorem g7 {K:PySem.W.Frag}{h:Heap}{C:Addr}{newId:String}{bmB:List Value} (X:K.In h) (q:PySem.W.excIn K C bmB newId=true) :
  ∃ bm N nm q bs hdct sn sub ab col dd k0 k1 k2 k3 k5 mN,h.get? C=some (excClassObj nm q C N bs bm hdct sn sub ab col dd k0 k1 k2 k3 k5 newId)/\h.Ns N mN/\mN "__init__" = none/\OwnTail h bmB bm/\∃ cd,K.lookup C=some ⟨.type "type",dd,.cls cd,#[k0,k1,k2,k3,some (.builtin newId),k5]⟩/\cd.mro=.ref C::bm:=by
 unfold PySem.W.excIn at q
 split at q
 ·rename_i dd cd sl ho
  split at q
  ·rename_i C' bm k0 k1 k2 k3 n k5 hm hs
   simp only [Bool.and_eq_true,beq_iff_eq,Bool.not_eq_true'] at q
   obtain ⟨⟨⟨⟨⟨rfl,rfl⟩,hdel⟩,ht⟩,hok⟩,hni⟩:=q
   obtain ⟨nm,bs,mro,ns,qn,hd,sn,sub,ab,col,del⟩:=cd
   dsimp only at hm hdel hok hni
   subst hm hdel
   have hsl:sl=#[k0,k1,k2,k3,some (.builtin n),k5]:=by
    obtain ⟨l⟩:=sl
    simp only at hs
    rw [hs]
   subst hsl
   exact ⟨bm,ns,nm,qn,bs,hd,sn,sub,ab,col,dd,k0,k1,k2,k3,k5,_,X _ _ ho,.of_isNs (PySem.W.isNs_of_in X hok),PySem.W.nsMap_none_of_in X hok hni,PySem.W.tail_of_in X ht,_,ho,rfl⟩
  ·cases q
 ·cases q
def zKp (C:Addr) (E:XK) (t:TA):TS:=fun _ σ H=>t σ H fun vs H1=>vs.length<=sizeLine/\E (.ref C) none H1
section
variable {X:Cx}
theorem g8 {E:XK}{x:Str}{C:Addr}{np cpos pos:Pos}{e0:Expr}{es:List Expr}{t:TA} (ok:XOk X E) (hc:X.calm=true) (O:XCls X.K X.mg x C) (hg:Gl X x) (ha:PA X (e0::es) t)
  (he:starEach (e0::es) X.env=(false,eval e0 X.env)::starEach es X.env:=by rfl) (hplain:(backTo cpos (starEach es X.env)).any (·.1)=false:=by rfl) (hdb:(x == ("__debug__" : Str))=false:=by decide) :
  PS X (.Raise (some (.Call (.Name x np) (e0::es) [] cpos)) none pos) (zKp C E t):=by
 intro pins s σ H D I h
 obtain ⟨tl,N,nm,q,bs,hdct,sn,sub,ab,col,dd,k0,k1,k2,k3,k5,mN,hC,hN,hni,T,_⟩:=g7 I.mod.kin O.exc
 refine wpAny_Raise_call_subU (C:=C) (nm:=nm) (q:=q) (N:=N) (bs:=bs) (bm:=tl) (hdct:=hdct) (sn:=sn) (sub:=sub) (ab:=ab) (col:=col) (dd:=dd) (k0:=k0) (k1:=k1) (k2:=k2) (k3:=k3) (k5:=k5)
  PySem.F.excBase_ValueError (by decide) PySem.F.excBase_ValueError (mN:=mN) (T.hasType PySem.F.excBase_ValueError.hasBase) (I.ok.hd hc) (by rw [he]; show (false || (backTo cpos (starEach es X.env)).any (·.1))=false; rw [hplain]; rfl) hni ?_
 refine zAf I hg O.bound ⟨rfl,?_⟩ hdb
 have hpa:=ha cpos pins s σ H _ I h
 rw [he] at hpa ⊢
 refine Calls.evalArgs_plain (wpAny_mono hpa (fun vs s₂ h₂=>?_) fun _ _ y=>y)
 obtain ⟨us,H1,I1,r,q1⟩:=h₂
 exact ⟨rfl,by rw [<- r.length]; exact q1.1,I1.bk _ _ hC,hN.keeps I1.bk,T.keeps I1.bk,fun h' e hm=>ok.made pins σ H1 s₂ h' e C vs I1 hm q1.2⟩
end
section
variable {P:Program}{w:World}{K:PySem.W.Frag}{mg:Str->Option Value}{base:Heap}
theorem Fun.okR {x qual:Str}{st:Stmt}{f:Addr}{fd:FuncData}{N ps:List Str}{k:Nat}{sp:Sp} (F:Fun K x qual st f fd) (S:FnScope N ps (defScope st)) (len:∀ vs H Q E,sp vs H Q E->vs.length=ps.length)
  (hbody:∀ (cdv:Value) (A:Around) (outer:List Env) (s:Shared) (H:Hp) (vs:List V) (Q:VK) (E:XK),Room k (A.deeper (envOfC qual (defScope st) s.heap.objs.size f cdv))->sp vs H Q E->XOk (jS (v8 P w) P w K mg base N qual (defScope st) f cdv A outer s H E) E ->
   ∃ t,uD (jS (v8 P w) P w K mg base N qual (defScope st) f cdv A outer s H E) (defBody st) t/\t { nx:=fun _ H'=>Q .non H',rt:=Q } (uI N vs) H):FnOk P w K mg base (v8 P w) (k+1) f fd ps sp:=by
 obtain ⟨oc,od,kV,doc,pm,an,cdv,ct,osl,rfl,lk,hcd⟩:=F.ex
 refine zEh lk hcd S len fun A outer s H vs Q E hr hsp=>?_
 exact hbody cdv A outer s H vs Q E hr hsp zKo
def uF (P:Program) (w:World) (K:PySem.W.Frag) (mg:Str->Option Value) (base:Heap) (k:Nat) (x:Str) (ps:List Str) (sp:Sp):Prop :=
 ∃ (f:Addr) (fd:FuncData),FnOk P w K mg base (v8 P w) k f fd ps sp/\mg x=some (.ref f)/\PySem.W.keepIn K (.ref f)=true/\jL K fd ps []
theorem uM {X:Cx}{k:Nat}{x:Str}{ps:List Str}{sp:Sp}{p pos:Pos}{e:Expr}{es:List Expr}{t:TA}{E:XK} (C:uF X.prog X.w X.K X.mg X.base k x ps sp) (ok:zAM (v8 X.prog X.w) X E) (hr:Room k X.A) (hg:Gl X x) (ha:PA X (e::es) t)
  (hs:starEach (e::es) X.env=(false,eval e X.env)::starEach es X.env:=by rfl) (hplain:(backTo pos (starEach es X.env)).any (·.1)=false:=by rfl)
  (hdb:(x == ("__debug__" : Str))=false:=by decide):PE X (.Call (.Name x p) (e::es) [] pos) (zAk sp [] E t):=by
 obtain ⟨f,fd,G,hm,kp,b⟩:=C
 exact zEe G hr hg hm kp b .nil ok ha hdb hs hplain
end
def XO (e C:Addr):HO:=.ext fun h=>∃ oe vs,h.get? e=some oe/\oe.cls=.ref C/\oe.data=.fields vs
section
variable {M:Model}{A:Around}{E:Value->Shared->Prop}{h:Heap}{g:Array GenState}{d:Drawn}{t:Nat}{os:OsState}
theorem zKq {nm q:Str}{C N:Addr}{bs bm:List Value}{hdct:Bool}{sn:List Str}{sub:List Value}{ab:Bool}{col:Option Bool}{dd:Option Addr}{k0 k1 k2 k3 k5:Option Value}{newId:String}
  {nm' q':Str} {L N':Addr} {bs' bm':List Value} {hdct':Bool} {sn':List Str} {sub':List Value} {ab':Bool} {col':Option Bool} {dd':Option Addr} {j0 j1 j2 j3 j5:Option Value} {newId':String} {e:Addr} {oe:Obj} {Q:Bool->Shared->Prop}
  (hC:h.get? C=some (excClassObj nm q C N bs bm hdct sn sub ab col dd k0 k1 k2 k3 k5 newId)) (hL:h.get? L=some (excClassObj nm' q' L N' bs' bm' hdct' sn' sub' ab' col' dd' j0 j1 j2 j3 j5 newId')) (he:h.get? e=some oe) (hcls:oe.cls=.ref C) (hbase:bm'.contains (.type "BaseException")=true)
  (hin:(Value.ref C::bm).contains (.ref L)=true) (hq:Q true ⟨h,g,d,t,os⟩):wpAny M A (excMatches (.ref e) (.ref L)) Q E ⟨h,g,d,t,os⟩:=by
 have hcB:(Value.ref L::bm').contains (.type "BaseException")=true:=by rw [List.contains_cons,hbase,Bool.or_true]
 have f:=tc_notTuple
 unfold excMatches
 repeat (first | (with_reducible refine wpAny_loadPart_at he ?_; rw [hcls]) | with_reducible refine wpAny_loadPart_at hL ?_ | (with_reducible refine wpAny_isSubtype_exc hL ?_; rw [hcB]) | (with_reducible refine wpAny_isSubtype_exc hC ?_; rw [hin]) | wp_step)
 exact hq
end
abbrev Cx.hand (X:Cx) (e:Addr):Cx:={ X with A:=X.A.mark (some (.ref e)),calm:=false,xe:=fun _ _=>False }
section
variable {X:Cx}{pins:List (Addr × Obj)}{σ:St}{H:Hp}{s:Shared}{e:Addr}
theorem Inv.hand (I:Inv X pins σ H s) (e:Addr):Inv (X.hand e) pins σ H s :=
 ⟨⟨I.ok.mod,I.ok.kind,I.ok.glob,I.ok.blt,I.ok.above,I.ok.inj,I.ok.has,I.ok.cab,(fun z=>by cases z),I.ok.frames,I.ok.stk,I.ok.exf,I.ok.bs,I.ok.bsz,I.ok.noex,I.ok.exfs,I.ok.funs,I.ok.frf⟩,I.os,I.bare,I.base,I.loc,I.cell,I.free,I.freeC,I.pin,I.hok,I.len⟩
theorem Inv.unhand (I:Inv (X.hand e) pins σ H s) (ok:X.Ok):Inv X pins σ H s :=
 ⟨ok,I.os,I.bare,I.base,I.loc,I.cell,I.free,I.freeC,I.pin,I.hok,I.len⟩
theorem Inv.track {a:Addr}{o:HO} (I:Inv X pins σ H s) (hn:H a=none) (hnew:∀ b ob,X.s₀.heap.get? b=some ob->b≠a) (hL:X.env.locals≠a) (hc:∀ x c,X.env.cells.lookup x=some c->c≠a) (hp:∀ p∈X.pn++pins,p.1≠a)
  (new:yM X.prog X.w (upd H a o) s.heap a o):Inv X pins σ (upd H a o) s :=
 ⟨I.ok,I.os,I.bare,⟨I.base.keep,I.base.slot,fun b ob q n hx=>by rw [zN (hnew b ob q)]; exact I.base.free b ob q n hx,I.base.there,fun b xs q=>by rw [zN (vO (I.base.tups b xs q) hn)]; exact I.base.tups b xs q,
  fun b ob u q=>by rw [zN (vO (I.base.frzs b ob u q) hn)]; exact I.base.frzs b ob u q,fun b ps q=>let ⟨m,z⟩:=I.base.tbls b ps q; ⟨m,by rw [zN (vO z hn)]; exact z⟩⟩,I.loc,I.cell,by rw [zN hL]; exact I.free,
  fun x c q=>by rw [zN (hc x c q)]; exact I.freeC x c q,fun p q=>let ⟨a1,a2,a3⟩:=I.pin p q; ⟨a1,by rw [zN (hp p q)]; exact a2,a3⟩,I.hok.track hn new,I.len⟩
theorem Inv.forget {h':Heap}{m':Str->Option Value}{t':Nat} (I:Inv X pins σ H s) (hn':h'.Ns X.env.locals m') (hs:Heap.SameBut X.env.locals s.heap h'):Inv X pins (List.replicate X.N.length none) H { s with heap:=h',toks:=t' }:=by
 obtain ⟨m,hn,_⟩:=id I.loc
 obtain ⟨oL,_,_,hoL,_⟩:=id hn
 have cne:=I.cne
 have tracked:zZ X.prog X.w H h':=fun b ob q=>by
  refine (I.hok b ob q).stay (fun c w' hc r=>(hs.2 c ?_).trans r) (fun _ z=>z) fun _ _ z=>z
  rintro rfl
  rcases hc with z | z
  ·have:=I.free
   rw [z,q] at this; cases this
  ·rw [I.free] at z; cases z
 have neL:∀ b o,X.s₀.heap.get? b=some o->b≠X.env.locals:=fun b o e=>Nat.ne_of_lt (Nat.lt_of_lt_of_le (Heap.lt_size e) I.ok.above)
 refine ⟨I.ok,I.os,I.bare,⟨fun b o e n hb hx=>?_,fun b o e n hb hx=>?_,I.base.free,fun b o e hx=>?_,I.base.tups,I.base.frzs,I.base.tbls⟩,⟨m',hn',fun i x v e1 e2 e3=>?_⟩,fun y c e=>?_,I.free,I.freeC,fun p hp=>?_,tracked,by simp⟩
 ·exact (hs.2 b (neL b o e)).trans (I.base.keep b o e n hb hx)
 ·obtain ⟨sl,e1⟩:=I.base.slot b o e n hb hx
  exact ⟨sl,(hs.2 b (neL b o e)).trans e1⟩
 ·obtain ⟨o',e1⟩:=I.base.there b o e hx
  exact ⟨o',(hs.2 b (neL b o e)).trans e1⟩
 ·rw [List.getElem?_replicate] at e2
  split at e2 <;> cases e2
 ·obtain ⟨w',z⟩:=I.cell y c e
  exact ⟨w',z.sameBut hs (cne y c e)⟩
 ·obtain ⟨e,n,ne,nf,d⟩:=I.pin p hp
  exact ⟨(hs.2 p.1 ne).trans e,n,ne,nf,d⟩
def zAV (K:PySem.W.Frag) (C L:Addr):Bool:=match K.lookup C with
 | some ⟨_,_,.cls cd,_⟩=>cd.mro.contains (.ref L)
 | _=>false
theorem zKr {H':Hp}{s':Shared}{C L:Addr}{a0:Value}{B:Heap}{x n:Str}{i:Nat}{np pos:Pos}{b0:Stmt}{suite:List Stmt}{D:Ends} (I:Inv X pins σ H s) (hs:X.stack=X.env::X.outer) (hf:X.env.frame=some X.env.locals) (hx:X.ex=[])
  (F:Flown X.prog X.w X.stack H s e (.ref C) a0 B H' s') (hC:PySem.W.excIn X.K C g6 "ValueError.__new__" = true) (O:XCls X.K X.mg x L) (hsub:zAV X.K C L=true) (hg:Gl X x) (hN:X.N.Nodup) (hi:X.N[i]?=some n) (hl:X.env.scope.names.lookup n=some .local)
  (k:∀ s2,Inv (X.hand e) pins ((List.replicate X.N.length none).set i (some (.ref e))) (upd H' e (XO e C)) s2->H' e=none ->
   wpAny (model X.prog X.w) (X.hand e).A (execs (b0::suite) X.env) (SP (X.hand e) pins { nx:=fun _ _=>False,rt:=D.rt }) (fun _ _=>False) s2) (hdb:(x == ("__debug__" : Str))=false:=by decide) :
  wpAny (model X.prog X.w) X.A (noteFrame (.ref e) X.env) (fun _ s2=>wpAny (model X.prog X.w) X.A (setFlight (.ref e) none) (fun _ s3 =>
   wpAny (model X.prog X.w) X.A (handleBy (.ref e) X.env [.ExceptHandler (some (.Name x np)) (some n) (b0::suite) pos]) (SP X pins D) X.xe s3) X.xe s2) X.xe s':=by
 have fly:=F.fly
 have fun':=F.fly.2.2.1
 rw [hs] at fly
 refine wpAny_looks_onW (by rw [<- hs]; exact I.ok.frames) hf fly fun h4 held up4=>?_
 refine wpAny_landsW held fun h5 fly5 up5=>?_
 have F5:=F.on (h':=h5) (by rw [hs]; exact fly5) (up4.trans up5) fun'
 have I5:Inv X pins σ H' { s' with heap:=h5 }:=I.call' F5.os (F5.un I.stkFree) F5.hok F5.bare (fun b z=>nomatch z)
 obtain ⟨tl,N,nm,q,bs,hdct,sn,sub,ab,col,dd,k0,k1,k2,k3,k5,mN,hC1,_,_,_,cd,hlk,hmro⟩:=g7 I.mod.kin hC
 obtain ⟨tl',N',nm',q',bs',hdct',sn',sub',ab',col',dd',j0,j1,j2,j3,j5,mN',hL1,_,_,T',_⟩:=g7 I.mod.kin O.exc
 have hin:(Value.ref C::tl).contains (.ref L)=true:=by
  unfold zAV at hsub
  rw [hlk] at hsub
  rw [<- hmro]
  exact hsub
 have Ih:=I5.hand e
 refine wpAny_handleBy_cons (codeAny_handlers_test (zAf (X:=X.hand e) Ih hg O.bound ?_ hdb)) (by intro z; cases z)
 obtain ⟨oe,ws,hoe,hoec,hoed,_⟩:=fly5.first
 have hm:∀ {Q:Bool->Shared->Prop} {E':Value->Shared->Prop},Q true { s' with heap:=h5 }->wpAny (model X.prog X.w) (X.A.mark (some (.ref e))) (excMatches (.ref e) (.ref L)) Q E' { s' with heap:=h5 }:=fun {Q E'} hq=>by
  obtain ⟨hp,gg,ddd,tt,oo⟩:=s'
  exact zKq (I5.bk _ _ hC1) (I5.bk _ _ hL1) hoe hoec (T'.hasType PySem.F.excBase_ValueError.hasBase) hin hq
 refine hm ?_
 refine codeAny_handlers_suite_as (lands_againW fly5 fun h6 fly6 up6=>?_)
 have F6:=F5.on (h':=h6) (by rw [hs]; exact fly6) up6 (by rw [hs]; exact fly5.2.2.1)
 have I6:Inv X pins σ H' { s' with heap:=h6 }:=I.call' F6.os (F6.un I.stkFree) F6.hok F6.bare (fun b z=>nomatch z)
 obtain ⟨oe6,ws6,hoe6,hoec6,hoed6,_⟩:=fly6.first
 have neB:∀ b o,s.heap.get? b=some o->b≠e:=fun b o q z=>by
  by_cases hb:b∈y9 X.stack
  ·obtain ⟨_,o',ho',hd⟩:=fun'.mem (show b∈X.stack.filterMap (·.frame) from hb)
   obtain ⟨oe',ws',he',_,hed',_⟩:=F.fly.first
   rw [z,he'] at ho'
   cases ho'
   exact hd ws' hed'
  ·obtain ⟨o',ho'⟩:=F.there b o q hb
   rw [z,F.fly.2.1] at ho'
   cases ho'
 have I7:Inv X pins σ (upd H' e (XO e C)) { s' with heap:=h6 }:=by
  refine I6.track F.ef (fun b ob q z=>?_) (fun z=>?_) (fun y c q z=>?_) (fun p hp z=>?_) ⟨⟨oe6,ws6,hoe6,hoec6,hoed6⟩,⟨oe6,hoe6⟩,fun h1 h2 ⟨o1,v1,a1,a2,a3⟩ kk=>⟨o1,v1,kk _ a1,a2,a3⟩⟩
  ·obtain ⟨o',z'⟩:=I.base.there b ob q (by rw [hx]; simp)
   exact neB b o' z' z
  ·obtain ⟨m,⟨o,es,ep,ho,_⟩,_⟩:=I.loc
   exact neB _ o ho z
  ·obtain ⟨v,o,ho,_⟩:=I.cell y c q
   exact neB _ o ho z
  ·obtain ⟨a1,_⟩:=I.pin p hp
   exact neB _ _ a1 z
 have I8:Inv X pins (List.replicate X.N.length none) (upd H' e (XO e C)) { s' with heap:=h6 }:=I7.weak (by rw [List.length_replicate,I7.len]) fun j v q=>by
  rw [List.getElem?_replicate] at q
  split at q <;> cases q
 refine zBE (X:=X.hand e) (v:=.ref e) (I8.hand e) hN hi (.inl hl) rfl (fun s2 I9=>?_) (.inr hl)
 refine wpAny_mono (k s2 I9 F.ef) (fun f s3 h3=>?_) fun _ _ z=>z.elim
 cases f with
 | next=>obtain ⟨_,_,_,z⟩:=h3; exact z.elim
 | brk=>obtain ⟨_,_,_,z⟩:=h3; exact z.elim
 | cont=>obtain ⟨_,_,_,z⟩:=h3; exact z.elim
 | ret u =>
  obtain ⟨v,σ',H2,I10,r,z⟩:=h3
  have I11:=I10.unhand I.ok
  obtain ⟨m,hn,_⟩:=id I11.loc
  refine wpAny_nameGoes hl hn (by rw [I.ok.kind]; rfl) fun h' m' hn' hs'=>?_
  exact ⟨v,_,H2,I11.forget hn' hs',r,z⟩
def zKs (K:PySem.W.Frag) (N:Nat) (i:Nat) (L:Addr) (tb:XK->TS) (ts:TS):TS:=fun D σ H =>
 tb (fun cls _ H'=>∃ C:Addr,cls=.ref C/\PySem.W.excIn K C g6 "ValueError.__new__" = true/\zAV K C L=true/\∀ e,H' e=none->ts { nx:=fun _ _=>False,rt:=D.rt } ((List.replicate N none).set i (some (.ref e))) (upd H' e (XO e C))) D σ H
abbrev Cx.tryb (X:Cx) (ET:Value->Shared->Prop) (pn:List (Addr × Obj)):Cx:={ X with xe:=ET,pn:=pn }
theorem Inv.tryb (I:Inv X pins σ H s) (ET:Value->Shared->Prop):Inv (X.tryb ET (X.pn++pins)) [] σ H s :=
 ⟨⟨I.ok.mod,I.ok.kind,I.ok.glob,I.ok.blt,I.ok.above,I.ok.inj,I.ok.has,I.ok.cab,I.ok.hd,I.ok.frames,I.ok.stk,I.ok.exf,I.ok.bs,I.ok.bsz,I.ok.noex,I.ok.exfs,I.ok.funs,I.ok.frf⟩,I.os,I.bare,I.base,I.loc,I.cell,I.free,I.freeC,fun p hp=>I.pin p (by
  have hp':p∈(X.pn++pins)++[]:=hp
  rw [List.append_nil] at hp'
  exact hp'),I.hok,I.len⟩
theorem Inv.untryb {ET:Value->Shared->Prop}{pins':List (Addr × Obj)} (I:Inv (X.tryb ET (X.pn++pins)) pins' σ H s) (ok:X.Ok):Inv X pins σ H s :=
 ⟨ok,I.os,I.bare,I.base,I.loc,I.cell,I.free,I.freeC,fun p hp=>I.pin p (List.mem_append_left _ hp),I.hok,I.len⟩
theorem zKt {x n:Str}{i:Nat}{L:Addr}{np pos pos':Pos}{body:List Stmt}{b0:Stmt}{suite:List Stmt}{tb:XK->TS}{ts:TS} (hs:X.stack=X.env::X.outer) (hf:X.env.frame=some X.env.locals) (hx:X.ex=[]) (O:XCls X.K X.mg x L) (hg:Gl X x) (hN:X.N.Nodup) (hi:X.N[i]?=some n) (hl:X.env.scope.names.lookup n=some .local)
  (hb:∀ (E:XK) (ET:Value->Shared->Prop) (pn:List (Addr × Obj)),zAM (v8 X.prog X.w) (X.tryb ET pn) E->uD (X.tryb ET pn) body (tb E)) (hsu:∀ e,uD (X.hand e) (b0::suite) ts) (hdb:(x == ("__debug__" : Str))=false:=by decide) :
  PS X (.Try body [.ExceptHandler (some (.Name x np)) (some n) (b0::suite) pos] [] [] pos') (zKs X.K X.N.length i L tb ts):=by
 intro pins s σ H D I h
 refine wpAny_Try_except ?_
 have main:=hb _ (fun ev s1=>wpAny (model X.prog X.w) X.A (noteFrame ev X.env) (fun _ s2=>wpAny (model X.prog X.w) X.A (setFlight ev none) (fun _ s3 =>
   wpAny (model X.prog X.w) X.A (handleBy ev X.env [.ExceptHandler (some (.Name x np)) (some n) (b0::suite) pos]) (SP X pins D) X.xe s3) X.xe s2) X.xe s1) (X.pn++pins) ?pass [] s σ H D (I.tryb _) h
 case pass =>
  rintro pins' σ' H1 s1 ev s' I1 ⟨e,cls,a0,B,H',rfl,F,C,rfl,hC,hsub,hts⟩
  have I2:=I1.untryb I.ok
  exact zKr I2 hs hf hx F hC O hsub hg hN hi hl (fun s2 I9 hn=>hsu e pins s2 _ _ _ I9 (hts e hn)) hdb
 refine wpAny_mono main (fun f s1 h1=>?_) fun ev s1 h1=>h1
 have h2:SP X pins D f s1:=by
  cases f with
  | next=>obtain ⟨σ',H',J,q⟩:=h1; exact ⟨σ',H',J.untryb I.ok,q⟩
  | brk=>obtain ⟨σ',H',J,q⟩:=h1; exact ⟨σ',H',J.untryb I.ok,q⟩
  | cont=>obtain ⟨σ',H',J,q⟩:=h1; exact ⟨σ',H',J.untryb I.ok,q⟩
  | ret u=>obtain ⟨v,σ',H',J,r,q⟩:=h1; exact ⟨v,σ',H',J.untryb I.ok,r,q⟩
 cases f with
 | next=>exact wpAny_execs_nil h2
 | ret u=>exact h2
 | brk=>exact h2
 | cont=>exact h2
end
structure RoomB (k:Nat) (A:Around):Prop where
 dp:A.depth+3 * k+5 < recursionLimit
 un:A.units+16 * k+200 < cLine
theorem RoomB.deeper {k:Nat}{A:Around} (r:RoomB (k+1) A) (env:Env):RoomB k (A.deeper env) :=
 ⟨by have:=r.dp; show A.depth+1+3 * k+5 < _; omega,by have:=r.un; show A.units+3+16 * k+200 < _; omega⟩
theorem RoomB.depth {k:Nat}{A:Around} (r:RoomB k A):A.depth < recursionLimit:=by have:=r.dp; omega
theorem Room.busy {k:Nat}{A:Around} (r:Room k A) (v:Option Value):RoomB k (A.mark v):=⟨r.dp,r.un⟩
def cxB (CX:uH) (P:Program) (w:World) (K:PySem.W.Frag) (mg:Str->Option Value) (base:Heap) (N:List Str) (qual:Str) (scope:Scope) (f:Addr) (cd:Value) (A:Around) (outer:List Env) (s:Shared) (H:Hp) (E:XK):Cx :=
 { jS CX P w K mg base N qual scope f cd A outer s H E with calm:=false }
structure FnB (P:Program) (w:World) (K:PySem.W.Frag) (mg:Str->Option Value) (base:Heap) (CX:uH) (k:Nat) (f:Addr) (fd:FuncData) (ps:List Str) (sp:Sp):Prop where
 len:∀ vs H Q E,sp vs H Q E->vs.length=ps.length
 run:∀ (A:Around) (outer:List Env) (s:Shared) (H:Hp) (args:Args) (us:List Value) (vs:List V) (Q:VK) (E:XK),RoomB k A->Env0 P w K mg base A outer s H->BindsTo s fd args (ps.zip us)->zL vs us->sp vs H Q E ->
  codeAny (model P w) A (.call (.ref f) args) (CR CX outer P w H s Q E) s
theorem zKu {CX:uH}{P:Program}{w:World}{K:PySem.W.Frag}{mg:Str->Option Value}{base:Heap}{N ps:List Str}{qual:Str}{scope:Scope}{f:Addr}{cd:Value}{A:Around}{outer:List Env}{s s1:Shared}{H:Hp}{E:XK}{us:List Value}{vs:List V}
  (S:FnScope N ps scope) (e0:Env0 P w K mg base A outer s H) (hl:vs.length=ps.length) (r:zL vs us)
  (x:InCallC s s.heap.objs.size (bindL (envOfC qual scope s.heap.objs.size f cd).kindOf (ps.zip us) fun _=>none) (cellsFrom (s.heap.objs.size+1) scope.names []) (bindC (envOfC qual scope s.heap.objs.size f cd).kindOf (ps.zip us) fun _=>none) s1) :
  Inv (cxB CX P w K mg base N qual scope f cd A outer s H E) [] (uI N vs) H s1:=by
 have hpl:ps.length<=N.length:=by have:=congrArg List.length S.pre; rw [List.length_take] at this; omega
 obtain ⟨h1,tk,rfl,hk⟩:=x.done
 have noA:∀ b:Addr,b ∉ (cxB CX P w K mg base N qual scope f cd A outer s H E).ex:=fun b z=>absurd (show b∈([]:List Addr) from z) (by simp)
 refine ⟨⟨e0.mod,S.kind,rfl,rfl,Nat.le_refl _,fun y z c h1 h2=>?_,fun y hy=>?_,fun y c _ h=>?_,(fun z=>by cases z),Around.frames_deeper e0.frames,.inr ⟨rfl,rfl⟩,fun b z=>absurd z (noA b),e0.bs,e0.bsz,fun b _ _=>noA b,fun b z=>absurd z (noA b),e0.funs,e0.frf⟩,
  rfl,e0.bare,Un.kept hk,⟨_,x.toInCall.ns,fun i y v h1 h2 h3=>?_⟩,fun y c h=>⟨_,x.cell y c h⟩,e0.hok.fresh (Nat.le_refl _),fun y c h=>?_,fun p hp=>absurd (show p∈([]:List (Addr × Obj)) from hp) (by simp),e0.hok.kept hk,?_⟩
 ·exact name_of_addr x.apart (PySem.mem_of_lookup h1) (PySem.mem_of_lookup h2)
 ·have hy:scope.names.lookup y=some .cell\/scope.names.lookup y=some .free:=hy
  rcases hy with hy | hy
  ·exact zBL hy
  ·exact absurd rfl (S.nofree _ (PySem.mem_of_lookup hy))
 ·exact Nat.le_of_lt (x.above y c (PySem.mem_of_lookup h))
 ·have hi:i < vs.length:=by
   unfold uI at h2
   by_cases hi:i < vs.length
   ·exact hi
   ·rw [List.getElem?_append_right (by simpa using hi)] at h2
    rw [List.getElem?_replicate] at h2
    split at h2 <;> cases h2
  have ha:vs[i]?=some v:=by
   unfold uI at h2
   rw [List.getElem?_append_left (by simpa using hi),List.getElem?_map] at h2
   cases e:vs[i]? with
   | none=>rw [e] at h2; cases h2
   | some a=>rw [e] at h2; cases h2; rfl
  obtain ⟨u,hu,rv⟩:=r.get ha
  have hp:ps[i]?=some y:=by
   rw [<- S.pre,List.getElem?_take_of_lt (by omega)]; exact h1
  have ndP:ps.Nodup:=by rw [<- S.pre]; exact S.nd.sublist (List.take_sublist _ _)
  refine ⟨u,rv,?_⟩
  rcases S.par y (List.mem_of_getElem? hp) with k | k
  ·exact .inl ⟨k,zCC ndP hp hu k⟩
  ·obtain ⟨c,e⟩:=zBL (n:=s.heap.objs.size+1) k
   refine .inr ⟨.inl k,c,e,?_⟩
   have q:=x.cell y c e
   rw [zCD ndP hp hu (by show scope.names.lookup y≠_; rw [k]; decide)] at q
   exact q
 ·exact e0.hok.fresh (Nat.le_of_lt (x.above y c (PySem.mem_of_lookup h)))
 ·unfold uI
  show _=N.length
  rw [List.length_append,List.length_map,List.length_replicate]
  omega
theorem zKv {CX:uH}{P:Program}{w:World}{K:PySem.W.Frag}{mg:Str->Option Value}{base:Heap}{k:Nat}{f:Addr}{name qual:Str}{params:Arguments}{body:List Stmt}{scope:Scope}{dV kV doc pm cdv ct oc:Value}{an od:Option Addr}
  {osl:Array (Option Value)} {N ps:List Str} {sp:Sp} (lk:K.lookup f=some ⟨oc,od,.func (PySem.W.fnOf name qual params body scope dV kV doc pm an cdv ct),osl⟩) (hcd:PySem.W.codeIn K cdv qual=true) (S:FnScope N ps scope)
  (len:∀ vs H Q E,sp vs H Q E->vs.length=ps.length)
  (hbody:∀ (A:Around) (outer:List Env) (s:Shared) (H:Hp) (vs:List V) (Q:VK) (E:XK),RoomB k (A.deeper (envOfC qual scope s.heap.objs.size f cdv))->sp vs H Q E ->
   ∃ t,uD (cxB CX P w K mg base N qual scope f cdv A outer s H E) body t/\t { nx:=fun _ H'=>Q .non H',rt:=Q } (uI N vs) H) :
  FnB P w K mg base CX (k+1) f (PySem.W.fnOf name qual params body scope dV kV doc pm an cdv ct) ps sp:=by
 refine ⟨len,fun A outer s H args us vs Q E hr e0 hb r hsp=>?_⟩
 have hl:=len _ _ _ _ hsp
 have KX:K.In s.heap:=e0.mod.kin.keeps fun b o e=>(e0.bs b o e).1
 have lim:s.heap.NoLimit:=e0.mod.nolimit.keeps fun b o e=>(e0.bs b o e).1
 have hkind:∀ y∈ps.zip us,scope.names.lookup y.1=some .local\/(scope.names.lookup y.1=some .cell/\((cellsFrom (s.heap.objs.size+1) scope.names []).lookup y.1).isSome=true):=fun ⟨n,v⟩ hy=>by
  rcases S.par n (List.of_mem_zip hy).1 with q | q
  ·exact .inl q
  ·exact .inr ⟨q,PySem.W.cellsFrom_some _ _ _ (.inl q)⟩
 refine codeAny_call_function hr.depth (KX _ _ lk) rfl S.co S.gen rfl (PySem.W.codeRec_of KX hcd) (hb _ _ _ _ ?_)
 refine wpAny_newFunctionEnv_cells S.kind hkind fun env he s1 x=>?_
 subst he
 refine ⟨lim.keeps x.toInCall.keep,codeAny_func ?_⟩
 obtain ⟨t,ht,hq⟩:=hbody A outer s H vs Q E (hr.deeper _) hsp
 have I:Inv (cxB CX P w K mg base N qual scope f cdv A outer s H E) [] (uI N vs) H s1:=zKu S e0 hl r x
 refine wpAny_mono (ht [] s1 (uI N vs) H _ I hq) (fun fl s' hs=>?_) fun e s' hs=>hs
 have fin:∀ {σ':St} {H':Hp} {v:V} {u:Value},Inv (cxB CX P w K mg base N qual scope f cdv A outer s H E) [] σ' H' s'->zQ v u->Q v H'->CE outer P w H s Q u s' :=
  fun {σ' H' v u} J rv q=>⟨v,H',J.os,J.bare,J.base,J.hok,rv,q⟩
 cases fl with
 | ret u =>
  obtain ⟨v,σ',H',J,rv,q⟩:=hs
  exact fin J rv q
 | next =>
  obtain ⟨σ',H',J,q⟩:=hs
  exact fin (v:=V.non) (u:=Value.none) J rfl q
 | brk =>
  obtain ⟨_,_,_,q⟩:=hs
  exact False.elim q
 | cont =>
  obtain ⟨_,_,_,q⟩:=hs
  exact False.elim q
section
variable {P:Program}{w:World}{K:PySem.W.Frag}{mg:Str->Option Value}{base:Heap}
theorem Fun.okB {x qual:Str}{st:Stmt}{f:Addr}{fd:FuncData}{N ps:List Str}{k:Nat}{sp:Sp} (F:Fun K x qual st f fd) (S:FnScope N ps (defScope st)) (len:∀ vs H Q E,sp vs H Q E->vs.length=ps.length)
  (hbody:∀ (cdv:Value) (A:Around) (outer:List Env) (s:Shared) (H:Hp) (vs:List V) (Q:VK) (E:XK),RoomB k (A.deeper (envOfC qual (defScope st) s.heap.objs.size f cdv))->sp vs H Q E ->
   ∃ t,uD (cxB yF P w K mg base N qual (defScope st) f cdv A outer s H E).nox (defBody st) t/\t { nx:=fun _ H'=>Q .non H',rt:=Q } (uI N vs) H):FnB P w K mg base yF (k+1) f fd ps sp:=by
 obtain ⟨oc,od,kV,doc,pm,an,cdv,ct,osl,rfl,lk,hcd⟩:=F.ex
 refine zKv lk hcd S len fun A outer s H vs Q E hr hsp=>?_
 obtain ⟨t,h,q⟩:=hbody cdv A outer s H vs Q E hr hsp
 exact ⟨t,h.nox,q⟩
def zDA (P:Program) (w:World) (K:PySem.W.Frag) (mg:Str->Option Value) (base:Heap) (k:Nat) (x:Str) (ps:List Str) (sp:Sp):Prop :=
 ∃ (f:Addr) (fd:FuncData),FnB P w K mg base yF k f fd ps sp/\mg x=some (.ref f)/\PySem.W.keepIn K (.ref f)=true/\jL K fd ps []
theorem zKw {X:Cx}{k:Nat}{f:Addr}{fd:FuncData}{ps:List Str}{sp:Sp}{pins:List (Addr × Obj)}{σ:St}{H:Hp}{s:Shared}{Q:VK}{us:List Value}{vs:List V} (F:FnB X.prog X.w X.K X.mg X.base yF k f fd ps sp) (hr:RoomB k X.A) (hb:jL X.K fd ps [])
  (I:Inv X pins σ H s) (r:zL vs us) (h:sp (vs++[]) H Q E0):wpAny (model X.prog X.w) X.A (call (.ref f) us) (EP X pins σ Q) X.xe s:=by
 have r2:zL (vs++[]) (us++[]):=r.append .nil
 have hl:(us++[]).length=ps.length:=by rw [<- r2.length]; exact F.len _ _ _ _ h
 refine wpAny_call (codeAny_mono (F.run X.A X.stack s H ⟨us,[]⟩ (us++[]) (vs++[]) Q E0 hr I.env0 (hb s us I.kIn hl) r2 h) fun r s' hq=>?_)
 cases r with
 | error e=>exact False.elim hq
 | ok fl =>
  cases fl with
  | ret u=>exact I.after hq
  | next=>exact False.elim hq
  | brk=>exact False.elim hq
  | cont=>exact False.elim hq
theorem zKx {X:Cx}{k:Nat}{x:Str}{ps:List Str}{sp:Sp}{p pos:Pos}{e:Expr}{es:List Expr}{t:TA} (C:zDA X.prog X.w X.K X.mg X.base k x ps sp) (hr:RoomB k X.A) (hg:Gl X x) (ha:PA X (e::es) t)
  (hs:starEach (e::es) X.env=(false,eval e X.env)::starEach es X.env:=by rfl) (hplain:(backTo pos (starEach es X.env)).any (·.1)=false:=by rfl)
  (hdb:(x == ("__debug__" : Str))=false:=by decide):PE X (.Call (.Name x p) (e::es) [] pos) (zAk sp [] E0 t):=by
 obtain ⟨f,fd,G,hm,kp,b⟩:=C
 intro pins s σ H Q I h
 refine wpAny_Call_Name_kw (zAf I hg hm ?_ hdb)
 refine PySem.W.callWith_K (h₀:=X.base) I.ok.mod.kin kp (zK (ha pos pins s σ H _ I h) fun us s1 ⟨vs,H1,I1,r,q⟩=>⟨I1.kIn,?_⟩) hs hplain
 exact zKw G hr b I1 r q
end
end L2
end
section
namespace L2
open PySem PySem.Spec PyProof.Rows
structure XLook (K:PySem.W.Frag) (C:Addr):Prop where
 exc:PySem.W.excIn K C g6 "ValueError.__new__" = true
 ga:PySem.W.findIn K (.ref C) "__getattribute__" = some (some (.builtin "BaseException.__getattribute__"))
 gn:PySem.W.findIn K (.ref C) "__getattr__" = some none
 cl:PySem.W.findIn K (.ref C) "__class__" = some (some (.builtin "object.__class__"))
 mo:PySem.W.mroIn K C (.type "object")=some true
section
variable {prog:Program}{w:World}{A:Around}{E:Value->Shared->Prop}{h:Heap}{g:Array GenState}{d:Drawn}{t:Nat}{os:OsState}{K:PySem.W.Frag}{C a:Addr}{o:Obj}{vs:Array Value}
theorem zDB {M:Model}{name:Str}{r:Option Value}{Q:Option Value->Shared->Prop} (X:K.In h) (e:PySem.W.findIn K (.ref C) name=some r) (hq:Q r ⟨h,g,d,t,os⟩):wpAny M A (typeLookup (.ref C) name) Q E ⟨h,g,d,t,os⟩ :=
 PySem.W.looks_findIn X e A Q E _ (fun _ _ z=>z) hq
theorem zKy {M:Model}{nameV:Value}{Q:Unit->Shared->Prop} (X:K.In h) (L:XLook K C) (hx:h.get? a=some o) (hc:o.cls=.ref C) (hq:Q () ⟨h,g,d,t,os⟩) :
  wpAny M A (checkBuiltinCall "BaseException.__getattribute__" ⟨[.ref a,nameV],[]⟩) Q E ⟨h,g,d,t,os⟩:=by
 obtain ⟨tl,N,nm,q,bs,hdct,sn,sub,ab,col,dd,k0,k1,k2,k3,k5,mN,hC,hN,hni,T,_⟩:=g7 X L.exc
 have hk:builtinKind "BaseException.__getattribute__" = some .slot:=by decide +kernel
 have hsplit:splitId "BaseException.__getattribute__" = some ("BaseException", "__getattribute__"):=by decide +kernel
 have hcB:(Value.ref C::tl).contains (.type "BaseException")=true:=by rw [List.contains_cons,T.hasType PySem.F.excBase_ValueError.hasBase]; rfl
 have ha:=PySem.F.args_bexc_ga (.ref a) nameV
 simp only [checkBuiltinCall,hk,hsplit]
 refine wpAny_bind ?_
 ·unfold isInstance
  repeat (first | (with_reducible refine wpAny_loadPart_at hx ?_; rw [hc]) | (with_reducible refine wpAny_isSubtype_exc hC ?_; rw [hcB]) | wp_step)
  exact hq
theorem zKz {R:Result->Shared->Prop} (X:K.In h) (L:XLook K C) (hx:h.get? a=some o) (hc:o.cls=.ref C) (hq:R (.ok (.ret (.ref C))) ⟨h,g,d,t,os⟩) :
  codeAny (model prog w) A (.call (.builtin "getset_descriptor.__get__") ⟨[.builtin "object.__class__",.ref a,.ref C],[]⟩) R ⟨h,g,d,t,os⟩:=by
 obtain ⟨tl,N,nm,q,bs,hdct,sn,sub,ab,col,dd,k0,k1,k2,k3,k5,mN,hC,hN,hni,T,_⟩:=g7 X L.exc
 have hT5:(⟨h,g,d,t,os⟩:Shared).TypeIs (.builtin "object.__class__") "getset_descriptor" := PySem.F.typeOf_object_class
 have hcB:(Value.ref C::tl).contains (.type (".".intercalate ("object.__class__".cutAt '.').dropLast))=true:=by
  rw [PySem.F.owner_object_class,List.contains_cons,T.hasType (X := "object") (b:=true) (by decide)]; rfl
 refine codeAny_call_builtin PySem.F.slot_gs_get.plain PySem.F.entry_gs_get (PySem.F.slot_gs_get.check _ _ _ _ _ _ _ _ hT5 (PySem.F.args_gs_get _ _ _) ?_)
 repeat (any_goals (first | assumption | (with_reducible refine wpAny_loadPart_at hx ?_; rw [hc]) | (with_reducible refine wpAny_isSubtype_exc hC ?_; rw [hcB]) | wp_step))
 refine ⟨Code.quiet_builtin _ (by decide +kernel),codeAny_builtin PySem.F.entry_object_class ?_⟩
 repeat (any_goals (first | assumption | (with_reducible refine wpAny_loadPart_at hx ?_; rw [hc]) | wp_step))
theorem zLA {tk:Tok}{Q:PySem.Fin->Shared->Prop} (X:K.In h) (L:XLook K C) (hx:h.get? a=some o) (hc:o.cls=.ref C) (hq:Q (.done (.ret (.ref C))) ⟨h,g,d,t,os⟩) :
  wpAny (model prog w) A (Builtin.«object.__getattribute__» ⟨[.ref a,.str "__class__" tk],[]⟩) Q E ⟨h,g,d,t,os⟩:=by
 have hT5:(⟨h,g,d,t,os⟩:Shared).TypeIs (.builtin "object.__class__") "getset_descriptor" := PySem.F.typeOf_object_class
 have f5:=PySem.F.typeOf_object_class
 have f6:=PySem.F.slot_gs_get.lookup
 have f7:=PySem.F.slot_gs_set.lookup
 repeat (any_goals (first | assumption | (with_reducible refine wpAny_loadPart_at hx ?_; rw [hc]) | with_reducible refine zDB X L.cl ?_ | wp_step))
 refine zKz X L hx hc ?_
 repeat (any_goals (first | assumption | wp_step))
theorem zLB {tk:Tok}{fill expr:Bool}{Q:Value->Shared->Prop} (X:K.In h) (L:XLook K C) (hx:h.get? a=some o) (hc:o.cls=.ref C) (hq:Q (.ref C) ⟨h,g,d,t,os⟩) :
  wpAny (model prog w) A (getAttrBy (.ref a) (.str "__class__" tk) fill expr) Q E ⟨h,g,d,t,os⟩:=by
 have f3:=PySem.F.attr_ValueError.ga.bind (.ref a)
 have hx0:(expr && onTheHeap (Value.builtin "BaseException.__getattribute__"))=false:=by cases expr <;> rfl
 have hx2:(Value.builtin "BaseException.__getattribute__" == Value.builtin "object.__getattribute__")=false:=by decide +kernel
 have hx1:(onTheHeap (Value.ref C) && Value.builtin "BaseException.__getattribute__" == Value.builtin "object.__getattribute__")=false:=by rw [hx2]; rfl
 repeat (any_goals (first | assumption | (with_reducible refine wpAny_loadPart_at hx ?_; rw [hc]) | with_reducible refine zDB X L.ga ?_ | with_reducible refine zDB X L.gn ?_ | wp_step))
 refine codeAny_call_builtin PySem.F.attr_ValueError.ga.plain PySem.F.entry_bexc_ga (zKy X L hx hc (zLA X L hx hc ?_))
 repeat (any_goals (first | assumption | wp_step))
theorem zLC {Q:Option Value->Shared->Prop} (X:K.In h) (L:XLook K C) (hx:h.get? a=some o) (hc:o.cls=.ref C) (hq:Q (some (.ref C)) ⟨h,g,d,t+1,os⟩) :
  wpAny (model prog w) A (getAttr? (.ref a) "__class__") Q E ⟨h,g,d,t,os⟩:=by
 unfold getAttr? getAttrBy?
 repeat (any_goals (first | assumption | with_reducible apply zLB X L hx hc | wp_step))
end
theorem zGC {K:PySem.W.Frag}{e C:Addr} (L:XLook K C):PySem.W.KitX K (.ref e) (.ref C) (fun h=>∃ oe vs,h.get? e=some oe/\oe.cls=.ref C/\oe.data=.fields vs) where
 ty:=fun M h X ⟨oe,vs,h1,h2,h3⟩=>by
  intro A Q E s k hq
  obtain ⟨hp,g,d,t,os⟩:=s
  have h1':=k _ _ h1
  repeat (first | (with_reducible refine wpAny_loadPart_at h1' ?_; rw [h2]) | wp_step)
  exact hq
 it:=fun M h X _=>by
  obtain ⟨tl,N,nm,q,bs,hdct,sn,sub,ab,col,dd,k0,k1,k2,k3,k5,mN,hC,hN,hni,T,_⟩:=g7 X L.exc
  intro A Q E s k hq
  unfold isType loadHead
  exact wpAny_bind (wpAny_loadPart (k _ _ hC) (wpAny_pure hq))
 ne:=fun h tp dd its n sl X htp=>by
  obtain ⟨tl,N,nm,q,bs,hdct,sn,sub,ab,col,dd',k0,k1,k2,k3,k5,mN,hC,hN,hni,T,_⟩:=g7 X L.exc
  refine Bool.eq_false_iff.mpr fun z=>?_
  have e':C=tp:=Value.ref.inj (beq_iff_eq.mp z)
  subst e'
  rw [hC] at htp
  have z2:Value.type "type" = Value.type "tuple" := congrArg Obj.cls (Option.some.inj htp)
  exact absurd (Value.type.inj z2) (by decide)
 ca:=fun {prog w A E Q s} X ⟨oe,vs,h1,h2,h3⟩ hq=>by
  obtain ⟨hp,g,d,t,os⟩:=s
  exact zLC X L h1 h2 hq
section
variable {X:Cx}
theorem kU:uO X (.builtin "isinstance") (fun xs H Q=>∃ e C c b,xs=[.ref e,c]/\H e=some (XO e C)/\XLook X.K C/\((∃ D,c=.ref D/\PySem.W.kitOne X.K (.ref C) (.ref D)=some b)\/(∃ T,c=.ty T/\PySem.W.kitOne X.K (.ref C) (.type T)=some b))/\Q (.bl b) H):=by
 intro pins s σ H xs us Q I r h
 obtain ⟨e,C,c,b,rfl,he,L,hb,q⟩:=h
 obtain ⟨u,w',rfl,rx,rc⟩:=gB r
 cases rx
 obtain ⟨p,_,_⟩:=I.hok e _ he
 rcases hb with ⟨D,rfl,hk⟩ | ⟨T,rfl,hk⟩
 ·cases rc
  exact PySem.W.kia_one (zGC L) I.kIn p hk (fun z=>nomatch z) fun tk=>⟨.bl b,H,I.tok tk,rfl,q⟩
 ·cases rc
  exact PySem.W.kia_one (zGC L) I.kIn p hk (fun z=>nomatch z) fun tk=>⟨.bl b,H,I.tok tk,rfl,q⟩
end
end L2
end
section
namespace L2
open PySem PySem.Spec PyProof.Rows
section
variable {X:Cx}
theorem zGD (a b:Bool):PySem.MeetsSeq.EqGives (.bool a) (.bool b) (a == b):=fun prog w A E s Q h=>SeqAt.EqAt.bool_bool a b prog w _ _ h
theorem zGE {bs:List Bool}:∀ {us:List Value},zL (bs.map V.bl) us->us=bs.map Value.bool:=by
 induction bs with
 | nil=>intro us r; cases r; rfl
 | cons b bs ih =>
  intro us r
  rw [List.map_cons] at r
  cases r with
  | cons r1 r2=>rw [List.map_cons,<- ih r2,(show _=Value.bool b from r1)]
def isB (b:Bool):Value->Bool
 | .bool a=>a == b
 | _=>false
theorem zLD:gU X "list.count" (fun x vs H Q=>∃ (l:Addr) (bs:List Bool) (b:Bool),x=.ref l/\vs=[.bl b]/\H l=some (.lst (bs.map V.bl))/\Q (.int (bs.count b:Nat)) H):=by
 intro pins s σ H x vs v us Q I rx rv h
 obtain ⟨l,bs,b,rfl,rfl,hH,q⟩:=h
 cases rx
 obtain ⟨u,rfl,ru⟩:=rv.one
 cases ru
 obtain ⟨z,its,n,r,hl,e⟩:=I.lstM hH
 have hi:=zGE r
 subst hi
 refine call_meets PySem.F.slot_list_count ⟨_,e,rfl⟩ PySem.F.entry_list_count (PySem.F.args_list_count_2 _ _) (MeetsSeq.list_count l _ n _ (isB b) (fun y hy=>?_)) ⟨e,?_⟩
 ·obtain ⟨a,_,rfl⟩:=List.mem_map.mp (by simpa using hy:y∈bs.map Value.bool)
  exact zGD a b
 ·refine ⟨.int (bs.count b:Nat),H,I.tok _,⟨s.toks,?_⟩,q⟩
  have:(bs.map Value.bool).countP (isB b)=bs.count b:=by
   rw [List.countP_map,List.count]
   rfl
  simp only [List.toList_toArray,this]
theorem zLE:gU X "list.index" (fun x vs H Q=>∃ (l:Addr) (bs:List Bool) (b:Bool) (j:Nat),x=.ref l/\vs=[.bl b]/\H l=some (.lst (bs.map V.bl))/\bs[j]?=some b/\(∀ i,i < j->bs[i]?≠some b)/\j < 1000/\Q (.int (j:Nat)) H):=by
 intro pins s σ H x vs v us Q I rx rv h
 obtain ⟨l,bs,b,j,rfl,rfl,hH,hj,hno,hz,q⟩:=h
 cases rx
 obtain ⟨u,rfl,ru⟩:=rv.one
 cases ru
 obtain ⟨z,its,n,r,hl,e⟩:=I.lstM hH
 have hi:=zGE r
 subst hi
 have hjl:j < bs.length:=(List.getElem?_eq_some_iff.mp hj).1
 refine call_meets PySem.F.slot_list_index ⟨_,e,rfl⟩ PySem.F.entry_list_index (PySem.F.args_list_index_2 _ _) (MeetsSeq.list_index l _ n _ (isB b) (fun y hy=>?_) j (by simpa using hjl) (by omega) ?_ (fun m hm hmj=>?_)) ⟨e,?_⟩
 ·obtain ⟨a,_,rfl⟩:=List.mem_map.mp (by simpa using hy:y∈bs.map Value.bool)
  exact zGD a b
 ·have:=(List.getElem?_eq_some_iff.mp hj).2
  simp [isB,this]
 ·have hm':m < bs.length:=by simpa using hm
  have:=hno m hmj
  rw [List.getElem?_eq_getElem hm'] at this
  have h2:bs[m]≠b:=fun z=>this (by rw [z])
  simp [isB,h2]
 ·exact ⟨.int (j:Nat),H,I.tok _,⟨_,rfl⟩,q⟩
end
end L2
end
section
namespace L2
open PySem PySem.Spec PyProof.Rows
theorem zZ.freeze {P:Program}{w:World}{H:Hp}{h:Heap}{a:Addr}{o:Obj}{kvs:List (zU × V)} (x:zZ P w H h) (e:H a=some (.dK kvs)) (ho:h.get? a=some o):zZ P w (upd H a (.frz o (.dK kvs))) h:=fun b u eb=>by
 by_cases hb:b=a
 ·subst hb; rw [zG] at eb; cases eb
  exact ⟨ho,x b _ e⟩
 ·rw [zN hb] at eb
  refine (x b u eb).stay (fun c v _ q=>q) (fun c q=>?_) fun c xs q=>?_
  ·rw [zN (by rintro rfl; rw [e] at q; cases q)]; exact q
  ·rw [zN (by rintro rfl; rw [e] at q; cases q)]; exact q
theorem zGF {P:Program}{w:World}{k:zU}{u:Value} (h:(uA P w).is k u=true):zQ (kV k) u:=by
 rw [zHp] at h
 rcases qT h with ⟨i,t,rfl,rfl⟩ | ⟨x,t,rfl,rfl⟩
 ·exact ⟨_,rfl⟩
 ·exact ⟨_,rfl⟩
theorem zDC {α β:Type}{F:α->β->Prop}:∀ {l₁:List α}{l₂:List β}{i:Nat}{x:α},Paired F l₁ l₂->l₁[i]?=some x->∃ y,l₂[i]?=some y/\F x y
 | [],_,i,x,_,h=>by simp at h
 | a::l,[],i,x,p,_=>by cases p
 | a::l,b::m,0,x,p,h=>by
  cases p with
  | cons h1 h2=>cases h; exact ⟨b,rfl,h1⟩
 | a::l,b::m,i+1,x,p,h=>by
  cases p with
  | cons h1 h2 =>
   obtain ⟨y,e1,e2⟩:=zDC (i:=i) (x:=x) h2 (by simpa using h)
   exact ⟨y,by simpa using e1,e2⟩
def Itd (a:Addr) (o:Obj) (kvs:List (zU × V)):It where
 go:=fun i H=>H a=some (.frz o (.dK kvs))/\i < kvs.length
 yld:=fun i H x H'=>H'=H/\(kvs.map fun p=>kV p.1)[i]?=some x
 stop:=fun i H=>H a=some (.frz o (.dK kvs))/\kvs.length<=i
theorem zLF (a:Addr) (o:Obj) (kvs:List (zU × V)):Known (Itd a o kvs) (kvs.map fun p=>kV p.1) (fun H=>H a=some (.frz o (.dK kvs))) :=
 ⟨fun i H h hi=>⟨h,by simpa using hi⟩,fun i H x H' h y=>⟨y.1,fun _=>y.2⟩,fun H h=>⟨h,by simp⟩⟩
theorem zLG {P:Program}{w:World}{K:PySem.W.Frag}{tg:Expr} (a it:Addr) (o:Obj) (kvs:List (zU × V)) (n ep:Nat) (hn:n=kvs.length) (hep:∃ es,o.data=.dict es ep):Turn P w K tg (Itd a o kvs) [it] it (fun i h=>h.IsKeyIter it a i n ep) where
 mem:=by simp
 obj:=fun i h st b hb=>by
  have e:b=it:=by simpa using hb
  subst e
  obtain ⟨o,e,c,d⟩:=st
  exact ⟨o,e,fun v z=>by rw [d] at z; cases z⟩
 keep:=fun i h h' st k=>st.at fun o e=>k it (by simp) o e
 item:=by
  intro X hP hw hK hc i pins s σ H E I hf st hg
  subst hP hw hK
  obtain ⟨hfz,hi⟩:=hg
  obtain ⟨z,hS,vs,rel,dd⟩:=jW I.hok (.inr ⟨o,hfz⟩)
  obtain ⟨hget,_⟩:=(show s.heap.get? a=some o/\_ from I.hok a _ hfz)
  obtain ⟨ep',dat⟩:=dd.dictAt
  have epe:ep'=ep:=by
   obtain ⟨o',es,h1,_,h2,_⟩:=id dat
   obtain ⟨es',h3⟩:=hep
   rw [hget] at h1; cases h1
   rw [h2] at h3; injection h3
  subst epe
  have hlen:vs.length=n:=by rw [hn]; exact (Paired.length rel).symm
  rw [<- hlen] at st
  obtain ⟨f0,f1,f2,f3,f4,f5⟩:=hf it (by simp)
  obtain ⟨q,hq⟩:∃ q,vs[i]?=some q:=⟨_,List.getElem?_eq_getElem (by omega)⟩
  obtain ⟨k,v⟩:=q
  refine wpAny_pyNext_dict_item st dat hq fun key h' hkey st' sb=>?_
  have I1:Inv X pins σ H { s with heap:=h' }:=I.turned (t':=s.toks) (fun b o hb e=>(sb.2 b hb).trans e) f0 f1 f3 f4 f5
  obtain ⟨oi,e,c,d⟩:=id st'
  rw [hlen] at st'
  obtain ⟨p,hp,e1,e2⟩:∃ p,kvs[i]?=some p/\p.1=k/\zQ p.2 v:=by
   have hi':i < kvs.length:=hi
   obtain ⟨y,hy,hr⟩:=zDC rel (List.getElem?_eq_getElem hi')
   rw [hq] at hy; cases hy
   exact ⟨_,List.getElem?_eq_getElem hi',hr.1,hr.2⟩
  refine ⟨key,rfl,zAh (s:={ s with heap:=h' }) e c d (by decide) ⟨kV k,H,I1,zGF hkey,⟨rfl,?_⟩,st',fun b hb=>(hf b hb).1⟩⟩
  rw [List.getElem?_map,hp,<- e1]; rfl
 done:=by
  intro X hP hw hK hc i pins s σ H E I hf st hg
  subst hP hw hK
  obtain ⟨hfz,hi⟩:=hg
  obtain ⟨z,hS,vs,rel,dd⟩:=jW I.hok (.inr ⟨o,hfz⟩)
  obtain ⟨hget,_⟩:=(show s.heap.get? a=some o/\_ from I.hok a _ hfz)
  obtain ⟨ep',dat⟩:=dd.dictAt
  have epe:ep'=ep:=by
   obtain ⟨o',es,h1,_,h2,_⟩:=id dat
   obtain ⟨es',h3⟩:=hep
   rw [hget] at h1; cases h1
   rw [h2] at h3; injection h3
  subst epe
  have hlen:vs.length=n:=by rw [hn]; exact (Paired.length rel).symm
  rw [<- hlen] at st
  obtain ⟨f0,f1,f2,f3,f4,f5⟩:=hf it (by simp)
  refine wpAny_pyNext_dict_end (I.ok.hd hc) st dat (by rw [List.getElem?_eq_none]; omega) fun h' he=>⟨rfl,?_⟩
  exact I.turned (t':=s.toks) (fun b o hb e=>he b o hb e) f0 f1 f3 f4 f5
 self:=fun A i s Q E st hq=>wpAny_pyIter_keyiter st hq
section
variable {X:Cx}{pins:List (Addr × Obj)}{σ:St}{H:Hp}{s:Shared}{tg:Expr}
theorem Inv.freeze {a:Addr}{o:Obj}{kvs:List (zU × V)} (I:Inv X pins σ H s) (e:H a=some (.dK kvs)) (ho:s.heap.get? a=some o):Inv X pins σ (upd H a (.frz o (.dK kvs))) s:=by
 have ne:∀ {b:Addr} {u:Option HO},H b=u->u≠some (.dK kvs)->b≠a:=fun {b u} q n z=>n (by rw [<- q,z,e])
 refine ⟨I.ok,I.os,I.bare,⟨I.base.keep,I.base.slot,fun b ob q n hx=>?_,I.base.there,fun b xs q=>?_,fun b ob u q=>?_,fun b ps q=>?_⟩,I.loc,I.cell,?_,fun x c q=>?_,fun p q=>?_,I.hok.freeze e ho,I.len⟩
 ·have:=I.base.free b ob q n hx
  rw [zN (ne this (by simp))]; exact this
 ·have:=I.base.tups b xs q
  rw [zN (ne this (by simp))]; exact this
 ·have:=I.base.frzs b ob u q
  rw [zN (ne this (by simp))]; exact this
 ·obtain ⟨m,z⟩:=I.base.tbls b ps q
  exact ⟨m,by rw [zN (ne z (by simp))]; exact z⟩
 ·have:=I.free
  rw [zN (ne this (by simp))]; exact this
 ·have:=I.freeC x c q
  rw [zN (ne this (by simp))]; exact this
 ·obtain ⟨a1,a2,a3⟩:=I.pin p q
  exact ⟨a1,by rw [zN (ne a2 (by simp))]; exact a2,a3⟩
def zLH (tl:TE):TI:=fun σ H R=>tl σ H fun x H1=>∃ a kvs,x=.ref a/\H1 a=some (.dK kvs)/\∀ o,R (Itd a o kvs) (upd H1 a (.frz o (.dK kvs)))
theorem zLI {l:Expr}{tl:TE} (hl:PE X l tl):PI X tg l (zLH tl):=by
 intro pins s σ H R I h
 refine zK (hl pins s σ H _ I h) fun v s1 ⟨x,H1,I1,r1,q1⟩=>?_
 obtain ⟨a,kvs,e,hq,q⟩:=q1
 subst e
 cases r1
 obtain ⟨z,hS,vs,rel,dd⟩:=zAN I1.hok hq
 obtain ⟨ep,dat⟩:=dd.dictAt
 obtain ⟨o,es,ho,_,hod,_⟩:=id dat
 refine wpAny_pyIter_dict hS dat ?_
 have I2:=(I1.freeze hq ho).kept (t':=s1.toks) (h':=s1.heap.push { cls:=.type "dict_keyiterator",data:=.fields #[.ref a,.int 0 0,.int vs.length 0,.int ep 0] }) fun b o e=>Heap.get?_push_of_some _ e
 refine ⟨s1.heap.objs.size,[s1.heap.objs.size],_,_,upd H1 a (.frz o (.dK kvs)),rfl,I2,zLG a _ o kvs vs.length ep (Paired.length rel).symm ⟨es,hod⟩,⟨_,Heap.get?_push_size _ rfl,rfl,rfl⟩,fun b hb=>?_,q o⟩
 have e:b=s1.heap.objs.size:=by simpa using hb
 subst e
 exact (I1.freeze hq ho).fpOk (Nat.le_refl _) ((I1.freeze hq ho).hok.fresh (Nat.le_refl _))
theorem zZ.thaw {P:Program}{w:World}{H:Hp}{h:Heap}{a:Addr}{o:Obj}{kvs:List (zU × V)} (x:zZ P w H h) (e:H a=some (.frz o (.dK kvs))):zZ P w (upd H a (.dK kvs)) h:=fun b u eb=>by
 by_cases hb:b=a
 ·subst hb; rw [zG] at eb; cases eb
  exact (show h.get? b=some o/\yM P w H h b (.dK kvs) from x b _ e).2
 ·rw [zN hb] at eb
  refine (x b u eb).stay (fun c v _ q=>q) (fun c q=>?_) fun c xs q=>?_
  ·rw [zN (by rintro rfl; rw [e] at q; cases q)]; exact q
  ·rw [zN (by rintro rfl; rw [e] at q; cases q)]; exact q
theorem Inv.thaw {a:Addr}{o:Obj}{kvs:List (zU × V)}{pins':List (Addr × Obj)}{σ':St}{H':Hp}{s':Shared} (I:Inv X pins σ H s) (I0:Inv X pins' σ' H' s') (h0:H' a=some (.dK kvs)) (e:H a=some (.frz o (.dK kvs))):Inv X pins σ (upd H a (.dK kvs)) s:=by
 have ne:∀ {b:Addr} {u:Option HO},H b=u->u≠some (.frz o (.dK kvs))->b≠a:=fun {b u} q n z=>n (by rw [<- q,z,e])
 refine ⟨I.ok,I.os,I.bare,⟨I.base.keep,I.base.slot,fun b ob q n hx=>?_,I.base.there,fun b xs q=>?_,fun b ob u q=>?_,fun b ps q=>?_⟩,I.loc,I.cell,?_,fun x c q=>?_,fun p q=>?_,I.hok.thaw e,I.len⟩
 ·have:=I.base.free b ob q n hx
  rw [zN (ne this (by simp))]; exact this
 ·have:=I.base.tups b xs q
  rw [zN (ne this (by simp))]; exact this
 ·have:=I.base.frzs b ob u q
  rw [zN (by rintro rfl; have:=I0.base.frzs _ ob u q; rw [h0] at this; cases this)]; exact this
 ·obtain ⟨m,z⟩:=I.base.tbls b ps q
  exact ⟨m,by rw [zN (ne z (by simp))]; exact z⟩
 ·have:=I.free
  rw [zN (ne this (by simp))]; exact this
 ·have:=I.freeC x c q
  rw [zN (ne this (by simp))]; exact this
 ·obtain ⟨a1,a2,a3⟩:=I.pin p q
  exact ⟨a1,by rw [zN (ne a2 (by simp))]; exact a2,a3⟩
def zLJ (t:TE):TE:=fun σ H Q=>∃ a kvs,H a=some (.dK kvs)/\t σ H fun y H'=>∃ o,H' a=some (.frz o (.dK kvs))/\Q y (upd H' a (.dK kvs))
theorem zLK {e:Expr}{t:TE} (he:PE X e t):PE X e (zLJ t):=by
 intro pins s σ H Q I h
 obtain ⟨a,kvs,h0,h⟩:=h
 exact zK (he pins s σ H _ I h) fun u s1 ⟨y,H',I',r,o,hf,q⟩=>⟨y,_,I'.thaw I h0 hf,r,q⟩
end
end L2
end
section
namespace L2
open PySem PySem.Spec PyProof.Rows
theorem zLL:entryFor table "dict_itemiterator.__iter__" = some Builtin.«dict_keyiterator.__iter__» :=
 entryFor_alias (id' := "dict_keyiterator.__iter__") (by kernel_rfl) rfl (by decide +kernel) (by kernel_rfl)
def Iti (a:Addr) (o:Obj) (kvs:List (zU × V)):It where
 go:=fun i H=>H a=some (.frz o (.dK kvs))/\i < kvs.length
 yld:=fun i H x H'=>∃ T q,x=.ref T/\H T=none/\H'=upd H T (.tup [kV q.1,q.2])/\kvs[i]?=some q
 stop:=fun i H=>H a=some (.frz o (.dK kvs))/\kvs.length<=i
theorem zLM {P:Program}{w:World}{K:PySem.W.Frag}{elts:List Expr}{k:Nat}{pos:Pos} (a it:Addr) (o:Obj) (kvs:List (zU × V)) (n ep:Nat) (hn:n=kvs.length) (hep:∃ es,o.data=.dict es ep) :
  Turn P w K (.Tuple elts k pos) (Iti a o kvs) [it] it (fun i h=>∃ ok ov,IsItemIter h it a i n ep ok ov) where
 mem:=by simp
 obj:=fun i h st b hb=>by
  have e:b=it:=by simpa using hb
  subst e
  obtain ⟨ok,ov,st⟩:=st
  exact ⟨_,st,fun v z=>by
   have z':Data.fields _=Data.cell v:=z
   cases z'⟩
 keep:=fun i h h' st kk=>let ⟨ok,ov,st⟩:=st; ⟨ok,ov,kk it (by simp) _ st⟩
 item:=by
  intro X hP hw hK hc i pins s σ H E I hf st hg
  subst hP hw hK
  obtain ⟨hfz,hi⟩:=hg
  obtain ⟨ok,ov,st⟩:=st
  obtain ⟨z,hS,vs,rel,dd⟩:=jW I.hok (.inr ⟨o,hfz⟩)
  obtain ⟨hget,_⟩:=(show s.heap.get? a=some o/\_ from I.hok a _ hfz)
  obtain ⟨ep',dat⟩:=dd.dictAt
  have epe:ep'=ep:=by
   obtain ⟨o',es,h1,_,h2,_⟩:=id dat
   obtain ⟨es',h3⟩:=hep
   rw [hget] at h1; cases h1
   rw [h2] at h3; injection h3
  subst epe
  have hlen:vs.length=n:=by rw [hn]; exact (Paired.length rel).symm
  rw [<- hlen] at st
  obtain ⟨q,hq⟩:∃ q,vs[i]?=some q:=⟨_,List.getElem?_eq_getElem (by omega)⟩
  obtain ⟨k,v⟩:=q
  obtain ⟨p,hp,e1,e2⟩:∃ p,kvs[i]?=some p/\p.1=k/\zQ p.2 v:=by
   have hi':i < kvs.length:=hi
   obtain ⟨y,hy,hr⟩:=zDC rel (List.getElem?_eq_getElem hi')
   rw [hq] at hy; cases hy
   exact ⟨_,List.getElem?_eq_getElem hi',hr.1,hr.2⟩
  refine wpAny_pyNext_items_item st dat hq fun key h' hkey hout hT hsz hk=>?_
  refine ⟨_,rfl,wpAny_letOwnedTupleGo_items hout fun h2 he2 hs2=>?_⟩
  have hTn:s.heap.get? s.heap.objs.size=none:=by
   cases g:s.heap.get? s.heap.objs.size with
   | none=>rfl
   | some o=>exact absurd (Heap.lt_size g) (Nat.lt_irrefl _)
  have hel:it < s.heap.objs.size:=Heap.lt_size st
  have hT2:h2.get? s.heap.objs.size=some { cls:=.type "tuple",data:=.seq #[key,v] }:=(hs2.2 _ (Nat.ne_of_gt hel)).trans hT
  refine ⟨.ref s.heap.objs.size,upd H s.heap.objs.size (.tup [kV p.1,p.2]),I.turnedT (fp:=[it]) (h':=h2) (t':=s.toks) (fun b ob hb q=>?_) hf hTn ⟨by show 2<=sizeLine; decide,[key,v],.cons (by rw [e1]; exact zGF hkey) (.cons e2 .nil),⟨_,hT2,rfl,_,rfl⟩⟩,rfl,
   ⟨_,p,rfl,I.hok.free hTn,rfl,hp⟩,⟨_,_,by rw [hlen] at he2; exact he2⟩,fun b hb=>?_⟩
  ·have hbe:b≠it:=fun z=>hb (by simp [z])
   exact (hs2.2 b hbe).trans (hk b ob hbe q)
  ·rw [zN]
   ·exact (hf b hb).1
   ·rintro rfl
    have z':s.heap.objs.size=it:=by simpa using hb
    exact absurd hel (by rw [z']; exact Nat.lt_irrefl _)
 done:=by
  intro X hP hw hK hc i pins s σ H E I hf st hg
  subst hP hw hK
  obtain ⟨hfz,hi⟩:=hg
  obtain ⟨ok,ov,st⟩:=st
  obtain ⟨z,hS,vs,rel,dd⟩:=jW I.hok (.inr ⟨o,hfz⟩)
  obtain ⟨hget,_⟩:=(show s.heap.get? a=some o/\_ from I.hok a _ hfz)
  obtain ⟨ep',dat⟩:=dd.dictAt
  have epe:ep'=ep:=by
   obtain ⟨o',es,h1,_,h2,_⟩:=id dat
   obtain ⟨es',h3⟩:=hep
   rw [hget] at h1; cases h1
   rw [h2] at h3; injection h3
  subst epe
  have hlen:vs.length=n:=by rw [hn]; exact (Paired.length rel).symm
  rw [<- hlen] at st
  obtain ⟨f0,f1,f2,f3,f4,f5⟩:=hf it (by simp)
  refine wpAny_pyNext_items_end (I.ok.hd hc) st dat (by rw [List.getElem?_eq_none]; omega) fun h' he=>⟨rfl,?_⟩
  exact I.turned (t':=s.toks) (fun b o hb e=>he b o hb e) f0 f1 f3 f4 f5
 self:=fun A i s Q E st hq=>by
  obtain ⟨ok,ov,st⟩:=st
  have hT:s.TypeIs (.ref it) "dict_itemiterator" := ⟨_,st,rfl⟩
  refine wpAny_pyIter_slot hT F.slot_dict_itemiterator_iter (wpAny_call_entry F.slot_dict_itemiterator_iter hT zLL ?_ (F.args_dict_itemiterator_iter_1 _))
  show wpAny _ _ (ret (.ref it)) _ _ s
  exact wpAny_pure ⟨_,rfl, "dict_itemiterator",_,hT,F.slot_dict_itemiterator_next.lookup,hq⟩
section
variable {X:Cx}{elts:List Expr}{kk:Nat}{tpos:Pos}{tg:Expr}
def zLN (tl:TE):TI:=fun σ H R=>tl σ H fun x H1=>∃ p a kvs,x=.ref p/\H1 p=some (VW p a)/\H1 a=some (.dK kvs)/\∀ o,R (Iti a o kvs) (upd H1 a (.frz o (.dK kvs)))
theorem zLO {l:Expr}{tl:TE} (hl:PE X l tl):PI X (.Tuple elts kk tpos) l (zLN tl):=by
 intro pins s σ H R I h
 refine zK (hl pins s σ H _ I h) fun v s1 ⟨x,H1,I1,r1,q1⟩=>?_
 obtain ⟨p,a,kvs,e,hp,hq,q⟩:=q1
 subst e
 cases r1
 obtain ⟨z,hS,vs,rel,dd⟩:=zAN I1.hok hq
 obtain ⟨ep,dat⟩:=dd.dictAt
 obtain ⟨o,es,ho,_,hod,_⟩:=id dat
 have hvw:s1.heap.get? p=some (zFV a):=(I1.hok p _ hp).1
 refine wpAny_pyIter_items (v:=p) ⟨_,hvw,rfl,rfl⟩ dat ?_
 have I2:=(I1.freeze hq ho).kept (t':=s1.toks) (h':=s1.heap.push { cls:=.type "dict_itemiterator",data:=.fields #[.none,.bool false,.ref a,.int 0 0,.int vs.length 0,.int ep 0,.none,.none] }) fun b o e=>Heap.get?_push_of_some _ e
 refine ⟨s1.heap.objs.size,[s1.heap.objs.size],_,_,upd H1 a (.frz o (.dK kvs)),rfl,I2,zLM a _ o kvs vs.length ep (Paired.length rel).symm ⟨es,hod⟩,⟨_,_,Heap.get?_push_size _ rfl⟩,fun b hb=>?_,q o⟩
 have e:b=s1.heap.objs.size:=by simpa using hb
 subst e
 exact (I1.freeze hq ho).fpOk (Nat.le_refl _) ((I1.freeze hq ho).hok.fresh (Nat.le_refl _))
theorem zLP {a:Addr}{o:Obj}{kvs:List (zU × V)}{caps:List Nat}{n:Nat}{σ:St}{g:TG}{te:TE}{F:List V->Hp->Prop}{H1:Hp} (cv:St) (k:Nat) (hn:kvs.length < 1000)
  (Pv:Nat->List V->Hp->Prop) (h0:Pv 0 [] H1) (hk:∀ i acc H,i<=kvs.length->Pv i acc H->H a=some (.frz o (.dK kvs))/\acc.length<=i)
  (turn:∀ (i:Nat) (q:zU × V) (T:Addr) (acc:List V) (H:Hp) (ys:St) (Nx:List V->St->Hp->Prop),(∀ acc' H' zs,zs.length=k->Pv (i+1) acc' H'->Nx acc' (cv++zs) H')->kvs[i]?=some q->ys.length=k->Pv i acc H->H T=none ->
   g (.ref T) (cv++ys) (upd H T (.tup [kV q.1,q.2])) fun σ2 H3=>te σ2 H3 fun y H5=>Nx (acc++[y]) σ2 H5)
  (fin:∀ acc H,Pv kvs.length acc H->F acc H) (hcv:uS caps n σ=cv++List.replicate k none:=by rfl) :
  ∃ W:Nat->Nat->List V->St->Hp->Prop,(∃ m,W 0 m [] (uS caps n σ) H1)/\∀ i m acc σ' H',W i m acc σ' H' ->
   ((Iti a o kvs).stop i H'/\F acc H') \/
   ((Iti a o kvs).go i H'/\acc.length < sizeLine/\∀ x H2,(Iti a o kvs).yld i H' x H2->g x σ' H2 fun σ2 H3=>gF σ2 H3 fun b H4=>if b=true then te σ2 H4 fun y H5=>∃ m',m' < m/\W (i+1) m' (acc++[y]) σ2 H5 else ∃ m',m' < m/\W (i+1) m' acc σ2 H4):=by
 refine ⟨fun i m acc σ' H'=>i<=kvs.length/\m=kvs.length - i/\(∃ ys,ys.length=k/\σ'=cv++ys)/\Pv i acc H',⟨kvs.length,Nat.zero_le _,rfl,⟨_,by simp,hcv⟩,h0⟩,?_⟩
 rintro i m acc σ' H' ⟨hi,rfl,⟨ys,hy,rfl⟩,pv⟩
 obtain ⟨hH,ha⟩:=hk i acc H' hi pv
 by_cases e:i=kvs.length
 ·subst e
  exact .inl ⟨⟨hH,Nat.le_refl _⟩,fin acc H' pv⟩
 ·have hi':i < kvs.length:=by omega
  refine .inr ⟨⟨hH,hi'⟩,by rw [sizeLine_eq]; omega,fun x H2 hy2=>?_⟩
  obtain ⟨T,q,rfl,hT,rfl,hq⟩:=hy2
  have:=turn i q T acc H' ys (fun acc' σ2 H5=>∃ m',m' < kvs.length - i/\(i+1<=kvs.length/\m'=kvs.length - (i+1)/\(∃ ys,ys.length=k/\σ2=cv++ys)/\Pv (i+1) acc' H5)) (fun acc' H5 zs hz p=>⟨kvs.length - (i+1),by omega,by omega,rfl,⟨zs,hz,rfl⟩,p⟩) hq hy pv hT
  have e:(fun (σ2:St) (H3:Hp)=>gF σ2 H3 fun b H4=>if b=true then te σ2 H4 fun y H5=>∃ m',m' < kvs.length - i/\(i+1<=kvs.length/\m'=kvs.length - (i+1)/\(∃ ys,ys.length=k/\σ2=cv++ys)/\Pv (i+1) (acc++[y]) H5) else ∃ m',m' < kvs.length - i/\(i+1<=kvs.length/\m'=kvs.length - (i+1)/\(∃ ys,ys.length=k/\σ2=cv++ys)/\Pv (i+1) acc H4))=fun σ2 H3=>te σ2 H3 fun y H5=>∃ m',m' < kvs.length - i/\(i+1<=kvs.length/\m'=kvs.length - (i+1)/\(∃ ys,ys.length=k/\σ2=cv++ys)/\Pv (i+1) (acc++[y]) H5):=by
   funext σ2 H3
   unfold gF
   simp
  rw [e]
  exact this
end
end L2
end
section
namespace L2
open PySem PySem.Spec PyProof.Rows
section
variable {X:Cx}
theorem zLQ (a b:Str) (t u:Tok):PySem.MeetsSeq.EqGives (.str a t) (.str b u) (a == b):=fun prog w A E s Q h=>SeqAt.EqAt.str_str a t b u prog w _ _ h
def zDD (b:Str):Value->Bool
 | .str x _=>x == b
 | _=>false
theorem zLR {ss:List Str}:∀ {us:List Value},zL (ss.map V.str) us->us.length=ss.length/\∀ (i:Nat) (z:Str),ss[i]?=some z->∃ t,us[i]?=some (Value.str z t):=by
 induction ss with
 | nil=>intro us h; cases h; exact ⟨rfl,fun i z h=>by simp at h⟩
 | cons s ss ih =>
  intro us h
  cases h with
  | cons h1 h2 =>
   obtain ⟨t,rfl⟩:=h1
   obtain ⟨e1,e2⟩:=ih h2
   refine ⟨by rw [List.length_cons,List.length_cons,e1],fun i z h=>?_⟩
   cases i with
   | zero=>cases (Option.some.inj h:s=z); exact ⟨t,rfl⟩
   | succ i=>exact e2 i z h
theorem zLS:gU X "list.index" (fun x vs H Q=>∃ (l:Addr) (bs:List Str) (b:Str) (j:Nat),x=.ref l/\vs=[.str b]/\H l=some (.lst (bs.map V.str))/\bs[j]?=some b/\(∀ i,i < j->bs[i]?≠some b)/\j < 1000/\Q (.int (j:Nat)) H):=by
 intro pins s σ H x vs v us Q I rx rv h
 obtain ⟨l,bs,b,j,rfl,rfl,hH,hj,hno,hz,q⟩:=h
 cases rx
 obtain ⟨u,rfl,ru⟩:=rv.one
 obtain ⟨tb,rfl⟩:=ru
 obtain ⟨z,its,n,r,hl,e⟩:=I.lstM hH
 obtain ⟨hlen,hget⟩:=zLR r
 have hjl:j < bs.length:=(List.getElem?_eq_some_iff.mp hj).1
 obtain ⟨tj,hgj⟩:=hget j b hj
 refine call_meets PySem.F.slot_list_index ⟨_,e,rfl⟩ PySem.F.entry_list_index (PySem.F.args_list_index_2 _ _) (MeetsSeq.list_index l _ n _ (zDD b) (fun y hy=>?_) j (by simpa [hlen] using hjl) (by omega) ?_ (fun m hm hmj=>?_)) ⟨e,?_⟩
 ·have hy':y∈its:=by simpa using hy
  obtain ⟨i,hi,e1⟩:=List.mem_iff_getElem.mp hy'
  have hib:i < bs.length:=by omega
  obtain ⟨ti,hgi⟩:=hget i bs[i] (List.getElem?_eq_getElem hib)
  rw [List.getElem?_eq_getElem hi] at hgi
  have e2:=Option.some.inj hgi
  rw [e1] at e2
  subst e2
  exact zLQ _ _ _ _
 ·have hjs:j < its.length:=by omega
  rw [List.getElem?_eq_getElem hjs] at hgj
  have e2:=Option.some.inj hgj
  simp [zDD,e2]
 ·have hm':m < its.length:=by simpa using hm
  have hmb:m < bs.length:=by omega
  obtain ⟨tm,hgm⟩:=hget m bs[m] (List.getElem?_eq_getElem hmb)
  rw [List.getElem?_eq_getElem hm'] at hgm
  have e2:=Option.some.inj hgm
  have:=hno m hmj
  rw [List.getElem?_eq_getElem hmb] at this
  have h2:bs[m]≠b:=fun z=>this (by rw [z])
  simp [zDD,e2,h2]
 ·exact ⟨.int (j:Nat),H,I.tok _,⟨_,rfl⟩,q⟩
end
end L2
end
section
namespace Kn
theorem zGG (t l:S) (o:Nat):zS (zS t o++l) o=zS (t++l) o:=by
 unfold zS
 rw [List.length_append,List.length_append,List.length_drop]
 by_cases h:t.length<=o
 ·rw [show t.length - o=0 by omega,List.drop_zero,Nat.sub_zero]
 ·rw [List.drop_append,List.drop_append,List.drop_drop,List.length_drop]
  congr 1
  ·congr 1; omega
  ·congr 1; omega
theorem zLT {o:Nat}{nm e:S}{c:Nat} (h:(e,[c])∈zX o nm):∃ l,(zS (e++[c]) o,l)∈zX o nm:=by
 unfold zX at h
 obtain ⟨p,hp,e1⟩:=List.mem_map.mp h
 have hp':p < nm.length+1:=List.mem_range.mp hp
 have e2:zS (nm.take p) o=e:=congrArg Prod.fst e1
 have e3:(nm.drop p).take 1=[c]:=congrArg Prod.snd e1
 have hl:p < nm.length:=by
  by_cases h:p < nm.length
  ·exact h
  ·rw [List.drop_of_length_le (by omega)] at e3; cases e3
 have e4:nm.take (p+1)=nm.take p++[c]:=by
  rw [<- e3,<- List.take_add]
 refine ⟨(nm.drop (p+1)).take 1,?_⟩
 rw [<- e2,zGG,<- e4]
 exact List.mem_map.mpr ⟨p+1,List.mem_range.mpr (by omega),rfl⟩
theorem zLU {o:Nat}{bk:List S}{e:S}{c:Nat} (h:(e,[c])∈zE o bk):∃ l,(zS (e++[c]) o,l)∈zE o bk:=by
 obtain ⟨nm,hn,hp⟩:=List.mem_flatMap.mp h
 obtain ⟨l,hl⟩:=zLT hp
 exact ⟨l,List.mem_flatMap.mpr ⟨nm,hn,hl⟩⟩
theorem zLV {o:Nat}{nm e l:S} (h:(e,l)∈zX o nm):l.length<=1:=by
 unfold zX at h
 obtain ⟨p,_,e1⟩:=List.mem_map.mp h
 have e3:(nm.drop p).take 1=l:=congrArg Prod.snd e1
 rw [<- e3,List.length_take]; omega
theorem zLW {o:Nat}{bk:List S}{e l:S} (h:(e,l)∈zE o bk):l.length<=1:=by
 obtain ⟨nm,hn,hp⟩:=List.mem_flatMap.mp h
 exact zLV hp
theorem zLX {l:S} (h:l.length<=1) (hn:l≠[]):∃ c,l=[c]:=by
 match l,h,hn with
 | [c],_,_=>exact ⟨c,rfl⟩
end Kn
end
section
namespace Kn
def kW (x:S):List S->List S
 | []=>[x]
 | y::l=>if x < y then x::y::l else if y < x then y::kW x l else y::l
def zAu (l:List S):List S:=l.foldr kW []
theorem zDE (x z:S):∀ l:List S,z∈kW x l↔z=x\/z∈l
 | []=>by simp [kW]
 | y::l=>by
  have ih:=zDE x z l
  unfold kW
  split
  ·simp
  ·split
   ·rw [List.mem_cons,ih,List.mem_cons]
    constructor
    ·rintro (h | h | h)
     ·exact .inr (.inl h)
     ·exact .inl h
     ·exact .inr (.inr h)
    ·rintro (h | h | h)
     ·exact .inr (.inl h)
     ·exact .inl h
     ·exact .inr (.inr h)
   ·rename_i h1 h2
    have e:=zKL x y h1 h2
    subst e
    rw [List.mem_cons]
    exact ⟨fun h=>.inr h,fun h=>h.elim .inl id⟩
theorem zGH (x:S):∀ l:List S,l.Pairwise (· < ·)->(kW x l).Pairwise (· < ·)
 | [],_=>by simp [kW]
 | y::l,h=>by
  have h1:=List.pairwise_cons.mp h
  unfold kW
  split
  ·rename_i hx
   refine List.pairwise_cons.mpr ⟨fun z hz=>?_,h⟩
   rcases List.mem_cons.mp hz with e | e
   ·rw [e]; exact hx
   ·exact zBT hx (h1.1 z e)
  ·split
   ·rename_i hy
    refine List.pairwise_cons.mpr ⟨fun z hz=>?_,zGH x l h1.2⟩
    rcases (zDE x z l).mp hz with e | e
    ·rw [e]; exact hy
    ·exact h1.1 z e
   ·exact h
theorem zGI (z:S):∀ l:List S,z∈zAu l↔z∈l
 | []=>by simp [zAu]
 | y::l=>by
  show z∈kW y (zAu l)↔_
  rw [zDE,zGI z l,List.mem_cons]
theorem zAv:∀ l:List S,(zAu l).Pairwise (· < ·)
 | []=>List.Pairwise.nil
 | y::l=>zGH y _ (zAv l)
theorem zGJ:∀ {l m:List S},l.Pairwise (· < ·)->m.Pairwise (· < ·)->(∀ x,x∈l↔x∈m)->l=m
 | [],[],_,_,_=>rfl
 | [],y::ys,_,_,h=>absurd ((h y).mpr (List.mem_cons_self ..)) (by simp)
 | x::xs,[],_,_,h=>absurd ((h x).mp (List.mem_cons_self ..)) (by simp)
 | x::xs,y::ys,hx,hy,h=>by
  have hx1:=List.pairwise_cons.mp hx
  have hy1:=List.pairwise_cons.mp hy
  have exy:x=y:=by
   rcases List.mem_cons.mp ((h x).mp (List.mem_cons_self ..)) with e | e
   ·exact e
   ·rcases List.mem_cons.mp ((h y).mpr (List.mem_cons_self ..)) with e' | e'
    ·exact e'.symm
    ·exact absurd (zBT (hy1.1 x e) (hx1.1 y e')) (jG y)
  subst exy
  have:xs=ys:=zGJ hx1.2 hy1.2 fun p=>by
   constructor
   ·intro hp
    rcases List.mem_cons.mp ((h p).mp (List.mem_cons_of_mem _ hp)) with e | e
    ·subst e; exact absurd (hx1.1 p hp) (jG p)
    ·exact e
   ·intro hp
    rcases List.mem_cons.mp ((h p).mpr (List.mem_cons_of_mem _ hp)) with e | e
    ·subst e; exact absurd (hy1.1 p hp) (jG p)
    ·exact e
  rw [this]
def yZ (ps:List (S × S)) (e:S):List S:=zAu ((ps.filter fun p=>decide (p.1=e)).map (·.2))
theorem gH (ps:List (S × S)) (e l:S):l∈yZ ps e↔(e,l)∈ps:=by
 unfold yZ
 rw [zGI,List.mem_map]
 constructor
 ·rintro ⟨⟨e',l'⟩,h,rfl⟩
  obtain ⟨h1,h2⟩:=List.mem_filter.mp h
  have:e'=e:=of_decide_eq_true h2
  subst this; exact h1
 ·intro h
  exact ⟨(e,l),List.mem_filter.mpr ⟨h,decide_eq_true rfl⟩,rfl⟩
theorem zGK {ps:List (S × S)}{e:S}{m:List S} (h:m.Pairwise (· < ·)) (h2:∀ x,x∈m↔(e,x)∈ps):m=yZ ps e :=
 zGJ h (zAv _) fun x=>by rw [h2]; exact (gH ps e x).symm
def pot (ps:List (S × S)) (e:S):List S:=(yZ ps e).flatMap fun l=>List.replicate (ps.count (e,l)) l
theorem zAW (ps:List (S × S)) (e l:S):l∈pot ps e↔(e,l)∈ps:=by
 unfold pot
 rw [List.mem_flatMap]
 constructor
 ·rintro ⟨l',h1,h2⟩
  rw [(List.mem_replicate.mp h2).2]
  exact (gH ps e l').mp h1
 ·intro h
  refine ⟨l,(gH ps e l).mpr h,List.mem_replicate.mpr ⟨?_,rfl⟩⟩
  have:=List.count_pos_iff.mpr h
  omega
def pick (ps:List (S × S)) (e:S) (n:Nat):S:=(pot ps e).getD (n % (pot ps e).length) []
def dr (ps:List (S × S)) (o:Nat):S->List Nat->Nat->Option (S × Nat)
 | _,[],_=>none
 | t,n::ns,p=>if pick ps (zS t o) n=[] then some (t,p+1) else dr ps o (t++pick ps (zS t o) n) ns (p+1)
theorem zGL {ps:List (S × S)}{e:S} (h:∃ l,(e,l)∈ps) (n:Nat):(e,pick ps e n)∈ps:=by
 obtain ⟨l,hl⟩:=h
 have h1:=(zAW ps e l).mpr hl
 have h2:0 < (pot ps e).length:=List.length_pos_of_mem h1
 have h3:n % (pot ps e).length < (pot ps e).length:=Nat.mod_lt _ h2
 unfold pick
 rw [List.getD_eq_getElem?_getD,List.getElem?_eq_getElem h3]
 exact (zAW ps e _).mp (List.getElem_mem _)
theorem zGM {ps:List (S × S)}{e:S} (h:∃ l,(e,l)∈ps) (n:Nat):(pot ps e)[n % (pot ps e).length]?=some (pick ps e n)/\0 < (pot ps e).length:=by
 obtain ⟨l,hl⟩:=h
 have h2:0 < (pot ps e).length:=List.length_pos_of_mem ((zAW ps e l).mpr hl)
 have h3:n % (pot ps e).length < (pot ps e).length:=Nat.mod_lt _ h2
 refine ⟨?_,h2⟩
 unfold pick
 rw [List.getD_eq_getElem?_getD,List.getElem?_eq_getElem h3]; rfl
def vX (o:Nat) (bk:List S) (t:S):Prop:=∃ l,(zS t o,l)∈zE o bk
theorem vX.next {o:Nat}{bk:List S}{t:S}{c:Nat} (h:(zS t o,[c])∈zE o bk):vX o bk (t++[c]):=by
 obtain ⟨l,hl⟩:=zLU h
 rw [zGG] at hl
 exact ⟨l,hl⟩
theorem vX.pick {o:Nat}{bk:List S}{t:S} (h:vX o bk t) (n:Nat):pick (zE o bk) (zS t o) n=[]\/∃ c,pick (zE o bk) (zS t o) n=[c]/\vX o bk (t++[c]):=by
 have h1:=zGL h n
 by_cases e:Kn.pick (zE o bk) (zS t o) n=[]
 ·exact .inl e
 ·obtain ⟨c,hc⟩:=zLX (zLW h1) e
  rw [hc] at h1
  exact .inr ⟨c,hc,vX.next h1⟩
theorem vX.nil {o:Nat}{bk:List S} (h:bk≠[]):vX o bk []:=by
 cases bk with
 | nil=>exact absurd rfl h
 | cons x bk =>
  refine ⟨x.take 1,List.mem_flatMap.mpr ⟨x,List.mem_cons_self ..,List.mem_map.mpr ⟨0,List.mem_range.mpr (by omega),?_⟩⟩⟩
  simp [zS]
theorem zGN (ps:List (S × S)) (o k:Nat):∀ (ns:List Nat) (t:S) (p:Nat),dr ps o t ns (p+k)=(dr ps o t ns p).map fun q=>(q.1,q.2+k)
 | [],t,p=>rfl
 | n::ns,t,p=>by
  unfold dr
  split
  ·show some (t,p+k+1)=some (t,p+1+k)
   rw [Nat.add_right_comm]
  ·rw [Nat.add_right_comm]; exact zGN ps o k ns _ _
theorem zBe {o:Nat}{bk:List S}:∀ (ns:List Nat) (t:S) (p:Nat) (x:S) (q:Nat),vX o bk t->dr (zE o bk) o t ns p=some (x,q)->p < q/\q<=p+ns.length/\x.length+p+1=t.length+q
 | [],t,p,x,q,_,h=>by cases h
 | n::ns,t,p,x,q,ha,h=>by
  unfold dr at h
  rcases ha.pick n with e | ⟨c,e,h2⟩
  ·rw [if_pos e] at h
   have h3:=Option.some.inj h
   have e1:=(Prod.mk.inj h3).1
   have e2:=(Prod.mk.inj h3).2
   subst e1 e2
   simp only [List.length_cons]; omega
  ·rw [if_neg (by rw [e]; simp),e] at h
   have:=zBe ns _ _ x q h2 h
   rw [List.length_append,List.length_singleton] at this
   simp only [List.length_cons]; omega
def vD (ps:List (S × S)) (o:Nat) (ok:S->Bool) (ns:List Nat):Nat->Nat->Option (S × Nat)
 | 0,_=>none
 | f+1,p=>match dr ps o [] (ns.drop p) p with
  | none=>none
  | some r=>if ok r.1 then some r else vD ps o ok ns f r.2
theorem zDF (ps:List (S × S)) (o:Nat):∀ (ns:List Nat) (t:S) (p:Nat) (x:S) (q:Nat),dr ps o t ns p=some (x,q)->p < q/\q<=p+ns.length
 | [],t,p,x,q,h=>by cases h
 | n::ns,t,p,x,q,h=>by
  unfold dr at h
  split at h
  ·have:=(Prod.mk.inj (Option.some.inj h)).2
   simp only [List.length_cons]; omega
  ·have:=zDF ps o ns _ _ x q h
   simp only [List.length_cons]; omega
theorem zBf (ps:List (S × S)) (o:Nat) (ok:S->Bool) (ns:List Nat):∀ (f g p:Nat),ns.length < f+p->ns.length < g+p->vD ps o ok ns f p=vD ps o ok ns g p
 | 0,0,p,_,_=>rfl
 | 0,g+1,p,h,_=>by
  unfold vD
  rw [List.drop_of_length_le (by omega)]; rfl
 | f+1,0,p,_,h=>by
  unfold vD
  rw [List.drop_of_length_le (by omega)]; rfl
 | f+1,g+1,p,h1,h2=>by
  unfold vD
  cases e:dr ps o [] (ns.drop p) p with
  | none=>rfl
  | some r =>
   have h3:=zDF ps o _ _ _ r.1 r.2 e
   show (if ok r.1 then some r else _)=(if ok r.1 then some r else _)
   rw [zBf ps o ok ns f g r.2 (by omega) (by omega)]
def qO (ps:List (S × S)) (qs:List (S × S)):List Nat:=qs.map fun q=>(pot ps q.1).idxOf q.2
end Kn
end
section
namespace Kn.Dr
open PySem L2 Kn
theorem j7 {α β:Type}{f:α->β}{l:List α}{i:Nat}{y:β} (h:(l.map f)[i]?=some y):∃ x,l[i]?=some x/\y=f x:=by
 rw [List.getElem?_map] at h
 cases e:l[i]? with
 | none=>rw [e] at h; cases h
 | some x=>rw [e] at h; exact ⟨x,rfl,(Option.some.inj h).symm⟩
theorem qP {α:Type}{l:List α}{i:Nat}{x:α} (h:l[i]?=some x):l.take (i+1)=l.take i++[x]:=by
 rw [List.take_succ_eq_append_getElem (List.getElem?_eq_some_iff.mp h).1,(List.getElem?_eq_some_iff.mp h).2]
def vL (f:Addr) (H H':Hp):Prop:=∀ b u,b≠f->H b=some u->H' b=some u
theorem vL.refl {f:Addr} (H:Hp):vL f H H:=fun b u _ h=>h
theorem vL.updf {f:Addr}{H H':Hp}{u:HO} (s:vL f H H'):vL f H (upd H' f u):=fun b v hb e=>by rw [zN hb]; exact s b v hb e
theorem vL.trans {f:Addr}{H H' H'':Hp} (s:vL f H H') (t:vL f H' H''):vL f H H'':=fun b v hb e=>t b v hb (s b v hb e)
theorem vL.of {f:Addr}{H H':Hp} (s:zB H H'):vL f H H':=fun b v _ e=>s b v e
theorem vL.same {f:Addr}{H H0 H':Hp} (t:zB H H0) (hf:H f=none) (s:vL f H0 H'):zB H H':=fun b v e=>s b v (vO e hf) (t b v e)
abbrev g9 (ps:List (S × S)) (e:S):List S:=(yL ps e).map (·.1)
theorem zBg (ps:List (S × S)) (e l:S):l∈g9 ps e↔(e,l)∈ps:=by
 constructor
 ·intro h
  obtain ⟨⟨l',n⟩,h1,rfl⟩:=List.mem_map.mp h
  obtain ⟨h2,h3⟩:=(zAU ps e l' n).mp h1
  have h4:0 < ps.count (e,l'):=by rw [h2] at h3; omega
  exact List.count_pos_iff.mp h4
 ·intro h
  exact List.mem_map.mpr ⟨(l,(ps.count (e,l):Int)),(zAU ps e l _).mpr ⟨rfl,by have:=List.count_pos_iff.mpr h; omega⟩,rfl⟩
theorem zDG (ps:List (S × S)) (e:S):(yL ps e).length<=ps.length:=by
 have h1:=zFq ps e
 have h2:=tot_le ps e
 have h3:∀ q∈yL ps e,0 < q.2:=fun q hq=>((zAU ps e q.1 q.2).mp hq).2
 have go:∀ l:List (S × Int),(∀ q∈l,0 < q.2)->(l.length:Int)<=(l.map (·.2)).sum:=by
  intro l
  induction l with
  | nil=>intro _; simp
  | cons q l ih =>
   intro hl
   have a:=hl q (List.mem_cons_self ..)
   have b:=ih fun x hx=>hl x (List.mem_cons_of_mem _ hx)
   rw [List.map_cons,List.sum_cons,List.length_cons]
   omega
 have:=go _ h3
 omega
theorem zLY {ps:List (S × S)}{ra:List (S × Addr × List (S × Int))} (h:ra.map (fun r=>(r.1,r.2.2))=v6 ps) {r:S × Addr × List (S × Int)} (hr:r∈ra):r.2.2=yL ps r.1:=by
 have h1:(r.1,r.2.2)∈v6 ps:=by rw [<- h]; exact List.mem_map.mpr ⟨r,hr,rfl⟩
 unfold yL
 rw [(qB (qN ps).nd _ _).mp h1]; rfl
theorem zLZ {ps:List (S × S)}:(v6 ps).length<=ps.length:=by
 have nd:=(qN ps).nd
 have hs:∀ e∈(v6 ps).map (·.1),e∈ps.map (·.1):=fun e he=>by
  obtain ⟨r,hr,rfl⟩:=List.mem_map.mp he
  obtain ⟨l,hl⟩:=((qN ps).has r.1).mp ⟨r.2,(qB nd _ _).mp hr⟩
  exact List.mem_map.mpr ⟨_,hl,rfl⟩
 have go:∀ (a b:List S),a.Nodup->(∀ x∈a,x∈b)->a.length<=b.length:=by
  intro a
  induction a with
  | nil=>intro b _ _; exact Nat.zero_le _
  | cons x a ih =>
   intro b nd h
   have hx:=h x (List.mem_cons_self ..)
   have h1:=List.nodup_cons.mp nd
   have:=ih (b.erase x) h1.2 fun y hy=>(List.mem_erase_of_ne (fun z=>h1.1 (by rw [<- z]; exact hy))).mpr (h y (List.mem_cons_of_mem _ hy))
   rw [List.length_erase_of_mem hx] at this
   have:=List.length_pos_of_mem hx
   rw [List.length_cons]; omega
 have:=go _ _ nd hs
 rwa [List.length_map,List.length_map] at this
theorem zLa {ps:List (S × S)}{ra:List (S × Addr × List (S × Int))} (r1:ra.map (fun r=>(r.1,r.2.2))=v6 ps) (e:S):e∈ra.map (·.1)↔∃ l,(e,l)∈ps:=by
 have e1:ra.map (·.1)=(v6 ps).map (·.1):=by rw [<- r1,List.map_map]; rfl
 rw [e1]
 rw [<- (qN ps).has e]
 constructor
 ·intro h
  obtain ⟨r,hr,rfl⟩:=List.mem_map.mp h
  exact ⟨r.2,(qB (qN ps).nd _ _).mp hr⟩
 ·rintro ⟨row,h⟩
  exact List.mem_map.mpr ⟨_,(qB (qN ps).nd _ _).mpr h,rfl⟩
theorem zDH (ps:List (S × S)) (e:S):(pot ps e).length=tot ps e:=by
 have h1:=zFq ps e
 have hp:(yZ ps e).Perm (g9 ps e):=by
  refine (List.perm_ext_iff_of_nodup ?_ (g0 ps e)).mpr fun x=>by rw [gH,zBg]
  exact (zAv _).imp fun {a b} h z=>by subst z; exact jG _ h
 unfold pot
 rw [List.length_flatMap]
 have e1:((yZ ps e).map fun l=>(List.replicate (ps.count (e,l)) l).length)=(yZ ps e).map fun l=>ps.count (e,l):=List.map_congr_left fun l _=>List.length_replicate
 rw [e1,(hp.map fun l=>ps.count (e,l)).sum_nat]
 have e2:(yL ps e).map (·.2)=((g9 ps e).map fun l=>ps.count (e,l)).map fun (n:Nat)=>(n:Int):=by
  rw [List.map_map,List.map_map]
  refine List.map_congr_left fun q hq=>?_
  exact ((zAU ps e q.1 q.2).mp hq).1
 rw [e2] at h1
 have go:∀ l:List Nat,(l.map fun (n:Nat)=>(n:Int)).sum=((l.sum:Nat):Int):=by
  intro l
  induction l with
  | nil=>rfl
  | cons x l ih=>rw [List.map_cons,List.sum_cons,ih,List.sum_cons]; omega
 rw [go] at h1
 omega
section
variable {P:Program}{w:World}{K:PySem.W.Frag}{mg:Str->Option Value}{base:Heap}
abbrev zDI:Stmt:=top 47
theorem zGO:FnScope ["row", "pot", "letter"] ["row"] (defScope zDI):=⟨rfl,rfl,rfl,by decide +kernel,rfl,by decide +kernel,by decide +kernel⟩
def zGP:Sp:=fun vs H Q _=>∃ (ra:Addr) (ps:List (S × S)) (e:S),vs=[.ref ra]/\H ra=some (.dK (yV (yL ps e)))/\ps.length < 64 /\
 ∀ (l:Addr) (H':Hp),zB H H'->H l=none->H' l=some (.lst ((pot ps e).map sv))->Q (.ref l) H'
theorem zDJ (n:Nat) (v:V):(List.replicate n [v]).flatten=List.replicate n v:=by
 induction n with
 | zero=>rfl
 | succ n ih=>rw [List.replicate_succ,List.flatten_cons,ih,List.replicate_succ]; rfl
theorem zLb {f:Addr}{fd:FuncData} (F:Fun K "pot_of" "pot_of" zDI f fd) (B:Blt mg):FnOk P w K mg base yF 1 f fd ["row"] zGP:=by
 refine F.ok zGO (fun vs H Q E h=>?_) (fun cdv A outer s H vs Q E hr h=>?_)
 ·obtain ⟨ra,ps,e,rfl,_⟩:=h; rfl
 ·obtain ⟨ra,ps,e,rfl,hra,h64,k⟩:=h
  have hu:=gE hr
  have nd:=zGO.nd
  refine ⟨_,zI (z0 (i:=1) nd rfl (Or.inl rfl) (yR zD))
   (zI (qI PassesOwn.never rfl (zAH (yC (zFY rfl) (by rfl) B.sorted PyProof.Rows.boot_sorted (zC (pv 0) zD))) (yS (i:=2) nd rfl (Or.inl rfl))
    (zJ (uX (jM PySem.F.plainAttrs_list PySem.F.slot_list_extend PySem.F.type_list_extend zJA (pv 1) (zC (zP jV (yR (zC (pv 2) zD)) (gD hu (pv 0) (pv 2) (fun _ _=>rfl))) zD)))))
   (zJ (zV (pv 1)))),?_⟩
  refine ⟨by show 0<=sizeLine; decide,fun lo hlo=>?_⟩
  have s1:zB H (upd H lo (.lst [])):=zB.upd1 hlo
  have hrl:(yL ps e).length < 64:=by have:=zDG ps e; omega
  have ekeys:(((yL ps e).map fun p=>(tx p.1,V.int p.2)).map (·.1))=(g9 ps e).map tx:=by rw [List.map_map,List.map_map]; rfl
  have ndt:(((yL ps e).map fun p=>(tx p.1,V.int p.2)).map (·.1)).Nodup:=by
   rw [ekeys]
   exact List.Pairwise.map tx (fun a b hab z=>hab (jH z)) (g0 _ _)
  refine ⟨_,rfl,ra,(yL ps e).map (fun p:S × Int=>(tx p.1,V.int p.2)),rfl,s1 _ _ hra,ndt,by rw [List.length_map]; exact hrl,fun out l hperm hsrt hl=>?_⟩
  rw [ekeys] at hperm
  have eout:out=(out.map fun x=>x.cps.toList).map tx:=(zFs out).symm
  have hm2:∀ x,x∈(out.map fun x=>x.cps.toList)↔(e,x)∈ps:=fun x=>by
   rw [<- zBg]
   constructor
   ·intro h
    obtain ⟨y,hy,rfl⟩:=List.mem_map.mp h
    obtain ⟨z,hz,e1⟩:=List.mem_map.mp (hperm.mem_iff.mp hy)
    rw [<- e1,v7]; exact hz
   ·intro h
    exact List.mem_map.mpr ⟨tx x,hperm.mem_iff.mpr (List.mem_map.mpr ⟨x,h,rfl⟩),v7 x⟩
  have hos:(out.map fun x=>x.cps.toList)=yZ ps e:=zGK (List.pairwise_map.mpr hsrt) hm2
  rw [hos] at eout
  subst eout
  have s2:zB (upd H lo (.lst [])) (upd (upd H lo (.lst [])) l (.lst (((yZ ps e).map tx).map V.str))):=zB.upd1 hl
  have hllo:l≠lo:=fun z=>by rw [z,zG] at hl; cases hl
  have hl6:upd (upd H lo (.lst [])) l (.lst (((yZ ps e).map tx).map V.str)) l=some (.lst (((yZ ps e).map tx).map V.str)):=zG
  have hlo6:=s2 _ _ (zG (H:=H) (a:=lo) (o:=.lst []))
  have hra6:=s2 _ _ (s1 _ _ hra)
  have s12:=s1.trans s2
  generalize upd (upd H lo (.lst [])) l (.lst (((yZ ps e).map tx).map V.str))=H6 at hl6 hlo6 hra6 s12
  refine ⟨l,rfl,⟨_,.of hl6⟩,?_⟩
  have hrlo:ra≠lo:=vO hra hlo
  refine jN (zAR K l (((yZ ps e).map tx).map V.str)) (fun i σ H'=>(∃ x2:Option V,σ=[some (.ref ra),some (.ref lo),x2])/\vL lo H6 H'/\H' lo=some (.lst ((((yZ ps e).take i).flatMap fun l=>List.replicate (ps.count (e,l)) l).map sv)))
   ⟨⟨_,rfl⟩,vL.refl _,hlo6⟩ (fun i σ H' _ h=>.of (h.2.1 _ _ hllo hl6)) ?_ ?_
  ·rintro i x σ H' Nx hN hx ⟨⟨x2,rfl⟩,sx,hlo'⟩
   obtain ⟨y,hy,rfl⟩:=j7 hx
   obtain ⟨c,hc,rfl⟩:=j7 hy
   have hce:(e,c)∈ps:=(gH ps e c).mp (List.mem_of_getElem? hc)
   have hra':=sx _ _ hrlo hra6
   have hcnt:ps.count (e,c) < 64:=Nat.lt_of_le_of_lt (List.count_le_length ..) h64
   refine ⟨_,rfl,.inl ⟨rfl,_,.of hlo'⟩,_,rfl,by show 1<=sizeLine; decide,fun l0 hl0=>?_⟩
   have t0:zB H' (upd H' l0 (.lst [V.str (tx c)])):=zB.upd1 hl0
   have dg:vW (upd H' l0 (.lst [V.str (tx c)])) ra (sv c) (some (.int (ps.count (e,c):Int))):=by
    have:=vW.k (k:=Sum.inr (tx c)) (t0 _ _ hra')
    unfold yV at this
    rw [jI,zBb,if_pos (List.count_pos_iff.mpr hce)] at this
    exact this
   refine ⟨_,rfl,_,rfl,ra,_,rfl,dg,l0,_,[V.str (tx c)],rfl,rfl,zG,by omega,by omega,by rw [sizeLine_eq]; show 1 * _<=_; omega,fun l1 hl1=>?_⟩
   have e0:(List.replicate ((ps.count (e,c):Int)).toNat [V.str (tx c)]).flatten=(List.replicate (ps.count (e,c)) c).map sv:=by
    rw [zDJ,List.map_replicate]; rfl
   rw [e0]
   have t1:zB (upd H' l0 (.lst [V.str (tx c)])) (upd (upd H' l0 (.lst [V.str (tx c)])) l1 (.lst ((List.replicate (ps.count (e,c)) c).map sv))):=zB.upd1 hl1
   have t01:=t0.trans t1
   have hb:((((yZ ps e).take i).flatMap fun l=>List.replicate (ps.count (e,l)) l).map sv).length+((List.replicate (ps.count (e,c)) c).map sv).length<=sizeLine:=by
    have hp:=zDH ps e
    have h1:((yZ ps e).take (i+1)).flatMap (fun l=>List.replicate (ps.count (e,l)) l)=((yZ ps e).take i).flatMap (fun l=>List.replicate (ps.count (e,l)) l)++List.replicate (ps.count (e,c)) c:=by
     rw [qP hc,List.flatMap_append]; simp
    have h2:(((yZ ps e).take (i+1)).flatMap fun l=>List.replicate (ps.count (e,l)) l).length<=(pot ps e).length:=by
     unfold pot
     conv=>rhs; rw [<- List.take_append_drop (i+1) (yZ ps e),List.flatMap_append,List.length_append]
     omega
    rw [h1,List.length_append] at h2
    have h3:=tot_le ps e
    rw [List.length_map,List.length_map,sizeLine_eq]; omega
   refine ⟨lo,l1,_,_,rfl,rfl,t01 _ _ hlo',zG,hb,hN _ _ ⟨⟨_,rfl⟩,(sx.trans (vL.of t01)).updf,?_⟩⟩
   rw [zG,qP hc,List.flatMap_append,List.map_append]
   simp
  ·rintro σ H' ⟨⟨x2,rfl⟩,sx,hlo'⟩
   rw [List.length_map,List.length_map,List.take_length] at hlo'
   exact ⟨_,rfl,k lo H' (vL.same s12 hlo sx) hlo hlo'⟩
def gI (H:Hp) (d:Addr) (ps:List (S × S)):Prop:=∃ pa:List (S × Addr),H d=some (.dK (vP V.ref pa))/\(pa.map (·.1)).Nodup/\(∀ e,e∈pa.map (·.1)↔∃ l,(e,l)∈ps)/\∀ r∈pa,H r.2=some (.lst ((pot ps r.1).map sv))
theorem gI.same {H H':Hp}{d:Addr}{ps:List (S × S)} (h:gI H d ps) (s:zB H H'):gI H' d ps :=
 let ⟨pa,h1,h2,h3,h4⟩:=h; ⟨pa,s _ _ h1,h2,h3,fun r hr=>s _ _ (h4 r hr)⟩
theorem gI.get {H:Hp}{d:Addr}{ps:List (S × S)} (h:gI H d ps) {e:S} (he:∃ l,(e,l)∈ps):∃ a,vW H d (sv e) (some (.ref a))/\H a=some (.lst ((pot ps e).map sv)):=by
 obtain ⟨pa,h1,h2,h3,h4⟩:=h
 obtain ⟨r,hr,rfl⟩:=List.mem_map.mp ((h3 e).mpr he)
 refine ⟨r.2,?_,h4 r hr⟩
 have:=vW.k (k:=Sum.inr (tx r.1)) h1
 rw [jI,(qB h2 r.1 r.2).mp hr] at this
 exact this
abbrev zDK:Stmt:=top 48
theorem zLc:FnScope ["book", "order"] ["book", "order"] (defScope zDK):=⟨rfl,rfl,rfl,by decide +kernel,rfl,by decide +kernel,by decide +kernel⟩
theorem zGQ:(["end", "row"]:List Str).Nodup:=by decide +kernel
def zBh:Sp:=fun vs H Q _=>∃ (a:Addr) (bk:List S) (o:Nat),vs=[.ref a,.int o]/\H a=some (.tup (zM bk))/\Bk bk o/\(zE o bk).length < 64 /\
 ∀ (d:Addr) (H':Hp),zB H H'->gI H' d (zE o bk)->Q (.ref d) H'
theorem zLd {f:Addr}{fd:FuncData} (F:Fun K "pots_by_end" "pots_by_end" zDK f fd) (hdi:mg "dict" = none) (cRows:yH P w K mg base 3 "counted_rows" ["book", "order"] zBZ) (cPot:yH P w K mg base 1 "pot_of" ["row"] zGP):FnOk P w K mg base yF 4 f fd ["book", "order"] zBh:=by
 refine F.ok zLc (fun vs H Q E h=>?_) (fun cdv A outer s H vs Q E hr h=>?_)
 ·obtain ⟨a,bk,o,rfl,_⟩:=h; rfl
 ·obtain ⟨a,bk,o,rfl,ha,hb,h64,k⟩:=h
  have r1:=hr.mono (j:=1) (by decide)
  refine ⟨_,zJ (zV (zBM (zKI rfl) (by rfl) hdi PyProof.Rows.boot_dict (zC
    (qA (N:=["end", "row"]) (caps:=[]) rfl (uT (by kernel_rfl)) (zLO (zKb K rfl PySem.F.plainAttrs_dict PySem.F.slot_dict_items PySem.F.type_dict_items zJi (zT cRows hr rfl (zC (pv 0) (zC (pv 1) zD)))))
     (fun cl X s H ex=>zFr K 2 rfl rfl (qW (yS (i:=0) zGQ rfl (Or.inl rfl)) (qW (yS (i:=1) zGQ rfl (Or.inl rfl)) zAG)) rfl rfl) (fun cl X s H ex=>uZ)
     (fun cl X s H ex=>vJ (zC (pv 0) (zC (zT cPot r1 rfl (zC (pv 1) zD)) zD)))) zD))),?_⟩
  refine ⟨_,rfl,_,rfl,a,bk,o,rfl,ha,hb.hi,hb.l8,hb.o1,fun d H1 s1 hd R=>?_⟩
  obtain ⟨ra,q1,q2,q3⟩:=R
  refine ⟨.inr (.inr (.inl ⟨rfl,.inl ⟨_,q2⟩⟩)),d,_,rfl,rfl,q2,fun p hp=>?_⟩
  have s2:zB H1 (upd H1 p (VW p d)):=zB.upd1 hp
  refine ⟨p,d,_,rfl,zG,s2 _ _ q2,fun ob=>?_⟩
  generalize hkv:vP (fun v:Addr × List (S × Int)=>V.ref v.1) ra=kvs at q2
  have ral:ra.length < 64:=by
   have h1:=zLZ (ps:=zE o bk)
   rw [<- q1,List.length_map] at h1; omega
  have hkl:kvs.length=ra.length:=by rw [<- hkv]; exact zAS _ _
  have rne:∀ r∈ra,r.2.1≠d:=fun r hr z=>by
   have h1:=q3 r hr
   rw [z,q2] at h1
   have h2:kvs=yV r.2.2:=HO.dK.inj (Option.some.inj h1)
   rw [<- hkv] at h2
   cases ra with
   | nil=>cases hr
   | cons r0 ra =>
    cases hr2:r.2.2 with
    | nil=>rw [hr2] at h2; cases h2
    | cons q qs =>
     rw [hr2] at h2
     have h3:=(Prod.mk.inj (List.cons.inj h2).1).2
     cases h3
  have knd0:(ra.map (·.1)).Nodup:=by
   have h:=(qN (zE o bk)).nd
   rw [<- q1,List.map_map] at h
   exact h
  have s3:zB H (upd (upd H1 p (VW p d)) d (.frz ob (.dK kvs))):=fun b u e=>by
   rw [zN (vO e hd)]; exact s2 _ _ (s1 _ _ e)
  have q3':∀ r∈ra,upd (upd H1 p (VW p d)) d (.frz ob (.dK kvs)) r.2.1=some (.dK (yV r.2.2)):=fun r hr=>by
   rw [zN (rne r hr)]; exact s2 _ _ (q3 r hr)
  have hd3:upd (upd H1 p (VW p d)) d (.frz ob (.dK kvs)) d=some (.frz ob (.dK kvs)):=zG
  generalize upd (upd H1 p (VW p d)) d (.frz ob (.dK kvs))=H3 at s3 q3' hd3
  refine zLP [] 2 (by omega) (fun i acc H'=>zB H3 H'/\∃ pa:List (S × Addr),pa.map (·.1)=(ra.take i).map (·.1)/\zCa K H' acc (pa.map fun r=>(tx r.1,V.ref r.2))/\∀ r∈pa,H' r.2=some (.lst ((pot (zE o bk) r.1).map sv)))
   ⟨zB.refl _,[],rfl,⟨rfl,fun i q h=>by simp at h⟩,fun r hr=>by cases hr⟩ (fun i acc H' hi h=>⟨h.1 _ _ hd3,?_⟩) ?_ ?_
  ·obtain ⟨_,pa,e1,e2,_⟩:=h
   have:=congrArg List.length e1
   rw [List.length_map,List.length_map,List.length_take] at this
   rw [e2.1,List.length_map]; omega
  ·rintro i q T acc H' ys Nx hN hq hy ⟨sm,pa,e1,e2,e3⟩ hT
   obtain ⟨y1,y2,rfl⟩:=ys2 hy
   rw [<- hkv] at hq
   unfold vP jE at hq
   obtain ⟨z,hz,rfl⟩:=j7 hq
   obtain ⟨r0,hr0,rfl⟩:=j7 hz
   have hmem:r0∈ra:=List.mem_of_getElem? hr0
   have t1:zB H' (upd H' T (.tup [sv r0.1,.ref r0.2.1])):=zB.upd1 hT
   refine ⟨T,[sv r0.1,.ref r0.2.1],rfl,.of zG,rfl,_,_,rfl,_,_,rfl,rfl,?_⟩
   have hrow:upd H' T (.tup [sv r0.1,.ref r0.2.1]) r0.2.1=some (.dK (yV (yL (zE o bk) r0.1))):=by
    rw [<- zLY q1 hmem]; exact t1 _ _ (sm _ _ (q3' r0 hmem))
   refine ⟨_,rfl,_,rfl,r0.2.1,zE o bk,r0.1,rfl,hrow,h64,fun l H5 s5 hl hpl=>?_⟩
   refine ⟨by show 2<=sizeLine; decide,fun t ht=>hN _ _ [_,_] rfl ⟨(sm.trans (t1.trans s5)).trans (zB.upd1 ht),pa++[(r0.1,l)],?_,?_,?_⟩⟩
   ·rw [List.map_append,e1,qP hr0,List.map_append]; rfl
   ·have s6:zB H' (upd H5 t (.tup [sv r0.1,.ref l])):=(t1.trans s5).trans (zB.upd1 ht)
    refine ⟨by rw [List.length_append,e2.1,List.length_map,List.length_map,List.length_append]; rfl,fun j q hq=>?_⟩
    rw [List.map_append] at hq
    have hal:acc.length=pa.length:=by rw [e2.1,List.length_map]
    by_cases hj:j < pa.length
    ·rw [List.getElem?_append_left (by rw [List.length_map]; exact hj)] at hq
     obtain ⟨a',g1,g2⟩:=e2.2 j q hq
     exact ⟨a',by rw [List.getElem?_append_left (by omega)]; exact g1,s6.seqT g2⟩
    ·rw [List.getElem?_append_right (by rw [List.length_map]; omega),List.length_map] at hq
     have hj0:j - pa.length=0:=by
      have:=(List.getElem?_eq_some_iff.mp hq).1
      simp at this; omega
     rw [hj0] at hq
     have hq2:q=(tx r0.1,V.ref l):=(Option.some.inj hq).symm
     subst hq2
     refine ⟨t,?_,.of zG⟩
     rw [List.getElem?_append_right (by omega),hal,hj0]; rfl
   ·intro r hr
    have s6:zB H' (upd H5 t (.tup [sv r0.1,.ref l])):=(t1.trans s5).trans (zB.upd1 ht)
    rcases List.mem_append.mp hr with z | z
    ·exact s6 _ _ (e3 r z)
    ·have hr2:r=(r0.1,l):=List.mem_singleton.mp z
     subst hr2
     exact zB.upd1 ht _ _ hpl
  ·rintro acc H' ⟨sm,pa,e1,e2,e3⟩ D hD
   rw [hkl,List.take_length] at e1
   have sD:zB H' (upd H' D (.lst acc)):=zB.upd1 hD
   have ndk:((pa.map fun r=>(tx r.1,V.ref r.2)).map (·.1)).Nodup:=by
    rw [List.map_map]
    have:(pa.map ((fun x:Str × V=>x.1) ∘ fun r=>(tx r.1,V.ref r.2)))=(pa.map (·.1)).map tx:=by rw [List.map_map]; rfl
    rw [this,e1]
    exact List.Pairwise.map tx (fun a b hab z=>hab (jH z)) knd0
   have hpl:pa.length=ra.length:=by have:=congrArg List.length e1; rwa [List.length_map,List.length_map] at this
   refine ⟨D,acc,_,rfl,.of zG,⟨e2.1,fun i q hq=>let ⟨a',g1,g2⟩:=e2.2 i q hq; ⟨a',g1,sD.seqT g2⟩⟩,ndk,by rw [List.length_map]; omega,fun dd hdd=>?_⟩
   have sF:zB (upd H' D (.lst acc)) (upd (upd H' D (.lst acc)) dd (.dK (jE (pa.map fun r=>(tx r.1,V.ref r.2))))):=zB.upd1 hdd
   refine k dd _ (s3.trans (sm.trans (sD.trans sF))) ⟨pa,zG,by rw [e1]; exact knd0,fun e=>by rw [e1]; exact zLa q1 e,fun r hr=>sF _ _ (sD _ _ (e3 r hr))⟩
end
end Kn.Dr
end
section
namespace Kn
open PySem L2
mutual
def zO (H:Hp):PyData->V->Prop
 | .none,v=>v=.non
 | .bool b,v=>v=.bl b
 | .int i,v=>v=.int i
 | .str x,v=>v=.str x
 | .list ds,v=>∃ a xs,v=.ref a/\H a=some (.lst xs)/\Thgs H ds xs
 | .tuple ds,v=>∃ a xs,v=.ref a/\H a=some (.tup xs)/\Thgs H ds xs
 | .dict _,_=>False
def Thgs (H:Hp):List PyData->List V->Prop
 | [],xs=>xs=[]
 | d::ds,xs=>∃ y ys,xs=y::ys/\zO H d y/\Thgs H ds ys
end
mutual
theorem zO.same {H H':Hp} (e:zB H H'):∀ (d:PyData) (v:V),zO H d v->zO H' d v
 | .none,v,h=>h
 | .bool b,v,h=>h
 | .int i,v,h=>h
 | .str x,v,h=>h
 | .list ds,v,h=>by
  obtain ⟨a,xs,h1,h2,h3⟩:=h
  exact ⟨a,xs,h1,e _ _ h2,Thgs.same e ds xs h3⟩
 | .tuple ds,v,h=>by
  obtain ⟨a,xs,h1,h2,h3⟩:=h
  exact ⟨a,xs,h1,e _ _ h2,Thgs.same e ds xs h3⟩
 | .dict _,v,h=>h
theorem Thgs.same {H H':Hp} (e:zB H H'):∀ (ds:List PyData) (xs:List V),Thgs H ds xs->Thgs H' ds xs
 | [],xs,h=>h
 | d::ds,xs,h=>by
  obtain ⟨y,ys,h1,h2,h3⟩:=h
  exact ⟨y,ys,h1,zO.same e d y h2,Thgs.same e ds ys h3⟩
end
mutual
theorem zO.rep {K:PySem.W.Frag}{H:Hp}:∀ (d:PyData) (v:V),zO H d v->vR K H d v
 | .none,v,h=>h
 | .bool b,v,h=>h
 | .int i,v,h=>h
 | .str x,v,h=>h
 | .list ds,v,h=>by
  obtain ⟨a,xs,h1,h2,h3⟩:=h
  exact ⟨a,xs,h1,.of h2,Thgs.reps ds xs h3⟩
 | .tuple ds,v,h=>by
  obtain ⟨a,xs,h1,h2,h3⟩:=h
  exact ⟨a,xs,h1,.of h2,Thgs.reps ds xs h3⟩
 | .dict _,v,h=>h
theorem Thgs.reps {K:PySem.W.Frag}{H:Hp}:∀ (ds:List PyData) (xs:List V),Thgs H ds xs->Reps K H ds xs
 | [],xs,h=>h
 | d::ds,xs,h=>by
  obtain ⟨y,ys,h1,h2,h3⟩:=h
  exact ⟨y,ys,h1,zO.rep d y h2,Thgs.reps ds ys h3⟩
end
theorem Thgs.length {H:Hp}:∀ {ds:List PyData}{xs:List V},Thgs H ds xs->ds.length=xs.length
 | [],xs,h=>by rw [show xs=[] from h]; rfl
 | d::ds,xs,h=>by
  obtain ⟨y,ys,h1,_,h3⟩:=h
  rw [h1,List.length_cons,List.length_cons,Thgs.length h3]
theorem Thgs.get {H:Hp}:∀ {ds:List PyData}{xs:List V}{i:Nat}{y:V},Thgs H ds xs->xs[i]?=some y->∃ d,ds[i]?=some d/\zO H d y
 | [],xs,i,y,h,e=>by rw [show xs=[] from h] at e; simp at e
 | d::ds,xs,i,y,h,e=>by
  obtain ⟨z,zs,h1,h2,h3⟩:=h
  subst h1
  cases i with
  | zero =>
   have:z=y:=by simpa using e
   subst this
   exact ⟨d,rfl,h2⟩
  | succ i =>
   obtain ⟨d',e1,e2⟩:=Thgs.get (i:=i) h3 (by simpa using e)
   exact ⟨d',by simpa using e1,e2⟩
theorem Thgs.strs {H:Hp}:∀ (l:List S),Thgs H (l.map fun x=>PyData.str (tx x)) (l.map sv)
 | []=>rfl
 | x::l=>⟨_,_,rfl,rfl,Thgs.strs l⟩
mutual
def sml:PyData->Bool
 | .str x=>decide (x.length<=900) && x.cps.toList.all fun c=>decide (c < 128)
 | .list ds=>decide (ds.length<=900) && smls ds
 | .tuple ds=>decide (ds.length<=900) && smls ds
 | .dict _=>false
 | _=>true
def smls:List PyData->Bool
 | []=>true
 | d::ds=>sml d && smls ds
end
theorem zBi:∀ {ds:List PyData}{d:PyData},smls ds=true->d∈ds->sml d=true
 | e::ds,d,h,hm=>by
  have h':sml e=true/\smls ds=true:=by simpa [smls] using h
  rcases List.mem_cons.mp hm with z | z
  ·rw [z]; exact h'.1
  ·exact zBi h'.2 z
def zAA (c:Nat):Bool:=decide (97<=c) && decide (c<=122)
def yW:PyData->Bool
 | .str x=>(decide (1<=x.length) && decide (x.length<=8)) && x.cps.toList.all zAA
 | _=>false
def y6:PyData->Bool
 | .tuple ds=>(decide (1<=ds.length) && decide (ds.length<=8)) && ds.all yW
 | _=>false
def vU:PyData->Bool
 | .int i=>decide (1<=i) && decide (i<=3)
 | _=>false
theorem zBj {d:PyData} (h:yW d=true):∃ x:S,d=.str (tx x)/\vI x:=by
 cases d with
 | str x =>
  simp only [yW,Bool.and_eq_true,decide_eq_true_eq,List.all_eq_true,zAA] at h
  refine ⟨x.cps.toList,by rw [zCr],?_,?_,h.2⟩
  ·have:=h.1.1; simpa [Str.length] using this
  ·have:=h.1.2; simpa [Str.length] using this
 | none=>cases h
 | bool b=>cases h
 | int i=>cases h
 | list ds=>cases h
 | tuple ds=>cases h
 | dict _=>cases h
theorem zAw {x:S} (h:vI x):yW (.str (tx x))=true:=by
 simp only [yW,Bool.and_eq_true,decide_eq_true_eq,List.all_eq_true,zAA,zY,v7]
 exact ⟨⟨h.1,h.2.1⟩,h.2.2⟩
theorem zLe {d:PyData} (h:y6 d=true):∃ bk:List S,d=.tuple (bk.map fun x=>PyData.str (tx x))/\isBk bk:=by
 cases d with
 | tuple ds =>
  simp only [y6,Bool.and_eq_true,decide_eq_true_eq,List.all_eq_true] at h
  obtain ⟨⟨h1,h2⟩,h3⟩:=h
  have go:∀ ds:List PyData,(∀ d∈ds,yW d=true)->∃ bk:List S,ds=bk.map (fun x=>PyData.str (tx x))/\∀ x∈bk,vI x:=by
   intro ds
   induction ds with
   | nil=>intro _; exact ⟨[],rfl,by simp⟩
   | cons d ds ih =>
    intro hd
    obtain ⟨x,rfl,hx⟩:=zBj (hd d (List.mem_cons_self ..))
    obtain ⟨bk,rfl,hb⟩:=ih fun e he=>hd e (List.mem_cons_of_mem _ he)
    refine ⟨x::bk,rfl,fun y hy=>?_⟩
    rcases List.mem_cons.mp hy with z | z
    ·rw [z]; exact hx
    ·exact hb y z
  obtain ⟨bk,rfl,hb⟩:=go ds h3
  rw [List.length_map] at h1 h2
  exact ⟨bk,rfl,h1,h2,hb⟩
 | none=>cases h
 | bool b=>cases h
 | int i=>cases h
 | list ds=>cases h
 | str x=>cases h
 | dict _=>cases h
theorem gJ {bk:List S} (h:isBk bk):y6 (.tuple (bk.map fun x=>PyData.str (tx x)))=true:=by
 simp only [y6,Bool.and_eq_true,decide_eq_true_eq,List.all_eq_true,List.length_map]
 refine ⟨⟨h.lo,h.hi⟩,fun d hd=>?_⟩
 obtain ⟨x,hx,rfl⟩:=List.mem_map.mp hd
 exact zAw (h.nm x hx)
theorem Thgs.strs_inv {H:Hp}:∀ {l:List S}{xs:List V},Thgs H (l.map fun x=>PyData.str (tx x)) xs->xs=l.map sv
 | [],xs,h=>h
 | x::l,xs,h=>by
  obtain ⟨y,ys,h1,h2,h3⟩:=h
  have h2':y=sv x:=h2
  rw [h1,h2',Thgs.strs_inv h3]; rfl
theorem zDL {H:Hp}{d:PyData}{v:V} (h:zO H d v) (hb:y6 d=true):∃ (a:Addr) (bk:List S),v=.ref a/\H a=some (.tup (zM bk))/\isBk bk/\d=.tuple (bk.map fun x=>PyData.str (tx x)):=by
 obtain ⟨bk,rfl,hk⟩:=zLe hb
 obtain ⟨a,xs,rfl,h1,h2⟩:=h
 rw [Thgs.strs_inv h2] at h1
 exact ⟨a,bk,rfl,h1,hk,rfl⟩
theorem zDM {H:Hp}{d:PyData}{v:V} (h:zO H d v) (hb:vU d=true):∃ o:Nat,v=.int o/\1<=o/\o<=3:=by
 cases d with
 | int i =>
  simp only [vU,Bool.and_eq_true,decide_eq_true_eq] at hb
  refine ⟨i.toNat,?_,by omega,by omega⟩
  rw [show v=.int i from h]
  congr 1
  omega
 | none=>cases hb
 | bool b=>cases hb
 | list ds=>cases hb
 | tuple ds=>cases hb
 | str x=>cases hb
 | dict _=>cases hb
theorem zLf {H:Hp}{d:PyData}{v:V} (h:zO H d v) (hb:yW d=true):∃ x:S,v=sv x/\vI x/\d=.str (tx x):=by
 obtain ⟨x,rfl,hx⟩:=zBj hb
 exact ⟨x,h,hx,rfl⟩
structure KitF (K:PySem.W.Frag):Prop where
 ns:PySem.W.kitOne K (.type "NoneType") (.type "str")=some false
 bs:PySem.W.kitOne K (.type "bool") (.type "str")=some false
 is:PySem.W.kitOne K (.type "int") (.type "str")=some false
 ls:PySem.W.kitOne K (.type "list") (.type "str")=some false
 ts:PySem.W.kitOne K (.type "tuple") (.type "str")=some false
 nt:PySem.W.kitOne K (.type "NoneType") (.type "tuple")=some false
 bt:PySem.W.kitOne K (.type "bool") (.type "tuple")=some false
 it:PySem.W.kitOne K (.type "int") (.type "tuple")=some false
 lt:PySem.W.kitOne K (.type "list") (.type "tuple")=some false
 st:PySem.W.kitOne K (.type "str") (.type "tuple")=some false
 ni:PySem.W.kitOne K (.type "NoneType") (.type "int")=some false
 bi:PySem.W.kitOne K (.type "bool") (.type "int")=some true
 li:PySem.W.kitOne K (.type "list") (.type "int")=some false
 ti:PySem.W.kitOne K (.type "tuple") (.type "int")=some false
 si:PySem.W.kitOne K (.type "str") (.type "int")=some false
theorem zLg {c:Nat} (h:c < 128):(Builtin.Str.occurrences letters ⟨#[c]⟩ 0 letters.length 1).isEmpty=!zAA c:=by
 have all:∀ d:_root_.Fin 128,(Builtin.Str.occurrences letters ⟨#[d.val]⟩ 0 letters.length 1).isEmpty=!zAA d.val:=by decide +kernel
 exact all ⟨c,h⟩
section
variable {P:Program}{w:World}{K:PySem.W.Frag}{mg:Str->Option Value}{base:Heap}
theorem zLh (KF:KitF K) {H:Hp}:∀ {d:PyData}{v:V},zO H d v->∃ t b,TyOf K H v t/\PySem.W.kitOne K t (.type "str")=some b/\(b=true↔∃ x,d=.str x)
 | .none,v,h=>by cases (show v=.non from h); exact ⟨_,_,.non,KF.ns,by simp⟩
 | .bool b,v,h=>by cases (show v=.bl b from h); exact ⟨_,_,.bl _,KF.bs,by simp⟩
 | .int i,v,h=>by cases (show v=.int i from h); exact ⟨_,_,.int _,KF.is,by simp⟩
 | .str x,v,h=>by cases (show v=.str x from h); exact ⟨_,true,.str _,rfl,by simp⟩
 | .list ds,v,h=>by obtain ⟨a,xs,rfl,h1,_⟩:=h; exact ⟨_,_,.lst h1,KF.ls,by simp⟩
 | .tuple ds,v,h=>by obtain ⟨a,xs,rfl,h1,_⟩:=h; exact ⟨_,_,.tup h1,KF.ts,by simp⟩
 | .dict _,v,h=>h.elim
theorem zDN (KF:KitF K) {H:Hp}:∀ {d:PyData}{v:V},zO H d v->∃ t b,TyOf K H v t/\PySem.W.kitOne K t (.type "tuple")=some b/\(b=true↔∃ ds,d=.tuple ds)
 | .none,v,h=>by cases (show v=.non from h); exact ⟨_,_,.non,KF.nt,by simp⟩
 | .bool b,v,h=>by cases (show v=.bl b from h); exact ⟨_,_,.bl _,KF.bt,by simp⟩
 | .int i,v,h=>by cases (show v=.int i from h); exact ⟨_,_,.int _,KF.it,by simp⟩
 | .str x,v,h=>by cases (show v=.str x from h); exact ⟨_,_,.str _,KF.st,by simp⟩
 | .list ds,v,h=>by obtain ⟨a,xs,rfl,h1,_⟩:=h; exact ⟨_,_,.lst h1,KF.lt,by simp⟩
 | .tuple ds,v,h=>by obtain ⟨a,xs,rfl,h1,_⟩:=h; exact ⟨_,true,.tup h1,rfl,by simp⟩
 | .dict _,v,h=>h.elim
def zAx:Sp:=fun vs H Q _=>∃ v d,vs=[v]/\zO H d v/\sml d=true/\∀ H',zB H H'->Q (.bl (yW d)) H'
theorem zLi {f:Addr}{fd:FuncData} (F:Fun K "is_name" "is_name" zCh f fd) (B:Blt mg) (C:Cst K mg) (KF:KitF K):FnOk P w K mg base yF 1 f fd ["thing"] zAx:=by
 obtain ⟨tl,hl⟩:=C.letters
 obtain ⟨t8,h8⟩:=C.ml
 refine F.ok zKQ (fun vs H Q E h=>?_) (fun cdv A outer s H vs Q E hr h=>?_)
 ·obtain ⟨v,d,rfl,_⟩:=h; rfl
 ·obtain ⟨v,d,rfl,hv,hs,k⟩:=h
  refine ⟨_,zI (yQ (PW.pt (qV (vZ (v4 (yC gX (by rfl) B.isinstance PyProof.Rows.boot_isinstance (zC (pv 0) (zC (jR (v:=.ty "str") (by rfl) B.str PyProof.Rows.boot_str rfl) zD)))))
    (qU (vZ (zBK jK jK zH (yC qZ (by rfl) B.len PySem.boot_len (zC (pv 0) zD)) (yX (v:=.int 8) (by rfl) h8 ⟨_,rfl⟩))))))
    (zJ (zV vT)) yP)
   (zJ (zV (yC (zAr rfl) (by rfl) B.all PyProof.Rows.boot_all (zC (qA (N:=["letter"]) (caps:=[]) rfl (uT (by kernel_rfl)) (zJk (pv 0))
    (fun cl C s H ex=>yS (i:=0) nd1 rfl (Or.inl rfl)) (fun cl C s H ex=>uZ)
    (fun cl C s H ex=>gT zIV (pv 0) (yX (v:=.str letters) (by rfl) hl ⟨_,rfl⟩) (by with_unfolding_all rfl))) zD)))),?_⟩
  obtain ⟨t,b,hty,hkit,hb⟩:=zLh KF hv
  refine ⟨_,rfl,_,_,t,b,rfl,hty,hkit,b,rfl,?_⟩
  cases b with
  | false =>
   have hd:yW d=false:=by
    cases d with
    | str x=>exact absurd (hb.mpr ⟨x,rfl⟩) (by decide)
    | _=>rfl
   rw [hd] at k
   exact z7 (z7 (k H (zB.refl H)))
  | true =>
   obtain ⟨x,rfl⟩:=hb.mp rfl
   have hv':v=.str x:=hv
   subst hv'
   have hsx:x.length<=900/\∀ c∈x.cps.toList,c < 128:=by
    simp only [sml,Bool.and_eq_true,decide_eq_true_eq,List.all_eq_true] at hs
    exact hs
   refine yU ?_
   refine ⟨_,rfl,x,rfl,(by rw [sizeLine_eq]; omega),_,_,rfl,rfl,_,rfl,?_⟩
   by_cases h1:1<=x.length
   ·refine uK (by omega) ⟨_,_,rfl,rfl,_,rfl,?_⟩
    by_cases h2:x.length<=8
    ·refine jC (by omega) ?_
     refine ⟨_,rfl,_,rfl,?_⟩
     have hxl:x.cps.toList.length=x.length:=by simp [Str.length]
     refine qL (zJx x) [] 1 (by rw [List.length_map]; omega) (fun i acc H'=>zB H H'/\acc=((x.cps.toList.take i).map zAA).map V.bl) ⟨zB.refl H,rfl⟩ (fun i acc H' _ h=>⟨trivial,by rw [h.2,List.length_map,List.length_map,List.length_take]; omega⟩) ?_ ?_
     ·rintro i y acc H' ys Nx hN hx hy ⟨sm,rfl⟩
      obtain ⟨y',rfl⟩:=uP hy
      rw [List.getElem?_map] at hx
      cases e:x.cps.toList[i]? with
      | none=>rw [e] at hx; cases hx
      | some c =>
       rw [e] at hx
       have hy2:y=.str ⟨#[c]⟩:=(Option.some.inj hx).symm
       subst hy2
       have hi:i < x.cps.toList.length:=(List.getElem?_eq_some_iff.mp e).1
       refine ⟨_,rfl,_,_,rfl,rfl,?_⟩
       rw [zLg (hsx.2 c (List.mem_of_getElem? e)),Bool.not_not]
       refine hN _ _ [some (.str ⟨#[c]⟩)] rfl ⟨sm,?_⟩
       rw [List.take_succ_eq_append_getElem hi,(List.getElem?_eq_some_iff.mp e).2,List.map_append,List.map_append]; rfl
     ·rintro acc H' ⟨sm,rfl⟩ D hD
      rw [List.length_map,List.take_length]
      refine ⟨D,_,rfl,.of zG,?_⟩
      have e2:((x.cps.toList.map zAA).all id)=yW (.str x):=by
       simp only [yW,decide_eq_true h1,decide_eq_true h2,Bool.and_self,Bool.true_and,List.all_map]
       rfl
      rw [e2]
      exact k _ (sm.upd_new (sm.free hD))
    ·have hd:yW (.str x)=false:=by simp [yW,h2]
     rw [hd] at k
     refine jO (fun z=>h2 (by omega)) (k H (zB.refl H))
   ·have hd:yW (.str x)=false:=by simp [yW,h1]
    rw [hd] at k
    refine uL (fun z=>h1 (by omega)) ?_
    exact ⟨false,rfl,z7 (k H (zB.refl H))⟩
def zGR:Sp:=fun vs H Q _=>∃ v d,vs=[v]/\zO H d v/\sml d=true/\∀ H',zB H H'->Q (.bl (y6 d)) H'
theorem zLj {f:Addr}{fd:FuncData} (F:Fun K "is_book" "is_book" zCi f fd) (B:Blt mg) (C:Cst K mg) (KF:KitF K) (cName:yH P w K mg base 1 "is_name" ["thing"] zAx):FnOk P w K mg base yF 2 f fd ["thing"] zGR:=by
 obtain ⟨t8,h8⟩:=C.mn
 refine F.ok zKR (fun vs H Q E h=>?_) (fun cdv A outer s H vs Q E hr h=>?_)
 ·obtain ⟨v,d,rfl,_⟩:=h; rfl
 ·obtain ⟨v,d,rfl,hv,hs,k⟩:=h
  refine ⟨_,zI (yQ (PW.pt (qV (vZ (v4 (yC gX (by rfl) B.isinstance PyProof.Rows.boot_isinstance (zC (pv 0) (zC (jR (v:=.ty "tuple") (by rfl) B.tuple PyProof.Rows.boot_tuple rfl) zD)))))
    (qU (vZ (zBK jK jK zH (yC kP (by rfl) B.len PySem.boot_len (zC (pv 0) zD)) (yX (v:=.int 8) (by rfl) h8 ⟨_,rfl⟩))))))
    (zJ (zV vT)) yP)
   (zJ (zV (yC (zAr rfl) (by rfl) B.all PyProof.Rows.boot_all (zC (qA (N:=["name"]) (caps:=[]) rfl (uT (by kernel_rfl)) (gQ (pv 0))
    (fun cl C s H ex=>yS (i:=0) nd2 rfl (Or.inl rfl)) (fun cl C s H ex=>uZ)
    (fun cl C s H ex=>zT cName hr rfl (zC (pv 0) zD))) zD)))),?_⟩
  obtain ⟨t,b,hty,hkit,hb⟩:=zDN KF hv
  refine ⟨_,rfl,_,_,t,b,rfl,hty,hkit,b,rfl,?_⟩
  cases b with
  | false =>
   have hd:y6 d=false:=by
    cases d with
    | tuple x=>exact absurd (hb.mpr ⟨x,rfl⟩) (by decide)
    | _=>rfl
   rw [hd] at k
   exact z7 (z7 (k H (zB.refl H)))
  | true =>
   obtain ⟨ds,rfl⟩:=hb.mp rfl
   obtain ⟨a,xs,rfl,ha,hxs⟩:=hv
   have hsx:ds.length<=900/\smls ds=true:=by
    simp only [sml,Bool.and_eq_true,decide_eq_true_eq] at hs
    exact hs
   have hxl:xs.length=ds.length:=hxs.length.symm
   refine yU ?_
   refine ⟨_,rfl,_,_,rfl,.inr (.of ha),_,_,rfl,rfl,_,rfl,?_⟩
   by_cases h1:1<=ds.length
   ·refine uK (by rw [hxl]; omega) ⟨_,_,rfl,rfl,_,rfl,?_⟩
    by_cases h2:ds.length<=8
    ·refine jC (by rw [hxl]; omega) ?_
     refine ⟨_,rfl,a,rfl,⟨_,.of ha⟩,?_⟩
     refine qL (gY _ a xs) [] 1 (by omega) (fun i acc H'=>zB H H'/\acc=((ds.take i).map yW).map V.bl) ⟨zB.refl H,rfl⟩ (fun i acc H' _ h=>⟨.of (h.1 _ _ ha),by rw [h.2,List.length_map,List.length_map,List.length_take]; omega⟩) ?_ ?_
     ·rintro i y acc H' ys Nx hN hx hy ⟨sm,rfl⟩
      obtain ⟨y',rfl⟩:=uP hy
      obtain ⟨e,he,hye⟩:=hxs.get hx
      have hi:i < ds.length:=(List.getElem?_eq_some_iff.mp he).1
      refine ⟨_,rfl,y,e,rfl,zO.same sm _ _ hye,zBi hsx.2 (List.mem_of_getElem? he),fun H5 sm5=>hN _ _ [some y] rfl ⟨sm.trans sm5,?_⟩⟩
      rw [List.take_succ_eq_append_getElem hi,(List.getElem?_eq_some_iff.mp he).2,List.map_append,List.map_append]; rfl
     ·rintro acc H' ⟨sm,rfl⟩ D hD
      rw [hxl,List.take_length]
      refine ⟨D,_,rfl,.of zG,?_⟩
      have e2:((ds.map yW).all id)=y6 (.tuple ds):=by
       simp only [y6,decide_eq_true h1,decide_eq_true h2,Bool.and_self,Bool.true_and,List.all_map]
       rfl
      rw [e2]
      exact k _ (sm.upd_new (sm.free hD))
    ·have hd:y6 (.tuple ds)=false:=by simp [y6,h2]
     rw [hd] at k
     refine jO (fun z=>h2 (by rw [hxl] at z; omega)) (k H (zB.refl H))
   ·have hd:y6 (.tuple ds)=false:=by simp [y6,h1]
    rw [hd] at k
    refine uL (fun z=>h1 (by rw [hxl] at z; omega)) ?_
    exact ⟨false,rfl,z7 (k H (zB.refl H))⟩
def vQ (a b:Int):PyData->Bool
 | .int i=>decide (a<=i) && decide (i<=b)
 | _=>false
theorem zLk (d:PyData):vU d=vQ 1 3 d:=by
 cases d <;> rfl
def zBk:Sp:=fun vs H Q _=>∃ v d a b,vs=[v,.int a,.int b]/\zO H d v/\Q (.bl (vQ a b d)) H
theorem zLl {f:Addr}{fd:FuncData} (F:Fun K "is_whole" "is_whole" zCj f fd) (B:Blt mg) (C:Cst K mg) (KF:KitF K):FnOk P w K mg base yF 1 f fd ["thing", "least", "most"] zBk:=by
 refine F.ok zKS (fun vs H Q E h=>?_) (fun cdv A outer s H vs Q E hr h=>?_)
 ·obtain ⟨v,d,a,b,rfl,_⟩:=h; rfl
 ·obtain ⟨v,d,a,b,rfl,hv,k⟩:=h
  refine ⟨_,zI (yQ (PW.pt (qV (vZ (v4 (yC gX (by rfl) B.isinstance PyProof.Rows.boot_isinstance (zC (pv 0) (zC (jR (v:=.ty "int") (by rfl) B.int PyProof.Rows.boot_int rfl) zD)))))
    (qU (v4 (yC gX (by rfl) B.isinstance PyProof.Rows.boot_isinstance (zC (pv 0) (zC (jR (v:=.ty "bool") (by rfl) B.bool PyProof.Rows.boot_bool rfl) zD)))))))
    (zJ (zV vT)) yP)
   (zJ (zV (zIW jK jK (pv 1) (pv 0) (pv 2)))),?_⟩
  cases d with
  | none=>cases (show v=.non from hv); exact ⟨_,rfl,_,_,_,false,rfl,.non,KF.ni,_,rfl,z7 (z7 k)⟩
  | str x=>cases (show v=.str x from hv); exact ⟨_,rfl,_,_,_,false,rfl,.str _,KF.si,_,rfl,z7 (z7 k)⟩
  | list ds=>obtain ⟨a,xs,rfl,h1,_⟩:=hv; exact ⟨_,rfl,_,_,_,false,rfl,.lst h1,KF.li,_,rfl,z7 (z7 k)⟩
  | tuple ds=>obtain ⟨a,xs,rfl,h1,_⟩:=hv; exact ⟨_,rfl,_,_,_,false,rfl,.tup h1,KF.ti,_,rfl,z7 (z7 k)⟩
  | dict _=>exact hv.elim
  | bool b =>
   cases (show v=.bl b from hv)
   exact ⟨_,rfl,_,_,_,true,rfl,.bl _,KF.bi,_,rfl,yU ⟨_,rfl,_,_,_,true,rfl,.bl _,(by rfl),_,rfl,z7 k⟩⟩
  | int i =>
   cases (show v=.int i from hv)
   refine ⟨_,rfl,_,_,_,true,rfl,.int _,(by rfl),_,rfl,?_⟩
   refine yU ?_
   refine ⟨_,rfl,_,_,_,false,rfl,.int _,C.ib,_,rfl,?_⟩
   refine yU ?_
   refine ⟨_,rfl,_,rfl,_,_,rfl,rfl,_,rfl,?_⟩
   by_cases h1:a<=i
   ·refine uK h1 ⟨_,rfl,_,_,rfl,rfl,?_⟩
    have e:vQ a b (.int i)=decide (i<=b):=by simp [vQ,h1]
    rw [e] at k
    exact k
   ·have e:vQ a b (.int i)=false:=by simp [vQ,h1]
    rw [e] at k
    exact uL h1 k
def zGS:Sp:=fun vs H Q _=>∃ v d,vs=[v]/\zO H d v/\Q (.bl (vU d)) H
theorem zLm {f:Addr}{fd:FuncData} (F:Fun K "is_order" "is_order" zCk f fd) (C:Cst K mg) (cW:yH P w K mg base 1 "is_whole" ["thing", "least", "most"] zBk):FnOk P w K mg base yF 2 f fd ["thing"] zGS:=by
 obtain ⟨t3,h3⟩:=C.mo
 refine F.ok zKT (fun vs H Q E h=>?_) (fun cdv A outer s H vs Q E hr h=>?_)
 ·obtain ⟨v,d,rfl,_⟩:=h; rfl
 ·obtain ⟨v,d,rfl,hv,k⟩:=h
  refine ⟨_,zJ (zV (zT cW hr rfl (zC (pv 0) (zC zH (zC (yX (v:=.int 3) (by rfl) h3 ⟨_,rfl⟩) zD))))),?_⟩
  rw [zLk] at k
  exact ⟨_,rfl,v,d,1,3,rfl,hv,k⟩
def qQ (C:Addr) (ok:PyData->Bool):Sp:=fun vs H Q E=>∃ v d,vs=[v]/\zO H d v/\sml d=true/\(ok d=true->∀ H',zB H H'->Q .non H')/\(ok d=false->∀ H',zB H H'->E (.ref C) none H')
theorem zLn {f:Addr}{fd:FuncData}{C:Addr} (F:Fun K "need_book" "need_book" zCl f fd) (O:XCls K mg "NoBook" C) (c1:yH P w K mg base 2 "is_book" ["thing"] zGR):FnOk P w K mg base (v8 P w) 3 f fd ["thing"] (qQ C y6):=by
 refine F.okR zKU (fun vs H Q E h=>?_) (fun cdv A outer s H vs Q E hr h ok=>?_)
 ·obtain ⟨v,d,rfl,_⟩:=h; rfl
 ·obtain ⟨v,d,rfl,hv,hs,k1,k2⟩:=h
  refine ⟨_,zJ (yQ (vZ (v4 (zT c1 hr rfl (zC (pv 0) zD)))) (zJ (g8 ok rfl O (by rfl) (zC yD zD))) yP),?_⟩
  refine ⟨_,rfl,v,d,rfl,hv,hs,fun H' sm=>⟨_,rfl,?_⟩⟩
  cases e:y6 d with
  | true=>exact yU (k1 e H' sm)
  | false=>exact z7 ⟨by show 1<=sizeLine; decide,k2 e H' sm⟩
theorem zLo {f:Addr}{fd:FuncData}{C:Addr} (F:Fun K "need_order" "need_order" zCm f fd) (O:XCls K mg "NoOrder" C) (c1:yH P w K mg base 2 "is_order" ["thing"] zGS):FnOk P w K mg base (v8 P w) 3 f fd ["thing"] (qQ C vU):=by
 refine F.okR zKV (fun vs H Q E h=>?_) (fun cdv A outer s H vs Q E hr h ok=>?_)
 ·obtain ⟨v,d,rfl,_⟩:=h; rfl
 ·obtain ⟨v,d,rfl,hv,hs,k1,k2⟩:=h
  refine ⟨_,zJ (yQ (vZ (v4 (zT c1 hr rfl (zC (pv 0) zD)))) (zJ (g8 ok rfl O (by rfl) (zC yD zD))) yP),?_⟩
  refine ⟨_,rfl,v,d,rfl,hv,_,rfl,?_⟩
  cases e:vU d with
  | true=>exact yU (k1 e H (zB.refl H))
  | false=>exact z7 ⟨by show 1<=sizeLine; decide,k2 e H (zB.refl H)⟩
theorem zLp {f:Addr}{fd:FuncData}{C:Addr} (F:Fun K "need_name" "need_name" zCn f fd) (O:XCls K mg "NoName" C) (c1:yH P w K mg base 1 "is_name" ["thing"] zAx):FnOk P w K mg base (v8 P w) 2 f fd ["thing"] (qQ C yW):=by
 refine F.okR zKW (fun vs H Q E h=>?_) (fun cdv A outer s H vs Q E hr h ok=>?_)
 ·obtain ⟨v,d,rfl,_⟩:=h; rfl
 ·obtain ⟨v,d,rfl,hv,hs,k1,k2⟩:=h
  refine ⟨_,zJ (yQ (vZ (v4 (zT c1 hr rfl (zC (pv 0) zD)))) (zJ (g8 ok rfl O (by rfl) (zC yD zD))) yP),?_⟩
  refine ⟨_,rfl,v,d,rfl,hv,hs,fun H' sm=>⟨_,rfl,?_⟩⟩
  cases e:yW d with
  | true=>exact yU (k1 e H' sm)
  | false=>exact z7 ⟨by show 1<=sizeLine; decide,k2 e H' sm⟩
end
end Kn
end
section
namespace Kn
open PySem L2
def zDO (K:PySem.W.Frag) (cs:List Addr) (L:Addr):Bool :=
 PySem.W.excIn K L g6 "ValueError.__new__" && cs.all (fun c=>PySem.W.excIn K c g6 "ValueError.__new__" && zAV K c L && (PySem.W.findIn K (.ref c) "__getattribute__" == some (some (.builtin "BaseException.__getattribute__"))) && (PySem.W.findIn K (.ref c) "__getattr__" == some none)
  && (PySem.W.findIn K (.ref c) "__class__" == some (some (.builtin "object.__class__"))) && (PySem.W.mroIn K c (.type "object") == some true) && (PySem.W.kitOne K (.ref c) (.type "ValueError") == some true))
 && (List.range cs.length).all fun i=>(List.range cs.length).all fun j=>PySem.W.kitOne K (.ref (cs.getD i 0)) (.ref (cs.getD j 0)) == some (decide (j=i))
def zGT:List Str:=["NoBook", "NoOrder", "NoName", "NoWish", "NoNumber", "NotMade", "TooShort", "Nothing"]
structure ErrX (K:PySem.W.Frag) (mg:Str->Option Value) (cs:List Addr) (L:Addr):Prop where
 len:cs.length=8
 like:XCls K mg "LikeError" L
 at_:∀ i,i < 8->XCls K mg (zGT.getD i ⟨#[]⟩) (cs.getD i 0)/\XLook K (cs.getD i 0)/\zAV K (cs.getD i 0) L=true/\PySem.W.kitOne K (.ref (cs.getD i 0)) (.type "ValueError")=some true
 kit:∀ i j,i < 8->j < 8->PySem.W.kitOne K (.ref (cs.getD i 0)) (.ref (cs.getD j 0))=some (decide (j=i))
theorem zLq {K:PySem.W.Frag}{mg:Str->Option Value}{c0 c1 c2 c3 c4 c5 c6 c7 L:Addr} (b0:mg "NoBook" = some (.ref c0)) (b1:mg "NoOrder" = some (.ref c1)) (b2:mg "NoName" = some (.ref c2)) (b3:mg "NoWish" = some (.ref c3)) (b4:mg "NoNumber" = some (.ref c4))
  (b5:mg "NotMade" = some (.ref c5)) (b6:mg "TooShort" = some (.ref c6)) (b7:mg "Nothing" = some (.ref c7)) (bL:mg "LikeError" = some (.ref L)) (h:zDO K [c0,c1,c2,c3,c4,c5,c6,c7] L=true):ErrX K mg [c0,c1,c2,c3,c4,c5,c6,c7] L:=by
 unfold zDO at h
 simp only [Bool.and_eq_true,List.all_eq_true,beq_iff_eq] at h
 obtain ⟨⟨hL,hc⟩,hk⟩:=h
 refine ⟨rfl,⟨bL,hL⟩,fun i hi=>?_,fun i j hi hj=>hk i (List.mem_range.mpr hi) j (List.mem_range.mpr hj)⟩
 have hm:([c0,c1,c2,c3,c4,c5,c6,c7].getD i 0)∈[c0,c1,c2,c3,c4,c5,c6,c7]:=by
  have hi':i < [c0,c1,c2,c3,c4,c5,c6,c7].length:=hi
  rw [List.getD_eq_getElem?_getD,List.getElem?_eq_getElem hi']
  exact List.getElem_mem hi'
 obtain ⟨⟨⟨⟨⟨⟨h1,h2⟩,h3⟩,h4⟩,h5⟩,h6⟩,h7⟩:=hc _ hm
 refine ⟨⟨?_,h1⟩,⟨h1,h3,h4,h5,h6⟩,h2,h7⟩
 match i,hi with
 | 0,_=>exact b0
 | 1,_=>exact b1
 | 2,_=>exact b2
 | 3,_=>exact b3
 | 4,_=>exact b4
 | 5,_=>exact b5
 | 6,_=>exact b6
 | 7,_=>exact b7
theorem zLr {K:PySem.W.Frag}{c0 c1 c2 c3 c4 c5 c6 c7 L:Addr} (b0:PySem.W.nsIn K mainGlobals "NoBook" = some (some (.ref c0))) (b1:PySem.W.nsIn K mainGlobals "NoOrder" = some (some (.ref c1))) (b2:PySem.W.nsIn K mainGlobals "NoName" = some (some (.ref c2))) (b3:PySem.W.nsIn K mainGlobals "NoWish" = some (some (.ref c3)))
  (b4:PySem.W.nsIn K mainGlobals "NoNumber" = some (some (.ref c4))) (b5:PySem.W.nsIn K mainGlobals "NotMade" = some (some (.ref c5))) (b6:PySem.W.nsIn K mainGlobals "TooShort" = some (some (.ref c6))) (b7:PySem.W.nsIn K mainGlobals "Nothing" = some (some (.ref c7))) (bL:PySem.W.nsIn K mainGlobals "LikeError" = some (some (.ref L)))
  (h:zDO K [c0,c1,c2,c3,c4,c5,c6,c7] L=true):∃ cs L,∀ (h:Heap) (mg:Str->Option Value),K.In h->h.Ns mainGlobals mg->ErrX K mg cs L :=
 ⟨_,_,fun hp mg X G=>zLq (PySem.W.mg_of X G b0) (PySem.W.mg_of X G b1) (PySem.W.mg_of X G b2) (PySem.W.mg_of X G b3) (PySem.W.mg_of X G b4) (PySem.W.mg_of X G b5) (PySem.W.mg_of X G b6) (PySem.W.mg_of X G b7) (PySem.W.mg_of X G bL) h⟩
section
variable {P:Program}{w:World}{K:PySem.W.Frag}{mg:Str->Option Value}{base:Heap}
def vB (H:Hp) (p:Addr) (j:Nat):Prop:=H p=some (.tup [.str "refused",.int j])
def zDP (cs:List Addr):Sp:=fun vs H Q _=>∃ (e:Addr) (j:Nat),vs=[.ref e]/\j < 8/\H e=some (XO e (cs.getD j 0))/\∀ p H',zB H H'->H p=none->vB H' p j->Q (.ref p) H'
abbrev zDQ:Stmt:=top 67
theorem zGU:FnScope ["_law_e", "_law_flags"] ["_law_e"] (defScope zDQ):=⟨rfl,rfl,rfl,by decide +kernel,rfl,by decide +kernel,by decide +kernel⟩
structure BltE (mg:Str->Option Value):Prop where
 isinstance:mg "isinstance" = none
 ve:mg "ValueError" = none
def j8 (j:Nat):List Bool:=[decide (0=j),decide (1=j),decide (2=j),decide (3=j),decide (4=j),decide (5=j),decide (6=j),decide (7=j)]
theorem zLs {j:Nat} (h:j < 8):(j8 j).count true=1/\(j8 j)[j]?=some true/\∀ i,i < j->(j8 j)[i]?≠some true:=by
 have all:∀ d:_root_.Fin 8,(j8 d.val).count true=1/\(j8 d.val)[d.val]?=some true/\∀ i:_root_.Fin 8,i < d->(j8 d.val)[i.val]?≠some true:=by decide +kernel
 obtain ⟨a,b,c⟩:=all ⟨j,h⟩
 exact ⟨a,b,fun i hi=>c ⟨i,by omega⟩ hi⟩
theorem zLt {f:Addr}{fd:FuncData}{cs:List Addr}{L:Addr} (F:Fun K "_law_refused" "_law_refused" zDQ f fd) (B:BltE mg) (E:ErrX K mg cs L):FnB P w K mg base yF 1 f fd ["_law_e"] (zDP cs):=by
 have g:∀ i (hi:i < 8),mg (zGT.getD i ⟨#[]⟩)=some (.ref (cs.getD i 0)):=fun i hi=>(E.at_ i hi).1.bound
 refine F.okB zGU (fun vs H Q E h=>?_) (fun cdv A outer s H vs Q E' hr h=>?_)
 ·obtain ⟨e,j,rfl,_⟩:=h; rfl
 ·obtain ⟨e,j,rfl,hj,he,k⟩:=h
  have nd:=zGU.nd
  refine ⟨_,zI (z0 (i:=1) nd rfl (Or.inl rfl) (yR (zC (yC kU (by rfl) B.isinstance PyProof.Rows.boot_isinstance (zC (pv 0) (zC (yX (v:=.ref (cs.getD 0 0)) (by rfl) (g 0 (by decide)) rfl) zD)))
    (zC (yC kU (by rfl) B.isinstance PyProof.Rows.boot_isinstance (zC (pv 0) (zC (yX (v:=.ref (cs.getD 1 0)) (by rfl) (g 1 (by decide)) rfl) zD)))
    (zC (yC kU (by rfl) B.isinstance PyProof.Rows.boot_isinstance (zC (pv 0) (zC (yX (v:=.ref (cs.getD 2 0)) (by rfl) (g 2 (by decide)) rfl) zD))) zD)))))
   (zI (z0 (i:=1) nd rfl (Or.inl rfl) (zP zBN (pv 1) (yR (zC (yC kU (by rfl) B.isinstance PyProof.Rows.boot_isinstance (zC (pv 0) (zC (yX (v:=.ref (cs.getD 3 0)) (by rfl) (g 3 (by decide)) rfl) zD)))
    (zC (yC kU (by rfl) B.isinstance PyProof.Rows.boot_isinstance (zC (pv 0) (zC (yX (v:=.ref (cs.getD 4 0)) (by rfl) (g 4 (by decide)) rfl) zD)))
    (zC (yC kU (by rfl) B.isinstance PyProof.Rows.boot_isinstance (zC (pv 0) (zC (yX (v:=.ref (cs.getD 5 0)) (by rfl) (g 5 (by decide)) rfl) zD))) zD))))))
   (zI (z0 (i:=1) nd rfl (Or.inl rfl) (zP zBN (pv 1) (yR (zC (yC kU (by rfl) B.isinstance PyProof.Rows.boot_isinstance (zC (pv 0) (zC (yX (v:=.ref (cs.getD 6 0)) (by rfl) (g 6 (by decide)) rfl) zD)))
    (zC (yC kU (by rfl) B.isinstance PyProof.Rows.boot_isinstance (zC (pv 0) (zC (yX (v:=.ref (cs.getD 7 0)) (by rfl) (g 7 (by decide)) rfl) zD))) zD)))))
   (zI (yQ (PW.pt (qV (vH zAi (jM PySem.F.plainAttrs_list PySem.F.slot_list_count PySem.F.type_list_count zLD (pv 1) (zC vT zD)) zH (vC _))
     (qU (vZ (v4 (yC kU (by rfl) B.isinstance PyProof.Rows.boot_isinstance (zC (pv 0) (zC (jR (v:=.ty "ValueError") (by rfl) B.ve PyProof.Rows.Boot.«ValueError» rfl) zD)))))))) (zJ (zV (vJ (zC yD (zC (zAJ zAK zH) zD))))) yP)
   (zJ (zV (vJ (zC yD (zC (jM PySem.F.plainAttrs_list PySem.F.slot_list_index PySem.F.type_list_index zLE (pv 1) (zC vT zD)) zD)))))))),?_⟩
  have kit:∀ i,i < 8->PySem.W.kitOne K (.ref (cs.getD j 0)) (.ref (cs.getD i 0))=some (decide (i=j)):=fun i hi=>E.kit j i hj hi
  have lk:=(E.at_ j hj).2.1
  refine ⟨_,rfl,e,_,_,_,rfl,he,lk,.inl ⟨_,rfl,kit 0 (by decide)⟩,_,rfl,e,_,_,_,rfl,he,lk,.inl ⟨_,rfl,kit 1 (by decide)⟩,_,rfl,e,_,_,_,rfl,he,lk,.inl ⟨_,rfl,kit 2 (by decide)⟩,?_⟩
  refine ⟨by show 3<=sizeLine; decide,fun p1 hp1=>?_⟩
  have t1:=zB.upd1 (o:=.lst [V.bl (decide (0=j)),V.bl (decide (1=j)),V.bl (decide (2=j))]) hp1
  refine ⟨_,rfl,_,rfl,e,_,_,_,rfl,t1 _ _ he,lk,.inl ⟨_,rfl,kit 3 (by decide)⟩,_,rfl,e,_,_,_,rfl,t1 _ _ he,lk,.inl ⟨_,rfl,kit 4 (by decide)⟩,_,rfl,e,_,_,_,rfl,t1 _ _ he,lk,.inl ⟨_,rfl,kit 5 (by decide)⟩,?_⟩
  refine ⟨by show 3<=sizeLine; decide,fun p2 hp2=>?_⟩
  have t2:=zB.upd1 (o:=.lst [V.bl (decide (3=j)),V.bl (decide (4=j)),V.bl (decide (5=j))]) hp2
  refine ⟨p1,p2,_,_,rfl,rfl,t2 _ _ zG,zG,by show 6<=sizeLine; decide,fun p3 hp3=>?_⟩
  have t3:=zB.upd1 (o:=.lst ([V.bl (decide (0=j)),V.bl (decide (1=j)),V.bl (decide (2=j))]++[V.bl (decide (3=j)),V.bl (decide (4=j)),V.bl (decide (5=j))])) hp3
  have s3:=(t1.trans t2).trans t3
  refine ⟨_,rfl,_,rfl,e,_,_,_,rfl,s3 _ _ he,lk,.inl ⟨_,rfl,kit 6 (by decide)⟩,_,rfl,e,_,_,_,rfl,s3 _ _ he,lk,.inl ⟨_,rfl,kit 7 (by decide)⟩,?_⟩
  refine ⟨by show 2<=sizeLine; decide,fun p4 hp4=>?_⟩
  have t4:=zB.upd1 (o:=.lst [V.bl (decide (6=j)),V.bl (decide (7=j))]) hp4
  refine ⟨p3,p4,_,_,rfl,rfl,t4 _ _ zG,zG,by show 8<=sizeLine; decide,fun p5 hp5=>?_⟩
  have t5:=zB.upd1 (o:=.lst ((j8 j).map V.bl)) hp5
  have s5:=(s3.trans t4).trans t5
  obtain ⟨f1,f2,f3⟩:=zLs hj
  have h5:∀ {Hx:Hp},upd Hx p5 (.lst ([V.bl (decide (0=j)),V.bl (decide (1=j)),V.bl (decide (2=j))]++[V.bl (decide (3=j)),V.bl (decide (4=j)),V.bl (decide (5=j))]++[V.bl (decide (6=j)),V.bl (decide (7=j))])) p5=some (.lst ((j8 j).map V.bl)):=fun {Hx}=>by rw [zG]; rfl
  refine ⟨_,rfl,.inl ⟨rfl,_,.of h5⟩,p5,j8 j,true,rfl,rfl,h5,rfl,_,rfl,jC (by rw [f1]; rfl) ?_⟩
  refine ⟨_,rfl,e,_,_,true,rfl,s5 _ _ he,lk,.inr ⟨_,rfl,(E.at_ j hj).2.2.2⟩,true,rfl,yU ?_⟩
  refine ⟨_,rfl,.inl ⟨rfl,_,.of h5⟩,p5,j8 j,true,j,rfl,rfl,h5,f2,f3,by omega,by show 2<=sizeLine; decide,fun p6 hp6=>?_⟩
  exact k p6 _ (s5.upd_new (s5.free hp6)) (s5.free hp6) zG
end
end Kn
end
section
namespace L2
open PySem PySem.Spec PyProof.Rows
section
variable {prog:Program}{w:World}{A:Around}{E:Value->Shared->Prop}{s:Shared}
theorem zLu {it t:Addr}{i:Nat}{items}{x:Value}{Q:Value->Shared->Prop} (hit:s.heap.IsTupleIter it t i) (ht:s.heap.IsTuple t items) (hx:items[i]?=some x)
  (hQ:∀ h',h'.IsTupleIter it t (i+1)->Heap.SameBut it s.heap h'->Q x { s with heap:=h' }):wpAny (model prog w) A (Builtin.SmallTypes.nextOf (.ref it)) Q E s:=by
 obtain ⟨o,ho,hc,hd⟩:=id hit
 obtain ⟨ol,hol,_,nl,hdl⟩:=ht
 unfold Builtin.SmallTypes.nextOf
 refine wpAny_bind (wpAny_callSpecial?_slot (name:=Str.ofString "__next__") hit.typeIs F.slot_tuple_iterator_next (wpAny_call_entry F.slot_tuple_iterator_next hit.typeIs F.entry_tuple_iterator_next ?_ (F.args_tuple_iterator_next_1 _)))
 show wpAny _ _ (field (.ref it) 0 >>= _) _ _ s
 refine wpAny_bind (wpAny_field ho hd (x:=.ref t) rfl ?_)
 show wpAny _ _ (if (Value.ref t == Value.none)=true then _ else _) _ _ s
 rw [if_neg (show ¬ ((Value.ref t == Value.none)=true) from Bool.false_ne_true)]
 show wpAny _ _ (field (.ref it) 1 >>= _) _ _ s
 refine wpAny_bind (wpAny_field ho hd (x:=.int i 0) rfl ?_)
 show wpAny _ _ (seqItems? (.ref t) >>= _) _ _ s
 refine wpAny_bind (wpAny_seqItems hol hdl ?_)
 simp only [Int.toNat_natCast,hx]
 refine wpAny_bind (wpAny_setField ho hd (by simp) (wpAny_pure ⟨x,rfl,wpAny_pure (hQ _ ?_ (Heap.SameBut.update ..))⟩))
 exact ⟨_,Heap.get?_update_self _ ho (Obj.isFreed_of_fields (Obj.data_mapFields hd _)),(Obj.cls_mapFields ..).trans hc,by rw [Obj.data_mapFields hd]; simp [rawInt]⟩
theorem zLv {it t:Addr}{i:Nat}{items}{Q:Value->Shared->Prop} (hh:A.handled=none) (hit:s.heap.IsTupleIter it t i) (ht:s.heap.IsTuple t items) (hx:items[i]?=none)
  (hE:∀ h' e,Heap.ExtBut it s.heap h'->(∃ o,h'.get? e=some o/\o.cls=.type "StopIteration")->E (.ref e) { s with heap:=h' }):wpAny (model prog w) A (Builtin.SmallTypes.nextOf (.ref it)) Q E s:=by
 obtain ⟨o,ho,hc,hd⟩:=id hit
 obtain ⟨ol,hol,_,nl,hdl⟩:=ht
 unfold Builtin.SmallTypes.nextOf
 refine wpAny_bind (wpAny_callSpecial?_slot (name:=Str.ofString "__next__") hit.typeIs F.slot_tuple_iterator_next (wpAny_call_entry F.slot_tuple_iterator_next hit.typeIs F.entry_tuple_iterator_next ?_ (F.args_tuple_iterator_next_1 _)))
 show wpAny _ _ (field (.ref it) 0 >>= _) _ _ s
 refine wpAny_bind (wpAny_field ho hd (x:=.ref t) rfl ?_)
 show wpAny _ _ (if (Value.ref t == Value.none)=true then _ else _) _ _ s
 rw [if_neg (show ¬ ((Value.ref t == Value.none)=true) from Bool.false_ne_true)]
 show wpAny _ _ (field (.ref it) 1 >>= _) _ _ s
 refine wpAny_bind (wpAny_field ho hd (x:=.int i 0) rfl ?_)
 show wpAny _ _ (seqItems? (.ref t) >>= _) _ _ s
 refine wpAny_bind (wpAny_seqItems hol hdl ?_)
 simp only [Int.toNat_natCast,hx]
 refine wpAny_bind (wpAny_rule (wpAny_bind (wpAny_setField ho hd (by simp) ?_)))
 show wpAny _ _ (newExc (.type "StopIteration") [] >>= _) _ _ _
 refine wpAny_bind ?_
 simp only [newExc,newTuple]
 refine wpAny_bind (wpAny_newObj_type ?_ (by size_fits))
 refine wpAny_bind (m:=firstArgMember _ _) (wpAny_of_eq (a:=Value.none) (by first | rfl | (simp only [firstArgMember]; rfl)) ?_)
 refine wpAny_newObj_type ?_ (by size_fits)
 simp only [raiseNew]
 refine wpAny_bind (wpAny_handled ?_)
 first | rw [show A.in1.handled=none from hh] | rw [hh]
 refine wpAny_bind (wpAny_pure (wpAny_throw ?_))
 exact hE _ _ (((Heap.SameBut.update ..).extBut.push _).push _) ⟨_,Heap.get?_push_size _ rfl,rfl⟩
end
theorem zDR {prog:Program}{w:World}{A:Around} (hh:A.handled=none) (it l:Addr) (hne:l≠it) (items:Array Value) :
  Draws prog w A it [it,l] items.size (fun i v=>items[i]?=some v) (fun i h=>h.IsTupleIter it l i/\h.IsTuple l items) where
 live:=fun _ _ st=>let ⟨o,ho,_⟩:=st.1; ⟨o,ho⟩
 frame:=fun _ _ _ st hk=>⟨st.1.at fun o e=>hk it (by simp) o e,let ⟨o,e,r⟩:=st.2; ⟨o,hk l (by simp) o e,r⟩⟩
 item:=fun i s Q E hi st hQ=>zLu st.1 st.2 (x:=items[i]) (by simp [hi]) fun h' hit' hs'=>hQ _ h' s.toks (by simp [hi]) ⟨hit',st.2.extBut hs'.extBut hne⟩ hs'
 done:=fun s Q E st hE=>zLv hh st.1 st.2 (by simp) hE
structure Side (z TI TO i1 i2:Addr) (fp1 fp2:List Addr):Prop where
 TIz:TI≠z
 TOz:TO≠z
 i1z:i1≠z
 i2z:i2≠z
 TITO:TI≠TO
 TIi1:TI≠i1
 TIi2:TI≠i2
 TOi1:TO≠i1
 TOi2:TO≠i2
 i12:i1≠i2
 f1:∀ c∈fp1,c≠z/\c≠TO/\c≠i2
 f2:∀ c∈fp2,c≠z/\c≠TO/\c≠i1
section
variable {prog:Program}{w:World}{A:Around}{E:Value->Shared->Prop}{s:Shared}{z TI TO i1 i2:Addr}{fp1 fp2:List Addr}{n1 n2:Nat}{P1 P2:Nat->Value->Prop}{T1 T2:Nat->Heap->Prop}{k:Nat}{a b:Value}
theorem zLw {Q:Value->Shared->Prop} (D1:Draws prog w A i1 fp1 n1 P1 T1) (D2:Draws prog w A i2 fp2 n2 P2 T2) (D:Side z TI TO i1 i2 fp1 fp2)
  (hz:IsZip s.heap z TI TO .none) (hTI:IsPair s.heap TI (.ref i1) (.ref i2)) (hTO:IsPair s.heap TO a b) (t1:T1 k s.heap) (t2:T2 k s.heap) (l1:k < n1) (l2:k < n2)
  (hQ:∀ x y h' tk,P1 k x->P2 k y->IsZip h' z TI TO (rawInt s.heap.objs.size)->IsPair h' TO x y->T1 (k+1) h'->T2 (k+1) h'->IsPair h' s.heap.objs.size x y->h'.objs.size=s.heap.objs.size+1 ->
   (∀ c o,c≠z->c≠TO->c≠i1->c≠i2->s.heap.get? c=some o->h'.get? c=some o)->Q (.ref s.heap.objs.size) { s with heap:=h',toks:=tk }) :
  wpAny (model prog w) A (Builtin.«zip.__next__» ⟨[.ref z],[]⟩) (fun fin s'=>∃ v,fin=.done (.ret v)/\Q v s') E s:=by
 show wpAny _ _ (field (.ref z) 2 >>= _) _ _ _
 refine wpAny_bind (wpAny_field hz rfl (x:=.bool false) rfl ?_)
 show wpAny _ _ (field (.ref z) 3 >>= _) _ _ _
 refine wpAny_bind (wpAny_field hz rfl (x:=.ref TI) rfl ?_)
 refine wpAny_bind (wpAny_seqItems hTI rfl ?_)
 show wpAny _ _ (Builtin.SmallTypes.ownedTupleIsFree (.ref z) >>= _) _ _ _
 refine wpAny_bind ?_
 unfold Builtin.SmallTypes.ownedTupleIsFree
 refine wpAny_bind (wpAny_field hz rfl (x:=.none) rfl (wpAny_pure ?_))
 simp only [if_true]
 refine wpAny_bind (wpAny_rule ?_)
 refine wpAny_bind (wpAny_field hz rfl (x:=.ref TO) rfl ?_)
 refine wpAny_bind (wpAny_setField_rec hz (by simp) fun h₁ hz₁ hs₁=>?_)
 replace hz₁:IsZip h₁ z TI TO .ellipsis:=hz₁
 refine wpAny_bind ?_
 simp only [List.zipIdx_cons,List.zipIdx_nil,List.forIn_cons,List.forIn_nil]
 refine wpAny_bind (wpAny_bind (wpAny_onRaise ?_))
 show wpAny _ _ (Builtin.SmallTypes.nextOf (.ref i1) >>= _) _ _ _
 have t1₁:T1 k h₁:=D1.frame _ _ _ t1 fun c hc o e=>hs₁.extBut _ _ (D.f1 c hc).1 e
 have t2₁:T2 k h₁:=D2.frame _ _ _ t2 fun c hc o e=>hs₁.extBut _ _ (D.f2 c hc).1 e
 refine wpAny_bind (D1.item k _ _ _ l1 t1₁ fun x h₂ tk2 px t1₂ hs₂=>wpAny_pure ?_)
 have hTO₂:IsPair h₂ TO a b:=hs₂.extBut _ _ D.TOi1 (hs₁.extBut _ _ D.TOz hTO)
 refine wpAny_bind (wpAny_seqItems hTO₂ rfl ?_)
 refine wpAny_bind (wpAny_updateSeq_pair hTO₂ fun h₃ hTO₃ hs₃=>?_)
 replace hTO₃:IsPair h₃ TO x b:=hTO₃
 refine wpAny_bind (wpAny_letGo (wpAny_pure ?_))
 refine wpAny_bind (wpAny_bind (wpAny_onRaise ?_))
 show wpAny _ _ (Builtin.SmallTypes.nextOf (.ref i2) >>= _) _ _ _
 have t2₃:T2 k h₃:=D2.frame _ _ _ t2₁ fun c hc o e=>hs₃.extBut _ _ (D.f2 c hc).2.1 (hs₂.extBut _ _ (D.f2 c hc).2.2 e)
 refine wpAny_bind (D2.item k _ _ _ l2 t2₃ fun y h₄ tk4 py t2₄ hs₄=>wpAny_pure ?_)
 have hTO₄:IsPair h₄ TO x b:=hs₄.extBut _ _ D.TOi2 hTO₃
 refine wpAny_bind (wpAny_seqItems hTO₄ rfl ?_)
 refine wpAny_bind (wpAny_updateSeq_pair hTO₄ fun h₅ hTO₅ hs₅=>?_)
 replace hTO₅:IsPair h₅ TO x y:=hTO₅
 refine wpAny_bind (wpAny_letGo (wpAny_pure (wpAny_pure ?_)))
 refine wpAny_bind (wpAny_seqItems hTO₅ rfl ?_)
 refine wpAny_bind (wpAny_newTuple ?_)
 have hsz:h₅.objs.size=s.heap.objs.size:=by rw [hs₅.1,hs₄.1,hs₃.1,hs₂.1,hs₁.1]
 have hz₅:IsZip h₅ z TI TO .ellipsis:=hs₅.extBut _ _ D.TOz.symm (hs₄.extBut _ _ D.i2z.symm (hs₃.extBut _ _ D.TOz.symm (hs₂.extBut _ _ D.i1z.symm hz₁)))
 have hk₅:∀ c o,c≠z->c≠TO->c≠i1->c≠i2->s.heap.get? c=some o->h₅.get? c=some o:=fun c o c1 c2 c3 c4 e =>
  hs₅.extBut _ _ c2 (hs₄.extBut _ _ c4 (hs₃.extBut _ _ c2 (hs₂.extBut _ _ c3 (hs₁.extBut _ _ c1 e))))
 have t1₅:T1 (k+1) h₅:=D1.frame _ _ _ t1₂ fun c hc o e=>hs₅.extBut _ _ (D.f1 c hc).2.1 (hs₄.extBut _ _ (D.f1 c hc).2.2 (hs₃.extBut _ _ (D.f1 c hc).2.1 e))
 have t2₅:T2 (k+1) h₅:=D2.frame _ _ _ t2₄ fun c hc o e=>hs₅.extBut _ _ (D.f2 c hc).2.1 e
 have hzlt:z < h₅.objs.size:=Heap.lt_size hz₅
 show wpAny _ _ (Builtin.SmallTypes.ownedTupleHandOut (.ref z) (.ref h₅.objs.size) >>= _) _ _ _
 refine wpAny_bind ?_
 unfold Builtin.SmallTypes.ownedTupleHandOut
 have hz₆:IsZip (h₅.push { cls:=.type "tuple",data:=.seq #[x,y] }) z TI TO .ellipsis:=Heap.get?_push_of_some _ hz₅
 refine wpAny_bind (wpAny_setField_rec hz₆ (by simp) fun h₇ hz₇ hs₇=>?_)
 replace hz₇:IsZip h₇ z TI TO (rawInt h₅.objs.size):=hz₇
 refine wpAny_setField_rec hz₇ (by simp) fun h₈ hz₈ hs₈=>?_
 replace hz₈:IsZip h₈ z TI TO (rawInt h₅.objs.size):=hz₈
 have up:∀ c o,c≠z->h₅.get? c=some o->h₈.get? c=some o:=fun c o c1 e=>hs₈.extBut _ _ c1 (hs₇.extBut _ _ c1 (Heap.get?_push_of_some _ e))
 have hT₈:IsPair h₈ h₅.objs.size x y:=hs₈.extBut _ _ (Nat.ne_of_gt hzlt) (hs₇.extBut _ _ (Nat.ne_of_gt hzlt) (Heap.get?_push_size _ rfl))
 have hz8:h₈.objs.size=h₅.objs.size+1:=by rw [hs₈.1,hs₇.1,Heap.size_push]
 rw [hsz] at hz₈ hT₈ hz8
 refine wpAny_pure ⟨_,rfl,?_⟩
 show Q (.ref h₅.objs.size) _
 rw [hsz]
 exact hQ x y h₈ _ px py hz₈ (up _ _ D.TOz hTO₅) (D1.frame _ _ _ t1₅ fun c hc o e=>up c o (D.f1 c hc).1 e) (D2.frame _ _ _ t2₅ fun c hc o e=>up c o (D.f2 c hc).1 e) hT₈ hz8 fun c o c1 c2 c3 c4 e=>up c o c1 (hk₅ c o c1 c2 c3 c4 e)
theorem zLx {Q:Fin->Shared->Prop} (D1:Draws prog w A i1 fp1 n1 P1 T1) (D2:Draws prog w A i2 fp2 n2 P2 T2) (D:Side z TI TO i1 i2 fp1 fp2)
  (hz:IsZip s.heap z TI TO .none) (hTI:IsPair s.heap TI (.ref i1) (.ref i2)) (hTO:IsPair s.heap TO a b) (t1:T1 n1 s.heap)
  (hE:∀ h' e,(∀ c o,c≠z->c≠TO->c≠i1->c≠i2->s.heap.get? c=some o->h'.get? c=some o)->(∃ o,h'.get? e=some o/\o.cls=.type "StopIteration")->E (.ref e) { s with heap:=h' }) :
  wpAny (model prog w) A (Builtin.«zip.__next__» ⟨[.ref z],[]⟩) Q E s:=by
 show wpAny _ _ (field (.ref z) 2 >>= _) _ _ _
 refine wpAny_bind (wpAny_field hz rfl (x:=.bool false) rfl ?_)
 show wpAny _ _ (field (.ref z) 3 >>= _) _ _ _
 refine wpAny_bind (wpAny_field hz rfl (x:=.ref TI) rfl ?_)
 refine wpAny_bind (wpAny_seqItems hTI rfl ?_)
 show wpAny _ _ (Builtin.SmallTypes.ownedTupleIsFree (.ref z) >>= _) _ _ _
 refine wpAny_bind ?_
 unfold Builtin.SmallTypes.ownedTupleIsFree
 refine wpAny_bind (wpAny_field hz rfl (x:=.none) rfl (wpAny_pure ?_))
 simp only [if_true]
 refine wpAny_bind (wpAny_rule ?_)
 refine wpAny_bind (wpAny_field hz rfl (x:=.ref TO) rfl ?_)
 refine wpAny_bind (wpAny_setField_rec hz (by simp) fun h₁ hz₁ hs₁=>?_)
 replace hz₁:IsZip h₁ z TI TO .ellipsis:=hz₁
 refine wpAny_bind ?_
 simp only [List.zipIdx_cons,List.zipIdx_nil,List.forIn_cons,List.forIn_nil]
 refine wpAny_bind (wpAny_bind (wpAny_onRaise ?_))
 show wpAny _ _ (Builtin.SmallTypes.nextOf (.ref i1) >>= _) _ _ _
 have t1₁:T1 n1 h₁:=D1.frame _ _ _ t1 fun c hc o e=>hs₁.extBut _ _ (D.f1 c hc).1 e
 refine wpAny_bind (D1.done _ _ _ t1₁ fun h₂ e hs₂ he=>?_)
 obtain ⟨oe,hoe,hce⟩:=he
 have hz₂:IsZip h₂ z TI TO .ellipsis:=hs₂ _ _ D.i1z.symm hz₁
 have hez:e≠z:=fun x=>by subst x; rw [hz₂] at hoe; cases hoe; simp at hce
 refine wpAny_setField_rec hz₂ (by simp) fun h₃ _ hs₃=>hE h₃ e (fun c o c1 _ c3 _ x=>hs₃.extBut _ _ c1 (hs₂ _ _ c3 (hs₁.extBut _ _ c1 x))) ⟨oe,hs₃.extBut _ _ hez hoe,hce⟩
theorem zLy {Q:Fin->Shared->Prop} (D1:Draws prog w A i1 fp1 n1 P1 T1) (D2:Draws prog w A i2 fp2 n2 P2 T2) (D:Side z TI TO i1 i2 fp1 fp2)
  (hz:IsZip s.heap z TI TO .none) (hTI:IsPair s.heap TI (.ref i1) (.ref i2)) (hTO:IsPair s.heap TO a b) (t1:T1 n2 s.heap) (l1:n2 < n1) (t2:T2 n2 s.heap)
  (hE:∀ h' e tk,(∀ c o,c≠z->c≠TO->c≠i1->c≠i2->s.heap.get? c=some o->h'.get? c=some o)->(∃ o,h'.get? e=some o/\o.cls=.type "StopIteration")->E (.ref e) { s with heap:=h',toks:=tk }) :
  wpAny (model prog w) A (Builtin.«zip.__next__» ⟨[.ref z],[]⟩) Q E s:=by
 show wpAny _ _ (field (.ref z) 2 >>= _) _ _ _
 refine wpAny_bind (wpAny_field hz rfl (x:=.bool false) rfl ?_)
 show wpAny _ _ (field (.ref z) 3 >>= _) _ _ _
 refine wpAny_bind (wpAny_field hz rfl (x:=.ref TI) rfl ?_)
 refine wpAny_bind (wpAny_seqItems hTI rfl ?_)
 show wpAny _ _ (Builtin.SmallTypes.ownedTupleIsFree (.ref z) >>= _) _ _ _
 refine wpAny_bind ?_
 unfold Builtin.SmallTypes.ownedTupleIsFree
 refine wpAny_bind (wpAny_field hz rfl (x:=.none) rfl (wpAny_pure ?_))
 simp only [if_true]
 refine wpAny_bind (wpAny_rule ?_)
 refine wpAny_bind (wpAny_field hz rfl (x:=.ref TO) rfl ?_)
 refine wpAny_bind (wpAny_setField_rec hz (by simp) fun h₁ hz₁ hs₁=>?_)
 replace hz₁:IsZip h₁ z TI TO .ellipsis:=hz₁
 refine wpAny_bind ?_
 simp only [List.zipIdx_cons,List.zipIdx_nil,List.forIn_cons,List.forIn_nil]
 refine wpAny_bind (wpAny_bind (wpAny_onRaise ?_))
 show wpAny _ _ (Builtin.SmallTypes.nextOf (.ref i1) >>= _) _ _ _
 have t1₁:T1 n2 h₁:=D1.frame _ _ _ t1 fun c hc o e=>hs₁.extBut _ _ (D.f1 c hc).1 e
 have t2₁:T2 n2 h₁:=D2.frame _ _ _ t2 fun c hc o e=>hs₁.extBut _ _ (D.f2 c hc).1 e
 refine wpAny_bind (D1.item n2 _ _ _ l1 t1₁ fun x h₂ tk2 px t1₂ hs₂=>wpAny_pure ?_)
 have hTO₂:IsPair h₂ TO a b:=hs₂.extBut _ _ D.TOi1 (hs₁.extBut _ _ D.TOz hTO)
 refine wpAny_bind (wpAny_seqItems hTO₂ rfl ?_)
 refine wpAny_bind (wpAny_updateSeq_pair hTO₂ fun h₃ hTO₃ hs₃=>?_)
 refine wpAny_bind (wpAny_letGo (wpAny_pure ?_))
 refine wpAny_bind (wpAny_bind (wpAny_onRaise ?_))
 show wpAny _ _ (Builtin.SmallTypes.nextOf (.ref i2) >>= _) _ _ _
 have t2₃:T2 n2 h₃:=D2.frame _ _ _ t2₁ fun c hc o e=>hs₃.extBut _ _ (D.f2 c hc).2.1 (hs₂.extBut _ _ (D.f2 c hc).2.2 e)
 refine wpAny_bind (D2.done _ _ _ t2₃ fun h₄ e hs₄ he=>?_)
 obtain ⟨oe,hoe,hce⟩:=he
 have hz₄:IsZip h₄ z TI TO .ellipsis:=hs₄ _ _ D.i2z.symm (hs₃.extBut _ _ D.TOz.symm (hs₂.extBut _ _ D.i1z.symm hz₁))
 have hez:e≠z:=fun x=>by subst x; rw [hz₄] at hoe; cases hoe; simp at hce
 refine wpAny_setField_rec hz₄ (by simp) fun h₅ _ hs₅=>hE h₅ e _ (fun c o c1 c2 c3 c4 x=>hs₅.extBut _ _ c1 (hs₄ _ _ c4 (hs₃.extBut _ _ c2 (hs₂.extBut _ _ c3 (hs₁.extBut _ _ c1 x))))) ⟨oe,hs₅.extBut _ _ hez hoe,hce⟩
end
section
variable {prog:Program}{w:World}{A:Around}{E:Value->Shared->Prop}{s:Shared}{z TI TO i1 i2:Addr}{fp1 fp2:List Addr}{n1 n2:Nat}{P1 P2:Nat->Value->Prop}{T1 T2:Nat->Heap->Prop}{k:Nat}{a b:Value}
theorem zLz {Q:Option Value->Shared->Prop} (D1:Draws prog w A.in1 i1 fp1 n1 P1 T1) (D2:Draws prog w A.in1 i2 fp2 n2 P2 T2) (D:Side z TI TO i1 i2 fp1 fp2)
  (hz:IsZip s.heap z TI TO .none) (hTI:IsPair s.heap TI (.ref i1) (.ref i2)) (hTO:IsPair s.heap TO a b) (t1:T1 k s.heap) (t2:T2 k s.heap) (l1:k < n1) (l2:k < n2)
  (hQ:∀ x y h' tk,P1 k x->P2 k y->IsZip h' z TI TO (rawInt s.heap.objs.size)->IsPair h' TO x y->T1 (k+1) h'->T2 (k+1) h'->IsPair h' s.heap.objs.size x y->h'.objs.size=s.heap.objs.size+1 ->
   (∀ c o,c≠z->c≠TO->c≠i1->c≠i2->s.heap.get? c=some o->h'.get? c=some o)->Q (some (.ref s.heap.objs.size)) { s with heap:=h',toks:=tk }):wpAny (model prog w) A (pyNext (.ref z)) Q E s:=by
 have hT:s.TypeIs (.ref z) "zip" := ⟨_,hz,rfl⟩
 unfold pyNext
 exact wpAny_bind (wpAny_attempt (wpAny_callSpecial?_slot (name:=Str.ofString "__next__") hT F.slot_zip_next
  (wpAny_call_entry F.slot_zip_next hT F.entry_zip_next (zLw D1 D2 D hz hTI hTO t1 t2 l1 l2 fun x y h' tk p1 p2 a1 a2 a3 a4 a5 a6 a7=>wpAny_pure (hQ x y h' tk p1 p2 a1 a2 a3 a4 a5 a6 a7)) (F.args_zip_next_1 _))))
theorem zMA {Q:Option Value->Shared->Prop} (D1:Draws prog w A.in1 i1 fp1 n1 P1 T1) (D2:Draws prog w A.in1 i2 fp2 n2 P2 T2) (D:Side z TI TO i1 i2 fp1 fp2)
  (hz:IsZip s.heap z TI TO .none) (hTI:IsPair s.heap TI (.ref i1) (.ref i2)) (hTO:IsPair s.heap TO a b) (t1:T1 k s.heap) (t2:T2 k s.heap) (hk:k=n1\/k < n1/\k=n2)
  (hQ:∀ h' tk,(∀ c o,c≠z->c≠TO->c≠i1->c≠i2->s.heap.get? c=some o->h'.get? c=some o)->Q none { s with heap:=h',toks:=tk }):wpAny (model prog w) A (pyNext (.ref z)) Q E s:=by
 have hT:s.TypeIs (.ref z) "zip" := ⟨_,hz,rfl⟩
 unfold pyNext
 rcases hk with rfl | ⟨h1,rfl⟩
 ·refine wpAny_bind (wpAny_attempt (wpAny_callSpecial?_slot (name:=Str.ofString "__next__") hT F.slot_zip_next
   (wpAny_call_entry F.slot_zip_next hT F.entry_zip_next (zLx D1 D2 D hz hTI hTO t1 fun h' e hk he=>?_) (F.args_zip_next_1 _))))
  obtain ⟨o,ho,hc⟩:=he
  refine wpAny_bind (wpAny_isInstance (T := "StopIteration") (b:=true) ⟨o,ho,hc⟩ isSubtype_stop ?_)
  exact wpAny_pure (hQ _ s.toks hk)
 ·refine wpAny_bind (wpAny_attempt (wpAny_callSpecial?_slot (name:=Str.ofString "__next__") hT F.slot_zip_next
   (wpAny_call_entry F.slot_zip_next hT F.entry_zip_next (zLy D1 D2 D hz hTI hTO t1 h1 t2 fun h' e tk hk he=>?_) (F.args_zip_next_1 _))))
  obtain ⟨o,ho,hc⟩:=he
  refine wpAny_bind (wpAny_isInstance (T := "StopIteration") (b:=true) ⟨o,ho,hc⟩ isSubtype_stop ?_)
  exact wpAny_pure (hQ _ tk hk)
end
section
variable {prog:Program}{w:World}{A:Around}{E:Value->Shared->Prop}{s:Shared}
end
theorem Inv.turnedF {X:Cx}{pins:List (Addr × Obj)}{σ:St}{H:Hp}{s:Shared}{fp:List Addr}{h':Heap}{t':Nat} (I:Inv X pins σ H s) (k:∀ b u,b ∉ fp->s.heap.get? b=some u->h'.get? b=some u) (hf:∀ b∈fp,uY X pins H b):Inv X pins σ H { s with heap:=h',toks:=t' }:=by
 have nit:∀ b u,H b=some u->b ∉ fp:=fun b u e z=>by rw [(hf b z).1] at e; cases e
 refine I.step (g':=s.gens) (d':=s.drawn) (ch:=fp) (fun b hb=>?_) (fun b o _ _ hc e _=>k b o hc e) (fun b o _ _ hc e _=>⟨o.slots,k b o hc e⟩) (fun _ _ _ _ n=>n)
  (fun b o hc e=>⟨o,k b o hc e⟩) (fun _ _ e=>e) (fun _ _ _ e=>e) (fun b ps e=>⟨#[],by rw [e]; simp⟩) (fun m hm=>?_) (fun b u e=>?_) I.bare
 ·obtain ⟨f0,f1,f2,f3,f4,f5⟩:=hf b hb
  exact ⟨f3,f1,f4,f5⟩
 ·obtain ⟨o,es,ep,ho,r⟩:=hm
  exact ⟨o,es,ep,k _ o (fun z=>(hf _ z).2.1 rfl) ho,r⟩
 ·refine (I.hok b u e).stay (fun c v hc q=>k c v ?_ q) (fun c q=>q) fun c xs q=>q
  rcases hc with z | z
  ·rw [z]; exact nit b u e
  ·exact nit c _ z
def SqB (tp:Bool) (K:PySem.W.Frag) (H:Hp) (b:Addr) (ys:List V):Prop:=if tp=true then yG K H b ys else yJ K H b ys
def gK (tp:Bool) (h:Heap) (it b:Addr) (i:Nat):Prop:=if tp=true then h.IsTupleIter it b i else h.IsListIter it b i
theorem uQ {n i j:Nat} (h:i≠j):n+i≠n+j:=by omega
theorem j9 {a n:Nat} (i:Nat) (h:a < n):a≠n+i:=by omega
theorem zDS {n a b:Nat} (ha:a < n) (hb:b < n):Side (n+4) (n+2) (n+3) n (n+1) [n,a] [n+1,b] where
 TIz:=uQ (by decide)
 TOz:=uQ (by decide)
 i1z:=uQ (n:=n) (i:=0) (by decide)
 i2z:=uQ (by decide)
 TITO:=uQ (by decide)
 TIi1:=uQ (n:=n) (j:=0) (by decide)
 TIi2:=uQ (by decide)
 TOi1:=uQ (n:=n) (j:=0) (by decide)
 TOi2:=uQ (by decide)
 i12:=uQ (n:=n) (i:=0) (by decide)
 f1:=fun c hc=>by
  rcases List.mem_cons.mp hc with z | z
  ·subst z; exact ⟨uQ (i:=0) (by decide),uQ (i:=0) (by decide),uQ (i:=0) (by decide)⟩
  ·have z':c=a:=by simpa using z
   subst z'; exact ⟨j9 4 ha,j9 3 ha,j9 1 ha⟩
 f2:=fun c hc=>by
  rcases List.mem_cons.mp hc with z | z
  ·subst z; exact ⟨uQ (by decide),uQ (by decide),uQ (j:=0) (by decide)⟩
  ·have z':c=b:=by simpa using z
   subst z'; exact ⟨j9 4 hb,j9 3 hb,j9 0 hb⟩
theorem zGV {X:Cx}{pins:List (Addr × Obj)}{σ:St}{H:Hp}{s:Shared} (I:Inv X pins σ H s) (hc:X.calm=true) {tp:Bool}{b it:Addr}{ys:List V} (hq:SqB tp X.K H b ys) (hne:b≠it) :
  ∃ (its:List Value) (T2:Nat->Heap->Prop),zL ys its/\Draws X.prog X.w X.A.in1 it [it,b] its.length (fun i v=>its[i]?=some v) T2/\(∀ i,gK tp s.heap it b i->T2 i s.heap)/\∀ i h,T2 i h->gK tp h it b i:=by
 cases tp with
 | true =>
  obtain ⟨its,rv,p,hz⟩:=I.tuple (show yG X.K H b ys from hq)
  have D:=zDR (prog:=X.prog) (w:=X.w) (A:=X.A.in1) (show X.A.in1.handled=none from I.ok.hd hc) it b hne its.toArray
  refine ⟨its,fun i h=>h.IsTupleIter it b i/\h.IsTuple b its.toArray,rv,?_,fun i h=>⟨h,(show s.heap.IsTuple b its.toArray from p)⟩,fun i h t=>t.1⟩
  have e:its.toArray.size=its.length:=List.size_toArray
  rw [e] at D
  exact ⟨D.live,D.frame,fun i s Q E hi st hQ=>D.item i s Q E hi st fun x h' tk hp=>hQ x h' tk (by simpa using hp),D.done⟩
 | false =>
  obtain ⟨its,rv,p,hz⟩:=I.list (show yJ X.K H b ys from hq)
  have D:=Draws.list (prog:=X.prog) (w:=X.w) (A:=X.A.in1) (show X.A.in1.handled=none from I.ok.hd hc) it b hne its.toArray
  refine ⟨its,fun i h=>h.IsListIter it b i/\h.IsList b its.toArray,rv,?_,fun i h=>⟨h,p.isList⟩,fun i h t=>t.1⟩
  have e:its.toArray.size=its.length:=List.size_toArray
  rw [e] at D
  exact ⟨D.live,D.frame,fun i s Q E hi st hQ=>D.item i s Q E hi st fun x h' tk hp=>hQ x h' tk (by simpa using hp),D.done⟩
theorem gK.keep {tp:Bool}{h h':Heap}{it b:Addr}{i:Nat} (x:gK tp h it b i) (e:∀ o,h.get? it=some o->h'.get? it=some o):gK tp h' it b i:=by
 cases tp with
 | true=>exact (show h.IsTupleIter it b i from x).at e
 | false=>exact (show h.IsListIter it b i from x).at e
theorem gK.obj {tp:Bool}{h:Heap}{it b:Addr}{i:Nat} (x:gK tp h it b i):∃ o,h.get? it=some o/\∀ v,o.data≠.cell v:=by
 cases tp with
 | true=>obtain ⟨o,e,c,d⟩:=(show h.IsTupleIter it b i from x); exact ⟨o,e,fun v z=>by rw [d] at z; cases z⟩
 | false=>obtain ⟨o,e,c,d⟩:=(show h.IsListIter it b i from x); exact ⟨o,e,fun v z=>by rw [d] at z; cases z⟩
section
variable {X:Cx}{elts:List Expr}{k:Nat}{tpos:Pos}
end
end L2
end
section
namespace L2
open PySem PySem.Spec PyProof.Rows
open AutoSeq1 (wpAny_loadPart')
section
variable {prog:Program}{w:World}{A:Around}{E:Value->Shared->Prop}{s:Shared}
end
section
variable {X:Cx}{elts:List Expr}{k:Nat}{tpos:Pos}
end
theorem zMB {J:It}{xs ys:List V}{len:Nat}{Hk:Hp->Prop} (hgo:∀ i H,Hk H->i < len->J.go i H) (hst:∀ i H,Hk H->i=len->J.stop i H) (hyl:∀ i H x H',Hk H->J.yld i H x H'->∃ T x1 y1,x=.ref T/\H T=none/\H'=upd H T (.tup [x1,y1])/\xs[i]?=some x1/\ys[i]?=some y1)
  {caps:List Nat} {n:Nat} {σ:St} {g:TG} {tc:TT} {te:TE} {F:List V->Hp->Prop} {H1:Hp} (cv:St) (k:Nat) (hn:len < 1000)
  (Pv:Nat->List V->Hp->Prop) (h0:Pv 0 [] H1) (hk:∀ i acc H,i<=len->Pv i acc H->Hk H/\acc.length<=i)
  (turn:∀ (i:Nat) (x y:V) (T:Addr) (acc:List V) (H:Hp) (zs:St) (Nx:List V->St->Hp->Prop),(∀ acc' H' zs,zs.length=k->Pv (i+1) acc' H'->Nx acc' (cv++zs) H')->xs[i]?=some x->ys[i]?=some y->zs.length=k->Pv i acc H->H T=none ->
   g (.ref T) (cv++zs) (upd H T (.tup [x,y])) fun σ2 H3=>tc σ2 H3 fun b H4=>if b=true then te σ2 H4 fun y H5=>Nx (acc++[y]) σ2 H5 else Nx acc σ2 H4)
  (fin:∀ acc H,Pv len acc H->F acc H) (hcv:uS caps n σ=cv++List.replicate k none:=by rfl) :
  ∃ W:Nat->Nat->List V->St->Hp->Prop,(∃ m,W 0 m [] (uS caps n σ) H1)/\∀ i m acc σ' H',W i m acc σ' H' ->
   (J.stop i H'/\F acc H') \/
   (J.go i H'/\acc.length < sizeLine/\∀ x H2,J.yld i H' x H2->g x σ' H2 fun σ2 H3=>tc σ2 H3 fun b H4=>if b=true then te σ2 H4 fun y H5=>∃ m',m' < m/\W (i+1) m' (acc++[y]) σ2 H5 else ∃ m',m' < m/\W (i+1) m' acc σ2 H4):=by
 refine ⟨fun i m acc σ' H'=>i<=len/\m=len - i/\(∃ ys,ys.length=k/\σ'=cv++ys)/\Pv i acc H',⟨len,Nat.zero_le _,rfl,⟨_,by simp,hcv⟩,h0⟩,?_⟩
 rintro i m acc σ' H' ⟨hi,rfl,⟨zs,hy,rfl⟩,pv⟩
 obtain ⟨hH,ha⟩:=hk i acc H' hi pv
 by_cases e:i=len
 ·subst e
  exact .inl ⟨hst _ _ hH rfl,fin acc H' pv⟩
 ·have hi':i < len:=by omega
  refine .inr ⟨hgo _ _ hH hi',by rw [sizeLine_eq]; omega,fun x H2 hy2=>?_⟩
  obtain ⟨T,x1,y1,rfl,hT,rfl,e1,e2⟩:=hyl _ _ _ _ hH hy2
  exact turn i x1 y1 T acc H' zs (fun acc' σ2 H5=>∃ m',m' < len - i/\(i+1<=len/\m'=len - (i+1)/\(∃ ys,ys.length=k/\σ2=cv++ys)/\Pv (i+1) acc' H5)) (fun acc' H5 zs hz p=>⟨len - (i+1),by omega,by omega,rfl,⟨zs,hz,rfl⟩,p⟩) e1 e2 hy pv hT
section
variable {X:Cx}
end
section
variable {X:Cx}
end
end L2
end
section
namespace L2
open PySem PySem.Spec PyProof.Rows
section
variable {prog:Program}{w:World}{A:Around}{E:Value->Shared->Prop}{s:Shared}
end
section
variable {X:Cx}{pins:List (Addr × Obj)}{σ:St}{H:Hp}{s:Shared}
end
section
variable {X:Cx}{elts:List Expr}{kk:Nat}{tpos:Pos}{tg:Expr}
end
end L2
end
section
namespace L2
open PySem PySem.Spec PyProof.Rows
open PySem.AutoSeq1 (wpAny_loadPart')
open PySem.MeetsSeq PySem.MeetsSeq2 PySem.MeetsSeq3 PySem.SeqAt
section
variable {prog:Program}{w:World}{A:Around}{E:Value->Shared->Prop}{s:Shared}
end
section
open MyS PySem.W
variable {prog:Program}{w:World}{A:Around}{E:Value->Shared->Prop}{s:Shared}
end
section
variable {prog:Program}{w:World}{A:Around}{E:Value->Shared->Prop}{s:Shared}
end
section
open MyS PySem.W
variable {prog:Program}{w:World}{A:Around}{E:Value->Shared->Prop}{s:Shared}
end
section
variable {X:Cx}
end
end L2
end
section
namespace MyS
open PySem PySem.Spec PyProof.Rows PySem.W
section
variable {prog:Program}{w:World}{A:Around}{E:Value->Shared->Prop}{s:Shared}
end
end MyS
namespace L2
open PySem PySem.Spec PyProof.Rows
section
open MyS PySem.W
variable {prog:Program}{w:World}{A:Around}{E:Value->Shared->Prop}{s:Shared}
end
section
variable {X:Cx}
end
end L2
end
section
namespace L2
open PySem PySem.Spec PyProof.Rows
section
variable {X:Cx}
end
end L2
end
section
namespace L2
open PySem PySem.Spec PyProof.Rows
section
open MyS PySem.W
variable {X:Cx}
end
end L2
end
section
namespace L2
open PySem PySem.Spec PyProof.Rows
theorem zMC (t:SetTable) (es:Array (Int × Value)) (h:Int) (x:Value):(layNew t es h x).2.1.led=t.led/\(t.plain=false->(layNew t es h x).2.1.plain=false):=by
 unfold layNew
 split
 ·dsimp only
  unfold SetTable.orStandIn
  split
  ·exact ⟨rfl,fun e=>e⟩
  ·exact ⟨rfl,fun _=>rfl⟩
 ·exact ⟨rfl,fun _=>rfl⟩
theorem zMD {mask finger moves:Nat}{led plain:Bool}{hs:Array Int}{t:SetTable}{o:Array Nat} (e:SetTable.laid mask finger moves led plain hs=some (t,o)):t.led=led/\t.plain=plain:=by
 unfold SetTable.laid at e
 cases q:SetTable.layClean mask hs with
 | none=>rw [q] at e; cases e
 | some ow =>
  rw [q] at e
  injection e with e
  injection e with e1 e2
  subst e1
  exact ⟨rfl,rfl⟩
theorem zME (t:SetTable) (es:Array (Int × Value)) (n:Nat):(relayAll t es n).2.1.led=t.led/\(t.plain=false->(relayAll t es n).2.1.plain=false):=by
 unfold relayAll
 split
 ·rename_i t' o e
  dsimp only
  have k:=zMD e
  split
  ·exact ⟨k.1,fun q=>k.2.trans q⟩
  ·exact ⟨rfl,fun _=>rfl⟩
 ·exact ⟨rfl,fun _=>rfl⟩
abbrev uU (es:Array (Int × Value)) (ep:Nat) (t:SetTable):Obj:={ cls:=.type "set",dict:=none,data:=.set es ep t }
def zMF (w:World) (es:Array (Int × Value)) (t:SetTable):Prop:=t.fits es.size=true/\t.led=!w.params.followText "set-order" /\ (es.size=0\/t.plain=false)
def zAX (prog:Program) (w:World) (h:Heap) (a:Addr) (es:Array (Int × Value)):Prop :=
 ∃ ep t,h.get? a=some (uU es ep t)/\ElemsOf (PySem.strKind prog w) es.toList/\es.size < scanBound/\zMF w es t
def uN:Value->Str
 | .str x _=>x
 | _=>⟨#[]⟩
abbrev jJ (es:Array (Int × Value)):List Str:=es.toList.map fun e=>uN e.2
theorem zDT {k:Str}{x:Value} (h:Value.isStrOf k x=true):uN x=k:=by
 obtain ⟨t,rfl⟩:=Value.isStrOf_shape h; rfl
theorem zMG {k:Str}{x:Value} (h:Value.isStrOf k x=true):x.scannable=true:=by
 obtain ⟨t,rfl⟩:=Value.isStrOf_shape h; rfl
section
variable {prog:Program}{w:World}{A:Around}{E:Value->Shared->Prop}{s:Shared}
theorem zGW {h:Heap}{a:Addr}{es es':Array (Int × Value)}{ep:Nat}{t t':SetTable} (ho:h.get? a=some (uU es ep t)):(h.update a (Obj.putSet es' t')).get? a=some (uU es' (ep+1) t'):=by
 have:=Heap.get?_update_self (Obj.putSet es' t') ho rfl
 exact this
theorem zMH {a:Addr}{es:Array (Int × Value)}{k:Str}{x:Value}{Q:Bool->Shared->Prop} (hkey:Value.isStrOf k x=true) (hS:zAX prog w s.heap a es) (hroom:es.size+1 < scanBound)
  (h:∀ b h' es',Heap.SameBut a s.heap h'->zAX prog w h' a es'->(k∈jJ es/\es'.toList.Perm es.toList\/k ∉ jJ es/\(jJ es').Perm (k::jJ es))->Q b { s with heap:=h' }) :
  wpAny (model prog w) A (setAddHashed a x (hashStr w k)) Q E s:=by
 obtain ⟨ep,t,ho,hel,hb,hf,hled,hpl⟩:=id hS
 have hsc:=zMG hkey
 have e:s={ s with heap:=s.heap }:=by cases s; rfl
 unfold setAddHashed setAddHashedIn
 refine wpAny_holding (wpAny_bind (wpAny_setState_of ho rfl hf ?_))
 dsimp only
 rw [byScan_of (knd:=PySem.strKind prog w) hsc hb hel]
 simp only [↓reduceIte]
 unfold setAddByScan
 refine wpAny_bind ?_
 refine wpAny_bind (wpAny_rule ?_)
 refine wpAny_bind (wpAny_setScan_of (knd:=PySem.strKind prog w) (k:=k) hkey ho rfl hf hel ?_)
 cases hr:List.findIdx? (fun e=>(PySem.strKind prog w).is k e.2) es.toList with
 | some j =>
  dsimp only
  obtain ⟨hj,hpj,_⟩:=List.findIdx?_eq_some_iff_getElem.mp hr
  refine wpAny_pure (wpAny_pure ?_)
  rw [e]
  exact h _ s.heap es (Heap.SameBut.refl a s.heap) hS (.inl ⟨List.mem_map.mpr ⟨es.toList[j],List.getElem_mem hj,zDT hpj⟩,List.Perm.refl _⟩)
 | none =>
  dsimp only
  have hno:k ∉ jJ es:=fun q=>by
   obtain ⟨y,hy,q⟩:=List.mem_map.mp q
   obtain ⟨⟨k',hk',_⟩,_⟩:=hel y hy
   have e1:k'=k:=(zDT hk').symm.trans q
   have:=List.findIdx?_eq_none_iff.mp hr y hy
   rw [<- e1,hk'] at this
   cases this
  have hperm:=layNew_perm t es (hashStr w k) x
  have hfits:=layNew_fits t es (hashStr w k) x
  have hkeep:=zMC t es (hashStr w k) x
  show wpAny _ _ _ _ _ _
  change wpAny _ _ (match layNew t es (hashStr w k) x with | (es,t,wasDummy,gave)=>_) _ _ _
  generalize hL:layNew t es (hashStr w k) x=L at hperm hfits hkeep ⊢
  obtain ⟨es1,t1,wasDummy,gave⟩:=L
  dsimp only at hperm hfits hkeep ⊢
  rw [Array.toList_push] at hperm
  have hel1:ElemsOf (PySem.strKind prog w) es1.toList:=(ElemsOf.push (knd:=PySem.strKind prog w) hel hkey hsc).perm hperm
  have hsz:es1.size=es.size+1:=by rw [<- Array.length_toList,hperm.length_eq,List.length_append,Array.length_toList]; rfl
  have hb1:es1.size < scanBound:=by rw [hsz]; exact hroom
  have htx:(jJ es1).Perm (k::jJ es):=by
   have:=hperm.map fun e:Int × Value=>uN e.2
   rw [List.map_append] at this
   refine this.trans ?_
   rw [List.map_singleton,zDT hkey]
   exact List.perm_append_singleton _ _
  have hgw:∀ (b:Bool) {s₁:Shared} {Q':Unit->Shared->Prop},Q' () s₁->wpAny (model prog w) A (match b with | true=>rule "set.scan.the-table-gave-way" | false=>pure ()) Q' E s₁ :=
   fun b s₁ Q' hq=>by cases b <;> first | exact wpAny_pure hq | exact wpAny_rule hq
  refine wpAny_bind (hgw _ ?_)
  have tail:∀ t2:SetTable,t2.fits es1.size=true->t2.led=t.led->t2.plain=false->∀ wd:Bool,wpAny (model prog w) A (do
    storeSet a es1 t2
    if (!wd && t2.tooFull)=true then do
      (match (relayAll t2 es1 (SetTable.grown es1.size)).2.2 with | true=>rule "set.scan.the-table-gave-way" | false=>pure ())
      storeSet a (relayAll t2 es1 (SetTable.grown es1.size)).1 (relayAll t2 es1 (SetTable.grown es1.size)).2.1
      pure (some true)
     else pure (some true)) (fun r s'=>wpAny (model prog w) A (match r with | some added=>pure added | none=>setAddHashedIn a x (hashStr w k) 99999) Q E s') E s:=by
   intro t2 f2 l2 p2 wd
   refine wpAny_bind (wpAny_storeSet_of ho rfl ?_ (fits_of_scanBound hb1))
   have ho1:=zGW (es':=es1) (t':=t2) ho
   have sb1:=Heap.SameBut.update s.heap a (Obj.putSet es1 t2)
   split
   ·have hp:=relayAll_perm t2 es1 (SetTable.grown es1.size)
    have hfr:=relayAll_fits t2 es1 (SetTable.grown es1.size)
    have hkr:=zME t2 es1 (SetTable.grown es1.size)
    generalize hRl:relayAll t2 es1 (SetTable.grown es1.size)=Rl at hp hfr hkr ⊢
    obtain ⟨es2,t3,gave2⟩:=Rl
    dsimp only at hp hfr hkr ⊢
    have hs2:es2.size=es1.size:=by rw [<- Array.length_toList,hp.length_eq,Array.length_toList]
    have hb2:es2.size < scanBound:=by rw [hs2]; exact hb1
    refine wpAny_bind (hgw _ ?_)
    refine wpAny_bind (wpAny_storeSet_of ho1 rfl ?_ (fits_of_scanBound hb2))
    refine wpAny_pure (wpAny_pure ?_)
    exact h _ _ es2 (sb1.trans (Heap.SameBut.update _ a _)) ⟨_,t3,zGW ho1,hel1.perm hp,hb2,hfr,(hkr.1.trans l2).trans hled,.inr (hkr.2 p2)⟩ (.inr ⟨hno,(hp.map _).trans htx⟩)
   ·exact wpAny_pure (wpAny_pure (h _ _ es1 sb1 ⟨_,t2,ho1,hel1,hb1,f2,l2.trans hled,.inr p2⟩ (.inr ⟨hno,htx⟩)))
  obtain ⟨tk,rfl⟩:=Value.isStrOf_shape hkey
  by_cases hp1:t1.plain=true
  ·rw [if_pos hp1]
   refine wpAny_bind ?_
   rw [hashByValue_scannable 8 hsc]
   refine wpAny_pure ?_
   exact tail { t1 with plain:=false } hfits hkeep.1 rfl wasDummy
  ·rw [if_neg hp1]
   refine wpAny_bind (wpAny_pure ?_)
   simp only [↓reduceIte]
   exact tail t1 hfits hkeep.1 (by simpa using hp1) wasDummy
end
def jP (prog:Program) (w:World) (h:Heap) (a:Addr) (ks:List Str):Prop:=∃ es,zAX prog w h a es/\(jJ es).Nodup/\(∀ x,x∈jJ es↔x∈ks)/\es.size<=ks.length
theorem jP.stay {prog:Program}{w:World}{h h':Heap}{S:Addr}{ks:List Str} (x:jP prog w h S ks) (e:∀ o,h.get? S=some o->h'.get? S=some o):jP prog w h' S ks:=by
 obtain ⟨es,⟨ep,t,ho,r⟩,q⟩:=x
 exact ⟨es,⟨ep,t,e _ ho,r⟩,q⟩
section
variable {prog:Program}{w:World}{A:Around}{R:Result->Shared->Prop}{I:Addr}{fp wr:List Addr}{G:Array GenState->Array GenState->Prop}{P:Nat->Value->Prop}{St:Nat->Shared->Prop}
theorem zMI {ks:List Str} (W:WalksS prog w A.in1 I fp wr G ks.length P St) (S:Addr) (hS:S ∉ fp) (hv:∀ i v,P i v->Value.isStrOf (ks.getD i ⟨#[]⟩) v=true) (hn:ks.length+1 < scanBound) :
  ∀ (m i:Nat) (s:Shared),ks.length - i=m->i<=ks.length->St i s->jP prog w s.heap S (ks.take i) ->
   (∀ s',Moved (S::wr) G s s'->jP prog w s'.heap S ks->R (.ok (.ret .none)) s') ->
   codeAny (model prog w) A (.builtin "set.update.loop" ⟨[.ref S,.ref I],[]⟩) R s:=by
 have nw:S ∉ wr:=fun z=>hS (W.sub _ z)
 have more:∀ b∈wr,b∈S::wr:=fun b z=>List.mem_cons_of_mem _ z
 intro m
 induction m with
 | zero =>
  intro i s e1 e2 st x hR
  obtain rfl:i=ks.length:=by omega
  refine codeAny_builtin F.entry_set_update_loop ?_
  rw [Around.under_plainId F.plain_set_update_loop _]
  refine wpAny_bind (m:=pyNext (.ref I)) (W.done s _ _ st fun s' mv=>?_)
  rw [List.take_length] at x
  exact wpAny_pure (hR s' (mv.mono more) (x.stay fun o ho=>mv.heap S _ nw ho))
 | succ m ih =>
  intro i s e1 e2 st x hR
  have lt:i < ks.length:=by omega
  refine codeAny_builtin F.entry_set_update_loop ?_
  rw [Around.under_plainId F.plain_set_update_loop _]
  refine wpAny_bind (m:=pyNext (.ref I)) (W.item i s _ _ lt st fun v s' hP st' mv=>?_)
  have hk:=hv i v hP
  obtain ⟨es,sx,nd,mem,sz⟩:=x.stay fun o ho=>mv.heap S _ nw ho
  have room:es.size+1 < scanBound:=by rw [List.length_take] at sz; omega
  refine wpAny_bind (m:=holding [v] (setAdd S v)) (wpAny_holding ?_)
  unfold setAdd
  refine wpAny_holding (wpAny_bind ((PySem.strKind prog w).pyHash (k:=ks.getD i ⟨#[]⟩) hk ?_))
  refine zMH (s:={ s' with toks:=s'.toks+1 }) hk sx room fun b h' es' sb y al=>?_
  have e3:ks.take (i+1)=ks.take i++[ks.getD i ⟨#[]⟩]:=by
   rw [List.take_succ_eq_append_getElem lt]; simp [lt]
  have y':jP prog w h' S (ks.take (i+1)):=by
   rcases al with ⟨hin,pm⟩ | ⟨hno,pm⟩
   ·have pt:(jJ es').Perm (jJ es):=pm.map _
    refine ⟨es',y,pt.nodup_iff.mpr nd,fun z=>?_,?_⟩
    ·rw [pt.mem_iff,mem z,e3,List.mem_append,List.mem_singleton]
     exact ⟨.inl,fun q=>q.elim id fun q=>q ▸ (mem _).mp hin⟩
    ·have:es'.size=es.size:=by rw [<- Array.length_toList,pm.length_eq,Array.length_toList]
     rw [this,e3,List.length_append]; omega
   ·refine ⟨es',y,pm.nodup_iff.mpr (List.nodup_cons.mpr ⟨hno,nd⟩),fun z=>?_,?_⟩
    ·rw [pm.mem_iff,List.mem_cons,mem z,e3,List.mem_append,List.mem_singleton]
     exact Or.comm
    ·have:=pm.length_eq
     simp only [List.length_map,Array.length_toList,List.length_cons] at this
     rw [this,e3,List.length_append,List.length_singleton]; omega
  refine wpAny_pure ⟨plainId_quiet F.plain_set_update_loop _,ih (i+1) _ (by omega) lt (W.frame _ s' _ _ st' (Nat.le_succ _) fun b hb o e=>?_) y' fun s'' mv'' z=>?_⟩
  ·exact (sb.2 b (fun q=>hS (by rw [<- q]; exact hb))).trans e
  ·refine hR s'' (Moved.trans W.gtrans ((mv.mono more).then_heap (Nat.le_succ _) fun b o hb e=>?_) mv'') z
   exact (sb.2 b (fun q=>hb (by rw [q]; exact List.mem_cons_self))).trans e
end
section
variable {prog:Program}{w:World}{A:Around}{E:Value->Shared->Prop}{s:Shared}
theorem zMJ:isSubtype (.type "tuple") (.type "set")=pure false:=by
 rw [isSubtype_type]; kernel_rfl
theorem zMK:isSubtype (.type "tuple") (.type "frozenset")=pure false:=by
 rw [isSubtype_type]; kernel_rfl
abbrev qR (w:World):Obj:=uU #[] 0 (.fresh 0 0 (!w.params.followText "set-order"))
theorem zML (prog:Program) (w:World) {h:Heap}{a:Addr} (e:h.get? a=some (qR w)):jP prog w h a [] :=
 ⟨#[],⟨0,_,e,(fun _ q=>nomatch q),(by unfold scanBound; decide),rfl,rfl,.inl rfl⟩,List.nodup_nil,(fun _=>Iff.rfl),Nat.le_refl _⟩
theorem zMM (a:Value) {Q₁:Value->Shared->Prop} (h:Q₁ (.ref s.heap.objs.size) { s with heap:=s.heap.push (qR w) }) :
  codeAny (model prog w) A (.call (.builtin "set.__new__") ⟨[.type "set",a],[]⟩) (wants Q₁ E) s:=by
 refine codeAny_of_tree ?_
 show wpAny _ A.in1 (do checkBuiltinCall "set.__new__" ⟨[.type "set",a],[]⟩; again (.builtin "set.__new__" ⟨[.type "set",a],[]⟩)) _ _ s
 refine wpAny_bind (wpAny_of_eq (F.newCall_set_1 a) (wpAny_pure ⟨plainId_quiet F.plain_set_new _,codeAny_builtin F.entry_set_new ?_⟩))
 rw [Around.under_plainId F.plain_set_new _]
 unfold Builtin.«set.__new__» Builtin.Frozenset.newClass
 have hsub:=sub_set_self
 obtain ⟨hp,g,d,tk,os⟩:=s
 dsimp only
 wp_walk
 refine wpAny_askSetting (wpAny_pure ?_)
 dsimp only
 simp only [newObj]
 refine wpAny_bind (wpAny_alloc (wpAny_pure ?_))
 exact wpAny_pure h
theorem zMN {A0:Around}{R:Result->Shared->Prop}{l:Addr}{items:Array Value}{ks:List Str} (hh:A.handled=none) (hl:s.heap.IsTuple l items) (hlen:items.size=ks.length) (hv:∀ i v,items[i]?=some v->Value.isStrOf (ks.getD i ⟨#[]⟩) v=true) (hb:ks.length+1 < scanBound)
  (hR:∀ h' tk,jP prog w h' s.heap.objs.size ks->(∀ b o,b < s.heap.objs.size->s.heap.get? b=some o->h'.get? b=some o)->R (.ok (.ret .none)) { s with heap:=h',toks:=tk }) :
  wpAny (model prog w) A (Builtin.«set.__init__» ⟨[.ref s.heap.objs.size,.ref l],[]⟩) (fun fin s'=>match fin with | .done f=>R (.ok f) s' | .again c'=>c'.quiet=true/\codeAny (model prog w) A0 c' R s') (fun e s'=>R (.error e) s') { s with heap:=s.heap.push (qR w) }:=by
 have new:(s.heap.push (qR w)).get? s.heap.objs.size=some (qR w):=Heap.get?_push_size _ rfl
 have ty:Shared.TypeIs { s with heap:=s.heap.push (qR w) } (.ref s.heap.objs.size) "set" := ⟨_,new,rfl⟩
 obtain ⟨ol,hol,hcl,nl,hdl⟩:=id hl
 obtain ⟨ocls,odict,odata,oslots⟩:=ol
 simp only at hcl hdl
 subst hcl; subst hdl
 have old:(s.heap.push (qR w)).get? l=some { cls:=.type "tuple",dict:=odict,data:=.seq items nl,slots:=oslots }:=Heap.get?_push_of_some _ hol
 have n1:=zMJ
 have n2:=zMK
 have n3:(Value.type "tuple" == Value.type "dict")=false:=by decide
 have tl:(s.heap.push (qR w)).IsTuple l items:=⟨_,old,rfl,nl,rfl⟩
 unfold Builtin.«set.__init__» noKeywords Builtin.Frozenset.updateFrom
 generalize hPI:pyIter=PI
 wp_walk
 subst hPI
 refine wpAny_pyIter_tuple tl (wpAny_bind (wpAny_runValue ?_))
 have lS:l < s.heap.objs.size:=Heap.lt_size hol
 have h3:A.in1.handled=none:=by simp [hh]
 have ne:l≠(s.heap.push (qR w)).objs.size:=by
  rw [Heap.size_push]
  exact Nat.ne_of_lt (Nat.lt_succ_of_lt lS)
 have nf:s.heap.objs.size ∉ [(s.heap.push (qR w)).objs.size,l]:=by
  rw [Heap.size_push]
  simp only [List.mem_cons,List.mem_singleton,List.not_mem_nil,or_false,not_or]
  exact ⟨Nat.ne_of_lt (Nat.lt_succ_self _),Nat.ne_of_gt lS⟩
 have WW:=(Walks.tuple (prog:=prog) (w:=w) (A:=A.in1) h3 _ l ne items).toS
 rw [hlen] at WW
 refine zMI WW s.heap.objs.size nf hv hb (ks.length - 0) 0 _ (by omega) (Nat.zero_le _) ?st0 ?x0 fun s' mv x=>?_
 case st0=>exact ⟨⟨_,Heap.get?_push_size _ rfl,rfl,rfl⟩,tl.push _⟩
 case x0=>exact zML prog w (Heap.get?_push_of_some _ new)
 obtain ⟨h',g',d',tk',os'⟩:=s'
 obtain rfl:g'=s.gens:=mv.gens
 obtain rfl:d'=s.drawn:=mv.drawn
 obtain rfl:os'=s.os:=mv.os
 refine wpAny_pure ?_
 refine wpAny_pure (hR h' tk' x fun b o hb e=>?_)
 have b1:b≠s.heap.objs.size:=Nat.ne_of_lt hb
 have b2:b≠(s.heap.push (qR w)).objs.size:=by
  rw [Heap.size_push]
  exact Nat.ne_of_lt (Nat.lt_succ_of_lt hb)
 refine mv.heap b o ?_ (Heap.get?_push_of_some _ (Heap.get?_push_of_some _ e))
 simp only [List.mem_cons,List.mem_singleton,List.not_mem_nil,or_false,not_or]
 exact ⟨b1,b2⟩
theorem zMO {l:Addr}{items:Array Value}{ks:List Str}{Q:Value->Shared->Prop} (hh:A.handled=none) (hl:s.heap.IsTuple l items) (hlen:items.size=ks.length) (hv:∀ i v,items[i]?=some v->Value.isStrOf (ks.getD i ⟨#[]⟩) v=true) (hb:ks.length+1 < scanBound)
  (h:∀ h' tk,jP prog w h' s.heap.objs.size ks->(∀ b o,b < s.heap.objs.size->s.heap.get? b=some o->h'.get? b=some o)->Q (.ref s.heap.objs.size) { s with heap:=h',toks:=tk }) :
  wpAny (model prog w) A (call (.type "set") [.ref l]) Q E s:=by
 obtain ⟨c0,tl0,m0⟩:=F.called_set.mro
 have m1:=F.called_set.made
 have m2:=F.called_set.sub
 refine wpAny_call (codeAny_of_tree (?_:wpAny _ _ (callAny (.type "set") _) _ _ _))
 refine wpAny_pure (And.intro (Code.quiet_builtin _ (by decide +kernel)) (codeAny_builtin F.entry_type_call ?_))
 rw [Around.under_plain (weight_type_call_type "set" [Value.ref l] []) rfl]
 have m3:=F.called_set.notType
 have m4:=F.called_set.canCreate
 have m5:=F.typeCall_set_1 (.ref l)
 all_goals (repeat (any_goals (first | assumption | wp_step)))
 refine codeAny_mono (zMM (w:=w) (.ref l) (E:=E) (Q₁:=fun v s₁=>v=.ref s.heap.objs.size/\s₁={ s with heap:=s.heap.push (qR w) }) ⟨rfl,rfl⟩) fun r s₁ hr=>?_
 match r,hr with
 | .error e,hr=>exact hr
 | .ok (.ret v),hr =>
  obtain ⟨rfl,rfl⟩:=hr
  have ty:Shared.TypeIs { s with heap:=s.heap.push (qR w) } (.ref s.heap.objs.size) "set" := ⟨_,Heap.get?_push_size _ rfl,rfl⟩
  have m6:=F.called_set.init.lookup
  have m7:=F.called_set.init.bind (.ref s.heap.objs.size)
  all_goals (repeat (any_goals (first | assumption | wp_step)))
  refine codeAny_mono (codeAny_call_builtin (R:=wants (fun q s₂=>q=.none/\∃ h' tk,s₂={ s with heap:=h',toks:=tk }/\jP prog w h' s.heap.objs.size ks/\∀ b o,b < s.heap.objs.size->s.heap.get? b=some o->h'.get? b=some o) E)
   F.called_set.init.plain F.entry_set_init (check_set_init_1 ty (zMN (by simp [hh]) hl hlen hv hb fun h' tk x k=>⟨rfl,h',tk,rfl,x,k⟩))) fun r₂ s₂ hr₂=>?_
  match r₂,hr₂ with
  | .error e,hr₂=>exact hr₂
  | .ok (.ret q),hr₂ =>
   obtain ⟨rfl,h',tk,rfl,x,k⟩:=hr₂
   all_goals (repeat (any_goals (first | assumption | wp_step)))
   exact h _ _ x k
  | .ok .next,hr₂=>exact hr₂.elim
  | .ok .brk,hr₂=>exact hr₂.elim
  | .ok .cont,hr₂=>exact hr₂.elim
 | .ok .next,hr=>exact hr.elim
 | .ok .brk,hr=>exact hr.elim
 | .ok .cont,hr=>exact hr.elim
end
end L2
end
section
namespace L2
open PySem PySem.Spec PyProof.Rows
theorem zGX:Manifest.owners.lookup (String.ofList ['r','o','t','a','r','e','t','i','_','t','e','s'].reverse)=some Manifest.sig_set_iterator:=by kernel_rfl
theorem kX:Slot "set_iterator" "__next__" "set_iterator.__next__" :=
 .of (owner := "set_iterator") (n := "__next__") (by rw [typeLookup_type,builtinLookup_eq_fast]; kernel_rfl) (by decide +kernel) (by decide +kernel) (by decide +kernel)
  (by first | exact .inl (by decide +kernel) | exact .inr (by decide +kernel)) (by rw [isSubtype_type]; kernel_rfl)
theorem zDU:entryFor table "set_iterator.__next__" = some Builtin.«set_iterator.__next__»:=entryFor_of_tree (by kernel_rfl)
theorem zDV (a:Value):argsOk "set_iterator.__next__" ⟨[a],[]⟩:=by
 unfold argsOk; rw [signature?_of (id := "set_iterator.__next__") (n:=['_','_','t','x','e','n','_','_']) (o:=['r','o','t','a','r','e','t','i','_','t','e','s']) (by kernel_rfl) zGX]; kernel_rfl
theorem zGY:Slot "set_iterator" "__iter__" "set_iterator.__iter__" :=
 .of (owner := "set_iterator") (n := "__iter__") (by rw [typeLookup_type,builtinLookup_eq_fast]; kernel_rfl) (by decide +kernel) (by decide +kernel) (by decide +kernel)
  (by first | exact .inl (by decide +kernel) | exact .inr (by decide +kernel)) (by rw [isSubtype_type]; kernel_rfl)
theorem zMP:entryFor table "set_iterator.__iter__" = some Builtin.«dict_keyiterator.__iter__» :=
 entryFor_alias (id' := "dict_keyiterator.__iter__") (by kernel_rfl) (by first | rfl | decide +kernel | (unfold String.splitOn; simp +decide [String.splitOnAux])) (by decide +kernel) (by kernel_rfl)
theorem zMQ (a:Value):argsOk "set_iterator.__iter__" ⟨[a],[]⟩:=by
 unfold argsOk; rw [signature?_of (id := "set_iterator.__iter__") (n:=['_','_','r','e','t','i','_','_']) (o:=['r','o','t','a','r','e','t','i','_','t','e','s']) (by kernel_rfl) zGX]; kernel_rfl
theorem zMR:entryFor table "set.__iter__" = some Builtin.«frozenset.__iter__» :=
 entryFor_alias (id' := "frozenset.__iter__") (by kernel_rfl) (by first | rfl | decide +kernel | (unfold String.splitOn; simp +decide [String.splitOnAux])) (by decide +kernel) (by kernel_rfl)
abbrev kY (f:Value) (i:Nat) (a:Addr) (n ep:Nat):Obj:={ cls:=.type "set_iterator",dict:=none,data:=.fields #[f,.int i 0,.ref a,.int n 0,.int ep 0] }
section
variable {prog:Program}{w:World}{A:Around}{E:Value->Shared->Prop}{s:Shared}
theorem zMS {I a T:Addr}{i ep:Nat}{es:Array (Int × Value)}{t:SetTable}{pl:List Nat}{e1 j:Nat}{x:Int × Value}{Q:Option Value->Shared->Prop}
  (hi:s.heap.get? I=some (kY (.ref T) i a es.size ep)) (ha:s.heap.get? a=some (uU es ep t)) (hf:t.fits es.size=true) (hT:s.heap.get? T=some (seqObj "tuple" (pl.map fun (i:Nat)=>rawInt i).toArray e1)) (hj:pl[i]?=some j) (hx:es[j]?=some x)
  (hQ:∀ h',h'.get? I=some (kY (.ref T) (i+1) a es.size ep)->Heap.SameBut I s.heap h'->Q (some x.2) { s with heap:=h' }) :
  wpAny (model prog w) A (pyNext (.ref I)) Q E s:=by
 have ty:s.TypeIs (.ref I) "set_iterator" := ⟨_,hi,rfl⟩
 unfold pyNext
 refine wpAny_bind (wpAny_attempt (wpAny_callSpecial?_slot (name:=Str.ofString "__next__") ty kX (wpAny_call_entry kX ty zDU ?_ (zDV _))))
 unfold Builtin.«set_iterator.__next__»
 refine wpAny_bind (m:=slotArgs "__next__" 0 _) (wpAny_pure ?_)
 refine wpAny_bind (wpAny_fieldsOf hi rfl ?_)
 dsimp only
 refine wpAny_bind (wpAny_setEntries_of ha rfl hf ?_)
 rw [if_neg (by simp)]
 refine wpAny_bind (wpAny_seqItems hT rfl ?_)
 have e2:((pl.map fun (i:Nat)=>rawInt i).toArray)[((i:Nat):Int).toNat]?=some (.int (j:Int) 0):=by
  rw [Int.toNat_natCast,List.getElem?_toArray,List.getElem?_map,hj]; rfl
 dsimp only
 rw [e2]
 dsimp only
 unfold setNextDrawn
 refine wpAny_bind (wpAny_bind (wpAny_setState_of ha rfl hf ?_))
 dsimp only
 rw [Int.toNat_natCast,Int.toNat_natCast,if_neg (by simp),hx]
 refine wpAny_pure ?_
 refine wpAny_bind (wpAny_setField_rec hi (by simp) fun h' e3 sb=>?_)
 exact wpAny_pure ⟨_,rfl,wpAny_pure (hQ h' (by rw [e3]; rfl) sb)⟩
theorem zGZ {Q:Option Value->Shared->Prop}{R:PySem.Fin->Shared->Prop} (hh:A.handled=none) (hQ:∀ h',(∀ b o,s.heap.get? b=some o->h'.get? b=some o)->Q none { s with heap:=h' }) :
  wpAny (model prog w) A.in1 (do let e <- newExc (.type "StopIteration") []; raiseNew e) R (fun e s'=>wpAny (model prog w) A (do let b <- isInstance e (.type "StopIteration"); if b=true then pure none else throw e) Q E s') s:=by
 refine wpAny_bind ?_
 simp only [newExc,newTuple]
 refine wpAny_bind (wpAny_newObj_type ?_ (by size_fits))
 refine wpAny_bind (m:=firstArgMember _ _) (wpAny_of_eq (a:=Value.none) (by first | rfl | (simp only [firstArgMember]; rfl)) ?_)
 refine wpAny_newObj_type ?_ (by size_fits)
 simp only [raiseNew]
 refine wpAny_bind (wpAny_handled ?_)
 rw [show A.in1.handled=none from hh]
 refine wpAny_bind (wpAny_pure (wpAny_throw ?_))
 refine wpAny_bind (wpAny_isInstance (T := "StopIteration") (b:=true) ⟨_,Heap.get?_push_size _ rfl,rfl⟩ isSubtype_stop ?_)
 exact wpAny_pure (hQ _ fun b o e=>Heap.get?_push_of_some _ (Heap.get?_push_of_some _ e))
theorem zMT {I a T:Addr}{i ep:Nat}{es:Array (Int × Value)}{t:SetTable}{pl:List Nat}{e1:Nat}{Q:Option Value->Shared->Prop} (hh:A.handled=none)
  (hi:s.heap.get? I=some (kY (.ref T) i a es.size ep)) (ha:s.heap.get? a=some (uU es ep t)) (hf:t.fits es.size=true) (hT:s.heap.get? T=some (seqObj "tuple" (pl.map fun (i:Nat)=>rawInt i).toArray e1)) (hj:pl[i]?=none)
  (hQ:∀ h',(∀ b o,b≠I->s.heap.get? b=some o->h'.get? b=some o)->Q none { s with heap:=h' }) :
  wpAny (model prog w) A (pyNext (.ref I)) Q E s:=by
 have ty:s.TypeIs (.ref I) "set_iterator" := ⟨_,hi,rfl⟩
 unfold pyNext
 refine wpAny_bind (wpAny_attempt (wpAny_callSpecial?_slot (name:=Str.ofString "__next__") ty kX (wpAny_call_entry kX ty zDU ?_ (zDV _))))
 unfold Builtin.«set_iterator.__next__»
 refine wpAny_bind (m:=slotArgs "__next__" 0 _) (wpAny_pure ?_)
 refine wpAny_bind (wpAny_fieldsOf hi rfl ?_)
 dsimp only
 refine wpAny_bind (wpAny_setEntries_of ha rfl hf ?_)
 rw [if_neg (by simp)]
 refine wpAny_bind (wpAny_seqItems hT rfl ?_)
 have e2:((pl.map fun (i:Nat)=>rawInt i).toArray)[((i:Nat):Int).toNat]?=none:=by
  rw [Int.toNat_natCast,List.getElem?_toArray,List.getElem?_map,hj]; rfl
 dsimp only
 rw [e2]
 dsimp only
 refine wpAny_bind (wpAny_setField_rec hi (by simp) fun h1 e3 sb1=>?_)
 refine wpAny_bind (wpAny_setField_rec (s:={ s with heap:=h1 }) e3 (by simp) fun h2 e4 sb2=>?_)
 refine zGZ (s:={ s with heap:=h2 }) hh fun h3 ex=>hQ h3 fun b o hb e=>ex b o ?_
 exact (sb2.2 b hb).trans ((sb1.2 b hb).trans e)
theorem zBl {Q:Bool->Shared->Prop} (h:Q (w.params.followText "set-order") s):wpAny (model prog w) A setsByText Q E s:=by
 unfold setsByText
 exact wpAny_bind (wpAny_askSetting (wpAny_pure h))
theorem zMU {a:Addr}{ep:Nat}{es:Array (Int × Value)}{t:SetTable}{Q:Array (Int × Value)->Shared->Prop} (ha:s.heap.get? a=some (uU es ep t)) (hf:t.fits es.size=true) (hb:w.params.followText "set-order" = true) (h:Q (pickOrder (w.params.setOrder a ep) es) s) :
  wpAny (model prog w) A (setWalk a) Q E s:=by
 unfold setWalk
 refine wpAny_bind (wpAny_setState_of ha rfl hf ?_)
 dsimp only
 refine wpAny_bind (zBl ?_)
 rw [hb]
 exact wpAny_bind (wpAny_askSetting (wpAny_pure h))
theorem zBm {I a:Addr}{f i ep:Nat}{es:Array (Int × Value)}{t:SetTable}{r:Option (Value × Nat)}{Q:Option Value->Shared->Prop} (hh:A.handled=none)
  (hi:s.heap.get? I=some (kY (.int f 0) i a es.size ep)) (ha:s.heap.get? a=some (uU es ep t)) (hf:t.fits es.size=true)
  (hr:∀ (A:Around) (E:Value->Shared->Prop) (Q:Option (Value × Nat)->Shared->Prop),Q r s->wpAny (model prog w) A (setNext a f i ep) Q E s)
  (hQ:∀ x j,r=some (x,j)->∀ h',h'.get? I=some (kY (.int j 0) (i+1) a es.size ep)->Heap.SameBut I s.heap h'->Q (some x) { s with heap:=h' })
  (hN:r=none->∀ h',(∀ b o,b≠I->s.heap.get? b=some o->h'.get? b=some o)->Q none { s with heap:=h' }) :
  wpAny (model prog w) A (pyNext (.ref I)) Q E s:=by
 have ty:s.TypeIs (.ref I) "set_iterator" := ⟨_,hi,rfl⟩
 unfold pyNext
 refine wpAny_bind (wpAny_attempt (wpAny_callSpecial?_slot (name:=Str.ofString "__next__") ty kX (wpAny_call_entry kX ty zDU ?_ (zDV _))))
 unfold Builtin.«set_iterator.__next__»
 refine wpAny_bind (m:=slotArgs "__next__" 0 _) (wpAny_pure ?_)
 refine wpAny_bind (wpAny_fieldsOf hi rfl ?_)
 dsimp only
 refine wpAny_bind (wpAny_setEntries_of ha rfl hf ?_)
 rw [if_neg (by simp)]
 rw [Int.toNat_natCast,Int.toNat_natCast,Int.toNat_natCast]
 refine wpAny_bind (hr _ _ _ ?_)
 match r,hQ,hN with
 | none,_,hN =>
  dsimp only
  refine wpAny_bind (wpAny_setField_rec hi (by simp) fun h1 e3 sb1=>?_)
  exact zGZ (s:={ s with heap:=h1 }) hh fun h3 ex=>hN rfl h3 fun b o hb e=>ex b o ((sb1.2 b hb).trans e)
 | some (x,j),hQ,_ =>
  dsimp only
  refine wpAny_bind (wpAny_setField_rec hi (by simp) fun h1 e3 sb1=>?_)
  refine wpAny_bind (wpAny_setField_rec (s:={ s with heap:=h1 }) e3 (by simp) fun h2 e4 sb2=>?_)
  exact wpAny_pure ⟨_,rfl,wpAny_pure (hQ x j rfl h2 (by rw [e4]; rfl) (sb1.trans sb2))⟩
theorem zGa {a:Addr}{f i ep:Nat}{es:Array (Int × Value)}{t:SetTable}{Q:Option (Value × Nat)->Shared->Prop} (ha:s.heap.get? a=some (uU es ep t)) (hf:t.fits es.size=true) (hb:w.params.followText "set-order" = true)
  (h:Q (((pickOrder (w.params.setOrder a ep) es)[i]?).map fun e=>(e.2,f)) s):wpAny (model prog w) A (setNext a f i ep) Q E s:=by
 unfold setNext
 refine wpAny_bind (wpAny_setState_of ha rfl hf ?_)
 dsimp only
 refine wpAny_bind (zBl ?_)
 rw [hb,if_pos rfl,if_neg (by simp)]
 refine wpAny_bind (zMU ha hf hb ?_)
 exact wpAny_pure h
theorem zGb {a:Addr}{f i ep:Nat}{es:Array (Int × Value)}{t:SetTable}{Q:Option (Value × Nat)->Shared->Prop} (ha:s.heap.get? a=some (uU es ep t)) (hf:t.fits es.size=true) (hb:w.params.followText "set-order" = false) (hl:t.led=true) (h1:es.size<=1)
  (h:Q (match es[SetTable.below t.place f]?,t.place[SetTable.below t.place f]? with | some (_,x),some j=>some (x,j+1) | _,_=>none) s):wpAny (model prog w) A (setNext a f i ep) Q E s:=by
 unfold setNext
 refine wpAny_bind (wpAny_setState_of ha rfl hf ?_)
 dsimp only
 refine wpAny_bind (zBl ?_)
 rw [hb,if_neg (by decide)]
 refine wpAny_ite_split (fun hd=>?_) (fun _=>?_)
 ·have hd':(!t.plain && decide (es.size > 1))=true:=hd
  simp only [Bool.and_eq_true,decide_eq_true_eq] at hd'
  omega
 ·show wpAny _ _ ((if (!t.led && !es.isEmpty)=true then unsupported "set:maker-not-led" else pure ()) >>= _) _ _ _
  rw [hl,if_neg (by simp)]
  exact wpAny_bind (wpAny_pure (wpAny_pure h))
theorem zDW {α:Type}:∀ {l:List α}{i:Nat} (h:i < l.length),(l[i]::l.eraseIdx i).Perm l
 | x::l,0,h=>List.Perm.refl _
 | x::l,i+1,h=>by
  have q:=zDW (l:=l) (i:=i) (by simpa using h)
  exact (List.Perm.swap ..).trans (q.cons x)
theorem zDX {α:Type} (next:Nat->Nat) (xs:Array α):(pickOrder next xs).toList.Perm xs.toList:=by
 have go:∀ (fuel k:Nat) (left:List α) (out:Array α),left.length=fuel->(pickOrder.go next fuel k left out).toList.Perm (out.toList++left):=by
  intro fuel
  induction fuel with
  | zero =>
   intro k left out e
   rw [List.length_eq_zero_iff.mp e]
   simp [pickOrder.go]
  | succ fuel ih =>
   intro k left out e
   have lt:next k % left.length < left.length:=Nat.mod_lt _ (by omega)
   unfold pickOrder.go
   rw [List.getElem?_eq_getElem lt]
   dsimp only
   refine (ih _ _ _ (by rw [List.length_eraseIdx_of_lt lt,e]; rfl)).trans ?_
   rw [Array.toList_push,List.append_assoc]
   refine List.Perm.append_left _ ?_
   exact zDW lt
 have:=go xs.size 0 xs.toList #[] rfl
 simpa [pickOrder] using this
theorem zMV {src:Source}{n:Nat}{Q:Nat->Shared->Prop} (hn:0 < n) (h:∀ d r,r < n->Q r { s with drawn:=d }):wpAny (model prog w) A (choose src n) Q E s :=
 fun Γ p hΓ=>⟨Nat.ne_of_gt hn,h _ _ (Nat.mod_lt _ hn)⟩
theorem zGc {α:Type}:∀ (n:Nat) (xs:List α) {s:Shared}{Q:List α->Shared->Prop},xs.length=n->(∀ d ord,ord.Perm xs->Q ord { s with drawn:=d })->wpAny (model prog w) A (drawOrder n xs) Q E s
 | 0,xs,s,Q,e,h=>by
  rw [List.length_eq_zero_iff.mp e] at h
  unfold drawOrder
  have:s={ s with drawn:=s.drawn }:=rfl
  exact wpAny_pure (h s.drawn [] (List.Perm.refl _))
 | n+1,[],s,Q,e,h=>by cases e
 | n+1,x::xs,s,Q,e,h=>by
  unfold drawOrder
  refine wpAny_bind (zMV (by rw [e]; omega) fun d r hr=>?_)
  rw [List.getElem?_eq_getElem hr]
  dsimp only
  refine wpAny_bind (zGc n _ (by rw [List.length_eraseIdx_of_lt hr,e]; rfl) fun d2 ord pm=>?_)
  refine wpAny_pure (h d2 _ ?_)
  exact (pm.cons _).trans (zDW hr)
theorem zDY {I:Addr}{f:Value}{i:Nat}{a:Addr}{n ep:Nat}{Q:Value->Shared->Prop} (hi:s.heap.get? I=some (kY f i a n ep)) (h:Q (.ref I) s):wpAny (model prog w) A (pyIter (.ref I)) Q E s:=by
 have ty:s.TypeIs (.ref I) "set_iterator" := ⟨_,hi,rfl⟩
 refine wpAny_pyIter_slot ty zGY (wpAny_call_entry zGY ty zMP ?_ (zMQ _))
 show wpAny _ _ (ret (.ref I)) _ _ s
 exact wpAny_pure ⟨_,rfl, "set_iterator",_,ty,kX.lookup,h⟩
theorem zMW {I a:Addr}{ep:Nat}{es:Array (Int × Value)}{t:SetTable} (hh:A.handled=none) (ne:a≠I) (hf:t.fits es.size=true) (hb:w.params.followText "set-order" = true) :
  Walks prog w A I [I,a] [I] es.size (fun i v=>((pickOrder (w.params.setOrder a ep) es).toList.map (·.2))[i]?=some v) (fun i h=>h.get? I=some (kY (.int 0 0) i a es.size ep)/\h.get? a=some (uU es ep t)) where
 sub:=fun b hb=>by simp at hb; simp [hb]
 frame:=fun _ _ _ st hk=>⟨hk I (by simp) _ st.1,hk a (by simp) _ st.2⟩
 item:=fun i s Q E lt st hQ=>by
  have ez:(pickOrder (w.params.setOrder a ep) es).size=es.size:=by rw [<- Array.length_toList,(zDX _ es).length_eq,Array.length_toList]
  have li:i < (pickOrder (w.params.setOrder a ep) es).size:=by rw [ez]; exact lt
  refine zBm (f:=0) (r:=some ((pickOrder (w.params.setOrder a ep) es)[i].2,0)) hh st.1 st.2 hf (fun A E Q q=>zGa st.2 hf hb (by rw [Array.getElem?_eq_getElem li]; exact q)) (fun x j e h' e1 sb=>?_) (fun e=>nomatch e)
  injection e with e
  injection e with e2 e3
  subst e2 e3
  refine hQ _ h' s.toks ?_ ⟨e1,(sb.2 a ne).trans st.2⟩ fun b o hb e=>(sb.2 b (by simpa using hb)).trans e
  rw [List.getElem?_map,Array.getElem?_toList,Array.getElem?_eq_getElem li]; rfl
 done:=fun s Q E st hQ=>by
  have ez:(pickOrder (w.params.setOrder a ep) es).size=es.size:=by rw [<- Array.length_toList,(zDX _ es).length_eq,Array.length_toList]
  refine zBm (f:=0) (r:=none) hh st.1 st.2 hf (fun A E Q q=>zGa st.2 hf hb (by rw [Array.getElem?_eq_none (by rw [ez]; exact Nat.le_refl _)]; exact q)) (fun _ _ e=>nomatch e) (fun _ h' k=>?_)
  exact hQ h' s.toks fun b o hb e=>k b o (by simpa using hb) e
 self:=fun _ _ _ _ st hQ=>zDY st.1 hQ
theorem zMX {I a T:Addr}{ep e1:Nat}{es:Array (Int × Value)}{t:SetTable}{pl:List Nat} (hh:A.handled=none) (ne:a≠I) (nt:T≠I) (hf:t.fits es.size=true) (hl:pl.length=es.size) (hp:∀ j∈pl,j < es.size) :
  Walks prog w A I [I,a,T] [I] es.size (fun i v=>(pl.map fun j=>(es.getD j (0,.none)).2)[i]?=some v) (fun i h=>h.get? I=some (kY (.ref T) i a es.size ep)/\h.get? a=some (uU es ep t)/\h.get? T=some (seqObj "tuple" (pl.map fun (i:Nat)=>rawInt i).toArray e1)) where
 sub:=fun b hb=>by simp at hb; simp [hb]
 frame:=fun _ _ _ st hk=>⟨hk I (by simp) _ st.1,hk a (by simp) _ st.2.1,hk T (by simp) _ st.2.2⟩
 item:=fun i s Q E lt st hQ=>by
  have li:i < pl.length:=by rw [hl]; exact lt
  have lj:pl[i] < es.size:=hp _ (List.getElem_mem li)
  refine zMS (j:=pl[i]) (x:=es[pl[i]]) st.1 st.2.1 hf st.2.2 (List.getElem?_eq_getElem li) (Array.getElem?_eq_getElem lj) fun h' e2 sb=>?_
  refine hQ _ h' s.toks ?_ ⟨e2,(sb.2 a ne).trans st.2.1,(sb.2 T nt).trans st.2.2⟩ fun b o hb e=>(sb.2 b (by simpa using hb)).trans e
  rw [List.getElem?_map,List.getElem?_eq_getElem li]
  simp [lj]
 done:=fun s Q E st hQ=>zMT hh st.1 st.2.1 hf st.2.2 (List.getElem?_eq_none (by rw [hl]; exact Nat.le_refl _)) fun h' k=>hQ h' s.toks fun b o hb e=>k b o (by simpa using hb) e
 self:=fun _ _ _ _ st hQ=>zDY st.1 hQ
theorem zMY (j:Nat):SetTable.below #[j] (j+1)=1:=by
 unfold SetTable.below
 simp [SetTable.below.go]
theorem zMZ (j:Nat):SetTable.below #[j] 0=0:=by
 unfold SetTable.below
 simp [SetTable.below.go]
theorem zMa {I a:Addr}{ep:Nat}{es:Array (Int × Value)}{t:SetTable} (hh:A.handled=none) (ne:a≠I) (hf:t.fits es.size=true) (hb:w.params.followText "set-order" = false) (hl:t.led=true) (h1:es.size<=1) :
  Walks prog w A I [I,a] [I] es.size (fun i v=>(es.toList.map (·.2))[i]?=some v) (fun i h=>h.get? I=some (kY (.int ((if i=0 then 0 else t.place.getD 0 0+1:Nat):Int) 0) i a es.size ep)/\h.get? a=some (uU es ep t)) where
 sub:=fun b hb=>by simp at hb; simp [hb]
 frame:=fun _ _ _ st hk=>⟨hk I (by simp) _ st.1,hk a (by simp) _ st.2⟩
 item:=fun i s Q E lt st hQ=>by
  obtain rfl:i=0:=by omega
  have z1:es.size=1:=by omega
  have pz:t.place.size=1:=by
   simp only [SetTable.fits,Bool.and_eq_true,beq_iff_eq] at hf
   rw [hf.1,z1]
  obtain ⟨j, hj⟩ : ∃ j, t.place = #[j] := ⟨t.place[0], by apply Array.ext <;> simp [pz]; intro i hi; have : i = 0 := by omega
                                                          subst this; rfl⟩
  have li:0 < es.size:=by omega
  refine zBm (f:=0) (r:=some (es[0].2,j+1)) hh st.1 st.2 hf (fun A E Q q=>zGb st.2 hf hb hl h1 (by rw [hj,zMZ,Array.getElem?_eq_getElem li]; exact q)) (fun x j' e h' e1 sb=>?_) (fun e=>nomatch e)
  injection e with e
  injection e with e2 e3
  subst e2 e3
  refine hQ _ h' s.toks ?_ ⟨?_,(sb.2 a ne).trans st.2⟩ fun b o hb e=>(sb.2 b (by simpa using hb)).trans e
  ·rw [List.getElem?_map,Array.getElem?_toList,Array.getElem?_eq_getElem li]; rfl
  ·rw [e1,hj]; rfl
 done:=fun s Q E st hQ=>by
  have nx:(match es[SetTable.below t.place (if es.size=0 then 0 else t.place.getD 0 0+1)]?,t.place[SetTable.below t.place (if es.size=0 then 0 else t.place.getD 0 0+1)]? with | some (_,x),some j=>some (x,j+1) | _,_=>(none:Option (Value × Nat)))=none:=by
   have hz:t.place.size=es.size:=by
    simp only [SetTable.fits,Bool.and_eq_true,beq_iff_eq] at hf
    exact hf.1
   by_cases z:es.size=0
   ·have:es=#[]:=Array.size_eq_zero_iff.mp z
    subst this
    simp
   ·have z1:es.size=1:=by omega
    obtain ⟨j, hj⟩ : ∃ j, t.place = #[j] := ⟨t.place[0], by apply Array.ext <;> simp [hz, z1]; intro i hi; have : i = 0 := by omega
                                                            subst this; rfl⟩
    rw [if_neg z,hj]
    have e4:(#[j]:Array Nat).getD 0 0=j:=rfl
    rw [e4,zMY,Array.getElem?_eq_none (by rw [z1]; exact Nat.le_refl _)]
  refine zBm (r:=none) hh st.1 st.2 hf (fun A E Q q=>zGb st.2 hf hb hl h1 (by rw [nx]; exact q)) (fun _ _ e=>nomatch e) (fun _ h' k=>?_)
  exact hQ h' s.toks fun b o hb e=>k b o (by simpa using hb) e
 self:=fun _ _ _ _ st hQ=>zDY st.1 hQ
theorem zMb {a:Addr}{es:Array (Int × Value)}{Q:Value->Shared->Prop} (hh:A.handled=none) (hS:zAX prog w s.heap a es)
  (hQ:∀ (I:Addr) (h1:Heap) (d:Drawn) (ord:List Value) (fp:List Addr) (St:Nat->Heap->Prop),ord.Perm (es.toList.map (·.2))->Walks prog w A I fp [I] es.size (fun i v=>ord[i]?=some v) St->St 0 h1->s.heap.objs.size<=I->(∀ b∈fp,b=a\/s.heap.objs.size<=b) ->
   (∀ b∈fp,b < h1.objs.size)->(∀ b o,s.heap.get? b=some o->h1.get? b=some o)->Q (.ref I) { s with heap:=h1,drawn:=d }) :
  wpAny (model prog w) A (pyIter (.ref a)) Q E s:=by
 obtain ⟨ep,t,ho,hel,hbd,hf,hled,hpl⟩:=id hS
 have ty:s.TypeIs (.ref a) "set" := ⟨_,ho,rfl⟩
 have la:a < s.heap.objs.size:=Heap.lt_size ho
 refine wpAny_pyIter_slot ty PySem.F.slot_set_iter (wpAny_call_entry PySem.F.slot_set_iter ty zMR ?_ (PySem.F.args_set_iter_1 _))
 unfold Builtin.«frozenset.__iter__» Builtin.Frozenset.slot0 Builtin.Frozenset.sizeOf
 refine wpAny_bind (wpAny_bind (m:=slotArgs "__iter__" 0 _) (wpAny_pure (wpAny_pure ?_)))
 refine wpAny_bind (wpAny_bind (wpAny_setEntries_of ho rfl hf (wpAny_pure ?_)))
 unfold setDrawn
 refine wpAny_bind (wpAny_bind (wpAny_setState_of ho rfl hf ?_))
 dsimp only
 refine wpAny_bind (zBl (wpAny_pure ?_))
 have szl:es.size<=sizeLine:=fits_of_scanBound hbd
 refine wpAny_ite_split (fun hd=>?_) (fun hd=>?_)
 ·refine wpAny_bind (zGc es.size (List.range es.size) (by simp) fun d pl pm=>?_)
  have pl_len:pl.length=es.size:=by rw [pm.length_eq,List.length_range]
  refine wpAny_bind (wpAny_newTuple ?_ (by rw [List.length_map,pl_len]; exact szl))
  have ho2:(s.heap.push (seqObj "tuple" (pl.map fun (i:Nat)=>rawInt i).toArray 0)).get? a=some (uU es ep t):=Heap.get?_push_of_some _ ho
  refine wpAny_bind (wpAny_setEpoch_of ho2 rfl hf ?_)
  refine wpAny_bind (wpAny_newObj_type (wpAny_pure ⟨_,rfl, "set_iterator",_,⟨_,Heap.get?_push_size _ rfl,rfl⟩,kX.lookup,hQ _ _ d _ _ _ ?pm (zMX (a:=a) (T:=s.heap.objs.size) (t:=t) (ep:=ep) (e1:=0) (pl:=pl) hh ?ne ?nt hf pl_len fun j hj=>List.mem_range.mp (pm.mem_iff.mp hj)) ?st ?ge ?fp ?lt ?kp⟩))
  case pm =>
   refine (pm.map _).trans ?_
   rw [show (List.range es.size).map (fun j=>(es.getD j (0,Value.none)).2)=es.toList.map (·.2) from ?_]
   apply List.ext_getElem
   ·simp
   ·intro i h1 h2
    have hi:i < es.size:=by simpa using h1
    simp [hi]
  case ne=>show a≠(s.heap.push _).objs.size; rw [Heap.size_push]; exact Nat.ne_of_lt (Nat.lt_succ_of_lt la)
  case nt=>show s.heap.objs.size≠(s.heap.push _).objs.size; rw [Heap.size_push]; exact Nat.ne_of_lt (Nat.lt_succ_self _)
  case st=>exact ⟨Heap.get?_push_size _ rfl,Heap.get?_push_of_some _ ho2,Heap.get?_push_of_some _ (Heap.get?_push_size _ rfl)⟩
  case ge=>show s.heap.objs.size<=(s.heap.push _).objs.size; rw [Heap.size_push]; exact Nat.le_succ _
  case fp =>
   intro b hb
   simp only [List.mem_cons,List.not_mem_nil,or_false] at hb
   rcases hb with rfl | rfl | rfl
   ·right; show s.heap.objs.size<=(s.heap.push _).objs.size; rw [Heap.size_push]; exact Nat.le_succ _
   ·exact .inl rfl
   ·exact .inr (Nat.le_refl _)
  case lt =>
   intro b hb
   simp only [List.mem_cons,List.not_mem_nil,or_false] at hb
   rw [Heap.size_push]
   rcases hb with rfl | rfl | rfl
   ·exact Nat.lt_succ_self _
   ·rw [Heap.size_push]; exact Nat.lt_succ_of_lt (Nat.lt_succ_of_lt la)
   ·rw [Heap.size_push]; exact Nat.lt_succ_of_lt (Nat.lt_succ_self _)
  case kp=>exact fun b o e=>Heap.get?_push_of_some _ (Heap.get?_push_of_some _ e)
 ·refine wpAny_bind (wpAny_pure ?_)
  refine wpAny_bind (wpAny_setEpoch_of ho rfl hf ?_)
  refine wpAny_bind (wpAny_newObj_type (wpAny_pure ⟨_,rfl, "set_iterator",_,⟨_,Heap.get?_push_size _ rfl,rfl⟩,kX.lookup,?_⟩))
  have ne:a≠s.heap.objs.size:=Nat.ne_of_lt la
  have fpo:∀ b∈[s.heap.objs.size,a],b=a\/s.heap.objs.size<=b:=fun b hb=>by
   simp only [List.mem_cons,List.not_mem_nil,or_false] at hb
   rcases hb with rfl | rfl
   ·exact .inr (Nat.le_refl _)
   ·exact .inl rfl
  have flt:∀ (o:Obj),∀ b∈[s.heap.objs.size,a],b < (s.heap.push o).objs.size:=fun o b hb=>by
   simp only [List.mem_cons,List.not_mem_nil,or_false] at hb
   rw [Heap.size_push]
   rcases hb with rfl | rfl
   ·exact Nat.lt_succ_self _
   ·exact Nat.lt_succ_of_lt la
  by_cases hb:w.params.followText "set-order" = true
  ·exact hQ _ _ s.drawn _ _ _ ((zDX _ es).map _) (zMW (a:=a) (ep:=ep) (t:=t) hh ne hf hb) ⟨Heap.get?_push_size _ rfl,Heap.get?_push_of_some _ ho⟩ (Nat.le_refl _) fpo (flt _) fun b o e=>Heap.get?_push_of_some _ e
  ·have hb':w.params.followText "set-order" = false:=by simpa using hb
   have h1:es.size<=1:=by
    have hd':¬ (!w.params.followText "set-order" && (!t.plain && decide (es.size > 1)))=true:=hd
    rw [hb'] at hd'
    rcases hpl with z | z
    ·omega
    ·rw [z] at hd'
     simpa using hd'
   have hl:t.led=true:=by rw [hled,hb']; rfl
   exact hQ _ _ s.drawn _ _ _ (List.Perm.refl _) (zMa (a:=a) (ep:=ep) (t:=t) hh ne hf hb' hl h1) ⟨Heap.get?_push_size _ rfl,Heap.get?_push_of_some _ ho⟩ (Nat.le_refl _) fpo (flt _) fun b o e=>Heap.get?_push_of_some _ e
end
end L2
end
section
namespace L2
open PySem PySem.Spec PyProof.Rows
section
variable {prog:Program}{w:World}{A:Around}{E:Value->Shared->Prop}{s:Shared}
theorem zMc:typeLookup (.type "set") "__len__" = pure (some (.builtin "set.__len__")):=by rw [typeLookup_type,builtinLookup_eq_fast]; kernel_rfl
theorem zMd {r:Addr}{Q:Bool->Shared->Prop} (hT:s.TypeIs (.ref r) "set") (h:Q false s):wpAny (model prog w) A (Builtin.List.listLengthHint (.ref r)) Q E s:=by
 unfold Builtin.List.listLengthHint
 refine wpAny_bind (wpAny_specialOf hT zMc ?_)
 generalize hid:("set.__len__" : String)=id0
 wp_delta
 rw [show splitId id0=some ("set", "__len__") from by subst hid; decide +kernel]
 subst hid
 refine wpAny_bind (wpAny_isInstance (T := "set") (b:=true) hT (by rw [isSubtype_type]; kernel_rfl) ?_)
 refine wpAny_ite_split (fun hab=>absurd hab (by decide)) (fun _=>?_)
 refine wpAny_ite_split (fun _=>?_) (fun hab=>absurd (by decide +kernel) hab)
 refine wpAny_bind (wpAny_typeOf hT ?_)
 exact wpAny_pure h
theorem zMe {a:Addr}{es:Array (Int × Value)}{R:List Value->Shared->Prop} (hh:A.handled=none) (hS:zAX prog w s.heap a es)
  (h:∀ h' tk d ord,ord.Perm (es.toList.map (·.2))->(∀ b o,s.heap.get? b=some o->h'.get? b=some o)->R ord { s with heap:=h',toks:=tk,drawn:=d }) :
  wpAny (model prog w) A (collect (.ref a)) R E s:=by
 obtain ⟨ep,t,ho,hel,hbd,hf,hled,hpl⟩:=id hS
 have la:a < s.heap.objs.size:=Heap.lt_size ho
 unfold collect
 refine wpAny_bind (wpAny_runValue (codeAny_builtin PySem.F.entry_proto_collect ?_))
 rw [Around.under_plainId PySem.F.plain_proto_collect _]
 show wpAny _ A.in1 (newList [] >>= fun l=>again (.builtin "list.__iadd__" ⟨[l,.ref a],[]⟩)) _ _ s
 refine wpAny_bind (wpAny_newObj_type ?_)
 refine wpAny_pure ⟨plainId_quiet PySem.F.plain_list_iadd _,codeAny_builtin PySem.F.entry_list_iadd ?_⟩
 rw [Around.under_plainId PySem.F.plain_list_iadd _]
 show wpAny _ A.in1 (Builtin.List.listExtendWith (.ref s.heap.objs.size) (.ref a) (.ref s.heap.objs.size)) _ _ _
 have ho1:(s.heap.push { cls:=.type "list",data:=.seq ([]:List Value).toArray }).get? a=some (uU es ep t):=Heap.get?_push_of_some _ ho
 have hS1:zAX prog w (s.heap.push { cls:=.type "list",data:=.seq ([]:List Value).toArray }) a es:=⟨ep,t,ho1,hel,hbd,hf,hled,hpl⟩
 have hL:(s.heap.push { cls:=.type "list",data:=.seq ([]:List Value).toArray }).get? s.heap.objs.size=some { cls:=.type "list",data:=.seq #[] }:=Heap.get?_push_size _ rfl
 unfold Builtin.List.listExtendWith
 refine wpAny_bind (wpAny_typeOf (T := "set") ⟨_,ho1,rfl⟩ ?_)
 have ne:s.heap.objs.size≠a:=Nat.ne_of_gt la
 have q1:Builtin.List.listSameRef (.ref s.heap.objs.size) (.ref a)=false:=by simp [Builtin.List.listSameRef,ne]
 rw [if_neg (by rw [q1]; decide)]
 refine wpAny_bind (zMb (A:=A.in1) (s:={ s with heap:=s.heap.push { cls:=.type "list",data:=.seq ([]:List Value).toArray } }) hh hS1 fun I h1 d ord fp St pm W st ge fpo flt kp=>?_)
 dsimp only at ge fpo kp
 rw [Heap.size_push] at ge fpo
 have nf:s.heap.objs.size ∉ fp:=fun z=>by
  rcases fpo _ z with e | e
  ·exact ne e
  ·exact Nat.lt_irrefl _ e
 have hn:es.size<=sizeLine:=fits_of_scanBound hbd
 have ol:ord.length=es.size:=by rw [pm.length_eq,List.length_map,Array.length_toList]
 have key:∀ (g:Heap) (c₁:Nat),St 0 g->(∀ b o,b≠s.heap.objs.size->h1.get? b=some o->g.get? b=some o)->g.get? s.heap.objs.size=some { cls:=.type "list",data:=.seq #[] c₁ } ->
   codeAny (model prog w) A (.builtin "list.extend.loop" ⟨[.ref s.heap.objs.size,.ref I,.ref s.heap.objs.size],[]⟩) (fun q s'=>∃ (h':Heap) (tk:Nat) (acc:Array Value) (c':Nat),q=.ok (.ret (.ref s.heap.objs.size))/\s'={ s with heap:=h',toks:=tk,drawn:=d } /\
    (∀ b o,s.heap.get? b=some o->h'.get? b=some o)/\h'.get? s.heap.objs.size=some { cls:=.type "list",dict:=none,data:=.seq acc c',slots:=#[] }/\acc.toList=ord) { s with heap:=g,drawn:=d }:=by
  intro g c₁ hst hk hg
  refine codeAny_extend_loopS W.toS hn _ nf _ es.size 0 _ #[] c₁ rfl (Nat.zero_le _) hst hg (ItemsOf.nil _) fun s' acc' c' hm hS' hacc=>?_
  have e1:acc'.toList=ord:=by
   apply List.ext_getElem
   ·rw [Array.length_toList,hacc.1,ol]
   ·intro i i1 i2
    have:ord[i]?=some (acc'[i]'(by simpa using i1)):=hacc.2 i _ (Array.getElem?_eq_getElem (by simpa using i1))
    rw [List.getElem?_eq_getElem i2] at this
    injection this with this
    simpa using this.symm
  refine ⟨s'.heap,s'.toks,acc',c',rfl,Moved.eq_with hm,fun b o e=>?_,hS',e1⟩
  have nb:b≠s.heap.objs.size:=Nat.ne_of_lt (Heap.lt_size e)
  refine hm.heap b o (fun z=>?_) (hk b o nb (kp b o (Heap.get?_push_of_some _ e)))
  rcases List.mem_cons.mp z with e' | z
  ·exact nb e'
  ·rw [List.mem_singleton.mp z] at e
   exact absurd (Heap.lt_size e) (Nat.not_lt.mpr (Nat.le_of_succ_le ge))
 have fin : ∀ (q : Result) (s' : Shared), (∃ (h' : Heap) (tk : Nat) (acc : Array Value) (c' : Nat), q = .ok (.ret (.ref s.heap.objs.size)) /\ s' = { s with heap := h', toks := tk, drawn := d } /\
       (∀ b o,s.heap.get? b=some o->h'.get? b=some o)/\h'.get? s.heap.objs.size=some { cls:=.type "list",dict:=none,data:=.seq acc c',slots:=#[] }/\acc.toList=ord) ->
   q=.ok (.ret (.ref s.heap.objs.size))/\wpAny (model prog w) A (load s.heap.objs.size >>= fun o=>match o.data with | .seq xs _=>pure xs.toList | _=>unsupported "internal:collect") R E s':=by
  rintro q s' ⟨h',tk,acc,c',rfl,rfl,kk,hg,e1⟩
  refine ⟨rfl,wpAny_bind (wpAny_load hg ?_)⟩
  show wpAny _ _ (pure acc.toList) _ _ _
  rw [e1]
  exact wpAny_pure (h h' tk d ord pm kk)
 have hL1:=kp _ _ hL
 have hoa:=kp _ _ ho1
 refine wpAny_bind (wpAny_holding (zMd (s:={ s with heap:=h1,drawn:=d }) ⟨_,hoa,rfl⟩ ?_))
 refine wpAny_ite_split (fun _=>?_) (fun _=>wpAny_pure ⟨plainId_quiet PySem.F.plain_extend_loop _,codeAny_mono (key h1 _ st (fun b o _ e=>e) hL1) fun q s' y=>?_⟩)
 ·refine wpAny_bind (wpAny_rule ?_)
  refine wpAny_bind ?_
  show wpAny _ _ (updateSeq s.heap.objs.size (·.push .none) >>= fun _=>updateSeq s.heap.objs.size (·.pop)) _ _ _
  refine wpAny_bind (wpAny_updateSeq hL1 rfl ?_)
  have hL2:=Heap.get?_update_self (Obj.mapSeq (·.push Value.none)) hL1 rfl
  refine wpAny_updateSeq (hz:=by seq_fits) hL2 rfl ?_
  have hL3:=Heap.get?_update_self (Obj.mapSeq (·.pop)) hL2 rfl
  refine wpAny_pure ⟨plainId_quiet PySem.F.plain_extend_loop _,codeAny_mono (key _ _ ?_ (fun b o hb e=>?_) hL3) fun q s' y=>?_⟩
  ·refine W.frame 0 _ _ st fun b hb o e=>?_
   have hbS:b≠s.heap.objs.size:=fun z=>nf (z ▸ hb)
   exact (Heap.get?_update_other _ _ (Ne.symm hbS)).trans ((Heap.get?_update_other _ _ (Ne.symm hbS)).trans e)
  ·exact (Heap.get?_update_other _ _ (Ne.symm hb)).trans ((Heap.get?_update_other _ _ (Ne.symm hb)).trans e)
  ·obtain ⟨rfl,y2⟩:=fin q s' y
   exact y2
 ·obtain ⟨rfl,y2⟩:=fin q s' y
  exact y2
end
section
open MyS PySem.W
variable {X:Cx}{pins:List (Addr × Obj)}{σ:List (Option V)}{H:Hp}{s:Shared}
theorem Inv.draw {h':Heap}{tk:Nat}{d:Drawn} (I:Inv X pins σ H { s with heap:=h',toks:=tk }):Inv X pins σ H { s with heap:=h',toks:=tk,drawn:=d } :=
 ⟨I.ok,I.os,I.bare,I.base,I.loc,I.cell,I.free,I.freeC,I.pin,I.hok,I.len⟩
theorem Inv.grown {h':Heap}{tk:Nat} (I:Inv X pins σ H s) (k:∀ b u,s.heap.get? b=some u->h'.get? b=some u):Inv X pins σ H { s with heap:=h',toks:=tk } :=
 I.un (Un.kept k) (I.hok.kept k)
theorem zMf (hc:X.calm=true) {a:Addr}{ks:List Str}{Q:VK} (I:Inv X pins σ H s) (hS:jP X.prog X.w s.heap a ks) (h64:ks.length < 64)
  (q:∀ (out:List Str) (l:Addr),(∀ x,x∈out↔x∈ks)->out.Pairwise (fun a b=>a.cps.toList < b.cps.toList)->H l=none->Q (.ref l) (upd H l (.lst (out.map V.str)))) :
  wpAny (model X.prog X.w) X.A (call (.builtin "sorted") [.ref a]) (EP X pins σ Q) X.xe s:=by
 obtain ⟨es,sx,nd,mem,sz⟩:=hS
 refine Calls.call_function_entry kind_sorted plain_sorted entry_sorted (args_sorted1 _) ?_
 unfold Builtin.«sorted»
 refine wpAny_bind (m:=checkCount "sorted" 1 1 _) (wpAny_pure ?_)
 refine wpAny_bind (zMe (A:=X.A.in1) (I.ok.hd hc) sx fun h' tk d ord pm hk=>?_)
 have I1:Inv X pins σ H { s with heap:=h',toks:=tk,drawn:=d }:=(I.grown hk).draw
 obtain ⟨ep,t,ho,hel,_⟩:=sx
 have hstr:∀ v∈ord,∃ x u,v=Value.str x u:=fun v hv=>by
  obtain ⟨e,he,rfl⟩:=List.mem_map.mp (pm.mem_iff.mp hv)
  obtain ⟨⟨k,hk',_⟩,_⟩:=hel e he
  obtain ⟨u,e2⟩:=Value.isStrOf_shape hk'
  exact ⟨k,u,e2⟩
 have hS:StrsAre ord (ord.map uN):=by
  have go:∀ l:List Value,(∀ v∈l,∃ x u,v=Value.str x u)->StrsAre l (l.map uN):=by
   intro l
   induction l with
   | nil=>intro _; exact .nil
   | cons v l ih =>
    intro hl
    obtain ⟨x,u,rfl⟩:=hl v (List.mem_cons_self ..)
    exact .cons _ _ (ih fun v hv=>hl v (List.mem_cons_of_mem _ hv))
  exact go ord hstr
 have pt:(ord.map uN).Perm (jJ es):=by
  have:=pm.map uN
  rw [List.map_map] at this
  exact this
 have hnd:(ord.map uN).Nodup:=pt.nodup_iff.mpr nd
 have ol:ord.length=es.size:=by rw [pm.length_eq,List.length_map,Array.length_toList]
 have h64':ord.length < 64:=by omega
 refine wpAny_bind (wpAny_newList ?_ (by rw [sizeLine_eq]; omega))
 dsimp only
 generalize hB:h'.objs.size=B
 have hoL:(h'.push { cls:=.type "list",data:=.seq ord.toArray }).get? B=some (seqObj "list" ord.toArray 0):=by
  rw [<- hB]; exact Heap.get?_push_size _ rfl
 have old:∀ b o,h'.get? b=some o->(h'.push { cls:=.type "list",data:=.seq ord.toArray }).get? b=some o/\b≠B:=fun b o e=>⟨Heap.get?_push_of_some _ e,by rw [<- hB]; exact Nat.ne_of_lt (Heap.lt_size e)⟩
 refine wpAny_bind (wpAny_holding (wpAny_call_entry slot_list_sort ⟨_,hoL,rfl⟩ entry_list_sort (sort_strs (ks:=ord.map uN) hoL hS hnd h64' fun p h2 e2 hp1 hp2 hk2 ho2=>⟨_,rfl,?_⟩) (args_list_sort _)))
 refine wpAny_pure ⟨_,rfl,?_⟩
 have hold:∀ b o,h'.get? b=some o->h2.get? b=some o:=fun b o e=>hk2 b o (old _ _ e).2 (old _ _ e).1
 refine ⟨.ref B,_,I1.laid (t':=tk) (o:=.lst ((p.map fun i=>(ord.map uN).getD i ⟨#[]⟩).map V.str)) hold (Nat.le_of_eq hB) ⟨?_,_,_,?_,ho2⟩,rfl,q _ B ?_ ?_ (I1.hok.fresh (Nat.le_of_eq hB))⟩
 ·rw [List.length_map,List.length_map,hp1.length_eq,List.length_range,sizeLine_eq]; omega
 ·have go:∀ l:List Nat,(∀ i∈l,i < ord.length)->zL ((l.map fun i=>(ord.map uN).getD i ⟨#[]⟩).map V.str) (l.map fun i=>ord.getD i Value.none):=by
   intro l
   induction l with
   | nil=>intro _; exact .nil
   | cons i l ih =>
    intro hl'
    have hi:i < ord.length:=hl' i (List.mem_cons_self ..)
    refine .cons ?_ (ih fun j hj=>hl' j (List.mem_cons_of_mem _ hj))
    obtain ⟨x,u,e⟩:=hstr ord[i] (List.getElem_mem hi)
    have a1:ord.getD i Value.none=Value.str x u:=by simp [hi,e]
    have a2:(ord.map uN).getD i ⟨#[]⟩=x:=by simp [hi,e,uN]
    show zQ (V.str ((ord.map uN).getD i ⟨#[]⟩)) (ord.getD i Value.none)
    rw [a1,a2]
    exact ⟨_,rfl⟩
  exact go p fun i hi=>List.mem_range.mp (hp1.mem_iff.mp hi)
 ·intro x
  have e1:(List.range ord.length).map (fun i=>(ord.map uN).getD i (⟨#[]⟩:Str))=ord.map uN:=by
   apply List.ext_getElem
   ·simp
   ·intro i h1 h2
    have hi:i < ord.length:=by simpa using h1
    simp [hi]
  have p2:=hp1.map (fun i=>(ord.map uN).getD i (⟨#[]⟩:Str))
  rw [e1] at p2
  rw [p2.mem_iff,pt.mem_iff]
  exact mem x
 ·rw [List.pairwise_map]
  rw [List.pairwise_map] at hp2
  exact hp2
def zDZ (K:PySem.W.Frag) (x:V) (H:Hp) (Q:VK):Prop:=∃ (p:Addr) (ks:List Str),x=.ref p/\yG K H p (ks.map V.str)/\ks.length < 64 /\
 ∀ (out:List Str) (l:Addr),(∀ x,x∈out↔x∈ks)->out.Pairwise (fun a b=>a.cps.toList < b.cps.toList)->H l=none->Q (.ref l) (upd H l (.lst (out.map V.str)))
def zMg (K:PySem.W.Frag) (t:TE):TE:=fun σ H Q=>t σ H fun x H1=>zDZ K x H1 Q
theorem zMh {x y:Str}{e:Expr}{te:TE}{p p2 pos pos2:Pos} (hc:X.calm=true) (he:PE X e te) (hg:Gl X x) (hm:X.mg x=none) (hv:bootBuiltins x=some (.builtin "sorted")) (hg2:Gl X y) (hm2:X.mg y=none) (hv2:bootBuiltins y=some (.type "set"))
  (hn:x ≠ "__name__" := by decide) (hdb:(x == ("__debug__" : Str))=false:=by decide) (hn2:y ≠ "__name__" := by decide) (hdb2:(y == ("__debug__" : Str))=false:=by decide)
  (hs:starEach [e] X.env=(false,eval e X.env)::starEach [] X.env:=by rfl)
  (hs2:starEach [Expr.Call (.Name y p2) [e] [] pos2] X.env=(false,eval (Expr.Call (.Name y p2) [e] [] pos2) X.env)::starEach [] X.env:=by rfl) :
  PE X (.Call (.Name x p) [.Call (.Name y p2) [e] [] pos2] [] pos) (zMg X.K te):=by
 intro pins s σ H Q I h
 refine wpAny_Call_Name_kw (kL I hg hm hv ?_ hn hdb)
 refine PyProof.Rows.callWith_builtin1 ?_ hs2 rfl
 rw [hs2]
 show wpAny _ _ (spliced ((false,eval (Expr.Call (.Name y p2) [e] [] pos2) X.env)::backTo pos (starEach [] X.env))) _ _ s
 refine Calls.spliced_cons ?_
 refine wpAny_Call_Name_kw (kL I hg2 hm2 hv2 ?_ hn2 hdb2)
 refine PyProof.Rows.callWith_type1 (zK (zC he zD hs pos2 pins s σ H (fun xs H1=>match xs with | [x]=>zDZ X.K x H1 Q | _=>False) I ?_) fun us s1 ⟨vs,H1,I1,r1,q1⟩=>?_) hs rfl
 ·exact h
 ·obtain ⟨x,rfl,q1⟩:∃ x,vs=[x]/\zDZ X.K x H1 Q:=by
   match vs,q1 with
   | [x],q1=>exact ⟨x,rfl,q1⟩
   | [],q1=>exact q1.elim
   | _::_::_,q1=>exact q1.elim
  obtain ⟨a,ks,rfl,hsq,h64,q⟩:=q1
  obtain ⟨u,rfl,ru⟩:=qJ r1
  cases ru
  obtain ⟨its,rv,tp,_⟩:=I1.tuple hsq
  have hlen:its.toArray.size=ks.length:=by have:=rv.length; simp at this; simp [this]
  refine zMO (A:=X.A) (I.ok.hd hc) tp hlen (fun i v hv=>?_) (by unfold scanBound; omega) fun h' tk sk k=>?_
  ·have hi:i < ks.length:=by
    rw [<- hlen]
    exact (Array.getElem?_eq_some_iff.mp hv).1
   obtain ⟨u,e1,e2⟩:=rv.get (i:=i) (x:=.str (ks.getD i ⟨#[]⟩)) (by rw [List.getElem?_map]; simp [hi])
   have e3:its[i]?=some v:=by simpa using hv
   rw [e1] at e3
   injection e3 with e3
   subst e3
   obtain ⟨t,rfl⟩:=e2
   simp [Value.isStrOf]
  ·refine Calls.spliced_nil ?_
   exact zMf hc (I1.grown (tk:=tk) fun b u e=>k b u (Heap.lt_size e) e) sk h64 q
end
end L2
end
section
namespace L2
open PySem PySem.Spec PyProof.Rows
theorem zMi (l1 l2:Addr) (xs ys:Array Value) :
  Meets (Builtin.«zip.__new__» ⟨[.type "zip",.ref l1,.ref l2],[]⟩) (fun _ R s=>s.heap.IsTuple l1 xs/\s.heap.IsTuple l2 ys /\
   R (.ok (.ret (.ref (s.heap.objs.size+4)))) { s with heap:=((((s.heap.push { cls:=.type "tuple_iterator",data:=.fields #[.ref l1,.int 0 0] }).push { cls:=.type "tuple_iterator",data:=.fields #[.ref l2,.int 0 0] }).push { cls:=.type "tuple",data:=.seq #[.ref s.heap.objs.size,.ref (s.heap.objs.size+1)] }).push { cls:=.type "tuple",data:=.seq #[.none,.none] }).push { cls:=.type "zip",data:=.fields #[.none,.bool false,.bool false,.ref (s.heap.objs.size+2),.ref (s.heap.objs.size+3)] } }) :=
 .of_wp fun prog w A R s h=>by
  obtain ⟨hp,g,d,tk,os⟩:=s; obtain ⟨hl1,hl2,h⟩:=h
  have hsub:=sub_zip
  have hL1:Heap.IsTuple (Shared.heap ⟨hp,g,d,tk,os⟩) l1 xs:=hl1
  have hL2:Heap.IsTuple (Shared.heap ⟨hp.push { cls:=.type "tuple_iterator",data:=.fields #[.ref l1,.int 0 0] },g,d,tk,os⟩) l2 ys:=Heap.IsTuple.push hl2 _
  wp_walk using wpAny_pyIter_tuple hL1,wpAny_pyIter_tuple hL2
  refine ⟨_,rfl,?_⟩
  simp only [Heap.size_push] at *
  exact h
section
variable {prog:Program}{w:World}{A:Around}{E:Value->Shared->Prop}{s:Shared}
theorem zMj {l1 l2:Addr}{xs ys:Array Value}{Q:Value->Shared->Prop} (hl1:s.heap.IsTuple l1 xs) (hl2:s.heap.IsTuple l2 ys)
  (h:∀ h',IsZip h' (s.heap.objs.size+4) (s.heap.objs.size+2) (s.heap.objs.size+3) .none->IsPair h' (s.heap.objs.size+2) (.ref s.heap.objs.size) (.ref (s.heap.objs.size+1)) ->
   IsPair h' (s.heap.objs.size+3) .none .none->h'.IsTupleIter s.heap.objs.size l1 0->h'.IsTupleIter (s.heap.objs.size+1) l2 0 ->
   (∀ c o,s.heap.get? c=some o->h'.get? c=some o)->Q (.ref (s.heap.objs.size+4)) { s with heap:=h' }) :
  wpAny (model prog w) A (call (.type "zip") [.ref l1,.ref l2]) Q E s:=by
 refine callType_new F.called_zip (by decide) (F.typeCall_zip_2 _ _) (F.newCall_zip_2 _ _) (fun obj=>F.args_object_init_3 obj _ _) F.entry_zip_new (zMi l1 l2 xs ys) ⟨hl1,hl2,?_⟩
 have g5:∀ (h:Heap) (o:Obj) (n:Nat),h.objs.size=n->o.isFreed=false->(h.push o).get? n=some o:=fun h o n e f=>by subst e; exact Heap.get?_push_size _ f
 have z1:∀ (h:Heap) (o:Obj) (n:Nat),h.objs.size=n->(h.push o).objs.size=n+1:=fun h o n e=>by rw [Heap.size_push,e]
 have y1:=z1 s.heap { cls:=.type "tuple_iterator",data:=.fields #[.ref l1,.int 0 0] } _ rfl
 have y2:=z1 _ { cls:=.type "tuple_iterator",data:=.fields #[.ref l2,.int 0 0] } _ y1
 have y3:=z1 _ { cls:=.type "tuple",data:=.seq #[.ref s.heap.objs.size,.ref (s.heap.objs.size+1)] } _ y2
 have y4:=z1 _ { cls:=.type "tuple",data:=.seq #[.none,.none] } _ y3
 have e5:=g5 _ { cls:=.type "zip",data:=.fields #[.none,.bool false,.bool false,.ref (s.heap.objs.size+2),.ref (s.heap.objs.size+3)] } _ y4 rfl
 show _/\_
 exact ⟨⟨_,e5,rfl⟩,h _ e5 (Heap.get?_push_of_some _ (Heap.get?_push_of_some _ (g5 _ _ _ y2 rfl))) (Heap.get?_push_of_some _ (g5 _ _ _ y3 rfl))
  ⟨_,Heap.get?_push_of_some _ (Heap.get?_push_of_some _ (Heap.get?_push_of_some _ (Heap.get?_push_of_some _ (g5 _ _ _ rfl rfl)))),rfl,rfl⟩
  ⟨_,Heap.get?_push_of_some _ (Heap.get?_push_of_some _ (Heap.get?_push_of_some _ (g5 _ _ _ y1 rfl))),rfl,rfl⟩
  fun c o x=>Heap.get?_push_of_some _ (Heap.get?_push_of_some _ (Heap.get?_push_of_some _ (Heap.get?_push_of_some _ (Heap.get?_push_of_some _ x))))⟩
end
def zDa (K:PySem.W.Frag) (a b:Addr):It :=
 ⟨fun i H=>∃ xs ys x y,yG K H a xs/\yG K H b ys/\xs[i]?=some x/\ys[i]?=some y,
  fun i H x H'=>∃ T x1 y1,x=.ref T/\H T=none/\H'=upd H T (.tup [x1,y1])/\(∀ xs,yG K H a xs->xs[i]?=some x1)/\(∀ ys,yG K H b ys->ys[i]?=some y1),
  fun i H=>∃ xs ys,yG K H a xs/\yG K H b ys/\(i=xs.length\/i < xs.length/\i=ys.length)⟩
structure Znt (n a b:Nat) (i:Nat) (h:Heap):Prop where
 zz:IsZip h (n+4) (n+2) (n+3) .none
 ti:IsPair h (n+2) (.ref n) (.ref (n+1))
 to:∃ u v,IsPair h (n+3) u v
 i1:h.IsTupleIter n a i
 i2:gK true h (n+1) b i
theorem zMk {P:Program}{w:World}{K:PySem.W.Frag}{elts:List Expr}{kk:Nat}{pos:Pos}{n a b:Nat} (ha:a < n) (hb:b < n):Turn P w K (.Tuple elts kk pos) (zDa K a b) [n+4,n+2,n+3,n,n+1] (n+4) (Znt n a b) where
 mem:=by simp
 obj:=fun i h st c hc=>by
  have hc':c=n+4\/c=n+2\/c=n+3\/c=n\/c=n+1:=by simpa using hc
  rcases hc' with z | z | z | z | z
  ·rw [z]; exact ⟨_,st.zz,fun v z=>by cases z⟩
  ·rw [z]; exact ⟨_,st.ti,fun v z=>by cases z⟩
  ·rw [z]; obtain ⟨u,v,e⟩:=st.to; exact ⟨_,e,fun v z=>by cases z⟩
  ·rw [z]; obtain ⟨o,e,c,d⟩:=st.i1; exact ⟨o,e,fun v z=>by rw [d] at z; cases z⟩
  ·rw [z]; exact st.i2.obj
 keep:=fun i h h' st k=>⟨k _ (by simp) _ st.zz,k _ (by simp) _ st.ti,let ⟨u,v,e⟩:=st.to; ⟨u,v,k _ (by simp) _ e⟩,st.i1.at fun o e=>k _ (by simp) o e,st.i2.keep fun o e=>k _ (by simp) o e⟩
 item:=by
  intro X hP hw hK hc i pins s σ H E I hf st hg
  subst hP hw hK
  obtain ⟨xs,ys,x,y,hq1,hq2,hx,hy⟩:=hg
  obtain ⟨its,rv,p,hz⟩:=I.tuple hq1
  obtain ⟨u,hu,ru⟩:=rv.get hx
  obtain ⟨jts,T2,rv2,D2,to2,of2⟩:=zGV (tp:=true) I hc hq2 (j9 1 hb)
  obtain ⟨v,hv,rw2⟩:=rv2.get hy
  have D1:=zDR (prog:=X.prog) (w:=X.w) (A:=X.A.in1) (show X.A.in1.handled=none from I.ok.hd hc) n a (j9 0 ha) its.toArray
  obtain ⟨t0,t00,hTO⟩:=st.to
  have l1:i < its.toArray.size:=by have:=(List.getElem?_eq_some_iff.mp hu).1; simpa using this
  have l2:i < jts.length:=(List.getElem?_eq_some_iff.mp hv).1
  refine zLz D1 D2 (zDS ha hb) st.zz st.ti hTO ⟨st.i1,p⟩ (to2 _ st.i2) l1 l2 fun x' y' h' tk px py a1 a2 a3 a4 a5 a6 hk=>?_
  have hx':x'=u:=by
   have:its[i]?=some x':=by simpa using px
   rw [hu] at this; exact (Option.some.inj this).symm
  have hy':y'=v:=by
   have:jts[i]?=some y':=py
   rw [hv] at this; exact (Option.some.inj this).symm
  subst hx' hy'
  refine ⟨_,rfl,wpAny_letOwnedTupleGo_zip a1 fun h2 hz2 hs2=>?_⟩
  have hTn:s.heap.get? s.heap.objs.size=none:=by
   cases g:s.heap.get? s.heap.objs.size with
   | none=>rfl
   | some o=>exact absurd (Heap.lt_size g) (Nat.lt_irrefl _)
  have hzl:n+4 < s.heap.objs.size:=Heap.lt_size st.zz
  have hT2:IsPair h2 s.heap.objs.size x' y':=(hs2.2 _ (Nat.ne_of_gt hzl)).trans a5
  have S:=zDS ha hb
  refine ⟨.ref s.heap.objs.size,upd H s.heap.objs.size (.tup [x,y]),I.turnedT (fp:=[n+4,n+2,n+3,n,n+1]) (h':=h2) (t':=tk) (fun c o hcf q=>?_) hf hTn ⟨by show 2<=sizeLine; decide,[x',y'],.cons ru (.cons rw2 .nil),⟨_,hT2,rfl,_,rfl⟩⟩,rfl,
   ⟨_,x,y,rfl,I.hok.free hTn,rfl,(fun zs hzs=>by rw [I.tuple_inj hzs hq1]; exact hx),(fun zs hzs=>by rw [I.tuple_inj hzs hq2]; exact hy)⟩,
   ⟨hz2,(hs2.2 _ S.TIz).trans (hk _ _ S.TIz S.TITO S.TIi1 S.TIi2 st.ti),⟨_,_,(hs2.2 _ S.TOz).trans a2⟩,a3.1.at fun o q=>(hs2.2 n S.i1z).trans q,(of2 _ _ a4).keep fun o q=>(hs2.2 (n+1) S.i2z).trans q⟩,fun c hcf=>?_⟩
  ·have c1:c≠n+4:=fun z=>hcf (by simp [z])
   have c2:c≠n+3:=fun z=>hcf (by simp [z])
   have c3:c≠n:=fun z=>hcf (by simp [z])
   have c4:c≠n+1:=fun z=>hcf (by simp [z])
   exact (hs2.2 c c1).trans (hk c o c1 c2 c3 c4 q)
  ·rw [zN]
   ·exact (hf c hcf).1
   ·rintro rfl
    have hc':s.heap.objs.size=n+4\/s.heap.objs.size=n+2\/s.heap.objs.size=n+3\/s.heap.objs.size=n\/s.heap.objs.size=n+1:=by simpa using hcf
    omega
 done:=by
  intro X hP hw hK hc i pins s σ H E I hf st hg
  subst hP hw hK
  obtain ⟨xs,ys,hq1,hq2,hx⟩:=hg
  obtain ⟨its,rv,p,hz⟩:=I.tuple hq1
  obtain ⟨jts,T2,rv2,D2,to2,of2⟩:=zGV (tp:=true) I hc hq2 (j9 1 hb)
  have e1:=rv.length
  have e2:=rv2.length
  have D1:=zDR (prog:=X.prog) (w:=X.w) (A:=X.A.in1) (show X.A.in1.handled=none from I.ok.hd hc) n a (j9 0 ha) its.toArray
  obtain ⟨t0,t00,hTO⟩:=st.to
  refine zMA D1 D2 (zDS ha hb) st.zz st.ti hTO ⟨st.i1,p⟩ (to2 _ st.i2) (by rw [List.size_toArray]; omega) fun h' tk hk=>⟨rfl,I.turnedF (fp:=[n+4,n+2,n+3,n,n+1]) (fun c o hcf q=>?_) hf⟩
  exact hk c o (fun z=>hcf (by simp [z])) (fun z=>hcf (by simp [z])) (fun z=>hcf (by simp [z])) (fun z=>hcf (by simp [z])) q
 self:=fun A i s Q E st h=>wpAny_pyIter_zip st.zz h
section
variable {X:Cx}{elts:List Expr}{k:Nat}{tpos:Pos}
def zMl (K:PySem.W.Frag) (ta:TA):TI:=fun σ H R=>ta σ H fun vs H1=>∃ a b xs ys,vs=[.ref a,.ref b]/\yG K H1 a xs/\yG K H1 b ys/\R (zDa K a b) H1
theorem zMm {e f:Expr}{ta:TA}{p pos:Pos} (hg:Gl X "zip") (hm:X.mg "zip" = none) (ha:PA X [e,f] ta) (hs:starEach [e,f] X.env=[(false,eval e X.env),(false,eval f X.env)]:=by rfl) (hs2:starEach [f] X.env=[(false,eval f X.env)]:=by rfl) :
  PI X (.Tuple elts k tpos) (.Call (.Name "zip" p) [e,f] [] pos) (zMl X.K ta):=by
 intro pins s σ H R I h
 refine Call_ (kL I hg hm boot_zip (PyProof.Rows.callWith_type1 (zK (ha pos pins s σ H _ I h) fun us s1 ⟨vs,H1,I1,r1,q1⟩=>?_) (by rw [hs,hs2]) (by rw [hs2]; rfl)))
 obtain ⟨a,b,xs,ys,rfl,hl,hb,q⟩:=q1
 cases r1 with
 | cons ra rr =>
 cases rr with
 | cons rb rn =>
 cases rn
 cases ra
 cases rb
 obtain ⟨its,rv,pa,hz⟩:=I1.tuple hl
 have fresh:∀ (h':Heap),(∀ c o,s1.heap.get? c=some o->h'.get? c=some o)->∀ c∈[s1.heap.objs.size+4,s1.heap.objs.size+2,s1.heap.objs.size+3,s1.heap.objs.size,s1.heap.objs.size+1],uY X pins H1 c:=fun h' hk c hc=>by
  have hc':s1.heap.objs.size<=c:=by
   have:c=s1.heap.objs.size+4\/c=s1.heap.objs.size+2\/c=s1.heap.objs.size+3\/c=s1.heap.objs.size\/c=s1.heap.objs.size+1:=by simpa using hc
   omega
  exact I1.fpOk hc' (I1.hok.fresh hc')
 have pa':s1.heap.IsTuple a its.toArray:=pa
 have la:a < s1.heap.objs.size:=let ⟨o,e,_⟩:=pa'; Heap.lt_size e
 obtain ⟨jts,rv2,pb,hz2⟩:=I1.tuple hb
 have pb':s1.heap.IsTuple b jts.toArray:=pb
 have lb:b < s1.heap.objs.size:=let ⟨o,e,_⟩:=pb'; Heap.lt_size e
 refine zMj pa' pb' fun h' a1 a2 a3 a4 a5 hk=>?_
 exact wpAny_pyIter_zip a1 ⟨_,[s1.heap.objs.size+4,s1.heap.objs.size+2,s1.heap.objs.size+3,s1.heap.objs.size,s1.heap.objs.size+1],_,_,H1,rfl,I1.kept (t':=s1.toks) hk,zMk la lb,⟨a1,a2,⟨_,_,a3⟩,a4,a5⟩,fresh h' hk,q⟩
end
end L2
end
section
namespace L2
open PySem PySem.Spec PyProof.Rows
section
variable {X:Cx}
end
section
variable {prog:Program}{w:World}{A:Around}{E:Value->Shared->Prop}{s:Shared}
theorem zMn {t sl:Addr}{items:Array Value}{vl vu:Value}{lo hi:Option Int}{Q:Value->Shared->Prop} (ht:IsTup s.heap t items) (hs:s.heap.IsSliceOf sl vl vu .none) (pl:IsPart vl lo) (pu:IsPart vu hi)
  (hw:HT.sIx items.size 0 lo=0/\HT.sIx items.size items.size hi=items.size)
  (h:Q (.ref t) s)
  (hsz:items.size<=sizeLine):wpAny (model prog w) A (getItem (.ref t) (.ref sl)) Q E s:=by
 obtain ⟨os,hos,hcs,hds⟩:=id hs
 have hTs:s.TypeIs (.ref sl) "slice" := ⟨os,hos,hcs⟩
 unfold getItem
 try with_reducible refine wpAny_holding ?_
 first | refine wpAny_bind (wpAny_pure ?_) | skip
 refine wpAny_bind (wpAny_sequenceKey ht.typeIs (by decide) ?_)
 refine wpAny_bind (wpAny_callSpecial?_slot (name:=Str.ofString "__getitem__") ht.typeIs PyProof.Rows.slot_tuple_getitem
  (wpAny_call_entry PyProof.Rows.slot_tuple_getitem ht.typeIs entry_tuple_getitem ?_ (args_tuple_getitem _ _)))
 show wpAny _ _ (Builtin.Tuple.tupleItemsOf (.ref t) >>= _) _ _ s
 refine wpAny_bind (tupleItemsOf_ ht ?_)
 refine wpAny_bind (wpAny_typeOf hTs ?_)
 rw [if_pos (by decide)]
 refine wpAny_bind (HT.sliceApplied_gen hs pl pu ?_)
 rw [hw.1,hw.2]
 show wpAny _ _ (if (((0:Nat):Int) == 0 && (1:Int) == 1 && (items.size - 0) == items.size)=true then _ else _) _ _ s
 rw [if_pos (by simp)]
 unfold Builtin.Tuple.tupleIsExact
 refine wpAny_bind (wpAny_bind (wpAny_typeOf ht.typeIs (wpAny_pure ?_)))
 rw [if_pos (by decide)]
 exact wpAny_bind (wpAny_rule (wpAny_pure ⟨_,rfl,wpAny_pure h⟩))
end
section
variable {X:Cx}
def zMo (K:PySem.W.Frag):V->Option Int->Option Int->Hp->VK->Prop:=fun x lo hi H Q=>∃ a xs,x=.ref a/\yG K H a xs/\(HT.sIx xs.length 0 lo=0/\HT.sIx xs.length xs.length hi=xs.length)/\Q (.ref a) H
theorem zMp:SlR X (zMo X.K):=by
 intro pins s σ H x v vl vu lo hi sl Q I rx hs pl pu h
 obtain ⟨a,xs,rfl,hx,hw,q⟩:=h
 cases rx
 obtain ⟨its,r,ht,hz⟩:=I.tuple hx
 have hlen:its.toArray.size=xs.length:=by rw [List.size_toArray]; exact r.length.symm
 refine ⟨"tuple",_,PyProof.Rows.slot_tuple_getitem.lookup,ht.typeIs,?_⟩
 exact zMn ht hs pl pu (by rw [hlen]; exact hw) ⟨.ref a,H,I,rfl,q⟩ (by rw [hlen]; exact hz)
theorem zMq:yO X (binaryOp .Add) (fun x y H Q=>∃ a b xs ys,x=.ref a/\y=.ref b/\H a=some (.tup xs)/\H b=some (.tup ys)/\xs.length+ys.length<=sizeLine/\∀ p H',zB H H'->H' p=some (.tup (xs++ys))->Q (.ref p) H'):=by
 intro pins s σ H x y v u Q I rx ry h
 obtain ⟨a,b,xs,ys,rfl,rfl,ha,hb,hz,q⟩:=h
 by_cases hx:xs=[]
 ·subst hx
  exact zFZ pins s σ H _ _ v u Q I rx ry ⟨a,b,ys,rfl,rfl,.of ha,.of hb,q b H (zB.refl H) hb⟩
 ·refine zEl pins s σ H _ _ v u Q I rx ry ⟨a,b,xs,ys,rfl,rfl,.of ha,.of hb,hx,hz,fun hy=>q a H (zB.refl H) (by rw [hy,List.append_nil]; exact ha),fun _ p hp=>q p _ (zB.upd1 hp) zG⟩
theorem zMr {xs:List V}{lo hi:Option Int} (h:HT.sIx xs.length 0 lo=0/\HT.sIx xs.length xs.length hi=xs.length):uB xs lo hi=xs:=by
 unfold uB
 rw [h.1,h.2,List.drop_zero,Nat.sub_zero,List.take_length]
theorem zGd:SlR X (fun x lo hi H Q=>∃ a xs,x=.ref a/\H a=some (.tup xs)/\∀ p H',zB H H'->H' p=some (.tup (uB xs lo hi))->Q (.ref p) H'):=by
 intro pins s σ H x v vl vu lo hi sl Q I rx hs pl pu h
 obtain ⟨a,xs,rfl,ha,q⟩:=h
 by_cases hw:HT.sIx xs.length 0 lo=0/\HT.sIx xs.length xs.length hi=xs.length
 ·exact zMp pins s σ H _ v vl vu lo hi sl Q I rx hs pl pu ⟨a,xs,rfl,.of ha,hw,q a H (zB.refl H) (by rw [zMr hw]; exact ha)⟩
 ·exact zIl pins s σ H _ v vl vu lo hi sl Q I rx hs pl pu ⟨a,xs,rfl,.of ha,hw,fun p hp=>q p _ (zB.upd1 hp) zG⟩
end
end L2
end
section
namespace Kn
open PySem L2
def qC (l:List S):Bool:=(l.zip (l.drop 1)).all fun p=>decide (p.1 < p.2)
def uV (d:PyData):Bool:=match d with
 | .str x=>decide (x.length=0) || (yW (.str x) && decide (x.length<=3))
 | _=>false
def zBn:PyData->S
 | .str x=>x.cps.toList
 | _=>[]
def qD:PyData->Bool
 | .tuple ds=>decide (ds.length<=6) && (ds.all yW && qC (ds.map zBn))
 | _=>false
def zBo:PyData->Bool
 | .bool _=>true
 | _=>false
def zBp:PyData->Int
 | .int i=>i
 | _=>0
def vM:PyData->Bool
 | .tuple [a,b,h,t,ba,to]=>(vQ 1 8 a && vQ (zBp a) 8 b) && ((uV h && uV t) && (qD ba && zBo to))
 | _=>false
section
variable {P:Program}{w:World}{K:PySem.W.Frag}{mg:Str->Option Value}{base:Heap}
structure CstW (mg:Str->Option Value):Prop where
 least:∃ t,mg "LEAST" = some (.int 0 t)
 most:∃ t,mg "MOST" = some (.int 1 t)
 head:∃ t,mg "HEAD" = some (.int 2 t)
 tail:∃ t,mg "TAIL" = some (.int 3 t)
 barred:∃ t,mg "BARRED" = some (.int 4 t)
 told:∃ t,mg "TOLD" = some (.int 5 t)
 parts:∃ t,mg "MANY_PARTS" = some (.int 6 t)
 edge:∃ t,mg "MOST_EDGE" = some (.int 3 t)
 mb:∃ t,mg "MOST_BARRED" = some (.int 6 t)
def zGe:Sp:=fun vs H Q _=>∃ (a:Addr) (l:List S),vs=[.ref a]/\H a=some (.tup (zM l))/\l.length<=100/\∀ H',zB H H'->Q (.bl (qC l)) H'
abbrev zDb:Stmt:=top 19
theorem zMs:FnScope ["things"] ["things"] (defScope zDb):=⟨rfl,rfl,rfl,by decide +kernel,rfl,by decide +kernel,by decide +kernel⟩
theorem zGf:(["one", "other"]:List Str).Nodup:=by decide +kernel
theorem zMt (l:List S):uB (zM l) (some 1) none=zM (l.drop 1):=by
 unfold uB
 have e:HT.sIx (zM l).length 0 (some 1)=min 1 (zM l).length:=HT.sIx_nat _ _ 1
 have e2:HT.sIx (zM l).length (zM l).length none=(zM l).length:=rfl
 rw [e,e2]
 unfold zM
 rw [List.map_drop,List.length_map]
 cases l with
 | nil=>rfl
 | cons x l =>
  rw [List.length_cons,Nat.min_eq_left (by omega)]
  rw [List.take_of_length_le (by rw [List.length_drop,List.length_map,List.length_cons]; omega)]
theorem zBq {l:List S}{i:Nat}{v:V} (h:(zM l)[i]?=some v):∃ x,l[i]?=some x/\v=sv x:=by
 unfold zM at h
 rw [List.getElem?_map] at h
 cases e:l[i]? with
 | none=>rw [e] at h; cases h
 | some x=>rw [e] at h; exact ⟨x,rfl,(Option.some.inj h).symm⟩
theorem zMu {f:Addr}{fd:FuncData} (F:Fun K "is_rising" "is_rising" zDb f fd) (B:Blt mg) (hz:mg "zip" = none):FnOk P w K mg base yF 1 f fd ["things"] zGe:=by
 refine F.ok zMs (fun vs H Q E h=>?_) (fun cdv A outer s H vs Q E hr h=>?_)
 ·obtain ⟨a,l,rfl,_⟩:=h; rfl
 ·obtain ⟨a,l,rfl,ha,h100,k⟩:=h
  refine ⟨_,zJ (zV (yC (zAr rfl) (by rfl) B.all PyProof.Rows.boot_all (zC (qA (N:=["one", "other"]) (caps:=[]) rfl (uT (by kernel_rfl)) (zMm rfl hz (zC (pv 0) (zC (zCE zGd (pv 0) (uE zH) qX) zD)))
    (fun cl C s H ex=>zFr K 2 rfl rfl (qW (yS (i:=0) zGf rfl (Or.inl rfl)) (qW (yS (i:=1) zGf rfl (Or.inl rfl)) zAG)) rfl rfl)
    (fun cl C s H ex=>uZ)
    (fun cl C s H ex=>gT zEX (pv 0) (pv 1) (vC _))) zD))),?_⟩
  refine ⟨_,rfl,_,rfl,_,rfl,a,_,rfl,ha,fun b H1 t1 hb1=>?_⟩
  rw [zMt] at hb1
  have ha1:=t1 _ _ ha
  refine ⟨a,b,_,_,rfl,.of ha1,.of hb1,?_⟩
  have dl:(l.drop 1).length=l.length - 1:=by rw [List.length_drop]
  have bl:∀ l:List S,(zM l).length=l.length:=fun l=>by unfold zM; rw [List.length_map]
  refine zMB (J:=zDa K a b) (xs:=zM l) (ys:=zM (l.drop 1)) (len:=(l.drop 1).length) (Hk:=fun H'=>yG K H' a (zM l)/\yG K H' b (zM (l.drop 1)))
   (fun i H' hk hi=>⟨zM l,zM (l.drop 1),(zM l)[i]'(by rw [bl]; omega),(zM (l.drop 1))[i]'(by rw [bl]; exact hi),hk.1,hk.2,List.getElem?_eq_getElem _,List.getElem?_eq_getElem _⟩)
   (fun i H' hk e=>⟨zM l,zM (l.drop 1),hk.1,hk.2,by rw [bl,bl]; omega⟩)
   (fun i H' x H'' hk ⟨T,x1,y1,e1,e2,e3,e4,e5⟩=>⟨T,x1,y1,e1,e2,e3,e4 _ hk.1,e5 _ hk.2⟩)
   [] 2 (by omega) (fun i acc H'=>zB H1 H'/\acc=(((l.zip (l.drop 1)).take i).map fun p=>decide (p.1 < p.2)).map V.bl)
   ⟨zB.refl _,rfl⟩ (fun i acc H' hi h=>⟨⟨.of (h.1 _ _ ha1),.of (h.1 _ _ hb1)⟩,by rw [h.2,List.length_map,List.length_map,List.length_take]; omega⟩) ?_ ?_
  ·rintro i x y T acc H' zs Nx hN hx hy hz' ⟨sm,rfl⟩ hT
   obtain ⟨z1,z2,rfl⟩:=ys2 hz'
   obtain ⟨n1,e1,rfl⟩:=zBq hx
   obtain ⟨n2,e2,rfl⟩:=zBq hy
   have t2:zB H' (upd H' T (.tup [sv n1,sv n2])):=zB.upd1 hT
   refine ⟨T,_,rfl,.of zG,rfl,_,_,rfl,_,_,rfl,rfl,?_⟩
   unfold gF
   dsimp only
   rw [if_pos rfl]
   refine ⟨_,rfl,_,rfl,_,_,rfl,rfl,hN _ _ [_,_] rfl ⟨sm.trans t2,?_⟩⟩
   have ez:(l.zip (l.drop 1))[i]?=some (n1,n2):=by
    rw [List.getElem?_zip_eq_some]; exact ⟨e1,e2⟩
   rw [List.take_succ_eq_append_getElem (List.getElem?_eq_some_iff.mp ez).1,(List.getElem?_eq_some_iff.mp ez).2,List.map_append,List.map_append]
   rfl
  ·rintro acc H' ⟨sm,rfl⟩ D hD
   have e:(l.zip (l.drop 1)).take (l.drop 1).length=l.zip (l.drop 1):=List.take_of_length_le (by rw [List.length_zip]; omega)
   rw [e]
   refine ⟨D,(l.zip (l.drop 1)).map fun p=>decide (p.1 < p.2),rfl,.of zG,?_⟩
   have e3:((l.zip (l.drop 1)).map fun p=>decide (p.1 < p.2)).all id=qC l:=by unfold qC; rw [List.all_map]; rfl
   rw [e3]
   exact k _ ((t1.trans sm).upd_new ((t1.trans sm).free hD))
def zGg:Sp:=fun vs H Q _=>∃ v d,vs=[v]/\zO H d v/\sml d=true/\SeqAt.shaped d=true/\∀ H',zB H H'->Q (.bl (uV d)) H'
abbrev zDc:Stmt:=top 36
theorem zMv:FnScope ["thing"] ["thing"] (defScope zDc):=⟨rfl,rfl,rfl,by decide +kernel,rfl,by decide +kernel,by decide +kernel⟩
theorem zMw {x:Str}:PyData.eqv (.str x) (.str ⟨#[]⟩)=decide (x.length=0):=by
 unfold PyData.eqv
 by_cases h:x.length=0
 ·have:x=⟨#[]⟩:=MyS.Str_ext (by
   have h':x.cps.toList.length=0:=by simpa [Str.length] using h
   rw [List.length_eq_zero_iff.mp h'])
  subst this
  rfl
 ·rw [decide_eq_false h]
  rw [beq_eq_false_iff_ne]
  intro e
  subst e
  exact h rfl
theorem zMx {d:PyData} (h:∀ x,d≠.str x):PyData.eqv d (.str ⟨#[]⟩)=false:=by
 cases d with
 | str x=>exact absurd rfl (h x)
 | _=>rfl
theorem zMy:SeqAt.shaped (.str ⟨#[]⟩)=true:=by decide +kernel
theorem zMz {f:Addr}{fd:FuncData} (F:Fun K "is_edge" "is_edge" zDc f fd) (B:Blt mg) (W:CstW mg) (cN:yH P w K mg base 1 "is_name" ["thing"] zAx):FnOk P w K mg base yF 2 f fd ["thing"] zGg:=by
 obtain ⟨t3,h3⟩:=W.edge
 refine F.ok zMv (fun vs H Q E h=>?_) (fun cdv A outer s H vs Q E hr h=>?_)
 ·obtain ⟨v,d,rfl,_⟩:=h; rfl
 ·obtain ⟨v,d,rfl,hv,hs,hsh,k⟩:=h
  refine ⟨_,zJ (zV (zEK (gT (zCS hr.units) (pv 0) yD (vC _)) (zAF (zBF (zT cN hr rfl (zC (pv 0) zD)) (zAF (gT jK (yC qZ (by rfl) B.len PySem.boot_len (zC (pv 0) zD)) (yX (v:=.int 3) (by rfl) h3 ⟨_,rfl⟩) (vC _))))))),?_⟩
  refine ⟨_,rfl,d,.str ⟨#[]⟩,zO.rep _ _ hv,rfl,hsh,zMy,_,rfl,?_⟩
  rw [show (if false=true then !PyData.eqv d (.str ⟨#[]⟩) else PyData.eqv d (.str ⟨#[]⟩))=PyData.eqv d (.str ⟨#[]⟩) from rfl]
  cases d with
  | str x =>
   rw [zMw]
   by_cases h0:x.length=0
   ·have e:uV (.str x)=true:=by simp [uV,h0]
    rw [e] at k
    exact uK h0 (k H (zB.refl H))
   ·refine uL h0 ?_
    refine ⟨_,rfl,v,_,rfl,hv,hs,fun H' sm=>?_⟩
    cases (show v=.str x from hv)
    refine ⟨_,rfl,?_⟩
    cases hn:yW (.str x) with
    | false =>
     have e:uV (.str x)=false:=by simp [uV,h0,hn]
     rw [e] at k
     exact yU (k H' sm)
    | true =>
     refine z7 ?_
     refine ⟨_,rfl,x,rfl,?_,_,_,rfl,rfl,?_⟩
     ·simp only [sml,Bool.and_eq_true,decide_eq_true_eq] at hs
      rw [sizeLine_eq]; omega
     ·have e:uV (.str x)=decide (x.length<=3):=by simp [uV,h0,hn]
      have e2:decide ((x.length:Int)<=3)=decide (x.length<=3):=decide_eq_decide.mpr (by omega)
      rw [e,<- e2] at k
      exact k H' sm
  | _ =>
   rw [zMx (by intro x; simp)]
   refine yU ⟨_,rfl,v,_,rfl,hv,hs,fun H' sm=>⟨_,rfl,yU (k H' sm)⟩⟩
def zGh:Sp:=fun vs H Q _=>∃ v d,vs=[v]/\zO H d v/\sml d=true/\∀ H',zB H H'->Q (.bl (qD d)) H'
abbrev zDd:Stmt:=top 37
theorem zNA:FnScope ["thing"] ["thing"] (defScope zDd):=⟨rfl,rfl,rfl,by decide +kernel,rfl,by decide +kernel,by decide +kernel⟩
theorem zNB:(["name"]:List Str).Nodup:=by decide +kernel
theorem zDe:∀ {ds:List PyData},(∀ d∈ds,yW d=true)->∃ bk:List S,ds=bk.map (fun x=>PyData.str (tx x))/\∀ x∈bk,vI x
 | [],_=>⟨[],rfl,by simp⟩
 | d::ds,hd=>by
  obtain ⟨x,rfl,hx⟩:=zBj (hd d (List.mem_cons_self ..))
  obtain ⟨bk,rfl,hb⟩:=zDe fun e he=>hd e (List.mem_cons_of_mem _ he)
  refine ⟨x::bk,rfl,fun y hy=>?_⟩
  rcases List.mem_cons.mp hy with z | z
  ·rw [z]; exact hx
  ·exact hb y z
theorem zNC {f:Addr}{fd:FuncData} (F:Fun K "is_barred" "is_barred" zDd f fd) (B:Blt mg) (KF:KitF K) (W:CstW mg) (cN:yH P w K mg base 1 "is_name" ["thing"] zAx) (cR:yH P w K mg base 1 "is_rising" ["things"] zGe):FnOk P w K mg base yF 2 f fd ["thing"] zGh:=by
 obtain ⟨t6,h6⟩:=W.mb
 refine F.ok zNA (fun vs H Q E h=>?_) (fun cdv A outer s H vs Q E hr h=>?_)
 ·obtain ⟨v,d,rfl,_⟩:=h; rfl
 ·obtain ⟨v,d,rfl,hv,hs,k⟩:=h
  refine ⟨_,zI (yQ (PW.pt (qV (vZ (v4 (yC gX (by rfl) B.isinstance PyProof.Rows.boot_isinstance (zC (pv 0) (zC (jR (v:=.ty "tuple") (by rfl) B.tuple PyProof.Rows.boot_tuple rfl) zD)))))
    (qU (vH zBz (yC kP (by rfl) B.len PySem.boot_len (zC (pv 0) zD)) (yX (v:=.int 6) (by rfl) h6 ⟨_,rfl⟩) (vC _)))))
    (zJ (zV vT)) yP)
   (zJ (zV (zBF (yC (zAr rfl) (by rfl) B.all PyProof.Rows.boot_all (zC (qA (N:=["name"]) (caps:=[]) rfl (uT (by kernel_rfl)) (gQ (pv 0))
    (fun cl C s H ex=>yS (i:=0) zNB rfl (Or.inl rfl)) (fun cl C s H ex=>uZ)
    (fun cl C s H ex=>zT cN hr rfl (zC (pv 0) zD))) zD)) (zAF (zT cR hr rfl (zC (pv 0) zD)))))),?_⟩
  obtain ⟨t,b,hty,hkit,hb⟩:=zDN KF hv
  refine ⟨_,rfl,_,_,t,b,rfl,hty,hkit,b,rfl,?_⟩
  cases b with
  | false =>
   have hd:qD d=false:=by
    cases d with
    | tuple x=>exact absurd (hb.mpr ⟨x,rfl⟩) (by decide)
    | _=>rfl
   rw [hd] at k
   exact z7 (z7 (k H (zB.refl H)))
  | true =>
   obtain ⟨ds,rfl⟩:=hb.mp rfl
   obtain ⟨a,xs,rfl,ha,hxs⟩:=hv
   have hsx:ds.length<=900/\smls ds=true:=by
    simp only [sml,Bool.and_eq_true,decide_eq_true_eq] at hs
    exact hs
   have hxl:xs.length=ds.length:=hxs.length.symm
   refine yU ?_
   refine ⟨_,rfl,_,_,rfl,.inr (.of ha),_,_,rfl,rfl,_,rfl,?_⟩
   by_cases h2:ds.length<=6
   ·refine uL (by rw [hxl]; omega) ?_
    refine ⟨_,rfl,a,rfl,⟨_,.of ha⟩,?_⟩
    refine qL (gY _ a xs) [] 1 (by omega) (fun i acc H'=>zB H H'/\acc=((ds.take i).map yW).map V.bl) ⟨zB.refl H,rfl⟩ (fun i acc H' _ h=>⟨.of (h.1 _ _ ha),by rw [h.2,List.length_map,List.length_map,List.length_take]; omega⟩) ?_ ?_
    ·rintro i y acc H' ys Nx hN hx hy ⟨sm,rfl⟩
     obtain ⟨y',rfl⟩:=uP hy
     obtain ⟨e,he,hye⟩:=hxs.get hx
     have hi:i < ds.length:=(List.getElem?_eq_some_iff.mp he).1
     refine ⟨_,rfl,y,e,rfl,zO.same sm _ _ hye,zBi hsx.2 (List.mem_of_getElem? he),fun H5 sm5=>hN _ _ [some y] rfl ⟨sm.trans sm5,?_⟩⟩
     rw [List.take_succ_eq_append_getElem hi,(List.getElem?_eq_some_iff.mp he).2,List.map_append,List.map_append]; rfl
    ·rintro acc H' ⟨sm,rfl⟩ D hD
     rw [hxl,List.take_length]
     refine ⟨D,_,rfl,.of zG,_,rfl,?_⟩
     have sm2:=sm.upd_new (o:=.lst ((ds.map yW).map V.bl)) (sm.free hD)
     have e2:((ds.map yW).all id)=ds.all yW:=by rw [List.all_map]; rfl
     rw [e2]
     cases hn:ds.all yW with
     | false =>
      have e:qD (.tuple ds)=false:=by simp only [qD,hn,Bool.false_and,Bool.and_false]
      rw [e] at k
      exact yU (k _ sm2)
     | true =>
      obtain ⟨bk,rfl,hbk⟩:=zDe (fun d hd=>List.all_eq_true.mp hn d hd)
      have ha2:=sm2 _ _ ha
      rw [Thgs.strs_inv hxs] at ha2
      refine z7 ?_
      rw [List.length_map] at h2
      refine ⟨_,rfl,a,bk,rfl,ha2,by omega,fun H6 sm6=>?_⟩
      have e:qD (.tuple (bk.map fun x=>PyData.str (tx x)))=qC bk:=by
       have e3:(bk.map fun x=>PyData.str (tx x)).map zBn=bk:=by
        rw [List.map_map]
        conv=>rhs; rw [<- List.map_id bk]
        refine List.map_congr_left fun x _=>?_
        show (tx x).cps.toList=x
        rw [v7]
       simp only [qD,hn,e3,List.length_map,decide_eq_true h2,Bool.true_and]
      rw [e] at k
      exact k _ (sm2.trans sm6)
   ·have hd:qD (.tuple ds)=false:=by simp [qD,h2]
    rw [hd] at k
    exact uK (by rw [hxl]; omega) (k H (zB.refl H))
end
end Kn
end
section
namespace Kn
open PySem L2
structure KitB (K:PySem.W.Frag):Prop where
 nb:PySem.W.kitOne K (.type "NoneType") (.type "bool")=some false
 sb:PySem.W.kitOne K (.type "str") (.type "bool")=some false
 lb:PySem.W.kitOne K (.type "list") (.type "bool")=some false
 tb:PySem.W.kitOne K (.type "tuple") (.type "bool")=some false
theorem zGi:∀ {ds:List PyData}{d:PyData},PyData.canLayAll0 ds=true->d∈ds->d.canLay0=true
 | e::ds,d,h,hm=>by
  simp only [PyData.canLayAll0,Bool.and_eq_true] at h
  rcases List.mem_cons.mp hm with z | z
  ·rw [z]; exact h.1
  ·exact zGi h.2 z
theorem zGj:∀ {ds:List PyData}{d:PyData},d∈ds->d.depth<=PyData.depthAll ds
 | e::ds,d,hm=>by
  simp only [PyData.depthAll]
  rcases List.mem_cons.mp hm with z | z
  ·rw [z]; omega
  ·have:=zGj z; omega
theorem zND {ds:List PyData}{d:PyData} (h:SeqAt.shaped (.tuple ds)=true) (hm:d∈ds):SeqAt.shaped d=true:=by
 have h0:=SeqAt.canLay_of_shaped h
 have h3:=SeqAt.depth_of_shaped h
 have h4:(PyData.tuple ds).depth=PyData.depthAll ds+1:=by simp only [PyData.depth]
 have h1:=zGi (show PyData.canLayAll0 ds=true by simpa only [PyData.canLay0] using h0) hm
 have h2:=zGj hm
 rw [h4] at h3
 unfold SeqAt.shaped
 rw [h1,decide_eq_true (show d.depth<=64 by omega)]; rfl
section
variable {P:Program}{w:World}{K:PySem.W.Frag}{mg:Str->Option Value}{base:Heap}
theorem zNE (KB:KitB K) (C:Cst K mg) {H:Hp}:∀ {d:PyData}{v:V},zO H d v->∃ t,TyOf K H v t/\PySem.W.kitOne K t (.type "bool")=some (zBo d)
 | .none,v,h=>by cases (show v=.non from h); exact ⟨_,.non,KB.nb⟩
 | .bool b,v,h=>by cases (show v=.bl b from h); exact ⟨_,.bl _,rfl⟩
 | .int i,v,h=>by cases (show v=.int i from h); exact ⟨_,.int _,C.ib⟩
 | .str x,v,h=>by cases (show v=.str x from h); exact ⟨_,.str _,KB.sb⟩
 | .list ds,v,h=>by obtain ⟨a,xs,rfl,h1,_⟩:=h; exact ⟨_,.lst h1,KB.lb⟩
 | .tuple ds,v,h=>by obtain ⟨a,xs,rfl,h1,_⟩:=h; exact ⟨_,.tup h1,KB.tb⟩
 | .dict _,v,h=>h.elim
def zGk:Sp:=fun vs H Q _=>∃ v d,vs=[v]/\zO H d v/\sml d=true/\SeqAt.shaped d=true/\∀ H',zB H H'->Q (.bl (vM d)) H'
abbrev zDf:Stmt:=top 38
theorem zNF:FnScope ["thing"] ["thing"] (defScope zDf):=⟨rfl,rfl,rfl,by decide +kernel,rfl,by decide +kernel,by decide +kernel⟩
theorem zDg {ds:List PyData} (h:ds.length≠6):vM (.tuple ds)=false:=by
 match ds,h with
 | [],_=>rfl
 | [_],_=>rfl
 | [_,_],_=>rfl
 | [_,_,_],_=>rfl
 | [_,_,_,_],_=>rfl
 | [_,_,_,_,_],_=>rfl
 | [_,_,_,_,_,_],h=>exact absurd rfl h
 | _::_::_::_::_::_::_::_,_=>rfl
theorem six {α:Type}{l:List α} (h:l.length=6):∃ a b c d e f,l=[a,b,c,d,e,f]:=by
 match l,h with
 | [a,b,c,d,e,f],_=>exact ⟨a,b,c,d,e,f,rfl⟩
theorem zBr {a b:Int}{d:PyData} (h:vQ a b d=true):∃ i,d=.int i/\a<=i/\i<=b:=by
 cases d with
 | int i=>simp only [vQ,Bool.and_eq_true,decide_eq_true_eq] at h; exact ⟨i,rfl,h⟩
 | _=>cases h
theorem zNG {f:Addr}{fd:FuncData} (F:Fun K "is_wish" "is_wish" zDf f fd) (B:Blt mg) (C:Cst K mg) (KF:KitF K) (KB:KitB K) (W:CstW mg) (cW:yH P w K mg base 1 "is_whole" ["thing", "least", "most"] zBk) (cE:yH P w K mg base 2 "is_edge" ["thing"] zGg) (cB:yH P w K mg base 2 "is_barred" ["thing"] zGh):FnOk P w K mg base yF 3 f fd ["thing"] zGk:=by
 obtain ⟨u0,h0⟩:=W.least
 obtain ⟨u1,h1⟩:=W.most
 obtain ⟨u2,h2⟩:=W.head
 obtain ⟨u3,h3⟩:=W.tail
 obtain ⟨u4,h4⟩:=W.barred
 obtain ⟨u5,h5⟩:=W.told
 obtain ⟨u6,h6⟩:=W.parts
 obtain ⟨u8,h8⟩:=C.ml
 refine F.ok zNF (fun vs H Q E h=>?_) (fun cdv A outer s H vs Q E hr h=>?_)
 ·obtain ⟨v,d,rfl,_⟩:=h; rfl
 ·obtain ⟨v,d,rfl,hv,hs,hsh,k⟩:=h
  have r1:=hr.mono (j:=1) (by decide)
  refine ⟨_,zI (yQ (PW.pt (qV (vZ (v4 (yC gX (by rfl) B.isinstance PyProof.Rows.boot_isinstance (zC (pv 0) (zC (jR (v:=.ty "tuple") (by rfl) B.tuple PyProof.Rows.boot_tuple rfl) zD)))))
    (qU (vH zAi (yC kP (by rfl) B.len PySem.boot_len (zC (pv 0) zD)) (yX (v:=.int 6) (by rfl) h6 ⟨_,rfl⟩) (vC _)))))
    (zJ (zV vT)) yP)
   (zI (yQ (PW.pt (qV (vZ (v4 (zT cW r1 rfl (zC (yK vA (pv 0) (yX (v:=.int 0) (by rfl) h0 ⟨_,rfl⟩) (fun _ _=>rfl)) (zC zH (zC (yX (v:=.int 8) (by rfl) h8 ⟨_,rfl⟩) zD))))))
     (qU (vZ (v4 (zT cW r1 rfl (zC (yK vA (pv 0) (yX (v:=.int 1) (by rfl) h1 ⟨_,rfl⟩) (fun _ _=>rfl)) (zC (yK vA (pv 0) (yX (v:=.int 0) (by rfl) h0 ⟨_,rfl⟩) (fun _ _=>rfl)) (zC (yX (v:=.int 8) (by rfl) h8 ⟨_,rfl⟩) zD)))))))))
    (zJ (zV vT)) yP)
   (zI (yQ (PW.pt (qV (vZ (v4 (zT cE hr rfl (zC (yK vA (pv 0) (yX (v:=.int 2) (by rfl) h2 ⟨_,rfl⟩) (fun _ _=>rfl)) zD))))
     (qU (vZ (v4 (zT cE hr rfl (zC (yK vA (pv 0) (yX (v:=.int 3) (by rfl) h3 ⟨_,rfl⟩) (fun _ _=>rfl)) zD)))))))
    (zJ (zV vT)) yP)
   (zJ (zV (zBF (zT cB hr rfl (zC (yK vA (pv 0) (yX (v:=.int 4) (by rfl) h4 ⟨_,rfl⟩) (fun _ _=>rfl)) zD))
    (zAF (yC gX (by rfl) B.isinstance PyProof.Rows.boot_isinstance (zC (yK vA (pv 0) (yX (v:=.int 5) (by rfl) h5 ⟨_,rfl⟩) (fun _ _=>rfl)) (zC (jR (v:=.ty "bool") (by rfl) B.bool PyProof.Rows.boot_bool rfl) zD))))))))),?_⟩
  obtain ⟨t,b,hty,hkit,hb⟩:=zDN KF hv
  refine ⟨_,rfl,_,_,t,b,rfl,hty,hkit,b,rfl,?_⟩
  cases b with
  | false =>
   have hd:vM d=false:=by
    cases d with
    | tuple x=>exact absurd (hb.mpr ⟨x,rfl⟩) (by decide)
    | _=>rfl
   rw [hd] at k
   exact z7 (z7 (k H (zB.refl H)))
  | true =>
   obtain ⟨ds,rfl⟩:=hb.mp rfl
   obtain ⟨a,xs,rfl,ha,hxs⟩:=hv
   have hsx:ds.length<=900/\smls ds=true:=by
    simp only [sml,Bool.and_eq_true,decide_eq_true_eq] at hs
    exact hs
   have hxl:xs.length=ds.length:=hxs.length.symm
   refine yU ?_
   refine ⟨_,rfl,_,_,rfl,.inr (.of ha),rfl,_,rfl,?_⟩
   by_cases hl:ds.length=6
   ·refine jC (by rw [hxl,hl]; rfl) ?_
    obtain ⟨a0,a1,a2,a3,a4,a5,rfl⟩:=six hl
    obtain ⟨y0,ys0,rfl,q0,hxs⟩:=hxs
    obtain ⟨y1,uP,rfl,q1,hxs⟩:=hxs
    obtain ⟨y2,ys2,rfl,q2,hxs⟩:=hxs
    obtain ⟨y3,ys3,rfl,q3,hxs⟩:=hxs
    obtain ⟨y4,ys4,rfl,q4,hxs⟩:=hxs
    obtain ⟨y5,ys5,rfl,q5,hxs⟩:=hxs
    cases (show ys5=[] from hxs)
    have sm_:∀ d∈[a0,a1,a2,a3,a4,a5],sml d=true:=fun d hd=>zBi hsx.2 hd
    have sh_:∀ d∈[a0,a1,a2,a3,a4,a5],SeqAt.shaped d=true:=fun d hd=>zND hsh hd
    refine ⟨_,rfl,a,_,0,y0,rfl,rfl,.of ha,rfl,y0,a0,1,8,rfl,q0,_,rfl,?_⟩
    cases e0:vQ 1 8 a0 with
    | false =>
     have e:vM (.tuple [a0,a1,a2,a3,a4,a5])=false:=by simp only [vM,e0,Bool.false_and]
     rw [e] at k
     exact z7 (z7 (k H (zB.refl H)))
    | true =>
    obtain ⟨i0,rfl,l0,l1⟩:=zBr e0
    cases (show y0=.int i0 from q0)
    refine yU ?_
    refine ⟨_,rfl,a,_,1,y1,rfl,rfl,.of ha,rfl,_,rfl,a,_,0,.int i0,rfl,rfl,.of ha,rfl,y1,a1,i0,8,rfl,q1,_,rfl,?_⟩
    cases e1:vQ i0 8 a1 with
    | false =>
     have e:vM (.tuple [.int i0,a1,a2,a3,a4,a5])=false:=by simp only [vM,zBp,e1,Bool.false_and,Bool.and_false]
     rw [e] at k
     exact z7 (k H (zB.refl H))
    | true =>
    refine yU ?_
    refine ⟨_,rfl,a,_,2,y2,rfl,rfl,.of ha,rfl,y2,a2,rfl,q2,sm_ a2 (by simp),sh_ a2 (by simp),fun H1 s1=>⟨_,rfl,?_⟩⟩
    cases e2:uV a2 with
    | false =>
     have e:vM (.tuple [.int i0,a1,a2,a3,a4,a5])=false:=by simp only [vM,e2,Bool.false_and,Bool.and_false]
     rw [e] at k
     exact z7 (z7 (k H1 s1))
    | true =>
    refine yU ?_
    refine ⟨_,rfl,a,_,3,y3,rfl,rfl,.of (s1 _ _ ha),rfl,y3,a3,rfl,zO.same s1 _ _ q3,sm_ a3 (by simp),sh_ a3 (by simp),fun H2 s2=>⟨_,rfl,?_⟩⟩
    have s12:=s1.trans s2
    cases e3:uV a3 with
    | false =>
     have e:vM (.tuple [.int i0,a1,a2,a3,a4,a5])=false:=by simp only [vM,e3,Bool.false_and,Bool.and_false]
     rw [e] at k
     exact z7 (k H2 s12)
    | true =>
    refine yU ?_
    refine ⟨_,rfl,a,_,4,y4,rfl,rfl,.of (s12 _ _ ha),rfl,y4,a4,rfl,zO.same s12 _ _ q4,sm_ a4 (by simp),fun H3 s3=>⟨_,rfl,?_⟩⟩
    have s13:=s12.trans s3
    cases e4:qD a4 with
    | false =>
     have e:vM (.tuple [.int i0,a1,a2,a3,a4,a5])=false:=by simp only [vM,e4,Bool.false_and,Bool.and_false]
     rw [e] at k
     exact yU (k H3 s13)
    | true =>
    refine z7 ?_
    obtain ⟨t5,ht5,hk5⟩:=zNE KB C (zO.same s13 _ _ q5)
    refine ⟨_,rfl,a,_,5,y5,rfl,rfl,.of (s13 _ _ ha),rfl,_,_,t5,_,rfl,ht5,hk5,?_⟩
    have e:vM (.tuple [.int i0,a1,a2,a3,a4,a5])=zBo a5:=by simp only [vM,zBp,e0,e1,e2,e3,e4,Bool.true_and]
    rw [e] at k
    exact k H3 s13
   ·have e:vM (.tuple ds)=false:=zDg hl
    rw [e] at k
    refine jO ?_ (k H (zB.refl H))
    intro z
    injection z with z
    rw [hxl] at z
    omega
end
end Kn
end
section
namespace Kn
open PySem L2
def kA (lo hi:Int) (hd tl:S) (ba:List S) (to:Bool):PyData:=.tuple [.int lo,.int hi,.str (tx hd),.str (tx tl),.tuple (ba.map fun x=>PyData.str (tx x)),.bool to]
structure GW (lo hi:Int) (hd tl:S) (ba:List S):Prop where
 glo:1<=lo
 gle:lo<=hi
 ghi:hi<=8
 ghd:hd=[]\/(vI hd/\hd.length<=3)
 gtl:tl=[]\/(vI tl/\tl.length<=3)
 len:ba.length<=6
 nm:∀ x∈ba,vI x
 ris:qC ba=true
theorem zGl {d:PyData} (h:uV d=true):∃ x:S,d=.str (tx x)/\(x=[]\/(vI x/\x.length<=3)):=by
 cases d with
 | str x =>
  simp only [uV,Bool.or_eq_true,Bool.and_eq_true,decide_eq_true_eq] at h
  rcases h with h | ⟨h,h2⟩
  ·refine ⟨[],?_,.inl rfl⟩
   congr 1
   refine MyS.Str_ext ?_
   have h':x.cps.toList.length=0:=by simpa [Str.length] using h
   rw [List.length_eq_zero_iff.mp h']
  ·obtain ⟨y,e,hy⟩:=zBj h
   injection e with e
   subst e
   exact ⟨y,rfl,.inr ⟨hy,by rw [zY] at h2; exact h2⟩⟩
 | _=>cases h
theorem zNH {d:PyData} (h:qD d=true):∃ ba:List S,d=.tuple (ba.map fun x=>PyData.str (tx x))/\ba.length<=6/\(∀ x∈ba,vI x)/\qC ba=true:=by
 cases d with
 | tuple ds =>
  simp only [qD,Bool.and_eq_true,decide_eq_true_eq] at h
  obtain ⟨h1,h2,h3⟩:=h
  obtain ⟨bk,rfl,hb⟩:=zDe (fun d hd=>List.all_eq_true.mp h2 d hd)
  have e3:(bk.map fun x=>PyData.str (tx x)).map zBn=bk:=by
   rw [List.map_map]
   conv=>rhs; rw [<- List.map_id bk]
   refine List.map_congr_left fun x _=>?_
   show (tx x).cps.toList=x
   rw [v7]
  rw [e3] at h3
  rw [List.length_map] at h1
  exact ⟨bk,rfl,h1,hb,h3⟩
 | _=>cases h
theorem zNI {d:PyData} (h:vM d=true):∃ lo hi hd tl ba to,d=kA lo hi hd tl ba to/\GW lo hi hd tl ba:=by
 cases d with
 | tuple ds =>
  by_cases hl:ds.length=6
  ·obtain ⟨a0,a1,a2,a3,a4,a5,rfl⟩:=six hl
   simp only [vM,Bool.and_eq_true] at h
   obtain ⟨⟨h0,h1⟩,⟨h2,h3⟩,h4,h5⟩:=h
   obtain ⟨i0,rfl,l0,l1⟩:=zBr h0
   obtain ⟨i1,rfl,l2,l3⟩:=zBr h1
   obtain ⟨x2,rfl,e2⟩:=zGl h2
   obtain ⟨x3,rfl,e3⟩:=zGl h3
   obtain ⟨ba,rfl,b1,b2,b3⟩:=zNH h4
   cases a5 with
   | bool b=>exact ⟨i0,i1,x2,x3,ba,b,rfl,⟨l0,l2,l3,e2,e3,b1,b2,b3⟩⟩
   | _=>cases h5
  ·rw [zDg hl] at h; cases h
 | _=>cases h
def qS (H:Hp) (a:Addr) (lo hi:Int) (hd tl:S) (ba:List S) (to:Bool):Prop:=∃ b,H a=some (.tup [.int lo,.int hi,sv hd,sv tl,.ref b,.bl to])/\H b=some (.tup (zM ba))
theorem qS.same {H H':Hp}{a:Addr}{lo hi:Int}{hd tl:S}{ba:List S}{to:Bool} (h:qS H a lo hi hd tl ba to) (e:zB H H'):qS H' a lo hi hd tl ba to :=
 let ⟨b,h1,h2⟩:=h; ⟨b,e _ _ h1,e _ _ h2⟩
theorem zNJ {H:Hp}{v:V}{lo hi:Int}{hd tl:S}{ba:List S}{to:Bool} (h:zO H (kA lo hi hd tl ba to) v):∃ a,v=.ref a/\qS H a lo hi hd tl ba to:=by
 obtain ⟨a,xs,rfl,h1,h2⟩:=h
 obtain ⟨y0,ys0,rfl,q0,h2⟩:=h2
 obtain ⟨y1,uP,rfl,q1,h2⟩:=h2
 obtain ⟨y2,ys2,rfl,q2,h2⟩:=h2
 obtain ⟨y3,ys3,rfl,q3,h2⟩:=h2
 obtain ⟨y4,ys4,rfl,q4,h2⟩:=h2
 obtain ⟨y5,ys5,rfl,q5,h2⟩:=h2
 cases (show ys5=[] from h2)
 cases (show y0=.int lo from q0)
 cases (show y1=.int hi from q1)
 cases (show y2=.str (tx hd) from q2)
 cases (show y3=.str (tx tl) from q3)
 cases (show y5=.bl to from q5)
 obtain ⟨b,xs4,rfl,h4,h5⟩:=q4
 rw [Thgs.strs_inv h5] at h4
 exact ⟨a,rfl,b,h1,h4⟩
def uG (lo hi:Int) (hd tl x:S):Bool:=(decide (lo<=(x.length:Int)) && decide ((x.length:Int)<=hi)) && (Txt.startswith (tx x) (tx hd) && Txt.endswith (tx x) (tx tl))
def zAB (bk ba:List S) (to:Bool) (x:S):Bool:=decide (x∈ba) || (!to && decide (x∈bk))
def vG (bk:List S) (lo hi:Int) (hd tl:S) (ba:List S) (to:Bool) (x:S):Bool:=uG lo hi hd tl x && !zAB bk ba to x
theorem zNK {X:Cx}:MtR X "str.startswith" (fun x vs H Q=>∃ a b:Str,x=.str a/\vs=[.str b]/\Q (.bl (Txt.startswith a b)) H):=by
 intro pins s σ H x vs v us Q I rx rv h
 obtain ⟨a,b,rfl,rfl,q⟩:=h
 obtain ⟨t,rfl⟩:=rx
 obtain ⟨u,rfl,ru⟩:=qJ rv
 obtain ⟨t',rfl⟩:=ru
 exact SC.startswith ⟨.bl _,H,I,rfl,q⟩
theorem zBs (x:S) (l:List S):inV (sv x) (zM l)=decide (x∈l):=by
 unfold inV zM
 rw [List.any_map]
 induction l with
 | nil=>simp
 | cons y l ih =>
  rw [List.any_cons,ih]
  have e:jU (sv y) (sv x)=decide (x=y):=by
   show ((tx y) == (tx x))=_
   by_cases z:x=y
   ·subst z; simp
   ·rw [decide_eq_false z,beq_eq_false_iff_ne]
    exact fun q=>z (jH q).symm
  show (jU (sv y) (sv x) || _)=_
  rw [e]
  by_cases z:x=y
  ·subst z; simp
  ·simp [z]
theorem zBt (l:List S):(zM l).all kO=true:=by
 unfold zM
 rw [List.all_map]
 exact List.all_eq_true.mpr fun _ _=>rfl
section
variable {P:Program}{w:World}{K:PySem.W.Frag}{mg:Str->Option Value}{base:Heap}
abbrev zDh:Stmt:=top 39
theorem zNL:FnScope ["thing"] ["thing"] (defScope zDh):=⟨rfl,rfl,rfl,by decide +kernel,rfl,by decide +kernel,by decide +kernel⟩
def zGm (C:Addr):Sp:=fun vs H Q E=>∃ v d,vs=[v]/\zO H d v/\sml d=true/\SeqAt.shaped d=true/\(vM d=true->∀ H',zB H H'->Q .non H')/\(vM d=false->∀ H',zB H H'->E (.ref C) none H')
theorem zNM {f:Addr}{fd:FuncData}{C:Addr} (F:Fun K "need_wish" "need_wish" zDh f fd) (O:XCls K mg "NoWish" C) (c1:yH P w K mg base 3 "is_wish" ["thing"] zGk):FnOk P w K mg base (v8 P w) 4 f fd ["thing"] (zGm C):=by
 refine F.okR zNL (fun vs H Q E h=>?_) (fun cdv A outer s H vs Q E hr h ok=>?_)
 ·obtain ⟨v,d,rfl,_⟩:=h; rfl
 ·obtain ⟨v,d,rfl,hv,hs,hsh,k1,k2⟩:=h
  refine ⟨_,zJ (yQ (vZ (v4 (zT c1 hr rfl (zC (pv 0) zD)))) (zJ (g8 ok rfl O (by rfl) (zC yD zD))) yP),?_⟩
  refine ⟨_,rfl,v,d,rfl,hv,hs,hsh,fun H' sm=>⟨_,rfl,?_⟩⟩
  cases e:vM d with
  | true=>exact yU (k1 e H' sm)
  | false=>exact z7 ⟨by show 1<=sizeLine; decide,k2 e H' sm⟩
def zGn:Sp:=fun vs H Q _=>∃ (a:Addr) (lo hi:Int) (hd tl:S) (ba:List S) (to:Bool) (x:S),vs=[.ref a,sv x]/\qS H a lo hi hd tl ba to/\x.length<=900/\Q (.bl (uG lo hi hd tl x)) H
abbrev zDi:Stmt:=top 40
theorem zNN:FnScope ["wish", "name"] ["wish", "name"] (defScope zDi):=⟨rfl,rfl,rfl,by decide +kernel,rfl,by decide +kernel,by decide +kernel⟩
theorem zNO {f:Addr}{fd:FuncData} (F:Fun K "has_form" "has_form" zDi f fd) (B:Blt mg) (W:CstW mg):FnOk P w K mg base yF 1 f fd ["wish", "name"] zGn:=by
 obtain ⟨u0,h0⟩:=W.least
 obtain ⟨u1,h1⟩:=W.most
 obtain ⟨u2,h2⟩:=W.head
 obtain ⟨u3,h3⟩:=W.tail
 refine F.ok zNN (fun vs H Q E h=>?_) (fun cdv A outer s H vs Q E hr h=>?_)
 ·obtain ⟨a,lo,hi,hd,tl,ba,to,x,rfl,_⟩:=h; rfl
 ·obtain ⟨a,lo,hi,hd,tl,ba,to,x,rfl,⟨b,ha,hb⟩,hx,k⟩:=h
  refine ⟨_,zI (yQ (vZ (zBK jK jK (yK vA (pv 0) (yX (v:=.int 0) (by rfl) h0 ⟨_,rfl⟩) (fun _ _=>rfl)) (yC qZ (by rfl) B.len PySem.boot_len (zC (pv 1) zD)) (yK vA (pv 0) (yX (v:=.int 1) (by rfl) h1 ⟨_,rfl⟩) (fun _ _=>rfl))))
    (zJ (zV vT)) yP)
   (zJ (zV (zBF (jM PySem.F.plainAttrs_str PySem.F.slot_str_startswith PySem.F.type_str_startswith zNK (pv 1) (zC (yK vA (pv 0) (yX (v:=.int 2) (by rfl) h2 ⟨_,rfl⟩) (fun _ _=>rfl)) zD))
    (zAF (jM PySem.F.plainAttrs_str PySem.F.slot_str_endswith PySem.F.type_str_endswith zKA (pv 1) (zC (yK vA (pv 0) (yX (v:=.int 3) (by rfl) h3 ⟨_,rfl⟩) (fun _ _=>rfl)) zD)))))),?_⟩
  refine ⟨_,rfl,a,_,0,.int lo,rfl,rfl,.of ha,rfl,_,rfl,tx x,rfl,by rw [zY,sizeLine_eq]; omega,_,_,rfl,rfl,_,rfl,?_⟩
  by_cases hl:lo<=(x.length:Int)
  ·refine uK (by rw [zY]; exact hl) ⟨_,rfl,a,_,1,.int hi,rfl,rfl,.of ha,rfl,_,_,rfl,rfl,_,rfl,?_⟩
   by_cases hh:(x.length:Int)<=hi
   ·refine jC (by rw [zY]; exact hh) ?_
    refine ⟨_,rfl,rfl,_,rfl,a,_,2,sv hd,rfl,rfl,.of ha,rfl,_,_,rfl,rfl,_,rfl,?_⟩
    cases e1:Txt.startswith (tx x) (tx hd) with
    | false =>
     have e:uG lo hi hd tl x=false:=by simp only [uG,e1,Bool.false_and,Bool.and_false]
     rw [e] at k
     exact yU k
    | true =>
     refine z7 ⟨_,rfl,rfl,_,rfl,a,_,3,sv tl,rfl,rfl,.of ha,rfl,_,_,rfl,rfl,?_⟩
     have e:uG lo hi hd tl x=Txt.endswith (tx x) (tx tl):=by simp only [uG,e1,decide_eq_true hl,decide_eq_true hh,Bool.true_and]
     rw [e] at k
     exact k
   ·have e:uG lo hi hd tl x=false:=by simp only [uG,decide_eq_false hh,Bool.false_and,Bool.and_false]
    rw [e] at k
    exact jO (by rw [zY]; exact hh) k
  ·have e:uG lo hi hd tl x=false:=by simp only [uG,decide_eq_false hl,Bool.false_and]
   rw [e] at k
   exact uL (by rw [zY]; exact hl) ⟨_,rfl,z7 k⟩
def zGo:Sp:=fun vs H Q _=>∃ (c a:Addr) (bk:List S) (lo hi:Int) (hd tl:S) (ba:List S) (to:Bool),vs=[.ref c,.ref a]/\H c=some (.tup (zM bk))/\bk.length<=8/\qS H a lo hi hd tl ba to/\ba.length<=6 /\
 ∀ (l:Addr) (out:List S) (H':Hp),zB H H'->H' l=some (.lst (zM out))->(∀ x,decide (x∈out)=zAB bk ba to x)->Q (.ref l) H'
abbrev zDj:Stmt:=top 41
theorem zNP:FnScope ["book", "wish"] ["book", "wish"] (defScope zDj):=⟨rfl,rfl,rfl,by decide +kernel,rfl,by decide +kernel,by decide +kernel⟩
theorem zNQ (l:List S):zM l=(l.map tx).map V.str:=by
 unfold zM
 rw [List.map_map]; rfl
theorem zNR {f:Addr}{fd:FuncData} (F:Fun K "left_out" "left_out" zDj f fd) (B:Blt mg) (W:CstW mg) (hli:mg "list" = none) (hse:mg "set" = none):FnOk P w K mg base yF 1 f fd ["book", "wish"] zGo:=by
 obtain ⟨u4,h4⟩:=W.barred
 obtain ⟨u5,h5⟩:=W.told
 refine F.ok zNP (fun vs H Q E h=>?_) (fun cdv A outer s H vs Q E hr h=>?_)
 ·obtain ⟨c,a,bk,lo,hi,hd,tl,ba,to,rfl,_⟩:=h; rfl
 ·obtain ⟨c,a,bk,lo,hi,hd,tl,ba,to,rfl,hc,h8,⟨b,ha,hb⟩,h6,k⟩:=h
  refine ⟨_,zI (yQ (v4 (yK vA (pv 1) (yX (v:=.int 5) (by rfl) h5 ⟨_,rfl⟩) (fun _ _=>rfl)))
    (zJ (zV (zBM zEt (by rfl) hli PyProof.Rows.boot_list (zC (yK vA (pv 1) (yX (v:=.int 4) (by rfl) h4 ⟨_,rfl⟩) (fun _ _=>rfl)) zD)))) yP)
   (zJ (zV (zMh rfl (zP zMq (yK vA (pv 1) (yX (v:=.int 4) (by rfl) h4 ⟨_,rfl⟩) (fun _ _=>rfl)) (pv 0)) (by rfl) B.sorted PyProof.Rows.boot_sorted (by rfl) hse (by decide +kernel)))),?_⟩
  refine ⟨_,rfl,a,_,5,.bl to,rfl,rfl,.of ha,rfl,_,rfl,?_⟩
  cases to with
  | true =>
   refine z7 ?_
   refine ⟨_,rfl,a,_,4,.ref b,rfl,rfl,.of ha,rfl,b,_,rfl,.inr (.of hb),fun l hl=>?_⟩
   refine k l ba _ (zB.upd1 hl) zG fun x=>?_
   unfold zAB; simp
  | false =>
   refine yU ?_
   refine ⟨_,rfl,a,_,4,.ref b,rfl,rfl,.of ha,rfl,_,rfl,?_⟩
   have bl:∀ l:List S,(zM l).length=l.length:=fun l=>by unfold zM; rw [List.length_map]
   refine ⟨b,c,_,_,rfl,rfl,hb,hc,by rw [bl,bl,sizeLine_eq]; omega,fun p H1 s1 hp=>?_⟩
   have ep:zM ba++zM bk=((ba++bk).map tx).map V.str:=by rw [<- zNQ]; unfold zM; rw [List.map_append]
   rw [ep] at hp
   refine ⟨p,(ba++bk).map tx,rfl,.of hp,by rw [List.length_map,List.length_append]; omega,fun out l hmem hsrt hl=>?_⟩
   have eo:out.map V.str=zM (out.map fun x=>x.cps.toList):=by
    unfold zM
    rw [List.map_map]
    refine List.map_congr_left fun x _=>?_
    show V.str x=V.str (tx x.cps.toList)
    rw [zCr]
   rw [eo]
   refine k l _ _ (s1.upd_new (s1.free hl)) zG fun x=>?_
   have e1:x∈(out.map fun x=>x.cps.toList)↔x∈ba\/x∈bk:=by
    rw [List.mem_map]
    constructor
    ·rintro ⟨y,hy,rfl⟩
     obtain ⟨z,hz,e⟩:=List.mem_map.mp ((hmem y).mp hy)
     have:z=y.cps.toList:=by rw [<- e,v7]
     rw [<- this]
     exact List.mem_append.mp hz
    ·intro h
     refine ⟨tx x,(hmem _).mpr (List.mem_map.mpr ⟨x,List.mem_append.mpr h,rfl⟩),v7 x⟩
   unfold zAB
   have e2:decide (x∈(out.map fun x=>x.cps.toList))=(decide (x∈ba) || decide (x∈bk)):=by
    rw [Bool.eq_iff_iff,Bool.or_eq_true,decide_eq_true_eq,decide_eq_true_eq,decide_eq_true_eq]
    exact e1
   rw [e2]
   rfl
end
end Kn
end
section
namespace L2
open PySem PySem.Spec PyProof.Rows
section
variable {X:Cx}{pins:List (Addr × Obj)}{σ:St}{H:Hp}{s:Shared}{A:Around}{E:Value->Shared->Prop}{Q:Value->Shared->Prop}{b:Bool}
theorem zNS {x:V}{u t:Value}{tp:Addr}{dd:Option Addr}{its:List Value}{n:Nat}{sl:Array (Option Value)} (I:Inv X pins σ H s) (rx:zQ x u) (ty:TyOf X.K H x t) (htp:s.heap.get? tp=some ⟨.type "tuple",dd,.seq its.toArray n,sl⟩) (e:PySem.W.kitAny X.K t its=some b) (h:∀ tk,Q (.bool b) { s with toks:=tk }) :
  wpAny (model X.prog X.w) A (call (.builtin "isinstance") [u,.ref tp]) Q E s:=by
 cases ty with
 | non=>cases (show u=Value.none from rx); exact PySem.W.kia_tup PySem.W.kitx_none I.kIn True.intro htp e (fun z=>nomatch z) h
 | bl y=>cases (show u=Value.bool y from rx); exact PySem.W.kia_tup PySem.W.kitx_bool I.kIn True.intro htp e (fun z=>nomatch z) h
 | int i=>obtain ⟨t,q⟩:=(show ∃ t,u=Value.int i t from rx); cases q; exact PySem.W.kia_tup PySem.W.kitx_int I.kIn True.intro htp e (fun z=>nomatch z) h
 | str y=>obtain ⟨t,q⟩:=(show ∃ t,u=Value.str y t from rx); cases q; exact PySem.W.kia_tup PySem.W.kitx_str I.kIn True.intro htp e (fun z=>nomatch z) h
 | flt y=>obtain ⟨t,q⟩:=(show ∃ t,u=Value.float y t from rx); cases q; exact PySem.W.kia_tup PySem.W.kitx_float I.kIn True.intro htp e (fun z=>nomatch z) h
 | @lst a xs ea =>
  cases (show u=Value.ref a from rx)
  obtain ⟨_,_,n,_,h1⟩:=(show yM X.prog X.w H s.heap a (.lst xs) from I.hok a _ ea)
  exact PySem.W.kia_tup PySem.W.kitx_list I.kIn ⟨_,h1,rfl⟩ htp e (fun z=>nomatch z) h
 | @frz a ob xs ea =>
  cases (show u=Value.ref a from rx)
  obtain ⟨_,_,_,n,_,h1⟩:=(show yM X.prog X.w H s.heap a (.frz ob (.lst xs)) from I.hok a _ ea)
  exact PySem.W.kia_tup PySem.W.kitx_list I.kIn ⟨_,h1,rfl⟩ htp e (fun z=>nomatch z) h
 | @tup a xs ea =>
  cases (show u=Value.ref a from rx)
  obtain ⟨_,_,_,p⟩:=(show yM X.prog X.w H s.heap a (.tup xs) from I.hok a _ ea)
  obtain ⟨o,h1,h2,_⟩:=p
  exact PySem.W.kia_tup PySem.W.kitx_tuple I.kIn ⟨o,h1,h2⟩ htp e (fun z=>nomatch z) h
 | @dK a kvs ea =>
  cases (show u=Value.ref a from rx)
  obtain ⟨_,_,vs,_,p⟩:=(show yM X.prog X.w H s.heap a (.dK kvs) from I.hok a _ ea)
  obtain ⟨o,es,ep,h1,h2,_⟩:=p
  exact PySem.W.kia_tup PySem.W.kitx_dict I.kIn ⟨o,h1,h2.1⟩ htp e (fun z=>nomatch z) h
 | @dT a kvs ea =>
  cases (show u=Value.ref a from rx)
  obtain ⟨_,_,xs,_,o,es,ep,h1,h2,_⟩:=(show yM X.prog X.w H s.heap a (.dT kvs) from I.hok a _ ea)
  exact PySem.W.kia_tup PySem.W.kitx_dict I.kIn ⟨o,h1,h2.1⟩ htp e (fun z=>nomatch z) h
 | @ins a C dx fs ea cl ha hn htk hm =>
  cases (show u=Value.ref a from rx)
  obtain ⟨mA,O,_⟩:=zEc I.hok ea
  obtain ⟨od,J,_⟩:=O.look
  exact PySem.W.kia_tup (PySem.W.kitx_own (cl.get _) cl.hd ha hn htk hm) I.kIn J htp e (fun z=>nomatch z) h
theorem zNT:uO X (.builtin "isinstance") (fun xs H Q=>∃ x tp c d t b,xs=[x,.ref tp]/\H tp=some (.tup [.ty c,.ty d])/\TyOf X.K H x t/\PySem.W.kitAny X.K t [.type c,.type d]=some b/\Q (.bl b) H):=by
 intro pins s σ H xs us Q I r h
 obtain ⟨x,tp,c,d,t,b,rfl,hH,ty,e,q⟩:=h
 obtain ⟨u,w',rfl,rx,rc⟩:=gB r
 cases rc
 obtain ⟨_,its,rv,p⟩:=(show yM X.prog X.w H s.heap tp (.tup [.ty c,.ty d]) from I.hok tp _ hH)
 obtain ⟨y,z,e2,ry,rz⟩:=gB rv
 subst e2
 cases (show y=Value.type c from ry)
 cases (show z=Value.type d from rz)
 obtain ⟨⟨oc,od,odt,os⟩,h1,h2,n,h3⟩:=p
 simp only at h2 h3
 subst h2 h3
 exact zNS I rx ty h1 e fun tk=>⟨.bl b,H,I.tok tk,rfl,q⟩
end
end L2
end
section
namespace L2
open PySem PySem.Spec PyProof.Rows
section
variable {X:Cx}{pins:List (Addr × Obj)}{σ:St}{H:Hp}{s:Shared}{e:Addr}
end
end L2
end
section
namespace Kn.Dr
open PySem L2 Kn
def y7:PyData->Bool
 | .list ds=>decide (ds.length<=99) && ds.all (vQ 0 9999)
 | .tuple ds=>decide (ds.length<=99) && ds.all (vQ 0 9999)
 | _=>false
def vN (ns:List Nat):List PyData:=ns.map fun (n:Nat)=>PyData.int (n:Int)
def yE (ns:List Nat):List V:=ns.map fun (n:Nat)=>V.int (n:Int)
def uW (g:PyData) (ns:List Nat):Prop:=g=.list (vN ns)\/g=.tuple (vN ns)
def jQ (H:Hp) (v:V) (ns:List Nat):Prop:=∃ a,v=.ref a/\(H a=some (.lst (yE ns))\/H a=some (.tup (yE ns)))
theorem jQ.same {H H':Hp}{v:V}{ns:List Nat} (h:jQ H v ns) (s:zB H H'):jQ H' v ns :=
 let ⟨a,e,h⟩:=h; ⟨a,e,h.elim (fun h=>.inl (s _ _ h)) fun h=>.inr (s _ _ h)⟩
theorem Thgs.nums {H:Hp}:∀ ns:List Nat,Thgs H (vN ns) (yE ns)
 | []=>rfl
 | n::ns=>⟨_,_,rfl,rfl,Thgs.nums ns⟩
theorem Thgs.nums_inv {H:Hp}:∀ {ns:List Nat}{xs:List V},Thgs H (vN ns) xs->xs=yE ns
 | [],xs,h=>h
 | n::ns,xs,h=>by
  obtain ⟨y,ys,rfl,h1,h2⟩:=h
  rw [Thgs.nums_inv h2]
  cases (show y=.int (n:Int) from h1); rfl
theorem uW.thg {H:Hp}{g:PyData}{v:V}{ns:List Nat} (h:uW g ns) (t:zO H g v):jQ H v ns:=by
 rcases h with rfl | rfl
 ·obtain ⟨a,xs,rfl,h1,h2⟩:=t
  rw [Thgs.nums_inv h2] at h1
  exact ⟨a,rfl,.inl h1⟩
 ·obtain ⟨a,xs,rfl,h1,h2⟩:=t
  rw [Thgs.nums_inv h2] at h1
  exact ⟨a,rfl,.inr h1⟩
theorem zDk:∀ {ds:List PyData},ds.all (vQ 0 9999)=true->∃ ns:List Nat,ds=vN ns/\∀ n∈ns,n<=9999
 | [],_=>⟨[],rfl,by simp⟩
 | d::ds,h=>by
  rw [List.all_cons,Bool.and_eq_true] at h
  obtain ⟨i,rfl,h1,h2⟩:=zBr h.1
  obtain ⟨ns,rfl,h3⟩:=zDk h.2
  refine ⟨i.toNat::ns,?_,fun n hn=>?_⟩
  ·show _=PyData.int ((i.toNat:Nat):Int)::_
   rw [Int.toNat_of_nonneg h1]; rfl
  ·rcases List.mem_cons.mp hn with z | z
   ·omega
   ·exact h3 n z
theorem nums_inv {g:PyData} (h:y7 g=true):∃ ns,uW g ns/\ns.length<=99:=by
 cases g with
 | list ds =>
  simp only [y7,Bool.and_eq_true,decide_eq_true_eq] at h
  obtain ⟨ns,rfl,_⟩:=zDk h.2
  exact ⟨ns,.inl rfl,by have:=h.1; unfold vN at this; rwa [List.length_map] at this⟩
 | tuple ds =>
  simp only [y7,Bool.and_eq_true,decide_eq_true_eq] at h
  obtain ⟨ns,rfl,_⟩:=zDk h.2
  exact ⟨ns,.inr rfl,by have:=h.1; unfold vN at this; rwa [List.length_map] at this⟩
 | _=>cases h
theorem zAY (ns:List Nat):(yE ns).length=ns.length:=by unfold yE; rw [List.length_map]
structure KitL (K:PySem.W.Frag):Prop where
 nl:PySem.W.kitOne K (.type "NoneType") (.type "list")=some false
 bl:PySem.W.kitOne K (.type "bool") (.type "list")=some false
 il:PySem.W.kitOne K (.type "int") (.type "list")=some false
 sl:PySem.W.kitOne K (.type "str") (.type "list")=some false
 tl:PySem.W.kitOne K (.type "tuple") (.type "list")=some false
def zGp:PyData->Bool
 | .list _=>true
 | .tuple _=>true
 | _=>false
theorem PI.or {X:Cx}{tg e:Expr}{w1 w2:TI} (h1:PI X tg e w1) (h2:PI X tg e w2):PI X tg e (fun σ H R=>w1 σ H R\/w2 σ H R):=fun pins s σ H R I h=>h.elim (h1 pins s σ H R I) (h2 pins s σ H R I)
structure CstD (mg:Str->Option Value):Prop where
 mn:∃ t,mg "MOST_NUMBERS" = some (.int 99 t)
 gn:∃ t,mg "GREATEST_NUMBER" = some (.int 9999 t)
section
variable {P:Program}{w:World}{K:PySem.W.Frag}{mg:Str->Option Value}{base:Heap}
theorem zAZ {t:Value}{b1 b2:Bool}{c d:Value} (h1:PySem.W.kitOne K t c=some b1) (h2:PySem.W.kitOne K t d=some b2):PySem.W.kitAny K t [c,d]=some (b1 || b2):=by
 unfold PySem.W.kitAny
 rw [h1]
 cases b1 with
 | true=>rfl
 | false =>
  show PySem.W.kitAny K t [d]=_
  unfold PySem.W.kitAny
  rw [h2]
  cases b2 <;> rfl
theorem zNU (KF:KitF K) (KL:KitL K) {H:Hp}:∀ {d:PyData}{v:V},zO H d v->∃ t,TyOf K H v t/\PySem.W.kitAny K t [.type "list",.type "tuple"]=some (zGp d)
 | .none,v,h=>by cases (show v=.non from h); exact ⟨_,.non,zAZ KL.nl KF.nt⟩
 | .bool b,v,h=>by cases (show v=.bl b from h); exact ⟨_,.bl _,zAZ KL.bl KF.bt⟩
 | .int i,v,h=>by cases (show v=.int i from h); exact ⟨_,.int _,zAZ KL.il KF.it⟩
 | .str x,v,h=>by cases (show v=.str x from h); exact ⟨_,.str _,zAZ KL.sl KF.st⟩
 | .list ds,v,h=>by obtain ⟨a,xs,rfl,h1,_⟩:=h; exact ⟨_,.lst h1,zAZ (b1:=true) rfl KF.lt⟩
 | .tuple ds,v,h=>by obtain ⟨a,xs,rfl,h1,_⟩:=h; exact ⟨_,.tup h1,zAZ (b2:=true) KL.tl rfl⟩
 | .dict _,v,h=>h.elim
abbrev zDl:Stmt:=top 45
theorem zNV:FnScope ["thing"] ["thing"] (defScope zDl):=⟨rfl,rfl,rfl,by decide +kernel,rfl,by decide +kernel,by decide +kernel⟩
theorem zNW:(["number"]:List Str).Nodup:=by decide +kernel
def zGq:Sp:=fun vs H Q _=>∃ v d,vs=[v]/\zO H d v/\sml d=true/\∀ H',zB H H'->Q (.bl (y7 d)) H'
theorem zNX {f:Addr}{fd:FuncData} (F:Fun K "are_numbers" "are_numbers" zDl f fd) (B:Blt mg) (hli:mg "list" = none) (D:CstD mg) (KF:KitF K) (KL:KitL K) (cW:yH P w K mg base 1 "is_whole" ["thing", "least", "most"] zBk):FnOk P w K mg base yF 2 f fd ["thing"] zGq:=by
 obtain ⟨tm,hm⟩:=D.mn
 obtain ⟨tg,hg⟩:=D.gn
 refine F.ok zNV (fun vs H Q E h=>?_) (fun cdv A outer s H vs Q E hr h=>?_)
 ·obtain ⟨v,d,rfl,_⟩:=h; rfl
 ·obtain ⟨v,d,rfl,hv,hs,k⟩:=h
  refine ⟨_,zI (yQ (PW.pt (qV (vZ (v4 (yC zNT (by rfl) B.isinstance PyProof.Rows.boot_isinstance (zC (pv 0) (zC (vJ (zC (jR (v:=.ty "list") (by rfl) hli PyProof.Rows.boot_list rfl) (zC (jR (v:=.ty "tuple") (by rfl) B.tuple PyProof.Rows.boot_tuple rfl) zD))) zD)))))
    (qU (vH zBz (yC kP (by rfl) B.len PySem.boot_len (zC (pv 0) zD)) (yX (v:=.int 99) (by rfl) hm ⟨_,rfl⟩) (vC _)))))
    (zJ (zV vT)) yP)
   (zJ (zV (yC (zAr rfl) (by rfl) B.all PyProof.Rows.boot_all (zC (qA (N:=["number"]) (caps:=[]) rfl (uT (by kernel_rfl)) (PI.or (zAH (pv 0)) (gQ (pv 0)))
    (fun cl C s H ex=>yS (i:=0) zNW rfl (Or.inl rfl)) (fun cl C s H ex=>uZ)
    (fun cl C s H ex=>zT cW hr rfl (zC (pv 0) (zC zH (zC (yX (v:=.int 9999) (by rfl) hg ⟨_,rfl⟩) zD))))) zD)))),?_⟩
  refine ⟨_,rfl,by show 2<=sizeLine; decide,fun tp htp=>?_⟩
  have t1:zB H (upd H tp (.tup [.ty "list",.ty "tuple"])):=zB.upd1 htp
  have hv1:=zO.same t1 _ _ hv
  have htp1:upd H tp (.tup [.ty "list",.ty "tuple"]) tp=some (.tup [.ty "list",.ty "tuple"]):=zG
  generalize upd H tp (.tup [.ty "list",.ty "tuple"])=H1 at t1 hv1 htp1
  obtain ⟨t,hty,hkit⟩:=zNU KF KL hv1
  refine ⟨v,tp, "list", "tuple",t,zGp d,rfl,htp1,hty,hkit,_,rfl,?_⟩
  cases d with
  | list ds =>
   obtain ⟨a,xs,rfl,ha,hxs⟩:=hv1
   have hsx:ds.length<=900/\smls ds=true:=by
    simp only [sml,Bool.and_eq_true,decide_eq_true_eq] at hs
    exact hs
   have hxl:xs.length=ds.length:=hxs.length.symm
   refine yU ?_
   refine ⟨_,rfl,_,_,rfl,.inl (.of ha),_,_,rfl,rfl,_,rfl,?_⟩
   by_cases h2:ds.length<=99
   ·refine uL (by rw [hxl]; omega) ?_
    refine .inl ⟨_,rfl,a,rfl,⟨_,.of ha⟩,?_⟩
    refine qL (zAR _ a xs) [] 1 (by omega) (fun i acc H'=>zB H1 H'/\acc=((ds.take i).map (vQ 0 9999)).map V.bl) ⟨zB.refl _,rfl⟩ (fun i acc H' _ h=>⟨.of (h.1 _ _ ha),by rw [h.2,List.length_map,List.length_map,List.length_take]; omega⟩) ?_ ?_
    ·rintro i y acc H' ys Nx hN hx hy ⟨sm,rfl⟩
     obtain ⟨y',rfl⟩:=uP hy
     obtain ⟨e,he,hye⟩:=hxs.get hx
     refine ⟨_,rfl,y,e,0,9999,rfl,zO.same sm _ _ hye,hN _ _ [some y] rfl ⟨sm,?_⟩⟩
     rw [qP he,List.map_append,List.map_append]; rfl
    ·rintro acc H' ⟨sm,rfl⟩ D hD
     rw [hxl,List.take_length]
     refine ⟨D,_,rfl,.of zG,?_⟩
     have e:y7 (.list ds)=(ds.map (vQ 0 9999)).all id:=by
      simp only [y7,decide_eq_true h2,Bool.true_and,List.all_map]; rfl
     rw [<- e]
     exact k _ (t1.trans (sm.upd_new (sm.free hD)))
   ·have e:y7 (.list ds)=false:=by simp only [y7,decide_eq_false h2,Bool.false_and]
    rw [e] at k
    exact uK (by rw [hxl]; omega) (k _ t1)
  | tuple ds =>
   obtain ⟨a,xs,rfl,ha,hxs⟩:=hv1
   have hsx:ds.length<=900/\smls ds=true:=by
    simp only [sml,Bool.and_eq_true,decide_eq_true_eq] at hs
    exact hs
   have hxl:xs.length=ds.length:=hxs.length.symm
   refine yU ?_
   refine ⟨_,rfl,_,_,rfl,.inr (.of ha),_,_,rfl,rfl,_,rfl,?_⟩
   by_cases h2:ds.length<=99
   ·refine uL (by rw [hxl]; omega) ?_
    refine .inr ⟨_,rfl,a,rfl,⟨_,.of ha⟩,?_⟩
    refine qL (gY _ a xs) [] 1 (by omega) (fun i acc H'=>zB H1 H'/\acc=((ds.take i).map (vQ 0 9999)).map V.bl) ⟨zB.refl _,rfl⟩ (fun i acc H' _ h=>⟨.of (h.1 _ _ ha),by rw [h.2,List.length_map,List.length_map,List.length_take]; omega⟩) ?_ ?_
    ·rintro i y acc H' ys Nx hN hx hy ⟨sm,rfl⟩
     obtain ⟨y',rfl⟩:=uP hy
     obtain ⟨e,he,hye⟩:=hxs.get hx
     refine ⟨_,rfl,y,e,0,9999,rfl,zO.same sm _ _ hye,hN _ _ [some y] rfl ⟨sm,?_⟩⟩
     rw [qP he,List.map_append,List.map_append]; rfl
    ·rintro acc H' ⟨sm,rfl⟩ D hD
     rw [hxl,List.take_length]
     refine ⟨D,_,rfl,.of zG,?_⟩
     have e:y7 (.tuple ds)=(ds.map (vQ 0 9999)).all id:=by
      simp only [y7,decide_eq_true h2,Bool.true_and,List.all_map]; rfl
     rw [<- e]
     exact k _ (t1.trans (sm.upd_new (sm.free hD)))
   ·have e:y7 (.tuple ds)=false:=by simp only [y7,decide_eq_false h2,Bool.false_and]
    rw [e] at k
    exact uK (by rw [hxl]; omega) (k _ t1)
  | _=>exact z7 (z7 (k _ t1))
abbrev zDm:Stmt:=top 46
theorem zNY:FnScope ["thing"] ["thing"] (defScope zDm):=⟨rfl,rfl,rfl,by decide +kernel,rfl,by decide +kernel,by decide +kernel⟩
theorem zNZ {f:Addr}{fd:FuncData}{C:Addr} (F:Fun K "need_numbers" "need_numbers" zDm f fd) (O:XCls K mg "NoNumber" C) (c1:yH P w K mg base 2 "are_numbers" ["thing"] zGq):FnOk P w K mg base (v8 P w) 3 f fd ["thing"] (qQ C y7):=by
 refine F.okR zNY (fun vs H Q E h=>?_) (fun cdv A outer s H vs Q E hr h ok=>?_)
 ·obtain ⟨v,d,rfl,_⟩:=h; rfl
 ·obtain ⟨v,d,rfl,hv,hs,k1,k2⟩:=h
  refine ⟨_,zJ (yQ (vZ (v4 (zT c1 hr rfl (zC (pv 0) zD)))) (zJ (g8 ok rfl O (by rfl) (zC yD zD))) yP),?_⟩
  refine ⟨_,rfl,v,d,rfl,hv,hs,fun H' sm=>⟨_,rfl,?_⟩⟩
  cases e:y7 d with
  | true=>exact yU (k1 e H' sm)
  | false=>exact z7 ⟨by show 1<=sizeLine; decide,k2 e H' sm⟩
def zGr:Sp:=fun vs H Q _=>∃ (t:S) (o:Nat),vs=[sv t,.int o]/\1<=o/\t.length<=900/\Q (sv (zS t o)) H
theorem zNa {f:Addr}{fd:FuncData} (F:Fun K "end_of" "end_of" zBW f fd):FnOk P w K mg base yF 1 f fd ["text", "order"] zGr:=by
 refine F.ok zFj (fun vs H Q E h=>?_) (fun cdv A outer s H vs Q E hr h=>?_)
 ·obtain ⟨t,o,rfl,_⟩:=h; rfl
 ·obtain ⟨t,o,rfl,ho,hl,k⟩:=h
  refine ⟨_,zJ (zV (jF (pv 0) (uE (zAJ zAK (pv 1))) qX)),?_⟩
  refine ⟨_,rfl,_,rfl,_,rfl,_,rfl,_,rfl,?_,?_⟩
  ·rw [zY,sizeLine_eq]; omega
  ·rw [zBV t o ho]; exact k
theorem zDn (ps:List (S × S)) (o:Nat) (t:S) (n:Nat) (ns:List Nat) (p:Nat):dr ps o t (n::ns) p=if pick ps (zS t o) n=[] then some (t,p+1) else dr ps o (t++pick ps (zS t o) n) ns (p+1):=rfl
abbrev sDF:Stmt:=top 49
theorem zGs:FnScope ["pots", "order", "numbers", "start", "text", "place", "pot", "letter"] ["pots", "order", "numbers", "start"] (defScope sDF):=⟨rfl,rfl,rfl,by decide +kernel,rfl,by decide +kernel,by decide +kernel⟩
def zDo (C:Addr):Sp:=fun vs H Q E=>∃ (d:Addr) (nv:V) (bk:List S) (o st:Nat) (ns:List Nat),vs=[.ref d,.int o,nv,.int st]/\Bk bk o/\(zE o bk).length < 64/\gI H d (zE o bk)/\jQ H nv ns/\ns.length<=99/\st<=ns.length /\
 (dr (zE o bk) o [] (ns.drop st) st=none->E (.ref C) none H) /\
 (∀ x q,dr (zE o bk) o [] (ns.drop st) st=some (x,q)->∀ (p:Addr) (H':Hp),zB H H'->H p=none->H' p=some (.tup [sv x,.int (q:Int)])->Q (.ref p) H')
theorem zNb {f:Addr}{fd:FuncData}{C:Addr} (F:Fun K "drawn_from" "drawn_from" sDF f fd) (B:Blt mg) (O:XCls K mg "TooShort" C) (cEnd:yH P w K mg base 1 "end_of" ["text", "order"] zGr):FnOk P w K mg base (v8 P w) 2 f fd ["pots", "order", "numbers", "start"] (zDo C):=by
 refine F.okR zGs (fun vs H Q E h=>?_) (fun cdv A outer s H vs Q E hr h ok=>?_)
 ·obtain ⟨d,nv,bk,o,st,ns,rfl,_⟩:=h; rfl
 ·obtain ⟨d,nv,bk,o,st,ns,rfl,hb,h64,hP,⟨na,rfl,hna⟩,h99,hst,kE,kQ⟩:=h
  have hu:=gE hr
  have nd:=zGs.nd
  refine ⟨_,zI (z0 (i:=4) nd rfl (Or.inl rfl) yD)
   (zI (qI PassesOwn.leaving rfl (zIR rfl B.range (zC (pv 3) (zC (yC kP (by rfl) B.len PySem.boot_len (zC (pv 2) zD)) zD))) (yS (i:=5) nd rfl (Or.inl rfl))
    (zI (z0 (i:=6) nd rfl (Or.inl rfl) (gD hu (pv 0) (zT cEnd hr rfl (zC (pv 4) (zC (pv 1) zD))) (fun _ _=>rfl)))
    (zI (z0 (i:=7) nd rfl (Or.inl rfl) (yK jT (pv 6) (zP gA (yK zIq (pv 2) (pv 5) (fun _ _=>rfl)) (yC kP (by rfl) B.len PySem.boot_len (zC (pv 6) zD))) (fun _ _=>rfl)))
    (zI (yQ (vH zAL (pv 7) yD (vC _)) (zJ (zV (vJ (zC (pv 4) (zC (zP yT (pv 5) zH) zD))))) yP)
    (zJ (z0 (i:=4) nd rfl (Or.inl rfl) (zP zCA (pv 4) (pv 7))))))))
   (zJ (g8 ok rfl O (by rfl) (zC yD zD)))),?_⟩
  have hsq:yJ K H na (yE ns)\/yG K H na (yE ns):=hna.elim (fun h=>.inl (.of h)) fun h=>.inr (.of h)
  refine ⟨_,rfl,_,rfl,na,yE ns,rfl,hsq,(st:Int),((yE ns).length:Int),rfl,⟨by omega,by omega,by omega,by rw [zAY]; omega⟩,?_⟩
  have enn:(((yE ns).length:Int) - (st:Int)).toNat=ns.length - st:=by rw [zAY]; omega
  have hne:bk≠[]:=fun z=>by have:=hb.lo; rw [z] at this; simp at this
  refine jN (jY (st:Int) _) (fun i σ H'=>H'=H/\∃ (t:S) (x5 x6 x7:Option V),σ=[some (.ref d),some (.int o),some (.ref na),some (.int st),some (sv t),x5,x6,x7]/\t.length=i/\vX o bk t/\dr (zE o bk) o [] (ns.drop st) st=dr (zE o bk) o t (ns.drop (st+i)) (st+i))
   ⟨rfl,[],_,_,_,rfl,rfl,vX.nil hne,rfl⟩ (fun i σ H' _ h=>trivial) ?_ ?_
  ·rintro i x σ H' Nx hN hx ⟨rfl,t,x5,x6,x7,rfl,htl,hal,hdr⟩
   rw [enn] at hx
   obtain ⟨j,hj,rfl⟩:=j7 hx
   have hi:i < ns.length - st:=by
    have:=(List.getElem?_eq_some_iff.mp hj).1
    rwa [List.length_range] at this
   rw [List.getElem?_range hi] at hj
   cases hj
   have hnx:ns[st+i]?=some (ns[st+i]'(by omega)):=List.getElem?_eq_getElem _
   generalize ns[st+i]'(by omega)=n at hnx
   have hdd:ns.drop (st+i)=n::ns.drop (st+i+1):=by
    rw [List.drop_eq_getElem_cons (by omega)]
    rw [(List.getElem?_eq_some_iff.mp hnx).2]
   rw [hdd,zDn] at hdr
   obtain ⟨pa,dg,hpa⟩:=hP.get hal
   obtain ⟨hpk,hpl⟩:=zGM hal n
   refine ⟨_,rfl,_,rfl,_,rfl,t,o,rfl,hb.o1,by omega,d,.ref pa,rfl,dg,?_⟩
   have hv0:(yE ns)[st+i]?=some (V.int (n:Int)):=by unfold yE; rw [List.getElem?_map,hnx]; rfl
   have ix0:qK (yE ns) ((st:Int)+(i:Int))=some (V.int (n:Int)):=by
    have:((st:Int)+(i:Int))=((st+i:Nat):Int):=rfl
    rw [this]; exact qY hv0
   have ixp:qK ((pot (zE o bk) (zS t o)).map sv) ((n:Int) % (((pot (zE o bk) (zS t o)).map sv).length:Int))=some (sv (pick (zE o bk) (zS t o) n)):=by
    rw [List.length_map]
    have:(n:Int) % ((pot (zE o bk) (zS t o)).length:Int)=((n % (pot (zE o bk) (zS t o)).length:Nat):Int):=rfl
    rw [this]
    exact qY (by rw [List.getElem?_map,hpk]; rfl)
   have hmod:(0:Int) < (((pot (zE o bk) (zS t o)).map sv).length:Int):=by rw [List.length_map]; omega
   refine ⟨_,rfl,_,rfl,_,rfl,?_⟩
   have step:∀ (R:V->Hp->Prop),R (V.int (n:Int)) H'->rIx K (.ref na) (.int ((st:Int)+(i:Int))) H' R:=fun R hR=>by
    rcases hna with h | h
    ·exact .inl ⟨na,yE ns,_,_,rfl,rfl,.of h,ix0,hR⟩
    ·exact .inr (.inl ⟨na,yE ns,_,_,rfl,rfl,.of h,ix0,hR⟩)
   refine step _ ?_
   refine ⟨_,rfl,pa,_,rfl,.inl (.of hpa),_,_,rfl,rfl,hmod,pa,_,_,sv (pick (zE o bk) (zS t o) n),rfl,rfl,.of hpa,ixp,?_⟩
   refine ⟨_,rfl,rfl,_,rfl,?_⟩
   rcases hal.pick n with e | ⟨c,e,hal2⟩
   ·rw [if_pos e] at hdr
    refine uK (by rw [e]; rfl) ?_
    refine ⟨_,rfl,_,rfl,_,_,rfl,rfl,by show 2<=sizeLine; decide,fun p hp=>?_⟩
    refine kQ _ _ hdr p _ (zB.upd1 hp) hp ?_
    rw [zG]; rfl
   ·rw [if_neg (by rw [e]; simp),e] at hdr
    refine uL (by rw [e]; intro z; cases z) ?_
    rw [e]
    refine ⟨_,rfl,_,rfl,tx t,tx [c],rfl,rfl,by rw [zY,zY,sizeLine_eq]; show _+1<=_; omega,hN _ _ ⟨rfl,t++[c],_,_,_,by rw [zCx]; rfl,by rw [List.length_append]; simp [htl],hal2,?_⟩⟩
    rw [hdr]; rfl
  ·rintro σ H' ⟨rfl,t,x5,x6,x7,rfl,htl,hal,hdr⟩
   have e9:ns.drop (st+(ns.length - st))=[]:=List.drop_of_length_le (by omega)
   rw [List.length_map,List.length_range,enn,e9] at hdr
   exact ⟨by show 1<=sizeLine; decide,kE hdr⟩
end
end Kn.Dr
end
section
namespace Kn.Dr
open PySem L2 Kn
theorem zNc {C G R:Prop} (main:(C->R)->G) (cont:C->R):G:=main cont
theorem zNd {l:List S}{x:S} (h:x∈l):(l.map tx)[l.idxOf x]?=some (tx x)/\∀ i,i < l.idxOf x->(l.map tx)[i]?≠some (tx x):=by
 have h2:=List.idxOf_lt_length_iff.mpr h
 refine ⟨?_,fun i hi z=>?_⟩
 ·rw [List.getElem?_map,List.getElem?_eq_getElem h2,List.getElem_idxOf h2]; rfl
 ·have hil:i < l.length:=by omega
  rw [List.getElem?_map,List.getElem?_eq_getElem hil] at z
  have e:=jH (Option.some.inj z)
  have h3:l.findIdx (· == x)<=i:=by
   by_cases hc:i < l.findIdx (· == x)
   ·have:=List.not_of_lt_findIdx hc
    rw [e] at this
    simp at this
   ·omega
  have h4:l.idxOf x=l.findIdx (· == x):=rfl
  omega
section
variable {P:Program}{w:World}{K:PySem.W.Frag}{mg:Str->Option Value}{base:Heap}
theorem zNe {H:Hp}{qs:List (S × S)}{xs:List V}{i:Nat}{y:V} (rp:Reps K H (qs.map elD) xs) (hx:xs[i]?=some y):∃ (p:S × S) (a:Addr),qs[i]?=some p/\y=.ref a/\yG K H a [sv p.1,sv p.2]:=by
 obtain ⟨dd,hdd,rx⟩:=rp.get hx
 obtain ⟨p,hp,rfl⟩:=j7 hdd
 obtain ⟨at',xs',rfl,hsq,y1,ys1',rfl,ry1,y2,ys2',rfl,ry2,hnil⟩:=rx
 have ey1:y1=sv p.1:=ry1
 have ey2:y2=sv p.2:=ry2
 have en:ys2'=[]:=hnil
 subst ey1 ey2 en
 exact ⟨p,at',hp,rfl,hsq⟩
abbrev zDp:Stmt:=top 50
theorem zNf:FnScope ["book", "order", "numbers"] ["book", "order", "numbers"] (defScope zDp):=⟨rfl,rfl,rfl,by decide +kernel,rfl,by decide +kernel,by decide +kernel⟩
def zGt (nb no nu ts:Addr):Sp:=fun vs H Q E=>∃ v u x d e g,vs=[v,u,x]/\zO H d v/\zO H e u/\zO H g x/\sml d=true/\sml e=true/\sml g=true /\
 (y6 d=false->∀ H',zB H H'->E (.ref nb) none H')/\(y6 d=true->vU e=false->∀ H',zB H H'->E (.ref no) none H')/\(y6 d=true->vU e=true->y7 g=false->∀ H',zB H H'->E (.ref nu) none H') /\
 (∀ bk o ns,Bk bk o->d=.tuple (bk.map fun x=>PyData.str (tx x))->u=.int (o:Nat)->uW g ns->ns.length<=99->y7 g=true->(zE o bk).length < 64 /\
  (dr (zE o bk) o [] ns 0=none->∀ H',zB H H'->E (.ref ts) none H') /\
  (∀ x q,dr (zE o bk) o [] ns 0=some (x,q)->∀ (p:Addr) (H':Hp),zB H H'->H p=none->H' p=some (.tup [sv x,.int (q:Int)])->Q (.ref p) H'))
theorem zNg {f:Addr}{fd:FuncData}{nb no nu ts:Addr} (F:Fun K "drawn" "drawn" zDp f fd) (cNB:uF P w K mg base 3 "need_book" ["thing"] (qQ nb y6)) (cNO:uF P w K mg base 3 "need_order" ["thing"] (qQ no vU)) (cNu:uF P w K mg base 3 "need_numbers" ["thing"] (qQ nu y7))
  (cP:yH P w K mg base 4 "pots_by_end" ["book", "order"] zBh) (cD:uF P w K mg base 2 "drawn_from" ["pots", "order", "numbers", "start"] (zDo ts)):FnOk P w K mg base (v8 P w) 5 f fd ["book", "order", "numbers"] (zGt nb no nu ts):=by
 refine F.okR zNf (fun vs H Q E h=>?_) (fun cdv A outer s H vs Q E hr h ok=>?_)
 ·obtain ⟨v,u,x,d,e,g,rfl,_⟩:=h; rfl
 ·obtain ⟨v,u,x,d,e,g,rfl,hv,hu,hx,sd,se,sg,kb,ko,kn,kg⟩:=h
  have r2:=hr.mono (j:=2) (by decide)
  have r3:=hr.mono (j:=3) (by decide)
  refine ⟨_,zI (uX (uM cNB ok.pass r3 rfl (zC (pv 0) zD))) (zI (uX (uM cNO ok.pass r3 rfl (zC (pv 1) zD))) (zI (uX (uM cNu ok.pass r3 rfl (zC (pv 2) zD)))
   (zJ (zV (uM cD ok.pass r2 rfl (zC (zT cP hr rfl (zC (pv 0) (zC (pv 1) zD))) (zC (pv 1) (zC (pv 2) (zC zH zD))))))))),?_⟩
  refine ⟨_,rfl,v,d,rfl,hv,sd,fun g1 H1 s1=>?_,fun b1 H1 s1=>kb b1 H1 s1⟩
  refine ⟨_,rfl,u,e,rfl,zO.same s1 _ _ hu,se,fun g2 H2 s2'=>?_,fun b2 H2 s2'=>ko g1 b2 _ (s1.trans s2')⟩
  have s2:=s1.trans s2'
  refine ⟨_,rfl,x,g,rfl,zO.same s2 _ _ hx,sg,fun g3 H3 s3'=>?_,fun b3 H3 s3'=>kn g1 g2 b3 _ (s2.trans s3')⟩
  have s3:=s2.trans s3'
  obtain ⟨c,bk,rfl,hc,hbk,rfl⟩:=zDL hv g1
  obtain ⟨o,rfl,o1,o3⟩:=zDM hu g2
  obtain ⟨ns,hns,h99⟩:=nums_inv g3
  have hb:Bk bk o:=⟨hbk,o1,o3⟩
  obtain ⟨h64,kE,kQ⟩:=kg bk o ns hb rfl rfl hns h99 g3
  refine ⟨_,rfl,_,rfl,c,bk,o,rfl,s3 _ _ hc,hb,h64,fun pd H4 s4 hP=>?_⟩
  have s34:=s3.trans s4
  refine ⟨_,rfl,_,rfl,pd,x,bk,o,0,ns,rfl,hb,h64,hP,(hns.thg hx).same s34,h99,Nat.zero_le _,fun h=>kE h H4 s34,fun x q h p H5 s5 hp hq=>kQ x q h p H5 (s34.trans s5) (s34.free hp) hq⟩
abbrev sFD:Stmt:=top 51
theorem zGu:FnScope ["book", "order", "wish", "barred", "numbers", "pots", "pair"] ["book", "order", "wish", "barred", "numbers"] (defScope sFD):=⟨rfl,rfl,rfl,by decide +kernel,rfl,by decide +kernel,by decide +kernel⟩
def qE (lo hi:Int) (hd tl:S) (out:List S) (x:S):Bool:=uG lo hi hd tl x && !decide (x∈out)
def zGv (ts:Addr):Sp:=fun vs H Q E=>∃ (c wa ba:Addr) (nv:V) (bk:List S) (o:Nat) (lo hi:Int) (hd tl:S) (wb:List S) (to:Bool) (out:List S) (ns:List Nat),vs=[.ref c,.int o,.ref wa,.ref ba,nv]/\H c=some (.tup (zM bk))/\Bk bk o/\(zE o bk).length < 64/\qS H wa lo hi hd tl wb to/\H ba=some (.lst (zM out))/\jQ H nv ns/\ns.length<=99 /\
 (vD (zE o bk) o (qE lo hi hd tl out) ns (ns.length+1) 0=none->∀ H',zB H H'->E (.ref ts) none H') /\
 (∀ x q,vD (zE o bk) o (qE lo hi hd tl out) ns (ns.length+1) 0=some (x,q)->∀ (p:Addr) (H':Hp),zB H H'->H p=none->H' p=some (.tup [sv x,.int (q:Int)])->Q (.ref p) H')
theorem zNh {f:Addr}{fd:FuncData}{ts:Addr} (F:Fun K "first_drawn" "first_drawn" sFD f fd) (cP:yH P w K mg base 4 "pots_by_end" ["book", "order"] zBh) (cD:uF P w K mg base 2 "drawn_from" ["pots", "order", "numbers", "start"] (zDo ts))
  (cF:yH P w K mg base 1 "has_form" ["wish", "name"] zGn):FnOk P w K mg base (v8 P w) 5 f fd ["book", "order", "wish", "barred", "numbers"] (zGv ts):=by
 refine F.okR zGu (fun vs H Q E h=>?_) (fun cdv A outer s H vs Q E hr h ok=>?_)
 ·obtain ⟨c,wa,ba,nv,bk,o,lo,hi,hd,tl,wb,to,out,ns,rfl,_⟩:=h; rfl
 ·obtain ⟨c,wa,ba,nv,bk,o,lo,hi,hd,tl,wb,to,out,ns,rfl,hc,hb,h64,hw,hba,hnv,h99,kE,kQ⟩:=h
  have nd:=zGu.nd
  have r2:=hr.mono (j:=2) (by decide)
  have r1:=hr.mono (j:=1) (by decide)
  refine ⟨_,zI (z0 (i:=5) nd rfl (Or.inl rfl) (zT cP hr rfl (zC (pv 0) (zC (pv 1) zD))))
   (zI (z0 (i:=6) nd rfl (Or.inl rfl) (uM cD ok.pass r2 rfl (zC (pv 5) (zC (pv 1) (zC (pv 4) (zC zH zD))))))
   (zI (zEO PassesOwn.leaving (PW.pt (qV (vZ (v4 (zT cF r1 rfl (zC (pv 2) (zC (yK vA (pv 6) zH (fun _ _=>rfl)) zD))))) (qU (vH zEr (yK vA (pv 6) zH (fun _ _=>rfl)) (pv 3) (by with_unfolding_all rfl)))))
    (zJ (z0 (i:=6) nd rfl (Or.inl rfl) (uM cD ok.pass r2 rfl (zC (pv 5) (zC (pv 1) (zC (pv 4) (zC (yK vA (pv 6) zH (fun _ _=>rfl)) zD))))))))
   (zJ (zV (pv 6))))),?_⟩
  have hne:bk≠[]:=fun z=>by have:=hb.lo; rw [z] at this; simp at this
  refine ⟨_,rfl,_,rfl,c,bk,o,rfl,hc,hb,h64,fun pd H1 s1 hP=>?_⟩
  generalize hfull:vD (zE o bk) o (qE lo hi hd tl out) ns (ns.length+1) 0=full at kE kQ
  have hfull0:=hfull
  unfold vD at hfull
  rw [List.drop_zero] at hfull
  refine ⟨_,rfl,_,rfl,_,rfl,pd,nv,bk,o,0,ns,rfl,hb,h64,hP,hnv.same s1,h99,Nat.zero_le _,fun h=>?_,fun x q h p H2 s2 hp hq=>?_⟩
  ·rw [List.drop_zero] at h
   rw [h] at hfull
   exact kE hfull.symm H1 s1
  ·rw [List.drop_zero] at h
   rw [h] at hfull
   have s12:=s1.trans s2
   have hdl:=zBe ns [] 0 x q (vX.nil hne) h
   have hxl:x.length<=99:=by have:=hdl.2.2; have:=hdl.2.1; simp only [List.length_nil] at *; omega
   have hst:full=if qE lo hi hd tl out x=true then some (x,q) else vD (zE o bk) o (qE lo hi hd tl out) ns (ns.length+1) q:=by
    rw [<- hfull]
    show (if _ then _ else _)=_
    rw [zBf _ _ _ ns ns.length (ns.length+1) q (by omega) (by omega)]
   refine ⟨fun m σ H'=>∃ (p:Addr) (x:S) (q:Nat),σ=[some (.ref c),some (.int o),some (.ref wa),some (.ref ba),some nv,some (.ref pd),some (.ref p)]/\H' p=some (.tup [sv x,.int (q:Int)])/\H p=none/\zB H1 H'/\m=ns.length - q/\q<=ns.length/\x.length<=99 /\
     full=if qE lo hi hd tl out x=true then some (x,q) else vD (zE o bk) o (qE lo hi hd tl out) ns (ns.length+1) q,⟨_,p,x,q,rfl,hq,s1.free hp,s2,rfl,by omega,hxl,hst⟩,?_⟩
   clear hst hxl hdl s12 hq hp s2 h hfull hfull0
   clear p x q H2
   rintro m σ H' ⟨p,x,q,rfl,hp,hpn,sm,rfl,hqn,hxl,hst⟩
   have s1m:=s1.trans sm
   refine ⟨_,rfl,_,rfl,p,_,0,sv x,rfl,rfl,.of hp,rfl,wa,lo,hi,hd,tl,wb,to,x,rfl,hw.same s1m,by omega,_,rfl,?_⟩
   have hend:qE lo hi hd tl out x=true->Q (.ref p) H':=fun ho=>by
    rw [if_pos ho] at hst
    exact kQ x q hst p H' s1m hpn hp
   apply zNc (C:=qE lo hi hd tl out x=false)
   case main =>
    intro cont
    cases e1:uG lo hi hd tl x with
    | false=>exact z7 (z7 (cont (by simp only [qE,e1,Bool.false_and])))
    | true =>
     refine yU ?_
     refine ⟨_,rfl,p,_,0,sv x,rfl,rfl,.of hp,rfl,_,rfl,ba,zM out,rfl,.inl (.of (s1m _ _ hba)),rfl,zBt _,_,rfl,?_⟩
     rw [zBs]
     by_cases hin:x∈out
     ·exact uK hin (cont (by simp only [qE,decide_eq_true hin,Bool.not_true,Bool.and_false]))
     ·exact uL hin ⟨_,rfl,hend (by simp only [qE,e1,decide_eq_false hin,Bool.not_false,Bool.and_true])⟩
   case cont =>
    intro hno
    rw [if_neg (by rw [hno]; decide)] at hst
    have hst2:=hst
    unfold vD at hst
    refine ⟨_,fun _ _ h=>h,?_⟩
    refine ⟨_,rfl,_,rfl,_,rfl,_,rfl,p,_,1,.int (q:Int),rfl,rfl,.of hp,rfl,pd,nv,bk,o,q,ns,rfl,hb,h64,hP.same sm,hnv.same s1m,h99,hqn,fun h=>?_,fun x2 q2 h p2 H3 s3 hp2 hq2=>?_⟩
    ·rw [h] at hst
     exact kE hst H' s1m
    ·rw [h] at hst
     have hdl:=zBe _ [] q x2 q2 (vX.nil hne) h
     rw [List.length_drop] at hdl
     have h9:x2.length<=99:=by have:=hdl.2.2; have:=hdl.2.1; simp only [List.length_nil] at *; omega
     refine ⟨ns.length - q2,by omega,p2,x2,q2,rfl,hq2,s1m.free hp2,sm.trans s3,rfl,by omega,h9,?_⟩
     rw [hst]
     show (if _ then _ else _)=_
     rw [zBf _ _ _ ns ns.length (ns.length+1) q2 (by omega) (by omega)]
abbrev zDq:Stmt:=top 52
theorem zNi:FnScope ["book", "order", "wish", "numbers"] ["book", "order", "wish", "numbers"] (defScope zDq):=⟨rfl,rfl,rfl,by decide +kernel,rfl,by decide +kernel,by decide +kernel⟩
def zGw (nb no nw nu ts:Addr):Sp:=fun vs H Q E=>∃ v u y x d e z g,vs=[v,u,y,x]/\zO H d v/\zO H e u/\zO H z y/\zO H g x/\sml d=true/\sml e=true/\sml z=true/\SeqAt.shaped z=true/\sml g=true /\
 (y6 d=false->∀ H',zB H H'->E (.ref nb) none H')/\(y6 d=true->vU e=false->∀ H',zB H H'->E (.ref no) none H')/\(y6 d=true->vU e=true->vM z=false->∀ H',zB H H'->E (.ref nw) none H')/\(y6 d=true->vU e=true->vM z=true->y7 g=false->∀ H',zB H H'->E (.ref nu) none H') /\
 (∀ bk o lo hi hd tl ba to ns,Bk bk o->d=.tuple (bk.map fun x=>PyData.str (tx x))->u=.int (o:Nat)->GW lo hi hd tl ba->z=kA lo hi hd tl ba to->uW g ns->ns.length<=99->y7 g=true->(zE o bk).length < 64 /\
  (vD (zE o bk) o (vG bk lo hi hd tl ba to) ns (ns.length+1) 0=none->∀ H',zB H H'->E (.ref ts) none H') /\
  (∀ x q,vD (zE o bk) o (vG bk lo hi hd tl ba to) ns (ns.length+1) 0=some (x,q)->∀ (p:Addr) (H':Hp),zB H H'->H p=none->H' p=some (.tup [sv x,.int (q:Int)])->Q (.ref p) H'))
theorem zNj {f:Addr}{fd:FuncData}{nb no nw nu ts:Addr} (F:Fun K "drawn_fitting" "drawn_fitting" zDq f fd) (cNB:uF P w K mg base 3 "need_book" ["thing"] (qQ nb y6)) (cNO:uF P w K mg base 3 "need_order" ["thing"] (qQ no vU)) (cNW:uF P w K mg base 4 "need_wish" ["thing"] (zGm nw)) (cNu:uF P w K mg base 3 "need_numbers" ["thing"] (qQ nu y7))
  (cO:yH P w K mg base 1 "left_out" ["book", "wish"] zGo) (cD:uF P w K mg base 5 "first_drawn" ["book", "order", "wish", "barred", "numbers"] (zGv ts)):FnOk P w K mg base (v8 P w) 6 f fd ["book", "order", "wish", "numbers"] (zGw nb no nw nu ts):=by
 refine F.okR zNi (fun vs H Q E h=>?_) (fun cdv A outer s H vs Q E hr h ok=>?_)
 ·obtain ⟨v,u,y,x,d,e,z,g,rfl,_⟩:=h; rfl
 ·obtain ⟨v,u,y,x,d,e,z,g,rfl,hv,hu,hy,hx,sd,se,sz,shz,sg,kb,ko,kw,kn,kg⟩:=h
  have r1:=hr.mono (j:=1) (by decide)
  have r3:=hr.mono (j:=3) (by decide)
  have r4:=hr.mono (j:=4) (by decide)
  refine ⟨_,zI (uX (uM cNB ok.pass r3 rfl (zC (pv 0) zD))) (zI (uX (uM cNO ok.pass r3 rfl (zC (pv 1) zD))) (zI (uX (uM cNW ok.pass r4 rfl (zC (pv 2) zD))) (zI (uX (uM cNu ok.pass r3 rfl (zC (pv 3) zD)))
   (zJ (zV (uM cD ok.pass hr rfl (zC (pv 0) (zC (pv 1) (zC (pv 2) (zC (zT cO r1 rfl (zC (pv 0) (zC (pv 2) zD))) (zC (pv 3) zD))))))))))),?_⟩
  refine ⟨_,rfl,v,d,rfl,hv,sd,fun g1 H1 s1=>?_,fun b1 H1 s1=>kb b1 H1 s1⟩
  refine ⟨_,rfl,u,e,rfl,zO.same s1 _ _ hu,se,fun g2 H2 s2'=>?_,fun b2 H2 s2'=>ko g1 b2 _ (s1.trans s2')⟩
  have s2:=s1.trans s2'
  refine ⟨_,rfl,y,z,rfl,zO.same s2 _ _ hy,sz,shz,fun g4 H4 s4'=>?_,fun b4 H4 s4'=>kw g1 g2 b4 _ (s2.trans s4')⟩
  have s4:=s2.trans s4'
  refine ⟨_,rfl,x,g,rfl,zO.same s4 _ _ hx,sg,fun g3 H3 s3'=>?_,fun b3 H3 s3'=>kn g1 g2 g4 b3 _ (s4.trans s3')⟩
  have s3:=s4.trans s3'
  obtain ⟨c,bk,rfl,hc,hbk,rfl⟩:=zDL hv g1
  obtain ⟨o,rfl,o1,o3⟩:=zDM hu g2
  obtain ⟨lo,hi,hd,tl,ba,to,rfl,gw⟩:=zNI g4
  obtain ⟨a,rfl,hw⟩:=zNJ hy
  obtain ⟨ns,hns,h99⟩:=nums_inv g3
  have hb:Bk bk o:=⟨hbk,o1,o3⟩
  obtain ⟨h64,kE,kQ⟩:=kg bk o lo hi hd tl ba to ns hb rfl rfl gw rfl hns h99 g3
  refine ⟨_,rfl,_,rfl,_,rfl,_,rfl,_,rfl,c,a,bk,lo,hi,hd,tl,ba,to,rfl,s3 _ _ hc,hb.hi,hw.same s3,gw.len,fun l out H5 s5 hl hout=>?_⟩
  have s35:=s3.trans s5
  have eok:qE lo hi hd tl out=vG bk lo hi hd tl ba to:=by
   funext x
   unfold qE vG
   rw [hout]
  refine ⟨_,rfl,c,a,l,x,bk,o,lo,hi,hd,tl,ba,to,out,ns,rfl,s35 _ _ hc,hb,h64,hw.same s35,hl,(hns.thg hx).same s35,h99,?_⟩
  rw [eok]
  exact ⟨fun h H6 s6=>kE h H6 (s35.trans s6),fun x q h p H6 s6 hp hq=>kQ x q h p H6 (s35.trans s6) (s35.free hp) hq⟩
abbrev sNF:Stmt:=top 53
theorem zGx:FnScope ["book", "order", "name", "pots", "found", "end", "letter"] ["book", "order", "name"] (defScope sNF):=⟨rfl,rfl,rfl,by decide +kernel,rfl,by decide +kernel,by decide +kernel⟩
def zGy (nb no nn nm:Addr):Sp:=fun vs H Q E=>∃ v u x d e g,vs=[v,u,x]/\zO H d v/\zO H e u/\zO H g x/\sml d=true/\sml e=true/\sml g=true /\
 (y6 d=false->∀ H',zB H H'->E (.ref nb) none H')/\(y6 d=true->vU e=false->∀ H',zB H H'->E (.ref no) none H')/\(y6 d=true->vU e=true->yW g=false->∀ H',zB H H'->E (.ref nn) none H') /\
 (∀ bk o nm',Bk bk o->d=.tuple (bk.map fun x=>PyData.str (tx x))->u=.int (o:Nat)->vI nm'->g=.str (tx nm')->(zE o bk).length < 64 /\
  (¬ (∀ q∈zX o nm',q∈zE o bk)->∀ H',zB H H'->E (.ref nm) none H') /\
  ((∀ q∈zX o nm',q∈zE o bk)->∀ (l:Addr) (H':Hp),zB H H'->H l=none->H' l=some (.lst (yE (qO (zE o bk) (zX o nm'))))->Q (.ref l) H'))
theorem zNk {f:Addr}{fd:FuncData}{nb no nn nm:Addr} (F:Fun K "numbers_for" "numbers_for" sNF f fd) (O:XCls K mg "NotMade" nm) (cNB:uF P w K mg base 3 "need_book" ["thing"] (qQ nb y6)) (cNO:uF P w K mg base 3 "need_order" ["thing"] (qQ no vU)) (cNN:uF P w K mg base 2 "need_name" ["thing"] (qQ nn yW))
  (cP:yH P w K mg base 4 "pots_by_end" ["book", "order"] zBh) (cE:yH P w K mg base 2 "ends_and_letters" ["name", "order"] (zCf K)):FnOk P w K mg base (v8 P w) 5 f fd ["book", "order", "name"] (zGy nb no nn nm):=by
 refine F.okR zGx (fun vs H Q E h=>?_) (fun cdv A outer s H vs Q E hr h ok=>?_)
 ·obtain ⟨v,u,x,d,e,g,rfl,_⟩:=h; rfl
 ·obtain ⟨v,u,x,d,e,g,rfl,hv,hu,hx,sd,se,sg,kb,ko,kn,kg⟩:=h
  have hu1:=gE hr
  have nd:=zGx.nd
  have r2:=hr.mono (j:=2) (by decide)
  have r3:=hr.mono (j:=3) (by decide)
  refine ⟨_,zI (uX (uM cNB ok.pass r3 rfl (zC (pv 0) zD))) (zI (uX (uM cNO ok.pass r3 rfl (zC (pv 1) zD))) (zI (uX (uM cNN ok.pass r2 rfl (zC (pv 2) zD)))
   (zI (z0 (i:=3) nd rfl (Or.inl rfl) (zT cP hr rfl (zC (pv 0) (zC (pv 1) zD))))
   (zI (z0 (i:=4) nd rfl (Or.inl rfl) (yR zD))
   (zI (qI PassesOwn.leaving rfl (zAH (zT cE r2 rfl (zC (pv 2) (zC (pv 1) zD)))) (zAg rfl (qW (yS (i:=5) nd rfl (Or.inl rfl)) (qW (yS (i:=6) nd rfl (Or.inl rfl)) zAG)))
    (zI (yQ (vH zEs (pv 6) (gD hu1 (pv 3) (pv 5) (fun _ _=>rfl)) (by with_unfolding_all rfl)) (zJ (g8 ok rfl O (by rfl) (zC yD zD))) yP)
    (zJ (uX (jM PySem.F.plainAttrs_list PySem.F.slot_list_append PySem.F.type_list_append zCG (pv 4) (zC (jM PySem.F.plainAttrs_list PySem.F.slot_list_index PySem.F.type_list_index zLS (gD hu1 (pv 3) (pv 5) (fun _ _=>rfl)) (zC (pv 6) zD)) zD))))))
   (zJ (zV (pv 4)))))))),?_⟩
  refine ⟨_,rfl,v,d,rfl,hv,sd,fun g1 H1 s1=>?_,fun b1 H1 s1=>kb b1 H1 s1⟩
  refine ⟨_,rfl,u,e,rfl,zO.same s1 _ _ hu,se,fun g2 H2 s2'=>?_,fun b2 H2 s2'=>ko g1 b2 _ (s1.trans s2')⟩
  have s2:=s1.trans s2'
  refine ⟨_,rfl,x,g,rfl,zO.same s2 _ _ hx,sg,fun g3 H3 s3'=>?_,fun b3 H3 s3'=>kn g1 g2 b3 _ (s2.trans s3')⟩
  have s3:=s2.trans s3'
  obtain ⟨c,bk,rfl,hc,hbk,rfl⟩:=zDL hv g1
  obtain ⟨o,rfl,o1,o3⟩:=zDM hu g2
  obtain ⟨y,rfl,hy,rfl⟩:=zLf hx g3
  have hb:Bk bk o:=⟨hbk,o1,o3⟩
  obtain ⟨h64,kE,kQ⟩:=kg bk o y hb rfl rfl hy rfl
  have hne:bk≠[]:=fun z=>by have:=hb.lo; rw [z] at this; simp at this
  have hy8:=hy.2.1
  refine ⟨_,rfl,_,rfl,c,bk,o,rfl,s3 _ _ hc,hb,h64,fun pd H4 s4 hP=>?_⟩
  refine ⟨by show 0<=sizeLine; decide,fun lo hlo=>?_⟩
  have s5:zB H4 (upd H4 lo (.lst [])):=zB.upd1 hlo
  have hlo5:upd H4 lo (.lst []) lo=some (.lst []):=zG
  have hP5:=hP.same s5
  generalize upd H4 lo (.lst [])=H5 at s5 hlo5 hP5
  refine ⟨_,rfl,_,rfl,y,o,rfl,o1,by omega,fun l xs H6 s6 hl hll rp=>?_⟩
  refine ⟨l,rfl,⟨_,.of hll⟩,?_⟩
  have hlo6:=s6 _ _ hlo5
  have hllo:l≠lo:=fun z=>by rw [z,hlo5] at hl; cases hl
  have s36:zB H H6:=(s3.trans s4).trans (s5.trans s6)
  have hloH:H lo=none:=(s3.trans s4).free hlo
  have hP6:=hP5.same s6
  have hxl:xs.length=y.length+1:=by have:=rp.length; rw [<- this,List.length_map,zBc]
  have hpn:∀ ys,¬ Rd H6 lo (.tup ys):=fun ys z=>by rcases z with z | ⟨_,z⟩ <;> rw [hlo6] at z <;> cases z
  refine jN (zAR K l xs) (fun i σ H'=>∃ x5 x6:Option V,σ=[some (.ref c),some (.int o),some (sv y),some (.ref pd),some (.ref lo),x5,x6]/\vL lo H6 H'/\H' lo=some (.lst (yE (qO (zE o bk) ((zX o y).take i))))/\(∀ q∈(zX o y).take i,q∈zE o bk)/\(i<=y.length->vX o bk (y.take i)))
   ⟨_,_,rfl,vL.refl _,hlo6,by simp,fun _=>vX.nil hne⟩ (fun i σ H' _ h=>by obtain ⟨_,_,_,h,_⟩:=h; exact .of (h _ _ hllo hll)) ?_ ?_
  ·rintro i z σ H' Nx hN hz ⟨x5,x6,rfl,sx,hlo',hall,hal⟩
   obtain ⟨p,at',ep,rfl,hsq⟩:=zNe rp hz
   have hi:i < y.length+1:=by have:=(List.getElem?_eq_some_iff.mp ep).1; rwa [zBc] at this
   have hpe:p=(zS (y.take i) o,(y.drop i).take 1):=by
    have h1:=ep
    unfold zX at h1
    rw [List.getElem?_map,List.getElem?_range hi] at h1
    exact (Option.some.inj h1).symm
   have hsq':yG K H' at' [sv p.1,sv p.2]:=by
    rcases hsq with h | h
    ·have hb':at'≠lo:=fun z=>by subst z; exact hpn _ h
     rcases h with h | ⟨ob,h⟩
     ·exact .inl (.inl (sx _ _ hb' h))
     ·exact .inl (.inr ⟨ob,sx _ _ hb' h⟩)
    ·exact .inr h
   have halp:∃ l,(p.1,l)∈zE o bk:=by rw [hpe]; exact hal (by omega)
   have hP':gI H' pd (zE o bk):=by
    obtain ⟨pa,h1,h2,h3,h4⟩:=hP6
    have hd1:pd≠lo:=fun z=>by rw [z,hlo6] at h1; cases h1
    refine ⟨pa,sx _ _ hd1 h1,h2,h3,fun r hr=>?_⟩
    have h5:=h4 r hr
    have hr1:r.2≠lo:=fun z=>by
     rw [z,hlo6] at h5
     have h6:([]:List V)=(pot (zE o bk) r.1).map sv:=HO.lst.inj (Option.some.inj h5)
     obtain ⟨l',hl'⟩:=(h3 r.1).mp (List.mem_map.mpr ⟨r,hr,rfl⟩)
     have h7:=(zAW _ _ _).mpr hl'
     rw [List.map_eq_nil_iff.mp h6.symm] at h7
     cases h7
    exact sx _ _ hr1 h5
   obtain ⟨ra,dg,hra⟩:=hP'.get halp
   refine ⟨at',_,rfl,hsq',rfl,_,_,rfl,_,_,rfl,rfl,?_⟩
   refine ⟨_,rfl,_,rfl,_,rfl,pd,.ref ra,rfl,dg,ra,_,rfl,.inl (.of hra),rfl,zBt _,_,rfl,?_⟩
   rw [show (pot (zE o bk) p.1).map sv=zM (pot (zE o bk) p.1) from rfl,zBs]
   by_cases hin:p.2∈pot (zE o bk) p.1
   ·have hm:=(zAW _ _ _).mp hin
    refine jC hin ?_
    obtain ⟨j1,j2⟩:=zNd hin
    have hjl:(pot (zE o bk) p.1).idxOf p.2 < 1000:=by
     have h1:=List.idxOf_lt_length_iff.mpr hin
     have h2:=zDH (zE o bk) p.1
     have h3:=tot_le (zE o bk) p.1
     omega
    have hra2:H' ra=some (.lst (((pot (zE o bk) p.1).map tx).map V.str)):=by rw [hra,List.map_map]; rfl
    have hnl:(yE (qO (zE o bk) ((zX o y).take i))).length < sizeLine:=by
     rw [zAY]
     unfold qO
     rw [List.length_map,List.length_take,sizeLine_eq]; omega
    refine ⟨_,rfl,.inl ⟨rfl,_,.of hlo'⟩,_,rfl,_,rfl,pd,.ref ra,rfl,dg,.inl ⟨rfl,_,.of hra⟩,_,rfl,ra,(pot (zE o bk) p.1).map tx,tx p.2,_,rfl,rfl,hra2,j1,j2,hjl,lo,_,_,rfl,rfl,hlo',hnl,hN _ _ ⟨_,_,rfl,sx.updf,?_,?_,fun hi'=>?_⟩⟩
    ·rw [zG,qP ep]
     unfold qO yE
     rw [List.map_append,List.map_append]; rfl
    ·intro q hq
     rw [qP ep] at hq
     rcases List.mem_append.mp hq with z | z
     ·exact hall q z
     ·rw [List.mem_singleton.mp z]; exact hm
    ·have hl2:p.2=[y[i]'(by omega)]:=by
      rw [hpe]
      show (y.drop i).take 1=_
      rw [List.drop_eq_getElem_cons (by omega)]; rfl
     have hm2:=hm
     have hp1:p.1=zS (y.take i) o:=by rw [hpe]
     have hm3:(zS (y.take i) o,[y[i]'(by omega)])∈zE o bk:=by rw [<- hp1,<- hl2]; exact hm
     rw [List.take_succ_eq_append_getElem (by omega)]
     exact vX.next hm3
   ·refine jO hin ?_
    refine ⟨by show 1<=sizeLine; decide,kE (fun hq=>hin ((zAW _ _ _).mpr (hq p (List.mem_of_getElem? ep)))) H' (vL.same s36 hloH sx)⟩
  ·rintro σ H' ⟨x5,x6,rfl,sx,hlo',hall,hal⟩
   have e1:(zX o y).take xs.length=zX o y:=by rw [hxl,<- zBc o y,List.take_length]
   rw [e1] at hlo' hall
   exact ⟨_,rfl,kQ hall lo H' (vL.same s36 hloH sx) hloH hlo'⟩
end
end Kn.Dr
end
section
namespace Kn
open PySem L2
theorem zDr:∀ l:List S,qC l=true↔l.Pairwise (· < ·)
 | []=>by simp [qC]
 | [x]=>by simp [qC]
 | x::y::l=>by
  have ih:=zDr (y::l)
  have e:qC (x::y::l)=(decide (x < y) && qC (y::l)):=by simp [qC]
  rw [e,Bool.and_eq_true,decide_eq_true_eq,ih]
  constructor
  ·rintro ⟨h1,h2⟩
   refine List.pairwise_cons.mpr ⟨fun z hz=>?_,h2⟩
   rcases List.mem_cons.mp hz with rfl | hz
   ·exact h1
   ·exact List.lt_trans h1 ((List.pairwise_cons.mp h2).1 z hz)
  ·intro h
   exact ⟨(List.pairwise_cons.mp h).1 y (List.mem_cons_self ..),(List.pairwise_cons.mp h).2⟩
def kB:List S:=[[97],[97,97],[97,98],[98],[98,97],[122]]
def gL:List S:=[[],[],[97],[98],[97,98],[97,98,97],[122]]
theorem zNl:[V.str "a",V.str "aa",V.str "ab",V.str "b",V.str "ba",V.str "z"]=zM kB:=by
 have e1:("a" : Str)=tx [97]:=by decide +kernel
 have e2:("aa" : Str)=tx [97,97]:=by decide +kernel
 have e3:("ab" : Str)=tx [97,98]:=by decide +kernel
 have e4:("b" : Str)=tx [98]:=by decide +kernel
 have e5:("ba" : Str)=tx [98,97]:=by decide +kernel
 have e6:("z" : Str)=tx [122]:=by decide +kernel
 rw [e1,e2,e3,e4,e5,e6]; rfl
theorem zNm:[V.str "",V.str "",V.str "a",V.str "b",V.str "ab",V.str "aba",V.str "z"]=zM gL:=by
 have e0:("" : Str)=tx []:=by decide +kernel
 have e1:("a" : Str)=tx [97]:=by decide +kernel
 have e3:("ab" : Str)=tx [97,98]:=by decide +kernel
 have e4:("b" : Str)=tx [98]:=by decide +kernel
 have e5:("aba" : Str)=tx [97,98,97]:=by decide +kernel
 have e6:("z" : Str)=tx [122]:=by decide +kernel
 rw [e0,e1,e3,e4,e5,e6]; rfl
theorem zGz:kB.Pairwise (· < ·)/\∀ x∈kB,vI x:=by
 refine ⟨(zDr _).mp (by decide),fun x hx=>?_⟩
 unfold kB at hx
 simp only [List.mem_cons,List.not_mem_nil,or_false] at hx
 rcases hx with rfl | rfl | rfl | rfl | rfl | rfl <;> (refine ⟨by decide,by decide,?_⟩; decide)
theorem zNn:∀ x∈gL,x=[]\/(vI x/\x.length<=3):=fun x hx=>by
 unfold gL at hx
 simp only [List.mem_cons,List.not_mem_nil,or_false] at hx
 rcases hx with rfl | rfl | rfl | rfl | rfl | rfl | rfl
 ·exact .inl rfl
 ·exact .inl rfl
 all_goals (refine .inr ⟨⟨by decide,by decide,?_⟩,by decide⟩; decide)
theorem zNo {l:List S} (h:l.Sublist kB):l.length<=6/\(∀ x∈l,vI x)/\qC l=true :=
 ⟨h.length_le,fun x hx=>zGz.2 x (h.subset hx),(zDr _).mpr (zGz.1.sublist h)⟩
section
variable {P:Program}{w:World}{K:PySem.W.Frag}{mg:Str->Option Value}{base:Heap}
def zHA (K:PySem.W.Frag):Sp:=fun vs H Q _=>∃ (a:Addr) (ns:List Int) (at':Nat),vs=[.ref a,.int at']/\yJ K H a (ns.map V.int)/\ns.length<=63 /\
 ∀ (p:Addr) (lo hi:Int) (hd tl:S) (ba:List S) (to:Bool) (H':Hp),zB H H'->GW lo hi hd tl ba->qS H' p lo hi hd tl ba to->Q (.ref p) H'
abbrev sLW:Stmt:=top 65
theorem zHB:FnScope ["_law_script", "_law_at", "_law_least", "_law_most", "_law_ends", "_law_barred", "_law_k", "_law_name_here", "_law_head"] ["_law_script", "_law_at"] (defScope sLW):=⟨rfl,rfl,rfl,by decide +kernel,rfl,by decide +kernel,by decide +kernel⟩
theorem zNp {f:Addr}{fd:FuncData} (F:Fun K "_law_wish" "_law_wish" sLW f fd) (B:Blt mg) (hen:mg "enumerate" = none) (cD:yH P w K mg base 2 "_law_drawn" ["_law_script", "_law_k", "_law_many"] (zBd K)):FnOk P w K mg base yF 3 f fd ["_law_script", "_law_at"] (zHA K):=by
 refine F.ok zHB (fun vs H Q E h=>?_) (fun cdv A outer s H vs Q E hr h=>?_)
 ·obtain ⟨a,ns,at',rfl,_⟩:=h; rfl
 ·obtain ⟨a,ns,at',rfl,hsc,h63,k⟩:=h
  have nd:=zHB.nd
  refine ⟨_,zI (z0 (i:=2) nd rfl (Or.inl rfl) (zP yT zH (zT cD hr rfl (zC (pv 0) (zC (pv 1) (zC zH zD))))))
   (zI (z0 (i:=3) nd rfl (Or.inl rfl) (zP yT (pv 2) (zT cD hr rfl (zC (pv 0) (zC (zP yT (pv 1) zH) (zC (zP zBI zH (pv 2)) zD))))))
   (zI (z0 (i:=4) nd rfl (Or.inl rfl) (yR (zC yD (zC yD (zC yD (zC yD (zC yD (zC yD (zC yD zD)))))))))
   (zI (z0 (i:=5) nd rfl (Or.inl rfl) (yR zD))
   (zI (qI PassesOwn.never rfl (zFd rfl hen (zC (yR (zC yD (zC yD (zC yD (zC yD (zC yD (zC yD zD))))))) zD)) (zAg rfl (qW (yS (i:=6) nd rfl (Or.inl rfl)) (qW (yS (i:=7) nd rfl (Or.inl rfl)) zAG)))
    (zJ (yQ (vH zAL (zT cD hr rfl (zC (pv 0) (zC (zP yT (zP yT (pv 1) zH) (pv 6)) (zC zH zD)))) zH (vC _))
     (zJ (uX (jM PySem.F.plainAttrs_list PySem.F.slot_list_append PySem.F.type_list_append zCG (pv 5) (zC (pv 7) zD)))) yP)))
   (zI (z0 (i:=8) nd rfl (Or.inl rfl) (yK jT (pv 4) (zT cD hr rfl (zC (pv 0) (zC (zP yT (pv 1) zH) (zC zH zD)))) (fun _ _=>rfl)))
   (zJ (zV (vJ (zC (pv 2) (zC (pv 3) (zC (pv 8) (zC (yK jT (pv 4) (zT cD hr rfl (zC (pv 0) (zC (zP yT (pv 1) zH) (zC zH zD)))) (fun _ _=>rfl))
    (zC (zBM zIw (by rfl) B.tuple PyProof.Rows.boot_tuple (zC (pv 5) zD)) (zC (gT zAL (zT cD hr rfl (zC (pv 0) (zC (zP yT (pv 1) zH) (zC zH zD)))) zH (vC _)) zD)))))))))))))),?_⟩
  refine ⟨_,rfl,_,rfl,a,ns,at',3,rfl,hsc,h63,by decide,by decide,fun d0 H1 hd0 s1=>?_⟩
  refine ⟨_,_,rfl,rfl,_,rfl,_,rfl,_,rfl,_,_,rfl,rfl,_,rfl,_,_,rfl,rfl,a,ns,at'+1,4 - d0,?_,s1.seq hsc,h63,by omega,by omega,fun d1 H2 hd1 s2'=>?_⟩
  ·have e1:((at'+1:Nat):Int)=(at':Int)+1:=by omega
   have e2:((4 - d0:Nat):Int)=5 - (1+(d0:Int)):=by omega
   rw [e1,e2]; rfl
  have s2:=s1.trans s2'
  refine ⟨_,_,rfl,rfl,?_⟩
  refine ⟨by show 7<=sizeLine; decide,fun pe hpe=>?_⟩
  have hpe1:(upd H2 pe (.lst [V.str "",V.str "",V.str "a",V.str "b",V.str "ab",V.str "aba",V.str "z"])) pe=some (.lst (zM gL)):=by rw [zG,zNm]
  have s3:=s2.trans (zB.upd1 (o:=.lst [V.str "",V.str "",V.str "a",V.str "b",V.str "ab",V.str "aba",V.str "z"]) hpe)
  generalize upd H2 pe (.lst [V.str "",V.str "",V.str "a",V.str "b",V.str "ab",V.str "aba",V.str "z"])=HA at s3 hpe1 ⊢
  refine ⟨by show 0<=sizeLine; decide,fun g hg=>?_⟩
  refine ⟨by show 6<=sizeLine; decide,fun en hen2=>⟨en,_,rfl,zG,?_⟩⟩
  have neg:en≠g:=fun z=>by subst z; rw [zG] at hen2; cases hen2
  refine zFe (K:=K) (xs:=[V.str "a",V.str "aa",V.str "ab",V.str "b",V.str "ba",V.str "z"]) (fun i σ H'=>∃ (y z:Option V) (sl:List S),σ=[some (.ref a),some (.int (at':Int)),some (.int (1+(d0:Int))),some (.int (1+(d0:Int)+(d1:Int))),some (.ref pe),some (.ref g),y,z,none]/\zB HA H'/\H' g=some (.lst (zM sl)) /\
    H' en=some (.lst [V.str "a",V.str "aa",V.str "ab",V.str "b",V.str "ba",V.str "z"])/\sl.Sublist (kB.take i))
   ⟨_,_,[],rfl,(zB.upd1 hg).trans (zB.upd1 hen2),(zB.upd1 hen2) _ _ zG,zG,List.nil_sublist _⟩ (fun i σ H' _ h=>by obtain ⟨_,_,_,_,_,_,h,_⟩:=h; exact .of h) ?_ ?_
  ·rintro i x T σ H' Nx hN hx ⟨y,z,sl,rfl,sm,hg',hen',hsub⟩ hT
   have t1:zB H' (upd H' T (.tup [.int i,x])):=zB.upd1 hT
   refine ⟨T,_,rfl,.of zG,rfl,_,_,rfl,_,_,rfl,rfl,?_⟩
   have sm1:=sm.trans t1
   have hg1:=t1 _ _ hg'
   have he1:=t1 _ _ hen'
   rw [zNl] at hx
   obtain ⟨nm,hnm,rfl⟩:=zBq hx
   have hi:i < kB.length:=(List.getElem?_eq_some_iff.mp hnm).1
   have hi6:i < 6:=hi
   have etk:kB.take (i+1)=kB.take i++[nm]:=by rw [List.take_succ_eq_append_getElem hi,(List.getElem?_eq_some_iff.mp hnm).2]
   refine ⟨_,rfl,_,rfl,_,_,rfl,rfl,_,rfl,_,_,rfl,rfl,a,ns,at'+4+i,3,?_,(s3.trans sm1).seq hsc,h63,by decide,by decide,fun d H3 hd s4=>?_⟩
   ·have e1:((at'+4+i:Nat):Int)=(at':Int)+4+(i:Int):=by omega
    rw [e1]; rfl
   have sm2:=sm1.trans s4
   have hg2:=s4 _ _ hg1
   have he2:=s4 _ _ he1
   refine ⟨rfl,_,rfl,?_⟩
   by_cases hz:(d:Int)=0
   ·have e0:decide (V.int (d:Int)=V.int 0)=true:=decide_eq_true (by rw [hz])
    rw [e0]
    refine z7 ?_
    have hl6:sl.length<=6:=Nat.le_trans hsub.length_le (by rw [List.length_take]; omega)
    refine ⟨_,rfl,.inl ⟨rfl,_,.of hg2⟩,_,rfl,g,_,_,rfl,rfl,hg2,by unfold zM; rw [List.length_map,sizeLine_eq]; omega,hN _ _ ⟨_,_,sl++[nm],rfl,sm2.upd_new hg,by rw [zG]; unfold zM; rw [List.map_append]; rfl,by rw [zN neg]; exact he2,?_⟩⟩
    rw [etk]
    exact hsub.append (List.Sublist.refl _)
   ·have e0:decide (V.int (d:Int)=V.int 0)=false:=decide_eq_false (fun q=>hz (by injection q))
    rw [e0]
    refine yU (hN _ _ ⟨_,_,sl,rfl,sm2,hg2,he2,?_⟩)
    rw [etk]
    exact hsub.trans (List.sublist_append_left _ _)
  ·rintro σ H' ⟨y,z,sl,rfl,sm,hg',hen',hsub⟩
   have hsub':sl.Sublist kB:=hsub
   obtain ⟨b1,b2,b3⟩:=zNo hsub'
   have sH:=s3.trans sm
   refine ⟨_,rfl,_,rfl,_,rfl,_,_,rfl,rfl,a,ns,at'+2,7,?_,sH.seq hsc,h63,by decide,by decide,fun d2 H4 hd2 s4=>?_⟩
   ·have e1:((at'+2:Nat):Int)=(at':Int)+2:=by omega
    rw [e1]; rfl
   have s4H:=sH.trans s4
   have hpe4:=s4 _ _ (sm _ _ hpe1)
   have hg4:=s4 _ _ hg'
   have ge7:∀ {d:Nat},d < 7->∃ x,gL[d]?=some x/\(zM gL)[d]?=some (sv x)/\(x=[]\/(vI x/\x.length<=3)):=fun {d} hd=>by
    have hd':d < gL.length:=hd
    refine ⟨gL[d],List.getElem?_eq_getElem hd',?_,zNn _ (List.getElem_mem hd')⟩
    unfold zM
    rw [List.getElem?_map,List.getElem?_eq_getElem hd']; rfl
   obtain ⟨hx,_,hx2,hx3⟩:=ge7 hd2
   refine ⟨pe,_,(d2:Int),sv hx,rfl,rfl,.of hpe4,qY hx2,?_⟩
   refine ⟨_,rfl,_,rfl,_,rfl,_,rfl,_,rfl,_,rfl,_,_,rfl,rfl,a,ns,at'+3,7,?_,s4H.seq hsc,h63,by decide,by decide,fun d3 H5 hd3 s5=>?_⟩
   ·have e1:((at'+3:Nat):Int)=(at':Int)+3:=by omega
    rw [e1]; rfl
   obtain ⟨tx',_,tx2,tx3⟩:=ge7 hd3
   have s5H:=s4H.trans s5
   have hg5:=s5 _ _ hg4
   refine ⟨pe,_,(d3:Int),sv tx',rfl,rfl,.of (s5 _ _ hpe4),qY tx2,?_⟩
   refine ⟨_,rfl,g,_,rfl,.inl ⟨.of hg5,fun pt hpt=>?_⟩⟩
   have t6:=zB.upd1 (o:=.tup (zM sl)) hpt
   have s6H:=s5H.trans t6
   refine ⟨_,rfl,_,rfl,_,_,rfl,rfl,a,ns,at'+10,2,?_,s6H.seq hsc,h63,by decide,by decide,fun d4 H7 hd4 s7=>?_⟩
   ·have e1:((at'+10:Nat):Int)=(at':Int)+10:=by omega
    rw [e1]; rfl
   refine ⟨rfl,by show 6<=sizeLine; decide,fun p hp=>?_⟩
   have t8:=zB.upd1 (o:=.tup [.int (1+(d0:Int)),.int (1+(d0:Int)+(d1:Int)),sv hx,sv tx',.ref pt,.bl (decide (V.int (d4:Int)=V.int 0))]) hp
   refine k p (1+(d0:Int)) (1+(d0:Int)+(d1:Int)) hx tx' sl (decide (V.int (d4:Int)=V.int 0)) _ ((s6H.trans s7).trans t8) ⟨by omega,by omega,by omega,hx3,tx3,b1,b2,b3⟩ ⟨pt,zG,t8 _ _ (s7 _ _ zG)⟩
end
end Kn
end
section
namespace Kn
open PySem L2
def zDs (f:Expr->Option PyData):List Expr->Option (List PyData)
 | []=>some []
 | e::es=>(f e).bind fun d=>(zDs f es).map fun ds=>d::ds
def lit:Nat->Expr->Option PyData
 | 0,_=>none
 | n+1,e=>match e with
  | .Constant (.int i) _ _=>some (.int i)
  | .Constant (.bool b) _ _=>some (.bool b)
  | .Constant .none _ _=>some .none
  | .Constant (.str x) _ _=>some (.str x)
  | .Tuple es _ _=>if es.length<=900 then (zDs (lit n) es).map .tuple else none
  | .List es _=>if es.length<=900 then (zDs (lit n) es).map .list else none
  | _=>none
def zHC:Expr->Bool
 | .Starred ..=>false
 | _=>true
theorem zNq {e:Expr}{es:List Expr} (h:zHC e=true) (env):starEach (e::es) env=(false,eval e env)::starEach es env:=by
 cases e <;> first | rfl | (cases h)
section
variable {X:Cx}{e:Expr}{es:List Expr}{te:TE}{t:TA}{pos:Pos}
theorem zF (ha:PE X e te) (hr:PA X es t) (hs:zHC e=true:=by rfl):PA X (e::es) (zCB te t):=zC ha hr (zNq hs _)
end
end Kn
end
section
namespace L2
open PySem PySem.Spec PyProof.Rows
section
variable {X:Cx}
theorem zNr {j:Nat}{y:Str}{py spos:Pos}{tg iter elt:Expr}{ifs:List Expr}{scope:Scope}{pos:Pos}{wi:TI}{g:TG}{tc:TT}{te:TE}{N:List Str}{caps:List Nat} (hN:X.N.Nodup) (hj:X.N[j]?=some y) (hy:Loc X.env.scope y) (hc:X.calm=true) (S:CompScope X.env.scope X.N N scope caps)
  (hi:PI X tg iter wi) (hg:∀ cl C s H ex,PG (vK X N scope cl C s H ex) tg g) (hf:∀ cl C s H ex,PF (vK X N scope cl C s H ex) ifs tc) (he:∀ cl C s H ex,PE (vK X N scope cl C s H ex) elt te)
  (hs:∀ x,foldedSetIterable iter X.env x=pure x:=by intro _; rfl) (hsw:swapsWith (.ListComp elt [⟨tg,iter,ifs,0⟩] scope pos) (some (.Name y py)) spos.line X.env=pure true:=by rfl)
  (hfn:X.fn y=true\/X.env.scope.names.lookup y=some .local:=by first | exact .inl rfl | exact .inr rfl | assumption):PS X (.Assign [.Name y py] (.ListComp elt [⟨tg,iter,ifs,0⟩] scope pos) spos) (zEN (zFJ wi g tc te caps N.length) (zBx j)):=by
 intro pins s σ H D0 I h
 obtain ⟨cl,hcl,hcl1,hcl2⟩:=zFF (env:=X.env) (scope:=scope) fun y hy e=>I.ok.has y.1 (S.free y hy e)
 rw [exec_Assign_Name_used _ _ _ _ hsw]
 refine wpAny_bind (wpAny_standAt (wpAny_bind ?_))
 show wpAny _ X.A (do let _ <- comprehension (.ListComp elt [⟨tg,iter,ifs,0⟩] scope pos) scope X.env _ (newList []) false (eval iter X.env) (some (assign (.Name y py) X.env))) _ _ s
 refine wpAny_bind (wpAny_mono (wpAny_comprehension_free (use:=some (assign (.Name y py) X.env)) (Q:=fun _ s'=>SP X pins D0 .next s') rfl hs hcl S.kind S.names (zK (hi pins s σ H _ I h) fun v s1 h1=>zK h1 fun itv s2 h2=>?_))
  (fun _ s' hq=>wpAny_pure (wpAny_pure hq)) fun _ _ e=>e)
 obtain ⟨it,fp,tn,J,H2,e,I2,T,st2,f2,W,⟨m0,w0⟩,turn⟩:=h2
 subst e
 refine wpAny_newObj_type (wpAny_newFunctionEnv S.nocell (by intro y hy; simp at hy) (fun h₁ hns hsb=>?_) S.kind)
 dsimp only at hns hsb ⊢
 generalize hG:s2.heap.push { cls:=.type "list",dict:=none,data:=.seq ([]:List Value).toArray }=G at hns hsb ⊢
 have hCs:G.objs.size=s2.heap.objs.size+1:=by rw [<- hG,Heap.size_push]
 have hDC:s2.heap.objs.size≠G.objs.size:=by rw [hCs]; exact Nat.ne_of_lt (Nat.lt_succ_self _)
 have old:∀ b o,s2.heap.get? b=some o->h₁.get? b=some o:=fun b o e=>by
  have hb:=Heap.lt_size e
  refine hsb.extBut b o (by rw [hCs]; exact Nat.ne_of_lt (Nat.lt_succ_of_lt hb)) (Heap.get?_push_of_some _ ?_)
  rw [<- hG]
  exact Heap.get?_push_of_some _ e
 have hD:h₁.get? s2.heap.objs.size=some { cls:=.type "list",dict:=none,data:=.seq ([]:List Value).toArray }:=by
  refine hsb.extBut _ _ hDC (Heap.get?_push_of_some _ ?_)
  rw [<- hG]
  exact Heap.get?_push_size _ rfl
 have hfo:∀ b∈fp,b < s2.heap.objs.size:=fun b hb=>let ⟨o,e,_⟩:=T.obj 0 _ st2 b hb; Heap.lt_size e
 have hCle:s2.heap.objs.size<=G.objs.size:=by omega
 have ok:=zFK (C:=G.objs.size) I2 S hcl1 hcl2 hCle f2 hfo
 have I0:Inv (vK X N scope cl G.objs.size s2 H2 fp) [(s2.heap.objs.size,{ cls:=.type "list",dict:=none,data:=.seq ([]:List Value).toArray })] (uS caps N.length σ) H2 { s2 with heap:=h₁,toks:=s2.toks+([]:List (Str × Value)).length } :=
  zFL I2 ok S hcl1 hcl2 old hns hCle hD (Nat.le_refl _) hDC (fun v z=>by cases z)
 have st1:tn 0 h₁:=T.keep 0 _ _ st2 fun b _ o e=>old b o e
 generalize hX:vK X N scope cl G.objs.size s2 H2 fp=X' at I0
 generalize hDa:s2.heap.objs.size=D at I0 hD hDC
 have loop:codeAny (model X.prog X.w) X.A (.compLoop (.ListComp elt [⟨tg,iter,ifs,0⟩] scope pos) 0 (.ref it) (.ref D) (compEnvC scope cl G.objs.size X.env)) (compPost (model X.prog X.w) X.A X.xe (some (assign (.Name y py) X.env)) (fun _ s'=>SP X pins D0 .next s') (.ref D) G.objs.size)
   { s2 with heap:=h₁,toks:=s2.toks+([]:List (Str × Value)).length }:=by
  subst hX
  refine zFG (J:=fun n s'=>∃ i σ' H' acc its e,Inv (vK X N scope cl G.objs.size s2 H2 fp) [(D,{ cls:=.type "list",data:=.seq (List.toArray its) e })] σ' H' s'/\zL acc its/\acc.length<=sizeLine/\tn i s'.heap/\(∀ b∈fp,H' b=none)/\W i n acc σ' H')
   ?_ m0 ⟨0,_,H2,[],[],0,I0,.nil,Nat.zero_le _,st1,fun b hb=>(f2 b hb).1,w0⟩
  rintro n s3 ⟨i,σ3,H3,acc,its,ep,I3,rv,hz,st3,fr3,w3⟩
  have stat:∀ {H':Hp} {pl:List (Addr × Obj)},(∀ b∈fp,H' b=none)->(∀ p∈pl,p.1=D)->∀ b∈fp,uY (vK X N scope cl G.objs.size s2 H2 fp) pl H' b:=fun {H' pl} hn hpl b hb=>by
   obtain ⟨a1,a2⟩:=ok.exf b hb
   exact ⟨hn b hb,a1,ok.exfs b hb,.inl hb,fun x c e=>a2 x c e,fun p hp=>by
    have hp':p∈pl:=hp
    rw [hpl p hp',<- hDa]
    exact Nat.ne_of_gt (hfo b hb)⟩
  have one:∀ p∈[(D,({ cls:=.type "list",data:=.seq (List.toArray its) ep }:Obj))],p.1=D:=fun p hp=>by
   rcases List.mem_cons.mp hp with e | e
   ·rw [e]
   ·cases e
  have pinD:∀ {pl:List (Addr × Obj)} {σ':St} {H':Hp} {s':Shared} {o:Obj},Inv (vK X N scope cl G.objs.size s2 H2 fp) pl σ' H' s'->(D,o)∈pl->s'.heap.get? D=some o/\H' D=none:=fun {pl σ' H' s' o} I' hm=>by
   obtain ⟨a,b,_⟩:=I'.pin (D,o) (List.mem_append_right _ hm)
   exact ⟨a,b⟩
  rcases turn i n acc σ3 H3 w3 with ⟨stop,q⟩ | ⟨go,hlt,step⟩
  ·refine wpAny_mono (T.done (vK X N scope cl G.objs.size s2 H2 fp) rfl rfl rfl hc i _ s3 σ3 H3 (fun _ _=>False) I3 (stat fr3 one) st3 stop) (fun r s4 ⟨hr,I4⟩=>?_) fun _ _ f=>f
   subst hr
   obtain ⟨hDo,hDn⟩:=pinD I4 (List.mem_cons_self ..)
   obtain ⟨m4,hm4,_⟩:=I4.loc
   have keepC:∀ b (u:Obj),b≠G.objs.size->s4.heap.get? b=some u->s4.heap.get? b=some u:=fun b u _ e=>e
   have un:Un (y9 X.stack) fp H2 H3 s2.heap s4.heap:=I4.base
   have hDo':=hDo
   have hlow:∀ b (o:Obj),s2.heap.get? b=some o->b≠G.objs.size/\b≠D:=fun b o e=>by
    have h0:=Heap.lt_size e
    exact ⟨by rw [hCs]; exact Nat.ne_of_lt (Nat.lt_succ_of_lt h0),by rw [<- hDa]; exact Nat.ne_of_lt h0⟩
   have un':Un (y9 X.stack) fp H2 (upd H3 D (.lst acc)) s2.heap s4.heap :=
    ⟨fun b o e n' hb hx=>keepC b o (hlow b o e).1 (un.keep b o e n' hb hx),
     fun b o e n' hb hx=>let ⟨sl,q⟩:=un.slot b o e n' hb hx; ⟨sl,keepC b _ (hlow b o e).1 q⟩,
     fun b o e n' hx=>by rw [zN (hlow b o e).2]; exact un.free b o e n' hx,
     fun b o e hx=>let ⟨o',q⟩:=un.there b o e hx; ⟨o',keepC b _ (hlow b o e).1 q⟩,
     fun b xs e=>by rw [zN (vO (un.tups b xs e) hDn)]; exact un.tups b xs e,
     fun b o u e=>by rw [zN (vO (un.frzs b o u e) hDn)]; exact un.frzs b o u e,
     fun b ps e=>let ⟨mo,q⟩:=un.tbls b ps e; ⟨mo,by rw [zN (vO q hDn)]; exact q⟩⟩
   have hok:zZ X.prog X.w (upd H3 D (.lst acc)) s4.heap:=I4.hok.track hDn ⟨hz,its,ep,rv,hDo'⟩
   have IX:Inv X pins σ (upd H3 D (.lst acc)) s4:=I2.call' I4.os un' hok I4.bare (fun b hb=>by
    obtain ⟨_,f1,_,f3,f4,f5⟩:=f2 b hb
    exact ⟨f3,f1,f4,f5⟩)
   have hCn:upd H3 D (.lst acc) G.objs.size=none:=by
    rw [zN (Ne.symm hDC)]; exact I4.free
   have fpC:uY X pins (upd H3 D (.lst acc)) G.objs.size:=I2.fpOk hCle hCn
   obtain ⟨oC,es,epC,hoC,hdC,hsk,hnf⟩:=hm4
   have IXp:=IX.pinned (fp:=[G.objs.size]) (fun b hb=>by
    have:b=G.objs.size:=by simpa using hb
    rw [this]; exact fpC) (fun b hb=>by
    have:b=G.objs.size:=by simpa using hb
    rw [this]; exact ⟨oC,hoC,fun v z=>by rw [hdC] at z; cases z⟩)
   refine wpAny_assign_Name (zBE IXp hN hj hy (v:=.ref D) rfl (fun s5 I5=>?_) hfn)
   have pC:=(I5.pin (G.objs.size,oC) (List.mem_append_right _ (List.mem_append_right _ (gR (List.mem_cons_self ..) hoC)))).1
   refine ⟨m4,⟨oC,es,epC,pC,hdC,hsk,hnf⟩,fun h' hsb'=>?_⟩
   obtain ⟨c0,c1,c2,c3,c4,c5⟩:=fpC
   exact ⟨_,_,I5.unpinned.turned (t':=s5.toks) (fun b o hb e=>hsb'.extBut b o hb e) c0 c1 c3 c4 c5,q D hDn⟩
  ·refine wpAny_mono (T.item (vK X N scope cl G.objs.size s2 H2 fp) rfl rfl rfl hc i _ s3 σ3 H3 (fun _ _=>False) I3 (stat fr3 one) st3 go) (fun r s4 ⟨u,hr,h4⟩=>?_) fun _ _ f=>f
   subst hr
   refine zK h4 fun _ s5 ⟨x,H5,I5,r5,y5,st5,fr5⟩=>?_
   have I5':=I5.pinned (stat fr5 one) (T.obj _ _ st5)
   refine zK (hg cl G.objs.size s2 H2 fp _ s5 σ3 H5 x u _ I5' r5 (step x H5 y5)) fun _ s6 ⟨σ6,H6,I6,q6⟩=>?_
   refine zK (hf cl G.objs.size s2 H2 fp _ s6 σ6 H6 _ I6 q6) fun b s7 ⟨H7,I7,q7⟩=>?_
   have fin:∀ {pl:List (Addr × Obj)} {σ':St} {H':Hp} {s':Shared},Inv (vK X N scope cl G.objs.size s2 H2 fp) (pl++zAI fp s5.heap) σ' H' s'->tn (i+1) s'.heap/\∀ b∈fp,H' b=none:=fun {pl σ' H' s'} I'=>by
    refine ⟨T.keep _ _ _ st5 fun b hb o e=>(I'.pin (b,o) (List.mem_append_right _ (List.mem_append_right _ (gR hb e)))).1,fun b hb=>?_⟩
    obtain ⟨o,e,_⟩:=T.obj _ _ st5 b hb
    exact (I'.pin (b,o) (List.mem_append_right _ (List.mem_append_right _ (gR hb e)))).2.1
   cases b with
   | false =>
    rw [if_neg Bool.false_ne_true] at q7 ⊢
    obtain ⟨m',hm,w7⟩:=q7
    obtain ⟨a1,a2⟩:=fin I7
    exact ⟨m',hm,i+1,σ6,H7,acc,its,ep,I7.unpinned,rv,hz,a1,a2,w7⟩
   | true =>
    rw [if_pos rfl] at q7 ⊢
    refine zK (he cl G.objs.size s2 H2 fp _ s7 σ6 H7 _ I7 q7) fun y s8 ⟨yv,H8,I8,r8,m',hm,w8⟩=>?_
    obtain ⟨a1,a2⟩:=fin I8
    obtain ⟨b1,b2⟩:=pinD I8 (List.mem_append_left _ (List.mem_cons_self ..))
    have hl:=rv.length
    refine call_meets F.slot_list_append ⟨_,b1,rfl⟩ F.entry_list_append (F.args_list_append_2 _ _) (PySem.list_append D its.toArray ep y (by rw [List.size_toArray]; omega)) ⟨b1,?_⟩
    have q9:=PySem.IsL.update b1 (·.push y)
    have kp:∀ b o,b≠D->s8.heap.get? b=some o->(s8.heap.update D (Obj.mapSeq (·.push y))).get? b=some o:=fun b o hb e=>(Heap.get?_update_other s8.heap (Obj.mapSeq (·.push y)) (Ne.symm hb)).trans e
    have I9:Inv (vK X N scope cl G.objs.size s2 H2 fp) [] σ6 H8 { s8 with heap:=s8.heap.update D (Obj.mapSeq (·.push y)) } :=
     (I8.pins_of (pins':=[]) fun p hp=>by cases hp).turned (t':=s8.toks) kp b2 hDC (.inr (by rw [<- hDa]; exact Nat.le_refl _)) (fun x c e z=>by
      have e':X.env.cells.lookup x=some c:=hcl1 x c e
      obtain ⟨v',hv'⟩:=I2.cell x c e'
      have h0:=hv'.lt
      rw [z,<- hDa] at h0
      exact Nat.lt_irrefl _ h0) fun p hp=>by
       have:p∈([]:List (Addr × Obj)):=hp
       cases this
    have hpu:its.toArray.push y=(its++[y]).toArray:=by simp
    rw [hpu] at q9
    obtain ⟨e9,q9⟩:∃ e9,(s8.heap.update D (Obj.mapSeq (·.push y))).get? D=some { cls:=.type "list",data:=.seq (its++[y]).toArray e9 }:=⟨_,q9⟩
    refine ⟨m',hm,i+1,σ6,H8,acc++[yv],its++[y],e9,I9.pins_of fun p hp=>?_,rv.append (.cons r8 .nil),?_,T.keep _ _ _ a1 fun b hb o e=>kp b o ?_ e,a2,w8⟩
    ·obtain rfl:p=(D,{ cls:=.type "list",data:=.seq (its++[y]).toArray e9 }):=by
      rcases List.mem_cons.mp hp with e | e
      ·exact e
      ·cases e
     obtain ⟨_,_,c3,c4,_⟩:=I8.pin (D,_) (List.mem_append_right _ (List.mem_append_left _ (List.mem_cons_self ..)))
     exact ⟨q9,b2,c3,c4,fun v z=>by cases z⟩
    ·rw [List.length_append,List.length_singleton]; omega
    ·rintro rfl
     have h0:=hfo b hb
     rw [hDa] at h0
     exact Nat.lt_irrefl _ h0
 exact codeAny_compStart_list loop (T.self X.A 0 _ _ _ st1 loop)
end
end L2
end
section
namespace Kn
open PySem L2
def v9 (n:Nat) (d:PyData):Prop:=sml d=true/\d.canLay0=true/\d.depth<=n
theorem v9.sh {n:Nat}{d:PyData} (h:v9 n d) (hn:n<=64):SeqAt.shaped d=true:=by
 unfold SeqAt.shaped
 rw [h.2.1,decide_eq_true (show d.depth<=64 by have:=h.2.2; omega)]; rfl
theorem v9.mono {n m:Nat}{d:PyData} (h:v9 n d) (hm:n<=m):v9 m d:=⟨h.1,h.2.1,Nat.le_trans h.2.2 hm⟩
theorem zHD {ds:List PyData}{n:Nat} (h:∀ d∈ds,v9 n d):smls ds=true/\PyData.canLayAll0 ds=true/\PyData.depthAll ds<=n:=by
 induction ds with
 | nil=>exact ⟨rfl,rfl,Nat.zero_le _⟩
 | cons d ds ih =>
  obtain ⟨a1,a2,a3⟩:=h d (List.mem_cons_self ..)
  obtain ⟨b1,b2,b3⟩:=ih fun e he=>h e (List.mem_cons_of_mem _ he)
  refine ⟨by simp only [smls,a1,b1,Bool.and_self],by simp only [PyData.canLayAll0,a2,b2,Bool.and_self],?_⟩
  simp only [PyData.depthAll]; omega
theorem vS {ds:List PyData}{n:Nat} (h:∀ d∈ds,v9 n d) (hl:ds.length<=900):v9 (n+1) (.tuple ds):=by
 obtain ⟨a,b,c⟩:=zHD h
 refine ⟨by simp only [sml,a,Bool.and_true]; exact decide_eq_true hl,by simp only [PyData.canLay0]; exact b,?_⟩
 simp only [PyData.depth]; omega
theorem okL {ds:List PyData}{n:Nat} (h:∀ d∈ds,v9 n d) (hl:ds.length<=900):v9 (n+1) (.list ds):=by
 obtain ⟨a,b,c⟩:=zHD h
 refine ⟨by simp only [sml,a,Bool.and_true]; exact decide_eq_true hl,by simp only [PyData.canLay0]; exact b,?_⟩
 simp only [PyData.depth]; omega
theorem zHE {x:S} (h:∀ c∈x,c<=122) (hl:x.length<=900):v9 5 (.str (tx x)):=by
 refine ⟨?_,by simp only [PyData.canLay0]; exact zGA h,by simp only [PyData.depth]; decide⟩
 simp only [sml,zY,v7,Bool.and_eq_true,decide_eq_true_eq,List.all_eq_true]
 exact ⟨hl,fun c hc=>by have:=h c hc; omega⟩
theorem zAy {x:S} (h:vI x):v9 5 (.str (tx x)):=zHE (fun c hc=>(h.2.2 c hc).2) (by have:=h.2.1; omega)
theorem zHF {x:S} (h:x=[]\/(vI x/\x.length<=3)):v9 5 (.str (tx x)):=by
 rcases h with rfl | h
 ·exact zHE (by simp) (by simp)
 ·exact zAy h.1
theorem Thgs.take {H:Hp}:∀ {ds:List PyData}{xs:List V} (n:Nat),Thgs H ds xs->Thgs H (ds.take n) (xs.take n)
 | [],xs,n,h=>by rw [show xs=[] from h,List.take_nil,List.take_nil]; rfl
 | d::ds,xs,0,h=>rfl
 | d::ds,xs,n+1,h=>by
  obtain ⟨y,ys,rfl,h2,h3⟩:=h
  exact ⟨y,_,rfl,h2,Thgs.take n h3⟩
theorem zNs (xs:List V) (n:Nat):uB xs none (some (n:Int))=xs.take n:=by
 unfold uB
 rw [HT.sIx_nat]
 show (xs.drop 0).take (min n xs.length - 0)=_
 rw [List.drop_zero,Nat.sub_zero,<- List.take_eq_take_min]
theorem zNt (xs:List V) (n:Nat):uB xs (some (n:Int)) none=xs.drop n:=by
 unfold uB
 rw [HT.sIx_nat]
 show (xs.drop (min n xs.length)).take (xs.length - min n xs.length)=_
 by_cases h:n<=xs.length
 ·rw [Nat.min_eq_left h,List.take_of_length_le (by rw [List.length_drop]; omega)]
 ·rw [Nat.min_eq_right (by omega),List.drop_of_length_le (Nat.le_refl _),List.drop_of_length_le (by omega)]
  simp
def gM (lo hi:Int) (hd tl:S) (ba:List S) (to:Bool):List PyData:=[.int lo,.int hi,.str (tx hd),.str (tx tl),.tuple (ba.map fun x=>PyData.str (tx x)),.bool to]
theorem zHG {lo hi:Int}{hd tl:S}{ba:List S}{to:Bool} (g:GW lo hi hd tl ba):∀ d∈gM lo hi hd tl ba to,v9 6 d:=fun d h=>by
 unfold gM at h
 simp only [List.mem_cons,List.not_mem_nil,or_false] at h
 rcases h with rfl | rfl | rfl | rfl | rfl | rfl
 ·exact ⟨rfl,rfl,by simp only [PyData.depth]; decide⟩
 ·exact ⟨rfl,rfl,by simp only [PyData.depth]; decide⟩
 ·exact (zHF g.ghd).mono (by decide)
 ·exact (zHF g.gtl).mono (by decide)
 ·refine vS (n:=5) (fun d hd=>?_) (by rw [List.length_map]; have:=g.len; omega)
  obtain ⟨x,hx,rfl⟩:=List.mem_map.mp hd
  exact zAy (g.nm x hx)
 ·exact ⟨rfl,rfl,by simp only [PyData.depth]; decide⟩
theorem zHH {H:Hp}{a:Addr}{lo hi:Int}{hd tl:S}{ba:List S}{to:Bool} (h:qS H a lo hi hd tl ba to):∃ xs,H a=some (.tup xs)/\Thgs H (gM lo hi hd tl ba to) xs/\xs.length=6:=by
 obtain ⟨b,h1,h2⟩:=h
 refine ⟨_,h1,⟨_,_,rfl,rfl,_,_,rfl,rfl,_,_,rfl,rfl,_,_,rfl,rfl,_,_,rfl,⟨b,_,rfl,h2,Thgs.strs ba⟩,_,_,rfl,rfl,rfl⟩,rfl⟩
theorem zDt {lo hi:Int}{hd tl:S}{ba:List S}{to:Bool} (g:GW lo hi hd tl ba):vM (.tuple (gM lo hi hd tl ba to))=true:=by
 have e0:vQ 1 8 (.int lo)=true:=by
  have:=g.glo; have:=g.gle; have:=g.ghi
  simp only [vQ,Bool.and_eq_true,decide_eq_true_eq]; omega
 have e1:vQ lo 8 (.int hi)=true:=by
  have:=g.gle; have:=g.ghi
  simp only [vQ,Bool.and_eq_true,decide_eq_true_eq]; omega
 have ed:∀ x:S,(x=[]\/(vI x/\x.length<=3))->uV (.str (tx x))=true:=fun x h=>by
  rcases h with rfl | ⟨h,h3⟩
  ·rfl
  ·simp only [uV,zAw h,zY,decide_eq_true h3,Bool.and_self,Bool.or_true]
 have e4:qD (.tuple (ba.map fun x=>PyData.str (tx x)))=true:=by
  have e3:(ba.map fun x=>PyData.str (tx x)).map zBn=ba:=by
   rw [List.map_map]
   conv=>rhs; rw [<- List.map_id ba]
   refine List.map_congr_left fun x _=>?_
   show (tx x).cps.toList=x
   rw [v7]
  have ea:(ba.map fun x=>PyData.str (tx x)).all yW=true:=by
   rw [List.all_map,List.all_eq_true]
   exact fun x hx=>zAw (g.nm x hx)
  simp only [qD,e3,ea,g.ris,List.length_map,decide_eq_true g.len,Bool.and_self]
 simp only [vM,gM,zBp,e0,e1,ed _ g.ghd,ed _ g.gtl,e4,zBo,Bool.and_self]
end Kn
end
section
namespace L2
open PySem PySem.Spec PyProof.Rows
theorem FnOk.calm {P:Program}{w:World}{K:PySem.W.Frag}{mg:Str->Option Value}{base:Heap}{k:Nat}{f:Addr}{fd:FuncData}{ps:List Str}{sp sp':Sp} (F:FnOk P w K mg base (v8 P w) k f fd ps sp)
  (h:∀ vs H Q E,sp' vs H Q E->sp vs H Q (fun _ _ _=>False)):FnOk P w K mg base yF k f fd ps sp':=by
 refine ⟨fun vs H Q E q=>F.len vs H Q _ (h _ _ _ _ q),fun A outer s H args us vs Q E hr he hb hv hs=>?_⟩
 refine codeAny_mono (F.run A outer s H args us vs Q (fun _ _ _=>False) hr he hb hv (h _ _ _ _ hs)) fun res s' c=>?_
 cases res with
 | error e =>
  obtain ⟨_,_,_,_,_,_,_,z⟩:=c
  exact z.elim
 | ok fl=>cases fl <;> exact c
end L2
end
section
namespace Kn.Dr
open PySem L2 Kn
theorem zAz:∀ {l m:List S},(l.map fun x=>PyData.str (tx x))=(m.map fun x=>PyData.str (tx x))->l=m
 | [],[],_=>rfl
 | [],_::_,h=>nomatch h
 | _::_,[],h=>nomatch h
 | a::l,b::m,h=>by
  injection h with h1 h2
  rw [jH (PyData.str.inj h1),zAz h2]
theorem zDu:∀ {l m:List Nat},vN l=vN m->l=m
 | [],[],_=>rfl
 | [],_::_,h=>nomatch h
 | _::_,[],h=>nomatch h
 | a::l,b::m,h=>by
  have h':PyData.int (a:Int)::vN l=PyData.int (b:Int)::vN m:=h
  injection h' with h1 h2
  have:=PyData.int.inj h1
  rw [zDu h2,show a=b by omega]
theorem zNu {lo hi lo' hi':Int}{hd tl hd' tl':S}{ba ba':List S}{to to':Bool} (h:kA lo hi hd tl ba to=kA lo' hi' hd' tl' ba' to'):lo=lo'/\hi=hi'/\hd=hd'/\tl=tl'/\ba=ba'/\to=to':=by
 have h:=PyData.tuple.inj h
 injection h with h1 h
 injection h with h2 h
 injection h with h3 h
 injection h with h4 h
 injection h with h5 h
 injection h with h6 h
 exact ⟨PyData.int.inj h1,PyData.int.inj h2,jH (PyData.str.inj h3),jH (PyData.str.inj h4),zAz (PyData.tuple.inj h5),PyData.bool.inj h6⟩
theorem zAC {H:Hp}{p:Addr}{bk:List S} (h:H p=some (.tup (zM bk))):zO H (.tuple (bk.map fun x=>PyData.str (tx x))) (.ref p):=⟨p,_,rfl,h,Thgs.strs bk⟩
theorem zAD {bk:List S} (h:isBk bk):sml (.tuple (bk.map fun x=>PyData.str (tx x)))=true :=
 (vS (n:=5) (fun d hd=>by obtain ⟨x,hx,rfl⟩:=List.mem_map.mp hd; exact zAy (h.nm x hx)) (by rw [List.length_map]; have:=h.hi; omega)).1
theorem zBA {o:Nat} (h1:1<=o) (h3:o<=3):vU (.int (o:Int))=true:=by simp only [vU,Bool.and_eq_true,decide_eq_true_eq]; omega
theorem zAE {H:Hp}{a:Addr}{lo hi:Int}{hd tl:S}{ba:List S}{to:Bool} (h:qS H a lo hi hd tl ba to):zO H (kA lo hi hd tl ba to) (.ref a):=by
 obtain ⟨xs,h1,h2,_⟩:=zHH h
 exact ⟨a,xs,rfl,h1,h2⟩
theorem zDv {lo hi:Int}{hd tl:S}{ba:List S}{to:Bool} (g:GW lo hi hd tl ba):v9 7 (kA lo hi hd tl ba to):=vS (n:=6) (zHG g) (by show 6<=900; omega)
theorem okN {ns:List Nat} (h:ns.length<=99):v9 6 (.list (vN ns))/\v9 6 (.tuple (vN ns)):=by
 have h1:∀ d∈vN ns,v9 5 d:=fun d hd=>by
  obtain ⟨n,_,rfl⟩:=List.mem_map.mp hd
  exact ⟨rfl,rfl,by simp only [PyData.depth]; decide⟩
 have h2:(vN ns).length<=900:=by unfold vN; rw [List.length_map]; omega
 exact ⟨okL h1 h2,vS h1 h2⟩
theorem zHI {ns:List Nat} (h:ns.length<=99) (h2:∀ n∈ns,n<=9999):y7 (.list (vN ns))=true/\y7 (.tuple (vN ns))=true:=by
 have h1:(vN ns).all (vQ 0 9999)=true:=by
  rw [List.all_eq_true]
  intro d hd
  obtain ⟨n,hn,rfl⟩:=List.mem_map.mp hd
  have:=h2 n hn
  simp only [vQ,Bool.and_eq_true,decide_eq_true_eq]; omega
 have h3:(vN ns).length<=99:=by unfold vN; rw [List.length_map]; exact h
 constructor <;> simp only [y7,h1,decide_eq_true h3,Bool.and_self]
theorem jQ.thg {H:Hp}{v:V}{ns:List Nat} (h:jQ H v ns):∃ g,zO H g v/\uW g ns:=by
 obtain ⟨a,rfl,h | h⟩:=h
 ·exact ⟨.list (vN ns),⟨a,_,rfl,h,Thgs.nums ns⟩,.inl rfl⟩
 ·exact ⟨.tuple (vN ns),⟨a,_,rfl,h,Thgs.nums ns⟩,.inr rfl⟩
theorem uW.sml {g:PyData}{ns:List Nat} (h:uW g ns) (h9:ns.length<=99):Kn.sml g=true:=by
 rcases h with rfl | rfl
 ·exact (okN h9).1.1
 ·exact (okN h9).2.1
theorem uW.is {g:PyData}{ns:List Nat} (h:uW g ns) (h9:ns.length<=99) (h2:∀ n∈ns,n<=9999):y7 g=true:=by
 rcases h with rfl | rfl
 ·exact (zHI h9 h2).1
 ·exact (zHI h9 h2).2
theorem uW.uniq {g:PyData}{ns ms:List Nat} (h:uW g ns) (h':uW g ms):ms=ns:=by
 rcases h with rfl | rfl
 ·rcases h' with z | z
  ·exact (zDu (PyData.list.inj z)).symm
  ·cases z
 ·rcases h' with z | z
  ·cases z
  ·exact (zDu (PyData.tuple.inj z)).symm
def zAa (H:Hp) (Q:VK) (r:Option (S × Nat)):Prop:=(r=none->∀ H',zB H H'->Q .non H')/\∀ x q,r=some (x,q)->∀ (p:Addr) (H':Hp),zB H H'->H p=none->H' p=some (.tup [sv x,.int (q:Int)])->Q (.ref p) H'
section
variable {P:Program}{w:World}{K:PySem.W.Frag}{mg:Str->Option Value}{base:Heap}
end
end Kn.Dr
end
section
namespace Kn.Dr
open PySem L2 Kn
theorem zDw {o:Nat}{bk:List S} (hb:isBk bk):∀ (ns:List Nat) (t:S) (p:Nat) (x:S) (q:Nat),vX o bk t->(∀ c∈t,97<=c/\c<=122)->dr (zE o bk) o t ns p=some (x,q)->∀ c∈x,97<=c/\c<=122
 | [],t,p,x,q,_,_,h=>by cases h
 | n::ns,t,p,x,q,ha,ht,h=>by
  rw [zDn] at h
  have hm:=zGL ha n
  rcases ha.pick n with e | ⟨c,e,h2⟩
  ·rw [if_pos e] at h
   have e1:=(Prod.mk.inj (Option.some.inj h)).1
   rw [<- e1]; exact ht
  ·rw [if_neg (by rw [e]; simp),e] at h
   refine zDw hb ns _ _ x q h2 (fun d hd=>?_) h
   rcases List.mem_append.mp hd with z | z
   ·exact ht d z
   ·rw [e] at hm
    exact (zKk hb hm).2 d z
theorem zHJ (ps:List (S × S)) (o:Nat) (ok:S->Bool) (ns:List Nat):∀ (f p:Nat) (x:S) (q:Nat),vD ps o ok ns f p=some (x,q)->∃ p',dr ps o [] (ns.drop p') p'=some (x,q)
 | 0,p,x,q,h=>by cases h
 | f+1,p,x,q,h=>by
  unfold vD at h
  cases e:dr ps o [] (ns.drop p) p with
  | none=>rw [e] at h; cases h
  | some r =>
   rw [e] at h
   have h':(if ok r.1 then some r else vD ps o ok ns f r.2)=some (x,q):=h
   by_cases hk:ok r.1=true
   ·rw [if_pos hk] at h'
    exact ⟨p,by rw [e,h']⟩
   ·rw [if_neg hk] at h'
    exact zHJ ps o ok ns f r.2 x q h'
theorem zBB {bk:List S} (h:isBk bk):bk≠[]:=fun z=>by have:=h.lo; rw [z] at this; simp at this
theorem zNv {o:Nat}{bk:List S} (hb:isBk bk) {ok:S->Bool}{ns:List Nat}{f p:Nat}{x:S}{q:Nat} (h:vD (zE o bk) o ok ns f p=some (x,q)):∀ c∈x,97<=c/\c<=122:=by
 obtain ⟨p',h⟩:=zHJ _ _ _ _ _ _ _ _ h
 exact zDw hb _ _ _ _ _ (vX.nil (zBB hb)) (by simp) h
theorem zNw (ps:List (S × S)) (o:Nat) (ok:S->Bool) (ns:List Nat) (p:Nat):vD ps o ok ns (ns.length+1) p=(match dr ps o [] (ns.drop p) p with | none=>none | some r=>if ok r.1 then some r else vD ps o ok ns (ns.length+1) r.2):=by
 conv=>lhs; unfold vD
 cases e:dr ps o [] (ns.drop p) p with
 | none=>rfl
 | some r =>
  have h3:=zDF ps o _ _ _ r.1 r.2 e
  show (if ok r.1 then some r else _)=(if ok r.1 then some r else _)
  rw [zBf ps o ok ns ns.length (ns.length+1) r.2 (by omega) (by omega)]
theorem zNx (ps:List (S × S)) (o:Nat) (t:S) (ns:List Nat) (p:Nat):dr ps o t ns p=(dr ps o t ns 0).map fun q=>(q.1,q.2+p):=by
 have:=zGN ps o p ns t 0
 rwa [Nat.zero_add] at this
def zHK (H:Hp) (v:V) (r:Option (S × Nat)):Prop:=match r with
 | none=>v=.non
 | some (x,q)=>∃ p,v=.ref p/\H p=some (.tup [sv x,.int (q:Int)])
def zDx:Option (S × Nat)->PyData
 | none=>.none
 | some (x,q)=>.tuple [.str (tx x),.int (q:Int)]
theorem zAa.of {H:Hp}{Q:VK}{r:Option (S × Nat)} (h:∀ v H',zB H H'->zHK H' v r->Q v H'):zAa H Q r :=
 ⟨fun e H' s=>h _ _ s (by rw [e]; exact rfl),fun x q e p H' s _ hp=>h _ _ s (by rw [e]; exact ⟨p,rfl,hp⟩)⟩
theorem zNy {r:Option (S × Nat)} (h:∀ x q,r=some (x,q)->∀ c∈x,97<=c/\c<=122):(zDx r).canLay0=true/\SeqAt.shaped (zDx r)=true:=by
 cases r with
 | none=>exact ⟨rfl,by decide +kernel⟩
 | some p =>
  have h1:PyData.strOk (tx p.1)=true:=zGA fun c hc=>(h p.1 p.2 rfl c hc).2
  have h2:(zDx (some p)).canLay0=true:=by
   show (PyData.tuple [.str (tx p.1),.int (p.2:Int)]).canLay0=true
   simp only [PyData.canLay0,PyData.canLayAll0,h1,Bool.and_self]
  refine ⟨h2,?_⟩
  unfold SeqAt.shaped
  rw [h2]
  show (true && decide ((PyData.tuple [.str (tx p.1),.int (p.2:Int)]).depth<=64))=true
  simp only [PyData.depth,PyData.depthAll]
  rfl
theorem zNz (a:List Nat) (k:Nat):uB (yE a) (some (k:Int)) none=yE (a.drop k):=by rw [zNt]; unfold yE; rw [List.map_drop]
theorem zOA {A:Prop}{C R:Hp->Prop} (main:(∀ G,C G->R G)->A) (cont:∀ G,C G->R G):A:=main cont
end Kn.Dr
end
section
namespace Kn
open PySem L2
section
variable {P:Program}{w:World}{K:PySem.W.Frag}{mg:Str->Option Value}{base:Heap}
abbrev zDy:Stmt:=top 59
theorem zHL:FnScope ["_law_book_here", "_law_order", "_law_found", "_law_name_here", "_law_size", "_law_end", "_law_letter"] ["_law_book_here", "_law_order"] (defScope zDy):=⟨rfl,rfl,rfl,by decide +kernel,rfl,by decide +kernel,by decide +kernel⟩
theorem zHM (t:S) (o n:Nat) (ho:1<=o) (hn:1<=n) (hl:t.length=n):v5 (tx t) (some (0 - (if (n:Int) < (o:Int) then (n:Int) else (o:Int)))) none=tx (zS t o):=by
 by_cases h:n < o
 ·rw [if_pos (by omega)]
  have e:(0:Int) - (n:Int)=-(n:Int):=by omega
  rw [e,zBV t n hn,zFh (by omega),zFh (by omega)]
 ·rw [if_neg (by omega)]
  have e:(0:Int) - (o:Int)=-(o:Int):=by omega
  rw [e,zBV t o ho]
theorem zOB {o:Nat}{t:S}{j:Nat} (h:j < t.length+1):(zX o t)[j]?=some (zS (t.take j) o,(t.drop j).take 1):=by
 unfold zX
 rw [List.getElem?_map,List.getElem?_range h]; rfl
theorem zHN (o:Nat) (t:S):(zX o t).length=t.length+1:=by unfold zX; rw [List.length_map,List.length_range]
theorem zOC {f:Addr}{fd:FuncData} (F:Fun K "_law_counts" "_law_counts" zDy f fd) (B:Blt mg):FnOk P w K mg base yF 1 f fd ["_law_book_here", "_law_order"] zBZ:=by
 refine F.ok zHL (fun vs H Q E h=>?_) (fun cdv A outer s H vs Q E hr h=>?_)
 ·obtain ⟨a,bk,o,rfl,_⟩:=h; rfl
 ·obtain ⟨a,bk,o,rfl,ha,hb1,hb2,ho,k⟩:=h
  have hu:=gE hr
  have nd:=zHL.nd
  refine ⟨_,zI (z0 (i:=2) nd rfl (Or.inl rfl) zAp)
   (zI (qI PassesOwn.never rfl (gQ (pv 0)) (yS (i:=3) nd rfl (Or.inl rfl))
    (zJ (qI PassesOwn.never rfl (kM rfl B.range (zC (zP yT (yC qZ (by rfl) B.len PySem.boot_len (zC (pv 3) zD)) zH) zD)) (yS (i:=4) nd rfl (Or.inl rfl))
     (zI (z0 (i:=5) nd rfl (Or.inl rfl) (zBG (vH zBz (pv 4) zH (vC _)) (jF (jF (pv 3) qX (uE (pv 4))) (uE (zP zBI zH (yC (zEb rfl) (by rfl) B.min PyProof.Rows.boot_min (zC (pv 1) (zC (pv 4) zD))))) qX) yD))
     (zI (z0 (i:=6) nd rfl (Or.inl rfl) (jF (pv 3) (uE (pv 4)) (uE (zP yT (pv 4) zH))))
     (zI (yQ (zEJ (zFD hu (pv 5) (pv 2))) (zJ (zCM hu (pv 2) (pv 5) zAp rfl)) yP)
     (zJ (zCM hu (gD hu (pv 2) (pv 5) (fun _ _=>rfl)) (pv 6) (zP yT (zCO hu (gD hu (pv 2) (pv 5) (fun _ _=>rfl)) (pv 6) zH ⟨rfl,rfl,rfl,rfl⟩) zH) rfl))))))))
   (zJ (zV (pv 2)))),?_⟩
  intro d hd
  have s1:zB H (upd H d (.dK [])):=zB.upd1 hd
  refine ⟨_,rfl,a,rfl,⟨_,.of (s1 _ _ ha)⟩,?_⟩
  refine jN (gY K a (zM bk)) (fun i σ H'=>(∃ x y z u:Option V,σ=[some (.ref a),some (.int o),some (.ref d),x,y,z,u])/\zB H H'/\∃ ra,RA H H' d (zE o (bk.take i)) ra)
   ⟨⟨_,_,_,_,rfl⟩,s1,[],⟨rfl,zG,by simp,by simp,by simp⟩⟩ (fun i σ H' _ h=>.of (h.2.1 _ _ ha)) ?_ ?_
  ·rintro i x σ H' Nx hN hx ⟨⟨x1,x2,x3,x4,rfl⟩,sm,ra,R⟩
   rw [zM,List.getElem?_map] at hx
   cases e:bk[i]? with
   | none=>rw [e] at hx; cases hx
   | some nm =>
   rw [e] at hx
   have hy2:x=sv nm:=(Option.some.inj hx).symm
   subst hy2
   have hnm:=hb2 nm (List.mem_of_getElem? e)
   have hi:i < bk.length:=(List.getElem?_eq_some_iff.mp e).1
   have etake:bk.take (i+1)=bk.take i++[nm]:=by
    rw [List.take_succ_eq_append_getElem hi]
    have:=(List.getElem?_eq_some_iff.mp e).2
    rw [this]
   have epairs:zE o (bk.take (i+1))=zE o (bk.take i)++zX o nm:=by
    rw [etake,zFg]; simp [zE]
   have hplen:((zE o (bk.take (i+1))).length:Int)<=100:=by
    rw [zCd]
    have go:∀ l:List S,(∀ x∈l,x.length<=8)->(l.map fun x=>(x.length:Int)+1).sum<=9 * (l.length:Int):=by
     intro l
     induction l with
     | nil=>intro _; simp
     | cons x r ih =>
      intro hl
      have h1:=hl x (List.mem_cons_self ..)
      have h2:=ih fun y hy=>hl y (List.mem_cons_of_mem _ hy)
      rw [List.map_cons,List.sum_cons,List.length_cons]
      have:((r.length+1:Nat):Int)=(r.length:Int)+1:=rfl
      omega
    have:=go (bk.take (i+1)) fun x hx=>hb2 x (List.mem_of_mem_take hx)
    have h3:(bk.take (i+1)).length<=8:=by rw [List.length_take]; omega
    omega
   refine ⟨_,rfl,tx nm,rfl,by rw [zY,sizeLine_eq]; omega,_,_,rfl,rfl,_,rfl,by rw [zY]; omega,by rw [zY]; omega,?_⟩
   have hnn:(((tx nm).length:Int)+1).toNat=nm.length+1:=by rw [zY]; omega
   refine jN (jY 0 _) (fun j σ H2=>(∃ y z u:Option V,σ=[some (.ref a),some (.int o),some (.ref d),some (sv nm),y,z,u])/\zB H H2/\∃ ra,RA H H2 d (zE o (bk.take i)++(zX o nm).take j) ra)
    ⟨⟨_,_,_,rfl⟩,sm,ra,by simpa using R⟩ (fun _ _ _ _ _=>trivial) ?_ ?_
   ·rintro j x σ H2 Nx2 hN2 hx2 ⟨⟨y,z,u,rfl⟩,sm2,ra2,R2⟩
    rw [hnn] at hx2
    obtain ⟨hj,rfl⟩:=kT hx2
    have ep:=zOB (o:=o) hj
    generalize hp:((zS (nm.take j) o,(nm.drop j).take 1):S × S)=p at ep
    have hp1:zS (nm.take j) o=p.1:=by rw [<- hp]
    have hp2:(nm.drop j).take 1=p.2:=by rw [<- hp]
    have hj':j < (zX o nm).length:=by rw [zHN]; exact hj
    have etk:zE o (bk.take i)++(zX o nm).take (j+1)=(zE o (bk.take i)++(zX o nm).take j)++[p]:=by
     rw [List.take_succ_eq_append_getElem hj',(List.getElem?_eq_some_iff.mp ep).2,List.append_assoc]
    generalize hps:zE o (bk.take i)++(zX o nm).take j=ps at R2 etk
    have hpl:ps.length<=100:=by
     have h1:ps.length<=(zE o (bk.take (i+1))).length:=by
      rw [<- hps,epairs,List.length_append,List.length_append,List.length_take]; omega
     omega
    have hral:ra2.length<=100:=by
     have h1:=(zCo ps).1
     rw [<- R2.rows,List.length_map] at h1
     omega
    refine ⟨_,rfl,_,_,rfl,rfl,_,rfl,?_⟩
    refine' (fun (cont:∀ q:V,q=sv p.1->(_:V->Prop) q)=>?main) ?cont
    case main =>
     by_cases h0:0 < j
     ·refine uK (by omega) ?_
      refine ⟨_,rfl,_,rfl,_,rfl,tx nm,rfl,by rw [zY,sizeLine_eq]; omega,_,rfl,_,rfl,_,_,rfl,_,_,rfl,rfl,_,rfl,_,rfl,?_,?_⟩
      ·rw [zAs,zY,sizeLine_eq,List.length_take]; omega
      ·have ec:v5 (v5 (tx nm) none (some (j:Int))) (some (0 - (if (j:Int) < (o:Int) then (j:Int) else (o:Int)))) none=tx p.1:=by
        rw [zAs,zHM (nm.take j) o j ho h0 (by rw [List.length_take]; omega),hp1]
       have ev:V.str (v5 (v5 (tx nm) none (some (j:Int))) (some (0 - (if (j:Int) < (o:Int) then (j:Int) else (o:Int)))) none)=sv p.1:=congrArg V.str ec
       revert ev
       generalize V.str (v5 (v5 (tx nm) none (some (j:Int))) (some (0 - (if (j:Int) < (o:Int) then (j:Int) else (o:Int)))) none)=q
       intro ev
       exact cont q ev
     ·have hj0:j=0:=by omega
      subst hj0
      refine uL (by omega) ?_
      have e0:p.1=[]:=by rw [<- hp1]; simp [zS]
      have ev:V.str "" = sv p.1:=by rw [e0]; rfl
      revert ev
      generalize V.str "" = q
      intro ev
      exact cont q ev
    case cont =>
     intro q hq
     subst hq
     refine ⟨_,rfl,_,rfl,_,rfl,_,rfl,_,_,rfl,rfl,_,rfl,tx nm,rfl,by rw [zY,sizeLine_eq]; omega,?_⟩
     have ecut:v5 (tx nm) (some (j:Int)) (some ((j:Int)+1))=tx p.2:=by rw [zCe,hp2]
     rw [ecut]
     refine ⟨_,rfl,_,rfl,d,_,rfl,vW.k (k:=Sum.inr (tx p.1)) R2.top,_,rfl,?_⟩
     rw [jI]
     have fin:∀ (ad:Addr) (row:List (S × Int)) (Hx:Hp) (enc:List (zU × V)),Hx d=some (.dK enc)->vF enc (Sum.inr (tx p.1))=some (.ref ad)->Hx ad=some (.dK (yV row))->(row.map (·.1)).Nodup->row.length<=100->(∀ H4,H4=upd Hx ad (.dK (yV (v3 row p.2)))->Nx2 [some (.ref a),some (.int o),some (.ref d),some (sv nm),some (.int j),some (sv p.1),some (sv p.2)] H4) ->
       zCL (zCK (qH 2) (qH 5)) (qH 6) (tOp (k9 fun i j=>V.int (i+j)) (zCN (zCK (qH 2) (qH 5)) (qH 6) (tC (.int 0))) (tC (.int 1))) { nx:=Nx2,rt:=Q,bk:=fun _ _=>False,ct:=fun _ _=>False } [some (.ref a),some (.int o),some (.ref d),some (sv nm),some (.int j),some (sv p.1),some (sv p.2)] Hx:=by
      intro ad row Hx enc htop hval hrow hnd hrl hq
      have dg:vW Hx d (sv p.1) (some (.ref ad)):=by
       have:=vW.k (k:=Sum.inr (tx p.1)) htop
       rw [hval] at this
       exact this
      refine ⟨_,rfl,_,rfl,d,_,rfl,dg,ad,rfl,.inl ⟨_,.inl hrow⟩,_,rfl,_,vW.k (k:=Sum.inr (tx p.2)) hrow,(zR row p.2).getD 0,1,?_,rfl,?_⟩
      ·rw [jI]
       cases zR row p.2 <;> rfl
      ·refine ⟨_,rfl,_,rfl,d,_,rfl,dg,_,rfl,ad,_,rfl,gW.k (k:=Sum.inr (tx p.2)) hrow (by rw [zAS,sizeLine_eq]; omega),hq _ ?_⟩
       rw [zBX V.int row p.2 _ hnd]
       rfl
     cases g:zR ra2 p.1 with
     | some v =>
      obtain ⟨r1,r2,r3,r4,r5⟩:=zFp R2 g
      refine yU ?_
      refine fin v.1 v.2 H2 _ R2.top (by rw [jI,g]; rfl) r1 r2 (by omega) fun H4 e4=>?_
      have RR:RA H H4 d (ps++[p]) (z9 ra2 p.1 (v.1,v3 v.2 p.2)):=by
       refine R2.step p v.2 (by rw [g]; rfl) (fun v' hv'=>by rw [g] at hv'; rw [Option.some.inj hv']) (fun hn=>by rw [g] at hn; cases hn) (by rw [e4,zG]) ?_ fun r hr' hne=>?_
       ·rw [e4,zN r5.symm,R2.top]
        have:=zFo (fun v:Addr × List (S × Int)=>V.ref v.1) ra2 p.1 (v.1,v3 v.2 p.2) v g rfl
        rw [this]
       ·rw [e4,zN hne]; exact R2.row r hr'
      refine hN2 _ _ ⟨⟨_,_,_,rfl⟩,?_,_,by rw [etk]; exact RR⟩
      rw [e4]
      exact sm2.upd_new r4
     | none =>
      refine z7 ?_
      intro e0 he0
      have he0H:H e0=none:=sm2.free he0
      have hde:d≠e0:=vO R2.top he0
      have s3:zB H2 (upd H2 e0 (.dK [])):=zB.upd1 he0
      have hx3:upd H2 e0 (.dK []) d=some (.dK (vP (fun v:Addr × List (S × Int)=>V.ref v.1) ra2)):=s3 _ _ R2.top
      have hre:∀ r∈ra2,r.2.1≠e0:=fun r hr'=>vO (R2.row r hr') he0
      refine ⟨_,rfl,_,rfl,d,_,rfl,gW.k (k:=Sum.inr (tx p.1)) hx3 (by rw [zAS,sizeLine_eq]; omega),?_⟩
      have hp2':=zBX (fun v:Addr × List (S × Int)=>V.ref v.1) ra2 p.1 (e0,[]) (zBa R2)
      have hHx:upd (upd H2 e0 (.dK [])) d (.dK (uC (vP (fun v:Addr × List (S × Int)=>V.ref v.1) ra2) (Sum.inr (tx p.1)) (.ref e0))) e0=some (.dK (yV [])):=by
       rw [zN hde.symm,zG]; rfl
      refine fin e0 [] _ _ zG (by rw [zJE,if_pos rfl]) hHx (by simp) (by simp) fun H4 e4=>?_
      have RR:RA H H4 d (ps++[p]) (z9 ra2 p.1 (e0,v3 [] p.2)):=by
       refine R2.step p [] (by rw [g]; rfl) (fun v' hv'=>by rw [g] at hv'; cases hv') (fun _=>⟨he0H,hde.symm,fun hm=>?_⟩) (by rw [e4,zG]) ?_ fun r hr' hne=>?_
       ·obtain ⟨r,hr',e⟩:=List.mem_map.mp hm
        exact hre r hr' e
       ·rw [e4,zN hde,zG,hp2']
        congr 2
        have hk:p.1 ∉ ra2.map (·.1):=zCc.mp g
        rw [zAt _ _ _ hk,zAt _ _ _ hk]
        unfold vP jE
        rw [List.map_append,List.map_append,List.map_append,List.map_append]
        rfl
       ·rw [e4,zN hne,zN (R2.new r hr').2]; exact s3 _ _ (R2.row r hr')
      refine hN2 _ _ ⟨⟨_,_,_,rfl⟩,?_,_,by rw [etk]; exact RR⟩
      rw [e4]
      exact ((sm2.trans s3).upd_new hd).upd_new he0H
   ·rintro σ H2 ⟨⟨y,z,u,rfl⟩,sm2,ra2,R2⟩
    refine hN _ _ ⟨⟨_,_,_,_,rfl⟩,sm2,ra2,?_⟩
    rw [epairs]
    rw [List.length_map,List.length_range,hnn,<- zHN o nm,List.take_length] at R2
    exact R2
  ·rintro σ H' ⟨⟨x1,x2,x3,x4,rfl⟩,sm,ra,R⟩
   refine ⟨_,rfl,k d H' sm hd ⟨ra,?_,R.top,R.row⟩⟩
   rw [R.rows]
   have:(zM bk).length=bk.length:=by simp [zM]
   rw [this,List.take_length]
abbrev zDz:Stmt:=top 60
theorem zHO:FnScope ["_law_book_here", "_law_order", "_law_text", "_law_end"] ["_law_book_here", "_law_order", "_law_text"] (defScope zDz):=⟨rfl,rfl,rfl,by decide +kernel,rfl,by decide +kernel,by decide +kernel⟩
def zEA:Sp:=fun vs H Q _=>∃ (a:Addr) (bk:List S) (o:Nat) (x:S),vs=[.ref a,.int o,sv x]/\H a=some (.tup (zM bk))/\bk.length<=8/\(∀ y∈bk,y.length<=8)/\1<=o/\x.length<=64/\∀ ra H',zB H H'->H' ra=some (.dK (yV (yL (zE o bk) (zS x o))))->Q (.ref ra) H'
theorem zOD {f:Addr}{fd:FuncData} (F:Fun K "_law_row" "_law_row" zDz f fd) (B:Blt mg) (c1:yH P w K mg base 1 "_law_counts" ["_law_book_here", "_law_order"] zBZ):FnOk P w K mg base yF 2 f fd ["_law_book_here", "_law_order", "_law_text"] zEA:=by
 refine F.ok zHO (fun vs H Q E h=>?_) (fun cdv A outer s H vs Q E hr h=>?_)
 ·obtain ⟨a,bk,o,x,rfl,_⟩:=h; rfl
 ·obtain ⟨a,bk,o,x,rfl,ha,hb1,hb2,ho,hx,k⟩:=h
  have hu:=gE hr
  have nd:=zHO.nd
  refine ⟨_,zI (z0 (i:=3) nd rfl (Or.inl rfl) (zBG (vH zAi (pv 2) yD (vC _)) (jF (pv 2) (uE (zP zBI zH (yC (zEb rfl) (by rfl) B.min PyProof.Rows.boot_min (zC (pv 1) (zC (yC qZ (by rfl) B.len PySem.boot_len (zC (pv 2) zD)) zD))))) qX) yD))
   (zJ (zV (zCO hu (zT c1 hr rfl (zC (pv 0) (zC (pv 1) zD))) (pv 3) zAp ⟨rfl,rfl,rfl,rfl⟩))),?_⟩
  refine ⟨_,rfl,rfl,_,rfl,?_⟩
  refine' (fun (cont:∀ q:V,q=sv (zS x o)->(_:V->Prop) q)=>?main) ?cont
  case main =>
   by_cases h0:x=[]
   ·subst h0
    refine jC rfl ?_
    have ev:V.str "" = sv (zS [] o):=by simp [zS]; rfl
    revert ev
    generalize V.str "" = q
    intro ev
    exact cont q ev
   ·have hne:¬ V.str (tx x)=V.str "" := fun z=>h0 (jH (V.str.inj z))
    have hlen:1<=x.length:=by
     have:x.length≠0:=fun z=>h0 (List.length_eq_zero_iff.mp z)
     omega
    refine jO hne ?_
    refine ⟨_,rfl,_,rfl,_,rfl,tx x,rfl,by rw [zY,sizeLine_eq]; omega,_,_,rfl,_,_,rfl,rfl,_,rfl,tx x,rfl,by rw [zY,sizeLine_eq]; omega,?_⟩
    have ev:V.str (v5 (tx x) (some (0 - (if ((tx x).length:Int) < (o:Int) then ((tx x).length:Int) else (o:Int)))) none)=sv (zS x o):=by
     rw [zY]
     exact congrArg V.str (zHM x o x.length ho hlen rfl)
    revert ev
    generalize V.str (v5 (tx x) (some (0 - (if ((tx x).length:Int) < (o:Int) then ((tx x).length:Int) else (o:Int)))) none)=q
    intro ev
    exact cont q ev
  case cont =>
   intro q hq
   subst hq
   refine ⟨_,rfl,_,rfl,a,bk,o,rfl,ha,hb1,hb2,ho,fun d H3 s3 hd R=>?_⟩
   obtain ⟨kvs,hdk,hv⟩:=R.get (zS x o)
   refine ⟨d,rfl,.inl ⟨_,.inl hdk⟩,_,rfl,fun e0 he0=>?_⟩
   have s4:zB H3 (upd H3 e0 (.dK [])):=zB.upd1 he0
   obtain ⟨ra,e1,hra⟩:∃ ra,(vF kvs (Sum.inr (tx (zS x o)))).getD (.ref e0)=.ref ra/\upd H3 e0 (.dK []) ra=some (.dK (yV (yL (zE o bk) (zS x o)))):=by
    rcases hv with ⟨hv1,hv2⟩ | ⟨ra,hv1,hv2⟩
    ·exact ⟨e0,by rw [hv1]; rfl,by rw [zG,hv2]; rfl⟩
    ·exact ⟨ra,by rw [hv1]; rfl,s4 _ _ hv2⟩
   refine ⟨_,vW.k (k:=Sum.inr (tx (zS x o))) (s4 _ _ hdk),?_⟩
   rw [e1]
   exact k ra _ (s3.trans s4) hra
end
end Kn
end
section
namespace L2
open PySem PySem.Spec PyProof.Rows
end L2
namespace Kn
open PySem L2
end Kn
end
section
namespace Kn
open PySem L2
theorem zHP (x y:S) (i:Nat):Builtin.Str.subAt (tx x) (tx y) i=decide ((x.drop i).take y.length=y):=by
 unfold Builtin.Str.subAt
 have e:(tx x).cps.extract i (i+(tx y).length)=((x.drop i).take y.length).toArray:=by
  apply Array.toList_inj.mp
  rw [Array.toList_extract,v7,zY,List.extract_eq_take_drop]
  simp
 rw [e]
 have e2:(tx y).cps=y.toArray:=by
  apply Array.toList_inj.mp
  rw [v7]
 rw [e2,Bool.eq_iff_iff,beq_iff_eq,decide_eq_true_eq]
 exact ⟨fun h=>by simpa using congrArg Array.toList h,fun h=>by rw [h]⟩
theorem zHQ (x h:S):Txt.startswith (tx x) (tx h)=decide (x.take h.length=h):=by
 unfold Txt.startswith
 rw [zHP,zY,zY,List.drop_zero,Bool.eq_iff_iff,Bool.and_eq_true]
 simp only [decide_eq_true_eq]
 constructor
 ·exact fun q=>q.2
 ·intro q
  refine ⟨?_,q⟩
  have:=congrArg List.length q
  rw [List.length_take] at this
  omega
theorem zHR (x t:S):Txt.endswith (tx x) (tx t)=decide (zS x t.length=t):=by
 unfold Txt.endswith zS
 rw [zHP,zY,zY,Bool.eq_iff_iff,Bool.and_eq_true]
 simp only [decide_eq_true_eq]
 constructor
 ·rintro ⟨h1,h2⟩
  rw [List.take_of_length_le (by rw [List.length_drop]; omega)] at h2
  exact h2
 ·intro q
  have:=congrArg List.length q
  rw [List.length_drop] at this
  refine ⟨by omega,?_⟩
  rw [List.take_of_length_le (by rw [List.length_drop]; omega)]
  exact q
section
variable {P:Program}{w:World}{K:PySem.W.Frag}{mg:Str->Option Value}{base:Heap}
def zHS:Sp:=fun vs H Q _=>∃ (c a:Addr) (bk:List S) (lo hi:Int) (hd tl:S) (ba:List S) (to:Bool) (x:S),vs=[.ref c,.ref a,sv x]/\H c=some (.tup (zM bk))/\qS H a lo hi hd tl ba to/\GW lo hi hd tl ba/\x.length<=900/\Q (.bl (vG bk lo hi hd tl ba to x)) H
abbrev zEB:Stmt:=top 66
theorem zOE:FnScope ["_law_book_here", "_law_wish_here", "_law_name_here"] ["_law_book_here", "_law_wish_here", "_law_name_here"] (defScope zEB):=⟨rfl,rfl,rfl,by decide +kernel,rfl,by decide +kernel,by decide +kernel⟩
theorem zHT {x:S} (h:x=[]\/(vI x/\x.length<=3)):x.length<=3:=by
 rcases h with rfl | h
 ·exact Nat.zero_le _
 ·exact h.2
theorem zOF {f:Addr}{fd:FuncData} (F:Fun K "_law_fits" "_law_fits" zEB f fd) (B:Blt mg) (hmax:mg "max" = none):FnOk P w K mg base yF 1 f fd ["_law_book_here", "_law_wish_here", "_law_name_here"] zHS:=by
 refine F.ok zOE (fun vs H Q E h=>?_) (fun cdv A outer s H vs Q E hr h=>?_)
 ·obtain ⟨c,a,bk,lo,hi,hd,tl,ba,to,x,rfl,_⟩:=h; rfl
 ·obtain ⟨c,a,bk,lo,hi,hd,tl,ba,to,x,rfl,hc,⟨b,ha,hb⟩,gw,hx,k⟩:=h
  have l3:=zHT gw.ghd
  have l4:=zHT gw.gtl
  refine ⟨_,zI (yQ (PW.pt (qV (vZ (zBK jK jK (yK vA (pv 1) zH (fun _ _=>rfl)) (yC qZ (by rfl) B.len PySem.boot_len (zC (pv 2) zD)) (yK vA (pv 1) zH (fun _ _=>rfl))))
    (qU (vH zAi (jF (pv 2) qX (uE (yC qZ (by rfl) B.len PySem.boot_len (zC (yK vA (pv 1) zH (fun _ _=>rfl)) zD)))) (yK vA (pv 1) zH (fun _ _=>rfl)) (vC _)))))
    (zJ (zV vT)) yP)
   (zI (yQ (PW.pt (qV (vH zAi (jF (pv 2) (uE (yC (zIX rfl) (by rfl) hmax PyProof.Rows.boot_max (zC zH (zC (zP zBI (yC qZ (by rfl) B.len PySem.boot_len (zC (pv 2) zD)) (yC qZ (by rfl) B.len PySem.boot_len (zC (yK vA (pv 1) zH (fun _ _=>rfl)) zD))) zD)))) qX) (yK vA (pv 1) zH (fun _ _=>rfl)) (vC _))
    (qU (vH zEr (pv 2) (yK vA (pv 1) zH (fun _ _=>rfl)) (by with_unfolding_all rfl)))))
    (zJ (zV vT)) yP)
   (zJ (zV (zEK (yK vA (pv 1) zH (fun _ _=>rfl)) (zAF (gT zEs (pv 2) (pv 0) (by with_unfolding_all rfl))))))),?_⟩
  refine ⟨_,rfl,a,_,0,.int lo,rfl,rfl,.of ha,rfl,_,rfl,tx x,rfl,by rw [zY,sizeLine_eq]; omega,_,_,rfl,rfl,_,rfl,?_⟩
  by_cases hl:lo<=(x.length:Int)
  ·refine uK (by rw [zY]; exact hl) ⟨_,rfl,a,_,1,.int hi,rfl,rfl,.of ha,rfl,_,_,rfl,rfl,_,rfl,?_⟩
   by_cases hh:(x.length:Int)<=hi
   ·refine jC (by rw [zY]; exact hh) ?_
    have sz:∀ y:S,y.length<=900->(tx y).length<=sizeLine:=fun y hy=>by rw [zY,sizeLine_eq]; omega
    have ne:∀ y z:S,(!decide (sv y=sv z))=!decide (y=z):=fun y z=>by
     congr 1
     exact decide_eq_decide.mpr ⟨fun q=>jH (by injection q),fun q=>by rw [q]⟩
    refine ⟨_,rfl,_,rfl,a,_,2,sv hd,rfl,rfl,.of ha,rfl,tx hd,rfl,sz hd (by omega),_,rfl,tx x,rfl,sz x hx,_,rfl,a,_,2,sv hd,rfl,rfl,.of ha,rfl,?_⟩
    rw [zY hd,zAs]
    refine ⟨rfl,_,rfl,?_⟩
    rw [ne]
    by_cases q1:x.take hd.length=hd
    ·refine jC q1 ?_
     refine ⟨_,rfl,_,rfl,tx x,rfl,sz x hx,_,rfl,a,_,3,sv tl,rfl,rfl,.of ha,rfl,tx tl,rfl,sz tl (by omega),_,_,rfl,rfl,_,_,rfl,_,rfl,tx x,rfl,sz x hx,_,rfl,a,_,3,sv tl,rfl,rfl,.of ha,rfl,?_⟩
     rw [zY tl,zKm]
     refine ⟨rfl,_,rfl,?_⟩
     rw [ne]
     by_cases q2:zS x tl.length=tl
     ·refine jC q2 ?_
      refine ⟨_,rfl,_,rfl,a,_,4,.ref b,rfl,rfl,.of ha,rfl,b,_,rfl,.inr (.of hb),rfl,zBt _,_,rfl,?_⟩
      rw [if_neg (by decide),zBs]
      have fm:uG lo hi hd tl x=true:=by simp only [uG,decide_eq_true hl,decide_eq_true hh,zHQ,zHR,decide_eq_true q1,decide_eq_true q2,Bool.and_self]
      by_cases q3:x∈ba
      ·have e:vG bk lo hi hd tl ba to x=false:=by simp only [vG,zAB,decide_eq_true q3,Bool.true_or,Bool.not_true,Bool.and_false]
       rw [e] at k
       exact uK q3 k
      ·refine uL q3 ?_
       refine ⟨_,rfl,a,_,5,.bl to,rfl,rfl,.of ha,rfl,_,rfl,?_⟩
       cases to with
       | true =>
        have e:vG bk lo hi hd tl ba true x=true:=by simp only [vG,zAB,fm,decide_eq_false q3,Bool.not_true,Bool.false_and,Bool.or_self,Bool.not_false,Bool.and_self]
        rw [e] at k
        exact z7 k
       | false =>
        have e:vG bk lo hi hd tl ba false x=!decide (x∈bk):=by simp only [vG,zAB,fm,decide_eq_false q3,Bool.not_false,Bool.true_and,Bool.false_or]
        rw [e] at k
        refine yU ⟨_,rfl,_,rfl,c,_,rfl,.inr (.of hc),rfl,zBt _,?_⟩
        rw [if_pos rfl,zBs]
        exact k
     ·have e:vG bk lo hi hd tl ba to x=false:=by simp only [vG,uG,zHR,decide_eq_false q2,Bool.false_and,Bool.and_false]
      rw [e] at k
      exact jO q2 (z7 k)
    ·have e:vG bk lo hi hd tl ba to x=false:=by simp only [vG,uG,zHQ,decide_eq_false q1,Bool.false_and,Bool.and_false]
     rw [e] at k
     exact jO q1 k
   ·have e:vG bk lo hi hd tl ba to x=false:=by simp only [vG,uG,decide_eq_false hh,Bool.false_and,Bool.and_false]
    rw [e] at k
    exact jO (by rw [zY]; exact hh) (z7 k)
  ·have e:vG bk lo hi hd tl ba to x=false:=by simp only [vG,uG,decide_eq_false hl,Bool.false_and]
   rw [e] at k
   exact uL (by rw [zY]; exact hl) ⟨_,rfl,z7 (z7 k)⟩
end
end Kn
end
section
namespace Kn.Dr
open PySem L2 Kn
theorem zHU (f:S->Nat) (x:S) (hf:0 < f x):∀ L:List S,L.Pairwise (· < ·)->x∈L->(L.flatMap fun l=>List.replicate (f l) l).idxOf x=((L.filter fun l=>decide (l < x)).map f).sum
 | [],_,h=>by cases h
 | y::L,hp,h=>by
  have h1:=List.pairwise_cons.mp hp
  rw [List.flatMap_cons]
  by_cases e:y=x
  ·subst e
   have h2:L.filter (fun l=>decide (l < y))=[]:=by
    rw [List.filter_eq_nil_iff]
    intro z hz
    rw [decide_eq_true_eq]
    exact fun q=>jG _ (zBT q (h1.1 z hz))
   rw [List.filter_cons,if_neg (by rw [decide_eq_true_eq]; exact jG y),h2]
   rw [List.idxOf_append,if_pos (List.mem_replicate.mpr ⟨by omega,rfl⟩)]
   cases hn:f y with
   | zero=>omega
   | succ n=>rw [List.replicate_succ,List.idxOf_cons_self]; rfl
  ·have hx:x∈L:=(List.mem_cons.mp h).resolve_left fun z=>e z.symm
   rw [List.idxOf_append,if_neg (fun z=>e (List.mem_replicate.mp z).2.symm),zHU f x hf L h1.2 hx,List.filter_cons,if_pos (by rw [decide_eq_true_eq]; exact h1.1 x hx),List.map_cons,List.sum_cons,List.length_replicate,Nat.add_comm]
theorem zOG {ps:List (S × S)}{e l:S} (h:(e,l)∈ps):(((yL ps e).filter fun q=>decide (q.1 < l)).map (·.2)).sum=((pot ps e).idxOf l:Int):=by
 have h1:=zHU (fun l=>ps.count (e,l)) l (List.count_pos_iff.mpr h) (yZ ps e) (zAv _) ((gH ps e l).mpr h)
 unfold pot
 rw [h1]
 have hp:(yZ ps e).Perm (g9 ps e):=by
  refine (List.perm_ext_iff_of_nodup ?_ (g0 ps e)).mpr fun x=>by rw [gH,zBg]
  exact (zAv _).imp fun {a b} h z=>by subst z; exact jG _ h
 rw [((hp.filter _).map fun l=>ps.count (e,l)).sum_nat]
 have e2:((yL ps e).filter fun q=>decide (q.1 < l)).map (·.2)=(((g9 ps e).filter fun x=>decide (x < l)).map fun l=>ps.count (e,l)).map fun (n:Nat)=>(n:Int):=by
  rw [List.filter_map,List.map_map,List.map_map]
  refine List.map_congr_left fun q hq=>?_
  exact ((zAU ps e q.1 q.2).mp (List.mem_filter.mp hq).1).1
 rw [e2]
 have go:∀ l:List Nat,(l.map fun (n:Nat)=>(n:Int)).sum=((l.sum:Nat):Int):=by
  intro l
  induction l with
  | nil=>rfl
  | cons x l ih=>rw [List.map_cons,List.sum_cons,ih,List.sum_cons]; omega
 rw [go]
def kZ (H:Hp) (v:V) (j:Nat) (r:Option (S × Nat)):Prop:=match r with
 | none=>∃ p,v=.ref p/\vB H p j
 | some (x,q)=>∃ p,v=.ref p/\H p=some (.tup [sv x,.int (q:Int)])
def vV (j:Nat):PyData:=.tuple [.str "refused",.int (j:Int)]
def gN (j:Nat):Option (S × Nat)->PyData
 | none=>vV j
 | some (x,q)=>.tuple [.str (tx x),.int (q:Int)]
theorem vB.same {H H':Hp}{p:Addr}{j:Nat} (h:vB H p j) (s:zB H H'):vB H' p j:=s _ _ h
theorem vB.rep {K:PySem.W.Frag}{H:Hp}{p:Addr}{j:Nat} (h:vB H p j):vR K H (vV j) (.ref p):=⟨p,_,rfl,.of h,_,_,rfl,rfl,_,_,rfl,rfl,rfl⟩
theorem kZ.same {H H':Hp}{v:V}{j:Nat}{r:Option (S × Nat)} (h:kZ H v j r) (s:zB H H'):kZ H' v j r:=by
 cases r with
 | none=>obtain ⟨a,e,h⟩:=h; exact ⟨a,e,s _ _ h⟩
 | some p=>obtain ⟨a,e,h⟩:=h; exact ⟨a,e,s _ _ h⟩
theorem kZ.rep {K:PySem.W.Frag}{H:Hp}{v:V}{j:Nat}{r:Option (S × Nat)} (h:kZ H v j r):vR K H (gN j r) v:=by
 cases r with
 | none=>obtain ⟨a,rfl,h⟩:=h; exact vB.rep h
 | some p=>obtain ⟨a,rfl,h⟩:=h; exact ⟨a,_,rfl,.of h,_,_,rfl,rfl,_,_,rfl,rfl,rfl⟩
theorem zBu (j:Nat):(vV j).canLay0=true/\SeqAt.shaped (vV j)=true:=by
 have h1:(vV j).canLay0=true:=by
  have h0:PyData.strOk ("refused" : Str)=true:=by decide +kernel
  unfold vV; simp only [PyData.canLay0,PyData.canLayAll0,h0,Bool.and_self]
 refine ⟨h1,?_⟩
 unfold SeqAt.shaped
 rw [h1]
 show (true && decide ((PyData.tuple [.str "refused",.int (j:Int)]).depth<=64))=true
 simp only [PyData.depth,PyData.depthAll]
 rfl
theorem zEC {j:Nat}{r:Option (S × Nat)} (h:∀ x q,r=some (x,q)->∀ c∈x,97<=c/\c<=122):(gN j r).canLay0=true/\SeqAt.shaped (gN j r)=true:=by
 cases r with
 | none=>exact zBu j
 | some p=>exact zNy (r:=some p) h
section
variable {P:Program}{w:World}{K:PySem.W.Frag}{mg:Str->Option Value}{base:Heap}
abbrev sPk:Stmt:=top 69
theorem zHV:FnScope ["_law_row_here", "_law_number", "_law_letters", "_law_letter"] ["_law_row_here", "_law_number"] (defScope sPk):=⟨rfl,rfl,rfl,by decide +kernel,rfl,by decide +kernel,by decide +kernel⟩
def zHW:Sp:=fun vs H Q _=>∃ (ra:Addr) (ps:List (S × S)) (e:S) (n:Nat),vs=[.ref ra,.int n]/\H ra=some (.dK (yV (yL ps e)))/\ps.length < 64/\(∃ l,(e,l)∈ps)/\∀ (H':Hp),zB H H'->Q (sv (pick ps e n)) H'
theorem zOH {f:Addr}{fd:FuncData} (F:Fun K "_law_picked" "_law_picked" sPk f fd) (B:Blt mg):FnOk P w K mg base yF 1 f fd ["_law_row_here", "_law_number"] zHW:=by
 refine F.ok zHV (fun vs H Q E h=>?_) (fun cdv A outer s H vs Q E hr h=>?_)
 ·obtain ⟨ra,ps,e,n,rfl,_⟩:=h; rfl
 ·obtain ⟨ra,ps,e,n,rfl,hra,h64,hal,k⟩:=h
  have hu:=gE hr
  have nd:=zHV.nd
  refine ⟨_,zI (z0 (i:=2) nd rfl (Or.inl rfl) (yR zD))
   (zI (qI PassesOwn.never rfl (zAH (yC (zFY rfl) (by rfl) B.sorted PyProof.Rows.boot_sorted (zC (pv 0) zD))) (yS (i:=3) nd rfl (Or.inl rfl))
    (zJ (z0 (i:=2) nd rfl (Or.inl rfl) (zP zBN (pv 2) (zP jV (yR (zC (pv 3) zD)) (gD hu (pv 0) (pv 3) (fun _ _=>rfl)))))))
   (zJ (zV (yK jT (pv 2) (zP gA (pv 1) (yC kP (by rfl) B.len PySem.boot_len (zC (pv 2) zD))) (fun _ _=>rfl))))),?_⟩
  refine ⟨by show 0<=sizeLine; decide,fun lo hlo=>?_⟩
  have s1:zB H (upd H lo (.lst [])):=zB.upd1 hlo
  have hrl:(yL ps e).length < 64:=by have:=zDG ps e; omega
  have ekeys:(((yL ps e).map fun p=>(tx p.1,V.int p.2)).map (·.1))=(g9 ps e).map tx:=by rw [List.map_map,List.map_map]; rfl
  have ndt:(((yL ps e).map fun p=>(tx p.1,V.int p.2)).map (·.1)).Nodup:=by
   rw [ekeys]
   exact List.Pairwise.map tx (fun a b hab z=>hab (jH z)) (g0 _ _)
  refine ⟨_,rfl,ra,(yL ps e).map (fun p:S × Int=>(tx p.1,V.int p.2)),rfl,s1 _ _ hra,ndt,by rw [List.length_map]; exact hrl,fun out l hperm hsrt hl=>?_⟩
  rw [ekeys] at hperm
  have eout:out=(out.map fun x=>x.cps.toList).map tx:=(zFs out).symm
  have hm2:∀ x,x∈(out.map fun x=>x.cps.toList)↔(e,x)∈ps:=fun x=>by
   rw [<- zBg]
   constructor
   ·intro h
    obtain ⟨y,hy,rfl⟩:=List.mem_map.mp h
    obtain ⟨z,hz,e1⟩:=List.mem_map.mp (hperm.mem_iff.mp hy)
    rw [<- e1,v7]; exact hz
   ·intro h
    exact List.mem_map.mpr ⟨tx x,hperm.mem_iff.mpr (List.mem_map.mpr ⟨x,h,rfl⟩),v7 x⟩
  have hos:(out.map fun x=>x.cps.toList)=yZ ps e:=zGK (List.pairwise_map.mpr hsrt) hm2
  rw [hos] at eout
  subst eout
  have s2:zB (upd H lo (.lst [])) (upd (upd H lo (.lst [])) l (.lst (((yZ ps e).map tx).map V.str))):=zB.upd1 hl
  have hl6:upd (upd H lo (.lst [])) l (.lst (((yZ ps e).map tx).map V.str)) l=some (.lst (((yZ ps e).map tx).map V.str)):=zG
  have hlo6:=s2 _ _ (zG (H:=H) (a:=lo) (o:=.lst []))
  have hra6:=s2 _ _ (s1 _ _ hra)
  have s12:=s1.trans s2
  generalize upd (upd H lo (.lst [])) l (.lst (((yZ ps e).map tx).map V.str))=H6 at hl6 hlo6 hra6 s12
  refine ⟨l,rfl,⟨_,.of hl6⟩,?_⟩
  refine jN (zAR K l (((yZ ps e).map tx).map V.str)) (fun i σ H'=>∃ (lx:Addr) (x3:Option V),σ=[some (.ref ra),some (.int n),some (.ref lx),x3]/\zB H6 H'/\H' lx=some (.lst ((((yZ ps e).take i).flatMap fun l=>List.replicate (ps.count (e,l)) l).map sv)))
   ⟨lo,_,rfl,zB.refl _,hlo6⟩ (fun i σ H' _ h=>by obtain ⟨_,_,_,h,_⟩:=h; exact .of (h _ _ hl6)) ?_ ?_
  ·rintro i x σ H' Nx hN hx ⟨lx,x3,rfl,sm,hlx⟩
   obtain ⟨y,hy,rfl⟩:=j7 hx
   obtain ⟨c,hc,rfl⟩:=j7 hy
   have hce:(e,c)∈ps:=(gH ps e c).mp (List.mem_of_getElem? hc)
   have hra':=sm _ _ hra6
   have hcnt:ps.count (e,c) < 64:=Nat.lt_of_le_of_lt (List.count_le_length ..) h64
   refine ⟨_,rfl,_,rfl,by show 1<=sizeLine; decide,fun l0 hl0=>?_⟩
   have t0:zB H' (upd H' l0 (.lst [V.str (tx c)])):=zB.upd1 hl0
   have dg:vW (upd H' l0 (.lst [V.str (tx c)])) ra (sv c) (some (.int (ps.count (e,c):Int))):=by
    have:=vW.k (k:=Sum.inr (tx c)) (t0 _ _ hra')
    unfold yV at this
    rw [jI,zBb,if_pos (List.count_pos_iff.mpr hce)] at this
    exact this
   refine ⟨_,rfl,_,rfl,ra,_,rfl,dg,l0,_,[V.str (tx c)],rfl,rfl,zG,by omega,by omega,by rw [sizeLine_eq]; show 1 * _<=_; omega,fun l1 hl1=>?_⟩
   have e0:(List.replicate ((ps.count (e,c):Int)).toNat [V.str (tx c)]).flatten=(List.replicate (ps.count (e,c)) c).map sv:=by
    rw [zDJ,List.map_replicate]; rfl
   rw [e0]
   have t1:zB (upd H' l0 (.lst [V.str (tx c)])) (upd (upd H' l0 (.lst [V.str (tx c)])) l1 (.lst ((List.replicate (ps.count (e,c)) c).map sv))):=zB.upd1 hl1
   have t01:=t0.trans t1
   have hb:((((yZ ps e).take i).flatMap fun l=>List.replicate (ps.count (e,l)) l).map sv).length+((List.replicate (ps.count (e,c)) c).map sv).length<=sizeLine:=by
    have hp:=zDH ps e
    have h1:((yZ ps e).take (i+1)).flatMap (fun l=>List.replicate (ps.count (e,l)) l)=((yZ ps e).take i).flatMap (fun l=>List.replicate (ps.count (e,l)) l)++List.replicate (ps.count (e,c)) c:=by
     rw [qP hc,List.flatMap_append]; simp
    have h2:(((yZ ps e).take (i+1)).flatMap fun l=>List.replicate (ps.count (e,l)) l).length<=(pot ps e).length:=by
     unfold pot
     conv=>rhs; rw [<- List.take_append_drop (i+1) (yZ ps e),List.flatMap_append,List.length_append]
     omega
    rw [h1,List.length_append] at h2
    have h3:=tot_le ps e
    rw [List.length_map,List.length_map,sizeLine_eq]; omega
   refine ⟨lx,l1,_,_,rfl,rfl,t01 _ _ hlx,zG,hb,fun p hp=>hN _ _ ⟨p,_,rfl,(sm.trans t01).trans (zB.upd1 hp),?_⟩⟩
   rw [zG,qP hc,List.flatMap_append,List.map_append]
   simp
  ·rintro σ H' ⟨lx,x3,rfl,sm,hlx⟩
   rw [List.length_map,List.length_map,List.take_length] at hlx
   have hlx':H' lx=some (.lst ((pot ps e).map sv)):=hlx
   obtain ⟨hpk,hpl⟩:=zGM hal n
   have hmod:(0:Int) < (((pot ps e).map sv).length:Int):=by rw [List.length_map]; omega
   have ixp:qK ((pot ps e).map sv) ((n:Int) % (((pot ps e).map sv).length:Int))=some (sv (pick ps e n)):=by
    rw [List.length_map]
    have:(n:Int) % ((pot ps e).length:Int)=((n % (pot ps e).length:Nat):Int):=rfl
    rw [this]
    exact qY (by rw [List.getElem?_map,hpk]; rfl)
   exact ⟨_,rfl,_,rfl,_,rfl,lx,_,rfl,.inl (.of hlx'),_,_,rfl,rfl,hmod,lx,_,_,_,rfl,rfl,.of hlx',ixp,k H' (s12.trans sm)⟩
abbrev sDT:Stmt:=top 70
theorem zHX:FnScope ["_law_book_here", "_law_order", "_law_numbers_here", "_law_text", "_law_at", "_law_number", "_law_letter"] ["_law_book_here", "_law_order", "_law_numbers_here"] (defScope sDT):=⟨rfl,rfl,rfl,by decide +kernel,rfl,by decide +kernel,by decide +kernel⟩
def zED:Sp:=fun vs H Q _=>∃ (c nl:Addr) (bk:List S) (o:Nat) (ns:List Nat),vs=[.ref c,.int o,.ref nl]/\H c=some (.tup (zM bk))/\Bk bk o/\(zE o bk).length < 64/\H nl=some (.lst (yE ns))/\ns.length<=60/\zAa H Q (dr (zE o bk) o [] ns 0)
theorem zOI {f:Addr}{fd:FuncData} (F:Fun K "_law_drawn_text" "_law_drawn_text" sDT f fd) (hen:mg "enumerate" = none) (cP:yH P w K mg base 1 "_law_picked" ["_law_row_here", "_law_number"] zHW) (cR:yH P w K mg base 2 "_law_row" ["_law_book_here", "_law_order", "_law_text"] zEA):FnOk P w K mg base yF 3 f fd ["_law_book_here", "_law_order", "_law_numbers_here"] zED:=by
 refine F.ok zHX (fun vs H Q E h=>?_) (fun cdv A outer s H vs Q E hr h=>?_)
 ·obtain ⟨c,nl,bk,o,ns,rfl,_⟩:=h; rfl
 ·obtain ⟨c,nl,bk,o,ns,rfl,hc,hb,h64,hnl,h60,k0,k1⟩:=h
  have nd:=zHX.nd
  have r1:=hr.mono (j:=1) (by decide)
  refine ⟨_,zI (z0 (i:=3) nd rfl (Or.inl rfl) yD)
   (zI (qI PassesOwn.never rfl (zFd rfl hen (zC (pv 2) zD)) (zAg rfl (qW (yS (i:=4) nd rfl (Or.inl rfl)) (qW (yS (i:=5) nd rfl (Or.inl rfl)) zAG)))
    (zI (z0 (i:=6) nd rfl (Or.inl rfl) (zT cP r1 rfl (zC (zT cR hr rfl (zC (pv 0) (zC (pv 1) (zC (pv 3) zD)))) (zC (pv 5) zD))))
    (zI (yQ (vH zAL (pv 6) yD (vC _)) (zJ (zV (vJ (zC (pv 3) (zC (zP yT (pv 4) zH) zD))))) yP)
    (zJ (z0 (i:=3) nd rfl (Or.inl rfl) (zP zCA (pv 3) (pv 6)))))))
   (zJ (zV gP))),?_⟩
  have hne:=zBB hb.toisBk
  refine ⟨_,rfl,nl,_,rfl,hnl,?_⟩
  refine zFe (K:=K) (xs:=yE ns) (fun i σ H'=>∃ (t:S) (x4 x5 x6:Option V),σ=[some (.ref c),some (.int o),some (.ref nl),some (sv t),x4,x5,x6]/\zB H H'/\t.length=i/\vX o bk t/\dr (zE o bk) o [] ns 0=dr (zE o bk) o t (ns.drop i) i)
   ⟨[],_,_,_,rfl,zB.refl _,rfl,vX.nil hne,rfl⟩ (fun i σ H' _ h=>by obtain ⟨_,_,_,_,_,h,_⟩:=h; exact .of (h _ _ hnl)) ?_ ?_
  ·rintro i y T σ H' Nx hN hy ⟨t,x4,x5,x6,rfl,sm,htl,hal,hdr⟩ hT
   unfold yE at hy
   obtain ⟨n,hn,rfl⟩:=j7 hy
   have hi:i < ns.length:=(List.getElem?_eq_some_iff.mp hn).1
   have t1:=zB.upd1 (o:=.tup [.int (i:Int),V.int (n:Int)]) hT
   refine ⟨T,_,rfl,.of zG,rfl,_,_,rfl,_,_,rfl,rfl,?_⟩
   have sm1:=sm.trans t1
   have hdd:ns.drop i=n::ns.drop (i+1):=by
    rw [List.drop_eq_getElem_cons hi,(List.getElem?_eq_some_iff.mp hn).2]
   rw [hdd,zDn] at hdr
   refine ⟨_,rfl,_,rfl,_,rfl,c,bk,o,t,rfl,sm1 _ _ hc,hb.hi,hb.l8,hb.o1,by omega,fun ra H2 s2 hra=>?_⟩
   have sm2:=sm1.trans s2
   refine ⟨_,rfl,ra,zE o bk,zS t o,n,rfl,hra,h64,hal,fun H3 s3=>?_⟩
   have sm3:=sm2.trans s3
   refine ⟨_,rfl,rfl,_,rfl,?_⟩
   rcases hal.pick n with e | ⟨d,e,hal2⟩
   ·rw [if_pos e] at hdr
    refine uK (by rw [e]; rfl) ?_
    refine ⟨_,rfl,_,rfl,_,_,rfl,rfl,by show 2<=sizeLine; decide,fun p hp=>?_⟩
    exact k1 _ _ hdr p _ (sm3.trans (zB.upd1 hp)) (sm3.free hp) (by rw [zG]; rfl)
   ·rw [if_neg (by rw [e]; simp),e] at hdr
    refine uL (by rw [e]; intro z; cases z) ?_
    rw [e]
    refine ⟨_,rfl,_,rfl,tx t,tx [d],rfl,rfl,by rw [zY,zY,sizeLine_eq]; show _+1<=_; omega,hN _ _ ⟨t++[d],_,_,_,by rw [zCx]; rfl,sm3,by rw [List.length_append]; simp [htl],hal2,?_⟩⟩
    rw [hdr]
  ·rintro σ H' ⟨t,x4,x5,x6,rfl,sm,htl,hal,hdr⟩
   rw [zAY,List.drop_length] at hdr
   exact k0 hdr H' sm
abbrev sLD:Stmt:=top 71
theorem zHY:FnScope ["_law_book_here", "_law_order", "_law_wish_here", "_law_numbers_here", "_law_taken", "_law_found"] ["_law_book_here", "_law_order", "_law_wish_here", "_law_numbers_here"] (defScope sLD):=⟨rfl,rfl,rfl,by decide +kernel,rfl,by decide +kernel,by decide +kernel⟩
def zHZ:Sp:=fun vs H Q _=>∃ (c wa nl:Addr) (bk:List S) (o:Nat) (lo hi:Int) (hd tl:S) (ba:List S) (to:Bool) (ns:List Nat),vs=[.ref c,.int o,.ref wa,.ref nl]/\H c=some (.tup (zM bk))/\Bk bk o/\(zE o bk).length < 64/\qS H wa lo hi hd tl ba to/\GW lo hi hd tl ba/\H nl=some (.lst (yE ns))/\ns.length<=60 /\
 ∀ v H',zB H H'->kZ H' v 6 (vD (zE o bk) o (vG bk lo hi hd tl ba to) ns (ns.length+1) 0)->Q v H'
theorem zOJ {f:Addr}{fd:FuncData} (F:Fun K "_law_drawn_fitting" "_law_drawn_fitting" sLD f fd) (cD:yH P w K mg base 3 "_law_drawn_text" ["_law_book_here", "_law_order", "_law_numbers_here"] zED) (cF:yH P w K mg base 1 "_law_fits" ["_law_book_here", "_law_wish_here", "_law_name_here"] zHS) :
  FnOk P w K mg base yF 4 f fd ["_law_book_here", "_law_order", "_law_wish_here", "_law_numbers_here"] zHZ:=by
 refine F.ok zHY (fun vs H Q E h=>?_) (fun cdv A outer s H vs Q E hr h=>?_)
 ·obtain ⟨c,wa,nl,bk,o,lo,hi,hd,tl,ba,to,ns,rfl,_⟩:=h; rfl
 ·obtain ⟨c,wa,nl,bk,o,lo,hi,hd,tl,ba,to,ns,rfl,hc,hb,h64,hw,gw,hnl,h60,k⟩:=h
  have nd:=zHY.nd
  have r1:=hr.mono (j:=1) (by decide)
  refine ⟨_,zI (z0 (i:=4) nd rfl (Or.inl rfl) zH)
   (zI (z0 (i:=5) nd rfl (Or.inl rfl) (zT cD hr rfl (zC (pv 0) (zC (pv 1) (zC (pv 3) zD)))))
   (zI (zEO PassesOwn.never (vH zEY (pv 5) gP (vC _))
    (zI (z0 (i:=4) nd rfl (Or.inl rfl) (zP yT (pv 4) (yK vA (pv 5) zH (fun _ _=>rfl))))
    (zI (yQ (v4 (zT cF r1 rfl (zC (pv 0) (zC (pv 2) (zC (yK vA (pv 5) zH (fun _ _=>rfl)) zD))))) (zJ (zV (vJ (zC (yK vA (pv 5) zH (fun _ _=>rfl)) (zC (pv 4) zD))))) yP)
    (zJ (z0 (i:=5) nd rfl (Or.inl rfl) (zT cD hr rfl (zC (pv 0) (zC (pv 1) (zC (zCE zIu (pv 3) (uE (pv 4)) qX) zD)))))))))
   (zJ (zV (vJ (zC yD (zC zH zD))))))),?_⟩
  have isb:=hb.toisBk
  generalize hfull:vD (zE o bk) o (vG bk lo hi hd tl ba to) ns (ns.length+1) 0=full at k
  refine ⟨_,rfl,_,rfl,_,rfl,c,nl,bk,o,ns,rfl,hc,hb,h64,hnl,h60,zAa.of fun ov H1 s1 hov=>?_⟩
  refine ⟨fun m σ H'=>∃ (tk:Nat) (one:Option (S × Nat)) (ov:V),σ=[some (.ref c),some (.int o),some (.ref wa),some (.ref nl),some (.int (tk:Int)),some ov]/\zB H H'/\zHK H' ov one/\tk<=ns.length/\one=dr (zE o bk) o [] (ns.drop tk) 0/\m=ns.length - tk/\full=vD (zE o bk) o (vG bk lo hi hd tl ba to) ns (ns.length+1) tk,⟨_,0,_,ov,rfl,s1,hov,Nat.zero_le _,rfl,rfl,hfull.symm⟩,?_⟩
  rintro m σ H' ⟨tk,one,ov',rfl,sm,hov',htk,hone,rfl,hst⟩
  rw [zNw,zNx,<- hone] at hst
  refine ⟨_,rfl,rfl,_,rfl,?_⟩
  cases one with
  | none =>
   cases (show ov'=.non from hov')
   refine jC rfl ?_
   refine ⟨by show 2<=sizeLine; decide,fun p hp=>k _ _ (sm.trans (zB.upd1 hp)) ?_⟩
   have hst':full=none:=hst
   rw [hst']
   exact ⟨p,rfl,zG⟩
  | some r =>
   obtain ⟨x1,q1⟩:=r
   obtain ⟨p,rfl,hp⟩:=hov'
   have hdl:=zBe _ _ _ _ _ (vX.nil (zBB isb)) hone.symm
   rw [List.length_drop] at hdl
   simp only [List.length_nil] at hdl
   have hst':full=if vG bk lo hi hd tl ba to x1 then some (x1,q1+tk) else vD (zE o bk) o (vG bk lo hi hd tl ba to) ns (ns.length+1) (q1+tk):=hst
   refine jO (by intro z; cases z) ⟨_,fun _ _ h=>h,?_⟩
   refine ⟨_,rfl,_,rfl,p,_,1,.int (q1:Int),rfl,rfl,.of hp,rfl,_,_,rfl,rfl,?_⟩
   refine ⟨_,rfl,_,rfl,_,rfl,p,_,0,sv x1,rfl,rfl,.of hp,rfl,c,wa,bk,lo,hi,hd,tl,ba,to,x1,rfl,sm _ _ hc,hw.same sm,gw,by omega,_,rfl,?_⟩
   cases ef:vG bk lo hi hd tl ba to x1 with
   | true =>
    rw [ef] at hst'
    refine z7 ?_
    refine ⟨_,rfl,p,_,0,sv x1,rfl,rfl,.of hp,rfl,_,rfl,by show 2<=sizeLine; decide,fun p2 hp2=>k _ _ (sm.trans (zB.upd1 hp2)) ?_⟩
    have hst2:full=some (x1,q1+tk):=hst'
    rw [hst2]
    refine ⟨p2,rfl,?_⟩
    rw [zG]
    have:(tk:Int)+(q1:Int)=((q1+tk:Nat):Int):=by omega
    show some (HO.tup [sv x1,V.int ((tk:Int)+(q1:Int))])=_
    rw [this]
   | false =>
    rw [ef] at hst'
    have hst2:full=vD (zE o bk) o (vG bk lo hi hd tl ba to) ns (ns.length+1) (q1+tk):=hst'
    refine yU ?_
    refine ⟨_,rfl,_,rfl,_,rfl,_,rfl,_,rfl,nl,_,rfl,.of (sm _ _ hnl),fun cu hcu=>?_⟩
    have ecu:uB (yE ns) (some ((tk:Int)+(q1:Int))) none=yE (ns.drop (tk+q1)):=zNz ns (tk+q1)
    have t3:=zB.upd1 (o:=.lst (uB (yE ns) (some ((tk:Int)+(q1:Int))) none)) hcu
    have hcu1:upd H' cu (.lst (uB (yE ns) (some ((tk:Int)+(q1:Int))) none)) cu=some (.lst (yE (ns.drop (tk+q1)))):=by rw [zG,ecu]
    have sm3:=sm.trans t3
    refine ⟨c,cu,bk,o,ns.drop (tk+q1),rfl,sm3 _ _ hc,hb,h64,hcu1,by rw [List.length_drop]; omega,zAa.of fun ov2 H4 s4 hov2=>?_⟩
    exact ⟨ns.length - (tk+q1),by omega,tk+q1,_,ov2,rfl,sm3.trans s4,hov2,by omega,rfl,rfl,by rw [hst2,Nat.add_comm q1 tk]⟩
end
end Kn.Dr
end
section
namespace Kn.Dr
open PySem L2 Kn
section
variable {P:Program}{w:World}{K:PySem.W.Frag}{mg:Str->Option Value}{base:Heap}
theorem zOK {row:List (S × Int)}{i:Nat}{x:V} (h:((yV row).map fun p=>kV p.1)[i]?=some x):∃ q,row[i]?=some q/\x=sv q.1:=by
 unfold yV vP jE at h
 rw [List.map_map,List.map_map] at h
 obtain ⟨q,hq,rfl⟩:=j7 h
 exact ⟨q,hq,rfl⟩
abbrev sLN:Stmt:=top 72
theorem zHa:FnScope ["_law_book_here", "_law_order", "_law_name_here", "_law_found", "_law_size", "_law_row_here", "_law_letter"] ["_law_book_here", "_law_order", "_law_name_here"] (defScope sLN):=⟨rfl,rfl,rfl,by decide +kernel,rfl,by decide +kernel,by decide +kernel⟩
theorem zOL:(["_law_row_here", "_law_letter", "_law_one"]:List Str).Nodup:=by decide +kernel
def zHb:Sp:=fun vs H Q _=>∃ (c:Addr) (bk:List S) (o:Nat) (x:S),vs=[.ref c,.int o,sv x]/\H c=some (.tup (zM bk))/\Bk bk o/\(zE o bk).length < 64/\x.length<=8 /\
 (¬ (∀ q∈zX o x,q∈zE o bk)->∀ p H',zB H H'->vB H' p 5->Q (.ref p) H')/\((∀ q∈zX o x,q∈zE o bk)->∀ (l:Addr) (H':Hp),zB H H'->H' l=some (.lst (yE (qO (zE o bk) (zX o x))))->Q (.ref l) H')
theorem zOM {f:Addr}{fd:FuncData} (F:Fun K "_law_numbers" "_law_numbers" sLN f fd) (B:Blt mg) (cR:yH P w K mg base 2 "_law_row" ["_law_book_here", "_law_order", "_law_text"] zEA):FnOk P w K mg base yF 3 f fd ["_law_book_here", "_law_order", "_law_name_here"] zHb:=by
 refine F.ok zHa (fun vs H Q E h=>?_) (fun cdv A outer s H vs Q E hr h=>?_)
 ·obtain ⟨c,bk,o,x,rfl,_⟩:=h; rfl
 ·obtain ⟨c,bk,o,x,rfl,hc,hb,h64,h8,kR,kG⟩:=h
  have hu:=gE hr
  have nd:=zHa.nd
  refine ⟨_,zI (z0 (i:=3) nd rfl (Or.inl rfl) (yR zD))
   (zI (qI PassesOwn.never rfl (kM rfl B.range (zC (zP yT (yC qZ (by rfl) B.len PySem.boot_len (zC (pv 2) zD)) zH) zD)) (yS (i:=4) nd rfl (Or.inl rfl))
    (zI (z0 (i:=5) nd rfl (Or.inr rfl) (zT cR hr rfl (zC (pv 0) (zC (pv 1) (zC (jF (pv 2) qX (uE (pv 4))) zD)))))
    (zI (z0 (i:=6) nd rfl (Or.inr rfl) (jF (pv 2) (uE (pv 4)) (uE (zP yT (pv 4) zH))))
    (zI (yQ (zEJ (zFD hu (pv 6) (pv 5))) (zJ (zV (vJ (zC yD (zC zH zD))))) yP)
    (zJ (uX (jM PySem.F.plainAttrs_list PySem.F.slot_list_append PySem.F.type_list_append zCG (pv 3) (zC (yC (zJo rfl) (by rfl) B.sum PyProof.Rows.boot_sum (zC
     (zLK (qA (N:=["_law_row_here", "_law_letter", "_law_one"]) (caps:=[5,6]) rfl (uT (by kernel_rfl)) (zLI (pv 5)) (fun cl X s H ex=>yS (i:=2) zOL rfl (Or.inl rfl)) (fun cl X s H ex=>zJX (vH zEX (pv 2) (pv 1) (vC _))) (fun cl X s H ex=>gD hu (pv 0) (pv 2) (fun _ _=>rfl)))) zD)) zD))))))))
   (zJ (zV (pv 3)))),?_⟩
  refine ⟨by show 0<=sizeLine; decide,fun lo hlo=>?_⟩
  have s1:=zB.upd1 (o:=.lst []) hlo
  have hlo1:upd H lo (.lst []) lo=some (.lst (yE [])):=zG
  generalize upd H lo (.lst [])=H1 at s1 hlo1
  have hlx:(tx x).length<=sizeLine:=by rw [zY,sizeLine_eq]; omega
  refine ⟨_,rfl,tx x,rfl,hlx,_,_,rfl,rfl,_,rfl,by rw [zY]; omega,by rw [zY]; omega,?_⟩
  have hnn:(((tx x).length:Int)+1).toNat=x.length+1:=by rw [zY]; rfl
  have hclo:c≠lo:=vO hc hlo
  refine jN (jY 0 _) (fun i σ G=>∃ x4 x5 x6:Option V,σ=[some (.ref c),some (.int o),some (sv x),some (.ref lo),x4,x5,x6]/\vL lo H1 G/\G lo=some (.lst (yE (qO (zE o bk) ((zX o x).take i))))/\∀ q∈(zX o x).take i,q∈zE o bk)
   ⟨_,_,_,rfl,vL.refl _,hlo1,by simp⟩ (fun i σ G _ h=>trivial) ?_ ?_
  ·rintro i y σ G Nx hN hy ⟨x4,x5,x6,rfl,sx,hloG,hall⟩
   rw [hnn] at hy
   obtain ⟨hi,rfl⟩:=kT hy
   have ep:(zX o x)[i]?=some (zS (x.take i) o,(x.drop i).take 1):=by
    unfold zX
    rw [List.getElem?_map,List.getElem?_range hi]; rfl
   refine ⟨_,rfl,_,rfl,_,rfl,_,rfl,_,rfl,tx x,rfl,hlx,c,bk,o,x.take i,by rw [zAs]; rfl,sx _ _ hclo (s1 _ _ hc),hb.hi,hb.l8,hb.o1,by rw [List.length_take]; omega,fun ra G2 s2 hra=>?_⟩
   have hloG2:=s2 _ _ hloG
   refine ⟨_,rfl,_,rfl,_,rfl,_,rfl,_,_,rfl,rfl,_,rfl,tx x,rfl,hlx,?_⟩
   rw [zCe]
   have hralo:ra≠lo:=fun z=>by rw [z,hloG2] at hra; cases hra
   refine ⟨_,rfl,_,rfl,ra,_,rfl,vW.k (k:=Sum.inr (tx ((x.drop i).take 1))) hra,_,rfl,?_⟩
   unfold yV
   rw [jI,zBb]
   by_cases hin:(zS (x.take i) o,(x.drop i).take 1)∈zE o bk
   ·rw [if_pos (List.count_pos_iff.mpr hin)]
    refine yU ?_
    have hrl:(yL (zE o bk) (zS (x.take i) o)).length < 64:=by have:=zDG (zE o bk) (zS (x.take i) o); omega
    refine ⟨_,rfl,.inl ⟨rfl,_,.of hloG2⟩,?_⟩
    refine ⟨ra,_,hra,_,rfl,ra,_,rfl,hra,fun ob=>?_⟩
    have hlen:((yV (yL (zE o bk) (zS (x.take i) o))).map fun p=>kV p.1).length=(yL (zE o bk) (zS (x.take i) o)).length:=by rw [List.length_map]; exact zAS _ _
    refine zFa (zLF ra ob (yV (yL (zE o bk) (zS (x.take i) o)))) [some (.ref ra),some (sv ((x.drop i).take 1))] 1 (by rw [hlen]; omega) (fun j acc G'=>G'=upd G2 ra (.frz ob (.dK (yV (yL (zE o bk) (zS (x.take i) o)))))/\acc=((((yL (zE o bk) (zS (x.take i) o)).take j).filter fun q=>decide (q.1 < (x.drop i).take 1)).map (·.2)).map V.int) ⟨rfl,rfl⟩ (fun j acc G' _ h=>⟨by rw [h.1,zG],by
      rw [h.2,List.length_map,List.length_map]
      have h1:=List.length_filter_le (fun q:S × Int=>decide (q.1 < (x.drop i).take 1)) ((yL (zE o bk) (zS (x.take i) o)).take j)
      rw [List.length_take] at h1
      omega⟩) ?_ ?_
    ·rintro j y acc G' ys Nx2 hN2 hx hys ⟨rfl,rfl⟩
     obtain ⟨y',rfl⟩:=uP hys
     obtain ⟨q,hq,rfl⟩:=zOK hx
     refine ⟨_,rfl,_,rfl,_,_,rfl,rfl,_,rfl,?_⟩
     rw [v7,v7]
     by_cases hlt:q.1 < (x.drop i).take 1
     ·refine uK hlt ?_
      refine ⟨_,rfl,_,rfl,ra,.int q.2,rfl,.inl ⟨_,Sum.inr (tx q.1),.inr ⟨ob,zG⟩,rfl,?_⟩,hN2 _ _ [some (sv q.1)] rfl ⟨rfl,?_⟩⟩
      ·unfold yV
       have hg:zR (yL (zE o bk) (zS (x.take i) o)) q.1=some q.2:=(qB (g0 _ _) _ _).mp (List.mem_of_getElem? hq)
       rw [jI,hg]; rfl
      ·rw [qP hq,List.filter_append,List.filter_cons,if_pos (decide_eq_true hlt)]
       simp
     ·refine uL hlt (hN2 _ _ [some (sv q.1)] rfl ⟨rfl,?_⟩)
      rw [qP hq,List.filter_append,List.filter_cons,if_neg (by rw [decide_eq_true_eq]; exact hlt)]
      simp
    ·rintro acc G' ⟨rfl,rfl⟩ D hD
     rw [hlen,List.take_length]
     have hne:ra≠D:=fun z=>by rw [<- z,zG] at hD; cases hD
     have hDH:G2 D=none:=by rw [zN hne.symm] at hD; exact hD
     have t3:zB G2 (upd (upd (upd G2 ra (.frz ob (.dK (yV (yL (zE o bk) (zS (x.take i) o)))))) D (.lst ((((yL (zE o bk) (zS (x.take i) o)).filter fun q=>decide (q.1 < (x.drop i).take 1)).map (·.2)).map V.int))) ra (.dK (yV (yL (zE o bk) (zS (x.take i) o))))):=fun b u q=>by
      by_cases hb':b=ra
      ·subst hb'; rw [zG,<- q,hra]
      ·rw [zN hb',zN (vO q hDH),zN hb']; exact q
     refine ⟨ob,by rw [zN hne,zG],D,_,rfl,.of (by rw [zN hne.symm,zG]),?_⟩
     rw [zOG hin]
     have hnl:(yE (qO (zE o bk) ((zX o x).take i))).length < sizeLine:=by
      rw [zAY]; unfold qO; rw [List.length_map,List.length_take,sizeLine_eq]; omega
     refine ⟨lo,_,_,rfl,rfl,t3 _ _ hloG2,hnl,hN _ _ ⟨_,_,_,rfl,(sx.trans (vL.of (s2.trans t3))).updf,?_,fun q hq=>?_⟩⟩
     ·rw [zG,qP ep]
      unfold qO yE
      rw [List.map_append,List.map_append]; rfl
     ·rw [qP ep] at hq
      rcases List.mem_append.mp hq with z | z
      ·exact hall q z
      ·rw [List.mem_singleton.mp z]; exact hin
   ·rw [if_neg (fun z=>hin (List.count_pos_iff.mp z))]
    refine z7 ?_
    refine ⟨by show 2<=sizeLine; decide,fun p hp=>kR (fun z=>hin (z _ (List.mem_of_getElem? ep))) p _ ((vL.same s1 hlo (sx.trans (vL.of s2))).trans (zB.upd1 hp)) zG⟩
  ·rintro σ G ⟨x4,x5,x6,rfl,sx,hloG,hall⟩
   have e1:(zX o x).take (x.length+1)=zX o x:=by rw [<- zBc o x,List.take_length]
   rw [List.length_map,List.length_range,hnn,e1] at hloG hall
   exact ⟨_,rfl,kG hall lo G (vL.same s1 hlo sx) hloG⟩
def uR (wy:Nat) (d e z g:PyData):Option Nat:=if y6 d=false then some 0 else if vU e=false then some 1 else
 if wy=0 then (if y7 g=false then some 4 else none) else if wy=1 then (if vM z=false then some 3 else if y7 g=false then some 4 else none) else (if yW g=false then some 2 else none)
def gO (H:Hp) (Q:VK) (j:Nat):Prop:=∀ p H',zB H H'->vB H' p j->Q (.ref p) H'
def zAb (H:Hp) (Q:VK) (r:Option (S × Nat)):Prop:=∀ v H',zB H H'->kZ H' v 6 r->Q v H'
def zAc:Sp:=fun vs H Q _=>∃ (wy:Nat) (v u y x:V) (d e z g:PyData),vs=[.int wy,v,u,y,x]/\wy < 3/\zO H d v/\zO H e u/\zO H z y/\zO H g x/\sml d=true/\sml e=true/\sml z=true/\SeqAt.shaped z=true/\sml g=true /\
 (∀ j,uR wy d e z g=some j->gO H Q j) /\
 (wy=0->∀ bk o ns,Bk bk o->d=.tuple (bk.map fun x=>PyData.str (tx x))->u=.int (o:Nat)->uW g ns->ns.length<=99->y7 g=true->(zE o bk).length < 64/\zAb H Q (dr (zE o bk) o [] ns 0)) /\
 (wy=1->∀ bk o lo hi hd tl ba to ns,Bk bk o->d=.tuple (bk.map fun x=>PyData.str (tx x))->u=.int (o:Nat)->GW lo hi hd tl ba->z=kA lo hi hd tl ba to->uW g ns->ns.length<=99->y7 g=true->(zE o bk).length < 64/\zAb H Q (vD (zE o bk) o (vG bk lo hi hd tl ba to) ns (ns.length+1) 0)) /\
 (wy=2->∀ bk o nm,Bk bk o->d=.tuple (bk.map fun x=>PyData.str (tx x))->u=.int (o:Nat)->vI nm->g=.str (tx nm)->(zE o bk).length < 64/\(¬ (∀ q∈zX o nm,q∈zE o bk)->gO H Q 5) /\
  ((∀ q∈zX o nm,q∈zE o bk)->∀ (l:Addr) (H':Hp),zB H H'->H' l=some (.lst (yE (qO (zE o bk) (zX o nm))))->Q (.ref l) H'))
abbrev sTo:Stmt:=top 68
theorem zHc:FnScope ["_law_way", "_law_book_here", "_law_order", "_law_wish_here", "_law_thing", "_law_e"] ["_law_way", "_law_book_here", "_law_order", "_law_wish_here", "_law_thing"] (defScope sTo):=⟨rfl,rfl,rfl,by decide +kernel,rfl,by decide +kernel,by decide +kernel⟩
theorem zON {f:Addr}{fd:FuncData}{cs:List Addr}{L:Addr} (F:Fun K "_law_told" "_law_told" sTo f fd) (E:ErrX K mg cs L) (cD:uF P w K mg base 5 "drawn" ["book", "order", "numbers"] (zGt (cs.getD 0 0) (cs.getD 1 0) (cs.getD 4 0) (cs.getD 6 0))) (cF:uF P w K mg base 6 "drawn_fitting" ["book", "order", "wish", "numbers"] (zGw (cs.getD 0 0) (cs.getD 1 0) (cs.getD 3 0) (cs.getD 4 0) (cs.getD 6 0)))
  (cN:uF P w K mg base 5 "numbers_for" ["book", "order", "name"] (zGy (cs.getD 0 0) (cs.getD 1 0) (cs.getD 2 0) (cs.getD 5 0))) (cR:zDA P w K mg base 1 "_law_refused" ["_law_e"] (zDP cs)):FnOk P w K mg base yF 7 f fd ["_law_way", "_law_book_here", "_law_order", "_law_wish_here", "_law_thing"] zAc:=by
 refine F.ok zHc (fun vs H Q E h=>?_) (fun cdv A outer s H vs Q E' hr h=>?_)
 ·obtain ⟨wy,v,u,y,x,d,e,z,g,rfl,_⟩:=h; rfl
 ·obtain ⟨wy,v,u,y,x,d,e,z,g,rfl,h3,hv,hu,hy,hx,sd,se,sz,shz,sg,kR,k0,k1,k2⟩:=h
  have nd:=zHc.nd
  have r5:=hr.mono (j:=5) (by decide)
  have r1:=hr.mono (j:=1) (by decide)
  refine ⟨_,zJ (zKt (i:=5) rfl rfl rfl E.like (by rfl) nd rfl rfl
   (fun E1 ET pn ok=>zI (yQ (vH zAL (pv 0) zH (vC _)) (zJ (zV (uM cD ok r5 rfl (zC (pv 1) (zC (pv 2) (zC (pv 4) zD)))))) yP)
    (zJ (zV (zBG (vH zAL (pv 0) zH (vC _)) (uM cF ok hr rfl (zC (pv 1) (zC (pv 2) (zC (pv 3) (zC (pv 4) zD))))) (uM cN ok r5 rfl (zC (pv 1) (zC (pv 2) (zC (pv 4) zD))))))))
   (fun e=>zJ (zV (zKx cR (r1.busy _) rfl (zC (pv 5) zD))))),?_⟩
  have caught:∀ (j:Nat),j < 8->gO H Q j->∀ H1,zB H H1->∃ C:Addr,Value.ref (cs.getD j 0)=.ref C/\PySem.W.excIn K C g6 "ValueError.__new__" = true/\zAV K C L=true/\∀ e1,H1 e1=none ->
    zEL (zAk (zDP cs) [] E0 (zCB (qH 5) zEd)) { nx:=fun _ _=>False,rt:=Q } ((List.replicate 6 none).set 5 (some (.ref e1))) (upd H1 e1 (XO e1 C)):=fun j hj kk H1 s1=>by
   obtain ⟨a1,a2,a3,_⟩:=E.at_ j hj
   refine ⟨_,rfl,a1.exc,a3,fun e1 he1=>?_⟩
   refine ⟨_,rfl,e1,j,rfl,hj,zG,fun p H' sm _ hp=>kk p H' (s1.trans ((zB.upd1 he1).trans sm)) hp⟩
  have out:∀ {r:Option (S × Nat)},zAb H Q r->r=none->gO H Q 6:=fun {r} ok e p H' s' hp=>ok _ _ s' (by rw [e]; exact ⟨p,rfl,hp⟩)
  have out1:∀ {r:Option (S × Nat)},zAb H Q r->∀ x q,r=some (x,q)->∀ (p:Addr) (H':Hp),zB H H'->H p=none->H' p=some (.tup [sv x,.int (q:Int)])->Q (.ref p) H':=fun {r} ok x q e p H' s' _ hp=>ok _ _ s' (by rw [e]; exact ⟨p,rfl,hp⟩)
  have b0:y6 d=false->gO H Q 0:=fun h=>kR 0 (by simp [uR,h])
  have b1:y6 d=true->vU e=false->gO H Q 1:=fun h h'=>kR 1 (by simp [uR,h,h'])
  refine ⟨_,rfl,rfl,_,rfl,?_⟩
  by_cases w0:wy=0
  ·subst w0
   refine uK rfl ?_
   refine ⟨_,rfl,_,rfl,_,rfl,v,u,x,d,e,g,rfl,hv,hu,hx,sd,se,sg,fun hb H1 s1=>caught 0 (by decide) (b0 hb) H1 s1,fun hb ho H1 s1=>caught 1 (by decide) (b1 hb ho) H1 s1,fun hb ho hn H1 s1=>caught 4 (by decide) (kR 4 (by simp [uR,hb,ho,hn])) H1 s1,fun bk o ns h1 h2 h3 h4 h5 h6=>?_⟩
   obtain ⟨g1,g2⟩:=k0 rfl bk o ns h1 h2 h3 h4 h5 h6
   exact ⟨g1,fun hz H1 s1=>caught 6 (by decide) (out g2 hz) H1 s1,out1 g2⟩
  ·refine uL (by intro z; injection z with z; omega) ?_
   refine ⟨_,rfl,rfl,_,rfl,?_⟩
   by_cases w1:wy=1
   ·subst w1
    refine uK rfl ?_
    refine ⟨_,rfl,_,rfl,_,rfl,_,rfl,v,u,y,x,d,e,z,g,rfl,hv,hu,hy,hx,sd,se,sz,shz,sg,fun hb H1 s1=>caught 0 (by decide) (b0 hb) H1 s1,fun hb ho H1 s1=>caught 1 (by decide) (b1 hb ho) H1 s1,fun hb ho hn H1 s1=>caught 3 (by decide) (kR 3 (by simp [uR,hb,ho,hn])) H1 s1,fun hb ho hn hm H1 s1=>caught 4 (by decide) (kR 4 (by simp [uR,hb,ho,hn,hm])) H1 s1,fun bk o lo hi hd tl ba to ns h1 h2 h3 h4 h5 h6 h7 h8=>?_⟩
    obtain ⟨g1,g2⟩:=k1 rfl bk o lo hi hd tl ba to ns h1 h2 h3 h4 h5 h6 h7 h8
    exact ⟨g1,fun hz H1 s1=>caught 6 (by decide) (out g2 hz) H1 s1,out1 g2⟩
   ·have w2:wy=2:=by omega
    subst w2
    refine uL (by intro z; injection z with z; omega) ?_
    refine ⟨_,rfl,_,rfl,_,rfl,v,u,x,d,e,g,rfl,hv,hu,hx,sd,se,sg,fun hb H1 s1=>caught 0 (by decide) (b0 hb) H1 s1,fun hb ho H1 s1=>caught 1 (by decide) (b1 hb ho) H1 s1,fun hb ho hn H1 s1=>caught 2 (by decide) (kR 2 (by simp [uR,hb,ho,hn])) H1 s1,fun bk o nm h1 h2 h3 h4 h5=>?_⟩
    obtain ⟨g1,g2,g3⟩:=k2 rfl bk o nm h1 h2 h3 h4 h5
    exact ⟨g1,fun hz H1 s1=>caught 5 (by decide) (g2 hz) H1 s1,fun hz l H1 s1 _ hl=>g3 hz l H1 s1 hl⟩
theorem zAd {wy:Nat}{d e z g:PyData} (h3:wy < 3) (hd:y6 d=true) (he:vU e=true) (h0:wy=0->y7 g=true) (h1:wy=1->vM z=true/\y7 g=true) (h2:wy=2->yW g=true):uR wy d e z g=none:=by
 unfold uR
 rw [if_neg (by rw [hd]; decide),if_neg (by rw [he]; decide)]
 by_cases w0:wy=0
 ·rw [if_pos w0,if_neg (by rw [h0 w0]; decide)]
 ·rw [if_neg w0]
  by_cases w1:wy=1
  ·rw [if_pos w1,if_neg (by rw [(h1 w1).1]; decide),if_neg (by rw [(h1 w1).2]; decide)]
  ·rw [if_neg w1,if_neg (by rw [h2 (by omega)]; decide)]
theorem zOO {H:Hp}{e:PyData}{o:Nat} (h:zO H e (.int (o:Int))):e=.int (o:Int):=by
 cases e with
 | int i=>cases (show V.int (o:Int)=.int i from h); rfl
 | list ds=>obtain ⟨_,_,z,_⟩:=h; cases z
 | tuple ds=>obtain ⟨_,_,z,_⟩:=h; cases z
 | dict _=>exact h.elim
 | none=>cases (show V.int (o:Int)=.non from h)
 | bool b=>cases (show V.int (o:Int)=.bl b from h)
 | str x=>cases (show V.int (o:Int)=.str x from h)
theorem to_ref {wy j:Nat}{H:Hp}{Q:VK}  {v u y x:V}{d e z g:PyData} (h3:wy < 3) (hv:zO H d v) (hu:zO H e u) (hy:zO H z y) (hx:zO H g x) (sd:sml d=true) (se:sml e=true) (sz:sml z=true) (shz:SeqAt.shaped z=true) (sg:sml g=true) (hj:uR wy d e z g=some j) (k:gO H Q j):zAc [.int (wy:Int),v,u,y,x] H Q (fun _ _ _=>True):=by
 have od:∀ {o:Nat} {bk:List S},Bk bk o->u=.int (o:Int)->vU e=true:=fun {o bk} hb h=>by
  subst h
  rw [zOO hu]
  exact zBA hb.o1 hb.o3
 have no:uR wy d e z g=none->False:=fun h=>by rw [hj] at h; cases h
 refine ⟨wy,v,u,y,x,d,e,z,g,rfl,h3,hv,hu,hy,hx,sd,se,sz,shz,sg,fun j' h=>by (rw [hj] at h; cases h; exact k),fun w bk o ns h1 h2 h3' _ _ h6=>(no ?_).elim,fun w bk o lo hi hd tl ba to ns h1 h2 h3' h4 h5 _ _ h8=>(no ?_).elim,fun w bk o nm h1 h2 h3' h4 h5=>(no ?_).elim⟩
 ·exact zAd h3 (by rw [h2]; exact gJ h1.toisBk) (od h1 h3') (fun _=>h6) (fun z=>by omega) (fun z=>by omega)
 ·exact zAd h3 (by rw [h2]; exact gJ h1.toisBk) (od h1 h3') (fun z=>by omega) (fun _=>⟨by rw [h5]; exact zDt h4,h8⟩) (fun z=>by omega)
 ·exact zAd h3 (by rw [h2]; exact gJ h1.toisBk) (od h1 h3') (fun z=>by omega) (fun z=>by omega) (fun _=>by rw [h5]; exact zAw h4)
theorem to_draw {H:Hp}{Q:VK}  {c:Addr}{y nv:V}{z:PyData}{bk:List S}{o:Nat}{ns:List Nat} (hc:H c=some (.tup (zM bk))) (hb:Bk bk o) (h64:(zE o bk).length < 64) (hy:zO H z y) (sz:sml z=true) (shz:SeqAt.shaped z=true) (hn:jQ H nv ns) (h99:ns.length<=99) (h9:∀ n∈ns,n<=9999) (k:zAb H Q (dr (zE o bk) o [] ns 0)):zAc [.int 0,.ref c,.int (o:Int),y,nv] H Q (fun _ _ _=>True):=by
 obtain ⟨g,tg,ng⟩:=hn.thg
 refine ⟨0,_,_,y,nv,_,.int (o:Int),z,g,rfl,by decide,zAC hc,rfl,hy,tg,zAD hb.toisBk,rfl,sz,shz,ng.sml h99,fun j h=>?_,fun _ bk' o' ns' hb' e1 e2 e3 _ _=>?_,(fun z=>by cases z),(fun z=>by cases z)⟩
 ·rw [zAd (by decide) (gJ hb.toisBk) (zBA hb.o1 hb.o3) (fun _=>ng.is h99 h9) (fun z=>by cases z) (fun z=>by cases z)] at h; cases h
 ·have q1:=zAz (PyData.tuple.inj e1)
  have q2:=V.int.inj e2
  have q2':o=o':=by omega
  have q3:=ng.uniq e3
  subst q1 q2' q3
  exact ⟨h64,k⟩
theorem to_fit {H:Hp}{Q:VK}  {c wa:Addr}{nv:V}{bk:List S}{o:Nat}{lo hi:Int}{hd tl:S}{ba:List S}{to:Bool}{ns:List Nat} (hc:H c=some (.tup (zM bk))) (hb:Bk bk o) (h64:(zE o bk).length < 64) (hw:qS H wa lo hi hd tl ba to) (gw:GW lo hi hd tl ba) (hn:jQ H nv ns) (h99:ns.length<=99) (h9:∀ n∈ns,n<=9999) (k:zAb H Q (vD (zE o bk) o (vG bk lo hi hd tl ba to) ns (ns.length+1) 0)):zAc [.int 1,.ref c,.int (o:Int),.ref wa,nv] H Q (fun _ _ _=>True):=by
 obtain ⟨g,tg,ng⟩:=hn.thg
 refine ⟨1,_,_,_,nv,_,.int (o:Int),_,g,rfl,by decide,zAC hc,rfl,zAE hw,tg,zAD hb.toisBk,rfl,(zDv gw).1,(zDv gw).sh (by decide),ng.sml h99,fun j h=>?_,(fun z=>by cases z),fun _ bk' o' lo' hi' hd' tl' ba' to' ns' hb' e1 e2 gw' e4 e3 _ _=>?_,(fun z=>by cases z)⟩
 ·have h':=zAd (wy:=1) (z:=kA lo hi hd tl ba to) (by decide) (gJ hb.toisBk) (zBA hb.o1 hb.o3) (fun z=>by cases z) (fun _=>⟨zDt gw,ng.is h99 h9⟩) (fun z=>by cases z)
  rw [h'] at h; cases h
 ·have q1:=zAz (PyData.tuple.inj e1)
  have q2:=V.int.inj e2
  have q2':o=o':=by omega
  have q3:=ng.uniq e3
  obtain ⟨w1,w2,w3,w4,w5,w6⟩:=zNu e4
  subst q1 q2' q3 w1 w2 w3 w4 w5 w6
  exact ⟨h64,k⟩
theorem to_num {H:Hp}{Q:VK}  {c:Addr}{y:V}{z:PyData}{bk:List S}{o:Nat}{nm:S} (hc:H c=some (.tup (zM bk))) (hb:Bk bk o) (h64:(zE o bk).length < 64) (hy:zO H z y) (sz:sml z=true) (shz:SeqAt.shaped z=true) (hn:vI nm) (kR:¬ (∀ q∈zX o nm,q∈zE o bk)->gO H Q 5)
  (kG:(∀ q∈zX o nm,q∈zE o bk)->∀ (l:Addr) (H':Hp),zB H H'->H' l=some (.lst (yE (qO (zE o bk) (zX o nm))))->Q (.ref l) H'):zAc [.int 2,.ref c,.int (o:Int),y,sv nm] H Q (fun _ _ _=>True):=by
 refine ⟨2,_,_,y,_,_,.int (o:Int),z,.str (tx nm),rfl,by decide,zAC hc,rfl,hy,rfl,zAD hb.toisBk,rfl,sz,shz,(zAy hn).1,fun j h=>?_,(fun z=>by cases z),(fun z=>by cases z),fun _ bk' o' nm' hb' e1 e2 hn' e3=>?_⟩
 ·rw [zAd (by decide) (gJ hb.toisBk) (zBA hb.o1 hb.o3) (fun z=>by cases z) (fun z=>by cases z) (fun _=>zAw hn)] at h; cases h
 ·have q1:=zAz (PyData.tuple.inj e1)
  have q2:=V.int.inj e2
  have q2':o=o':=by omega
  have q3:=jH (PyData.str.inj e3)
  subst q1 q2' q3
  exact ⟨h64,kR,kG⟩
end
end Kn.Dr
end
section
namespace Kn.Dr
open PySem L2 Kn
theorem zOP {α:Type}{xs:List α}{v:α} (h:xs.getLast?=some v):qK xs (-1)=some v:=by
 obtain ⟨ys,rfl⟩:=List.getLast?_eq_some_iff.mp h
 exact zIo ys v
def zAe (H:Hp) (v:V):Prop:=∃ g,zO H g v/\sml g=true/\y7 g=false/\yW g=false
theorem zAe.same {H H':Hp}{v:V} (h:zAe H v) (s:zB H H'):zAe H' v:=let ⟨g,h1,h2⟩:=h; ⟨g,zO.same s _ _ h1,h2⟩
theorem k6 {H:Hp}{l:Addr}{xs:List V}{ds:List PyData} (h:H l=some (.lst xs)) (t:Thgs H ds xs) (hs:sml (.list ds)=true) (hn:y7 (.list ds)=false):zAe H (.ref l):=⟨.list ds,⟨l,xs,rfl,h,t⟩,hs,hn,rfl⟩
theorem zEE {H:Hp}:∀ n:Nat,Thgs H (List.replicate n (.int 0)) (List.replicate n (V.int 0))
 | 0=>rfl
 | n+1=>⟨_,_,rfl,rfl,zEE n⟩
theorem zHd:sml (.list (List.replicate 100 (.int 0)))=true:=by decide +kernel
theorem zHe:y7 (.list (List.replicate 100 (.int 0)))=false:=by decide +kernel
theorem zEF (n:Nat):(List.replicate ((n:Int)).toNat [V.int 0]).flatten=List.replicate n (V.int 0):=zDJ n _
theorem zBv {K:PySem.W.Frag}{H:Hp}{p:Addr}{j:Nat} (h:vB H p j):∀ n:Nat,Reps K H (List.replicate n (vV j)) (List.replicate n (V.ref p))
 | 0=>rfl
 | n+1=>⟨_,_,rfl,vB.rep h,zBv h n⟩
theorem zBw {js:List Nat}:(PyData.list (js.map vV)).canLay0=true/\SeqAt.shaped (.list (js.map vV))=true:=by
 obtain ⟨a,b⟩:=zGB (ds:=js.map vV) fun d hd=>by
  obtain ⟨j,_,rfl⟩:=List.mem_map.mp hd
  refine ⟨(zBu j).1,?_⟩
  show (PyData.tuple [.str "refused",.int (j:Int)]).depth<=10
  simp only [PyData.depth,PyData.depthAll]
  decide
 exact ⟨b,a⟩
theorem zOQ (ns:List Nat):(PyData.list (vN ns)).canLay0=true/\SeqAt.shaped (.list (vN ns))=true:=by
 obtain ⟨a,b⟩:=zGB (ds:=vN ns) fun d hd=>by
  obtain ⟨n,_,rfl⟩:=List.mem_map.mp hd
  exact ⟨rfl,by simp only [PyData.depth]; decide⟩
 exact ⟨b,a⟩
theorem zHf {K:PySem.W.Frag}{H:Hp}{l:Addr}{ns:List Nat} (h:H l=some (.lst (yE ns))):vR K H (.list (vN ns)) (.ref l):=⟨l,_,rfl,.of h,Thgs.reps _ _ (Thgs.nums ns)⟩
section
variable {P:Program}{w:World}{K:PySem.W.Frag}{mg:Str->Option Value}{base:Heap}
structure LawC (P:Program) (w:World) (K:PySem.W.Frag) (mg:Str->Option Value) (base:Heap):Prop where
 dr:yH P w K mg base 2 "_law_drawn" ["_law_script", "_law_k", "_law_many"] (zBd K)
 nm:yH P w K mg base 3 "_law_name" ["_law_script", "_law_at", "_law_most"] (zCu K)
 bk:yH P w K mg base 4 "_law_book" ["_law_script", "_law_at", "_law_many", "_law_most"] (zFy K)
 ws:yH P w K mg base 3 "_law_wish" ["_law_script", "_law_at"] (zHA K)
 to:yH P w K mg base 7 "_law_told" ["_law_way", "_law_book_here", "_law_order", "_law_wish_here", "_law_thing"] zAc
 dt:yH P w K mg base 3 "_law_drawn_text" ["_law_book_here", "_law_order", "_law_numbers_here"] zED
 ld:yH P w K mg base 4 "_law_drawn_fitting" ["_law_book_here", "_law_order", "_law_wish_here", "_law_numbers_here"] zHZ
 ln:yH P w K mg base 3 "_law_numbers" ["_law_book_here", "_law_order", "_law_name_here"] zHb
def zBC (K:PySem.W.Frag):Sp:=fun vs H Q _=>∃ (a:Addr) (ns:List Int),vs=[.ref a]/\yJ K H a (ns.map V.int)/\ns.length<=63/\∀ H',Q (.bl true) H'
abbrev kC:Stmt:=top 73
theorem zHg:FnScope ["_law_script", "_law_book_here", "_law_order", "_law_wish_here", "_law_most", "_law_numbers_here", "_law_due", "_law_name_here", "_law_odd", "_law_bads", "_law_none"] ["_law_script"] (defScope kC):=⟨rfl,rfl,rfl,by decide +kernel,rfl,by decide +kernel,by decide +kernel⟩
theorem zOR:(["_law_script", "_law_most", "_law_k"]:List Str).Nodup:=by decide +kernel
theorem zOS:(["_law_book_here", "_law_order", "_law_wish_here", "_law_odd", "_law_way"]:List Str).Nodup:=by decide +kernel
theorem zOT:(["_law_wish_here", "_law_bad"]:List Str).Nodup:=by decide +kernel
theorem zOU:(["_law_wish_here", "_law_good"]:List Str).Nodup:=by decide +kernel
theorem zOV:(["_law_book_here", "_law_none", "_law_odd", "_law_way"]:List Str).Nodup:=by decide +kernel
theorem zOW:(["_law_book_here", "_law_odd", "_law_way"]:List Str).Nodup:=by decide +kernel
theorem zOX {f:Addr}{fd:FuncData} (F:Fun K "law" "law" kC f fd) (B:Blt mg) (hli:mg "list" = none) (C:LawC P w K mg base):FnOk P w K mg base yF 9 f fd ["_law_script"] (zBC K):=by
 refine F.ok zHg (fun vs H Q E h=>?_) (fun cdv A outer s H vs Q E hr h=>?_)
 ·obtain ⟨a,ns,rfl,_⟩:=h; rfl
 ·obtain ⟨a,ns,rfl,ha,hl,k⟩:=h
  have nd:=zHg.nd
  have hu:=hr.units
  have r7:=hr.mono (j:=7) (by decide)
  have r4:=hr.mono (j:=4) (by decide)
  have r3:=hr.mono (j:=3) (by decide)
  have r2:=hr.mono (j:=2) (by decide)
  refine ⟨_,zI (z0 (i:=1) nd rfl (Or.inr rfl) (zT C.bk r4 rfl (zF (pv 0) (zF zH (zF zH (zF zH zD))))))
   (zI (z0 (i:=2) nd rfl (Or.inr rfl) (zP yT zH (zT C.dr r2 rfl (zF (pv 0) (zF zH (zF zH zD))))))
   (zI (z0 (i:=3) nd rfl (Or.inr rfl) (zT C.ws r3 rfl (zF (pv 0) (zF zH zD))))
   (zI (z0 (i:=4) nd rfl (Or.inr rfl) (yK jT (yR (zF zH (zF zH zD))) (zT C.dr r2 rfl (zF (pv 0) (zF zH (zF zH zD)))) (fun _ _=>rfl)))
   (zI (zNr (j:=5) (N:=["_law_script", "_law_most", "_law_k"]) (caps:=[0,4]) nd rfl (Or.inl rfl) rfl (uT (by kernel_rfl)) (kM rfl B.range (zF (zT C.dr r2 rfl (zF (pv 0) (zF zH (zF zH zD)))) zD))
     (fun cl X s H ex=>yS (i:=2) zOR rfl (Or.inl rfl)) (fun cl X s H ex=>uZ)
     (fun cl X s H ex=>zT C.dr r2 rfl (zF (pv 0) (zF (zP yT zH (pv 2)) (zF (zP yT (pv 1) zH) zD)))))
   (zI (z0 (i:=6) nd rfl (Or.inl rfl) (zT C.dt r3 rfl (zF (pv 1) (zF (pv 2) (zF (pv 5) zD)))))
   (zI (yQ (vH (gG hu) (zT C.to r7 rfl (zF zH (zF (pv 1) (zF (pv 2) (zF (pv 3) (zF (pv 5) zD)))))) (zBG (vH zEY (pv 6) gP (vC _)) (pv 6) (vJ (zF yD (zF zH zD)))) (vC _)) (zJ (zV vT)) yP)
   (zI (yQ (vH (gG hu) (zT C.to r7 rfl (zF zH (zF (pv 1) (zF (pv 2) (zF (pv 3) (zF (pv 5) zD)))))) (zT C.ld r4 rfl (zF (pv 1) (zF (pv 2) (zF (pv 3) (zF (pv 5) zD))))) (vC _)) (zJ (zV vT)) yP)
   (zI (qI PassesOwn.never rfl (gQ (vJ (zF (yK vA (pv 1) zH (fun _ _=>rfl)) (zF (zT C.nm r3 rfl (zF (pv 0) (zF zH (zF zH zD)))) (zF (zP zCA (yK vA (pv 1) (zAJ zAK zH) (fun _ _=>rfl)) yD) zD))))) (yS (i:=7) nd rfl (Or.inl rfl))
     (zJ (yQ (vH (gG hu) (zT C.to r7 rfl (zF zH (zF (pv 1) (zF (pv 2) (zF (pv 3) (zF (pv 7) zD)))))) (zT C.ln r3 rfl (zF (pv 1) (zF (pv 2) (zF (pv 7) zD)))) (vC _)) (zJ (zV vT)) yP)))
   (zI (z0 (i:=8) nd rfl (Or.inr rfl) (yK jT (yR (zF gP (zF (yR (zF zH zD)) (zF (yR (zF (zAJ zAK zH) zD)) (zF (yR (zF vT zD)) (zF yD (zF (zP jV (yR (zF zH zD)) zH) (zF (yR (zF gP zD)) zD)))))))) (zT C.dr r2 rfl (zF (pv 0) (zF zH (zF zH zD)))) (fun _ _=>rfl)))
   (zI (yQ (vH (gG hu) (qA (N := ["_law_book_here", "_law_order", "_law_wish_here", "_law_odd", "_law_way"]) (caps := [1, 2, 3, 8]) rfl (uT (by kernel_rfl)) (kM rfl B.range (zF zH zD)) (fun cl X s H ex => yS (i := 4) zOS rfl (Or.inl rfl)) (fun cl X s H ex => uZ)
         (fun cl X s H ex=>zT C.to r7 rfl (zF (pv 4) (zF (pv 0) (zF (pv 1) (zF (pv 2) (zF (pv 3) zD)))))))
     (zP zBN (zP jV (yR (zF (vJ (zF yD (zF zH zD))) zD)) zH) (yR (zF (vJ (zF yD (zF zH zD))) zD))) (vC _)) (zJ (zV vT)) yP)
   (zI (yQ (vH (gG hu) (zT C.to r7 rfl (zF zH (zF (pv 1) (zF (pv 2) (zF (zCE zGd (pv 3) qX (uE zH)) (zF (pv 8) zD)))))) (vJ (zF yD (zF zH zD))) (vC _)) (zJ (zV vT)) yP)
   (zI (z0 (i:=9) nd rfl (Or.inl rfl) (yR (zF (zP jV (yR (zF zH zD)) zH) (zF (yR (zF (zAJ zAK zH) zD)) (zF (yR (zF zH zD)) (zF (yR (zF vT zD)) (zF gP zD)))))))
   (zI (yQ (vH (gG hu) (qA (N := ["_law_wish_here", "_law_bad"]) (caps := [3]) rfl (uT (by kernel_rfl)) (zAH (pv 9)) (fun cl X s H ex => yS (i := 1) zOT rfl (Or.inl rfl)) (fun cl X s H ex => uZ)
         (fun cl X s H ex=>zT C.to r7 rfl (zF zH (zF (vJ (zF yD zD)) (zF zH (zF (pv 0) (zF (pv 1) zD)))))))
     (zP jV (yR (zF (vJ (zF yD (zF zH zD))) zD)) zH) (vC _)) (zJ (zV vT)) yP)
   (zI (yQ (vH (gG hu) (qA (N := ["_law_wish_here", "_law_good"]) (caps := [3]) rfl (uT (by kernel_rfl)) (gQ (vJ (zF (zP jV (yR (zF zH zD)) zH) (zF (yR (zF zH (zF zH zD))) zD)))) (fun cl X s H ex => yS (i := 1) zOU rfl (Or.inl rfl)) (fun cl X s H ex => uZ)
         (fun cl X s H ex=>zT C.to r7 rfl (zF zH (zF (vJ (zF yD zD)) (zF zH (zF (pv 0) (zF (pv 1) zD)))))))
     (zP jV (yR (zF (vJ (zF yD (zF zH zD))) zD)) zH) (vC _)) (zJ (zV vT)) yP)
   (zI (z0 (i:=10) nd rfl (Or.inr rfl) (yK jT (yR (zF zH (zF zH (zF gP zD)))) (zT C.dr r2 rfl (zF (pv 0) (zF zH (zF zH zD)))) (fun _ _=>rfl)))
   (zI (yQ (vH (gG hu) (qA (N := ["_law_book_here", "_law_none", "_law_odd", "_law_way"]) (caps := [1, 10, 8]) rfl (uT (by kernel_rfl)) (kM rfl B.range (zF zH zD)) (fun cl X s H ex => yS (i := 3) zOV rfl (Or.inl rfl)) (fun cl X s H ex => uZ)
         (fun cl X s H ex=>zT C.to r7 rfl (zF (pv 3) (zF (pv 0) (zF (pv 1) (zF (vJ zD) (zF (pv 2) zD)))))))
     (zP jV (yR (zF (vJ (zF yD (zF zH zD))) zD)) zH) (vC _)) (zJ (zV vT)) yP)
   (zJ (zV (gT (zCS hu) (qA (N := ["_law_book_here", "_law_odd", "_law_way"]) (caps := [1, 8]) rfl (uT (by kernel_rfl)) (kM rfl B.range (zF zH zD)) (fun cl X s H ex => yS (i := 2) zOW rfl (Or.inl rfl)) (fun cl X s H ex => uZ)
         (fun cl X s H ex=>zT C.to r7 rfl (zF (pv 2) (zF (zBM (zKi K rfl) (by rfl) hli PyProof.Rows.boot_list (zF (pv 0) zD)) (zF zH (zF (vJ zD) (zF (pv 1) zD)))))))
     (zP jV (yR (zF (vJ (zF yD (zF zH zD))) zD)) zH) (vC _)))))))))))))))))))),?_⟩
  refine ⟨_,rfl,a,ns,0,4,4,rfl,ha,hl,by decide,by decide,by decide,by decide,fun b bk H1 s1 hb1 bl1 bl2 bn=>?_⟩
  refine ⟨_,rfl,a,ns,50,3,rfl,s1.seq ha,hl,by decide,by decide,fun d2 H2 hd2 s2'=>⟨_,_,rfl,rfl,?_⟩⟩
  have s2:=s1.trans s2'
  obtain ⟨o,ho,o1,o3⟩:∃ o:Nat,(1:Int)+(d2:Int)=(o:Int)/\1<=o/\o<=3:=⟨1+d2,by omega,by omega,by omega⟩
  dsimp only
  rw [ho]
  refine ⟨_,rfl,a,ns,60,rfl,s2.seq ha,hl,fun pw lo hi hd tl ba to H3 s3' gw hw=>?_⟩
  have s3:=s2.trans s3'
  have isb:isBk bk:=⟨bl1,by omega,fun x hx=>(bn x hx).1⟩
  have hB:Bk bk o:=⟨isb,o1,o3⟩
  have p64:(zE o bk).length < 64:=by
   have:=zKl (o:=o) (bk:=bk) fun x hx=>(bn x hx).2
   omega
  have hb3:=s3' _ _ (s2' _ _ hb1)
  refine ⟨by show 2<=sizeLine; decide,fun l2 hl2=>?_⟩
  have t3:=zB.upd1 (o:=.lst [V.int 9,V.int 9999]) hl2
  refine ⟨_,rfl,a,ns,51,2,rfl,(s3.trans t3).seq ha,hl,by decide,by decide,fun d4 H4 hd4 s4'=>?_⟩
  obtain ⟨mm,hmm,hvm⟩:∃ mm:Nat,mm<=9999/\[V.int 9,V.int 9999][d4]?=some (V.int (mm:Int)):=by
   rcases (by omega:d4=0\/d4=1) with rfl | rfl
   ·exact ⟨9,by decide,rfl⟩
   ·exact ⟨9999,by decide,rfl⟩
  refine ⟨l2,_,(d4:Int),_,rfl,rfl,.of (s4' _ _ zG),qY hvm,?_⟩
  have s4:=(s3.trans t3).trans s4'
  have hb4:=s4' _ _ (t3 _ _ hb3)
  have hw4:=(hw.same t3).same s4'
  refine ⟨_,rfl,a,ns,52,31,rfl,s4.seq ha,hl,by decide,by decide,fun m H5 hm s5'=>?_⟩
  refine ⟨(m:Int),rfl,by omega,by omega,?_⟩
  have ha5:=(s4.trans s5').seq ha
  have hb5:=s5' _ _ hb4
  have hw5:=hw4.same s5'
  clear hw4 hb4 s4 s4' hvm hl2 t3 hb3 hw s3 s3' s2 s2' s1 hb1 s5' ha
  refine qL (jY 0 _) [some (.ref a),some (.int (mm:Int))] 1 (by rw [List.length_map,List.length_range]; omega) (fun i acc H'=>zB H5 H'/\∃ n0:List Nat,acc=yE n0/\n0.length=i/\∀ n∈n0,n<=9999)
   ⟨zB.refl _,[],rfl,rfl,by simp⟩ (fun i acc H' _ h=>⟨trivial,by obtain ⟨_,n0,rfl,h,_⟩:=h; rw [zAY]; omega⟩) ?_ ?_
  ·rintro i x acc H' ys Nx hN hx hy ⟨sm,n0,rfl,hn0,hnn⟩
   obtain ⟨y,rfl⟩:=uP hy
   obtain ⟨hi',rfl⟩:=kT hx
   refine ⟨_,rfl,_,rfl,_,_,rfl,rfl,_,rfl,_,_,rfl,rfl,a,ns,100+i,mm+1,rfl,sm.seq ha5,hl,by omega,by omega,fun d H6 hd6 s6=>hN _ _ [some (.int i)] rfl ⟨sm.trans s6,n0++[d],?_,by rw [List.length_append,hn0]; rfl,fun n hn=>?_⟩⟩
   ·unfold yE; rw [List.map_append]; rfl
   ·rcases List.mem_append.mp hn with z | z
    ·exact hnn n z
    ·have:=List.mem_singleton.mp z; omega
  rintro acc H' ⟨sm,M,rfl,hn0,hM9⟩ D hD
  have hM30:M.length<=30:=by rw [List.length_map,List.length_range] at hn0; omega
  have t5:=sm.trans (zB.upd1 (o:=.lst (yE M)) hD)
  have hD6:upd H' D (.lst (yE M)) D=some (.lst (yE M)):=zG
  generalize upd H' D (.lst (yE M))=H6 at t5 hD6
  have hb6:=t5 _ _ hb5
  have hw6:=hw5.same t5
  have ha6:=t5.seq ha5
  clear hD sm hn0 t5 hb5 hw5 ha5
  have zW:=zDv (to:=to) gw
  refine ⟨_,rfl,_,rfl,_,rfl,b,D,bk,o,M,rfl,hb6,hB,p64,hD6,by omega,zAa.of fun ov H7 s7 hov=>?_⟩
  have hb7:=s7 _ _ hb6
  have hw7:=hw6.same s7
  have hD7:=s7 _ _ hD6
  have ha7:=s7.seq ha6
  clear hb6 hw6 hD6 ha6 s7
  have lay1:=zEC (j:=6) (r:=dr (zE o bk) o [] M 0) fun x q e=>zDw isb _ _ _ _ _ (vX.nil (zBB isb)) (by simp) e
  have lay2:=zEC (j:=6) (r:=vD (zE o bk) o (vG bk lo hi hd tl ba to) M (M.length+1) 0) fun x q e=>zNv isb e
  refine ⟨_,rfl,_,rfl,_,rfl,_,rfl,to_draw hb7 hB p64 (zAE hw7) zW.1 (zW.sh (by decide)) ⟨D,rfl,.inl hD7⟩ (by omega) hM9 fun v1 G1 u1 hv1=>?_⟩
  refine ⟨_,rfl,rfl,_,rfl,?_⟩
  apply zOA (C:=fun G=>zB H7 G)
  case main =>
   intro cont
   generalize hdr:dr (zE o bk) o [] M 0=one
   rw [hdr] at hov hv1 lay1
   cases hone:one with
   | none =>
    rw [hone] at hov hv1 lay1
    refine jC (show ov=.non from hov) ⟨by show 2<=sizeLine; decide,fun p hp=>?_⟩
    have u2:=zB.upd1 (o:=.tup [.str "refused",.int 6]) hp
    exact ⟨_,_,(hv1.same u2).rep,vB.rep (j:=6) zG,lay1.2,lay1.2,_,rfl,j6 lay1.1 (cont _ (u1.trans u2))⟩
   | some r =>
    rw [hone] at hov hv1 lay1
    obtain ⟨p,hpe,hp⟩:=hov
    refine jO (by rw [hpe]; intro z; cases z) ⟨_,rfl,?_⟩
    exact ⟨_,_,hv1.rep,kZ.rep (j:=6) (r:=some r) ⟨p,hpe,u1 _ _ hp⟩,lay1.2,lay1.2,_,rfl,j6 lay1.1 (cont _ u1)⟩
  case cont =>
   intro G1 u1
   have hb8:=u1 _ _ hb7
   have hw8:=hw7.same u1
   have hD8:=u1 _ _ hD7
   have ha8:=u1.seq ha7
   clear hb7 hw7 hD7 ha7 u1 hov
   refine ⟨_,rfl,_,rfl,_,rfl,_,rfl,to_fit hb8 hB p64 hw8 gw ⟨D,rfl,.inl hD8⟩ (by omega) hM9 fun v1 G2 u2 hv1=>?_⟩
   refine ⟨_,rfl,_,rfl,_,rfl,_,rfl,b,pw,D,bk,o,lo,hi,hd,tl,ba,to,M,rfl,u2 _ _ hb8,hB,p64,hw8.same u2,gw,u2 _ _ hD8,by omega,fun v2 G3 u3 hv2=>?_⟩
   refine ⟨_,_,(hv1.same u3).rep,hv2.rep,lay2.2,lay2.2,_,rfl,j6 lay2.1 ?_⟩
   have v23:=u2.trans u3
   have hb9:=v23 _ _ hb8
   have hw9:=hw8.same v23
   have ha9:=v23.seq ha8
   clear hb8 hw8 hD8 ha8 v23 hv1 hv2 u2 u3 lay1 lay2
   obtain ⟨x0,hx0⟩:∃ x,bk[0]?=some x:=⟨_,List.getElem?_eq_getElem (by omega)⟩
   have hx0m:=List.mem_of_getElem? hx0
   obtain ⟨x01,x04⟩:=bn x0 hx0m
   have hb0:(zM bk)[0]?=some (sv x0):=by unfold zM; rw [List.getElem?_map,hx0]; rfl
   have hbn:=zBB isb
   obtain ⟨xl,hxl⟩:∃ x,bk.getLast?=some x:=⟨_,List.getLast?_eq_some_getLast hbn⟩
   have hxlm:xl∈bk:=List.mem_of_getLast? hxl
   obtain ⟨xl1,xl4⟩:=bn xl hxlm
   have hbL:(zM bk).getLast?=some (sv xl):=by unfold zM; rw [List.getLast?_map,hxl]; rfl
   refine ⟨_,rfl,b,_,0,sv x0,rfl,rfl,.of hb9,qY hb0,?_⟩
   refine ⟨_,rfl,a,ns,80,4,rfl,ha9,hl,by decide,by decide,fun nm2 G4 u4 n21 n24=>?_⟩
   have ea:("a" : Str)=tx [97]:=by decide +kernel
   refine ⟨_,rfl,_,rfl,b,_,-1,sv xl,rfl,rfl,.of (u4 _ _ hb9),zOP hbL,tx xl, "a",rfl,rfl,by rw [zY,sizeLine_eq,ea,zY]; show _+1<=_; have:=xl1.2.1; omega,by show 3<=sizeLine; decide,fun pt hpt=>?_⟩
   have e3:[sv x0,sv nm2,V.str (tx xl ++ "a")]=zM [x0,nm2,xl++[97]]:=by rw [ea,zCx]; rfl
   have t4:=u4.trans (zB.upd1 (o:=.tup [sv x0,sv nm2,V.str (tx xl ++ "a")]) hpt)
   have hpt5:upd G4 pt (.tup [sv x0,sv nm2,V.str (tx xl ++ "a")]) pt=some (.tup (zM [x0,nm2,xl++[97]])):=by rw [zG,e3]
   generalize upd G4 pt (.tup [sv x0,sv nm2,V.str (tx xl ++ "a")])=G5 at t4 hpt5
   have hb10:=t4 _ _ hb9
   have hw10:=hw9.same t4
   have ha10:=t4.seq ha9
   have h3n:∀ y∈[x0,nm2,xl++[97]],vI y:=fun y hy=>by
    simp only [List.mem_cons,List.not_mem_nil,or_false] at hy
    rcases hy with rfl | rfl | rfl
    ·exact x01
    ·exact n21
    ·refine ⟨by rw [List.length_append]; show 1<=_+1; omega,by rw [List.length_append]; show _+1<=8; omega,fun c hc=>?_⟩
     rcases List.mem_append.mp hc with z | z
     ·exact xl1.2.2 c z
     ·have:=List.mem_singleton.mp z; omega
   generalize [x0,nm2,xl++[97]]=N3 at hpt5 h3n
   clear e3 hpt t4 hb9 hw9 ha9 u4 hbL hxlm hxl hb0 hx0m hx0
   refine ⟨pt,rfl,⟨_,.of hpt5⟩,?_⟩
   refine jN (gY K pt (zM N3)) (fun i σ G=>∃ x7:Option V,σ=[some (.ref a),some (.ref b),some (.int (o:Int)),some (.ref pw),some (.int (mm:Int)),some (.ref D),some ov,x7,none,none,none]/\zB G5 G)
    ⟨_,rfl,zB.refl _⟩ (fun i σ G _ h=>by obtain ⟨_,_,h⟩:=h; exact .of (h _ _ hpt5)) ?_ ?_
   ·rintro i y σ G Nx hN hy ⟨x7,rfl,sm⟩
    obtain ⟨nm,hnm,rfl⟩:=zBq hy
    have n1:=h3n nm (List.mem_of_getElem? hnm)
    have n8:=n1.2.1
    refine ⟨_,rfl,_,rfl,_,rfl,_,rfl,?_⟩
    by_cases hmd:∀ q∈zX o nm,q∈zE o bk
    ·refine to_num (sm _ _ hb10) hB p64 (zAE (hw10.same sm)) zW.1 (zW.sh (by decide)) n1 (fun z=>absurd hmd z) fun _ l G2 u2 hl2=>?_
     refine ⟨_,rfl,_,rfl,_,rfl,b,bk,o,nm,rfl,u2 _ _ (sm _ _ hb10),hB,p64,n8,fun z=>absurd hmd z,fun _ l3 G3 u3 hl3=>?_⟩
     have ly:=zOQ (qO (zE o bk) (zX o nm))
     exact ⟨_,_,zHf (u3 _ _ hl2),zHf hl3,ly.2,ly.2,_,rfl,j6 ly.1 (hN _ _ ⟨_,rfl,sm.trans (u2.trans u3)⟩)⟩
    ·refine to_num (sm _ _ hb10) hB p64 (zAE (hw10.same sm)) zW.1 (zW.sh (by decide)) n1 (fun _ p G2 u2 hp2=>?_) fun z=>absurd z hmd
     refine ⟨_,rfl,_,rfl,_,rfl,b,bk,o,nm,rfl,u2 _ _ (sm _ _ hb10),hB,p64,n8,fun _ p3 G3 u3 hp3=>?_,fun z=>absurd z hmd⟩
     have ly:=zBu 5
     exact ⟨_,_,vB.rep (vB.same hp2 u3),vB.rep hp3,ly.2,ly.2,_,rfl,j6 ly.1 (hN _ _ ⟨_,rfl,sm.trans (u2.trans u3)⟩)⟩
   rintro σ G ⟨x7,rfl,sm⟩
   have hb11:=sm _ _ hb10
   have hw11:=hw10.same sm
   have ha11:=sm.seq ha10
   clear sm hpt5 hb10 hw10 ha10
   refine ⟨by show 1<=sizeLine; decide,fun l1 hl1=>?_⟩
   refine ⟨_,rfl,by show 1<=sizeLine; decide,fun l2 hl2=>?_⟩
   refine ⟨by show 1<=sizeLine; decide,fun l3 hl3=>?_⟩
   refine ⟨by show 1<=sizeLine; decide,fun l4 hl4=>?_⟩
   refine ⟨l4,100,[V.int 0],rfl,rfl,zG,by decide,by decide,by rw [sizeLine_eq]; show 1 * 100<=_; omega,fun l5 hl5=>?_⟩
   refine ⟨by show 1<=sizeLine; decide,fun l6 hl6=>?_⟩
   refine ⟨by show 7<=sizeLine; decide,fun l7 hl7=>?_⟩
   have w1:=zB.upd1 (o:=.lst [V.int 10000]) hl1
   have w2:=zB.upd1 (o:=.lst [V.int (-1)]) hl2
   have w3:=zB.upd1 (o:=.lst [V.bl true]) hl3
   have w4:=zB.upd1 (o:=.lst [V.int 0]) hl4
   have w5:=zB.upd1 (o:=.lst (List.replicate ((100:Int)).toNat [V.int 0]).flatten) hl5
   have w6:=zB.upd1 (o:=.lst [V.non]) hl6
   have w7:=zB.upd1 (o:=.lst [V.non,V.ref l1,V.ref l2,V.ref l3,V.str "1",V.ref l5,V.ref l6]) hl7
   have a1:=(w2.trans (w3.trans (w4.trans (w5.trans (w6.trans w7))))) _ _ (zG (a:=l1))
   have a2:=(w3.trans (w4.trans (w5.trans (w6.trans w7)))) _ _ (zG (a:=l2))
   have a3:=(w4.trans (w5.trans (w6.trans w7))) _ _ (zG (a:=l3))
   have a5:=(w6.trans w7) _ _ (zG (a:=l5))
   have a6:=w7 _ _ (zG (a:=l6))
   have wA:=w1.trans (w2.trans (w3.trans (w4.trans (w5.trans (w6.trans w7)))))
   have a7:=zG (H:=upd (upd (upd (upd (upd (upd G l1 (.lst [V.int 10000])) l2 (.lst [V.int (-1)])) l3 (.lst [V.bl true])) l4 (.lst [V.int 0])) l5 (.lst (List.replicate ((100:Int)).toNat [V.int 0]).flatten)) l6 (.lst [V.non])) (a:=l7) (o:=.lst [V.non,V.ref l1,V.ref l2,V.ref l3,V.str "1",V.ref l5,V.ref l6])
   generalize upd (upd (upd (upd (upd (upd (upd G l1 (.lst [V.int 10000])) l2 (.lst [V.int (-1)])) l3 (.lst [V.bl true])) l4 (.lst [V.int 0])) l5 (.lst (List.replicate ((100:Int)).toNat [V.int 0]).flatten)) l6 (.lst [V.non])) l7 (.lst [V.non,V.ref l1,V.ref l2,V.ref l3,V.str "1",V.ref l5,V.ref l6])=G7 at wA a1 a2 a3 a5 a6 a7
   have a5':G7 l5=some (.lst (List.replicate 100 (V.int 0))):=a5.trans (congrArg (fun z=>some (HO.lst z)) (zEF 100))
   refine ⟨_,rfl,a,ns,53,7,rfl,wA.seq ha11,hl,by decide,by decide,fun d8 G8 hd8 u8=>?_⟩
   obtain ⟨od,hod,hodd⟩:∃ od,[V.non,V.ref l1,V.ref l2,V.ref l3,V.str "1",V.ref l5,V.ref l6][d8]?=some od/\zAe G7 od:=by
    rcases (by omega:d8=0\/d8=1\/d8=2\/d8=3\/d8=4\/d8=5\/d8=6) with rfl | rfl | rfl | rfl | rfl | rfl | rfl
    ·exact ⟨_,rfl,.none,rfl,rfl,rfl,rfl⟩
    ·exact ⟨_,rfl,k6 (ds:=[.int 10000]) a1 ⟨_,_,rfl,rfl,rfl⟩ (by decide +kernel) (by decide +kernel)⟩
    ·exact ⟨_,rfl,k6 (ds:=[.int (-1)]) a2 ⟨_,_,rfl,rfl,rfl⟩ (by decide +kernel) (by decide +kernel)⟩
    ·exact ⟨_,rfl,k6 (ds:=[.bool true]) a3 ⟨_,_,rfl,rfl,rfl⟩ (by decide +kernel) (by decide +kernel)⟩
    ·exact ⟨_,rfl,.str "1",rfl,by decide +kernel,rfl,by decide +kernel⟩
    ·exact ⟨_,rfl,k6 (ds:=List.replicate 100 (.int 0)) a5' (zEE 100) zHd zHe⟩
    ·exact ⟨_,rfl,k6 (ds:=[.none]) a6 ⟨_,_,rfl,rfl,rfl⟩ (by decide +kernel) (by decide +kernel)⟩
   refine ⟨l7,_,(d8:Int),od,rfl,rfl,.of (u8 _ _ a7),qY hod,?_⟩
   have wB:=wA.trans u8
   have hb12:=wB _ _ hb11
   have hw12:=hw11.same wB
   have ha12:=wB.seq ha11
   have hod12:=hodd.same u8
   clear wB u8 hodd hod a7 a6 a5 a5' a3 a2 a1 wA w1 w2 w3 w4 w5 w6 w7 hl1 hl2 hl3 hl4 hl5 hl6 hl7 hb11 hw11 ha11
   obtain ⟨g,tg,sg,ng1,ng2⟩:=hod12
   have ebk:=gJ isb
   have eor:=zBA o1 o3
   refine ⟨3,rfl,by decide,by decide,?_⟩
   refine qL (jY 0 3) [some (.ref b),some (.int (o:Int)),some (.ref pw),some od] 1 (by decide) (fun i acc G'=>zB G8 G'/\Reps K G' (((List.range i).map fun i=>if i < 2 then 4 else 2).map vV) acc/\acc.length=i)
    ⟨zB.refl _,rfl,rfl⟩ (fun i acc G' _ h=>⟨trivial,by rw [h.2.2]; exact Nat.le_refl _⟩) ?_ ?_
   ·rintro i y acc G' ys Nx hN hy hys ⟨sm,rp,hal⟩
    obtain ⟨y',rfl⟩:=uP hys
    obtain ⟨hi3,rfl⟩:=kT hy
    refine ⟨_,rfl,_,rfl,_,rfl,_,rfl,_,rfl,to_ref (wy:=i) (j:=if i < 2 then 4 else 2) hi3 (zAC (sm _ _ hb12)) (e:=.int (o:Int)) rfl (zAE (hw12.same sm)) (zO.same sm _ _ tg) (zAD isb) rfl zW.1 (zW.sh (by decide)) sg ?_ fun p G2 u2 hp=>hN _ _ [_] rfl ⟨sm.trans u2,?_,by rw [List.length_append,hal]; rfl⟩⟩
    ·unfold uR
     rw [if_neg (by rw [ebk]; decide),if_neg (by rw [eor]; decide)]
     rcases (by omega:i=0\/i=1\/i=2) with rfl | rfl | rfl
     ·rw [if_pos rfl,if_pos ng1]; rfl
     ·rw [if_neg (by decide),if_pos rfl,if_neg (by rw [show kA lo hi hd tl ba to=.tuple (gM lo hi hd tl ba to) from rfl,zDt gw]; decide),if_pos ng1]; rfl
     ·rw [if_neg (by decide),if_neg (by decide),if_pos ng2]; rfl
    ·rw [List.range_succ,List.map_append,List.map_append]
     exact Reps.append (Reps.same u2 _ _ rp) (Reps.one (vB.rep hp))
   rintro acc G9 ⟨sm,rp,_⟩ D1 hD1
   have y1:=sm.trans (zB.upd1 (o:=.lst acc) hD1)
   have rp1:=Reps.same (zB.upd1 (o:=.lst acc) hD1) _ _ rp
   have hD11:upd G9 D1 (.lst acc) D1=some (.lst acc):=zG
   generalize upd G9 D1 (.lst acc)=GA at y1 rp1 hD11
   refine ⟨by show 2<=sizeLine; decide,fun q1 hq1=>⟨by show 1<=sizeLine; decide,fun q2 hq2=>?_⟩⟩
   refine ⟨q2,2,[V.ref q1],rfl,rfl,zG,by decide,by decide,by rw [sizeLine_eq]; show 1 * 2<=_; omega,fun q3 hq3=>?_⟩
   refine ⟨by show 2<=sizeLine; decide,fun q4 hq4=>⟨by show 1<=sizeLine; decide,fun q5 hq5=>?_⟩⟩
   have z1:=zB.upd1 (o:=.tup [.str "refused",.int 4]) hq1
   have z2:=zB.upd1 (o:=.lst [V.ref q1]) hq2
   have z3:=zB.upd1 (o:=.lst (List.replicate ((2:Int)).toNat [V.ref q1]).flatten) hq3
   have z4:=zB.upd1 (o:=.tup [.str "refused",.int 2]) hq4
   have z5:=zB.upd1 (o:=.lst [V.ref q4]) hq5
   refine ⟨q3,q5,_,_,rfl,rfl,(z4.trans z5) _ _ zG,zG,by rw [sizeLine_eq]; show 2+1<=_; omega,fun q6 hq6=>?_⟩
   have z6:=zB.upd1 (o:=.lst ((List.replicate ((2:Int)).toNat [V.ref q1]).flatten++[V.ref q4])) hq6
   have zA:=z1.trans (z2.trans (z3.trans (z4.trans (z5.trans z6))))
   have r1:vB (upd (upd (upd (upd (upd (upd GA q1 (.tup [.str "refused",.int 4])) q2 (.lst [V.ref q1])) q3 (.lst (List.replicate ((2:Int)).toNat [V.ref q1]).flatten)) q4 (.tup [.str "refused",.int 2])) q5 (.lst [V.ref q4])) q6 (.lst ((List.replicate ((2:Int)).toNat [V.ref q1]).flatten++[V.ref q4]))) q1 4:=(z2.trans (z3.trans (z4.trans (z5.trans z6)))) _ _ zG
   have r4':vB (upd (upd (upd (upd (upd (upd GA q1 (.tup [.str "refused",.int 4])) q2 (.lst [V.ref q1])) q3 (.lst (List.replicate ((2:Int)).toNat [V.ref q1]).flatten)) q4 (.tup [.str "refused",.int 2])) q5 (.lst [V.ref q4])) q6 (.lst ((List.replicate ((2:Int)).toNat [V.ref q1]).flatten++[V.ref q4]))) q4 2:=(z5.trans z6) _ _ zG
   have ly:=zBw (js:=[4,4,2])
   refine ⟨.list ([4,4,2].map vV),.list ([4,4,2].map vV),⟨D1,acc,rfl,.of (zA _ _ hD11),Reps.same zA _ _ rp1⟩,⟨q6,_,rfl,.of zG,⟨_,_,rfl,vB.rep r1,_,_,rfl,vB.rep r1,_,_,rfl,vB.rep r4',rfl⟩⟩,ly.2,ly.2,_,rfl,j6 ly.1 ?_⟩
   have yA:=y1.trans zA
   generalize upd (upd (upd (upd (upd (upd GA q1 (.tup [.str "refused",.int 4])) q2 (.lst [V.ref q1])) q3 (.lst (List.replicate ((2:Int)).toNat [V.ref q1]).flatten)) q4 (.tup [.str "refused",.int 2])) q5 (.lst [V.ref q4])) q6 (.lst ((List.replicate ((2:Int)).toNat [V.ref q1]).flatten++[V.ref q4]))=GB at yA
   have hb13:=yA _ _ hb12
   have hw13:=hw12.same yA
   have ha13:=yA.seq ha12
   have tg13:=zO.same yA _ _ tg
   have tg8:=zO.same yA _ _ tg
   obtain ⟨xw,hxw,thw,hxw6⟩:=zHH hw13
   refine ⟨_,rfl,_,rfl,_,rfl,_,rfl,pw,xw,rfl,hxw,fun q7 GC u7 hq7=>?_⟩
   have hq7':GC q7=some (.tup (xw.take 5)):=by rw [hq7]; exact congrArg (fun z=>some (HO.tup z)) (zNs xw 5)
   have ok5:v9 7 (.tuple ((gM lo hi hd tl ba to).take 5)):=vS (n:=6) (fun d hd=>zHG gw d (List.mem_of_mem_take hd)) (by rw [List.length_take]; show min 5 6<=900; omega)
   refine ⟨_,rfl,to_ref (wy:=1) (j:=3) (by decide) (zAC (u7 _ _ hb13)) (e:=.int (o:Int)) rfl (z:=.tuple ((gM lo hi hd tl ba to).take 5)) ⟨q7,_,rfl,hq7',Thgs.same u7 _ _ (Thgs.take 5 thw)⟩ (zO.same u7 _ _ tg13) (zAD isb) rfl ok5.1 (ok5.sh (by decide)) sg ?_ fun p8 GD u8 hp8=>?_⟩
   ·unfold uR
    rw [if_neg (by rw [ebk]; decide),if_neg (by rw [eor]; decide),if_neg (by decide),if_pos rfl,if_pos (zDg (by rw [List.length_take]; show min 5 6≠6; decide))]
   refine ⟨by show 2<=sizeLine; decide,fun q8 hq8=>?_⟩
   have z8:=zB.upd1 (o:=.tup [.str "refused",.int 3]) hq8
   have ly3:=zBu 3
   refine ⟨_,_,vB.rep (vB.same hp8 z8),vB.rep (j:=3) zG,ly3.2,ly3.2,_,rfl,j6 ly3.1 ?_⟩
   have yB:=u7.trans (u8.trans z8)
   generalize upd GD q8 (.tup [.str "refused",.int 3])=GE at yB
   have hb14:=yB _ _ hb13
   have hw14:=hw13.same yB
   have ha14:=yB.seq ha13
   have tg14:=zO.same yB _ _ tg13
   clear yB z8 hq8 hp8 u8 u7 hq7 hq7' hxw thw hb13 hw13 ha13 tg13 tg8 yA zA z1 z2 z3 z4 z5 z6 r1 r4' hq1 hq2 hq3 hq4 hq5 hq6 y1 rp1 hD11 hD1 rp sm hb12 hw12 ha12 tg
   refine ⟨by show 1<=sizeLine; decide,fun l1 hl1=>?_⟩
   refine ⟨l1,100,[V.int 0],rfl,rfl,zG,by decide,by decide,by rw [sizeLine_eq]; show 1 * 100<=_; omega,fun l2 hl2=>?_⟩
   refine ⟨_,rfl,by show 1<=sizeLine; decide,fun l3 hl3=>?_⟩
   refine ⟨by show 1<=sizeLine; decide,fun l4 hl4=>?_⟩
   refine ⟨by show 1<=sizeLine; decide,fun l5 hl5=>?_⟩
   refine ⟨by show 5<=sizeLine; decide,fun l6 hl6=>?_⟩
   have w1:=zB.upd1 (o:=.lst [V.int 0]) hl1
   have w2:=zB.upd1 (o:=.lst (List.replicate ((100:Int)).toNat [V.int 0]).flatten) hl2
   have w3:=zB.upd1 (o:=.lst [V.int (-1)]) hl3
   have w4:=zB.upd1 (o:=.lst [V.int 10000]) hl4
   have w5:=zB.upd1 (o:=.lst [V.bl true]) hl5
   have w6:=zB.upd1 (o:=.lst [V.ref l2,V.ref l3,V.ref l4,V.ref l5,V.non]) hl6
   have a2:=(w3.trans (w4.trans (w5.trans w6))) _ _ (zG (a:=l2))
   have a3:=(w4.trans (w5.trans w6)) _ _ (zG (a:=l3))
   have a4:=(w5.trans w6) _ _ (zG (a:=l4))
   have a5:=w6 _ _ (zG (a:=l5))
   have wA:=w1.trans (w2.trans (w3.trans (w4.trans (w5.trans w6))))
   have a6:=zG (H:=upd (upd (upd (upd (upd GE l1 (.lst [V.int 0])) l2 (.lst (List.replicate ((100:Int)).toNat [V.int 0]).flatten)) l3 (.lst [V.int (-1)])) l4 (.lst [V.int 10000])) l5 (.lst [V.bl true])) (a:=l6) (o:=.lst [V.ref l2,V.ref l3,V.ref l4,V.ref l5,V.non])
   generalize upd (upd (upd (upd (upd (upd GE l1 (.lst [V.int 0])) l2 (.lst (List.replicate ((100:Int)).toNat [V.int 0]).flatten)) l3 (.lst [V.int (-1)])) l4 (.lst [V.int 10000])) l5 (.lst [V.bl true])) l6 (.lst [V.ref l2,V.ref l3,V.ref l4,V.ref l5,V.non])=GF at wA a2 a3 a4 a5 a6
   have a2':GF l2=some (.lst (List.replicate 100 (V.int 0))):=a2.trans (congrArg (fun z=>some (HO.lst z)) (zEF 100))
   have hbad:∀ i v,[V.ref l2,V.ref l3,V.ref l4,V.ref l5,V.non][i]?=some v->zAe GF v:=fun i v hv=>by
    have hi5:i < 5:=(List.getElem?_eq_some_iff.mp hv).1
    rcases (by omega:i=0\/i=1\/i=2\/i=3\/i=4) with rfl | rfl | rfl | rfl | rfl <;> cases hv
    ·exact k6 (ds:=List.replicate 100 (.int 0)) a2' (zEE 100) zHd zHe
    ·exact k6 (ds:=[.int (-1)]) a3 ⟨_,_,rfl,rfl,rfl⟩ (by decide +kernel) (by decide +kernel)
    ·exact k6 (ds:=[.int 10000]) a4 ⟨_,_,rfl,rfl,rfl⟩ (by decide +kernel) (by decide +kernel)
    ·exact k6 (ds:=[.bool true]) a5 ⟨_,_,rfl,rfl,rfl⟩ (by decide +kernel) (by decide +kernel)
    ·exact ⟨.none,rfl,rfl,rfl,rfl⟩
   have hb15:=wA _ _ hb14
   have hw15:=hw14.same wA
   have ha15:=wA.seq ha14
   have tg15:=zO.same wA _ _ tg14
   clear w1 w2 w3 w4 w5 w6 a2 a2' a3 a4 a5 wA hl1 hl2 hl3 hl4 hl5 hl6 hb14 hw14 ha14 tg14
   have bA:Bk [[97]] 3:=⟨⟨by decide,by decide,fun x hx=>by rw [List.mem_singleton.mp hx]; exact ⟨by decide,by decide,by decide⟩⟩,by decide,by decide⟩
   have eA:([V.str "a"]:List V)=zM [[97]]:=by
    have ea:("a" : Str)=tx [97]:=by decide +kernel
    rw [ea]; rfl
   refine ⟨_,rfl,l6,rfl,⟨_,.of a6⟩,?_⟩
   refine qL (zAR K l6 [V.ref l2,V.ref l3,V.ref l4,V.ref l5,V.non]) [some (.ref pw)] 1 (by show 5 < 1000; decide) (fun i acc G'=>zB GF G'/\Reps K G' ((List.replicate i 4).map vV) acc/\acc.length=i)
    ⟨zB.refl _,rfl,rfl⟩ (fun i acc G' _ h=>⟨.of (h.1 _ _ a6),by rw [h.2.2]; exact Nat.le_refl _⟩) ?_ ?_
   ·rintro i y acc G' ys Nx hN hy hys ⟨sm,rp,hal⟩
    obtain ⟨y',rfl⟩:=uP hys
    obtain ⟨g2,t2,sg2,n2,_⟩:=hbad i y hy
    refine ⟨by show 1<=sizeLine; decide,fun pa hpa=>?_⟩
    have u1:=zB.upd1 (o:=.tup [V.str "a"]) hpa
    have hpa':upd G' pa (.tup [V.str "a"]) pa=some (.tup (zM [[97]])):=by rw [zG,eA]
    have su:=sm.trans u1
    refine ⟨_,rfl,_,rfl,to_ref (wy:=0) (j:=4) (by decide) (zAC hpa') (e:=.int 3) rfl (zAE (hw15.same su)) (zO.same su _ _ t2) (zAD bA.toisBk) rfl zW.1 (zW.sh (by decide)) sg2 ?_ fun p G2 u2 hp=>hN _ _ [_] rfl ⟨su.trans u2,?_,by rw [List.length_append,hal]; rfl⟩⟩
    ·unfold uR
     rw [if_neg (by rw [gJ bA.toisBk]; decide),if_neg (by decide),if_pos rfl,if_pos n2]
    ·rw [List.replicate_succ',List.map_append]
     exact Reps.append (Reps.same (u1.trans u2) _ _ rp) (Reps.one (vB.rep hp))
   rintro acc G9 ⟨sm,rp,_⟩ D1 hD1
   have y1:=sm.trans (zB.upd1 (o:=.lst acc) hD1)
   have rp1:=Reps.same (zB.upd1 (o:=.lst acc) hD1) _ _ rp
   have hD11:upd G9 D1 (.lst acc) D1=some (.lst acc):=zG
   generalize upd G9 D1 (.lst acc)=GA at y1 rp1 hD11
   have fives:∀ {j:Nat} {J:Int} {n:Nat} {GA:Hp} {D1:Addr} {acc:List V} {W:Prop} {R:Hp->Prop},J=(j:Int)->GA D1=some (.lst acc)->Reps K GA ((List.replicate n j).map vV) acc->n<=9->True:=fun _ _ _ _=>trivial
   refine ⟨by show 2<=sizeLine; decide,fun q1 hq1=>⟨by show 1<=sizeLine; decide,fun q2 hq2=>?_⟩⟩
   refine ⟨q2,5,[V.ref q1],rfl,rfl,zG,by decide,by decide,by rw [sizeLine_eq]; show 1 * 5<=_; omega,fun q3 hq3=>?_⟩
   have z1:=zB.upd1 (o:=.tup [.str "refused",.int 4]) hq1
   have z2:=zB.upd1 (o:=.lst [V.ref q1]) hq2
   have z3:=zB.upd1 (o:=.lst (List.replicate ((5:Int)).toNat [V.ref q1]).flatten) hq3
   have zA:=z1.trans (z2.trans z3)
   have r1:vB (upd (upd (upd GA q1 (.tup [.str "refused",.int 4])) q2 (.lst [V.ref q1])) q3 (.lst (List.replicate ((5:Int)).toNat [V.ref q1]).flatten)) q1 4:=(z2.trans z3) _ _ zG
   have ly:=zBw (js:=List.replicate 5 4)
   refine ⟨.list ((List.replicate 5 4).map vV),.list ((List.replicate 5 4).map vV),⟨D1,acc,rfl,.of (zA _ _ hD11),Reps.same zA _ _ rp1⟩,⟨q3,_,rfl,.of zG,zBv r1 5⟩,ly.2,ly.2,_,rfl,j6 ly.1 ?_⟩
   have yA:=y1.trans zA
   generalize upd (upd (upd GA q1 (.tup [.str "refused",.int 4])) q2 (.lst [V.ref q1])) q3 (.lst (List.replicate ((5:Int)).toNat [V.ref q1]).flatten)=GB at yA
   have hb16:=yA _ _ hb15
   have hw16:=hw15.same yA
   have ha16:=yA.seq ha15
   have tg16:=zO.same yA _ _ tg15
   clear yA r1 zA z1 z2 z3 hq1 hq2 hq3 y1 rp1 hD11 hD1 rp sm hbad a6 hb15 hw15 ha15 tg15 fives
   refine ⟨by show 1<=sizeLine; decide,fun l1 hl1=>?_⟩
   refine ⟨l1,99,[V.int 0],rfl,rfl,zG,by decide,by decide,by rw [sizeLine_eq]; show 1 * 99<=_; omega,fun l2 hl2=>?_⟩
   refine ⟨by show 2<=sizeLine; decide,fun l3 hl3=>?_⟩
   refine ⟨by show 2<=sizeLine; decide,fun l4 hl4=>?_⟩
   have w1:=zB.upd1 (o:=.lst [V.int 0]) hl1
   have w2:=zB.upd1 (o:=.lst (List.replicate ((99:Int)).toNat [V.int 0]).flatten) hl2
   have w3:=zB.upd1 (o:=.lst [V.int 9999,V.int 0]) hl3
   have w4:=zB.upd1 (o:=.tup [V.ref l2,V.ref l3]) hl4
   have a2:=(w3.trans w4) _ _ (zG (a:=l2))
   have a3:=w4 _ _ (zG (a:=l3))
   have wA:=w1.trans (w2.trans (w3.trans w4))
   have a4:=zG (H:=upd (upd (upd GB l1 (.lst [V.int 0])) l2 (.lst (List.replicate ((99:Int)).toNat [V.int 0]).flatten)) l3 (.lst [V.int 9999,V.int 0])) (a:=l4) (o:=.tup [V.ref l2,V.ref l3])
   generalize upd (upd (upd (upd GB l1 (.lst [V.int 0])) l2 (.lst (List.replicate ((99:Int)).toNat [V.int 0]).flatten)) l3 (.lst [V.int 9999,V.int 0])) l4 (.tup [V.ref l2,V.ref l3])=GC at wA a2 a3 a4
   have a2':GC l2=some (.lst (yE (List.replicate 99 0))):=by
    refine a2.trans (congrArg (fun z=>some (HO.lst z)) ((zEF 99).trans ?_))
    unfold yE; rw [List.map_replicate]; rfl
   have hgood:∀ i v,[V.ref l2,V.ref l3][i]?=some v->∃ ns,jQ GC v ns/\ns.length<=99/\(∀ n∈ns,n<=9999)/\dr (zE 3 [[97]]) 3 [] ns 0=some ([97],2):=fun i v hv=>by
    have hi2:i < 2:=(List.getElem?_eq_some_iff.mp hv).1
    rcases (by omega:i=0\/i=1) with rfl | rfl <;> cases hv
    ·exact ⟨List.replicate 99 0,⟨l2,rfl,.inl a2'⟩,by decide,fun n hn=>by rw [(List.mem_replicate.mp hn).2]; decide,by decide +kernel⟩
    ·exact ⟨[9999,0],⟨l3,rfl,.inl a3⟩,by decide,by decide,by decide +kernel⟩
   have hb17:=wA _ _ hb16
   have hw17:=hw16.same wA
   have ha17:=wA.seq ha16
   have tg17:=zO.same wA _ _ tg16
   clear w1 w2 w3 w4 a2 a2' a3 wA hl1 hl2 hl3 hl4 hb16 hw16 ha16 tg16
   refine ⟨l4,rfl,⟨_,.of a4⟩,?_⟩
   have ly2:=zEC (j:=6) (r:=some (([97]:S),2)) fun x q e=>by cases e; decide
   have p2lay:(PyData.list (List.replicate 2 (gN 6 (some (([97]:S),2))))).canLay0=true/\SeqAt.shaped (.list (List.replicate 2 (gN 6 (some (([97]:S),2)))))=true:=⟨by decide +kernel,by decide +kernel⟩
   refine qL (gY K l4 [V.ref l2,V.ref l3]) [some (.ref pw)] 1 (by show 2 < 1000; decide) (fun i acc G'=>zB GC G'/\Reps K G' (List.replicate i (gN 6 (some (([97]:S),2)))) acc/\acc.length=i)
    ⟨zB.refl _,rfl,rfl⟩ (fun i acc G' _ h=>⟨.of (h.1 _ _ a4),by rw [h.2.2]; exact Nat.le_refl _⟩) ?_ ?_
   ·rintro i y acc G' ys Nx hN hy hys ⟨sm,rp,hal⟩
    obtain ⟨y',rfl⟩:=uP hys
    obtain ⟨n2,hn2,h99,h9,hdr2⟩:=hgood i y hy
    refine ⟨by show 1<=sizeLine; decide,fun pa hpa=>?_⟩
    have u1:=zB.upd1 (o:=.tup [V.str "a"]) hpa
    have hpa':upd G' pa (.tup [V.str "a"]) pa=some (.tup (zM [[97]])):=by rw [zG,eA]
    have su:=sm.trans u1
    refine ⟨_,rfl,_,rfl,to_draw (o:=3) hpa' bA (by decide +kernel) (zAE (hw17.same su)) zW.1 (zW.sh (by decide)) (hn2.same su) h99 h9 fun v2 G2 u2 hv2=>hN _ _ [_] rfl ⟨su.trans u2,?_,by rw [List.length_append,hal]; rfl⟩⟩
    rw [hdr2] at hv2
    rw [List.replicate_succ']
    exact Reps.append (Reps.same (u1.trans u2) _ _ rp) (Reps.one hv2.rep)
   rintro acc G9 ⟨sm,rp,_⟩ D1 hD1
   have y1:=sm.trans (zB.upd1 (o:=.lst acc) hD1)
   have rp1:=Reps.same (zB.upd1 (o:=.lst acc) hD1) _ _ rp
   have hD11:upd G9 D1 (.lst acc) D1=some (.lst acc):=zG
   generalize upd G9 D1 (.lst acc)=GA at y1 rp1 hD11
   refine ⟨by show 2<=sizeLine; decide,fun q1 hq1=>⟨by show 1<=sizeLine; decide,fun q2 hq2=>?_⟩⟩
   refine ⟨q2,2,[V.ref q1],rfl,rfl,zG,by decide,by decide,by rw [sizeLine_eq]; show 1 * 2<=_; omega,fun q3 hq3=>?_⟩
   have z1:=zB.upd1 (o:=.tup [.str "a",.int 2]) hq1
   have z2:=zB.upd1 (o:=.lst [V.ref q1]) hq2
   have z3:=zB.upd1 (o:=.lst (List.replicate ((2:Int)).toNat [V.ref q1]).flatten) hq3
   have zA:=z1.trans (z2.trans z3)
   have ea:("a" : Str)=tx [97]:=by decide +kernel
   have r1:kZ (upd (upd (upd GA q1 (.tup [.str "a",.int 2])) q2 (.lst [V.ref q1])) q3 (.lst (List.replicate ((2:Int)).toNat [V.ref q1]).flatten)) (.ref q1) 6 (some (([97]:S),2)):=⟨q1,rfl,(z2.trans z3) _ _ (by rw [zG,ea]; rfl)⟩
   refine ⟨.list (List.replicate 2 (gN 6 (some (([97]:S),2)))),.list (List.replicate 2 (gN 6 (some (([97]:S),2)))),⟨D1,acc,rfl,.of (zA _ _ hD11),Reps.same zA _ _ rp1⟩,⟨q3,_,rfl,.of zG,⟨_,_,rfl,r1.rep,_,_,rfl,r1.rep,rfl⟩⟩,p2lay.2,p2lay.2,_,rfl,j6 p2lay.1 ?_⟩
   have yA:=y1.trans zA
   generalize upd (upd (upd GA q1 (.tup [.str "a",.int 2])) q2 (.lst [V.ref q1])) q3 (.lst (List.replicate ((2:Int)).toNat [V.ref q1]).flatten)=GB at yA
   have hb18:=yA _ _ hb17
   have ha18:=yA.seq ha17
   have tg18:=zO.same yA _ _ tg17
   clear yA r1 zA z1 z2 z3 hq1 hq2 hq3 y1 rp1 hD11 hD1 rp sm hgood a4 hb17 hw17 ha17 tg17
   refine ⟨by show 3<=sizeLine; decide,fun l1 hl1=>?_⟩
   have w1:=zB.upd1 (o:=.lst [V.int 0,V.int 4,V.non]) hl1
   refine ⟨_,rfl,a,ns,54,3,rfl,w1.seq ha18,hl,by decide,by decide,fun d9 GC hd9 u9=>?_⟩
   obtain ⟨nv,hnv,e9,he9,hs9,ho9⟩:∃ nv,[V.int 0,V.int 4,V.non][d9]?=some nv/\∃ e,(∀ G:Hp,zO G e nv)/\sml e=true/\vU e=false:=by
    rcases (by omega:d9=0\/d9=1\/d9=2) with rfl | rfl | rfl
    ·exact ⟨_,rfl,.int 0,fun _=>rfl,rfl,rfl⟩
    ·exact ⟨_,rfl,.int 4,fun _=>rfl,rfl,rfl⟩
    ·exact ⟨_,rfl,.none,fun _=>rfl,rfl,rfl⟩
   refine ⟨l1,_,(d9:Int),nv,rfl,rfl,.of (u9 _ _ zG),qY hnv,?_⟩
   have w9:=w1.trans u9
   have hb19:=w9 _ _ hb18
   have tg19:=zO.same w9 _ _ tg18
   clear w9 u9 hnv w1 hl1 hb18 ha18 tg18
   have em:∀ {G:Hp} {p:Addr},zO (upd G p (.tup [])) (.tuple []) (.ref p):=fun {G p}=>⟨p,[],rfl,zG,rfl⟩
   refine ⟨3,rfl,by decide,by decide,?_⟩
   refine qL (jY 0 3) [some (.ref b),some nv,some od] 1 (by decide) (fun i acc G'=>zB GC G'/\Reps K G' ((List.replicate i 1).map vV) acc/\acc.length=i)
    ⟨zB.refl _,rfl,rfl⟩ (fun i acc G' _ h=>⟨trivial,by rw [h.2.2]; exact Nat.le_refl _⟩) ?_ ?_
   ·rintro i y acc G' ys Nx hN hy hys ⟨sm,rp,hal⟩
    obtain ⟨y',rfl⟩:=uP hys
    obtain ⟨hi3,rfl⟩:=kT hy
    refine ⟨_,rfl,_,rfl,_,rfl,by show 0<=sizeLine; decide,fun pe hpe=>?_⟩
    have su:=sm.trans (zB.upd1 (o:=.tup []) hpe)
    refine ⟨_,rfl,to_ref (wy:=i) (j:=1) hi3 (zAC (su _ _ hb19)) (he9 _) em (zO.same su _ _ tg19) (zAD isb) hs9 (by decide +kernel) (by decide +kernel) sg ?_ fun p G2 u2 hp=>hN _ _ [_] rfl ⟨su.trans u2,?_,by rw [List.length_append,hal]; rfl⟩⟩
    ·unfold uR
     rw [if_neg (by rw [ebk]; decide),if_pos ho9]
    ·rw [List.replicate_succ',List.map_append]
     exact Reps.append (Reps.same ((zB.upd1 hpe).trans u2) _ _ rp) (Reps.one (vB.rep hp))
   rintro acc G9 ⟨sm,rp,_⟩ D1 hD1
   have y1:=sm.trans (zB.upd1 (o:=.lst acc) hD1)
   have rp1:=Reps.same (zB.upd1 (o:=.lst acc) hD1) _ _ rp
   have hD11:upd G9 D1 (.lst acc) D1=some (.lst acc):=zG
   generalize upd G9 D1 (.lst acc)=GA at y1 rp1 hD11
   refine ⟨by show 2<=sizeLine; decide,fun q1 hq1=>⟨by show 1<=sizeLine; decide,fun q2 hq2=>?_⟩⟩
   refine ⟨q2,3,[V.ref q1],rfl,rfl,zG,by decide,by decide,by rw [sizeLine_eq]; show 1 * 3<=_; omega,fun q3 hq3=>?_⟩
   have z1:=zB.upd1 (o:=.tup [.str "refused",.int 1]) hq1
   have z2:=zB.upd1 (o:=.lst [V.ref q1]) hq2
   have z3:=zB.upd1 (o:=.lst (List.replicate ((3:Int)).toNat [V.ref q1]).flatten) hq3
   have zA:=z1.trans (z2.trans z3)
   have r1:vB (upd (upd (upd GA q1 (.tup [.str "refused",.int 1])) q2 (.lst [V.ref q1])) q3 (.lst (List.replicate ((3:Int)).toNat [V.ref q1]).flatten)) q1 1:=(z2.trans z3) _ _ zG
   have ly1:=zBw (js:=List.replicate 3 1)
   refine ⟨.list ((List.replicate 3 1).map vV),.list ((List.replicate 3 1).map vV),⟨D1,acc,rfl,.of (zA _ _ hD11),Reps.same zA _ _ rp1⟩,⟨q3,_,rfl,.of zG,zBv r1 3⟩,ly1.2,ly1.2,_,rfl,j6 ly1.1 ?_⟩
   have yA:=y1.trans zA
   generalize upd (upd (upd GA q1 (.tup [.str "refused",.int 1])) q2 (.lst [V.ref q1])) q3 (.lst (List.replicate ((3:Int)).toNat [V.ref q1]).flatten)=GB at yA
   have hb20:=yA _ _ hb19
   have tg20:=zO.same yA _ _ tg19
   clear yA r1 zA z1 z2 z3 hq1 hq2 hq3 y1 rp1 hD11 hD1 rp sm hb19 tg19
   refine ⟨3,rfl,by decide,by decide,?_⟩
   refine qL (jY 0 3) [some (.ref b),some od] 1 (by decide) (fun i acc G'=>zB GB G'/\Reps K G' ((List.replicate i 0).map vV) acc/\acc.length=i)
    ⟨zB.refl _,rfl,rfl⟩ (fun i acc G' _ h=>⟨trivial,by rw [h.2.2]; exact Nat.le_refl _⟩) ?_ ?_
   ·rintro i y acc G' ys Nx hN hy hys ⟨sm,rp,hal⟩
    obtain ⟨y',rfl⟩:=uP hys
    obtain ⟨hi3,rfl⟩:=kT hy
    refine ⟨_,rfl,_,rfl,b,_,rfl,.inr (.of (sm _ _ hb20)),fun lb hlb=>?_⟩
    have u1:=zB.upd1 (o:=.lst (zM bk)) hlb
    refine ⟨by show 0<=sizeLine; decide,fun pe hpe=>?_⟩
    have u12:=u1.trans (zB.upd1 (o:=.tup []) hpe)
    have su:=sm.trans u12
    have okb:v9 6 (.list (bk.map fun x=>PyData.str (tx x))):=okL (n:=5) (fun d hd=>by obtain ⟨x,hx,rfl⟩:=List.mem_map.mp hd; exact zAy (isb.nm x hx)) (by rw [List.length_map]; omega)
    refine ⟨_,rfl,to_ref (wy:=i) (j:=0) hi3 (d:=.list (bk.map fun x=>PyData.str (tx x))) ⟨lb,_,rfl,(zB.upd1 hpe) _ _ zG,Thgs.strs bk⟩ (e:=.int 0) rfl em (zO.same su _ _ tg20) okb.1 rfl (by decide +kernel) (by decide +kernel) sg ?_ fun p G2 u2 hp=>hN _ _ [_] rfl ⟨su.trans u2,?_,by rw [List.length_append,hal]; rfl⟩⟩
    ·unfold uR
     rw [if_pos (show y6 (.list (bk.map fun x=>PyData.str (tx x)))=false from rfl)]
    ·rw [List.replicate_succ',List.map_append]
     exact Reps.append (Reps.same (u12.trans u2) _ _ rp) (Reps.one (vB.rep hp))
   rintro acc G9 ⟨sm,rp,_⟩ D1 hD1
   have rp1:=Reps.same (zB.upd1 (o:=.lst acc) hD1) _ _ rp
   have hD11:upd G9 D1 (.lst acc) D1=some (.lst acc):=zG
   generalize upd G9 D1 (.lst acc)=GA at rp1 hD11
   refine ⟨by show 2<=sizeLine; decide,fun q1 hq1=>⟨by show 1<=sizeLine; decide,fun q2 hq2=>?_⟩⟩
   refine ⟨q2,3,[V.ref q1],rfl,rfl,zG,by decide,by decide,by rw [sizeLine_eq]; show 1 * 3<=_; omega,fun q3 hq3=>?_⟩
   have z1:=zB.upd1 (o:=.tup [.str "refused",.int 0]) hq1
   have z2:=zB.upd1 (o:=.lst [V.ref q1]) hq2
   have z3:=zB.upd1 (o:=.lst (List.replicate ((3:Int)).toNat [V.ref q1]).flatten) hq3
   have zA:=z1.trans (z2.trans z3)
   have r1:vB (upd (upd (upd GA q1 (.tup [.str "refused",.int 0])) q2 (.lst [V.ref q1])) q3 (.lst (List.replicate ((3:Int)).toNat [V.ref q1]).flatten)) q1 0:=(z2.trans z3) _ _ zG
   have ly0:=zBw (js:=List.replicate 3 0)
   refine ⟨.list ((List.replicate 3 0).map vV),.list ((List.replicate 3 0).map vV),⟨D1,acc,rfl,.of (zA _ _ hD11),Reps.same zA _ _ rp1⟩,⟨q3,_,rfl,.of zG,zBv r1 3⟩,ly0.2,ly0.2,?_⟩
   rw [zCT _ ly0.1]
   exact k _
end
end Kn.Dr
end
section
namespace Kn
open PySem L2 Dr
def yI (K:PySem.W.Frag) (x:Str) (st:Stmt) (ps:List Str):Prop :=
 ∃ (f:Addr) (fd:FuncData),PySem.W.nsIn K mainGlobals x=some (some (.ref f))/\Fun K x x st f fd/\PySem.W.keepIn K (.ref f)=true/\jL K fd ps []
theorem yN {K:PySem.W.Frag}{x:Str}{st:Stmt}{f:Addr}{oc kV dc pm cd ct:Value}{od an:Option Addr}{sl:Array (Option Value)} (ps:List Str)
  (hb:∀ (fd:FuncData),Fun K x x st f fd->jL K fd ps [])
  (a:PySem.W.nsIn K mainGlobals x=some (some (.ref f))) (l:K.lookup f=some ⟨oc,od,.func (PySem.W.fnOf x x (defArgs st) (defBody st) (defScope st) .none kV dc pm an cd ct),sl⟩) (c:PySem.W.codeIn K cd x=true) (k:PySem.W.keepIn K (.ref f)=true):yI K x st ps :=
 ⟨f,_,a,zCQ (st:=st) l c k,k,hb _ (zCQ (st:=st) l c k)⟩
structure Top (K:PySem.W.Frag):Prop where
 is_name:yI K "is_name" zCh ["thing"]
 is_book:yI K "is_book" zCi ["thing"]
 is_whole:yI K "is_whole" zCj ["thing", "least", "most"]
 is_order:yI K "is_order" zCk ["thing"]
 is_rising:yI K "is_rising" zDb ["things"]
 need_book:yI K "need_book" zCl ["thing"]
 need_order:yI K "need_order" zCm ["thing"]
 need_name:yI K "need_name" zCn ["thing"]
 end_of:yI K "end_of" zBW ["text", "order"]
 ends:yI K "ends_and_letters" zCg ["name", "order"]
 rows:yI K "counted_rows" zCq ["book", "order"]
 is_edge:yI K "is_edge" zDc ["thing"]
 is_barred:yI K "is_barred" zDd ["thing"]
 is_wish:yI K "is_wish" zDf ["thing"]
 need_wish:yI K "need_wish" zDh ["thing"]
 form:yI K "has_form" zDi ["wish", "name"]
 out:yI K "left_out" zDj ["book", "wish"]
 are:yI K "are_numbers" zDl ["thing"]
 neednu:yI K "need_numbers" zDm ["thing"]
 pot:yI K "pot_of" zDI ["row"]
 pots:yI K "pots_by_end" zDK ["book", "order"]
 df:yI K "drawn_from" sDF ["pots", "order", "numbers", "start"]
 drn:yI K "drawn" zDp ["book", "order", "numbers"]
 fd:yI K "first_drawn" sFD ["book", "order", "wish", "barred", "numbers"]
 dfi:yI K "drawn_fitting" zDq ["book", "order", "wish", "numbers"]
 nf:yI K "numbers_for" sNF ["book", "order", "name"]
 cell:yI K "_law_cell" zCs ["_law_script", "_law_k"]
 drawn:yI K "_law_drawn" zCt ["_law_script", "_law_k", "_law_many"]
 lname:yI K "_law_name" zCv ["_law_script", "_law_at", "_law_most"]
 lbook:yI K "_law_book" zCw ["_law_script", "_law_at", "_law_many", "_law_most"]
 lwish:yI K "_law_wish" sLW ["_law_script", "_law_at"]
 lcounts:yI K "_law_counts" zDy ["_law_book_here", "_law_order"]
 lrow:yI K "_law_row" zDz ["_law_book_here", "_law_order", "_law_text"]
 lfits:yI K "_law_fits" zEB ["_law_book_here", "_law_wish_here", "_law_name_here"]
 lrefused:yI K "_law_refused" zDQ ["_law_e"]
 ltold:yI K "_law_told" sTo ["_law_way", "_law_book_here", "_law_order", "_law_wish_here", "_law_thing"]
 lpk:yI K "_law_picked" sPk ["_law_row_here", "_law_number"]
 ldt:yI K "_law_drawn_text" sDT ["_law_book_here", "_law_order", "_law_numbers_here"]
 lld:yI K "_law_drawn_fitting" sLD ["_law_book_here", "_law_order", "_law_wish_here", "_law_numbers_here"]
 lln:yI K "_law_numbers" sLN ["_law_book_here", "_law_order", "_law_name_here"]
 letters:∃ t,PySem.W.nsIn K mainGlobals "LETTERS" = some (some (.str letters t))
 ml:∃ t,PySem.W.nsIn K mainGlobals "MOST_LETTERS" = some (some (.int 8 t))
 mn:∃ t,PySem.W.nsIn K mainGlobals "MOST_NAMES" = some (some (.int 8 t))
 mo:∃ t,PySem.W.nsIn K mainGlobals "MOST_ORDER" = some (some (.int 3 t))
 w0:∃ t,PySem.W.nsIn K mainGlobals "LEAST" = some (some (.int 0 t))
 w1:∃ t,PySem.W.nsIn K mainGlobals "MOST" = some (some (.int 1 t))
 w2:∃ t,PySem.W.nsIn K mainGlobals "HEAD" = some (some (.int 2 t))
 w3:∃ t,PySem.W.nsIn K mainGlobals "TAIL" = some (some (.int 3 t))
 w4:∃ t,PySem.W.nsIn K mainGlobals "BARRED" = some (some (.int 4 t))
 w5:∃ t,PySem.W.nsIn K mainGlobals "TOLD" = some (some (.int 5 t))
 w6:∃ t,PySem.W.nsIn K mainGlobals "MANY_PARTS" = some (some (.int 6 t))
 w7:∃ t,PySem.W.nsIn K mainGlobals "MOST_EDGE" = some (some (.int 3 t))
 w8:∃ t,PySem.W.nsIn K mainGlobals "MOST_BARRED" = some (some (.int 6 t))
 d0:∃ t,PySem.W.nsIn K mainGlobals "MOST_NUMBERS" = some (some (.int 99 t))
 d1:∃ t,PySem.W.nsIn K mainGlobals "GREATEST_NUMBER" = some (some (.int 9999 t))
 ib:PySem.W.kitOne K (.type "int") (.type "bool")=some false
 errs:∃ cs L,∀ (h:Heap) (mg:Str->Option Value),K.In h->h.Ns mainGlobals mg->ErrX K mg cs L
 kitf:KitF K
 kitb:KitB K
 kitl:KitL K
 zlen:PySem.W.nsIn K mainGlobals "len" = some none
 zrange:PySem.W.nsIn K mainGlobals "range" = some none
 zall:PySem.W.nsIn K mainGlobals "all" = some none
 zisinstance:PySem.W.nsIn K mainGlobals "isinstance" = some none
 zstr:PySem.W.nsIn K mainGlobals "str" = some none
 ztuple:PySem.W.nsIn K mainGlobals "tuple" = some none
 zint:PySem.W.nsIn K mainGlobals "int" = some none
 zbool:PySem.W.nsIn K mainGlobals "bool" = some none
 zsorted:PySem.W.nsIn K mainGlobals "sorted" = some none
 zsum:PySem.W.nsIn K mainGlobals "sum" = some none
 zmin:PySem.W.nsIn K mainGlobals "min" = some none
 zlist:PySem.W.nsIn K mainGlobals "list" = some none
 zset:PySem.W.nsIn K mainGlobals "set" = some none
 zzip:PySem.W.nsIn K mainGlobals "zip" = some none
 zenumerate:PySem.W.nsIn K mainGlobals "enumerate" = some none
 zdict:PySem.W.nsIn K mainGlobals "dict" = some none
 zmax:PySem.W.nsIn K mainGlobals "max" = some none
 zValueError:PySem.W.nsIn K mainGlobals "ValueError" = some none
theorem zOY:(Str.ofString "abcdefghijklmnopqrstuvwxyz")=letters:=by decide +kernel
theorem zOZ {K:PySem.W.Frag}{t:Tok} (h:PySem.W.nsIn K mainGlobals "LETTERS" = some (some (.str (Str.ofString "abcdefghijklmnopqrstuvwxyz") t))):∃ t,PySem.W.nsIn K mainGlobals "LETTERS" = some (some (.str letters t)):=by
 rw [zOY] at h; exact ⟨t,h⟩
theorem qF {K:PySem.W.Frag}{x:Str}{i:Int}{t:Tok} (h:PySem.W.nsIn K mainGlobals x=some (some (.int i t))):∃ t,PySem.W.nsIn K mainGlobals x=some (some (.int i t)):=⟨t,h⟩
section
variable {P:Program}{w:World}{K:PySem.W.Frag}{mg:Str->Option Value}{base:Heap}{h:Heap}
theorem vE {x:Str}{st:Stmt}{ps:List Str}{k:Nat}{sp:Sp} (X:K.In h) (G:h.Ns mainGlobals mg) (H:yI K x st ps) (ok:∀ (f:Addr) (fd:FuncData),Fun K x x st f fd->FnOk P w K mg base yF k f fd ps sp):yH P w K mg base k x ps sp:=by
 obtain ⟨f,fd,a,F,kp,b⟩:=H
 exact ⟨f,fd,ok f fd F,PySem.W.mg_of X G a,kp,b⟩
theorem kD {x:Str}{st:Stmt}{ps:List Str}{k:Nat}{sp:Sp} (X:K.In h) (G:h.Ns mainGlobals mg) (H:yI K x st ps) (ok:∀ (f:Addr) (fd:FuncData),Fun K x x st f fd->FnOk P w K mg base (v8 P w) k f fd ps sp):uF P w K mg base k x ps sp:=by
 obtain ⟨f,fd,a,F,kp,b⟩:=H
 exact ⟨f,fd,ok f fd F,PySem.W.mg_of X G a,kp,b⟩
theorem zOa {x:Str}{st:Stmt}{ps:List Str}{k:Nat}{sp:Sp} (X:K.In h) (G:h.Ns mainGlobals mg) (H:yI K x st ps) (ok:∀ (f:Addr) (fd:FuncData),Fun K x x st f fd->FnB P w K mg base yF k f fd ps sp):zDA P w K mg base k x ps sp:=by
 obtain ⟨f,fd,a,F,kp,b⟩:=H
 exact ⟨f,fd,ok f fd F,PySem.W.mg_of X G a,kp,b⟩
theorem zOb (X:K.In h) (G:h.Ns mainGlobals mg) (T:Top K) {f:Addr}{fd:FuncData} (F:Fun K "law" "law" kC f fd):FnOk P w K mg base yF 9 f fd ["_law_script"] (zBC K):=by
 have B:Blt mg:=⟨PySem.W.mg_none_of X G T.zlen,PySem.W.mg_none_of X G T.zrange,PySem.W.mg_none_of X G T.zall,PySem.W.mg_none_of X G T.zisinstance,PySem.W.mg_none_of X G T.zstr,PySem.W.mg_none_of X G T.ztuple,PySem.W.mg_none_of X G T.zint,PySem.W.mg_none_of X G T.zbool,PySem.W.mg_none_of X G T.zsorted,PySem.W.mg_none_of X G T.zsum,PySem.W.mg_none_of X G T.zmin⟩
 have C:Cst K mg:=⟨let ⟨t,e⟩:=T.letters; ⟨t,PySem.W.mg_of X G e⟩,let ⟨t,e⟩:=T.ml; ⟨t,PySem.W.mg_of X G e⟩,let ⟨t,e⟩:=T.mn; ⟨t,PySem.W.mg_of X G e⟩,let ⟨t,e⟩:=T.mo; ⟨t,PySem.W.mg_of X G e⟩,T.ib⟩
 have hli:=PySem.W.mg_none_of X G T.zlist
 have hse:=PySem.W.mg_none_of X G T.zset
 have hzi:=PySem.W.mg_none_of X G T.zzip
 have hen:=PySem.W.mg_none_of X G T.zenumerate
 have hdi:=PySem.W.mg_none_of X G T.zdict
 have W:CstW mg:=⟨let ⟨t,e⟩:=T.w0; ⟨t,PySem.W.mg_of X G e⟩,let ⟨t,e⟩:=T.w1; ⟨t,PySem.W.mg_of X G e⟩,let ⟨t,e⟩:=T.w2; ⟨t,PySem.W.mg_of X G e⟩,let ⟨t,e⟩:=T.w3; ⟨t,PySem.W.mg_of X G e⟩,let ⟨t,e⟩:=T.w4; ⟨t,PySem.W.mg_of X G e⟩,let ⟨t,e⟩:=T.w5; ⟨t,PySem.W.mg_of X G e⟩,let ⟨t,e⟩:=T.w6; ⟨t,PySem.W.mg_of X G e⟩,let ⟨t,e⟩:=T.w7; ⟨t,PySem.W.mg_of X G e⟩,let ⟨t,e⟩:=T.w8; ⟨t,PySem.W.mg_of X G e⟩⟩
 have DD:CstD mg:=⟨let ⟨t,e⟩:=T.d0; ⟨t,PySem.W.mg_of X G e⟩,let ⟨t,e⟩:=T.d1; ⟨t,PySem.W.mg_of X G e⟩⟩
 obtain ⟨cs,L,hE⟩:=T.errs
 have E:=hE h mg X G
 have hmx:=PySem.W.mg_none_of X G T.zmax
 have BE:BltE mg:=⟨PySem.W.mg_none_of X G T.zisinstance,PySem.W.mg_none_of X G T.zValueError⟩
 have KF:=T.kitf
 have KB:=T.kitb
 have KL:=T.kitl
 have cEnd:=vE (P:=P) (w:=w) (base:=base) X G T.end_of fun f fd F=>zKM F
 have cEndB:=vE (P:=P) (w:=w) (base:=base) X G T.end_of fun f fd F=>zNa F
 have cEnds:=vE (P:=P) (w:=w) (base:=base) X G T.ends fun f fd F=>zKP F B cEnd
 have cRows:=vE (P:=P) (w:=w) (base:=base) X G T.rows fun f fd F=>zKZ F cEnds
 have cIsName:=vE (P:=P) (w:=w) (base:=base) X G T.is_name fun f fd F=>zLi F B C KF
 have cIsBook:=vE (P:=P) (w:=w) (base:=base) X G T.is_book fun f fd F=>zLj F B C KF cIsName
 have cIsWhole:=vE (P:=P) (w:=w) (base:=base) X G T.is_whole fun f fd F=>zLl F B C KF
 have cIsOrder:=vE (P:=P) (w:=w) (base:=base) X G T.is_order fun f fd F=>zLm F C cIsWhole
 have cRis:=vE (P:=P) (w:=w) (base:=base) X G T.is_rising fun f fd F=>zMu F B hzi
 have cNB:=kD (P:=P) (w:=w) (base:=base) X G T.need_book fun f fd F=>zLn F (E.at_ 0 (by decide)).1 cIsBook
 have cNO:=kD (P:=P) (w:=w) (base:=base) X G T.need_order fun f fd F=>zLo F (E.at_ 1 (by decide)).1 cIsOrder
 have cNN:=kD (P:=P) (w:=w) (base:=base) X G T.need_name fun f fd F=>zLp F (E.at_ 2 (by decide)).1 cIsName
 have cEd:=vE (P:=P) (w:=w) (base:=base) X G T.is_edge fun f fd F=>zMz F B W cIsName
 have cBa:=vE (P:=P) (w:=w) (base:=base) X G T.is_barred fun f fd F=>zNC F B KF W cIsName cRis
 have cWi:=vE (P:=P) (w:=w) (base:=base) X G T.is_wish fun f fd F=>zNG F B C KF KB W cIsWhole cEd cBa
 have cNW:=kD (P:=P) (w:=w) (base:=base) X G T.need_wish fun f fd F=>zNM F (E.at_ 3 (by decide)).1 cWi
 have cFo:=vE (P:=P) (w:=w) (base:=base) X G T.form fun f fd F=>zNO F B W
 have cOu:=vE (P:=P) (w:=w) (base:=base) X G T.out fun f fd F=>zNR F B W hli hse
 have cAre:=vE (P:=P) (w:=w) (base:=base) X G T.are fun f fd F=>zNX F B hli DD KF KL cIsWhole
 have cNu:=kD (P:=P) (w:=w) (base:=base) X G T.neednu fun f fd F=>zNZ F (E.at_ 4 (by decide)).1 cAre
 have cPot:=vE (P:=P) (w:=w) (base:=base) X G T.pot fun f fd F=>zLb F B
 have cPots:=vE (P:=P) (w:=w) (base:=base) X G T.pots fun f fd F=>zLd F hdi cRows cPot
 have cDF:=kD (P:=P) (w:=w) (base:=base) X G T.df fun f fd F=>zNb F B (E.at_ 6 (by decide)).1 cEndB
 have cDrn:=kD (P:=P) (w:=w) (base:=base) X G T.drn fun f fd F=>zNg F cNB cNO cNu cPots cDF
 have cFD:=kD (P:=P) (w:=w) (base:=base) X G T.fd fun f fd F=>zNh F cPots cDF cFo
 have cDfi:=kD (P:=P) (w:=w) (base:=base) X G T.dfi fun f fd F=>zNj F cNB cNO cNW cNu cOu cFD
 have cNF:=kD (P:=P) (w:=w) (base:=base) X G T.nf fun f fd F=>zNk F (E.at_ 5 (by decide)).1 cNB cNO cNN cPots cEnds
 have cCell:=vE (P:=P) (w:=w) (base:=base) X G T.cell fun f fd F=>zKe F B
 have cDrawn:=vE (P:=P) (w:=w) (base:=base) X G T.drawn fun f fd F=>zKf F cCell
 have cName:=vE (P:=P) (w:=w) (base:=base) X G T.lname fun f fd F=>zKg F B cDrawn
 have cBook:=vE (P:=P) (w:=w) (base:=base) X G T.lbook fun f fd F=>zKh F B cDrawn cName
 have cLW:=vE (P:=P) (w:=w) (base:=base) X G T.lwish fun f fd F=>zNp F B hen cDrawn
 have cRef:=zOa (P:=P) (w:=w) (base:=base) X G T.lrefused fun f fd F=>zLt F BE E
 have cTo:=vE (P:=P) (w:=w) (base:=base) X G T.ltold fun f fd F=>zON F E cDrn cDfi cNF cRef
 have cLF:=vE (P:=P) (w:=w) (base:=base) X G T.lfits fun f fd F=>zOF F B hmx
 have cCo:=vE (P:=P) (w:=w) (base:=base) X G T.lcounts fun f fd F=>zOC F B
 have cRo:=vE (P:=P) (w:=w) (base:=base) X G T.lrow fun f fd F=>zOD F B cCo
 have cPk:=vE (P:=P) (w:=w) (base:=base) X G T.lpk fun f fd F=>zOH F B
 have cDT:=vE (P:=P) (w:=w) (base:=base) X G T.ldt fun f fd F=>zOI F hen cPk cRo
 have cLD:=vE (P:=P) (w:=w) (base:=base) X G T.lld fun f fd F=>zOJ F cDT cLF
 have cLN:=vE (P:=P) (w:=w) (base:=base) X G T.lln fun f fd F=>zOM F B cRo
 exact zOX F B hli ⟨cDrawn,cName,cBook,cLW,cTo,cDT,cLD,cLN⟩
end
theorem zOc {l:PySem.W.OpenLaw}{w:World}{K:PySem.W.Frag}{h:Heap}{mg:Str->Option Value}{fa f4:Addr} (X:K.In h) (G:h.Ns mainGlobals mg) (hfa:mg "law" = some (.ref fa))
  {od4 an4:Option Addr} {sl4:Array (Option Value)} {oc4 kV4 dc4 pm4 cd4 ct4:Value} (T:Top K)
  (a4:PySem.W.nsIn K mainGlobals "law" = some (some (.ref f4))) (l4:K.lookup f4=some ⟨oc4,od4,.func (PySem.W.fnOf "law" "law" (defArgs kC) (defBody kC) (defScope kC) .none kV4 dc4 pm4 an4 cd4 ct4),sl4⟩) (c4:PySem.W.codeIn K cd4 "law" = true) (k4:PySem.W.keepIn K (.ref f4)=true) :
  ∃ fd:FuncData,(∀ (s:Shared) (v:Value),BindsTo s fd ⟨[v],[]⟩ [("_law_script",v)])/\∀ base:Heap,K.In base->base.Ns mainGlobals mg->FnOk l.prog w K mg base yF 9 fa fd ["_law_script"] (zBC K):=by
 have e:=hfa.symm.trans (PySem.W.mg_of X G a4)
 cases e
 have F4:=zCQ (st:=kC) l4 c4 k4
 exact ⟨PySem.W.fnOf "law" "law" (defArgs kC) (defBody kC) (defScope kC) .none kV4 dc4 pm4 an4 cd4 ct4,fun s v=>.of_eq rfl,fun base _ _=>zOb X G T F4⟩
theorem zOd {l:PySem.W.OpenLaw}{q:Program}{loose:List Str}{XP:(Str->Option Value)->Heap->Prop}{YP:World->Heap->Prop}{d:DefRec}{K:Params->PySem.W.Frag} (hn:l.most=some 63) (hdf:d.params.defaults=[])
  (hY:∀ (w:World) (h:Heap),YP w h->(K w.params).In h)
  (F:∀ (w:World) (mg:Str->Option Value) (fa:Addr) (h:Heap),(K w.params).In h->h.Ns mainGlobals mg->mg d.name=some (.ref fa) ->
   ∃ fd:FuncData,(∀ (s:Shared) (u:Value),BindsTo s fd ⟨[u],[]⟩ [("_law_script",u)])/\∀ base:Heap,(K w.params).In base->base.Ns mainGlobals mg->FnOk l.prog w (K w.params) mg base yF 9 fa fd ["_law_script"] (zBC (K w.params))) :
  PySem.W.WalkO q loose XP YP l.row.toRowW d [] (fun f vs=>PySem.call f vs) :=
 L2.zJV (n:=63) (k:=9) (x := "_law_script") (CX:=fun _=>yF) (sp:=fun w=>zBC (K w.params)) hn (by decide) hdf ⟨rfl,by decide,by decide⟩ hY F (fun _ _ a ns hl _ hS=>⟨a,ns,rfl,hS,hl,fun _=>rfl⟩) fun _ _ _ _ _ z=>z
end Kn
end
section
open PySem PySem.W PyProof.Rows
set_option maxRecDepth 100000 in
set_option maxHeartbeats 0 in
theorem PySem.Challenge.cw_kinnames_k40_drawing_holds : PySem.Challenge.rw_kinnames_k40_drawing.Holds := by
 w_on; o_law
 refine PySem.W.holds_open (q:=Kn.kq) (loose:=Kn.klo) (Xt:=fun s=>xlAt Kn.kq [] s && recOk [] s) (XP:=XL Kn.kq []) (Yf:=Hook.obs (kHook Kn.kfr Kn.kas Kn.kas_e)) (Ya:=Hook.val (kHook Kn.kfr Kn.kas Kn.kas_e)) (YP:=Hook.says (kHook Kn.kfr Kn.kas Kn.kas_e)) (N:=6986) Kn.hl (Hook.of (kHook Kn.kfr Kn.kas Kn.kas_e)) (Hook.keeps (kHook Kn.kfr Kn.kas Kn.kas_e)) (fun s e=>xl_of s (Bool.and_eq_true_iff.mp e).1) XL.keeps (by rfl) (by rfl) (by rfl) (fun s e=>recFacts_of (Bool.and_eq_true_iff.mp e).2) (by rfl) (by first | assumption | decide +kernel) (by decide +kernel) ⟨rfl,rfl,rfl,rfl,rfl,by decide +kernel⟩ ?hw ?hc
 (case hw=>w_witness2)
 k_fill
 refine Kn.zOd (l:=PySem.Challenge.rw_kinnames_k40_drawing) rfl rfl (fun w h Y=>PySem.W.kIn_of Y) ?F
 case F =>
  intro w mg fa h KX G hmg
  refine' Kn.zOc KX G hmg ?T ?a4 ?l4 ?c4 ?k4
  (case T =>
   refine' ⟨?is_name,?is_book,?is_whole,?is_order,?is_rising,?need_book,?need_order,?need_name,?end_of,?ends,?rows,?is_edge,?is_barred,?is_wish,?need_wish,?form,?out,?are,?neednu,?pot,?pots,?df,?drn,?fd,?dfi,?nf,?cell,?drawn,?lname,?lbook,?lwish,?lcounts,?lrow,?lfits,?lrefused,?ltold,?lpk,?ldt,?lld,?lln,?letters,?ml,?mn,?mo,?w0,?w1,?w2,?w3,?w4,?w5,?w6,?w7,?w8,?d0,?d1,?ib,?errs,?kitf,?kitb,?kitl,?zlen,?zrange,?zall,?zisinstance,?zstr,?ztuple,?zint,?zbool,?zsorted,?zsum,?zmin,?zlist,?zset,?zzip,?zenumerate,?zdict,?zmax,?zValueError⟩
   (case is_name=>refine' Kn.yN _ (fun fd F=>F.binds fun _ _ _ _ _ _ us hl=>match us,hl with | [_],_=>rfl) ?kna ?knl ?knc ?knk; (case kna=>k_is); (case knl=>k_is); (case knc=>k_is); (case knk=>k_is))
   (case is_book=>refine' Kn.yN _ (fun fd F=>F.binds fun _ _ _ _ _ _ us hl=>match us,hl with | [_],_=>rfl) ?kna ?knl ?knc ?knk; (case kna=>k_is); (case knl=>k_is); (case knc=>k_is); (case knk=>k_is))
   (case is_whole=>refine' Kn.yN _ (fun fd F=>F.binds fun _ _ _ _ _ _ us hl=>match us,hl with | [_,_,_],_=>rfl) ?kna ?knl ?knc ?knk; (case kna=>k_is); (case knl=>k_is); (case knc=>k_is); (case knk=>k_is))
   (case is_order=>refine' Kn.yN _ (fun fd F=>F.binds fun _ _ _ _ _ _ us hl=>match us,hl with | [_],_=>rfl) ?kna ?knl ?knc ?knk; (case kna=>k_is); (case knl=>k_is); (case knc=>k_is); (case knk=>k_is))
   (case is_rising=>refine' Kn.yN _ (fun fd F=>F.binds fun _ _ _ _ _ _ us hl=>match us,hl with | [_],_=>rfl) ?kna ?knl ?knc ?knk; (case kna=>k_is); (case knl=>k_is); (case knc=>k_is); (case knk=>k_is))
   (case need_book=>refine' Kn.yN _ (fun fd F=>F.binds fun _ _ _ _ _ _ us hl=>match us,hl with | [_],_=>rfl) ?kna ?knl ?knc ?knk; (case kna=>k_is); (case knl=>k_is); (case knc=>k_is); (case knk=>k_is))
   (case need_order=>refine' Kn.yN _ (fun fd F=>F.binds fun _ _ _ _ _ _ us hl=>match us,hl with | [_],_=>rfl) ?kna ?knl ?knc ?knk; (case kna=>k_is); (case knl=>k_is); (case knc=>k_is); (case knk=>k_is))
   (case need_name=>refine' Kn.yN _ (fun fd F=>F.binds fun _ _ _ _ _ _ us hl=>match us,hl with | [_],_=>rfl) ?kna ?knl ?knc ?knk; (case kna=>k_is); (case knl=>k_is); (case knc=>k_is); (case knk=>k_is))
   (case end_of=>refine' Kn.yN _ (fun fd F=>F.binds fun _ _ _ _ _ _ us hl=>match us,hl with | [_,_],_=>rfl) ?kna ?knl ?knc ?knk; (case kna=>k_is); (case knl=>k_is); (case knc=>k_is); (case knk=>k_is))
   (case ends=>refine' Kn.yN _ (fun fd F=>F.binds fun _ _ _ _ _ _ us hl=>match us,hl with | [_,_],_=>rfl) ?kna ?knl ?knc ?knk; (case kna=>k_is); (case knl=>k_is); (case knc=>k_is); (case knk=>k_is))
   (case rows=>refine' Kn.yN _ (fun fd F=>F.binds fun _ _ _ _ _ _ us hl=>match us,hl with | [_,_],_=>rfl) ?kna ?knl ?knc ?knk; (case kna=>k_is); (case knl=>k_is); (case knc=>k_is); (case knk=>k_is))
   (case is_edge=>refine' Kn.yN _ (fun fd F=>F.binds fun _ _ _ _ _ _ us hl=>match us,hl with | [_],_=>rfl) ?kna ?knl ?knc ?knk; (case kna=>k_is); (case knl=>k_is); (case knc=>k_is); (case knk=>k_is))
   (case is_barred=>refine' Kn.yN _ (fun fd F=>F.binds fun _ _ _ _ _ _ us hl=>match us,hl with | [_],_=>rfl) ?kna ?knl ?knc ?knk; (case kna=>k_is); (case knl=>k_is); (case knc=>k_is); (case knk=>k_is))
   (case is_wish=>refine' Kn.yN _ (fun fd F=>F.binds fun _ _ _ _ _ _ us hl=>match us,hl with | [_],_=>rfl) ?kna ?knl ?knc ?knk; (case kna=>k_is); (case knl=>k_is); (case knc=>k_is); (case knk=>k_is))
   (case need_wish=>refine' Kn.yN _ (fun fd F=>F.binds fun _ _ _ _ _ _ us hl=>match us,hl with | [_],_=>rfl) ?kna ?knl ?knc ?knk; (case kna=>k_is); (case knl=>k_is); (case knc=>k_is); (case knk=>k_is))
   (case form=>refine' Kn.yN _ (fun fd F=>F.binds fun _ _ _ _ _ _ us hl=>match us,hl with | [_,_],_=>rfl) ?kna ?knl ?knc ?knk; (case kna=>k_is); (case knl=>k_is); (case knc=>k_is); (case knk=>k_is))
   (case out=>refine' Kn.yN _ (fun fd F=>F.binds fun _ _ _ _ _ _ us hl=>match us,hl with | [_,_],_=>rfl) ?kna ?knl ?knc ?knk; (case kna=>k_is); (case knl=>k_is); (case knc=>k_is); (case knk=>k_is))
   (case are=>refine' Kn.yN _ (fun fd F=>F.binds fun _ _ _ _ _ _ us hl=>match us,hl with | [_],_=>rfl) ?kna ?knl ?knc ?knk; (case kna=>k_is); (case knl=>k_is); (case knc=>k_is); (case knk=>k_is))
   (case neednu=>refine' Kn.yN _ (fun fd F=>F.binds fun _ _ _ _ _ _ us hl=>match us,hl with | [_],_=>rfl) ?kna ?knl ?knc ?knk; (case kna=>k_is); (case knl=>k_is); (case knc=>k_is); (case knk=>k_is))
   (case pot=>refine' Kn.yN _ (fun fd F=>F.binds fun _ _ _ _ _ _ us hl=>match us,hl with | [_],_=>rfl) ?kna ?knl ?knc ?knk; (case kna=>k_is); (case knl=>k_is); (case knc=>k_is); (case knk=>k_is))
   (case pots=>refine' Kn.yN _ (fun fd F=>F.binds fun _ _ _ _ _ _ us hl=>match us,hl with | [_,_],_=>rfl) ?kna ?knl ?knc ?knk; (case kna=>k_is); (case knl=>k_is); (case knc=>k_is); (case knk=>k_is))
   (case df=>refine' Kn.yN _ (fun fd F=>F.binds fun _ _ _ _ _ _ us hl=>match us,hl with | [_,_,_,_],_=>rfl) ?kna ?knl ?knc ?knk; (case kna=>k_is); (case knl=>k_is); (case knc=>k_is); (case knk=>k_is))
   (case drn=>refine' Kn.yN _ (fun fd F=>F.binds fun _ _ _ _ _ _ us hl=>match us,hl with | [_,_,_],_=>rfl) ?kna ?knl ?knc ?knk; (case kna=>k_is); (case knl=>k_is); (case knc=>k_is); (case knk=>k_is))
   (case fd=>refine' Kn.yN _ (fun fd F=>F.binds fun _ _ _ _ _ _ us hl=>match us,hl with | [_,_,_,_,_],_=>rfl) ?kna ?knl ?knc ?knk; (case kna=>k_is); (case knl=>k_is); (case knc=>k_is); (case knk=>k_is))
   (case dfi=>refine' Kn.yN _ (fun fd F=>F.binds fun _ _ _ _ _ _ us hl=>match us,hl with | [_,_,_,_],_=>rfl) ?kna ?knl ?knc ?knk; (case kna=>k_is); (case knl=>k_is); (case knc=>k_is); (case knk=>k_is))
   (case nf=>refine' Kn.yN _ (fun fd F=>F.binds fun _ _ _ _ _ _ us hl=>match us,hl with | [_,_,_],_=>rfl) ?kna ?knl ?knc ?knk; (case kna=>k_is); (case knl=>k_is); (case knc=>k_is); (case knk=>k_is))
   (case cell=>refine' Kn.yN _ (fun fd F=>F.binds fun _ _ _ _ _ _ us hl=>match us,hl with | [_,_],_=>rfl) ?kna ?knl ?knc ?knk; (case kna=>k_is); (case knl=>k_is); (case knc=>k_is); (case knk=>k_is))
   (case drawn=>refine' Kn.yN _ (fun fd F=>F.binds fun _ _ _ _ _ _ us hl=>match us,hl with | [_,_,_],_=>rfl) ?kna ?knl ?knc ?knk; (case kna=>k_is); (case knl=>k_is); (case knc=>k_is); (case knk=>k_is))
   (case lname=>refine' Kn.yN _ (fun fd F=>F.binds fun _ _ _ _ _ _ us hl=>match us,hl with | [_,_,_],_=>rfl) ?kna ?knl ?knc ?knk; (case kna=>k_is); (case knl=>k_is); (case knc=>k_is); (case knk=>k_is))
   (case lbook=>refine' Kn.yN _ (fun fd F=>F.binds fun _ _ _ _ _ _ us hl=>match us,hl with | [_,_,_,_],_=>rfl) ?kna ?knl ?knc ?knk; (case kna=>k_is); (case knl=>k_is); (case knc=>k_is); (case knk=>k_is))
   (case lwish=>refine' Kn.yN _ (fun fd F=>F.binds fun _ _ _ _ _ _ us hl=>match us,hl with | [_,_],_=>rfl) ?kna ?knl ?knc ?knk; (case kna=>k_is); (case knl=>k_is); (case knc=>k_is); (case knk=>k_is))
   (case lcounts=>refine' Kn.yN _ (fun fd F=>F.binds fun _ _ _ _ _ _ us hl=>match us,hl with | [_,_],_=>rfl) ?kna ?knl ?knc ?knk; (case kna=>k_is); (case knl=>k_is); (case knc=>k_is); (case knk=>k_is))
   (case lrow=>refine' Kn.yN _ (fun fd F=>F.binds fun _ _ _ _ _ _ us hl=>match us,hl with | [_,_,_],_=>rfl) ?kna ?knl ?knc ?knk; (case kna=>k_is); (case knl=>k_is); (case knc=>k_is); (case knk=>k_is))
   (case lfits=>refine' Kn.yN _ (fun fd F=>F.binds fun _ _ _ _ _ _ us hl=>match us,hl with | [_,_,_],_=>rfl) ?kna ?knl ?knc ?knk; (case kna=>k_is); (case knl=>k_is); (case knc=>k_is); (case knk=>k_is))
   (case lrefused=>refine' Kn.yN _ (fun fd F=>F.binds fun _ _ _ _ _ _ us hl=>match us,hl with | [_],_=>rfl) ?kna ?knl ?knc ?knk; (case kna=>k_is); (case knl=>k_is); (case knc=>k_is); (case knk=>k_is))
   (case ltold=>refine' Kn.yN _ (fun fd F=>F.binds fun _ _ _ _ _ _ us hl=>match us,hl with | [_,_,_,_,_],_=>rfl) ?kna ?knl ?knc ?knk; (case kna=>k_is); (case knl=>k_is); (case knc=>k_is); (case knk=>k_is))
   (case lpk=>refine' Kn.yN _ (fun fd F=>F.binds fun _ _ _ _ _ _ us hl=>match us,hl with | [_,_],_=>rfl) ?kna ?knl ?knc ?knk; (case kna=>k_is); (case knl=>k_is); (case knc=>k_is); (case knk=>k_is))
   (case ldt=>refine' Kn.yN _ (fun fd F=>F.binds fun _ _ _ _ _ _ us hl=>match us,hl with | [_,_,_],_=>rfl) ?kna ?knl ?knc ?knk; (case kna=>k_is); (case knl=>k_is); (case knc=>k_is); (case knk=>k_is))
   (case lld=>refine' Kn.yN _ (fun fd F=>F.binds fun _ _ _ _ _ _ us hl=>match us,hl with | [_,_,_,_],_=>rfl) ?kna ?knl ?knc ?knk; (case kna=>k_is); (case knl=>k_is); (case knc=>k_is); (case knk=>k_is))
   (case lln=>refine' Kn.yN _ (fun fd F=>F.binds fun _ _ _ _ _ _ us hl=>match us,hl with | [_,_,_],_=>rfl) ?kna ?knl ?knc ?knk; (case kna=>k_is); (case knl=>k_is); (case knc=>k_is); (case knk=>k_is))
   (case letters=>refine' Kn.zOZ ?knq; (case knq=>k_is))
   (case ml=>refine' Kn.qF ?knq; (case knq=>k_is))
   (case mn=>refine' Kn.qF ?knq; (case knq=>k_is))
   (case mo=>refine' Kn.qF ?knq; (case knq=>k_is))
   (case w0=>refine' Kn.qF ?knq; (case knq=>k_is))
   (case w1=>refine' Kn.qF ?knq; (case knq=>k_is))
   (case w2=>refine' Kn.qF ?knq; (case knq=>k_is))
   (case w3=>refine' Kn.qF ?knq; (case knq=>k_is))
   (case w4=>refine' Kn.qF ?knq; (case knq=>k_is))
   (case w5=>refine' Kn.qF ?knq; (case knq=>k_is))
   (case w6=>refine' Kn.qF ?knq; (case knq=>k_is))
   (case w7=>refine' Kn.qF ?knq; (case knq=>k_is))
   (case w8=>refine' Kn.qF ?knq; (case knq=>k_is))
   (case d0=>refine' Kn.qF ?knq; (case knq=>k_is))
   (case d1=>refine' Kn.qF ?knq; (case knq=>k_is))
   (case ib=>first | rfl | kernel_rfl | decide +kernel)
   (case errs=>refine' Kn.zLr ?e0 ?e1 ?e2 ?e3 ?e4 ?e5 ?e6 ?e7 ?eL ?eK; (case e0=>k_is); (case e1=>k_is); (case e2=>k_is); (case e3=>k_is); (case e4=>k_is); (case e5=>k_is); (case e6=>k_is); (case e7=>k_is); (case eL=>k_is); (case eK=>first | rfl | kernel_rfl | decide +kernel))
   (case kitf=>constructor <;> first | rfl | kernel_rfl | decide +kernel)
   (case kitb=>constructor <;> first | rfl | kernel_rfl | decide +kernel)
   (case kitl=>constructor <;> first | rfl | kernel_rfl | decide +kernel)
   (case zlen=>k_is)
   (case zrange=>k_is)
   (case zall=>k_is)
   (case zisinstance=>k_is)
   (case zstr=>k_is)
   (case ztuple=>k_is)
   (case zint=>k_is)
   (case zbool=>k_is)
   (case zsorted=>k_is)
   (case zsum=>k_is)
   (case zmin=>k_is)
   (case zlist=>k_is)
   (case zset=>k_is)
   (case zzip=>k_is)
   (case zenumerate=>k_is)
   (case zdict=>k_is)
   (case zmax=>k_is)
   (case zValueError=>k_is))
  (case a4=>k_is); (case l4=>k_is); (case c4=>k_is); (case k4=>k_is)
end
