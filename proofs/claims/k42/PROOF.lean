import PyProof.Rows.All
import Wide.All
import OpenK.AllK
import Wide.FinOn
import Lean
import PyProof.EqAt
import PyProof.EqKinds
import PyProof.TupleCall
import PyProof.CompFree
import KE.KSortAsk
import KE.KSortTup
import KE.KRevSl
import PyProof.AttrMissSeq
import KE.KDictOf
import KE.KxText
import PyProof.StationsW
import PyProof.Rows.Catch
import PyProof.ExcClass3
import PyProof.ExcBaseAll.ValueError
import OpenK.KOwn
import KE.KIsAll
import PyProof.ExcAttrAll.ValueError
import PyProof.Rows.Range3
import PyProof.ZipIter
import PyProof.Draws
import PyProof.TupleIter
import PyProof.Rows.ZipGen
import PyProof.WalksMore
import PyProof.Rows.InDataRows
import PyProof.Rows.SetFrom
import PyProof.ListMulRoad
import PyProof.StrOps2
import PyProof.FactsAll.tuple_2
import PyProof.RulesTry
import PySem.Challenge.RW_kinnames_k42_whole_fitting
set_option Elab.async false
set_option linter.all false
set_option maxRecDepth 100000
set_option maxHeartbeats 4000000
section
namespace L2
open PySem
def inClass (s:Stmt) (j:Nat):Stmt:=match s with
  | .ClassDef _ _ _ body _ _ _ _ _ _ _=>body.getD j (.Pass ⟨0,0,0,0⟩)
  | _=>.Pass ⟨0,0,0,0⟩
def defArgs (s:Stmt):Arguments:=match s with
  | .FunctionDef _ a _ _ _ _ _ _ _ _=>a
  | _=>{ posonlyargs:=[],args:=[],vararg:=none,kwonlyargs:=[],kw_defaults:=[],kwarg:=none,defaults:=[] }
def defBody (s:Stmt):List Stmt:=match s with
  | .FunctionDef _ _ b _ _ _ _ _ _ _=>b
  | _=>[]
def defScope (s:Stmt):Scope:=match s with
  | .FunctionDef _ _ _ _ _ _ sc _ _ _=>sc
  | _=>{ kind:=.function,names:=[],isGenerator:=false,isCoroutine:=false }
end L2
namespace Kn
open PySem
def top (i:Nat):Stmt:=PySem.Challenge.pw_kinnames_k42_whole_fitting.main.body.getD i (.Pass ⟨0,0,0,0⟩)
end Kn
namespace Kn
open PySem PySem.W PyProof.Rows
def topRunT (tb:String→Option Builtin) (p:Program) (w:World) (n₀:Nat) (ann:Option Value):Nat→SharedT→Thread→Option SharedT
  | 0,_,_=>none
  | n+1,s,t=>match through t with
    | true=>some s
    | false=>match stepOk n₀ ann t with
      | false=>none
      | true=>match stepT (denote tb) p w s t with
        | some (s',t')=>topRunT tb p w n₀ ann n s' t'
        | none=>none
theorem topRun_of {tb:String→Option Builtin}{p:Program}{w:World}{n₀:Nat}{ann:Option Value}:∀ {n:Nat}{s s':SharedT}{t:Thread},topRunT tb p w n₀ ann n s t=some s'→topRun tb p w n₀ ann n s.abs t=some s'.abs
  | 0,_,_,_,h=>by cases h
  | n+1,s,s',t,h=>by
    unfold topRunT at h
    unfold topRun
    cases he:through t with
    | true=>rw [he] at h; cases h; rfl
    | false =>
      rw [he] at h
      cases hk:stepOk n₀ ann t with
      | false=>rw [hk] at h; cases h
      | true =>
        rw [hk] at h
        cases hs:stepT (denote tb) p w s t with
        | none=>rw [hs] at h; cases h
        | some r=>obtain ⟨s₂,t₂⟩:=r; rw [hs] at h; rw [stepT_spec hs]; exact topRun_of h
def insAll:List Obj→Nat→BT→Option BT
  | [],_,T=>some T
  | o::os,n,T=>match ((T.ins n o).get n).isSome with
    | true=>insAll os (n+1) (T.ins n o)
    | false=>none
theorem insAll_abs {life:Life}:∀ {os:List Obj}{n:Nat}{T T':BT},insAll os n T=some T'→(absHeap T' (n+os.length) life).objs.toList=(absHeap T n life).objs.toList++os
  | [],n,T,T',h=>by cases h; simp
  | o::os,n,T,T',h=>by
    unfold insAll at h
    cases hi:((T.ins n o).get n).isSome with
    | false=>rw [hi] at h; cases h
    | true =>
      rw [hi] at h
      have h1:=insAll_abs (life:=life) h
      have h2:=absHeap_ins (life:=life) hi
      have e:n+1+os.length=n+(o::os).length:=by rw [List.length_cons]; omega
      rw [← e,h1,h2]
      show ((absHeap T n life).objs.push o).toList++os=_
      rw [Array.toList_push,List.append_assoc]; rfl
theorem insAll_of {s:Shared}{T:BT} (h:insAll s.heap.objs.toList 0 .nil=some T):(SharedT.mk T s.heap.objs.size s.heap.life s.gens s.drawn s.toks s.os).abs=s:=by
  have h1:=insAll_abs (life:=s.heap.life) h
  have e0:(absHeap .nil 0 s.heap.life).objs.toList=[]:=rfl
  have e1:0+s.heap.objs.toList.length=s.heap.objs.size:=by rw [Nat.zero_add]; rfl
  rw [e0,List.nil_append,e1] at h1
  have h2:absHeap T s.heap.objs.size s.heap.life=s.heap:=by
    have h3:(absHeap T s.heap.objs.size s.heap.life).objs=s.heap.objs:=Array.toList_inj.mp h1
    have h4:(absHeap T s.heap.objs.size s.heap.life).life=s.heap.life:=rfl
    generalize absHeap T s.heap.objs.size s.heap.life=A at h3 h4
    cases A
    obtain ⟨⟨o,l⟩,_,_,_,_⟩:=s
    subst h3 h4
    rfl
  unfold SharedT.abs
  dsimp only
  rw [h2]
def topFromT (tb:String→Option Builtin) (p:Program) (w:World) (N:Nat) (s₀:Shared) (T₀:SharedT):Option Shared :=
  match s₀.heap.isNs mainGlobals && s₀.gens.size == 0 with
  | true=>(topRunT tb p w s₀.heap.objs.size (s₀.heap.nsMap mainGlobals "__annotations__") N T₀ (topStub p)).bind fun t₁=>match staticsOk (importedModules p.main.body) s₀.heap t₁.abs.heap && namesBound p t₁.abs.heap && gensDone t₁.abs && laidKept s₀.heap t₁.abs.heap with
      | true=>some t₁.abs
      | false=>none
  | false=>none
theorem topFrom_of {tb:String→Option Builtin}{p:Program}{w:World}{N:Nat}{s₀:Shared}{T₀:SharedT}{s₁:Shared} (e:T₀.abs=s₀) (h:topFromT tb p w N s₀ T₀=some s₁):topFrom tb p w N s₀=some s₁:=by
  unfold topFromT at h
  unfold topFrom
  cases hb:s₀.heap.isNs mainGlobals && s₀.gens.size == 0 with
  | false=>rw [hb] at h; cases h
  | true =>
    rw [hb] at h
    dsimp only at h ⊢
    obtain ⟨t₁,h1,h2⟩:=Option.bind_eq_some_iff.mp h
    have h3:=topRun_of h1
    rw [e] at h3
    rw [h3]
    exact h2
def openEndsT (tb:String→Option Builtin) (p:Program) (w:World) (N:Nat):Option Shared:=(fencedOpening tb p w N).bind fun s₀=>(insAll s₀.heap.objs.toList 0 .nil).bind fun T=>topFromT tb p w N s₀ ⟨T,s₀.heap.objs.size,s₀.heap.life,s₀.gens,s₀.drawn,s₀.toks,s₀.os⟩
theorem openEnds_of {tb:String→Option Builtin}{p:Program}{w:World}{N:Nat}{s₁:Shared} (h:openEndsT tb p w N=some s₁):openEnds tb p w N=some s₁:=by
  obtain ⟨s₀,h1,h2⟩:=Option.bind_eq_some_iff.mp h
  obtain ⟨T,h3,h4⟩:=Option.bind_eq_some_iff.mp h2
  unfold openEnds
  rw [h1]
  exact topFrom_of (insAll_of h3) h4
theorem openMap_of {tb:String→Option Builtin}{p:Program}{w:World}{N:Nat}{α:Type}{F:Shared→α}{r:α} (h:(openEndsT tb p w N).map F=some r):(openEnds tb p w N).map F=some r:=by
  obtain ⟨s₁,h1,h2⟩:=Option.map_eq_some_iff.mp h
  rw [openEnds_of h1,Option.map_some,h2]
end Kn
open PySem PySem.W PyProof.Rows
namespace Kn
open L2
def kE (P:Params) (x:Str) (t:Nat) (v:Value):DictEntry:=⟨PyData.keyHash P x,.str x t,v⟩
def kF (s:Stmt) (nm qn:Str) (df kd doc pm:Value) (an:Option Addr) (cd ct:Value) (c:Value) (d:Option Addr) (sl:Array (Option Value)):Obj :=
  ⟨c,d,.func (PySem.W.fnOf nm qn (defArgs s) (defBody s) (defScope s) df kd doc pm an cd ct),sl⟩
noncomputable def kfr:Params→Frag:=fun P=>(nat_lit 2,⟨.none,none,.dict #[] 0,#[]⟩) ::
  (nat_lit 3,⟨(.type "dict"),none,.dict #[kE P (.ofString "__name__") 165 (.str (.ofString "law_kinnames_k42_whole_fitting") 576),kE P (.ofString "__doc__") 166 .none,kE P (.ofString "__package__") 167 .none,kE P (.ofString "__loader__") 168 (.builtin "__main__.__loader__#opaque"),kE P (.ofString "__spec__") 169 .none,kE P (.ofString "__annotations__") 170 (.ref 6),kE P (.ofString "__builtins__") 171 (.ref 4),kE P (.ofString "__file__") 173 (.str (.ofString "/claim/cut.py") 172),kE P (.ofString "__cached__") 174 .none,kE P (.ofString "LikeError") 206 (.ref 24),kE P (.ofString "NoBook") 222 (.ref 37),kE P (.ofString "NoOrder") 238 (.ref 49),kE P (.ofString "NoName") 254 (.ref 61),kE P (.ofString "NoWish") 270 (.ref 73),kE P (.ofString "NoNumber") 286 (.ref 85),kE P (.ofString "NotMade") 302 (.ref 97),kE P (.ofString "TooShort") 318 (.ref 109),kE P (.ofString "LETTERS") 322 (.str (.ofString "abcdefghijklmnopqrstuvwxyz") 321),kE P (.ofString "MOST_LETTERS") 324 (.int (8) 323),kE P (.ofString "MOST_NAMES") 326 (.int (8) 325),kE P (.ofString "MOST_ORDER") 328 (.int (3) 327),kE P (.ofString "is_name") 334 (.ref 116),kE P (.ofString "is_book") 340 (.ref 121),kE P (.ofString "is_whole") 349 (.ref 128),kE P (.ofString "is_order") 356 (.ref 135),kE P (.ofString "is_rising") 362 (.ref 140),kE P (.ofString "need_book") 369 (.ref 147),kE P (.ofString "need_order") 376 (.ref 154),kE P (.ofString "need_name") 383 (.ref 161),kE P (.ofString "end_of") 391 (.ref 168),kE P (.ofString "ends_and_letters") 397 (.ref 173),kE P (.ofString "counted_rows") 410 (.ref 180),kE P (.ofString "LEAST") 414 (.int (0) 413),kE P (.ofString "MOST") 416 (.int (1) 415),kE P (.ofString "HEAD") 418 (.int (2) 417),kE P (.ofString "TAIL") 420 (.int (3) 419),kE P (.ofString "BARRED") 422 (.int (4) 421),kE P (.ofString "TOLD") 424 (.int (5) 423),kE P (.ofString "MANY_PARTS") 426 (.int (6) 425),kE P (.ofString "MOST_EDGE") 428 (.int (3) 427),kE P (.ofString "MOST_BARRED") 430 (.int (6) 429),kE P (.ofString "is_edge") 437 (.ref 187),kE P (.ofString "is_barred") 443 (.ref 192),kE P (.ofString "is_wish") 450 (.ref 199),kE P (.ofString "need_wish") 457 (.ref 206),kE P (.ofString "has_form") 465 (.ref 213),kE P (.ofString "left_out") 473 (.ref 220),kE P (.ofString "fits") 482 (.ref 227),kE P (.ofString "MOST_NUMBERS") 486 (.int (99) 485),kE P (.ofString "GREATEST_NUMBER") 488 (.int (9999) 487),kE P (.ofString "are_numbers") 494 (.ref 232),kE P (.ofString "need_numbers") 501 (.ref 239),kE P (.ofString "pot_of") 510 (.ref 246),kE P (.ofString "pots_by_end") 516 (.ref 251),kE P (.ofString "drawn_from") 530 (.ref 258),kE P (.ofString "drawn") 539 (.ref 265),kE P (.ofString "first_drawn") 552 (.ref 272),kE P (.ofString "drawn_fitting") 562 (.ref 279),kE P (.ofString "numbers_for") 575 (.ref 286),kE P (.ofString "_law_cell") 585 (.ref 293),kE P (.ofString "_law_drawn") 595 (.ref 300),kE P (.ofString "_law_name") 601 (.ref 305),kE P (.ofString "_law_book") 613 (.ref 312),kE P (.ofString "_law_wish") 628 (.ref 319),kE P (.ofString "_law_told") 639 (.ref 326),kE P (.ofString "law") 645 (.ref 331)] 66,#[]⟩) ::
  (nat_lit 23,⟨(.type "dict"),none,.dict #[kE P (.ofString "__module__") 196 (.str (.ofString "kinnames.errors") 187),kE P (.ofString "__firstlineno__") 200 (.int (2) 199),kE P (.ofString "__static_attributes__") 201 (.ref 22),kE P (.ofString "__weakref__") 203 (.ref 25),kE P (.ofString "__doc__") 204 .none] 3,#[]⟩) ::
  (nat_lit 24,⟨(.type "type"),none,.cls ⟨(.ofString "LikeError"),[(.type "ValueError")],[(.ref 24),(.type "ValueError"),(.type "Exception"),(.type "BaseException"),(.type "object")],23,(.ofString "LikeError"),true,[],[(.ref 37),(.ref 49),(.ref 61),(.ref 73),(.ref 85),(.ref 97),(.ref 109)],false,none,false⟩,#[(some (.ref 15)),none,(some (.str (.ofString "LikeError") 189)),(some (.str (.ofString "LikeError") 197)),(some (.builtin "ValueError.__new__")),(some (.bool true))]⟩) ::
  (nat_lit 25,⟨(.type "getset_descriptor"),none,.fields #[(.str (.ofString "__weakref__") 202),(.ref 24),(.builtin "ExceptionGroup.__weakref__"),.none],#[]⟩) ::
  (nat_lit 36,⟨(.type "dict"),none,.dict #[kE P (.ofString "__module__") 214 (.str (.ofString "kinnames.errors") 187),kE P (.ofString "__firstlineno__") 218 (.int (4) 217),kE P (.ofString "__static_attributes__") 219 (.ref 35),kE P (.ofString "__doc__") 220 .none] 2,#[]⟩) ::
  (nat_lit 37,⟨(.type "type"),none,.cls ⟨(.ofString "NoBook"),[(.ref 24)],[(.ref 37),(.ref 24),(.type "ValueError"),(.type "Exception"),(.type "BaseException"),(.type "object")],36,(.ofString "NoBook"),true,[],[],false,none,false⟩,#[(some (.ref 28)),none,(some (.str (.ofString "NoBook") 207)),(some (.str (.ofString "NoBook") 215)),(some (.builtin "ValueError.__new__")),(some (.bool true))]⟩) ::
  (nat_lit 48,⟨(.type "dict"),none,.dict #[kE P (.ofString "__module__") 230 (.str (.ofString "kinnames.errors") 187),kE P (.ofString "__firstlineno__") 234 (.int (6) 233),kE P (.ofString "__static_attributes__") 235 (.ref 47),kE P (.ofString "__doc__") 236 .none] 2,#[]⟩) ::
  (nat_lit 49,⟨(.type "type"),none,.cls ⟨(.ofString "NoOrder"),[(.ref 24)],[(.ref 49),(.ref 24),(.type "ValueError"),(.type "Exception"),(.type "BaseException"),(.type "object")],48,(.ofString "NoOrder"),true,[],[],false,none,false⟩,#[(some (.ref 40)),none,(some (.str (.ofString "NoOrder") 223)),(some (.str (.ofString "NoOrder") 231)),(some (.builtin "ValueError.__new__")),(some (.bool true))]⟩) ::
  (nat_lit 60,⟨(.type "dict"),none,.dict #[kE P (.ofString "__module__") 246 (.str (.ofString "kinnames.errors") 187),kE P (.ofString "__firstlineno__") 250 (.int (8) 249),kE P (.ofString "__static_attributes__") 251 (.ref 59),kE P (.ofString "__doc__") 252 .none] 2,#[]⟩) ::
  (nat_lit 61,⟨(.type "type"),none,.cls ⟨(.ofString "NoName"),[(.ref 24)],[(.ref 61),(.ref 24),(.type "ValueError"),(.type "Exception"),(.type "BaseException"),(.type "object")],60,(.ofString "NoName"),true,[],[],false,none,false⟩,#[(some (.ref 52)),none,(some (.str (.ofString "NoName") 239)),(some (.str (.ofString "NoName") 247)),(some (.builtin "ValueError.__new__")),(some (.bool true))]⟩) ::
  (nat_lit 72,⟨(.type "dict"),none,.dict #[kE P (.ofString "__module__") 262 (.str (.ofString "kinnames.errors") 187),kE P (.ofString "__firstlineno__") 266 (.int (10) 265),kE P (.ofString "__static_attributes__") 267 (.ref 71),kE P (.ofString "__doc__") 268 .none] 2,#[]⟩) ::
  (nat_lit 73,⟨(.type "type"),none,.cls ⟨(.ofString "NoWish"),[(.ref 24)],[(.ref 73),(.ref 24),(.type "ValueError"),(.type "Exception"),(.type "BaseException"),(.type "object")],72,(.ofString "NoWish"),true,[],[],false,none,false⟩,#[(some (.ref 64)),none,(some (.str (.ofString "NoWish") 255)),(some (.str (.ofString "NoWish") 263)),(some (.builtin "ValueError.__new__")),(some (.bool true))]⟩) ::
  (nat_lit 84,⟨(.type "dict"),none,.dict #[kE P (.ofString "__module__") 278 (.str (.ofString "kinnames.errors") 187),kE P (.ofString "__firstlineno__") 282 (.int (12) 281),kE P (.ofString "__static_attributes__") 283 (.ref 83),kE P (.ofString "__doc__") 284 .none] 2,#[]⟩) ::
  (nat_lit 85,⟨(.type "type"),none,.cls ⟨(.ofString "NoNumber"),[(.ref 24)],[(.ref 85),(.ref 24),(.type "ValueError"),(.type "Exception"),(.type "BaseException"),(.type "object")],84,(.ofString "NoNumber"),true,[],[],false,none,false⟩,#[(some (.ref 76)),none,(some (.str (.ofString "NoNumber") 271)),(some (.str (.ofString "NoNumber") 279)),(some (.builtin "ValueError.__new__")),(some (.bool true))]⟩) ::
  (nat_lit 96,⟨(.type "dict"),none,.dict #[kE P (.ofString "__module__") 294 (.str (.ofString "kinnames.errors") 187),kE P (.ofString "__firstlineno__") 298 (.int (14) 297),kE P (.ofString "__static_attributes__") 299 (.ref 95),kE P (.ofString "__doc__") 300 .none] 2,#[]⟩) ::
  (nat_lit 97,⟨(.type "type"),none,.cls ⟨(.ofString "NotMade"),[(.ref 24)],[(.ref 97),(.ref 24),(.type "ValueError"),(.type "Exception"),(.type "BaseException"),(.type "object")],96,(.ofString "NotMade"),true,[],[],false,none,false⟩,#[(some (.ref 88)),none,(some (.str (.ofString "NotMade") 287)),(some (.str (.ofString "NotMade") 295)),(some (.builtin "ValueError.__new__")),(some (.bool true))]⟩) ::
  (nat_lit 108,⟨(.type "dict"),none,.dict #[kE P (.ofString "__module__") 310 (.str (.ofString "kinnames.errors") 187),kE P (.ofString "__firstlineno__") 314 (.int (16) 313),kE P (.ofString "__static_attributes__") 315 (.ref 107),kE P (.ofString "__doc__") 316 .none] 2,#[]⟩) ::
  (nat_lit 109,⟨(.type "type"),none,.cls ⟨(.ofString "TooShort"),[(.ref 24)],[(.ref 109),(.ref 24),(.type "ValueError"),(.type "Exception"),(.type "BaseException"),(.type "object")],108,(.ofString "TooShort"),true,[],[],false,none,false⟩,#[(some (.ref 100)),none,(some (.str (.ofString "TooShort") 303)),(some (.str (.ofString "TooShort") 311)),(some (.builtin "ValueError.__new__")),(some (.bool true))]⟩) ::
  (nat_lit 115,⟨(.type "code"),none,.fields #[(.str (.ofString "is_name") 329),(.str (.ofString "is_name") 330),(.str (.ofString "/claim/cut.py") 331),(.int (23) 0),(.int (1) 0),(.int (0) 0),(.int (0) 0),(.int (3) 0),(.ref 112),(.bool true),(.int (181) 0),(.ref 113),.none,.none,.none,(.ref 114),(.int (332) 0),(.int (23) 0),(.str (.ofString "/claim/cut.py") 333)],#[]⟩) ::
  (nat_lit 116,kF (top 14) (.ofString "is_name") (.ofString "is_name") .none .none .none (.str (.ofString "kinnames.books") 319) none (.ref 115) .none (.type "function") none #[]) ::
  (nat_lit 120,⟨(.type "code"),none,.fields #[(.str (.ofString "is_book") 335),(.str (.ofString "is_book") 336),(.str (.ofString "/claim/cut.py") 337),(.int (27) 0),(.int (1) 0),(.int (0) 0),(.int (0) 0),(.int (3) 0),(.ref 117),(.bool true),(.int (181) 0),(.ref 118),.none,.none,.none,(.ref 119),(.int (338) 0),(.int (27) 0),(.str (.ofString "/claim/cut.py") 339)],#[]⟩) ::
  (nat_lit 121,kF (top 15) (.ofString "is_book") (.ofString "is_book") .none .none .none (.str (.ofString "kinnames.books") 319) none (.ref 120) .none (.type "function") none #[]) ::
  (nat_lit 127,⟨(.type "code"),none,.fields #[(.str (.ofString "is_whole") 341),(.str (.ofString "is_whole") 342),(.str (.ofString "/claim/cut.py") 343),(.int (31) 0),(.int (3) 0),(.int (0) 0),(.int (0) 0),(.int (3) 0),(.ref 122),(.bool true),(.int (181) 0),(.ref 123),.none,(.ref 124),(.ref 125),(.ref 126),(.int (347) 0),(.int (31) 0),(.str (.ofString "/claim/cut.py") 348)],#[]⟩) ::
  (nat_lit 128,kF (top 16) (.ofString "is_whole") (.ofString "is_whole") .none .none .none (.str (.ofString "kinnames.books") 319) none (.ref 127) .none (.type "function") none #[]) ::
  (nat_lit 134,⟨(.type "code"),none,.fields #[(.str (.ofString "is_order") 350),(.str (.ofString "is_order") 351),(.str (.ofString "/claim/cut.py") 352),(.int (35) 0),(.int (1) 0),(.int (0) 0),(.int (0) 0),(.int (3) 0),(.ref 129),(.bool true),(.int (181) 0),(.ref 130),.none,(.ref 131),(.ref 132),(.ref 133),(.int (354) 0),(.int (35) 0),(.str (.ofString "/claim/cut.py") 355)],#[]⟩) ::
  (nat_lit 135,kF (top 17) (.ofString "is_order") (.ofString "is_order") .none .none .none (.str (.ofString "kinnames.books") 319) none (.ref 134) .none (.type "function") none #[]) ::
  (nat_lit 139,⟨(.type "code"),none,.fields #[(.str (.ofString "is_rising") 357),(.str (.ofString "is_rising") 358),(.str (.ofString "/claim/cut.py") 359),(.int (37) 0),(.int (1) 0),(.int (0) 0),(.int (0) 0),(.int (3) 0),(.ref 136),(.bool true),(.int (181) 0),(.ref 137),.none,.none,.none,(.ref 138),(.int (360) 0),(.int (37) 0),(.str (.ofString "/claim/cut.py") 361)],#[]⟩) ::
  (nat_lit 140,kF (top 18) (.ofString "is_rising") (.ofString "is_rising") .none .none .none (.str (.ofString "kinnames.books") 319) none (.ref 139) .none (.type "function") none #[]) ::
  (nat_lit 146,⟨(.type "code"),none,.fields #[(.str (.ofString "need_book") 363),(.str (.ofString "need_book") 364),(.str (.ofString "/claim/cut.py") 365),(.int (39) 0),(.int (1) 0),(.int (0) 0),(.int (0) 0),(.int (3) 0),(.ref 141),(.bool true),(.int (181) 0),(.ref 142),.none,(.ref 143),(.ref 144),(.ref 145),(.int (367) 0),(.int (39) 0),(.str (.ofString "/claim/cut.py") 368)],#[]⟩) ::
  (nat_lit 147,kF (top 19) (.ofString "need_book") (.ofString "need_book") .none .none .none (.str (.ofString "kinnames.books") 319) none (.ref 146) .none (.type "function") none #[]) ::
  (nat_lit 153,⟨(.type "code"),none,.fields #[(.str (.ofString "need_order") 370),(.str (.ofString "need_order") 371),(.str (.ofString "/claim/cut.py") 372),(.int (42) 0),(.int (1) 0),(.int (0) 0),(.int (0) 0),(.int (3) 0),(.ref 148),(.bool true),(.int (181) 0),(.ref 149),.none,(.ref 150),(.ref 151),(.ref 152),(.int (374) 0),(.int (42) 0),(.str (.ofString "/claim/cut.py") 375)],#[]⟩) ::
  (nat_lit 154,kF (top 20) (.ofString "need_order") (.ofString "need_order") .none .none .none (.str (.ofString "kinnames.books") 319) none (.ref 153) .none (.type "function") none #[]) ::
  (nat_lit 160,⟨(.type "code"),none,.fields #[(.str (.ofString "need_name") 377),(.str (.ofString "need_name") 378),(.str (.ofString "/claim/cut.py") 379),(.int (45) 0),(.int (1) 0),(.int (0) 0),(.int (0) 0),(.int (3) 0),(.ref 155),(.bool true),(.int (181) 0),(.ref 156),.none,(.ref 157),(.ref 158),(.ref 159),(.int (381) 0),(.int (45) 0),(.str (.ofString "/claim/cut.py") 382)],#[]⟩) ::
  (nat_lit 161,kF (top 21) (.ofString "need_name") (.ofString "need_name") .none .none .none (.str (.ofString "kinnames.books") 319) none (.ref 160) .none (.type "function") none #[]) ::
  (nat_lit 167,⟨(.type "code"),none,.fields #[(.str (.ofString "end_of") 384),(.str (.ofString "end_of") 385),(.str (.ofString "/claim/cut.py") 386),(.int (48) 0),(.int (2) 0),(.int (0) 0),(.int (0) 0),(.int (3) 0),(.ref 162),(.bool true),(.int (181) 0),(.ref 163),.none,(.ref 164),(.ref 165),(.ref 166),(.int (389) 0),(.int (48) 0),(.str (.ofString "/claim/cut.py") 390)],#[]⟩) ::
  (nat_lit 168,kF (top 22) (.ofString "end_of") (.ofString "end_of") .none .none .none (.str (.ofString "kinnames.books") 319) none (.ref 167) .none (.type "function") none #[]) ::
  (nat_lit 172,⟨(.type "code"),none,.fields #[(.str (.ofString "ends_and_letters") 392),(.str (.ofString "ends_and_letters") 393),(.str (.ofString "/claim/cut.py") 394),(.int (50) 0),(.int (2) 0),(.int (0) 0),(.int (0) 0),(.int (3) 0),(.ref 169),(.bool true),(.int (181) 0),(.ref 170),.none,.none,.none,(.ref 171),(.int (395) 0),(.int (50) 0),(.str (.ofString "/claim/cut.py") 396)],#[]⟩) ::
  (nat_lit 173,kF (top 23) (.ofString "ends_and_letters") (.ofString "ends_and_letters") .none .none .none (.str (.ofString "kinnames.books") 319) none (.ref 172) .none (.type "function") none #[]) ::
  (nat_lit 179,⟨(.type "code"),none,.fields #[(.str (.ofString "counted_rows") 398),(.str (.ofString "counted_rows") 399),(.str (.ofString "/claim/cut.py") 400),(.int (52) 0),(.int (2) 0),(.int (0) 0),(.int (0) 0),(.int (3) 0),(.ref 174),(.bool true),(.int (181) 0),(.ref 175),.none,(.ref 176),(.ref 177),(.ref 178),(.int (408) 0),(.int (52) 0),(.str (.ofString "/claim/cut.py") 409)],#[]⟩) ::
  (nat_lit 180,kF (top 24) (.ofString "counted_rows") (.ofString "counted_rows") .none .none .none (.str (.ofString "kinnames.books") 319) none (.ref 179) .none (.type "function") none #[]) ::
  (nat_lit 186,⟨(.type "code"),none,.fields #[(.str (.ofString "is_edge") 431),(.str (.ofString "is_edge") 432),(.str (.ofString "/claim/cut.py") 433),(.int (69) 0),(.int (1) 0),(.int (0) 0),(.int (0) 0),(.int (3) 0),(.ref 181),(.bool true),(.int (181) 0),(.ref 182),.none,(.ref 183),(.ref 184),(.ref 185),(.int (435) 0),(.int (69) 0),(.str (.ofString "/claim/cut.py") 436)],#[]⟩) ::
  (nat_lit 187,kF (top 35) (.ofString "is_edge") (.ofString "is_edge") .none .none .none (.str (.ofString "kinnames.wishes") 411) none (.ref 186) .none (.type "function") none #[]) ::
  (nat_lit 191,⟨(.type "code"),none,.fields #[(.str (.ofString "is_barred") 438),(.str (.ofString "is_barred") 439),(.str (.ofString "/claim/cut.py") 440),(.int (71) 0),(.int (1) 0),(.int (0) 0),(.int (0) 0),(.int (3) 0),(.ref 188),(.bool true),(.int (181) 0),(.ref 189),.none,.none,.none,(.ref 190),(.int (441) 0),(.int (71) 0),(.str (.ofString "/claim/cut.py") 442)],#[]⟩) ::
  (nat_lit 192,kF (top 36) (.ofString "is_barred") (.ofString "is_barred") .none .none .none (.str (.ofString "kinnames.wishes") 411) none (.ref 191) .none (.type "function") none #[]) ::
  (nat_lit 198,⟨(.type "code"),none,.fields #[(.str (.ofString "is_wish") 444),(.str (.ofString "is_wish") 445),(.str (.ofString "/claim/cut.py") 446),(.int (75) 0),(.int (1) 0),(.int (0) 0),(.int (0) 0),(.int (3) 0),(.ref 193),(.bool true),(.int (181) 0),(.ref 194),.none,(.ref 195),(.ref 196),(.ref 197),(.int (448) 0),(.int (75) 0),(.str (.ofString "/claim/cut.py") 449)],#[]⟩) ::
  (nat_lit 199,kF (top 37) (.ofString "is_wish") (.ofString "is_wish") .none .none .none (.str (.ofString "kinnames.wishes") 411) none (.ref 198) .none (.type "function") none #[]) ::
  (nat_lit 205,⟨(.type "code"),none,.fields #[(.str (.ofString "need_wish") 451),(.str (.ofString "need_wish") 452),(.str (.ofString "/claim/cut.py") 453),(.int (83) 0),(.int (1) 0),(.int (0) 0),(.int (0) 0),(.int (3) 0),(.ref 200),(.bool true),(.int (181) 0),(.ref 201),.none,(.ref 202),(.ref 203),(.ref 204),(.int (455) 0),(.int (83) 0),(.str (.ofString "/claim/cut.py") 456)],#[]⟩) ::
  (nat_lit 206,kF (top 38) (.ofString "need_wish") (.ofString "need_wish") .none .none .none (.str (.ofString "kinnames.wishes") 411) none (.ref 205) .none (.type "function") none #[]) ::
  (nat_lit 212,⟨(.type "code"),none,.fields #[(.str (.ofString "has_form") 458),(.str (.ofString "has_form") 459),(.str (.ofString "/claim/cut.py") 460),(.int (86) 0),(.int (2) 0),(.int (0) 0),(.int (0) 0),(.int (3) 0),(.ref 207),(.bool true),(.int (181) 0),(.ref 208),.none,(.ref 209),(.ref 210),(.ref 211),(.int (463) 0),(.int (86) 0),(.str (.ofString "/claim/cut.py") 464)],#[]⟩) ::
  (nat_lit 213,kF (top 39) (.ofString "has_form") (.ofString "has_form") .none .none .none (.str (.ofString "kinnames.wishes") 411) none (.ref 212) .none (.type "function") none #[]) ::
  (nat_lit 219,⟨(.type "code"),none,.fields #[(.str (.ofString "left_out") 466),(.str (.ofString "left_out") 467),(.str (.ofString "/claim/cut.py") 468),(.int (90) 0),(.int (2) 0),(.int (0) 0),(.int (0) 0),(.int (3) 0),(.ref 214),(.bool true),(.int (181) 0),(.ref 215),.none,(.ref 216),(.ref 217),(.ref 218),(.int (471) 0),(.int (90) 0),(.str (.ofString "/claim/cut.py") 472)],#[]⟩) ::
  (nat_lit 220,kF (top 40) (.ofString "left_out") (.ofString "left_out") .none .none .none (.str (.ofString "kinnames.wishes") 411) none (.ref 219) .none (.type "function") none #[]) ::
  (nat_lit 226,⟨(.type "code"),none,.fields #[(.str (.ofString "fits") 474),(.str (.ofString "fits") 475),(.str (.ofString "/claim/cut.py") 476),(.int (94) 0),(.int (3) 0),(.int (0) 0),(.int (0) 0),(.int (3) 0),(.ref 221),(.bool true),(.int (181) 0),(.ref 222),.none,(.ref 223),(.ref 224),(.ref 225),(.int (480) 0),(.int (94) 0),(.str (.ofString "/claim/cut.py") 481)],#[]⟩) ::
  (nat_lit 227,kF (top 41) (.ofString "fits") (.ofString "fits") .none .none .none (.str (.ofString "kinnames.wishes") 411) none (.ref 226) .none (.type "function") none #[]) ::
  (nat_lit 231,⟨(.type "code"),none,.fields #[(.str (.ofString "are_numbers") 489),(.str (.ofString "are_numbers") 490),(.str (.ofString "/claim/cut.py") 491),(.int (102) 0),(.int (1) 0),(.int (0) 0),(.int (0) 0),(.int (3) 0),(.ref 228),(.bool true),(.int (181) 0),(.ref 229),.none,.none,.none,(.ref 230),(.int (492) 0),(.int (102) 0),(.str (.ofString "/claim/cut.py") 493)],#[]⟩) ::
  (nat_lit 232,kF (top 45) (.ofString "are_numbers") (.ofString "are_numbers") .none .none .none (.str (.ofString "kinnames.drawing") 483) none (.ref 231) .none (.type "function") none #[]) ::
  (nat_lit 238,⟨(.type "code"),none,.fields #[(.str (.ofString "need_numbers") 495),(.str (.ofString "need_numbers") 496),(.str (.ofString "/claim/cut.py") 497),(.int (106) 0),(.int (1) 0),(.int (0) 0),(.int (0) 0),(.int (3) 0),(.ref 233),(.bool true),(.int (181) 0),(.ref 234),.none,(.ref 235),(.ref 236),(.ref 237),(.int (499) 0),(.int (106) 0),(.str (.ofString "/claim/cut.py") 500)],#[]⟩) ::
  (nat_lit 239,kF (top 46) (.ofString "need_numbers") (.ofString "need_numbers") .none .none .none (.str (.ofString "kinnames.drawing") 483) none (.ref 238) .none (.type "function") none #[]) ::
  (nat_lit 245,⟨(.type "code"),none,.fields #[(.str (.ofString "pot_of") 502),(.str (.ofString "pot_of") 503),(.str (.ofString "/claim/cut.py") 504),(.int (109) 0),(.int (1) 0),(.int (0) 0),(.int (0) 0),(.int (3) 0),(.ref 240),(.bool true),(.int (181) 0),(.ref 241),.none,(.ref 242),(.ref 243),(.ref 244),(.int (508) 0),(.int (109) 0),(.str (.ofString "/claim/cut.py") 509)],#[]⟩) ::
  (nat_lit 246,kF (top 47) (.ofString "pot_of") (.ofString "pot_of") .none .none .none (.str (.ofString "kinnames.drawing") 483) none (.ref 245) .none (.type "function") none #[]) ::
  (nat_lit 250,⟨(.type "code"),none,.fields #[(.str (.ofString "pots_by_end") 511),(.str (.ofString "pots_by_end") 512),(.str (.ofString "/claim/cut.py") 513),(.int (114) 0),(.int (2) 0),(.int (0) 0),(.int (0) 0),(.int (3) 0),(.ref 247),(.bool true),(.int (181) 0),(.ref 248),.none,.none,.none,(.ref 249),(.int (514) 0),(.int (114) 0),(.str (.ofString "/claim/cut.py") 515)],#[]⟩) ::
  (nat_lit 251,kF (top 48) (.ofString "pots_by_end") (.ofString "pots_by_end") .none .none .none (.str (.ofString "kinnames.drawing") 483) none (.ref 250) .none (.type "function") none #[]) ::
  (nat_lit 257,⟨(.type "code"),none,.fields #[(.str (.ofString "drawn_from") 517),(.str (.ofString "drawn_from") 518),(.str (.ofString "/claim/cut.py") 519),(.int (116) 0),(.int (4) 0),(.int (0) 0),(.int (0) 0),(.int (3) 0),(.ref 252),(.bool true),(.int (181) 0),(.ref 253),.none,(.ref 254),(.ref 255),(.ref 256),(.int (528) 0),(.int (116) 0),(.str (.ofString "/claim/cut.py") 529)],#[]⟩) ::
  (nat_lit 258,kF (top 49) (.ofString "drawn_from") (.ofString "drawn_from") .none .none .none (.str (.ofString "kinnames.drawing") 483) none (.ref 257) .none (.type "function") none #[]) ::
  (nat_lit 264,⟨(.type "code"),none,.fields #[(.str (.ofString "drawn") 531),(.str (.ofString "drawn") 532),(.str (.ofString "/claim/cut.py") 533),(.int (125) 0),(.int (3) 0),(.int (0) 0),(.int (0) 0),(.int (3) 0),(.ref 259),(.bool true),(.int (181) 0),(.ref 260),.none,(.ref 261),(.ref 262),(.ref 263),(.int (537) 0),(.int (125) 0),(.str (.ofString "/claim/cut.py") 538)],#[]⟩) ::
  (nat_lit 265,kF (top 50) (.ofString "drawn") (.ofString "drawn") .none .none .none (.str (.ofString "kinnames.drawing") 483) none (.ref 264) .none (.type "function") none #[]) ::
  (nat_lit 271,⟨(.type "code"),none,.fields #[(.str (.ofString "first_drawn") 540),(.str (.ofString "first_drawn") 541),(.str (.ofString "/claim/cut.py") 542),(.int (130) 0),(.int (5) 0),(.int (0) 0),(.int (0) 0),(.int (3) 0),(.ref 266),(.bool true),(.int (181) 0),(.ref 267),.none,(.ref 268),(.ref 269),(.ref 270),(.int (550) 0),(.int (130) 0),(.str (.ofString "/claim/cut.py") 551)],#[]⟩) ::
  (nat_lit 272,kF (top 51) (.ofString "first_drawn") (.ofString "first_drawn") .none .none .none (.str (.ofString "kinnames.drawing") 483) none (.ref 271) .none (.type "function") none #[]) ::
  (nat_lit 278,⟨(.type "code"),none,.fields #[(.str (.ofString "drawn_fitting") 553),(.str (.ofString "drawn_fitting") 554),(.str (.ofString "/claim/cut.py") 555),(.int (136) 0),(.int (4) 0),(.int (0) 0),(.int (0) 0),(.int (3) 0),(.ref 273),(.bool true),(.int (181) 0),(.ref 274),.none,(.ref 275),(.ref 276),(.ref 277),(.int (560) 0),(.int (136) 0),(.str (.ofString "/claim/cut.py") 561)],#[]⟩) ::
  (nat_lit 279,kF (top 52) (.ofString "drawn_fitting") (.ofString "drawn_fitting") .none .none .none (.str (.ofString "kinnames.drawing") 483) none (.ref 278) .none (.type "function") none #[]) ::
  (nat_lit 285,⟨(.type "code"),none,.fields #[(.str (.ofString "numbers_for") 563),(.str (.ofString "numbers_for") 564),(.str (.ofString "/claim/cut.py") 565),(.int (142) 0),(.int (3) 0),(.int (0) 0),(.int (0) 0),(.int (3) 0),(.ref 280),(.bool true),(.int (181) 0),(.ref 281),.none,(.ref 282),(.ref 283),(.ref 284),(.int (573) 0),(.int (142) 0),(.str (.ofString "/claim/cut.py") 574)],#[]⟩) ::
  (nat_lit 286,kF (top 53) (.ofString "numbers_for") (.ofString "numbers_for") .none .none .none (.str (.ofString "kinnames.drawing") 483) none (.ref 285) .none (.type "function") none #[]) ::
  (nat_lit 292,⟨(.type "code"),none,.fields #[(.str (.ofString "_law_cell") 578),(.str (.ofString "_law_cell") 579),(.str (.ofString "/claim/cut.py") 580),(.int (154) 0),(.int (2) 0),(.int (0) 0),(.int (0) 0),(.int (3) 0),(.ref 287),(.bool true),(.int (181) 0),(.ref 288),.none,(.ref 289),(.ref 290),(.ref 291),(.int (583) 0),(.int (154) 0),(.str (.ofString "/claim/cut.py") 584)],#[]⟩) ::
  (nat_lit 293,kF (top 55) (.ofString "_law_cell") (.ofString "_law_cell") .none .none .none (.str (.ofString "law_kinnames_k42_whole_fitting") 576) none (.ref 292) .none (.type "function") none #[]) ::
  (nat_lit 299,⟨(.type "code"),none,.fields #[(.str (.ofString "_law_drawn") 586),(.str (.ofString "_law_drawn") 587),(.str (.ofString "/claim/cut.py") 588),(.int (158) 0),(.int (3) 0),(.int (0) 0),(.int (0) 0),(.int (3) 0),(.ref 294),(.bool true),(.int (181) 0),(.ref 295),.none,(.ref 296),(.ref 297),(.ref 298),(.int (593) 0),(.int (158) 0),(.str (.ofString "/claim/cut.py") 594)],#[]⟩) ::
  (nat_lit 300,kF (top 56) (.ofString "_law_drawn") (.ofString "_law_drawn") .none .none .none (.str (.ofString "law_kinnames_k42_whole_fitting") 576) none (.ref 299) .none (.type "function") none #[]) ::
  (nat_lit 304,⟨(.type "code"),none,.fields #[(.str (.ofString "_law_name") 596),(.str (.ofString "_law_name") 597),(.str (.ofString "/claim/cut.py") 598),(.int (162) 0),(.int (3) 0),(.int (0) 0),(.int (0) 0),(.int (3) 0),(.ref 301),(.bool true),(.int (181) 0),(.ref 302),.none,.none,.none,(.ref 303),(.int (599) 0),(.int (162) 0),(.str (.ofString "/claim/cut.py") 600)],#[]⟩) ::
  (nat_lit 305,kF (top 57) (.ofString "_law_name") (.ofString "_law_name") .none .none .none (.str (.ofString "law_kinnames_k42_whole_fitting") 576) none (.ref 304) .none (.type "function") none #[]) ::
  (nat_lit 311,⟨(.type "code"),none,.fields #[(.str (.ofString "_law_book") 602),(.str (.ofString "_law_book") 603),(.str (.ofString "/claim/cut.py") 604),(.int (166) 0),(.int (4) 0),(.int (0) 0),(.int (0) 0),(.int (3) 0),(.ref 306),(.bool true),(.int (181) 0),(.ref 307),.none,(.ref 308),(.ref 309),(.ref 310),(.int (611) 0),(.int (166) 0),(.str (.ofString "/claim/cut.py") 612)],#[]⟩) ::
  (nat_lit 312,kF (top 58) (.ofString "_law_book") (.ofString "_law_book") .none .none .none (.str (.ofString "law_kinnames_k42_whole_fitting") 576) none (.ref 311) .none (.type "function") none #[]) ::
  (nat_lit 318,⟨(.type "code"),none,.fields #[(.str (.ofString "_law_wish") 614),(.str (.ofString "_law_wish") 615),(.str (.ofString "/claim/cut.py") 616),(.int (171) 0),(.int (2) 0),(.int (0) 0),(.int (0) 0),(.int (3) 0),(.ref 313),(.bool true),(.int (181) 0),(.ref 314),.none,(.ref 315),(.ref 316),(.ref 317),(.int (626) 0),(.int (171) 0),(.str (.ofString "/claim/cut.py") 627)],#[]⟩) ::
  (nat_lit 319,kF (top 59) (.ofString "_law_wish") (.ofString "_law_wish") .none .none .none (.str (.ofString "law_kinnames_k42_whole_fitting") 576) none (.ref 318) .none (.type "function") none #[]) ::
  (nat_lit 325,⟨(.type "code"),none,.fields #[(.str (.ofString "_law_told") 629),(.str (.ofString "_law_told") 630),(.str (.ofString "/claim/cut.py") 631),(.int (181) 0),(.int (5) 0),(.int (0) 0),(.int (0) 0),(.int (3) 0),(.ref 320),(.bool true),(.int (181) 0),(.ref 321),.none,(.ref 322),(.ref 323),(.ref 324),(.int (637) 0),(.int (181) 0),(.str (.ofString "/claim/cut.py") 638)],#[]⟩) ::
  (nat_lit 326,kF (top 60) (.ofString "_law_told") (.ofString "_law_told") .none .none .none (.str (.ofString "law_kinnames_k42_whole_fitting") 576) none (.ref 325) .none (.type "function") none #[]) ::
  (nat_lit 330,⟨(.type "code"),none,.fields #[(.str (.ofString "law") 640),(.str (.ofString "law") 641),(.str (.ofString "/claim/cut.py") 642),(.int (186) 0),(.int (1) 0),(.int (0) 0),(.int (0) 0),(.int (3) 0),(.ref 327),(.bool true),(.int (181) 0),(.ref 328),.none,.none,.none,(.ref 329),(.int (643) 0),(.int (186) 0),(.str (.ofString "/claim/cut.py") 644)],#[]⟩) ::
  (nat_lit 331,kF (top 61) (.ofString "law") (.ofString "law") .none .none .none (.str (.ofString "law_kinnames_k42_whole_fitting") 576) none (.ref 330) .none (.type "function") none #[])::[]
def kas:List Addr:=[2,3,23,24,25,36,37,48,49,60,61,72,73,84,85,96,97,108,109,115,116,120,121,127,128,134,135,139,140,146,147,153,154,160,161,167,168,172,173,179,180,186,187,191,192,198,199,205,206,212,213,219,220,226,227,231,232,238,239,245,246,250,251,257,258,264,265,271,272,278,279,285,286,292,293,299,300,304,305,311,312,318,319,325,326,330,331]
def kq:Program:=view PySem.Challenge.pw_kinnames_k42_whole_fitting [1,2,3,4,5,6,7,8,10,11,12,13,14,15,16,17,18,19,20,21,22,23,24,26,27,28,29,30,31,32,33,34,35,36,37,38,39,40,41,43,44,45,46,47,48,49,50,51,52,53,55,56,57,58,59,60,61]
def klo:List Str:=[]
theorem kas_e:∀ P,kas=(kfr P).map (·.1):=fun _=>by kernel_rfl
noncomputable def hl0 (w:World):=(openEndsT treeTable PySem.Challenge.pw_kinnames_k42_whole_fitting w 5878).map (fun s=>(seen ((recsOf kq).map (·.name)) (ownsOf kq) [] { s with gens:=#[] },s.heap.bltView,(s.heap.keysOk (looseW kq klo) ((recsOf kq).map (·.name)) ((litsOf kq).map (·.1)) ((clssOf kq (looseW kq klo)).map (·.name)) && s.heap.accountedOkI (importedModules PySem.Challenge.pw_kinnames_k42_whole_fitting.main.body) && s.heap.isNs mainGlobals && s.heap.isNs builtinsNs && tablesOk kq s.heap && (xlAt kq [] s && recOk [] s) && (if true=true then s.gens.size == 0 else !leftWithCleanup s.gens))))
noncomputable def hr0 (w:World):=some (expectedOf kq,bltViewBooted,true)
theorem hl0_e:hl0=hl0:=rfl
theorem hr0_e:hr0=hr0:=rfl
noncomputable def hl1 (w:World):=(openEndsT treeTable PySem.Challenge.pw_kinnames_k42_whole_fitting w 5878).map (fun s=>(tabsOk kq s,pinSeenD kq (drecsOf kq) s,plainSeenE kq (looseW kq klo) s,plainSeenD kq klo s,wideSeen kq s,clsSeenW kq klo s))
noncomputable def hr1 (w:World):=some (true,pinGoodD (drecsOf kq),plainGoodE kq (looseW kq klo),plainGoodD kq klo,wideGood kq,clsGoodW kq klo)
theorem hl1_e:hl1=hl1:=rfl
theorem hr1_e:hr1=hr1:=rfl
noncomputable def hl2 (w:World):=(openEndsT treeTable PySem.Challenge.pw_kinnames_k42_whole_fitting w 5878).map (fun s=>(kas.map s.heap.get?))
noncomputable def hr2 (w:World):=some ((kfr w.params).map fun p=>some p.2)
theorem hl2_e:hl2=hl2:=rfl
theorem hr2_e:hr2=hr2:=rfl
end Kn
name_quick hl0Q for Kn.hl0 by Kn.hl0_e
name_quick hr0Q for Kn.hr0 by Kn.hr0_e
theorem Kn.hq0 (w:World):PySem.W.Fast.hl0Q w=PySem.W.Fast.hr0Q w:=by kernel_rfl
theorem Kn.hx0 (w:World):Kn.hl0 w=Kn.hr0 w:=((congrFun PySem.W.Fast.hl0Q_eq w).trans (Kn.hq0 w)).trans (congrFun PySem.W.Fast.hr0Q_eq w).symm
name_quick hl1Q for Kn.hl1 by Kn.hl1_e
name_quick hr1Q for Kn.hr1 by Kn.hr1_e
theorem Kn.hq1 (w:World):PySem.W.Fast.hl1Q w=PySem.W.Fast.hr1Q w:=by kernel_rfl
theorem Kn.hx1 (w:World):Kn.hl1 w=Kn.hr1 w:=((congrFun PySem.W.Fast.hl1Q_eq w).trans (Kn.hq1 w)).trans (congrFun PySem.W.Fast.hr1Q_eq w).symm
name_quick hl2Q for Kn.hl2 by Kn.hl2_e
name_quick hr2Q for Kn.hr2 by Kn.hr2_e
theorem Kn.hq2 (w:World):PySem.W.Fast.hl2Q w=PySem.W.Fast.hr2Q w:=by kernel_rfl
theorem Kn.hx2 (w:World):Kn.hl2 w=Kn.hr2 w:=((congrFun PySem.W.Fast.hl2Q_eq w).trans (Kn.hq2 w)).trans (congrFun PySem.W.Fast.hr2Q_eq w).symm
theorem Kn.hl:LeftO PySem.Challenge.pw_kinnames_k42_whole_fitting Kn.kq Kn.klo (fun s=>xlAt Kn.kq [] s && recOk [] s) (Hook.obs (kHook Kn.kfr Kn.kas Kn.kas_e)) (Hook.val (kHook Kn.kfr Kn.kas Kn.kas_e)) 5878:=fun w=>by
  refine Kn.openMap_of ?_
  obtain ⟨s,e,x0⟩:=Option.map_eq_some_iff.mp (Kn.hx0 w)
  have y1:=Kn.hx1 w
  unfold Kn.hl1 at y1
  rw [e] at y1
  have x1:=Option.some.inj y1
  have y2:=Kn.hx2 w
  unfold Kn.hl2 at y2
  rw [e] at y2
  have x2:=Option.some.inj y2
  obtain ⟨a1,z0_0⟩:=Prod.mk.inj x0
  obtain ⟨a2,z0_1⟩:=Prod.mk.inj z0_0
  have a3:=z0_1
  obtain ⟨a4,z1_0⟩:=Prod.mk.inj x1
  obtain ⟨a5,z1_1⟩:=Prod.mk.inj z1_0
  obtain ⟨a6,z1_2⟩:=Prod.mk.inj z1_1
  obtain ⟨a7,z1_3⟩:=Prod.mk.inj z1_2
  obtain ⟨a8,z1_4⟩:=Prod.mk.inj z1_3
  have a9:=z1_4
  have aK:=x2
  rw [e]
  exact congrArg some (looks_pair (looks_pair a1 (looks_pair a2 (looks_pair a3 (looks_pair a4 (looks_pair a5 (looks_pair a6 (looks_pair a7 (looks_pair a8 a9)))))))) aK)
end
section
namespace L2
open PySem PySem.Spec PyProof.Rows
abbrev Key:=Sum Int Str
def keyIs:Key→Value→Bool
  | .inl k,v=>Value.isInt k v
  | .inr x,v=>Value.isStrOf x v
def keyH (w:World):Key→Int
  | .inl k=>hashInt k
  | .inr x=>hashStr w x
theorem keyIs_shape:∀ {k:Key}{v:Value},keyIs k v=true→(∃ i t,k=Sum.inl i∧v=Value.int i t)∨(∃ x t,k=Sum.inr x∧v=Value.str x t)
  | .inl i,v,h=>by
    obtain ⟨t,e⟩:=Value.isInt_shape (k:=i) (v:=v) h
    exact .inl ⟨i,t,rfl,e⟩
  | .inr x,v,h=>by
    obtain ⟨t,e⟩:=Value.isStrOf_shape (x:=x) (v:=v) h
    exact .inr ⟨x,t,rfl,e⟩
theorem keyIs_int (i:Int) (t:Tok):keyIs (.inl i) (.int i t)=true:=by simp [keyIs,Value.isInt]
theorem keyIs_str (x:Str) (t:Tok):keyIs (.inr x) (.str x t)=true:=by simp [keyIs,Value.isStrOf]
theorem key_ll (a b:Int):decide ((Sum.inl a:Key)=Sum.inl b)=(a == b):=by
  by_cases e:a=b
  · subst e; simp
  · have h:¬ (Sum.inl a:Key)=Sum.inl b:=fun q=>e (Sum.inl.inj q)
    rw [decide_eq_false h]
    exact (beq_eq_false_iff_ne.mpr e).symm
theorem key_rr (a b:Str):decide ((Sum.inr a:Key)=Sum.inr b)=decide (a=b):=by
  by_cases e:a=b
  · subst e; simp
  · have h:¬ (Sum.inr a:Key)=Sum.inr b:=fun q=>e (Sum.inr.inj q)
    rw [decide_eq_false h,decide_eq_false e]
theorem key_lr (a:Int) (b:Str):decide ((Sum.inl a:Key)=Sum.inr b)=false:=decide_eq_false (fun q=>nomatch q)
theorem key_rl (a:Str) (b:Int):decide ((Sum.inr a:Key)=Sum.inl b)=false:=decide_eq_false (fun q=>nomatch q)
def mixKind (prog:Program) (w:World):PySem.KeyKind prog w Key where
  is:=keyIs
  hash:=keyH w
  inj:=fun v a b ha hb=>by
    rcases keyIs_shape ha with ⟨i,t,rfl,rfl⟩ | ⟨x,t,rfl,rfl⟩
    · rcases keyIs_shape hb with ⟨j,u,rfl,e⟩ | ⟨y,u,rfl,e⟩
      · injection e with e1 _; rw [e1]
      · exact nomatch e
    · rcases keyIs_shape hb with ⟨j,u,rfl,e⟩ | ⟨y,u,rfl,e⟩
      · exact nomatch e
      · injection e with e1 _; rw [e1]
  byValue:=fun k v h=>by
    rcases keyIs_shape h with ⟨i,t,rfl,rfl⟩ | ⟨x,t,rfl,rfl⟩ <;> rfl
  pyHash:=fun hv h=>by
    rcases keyIs_shape hv with ⟨i,t,rfl,rfl⟩ | ⟨x,t,rfl,rfl⟩
    · exact wpAny_pyHash_int h
    · exact wpAny_pyHash_str h
  eqBool:=fun hu hv h=>by
    rcases keyIs_shape hu with ⟨i,t,rfl,rfl⟩ | ⟨x,t,rfl,rfl⟩
    · rcases keyIs_shape hv with ⟨j,u,rfl,rfl⟩ | ⟨y,u,rfl,rfl⟩
      · rw [key_ll] at h; exact wpAny_eqBool_int h
      · rw [key_lr] at h; exact SeqAt.EqAt.int_str i t y u _ _ _ _ h
    · rcases keyIs_shape hv with ⟨j,u,rfl,rfl⟩ | ⟨y,u,rfl,rfl⟩
      · rw [key_rl] at h; exact SeqAt.EqAt.str_int x t j u _ _ _ _ h
      · rw [key_rr] at h; exact wpAny_eqBool_str h
  «strs»:=fun k x t v h=>by
    rcases keyIs_shape h with ⟨i,u,rfl,e⟩ | ⟨y,u,rfl,e⟩
    · exact nomatch e
    · injection e with e1 _
      subst e1
      cases v <;> rfl
abbrev TKey:=Sum Str Bool
def tkIs:TKey→Value→Bool
  | .inl x,v=>Value.isStrOf x v
  | .inr b,v=>v == Value.bool b
theorem tkIs_shape:∀ {k:TKey}{v:Value},tkIs k v=true→(∃ x t,k=Sum.inl x∧v=Value.str x t)∨(∃ b,k=Sum.inr b∧v=Value.bool b)
  | .inl x,v,h=>by
    obtain ⟨t,e⟩:=Value.isStrOf_shape (x:=x) (v:=v) h
    exact .inl ⟨x,t,rfl,e⟩
  | .inr b,v,h=>.inr ⟨b,rfl,eq_of_beq h⟩
def tkH (w:World):TKey→Int
  | .inl x=>hashStr w x
  | .inr b=>reduceHash (if b then 1 else 0)
theorem tk_hash {prog:Program}{w:World}{A:Around}{E:Value→Shared→Prop}{s:Shared}{b:Bool}{Q:Int→Shared→Prop} (h:Q (reduceHash (if b then 1 else 0)) { s with toks:=s.toks+1 }) :
    wpAny (model prog w) A (pyHash (.bool b)) Q E s:=by
  refine PySem.W.pyHash_slot (T := "bool") rfl F.slot_bool_hash F.entry_int_hash (F.args_int_hash_1 _) (by decide) (.inl (by cases b <;> rfl)) ?_
  unfold Builtin.«int.__hash__»
  cases b
  · wp_walk
    exact ⟨_,_,rfl,h⟩
  · wp_walk
    exact ⟨_,_,rfl,h⟩
def tkKind (prog:Program) (w:World):PySem.KeyKind prog w TKey where
  is:=tkIs
  hash:=tkH w
  inj:=fun v a b ha hb=>by
    rcases tkIs_shape ha with ⟨x,t,rfl,rfl⟩ | ⟨c,rfl,rfl⟩
    · rcases tkIs_shape hb with ⟨y,u,rfl,e⟩ | ⟨d,rfl,e⟩
      · injection e with e1 _; rw [e1]
      · exact nomatch e
    · rcases tkIs_shape hb with ⟨y,u,rfl,e⟩ | ⟨d,rfl,e⟩
      · exact nomatch e
      · injection e with e1; rw [e1]
  byValue:=fun k v h=>by
    rcases tkIs_shape h with ⟨x,t,rfl,rfl⟩ | ⟨c,rfl,rfl⟩ <;> rfl
  pyHash:=fun hv h=>by
    rcases tkIs_shape hv with ⟨x,t,rfl,rfl⟩ | ⟨c,rfl,rfl⟩
    · exact wpAny_pyHash_str h
    · exact tk_hash h
  eqBool:=fun hu hv h=>by
    rcases tkIs_shape hu with ⟨x,t,rfl,rfl⟩ | ⟨c,rfl,rfl⟩
    · rcases tkIs_shape hv with ⟨y,u,rfl,rfl⟩ | ⟨d,rfl,rfl⟩
      · have e:decide ((Sum.inl x:TKey)=Sum.inl y)=decide (x=y):=by
          by_cases q:x=y
          · subst q; simp
          · rw [decide_eq_false q,decide_eq_false fun z=>q (Sum.inl.inj z)]
        rw [e] at h; exact wpAny_eqBool_str h
      · rw [decide_eq_false (fun q=>nomatch q)] at h; exact SeqAt.EqAt.str_bool x t d _ _ _ _ h
    · rcases tkIs_shape hv with ⟨y,u,rfl,rfl⟩ | ⟨d,rfl,rfl⟩
      · rw [decide_eq_false (fun q=>nomatch q)] at h; exact SeqAt.EqAt.bool_str c y u _ _ _ _ h
      · refine SeqAt.EqAt.bool_bool c d _ _ _ _ ?_
        have e:decide ((Sum.inr c:TKey)=Sum.inr d)=(c == d):=by cases c <;> cases d <;> rfl
        rw [← e]; exact h
  «strs»:=fun k x t v h=>by
    rcases tkIs_shape h with ⟨y,u,rfl,e⟩ | ⟨d,rfl,e⟩
    · injection e with e1 _
      subst e1
      cases v <;> rfl
    · exact nomatch e
theorem mixKind_is (prog:Program) (w:World) (k:Key) (v:Value):(mixKind prog w).is k v=keyIs k v:=rfl
theorem mixKind_int (prog:Program) (w:World) (i:Int) (t:Tok):(mixKind prog w).is (.inl i) (.int i t)=true:=keyIs_int i t
theorem mixKind_str (prog:Program) (w:World) (x:Str) (t:Tok):(mixKind prog w).is (.inr x) (.str x t)=true:=keyIs_str x t
end L2
namespace L2
open PySem PySem.Spec PyProof.Rows
inductive V where
  | non | bl (b:Bool) | int (i:Int) | str (x:Str) | byt (b:Array UInt8) | flt (b:UInt64) | ref (a:Addr) | ty (n:String)
  deriving DecidableEq
def RelV:V→Value→Prop
  | .non,u=>u=Value.none
  | .bl b,u=>u=Value.bool b
  | .int i,u=>∃ t,u=Value.int i t
  | .str x,u=>∃ t,u=Value.str x t
  | .byt b,u=>∃ t,u=Value.bytes b t
  | .flt b,u=>∃ t,u=Value.float b t
  | .ref a,u=>u=Value.ref a
  | .ty n,u=>u=Value.type n
abbrev Vals:List V→List Value→Prop:=Paired RelV
theorem Vals.length {xs:List V}{us:List Value} (r:Vals xs us):xs.length=us.length:=Paired.length r
theorem Vals.get:∀ {xs:List V}{us:List Value}{i:Nat}{x:V},Vals xs us→xs[i]?=some x→∃ u,us[i]?=some u∧RelV x u
  | _,_,_,_,.nil,e=>by simp at e
  | _,_,0,_,.cons r _,e=>by simp at e; subst e; exact ⟨_,rfl,r⟩
  | _,_,i+1,x,.cons _ t,e=>by
    obtain ⟨u,h1,h2⟩:=Vals.get (i:=i) (x:=x) t (by simpa using e)
    exact ⟨u,by simpa using h1,h2⟩
theorem Vals.set {x:V}{u:Value} (r:RelV x u):∀ {xs:List V}{us:List Value} (i:Nat),Vals xs us→Vals (xs.set i x) (us.set i u)
  | _,_,_,.nil=>.nil
  | _,_,0,.cons _ t=>.cons r t
  | _,_,i+1,.cons q t=>.cons q (Vals.set r i t)
theorem Vals.append:∀ {xs ys:List V}{us ws:List Value},Vals xs us→Vals ys ws→Vals (xs++ys) (us++ws)
  | _,_,_,_,.nil,s=>s
  | _,_,_,_,.cons r t,s=>.cons r (Vals.append t s)
theorem Vals.take:∀ {xs:List V}{us:List Value} (n:Nat),Vals xs us→Vals (xs.take n) (us.take n)
  | _,_,0,_=>.nil
  | _,_,_+1,.nil=>.nil
  | _,_,n+1,.cons r t=>.cons r (Vals.take n t)
theorem Vals.drop:∀ {xs:List V}{us:List Value} (n:Nat),Vals xs us→Vals (xs.drop n) (us.drop n)
  | _,_,0,r=>r
  | _,_,_+1,.nil=>.nil
  | _,_,n+1,.cons _ t=>Vals.drop n t
def RelO:Option V→Option Value→Prop
  | some v,some u=>RelV v u
  | none,none=>True
  | _,_=>False
def KV {κ:Type}:List (κ × V)→List (κ × Value)→Prop:=Paired fun (p:κ × V) (q:κ × Value)=>p.1=q.1∧RelV p.2 q.2
def kV:Key→V
  | .inl i=>.int i
  | .inr x=>.str x
def tkV:TKey→V
  | .inl x=>.str x
  | .inr b=>.bl b
inductive HO where
  | lst (xs:List V)
  | tup (xs:List V)
  | dK (kvs:List (Key × V)) | dT (kvs:List (List TKey × V))
  | set (S:Int→Bool) (n:Nat)
  | ins (C dx:Addr) (fs:List (Str × V))
  | own (x:Addr)
  | xd (fs:List (Str × V))
  | met (f x:Addr)
  | rng (lo hi:Int)
  | frz (o:Obj) (u:HO)
  | tbl (ps:Array Value)
  | ext (φ:Heap→Prop)
abbrev Hp:=Addr→Option HO
def upd (H:Hp) (a:Addr) (o:HO):Hp:=fun b=>if b=a then some o else H b
theorem upd_same {H:Hp}{a:Addr}{o:HO}:upd H a o a=some o:=by unfold upd; rw [if_pos rfl]
theorem upd_ne {H:Hp}{a b:Addr}{o:HO} (h:b≠a):upd H a o b=H b:=by unfold upd; rw [if_neg h]
theorem ne_of {H:Hp}{a b:Addr}{o u:HO} (h:H a=some o) (h':H b=some u) (d:o≠u):a≠b:=by
  intro e; subst e; rw [h] at h'; exact d (Option.some.inj h')
theorem ne_of_none {H:Hp}{a b:Addr}{o:HO} (h:H a=some o) (h':H b=none):a≠b:=by
  intro e; subst e; rw [h] at h'; cases h'
section
variable (P:Program) (w:World)
def ObjOk (H:Hp) (h:Heap) (a:Addr):HO→Prop
  | .lst xs=>xs.length≤sizeLine∧∃ (its:List Value) (n:Nat),Vals xs its∧h.get? a=some { cls:=.type "list",data:=.seq its.toArray n }
  | .tup xs=>xs.length≤sizeLine∧∃ its:List Value,Vals xs its∧IsTup h a its.toArray
  | .dK kvs=>kvs.length≤sizeLine∧(a == sysModules)=false∧∃ vs,KV kvs vs∧h.DictOf (mixKind P w) a vs
  | .dT kvs=>kvs.length≤sizeLine∧(a == sysModules)=false∧∃ xs:List (List TKey × Addr × Value),
      Paired (fun (p:List TKey × V) (q:List TKey × Addr × Value)=>p.1=q.1∧H q.2.1=some (.tup (p.1.map tkV))∧RelV p.2 q.2.2) kvs xs ∧
      ∃ o es ep,h.get? a=some o∧o.ExactDict∧o.data=.dict es ep∧es.toList=xs.map (entryOfKey (tupleKind (tkKind P w)))∧(xs.map (·.1)).Nodup
  | .set S n=>h.SetOf (intKind P w) a S n
  | .ins C dx fs=>H dx=some (.own a)∧fs.length≤1000∧dx≠a∧h.get? a=some (PySem.W.instObj C dx) ∧
      ∃ mA,h.Ns1 dx mA∧(∀ f,RelO (fs.lookup f) (mA f))∧PySem.Within mA (fs.map (·.1))
  | .own _=>∃ o,h.get? a=some o
  | .xd fs=>∃ mA,h.Ns1 a mA∧∀ f,RelO (fs.lookup f) (mA f)
  | .rng lo hi=>∃ t u v,h.get? a=some { cls:=.type "range",data:=.fields #[.int lo t,.int hi u,.int 1 v] }
  | .frz o u=>h.get? a=some o∧ObjOk H h a u
  | .tbl ps=>h.get? a=some { cls:=.none,data:=.fields ps }
  | .met f x=>h.get? a=some (PySem.W.methodObj (.ref f) (.ref x))
  | .ext φ=>φ h∧(∃ o,h.get? a=some o)∧∀ h1 h2:Heap,φ h1→(∀ o,h1.get? a=some o→h2.get? a=some o)→φ h2
def HOk (H:Hp) (h:Heap):Prop:=∀ a o,H a=some o→ObjOk P w H h a o
end
section
variable {P:Program}{w:World}{H H':Hp}{h h':Heap}{a:Addr}{o:HO}
theorem ObjOk.lt (x:ObjOk P w H h a o):a < h.objs.size:=by
  cases o with
  | lst xs=>obtain ⟨_,_,_,_,e⟩:=x; exact Heap.lt_size e
  | tup xs=>obtain ⟨_,_,_,p⟩:=x; exact p.lt
  | dK kvs=>obtain ⟨_,_,_,_,o,_,_,e,_⟩:=x; exact Heap.lt_size e
  | dT kvs=>obtain ⟨_,_,_,_,o,_,_,e,_⟩:=x; exact Heap.lt_size e
  | set S n=>obtain ⟨o,_,_,_,e,_⟩:=x; exact Heap.lt_size e
  | ins C dx fs=>obtain ⟨_,_,_,e,_⟩:=x; exact Heap.lt_size e
  | own y=>obtain ⟨_,e⟩:=x; exact Heap.lt_size e
  | xd fs=>obtain ⟨_,⟨_,_,_,e,_⟩,_⟩:=x; exact Heap.lt_size e
  | rng lo hi=>obtain ⟨_,_,_,e⟩:=x; exact Heap.lt_size e
  | frz ob u=>obtain ⟨e,_⟩:=x; exact Heap.lt_size e
  | tbl ps=>exact Heap.lt_size (show h.get? a=some _ from x)
  | met f y=>exact Heap.lt_size (show h.get? a=some _ from x)
  | ext φ=>obtain ⟨_,⟨_,e⟩,_⟩:=x; exact Heap.lt_size e
theorem Paired.mapP {α β:Type}{F G:α→β→Prop}:∀ {l₁:List α}{l₂:List β},Paired F l₁ l₂→(∀ a b,F a b→G a b)→Paired G l₁ l₂
  | _,_,.nil,_=>.nil
  | _,_,.cons r t,f=>.cons (f _ _ r) (Paired.mapP t f)
theorem ObjOk.stay (x:ObjOk P w H h a o) (k:∀ b u,(b=a∨H b=some (.own a))→h.get? b=some u→h'.get? b=some u)
    (ho:∀ b,H b=some (.own a)→H' b=some (.own a)) (ht:∀ b xs,H b=some (.tup xs)→H' b=some (.tup xs)):ObjOk P w H' h' a o:=by
  induction o with
  | lst xs=>obtain ⟨z,its,n,r,e⟩:=x; exact ⟨z,its,n,r,k _ _ (.inl rfl) e⟩
  | tup xs=>obtain ⟨z,its,r,ob,e,c⟩:=x; exact ⟨z,its,r,ob,k _ _ (.inl rfl) e,c⟩
  | dK kvs=>obtain ⟨z,y,vs,r,ob,es,ep,e,c⟩:=x; exact ⟨z,y,vs,r,ob,es,ep,k _ _ (.inl rfl) e,c⟩
  | dT kvs =>
    obtain ⟨z,y,xs,r,ob,es,ep,e,c⟩:=x
    exact ⟨z,y,xs,Paired.mapP r fun p q z=>⟨z.1,ht _ _ z.2.1,z.2.2⟩,ob,es,ep,k _ _ (.inl rfl) e,c⟩
  | set S n=>obtain ⟨ob,es,ep,t,e,c⟩:=x; exact ⟨ob,es,ep,t,k _ _ (.inl rfl) e,c⟩
  | ins C dx fs =>
    obtain ⟨d,z,ne,e,mA,⟨od,es,ep,e2,c⟩,r⟩:=x
    exact ⟨ho _ d,z,ne,k _ _ (.inl rfl) e,mA,⟨od,es,ep,k _ _ (.inr d) e2,c⟩,r⟩
  | own y=>obtain ⟨ob,e⟩:=x; exact ⟨ob,k _ _ (.inl rfl) e⟩
  | xd fs=>obtain ⟨mA,⟨od,es,ep,e,c⟩,r⟩:=x; exact ⟨mA,⟨od,es,ep,k _ _ (.inl rfl) e,c⟩,r⟩
  | rng lo hi=>obtain ⟨t,u,v,e⟩:=x; exact ⟨t,u,v,k _ _ (.inl rfl) e⟩
  | frz ob u ih=>obtain ⟨e,q⟩:=x; exact ⟨k _ _ (.inl rfl) e,ih q⟩
  | tbl ps =>
    have e:h.get? a=some { cls:=.none,data:=.fields ps }:=x
    show h'.get? a=some { cls:=.none,data:=.fields ps }
    exact k a _ (.inl rfl) e
  | met f y =>
    have e:h.get? a=some (PySem.W.methodObj (.ref f) (.ref y)):=x
    show h'.get? a=some (PySem.W.methodObj (.ref f) (.ref y))
    exact k a _ (.inl rfl) e
  | ext φ=>obtain ⟨p,⟨o,e⟩,st⟩:=x; exact ⟨st _ _ p fun o q=>k _ _ (.inl rfl) q,⟨o,k _ _ (.inl rfl) e⟩,st⟩
theorem HOk.lt (x:HOk P w H h) (e:H a=some o):a < h.objs.size:=(x a o e).lt
theorem HOk.fresh (x:HOk P w H h) (e:h.objs.size≤a):H a=none:=by
  cases q:H a with
  | none=>rfl
  | some u=>exact absurd (Nat.lt_of_lt_of_le (x.lt q) e) (Nat.lt_irrefl _)
theorem HOk.kept (x:HOk P w H h) (k:∀ b u,h.get? b=some u→h'.get? b=some u):HOk P w H h':=fun a o e =>
  (x a o e).stay (fun b u _ q=>k b u q) (fun _ q=>q) fun _ _ q=>q
theorem HOk.laid (x:HOk P w H h) (k:∀ b u,h.get? b=some u→h'.get? b=some u) (hp:h.objs.size≤a) (new:ObjOk P w (upd H a o) h' a o):HOk P w (upd H a o) h':=fun b u e=>by
  have hn:=x.fresh hp
  by_cases hb:b=a
  · subst hb; rw [upd_same] at e; cases e; exact new
  · rw [upd_ne hb] at e
    exact (x b u e).stay (fun c v _ q=>k c v q) (fun c q=>by rw [upd_ne (ne_of_none q hn)]; exact q) fun c xs q=>by rw [upd_ne (ne_of_none q hn)]; exact q
end
def Rd (H:Hp) (a:Addr) (u:HO):Prop:=H a=some u∨∃ o,H a=some (.frz o u)
theorem Rd.ok {P:Program}{w:World}{H:Hp}{h:Heap}{a:Addr}{u:HO} (r:Rd H a u) (x:HOk P w H h):ObjOk P w H h a u:=by
  rcases r with r | ⟨o,r⟩
  · exact x a u r
  · obtain ⟨_,q⟩:=x a _ r
    exact q
def Mut:Option HO→Prop
  | some (.lst _)=>True
  | some (.dK _)=>True
  | some (.dT _)=>True
  | some (.set _ _)=>True
  | some (.ins _ _ _)=>True
  | some (.ext _)=>True
  | _=>False
section
variable {P:Program}{w:World}{H:Hp}{h h':Heap}{x e:Addr}{o':HO}
theorem HOk.write (ok:HOk P w H h) (mu:Mut (H x)) (he:e=x∨H e=some (.own x)) (k:∀ b u,b≠e→h.get? b=some u→h'.get? b=some u) (heo:∃ u,h'.get? e=some u)
    (new:ObjOk P w (upd H x o') h' x o'):HOk P w (upd H x o') h':=fun b u q=>by
  have nown:∀ c y,H c=some (.own y)→c≠x:=fun c y r z=>by subst z; rw [r] at mu; exact mu
  have ntup:∀ c xs,H c=some (.tup xs)→c≠x:=fun c xs r z=>by subst z; rw [r] at mu; exact mu
  by_cases hb:b=x
  · subst hb; rw [upd_same] at q; cases q; exact new
  · rw [upd_ne hb] at q
    by_cases hbe:b=e
    · have q':H b=some (.own x):=by
        rcases he with z | z
        · exact absurd (hbe.trans z) hb
        · rw [hbe]; exact z
      rw [q] at q'; cases q'
      obtain ⟨v,hv⟩:=heo
      exact ⟨v,by rw [hbe]; exact hv⟩
    · refine (ok b u q).stay (fun c v hc r=>k c v ?_ r) (fun c r=>by rw [upd_ne (nown c b r)]; exact r) fun c xs r=>by rw [upd_ne (ntup c xs r)]; exact r
      rcases hc with rfl | hc
      · exact hbe
      · rintro rfl
        rcases he with z | z
        · exact nown c b hc z
        · rw [hc] at z; cases z; exact hb rfl
end
structure Un (fs ex:List Addr) (H H':Hp) (h h':Heap):Prop where
  keep:∀ b o,h.get? b=some o→H b=none→b ∉ fs→b ∉ ex→h'.get? b=some o
  slot:∀ b o,h.get? b=some o→H b=none→b∈fs→b ∉ ex→∃ sl,h'.get? b=some { o with slots:=sl }
  free:∀ b o,h.get? b=some o→H b=none→b ∉ ex→H' b=none
  there:∀ b o,h.get? b=some o→b ∉ ex→∃ o',h'.get? b=some o'
  tups:∀ b xs,H b=some (.tup xs)→H' b=some (.tup xs)
  frzs:∀ b o u,H b=some (.frz o u)→H' b=some (.frz o u)
  tbls:∀ b ps,H b=some (.tbl ps)→∃ more,H' b=some (.tbl (ps++more))
section
variable {fs fs' ex ex':List Addr}{H H1 H2:Hp}{h h1 h2 h':Heap}{a x e:Addr}{o:HO}
theorem Un.any (u:Un fs ex H H1 h h1) {b:Addr}{ob:Obj} (q:h.get? b=some ob) (n:H b=none) (hx:b ∉ ex):∃ sl,h1.get? b=some { ob with slots:=sl }:=by
  by_cases hb:b∈fs
  · exact u.slot b ob q n hb hx
  · exact ⟨ob.slots,u.keep b ob q n hb hx⟩
theorem Un.kept (k:∀ b u,h.get? b=some u→h'.get? b=some u):Un fs ex H H h h' :=
  ⟨fun b ob q _ _ _=>k b ob q,fun b ob q _ _ _=>⟨ob.slots,k b ob q⟩,fun _ _ _ n _=>n,fun b ob q _=>⟨ob,k b ob q⟩,fun _ _ q=>q,fun _ _ _ q=>q,fun _ ps q=>⟨#[],by rw [q]; simp⟩⟩
theorem Un.refl:Un fs ex H H h h:=Un.kept fun _ _ q=>q
theorem Un.laid (k:∀ b u,h.get? b=some u→h'.get? b=some u) (hp:h.objs.size≤a) (hn:H a=none):Un fs ex H (upd H a o) h h' where
  keep:=fun b u q _ _ _=>k b u q
  slot:=fun b u q _ _ _=>⟨u.slots,k b u q⟩
  free:=fun b u q n _=>by rw [upd_ne (Nat.ne_of_lt (Nat.lt_of_lt_of_le (Heap.lt_size q) hp))]; exact n
  there:=fun b u q _=>⟨u,k b u q⟩
  tups:=fun b xs q=>by rw [upd_ne (ne_of_none q hn)]; exact q
  frzs:=fun b u xs q=>by rw [upd_ne (ne_of_none q hn)]; exact q
  tbls:=fun b ps q=>⟨#[],by rw [upd_ne (ne_of_none q hn),q]; simp⟩
theorem Un.write (mu:Mut (H x)) (he:e=x∨H e=some (.own x)) (k:∀ b u,b≠e→h.get? b=some u→h'.get? b=some u) (heo:∃ u,h'.get? e=some u):Un fs ex H (upd H x o) h h':=by
  have hx:∀ b,H b=none→b≠x:=fun b n z=>by subst z; rw [n] at mu; exact mu
  have hb:∀ b,H b=none→b≠e:=fun b n z=>by
    subst z
    rcases he with r | r
    · exact hx b n r
    · rw [n] at r; cases r
  have hm:∀ b u,H b=some u→¬ Mut (some u)→b≠x:=fun b u q nm z=>by subst z; rw [q] at mu; exact nm mu
  refine ⟨fun b u q n _ _=>k b u (hb b n) q,fun b u q n _ _=>⟨u.slots,k b u (hb b n) q⟩,fun b u q n _=>by rw [upd_ne (hx b n)]; exact n,fun b u q _=>?_,
    fun b xs q=>by rw [upd_ne (hm b _ q fun z=>z)]; exact q,fun b u xs q=>by rw [upd_ne (hm b _ q fun z=>z)]; exact q,fun b ps q=>⟨#[],by rw [upd_ne (hm b _ q fun z=>z),q]; simp⟩⟩
  by_cases hbe:b=e
  · subst hbe; exact heo
  · exact ⟨u,k b u hbe q⟩
end
def trk (h:Heap) (H:Hp):List Addr:=(List.range h.objs.size).filter fun a=>(H a).isSome
def hidT (h:Heap) (H:Hp):Heap:=PySem.W.hideAll h (trk h H)
theorem hidT_size (h:Heap) (H:Hp):(hidT h H).objs.size=h.objs.size:=PySem.W.hideAll_size _ _
theorem hidT_get {h:Heap}{H:Hp}{b:Addr}{o:Obj} (e:h.get? b=some o) (n:H b=none):(hidT h H).get? b=some o :=
  PySem.W.hideAll_get _ e fun hm=>by
    have q:(H b).isSome=true:=(List.mem_filter.mp hm).2
    rw [n] at q; simp at q
theorem of_hidT {h:Heap}{H:Hp}{b:Addr}{o:Obj} (e:(hidT h H).get? b=some o):h.get? b=some o∧H b=none:=by
  have e':h.get? b=some o:=PySem.W.of_hideAll (trk h H) e
  refine ⟨e',?_⟩
  cases q:H b with
  | none=>rfl
  | some x =>
    have hm:b∈trk h H:=List.mem_filter.mpr ⟨List.mem_range.mpr (Heap.lt_size e'),by simp [q]⟩
    have z:(hidT h H).get? b=none:=PySem.W.hideAll_none (trk h H) hm
    rw [z] at e; cases e
def allNews (g h:Heap) (L:Addr):List (Addr × Obj):=(List.range h.objs.size).filterMap fun a=>if a=L∨(g.get? a).isSome=true then none else (h.get? a).map fun o=>(a,o)
def rest (g h:Heap) (L d:Addr):List (Addr × Obj):=(allNews g h L).filter fun p=>decide (p.1≠d)
end L2
namespace L2
open PySem PySem.Spec PyProof.Rows
structure Mod (K:PySem.W.Frag) (mg:Str→Option Value) (base:Heap):Prop where
  kin:K.In base
  glob:base.Ns mainGlobals mg
  blt:∃ mb,base.Ns builtinsNs mb∧∀ x:Str,x ≠ "__name__" → mb x=bootBuiltins x
  nolimit:base.NoLimit
structure Cx where
  prog:Program
  w:World
  K:PySem.W.Frag
  mg:Str→Option Value
  base:Heap
  A:Around
  N:List Str
  s₀:Shared
  H₀:Hp
  env:Env
  outer:List Env
  stack:List Env
  ex:List Addr
  fn:Str→Bool
  calm:Bool
  pn:List (Addr × Obj)
  xe:Value→Shared→Prop
def frs (l:List Env):List Addr:=l.filterMap (·.frame)
abbrev Cx.fs (X:Cx):List Addr:=frs X.outer
def Vis (sc:Scope) (x:Str):Prop:=sc.names.lookup x=some .local∨sc.names.lookup x=some .cell∨sc.names.lookup x=some .free
def Loc (sc:Scope) (x:Str):Prop:=sc.names.lookup x=some .local∨sc.names.lookup x=some .cell
def Look (env:Env) (h:Heap) (m:Str→Option Value) (x:Str) (u:Value):Prop :=
  (env.kindOf x=some .local∧m x=some u)∨((env.kindOf x=some .cell∨env.kindOf x=some .free)∧∃ c,env.cells.lookup x=some c∧h.IsCell c (some u))
structure Cx.Ok (X:Cx):Prop where
  mod:Mod X.K X.mg X.base
  kind:X.env.scope.kind=.function
  glob:X.env.globals=mainGlobals
  blt:X.env.builtins=builtinsNs
  above:X.s₀.heap.objs.size≤X.env.locals
  inj:∀ x y c,X.env.cells.lookup x=some c→X.env.cells.lookup y=some c→x=y
  has:∀ x,(X.env.kindOf x=some .cell∨X.env.kindOf x=some .free)→∃ c,X.env.cells.lookup x=some c
  cab:∀ x c,X.fn x=true→X.env.cells.lookup x=some c→X.s₀.heap.objs.size≤c
  hd:X.calm=true→X.A.handled=none
  frames:X.A.frames=some X.stack
  stk:X.stack=X.outer∨(X.stack=X.env::X.outer∧X.env.frame=some X.env.locals)
  exf:∀ b∈X.ex,b≠X.env.locals∧∀ x c,X.env.cells.lookup x=some c→c≠b
  bs:∀ b o,X.base.get? b=some o→X.s₀.heap.get? b=some o∧X.H₀ b=none
  bsz:X.base.objs.size≤X.s₀.heap.objs.size
  noex:∀ b o,X.base.get? b=some o→b ∉ X.ex
  exfs:∀ b∈X.ex,b ∉ X.fs
  funs:X.s₀.heap.FunFrames X.base X.outer
  frf:∀ b∈X.fs,X.H₀ b=none
structure Inv (X:Cx) (pins:List (Addr × Obj)) (σ:List (Option V)) (H:Hp) (s:Shared):Prop where
  ok:X.Ok
  os:s.os=X.s₀.os
  bare:AllBare s.gens
  base:Un X.fs X.ex X.H₀ H X.s₀.heap s.heap
  loc:∃ m,s.heap.Ns X.env.locals m∧∀ (i:Nat) (x:Str) (v:V),X.N[i]?=some x→σ[i]?=some (some v)→Vis X.env.scope x→∃ u,RelV v u∧Look X.env s.heap m x u
  cell:∀ x c,X.env.cells.lookup x=some c→∃ v,s.heap.IsCell c v
  free:H X.env.locals=none
  freeC:∀ x c,X.env.cells.lookup x=some c→H c=none
  pin:∀ p∈X.pn++pins,s.heap.get? p.1=some p.2∧H p.1=none∧p.1≠X.env.locals∧p.1 ∉ X.fs∧∀ v,p.2.data≠.cell v
  hok:HOk X.prog X.w H s.heap
  len:σ.length=X.N.length
section
variable {X:Cx}{pins:List (Addr × Obj)}{σ:List (Option V)}{H H':Hp}{s:Shared}{h':Heap}
theorem Cx.Ok.nofr (ok:X.Ok) {b:Addr}{o:Obj} (e:X.base.get? b=some o):b ∉ X.fs:=fun hb=>by
  have:=(ok.funs.mem hb).1
  rw [e] at this; cases this
theorem Inv.bs (I:Inv X pins σ H s):∀ b o,X.base.get? b=some o→s.heap.get? b=some o∧H b=none:=fun b o e =>
  ⟨I.base.keep b o (I.ok.bs b o e).1 (I.ok.bs b o e).2 (I.ok.nofr e) (I.ok.noex b o e),I.base.free b o (I.ok.bs b o e).1 (I.ok.bs b o e).2 (I.ok.noex b o e)⟩
theorem Inv.bk (I:Inv X pins σ H s):∀ b o,X.base.get? b=some o→s.heap.get? b=some o:=fun b o e=>(I.bs b o e).1
theorem Inv.mod (I:Inv X pins σ H s):Mod X.K X.mg X.base:=I.ok.mod
theorem Inv.kIn (I:Inv X pins σ H s):X.K.In s.heap:=I.ok.mod.kin.keeps I.bk
theorem Inv.nolimit (I:Inv X pins σ H s):s.heap.NoLimit:=I.ok.mod.nolimit.keeps I.bk
theorem Inv.fr (I:Inv X pins σ H s):∃ m,Fr X.base X.env.locals s.heap m :=
  let ⟨m,hn,_⟩:=I.loc
  ⟨m,hn,I.bk,Nat.le_trans I.ok.bsz I.ok.above⟩
theorem Inv.lt (I:Inv X pins σ H s):X.env.locals < s.heap.objs.size:=let ⟨_,hn,_⟩:=I.loc; hn.lt
theorem Inv.sz (I:Inv X pins σ H s):X.s₀.heap.objs.size≤s.heap.objs.size:=Nat.le_trans I.ok.above (Nat.le_of_lt I.lt)
theorem Inv.nofs (I:Inv X pins σ H s) {a:Addr} (h:s.heap.objs.size≤a):a ∉ X.fs:=fun hb=>by
  obtain ⟨_,o,ho,_⟩:=I.ok.funs.mem hb
  exact absurd (Nat.lt_of_lt_of_le (Heap.lt_size ho) (Nat.le_trans I.sz h)) (Nat.lt_irrefl _)
theorem Inv.cne (I:Inv X pins σ H s):∀ x c,X.env.cells.lookup x=some c→c≠X.env.locals:=fun x c e z=>by
  obtain ⟨v,o,ho,hd⟩:=I.cell x c e
  obtain ⟨m,⟨o',es,ep,ho',hd',_⟩,_⟩:=I.loc
  rw [z,ho'] at ho; cases ho; rw [hd'] at hd; cases hd
theorem Inv.funs (I:Inv X pins σ H s):s.heap.FunFrames X.base X.outer:=by
  have all:∀ (l:List Env),(∀ b∈frs l,b∈X.fs)→X.s₀.heap.FunFrames X.base l→s.heap.FunFrames X.base l:=by
    intro l
    induction l with
    | nil=>intro _ _; trivial
    | cons env r ih =>
      intro hs hl
      obtain ⟨hk,⟨L,o,hf,hn,ho,hd⟩,hr⟩:=hl
      have hL:L∈X.fs:=hs L (by unfold frs; rw [List.filterMap_cons,hf]; exact List.mem_cons_self)
      obtain ⟨sl,e⟩:=I.base.slot L o ho (I.ok.frf L hL) hL fun z=>I.ok.exfs L z hL
      exact ⟨hk,⟨L,_,hf,hn,e,hd⟩,ih (fun b hb=>hs b (by unfold frs; rw [List.filterMap_cons,hf]; exact List.mem_cons_of_mem _ hb)) hr⟩
  exact all X.outer (fun _ hb=>hb) I.ok.funs
theorem Inv.stack (I:Inv X pins σ H s):s.heap.FunFrames X.base X.stack:=by
  rcases I.ok.stk with e | ⟨e,hf⟩
  · rw [e]; exact I.funs
  · rw [e]
    obtain ⟨m,hn,_⟩:=I.loc
    refine .cons (by rw [I.ok.kind]; decide) hf hn ?_ I.funs
    exact Heap.get?_none_of_le (Nat.le_trans I.ok.bsz I.ok.above)
theorem Inv.stkSub (I:Inv X pins σ H s):∀ b∈frs X.stack,b∈X.env.locals::X.fs:=fun b hb=>by
  rcases I.ok.stk with e | ⟨e,hf⟩
  · rw [e] at hb; exact List.mem_cons_of_mem _ hb
  · rw [e] at hb
    unfold frs at hb
    rw [List.filterMap_cons,hf] at hb
    exact hb
theorem Inv.stkFree (I:Inv X pins σ H s):∀ b∈frs X.stack,H b=none:=fun b hb=>by
  rcases List.mem_cons.mp (I.stkSub b hb) with e | hb
  · rw [e]; exact I.free
  · obtain ⟨_,o,ho,_⟩:=I.ok.funs.mem hb
    exact I.base.free b o ho (I.ok.frf b hb) fun z=>I.ok.exfs b z hb
theorem Inv.step {g':Array GenState}{t':Nat}{d':Drawn}{ch:List Addr} (I:Inv X pins σ H s)
    (hch:∀ b∈ch,(b∈X.ex∨X.s₀.heap.objs.size≤b)∧b≠X.env.locals∧(∀ x c,X.env.cells.lookup x=some c→c≠b)∧∀ p∈X.pn++pins,p.1≠b)
    (keep:∀ b o,b≠X.env.locals→b ∉ X.fs→b ∉ ch→s.heap.get? b=some o→H b=none→h'.get? b=some o)
    (slot:∀ b o,b≠X.env.locals→b∈X.fs→b ∉ ch→s.heap.get? b=some o→H b=none→∃ sl,h'.get? b=some { o with slots:=sl }) (free:∀ b o,b ∉ ch→s.heap.get? b=some o→H b=none→H' b=none)
    (there:∀ b o,b ∉ ch→s.heap.get? b=some o→∃ o',h'.get? b=some o')
    (tups:∀ b xs,H b=some (.tup xs)→H' b=some (.tup xs)) (frzs:∀ b o u,H b=some (.frz o u)→H' b=some (.frz o u)) (tbls:∀ b ps,H b=some (.tbl ps)→∃ more,H' b=some (.tbl (ps++more)))
    (ns:∀ m,s.heap.Ns X.env.locals m→h'.Ns X.env.locals m) (hok:HOk X.prog X.w H' h') (hg:AllBare g') :
    Inv X pins σ H' { s with heap:=h',gens:=g',drawn:=d',toks:=t' }:=by
  have neL:∀ b o,X.s₀.heap.get? b=some o→b≠X.env.locals:=fun b o e=>Nat.ne_of_lt (Nat.lt_of_lt_of_le (Heap.lt_size e) I.ok.above)
  have neC:∀ b o,X.s₀.heap.get? b=some o→b ∉ X.ex→b ∉ ch:=fun b o e hx hb=>by
    rcases (hch b hb).1 with z | z
    · exact hx z
    · exact absurd (Nat.lt_of_lt_of_le (Heap.lt_size e) z) (Nat.lt_irrefl _)
  have cellK:∀ x c,X.env.cells.lookup x=some c→∀ v,s.heap.IsCell c v→h'.IsCell c v:=fun x c e v ⟨o,ho,hd⟩=>by
    have nch:c ∉ ch:=fun z=>(hch c z).2.2.1 x c e rfl
    by_cases hc:c∈X.fs
    · obtain ⟨sl,q⟩:=slot c o (I.cne x c e) hc nch ho (I.freeC x c e)
      exact ⟨_,q,hd⟩
    · exact ⟨o,keep c o (I.cne x c e) hc nch ho (I.freeC x c e),hd⟩
  refine ⟨I.ok,I.os,hg,⟨fun b o e n hb hx=>?_,fun b o e n hb hx=>?_,fun b o e n hx=>?_,fun b o e hx=>?_,fun b xs e=>tups b xs (I.base.tups b xs e),fun b o xs e=>frzs b o xs (I.base.frzs b o xs e),fun b ps e=>?_⟩,?_,fun x c e=>?_,?_,fun x c e=>?_,fun p hp=>?_,hok,I.len⟩
  · exact keep b o (neL b o e) hb (neC b o e hx) (I.base.keep b o e n hb hx) (I.base.free b o e n hx)
  · obtain ⟨sl,e1⟩:=I.base.slot b o e n hb hx
    obtain ⟨sl',e2⟩:=slot b _ (neL b o e) hb (neC b o e hx) e1 (I.base.free b o e n hx)
    exact ⟨sl',e2⟩
  · obtain ⟨o',e1⟩:=I.base.there b o e hx
    exact free b o' (neC b o e hx) e1 (I.base.free b o e n hx)
  · obtain ⟨o',e1⟩:=I.base.there b o e hx
    exact there b o' (neC b o e hx) e1
  · obtain ⟨m1,e1⟩:=I.base.tbls b ps e
    obtain ⟨m2,e2⟩:=tbls b _ e1
    exact ⟨m1++m2,by rw [e2,Array.append_assoc]⟩
  · obtain ⟨m,hn,hl⟩:=I.loc
    refine ⟨m,ns m hn,fun i x v e1 e2 e3=>?_⟩
    obtain ⟨u,r,l⟩:=hl i x v e1 e2 e3
    refine ⟨u,r,?_⟩
    rcases l with l | ⟨k,c,e,z⟩
    · exact .inl l
    · exact .inr ⟨k,c,e,cellK x c e _ z⟩
  · obtain ⟨v,z⟩:=I.cell x c e
    exact ⟨v,cellK x c e v z⟩
  · obtain ⟨m,⟨o,_,_,ho,_⟩,_⟩:=I.loc
    exact free _ o (fun z=>(hch _ z).2.1 rfl) ho I.free
  · obtain ⟨v,o,ho,hd⟩:=I.cell x c e
    exact free c o (fun z=>(hch c z).2.2.1 x c e rfl) ho (I.freeC x c e)
  · obtain ⟨e,n,ne,nf,d⟩:=I.pin p hp
    have nch:p.1 ∉ ch:=fun z=>(hch p.1 z).2.2.2 p hp rfl
    exact ⟨keep p.1 p.2 ne nf nch e n,free p.1 p.2 nch e n,ne,nf,d⟩
theorem Inv.un {t':Nat} (I:Inv X pins σ H s) (u:Un X.fs [] H H' s.heap h') (hok:HOk X.prog X.w H' h'):Inv X pins σ H' { s with heap:=h',toks:=t' }:=by
  obtain ⟨m,⟨o,es,ep,ho,r⟩,_⟩:=id I.loc
  obtain ⟨sl,hL⟩:=u.any ho I.free (by simp)
  exact I.step (g':=s.gens) (d':=s.drawn) (ch:=[]) (fun _ z=>nomatch z) (fun b o _ hb _ e n=>u.keep b o e n hb (by simp)) (fun b o _ hb _ e n=>u.slot b o e n hb (by simp)) (fun b o _ e n=>u.free b o e n (by simp)) (fun b o _ e=>u.there b o e (by simp)) u.tups u.frzs u.tbls (fun m' hm=>by
    obtain ⟨o',es',ep',ho',r'⟩:=hm
    rw [ho] at ho'; cases ho'
    exact ⟨_,es',ep',hL,r'⟩) hok I.bare
theorem Inv.call {g':Array GenState}{t':Nat}{d':Drawn}{ch:List Addr} (I:Inv X pins σ H s) (u:Un (frs X.stack) ch H H' s.heap h') (hok:HOk X.prog X.w H' h') (hg:AllBare g')
    (hch:∀ b∈ch,(b∈X.ex∨X.s₀.heap.objs.size≤b)∧b≠X.env.locals∧(∀ x c,X.env.cells.lookup x=some c→c≠b)∧∀ p∈X.pn++pins,p.1≠b) :
    Inv X pins σ H' { s with heap:=h',gens:=g',drawn:=d',toks:=t' }:=by
  obtain ⟨m,⟨o,es,ep,ho,r⟩,_⟩:=id I.loc
  obtain ⟨sl,hL⟩:=u.any ho I.free fun z=>(hch _ z).2.1 rfl
  exact I.step (ch:=ch) hch (fun b o hL hb hc e n=>u.keep b o e n (fun z=>(List.mem_cons.mp (I.stkSub b z)).elim hL hb) hc) (fun b o _ _ hc e n=>u.any e n hc) (fun b o hc e n=>u.free b o e n hc) (fun b o hc e=>u.there b o e hc) u.tups u.frzs u.tbls (fun m' hm=>by
    obtain ⟨o',es',ep',ho',r'⟩:=hm
    rw [ho] at ho'; cases ho'
    exact ⟨_,es',ep',hL,r'⟩) hok hg
theorem Inv.turned {t':Nat}{it:Addr} (I:Inv X pins σ H s) (k:∀ b o,b≠it→s.heap.get? b=some o→h'.get? b=some o) (hn:H it=none) (hL:it≠X.env.locals)
    (h1:it∈X.ex∨X.s₀.heap.objs.size≤it) (h2:∀ x c,X.env.cells.lookup x=some c→c≠it) (h3:∀ p∈X.pn++pins,p.1≠it):Inv X pins σ H { s with heap:=h',toks:=t' }:=by
  have nit:∀ b u,H b=some u→b≠it:=fun b u e z=>by rw [z,hn] at e; cases e
  refine I.step (g':=s.gens) (d':=s.drawn) (ch:=[it]) (fun b hb=>?_) (fun b o _ _ hc e _=>k b o (fun z=>hc (by simp [z])) e) (fun b o _ _ hc e _=>⟨o.slots,k b o (fun z=>hc (by simp [z])) e⟩) (fun _ _ _ _ n=>n)
    (fun b o hc e=>⟨o,k b o (fun z=>hc (by simp [z])) e⟩) (fun _ _ e=>e) (fun _ _ _ e=>e) (fun b ps e=>⟨#[],by rw [e]; simp⟩) (fun m hm=>?_) (fun b u e=>?_) I.bare
  · have e:b=it:=by simpa using hb
    subst e
    exact ⟨h1,hL,h2,h3⟩
  · obtain ⟨o,es,ep,ho,r⟩:=hm
    exact ⟨o,es,ep,k _ o (Ne.symm hL) ho,r⟩
  · refine (I.hok b u e).stay (fun c v hc q=>k c v ?_ q) (fun _ q=>q) fun _ _ q=>q
    rcases hc with z | z
    · rw [z]; exact nit b u e
    · exact nit c _ z
theorem Inv.tok (I:Inv X pins σ H s) (t:Nat):Inv X pins σ H { s with toks:=t }:=I.un (h':=s.heap) (t':=t) Un.refl I.hok
theorem Inv.kept {t':Nat} (I:Inv X pins σ H s) (k:∀ b u,s.heap.get? b=some u→h'.get? b=some u):Inv X pins σ H { s with heap:=h',toks:=t' }:=I.un (Un.kept k) (I.hok.kept k)
theorem Inv.laid {a:Addr}{o:HO}{t':Nat} (I:Inv X pins σ H s) (k:∀ b u,s.heap.get? b=some u→h'.get? b=some u) (hp:s.heap.objs.size≤a) (new:ObjOk X.prog X.w (upd H a o) h' a o) :
    Inv X pins σ (upd H a o) { s with heap:=h',toks:=t' }:=I.un (Un.laid k hp (I.hok.fresh hp)) (I.hok.laid k hp new)
theorem Inv.write {x e:Addr}{o:HO}{t':Nat} (I:Inv X pins σ H s) (mu:Mut (H x)) (he:e=x∨H e=some (.own x)) (k:∀ b u,b≠e→s.heap.get? b=some u→h'.get? b=some u) (heo:∃ u,h'.get? e=some u)
    (new:ObjOk X.prog X.w (upd H x o) h' x o):Inv X pins σ (upd H x o) { s with heap:=h',toks:=t' }:=I.un (Un.write mu he k heo) (I.hok.write mu he k heo new)
theorem Inv.weak {σ':List (Option V)} (I:Inv X pins σ H s) (hl:σ'.length=σ.length) (w:∀ (i:Nat) v,σ'[i]?=some (some v)→σ[i]?=some (some v)):Inv X pins σ' H s :=
  ⟨I.ok,I.os,I.bare,I.base,let ⟨m,hn,hl'⟩:=I.loc; ⟨m,hn,fun i x v e1 e2 e3=>hl' i x v e1 (w i v e2) e3⟩,I.cell,I.free,I.freeC,I.pin,I.hok,hl.trans I.len⟩
theorem Inv.pins_of {pins':List (Addr × Obj)} (I:Inv X pins σ H s) (h:∀ p∈pins',s.heap.get? p.1=some p.2∧H p.1=none∧p.1≠X.env.locals∧p.1 ∉ X.fs∧∀ v,p.2.data≠.cell v):Inv X pins' σ H s :=
  ⟨I.ok,I.os,I.bare,I.base,I.loc,I.cell,I.free,I.freeC,fun p hp=>(List.mem_append.mp hp).elim (fun z=>I.pin p (List.mem_append_left _ z)) (h p),I.hok,I.len⟩
theorem nodup_ix {N:List Str} (hN:N.Nodup) {i j:Nat}{x:Str} (a:N[i]?=some x) (b:N[j]?=some x):i=j:=by
  obtain ⟨h1,e1⟩:=List.getElem?_eq_some_iff.mp a
  obtain ⟨h2,e2⟩:=List.getElem?_eq_some_iff.mp b
  exact (List.getElem_inj hN).mp (e1.trans e2.symm)
theorem store_ok2 {M:Model}{A:Around}{E:Value→Shared→Prop}{i:Nat}{x:Str}{v:V}{u:Value}{Q:Unit→Shared→Prop} (I:Inv X pins σ H s) (hN:X.N.Nodup) (hi:X.N[i]?=some x) (hx:Loc X.env.scope x) (r:RelV v u)
    (h:∀ s',Inv X pins (σ.set i (some v)) H s'→(∃ a,Heap.SameBut a s.heap s'.heap∧(a=X.env.locals∨X.env.cells.lookup x=some a))→Q () s') (hf:X.fn x=true∨X.env.scope.names.lookup x=some .local:=by first | exact .inl rfl | exact .inr rfl | assumption):wpAny M A (storeName X.env x u) Q E s:=by
  obtain ⟨m,hn,hl⟩:=id I.loc
  have hcls:(X.env.scope.kind == .class || (X.env.scope.kind == .module && X.env.locals != X.env.globals))=false:=by rw [I.ok.kind]; rfl
  have hiσ:i < σ.length:=by rw [I.len]; exact (List.getElem?_eq_some_iff.mp hi).1
  have cne:=I.cne
  have tracked:∀ {a:Addr} {h':Heap},(∃ o,s.heap.get? a=some o∧H a=none)→Heap.SameBut a s.heap h'→HOk X.prog X.w H h':=fun {a h'} ha hs b ob e=>by
    obtain ⟨_,_,hfree⟩:=ha
    refine (I.hok b ob e).stay (fun c w' hc q=>(hs.2 c ?_).trans q) (fun _ q=>q) fun _ _ q=>q
    rintro rfl
    rcases hc with rfl | hc
    · rw [hfree] at e; cases e
    · rw [hfree] at hc; cases hc
  rcases hx with hk | hk
  · refine wpAny_storeName_local hk hn (fun h' hn' hs=>?_) hcls
    obtain ⟨oL,_,_,hoL,_⟩:=id hn
    refine h _ ⟨I.ok,I.os,I.bare,⟨fun b o e n hb hx=>?_,fun b o e n hb hx=>?_,I.base.free,fun b o e hx=>?_,I.base.tups,I.base.frzs,I.base.tbls⟩,⟨_,hn',fun j y v' e1 e2 e3=>?_⟩,fun y c e=>?_,I.free,I.freeC,fun p hp=>?_,tracked ⟨oL,hoL,I.free⟩ hs,by simpa using I.len⟩ ⟨_,hs,.inl rfl⟩
    · exact (hs.2 b (Nat.ne_of_lt (Nat.lt_of_lt_of_le (Heap.lt_size e) I.ok.above))).trans (I.base.keep b o e n hb hx)
    · obtain ⟨sl,e1⟩:=I.base.slot b o e n hb hx
      exact ⟨sl,(hs.2 b (Nat.ne_of_lt (Nat.lt_of_lt_of_le (Heap.lt_size e) I.ok.above))).trans e1⟩
    · obtain ⟨o',e1⟩:=I.base.there b o e hx
      exact ⟨o',(hs.2 b (Nat.ne_of_lt (Nat.lt_of_lt_of_le (Heap.lt_size e) I.ok.above))).trans e1⟩
    · by_cases hj:j=i
      · subst hj
        rw [hi] at e1; cases e1
        rw [List.getElem?_set_self hiσ] at e2
        cases e2
        exact ⟨u,r,.inl ⟨hk,by simp⟩⟩
      · rw [List.getElem?_set_ne (Ne.symm hj)] at e2
        obtain ⟨u',r',q⟩:=hl j y v' e1 e2 e3
        refine ⟨u',r',?_⟩
        rcases q with ⟨k,e⟩ | ⟨k,c,e,z⟩
        · refine .inl ⟨k,?_⟩
          have:y≠x:=fun e=>hj (nodup_ix hN e1 (e ▸ hi))
          simp [this,e]
        · exact .inr ⟨k,c,e,z.sameBut hs (cne y c e)⟩
    · obtain ⟨w',z⟩:=I.cell y c e
      exact ⟨w',z.sameBut hs (cne y c e)⟩
    · obtain ⟨e,n,ne,nf,d⟩:=I.pin p hp
      exact ⟨(hs.2 p.1 ne).trans e,n,ne,nf,d⟩
  · have hfn:X.fn x=true:=by
      rcases hf with z | z
      · exact z
      · rw [z] at hk; cases hk
    obtain ⟨c,hc⟩:=I.ok.has x (.inl hk)
    obtain ⟨w',z⟩:=I.cell x c hc
    refine wpAny_storeName_cell I.ok.kind hk hc z (fun h' hc' hs=>?_)
    obtain ⟨oc,hoc,hocd⟩:=id z
    refine h { s with heap:=h' } ⟨I.ok,I.os,I.bare,⟨fun b o e n hb hx=>?_,fun b o e n hb hx=>?_,I.base.free,fun b o e hx=>?_,I.base.tups,I.base.frzs,I.base.tbls⟩,⟨m,hn.sameBut hs (Ne.symm (cne x c hc)),fun j y v' e1 e2 e3=>?_⟩,fun y c' e=>?_,I.free,I.freeC,fun p hp=>?_,tracked ⟨oc,hoc,I.freeC x c hc⟩ hs,by simpa using I.len⟩ ⟨c,hs,.inr hc⟩
    · exact (hs.2 b (Nat.ne_of_lt (Nat.lt_of_lt_of_le (Heap.lt_size e) (I.ok.cab x c hfn hc)))).trans (I.base.keep b o e n hb hx)
    · obtain ⟨sl,e1⟩:=I.base.slot b o e n hb hx
      exact ⟨sl,(hs.2 b (Nat.ne_of_lt (Nat.lt_of_lt_of_le (Heap.lt_size e) (I.ok.cab x c hfn hc)))).trans e1⟩
    · obtain ⟨o',e1⟩:=I.base.there b o e hx
      exact ⟨o',(hs.2 b (Nat.ne_of_lt (Nat.lt_of_lt_of_le (Heap.lt_size e) (I.ok.cab x c hfn hc)))).trans e1⟩
    · by_cases hj:j=i
      · subst hj
        rw [hi] at e1; cases e1
        rw [List.getElem?_set_self hiσ] at e2
        cases e2
        exact ⟨u,r,.inr ⟨.inl hk,c,hc,hc'⟩⟩
      · rw [List.getElem?_set_ne (Ne.symm hj)] at e2
        obtain ⟨u',r',q⟩:=hl j y v' e1 e2 e3
        refine ⟨u',r',?_⟩
        rcases q with q | ⟨k,c',e,z'⟩
        · exact .inl q
        · refine .inr ⟨k,c',e,z'.sameBut hs ?_⟩
          rintro rfl
          exact hj (nodup_ix hN e1 (I.ok.inj _ _ _ e hc ▸ hi))
    · by_cases hcc:c'=c
      · subst hcc; exact ⟨_,hc'⟩
      · obtain ⟨w2,z2⟩:=I.cell y c' e
        exact ⟨w2,z2.sameBut hs hcc⟩
    · obtain ⟨e,n,ne,nf,d⟩:=I.pin p hp
      refine ⟨(hs.2 p.1 ?_).trans e,n,ne,nf,d⟩
      intro q
      rw [q,hoc] at e
      have q':oc=p.2:=Option.some.inj e
      exact d w' (by rw [← q']; exact hocd)
theorem store_ok {M:Model}{A:Around}{E:Value→Shared→Prop}{i:Nat}{x:Str}{v:V}{u:Value}{Q:Unit→Shared→Prop} (I:Inv X pins σ H s) (hN:X.N.Nodup) (hi:X.N[i]?=some x) (hx:Loc X.env.scope x) (r:RelV v u)
    (h:∀ s',Inv X pins (σ.set i (some v)) H s'→Q () s') (hf:X.fn x=true∨X.env.scope.names.lookup x=some .local:=by first | exact .inl rfl | exact .inr rfl | assumption):wpAny M A (storeName X.env x u) Q E s :=
  store_ok2 I hN hi hx r (fun s' I' _=>h s' I') hf
theorem Inv.call' {s':Shared}{ch:List Addr} (I:Inv X pins σ H s) (ho:s'.os=s.os) (u:Un (frs X.stack) ch H H' s.heap s'.heap) (hok:HOk X.prog X.w H' s'.heap) (hg:AllBare s'.gens)
    (hch:∀ b∈ch,(b∈X.ex∨X.s₀.heap.objs.size≤b)∧b≠X.env.locals∧(∀ x c,X.env.cells.lookup x=some c→c≠b)∧∀ p∈X.pn++pins,p.1≠b):Inv X pins σ H' s':=by
  obtain ⟨h',g',d',t',o'⟩:=s'
  have e:o'=s.os:=ho
  subst e
  exact I.call (g':=g') (t':=t') (d':=d') u hok hg hch
end
abbrev XK:=Value→Option Addr→Hp→Prop
abbrev St:=List (Option V)
abbrev VK:=V→Hp→Prop
abbrev TE:=St→Hp→VK→Prop
abbrev TT:=St→Hp→(Bool→Hp→Prop)→Prop
abbrev TA:=St→Hp→(List V→Hp→Prop)→Prop
structure Ends where
  nx:St→Hp→Prop
  rt:VK
  bk:St→Hp→Prop:=fun _ _=>False
  ct:St→Hp→Prop:=fun _ _=>False
abbrev TS:=Ends→St→Hp→Prop
def EP (X:Cx) (pins:List (Addr × Obj)) (σ:St) (Q:VK) (u:Value) (s':Shared):Prop:=∃ v H',Inv X pins σ H' s'∧RelV v u∧Q v H'
def TP (X:Cx) (pins:List (Addr × Obj)) (σ:St) (Q:Bool→Hp→Prop) (b:Bool) (s':Shared):Prop:=∃ H',Inv X pins σ H' s'∧Q b H'
def AP (X:Cx) (pins:List (Addr × Obj)) (σ:St) (Q:List V→Hp→Prop) (us:List Value) (s':Shared):Prop:=∃ vs H',Inv X pins σ H' s'∧Vals vs us∧Q vs H'
def SP (X:Cx) (pins:List (Addr × Obj)) (D:Ends) (f:Flow) (s':Shared):Prop :=
  match f with
  | .next=>∃ σ' H',Inv X pins σ' H' s'∧D.nx σ' H'
  | .brk=>∃ σ' H',Inv X pins σ' H' s'∧D.bk σ' H'
  | .cont=>∃ σ' H',Inv X pins σ' H' s'∧D.ct σ' H'
  | .ret u=>∃ v σ' H',Inv X pins σ' H' s'∧RelV v u∧D.rt v H'
def PE (X:Cx) (e:Expr) (t:TE):Prop :=
  ∀ (pins:List (Addr × Obj)) (s:Shared) (σ:St) (H:Hp) (Q:VK),Inv X pins σ H s→t σ H Q→wpAny (model X.prog X.w) X.A (eval e X.env) (EP X pins σ Q) X.xe s
def PT (X:Cx) (e:Expr) (t:TT):Prop :=
  ∀ (pins:List (Addr × Obj)) (s:Shared) (σ:St) (H:Hp) (Q:Bool→Hp→Prop),Inv X pins σ H s→t σ H Q→wpAny (model X.prog X.w) X.A (isTrue e X.env (eval e X.env)) (TP X pins σ Q) X.xe s
def PW (X:Cx) (e:Expr) (t:TT):Prop :=
  ∀ (whole:Sem Value) (pins:List (Addr × Obj)) (s:Shared) (σ:St) (H:Hp) (Q:Bool→Hp→Prop),Inv X pins σ H s→t σ H Q→wpAny (model X.prog X.w) X.A (isTrue e X.env whole) (TP X pins σ Q) X.xe s
theorem PW.pt {X:Cx}{e:Expr}{t:TT} (h:PW X e t):PT X e t:=h _
def PA (X:Cx) (es:List Expr) (t:TA):Prop :=
  ∀ (pos:Pos) (pins:List (Addr × Obj)) (s:Shared) (σ:St) (H:Hp) (Q:List V→Hp→Prop),Inv X pins σ H s→t σ H Q→wpAny (model X.prog X.w) X.A (spliced (backTo pos (starEach es X.env))) (AP X pins σ Q) X.xe s
def PS (X:Cx) (st:Stmt) (t:TS):Prop :=
  ∀ (pins:List (Addr × Obj)) (s:Shared) (σ:St) (H:Hp) (D:Ends),Inv X pins σ H s→t D σ H→wpAny (model X.prog X.w) X.A (exec st X.env) (SP X pins D) X.xe s
def PSs (X:Cx) (st:List Stmt) (t:TS):Prop :=
  ∀ (pins:List (Addr × Obj)) (s:Shared) (σ:St) (H:Hp) (D:Ends),Inv X pins σ H s→t D σ H→wpAny (model X.prog X.w) X.A (execs st X.env) (SP X pins D) X.xe s
theorem thn {α:Type}{t:Sem α}{Q Q':α→Shared→Prop}{M:Model}{A:Around}{E:Value→Shared→Prop}{s:Shared} (h:wpAny M A t Q E s) (hQ:∀ a s,Q a s→Q' a s):wpAny M A t Q' E s:=wpAny_mono h hQ fun _ _ x=>x
end L2
namespace L2
open PySem PySem.Spec PyProof.Rows
section
variable {X:Cx}
def tVar (i:Nat):TE:=fun σ H Q=>∃ v,σ[i]?=some (some v)∧Q v H
def tC (v:V):TE:=fun _ H Q=>Q v H
theorem pe_var {i:Nat}{x:Str}{pos:Pos} (hN:X.N[i]?=some x) (hv:Vis X.env.scope x) (hd:(x == ("__debug__" : Str))=false:=by decide) (hcd:(x == ("__classdict__" : Str))=false:=by decide):PE X (.Name x pos) (tVar i):=by
  intro pins s σ H Q I h
  obtain ⟨v,e,h⟩:=h
  obtain ⟨m,hn,hl⟩:=I.loc
  obtain ⟨u,r,l⟩:=hl i x v hN e hv
  have fin:EP X pins σ Q u s:=⟨v,H,I,r,h⟩
  rcases l with ⟨hk,hm⟩ | ⟨hk,c,hc,hcell⟩
  · exact wpAny_Name (wpAny_loadName_local I.ok.kind hk hn hm fin) hd
  · rcases hk with hk | hk
    · exact wpAny_Name (wpAny_loadName_cell I.ok.kind hk hc hcell fin) hd
    · exact wpAny_Name (wpAny_loadName_free I.ok.kind hk hc hcell fin hcd) hd
theorem pe_int {i j pos}:PE X (.Constant (.int i) j pos) (tC (.int i)):=fun _ _ _ H _ I h=>wpAny_Constant_int ⟨.int i,H,I.tok _,⟨_,rfl⟩,h⟩
theorem pe_bl {b j pos}:PE X (.Constant (.bool b) j pos) (tC (.bl b)):=fun _ _ _ H _ I h=>Constant_bool ⟨.bl b,H,I,rfl,h⟩
theorem pe_non {j pos}:PE X (.Constant .none j pos) (tC .non):=fun _ _ _ H _ I h=>Constant_none ⟨.non,H,I,rfl,h⟩
theorem pe_str {x j pos}:PE X (.Constant (.str x) j pos) (tC (.str x)):=fun _ _ _ H _ I h=>Calls.Constant_str ⟨.str x,H,I.tok _,⟨_,rfl⟩,h⟩
def Gl (X:Cx) (x:Str):Prop:=X.env.kindOf x=some .globalImplicit
theorem ld_glob {E:Value→Shared→Prop}{pins:List (Addr × Obj)}{s:Shared}{σ:St}{H:Hp}{x:Str}{u:Value}{pos:Pos}{Q:Value→Shared→Prop} (I:Inv X pins σ H s) (hg:Gl X x) (hm:X.mg x=some u) (h:Q u s)
    (hd:(x == ("__debug__" : Str))=false:=by decide):wpAny (model X.prog X.w) X.A (eval (.Name x pos) X.env) Q E s :=
  Calls.Name_function_global I.ok.kind hg (Calls.loadGlobal_global (by rw [I.ok.glob]; exact I.mod.glob.keeps I.bk) hm h) hd
theorem ld_blt {E:Value→Shared→Prop}{pins:List (Addr × Obj)}{s:Shared}{σ:St}{H:Hp}{x:Str}{u:Value}{pos:Pos}{Q:Value→Shared→Prop} (I:Inv X pins σ H s) (hg:Gl X x) (hm:X.mg x=none) (hv:bootBuiltins x=some u) (h:Q u s)
    (hn:x ≠ "__name__" := by decide) (hd:(x == ("__debug__" : Str))=false:=by decide):wpAny (model X.prog X.w) X.A (eval (.Name x pos) X.env) Q E s:=by
  obtain ⟨mb,h1,h2⟩:=I.mod.blt
  exact Calls.Name_function_global I.ok.kind hg (Calls.loadGlobal_builtin (by rw [I.ok.glob]; exact I.mod.glob.keeps I.bk) hm (by rw [I.ok.blt]; exact h1.keeps I.bk) ((h2 x hn).trans hv) h) hd
theorem pe_glob {x:Str}{v:V}{u:Value}{pos:Pos} (hg:Gl X x) (hm:X.mg x=some u) (r:RelV v u) (hd:(x == ("__debug__" : Str))=false:=by decide):PE X (.Name x pos) (tC v) :=
  fun _ _ _ H _ I h=>ld_glob I hg hm ⟨v,H,I,r,h⟩ hd
theorem pe_bltn {x:Str}{v:V}{u:Value}{pos:Pos} (hg:Gl X x) (hm:X.mg x=none) (hv:bootBuiltins x=some u) (r:RelV v u) (hn:x ≠ "__name__" := by decide) (hd:(x == ("__debug__" : Str))=false:=by decide):PE X (.Name x pos) (tC v) :=
  fun _ _ _ H _ I h=>ld_blt I hg hm hv ⟨v,H,I,r,h⟩ hn hd
variable {a b:Expr}{ta tb:TE}{pos:Pos}
def PC (X:Cx) (op:CmpOp) (a b:Expr) (t:TE):Prop :=
  ∀ (pins:List (Addr × Obj)) (s:Shared) (σ:St) (H:Hp) (Q:VK),Inv X pins σ H s→t σ H Q →
    wpAny (model X.prog X.w) X.A (eval a X.env) (fun v s₁=>wpAny (model X.prog X.w) X.A (eval b X.env) (fun u s₂=>wpAny (model X.prog X.w) X.A (compareOp op v u) (EP X pins σ Q) X.xe s₂) X.xe s₁) X.xe s
def tB (t:TE):TT:=fun σ H Q=>t σ H fun x H1=>∃ c,x=.bl c∧Q c H1
theorem pt_val {e:Expr}{t:TE} (h:PE X e t) (he:∀ whole,isTrue e X.env whole=(do let v ← whole; standAt e.pos; holding [v] (truthy v)):=by intro _; rfl):PT X e (tB t):=by
  intro pins s σ H Q I hw
  refine isTrue_plain (thn (h pins s σ H _ I hw) fun v s1 ⟨x,H1,I1,r1,q1⟩=>?_) (he _)
  obtain ⟨d,rfl,q⟩:=q1
  cases r1
  exact wpAny_truthy_bool ⟨H1,I1,q⟩
variable {tA tB':TT}{rest:List Expr}
def tAnd (t u:TT):TT:=fun σ H Q=>t σ H fun c H1=>if c=true then u σ H1 Q else Q false H1
def tOr (t u:TT):TT:=fun σ H Q=>t σ H fun c H1=>if c=true then Q true H1 else u σ H1 Q
def tNot (t:TT):TT:=fun σ H Q=>t σ H fun c H1=>Q (!c) H1
theorem pw_and1 (ha:PT X a tA):PW X (.BoolOp .And [a] pos) tA:=by
  intro wh pins s σ H Q I h
  refine isTrue_and (thn (ha pins s σ H Q I h) fun c s1 e=>?_)
  cases c with
  | true=>exact isTrue_and_nil e
  | false=>exact e
theorem pw_or1 (ha:PT X a tA):PW X (.BoolOp .Or [a] pos) tA:=by
  intro wh pins s σ H Q I h
  refine isTrue_or (thn (ha pins s σ H Q I h) fun c s1 e=>?_)
  cases c with
  | false=>exact isTrue_or_nil e
  | true=>exact e
theorem pw_and (ha:PT X a tA) (hb:PW X (.BoolOp .And (b::rest) pos) tB'):PW X (.BoolOp .And (a::b::rest) pos) (tAnd tA tB'):=by
  intro wh pins s σ H Q I h
  refine isTrue_and (thn (ha pins s σ H _ I h) fun c s1 ⟨H1,I1,q1⟩=>?_)
  cases c with
  | true=>exact hb wh pins s1 σ H1 Q I1 q1
  | false=>exact ⟨H1,I1,q1⟩
theorem pw_or (ha:PT X a tA) (hb:PW X (.BoolOp .Or (b::rest) pos) tB'):PW X (.BoolOp .Or (a::b::rest) pos) (tOr tA tB'):=by
  intro wh pins s σ H Q I h
  refine isTrue_or (thn (ha pins s σ H _ I h) fun c s1 ⟨H1,I1,q1⟩=>?_)
  cases c with
  | true=>exact ⟨H1,I1,q1⟩
  | false=>exact hb wh pins s1 σ H1 Q I1 q1
theorem pt_not (ha:PT X a tA):PT X (.UnaryOp .Not a pos) (tNot tA):=by
  intro pins s σ H Q I h
  exact isTrue_not (ha pins s σ H (fun c H1=>Q (!c) H1) I h)
def tAndV (ta tb:TE):TE:=fun σ H Q=>ta σ H fun x H1=>∃ c,x=.bl c∧if c=true then tb σ H1 Q else Q (.bl false) H1
def tOrV (ta tb:TE):TE:=fun σ H Q=>ta σ H fun x H1=>∃ c,x=.bl c∧if c=true then Q (.bl true) H1 else tb σ H1 Q
theorem pe_one {op}{t:TE} (h:PE X a t):PE X (.BoolOp op [a] pos) t:=fun pins s σ H Q I hw=>BoolOp_one (h pins s σ H Q I hw)
theorem pe_and (ha:PE X a ta) (hb:PE X (.BoolOp .And (b::rest) pos) tb):PE X (.BoolOp .And (a::b::rest) pos) (tAndV ta tb):=by
  intro pins s σ H Q I h
  refine BoolOp_and (thn (ha pins s σ H _ I h) fun v s1 ⟨x,H1,I1,r1,q1⟩=>?_)
  obtain ⟨c,rfl,q1⟩:=q1
  cases r1
  refine wpAny_truthy_bool ?_
  cases c with
  | true=>exact hb pins s1 σ H1 Q I1 q1
  | false=>exact ⟨.bl false,H1,I1,rfl,q1⟩
theorem pe_or (ha:PE X a ta) (hb:PE X (.BoolOp .Or (b::rest) pos) tb):PE X (.BoolOp .Or (a::b::rest) pos) (tOrV ta tb):=by
  intro pins s σ H Q I h
  refine BoolOp_or (thn (ha pins s σ H _ I h) fun v s1 ⟨x,H1,I1,r1,q1⟩=>?_)
  obtain ⟨c,rfl,q1⟩:=q1
  cases r1
  refine wpAny_truthy_bool ?_
  cases c with
  | false=>exact hb pins s1 σ H1 Q I1 q1
  | true=>exact ⟨.bl true,H1,I1,rfl,q1⟩
def tIf (t:TT) (ta tb:TE):TE:=fun σ H Q=>t σ H fun c H1=>if c=true then ta σ H1 Q else tb σ H1 Q
theorem pe_ifExp {c:Expr} (hc:PT X c tA) (ha:PE X a ta) (hb:PE X b tb):PE X (.IfExp c a b pos) (tIf tA ta tb):=by
  intro pins s σ H Q I h
  refine wpAny_IfExp (thn (hc pins s σ H _ I h) fun d s1 ⟨H1,I1,q1⟩=>?_)
  cases d with
  | true=>exact ha pins s1 σ H1 Q I1 q1
  | false=>exact hb pins s1 σ H1 Q I1 q1
end
end L2
namespace L2
open PySem PySem.Spec PyProof.Rows
def SqL (K:PySem.W.Frag) (H:Hp) (a:Addr) (xs:List V):Prop :=
  Rd H a (.lst xs) ∨
    ∃ (o:Obj) (its:Array Value) (n:Nat),K.lookup a=some o∧o.cls=.type "list" ∧ o.dict=none∧o.data=.seq its n∧its.size≤sizeLine∧Vals xs its.toList
def SqT (K:PySem.W.Frag) (H:Hp) (a:Addr) (xs:List V):Prop :=
  Rd H a (.tup xs) ∨
    ∃ (o:Obj) (its:Array Value) (n:Nat),K.lookup a=some o∧o.cls=.type "tuple" ∧ o.data=.seq its n∧its.size≤sizeLine∧Vals xs its.toList
def absV:Value→Option V
  | .none=>some .non
  | .bool b=>some (.bl b)
  | .int i _=>some (.int i)
  | .str x _=>some (.str x)
  | .bytes b _=>some (.byt b)
  | .float b _=>some (.flt b)
  | .ref a=>some (.ref a)
  | .type n=>some (.ty n)
  | _=>none
theorem RelV.abs {x:V}{u:Value} (r:RelV x u):absV u=some x:=by
  cases x with
  | non=>cases r; rfl
  | bl _=>cases r; rfl
  | int _=>obtain ⟨t,rfl⟩:=r; rfl
  | str _=>obtain ⟨t,rfl⟩:=r; rfl
  | byt _=>obtain ⟨t,rfl⟩:=r; rfl
  | flt _=>obtain ⟨t,rfl⟩:=r; rfl
  | ref _=>cases r; rfl
  | ty _=>cases r; rfl
theorem RelV.inj {x y:V}{u:Value} (r:RelV x u) (q:RelV y u):x=y:=Option.some.inj (r.abs.symm.trans q.abs)
theorem Vals.inj:∀ {xs ys:List V}{us:List Value},Vals xs us→Vals ys us→xs=ys
  | _,_,_,.nil,.nil=>rfl
  | _,_,_,.cons r t,.cons r' t'=>by rw [r.inj r',Vals.inj t t']
section
variable {X:Cx}{pins:List (Addr × Obj)}{σ:St}{H:Hp}{s:Shared}{a:Addr}{xs ys:List V}
theorem SqL.of {K:PySem.W.Frag} (h:H a=some (.lst xs)):SqL K H a xs:=.inl (.inl h)
theorem SqT.of {K:PySem.W.Frag} (h:H a=some (.tup xs)):SqT K H a xs:=.inl (.inl h)
theorem Inv.list (I:Inv X pins σ H s) (h:SqL X.K H a xs):∃ its:List Value,Vals xs its∧PlainL s.heap a its.toArray∧xs.length≤sizeLine:=by
  rcases h with h | ⟨o,its,n,hk,hc,hd,hs,hz,r⟩
  · obtain ⟨z,its,n,r,e⟩:=h.ok I.hok
    exact ⟨its,r,⟨_,n,e,rfl,rfl,rfl⟩,z⟩
  · refine ⟨its.toList,r,⟨o,n,I.kIn a o hk,hc,hd,by simpa using hs⟩,?_⟩
    have e:=r.length
    simp only [Array.length_toList] at e
    omega
theorem Inv.tuple (I:Inv X pins σ H s) (h:SqT X.K H a xs):∃ its:List Value,Vals xs its∧IsTup s.heap a its.toArray∧xs.length≤sizeLine:=by
  rcases h with h | ⟨o,its,n,hk,hc,hs,hz,r⟩
  · obtain ⟨z,its,r,p⟩:=h.ok I.hok
    exact ⟨its,r,p,z⟩
  · refine ⟨its.toList,r,⟨o,I.kIn a o hk,hc,n,by simpa using hs⟩,?_⟩
    have e:=r.length
    simp only [Array.length_toList] at e
    omega
theorem Inv.list_inj (I:Inv X pins σ H s) (h:SqL X.K H a xs) (h':SqL X.K H a ys):xs=ys:=by
  obtain ⟨its,r,⟨o,n,e,_,_,d⟩,_⟩:=I.list h
  obtain ⟨its',r',⟨o',n',e',_,_,d'⟩,_⟩:=I.list h'
  rw [e] at e'; cases e'
  rw [d] at d'
  injection d' with d1 _
  have:its=its':=by simpa using congrArg Array.toList d1
  subst this
  exact r.inj r'
theorem Inv.tuple_inj (I:Inv X pins σ H s) (h:SqT X.K H a xs) (h':SqT X.K H a ys):xs=ys:=by
  obtain ⟨its,r,⟨o,e,_,n,d⟩,_⟩:=I.tuple h
  obtain ⟨its',r',⟨o',e',_,n',d'⟩,_⟩:=I.tuple h'
  rw [e] at e'; cases e'
  rw [d] at d'
  injection d' with d1 _
  have:its=its':=by simpa using congrArg Array.toList d1
  subst this
  exact r.inj r'
end
abbrev Cx.wish (X:Cx) (E:Value→Shared→Prop):Cx:={ X with xe:=E }
abbrev Cx.nox (X:Cx):Cx:=X.wish fun _ _=>False
theorem Cx.Ok.wish {X:Cx} (ok:X.Ok) (E:Value→Shared→Prop):(X.wish E).Ok :=
  ⟨ok.mod,ok.kind,ok.glob,ok.blt,ok.above,ok.inj,ok.has,ok.cab,ok.hd,ok.frames,ok.stk,ok.exf,ok.bs,ok.bsz,ok.noex,ok.exfs,ok.funs,ok.frf⟩
theorem Cx.Ok.unwish {X:Cx}{E:Value→Shared→Prop} (ok:(X.wish E).Ok):X.Ok :=
  ⟨ok.mod,ok.kind,ok.glob,ok.blt,ok.above,ok.inj,ok.has,ok.cab,ok.hd,ok.frames,ok.stk,ok.exf,ok.bs,ok.bsz,ok.noex,ok.exfs,ok.funs,ok.frf⟩
section
variable {X:Cx}{pins:List (Addr × Obj)}{σ:St}{H:Hp}{s:Shared}{E:Value→Shared→Prop}
theorem Inv.wish (I:Inv X pins σ H s) (E:Value→Shared→Prop):Inv (X.wish E) pins σ H s:=⟨I.ok.wish E,I.os,I.bare,I.base,I.loc,I.cell,I.free,I.freeC,I.pin,I.hok,I.len⟩
theorem Inv.unwish (I:Inv (X.wish E) pins σ H s):Inv X pins σ H s:=⟨I.ok.unwish,I.os,I.bare,I.base,I.loc,I.cell,I.free,I.freeC,I.pin,I.hok,I.len⟩
theorem SP.unwish {D:Ends}{f:Flow}{s':Shared} (h:SP (X.wish E) pins D f s'):SP X pins D f s':=by
  cases f with
  | next=>obtain ⟨σ',H',I,q⟩:=h; exact ⟨σ',H',I.unwish,q⟩
  | brk=>obtain ⟨σ',H',I,q⟩:=h; exact ⟨σ',H',I.unwish,q⟩
  | cont=>obtain ⟨σ',H',I,q⟩:=h; exact ⟨σ',H',I.unwish,q⟩
  | ret u=>obtain ⟨v,σ',H',I,r,q⟩:=h; exact ⟨v,σ',H',I.unwish,r,q⟩
theorem PSs.nox {st:List Stmt}{t:TS} (h:PSs X.nox st t):PSs X st t:=fun pins s σ H D I hw =>
  wpAny_mono (h pins s σ H D (I.wish _) hw) (fun _ _ q=>q.unwish) fun _ _ z=>False.elim z
end
section
variable {X:Cx}{st:Stmt}{rest:List Stmt}{t u:TS}{e:Expr}{te:TE}{pos:Pos}
def tNext:TS:=fun D σ H=>D.nx σ H
def tSeq (t u:TS):TS:=fun D σ H=>t { D with nx:=u D } σ H
theorem pss_nil:PSs X [] tNext:=fun _ _ σ H _ I h=>wpAny_execs_nil ⟨σ,H,I,h⟩
theorem pss_cons (h1:PS X st t) (h2:PSs X rest u):PSs X (st::rest) (tSeq t u):=by
  intro pins s σ H D I h
  refine wpAny_execs_cons (thn (h1 pins s σ H { D with nx:=u D } I h) fun f s1 q=>?_)
  cases f with
  | next =>
    obtain ⟨σ',H',I',q⟩:=q
    exact h2 pins s1 σ' H' D I' q
  | ret v=>exact q
  | brk=>exact q
  | cont=>exact q
theorem pss_one (h1:PS X st t):PSs X [st] t:=by
  intro pins s σ H D I h
  refine wpAny_execs_cons (thn (h1 pins s σ H D I h) fun f s1 q=>?_)
  cases f with
  | next=>exact wpAny_execs_nil q
  | ret v=>exact q
  | brk=>exact q
  | cont=>exact q
theorem Inv.quiet {pins:List (Addr × Obj)}{σ:St}{H:Hp}{s:Shared} (I:Inv X pins σ H s):interactive X.env=false:=by simp [interactive,I.ok.kind]
def tDrop (te:TE):TS:=fun D σ H=>te σ H fun _ H1=>D.nx σ H1
theorem ps_expr (he:PE X e te) (hs:swapsWith e none pos.line X.env=pure false:=by rfl):PS X (.Expr e pos) (tDrop te):=by
  intro pins s σ H D I h
  exact wpAny_Expr_any (thn (he pins s σ H _ I h) fun v s1 ⟨x,H1,I1,r1,q1⟩=>⟨σ,H1,I1,q1⟩) I.quiet hs
def tRet (te:TE):TS:=fun D σ H=>te σ H D.rt
theorem ps_ret (he:PE X e te):PS X (.Return (some e) pos) (tRet te):=by
  intro pins s σ H D I h
  exact wpAny_Return_some (thn (he pins s σ H _ I h) fun v s1 ⟨x,H1,I1,r1,q1⟩=>⟨x,σ,H1,I1,r1,q1⟩)
def tIfS (c:TT) (t u:TS):TS:=fun D σ H=>c σ H fun b H1=>if b=true then t D σ H1 else u D σ H1
theorem ps_if {c:Expr}{a b:List Stmt}{tc:TT} (hc:PT X c tc) (ha:PSs X a t) (hb:PSs X b u):PS X (.If c a b pos) (tIfS tc t u):=by
  intro pins s σ H D I h
  refine wpAny_If (thn (hc pins s σ H _ I h) fun d s1 ⟨H1,I1,q1⟩=>?_)
  cases d with
  | true=>exact ha pins s1 σ H1 D I1 q1
  | false=>exact hb pins s1 σ H1 D I1 q1
end
abbrev TG:=V→St→Hp→(St→Hp→Prop)→Prop
abbrev TGs:=List V→St→Hp→(St→Hp→Prop)→Prop
def PG (X:Cx) (target:Expr) (t:TG):Prop :=
  ∀ (pins:List (Addr × Obj)) (s:Shared) (σ:St) (H:Hp) (v:V) (u:Value) (Q:St→Hp→Prop),Inv X pins σ H s→RelV v u→t v σ H Q →
    wpAny (model X.prog X.w) X.A (assign target X.env u) (fun _ s'=>∃ σ' H',Inv X pins σ' H' s'∧Q σ' H') X.xe s
def PGs (X:Cx) (ts:List Expr) (t:TGs):Prop :=
  ∀ (pins:List (Addr × Obj)) (s:Shared) (σ:St) (H:Hp) (vs:List V) (us:List Value) (Q:St→Hp→Prop),Inv X pins σ H s→Vals vs us→t vs σ H Q →
    wpAny (model X.prog X.w) X.A (assignInOrder ((assignEach ts X.env).map (·.2)) us) (fun _ s'=>∃ σ' H',Inv X pins σ' H' s'∧Q σ' H') X.xe s
section
variable {X:Cx}{pos:Pos}
def gName (i:Nat):TG:=fun v σ H Q=>Q (σ.set i (some v)) H
theorem pg_name {i:Nat}{x:Str} (hN:X.N.Nodup) (hi:X.N[i]?=some x) (hx:Loc X.env.scope x) (hf:X.fn x=true∨X.env.scope.names.lookup x=some .local:=by first | exact .inl rfl | exact .inr rfl | assumption):PG X (.Name x pos) (gName i):=by
  intro pins s σ H v u Q I r h
  exact wpAny_assign_Name (store_ok I hN hi hx r (fun s' I'=>⟨_,H,I',h⟩) hf)
def gNil:TGs:=fun vs σ H Q=>vs=[]∧Q σ H
def gCons (t:TG) (u:TGs):TGs:=fun vs σ H Q=>∃ v r,vs=v::r∧t v σ H fun σ' H'=>u r σ' H' Q
theorem pgs_nil:PGs X [] gNil:=by
  intro pins s σ H vs us Q I r h
  obtain ⟨e,h⟩:=h
  subst e
  cases r
  exact assignInOrder_nil ⟨σ,H,I,h⟩
theorem pgs_cons {e:Expr}{es:List Expr}{t:TG}{u:TGs} (h1:PG X e t) (h2:PGs X es u)
    (hs:(assignEach (e::es) X.env).map (·.2)=assign e X.env::(assignEach es X.env).map (·.2):=by rfl):PGs X (e::es) (gCons t u):=by
  intro pins s σ H vs us Q I r h
  obtain ⟨v,vr,e1,h⟩:=h
  subst e1
  cases r with
  | cons r rr =>
    rw [hs]
    refine assignInOrder_cons (thn (h1 pins s σ H _ _ _ I r h) fun _ s1 ⟨σ1,H1,I1,q1⟩=>?_)
    exact h2 pins s1 σ1 H1 _ _ Q I1 rr q1
def gTup (K:PySem.W.Frag) (n:Nat) (t:TGs):TG:=fun v σ H Q=>∃ a xs,v=.ref a∧SqT K H a xs∧xs.length=n∧t xs σ H Q
theorem pg_tup {es:List Expr}{k:Nat}{t:TGs}{n:Nat} (hc:X.calm=true) (h:PGs X es t)
    (hn:(assignEach es X.env).length=n:=by rfl) (hst:(assignEach es X.env).findIdx? (·.1)=none:=by rfl):PG X (.Tuple es k pos) (gTup X.K n t):=by
  intro pins s σ H v u Q I r hw
  obtain ⟨a,xs,e1,hq,hl,hw⟩:=hw
  subst e1
  cases r
  obtain ⟨its,rv,ht,hz⟩:=I.tuple hq
  refine assign_Tuple_tuple (I.ok.hd hc) ht (by simp [hn,← hl,rv.length]) hst fun h' hx=>?_
  have I1:Inv X pins σ H { s with heap:=h' }:=I.kept (t':=s.toks) fun b o e=>hx b o (Nat.ne_of_lt (Heap.lt_size e)) e
  exact h pins _ σ H xs _ Q I1 (by simpa using rv) hw
def tAsg (te:TE) (g:TG):TS:=fun D σ H=>te σ H fun x H1=>g x σ H1 D.nx
theorem ps_set {i:Nat}{x:Str}{e:Expr}{te:TE}{pos':Pos} (hN:X.N.Nodup) (hi:X.N[i]?=some x) (hx:Loc X.env.scope x) (he:PE X e te) (hs:swapsWith e (some (.Name x pos')) pos.line X.env=pure false:=by rfl) (hf:X.fn x=true∨X.env.scope.names.lookup x=some .local:=by first | exact .inl rfl | exact .inr rfl | assumption) :
    PS X (.Assign [.Name x pos'] e pos) (tAsg te (gName i)):=by
  intro pins s σ H D I h
  refine wpAny_Assign_Name (thn (he pins s σ H _ I h) fun v s1 ⟨y,H1,I1,r1,q1⟩=>?_) hs
  exact store_ok I1 hN hi hx r1 (fun s2 I2=>⟨_,H1,I2,q1⟩) hf
end
section
variable {X:Cx}{pos:Pos}
def tWhile (c:TT) (tb:TS):TS:=fun D σ H=>∃ W:Nat→St→Hp→Prop,(∃ m,W m σ H)∧∀ m σ H,W m σ H →
  c σ H fun b H1=>if b=true then ∃ N:St→Hp→Prop,(∀ σ' H',N σ' H'→∃ m',m' < m∧W m' σ' H')∧tb { D with nx:=N,ct:=N,bk:=D.nx } σ H1 else D.nx σ H1
theorem ps_while {c:Expr}{body:List Stmt}{tc:TT}{tb:TS} (hp:PassesOwn (model X.prog X.w) X.A X.env X.xe) (hc:PT X c tc) (hb:PSs X body tb):PS X (.While c body [] pos) (tWhile tc tb):=by
  intro pins s σ H D I h
  obtain ⟨W,⟨m0,w0⟩,turn⟩:=h
  refine wpAny_While (codeAny_whileLoop (fun n s'=>∃ σ' H',Inv X pins σ' H' s'∧W n σ' H') ?_ m0 ⟨σ,H,I,w0⟩)
  rintro n s1 ⟨σ1,H1,I1,w1⟩
  refine wpAny_passesOwn hp (thn (hc pins s1 σ1 H1 _ I1 (turn n σ1 H1 w1)) fun b s2 ⟨H2,I2,q2⟩=>?_)
  cases b with
  | true =>
    obtain ⟨N,hN,q2⟩:=q2
    rw [if_pos rfl]
    refine wpAny_passesOwn hp (thn (hb pins s2 σ1 H2 _ I2 q2) fun f s3 q3=>?_)
    cases f with
    | next =>
      obtain ⟨σ3,H3,I3,n3⟩:=q3
      obtain ⟨m',hm,w3⟩:=hN σ3 H3 n3
      exact ⟨m',hm,σ3,H3,I3,w3⟩
    | cont =>
      obtain ⟨σ3,H3,I3,n3⟩:=q3
      obtain ⟨m',hm,w3⟩:=hN σ3 H3 n3
      exact ⟨m',hm,σ3,H3,I3,w3⟩
    | brk=>exact q3
    | ret v=>exact q3
  | false =>
    rw [if_neg Bool.false_ne_true]
    exact wpAny_execs_nil ⟨σ1,H2,I2,q2⟩
end
structure It where
  go:Nat→Hp→Prop
  yld:Nat→Hp→V→Hp→Prop
  stop:Nat→Hp→Prop
def FpOk (X:Cx) (pins:List (Addr × Obj)) (H:Hp) (b:Addr):Prop :=
  H b=none∧b≠X.env.locals∧b ∉ X.fs∧(b∈X.ex∨X.s₀.heap.objs.size≤b)∧(∀ x c,X.env.cells.lookup x=some c→c≠b)∧∀ p∈X.pn++pins,p.1≠b
theorem Inv.fpOk {X:Cx}{pins:List (Addr × Obj)}{σ:St}{H H':Hp}{s:Shared}{b:Addr} (I:Inv X pins σ H s) (hb:s.heap.objs.size≤b) (hn:H' b=none):FpOk X pins H' b:=by
  refine ⟨hn,Nat.ne_of_gt (Nat.lt_of_lt_of_le I.lt hb),I.nofs hb,.inr (Nat.le_trans I.sz hb),fun x c e z=>?_,fun p hp z=>?_⟩
  · obtain ⟨v,q⟩:=I.cell x c e
    exact absurd (Nat.lt_of_lt_of_le q.lt (by rw [z]; exact hb)) (Nat.lt_irrefl _)
  · exact absurd (Nat.lt_of_lt_of_le (Heap.lt_size (I.pin p hp).1) (by rw [z]; exact hb)) (Nat.lt_irrefl _)
structure Turn (P:Program) (w:World) (K:PySem.W.Frag) (tg:Expr) (J:It) (fp:List Addr) (it:Addr) (tn:Nat→Heap→Prop):Prop where
  mem:it∈fp
  obj:∀ i h,tn i h→∀ b∈fp,∃ o,h.get? b=some o∧∀ v,o.data≠.cell v
  keep:∀ i h h',tn i h→(∀ b∈fp,∀ o,h.get? b=some o→h'.get? b=some o)→tn i h'
  item:∀ (X:Cx),X.prog=P→X.w=w→X.K=K→X.calm=true→∀ (i:Nat) (pins:List (Addr × Obj)) (s:Shared) (σ:St) (H:Hp) (E:Value→Shared→Prop),Inv X pins σ H s→(∀ b∈fp,FpOk X pins H b)→tn i s.heap→J.go i H →
    wpAny (model P w) X.A (pyNext (.ref it)) (fun r s1=>∃ u,r=some u ∧
      wpAny (model P w) X.A (letOwnedTupleGo tg (.ref it) u) (fun _ s2=>∃ x H',Inv X pins σ H' s2∧RelV x u∧J.yld i H x H'∧tn (i+1) s2.heap∧∀ b∈fp,H' b=none) E s1) E s
  done:∀ (X:Cx),X.prog=P→X.w=w→X.K=K→X.calm=true→∀ (i:Nat) (pins:List (Addr × Obj)) (s:Shared) (σ:St) (H:Hp) (E:Value→Shared→Prop),Inv X pins σ H s→(∀ b∈fp,FpOk X pins H b)→tn i s.heap→J.stop i H →
    wpAny (model P w) X.A (pyNext (.ref it)) (fun r s1=>r=none∧Inv X pins σ H s1) E s
  self:∀ (A:Around) (i:Nat) (s:Shared) (Q:Value→Shared→Prop) (E:Value→Shared→Prop),tn i s.heap→Q (.ref it) s→wpAny (model P w) A (pyIter (.ref it)) Q E s
abbrev TI:=St→Hp→(It→Hp→Prop)→Prop
def PIE (X:Cx) (pins:List (Addr × Obj)) (σ:St) (tg:Expr) (R:It→Hp→Prop) (itv:Value) (s2:Shared):Prop :=
  ∃ (it:Addr) (fp:List Addr) (tn:Nat→Heap→Prop) (J:It) (H':Hp),itv=.ref it∧Inv X pins σ H' s2∧Turn X.prog X.w X.K tg J fp it tn∧tn 0 s2.heap∧(∀ b∈fp,FpOk X pins H' b)∧R J H'
def PI (X:Cx) (tg iter:Expr) (wi:TI):Prop :=
  ∀ (pins:List (Addr × Obj)) (s:Shared) (σ:St) (H:Hp) (R:It→Hp→Prop),Inv X pins σ H s→wi σ H R →
    wpAny (model X.prog X.w) X.A (eval iter X.env) (fun v s1=>wpAny (model X.prog X.w) X.A (pyIter v) (PIE X pins σ tg R) X.xe s1) X.xe s
theorem go_of {M:Model}{A:Around}{E:Value→Shared→Prop}{s:Shared}{tg:Expr}{it:Addr}{u:Value}{o:Obj}{n:String}{vs:Array Value}{Q:Unit→Shared→Prop} (ho:s.heap.get? it=some o) (hc:o.cls=.type n) (hd:o.data=.fields vs)
    (hn:["enumerate", "zip", "dict_itemiterator", "dict_reverseitemiterator", "odict_iterator", "itertools.zip_longest", "itertools.pairwise"].contains n=false) (hQ:Q () s):wpAny M A (letOwnedTupleGo tg (.ref it) u) Q E s:=by
  unfold letOwnedTupleGo
  cases tg <;> first
    | exact wpAny_pure hQ
    | (cases u <;> first
        | exact wpAny_pure hQ
        | (refine wpAny_bind (wpAny_load ho ?_)
           rw [hc,hd]
           show wpAny M A (if (["enumerate", "zip", "dict_itemiterator", "dict_reverseitemiterator", "odict_iterator", "itertools.zip_longest", "itertools.pairwise"].contains n && vs[0]? == some (rawInt _))=true then _ else _) Q E s
           rw [if_neg (by intro h; rw [hn,Bool.false_and] at h; cases h)]
           exact wpAny_pure hQ))
def Itl (K:PySem.W.Frag) (a:Addr):It :=
  ⟨fun i H=>∃ xs x,SqL K H a xs∧xs[i]?=some x,fun i H x H'=>H'=H∧∀ xs,SqL K H a xs→xs[i]?=some x,fun i H=>∃ xs,SqL K H a xs∧xs.length≤i⟩
def Itt (K:PySem.W.Frag) (a:Addr):It :=
  ⟨fun i H=>∃ xs x,SqT K H a xs∧xs[i]?=some x,fun i H x H'=>H'=H∧∀ xs,SqT K H a xs→xs[i]?=some x,fun i H=>∃ xs,SqT K H a xs∧xs.length≤i⟩
def Itr (lo:Int) (n:Nat):It:=⟨fun i _=>i < n,fun i H x H'=>H'=H∧x=.int (lo+i),fun i _=>n≤i⟩
theorem turn_list {P:Program}{w:World}{K:PySem.W.Frag}{tg:Expr} (a it:Addr):Turn P w K tg (Itl K a) [it] it (fun i h=>h.IsListIter it a i) where
  mem:=by simp
  obj:=fun i h st b hb=>by
    have e:b=it:=by simpa using hb
    subst e
    obtain ⟨o,e,c,d⟩:=st
    exact ⟨o,e,fun v z=>by rw [d] at z; cases z⟩
  keep:=fun i h h' st k=>st.at fun o e=>k it (by simp) o e
  item:=by
    intro X hP hw hK hc i pins s σ H E I hf st hg
    subst hP hw hK
    obtain ⟨xs,x,hq,hx⟩:=hg
    obtain ⟨its,rv,p,hz⟩:=I.list hq
    obtain ⟨u,hu,ru⟩:=rv.get hx
    obtain ⟨f0,f1,f2,f3,f4,f5⟩:=hf it (by simp)
    refine wpAny_pyNext_list_item st p.isList (x:=u) (by simpa using hu) fun h' st' sb=>?_
    have I1:Inv X pins σ H { s with heap:=h' }:=I.turned (t':=s.toks) (fun b o hb e=>(sb.2 b hb).trans e) f0 f1 f3 f4 f5
    obtain ⟨o,e,c,d⟩:=id st'
    exact ⟨u,rfl,go_of (s:={ s with heap:=h' }) e c d (by decide) ⟨x,H,I1,ru,⟨rfl,fun ys hy=>by rw [I.list_inj hy hq]; exact hx⟩,st',fun b hb=>(hf b hb).1⟩⟩
  done:=by
    intro X hP hw hK hc i pins s σ H E I hf st hg
    subst hP hw hK
    obtain ⟨xs,hq,hx⟩:=hg
    obtain ⟨its,rv,p,hz⟩:=I.list hq
    obtain ⟨f0,f1,f2,f3,f4,f5⟩:=hf it (by simp)
    have hl:=rv.length
    exact wpAny_pyNext_list_end (I.ok.hd hc) st p.isList (by simp; omega) fun h' eb=>⟨rfl,I.turned (t':=s.toks) (fun b o hb e=>eb b o hb e) f0 f1 f3 f4 f5⟩
  self:=fun _ _ _ _ _ st h=>wpAny_pyIter_listiter st h
theorem turn_tuple {P:Program}{w:World}{K:PySem.W.Frag}{tg:Expr} (a it:Addr):Turn P w K tg (Itt K a) [it] it (fun i h=>h.IsTupleIter it a i) where
  mem:=by simp
  obj:=fun i h st b hb=>by
    have e:b=it:=by simpa using hb
    subst e
    obtain ⟨o,e,c,d⟩:=st
    exact ⟨o,e,fun v z=>by rw [d] at z; cases z⟩
  keep:=fun i h h' st k=>st.at fun o e=>k it (by simp) o e
  item:=by
    intro X hP hw hK hc i pins s σ H E I hf st hg
    subst hP hw hK
    obtain ⟨xs,x,hq,hx⟩:=hg
    obtain ⟨its,rv,p,hz⟩:=I.tuple hq
    obtain ⟨u,hu,ru⟩:=rv.get hx
    obtain ⟨f0,f1,f2,f3,f4,f5⟩:=hf it (by simp)
    refine wpAny_pyNext_tuple_item st (show s.heap.IsTuple a its.toArray from p) (x:=u) (by simpa using hu) fun h' st' sb=>?_
    have I1:Inv X pins σ H { s with heap:=h' }:=I.turned (t':=s.toks) (fun b o hb e=>(sb.2 b hb).trans e) f0 f1 f3 f4 f5
    obtain ⟨o,e,c,d⟩:=id st'
    exact ⟨u,rfl,go_of (s:={ s with heap:=h' }) e c d (by decide) ⟨x,H,I1,ru,⟨rfl,fun ys hy=>by rw [I.tuple_inj hy hq]; exact hx⟩,st',fun b hb=>(hf b hb).1⟩⟩
  done:=by
    intro X hP hw hK hc i pins s σ H E I hf st hg
    subst hP hw hK
    obtain ⟨xs,hq,hx⟩:=hg
    obtain ⟨its,rv,p,hz⟩:=I.tuple hq
    obtain ⟨f0,f1,f2,f3,f4,f5⟩:=hf it (by simp)
    have hl:=rv.length
    exact wpAny_pyNext_tuple_end (I.ok.hd hc) st (show s.heap.IsTuple a its.toArray from p) (by simp; omega) fun h' eb=>⟨rfl,I.turned (t':=s.toks) (fun b o hb e=>eb b o hb e) f0 f1 f3 f4 f5⟩
  self:=fun _ _ _ _ _ st h=>wpAny_pyIter_tupleiter st h
theorem turn_range {P:Program}{w:World}{K:PySem.W.Frag}{tg:Expr} (it:Addr) (lo:Int) (n:Nat):Turn P w K tg (Itr lo n) [it] it (fun i h=>IsRangeIter h it (lo+(i:Nat) * 1) ((n:Int) - (i:Nat)) 1) where
  mem:=by simp
  obj:=fun i h st b hb=>by
    have e:b=it:=by simpa using hb
    subst e
    exact ⟨_,st,fun v z=>by
      have z':Data.fields _=Data.cell v:=z
      cases z'⟩
  keep:=fun i h h' st k=>k it (by simp) _ st
  item:=by
    intro X hP hw hK hc i pins s σ H E I hf st hg
    subst hP hw hK
    obtain ⟨f0,f1,f2,f3,f4,f5⟩:=hf it (by simp)
    have W:=Walks.range (prog:=X.prog) (w:=X.w) (I.ok.hd hc) it lo 1 n
    refine W.item i s _ _ hg st fun v h' tk hv st' kk=>?_
    obtain ⟨t,rfl⟩:=hv
    have I1:Inv X pins σ H { s with heap:=h',toks:=tk }:=I.turned (fun b o hb e=>kk b o (by simpa using hb) e) f0 f1 f3 f4 f5
    refine ⟨_,rfl,go_of (s:={ s with heap:=h',toks:=tk }) (n := "range_iterator") st' rfl rfl (by decide) ⟨.int (lo+i),H,I1,⟨t,?_⟩,⟨rfl,rfl⟩,st',fun b hb=>(hf b hb).1⟩⟩
    rw [Int.mul_one]
  done:=by
    intro X hP hw hK hc i pins s σ H E I hf st hg
    subst hP hw hK
    obtain ⟨f0,f1,f2,f3,f4,f5⟩:=hf it (by simp)
    exact wpAny_pyNext_range_end (I.ok.hd hc) st (by have:n≤i:=hg; omega) fun h' eb=>⟨rfl,I.turned (t':=s.toks) (fun b o hb e=>eb b o hb e) f0 f1 f3 f4 f5⟩
  self:=fun _ _ _ _ _ st h=>wpAny_pyIter_rangeiter st h
end L2
namespace L2
open PySem PySem.Spec PyProof.Rows
section
variable {X:Cx}{tg:Expr}
def iList (K:PySem.W.Frag) (tl:TE):TI:=fun σ H R=>tl σ H fun x H1=>∃ a,x=.ref a∧(∃ xs,SqL K H1 a xs)∧R (Itl K a) H1
def iTup (K:PySem.W.Frag) (tl:TE):TI:=fun σ H R=>tl σ H fun x H1=>∃ a,x=.ref a∧(∃ xs,SqT K H1 a xs)∧R (Itt K a) H1
theorem pi_list {l:Expr}{tl:TE} (hl:PE X l tl):PI X tg l (iList X.K tl):=by
  intro pins s σ H R I h
  refine thn (hl pins s σ H _ I h) fun v s1 ⟨x,H1,I1,r1,q1⟩=>?_
  obtain ⟨a,e,⟨xs,hq⟩,q⟩:=q1
  subst e
  cases r1
  obtain ⟨its,rv,p,hz⟩:=I1.list hq
  refine wpAny_pyIter_list p.isList ?_
  refine ⟨s1.heap.objs.size,[s1.heap.objs.size],_,_,H1,rfl,I1.kept (t':=s1.toks) fun b o e=>Heap.get?_push_of_some _ e,turn_list a _,⟨_,Heap.get?_push_size _ rfl,rfl,rfl⟩,fun b hb=>?_,q⟩
  have e:b=s1.heap.objs.size:=by simpa using hb
  subst e
  exact I1.fpOk (Nat.le_refl _) (I1.hok.fresh (Nat.le_refl _))
theorem pi_tup {l:Expr}{tl:TE} (hl:PE X l tl):PI X tg l (iTup X.K tl):=by
  intro pins s σ H R I h
  refine thn (hl pins s σ H _ I h) fun v s1 ⟨x,H1,I1,r1,q1⟩=>?_
  obtain ⟨a,e,⟨xs,hq⟩,q⟩:=q1
  subst e
  cases r1
  obtain ⟨its,rv,p,hz⟩:=I1.tuple hq
  refine wpAny_pyIter_tuple (show s1.heap.IsTuple a its.toArray from p) ?_
  refine ⟨s1.heap.objs.size,[s1.heap.objs.size],_,_,H1,rfl,I1.kept (t':=s1.toks) fun b o e=>Heap.get?_push_of_some _ e,turn_tuple a _,⟨_,Heap.get?_push_size _ rfl,rfl,rfl⟩,fun b hb=>?_,q⟩
  have e:b=s1.heap.objs.size:=by simpa using hb
  subst e
  exact I1.fpOk (Nat.le_refl _) (I1.hok.fresh (Nat.le_refl _))
theorem range_it {pins:List (Addr × Obj)}{σ:St}{H:Hp}{s:Shared}{R:It→Hp→Prop}{E:Value→Shared→Prop}{lo hi:Int}{t u v:Tok}{tk:Nat} (I:Inv X pins σ H s) (h1:-(2 ^ 62)≤lo) (h2:lo < 2 ^ 62) (h3:-(2 ^ 62)≤hi) (h4:hi < 2 ^ 62)
    (q:R (Itr lo (hi - lo).toNat) H):wpAny (model X.prog X.w) X.A (pyIter (.ref s.heap.objs.size)) (PIE X pins σ tg R) E { s with heap:=s.heap.push { cls:=.type "range",data:=.fields #[.int lo t,.int hi u,.int 1 v] },toks:=tk }:=by
  refine wpAny_pyIter_range (IsRange.new ..) (small_one h1 h2 h3 h4) ?_
  have I1:Inv X pins σ H { s with heap:=s.heap.push { cls:=.type "range",data:=.fields #[.int lo t,.int hi u,.int 1 v] },toks:=tk }:=I.kept fun b o e=>Heap.get?_push_of_some _ e
  refine ⟨(s.heap.push { cls:=.type "range",data:=.fields #[.int lo t,.int hi u,.int 1 v] }).objs.size,[(s.heap.push { cls:=.type "range",data:=.fields #[.int lo t,.int hi u,.int 1 v] }).objs.size],_,_,H,rfl,
    I1.kept (t':=tk) fun b o e=>Heap.get?_push_of_some _ e,turn_range _ lo (hi - lo).toNat,?_,fun b hb=>?_,q⟩
  · have e1:lo+((0:Nat):Int) * 1=lo:=by simp
    have e2:(((hi - lo).toNat:Nat):Int) - ((0:Nat):Int)=Builtin.Range.rangeSize lo hi 1:=by rw [rangeSize_one]; split <;> omega
    show IsRangeIter _ _ (lo+((0:Nat):Int) * 1) ((((hi - lo).toNat:Nat):Int) - ((0:Nat):Int)) 1
    rw [e1,e2]
    exact Heap.get?_push_size _ rfl
  · have e:b=(s.heap.push { cls:=.type "range",data:=.fields #[.int lo t,.int hi u,.int 1 v] }).objs.size:=by simpa using hb
    subst e
    exact I1.fpOk (Nat.le_refl _) (I1.hok.fresh (Nat.le_refl _))
def iRng1 (ta:TA):TI:=fun σ H R=>ta σ H fun vs H1=>∃ j:Int,vs=[.int j]∧-(2 ^ 62)≤j∧j < 2 ^ 62∧R (Itr 0 j.toNat) H1
def iRng2 (ta:TA):TI:=fun σ H R=>ta σ H fun vs H1=>∃ i j:Int,vs=[.int i,.int j]∧(-(2 ^ 62)≤i∧i < 2 ^ 62∧-(2 ^ 62)≤j∧j < 2 ^ 62)∧R (Itr i (j - i).toNat) H1
theorem pi_range1 {a:Expr}{ta:TA}{p pos:Pos} (hg:Gl X "range") (hm:X.mg "range" = none) (ha:PA X [a] ta) (hs:starEach [a] X.env=[(false,eval a X.env)]:=by rfl):PI X tg (.Call (.Name "range" p) [a] [] pos) (iRng1 ta):=by
  intro pins s σ H R I h
  refine Call_ (ld_blt I hg hm boot_range (PyProof.Rows.callWith_type1 (thn (ha pos pins s σ H _ I h) fun us s1 ⟨vs,H1,I1,r1,q1⟩=>?_) hs rfl))
  obtain ⟨j,e,q1,q2,q⟩:=q1
  subst e
  cases r1 with
  | cons r rr =>
    cases rr
    obtain ⟨t,rfl⟩:=r
    exact call_range_1 (range_it I1 (by omega) (by omega) q1 q2 (by simpa using q))
theorem pi_range2 {a b:Expr}{ta:TA}{p pos:Pos} (hg:Gl X "range") (hm:X.mg "range" = none) (ha:PA X [a,b] ta) (hs:starEach [a,b] X.env=[(false,eval a X.env),(false,eval b X.env)]:=by rfl) (hs2:starEach [b] X.env=[(false,eval b X.env)]:=by rfl) :
    PI X tg (.Call (.Name "range" p) [a,b] [] pos) (iRng2 ta):=by
  intro pins s σ H R I h
  refine Call_ (ld_blt I hg hm boot_range (PyProof.Rows.callWith_type1 (thn (ha pos pins s σ H _ I h) fun us s1 ⟨vs,H1,I1,r1,q1⟩=>?_) (by rw [hs,hs2]) (by rw [hs2]; rfl)))
  obtain ⟨i,j,e,⟨q1,q2,q3,q4⟩,q⟩:=q1
  subst e
  cases r1 with
  | cons r rr =>
    cases rr with
    | cons r' rr =>
      cases rr
      obtain ⟨t,rfl⟩:=r
      obtain ⟨t',rfl⟩:=r'
      exact call_range_2 (range_it I1 q1 q2 q3 q4 q)
def tFor (wi:TI) (g:TG) (tb:TS):TS:=fun D σ H=>wi σ H fun J H1=>∃ W:Nat→Nat→St→Hp→Prop,(∃ m,W 0 m σ H1)∧∀ i m σ H,W i m σ H →
  (J.stop i H∧D.nx σ H)∨(J.go i H∧∃ N:St→Hp→Prop,(∀ σ' H',N σ' H'→∃ m',m' < m∧W (i+1) m' σ' H')∧∀ x H',J.yld i H x H'→g x σ H' fun σ2 H2=>tb { D with nx:=N,ct:=N,bk:=D.nx } σ2 H2)
def pinsAt (fp:List Addr) (h:Heap):List (Addr × Obj):=fp.filterMap fun b=>(h.get? b).map fun o=>(b,o)
theorem mem_pinsAt {fp:List Addr}{h:Heap}{b:Addr}{o:Obj} (hb:b∈fp) (e:h.get? b=some o):(b,o)∈pinsAt fp h:=List.mem_filterMap.mpr ⟨b,hb,by rw [e]; rfl⟩
theorem of_pinsAt {fp:List Addr}{h:Heap}{p:Addr × Obj} (hp:p∈pinsAt fp h):p.1∈fp∧h.get? p.1=some p.2:=by
  obtain ⟨b,hb,e⟩:=List.mem_filterMap.mp hp
  cases q:h.get? b with
  | none=>rw [q] at e; cases e
  | some o =>
    rw [q] at e
    have e':(b,o)=p:=Option.some.inj e
    subst e'
    exact ⟨hb,q⟩
theorem Inv.pinned {pins:List (Addr × Obj)}{σ:St}{H:Hp}{s:Shared}{fp:List Addr} (I:Inv X pins σ H s) (hf:∀ b∈fp,FpOk X pins H b) (ho:∀ b∈fp,∃ o,s.heap.get? b=some o∧∀ v,o.data≠.cell v):Inv X (pins++pinsAt fp s.heap) σ H s :=
  I.pins_of fun p hp=>(List.mem_append.mp hp).elim (fun z=>I.pin p (List.mem_append_right _ z)) fun z=>by
    obtain ⟨hb,e⟩:=of_pinsAt z
    obtain ⟨f0,f1,f2,_⟩:=hf p.1 hb
    obtain ⟨o,e',d⟩:=ho p.1 hb
    rw [e] at e'; cases e'
    exact ⟨e,f0,f1,f2,d⟩
theorem Inv.unpinned {pins pl:List (Addr × Obj)}{σ:St}{H:Hp}{s:Shared} (I:Inv X (pins++pl) σ H s):Inv X pins σ H s:=I.pins_of fun p hp=>I.pin p (List.mem_append_right _ (List.mem_append_left _ hp))
theorem ps_for {iter:Expr}{body:List Stmt}{wi:TI}{g:TG}{tb:TS}{pos:Pos} (hp:PassesOwn (model X.prog X.w) X.A X.env X.xe) (hc:X.calm=true) (hi:PI X tg iter wi) (hg:PG X tg g) (hb:PSs X body tb)
    (hs:∀ x,foldedSetIterable iter X.env x=pure x:=by intro _; rfl):PS X (.For tg iter body [] pos) (tFor wi g tb):=by
  intro pins s σ H D I h
  refine wpAny_For (thn (hi pins s σ H _ I h) fun v s1 h1=>thn h1 fun itv s2 h2=>?_) hs
  obtain ⟨it,fp,tn,J,H2,e,I2,T,st2,f2,W,⟨m0,w0⟩,turn⟩:=h2
  subst e
  have stat:∀ {H':Hp},(∀ b∈fp,H' b=none)→∀ b∈fp,FpOk X pins H' b:=fun hn b hb=>⟨hn b hb,(f2 b hb).2⟩
  refine codeAny_forLoop_any (fun n s'=>∃ i σ' H',Inv X pins σ' H' s'∧tn i s'.heap∧(∀ b∈fp,H' b=none)∧W i n σ' H') ?_ m0 ⟨0,σ,H2,I2,st2,fun b hb=>(f2 b hb).1,w0⟩
  rintro n s3 ⟨i,σ3,H3,I3,st3,fr3,w3⟩
  rcases turn i n σ3 H3 w3 with ⟨stop,qn⟩ | ⟨go,N,hN,step⟩
  · refine wpAny_passesOwn hp (thn (T.done X rfl rfl rfl hc i pins s3 σ3 H3 X.xe I3 (stat fr3) st3 stop) fun r s4 ⟨hr,I4⟩=>?_)
    subst hr
    exact wpAny_execs_nil ⟨σ3,H3,I4,qn⟩
  · refine wpAny_passesOwn hp (thn (T.item X rfl rfl rfl hc i pins s3 σ3 H3 X.xe I3 (stat fr3) st3 go) fun r s4 ⟨u,hr,h4⟩=>?_)
    subst hr
    refine wpAny_passesOwn hp (thn h4 fun _ s5 ⟨x,H5,I5,r5,y5,st5,fr5⟩=>?_)
    have I5':=I5.pinned (stat fr5) (T.obj _ _ st5)
    refine wpAny_passesOwn hp (thn (hg _ s5 σ3 H5 x u _ I5' r5 (step x H5 y5)) fun _ s6 ⟨σ6,H6,I6,q6⟩=>?_)
    refine wpAny_passesOwn hp (thn (hb _ s6 σ6 H6 _ I6 q6) fun f s7 q7=>?_)
    have again:∀ {σ7:St} {H7:Hp},Inv X (pins++pinsAt fp s5.heap) σ7 H7 s7→N σ7 H7→∃ m,m < n∧∃ i σ' H',Inv X pins σ' H' s7∧tn i s7.heap∧(∀ b∈fp,H' b=none)∧W i m σ' H':=fun {σ7 H7} I7 n7=>by
      obtain ⟨m',hm,w7⟩:=hN σ7 H7 n7
      refine ⟨m',hm,i+1,σ7,H7,I7.unpinned,T.keep _ _ _ st5 fun b hb o e=>(I7.pin (b,o) (List.mem_append_right _ (List.mem_append_right _ (mem_pinsAt hb e)))).1,fun b hb=>?_,w7⟩
      obtain ⟨o,e,d⟩:=T.obj _ _ st5 b hb
      exact (I7.pin (b,o) (List.mem_append_right _ (List.mem_append_right _ (mem_pinsAt hb e)))).2.1
    cases f with
    | next=>obtain ⟨σ7,H7,I7,n7⟩:=q7; exact again I7 n7
    | cont=>obtain ⟨σ7,H7,I7,n7⟩:=q7; exact again I7 n7
    | brk=>obtain ⟨σ7,H7,I7,q7⟩:=q7; exact ⟨σ7,H7,I7.unpinned,q7⟩
    | ret v=>obtain ⟨x7,σ7,H7,I7,r7,q7⟩:=q7; exact ⟨x7,σ7,H7,I7.unpinned,r7,q7⟩
end
end L2
namespace L2
open PySem PySem.Spec PyProof.Rows
abbrev R2:=V→V→Hp→VK→Prop
def OpR (X:Cx) (f:Value→Value→Sem Value) (r:R2):Prop :=
  ∀ (pins:List (Addr × Obj)) (s:Shared) (σ:St) (H:Hp) (x y:V) (v u:Value) (Q:VK),Inv X pins σ H s→RelV x v→RelV y u→r x y H Q →
    wpAny (model X.prog X.w) X.A (f v u) (EP X pins σ Q) X.xe s
def UnR (X:Cx) (f:Value→Sem Value) (r:V→Hp→VK→Prop):Prop :=
  ∀ (pins:List (Addr × Obj)) (s:Shared) (σ:St) (H:Hp) (x:V) (v:Value) (Q:VK),Inv X pins σ H s→RelV x v→r x H Q →
    wpAny (model X.prog X.w) X.A (f v) (EP X pins σ Q) X.xe s
def CallR (X:Cx) (f:Value) (r:List V→Hp→VK→Prop):Prop :=
  ∀ (pins:List (Addr × Obj)) (s:Shared) (σ:St) (H:Hp) (xs:List V) (us:List Value) (Q:VK),Inv X pins σ H s→Vals xs us→r xs H Q →
    wpAny (model X.prog X.w) X.A (call f us) (EP X pins σ Q) X.xe s
def tOp (r:R2) (ta tb:TE):TE:=fun σ H Q=>ta σ H fun x H1=>tb σ H1 fun y H2=>r x y H2 Q
def tUn (r:V→Hp→VK→Prop) (ta:TE):TE:=fun σ H Q=>ta σ H fun x H1=>r x H1 Q
def rI (C:Int→Int→Prop) (g:Int→Int→V):R2:=fun x y H Q=>∃ i j,x=.int i∧y=.int j∧C i j∧Q (g i j) H
def rI0 (g:Int→Int→V):R2:=fun x y H Q=>∃ i j,x=.int i∧y=.int j∧Q (g i j) H
def rU (g:Int→V):V→Hp→VK→Prop:=fun x H Q=>∃ i,x=.int i∧Q (g i) H
section
variable {X:Cx}{a b c:Expr}{ta tb tc:TE}{pos:Pos}
theorem binT (ha:PE X a ta) (hb:PE X b tb) {pins:List (Addr × Obj)}{s:Shared}{σ:St}{H:Hp}{R:V→V→Hp→Prop} (I:Inv X pins σ H s)
    (h:ta σ H fun x H1=>tb σ H1 fun y H2=>R x y H2) {Q:Value→Shared→Prop} {f:Value→Value→Sem Value}
    (hf:∀ v u s2 x y H2,Inv X pins σ H2 s2→RelV x v→RelV y u→R x y H2→wpAny (model X.prog X.w) X.A (f v u) Q X.xe s2) :
    wpAny (model X.prog X.w) X.A (eval a X.env) (fun v s₁=>wpAny (model X.prog X.w) X.A (eval b X.env) (fun u s₂=>wpAny (model X.prog X.w) X.A (f v u) Q X.xe s₂) X.xe s₁) X.xe s:=by
  refine thn (ha pins s σ H _ I h) fun v s1 ⟨x,H1,I1,r1,q1⟩=>?_
  refine thn (hb pins s1 σ H1 _ I1 q1) fun u s2 ⟨y,H2,I2,r2,q2⟩=>?_
  exact hf v u s2 x y H2 I2 r1 r2 q2
theorem pe_op {op:Operator}{r:R2} (ho:OpR X (binaryOp op) r) (ha:PE X a ta) (hb:PE X b tb):PE X (.BinOp a op b pos) (tOp r ta tb):=by
  intro pins s σ H Q I h
  exact wpAny_BinOp (binT ha hb I h fun v u s2 x y H2 I2 rx ry q=>ho pins s2 σ H2 x y v u Q I2 rx ry q)
theorem pe_un {op:UnaryOp}{r:V→Hp→VK→Prop} (ho:UnR X (unaryOp op) r) (ha:PE X a ta):PE X (.UnaryOp op a pos) (tUn r ta):=by
  intro pins s σ H Q I h
  exact UnaryOp_ (thn (ha pins s σ H _ I h) fun v s1 ⟨x,H1,I1,r1,q1⟩=>ho pins s1 σ H1 x v Q I1 r1 q1)
theorem opI {f:Value→Value→Sem Value}{C:Int→Int→Prop}{g:Int→Int→Int}
    (rule:∀ (i j:Int) (t u:Tok) (s:Shared) (Q:Value→Shared→Prop) (E:Value→Shared→Prop),C i j→Q (.int (g i j) s.toks) { s with toks:=s.toks+1 }→wpAny (model X.prog X.w) X.A (f (.int i t) (.int j u)) Q E s) :
    OpR X f (rI C fun i j=>.int (g i j)):=by
  intro pins s σ H x y v u Q I rx ry h
  obtain ⟨i,j,rfl,rfl,hc,q⟩:=h
  obtain ⟨t,rfl⟩:=rx
  obtain ⟨t',rfl⟩:=ry
  exact rule i j t t' s _ _ hc ⟨.int (g i j),H,I.tok _,⟨_,rfl⟩,q⟩
theorem opI0 {f:Value→Value→Sem Value}{g:Int→Int→Int}
    (rule:∀ (i j:Int) (t u:Tok) (s:Shared) (Q:Value→Shared→Prop) (E:Value→Shared→Prop),Q (.int (g i j) s.toks) { s with toks:=s.toks+1 }→wpAny (model X.prog X.w) X.A (f (.int i t) (.int j u)) Q E s) :
    OpR X f (rI0 fun i j=>.int (g i j)):=by
  intro pins s σ H x y v u Q I rx ry h
  obtain ⟨i,j,rfl,rfl,q⟩:=h
  obtain ⟨t,rfl⟩:=rx
  obtain ⟨t',rfl⟩:=ry
  exact rule i j t t' s _ _ ⟨.int (g i j),H,I.tok _,⟨_,rfl⟩,q⟩
theorem opB0 {f:Value→Value→Sem Value}{g:Int→Int→Bool}
    (rule:∀ (i j:Int) (t u:Tok) (s:Shared) (Q:Value→Shared→Prop) (E:Value→Shared→Prop),Q (.bool (g i j)) s→wpAny (model X.prog X.w) X.A (f (.int i t) (.int j u)) Q E s) :
    OpR X f (rI0 fun i j=>.bl (g i j)):=by
  intro pins s σ H x y v u Q I rx ry h
  obtain ⟨i,j,rfl,rfl,q⟩:=h
  obtain ⟨t,rfl⟩:=rx
  obtain ⟨t',rfl⟩:=ry
  exact rule i j t t' s _ _ ⟨.bl (g i j),H,I,rfl,q⟩
def CDiv (i j:Int):Prop:=0 < j∧j < 1073741824
def CMul (i j:Int):Prop:=(-(2 ^ 64) < i∧i < 2 ^ 64)∨(-(2 ^ 64) < j∧j < 2 ^ 64)
theorem CMul.ok {i j:Int} (h:CMul i j):IntMulOk i j:=by
  rcases h with ⟨h1,h2⟩ | ⟨h1,h2⟩
  · exact .of_left (intBits_le_64 h1 h2)
  · exact .of_right (intBits_le_64 h1 h2)
theorem op_add:OpR X (binaryOp .Add) (rI0 fun i j=>.int (i+j)):=opI0 fun _ _ _ _ _ _ _ q=>add_int q
theorem op_sub:OpR X (binaryOp .Sub) (rI0 fun i j=>.int (i - j)):=opI0 fun _ _ _ _ _ _ _ q=>sub_int q
theorem op_mul:OpR X (binaryOp .Mult) (rI CMul fun i j=>.int (i * j)):=opI fun _ _ _ _ _ _ _ hc q=>mul_int q hc.ok
theorem op_fdiv:OpR X (binaryOp .FloorDiv) (rI CDiv fun i j=>.int (i / j)):=opI fun i j _ _ _ _ _ hc q=>by
  have h1:(0:Int) < j:=hc.1
  have h2:j < 1073741824:=hc.2
  exact floordiv_int (by omega) (by rw [Int.fdiv_eq_ediv_of_nonneg i (by omega)]; exact q) (.inl (PyProof.noPylong_small (by omega)))
theorem op_mod:OpR X (binaryOp .Mod) (rI (fun _ j=>0 < j) fun i j=>.int (i % j)):=opI fun i j _ _ _ _ _ hc q=>by
  have h1:(0:Int) < j:=hc
  exact mod_int' (by omega) (by rw [Int.fmod_eq_emod_of_nonneg i (by omega)]; exact q)
theorem unI {f:Value→Sem Value}{g:Int→Int}
    (rule:∀ (i:Int) (t:Tok) (s:Shared) (Q:Value→Shared→Prop) (E:Value→Shared→Prop),Q (.int (g i) s.toks) { s with toks:=s.toks+1 }→wpAny (model X.prog X.w) X.A (f (.int i t)) Q E s) :
    UnR X f (rU fun i=>.int (g i)):=by
  intro pins s σ H x v Q I rx h
  obtain ⟨i,rfl,q⟩:=h
  obtain ⟨t,rfl⟩:=rx
  exact rule i t s _ _ ⟨.int (g i),H,I.tok _,⟨_,rfl⟩,q⟩
theorem un_neg:UnR X (unaryOp .USub) (rU fun i=>.int (-i)):=unI fun _ _ _ _ _ q=>neg_int q
end
def scal:V→V→Bool
  | .non,.non=>true | .non,.int _=>true | .int _,.non=>true | .non,.bl _=>true | .bl _,.non=>true | .non,.str _=>true | .str _,.non=>true
  | .int _,.int _=>true | .bl _,.bl _=>true | .str _,.str _=>true | .byt _,.byt _=>true
  | .int _,.str _=>true | .str _,.int _=>true | .bl _,.str _=>true | .str _,.bl _=>true
  | _,_=>false
def rEq:R2:=fun x y H Q=>scal x y=true∧Q (.bl (decide (x=y))) H
def rNe:R2:=fun x y H Q=>scal x y=true∧Q (.bl (!decide (x=y))) H
theorem dec_int {i j:Int}:decide (V.int i=V.int j)=(i == j):=by
  rw [Bool.eq_iff_iff]
  simp
theorem dec_bl {i j:Bool}:decide (V.bl i=V.bl j)=(i == j):=by
  rw [Bool.eq_iff_iff]
  simp
theorem dec_str {i j:Str}:decide (V.str i=V.str j)=(i == j):=by
  rw [Bool.eq_iff_iff]
  simp
theorem dec_byt {i j:Array UInt8}:decide (V.byt i=V.byt j)=(i.toList == j.toList):=by
  rw [Bool.eq_iff_iff]
  cases i
  cases j
  simp
section
variable {X:Cx}{a b c:Expr}{ta tb tc:TE}{pos:Pos}
theorem fin_bl {pins:List (Addr × Obj)}{σ:St}{H:Hp}{s:Shared}{Q:VK}{k k':Bool} (I:Inv X pins σ H s) (q:Q (.bl k) H) (e:k=k'):EP X pins σ Q (.bool k') s:=by
  subst e
  exact ⟨.bl k,H,I,rfl,q⟩
theorem op_eq:OpR X (compareOp .Eq) rEq:=by
  intro pins s σ H x y v u Q I rx ry h
  obtain ⟨hs,q⟩:=h
  cases x with
  | non =>
    cases rx
    cases y with
    | non=>cases ry; exact PySem.EqNone.eq_none_none (fin_bl I q (by simp))
    | bl j=>cases ry; exact PySem.EqNone.eq_none_bool (fin_bl I q (by simp))
    | int j=>obtain ⟨t',rfl⟩:=ry; exact PySem.EqNone.eq_none_int (fin_bl I q (by simp))
    | str j=>obtain ⟨t',rfl⟩:=ry; exact PySem.EqNone.eq_none_str (fin_bl I q (by simp))
    | _=>exact absurd (show false=true from hs) Bool.false_ne_true
  | bl i =>
    cases rx
    cases y with
    | non=>cases ry; exact PySem.EqNone.eq_bool_none (fin_bl I q (by simp))
    | bl j=>cases ry; exact eq_bool (fin_bl I q dec_bl)
    | str j=>obtain ⟨t',rfl⟩:=ry; exact PySem.EqMixed.eq_bool_str (fin_bl I q (by simp))
    | _=>exact absurd (show false=true from hs) Bool.false_ne_true
  | int i =>
    obtain ⟨t,rfl⟩:=rx
    cases y with
    | non=>cases ry; exact PySem.EqNone.eq_int_none (fin_bl I q (by simp))
    | int j=>obtain ⟨t',rfl⟩:=ry; exact eq_int (fin_bl I q dec_int)
    | str j=>obtain ⟨t',rfl⟩:=ry; exact PySem.EqMixed.eq_int_str (fin_bl I q (by simp))
    | _=>exact absurd (show false=true from hs) Bool.false_ne_true
  | str i =>
    obtain ⟨t,rfl⟩:=rx
    cases y with
    | non=>cases ry; exact PySem.EqNone.eq_str_none (fin_bl I q (by simp))
    | bl j=>cases ry; exact PySem.EqMixed.eq_str_bool (fin_bl I q (by simp))
    | int j=>obtain ⟨t',rfl⟩:=ry; exact PySem.EqMixed.eq_str_int (fin_bl I q (by simp))
    | str j=>obtain ⟨t',rfl⟩:=ry; exact eq_str (fin_bl I q dec_str)
    | _=>exact absurd (show false=true from hs) Bool.false_ne_true
  | byt i =>
    obtain ⟨t,rfl⟩:=rx
    cases y with
    | byt j=>obtain ⟨t',rfl⟩:=ry; exact PySem.W.eq_bytes (fin_bl I q dec_byt)
    | _=>exact absurd (show false=true from hs) Bool.false_ne_true
  | _=>cases y <;> exact absurd (show false=true from hs) Bool.false_ne_true
theorem op_ne:OpR X (compareOp .NotEq) rNe:=by
  intro pins s σ H x y v u Q I rx ry h
  obtain ⟨hs,q⟩:=h
  cases x with
  | non =>
    cases rx
    cases y with
    | non=>cases ry; exact PySem.EqNone.ne_none_none (fin_bl I q (by simp))
    | bl j=>cases ry; exact PySem.EqNone.ne_none_bool (fin_bl I q (by simp))
    | int j=>obtain ⟨t',rfl⟩:=ry; exact PySem.EqNone.ne_none_int (fin_bl I q (by simp))
    | str j=>obtain ⟨t',rfl⟩:=ry; exact PySem.EqNone.ne_none_str (fin_bl I q (by simp))
    | _=>exact absurd (show false=true from hs) Bool.false_ne_true
  | bl i =>
    cases rx
    cases y with
    | non=>cases ry; exact PySem.EqNone.ne_bool_none (fin_bl I q (by simp))
    | bl j=>cases ry; exact ne_bool (fin_bl I q (congrArg not dec_bl))
    | str j=>obtain ⟨t',rfl⟩:=ry; exact PySem.EqMixed.ne_bool_str (fin_bl I q (by simp))
    | _=>exact absurd (show false=true from hs) Bool.false_ne_true
  | int i =>
    obtain ⟨t,rfl⟩:=rx
    cases y with
    | non=>cases ry; exact PySem.EqNone.ne_int_none (fin_bl I q (by simp))
    | int j=>obtain ⟨t',rfl⟩:=ry; exact ne_int (fin_bl I q (congrArg not dec_int))
    | str j=>obtain ⟨t',rfl⟩:=ry; exact PySem.EqMixed.ne_int_str (fin_bl I q (by simp))
    | _=>exact absurd (show false=true from hs) Bool.false_ne_true
  | str i =>
    obtain ⟨t,rfl⟩:=rx
    cases y with
    | non=>cases ry; exact PySem.EqNone.ne_str_none (fin_bl I q (by simp))
    | bl j=>cases ry; exact PySem.EqMixed.ne_str_bool (fin_bl I q (by simp))
    | int j=>obtain ⟨t',rfl⟩:=ry; exact PySem.EqMixed.ne_str_int (fin_bl I q (by simp))
    | str j=>obtain ⟨t',rfl⟩:=ry; exact ne_str (fin_bl I q (congrArg not dec_str))
    | _=>exact absurd (show false=true from hs) Bool.false_ne_true
  | byt i =>
    obtain ⟨t,rfl⟩:=rx
    cases y with
    | byt j=>obtain ⟨t',rfl⟩:=ry; exact PySem.W.ne_bytes (fin_bl I q (congrArg not dec_byt))
    | _=>exact absurd (show false=true from hs) Bool.false_ne_true
  | _=>cases y <;> exact absurd (show false=true from hs) Bool.false_ne_true
theorem op_lt:OpR X (compareOp .Lt) (rI0 fun i j=>.bl (decide (i < j))):=opB0 fun _ _ _ _ _ _ _ q=>lt_int q
theorem op_le:OpR X (compareOp .LtE) (rI0 fun i j=>.bl (decide (i≤j))):=opB0 fun _ _ _ _ _ _ _ q=>le_int q
theorem op_gt:OpR X (compareOp .Gt) (rI0 fun i j=>.bl (decide (j < i))):=opB0 fun _ _ _ _ _ _ _ q=>gt_int q
theorem op_lt_str:OpR X (compareOp .Lt) (fun x y H Q=>∃ i j,x=.str i∧y=.str j∧Q (.bl (decide (i.cps.toList < j.cps.toList))) H):=by
  intro pins s σ H x y v u Q I rx ry h
  obtain ⟨i,j,rfl,rfl,q⟩:=h
  obtain ⟨t,rfl⟩:=rx
  obtain ⟨t',rfl⟩:=ry
  exact lt_str (fin_bl I q rfl)
theorem op_in_str:OpR X (compareOp .In) (fun x y H Q=>∃ i j,x=.str i∧y=.str j∧Q (.bl (!(Builtin.Str.occurrences j i 0 j.length 1).isEmpty)) H):=by
  intro pins s σ H x y v u Q I rx ry h
  obtain ⟨i,j,rfl,rfl,q⟩:=h
  obtain ⟨t,rfl⟩:=rx
  obtain ⟨t',rfl⟩:=ry
  exact in_str (fin_bl I q rfl)
theorem op_isN:OpR X (compareOp .Is) (fun x y H Q=>y=.non∧Q (.bl (decide (x=.non))) H):=by
  intro pins s σ H x y v u Q I rx ry h
  obtain ⟨rfl,q⟩:=h
  cases ry
  refine is_none_gen (fin_bl I q ?_)
  cases x <;> first
    | (cases rx; rfl)
    | (obtain ⟨t,rfl⟩:=rx; rfl)
theorem op_notN:OpR X (compareOp .IsNot) (fun x y H Q=>y=.non∧Q (.bl (!decide (x=.non))) H):=by
  intro pins s σ H x y v u Q I rx ry h
  obtain ⟨rfl,q⟩:=h
  cases ry
  refine isnot_none_gen (fin_bl I q ?_)
  cases x <;> first
    | (cases rx; rfl)
    | (obtain ⟨t,rfl⟩:=rx; rfl)
theorem OpR.or {f:Value→Value→Sem Value}{r r':R2} (h:OpR X f r) (h':OpR X f r'):OpR X f (fun x y H Q=>r x y H Q∨r' x y H Q):=by
  intro pins s σ H x y v u Q I rx ry q
  rcases q with q | q
  · exact h pins s σ H x y v u Q I rx ry q
  · exact h' pins s σ H x y v u Q I rx ry q
theorem nomark (b:Expr) {op:CmpOp} (h:op≠.In:=by decide) (h2:op≠.NotIn:=by decide):behindInMarks op b=false:=by
  have e1:(op == CmpOp.In)=false:=by cases op <;> first | rfl | exact absurd rfl h
  have e2:(op == CmpOp.NotIn)=false:=by cases op <;> first | rfl | exact absurd rfl h2
  cases b <;> simp [behindInMarks,e1,e2]
theorem pe_cmpR {op:CmpOp}{r:R2} (ho:OpR X (compareOp op) r) (ha:PE X a ta) (hb:PE X b tb) (hm:behindInMarks op b=false):PE X (.Compare a [op] [b] pos) (tOp r ta tb):=by
  intro pins s σ H Q I h
  exact wpAny_Compare1 (binT ha hb I h fun v u s2 x y H2 I2 rx ry q=>ho pins s2 σ H2 x y v u Q I2 rx ry q) hm
def tTest (t:TE):TT:=fun σ H Q=>t σ H fun x H'=>∃ k,x=.bl k∧Q k H'
theorem pt_cmpR {op:CmpOp}{r:R2} (ho:OpR X (compareOp op) r) (ha:PE X a ta) (hb:PE X b tb) (hm:behindInMarks op b=false):PT X (.Compare a [op] [b] pos) (tTest (tOp r ta tb)):=by
  intro pins s σ H Q I h
  refine wpAny_isTrue_Compare1 (thn (ha pins s σ H _ I h) fun v s1 ⟨x,H1,I1,r1,q1⟩=>thn (hb pins s1 σ H1 _ I1 q1) fun u s2 ⟨y,H2,I2,r2,q2⟩ =>
    thn (ho pins s2 σ H2 x y v u _ I2 r1 r2 q2) fun c s3 ⟨z,H3,I3,r3,k,e,q3⟩=>?_) hm
  subst e
  cases r3
  exact wpAny_truthy_bool ⟨H3,I3,q3⟩
def tChain (r r':R2) (ta tb tc:TE):TE:=fun σ H Q=>ta σ H fun x H1=>tb σ H1 fun y H2=>r x y H2 fun z H3=>∃ k,z=.bl k ∧
  (if k=true then tc σ H3 fun w' H4=>r' y w' H4 Q else Q (.bl false) H3)
theorem pe_chain {op op':CmpOp}{r r':R2} (ho:OpR X (compareOp op) r) (ho':OpR X (compareOp op') r') (ha:PE X a ta) (hb:PE X b tb) (hc:PE X c tc)
    (hm:lastMarks [op,op'] [b,c]=false:=by with_unfolding_all rfl):PE X (.Compare a [op,op'] [b,c] pos) (tChain r r' ta tb tc):=by
  intro pins s σ H Q I h
  refine Compare_chain (thn (ha pins s σ H _ I h) fun v s1 ⟨x,H1,I1,r1,q1⟩=>chain_link (thn (hb pins s1 σ H1 _ I1 q1) fun u s2 ⟨y,H2,I2,r2,q2⟩ =>
    thn (ho pins s2 σ H2 x y v u _ I2 r1 r2 q2) fun d s3 ⟨z,H3,I3,r3,k,e,q3⟩=>?_)) hm
  subst e
  cases r3
  refine wpAny_truthy_bool ?_
  cases k with
  | false=>exact ite_ff ⟨.bl false,H3,I3,rfl,q3⟩
  | true=>exact ite_tt (chain_last (thn (hc pins s3 σ H3 _ I3 q3) fun w' s4 ⟨z',H4,I4,r4,q4⟩=>ho' pins s4 σ H4 y z' u w' Q I4 r2 r4 q4))
theorem pt_chain {op op':CmpOp}{r r':R2} (ho:OpR X (compareOp op) r) (ho':OpR X (compareOp op') r') (ha:PE X a ta) (hb:PE X b tb) (hc:PE X c tc)
    (hm:lastMarks [op,op'] [b,c]=false:=by with_unfolding_all rfl):PT X (.Compare a [op,op'] [b,c] pos) (tTest (tChain r r' ta tb tc)):=by
  intro pins s σ H Q I h
  refine isTrue_chain (thn (ha pins s σ H _ I h) fun v s1 ⟨x,H1,I1,r1,q1⟩=>test_link (thn (hb pins s1 σ H1 _ I1 q1) fun u s2 ⟨y,H2,I2,r2,q2⟩ =>
    thn (ho pins s2 σ H2 x y v u _ I2 r1 r2 q2) fun d s3 ⟨z,H3,I3,r3,k,e,q3⟩=>?_)) hm
  subst e
  cases r3
  refine wpAny_truthy_bool ?_
  cases k with
  | false =>
    obtain ⟨k',e',q'⟩:=q3
    cases e'
    exact ite_ff ⟨H3,I3,q'⟩
  | true =>
    refine ite_tt (test_last (thn (hc pins s3 σ H3 _ I3 q3) fun w' s4 ⟨z',H4,I4,r4,q4⟩=>thn (ho' pins s4 σ H4 y z' u w' _ I4 r2 r4 q4) fun d' s5 ⟨z2,H5,I5,r5,k2,e2,q5⟩=>?_))
    subst e2
    cases r5
    exact wpAny_truthy_bool ⟨H5,I5,q5⟩
theorem line63:(sizeLine:Nat) < 2 ^ 63:=by rw [sizeLine_eq]; decide
theorem op_add_str:OpR X (binaryOp .Add) (fun x y H Q=>∃ i j,x=.str i∧y=.str j∧i.length+j.length≤sizeLine∧Q (.str (i++j)) H):=by
  intro pins s σ H x y v u Q I rx ry h
  obtain ⟨i,j,rfl,rfl,hz,q⟩:=h
  obtain ⟨t,rfl⟩:=rx
  obtain ⟨t',rfl⟩:=ry
  exact add_str (fun t' tk=>⟨.str (i++j),H,I.tok _,⟨_,rfl⟩,q⟩) hz
theorem vals1 {x:V}{us:List Value} (r:Vals [x] us):∃ u,us=[u]∧RelV x u:=by
  cases r with
  | cons r1 r2=>cases r2; exact ⟨_,rfl,r1⟩
theorem vals2 {x y:V}{us:List Value} (r:Vals [x,y] us):∃ u w',us=[u,w']∧RelV x u∧RelV y w':=by
  cases r with
  | cons r1 r2 =>
    cases r2 with
    | cons r3 r4=>cases r4; exact ⟨_,_,rfl,r1,r3⟩
end
end L2
namespace L2
open PySem PySem.Spec PyProof.Rows
structure ObjM (h:Heap) (x dx C:Addr) (mA:Str→Option Value):Prop where
  obj:h.get? x=some (PySem.W.instObj C dx)
  ns:h.Ns1 dx mA
  ne:dx≠x
theorem lookIn_ns {h:Heap}{dx:Addr}{mA:Str→Option Value} (n:h.Ns1 dx mA):∃ od,h.get? dx=some od∧∀ name,PySem.W.lookIn name od=some (mA name):=by
  obtain ⟨o,es,ep,ho,hd,hk,_,hm⟩:=n
  refine ⟨o,ho,fun name=>?_⟩
  have e:=hm name
  unfold nsFind findBy at e
  rw [← Array.find?_toList] at e
  unfold PySem.W.lookIn
  rw [hd]
  dsimp only
  split
  · rename_i y q
    rw [q] at e
    exact congrArg some e
  · rename_i q
    rw [q] at e
    have a:es.toList.any (·.refKey)=false:=by
      rw [List.any_eq_false]
      intro y hy
      obtain ⟨z,t,hkey⟩:=hk y (Array.mem_toList_iff.mp hy)
      simp [DictEntry.refKey,hkey]
    have a':¬ es.toList.any (·.refKey)=true:=by rw [a]; exact Bool.false_ne_true
    rw [if_neg a']
    exact congrArg some e
theorem ObjM.look {h:Heap}{x dx C:Addr}{mA:Str→Option Value} (I:ObjM h x dx C mA):∃ od,PySem.W.InstAt h x (PySem.W.instObj C dx) C (some od)∧∀ name,PySem.W.lookIn name od=some (mA name) :=
  let ⟨od,ho,hl⟩:=lookIn_ns I.ns
  ⟨od,⟨I.obj,rfl,rfl,ho⟩,hl⟩
section
variable {prog:Program}{w:World}{A:Around}{E:Value→Shared→Prop}{s:Shared}{K:PySem.W.Frag}{x dx C f:Addr}{mA:Str→Option Value}{name:Str}{v:Value}
end
theorem RelO.some_of {v:V}{o:Option Value} (r:RelO (some v) o):∃ u,o=some u∧RelV v u:=by
  cases o with
  | none=>exact (show False from r).elim
  | some u=>exact ⟨u,rfl,r⟩
section
variable {P:Program}{w:World}{H H':Hp}{h h':Heap}{a C dx:Addr}{fs fs':List (Str × V)}
theorem ins_get (hok:HOk P w H h) (e:H a=some (.ins C dx fs)):∃ mA,ObjM h a dx C mA∧(∀ f,RelO (fs.lookup f) (mA f))∧PySem.Within mA (fs.map (·.1))∧fs.length≤1000∧H dx=some (.own a):=by
  obtain ⟨d,z,ne,ob,mA,n,r,q⟩:=(show ObjOk P w H h a (.ins C dx fs) from hok a _ e)
  exact ⟨mA,⟨ob,n,ne⟩,r,q,z,d⟩
end
structure Cls (K:PySem.W.Frag) (C:Addr):Prop where
  pg:PySem.W.plainGet K C Str.empty=true
  hd:PySem.W.hasDictIn K C=true
  po:PySem.W.plainOver K C=true
  sa:PySem.W.findIn K (.ref C) "__setattr__" = some (some (.builtin "object.__setattr__"))
theorem Cls.get {K:PySem.W.Frag}{C:Addr} (c:Cls K C) (f:Str):PySem.W.plainGet K C f=true:=c.pg
section
variable {X:Cx}{pins:List (Addr × Obj)}{σ:St}{H:Hp}{s:Shared}{a C dx:Addr}{fs:List (Str × V)}{f:Str}{v:V}{A:Around}{E:Value→Shared→Prop}
theorem Inv.made (I:Inv X pins σ H s):Inv X pins σ (upd (upd H s.heap.objs.size (.own (s.heap.objs.size+1))) (s.heap.objs.size+1) (.ins C s.heap.objs.size []))
    { s with heap:=(s.heap.push PySem.W.emptyDict).push (PySem.W.instObj C s.heap.objs.size) }:=by
  have e1:(s.heap.push PySem.W.emptyDict).get? s.heap.objs.size=some PySem.W.emptyDict:=Heap.get?_push_size s.heap rfl
  have e2:((s.heap.push PySem.W.emptyDict).push (PySem.W.instObj C s.heap.objs.size)).get? (s.heap.objs.size+1)=some (PySem.W.instObj C s.heap.objs.size):=by
    have:=Heap.get?_push_size (s.heap.push PySem.W.emptyDict) (o:=PySem.W.instObj C s.heap.objs.size) rfl
    rwa [Heap.size_push] at this
  have e3:(s.heap.push PySem.W.emptyDict).Ns s.heap.objs.size (fun _=>none):=⟨PySem.W.emptyDict,#[],_,e1,rfl,(fun e he=>absurd he (by simp)),fun _=>rfl⟩
  have I1:=I.laid (a:=s.heap.objs.size) (o:=.own (s.heap.objs.size+1)) (h':=s.heap.push PySem.W.emptyDict) (t':=s.toks) (fun b u q=>Heap.get?_push_of_some _ q) (Nat.le_refl _) ⟨_,e1⟩
  refine I1.laid (a:=s.heap.objs.size+1) (o:=.ins C s.heap.objs.size []) (t':=s.toks) (fun b u q=>Heap.get?_push_of_some _ q) (Nat.le_of_eq (Heap.size_push _ _)) ?_
  have ne:s.heap.objs.size≠s.heap.objs.size+1:=Nat.ne_of_lt (Nat.lt_succ_self _)
  refine ⟨by rw [upd_ne ne,upd_same],Nat.zero_le _,ne,e2,fun _=>none,(Heap.Ns1.of_empty e3).at fun o q=>Heap.get?_push_of_some _ q,fun _=>True.intro,fun y hy=>absurd rfl hy⟩
end
section
variable {X:Cx}{o e value:Expr}{f:Str}{pos pos' tpos:Pos}{ta tv:TE}
end
section
variable {X:Cx}{pins:List (Addr × Obj)}{σ:St}{H:Hp}{s:Shared}{A:Around}{E:Value→Shared→Prop}{Q:Value→Shared→Prop}{c:Value}{b:Bool}
inductive TyOf (K:PySem.W.Frag) (H:Hp):V→Value→Prop where
  | non:TyOf K H .non (.type "NoneType")
  | bl (x:Bool):TyOf K H (.bl x) (.type "bool")
  | int (i:Int):TyOf K H (.int i) (.type "int")
  | str (x:Str):TyOf K H (.str x) (.type "str")
  | flt (x:UInt64):TyOf K H (.flt x) (.type "float")
  | lst {a:Addr} {xs:List V} (e:H a=some (.lst xs)):TyOf K H (.ref a) (.type "list")
  | frz {a:Addr} {o:Obj} {xs:List V} (e:H a=some (.frz o (.lst xs))):TyOf K H (.ref a) (.type "list")
  | tup {a:Addr} {xs:List V} (e:H a=some (.tup xs)):TyOf K H (.ref a) (.type "tuple")
  | dK {a:Addr} {kvs:List (Key × V)} (e:H a=some (.dK kvs)):TyOf K H (.ref a) (.type "dict")
  | dT {a:Addr} {kvs:List (List TKey × V)} (e:H a=some (.dT kvs)):TyOf K H (.ref a) (.type "dict")
  | ins {a C dx:Addr} {fs:List (Str × V)} (e:H a=some (.ins C dx fs)) (cl:Cls K C) (ha:PySem.W.findIn K (.ref C) "__class__" = some (some (.builtin "object.__class__")))
      (hn:PySem.W.specialIn K (.builtin "object.__class__") "__get__" = some (some (.builtin "getset_descriptor.__get__"))) (htk:PySem.W.takesIn K (.builtin "object.__class__")=some true)
      (hm:PySem.W.mroIn K C (.type "object")=some true):TyOf K H (.ref a) (.ref C)
theorem isinst_ok {x:V}{u t:Value} (I:Inv X pins σ H s) (rx:RelV x u) (ty:TyOf X.K H x t) (e:PySem.W.kitOne X.K t c=some b) (h:∀ tk,Q (.bool b) { s with toks:=tk }) :
    wpAny (model X.prog X.w) A (call (.builtin "isinstance") [u,c]) Q E s:=by
  cases ty with
  | non=>cases (show u=Value.none from rx); exact PySem.W.kia_one PySem.W.kitx_none I.kIn True.intro e (fun z=>nomatch z) h
  | bl y=>cases (show u=Value.bool y from rx); exact PySem.W.kia_one PySem.W.kitx_bool I.kIn True.intro e (fun z=>nomatch z) h
  | int i=>obtain ⟨t,q⟩:=(show ∃ t,u=Value.int i t from rx); cases q; exact PySem.W.kia_one PySem.W.kitx_int I.kIn True.intro e (fun z=>nomatch z) h
  | str y=>obtain ⟨t,q⟩:=(show ∃ t,u=Value.str y t from rx); cases q; exact PySem.W.kia_one PySem.W.kitx_str I.kIn True.intro e (fun z=>nomatch z) h
  | flt y=>obtain ⟨t,q⟩:=(show ∃ t,u=Value.float y t from rx); cases q; exact PySem.W.kia_one PySem.W.kitx_float I.kIn True.intro e (fun z=>nomatch z) h
  | @lst a xs ea =>
    cases (show u=Value.ref a from rx)
    obtain ⟨_,_,n,_,h1⟩:=(show ObjOk X.prog X.w H s.heap a (.lst xs) from I.hok a _ ea)
    exact PySem.W.kia_one PySem.W.kitx_list I.kIn ⟨_,h1,rfl⟩ e (fun z=>nomatch z) h
  | @frz a ob xs ea =>
    cases (show u=Value.ref a from rx)
    obtain ⟨_,_,_,n,_,h1⟩:=(show ObjOk X.prog X.w H s.heap a (.frz ob (.lst xs)) from I.hok a _ ea)
    exact PySem.W.kia_one PySem.W.kitx_list I.kIn ⟨_,h1,rfl⟩ e (fun z=>nomatch z) h
  | @tup a xs ea =>
    cases (show u=Value.ref a from rx)
    obtain ⟨_,_,_,p⟩:=(show ObjOk X.prog X.w H s.heap a (.tup xs) from I.hok a _ ea)
    obtain ⟨o,h1,h2,_⟩:=p
    exact PySem.W.kia_one PySem.W.kitx_tuple I.kIn ⟨o,h1,h2⟩ e (fun z=>nomatch z) h
  | @dK a kvs ea =>
    cases (show u=Value.ref a from rx)
    obtain ⟨_,_,vs,_,p⟩:=(show ObjOk X.prog X.w H s.heap a (.dK kvs) from I.hok a _ ea)
    obtain ⟨o,es,ep,h1,h2,_⟩:=p
    exact PySem.W.kia_one PySem.W.kitx_dict I.kIn ⟨o,h1,h2.1⟩ e (fun z=>nomatch z) h
  | @dT a kvs ea =>
    cases (show u=Value.ref a from rx)
    obtain ⟨_,_,xs,_,o,es,ep,h1,h2,_⟩:=(show ObjOk X.prog X.w H s.heap a (.dT kvs) from I.hok a _ ea)
    exact PySem.W.kia_one PySem.W.kitx_dict I.kIn ⟨o,h1,h2.1⟩ e (fun z=>nomatch z) h
  | @ins a C dx fs ea cl ha hn htk hm =>
    cases (show u=Value.ref a from rx)
    obtain ⟨mA,O,_⟩:=ins_get I.hok ea
    obtain ⟨od,J,_⟩:=O.look
    exact PySem.W.kia_one (PySem.W.kitx_own (cl.get _) cl.hd ha hn htk hm) I.kIn J e (fun z=>nomatch z) h
end
end L2
namespace L2
open PySem PySem.Spec PyProof.Rows
structure Room (k:Nat) (A:Around):Prop where
  hd:A.handled=none
  dp:A.depth+3 * k+5 < recursionLimit
  un:A.units+16 * k+200 < cLine
theorem Room.mono {j k:Nat}{A:Around} (r:Room k A) (h:j≤k):Room j A:=⟨r.hd,by have:=r.dp; omega,by have:=r.un; omega⟩
theorem Room.deeper {k:Nat}{A:Around} (r:Room (k+1) A) (env:Env):Room k (A.deeper env) :=
  ⟨r.hd,by have:=r.dp; show A.depth+1+3 * k+5 < _; omega,by have:=r.un; show A.units+3+16 * k+200 < _; omega⟩
theorem Room.in1 {k:Nat}{A:Around} (r:Room (k+1) A):Room k A.in1 :=
  ⟨r.hd,by have:=r.dp; show A.depth+3 * k+5 < _; omega,by have:=r.un; show A.units+1+16 * k+200 < _; omega⟩
theorem Room.depth {k:Nat}{A:Around} (r:Room k A):A.depth < recursionLimit:=by have:=r.dp; omega
theorem Room.units {k:Nat}{A:Around} (r:Room k A):A.units+64 < cLine:=by have:=r.un; omega
def tNil:TA:=fun _ H Q=>Q [] H
def tCons (ta:TE) (tr:TA):TA:=fun σ H Q=>ta σ H fun x H1=>tr σ H1 fun xs H2=>Q (x::xs) H2
section
variable {X:Cx}{e:Expr}{es:List Expr}{te:TE}{t:TA}{pos:Pos}
theorem pa_nil:PA X [] tNil:=fun _ _ _ _ H Q I h=>Calls.spliced_nil ⟨[],H,I,.nil,h⟩
theorem pa_cons (ha:PE X e te) (hr:PA X es t) (hs:starEach (e::es) X.env=(false,eval e X.env)::starEach es X.env:=by rfl):PA X (e::es) (tCons te t):=by
  intro pos pins s σ H Q I h
  rw [hs]
  show wpAny _ _ (spliced ((false,eval e X.env)::backTo pos (starEach es X.env))) _ _ s
  refine Calls.spliced_cons (thn (ha pins s σ H _ I h) fun u s1 ⟨x,H1,I1,r1,q1⟩=>?_)
  exact thn (hr pos pins s1 σ H1 _ I1 q1) fun us s2 ⟨xs,H2,I2,r2,q2⟩=>⟨x::xs,H2,I2,.cons r1 r2,q2⟩
def tTup (t:TA):TE:=fun σ H Q=>t σ H fun xs H1=>xs.length≤sizeLine∧∀ p,H1 p=none→Q (.ref p) (upd H1 p (.tup xs))
def tLst (t:TA):TE:=fun σ H Q=>t σ H fun xs H1=>xs.length≤sizeLine∧∀ p,H1 p=none→Q (.ref p) (upd H1 p (.lst xs))
theorem pe_tup {x1} (h:PA X es t):PE X (.Tuple es x1 pos) (tTup t):=by
  intro pins s σ H Q I hq
  refine wpAny_Tuple_spliced (thn (h pos pins s σ H _ I hq) fun us s1 ⟨xs,H1,I1,r,z,q⟩=>⟨by rw [← r.length]; exact z,?_⟩)
  have hf:H1 s1.heap.objs.size=none:=I1.hok.fresh (Nat.le_refl _)
  refine ⟨.ref s1.heap.objs.size,upd H1 s1.heap.objs.size (.tup xs),I1.laid (t':=s1.toks) (fun b u e=>Heap.get?_push_of_some _ e) (Nat.le_refl _) ?_,rfl,q _ hf⟩
  exact ⟨z,us,r,⟨_,Heap.get?_push_size _ rfl,rfl,_,rfl⟩⟩
theorem pe_lst (h:PA X es t):PE X (.List es pos) (tLst t):=by
  intro pins s σ H Q I hq
  refine wpAny_List_spliced (thn (h pos pins s σ H _ I hq) fun us s1 ⟨xs,H1,I1,r,z,q⟩=>⟨by rw [← r.length]; exact z,?_⟩)
  have hf:H1 s1.heap.objs.size=none:=I1.hok.fresh (Nat.le_refl _)
  refine ⟨.ref s1.heap.objs.size,upd H1 s1.heap.objs.size (.lst xs),I1.laid (t':=s1.toks) (fun b u e=>Heap.get?_push_of_some _ e) (Nat.le_refl _) ?_,rfl,q _ hf⟩
  exact ⟨z,us,0,r,Heap.get?_push_size _ rfl⟩
end
abbrev Sp:=List V→Hp→VK→XK→Prop
abbrev CXT:=List Env→Hp→Shared→XK→Value→Shared→Prop
structure Env0 (P:Program) (w:World) (K:PySem.W.Frag) (mg:Str→Option Value) (base:Heap) (A:Around) (outer:List Env) (s:Shared) (H:Hp):Prop where
  frames:A.frames=some outer
  mod:Mod K mg base
  bs:∀ b o,base.get? b=some o→s.heap.get? b=some o∧H b=none
  bsz:base.objs.size≤s.heap.objs.size
  funs:s.heap.FunFrames base outer
  frf:∀ b∈frs outer,H b=none
  hok:HOk P w H s.heap
  bare:AllBare s.gens
def CE (outer:List Env) (P:Program) (w:World) (H:Hp) (s:Shared) (Q:VK) (u:Value) (s':Shared):Prop :=
  ∃ v H',s'.os=s.os∧AllBare s'.gens∧Un (frs outer) [] H H' s.heap s'.heap∧HOk P w H' s'.heap∧RelV v u∧Q v H'
def CR (CX:CXT) (outer:List Env) (P:Program) (w:World) (H:Hp) (s:Shared) (Q:VK) (E:XK) (r:Result) (s':Shared):Prop :=
  match r with
  | .ok (.ret u)=>CE outer P w H s Q u s'
  | .ok _=>False
  | .error e=>CX outer H s E e s'
structure FnOk (P:Program) (w:World) (K:PySem.W.Frag) (mg:Str→Option Value) (base:Heap) (CX:CXT) (k:Nat) (f:Addr) (fd:FuncData) (ps:List Str) (sp:Sp):Prop where
  len:∀ vs H Q E,sp vs H Q E→vs.length=ps.length
  run:∀ (A:Around) (outer:List Env) (s:Shared) (H:Hp) (args:Args) (us:List Value) (vs:List V) (Q:VK) (E:XK),Room k A→Env0 P w K mg base A outer s H→BindsTo s fd args (ps.zip us)→Vals vs us→sp vs H Q E →
    codeAny (model P w) A (.call (.ref f) args) (CR CX outer P w H s Q E) s
theorem FnOk.imp {P:Program}{w:World}{K:PySem.W.Frag}{mg:Str→Option Value}{base:Heap}{CX:CXT}{k:Nat}{f:Addr}{fd:FuncData}{ps:List Str}{sp sp':Sp} (F:FnOk P w K mg base CX k f fd ps sp)
    (h:∀ vs H Q E,sp' vs H Q E→sp vs H Q E):FnOk P w K mg base CX k f fd ps sp' :=
  ⟨fun vs H Q E q=>F.len vs H Q E (h _ _ _ _ q),fun A outer s H args us vs Q E hr he hb hv hs=>F.run A outer s H args us vs Q E hr he hb hv (h _ _ _ _ hs)⟩
theorem Env0.in1 {P:Program}{w:World}{K:PySem.W.Frag}{mg:Str→Option Value}{base:Heap}{A:Around}{outer:List Env}{s:Shared}{H:Hp} (e:Env0 P w K mg base A outer s H) :
    Env0 P w K mg base A.in1 outer s H:=⟨e.frames,e.mod,e.bs,e.bsz,e.funs,e.frf,e.hok,e.bare⟩
section
variable {X:Cx}{pins:List (Addr × Obj)}{σ:St}{H:Hp}{s s':Shared}
theorem Inv.env0 (I:Inv X pins σ H s):Env0 X.prog X.w X.K X.mg X.base X.A X.stack s H :=
  ⟨I.ok.frames,I.ok.mod,I.bs,Nat.le_trans I.ok.bsz I.sz,I.stack,I.stkFree,I.hok,I.bare⟩
theorem Inv.after {Q:VK}{u:Value} (I:Inv X pins σ H s) (h:CE X.stack X.prog X.w H s Q u s'):EP X pins σ Q u s':=by
  obtain ⟨v,H',os,bare,un,hok,r,q⟩:=h
  obtain ⟨hh,g,d,t,os'⟩:=s'
  obtain rfl:os'=s.os:=os
  exact ⟨v,H',I.call (h':=hh) (g':=g) (d':=d) (t':=t) (ch:=[]) un hok bare (fun b z=>absurd z (by simp)),r,q⟩
end
def tCall (sp:Sp) (dvs:List V) (E:XK) (t:TA):TE:=fun σ H Q=>t σ H fun vs H1=>sp (vs++dvs) H1 Q E
def Binds (K:PySem.W.Frag) (fd:FuncData) (ps:List Str) (ds:List Value):Prop :=
  ∀ (s:Shared) (us:List Value),K.In s.heap→(us++ds).length=ps.length→BindsTo s fd ⟨us,[]⟩ (ps.zip (us++ds))
theorem Binds.all {K:PySem.W.Frag}{fd:FuncData}{ps:List Str} (h:∀ us:List Value,us.length=ps.length→bindArgs fd ⟨us,[]⟩=pure (ps.zip us)):Binds K fd ps []:=fun s us _ hl=>by
  rw [List.append_nil] at hl ⊢
  exact .of_eq (h us hl)
def Passes (CX:CXT) (X:Cx) (E:XK):Prop:=∀ (pins:List (Addr × Obj)) (σ:St) (H:Hp) (s:Shared) (e:Value) (s':Shared),Inv X pins σ H s→CX X.stack H s E e s'→X.xe e s'
section
variable {X:Cx}{CX:CXT}{k:Nat}{f C:Addr}{fd:FuncData}{ps:List Str}{sp:Sp}{dvs:List V}{ds:List Value}{E:XK}{x m:Str}{p pos apos:Pos}{e o:Expr}{es:List Expr}{ta:TE}{t:TA}
theorem run_fn {pins:List (Addr × Obj)}{σ:St}{H:Hp}{s:Shared}{Q:VK}{us:List Value}{vs:List V} (F:FnOk X.prog X.w X.K X.mg X.base CX k f fd ps sp) (hr:Room k X.A) (hb:Binds X.K fd ps ds) (hd:Vals dvs ds) (hx:Passes CX X E)
    (I:Inv X pins σ H s) (r:Vals vs us) (h:sp (vs++dvs) H Q E):wpAny (model X.prog X.w) X.A (call (.ref f) us) (EP X pins σ Q) X.xe s:=by
  have r2:Vals (vs++dvs) (us++ds):=r.append hd
  have hl:(us++ds).length=ps.length:=by rw [← r2.length]; exact F.len _ _ _ _ h
  refine wpAny_call (codeAny_mono (F.run X.A X.stack s H ⟨us,[]⟩ (us++ds) (vs++dvs) Q E hr I.env0 (hb s us I.kIn hl) r2 h) fun r s' hq=>?_)
  cases r with
  | error e=>exact hx pins σ H s e s' I hq
  | ok fl =>
    cases fl with
    | ret u=>exact I.after hq
    | next=>exact False.elim hq
    | brk=>exact False.elim hq
    | cont=>exact False.elim hq
theorem pe_call (F:FnOk X.prog X.w X.K X.mg X.base CX k f fd ps sp) (hr:Room k X.A) (hg:Gl X x) (hm:X.mg x=some (.ref f)) (hk:PySem.W.keepIn X.K (.ref f)=true) (hb:Binds X.K fd ps ds) (hd:Vals dvs ds) (hx:Passes CX X E)
    (ha:PA X (e::es) t) (hdb:(x == ("__debug__" : Str))=false:=by decide) (he:starEach (e::es) X.env=(false,eval e X.env)::starEach es X.env:=by rfl) (hpl:(backTo pos (starEach es X.env)).any (·.1)=false:=by rfl) :
    PE X (.Call (.Name x p) (e::es) [] pos) (tCall sp dvs E t):=by
  intro pins s σ H Q I h
  refine wpAny_Call_Name_kw (ld_glob I hg hm ?_ hdb)
  refine PySem.W.callWith_K (h₀:=X.base) I.ok.mod.kin hk (thn (ha pos pins s σ H _ I h) fun us s1 ⟨vs,H1,I1,r,q⟩=>⟨I1.kIn,?_⟩) he hpl
  exact run_fn F hr hb hd hx I1 r q
end
section
variable {X:Cx}{CX:CXT}{k:Nat}{f C:Addr}{fd:FuncData}{ps ks:List Str}{sp:Sp}{E:XK}{x m:Str}{p pos apos kpos:Pos}{e o:Expr}{es:List Expr}{kws:List Keyword}{te ta:TE}{t tk:TA}{nm:Option Str}
variable {g:List Value→List Value→List Value}{gV:List V→List V→List V}
end
structure FnScope (N P:List Str) (sc:Scope):Prop where
  kind:sc.kind=.function
  co:sc.isCoroutine=false
  gen:sc.isGenerator=false
  nd:N.Nodup
  pre:N.take P.length=P
  par:∀ x∈P,sc.names.lookup x=some .local∨sc.names.lookup x=some .cell
  nofree:∀ y∈sc.names,y.2≠.free
theorem bindL_out {kindOf:Str→Option NameKind}{x:Str}:∀ {binds:List (Str × Value)}{m:Str→Option Value},(∀ v,(x,v) ∉ binds)→bindL kindOf binds m x=m x
  | [],_,_=>rfl
  | (n,v)::r,m,h=>by
    unfold bindL
    rw [bindL_out fun w hw=>h w (List.mem_cons_of_mem _ hw)]
    split
    · have:x≠n:=by rintro rfl; exact h v List.mem_cons_self
      simp [this]
    · rfl
theorem bindC_out {kindOf:Str→Option NameKind}{x:Str}:∀ {binds:List (Str × Value)}{m:Str→Option Value},(∀ v,(x,v) ∉ binds)→bindC kindOf binds m x=m x
  | [],_,_=>rfl
  | (n,v)::r,m,h=>by
    unfold bindC
    rw [bindC_out fun w hw=>h w (List.mem_cons_of_mem _ hw)]
    split
    · rfl
    · have:x≠n:=by rintro rfl; exact h v List.mem_cons_self
      simp [this]
theorem bindL_get {kindOf:Str→Option NameKind}{x:Str}{v:Value}:∀ {P:List Str}{vs:List Value}{i:Nat}{m:Str→Option Value},P.Nodup→P[i]?=some x→vs[i]?=some v→kindOf x=some .local →
    bindL kindOf (P.zip vs) m x=some v
  | [],_,_,_,_,h,_,_=>by simp at h
  | _::_,[],_,_,_,_,h,_=>by simp at h
  | p::P,w::vs,0,m,nd,h1,h2,hk=>by
    simp at h1 h2; subst h1; subst h2
    show bindL kindOf ((p,w)::P.zip vs) m p=_
    unfold bindL
    rw [bindL_out fun v hv=>(List.nodup_cons.mp nd).1 (List.of_mem_zip hv).1,if_pos hk]
    simp
  | p::P,w::vs,i+1,m,nd,h1,h2,hk=>by
    show bindL kindOf ((p,w)::P.zip vs) m x=_
    unfold bindL
    exact bindL_get (i:=i) (List.nodup_cons.mp nd).2 (by simpa using h1) (by simpa using h2) hk
theorem bindC_get {kindOf:Str→Option NameKind}{x:Str}{v:Value}:∀ {P:List Str}{vs:List Value}{i:Nat}{m:Str→Option Value},P.Nodup→P[i]?=some x→vs[i]?=some v→kindOf x≠some .local →
    bindC kindOf (P.zip vs) m x=some v
  | [],_,_,_,_,h,_,_=>by simp at h
  | _::_,[],_,_,_,_,h,_=>by simp at h
  | p::P,w::vs,0,m,nd,h1,h2,hk=>by
    simp at h1 h2; subst h1; subst h2
    show bindC kindOf ((p,w)::P.zip vs) m p=_
    unfold bindC
    rw [bindC_out fun v hv=>(List.nodup_cons.mp nd).1 (List.of_mem_zip hv).1,if_neg hk]
    simp
  | p::P,w::vs,i+1,m,nd,h1,h2,hk=>by
    show bindC kindOf ((p,w)::P.zip vs) m x=_
    unfold bindC
    exact bindC_get (i:=i) (List.nodup_cons.mp nd).2 (by simpa using h1) (by simpa using h2) hk
def start (N:List Str) (vs:List V):St:=vs.map some++List.replicate (N.length - vs.length) none
def cxOf (CX:CXT) (P:Program) (w:World) (K:PySem.W.Frag) (mg:Str→Option Value) (base:Heap) (N:List Str) (qual:Str) (scope:Scope) (f:Addr) (cd:Value) (A:Around) (outer:List Env) (s:Shared) (H:Hp) (E:XK):Cx where
  prog:=P
  w:=w
  K:=K
  mg:=mg
  base:=base
  A:=A.deeper (envOfC qual scope s.heap.objs.size f cd)
  N:=N
  s₀:=s
  H₀:=H
  env:=envOfC qual scope s.heap.objs.size f cd
  outer:=outer
  stack:=envOfC qual scope s.heap.objs.size f cd::outer
  ex:=[]
  calm:=true
  fn:=fun _=>true
  pn:=[]
  xe:=fun e s'=>wpAny (model P w) (A.deeper (envOfC qual scope s.heap.objs.size f cd)) (leaving (envOfC qual scope s.heap.objs.size f cd) e) (fun _ s''=>CX outer H s E e s'') (fun e' s''=>CX outer H s E e' s'') s'
theorem cell_has {sc:Scope}{n:Nat}{x:Str} (h:sc.names.lookup x=some .cell):∃ c,(cellsFrom n sc.names []).lookup x=some c:=by
  have q:=PySem.W.cellsFrom_some sc.names n [] (.inl h)
  exact Option.isSome_iff_exists.mp q
theorem inv_start {CX:CXT}{P:Program}{w:World}{K:PySem.W.Frag}{mg:Str→Option Value}{base:Heap}{N ps:List Str}{qual:Str}{scope:Scope}{f:Addr}{cd:Value}{A:Around}{outer:List Env}{s s1:Shared}{H:Hp}{E:XK}{us:List Value}{vs:List V}
    (S:FnScope N ps scope) (hd:A.handled=none) (e0:Env0 P w K mg base A outer s H) (hl:vs.length=ps.length) (r:Vals vs us)
    (x:InCallC s s.heap.objs.size (bindL (envOfC qual scope s.heap.objs.size f cd).kindOf (ps.zip us) fun _=>none) (cellsFrom (s.heap.objs.size+1) scope.names []) (bindC (envOfC qual scope s.heap.objs.size f cd).kindOf (ps.zip us) fun _=>none) s1) :
    Inv (cxOf CX P w K mg base N qual scope f cd A outer s H E) [] (start N vs) H s1:=by
  have hpl:ps.length≤N.length:=by have:=congrArg List.length S.pre; rw [List.length_take] at this; omega
  obtain ⟨h1,tk,rfl,hk⟩:=x.done
  have noA:∀ b:Addr,b ∉ (cxOf CX P w K mg base N qual scope f cd A outer s H E).ex:=fun b z=>absurd (show b∈([]:List Addr) from z) (by simp)
  refine ⟨⟨e0.mod,S.kind,rfl,rfl,Nat.le_refl _,fun y z c h1 h2=>?_,fun y hy=>?_,fun y c _ h=>?_,fun _=>hd,Around.frames_deeper e0.frames,.inr ⟨rfl,rfl⟩,fun b z=>absurd z (noA b),e0.bs,e0.bsz,fun b _ _=>noA b,fun b z=>absurd z (noA b),e0.funs,e0.frf⟩,
    rfl,e0.bare,Un.kept hk,⟨_,x.toInCall.ns,fun i y v h1 h2 h3=>?_⟩,fun y c h=>⟨_,x.cell y c h⟩,e0.hok.fresh (Nat.le_refl _),fun y c h=>?_,fun p hp=>absurd (show p∈([]:List (Addr × Obj)) from hp) (by simp),e0.hok.kept hk,?_⟩
  · exact name_of_addr x.apart (PySem.mem_of_lookup h1) (PySem.mem_of_lookup h2)
  · have hy:scope.names.lookup y=some .cell∨scope.names.lookup y=some .free:=hy
    rcases hy with hy | hy
    · exact cell_has hy
    · exact absurd rfl (S.nofree _ (PySem.mem_of_lookup hy))
  · exact Nat.le_of_lt (x.above y c (PySem.mem_of_lookup h))
  · have hi:i < vs.length:=by
      unfold start at h2
      by_cases hi:i < vs.length
      · exact hi
      · rw [List.getElem?_append_right (by simpa using hi)] at h2
        rw [List.getElem?_replicate] at h2
        split at h2 <;> cases h2
    have ha:vs[i]?=some v:=by
      unfold start at h2
      rw [List.getElem?_append_left (by simpa using hi),List.getElem?_map] at h2
      cases e:vs[i]? with
      | none=>rw [e] at h2; cases h2
      | some a=>rw [e] at h2; cases h2; rfl
    obtain ⟨u,hu,rv⟩:=r.get ha
    have hp:ps[i]?=some y:=by
      rw [← S.pre,List.getElem?_take_of_lt (by omega)]; exact h1
    have ndP:ps.Nodup:=by rw [← S.pre]; exact S.nd.sublist (List.take_sublist _ _)
    refine ⟨u,rv,?_⟩
    rcases S.par y (List.mem_of_getElem? hp) with k | k
    · exact .inl ⟨k,bindL_get ndP hp hu k⟩
    · obtain ⟨c,e⟩:=cell_has (n:=s.heap.objs.size+1) k
      refine .inr ⟨.inl k,c,e,?_⟩
      have q:=x.cell y c e
      rw [bindC_get ndP hp hu (by show scope.names.lookup y≠_; rw [k]; decide)] at q
      exact q
  · exact e0.hok.fresh (Nat.le_of_lt (x.above y c (PySem.mem_of_lookup h)))
  · unfold start
    show _=N.length
    rw [List.length_append,List.length_map,List.length_replicate]
    omega
theorem fn_of {CX:CXT}{P:Program}{w:World}{K:PySem.W.Frag}{mg:Str→Option Value}{base:Heap}{k:Nat}{f:Addr}{name qual:Str}{params:Arguments}{body:List Stmt}{scope:Scope}{dV kV doc pm cdv ct oc:Value}{an od:Option Addr}
    {osl:Array (Option Value)} {N ps:List Str} {sp:Sp} (lk:K.lookup f=some ⟨oc,od,.func (PySem.W.fnOf name qual params body scope dV kV doc pm an cdv ct),osl⟩) (hcd:PySem.W.codeIn K cdv qual=true) (S:FnScope N ps scope)
    (len:∀ vs H Q E,sp vs H Q E→vs.length=ps.length)
    (hbody:∀ (A:Around) (outer:List Env) (s:Shared) (H:Hp) (vs:List V) (Q:VK) (E:XK),Room k (A.deeper (envOfC qual scope s.heap.objs.size f cdv))→sp vs H Q E →
      ∃ t,PSs (cxOf CX P w K mg base N qual scope f cdv A outer s H E) body t∧t { nx:=fun _ H'=>Q .non H',rt:=Q } (start N vs) H) :
    FnOk P w K mg base CX (k+1) f (PySem.W.fnOf name qual params body scope dV kV doc pm an cdv ct) ps sp:=by
  refine ⟨len,fun A outer s H args us vs Q E hr e0 hb r hsp=>?_⟩
  have hl:=len _ _ _ _ hsp
  have KX:K.In s.heap:=e0.mod.kin.keeps fun b o e=>(e0.bs b o e).1
  have lim:s.heap.NoLimit:=e0.mod.nolimit.keeps fun b o e=>(e0.bs b o e).1
  have hkind:∀ y∈ps.zip us,scope.names.lookup y.1=some .local∨(scope.names.lookup y.1=some .cell∧((cellsFrom (s.heap.objs.size+1) scope.names []).lookup y.1).isSome=true):=fun ⟨n,v⟩ hy=>by
    rcases S.par n (List.of_mem_zip hy).1 with q | q
    · exact .inl q
    · exact .inr ⟨q,PySem.W.cellsFrom_some _ _ _ (.inl q)⟩
  refine codeAny_call_function hr.depth (KX _ _ lk) rfl S.co S.gen rfl (PySem.W.codeRec_of KX hcd) (hb _ _ _ _ ?_)
  refine wpAny_newFunctionEnv_cells S.kind hkind fun env he s1 x=>?_
  subst he
  refine ⟨lim.keeps x.toInCall.keep,codeAny_func ?_⟩
  obtain ⟨t,ht,hq⟩:=hbody A outer s H vs Q E (hr.deeper _) hsp
  have I:Inv (cxOf CX P w K mg base N qual scope f cdv A outer s H E) [] (start N vs) H s1:=inv_start S hr.hd e0 hl r x
  refine wpAny_mono (ht [] s1 (start N vs) H _ I hq) (fun fl s' hs=>?_) fun e s' hs=>hs
  have fin:∀ {σ':St} {H':Hp} {v:V} {u:Value},Inv (cxOf CX P w K mg base N qual scope f cdv A outer s H E) [] σ' H' s'→RelV v u→Q v H'→CE outer P w H s Q u s' :=
    fun {σ' H' v u} J rv q=>⟨v,H',J.os,J.bare,J.base,J.hok,rv,q⟩
  cases fl with
  | ret u =>
    obtain ⟨v,σ',H',J,rv,q⟩:=hs
    exact fin J rv q
  | next =>
    obtain ⟨σ',H',J,q⟩:=hs
    exact fin (v:=V.non) (u:=Value.none) J rfl q
  | brk =>
    obtain ⟨_,_,_,q⟩:=hs
    exact False.elim q
  | cont =>
    obtain ⟨_,_,_,q⟩:=hs
    exact False.elim q
end L2
namespace L2
open PySem PySem.Spec PyProof.Rows
section
variable {X:Cx}{x:Str}{p pos:Pos}{e:Expr}{es:List Expr}{t:TA}{id T:String}{r:List V→Hp→VK→Prop}
def tCB (r:List V→Hp→VK→Prop) (t:TA):TE:=fun σ H Q=>t σ H fun vs H1=>r vs H1 Q
theorem pe_callB (hc:CallR X (.builtin id) r) (hg:Gl X x) (hm:X.mg x=none) (hv:bootBuiltins x=some (.builtin id)) (ha:PA X (e::es) t) (hn:x ≠ "__name__" := by decide) (hdb:(x == ("__debug__" : Str))=false:=by decide)
    (he:starEach (e::es) X.env=(false,eval e X.env)::starEach es X.env:=by rfl) (hpl:(backTo pos (starEach es X.env)).any (·.1)=false:=by rfl):PE X (.Call (.Name x p) (e::es) [] pos) (tCB r t):=by
  intro pins s σ H Q I h
  refine wpAny_Call_Name_kw (ld_blt I hg hm hv ?_ hn hdb)
  exact PyProof.Rows.callWith_builtin1 (thn (ha pos pins s σ H _ I h) fun us s1 ⟨vs,H1,I1,r1,q1⟩=>hc pins s1 σ H1 vs us Q I1 r1 q1) he hpl
theorem pe_callTy (hc:CallR X (.type T) r) (hg:Gl X x) (hm:X.mg x=none) (hv:bootBuiltins x=some (.type T)) (ha:PA X (e::es) t) (hn:x ≠ "__name__" := by decide) (hdb:(x == ("__debug__" : Str))=false:=by decide)
    (he:starEach (e::es) X.env=(false,eval e X.env)::starEach es X.env:=by rfl) (hpl:(backTo pos (starEach es X.env)).any (·.1)=false:=by rfl):PE X (.Call (.Name x p) (e::es) [] pos) (tCB r t):=by
  intro pins s σ H Q I h
  refine wpAny_Call_Name_kw (ld_blt I hg hm hv ?_ hn hdb)
  exact PyProof.Rows.callWith_type1 (thn (ha pos pins s σ H _ I h) fun us s1 ⟨vs,H1,I1,r1,q1⟩=>hc pins s1 σ H1 vs us Q I1 r1 q1) he hpl
end
end L2
namespace HT
open PySem PyProof.Rows
section
open PySem.SeqAt
open PySem.AutoSeq1 (wpAny_loadPart')
open PySem.MeetsSeq PySem.MeetsSeq2 PySem.MeetsSeq3
end
section
variable {prog:Program}{w:World}{A:Around}{E:Value→Shared→Prop}{s:Shared}
theorem cat_tup {t b:Addr}{vs ws:List Value}{Q:Value→Shared→Prop} (ht:IsTup s.heap t vs.toArray) (hb:IsTup s.heap b ws.toArray) (hv:vs≠[])
    (h1:ws=[]→Q (.ref t) s) (h2:ws≠[]→Q (.ref s.heap.objs.size) { s with heap:=s.heap.push { cls:=.type "tuple",data:=.seq (vs++ws).toArray } })
    (hsz:vs.length+ws.length≤sizeLine):wpAny (model prog w) A (binaryOp .Add (.ref t) (.ref b)) Q E s:=by
  obtain ⟨⟨cls,dd,data,sl⟩,ho,hc,n,hd⟩:=id ht
  obtain ⟨⟨cls2,dd2,data2,sl2⟩,ho2,hc2,n2,hd2⟩:=id hb
  simp only at hc hd hc2 hd2
  subst hc hd hc2 hd2
  have e:vs.toArray++ws.toArray=(vs++ws).toArray:=by simp
  by_cases hw:ws=[]
  · exact concat_meets ⟨_,ho,rfl⟩ ⟨_,ho2,rfl⟩ noFill_tuple_add seq_tuple_add PySem.F.slot_tuple_add PySem.F.entry_tuple_add (PySem.F.args_tuple_add_2 _ _)
      (tuple_addW1 t b vs.toArray ws.toArray n n2 dd dd2 sl sl2 (by simpa using hv) (by simp [hw])) ⟨ho,ho2,h1 hw⟩
  · refine concat_meets ⟨_,ho,rfl⟩ ⟨_,ho2,rfl⟩ noFill_tuple_add seq_tuple_add PySem.F.slot_tuple_add PySem.F.entry_tuple_add (PySem.F.args_tuple_add_2 _ _)
      (tuple_addW2 t b vs.toArray ws.toArray n n2 dd dd2 sl sl2 (by simpa using hv) (by simpa using hw) (by rw [List.size_toArray,List.size_toArray]; exact hsz)) ⟨ho,ho2,?_⟩
    rw [e]
    exact h2 hw
def sIx (n d:Nat):Option Int→Nat
  | none=>d
  | some v=>if v < 0 then (v+(n:Int)).toNat else min v.toNat n
theorem sIx_nat (n d k:Nat):sIx n d (some (k:Int))=min k n:=by
  show (if (k:Int) < 0 then ((k:Int)+(n:Int)).toNat else min (k:Int).toNat n)=min k n
  rw [if_neg (by omega),Int.toNat_natCast]
theorem sIx_le (n d:Nat) (hd:d≤n) (o:Option Int):sIx n d o≤n:=by
  cases o with
  | none=>exact hd
  | some v =>
    show (if v < 0 then (v+(n:Int)).toNat else min v.toNat n)≤n
    by_cases hv:v < 0
    · rw [if_pos hv]; omega
    · rw [if_neg hv]; exact Nat.min_le_right _ _
theorem clip_eq (v:Int) (n d:Nat):(if v < 0 then max (v+(n:Int)) 0 else min v (n:Int))=((sIx n d (some v):Nat):Int):=by
  show (if v < 0 then max (v+(n:Int)) 0 else min v (n:Int))=(((if v < 0 then (v+(n:Int)).toNat else min v.toNat n):Nat):Int)
  by_cases hv:v < 0
  · simp only [if_pos hv]; omega
  · simp only [if_neg hv]; omega
theorem adjust_gen (lo hi:Option Int) (n:Nat):Builtin.Slice.sliceAdjust lo hi 1 (n:Int)=(((sIx n 0 lo:Nat):Int),((sIx n n hi:Nat):Int)):=by
  have h1:¬ ((1:Int) < 0):=by omega
  unfold Builtin.Slice.sliceAdjust
  simp only [h1,if_false]
  refine Prod.ext ?_ ?_
  · cases lo with
    | none=>rfl
    | some v=>exact clip_eq v n 0
  · cases hi with
    | none=>rfl
    | some v=>exact clip_eq v n n
theorem places_gen (i j:Nat):Builtin.Slice.slicePlaces (i:Int) (j:Int) 1=j - i:=by
  unfold Builtin.Slice.slicePlaces
  have h1:(1:Int) > 0:=by omega
  simp only [h1,if_true,Int.ediv_one]
  split <;> omega
theorem slicePart_ {v:Value}{o:Option Int}{Q:Option Int→Shared→Prop} (p:IsPart v o) (h:Q o s):wpAny (model prog w) A (Builtin.Slice.slicePartIndex v) Q E s:=by
  cases p with
  | none=>exact slicePart_none h
  | int i t=>exact slicePart_int h
theorem sliceApplied_gen {sl:Addr}{vl vu:Value}{lo hi:Option Int}{n:Nat}{Q:Int × Int × Nat→Shared→Prop} (hs:s.heap.IsSliceOf sl vl vu .none) (pl:IsPart vl lo) (pu:IsPart vu hi)
    (h:Q (((sIx n 0 lo:Nat):Int),1,sIx n n hi - sIx n 0 lo) s):wpAny (model prog w) A (Builtin.Slice.sliceApplied (.ref sl) (pure (n:Int))) Q E s:=by
  obtain ⟨os,hos,hcs,hds⟩:=id hs
  unfold Builtin.Slice.sliceApplied Builtin.Slice.sliceFields
  refine wpAny_bind (wpAny_bind (wpAny_field hos hds (x:=vl) rfl (wpAny_bind (wpAny_field hos hds (x:=vu) rfl (wpAny_bind (wpAny_field hos hds (x:=.none) rfl (wpAny_pure ?_)))))))
  refine wpAny_bind (slicePart_none ?_)
  show wpAny _ _ (if ((1:Int) == 0)=true then _ else _) _ _ s
  rw [if_neg (by decide)]
  refine wpAny_bind (slicePart_ pl (wpAny_bind (slicePart_ pu (wpAny_bind (wpAny_pure ?_)))))
  show wpAny _ _ (match Builtin.Slice.sliceAdjust lo hi 1 (n:Int) with | (lo,hi)=>pure (lo,(1:Int),Builtin.Slice.slicePlaces lo hi 1)) _ _ s
  rw [adjust_gen lo hi n]
  show wpAny _ _ (pure (((sIx n 0 lo:Nat):Int),(1:Int),Builtin.Slice.slicePlaces ((sIx n 0 lo:Nat):Int) ((sIx n n hi:Nat):Int) 1)) _ _ s
  rw [places_gen]
  exact wpAny_pure h
theorem pick_gen (xs:Array Value) (i k:Nat):((List.range k).filterMap fun (m:Nat)=>xs[((i:Int)+(m:Int) * 1).toNat]?).toArray=((xs.toList.drop i).take k).toArray:=by
  have e:(fun (m:Nat)=>xs[((i:Int)+(m:Int) * 1).toNat]?)=fun m=>xs[i+m]?:=by
    funext m
    have:((i:Int)+(m:Int) * 1).toNat=i+m:=by omega
    rw [this]
  rw [e]
  have:=pick_run xs i k
  rw [List.filterMap_map] at this
  have e2:((fun x=>xs[x]?) ∘ fun x=>i+x)=fun m=>xs[i+m]?:=rfl
  rw [e2] at this
  rw [this]
theorem getItem_tuple_cut {t sl:Addr}{items:Array Value}{vl vu:Value}{lo hi:Option Int}{Q:Value→Shared→Prop} (ht:IsTup s.heap t items) (hs:s.heap.IsSliceOf sl vl vu .none) (pl:IsPart vl lo) (pu:IsPart vu hi)
    (hw:¬ (sIx items.size 0 lo=0∧sIx items.size items.size hi=items.size))
    (h:Q (.ref s.heap.objs.size) { s with heap:=s.heap.push { cls:=.type "tuple",data:=.seq ((items.toList.drop (sIx items.size 0 lo)).take (sIx items.size items.size hi - sIx items.size 0 lo)).toArray } })
    (hsz:items.size≤sizeLine):wpAny (model prog w) A (getItem (.ref t) (.ref sl)) Q E s:=by
  have htake:sizeOk (.seq ((items.toList.drop (sIx items.size 0 lo)).take (sIx items.size items.size hi - sIx items.size 0 lo)).toArray):=by
    show ((items.toList.drop (sIx items.size 0 lo)).take (sIx items.size items.size hi - sIx items.size 0 lo)).toArray.size≤sizeLine
    rw [List.size_toArray,List.length_take,List.length_drop,Array.length_toList]
    omega
  have hj:sIx items.size items.size hi≤items.size:=sIx_le _ _ (Nat.le_refl _) hi
  obtain ⟨os,hos,hcs,hds⟩:=id hs
  have hTs:s.TypeIs (.ref sl) "slice" := ⟨os,hos,hcs⟩
  unfold getItem
  try with_reducible refine wpAny_holding ?_
  first | refine wpAny_bind (wpAny_pure ?_) | skip
  refine wpAny_bind (wpAny_sequenceKey ht.typeIs (by decide) ?_)
  refine wpAny_bind (wpAny_callSpecial?_slot (name:=Str.ofString "__getitem__") ht.typeIs PyProof.Rows.slot_tuple_getitem
    (wpAny_call_entry PyProof.Rows.slot_tuple_getitem ht.typeIs entry_tuple_getitem ?_ (args_tuple_getitem _ _)))
  show wpAny _ _ (Builtin.Tuple.tupleItemsOf (.ref t) >>= _) _ _ s
  refine wpAny_bind (tupleItemsOf_ ht ?_)
  refine wpAny_bind (wpAny_typeOf hTs ?_)
  rw [if_pos (by decide)]
  refine wpAny_bind (sliceApplied_gen hs pl pu ?_)
  have hno:¬ ((((sIx items.size 0 lo:Nat):Int) == 0 && (1:Int) == 1 && (sIx items.size items.size hi - sIx items.size 0 lo) == items.size)=true):=by
    intro q
    rw [Bool.and_eq_true,Bool.and_eq_true] at q
    have q1:((sIx items.size 0 lo:Nat):Int)=0:=eq_of_beq q.1.1
    have q2:sIx items.size items.size hi - sIx items.size 0 lo=items.size:=eq_of_beq q.2
    exact hw ⟨by omega,by omega⟩
  show wpAny _ _ (if (((sIx items.size 0 lo:Nat):Int) == 0 && (1:Int) == 1 && (sIx items.size items.size hi - sIx items.size 0 lo) == items.size)=true then _ else _) _ _ s
  rw [if_neg hno,pick_gen]
  first
    | exact wpAny_bind (m:=Builtin.Tuple.tupleExact _) (wpAny_newObj_type (wpAny_pure ⟨_,rfl,wpAny_pure h⟩) htake)
    | exact wpAny_bind (m:=Builtin.Tuple.tupleExact _) (wpAny_newObj_type (wpAny_bind (wpAny_pure (wpAny_pure ⟨_,rfl,wpAny_pure h⟩))) htake)
    | exact wpAny_bind (wpAny_bind (m:=Builtin.Tuple.tupleExact _) (wpAny_newObj_type (wpAny_pure (wpAny_pure ⟨_,rfl,wpAny_pure h⟩)) htake))
    | exact wpAny_bind (wpAny_bind (m:=Builtin.Tuple.tupleExact _) (wpAny_newObj_type (wpAny_pure ⟨_,rfl,wpAny_pure h⟩) htake))
end
end HT
namespace L2
open PySem PySem.Spec PyProof.Rows
abbrev TO:=St→Hp→(Option Int→Hp→Prop)→Prop
def PO (X:Cx) (e:Option Expr) (t:TO):Prop :=
  ∀ (pins:List (Addr × Obj)) (s:Shared) (σ:St) (H:Hp) (Q:Option Int→Hp→Prop),Inv X pins σ H s→t σ H Q →
    wpAny (model X.prog X.w) X.A (evalPart e X.env) (fun u s'=>∃ o H',Inv X pins σ H' s'∧IsPart u o∧Q o H') X.xe s
def tNoPart:TO:=fun _ H Q=>Q none H
def tPart (t:TE):TO:=fun σ H Q=>t σ H fun x H1=>∃ i,x=.int i∧Q (some i) H1
section
variable {X:Cx}{e:Expr}{te:TE}{lo hi:Option Expr}{tl th:TO}{pos p2:Pos}
theorem po_none:PO X none tNoPart:=by
  intro pins s σ H Q I h
  rw [evalPart_none]
  exact wpAny_pure ⟨none,H,I,.none,h⟩
theorem po_some (h:PE X e te):PO X (some e) (tPart te):=by
  intro pins s σ H Q I hw
  rw [evalPart_some]
  refine thn (h pins s σ H _ I hw) fun u s1 ⟨x,H1,I1,r1,q1⟩=>?_
  obtain ⟨i,rfl,q⟩:=q1
  obtain ⟨t,rfl⟩:=r1
  exact ⟨some i,H1,I1,.int i t,q⟩
def SlR (X:Cx) (r:V→Option Int→Option Int→Hp→VK→Prop):Prop :=
  ∀ (pins:List (Addr × Obj)) (s:Shared) (σ:St) (H:Hp) (x:V) (v vl vu:Value) (lo hi:Option Int) (sl:Addr) (Q:VK),Inv X pins σ H s→RelV x v→s.heap.IsSliceOf sl vl vu .none→IsPart vl lo→IsPart vu hi→r x lo hi H Q →
    ∃ T id,typeLookup (.type T) "__getitem__" = pure (some (.builtin id))∧s.TypeIs v T∧wpAny (model X.prog X.w) X.A (getItem v (.ref sl)) (EP X pins σ Q) X.xe s
def tSl (r:V→Option Int→Option Int→Hp→VK→Prop) (te:TE) (tl th:TO):TE:=fun σ H Q=>te σ H fun x H1=>tl σ H1 fun l H2=>th σ H2 fun u H3=>r x l u H3 Q
theorem pe_slice {r:V→Option Int→Option Int→Hp→VK→Prop} (hr:SlR X r) (he:PE X e te) (hl:PO X lo tl) (hu:PO X hi th):PE X (.Subscript e (.Slice lo hi none p2) pos) (tSl r te tl th):=by
  intro pins s σ H Q I h
  refine Subscript_ (thn (he pins s σ H _ I h) fun v s1 ⟨x,H1,I1,r1,q1⟩=>?_)
  refine wpAny_Slice (thn (hl pins s1 σ H1 _ I1 q1) fun vl s2 ⟨l,H2,I2,pl,q2⟩=>thn (hu pins s2 σ H2 _ I2 q2) fun vu s3 ⟨u,H3,I3,pu,q3⟩=>?_)
  rw [evalPart_none]
  refine wpAny_pure ?_
  have I4:Inv X pins σ H3 { s3 with heap:=s3.heap.push { cls:=.type "slice",data:=.fields #[vl,vu,.none] } }:=I3.kept (t':=s3.toks) fun b ob q=>Heap.get?_push_of_some _ q
  obtain ⟨T,id,hT,ht,hg⟩:=hr pins { s3 with heap:=s3.heap.push { cls:=.type "slice",data:=.fields #[vl,vu,.none] } } σ H3 x v vl vu l u s3.heap.objs.size Q I4 r1 (Heap.IsSliceOf.new ..) pl pu q3
  show wpAny (model X.prog X.w) X.A (subscriptTail e (.Slice lo hi none p2) v (.ref s3.heap.objs.size)) (EP X pins σ Q) X.xe { s3 with heap:=s3.heap.push { cls:=.type "slice",data:=.fields #[vl,vu,.none] } }
  exact tail_any (ops:=[.ref s3.heap.objs.size,v]) ht hT hg (by with_unfolding_all rfl)
def cutV (xs:List V) (lo hi:Option Int):List V:=(xs.drop (HT.sIx xs.length 0 lo)).take (HT.sIx xs.length xs.length hi - HT.sIx xs.length 0 lo)
theorem cutV_length (xs:List V) (lo hi:Option Int):(cutV xs lo hi).length≤xs.length:=by
  unfold cutV
  rw [List.length_take,List.length_drop]
  omega
def rSlT (K:PySem.W.Frag):V→Option Int→Option Int→Hp→VK→Prop:=fun x lo hi H Q=>∃ a xs,x=.ref a∧SqT K H a xs ∧
  ¬ (HT.sIx xs.length 0 lo=0∧HT.sIx xs.length xs.length hi=xs.length)∧∀ p,H p=none→Q (.ref p) (upd H p (.tup (cutV xs lo hi)))
theorem sl_tup:SlR X (rSlT X.K):=by
  intro pins s σ H x v vl vu lo hi sl Q I rx hs pl pu h
  obtain ⟨a,xs,rfl,hx,hw,q⟩:=h
  cases rx
  obtain ⟨its,r,ht,hz⟩:=I.tuple hx
  have hlen:its.toArray.size=xs.length:=by rw [List.size_toArray]; exact r.length.symm
  refine ⟨"tuple",_,PyProof.Rows.slot_tuple_getitem.lookup,ht.typeIs,?_⟩
  refine HT.getItem_tuple_cut ht hs pl pu (by rw [hlen]; exact hw) ?_ (by rw [hlen]; exact hz)
  rw [hlen]
  refine ⟨.ref s.heap.objs.size,_,I.laid (t':=s.toks) (o:=.tup (cutV xs lo hi)) (fun b ob q=>Heap.get?_push_of_some _ q) (Nat.le_refl _) ?_,rfl,q _ (I.hok.fresh (Nat.le_refl _))⟩
  exact ⟨Nat.le_trans (cutV_length xs lo hi) hz,_,(r.drop (HT.sIx xs.length 0 lo)).take (HT.sIx xs.length xs.length hi - HT.sIx xs.length 0 lo),IsTup.new _ _⟩
def rCatT (K:PySem.W.Frag):R2:=fun x y H Q=>∃ a b xs ys,x=.ref a∧y=.ref b∧SqT K H a xs∧SqT K H b ys∧xs≠[]∧xs.length+ys.length≤sizeLine ∧
  (ys=[]→Q (.ref a) H)∧(ys≠[]→∀ p,H p=none→Q (.ref p) (upd H p (.tup (xs++ys))))
theorem Vals.nil_iff {xs:List V}{us:List Value} (r:Vals xs us):us=[]↔xs=[]:=by
  cases r with
  | nil=>simp
  | cons _ _=>simp
theorem op_catT:OpR X (binaryOp .Add) (rCatT X.K):=by
  intro pins s σ H x y v u Q I rx ry h
  obtain ⟨a,b,xs,ys,rfl,rfl,ha,hb,hx,hz,q1,q2⟩:=h
  cases rx
  cases ry
  obtain ⟨its,r1,p1,_⟩:=I.tuple ha
  obtain ⟨its2,r2,p2,_⟩:=I.tuple hb
  refine HT.cat_tup p1 p2 (fun z=>hx (r1.nil_iff.mp z)) (fun z=>⟨.ref a,H,I,rfl,q1 (r2.nil_iff.mp z)⟩) (fun z=>?_) (by rw [← r1.length,← r2.length]; exact hz)
  refine ⟨.ref s.heap.objs.size,_,I.laid (t':=s.toks) (o:=.tup (xs++ys)) (fun b ob q=>Heap.get?_push_of_some _ q) (Nat.le_refl _) ?_,rfl,q2 (fun w=>z (r2.nil_iff.mpr w)) _ (I.hok.fresh (Nat.le_refl _))⟩
  exact ⟨by rw [List.length_append]; exact hz,_,r1.append r2,IsTup.new _ _⟩
end
end L2
namespace L2
open PySem PySem.Spec PyProof.Rows
def ixN (n:Nat) (i:Int):Option Nat:=if 0≤i then (if i < n then some i.toNat else none) else if -(n:Int)≤i then some (i+n).toNat else none
def atI {α:Type} (xs:List α) (i:Int):Option α:=(ixN xs.length i).bind fun j=>xs[j]?
theorem ixN_seq {n:Nat}{i:Int}{j:Nat} (h:ixN n i=some j):seqIndex? i n=some j∧j < n∧-(n:Int)≤i∧i < n:=by
  unfold ixN at h
  by_cases h0:0≤i
  · rw [if_pos h0] at h
    by_cases h1:i < n
    · rw [if_pos h1] at h
      have e:i.toNat=j:=Option.some.inj h
      exact ⟨by rw [seqIndex_of h0 h1,e],by omega,by omega,h1⟩
    · rw [if_neg h1] at h; cases h
  · rw [if_neg h0] at h
    by_cases h1:-(n:Int)≤i
    · rw [if_pos h1] at h
      have e:(i+n).toNat=j:=Option.some.inj h
      exact ⟨by rw [seqIndex_neg (by omega) h1,e],by omega,h1,by omega⟩
    · rw [if_neg h1] at h; cases h
theorem atI_get {α:Type}{xs:List α}{i:Int}{v:α} (h:atI xs i=some v):∃ j,seqIndex? i xs.length=some j∧xs[j]?=some v∧j < xs.length∧-(xs.length:Int)≤i∧i < xs.length:=by
  unfold atI at h
  cases e:ixN xs.length i with
  | none=>rw [e] at h; cases h
  | some j =>
    rw [e] at h
    obtain ⟨h1,h2,h3,h4⟩:=ixN_seq e
    exact ⟨j,h1,h,h2,h3,h4⟩
theorem atI_nat {α:Type}{xs:List α}{j:Nat}{v:α} (h:xs[j]?=some v):atI xs (j:Int)=some v:=by
  have hj:j < xs.length:=(List.getElem?_eq_some_iff.mp h).1
  have e:ixN xs.length (j:Int)=some j:=by
    unfold ixN
    rw [if_pos (by omega),if_pos (by omega)]; simp
  unfold atI; rw [e]; exact h
def PlainIx (b:Expr):Prop:=∀ o i,subscripted b false o i=operate [o,i] (getItem o i)
def IxR (X:Cx) (r:R2):Prop :=
  ∀ (value slice:Expr) (pins:List (Addr × Obj)) (s:Shared) (σ:St) (H:Hp) (x y:V) (v u:Value) (Q:VK),Inv X pins σ H s→RelV x v→RelV y u→r x y H Q →
    subscripted slice false v u=operate [v,u] (getItem v u)→wpAny (model X.prog X.w) X.A (subscriptTail value slice v u) (EP X pins σ Q) X.xe s
def MtR (X:Cx) (id:String) (r:V→List V→Hp→VK→Prop):Prop :=
  ∀ (pins:List (Addr × Obj)) (s:Shared) (σ:St) (H:Hp) (x:V) (xs:List V) (v:Value) (us:List Value) (Q:VK),Inv X pins σ H s→RelV x v→Vals xs us→r x xs H Q →
    wpAny (model X.prog X.w) X.A (call (.builtin id) (v::us)) (EP X pins σ Q) X.xe s
section
variable {X:Cx}{a b:Expr}{ta tb:TE}{pos:Pos}
theorem IxR.or {r r':R2} (h:IxR X r) (h':IxR X r'):IxR X (fun x y H Q=>r x y H Q∨r' x y H Q):=by
  intro value slice pins s σ H x y v u Q I rx ry q hs
  rcases q with q | q
  · exact h value slice pins s σ H x y v u Q I rx ry q hs
  · exact h' value slice pins s σ H x y v u Q I rx ry q hs
theorem pe_ix {r:R2} (hr:IxR X r) (ha:PE X a ta) (hb:PE X b tb) (hs:PlainIx b):PE X (.Subscript a b pos) (tOp r ta tb):=by
  intro pins s σ H Q I h
  exact Subscript_ (binT ha hb I h fun v u s2 x y H2 I2 rx ry q=>hr a b pins s2 σ H2 x y v u Q I2 rx ry q (hs _ _))
def rIxL (K:PySem.W.Frag):R2:=fun x y H Q=>∃ p xs i v,x=.ref p∧y=.int i∧SqL K H p xs∧atI xs i=some v∧Q v H
def rIxT (K:PySem.W.Frag):R2:=fun x y H Q=>∃ p xs i v,x=.ref p∧y=.int i∧SqT K H p xs∧atI xs i=some v∧Q v H
def rIxS:R2:=fun x y H Q=>∃ z i c,x=.str z∧y=.int i∧z.length≤sizeLine∧atI z.cps.toList i=some c∧Q (.str ⟨#[c]⟩) H
theorem ix_list:IxR X (rIxL X.K):=by
  intro value slice pins s σ H x y v u Q I rx ry h hs
  obtain ⟨p,xs,i,z,rfl,rfl,hq,he,q⟩:=h
  cases rx
  obtain ⟨t,rfl⟩:=ry
  obtain ⟨its,r,pl,hz⟩:=I.list hq
  obtain ⟨j,h1,h2,h3,h4,h5⟩:=atI_get he
  obtain ⟨w,ew,rw'⟩:=r.get h2
  have hl:=r.length
  have hn:=line63
  have fin:EP X pins σ Q w s:=⟨z,H,I,rw',q⟩
  by_cases h0:0≤i
  · have hj:i.toNat=j:=by
      rw [seqIndex_of h0 h5] at h1
      exact Option.some.inj h1
    exact item_listR pl.isList h0 (by omega) (by rw [hj]; simpa using ew) fin hs
  · have hj:(i+(its.toArray.size:Int)).toNat=j:=by
      rw [seqIndex_neg (by omega) h4] at h1
      rw [List.size_toArray,← hl]
      exact Option.some.inj h1
    exact subscriptTail_builtinR (x:=w) pl.isList.typeIs slot_list_getitem.lookup
      (wpAny_getItem_list_neg (Q:=fun r s'=>r=w∧EP X pins σ Q r s') pl.isList (by omega) (by rw [List.size_toArray] <;> omega) (by omega) (by rw [hj]; simpa using ew) ⟨rfl,fin⟩) hs
theorem ix_tup:IxR X (rIxT X.K):=by
  intro value slice pins s σ H x y v u Q I rx ry h hs
  obtain ⟨p,xs,i,z,rfl,rfl,hq,he,q⟩:=h
  cases rx
  obtain ⟨t,rfl⟩:=ry
  obtain ⟨its,r,pl,hz⟩:=I.tuple hq
  obtain ⟨j,h1,h2,h3,h4,h5⟩:=atI_get he
  obtain ⟨w,ew,rw'⟩:=r.get h2
  have hl:=r.length
  have hn:=line63
  have fin:EP X pins σ Q w s:=⟨z,H,I,rw',q⟩
  exact subscriptTail_builtinR (x:=w) pl.typeIs slot_tuple_getitem.lookup
    (getItem_tuple (j:=j) (Q:=fun r s'=>r=w∧EP X pins σ Q r s') pl (by omega) (by omega) (by rw [List.size_toArray,← hl]; exact h1) (by simpa using ew) ⟨rfl,fin⟩) hs
theorem ix_str:IxR X rIxS:=by
  intro value slice pins s σ H x y v u Q I rx ry h hs
  obtain ⟨z,i,c,rfl,rfl,hz,he,q⟩:=h
  obtain ⟨t,rfl⟩:=rx
  obtain ⟨t',rfl⟩:=ry
  obtain ⟨j,h1,h2,h3,h4,h5⟩:=atI_get he
  have hl:z.cps.toList.length=z.length:=by simp [Str.length]
  rw [hl] at h1 h4 h5
  have hn:=line63
  exact tail_any (typeIs_str s z t) slot_str_getitem.lookup (getItem_str (c:=c) (by
    have e1:decide (i < -(2 ^ 63:Int))=false:=decide_eq_false (by omega)
    have e2:decide (i ≥ 2 ^ 63)=false:=decide_eq_false (by omega)
    rw [e1,e2,Bool.or_false]) (by rw [h1]; simpa using h2) ⟨.str ⟨#[c]⟩,H,I.tok _,⟨_,rfl⟩,q⟩) hs
def rIx (K:PySem.W.Frag):R2:=fun x y H Q=>rIxL K x y H Q∨rIxT K x y H Q∨rIxS x y H Q
theorem ix_seq:IxR X (rIx X.K):=ix_list.or (ix_tup.or ix_str)
theorem Inv.lst {pins:List (Addr × Obj)}{σ:St}{H:Hp}{s:Shared}{p:Addr}{xs:List V} (I:Inv X pins σ H s) (h:H p=some (.lst xs)) :
    ∃ (its:List Value) (n:Nat),Vals xs its∧s.heap.get? p=some { cls:=.type "list",data:=.seq its.toArray n }∧xs.length≤sizeLine:=by
  obtain ⟨z,its,n,r,e⟩:=I.hok p _ h
  exact ⟨its,n,r,e,z⟩
theorem slice_bounds (lo hi:Option Int) (n:Nat):(sliceBounds lo hi none n).1=((HT.sIx n 0 lo:Nat):Int)∧(sliceBounds lo hi none n).2.1=((HT.sIx n n hi:Nat):Int)∧(sliceBounds lo hi none n).2.2=1:=by
  refine ⟨?_,?_,rfl⟩
  · cases lo with
    | none=>simp [sliceBounds,HT.sIx]
    | some i =>
      simp only [sliceBounds,HT.sIx,Option.getD_none,show (1:Int) > 0 by decide,if_true]
      by_cases h:i < 0
      · simp only [h,if_true] <;> omega
      · simp only [h,if_false] <;> omega
  · cases hi with
    | none=>simp [sliceBounds,HT.sIx]
    | some i =>
      simp only [sliceBounds,HT.sIx,Option.getD_none,show (1:Int) > 0 by decide,if_true]
      by_cases h:i < 0
      · simp only [h,if_true] <;> omega
      · simp only [h,if_false] <;> omega
theorem slicePick_cut (its:List Value) (lo hi:Option Int):slicePick its.toArray lo hi none=((its.drop (HT.sIx its.length 0 lo)).take (HT.sIx its.length its.length hi - HT.sIx its.length 0 lo)).toArray:=by
  obtain ⟨h1,h2,h3⟩:=slice_bounds lo hi its.toArray.size
  unfold slicePick
  rw [h1,h2,h3]
  simp only [sliceRange_one,pick_run,List.size_toArray] <;> rfl
def rSlL (K:PySem.W.Frag):V→Option Int→Option Int→Hp→VK→Prop:=fun x lo hi H Q=>∃ a xs,x=.ref a∧SqL K H a xs∧∀ p,H p=none→Q (.ref p) (upd H p (.lst (cutV xs lo hi)))
theorem sl_list:SlR X (rSlL X.K):=by
  intro pins s σ H x v vl vu lo hi sl Q I rx hs pl pu h
  obtain ⟨a,xs,rfl,hx,q⟩:=h
  cases rx
  obtain ⟨its,r,ht,hz⟩:=I.list hx
  have hlen:=r.length
  refine ⟨"list",_,slot_list_getitem.lookup,ht.isList.typeIs,?_⟩
  refine wpAny_getItem_list_slice ht.isList hs pl pu .none (by simp) ?_ (by rw [List.size_toArray] <;> omega)
  rw [slicePick_cut,← hlen]
  refine ⟨.ref s.heap.objs.size,_,I.laid (t':=s.toks) (o:=.lst (cutV xs lo hi)) (fun b ob q=>Heap.get?_push_of_some _ q) (Nat.le_refl _) ?_,rfl,q _ (I.hok.fresh (Nat.le_refl _))⟩
  exact ⟨Nat.le_trans (cutV_length xs lo hi) hz,_,0,(r.drop (HT.sIx xs.length 0 lo)).take (HT.sIx xs.length xs.length hi - HT.sIx xs.length 0 lo),Heap.get?_push_size _ rfl⟩
def flatV:V→Bool
  | .non=>true
  | .bl _=>true
  | .int _=>true
  | .str _=>true
  | _=>false
def eqV:V→V→Bool
  | .non,.non=>true
  | .bl a,.bl b=>a == b
  | .bl a,.int b=>(if a then 1 else 0) == b
  | .int a,.bl b=>a == (if b then 1 else 0)
  | .int a,.int b=>a == b
  | .str a,.str b=>a == b
  | _,_=>false
theorem eqAt_V {A:Around}{s:Shared}{y x:V}{u v:Value} (ry:RelV y u) (rx:RelV x v) (fy:flatV y=true) (fx:flatV x=true):SeqAt.EqAt A s u v (eqV y x):=by
  cases y with
  | non =>
    cases ry
    cases x with
    | non=>cases rx; exact SeqAt.EqAt.same _
    | bl b=>cases rx; exact SeqAt.EqAt.none_bool b
    | int b=>obtain ⟨t,rfl⟩:=rx; exact SeqAt.EqAt.none_int b t
    | str b=>obtain ⟨t,rfl⟩:=rx; exact SeqAt.EqAt.none_str b t
    | _=>exact absurd (show false=true from fx) Bool.false_ne_true
  | bl a =>
    cases ry
    cases x with
    | non=>cases rx; exact SeqAt.EqAt.bool_none a
    | bl b=>cases rx; exact SeqAt.EqAt.bool_bool a b
    | int b=>obtain ⟨t,rfl⟩:=rx; exact SeqAt.EqAt.bool_int a b t
    | str b=>obtain ⟨t,rfl⟩:=rx; exact SeqAt.EqAt.bool_str a b t
    | _=>exact absurd (show false=true from fx) Bool.false_ne_true
  | int a =>
    obtain ⟨t',rfl⟩:=ry
    cases x with
    | non=>cases rx; exact SeqAt.EqAt.int_none a t'
    | bl b=>cases rx; exact SeqAt.EqAt.int_bool a t' b
    | int b=>obtain ⟨t,rfl⟩:=rx; exact SeqAt.EqAt.int_int a t' b t
    | str b=>obtain ⟨t,rfl⟩:=rx; exact SeqAt.EqAt.int_str a t' b t
    | _=>exact absurd (show false=true from fx) Bool.false_ne_true
  | str a =>
    obtain ⟨t',rfl⟩:=ry
    cases x with
    | non=>cases rx; exact SeqAt.EqAt.str_none a t'
    | bl b=>cases rx; exact SeqAt.EqAt.str_bool a t' b
    | int b=>obtain ⟨t,rfl⟩:=rx; exact SeqAt.EqAt.str_int a t' b t
    | str b=>obtain ⟨t,rfl⟩:=rx; exact SeqAt.EqAt.str_str a t' b t
    | _=>exact absurd (show false=true from fx) Bool.false_ne_true
  | _=>exact absurd (show false=true from fy) Bool.false_ne_true
def eqU (x:V) (u:Value):Bool:=match u with
  | .none=>eqV .non x
  | .bool b=>eqV (.bl b) x
  | .int i _=>eqV (.int i) x
  | .str z _=>eqV (.str z) x
  | _=>false
theorem eqU_of {x y:V}{u:Value} (r:RelV y u) (f:flatV y=true):eqU x u=eqV y x:=by
  cases y with
  | non=>cases r; rfl
  | bl b=>cases r; rfl
  | int i=>obtain ⟨t,rfl⟩:=r; rfl
  | str z=>obtain ⟨t,rfl⟩:=r; rfl
  | _=>exact absurd (show false=true from f) Bool.false_ne_true
theorem any_eqU {x:V}:∀ {xs:List V}{us:List Value},Vals xs us→xs.all flatV=true→us.any (eqU x)=xs.any fun y=>eqV y x
  | _,_,.nil,_=>rfl
  | y::xs,u::us,.cons r t,f=>by
    rw [List.all_cons,Bool.and_eq_true] at f
    rw [List.any_cons,List.any_cons,eqU_of r f.1,any_eqU t f.2]
theorem mem_eqAt {A:Around}{s:Shared}{x:V}{v:Value} (rx:RelV x v) (fx:flatV x=true):∀ {xs:List V}{us:List Value},Vals xs us→xs.all flatV=true→∀ u∈us,SeqAt.EqAt A s u v (eqU x u)
  | _,_,.nil,_=>fun u hu=>by cases hu
  | y::xs,u::us,.cons r t,f=>fun u' hu=>by
    rw [List.all_cons,Bool.and_eq_true] at f
    rcases List.mem_cons.mp hu with rfl | hu
    · rw [eqU_of r f.1]; exact eqAt_V r rx f.1 fx
    · exact mem_eqAt rx fx t f.2 u' hu
def inV (x:V) (xs:List V):Bool:=xs.any fun y=>eqV y x
def rIn (K:PySem.W.Frag) (neg:Bool):R2:=fun x y H Q=>∃ p xs,y=.ref p∧(SqL K H p xs∨SqT K H p xs)∧flatV x=true∧xs.all flatV=true∧Q (.bl (if neg then !inV x xs else inV x xs)) H
theorem op_in_seq:OpR X (compareOp .In) (rIn X.K false):=by
  intro pins s σ H x y v u Q I rx ry h
  obtain ⟨p,xs,rfl,hq,fx,fs,q⟩:=h
  cases ry
  rcases hq with hq | hq
  · obtain ⟨its,r,pl,hz⟩:=I.list hq
    refine SeqAt.in_listAt (eqU x) pl.isList (fun w hw=>mem_eqAt rx fx r fs w (by simpa using hw)) ⟨.bl _,H,I,rfl,?_⟩
    rw [show its.toArray.any (eqU x)=its.any (eqU x) by simp,any_eqU r fs]
    exact q
  · obtain ⟨its,r,pl,hz⟩:=I.tuple hq
    refine SeqAt.in_tupleAt (eqU x) pl (fun w hw=>mem_eqAt rx fx r fs w (by simpa using hw)) ⟨.bl _,H,I,rfl,?_⟩
    rw [show its.toArray.any (eqU x)=its.any (eqU x) by simp,any_eqU r fs]
    exact q
theorem op_notIn_seq:OpR X (compareOp .NotIn) (rIn X.K true):=by
  intro pins s σ H x y v u Q I rx ry h
  obtain ⟨p,xs,rfl,hq,fx,fs,q⟩:=h
  cases ry
  rcases hq with hq | hq
  · obtain ⟨its,r,pl,hz⟩:=I.list hq
    refine SeqAt.notIn_listAt (eqU x) pl.isList (fun w hw=>mem_eqAt rx fx r fs w (by simpa using hw)) ⟨.bl _,H,I,rfl,?_⟩
    rw [show its.toArray.any (eqU x)=its.any (eqU x) by simp,any_eqU r fs]
    exact q
  · obtain ⟨its,r,pl,hz⟩:=I.tuple hq
    refine SeqAt.notIn_tupleAt (eqU x) pl (fun w hw=>mem_eqAt rx fx r fs w (by simpa using hw)) ⟨.bl _,H,I,rfl,?_⟩
    rw [show its.toArray.any (eqU x)=its.any (eqU x) by simp,any_eqU r fs]
    exact q
theorem call_len_seq:CallR X (.builtin "len") (fun xs H Q=>∃ p ys,xs=[.ref p]∧(SqL X.K H p ys∨SqT X.K H p ys)∧Q (.int ys.length) H):=by
  intro pins s σ H xs us Q I r h
  obtain ⟨p,ys,rfl,hq,q⟩:=h
  obtain ⟨u,rfl,rx⟩:=vals1 r
  cases rx
  have hn:=line63
  rcases hq with hq | hq
  · obtain ⟨its,r',pl,hz⟩:=I.list hq
    have hlen:=r'.length
    exact Calls.call_len_list pl.isList (by simp only [List.size_toArray] <;> omega) ⟨.int ys.length,H,I.tok _,⟨s.toks+1,by rw [List.size_toArray,hlen]⟩,q⟩
  · obtain ⟨its,r',pl,hz⟩:=I.tuple hq
    have hlen:=r'.length
    exact len_tuple pl (by simp only [List.size_toArray] <;> omega) ⟨.int ys.length,H,I.tok _,⟨s.toks+1,by rw [List.size_toArray,hlen]⟩,q⟩
theorem call_len_str:CallR X (.builtin "len") (fun xs H Q=>∃ z,xs=[.str z]∧z.length≤sizeLine∧Q (.int z.length) H):=by
  intro pins s σ H xs us Q I r h
  obtain ⟨z,rfl,hz,q⟩:=h
  obtain ⟨u,rfl,t,rfl⟩:=vals1 r
  have hn:=line63
  exact len_str (by omega) ⟨.int z.length,H,I.tok _,⟨_,rfl⟩,q⟩
theorem call_list_of:CallR X (.type "list") (fun xs H Q=>∃ p ys,xs=[.ref p]∧(SqL X.K H p ys∨SqT X.K H p ys)∧∀ l,H l=none→Q (.ref l) (upd H l (.lst ys))):=by
  intro pins s σ H xs us Q I r h
  obtain ⟨p,ys,rfl,hq,q⟩:=h
  obtain ⟨u,rfl,rx⟩:=vals1 r
  cases rx
  have fin:∀ (its:List Value),Vals ys its→ys.length≤sizeLine→∀ (h':Heap) (c':Nat),(∀ b o',s.heap.get? b=some o'→h'.get? b=some o') →
      h'.get? s.heap.objs.size=some { cls:=.type "list",dict:=none,data:=.seq its.toArray c',slots:=#[] }→EP X pins σ Q (.ref s.heap.objs.size) { s with heap:=h' }:=fun its r' hz h' c' kp e =>
    ⟨.ref s.heap.objs.size,_,I.laid (t':=s.toks) kp (Nat.le_refl _) (show ObjOk X.prog X.w _ h' _ (.lst ys) from ⟨hz,its,c',r',e⟩),rfl,q _ (I.hok.fresh (Nat.le_refl _))⟩
  rcases hq with hq | hq
  · obtain ⟨its,r',pl,hz⟩:=I.list hq
    have hlen:=r'.length
    obtain ⟨o,ho,hc,n,hd⟩:=pl.isList
    exact call_list_seq p (.inl rfl) ho hc hd (fun h' c' kp e=>fin its r' hz h' c' kp e) (by simp only [List.size_toArray] <;> omega)
  · obtain ⟨its,r',pl,hz⟩:=I.tuple hq
    have hlen:=r'.length
    obtain ⟨o,ho,hc,n,hd⟩:=pl
    exact call_list_seq p (.inr rfl) ho hc hd (fun h' c' kp e=>fin its r' hz h' c' kp e) (by simp only [List.size_toArray] <;> omega)
theorem call_tuple_of:CallR X (.type "tuple") (fun xs H Q=>∃ p ys,xs=[.ref p]∧((SqL X.K H p ys∧∀ l,H l=none→Q (.ref l) (upd H l (.tup ys)))∨(SqT X.K H p ys∧Q (.ref p) H))):=by
  intro pins s σ H xs us Q I r h
  obtain ⟨p,ys,rfl,h⟩:=h
  obtain ⟨u,rfl,rx⟩:=vals1 r
  cases rx
  rcases h with ⟨hq,q⟩ | ⟨hq,q⟩
  · obtain ⟨its,r',pl,hz⟩:=I.list hq
    have hlen:=r'.length
    refine call_tuple_list pl.isList (fun h' kp=>?_) (by simp only [List.size_toArray] <;> omega)
    have I1:Inv X pins σ H { s with heap:=h' }:=I.kept (t':=s.toks) kp
    have I2:Inv X pins σ (upd H h'.objs.size (.tup ys)) { s with heap:=h'.push { cls:=.type "tuple",data:=.seq its.toArray } } :=
      I1.laid (t':=s.toks) (fun b o e=>Heap.get?_push_of_some _ e) (Nat.le_refl _) (show ObjOk X.prog X.w _ _ _ (.tup ys) from ⟨hz,its,r',IsTup.new _ _⟩)
    exact ⟨.ref h'.objs.size,_,I2,rfl,q _ (I1.hok.fresh (Nat.le_refl _))⟩
  · obtain ⟨its,r',pl,hz⟩:=I.tuple hq
    exact call_tuple_same pl ⟨.ref p,H,I,rfl,q⟩
def tyV (K:PySem.W.Frag) (T:String) (x:V) (H:Hp):Prop:=match x with
  | .str _=>T = "str"
  | .int _=>T = "int"
  | .ref p=>(T = "list" ∧ ∃ xs,SqL K H p xs)∨(T = "tuple" ∧ ∃ o,K.lookup p=some o∧o.cls=.type "tuple" ∧ o.dict=none) ∨
      (T = "dict" ∧ ((∃ kvs,H p=some (.dK kvs))∨∃ kvs,H p=some (.dT kvs)))∨(T = "set" ∧ ∃ S n,H p=some (.set S n))
  | _=>False
theorem tyV_is {pins:List (Addr × Obj)}{σ:St}{H:Hp}{s:Shared}{T:String}{x:V}{v:Value} (I:Inv X pins σ H s) (r:RelV x v) (ty:tyV X.K T x H) :
    s.TypeIs v T∧∀ a,v=.ref a→∃ ob,s.heap.get? a=some ob∧ob.dict=none:=by
  cases x with
  | str z =>
    obtain ⟨t,rfl⟩:=r
    cases (show T = "str" from ty)
    exact ⟨typeIs_str s z t,fun _ e=>nomatch e⟩
  | int i =>
    obtain ⟨t,rfl⟩:=r
    cases (show T = "int" from ty)
    exact ⟨typeIs_int s i t,fun _ e=>nomatch e⟩
  | ref p =>
    cases r
    rcases ty with ⟨rfl,xs,hq⟩ | ⟨rfl,o,hk,hc,hd⟩ | ⟨rfl,hk⟩ | ⟨rfl,S,n,hk⟩
    · obtain ⟨its,_,pl,_⟩:=I.list hq
      refine ⟨pl.isList.typeIs,fun a e=>?_⟩
      cases e
      obtain ⟨o,n,e,c,hd,_⟩:=pl
      exact ⟨o,e,hd⟩
    · refine ⟨⟨o,I.kIn p o hk,hc⟩,fun a e=>?_⟩
      cases e
      exact ⟨o,I.kIn _ o hk,hd⟩
    · have z:∃ o,s.heap.get? p=some o∧o.ExactDict:=by
        rcases hk with ⟨kvs,hk⟩ | ⟨kvs,hk⟩
        · obtain ⟨_,_,_,_,o,_,_,e,ex,_⟩:=I.hok p _ hk
          exact ⟨o,e,ex⟩
        · obtain ⟨_,_,_,_,o,_,_,e,ex,_⟩:=I.hok p _ hk
          exact ⟨o,e,ex⟩
      obtain ⟨o,e,ex⟩:=z
      refine ⟨⟨o,e,ex.1⟩,fun a e2=>?_⟩
      cases e2
      exact ⟨o,e,ex.2.1⟩
    · obtain ⟨o,_,_,_,e,ex,_⟩:=I.hok p _ hk
      refine ⟨⟨o,e,ex.1⟩,fun a e2=>?_⟩
      cases e2
      exact ⟨o,e,ex.2.1⟩
  | _=>exact False.elim ty
def tBM0 (K:PySem.W.Frag) (T:String) (r:V→List V→Hp→VK→Prop) (to:TE):TE:=fun σ H Q=>to σ H fun x H1=>tyV K T x H1∧r x [] H1 Q
def tBM (K:PySem.W.Frag) (T:String) (r:V→List V→Hp→VK→Prop) (to:TE) (t:TA):TE:=fun σ H Q=>to σ H fun x H1=>tyV K T x H1∧t σ H1 fun xs H2=>r x xs H2 Q
variable {o e:Expr}{es:List Expr}{to:TE}{t:TA}{name:Str}{apos cpos:Pos}{T id:String}{r:V→List V→Hp→VK→Prop}
theorem pe_bm0 (pa:PlainAttrs T) (slot:Slot T name id) (hty:typeOf (.builtin id)=pure (.type "method_descriptor")) (hm:MtR X id r) (ho:PE X o to)
    (hbase:attributeBase o name X.env (eval o X.env)=eval o X.env:=by rfl) (hline:(apos.endLine == cpos.line)=true:=by rfl):PE X (.Call (.Attribute o name apos) [] [] cpos) (tBM0 X.K T r to):=by
  intro pins s σ H Q I h
  refine wpAny_Call_method0_late hbase hline (thn (ho pins s σ H _ I h) fun v s1 ⟨x,H1,I1,r1,ty,q1⟩=>?_)
  obtain ⟨h1,h2⟩:=tyV_is I1 r1 ty
  exact ⟨T,id,pa,slot,hty,h1,h2,Calls.callWith_builtin rfl (PySem.evalArgs_none (hm pins s1 σ H1 x [] v [] Q I1 r1 .nil q1))⟩
theorem pe_bm (pa:PlainAttrs T) (slot:Slot T name id) (hty:typeOf (.builtin id)=pure (.type "method_descriptor")) (hm:MtR X id r) (ho:PE X o to) (ha:PA X (e::es) t)
    (hbase:attributeBase o name X.env (eval o X.env)=eval o X.env:=by rfl)
    (hfew:((backTo cpos (starEach (e::es) X.env)).all (fun x=>!x.1) && (backToKw cpos (keywordEach [] X.env)).all (fun x=>x.1.isSome)
      && decide ((e::es).length+([]:List Keyword).length+(if ([]:List Keyword).isEmpty then 0 else 1) < 30))=true:=by rfl)
    (hline:(apos.endLine == cpos.line)=true:=by rfl) (hs:starEach (e::es) X.env=(false,eval e X.env)::starEach es X.env:=by rfl) (hplain:(backTo cpos (starEach es X.env)).any (·.1)=false:=by rfl) :
    PE X (.Call (.Attribute o name apos) (e::es) [] cpos) (tBM X.K T r to t):=by
  intro pins s σ H Q I h
  refine wpAny_Call_method_late hbase hfew hline rfl (thn (ho pins s σ H _ I h) fun v s1 ⟨x,H1,I1,r1,ty,q1⟩=>?_)
  obtain ⟨h1,h2⟩:=tyV_is I1 r1 ty
  refine ⟨T,id,pa,slot,hty,h1,h2,?_⟩
  have hA:=ha cpos pins s1 σ H1 _ I1 q1
  rw [hs] at hA ⊢
  refine Calls.callWith_builtin (by show (false || (backTo cpos (starEach es X.env)).any (·.1))=false; rw [hplain] <;> rfl) (Calls.evalArgs_plain ?_)
  exact thn hA fun us s2 ⟨vs,H2,I2,r2,q2⟩=>hm pins s2 σ H2 x vs v us Q I2 r1 r2 q2
end
end L2
namespace L2
open PySem PySem.Spec PyProof.Rows
def MtM (X:Cx) (id:String) (r:V→List V→Hp→VK→Prop):Prop :=
  ∀ (pins:List (Addr × Obj)) (s:Shared) (σ:St) (H:Hp) (x:V) (xs:List V) (v:Value) (us:List Value) (Q:VK),Inv X pins σ H s→RelV x v→Vals xs us→r x xs H Q →
    wpAny (model X.prog X.w) X.A (call (.builtin id) (v::us)) (EP X pins σ Q) X.xe s
theorem Vals.one:∀ {x:V}{us:List Value},Vals [x] us→∃ u,us=[u]∧RelV x u
  | _,_,.cons r .nil=>⟨_,rfl,r⟩
theorem Vals.zero:∀ {us:List Value},Vals [] us→us=[]
  | _,.nil=>rfl
theorem Vals.eraseIdx:∀ {xs:List V}{us:List Value} (i:Nat),Vals xs us→Vals (xs.eraseIdx i) (us.eraseIdx i)
  | _,_,_,.nil=>.nil
  | _,_,0,.cons _ t=>t
  | _,_,i+1,.cons r t=>.cons r (Vals.eraseIdx i t)
theorem Vals.reverse {xs:List V}{us:List Value} (h:Vals xs us):Vals xs.reverse us.reverse:=by
  induction h with
  | nil=>exact .nil
  | cons r t ih=>rw [List.reverse_cons,List.reverse_cons]; exact Vals.append ih (.cons r .nil)
theorem Vals.rep {xs:List V}{us:List Value} (h:Vals xs us):∀ k:Nat,Vals (List.replicate k xs).flatten (List.replicate k us).flatten
  | 0=>.nil
  | k+1=>by
    rw [List.replicate_succ,List.replicate_succ,List.flatten_cons,List.flatten_cons]
    exact Vals.append h (Vals.rep h k)
theorem foldl_rep (its:List Value):∀ (k:Nat) (acc:List Value),
    List.foldl (fun x1 x2=>x1++x2) acc.toArray (List.replicate k its.toArray)=(acc++(List.replicate k its).flatten).toArray
  | 0,acc=>by simp
  | k+1,acc=>by
    have e:acc.toArray++its.toArray=(acc++its).toArray:=by simp
    have e2:(acc++its)++(List.replicate k its).flatten=acc++(List.replicate (k+1) its).flatten:=by
      rw [List.replicate_succ,List.flatten_cons,List.append_assoc]
    rw [← e2,← foldl_rep its k (acc++its),← e,List.replicate_succ,List.foldl_cons]
section
variable {X:Cx}{pins:List (Addr × Obj)}{σ:St}{H:Hp}{s:Shared}{l b:Addr}{xs ys zs:List V}
theorem Inv.lset {its its':List Value}{n:Nat}{f:Array Value→Array Value}{t':Nat} (I:Inv X pins σ H s) (hH:H l=some (.lst xs))
    (e:s.heap.get? l=some { cls:=.type "list",data:=.seq its.toArray n }) (hf:f its.toArray=its'.toArray) (hv:Vals ys its') (hz:ys.length≤sizeLine) :
    Inv X pins σ (upd H l (.lst ys)) { s with heap:=s.heap.update l (Obj.mapSeq f),toks:=t' }:=by
  have q:=PySem.IsL.update e f
  rw [hf] at q
  refine I.write (x:=l) (e:=l) (by rw [hH]; exact trivial) (.inl rfl) (fun b' u hb hu=>(Heap.get?_update_other s.heap (Obj.mapSeq f) (Ne.symm hb)).trans hu) ⟨_,q⟩ ?_
  exact ⟨hz,its',_,hv,q⟩
theorem Inv.lnew {its:List Value}{t':Nat} (I:Inv X pins σ H s) (hv:Vals ys its) (hz:ys.length≤sizeLine) :
    Inv X pins σ (upd H s.heap.objs.size (.lst ys)) { s with heap:=s.heap.push { cls:=.type "list",data:=.seq its.toArray },toks:=t' } :=
  I.laid (fun _ _ q=>Heap.get?_push_of_some _ q) (Nat.le_refl _) ⟨hz,its,0,hv,Heap.get?_push_size _ rfl⟩
theorem Inv.fresh (I:Inv X pins σ H s):H s.heap.objs.size=none:=I.hok.fresh (Nat.le_refl _)
theorem Inv.lstM (I:Inv X pins σ H s) (hH:H l=some (.lst xs)):xs.length≤sizeLine∧∃ (its:List Value) (n:Nat),Vals xs its∧xs.length=its.length∧s.heap.get? l=some { cls:=.type "list",data:=.seq its.toArray n }:=by
  obtain ⟨z,its,n,r,e⟩:=I.hok l _ hH
  exact ⟨z,its,n,r,r.length,e⟩
theorem notLongL {n:Nat} (h:n≤sizeLine):Builtin.List.listTooLong n=false:=by
  unfold Builtin.List.listTooLong
  exact decide_eq_false (by omega)
end
section
variable {X:Cx}
def rAppend:V→List V→Hp→VK→Prop:=fun x vs H Q=>∃ l xs y,x=.ref l∧vs=[y]∧H l=some (.lst xs)∧xs.length < sizeLine∧Q .non (upd H l (.lst (xs++[y])))
theorem mt_append:MtM X "list.append" rAppend:=by
  intro pins s σ H x vs v us Q I rx rv h
  obtain ⟨l,xs,y,rfl,rfl,hH,hz,q⟩:=h
  cases rx
  obtain ⟨u,rfl,ru⟩:=rv.one
  obtain ⟨z,its,n,r,hl,e⟩:=I.lstM hH
  refine call_meets F.slot_list_append ⟨_,e,rfl⟩ F.entry_list_append (F.args_list_append_2 _ _) (PySem.list_append l its.toArray n u (by rw [List.size_toArray]; omega)) ⟨e,?_⟩
  refine ⟨.non,_,I.lset (its':=its++[u]) hH e (by simp) (r.append (.cons ru .nil)) ?_,rfl,q⟩
  rw [List.length_append,List.length_singleton]
  omega
def rExtend:V→List V→Hp→VK→Prop:=fun x vs H Q=>∃ l b xs zs,x=.ref l∧vs=[.ref b]∧H l=some (.lst xs)∧H b=some (.lst zs)∧xs.length+zs.length≤sizeLine∧Q .non (upd H l (.lst (xs++zs)))
theorem mt_extend:MtM X "list.extend" rExtend:=by
  intro pins s σ H x vs v us Q I rx rv h
  obtain ⟨l,b,xs,zs,rfl,rfl,hH,hB,hz,q⟩:=h
  cases rx
  obtain ⟨u,rfl,ru⟩:=rv.one
  cases ru
  obtain ⟨z,its,n,r,hl,e⟩:=I.lstM hH
  obtain ⟨z2,its2,n2,r2,hl2,e2⟩:=I.lstM hB
  have hsz:its.toArray.size+its2.toArray.size≤sizeLine:=by rw [List.size_toArray,List.size_toArray]; omega
  have hlong:¬ (!its.toArray.isEmpty && Builtin.List.listTooLong (its.toArray.size+its2.toArray.size))=true:=by
    rw [notLongL hsz,Bool.and_false]
    exact Bool.false_ne_true
  refine call_meets F.slot_list_extend ⟨_,e,rfl⟩ F.entry_list_extend (F.args_list_extend_2 _ _)
    (AutoSeq1.list_extend_list_list_0 l its.toArray n b its2.toArray n2 hlong (by rw [List.size_toArray]; omega) (by omega)) ⟨e,e2,?_⟩
  refine ⟨.non,_,I.lset (its':=its++its2) hH e (by simp) (r.append r2) ?_,rfl,q⟩
  rw [List.length_append]
  omega
def rCat:R2:=fun x y H Q=>∃ l b xs zs,x=.ref l∧y=.ref b∧H l=some (.lst xs)∧H b=some (.lst zs)∧xs.length+zs.length≤sizeLine∧∀ p,H p=none→Q (.ref p) (upd H p (.lst (xs++zs)))
theorem op_cat:OpR X (binaryOp .Add) rCat:=by
  intro pins s σ H x y v u Q I rx ry h
  obtain ⟨l,b,xs,zs,rfl,rfl,hH,hB,hz,q⟩:=h
  cases rx
  cases ry
  obtain ⟨z,its,n,r,hl,e⟩:=I.lstM hH
  obtain ⟨z2,its2,n2,r2,hl2,e2⟩:=I.lstM hB
  refine PySem.P.add_list e e2 ?_ (by rw [List.size_toArray,List.size_toArray]; omega)
  have ea:its.toArray++its2.toArray=(its++its2).toArray:=by simp
  rw [ea]
  exact ⟨.ref _,_,I.lnew (t':=s.toks) (r.append r2) (by rw [List.length_append]; omega),rfl,q _ I.fresh⟩
def rRep:R2:=fun x y H Q=>∃ l k xs,x=.ref l∧y=.int k∧H l=some (.lst xs)∧-(2 ^ 63)≤k∧k < 2 ^ 63∧xs.length * k.toNat≤sizeLine ∧
  ∀ p,H p=none→Q (.ref p) (upd H p (.lst (List.replicate k.toNat xs).flatten))
theorem len_rep {α:Type} (xs:List α) (k:Nat):(List.replicate k xs).flatten.length=k * xs.length:=by
  induction k with
  | zero=>simp
  | succ k ih=>rw [List.replicate_succ,List.flatten_cons,List.length_append,ih,Nat.succ_mul,Nat.add_comm]
theorem op_rep:OpR X (binaryOp .Mult) rRep:=by
  intro pins s σ H x y v u Q I rx ry h
  obtain ⟨l,k,xs,rfl,rfl,hH,h1,h2,hz,q⟩:=h
  cases rx
  obtain ⟨t,rfl⟩:=ry
  obtain ⟨z,its,n,r,hl,e⟩:=I.lstM hH
  have hlen:its.toArray.size * k.toNat≤sizeLine:=by rw [List.size_toArray,← hl]; exact hz
  have hcap:¬ its.toArray.size * k.toNat > (2 ^ 63 - 1) / 8:=by
    have:(sizeLine:Nat)≤(2 ^ 63 - 1) / 8:=by decide
    omega
  have hfit:¬ (!Builtin.List.listFitsIndex k)=true:=by
    rw [fitsIndex_both h1 h2]
    exact Bool.false_ne_true
  have hlong:¬ Builtin.List.listTooLong (its.toArray.size * k.toNat)=true:=by
    rw [notLongL hlen]
    exact Bool.false_ne_true
  have hnew:List.foldl (fun x1 x2=>x1++x2) #[] (List.replicate (if its.toArray.isEmpty=true then 0 else k.toNat) its.toArray)=(List.replicate k.toNat its).flatten.toArray:=by
    have f0:∀ m:Nat,List.foldl (fun x1 x2=>x1++x2) #[] (List.replicate m its.toArray)=(List.replicate m its).flatten.toArray:=fun m=>by
      have:=foldl_rep its m []
      rw [List.nil_append] at this
      exact this
    rw [f0]
    cases its with
    | nil=>simp
    | cons a r'=>rw [if_neg (by simp)]
  refine wpAny_binaryOp_repeat_ref (T := "list") (U := "int") (by decide) ⟨_,e,rfl⟩ (fun s'=>typeIs_int s' k t) noFill_list_mul F.fills_int_mul F.slot_int_rmul repeat_list F.slot_int_index.lookup
    (call_meets F.slot_int_rmul (typeIs_int s k t) F.entry_int_rmul (F.args_int_rmul_2 _ _) (int___rmul___int_list k t l its.toArray n)
      ⟨e,rfl,⟨_,e,rfl⟩,call_meets F.slot_list_mul ⟨_,e,rfl⟩ F.entry_list_mul (F.args_list_mul_2 _ _) (AutoListH.list___mul___list_int_3 l its.toArray n k t hfit hcap hlong) ⟨e,?_⟩⟩)
  rw [hnew]
  exact ⟨.ref _,_,I.lnew (t':=s.toks) (r.rep k.toNat) (by rw [len_rep,Nat.mul_comm]; exact hz),rfl,q _ I.fresh⟩
end
section
variable {prog:Program}{w:World}{A:Around}{E:Value→Shared→Prop}{s:Shared}
end
section
variable {X:Cx}
end
end L2
namespace L2
open PySem PySem.Spec PyProof.Rows
section
variable {κ:Type} [DecidableEq κ]
def valV (kvs:List (κ × V)) (k:κ):Option V:=(kvs.find? fun kv=>decide (kv.1=k)).map (·.2)
def putK (kvs:List (κ × V)) (k:κ) (v:V):List (κ × V) :=
  if (kvs.any fun kv=>decide (kv.1=k))=true then kvs.map (fun kv=>if kv.1=k then (kv.1,v) else kv) else kvs++[(k,v)]
theorem valV_pos {p:κ × V}{r:List (κ × V)}{k:κ} (e:p.1=k):valV (p::r) k=some p.2:=by simp [valV,List.find?_cons,e]
theorem valV_neg {p:κ × V}{r:List (κ × V)}{k:κ} (e:¬ p.1=k):valV (p::r) k=valV r k:=by simp [valV,List.find?_cons,e]
theorem valV_any (k:κ):∀ kvs:List (κ × V),(kvs.any fun kv=>decide (kv.1=k))=(valV kvs k).isSome
  | []=>rfl
  | p::r=>by
    rw [List.any_cons]
    by_cases e:p.1=k
    · simp only [valV_pos e,decide_eq_true e,Bool.true_or,Option.isSome_some]
    · rw [valV_neg e,decide_eq_false e,Bool.false_or]; exact valV_any k r
theorem length_putK (kvs:List (κ × V)) (k:κ) (v:V):(putK kvs k v).length≤kvs.length+1:=by
  unfold putK
  split
  · rw [List.length_map]; omega
  · rw [List.length_append,List.length_cons,List.length_nil]; omega
theorem RelO.isSome_eq {o:Option V}{u:Option Value} (r:RelO o u):o.isSome=u.isSome:=by
  cases o with
  | none=>cases u with
    | none=>rfl
    | some _=>exact (show False from r).elim
  | some _=>cases u with
    | none=>exact (show False from r).elim
    | some _=>rfl
theorem RelO.getD {o:Option V}{u:Option Value}{d:V}{d':Value} (r:RelO o u) (rd:RelV d d'):RelV (o.getD d) (u.getD d'):=by
  cases o with
  | none=>cases u with
    | none=>exact rd
    | some _=>exact (show False from r).elim
  | some _=>cases u with
    | none=>exact (show False from r).elim
    | some _=>exact r
theorem KV.val {kvs:List (κ × V)}{vs:List (κ × Value)} (r:KV kvs vs) (k:κ):RelO (valV kvs k) (valueAt vs k):=by
  unfold KV at r
  induction r with
  | nil=>exact True.intro
  | @cons p q ps qs h t ih =>
    obtain ⟨h1,h2⟩:=h
    by_cases e:p.1=k
    · have e':q.1=k:=h1.symm.trans e
      have b:valueAt (q::qs) k=some q.2:=by simp [valueAt,List.find?_cons,e']
      rw [valV_pos e,b]; exact h2
    · have e':¬ q.1=k:=fun z=>e (h1.trans z)
      have b:valueAt (q::qs) k=valueAt qs k:=by simp [valueAt,List.find?_cons,e']
      rw [valV_neg e,b]; exact ih
theorem KV.any {kvs:List (κ × V)}{vs:List (κ × Value)} (r:KV kvs vs) (k:κ):(kvs.any fun kv=>decide (kv.1=k))=vs.any fun kv=>decide (kv.1=k):=by
  unfold KV at r
  induction r with
  | nil=>rfl
  | cons h t ih=>rw [List.any_cons,List.any_cons,ih,h.1]
theorem KV.repl {kvs:List (κ × V)}{vs:List (κ × Value)} (r:KV kvs vs) (k:κ) {y:V}{u:Value} (ry:RelV y u) :
    KV (kvs.map fun kv=>if kv.1=k then (kv.1,y) else kv) (vs.map fun kv=>if kv.1=k then (kv.1,u) else kv):=by
  unfold KV at r ⊢
  induction r with
  | nil=>exact .nil
  | @cons p q ps qs h t ih =>
    rw [List.map_cons,List.map_cons]
    refine .cons ?_ ih
    obtain ⟨h1,h2⟩:=h
    by_cases e:p.1=k
    · rw [if_pos e,if_pos (h1.symm.trans e)]; exact ⟨h1,ry⟩
    · rw [if_neg e,if_neg (fun z=>e (h1.trans z))]; exact ⟨h1,h2⟩
theorem KV.put {kvs:List (κ × V)}{vs:List (κ × Value)} (r:KV kvs vs) (k:κ) {y:V}{u:Value} (ry:RelV y u):KV (putK kvs k y) (stored vs k u):=by
  unfold putK stored
  rw [r.any k]
  by_cases e:(vs.any fun kv=>decide (kv.1=k))=true
  · rw [if_pos e,if_pos e]; exact r.repl k ry
  · rw [if_neg e,if_neg e]; exact Paired.snoc r ⟨rfl,ry⟩
theorem KV.keys {kvs:List (κ × V)}{vs:List (κ × Value)} (r:KV kvs vs):kvs.map (·.1)=vs.map (·.1):=by
  unfold KV at r
  induction r with
  | nil=>rfl
  | cons h t ih=>rw [List.map_cons,List.map_cons,ih,h.1]
theorem KV.length {kvs:List (κ × V)}{vs:List (κ × Value)} (r:KV kvs vs):kvs.length=vs.length:=Paired.length r
end
theorem kV_is {P:Program}{w:World}{k:Key}{u:Value} (r:RelV (kV k) u):(mixKind P w).is k u=true:=by
  cases k with
  | inl i=>obtain ⟨t,e⟩:=(show ∃ t,u=Value.int i t from r); subst e; exact mixKind_int P w i t
  | inr x=>obtain ⟨t,e⟩:=(show ∃ t,u=Value.str x t from r); subst e; exact mixKind_str P w x t
theorem tkV_is {P:Program}{w:World}{k:TKey}{u:Value} (r:RelV (tkV k) u):(tkKind P w).is k u=true:=by
  cases k with
  | inl x=>obtain ⟨t,e⟩:=(show ∃ t,u=Value.str x t from r); subst e; show Value.isStrOf x (.str x t)=true; simp [Value.isStrOf]
  | inr b=>have e:u=Value.bool b:=r; subst e; exact beq_self_eq_true _
theorem items_are {P:Program}{w:World}:∀ {ks:List TKey}{us:List Value},Vals (ks.map tkV) us→ItemsAre (tkKind P w) ks us
  | [],_,r=>by rw [List.map_nil] at r; cases r; exact .nil
  | k::ks,_,r=>by
    rw [List.map_cons] at r
    cases r with
    | cons h t=>exact .cons (tkV_is h) (items_are t)
abbrev KT (H:Hp):List (List TKey × V)→List (List TKey × Addr × Value)→Prop:=Paired fun p q=>p.1=q.1∧H q.2.1=some (.tup (p.1.map tkV))∧RelV p.2 q.2.2
theorem KT.val {H:Hp}{kvs:List (List TKey × V)}{xs:List (List TKey × Addr × Value)} (r:KT H kvs xs) (k:List TKey):RelO (valV kvs k) ((atKey xs k).map (·.2)):=by
  induction r with
  | nil=>exact True.intro
  | @cons p q ps qs h t ih =>
    obtain ⟨h1,_,h2⟩:=h
    by_cases e:p.1=k
    · have e':q.1=k:=h1.symm.trans e
      have b:atKey (q::qs) k=some q.2:=by simp [atKey,List.find?_cons,e']
      rw [valV_pos e,b]; exact h2
    · have e':¬ q.1=k:=fun z=>e (h1.trans z)
      have b:atKey (q::qs) k=atKey qs k:=by simp [atKey,List.find?_cons,e']
      rw [valV_neg e,b]; exact ih
theorem KT.repl {H:Hp}{kvs:List (List TKey × V)}{xs:List (List TKey × Addr × Value)} (r:KT H kvs xs) (k:List TKey) {y:V}{u:Value} (ry:RelV y u) :
    KT H (kvs.map fun kv=>if kv.1=k then (kv.1,y) else kv) (xs.map (putAt k u)):=by
  induction r with
  | nil=>exact .nil
  | @cons p q ps qs h t ih =>
    rw [List.map_cons,List.map_cons]
    refine .cons ?_ ih
    obtain ⟨h1,h2,h3⟩:=h
    unfold putAt
    by_cases e:p.1=k
    · rw [if_pos e,if_pos (h1.symm.trans e)]; exact ⟨h1,h2,ry⟩
    · rw [if_neg e,if_neg (fun z=>e (h1.trans z))]; exact ⟨h1,h2,h3⟩
theorem KT.put {H:Hp}{kvs:List (List TKey × V)}{xs:List (List TKey × Addr × Value)} (r:KT H kvs xs) (k:List TKey) {b:Addr}{y:V}{u:Value} (hb:H b=some (.tup (k.map tkV))) (ry:RelV y u) :
    KT H (putK kvs k y) (storedH xs k b u):=by
  have e:(kvs.any fun kv=>decide (kv.1=k))=(atKey xs k).isSome:=by
    rw [valV_any,(r.val k).isSome_eq,Option.isSome_map]
  unfold putK storedH
  rw [e]
  by_cases q:(atKey xs k).isSome=true
  · rw [if_pos q,if_pos q]; exact r.repl k ry
  · rw [if_neg q,if_neg q]; exact Paired.snoc r ⟨rfl,hb,ry⟩
theorem KT.keeps {H H':Hp}{kvs:List (List TKey × V)}{xs:List (List TKey × Addr × Value)} (r:KT H kvs xs) (ht:∀ b ys,H b=some (.tup ys)→H' b=some (.tup ys)):KT H' kvs xs :=
  Paired.mapP r fun _ _ z=>⟨z.1,ht _ _ z.2.1,z.2.2⟩
section
variable {P:Program}{w:World}{H:Hp}{h:Heap}{a:Addr}
theorem rd_of {u:HO} (ok:HOk P w H h) (e:Rd H a u):ObjOk P w H h a u:=e.ok ok
theorem dk_rd {kvs:List (Key × V)} (ok:HOk P w H h) (e:Rd H a (.dK kvs)):kvs.length≤sizeLine∧(a == sysModules)=false∧∃ vs,KV kvs vs∧h.DictOf (mixKind P w) a vs :=
  show ObjOk P w H h a (.dK kvs) from rd_of ok e
theorem dk_of {kvs:List (Key × V)} (ok:HOk P w H h) (e:H a=some (.dK kvs)):kvs.length≤sizeLine∧(a == sysModules)=false∧∃ vs,KV kvs vs∧h.DictOf (mixKind P w) a vs:=dk_rd ok (.inl e)
theorem key_of {ks:List TKey} (ok:HOk P w H h) (e:H a=some (.tup (ks.map tkV))):(tupleKind (tkKind P w)).is h ks a:=by
  obtain ⟨_,its,r,o,h1,h2,n,h3⟩:=(show ObjOk P w H h a (.tup (ks.map tkV)) from ok a _ e)
  exact ⟨o,its.toArray,n,h1,h2,h3,by simpa using items_are r⟩
theorem dt_rd {kvs:List (List TKey × V)} (ok:HOk P w H h) (e:Rd H a (.dT kvs)):kvs.length≤sizeLine∧(a == sysModules)=false ∧
    ∃ xs,KT H kvs xs∧h.DictOfH (tupleKind (tkKind P w)) a xs:=by
  obtain ⟨z,y,xs,r,o,es,ep,h1,h2,h3,h4,h5⟩:=(show ObjOk P w H h a (.dT kvs) from rd_of ok e)
  refine ⟨z,y,xs,r,o,es,ep,h1,h2,h3,h4,fun x hx=>?_,h5⟩
  have all:∀ {l:List (List TKey × V)} {m:List (List TKey × Addr × Value)},KT H l m→∀ x∈m,(tupleKind (tkKind P w)).is h x.1 x.2.1:=by
    intro l m q
    induction q with
    | nil=>intro x hx; exact nomatch hx
    | @cons p q ps qs hq t ih =>
      intro x hx
      rcases List.mem_cons.mp hx with e | hx
      · subst e
        exact key_of ok (by rw [← hq.1]; exact hq.2.1)
      · exact ih x hx
  exact all r x hx
theorem dt_of {kvs:List (List TKey × V)} (ok:HOk P w H h) (e:H a=some (.dT kvs)):kvs.length≤sizeLine∧(a == sysModules)=false ∧
    ∃ xs,KT H kvs xs∧h.DictOfH (tupleKind (tkKind P w)) a xs:=dt_rd ok (.inl e)
end
def DGet (H:Hp) (a:Addr) (y:V) (r:Option V):Prop :=
  (∃ kvs k,Rd H a (.dK kvs)∧y=kV k∧r=valV kvs k)∨∃ kvs k b,Rd H a (.dT kvs)∧y=.ref b∧H b=some (.tup (k.map tkV))∧r=valV kvs k
def DPut (H:Hp) (a:Addr) (y v:V) (H':Hp):Prop :=
  (∃ kvs k,H a=some (.dK kvs)∧y=kV k∧kvs.length < sizeLine∧H'=upd H a (.dK (putK kvs k v))) ∨
  ∃ kvs k b,H a=some (.dT kvs)∧y=.ref b∧H b=some (.tup (k.map tkV))∧kvs.length < sizeLine∧H'=upd H a (.dT (putK kvs k v))
theorem DGet.k {H:Hp}{a:Addr}{kvs:List (Key × V)}{k:Key} (e:H a=some (.dK kvs)):DGet H a (kV k) (valV kvs k):=.inl ⟨kvs,k,.inl e,rfl,rfl⟩
theorem DPut.k {H:Hp}{a:Addr}{kvs:List (Key × V)}{k:Key}{v:V} (e:H a=some (.dK kvs)) (hl:kvs.length < sizeLine):DPut H a (kV k) v (upd H a (.dK (putK kvs k v))):=.inl ⟨kvs,k,e,rfl,hl,rfl⟩
section
variable {X:Cx}{pins:List (Addr × Obj)}{σ:St}{H:Hp}{s:Shared}{a:Addr}{y v:V}{u r:Value}{o:Option V}{A:Around}{E:Value→Shared→Prop}
theorem Inv.big (I:Inv X pins σ H s):sysModules < s.heap.objs.size:=by
  have h:mainGlobals < s.heap.objs.size:=(I.mod.glob.keeps I.bk).lt
  exact Nat.lt_trans (by decide) h
theorem d_getItem {Q:Value→Shared→Prop} (hu:A.units+1 < cLine) (I:Inv X pins σ H s) (g:DGet H a y (some v)) (ry:RelV y u) (h:∀ w' s',Inv X pins σ H s'→RelV v w'→Q w' s') :
    wpAny (model X.prog X.w) A (getItem (.ref a) u) Q E s:=by
  rcases g with ⟨kvs,k,e,ey,l⟩ | ⟨kvs,k,b,e,ey,eb,l⟩
  · subst ey
    obtain ⟨z,hd,vs,rel,dd⟩:=dk_rd I.hok e
    obtain ⟨w',hw,rw'⟩:=RelO.some_of (v:=v) (o:=valueAt vs k) (by rw [l]; exact rel.val k)
    exact wpAny_getItem_of (kV_is ry) dd.mapOf hw (h w' _ (I.tok _) rw')
  · subst ey
    cases (show u=Value.ref b from ry)
    obtain ⟨z,hd,xs,rel,dd⟩:=dt_rd I.hok e
    obtain ⟨w',hw,rw'⟩:=RelO.some_of (v:=v) (o:=(atKey xs k).map (·.2)) (by rw [l]; exact rel.val k)
    obtain ⟨p,hp,hp2⟩:=Option.map_eq_some_iff.mp hw
    refine wpAny_getItem_heap (tupleKind_room_in1 hu) (key_of I.hok eb) dd hp ?_
    rw [hp2]
    exact h w' _ (I.tok _) rw'
theorem d_write {h':Heap}{t':Nat}{ob:HO} (I:Inv X pins σ H s) (mu:Mut (H a)) (hs:Heap.SameBut a s.heap h') (he:∃ q,h'.get? a=some q) (new:ObjOk X.prog X.w (upd H a ob) h' a ob) :
    Inv X pins σ (upd H a ob) { s with heap:=h',toks:=t' } :=
  I.write (x:=a) (e:=a) mu (.inl rfl) (fun b q hb z=>(hs.2 b hb).trans z) he new
theorem dk_new {P:Program}{w:World}{H':Hp}{h':Heap}{kvs:List (Key × V)}{vs:List (Key × Value)} (z:kvs.length≤sizeLine) (hd:(a == sysModules)=false) (rel:KV kvs vs) (dd:h'.DictOf (mixKind P w) a vs) :
    ObjOk P w H' h' a (.dK kvs):=⟨z,hd,vs,rel,dd⟩
theorem d_setItem {H':Hp}{Q:Unit→Shared→Prop} (hu:A.units+1 < cLine) (I:Inv X pins σ H s) (g:DPut H a y v H') (ry:RelV y u) (rv:RelV v r) (h:∀ s',Inv X pins σ H' s'→Q () s') :
    wpAny (model X.prog X.w) A (setItem (.ref a) u r) Q E s:=by
  rcases g with ⟨kvs,k,e,ey,l,eH⟩ | ⟨kvs,k,b,e,ey,eb,l,eH⟩
  · subst ey eH
    obtain ⟨z,hd,vs,rel,dd⟩:=dk_of I.hok e
    have hz:vs.length≤sizeLine:=by rw [← rel.length]; exact z
    have hl:(putK kvs k v).length≤sizeLine:=by have:=length_putK kvs k v; omega
    refine wpAny_setItem_pairs (hsz:=hz) (kV_is ry) dd fun h' dd' hs=>h _ ?_
    have he:∃ q,h'.get? a=some q:=let ⟨q,_,_,hq,_⟩:=dd'; ⟨q,hq⟩
    exact d_write I (by rw [e]; exact True.intro) hs he (dk_new hl hd (rel.put k rv) dd')
  · subst ey eH
    cases (show u=Value.ref b from ry)
    obtain ⟨z,hd,xs,rel,dd⟩:=dt_of I.hok e
    have hz:xs.length≤sizeLine:=by rw [← Paired.length rel]; exact z
    have hl:(putK kvs k v).length≤sizeLine:=by have:=length_putK kvs k v; omega
    refine wpAny_setItem_heap (hsz:=hz) (tupleKind_room_in1 hu) (key_of I.hok eb) dd fun h' dd' hs=>h _ ?_
    obtain ⟨q,es,ep,hq,h2,h3,h4,_,h5⟩:=dd'
    refine d_write I (by rw [e]; exact True.intro) hs ⟨q,hq⟩ ⟨hl,hd,_,(rel.put k eb rv).keeps fun c ys ec=>?_,q,es,ep,hq,h2,h3,h4,h5⟩
    rw [upd_ne (ne_of ec e (fun z=>nomatch z))]
    exact ec
end
section
variable {X:Cx}{pins:List (Addr × Obj)}{σ:St}{H:Hp}{s:Shared}{a:Addr}{kvs:List (Key × V)}{k:Key}{u:Value}{A:Around}{E:Value→Shared→Prop}
end
def NoSl (i:Expr):Prop:=∀ ov iv,subscripted i false ov iv=operate [ov,iv] (getItem ov iv)
theorem subD_of {prog:Program}{w:World}{A:Around}{E:Value→Shared→Prop}{s:Shared}{env:Env}{value slice:Expr}{pos:Pos}{T id:String}{Q:Value→Shared→Prop}
    (hl:typeLookup (.type T) "__getitem__" = pure (some (.builtin id))) (hs:NoSl slice)
    (h:wpAny (model prog w) A (eval value env) (fun o s₁=>wpAny (model prog w) A (eval slice env) (fun i s₂=>s₂.TypeIs o T∧wpAny (model prog w) A (getItem o i) Q E s₂) E s₁) E s) :
    wpAny (model prog w) A (eval (.Subscript value slice pos) env) Q E s:=by
  refine Subscript_ (wpAny_mono h (fun o s₁ h₁=>wpAny_mono h₁ (fun i s₂ h₂=>?_) fun _ _ x=>x) fun _ _ x=>x)
  obtain ⟨hT,h₂⟩:=h₂
  unfold subscriptTail
  refine wpAny_bind ?_
  rw [getitemInPython_of_ne hT.not_modules]
  refine wpAny_bind (wpAny_specialOf hT hl ?_)
  have fin:wpAny (model prog w) A (subscripted slice false o i) (fun r s₃=>wpAny (model prog w) A (letTemporaryGo value o r >>= fun _=>pure r) Q E s₃) E s₂:=by
    rw [hs o i]
    exact wpAny_operating (wpAny_mono h₂ (fun r s₃ h₃=>wpAny_bind (wpAny_letTemporaryGo (wpAny_pure h₃))) fun _ _ x=>x)
  first
    | exact wpAny_pure (wpAny_bind fin)
    | exact wpAny_bind (wpAny_pure (wpAny_bind fin))
    | exact wpAny_bind fin
theorem dict_typeIs {X:Cx}{pins:List (Addr × Obj)}{σ:St}{H:Hp}{s:Shared}{a:Addr}{y:V}{o:Option V} (I:Inv X pins σ H s) (g:DGet H a y o):s.TypeIs (.ref a) "dict" := by
  rcases g with ⟨kvs,k,e,_,_⟩ | ⟨kvs,k,b,e,_,_,_⟩
  · obtain ⟨_,_,vs,_,dd⟩:=dk_rd I.hok e
    exact dd.typeIs
  · obtain ⟨_,_,xs,_,dd⟩:=dt_rd I.hok e
    exact dd.typeIs
def tDGet (td ty:TE):TE:=fun σ H Q=>td σ H fun x H1=>ty σ H1 fun y H2=>∃ a v,x=.ref a∧DGet H2 a y (some v)∧Q v H2
def sDPut (td ty tv:TE):TS:=fun D σ H=>tv σ H fun v H1=>td σ H1 fun x H2=>ty σ H2 fun y H3=>∃ a H4,x=.ref a∧DPut H3 a y v H4∧D.nx σ H4
section
variable {X:Cx}{o i e value:Expr}{pos pos' tpos:Pos}{td ty tv:TE}
theorem pe_dget (hu:X.A.units+1 < cLine) (ho:PE X o td) (hi:PE X i ty) (hs:NoSl i):PE X (.Subscript o i pos) (tDGet td ty):=by
  intro pins s σ H Q I h
  refine subD_of PySem.F.slot_dict_getitem.lookup hs (thn (ho pins s σ H _ I h) fun u s1 ⟨x,H1,I1,rx,q1⟩=>thn (hi pins s1 σ H1 _ I1 q1) fun iv s2 ⟨y,H2,I2,ry,a,v,ex,g,q2⟩=>?_)
  subst ex
  obtain rfl:u=Value.ref a:=rx
  exact ⟨dict_typeIs I2 g,d_getItem hu I2 g ry fun w' s3 I3 rw'=>⟨v,H2,I3,rw',q2⟩⟩
theorem ps_dput (hu:X.A.units+1 < cLine) (ho:PE X o td) (hi:PE X i ty) (hv:PE X value tv) (hs:swapsWith value (some (.Subscript o i pos')) pos.line X.env=pure false) :
    PS X (.Assign [.Subscript o i pos'] value pos) (sDPut td ty tv):=by
  intro pins s σ H D I h
  refine wpAny_Assign_Subscript (thn (hv pins s σ H _ I h) fun r s1 ⟨v,H1,I1,rv,q1⟩=>thn (ho pins s1 σ H1 _ I1 q1) fun u s2 ⟨x,H2,I2,rx,q2⟩=>thn (hi pins s2 σ H2 _ I2 q2) fun iv s3 ⟨y,H3,I3,ry,a,H4,ex,g,q3⟩=>?_) hs
  subst ex
  obtain rfl:u=Value.ref a:=rx
  exact d_setItem hu I3 g ry rv fun s4 I4=>⟨σ,H4,I4,q3⟩
end
theorem dk_empty {P:Program}{w:World}{H:Hp} (h:Heap) (hb:sysModules < h.objs.size):ObjOk P w H (h.push { cls:=.type "dict",data:=.dict #[] }) h.objs.size (.dK []) :=
  ⟨Nat.zero_le _,beq_eq_false_iff_ne.mpr (Ne.symm (Nat.ne_of_lt hb)),[],.nil,Heap.DictOf.new h⟩
def tDNewK:TE:=fun _ H Q=>∀ p,H p=none→Q (.ref p) (upd H p (.dK []))
section
variable {X:Cx}{pos:Pos}
theorem pe_dnewK:PE X (.Dict [] [] pos) tDNewK:=fun pins s σ H Q I h =>
  wpAny_Dict_empty ⟨.ref s.heap.objs.size,_,I.laid (a:=s.heap.objs.size) (o:=.dK []) (t':=s.toks) (fun _ _ q=>Heap.get?_push_of_some _ q) (Nat.le_refl _) (dk_empty s.heap I.big),rfl,h _ (I.hok.fresh (Nat.le_refl _))⟩
end
structure M2 (X:Cx) (o:Expr) (m:Str) (apos:Pos) (e f:Expr) (cpos:Pos):Prop where
  base:attributeBase o m X.env (eval o X.env)=eval o X.env
  few:((backTo cpos (starEach [e,f] X.env)).all (fun x=>!x.1) && (backToKw cpos (keywordEach [] X.env)).all (fun x=>x.1.isSome)
    && decide (([e,f]:List Expr).length+([]:List Keyword).length+(if ([]:List Keyword).isEmpty then 0 else 1) < 30))=true
  line:(apos.endLine == cpos.line)=true
  trees:backTo cpos (starEach [e,f] X.env)=[(false,eval e X.env),(false,eval f X.env)]
def IsD (H:Hp) (a:Addr):Prop:=(∃ kvs,Rd H a (.dK kvs))∨∃ kvs,Rd H a (.dT kvs)
theorem isD_at {X:Cx}{pins:List (Addr × Obj)}{σ:St}{H:Hp}{s:Shared}{a:Addr} (I:Inv X pins σ H s) (d:IsD H a) :
    s.TypeIs (.ref a) "dict" ∧ (∀ b,Value.ref a=.ref b→∃ ob,s.heap.get? b=some ob∧ob.dict=none)∧(a == sysModules)=false:=by
  rcases d with ⟨kvs,e⟩ | ⟨kvs,e⟩
  · obtain ⟨_,hd,vs,_,dd⟩:=dk_rd I.hok e
    refine ⟨dd.typeIs,fun b q=>?_,hd⟩
    cases q
    obtain ⟨ob,_,_,h1,h2,_⟩:=dd
    exact ⟨ob,h1,h2.2.1⟩
  · obtain ⟨_,hd,xs,_,dd⟩:=dt_rd I.hok e
    refine ⟨dd.typeIs,fun b q=>?_,hd⟩
    cases q
    obtain ⟨ob,_,_,h1,h2,_⟩:=dd
    exact ⟨ob,h1,h2.2.1⟩
section
variable {X:Cx}{pins:List (Addr × Obj)}{σ:St}{H:Hp}{s:Shared}{a:Addr}{y d:V}{u r:Value}{o:Option V}{A:Around}{E:Value→Shared→Prop}
theorem d_get2 {Q:Value→Shared→Prop} (hu:A.units+1 < cLine) (I:Inv X pins σ H s) (g:DGet H a y o) (ry:RelV y u) (rd:RelV d r) (h:∀ w' s',Inv X pins σ H s'→RelV (o.getD d) w'→Q w' s') :
    wpAny (model X.prog X.w) A (call (.builtin "dict.get") [.ref a,u,r]) Q E s:=by
  rcases g with ⟨kvs,k,e,ey,l⟩ | ⟨kvs,k,b,e,ey,eb,l⟩
  · subst ey
    obtain ⟨z,hd,vs,rel,dd⟩:=dk_rd I.hok e
    refine call_meetsIn PySem.F.slot_dict_get dd.typeIs PySem.F.entry_dict_get (PySem.F.args_dict_get_3 _ _ _) (meets_dict_get_default (mixKind X.prog X.w) a (kV_is ry) hd r) ⟨_,dd.mapOf,h _ _ (I.tok _) ?_⟩
    rw [l]
    exact (rel.val k).getD rd
  · subst ey
    cases (show u=Value.ref b from ry)
    obtain ⟨z,hd,xs,rel,dd⟩:=dt_rd I.hok e
    refine call_meetsIn PySem.F.slot_dict_get dd.typeIs PySem.F.entry_dict_get (PySem.F.args_dict_get_3 _ _ _) (meetsH_dict_get_default (tupleKind (tkKind X.prog X.w)) a b hd r) ⟨tupleKind_room_in1 hu,k,xs,key_of I.hok eb,dd,h _ _ (I.tok _) ?_⟩
    rw [l]
    exact (rel.val k).getD rd
end
def tDGet2 (td ty tx:TE):TE:=fun σ H Q=>td σ H fun x H1=>∃ a,x=.ref a∧IsD H1 a∧ty σ H1 fun y H2=>tx σ H2 fun z H3=>∃ o,DGet H3 a y o∧Q (o.getD z) H3
section
variable {X:Cx}{o e f:Expr}{apos cpos:Pos}{td ty tx:TE}
theorem pe_dget2 (hu:X.A.units+1 < cLine) (ho:PE X o td) (he:PE X e ty) (hf:PE X f tx) (m:M2 X o "get" apos e f cpos):PE X (.Call (.Attribute o "get" apos) [e,f] [] cpos) (tDGet2 td ty tx):=by
  intro pins s σ H Q I h
  refine wpAny_Call_method m.base m.few m.line PySem.F.plainAttrs_dict PySem.F.slot_dict_get PySem.F.type_dict_get (thn (ho pins s σ H _ I h) fun u s1 ⟨x,H1,I1,rx,a,ex,d,q1⟩=>?_)
  subst ex
  obtain rfl:u=Value.ref a:=rx
  obtain ⟨t1,t2,_⟩:=isD_at I1 d
  refine ⟨t1,t2,?_⟩
  rw [m.trees]
  refine Calls.callWith_builtin rfl (Calls.evalArgs_plain (Calls.spliced_cons (thn (he pins s1 σ H1 _ I1 q1) fun iv s2 ⟨y,H2,I2,ry,q2⟩ =>
    Calls.spliced_cons (thn (hf pins s2 σ H2 _ I2 q2) fun fv s3 ⟨z,H3,I3,rz,ov,g,q3⟩=>Calls.spliced_nil ?_))))
  exact d_get2 hu I3 g ry rz fun w' s4 I4 rw'=>⟨_,H3,I4,rw',q3⟩
end
section
variable {X:Cx}{pins:List (Addr × Obj)}{σ:St}{H:Hp}{s:Shared}{a:Addr}{kvs:List (Key × V)}{A:Around}{E:Value→Shared→Prop}
end
section
variable {X:Cx}{pins:List (Addr × Obj)}{σ:St}{H:Hp}{s:Shared}{a:Addr}{y:V}{u:Value}{A:Around}{E:Value→Shared→Prop}
end
end L2
namespace Att
open PySem PySem.W PySem.Calls PyProof.Rows
theorem ints_of_wellAll {P:Params}{h:Heap}:∀ (ns:List Int) (vs:List Value),WellAll P h vs (ns.map WData.int)→IntsAre vs ns:=by
  intro ns
  induction ns with
  | nil =>
    intro vs w
    rw [List.map_nil] at w
    cases w
    exact .nil
  | cons n ns ih =>
    intro vs w
    rw [List.map_cons] at w
    cases w with
    | cons a b =>
      cases a
      exact .cons _ _ (ih _ b)
theorem script_of {l:OpenLaw}{n:Nat} (hn:l.most=some n) {P:Params}{h:Heap}{args:List WData}{vals:List Value}
    (hpre:l.row.toRowW.claim.pre args=true) (hwl:WellAll P h vals args) :
    ∃ a vs ns,vals=[Value.ref a]∧args=[WData.list (ns.map WData.int)]∧h.get? a=some { cls:=.type "list",data:=.seq vs.toArray }∧IntsAre vs ns∧ns.length≤n:=by
  have hsh:WShape.hasAll [] args [.list .int]=true:=(pre_splitW hpre).1
  have hc:l.pre.holds [] { args:=args }=true:=(pre_splitW hpre).2
  obtain ⟨d,r,rfl,h1,h2⟩:=hasAllW_cons hsh
  obtain rfl:=hasAllW_nil h2
  obtain ⟨xs,rfl,h3⟩:=hasW_list h1
  obtain ⟨ns,rfl⟩:=items_int h3
  have hlen:ns.length≤n:=by
    unfold OpenLaw.pre at hc
    have h4:(WTm.not (.lt (.lit (.int (n:Int))) (.len (.arg 0)))).holds [] { args:=[.list (ns.map .int)] }=true:=by
      have h4:=(holds_andW hc).1
      rw [hn] at h4
      exact h4
    have h5:=condW_of h4 (w_not (w_lt w_lit (w_len_list (w_arg rfl))))
    rw [List.length_map] at h5
    refine Nat.le_of_not_lt fun q=>?_
    have q':(n:Int) < ((ns.length:Nat):Int):=by omega
    first
      | (rw [decide_eq_true q'] at h5; exact absurd h5 (by decide))
      | (simp at h5; omega)
  cases hwl with
  | cons w1 w2 =>
    cases w2
    cases w1 with
    | list ho hall=>exact ⟨_,_,ns,rfl,rfl,ho,ints_of_wellAll ns _ hall,hlen⟩
theorem post_true (l:OpenLaw) (args:List WData):l.row.toRowW.claim.post args (.bool true) args=true :=
  postW_of (r:=l.row.toRowW) (X:=(true == true))
    (show WShape.has [] (.bool true) .bool=true by first | rfl | decide | simp [WShape.has,WShape.arms,WShape.armsAll])
    (show (WTm.eq .res (.lit (.bool true))).value [] { args:=args,res:=some (.bool true),after:=args }=some (.bool (true == true)) from w_eq_bool (w_res rfl) w_lit) rfl
theorem attach_call {l:OpenLaw}{n:Nat}{q:Program}{loose:List Str}{XP:(Str→Option Value)→Heap→Prop}{YP:World→Heap→Prop}{d:DefRec}
    (hn:l.most=some n) (hdf:d.params.defaults=[])
    (call:∀ (w:World) (s₀ s₁:Shared) (mg mb:Str→Option Value) (fa:Addr) (o:Obj) (pm cd doc:Value) (a:Addr) (vs:List Value) (ns:List Int),
      Ground q loose [] XP w s₀ mg mb s₁.heap→YP w s₁.heap →
      s₁.heap.get? fa=some o→o.data=.func (docDef d.name d.params d.body d.scope pm cd doc)→s₁.heap.CodeRec cd d.name→mg d.name=some (.ref fa) →
      s₁.heap.get? a=some { cls:=.type "list",data:=.seq vs.toArray }→IntsAre vs ns→ns.length≤n→s₁.gens=#[] →
      codeAny (model l.prog w) callerA (.call (.ref fa) ⟨[.ref a],[]⟩) (fun r s'=>r=.ok (.ret (.bool true))∧OldK s₁.heap s'.heap∧s'.os=s₁.os∧AllBare s'.gens) s₁) :
    WalkO q loose XP YP l.row.toRowW d [] (fun f vs=>PySem.call f vs):=by
  intro w s₀ s₁ mg mb G Y fa o pm cd doc dV kV ho hd hcd hD hmg hg args vals as hpre hlay hrd hwl hlo
  obtain rfl:dV=.none:=Dflts.none hD hdf
  obtain rfl:kV=.none:=Dflts.noKw hD
  obtain ⟨a,vs,ns,rfl,rfl,hobj,hints,hlen⟩:=script_of hn hpre hwl
  refine enter_call (codeAny_mono (call w s₀ s₁ mg mb fa o pm cd doc a vs ns G Y ho (fd_plain hd) hcd hmg hobj hints hlen hg) fun r s' hq=>?_)
  obtain ⟨rfl,h2,h3,h4⟩:=hq
  exact ⟨.inl ⟨.bool true,.bool true,[],rfl,fun _=>rfl,.bool true,post_true l _,fun _=>⟨List.Pairwise.nil,fun _ hm=>(nomatch hm)⟩⟩,h2,h3,h4⟩
section
variable {prog:Program}{w:World}{A:Around}{E:Value→Shared→Prop}{s:Shared}{K:Frag}
end
end Att
namespace L2
open PySem PySem.Spec PyProof.Rows
theorem vals_ints:∀ {vs:List Value}{ns:List Int},IntsAre vs ns→Vals (ns.map V.int) vs
  | _,_,.nil=>.nil
  | _,_,.cons n t h=>.cons ⟨t,rfl⟩ (vals_ints h)
def Only (H:Hp):Prop:=∀ b,H b=none∨∃ o xs,H b=some (.frz o (.lst xs))
theorem law_call {P:Program}{w:World}{K:PySem.W.Frag}{mg mb:Str→Option Value}{CX:CXT}{k:Nat}{fa a:Addr}{fd:FuncData}{x:Str}{sp:Sp}{s₁:Shared}{vs:List Value}{ns:List Int}
    (KX:K.In s₁.heap) (hns:s₁.heap.Ns mainGlobals mg) (hb:s₁.heap.Ns builtinsNs mb) (hbb:∀ x:Str,x ≠ "__name__" → mb x=bootBuiltins x) (hlim:s₁.heap.NoLimit) (hg:s₁.gens=#[])
    (ha:s₁.heap.get? a=some { cls:=.type "list",data:=.seq vs.toArray }) (hi:IntsAre vs ns) (hl:ns.length≤sizeLine) (hr:Room k callerA)
    (F:∀ base:Heap,K.In base→base.Ns mainGlobals mg→FnOk P w K mg base CX k fa fd [x] sp) (hbind:∀ (s:Shared) (u:Value),BindsTo s fd ⟨[u],[]⟩ [(x,u)])
    (hsp:∀ H:Hp,Only H→SqL K H a (ns.map V.int)→sp [.ref a] H (fun v _=>v=.bl true) fun _ _ _=>False)
    (hCX:∀ H e s',CX [] H s₁ (fun _ _ _=>False) e s'→False) :
    codeAny (model P w) callerA (.call (.ref fa) ⟨[.ref a],[]⟩) (fun r s'=>r=.ok (.ret (.bool true))∧OldK s₁.heap s'.heap∧s'.os=s₁.os∧AllBare s'.gens) s₁:=by
  have rv:=vals_ints hi
  have lenV:=hi.length
  have core:∀ H:Hp,Only H→SqL K H a (ns.map V.int)→HOk P w H s₁.heap→(∀ b,H b≠none→b=a)→(H a≠none→K.lookup a=none) →
      codeAny (model P w) callerA (.call (.ref fa) ⟨[.ref a],[]⟩) (fun r s'=>r=.ok (.ret (.bool true))∧OldK s₁.heap s'.heap∧s'.os=s₁.os∧AllBare s'.gens) s₁:=by
    intro H hO hS hok hA hK
    have base_of:∀ {b:Addr} {o:Obj},s₁.heap.get? b=some o→H b=none→(hidT s₁.heap H).get? b=some o:=fun e n=>hidT_get e n
    have noA:∀ {b:Addr} {o:Obj} {es:Array DictEntry} {ep:Nat},s₁.heap.get? b=some o→o.data=.dict es ep→H b=none:=fun {b o es ep} e d=>by
      cases q:H b with
      | none=>rfl
      | some u =>
        have e':b=a:=hA b (by rw [q]; simp)
        subst e'
        rw [ha] at e; cases e
        have d':Data.seq vs.toArray _=Data.dict es ep:=d
        cases d'
    have nsK:∀ {b:Addr} {m:Str→Option Value},s₁.heap.Ns b m→(hidT s₁.heap H).Ns b m:=fun {b m} ⟨o,es,ep,e,d,r⟩=>⟨o,es,ep,base_of e (noA e d),d,r⟩
    have hKb:K.In (hidT s₁.heap H):=fun b o e=>base_of (KX b o e) (by
      cases q:H b with
      | none=>rfl
      | some u =>
        have e':b=a:=hA b (by rw [q]; simp)
        subst e'
        rw [hK (by rw [q]; simp)] at e; cases e)
    have hM:Mod K mg (hidT s₁.heap H):=⟨hKb,nsK hns,⟨mb,nsK hb,hbb⟩,let ⟨mc,h1,h2⟩:=hlim; ⟨mc,nsK h1,h2⟩⟩
    have e0:Env0 P w K mg (hidT s₁.heap H) callerA [] s₁ H:=⟨rfl,hM,fun b o e=>of_hidT e,Nat.le_of_eq (hidT_size _ _),trivial,fun b hb=>absurd (show b∈([]:List Addr) from hb) (by simp),hok,.of_eq hg⟩
    refine codeAny_mono ((F _ hKb (nsK hns)).run callerA [] s₁ H ⟨[.ref a],[]⟩ [.ref a] [.ref a] _ _ hr e0 (hbind s₁ (.ref a)) (.cons rfl .nil) (hsp H hO hS)) fun r s' h=>?_
    cases r with
    | error e=>exact (hCX H e s' h).elim
    | ok fl =>
      cases fl with
      | next=>exact False.elim h
      | brk=>exact False.elim h
      | cont=>exact False.elim h
      | ret u =>
        obtain ⟨v,H',os,bare,un,hok',r',q⟩:=h
        have q':v=.bl true:=q
        subst q'
        obtain rfl:u=Value.bool true:=r'
        refine ⟨rfl,OldK.of_keep fun b o e=>?_,os,bare⟩
        cases q:H b with
        | none=>exact un.keep b o e q (by intro z; exact absurd (show b∈([]:List Addr) from z) (by simp)) (by simp)
        | some u =>
          rcases hO b with z | ⟨ob,xs,z⟩
          · rw [q] at z; cases z
          · have z2:=un.frzs b ob _ z
            obtain ⟨e1,_⟩:=hok b _ z
            obtain ⟨e2,_⟩:=hok' b _ z2
            rw [e] at e1; cases e1
            exact e2
  cases hk:K.lookup a with
  | some o =>
    have e:=KX a o hk
    rw [ha] at e
    cases e
    refine core (fun _=>none) (fun _=>.inl rfl) (.inr ⟨_,vs.toArray,_,hk,rfl,rfl,rfl,by rw [List.size_toArray,lenV]; exact hl,by simpa using rv⟩) (fun b u z=>by have z':(none:Option HO)=some u:=z; cases z') (fun b z=>absurd rfl z) fun z=>absurd rfl z
  | none =>
    refine core (fun b=>if b=a then some (.frz { cls:=.type "list",data:=.seq vs.toArray } (.lst (ns.map V.int))) else none) (fun b=>?_) (.inl (.inr ⟨{ cls:=.type "list",data:=.seq vs.toArray },if_pos rfl⟩)) (fun b u z=>?_) (fun b z=>?_) fun _=>hk
    · by_cases hb:b=a
      · exact .inr ⟨_,_,if_pos hb⟩
      · exact .inl (if_neg hb)
    · by_cases hb:b=a
      · have z':=(if_pos hb).symm.trans z
        cases z'
        subst hb
        exact ⟨ha,by rw [List.length_map]; exact hl,vs,_,rv,ha⟩
      · have z':=(if_neg hb).symm.trans z
        cases z'
    · by_cases hb:b=a
      · exact hb
      · exact absurd (if_neg hb) z
end L2
namespace L2
open PySem PySem.Spec PyProof.Rows
theorem walk_of {l:PySem.W.OpenLaw}{n k:Nat}{q:Program}{loose:List Str}{XP:(Str→Option Value)→Heap→Prop}{YP:World→Heap→Prop}{d:DefRec}{K:Params→PySem.W.Frag}{CX:World→CXT}{sp:World→Sp}{x:Str}
    (hn:l.most=some n) (hn2:n≤sizeLine) (hdf:d.params.defaults=[]) (hr:Room k callerA)
    (hY:∀ (w:World) (h:Heap),YP w h→(K w.params).In h)
    (F:∀ (w:World) (mg:Str→Option Value) (fa:Addr) (h:Heap),(K w.params).In h→h.Ns mainGlobals mg→mg d.name=some (.ref fa) →
      ∃ fd:FuncData,(∀ (s:Shared) (u:Value),BindsTo s fd ⟨[u],[]⟩ [(x,u)]) ∧
        ∀ base:Heap,(K w.params).In base→base.Ns mainGlobals mg→FnOk l.prog w (K w.params) mg base (CX w) k fa fd [x] (sp w))
    (hsp:∀ (w:World) (H:Hp) (a:Addr) (ns:List Int),ns.length≤n→Only H→SqL (K w.params) H a (ns.map V.int)→sp w [.ref a] H (fun v _=>v=.bl true) fun _ _ _=>False)
    (hCX:∀ (w:World) (H:Hp) (s:Shared) (e:Value) (s':Shared),CX w [] H s (fun _ _ _=>False) e s'→False) :
    PySem.W.WalkO q loose XP YP l.row.toRowW d [] (fun f vs=>PySem.call f vs):=by
  refine Att.attach_call hn hdf fun w s₀ s₁ mg mb fa o pm cd doc a vs ns G Y ho hd hcd hmg hobj hints hlen hg=>?_
  have KX:=hY w _ Y
  obtain ⟨fd,hb,hF⟩:=F w mg fa _ KX G.T.g hmg
  exact law_call KX G.T.g G.T.b G.T.builtins G.T.nolimit hg hobj hints (Nat.le_trans hlen hn2) hr hF hb (fun H hO hS=>hsp w H a ns hlen hO hS) fun H e s'=>hCX w H s₁ e s'
end L2
namespace L2
open PySem PySem.Spec PyProof.Rows
abbrev CX0:CXT:=fun _ _ _ _ _ _=>False
abbrev E0:XK:=fun _ _ _=>False
theorem pass0 {X:Cx}:Passes CX0 X E0:=fun _ _ _ _ _ _ _ h=>h.elim
structure Fun (K:PySem.W.Frag) (x qual:Str) (st:Stmt) (f:Addr) (fd:FuncData):Prop where
  ex:∃ (oc:Value) (od:Option Addr) (kV doc pm:Value) (an:Option Addr) (cdv ct:Value) (osl:Array (Option Value)),
    fd=PySem.W.fnOf x qual (defArgs st) (defBody st) (defScope st) .none kV doc pm an cdv ct∧K.lookup f=some ⟨oc,od,.func fd,osl⟩∧PySem.W.codeIn K cdv qual=true
  kp:PySem.W.keepIn K (.ref f)=true
section
variable {P:Program}{w:World}{K:PySem.W.Frag}{mg:Str→Option Value}{base:Heap}
theorem Fun.ok {x qual:Str}{st:Stmt}{f:Addr}{fd:FuncData}{N ps:List Str}{k:Nat}{sp:Sp} (F:Fun K x qual st f fd) (S:FnScope N ps (defScope st)) (len:∀ vs H Q E,sp vs H Q E→vs.length=ps.length)
    (hbody:∀ (cdv:Value) (A:Around) (outer:List Env) (s:Shared) (H:Hp) (vs:List V) (Q:VK) (E:XK),Room k (A.deeper (envOfC qual (defScope st) s.heap.objs.size f cdv))→sp vs H Q E →
      ∃ t,PSs (cxOf CX0 P w K mg base N qual (defScope st) f cdv A outer s H E).nox (defBody st) t∧t { nx:=fun _ H'=>Q .non H',rt:=Q } (start N vs) H):FnOk P w K mg base CX0 (k+1) f fd ps sp:=by
  obtain ⟨oc,od,kV,doc,pm,an,cdv,ct,osl,rfl,lk,hcd⟩:=F.ex
  refine fn_of lk hcd S len fun A outer s H vs Q E hr hsp=>?_
  obtain ⟨t,h,q⟩:=hbody cdv A outer s H vs Q E hr hsp
  exact ⟨t,h.nox,q⟩
theorem Fun.binds {x qual:Str}{st:Stmt}{f:Addr}{fd:FuncData}{ps:List Str} (F:Fun K x qual st f fd)
    (h:∀ (kV doc pm:Value) (an:Option Addr) (cdv ct:Value) (us:List Value),us.length=ps.length→bindArgs (PySem.W.fnOf x qual (defArgs st) (defBody st) (defScope st) .none kV doc pm an cdv ct) ⟨us,[]⟩=pure (ps.zip us)):Binds K fd ps []:=by
  obtain ⟨oc,od,kV,doc,pm,an,cdv,ct,osl,rfl,lk,hcd⟩:=F.ex
  exact .all (h kV doc pm an cdv ct)
theorem fun_mk {x qual:Str}{st:Stmt}{f:Addr}{oc:Value}{od an:Option Addr}{osl:Array (Option Value)}{kV doc pm cdv ct:Value} (l:K.lookup f=some ⟨oc,od,.func (PySem.W.fnOf x qual (defArgs st) (defBody st) (defScope st) .none kV doc pm an cdv ct),osl⟩)
    (c:PySem.W.codeIn K cdv qual=true) (k:PySem.W.keepIn K (.ref f)=true):Fun K x qual st f (PySem.W.fnOf x qual (defArgs st) (defBody st) (defScope st) .none kV doc pm an cdv ct):=⟨⟨oc,od,kV,doc,pm,an,cdv,ct,osl,rfl,l,c⟩,k⟩
end
theorem hu_of {A:Around}{k:Nat} (hr:Room k A):A.units+1 < cLine:=Nat.lt_of_le_of_lt (Nat.add_le_add_left (by decide:1≤64) _) hr.units
section
variable {X:Cx}
theorem pv (i:Nat) {x:Str}{pos:Pos} (hN:X.N[i]?=some x:=by rfl) (hv:Vis X.env.scope x:=by first | exact Or.inl rfl | exact Or.inr (Or.inl rfl) | exact Or.inr (Or.inr rfl)) (hd:(x == ("__debug__" : Str))=false:=by decide)
    (hcd:(x == ("__classdict__" : Str))=false:=by decide):PE X (.Name x pos) (tVar i):=pe_var hN hv hd hcd
end
theorem iteF {A B:Prop} (h:B):if false=true then A else B:=by
  rw [if_neg Bool.false_ne_true]
  exact h
theorem iteT {A B:Prop} (h:A):if true=true then A else B:=by
  rw [if_pos rfl]
  exact h
theorem iteNS {c A B:Prop} [Decidable c] (hc:c) (h:B):if (!decide c)=true then A else B:=by
  rw [decide_eq_true hc]
  exact iteF h
def Same (H H':Hp):Prop:=∀ b o,H b=some o→H' b=some o
theorem Same.refl (H:Hp):Same H H:=fun _ _ h=>h
theorem Same.trans {H H1 H2:Hp} (a:Same H H1) (b:Same H1 H2):Same H H2:=fun c o h=>b c o (a c o h)
theorem Same.free {H H':Hp} (e:Same H H') {l:Addr} (h:H' l=Option.none):H l=Option.none:=by
  cases q:H l with
  | none=>rfl
  | some o =>
    rw [e l o q] at h
    cases h
theorem Same.seq {K:PySem.W.Frag}{H H':Hp}{a:Addr}{xs:List V} (e:Same H H') (h:SqL K H a xs):SqL K H' a xs:=by
  rcases h with (h | ⟨o,h⟩) | h
  · exact .inl (.inl (e _ _ h))
  · exact .inl (.inr ⟨o,e _ _ h⟩)
  · exact .inr h
section
variable {κ:Type} [DecidableEq κ]
end
end L2
end
section
namespace L2
open PySem
section
variable {env:Env}
theorem clos_go:∀ (l:List (Str × NameKind)) (cs:List (Str × Addr)),(∀ x∈l,x.2=.free→∃ c,env.cells.lookup x.1=some c)→(∀ x c,cs.lookup x=some c→env.cells.lookup x=some c) →
    ∃ cl,(forIn l cs (fun x r=>if (x.2 == NameKind.free)=true then do let a ← cellOf env x.1; pure (ForInStep.yield ((x.1,a)::r)) else pure (ForInStep.yield r)):Sem (List (Str × Addr)))=pure cl ∧
      (∀ x c,cl.lookup x=some c→env.cells.lookup x=some c)∧∀ x,((x,NameKind.free)∈l∨∃ c,cs.lookup x=some c)→∃ c,cl.lookup x=some c
  | [],cs,_,hs=>⟨cs,rfl,hs,fun x h=>h.elim (fun z=>by cases z) id⟩
  | (n,k)::l,cs,h,hs=>by
    have hl:∀ x∈l,x.2=.free→∃ c,env.cells.lookup x.1=some c:=fun x hx=>h x (List.mem_cons_of_mem _ hx)
    rw [List.forIn_cons]
    by_cases hk:k=.free
    · subst hk
      obtain ⟨c,hc⟩:=h (n,.free) (List.mem_cons_self ..) rfl
      obtain ⟨cl,e,h1,h2⟩:=clos_go l ((n,c)::cs) hl fun x c' z=>by
        by_cases hx:x=n
        · subst hx
          rw [List.lookup_cons_self] at z
          cases z; exact hc
        · have hx':(x == n)=false:=by simpa using hx
          rw [List.lookup_cons,hx'] at z
          exact hs x c' z
      refine ⟨cl,?_,h1,fun x hx=>h2 x ?_⟩
      · have e0:cellOf env n=pure c:=by unfold cellOf; rw [hc]
        simp only [beq_self_eq_true,if_true,e0,pure_bind]
        exact e
      · rcases hx with hx | ⟨c',hx⟩
        · rcases List.mem_cons.mp hx with hx | hx
          · have:x=n:=(Prod.mk.inj hx).1
            subst this
            exact .inr ⟨c,List.lookup_cons_self⟩
          · exact .inl hx
        · by_cases hxn:x=n
          · subst hxn; exact .inr ⟨c,List.lookup_cons_self⟩
          · have hx':(x == n)=false:=by simpa using hxn
            exact .inr ⟨c',by rw [List.lookup_cons,hx']; exact hx⟩
    · obtain ⟨cl,e,h1,h2⟩:=clos_go l cs hl hs
      have hb:(k == NameKind.free)=false:=by simpa using hk
      refine ⟨cl,?_,h1,fun x hx=>h2 x ?_⟩
      · simp only [hb,Bool.false_eq_true,if_false,pure_bind]
        exact e
      · rcases hx with hx | hx
        · rcases List.mem_cons.mp hx with hx | hx
          · exact absurd (Prod.mk.inj hx).2.symm hk
          · exact .inl hx
        · exact .inr hx
theorem closure_of {scope:Scope} (h:∀ x∈scope.names,x.2=.free→∃ c,env.cells.lookup x.1=some c) :
    ∃ cl,closureFor scope env=pure cl∧(∀ x c,cl.lookup x=some c→env.cells.lookup x=some c)∧∀ x,(x,NameKind.free)∈scope.names→∃ c,cl.lookup x=some c:=by
  obtain ⟨cl,e,h1,h2⟩:=clos_go scope.names [] h (fun x c z=>by simp at z)
  refine ⟨cl,?_,h1,fun x hx=>h2 x (.inl hx)⟩
  unfold closureFor
  dsimp only
  refine Eq.trans (congrArg (· >>= pure) ?_) (Eq.trans (congrArg (· >>= pure) e) (by simp))
  rfl
end
section
variable {prog:Program}{w:World}{A:Around}{R:Result→Shared→Prop}{s:Shared}
theorem loop_comp {elt target iter:Expr}{ifs:List Expr}{scope:Scope}{pos:Pos}{it acc:Value}{env:Env} (J:Nat→Shared→Prop)
    (turn:∀ n s,J n s→wpAny (model prog w) A (pyNext it) (fun r s1=>match r with
      | none=>R (.ok .next) s1
      | some v=>wpAny (model prog w) A (letOwnedTupleGo target it v) (fun _ s2=>wpAny (model prog w) A (assign target env v) (fun _ s3 =>
          wpAny (model prog w) A (forIn ifs true fun c r=>if r=true then do let ok ← isTrue c env (eval c env); pure (ForInStep.yield ok) else pure (ForInStep.yield r)) (fun ok s4 =>
            if ok=true then wpAny (model prog w) A (eval elt env) (fun x s5=>wpAny (model prog w) A (call (.builtin "list.append") [acc,x]) (fun _ s6=>∃ m,m < n∧J m s6) (fun _ _=>False) s5) (fun _ _=>False) s4
            else ∃ m,m < n∧J m s4) (fun _ _=>False) s3) (fun _ _=>False) s2) (fun _ _=>False) s1) (fun _ _=>False) s)
    (n:Nat) (h:J n s):codeAny (model prog w) A (.compLoop (.ListComp elt [⟨target,iter,ifs,0⟩] scope pos) 0 it acc env) R s:=by
  refine codeAny_loop rfl J (fun n s hJ=>?_) n h
  show wpAny _ A ((compTurn (.ListComp elt [⟨target,iter,ifs,0⟩] scope pos) 0 it acc env).onRaise (fun x=>noteFrame x env >>= fun _=>theTreesLotGoes x)) _ _ s
  refine wpAny_noted ?_
  have no:∀ {α:Type} {t:Sem α} {Q:α→Shared→Prop} {E:Value→Shared→Prop} {s:Shared},wpAny (model prog w) A t Q (fun _ _=>False) s→wpAny (model prog w) A t Q E s:=fun h=>wpAny_mono h (fun _ _ q=>q) fun _ _ f=>f.elim
  rw [compTurn_list]
  refine wpAny_bind (wpAny_standAt (wpAny_bind (no (wpAny_mono (turn n s hJ) (fun r s1 h1=>?_) fun _ _ f=>f))))
  cases r with
  | none=>exact wpAny_pure h1
  | some v =>
    refine wpAny_bind (no (wpAny_mono h1 (fun _ s2 h2=>?_) fun _ _ f=>f))
    refine wpAny_bind (no (wpAny_mono h2 (fun _ s3 h3=>?_) fun _ _ f=>f))
    refine wpAny_bind (no (wpAny_mono h3 (fun ok s4 h4=>?_) fun _ _ f=>f))
    cases ok with
    | false=>exact wpAny_pure ⟨rfl,h4⟩
    | true =>
      refine wpAny_bind (wpAny_bind (no (wpAny_mono h4 (fun x s5 h5=>?_) fun _ _ f=>f)))
      exact wpAny_bind (no (wpAny_mono h5 (fun _ s6 h6=>wpAny_pure (wpAny_pure ⟨rfl,h6⟩)) fun _ _ f=>f))
end
end L2
end
section
namespace L2
open PySem PySem.Spec PyProof.Rows
theorem HOk.track {P:Program}{w:World}{H:Hp}{h:Heap}{a:Addr}{o:HO} (x:HOk P w H h) (hn:H a=none) (new:ObjOk P w (upd H a o) h a o):HOk P w (upd H a o) h:=fun b u e=>by
  by_cases hb:b=a
  · subst hb; rw [upd_same] at e; cases e; exact new
  · rw [upd_ne hb] at e
    refine (x b u e).stay (fun c v _ q=>q) (fun c q=>?_) fun c xs q=>?_
    · rw [upd_ne (ne_of_none q hn)]; exact q
    · rw [upd_ne (ne_of_none q hn)]; exact q
theorem HOk.but {P:Program}{w:World}{H:Hp}{h h':Heap}{C:Addr} (x:HOk P w H h) (hn:H C=none) (k:∀ b u,b≠C→h.get? b=some u→h'.get? b=some u):HOk P w H h':=fun b u e=>by
  refine (x b u e).stay (fun c v hc q=>k c v ?_ q) (fun _ q=>q) fun _ _ q=>q
  rintro rfl
  rcases hc with z | z
  · rw [z,e] at hn; cases hn
  · rw [z] at hn; cases hn
theorem relabel_free {env:Env}:∀ {names:List (Str × NameKind)}{x:Str},names.lookup x=some .free →
    (names.map fun (n,k)=>if (k == NameKind.free && env.scope.kind == .function && env.kindOf n == some .cell) then (n,NameKind.cell) else (n,k)).lookup x=some .cell ∨
    (names.map fun (n,k)=>if (k == NameKind.free && env.scope.kind == .function && env.kindOf n == some .cell) then (n,NameKind.cell) else (n,k)).lookup x=some .free
  | [],_,h=>by simp at h
  | (n,k)::r,x,h=>by
    rw [List.map_cons]
    cases hx:x == n with
    | true =>
      rw [List.lookup_cons,hx] at h
      cases h
      dsimp only
      split
      · left; rw [List.lookup_cons,hx]
      · right; rw [List.lookup_cons,hx]
    | false =>
      rw [List.lookup_cons,hx] at h
      have ih:=relabel_free (env:=env) h
      dsimp only
      split
      · rw [List.lookup_cons,hx]; exact ih
      · rw [List.lookup_cons,hx]; exact ih
theorem relabel_inv {env:Env}:∀ {names:List (Str × NameKind)}{x:Str}{k':NameKind},(k'=.cell∨k'=.free) →
    (names.map fun (n,k)=>if (k == NameKind.free && env.scope.kind == .function && env.kindOf n == some .cell) then (n,NameKind.cell) else (n,k)).lookup x=some k'→∃ k,(x,k)∈names∧(k=.cell∨k=.free)
  | [],_,_,_,h=>by simp at h
  | (n,k)::r,x,k',hk,h=>by
    rw [List.map_cons] at h
    cases hx:x == n with
    | true =>
      have e:x=n:=by simpa using hx
      subst e
      dsimp only at h
      split at h
      · rename_i hc
        have:k=.free:=by
          rw [Bool.and_eq_true,Bool.and_eq_true] at hc
          simpa using hc.1.1
        exact ⟨k,List.mem_cons_self ..,.inr this⟩
      · rw [List.lookup_cons,hx] at h
        cases h
        exact ⟨k,List.mem_cons_self ..,hk⟩
    | false =>
      have h':(r.map fun (n,k)=>if (k == NameKind.free && env.scope.kind == .function && env.kindOf n == some .cell) then (n,NameKind.cell) else (n,k)).lookup x=some k':=by
        dsimp only at h
        split at h
        · rw [List.lookup_cons,hx] at h; exact h
        · rw [List.lookup_cons,hx] at h; exact h
      obtain ⟨k0,h0,h1⟩:=relabel_inv (env:=env) hk h'
      exact ⟨k0,List.mem_cons_of_mem _ h0,h1⟩
def cxComp (X:Cx) (N:List Str) (scope:Scope) (cl:List (Str × Addr)) (C:Addr) (s:Shared) (H:Hp) (ex:List Addr):Cx where
  prog:=X.prog
  w:=X.w
  K:=X.K
  mg:=X.mg
  base:=X.base
  A:=X.A
  N:=N
  s₀:=s
  H₀:=H
  env:=compEnvC scope cl C X.env
  outer:=X.stack
  stack:=X.stack
  ex:=ex
  fn:=fun _=>false
  calm:=X.calm
  pn:=[]
  xe:=fun _ _=>False
structure CompScope (sc:Scope) (XN N:List Str) (scope:Scope) (caps:List Nat):Prop where
  kind:scope.kind=.function
  nd:N.Nodup
  nocell:∀ y∈scope.names,y.2≠.cell
  names:∀ y∈scope.names,y.2=.local→scope.names.lookup y.1=some .local
  free:∀ y∈scope.names,y.2=.free→sc.names.lookup y.1=some .cell∨sc.names.lookup y.1=some .free
  cap:∀ (i:Nat),i < caps.length→∃ x,N[i]?=some x∧XN[caps.getD i 0]?=some x∧scope.names.lookup x=some .free∧(sc.names.lookup x=some .cell∨sc.names.lookup x=some .free)
  len:caps.length≤N.length
def capStart (caps:List Nat) (n:Nat) (σ:St):St:=caps.map (fun j=>(σ[j]?).join)++List.replicate (n - caps.length) none
def PF (X:Cx) (ifs:List Expr) (tc:TT):Prop :=
  ∀ (pins:List (Addr × Obj)) (s:Shared) (σ:St) (H:Hp) (Q:Bool→Hp→Prop),Inv X pins σ H s→tc σ H Q →
    wpAny (model X.prog X.w) X.A (forIn ifs true fun c r=>if r=true then do let ok ← isTrue c X.env (eval c X.env); pure (ForInStep.yield ok) else pure (ForInStep.yield r)) (TP X pins σ Q) X.xe s
def tYes:TT:=fun _ H Q=>Q true H
theorem pf_nil {X:Cx}:PF X [] tYes:=fun pins s σ H Q I h=>by
  rw [List.forIn_nil]
  exact wpAny_pure ⟨H,I,h⟩
def tComp (wi:TI) (g:TG) (tc:TT) (te:TE) (caps:List Nat) (n:Nat):TE:=fun σ H Q=>wi σ H fun J H1=>∃ W:Nat→Nat→List V→St→Hp→Prop,(∃ m,W 0 m [] (capStart caps n σ) H1)∧∀ i m acc σ' H',W i m acc σ' H' →
  (J.stop i H'∧∀ D,H' D=none→Q (.ref D) (upd H' D (.lst acc))) ∨
  (J.go i H'∧acc.length < sizeLine∧∀ x H2,J.yld i H' x H2→g x σ' H2 fun σ2 H3=>tc σ2 H3 fun b H4=>if b=true then te σ2 H4 fun y H5=>∃ m',m' < m∧W (i+1) m' (acc++[y]) σ2 H5 else ∃ m',m' < m∧W (i+1) m' acc σ2 H4)
section
variable {X:Cx}{pins:List (Addr × Obj)}{σ:St}{H:Hp}{s:Shared}{N:List Str}{scope:Scope}{cl:List (Str × Addr)}{C:Addr}{fp:List Addr}{caps:List Nat}
theorem comp_ok (I:Inv X pins σ H s) (S:CompScope X.env.scope X.N N scope caps) (h1:∀ x c,cl.lookup x=some c→X.env.cells.lookup x=some c) (h2:∀ x,(x,NameKind.free)∈scope.names→∃ c,cl.lookup x=some c)
    (hC:s.heap.objs.size≤C) (hf:∀ b∈fp,FpOk X pins H b) (hfo:∀ b∈fp,b < s.heap.objs.size):(cxComp X N scope cl C s H fp).Ok where
  mod:=I.ok.mod
  kind:=S.kind
  glob:=I.ok.glob
  blt:=I.ok.blt
  above:=hC
  inj:=fun x y c a b=>I.ok.inj x y c (h1 x c a) (h1 y c b)
  has:=fun x hx=>by
    have hx':∃ k',(k'=NameKind.cell∨k'=.free)∧(relabel scope X.env).names.lookup x=some k':=by
      rcases hx with z | z
      · exact ⟨_,.inl rfl,z⟩
      · exact ⟨_,.inr rfl,z⟩
    obtain ⟨k',hk,z⟩:=hx'
    obtain ⟨k,m,e⟩:=relabel_inv hk z
    rcases e with e | e
    · exact absurd e (S.nocell _ m)
    · subst e; exact h2 x m
  cab:=fun x c z=>by cases z
  hd:=I.ok.hd
  frames:=I.ok.frames
  stk:=.inl rfl
  exf:=fun b hb=>by
    obtain ⟨_,_,_,_,f4,_⟩:=hf b hb
    exact ⟨Nat.ne_of_lt (Nat.lt_of_lt_of_le (hfo b hb) hC),fun x c e=>f4 x c (h1 x c e)⟩
  bs:=I.bs
  bsz:=Nat.le_trans I.ok.bsz I.sz
  noex:=fun b o e hb=>by
    obtain ⟨_,_,_,f3,_⟩:=hf b hb
    rcases f3 with z | z
    · exact I.ok.noex b o e z
    · exact absurd (Nat.lt_of_lt_of_le (Heap.lt_size e) (Nat.le_trans I.ok.bsz z)) (Nat.lt_irrefl _)
  exfs:=fun b hb z=>by
    obtain ⟨_,f1,f2,_⟩:=hf b hb
    rcases List.mem_cons.mp (I.stkSub b z) with e | e
    · exact f1 e
    · exact f2 e
  funs:=I.stack
  frf:=I.stkFree
theorem comp_start {h1:Heap}{D:Addr}{od:Obj}{t:Nat}{m:Str→Option Value} (I:Inv X pins σ H s) (ok:(cxComp X N scope cl C s H fp).Ok) (S:CompScope X.env.scope X.N N scope caps)
    (hcl:∀ x c,cl.lookup x=some c→X.env.cells.lookup x=some c) (hcl2:∀ x,(x,NameKind.free)∈scope.names→∃ c,cl.lookup x=some c)
    (keep:∀ b o,s.heap.get? b=some o→h1.get? b=some o) (hn:h1.Ns C m) (hC:s.heap.objs.size≤C) (hD:h1.get? D=some od) (hDs:s.heap.objs.size≤D) (hDC:D≠C) (hdc:∀ v,od.data≠.cell v) :
    Inv (cxComp X N scope cl C s H fp) [(D,od)] (capStart caps N.length σ) H { s with heap:=h1,toks:=t }:=by
  have cellK:∀ x c,cl.lookup x=some c→∀ v,s.heap.IsCell c v→h1.IsCell c v:=fun x c e v ⟨o,ho,hd⟩=>⟨o,keep c o ho,hd⟩
  refine ⟨ok,rfl,I.bare,Un.kept keep,⟨m,hn,fun i x v e1 e2 e3=>?_⟩,fun x c e=>?_,I.hok.fresh hC,fun x c e=>I.freeC x c (hcl x c e),fun p hp=>?_,I.hok.kept keep,?_⟩
  · have hi:i < caps.length:=by
      by_cases hi:i < caps.length
      · exact hi
      · exfalso
        unfold capStart at e2
        rw [List.getElem?_append_right (by simpa using hi),List.getElem?_replicate] at e2
        split at e2 <;> cases e2
    obtain ⟨y,y1,y2,y3,y4⟩:=S.cap i hi
    have exy:x=y:=by
      have e1':N[i]?=some x:=e1
      rw [y1] at e1'; exact (Option.some.inj e1').symm
    subst exy
    have e4:σ[caps.getD i 0]?=some (some v):=by
      unfold capStart at e2
      rw [List.getElem?_append_left (by simpa using hi),List.getElem?_map] at e2
      have:caps[i]?=some (caps.getD i 0):=by rw [List.getD_eq_getElem?_getD]; simp [hi]
      rw [this] at e2
      have e2':(σ[caps.getD i 0]?).join=some v:=by simpa using e2
      cases q:σ[caps.getD i 0]? with
      | none=>rw [q] at e2'; cases e2'
      | some z=>rw [q] at e2'; have:z=some v:=e2'; rw [this]
    obtain ⟨m',_,hl⟩:=I.loc
    obtain ⟨u,r,l⟩:=hl _ x v y2 e4 (y4.elim (fun z=>.inr (.inl z)) fun z=>.inr (.inr z))
    refine ⟨u,r,?_⟩
    have nl:X.env.kindOf x≠some .local:=by
      rcases y4 with z | z
      · show X.env.scope.names.lookup x≠_; rw [z]; decide
      · show X.env.scope.names.lookup x≠_; rw [z]; decide
    rcases l with ⟨k,_⟩ | ⟨_,c,hc,z⟩
    · exact absurd k nl
    · obtain ⟨c',hc'⟩:=hcl2 x (PySem.mem_of_lookup y3)
      have:c=c':=Option.some.inj (hc.symm.trans (hcl x c' hc'))
      subst this
      refine .inr ⟨?_,c,hc',cellK x c hc' _ z⟩
      exact relabel_free (env:=X.env) y3
  · obtain ⟨v,z⟩:=I.cell x c (hcl x c e)
    exact ⟨v,cellK x c e v z⟩
  · have:p=(D,od):=by
      have hp':p∈[(D,od)]:=hp
      simpa using hp'
    subst this
    refine ⟨hD,I.hok.fresh hDs,hDC,fun z=>?_,hdc⟩
    have z':D∈frs X.stack:=z
    obtain ⟨_,o,ho,_⟩:=I.stack.mem z'
    exact absurd (Nat.lt_of_lt_of_le (Heap.lt_size ho) hDs) (Nat.lt_irrefl _)
  · unfold capStart
    show _=N.length
    rw [List.length_append,List.length_map,List.length_replicate]
    have:=S.len
    omega
end
section
variable {X:Cx}
theorem pe_comp {tg iter elt:Expr}{ifs:List Expr}{scope:Scope}{pos:Pos}{wi:TI}{g:TG}{tc:TT}{te:TE}{N:List Str}{caps:List Nat} (hc:X.calm=true) (S:CompScope X.env.scope X.N N scope caps)
    (hi:PI X tg iter wi) (hg:∀ cl C s H ex,PG (cxComp X N scope cl C s H ex) tg g) (hf:∀ cl C s H ex,PF (cxComp X N scope cl C s H ex) ifs tc) (he:∀ cl C s H ex,PE (cxComp X N scope cl C s H ex) elt te)
    (hs:∀ x,foldedSetIterable iter X.env x=pure x:=by intro _; rfl):PE X (.ListComp elt [⟨tg,iter,ifs,0⟩] scope pos) (tComp wi g tc te caps N.length):=by
  intro pins s σ H Q I h
  obtain ⟨cl,hcl,hcl1,hcl2⟩:=closure_of (env:=X.env) (scope:=scope) fun y hy e=>I.ok.has y.1 (S.free y hy e)
  rw [eval_ListComp]
  refine wpAny_comprehension_free (use:=none) rfl hs hcl S.kind S.names (thn (hi pins s σ H _ I h) fun v s1 h1=>thn h1 fun itv s2 h2=>?_)
  obtain ⟨it,fp,tn,J,H2,e,I2,T,st2,f2,W,⟨m0,w0⟩,turn⟩:=h2
  subst e
  refine wpAny_newObj_type (wpAny_newFunctionEnv S.nocell (by intro y hy; simp at hy) (fun h₁ hns hsb=>?_) S.kind)
  dsimp only at hns hsb ⊢
  generalize hG:s2.heap.push { cls:=.type "list",dict:=none,data:=.seq ([]:List Value).toArray }=G at hns hsb ⊢
  have hCs:G.objs.size=s2.heap.objs.size+1:=by rw [← hG,Heap.size_push]
  have hDC:s2.heap.objs.size≠G.objs.size:=by rw [hCs]; exact Nat.ne_of_lt (Nat.lt_succ_self _)
  have old:∀ b o,s2.heap.get? b=some o→h₁.get? b=some o:=fun b o e=>by
    have hb:=Heap.lt_size e
    refine hsb.extBut b o (by rw [hCs]; exact Nat.ne_of_lt (Nat.lt_succ_of_lt hb)) (Heap.get?_push_of_some _ ?_)
    rw [← hG]
    exact Heap.get?_push_of_some _ e
  have hD:h₁.get? s2.heap.objs.size=some { cls:=.type "list",dict:=none,data:=.seq ([]:List Value).toArray }:=by
    refine hsb.extBut _ _ hDC (Heap.get?_push_of_some _ ?_)
    rw [← hG]
    exact Heap.get?_push_size _ rfl
  have hfo:∀ b∈fp,b < s2.heap.objs.size:=fun b hb=>let ⟨o,e,_⟩:=T.obj 0 _ st2 b hb; Heap.lt_size e
  have hCle:s2.heap.objs.size≤G.objs.size:=by omega
  have ok:=comp_ok (C:=G.objs.size) I2 S hcl1 hcl2 hCle f2 hfo
  have I0:Inv (cxComp X N scope cl G.objs.size s2 H2 fp) [(s2.heap.objs.size,{ cls:=.type "list",dict:=none,data:=.seq ([]:List Value).toArray })] (capStart caps N.length σ) H2 { s2 with heap:=h₁,toks:=s2.toks+([]:List (Str × Value)).length } :=
    comp_start I2 ok S hcl1 hcl2 old hns hCle hD (Nat.le_refl _) hDC (fun v z=>by cases z)
  have st1:tn 0 h₁:=T.keep 0 _ _ st2 fun b _ o e=>old b o e
  generalize hX:cxComp X N scope cl G.objs.size s2 H2 fp=X' at I0
  generalize hDa:s2.heap.objs.size=D at I0 hD hDC
  have loop:codeAny (model X.prog X.w) X.A (.compLoop (.ListComp elt [⟨tg,iter,ifs,0⟩] scope pos) 0 (.ref it) (.ref D) (compEnvC scope cl G.objs.size X.env)) (compPost (model X.prog X.w) X.A X.xe none (EP X pins σ Q) (.ref D) G.objs.size)
      { s2 with heap:=h₁,toks:=s2.toks+([]:List (Str × Value)).length }:=by
    subst hX
    refine loop_comp (J:=fun n s'=>∃ i σ' H' acc its e,Inv (cxComp X N scope cl G.objs.size s2 H2 fp) [(D,{ cls:=.type "list",data:=.seq (List.toArray its) e })] σ' H' s'∧Vals acc its∧acc.length≤sizeLine∧tn i s'.heap∧(∀ b∈fp,H' b=none)∧W i n acc σ' H')
      ?_ m0 ⟨0,_,H2,[],[],0,I0,.nil,Nat.zero_le _,st1,fun b hb=>(f2 b hb).1,w0⟩
    rintro n s3 ⟨i,σ3,H3,acc,its,ep,I3,rv,hz,st3,fr3,w3⟩
    have stat:∀ {H':Hp} {pl:List (Addr × Obj)},(∀ b∈fp,H' b=none)→(∀ p∈pl,p.1=D)→∀ b∈fp,FpOk (cxComp X N scope cl G.objs.size s2 H2 fp) pl H' b:=fun {H' pl} hn hpl b hb=>by
      obtain ⟨a1,a2⟩:=ok.exf b hb
      exact ⟨hn b hb,a1,ok.exfs b hb,.inl hb,fun x c e=>a2 x c e,fun p hp=>by
        have hp':p∈pl:=hp
        rw [hpl p hp',← hDa]
        exact Nat.ne_of_gt (hfo b hb)⟩
    have one:∀ p∈[(D,({ cls:=.type "list",data:=.seq (List.toArray its) ep }:Obj))],p.1=D:=fun p hp=>by
      rcases List.mem_cons.mp hp with e | e
      · rw [e]
      · cases e
    have pinD:∀ {pl:List (Addr × Obj)} {σ':St} {H':Hp} {s':Shared} {o:Obj},Inv (cxComp X N scope cl G.objs.size s2 H2 fp) pl σ' H' s'→(D,o)∈pl→s'.heap.get? D=some o∧H' D=none:=fun {pl σ' H' s' o} I' hm=>by
      obtain ⟨a,b,_⟩:=I'.pin (D,o) (List.mem_append_right _ hm)
      exact ⟨a,b⟩
    rcases turn i n acc σ3 H3 w3 with ⟨stop,q⟩ | ⟨go,hlt,step⟩
    · refine wpAny_mono (T.done (cxComp X N scope cl G.objs.size s2 H2 fp) rfl rfl rfl hc i _ s3 σ3 H3 (fun _ _=>False) I3 (stat fr3 one) st3 stop) (fun r s4 ⟨hr,I4⟩=>?_) fun _ _ f=>f
      subst hr
      obtain ⟨hDo,hDn⟩:=pinD I4 (List.mem_cons_self ..)
      obtain ⟨m4,hm4,_⟩:=I4.loc
      refine ⟨m4,hm4,fun h' hsb'=>?_⟩
      have keepC:∀ b u,b≠G.objs.size→s4.heap.get? b=some u→h'.get? b=some u:=fun b u hb e=>hsb'.extBut b u hb e
      have un:Un (frs X.stack) fp H2 H3 s2.heap s4.heap:=I4.base
      have hDo':h'.get? D=some { cls:=.type "list",data:=.seq (List.toArray its) ep }:=keepC D _ hDC hDo
      have hlow:∀ b (o:Obj),s2.heap.get? b=some o→b≠G.objs.size∧b≠D:=fun b o e=>by
        have h0:=Heap.lt_size e
        exact ⟨by rw [hCs]; exact Nat.ne_of_lt (Nat.lt_succ_of_lt h0),by rw [← hDa]; exact Nat.ne_of_lt h0⟩
      have un':Un (frs X.stack) fp H2 (upd H3 D (.lst acc)) s2.heap h' :=
        ⟨fun b o e n' hb hx=>keepC b o (hlow b o e).1 (un.keep b o e n' hb hx),
         fun b o e n' hb hx=>let ⟨sl,q⟩:=un.slot b o e n' hb hx; ⟨sl,keepC b _ (hlow b o e).1 q⟩,
         fun b o e n' hx=>by rw [upd_ne (hlow b o e).2]; exact un.free b o e n' hx,
         fun b o e hx=>let ⟨o',q⟩:=un.there b o e hx; ⟨o',keepC b _ (hlow b o e).1 q⟩,
         fun b xs e=>by rw [upd_ne (ne_of_none (un.tups b xs e) hDn)]; exact un.tups b xs e,
         fun b o u e=>by rw [upd_ne (ne_of_none (un.frzs b o u e) hDn)]; exact un.frzs b o u e,
         fun b ps e=>let ⟨mo,q⟩:=un.tbls b ps e; ⟨mo,by rw [upd_ne (ne_of_none q hDn)]; exact q⟩⟩
      have hok:HOk X.prog X.w (upd H3 D (.lst acc)) h':=(I4.hok.but I4.free keepC).track hDn ⟨hz,its,ep,rv,hDo'⟩
      refine ⟨.ref D,upd H3 D (.lst acc),I2.call' (s':={ s4 with heap:=h' }) I4.os un' hok I4.bare (fun b hb=>?_),rfl,q D hDn⟩
      obtain ⟨_,f1,_,f3,f4,f5⟩:=f2 b hb
      exact ⟨f3,f1,f4,f5⟩
    · refine wpAny_mono (T.item (cxComp X N scope cl G.objs.size s2 H2 fp) rfl rfl rfl hc i _ s3 σ3 H3 (fun _ _=>False) I3 (stat fr3 one) st3 go) (fun r s4 ⟨u,hr,h4⟩=>?_) fun _ _ f=>f
      subst hr
      refine thn h4 fun _ s5 ⟨x,H5,I5,r5,y5,st5,fr5⟩=>?_
      have I5':=I5.pinned (stat fr5 one) (T.obj _ _ st5)
      refine thn (hg cl G.objs.size s2 H2 fp _ s5 σ3 H5 x u _ I5' r5 (step x H5 y5)) fun _ s6 ⟨σ6,H6,I6,q6⟩=>?_
      refine thn (hf cl G.objs.size s2 H2 fp _ s6 σ6 H6 _ I6 q6) fun b s7 ⟨H7,I7,q7⟩=>?_
      have fin:∀ {pl:List (Addr × Obj)} {σ':St} {H':Hp} {s':Shared},Inv (cxComp X N scope cl G.objs.size s2 H2 fp) (pl++pinsAt fp s5.heap) σ' H' s'→tn (i+1) s'.heap∧∀ b∈fp,H' b=none:=fun {pl σ' H' s'} I'=>by
        refine ⟨T.keep _ _ _ st5 fun b hb o e=>(I'.pin (b,o) (List.mem_append_right _ (List.mem_append_right _ (mem_pinsAt hb e)))).1,fun b hb=>?_⟩
        obtain ⟨o,e,_⟩:=T.obj _ _ st5 b hb
        exact (I'.pin (b,o) (List.mem_append_right _ (List.mem_append_right _ (mem_pinsAt hb e)))).2.1
      cases b with
      | false =>
        rw [if_neg Bool.false_ne_true] at q7 ⊢
        obtain ⟨m',hm,w7⟩:=q7
        obtain ⟨a1,a2⟩:=fin I7
        exact ⟨m',hm,i+1,σ6,H7,acc,its,ep,I7.unpinned,rv,hz,a1,a2,w7⟩
      | true =>
        rw [if_pos rfl] at q7 ⊢
        refine thn (he cl G.objs.size s2 H2 fp _ s7 σ6 H7 _ I7 q7) fun y s8 ⟨yv,H8,I8,r8,m',hm,w8⟩=>?_
        obtain ⟨a1,a2⟩:=fin I8
        obtain ⟨b1,b2⟩:=pinD I8 (List.mem_append_left _ (List.mem_cons_self ..))
        have hl:=rv.length
        refine call_meets F.slot_list_append ⟨_,b1,rfl⟩ F.entry_list_append (F.args_list_append_2 _ _) (PySem.list_append D its.toArray ep y (by rw [List.size_toArray]; omega)) ⟨b1,?_⟩
        have q9:=PySem.IsL.update b1 (·.push y)
        have kp:∀ b o,b≠D→s8.heap.get? b=some o→(s8.heap.update D (Obj.mapSeq (·.push y))).get? b=some o:=fun b o hb e=>(Heap.get?_update_other s8.heap (Obj.mapSeq (·.push y)) (Ne.symm hb)).trans e
        have I9:Inv (cxComp X N scope cl G.objs.size s2 H2 fp) [] σ6 H8 { s8 with heap:=s8.heap.update D (Obj.mapSeq (·.push y)) } :=
          (I8.pins_of (pins':=[]) fun p hp=>by cases hp).turned (t':=s8.toks) kp b2 hDC (.inr (by rw [← hDa]; exact Nat.le_refl _)) (fun x c e z=>by
            have e':X.env.cells.lookup x=some c:=hcl1 x c e
            obtain ⟨v',hv'⟩:=I2.cell x c e'
            have h0:=hv'.lt
            rw [z,← hDa] at h0
            exact Nat.lt_irrefl _ h0) fun p hp=>by
              have:p∈([]:List (Addr × Obj)):=hp
              cases this
        have hpu:its.toArray.push y=(its++[y]).toArray:=by simp
        rw [hpu] at q9
        obtain ⟨e9,q9⟩:∃ e9,(s8.heap.update D (Obj.mapSeq (·.push y))).get? D=some { cls:=.type "list",data:=.seq (its++[y]).toArray e9 }:=⟨_,q9⟩
        refine ⟨m',hm,i+1,σ6,H8,acc++[yv],its++[y],e9,I9.pins_of fun p hp=>?_,rv.append (.cons r8 .nil),?_,T.keep _ _ _ a1 fun b hb o e=>kp b o ?_ e,a2,w8⟩
        · obtain rfl:p=(D,{ cls:=.type "list",data:=.seq (its++[y]).toArray e9 }):=by
            rcases List.mem_cons.mp hp with e | e
            · exact e
            · cases e
          obtain ⟨_,_,c3,c4,_⟩:=I8.pin (D,_) (List.mem_append_right _ (List.mem_append_left _ (List.mem_cons_self ..)))
          exact ⟨q9,b2,c3,c4,fun v z=>by cases z⟩
        · rw [List.length_append,List.length_singleton]; omega
        · rintro rfl
          have h0:=hfo b hb
          rw [hDa] at h0
          exact Nat.lt_irrefl _ h0
  exact codeAny_compStart_list loop (T.self X.A 0 _ _ _ st1 loop)
end
end L2
end
section
namespace L2
open PySem PySem.Spec PyProof.Rows
theorem Same.seqT {K:PySem.W.Frag}{H H':Hp}{a:Addr}{xs:List V} (e:Same H H') (h:SqT K H a xs):SqT K H' a xs:=by
  rcases h with (h | ⟨o,h⟩) | h
  · exact .inl (.inl (e _ _ h))
  · exact .inl (.inr ⟨o,e _ _ h⟩)
  · exact .inr h
mutual
def Rep (K:PySem.W.Frag) (H:Hp):PyData→V→Prop
  | .none,v=>v=.non
  | .bool b,v=>v=.bl b
  | .int i,v=>v=.int i
  | .str x,v=>v=.str x
  | .list ds,v=>∃ a xs,v=.ref a∧SqL K H a xs∧Reps K H ds xs
  | .tuple ds,v=>∃ a xs,v=.ref a∧SqT K H a xs∧Reps K H ds xs
  | .dict _,_=>False
def Reps (K:PySem.W.Frag) (H:Hp):List PyData→List V→Prop
  | [],xs=>xs=[]
  | d::ds,xs=>∃ y ys,xs=y::ys∧Rep K H d y∧Reps K H ds ys
end
mutual
theorem Rep.same {K:PySem.W.Frag}{H H':Hp} (e:Same H H'):∀ (d:PyData) (v:V),Rep K H d v→Rep K H' d v
  | .none,v,h=>h
  | .bool b,v,h=>h
  | .int i,v,h=>h
  | .str x,v,h=>h
  | .list ds,v,h=>by
    obtain ⟨a,xs,h1,h2,h3⟩:=h
    exact ⟨a,xs,h1,e.seq h2,Reps.same e ds xs h3⟩
  | .tuple ds,v,h=>by
    obtain ⟨a,xs,h1,h2,h3⟩:=h
    exact ⟨a,xs,h1,e.seqT h2,Reps.same e ds xs h3⟩
  | .dict _,v,h=>h
theorem Reps.same {K:PySem.W.Frag}{H H':Hp} (e:Same H H'):∀ (ds:List PyData) (xs:List V),Reps K H ds xs→Reps K H' ds xs
  | [],xs,h=>h
  | d::ds,xs,h=>by
    obtain ⟨y,ys,h1,h2,h3⟩:=h
    exact ⟨y,ys,h1,Rep.same e d y h2,Reps.same e ds ys h3⟩
end
theorem Reps.length {K:PySem.W.Frag}{H:Hp}:∀ {ds:List PyData}{xs:List V},Reps K H ds xs→ds.length=xs.length
  | [],xs,h=>by rw [show xs=[] from h]; rfl
  | d::ds,xs,h=>by
    obtain ⟨y,ys,h1,_,h3⟩:=h
    rw [h1,List.length_cons,List.length_cons,Reps.length h3]
theorem Reps.get {K:PySem.W.Frag}{H:Hp}:∀ {ds:List PyData}{xs:List V}{i:Nat}{y:V},Reps K H ds xs→xs[i]?=some y→∃ d,ds[i]?=some d∧Rep K H d y
  | [],xs,i,y,h,e=>by rw [show xs=[] from h] at e; simp at e
  | d::ds,xs,i,y,h,e=>by
    obtain ⟨z,zs,h1,h2,h3⟩:=h
    subst h1
    cases i with
    | zero =>
      have:z=y:=by simpa using e
      subst this
      exact ⟨d,rfl,h2⟩
    | succ i =>
      obtain ⟨d',e1,e2⟩:=Reps.get (i:=i) h3 (by simpa using e)
      exact ⟨d',by simpa using e1,e2⟩
theorem Reps.append {K:PySem.W.Frag}{H:Hp}:∀ {ds es:List PyData}{xs ys:List V},Reps K H ds xs→Reps K H es ys→Reps K H (ds++es) (xs++ys)
  | [],es,xs,ys,h,h'=>by rw [show xs=[] from h]; exact h'
  | d::ds,es,xs,ys,h,h'=>by
    obtain ⟨z,zs,h1,h2,h3⟩:=h
    subst h1
    exact ⟨z,zs++ys,rfl,h2,Reps.append h3 h'⟩
theorem Reps.one {K:PySem.W.Frag}{H:Hp}{d:PyData}{v:V} (h:Rep K H d v):Reps K H [d] [v]:=⟨v,[],rfl,h,rfl⟩
section
variable {X:Cx}{pins:List (Addr × Obj)}{σ:St}{H:Hp}{s:Shared}
mutual
theorem Rep.reads (I:Inv X pins σ H s):∀ (d:PyData) (v:V) (u:Value),Rep X.K H d v→RelV v u→∃ as,Reads s.heap u d as
  | .none,v,u,h,r=>by
    have h':v=.non:=h
    subst h'
    cases r
    exact ⟨_,.none⟩
  | .bool b,v,u,h,r=>by
    have h':v=.bl b:=h
    subst h'
    cases r
    exact ⟨_,.bool b⟩
  | .int i,v,u,h,r=>by
    have h':v=.int i:=h
    subst h'
    obtain ⟨t,rfl⟩:=r
    exact ⟨_,.int i t⟩
  | .str x,v,u,h,r=>by
    have h':v=.str x:=h
    subst h'
    obtain ⟨t,rfl⟩:=r
    exact ⟨_,.str x t⟩
  | .list ds,v,u,h,r=>by
    obtain ⟨a,xs,h1,h2,h3⟩:=h
    subst h1
    cases r
    obtain ⟨its,rv,⟨o,n,e,hc,_,hd⟩,_⟩:=I.list h2
    obtain ⟨as,ra⟩:=Reps.reads I ds xs its h3 rv
    exact ⟨_,.list e hc hd (by simpa using ra)⟩
  | .tuple ds,v,u,h,r=>by
    obtain ⟨a,xs,h1,h2,h3⟩:=h
    subst h1
    cases r
    obtain ⟨its,rv,⟨o,e,hc,n,hd⟩,_⟩:=I.tuple h2
    obtain ⟨as,ra⟩:=Reps.reads I ds xs its h3 rv
    exact ⟨_,.tuple e hc hd (by simpa using ra)⟩
  | .dict _,v,u,h,r=>h.elim
theorem Reps.reads (I:Inv X pins σ H s):∀ (ds:List PyData) (xs:List V) (us:List Value),Reps X.K H ds xs→Vals xs us→∃ as,ReadsAll s.heap us ds as
  | [],xs,us,h,r=>by
    have h':xs=[]:=h
    subst h'
    cases r
    exact ⟨_,.nil⟩
  | d::ds,xs,us,h,r=>by
    obtain ⟨y,ys,h1,h2,h3⟩:=h
    subst h1
    cases r with
    | cons r1 r2 =>
      obtain ⟨as,ra⟩:=Rep.reads I d y _ h2 r1
      obtain ⟨bs,rb⟩:=Reps.reads I ds ys _ h3 r2
      exact ⟨_,.cons ra rb⟩
end
def rEqD (K:PySem.W.Frag) (neg:Bool):R2:=fun x y H Q=>∃ d e,Rep K H d x∧Rep K H e y∧SeqAt.shaped d=true∧SeqAt.shaped e=true∧Q (.bl (if neg=true then !PyData.eqv d e else PyData.eqv d e)) H
theorem op_eqD (hu:X.A.units+64 < cLine):OpR X (compareOp .Eq) (rEqD X.K false):=by
  intro pins s σ H x y v u Q I rx ry h
  obtain ⟨d,e,h1,h2,h3,h4,q⟩:=h
  obtain ⟨as,ra⟩:=Rep.reads I d x v h1 rx
  obtain ⟨bs,rb⟩:=Rep.reads I e y u h2 ry
  exact eq_dataH ra rb h3 h4 hu ⟨.bl _,H,I,rfl,q⟩
theorem op_neD (hu:X.A.units+64 < cLine):OpR X (compareOp .NotEq) (rEqD X.K true):=by
  intro pins s σ H x y v u Q I rx ry h
  obtain ⟨d,e,h1,h2,h3,h4,q⟩:=h
  obtain ⟨as,ra⟩:=Rep.reads I d x v h1 rx
  obtain ⟨bs,rb⟩:=Rep.reads I e y u h2 ry
  exact ne_dataH ra rb h3 h4 hu ⟨.bl _,H,I,rfl,q⟩
end
mutual
theorem eqv_refl:∀ d:PyData,d.canLay0=true→PyData.eqv d d=true
  | .none,_=>rfl
  | .bool b,_=>by simp [PyData.eqv]
  | .int i,_=>by simp [PyData.eqv]
  | .str x,_=>by simp [PyData.eqv]
  | .list ds,h=>by
    have h':PyData.canLayAll0 ds=true:=by simpa [PyData.canLay0] using h
    simp only [PyData.eqv]; exact eqvAll_refl ds h'
  | .tuple ds,h=>by
    have h':PyData.canLayAll0 ds=true:=by simpa [PyData.canLay0] using h
    simp only [PyData.eqv]; exact eqvAll_refl ds h'
  | .dict _,h=>by simp [PyData.canLay0] at h
theorem eqvAll_refl:∀ ds:List PyData,PyData.canLayAll0 ds=true→PyData.eqvAll ds ds=true
  | [],_=>rfl
  | d::ds,h=>by
    have h':d.canLay0=true∧PyData.canLayAll0 ds=true:=by simpa [PyData.canLayAll0] using h
    simp only [PyData.eqvAll,eqv_refl d h'.1,eqvAll_refl ds h'.2,Bool.and_self]
end
end L2
end
section
open PySem PySem.W PyProof.Rows
namespace MyS
def ev {α:Type} (lt:Nat→Nat→Bool):KasT α→α
  | .ret a=>a
  | .ask i j k=>ev lt (k (lt i j))
theorem ev_bind {α β:Type} (lt:Nat→Nat→Bool) (f:α→KasT β):∀ t:KasT α,ev lt (t.bind f)=ev lt (f (ev lt t))
  | .ret _=>rfl
  | .ask i j k=>ev_bind lt f (k (lt i j))
def okT {α:Type} (lt:Nat→Nat→Bool) (N:Nat):KasT α→Prop
  | .ret _=>True
  | .ask i j k=>i < N∧j < N∧i≠j∧okT lt N (k (lt i j))
theorem okT_bind {α β:Type}{lt:Nat→Nat→Bool}{N:Nat}{f:α→KasT β}:∀ (t:KasT α),okT lt N t→okT lt N (f (ev lt t))→okT lt N (t.bind f)
  | .ret _,_,h=>h
  | .ask i j k,h,h'=>⟨h.1,h.2.1,h.2.2.1,okT_bind (k (lt i j)) h.2.2.2 h'⟩
structure TotalOn (lt:Nat→Nat→Bool) (n:Nat):Prop where
  irr:∀ i,i < n→lt i i=false
  tr:∀ i j k,i < n→j < n→k < n→lt i j=true→lt j k=true→lt i k=true
  tot:∀ i j,i < n→j < n→i≠j→lt i j=true∨lt j i=true
abbrev gg (p:Array Nat) (i:Nat):Nat:=p.getD i 0
def Pm (p:Array Nat) (n:Nat):Prop:=p.toList.Perm (List.range n)
theorem Pm.size {p:Array Nat}{n:Nat} (h:Pm p n):p.size=n:=by
  have:=List.Perm.length_eq h
  simpa using this
theorem gg_eq {p:Array Nat}{i:Nat} (h:i < p.size):gg p i=p[i]:=by simp [gg,Array.getD,h]
theorem Pm.lt {p:Array Nat}{n i:Nat} (h:Pm p n) (hi:i < n):gg p i < n:=by
  have hs:i < p.size:=by rw [h.size]; exact hi
  have hm:p[i]∈List.range n:=(List.Perm.mem_iff h).mp (by simp)
  rw [gg_eq hs]
  exact List.mem_range.mp hm
theorem Pm.ne {p:Array Nat}{n i j:Nat} (h:Pm p n) (hi:i < n) (hj:j < n) (hij:i≠j):gg p i≠gg p j:=by
  have hsi:i < p.size:=by rw [h.size]; exact hi
  have hsj:j < p.size:=by rw [h.size]; exact hj
  have nd:p.toList.Nodup:=(List.Perm.nodup_iff h).mpr List.nodup_range
  rw [gg_eq hsi,gg_eq hsj]
  intro e
  apply hij
  have e':p.toList[i]'(by simpa using hsi)=p.toList[j]'(by simpa using hsj):=by simpa using e
  exact (List.getElem_inj nd).mp e'
theorem Pm.perm {p q:Array Nat}{n:Nat} (h:Pm p n) (e:q.Perm p):Pm q n:=(Array.perm_iff_toList_perm.mp e).trans h
def Up (lt:Nat→Nat→Bool) (p:Array Nat) (k:Nat):Prop:=∀ i j,i < j→j < k→lt (gg p i) (gg p j)=true
def Dn (lt:Nat→Nat→Bool) (p:Array Nat) (k:Nat):Prop:=∀ i j,i < j→j < k→lt (gg p j) (gg p i)=true
section
variable {lt:Nat→Nat→Bool}{N:Nat}{p:Array Nat}
theorem TotalOn.flip (O:TotalOn lt N) {i j:Nat} (hi:i < N) (hj:j < N) (hne:i≠j) (h:lt i j=false):lt j i=true:=by
  rcases O.tot i j hi hj hne with h' | h'
  · rw [h] at h'; cases h'
  · exact h'
theorem Up.more (O:TotalOn lt N) (P:Pm p N) {n:Nat} (h1:1≤n) (hn:n < N) (u:Up lt p n) (h:lt (gg p (n - 1)) (gg p n)=true):Up lt p (n+1):=by
  intro i j hij hj
  by_cases e:j=n
  · subst e
    by_cases e':i=j - 1
    · subst e'; exact h
    · exact O.tr _ _ _ (P.lt (by omega)) (P.lt (by omega)) (P.lt hn) (u i (j - 1) (by omega) (by omega)) h
  · exact u i j hij (by omega)
theorem Dn.more (O:TotalOn lt N) (P:Pm p N) {n:Nat} (h1:1≤n) (hn:n < N) (u:Dn lt p n) (h:lt (gg p n) (gg p (n - 1))=true):Dn lt p (n+1):=by
  intro i j hij hj
  by_cases e:j=n
  · subst e
    by_cases e':i=j - 1
    · subst e'; exact h
    · exact O.tr _ _ _ (P.lt hn) (P.lt (by omega)) (P.lt (by omega)) h (u i (j - 1) (by omega) (by omega))
  · exact u i j hij (by omega)
theorem up_one:Up lt p 1:=fun i j hij hj=>by omega
theorem asc_ok (O:TotalOn lt N) (P:Pm p N):∀ (f n:Nat),1≤n→n+f≤N→Up lt p n →
    n≤ev lt (kas_asc p f n)∧ev lt (kas_asc p f n)≤n+f∧Up lt p (ev lt (kas_asc p f n))∧(ev lt (kas_asc p f n) < n+f→lt (gg p (ev lt (kas_asc p f n))) (gg p (ev lt (kas_asc p f n) - 1))=true)
  | 0,n,_,_,u=>⟨Nat.le_refl _,Nat.le_refl _,u,fun h=>absurd h (Nat.lt_irrefl _)⟩
  | f+1,n,h1,hn,u=>by
    have e:ev lt (kas_asc p (f+1) n)=ev lt (if lt (gg p n) (gg p (n - 1))=true then KasT.ret n else kas_asc p f (n+1)):=rfl
    rw [e]
    cases c:lt (gg p n) (gg p (n - 1)) with
    | true =>
      rw [if_pos rfl]
      exact ⟨Nat.le_refl _,Nat.le_add_right _ _,u,fun _=>c⟩
    | false =>
      rw [if_neg (by simp)]
      have c':=O.flip (P.lt (by omega)) (P.lt (by omega)) (P.ne (by omega) (by omega) (by omega)) c
      obtain ⟨a1,a2,a3,a4⟩:=asc_ok O P f (n+1) (by omega) (by omega) (u.more O P h1 (by omega) c')
      exact ⟨by omega,by omega,a3,fun h=>a4 (by omega)⟩
theorem asc_t (P:Pm p N):∀ (f n:Nat),1≤n→n+f≤N→okT lt N (kas_asc p f n)
  | 0,n,_,_=>trivial
  | f+1,n,h1,hn=>by
    refine ⟨P.lt (by omega),P.lt (by omega),P.ne (by omega) (by omega) (by omega),?_⟩
    show okT lt N (if lt (gg p n) (gg p (n - 1))=true then KasT.ret n else kas_asc p f (n+1))
    split
    · trivial
    · exact asc_t P f (n+1) (by omega) (by omega)
theorem desc_t (O:TotalOn lt N) (P:Pm p N):∀ (f n:Nat),1≤n→n+f≤N→okT lt N (kas_desc f p n 0)
  | 0,n,_,_=>trivial
  | f+1,n,h1,hn=>by
    refine ⟨P.lt (by omega),P.lt (by omega),P.ne (by omega) (by omega) (by omega),?_⟩
    show okT lt N (if lt (gg p n) (gg p (n - 1))=true then (if 0 > 0 then kas_desc f (kas_rev p (n - (0+1)) n) (n+1) 0 else kas_desc f p (n+1) 0)
      else .ask (gg p (n - 1)) (gg p n) fun d=>if d=true then .ret (p,n,0) else kas_desc f p (n+1) (0+1))
    cases c:lt (gg p n) (gg p (n - 1)) with
    | true =>
      rw [if_pos rfl,if_neg (by omega)]
      exact desc_t O P f (n+1) (by omega) (by omega)
    | false =>
      rw [if_neg (by simp)]
      have c':=O.flip (P.lt (by omega)) (P.lt (by omega)) (P.ne (by omega) (by omega) (by omega)) c
      refine ⟨P.lt (by omega),P.lt (by omega),P.ne (by omega) (by omega) (by omega),?_⟩
      show okT lt N (if lt (gg p (n - 1)) (gg p n)=true then KasT.ret (p,n,0) else kas_desc f p (n+1) (0+1))
      rw [c',if_pos rfl]
      trivial
theorem desc_ok (O:TotalOn lt N) (P:Pm p N):∀ (f n:Nat),1≤n→n+f≤N→Dn lt p n →
    ∃ m,ev lt (kas_desc f p n 0)=(p,m,0)∧n≤m∧m≤n+f∧Dn lt p m
  | 0,n,_,_,u=>⟨n,rfl,Nat.le_refl _,Nat.le_refl _,u⟩
  | f+1,n,h1,hn,u=>by
    have e:ev lt (kas_desc (f+1) p n 0)=ev lt (if lt (gg p n) (gg p (n - 1))=true then (if 0 > 0 then kas_desc f (kas_rev p (n - (0+1)) n) (n+1) 0 else kas_desc f p (n+1) 0)
      else .ask (gg p (n - 1)) (gg p n) fun d=>if d=true then .ret (p,n,0) else kas_desc f p (n+1) (0+1)):=rfl
    rw [e]
    cases c:lt (gg p n) (gg p (n - 1)) with
    | true =>
      rw [if_pos rfl,if_neg (by omega)]
      obtain ⟨m,a1,a2,a3,a4⟩:=desc_ok O P f (n+1) (by omega) (by omega) (u.more O P h1 (by omega) c)
      exact ⟨m,a1,by omega,by omega,a4⟩
    | false =>
      rw [if_neg (by simp)]
      have c':=O.flip (P.lt (by omega)) (P.lt (by omega)) (P.ne (by omega) (by omega) (by omega)) c
      have e2:ev lt (.ask (gg p (n - 1)) (gg p n) fun d=>if d=true then KasT.ret (p,n,0) else kas_desc f p (n+1) (0+1))=ev lt (if lt (gg p (n - 1)) (gg p n)=true then KasT.ret (p,n,0) else kas_desc f p (n+1) (0+1)):=rfl
      rw [e2,c',if_pos rfl]
      exact ⟨n,rfl,Nat.le_refl _,by omega,u⟩
theorem gg_rev {m k:Nat} (hm:m≤p.size):gg (kas_rev p 0 m) k=if k < m then gg p (m - 1 - k) else gg p k:=by
  have e:=getElem?_mirror_all (i:=0) hm k
  have e0:∀ (q:Array Nat) (x:Nat),gg q x=(q[x]?).getD 0:=fun q x=>by simp [gg]
  rw [e0,e0,e0]
  show ((mirror p 0 m ((m - 0) / 2))[k]?).getD 0=_
  rw [e]
  by_cases h:k < m
  · rw [if_pos ⟨Nat.zero_le _,h⟩,if_pos h]
    simp
  · rw [if_neg (fun z=>h z.2),if_neg h]
theorem rev_up (P:Pm p N) {m:Nat} (hm:m≤N) (d:Dn lt p m):Up lt (kas_rev p 0 m) m:=by
  intro i j hij hj
  have hs:m≤p.size:=by rw [P.size]; exact hm
  rw [gg_rev hs,gg_rev hs,if_pos (by omega),if_pos hj]
  exact d _ _ (by omega) (by omega)
theorem rev_pm (P:Pm p N) (i j:Nat):Pm (kas_rev p i j) N:=P.perm (mirror_perm p i j _)
theorem count_ok (O:TotalOn lt N) (P:Pm p N) (h2:2≤N):∃ m q,ev lt (kas_count N p)=(m,q)∧1≤m∧m≤N∧Pm q N∧Up lt q m:=by
  obtain ⟨a1,a2,a3,a4⟩:=asc_ok O P (N - 1) 1 (Nat.le_refl _) (by omega) up_one
  unfold kas_count
  rw [ev_bind]
  generalize hn:ev lt (kas_asc p (N - 1) 1)=n at a1 a2 a3 a4
  by_cases e1:(n == N)=true
  · rw [if_pos e1]
    exact ⟨n,p,rfl,a1,by omega,P,a3⟩
  · rw [if_neg e1]
    have hne:n≠N:=by simpa using e1
    by_cases e2:n > 1
    · rw [if_pos e2]
      have c:lt (gg p 0) (gg p (n - 1))=true:=a3 0 (n - 1) (by omega) (by omega)
      have e3:ev lt (KasT.ask (p.getD 0 0) (p.getD (n - 1) 0) fun c=>if c=true then KasT.ret (n,p) else kas_descPart n N (kas_rev p 0 n))=ev lt (if lt (gg p 0) (gg p (n - 1))=true then KasT.ret (n,p) else kas_descPart n N (kas_rev p 0 n)):=rfl
      rw [e3,c,if_pos rfl]
      exact ⟨n,p,rfl,a1,by omega,P,a3⟩
    · rw [if_neg e2]
      have e:n=1:=by omega
      subst e
      have c:=a4 (by omega)
      have d2:Dn lt p 2:=fun i j hij hj=>by
        have:i=0:=by omega
        have:j=1:=by omega
        subst i; subst j; exact c
      obtain ⟨m,b1,b2,b3,b4⟩:=desc_ok O P (N - 2) 2 (by omega) (by omega) d2
      unfold kas_descPart
      rw [ev_bind]
      have b1':ev lt (kas_desc (N - (1+1)) p (1+1) 0)=(p,m,0):=b1
      rw [b1']
      dsimp only
      rw [if_neg (by omega)]
      unfold kas_tail3
      rw [ev_bind]
      obtain ⟨c1,c2,c3,_⟩:=asc_ok O (rev_pm P 0 m) (N - m) m (by omega) (by omega) (rev_up P (by omega) b4)
      exact ⟨_,_,rfl,by omega,by omega,rev_pm P 0 m,c3⟩
theorem count_t (O:TotalOn lt N) (P:Pm p N) (h2:2≤N):okT lt N (kas_count N p):=by
  obtain ⟨a1,a2,a3,a4⟩:=asc_ok O P (N - 1) 1 (Nat.le_refl _) (by omega) up_one
  unfold kas_count
  refine okT_bind _ (asc_t P _ _ (Nat.le_refl _) (by omega)) ?_
  generalize hn:ev lt (kas_asc p (N - 1) 1)=n at a1 a2 a3 a4
  by_cases e1:(n == N)=true
  · rw [if_pos e1]; trivial
  · rw [if_neg e1]
    have hne:n≠N:=by simpa using e1
    by_cases e2:n > 1
    · rw [if_pos e2]
      have c:lt (gg p 0) (gg p (n - 1))=true:=a3 0 (n - 1) (by omega) (by omega)
      refine ⟨P.lt (by omega),P.lt (by omega),P.ne (by omega) (by omega) (by omega),?_⟩
      show okT lt N (if lt (gg p 0) (gg p (n - 1))=true then KasT.ret (n,p) else kas_descPart n N (kas_rev p 0 n))
      rw [c,if_pos rfl]
      trivial
    · rw [if_neg e2]
      have e:n=1:=by omega
      subst e
      have c:=a4 (by omega)
      have d2:Dn lt p 2:=fun i j hij hj=>by
        have:i=0:=by omega
        have:j=1:=by omega
        subst i; subst j; exact c
      obtain ⟨m,b1,b2,b3,b4⟩:=desc_ok O P (N - 2) 2 (by omega) (by omega) d2
      unfold kas_descPart
      refine okT_bind _ (desc_t O P _ _ (by omega) (by omega)) ?_
      have b1':ev lt (kas_desc (N - (1+1)) p (1+1) 0)=(p,m,0):=b1
      rw [b1']
      dsimp only
      rw [if_neg (by omega)]
      unfold kas_tail3
      exact okT_bind _ (asc_t (rev_pm P 0 m) _ _ (by omega) (by omega)) trivial
theorem place_t (P:Pm p N) {k:Nat} (hk:k < N):∀ (f l r:Nat),r≤k→okT lt N (kas_place p k f l r)
  | 0,l,r,_=>trivial
  | f+1,l,r,h=>by
    show okT lt N (if l ≥ r then KasT.ret l else .ask (p.getD k 0) (p.getD ((l+r) / 2) 0) fun c=>if c=true then kas_place p k f l ((l+r) / 2) else kas_place p k f ((l+r) / 2+1) r)
    by_cases hlr:l ≥ r
    · rw [if_pos hlr]; trivial
    · rw [if_neg hlr]
      refine ⟨P.lt hk,P.lt (by omega),P.ne hk (by omega) (by omega),?_⟩
      show okT lt N (if lt (gg p k) (gg p ((l+r) / 2))=true then kas_place p k f l ((l+r) / 2) else kas_place p k f ((l+r) / 2+1) r)
      split
      · exact place_t P hk f l _ (by omega)
      · exact place_t P hk f _ r h
theorem place_ok (O:TotalOn lt N) (P:Pm p N) {k:Nat} (hk:k < N) (u:Up lt p k):∀ (f l r:Nat),l≤r→r≤k→r - l≤f→(∀ i,i < l→lt (gg p i) (gg p k)=true)→(∀ i,r≤i→i < k→lt (gg p k) (gg p i)=true) →
    ev lt (kas_place p k f l r)≤k∧(∀ i,i < ev lt (kas_place p k f l r)→lt (gg p i) (gg p k)=true)∧∀ i,ev lt (kas_place p k f l r)≤i→i < k→lt (gg p k) (gg p i)=true
  | 0,l,r,h1,h2,h3,a,b=>by
    have:l=r:=by omega
    subst this
    exact ⟨h2,a,b⟩
  | f+1,l,r,h1,h2,h3,a,b=>by
    have e:ev lt (kas_place p k (f+1) l r)=ev lt (if l ≥ r then KasT.ret l else .ask (p.getD k 0) (p.getD ((l+r) / 2) 0) fun c=>if c=true then kas_place p k f l ((l+r) / 2) else kas_place p k f ((l+r) / 2+1) r):=rfl
    rw [e]
    by_cases hlr:l ≥ r
    · rw [if_pos hlr]
      have:l=r:=by omega
      subst this
      exact ⟨h2,a,b⟩
    · rw [if_neg hlr]
      have e2:ev lt (KasT.ask (p.getD k 0) (p.getD ((l+r) / 2) 0) fun c=>if c=true then kas_place p k f l ((l+r) / 2) else kas_place p k f ((l+r) / 2+1) r)=ev lt (if lt (gg p k) (gg p ((l+r) / 2))=true then kas_place p k f l ((l+r) / 2) else kas_place p k f ((l+r) / 2+1) r):=rfl
      rw [e2]
      generalize hm:(l+r) / 2=m
      have m1:l≤m:=by omega
      have m2:m < r:=by omega
      cases c:lt (gg p k) (gg p m) with
      | true =>
        rw [if_pos rfl]
        refine place_ok O P hk u f l m m1 (by omega) (by omega) a fun i hi hik=>?_
        by_cases e3:i=m
        · subst e3; exact c
        · exact O.tr _ _ _ (P.lt hk) (P.lt (by omega)) (P.lt (by omega)) c (u m i (by omega) hik)
      | false =>
        rw [if_neg (by simp)]
        have c':=O.flip (P.lt hk) (P.lt (by omega)) (P.ne hk (by omega) (by omega)) c
        refine place_ok O P hk u f (m+1) r (by omega) h2 (by omega) (fun i hi=>?_) b
        by_cases e3:i=m
        · subst e3; exact c'
        · exact O.tr _ _ _ (P.lt (by omega)) (P.lt (by omega)) (P.lt hk) (u i m (by omega) (by omega)) c'
theorem gg_bubble {k d x:Nat} (hk:k < p.size) (hd:d≤k):gg (bubble p k d) x=if x=k - d then gg p k else if k - d < x∧x≤k then gg p (x - 1) else gg p x:=by
  have e:=getElem?_bubble hk d hd x
  have e0:∀ (q:Array Nat) (x:Nat),gg q x=(q[x]?).getD 0:=fun q x=>by simp [gg]
  rw [e0,e0,e0,e0,e]
  split
  · rfl
  · split <;> rfl
theorem bin_ok (O:TotalOn lt N):∀ (f:Nat) (p:Array Nat) (k:Nat),Pm p N→k+f=N→Up lt p k→Pm (ev lt (kas_bin f p k)) N∧Up lt (ev lt (kas_bin f p k)) N
  | 0,p,k,P,e,u=>by
    have:k=N:=by omega
    subst this
    exact ⟨P,u⟩
  | f+1,p,k,P,e,u=>by
    have e1:kas_bin (f+1) p k=(kas_place p k k 0 k).bind fun l=>kas_bin f (bubble p k (k - l)) (k+1):=rfl
    rw [e1,ev_bind]
    have hk:k < N:=by omega
    obtain ⟨a1,a2,a3⟩:=place_ok O P hk u k 0 k (Nat.zero_le _) (Nat.le_refl _) (by omega) (fun i hi=>by omega) (fun i h1 h2=>by omega)
    generalize ev lt (kas_place p k k 0 k)=l at a1 a2 a3
    have hs:k < p.size:=by rw [P.size]; exact hk
    refine bin_ok O f _ (k+1) (P.perm (bubble_perm p k _)) (by omega) fun i j hij hj=>?_
    rw [gg_bubble hs (by omega),gg_bubble hs (by omega)]
    have ekl:k - (k - l)=l:=by omega
    rw [ekl]
    by_cases h1:i=l
    · rw [if_pos h1,if_neg (by omega),if_pos (by omega)]
      exact a3 _ (by omega) (by omega)
    · rw [if_neg h1]
      by_cases h2:l < i∧i≤k
      · rw [if_pos h2,if_neg (by omega),if_pos (by omega)]
        exact u _ _ (by omega) (by omega)
      · rw [if_neg h2]
        by_cases h3:j=l
        · rw [if_pos h3]
          exact a2 i (by omega)
        · rw [if_neg h3]
          by_cases h4:l < j∧j≤k
          · rw [if_pos h4]
            by_cases h5:i=j - 1
            · omega
            · exact u _ _ (by omega) (by omega)
          · rw [if_neg h4]
            exact u _ _ hij (by omega)
theorem bin_t (O:TotalOn lt N):∀ (f:Nat) (p:Array Nat) (k:Nat),Pm p N→k+f=N→okT lt N (kas_bin f p k)
  | 0,p,k,P,e=>trivial
  | f+1,p,k,P,e=>by
    show okT lt N ((kas_place p k k 0 k).bind fun l=>kas_bin f (bubble p k (k - l)) (k+1))
    exact okT_bind _ (place_t P (by omega) _ _ _ (Nat.le_refl _)) (bin_t O f _ (k+1) (P.perm (bubble_perm p k _)) (by omega))
theorem sort_t (O:TotalOn lt N) (h2:2≤N):okT lt N (kas_sort N):=by
  have P0:Pm (List.toArray (List.range N)) N:=List.Perm.refl _
  obtain ⟨m,q,e,m1,m2,Pq,uq⟩:=count_ok O P0 h2
  unfold kas_sort
  refine okT_bind _ (count_t O P0 h2) ?_
  rw [e]
  dsimp only
  by_cases hm:m < N
  · rw [if_pos hm]
    have em:max m 1=m:=by omega
    rw [em]
    exact bin_t O (N - m) q m Pq (by omega)
  · rw [if_neg hm]; trivial
theorem sort_ok (O:TotalOn lt N) (h2:2≤N):Pm (ev lt (kas_sort N)) N∧Up lt (ev lt (kas_sort N)) N:=by
  have P0:Pm (List.toArray (List.range N)) N:=List.Perm.refl _
  obtain ⟨m,q,e,m1,m2,Pq,uq⟩:=count_ok O P0 h2
  unfold kas_sort
  rw [ev_bind,e]
  dsimp only
  by_cases hm:m < N
  · rw [if_pos hm]
    have em:max m 1=m:=by omega
    rw [em]
    exact bin_ok O (N - m) q m Pq (by omega) uq
  · rw [if_neg hm]
    have:m=N:=by omega
    subst this
    exact ⟨Pq,uq⟩
end
end MyS
end
section
namespace MyS
open PySem PySem.W PyProof.Rows PySem.Spec
theorem kas_of {α:Type}{N:Nat}{cmp:Nat→Nat→(Bool→Shared→Prop)→Shared→Prop}{lt:Nat→Nat→Bool}{s:Shared} (hc:∀ i j,i < N→j < N→i≠j→∀ C,C (lt i j) s→cmp i j C s) :
    ∀ (t:KasT α) (Q:α→Shared→Prop),okT lt N t→Q (ev lt t) s→t.kasWp cmp Q s
  | .ret a,Q,_,h=>h
  | .ask i j k,Q,o,h=>hc i j o.1 o.2.1 o.2.2.1 _ (kas_of hc (k (lt i j)) Q o.2.2.2 h)
def keyAt (ks:List Str) (i:Nat):List Nat:=(ks.getD i ⟨#[]⟩).cps.toList
def ltAt (ks:List Str) (i j:Nat):Bool:=decide (keyAt ks i < keyAt ks j)
theorem Str_ext {a b:Str} (h:a.cps.toList=b.cps.toList):a=b:=by
  cases a; cases b
  congr 1
  exact Array.toList_inj.mp h
theorem lt_tri (a b:List Nat) (h1:¬ a < b) (h2:¬ b < a):a=b:=by
  have h1':b≤a:=List.not_lt.mp h1
  have h2':a≤b:=List.not_lt.mp h2
  exact List.le_antisymm h2' h1'
theorem ltAt_total {ks:List Str} (nd:ks.Nodup):TotalOn (ltAt ks) ks.length where
  irr:=fun i _=>by simp [ltAt,List.lt_irrefl]
  tr:=fun i j k _ _ _ h1 h2=>by
    simp only [ltAt,decide_eq_true_eq] at *
    exact List.lt_trans h1 h2
  tot:=fun i j hi hj hne=>by
    simp only [ltAt,decide_eq_true_eq]
    by_cases h1:keyAt ks i < keyAt ks j
    · exact .inl h1
    · by_cases h2:keyAt ks j < keyAt ks i
      · exact .inr h2
      · exfalso
        have e:=lt_tri _ _ h1 h2
        unfold keyAt at e
        have e':=Str_ext e
        have e1:ks.getD i ⟨#[]⟩=ks[i]:=by simp [hi]
        have e2:ks.getD j ⟨#[]⟩=ks[j]:=by simp [hj]
        rw [e1,e2] at e'
        exact hne ((List.getElem_inj nd).mp e')
section
variable {prog:Program}{w:World}{A:Around}{E:Value→Shared→Prop}{s:Shared}
end
section
variable {prog:Program}{w:World}{A:Around}{E:Value→Shared→Prop}{s:Shared}
theorem sort_gen {κ:SortKind}{a:Addr}{vs:List Value}{ks:List Str}{n:Nat}{P:PySem.Fin→Shared→Prop} (ho:s.heap.get? a=some (seqObj "list" vs.toArray n)) (hl:ks.length=vs.length) (nd:ks.Nodup) (h64:vs.length < 64)
    (hK:∀ G,(∀ b o,b≠a→s.heap.get? b=some o→G.get? b=some o)→2≤vs.length→∀ (Q:SortKind→Shared→Prop) (E':Value→Shared→Prop),Q κ { s with heap:=G }→wpAny (model prog w) A (keyKind' vs.toArray) Q E' { s with heap:=G })
    (hC:∀ G,(∀ b o,b≠a→s.heap.get? b=some o→G.get? b=some o)→∀ i j,i < vs.length→j < vs.length→i≠j→∀ C,C (ltAt ks i j) { s with heap:=G }→kas_ask prog w A κ vs i j C { s with heap:=G })
    (h:∀ (p:List Nat) (h':Heap) (e:Nat),p.Perm (List.range vs.length)→(p.map (keyAt ks)).Pairwise (· < ·)→(∀ b o,b≠a→s.heap.get? b=some o→h'.get? b=some o) →
      h'.get? a=some (seqObj "list" (p.map fun i=>vs.getD i Value.none).toArray e)→P (.done (.ret .none)) { s with heap:=h' }) :
    wpAny (model prog w) A (Builtin.«list.sort» ⟨[.ref a],[]⟩) P E s:=by
  have ha:a < s.heap.objs.size:=Heap.lt_size ho
  rw [list_sort_plain]
  refine wpAny_bind (listItems_at ho rfl ?_)
  refine wpAny_bind (listUpdate_at ho rfl ?_ (by rw [List.size_toArray,sizeLine_eq]; omega) (Nat.zero_le _))
  obtain ⟨e1,ho1⟩:∃ e1,(s.heap.update a (Obj.mapSeq fun _=>(#[]:Array Value))).get? a=some (seqObj "list" #[] e1):=⟨_,get?_update_seq ho fun _=>#[]⟩
  refine wpAny_bind (seqEpoch_at ho1 rfl ?_)
  refine wpAny_bind (wpAny_newTuple ?_ (by rw [sizeLine_eq]; simp; omega))
  refine wpAny_bind (wpAny_newList ?_ (by simp))
  refine wpAny_holding ?_
  show wpAny (model prog w) A _ P E { s with heap:=((s.heap.update a (Obj.mapSeq fun _=>#[])).push (seqObj "tuple" vs.toArray 0)).push (seqObj "list" #[] 0) }
  generalize hG:((s.heap.update a (Obj.mapSeq fun _=>(#[]:Array Value))).push (seqObj "tuple" vs.toArray 0)).push (seqObj "list" #[] 0)=G
  have hG1:G.get? a=some (seqObj "list" #[] e1):=by
    rw [← hG]
    exact Heap.get?_push_of_some _ (Heap.get?_push_of_some _ ho1)
  have hG2:∀ b o,b≠a→s.heap.get? b=some o→G.get? b=some o:=fun b o hb e=>by
    rw [← hG]
    exact Heap.get?_push_of_some _ (Heap.get?_push_of_some _ ((Heap.get?_update_other _ _ (Ne.symm hb)).trans e))
  have hsz:vs.toArray.size=vs.length:=by simp
  have fin:∀ (p:List Nat) (out:Array Value) (hout:out=(p.map fun i=>vs.getD i Value.none).toArray),p.Perm (List.range vs.length)→(p.map (keyAt ks)).Pairwise (· < ·) →
      P (.done (.ret .none)) { s with heap:=G.update a (Obj.mapSeq fun _=>out) }:=fun p out hout h1 h2=>by
    subst hout
    have e3:=get?_update_seq hG1 fun _=>(p.map fun i=>vs.getD i Value.none).toArray
    exact h p _ _ h1 h2 (fun b o hb e=>(Heap.get?_update_other _ _ (Ne.symm hb)).trans (hG2 b o hb e)) e3
  dsimp only
  by_cases h2:vs.toArray.size < 2
  · rw [if_pos h2,if_pos h2]
    refine wpAny_bind (wpAny_pure ?_)
    rw [StateT.run_pure]
    refine wpAny_bind (wpAny_pure ?_)
    dsimp only
    refine wpAny_bind (seqEpoch_at hG1 rfl ?_)
    refine wpAny_bind (listUpdate_at hG1 rfl ?_ (by simp) (by
      show ((vs.toArray.zip vs.toArray).map (·.2)).size≤sizeLine+1
      rw [sizeLine_eq]; simp; omega))
    simp only [bne_self_eq_false,Bool.false_eq_true,if_false]
    refine wpAny_pure (fin (List.range vs.length) _ ?_ (List.Perm.refl _) ?_)
    · show (vs.toArray.zip vs.toArray).map (·.2)=_
      match vs,h2 with
      | [],_=>simp
      | [v],_=>simp [List.range_succ]
      | _::_::_,h2=>simp at h2; omega
    · have:vs.length < 2:=by simpa using h2
      match hv:vs.length,this with
      | 0,_=>simp
      | 1,_=>simp [List.range_succ]
  · rw [if_neg h2,if_neg h2]
    have h2':2≤vs.length:=by simpa using h2
    refine wpAny_bind (hK G hG2 h2' _ _ ?_)
    show wpAny _ _ (StateT.run sortRuns' (SortSt.mk' κ (vs.toArray.zip vs.toArray) #[] 7 none) >>= _) _ _ _
    have O:=ltAt_total nd
    rw [hl] at O
    obtain ⟨so1,so2⟩:=sort_ok O h2'
    refine wpAny_bind (wpAny_mono (kat_run (ks:=vs) (vs:=vs) (Q:=fun st' s'=>s'={ s with heap:=G }∧failedOf st'=none∧∃ p:Array Nat,Pm p vs.length∧Up (ltAt ks) p vs.length∧arrOf st'=p.map (kas_item (vs.toArray.zip vs.toArray)))
      (G:=fun p s'=>s'={ s with heap:=G }∧Pm p vs.length∧Up (ltAt ks) p vs.length) rfl h2' h64 (fun p st' s' _ q1 q2 q3=>⟨q3.1,q2,p,q3.2.1,q3.2.2,q1⟩) ?_) ?_ fun _ _ e=>e)
    · refine kas_of (N:=vs.length) (lt:=ltAt ks) (fun i j hi hj hij C hC'=>?_) _ _ (sort_t O h2') ⟨rfl,so1,so2⟩
      exact hC G hG2 i j hi hj hij C hC'
    · rintro ⟨⟨⟩,st'⟩ s' ⟨rfl,hf,p,q1,q2,q3⟩
      dsimp only
      have hout:=kat_snds (ks:=vs) (vs:=vs) rfl q3
      refine wpAny_bind (seqEpoch_at hG1 rfl ?_)
      refine wpAny_bind (listUpdate_at hG1 rfl ?_ (by simp) (by
        rw [hout,List.size_toArray,List.length_map,sizeLine_eq]
        have:=q1.size
        simp
        omega))
      rw [hf]
      simp only [bne_self_eq_false,Bool.false_eq_true,if_false]
      refine wpAny_pure (fin p.toList _ hout q1 ?_)
      rw [List.pairwise_map,List.pairwise_iff_getElem]
      intro i j hi hj hij
      have hi':i < p.size:=by simpa using hi
      have hj':j < p.size:=by simpa using hj
      have:=q2 i j hij (by rw [← q1.size]; exact hj')
      rw [gg_eq hi',gg_eq hj'] at this
      simpa [ltAt] using this
end
section
variable {prog:Program}{w:World}{A:Around}{E:Value→Shared→Prop}{s:Shared}
theorem sort_strs {a:Addr}{vs:List Value}{ks:List Str}{n:Nat}{P:PySem.Fin→Shared→Prop} (ho:s.heap.get? a=some (seqObj "list" vs.toArray n)) (hS:StrsAre vs ks) (nd:ks.Nodup) (h64:vs.length < 64)
    (h:∀ (p:List Nat) (h':Heap) (e:Nat),p.Perm (List.range vs.length)→(p.map (keyAt ks)).Pairwise (· < ·)→(∀ b o,b≠a→s.heap.get? b=some o→h'.get? b=some o) →
      h'.get? a=some (seqObj "list" (p.map fun i=>vs.getD i Value.none).toArray e)→P (.done (.ret .none)) { s with heap:=h' }) :
    wpAny (model prog w) A (Builtin.«list.sort» ⟨[.ref a],[]⟩) P E s:=by
  have hlen:ks.length=vs.length:=by rw [← hS.strs]; simp
  have hget:∀ i,i < vs.length→∃ t,vs.getD i Value.none=.str (ks.getD i ⟨#[]⟩) t:=fun i hi=>by
    obtain ⟨x,t,e⟩:=hS.all vs[i] (List.getElem_mem hi)
    refine ⟨t,?_⟩
    have e1:vs.getD i Value.none=vs[i]:=by simp [hi]
    have e2:ks.getD i ⟨#[]⟩=x:=by
      rw [← hS.strs,List.getD_eq_getElem?_getD,List.getElem?_map,List.getElem?_eq_getElem hi,e]; rfl
    rw [e1,e2,e]
  refine sort_gen (κ:=oneType') ho hlen nd h64 (fun G hG h2 Q E' hQ=>?_) (fun G hG i j hi hj hij C hC=>?_) h
  · obtain ⟨v₁,v₂,rest,rfl⟩:∃ v₁ v₂ rest,vs=v₁::v₂::rest:=by
      match vs,h2 with
      | v₁::v₂::rest,_=>exact ⟨v₁,v₂,rest,rfl⟩
    rw [keyKind_strs hS]
    exact wpAny_pure hQ
  · obtain ⟨t,e⟩:=hget i hi
    obtain ⟨t',e'⟩:=hget j hj
    unfold kas_ask
    rw [e,e',keyLt'_oneType]
    exact strKind_oneLt prog w A _ _ _ _ _ _ rfl rfl hC
end
end MyS
end
section
namespace L2
open PySem PySem.Spec PyProof.Rows
def updL (H:Hp) (news:List (Addr × HO)):Hp:=fun b=>match news.lookup b with
  | some o=>some o
  | none=>H b
theorem updL_old {H:Hp}{news:List (Addr × HO)}{b:Addr} (h:b ∉ news.map (·.1)):updL H news b=H b:=by
  unfold updL
  have:news.lookup b=none:=by
    induction news with
    | nil=>rfl
    | cons p r ih =>
      rw [List.map_cons,List.mem_cons,not_or] at h
      have hb:(b == p.1)=false:=by simpa using h.1
      obtain ⟨x,y⟩:=p
      rw [List.lookup_cons,hb]
      exact ih h.2
  rw [this]
theorem updL_inv {H:Hp}{news:List (Addr × HO)}{b:Addr}{o:HO} (h:updL H news b=some o):(b,o)∈news∨(b ∉ news.map (·.1)∧H b=some o):=by
  by_cases hb:b∈news.map (·.1)
  · left
    unfold updL at h
    cases e:news.lookup b with
    | some u =>
      rw [e] at h
      have:u=o:=Option.some.inj h
      subst this
      clear h hb
      induction news with
      | nil=>cases e
      | cons p r ih =>
        obtain ⟨x,y⟩:=p
        rw [List.lookup_cons] at e
        cases hx:b == x with
        | true =>
          rw [hx] at e
          have e1:b=x:=by simpa using hx
          have e2:y=u:=Option.some.inj e
          subst e1; subst e2
          exact List.mem_cons_self ..
        | false =>
          rw [hx] at e
          exact List.mem_cons_of_mem _ (ih e)
    | none =>
      exfalso
      clear h
      induction news with
      | nil=>cases hb
      | cons p r ih =>
        obtain ⟨x,y⟩:=p
        rw [List.lookup_cons] at e
        cases hx:b == x with
        | true=>rw [hx] at e; cases e
        | false =>
          rw [hx] at e
          rw [List.map_cons,List.mem_cons] at hb
          rcases hb with z | z
          · have:(b == x)=true:=by simpa using z
            rw [this] at hx; cases hx
          · exact ih z e
  · rw [updL_old hb] at h
    exact .inr ⟨hb,h⟩
theorem updL_same {H:Hp}{news:List (Addr × HO)} (hn:∀ p∈news,H p.1=none):Same H (updL H news):=fun b o e=>by
  rw [updL_old fun z=>?_]
  · exact e
  · obtain ⟨p,hp,rfl⟩:=List.mem_map.mp z
    rw [hn p hp] at e; cases e
theorem ObjOk.obj {P:Program}{w:World}{H:Hp}{h:Heap}{a:Addr}{o:HO} (x:ObjOk P w H h a o):∃ u,h.get? a=some u:=by
  cases o with
  | lst xs=>obtain ⟨_,_,_,_,e⟩:=x; exact ⟨_,e⟩
  | tup xs=>obtain ⟨_,_,_,_,e,_⟩:=x; exact ⟨_,e⟩
  | dK kvs=>obtain ⟨_,_,_,_,o,_,_,e,_⟩:=x; exact ⟨_,e⟩
  | dT kvs=>obtain ⟨_,_,_,_,o,_,_,e,_⟩:=x; exact ⟨_,e⟩
  | set S n=>obtain ⟨o,_,_,_,e,_⟩:=x; exact ⟨_,e⟩
  | ins C dx fs=>obtain ⟨_,_,_,e,_⟩:=x; exact ⟨_,e⟩
  | own y=>exact x
  | xd fs=>obtain ⟨_,⟨_,_,_,e,_⟩,_⟩:=x; exact ⟨_,e⟩
  | rng lo hi=>obtain ⟨_,_,_,e⟩:=x; exact ⟨_,e⟩
  | frz ob u=>obtain ⟨e,_⟩:=x; exact ⟨_,e⟩
  | tbl ps=>exact ⟨_,(show h.get? a=some _ from x)⟩
  | met f y=>exact ⟨_,(show h.get? a=some _ from x)⟩
  | ext φ=>obtain ⟨_,e,_⟩:=x; exact e
theorem HOk.free {P:Program}{w:World}{H:Hp}{h:Heap}{a:Addr} (x:HOk P w H h) (e:h.get? a=none):H a=none:=by
  cases q:H a with
  | none=>rfl
  | some u =>
    obtain ⟨v,hv⟩:=(x a u q).obj
    rw [hv] at e; cases e
section
variable {X:Cx}{pins:List (Addr × Obj)}{σ:St}{H:Hp}{s:Shared}
theorem Inv.many {h':Heap}{t':Nat}{news:List (Addr × HO)} (I:Inv X pins σ H s) (k:∀ b u,s.heap.get? b=some u→h'.get? b=some u) (hge:∀ p∈news,s.heap.get? p.1=none)
    (new:∀ p∈news,ObjOk X.prog X.w (updL H news) h' p.1 p.2):Inv X pins σ (updL H news) { s with heap:=h',toks:=t' }:=by
  have hn:∀ p∈news,H p.1=none:=fun p hp=>I.hok.free (hge p hp)
  have sm:=updL_same hn
  have hold:∀ b (o:Obj),s.heap.get? b=some o→updL H news b=H b:=fun b o e=>updL_old fun z=>by
    obtain ⟨p,hp,rfl⟩:=List.mem_map.mp z
    rw [hge p hp] at e; cases e
  refine I.un (H':=updL H news) ⟨fun b o e _ _ _=>k b o e,fun b o e _ _ _=>⟨o.slots,k b o e⟩,fun b o e n _=>by rw [hold b o e]; exact n,fun b o e _=>⟨o,k b o e⟩,fun b xs e=>sm b _ e,fun b o u e=>sm b _ e,fun b ps e=>⟨#[],by rw [sm b _ e]; simp⟩⟩ fun b u e=>?_
  rcases updL_inv e with z | ⟨_,z⟩
  · exact new (b,u) z
  · exact (I.hok b u z).stay (fun c v _ q=>k c v q) (fun c q=>sm c _ q) fun c xs q=>sm c _ q
end
def vwObj (d:Addr):Obj:={ cls:=.type "dict_items",data:=.fields #[.ref d] }
def VW (p d:Addr):HO:=.ext fun h=>h.get? p=some (vwObj d)
section
variable {X:Cx}
def rItems:V→List V→Hp→VK→Prop:=fun x vs H Q=>∃ d kvs,x=.ref d∧vs=[]∧H d=some (.dK kvs)∧∀ p,H p=none→Q (.ref p) (upd H p (VW p d))
theorem mt_items:MtM X "dict.items" rItems:=by
  intro pins s σ H x vs v us Q I rx rv h
  obtain ⟨d,kvs,rfl,rfl,hd,q⟩:=h
  cases rx
  have hus:=rv.zero
  subst hus
  obtain ⟨z,hm,ws,rel,dd⟩:=dk_of I.hok hd
  refine call_meetsIn PySem.F.slot_dict_items dd.typeIs PySem.F.entry_dict_items (PySem.F.args_dict_items_1 _) (meets_dict_items (mixKind X.prog X.w) d hm) ⟨⟨_,dd⟩,?_⟩
  refine ⟨.ref s.heap.objs.size,_,I.laid (t':=s.toks) (o:=VW s.heap.objs.size d) (fun b o e=>Heap.get?_push_of_some _ e) (Nat.le_refl _) ?_,rfl,q _ (I.hok.fresh (Nat.le_refl _))⟩
  exact ⟨Heap.get?_push_size _ rfl,⟨_,Heap.get?_push_size _ rfl⟩,fun h1 h2 e k=>k _ e⟩
abbrev encK (kvs:List (Str × V)):List (Key × V):=kvs.map fun q=>(Sum.inr q.1,q.2)
theorem KV.get {kvs:List (Key × V)}{vs:List (Key × Value)}:∀ {i:Nat}{k:Key}{x:Value},KV kvs vs→vs[i]?=some (k,x)→∃ v,kvs[i]?=some (k,v)∧RelV v x:=by
  intro i k x r
  induction r generalizing i with
  | nil=>intro e; simp at e
  | cons h t ih =>
    intro e
    cases i with
    | zero =>
      have e':=Option.some.inj (by simpa using e)
      rename_i p q _ _
      obtain ⟨p1,p2⟩:=p
      subst e'
      have h1:p1=k:=h.1
      subst h1
      exact ⟨p2,rfl,h.2⟩
    | succ i =>
      obtain ⟨v,e1,e2⟩:=ih (by simpa using e)
      exact ⟨v,by simpa using e1,e2⟩
end
end L2
end
section
namespace L2
open PySem PySem.Spec PyProof.Rows
def Its (z:Str):It:=⟨fun i _=>i < z.cps.size,fun i H x H'=>H'=H∧∃ c,z.cps[i]?=some c∧x=.str ⟨#[c]⟩,fun i _=>i=z.cps.size⟩
theorem turn_str {P:Program}{w:World}{K:PySem.W.Frag}{tg:Expr} (it:Addr) (z:Str) (t:Tok) (ty:String) (hno:["enumerate", "zip", "dict_itemiterator", "dict_reverseitemiterator", "odict_iterator", "itertools.zip_longest", "itertools.pairwise"].contains ty=false)
    (hW:∀ A:Around,A.handled=none→Walks P w A it [it] [it] z.cps.size (SignAt z) (fun i h=>h.IsStrIter it ty z t i))
    (hS:∀ (A:Around) (i:Nat) (s:Shared) (Q:Value→Shared→Prop) (E:Value→Shared→Prop),s.heap.IsStrIter it ty z t i→Q (.ref it) s→wpAny (model P w) A (pyIter (.ref it)) Q E s):Turn P w K tg (Its z) [it] it (fun i h=>h.IsStrIter it ty z t i) where
  mem:=by simp
  obj:=fun i h st b hb=>by
    have e:b=it:=by simpa using hb
    subst e
    obtain ⟨o,e,c,d⟩:=st
    exact ⟨o,e,fun v z=>by rw [d] at z; cases z⟩
  keep:=fun i h h' st k=>let ⟨o,e,r⟩:=st; ⟨o,k it (by simp) o e,r⟩
  item:=by
    intro X hP hw hK hc i pins s σ H E I hf st hg
    subst hP hw hK
    obtain ⟨f0,f1,f2,f3,f4,f5⟩:=hf it (by simp)
    refine (hW X.A (I.ok.hd hc)).item i s _ _ hg st fun v h' tk hv st' kk=>?_
    obtain ⟨c,u,hcu,rfl⟩:=hv
    have I1:Inv X pins σ H { s with heap:=h',toks:=tk }:=I.turned (fun b o hb e=>kk b o (by simpa using hb) e) f0 f1 f3 f4 f5
    obtain ⟨o,e,oc,od⟩:=id st'
    exact ⟨_,rfl,go_of (s:={ s with heap:=h',toks:=tk }) e oc od hno ⟨.str ⟨#[c]⟩,H,I1,⟨u,rfl⟩,⟨rfl,c,hcu,rfl⟩,st',fun b hb=>(hf b hb).1⟩⟩
  done:=by
    intro X hP hw hK hc i pins s σ H E I hf st hg
    subst hP hw hK
    obtain ⟨f0,f1,f2,f3,f4,f5⟩:=hf it (by simp)
    have hi:i=z.cps.size:=hg
    subst hi
    exact (hW X.A (I.ok.hd hc)).done s _ _ st fun h' tk kk=>⟨rfl,I.turned (fun b o hb e=>kk b o (by simpa using hb) e) f0 f1 f3 f4 f5⟩
  self:=hS
section
variable {X:Cx}{tg:Expr}
def iStr (tl:TE):TI:=fun σ H R=>tl σ H fun x H1=>∃ z,x=.str z∧R (Its z) H1
theorem pi_str {l:Expr}{tl:TE} (hl:PE X l tl):PI X tg l (iStr tl):=by
  intro pins s σ H R I h
  refine thn (hl pins s σ H _ I h) fun v s1 ⟨x,H1,I1,r1,z,ez,q⟩=>?_
  subst ez
  obtain ⟨t,rfl⟩:=r1
  have hn:∀ b∈[s1.heap.objs.size],FpOk X pins H1 b:=fun b hb=>by
    have e:b=s1.heap.objs.size:=by simpa using hb
    subst e
    exact I1.fpOk (Nat.le_refl _) (I1.hok.fresh (Nat.le_refl _))
  cases ha:z.cps.all (· < 128) with
  | false =>
    refine wpAny_pyIter_wide ha ⟨s1.heap.objs.size,[s1.heap.objs.size],_,_,H1,rfl,I1.kept (t':=s1.toks) fun b o e=>Heap.get?_push_of_some _ e,turn_str _ z t "str_iterator" (by decide) (fun A hA=>Walks.strWide hA _ z t) (fun A i s Q E st h=>wpAny_pyIter_striter_wide st h),⟨_,Heap.get?_push_size _ rfl,rfl,rfl⟩,hn,q⟩
  | true =>
    refine wpAny_pyIter_ascii ha ⟨s1.heap.objs.size,[s1.heap.objs.size],_,_,H1,rfl,I1.kept (t':=s1.toks) fun b o e=>Heap.get?_push_of_some _ e,turn_str _ z t "str_ascii_iterator" (by decide) (fun A hA=>Walks.strAscii hA _ z t) (fun A i s Q E st h=>wpAny_pyIter_striter_ascii st h),⟨_,Heap.get?_push_size _ rfl,rfl,rfl⟩,hn,q⟩
end
theorem idx_norm (lo hi:Option Int) (n:Nat):Builtin.Str.strSliceIndices lo hi 1 n=Builtin.Str.strSliceIndices (some ((HT.sIx n 0 lo:Nat):Int)) (some ((HT.sIx n n hi:Nat):Int)) 1 n:=by
  have hl:=HT.sIx_le n 0 (Nat.zero_le _) lo
  have hh:=HT.sIx_le n n (Nat.le_refl _) hi
  have key:∀ (o:Option Int) (d:Nat),d≤n→(match o with | none=>(d:Int) | some i=>(let i:=if i < 0 then i+(n:Int) else i; max 0 (min i (n:Int))))=((HT.sIx n d o:Nat):Int):=by
    intro o d hd
    cases o with
    | none=>rfl
    | some i =>
      show max 0 (min (if i < 0 then i+(n:Int) else i) (n:Int))=(((if i < 0 then (i+(n:Int)).toNat else min i.toNat n):Nat):Int)
      by_cases h:i < 0
      · rw [if_pos h,if_pos h]; omega
      · rw [if_neg h,if_neg h]; omega
  have e1:=key lo 0 (Nat.zero_le _)
  have e2:=key hi n (Nat.le_refl _)
  have k1:max (0:Int) (min ((HT.sIx n 0 lo:Nat):Int) (n:Int))=((HT.sIx n 0 lo:Nat):Int):=by omega
  have k2:max (0:Int) (min ((HT.sIx n n hi:Nat):Int) (n:Int))=((HT.sIx n n hi:Nat):Int):=by omega
  have n1:¬ (((HT.sIx n 0 lo:Nat):Int) < 0):=by omega
  have n2:¬ (((HT.sIx n n hi:Nat):Int) < 0):=by omega
  unfold Builtin.Str.strSliceIndices
  simp only [show ((1:Int) > 0)=True from by simp,if_true,n1,n2,if_false,k1,k2]
  have z1:∀ i:Int,(max 0 (min (if i < 0 then i+(n:Int) else i) (n:Int)))=((HT.sIx n 0 (some i):Nat):Int):=fun i=>key (some i) 0 (Nat.zero_le _)
  have z2:∀ i:Int,(max 0 (min (if i < 0 then i+(n:Int) else i) (n:Int)))=((HT.sIx n n (some i):Nat):Int):=fun i=>key (some i) n (Nat.le_refl _)
  have w1:((HT.sIx n 0 none:Nat):Int)=0:=rfl
  have w2:((HT.sIx n n none:Nat):Int)=n:=rfl
  cases lo with
  | none =>
    cases hi with
    | none=>rfl
    | some j=>dsimp only; rw [z2,w1]
  | some i =>
    cases hi with
    | none=>dsimp only; rw [z1,w2]
    | some j =>
      dsimp only
      have zz:=z1 i
      rw [zz]
      rw [z2]
theorem txt_slice (x:Str) (lo hi:Option Int):Txt.slice x lo hi=⟨((x.cps.toList.drop (HT.sIx x.length 0 lo)).take (HT.sIx x.length x.length hi - HT.sIx x.length 0 lo)).toArray⟩:=by
  have hl:=HT.sIx_le x.length 0 (Nat.zero_le _) lo
  have hh:=HT.sIx_le x.length x.length (Nat.le_refl _) hi
  unfold Txt.slice
  rw [idx_norm lo hi]
  generalize HT.sIx x.length 0 lo=a at *
  generalize HT.sIx x.length x.length hi=b at *
  have hlen:x.cps.toList.length=x.length:=by simp [Str.length]
  by_cases hab:a≤b
  · have sp:=StrLaws.sliced_plain x hab hh
    split
    · rename_i h
      rw [StrLaws.strSliceIndices_plain hab hh] at h
      have h':b - a=x.length:=by simpa using h
      have ha:a=0:=by omega
      have hb:b=x.cps.toList.length:=by omega
      subst ha
      apply MyS.Str_ext
      show x.cps.toList=((x.cps.toList.drop 0).take (b - 0)).toArray.toList
      rw [List.drop_zero,Nat.sub_zero,hb,List.take_length]
    · rw [sp]
  · have hb:b - a=0:=by omega
    have e:Builtin.Str.strSliceIndices (some (a:Int)) (some (b:Int)) 1 x.length=[]:=by
      have h1:¬ ((a:Int) < 0):=by omega
      have h2:¬ ((b:Int) < 0):=by omega
      have e1:max (0:Int) (min (a:Int) (x.length:Int))=a:=by omega
      have e2:max (0:Int) (min (b:Int) (x.length:Int))=b:=by omega
      simp only [Builtin.Str.strSliceIndices,sliceRange,h1,h2,if_false,e1,e2,show ((1:Int) > 0)=True from by simp,if_true]
      rw [if_neg (by omega)]
      rfl
    rw [e,hb]
    split
    · rename_i h
      have h':0=x.length:=by simpa using h
      omega
    · simp
section
variable {X:Cx}{e:Expr}{te:TE}{lo hi:Option Expr}{tl th:TO}{pos p2:Pos}
def cutS (z:Str) (lo hi:Option Int):Str:=⟨((z.cps.toList.drop (HT.sIx z.length 0 lo)).take (HT.sIx z.length z.length hi - HT.sIx z.length 0 lo)).toArray⟩
def tSlS (te:TE) (tl th:TO):TE:=fun σ H Q=>te σ H fun x H1=>tl σ H1 fun l H2=>th σ H2 fun u H3=>∃ z,x=.str z∧z.length≤sizeLine∧Q (.str (cutS z l u)) H3
theorem pe_sliceS (he:PE X e te) (hl:PO X lo tl) (hu:PO X hi th):PE X (.Subscript e (.Slice lo hi none p2) pos) (tSlS te tl th):=by
  intro pins s σ H Q I h
  refine Subscript_ (thn (he pins s σ H _ I h) fun v s1 ⟨x,H1,I1,r1,q1⟩=>?_)
  refine wpAny_Slice (thn (hl pins s1 σ H1 _ I1 q1) fun vl s2 ⟨l,H2,I2,pl,q2⟩=>thn (hu pins s2 σ H2 _ I2 q2) fun vu s3 ⟨u,H3,I3,pu,q3⟩=>?_)
  rw [evalPart_none]
  refine wpAny_pure ?_
  obtain ⟨z,rfl,hz,q⟩:=q3
  obtain ⟨t,rfl⟩:=r1
  have hk:KeptH (fun h=>∀ b o,s3.heap.get? b=some o→h.get? b=some o):=fun h ob hP b o q=>Heap.get?_push_of_some _ (hP b o q)
  have fin:∀ h' t' k,(∀ b o,s3.heap.get? b=some o→h'.get? b=some o)→EP X pins σ Q (.str (Txt.slice z l u) t') { s3 with heap:=h',toks:=k }:=fun h' t' k hP=>by
    refine ⟨.str (cutS z l u),H3,I3.kept hP,⟨t',?_⟩,q⟩
    rw [txt_slice]; rfl
  have go:ItemOn (model X.prog X.w) X.A X.xe (.str z t) (.ref s3.heap.objs.size) (EP X pins σ Q) { s3 with heap:=s3.heap.push { cls:=.type "slice",data:=.fields #[vl,vu,.none] } }:=by
    cases pl with
    | none =>
      cases pu with
      | none=>exact SBH.sliceItem_nn hk (fun _ _ q=>q) fin hz
      | int j uj=>exact SBH.sliceItem_ns hk (fun _ _ q=>q) fin hz
    | int i ui =>
      cases pu with
      | none=>exact SBH.sliceItem_sn hk (fun _ _ q=>q) fin hz
      | int j uj=>exact SBH.sliceItem_ss hk (fun _ _ q=>q) fin hz
  obtain ⟨T,id,hT,ht,hg⟩:=go
  exact tail_any (ops:=[.ref s3.heap.objs.size,.str z t]) ht hT hg (by with_unfolding_all rfl)
end
section
variable {X:Cx}
theorem call_all (hc:X.calm=true):CallR X (.builtin "all") (fun xs H Q=>∃ (p:Addr) (bs:List Bool),xs=[.ref p]∧SqL X.K H p (bs.map V.bl)∧Q (.bl (bs.all id)) H):=by
  intro pins s σ H xs us Q I r h
  obtain ⟨p,bs,rfl,hq,q⟩:=h
  obtain ⟨u,rfl,ru⟩:=vals1 r
  cases ru
  obtain ⟨its,rv,pl,hz⟩:=I.list hq
  have hp:p≠s.heap.objs.size:=by
    obtain ⟨o,n,e,_⟩:=pl
    exact Nat.ne_of_lt (Heap.lt_size e)
  have vget:∀ (i:Nat) (v:Value),its.toArray[i]?=some v→v=.bool (bs.getD i false):=fun i v e=>by
    have e':its[i]?=some v:=by simpa using e
    have hl:=rv.length
    have hi:i < bs.length:=by
      have:=(List.getElem?_eq_some_iff.mp e').1
      simp at hl; omega
    obtain ⟨u,e1,e2⟩:=rv.get (i:=i) (x:=.bl (bs.getD i false)) (by rw [List.getElem?_map]; simp [hi])
    rw [e'] at e1
    cases e1
    exact e2
  refine call_all_walk (wpAny_pyIter_list pl.isList ?_)
  refine ⟨s.heap.objs.size,_,_,its.toArray.size,_,_,fun i=>bs.getD i false,rfl,Walks.list (A:=X.A.in1) (I.ok.hd hc) _ p hp its.toArray,⟨⟨_,Heap.get?_push_size _ rfl,rfl,rfl⟩,?_⟩,fun i v s' Q' E' hv hQ=>?_,fun h' tk hk=>?_⟩
  · exact pl.isList.at fun o e=>Heap.get?_push_of_some _ e
  · rw [vget i v hv]; exact wpAny_truthy_bool hQ
  · refine ⟨.bl (bs.all id),H,I.kept (t':=tk) (h':=h') fun b o e=>hk b o (fun z=>?_) (Heap.get?_push_of_some _ e),?_,q⟩
    · have:b=s.heap.objs.size:=by simpa using z
      exact absurd (Heap.lt_size e) (by rw [this]; exact Nat.lt_irrefl _)
    · have hl:=rv.length
      have hsz:its.toArray.size=bs.length:=by simp at hl; simp [hl]
      have:(List.range its.toArray.size).all (fun i=>bs.getD i false)=bs.all id:=by
        rw [hsz]
        rw [Bool.eq_iff_iff]
        simp only [List.all_eq_true,List.mem_range,id]
        constructor
        · intro h b hb
          obtain ⟨i,hi,e⟩:=List.getElem_of_mem hb
          have:=h i hi
          simpa [hi,e] using this
        · intro h i hi
          have:=h bs[i] (List.getElem_mem hi)
          simpa [hi] using this
      rw [this]; rfl
end
end L2
end
section
namespace L2
open PySem PySem.Spec PyProof.Rows
section
variable {X:Cx}
theorem call_isinst:CallR X (.builtin "isinstance") (fun xs H Q=>∃ x c t b,xs=[x,.ty c]∧TyOf X.K H x t∧PySem.W.kitOne X.K t (.type c)=some b∧Q (.bl b) H):=by
  intro pins s σ H xs us Q I r h
  obtain ⟨x,c,t,b,rfl,ty,e,q⟩:=h
  obtain ⟨u,w',rfl,rx,rc⟩:=vals2 r
  cases rc
  exact isinst_ok I rx ty e fun tk=>⟨.bl b,H,I.tok tk,rfl,q⟩
theorem strs_of {ss:List Str}:∀ {us:List Value},Vals (ss.map V.str) us→StrsAre us ss:=by
  induction ss with
  | nil=>intro us r; rw [List.map_nil] at r; cases r; exact .nil
  | cons x ss ih =>
    intro us r
    rw [List.map_cons] at r
    cases r with
    | cons r1 r2 =>
      obtain ⟨t,e⟩:=r1
      subst e
      exact .cons x t (ih r2)
def rJoin (K:PySem.W.Frag):V→List V→Hp→VK→Prop:=fun x vs H Q=>∃ (sep:Str) (l:Addr) (ss:List Str),x=.str sep∧vs=[.ref l]∧SqL K H l (ss.map V.str)∧(ss.map (·.length)).sum+ss.length * sep.length≤16777216∧Q (.str (Txt.join sep ss)) H
theorem mt_join:MtR X "str.join" (rJoin X.K):=by
  intro pins s σ H x vs v us Q I rx rv h
  obtain ⟨sep,l,ss,rfl,rfl,hq,hz,q⟩:=h
  obtain ⟨t,rfl⟩:=rx
  obtain ⟨u,rfl,ru⟩:=vals1 rv
  cases ru
  obtain ⟨its,r',pl,_⟩:=I.list hq
  exact join_list pl.isList (by simpa using strs_of r') hz fun t' k=>⟨.str (Txt.join sep ss),H,I.tok k,⟨t',rfl⟩,q⟩
theorem foldl_app (l:List Str):∀ a:Array Nat,(l.foldl (fun acc p=>acc++(⟨#[]⟩:Str).cps++p.cps) a).toList=a.toList++(l.map (·.cps.toList)).flatten:=by
  induction l with
  | nil=>intro a; simp
  | cons x r ih=>intro a; rw [List.foldl_cons,ih]; simp
theorem join_flat (ss:List Str):Txt.join ⟨#[]⟩ ss=⟨(ss.map (·.cps.toList)).flatten.toArray⟩:=by
  apply MyS.Str_ext
  show ((ss.drop 1).foldl (fun acc p=>acc++(⟨#[]⟩:Str).cps++p.cps) (ss.headD Str.empty).cps).toList=(ss.map (·.cps.toList)).flatten.toArray.toList
  rw [foldl_app]
  cases ss with
  | nil=>rfl
  | cons x r=>simp
def rSetD:V→List V→Hp→VK→Prop:=fun x vs H Q=>∃ d kvs k v,x=.ref d∧vs=[kV k,v]∧H d=some (.dK kvs)∧kvs.length < sizeLine∧(∀ y,valV kvs k=some y→Q y H)∧(valV kvs k=none→Q v (upd H d (.dK (putK kvs k v))))
theorem mt_setdefault:MtM X "dict.setdefault" rSetD:=by
  intro pins s σ H x vs v us Q I rx rv h
  obtain ⟨d,kvs,k,y,rfl,rfl,hd,hz,q1,q2⟩:=h
  cases rx
  obtain ⟨u,w',rfl,ru,rw'⟩:=vals2 rv
  obtain ⟨z,hm,ws,rel,dd⟩:=dk_of I.hok hd
  have hwz:ws.length≤sizeLine:=by rw [← rel.length]; exact z
  refine call_meetsIn PySem.F.slot_dict_setdefault dd.typeIs PySem.F.entry_dict_setdefault (PySem.F.args_dict_setdefault_3 _ _ _) (kt_meets_setdefault (mixKind X.prog X.w) d (kV_is ru) hm w') ⟨ws,dd,hwz,fun v' hv=>?_,fun hn h' dd' hs=>?_⟩
  · have rr:=rel.val k
    rw [hv] at rr
    cases e:valV kvs k with
    | none=>rw [e] at rr; exact rr.elim
    | some y' =>
      rw [e] at rr
      exact ⟨y',H,I.tok _,rr,q1 y' e⟩
  · have rr:=rel.val k
    rw [hn] at rr
    cases e:valV kvs k with
    | some y'=>rw [e] at rr; exact rr.elim
    | none =>
      have he:∃ q,h'.get? d=some q:=let ⟨q,_,_,hq,_⟩:=dd'; ⟨q,hq⟩
      have hl:(putK kvs k y).length≤sizeLine:=by have:=length_putK kvs k y; omega
      exact ⟨y,_,d_write I (by rw [hd]; exact True.intro) hs he (dk_new hl hm (rel.put k rw') dd'),rw',q2 e⟩
def rSortedD:List V→Hp→VK→Prop:=fun xs H Q=>∃ d kvs,xs=[.ref d]∧H d=some (.dK (encK kvs))∧(kvs.map (·.1)).Nodup∧kvs.length < 64 ∧
  ∀ (out:List Str) (l:Addr),out.Perm (kvs.map (·.1))→out.Pairwise (fun a b=>a.cps.toList < b.cps.toList)→H l=none→Q (.ref l) (upd H l (.lst (out.map V.str)))
theorem call_sortedD (hc:X.calm=true):CallR X (.builtin "sorted") rSortedD:=by
  intro pins s σ H xs us Q I rx h
  obtain ⟨d,kvs,rfl,hd,nd,h64,q⟩:=h
  obtain ⟨u,rfl,ru⟩:=vals1 rx
  cases ru
  obtain ⟨z,hm,ws,rel,dd⟩:=dk_of I.hok hd
  have hlen:ws.length=kvs.length:=by have:=rel.length; simpa using this.symm
  obtain ⟨ep,hat⟩:=dd.dictAt
  refine Calls.call_function_entry kind_sorted plain_sorted entry_sorted (args_sorted1 _) ?_
  unfold Builtin.«sorted»
  refine wpAny_bind (m:=checkCount "sorted" 1 1 _) (wpAny_pure ?_)
  refine wpAny_bind (PySem.W.kdu_collect (A:=X.A.in1) (PySem.W.kdl_dict (knd:=mixKind X.prog X.w) (kvs:=ws) (ep:=ep) hm) (I.ok.hd hc) hat (by rw [hlen,sizeLine_eq]; omega) fun h' tk acc hk hacc=>?_)
  have hal:acc.toList.length=kvs.length:=by rw [Array.length_toList]; exact hacc.1.trans hlen
  have hS:StrsAre acc.toList (kvs.map (·.1)):=by
    have hall:∀ v∈acc.toList,∃ x t,v=Value.str x t:=fun v hv=>by
      obtain ⟨i,hi,e⟩:=List.getElem_of_mem hv
      obtain ⟨k,x,e1,e2⟩:=hacc.2 i v (by rw [← Array.getElem?_toList,List.getElem?_eq_getElem hi,e])
      obtain ⟨y,f1,_⟩:=KV.get rel e1
      rw [List.getElem?_map] at f1
      cases g:kvs[i]? with
      | none=>rw [g] at f1; cases f1
      | some p =>
        rw [g] at f1
        have:(Sum.inr p.1:Key)=k:=(Prod.mk.inj (Option.some.inj f1)).1
        subst this
        have e2':keyIs (Sum.inr p.1) v=true:=e2
        rcases keyIs_shape e2' with ⟨j,t,z1,_⟩ | ⟨w,t,z1,z2⟩
        · cases z1
        · exact ⟨w,t,z2⟩
    have e0:=strsAre_map acc.toList hall
    have:acc.toList.map strOf=kvs.map (·.1):=by
      apply List.ext_getElem
      · simp only [List.length_map,hal]
      · intro i h1 h2
        have hi:i < acc.toList.length:=by simpa using h1
        have hi':i < kvs.length:=by simpa using h2
        obtain ⟨k,x,e1,e2⟩:=hacc.2 i acc.toList[i] (by rw [← Array.getElem?_toList,List.getElem?_eq_getElem hi])
        obtain ⟨y,f1,_⟩:=KV.get rel e1
        rw [List.getElem?_map,List.getElem?_eq_getElem hi'] at f1
        have:(Sum.inr kvs[i].1:Key)=k:=(Prod.mk.inj (Option.some.inj f1)).1
        subst this
        have e2':keyIs (Sum.inr kvs[i].1) acc.toList[i]=true:=e2
        rcases keyIs_shape e2' with ⟨j,t,z1,_⟩ | ⟨w,t,z1,z2⟩
        · cases z1
        · have:kvs[i].1=w:=Sum.inr.inj z1
          rw [List.getElem_map,List.getElem_map,z2,this]
          rfl
    rw [this] at e0
    exact e0
  refine wpAny_bind (wpAny_newList ?_ (by rw [hal,sizeLine_eq]; omega))
  generalize hB:h'.objs.size=B
  have hoL:(h'.push { cls:=.type "list",data:=.seq acc.toList.toArray }).get? B=some (seqObj "list" acc.toList.toArray 0):=by
    rw [← hB]; exact Heap.get?_push_size _ rfl
  refine wpAny_bind (wpAny_holding (wpAny_call_entry slot_list_sort ⟨_,hoL,rfl⟩ entry_list_sort (MyS.sort_strs (ks:=kvs.map (·.1)) hoL hS nd (by rw [hal]; exact h64) fun pm h2 e2 hp1 hp2 hk2 ho2=>⟨_,rfl,?_⟩) (args_list_sort _)))
  refine wpAny_pure ⟨_,rfl,?_⟩
  rw [hal] at hp1
  have pmlt:∀ i∈pm,i < kvs.length:=fun i hi=>List.mem_range.mp (hp1.mem_iff.mp hi)
  have hold:∀ b o,s.heap.get? b=some o→h2.get? b=some o:=fun b o e=>by
    have e1:=hk b o e
    refine hk2 b o ?_ (Heap.get?_push_of_some _ e1)
    rw [← hB]; exact Nat.ne_of_lt (Heap.lt_size e1)
  have hfB:s.heap.get? B=none:=by
    cases g:s.heap.get? B with
    | none=>rfl
    | some o =>
      have h0:=Heap.lt_size (hk B o g)
      rw [hB] at h0
      exact absurd h0 (Nat.lt_irrefl _)
  have eqU:upd H B (.lst ((pm.map fun i=>(kvs.map (·.1)).getD i ⟨#[]⟩).map V.str))=updL H [(B,.lst ((pm.map fun i=>(kvs.map (·.1)).getD i ⟨#[]⟩).map V.str))]:=by
    funext b
    unfold upd updL
    by_cases hb:b=B
    · subst hb; simp
    · have hb':(b == B)=false:=by simpa using hb
      rw [if_neg hb,List.lookup_cons,hb']
      rfl
  have IM:Inv X pins σ (updL H [(B,.lst ((pm.map fun i=>(kvs.map (·.1)).getD i ⟨#[]⟩).map V.str))]) { s with heap:=h2,toks:=tk }:=by
    refine I.many hold (fun p hp=>?_) fun p hp=>?_
    · rcases List.mem_cons.mp hp with e | e
      · rw [e]; exact hfB
      · cases e
    · rcases List.mem_cons.mp hp with e | e
      · subst e
        refine ⟨?_,(pm.map fun i=>acc.toList.getD i Value.none),_,?_,ho2⟩
        · show (List.map V.str (pm.map _)).length≤_
          rw [List.length_map,List.length_map,hp1.length_eq,List.length_range,sizeLine_eq]; omega
        · have go:∀ l:List Nat,(∀ i∈l,i < kvs.length)→Vals ((l.map fun i=>(kvs.map (·.1)).getD i ⟨#[]⟩).map V.str) (l.map fun i=>acc.toList.getD i Value.none):=by
            intro l
            induction l with
            | nil=>intro _; exact .nil
            | cons i l ih =>
              intro hl
              have hi:=hl i (List.mem_cons_self ..)
              have hi2:i < acc.toList.length:=by omega
              refine .cons ?_ (ih fun j hj=>hl j (List.mem_cons_of_mem _ hj))
              obtain ⟨x,t,e⟩:=hS.all acc.toList[i] (List.getElem_mem hi2)
              refine ⟨t,?_⟩
              have e1:acc.toList.getD i Value.none=acc.toList[i]:=by
                rw [List.getD_eq_getElem?_getD,List.getElem?_eq_getElem hi2]; rfl
              have e2:(kvs.map (·.1)).getD i ⟨#[]⟩=x:=by
                rw [← hS.strs,List.getD_eq_getElem?_getD,List.getElem?_map,List.getElem?_eq_getElem hi2,e]; rfl
              dsimp only
              rw [e1,e2,e]
          exact go pm pmlt
      · cases e
  refine ⟨.ref B,_,IM,rfl,?_⟩
  rw [← eqU]
  refine q _ B ?_ ?_ (I.hok.free hfB)
  · have e1:(List.range kvs.length).map (fun i=>(kvs.map (·.1)).getD i (⟨#[]⟩:Str))=kvs.map (·.1):=by
      apply List.ext_getElem
      · simp
      · intro i h1 h2
        have hi:i < kvs.length:=by simpa using h1
        simp [hi]
    have:=hp1.map (fun i=>(kvs.map (·.1)).getD i (⟨#[]⟩:Str))
    rw [e1] at this
    exact this
  · rw [List.pairwise_map]
    rw [List.pairwise_map] at hp2
    exact hp2
theorem op_catT0:OpR X (binaryOp .Add) (fun x y H Q=>∃ a b ys,x=.ref a∧y=.ref b∧SqT X.K H a []∧SqT X.K H b ys∧Q (.ref b) H):=by
  intro pins s σ H x y v u Q I rx ry h
  obtain ⟨a,b,ys,rfl,rfl,ha,hb,q⟩:=h
  cases rx
  cases ry
  obtain ⟨its,r1,p1,_⟩:=I.tuple ha
  obtain ⟨its2,r2,p2,_⟩:=I.tuple hb
  have e0:its=[]:=by cases r1; rfl
  subst e0
  obtain ⟨⟨cls,dd,data,sl⟩,ho,hc,n,hd⟩:=id p1
  obtain ⟨⟨cls2,dd2,data2,sl2⟩,ho2,hc2,n2,hd2⟩:=id p2
  simp only at hc hd hc2 hd2
  subst hc hd hc2 hd2
  exact concat_meets ⟨_,ho,rfl⟩ ⟨_,ho2,rfl⟩ noFill_tuple_add seq_tuple_add PySem.F.slot_tuple_add PySem.F.entry_tuple_add (PySem.F.args_tuple_add_2 _ _)
    (tuple_addW0 a b _ its2.toArray n n2 dd dd2 sl sl2 (by simp)) ⟨ho,ho2,⟨.ref b,H,I,rfl,q⟩⟩
end
section
variable {prog:Program}{w:World}{A:Around}{E:Value→Shared→Prop}{s:Shared}
theorem sliceApplied_rev {sl:Addr}{n:Nat}{tk:Tok}{Q:Int × Int × Nat→Shared→Prop} (hs:s.heap.IsSliceOf sl .none .none (.int (-1) tk)) (h:Q ((n:Int) - 1,-1,n) s) :
    wpAny (model prog w) A (Builtin.Slice.sliceApplied (.ref sl) (pure (n:Int))) Q E s:=by
  obtain ⟨os,hos,hcs,hds⟩:=id hs
  unfold Builtin.Slice.sliceApplied Builtin.Slice.sliceFields
  refine wpAny_bind (wpAny_bind (wpAny_field hos hds (x:=.none) rfl (wpAny_bind (wpAny_field hos hds (x:=.none) rfl (wpAny_bind (wpAny_field hos hds (x:=.int (-1) tk) rfl (wpAny_pure ?_)))))))
  refine wpAny_bind (slicePart_int ?_)
  show wpAny _ _ (if ((-1:Int) == 0)=true then _ else _) _ _ s
  rw [if_neg (by decide)]
  refine wpAny_bind (slicePart_none (wpAny_bind (slicePart_none (wpAny_bind (wpAny_pure ?_)))))
  show wpAny _ _ (pure ((n:Int) - 1,(-1:Int),Builtin.Slice.slicePlaces ((n:Int) - 1) (-1) (-1))) _ _ s
  have e:Builtin.Slice.slicePlaces ((n:Int) - 1) (-1) (-1)=n:=by
    unfold Builtin.Slice.slicePlaces
    rw [if_neg (by decide)]
    by_cases hn:(n:Int) - 1 > -1
    · rw [if_pos hn,show (-(-1):Int)=1 from rfl,Int.ediv_one]
      omega
    · rw [if_neg hn]; omega
  rw [e]
  exact wpAny_pure h
theorem pick_rev (xs:Array Value):((List.range xs.size).filterMap fun (m:Nat)=>xs[((xs.size:Int) - 1+(m:Int) * (-1)).toNat]?).toArray=xs.toList.reverse.toArray:=by
  congr 1
  apply List.ext_getElem?
  intro i
  have key:(List.range xs.size).filterMap (fun (m:Nat)=>xs[((xs.size:Int) - 1+(m:Int) * (-1)).toNat]?)=(List.range xs.size).map fun m=>(xs[xs.size - 1 - m]?).getD Value.none:=by
    have go:∀ l:List Nat,(∀ m∈l,m < xs.size)→l.filterMap (fun (m:Nat)=>xs[((xs.size:Int) - 1+(m:Int) * (-1)).toNat]?)=l.map fun m=>(xs[xs.size - 1 - m]?).getD Value.none:=by
      intro l
      induction l with
      | nil=>intro _; rfl
      | cons m l ih =>
        intro hl
        have hm':=hl m (List.mem_cons_self ..)
        have e:((xs.size:Int) - 1+(m:Int) * (-1)).toNat=xs.size - 1 - m:=by omega
        have hlt:xs.size - 1 - m < xs.size:=by omega
        have e2:xs[xs.size - 1 - m]?=some xs[xs.size - 1 - m]:=by simp [hlt]
        rw [List.filterMap_cons,e,e2,List.map_cons,ih fun j hj=>hl j (List.mem_cons_of_mem _ hj),e2]
        rfl
    exact go _ fun m hm=>List.mem_range.mp hm
  rw [key,List.getElem?_map]
  by_cases hi:i < xs.size
  · rw [List.getElem?_range hi,List.getElem?_reverse (by simpa using hi)]
    have hlt:xs.size - 1 - i < xs.size:=by omega
    simp [hlt]
  · rw [List.getElem?_eq_none (by simpa using hi),List.getElem?_eq_none (by simpa using hi)]
    rfl
theorem getItem_tuple_rev {t sl:Addr}{items:Array Value}{tk:Tok}{Q:Value→Shared→Prop} (ht:IsTup s.heap t items) (hs:s.heap.IsSliceOf sl .none .none (.int (-1) tk))
    (h:Q (.ref s.heap.objs.size) { s with heap:=s.heap.push { cls:=.type "tuple",data:=.seq items.toList.reverse.toArray } }) (hsz:items.size≤sizeLine):wpAny (model prog w) A (getItem (.ref t) (.ref sl)) Q E s:=by
  have htake:sizeOk (.seq items.toList.reverse.toArray):=by
    show items.toList.reverse.toArray.size≤sizeLine
    simpa using hsz
  obtain ⟨os,hos,hcs,hds⟩:=id hs
  have hTs:s.TypeIs (.ref sl) "slice" := ⟨os,hos,hcs⟩
  unfold getItem
  try with_reducible refine wpAny_holding ?_
  first | refine wpAny_bind (wpAny_pure ?_) | skip
  refine wpAny_bind (wpAny_sequenceKey ht.typeIs (by decide) ?_)
  refine wpAny_bind (wpAny_callSpecial?_slot (name:=Str.ofString "__getitem__") ht.typeIs PyProof.Rows.slot_tuple_getitem (wpAny_call_entry PyProof.Rows.slot_tuple_getitem ht.typeIs entry_tuple_getitem ?_ (args_tuple_getitem _ _)))
  show wpAny _ _ (Builtin.Tuple.tupleItemsOf (.ref t) >>= _) _ _ s
  refine wpAny_bind (tupleItemsOf_ ht (wpAny_bind (wpAny_typeOf hTs ?_)))
  rw [if_pos (by decide)]
  refine wpAny_bind (sliceApplied_rev hs ?_)
  show wpAny _ _ (if (((items.size:Int) - 1 == 0) && ((-1:Int) == 1) && (items.size == items.size))=true then _ else _) _ _ s
  rw [if_neg (by simp),pick_rev]
  first
    | exact wpAny_bind (m:=Builtin.Tuple.tupleExact _) (wpAny_newObj_type (wpAny_pure ⟨_,rfl,wpAny_pure h⟩) htake)
    | exact wpAny_bind (m:=Builtin.Tuple.tupleExact _) (wpAny_newObj_type (wpAny_bind (wpAny_pure (wpAny_pure ⟨_,rfl,wpAny_pure h⟩))) htake)
    | exact wpAny_bind (wpAny_bind (m:=Builtin.Tuple.tupleExact _) (wpAny_newObj_type (wpAny_pure (wpAny_pure ⟨_,rfl,wpAny_pure h⟩)) htake))
    | exact wpAny_bind (wpAny_bind (m:=Builtin.Tuple.tupleExact _) (wpAny_newObj_type (wpAny_pure ⟨_,rfl,wpAny_pure h⟩) htake))
end
theorem Vals.rev {xs:List V}{us:List Value} (r:Vals xs us):Vals xs.reverse us.reverse:=by
  unfold Vals at r
  induction r with
  | nil=>exact .nil
  | cons h _ ih=>rw [List.reverse_cons,List.reverse_cons]; exact Vals.append ih (.cons h .nil)
section
variable {X:Cx}{e st:Expr}{te ts:TE}{pos p2:Pos}
def tRevT (K:PySem.W.Frag) (te ts:TE):TE:=fun σ H Q=>te σ H fun x H1=>ts σ H1 fun y H2=>∃ a xs,x=.ref a∧y=.int (-1)∧SqT K H2 a xs∧∀ p,H2 p=none→Q (.ref p) (upd H2 p (.tup xs.reverse))
theorem pe_revT (he:PE X e te) (hs:PE X st ts):PE X (.Subscript e (.Slice none none (some st) p2) pos) (tRevT X.K te ts):=by
  intro pins s σ H Q I h
  refine Subscript_ (thn (he pins s σ H _ I h) fun v s1 ⟨x,H1,I1,r1,q1⟩=>?_)
  refine wpAny_Slice ?_
  rw [evalPart_none]
  refine wpAny_pure (wpAny_pure ?_)
  rw [evalPart_some]
  refine thn (hs pins s1 σ H1 _ I1 q1) fun u s3 ⟨y,H3,I3,r3,q3⟩=>?_
  obtain ⟨a,xs,rfl,rfl,hx,q⟩:=q3
  cases r1
  obtain ⟨tk,rfl⟩:=r3
  have I4:Inv X pins σ H3 { s3 with heap:=s3.heap.push { cls:=.type "slice",data:=.fields #[.none,.none,.int (-1) tk] } }:=I3.kept (t':=s3.toks) fun b ob q=>Heap.get?_push_of_some _ q
  obtain ⟨its,r,ht,hz⟩:=I4.tuple hx
  have hlen:its.toArray.size=xs.length:=by rw [List.size_toArray]; exact r.length.symm
  show wpAny (model X.prog X.w) X.A (subscriptTail e (.Slice none none (some st) p2) (.ref a) (.ref s3.heap.objs.size)) (EP X pins σ Q) X.xe { s3 with heap:=s3.heap.push { cls:=.type "slice",data:=.fields #[.none,.none,.int (-1) tk] } }
  refine tail_any (ops:=[.ref a,.ref s3.heap.objs.size]) ht.typeIs PyProof.Rows.slot_tuple_getitem.lookup (getItem_tuple_rev ht (Heap.IsSliceOf.new ..) ?_ (by rw [hlen]; exact hz)) (by with_unfolding_all rfl)
  refine ⟨.ref _,_,I4.laid (t':=s3.toks) (o:=.tup xs.reverse) (fun b ob q=>Heap.get?_push_of_some _ q) (Nat.le_refl _) ?_,rfl,q _ (I4.hok.fresh (Nat.le_refl _))⟩
  exact ⟨by rw [List.length_reverse]; exact hz,its.reverse,r.rev,IsTup.new _ _⟩
end
end L2
end
section
namespace L2
open PySem PySem.Spec PyProof.Rows
structure Known (J:It) (items:List V) (Hk:Hp→Prop):Prop where
  go:∀ i H,Hk H→i < items.length→J.go i H
  yld:∀ i H x H',Hk H→J.yld i H x H'→H'=H∧(i < items.length→items[i]?=some x)
  stop:∀ H,Hk H→J.stop items.length H
theorem known_range (lo:Int) (n:Nat):Known (Itr lo n) ((List.range n).map fun (i:Nat)=>V.int (lo+(i:Int))) (fun _=>True) :=
  ⟨fun i H _ h=>by show i < n; simpa using h,fun i H x H' _ h=>⟨h.1,fun hi=>by
    have hi':i < n:=by simpa using hi
    rw [List.getElem?_map,List.getElem?_range hi',h.2]; rfl⟩,fun H _=>by show n≤_; simp⟩
theorem known_list (K:PySem.W.Frag) (a:Addr) (xs:List V):Known (Itl K a) xs (fun H=>SqL K H a xs) :=
  ⟨fun i H h hi=>⟨xs,xs[i],h,List.getElem?_eq_getElem hi⟩,fun i H x H' h y=>⟨y.1,fun _=>y.2 xs h⟩,fun H h=>⟨xs,h,Nat.le_refl _⟩⟩
theorem known_tup (K:PySem.W.Frag) (a:Addr) (xs:List V):Known (Itt K a) xs (fun H=>SqT K H a xs) :=
  ⟨fun i H h hi=>⟨xs,xs[i],h,List.getElem?_eq_getElem hi⟩,fun i H x H' h y=>⟨y.1,fun _=>y.2 xs h⟩,fun H h=>⟨xs,h,Nat.le_refl _⟩⟩
theorem known_str (z:Str):Known (Its z) (z.cps.toList.map fun c=>V.str ⟨#[c]⟩) (fun _=>True) :=
  ⟨fun i H _ h=>by show i < z.cps.size; simpa using h,fun i H x H' _ h=>⟨h.1,fun _=>by
    obtain ⟨c,e1,e2⟩:=h.2
    rw [List.getElem?_map,Array.getElem?_toList,e1,e2]; rfl⟩,fun H _=>by show _=z.cps.size; simp⟩
theorem comp_known {J:It}{items:List V}{Hk:Hp→Prop} (kn:Known J items Hk) {caps:List Nat}{n:Nat}{σ:St}{g:TG}{tc:TT}{te:TE}{F:List V→Hp→Prop}{H1:Hp} (cv:St) (k:Nat) (hn:items.length < 1000)
    (Pv:Nat→List V→Hp→Prop) (h0:Pv 0 [] H1) (hk:∀ i acc H,i≤items.length→Pv i acc H→Hk H∧acc.length≤i)
    (turn:∀ (i:Nat) (x:V) (acc:List V) (H:Hp) (ys:St) (Nx:List V→St→Hp→Prop),(∀ acc' H' zs,zs.length=k→Pv (i+1) acc' H'→Nx acc' (cv++zs) H')→items[i]?=some x→ys.length=k→Pv i acc H →
      g x (cv++ys) H fun σ2 H3=>tc σ2 H3 fun b H4=>if b=true then te σ2 H4 fun y H5=>Nx (acc++[y]) σ2 H5 else Nx acc σ2 H4)
    (fin:∀ acc H,Pv items.length acc H→F acc H) (hcv:capStart caps n σ=cv++List.replicate k none:=by rfl) :
    ∃ W:Nat→Nat→List V→St→Hp→Prop,(∃ m,W 0 m [] (capStart caps n σ) H1)∧∀ i m acc σ' H',W i m acc σ' H' →
      (J.stop i H'∧F acc H') ∨
      (J.go i H'∧acc.length < sizeLine∧∀ x H2,J.yld i H' x H2→g x σ' H2 fun σ2 H3=>tc σ2 H3 fun b H4=>if b=true then te σ2 H4 fun y H5=>∃ m',m' < m∧W (i+1) m' (acc++[y]) σ2 H5 else ∃ m',m' < m∧W (i+1) m' acc σ2 H4):=by
  refine ⟨fun i m acc σ' H'=>i≤items.length∧m=items.length - i∧(∃ ys,ys.length=k∧σ'=cv++ys)∧Pv i acc H',⟨items.length,Nat.zero_le _,rfl,⟨_,by simp,hcv⟩,h0⟩,?_⟩
  rintro i m acc σ' H' ⟨hi,rfl,⟨ys,hy,rfl⟩,pv⟩
  obtain ⟨hH,ha⟩:=hk i acc H' hi pv
  by_cases e:i=items.length
  · subst e
    exact .inl ⟨kn.stop H' hH,fin acc H' pv⟩
  · have hi':i < items.length:=by omega
    refine .inr ⟨kn.go i H' hH hi',by rw [sizeLine_eq]; omega,fun x H2 hy2=>?_⟩
    obtain ⟨e2,e3⟩:=kn.yld i H' x H2 hH hy2
    subst e2
    exact turn i x acc H2 ys (fun acc' σ2 H5=>∃ m',m' < items.length - i∧(i+1≤items.length∧m'=items.length - (i+1)∧(∃ ys,ys.length=k∧σ2=cv++ys)∧Pv (i+1) acc' H5)) (fun acc' H5 zs hz p=>⟨items.length - (i+1),by omega,by omega,rfl,⟨zs,hz,rfl⟩,p⟩) (e3 hi') hy pv
theorem comp_known0 {J:It}{items:List V}{Hk:Hp→Prop} (kn:Known J items Hk) {caps:List Nat}{n:Nat}{σ:St}{g:TG}{te:TE}{F:List V→Hp→Prop}{H1:Hp} (cv:St) (k:Nat) (hn:items.length < 1000)
    (Pv:Nat→List V→Hp→Prop) (h0:Pv 0 [] H1) (hk:∀ i acc H,i≤items.length→Pv i acc H→Hk H∧acc.length≤i)
    (turn:∀ (i:Nat) (x:V) (acc:List V) (H:Hp) (ys:St) (Nx:List V→St→Hp→Prop),(∀ acc' H' zs,zs.length=k→Pv (i+1) acc' H'→Nx acc' (cv++zs) H')→items[i]?=some x→ys.length=k→Pv i acc H →
      g x (cv++ys) H fun σ2 H3=>te σ2 H3 fun y H5=>Nx (acc++[y]) σ2 H5)
    (fin:∀ acc H,Pv items.length acc H→F acc H) (hcv:capStart caps n σ=cv++List.replicate k none:=by rfl) :
    ∃ W:Nat→Nat→List V→St→Hp→Prop,(∃ m,W 0 m [] (capStart caps n σ) H1)∧∀ i m acc σ' H',W i m acc σ' H' →
      (J.stop i H'∧F acc H') ∨
      (J.go i H'∧acc.length < sizeLine∧∀ x H2,J.yld i H' x H2→g x σ' H2 fun σ2 H3=>tYes σ2 H3 fun b H4=>if b=true then te σ2 H4 fun y H5=>∃ m',m' < m∧W (i+1) m' (acc++[y]) σ2 H5 else ∃ m',m' < m∧W (i+1) m' acc σ2 H4):=by
  refine comp_known kn cv k hn Pv h0 hk (fun i x acc H ys Nx hN hx hy p=>?_) fin hcv
  have:=turn i x acc H ys Nx hN hx hy p
  have e:(fun (σ2:St) (H3:Hp)=>tYes σ2 H3 fun b H4=>if b=true then te σ2 H4 fun y H5=>Nx (acc++[y]) σ2 H5 else Nx acc σ2 H4)=fun σ2 H3=>te σ2 H3 fun y H5=>Nx (acc++[y]) σ2 H5:=by
    funext σ2 H3
    unfold tYes
    exact if_pos rfl
  rw [e]
  exact this
theorem for_known {J:It}{items:List V}{Hk:Hp→Prop} (kn:Known J items Hk) {g:TG}{tb:TS}{D:Ends}{σ:St}{H:Hp} (Pv:Nat→St→Hp→Prop) (h0:Pv 0 σ H) (hk:∀ i σ H,i≤items.length→Pv i σ H→Hk H)
    (turn:∀ (i:Nat) (x:V) (σ:St) (H:Hp) (Nx:St→Hp→Prop),(∀ σ' H',Pv (i+1) σ' H'→Nx σ' H')→items[i]?=some x→Pv i σ H→g x σ H fun σ2 H2=>tb { D with nx:=Nx,ct:=Nx,bk:=D.nx } σ2 H2)
    (fin:∀ σ H,Pv items.length σ H→D.nx σ H) :
    ∃ W:Nat→Nat→St→Hp→Prop,(∃ m,W 0 m σ H)∧∀ i m σ H,W i m σ H →
      (J.stop i H∧D.nx σ H)∨(J.go i H∧∃ N:St→Hp→Prop,(∀ σ' H',N σ' H'→∃ m',m' < m∧W (i+1) m' σ' H')∧∀ x H',J.yld i H x H'→g x σ H' fun σ2 H2=>tb { D with nx:=N,ct:=N,bk:=D.nx } σ2 H2):=by
  refine ⟨fun i m σ H=>i≤items.length∧m=items.length - i∧Pv i σ H,⟨items.length,Nat.zero_le _,rfl,h0⟩,?_⟩
  rintro i m σ H ⟨hi,rfl,pv⟩
  have hH:=hk i σ H hi pv
  by_cases e:i=items.length
  · subst e
    exact .inl ⟨kn.stop H hH,fin σ H pv⟩
  · have hi':i < items.length:=by omega
    refine .inr ⟨kn.go i H hH hi',Pv (i+1),fun σ' H' p=>⟨items.length - (i+1),by omega,by omega,rfl,p⟩,fun x H2 hy2=>?_⟩
    obtain ⟨e2,e3⟩:=kn.yld i H x H2 hH hy2
    subst e2
    exact turn i x σ H2 (Pv (i+1)) (fun _ _ p=>p) (e3 hi') pv
theorem iteD {c A B:Prop} [Decidable c] (hc:c) (h:A):if decide c=true then A else B:=by
  rw [if_pos (decide_eq_true hc)]; exact h
theorem iteDF {c A B:Prop} [Decidable c] (hc:¬ c) (h:B):if decide c=true then A else B:=by
  rw [if_neg (fun z=>hc (of_decide_eq_true z))]; exact h
theorem Same.upd_new {H H':Hp}{a:Addr}{o:HO} (e:Same H H') (h:H a=none):Same H (upd H' a o):=fun b u q=>by
  rw [upd_ne (ne_of_none q h)]; exact e b u q
theorem Same.upd1 {H:Hp}{a:Addr}{o:HO} (h:H a=none):Same H (upd H a o):=(Same.refl H).upd_new h
def capOk (sc:Scope) (XN N:List Str) (scope:Scope):Nat→List Nat→Bool
  | _,[]=>true
  | i,c::cs=>(match N[i]? with
    | some x=>decide (XN[c]?=some x) && decide (scope.names.lookup x=some .free) && (decide (sc.names.lookup x=some .cell) || decide (sc.names.lookup x=some .free))
    | none=>false) && capOk sc XN N scope (i+1) cs
def compOk (sc:Scope) (XN N:List Str) (scope:Scope) (caps:List Nat):Bool :=
  decide (scope.kind=.function) && decide N.Nodup && scope.names.all (fun y=>decide (y.2≠.cell)) && scope.names.all (fun y=>decide (y.2=.local→scope.names.lookup y.1=some .local)) &&
  scope.names.all (fun y=>decide (y.2=.free→sc.names.lookup y.1=some .cell∨sc.names.lookup y.1=some .free)) && capOk sc XN N scope 0 caps && decide (caps.length≤N.length)
theorem capOk_get {sc:Scope}{XN N:List Str}{scope:Scope}:∀ {caps:List Nat}{j:Nat},capOk sc XN N scope j caps=true→∀ i,i < caps.length →
    ∃ x,N[j+i]?=some x∧XN[caps.getD i 0]?=some x∧scope.names.lookup x=some .free∧(sc.names.lookup x=some .cell∨sc.names.lookup x=some .free)
  | [],_,_,i,hi=>by simp at hi
  | c::cs,j,h,i,hi=>by
    unfold capOk at h
    rw [Bool.and_eq_true] at h
    obtain ⟨h1,h2⟩:=h
    cases i with
    | zero =>
      cases e:N[j]? with
      | none=>rw [e] at h1; cases h1
      | some x =>
        rw [e] at h1
        simp only [Bool.and_eq_true,Bool.or_eq_true,decide_eq_true_eq] at h1
        exact ⟨x,by simpa using e,by simpa using h1.1.1,h1.1.2,h1.2⟩
    | succ i =>
      obtain ⟨x,a,b,c',d⟩:=capOk_get h2 i (by simpa using hi)
      exact ⟨x,by rw [← a]; congr 1; omega,by simpa using b,c',d⟩
theorem compScope_of {sc:Scope}{XN N:List Str}{scope:Scope}{caps:List Nat} (h:compOk sc XN N scope caps=true):CompScope sc XN N scope caps:=by
  unfold compOk at h
  simp only [Bool.and_eq_true,decide_eq_true_eq,List.all_eq_true] at h
  obtain ⟨⟨⟨⟨⟨⟨a,b⟩,c⟩,d⟩,e⟩,f⟩,g⟩:=h
  exact ⟨a,b,c,d,e,fun i hi=>by simpa using capOk_get f i hi,g⟩
end L2
end
section
namespace L2
open PySem PySem.Spec PyProof.Rows
section
variable {X:Cx}{pins:List (Addr × Obj)}{σ:St}{H:Hp}{s:Shared}
theorem Inv.turnedT {fp:List Addr}{h':Heap}{t':Nat}{T:Addr}{o:HO} (I:Inv X pins σ H s) (k:∀ b u,b ∉ fp→s.heap.get? b=some u→h'.get? b=some u) (hf:∀ b∈fp,FpOk X pins H b) (hT:s.heap.get? T=none)
    (new:ObjOk X.prog X.w (upd H T o) h' T o):Inv X pins σ (upd H T o) { s with heap:=h',toks:=t' }:=by
  have hn:H T=none:=I.hok.free hT
  have nit:∀ b u,H b=some u→b ∉ fp:=fun b u e z=>by rw [(hf b z).1] at e; cases e
  have sm:Same H (upd H T o):=Same.upd1 hn
  have old:∀ b (u:Obj),s.heap.get? b=some u→upd H T o b=H b:=fun b u e=>by
    rw [upd_ne]
    rintro rfl
    rw [hT] at e; cases e
  refine I.step (g':=s.gens) (d':=s.drawn) (ch:=fp) (fun b hb=>?_) (fun b o _ _ hc e _=>k b o hc e) (fun b o _ _ hc e _=>⟨o.slots,k b o hc e⟩) (fun b u _ e n=>by rw [old b u e]; exact n)
    (fun b o hc e=>⟨o,k b o hc e⟩) (fun b xs e=>sm _ _ e) (fun b u v e=>sm _ _ e) (fun b ps e=>⟨#[],by rw [sm _ _ e]; simp⟩) (fun m hm=>?_) (fun b u e=>?_) I.bare
  · obtain ⟨f0,f1,f2,f3,f4,f5⟩:=hf b hb
    exact ⟨f3,f1,f4,f5⟩
  · obtain ⟨o,es,ep,ho,r⟩:=hm
    exact ⟨o,es,ep,k _ o (fun z=>(hf _ z).2.1 rfl) ho,r⟩
  · by_cases hb:b=T
    · subst hb; rw [upd_same] at e; cases e; exact new
    · rw [upd_ne hb] at e
      refine (I.hok b u e).stay (fun c v hc q=>k c v ?_ q) (fun c q=>?_) fun c xs q=>?_
      · rcases hc with z | z
        · rw [z]; exact nit b u e
        · exact nit c _ z
      · exact sm _ _ q
      · exact sm _ _ q
end
def Ite (K:PySem.W.Frag) (a:Addr):It :=
  ⟨fun i H=>∃ xs x,SqL K H a xs∧xs[i]?=some x,fun i H x H'=>∃ T y,x=.ref T∧H T=none∧H'=upd H T (.tup [.int i,y])∧∀ xs,SqL K H a xs→xs[i]?=some y,fun i H=>∃ xs,SqL K H a xs∧xs.length=i⟩
theorem turn_enum {P:Program}{w:World}{K:PySem.W.Frag}{elts:List Expr}{k:Nat}{pos:Pos} (a e it:Addr) (hei:e≠it):Turn P w K (.Tuple elts k pos) (Ite K a) [e,it] e (fun i h=>(∃ old,IsEnum h e it i old)∧h.IsListIter it a i) where
  mem:=by simp
  obj:=fun i h st b hb=>by
    obtain ⟨⟨old,he⟩,hit⟩:=st
    rcases List.mem_cons.mp hb with z | z
    · subst z; exact ⟨_,he,fun v z=>by cases z⟩
    · have z':b=it:=by simpa using z
      subst z'
      obtain ⟨o,e,c,d⟩:=hit
      exact ⟨o,e,fun v z=>by rw [d] at z; cases z⟩
  keep:=fun i h h' st kk=>⟨let ⟨old,he⟩:=st.1; ⟨old,kk e (by simp) _ he⟩,st.2.at fun o x=>kk it (by simp) o x⟩
  item:=by
    intro X hP hw hK hc i pins s σ H E I hf st hg
    subst hP hw hK
    obtain ⟨xs,x,hq,hx⟩:=hg
    obtain ⟨its,rv,p,hz⟩:=I.list hq
    obtain ⟨u,hu,ru⟩:=rv.get hx
    obtain ⟨⟨old,he⟩,hit⟩:=id st
    have hae:e≠a:=fun z=>by
      subst z
      obtain ⟨o,h1,h2,_⟩:=p.isList
      rw [he] at h1; cases h1
      have h2':Value.type "enumerate" = Value.type "list" := h2
      exact absurd h2' (by decide)
    have hai:a≠it:=fun z=>by
      subst z
      obtain ⟨o,h1,h2,_⟩:=p.isList
      obtain ⟨o',h3,h4,_⟩:=hit
      rw [h1] at h3; cases h3; rw [h2] at h4; exact absurd h4 (by decide)
    have D:=Draws.list (prog:=X.prog) (w:=X.w) (A:=X.A.in1) (show X.A.in1.handled=none from I.ok.hd hc) it a hai its.toArray
    have hlt:i < its.toArray.size:=by
      have:=(List.getElem?_eq_some_iff.mp hu).1
      simpa using this
    refine wpAny_pyNext_enum_itemD D he ⟨hit,p.isList⟩ hlt hei (by simp [hei,hae]) fun x' h' tk hP ho hs' hT hsz hk=>?_
    have hx':x'=u:=by
      have:its[i]?=some x':=by simpa using hP
      rw [hu] at this; exact (Option.some.inj this).symm
    subst hx'
    refine ⟨_,rfl,wpAny_letOwnedTupleGo_enum ho fun h2 he2 hs2=>?_⟩
    have hTn:s.heap.get? s.heap.objs.size=none:=by
      cases g:s.heap.get? s.heap.objs.size with
      | none=>rfl
      | some o=>exact absurd (Heap.lt_size g) (Nat.lt_irrefl _)
    have hel:e < s.heap.objs.size:=Heap.lt_size he
    have hT2:h2.get? s.heap.objs.size=some { cls:=.type "tuple",data:=.seq #[.int i tk,x'] }:=(hs2.2 _ (Nat.ne_of_gt hel)).trans hT
    refine ⟨.ref s.heap.objs.size,upd H s.heap.objs.size (.tup [.int i,x]),I.turnedT (fp:=[e,it]) (h':=h2) (t':=tk+1) (fun b o hb q=>?_) hf hTn ⟨by show 2≤sizeLine; decide,[.int i tk,x'],.cons ⟨tk,rfl⟩ (.cons ru .nil),⟨_,hT2,rfl,_,rfl⟩⟩,rfl,
      ⟨_,x,rfl,I.hok.free hTn,rfl,fun ys hy=>by rw [I.list_inj hy hq]; exact hx⟩,⟨⟨_,by simpa using he2⟩,hs'.1.at fun o q=>(hs2.2 it (Ne.symm hei)).trans q⟩,fun b hb=>?_⟩
    · have hbe:b≠e:=fun z=>hb (by simp [z])
      have hbi:b≠it:=fun z=>hb (by simp [z])
      exact (hs2.2 b hbe).trans (hk b o hbe hbi q)
    · rw [upd_ne]
      · exact (hf b hb).1
      · rintro rfl
        rcases List.mem_cons.mp hb with z | z
        · exact absurd hel (by rw [z]; exact Nat.lt_irrefl _)
        · have z':s.heap.objs.size=it:=by simpa using z
          obtain ⟨o,h3,_⟩:=hit
          rw [← z',hTn] at h3; cases h3
  done:=by
    intro X hP hw hK hc i pins s σ H E I hf st hg
    subst hP hw hK
    obtain ⟨xs,hq,hx⟩:=hg
    obtain ⟨its,rv,p,hz⟩:=I.list hq
    obtain ⟨⟨old,he⟩,hit⟩:=id st
    have hl:=rv.length
    have hai:a≠it:=fun z=>by
      subst z
      obtain ⟨o,h1,h2,_⟩:=p.isList
      obtain ⟨o',h3,h4,_⟩:=hit
      rw [h1] at h3; cases h3; rw [h2] at h4; exact absurd h4 (by decide)
    have D:=Draws.list (prog:=X.prog) (w:=X.w) (A:=X.A.in1) (show X.A.in1.handled=none from I.ok.hd hc) it a hai its.toArray
    obtain ⟨f0,f1,f2,f3,f4,f5⟩:=hf it (by simp)
    have hi:its.toArray.size=i:=by rw [List.size_toArray]; omega
    refine wpAny_pyNext_enum_endD D he ⟨by rw [hi]; exact hit,p.isList⟩ fun h' eb=>⟨rfl,I.turned (t':=s.toks) (fun b o hb e=>eb b o hb e) f0 f1 f3 f4 f5⟩
  self:=fun A i s Q E st h=>let ⟨old,he⟩:=st.1; wpAny_pyIter_enum he h
section
variable {X:Cx}{elts:List Expr}{k:Nat}{tpos:Pos}
def iEnum (K:PySem.W.Frag) (ta:TA):TI:=fun σ H R=>ta σ H fun vs H1=>∃ a xs,vs=[.ref a]∧H1 a=some (.lst xs)∧R (Ite K a) H1
theorem pi_enum {e:Expr}{ta:TA}{p pos:Pos} (hg:Gl X "enumerate") (hm:X.mg "enumerate" = none) (ha:PA X [e] ta) (hs:starEach [e] X.env=[(false,eval e X.env)]:=by rfl):PI X (.Tuple elts k tpos) (.Call (.Name "enumerate" p) [e] [] pos) (iEnum X.K ta):=by
  intro pins s σ H R I h
  refine Call_ (ld_blt I hg hm boot_enumerate (PyProof.Rows.callWith_type1 (thn (ha pos pins s σ H _ I h) fun us s1 ⟨vs,H1,I1,r1,q1⟩=>?_) hs rfl))
  obtain ⟨a,xs,rfl,hl,q⟩:=q1
  obtain ⟨u,rfl,ru⟩:=vals1 r1
  cases ru
  obtain ⟨z,its,n,r,e0⟩:=I1.hok a _ hl
  refine call_enumerate_1 e0 fun h' he hit hsz hk=>?_
  have I2:Inv X pins σ H1 { s1 with heap:=h' }:=I1.kept (t':=s1.toks) hk
  refine wpAny_pyIter_enum he ⟨_,[s1.heap.objs.size+1,s1.heap.objs.size],_,_,H1,rfl,I2,turn_enum a _ _ (Nat.succ_ne_self _),⟨⟨_,he⟩,hit⟩,fun b hb=>?_,q⟩
  have hb':s1.heap.objs.size≤b:=by
    rcases List.mem_cons.mp hb with z | z
    · rw [z]; exact Nat.le_succ _
    · have:b=s1.heap.objs.size:=by simpa using z
      rw [this]; exact Nat.le_refl _
  exact I1.fpOk hb' (I1.hok.fresh hb')
theorem for_enum {K:PySem.W.Frag}{a:Addr}{xs:List V}{g:TG}{tb:TS}{D:Ends}{σ:St}{H:Hp} (Pv:Nat→St→Hp→Prop) (h0:Pv 0 σ H) (hk:∀ i σ H,i≤xs.length→Pv i σ H→SqL K H a xs)
    (turn:∀ (i:Nat) (x:V) (T:Addr) (σ:St) (H:Hp) (Nx:St→Hp→Prop),(∀ σ' H',Pv (i+1) σ' H'→Nx σ' H')→xs[i]?=some x→Pv i σ H→H T=none→g (.ref T) σ (upd H T (.tup [.int i,x])) fun σ2 H2=>tb { D with nx:=Nx,ct:=Nx,bk:=D.nx } σ2 H2)
    (fin:∀ σ H,Pv xs.length σ H→D.nx σ H) :
    ∃ W:Nat→Nat→St→Hp→Prop,(∃ m,W 0 m σ H)∧∀ i m σ H,W i m σ H →
      ((Ite K a).stop i H∧D.nx σ H)∨((Ite K a).go i H∧∃ N:St→Hp→Prop,(∀ σ' H',N σ' H'→∃ m',m' < m∧W (i+1) m' σ' H')∧∀ x H',(Ite K a).yld i H x H'→g x σ H' fun σ2 H2=>tb { D with nx:=N,ct:=N,bk:=D.nx } σ2 H2):=by
  refine ⟨fun i m σ H=>i≤xs.length∧m=xs.length - i∧Pv i σ H,⟨xs.length,Nat.zero_le _,rfl,h0⟩,?_⟩
  rintro i m σ H ⟨hi,rfl,pv⟩
  have hH:=hk i σ H hi pv
  by_cases e:i=xs.length
  · subst e
    exact .inl ⟨⟨xs,hH,rfl⟩,fin σ H pv⟩
  · have hi':i < xs.length:=by omega
    refine .inr ⟨⟨xs,xs[i],hH,List.getElem?_eq_getElem hi'⟩,Pv (i+1),fun σ' H' p=>⟨xs.length - (i+1),by omega,by omega,rfl,p⟩,fun x H2 hy2=>?_⟩
    obtain ⟨T,y,rfl,hT,rfl,hy⟩:=hy2
    exact turn i y T σ H (Pv (i+1)) (fun _ _ p=>p) (hy xs hH) pv hT
theorem mt_endswith:MtR X "str.endswith" (fun x vs H Q=>∃ a b:Str,x=.str a∧vs=[.str b]∧Q (.bl (Txt.endswith a b)) H):=by
  intro pins s σ H x vs v us Q I rx rv h
  obtain ⟨a,b,rfl,rfl,q⟩:=h
  obtain ⟨t,rfl⟩:=rx
  obtain ⟨u,rfl,ru⟩:=vals1 rv
  obtain ⟨t',rfl⟩:=ru
  exact SC.endswith ⟨.bl _,H,I,rfl,q⟩
end
section
variable {X:Cx}{e st:Expr}{te ts:TE}{pos p2:Pos}
end
end L2
end
section
namespace L2
open PySem PySem.Spec PyProof.Rows
theorem miss_list_keys:typeLookup (.type "list") "keys" = pure none:=am_miss_of_fast (by kernel_rfl)
theorem ga_miss_list {prog:Program}{w:World}{A:Around}{E:Value→Shared→Prop}{s:Shared}{a:Addr}{o:Obj}{xs:Array Value}{k:Nat}{name:Str}{Q:Option Value→Shared→Prop}
    (hx:s.heap.get? a=some o) (hc:o.cls=.type "list") (hdat:o.data=.seq xs k) (hd:o.dict=none) (hmiss:typeLookup (.type "list") name=pure none) (hname:(["__module__", "__name__", "__qualname__", "__doc__", "__annotations__"]:List Str).contains name=false) (hA:A.handled=none)
    (h:∀ h' tk,(∀ b ob,s.heap.get? b=some ob→h'.get? b=some ob)→Q none { s with heap:=h',toks:=tk }) (hsz:name.length+100≤sizeLine:=by size_fits) :
    wpAny (model prog w) A (getAttr? (.ref a) name) Q E s:=by
  obtain ⟨c,dct,dat,sl⟩:=o
  simp only at hc hdat hd
  subst hc hdat hd
  obtain ⟨hp,g,d,tk,os⟩:=s
  have hT:∀ tk',(⟨hp,g,d,tk',os⟩:Shared).TypeIs (.ref a) "list" := fun _=>⟨_,hx,rfl⟩
  have f1:=sub_AttributeError
  have f3:=PySem.F.slot_list_getattribute.lookup
  have f4:=PySem.F.slot_list_getattribute.bind (.ref a)
  have f5:=am_list_getattr_none
  unfold getAttr? getAttrBy? getAttrBy
  repeat (any_goals (first | assumption | exact hT _ | ((with_reducible show wpAny _ _ (call (Value.builtin "list.__getattribute__") _ _) _ _ _); refine call_meets PySem.F.slot_list_getattribute (hT _) am_entry_list_getattribute (PySem.F.args_list_getattribute_2 _ _) (meets_getattribute_miss_list a xs k sl name _ hmiss hname hsz) ⟨hx,hA,fun h' tk' e hx'=>?_⟩) | wp_step))
  obtain ⟨t',u',he⟩:=hx'.there
  show wpAny _ _ (getattributeRaised _ _ _ _ _ _ _) _ _ _
  unfold getattributeRaised
  repeat (any_goals (first | assumption | wp_step))
  exact h _ _ hx'.of.keeps
theorem entry_dict_loop:entryFor table "dict.update.loop" = some Builtin.«dict.update.loop»:=entryFor_of_tree (by kernel_rfl)
theorem plain_dict_loop:plainId "dict.update.loop" = true:=by decide +kernel
theorem stored_new {κ:Type} [DecidableEq κ] {kvs:List (κ × Value)}{k:κ}{v:Value} (h:k ∉ kvs.map (·.1)):stored kvs k v=kvs++[(k,v)]:=by
  unfold stored
  rw [if_neg]
  rw [List.any_eq_true]
  rintro ⟨kv,hkv,he⟩
  exact h (List.mem_map.mpr ⟨kv,hkv,of_decide_eq_true he⟩)
section
variable {prog:Program}{w:World}{A:Around}{R:Result→Shared→Prop}
theorem loop_dict {I ax D:Addr}{items:Array Value}{kvs:List (Str × Value)} (hh:A.in1.handled=none) (hIx:ax≠I) (hDI:D≠I) (hDx:D≠ax) (hlen:kvs.length=items.size) (hz:kvs.length≤1000) (nd:(kvs.map (·.1)).Nodup) :
    ∀ (m i:Nat) (s:Shared),items.size - i=m→i≤items.size→(s.heap.IsListIter I ax i∧s.heap.IsList ax items) →
      (∀ (j:Nat) (v:Value),items[j]?=some v→∃ q,kvs[j]?=some q∧∃ b o t n,v=Value.ref b∧b≠D∧b≠I∧s.heap.get? b=some o∧o.cls=.type "tuple" ∧ o.data=.seq #[.str q.1 t,q.2] n) →
      s.heap.DictOf (mixKind prog w) D ((kvs.take i).map fun q=>((Sum.inr q.1:Key),q.2)) →
      (∀ h' tk,(∀ b o,b≠D→b≠I→s.heap.get? b=some o→h'.get? b=some o)→h'.DictOf (mixKind prog w) D (kvs.map fun q=>((Sum.inr q.1:Key),q.2))→R (.ok (.ret .none)) { s with heap:=h',toks:=tk }) →
      ∀ n:Tok,codeAny (model prog w) A (.builtin "dict.update.loop" ⟨[.ref D,.ref I,.int (i:Int) n,.none],[]⟩) R s:=by
  have W:=Walks.list (prog:=prog) (w:=w) (A:=A.in1) hh I ax hIx items
  intro m
  induction m with
  | zero =>
    intro i s hm hi st hp hd hR n
    have hin:i=items.size:=by omega
    subst hin
    refine codeAny_builtin entry_dict_loop ?_
    rw [Around.under_plainId plain_dict_loop _]
    show wpAny _ A.in1 (pyNext (.ref I) >>= _) _ _ s
    refine wpAny_bind (W.done s _ _ st fun h' tk hk=>?_)
    show wpAny _ A.in1 (Builtin.Dict.addKeywords D [] >>= _) _ _ _
    refine wpAny_bind (wpAny_pure (wpAny_pure (hR h' tk (fun b o h1 h2 e=>hk b o (by simpa using h2) e) ?_)))
    rw [← hlen,List.take_length] at hd
    obtain ⟨o,es,ep,ho,rest⟩:=hd
    exact ⟨o,es,ep,hk D o (by simpa using hDI) ho,rest⟩
  | succ m ih =>
    intro i s hm hi st hp hd hR n
    have hlt:i < items.size:=by omega
    refine codeAny_builtin entry_dict_loop ?_
    rw [Around.under_plainId plain_dict_loop _]
    show wpAny _ A.in1 (pyNext (.ref I) >>= _) _ _ s
    refine wpAny_bind (W.item i s _ _ hlt st fun v h1 tk hv st1 hk=>?_)
    obtain ⟨q,hq,b,o,t,nn,rfl,hbD,hbI,ho,hoc,hod⟩:=hp i v hv
    have ho1:h1.get? b=some o:=hk b o (by simpa using hbI) ho
    have hd1:h1.DictOf (mixKind prog w) D ((kvs.take i).map fun q=>((Sum.inr q.1:Key),q.2)):=by
      obtain ⟨o',es,ep,ho',rest⟩:=hd
      exact ⟨o',es,ep,hk D o' (by simpa using hDI) ho',rest⟩
    show wpAny _ A.in1 (holding [Value.ref b] _ >>= _) _ _ _
    refine wpAny_bind (wpAny_holding ?_)
    have hT:Shared.TypeIs { s with heap:=h1,toks:=tk } (.ref b) "tuple" := ⟨o,ho1,hoc⟩
    refine wpAny_bind (wpAny_tryCatch ?_)
    unfold Builtin.Dict.pairItems
    refine wpAny_bind (wpAny_typeOf hT ?_)
    rw [if_pos (by decide)]
    refine wpAny_bind (wpAny_seqItems ho1 hod (wpAny_pure ?_))
    show wpAny _ A.in1 (holding [Value.str q.1 t,q.2] (dictSet D (.str q.1 t) q.2)) _ _ _
    have hqi:kvs[i]?=some q:=hq
    have hi':i < kvs.length:=(List.getElem?_eq_some_iff.mp hqi).1
    have eq1:kvs[i]=q:=(List.getElem?_eq_some_iff.mp hqi).2
    refine wpAny_holding (wpAny_dictSet_pairs (knd:=mixKind prog w) (k:=Sum.inr q.1) (s:={ s with heap:=h1,toks:=tk }) (mixKind_str prog w q.1 t) hd1 (fun h2 hd2 hs2=>?_) (by rw [List.length_map,List.length_take,sizeLine_eq]; omega))
    have hnew:(Sum.inr q.1:Key) ∉ (((kvs.take i).map fun q=>((Sum.inr q.1:Key),q.2)).map (·.1)):=by
      rw [List.map_map]
      intro hm
      obtain ⟨p,hp',e⟩:=List.mem_map.mp hm
      have e':p.1=q.1:=Sum.inr.inj e
      obtain ⟨j,hj,ej⟩:=List.getElem_of_mem hp'
      have hj1:j < i:=by rw [List.length_take] at hj; omega
      have hj2:j < kvs.length:=by omega
      rw [List.getElem_take] at ej
      have:=(List.getElem_inj (xs:=kvs.map (·.1)) (h₀:=by simpa using hj2) (h₁:=by simpa using hi') nd).mp (by rw [List.getElem_map,List.getElem_map,ej,eq1]; exact e')
      omega
    rw [stored_new hnew] at hd2
    have ed:((kvs.take i).map fun q=>((Sum.inr q.1:Key),q.2))++[((Sum.inr q.1:Key),q.2)]=(kvs.take (i+1)).map fun q=>((Sum.inr q.1:Key),q.2):=by
      rw [List.take_succ_eq_append_getElem hi',eq1,List.map_append]; rfl
    rw [ed] at hd2
    show wpAny _ A.in1 (again _) _ _ _
    refine wpAny_pure ⟨plainId_quiet plain_dict_loop _,?_⟩
    have keep:∀ b o,b≠D→b≠I→s.heap.get? b=some o→h2.get? b=some o:=fun b o e1 e2 e=>by
      rw [hs2.2 b e1]; exact hk b o (by simpa using e2) e
    refine ih (i+1) { s with heap:=h2,toks:=tk+1 } (by omega) hlt (W.frame _ h1 h2 st1 fun b hb o e=>?_) (fun j v hv=>?_) hd2 (fun h' tk' hk' hd'=>hR h' tk' (fun b o e1 e2 e=>hk' b o e1 e2 (keep b o e1 e2 e)) hd') _
    · rw [hs2.2 b]
      · exact e
      · rintro rfl
        rcases List.mem_cons.mp hb with z | z
        · exact hDI z
        · exact hDx (by simpa using z)
    · obtain ⟨q',hq',b',o',t',n',e1,e2,e3,e4,e5⟩:=hp j v hv
      exact ⟨q',hq',b',o',t',n',e1,e2,e3,keep b' o' e2 e3 e4,e5⟩
theorem call_dict_pairs {E:Value→Shared→Prop}{s:Shared}{l:Addr}{items:Array Value}{kvs:List (Str × Value)}{Q:Value→Shared→Prop} (hh:A.handled=none) (hl:PlainL s.heap l items) (hlen:kvs.length=items.size) (hz:kvs.length≤1000) (nd:(kvs.map (·.1)).Nodup)
    (hp:∀ (j:Nat) (v:Value),items[j]?=some v→∃ q,kvs[j]?=some q∧∃ b o t n,v=Value.ref b∧s.heap.get? b=some o∧o.cls=.type "tuple" ∧ o.data=.seq #[.str q.1 t,q.2] n)
    (h:∀ h' tk,(∀ b o,s.heap.get? b=some o→h'.get? b=some o)→h'.DictOf (mixKind prog w) s.heap.objs.size (kvs.map fun q=>((Sum.inr q.1:Key),q.2))→Q (.ref s.heap.objs.size) { s with heap:=h',toks:=tk }) :
    wpAny (model prog w) A (call (.type "dict") [.ref l]) Q E s:=by
  refine callType_codes (Q₁:=fun obj s₁=>obj=.ref s.heap.objs.size∧s₁={ s with heap:=s.heap.push { cls:=.type "dict",data:=.dict #[] } }) PySem.F.kt_called_dict (PySem.F.kt_typeCall_dict_1 _) PySem.F.entry_dict_init (kt_code_dict_new _ ⟨rfl,rfl⟩) ?_
  rintro obj s₁ ⟨rfl,rfl⟩
  have hnew:(s.heap.push { cls:=.type "dict",data:=.dict #[] }).DictOf (mixKind prog w) s.heap.objs.size []:=Heap.DictOf.new s.heap
  obtain ⟨o,n,ho,hc,hdn,hd⟩:=id hl
  have hlS:l < s.heap.objs.size:=Heap.lt_size ho
  have ho1:(s.heap.push { cls:=.type "dict",data:=.dict #[] }).get? l=some o:=Heap.get?_push_of_some _ ho
  refine ⟨hnew.typeIs,PySem.F.args_dict_init_2 _ _,?_⟩
  unfold Builtin.«dict.__init__»
  refine wpAny_bind ?_
  unfold Builtin.Dict.selfAndRest
  refine wpAny_bind (wpAny_notOrdered_dict hnew.typeIs ?_)
  show wpAny _ _ (pure (s.heap.objs.size,[Value.ref l])) _ _ _
  refine wpAny_pure ?_
  show wpAny _ _ (Builtin.Dict.updateFrom "dict.__init__" s.heap.objs.size (.ref l) [] .none) _ _ _
  unfold Builtin.Dict.updateFrom
  have hT:Shared.TypeIs { s with heap:=s.heap.push { cls:=.type "dict",data:=.dict #[] } } (.ref l) "list" := ⟨o,ho1,hc⟩
  refine wpAny_bind (wpAny_typeOf hT ?_)
  rw [if_pos (by decide)]
  refine wpAny_bind (ga_miss_list ho1 hc hd hdn miss_list_keys (by decide) (by simp [hh]) (fun h2 tk2 hk2=>?_))
  rw [if_pos (show (none:Option Value).isNone=true from rfl)]
  refine wpAny_bind (wpAny_rule (wpAny_bind ?_))
  have hl2:h2.IsList l items:=⟨o,hk2 _ _ ho1,hc,n,hd⟩
  refine wpAny_pyIter_list (s:={ s with heap:=h2,toks:=tk2 }) hl2 ?_
  have hDsz:s.heap.objs.size < h2.objs.size:=by
    obtain ⟨o',es,ep,ho',_⟩:=hnew
    exact Heap.lt_size (hk2 _ _ ho')
  have hlsz:l < h2.objs.size:=Nat.lt_trans hlS hDsz
  refine wpAny_pure ⟨plainId_quiet plain_dict_loop _,?_⟩
  have old:∀ b o,s.heap.get? b=some o→h2.get? b=some o:=fun b o e=>hk2 b o (Heap.get?_push_of_some _ e)
  refine loop_dict (I:=h2.objs.size) (ax:=l) (D:=s.heap.objs.size) (items:=items) (kvs:=kvs) (by simp [hh]) (Nat.ne_of_lt hlsz) (Nat.ne_of_lt hDsz) (Nat.ne_of_gt hlS) hlen hz nd items.size 0 _ rfl (Nat.zero_le _)
    ⟨⟨_,Heap.get?_push_size _ rfl,rfl,rfl⟩,hl2.push _⟩ (fun j v hv=>?_) ?_ (fun h' tk' hk' hd'=>⟨rfl,h h' tk' (fun b o e=>?_) hd'⟩) _
  · obtain ⟨q,hq,b,ob,t,nn,e1,e2,e3,e4⟩:=hp j v hv
    exact ⟨q,hq,b,ob,t,nn,e1,Nat.ne_of_lt (Heap.lt_size e2),Nat.ne_of_lt (Nat.lt_trans (Heap.lt_size e2) hDsz),Heap.get?_push_of_some _ (old _ _ e2),e3,e4⟩
  · rw [List.take_zero]
    obtain ⟨o',es,ep,ho',rest⟩:=hnew
    exact ⟨o',es,ep,Heap.get?_push_of_some _ (hk2 _ _ ho'),rest⟩
  · exact hk' b o (Nat.ne_of_lt (Heap.lt_size e)) (Nat.ne_of_lt (Nat.lt_trans (Heap.lt_size e) hDsz)) (Heap.get?_push_of_some _ (old _ _ e))
end
section
variable {X:Cx}
def PrsAt (K:PySem.W.Frag) (H:Hp) (ts:List V) (kvs:List (Str × V)):Prop:=ts.length=kvs.length∧∀ (i:Nat) (q:Str × V),kvs[i]?=some q→∃ a,ts[i]?=some (.ref a)∧SqT K H a [.str q.1,q.2]
theorem prs_vals {pins:List (Addr × Obj)}{σ:St}{H:Hp}{s:Shared} (I:Inv X pins σ H s) {ts:List V}{kvs:List (Str × V)}{its:List Value} (hp:PrsAt X.K H ts kvs) (rv:Vals ts its) :
    ∃ ws:List (Str × Value),KV kvs ws∧∀ (j:Nat) (v:Value),its[j]?=some v→∃ q,ws[j]?=some q∧∃ b o t n,v=Value.ref b∧s.heap.get? b=some o∧o.cls=.type "tuple" ∧ o.data=.seq #[.str q.1 t,q.2] n:=by
  have one:∀ (i:Nat) (q:Str × V) (u:Value),kvs[i]?=some q→its[i]?=some u→∃ x,RelV q.2 x∧∃ b o t n,u=Value.ref b∧s.heap.get? b=some o∧o.cls=.type "tuple" ∧ o.data=.seq #[.str q.1 t,x] n:=fun i q u hq hu=>by
    obtain ⟨a,ha,hs⟩:=hp.2 i q hq
    obtain ⟨u',e1,e2⟩:=rv.get ha
    rw [hu] at e1
    cases e1
    cases e2
    obtain ⟨its2,r2,⟨o,ho,hc,n,hd⟩,_⟩:=I.tuple hs
    obtain ⟨x1,x2,rfl,rx1,rx2⟩:=vals2 r2
    obtain ⟨t,rfl⟩:=rx1
    exact ⟨x2,rx2,a,o,t,n,rfl,ho,hc,hd⟩
  have hl:its.length=kvs.length:=by rw [← rv.length]; exact hp.1
  clear hp rv
  induction kvs generalizing its with
  | nil =>
    refine ⟨[],.nil,fun j v hv=>?_⟩
    have:its=[]:=by simpa using hl
    rw [this] at hv; simp at hv
  | cons q kvs ih =>
    cases its with
    | nil=>simp at hl
    | cons u its =>
      obtain ⟨x,rx,hx⟩:=one 0 q u rfl rfl
      obtain ⟨ws,kv,hws⟩:=ih (its:=its) (fun i q' u' h1 h2=>one (i+1) q' u' (by simpa using h1) (by simpa using h2)) (by simpa using hl)
      refine ⟨(q.1,x)::ws,.cons ⟨rfl,rx⟩ kv,fun j v hv=>?_⟩
      cases j with
      | zero =>
        have:u=v:=by simpa using hv
        subst this
        exact ⟨_,rfl,hx⟩
      | succ j =>
        obtain ⟨q',e1,e2⟩:=hws j v (by simpa using hv)
        exact ⟨q',by simpa using e1,e2⟩
theorem KV.enc {kvs:List (Str × V)}{ws:List (Str × Value)} (h:KV kvs ws):KV (encK kvs) (ws.map fun q=>((Sum.inr q.1:Key),q.2)):=by
  induction h with
  | nil=>exact .nil
  | cons h t ih=>exact .cons ⟨congrArg Sum.inr h.1,h.2⟩ ih
def rDictL (K:PySem.W.Frag):List V→Hp→VK→Prop:=fun xs H Q=>∃ p ts kvs,xs=[.ref p]∧SqL K H p ts∧PrsAt K H ts kvs∧(kvs.map (·.1)).Nodup∧kvs.length≤1000∧∀ d,H d=none→Q (.ref d) (upd H d (.dK (encK kvs)))
theorem call_dictL (hc:X.calm=true):CallR X (.type "dict") (rDictL X.K):=by
  intro pins s σ H xs us Q I rx h
  obtain ⟨p,ts,kvs,rfl,hp,hprs,nd,hz,q⟩:=h
  obtain ⟨u,rfl,ru⟩:=vals1 rx
  cases ru
  obtain ⟨its,rv,pl,_⟩:=I.list hp
  obtain ⟨ws,kv,hws⟩:=prs_vals I hprs rv
  have hl:ws.length=kvs.length:=(Paired.length kv).symm
  have hits:its.length=kvs.length:=by rw [← rv.length]; exact hprs.1
  refine call_dict_pairs (kvs:=ws) (I.ok.hd hc) pl (by rw [hl]; simp [hits]) (by omega) (by rw [← kv.keys]; exact nd) (fun j v hv=>hws j v (by simpa using hv)) fun h' tk hk hd=>?_
  have hlo:(s.heap.objs.size == sysModules)=false:=by
    have h0:=I.big
    have h1:s.heap.objs.size≠sysModules:=Nat.ne_of_gt h0
    simpa using h1
  exact ⟨.ref s.heap.objs.size,_,I.laid (t':=tk) (o:=.dK (encK kvs)) hk (Nat.le_refl _) (dk_new (by simp [encK]; rw [sizeLine_eq]; omega) hlo kv.enc hd),rfl,q _ (I.hok.fresh (Nat.le_refl _))⟩
end
end L2
end
section
set_option autoImplicit false
namespace Kn
abbrev S:=List Nat
section
variable {κ α:Type} [DecidableEq κ]
def putA:List (κ × α)→κ→α→List (κ × α)
  | [],k,v=>[(k,v)]
  | (k',v')::r,k,v=>if k'=k then (k',v)::r else (k',v')::putA r k v
def getA:List (κ × α)→κ→Option α
  | [],_=>none
  | (k',v')::r,k=>if k'=k then some v' else getA r k
theorem getA_putA (l:List (κ × α)) (k k':κ) (v:α):getA (putA l k v) k'=if k=k' then some v else getA l k':=by
  induction l with
  | nil=>simp [putA,getA]
  | cons p r ih =>
    obtain ⟨k0,v0⟩:=p
    by_cases h:k0=k
    · subst h
      by_cases h':k0=k' <;> simp [putA,getA,h']
    · simp only [putA,if_neg h,getA,ih]
      by_cases h1:k0=k'
      · subst h1
        rw [if_pos rfl,if_pos rfl,if_neg (fun e=>h e.symm)]
      · rw [if_neg h1,if_neg h1]
theorem putA_keys (l:List (κ × α)) (k:κ) (v:α):(putA l k v).map (·.1)=if k∈l.map (·.1) then l.map (·.1) else l.map (·.1)++[k]:=by
  induction l with
  | nil=>simp [putA]
  | cons p r ih =>
    obtain ⟨k0,v0⟩:=p
    by_cases h:k0=k
    · subst h; simp [putA]
    · have h':¬ k=k0:=fun e=>h e.symm
      simp only [putA,if_neg h,List.map_cons,ih,List.mem_cons,h',false_or]
      split <;> simp
theorem putA_nodup {l:List (κ × α)}{k:κ}{v:α} (h:(l.map (·.1)).Nodup):((putA l k v).map (·.1)).Nodup:=by
  rw [putA_keys]
  split
  · exact h
  · rename_i hk
    exact List.nodup_append.mpr ⟨h,by simp,fun a ha b hb e=>by
      have:b=k:=by simpa using hb
      subst this; subst e; exact hk ha⟩
theorem getA_mem {l:List (κ × α)} (h:(l.map (·.1)).Nodup) (k:κ) (v:α):(k,v)∈l↔getA l k=some v:=by
  induction l with
  | nil=>simp [getA]
  | cons p r ih =>
    obtain ⟨k0,v0⟩:=p
    have h1:k0 ∉ r.map (·.1):=(List.nodup_cons.mp h).1
    have h2:=ih (List.nodup_cons.mp h).2
    by_cases e:k0=k
    · subst e
      have g:getA ((k0,v0)::r) k0=some v0:=by simp [getA]
      rw [g,List.mem_cons]
      constructor
      · rintro (z | z)
        · rw [(Prod.mk.inj z).2]
        · exact absurd (List.mem_map_of_mem (f:=(·.1)) z) h1
      · intro z; rw [Option.some.inj z]; exact .inl rfl
    · simp only [getA,if_neg e,List.mem_cons,Prod.mk.injEq]
      rw [← h2]
      constructor
      · rintro (z | z)
        · exact absurd z.1.symm e
        · exact z
      · intro z; exact .inr z
theorem getA_none {l:List (κ × α)}{k:κ}:getA l k=none↔k ∉ l.map (·.1):=by
  induction l with
  | nil=>simp [getA]
  | cons p r ih =>
    obtain ⟨k0,v0⟩:=p
    by_cases e:k0=k
    · subst e; simp [getA]
    · have e':¬ k=k0:=fun z=>e z.symm
      simp only [getA,if_neg e,ih,List.map_cons,List.mem_cons,e',false_or]
end
def bump (row:List (S × Int)) (l:S):List (S × Int):=putA row l ((getA row l).getD 0+1)
def addP (rows:List (S × List (S × Int))) (p:S × S):List (S × List (S × Int)):=putA rows p.1 (bump ((getA rows p.1).getD []) p.2)
def rowsOf (ps:List (S × S)):List (S × List (S × Int)):=ps.foldl addP []
theorem rowsOf_snoc (ps:List (S × S)) (p:S × S):rowsOf (ps++[p])=addP (rowsOf ps) p:=by
  unfold rowsOf; rw [List.foldl_append]; rfl
def endOf (t:S) (o:Nat):S:=t.drop (t.length - o)
def pairs1 (o:Nat) (nm:S):List (S × S):=(List.range (nm.length+1)).map fun p=>(endOf (nm.take p) o,(nm.drop p).take 1)
def pairsB (o:Nat) (bk:List S):List (S × S):=bk.flatMap (pairs1 o)
structure RowsOk (ps:List (S × S)) (rows:List (S × List (S × Int))):Prop where
  nd:(rows.map (·.1)).Nodup
  ndr:∀ e row,(e,row)∈rows→(row.map (·.1)).Nodup
  val:∀ e l,getA ((getA rows e).getD []) l=if 0 < ps.count (e,l) then some (ps.count (e,l):Int) else none
  has:∀ e,(∃ row,getA rows e=some row)↔∃ l,(e,l)∈ps
theorem rows_ok (ps:List (S × S)):RowsOk ps (rowsOf ps):=by
  suffices h:∀ (qs ps:List (S × S)) rows,RowsOk ps rows→RowsOk (ps++qs) (qs.foldl addP rows) by
    have:=h ps [] [] ⟨by simp,by simp,by simp [getA],by simp [getA]⟩
    simpa [rowsOf] using this
  intro qs
  induction qs with
  | nil=>intro ps rows h; simpa using h
  | cons q qs ih =>
    intro ps rows h
    obtain ⟨e0,l0⟩:=q
    have step:RowsOk (ps++[(e0,l0)]) (addP rows (e0,l0)):=by
      have hrow:((((getA rows e0).getD []).map (·.1))).Nodup:=by
        cases g:getA rows e0 with
        | none=>simp
        | some row=>exact h.ndr e0 row ((getA_mem h.nd e0 row).mpr g)
      refine ⟨putA_nodup h.nd,fun e row hm=>?_,fun e l=>?_,fun e=>?_⟩
      · have hm':=(getA_mem (putA_nodup h.nd) e row).mp hm
        unfold addP at hm'
        rw [getA_putA] at hm'
        split at hm'
        · have:=Option.some.inj hm'
          rw [← this]
          exact putA_nodup hrow
        · exact h.ndr e row ((getA_mem h.nd e row).mpr hm')
      · unfold addP
        rw [getA_putA]
        by_cases he:e0=e
        · subst he
          rw [if_pos rfl]
          show getA (bump ((getA rows e0).getD []) l0) l=_
          unfold bump
          rw [getA_putA,h.val e0 l0]
          by_cases hl:l0=l
          · subst hl
            rw [if_pos rfl,List.count_append]
            have e1:List.count (e0,l0) [(e0,l0)]=1:=by simp
            rw [e1]
            by_cases hc:0 < List.count (e0,l0) ps
            · simp [hc]
            · have:List.count (e0,l0) ps=0:=by omega
              simp [this]
          · rw [if_neg hl,h.val e0 l,List.count_append]
            have e1:List.count (e0,l) [(e0,l0)]=0:=by
              simp [List.count_cons,hl]
            rw [e1,Nat.add_zero]
        · rw [if_neg he]
          rw [h.val e l,List.count_append]
          have e1:List.count (e,l) [(e0,l0)]=0:=by
            simp [List.count_cons,he]
          rw [e1,Nat.add_zero]
      · unfold addP
        rw [getA_putA]
        by_cases he:e0=e
        · subst he
          rw [if_pos rfl]
          exact ⟨fun _=>⟨l0,by simp⟩,fun _=>⟨_,rfl⟩⟩
        · rw [if_neg he,h.has e]
          constructor
          · rintro ⟨l,hl⟩; exact ⟨l,List.mem_append_left _ hl⟩
          · rintro ⟨l,hl⟩
            rcases List.mem_append.mp hl with z | z
            · exact ⟨l,z⟩
            · have:(e,l)=(e0,l0):=by simpa using z
              exact absurd (congrArg Prod.fst this).symm he
    have:=ih (ps++[(e0,l0)]) (addP rows (e0,l0)) step
    simpa using this
def Ris {α:Type} (xs:List (S × α)):Prop:=xs.Pairwise fun a b=>a.1 < b.1
theorem s_irr (a:S):¬ a < a:=List.lt_irrefl a
theorem s_tr {a b c:S} (h1:a < b) (h2:b < c):a < c:=List.lt_trans h1 h2
theorem Ris.keys {α:Type}{xs:List (S × α)} (h:Ris xs):(xs.map (·.1)).Nodup:=by
  unfold Ris at h
  rw [List.Nodup,List.pairwise_map]
  exact h.imp fun {a b} hab (e:a.1=b.1)=>s_irr b.1 (e ▸ hab)
theorem Ris.ext {α:Type}:∀ {xs ys:List (S × α)},Ris xs→Ris ys→(∀ p,p∈xs↔p∈ys)→xs=ys
  | [],[],_,_,_=>rfl
  | [],y::ys,_,_,h=>absurd ((h y).mpr (List.mem_cons_self ..)) (by simp)
  | x::xs,[],_,_,h=>absurd ((h x).mp (List.mem_cons_self ..)) (by simp)
  | x::xs,y::ys,hx,hy,h=>by
    have hx1:=(List.pairwise_cons.mp hx).1
    have hy1:=(List.pairwise_cons.mp hy).1
    have exy:x=y:=by
      rcases List.mem_cons.mp ((h x).mp (List.mem_cons_self ..)) with e | e
      · exact e
      · rcases List.mem_cons.mp ((h y).mpr (List.mem_cons_self ..)) with e' | e'
        · exact e'.symm
        · exact absurd (s_tr (hy1 x e) (hx1 y e')) (s_irr _)
    subst exy
    have:xs=ys:=Ris.ext (List.pairwise_cons.mp hx).2 (List.pairwise_cons.mp hy).2 fun p=>by
      constructor
      · intro hp
        rcases List.mem_cons.mp ((h p).mp (List.mem_cons_of_mem _ hp)) with e | e
        · subst e; exact absurd (hx1 p hp) (s_irr _)
        · exact e
      · intro hp
        rcases List.mem_cons.mp ((h p).mpr (List.mem_cons_of_mem _ hp)) with e | e
        · subst e; exact absurd (hy1 p hp) (s_irr _)
        · exact e
    rw [this]
structure IsRow (ps:List (S × S)) (e:S) (xs:List (S × Int)):Prop where
  ris:Ris xs
  mem:∀ l n,(l,n)∈xs↔n=(ps.count (e,l):Int)∧0 < n
structure IsTable (ps:List (S × S)) (tb:List (S × List (S × Int))):Prop where
  ris:Ris tb
  has:∀ e,(∃ xs,(e,xs)∈tb)↔∃ l,(e,l)∈ps
  row:∀ e xs,(e,xs)∈tb→IsRow ps e xs
theorem sum_counts {β:Type} [BEq β] [LawfulBEq β]:∀ (ps ks:List β),ks.Nodup→(∀ x∈ps,x∈ks)→(ks.map fun k=>(ps.count k:Int)).sum=(ps.length:Int)
  | [],ks,_,_=>by
    have:(ks.map fun k=>(([]:List β).count k:Int))=ks.map fun _=>(0:Int):=by simp
    rw [this]
    induction ks with
    | nil=>rfl
    | cons k r ih=>simp_all
  | x::ps,ks,nd,h=>by
    have ih:=sum_counts ps ks nd fun y hy=>h y (List.mem_cons_of_mem _ hy)
    have no:∀ (ks:List β),x ∉ ks→(ks.map fun k=>((x::ps).count k:Int)).sum=(ks.map fun k=>(ps.count k:Int)).sum:=by
      intro ks
      induction ks with
      | nil=>intro _; rfl
      | cons k r ih =>
        intro hx
        have hx1:¬ x=k:=fun e=>hx (e ▸ List.mem_cons_self ..)
        have hx2:x ∉ r:=fun e=>hx (List.mem_cons_of_mem _ e)
        simp only [List.map_cons,List.sum_cons,ih hx2,List.count_cons_of_ne hx1]
    have one:∀ (ks:List β),ks.Nodup→x∈ks→(ks.map fun k=>((x::ps).count k:Int)).sum=(ks.map fun k=>(ps.count k:Int)).sum+1:=by
      intro ks
      induction ks with
      | nil=>intro _ hx; cases hx
      | cons k r ih =>
        intro nd hx
        have hk:=(List.nodup_cons.mp nd).1
        by_cases e:x=k
        · subst e
          simp only [List.map_cons,List.sum_cons,no r hk,List.count_cons_self]
          omega
        · have hx':x∈r:=(List.mem_cons.mp hx).elim (fun z=>absurd z e) id
          simp only [List.map_cons,List.sum_cons,ih (List.nodup_cons.mp nd).2 hx',List.count_cons_of_ne e]
          omega
    rw [one ks nd (h x (List.mem_cons_self ..)),ih,List.length_cons]
    omega
theorem IsRow.total {ps:List (S × S)}{e:S}{xs:List (S × Int)} (a:IsRow ps e xs):(xs.map (·.2)).sum=((ps.filter fun p=>p.1=e).length:Int):=by
  have h:=sum_counts (ps.filter fun p=>decide (p.1=e)) (xs.map fun p=>(e,p.1)) ?_ ?_
  · rw [← h,List.map_map]
    congr 1
    apply List.map_congr_left
    rintro ⟨l,n⟩ hm
    have:=((a.mem l n).mp hm).1
    show n=(List.count (e,l) (ps.filter fun p=>decide (p.1=e)):Int)
    rw [List.count_filter (by simp)]
    exact this
  · have:=a.ris.keys
    rw [List.Nodup,List.pairwise_map] at this ⊢
    exact this.imp fun {p q} hpq z=>hpq (congrArg Prod.snd z)
  · rintro ⟨e',l⟩ hm
    obtain ⟨h1,h2⟩:=List.mem_filter.mp hm
    have h2':e'=e:=by simpa using h2
    subst h2'
    exact List.mem_map.mpr ⟨(l,(ps.count (e',l):Int)),(a.mem l _).mpr ⟨rfl,by
      have:=List.count_pos_iff.mpr h1
      omega⟩,rfl⟩
theorem IsTable.total {ps:List (S × S)}{tb:List (S × List (S × Int))} (a:IsTable ps tb):(tb.map fun r=>(r.2.map (·.2)).sum).sum=(ps.length:Int):=by
  have h:=sum_counts ps (tb.flatMap fun r=>r.2.map fun p=>(r.1,p.1)) ?_ ?_
  · rw [← h,List.map_flatMap]
    have:∀ (tb:List (S × List (S × Int))),(∀ e xs,(e,xs)∈tb→IsRow ps e xs)→(tb.map fun r=>(r.2.map (·.2)).sum).sum=(tb.flatMap fun r=>(r.2.map fun p=>(r.1,p.1)).map fun k=>(ps.count k:Int)).sum:=by
      intro tb
      induction tb with
      | nil=>intro _; rfl
      | cons r t ih =>
        intro hr
        obtain ⟨e,xs⟩:=r
        rw [List.map_cons,List.sum_cons,List.flatMap_cons,List.sum_append,ih fun e' xs' hm=>hr e' xs' (List.mem_cons_of_mem _ hm)]
        congr 1
        rw [List.map_map]
        congr 1
        apply List.map_congr_left
        rintro ⟨l,n⟩ hm
        exact (((hr e xs (List.mem_cons_self ..)).mem l n).mp hm).1
    exact this tb a.row
  · have:∀ (tb:List (S × List (S × Int))),Ris tb→(∀ e xs,(e,xs)∈tb→IsRow ps e xs)→(tb.flatMap fun r=>r.2.map fun p=>(r.1,p.1)).Nodup:=by
      intro tb
      induction tb with
      | nil=>intro _ _; simp
      | cons r t ih =>
        intro hr hrow
        obtain ⟨e,xs⟩:=r
        rw [List.flatMap_cons]
        refine List.nodup_append.mpr ⟨?_,ih (List.pairwise_cons.mp hr).2 fun e' xs' hm=>hrow e' xs' (List.mem_cons_of_mem _ hm),?_⟩
        · have:=(hrow e xs (List.mem_cons_self ..)).ris.keys
          rw [List.Nodup,List.pairwise_map] at this ⊢
          exact this.imp fun {p q} hpq z=>hpq (congrArg Prod.snd z)
        · intro p hp q hq epq
          obtain ⟨z,_,rfl⟩:=List.mem_map.mp hp
          obtain ⟨r',hr',hz'⟩:=List.mem_flatMap.mp hq
          obtain ⟨z',_,e2⟩:=List.mem_map.mp hz'
          have:e=r'.1:=by
            have:=congrArg Prod.fst (epq.trans e2.symm)
            exact this
          have hlt:=(List.pairwise_cons.mp hr).1 r' hr'
          exact s_irr _ (this ▸ hlt)
    exact this tb a.ris a.row
  · rintro ⟨e,l⟩ hm
    obtain ⟨xs,hx⟩:=(a.has e).mpr ⟨l,hm⟩
    refine List.mem_flatMap.mpr ⟨(e,xs),hx,List.mem_map.mpr ⟨(l,(ps.count (e,l):Int)),((a.row e xs hx).mem l _).mpr ⟨rfl,?_⟩,rfl⟩⟩
    have:=List.count_pos_iff.mpr hm
    omega
theorem pairsB_append (o:Nat) (a b:List S):pairsB o (a++b)=pairsB o a++pairsB o b:=by
  unfold pairsB; rw [List.flatMap_append]
theorem pairsB_length (o:Nat) (a:List S):((pairsB o a).length:Int)=(a.map fun x=>(x.length:Int)+1).sum:=by
  induction a with
  | nil=>rfl
  | cons x r ih =>
    have e1:pairsB o (x::r)=pairs1 o x++pairsB o r:=rfl
    rw [e1,List.length_append,List.map_cons,List.sum_cons,← ih]
    simp [pairs1]
end Kn
end
section
set_option autoImplicit false
namespace Kn
structure Fq (q:Int × Int):Prop where
  up:0≤q.1
  dn:0 < q.2
  co:Int.gcd q.1 q.2=1
theorem Fq.ext {p q:Int × Int} (a:Fq p) (b:Fq q) (h:p.1 * q.2=q.1 * p.2):p=q:=by
  obtain ⟨p1,p2⟩:=p
  obtain ⟨q1,q2⟩:=q
  obtain ⟨a1,a2,a3⟩:=a
  obtain ⟨b1,b2,b3⟩:=b
  dsimp only at *
  obtain ⟨x,rfl⟩:=Int.eq_ofNat_of_zero_le a1
  obtain ⟨y,rfl⟩:=Int.eq_ofNat_of_zero_le (Int.le_of_lt a2)
  obtain ⟨z,rfl⟩:=Int.eq_ofNat_of_zero_le b1
  obtain ⟨w,rfl⟩:=Int.eq_ofNat_of_zero_le (Int.le_of_lt b2)
  have h':x * w=z * y:=by exact_mod_cast h
  have a3':Nat.gcd x y=1:=by simpa [Int.gcd] using a3
  have b3':Nat.gcd z w=1:=by simpa [Int.gcd] using b3
  have hy:0 < y:=by omega
  have hw:0 < w:=by omega
  have d1:y ∣ w:=Nat.Coprime.dvd_of_dvd_mul_left (m:=x) (by rw [Nat.Coprime,Nat.gcd_comm]; exact a3') (by rw [h']; exact Nat.dvd_mul_left ..)
  have d2:w ∣ y:=Nat.Coprime.dvd_of_dvd_mul_left (m:=z) (by rw [Nat.Coprime,Nat.gcd_comm]; exact b3') (by rw [← h']; exact Nat.dvd_mul_left ..)
  have e:y=w:=Nat.dvd_antisymm d1 d2
  subst e
  have:x=z:=Nat.eq_of_mul_eq_mul_right hy h'
  rw [this]
end Kn
end
section
set_option autoImplicit false
namespace Kn
def tot (ps:List (S × S)) (e:S):Nat:=(ps.filter fun p=>p.1=e).length
theorem s_tri (a b:S) (h1:¬ a < b) (h2:¬ b < a):a=b:=List.le_antisymm (List.not_lt.mp h2) (List.not_lt.mp h1)
end Kn
end
section
namespace Kn
open PySem L2
def Cal (P:Program) (w:World) (K:PySem.W.Frag) (mg:Str→Option Value) (base:Heap) (k:Nat) (x:Str) (ps:List Str) (sp:Sp):Prop :=
  ∃ (f:Addr) (fd:FuncData),FnOk P w K mg base CX0 k f fd ps sp∧mg x=some (.ref f)∧PySem.W.keepIn K (.ref f)=true∧Binds K fd ps []
theorem pe_cal {X:Cx}{k:Nat}{x:Str}{ps:List Str}{sp:Sp}{p pos:Pos}{e:Expr}{es:List Expr}{t:TA} (C:Cal X.prog X.w X.K X.mg X.base k x ps sp) (hr:Room k X.A) (hg:Gl X x) (ha:PA X (e::es) t)
    (hs:starEach (e::es) X.env=(false,eval e X.env)::starEach es X.env:=by rfl) (hplain:(backTo pos (starEach es X.env)).any (·.1)=false:=by rfl)
    (hdb:(x == ("__debug__" : Str))=false:=by decide):PE X (.Call (.Name x p) (e::es) [] pos) (tCall sp [] E0 t):=by
  obtain ⟨f,fd,G,hm,kp,b⟩:=C
  exact pe_call G hr hg hm kp b .nil pass0 ha hdb hs hplain
abbrev tx (x:S):Str:=⟨x.toArray⟩
abbrev sv (x:S):V:=.str (tx x)
theorem tx_cps (x:S):(tx x).cps.toList=x:=by simp [tx]
theorem tx_len (x:S):(tx x).length=x.length:=by simp [tx,Str.length]
theorem range_item {n i:Nat}{x:V} (h:((List.range n).map fun (i:Nat)=>V.int (0+(i:Int)))[i]?=some x):i < n∧x=.int i:=by
  have hi:i < n:=by
    have:=(List.getElem?_eq_some_iff.mp h).1
    simpa using this
  refine ⟨hi,?_⟩
  rw [List.getElem?_map,List.getElem?_range hi] at h
  have:=Option.some.inj h
  rw [← this]
  show V.int (0+(i:Int))=V.int i
  rw [Int.zero_add]
theorem ys1 {ys:St} (h:ys.length=1):∃ y,ys=[y]:=by
  match ys,h with
  | [y],_=>exact ⟨y,rfl⟩
theorem ys2 {ys:St} (h:ys.length=2):∃ y z,ys=[y,z]:=by
  match ys,h with
  | [y,z],_=>exact ⟨y,z,rfl⟩
theorem ys3 {ys:St} (h:ys.length=3):∃ y z u,ys=[y,z,u]:=by
  match ys,h with
  | [y,z,u],_=>exact ⟨y,z,u,rfl⟩
structure Blt (mg:Str→Option Value):Prop where
  len:mg "len" = none
  range:mg "range" = none
  all:mg "all" = none
  isinstance:mg "isinstance" = none
  str:mg "str" = none
  tuple:mg "tuple" = none
  int:mg "int" = none
  bool:mg "bool" = none
  sorted:mg "sorted" = none
  sum:mg "sum" = none
  min:mg "min" = none
section
variable {P:Program}{w:World}{K:PySem.W.Frag}{mg:Str→Option Value}{base:Heap}
theorem cut_end (t:S) (o:Nat) (ho:1≤o):cutS (tx t) (some (-(o:Int))) none=tx (endOf t o):=by
  unfold cutS
  rw [tx_len,tx_cps]
  have e1:HT.sIx t.length 0 (some (-(o:Int)))=t.length - o:=by
    show (if -(o:Int) < 0 then (-(o:Int)+(t.length:Int)).toNat else _)=_
    rw [if_pos (by omega)]; omega
  have e2:HT.sIx t.length t.length none=t.length:=rfl
  rw [e1,e2]
  unfold endOf
  rw [List.take_of_length_le (by rw [List.length_drop]; omega)]
theorem cut_to (t:S) (p:Nat):cutS (tx t) none (some (p:Int))=tx (t.take p):=by
  unfold cutS
  rw [tx_len,tx_cps,HT.sIx_nat]
  show tx ((t.drop 0).take (min p t.length - 0))=_
  rw [List.drop_zero,Nat.sub_zero,← List.take_eq_take_min]
theorem cut_one (t:S) (p:Nat):cutS (tx t) (some (p:Int)) (some ((p:Int)+1))=tx ((t.drop p).take 1):=by
  unfold cutS
  rw [tx_len,tx_cps,HT.sIx_nat,show ((p:Int)+1)=((p+1:Nat):Int) from rfl,HT.sIx_nat]
  congr 1
  by_cases h:p < t.length
  · have e1:min p t.length=p:=by omega
    have e2:min (p+1) t.length - p=1:=by omega
    rw [e1,e2]
  · have e1:min p t.length=t.length:=by omega
    rw [e1,List.drop_of_length_le (Nat.le_refl _),List.drop_of_length_le (by omega)]
    simp
def spEnd:Sp:=fun vs H Q _=>∃ (t:S) (o:Nat),vs=[sv t,.int o]∧1≤o∧t.length≤64∧Q (sv (endOf t o)) H
abbrev sEnd:Stmt:=top 22
theorem scEnd:FnScope ["text", "order"] ["text", "order"] (defScope sEnd):=⟨rfl,rfl,rfl,by decide +kernel,rfl,by decide +kernel,by decide +kernel⟩
theorem ok_end {f:Addr}{fd:FuncData} (F:Fun K "end_of" "end_of" sEnd f fd):FnOk P w K mg base CX0 1 f fd ["text", "order"] spEnd:=by
  refine F.ok scEnd (fun vs H Q E h=>?_) (fun cdv A outer s H vs Q E hr h=>?_)
  · obtain ⟨t,o,rfl,_⟩:=h; rfl
  · obtain ⟨t,o,rfl,ho,hl,k⟩:=h
    refine ⟨_,pss_one (ps_ret (pe_sliceS (pv 0) (po_some (pe_un un_neg (pv 1))) po_none)),?_⟩
    refine ⟨_,rfl,_,rfl,_,rfl,_,rfl,_,rfl,?_,?_⟩
    · rw [tx_len,sizeLine_eq]; omega
    · rw [cut_end t o ho]; exact k
def pr (o:Nat) (t:S) (p:Nat):S × S:=(endOf (t.take p) o,(t.drop p).take 1)
def elD (p:S × S):PyData:=.tuple [.str (tx p.1),.str (tx p.2)]
def spEnds (K:PySem.W.Frag):Sp:=fun vs H Q _=>∃ (t:S) (o:Nat),vs=[sv t,.int o]∧1≤o∧t.length≤64∧∀ a xs H',Same H H'→H a=none→H' a=some (.lst xs)→Reps K H' ((pairs1 o t).map elD) xs→Q (.ref a) H'
abbrev sEnds:Stmt:=top 23
theorem scEnds:FnScope ["name", "order"] ["name", "order"] (defScope sEnds):=⟨rfl,rfl,rfl,by decide +kernel,rfl,by decide +kernel,by decide +kernel⟩
theorem ndEnds:(["name", "order", "place"]:List Str).Nodup:=by decide +kernel
theorem ok_ends {f:Addr}{fd:FuncData} (F:Fun K "ends_and_letters" "ends_and_letters" sEnds f fd) (B:Blt mg) (cEnd:Cal P w K mg base 1 "end_of" ["text", "order"] spEnd):FnOk P w K mg base CX0 2 f fd ["name", "order"] (spEnds K):=by
  refine F.ok scEnds (fun vs H Q E h=>?_) (fun cdv A outer s H vs Q E hr h=>?_)
  · obtain ⟨t,o,rfl,_⟩:=h; rfl
  · obtain ⟨t,o,rfl,ho,hl,k⟩:=h
    refine ⟨_,pss_one (ps_ret (pe_comp (N:=["name", "order", "place"]) (caps:=[0,1]) rfl (compScope_of (by kernel_rfl))
      (pi_range1 rfl B.range (pa_cons (pe_op op_add (pe_callB call_len_str (by rfl) B.len PySem.boot_len (pa_cons (pv 0) pa_nil)) pe_int) pa_nil))
      (fun cl C s H ex=>pg_name (i:=2) ndEnds rfl (Or.inl rfl))
      (fun cl C s H ex=>pf_nil)
      (fun cl C s H ex=>pe_tup (pa_cons (pe_cal cEnd hr rfl (pa_cons (pe_sliceS (pv 0) po_none (po_some (pv 2))) (pa_cons (pv 1) pa_nil)))
        (pa_cons (pe_sliceS (pv 0) (po_some (pv 2)) (po_some (pe_op op_add (pv 2) pe_int))) pa_nil))))),?_⟩
    refine ⟨_,rfl,_,rfl,?_,_,_,rfl,rfl,_,rfl,?_,?_,?_⟩
    · rw [tx_len,sizeLine_eq]; omega
    · rw [tx_len]; omega
    · rw [tx_len]; omega
    have hn:((tx t).length:Int)+1=((t.length+1:Nat):Int):=by rw [tx_len]; rfl
    have hnn:(((tx t).length:Int)+1).toNat=t.length+1:=by rw [hn]; rfl
    refine comp_known0 (known_range 0 _) [some (sv t),some (.int o)] 1 (by rw [List.length_map,List.length_range,hnn]; omega) (fun i acc H'=>Same H H'∧acc.length=i∧Reps K H' (((List.range i).map (pr o t)).map elD) acc)
      ⟨Same.refl H,rfl,rfl⟩ (fun i acc H' _ h=>⟨trivial,Nat.le_of_eq h.2.1⟩) ?_ ?_
    · rintro i x acc H' ys Nx hN hx hy ⟨sm,hal,rp⟩
      obtain ⟨y,rfl⟩:=ys1 hy
      rw [hnn] at hx
      obtain ⟨hi,rfl⟩:=range_item hx
      refine ⟨_,rfl,_,rfl,_,rfl,_,rfl,(by rw [tx_len,sizeLine_eq]; omega),_,rfl,t.take i,o,(by rw [cut_to]; rfl),ho,(by rw [List.length_take]; omega),?_⟩
      refine ⟨_,rfl,_,rfl,_,rfl,_,rfl,_,_,rfl,rfl,_,rfl,_,rfl,(by rw [tx_len,sizeLine_eq]; omega),?_⟩
      refine ⟨by show 2≤sizeLine; decide,fun p hp=>hN _ _ [some (.int i)] rfl ⟨sm.upd_new (sm.free hp),by rw [List.length_append,hal]; rfl,?_⟩⟩
      rw [List.range_succ,List.map_append,List.map_append]
      refine Reps.append (Reps.same (Same.upd1 hp) _ _ rp) (Reps.one ⟨p,_,rfl,.of upd_same,?_⟩)
      rw [cut_one]
      exact ⟨_,_,rfl,rfl,_,_,rfl,rfl,rfl⟩
    · rintro acc H' ⟨sm,hal,rp⟩ D hD
      refine k D acc _ (sm.upd_new (sm.free hD)) (sm.free hD) upd_same (Reps.same (Same.upd1 hD) _ _ ?_)
      rw [List.length_map,List.length_range,hnn] at rp
      exact rp
def isNm (x:S):Prop:=1≤x.length∧x.length≤8∧∀ c∈x,97≤c∧c≤122
def letters:Str:=⟨#[97,98,99,100,101,102,103,104,105,106,107,108,109,110,111,112,113,114,115,116,117,118,119,120,121,122]⟩
structure Cst (K:PySem.W.Frag) (mg:Str→Option Value):Prop where
  letters:∃ t,mg "LETTERS" = some (.str letters t)
  ml:∃ t,mg "MOST_LETTERS" = some (.int 8 t)
  mn:∃ t,mg "MOST_NAMES" = some (.int 8 t)
  mo:∃ t,mg "MOST_ORDER" = some (.int 3 t)
  ib:PySem.W.kitOne K (.type "int") (.type "bool")=some false
abbrev sIsName:Stmt:=top 14
theorem scIsName:FnScope ["thing"] ["thing"] (defScope sIsName):=⟨rfl,rfl,rfl,by decide +kernel,rfl,by decide +kernel,by decide +kernel⟩
theorem nd1:(["letter"]:List Str).Nodup:=by decide +kernel
def bkV (bk:List S):List V:=bk.map sv
structure isBk (bk:List S):Prop where
  lo:1≤bk.length
  hi:bk.length≤8
  nm:∀ x∈bk,isNm x
abbrev sIsBook:Stmt:=top 15
theorem scIsBook:FnScope ["thing"] ["thing"] (defScope sIsBook):=⟨rfl,rfl,rfl,by decide +kernel,rfl,by decide +kernel,by decide +kernel⟩
theorem nd2:(["name"]:List Str).Nodup:=by decide +kernel
abbrev sIsWhole:Stmt:=top 16
theorem scIsWhole:FnScope ["thing", "least", "most"] ["thing", "least", "most"] (defScope sIsWhole):=⟨rfl,rfl,rfl,by decide +kernel,rfl,by decide +kernel,by decide +kernel⟩
abbrev sIsOrder:Stmt:=top 17
theorem scIsOrder:FnScope ["thing"] ["thing"] (defScope sIsOrder):=⟨rfl,rfl,rfl,by decide +kernel,rfl,by decide +kernel,by decide +kernel⟩
abbrev sNeedBook:Stmt:=top 19
theorem scNeedBook:FnScope ["thing"] ["thing"] (defScope sNeedBook):=⟨rfl,rfl,rfl,by decide +kernel,rfl,by decide +kernel,by decide +kernel⟩
abbrev sNeedOrder:Stmt:=top 20
theorem scNeedOrder:FnScope ["thing"] ["thing"] (defScope sNeedOrder):=⟨rfl,rfl,rfl,by decide +kernel,rfl,by decide +kernel,by decide +kernel⟩
abbrev sNeedName:Stmt:=top 21
theorem scNeedName:FnScope ["thing"] ["thing"] (defScope sNeedName):=⟨rfl,rfl,rfl,by decide +kernel,rfl,by decide +kernel,by decide +kernel⟩
end
end Kn
end
section
namespace Kn
open PySem L2
theorem tx_inj {a b:S} (h:tx a=tx b):a=b:=by
  have:=congrArg (fun z:Str=>z.cps.toList) h
  simpa [tx] using this
section
variable {α:Type}
def encD (f:α→V) (l:List (S × α)):List (Key × V):=encK (l.map fun p=>(tx p.1,f p.2))
theorem encD_cons (f:α→V) (p:S × α) (l:List (S × α)):encD f (p::l)=((Sum.inr (tx p.1):Key),f p.2)::encD f l:=rfl
theorem encD_len (f:α→V) (l:List (S × α)):(encD f l).length=l.length:=by simp [encD,encK]
theorem key_eq {a b:S}:((Sum.inr (tx a):Key)=Sum.inr (tx b))↔a=b:=⟨fun h=>tx_inj (Sum.inr.inj h),fun h=>by rw [h]⟩
theorem val_enc (f:α→V) (l:List (S × α)) (k:S):valV (encD f l) (Sum.inr (tx k))=(getA l k).map f:=by
  induction l with
  | nil=>rfl
  | cons p r ih =>
    rw [encD_cons]
    by_cases e:p.1=k
    · rw [valV_pos (key_eq.mpr e)]
      obtain ⟨a,b⟩:=p
      have e':a=k:=e
      subst e'
      simp [getA]
    · rw [valV_neg (fun z=>e (key_eq.mp z)),ih]
      obtain ⟨a,b⟩:=p
      have e':¬ a=k:=e
      simp [getA,e']
theorem any_enc (f:α→V) (l:List (S × α)) (k:S):((encD f l).any fun kv=>decide (kv.1=(Sum.inr (tx k):Key)))=decide (k∈l.map (·.1)):=by
  induction l with
  | nil=>rfl
  | cons p r ih =>
    rw [encD_cons,List.any_cons,ih]
    by_cases e:p.1=k
    · have:decide ((Sum.inr (tx p.1):Key)=Sum.inr (tx k))=true:=decide_eq_true (key_eq.mpr e)
      rw [this,Bool.true_or]
      exact (decide_eq_true (by rw [← e]; exact List.mem_cons_self ..)).symm
    · have:decide ((Sum.inr (tx p.1):Key)=Sum.inr (tx k))=false:=decide_eq_false (fun z=>e (key_eq.mp z))
      rw [this,Bool.false_or]
      congr 1
      have e':¬ k=p.1:=fun z=>e z.symm
      simp [e']
theorem put_enc (f:α→V) (l:List (S × α)) (k:S) (v:α) (nd:(l.map (·.1)).Nodup):putK (encD f l) (Sum.inr (tx k)) (f v)=encD f (putA l k v):=by
  unfold putK
  rw [any_enc]
  by_cases hk:k∈l.map (·.1)
  · rw [if_pos (decide_eq_true hk)]
    induction l with
    | nil=>cases hk
    | cons p r ih =>
      obtain ⟨a,b⟩:=p
      have nd':=List.nodup_cons.mp nd
      rw [encD_cons,List.map_cons]
      by_cases e:a=k
      · subst e
        have e1:putA ((a,b)::r) a v=(a,v)::r:=by simp [putA]
        rw [e1,encD_cons]
        congr 1
        · simp
        · have:∀ q∈encD f r,(if q.1=(Sum.inr (tx a):Key) then (q.1,f v) else q)=q:=fun q hq=>by
            rw [if_neg]
            intro z
            obtain ⟨s,hs,e2⟩:=List.mem_map.mp hq
            obtain ⟨s',hs',e3⟩:=List.mem_map.mp hs
            have:s.1=tx s'.1:=by rw [← e3]
            have h4:q.1=(Sum.inr (tx s'.1):Key):=by rw [← e2,this]
            rw [h4] at z
            exact nd'.1 (List.mem_map.mpr ⟨s',hs',key_eq.mp z⟩)
          have h5:=List.map_congr_left this
          rw [h5]; simp
      · have e1:putA ((a,b)::r) k v=(a,b)::putA r k v:=by simp [putA,e]
        rw [e1,encD_cons]
        congr 1
        · rw [if_neg (fun z=>e (key_eq.mp z))]
        · exact ih nd'.2 (by
            rcases List.mem_cons.mp hk with z | z
            · exact absurd z.symm e
            · exact z)
  · rw [if_neg (by simpa using hk)]
    clear nd
    induction l with
    | nil=>rfl
    | cons p r ih =>
      obtain ⟨a,b⟩:=p
      have e:¬ a=k:=fun z=>hk (by rw [← z]; exact List.mem_cons_self ..)
      have e1:putA ((a,b)::r) k v=(a,b)::putA r k v:=by simp [putA,e]
      rw [e1,encD_cons,encD_cons,List.cons_append,ih fun z=>hk (List.mem_cons_of_mem _ z)]
theorem putA_len {β:Type} (l:List (S × β)) (k:S) (v:β):(putA l k v).length≤l.length+1:=by
  induction l with
  | nil=>simp [putA]
  | cons p r ih =>
    obtain ⟨a,b⟩:=p
    by_cases e:a=k
    · simp [putA,e]
    · simp [putA,e]; omega
theorem putA_map {β γ:Type} (g:β→γ) (l:List (S × β)) (k:S) (v:β):(putA l k v).map (fun p=>(p.1,g p.2))=putA (l.map fun p=>(p.1,g p.2)) k (g v):=by
  induction l with
  | nil=>rfl
  | cons p r ih =>
    obtain ⟨a,b⟩:=p
    by_cases e:a=k
    · simp [putA,e]
    · simp [putA,e,ih]
theorem getA_map {β γ:Type} (g:β→γ) (l:List (S × β)) (k:S):getA (l.map fun p=>(p.1,g p.2)) k=(getA l k).map g:=by
  induction l with
  | nil=>rfl
  | cons p r ih =>
    obtain ⟨a,b⟩:=p
    by_cases e:a=k
    · simp [getA,e]
    · simp [getA,e,ih]
theorem putA_mem {β:Type}{l:List (S × β)}{k:S}{v:β}{q:S × β} (h:q∈putA l k v):q=(k,v)∨(q∈l∧(q.1≠k∨(l.map (·.1)).Nodup→q.1≠k)):=by
  induction l with
  | nil=>simp [putA] at h; exact .inl h
  | cons p r ih =>
    obtain ⟨a,b⟩:=p
    by_cases e:a=k
    · subst e
      have e1:putA ((a,b)::r) a v=(a,v)::r:=by simp [putA]
      rw [e1] at h
      rcases List.mem_cons.mp h with z | z
      · exact .inl z
      · refine .inr ⟨List.mem_cons_of_mem _ z,?_⟩
        rintro (w | w)
        · exact w
        · intro e2
          exact (List.nodup_cons.mp w).1 (by rw [← e2]; exact List.mem_map_of_mem (f:=(·.1)) z)
    · have e1:putA ((a,b)::r) k v=(a,b)::putA r k v:=by simp [putA,e]
      rw [e1] at h
      rcases List.mem_cons.mp h with z | z
      · subst z
        exact .inr ⟨List.mem_cons_self ..,fun _=>e⟩
      · rcases ih z with w | ⟨w1,w2⟩
        · exact .inl w
        · refine .inr ⟨List.mem_cons_of_mem _ w1,?_⟩
          rintro (u | u)
          · exact u
          · exact w2 (.inr (List.nodup_cons.mp u).2)
theorem putA_new {β:Type} (l:List (S × β)) (k:S) (v:β) (h:k ∉ l.map (·.1)):putA l k v=l++[(k,v)]:=by
  induction l with
  | nil=>rfl
  | cons q r ih =>
    obtain ⟨a,b⟩:=q
    have e:¬ a=k:=fun z=>h (by rw [← z]; exact List.mem_cons_self ..)
    have e1:putA ((a,b)::r) k v=(a,b)::putA r k v:=by simp [putA,e]
    rw [e1,ih fun z=>h (List.mem_cons_of_mem _ z)]; rfl
theorem putA_same {β γ:Type} (g:β→γ) (l:List (S × β)) (k:S) (v u:β) (h:getA l k=some u) (e:g v=g u):(putA l k v).map (fun p=>(p.1,g p.2))=l.map fun p=>(p.1,g p.2):=by
  induction l with
  | nil=>cases h
  | cons p r ih =>
    obtain ⟨a,b⟩:=p
    by_cases ea:a=k
    · have:b=u:=by simpa [getA,ea] using h
      subst this
      simp [putA,ea,e]
    · have h':getA r k=some u:=by simpa [getA,ea] using h
      simp [putA,ea,ih h']
theorem rows_len (ps:List (S × S)):(rowsOf ps).length≤ps.length∧∀ r∈rowsOf ps,r.2.length≤ps.length:=by
  have key:∀ (qs:List (S × S)) (rows:List (S × List (S × Int))) (n:Nat),(rows.length≤n∧∀ r∈rows,r.2.length≤n)→(qs.foldl addP rows).length≤n+qs.length∧∀ r∈qs.foldl addP rows,r.2.length≤n+qs.length:=by
    intro qs
    induction qs with
    | nil=>intro rows n h; simpa using h
    | cons q qs ih =>
      intro rows n h
      have:=ih (addP rows q) (n+1) ⟨?_,fun r hr=>?_⟩
      · rw [List.foldl_cons,List.length_cons]
        have e:n+(qs.length+1)=n+1+qs.length:=by omega
        rw [e]; exact this
      · have:=putA_len rows q.1 (bump ((getA rows q.1).getD []) q.2)
        unfold addP; omega
      · rcases putA_mem hr with e | ⟨e,_⟩
        · rw [e]
          have h1:=putA_len ((getA rows q.1).getD []) q.2 ((getA ((getA rows q.1).getD []) q.2).getD 0+1)
          have h2:((getA rows q.1).getD []).length≤n:=by
            cases g:getA rows q.1 with
            | none=>simp
            | some row =>
              have hm:(q.1,row)∈rows:=by
                clear h hr e h1
                induction rows with
                | nil=>cases g
                | cons p r ih2 =>
                  obtain ⟨a,b⟩:=p
                  by_cases ea:a=q.1
                  · have:b=row:=by simpa [getA,ea] using g
                    subst this; subst ea
                    exact List.mem_cons_self ..
                  · exact List.mem_cons_of_mem _ (ih2 (by simpa [getA,ea] using g))
              exact h.2 _ hm
          show (bump _ _).length≤_
          unfold bump; omega
        · have:=h.2 r e; omega
  have:=key ps [] 0 ⟨Nat.le_refl _,by simp⟩
  simpa [rowsOf] using this
end
abbrev rowV (row:List (S × Int)):List (Key × V):=encD V.int row
structure RA (H0 H:Hp) (d:Addr) (ps:List (S × S)) (ra:List (S × Addr × List (S × Int))):Prop where
  rows:ra.map (fun r=>(r.1,r.2.2))=rowsOf ps
  top:H d=some (.dK (encD (fun v:Addr × List (S × Int)=>V.ref v.1) ra))
  row:∀ r∈ra,H r.2.1=some (.dK (rowV r.2.2))
  new:∀ r∈ra,H0 r.2.1=none∧r.2.1≠d
  nda:(ra.map fun r=>r.2.1).Nodup
def RowsAt (H:Hp) (d:Addr) (ps:List (S × S)):Prop:=∃ ra:List (S × Addr × List (S × Int)),ra.map (fun r=>(r.1,r.2.2))=rowsOf ps∧H d=some (.dK (encD (fun v:Addr × List (S × Int)=>V.ref v.1) ra))∧∀ r∈ra,H r.2.1=some (.dK (rowV r.2.2))
section
variable {P:Program}{w:World}{K:PySem.W.Frag}{mg:Str→Option Value}{base:Heap}
def spRows:Sp:=fun vs H Q _=>∃ (a:Addr) (bk:List S) (o:Nat),vs=[.ref a,.int o]∧H a=some (.tup (bkV bk))∧bk.length≤8∧(∀ x∈bk,x.length≤8)∧1≤o∧∀ d H',Same H H'→H d=none→RowsAt H' d (pairsB o bk)→Q (.ref d) H'
abbrev sRows:Stmt:=top 24
theorem scRows:FnScope ["book", "order", "rows", "name", "end", "letter", "row"] ["book", "order"] (defScope sRows):=⟨rfl,rfl,rfl,by decide +kernel,rfl,by decide +kernel,by decide +kernel⟩
theorem keys_nd {H0 H:Hp}{d:Addr}{ps:List (S × S)}{ra:List (S × Addr × List (S × Int))} (R:RA H0 H d ps ra):(ra.map (·.1)).Nodup:=by
  have h:=(rows_ok ps).nd
  rw [← R.rows,List.map_map] at h
  exact h
theorem RA.step {H0 H H2:Hp}{d ad:Addr}{ps:List (S × S)}{ra:List (S × Addr × List (S × Int))} (R:RA H0 H d ps ra) (p:S × S) (row:List (S × Int)) (hrow:row=((getA ra p.1).map (·.2)).getD [])
    (had:∀ v,getA ra p.1=some v→v.1=ad) (hnew:getA ra p.1=none→H0 ad=none∧ad≠d∧ad ∉ ra.map fun r=>r.2.1)
    (h1:H2 ad=some (.dK (rowV (bump row p.2)))) (h2:H2 d=some (.dK (encD (fun v:Addr × List (S × Int)=>V.ref v.1) (putA ra p.1 (ad,bump row p.2))))) (h3:∀ r∈ra,r.2.1≠ad→H2 r.2.1=some (.dK (rowV r.2.2))) :
    RA H0 H2 d (ps++[p]) (putA ra p.1 (ad,bump row p.2)):=by
  have nd:=keys_nd R
  have isin:∀ v,getA ra p.1=some v→(p.1,v)∈ra:=fun v hv=>(getA_mem nd p.1 v).mpr hv
  have adr:∀ r∈ra,r.1≠p.1→r.2.1≠ad:=fun r hr hne e=>by
    cases g:getA ra p.1 with
    | none=>exact (hnew g).2.2 (List.mem_map.mpr ⟨r,hr,e⟩)
    | some v =>
      have hv:=isin v g
      have ev:=had v g
      have:r=(p.1,v):=by
        obtain ⟨i,hi,ei⟩:=List.getElem_of_mem hr
        obtain ⟨j,hj,ej⟩:=List.getElem_of_mem hv
        have hij:i=j:=by
          refine (List.getElem_inj (xs:=ra.map fun r=>r.2.1) (h₀:=by simpa using hi) (h₁:=by simpa using hj) R.nda).mp ?_
          rw [List.getElem_map,List.getElem_map,ei,ej]
          show r.2.1=v.1
          rw [e,ev]
        subst hij
        rw [← ei,← ej]
      exact hne (by rw [this])
  refine ⟨?_,h2,fun r hr=>?_,fun r hr=>?_,?_⟩
  · rw [rowsOf_snoc,← R.rows]
    unfold addP
    have e:=putA_map (fun v:Addr × List (S × Int)=>v.2) ra p.1 (ad,bump row p.2)
    rw [e]
    have e2:=getA_map (fun v:Addr × List (S × Int)=>v.2) ra p.1
    rw [e2,← hrow]
  · rcases putA_mem hr with e | ⟨e,e'⟩
    · rw [e]; exact h1
    · exact h3 r e (adr r e (e' (.inr nd)))
  · rcases putA_mem hr with e | ⟨e,_⟩
    · rw [e]
      cases g:getA ra p.1 with
      | none=>exact ⟨(hnew g).1,(hnew g).2.1⟩
      | some v =>
        have:=R.new _ (isin v g)
        rw [← had v g]; exact this
    · exact R.new r e
  · cases g:getA ra p.1 with
    | none =>
      have hk:p.1 ∉ ra.map (·.1):=getA_none.mp g
      have e:=putA_new ra p.1 (ad,bump row p.2) hk
      rw [e,List.map_append]
      refine List.nodup_append.mpr ⟨R.nda,by simp,fun a ha b hb e2=>?_⟩
      have:b=ad:=by simpa using hb
      exact (hnew g).2.2 (by rw [← this,← e2]; exact ha)
    | some v =>
      have e:=putA_same (fun v:Addr × List (S × Int)=>v.1) ra p.1 (ad,bump row p.2) v g (had v g).symm
      have e2:(putA ra p.1 (ad,bump row p.2)).map (fun r=>r.2.1)=ra.map fun r=>r.2.1:=by
        have:=congrArg (List.map Prod.snd) e
        rw [List.map_map,List.map_map] at this
        exact this
      rw [e2]; exact R.nda
def SameQ (H H':Hp):Prop:=∀ b o,H b=some o→(∀ kvs,o≠.dK kvs)→H' b=some o
theorem SameQ.upd {H:Hp}{a:Addr}{kvs:List (Key × V)}{u:HO} (h:H a=some (.dK kvs)):SameQ H (upd H a u):=fun b o e hn=>by
  rw [upd_ne]
  · exact e
  · rintro rfl; rw [h] at e; exact hn kvs (Option.some.inj e).symm
theorem SameQ.sqL {H H':Hp} (e:SameQ H H') {a:Addr}{xs:List V} (h:SqL K H a xs):SqL K H' a xs:=by
  rcases h with (h | ⟨o,h⟩) | h
  · exact .inl (.inl (e _ _ h (by intro z w; cases w)))
  · exact .inl (.inr ⟨o,e _ _ h (by intro z w; cases w)⟩)
  · exact .inr h
theorem SameQ.sqT {H H':Hp} (e:SameQ H H') {a:Addr}{xs:List V} (h:SqT K H a xs):SqT K H' a xs:=by
  rcases h with (h | ⟨o,h⟩) | h
  · exact .inl (.inl (e _ _ h (by intro z w; cases w)))
  · exact .inl (.inr ⟨o,e _ _ h (by intro z w; cases w)⟩)
  · exact .inr h
mutual
theorem Rep.sameQ {H H':Hp} (e:SameQ H H'):∀ (d:PyData) (v:V),Rep K H d v→Rep K H' d v
  | .none,v,h=>h
  | .bool b,v,h=>h
  | .int i,v,h=>h
  | .str x,v,h=>h
  | .list ds,v,h=>by
    obtain ⟨a,xs,h1,h2,h3⟩:=h
    exact ⟨a,xs,h1,e.sqL h2,Reps.sameQ e ds xs h3⟩
  | .tuple ds,v,h=>by
    obtain ⟨a,xs,h1,h2,h3⟩:=h
    exact ⟨a,xs,h1,e.sqT h2,Reps.sameQ e ds xs h3⟩
  | .dict _,v,h=>h
theorem Reps.sameQ {H H':Hp} (e:SameQ H H'):∀ (ds:List PyData) (xs:List V),Reps K H ds xs→Reps K H' ds xs
  | [],xs,h=>h
  | d::ds,xs,h=>by
    obtain ⟨y,ys,h1,h2,h3⟩:=h
    exact ⟨y,ys,h1,Rep.sameQ e d y h2,Reps.sameQ e ds ys h3⟩
end
theorem encD_same {β:Type} (g:β→V) (l:List (S × β)) (k:S) (v u:β) (h:getA l k=some u) (e:g v=g u):encD g (putA l k v)=encD g l:=by
  have:=putA_same g l k v u h e
  unfold encD
  have e2:∀ m:List (S × β),m.map (fun p=>(tx p.1,g p.2))=(m.map fun p=>(p.1,g p.2)).map fun q=>(tx q.1,q.2):=fun m=>by rw [List.map_map]; rfl
  rw [e2,e2,this]
theorem row_of {H0 H:Hp}{d:Addr}{ps:List (S × S)}{ra:List (S × Addr × List (S × Int))} (R:RA H0 H d ps ra) {e:S}{v:Addr × List (S × Int)} (h:getA ra e=some v) :
    H v.1=some (.dK (rowV v.2))∧(v.2.map (·.1)).Nodup∧v.2.length≤ps.length∧H0 v.1=none∧v.1≠d:=by
  have hm:=(getA_mem (keys_nd R) e v).mpr h
  have hm2:(e,v.2)∈rowsOf ps:=by rw [← R.rows]; exact List.mem_map.mpr ⟨(e,v),hm,rfl⟩
  exact ⟨R.row _ hm,(rows_ok ps).ndr e v.2 hm2,(rows_len ps).2 _ hm2,(R.new _ hm).1,(R.new _ hm).2⟩
theorem ok_rows {f:Addr}{fd:FuncData} (F:Fun K "counted_rows" "counted_rows" sRows f fd) (cEnds:Cal P w K mg base 2 "ends_and_letters" ["name", "order"] (spEnds K)):FnOk P w K mg base CX0 3 f fd ["book", "order"] spRows:=by
  refine F.ok scRows (fun vs H Q E h=>?_) (fun cdv A outer s H vs Q E hr h=>?_)
  · obtain ⟨a,bk,o,rfl,_⟩:=h; rfl
  · obtain ⟨a,bk,o,rfl,ha,hb1,hb2,ho,k⟩:=h
    have hu:=hu_of hr
    have nd:=scRows.nd
    refine ⟨_,pss_cons (ps_set (i:=2) nd rfl (Or.inl rfl) pe_dnewK)
      (pss_cons (ps_for PassesOwn.never rfl (pi_tup (pv 0)) (pg_name (i:=3) nd rfl (Or.inl rfl))
        (pss_one (ps_for PassesOwn.never rfl (pi_list (pe_cal cEnds hr rfl (pa_cons (pv 3) (pa_cons (pv 1) pa_nil))))
          (pg_tup rfl (pgs_cons (pg_name (i:=4) nd rfl (Or.inl rfl)) (pgs_cons (pg_name (i:=5) nd rfl (Or.inl rfl)) pgs_nil)))
          (pss_cons (ps_set (i:=6) nd rfl (Or.inl rfl) (pe_bm PySem.F.plainAttrs_dict PySem.F.slot_dict_setdefault PySem.F.type_dict_setdefault mt_setdefault (pv 2) (pa_cons (pv 4) (pa_cons pe_dnewK pa_nil))))
            (pss_one (ps_dput hu (pv 6) (pv 5) (pe_op op_add (pe_dget2 hu (pv 6) (pv 5) pe_int ⟨rfl,rfl,rfl,rfl⟩) pe_int) rfl))))))
      (pss_one (ps_ret (pv 2)))),?_⟩
    intro d hd
    have s1:Same H (upd H d (.dK [])):=Same.upd1 hd
    refine ⟨_,rfl,a,rfl,⟨_,.of (s1 _ _ ha)⟩,?_⟩
    refine for_known (known_tup K a (bkV bk)) (fun i σ H'=>(∃ x y z u:Option V,σ=[some (.ref a),some (.int o),some (.ref d),x,y,z,u])∧Same H H'∧∃ ra,RA H H' d (pairsB o (bk.take i)) ra)
      ⟨⟨_,_,_,_,rfl⟩,s1,[],⟨rfl,upd_same,by simp,by simp,by simp⟩⟩ (fun i σ H' _ h=>.of (h.2.1 _ _ ha)) ?_ ?_
    · rintro i x σ H' Nx hN hx ⟨⟨x1,x2,x3,x4,rfl⟩,sm,ra,R⟩
      rw [bkV,List.getElem?_map] at hx
      cases e:bk[i]? with
      | none=>rw [e] at hx; cases hx
      | some nm =>
      rw [e] at hx
      have hy2:x=sv nm:=(Option.some.inj hx).symm
      subst hy2
      have hnm:=hb2 nm (List.mem_of_getElem? e)
      have hi:i < bk.length:=(List.getElem?_eq_some_iff.mp e).1
      have etake:bk.take (i+1)=bk.take i++[nm]:=by
        rw [List.take_succ_eq_append_getElem hi]
        have:=(List.getElem?_eq_some_iff.mp e).2
        rw [this]
      have epairs:pairsB o (bk.take (i+1))=pairsB o (bk.take i)++pairs1 o nm:=by
        rw [etake,pairsB_append]; simp [pairsB]
      have hplen:((pairsB o (bk.take (i+1))).length:Int)≤100:=by
        rw [pairsB_length]
        have go:∀ l:List S,(∀ x∈l,x.length≤8)→(l.map fun x=>(x.length:Int)+1).sum≤9 * (l.length:Int):=by
          intro l
          induction l with
          | nil=>intro _; simp
          | cons x r ih =>
            intro hl
            have h1:=hl x (List.mem_cons_self ..)
            have h2:=ih fun y hy=>hl y (List.mem_cons_of_mem _ hy)
            rw [List.map_cons,List.sum_cons,List.length_cons]
            have:((r.length+1:Nat):Int)=(r.length:Int)+1:=rfl
            omega
        have:=go (bk.take (i+1)) fun x hx=>hb2 x (List.mem_of_mem_take hx)
        have h3:(bk.take (i+1)).length≤8:=by rw [List.length_take]; omega
        omega
      refine ⟨_,rfl,_,rfl,nm,o,rfl,ho,by omega,fun l xs Hl sml hln hll rp=>?_⟩
      refine ⟨l,rfl,⟨_,.of hll⟩,?_⟩
      have R1:RA H Hl d (pairsB o (bk.take i)) ra:=⟨R.rows,sml _ _ R.top,fun r hr=>sml _ _ (R.row r hr),R.new,R.nda⟩
      have hld:H l=none:=sm.free hln
      have hdl:l≠d:=ne_of hll (sml _ _ R.top) (by intro z; cases z)
      refine for_known (known_list K l xs) (fun j σ H2=>(∃ y z u:Option V,σ=[some (.ref a),some (.int o),some (.ref d),some (sv nm),y,z,u])∧Same H H2∧H2 l=some (.lst xs)∧Reps K H2 ((pairs1 o nm).map elD) xs∧∃ ra,RA H H2 d (pairsB o (bk.take i)++(pairs1 o nm).take j) ra∧∀ r∈ra,r.2.1≠l)
        ⟨⟨_,_,_,rfl⟩,sm.trans sml,hll,rp,ra,by simpa using R1,fun r hr=>ne_of (R1.row r hr) hll (by intro z; cases z)⟩ (fun j σ H2 _ h=>.of h.2.2.1) ?_ ?_
      · rintro j x σ H2 Nx2 hN2 hx2 ⟨⟨y,z,u,rfl⟩,sm2,hl2,rp2,ra2,R2,hal⟩
        obtain ⟨dd,hdd,rx⟩:=rp2.get hx2
        rw [List.getElem?_map] at hdd
        cases ep:(pairs1 o nm)[j]? with
        | none=>rw [ep] at hdd; cases hdd
        | some p =>
        rw [ep] at hdd
        have hd2:dd=elD p:=(Option.some.inj hdd).symm
        subst hd2
        obtain ⟨at',xs',rfl,hsq,y1,ys1',rfl,ry1,y2,ys2',rfl,ry2,hnil⟩:=rx
        have ey1:y1=sv p.1:=ry1
        have ey2:y2=sv p.2:=ry2
        have en:ys2'=[]:=hnil
        subst ey1 ey2 en
        have hj:j < (pairs1 o nm).length:=(List.getElem?_eq_some_iff.mp ep).1
        have etk:pairsB o (bk.take i)++(pairs1 o nm).take (j+1)=(pairsB o (bk.take i)++(pairs1 o nm).take j)++[p]:=by
          rw [List.take_succ_eq_append_getElem hj,(List.getElem?_eq_some_iff.mp ep).2,List.append_assoc]
        generalize hps:pairsB o (bk.take i)++(pairs1 o nm).take j=ps at R2 etk
        have hpl:ps.length≤100:=by
          have h1:ps.length≤(pairsB o (bk.take (i+1))).length:=by
            rw [← hps,epairs,List.length_append,List.length_append,List.length_take]; omega
          omega
        have hral:ra2.length≤100:=by
          have h1:=(rows_len ps).1
          rw [← R2.rows,List.length_map] at h1
          omega
        refine ⟨at',[sv p.1,sv p.2],rfl,hsq,rfl,_,_,rfl,_,_,rfl,rfl,?_⟩
        refine ⟨_,rfl,.inr (.inr (.inl ⟨rfl,.inl ⟨_,R2.top⟩⟩)),_,rfl,fun e0 he0=>?_⟩
        have he0H:H e0=none:=sm2.free he0
        have hde:d≠e0:=ne_of_none R2.top he0
        have s3:Same H2 (upd H2 e0 (.dK [])):=Same.upd1 he0
        have fin:∀ (ad:Addr) (row:List (S × Int)) (Hx:Hp),Hx ad=some (.dK (rowV row))→(row.map (·.1)).Nodup→row.length≤100→(∀ H4,H4=upd Hx ad (.dK (rowV (bump row p.2)))→Nx2 [some (.ref a),some (.int o),some (.ref d),some (sv nm),some (sv p.1),some (sv p.2),some (.ref ad)] H4) →
            sDPut (tVar 6) (tVar 5) (tOp (rI0 fun i j=>V.int (i+j)) (tDGet2 (tVar 6) (tVar 5) (tC (.int 0))) (tC (.int 1))) { nx:=Nx2,rt:=Q,bk:=fun _ _=>False,ct:=fun _ _=>False } [some (.ref a),some (.int o),some (.ref d),some (sv nm),some (sv p.1),some (sv p.2),some (.ref ad)] Hx:=by
          intro ad row Hx hrow hnd hrl hq
          refine ⟨_,rfl,ad,rfl,.inl ⟨_,.inl hrow⟩,_,rfl,_,DGet.k (k:=Sum.inr (tx p.2)) hrow,(getA row p.2).getD 0,1,?_,rfl,?_⟩
          · rw [val_enc]
            cases getA row p.2 <;> rfl
          · refine ⟨_,rfl,_,rfl,ad,_,rfl,DPut.k (k:=Sum.inr (tx p.2)) hrow (by rw [encD_len,sizeLine_eq]; omega),hq _ ?_⟩
            rw [put_enc V.int row p.2 _ hnd]
            rfl
        have common:∀ (ad:Addr) (row:List (S × Int)) (Hx H4:Hp),Same H Hx→H ad=none→Hx l=some (.lst xs)→Reps K Hx ((pairs1 o nm).map elD) xs→H4=upd Hx ad (.dK (rowV (bump row p.2)))→Hx ad=some (.dK (rowV row))→RA H H4 d (ps++[p]) (putA ra2 p.1 (ad,bump row p.2)) →
            Nx2 [some (.ref a),some (.int o),some (.ref d),some (sv nm),some (sv p.1),some (sv p.2),some (.ref ad)] H4:=by
          intro ad row Hx H4 sx had hxl hxr e4 hrow RR
          have hadl:ad≠l:=ne_of hrow hxl (by intro z; cases z)
          subst e4
          refine hN2 _ _ ⟨⟨_,_,_,rfl⟩,sx.upd_new had,by rw [upd_ne hadl.symm]; exact hxl,Reps.sameQ (SameQ.upd hrow) _ _ hxr,_,by rw [etk]; exact RR,fun r hr=>?_⟩
          rcases putA_mem hr with e | ⟨e,_⟩
          · rw [e]; exact hadl
          · exact hal r e
        have hx3:upd H2 e0 (.dK []) d=some (.dK (encD (fun v:Addr × List (S × Int)=>V.ref v.1) ra2)):=by rw [upd_ne hde]; exact R2.top
        have hl3:upd H2 e0 (.dK []) l=some (.lst xs):=s3 _ _ hl2
        have hr3:∀ r∈ra2,upd H2 e0 (.dK []) r.2.1=some (.dK (rowV r.2.2)):=fun r hr=>s3 _ _ (R2.row r hr)
        have hre:∀ r∈ra2,r.2.1≠e0:=fun r hr=>ne_of_none (R2.row r hr) he0
        refine ⟨d,_,Sum.inr (tx p.1),_,rfl,rfl,hx3,by rw [encD_len,sizeLine_eq]; omega,fun yv hyv=>?_,fun hnv=>?_⟩
        ·
          rw [val_enc] at hyv
          cases g:getA ra2 p.1 with
          | none=>rw [g] at hyv; cases hyv
          | some v =>
          rw [g] at hyv
          have ev:yv=.ref v.1:=(Option.some.inj hyv).symm
          subst ev
          obtain ⟨r1,r2,r3,r4,r5⟩:=row_of R2 g
          have hrow3:upd H2 e0 (.dK []) v.1=some (.dK (rowV v.2)):=s3 _ _ r1
          refine fin v.1 v.2 _ hrow3 r2 (by omega) fun H4 e4=>common v.1 v.2 _ H4 (sm2.trans s3) r4 hl3 (Reps.same s3 _ _ rp2) e4 hrow3 ?_
          refine R2.step p v.2 (by rw [g]; rfl) (fun v' hv'=>by rw [g] at hv'; rw [Option.some.inj hv']) (fun hn=>by rw [g] at hn; cases hn) (by rw [e4,upd_same]) ?_ fun r hr hne=>?_
          · rw [e4,upd_ne r5.symm,hx3]
            have:=encD_same (fun v:Addr × List (S × Int)=>V.ref v.1) ra2 p.1 (v.1,bump v.2 p.2) v g rfl
            rw [this]
          · rw [e4,upd_ne hne]; exact hr3 r hr
        ·
          rw [val_enc] at hnv
          have g:getA ra2 p.1=none:=by
            cases g:getA ra2 p.1 with
            | none=>rfl
            | some v=>rw [g] at hnv; cases hnv
          have hp2:=put_enc (fun v:Addr × List (S × Int)=>V.ref v.1) ra2 p.1 (e0,[]) (keys_nd R2)
          have hHx:upd (upd H2 e0 (.dK [])) d (.dK (putK (encD (fun v:Addr × List (S × Int)=>V.ref v.1) ra2) (Sum.inr (tx p.1)) (.ref e0))) e0=some (.dK (rowV [])):=by
            rw [upd_ne hde.symm,upd_same]; rfl
          refine fin e0 [] _ hHx (by simp) (by simp) fun H4 e4=>common e0 [] _ H4 ((sm2.trans s3).upd_new hd) he0H (by rw [upd_ne hdl]; exact hl3) (Reps.sameQ (SameQ.upd hx3) _ _ (Reps.same s3 _ _ rp2)) e4 hHx ?_
          refine R2.step p [] (by rw [g]; rfl) (fun v' hv'=>by rw [g] at hv'; cases hv') (fun _=>⟨he0H,hde.symm,fun hm=>?_⟩) (by rw [e4,upd_same]) ?_ fun r hr hne=>?_
          · obtain ⟨r,hr,e⟩:=List.mem_map.mp hm
            exact hre r hr e
          · rw [e4,upd_ne hde,upd_same,hp2]
            congr 2
            have hk:p.1 ∉ ra2.map (·.1):=getA_none.mp g
            rw [putA_new _ _ _ hk,putA_new _ _ _ hk]
            unfold encD encK
            rw [List.map_append,List.map_append,List.map_append,List.map_append]
            rfl
          · rw [e4,upd_ne hne,upd_ne (R2.new r hr).2]; exact hr3 r hr
      · rintro σ H2 ⟨⟨y,z,u,rfl⟩,sm2,hl2,rp2,ra2,R2,_⟩
        refine hN _ _ ⟨⟨_,_,_,_,rfl⟩,sm2,ra2,?_⟩
        rw [epairs]
        have hxl:xs.length=(pairs1 o nm).length:=by have:=rp2.length; simpa using this.symm
        rw [hxl,List.take_length] at R2
        exact R2
    · rintro σ H' ⟨⟨x1,x2,x3,x4,rfl⟩,sm,ra,R⟩
      refine ⟨_,rfl,k d H' sm hd ⟨ra,?_,R.top,R.row⟩⟩
      rw [R.rows]
      have:(bkV bk).length=bk.length:=by simp [bkV]
      rw [this,List.take_length]
end
end Kn
end
section
namespace Kn
open PySem L2
theorem row_total {ps:List (S × S)}{e:S}{xs:List (S × Int)} (nd:(xs.map (·.1)).Nodup) (mem:∀ l n,(l,n)∈xs↔n=(ps.count (e,l):Int)∧0 < n):(xs.map (·.2)).sum=(tot ps e:Int):=by
  have h:=sum_counts (ps.filter fun p=>decide (p.1=e)) (xs.map fun p=>(e,p.1)) ?_ ?_
  · unfold tot
    rw [← h,List.map_map]
    congr 1
    apply List.map_congr_left
    rintro ⟨l,n⟩ hm
    have:=((mem l n).mp hm).1
    show n=(List.count (e,l) (ps.filter fun p=>decide (p.1=e)):Int)
    rw [List.count_filter (by simp)]
    exact this
  · have:=nd
    rw [List.Nodup,List.pairwise_map] at this ⊢
    exact this.imp fun {p q} hpq z=>hpq (congrArg Prod.snd z)
  · rintro ⟨e',l⟩ hm
    obtain ⟨h1,h2⟩:=List.mem_filter.mp hm
    have h2':e'=e:=by simpa using h2
    subst h2'
    exact List.mem_map.mpr ⟨(l,(ps.count (e',l):Int)),(mem l _).mpr ⟨rfl,by
      have:=List.count_pos_iff.mpr h1
      omega⟩,rfl⟩
def rowOf (ps:List (S × S)) (e:S):List (S × Int):=(getA (rowsOf ps) e).getD []
theorem rowOf_nd (ps:List (S × S)) (e:S):((rowOf ps e).map (·.1)).Nodup:=by
  unfold rowOf
  cases g:getA (rowsOf ps) e with
  | none=>simp
  | some row=>exact (rows_ok ps).ndr e row ((getA_mem (rows_ok ps).nd e row).mpr g)
theorem rowOf_get (ps:List (S × S)) (e l:S):getA (rowOf ps e) l=if 0 < ps.count (e,l) then some (ps.count (e,l):Int) else none:=(rows_ok ps).val e l
theorem rowOf_mem (ps:List (S × S)) (e l:S) (n:Int):(l,n)∈rowOf ps e↔n=(ps.count (e,l):Int)∧0 < n:=by
  rw [getA_mem (rowOf_nd ps e),rowOf_get]
  by_cases c:0 < ps.count (e,l)
  · rw [if_pos c]
    constructor
    · intro z
      have:=Option.some.inj z
      omega
    · rintro ⟨z,_⟩; rw [z]
  · rw [if_neg c]
    constructor
    · intro z; cases z
    · rintro ⟨z1,z2⟩; omega
theorem rowOf_total (ps:List (S × S)) (e:S):((rowOf ps e).map (·.2)).sum=(tot ps e:Int):=row_total (rowOf_nd ps e) (rowOf_mem ps e)
theorem tot_le (ps:List (S × S)) (e:S):tot ps e≤ps.length:=List.length_filter_le ..
section
variable {P:Program}{w:World}{K:PySem.W.Frag}{mg:Str→Option Value}{base:Heap}
theorem pg_tupK {X:Cx} (K':PySem.W.Frag) {pos:Pos}{es:List Expr}{k:Nat}{t:TGs} (n:Nat) (hK:X.K=K') (hc:X.calm=true) (h:PGs X es t)
    (hn:(assignEach es X.env).length=n) (hst:(assignEach es X.env).findIdx? (·.1)=none):PG X (.Tuple es k pos) (gTup K' n t):=by
  subst hK
  exact pg_tup hc h hn hst
end
theorem pairs1_len (o:Nat) (nm:S):(pairs1 o nm).length=nm.length+1:=by simp [pairs1]
structure Bk (bk:List S) (o:Nat):Prop extends isBk bk where
  o1:1≤o
  o3:o≤3
theorem Bk.l8 {bk:List S}{o:Nat} (h:Bk bk o):∀ x∈bk,x.length≤8:=fun x hx=>(h.nm x hx).2.1
section
variable {P:Program}{w:World}{K:PySem.W.Frag}{mg:Str→Option Value}{base:Heap}
end
end Kn
end
section
namespace Kn
open PySem L2
theorem tx_eta (x:Str):tx x.cps.toList=x:=by
  apply MyS.Str_ext
  simp [tx]
theorem strs_eta (l:List Str):(l.map fun x=>x.cps.toList).map tx=l:=by
  rw [List.map_map]
  conv=>rhs; rw [← List.map_id l]
  apply List.map_congr_left
  intro x _
  exact tx_eta x
section
variable {P:Program}{w:World}{K:PySem.W.Frag}{mg:Str→Option Value}{base:Heap}
theorem pe_bm0K {X:Cx} (K':PySem.W.Frag) (hK:X.K=K') {o:Expr}{to:TE}{name:Str}{apos cpos:Pos}{T id:String}{r:V→List V→Hp→VK→Prop} (pa:PlainAttrs T) (slot:Slot T name id) (hty:typeOf (.builtin id)=pure (.type "method_descriptor")) (hm:MtR X id r) (ho:PE X o to)
    (hbase:attributeBase o name X.env (eval o X.env)=eval o X.env:=by rfl) (hline:(apos.endLine == cpos.line)=true:=by rfl):PE X (.Call (.Attribute o name apos) [] [] cpos) (tBM0 K' T r to):=by
  subst hK
  exact pe_bm0 pa slot hty hm ho hbase hline
end
theorem ite_nn {c A B:Prop} [Decidable c] (hc:¬ c) (h:A):if (!decide c)=true then A else B:=by
  rw [decide_eq_false hc]; exact h
end Kn
end
section
namespace Kn
open PySem L2
section
variable {P:Program}{w:World}{K:PySem.W.Frag}{mg:Str→Option Value}{base:Heap}
theorem reps_ints {H:Hp}:∀ ns:List Int,Reps K H (ns.map PyData.int) (ns.map V.int)
  | []=>rfl
  | n::ns=>⟨_,_,rfl,rfl,reps_ints ns⟩
theorem lay_ints:∀ ns:List Int,PyData.canLayAll0 (ns.map PyData.int)=true
  | []=>rfl
  | n::ns=>by rw [List.map_cons]; simp only [PyData.canLayAll0,PyData.canLay0,lay_ints ns,Bool.and_self]
def spCell (K:PySem.W.Frag):Sp:=fun vs H Q _=>∃ (a:Addr) (ns:List Int) (k:Nat),vs=[.ref a,.int k]∧SqL K H a (ns.map V.int)∧ns.length≤63∧∀ (i:Int) H',Same H H'→Q (.int i) H'
abbrev sCell:Stmt:=top 55
theorem scCell:FnScope ["_law_script", "_law_k"] ["_law_script", "_law_k"] (defScope sCell):=⟨rfl,rfl,rfl,by decide +kernel,rfl,by decide +kernel,by decide +kernel⟩
theorem shaped_ints (ns:List Int):SeqAt.shaped (.list (ns.map PyData.int))=true:=by
  unfold SeqAt.shaped
  have h1:(PyData.list (ns.map PyData.int)).canLay0=true:=by simp only [PyData.canLay0]; exact lay_ints ns
  have h2:(PyData.list (ns.map PyData.int)).depth≤64:=by
    have go:∀ ns:List Int,PyData.depthAll (ns.map PyData.int)≤1:=by
      intro ns
      induction ns with
      | nil=>decide
      | cons n ns ih=>rw [List.map_cons]; simp only [PyData.depthAll,PyData.depth]; omega
    have:=go ns
    simp only [PyData.depth]; omega
  rw [h1,decide_eq_true h2]; rfl
theorem ok_cell {f:Addr}{fd:FuncData} (F:Fun K "_law_cell" "_law_cell" sCell f fd) (B:Blt mg):FnOk P w K mg base CX0 1 f fd ["_law_script", "_law_k"] (spCell K):=by
  refine F.ok scCell (fun vs H Q E h=>?_) (fun cdv A outer s H vs Q E hr h=>?_)
  · obtain ⟨a,ns,k,rfl,_⟩:=h; rfl
  · obtain ⟨a,ns,n,rfl,ha,hl,k⟩:=h
    have hu:=hr.units
    refine ⟨_,pss_cons (ps_if (pt_cmpR (op_eqD hu) (pv 0) (pe_lst pa_nil) (nomark _)) (pss_one (ps_ret (pe_op op_mul pe_int (pv 1)))) pss_nil)
      (pss_one (ps_ret (pe_op op_add (pe_ix ix_list (pv 0) (pe_op op_mod (pv 1) (pe_callB call_len_seq (by rfl) B.len PySem.boot_len (pa_cons (pv 0) pa_nil))) (fun _ _=>rfl))
        (pe_op op_mul pe_int (pe_op op_fdiv (pv 1) (pe_callB call_len_seq (by rfl) B.len PySem.boot_len (pa_cons (pv 0) pa_nil))))))),?_⟩
    refine ⟨_,rfl,by show 0≤sizeLine; decide,fun p hp=>?_⟩
    have s1:Same H (upd H p (.lst [])):=Same.upd1 hp
    refine ⟨.list (ns.map PyData.int),.list [],⟨a,_,rfl,s1.seq ha,reps_ints ns⟩,⟨p,[],rfl,.of upd_same,rfl⟩,shaped_ints ns,rfl,_,rfl,?_⟩
    cases ns with
    | nil=>exact iteT ⟨_,rfl,7,n,rfl,rfl,.inl ⟨by decide,by decide⟩,k _ _ s1⟩
    | cons m ns =>
      refine iteF ?_
      have hlen:((m::ns).map V.int).length=ns.length+1:=by simp
      have hll:ns.length+1≤63:=by simpa using hl
      have hm:((n:Int) % (((m::ns).map V.int).length:Int))=((n % (ns.length+1):Nat):Int):=by rw [hlen]; rfl
      have hlt:n % (ns.length+1) < ((m::ns).map V.int).length:=by rw [hlen]; exact Nat.mod_lt _ (Nat.succ_pos _)
      refine ⟨_,rfl,_,rfl,_,rfl,a,_,rfl,.inl (s1.seq ha),_,_,rfl,rfl,by rw [hlen]; omega,?_⟩
      refine ⟨a,_,_,.int ((m::ns)[n % (ns.length+1)]'(by simpa using hlt)),rfl,rfl,s1.seq ha,?_,?_⟩
      · rw [hm]
        refine atI_nat ?_
        rw [List.getElem?_map,List.getElem?_eq_getElem (by simpa using hlt)]; rfl
      · exact ⟨_,rfl,_,rfl,a,_,rfl,.inl (s1.seq ha),_,_,rfl,rfl,⟨by rw [hlen]; omega,by rw [hlen]; omega⟩,_,_,rfl,rfl,.inl ⟨by decide,by decide⟩,_,_,rfl,rfl,k _ _ s1⟩
theorem lt0 {d:Int} (h:0 < d):0 < d:=h
theorem cmE {t d q:Int} (h:0 < d) (h2:d < 18446744073709551616):CMul (t % d) q:=by
  have h1:=Int.emod_nonneg t (show d≠0 by omega)
  have h3:=Int.emod_lt_of_pos t h
  exact .inl ⟨by omega,by omega⟩
def spDrawn (K:PySem.W.Frag):Sp:=fun vs H Q _=>∃ (a:Addr) (ns:List Int) (k m:Nat),vs=[.ref a,.int k,.int m]∧SqL K H a (ns.map V.int)∧ns.length≤63∧1≤m∧m < 1000∧∀ (i:Nat) H',i < m→Same H H'→Q (.int i) H'
abbrev sDrawn:Stmt:=top 56
theorem scDrawn:FnScope ["_law_script", "_law_k", "_law_many", "_law_cell_here"] ["_law_script", "_law_k", "_law_many"] (defScope sDrawn):=⟨rfl,rfl,rfl,by decide +kernel,rfl,by decide +kernel,by decide +kernel⟩
theorem ok_drawn {f:Addr}{fd:FuncData} (F:Fun K "_law_drawn" "_law_drawn" sDrawn f fd) (c1:Cal P w K mg base 1 "_law_cell" ["_law_script", "_law_k"] (spCell K)):FnOk P w K mg base CX0 2 f fd ["_law_script", "_law_k", "_law_many"] (spDrawn K):=by
  refine F.ok scDrawn (fun vs H Q E h=>?_) (fun cdv A outer s H vs Q E hr h=>?_)
  · obtain ⟨a,ns,k,m,rfl,_⟩:=h; rfl
  · obtain ⟨a,ns,n,m,rfl,ha,hl,hm1,hm2,k⟩:=h
    have nd:=scDrawn.nd
    refine ⟨_,pss_cons (ps_set (i:=3) nd rfl (Or.inl rfl) (pe_op op_mod (pe_op op_add (pe_op op_mul (pe_op op_mod (pe_cal c1 hr rfl (pa_cons (pv 0) (pa_cons (pv 1) pa_nil))) pe_int) pe_int) (pe_op op_mul pe_int (pe_op op_add (pv 1) pe_int))) pe_int))
      (pss_cons (ps_set (i:=3) nd rfl (Or.inl rfl) (pe_op op_mod (pe_op op_add (pe_op op_mul (pv 3) (pv 3)) (pe_op op_fdiv (pv 3) pe_int)) pe_int))
      (pss_one (ps_ret (pe_op op_mod (pe_op op_fdiv (pe_op op_mod (pe_op op_add (pe_op op_mul (pv 3) (pv 3)) (pe_op op_fdiv (pv 3) pe_int)) pe_int) pe_int) (pv 2))))),?_⟩
    refine ⟨_,rfl,_,rfl,a,ns,n,rfl,ha,hl,fun i H' s1=>?_⟩
    have fin:∀ z:Int,Q (.int (z % (m:Int))) H':=fun z=>by
      have z1:0≤z % (m:Int):=Int.emod_nonneg _ (by omega)
      have z2:z % (m:Int) < m:=Int.emod_lt_of_pos _ (by omega)
      have e:z % (m:Int)=((z % (m:Int)).toNat:Int):=(Int.toNat_of_nonneg z1).symm
      rw [e]
      exact k _ _ (by omega) s1
    refine ⟨_,_,rfl,rfl,lt0 (by decide),_,_,rfl,rfl,.inr ⟨by decide,by decide⟩,?_⟩
    refine ⟨_,rfl,_,_,rfl,rfl,_,_,rfl,rfl,.inl ⟨by decide,by decide⟩,_,_,rfl,rfl,_,_,rfl,rfl,lt0 (by decide),?_⟩
    refine ⟨_,rfl,_,rfl,_,_,rfl,rfl,cmE (by decide) (by decide),_,rfl,_,_,rfl,rfl,⟨by decide,by decide⟩,_,_,rfl,rfl,_,_,rfl,rfl,lt0 (by decide),?_⟩
    refine ⟨_,rfl,_,rfl,_,_,rfl,rfl,cmE (by decide) (by decide),_,rfl,_,_,rfl,rfl,⟨by decide,by decide⟩,_,_,rfl,rfl,_,_,rfl,rfl,lt0 (by decide),_,_,rfl,rfl,⟨by decide,by decide⟩,_,rfl,_,_,rfl,rfl,?_,fin _⟩
    show (0:Int) < (m:Int)
    omega
end
end Kn
end
section
namespace Kn
open PySem L2
section
variable {P:Program}{w:World}{K:PySem.W.Frag}{mg:Str→Option Value}{base:Heap}
def spName (K:PySem.W.Frag):Sp:=fun vs H Q _=>∃ (a:Addr) (ns:List Int) (at' most:Nat),vs=[.ref a,.int at',.int most]∧SqL K H a (ns.map V.int)∧ns.length≤63∧1≤most∧most≤8 ∧
  ∀ (x:S) H',Same H H'→isNm x→x.length≤most→Q (sv x) H'
abbrev sName:Stmt:=top 57
theorem scName:FnScope ["_law_script", "_law_at", "_law_most", "_law_size", "_law_letters"] ["_law_script", "_law_at", "_law_most"] (defScope sName):=⟨rfl,rfl,rfl,by decide +kernel,rfl,by decide +kernel,by decide +kernel⟩
theorem ndN:(["_law_letters", "_law_script", "_law_at", "_law_k"]:List Str).Nodup:=by decide +kernel
abbrev cDr (P:Program) (w:World) (K:PySem.W.Frag) (mg:Str→Option Value) (base:Heap):Prop:=Cal P w K mg base 2 "_law_drawn" ["_law_script", "_law_k", "_law_many"] (spDrawn K)
theorem ok_name {f:Addr}{fd:FuncData} (F:Fun K "_law_name" "_law_name" sName f fd) (B:Blt mg) (c1:cDr P w K mg base):FnOk P w K mg base CX0 3 f fd ["_law_script", "_law_at", "_law_most"] (spName K):=by
  refine F.ok scName (fun vs H Q E h=>?_) (fun cdv A outer s H vs Q E hr h=>?_)
  · obtain ⟨a,ns,k,m,rfl,_⟩:=h; rfl
  · obtain ⟨a,ns,n,m,rfl,ha,hl,hm1,hm2,k⟩:=h
    have nd:=scName.nd
    refine ⟨_,pss_cons (ps_set (i:=3) nd rfl (Or.inl rfl) (pe_op op_add pe_int (pe_cal c1 hr rfl (pa_cons (pv 0) (pa_cons (pv 1) (pa_cons (pv 2) pa_nil))))))
      (pss_cons (ps_set (i:=4) nd rfl (Or.inr rfl) (pe_ix ix_list (pe_lst (pa_cons pe_str (pa_cons pe_str (pa_cons pe_str pa_nil)))) (pe_cal c1 hr rfl (pa_cons (pv 0) (pa_cons (pe_op op_add (pv 1) pe_int) (pa_cons pe_int pa_nil)))) (fun _ _=>rfl)))
      (pss_one (ps_ret (pe_bm PySem.F.plainAttrs_str PySem.F.slot_str_join PySem.F.type_str_join mt_join pe_str (pa_cons
        (pe_comp (N:=["_law_letters", "_law_script", "_law_at", "_law_k"]) (caps:=[4,0,1]) rfl (compScope_of (by kernel_rfl)) (pi_range1 rfl B.range (pa_cons (pv 3) pa_nil))
          (fun cl C s H ex=>pg_name (i:=3) ndN rfl (Or.inl rfl)) (fun cl C s H ex=>pf_nil)
          (fun cl C s H ex=>pe_ix ix_str (pv 0) (pe_cal c1 hr rfl (pa_cons (pv 1) (pa_cons (pe_op op_add (pe_op op_add (pv 2) pe_int) (pv 3)) (pa_cons (pe_callB call_len_str (by rfl) B.len PySem.boot_len (pa_cons (pv 0) pa_nil)) pa_nil)))) (fun _ _=>rfl))) pa_nil))))),?_⟩
    refine ⟨_,rfl,_,rfl,_,rfl,a,ns,n,m,rfl,ha,hl,hm1,by omega,fun sz H1 hsz s1=>?_⟩
    refine ⟨_,_,rfl,rfl,?_⟩
    refine ⟨by show 3≤sizeLine; decide,fun p hp=>?_⟩
    have s2:Same H1 (upd H1 p (.lst [.str "ab",.str "ab",.str "abz"])):=Same.upd1 hp
    refine ⟨_,rfl,_,rfl,_,_,rfl,rfl,a,ns,n+9,3,rfl,s2.seq (s1.seq ha),hl,by decide,by decide,fun li H3 hli s3=>?_⟩
    have s123:=(s1.trans s2).trans s3
    obtain ⟨L,hL,e⟩:∃ L:S,(L=[97,98]∨L=[97,98,122])∧([.str "ab",.str "ab",.str "abz"]:List V)[li]?=some (sv L):=by
      match li,hli with
      | 0,_=>exact ⟨[97,98],.inl rfl,rfl⟩
      | 1,_=>exact ⟨[97,98],.inl rfl,rfl⟩
      | 2,_=>exact ⟨[97,98,122],.inr rfl,rfl⟩
    refine ⟨p,_,_,sv L,rfl,rfl,.of (s3 _ _ upd_same),atI_nat e,?_⟩
    refine ⟨rfl,_,rfl,_,rfl,by omega,by omega,?_⟩
    have hLl:L.length=2∨L.length=3:=by rcases hL with h | h <;> subst h <;> simp
    have hLc:∀ c∈L,97≤c∧c≤122:=by rcases hL with h | h <;> subst h <;> decide
    have hnn:(1+(sz:Int)).toNat=sz+1:=by omega
    refine comp_known0 (known_range 0 _) [some (sv L),some (.ref a),some (.int n)] 1 (by rw [List.length_map,List.length_range,hnn]; omega) (fun i acc H'=>Same H3 H'∧∃ cs:S,acc=cs.map (fun c=>V.str (tx [c]))∧cs.length=i∧∀ c∈cs,97≤c∧c≤122)
      ⟨Same.refl _,[],rfl,rfl,by simp⟩ (fun i acc H' _ h=>⟨trivial,by obtain ⟨_,cs,rfl,h,_⟩:=h; rw [List.length_map]; omega⟩) ?_ ?_
    · rintro i x acc H' ys Nx hN hx hy ⟨sm,cs,rfl,hcl,hcs⟩
      obtain ⟨y,rfl⟩:=ys1 hy
      rw [hnn] at hx
      obtain ⟨hi,rfl⟩:=range_item hx
      refine ⟨_,rfl,_,rfl,_,rfl,_,_,rfl,rfl,_,rfl,_,_,rfl,rfl,_,rfl,tx L,rfl,by rw [tx_len,sizeLine_eq]; omega,?_⟩
      rw [tx_len]
      refine ⟨a,ns,n+1+i,L.length,rfl,(s123.trans sm).seq ha,hl,by omega,by omega,fun j H5 hj s5=>?_⟩
      refine ⟨tx L,_,L[j],rfl,rfl,by rw [tx_len,sizeLine_eq]; omega,?_,?_⟩
      · rw [tx_cps]
        exact atI_nat (List.getElem?_eq_getElem hj)
      · refine hN _ _ [some (.int i)] rfl ⟨sm.trans s5,cs++[L[j]],by rw [List.map_append]; rfl,by rw [List.length_append,hcl]; rfl,fun c hc=>?_⟩
        rcases List.mem_append.mp hc with z | z
        · exact hcs c z
        · have:c=L[j]:=by simpa using z
          rw [this]
          exact hLc _ (List.getElem_mem hj)
    · rintro acc H' ⟨sm,cs,rfl,hcl,hcs⟩ D hD
      rw [List.length_map,List.length_range,hnn] at hcl
      have esum:((cs.map fun c=>tx [c]).map (·.length)).sum=cs.length:=by
        clear hcl hcs
        induction cs with
        | nil=>rfl
        | cons c cs ih=>rw [List.map_cons,List.map_cons,List.sum_cons,ih,List.length_cons,tx_len]; show 1+_=_; omega
      refine ⟨_,D,cs.map (fun c=>tx [c]),rfl,rfl,.of (by rw [upd_same,List.map_map]; rfl),?_,?_⟩
      · rw [esum]
        show _+_ * 0≤_
        omega
      · have ej:Txt.join ⟨#[]⟩ (cs.map fun c=>tx [c])=tx cs:=by
          rw [join_flat,List.map_map]
          congr 1
          clear hcl hcs esum
          congr 1
          induction cs with
          | nil=>rfl
          | cons c cs ih=>rw [List.map_cons,List.flatten_cons,ih]; rfl
        have kk:∀ Hx,Same H Hx→Q (.str (Txt.join ⟨#[]⟩ (cs.map fun c=>tx [c]))) Hx:=fun Hx sx=>by
          rw [ej]
          exact k cs Hx sx ⟨by omega,by omega,hcs⟩ (by omega)
        exact kk _ ((s123.trans sm).trans (Same.upd1 hD))
end
end Kn
end
section
namespace Kn
open PySem L2
section
variable {P:Program}{w:World}{K:PySem.W.Frag}{mg:Str→Option Value}{base:Heap}
def spBook (K:PySem.W.Frag):Sp:=fun vs H Q _=>∃ (a:Addr) (ns:List Int) (at' many most:Nat),vs=[.ref a,.int at',.int many,.int most]∧SqL K H a (ns.map V.int)∧ns.length≤63∧1≤many∧many≤8∧1≤most∧most≤8 ∧
  ∀ (p:Addr) (bk:List S) H',Same H H'→H' p=some (.tup (bkV bk))→1≤bk.length→bk.length≤many→(∀ x∈bk,isNm x∧x.length≤most)→Q (.ref p) H'
abbrev sBook:Stmt:=top 58
theorem scBook:FnScope ["_law_script", "_law_at", "_law_many", "_law_most", "_law_found", "_law_k"] ["_law_script", "_law_at", "_law_many", "_law_most"] (defScope sBook):=⟨rfl,rfl,rfl,by decide +kernel,rfl,by decide +kernel,by decide +kernel⟩
theorem ok_book {f:Addr}{fd:FuncData} (F:Fun K "_law_book" "_law_book" sBook f fd) (B:Blt mg) (c1:cDr P w K mg base) (c2:Cal P w K mg base 3 "_law_name" ["_law_script", "_law_at", "_law_most"] (spName K)):FnOk P w K mg base CX0 4 f fd ["_law_script", "_law_at", "_law_many", "_law_most"] (spBook K):=by
  refine F.ok scBook (fun vs H Q E h=>?_) (fun cdv A outer s H vs Q E hr h=>?_)
  · obtain ⟨a,ns,k,m,l,rfl,_⟩:=h; rfl
  · obtain ⟨a,ns,n,many,most,rfl,ha,hl,hm1,hm2,hs1,hs2,k⟩:=h
    have nd:=scBook.nd
    have hr2:=hr.mono (j:=2) (by decide)
    refine ⟨_,pss_cons (ps_set (i:=4) nd rfl (Or.inl rfl) (pe_tup pa_nil))
      (pss_cons (ps_for PassesOwn.never rfl (pi_range1 rfl B.range (pa_cons (pe_op op_add pe_int (pe_cal c1 hr2 rfl (pa_cons (pv 0) (pa_cons (pv 1) (pa_cons (pv 2) pa_nil))))) pa_nil)) (pg_name (i:=5) nd rfl (Or.inl rfl))
        (pss_one (ps_set (i:=4) nd rfl (Or.inl rfl) (pe_op (op_catT0.or op_catT) (pv 4) (pe_tup (pa_cons (pe_cal c2 hr rfl (pa_cons (pv 0) (pa_cons (pe_op op_add (pe_op op_add (pv 1) pe_int) (pe_op op_mul pe_int (pv 5))) (pa_cons (pv 3) pa_nil)))) pa_nil))))))
      (pss_one (ps_ret (pv 4)))),?_⟩
    refine ⟨by show 0≤sizeLine; decide,fun p0 hp0=>?_⟩
    have s0:Same H (upd H p0 (.tup [])):=Same.upd1 hp0
    refine ⟨_,rfl,_,rfl,_,rfl,a,ns,n,many,rfl,s0.seq ha,hl,hm1,by omega,fun sz H1 hsz s1=>?_⟩
    refine ⟨_,_,rfl,rfl,_,rfl,by omega,by omega,?_⟩
    have hnn:(1+(sz:Int)).toNat=sz+1:=by omega
    refine for_known (known_range 0 _) (fun i σ H2=>∃ (p:Addr) (bk:List S) (y:Option V),σ=[some (.ref a),some (.int n),some (.int many),some (.int most),some (.ref p),y]∧Same H H2∧H2 p=some (.tup (bkV bk))∧bk.length=i∧∀ x∈bk,isNm x∧x.length≤most)
      ⟨p0,[],_,rfl,s0.trans s1,s1 _ _ upd_same,rfl,by simp⟩ (fun _ _ _ _ _=>trivial) ?_ ?_
    · rintro i x σ H2 Nx hN hx ⟨p,bk,y,rfl,sm,hp,hbl,hbn⟩
      rw [hnn] at hx
      obtain ⟨hi,rfl⟩:=range_item hx
      refine ⟨_,rfl,_,rfl,_,rfl,_,_,rfl,rfl,_,rfl,_,_,rfl,rfl,.inl ⟨by decide,by decide⟩,_,_,rfl,rfl,_,rfl,a,ns,n+1+10 * i,most,rfl,sm.seq ha,hl,hs1,hs2,fun x H3 s3 hx1 hx2=>?_⟩
      refine ⟨by show 1≤sizeLine; decide,fun q hq=>?_⟩
      have s4:Same H3 (upd H3 q (.tup [sv x])):=Same.upd1 hq
      have nx:∀ b∈bk++[x],isNm b∧b.length≤most:=fun b hb=>by
        rcases List.mem_append.mp hb with z | z
        · exact hbn b z
        · have:b=x:=by simpa using z
          rw [this]; exact ⟨hx1,hx2⟩
      cases bk with
      | nil=>exact .inl ⟨p,q,_,rfl,rfl,.of (s4 _ _ (s3 _ _ hp)),.of upd_same,hN _ _ ⟨q,[x],_,rfl,(sm.trans s3).trans s4,upd_same,by rw [← hbl]; rfl,nx⟩⟩
      | cons c cs =>
        refine .inr ⟨p,q,_,_,rfl,rfl,.of (s4 _ _ (s3 _ _ hp)),.of upd_same,by simp [bkV],?_,fun z=>by simp at z,fun _ r hr'=>hN _ _ ⟨r,(c::cs)++[x],_,rfl,((sm.trans s3).trans s4).trans (Same.upd1 hr'),?_,by rw [List.length_append,hbl]; rfl,nx⟩⟩
        · have:(bkV (c::cs)).length=i:=by rw [← hbl]; simp [bkV]
          rw [this,sizeLine_eq]
          show i+1≤_
          omega
        · rw [upd_same]
          unfold bkV
          rw [List.map_append]; rfl
    · rintro σ H2 ⟨p,bk,y,rfl,sm,hp,hbl,hbn⟩
      rw [List.length_map,List.length_range,hnn] at hbl
      exact ⟨_,rfl,k p bk H2 sm hp (by omega) (by omega) hbn⟩
end
end Kn
end
section
namespace Kn
open PySem L2
section
variable {X:Cx}{tg:Expr}
end
theorem tx_app (a b:S):tx a++tx b=tx (a++b):=by
  apply MyS.Str_ext
  show ((tx a).cps++(tx b).cps).toList=_
  simp [tx]
theorem ite_ne {d:PyData}{A B:Prop} (hd:d.canLay0=true) (h:B):if (if true=true then !PyData.eqv d d else PyData.eqv d d)=true then A else B:=by
  rw [eqv_refl d hd]; exact h
theorem strOk_of {t:S} (h:∀ c∈t,c≤122):PyData.strOk (tx t)=true:=by
  unfold PyData.strOk
  rw [Array.all_eq_true']
  intro c hc
  have hc':c∈t:=by simpa [tx] using hc
  have:=h c hc'
  exact decide_eq_true (by omega)
theorem pair_chars {o:Nat}{t:S} (h:isNm t) {p:S × S} (hp:p∈pairs1 o t):(∀ c∈p.1,97≤c∧c≤122)∧∀ c∈p.2,97≤c∧c≤122:=by
  obtain ⟨i,_,rfl⟩:=List.mem_map.mp hp
  refine ⟨fun c hc=>?_,fun c hc=>?_⟩
  · exact h.2.2 c (List.mem_of_mem_take (List.mem_of_mem_drop hc))
  · exact h.2.2 c (List.mem_of_mem_drop (List.mem_of_mem_take hc))
theorem book_chars {o:Nat}{bk:List S} (h:isBk bk) {p:S × S} (hp:p∈pairsB o bk):(∀ c∈p.1,97≤c∧c≤122)∧∀ c∈p.2,97≤c∧c≤122:=by
  obtain ⟨x,hx,hm⟩:=List.mem_flatMap.mp hp
  exact pair_chars (h.nm x hx) hm
theorem plen_le4 {bk:List S}{o:Nat} (h:∀ x∈bk,x.length≤4):(pairsB o bk).length≤5 * bk.length:=by
  have e:=pairsB_length o bk
  have go:∀ l:List S,(∀ x∈l,x.length≤4)→(l.map fun x=>(x.length:Int)+1).sum≤5 * (l.length:Int):=by
    intro l
    induction l with
    | nil=>intro _; simp
    | cons x r ih =>
      intro hl
      have h1:=hl x (List.mem_cons_self ..)
      have h2:=ih fun y hy=>hl y (List.mem_cons_of_mem _ hy)
      rw [List.map_cons,List.sum_cons,List.length_cons]
      have:((r.length+1:Nat):Int)=(r.length:Int)+1:=rfl
      omega
  have:=go bk h
  omega
section
variable {K:PySem.W.Frag}
end
theorem IsRow.len {ps:List (S × S)}{e:S}{rs:List (S × Int)} (r:IsRow ps e rs):rs.length≤ps.length:=by
  have h1:=r.total
  have h2:(ps.filter fun p=>p.1=e).length≤ps.length:=List.length_filter_le ..
  have h3:∀ q∈rs,0 < q.2:=fun q hq=>((r.mem q.1 q.2).mp hq).2
  have go:∀ l:List (S × Int),(∀ q∈l,0 < q.2)→(l.length:Int)≤(l.map (·.2)).sum:=by
    intro l
    induction l with
    | nil=>intro _; simp
    | cons q l ih =>
      intro hl
      have a:=hl q (List.mem_cons_self ..)
      have b:=ih fun x hx=>hl x (List.mem_cons_of_mem _ hx)
      rw [List.map_cons,List.sum_cons,List.length_cons]
      have:((l.length+1:Nat):Int)=(l.length:Int)+1:=rfl
      omega
  have:=go rs h3
  omega
end Kn
end
section
namespace L2
open PySem PySem.Spec PyProof.Rows
structure Flown (P:Program) (w:World) (outer:List Env) (H:Hp) (s:Shared) (e:Addr) (cls a0:Value) (B:Heap) (H':Hp) (s':Shared):Prop where
  os:s'.os=s.os
  bare:AllBare s'.gens
  fly:Heap.FlyingW B outer e cls a0 s'.heap
  trB:∀ b u,H' b=some u→∃ o,B.get? b=some o
  hok:HOk P w H' s'.heap
  keep:∀ b o,s.heap.get? b=some o→H b=none→b ∉ frs outer→B.get? b=some o
  slot:∀ b o,s.heap.get? b=some o→b∈frs outer→H b=none→∃ sl,s'.heap.get? b=some { o with slots:=sl }
  free:∀ b o,s.heap.get? b=some o→H b=none→H' b=none
  there:∀ b o,s.heap.get? b=some o→b ∉ frs outer→∃ o',B.get? b=some o'
  tups:∀ b xs,H b=some (.tup xs)→H' b=some (.tup xs)
  frzs:∀ b o u,H b=some (.frz o u)→H' b=some (.frz o u)
  tbls:∀ b ps,H b=some (.tbl ps)→∃ more,H' b=some (.tbl (ps++more))
  ef:H' e=none
def CXr (P:Program) (w:World):CXT:=fun outer H s E ev s'=>∃ (e:Addr) (cls a0:Value) (B:Heap) (H':Hp),ev=.ref e∧Flown P w outer H s e cls a0 B H' s'∧E cls none H'
section
variable {P:Program}{w:World}{outer:List Env}{H H':Hp}{s s':Shared}{e:Addr}{cls a0:Value}{B h':Heap}
theorem hok_stays (ok:HOk P w H' s'.heap) (trB:∀ b u,H' b=some u→∃ o,B.get? b=some o) (st:B.StaysIn s'.heap) (st':B.StaysIn h'):HOk P w H' h':=fun a u q=>by
  refine (ok a u q).stay (fun b v hb r=>?_) (fun _ z=>z) fun _ _ z=>z
  have hb':∃ u',H' b=some u':=by
    rcases hb with z | z
    · rw [z]; exact ⟨u,q⟩
    · exact ⟨_,z⟩
  obtain ⟨u',hu'⟩:=hb'
  obtain ⟨o,ho⟩:=trB b u' hu'
  have:=st b o ho
  rw [r] at this
  cases this
  exact st' b _ ho
theorem Flown.un (F:Flown P w outer H s e cls a0 B H' s') (frf:∀ b∈frs outer,H b=none):Un (frs outer) [] H H' s.heap s'.heap where
  keep:=fun b o q n hb _=>F.fly.1 b o (F.keep b o q n hb)
  slot:=fun b o q n hb _=>F.slot b o q hb n
  free:=fun b o q n _=>F.free b o q n
  there:=fun b o q _=>by
    by_cases hb:b∈frs outer
    · obtain ⟨sl,z⟩:=F.slot b o q hb (frf b hb)
      exact ⟨_,z⟩
    · obtain ⟨o',z⟩:=F.there b o q hb
      exact ⟨o',F.fly.1 b o' z⟩
  tups:=F.tups
  frzs:=F.frzs
  tbls:=F.tbls
theorem Flown.on {outer:List Env} (F:Flown P w outer H s e cls a0 B H' s') (fly:Heap.FlyingW B outer e cls a0 h') (up:s'.heap.UpToSlots h') (fun':s'.heap.FunFrames B outer):Flown P w outer H s e cls a0 B H' { s' with heap:=h' } where
  os:=F.os
  bare:=F.bare
  fly:=fly
  trB:=F.trB
  hok:=hok_stays F.hok F.trB F.fly.1 fly.1
  keep:=F.keep
  slot:=fun b o q hb n=>by
    obtain ⟨sl,z⟩:=F.slot b o q hb n
    obtain ⟨_,o',ho',hd⟩:=fun'.mem hb
    rw [z] at ho'
    cases ho'
    obtain ⟨sl',z'⟩:=up b _ z hd
    exact ⟨sl',z'⟩
  free:=F.free
  there:=F.there
  tups:=F.tups
  frzs:=F.frzs
  tbls:=F.tbls
  ef:=F.ef
end
section
variable {X:Cx}{pins:List (Addr × Obj)}{σ:St}{H H':Hp}{s s':Shared}{e:Addr}{cls a0:Value}{B h':Heap}
theorem Inv.nstk (I:Inv X pins σ H s) {b:Addr}{o:Obj} (q:X.s₀.heap.get? b=some o) (hb:b ∉ X.fs):b ∉ frs X.stack:=fun z=>by
  rcases List.mem_cons.mp (I.stkSub b z) with r | r
  · exact absurd (Nat.lt_of_lt_of_le (Heap.lt_size q) I.ok.above) (by rw [r]; exact Nat.lt_irrefl _)
  · exact hb r
theorem sub_stk (hs:X.stack=X.env::X.outer) {b:Addr} (hb:b∈X.fs):b∈frs X.stack:=by
  rw [hs]
  unfold frs
  rw [List.filterMap_cons]
  cases X.env.frame with
  | none=>exact hb
  | some L=>exact List.mem_cons_of_mem _ hb
theorem Flown.leaves (I:Inv X pins σ H s) (hs:X.stack=X.env::X.outer) (hf:X.env.frame=some X.env.locals) (hx:X.ex=[]) (F:Flown X.prog X.w X.stack H s e cls a0 B H' s') {Q:Unit→Shared→Prop}{E:Value→Shared→Prop}{M:Model}
    (hQ:∀ s'',Flown X.prog X.w X.outer X.H₀ X.s₀ e cls a0 B H' s''→Q () s''):wpAny M X.A (leaving X.env (.ref e)) Q E s':=by
  have fly:=F.fly
  rw [hs] at fly
  have fun':=F.fly.2.2.1
  refine wpAny_leaves_onW (by rw [← hs]; exact I.ok.frames) hf fly fun h' fly' up=>hQ _ ?_
  have nex:∀ b:Addr,b ∉ X.ex:=fun b z=>by rw [hx] at z; cases z
  refine ⟨F.os.trans I.os,F.bare,fly',F.trB,hok_stays F.hok F.trB F.fly.1 fly'.1,fun b o q n hb=>?_,fun b o q hb n=>?_,fun b o q n=>?_,fun b o q hb=>?_,fun b xs q=>F.tups b xs (I.base.tups b xs q),fun b o u q=>F.frzs b o u (I.base.frzs b o u q),fun b ps q=>?_,F.ef⟩
  · exact F.keep b o (I.base.keep b o q n hb (nex b)) (I.base.free b o q n (nex b)) (I.nstk q hb)
  · obtain ⟨sl,z⟩:=I.base.slot b o q n hb (nex b)
    obtain ⟨sl',z'⟩:=F.slot b _ z (sub_stk hs hb) (I.base.free b o q n (nex b))
    obtain ⟨_,o',ho',hd⟩:=fun'.mem (show b∈X.stack.filterMap (·.frame) from sub_stk hs hb)
    rw [z'] at ho'
    cases ho'
    obtain ⟨sl'',z''⟩:=up b _ z' hd
    exact ⟨sl'',z''⟩
  · obtain ⟨o',z⟩:=I.base.there b o q (nex b)
    exact F.free b o' z (I.base.free b o q n (nex b))
  · obtain ⟨o',z⟩:=I.base.there b o q (nex b)
    exact F.there b o' z (I.nstk q hb)
  · obtain ⟨m1,e1⟩:=I.base.tbls b ps q
    obtain ⟨m2,e2⟩:=F.tbls b _ e1
    exact ⟨m1++m2,by rw [e2,Array.append_assoc]⟩
theorem made_leaves {C:Addr}{vs:List Value} (I:Inv X pins σ H s) (hs:X.stack=X.env::X.outer) (hf:X.env.frame=some X.env.locals) (hx:X.ex=[]) (hm:Heap.MadeExcOf s.heap h' e (.ref C) vs) {Q:Unit→Shared→Prop}{E:Value→Shared→Prop}{M:Model}
    (hQ:∀ s'' a0 B,Flown X.prog X.w X.outer X.H₀ X.s₀ e (.ref C) a0 B H s''→Q () s''):wpAny M X.A (leaving X.env (.ref e)) Q E { s with heap:=h' }:=by
  have fr:=I.stack
  have hin:∀ env∈X.stack,∀ b,env.frame=some b→b∈frs X.stack:=fun env he b hb=>List.mem_filterMap.mpr ⟨env,he,hb⟩
  have fr':=PySem.W.funFrames_hide (as:=frs X.stack) fr hin
  rw [hs] at fr'
  have nex:∀ b:Addr,b ∉ X.ex:=fun b z=>by rw [hx] at z; cases z
  refine wpAny_leaves_madeW (base:=PySem.W.hideAll s.heap (frs X.stack)) (by rw [← hs]; exact I.ok.frames) hf (fun b o q=>PySem.W.of_hideAll _ q) (by rw [hs]; exact fr') hm fun h2 t fly tup bt up=>hQ _ (.ref t) (PySem.W.hideAll s.heap (frs X.stack)) ?_
  have trB:∀ b u,H b=some u→∃ o,(PySem.W.hideAll s.heap (frs X.stack)).get? b=some o:=fun b u q=>by
    obtain ⟨o,ho⟩:=(I.hok b u q).obj
    exact ⟨o,PySem.W.hideAll_get _ ho fun z=>by rw [I.stkFree b z] at q; cases q⟩
  have stS:(PySem.W.hideAll s.heap (frs X.stack)).StaysIn s.heap:=fun b o q=>PySem.W.of_hideAll _ q
  refine ⟨I.os,I.bare,fly,trB,hok_stays (s':=s) I.hok trB stS fly.1,fun b o q n hb=>?_,fun b o q hb n=>?_,fun b o q n=>I.base.free b o q n (nex b),fun b o q hb=>?_,I.base.tups,I.base.frzs,I.base.tbls,I.hok.free hm.new⟩
  · exact PySem.W.hideAll_get _ (I.base.keep b o q n hb (nex b)) (I.nstk q hb)
  · obtain ⟨sl,z⟩:=I.base.slot b o q n hb (nex b)
    obtain ⟨_,o',ho',hd⟩:=fr.mem (show b∈X.stack.filterMap (·.frame) from sub_stk hs hb)
    rw [z] at ho'
    cases ho'
    obtain ⟨sl'',z''⟩:=up b _ (hm.keeps b _ z) hd
    exact ⟨sl'',z''⟩
  · obtain ⟨o',z⟩:=I.base.there b o q (nex b)
    exact ⟨o',PySem.W.hideAll_get _ z (I.nstk q hb)⟩
end
structure XOk (X:Cx) (E:XK):Prop where
  made:∀ (pins:List (Addr × Obj)) (σ:St) (H:Hp) (s:Shared) (h':Heap) (e C:Addr) (vs:List Value),Inv X pins σ H s→Heap.MadeExcOf s.heap h' e (.ref C) vs→E (.ref C) none H→X.xe (.ref e) { s with heap:=h' }
  pass:Passes (CXr X.prog X.w) X E
theorem xok_fn {P:Program}{w:World}{K:PySem.W.Frag}{mg:Str→Option Value}{base:Heap}{N:List Str}{qual:Str}{scope:Scope}{f:Addr}{cd:Value}{A:Around}{outer:List Env}{s:Shared}{H:Hp}{E:XK} :
    XOk (cxOf (CXr P w) P w K mg base N qual scope f cd A outer s H E) E where
  made:=fun pins σ H1 s1 h' e C vs I hm hE=>made_leaves I rfl rfl rfl hm fun s'' a0 B F=>⟨e,_,a0,B,H1,rfl,F,hE⟩
  pass:=fun pins σ H1 s1 ev s' I ⟨e,cls,a0,B,H',he,F,hE⟩=>by
    subst he
    exact Flown.leaves I rfl rfl rfl F fun s'' F'=>⟨e,cls,a0,B,H',rfl,F',hE⟩
abbrev veMro:List Value:=[.type "ValueError",.type "Exception",.type "BaseException",.type "object"]
structure XCls (K:PySem.W.Frag) (mg:Str→Option Value) (x:Str) (C:Addr):Prop where
  bound:mg x=some (.ref C)
  exc:PySem.W.excIn K C veMro "ValueError.__new__" = true
theorem xcls_obj {K:PySem.W.Frag}{h:Heap}{C:Addr}{newId:String}{bmB:List Value} (X:K.In h) (q:PySem.W.excIn K C bmB newId=true) :
    ∃ bm N nm q bs hdct sn sub ab col dd k0 k1 k2 k3 k5 mN,h.get? C=some (excClassObj nm q C N bs bm hdct sn sub ab col dd k0 k1 k2 k3 k5 newId)∧h.Ns N mN∧mN "__init__" = none∧OwnTail h bmB bm∧∃ cd,K.lookup C=some ⟨.type "type",dd,.cls cd,#[k0,k1,k2,k3,some (.builtin newId),k5]⟩∧cd.mro=.ref C::bm:=by
  unfold PySem.W.excIn at q
  split at q
  · rename_i dd cd sl ho
    split at q
    · rename_i C' bm k0 k1 k2 k3 n k5 hm hs
      simp only [Bool.and_eq_true,beq_iff_eq,Bool.not_eq_true'] at q
      obtain ⟨⟨⟨⟨⟨rfl,rfl⟩,hdel⟩,ht⟩,hok⟩,hni⟩:=q
      obtain ⟨nm,bs,mro,ns,qn,hd,sn,sub,ab,col,del⟩:=cd
      dsimp only at hm hdel hok hni
      subst hm hdel
      have hsl:sl=#[k0,k1,k2,k3,some (.builtin n),k5]:=by
        obtain ⟨l⟩:=sl
        simp only at hs
        rw [hs]
      subst hsl
      exact ⟨bm,ns,nm,qn,bs,hd,sn,sub,ab,col,dd,k0,k1,k2,k3,k5,_,X _ _ ho,.of_isNs (PySem.W.isNs_of_in X hok),PySem.W.nsMap_none_of_in X hok hni,PySem.W.tail_of_in X ht,_,ho,rfl⟩
    · cases q
  · cases q
def tRaise (C:Addr) (E:XK) (t:TA):TS:=fun _ σ H=>t σ H fun vs H1=>vs.length≤sizeLine∧E (.ref C) none H1
section
variable {X:Cx}
theorem ps_raise {E:XK}{x:Str}{C:Addr}{np cpos pos:Pos}{e0:Expr}{es:List Expr}{t:TA} (ok:XOk X E) (hc:X.calm=true) (O:XCls X.K X.mg x C) (hg:Gl X x) (ha:PA X (e0::es) t)
    (he:starEach (e0::es) X.env=(false,eval e0 X.env)::starEach es X.env:=by rfl) (hplain:(backTo cpos (starEach es X.env)).any (·.1)=false:=by rfl) (hdb:(x == ("__debug__" : Str))=false:=by decide) :
    PS X (.Raise (some (.Call (.Name x np) (e0::es) [] cpos)) none pos) (tRaise C E t):=by
  intro pins s σ H D I h
  obtain ⟨tl,N,nm,q,bs,hdct,sn,sub,ab,col,dd,k0,k1,k2,k3,k5,mN,hC,hN,hni,T,_⟩:=xcls_obj I.mod.kin O.exc
  refine wpAny_Raise_call_subU (C:=C) (nm:=nm) (q:=q) (N:=N) (bs:=bs) (bm:=tl) (hdct:=hdct) (sn:=sn) (sub:=sub) (ab:=ab) (col:=col) (dd:=dd) (k0:=k0) (k1:=k1) (k2:=k2) (k3:=k3) (k5:=k5)
    PySem.F.excBase_ValueError (by decide) PySem.F.excBase_ValueError (mN:=mN) (T.hasType PySem.F.excBase_ValueError.hasBase) (I.ok.hd hc) (by rw [he]; show (false || (backTo cpos (starEach es X.env)).any (·.1))=false; rw [hplain]; rfl) hni ?_
  refine ld_glob I hg O.bound ⟨rfl,?_⟩ hdb
  have hpa:=ha cpos pins s σ H _ I h
  rw [he] at hpa ⊢
  refine Calls.evalArgs_plain (wpAny_mono hpa (fun vs s₂ h₂=>?_) fun _ _ y=>y)
  obtain ⟨us,H1,I1,r,q1⟩:=h₂
  exact ⟨rfl,by rw [← r.length]; exact q1.1,I1.bk _ _ hC,hN.keeps I1.bk,T.keeps I1.bk,fun h' e hm=>ok.made pins σ H1 s₂ h' e C vs I1 hm q1.2⟩
end
section
variable {P:Program}{w:World}{K:PySem.W.Frag}{mg:Str→Option Value}{base:Heap}
theorem Fun.okR {x qual:Str}{st:Stmt}{f:Addr}{fd:FuncData}{N ps:List Str}{k:Nat}{sp:Sp} (F:Fun K x qual st f fd) (S:FnScope N ps (defScope st)) (len:∀ vs H Q E,sp vs H Q E→vs.length=ps.length)
    (hbody:∀ (cdv:Value) (A:Around) (outer:List Env) (s:Shared) (H:Hp) (vs:List V) (Q:VK) (E:XK),Room k (A.deeper (envOfC qual (defScope st) s.heap.objs.size f cdv))→sp vs H Q E→XOk (cxOf (CXr P w) P w K mg base N qual (defScope st) f cdv A outer s H E) E →
      ∃ t,PSs (cxOf (CXr P w) P w K mg base N qual (defScope st) f cdv A outer s H E) (defBody st) t∧t { nx:=fun _ H'=>Q .non H',rt:=Q } (start N vs) H):FnOk P w K mg base (CXr P w) (k+1) f fd ps sp:=by
  obtain ⟨oc,od,kV,doc,pm,an,cdv,ct,osl,rfl,lk,hcd⟩:=F.ex
  refine fn_of lk hcd S len fun A outer s H vs Q E hr hsp=>?_
  exact hbody cdv A outer s H vs Q E hr hsp xok_fn
def CalR (P:Program) (w:World) (K:PySem.W.Frag) (mg:Str→Option Value) (base:Heap) (k:Nat) (x:Str) (ps:List Str) (sp:Sp):Prop :=
  ∃ (f:Addr) (fd:FuncData),FnOk P w K mg base (CXr P w) k f fd ps sp∧mg x=some (.ref f)∧PySem.W.keepIn K (.ref f)=true∧Binds K fd ps []
theorem pe_calR {X:Cx}{k:Nat}{x:Str}{ps:List Str}{sp:Sp}{p pos:Pos}{e:Expr}{es:List Expr}{t:TA}{E:XK} (C:CalR X.prog X.w X.K X.mg X.base k x ps sp) (ok:Passes (CXr X.prog X.w) X E) (hr:Room k X.A) (hg:Gl X x) (ha:PA X (e::es) t)
    (hs:starEach (e::es) X.env=(false,eval e X.env)::starEach es X.env:=by rfl) (hplain:(backTo pos (starEach es X.env)).any (·.1)=false:=by rfl)
    (hdb:(x == ("__debug__" : Str))=false:=by decide):PE X (.Call (.Name x p) (e::es) [] pos) (tCall sp [] E t):=by
  obtain ⟨f,fd,G,hm,kp,b⟩:=C
  exact pe_call G hr hg hm kp b .nil ok ha hdb hs hplain
end
def XO (e C:Addr):HO:=.ext fun h=>∃ oe vs,h.get? e=some oe∧oe.cls=.ref C∧oe.data=.fields vs
section
variable {M:Model}{A:Around}{E:Value→Shared→Prop}{h:Heap}{g:Array GenState}{d:Drawn}{t:Nat}{os:OsState}
theorem exc_matches_own {nm q:Str}{C N:Addr}{bs bm:List Value}{hdct:Bool}{sn:List Str}{sub:List Value}{ab:Bool}{col:Option Bool}{dd:Option Addr}{k0 k1 k2 k3 k5:Option Value}{newId:String}
    {nm' q':Str} {L N':Addr} {bs' bm':List Value} {hdct':Bool} {sn':List Str} {sub':List Value} {ab':Bool} {col':Option Bool} {dd':Option Addr} {j0 j1 j2 j3 j5:Option Value} {newId':String} {e:Addr} {oe:Obj} {Q:Bool→Shared→Prop}
    (hC:h.get? C=some (excClassObj nm q C N bs bm hdct sn sub ab col dd k0 k1 k2 k3 k5 newId)) (hL:h.get? L=some (excClassObj nm' q' L N' bs' bm' hdct' sn' sub' ab' col' dd' j0 j1 j2 j3 j5 newId')) (he:h.get? e=some oe) (hcls:oe.cls=.ref C) (hbase:bm'.contains (.type "BaseException")=true)
    (hin:(Value.ref C::bm).contains (.ref L)=true) (hq:Q true ⟨h,g,d,t,os⟩):wpAny M A (excMatches (.ref e) (.ref L)) Q E ⟨h,g,d,t,os⟩:=by
  have hcB:(Value.ref L::bm').contains (.type "BaseException")=true:=by rw [List.contains_cons,hbase,Bool.or_true]
  have f:=tc_notTuple
  unfold excMatches
  repeat (first | (with_reducible refine wpAny_loadPart_at he ?_; rw [hcls]) | with_reducible refine wpAny_loadPart_at hL ?_ | (with_reducible refine wpAny_isSubtype_exc hL ?_; rw [hcB]) | (with_reducible refine wpAny_isSubtype_exc hC ?_; rw [hin]) | wp_step)
  exact hq
end
abbrev Cx.hand (X:Cx) (e:Addr):Cx:={ X with A:=X.A.mark (some (.ref e)),calm:=false,xe:=fun _ _=>False }
section
variable {X:Cx}{pins:List (Addr × Obj)}{σ:St}{H:Hp}{s:Shared}{e:Addr}
theorem Inv.hand (I:Inv X pins σ H s) (e:Addr):Inv (X.hand e) pins σ H s :=
  ⟨⟨I.ok.mod,I.ok.kind,I.ok.glob,I.ok.blt,I.ok.above,I.ok.inj,I.ok.has,I.ok.cab,(fun z=>by cases z),I.ok.frames,I.ok.stk,I.ok.exf,I.ok.bs,I.ok.bsz,I.ok.noex,I.ok.exfs,I.ok.funs,I.ok.frf⟩,I.os,I.bare,I.base,I.loc,I.cell,I.free,I.freeC,I.pin,I.hok,I.len⟩
theorem Inv.unhand (I:Inv (X.hand e) pins σ H s) (ok:X.Ok):Inv X pins σ H s :=
  ⟨ok,I.os,I.bare,I.base,I.loc,I.cell,I.free,I.freeC,I.pin,I.hok,I.len⟩
theorem Inv.track {a:Addr}{o:HO} (I:Inv X pins σ H s) (hn:H a=none) (hnew:∀ b ob,X.s₀.heap.get? b=some ob→b≠a) (hL:X.env.locals≠a) (hc:∀ x c,X.env.cells.lookup x=some c→c≠a) (hp:∀ p∈X.pn++pins,p.1≠a)
    (new:ObjOk X.prog X.w (upd H a o) s.heap a o):Inv X pins σ (upd H a o) s :=
  ⟨I.ok,I.os,I.bare,⟨I.base.keep,I.base.slot,fun b ob q n hx=>by rw [upd_ne (hnew b ob q)]; exact I.base.free b ob q n hx,I.base.there,fun b xs q=>by rw [upd_ne (ne_of_none (I.base.tups b xs q) hn)]; exact I.base.tups b xs q,
    fun b ob u q=>by rw [upd_ne (ne_of_none (I.base.frzs b ob u q) hn)]; exact I.base.frzs b ob u q,fun b ps q=>let ⟨m,z⟩:=I.base.tbls b ps q; ⟨m,by rw [upd_ne (ne_of_none z hn)]; exact z⟩⟩,I.loc,I.cell,by rw [upd_ne hL]; exact I.free,
    fun x c q=>by rw [upd_ne (hc x c q)]; exact I.freeC x c q,fun p q=>let ⟨a1,a2,a3⟩:=I.pin p q; ⟨a1,by rw [upd_ne (hp p q)]; exact a2,a3⟩,I.hok.track hn new,I.len⟩
def subOf (K:PySem.W.Frag) (C L:Addr):Bool:=match K.lookup C with
  | some ⟨_,_,.cls cd,_⟩=>cd.mro.contains (.ref L)
  | _=>false
abbrev Cx.tryb (X:Cx) (ET:Value→Shared→Prop) (pn:List (Addr × Obj)):Cx:={ X with xe:=ET,pn:=pn }
theorem Inv.tryb (I:Inv X pins σ H s) (ET:Value→Shared→Prop):Inv (X.tryb ET (X.pn++pins)) [] σ H s :=
  ⟨⟨I.ok.mod,I.ok.kind,I.ok.glob,I.ok.blt,I.ok.above,I.ok.inj,I.ok.has,I.ok.cab,I.ok.hd,I.ok.frames,I.ok.stk,I.ok.exf,I.ok.bs,I.ok.bsz,I.ok.noex,I.ok.exfs,I.ok.funs,I.ok.frf⟩,I.os,I.bare,I.base,I.loc,I.cell,I.free,I.freeC,fun p hp=>I.pin p (by
    have hp':p∈(X.pn++pins)++[]:=hp
    rw [List.append_nil] at hp'
    exact hp'),I.hok,I.len⟩
theorem Inv.untryb {ET:Value→Shared→Prop}{pins':List (Addr × Obj)} (I:Inv (X.tryb ET (X.pn++pins)) pins' σ H s) (ok:X.Ok):Inv X pins σ H s :=
  ⟨ok,I.os,I.bare,I.base,I.loc,I.cell,I.free,I.freeC,fun p hp=>I.pin p (List.mem_append_left _ hp),I.hok,I.len⟩
end
structure RoomB (k:Nat) (A:Around):Prop where
  dp:A.depth+3 * k+5 < recursionLimit
  un:A.units+16 * k+200 < cLine
structure FnB (P:Program) (w:World) (K:PySem.W.Frag) (mg:Str→Option Value) (base:Heap) (CX:CXT) (k:Nat) (f:Addr) (fd:FuncData) (ps:List Str) (sp:Sp):Prop where
  len:∀ vs H Q E,sp vs H Q E→vs.length=ps.length
  run:∀ (A:Around) (outer:List Env) (s:Shared) (H:Hp) (args:Args) (us:List Value) (vs:List V) (Q:VK) (E:XK),RoomB k A→Env0 P w K mg base A outer s H→BindsTo s fd args (ps.zip us)→Vals vs us→sp vs H Q E →
    codeAny (model P w) A (.call (.ref f) args) (CR CX outer P w H s Q E) s
section
variable {P:Program}{w:World}{K:PySem.W.Frag}{mg:Str→Option Value}{base:Heap}
def CalB (P:Program) (w:World) (K:PySem.W.Frag) (mg:Str→Option Value) (base:Heap) (k:Nat) (x:Str) (ps:List Str) (sp:Sp):Prop :=
  ∃ (f:Addr) (fd:FuncData),FnB P w K mg base CX0 k f fd ps sp∧mg x=some (.ref f)∧PySem.W.keepIn K (.ref f)=true∧Binds K fd ps []
end
end L2
end
section
namespace L2
open PySem PySem.Spec PyProof.Rows
section
variable {prog:Program}{w:World}{A:Around}{E:Value→Shared→Prop}{h:Heap}{g:Array GenState}{d:Drawn}{t:Nat}{os:OsState}{K:PySem.W.Frag}{C a:Addr}{o:Obj}{vs:Array Value}
end
section
variable {X:Cx}
end
end L2
end
section
namespace L2
open PySem PySem.Spec PyProof.Rows
section
variable {X:Cx}
end
end L2
end
section
namespace L2
open PySem PySem.Spec PyProof.Rows
theorem HOk.freeze {P:Program}{w:World}{H:Hp}{h:Heap}{a:Addr}{o:Obj}{kvs:List (Key × V)} (x:HOk P w H h) (e:H a=some (.dK kvs)) (ho:h.get? a=some o):HOk P w (upd H a (.frz o (.dK kvs))) h:=fun b u eb=>by
  by_cases hb:b=a
  · subst hb; rw [upd_same] at eb; cases eb
    exact ⟨ho,x b _ e⟩
  · rw [upd_ne hb] at eb
    refine (x b u eb).stay (fun c v _ q=>q) (fun c q=>?_) fun c xs q=>?_
    · rw [upd_ne (by rintro rfl; rw [e] at q; cases q)]; exact q
    · rw [upd_ne (by rintro rfl; rw [e] at q; cases q)]; exact q
theorem is_kV {P:Program}{w:World}{k:Key}{u:Value} (h:(mixKind P w).is k u=true):RelV (kV k) u:=by
  rw [mixKind_is] at h
  rcases keyIs_shape h with ⟨i,t,rfl,rfl⟩ | ⟨x,t,rfl,rfl⟩
  · exact ⟨_,rfl⟩
  · exact ⟨_,rfl⟩
theorem paired_get {α β:Type}{F:α→β→Prop}:∀ {l₁:List α}{l₂:List β}{i:Nat}{x:α},Paired F l₁ l₂→l₁[i]?=some x→∃ y,l₂[i]?=some y∧F x y
  | [],_,i,x,_,h=>by simp at h
  | a::l,[],i,x,p,_=>by cases p
  | a::l,b::m,0,x,p,h=>by
    cases p with
    | cons h1 h2=>cases h; exact ⟨b,rfl,h1⟩
  | a::l,b::m,i+1,x,p,h=>by
    cases p with
    | cons h1 h2 =>
      obtain ⟨y,e1,e2⟩:=paired_get (i:=i) (x:=x) h2 (by simpa using h)
      exact ⟨y,by simpa using e1,e2⟩
section
variable {X:Cx}{pins:List (Addr × Obj)}{σ:St}{H:Hp}{s:Shared}{tg:Expr}
theorem Inv.freeze {a:Addr}{o:Obj}{kvs:List (Key × V)} (I:Inv X pins σ H s) (e:H a=some (.dK kvs)) (ho:s.heap.get? a=some o):Inv X pins σ (upd H a (.frz o (.dK kvs))) s:=by
  have ne:∀ {b:Addr} {u:Option HO},H b=u→u≠some (.dK kvs)→b≠a:=fun {b u} q n z=>n (by rw [← q,z,e])
  refine ⟨I.ok,I.os,I.bare,⟨I.base.keep,I.base.slot,fun b ob q n hx=>?_,I.base.there,fun b xs q=>?_,fun b ob u q=>?_,fun b ps q=>?_⟩,I.loc,I.cell,?_,fun x c q=>?_,fun p q=>?_,I.hok.freeze e ho,I.len⟩
  · have:=I.base.free b ob q n hx
    rw [upd_ne (ne this (by simp))]; exact this
  · have:=I.base.tups b xs q
    rw [upd_ne (ne this (by simp))]; exact this
  · have:=I.base.frzs b ob u q
    rw [upd_ne (ne this (by simp))]; exact this
  · obtain ⟨m,z⟩:=I.base.tbls b ps q
    exact ⟨m,by rw [upd_ne (ne z (by simp))]; exact z⟩
  · have:=I.free
    rw [upd_ne (ne this (by simp))]; exact this
  · have:=I.freeC x c q
    rw [upd_ne (ne this (by simp))]; exact this
  · obtain ⟨a1,a2,a3⟩:=I.pin p q
    exact ⟨a1,by rw [upd_ne (ne a2 (by simp))]; exact a2,a3⟩
end
end L2
end
section
namespace L2
open PySem PySem.Spec PyProof.Rows
theorem entry_itemiter_iter:entryFor table "dict_itemiterator.__iter__" = some Builtin.«dict_keyiterator.__iter__» :=
  entryFor_alias (id' := "dict_keyiterator.__iter__") (by kernel_rfl) rfl (by decide +kernel) (by kernel_rfl)
def Iti (a:Addr) (o:Obj) (kvs:List (Key × V)):It where
  go:=fun i H=>H a=some (.frz o (.dK kvs))∧i < kvs.length
  yld:=fun i H x H'=>∃ T q,x=.ref T∧H T=none∧H'=upd H T (.tup [kV q.1,q.2])∧kvs[i]?=some q
  stop:=fun i H=>H a=some (.frz o (.dK kvs))∧kvs.length≤i
theorem turn_items {P:Program}{w:World}{K:PySem.W.Frag}{elts:List Expr}{k:Nat}{pos:Pos} (a it:Addr) (o:Obj) (kvs:List (Key × V)) (n ep:Nat) (hn:n=kvs.length) (hep:∃ es,o.data=.dict es ep) :
    Turn P w K (.Tuple elts k pos) (Iti a o kvs) [it] it (fun i h=>∃ ok ov,IsItemIter h it a i n ep ok ov) where
  mem:=by simp
  obj:=fun i h st b hb=>by
    have e:b=it:=by simpa using hb
    subst e
    obtain ⟨ok,ov,st⟩:=st
    exact ⟨_,st,fun v z=>by
      have z':Data.fields _=Data.cell v:=z
      cases z'⟩
  keep:=fun i h h' st kk=>let ⟨ok,ov,st⟩:=st; ⟨ok,ov,kk it (by simp) _ st⟩
  item:=by
    intro X hP hw hK hc i pins s σ H E I hf st hg
    subst hP hw hK
    obtain ⟨hfz,hi⟩:=hg
    obtain ⟨ok,ov,st⟩:=st
    obtain ⟨z,hS,vs,rel,dd⟩:=dk_rd I.hok (.inr ⟨o,hfz⟩)
    obtain ⟨hget,_⟩:=(show s.heap.get? a=some o∧_ from I.hok a _ hfz)
    obtain ⟨ep',dat⟩:=dd.dictAt
    have epe:ep'=ep:=by
      obtain ⟨o',es,h1,_,h2,_⟩:=id dat
      obtain ⟨es',h3⟩:=hep
      rw [hget] at h1; cases h1
      rw [h2] at h3; injection h3
    subst epe
    have hlen:vs.length=n:=by rw [hn]; exact (Paired.length rel).symm
    rw [← hlen] at st
    obtain ⟨q,hq⟩:∃ q,vs[i]?=some q:=⟨_,List.getElem?_eq_getElem (by omega)⟩
    obtain ⟨k,v⟩:=q
    obtain ⟨p,hp,e1,e2⟩:∃ p,kvs[i]?=some p∧p.1=k∧RelV p.2 v:=by
      have hi':i < kvs.length:=hi
      obtain ⟨y,hy,hr⟩:=paired_get rel (List.getElem?_eq_getElem hi')
      rw [hq] at hy; cases hy
      exact ⟨_,List.getElem?_eq_getElem hi',hr.1,hr.2⟩
    refine wpAny_pyNext_items_item st dat hq fun key h' hkey hout hT hsz hk=>?_
    refine ⟨_,rfl,wpAny_letOwnedTupleGo_items hout fun h2 he2 hs2=>?_⟩
    have hTn:s.heap.get? s.heap.objs.size=none:=by
      cases g:s.heap.get? s.heap.objs.size with
      | none=>rfl
      | some o=>exact absurd (Heap.lt_size g) (Nat.lt_irrefl _)
    have hel:it < s.heap.objs.size:=Heap.lt_size st
    have hT2:h2.get? s.heap.objs.size=some { cls:=.type "tuple",data:=.seq #[key,v] }:=(hs2.2 _ (Nat.ne_of_gt hel)).trans hT
    refine ⟨.ref s.heap.objs.size,upd H s.heap.objs.size (.tup [kV p.1,p.2]),I.turnedT (fp:=[it]) (h':=h2) (t':=s.toks) (fun b ob hb q=>?_) hf hTn ⟨by show 2≤sizeLine; decide,[key,v],.cons (by rw [e1]; exact is_kV hkey) (.cons e2 .nil),⟨_,hT2,rfl,_,rfl⟩⟩,rfl,
      ⟨_,p,rfl,I.hok.free hTn,rfl,hp⟩,⟨_,_,by rw [hlen] at he2; exact he2⟩,fun b hb=>?_⟩
    · have hbe:b≠it:=fun z=>hb (by simp [z])
      exact (hs2.2 b hbe).trans (hk b ob hbe q)
    · rw [upd_ne]
      · exact (hf b hb).1
      · rintro rfl
        have z':s.heap.objs.size=it:=by simpa using hb
        exact absurd hel (by rw [z']; exact Nat.lt_irrefl _)
  done:=by
    intro X hP hw hK hc i pins s σ H E I hf st hg
    subst hP hw hK
    obtain ⟨hfz,hi⟩:=hg
    obtain ⟨ok,ov,st⟩:=st
    obtain ⟨z,hS,vs,rel,dd⟩:=dk_rd I.hok (.inr ⟨o,hfz⟩)
    obtain ⟨hget,_⟩:=(show s.heap.get? a=some o∧_ from I.hok a _ hfz)
    obtain ⟨ep',dat⟩:=dd.dictAt
    have epe:ep'=ep:=by
      obtain ⟨o',es,h1,_,h2,_⟩:=id dat
      obtain ⟨es',h3⟩:=hep
      rw [hget] at h1; cases h1
      rw [h2] at h3; injection h3
    subst epe
    have hlen:vs.length=n:=by rw [hn]; exact (Paired.length rel).symm
    rw [← hlen] at st
    obtain ⟨f0,f1,f2,f3,f4,f5⟩:=hf it (by simp)
    refine wpAny_pyNext_items_end (I.ok.hd hc) st dat (by rw [List.getElem?_eq_none]; omega) fun h' he=>⟨rfl,?_⟩
    exact I.turned (t':=s.toks) (fun b o hb e=>he b o hb e) f0 f1 f3 f4 f5
  self:=fun A i s Q E st hq=>by
    obtain ⟨ok,ov,st⟩:=st
    have hT:s.TypeIs (.ref it) "dict_itemiterator" := ⟨_,st,rfl⟩
    refine wpAny_pyIter_slot hT F.slot_dict_itemiterator_iter (wpAny_call_entry F.slot_dict_itemiterator_iter hT entry_itemiter_iter ?_ (F.args_dict_itemiterator_iter_1 _))
    show wpAny _ _ (ret (.ref it)) _ _ s
    exact wpAny_pure ⟨_,rfl, "dict_itemiterator",_,hT,F.slot_dict_itemiterator_next.lookup,hq⟩
section
variable {X:Cx}{elts:List Expr}{kk:Nat}{tpos:Pos}{tg:Expr}
def iItems (tl:TE):TI:=fun σ H R=>tl σ H fun x H1=>∃ p a kvs,x=.ref p∧H1 p=some (VW p a)∧H1 a=some (.dK kvs)∧∀ o,R (Iti a o kvs) (upd H1 a (.frz o (.dK kvs)))
theorem pi_items {l:Expr}{tl:TE} (hl:PE X l tl):PI X (.Tuple elts kk tpos) l (iItems tl):=by
  intro pins s σ H R I h
  refine thn (hl pins s σ H _ I h) fun v s1 ⟨x,H1,I1,r1,q1⟩=>?_
  obtain ⟨p,a,kvs,e,hp,hq,q⟩:=q1
  subst e
  cases r1
  obtain ⟨z,hS,vs,rel,dd⟩:=dk_of I1.hok hq
  obtain ⟨ep,dat⟩:=dd.dictAt
  obtain ⟨o,es,ho,_,hod,_⟩:=id dat
  have hvw:s1.heap.get? p=some (vwObj a):=(I1.hok p _ hp).1
  refine wpAny_pyIter_items (v:=p) ⟨_,hvw,rfl,rfl⟩ dat ?_
  have I2:=(I1.freeze hq ho).kept (t':=s1.toks) (h':=s1.heap.push { cls:=.type "dict_itemiterator",data:=.fields #[.none,.bool false,.ref a,.int 0 0,.int vs.length 0,.int ep 0,.none,.none] }) fun b o e=>Heap.get?_push_of_some _ e
  refine ⟨s1.heap.objs.size,[s1.heap.objs.size],_,_,upd H1 a (.frz o (.dK kvs)),rfl,I2,turn_items a _ o kvs vs.length ep (Paired.length rel).symm ⟨es,hod⟩,⟨_,_,Heap.get?_push_size _ rfl⟩,fun b hb=>?_,q o⟩
  have e:b=s1.heap.objs.size:=by simpa using hb
  subst e
  exact (I1.freeze hq ho).fpOk (Nat.le_refl _) ((I1.freeze hq ho).hok.fresh (Nat.le_refl _))
theorem comp_items {a:Addr}{o:Obj}{kvs:List (Key × V)}{caps:List Nat}{n:Nat}{σ:St}{g:TG}{te:TE}{F:List V→Hp→Prop}{H1:Hp} (cv:St) (k:Nat) (hn:kvs.length < 1000)
    (Pv:Nat→List V→Hp→Prop) (h0:Pv 0 [] H1) (hk:∀ i acc H,i≤kvs.length→Pv i acc H→H a=some (.frz o (.dK kvs))∧acc.length≤i)
    (turn:∀ (i:Nat) (q:Key × V) (T:Addr) (acc:List V) (H:Hp) (ys:St) (Nx:List V→St→Hp→Prop),(∀ acc' H' zs,zs.length=k→Pv (i+1) acc' H'→Nx acc' (cv++zs) H')→kvs[i]?=some q→ys.length=k→Pv i acc H→H T=none →
      g (.ref T) (cv++ys) (upd H T (.tup [kV q.1,q.2])) fun σ2 H3=>te σ2 H3 fun y H5=>Nx (acc++[y]) σ2 H5)
    (fin:∀ acc H,Pv kvs.length acc H→F acc H) (hcv:capStart caps n σ=cv++List.replicate k none:=by rfl) :
    ∃ W:Nat→Nat→List V→St→Hp→Prop,(∃ m,W 0 m [] (capStart caps n σ) H1)∧∀ i m acc σ' H',W i m acc σ' H' →
      ((Iti a o kvs).stop i H'∧F acc H') ∨
      ((Iti a o kvs).go i H'∧acc.length < sizeLine∧∀ x H2,(Iti a o kvs).yld i H' x H2→g x σ' H2 fun σ2 H3=>tYes σ2 H3 fun b H4=>if b=true then te σ2 H4 fun y H5=>∃ m',m' < m∧W (i+1) m' (acc++[y]) σ2 H5 else ∃ m',m' < m∧W (i+1) m' acc σ2 H4):=by
  refine ⟨fun i m acc σ' H'=>i≤kvs.length∧m=kvs.length - i∧(∃ ys,ys.length=k∧σ'=cv++ys)∧Pv i acc H',⟨kvs.length,Nat.zero_le _,rfl,⟨_,by simp,hcv⟩,h0⟩,?_⟩
  rintro i m acc σ' H' ⟨hi,rfl,⟨ys,hy,rfl⟩,pv⟩
  obtain ⟨hH,ha⟩:=hk i acc H' hi pv
  by_cases e:i=kvs.length
  · subst e
    exact .inl ⟨⟨hH,Nat.le_refl _⟩,fin acc H' pv⟩
  · have hi':i < kvs.length:=by omega
    refine .inr ⟨⟨hH,hi'⟩,by rw [sizeLine_eq]; omega,fun x H2 hy2=>?_⟩
    obtain ⟨T,q,rfl,hT,rfl,hq⟩:=hy2
    have:=turn i q T acc H' ys (fun acc' σ2 H5=>∃ m',m' < kvs.length - i∧(i+1≤kvs.length∧m'=kvs.length - (i+1)∧(∃ ys,ys.length=k∧σ2=cv++ys)∧Pv (i+1) acc' H5)) (fun acc' H5 zs hz p=>⟨kvs.length - (i+1),by omega,by omega,rfl,⟨zs,hz,rfl⟩,p⟩) hq hy pv hT
    have e:(fun (σ2:St) (H3:Hp)=>tYes σ2 H3 fun b H4=>if b=true then te σ2 H4 fun y H5=>∃ m',m' < kvs.length - i∧(i+1≤kvs.length∧m'=kvs.length - (i+1)∧(∃ ys,ys.length=k∧σ2=cv++ys)∧Pv (i+1) (acc++[y]) H5) else ∃ m',m' < kvs.length - i∧(i+1≤kvs.length∧m'=kvs.length - (i+1)∧(∃ ys,ys.length=k∧σ2=cv++ys)∧Pv (i+1) acc H4))=fun σ2 H3=>te σ2 H3 fun y H5=>∃ m',m' < kvs.length - i∧(i+1≤kvs.length∧m'=kvs.length - (i+1)∧(∃ ys,ys.length=k∧σ2=cv++ys)∧Pv (i+1) (acc++[y]) H5):=by
      funext σ2 H3
      unfold tYes
      simp
    rw [e]
    exact this
end
end L2
end
section
namespace L2
open PySem PySem.Spec PyProof.Rows
section
variable {X:Cx}
theorem eqg_str (a b:Str) (t u:Tok):PySem.MeetsSeq.EqGives (.str a t) (.str b u) (a == b):=fun prog w A E s Q h=>SeqAt.EqAt.str_str a t b u prog w _ _ h
def isSt (b:Str):Value→Bool
  | .str x _=>x == b
  | _=>false
theorem strs_get {ss:List Str}:∀ {us:List Value},Vals (ss.map V.str) us→us.length=ss.length∧∀ (i:Nat) (z:Str),ss[i]?=some z→∃ t,us[i]?=some (Value.str z t):=by
  induction ss with
  | nil=>intro us h; cases h; exact ⟨rfl,fun i z h=>by simp at h⟩
  | cons s ss ih =>
    intro us h
    cases h with
    | cons h1 h2 =>
      obtain ⟨t,rfl⟩:=h1
      obtain ⟨e1,e2⟩:=ih h2
      refine ⟨by rw [List.length_cons,List.length_cons,e1],fun i z h=>?_⟩
      cases i with
      | zero=>cases (Option.some.inj h:s=z); exact ⟨t,rfl⟩
      | succ i=>exact e2 i z h
theorem mt_indexT:MtM X "list.index" (fun x vs H Q=>∃ (l:Addr) (bs:List Str) (b:Str) (j:Nat),x=.ref l∧vs=[.str b]∧H l=some (.lst (bs.map V.str))∧bs[j]?=some b∧(∀ i,i < j→bs[i]?≠some b)∧j < 1000∧Q (.int (j:Nat)) H):=by
  intro pins s σ H x vs v us Q I rx rv h
  obtain ⟨l,bs,b,j,rfl,rfl,hH,hj,hno,hz,q⟩:=h
  cases rx
  obtain ⟨u,rfl,ru⟩:=rv.one
  obtain ⟨tb,rfl⟩:=ru
  obtain ⟨z,its,n,r,hl,e⟩:=I.lstM hH
  obtain ⟨hlen,hget⟩:=strs_get r
  have hjl:j < bs.length:=(List.getElem?_eq_some_iff.mp hj).1
  obtain ⟨tj,hgj⟩:=hget j b hj
  refine call_meets PySem.F.slot_list_index ⟨_,e,rfl⟩ PySem.F.entry_list_index (PySem.F.args_list_index_2 _ _) (MeetsSeq.list_index l _ n _ (isSt b) (fun y hy=>?_) j (by simpa [hlen] using hjl) (by omega) ?_ (fun m hm hmj=>?_)) ⟨e,?_⟩
  · have hy':y∈its:=by simpa using hy
    obtain ⟨i,hi,e1⟩:=List.mem_iff_getElem.mp hy'
    have hib:i < bs.length:=by omega
    obtain ⟨ti,hgi⟩:=hget i bs[i] (List.getElem?_eq_getElem hib)
    rw [List.getElem?_eq_getElem hi] at hgi
    have e2:=Option.some.inj hgi
    rw [e1] at e2
    subst e2
    exact eqg_str _ _ _ _
  · have hjs:j < its.length:=by omega
    rw [List.getElem?_eq_getElem hjs] at hgj
    have e2:=Option.some.inj hgj
    simp [isSt,e2]
  · have hm':m < its.length:=by simpa using hm
    have hmb:m < bs.length:=by omega
    obtain ⟨tm,hgm⟩:=hget m bs[m] (List.getElem?_eq_getElem hmb)
    rw [List.getElem?_eq_getElem hm'] at hgm
    have e2:=Option.some.inj hgm
    have:=hno m hmj
    rw [List.getElem?_eq_getElem hmb] at this
    have h2:bs[m]≠b:=fun z=>this (by rw [z])
    simp [isSt,e2,h2]
  · exact ⟨.int (j:Nat),H,I.tok _,⟨_,rfl⟩,q⟩
end
end L2
end
section
namespace Kn
theorem endOf_end (t l:S) (o:Nat):endOf (endOf t o++l) o=endOf (t++l) o:=by
  unfold endOf
  rw [List.length_append,List.length_append,List.length_drop]
  by_cases h:t.length≤o
  · rw [show t.length - o=0 by omega,List.drop_zero,Nat.sub_zero]
  · rw [List.drop_append,List.drop_append,List.drop_drop,List.length_drop]
    congr 1
    · congr 1; omega
    · congr 1; omega
def pp (o:Nat) (t:S):List (S × S):=(List.range t.length).map fun p=>(endOf (t.take p) o,(t.drop p).take 1)
theorem pairs1_pp (o:Nat) (t:S):pairs1 o t=pp o t++[(endOf t o,[])]:=by
  unfold pairs1 pp
  rw [List.range_succ,List.map_append]
  simp
theorem pair_next {o:Nat}{nm e:S}{c:Nat} (h:(e,[c])∈pairs1 o nm):∃ l,(endOf (e++[c]) o,l)∈pairs1 o nm:=by
  unfold pairs1 at h
  obtain ⟨p,hp,e1⟩:=List.mem_map.mp h
  have hp':p < nm.length+1:=List.mem_range.mp hp
  have e2:endOf (nm.take p) o=e:=congrArg Prod.fst e1
  have e3:(nm.drop p).take 1=[c]:=congrArg Prod.snd e1
  have hl:p < nm.length:=by
    by_cases h:p < nm.length
    · exact h
    · rw [List.drop_of_length_le (by omega)] at e3; cases e3
  have e4:nm.take (p+1)=nm.take p++[c]:=by
    rw [← e3,← List.take_add]
  refine ⟨(nm.drop (p+1)).take 1,?_⟩
  rw [← e2,endOf_end,← e4]
  exact List.mem_map.mpr ⟨p+1,List.mem_range.mpr (by omega),rfl⟩
theorem pairB_next {o:Nat}{bk:List S}{e:S}{c:Nat} (h:(e,[c])∈pairsB o bk):∃ l,(endOf (e++[c]) o,l)∈pairsB o bk:=by
  obtain ⟨nm,hn,hp⟩:=List.mem_flatMap.mp h
  obtain ⟨l,hl⟩:=pair_next hp
  exact ⟨l,List.mem_flatMap.mpr ⟨nm,hn,hl⟩⟩
theorem pair_one {o:Nat}{nm e l:S} (h:(e,l)∈pairs1 o nm):l.length≤1:=by
  unfold pairs1 at h
  obtain ⟨p,_,e1⟩:=List.mem_map.mp h
  have e3:(nm.drop p).take 1=l:=congrArg Prod.snd e1
  rw [← e3,List.length_take]; omega
theorem pairB_one {o:Nat}{bk:List S}{e l:S} (h:(e,l)∈pairsB o bk):l.length≤1:=by
  obtain ⟨nm,hn,hp⟩:=List.mem_flatMap.mp h
  exact pair_one hp
theorem one_of {l:S} (h:l.length≤1) (hn:l≠[]):∃ c,l=[c]:=by
  match l,h,hn with
  | [c],_,_=>exact ⟨c,rfl⟩
end Kn
end
section
namespace Kn
def insS (x:S):List S→List S
  | []=>[x]
  | y::l=>if x < y then x::y::l else if y < x then y::insS x l else y::l
def srtS (l:List S):List S:=l.foldr insS []
theorem insS_mem (x z:S):∀ l:List S,z∈insS x l↔z=x∨z∈l
  | []=>by simp [insS]
  | y::l=>by
    have ih:=insS_mem x z l
    unfold insS
    split
    · simp
    · split
      · rw [List.mem_cons,ih,List.mem_cons]
        constructor
        · rintro (h | h | h)
          · exact .inr (.inl h)
          · exact .inl h
          · exact .inr (.inr h)
        · rintro (h | h | h)
          · exact .inr (.inl h)
          · exact .inl h
          · exact .inr (.inr h)
      · rename_i h1 h2
        have e:=s_tri x y h1 h2
        subst e
        rw [List.mem_cons]
        exact ⟨fun h=>.inr h,fun h=>h.elim .inl id⟩
theorem insS_ris (x:S):∀ l:List S,l.Pairwise (· < ·)→(insS x l).Pairwise (· < ·)
  | [],_=>by simp [insS]
  | y::l,h=>by
    have h1:=List.pairwise_cons.mp h
    unfold insS
    split
    · rename_i hx
      refine List.pairwise_cons.mpr ⟨fun z hz=>?_,h⟩
      rcases List.mem_cons.mp hz with e | e
      · rw [e]; exact hx
      · exact s_tr hx (h1.1 z e)
    · split
      · rename_i hy
        refine List.pairwise_cons.mpr ⟨fun z hz=>?_,insS_ris x l h1.2⟩
        rcases (insS_mem x z l).mp hz with e | e
        · rw [e]; exact hy
        · exact h1.1 z e
      · exact h
theorem srtS_mem (z:S):∀ l:List S,z∈srtS l↔z∈l
  | []=>by simp [srtS]
  | y::l=>by
    show z∈insS y (srtS l)↔_
    rw [insS_mem,srtS_mem z l,List.mem_cons]
theorem srtS_ris:∀ l:List S,(srtS l).Pairwise (· < ·)
  | []=>List.Pairwise.nil
  | y::l=>insS_ris y _ (srtS_ris l)
theorem ris_uniq:∀ {l m:List S},l.Pairwise (· < ·)→m.Pairwise (· < ·)→(∀ x,x∈l↔x∈m)→l=m
  | [],[],_,_,_=>rfl
  | [],y::ys,_,_,h=>absurd ((h y).mpr (List.mem_cons_self ..)) (by simp)
  | x::xs,[],_,_,h=>absurd ((h x).mp (List.mem_cons_self ..)) (by simp)
  | x::xs,y::ys,hx,hy,h=>by
    have hx1:=List.pairwise_cons.mp hx
    have hy1:=List.pairwise_cons.mp hy
    have exy:x=y:=by
      rcases List.mem_cons.mp ((h x).mp (List.mem_cons_self ..)) with e | e
      · exact e
      · rcases List.mem_cons.mp ((h y).mpr (List.mem_cons_self ..)) with e' | e'
        · exact e'.symm
        · exact absurd (s_tr (hy1.1 x e) (hx1.1 y e')) (s_irr y)
    subst exy
    have:xs=ys:=ris_uniq hx1.2 hy1.2 fun p=>by
      constructor
      · intro hp
        rcases List.mem_cons.mp ((h p).mp (List.mem_cons_of_mem _ hp)) with e | e
        · subst e; exact absurd (hx1.1 p hp) (s_irr p)
        · exact e
      · intro hp
        rcases List.mem_cons.mp ((h p).mpr (List.mem_cons_of_mem _ hp)) with e | e
        · subst e; exact absurd (hy1.1 p hp) (s_irr p)
        · exact e
    rw [this]
def lets (ps:List (S × S)) (e:S):List S:=srtS ((ps.filter fun p=>decide (p.1=e)).map (·.2))
theorem lets_mem (ps:List (S × S)) (e l:S):l∈lets ps e↔(e,l)∈ps:=by
  unfold lets
  rw [srtS_mem,List.mem_map]
  constructor
  · rintro ⟨⟨e',l'⟩,h,rfl⟩
    obtain ⟨h1,h2⟩:=List.mem_filter.mp h
    have:e'=e:=of_decide_eq_true h2
    subst this; exact h1
  · intro h
    exact ⟨(e,l),List.mem_filter.mpr ⟨h,decide_eq_true rfl⟩,rfl⟩
theorem lets_is {ps:List (S × S)}{e:S}{m:List S} (h:m.Pairwise (· < ·)) (h2:∀ x,x∈m↔(e,x)∈ps):m=lets ps e :=
  ris_uniq h (srtS_ris _) fun x=>by rw [h2]; exact (lets_mem ps e x).symm
def pot (ps:List (S × S)) (e:S):List S:=(lets ps e).flatMap fun l=>List.replicate (ps.count (e,l)) l
theorem pot_mem (ps:List (S × S)) (e l:S):l∈pot ps e↔(e,l)∈ps:=by
  unfold pot
  rw [List.mem_flatMap]
  constructor
  · rintro ⟨l',h1,h2⟩
    rw [(List.mem_replicate.mp h2).2]
    exact (lets_mem ps e l').mp h1
  · intro h
    refine ⟨l,(lets_mem ps e l).mpr h,List.mem_replicate.mpr ⟨?_,rfl⟩⟩
    have:=List.count_pos_iff.mpr h
    omega
def pick (ps:List (S × S)) (e:S) (n:Nat):S:=(pot ps e).getD (n % (pot ps e).length) []
def dr (ps:List (S × S)) (o:Nat):S→List Nat→Nat→Option (S × Nat)
  | _,[],_=>none
  | t,n::ns,p=>if pick ps (endOf t o) n=[] then some (t,p+1) else dr ps o (t++pick ps (endOf t o) n) ns (p+1)
theorem pick_mem {ps:List (S × S)}{e:S} (h:∃ l,(e,l)∈ps) (n:Nat):(e,pick ps e n)∈ps:=by
  obtain ⟨l,hl⟩:=h
  have h1:=(pot_mem ps e l).mpr hl
  have h2:0 < (pot ps e).length:=List.length_pos_of_mem h1
  have h3:n % (pot ps e).length < (pot ps e).length:=Nat.mod_lt _ h2
  unfold pick
  rw [List.getD_eq_getElem?_getD,List.getElem?_eq_getElem h3]
  exact (pot_mem ps e _).mp (List.getElem_mem _)
theorem pick_lt {ps:List (S × S)}{e:S} (h:∃ l,(e,l)∈ps) (n:Nat):(pot ps e)[n % (pot ps e).length]?=some (pick ps e n)∧0 < (pot ps e).length:=by
  obtain ⟨l,hl⟩:=h
  have h2:0 < (pot ps e).length:=List.length_pos_of_mem ((pot_mem ps e l).mpr hl)
  have h3:n % (pot ps e).length < (pot ps e).length:=Nat.mod_lt _ h2
  refine ⟨?_,h2⟩
  unfold pick
  rw [List.getD_eq_getElem?_getD,List.getElem?_eq_getElem h3]; rfl
def Alv (o:Nat) (bk:List S) (t:S):Prop:=∃ l,(endOf t o,l)∈pairsB o bk
theorem Alv.next {o:Nat}{bk:List S}{t:S}{c:Nat} (h:(endOf t o,[c])∈pairsB o bk):Alv o bk (t++[c]):=by
  obtain ⟨l,hl⟩:=pairB_next h
  rw [endOf_end] at hl
  exact ⟨l,hl⟩
theorem Alv.pick {o:Nat}{bk:List S}{t:S} (h:Alv o bk t) (n:Nat):pick (pairsB o bk) (endOf t o) n=[]∨∃ c,pick (pairsB o bk) (endOf t o) n=[c]∧Alv o bk (t++[c]):=by
  have h1:=pick_mem h n
  by_cases e:Kn.pick (pairsB o bk) (endOf t o) n=[]
  · exact .inl e
  · obtain ⟨c,hc⟩:=one_of (pairB_one h1) e
    rw [hc] at h1
    exact .inr ⟨c,hc,Alv.next h1⟩
theorem Alv.nil {o:Nat}{bk:List S} (h:bk≠[]):Alv o bk []:=by
  cases bk with
  | nil=>exact absurd rfl h
  | cons x bk =>
    refine ⟨x.take 1,List.mem_flatMap.mpr ⟨x,List.mem_cons_self ..,List.mem_map.mpr ⟨0,List.mem_range.mpr (by omega),?_⟩⟩⟩
    simp [endOf]
theorem dr_shift (ps:List (S × S)) (o k:Nat):∀ (ns:List Nat) (t:S) (p:Nat),dr ps o t ns (p+k)=(dr ps o t ns p).map fun q=>(q.1,q.2+k)
  | [],t,p=>rfl
  | n::ns,t,p=>by
    unfold dr
    split
    · show some (t,p+k+1)=some (t,p+1+k)
      rw [Nat.add_right_comm]
    · rw [Nat.add_right_comm]; exact dr_shift ps o k ns _ _
theorem dr_len {o:Nat}{bk:List S}:∀ (ns:List Nat) (t:S) (p:Nat) (x:S) (q:Nat),Alv o bk t→dr (pairsB o bk) o t ns p=some (x,q)→p < q∧q≤p+ns.length∧x.length+p+1=t.length+q
  | [],t,p,x,q,_,h=>by cases h
  | n::ns,t,p,x,q,ha,h=>by
    unfold dr at h
    rcases ha.pick n with e | ⟨c,e,h2⟩
    · rw [if_pos e] at h
      have h3:=Option.some.inj h
      have e1:=(Prod.mk.inj h3).1
      have e2:=(Prod.mk.inj h3).2
      subst e1 e2
      simp only [List.length_cons]; omega
    · rw [if_neg (by rw [e]; simp),e] at h
      have:=dr_len ns _ _ x q h2 h
      rw [List.length_append,List.length_singleton] at this
      simp only [List.length_cons]; omega
theorem dr_more (ps:List (S × S)) (o:Nat):∀ (ns ms:List Nat) (t:S) (p:Nat) (r:S × Nat),dr ps o t ns p=some r→dr ps o t (ns++ms) p=some r
  | [],ms,t,p,r,h=>by cases h
  | n::ns,ms,t,p,r,h=>by
    rw [List.cons_append]
    unfold dr at h ⊢
    split
    · rename_i e; rw [if_pos e] at h; exact h
    · rename_i e; rw [if_neg e] at h; exact dr_more ps o ns ms _ _ r h
theorem dr_take (ps:List (S × S)) (o:Nat):∀ (ns:List Nat) (t:S) (p k:Nat) (x:S) (q:Nat),dr ps o t ns p=some (x,q)→q≤p+k→dr ps o t (ns.take k) p=some (x,q)
  | [],t,p,k,x,q,h,_=>by cases h
  | n::ns,t,p,0,x,q,h,hk=>by
    exfalso
    have go:∀ (ns:List Nat) (t:S) (p:Nat),dr ps o t ns p=some (x,q)→p < q:=by
      intro ns
      induction ns with
      | nil=>intro t p h; cases h
      | cons n ns ih =>
        intro t p h
        unfold dr at h
        split at h
        · have:=(Prod.mk.inj (Option.some.inj h)).2; omega
        · have:=ih _ _ h; omega
    have:=go _ _ _ h
    omega
  | n::ns,t,p,k+1,x,q,h,hk=>by
    rw [List.take_succ_cons]
    unfold dr at h ⊢
    split
    · rename_i e; rw [if_pos e] at h; exact h
    · rename_i e; rw [if_neg e] at h; exact dr_take ps o ns _ _ k x q h (by omega)
theorem dr_short (ps:List (S × S)) (o:Nat):∀ (ns:List Nat) (t:S) (p k:Nat) (x:S) (q:Nat),dr ps o t ns p=some (x,q)→p+k < q→dr ps o t (ns.take k) p=none
  | [],t,p,k,x,q,h,_=>by cases h
  | n::ns,t,p,0,x,q,h,hk=>rfl
  | n::ns,t,p,k+1,x,q,h,hk=>by
    rw [List.take_succ_cons]
    unfold dr at h ⊢
    split
    · rename_i e; rw [if_pos e] at h
      have:=(Prod.mk.inj (Option.some.inj h)).2
      omega
    · rename_i e; rw [if_neg e] at h; exact dr_short ps o ns _ _ k x q h (by omega)
def fdr (ps:List (S × S)) (o:Nat) (ok:S→Bool) (ns:List Nat):Nat→Nat→Option (S × Nat)
  | 0,_=>none
  | f+1,p=>match dr ps o [] (ns.drop p) p with
    | none=>none
    | some r=>if ok r.1 then some r else fdr ps o ok ns f r.2
theorem dr_lt (ps:List (S × S)) (o:Nat):∀ (ns:List Nat) (t:S) (p:Nat) (x:S) (q:Nat),dr ps o t ns p=some (x,q)→p < q∧q≤p+ns.length
  | [],t,p,x,q,h=>by cases h
  | n::ns,t,p,x,q,h=>by
    unfold dr at h
    split at h
    · have:=(Prod.mk.inj (Option.some.inj h)).2
      simp only [List.length_cons]; omega
    · have:=dr_lt ps o ns _ _ x q h
      simp only [List.length_cons]; omega
theorem fdr_fuel (ps:List (S × S)) (o:Nat) (ok:S→Bool) (ns:List Nat):∀ (f g p:Nat),ns.length < f+p→ns.length < g+p→fdr ps o ok ns f p=fdr ps o ok ns g p
  | 0,0,p,_,_=>rfl
  | 0,g+1,p,h,_=>by
    unfold fdr
    rw [List.drop_of_length_le (by omega)]; rfl
  | f+1,0,p,_,h=>by
    unfold fdr
    rw [List.drop_of_length_le (by omega)]; rfl
  | f+1,g+1,p,h1,h2=>by
    unfold fdr
    cases e:dr ps o [] (ns.drop p) p with
    | none=>rfl
    | some r =>
      have h3:=dr_lt ps o _ _ _ r.1 r.2 e
      show (if ok r.1 then some r else _)=(if ok r.1 then some r else _)
      rw [fdr_fuel ps o ok ns f g r.2 (by omega) (by omega)]
theorem fdr_lt (ps:List (S × S)) (o:Nat) (ok:S→Bool) (ns:List Nat):∀ (f p:Nat) (x:S) (q:Nat),fdr ps o ok ns f p=some (x,q)→p < q∧q≤ns.length∧ok x=true
  | 0,p,x,q,h=>by cases h
  | f+1,p,x,q,h=>by
    unfold fdr at h
    cases e:dr ps o [] (ns.drop p) p with
    | none=>rw [e] at h; cases h
    | some r =>
      rw [e] at h
      have h3:=dr_lt ps o _ _ _ r.1 r.2 e
      rw [List.length_drop] at h3
      by_cases hk:ok r.1=true
      · have h4:some r=some (x,q):=by simpa [hk] using h
        have h5:=Option.some.inj h4
        rw [h5] at h3 hk
        exact ⟨h3.1,by have h6:=h3.1; have h7:=h3.2; simp only at h6 h7; omega,hk⟩
      · have h4:fdr ps o ok ns f r.2=some (x,q):=by simpa [hk] using h
        have:=fdr_lt ps o ok ns f r.2 x q h4
        exact ⟨by omega,this.2⟩
theorem fdr_more (ps:List (S × S)) (o:Nat) (ok:S→Bool) (ns ms:List Nat):∀ (f p:Nat) (r:S × Nat),p≤ns.length→fdr ps o ok ns f p=some r→fdr ps o ok (ns++ms) f p=some r
  | 0,p,r,_,h=>by cases h
  | f+1,p,r,hp,h=>by
    unfold fdr at h ⊢
    cases e:dr ps o [] (ns.drop p) p with
    | none=>rw [e] at h; cases h
    | some r' =>
      rw [e] at h
      have h3:=dr_lt ps o _ _ _ r'.1 r'.2 e
      rw [List.length_drop] at h3
      rw [List.drop_append_of_le_length hp,dr_more ps o _ ms _ _ _ e]
      show (if ok r'.1 then some r' else _)=some r
      have h':(if ok r'.1 then some r' else fdr ps o ok ns f r'.2)=some r:=h
      by_cases hk:ok r'.1=true
      · rw [if_pos hk] at h' ⊢; exact h'
      · rw [if_neg hk] at h' ⊢; exact fdr_more ps o ok ns ms f r'.2 r (by omega) h'
theorem fdr_take (ps:List (S × S)) (o:Nat) (ok:S→Bool) (ns:List Nat) (k:Nat):∀ (f p:Nat) (x:S) (q:Nat),fdr ps o ok ns f p=some (x,q)→q≤k→fdr ps o ok (ns.take k) f p=some (x,q)
  | 0,p,x,q,h,_=>by cases h
  | f+1,p,x,q,h,hq=>by
    have hlt:=fdr_lt ps o ok ns (f+1) p x q h
    unfold fdr at h ⊢
    cases e:dr ps o [] (ns.drop p) p with
    | none=>rw [e] at h; cases h
    | some r' =>
      rw [e] at h
      have h':(if ok r'.1 then some r' else fdr ps o ok ns f r'.2)=some (x,q):=h
      have hr:r'.2≤q:=by
        by_cases hk:ok r'.1=true
        · rw [if_pos hk] at h'
          rw [Option.some.inj h']; exact Nat.le_refl _
        · rw [if_neg hk] at h'
          exact Nat.le_of_lt (fdr_lt ps o ok ns f r'.2 x q h').1
      rw [List.drop_take,dr_take ps o _ [] p (k - p) r'.1 r'.2 e (by omega)]
      show (if ok r'.1 then some r' else _)=some (x,q)
      by_cases hk:ok r'.1=true
      · rw [if_pos hk] at h' ⊢; exact h'
      · rw [if_neg hk] at h' ⊢; exact fdr_take ps o ok ns k f r'.2 x q h' hq
theorem fdr_short (ps:List (S × S)) (o:Nat) (ok:S→Bool) (ns:List Nat) (k:Nat):∀ (f p:Nat) (x:S) (q:Nat),fdr ps o ok ns f p=some (x,q)→k < q→fdr ps o ok (ns.take k) f p=none
  | 0,p,x,q,h,_=>by cases h
  | f+1,p,x,q,h,hq=>by
    unfold fdr at h ⊢
    cases e:dr ps o [] (ns.drop p) p with
    | none=>rw [e] at h; cases h
    | some r' =>
      rw [e] at h
      have h':(if ok r'.1 then some r' else fdr ps o ok ns f r'.2)=some (x,q):=h
      rw [List.drop_take]
      by_cases hkr:k < r'.2
      · by_cases hpk:p≤k
        · rw [dr_short ps o _ [] p (k - p) r'.1 r'.2 e (by omega)]
        · rw [show k - p=0 by omega,List.take_zero]; rfl
      · have hlt:=dr_lt ps o _ _ _ r'.1 r'.2 e
        rw [dr_take ps o _ [] p (k - p) r'.1 r'.2 e (by omega)]
        show (if ok r'.1 then some r' else _)=none
        by_cases hk:ok r'.1=true
        · rw [if_pos hk] at h'
          have:=congrArg Prod.snd (Option.some.inj h')
          simp only at this
          omega
        · rw [if_neg hk] at h' ⊢
          exact fdr_short ps o ok ns k f r'.2 x q h' hq
def numsFor (ps:List (S × S)) (qs:List (S × S)):List Nat:=qs.map fun q=>(pot ps q.1).idxOf q.2
theorem pick_idx {ps:List (S × S)}{e l:S} (h:(e,l)∈ps):pick ps e ((pot ps e).idxOf l)=l:=by
  have h1:=(pot_mem ps e l).mpr h
  have h2:=List.idxOf_lt_length_iff.mpr h1
  unfold pick
  rw [Nat.mod_eq_of_lt h2,List.getD_eq_getElem?_getD,List.getElem?_eq_getElem h2,List.getElem_idxOf h2]; rfl
theorem dr_pp (ps:List (S × S)) (o:Nat):∀ (u t:S) (ms:List Nat) (p:Nat),(∀ q∈pairs1 o (t++u),q∈ps)→dr ps o t (numsFor ps ((pairs1 o (t++u)).drop t.length)++ms) p=some (t++u,p+u.length+1)
  | [],t,ms,p,h=>by
    rw [List.append_nil] at h ⊢
    rw [pairs1_pp]
    have e:(pp o t++[(endOf t o,([]:S))]).drop t.length=[(endOf t o,[])]:=by
      have hl:(pp o t).length=t.length:=by unfold pp; rw [List.length_map,List.length_range]
      rw [← hl,List.drop_left]
    rw [e]
    have hm:(endOf t o,([]:S))∈ps:=h _ (by rw [pairs1_pp]; simp)
    unfold numsFor
    rw [List.map_singleton,List.singleton_append]
    unfold dr
    rw [pick_idx hm,if_pos rfl]; rfl
  | c::u,t,ms,p,h=>by
    have hm:(endOf t o,[c])∈pairs1 o (t++c::u):=by
      refine List.mem_map.mpr ⟨t.length,List.mem_range.mpr (by rw [List.length_append,List.length_cons]; omega),?_⟩
      rw [List.take_left,List.drop_left]; rfl
    have hd:(pairs1 o (t++c::u)).drop t.length=(endOf t o,[c])::(pairs1 o (t++c::u)).drop (t.length+1):=by
      have hl:t.length < (pairs1 o (t++c::u)).length:=by
        unfold pairs1; rw [List.length_map,List.length_range,List.length_append,List.length_cons]; omega
      rw [List.drop_eq_getElem_cons hl]
      congr 1
      have h5:(pairs1 o (t++c::u))[t.length]?=some (endOf t o,[c]):=by
        unfold pairs1
        rw [List.getElem?_map,List.getElem?_range (by rw [List.length_append,List.length_cons]; omega)]
        show some (endOf (List.take t.length (t++c::u)) o,List.take 1 (List.drop t.length (t++c::u)))=_
        rw [List.take_left,List.drop_left]; rfl
      exact (List.getElem?_eq_some_iff.mp h5).2
    rw [hd]
    unfold numsFor
    rw [List.map_cons,List.cons_append]
    unfold dr
    rw [pick_idx (h _ hm),if_neg (by simp)]
    have e2:t++c::u=(t++[c])++u:=by simp
    have ih:=dr_pp ps o u (t++[c]) ms (p+1) (by rw [← e2]; exact h)
    rw [← e2,List.length_append,List.length_singleton] at ih
    unfold numsFor at ih
    rw [ih,List.length_cons]
    congr 2
    omega
theorem dr_nums {ps:List (S × S)}{o:Nat}{x:S} (ms:List Nat) (h:∀ q∈pairs1 o x,q∈ps):dr ps o [] (numsFor ps (pairs1 o x)++ms) 0=some (x,x.length+1):=by
  have:=dr_pp ps o x [] ms 0 (by simpa using h)
  simpa using this
end Kn
end
section
namespace Kn.Dr
open PySem L2 Kn
theorem map_get {α β:Type}{f:α→β}{l:List α}{i:Nat}{y:β} (h:(l.map f)[i]?=some y):∃ x,l[i]?=some x∧y=f x:=by
  rw [List.getElem?_map] at h
  cases e:l[i]? with
  | none=>rw [e] at h; cases h
  | some x=>rw [e] at h; exact ⟨x,rfl,(Option.some.inj h).symm⟩
theorem take_snoc {α:Type}{l:List α}{i:Nat}{x:α} (h:l[i]?=some x):l.take (i+1)=l.take i++[x]:=by
  rw [List.take_succ_eq_append_getElem (List.getElem?_eq_some_iff.mp h).1,(List.getElem?_eq_some_iff.mp h).2]
def SameX (f:Addr) (H H':Hp):Prop:=∀ b u,b≠f→H b=some u→H' b=some u
theorem SameX.refl {f:Addr} (H:Hp):SameX f H H:=fun b u _ h=>h
theorem SameX.updf {f:Addr}{H H':Hp}{u:HO} (s:SameX f H H'):SameX f H (upd H' f u):=fun b v hb e=>by rw [upd_ne hb]; exact s b v hb e
theorem SameX.trans {f:Addr}{H H' H'':Hp} (s:SameX f H H') (t:SameX f H' H''):SameX f H H'':=fun b v hb e=>t b v hb (s b v hb e)
theorem SameX.of {f:Addr}{H H':Hp} (s:Same H H'):SameX f H H':=fun b v _ e=>s b v e
theorem SameX.same {f:Addr}{H H0 H':Hp} (t:Same H H0) (hf:H f=none) (s:SameX f H0 H'):Same H H':=fun b v e=>s b v (ne_of_none e hf) (t b v e)
abbrev nxD (ps:List (S × S)) (e:S):List S:=(rowOf ps e).map (·.1)
theorem nxD_mem (ps:List (S × S)) (e l:S):l∈nxD ps e↔(e,l)∈ps:=by
  constructor
  · intro h
    obtain ⟨⟨l',n⟩,h1,rfl⟩:=List.mem_map.mp h
    obtain ⟨h2,h3⟩:=(rowOf_mem ps e l' n).mp h1
    have h4:0 < ps.count (e,l'):=by rw [h2] at h3; omega
    exact List.count_pos_iff.mp h4
  · intro h
    exact List.mem_map.mpr ⟨(l,(ps.count (e,l):Int)),(rowOf_mem ps e l _).mpr ⟨rfl,by have:=List.count_pos_iff.mpr h; omega⟩,rfl⟩
theorem row_lenD (ps:List (S × S)) (e:S):(rowOf ps e).length≤ps.length:=by
  have h1:=rowOf_total ps e
  have h2:=tot_le ps e
  have h3:∀ q∈rowOf ps e,0 < q.2:=fun q hq=>((rowOf_mem ps e q.1 q.2).mp hq).2
  have go:∀ l:List (S × Int),(∀ q∈l,0 < q.2)→(l.length:Int)≤(l.map (·.2)).sum:=by
    intro l
    induction l with
    | nil=>intro _; simp
    | cons q l ih =>
      intro hl
      have a:=hl q (List.mem_cons_self ..)
      have b:=ih fun x hx=>hl x (List.mem_cons_of_mem _ hx)
      rw [List.map_cons,List.sum_cons,List.length_cons]
      omega
  have:=go _ h3
  omega
theorem row_isD {ps:List (S × S)}{ra:List (S × Addr × List (S × Int))} (h:ra.map (fun r=>(r.1,r.2.2))=rowsOf ps) {r:S × Addr × List (S × Int)} (hr:r∈ra):r.2.2=rowOf ps r.1:=by
  have h1:(r.1,r.2.2)∈rowsOf ps:=by rw [← h]; exact List.mem_map.mpr ⟨r,hr,rfl⟩
  unfold rowOf
  rw [(getA_mem (rows_ok ps).nd _ _).mp h1]; rfl
theorem keys_lenD {ps:List (S × S)}:(rowsOf ps).length≤ps.length:=by
  have nd:=(rows_ok ps).nd
  have hs:∀ e∈(rowsOf ps).map (·.1),e∈ps.map (·.1):=fun e he=>by
    obtain ⟨r,hr,rfl⟩:=List.mem_map.mp he
    obtain ⟨l,hl⟩:=((rows_ok ps).has r.1).mp ⟨r.2,(getA_mem nd _ _).mp hr⟩
    exact List.mem_map.mpr ⟨_,hl,rfl⟩
  have go:∀ (a b:List S),a.Nodup→(∀ x∈a,x∈b)→a.length≤b.length:=by
    intro a
    induction a with
    | nil=>intro b _ _; exact Nat.zero_le _
    | cons x a ih =>
      intro b nd h
      have hx:=h x (List.mem_cons_self ..)
      have h1:=List.nodup_cons.mp nd
      have:=ih (b.erase x) h1.2 fun y hy=>(List.mem_erase_of_ne (fun z=>h1.1 (by rw [← z]; exact hy))).mpr (h y (List.mem_cons_of_mem _ hy))
      rw [List.length_erase_of_mem hx] at this
      have:=List.length_pos_of_mem hx
      rw [List.length_cons]; omega
  have:=go _ _ nd hs
  rwa [List.length_map,List.length_map] at this
theorem end_rowD {ps:List (S × S)}{ra:List (S × Addr × List (S × Int))} (r1:ra.map (fun r=>(r.1,r.2.2))=rowsOf ps) (e:S):e∈ra.map (·.1)↔∃ l,(e,l)∈ps:=by
  have e1:ra.map (·.1)=(rowsOf ps).map (·.1):=by rw [← r1,List.map_map]; rfl
  rw [e1]
  rw [← (rows_ok ps).has e]
  constructor
  · intro h
    obtain ⟨r,hr,rfl⟩:=List.mem_map.mp h
    exact ⟨r.2,(getA_mem (rows_ok ps).nd _ _).mp hr⟩
  · rintro ⟨row,h⟩
    exact List.mem_map.mpr ⟨_,(getA_mem (rows_ok ps).nd _ _).mpr h,rfl⟩
theorem pot_len (ps:List (S × S)) (e:S):(pot ps e).length=tot ps e:=by
  have h1:=rowOf_total ps e
  have hp:(lets ps e).Perm (nxD ps e):=by
    refine (List.perm_ext_iff_of_nodup ?_ (rowOf_nd ps e)).mpr fun x=>by rw [lets_mem,nxD_mem]
    exact (srtS_ris _).imp fun {a b} h z=>by subst z; exact s_irr _ h
  unfold pot
  rw [List.length_flatMap]
  have e1:((lets ps e).map fun l=>(List.replicate (ps.count (e,l)) l).length)=(lets ps e).map fun l=>ps.count (e,l):=List.map_congr_left fun l _=>List.length_replicate
  rw [e1,(hp.map fun l=>ps.count (e,l)).sum_nat]
  have e2:(rowOf ps e).map (·.2)=((nxD ps e).map fun l=>ps.count (e,l)).map fun (n:Nat)=>(n:Int):=by
    rw [List.map_map,List.map_map]
    refine List.map_congr_left fun q hq=>?_
    exact ((rowOf_mem ps e q.1 q.2).mp hq).1
  rw [e2] at h1
  have go:∀ l:List Nat,(l.map fun (n:Nat)=>(n:Int)).sum=((l.sum:Nat):Int):=by
    intro l
    induction l with
    | nil=>rfl
    | cons x l ih=>rw [List.map_cons,List.sum_cons,ih,List.sum_cons]; omega
  rw [go] at h1
  omega
section
variable {P:Program}{w:World}{K:PySem.W.Frag}{mg:Str→Option Value}{base:Heap}
abbrev sPot:Stmt:=top 47
theorem scPot:FnScope ["row", "pot", "letter"] ["row"] (defScope sPot):=⟨rfl,rfl,rfl,by decide +kernel,rfl,by decide +kernel,by decide +kernel⟩
def spPot:Sp:=fun vs H Q _=>∃ (ra:Addr) (ps:List (S × S)) (e:S),vs=[.ref ra]∧H ra=some (.dK (rowV (rowOf ps e)))∧ps.length < 64 ∧
  ∀ (l:Addr) (H':Hp),Same H H'→H l=none→H' l=some (.lst ((pot ps e).map sv))→Q (.ref l) H'
theorem rep_one (n:Nat) (v:V):(List.replicate n [v]).flatten=List.replicate n v:=by
  induction n with
  | zero=>rfl
  | succ n ih=>rw [List.replicate_succ,List.flatten_cons,ih,List.replicate_succ]; rfl
theorem ok_pot {f:Addr}{fd:FuncData} (F:Fun K "pot_of" "pot_of" sPot f fd) (B:Blt mg):FnOk P w K mg base CX0 1 f fd ["row"] spPot:=by
  refine F.ok scPot (fun vs H Q E h=>?_) (fun cdv A outer s H vs Q E hr h=>?_)
  · obtain ⟨ra,ps,e,rfl,_⟩:=h; rfl
  · obtain ⟨ra,ps,e,rfl,hra,h64,k⟩:=h
    have hu:=hu_of hr
    have nd:=scPot.nd
    refine ⟨_,pss_cons (ps_set (i:=1) nd rfl (Or.inl rfl) (pe_lst pa_nil))
      (pss_cons (ps_for PassesOwn.never rfl (pi_list (pe_callB (call_sortedD rfl) (by rfl) B.sorted PyProof.Rows.boot_sorted (pa_cons (pv 0) pa_nil))) (pg_name (i:=2) nd rfl (Or.inl rfl))
        (pss_one (ps_expr (pe_bm PySem.F.plainAttrs_list PySem.F.slot_list_extend PySem.F.type_list_extend mt_extend (pv 1) (pa_cons (pe_op op_rep (pe_lst (pa_cons (pv 2) pa_nil)) (pe_dget hu (pv 0) (pv 2) (fun _ _=>rfl))) pa_nil)))))
      (pss_one (ps_ret (pv 1)))),?_⟩
    refine ⟨by show 0≤sizeLine; decide,fun lo hlo=>?_⟩
    have s1:Same H (upd H lo (.lst [])):=Same.upd1 hlo
    have hrl:(rowOf ps e).length < 64:=by have:=row_lenD ps e; omega
    have ekeys:(((rowOf ps e).map fun p=>(tx p.1,V.int p.2)).map (·.1))=(nxD ps e).map tx:=by rw [List.map_map,List.map_map]; rfl
    have ndt:(((rowOf ps e).map fun p=>(tx p.1,V.int p.2)).map (·.1)).Nodup:=by
      rw [ekeys]
      exact List.Pairwise.map tx (fun a b hab z=>hab (tx_inj z)) (rowOf_nd _ _)
    refine ⟨_,rfl,ra,(rowOf ps e).map (fun p:S × Int=>(tx p.1,V.int p.2)),rfl,s1 _ _ hra,ndt,by rw [List.length_map]; exact hrl,fun out l hperm hsrt hl=>?_⟩
    rw [ekeys] at hperm
    have eout:out=(out.map fun x=>x.cps.toList).map tx:=(strs_eta out).symm
    have hm2:∀ x,x∈(out.map fun x=>x.cps.toList)↔(e,x)∈ps:=fun x=>by
      rw [← nxD_mem]
      constructor
      · intro h
        obtain ⟨y,hy,rfl⟩:=List.mem_map.mp h
        obtain ⟨z,hz,e1⟩:=List.mem_map.mp (hperm.mem_iff.mp hy)
        rw [← e1,tx_cps]; exact hz
      · intro h
        exact List.mem_map.mpr ⟨tx x,hperm.mem_iff.mpr (List.mem_map.mpr ⟨x,h,rfl⟩),tx_cps x⟩
    have hos:(out.map fun x=>x.cps.toList)=lets ps e:=lets_is (List.pairwise_map.mpr hsrt) hm2
    rw [hos] at eout
    subst eout
    have s2:Same (upd H lo (.lst [])) (upd (upd H lo (.lst [])) l (.lst (((lets ps e).map tx).map V.str))):=Same.upd1 hl
    have hllo:l≠lo:=fun z=>by rw [z,upd_same] at hl; cases hl
    have hl6:upd (upd H lo (.lst [])) l (.lst (((lets ps e).map tx).map V.str)) l=some (.lst (((lets ps e).map tx).map V.str)):=upd_same
    have hlo6:=s2 _ _ (upd_same (H:=H) (a:=lo) (o:=.lst []))
    have hra6:=s2 _ _ (s1 _ _ hra)
    have s12:=s1.trans s2
    generalize upd (upd H lo (.lst [])) l (.lst (((lets ps e).map tx).map V.str))=H6 at hl6 hlo6 hra6 s12
    refine ⟨l,rfl,⟨_,.of hl6⟩,?_⟩
    have hrlo:ra≠lo:=ne_of_none hra hlo
    refine for_known (known_list K l (((lets ps e).map tx).map V.str)) (fun i σ H'=>(∃ x2:Option V,σ=[some (.ref ra),some (.ref lo),x2])∧SameX lo H6 H'∧H' lo=some (.lst ((((lets ps e).take i).flatMap fun l=>List.replicate (ps.count (e,l)) l).map sv)))
      ⟨⟨_,rfl⟩,SameX.refl _,hlo6⟩ (fun i σ H' _ h=>.of (h.2.1 _ _ hllo hl6)) ?_ ?_
    · rintro i x σ H' Nx hN hx ⟨⟨x2,rfl⟩,sx,hlo'⟩
      obtain ⟨y,hy,rfl⟩:=map_get hx
      obtain ⟨c,hc,rfl⟩:=map_get hy
      have hce:(e,c)∈ps:=(lets_mem ps e c).mp (List.mem_of_getElem? hc)
      have hra':=sx _ _ hrlo hra6
      have hcnt:ps.count (e,c) < 64:=Nat.lt_of_le_of_lt (List.count_le_length ..) h64
      refine ⟨_,rfl,.inl ⟨rfl,_,.of hlo'⟩,_,rfl,by show 1≤sizeLine; decide,fun l0 hl0=>?_⟩
      have t0:Same H' (upd H' l0 (.lst [V.str (tx c)])):=Same.upd1 hl0
      have dg:DGet (upd H' l0 (.lst [V.str (tx c)])) ra (sv c) (some (.int (ps.count (e,c):Int))):=by
        have:=DGet.k (k:=Sum.inr (tx c)) (t0 _ _ hra')
        unfold rowV at this
        rw [val_enc,rowOf_get,if_pos (List.count_pos_iff.mpr hce)] at this
        exact this
      refine ⟨_,rfl,_,rfl,ra,_,rfl,dg,l0,_,[V.str (tx c)],rfl,rfl,upd_same,by omega,by omega,by rw [sizeLine_eq]; show 1 * _≤_; omega,fun l1 hl1=>?_⟩
      have e0:(List.replicate ((ps.count (e,c):Int)).toNat [V.str (tx c)]).flatten=(List.replicate (ps.count (e,c)) c).map sv:=by
        rw [rep_one,List.map_replicate]; rfl
      rw [e0]
      have t1:Same (upd H' l0 (.lst [V.str (tx c)])) (upd (upd H' l0 (.lst [V.str (tx c)])) l1 (.lst ((List.replicate (ps.count (e,c)) c).map sv))):=Same.upd1 hl1
      have t01:=t0.trans t1
      have hb:((((lets ps e).take i).flatMap fun l=>List.replicate (ps.count (e,l)) l).map sv).length+((List.replicate (ps.count (e,c)) c).map sv).length≤sizeLine:=by
        have hp:=pot_len ps e
        have h1:((lets ps e).take (i+1)).flatMap (fun l=>List.replicate (ps.count (e,l)) l)=((lets ps e).take i).flatMap (fun l=>List.replicate (ps.count (e,l)) l)++List.replicate (ps.count (e,c)) c:=by
          rw [take_snoc hc,List.flatMap_append]; simp
        have h2:(((lets ps e).take (i+1)).flatMap fun l=>List.replicate (ps.count (e,l)) l).length≤(pot ps e).length:=by
          unfold pot
          conv=>rhs; rw [← List.take_append_drop (i+1) (lets ps e),List.flatMap_append,List.length_append]
          omega
        rw [h1,List.length_append] at h2
        have h3:=tot_le ps e
        rw [List.length_map,List.length_map,sizeLine_eq]; omega
      refine ⟨lo,l1,_,_,rfl,rfl,t01 _ _ hlo',upd_same,hb,hN _ _ ⟨⟨_,rfl⟩,(sx.trans (SameX.of t01)).updf,?_⟩⟩
      rw [upd_same,take_snoc hc,List.flatMap_append,List.map_append]
      simp
    · rintro σ H' ⟨⟨x2,rfl⟩,sx,hlo'⟩
      rw [List.length_map,List.length_map,List.take_length] at hlo'
      exact ⟨_,rfl,k lo H' (SameX.same s12 hlo sx) hlo hlo'⟩
def PotsAt (H:Hp) (d:Addr) (ps:List (S × S)):Prop:=∃ pa:List (S × Addr),H d=some (.dK (encD V.ref pa))∧(pa.map (·.1)).Nodup∧(∀ e,e∈pa.map (·.1)↔∃ l,(e,l)∈ps)∧∀ r∈pa,H r.2=some (.lst ((pot ps r.1).map sv))
theorem PotsAt.same {H H':Hp}{d:Addr}{ps:List (S × S)} (h:PotsAt H d ps) (s:Same H H'):PotsAt H' d ps :=
  let ⟨pa,h1,h2,h3,h4⟩:=h; ⟨pa,s _ _ h1,h2,h3,fun r hr=>s _ _ (h4 r hr)⟩
theorem PotsAt.get {H:Hp}{d:Addr}{ps:List (S × S)} (h:PotsAt H d ps) {e:S} (he:∃ l,(e,l)∈ps):∃ a,DGet H d (sv e) (some (.ref a))∧H a=some (.lst ((pot ps e).map sv)):=by
  obtain ⟨pa,h1,h2,h3,h4⟩:=h
  obtain ⟨r,hr,rfl⟩:=List.mem_map.mp ((h3 e).mpr he)
  refine ⟨r.2,?_,h4 r hr⟩
  have:=DGet.k (k:=Sum.inr (tx r.1)) h1
  rw [val_enc,(getA_mem h2 r.1 r.2).mp hr] at this
  exact this
abbrev sPots:Stmt:=top 48
theorem scPots:FnScope ["book", "order"] ["book", "order"] (defScope sPots):=⟨rfl,rfl,rfl,by decide +kernel,rfl,by decide +kernel,by decide +kernel⟩
theorem ndPots:(["end", "row"]:List Str).Nodup:=by decide +kernel
def spPots:Sp:=fun vs H Q _=>∃ (a:Addr) (bk:List S) (o:Nat),vs=[.ref a,.int o]∧H a=some (.tup (bkV bk))∧Bk bk o∧(pairsB o bk).length < 64 ∧
  ∀ (d:Addr) (H':Hp),Same H H'→PotsAt H' d (pairsB o bk)→Q (.ref d) H'
theorem ok_pots {f:Addr}{fd:FuncData} (F:Fun K "pots_by_end" "pots_by_end" sPots f fd) (hdi:mg "dict" = none) (cRows:Cal P w K mg base 3 "counted_rows" ["book", "order"] spRows) (cPot:Cal P w K mg base 1 "pot_of" ["row"] spPot):FnOk P w K mg base CX0 4 f fd ["book", "order"] spPots:=by
  refine F.ok scPots (fun vs H Q E h=>?_) (fun cdv A outer s H vs Q E hr h=>?_)
  · obtain ⟨a,bk,o,rfl,_⟩:=h; rfl
  · obtain ⟨a,bk,o,rfl,ha,hb,h64,k⟩:=h
    have r1:=hr.mono (j:=1) (by decide)
    refine ⟨_,pss_one (ps_ret (pe_callTy (call_dictL rfl) (by rfl) hdi PyProof.Rows.boot_dict (pa_cons
        (pe_comp (N:=["end", "row"]) (caps:=[]) rfl (compScope_of (by kernel_rfl)) (pi_items (pe_bm0K K rfl PySem.F.plainAttrs_dict PySem.F.slot_dict_items PySem.F.type_dict_items mt_items (pe_cal cRows hr rfl (pa_cons (pv 0) (pa_cons (pv 1) pa_nil)))))
          (fun cl X s H ex=>pg_tupK K 2 rfl rfl (pgs_cons (pg_name (i:=0) ndPots rfl (Or.inl rfl)) (pgs_cons (pg_name (i:=1) ndPots rfl (Or.inl rfl)) pgs_nil)) rfl rfl) (fun cl X s H ex=>pf_nil)
          (fun cl X s H ex=>pe_tup (pa_cons (pv 0) (pa_cons (pe_cal cPot r1 rfl (pa_cons (pv 1) pa_nil)) pa_nil)))) pa_nil))),?_⟩
    refine ⟨_,rfl,_,rfl,a,bk,o,rfl,ha,hb.hi,hb.l8,hb.o1,fun d H1 s1 hd R=>?_⟩
    obtain ⟨ra,q1,q2,q3⟩:=R
    refine ⟨.inr (.inr (.inl ⟨rfl,.inl ⟨_,q2⟩⟩)),d,_,rfl,rfl,q2,fun p hp=>?_⟩
    have s2:Same H1 (upd H1 p (VW p d)):=Same.upd1 hp
    refine ⟨p,d,_,rfl,upd_same,s2 _ _ q2,fun ob=>?_⟩
    generalize hkv:encD (fun v:Addr × List (S × Int)=>V.ref v.1) ra=kvs at q2
    have ral:ra.length < 64:=by
      have h1:=keys_lenD (ps:=pairsB o bk)
      rw [← q1,List.length_map] at h1; omega
    have hkl:kvs.length=ra.length:=by rw [← hkv]; exact encD_len _ _
    have rne:∀ r∈ra,r.2.1≠d:=fun r hr z=>by
      have h1:=q3 r hr
      rw [z,q2] at h1
      have h2:kvs=rowV r.2.2:=HO.dK.inj (Option.some.inj h1)
      rw [← hkv] at h2
      cases ra with
      | nil=>cases hr
      | cons r0 ra =>
        cases hr2:r.2.2 with
        | nil=>rw [hr2] at h2; cases h2
        | cons q qs =>
          rw [hr2] at h2
          have h3:=(Prod.mk.inj (List.cons.inj h2).1).2
          cases h3
    have knd0:(ra.map (·.1)).Nodup:=by
      have h:=(rows_ok (pairsB o bk)).nd
      rw [← q1,List.map_map] at h
      exact h
    have s3:Same H (upd (upd H1 p (VW p d)) d (.frz ob (.dK kvs))):=fun b u e=>by
      rw [upd_ne (ne_of_none e hd)]; exact s2 _ _ (s1 _ _ e)
    have q3':∀ r∈ra,upd (upd H1 p (VW p d)) d (.frz ob (.dK kvs)) r.2.1=some (.dK (rowV r.2.2)):=fun r hr=>by
      rw [upd_ne (rne r hr)]; exact s2 _ _ (q3 r hr)
    have hd3:upd (upd H1 p (VW p d)) d (.frz ob (.dK kvs)) d=some (.frz ob (.dK kvs)):=upd_same
    generalize upd (upd H1 p (VW p d)) d (.frz ob (.dK kvs))=H3 at s3 q3' hd3
    refine comp_items [] 2 (by omega) (fun i acc H'=>Same H3 H'∧∃ pa:List (S × Addr),pa.map (·.1)=(ra.take i).map (·.1)∧PrsAt K H' acc (pa.map fun r=>(tx r.1,V.ref r.2))∧∀ r∈pa,H' r.2=some (.lst ((pot (pairsB o bk) r.1).map sv)))
      ⟨Same.refl _,[],rfl,⟨rfl,fun i q h=>by simp at h⟩,fun r hr=>by cases hr⟩ (fun i acc H' hi h=>⟨h.1 _ _ hd3,?_⟩) ?_ ?_
    · obtain ⟨_,pa,e1,e2,_⟩:=h
      have:=congrArg List.length e1
      rw [List.length_map,List.length_map,List.length_take] at this
      rw [e2.1,List.length_map]; omega
    · rintro i q T acc H' ys Nx hN hq hy ⟨sm,pa,e1,e2,e3⟩ hT
      obtain ⟨y1,y2,rfl⟩:=ys2 hy
      rw [← hkv] at hq
      unfold encD encK at hq
      obtain ⟨z,hz,rfl⟩:=map_get hq
      obtain ⟨r0,hr0,rfl⟩:=map_get hz
      have hmem:r0∈ra:=List.mem_of_getElem? hr0
      have t1:Same H' (upd H' T (.tup [sv r0.1,.ref r0.2.1])):=Same.upd1 hT
      refine ⟨T,[sv r0.1,.ref r0.2.1],rfl,.of upd_same,rfl,_,_,rfl,_,_,rfl,rfl,?_⟩
      have hrow:upd H' T (.tup [sv r0.1,.ref r0.2.1]) r0.2.1=some (.dK (rowV (rowOf (pairsB o bk) r0.1))):=by
        rw [← row_isD q1 hmem]; exact t1 _ _ (sm _ _ (q3' r0 hmem))
      refine ⟨_,rfl,_,rfl,r0.2.1,pairsB o bk,r0.1,rfl,hrow,h64,fun l H5 s5 hl hpl=>?_⟩
      refine ⟨by show 2≤sizeLine; decide,fun t ht=>hN _ _ [_,_] rfl ⟨(sm.trans (t1.trans s5)).trans (Same.upd1 ht),pa++[(r0.1,l)],?_,?_,?_⟩⟩
      · rw [List.map_append,e1,take_snoc hr0,List.map_append]; rfl
      · have s6:Same H' (upd H5 t (.tup [sv r0.1,.ref l])):=(t1.trans s5).trans (Same.upd1 ht)
        refine ⟨by rw [List.length_append,e2.1,List.length_map,List.length_map,List.length_append]; rfl,fun j q hq=>?_⟩
        rw [List.map_append] at hq
        have hal:acc.length=pa.length:=by rw [e2.1,List.length_map]
        by_cases hj:j < pa.length
        · rw [List.getElem?_append_left (by rw [List.length_map]; exact hj)] at hq
          obtain ⟨a',g1,g2⟩:=e2.2 j q hq
          exact ⟨a',by rw [List.getElem?_append_left (by omega)]; exact g1,s6.seqT g2⟩
        · rw [List.getElem?_append_right (by rw [List.length_map]; omega),List.length_map] at hq
          have hj0:j - pa.length=0:=by
            have:=(List.getElem?_eq_some_iff.mp hq).1
            simp at this; omega
          rw [hj0] at hq
          have hq2:q=(tx r0.1,V.ref l):=(Option.some.inj hq).symm
          subst hq2
          refine ⟨t,?_,.of upd_same⟩
          rw [List.getElem?_append_right (by omega),hal,hj0]; rfl
      · intro r hr
        have s6:Same H' (upd H5 t (.tup [sv r0.1,.ref l])):=(t1.trans s5).trans (Same.upd1 ht)
        rcases List.mem_append.mp hr with z | z
        · exact s6 _ _ (e3 r z)
        · have hr2:r=(r0.1,l):=List.mem_singleton.mp z
          subst hr2
          exact Same.upd1 ht _ _ hpl
    · rintro acc H' ⟨sm,pa,e1,e2,e3⟩ D hD
      rw [hkl,List.take_length] at e1
      have sD:Same H' (upd H' D (.lst acc)):=Same.upd1 hD
      have ndk:((pa.map fun r=>(tx r.1,V.ref r.2)).map (·.1)).Nodup:=by
        rw [List.map_map]
        have:(pa.map ((fun x:Str × V=>x.1) ∘ fun r=>(tx r.1,V.ref r.2)))=(pa.map (·.1)).map tx:=by rw [List.map_map]; rfl
        rw [this,e1]
        exact List.Pairwise.map tx (fun a b hab z=>hab (tx_inj z)) knd0
      have hpl:pa.length=ra.length:=by have:=congrArg List.length e1; rwa [List.length_map,List.length_map] at this
      refine ⟨D,acc,_,rfl,.of upd_same,⟨e2.1,fun i q hq=>let ⟨a',g1,g2⟩:=e2.2 i q hq; ⟨a',g1,sD.seqT g2⟩⟩,ndk,by rw [List.length_map]; omega,fun dd hdd=>?_⟩
      have sF:Same (upd H' D (.lst acc)) (upd (upd H' D (.lst acc)) dd (.dK (encK (pa.map fun r=>(tx r.1,V.ref r.2))))):=Same.upd1 hdd
      refine k dd _ (s3.trans (sm.trans (sD.trans sF))) ⟨pa,upd_same,by rw [e1]; exact knd0,fun e=>by rw [e1]; exact end_rowD q1 e,fun r hr=>sF _ _ (sD _ _ (e3 r hr))⟩
end
end Kn.Dr
end
section
namespace Kn
open PySem L2
mutual
def Thg (H:Hp):PyData→V→Prop
  | .none,v=>v=.non
  | .bool b,v=>v=.bl b
  | .int i,v=>v=.int i
  | .str x,v=>v=.str x
  | .list ds,v=>∃ a xs,v=.ref a∧H a=some (.lst xs)∧Thgs H ds xs
  | .tuple ds,v=>∃ a xs,v=.ref a∧H a=some (.tup xs)∧Thgs H ds xs
  | .dict _,_=>False
def Thgs (H:Hp):List PyData→List V→Prop
  | [],xs=>xs=[]
  | d::ds,xs=>∃ y ys,xs=y::ys∧Thg H d y∧Thgs H ds ys
end
mutual
theorem Thg.same {H H':Hp} (e:Same H H'):∀ (d:PyData) (v:V),Thg H d v→Thg H' d v
  | .none,v,h=>h
  | .bool b,v,h=>h
  | .int i,v,h=>h
  | .str x,v,h=>h
  | .list ds,v,h=>by
    obtain ⟨a,xs,h1,h2,h3⟩:=h
    exact ⟨a,xs,h1,e _ _ h2,Thgs.same e ds xs h3⟩
  | .tuple ds,v,h=>by
    obtain ⟨a,xs,h1,h2,h3⟩:=h
    exact ⟨a,xs,h1,e _ _ h2,Thgs.same e ds xs h3⟩
  | .dict _,v,h=>h
theorem Thgs.same {H H':Hp} (e:Same H H'):∀ (ds:List PyData) (xs:List V),Thgs H ds xs→Thgs H' ds xs
  | [],xs,h=>h
  | d::ds,xs,h=>by
    obtain ⟨y,ys,h1,h2,h3⟩:=h
    exact ⟨y,ys,h1,Thg.same e d y h2,Thgs.same e ds ys h3⟩
end
mutual
theorem Thg.rep {K:PySem.W.Frag}{H:Hp}:∀ (d:PyData) (v:V),Thg H d v→Rep K H d v
  | .none,v,h=>h
  | .bool b,v,h=>h
  | .int i,v,h=>h
  | .str x,v,h=>h
  | .list ds,v,h=>by
    obtain ⟨a,xs,h1,h2,h3⟩:=h
    exact ⟨a,xs,h1,.of h2,Thgs.reps ds xs h3⟩
  | .tuple ds,v,h=>by
    obtain ⟨a,xs,h1,h2,h3⟩:=h
    exact ⟨a,xs,h1,.of h2,Thgs.reps ds xs h3⟩
  | .dict _,v,h=>h
theorem Thgs.reps {K:PySem.W.Frag}{H:Hp}:∀ (ds:List PyData) (xs:List V),Thgs H ds xs→Reps K H ds xs
  | [],xs,h=>h
  | d::ds,xs,h=>by
    obtain ⟨y,ys,h1,h2,h3⟩:=h
    exact ⟨y,ys,h1,Thg.rep d y h2,Thgs.reps ds ys h3⟩
end
theorem Thgs.length {H:Hp}:∀ {ds:List PyData}{xs:List V},Thgs H ds xs→ds.length=xs.length
  | [],xs,h=>by rw [show xs=[] from h]; rfl
  | d::ds,xs,h=>by
    obtain ⟨y,ys,h1,_,h3⟩:=h
    rw [h1,List.length_cons,List.length_cons,Thgs.length h3]
theorem Thgs.get {H:Hp}:∀ {ds:List PyData}{xs:List V}{i:Nat}{y:V},Thgs H ds xs→xs[i]?=some y→∃ d,ds[i]?=some d∧Thg H d y
  | [],xs,i,y,h,e=>by rw [show xs=[] from h] at e; simp at e
  | d::ds,xs,i,y,h,e=>by
    obtain ⟨z,zs,h1,h2,h3⟩:=h
    subst h1
    cases i with
    | zero =>
      have:z=y:=by simpa using e
      subst this
      exact ⟨d,rfl,h2⟩
    | succ i =>
      obtain ⟨d',e1,e2⟩:=Thgs.get (i:=i) h3 (by simpa using e)
      exact ⟨d',by simpa using e1,e2⟩
theorem Thgs.strs {H:Hp}:∀ (l:List S),Thgs H (l.map fun x=>PyData.str (tx x)) (l.map sv)
  | []=>rfl
  | x::l=>⟨_,_,rfl,rfl,Thgs.strs l⟩
mutual
def sml:PyData→Bool
  | .str x=>decide (x.length≤900) && x.cps.toList.all fun c=>decide (c < 128)
  | .list ds=>decide (ds.length≤900) && smls ds
  | .tuple ds=>decide (ds.length≤900) && smls ds
  | .dict _=>false
  | _=>true
def smls:List PyData→Bool
  | []=>true
  | d::ds=>sml d && smls ds
end
theorem smls_mem:∀ {ds:List PyData}{d:PyData},smls ds=true→d∈ds→sml d=true
  | e::ds,d,h,hm=>by
    have h':sml e=true∧smls ds=true:=by simpa [smls] using h
    rcases List.mem_cons.mp hm with z | z
    · rw [z]; exact h'.1
    · exact smls_mem h'.2 z
def isLet (c:Nat):Bool:=decide (97≤c) && decide (c≤122)
def isNameD:PyData→Bool
  | .str x=>(decide (1≤x.length) && decide (x.length≤8)) && x.cps.toList.all isLet
  | _=>false
def isBookD:PyData→Bool
  | .tuple ds=>(decide (1≤ds.length) && decide (ds.length≤8)) && ds.all isNameD
  | _=>false
def isOrderD:PyData→Bool
  | .int i=>decide (1≤i) && decide (i≤3)
  | _=>false
theorem isNameD_inv {d:PyData} (h:isNameD d=true):∃ x:S,d=.str (tx x)∧isNm x:=by
  cases d with
  | str x =>
    simp only [isNameD,Bool.and_eq_true,decide_eq_true_eq,List.all_eq_true,isLet] at h
    refine ⟨x.cps.toList,by rw [tx_eta],?_,?_,h.2⟩
    · have:=h.1.1; simpa [Str.length] using this
    · have:=h.1.2; simpa [Str.length] using this
  | none=>cases h
  | bool b=>cases h
  | int i=>cases h
  | list ds=>cases h
  | tuple ds=>cases h
  | dict _=>cases h
theorem isNameD_of {x:S} (h:isNm x):isNameD (.str (tx x))=true:=by
  simp only [isNameD,Bool.and_eq_true,decide_eq_true_eq,List.all_eq_true,isLet,tx_len,tx_cps]
  exact ⟨⟨h.1,h.2.1⟩,h.2.2⟩
theorem isBookD_inv {d:PyData} (h:isBookD d=true):∃ bk:List S,d=.tuple (bk.map fun x=>PyData.str (tx x))∧isBk bk:=by
  cases d with
  | tuple ds =>
    simp only [isBookD,Bool.and_eq_true,decide_eq_true_eq,List.all_eq_true] at h
    obtain ⟨⟨h1,h2⟩,h3⟩:=h
    have go:∀ ds:List PyData,(∀ d∈ds,isNameD d=true)→∃ bk:List S,ds=bk.map (fun x=>PyData.str (tx x))∧∀ x∈bk,isNm x:=by
      intro ds
      induction ds with
      | nil=>intro _; exact ⟨[],rfl,by simp⟩
      | cons d ds ih =>
        intro hd
        obtain ⟨x,rfl,hx⟩:=isNameD_inv (hd d (List.mem_cons_self ..))
        obtain ⟨bk,rfl,hb⟩:=ih fun e he=>hd e (List.mem_cons_of_mem _ he)
        refine ⟨x::bk,rfl,fun y hy=>?_⟩
        rcases List.mem_cons.mp hy with z | z
        · rw [z]; exact hx
        · exact hb y z
    obtain ⟨bk,rfl,hb⟩:=go ds h3
    rw [List.length_map] at h1 h2
    exact ⟨bk,rfl,h1,h2,hb⟩
  | none=>cases h
  | bool b=>cases h
  | int i=>cases h
  | list ds=>cases h
  | str x=>cases h
  | dict _=>cases h
theorem isBookD_of {bk:List S} (h:isBk bk):isBookD (.tuple (bk.map fun x=>PyData.str (tx x)))=true:=by
  simp only [isBookD,Bool.and_eq_true,decide_eq_true_eq,List.all_eq_true,List.length_map]
  refine ⟨⟨h.lo,h.hi⟩,fun d hd=>?_⟩
  obtain ⟨x,hx,rfl⟩:=List.mem_map.mp hd
  exact isNameD_of (h.nm x hx)
theorem Thgs.strs_inv {H:Hp}:∀ {l:List S}{xs:List V},Thgs H (l.map fun x=>PyData.str (tx x)) xs→xs=l.map sv
  | [],xs,h=>h
  | x::l,xs,h=>by
    obtain ⟨y,ys,h1,h2,h3⟩:=h
    have h2':y=sv x:=h2
    rw [h1,h2',Thgs.strs_inv h3]; rfl
theorem thg_book {H:Hp}{d:PyData}{v:V} (h:Thg H d v) (hb:isBookD d=true):∃ (a:Addr) (bk:List S),v=.ref a∧H a=some (.tup (bkV bk))∧isBk bk∧d=.tuple (bk.map fun x=>PyData.str (tx x)):=by
  obtain ⟨bk,rfl,hk⟩:=isBookD_inv hb
  obtain ⟨a,xs,rfl,h1,h2⟩:=h
  rw [Thgs.strs_inv h2] at h1
  exact ⟨a,bk,rfl,h1,hk,rfl⟩
theorem thg_order {H:Hp}{d:PyData}{v:V} (h:Thg H d v) (hb:isOrderD d=true):∃ o:Nat,v=.int o∧1≤o∧o≤3:=by
  cases d with
  | int i =>
    simp only [isOrderD,Bool.and_eq_true,decide_eq_true_eq] at hb
    refine ⟨i.toNat,?_,by omega,by omega⟩
    rw [show v=.int i from h]
    congr 1
    omega
  | none=>cases hb
  | bool b=>cases hb
  | list ds=>cases hb
  | tuple ds=>cases hb
  | str x=>cases hb
  | dict _=>cases hb
theorem thg_name {H:Hp}{d:PyData}{v:V} (h:Thg H d v) (hb:isNameD d=true):∃ x:S,v=sv x∧isNm x∧d=.str (tx x):=by
  obtain ⟨x,rfl,hx⟩:=isNameD_inv hb
  exact ⟨x,h,hx,rfl⟩
structure KitF (K:PySem.W.Frag):Prop where
  ns:PySem.W.kitOne K (.type "NoneType") (.type "str")=some false
  bs:PySem.W.kitOne K (.type "bool") (.type "str")=some false
  is:PySem.W.kitOne K (.type "int") (.type "str")=some false
  ls:PySem.W.kitOne K (.type "list") (.type "str")=some false
  ts:PySem.W.kitOne K (.type "tuple") (.type "str")=some false
  nt:PySem.W.kitOne K (.type "NoneType") (.type "tuple")=some false
  bt:PySem.W.kitOne K (.type "bool") (.type "tuple")=some false
  it:PySem.W.kitOne K (.type "int") (.type "tuple")=some false
  lt:PySem.W.kitOne K (.type "list") (.type "tuple")=some false
  st:PySem.W.kitOne K (.type "str") (.type "tuple")=some false
  ni:PySem.W.kitOne K (.type "NoneType") (.type "int")=some false
  bi:PySem.W.kitOne K (.type "bool") (.type "int")=some true
  li:PySem.W.kitOne K (.type "list") (.type "int")=some false
  ti:PySem.W.kitOne K (.type "tuple") (.type "int")=some false
  si:PySem.W.kitOne K (.type "str") (.type "int")=some false
theorem in_letters128 {c:Nat} (h:c < 128):(Builtin.Str.occurrences letters ⟨#[c]⟩ 0 letters.length 1).isEmpty=!isLet c:=by
  have all:∀ d:_root_.Fin 128,(Builtin.Str.occurrences letters ⟨#[d.val]⟩ 0 letters.length 1).isEmpty=!isLet d.val:=by decide +kernel
  exact all ⟨c,h⟩
section
variable {P:Program}{w:World}{K:PySem.W.Frag}{mg:Str→Option Value}{base:Heap}
theorem ty_str (KF:KitF K) {H:Hp}:∀ {d:PyData}{v:V},Thg H d v→∃ t b,TyOf K H v t∧PySem.W.kitOne K t (.type "str")=some b∧(b=true↔∃ x,d=.str x)
  | .none,v,h=>by cases (show v=.non from h); exact ⟨_,_,.non,KF.ns,by simp⟩
  | .bool b,v,h=>by cases (show v=.bl b from h); exact ⟨_,_,.bl _,KF.bs,by simp⟩
  | .int i,v,h=>by cases (show v=.int i from h); exact ⟨_,_,.int _,KF.is,by simp⟩
  | .str x,v,h=>by cases (show v=.str x from h); exact ⟨_,true,.str _,rfl,by simp⟩
  | .list ds,v,h=>by obtain ⟨a,xs,rfl,h1,_⟩:=h; exact ⟨_,_,.lst h1,KF.ls,by simp⟩
  | .tuple ds,v,h=>by obtain ⟨a,xs,rfl,h1,_⟩:=h; exact ⟨_,_,.tup h1,KF.ts,by simp⟩
  | .dict _,v,h=>h.elim
theorem ty_tup (KF:KitF K) {H:Hp}:∀ {d:PyData}{v:V},Thg H d v→∃ t b,TyOf K H v t∧PySem.W.kitOne K t (.type "tuple")=some b∧(b=true↔∃ ds,d=.tuple ds)
  | .none,v,h=>by cases (show v=.non from h); exact ⟨_,_,.non,KF.nt,by simp⟩
  | .bool b,v,h=>by cases (show v=.bl b from h); exact ⟨_,_,.bl _,KF.bt,by simp⟩
  | .int i,v,h=>by cases (show v=.int i from h); exact ⟨_,_,.int _,KF.it,by simp⟩
  | .str x,v,h=>by cases (show v=.str x from h); exact ⟨_,_,.str _,KF.st,by simp⟩
  | .list ds,v,h=>by obtain ⟨a,xs,rfl,h1,_⟩:=h; exact ⟨_,_,.lst h1,KF.lt,by simp⟩
  | .tuple ds,v,h=>by obtain ⟨a,xs,rfl,h1,_⟩:=h; exact ⟨_,true,.tup h1,rfl,by simp⟩
  | .dict _,v,h=>h.elim
def spIsNameT:Sp:=fun vs H Q _=>∃ v d,vs=[v]∧Thg H d v∧sml d=true∧∀ H',Same H H'→Q (.bl (isNameD d)) H'
theorem ok_isnameT {f:Addr}{fd:FuncData} (F:Fun K "is_name" "is_name" sIsName f fd) (B:Blt mg) (C:Cst K mg) (KF:KitF K):FnOk P w K mg base CX0 1 f fd ["thing"] spIsNameT:=by
  obtain ⟨tl,hl⟩:=C.letters
  obtain ⟨t8,h8⟩:=C.ml
  refine F.ok scIsName (fun vs H Q E h=>?_) (fun cdv A outer s H vs Q E hr h=>?_)
  · obtain ⟨v,d,rfl,_⟩:=h; rfl
  · obtain ⟨v,d,rfl,hv,hs,k⟩:=h
    refine ⟨_,pss_cons (ps_if (PW.pt (pw_or (pt_not (pt_val (pe_callB call_isinst (by rfl) B.isinstance PyProof.Rows.boot_isinstance (pa_cons (pv 0) (pa_cons (pe_bltn (v:=.ty "str") (by rfl) B.str PyProof.Rows.boot_str rfl) pa_nil)))))
        (pw_or1 (pt_not (pt_chain op_le op_le pe_int (pe_callB call_len_str (by rfl) B.len PySem.boot_len (pa_cons (pv 0) pa_nil)) (pe_glob (v:=.int 8) (by rfl) h8 ⟨_,rfl⟩))))))
        (pss_one (ps_ret pe_bl)) pss_nil)
      (pss_one (ps_ret (pe_callB (call_all rfl) (by rfl) B.all PyProof.Rows.boot_all (pa_cons (pe_comp (N:=["letter"]) (caps:=[]) rfl (compScope_of (by kernel_rfl)) (pi_str (pv 0))
        (fun cl C s H ex=>pg_name (i:=0) nd1 rfl (Or.inl rfl)) (fun cl C s H ex=>pf_nil)
        (fun cl C s H ex=>pe_cmpR op_in_str (pv 0) (pe_glob (v:=.str letters) (by rfl) hl ⟨_,rfl⟩) (by with_unfolding_all rfl))) pa_nil)))),?_⟩
    obtain ⟨t,b,hty,hkit,hb⟩:=ty_str KF hv
    refine ⟨_,rfl,_,_,t,b,rfl,hty,hkit,b,rfl,?_⟩
    cases b with
    | false =>
      have hd:isNameD d=false:=by
        cases d with
        | str x=>exact absurd (hb.mpr ⟨x,rfl⟩) (by decide)
        | _=>rfl
      rw [hd] at k
      exact iteT (iteT (k H (Same.refl H)))
    | true =>
      obtain ⟨x,rfl⟩:=hb.mp rfl
      have hv':v=.str x:=hv
      subst hv'
      have hsx:x.length≤900∧∀ c∈x.cps.toList,c < 128:=by
        simp only [sml,Bool.and_eq_true,decide_eq_true_eq,List.all_eq_true] at hs
        exact hs
      refine iteF ?_
      refine ⟨_,rfl,x,rfl,(by rw [sizeLine_eq]; omega),_,_,rfl,rfl,_,rfl,?_⟩
      by_cases h1:1≤x.length
      · refine iteD (by omega) ⟨_,_,rfl,rfl,_,rfl,?_⟩
        by_cases h2:x.length≤8
        · refine iteNS (by omega) ?_
          refine ⟨_,rfl,_,rfl,?_⟩
          have hxl:x.cps.toList.length=x.length:=by simp [Str.length]
          refine comp_known0 (known_str x) [] 1 (by rw [List.length_map]; omega) (fun i acc H'=>Same H H'∧acc=((x.cps.toList.take i).map isLet).map V.bl) ⟨Same.refl H,rfl⟩ (fun i acc H' _ h=>⟨trivial,by rw [h.2,List.length_map,List.length_map,List.length_take]; omega⟩) ?_ ?_
          · rintro i y acc H' ys Nx hN hx hy ⟨sm,rfl⟩
            obtain ⟨y',rfl⟩:=ys1 hy
            rw [List.getElem?_map] at hx
            cases e:x.cps.toList[i]? with
            | none=>rw [e] at hx; cases hx
            | some c =>
              rw [e] at hx
              have hy2:y=.str ⟨#[c]⟩:=(Option.some.inj hx).symm
              subst hy2
              have hi:i < x.cps.toList.length:=(List.getElem?_eq_some_iff.mp e).1
              refine ⟨_,rfl,_,_,rfl,rfl,?_⟩
              rw [in_letters128 (hsx.2 c (List.mem_of_getElem? e)),Bool.not_not]
              refine hN _ _ [some (.str ⟨#[c]⟩)] rfl ⟨sm,?_⟩
              rw [List.take_succ_eq_append_getElem hi,(List.getElem?_eq_some_iff.mp e).2,List.map_append,List.map_append]; rfl
          · rintro acc H' ⟨sm,rfl⟩ D hD
            rw [List.length_map,List.take_length]
            refine ⟨D,_,rfl,.of upd_same,?_⟩
            have e2:((x.cps.toList.map isLet).all id)=isNameD (.str x):=by
              simp only [isNameD,decide_eq_true h1,decide_eq_true h2,Bool.and_self,Bool.true_and,List.all_map]
              rfl
            rw [e2]
            exact k _ (sm.upd_new (sm.free hD))
        · have hd:isNameD (.str x)=false:=by simp [isNameD,h2]
          rw [hd] at k
          refine ite_nn (fun z=>h2 (by omega)) (k H (Same.refl H))
      · have hd:isNameD (.str x)=false:=by simp [isNameD,h1]
        rw [hd] at k
        refine iteDF (fun z=>h1 (by omega)) ?_
        exact ⟨false,rfl,iteT (k H (Same.refl H))⟩
def spIsBookT:Sp:=fun vs H Q _=>∃ v d,vs=[v]∧Thg H d v∧sml d=true∧∀ H',Same H H'→Q (.bl (isBookD d)) H'
theorem ok_isbookT {f:Addr}{fd:FuncData} (F:Fun K "is_book" "is_book" sIsBook f fd) (B:Blt mg) (C:Cst K mg) (KF:KitF K) (cName:Cal P w K mg base 1 "is_name" ["thing"] spIsNameT):FnOk P w K mg base CX0 2 f fd ["thing"] spIsBookT:=by
  obtain ⟨t8,h8⟩:=C.mn
  refine F.ok scIsBook (fun vs H Q E h=>?_) (fun cdv A outer s H vs Q E hr h=>?_)
  · obtain ⟨v,d,rfl,_⟩:=h; rfl
  · obtain ⟨v,d,rfl,hv,hs,k⟩:=h
    refine ⟨_,pss_cons (ps_if (PW.pt (pw_or (pt_not (pt_val (pe_callB call_isinst (by rfl) B.isinstance PyProof.Rows.boot_isinstance (pa_cons (pv 0) (pa_cons (pe_bltn (v:=.ty "tuple") (by rfl) B.tuple PyProof.Rows.boot_tuple rfl) pa_nil)))))
        (pw_or1 (pt_not (pt_chain op_le op_le pe_int (pe_callB call_len_seq (by rfl) B.len PySem.boot_len (pa_cons (pv 0) pa_nil)) (pe_glob (v:=.int 8) (by rfl) h8 ⟨_,rfl⟩))))))
        (pss_one (ps_ret pe_bl)) pss_nil)
      (pss_one (ps_ret (pe_callB (call_all rfl) (by rfl) B.all PyProof.Rows.boot_all (pa_cons (pe_comp (N:=["name"]) (caps:=[]) rfl (compScope_of (by kernel_rfl)) (pi_tup (pv 0))
        (fun cl C s H ex=>pg_name (i:=0) nd2 rfl (Or.inl rfl)) (fun cl C s H ex=>pf_nil)
        (fun cl C s H ex=>pe_cal cName hr rfl (pa_cons (pv 0) pa_nil))) pa_nil)))),?_⟩
    obtain ⟨t,b,hty,hkit,hb⟩:=ty_tup KF hv
    refine ⟨_,rfl,_,_,t,b,rfl,hty,hkit,b,rfl,?_⟩
    cases b with
    | false =>
      have hd:isBookD d=false:=by
        cases d with
        | tuple x=>exact absurd (hb.mpr ⟨x,rfl⟩) (by decide)
        | _=>rfl
      rw [hd] at k
      exact iteT (iteT (k H (Same.refl H)))
    | true =>
      obtain ⟨ds,rfl⟩:=hb.mp rfl
      obtain ⟨a,xs,rfl,ha,hxs⟩:=hv
      have hsx:ds.length≤900∧smls ds=true:=by
        simp only [sml,Bool.and_eq_true,decide_eq_true_eq] at hs
        exact hs
      have hxl:xs.length=ds.length:=hxs.length.symm
      refine iteF ?_
      refine ⟨_,rfl,_,_,rfl,.inr (.of ha),_,_,rfl,rfl,_,rfl,?_⟩
      by_cases h1:1≤ds.length
      · refine iteD (by rw [hxl]; omega) ⟨_,_,rfl,rfl,_,rfl,?_⟩
        by_cases h2:ds.length≤8
        · refine iteNS (by rw [hxl]; omega) ?_
          refine ⟨_,rfl,a,rfl,⟨_,.of ha⟩,?_⟩
          refine comp_known0 (known_tup _ a xs) [] 1 (by omega) (fun i acc H'=>Same H H'∧acc=((ds.take i).map isNameD).map V.bl) ⟨Same.refl H,rfl⟩ (fun i acc H' _ h=>⟨.of (h.1 _ _ ha),by rw [h.2,List.length_map,List.length_map,List.length_take]; omega⟩) ?_ ?_
          · rintro i y acc H' ys Nx hN hx hy ⟨sm,rfl⟩
            obtain ⟨y',rfl⟩:=ys1 hy
            obtain ⟨e,he,hye⟩:=hxs.get hx
            have hi:i < ds.length:=(List.getElem?_eq_some_iff.mp he).1
            refine ⟨_,rfl,y,e,rfl,Thg.same sm _ _ hye,smls_mem hsx.2 (List.mem_of_getElem? he),fun H5 sm5=>hN _ _ [some y] rfl ⟨sm.trans sm5,?_⟩⟩
            rw [List.take_succ_eq_append_getElem hi,(List.getElem?_eq_some_iff.mp he).2,List.map_append,List.map_append]; rfl
          · rintro acc H' ⟨sm,rfl⟩ D hD
            rw [hxl,List.take_length]
            refine ⟨D,_,rfl,.of upd_same,?_⟩
            have e2:((ds.map isNameD).all id)=isBookD (.tuple ds):=by
              simp only [isBookD,decide_eq_true h1,decide_eq_true h2,Bool.and_self,Bool.true_and,List.all_map]
              rfl
            rw [e2]
            exact k _ (sm.upd_new (sm.free hD))
        · have hd:isBookD (.tuple ds)=false:=by simp [isBookD,h2]
          rw [hd] at k
          refine ite_nn (fun z=>h2 (by rw [hxl] at z; omega)) (k H (Same.refl H))
      · have hd:isBookD (.tuple ds)=false:=by simp [isBookD,h1]
        rw [hd] at k
        refine iteDF (fun z=>h1 (by rw [hxl] at z; omega)) ?_
        exact ⟨false,rfl,iteT (k H (Same.refl H))⟩
def isWholeD (a b:Int):PyData→Bool
  | .int i=>decide (a≤i) && decide (i≤b)
  | _=>false
theorem isOrder_whole (d:PyData):isOrderD d=isWholeD 1 3 d:=by
  cases d <;> rfl
def spIsWholeT:Sp:=fun vs H Q _=>∃ v d a b,vs=[v,.int a,.int b]∧Thg H d v∧Q (.bl (isWholeD a b d)) H
theorem ok_iswholeT {f:Addr}{fd:FuncData} (F:Fun K "is_whole" "is_whole" sIsWhole f fd) (B:Blt mg) (C:Cst K mg) (KF:KitF K):FnOk P w K mg base CX0 1 f fd ["thing", "least", "most"] spIsWholeT:=by
  refine F.ok scIsWhole (fun vs H Q E h=>?_) (fun cdv A outer s H vs Q E hr h=>?_)
  · obtain ⟨v,d,a,b,rfl,_⟩:=h; rfl
  · obtain ⟨v,d,a,b,rfl,hv,k⟩:=h
    refine ⟨_,pss_cons (ps_if (PW.pt (pw_or (pt_not (pt_val (pe_callB call_isinst (by rfl) B.isinstance PyProof.Rows.boot_isinstance (pa_cons (pv 0) (pa_cons (pe_bltn (v:=.ty "int") (by rfl) B.int PyProof.Rows.boot_int rfl) pa_nil)))))
        (pw_or1 (pt_val (pe_callB call_isinst (by rfl) B.isinstance PyProof.Rows.boot_isinstance (pa_cons (pv 0) (pa_cons (pe_bltn (v:=.ty "bool") (by rfl) B.bool PyProof.Rows.boot_bool rfl) pa_nil)))))))
        (pss_one (ps_ret pe_bl)) pss_nil)
      (pss_one (ps_ret (pe_chain op_le op_le (pv 1) (pv 0) (pv 2)))),?_⟩
    cases d with
    | none=>cases (show v=.non from hv); exact ⟨_,rfl,_,_,_,false,rfl,.non,KF.ni,_,rfl,iteT (iteT k)⟩
    | str x=>cases (show v=.str x from hv); exact ⟨_,rfl,_,_,_,false,rfl,.str _,KF.si,_,rfl,iteT (iteT k)⟩
    | list ds=>obtain ⟨a,xs,rfl,h1,_⟩:=hv; exact ⟨_,rfl,_,_,_,false,rfl,.lst h1,KF.li,_,rfl,iteT (iteT k)⟩
    | tuple ds=>obtain ⟨a,xs,rfl,h1,_⟩:=hv; exact ⟨_,rfl,_,_,_,false,rfl,.tup h1,KF.ti,_,rfl,iteT (iteT k)⟩
    | dict _=>exact hv.elim
    | bool b =>
      cases (show v=.bl b from hv)
      exact ⟨_,rfl,_,_,_,true,rfl,.bl _,KF.bi,_,rfl,iteF ⟨_,rfl,_,_,_,true,rfl,.bl _,(by rfl),_,rfl,iteT k⟩⟩
    | int i =>
      cases (show v=.int i from hv)
      refine ⟨_,rfl,_,_,_,true,rfl,.int _,(by rfl),_,rfl,?_⟩
      refine iteF ?_
      refine ⟨_,rfl,_,_,_,false,rfl,.int _,C.ib,_,rfl,?_⟩
      refine iteF ?_
      refine ⟨_,rfl,_,rfl,_,_,rfl,rfl,_,rfl,?_⟩
      by_cases h1:a≤i
      · refine iteD h1 ⟨_,rfl,_,_,rfl,rfl,?_⟩
        have e:isWholeD a b (.int i)=decide (i≤b):=by simp [isWholeD,h1]
        rw [e] at k
        exact k
      · have e:isWholeD a b (.int i)=false:=by simp [isWholeD,h1]
        rw [e] at k
        exact iteDF h1 k
def spIsOrderT:Sp:=fun vs H Q _=>∃ v d,vs=[v]∧Thg H d v∧Q (.bl (isOrderD d)) H
theorem ok_isorderT {f:Addr}{fd:FuncData} (F:Fun K "is_order" "is_order" sIsOrder f fd) (C:Cst K mg) (cW:Cal P w K mg base 1 "is_whole" ["thing", "least", "most"] spIsWholeT):FnOk P w K mg base CX0 2 f fd ["thing"] spIsOrderT:=by
  obtain ⟨t3,h3⟩:=C.mo
  refine F.ok scIsOrder (fun vs H Q E h=>?_) (fun cdv A outer s H vs Q E hr h=>?_)
  · obtain ⟨v,d,rfl,_⟩:=h; rfl
  · obtain ⟨v,d,rfl,hv,k⟩:=h
    refine ⟨_,pss_one (ps_ret (pe_cal cW hr rfl (pa_cons (pv 0) (pa_cons pe_int (pa_cons (pe_glob (v:=.int 3) (by rfl) h3 ⟨_,rfl⟩) pa_nil))))),?_⟩
    rw [isOrder_whole] at k
    exact ⟨_,rfl,v,d,1,3,rfl,hv,k⟩
def spRef (C:Addr) (ok:PyData→Bool):Sp:=fun vs H Q E=>∃ v d,vs=[v]∧Thg H d v∧sml d=true∧(ok d=true→∀ H',Same H H'→Q .non H')∧(ok d=false→∀ H',Same H H'→E (.ref C) none H')
theorem ok_needbookR {f:Addr}{fd:FuncData}{C:Addr} (F:Fun K "need_book" "need_book" sNeedBook f fd) (O:XCls K mg "NoBook" C) (c1:Cal P w K mg base 2 "is_book" ["thing"] spIsBookT):FnOk P w K mg base (CXr P w) 3 f fd ["thing"] (spRef C isBookD):=by
  refine F.okR scNeedBook (fun vs H Q E h=>?_) (fun cdv A outer s H vs Q E hr h ok=>?_)
  · obtain ⟨v,d,rfl,_⟩:=h; rfl
  · obtain ⟨v,d,rfl,hv,hs,k1,k2⟩:=h
    refine ⟨_,pss_one (ps_if (pt_not (pt_val (pe_cal c1 hr rfl (pa_cons (pv 0) pa_nil)))) (pss_one (ps_raise ok rfl O (by rfl) (pa_cons pe_str pa_nil))) pss_nil),?_⟩
    refine ⟨_,rfl,v,d,rfl,hv,hs,fun H' sm=>⟨_,rfl,?_⟩⟩
    cases e:isBookD d with
    | true=>exact iteF (k1 e H' sm)
    | false=>exact iteT ⟨by show 1≤sizeLine; decide,k2 e H' sm⟩
theorem ok_needorderR {f:Addr}{fd:FuncData}{C:Addr} (F:Fun K "need_order" "need_order" sNeedOrder f fd) (O:XCls K mg "NoOrder" C) (c1:Cal P w K mg base 2 "is_order" ["thing"] spIsOrderT):FnOk P w K mg base (CXr P w) 3 f fd ["thing"] (spRef C isOrderD):=by
  refine F.okR scNeedOrder (fun vs H Q E h=>?_) (fun cdv A outer s H vs Q E hr h ok=>?_)
  · obtain ⟨v,d,rfl,_⟩:=h; rfl
  · obtain ⟨v,d,rfl,hv,hs,k1,k2⟩:=h
    refine ⟨_,pss_one (ps_if (pt_not (pt_val (pe_cal c1 hr rfl (pa_cons (pv 0) pa_nil)))) (pss_one (ps_raise ok rfl O (by rfl) (pa_cons pe_str pa_nil))) pss_nil),?_⟩
    refine ⟨_,rfl,v,d,rfl,hv,_,rfl,?_⟩
    cases e:isOrderD d with
    | true=>exact iteF (k1 e H (Same.refl H))
    | false=>exact iteT ⟨by show 1≤sizeLine; decide,k2 e H (Same.refl H)⟩
theorem ok_neednameR {f:Addr}{fd:FuncData}{C:Addr} (F:Fun K "need_name" "need_name" sNeedName f fd) (O:XCls K mg "NoName" C) (c1:Cal P w K mg base 1 "is_name" ["thing"] spIsNameT):FnOk P w K mg base (CXr P w) 2 f fd ["thing"] (spRef C isNameD):=by
  refine F.okR scNeedName (fun vs H Q E h=>?_) (fun cdv A outer s H vs Q E hr h ok=>?_)
  · obtain ⟨v,d,rfl,_⟩:=h; rfl
  · obtain ⟨v,d,rfl,hv,hs,k1,k2⟩:=h
    refine ⟨_,pss_one (ps_if (pt_not (pt_val (pe_cal c1 hr rfl (pa_cons (pv 0) pa_nil)))) (pss_one (ps_raise ok rfl O (by rfl) (pa_cons pe_str pa_nil))) pss_nil),?_⟩
    refine ⟨_,rfl,v,d,rfl,hv,hs,fun H' sm=>⟨_,rfl,?_⟩⟩
    cases e:isNameD d with
    | true=>exact iteF (k1 e H' sm)
    | false=>exact iteT ⟨by show 1≤sizeLine; decide,k2 e H' sm⟩
end
end Kn
end
section
namespace Kn
open PySem L2
section
variable {P:Program}{w:World}{K:PySem.W.Frag}{mg:Str→Option Value}{base:Heap}
end
end Kn
end
section
namespace L2
open PySem PySem.Spec PyProof.Rows
section
variable {prog:Program}{w:World}{A:Around}{E:Value→Shared→Prop}{s:Shared}
theorem nextOf_tup_item {it t:Addr}{i:Nat}{items}{x:Value}{Q:Value→Shared→Prop} (hit:s.heap.IsTupleIter it t i) (ht:s.heap.IsTuple t items) (hx:items[i]?=some x)
    (hQ:∀ h',h'.IsTupleIter it t (i+1)→Heap.SameBut it s.heap h'→Q x { s with heap:=h' }):wpAny (model prog w) A (Builtin.SmallTypes.nextOf (.ref it)) Q E s:=by
  obtain ⟨o,ho,hc,hd⟩:=id hit
  obtain ⟨ol,hol,_,nl,hdl⟩:=ht
  unfold Builtin.SmallTypes.nextOf
  refine wpAny_bind (wpAny_callSpecial?_slot (name:=Str.ofString "__next__") hit.typeIs F.slot_tuple_iterator_next (wpAny_call_entry F.slot_tuple_iterator_next hit.typeIs F.entry_tuple_iterator_next ?_ (F.args_tuple_iterator_next_1 _)))
  show wpAny _ _ (field (.ref it) 0 >>= _) _ _ s
  refine wpAny_bind (wpAny_field ho hd (x:=.ref t) rfl ?_)
  show wpAny _ _ (if (Value.ref t == Value.none)=true then _ else _) _ _ s
  rw [if_neg (show ¬ ((Value.ref t == Value.none)=true) from Bool.false_ne_true)]
  show wpAny _ _ (field (.ref it) 1 >>= _) _ _ s
  refine wpAny_bind (wpAny_field ho hd (x:=.int i 0) rfl ?_)
  show wpAny _ _ (seqItems? (.ref t) >>= _) _ _ s
  refine wpAny_bind (wpAny_seqItems hol hdl ?_)
  simp only [Int.toNat_natCast,hx]
  refine wpAny_bind (wpAny_setField ho hd (by simp) (wpAny_pure ⟨x,rfl,wpAny_pure (hQ _ ?_ (Heap.SameBut.update ..))⟩))
  exact ⟨_,Heap.get?_update_self _ ho (Obj.isFreed_of_fields (Obj.data_mapFields hd _)),(Obj.cls_mapFields ..).trans hc,by rw [Obj.data_mapFields hd]; simp [rawInt]⟩
theorem nextOf_tup_end {it t:Addr}{i:Nat}{items}{Q:Value→Shared→Prop} (hh:A.handled=none) (hit:s.heap.IsTupleIter it t i) (ht:s.heap.IsTuple t items) (hx:items[i]?=none)
    (hE:∀ h' e,Heap.ExtBut it s.heap h'→(∃ o,h'.get? e=some o∧o.cls=.type "StopIteration")→E (.ref e) { s with heap:=h' }):wpAny (model prog w) A (Builtin.SmallTypes.nextOf (.ref it)) Q E s:=by
  obtain ⟨o,ho,hc,hd⟩:=id hit
  obtain ⟨ol,hol,_,nl,hdl⟩:=ht
  unfold Builtin.SmallTypes.nextOf
  refine wpAny_bind (wpAny_callSpecial?_slot (name:=Str.ofString "__next__") hit.typeIs F.slot_tuple_iterator_next (wpAny_call_entry F.slot_tuple_iterator_next hit.typeIs F.entry_tuple_iterator_next ?_ (F.args_tuple_iterator_next_1 _)))
  show wpAny _ _ (field (.ref it) 0 >>= _) _ _ s
  refine wpAny_bind (wpAny_field ho hd (x:=.ref t) rfl ?_)
  show wpAny _ _ (if (Value.ref t == Value.none)=true then _ else _) _ _ s
  rw [if_neg (show ¬ ((Value.ref t == Value.none)=true) from Bool.false_ne_true)]
  show wpAny _ _ (field (.ref it) 1 >>= _) _ _ s
  refine wpAny_bind (wpAny_field ho hd (x:=.int i 0) rfl ?_)
  show wpAny _ _ (seqItems? (.ref t) >>= _) _ _ s
  refine wpAny_bind (wpAny_seqItems hol hdl ?_)
  simp only [Int.toNat_natCast,hx]
  refine wpAny_bind (wpAny_rule (wpAny_bind (wpAny_setField ho hd (by simp) ?_)))
  show wpAny _ _ (newExc (.type "StopIteration") [] >>= _) _ _ _
  refine wpAny_bind ?_
  simp only [newExc,newTuple]
  refine wpAny_bind (wpAny_newObj_type ?_ (by size_fits))
  refine wpAny_bind (m:=firstArgMember _ _) (wpAny_of_eq (a:=Value.none) (by first | rfl | (simp only [firstArgMember]; rfl)) ?_)
  refine wpAny_newObj_type ?_ (by size_fits)
  simp only [raiseNew]
  refine wpAny_bind (wpAny_handled ?_)
  first | rw [show A.in1.handled=none from hh] | rw [hh]
  refine wpAny_bind (wpAny_pure (wpAny_throw ?_))
  exact hE _ _ (((Heap.SameBut.update ..).extBut.push _).push _) ⟨_,Heap.get?_push_size _ rfl,rfl⟩
end
theorem drawsTup {prog:Program}{w:World}{A:Around} (hh:A.handled=none) (it l:Addr) (hne:l≠it) (items:Array Value) :
    Draws prog w A it [it,l] items.size (fun i v=>items[i]?=some v) (fun i h=>h.IsTupleIter it l i∧h.IsTuple l items) where
  live:=fun _ _ st=>let ⟨o,ho,_⟩:=st.1; ⟨o,ho⟩
  frame:=fun _ _ _ st hk=>⟨st.1.at fun o e=>hk it (by simp) o e,let ⟨o,e,r⟩:=st.2; ⟨o,hk l (by simp) o e,r⟩⟩
  item:=fun i s Q E hi st hQ=>nextOf_tup_item st.1 st.2 (x:=items[i]) (by simp [hi]) fun h' hit' hs'=>hQ _ h' s.toks (by simp [hi]) ⟨hit',st.2.extBut hs'.extBut hne⟩ hs'
  done:=fun s Q E st hE=>nextOf_tup_end hh st.1 st.2 (by simp) hE
structure Side (z TI TO i1 i2:Addr) (fp1 fp2:List Addr):Prop where
  TIz:TI≠z
  TOz:TO≠z
  i1z:i1≠z
  i2z:i2≠z
  TITO:TI≠TO
  TIi1:TI≠i1
  TIi2:TI≠i2
  TOi1:TO≠i1
  TOi2:TO≠i2
  i12:i1≠i2
  f1:∀ c∈fp1,c≠z∧c≠TO∧c≠i2
  f2:∀ c∈fp2,c≠z∧c≠TO∧c≠i1
section
variable {prog:Program}{w:World}{A:Around}{E:Value→Shared→Prop}{s:Shared}{z TI TO i1 i2:Addr}{fp1 fp2:List Addr}{n1 n2:Nat}{P1 P2:Nat→Value→Prop}{T1 T2:Nat→Heap→Prop}{k:Nat}{a b:Value}
theorem zipD_item {Q:Value→Shared→Prop} (D1:Draws prog w A i1 fp1 n1 P1 T1) (D2:Draws prog w A i2 fp2 n2 P2 T2) (D:Side z TI TO i1 i2 fp1 fp2)
    (hz:IsZip s.heap z TI TO .none) (hTI:IsPair s.heap TI (.ref i1) (.ref i2)) (hTO:IsPair s.heap TO a b) (t1:T1 k s.heap) (t2:T2 k s.heap) (l1:k < n1) (l2:k < n2)
    (hQ:∀ x y h' tk,P1 k x→P2 k y→IsZip h' z TI TO (rawInt s.heap.objs.size)→IsPair h' TO x y→T1 (k+1) h'→T2 (k+1) h'→IsPair h' s.heap.objs.size x y→h'.objs.size=s.heap.objs.size+1 →
      (∀ c o,c≠z→c≠TO→c≠i1→c≠i2→s.heap.get? c=some o→h'.get? c=some o)→Q (.ref s.heap.objs.size) { s with heap:=h',toks:=tk }) :
    wpAny (model prog w) A (Builtin.«zip.__next__» ⟨[.ref z],[]⟩) (fun fin s'=>∃ v,fin=.done (.ret v)∧Q v s') E s:=by
  show wpAny _ _ (field (.ref z) 2 >>= _) _ _ _
  refine wpAny_bind (wpAny_field hz rfl (x:=.bool false) rfl ?_)
  show wpAny _ _ (field (.ref z) 3 >>= _) _ _ _
  refine wpAny_bind (wpAny_field hz rfl (x:=.ref TI) rfl ?_)
  refine wpAny_bind (wpAny_seqItems hTI rfl ?_)
  show wpAny _ _ (Builtin.SmallTypes.ownedTupleIsFree (.ref z) >>= _) _ _ _
  refine wpAny_bind ?_
  unfold Builtin.SmallTypes.ownedTupleIsFree
  refine wpAny_bind (wpAny_field hz rfl (x:=.none) rfl (wpAny_pure ?_))
  simp only [if_true]
  refine wpAny_bind (wpAny_rule ?_)
  refine wpAny_bind (wpAny_field hz rfl (x:=.ref TO) rfl ?_)
  refine wpAny_bind (wpAny_setField_rec hz (by simp) fun h₁ hz₁ hs₁=>?_)
  replace hz₁:IsZip h₁ z TI TO .ellipsis:=hz₁
  refine wpAny_bind ?_
  simp only [List.zipIdx_cons,List.zipIdx_nil,List.forIn_cons,List.forIn_nil]
  refine wpAny_bind (wpAny_bind (wpAny_onRaise ?_))
  show wpAny _ _ (Builtin.SmallTypes.nextOf (.ref i1) >>= _) _ _ _
  have t1₁:T1 k h₁:=D1.frame _ _ _ t1 fun c hc o e=>hs₁.extBut _ _ (D.f1 c hc).1 e
  have t2₁:T2 k h₁:=D2.frame _ _ _ t2 fun c hc o e=>hs₁.extBut _ _ (D.f2 c hc).1 e
  refine wpAny_bind (D1.item k _ _ _ l1 t1₁ fun x h₂ tk2 px t1₂ hs₂=>wpAny_pure ?_)
  have hTO₂:IsPair h₂ TO a b:=hs₂.extBut _ _ D.TOi1 (hs₁.extBut _ _ D.TOz hTO)
  refine wpAny_bind (wpAny_seqItems hTO₂ rfl ?_)
  refine wpAny_bind (wpAny_updateSeq_pair hTO₂ fun h₃ hTO₃ hs₃=>?_)
  replace hTO₃:IsPair h₃ TO x b:=hTO₃
  refine wpAny_bind (wpAny_letGo (wpAny_pure ?_))
  refine wpAny_bind (wpAny_bind (wpAny_onRaise ?_))
  show wpAny _ _ (Builtin.SmallTypes.nextOf (.ref i2) >>= _) _ _ _
  have t2₃:T2 k h₃:=D2.frame _ _ _ t2₁ fun c hc o e=>hs₃.extBut _ _ (D.f2 c hc).2.1 (hs₂.extBut _ _ (D.f2 c hc).2.2 e)
  refine wpAny_bind (D2.item k _ _ _ l2 t2₃ fun y h₄ tk4 py t2₄ hs₄=>wpAny_pure ?_)
  have hTO₄:IsPair h₄ TO x b:=hs₄.extBut _ _ D.TOi2 hTO₃
  refine wpAny_bind (wpAny_seqItems hTO₄ rfl ?_)
  refine wpAny_bind (wpAny_updateSeq_pair hTO₄ fun h₅ hTO₅ hs₅=>?_)
  replace hTO₅:IsPair h₅ TO x y:=hTO₅
  refine wpAny_bind (wpAny_letGo (wpAny_pure (wpAny_pure ?_)))
  refine wpAny_bind (wpAny_seqItems hTO₅ rfl ?_)
  refine wpAny_bind (wpAny_newTuple ?_)
  have hsz:h₅.objs.size=s.heap.objs.size:=by rw [hs₅.1,hs₄.1,hs₃.1,hs₂.1,hs₁.1]
  have hz₅:IsZip h₅ z TI TO .ellipsis:=hs₅.extBut _ _ D.TOz.symm (hs₄.extBut _ _ D.i2z.symm (hs₃.extBut _ _ D.TOz.symm (hs₂.extBut _ _ D.i1z.symm hz₁)))
  have hk₅:∀ c o,c≠z→c≠TO→c≠i1→c≠i2→s.heap.get? c=some o→h₅.get? c=some o:=fun c o c1 c2 c3 c4 e =>
    hs₅.extBut _ _ c2 (hs₄.extBut _ _ c4 (hs₃.extBut _ _ c2 (hs₂.extBut _ _ c3 (hs₁.extBut _ _ c1 e))))
  have t1₅:T1 (k+1) h₅:=D1.frame _ _ _ t1₂ fun c hc o e=>hs₅.extBut _ _ (D.f1 c hc).2.1 (hs₄.extBut _ _ (D.f1 c hc).2.2 (hs₃.extBut _ _ (D.f1 c hc).2.1 e))
  have t2₅:T2 (k+1) h₅:=D2.frame _ _ _ t2₄ fun c hc o e=>hs₅.extBut _ _ (D.f2 c hc).2.1 e
  have hzlt:z < h₅.objs.size:=Heap.lt_size hz₅
  show wpAny _ _ (Builtin.SmallTypes.ownedTupleHandOut (.ref z) (.ref h₅.objs.size) >>= _) _ _ _
  refine wpAny_bind ?_
  unfold Builtin.SmallTypes.ownedTupleHandOut
  have hz₆:IsZip (h₅.push { cls:=.type "tuple",data:=.seq #[x,y] }) z TI TO .ellipsis:=Heap.get?_push_of_some _ hz₅
  refine wpAny_bind (wpAny_setField_rec hz₆ (by simp) fun h₇ hz₇ hs₇=>?_)
  replace hz₇:IsZip h₇ z TI TO (rawInt h₅.objs.size):=hz₇
  refine wpAny_setField_rec hz₇ (by simp) fun h₈ hz₈ hs₈=>?_
  replace hz₈:IsZip h₈ z TI TO (rawInt h₅.objs.size):=hz₈
  have up:∀ c o,c≠z→h₅.get? c=some o→h₈.get? c=some o:=fun c o c1 e=>hs₈.extBut _ _ c1 (hs₇.extBut _ _ c1 (Heap.get?_push_of_some _ e))
  have hT₈:IsPair h₈ h₅.objs.size x y:=hs₈.extBut _ _ (Nat.ne_of_gt hzlt) (hs₇.extBut _ _ (Nat.ne_of_gt hzlt) (Heap.get?_push_size _ rfl))
  have hz8:h₈.objs.size=h₅.objs.size+1:=by rw [hs₈.1,hs₇.1,Heap.size_push]
  rw [hsz] at hz₈ hT₈ hz8
  refine wpAny_pure ⟨_,rfl,?_⟩
  show Q (.ref h₅.objs.size) _
  rw [hsz]
  exact hQ x y h₈ _ px py hz₈ (up _ _ D.TOz hTO₅) (D1.frame _ _ _ t1₅ fun c hc o e=>up c o (D.f1 c hc).1 e) (D2.frame _ _ _ t2₅ fun c hc o e=>up c o (D.f2 c hc).1 e) hT₈ hz8 fun c o c1 c2 c3 c4 e=>up c o c1 (hk₅ c o c1 c2 c3 c4 e)
theorem zipD_end {Q:Fin→Shared→Prop} (D1:Draws prog w A i1 fp1 n1 P1 T1) (D2:Draws prog w A i2 fp2 n2 P2 T2) (D:Side z TI TO i1 i2 fp1 fp2)
    (hz:IsZip s.heap z TI TO .none) (hTI:IsPair s.heap TI (.ref i1) (.ref i2)) (hTO:IsPair s.heap TO a b) (t1:T1 n1 s.heap)
    (hE:∀ h' e,(∀ c o,c≠z→c≠TO→c≠i1→c≠i2→s.heap.get? c=some o→h'.get? c=some o)→(∃ o,h'.get? e=some o∧o.cls=.type "StopIteration")→E (.ref e) { s with heap:=h' }) :
    wpAny (model prog w) A (Builtin.«zip.__next__» ⟨[.ref z],[]⟩) Q E s:=by
  show wpAny _ _ (field (.ref z) 2 >>= _) _ _ _
  refine wpAny_bind (wpAny_field hz rfl (x:=.bool false) rfl ?_)
  show wpAny _ _ (field (.ref z) 3 >>= _) _ _ _
  refine wpAny_bind (wpAny_field hz rfl (x:=.ref TI) rfl ?_)
  refine wpAny_bind (wpAny_seqItems hTI rfl ?_)
  show wpAny _ _ (Builtin.SmallTypes.ownedTupleIsFree (.ref z) >>= _) _ _ _
  refine wpAny_bind ?_
  unfold Builtin.SmallTypes.ownedTupleIsFree
  refine wpAny_bind (wpAny_field hz rfl (x:=.none) rfl (wpAny_pure ?_))
  simp only [if_true]
  refine wpAny_bind (wpAny_rule ?_)
  refine wpAny_bind (wpAny_field hz rfl (x:=.ref TO) rfl ?_)
  refine wpAny_bind (wpAny_setField_rec hz (by simp) fun h₁ hz₁ hs₁=>?_)
  replace hz₁:IsZip h₁ z TI TO .ellipsis:=hz₁
  refine wpAny_bind ?_
  simp only [List.zipIdx_cons,List.zipIdx_nil,List.forIn_cons,List.forIn_nil]
  refine wpAny_bind (wpAny_bind (wpAny_onRaise ?_))
  show wpAny _ _ (Builtin.SmallTypes.nextOf (.ref i1) >>= _) _ _ _
  have t1₁:T1 n1 h₁:=D1.frame _ _ _ t1 fun c hc o e=>hs₁.extBut _ _ (D.f1 c hc).1 e
  refine wpAny_bind (D1.done _ _ _ t1₁ fun h₂ e hs₂ he=>?_)
  obtain ⟨oe,hoe,hce⟩:=he
  have hz₂:IsZip h₂ z TI TO .ellipsis:=hs₂ _ _ D.i1z.symm hz₁
  have hez:e≠z:=fun x=>by subst x; rw [hz₂] at hoe; cases hoe; simp at hce
  refine wpAny_setField_rec hz₂ (by simp) fun h₃ _ hs₃=>hE h₃ e (fun c o c1 _ c3 _ x=>hs₃.extBut _ _ c1 (hs₂ _ _ c3 (hs₁.extBut _ _ c1 x))) ⟨oe,hs₃.extBut _ _ hez hoe,hce⟩
theorem zipD_end2 {Q:Fin→Shared→Prop} (D1:Draws prog w A i1 fp1 n1 P1 T1) (D2:Draws prog w A i2 fp2 n2 P2 T2) (D:Side z TI TO i1 i2 fp1 fp2)
    (hz:IsZip s.heap z TI TO .none) (hTI:IsPair s.heap TI (.ref i1) (.ref i2)) (hTO:IsPair s.heap TO a b) (t1:T1 n2 s.heap) (l1:n2 < n1) (t2:T2 n2 s.heap)
    (hE:∀ h' e tk,(∀ c o,c≠z→c≠TO→c≠i1→c≠i2→s.heap.get? c=some o→h'.get? c=some o)→(∃ o,h'.get? e=some o∧o.cls=.type "StopIteration")→E (.ref e) { s with heap:=h',toks:=tk }) :
    wpAny (model prog w) A (Builtin.«zip.__next__» ⟨[.ref z],[]⟩) Q E s:=by
  show wpAny _ _ (field (.ref z) 2 >>= _) _ _ _
  refine wpAny_bind (wpAny_field hz rfl (x:=.bool false) rfl ?_)
  show wpAny _ _ (field (.ref z) 3 >>= _) _ _ _
  refine wpAny_bind (wpAny_field hz rfl (x:=.ref TI) rfl ?_)
  refine wpAny_bind (wpAny_seqItems hTI rfl ?_)
  show wpAny _ _ (Builtin.SmallTypes.ownedTupleIsFree (.ref z) >>= _) _ _ _
  refine wpAny_bind ?_
  unfold Builtin.SmallTypes.ownedTupleIsFree
  refine wpAny_bind (wpAny_field hz rfl (x:=.none) rfl (wpAny_pure ?_))
  simp only [if_true]
  refine wpAny_bind (wpAny_rule ?_)
  refine wpAny_bind (wpAny_field hz rfl (x:=.ref TO) rfl ?_)
  refine wpAny_bind (wpAny_setField_rec hz (by simp) fun h₁ hz₁ hs₁=>?_)
  replace hz₁:IsZip h₁ z TI TO .ellipsis:=hz₁
  refine wpAny_bind ?_
  simp only [List.zipIdx_cons,List.zipIdx_nil,List.forIn_cons,List.forIn_nil]
  refine wpAny_bind (wpAny_bind (wpAny_onRaise ?_))
  show wpAny _ _ (Builtin.SmallTypes.nextOf (.ref i1) >>= _) _ _ _
  have t1₁:T1 n2 h₁:=D1.frame _ _ _ t1 fun c hc o e=>hs₁.extBut _ _ (D.f1 c hc).1 e
  have t2₁:T2 n2 h₁:=D2.frame _ _ _ t2 fun c hc o e=>hs₁.extBut _ _ (D.f2 c hc).1 e
  refine wpAny_bind (D1.item n2 _ _ _ l1 t1₁ fun x h₂ tk2 px t1₂ hs₂=>wpAny_pure ?_)
  have hTO₂:IsPair h₂ TO a b:=hs₂.extBut _ _ D.TOi1 (hs₁.extBut _ _ D.TOz hTO)
  refine wpAny_bind (wpAny_seqItems hTO₂ rfl ?_)
  refine wpAny_bind (wpAny_updateSeq_pair hTO₂ fun h₃ hTO₃ hs₃=>?_)
  refine wpAny_bind (wpAny_letGo (wpAny_pure ?_))
  refine wpAny_bind (wpAny_bind (wpAny_onRaise ?_))
  show wpAny _ _ (Builtin.SmallTypes.nextOf (.ref i2) >>= _) _ _ _
  have t2₃:T2 n2 h₃:=D2.frame _ _ _ t2₁ fun c hc o e=>hs₃.extBut _ _ (D.f2 c hc).2.1 (hs₂.extBut _ _ (D.f2 c hc).2.2 e)
  refine wpAny_bind (D2.done _ _ _ t2₃ fun h₄ e hs₄ he=>?_)
  obtain ⟨oe,hoe,hce⟩:=he
  have hz₄:IsZip h₄ z TI TO .ellipsis:=hs₄ _ _ D.i2z.symm (hs₃.extBut _ _ D.TOz.symm (hs₂.extBut _ _ D.i1z.symm hz₁))
  have hez:e≠z:=fun x=>by subst x; rw [hz₄] at hoe; cases hoe; simp at hce
  refine wpAny_setField_rec hz₄ (by simp) fun h₅ _ hs₅=>hE h₅ e _ (fun c o c1 c2 c3 c4 x=>hs₅.extBut _ _ c1 (hs₄ _ _ c4 (hs₃.extBut _ _ c2 (hs₂.extBut _ _ c3 (hs₁.extBut _ _ c1 x))))) ⟨oe,hs₅.extBut _ _ hez hoe,hce⟩
end
section
variable {prog:Program}{w:World}{A:Around}{E:Value→Shared→Prop}{s:Shared}{z TI TO i1 i2:Addr}{fp1 fp2:List Addr}{n1 n2:Nat}{P1 P2:Nat→Value→Prop}{T1 T2:Nat→Heap→Prop}{k:Nat}{a b:Value}
theorem pyNext_zipD_item {Q:Option Value→Shared→Prop} (D1:Draws prog w A.in1 i1 fp1 n1 P1 T1) (D2:Draws prog w A.in1 i2 fp2 n2 P2 T2) (D:Side z TI TO i1 i2 fp1 fp2)
    (hz:IsZip s.heap z TI TO .none) (hTI:IsPair s.heap TI (.ref i1) (.ref i2)) (hTO:IsPair s.heap TO a b) (t1:T1 k s.heap) (t2:T2 k s.heap) (l1:k < n1) (l2:k < n2)
    (hQ:∀ x y h' tk,P1 k x→P2 k y→IsZip h' z TI TO (rawInt s.heap.objs.size)→IsPair h' TO x y→T1 (k+1) h'→T2 (k+1) h'→IsPair h' s.heap.objs.size x y→h'.objs.size=s.heap.objs.size+1 →
      (∀ c o,c≠z→c≠TO→c≠i1→c≠i2→s.heap.get? c=some o→h'.get? c=some o)→Q (some (.ref s.heap.objs.size)) { s with heap:=h',toks:=tk }):wpAny (model prog w) A (pyNext (.ref z)) Q E s:=by
  have hT:s.TypeIs (.ref z) "zip" := ⟨_,hz,rfl⟩
  unfold pyNext
  exact wpAny_bind (wpAny_attempt (wpAny_callSpecial?_slot (name:=Str.ofString "__next__") hT F.slot_zip_next
    (wpAny_call_entry F.slot_zip_next hT F.entry_zip_next (zipD_item D1 D2 D hz hTI hTO t1 t2 l1 l2 fun x y h' tk p1 p2 a1 a2 a3 a4 a5 a6 a7=>wpAny_pure (hQ x y h' tk p1 p2 a1 a2 a3 a4 a5 a6 a7)) (F.args_zip_next_1 _))))
theorem pyNext_zipD_end {Q:Option Value→Shared→Prop} (D1:Draws prog w A.in1 i1 fp1 n1 P1 T1) (D2:Draws prog w A.in1 i2 fp2 n2 P2 T2) (D:Side z TI TO i1 i2 fp1 fp2)
    (hz:IsZip s.heap z TI TO .none) (hTI:IsPair s.heap TI (.ref i1) (.ref i2)) (hTO:IsPair s.heap TO a b) (t1:T1 k s.heap) (t2:T2 k s.heap) (hk:k=n1∨k < n1∧k=n2)
    (hQ:∀ h' tk,(∀ c o,c≠z→c≠TO→c≠i1→c≠i2→s.heap.get? c=some o→h'.get? c=some o)→Q none { s with heap:=h',toks:=tk }):wpAny (model prog w) A (pyNext (.ref z)) Q E s:=by
  have hT:s.TypeIs (.ref z) "zip" := ⟨_,hz,rfl⟩
  unfold pyNext
  rcases hk with rfl | ⟨h1,rfl⟩
  · refine wpAny_bind (wpAny_attempt (wpAny_callSpecial?_slot (name:=Str.ofString "__next__") hT F.slot_zip_next
      (wpAny_call_entry F.slot_zip_next hT F.entry_zip_next (zipD_end D1 D2 D hz hTI hTO t1 fun h' e hk he=>?_) (F.args_zip_next_1 _))))
    obtain ⟨o,ho,hc⟩:=he
    refine wpAny_bind (wpAny_isInstance (T := "StopIteration") (b:=true) ⟨o,ho,hc⟩ isSubtype_stop ?_)
    exact wpAny_pure (hQ _ s.toks hk)
  · refine wpAny_bind (wpAny_attempt (wpAny_callSpecial?_slot (name:=Str.ofString "__next__") hT F.slot_zip_next
      (wpAny_call_entry F.slot_zip_next hT F.entry_zip_next (zipD_end2 D1 D2 D hz hTI hTO t1 h1 t2 fun h' e tk hk he=>?_) (F.args_zip_next_1 _))))
    obtain ⟨o,ho,hc⟩:=he
    refine wpAny_bind (wpAny_isInstance (T := "StopIteration") (b:=true) ⟨o,ho,hc⟩ isSubtype_stop ?_)
    exact wpAny_pure (hQ _ tk hk)
end
section
variable {prog:Program}{w:World}{A:Around}{E:Value→Shared→Prop}{s:Shared}
end
theorem Inv.turnedF {X:Cx}{pins:List (Addr × Obj)}{σ:St}{H:Hp}{s:Shared}{fp:List Addr}{h':Heap}{t':Nat} (I:Inv X pins σ H s) (k:∀ b u,b ∉ fp→s.heap.get? b=some u→h'.get? b=some u) (hf:∀ b∈fp,FpOk X pins H b):Inv X pins σ H { s with heap:=h',toks:=t' }:=by
  have nit:∀ b u,H b=some u→b ∉ fp:=fun b u e z=>by rw [(hf b z).1] at e; cases e
  refine I.step (g':=s.gens) (d':=s.drawn) (ch:=fp) (fun b hb=>?_) (fun b o _ _ hc e _=>k b o hc e) (fun b o _ _ hc e _=>⟨o.slots,k b o hc e⟩) (fun _ _ _ _ n=>n)
    (fun b o hc e=>⟨o,k b o hc e⟩) (fun _ _ e=>e) (fun _ _ _ e=>e) (fun b ps e=>⟨#[],by rw [e]; simp⟩) (fun m hm=>?_) (fun b u e=>?_) I.bare
  · obtain ⟨f0,f1,f2,f3,f4,f5⟩:=hf b hb
    exact ⟨f3,f1,f4,f5⟩
  · obtain ⟨o,es,ep,ho,r⟩:=hm
    exact ⟨o,es,ep,k _ o (fun z=>(hf _ z).2.1 rfl) ho,r⟩
  · refine (I.hok b u e).stay (fun c v hc q=>k c v ?_ q) (fun c q=>q) fun c xs q=>q
    rcases hc with z | z
    · rw [z]; exact nit b u e
    · exact nit c _ z
def SqB (tp:Bool) (K:PySem.W.Frag) (H:Hp) (b:Addr) (ys:List V):Prop:=if tp=true then SqT K H b ys else SqL K H b ys
def ItB (tp:Bool) (h:Heap) (it b:Addr) (i:Nat):Prop:=if tp=true then h.IsTupleIter it b i else h.IsListIter it b i
theorem ad_ne {n i j:Nat} (h:i≠j):n+i≠n+j:=by omega
theorem ad_lt {a n:Nat} (i:Nat) (h:a < n):a≠n+i:=by omega
theorem side_new {n a b:Nat} (ha:a < n) (hb:b < n):Side (n+4) (n+2) (n+3) n (n+1) [n,a] [n+1,b] where
  TIz:=ad_ne (by decide)
  TOz:=ad_ne (by decide)
  i1z:=ad_ne (n:=n) (i:=0) (by decide)
  i2z:=ad_ne (by decide)
  TITO:=ad_ne (by decide)
  TIi1:=ad_ne (n:=n) (j:=0) (by decide)
  TIi2:=ad_ne (by decide)
  TOi1:=ad_ne (n:=n) (j:=0) (by decide)
  TOi2:=ad_ne (by decide)
  i12:=ad_ne (n:=n) (i:=0) (by decide)
  f1:=fun c hc=>by
    rcases List.mem_cons.mp hc with z | z
    · subst z; exact ⟨ad_ne (i:=0) (by decide),ad_ne (i:=0) (by decide),ad_ne (i:=0) (by decide)⟩
    · have z':c=a:=by simpa using z
      subst z'; exact ⟨ad_lt 4 ha,ad_lt 3 ha,ad_lt 1 ha⟩
  f2:=fun c hc=>by
    rcases List.mem_cons.mp hc with z | z
    · subst z; exact ⟨ad_ne (by decide),ad_ne (by decide),ad_ne (j:=0) (by decide)⟩
    · have z':c=b:=by simpa using z
      subst z'; exact ⟨ad_lt 4 hb,ad_lt 3 hb,ad_lt 0 hb⟩
theorem draws2 {X:Cx}{pins:List (Addr × Obj)}{σ:St}{H:Hp}{s:Shared} (I:Inv X pins σ H s) (hc:X.calm=true) {tp:Bool}{b it:Addr}{ys:List V} (hq:SqB tp X.K H b ys) (hne:b≠it) :
    ∃ (its:List Value) (T2:Nat→Heap→Prop),Vals ys its∧Draws X.prog X.w X.A.in1 it [it,b] its.length (fun i v=>its[i]?=some v) T2∧(∀ i,ItB tp s.heap it b i→T2 i s.heap)∧∀ i h,T2 i h→ItB tp h it b i:=by
  cases tp with
  | true =>
    obtain ⟨its,rv,p,hz⟩:=I.tuple (show SqT X.K H b ys from hq)
    have D:=drawsTup (prog:=X.prog) (w:=X.w) (A:=X.A.in1) (show X.A.in1.handled=none from I.ok.hd hc) it b hne its.toArray
    refine ⟨its,fun i h=>h.IsTupleIter it b i∧h.IsTuple b its.toArray,rv,?_,fun i h=>⟨h,(show s.heap.IsTuple b its.toArray from p)⟩,fun i h t=>t.1⟩
    have e:its.toArray.size=its.length:=List.size_toArray
    rw [e] at D
    exact ⟨D.live,D.frame,fun i s Q E hi st hQ=>D.item i s Q E hi st fun x h' tk hp=>hQ x h' tk (by simpa using hp),D.done⟩
  | false =>
    obtain ⟨its,rv,p,hz⟩:=I.list (show SqL X.K H b ys from hq)
    have D:=Draws.list (prog:=X.prog) (w:=X.w) (A:=X.A.in1) (show X.A.in1.handled=none from I.ok.hd hc) it b hne its.toArray
    refine ⟨its,fun i h=>h.IsListIter it b i∧h.IsList b its.toArray,rv,?_,fun i h=>⟨h,p.isList⟩,fun i h t=>t.1⟩
    have e:its.toArray.size=its.length:=List.size_toArray
    rw [e] at D
    exact ⟨D.live,D.frame,fun i s Q E hi st hQ=>D.item i s Q E hi st fun x h' tk hp=>hQ x h' tk (by simpa using hp),D.done⟩
theorem ItB.keep {tp:Bool}{h h':Heap}{it b:Addr}{i:Nat} (x:ItB tp h it b i) (e:∀ o,h.get? it=some o→h'.get? it=some o):ItB tp h' it b i:=by
  cases tp with
  | true=>exact (show h.IsTupleIter it b i from x).at e
  | false=>exact (show h.IsListIter it b i from x).at e
theorem ItB.obj {tp:Bool}{h:Heap}{it b:Addr}{i:Nat} (x:ItB tp h it b i):∃ o,h.get? it=some o∧∀ v,o.data≠.cell v:=by
  cases tp with
  | true=>obtain ⟨o,e,c,d⟩:=(show h.IsTupleIter it b i from x); exact ⟨o,e,fun v z=>by rw [d] at z; cases z⟩
  | false=>obtain ⟨o,e,c,d⟩:=(show h.IsListIter it b i from x); exact ⟨o,e,fun v z=>by rw [d] at z; cases z⟩
section
variable {X:Cx}{elts:List Expr}{k:Nat}{tpos:Pos}
end
end L2
end
section
namespace L2
open PySem PySem.Spec PyProof.Rows
open AutoSeq1 (wpAny_loadPart')
section
variable {prog:Program}{w:World}{A:Around}{E:Value→Shared→Prop}{s:Shared}
end
section
variable {X:Cx}{elts:List Expr}{k:Nat}{tpos:Pos}
end
theorem comp_pairs {J:It}{xs ys:List V}{len:Nat}{Hk:Hp→Prop} (hgo:∀ i H,Hk H→i < len→J.go i H) (hst:∀ i H,Hk H→i=len→J.stop i H) (hyl:∀ i H x H',Hk H→J.yld i H x H'→∃ T x1 y1,x=.ref T∧H T=none∧H'=upd H T (.tup [x1,y1])∧xs[i]?=some x1∧ys[i]?=some y1)
    {caps:List Nat} {n:Nat} {σ:St} {g:TG} {tc:TT} {te:TE} {F:List V→Hp→Prop} {H1:Hp} (cv:St) (k:Nat) (hn:len < 1000)
    (Pv:Nat→List V→Hp→Prop) (h0:Pv 0 [] H1) (hk:∀ i acc H,i≤len→Pv i acc H→Hk H∧acc.length≤i)
    (turn:∀ (i:Nat) (x y:V) (T:Addr) (acc:List V) (H:Hp) (zs:St) (Nx:List V→St→Hp→Prop),(∀ acc' H' zs,zs.length=k→Pv (i+1) acc' H'→Nx acc' (cv++zs) H')→xs[i]?=some x→ys[i]?=some y→zs.length=k→Pv i acc H→H T=none →
      g (.ref T) (cv++zs) (upd H T (.tup [x,y])) fun σ2 H3=>tc σ2 H3 fun b H4=>if b=true then te σ2 H4 fun y H5=>Nx (acc++[y]) σ2 H5 else Nx acc σ2 H4)
    (fin:∀ acc H,Pv len acc H→F acc H) (hcv:capStart caps n σ=cv++List.replicate k none:=by rfl) :
    ∃ W:Nat→Nat→List V→St→Hp→Prop,(∃ m,W 0 m [] (capStart caps n σ) H1)∧∀ i m acc σ' H',W i m acc σ' H' →
      (J.stop i H'∧F acc H') ∨
      (J.go i H'∧acc.length < sizeLine∧∀ x H2,J.yld i H' x H2→g x σ' H2 fun σ2 H3=>tc σ2 H3 fun b H4=>if b=true then te σ2 H4 fun y H5=>∃ m',m' < m∧W (i+1) m' (acc++[y]) σ2 H5 else ∃ m',m' < m∧W (i+1) m' acc σ2 H4):=by
  refine ⟨fun i m acc σ' H'=>i≤len∧m=len - i∧(∃ ys,ys.length=k∧σ'=cv++ys)∧Pv i acc H',⟨len,Nat.zero_le _,rfl,⟨_,by simp,hcv⟩,h0⟩,?_⟩
  rintro i m acc σ' H' ⟨hi,rfl,⟨zs,hy,rfl⟩,pv⟩
  obtain ⟨hH,ha⟩:=hk i acc H' hi pv
  by_cases e:i=len
  · subst e
    exact .inl ⟨hst _ _ hH rfl,fin acc H' pv⟩
  · have hi':i < len:=by omega
    refine .inr ⟨hgo _ _ hH hi',by rw [sizeLine_eq]; omega,fun x H2 hy2=>?_⟩
    obtain ⟨T,x1,y1,rfl,hT,rfl,e1,e2⟩:=hyl _ _ _ _ hH hy2
    exact turn i x1 y1 T acc H' zs (fun acc' σ2 H5=>∃ m',m' < len - i∧(i+1≤len∧m'=len - (i+1)∧(∃ ys,ys.length=k∧σ2=cv++ys)∧Pv (i+1) acc' H5)) (fun acc' H5 zs hz p=>⟨len - (i+1),by omega,by omega,rfl,⟨zs,hz,rfl⟩,p⟩) e1 e2 hy pv hT
section
variable {X:Cx}
end
section
variable {X:Cx}
end
end L2
end
section
namespace L2
open PySem PySem.Spec PyProof.Rows
section
variable {prog:Program}{w:World}{A:Around}{E:Value→Shared→Prop}{s:Shared}
end
section
variable {X:Cx}{pins:List (Addr × Obj)}{σ:St}{H:Hp}{s:Shared}
end
section
variable {X:Cx}{elts:List Expr}{kk:Nat}{tpos:Pos}{tg:Expr}
end
end L2
end
section
namespace L2
open PySem PySem.Spec PyProof.Rows
open PySem.AutoSeq1 (wpAny_loadPart')
open PySem.MeetsSeq PySem.MeetsSeq2 PySem.MeetsSeq3 PySem.SeqAt
section
variable {prog:Program}{w:World}{A:Around}{E:Value→Shared→Prop}{s:Shared}
end
section
open MyS PySem.W
variable {prog:Program}{w:World}{A:Around}{E:Value→Shared→Prop}{s:Shared}
end
section
variable {prog:Program}{w:World}{A:Around}{E:Value→Shared→Prop}{s:Shared}
end
section
open MyS PySem.W
variable {prog:Program}{w:World}{A:Around}{E:Value→Shared→Prop}{s:Shared}
end
section
variable {X:Cx}
end
end L2
end
section
namespace MyS
open PySem PySem.Spec PyProof.Rows PySem.W
section
variable {prog:Program}{w:World}{A:Around}{E:Value→Shared→Prop}{s:Shared}
end
end MyS
namespace L2
open PySem PySem.Spec PyProof.Rows
section
open MyS PySem.W
variable {prog:Program}{w:World}{A:Around}{E:Value→Shared→Prop}{s:Shared}
end
section
variable {X:Cx}
end
end L2
end
section
namespace L2
open PySem PySem.Spec PyProof.Rows
section
variable {X:Cx}
end
end L2
end
section
namespace L2
open PySem PySem.Spec PyProof.Rows
section
open MyS PySem.W
variable {X:Cx}
end
end L2
end
section
namespace L2
open PySem PySem.Spec PyProof.Rows
theorem layNew_keeps (t:SetTable) (es:Array (Int × Value)) (h:Int) (x:Value):(layNew t es h x).2.1.led=t.led∧(t.plain=false→(layNew t es h x).2.1.plain=false):=by
  unfold layNew
  split
  · dsimp only
    unfold SetTable.orStandIn
    split
    · exact ⟨rfl,fun e=>e⟩
    · exact ⟨rfl,fun _=>rfl⟩
  · exact ⟨rfl,fun _=>rfl⟩
theorem laid_keeps {mask finger moves:Nat}{led plain:Bool}{hs:Array Int}{t:SetTable}{o:Array Nat} (e:SetTable.laid mask finger moves led plain hs=some (t,o)):t.led=led∧t.plain=plain:=by
  unfold SetTable.laid at e
  cases q:SetTable.layClean mask hs with
  | none=>rw [q] at e; cases e
  | some ow =>
    rw [q] at e
    injection e with e
    injection e with e1 e2
    subst e1
    exact ⟨rfl,rfl⟩
theorem relayAll_keeps (t:SetTable) (es:Array (Int × Value)) (n:Nat):(relayAll t es n).2.1.led=t.led∧(t.plain=false→(relayAll t es n).2.1.plain=false):=by
  unfold relayAll
  split
  · rename_i t' o e
    dsimp only
    have k:=laid_keeps e
    split
    · exact ⟨k.1,fun q=>k.2.trans q⟩
    · exact ⟨rfl,fun _=>rfl⟩
  · exact ⟨rfl,fun _=>rfl⟩
abbrev setOb (es:Array (Int × Value)) (ep:Nat) (t:SetTable):Obj:={ cls:=.type "set",dict:=none,data:=.set es ep t }
def TabOk (w:World) (es:Array (Int × Value)) (t:SetTable):Prop:=t.fits es.size=true∧t.led=!w.params.followText "set-order" ∧ (es.size=0∨t.plain=false)
def SetX (prog:Program) (w:World) (h:Heap) (a:Addr) (es:Array (Int × Value)):Prop :=
  ∃ ep t,h.get? a=some (setOb es ep t)∧ElemsOf (PySem.strKind prog w) es.toList∧es.size < scanBound∧TabOk w es t
def txt:Value→Str
  | .str x _=>x
  | _=>⟨#[]⟩
abbrev txts (es:Array (Int × Value)):List Str:=es.toList.map fun e=>txt e.2
theorem str_is {k:Str}{x:Value} (h:Value.isStrOf k x=true):txt x=k:=by
  obtain ⟨t,rfl⟩:=Value.isStrOf_shape h; rfl
theorem str_scan {k:Str}{x:Value} (h:Value.isStrOf k x=true):x.scannable=true:=by
  obtain ⟨t,rfl⟩:=Value.isStrOf_shape h; rfl
section
variable {prog:Program}{w:World}{A:Around}{E:Value→Shared→Prop}{s:Shared}
theorem putOb {h:Heap}{a:Addr}{es es':Array (Int × Value)}{ep:Nat}{t t':SetTable} (ho:h.get? a=some (setOb es ep t)):(h.update a (Obj.putSet es' t')).get? a=some (setOb es' (ep+1) t'):=by
  have:=Heap.get?_update_self (Obj.putSet es' t') ho rfl
  exact this
theorem addX {a:Addr}{es:Array (Int × Value)}{k:Str}{x:Value}{Q:Bool→Shared→Prop} (hkey:Value.isStrOf k x=true) (hS:SetX prog w s.heap a es) (hroom:es.size+1 < scanBound)
    (h:∀ b h' es',Heap.SameBut a s.heap h'→SetX prog w h' a es'→(k∈txts es∧es'.toList.Perm es.toList∨k ∉ txts es∧(txts es').Perm (k::txts es))→Q b { s with heap:=h' }) :
    wpAny (model prog w) A (setAddHashed a x (hashStr w k)) Q E s:=by
  obtain ⟨ep,t,ho,hel,hb,hf,hled,hpl⟩:=id hS
  have hsc:=str_scan hkey
  have e:s={ s with heap:=s.heap }:=by cases s; rfl
  unfold setAddHashed setAddHashedIn
  refine wpAny_holding (wpAny_bind (wpAny_setState_of ho rfl hf ?_))
  dsimp only
  rw [byScan_of (knd:=PySem.strKind prog w) hsc hb hel]
  simp only [↓reduceIte]
  unfold setAddByScan
  refine wpAny_bind ?_
  refine wpAny_bind (wpAny_rule ?_)
  refine wpAny_bind (wpAny_setScan_of (knd:=PySem.strKind prog w) (k:=k) hkey ho rfl hf hel ?_)
  cases hr:List.findIdx? (fun e=>(PySem.strKind prog w).is k e.2) es.toList with
  | some j =>
    dsimp only
    obtain ⟨hj,hpj,_⟩:=List.findIdx?_eq_some_iff_getElem.mp hr
    refine wpAny_pure (wpAny_pure ?_)
    rw [e]
    exact h _ s.heap es (Heap.SameBut.refl a s.heap) hS (.inl ⟨List.mem_map.mpr ⟨es.toList[j],List.getElem_mem hj,str_is hpj⟩,List.Perm.refl _⟩)
  | none =>
    dsimp only
    have hno:k ∉ txts es:=fun q=>by
      obtain ⟨y,hy,q⟩:=List.mem_map.mp q
      obtain ⟨⟨k',hk',_⟩,_⟩:=hel y hy
      have e1:k'=k:=(str_is hk').symm.trans q
      have:=List.findIdx?_eq_none_iff.mp hr y hy
      rw [← e1,hk'] at this
      cases this
    have hperm:=layNew_perm t es (hashStr w k) x
    have hfits:=layNew_fits t es (hashStr w k) x
    have hkeep:=layNew_keeps t es (hashStr w k) x
    show wpAny _ _ _ _ _ _
    change wpAny _ _ (match layNew t es (hashStr w k) x with | (es,t,wasDummy,gave)=>_) _ _ _
    generalize hL:layNew t es (hashStr w k) x=L at hperm hfits hkeep ⊢
    obtain ⟨es1,t1,wasDummy,gave⟩:=L
    dsimp only at hperm hfits hkeep ⊢
    rw [Array.toList_push] at hperm
    have hel1:ElemsOf (PySem.strKind prog w) es1.toList:=(ElemsOf.push (knd:=PySem.strKind prog w) hel hkey hsc).perm hperm
    have hsz:es1.size=es.size+1:=by rw [← Array.length_toList,hperm.length_eq,List.length_append,Array.length_toList]; rfl
    have hb1:es1.size < scanBound:=by rw [hsz]; exact hroom
    have htx:(txts es1).Perm (k::txts es):=by
      have:=hperm.map fun e:Int × Value=>txt e.2
      rw [List.map_append] at this
      refine this.trans ?_
      rw [List.map_singleton,str_is hkey]
      exact List.perm_append_singleton _ _
    have hgw:∀ (b:Bool) {s₁:Shared} {Q':Unit→Shared→Prop},Q' () s₁→wpAny (model prog w) A (match b with | true=>rule "set.scan.the-table-gave-way" | false=>pure ()) Q' E s₁ :=
      fun b s₁ Q' hq=>by cases b <;> first | exact wpAny_pure hq | exact wpAny_rule hq
    refine wpAny_bind (hgw _ ?_)
    have tail:∀ t2:SetTable,t2.fits es1.size=true→t2.led=t.led→t2.plain=false→∀ wd:Bool,wpAny (model prog w) A (do
        storeSet a es1 t2
        if (!wd && t2.tooFull)=true then do
            (match (relayAll t2 es1 (SetTable.grown es1.size)).2.2 with | true=>rule "set.scan.the-table-gave-way" | false=>pure ())
            storeSet a (relayAll t2 es1 (SetTable.grown es1.size)).1 (relayAll t2 es1 (SetTable.grown es1.size)).2.1
            pure (some true)
          else pure (some true)) (fun r s'=>wpAny (model prog w) A (match r with | some added=>pure added | none=>setAddHashedIn a x (hashStr w k) 99999) Q E s') E s:=by
      intro t2 f2 l2 p2 wd
      refine wpAny_bind (wpAny_storeSet_of ho rfl ?_ (fits_of_scanBound hb1))
      have ho1:=putOb (es':=es1) (t':=t2) ho
      have sb1:=Heap.SameBut.update s.heap a (Obj.putSet es1 t2)
      split
      · have hp:=relayAll_perm t2 es1 (SetTable.grown es1.size)
        have hfr:=relayAll_fits t2 es1 (SetTable.grown es1.size)
        have hkr:=relayAll_keeps t2 es1 (SetTable.grown es1.size)
        generalize hRl:relayAll t2 es1 (SetTable.grown es1.size)=Rl at hp hfr hkr ⊢
        obtain ⟨es2,t3,gave2⟩:=Rl
        dsimp only at hp hfr hkr ⊢
        have hs2:es2.size=es1.size:=by rw [← Array.length_toList,hp.length_eq,Array.length_toList]
        have hb2:es2.size < scanBound:=by rw [hs2]; exact hb1
        refine wpAny_bind (hgw _ ?_)
        refine wpAny_bind (wpAny_storeSet_of ho1 rfl ?_ (fits_of_scanBound hb2))
        refine wpAny_pure (wpAny_pure ?_)
        exact h _ _ es2 (sb1.trans (Heap.SameBut.update _ a _)) ⟨_,t3,putOb ho1,hel1.perm hp,hb2,hfr,(hkr.1.trans l2).trans hled,.inr (hkr.2 p2)⟩ (.inr ⟨hno,(hp.map _).trans htx⟩)
      · exact wpAny_pure (wpAny_pure (h _ _ es1 sb1 ⟨_,t2,ho1,hel1,hb1,f2,l2.trans hled,.inr p2⟩ (.inr ⟨hno,htx⟩)))
    obtain ⟨tk,rfl⟩:=Value.isStrOf_shape hkey
    by_cases hp1:t1.plain=true
    · rw [if_pos hp1]
      refine wpAny_bind ?_
      rw [hashByValue_scannable 8 hsc]
      refine wpAny_pure ?_
      exact tail { t1 with plain:=false } hfits hkeep.1 rfl wasDummy
    · rw [if_neg hp1]
      refine wpAny_bind (wpAny_pure ?_)
      simp only [↓reduceIte]
      exact tail t1 hfits hkeep.1 (by simpa using hp1) wasDummy
end
def SetK (prog:Program) (w:World) (h:Heap) (a:Addr) (ks:List Str):Prop:=∃ es,SetX prog w h a es∧(txts es).Nodup∧(∀ x,x∈txts es↔x∈ks)∧es.size≤ks.length
theorem SetK.stay {prog:Program}{w:World}{h h':Heap}{S:Addr}{ks:List Str} (x:SetK prog w h S ks) (e:∀ o,h.get? S=some o→h'.get? S=some o):SetK prog w h' S ks:=by
  obtain ⟨es,⟨ep,t,ho,r⟩,q⟩:=x
  exact ⟨es,⟨ep,t,e _ ho,r⟩,q⟩
section
variable {prog:Program}{w:World}{A:Around}{R:Result→Shared→Prop}{I:Addr}{fp wr:List Addr}{G:Array GenState→Array GenState→Prop}{P:Nat→Value→Prop}{St:Nat→Shared→Prop}
theorem setK_loop {ks:List Str} (W:WalksS prog w A.in1 I fp wr G ks.length P St) (S:Addr) (hS:S ∉ fp) (hv:∀ i v,P i v→Value.isStrOf (ks.getD i ⟨#[]⟩) v=true) (hn:ks.length+1 < scanBound) :
    ∀ (m i:Nat) (s:Shared),ks.length - i=m→i≤ks.length→St i s→SetK prog w s.heap S (ks.take i) →
      (∀ s',Moved (S::wr) G s s'→SetK prog w s'.heap S ks→R (.ok (.ret .none)) s') →
      codeAny (model prog w) A (.builtin "set.update.loop" ⟨[.ref S,.ref I],[]⟩) R s:=by
  have nw:S ∉ wr:=fun z=>hS (W.sub _ z)
  have more:∀ b∈wr,b∈S::wr:=fun b z=>List.mem_cons_of_mem _ z
  intro m
  induction m with
  | zero =>
    intro i s e1 e2 st x hR
    obtain rfl:i=ks.length:=by omega
    refine codeAny_builtin F.entry_set_update_loop ?_
    rw [Around.under_plainId F.plain_set_update_loop _]
    refine wpAny_bind (m:=pyNext (.ref I)) (W.done s _ _ st fun s' mv=>?_)
    rw [List.take_length] at x
    exact wpAny_pure (hR s' (mv.mono more) (x.stay fun o ho=>mv.heap S _ nw ho))
  | succ m ih =>
    intro i s e1 e2 st x hR
    have lt:i < ks.length:=by omega
    refine codeAny_builtin F.entry_set_update_loop ?_
    rw [Around.under_plainId F.plain_set_update_loop _]
    refine wpAny_bind (m:=pyNext (.ref I)) (W.item i s _ _ lt st fun v s' hP st' mv=>?_)
    have hk:=hv i v hP
    obtain ⟨es,sx,nd,mem,sz⟩:=x.stay fun o ho=>mv.heap S _ nw ho
    have room:es.size+1 < scanBound:=by rw [List.length_take] at sz; omega
    refine wpAny_bind (m:=holding [v] (setAdd S v)) (wpAny_holding ?_)
    unfold setAdd
    refine wpAny_holding (wpAny_bind ((PySem.strKind prog w).pyHash (k:=ks.getD i ⟨#[]⟩) hk ?_))
    refine addX (s:={ s' with toks:=s'.toks+1 }) hk sx room fun b h' es' sb y al=>?_
    have e3:ks.take (i+1)=ks.take i++[ks.getD i ⟨#[]⟩]:=by
      rw [List.take_succ_eq_append_getElem lt]; simp [lt]
    have y':SetK prog w h' S (ks.take (i+1)):=by
      rcases al with ⟨hin,pm⟩ | ⟨hno,pm⟩
      · have pt:(txts es').Perm (txts es):=pm.map _
        refine ⟨es',y,pt.nodup_iff.mpr nd,fun z=>?_,?_⟩
        · rw [pt.mem_iff,mem z,e3,List.mem_append,List.mem_singleton]
          exact ⟨.inl,fun q=>q.elim id fun q=>q ▸ (mem _).mp hin⟩
        · have:es'.size=es.size:=by rw [← Array.length_toList,pm.length_eq,Array.length_toList]
          rw [this,e3,List.length_append]; omega
      · refine ⟨es',y,pm.nodup_iff.mpr (List.nodup_cons.mpr ⟨hno,nd⟩),fun z=>?_,?_⟩
        · rw [pm.mem_iff,List.mem_cons,mem z,e3,List.mem_append,List.mem_singleton]
          exact Or.comm
        · have:=pm.length_eq
          simp only [List.length_map,Array.length_toList,List.length_cons] at this
          rw [this,e3,List.length_append,List.length_singleton]; omega
    refine wpAny_pure ⟨plainId_quiet F.plain_set_update_loop _,ih (i+1) _ (by omega) lt (W.frame _ s' _ _ st' (Nat.le_succ _) fun b hb o e=>?_) y' fun s'' mv'' z=>?_⟩
    · exact (sb.2 b (fun q=>hS (by rw [← q]; exact hb))).trans e
    · refine hR s'' (Moved.trans W.gtrans ((mv.mono more).then_heap (Nat.le_succ _) fun b o hb e=>?_) mv'') z
      exact (sb.2 b (fun q=>hb (by rw [q]; exact List.mem_cons_self))).trans e
end
section
variable {prog:Program}{w:World}{A:Around}{E:Value→Shared→Prop}{s:Shared}
theorem tup_set:isSubtype (.type "tuple") (.type "set")=pure false:=by
  rw [isSubtype_type]; kernel_rfl
theorem tup_fset:isSubtype (.type "tuple") (.type "frozenset")=pure false:=by
  rw [isSubtype_type]; kernel_rfl
abbrev setO (w:World):Obj:=setOb #[] 0 (.fresh 0 0 (!w.params.followText "set-order"))
theorem setO_at (prog:Program) (w:World) {h:Heap}{a:Addr} (e:h.get? a=some (setO w)):SetK prog w h a [] :=
  ⟨#[],⟨0,_,e,(fun _ q=>nomatch q),(by unfold scanBound; decide),rfl,rfl,.inl rfl⟩,List.nodup_nil,(fun _=>Iff.rfl),Nat.le_refl _⟩
theorem set_new (a:Value) {Q₁:Value→Shared→Prop} (h:Q₁ (.ref s.heap.objs.size) { s with heap:=s.heap.push (setO w) }) :
    codeAny (model prog w) A (.call (.builtin "set.__new__") ⟨[.type "set",a],[]⟩) (wants Q₁ E) s:=by
  refine codeAny_of_tree ?_
  show wpAny _ A.in1 (do checkBuiltinCall "set.__new__" ⟨[.type "set",a],[]⟩; again (.builtin "set.__new__" ⟨[.type "set",a],[]⟩)) _ _ s
  refine wpAny_bind (wpAny_of_eq (F.newCall_set_1 a) (wpAny_pure ⟨plainId_quiet F.plain_set_new _,codeAny_builtin F.entry_set_new ?_⟩))
  rw [Around.under_plainId F.plain_set_new _]
  unfold Builtin.«set.__new__» Builtin.Frozenset.newClass
  have hsub:=sub_set_self
  obtain ⟨hp,g,d,tk,os⟩:=s
  dsimp only
  wp_walk
  refine wpAny_askSetting (wpAny_pure ?_)
  dsimp only
  simp only [newObj]
  refine wpAny_bind (wpAny_alloc (wpAny_pure ?_))
  exact wpAny_pure h
theorem setK_init {A0:Around}{R:Result→Shared→Prop}{l:Addr}{items:Array Value}{ks:List Str} (hh:A.handled=none) (hl:s.heap.IsTuple l items) (hlen:items.size=ks.length) (hv:∀ i v,items[i]?=some v→Value.isStrOf (ks.getD i ⟨#[]⟩) v=true) (hb:ks.length+1 < scanBound)
    (hR:∀ h' tk,SetK prog w h' s.heap.objs.size ks→(∀ b o,b < s.heap.objs.size→s.heap.get? b=some o→h'.get? b=some o)→R (.ok (.ret .none)) { s with heap:=h',toks:=tk }) :
    wpAny (model prog w) A (Builtin.«set.__init__» ⟨[.ref s.heap.objs.size,.ref l],[]⟩) (fun fin s'=>match fin with | .done f=>R (.ok f) s' | .again c'=>c'.quiet=true∧codeAny (model prog w) A0 c' R s') (fun e s'=>R (.error e) s') { s with heap:=s.heap.push (setO w) }:=by
  have new:(s.heap.push (setO w)).get? s.heap.objs.size=some (setO w):=Heap.get?_push_size _ rfl
  have ty:Shared.TypeIs { s with heap:=s.heap.push (setO w) } (.ref s.heap.objs.size) "set" := ⟨_,new,rfl⟩
  obtain ⟨ol,hol,hcl,nl,hdl⟩:=id hl
  obtain ⟨ocls,odict,odata,oslots⟩:=ol
  simp only at hcl hdl
  subst hcl; subst hdl
  have old:(s.heap.push (setO w)).get? l=some { cls:=.type "tuple",dict:=odict,data:=.seq items nl,slots:=oslots }:=Heap.get?_push_of_some _ hol
  have n1:=tup_set
  have n2:=tup_fset
  have n3:(Value.type "tuple" == Value.type "dict")=false:=by decide
  have tl:(s.heap.push (setO w)).IsTuple l items:=⟨_,old,rfl,nl,rfl⟩
  unfold Builtin.«set.__init__» noKeywords Builtin.Frozenset.updateFrom
  generalize hPI:pyIter=PI
  wp_walk
  subst hPI
  refine wpAny_pyIter_tuple tl (wpAny_bind (wpAny_runValue ?_))
  have lS:l < s.heap.objs.size:=Heap.lt_size hol
  have h3:A.in1.handled=none:=by simp [hh]
  have ne:l≠(s.heap.push (setO w)).objs.size:=by
    rw [Heap.size_push]
    exact Nat.ne_of_lt (Nat.lt_succ_of_lt lS)
  have nf:s.heap.objs.size ∉ [(s.heap.push (setO w)).objs.size,l]:=by
    rw [Heap.size_push]
    simp only [List.mem_cons,List.mem_singleton,List.not_mem_nil,or_false,not_or]
    exact ⟨Nat.ne_of_lt (Nat.lt_succ_self _),Nat.ne_of_gt lS⟩
  have WW:=(Walks.tuple (prog:=prog) (w:=w) (A:=A.in1) h3 _ l ne items).toS
  rw [hlen] at WW
  refine setK_loop WW s.heap.objs.size nf hv hb (ks.length - 0) 0 _ (by omega) (Nat.zero_le _) ?st0 ?x0 fun s' mv x=>?_
  case st0=>exact ⟨⟨_,Heap.get?_push_size _ rfl,rfl,rfl⟩,tl.push _⟩
  case x0=>exact setO_at prog w (Heap.get?_push_of_some _ new)
  obtain ⟨h',g',d',tk',os'⟩:=s'
  obtain rfl:g'=s.gens:=mv.gens
  obtain rfl:d'=s.drawn:=mv.drawn
  obtain rfl:os'=s.os:=mv.os
  refine wpAny_pure ?_
  refine wpAny_pure (hR h' tk' x fun b o hb e=>?_)
  have b1:b≠s.heap.objs.size:=Nat.ne_of_lt hb
  have b2:b≠(s.heap.push (setO w)).objs.size:=by
    rw [Heap.size_push]
    exact Nat.ne_of_lt (Nat.lt_succ_of_lt hb)
  refine mv.heap b o ?_ (Heap.get?_push_of_some _ (Heap.get?_push_of_some _ e))
  simp only [List.mem_cons,List.mem_singleton,List.not_mem_nil,or_false,not_or]
  exact ⟨b1,b2⟩
theorem call_setK {l:Addr}{items:Array Value}{ks:List Str}{Q:Value→Shared→Prop} (hh:A.handled=none) (hl:s.heap.IsTuple l items) (hlen:items.size=ks.length) (hv:∀ i v,items[i]?=some v→Value.isStrOf (ks.getD i ⟨#[]⟩) v=true) (hb:ks.length+1 < scanBound)
    (h:∀ h' tk,SetK prog w h' s.heap.objs.size ks→(∀ b o,b < s.heap.objs.size→s.heap.get? b=some o→h'.get? b=some o)→Q (.ref s.heap.objs.size) { s with heap:=h',toks:=tk }) :
    wpAny (model prog w) A (call (.type "set") [.ref l]) Q E s:=by
  obtain ⟨c0,tl0,m0⟩:=F.called_set.mro
  have m1:=F.called_set.made
  have m2:=F.called_set.sub
  refine wpAny_call (codeAny_of_tree (?_:wpAny _ _ (callAny (.type "set") _) _ _ _))
  refine wpAny_pure (And.intro (Code.quiet_builtin _ (by decide +kernel)) (codeAny_builtin F.entry_type_call ?_))
  rw [Around.under_plain (weight_type_call_type "set" [Value.ref l] []) rfl]
  have m3:=F.called_set.notType
  have m4:=F.called_set.canCreate
  have m5:=F.typeCall_set_1 (.ref l)
  all_goals (repeat (any_goals (first | assumption | wp_step)))
  refine codeAny_mono (set_new (w:=w) (.ref l) (E:=E) (Q₁:=fun v s₁=>v=.ref s.heap.objs.size∧s₁={ s with heap:=s.heap.push (setO w) }) ⟨rfl,rfl⟩) fun r s₁ hr=>?_
  match r,hr with
  | .error e,hr=>exact hr
  | .ok (.ret v),hr =>
    obtain ⟨rfl,rfl⟩:=hr
    have ty:Shared.TypeIs { s with heap:=s.heap.push (setO w) } (.ref s.heap.objs.size) "set" := ⟨_,Heap.get?_push_size _ rfl,rfl⟩
    have m6:=F.called_set.init.lookup
    have m7:=F.called_set.init.bind (.ref s.heap.objs.size)
    all_goals (repeat (any_goals (first | assumption | wp_step)))
    refine codeAny_mono (codeAny_call_builtin (R:=wants (fun q s₂=>q=.none∧∃ h' tk,s₂={ s with heap:=h',toks:=tk }∧SetK prog w h' s.heap.objs.size ks∧∀ b o,b < s.heap.objs.size→s.heap.get? b=some o→h'.get? b=some o) E)
      F.called_set.init.plain F.entry_set_init (check_set_init_1 ty (setK_init (by simp [hh]) hl hlen hv hb fun h' tk x k=>⟨rfl,h',tk,rfl,x,k⟩))) fun r₂ s₂ hr₂=>?_
    match r₂,hr₂ with
    | .error e,hr₂=>exact hr₂
    | .ok (.ret q),hr₂ =>
      obtain ⟨rfl,h',tk,rfl,x,k⟩:=hr₂
      all_goals (repeat (any_goals (first | assumption | wp_step)))
      exact h _ _ x k
    | .ok .next,hr₂=>exact hr₂.elim
    | .ok .brk,hr₂=>exact hr₂.elim
    | .ok .cont,hr₂=>exact hr₂.elim
  | .ok .next,hr=>exact hr.elim
  | .ok .brk,hr=>exact hr.elim
  | .ok .cont,hr=>exact hr.elim
end
end L2
end
section
namespace L2
open PySem PySem.Spec PyProof.Rows
theorem own_si:Manifest.owners.lookup (String.ofList ['r','o','t','a','r','e','t','i','_','t','e','s'].reverse)=some Manifest.sig_set_iterator:=by kernel_rfl
theorem slot_si_next:Slot "set_iterator" "__next__" "set_iterator.__next__" :=
  .of (owner := "set_iterator") (n := "__next__") (by rw [typeLookup_type,builtinLookup_eq_fast]; kernel_rfl) (by decide +kernel) (by decide +kernel) (by decide +kernel)
    (by first | exact .inl (by decide +kernel) | exact .inr (by decide +kernel)) (by rw [isSubtype_type]; kernel_rfl)
theorem entry_si_next:entryFor table "set_iterator.__next__" = some Builtin.«set_iterator.__next__»:=entryFor_of_tree (by kernel_rfl)
theorem args_si_next (a:Value):argsOk "set_iterator.__next__" ⟨[a],[]⟩:=by
  unfold argsOk; rw [signature?_of (id := "set_iterator.__next__") (n:=['_','_','t','x','e','n','_','_']) (o:=['r','o','t','a','r','e','t','i','_','t','e','s']) (by kernel_rfl) own_si]; kernel_rfl
theorem slot_si_iter:Slot "set_iterator" "__iter__" "set_iterator.__iter__" :=
  .of (owner := "set_iterator") (n := "__iter__") (by rw [typeLookup_type,builtinLookup_eq_fast]; kernel_rfl) (by decide +kernel) (by decide +kernel) (by decide +kernel)
    (by first | exact .inl (by decide +kernel) | exact .inr (by decide +kernel)) (by rw [isSubtype_type]; kernel_rfl)
theorem entry_si_iter:entryFor table "set_iterator.__iter__" = some Builtin.«dict_keyiterator.__iter__» :=
  entryFor_alias (id' := "dict_keyiterator.__iter__") (by kernel_rfl) (by first | rfl | decide +kernel | (unfold String.splitOn; simp +decide [String.splitOnAux])) (by decide +kernel) (by kernel_rfl)
theorem args_si_iter (a:Value):argsOk "set_iterator.__iter__" ⟨[a],[]⟩:=by
  unfold argsOk; rw [signature?_of (id := "set_iterator.__iter__") (n:=['_','_','r','e','t','i','_','_']) (o:=['r','o','t','a','r','e','t','i','_','t','e','s']) (by kernel_rfl) own_si]; kernel_rfl
theorem entry_set_iter:entryFor table "set.__iter__" = some Builtin.«frozenset.__iter__» :=
  entryFor_alias (id' := "frozenset.__iter__") (by kernel_rfl) (by first | rfl | decide +kernel | (unfold String.splitOn; simp +decide [String.splitOnAux])) (by decide +kernel) (by kernel_rfl)
abbrev itOb (f:Value) (i:Nat) (a:Addr) (n ep:Nat):Obj:={ cls:=.type "set_iterator",dict:=none,data:=.fields #[f,.int i 0,.ref a,.int n 0,.int ep 0] }
section
variable {prog:Program}{w:World}{A:Around}{E:Value→Shared→Prop}{s:Shared}
theorem next_draw {I a T:Addr}{i ep:Nat}{es:Array (Int × Value)}{t:SetTable}{pl:List Nat}{e1 j:Nat}{x:Int × Value}{Q:Option Value→Shared→Prop}
    (hi:s.heap.get? I=some (itOb (.ref T) i a es.size ep)) (ha:s.heap.get? a=some (setOb es ep t)) (hf:t.fits es.size=true) (hT:s.heap.get? T=some (seqObj "tuple" (pl.map fun (i:Nat)=>rawInt i).toArray e1)) (hj:pl[i]?=some j) (hx:es[j]?=some x)
    (hQ:∀ h',h'.get? I=some (itOb (.ref T) (i+1) a es.size ep)→Heap.SameBut I s.heap h'→Q (some x.2) { s with heap:=h' }) :
    wpAny (model prog w) A (pyNext (.ref I)) Q E s:=by
  have ty:s.TypeIs (.ref I) "set_iterator" := ⟨_,hi,rfl⟩
  unfold pyNext
  refine wpAny_bind (wpAny_attempt (wpAny_callSpecial?_slot (name:=Str.ofString "__next__") ty slot_si_next (wpAny_call_entry slot_si_next ty entry_si_next ?_ (args_si_next _))))
  unfold Builtin.«set_iterator.__next__»
  refine wpAny_bind (m:=slotArgs "__next__" 0 _) (wpAny_pure ?_)
  refine wpAny_bind (wpAny_fieldsOf hi rfl ?_)
  dsimp only
  refine wpAny_bind (wpAny_setEntries_of ha rfl hf ?_)
  rw [if_neg (by simp)]
  refine wpAny_bind (wpAny_seqItems hT rfl ?_)
  have e2:((pl.map fun (i:Nat)=>rawInt i).toArray)[((i:Nat):Int).toNat]?=some (.int (j:Int) 0):=by
    rw [Int.toNat_natCast,List.getElem?_toArray,List.getElem?_map,hj]; rfl
  dsimp only
  rw [e2]
  dsimp only
  unfold setNextDrawn
  refine wpAny_bind (wpAny_bind (wpAny_setState_of ha rfl hf ?_))
  dsimp only
  rw [Int.toNat_natCast,Int.toNat_natCast,if_neg (by simp),hx]
  refine wpAny_pure ?_
  refine wpAny_bind (wpAny_setField_rec hi (by simp) fun h' e3 sb=>?_)
  exact wpAny_pure ⟨_,rfl,wpAny_pure (hQ h' (by rw [e3]; rfl) sb)⟩
theorem stop_raise {Q:Option Value→Shared→Prop}{R:PySem.Fin→Shared→Prop} (hh:A.handled=none) (hQ:∀ h',(∀ b o,s.heap.get? b=some o→h'.get? b=some o)→Q none { s with heap:=h' }) :
    wpAny (model prog w) A.in1 (do let e ← newExc (.type "StopIteration") []; raiseNew e) R (fun e s'=>wpAny (model prog w) A (do let b ← isInstance e (.type "StopIteration"); if b=true then pure none else throw e) Q E s') s:=by
  refine wpAny_bind ?_
  simp only [newExc,newTuple]
  refine wpAny_bind (wpAny_newObj_type ?_ (by size_fits))
  refine wpAny_bind (m:=firstArgMember _ _) (wpAny_of_eq (a:=Value.none) (by first | rfl | (simp only [firstArgMember]; rfl)) ?_)
  refine wpAny_newObj_type ?_ (by size_fits)
  simp only [raiseNew]
  refine wpAny_bind (wpAny_handled ?_)
  rw [show A.in1.handled=none from hh]
  refine wpAny_bind (wpAny_pure (wpAny_throw ?_))
  refine wpAny_bind (wpAny_isInstance (T := "StopIteration") (b:=true) ⟨_,Heap.get?_push_size _ rfl,rfl⟩ isSubtype_stop ?_)
  exact wpAny_pure (hQ _ fun b o e=>Heap.get?_push_of_some _ (Heap.get?_push_of_some _ e))
theorem end_draw {I a T:Addr}{i ep:Nat}{es:Array (Int × Value)}{t:SetTable}{pl:List Nat}{e1:Nat}{Q:Option Value→Shared→Prop} (hh:A.handled=none)
    (hi:s.heap.get? I=some (itOb (.ref T) i a es.size ep)) (ha:s.heap.get? a=some (setOb es ep t)) (hf:t.fits es.size=true) (hT:s.heap.get? T=some (seqObj "tuple" (pl.map fun (i:Nat)=>rawInt i).toArray e1)) (hj:pl[i]?=none)
    (hQ:∀ h',(∀ b o,b≠I→s.heap.get? b=some o→h'.get? b=some o)→Q none { s with heap:=h' }) :
    wpAny (model prog w) A (pyNext (.ref I)) Q E s:=by
  have ty:s.TypeIs (.ref I) "set_iterator" := ⟨_,hi,rfl⟩
  unfold pyNext
  refine wpAny_bind (wpAny_attempt (wpAny_callSpecial?_slot (name:=Str.ofString "__next__") ty slot_si_next (wpAny_call_entry slot_si_next ty entry_si_next ?_ (args_si_next _))))
  unfold Builtin.«set_iterator.__next__»
  refine wpAny_bind (m:=slotArgs "__next__" 0 _) (wpAny_pure ?_)
  refine wpAny_bind (wpAny_fieldsOf hi rfl ?_)
  dsimp only
  refine wpAny_bind (wpAny_setEntries_of ha rfl hf ?_)
  rw [if_neg (by simp)]
  refine wpAny_bind (wpAny_seqItems hT rfl ?_)
  have e2:((pl.map fun (i:Nat)=>rawInt i).toArray)[((i:Nat):Int).toNat]?=none:=by
    rw [Int.toNat_natCast,List.getElem?_toArray,List.getElem?_map,hj]; rfl
  dsimp only
  rw [e2]
  dsimp only
  refine wpAny_bind (wpAny_setField_rec hi (by simp) fun h1 e3 sb1=>?_)
  refine wpAny_bind (wpAny_setField_rec (s:={ s with heap:=h1 }) e3 (by simp) fun h2 e4 sb2=>?_)
  refine stop_raise (s:={ s with heap:=h2 }) hh fun h3 ex=>hQ h3 fun b o hb e=>ex b o ?_
  exact (sb2.2 b hb).trans ((sb1.2 b hb).trans e)
theorem byText_eq {Q:Bool→Shared→Prop} (h:Q (w.params.followText "set-order") s):wpAny (model prog w) A setsByText Q E s:=by
  unfold setsByText
  exact wpAny_bind (wpAny_askSetting (wpAny_pure h))
theorem walk_text {a:Addr}{ep:Nat}{es:Array (Int × Value)}{t:SetTable}{Q:Array (Int × Value)→Shared→Prop} (ha:s.heap.get? a=some (setOb es ep t)) (hf:t.fits es.size=true) (hb:w.params.followText "set-order" = true) (h:Q (pickOrder (w.params.setOrder a ep) es) s) :
    wpAny (model prog w) A (setWalk a) Q E s:=by
  unfold setWalk
  refine wpAny_bind (wpAny_setState_of ha rfl hf ?_)
  dsimp only
  refine wpAny_bind (byText_eq ?_)
  rw [hb]
  exact wpAny_bind (wpAny_askSetting (wpAny_pure h))
theorem next_int {I a:Addr}{f i ep:Nat}{es:Array (Int × Value)}{t:SetTable}{r:Option (Value × Nat)}{Q:Option Value→Shared→Prop} (hh:A.handled=none)
    (hi:s.heap.get? I=some (itOb (.int f 0) i a es.size ep)) (ha:s.heap.get? a=some (setOb es ep t)) (hf:t.fits es.size=true)
    (hr:∀ (A:Around) (E:Value→Shared→Prop) (Q:Option (Value × Nat)→Shared→Prop),Q r s→wpAny (model prog w) A (setNext a f i ep) Q E s)
    (hQ:∀ x j,r=some (x,j)→∀ h',h'.get? I=some (itOb (.int j 0) (i+1) a es.size ep)→Heap.SameBut I s.heap h'→Q (some x) { s with heap:=h' })
    (hN:r=none→∀ h',(∀ b o,b≠I→s.heap.get? b=some o→h'.get? b=some o)→Q none { s with heap:=h' }) :
    wpAny (model prog w) A (pyNext (.ref I)) Q E s:=by
  have ty:s.TypeIs (.ref I) "set_iterator" := ⟨_,hi,rfl⟩
  unfold pyNext
  refine wpAny_bind (wpAny_attempt (wpAny_callSpecial?_slot (name:=Str.ofString "__next__") ty slot_si_next (wpAny_call_entry slot_si_next ty entry_si_next ?_ (args_si_next _))))
  unfold Builtin.«set_iterator.__next__»
  refine wpAny_bind (m:=slotArgs "__next__" 0 _) (wpAny_pure ?_)
  refine wpAny_bind (wpAny_fieldsOf hi rfl ?_)
  dsimp only
  refine wpAny_bind (wpAny_setEntries_of ha rfl hf ?_)
  rw [if_neg (by simp)]
  rw [Int.toNat_natCast,Int.toNat_natCast,Int.toNat_natCast]
  refine wpAny_bind (hr _ _ _ ?_)
  match r,hQ,hN with
  | none,_,hN =>
    dsimp only
    refine wpAny_bind (wpAny_setField_rec hi (by simp) fun h1 e3 sb1=>?_)
    exact stop_raise (s:={ s with heap:=h1 }) hh fun h3 ex=>hN rfl h3 fun b o hb e=>ex b o ((sb1.2 b hb).trans e)
  | some (x,j),hQ,_ =>
    dsimp only
    refine wpAny_bind (wpAny_setField_rec hi (by simp) fun h1 e3 sb1=>?_)
    refine wpAny_bind (wpAny_setField_rec (s:={ s with heap:=h1 }) e3 (by simp) fun h2 e4 sb2=>?_)
    exact wpAny_pure ⟨_,rfl,wpAny_pure (hQ x j rfl h2 (by rw [e4]; rfl) (sb1.trans sb2))⟩
theorem next_text {a:Addr}{f i ep:Nat}{es:Array (Int × Value)}{t:SetTable}{Q:Option (Value × Nat)→Shared→Prop} (ha:s.heap.get? a=some (setOb es ep t)) (hf:t.fits es.size=true) (hb:w.params.followText "set-order" = true)
    (h:Q (((pickOrder (w.params.setOrder a ep) es)[i]?).map fun e=>(e.2,f)) s):wpAny (model prog w) A (setNext a f i ep) Q E s:=by
  unfold setNext
  refine wpAny_bind (wpAny_setState_of ha rfl hf ?_)
  dsimp only
  refine wpAny_bind (byText_eq ?_)
  rw [hb,if_pos rfl,if_neg (by simp)]
  refine wpAny_bind (walk_text ha hf hb ?_)
  exact wpAny_pure h
theorem next_slot {a:Addr}{f i ep:Nat}{es:Array (Int × Value)}{t:SetTable}{Q:Option (Value × Nat)→Shared→Prop} (ha:s.heap.get? a=some (setOb es ep t)) (hf:t.fits es.size=true) (hb:w.params.followText "set-order" = false) (hl:t.led=true) (h1:es.size≤1)
    (h:Q (match es[SetTable.below t.place f]?,t.place[SetTable.below t.place f]? with | some (_,x),some j=>some (x,j+1) | _,_=>none) s):wpAny (model prog w) A (setNext a f i ep) Q E s:=by
  unfold setNext
  refine wpAny_bind (wpAny_setState_of ha rfl hf ?_)
  dsimp only
  refine wpAny_bind (byText_eq ?_)
  rw [hb,if_neg (by decide)]
  refine wpAny_ite_split (fun hd=>?_) (fun _=>?_)
  · have hd':(!t.plain && decide (es.size > 1))=true:=hd
    simp only [Bool.and_eq_true,decide_eq_true_eq] at hd'
    omega
  · show wpAny _ _ ((if (!t.led && !es.isEmpty)=true then unsupported "set:maker-not-led" else pure ()) >>= _) _ _ _
    rw [hl,if_neg (by simp)]
    exact wpAny_bind (wpAny_pure (wpAny_pure h))
theorem erase_perm {α:Type}:∀ {l:List α}{i:Nat} (h:i < l.length),(l[i]::l.eraseIdx i).Perm l
  | x::l,0,h=>List.Perm.refl _
  | x::l,i+1,h=>by
    have q:=erase_perm (l:=l) (i:=i) (by simpa using h)
    exact (List.Perm.swap ..).trans (q.cons x)
theorem pick_perm {α:Type} (next:Nat→Nat) (xs:Array α):(pickOrder next xs).toList.Perm xs.toList:=by
  have go:∀ (fuel k:Nat) (left:List α) (out:Array α),left.length=fuel→(pickOrder.go next fuel k left out).toList.Perm (out.toList++left):=by
    intro fuel
    induction fuel with
    | zero =>
      intro k left out e
      rw [List.length_eq_zero_iff.mp e]
      simp [pickOrder.go]
    | succ fuel ih =>
      intro k left out e
      have lt:next k % left.length < left.length:=Nat.mod_lt _ (by omega)
      unfold pickOrder.go
      rw [List.getElem?_eq_getElem lt]
      dsimp only
      refine (ih _ _ _ (by rw [List.length_eraseIdx_of_lt lt,e]; rfl)).trans ?_
      rw [Array.toList_push,List.append_assoc]
      refine List.Perm.append_left _ ?_
      exact erase_perm lt
  have:=go xs.size 0 xs.toList #[] rfl
  simpa [pickOrder] using this
theorem choose_any {src:Source}{n:Nat}{Q:Nat→Shared→Prop} (hn:0 < n) (h:∀ d r,r < n→Q r { s with drawn:=d }):wpAny (model prog w) A (choose src n) Q E s :=
  fun Γ p hΓ=>⟨Nat.ne_of_gt hn,h _ _ (Nat.mod_lt _ hn)⟩
theorem draw_perm {α:Type}:∀ (n:Nat) (xs:List α) {s:Shared}{Q:List α→Shared→Prop},xs.length=n→(∀ d ord,ord.Perm xs→Q ord { s with drawn:=d })→wpAny (model prog w) A (drawOrder n xs) Q E s
  | 0,xs,s,Q,e,h=>by
    rw [List.length_eq_zero_iff.mp e] at h
    unfold drawOrder
    have:s={ s with drawn:=s.drawn }:=rfl
    exact wpAny_pure (h s.drawn [] (List.Perm.refl _))
  | n+1,[],s,Q,e,h=>by cases e
  | n+1,x::xs,s,Q,e,h=>by
    unfold drawOrder
    refine wpAny_bind (choose_any (by rw [e]; omega) fun d r hr=>?_)
    rw [List.getElem?_eq_getElem hr]
    dsimp only
    refine wpAny_bind (draw_perm n _ (by rw [List.length_eraseIdx_of_lt hr,e]; rfl) fun d2 ord pm=>?_)
    refine wpAny_pure (h d2 _ ?_)
    exact (pm.cons _).trans (erase_perm hr)
theorem self_si {I:Addr}{f:Value}{i:Nat}{a:Addr}{n ep:Nat}{Q:Value→Shared→Prop} (hi:s.heap.get? I=some (itOb f i a n ep)) (h:Q (.ref I) s):wpAny (model prog w) A (pyIter (.ref I)) Q E s:=by
  have ty:s.TypeIs (.ref I) "set_iterator" := ⟨_,hi,rfl⟩
  refine wpAny_pyIter_slot ty slot_si_iter (wpAny_call_entry slot_si_iter ty entry_si_iter ?_ (args_si_iter _))
  show wpAny _ _ (ret (.ref I)) _ _ s
  exact wpAny_pure ⟨_,rfl, "set_iterator",_,ty,slot_si_next.lookup,h⟩
theorem walks_text {I a:Addr}{ep:Nat}{es:Array (Int × Value)}{t:SetTable} (hh:A.handled=none) (ne:a≠I) (hf:t.fits es.size=true) (hb:w.params.followText "set-order" = true) :
    Walks prog w A I [I,a] [I] es.size (fun i v=>((pickOrder (w.params.setOrder a ep) es).toList.map (·.2))[i]?=some v) (fun i h=>h.get? I=some (itOb (.int 0 0) i a es.size ep)∧h.get? a=some (setOb es ep t)) where
  sub:=fun b hb=>by simp at hb; simp [hb]
  frame:=fun _ _ _ st hk=>⟨hk I (by simp) _ st.1,hk a (by simp) _ st.2⟩
  item:=fun i s Q E lt st hQ=>by
    have ez:(pickOrder (w.params.setOrder a ep) es).size=es.size:=by rw [← Array.length_toList,(pick_perm _ es).length_eq,Array.length_toList]
    have li:i < (pickOrder (w.params.setOrder a ep) es).size:=by rw [ez]; exact lt
    refine next_int (f:=0) (r:=some ((pickOrder (w.params.setOrder a ep) es)[i].2,0)) hh st.1 st.2 hf (fun A E Q q=>next_text st.2 hf hb (by rw [Array.getElem?_eq_getElem li]; exact q)) (fun x j e h' e1 sb=>?_) (fun e=>nomatch e)
    injection e with e
    injection e with e2 e3
    subst e2 e3
    refine hQ _ h' s.toks ?_ ⟨e1,(sb.2 a ne).trans st.2⟩ fun b o hb e=>(sb.2 b (by simpa using hb)).trans e
    rw [List.getElem?_map,Array.getElem?_toList,Array.getElem?_eq_getElem li]; rfl
  done:=fun s Q E st hQ=>by
    have ez:(pickOrder (w.params.setOrder a ep) es).size=es.size:=by rw [← Array.length_toList,(pick_perm _ es).length_eq,Array.length_toList]
    refine next_int (f:=0) (r:=none) hh st.1 st.2 hf (fun A E Q q=>next_text st.2 hf hb (by rw [Array.getElem?_eq_none (by rw [ez]; exact Nat.le_refl _)]; exact q)) (fun _ _ e=>nomatch e) (fun _ h' k=>?_)
    exact hQ h' s.toks fun b o hb e=>k b o (by simpa using hb) e
  self:=fun _ _ _ _ st hQ=>self_si st.1 hQ
theorem walks_draw {I a T:Addr}{ep e1:Nat}{es:Array (Int × Value)}{t:SetTable}{pl:List Nat} (hh:A.handled=none) (ne:a≠I) (nt:T≠I) (hf:t.fits es.size=true) (hl:pl.length=es.size) (hp:∀ j∈pl,j < es.size) :
    Walks prog w A I [I,a,T] [I] es.size (fun i v=>(pl.map fun j=>(es.getD j (0,.none)).2)[i]?=some v) (fun i h=>h.get? I=some (itOb (.ref T) i a es.size ep)∧h.get? a=some (setOb es ep t)∧h.get? T=some (seqObj "tuple" (pl.map fun (i:Nat)=>rawInt i).toArray e1)) where
  sub:=fun b hb=>by simp at hb; simp [hb]
  frame:=fun _ _ _ st hk=>⟨hk I (by simp) _ st.1,hk a (by simp) _ st.2.1,hk T (by simp) _ st.2.2⟩
  item:=fun i s Q E lt st hQ=>by
    have li:i < pl.length:=by rw [hl]; exact lt
    have lj:pl[i] < es.size:=hp _ (List.getElem_mem li)
    refine next_draw (j:=pl[i]) (x:=es[pl[i]]) st.1 st.2.1 hf st.2.2 (List.getElem?_eq_getElem li) (Array.getElem?_eq_getElem lj) fun h' e2 sb=>?_
    refine hQ _ h' s.toks ?_ ⟨e2,(sb.2 a ne).trans st.2.1,(sb.2 T nt).trans st.2.2⟩ fun b o hb e=>(sb.2 b (by simpa using hb)).trans e
    rw [List.getElem?_map,List.getElem?_eq_getElem li]
    simp [lj]
  done:=fun s Q E st hQ=>end_draw hh st.1 st.2.1 hf st.2.2 (List.getElem?_eq_none (by rw [hl]; exact Nat.le_refl _)) fun h' k=>hQ h' s.toks fun b o hb e=>k b o (by simpa using hb) e
  self:=fun _ _ _ _ st hQ=>self_si st.1 hQ
theorem below_one (j:Nat):SetTable.below #[j] (j+1)=1:=by
  unfold SetTable.below
  simp [SetTable.below.go]
theorem below_one0 (j:Nat):SetTable.below #[j] 0=0:=by
  unfold SetTable.below
  simp [SetTable.below.go]
theorem walks_slot {I a:Addr}{ep:Nat}{es:Array (Int × Value)}{t:SetTable} (hh:A.handled=none) (ne:a≠I) (hf:t.fits es.size=true) (hb:w.params.followText "set-order" = false) (hl:t.led=true) (h1:es.size≤1) :
    Walks prog w A I [I,a] [I] es.size (fun i v=>(es.toList.map (·.2))[i]?=some v) (fun i h=>h.get? I=some (itOb (.int ((if i=0 then 0 else t.place.getD 0 0+1:Nat):Int) 0) i a es.size ep)∧h.get? a=some (setOb es ep t)) where
  sub:=fun b hb=>by simp at hb; simp [hb]
  frame:=fun _ _ _ st hk=>⟨hk I (by simp) _ st.1,hk a (by simp) _ st.2⟩
  item:=fun i s Q E lt st hQ=>by
    obtain rfl:i=0:=by omega
    have z1:es.size=1:=by omega
    have pz:t.place.size=1:=by
      simp only [SetTable.fits,Bool.and_eq_true,beq_iff_eq] at hf
      rw [hf.1,z1]
    obtain ⟨j, hj⟩ : ∃ j, t.place = #[j] := ⟨t.place[0], by apply Array.ext <;> simp [pz]; intro i hi; have : i = 0 := by omega
                                                            subst this; rfl⟩
    have li:0 < es.size:=by omega
    refine next_int (f:=0) (r:=some (es[0].2,j+1)) hh st.1 st.2 hf (fun A E Q q=>next_slot st.2 hf hb hl h1 (by rw [hj,below_one0,Array.getElem?_eq_getElem li]; exact q)) (fun x j' e h' e1 sb=>?_) (fun e=>nomatch e)
    injection e with e
    injection e with e2 e3
    subst e2 e3
    refine hQ _ h' s.toks ?_ ⟨?_,(sb.2 a ne).trans st.2⟩ fun b o hb e=>(sb.2 b (by simpa using hb)).trans e
    · rw [List.getElem?_map,Array.getElem?_toList,Array.getElem?_eq_getElem li]; rfl
    · rw [e1,hj]; rfl
  done:=fun s Q E st hQ=>by
    have nx:(match es[SetTable.below t.place (if es.size=0 then 0 else t.place.getD 0 0+1)]?,t.place[SetTable.below t.place (if es.size=0 then 0 else t.place.getD 0 0+1)]? with | some (_,x),some j=>some (x,j+1) | _,_=>(none:Option (Value × Nat)))=none:=by
      have hz:t.place.size=es.size:=by
        simp only [SetTable.fits,Bool.and_eq_true,beq_iff_eq] at hf
        exact hf.1
      by_cases z:es.size=0
      · have:es=#[]:=Array.size_eq_zero_iff.mp z
        subst this
        simp
      · have z1:es.size=1:=by omega
        obtain ⟨j, hj⟩ : ∃ j, t.place = #[j] := ⟨t.place[0], by apply Array.ext <;> simp [hz, z1]; intro i hi; have : i = 0 := by omega
                                                                subst this; rfl⟩
        rw [if_neg z,hj]
        have e4:(#[j]:Array Nat).getD 0 0=j:=rfl
        rw [e4,below_one,Array.getElem?_eq_none (by rw [z1]; exact Nat.le_refl _)]
    refine next_int (r:=none) hh st.1 st.2 hf (fun A E Q q=>next_slot st.2 hf hb hl h1 (by rw [nx]; exact q)) (fun _ _ e=>nomatch e) (fun _ h' k=>?_)
    exact hQ h' s.toks fun b o hb e=>k b o (by simpa using hb) e
  self:=fun _ _ _ _ st hQ=>self_si st.1 hQ
theorem iter_set {a:Addr}{es:Array (Int × Value)}{Q:Value→Shared→Prop} (hh:A.handled=none) (hS:SetX prog w s.heap a es)
    (hQ:∀ (I:Addr) (h1:Heap) (d:Drawn) (ord:List Value) (fp:List Addr) (St:Nat→Heap→Prop),ord.Perm (es.toList.map (·.2))→Walks prog w A I fp [I] es.size (fun i v=>ord[i]?=some v) St→St 0 h1→s.heap.objs.size≤I→(∀ b∈fp,b=a∨s.heap.objs.size≤b) →
      (∀ b∈fp,b < h1.objs.size)→(∀ b o,s.heap.get? b=some o→h1.get? b=some o)→Q (.ref I) { s with heap:=h1,drawn:=d }) :
    wpAny (model prog w) A (pyIter (.ref a)) Q E s:=by
  obtain ⟨ep,t,ho,hel,hbd,hf,hled,hpl⟩:=id hS
  have ty:s.TypeIs (.ref a) "set" := ⟨_,ho,rfl⟩
  have la:a < s.heap.objs.size:=Heap.lt_size ho
  refine wpAny_pyIter_slot ty PySem.F.slot_set_iter (wpAny_call_entry PySem.F.slot_set_iter ty entry_set_iter ?_ (PySem.F.args_set_iter_1 _))
  unfold Builtin.«frozenset.__iter__» Builtin.Frozenset.slot0 Builtin.Frozenset.sizeOf
  refine wpAny_bind (wpAny_bind (m:=slotArgs "__iter__" 0 _) (wpAny_pure (wpAny_pure ?_)))
  refine wpAny_bind (wpAny_bind (wpAny_setEntries_of ho rfl hf (wpAny_pure ?_)))
  unfold setDrawn
  refine wpAny_bind (wpAny_bind (wpAny_setState_of ho rfl hf ?_))
  dsimp only
  refine wpAny_bind (byText_eq (wpAny_pure ?_))
  have szl:es.size≤sizeLine:=fits_of_scanBound hbd
  refine wpAny_ite_split (fun hd=>?_) (fun hd=>?_)
  · refine wpAny_bind (draw_perm es.size (List.range es.size) (by simp) fun d pl pm=>?_)
    have pl_len:pl.length=es.size:=by rw [pm.length_eq,List.length_range]
    refine wpAny_bind (wpAny_newTuple ?_ (by rw [List.length_map,pl_len]; exact szl))
    have ho2:(s.heap.push (seqObj "tuple" (pl.map fun (i:Nat)=>rawInt i).toArray 0)).get? a=some (setOb es ep t):=Heap.get?_push_of_some _ ho
    refine wpAny_bind (wpAny_setEpoch_of ho2 rfl hf ?_)
    refine wpAny_bind (wpAny_newObj_type (wpAny_pure ⟨_,rfl, "set_iterator",_,⟨_,Heap.get?_push_size _ rfl,rfl⟩,slot_si_next.lookup,hQ _ _ d _ _ _ ?pm (walks_draw (a:=a) (T:=s.heap.objs.size) (t:=t) (ep:=ep) (e1:=0) (pl:=pl) hh ?ne ?nt hf pl_len fun j hj=>List.mem_range.mp (pm.mem_iff.mp hj)) ?st ?ge ?fp ?lt ?kp⟩))
    case pm =>
      refine (pm.map _).trans ?_
      rw [show (List.range es.size).map (fun j=>(es.getD j (0,Value.none)).2)=es.toList.map (·.2) from ?_]
      apply List.ext_getElem
      · simp
      · intro i h1 h2
        have hi:i < es.size:=by simpa using h1
        simp [hi]
    case ne=>show a≠(s.heap.push _).objs.size; rw [Heap.size_push]; exact Nat.ne_of_lt (Nat.lt_succ_of_lt la)
    case nt=>show s.heap.objs.size≠(s.heap.push _).objs.size; rw [Heap.size_push]; exact Nat.ne_of_lt (Nat.lt_succ_self _)
    case st=>exact ⟨Heap.get?_push_size _ rfl,Heap.get?_push_of_some _ ho2,Heap.get?_push_of_some _ (Heap.get?_push_size _ rfl)⟩
    case ge=>show s.heap.objs.size≤(s.heap.push _).objs.size; rw [Heap.size_push]; exact Nat.le_succ _
    case fp =>
      intro b hb
      simp only [List.mem_cons,List.not_mem_nil,or_false] at hb
      rcases hb with rfl | rfl | rfl
      · right; show s.heap.objs.size≤(s.heap.push _).objs.size; rw [Heap.size_push]; exact Nat.le_succ _
      · exact .inl rfl
      · exact .inr (Nat.le_refl _)
    case lt =>
      intro b hb
      simp only [List.mem_cons,List.not_mem_nil,or_false] at hb
      rw [Heap.size_push]
      rcases hb with rfl | rfl | rfl
      · exact Nat.lt_succ_self _
      · rw [Heap.size_push]; exact Nat.lt_succ_of_lt (Nat.lt_succ_of_lt la)
      · rw [Heap.size_push]; exact Nat.lt_succ_of_lt (Nat.lt_succ_self _)
    case kp=>exact fun b o e=>Heap.get?_push_of_some _ (Heap.get?_push_of_some _ e)
  · refine wpAny_bind (wpAny_pure ?_)
    refine wpAny_bind (wpAny_setEpoch_of ho rfl hf ?_)
    refine wpAny_bind (wpAny_newObj_type (wpAny_pure ⟨_,rfl, "set_iterator",_,⟨_,Heap.get?_push_size _ rfl,rfl⟩,slot_si_next.lookup,?_⟩))
    have ne:a≠s.heap.objs.size:=Nat.ne_of_lt la
    have fpo:∀ b∈[s.heap.objs.size,a],b=a∨s.heap.objs.size≤b:=fun b hb=>by
      simp only [List.mem_cons,List.not_mem_nil,or_false] at hb
      rcases hb with rfl | rfl
      · exact .inr (Nat.le_refl _)
      · exact .inl rfl
    have flt:∀ (o:Obj),∀ b∈[s.heap.objs.size,a],b < (s.heap.push o).objs.size:=fun o b hb=>by
      simp only [List.mem_cons,List.not_mem_nil,or_false] at hb
      rw [Heap.size_push]
      rcases hb with rfl | rfl
      · exact Nat.lt_succ_self _
      · exact Nat.lt_succ_of_lt la
    by_cases hb:w.params.followText "set-order" = true
    · exact hQ _ _ s.drawn _ _ _ ((pick_perm _ es).map _) (walks_text (a:=a) (ep:=ep) (t:=t) hh ne hf hb) ⟨Heap.get?_push_size _ rfl,Heap.get?_push_of_some _ ho⟩ (Nat.le_refl _) fpo (flt _) fun b o e=>Heap.get?_push_of_some _ e
    · have hb':w.params.followText "set-order" = false:=by simpa using hb
      have h1:es.size≤1:=by
        have hd':¬ (!w.params.followText "set-order" && (!t.plain && decide (es.size > 1)))=true:=hd
        rw [hb'] at hd'
        rcases hpl with z | z
        · omega
        · rw [z] at hd'
          simpa using hd'
      have hl:t.led=true:=by rw [hled,hb']; rfl
      exact hQ _ _ s.drawn _ _ _ (List.Perm.refl _) (walks_slot (a:=a) (ep:=ep) (t:=t) hh ne hf hb' hl h1) ⟨Heap.get?_push_size _ rfl,Heap.get?_push_of_some _ ho⟩ (Nat.le_refl _) fpo (flt _) fun b o e=>Heap.get?_push_of_some _ e
end
end L2
end
section
namespace L2
open PySem PySem.Spec PyProof.Rows
section
variable {prog:Program}{w:World}{A:Around}{E:Value→Shared→Prop}{s:Shared}
theorem len_set:typeLookup (.type "set") "__len__" = pure (some (.builtin "set.__len__")):=by rw [typeLookup_type,builtinLookup_eq_fast]; kernel_rfl
theorem hint_set {r:Addr}{Q:Bool→Shared→Prop} (hT:s.TypeIs (.ref r) "set") (h:Q false s):wpAny (model prog w) A (Builtin.List.listLengthHint (.ref r)) Q E s:=by
  unfold Builtin.List.listLengthHint
  refine wpAny_bind (wpAny_specialOf hT len_set ?_)
  generalize hid:("set.__len__" : String)=id0
  wp_delta
  rw [show splitId id0=some ("set", "__len__") from by subst hid; decide +kernel]
  subst hid
  refine wpAny_bind (wpAny_isInstance (T := "set") (b:=true) hT (by rw [isSubtype_type]; kernel_rfl) ?_)
  refine wpAny_ite_split (fun hab=>absurd hab (by decide)) (fun _=>?_)
  refine wpAny_ite_split (fun _=>?_) (fun hab=>absurd (by decide +kernel) hab)
  refine wpAny_bind (wpAny_typeOf hT ?_)
  exact wpAny_pure h
theorem collect_set {a:Addr}{es:Array (Int × Value)}{R:List Value→Shared→Prop} (hh:A.handled=none) (hS:SetX prog w s.heap a es)
    (h:∀ h' tk d ord,ord.Perm (es.toList.map (·.2))→(∀ b o,s.heap.get? b=some o→h'.get? b=some o)→R ord { s with heap:=h',toks:=tk,drawn:=d }) :
    wpAny (model prog w) A (collect (.ref a)) R E s:=by
  obtain ⟨ep,t,ho,hel,hbd,hf,hled,hpl⟩:=id hS
  have la:a < s.heap.objs.size:=Heap.lt_size ho
  unfold collect
  refine wpAny_bind (wpAny_runValue (codeAny_builtin PySem.F.entry_proto_collect ?_))
  rw [Around.under_plainId PySem.F.plain_proto_collect _]
  show wpAny _ A.in1 (newList [] >>= fun l=>again (.builtin "list.__iadd__" ⟨[l,.ref a],[]⟩)) _ _ s
  refine wpAny_bind (wpAny_newObj_type ?_)
  refine wpAny_pure ⟨plainId_quiet PySem.F.plain_list_iadd _,codeAny_builtin PySem.F.entry_list_iadd ?_⟩
  rw [Around.under_plainId PySem.F.plain_list_iadd _]
  show wpAny _ A.in1 (Builtin.List.listExtendWith (.ref s.heap.objs.size) (.ref a) (.ref s.heap.objs.size)) _ _ _
  have ho1:(s.heap.push { cls:=.type "list",data:=.seq ([]:List Value).toArray }).get? a=some (setOb es ep t):=Heap.get?_push_of_some _ ho
  have hS1:SetX prog w (s.heap.push { cls:=.type "list",data:=.seq ([]:List Value).toArray }) a es:=⟨ep,t,ho1,hel,hbd,hf,hled,hpl⟩
  have hL:(s.heap.push { cls:=.type "list",data:=.seq ([]:List Value).toArray }).get? s.heap.objs.size=some { cls:=.type "list",data:=.seq #[] }:=Heap.get?_push_size _ rfl
  unfold Builtin.List.listExtendWith
  refine wpAny_bind (wpAny_typeOf (T := "set") ⟨_,ho1,rfl⟩ ?_)
  have ne:s.heap.objs.size≠a:=Nat.ne_of_gt la
  have q1:Builtin.List.listSameRef (.ref s.heap.objs.size) (.ref a)=false:=by simp [Builtin.List.listSameRef,ne]
  rw [if_neg (by rw [q1]; decide)]
  refine wpAny_bind (iter_set (A:=A.in1) (s:={ s with heap:=s.heap.push { cls:=.type "list",data:=.seq ([]:List Value).toArray } }) hh hS1 fun I h1 d ord fp St pm W st ge fpo flt kp=>?_)
  dsimp only at ge fpo kp
  rw [Heap.size_push] at ge fpo
  have nf:s.heap.objs.size ∉ fp:=fun z=>by
    rcases fpo _ z with e | e
    · exact ne e
    · exact Nat.lt_irrefl _ e
  have hn:es.size≤sizeLine:=fits_of_scanBound hbd
  have ol:ord.length=es.size:=by rw [pm.length_eq,List.length_map,Array.length_toList]
  have key:∀ (g:Heap) (c₁:Nat),St 0 g→(∀ b o,b≠s.heap.objs.size→h1.get? b=some o→g.get? b=some o)→g.get? s.heap.objs.size=some { cls:=.type "list",data:=.seq #[] c₁ } →
      codeAny (model prog w) A (.builtin "list.extend.loop" ⟨[.ref s.heap.objs.size,.ref I,.ref s.heap.objs.size],[]⟩) (fun q s'=>∃ (h':Heap) (tk:Nat) (acc:Array Value) (c':Nat),q=.ok (.ret (.ref s.heap.objs.size))∧s'={ s with heap:=h',toks:=tk,drawn:=d } ∧
        (∀ b o,s.heap.get? b=some o→h'.get? b=some o)∧h'.get? s.heap.objs.size=some { cls:=.type "list",dict:=none,data:=.seq acc c',slots:=#[] }∧acc.toList=ord) { s with heap:=g,drawn:=d }:=by
    intro g c₁ hst hk hg
    refine codeAny_extend_loopS W.toS hn _ nf _ es.size 0 _ #[] c₁ rfl (Nat.zero_le _) hst hg (ItemsOf.nil _) fun s' acc' c' hm hS' hacc=>?_
    have e1:acc'.toList=ord:=by
      apply List.ext_getElem
      · rw [Array.length_toList,hacc.1,ol]
      · intro i i1 i2
        have:ord[i]?=some (acc'[i]'(by simpa using i1)):=hacc.2 i _ (Array.getElem?_eq_getElem (by simpa using i1))
        rw [List.getElem?_eq_getElem i2] at this
        injection this with this
        simpa using this.symm
    refine ⟨s'.heap,s'.toks,acc',c',rfl,Moved.eq_with hm,fun b o e=>?_,hS',e1⟩
    have nb:b≠s.heap.objs.size:=Nat.ne_of_lt (Heap.lt_size e)
    refine hm.heap b o (fun z=>?_) (hk b o nb (kp b o (Heap.get?_push_of_some _ e)))
    rcases List.mem_cons.mp z with e' | z
    · exact nb e'
    · rw [List.mem_singleton.mp z] at e
      exact absurd (Heap.lt_size e) (Nat.not_lt.mpr (Nat.le_of_succ_le ge))
  have fin : ∀ (q : Result) (s' : Shared), (∃ (h' : Heap) (tk : Nat) (acc : Array Value) (c' : Nat), q = .ok (.ret (.ref s.heap.objs.size)) ∧ s' = { s with heap := h', toks := tk, drawn := d } ∧
        (∀ b o,s.heap.get? b=some o→h'.get? b=some o)∧h'.get? s.heap.objs.size=some { cls:=.type "list",dict:=none,data:=.seq acc c',slots:=#[] }∧acc.toList=ord) →
      q=.ok (.ret (.ref s.heap.objs.size))∧wpAny (model prog w) A (load s.heap.objs.size >>= fun o=>match o.data with | .seq xs _=>pure xs.toList | _=>unsupported "internal:collect") R E s':=by
    rintro q s' ⟨h',tk,acc,c',rfl,rfl,kk,hg,e1⟩
    refine ⟨rfl,wpAny_bind (wpAny_load hg ?_)⟩
    show wpAny _ _ (pure acc.toList) _ _ _
    rw [e1]
    exact wpAny_pure (h h' tk d ord pm kk)
  have hL1:=kp _ _ hL
  have hoa:=kp _ _ ho1
  refine wpAny_bind (wpAny_holding (hint_set (s:={ s with heap:=h1,drawn:=d }) ⟨_,hoa,rfl⟩ ?_))
  refine wpAny_ite_split (fun _=>?_) (fun _=>wpAny_pure ⟨plainId_quiet PySem.F.plain_extend_loop _,codeAny_mono (key h1 _ st (fun b o _ e=>e) hL1) fun q s' y=>?_⟩)
  · refine wpAny_bind (wpAny_rule ?_)
    refine wpAny_bind ?_
    show wpAny _ _ (updateSeq s.heap.objs.size (·.push .none) >>= fun _=>updateSeq s.heap.objs.size (·.pop)) _ _ _
    refine wpAny_bind (wpAny_updateSeq hL1 rfl ?_)
    have hL2:=Heap.get?_update_self (Obj.mapSeq (·.push Value.none)) hL1 rfl
    refine wpAny_updateSeq (hz:=by seq_fits) hL2 rfl ?_
    have hL3:=Heap.get?_update_self (Obj.mapSeq (·.pop)) hL2 rfl
    refine wpAny_pure ⟨plainId_quiet PySem.F.plain_extend_loop _,codeAny_mono (key _ _ ?_ (fun b o hb e=>?_) hL3) fun q s' y=>?_⟩
    · refine W.frame 0 _ _ st fun b hb o e=>?_
      have hbS:b≠s.heap.objs.size:=fun z=>nf (z ▸ hb)
      exact (Heap.get?_update_other _ _ (Ne.symm hbS)).trans ((Heap.get?_update_other _ _ (Ne.symm hbS)).trans e)
    · exact (Heap.get?_update_other _ _ (Ne.symm hb)).trans ((Heap.get?_update_other _ _ (Ne.symm hb)).trans e)
    · obtain ⟨rfl,y2⟩:=fin q s' y
      exact y2
  · obtain ⟨rfl,y2⟩:=fin q s' y
    exact y2
end
section
open MyS PySem.W
variable {X:Cx}{pins:List (Addr × Obj)}{σ:List (Option V)}{H:Hp}{s:Shared}
theorem Inv.draw {h':Heap}{tk:Nat}{d:Drawn} (I:Inv X pins σ H { s with heap:=h',toks:=tk }):Inv X pins σ H { s with heap:=h',toks:=tk,drawn:=d } :=
  ⟨I.ok,I.os,I.bare,I.base,I.loc,I.cell,I.free,I.freeC,I.pin,I.hok,I.len⟩
theorem Inv.grown {h':Heap}{tk:Nat} (I:Inv X pins σ H s) (k:∀ b u,s.heap.get? b=some u→h'.get? b=some u):Inv X pins σ H { s with heap:=h',toks:=tk } :=
  I.un (Un.kept k) (I.hok.kept k)
theorem sorted_set (hc:X.calm=true) {a:Addr}{ks:List Str}{Q:VK} (I:Inv X pins σ H s) (hS:SetK X.prog X.w s.heap a ks) (h64:ks.length < 64)
    (q:∀ (out:List Str) (l:Addr),(∀ x,x∈out↔x∈ks)→out.Pairwise (fun a b=>a.cps.toList < b.cps.toList)→H l=none→Q (.ref l) (upd H l (.lst (out.map V.str)))) :
    wpAny (model X.prog X.w) X.A (call (.builtin "sorted") [.ref a]) (EP X pins σ Q) X.xe s:=by
  obtain ⟨es,sx,nd,mem,sz⟩:=hS
  refine Calls.call_function_entry kind_sorted plain_sorted entry_sorted (args_sorted1 _) ?_
  unfold Builtin.«sorted»
  refine wpAny_bind (m:=checkCount "sorted" 1 1 _) (wpAny_pure ?_)
  refine wpAny_bind (collect_set (A:=X.A.in1) (I.ok.hd hc) sx fun h' tk d ord pm hk=>?_)
  have I1:Inv X pins σ H { s with heap:=h',toks:=tk,drawn:=d }:=(I.grown hk).draw
  obtain ⟨ep,t,ho,hel,_⟩:=sx
  have hstr:∀ v∈ord,∃ x u,v=Value.str x u:=fun v hv=>by
    obtain ⟨e,he,rfl⟩:=List.mem_map.mp (pm.mem_iff.mp hv)
    obtain ⟨⟨k,hk',_⟩,_⟩:=hel e he
    obtain ⟨u,e2⟩:=Value.isStrOf_shape hk'
    exact ⟨k,u,e2⟩
  have hS:StrsAre ord (ord.map txt):=by
    have go:∀ l:List Value,(∀ v∈l,∃ x u,v=Value.str x u)→StrsAre l (l.map txt):=by
      intro l
      induction l with
      | nil=>intro _; exact .nil
      | cons v l ih =>
        intro hl
        obtain ⟨x,u,rfl⟩:=hl v (List.mem_cons_self ..)
        exact .cons _ _ (ih fun v hv=>hl v (List.mem_cons_of_mem _ hv))
    exact go ord hstr
  have pt:(ord.map txt).Perm (txts es):=by
    have:=pm.map txt
    rw [List.map_map] at this
    exact this
  have hnd:(ord.map txt).Nodup:=pt.nodup_iff.mpr nd
  have ol:ord.length=es.size:=by rw [pm.length_eq,List.length_map,Array.length_toList]
  have h64':ord.length < 64:=by omega
  refine wpAny_bind (wpAny_newList ?_ (by rw [sizeLine_eq]; omega))
  dsimp only
  generalize hB:h'.objs.size=B
  have hoL:(h'.push { cls:=.type "list",data:=.seq ord.toArray }).get? B=some (seqObj "list" ord.toArray 0):=by
    rw [← hB]; exact Heap.get?_push_size _ rfl
  have old:∀ b o,h'.get? b=some o→(h'.push { cls:=.type "list",data:=.seq ord.toArray }).get? b=some o∧b≠B:=fun b o e=>⟨Heap.get?_push_of_some _ e,by rw [← hB]; exact Nat.ne_of_lt (Heap.lt_size e)⟩
  refine wpAny_bind (wpAny_holding (wpAny_call_entry slot_list_sort ⟨_,hoL,rfl⟩ entry_list_sort (sort_strs (ks:=ord.map txt) hoL hS hnd h64' fun p h2 e2 hp1 hp2 hk2 ho2=>⟨_,rfl,?_⟩) (args_list_sort _)))
  refine wpAny_pure ⟨_,rfl,?_⟩
  have hold:∀ b o,h'.get? b=some o→h2.get? b=some o:=fun b o e=>hk2 b o (old _ _ e).2 (old _ _ e).1
  refine ⟨.ref B,_,I1.laid (t':=tk) (o:=.lst ((p.map fun i=>(ord.map txt).getD i ⟨#[]⟩).map V.str)) hold (Nat.le_of_eq hB) ⟨?_,_,_,?_,ho2⟩,rfl,q _ B ?_ ?_ (I1.hok.fresh (Nat.le_of_eq hB))⟩
  · rw [List.length_map,List.length_map,hp1.length_eq,List.length_range,sizeLine_eq]; omega
  · have go:∀ l:List Nat,(∀ i∈l,i < ord.length)→Vals ((l.map fun i=>(ord.map txt).getD i ⟨#[]⟩).map V.str) (l.map fun i=>ord.getD i Value.none):=by
      intro l
      induction l with
      | nil=>intro _; exact .nil
      | cons i l ih =>
        intro hl'
        have hi:i < ord.length:=hl' i (List.mem_cons_self ..)
        refine .cons ?_ (ih fun j hj=>hl' j (List.mem_cons_of_mem _ hj))
        obtain ⟨x,u,e⟩:=hstr ord[i] (List.getElem_mem hi)
        have a1:ord.getD i Value.none=Value.str x u:=by simp [hi,e]
        have a2:(ord.map txt).getD i ⟨#[]⟩=x:=by simp [hi,e,txt]
        show RelV (V.str ((ord.map txt).getD i ⟨#[]⟩)) (ord.getD i Value.none)
        rw [a1,a2]
        exact ⟨_,rfl⟩
    exact go p fun i hi=>List.mem_range.mp (hp1.mem_iff.mp hi)
  · intro x
    have e1:(List.range ord.length).map (fun i=>(ord.map txt).getD i (⟨#[]⟩:Str))=ord.map txt:=by
      apply List.ext_getElem
      · simp
      · intro i h1 h2
        have hi:i < ord.length:=by simpa using h1
        simp [hi]
    have p2:=hp1.map (fun i=>(ord.map txt).getD i (⟨#[]⟩:Str))
    rw [e1] at p2
    rw [p2.mem_iff,pt.mem_iff]
    exact mem x
  · rw [List.pairwise_map]
    rw [List.pairwise_map] at hp2
    exact hp2
def rSSet (K:PySem.W.Frag) (x:V) (H:Hp) (Q:VK):Prop:=∃ (p:Addr) (ks:List Str),x=.ref p∧SqT K H p (ks.map V.str)∧ks.length < 64 ∧
  ∀ (out:List Str) (l:Addr),(∀ x,x∈out↔x∈ks)→out.Pairwise (fun a b=>a.cps.toList < b.cps.toList)→H l=none→Q (.ref l) (upd H l (.lst (out.map V.str)))
def tSSet (K:PySem.W.Frag) (t:TE):TE:=fun σ H Q=>t σ H fun x H1=>rSSet K x H1 Q
theorem pe_sset {x y:Str}{e:Expr}{te:TE}{p p2 pos pos2:Pos} (hc:X.calm=true) (he:PE X e te) (hg:Gl X x) (hm:X.mg x=none) (hv:bootBuiltins x=some (.builtin "sorted")) (hg2:Gl X y) (hm2:X.mg y=none) (hv2:bootBuiltins y=some (.type "set"))
    (hn:x ≠ "__name__" := by decide) (hdb:(x == ("__debug__" : Str))=false:=by decide) (hn2:y ≠ "__name__" := by decide) (hdb2:(y == ("__debug__" : Str))=false:=by decide)
    (hs:starEach [e] X.env=(false,eval e X.env)::starEach [] X.env:=by rfl)
    (hs2:starEach [Expr.Call (.Name y p2) [e] [] pos2] X.env=(false,eval (Expr.Call (.Name y p2) [e] [] pos2) X.env)::starEach [] X.env:=by rfl) :
    PE X (.Call (.Name x p) [.Call (.Name y p2) [e] [] pos2] [] pos) (tSSet X.K te):=by
  intro pins s σ H Q I h
  refine wpAny_Call_Name_kw (ld_blt I hg hm hv ?_ hn hdb)
  refine PyProof.Rows.callWith_builtin1 ?_ hs2 rfl
  rw [hs2]
  show wpAny _ _ (spliced ((false,eval (Expr.Call (.Name y p2) [e] [] pos2) X.env)::backTo pos (starEach [] X.env))) _ _ s
  refine Calls.spliced_cons ?_
  refine wpAny_Call_Name_kw (ld_blt I hg2 hm2 hv2 ?_ hn2 hdb2)
  refine PyProof.Rows.callWith_type1 (thn (pa_cons he pa_nil hs pos2 pins s σ H (fun xs H1=>match xs with | [x]=>rSSet X.K x H1 Q | _=>False) I ?_) fun us s1 ⟨vs,H1,I1,r1,q1⟩=>?_) hs rfl
  · exact h
  · obtain ⟨x,rfl,q1⟩:∃ x,vs=[x]∧rSSet X.K x H1 Q:=by
      match vs,q1 with
      | [x],q1=>exact ⟨x,rfl,q1⟩
      | [],q1=>exact q1.elim
      | _::_::_,q1=>exact q1.elim
    obtain ⟨a,ks,rfl,hsq,h64,q⟩:=q1
    obtain ⟨u,rfl,ru⟩:=vals1 r1
    cases ru
    obtain ⟨its,rv,tp,_⟩:=I1.tuple hsq
    have hlen:its.toArray.size=ks.length:=by have:=rv.length; simp at this; simp [this]
    refine call_setK (A:=X.A) (I.ok.hd hc) tp hlen (fun i v hv=>?_) (by unfold scanBound; omega) fun h' tk sk k=>?_
    · have hi:i < ks.length:=by
        rw [← hlen]
        exact (Array.getElem?_eq_some_iff.mp hv).1
      obtain ⟨u,e1,e2⟩:=rv.get (i:=i) (x:=.str (ks.getD i ⟨#[]⟩)) (by rw [List.getElem?_map]; simp [hi])
      have e3:its[i]?=some v:=by simpa using hv
      rw [e1] at e3
      injection e3 with e3
      subst e3
      obtain ⟨t,rfl⟩:=e2
      simp [Value.isStrOf]
    · refine Calls.spliced_nil ?_
      exact sorted_set hc (I1.grown (tk:=tk) fun b u e=>k b u (Heap.lt_size e) e) sk h64 q
end
end L2
end
section
namespace L2
open PySem PySem.Spec PyProof.Rows
theorem meets_zip_tt (l1 l2:Addr) (xs ys:Array Value) :
    Meets (Builtin.«zip.__new__» ⟨[.type "zip",.ref l1,.ref l2],[]⟩) (fun _ R s=>s.heap.IsTuple l1 xs∧s.heap.IsTuple l2 ys ∧
      R (.ok (.ret (.ref (s.heap.objs.size+4)))) { s with heap:=((((s.heap.push { cls:=.type "tuple_iterator",data:=.fields #[.ref l1,.int 0 0] }).push { cls:=.type "tuple_iterator",data:=.fields #[.ref l2,.int 0 0] }).push { cls:=.type "tuple",data:=.seq #[.ref s.heap.objs.size,.ref (s.heap.objs.size+1)] }).push { cls:=.type "tuple",data:=.seq #[.none,.none] }).push { cls:=.type "zip",data:=.fields #[.none,.bool false,.bool false,.ref (s.heap.objs.size+2),.ref (s.heap.objs.size+3)] } }) :=
  .of_wp fun prog w A R s h=>by
    obtain ⟨hp,g,d,tk,os⟩:=s; obtain ⟨hl1,hl2,h⟩:=h
    have hsub:=sub_zip
    have hL1:Heap.IsTuple (Shared.heap ⟨hp,g,d,tk,os⟩) l1 xs:=hl1
    have hL2:Heap.IsTuple (Shared.heap ⟨hp.push { cls:=.type "tuple_iterator",data:=.fields #[.ref l1,.int 0 0] },g,d,tk,os⟩) l2 ys:=Heap.IsTuple.push hl2 _
    wp_walk using wpAny_pyIter_tuple hL1,wpAny_pyIter_tuple hL2
    refine ⟨_,rfl,?_⟩
    simp only [Heap.size_push] at *
    exact h
section
variable {prog:Program}{w:World}{A:Around}{E:Value→Shared→Prop}{s:Shared}
theorem call_zip_tt {l1 l2:Addr}{xs ys:Array Value}{Q:Value→Shared→Prop} (hl1:s.heap.IsTuple l1 xs) (hl2:s.heap.IsTuple l2 ys)
    (h:∀ h',IsZip h' (s.heap.objs.size+4) (s.heap.objs.size+2) (s.heap.objs.size+3) .none→IsPair h' (s.heap.objs.size+2) (.ref s.heap.objs.size) (.ref (s.heap.objs.size+1)) →
      IsPair h' (s.heap.objs.size+3) .none .none→h'.IsTupleIter s.heap.objs.size l1 0→h'.IsTupleIter (s.heap.objs.size+1) l2 0 →
      (∀ c o,s.heap.get? c=some o→h'.get? c=some o)→Q (.ref (s.heap.objs.size+4)) { s with heap:=h' }) :
    wpAny (model prog w) A (call (.type "zip") [.ref l1,.ref l2]) Q E s:=by
  refine callType_new F.called_zip (by decide) (F.typeCall_zip_2 _ _) (F.newCall_zip_2 _ _) (fun obj=>F.args_object_init_3 obj _ _) F.entry_zip_new (meets_zip_tt l1 l2 xs ys) ⟨hl1,hl2,?_⟩
  have g5:∀ (h:Heap) (o:Obj) (n:Nat),h.objs.size=n→o.isFreed=false→(h.push o).get? n=some o:=fun h o n e f=>by subst e; exact Heap.get?_push_size _ f
  have z1:∀ (h:Heap) (o:Obj) (n:Nat),h.objs.size=n→(h.push o).objs.size=n+1:=fun h o n e=>by rw [Heap.size_push,e]
  have y1:=z1 s.heap { cls:=.type "tuple_iterator",data:=.fields #[.ref l1,.int 0 0] } _ rfl
  have y2:=z1 _ { cls:=.type "tuple_iterator",data:=.fields #[.ref l2,.int 0 0] } _ y1
  have y3:=z1 _ { cls:=.type "tuple",data:=.seq #[.ref s.heap.objs.size,.ref (s.heap.objs.size+1)] } _ y2
  have y4:=z1 _ { cls:=.type "tuple",data:=.seq #[.none,.none] } _ y3
  have e5:=g5 _ { cls:=.type "zip",data:=.fields #[.none,.bool false,.bool false,.ref (s.heap.objs.size+2),.ref (s.heap.objs.size+3)] } _ y4 rfl
  show _∧_
  exact ⟨⟨_,e5,rfl⟩,h _ e5 (Heap.get?_push_of_some _ (Heap.get?_push_of_some _ (g5 _ _ _ y2 rfl))) (Heap.get?_push_of_some _ (g5 _ _ _ y3 rfl))
    ⟨_,Heap.get?_push_of_some _ (Heap.get?_push_of_some _ (Heap.get?_push_of_some _ (Heap.get?_push_of_some _ (g5 _ _ _ rfl rfl)))),rfl,rfl⟩
    ⟨_,Heap.get?_push_of_some _ (Heap.get?_push_of_some _ (Heap.get?_push_of_some _ (g5 _ _ _ y1 rfl))),rfl,rfl⟩
    fun c o x=>Heap.get?_push_of_some _ (Heap.get?_push_of_some _ (Heap.get?_push_of_some _ (Heap.get?_push_of_some _ (Heap.get?_push_of_some _ x))))⟩
end
def Itzz (K:PySem.W.Frag) (a b:Addr):It :=
  ⟨fun i H=>∃ xs ys x y,SqT K H a xs∧SqT K H b ys∧xs[i]?=some x∧ys[i]?=some y,
   fun i H x H'=>∃ T x1 y1,x=.ref T∧H T=none∧H'=upd H T (.tup [x1,y1])∧(∀ xs,SqT K H a xs→xs[i]?=some x1)∧(∀ ys,SqT K H b ys→ys[i]?=some y1),
   fun i H=>∃ xs ys,SqT K H a xs∧SqT K H b ys∧(i=xs.length∨i < xs.length∧i=ys.length)⟩
structure Znt (n a b:Nat) (i:Nat) (h:Heap):Prop where
  zz:IsZip h (n+4) (n+2) (n+3) .none
  ti:IsPair h (n+2) (.ref n) (.ref (n+1))
  to:∃ u v,IsPair h (n+3) u v
  i1:h.IsTupleIter n a i
  i2:ItB true h (n+1) b i
theorem turn_zipT {P:Program}{w:World}{K:PySem.W.Frag}{elts:List Expr}{kk:Nat}{pos:Pos}{n a b:Nat} (ha:a < n) (hb:b < n):Turn P w K (.Tuple elts kk pos) (Itzz K a b) [n+4,n+2,n+3,n,n+1] (n+4) (Znt n a b) where
  mem:=by simp
  obj:=fun i h st c hc=>by
    have hc':c=n+4∨c=n+2∨c=n+3∨c=n∨c=n+1:=by simpa using hc
    rcases hc' with z | z | z | z | z
    · rw [z]; exact ⟨_,st.zz,fun v z=>by cases z⟩
    · rw [z]; exact ⟨_,st.ti,fun v z=>by cases z⟩
    · rw [z]; obtain ⟨u,v,e⟩:=st.to; exact ⟨_,e,fun v z=>by cases z⟩
    · rw [z]; obtain ⟨o,e,c,d⟩:=st.i1; exact ⟨o,e,fun v z=>by rw [d] at z; cases z⟩
    · rw [z]; exact st.i2.obj
  keep:=fun i h h' st k=>⟨k _ (by simp) _ st.zz,k _ (by simp) _ st.ti,let ⟨u,v,e⟩:=st.to; ⟨u,v,k _ (by simp) _ e⟩,st.i1.at fun o e=>k _ (by simp) o e,st.i2.keep fun o e=>k _ (by simp) o e⟩
  item:=by
    intro X hP hw hK hc i pins s σ H E I hf st hg
    subst hP hw hK
    obtain ⟨xs,ys,x,y,hq1,hq2,hx,hy⟩:=hg
    obtain ⟨its,rv,p,hz⟩:=I.tuple hq1
    obtain ⟨u,hu,ru⟩:=rv.get hx
    obtain ⟨jts,T2,rv2,D2,to2,of2⟩:=draws2 (tp:=true) I hc hq2 (ad_lt 1 hb)
    obtain ⟨v,hv,rw2⟩:=rv2.get hy
    have D1:=drawsTup (prog:=X.prog) (w:=X.w) (A:=X.A.in1) (show X.A.in1.handled=none from I.ok.hd hc) n a (ad_lt 0 ha) its.toArray
    obtain ⟨t0,t00,hTO⟩:=st.to
    have l1:i < its.toArray.size:=by have:=(List.getElem?_eq_some_iff.mp hu).1; simpa using this
    have l2:i < jts.length:=(List.getElem?_eq_some_iff.mp hv).1
    refine pyNext_zipD_item D1 D2 (side_new ha hb) st.zz st.ti hTO ⟨st.i1,p⟩ (to2 _ st.i2) l1 l2 fun x' y' h' tk px py a1 a2 a3 a4 a5 a6 hk=>?_
    have hx':x'=u:=by
      have:its[i]?=some x':=by simpa using px
      rw [hu] at this; exact (Option.some.inj this).symm
    have hy':y'=v:=by
      have:jts[i]?=some y':=py
      rw [hv] at this; exact (Option.some.inj this).symm
    subst hx' hy'
    refine ⟨_,rfl,wpAny_letOwnedTupleGo_zip a1 fun h2 hz2 hs2=>?_⟩
    have hTn:s.heap.get? s.heap.objs.size=none:=by
      cases g:s.heap.get? s.heap.objs.size with
      | none=>rfl
      | some o=>exact absurd (Heap.lt_size g) (Nat.lt_irrefl _)
    have hzl:n+4 < s.heap.objs.size:=Heap.lt_size st.zz
    have hT2:IsPair h2 s.heap.objs.size x' y':=(hs2.2 _ (Nat.ne_of_gt hzl)).trans a5
    have S:=side_new ha hb
    refine ⟨.ref s.heap.objs.size,upd H s.heap.objs.size (.tup [x,y]),I.turnedT (fp:=[n+4,n+2,n+3,n,n+1]) (h':=h2) (t':=tk) (fun c o hcf q=>?_) hf hTn ⟨by show 2≤sizeLine; decide,[x',y'],.cons ru (.cons rw2 .nil),⟨_,hT2,rfl,_,rfl⟩⟩,rfl,
      ⟨_,x,y,rfl,I.hok.free hTn,rfl,(fun zs hzs=>by rw [I.tuple_inj hzs hq1]; exact hx),(fun zs hzs=>by rw [I.tuple_inj hzs hq2]; exact hy)⟩,
      ⟨hz2,(hs2.2 _ S.TIz).trans (hk _ _ S.TIz S.TITO S.TIi1 S.TIi2 st.ti),⟨_,_,(hs2.2 _ S.TOz).trans a2⟩,a3.1.at fun o q=>(hs2.2 n S.i1z).trans q,(of2 _ _ a4).keep fun o q=>(hs2.2 (n+1) S.i2z).trans q⟩,fun c hcf=>?_⟩
    · have c1:c≠n+4:=fun z=>hcf (by simp [z])
      have c2:c≠n+3:=fun z=>hcf (by simp [z])
      have c3:c≠n:=fun z=>hcf (by simp [z])
      have c4:c≠n+1:=fun z=>hcf (by simp [z])
      exact (hs2.2 c c1).trans (hk c o c1 c2 c3 c4 q)
    · rw [upd_ne]
      · exact (hf c hcf).1
      · rintro rfl
        have hc':s.heap.objs.size=n+4∨s.heap.objs.size=n+2∨s.heap.objs.size=n+3∨s.heap.objs.size=n∨s.heap.objs.size=n+1:=by simpa using hcf
        omega
  done:=by
    intro X hP hw hK hc i pins s σ H E I hf st hg
    subst hP hw hK
    obtain ⟨xs,ys,hq1,hq2,hx⟩:=hg
    obtain ⟨its,rv,p,hz⟩:=I.tuple hq1
    obtain ⟨jts,T2,rv2,D2,to2,of2⟩:=draws2 (tp:=true) I hc hq2 (ad_lt 1 hb)
    have e1:=rv.length
    have e2:=rv2.length
    have D1:=drawsTup (prog:=X.prog) (w:=X.w) (A:=X.A.in1) (show X.A.in1.handled=none from I.ok.hd hc) n a (ad_lt 0 ha) its.toArray
    obtain ⟨t0,t00,hTO⟩:=st.to
    refine pyNext_zipD_end D1 D2 (side_new ha hb) st.zz st.ti hTO ⟨st.i1,p⟩ (to2 _ st.i2) (by rw [List.size_toArray]; omega) fun h' tk hk=>⟨rfl,I.turnedF (fp:=[n+4,n+2,n+3,n,n+1]) (fun c o hcf q=>?_) hf⟩
    exact hk c o (fun z=>hcf (by simp [z])) (fun z=>hcf (by simp [z])) (fun z=>hcf (by simp [z])) (fun z=>hcf (by simp [z])) q
  self:=fun A i s Q E st h=>wpAny_pyIter_zip st.zz h
section
variable {X:Cx}{elts:List Expr}{k:Nat}{tpos:Pos}
def iZipT (K:PySem.W.Frag) (ta:TA):TI:=fun σ H R=>ta σ H fun vs H1=>∃ a b xs ys,vs=[.ref a,.ref b]∧SqT K H1 a xs∧SqT K H1 b ys∧R (Itzz K a b) H1
theorem pi_zipT {e f:Expr}{ta:TA}{p pos:Pos} (hg:Gl X "zip") (hm:X.mg "zip" = none) (ha:PA X [e,f] ta) (hs:starEach [e,f] X.env=[(false,eval e X.env),(false,eval f X.env)]:=by rfl) (hs2:starEach [f] X.env=[(false,eval f X.env)]:=by rfl) :
    PI X (.Tuple elts k tpos) (.Call (.Name "zip" p) [e,f] [] pos) (iZipT X.K ta):=by
  intro pins s σ H R I h
  refine Call_ (ld_blt I hg hm boot_zip (PyProof.Rows.callWith_type1 (thn (ha pos pins s σ H _ I h) fun us s1 ⟨vs,H1,I1,r1,q1⟩=>?_) (by rw [hs,hs2]) (by rw [hs2]; rfl)))
  obtain ⟨a,b,xs,ys,rfl,hl,hb,q⟩:=q1
  cases r1 with
  | cons ra rr =>
  cases rr with
  | cons rb rn =>
  cases rn
  cases ra
  cases rb
  obtain ⟨its,rv,pa,hz⟩:=I1.tuple hl
  have fresh:∀ (h':Heap),(∀ c o,s1.heap.get? c=some o→h'.get? c=some o)→∀ c∈[s1.heap.objs.size+4,s1.heap.objs.size+2,s1.heap.objs.size+3,s1.heap.objs.size,s1.heap.objs.size+1],FpOk X pins H1 c:=fun h' hk c hc=>by
    have hc':s1.heap.objs.size≤c:=by
      have:c=s1.heap.objs.size+4∨c=s1.heap.objs.size+2∨c=s1.heap.objs.size+3∨c=s1.heap.objs.size∨c=s1.heap.objs.size+1:=by simpa using hc
      omega
    exact I1.fpOk hc' (I1.hok.fresh hc')
  have pa':s1.heap.IsTuple a its.toArray:=pa
  have la:a < s1.heap.objs.size:=let ⟨o,e,_⟩:=pa'; Heap.lt_size e
  obtain ⟨jts,rv2,pb,hz2⟩:=I1.tuple hb
  have pb':s1.heap.IsTuple b jts.toArray:=pb
  have lb:b < s1.heap.objs.size:=let ⟨o,e,_⟩:=pb'; Heap.lt_size e
  refine call_zip_tt pa' pb' fun h' a1 a2 a3 a4 a5 hk=>?_
  exact wpAny_pyIter_zip a1 ⟨_,[s1.heap.objs.size+4,s1.heap.objs.size+2,s1.heap.objs.size+3,s1.heap.objs.size,s1.heap.objs.size+1],_,_,H1,rfl,I1.kept (t':=s1.toks) hk,turn_zipT la lb,⟨a1,a2,⟨_,_,a3⟩,a4,a5⟩,fresh h' hk,q⟩
end
end L2
end
section
namespace L2
open PySem PySem.Spec PyProof.Rows
section
variable {X:Cx}
end
section
variable {prog:Program}{w:World}{A:Around}{E:Value→Shared→Prop}{s:Shared}
theorem getItem_tuple_all {t sl:Addr}{items:Array Value}{vl vu:Value}{lo hi:Option Int}{Q:Value→Shared→Prop} (ht:IsTup s.heap t items) (hs:s.heap.IsSliceOf sl vl vu .none) (pl:IsPart vl lo) (pu:IsPart vu hi)
    (hw:HT.sIx items.size 0 lo=0∧HT.sIx items.size items.size hi=items.size)
    (h:Q (.ref t) s)
    (hsz:items.size≤sizeLine):wpAny (model prog w) A (getItem (.ref t) (.ref sl)) Q E s:=by
  obtain ⟨os,hos,hcs,hds⟩:=id hs
  have hTs:s.TypeIs (.ref sl) "slice" := ⟨os,hos,hcs⟩
  unfold getItem
  try with_reducible refine wpAny_holding ?_
  first | refine wpAny_bind (wpAny_pure ?_) | skip
  refine wpAny_bind (wpAny_sequenceKey ht.typeIs (by decide) ?_)
  refine wpAny_bind (wpAny_callSpecial?_slot (name:=Str.ofString "__getitem__") ht.typeIs PyProof.Rows.slot_tuple_getitem
    (wpAny_call_entry PyProof.Rows.slot_tuple_getitem ht.typeIs entry_tuple_getitem ?_ (args_tuple_getitem _ _)))
  show wpAny _ _ (Builtin.Tuple.tupleItemsOf (.ref t) >>= _) _ _ s
  refine wpAny_bind (tupleItemsOf_ ht ?_)
  refine wpAny_bind (wpAny_typeOf hTs ?_)
  rw [if_pos (by decide)]
  refine wpAny_bind (HT.sliceApplied_gen hs pl pu ?_)
  rw [hw.1,hw.2]
  show wpAny _ _ (if (((0:Nat):Int) == 0 && (1:Int) == 1 && (items.size - 0) == items.size)=true then _ else _) _ _ s
  rw [if_pos (by simp)]
  unfold Builtin.Tuple.tupleIsExact
  refine wpAny_bind (wpAny_bind (wpAny_typeOf ht.typeIs (wpAny_pure ?_)))
  rw [if_pos (by decide)]
  exact wpAny_bind (wpAny_rule (wpAny_pure ⟨_,rfl,wpAny_pure h⟩))
end
section
variable {X:Cx}
def rSlTW (K:PySem.W.Frag):V→Option Int→Option Int→Hp→VK→Prop:=fun x lo hi H Q=>∃ a xs,x=.ref a∧SqT K H a xs∧(HT.sIx xs.length 0 lo=0∧HT.sIx xs.length xs.length hi=xs.length)∧Q (.ref a) H
theorem sl_tupW:SlR X (rSlTW X.K):=by
  intro pins s σ H x v vl vu lo hi sl Q I rx hs pl pu h
  obtain ⟨a,xs,rfl,hx,hw,q⟩:=h
  cases rx
  obtain ⟨its,r,ht,hz⟩:=I.tuple hx
  have hlen:its.toArray.size=xs.length:=by rw [List.size_toArray]; exact r.length.symm
  refine ⟨"tuple",_,PyProof.Rows.slot_tuple_getitem.lookup,ht.typeIs,?_⟩
  exact getItem_tuple_all ht hs pl pu (by rw [hlen]; exact hw) ⟨.ref a,H,I,rfl,q⟩ (by rw [hlen]; exact hz)
theorem op_catTT:OpR X (binaryOp .Add) (fun x y H Q=>∃ a b xs ys,x=.ref a∧y=.ref b∧H a=some (.tup xs)∧H b=some (.tup ys)∧xs.length+ys.length≤sizeLine∧∀ p H',Same H H'→H' p=some (.tup (xs++ys))→Q (.ref p) H'):=by
  intro pins s σ H x y v u Q I rx ry h
  obtain ⟨a,b,xs,ys,rfl,rfl,ha,hb,hz,q⟩:=h
  by_cases hx:xs=[]
  · subst hx
    exact op_catT0 pins s σ H _ _ v u Q I rx ry ⟨a,b,ys,rfl,rfl,.of ha,.of hb,q b H (Same.refl H) hb⟩
  · refine op_catT pins s σ H _ _ v u Q I rx ry ⟨a,b,xs,ys,rfl,rfl,.of ha,.of hb,hx,hz,fun hy=>q a H (Same.refl H) (by rw [hy,List.append_nil]; exact ha),fun _ p hp=>q p _ (Same.upd1 hp) upd_same⟩
theorem cutV_all {xs:List V}{lo hi:Option Int} (h:HT.sIx xs.length 0 lo=0∧HT.sIx xs.length xs.length hi=xs.length):cutV xs lo hi=xs:=by
  unfold cutV
  rw [h.1,h.2,List.drop_zero,Nat.sub_zero,List.take_length]
theorem sl_tupA:SlR X (fun x lo hi H Q=>∃ a xs,x=.ref a∧H a=some (.tup xs)∧∀ p H',Same H H'→H' p=some (.tup (cutV xs lo hi))→Q (.ref p) H'):=by
  intro pins s σ H x v vl vu lo hi sl Q I rx hs pl pu h
  obtain ⟨a,xs,rfl,ha,q⟩:=h
  by_cases hw:HT.sIx xs.length 0 lo=0∧HT.sIx xs.length xs.length hi=xs.length
  · exact sl_tupW pins s σ H _ v vl vu lo hi sl Q I rx hs pl pu ⟨a,xs,rfl,.of ha,hw,q a H (Same.refl H) (by rw [cutV_all hw]; exact ha)⟩
  · exact sl_tup pins s σ H _ v vl vu lo hi sl Q I rx hs pl pu ⟨a,xs,rfl,.of ha,hw,fun p hp=>q p _ (Same.upd1 hp) upd_same⟩
end
end L2
end
section
namespace Kn
open PySem L2
def risT (l:List S):Bool:=(l.zip (l.drop 1)).all fun p=>decide (p.1 < p.2)
def isEdgeD (d:PyData):Bool:=match d with
  | .str x=>decide (x.length=0) || (isNameD (.str x) && decide (x.length≤3))
  | _=>false
def txtD:PyData→S
  | .str x=>x.cps.toList
  | _=>[]
def isBarredD:PyData→Bool
  | .tuple ds=>decide (ds.length≤6) && (ds.all isNameD && risT (ds.map txtD))
  | _=>false
def isBoolD:PyData→Bool
  | .bool _=>true
  | _=>false
def intD:PyData→Int
  | .int i=>i
  | _=>0
def isWishD:PyData→Bool
  | .tuple [a,b,h,t,ba,to]=>(isWholeD 1 8 a && isWholeD (intD a) 8 b) && ((isEdgeD h && isEdgeD t) && (isBarredD ba && isBoolD to))
  | _=>false
section
variable {P:Program}{w:World}{K:PySem.W.Frag}{mg:Str→Option Value}{base:Heap}
structure CstW (mg:Str→Option Value):Prop where
  least:∃ t,mg "LEAST" = some (.int 0 t)
  most:∃ t,mg "MOST" = some (.int 1 t)
  head:∃ t,mg "HEAD" = some (.int 2 t)
  tail:∃ t,mg "TAIL" = some (.int 3 t)
  barred:∃ t,mg "BARRED" = some (.int 4 t)
  told:∃ t,mg "TOLD" = some (.int 5 t)
  parts:∃ t,mg "MANY_PARTS" = some (.int 6 t)
  edge:∃ t,mg "MOST_EDGE" = some (.int 3 t)
  mb:∃ t,mg "MOST_BARRED" = some (.int 6 t)
def spRisT:Sp:=fun vs H Q _=>∃ (a:Addr) (l:List S),vs=[.ref a]∧H a=some (.tup (bkV l))∧l.length≤100∧∀ H',Same H H'→Q (.bl (risT l)) H'
abbrev sRising:Stmt:=top 18
theorem scRising:FnScope ["things"] ["things"] (defScope sRising):=⟨rfl,rfl,rfl,by decide +kernel,rfl,by decide +kernel,by decide +kernel⟩
theorem ndRi:(["one", "other"]:List Str).Nodup:=by decide +kernel
theorem bkV_cut1 (l:List S):cutV (bkV l) (some 1) none=bkV (l.drop 1):=by
  unfold cutV
  have e:HT.sIx (bkV l).length 0 (some 1)=min 1 (bkV l).length:=HT.sIx_nat _ _ 1
  have e2:HT.sIx (bkV l).length (bkV l).length none=(bkV l).length:=rfl
  rw [e,e2]
  unfold bkV
  rw [List.map_drop,List.length_map]
  cases l with
  | nil=>rfl
  | cons x l =>
    rw [List.length_cons,Nat.min_eq_left (by omega)]
    rw [List.take_of_length_le (by rw [List.length_drop,List.length_map,List.length_cons]; omega)]
theorem bkV_get {l:List S}{i:Nat}{v:V} (h:(bkV l)[i]?=some v):∃ x,l[i]?=some x∧v=sv x:=by
  unfold bkV at h
  rw [List.getElem?_map] at h
  cases e:l[i]? with
  | none=>rw [e] at h; cases h
  | some x=>rw [e] at h; exact ⟨x,rfl,(Option.some.inj h).symm⟩
theorem ok_rising {f:Addr}{fd:FuncData} (F:Fun K "is_rising" "is_rising" sRising f fd) (B:Blt mg) (hz:mg "zip" = none):FnOk P w K mg base CX0 1 f fd ["things"] spRisT:=by
  refine F.ok scRising (fun vs H Q E h=>?_) (fun cdv A outer s H vs Q E hr h=>?_)
  · obtain ⟨a,l,rfl,_⟩:=h; rfl
  · obtain ⟨a,l,rfl,ha,h100,k⟩:=h
    refine ⟨_,pss_one (ps_ret (pe_callB (call_all rfl) (by rfl) B.all PyProof.Rows.boot_all (pa_cons (pe_comp (N:=["one", "other"]) (caps:=[]) rfl (compScope_of (by kernel_rfl)) (pi_zipT rfl hz (pa_cons (pv 0) (pa_cons (pe_slice sl_tupA (pv 0) (po_some pe_int) po_none) pa_nil)))
        (fun cl C s H ex=>pg_tupK K 2 rfl rfl (pgs_cons (pg_name (i:=0) ndRi rfl (Or.inl rfl)) (pgs_cons (pg_name (i:=1) ndRi rfl (Or.inl rfl)) pgs_nil)) rfl rfl)
        (fun cl C s H ex=>pf_nil)
        (fun cl C s H ex=>pe_cmpR op_lt_str (pv 0) (pv 1) (nomark _))) pa_nil))),?_⟩
    refine ⟨_,rfl,_,rfl,_,rfl,a,_,rfl,ha,fun b H1 t1 hb1=>?_⟩
    rw [bkV_cut1] at hb1
    have ha1:=t1 _ _ ha
    refine ⟨a,b,_,_,rfl,.of ha1,.of hb1,?_⟩
    have dl:(l.drop 1).length=l.length - 1:=by rw [List.length_drop]
    have bl:∀ l:List S,(bkV l).length=l.length:=fun l=>by unfold bkV; rw [List.length_map]
    refine comp_pairs (J:=Itzz K a b) (xs:=bkV l) (ys:=bkV (l.drop 1)) (len:=(l.drop 1).length) (Hk:=fun H'=>SqT K H' a (bkV l)∧SqT K H' b (bkV (l.drop 1)))
      (fun i H' hk hi=>⟨bkV l,bkV (l.drop 1),(bkV l)[i]'(by rw [bl]; omega),(bkV (l.drop 1))[i]'(by rw [bl]; exact hi),hk.1,hk.2,List.getElem?_eq_getElem _,List.getElem?_eq_getElem _⟩)
      (fun i H' hk e=>⟨bkV l,bkV (l.drop 1),hk.1,hk.2,by rw [bl,bl]; omega⟩)
      (fun i H' x H'' hk ⟨T,x1,y1,e1,e2,e3,e4,e5⟩=>⟨T,x1,y1,e1,e2,e3,e4 _ hk.1,e5 _ hk.2⟩)
      [] 2 (by omega) (fun i acc H'=>Same H1 H'∧acc=(((l.zip (l.drop 1)).take i).map fun p=>decide (p.1 < p.2)).map V.bl)
      ⟨Same.refl _,rfl⟩ (fun i acc H' hi h=>⟨⟨.of (h.1 _ _ ha1),.of (h.1 _ _ hb1)⟩,by rw [h.2,List.length_map,List.length_map,List.length_take]; omega⟩) ?_ ?_
    · rintro i x y T acc H' zs Nx hN hx hy hz' ⟨sm,rfl⟩ hT
      obtain ⟨z1,z2,rfl⟩:=ys2 hz'
      obtain ⟨n1,e1,rfl⟩:=bkV_get hx
      obtain ⟨n2,e2,rfl⟩:=bkV_get hy
      have t2:Same H' (upd H' T (.tup [sv n1,sv n2])):=Same.upd1 hT
      refine ⟨T,_,rfl,.of upd_same,rfl,_,_,rfl,_,_,rfl,rfl,?_⟩
      unfold tYes
      dsimp only
      rw [if_pos rfl]
      refine ⟨_,rfl,_,rfl,_,_,rfl,rfl,hN _ _ [_,_] rfl ⟨sm.trans t2,?_⟩⟩
      have ez:(l.zip (l.drop 1))[i]?=some (n1,n2):=by
        rw [List.getElem?_zip_eq_some]; exact ⟨e1,e2⟩
      rw [List.take_succ_eq_append_getElem (List.getElem?_eq_some_iff.mp ez).1,(List.getElem?_eq_some_iff.mp ez).2,List.map_append,List.map_append]
      rfl
    · rintro acc H' ⟨sm,rfl⟩ D hD
      have e:(l.zip (l.drop 1)).take (l.drop 1).length=l.zip (l.drop 1):=List.take_of_length_le (by rw [List.length_zip]; omega)
      rw [e]
      refine ⟨D,(l.zip (l.drop 1)).map fun p=>decide (p.1 < p.2),rfl,.of upd_same,?_⟩
      have e3:((l.zip (l.drop 1)).map fun p=>decide (p.1 < p.2)).all id=risT l:=by unfold risT; rw [List.all_map]; rfl
      rw [e3]
      exact k _ ((t1.trans sm).upd_new ((t1.trans sm).free hD))
def spEdge:Sp:=fun vs H Q _=>∃ v d,vs=[v]∧Thg H d v∧sml d=true∧SeqAt.shaped d=true∧∀ H',Same H H'→Q (.bl (isEdgeD d)) H'
abbrev sEdge:Stmt:=top 35
theorem scEdge:FnScope ["thing"] ["thing"] (defScope sEdge):=⟨rfl,rfl,rfl,by decide +kernel,rfl,by decide +kernel,by decide +kernel⟩
theorem str_empty {x:Str}:PyData.eqv (.str x) (.str ⟨#[]⟩)=decide (x.length=0):=by
  unfold PyData.eqv
  by_cases h:x.length=0
  · have:x=⟨#[]⟩:=MyS.Str_ext (by
      have h':x.cps.toList.length=0:=by simpa [Str.length] using h
      rw [List.length_eq_zero_iff.mp h'])
    subst this
    rfl
  · rw [decide_eq_false h]
    rw [beq_eq_false_iff_ne]
    intro e
    subst e
    exact h rfl
theorem eqv_other {d:PyData} (h:∀ x,d≠.str x):PyData.eqv d (.str ⟨#[]⟩)=false:=by
  cases d with
  | str x=>exact absurd rfl (h x)
  | _=>rfl
theorem empty_shaped:SeqAt.shaped (.str ⟨#[]⟩)=true:=by decide +kernel
theorem ok_edge {f:Addr}{fd:FuncData} (F:Fun K "is_edge" "is_edge" sEdge f fd) (B:Blt mg) (W:CstW mg) (cN:Cal P w K mg base 1 "is_name" ["thing"] spIsNameT):FnOk P w K mg base CX0 2 f fd ["thing"] spEdge:=by
  obtain ⟨t3,h3⟩:=W.edge
  refine F.ok scEdge (fun vs H Q E h=>?_) (fun cdv A outer s H vs Q E hr h=>?_)
  · obtain ⟨v,d,rfl,_⟩:=h; rfl
  · obtain ⟨v,d,rfl,hv,hs,hsh,k⟩:=h
    refine ⟨_,pss_one (ps_ret (pe_or (pe_cmpR (op_eqD hr.units) (pv 0) pe_str (nomark _)) (pe_one (pe_and (pe_cal cN hr rfl (pa_cons (pv 0) pa_nil)) (pe_one (pe_cmpR op_le (pe_callB call_len_str (by rfl) B.len PySem.boot_len (pa_cons (pv 0) pa_nil)) (pe_glob (v:=.int 3) (by rfl) h3 ⟨_,rfl⟩) (nomark _))))))),?_⟩
    refine ⟨_,rfl,d,.str ⟨#[]⟩,Thg.rep _ _ hv,rfl,hsh,empty_shaped,_,rfl,?_⟩
    rw [show (if false=true then !PyData.eqv d (.str ⟨#[]⟩) else PyData.eqv d (.str ⟨#[]⟩))=PyData.eqv d (.str ⟨#[]⟩) from rfl]
    cases d with
    | str x =>
      rw [str_empty]
      by_cases h0:x.length=0
      · have e:isEdgeD (.str x)=true:=by simp [isEdgeD,h0]
        rw [e] at k
        exact iteD h0 (k H (Same.refl H))
      · refine iteDF h0 ?_
        refine ⟨_,rfl,v,_,rfl,hv,hs,fun H' sm=>?_⟩
        cases (show v=.str x from hv)
        refine ⟨_,rfl,?_⟩
        cases hn:isNameD (.str x) with
        | false =>
          have e:isEdgeD (.str x)=false:=by simp [isEdgeD,h0,hn]
          rw [e] at k
          exact iteF (k H' sm)
        | true =>
          refine iteT ?_
          refine ⟨_,rfl,x,rfl,?_,_,_,rfl,rfl,?_⟩
          · simp only [sml,Bool.and_eq_true,decide_eq_true_eq] at hs
            rw [sizeLine_eq]; omega
          · have e:isEdgeD (.str x)=decide (x.length≤3):=by simp [isEdgeD,h0,hn]
            have e2:decide ((x.length:Int)≤3)=decide (x.length≤3):=decide_eq_decide.mpr (by omega)
            rw [e,← e2] at k
            exact k H' sm
    | _ =>
      rw [eqv_other (by intro x; simp)]
      refine iteF ⟨_,rfl,v,_,rfl,hv,hs,fun H' sm=>⟨_,rfl,iteF (k H' sm)⟩⟩
def spBarred:Sp:=fun vs H Q _=>∃ v d,vs=[v]∧Thg H d v∧sml d=true∧∀ H',Same H H'→Q (.bl (isBarredD d)) H'
abbrev sBarred:Stmt:=top 36
theorem scBarred:FnScope ["thing"] ["thing"] (defScope sBarred):=⟨rfl,rfl,rfl,by decide +kernel,rfl,by decide +kernel,by decide +kernel⟩
theorem ndBa:(["name"]:List Str).Nodup:=by decide +kernel
theorem names_inv:∀ {ds:List PyData},(∀ d∈ds,isNameD d=true)→∃ bk:List S,ds=bk.map (fun x=>PyData.str (tx x))∧∀ x∈bk,isNm x
  | [],_=>⟨[],rfl,by simp⟩
  | d::ds,hd=>by
    obtain ⟨x,rfl,hx⟩:=isNameD_inv (hd d (List.mem_cons_self ..))
    obtain ⟨bk,rfl,hb⟩:=names_inv fun e he=>hd e (List.mem_cons_of_mem _ he)
    refine ⟨x::bk,rfl,fun y hy=>?_⟩
    rcases List.mem_cons.mp hy with z | z
    · rw [z]; exact hx
    · exact hb y z
theorem ok_barred {f:Addr}{fd:FuncData} (F:Fun K "is_barred" "is_barred" sBarred f fd) (B:Blt mg) (KF:KitF K) (W:CstW mg) (cN:Cal P w K mg base 1 "is_name" ["thing"] spIsNameT) (cR:Cal P w K mg base 1 "is_rising" ["things"] spRisT):FnOk P w K mg base CX0 2 f fd ["thing"] spBarred:=by
  obtain ⟨t6,h6⟩:=W.mb
  refine F.ok scBarred (fun vs H Q E h=>?_) (fun cdv A outer s H vs Q E hr h=>?_)
  · obtain ⟨v,d,rfl,_⟩:=h; rfl
  · obtain ⟨v,d,rfl,hv,hs,k⟩:=h
    refine ⟨_,pss_cons (ps_if (PW.pt (pw_or (pt_not (pt_val (pe_callB call_isinst (by rfl) B.isinstance PyProof.Rows.boot_isinstance (pa_cons (pv 0) (pa_cons (pe_bltn (v:=.ty "tuple") (by rfl) B.tuple PyProof.Rows.boot_tuple rfl) pa_nil)))))
        (pw_or1 (pt_cmpR op_gt (pe_callB call_len_seq (by rfl) B.len PySem.boot_len (pa_cons (pv 0) pa_nil)) (pe_glob (v:=.int 6) (by rfl) h6 ⟨_,rfl⟩) (nomark _)))))
        (pss_one (ps_ret pe_bl)) pss_nil)
      (pss_one (ps_ret (pe_and (pe_callB (call_all rfl) (by rfl) B.all PyProof.Rows.boot_all (pa_cons (pe_comp (N:=["name"]) (caps:=[]) rfl (compScope_of (by kernel_rfl)) (pi_tup (pv 0))
        (fun cl C s H ex=>pg_name (i:=0) ndBa rfl (Or.inl rfl)) (fun cl C s H ex=>pf_nil)
        (fun cl C s H ex=>pe_cal cN hr rfl (pa_cons (pv 0) pa_nil))) pa_nil)) (pe_one (pe_cal cR hr rfl (pa_cons (pv 0) pa_nil)))))),?_⟩
    obtain ⟨t,b,hty,hkit,hb⟩:=ty_tup KF hv
    refine ⟨_,rfl,_,_,t,b,rfl,hty,hkit,b,rfl,?_⟩
    cases b with
    | false =>
      have hd:isBarredD d=false:=by
        cases d with
        | tuple x=>exact absurd (hb.mpr ⟨x,rfl⟩) (by decide)
        | _=>rfl
      rw [hd] at k
      exact iteT (iteT (k H (Same.refl H)))
    | true =>
      obtain ⟨ds,rfl⟩:=hb.mp rfl
      obtain ⟨a,xs,rfl,ha,hxs⟩:=hv
      have hsx:ds.length≤900∧smls ds=true:=by
        simp only [sml,Bool.and_eq_true,decide_eq_true_eq] at hs
        exact hs
      have hxl:xs.length=ds.length:=hxs.length.symm
      refine iteF ?_
      refine ⟨_,rfl,_,_,rfl,.inr (.of ha),_,_,rfl,rfl,_,rfl,?_⟩
      by_cases h2:ds.length≤6
      · refine iteDF (by rw [hxl]; omega) ?_
        refine ⟨_,rfl,a,rfl,⟨_,.of ha⟩,?_⟩
        refine comp_known0 (known_tup _ a xs) [] 1 (by omega) (fun i acc H'=>Same H H'∧acc=((ds.take i).map isNameD).map V.bl) ⟨Same.refl H,rfl⟩ (fun i acc H' _ h=>⟨.of (h.1 _ _ ha),by rw [h.2,List.length_map,List.length_map,List.length_take]; omega⟩) ?_ ?_
        · rintro i y acc H' ys Nx hN hx hy ⟨sm,rfl⟩
          obtain ⟨y',rfl⟩:=ys1 hy
          obtain ⟨e,he,hye⟩:=hxs.get hx
          have hi:i < ds.length:=(List.getElem?_eq_some_iff.mp he).1
          refine ⟨_,rfl,y,e,rfl,Thg.same sm _ _ hye,smls_mem hsx.2 (List.mem_of_getElem? he),fun H5 sm5=>hN _ _ [some y] rfl ⟨sm.trans sm5,?_⟩⟩
          rw [List.take_succ_eq_append_getElem hi,(List.getElem?_eq_some_iff.mp he).2,List.map_append,List.map_append]; rfl
        · rintro acc H' ⟨sm,rfl⟩ D hD
          rw [hxl,List.take_length]
          refine ⟨D,_,rfl,.of upd_same,_,rfl,?_⟩
          have sm2:=sm.upd_new (o:=.lst ((ds.map isNameD).map V.bl)) (sm.free hD)
          have e2:((ds.map isNameD).all id)=ds.all isNameD:=by rw [List.all_map]; rfl
          rw [e2]
          cases hn:ds.all isNameD with
          | false =>
            have e:isBarredD (.tuple ds)=false:=by simp only [isBarredD,hn,Bool.false_and,Bool.and_false]
            rw [e] at k
            exact iteF (k _ sm2)
          | true =>
            obtain ⟨bk,rfl,hbk⟩:=names_inv (fun d hd=>List.all_eq_true.mp hn d hd)
            have ha2:=sm2 _ _ ha
            rw [Thgs.strs_inv hxs] at ha2
            refine iteT ?_
            rw [List.length_map] at h2
            refine ⟨_,rfl,a,bk,rfl,ha2,by omega,fun H6 sm6=>?_⟩
            have e:isBarredD (.tuple (bk.map fun x=>PyData.str (tx x)))=risT bk:=by
              have e3:(bk.map fun x=>PyData.str (tx x)).map txtD=bk:=by
                rw [List.map_map]
                conv=>rhs; rw [← List.map_id bk]
                refine List.map_congr_left fun x _=>?_
                show (tx x).cps.toList=x
                rw [tx_cps]
              simp only [isBarredD,hn,e3,List.length_map,decide_eq_true h2,Bool.true_and]
            rw [e] at k
            exact k _ (sm2.trans sm6)
      · have hd:isBarredD (.tuple ds)=false:=by simp [isBarredD,h2]
        rw [hd] at k
        exact iteD (by rw [hxl]; omega) (k H (Same.refl H))
end
end Kn
end
section
namespace Kn
open PySem L2
structure KitB (K:PySem.W.Frag):Prop where
  nb:PySem.W.kitOne K (.type "NoneType") (.type "bool")=some false
  sb:PySem.W.kitOne K (.type "str") (.type "bool")=some false
  lb:PySem.W.kitOne K (.type "list") (.type "bool")=some false
  tb:PySem.W.kitOne K (.type "tuple") (.type "bool")=some false
theorem canLay_mem:∀ {ds:List PyData}{d:PyData},PyData.canLayAll0 ds=true→d∈ds→d.canLay0=true
  | e::ds,d,h,hm=>by
    simp only [PyData.canLayAll0,Bool.and_eq_true] at h
    rcases List.mem_cons.mp hm with z | z
    · rw [z]; exact h.1
    · exact canLay_mem h.2 z
theorem depth_mem:∀ {ds:List PyData}{d:PyData},d∈ds→d.depth≤PyData.depthAll ds
  | e::ds,d,hm=>by
    simp only [PyData.depthAll]
    rcases List.mem_cons.mp hm with z | z
    · rw [z]; omega
    · have:=depth_mem z; omega
theorem shaped_part {ds:List PyData}{d:PyData} (h:SeqAt.shaped (.tuple ds)=true) (hm:d∈ds):SeqAt.shaped d=true:=by
  have h0:=SeqAt.canLay_of_shaped h
  have h3:=SeqAt.depth_of_shaped h
  have h4:(PyData.tuple ds).depth=PyData.depthAll ds+1:=by simp only [PyData.depth]
  have h1:=canLay_mem (show PyData.canLayAll0 ds=true by simpa only [PyData.canLay0] using h0) hm
  have h2:=depth_mem hm
  rw [h4] at h3
  unfold SeqAt.shaped
  rw [h1,decide_eq_true (show d.depth≤64 by omega)]; rfl
section
variable {P:Program}{w:World}{K:PySem.W.Frag}{mg:Str→Option Value}{base:Heap}
theorem ty_bool (KB:KitB K) (C:Cst K mg) {H:Hp}:∀ {d:PyData}{v:V},Thg H d v→∃ t,TyOf K H v t∧PySem.W.kitOne K t (.type "bool")=some (isBoolD d)
  | .none,v,h=>by cases (show v=.non from h); exact ⟨_,.non,KB.nb⟩
  | .bool b,v,h=>by cases (show v=.bl b from h); exact ⟨_,.bl _,rfl⟩
  | .int i,v,h=>by cases (show v=.int i from h); exact ⟨_,.int _,C.ib⟩
  | .str x,v,h=>by cases (show v=.str x from h); exact ⟨_,.str _,KB.sb⟩
  | .list ds,v,h=>by obtain ⟨a,xs,rfl,h1,_⟩:=h; exact ⟨_,.lst h1,KB.lb⟩
  | .tuple ds,v,h=>by obtain ⟨a,xs,rfl,h1,_⟩:=h; exact ⟨_,.tup h1,KB.tb⟩
  | .dict _,v,h=>h.elim
def spWish:Sp:=fun vs H Q _=>∃ v d,vs=[v]∧Thg H d v∧sml d=true∧SeqAt.shaped d=true∧∀ H',Same H H'→Q (.bl (isWishD d)) H'
abbrev sWish:Stmt:=top 37
theorem scWish:FnScope ["thing"] ["thing"] (defScope sWish):=⟨rfl,rfl,rfl,by decide +kernel,rfl,by decide +kernel,by decide +kernel⟩
theorem wish_len {ds:List PyData} (h:ds.length≠6):isWishD (.tuple ds)=false:=by
  match ds,h with
  | [],_=>rfl
  | [_],_=>rfl
  | [_,_],_=>rfl
  | [_,_,_],_=>rfl
  | [_,_,_,_],_=>rfl
  | [_,_,_,_,_],_=>rfl
  | [_,_,_,_,_,_],h=>exact absurd rfl h
  | _::_::_::_::_::_::_::_,_=>rfl
theorem six {α:Type}{l:List α} (h:l.length=6):∃ a b c d e f,l=[a,b,c,d,e,f]:=by
  match l,h with
  | [a,b,c,d,e,f],_=>exact ⟨a,b,c,d,e,f,rfl⟩
theorem whole_int {a b:Int}{d:PyData} (h:isWholeD a b d=true):∃ i,d=.int i∧a≤i∧i≤b:=by
  cases d with
  | int i=>simp only [isWholeD,Bool.and_eq_true,decide_eq_true_eq] at h; exact ⟨i,rfl,h⟩
  | _=>cases h
theorem ok_wish {f:Addr}{fd:FuncData} (F:Fun K "is_wish" "is_wish" sWish f fd) (B:Blt mg) (C:Cst K mg) (KF:KitF K) (KB:KitB K) (W:CstW mg) (cW:Cal P w K mg base 1 "is_whole" ["thing", "least", "most"] spIsWholeT) (cE:Cal P w K mg base 2 "is_edge" ["thing"] spEdge) (cB:Cal P w K mg base 2 "is_barred" ["thing"] spBarred):FnOk P w K mg base CX0 3 f fd ["thing"] spWish:=by
  obtain ⟨u0,h0⟩:=W.least
  obtain ⟨u1,h1⟩:=W.most
  obtain ⟨u2,h2⟩:=W.head
  obtain ⟨u3,h3⟩:=W.tail
  obtain ⟨u4,h4⟩:=W.barred
  obtain ⟨u5,h5⟩:=W.told
  obtain ⟨u6,h6⟩:=W.parts
  obtain ⟨u8,h8⟩:=C.ml
  refine F.ok scWish (fun vs H Q E h=>?_) (fun cdv A outer s H vs Q E hr h=>?_)
  · obtain ⟨v,d,rfl,_⟩:=h; rfl
  · obtain ⟨v,d,rfl,hv,hs,hsh,k⟩:=h
    have r1:=hr.mono (j:=1) (by decide)
    refine ⟨_,pss_cons (ps_if (PW.pt (pw_or (pt_not (pt_val (pe_callB call_isinst (by rfl) B.isinstance PyProof.Rows.boot_isinstance (pa_cons (pv 0) (pa_cons (pe_bltn (v:=.ty "tuple") (by rfl) B.tuple PyProof.Rows.boot_tuple rfl) pa_nil)))))
        (pw_or1 (pt_cmpR op_ne (pe_callB call_len_seq (by rfl) B.len PySem.boot_len (pa_cons (pv 0) pa_nil)) (pe_glob (v:=.int 6) (by rfl) h6 ⟨_,rfl⟩) (nomark _)))))
        (pss_one (ps_ret pe_bl)) pss_nil)
      (pss_cons (ps_if (PW.pt (pw_or (pt_not (pt_val (pe_cal cW r1 rfl (pa_cons (pe_ix ix_tup (pv 0) (pe_glob (v:=.int 0) (by rfl) h0 ⟨_,rfl⟩) (fun _ _=>rfl)) (pa_cons pe_int (pa_cons (pe_glob (v:=.int 8) (by rfl) h8 ⟨_,rfl⟩) pa_nil))))))
          (pw_or1 (pt_not (pt_val (pe_cal cW r1 rfl (pa_cons (pe_ix ix_tup (pv 0) (pe_glob (v:=.int 1) (by rfl) h1 ⟨_,rfl⟩) (fun _ _=>rfl)) (pa_cons (pe_ix ix_tup (pv 0) (pe_glob (v:=.int 0) (by rfl) h0 ⟨_,rfl⟩) (fun _ _=>rfl)) (pa_cons (pe_glob (v:=.int 8) (by rfl) h8 ⟨_,rfl⟩) pa_nil)))))))))
        (pss_one (ps_ret pe_bl)) pss_nil)
      (pss_cons (ps_if (PW.pt (pw_or (pt_not (pt_val (pe_cal cE hr rfl (pa_cons (pe_ix ix_tup (pv 0) (pe_glob (v:=.int 2) (by rfl) h2 ⟨_,rfl⟩) (fun _ _=>rfl)) pa_nil))))
          (pw_or1 (pt_not (pt_val (pe_cal cE hr rfl (pa_cons (pe_ix ix_tup (pv 0) (pe_glob (v:=.int 3) (by rfl) h3 ⟨_,rfl⟩) (fun _ _=>rfl)) pa_nil)))))))
        (pss_one (ps_ret pe_bl)) pss_nil)
      (pss_one (ps_ret (pe_and (pe_cal cB hr rfl (pa_cons (pe_ix ix_tup (pv 0) (pe_glob (v:=.int 4) (by rfl) h4 ⟨_,rfl⟩) (fun _ _=>rfl)) pa_nil))
        (pe_one (pe_callB call_isinst (by rfl) B.isinstance PyProof.Rows.boot_isinstance (pa_cons (pe_ix ix_tup (pv 0) (pe_glob (v:=.int 5) (by rfl) h5 ⟨_,rfl⟩) (fun _ _=>rfl)) (pa_cons (pe_bltn (v:=.ty "bool") (by rfl) B.bool PyProof.Rows.boot_bool rfl) pa_nil))))))))),?_⟩
    obtain ⟨t,b,hty,hkit,hb⟩:=ty_tup KF hv
    refine ⟨_,rfl,_,_,t,b,rfl,hty,hkit,b,rfl,?_⟩
    cases b with
    | false =>
      have hd:isWishD d=false:=by
        cases d with
        | tuple x=>exact absurd (hb.mpr ⟨x,rfl⟩) (by decide)
        | _=>rfl
      rw [hd] at k
      exact iteT (iteT (k H (Same.refl H)))
    | true =>
      obtain ⟨ds,rfl⟩:=hb.mp rfl
      obtain ⟨a,xs,rfl,ha,hxs⟩:=hv
      have hsx:ds.length≤900∧smls ds=true:=by
        simp only [sml,Bool.and_eq_true,decide_eq_true_eq] at hs
        exact hs
      have hxl:xs.length=ds.length:=hxs.length.symm
      refine iteF ?_
      refine ⟨_,rfl,_,_,rfl,.inr (.of ha),rfl,_,rfl,?_⟩
      by_cases hl:ds.length=6
      · refine iteNS (by rw [hxl,hl]; rfl) ?_
        obtain ⟨a0,a1,a2,a3,a4,a5,rfl⟩:=six hl
        obtain ⟨y0,ys0,rfl,q0,hxs⟩:=hxs
        obtain ⟨y1,ys1,rfl,q1,hxs⟩:=hxs
        obtain ⟨y2,ys2,rfl,q2,hxs⟩:=hxs
        obtain ⟨y3,ys3,rfl,q3,hxs⟩:=hxs
        obtain ⟨y4,ys4,rfl,q4,hxs⟩:=hxs
        obtain ⟨y5,ys5,rfl,q5,hxs⟩:=hxs
        cases (show ys5=[] from hxs)
        have sm_:∀ d∈[a0,a1,a2,a3,a4,a5],sml d=true:=fun d hd=>smls_mem hsx.2 hd
        have sh_:∀ d∈[a0,a1,a2,a3,a4,a5],SeqAt.shaped d=true:=fun d hd=>shaped_part hsh hd
        refine ⟨_,rfl,a,_,0,y0,rfl,rfl,.of ha,rfl,y0,a0,1,8,rfl,q0,_,rfl,?_⟩
        cases e0:isWholeD 1 8 a0 with
        | false =>
          have e:isWishD (.tuple [a0,a1,a2,a3,a4,a5])=false:=by simp only [isWishD,e0,Bool.false_and]
          rw [e] at k
          exact iteT (iteT (k H (Same.refl H)))
        | true =>
        obtain ⟨i0,rfl,l0,l1⟩:=whole_int e0
        cases (show y0=.int i0 from q0)
        refine iteF ?_
        refine ⟨_,rfl,a,_,1,y1,rfl,rfl,.of ha,rfl,_,rfl,a,_,0,.int i0,rfl,rfl,.of ha,rfl,y1,a1,i0,8,rfl,q1,_,rfl,?_⟩
        cases e1:isWholeD i0 8 a1 with
        | false =>
          have e:isWishD (.tuple [.int i0,a1,a2,a3,a4,a5])=false:=by simp only [isWishD,intD,e1,Bool.false_and,Bool.and_false]
          rw [e] at k
          exact iteT (k H (Same.refl H))
        | true =>
        refine iteF ?_
        refine ⟨_,rfl,a,_,2,y2,rfl,rfl,.of ha,rfl,y2,a2,rfl,q2,sm_ a2 (by simp),sh_ a2 (by simp),fun H1 s1=>⟨_,rfl,?_⟩⟩
        cases e2:isEdgeD a2 with
        | false =>
          have e:isWishD (.tuple [.int i0,a1,a2,a3,a4,a5])=false:=by simp only [isWishD,e2,Bool.false_and,Bool.and_false]
          rw [e] at k
          exact iteT (iteT (k H1 s1))
        | true =>
        refine iteF ?_
        refine ⟨_,rfl,a,_,3,y3,rfl,rfl,.of (s1 _ _ ha),rfl,y3,a3,rfl,Thg.same s1 _ _ q3,sm_ a3 (by simp),sh_ a3 (by simp),fun H2 s2=>⟨_,rfl,?_⟩⟩
        have s12:=s1.trans s2
        cases e3:isEdgeD a3 with
        | false =>
          have e:isWishD (.tuple [.int i0,a1,a2,a3,a4,a5])=false:=by simp only [isWishD,e3,Bool.false_and,Bool.and_false]
          rw [e] at k
          exact iteT (k H2 s12)
        | true =>
        refine iteF ?_
        refine ⟨_,rfl,a,_,4,y4,rfl,rfl,.of (s12 _ _ ha),rfl,y4,a4,rfl,Thg.same s12 _ _ q4,sm_ a4 (by simp),fun H3 s3=>⟨_,rfl,?_⟩⟩
        have s13:=s12.trans s3
        cases e4:isBarredD a4 with
        | false =>
          have e:isWishD (.tuple [.int i0,a1,a2,a3,a4,a5])=false:=by simp only [isWishD,e4,Bool.false_and,Bool.and_false]
          rw [e] at k
          exact iteF (k H3 s13)
        | true =>
        refine iteT ?_
        obtain ⟨t5,ht5,hk5⟩:=ty_bool KB C (Thg.same s13 _ _ q5)
        refine ⟨_,rfl,a,_,5,y5,rfl,rfl,.of (s13 _ _ ha),rfl,_,_,t5,_,rfl,ht5,hk5,?_⟩
        have e:isWishD (.tuple [.int i0,a1,a2,a3,a4,a5])=isBoolD a5:=by simp only [isWishD,intD,e0,e1,e2,e3,e4,Bool.true_and]
        rw [e] at k
        exact k H3 s13
      · have e:isWishD (.tuple ds)=false:=wish_len hl
        rw [e] at k
        refine ite_nn ?_ (k H (Same.refl H))
        intro z
        injection z with z
        rw [hxl] at z
        omega
end
end Kn
end
section
namespace Kn
open PySem L2
def wishD (lo hi:Int) (hd tl:S) (ba:List S) (to:Bool):PyData:=.tuple [.int lo,.int hi,.str (tx hd),.str (tx tl),.tuple (ba.map fun x=>PyData.str (tx x)),.bool to]
structure GW (lo hi:Int) (hd tl:S) (ba:List S):Prop where
  glo:1≤lo
  gle:lo≤hi
  ghi:hi≤8
  ghd:hd=[]∨(isNm hd∧hd.length≤3)
  gtl:tl=[]∨(isNm tl∧tl.length≤3)
  len:ba.length≤6
  nm:∀ x∈ba,isNm x
  ris:risT ba=true
theorem edge_inv {d:PyData} (h:isEdgeD d=true):∃ x:S,d=.str (tx x)∧(x=[]∨(isNm x∧x.length≤3)):=by
  cases d with
  | str x =>
    simp only [isEdgeD,Bool.or_eq_true,Bool.and_eq_true,decide_eq_true_eq] at h
    rcases h with h | ⟨h,h2⟩
    · refine ⟨[],?_,.inl rfl⟩
      congr 1
      refine MyS.Str_ext ?_
      have h':x.cps.toList.length=0:=by simpa [Str.length] using h
      rw [List.length_eq_zero_iff.mp h']
    · obtain ⟨y,e,hy⟩:=isNameD_inv h
      injection e with e
      subst e
      exact ⟨y,rfl,.inr ⟨hy,by rw [tx_len] at h2; exact h2⟩⟩
  | _=>cases h
theorem barred_inv {d:PyData} (h:isBarredD d=true):∃ ba:List S,d=.tuple (ba.map fun x=>PyData.str (tx x))∧ba.length≤6∧(∀ x∈ba,isNm x)∧risT ba=true:=by
  cases d with
  | tuple ds =>
    simp only [isBarredD,Bool.and_eq_true,decide_eq_true_eq] at h
    obtain ⟨h1,h2,h3⟩:=h
    obtain ⟨bk,rfl,hb⟩:=names_inv (fun d hd=>List.all_eq_true.mp h2 d hd)
    have e3:(bk.map fun x=>PyData.str (tx x)).map txtD=bk:=by
      rw [List.map_map]
      conv=>rhs; rw [← List.map_id bk]
      refine List.map_congr_left fun x _=>?_
      show (tx x).cps.toList=x
      rw [tx_cps]
    rw [e3] at h3
    rw [List.length_map] at h1
    exact ⟨bk,rfl,h1,hb,h3⟩
  | _=>cases h
theorem wish_inv {d:PyData} (h:isWishD d=true):∃ lo hi hd tl ba to,d=wishD lo hi hd tl ba to∧GW lo hi hd tl ba:=by
  cases d with
  | tuple ds =>
    by_cases hl:ds.length=6
    · obtain ⟨a0,a1,a2,a3,a4,a5,rfl⟩:=six hl
      simp only [isWishD,Bool.and_eq_true] at h
      obtain ⟨⟨h0,h1⟩,⟨h2,h3⟩,h4,h5⟩:=h
      obtain ⟨i0,rfl,l0,l1⟩:=whole_int h0
      obtain ⟨i1,rfl,l2,l3⟩:=whole_int h1
      obtain ⟨x2,rfl,e2⟩:=edge_inv h2
      obtain ⟨x3,rfl,e3⟩:=edge_inv h3
      obtain ⟨ba,rfl,b1,b2,b3⟩:=barred_inv h4
      cases a5 with
      | bool b=>exact ⟨i0,i1,x2,x3,ba,b,rfl,⟨l0,l2,l3,e2,e3,b1,b2,b3⟩⟩
      | _=>cases h5
    · rw [wish_len hl] at h; cases h
  | _=>cases h
def WishAt (H:Hp) (a:Addr) (lo hi:Int) (hd tl:S) (ba:List S) (to:Bool):Prop:=∃ b,H a=some (.tup [.int lo,.int hi,sv hd,sv tl,.ref b,.bl to])∧H b=some (.tup (bkV ba))
theorem WishAt.same {H H':Hp}{a:Addr}{lo hi:Int}{hd tl:S}{ba:List S}{to:Bool} (h:WishAt H a lo hi hd tl ba to) (e:Same H H'):WishAt H' a lo hi hd tl ba to :=
  let ⟨b,h1,h2⟩:=h; ⟨b,e _ _ h1,e _ _ h2⟩
theorem thg_wish {H:Hp}{v:V}{lo hi:Int}{hd tl:S}{ba:List S}{to:Bool} (h:Thg H (wishD lo hi hd tl ba to) v):∃ a,v=.ref a∧WishAt H a lo hi hd tl ba to:=by
  obtain ⟨a,xs,rfl,h1,h2⟩:=h
  obtain ⟨y0,ys0,rfl,q0,h2⟩:=h2
  obtain ⟨y1,ys1,rfl,q1,h2⟩:=h2
  obtain ⟨y2,ys2,rfl,q2,h2⟩:=h2
  obtain ⟨y3,ys3,rfl,q3,h2⟩:=h2
  obtain ⟨y4,ys4,rfl,q4,h2⟩:=h2
  obtain ⟨y5,ys5,rfl,q5,h2⟩:=h2
  cases (show ys5=[] from h2)
  cases (show y0=.int lo from q0)
  cases (show y1=.int hi from q1)
  cases (show y2=.str (tx hd) from q2)
  cases (show y3=.str (tx tl) from q3)
  cases (show y5=.bl to from q5)
  obtain ⟨b,xs4,rfl,h4,h5⟩:=q4
  rw [Thgs.strs_inv h5] at h4
  exact ⟨a,rfl,b,h1,h4⟩
def formB (lo hi:Int) (hd tl x:S):Bool:=(decide (lo≤(x.length:Int)) && decide ((x.length:Int)≤hi)) && (Txt.startswith (tx x) (tx hd) && Txt.endswith (tx x) (tx tl))
def outB (bk ba:List S) (to:Bool) (x:S):Bool:=decide (x∈ba) || (!to && decide (x∈bk))
def fitsB (bk:List S) (lo hi:Int) (hd tl:S) (ba:List S) (to:Bool) (x:S):Bool:=formB lo hi hd tl x && !outB bk ba to x
theorem mt_startswith {X:Cx}:MtR X "str.startswith" (fun x vs H Q=>∃ a b:Str,x=.str a∧vs=[.str b]∧Q (.bl (Txt.startswith a b)) H):=by
  intro pins s σ H x vs v us Q I rx rv h
  obtain ⟨a,b,rfl,rfl,q⟩:=h
  obtain ⟨t,rfl⟩:=rx
  obtain ⟨u,rfl,ru⟩:=vals1 rv
  obtain ⟨t',rfl⟩:=ru
  exact SC.startswith ⟨.bl _,H,I,rfl,q⟩
theorem inV_bk (x:S) (l:List S):inV (sv x) (bkV l)=decide (x∈l):=by
  unfold inV bkV
  rw [List.any_map]
  induction l with
  | nil=>simp
  | cons y l ih =>
    rw [List.any_cons,ih]
    have e:eqV (sv y) (sv x)=decide (x=y):=by
      show ((tx y) == (tx x))=_
      by_cases z:x=y
      · subst z; simp
      · rw [decide_eq_false z,beq_eq_false_iff_ne]
        exact fun q=>z (tx_inj q).symm
    show (eqV (sv y) (sv x) || _)=_
    rw [e]
    by_cases z:x=y
    · subst z; simp
    · simp [z]
theorem flat_bk (l:List S):(bkV l).all flatV=true:=by
  unfold bkV
  rw [List.all_map]
  exact List.all_eq_true.mpr fun _ _=>rfl
section
variable {P:Program}{w:World}{K:PySem.W.Frag}{mg:Str→Option Value}{base:Heap}
abbrev sNeedWish:Stmt:=top 38
theorem scNeedWish:FnScope ["thing"] ["thing"] (defScope sNeedWish):=⟨rfl,rfl,rfl,by decide +kernel,rfl,by decide +kernel,by decide +kernel⟩
def spRefW (C:Addr):Sp:=fun vs H Q E=>∃ v d,vs=[v]∧Thg H d v∧sml d=true∧SeqAt.shaped d=true∧(isWishD d=true→∀ H',Same H H'→Q .non H')∧(isWishD d=false→∀ H',Same H H'→E (.ref C) none H')
theorem ok_needwish {f:Addr}{fd:FuncData}{C:Addr} (F:Fun K "need_wish" "need_wish" sNeedWish f fd) (O:XCls K mg "NoWish" C) (c1:Cal P w K mg base 3 "is_wish" ["thing"] spWish):FnOk P w K mg base (CXr P w) 4 f fd ["thing"] (spRefW C):=by
  refine F.okR scNeedWish (fun vs H Q E h=>?_) (fun cdv A outer s H vs Q E hr h ok=>?_)
  · obtain ⟨v,d,rfl,_⟩:=h; rfl
  · obtain ⟨v,d,rfl,hv,hs,hsh,k1,k2⟩:=h
    refine ⟨_,pss_one (ps_if (pt_not (pt_val (pe_cal c1 hr rfl (pa_cons (pv 0) pa_nil)))) (pss_one (ps_raise ok rfl O (by rfl) (pa_cons pe_str pa_nil))) pss_nil),?_⟩
    refine ⟨_,rfl,v,d,rfl,hv,hs,hsh,fun H' sm=>⟨_,rfl,?_⟩⟩
    cases e:isWishD d with
    | true=>exact iteF (k1 e H' sm)
    | false=>exact iteT ⟨by show 1≤sizeLine; decide,k2 e H' sm⟩
def spForm:Sp:=fun vs H Q _=>∃ (a:Addr) (lo hi:Int) (hd tl:S) (ba:List S) (to:Bool) (x:S),vs=[.ref a,sv x]∧WishAt H a lo hi hd tl ba to∧x.length≤900∧Q (.bl (formB lo hi hd tl x)) H
abbrev sForm:Stmt:=top 39
theorem scForm:FnScope ["wish", "name"] ["wish", "name"] (defScope sForm):=⟨rfl,rfl,rfl,by decide +kernel,rfl,by decide +kernel,by decide +kernel⟩
theorem ok_form {f:Addr}{fd:FuncData} (F:Fun K "has_form" "has_form" sForm f fd) (B:Blt mg) (W:CstW mg):FnOk P w K mg base CX0 1 f fd ["wish", "name"] spForm:=by
  obtain ⟨u0,h0⟩:=W.least
  obtain ⟨u1,h1⟩:=W.most
  obtain ⟨u2,h2⟩:=W.head
  obtain ⟨u3,h3⟩:=W.tail
  refine F.ok scForm (fun vs H Q E h=>?_) (fun cdv A outer s H vs Q E hr h=>?_)
  · obtain ⟨a,lo,hi,hd,tl,ba,to,x,rfl,_⟩:=h; rfl
  · obtain ⟨a,lo,hi,hd,tl,ba,to,x,rfl,⟨b,ha,hb⟩,hx,k⟩:=h
    refine ⟨_,pss_cons (ps_if (pt_not (pt_chain op_le op_le (pe_ix ix_tup (pv 0) (pe_glob (v:=.int 0) (by rfl) h0 ⟨_,rfl⟩) (fun _ _=>rfl)) (pe_callB call_len_str (by rfl) B.len PySem.boot_len (pa_cons (pv 1) pa_nil)) (pe_ix ix_tup (pv 0) (pe_glob (v:=.int 1) (by rfl) h1 ⟨_,rfl⟩) (fun _ _=>rfl))))
        (pss_one (ps_ret pe_bl)) pss_nil)
      (pss_one (ps_ret (pe_and (pe_bm PySem.F.plainAttrs_str PySem.F.slot_str_startswith PySem.F.type_str_startswith mt_startswith (pv 1) (pa_cons (pe_ix ix_tup (pv 0) (pe_glob (v:=.int 2) (by rfl) h2 ⟨_,rfl⟩) (fun _ _=>rfl)) pa_nil))
        (pe_one (pe_bm PySem.F.plainAttrs_str PySem.F.slot_str_endswith PySem.F.type_str_endswith mt_endswith (pv 1) (pa_cons (pe_ix ix_tup (pv 0) (pe_glob (v:=.int 3) (by rfl) h3 ⟨_,rfl⟩) (fun _ _=>rfl)) pa_nil)))))),?_⟩
    refine ⟨_,rfl,a,_,0,.int lo,rfl,rfl,.of ha,rfl,_,rfl,tx x,rfl,by rw [tx_len,sizeLine_eq]; omega,_,_,rfl,rfl,_,rfl,?_⟩
    by_cases hl:lo≤(x.length:Int)
    · refine iteD (by rw [tx_len]; exact hl) ⟨_,rfl,a,_,1,.int hi,rfl,rfl,.of ha,rfl,_,_,rfl,rfl,_,rfl,?_⟩
      by_cases hh:(x.length:Int)≤hi
      · refine iteNS (by rw [tx_len]; exact hh) ?_
        refine ⟨_,rfl,rfl,_,rfl,a,_,2,sv hd,rfl,rfl,.of ha,rfl,_,_,rfl,rfl,_,rfl,?_⟩
        cases e1:Txt.startswith (tx x) (tx hd) with
        | false =>
          have e:formB lo hi hd tl x=false:=by simp only [formB,e1,Bool.false_and,Bool.and_false]
          rw [e] at k
          exact iteF k
        | true =>
          refine iteT ⟨_,rfl,rfl,_,rfl,a,_,3,sv tl,rfl,rfl,.of ha,rfl,_,_,rfl,rfl,?_⟩
          have e:formB lo hi hd tl x=Txt.endswith (tx x) (tx tl):=by simp only [formB,e1,decide_eq_true hl,decide_eq_true hh,Bool.true_and]
          rw [e] at k
          exact k
      · have e:formB lo hi hd tl x=false:=by simp only [formB,decide_eq_false hh,Bool.false_and,Bool.and_false]
        rw [e] at k
        exact ite_nn (by rw [tx_len]; exact hh) k
    · have e:formB lo hi hd tl x=false:=by simp only [formB,decide_eq_false hl,Bool.false_and]
      rw [e] at k
      exact iteDF (by rw [tx_len]; exact hl) ⟨_,rfl,iteT k⟩
def spOut:Sp:=fun vs H Q _=>∃ (c a:Addr) (bk:List S) (lo hi:Int) (hd tl:S) (ba:List S) (to:Bool),vs=[.ref c,.ref a]∧H c=some (.tup (bkV bk))∧bk.length≤8∧WishAt H a lo hi hd tl ba to∧ba.length≤6 ∧
  ∀ (l:Addr) (out:List S) (H':Hp),Same H H'→H' l=some (.lst (bkV out))→(∀ x,decide (x∈out)=outB bk ba to x)→Q (.ref l) H'
abbrev sOut:Stmt:=top 40
theorem scOut:FnScope ["book", "wish"] ["book", "wish"] (defScope sOut):=⟨rfl,rfl,rfl,by decide +kernel,rfl,by decide +kernel,by decide +kernel⟩
theorem bkV_txs (l:List S):bkV l=(l.map tx).map V.str:=by
  unfold bkV
  rw [List.map_map]; rfl
theorem ok_out {f:Addr}{fd:FuncData} (F:Fun K "left_out" "left_out" sOut f fd) (B:Blt mg) (W:CstW mg) (hli:mg "list" = none) (hse:mg "set" = none):FnOk P w K mg base CX0 1 f fd ["book", "wish"] spOut:=by
  obtain ⟨u4,h4⟩:=W.barred
  obtain ⟨u5,h5⟩:=W.told
  refine F.ok scOut (fun vs H Q E h=>?_) (fun cdv A outer s H vs Q E hr h=>?_)
  · obtain ⟨c,a,bk,lo,hi,hd,tl,ba,to,rfl,_⟩:=h; rfl
  · obtain ⟨c,a,bk,lo,hi,hd,tl,ba,to,rfl,hc,h8,⟨b,ha,hb⟩,h6,k⟩:=h
    refine ⟨_,pss_cons (ps_if (pt_val (pe_ix ix_tup (pv 1) (pe_glob (v:=.int 5) (by rfl) h5 ⟨_,rfl⟩) (fun _ _=>rfl)))
        (pss_one (ps_ret (pe_callTy call_list_of (by rfl) hli PyProof.Rows.boot_list (pa_cons (pe_ix ix_tup (pv 1) (pe_glob (v:=.int 4) (by rfl) h4 ⟨_,rfl⟩) (fun _ _=>rfl)) pa_nil)))) pss_nil)
      (pss_one (ps_ret (pe_sset rfl (pe_op op_catTT (pe_ix ix_tup (pv 1) (pe_glob (v:=.int 4) (by rfl) h4 ⟨_,rfl⟩) (fun _ _=>rfl)) (pv 0)) (by rfl) B.sorted PyProof.Rows.boot_sorted (by rfl) hse (by decide +kernel)))),?_⟩
    refine ⟨_,rfl,a,_,5,.bl to,rfl,rfl,.of ha,rfl,_,rfl,?_⟩
    cases to with
    | true =>
      refine iteT ?_
      refine ⟨_,rfl,a,_,4,.ref b,rfl,rfl,.of ha,rfl,b,_,rfl,.inr (.of hb),fun l hl=>?_⟩
      refine k l ba _ (Same.upd1 hl) upd_same fun x=>?_
      unfold outB; simp
    | false =>
      refine iteF ?_
      refine ⟨_,rfl,a,_,4,.ref b,rfl,rfl,.of ha,rfl,_,rfl,?_⟩
      have bl:∀ l:List S,(bkV l).length=l.length:=fun l=>by unfold bkV; rw [List.length_map]
      refine ⟨b,c,_,_,rfl,rfl,hb,hc,by rw [bl,bl,sizeLine_eq]; omega,fun p H1 s1 hp=>?_⟩
      have ep:bkV ba++bkV bk=((ba++bk).map tx).map V.str:=by rw [← bkV_txs]; unfold bkV; rw [List.map_append]
      rw [ep] at hp
      refine ⟨p,(ba++bk).map tx,rfl,.of hp,by rw [List.length_map,List.length_append]; omega,fun out l hmem hsrt hl=>?_⟩
      have eo:out.map V.str=bkV (out.map fun x=>x.cps.toList):=by
        unfold bkV
        rw [List.map_map]
        refine List.map_congr_left fun x _=>?_
        show V.str x=V.str (tx x.cps.toList)
        rw [tx_eta]
      rw [eo]
      refine k l _ _ (s1.upd_new (s1.free hl)) upd_same fun x=>?_
      have e1:x∈(out.map fun x=>x.cps.toList)↔x∈ba∨x∈bk:=by
        rw [List.mem_map]
        constructor
        · rintro ⟨y,hy,rfl⟩
          obtain ⟨z,hz,e⟩:=List.mem_map.mp ((hmem y).mp hy)
          have:z=y.cps.toList:=by rw [← e,tx_cps]
          rw [← this]
          exact List.mem_append.mp hz
        · intro h
          refine ⟨tx x,(hmem _).mpr (List.mem_map.mpr ⟨x,List.mem_append.mpr h,rfl⟩),tx_cps x⟩
      unfold outB
      have e2:decide (x∈(out.map fun x=>x.cps.toList))=(decide (x∈ba) || decide (x∈bk)):=by
        rw [Bool.eq_iff_iff,Bool.or_eq_true,decide_eq_true_eq,decide_eq_true_eq,decide_eq_true_eq]
        exact e1
      rw [e2]
      rfl
def spFits (nb nw nn:Addr):Sp:=fun vs H Q E=>∃ v u x d e g,vs=[v,u,x]∧Thg H d v∧Thg H e u∧Thg H g x∧sml d=true∧sml e=true∧sml g=true∧SeqAt.shaped e=true ∧
  (isBookD d=false→∀ H',Same H H'→E (.ref nb) none H')∧(isBookD d=true→isWishD e=false→∀ H',Same H H'→E (.ref nw) none H')∧(isBookD d=true→isWishD e=true→isNameD g=false→∀ H',Same H H'→E (.ref nn) none H') ∧
  (∀ bk lo hi hd tl ba to y,isBk bk→d=.tuple (bk.map fun x=>PyData.str (tx x))→GW lo hi hd tl ba→e=wishD lo hi hd tl ba to→isNm y→g=.str (tx y)→∀ H',Same H H'→Q (.bl (fitsB bk lo hi hd tl ba to y)) H')
abbrev sFits:Stmt:=top 41
theorem scFits:FnScope ["book", "wish", "name"] ["book", "wish", "name"] (defScope sFits):=⟨rfl,rfl,rfl,by decide +kernel,rfl,by decide +kernel,by decide +kernel⟩
theorem ok_fits {f:Addr}{fd:FuncData}{nb nw nn:Addr} (F:Fun K "fits" "fits" sFits f fd) (cNB:CalR P w K mg base 3 "need_book" ["thing"] (spRef nb isBookD)) (cNW:CalR P w K mg base 4 "need_wish" ["thing"] (spRefW nw)) (cNN:CalR P w K mg base 2 "need_name" ["thing"] (spRef nn isNameD))
    (cF:Cal P w K mg base 1 "has_form" ["wish", "name"] spForm) (cO:Cal P w K mg base 1 "left_out" ["book", "wish"] spOut):FnOk P w K mg base (CXr P w) 5 f fd ["book", "wish", "name"] (spFits nb nw nn):=by
  refine F.okR scFits (fun vs H Q E h=>?_) (fun cdv A outer s H vs Q E hr h ok=>?_)
  · obtain ⟨v,u,x,d,e,g,rfl,_⟩:=h; rfl
  · obtain ⟨v,u,x,d,e,g,rfl,hv,hu,hx,sd,se,sg,she,kb,kw,kn,kg⟩:=h
    have r1:=hr.mono (j:=1) (by decide)
    have r2:=hr.mono (j:=2) (by decide)
    have r3:=hr.mono (j:=3) (by decide)
    refine ⟨_,pss_cons (ps_expr (pe_calR cNB ok.pass r3 rfl (pa_cons (pv 0) pa_nil))) (pss_cons (ps_expr (pe_calR cNW ok.pass hr rfl (pa_cons (pv 1) pa_nil))) (pss_cons (ps_expr (pe_calR cNN ok.pass r2 rfl (pa_cons (pv 2) pa_nil)))
      (pss_one (ps_ret (pe_and (pe_cal cF r1 rfl (pa_cons (pv 1) (pa_cons (pv 2) pa_nil))) (pe_one (pe_cmpR op_notIn_seq (pv 2) (pe_cal cO r1 rfl (pa_cons (pv 0) (pa_cons (pv 1) pa_nil))) (by with_unfolding_all rfl)))))))),?_⟩
    refine ⟨_,rfl,v,d,rfl,hv,sd,fun g1 H1 s1=>?_,fun b1 H1 s1=>kb b1 H1 s1⟩
    refine ⟨_,rfl,u,e,rfl,Thg.same s1 _ _ hu,se,she,fun g2 H2 s2'=>?_,fun b2 H2 s2'=>kw g1 b2 _ (s1.trans s2')⟩
    have s2:=s1.trans s2'
    refine ⟨_,rfl,x,g,rfl,Thg.same s2 _ _ hx,sg,fun g3 H3 s3'=>?_,fun b3 H3 s3'=>kn g1 g2 b3 _ (s2.trans s3')⟩
    have s3:=s2.trans s3'
    obtain ⟨c,bk,rfl,hc,hbk,rfl⟩:=thg_book hv g1
    obtain ⟨lo,hi,hd,tl,ba,to,rfl,gw⟩:=wish_inv g2
    obtain ⟨a,rfl,hw⟩:=thg_wish hu
    obtain ⟨y,rfl,hy,rfl⟩:=thg_name hx g3
    have kq:=kg bk lo hi hd tl ba to y hbk rfl gw rfl hy rfl
    have y8:y.length≤8:=hy.2.1
    refine ⟨_,rfl,_,rfl,a,lo,hi,hd,tl,ba,to,y,rfl,hw.same s3,by omega,_,rfl,?_⟩
    cases e1:formB lo hi hd tl y with
    | false =>
      have e2:fitsB bk lo hi hd tl ba to y=false:=by simp only [fitsB,e1,Bool.false_and]
      rw [e2] at kq
      exact iteF (kq _ s3)
    | true =>
      refine iteT ?_
      refine ⟨_,rfl,_,rfl,_,rfl,c,a,bk,lo,hi,hd,tl,ba,to,rfl,s3 _ _ hc,hbk.hi,hw.same s3,gw.len,fun l out H4 s4 hl hmem=>?_⟩
      refine ⟨l,_,rfl,.inl (.of hl),rfl,flat_bk _,?_⟩
      have e2:fitsB bk lo hi hd tl ba to y=!outB bk ba to y:=by simp only [fitsB,e1,Bool.true_and]
      rw [inV_bk,hmem y]
      rw [e2] at kq
      exact kq _ (s3.trans s4)
end
end Kn
end
section
namespace L2
open PySem PySem.Spec PyProof.Rows
section
variable {X:Cx}{pins:List (Addr × Obj)}{σ:St}{H:Hp}{s:Shared}{A:Around}{E:Value→Shared→Prop}{Q:Value→Shared→Prop}{b:Bool}
theorem isinst_tup {x:V}{u t:Value}{tp:Addr}{dd:Option Addr}{its:List Value}{n:Nat}{sl:Array (Option Value)} (I:Inv X pins σ H s) (rx:RelV x u) (ty:TyOf X.K H x t) (htp:s.heap.get? tp=some ⟨.type "tuple",dd,.seq its.toArray n,sl⟩) (e:PySem.W.kitAny X.K t its=some b) (h:∀ tk,Q (.bool b) { s with toks:=tk }) :
    wpAny (model X.prog X.w) A (call (.builtin "isinstance") [u,.ref tp]) Q E s:=by
  cases ty with
  | non=>cases (show u=Value.none from rx); exact PySem.W.kia_tup PySem.W.kitx_none I.kIn True.intro htp e (fun z=>nomatch z) h
  | bl y=>cases (show u=Value.bool y from rx); exact PySem.W.kia_tup PySem.W.kitx_bool I.kIn True.intro htp e (fun z=>nomatch z) h
  | int i=>obtain ⟨t,q⟩:=(show ∃ t,u=Value.int i t from rx); cases q; exact PySem.W.kia_tup PySem.W.kitx_int I.kIn True.intro htp e (fun z=>nomatch z) h
  | str y=>obtain ⟨t,q⟩:=(show ∃ t,u=Value.str y t from rx); cases q; exact PySem.W.kia_tup PySem.W.kitx_str I.kIn True.intro htp e (fun z=>nomatch z) h
  | flt y=>obtain ⟨t,q⟩:=(show ∃ t,u=Value.float y t from rx); cases q; exact PySem.W.kia_tup PySem.W.kitx_float I.kIn True.intro htp e (fun z=>nomatch z) h
  | @lst a xs ea =>
    cases (show u=Value.ref a from rx)
    obtain ⟨_,_,n,_,h1⟩:=(show ObjOk X.prog X.w H s.heap a (.lst xs) from I.hok a _ ea)
    exact PySem.W.kia_tup PySem.W.kitx_list I.kIn ⟨_,h1,rfl⟩ htp e (fun z=>nomatch z) h
  | @frz a ob xs ea =>
    cases (show u=Value.ref a from rx)
    obtain ⟨_,_,_,n,_,h1⟩:=(show ObjOk X.prog X.w H s.heap a (.frz ob (.lst xs)) from I.hok a _ ea)
    exact PySem.W.kia_tup PySem.W.kitx_list I.kIn ⟨_,h1,rfl⟩ htp e (fun z=>nomatch z) h
  | @tup a xs ea =>
    cases (show u=Value.ref a from rx)
    obtain ⟨_,_,_,p⟩:=(show ObjOk X.prog X.w H s.heap a (.tup xs) from I.hok a _ ea)
    obtain ⟨o,h1,h2,_⟩:=p
    exact PySem.W.kia_tup PySem.W.kitx_tuple I.kIn ⟨o,h1,h2⟩ htp e (fun z=>nomatch z) h
  | @dK a kvs ea =>
    cases (show u=Value.ref a from rx)
    obtain ⟨_,_,vs,_,p⟩:=(show ObjOk X.prog X.w H s.heap a (.dK kvs) from I.hok a _ ea)
    obtain ⟨o,es,ep,h1,h2,_⟩:=p
    exact PySem.W.kia_tup PySem.W.kitx_dict I.kIn ⟨o,h1,h2.1⟩ htp e (fun z=>nomatch z) h
  | @dT a kvs ea =>
    cases (show u=Value.ref a from rx)
    obtain ⟨_,_,xs,_,o,es,ep,h1,h2,_⟩:=(show ObjOk X.prog X.w H s.heap a (.dT kvs) from I.hok a _ ea)
    exact PySem.W.kia_tup PySem.W.kitx_dict I.kIn ⟨o,h1,h2.1⟩ htp e (fun z=>nomatch z) h
  | @ins a C dx fs ea cl ha hn htk hm =>
    cases (show u=Value.ref a from rx)
    obtain ⟨mA,O,_⟩:=ins_get I.hok ea
    obtain ⟨od,J,_⟩:=O.look
    exact PySem.W.kia_tup (PySem.W.kitx_own (cl.get _) cl.hd ha hn htk hm) I.kIn J htp e (fun z=>nomatch z) h
theorem call_isinst2:CallR X (.builtin "isinstance") (fun xs H Q=>∃ x tp c d t b,xs=[x,.ref tp]∧H tp=some (.tup [.ty c,.ty d])∧TyOf X.K H x t∧PySem.W.kitAny X.K t [.type c,.type d]=some b∧Q (.bl b) H):=by
  intro pins s σ H xs us Q I r h
  obtain ⟨x,tp,c,d,t,b,rfl,hH,ty,e,q⟩:=h
  obtain ⟨u,w',rfl,rx,rc⟩:=vals2 r
  cases rc
  obtain ⟨_,its,rv,p⟩:=(show ObjOk X.prog X.w H s.heap tp (.tup [.ty c,.ty d]) from I.hok tp _ hH)
  obtain ⟨y,z,e2,ry,rz⟩:=vals2 rv
  subst e2
  cases (show y=Value.type c from ry)
  cases (show z=Value.type d from rz)
  obtain ⟨⟨oc,od,odt,os⟩,h1,h2,n,h3⟩:=p
  simp only at h2 h3
  subst h2 h3
  exact isinst_tup I rx ty h1 e fun tk=>⟨.bl b,H,I.tok tk,rfl,q⟩
end
end L2
end
section
namespace L2
open PySem PySem.Spec PyProof.Rows
section
variable {X:Cx}{pins:List (Addr × Obj)}{σ:St}{H:Hp}{s:Shared}{e:Addr}
theorem catchesN {H':Hp}{s':Shared}{C L:Addr}{a0:Value}{B:Heap}{x:Str}{np pos:Pos}{b0:Stmt}{suite:List Stmt}{D:Ends} (I:Inv X pins σ H s) (hs:X.stack=X.env::X.outer) (hf:X.env.frame=some X.env.locals) (hx:X.ex=[])
    (F:Flown X.prog X.w X.stack H s e (.ref C) a0 B H' s') (hC:PySem.W.excIn X.K C veMro "ValueError.__new__" = true) (O:XCls X.K X.mg x L) (hsub:subOf X.K C L=true) (hg:Gl X x)
    (k:∀ s2,Inv (X.hand e) pins (List.replicate X.N.length none) (upd H' e (XO e C)) s2→H' e=none →
      wpAny (model X.prog X.w) (X.hand e).A (execs (b0::suite) X.env) (SP (X.hand e) pins { nx:=fun _ _=>False,rt:=D.rt }) (fun _ _=>False) s2) (hdb:(x == ("__debug__" : Str))=false:=by decide) :
    wpAny (model X.prog X.w) X.A (noteFrame (.ref e) X.env) (fun _ s2=>wpAny (model X.prog X.w) X.A (setFlight (.ref e) none) (fun _ s3 =>
      wpAny (model X.prog X.w) X.A (handleBy (.ref e) X.env [.ExceptHandler (some (.Name x np)) none (b0::suite) pos]) (SP X pins D) X.xe s3) X.xe s2) X.xe s':=by
  have fly:=F.fly
  have fun':=F.fly.2.2.1
  rw [hs] at fly
  refine wpAny_looks_onW (by rw [← hs]; exact I.ok.frames) hf fly fun h4 held up4=>?_
  refine wpAny_landsW held fun h5 fly5 up5=>?_
  have F5:=F.on (h':=h5) (by rw [hs]; exact fly5) (up4.trans up5) fun'
  have I5:Inv X pins σ H' { s' with heap:=h5 }:=I.call' F5.os (F5.un I.stkFree) F5.hok F5.bare (fun b z=>nomatch z)
  obtain ⟨tl,N,nm,q,bs,hdct,sn,sub,ab,col,dd,k0,k1,k2,k3,k5,mN,hC1,_,_,_,cd,hlk,hmro⟩:=xcls_obj I.mod.kin hC
  obtain ⟨tl',N',nm',q',bs',hdct',sn',sub',ab',col',dd',j0,j1,j2,j3,j5,mN',hL1,_,_,T',_⟩:=xcls_obj I.mod.kin O.exc
  have hin:(Value.ref C::tl).contains (.ref L)=true:=by
    unfold subOf at hsub
    rw [hlk] at hsub
    rw [← hmro]
    exact hsub
  have Ih:=I5.hand e
  refine wpAny_handleBy_cons (codeAny_handlers_test (ld_glob (X:=X.hand e) Ih hg O.bound ?_ hdb)) (by intro z; cases z)
  obtain ⟨oe,ws,hoe,hoec,hoed,_⟩:=fly5.first
  have hm:∀ {Q:Bool→Shared→Prop} {E':Value→Shared→Prop},Q true { s' with heap:=h5 }→wpAny (model X.prog X.w) (X.A.mark (some (.ref e))) (excMatches (.ref e) (.ref L)) Q E' { s' with heap:=h5 }:=fun {Q E'} hq=>by
    obtain ⟨hp,gg,ddd,tt,oo⟩:=s'
    exact exc_matches_own (I5.bk _ _ hC1) (I5.bk _ _ hL1) hoe hoec (T'.hasType PySem.F.excBase_ValueError.hasBase) hin hq
  refine hm ?_
  refine codeAny_handlers_suite (lands_againW fly5 fun h6 fly6 up6=>?_)
  have F6:=F5.on (h':=h6) (by rw [hs]; exact fly6) up6 (by rw [hs]; exact fly5.2.2.1)
  have I6:Inv X pins σ H' { s' with heap:=h6 }:=I.call' F6.os (F6.un I.stkFree) F6.hok F6.bare (fun b z=>nomatch z)
  obtain ⟨oe6,ws6,hoe6,hoec6,hoed6,_⟩:=fly6.first
  have neB:∀ b o,s.heap.get? b=some o→b≠e:=fun b o q z=>by
    by_cases hb:b∈frs X.stack
    · obtain ⟨_,o',ho',hd⟩:=fun'.mem (show b∈X.stack.filterMap (·.frame) from hb)
      obtain ⟨oe',ws',he',_,hed',_⟩:=F.fly.first
      rw [z,he'] at ho'
      cases ho'
      exact hd ws' hed'
    · obtain ⟨o',ho'⟩:=F.there b o q hb
      rw [z,F.fly.2.1] at ho'
      cases ho'
  have I7:Inv X pins σ (upd H' e (XO e C)) { s' with heap:=h6 }:=by
    refine I6.track F.ef (fun b ob q z=>?_) (fun z=>?_) (fun y c q z=>?_) (fun p hp z=>?_) ⟨⟨oe6,ws6,hoe6,hoec6,hoed6⟩,⟨oe6,hoe6⟩,fun h1 h2 ⟨o1,v1,a1,a2,a3⟩ kk=>⟨o1,v1,kk _ a1,a2,a3⟩⟩
    · obtain ⟨o',z'⟩:=I.base.there b ob q (by rw [hx]; simp)
      exact neB b o' z' z
    · obtain ⟨m,⟨o,es,ep,ho,_⟩,_⟩:=I.loc
      exact neB _ o ho z
    · obtain ⟨v,o,ho,_⟩:=I.cell y c q
      exact neB _ o ho z
    · obtain ⟨a1,_⟩:=I.pin p hp
      exact neB _ _ a1 z
  have I8:Inv X pins (List.replicate X.N.length none) (upd H' e (XO e C)) { s' with heap:=h6 }:=I7.weak (by rw [List.length_replicate,I7.len]) fun j v q=>by
    rw [List.getElem?_replicate] at q
    split at q <;> cases q
  refine wpAny_mono (k _ (I8.hand e) F.ef) (fun f s3 h3=>?_) fun _ _ z=>z.elim
  cases f with
  | next=>obtain ⟨_,_,_,z⟩:=h3; exact z.elim
  | brk=>obtain ⟨_,_,_,z⟩:=h3; exact z.elim
  | cont=>obtain ⟨_,_,_,z⟩:=h3; exact z.elim
  | ret u =>
    obtain ⟨v,σ',H2,I10,r,z⟩:=h3
    exact ⟨v,σ',H2,I10.unhand I.ok,r,z⟩
def tTryN (K:PySem.W.Frag) (N:Nat) (L:Addr) (tb:XK→TS) (ts:TS):TS:=fun D σ H =>
  tb (fun cls _ H'=>∃ C:Addr,cls=.ref C∧PySem.W.excIn K C veMro "ValueError.__new__" = true∧subOf K C L=true∧∀ e,H' e=none→ts { nx:=fun _ _=>False,rt:=D.rt } (List.replicate N none) (upd H' e (XO e C))) D σ H
theorem ps_tryN {x:Str}{L:Addr}{np pos pos':Pos}{body:List Stmt}{b0:Stmt}{suite:List Stmt}{tb:XK→TS}{ts:TS} (hs:X.stack=X.env::X.outer) (hf:X.env.frame=some X.env.locals) (hx:X.ex=[]) (O:XCls X.K X.mg x L) (hg:Gl X x)
    (hb:∀ (E:XK) (ET:Value→Shared→Prop) (pn:List (Addr × Obj)),Passes (CXr X.prog X.w) (X.tryb ET pn) E→PSs (X.tryb ET pn) body (tb E)) (hsu:∀ e,PSs (X.hand e) (b0::suite) ts) (hdb:(x == ("__debug__" : Str))=false:=by decide) :
    PS X (.Try body [.ExceptHandler (some (.Name x np)) none (b0::suite) pos] [] [] pos') (tTryN X.K X.N.length L tb ts):=by
  intro pins s σ H D I h
  refine wpAny_Try_except ?_
  have main:=hb _ (fun ev s1=>wpAny (model X.prog X.w) X.A (noteFrame ev X.env) (fun _ s2=>wpAny (model X.prog X.w) X.A (setFlight ev none) (fun _ s3 =>
      wpAny (model X.prog X.w) X.A (handleBy ev X.env [.ExceptHandler (some (.Name x np)) none (b0::suite) pos]) (SP X pins D) X.xe s3) X.xe s2) X.xe s1) (X.pn++pins) ?pass [] s σ H D (I.tryb _) h
  case pass =>
    rintro pins' σ' H1 s1 ev s' I1 ⟨e,cls,a0,B,H',rfl,F,C,rfl,hC,hsub,hts⟩
    have I2:=I1.untryb I.ok
    exact catchesN I2 hs hf hx F hC O hsub hg (fun s2 I9 hn=>hsu e pins s2 _ _ _ I9 (hts e hn)) hdb
  refine wpAny_mono main (fun f s1 h1=>?_) fun ev s1 h1=>h1
  have h2:SP X pins D f s1:=by
    cases f with
    | next=>obtain ⟨σ',H',J,q⟩:=h1; exact ⟨σ',H',J.untryb I.ok,q⟩
    | brk=>obtain ⟨σ',H',J,q⟩:=h1; exact ⟨σ',H',J.untryb I.ok,q⟩
    | cont=>obtain ⟨σ',H',J,q⟩:=h1; exact ⟨σ',H',J.untryb I.ok,q⟩
    | ret u=>obtain ⟨v,σ',H',J,r,q⟩:=h1; exact ⟨v,σ',H',J.untryb I.ok,r,q⟩
  cases f with
  | next=>exact wpAny_execs_nil h2
  | ret u=>exact h2
  | brk=>exact h2
  | cont=>exact h2
end
end L2
end
section
namespace Kn.Dr
open PySem L2 Kn
def isNumsD:PyData→Bool
  | .list ds=>decide (ds.length≤99) && ds.all (isWholeD 0 9999)
  | .tuple ds=>decide (ds.length≤99) && ds.all (isWholeD 0 9999)
  | _=>false
def nuD (ns:List Nat):List PyData:=ns.map fun (n:Nat)=>PyData.int (n:Int)
def nuV (ns:List Nat):List V:=ns.map fun (n:Nat)=>V.int (n:Int)
def NumsD (g:PyData) (ns:List Nat):Prop:=g=.list (nuD ns)∨g=.tuple (nuD ns)
def NumsAt (H:Hp) (v:V) (ns:List Nat):Prop:=∃ a,v=.ref a∧(H a=some (.lst (nuV ns))∨H a=some (.tup (nuV ns)))
theorem NumsAt.same {H H':Hp}{v:V}{ns:List Nat} (h:NumsAt H v ns) (s:Same H H'):NumsAt H' v ns :=
  let ⟨a,e,h⟩:=h; ⟨a,e,h.elim (fun h=>.inl (s _ _ h)) fun h=>.inr (s _ _ h)⟩
theorem Thgs.nums {H:Hp}:∀ ns:List Nat,Thgs H (nuD ns) (nuV ns)
  | []=>rfl
  | n::ns=>⟨_,_,rfl,rfl,Thgs.nums ns⟩
theorem Thgs.nums_inv {H:Hp}:∀ {ns:List Nat}{xs:List V},Thgs H (nuD ns) xs→xs=nuV ns
  | [],xs,h=>h
  | n::ns,xs,h=>by
    obtain ⟨y,ys,rfl,h1,h2⟩:=h
    rw [Thgs.nums_inv h2]
    cases (show y=.int (n:Int) from h1); rfl
theorem NumsD.thg {H:Hp}{g:PyData}{v:V}{ns:List Nat} (h:NumsD g ns) (t:Thg H g v):NumsAt H v ns:=by
  rcases h with rfl | rfl
  · obtain ⟨a,xs,rfl,h1,h2⟩:=t
    rw [Thgs.nums_inv h2] at h1
    exact ⟨a,rfl,.inl h1⟩
  · obtain ⟨a,xs,rfl,h1,h2⟩:=t
    rw [Thgs.nums_inv h2] at h1
    exact ⟨a,rfl,.inr h1⟩
theorem wholes_inv:∀ {ds:List PyData},ds.all (isWholeD 0 9999)=true→∃ ns:List Nat,ds=nuD ns∧∀ n∈ns,n≤9999
  | [],_=>⟨[],rfl,by simp⟩
  | d::ds,h=>by
    rw [List.all_cons,Bool.and_eq_true] at h
    obtain ⟨i,rfl,h1,h2⟩:=whole_int h.1
    obtain ⟨ns,rfl,h3⟩:=wholes_inv h.2
    refine ⟨i.toNat::ns,?_,fun n hn=>?_⟩
    · show _=PyData.int ((i.toNat:Nat):Int)::_
      rw [Int.toNat_of_nonneg h1]; rfl
    · rcases List.mem_cons.mp hn with z | z
      · omega
      · exact h3 n z
theorem nums_inv {g:PyData} (h:isNumsD g=true):∃ ns,NumsD g ns∧ns.length≤99:=by
  cases g with
  | list ds =>
    simp only [isNumsD,Bool.and_eq_true,decide_eq_true_eq] at h
    obtain ⟨ns,rfl,_⟩:=wholes_inv h.2
    exact ⟨ns,.inl rfl,by have:=h.1; unfold nuD at this; rwa [List.length_map] at this⟩
  | tuple ds =>
    simp only [isNumsD,Bool.and_eq_true,decide_eq_true_eq] at h
    obtain ⟨ns,rfl,_⟩:=wholes_inv h.2
    exact ⟨ns,.inr rfl,by have:=h.1; unfold nuD at this; rwa [List.length_map] at this⟩
  | _=>cases h
theorem nums_len (ns:List Nat):(nuV ns).length=ns.length:=by unfold nuV; rw [List.length_map]
structure KitL (K:PySem.W.Frag):Prop where
  nl:PySem.W.kitOne K (.type "NoneType") (.type "list")=some false
  bl:PySem.W.kitOne K (.type "bool") (.type "list")=some false
  il:PySem.W.kitOne K (.type "int") (.type "list")=some false
  sl:PySem.W.kitOne K (.type "str") (.type "list")=some false
  tl:PySem.W.kitOne K (.type "tuple") (.type "list")=some false
def isSeqD:PyData→Bool
  | .list _=>true
  | .tuple _=>true
  | _=>false
theorem PI.or {X:Cx}{tg e:Expr}{w1 w2:TI} (h1:PI X tg e w1) (h2:PI X tg e w2):PI X tg e (fun σ H R=>w1 σ H R∨w2 σ H R):=fun pins s σ H R I h=>h.elim (h1 pins s σ H R I) (h2 pins s σ H R I)
structure CstD (mg:Str→Option Value):Prop where
  mn:∃ t,mg "MOST_NUMBERS" = some (.int 99 t)
  gn:∃ t,mg "GREATEST_NUMBER" = some (.int 9999 t)
section
variable {P:Program}{w:World}{K:PySem.W.Frag}{mg:Str→Option Value}{base:Heap}
theorem kany {t:Value}{b1 b2:Bool}{c d:Value} (h1:PySem.W.kitOne K t c=some b1) (h2:PySem.W.kitOne K t d=some b2):PySem.W.kitAny K t [c,d]=some (b1 || b2):=by
  unfold PySem.W.kitAny
  rw [h1]
  cases b1 with
  | true=>rfl
  | false =>
    show PySem.W.kitAny K t [d]=_
    unfold PySem.W.kitAny
    rw [h2]
    cases b2 <;> rfl
theorem ty_seq (KF:KitF K) (KL:KitL K) {H:Hp}:∀ {d:PyData}{v:V},Thg H d v→∃ t,TyOf K H v t∧PySem.W.kitAny K t [.type "list",.type "tuple"]=some (isSeqD d)
  | .none,v,h=>by cases (show v=.non from h); exact ⟨_,.non,kany KL.nl KF.nt⟩
  | .bool b,v,h=>by cases (show v=.bl b from h); exact ⟨_,.bl _,kany KL.bl KF.bt⟩
  | .int i,v,h=>by cases (show v=.int i from h); exact ⟨_,.int _,kany KL.il KF.it⟩
  | .str x,v,h=>by cases (show v=.str x from h); exact ⟨_,.str _,kany KL.sl KF.st⟩
  | .list ds,v,h=>by obtain ⟨a,xs,rfl,h1,_⟩:=h; exact ⟨_,.lst h1,kany (b1:=true) rfl KF.lt⟩
  | .tuple ds,v,h=>by obtain ⟨a,xs,rfl,h1,_⟩:=h; exact ⟨_,.tup h1,kany (b2:=true) KL.tl rfl⟩
  | .dict _,v,h=>h.elim
abbrev sAre:Stmt:=top 45
theorem scAre:FnScope ["thing"] ["thing"] (defScope sAre):=⟨rfl,rfl,rfl,by decide +kernel,rfl,by decide +kernel,by decide +kernel⟩
theorem ndAre:(["number"]:List Str).Nodup:=by decide +kernel
def spAre:Sp:=fun vs H Q _=>∃ v d,vs=[v]∧Thg H d v∧sml d=true∧∀ H',Same H H'→Q (.bl (isNumsD d)) H'
theorem ok_are {f:Addr}{fd:FuncData} (F:Fun K "are_numbers" "are_numbers" sAre f fd) (B:Blt mg) (hli:mg "list" = none) (D:CstD mg) (KF:KitF K) (KL:KitL K) (cW:Cal P w K mg base 1 "is_whole" ["thing", "least", "most"] spIsWholeT):FnOk P w K mg base CX0 2 f fd ["thing"] spAre:=by
  obtain ⟨tm,hm⟩:=D.mn
  obtain ⟨tg,hg⟩:=D.gn
  refine F.ok scAre (fun vs H Q E h=>?_) (fun cdv A outer s H vs Q E hr h=>?_)
  · obtain ⟨v,d,rfl,_⟩:=h; rfl
  · obtain ⟨v,d,rfl,hv,hs,k⟩:=h
    refine ⟨_,pss_cons (ps_if (PW.pt (pw_or (pt_not (pt_val (pe_callB call_isinst2 (by rfl) B.isinstance PyProof.Rows.boot_isinstance (pa_cons (pv 0) (pa_cons (pe_tup (pa_cons (pe_bltn (v:=.ty "list") (by rfl) hli PyProof.Rows.boot_list rfl) (pa_cons (pe_bltn (v:=.ty "tuple") (by rfl) B.tuple PyProof.Rows.boot_tuple rfl) pa_nil))) pa_nil)))))
        (pw_or1 (pt_cmpR op_gt (pe_callB call_len_seq (by rfl) B.len PySem.boot_len (pa_cons (pv 0) pa_nil)) (pe_glob (v:=.int 99) (by rfl) hm ⟨_,rfl⟩) (nomark _)))))
        (pss_one (ps_ret pe_bl)) pss_nil)
      (pss_one (ps_ret (pe_callB (call_all rfl) (by rfl) B.all PyProof.Rows.boot_all (pa_cons (pe_comp (N:=["number"]) (caps:=[]) rfl (compScope_of (by kernel_rfl)) (PI.or (pi_list (pv 0)) (pi_tup (pv 0)))
        (fun cl C s H ex=>pg_name (i:=0) ndAre rfl (Or.inl rfl)) (fun cl C s H ex=>pf_nil)
        (fun cl C s H ex=>pe_cal cW hr rfl (pa_cons (pv 0) (pa_cons pe_int (pa_cons (pe_glob (v:=.int 9999) (by rfl) hg ⟨_,rfl⟩) pa_nil))))) pa_nil)))),?_⟩
    refine ⟨_,rfl,by show 2≤sizeLine; decide,fun tp htp=>?_⟩
    have t1:Same H (upd H tp (.tup [.ty "list",.ty "tuple"])):=Same.upd1 htp
    have hv1:=Thg.same t1 _ _ hv
    have htp1:upd H tp (.tup [.ty "list",.ty "tuple"]) tp=some (.tup [.ty "list",.ty "tuple"]):=upd_same
    generalize upd H tp (.tup [.ty "list",.ty "tuple"])=H1 at t1 hv1 htp1
    obtain ⟨t,hty,hkit⟩:=ty_seq KF KL hv1
    refine ⟨v,tp, "list", "tuple",t,isSeqD d,rfl,htp1,hty,hkit,_,rfl,?_⟩
    cases d with
    | list ds =>
      obtain ⟨a,xs,rfl,ha,hxs⟩:=hv1
      have hsx:ds.length≤900∧smls ds=true:=by
        simp only [sml,Bool.and_eq_true,decide_eq_true_eq] at hs
        exact hs
      have hxl:xs.length=ds.length:=hxs.length.symm
      refine iteF ?_
      refine ⟨_,rfl,_,_,rfl,.inl (.of ha),_,_,rfl,rfl,_,rfl,?_⟩
      by_cases h2:ds.length≤99
      · refine iteDF (by rw [hxl]; omega) ?_
        refine .inl ⟨_,rfl,a,rfl,⟨_,.of ha⟩,?_⟩
        refine comp_known0 (known_list _ a xs) [] 1 (by omega) (fun i acc H'=>Same H1 H'∧acc=((ds.take i).map (isWholeD 0 9999)).map V.bl) ⟨Same.refl _,rfl⟩ (fun i acc H' _ h=>⟨.of (h.1 _ _ ha),by rw [h.2,List.length_map,List.length_map,List.length_take]; omega⟩) ?_ ?_
        · rintro i y acc H' ys Nx hN hx hy ⟨sm,rfl⟩
          obtain ⟨y',rfl⟩:=ys1 hy
          obtain ⟨e,he,hye⟩:=hxs.get hx
          refine ⟨_,rfl,y,e,0,9999,rfl,Thg.same sm _ _ hye,hN _ _ [some y] rfl ⟨sm,?_⟩⟩
          rw [take_snoc he,List.map_append,List.map_append]; rfl
        · rintro acc H' ⟨sm,rfl⟩ D hD
          rw [hxl,List.take_length]
          refine ⟨D,_,rfl,.of upd_same,?_⟩
          have e:isNumsD (.list ds)=(ds.map (isWholeD 0 9999)).all id:=by
            simp only [isNumsD,decide_eq_true h2,Bool.true_and,List.all_map]; rfl
          rw [← e]
          exact k _ (t1.trans (sm.upd_new (sm.free hD)))
      · have e:isNumsD (.list ds)=false:=by simp only [isNumsD,decide_eq_false h2,Bool.false_and]
        rw [e] at k
        exact iteD (by rw [hxl]; omega) (k _ t1)
    | tuple ds =>
      obtain ⟨a,xs,rfl,ha,hxs⟩:=hv1
      have hsx:ds.length≤900∧smls ds=true:=by
        simp only [sml,Bool.and_eq_true,decide_eq_true_eq] at hs
        exact hs
      have hxl:xs.length=ds.length:=hxs.length.symm
      refine iteF ?_
      refine ⟨_,rfl,_,_,rfl,.inr (.of ha),_,_,rfl,rfl,_,rfl,?_⟩
      by_cases h2:ds.length≤99
      · refine iteDF (by rw [hxl]; omega) ?_
        refine .inr ⟨_,rfl,a,rfl,⟨_,.of ha⟩,?_⟩
        refine comp_known0 (known_tup _ a xs) [] 1 (by omega) (fun i acc H'=>Same H1 H'∧acc=((ds.take i).map (isWholeD 0 9999)).map V.bl) ⟨Same.refl _,rfl⟩ (fun i acc H' _ h=>⟨.of (h.1 _ _ ha),by rw [h.2,List.length_map,List.length_map,List.length_take]; omega⟩) ?_ ?_
        · rintro i y acc H' ys Nx hN hx hy ⟨sm,rfl⟩
          obtain ⟨y',rfl⟩:=ys1 hy
          obtain ⟨e,he,hye⟩:=hxs.get hx
          refine ⟨_,rfl,y,e,0,9999,rfl,Thg.same sm _ _ hye,hN _ _ [some y] rfl ⟨sm,?_⟩⟩
          rw [take_snoc he,List.map_append,List.map_append]; rfl
        · rintro acc H' ⟨sm,rfl⟩ D hD
          rw [hxl,List.take_length]
          refine ⟨D,_,rfl,.of upd_same,?_⟩
          have e:isNumsD (.tuple ds)=(ds.map (isWholeD 0 9999)).all id:=by
            simp only [isNumsD,decide_eq_true h2,Bool.true_and,List.all_map]; rfl
          rw [← e]
          exact k _ (t1.trans (sm.upd_new (sm.free hD)))
      · have e:isNumsD (.tuple ds)=false:=by simp only [isNumsD,decide_eq_false h2,Bool.false_and]
        rw [e] at k
        exact iteD (by rw [hxl]; omega) (k _ t1)
    | _=>exact iteT (iteT (k _ t1))
abbrev sNeedNu:Stmt:=top 46
theorem scNeedNu:FnScope ["thing"] ["thing"] (defScope sNeedNu):=⟨rfl,rfl,rfl,by decide +kernel,rfl,by decide +kernel,by decide +kernel⟩
theorem ok_needNu {f:Addr}{fd:FuncData}{C:Addr} (F:Fun K "need_numbers" "need_numbers" sNeedNu f fd) (O:XCls K mg "NoNumber" C) (c1:Cal P w K mg base 2 "are_numbers" ["thing"] spAre):FnOk P w K mg base (CXr P w) 3 f fd ["thing"] (spRef C isNumsD):=by
  refine F.okR scNeedNu (fun vs H Q E h=>?_) (fun cdv A outer s H vs Q E hr h ok=>?_)
  · obtain ⟨v,d,rfl,_⟩:=h; rfl
  · obtain ⟨v,d,rfl,hv,hs,k1,k2⟩:=h
    refine ⟨_,pss_one (ps_if (pt_not (pt_val (pe_cal c1 hr rfl (pa_cons (pv 0) pa_nil)))) (pss_one (ps_raise ok rfl O (by rfl) (pa_cons pe_str pa_nil))) pss_nil),?_⟩
    refine ⟨_,rfl,v,d,rfl,hv,hs,fun H' sm=>⟨_,rfl,?_⟩⟩
    cases e:isNumsD d with
    | true=>exact iteF (k1 e H' sm)
    | false=>exact iteT ⟨by show 1≤sizeLine; decide,k2 e H' sm⟩
def spEndB:Sp:=fun vs H Q _=>∃ (t:S) (o:Nat),vs=[sv t,.int o]∧1≤o∧t.length≤900∧Q (sv (endOf t o)) H
theorem ok_endB {f:Addr}{fd:FuncData} (F:Fun K "end_of" "end_of" sEnd f fd):FnOk P w K mg base CX0 1 f fd ["text", "order"] spEndB:=by
  refine F.ok scEnd (fun vs H Q E h=>?_) (fun cdv A outer s H vs Q E hr h=>?_)
  · obtain ⟨t,o,rfl,_⟩:=h; rfl
  · obtain ⟨t,o,rfl,ho,hl,k⟩:=h
    refine ⟨_,pss_one (ps_ret (pe_sliceS (pv 0) (po_some (pe_un un_neg (pv 1))) po_none)),?_⟩
    refine ⟨_,rfl,_,rfl,_,rfl,_,rfl,_,rfl,?_,?_⟩
    · rw [tx_len,sizeLine_eq]; omega
    · rw [cut_end t o ho]; exact k
theorem dr_cons (ps:List (S × S)) (o:Nat) (t:S) (n:Nat) (ns:List Nat) (p:Nat):dr ps o t (n::ns) p=if pick ps (endOf t o) n=[] then some (t,p+1) else dr ps o (t++pick ps (endOf t o) n) ns (p+1):=rfl
abbrev sDF:Stmt:=top 49
theorem scDF:FnScope ["pots", "order", "numbers", "start", "text", "place", "pot", "letter"] ["pots", "order", "numbers", "start"] (defScope sDF):=⟨rfl,rfl,rfl,by decide +kernel,rfl,by decide +kernel,by decide +kernel⟩
def spDF (C:Addr):Sp:=fun vs H Q E=>∃ (d:Addr) (nv:V) (bk:List S) (o st:Nat) (ns:List Nat),vs=[.ref d,.int o,nv,.int st]∧Bk bk o∧(pairsB o bk).length < 64∧PotsAt H d (pairsB o bk)∧NumsAt H nv ns∧ns.length≤99∧st≤ns.length ∧
  (dr (pairsB o bk) o [] (ns.drop st) st=none→E (.ref C) none H) ∧
  (∀ x q,dr (pairsB o bk) o [] (ns.drop st) st=some (x,q)→∀ (p:Addr) (H':Hp),Same H H'→H p=none→H' p=some (.tup [sv x,.int (q:Int)])→Q (.ref p) H')
theorem ok_DF {f:Addr}{fd:FuncData}{C:Addr} (F:Fun K "drawn_from" "drawn_from" sDF f fd) (B:Blt mg) (O:XCls K mg "TooShort" C) (cEnd:Cal P w K mg base 1 "end_of" ["text", "order"] spEndB):FnOk P w K mg base (CXr P w) 2 f fd ["pots", "order", "numbers", "start"] (spDF C):=by
  refine F.okR scDF (fun vs H Q E h=>?_) (fun cdv A outer s H vs Q E hr h ok=>?_)
  · obtain ⟨d,nv,bk,o,st,ns,rfl,_⟩:=h; rfl
  · obtain ⟨d,nv,bk,o,st,ns,rfl,hb,h64,hP,⟨na,rfl,hna⟩,h99,hst,kE,kQ⟩:=h
    have hu:=hu_of hr
    have nd:=scDF.nd
    refine ⟨_,pss_cons (ps_set (i:=4) nd rfl (Or.inl rfl) pe_str)
      (pss_cons (ps_for PassesOwn.leaving rfl (pi_range2 rfl B.range (pa_cons (pv 3) (pa_cons (pe_callB call_len_seq (by rfl) B.len PySem.boot_len (pa_cons (pv 2) pa_nil)) pa_nil))) (pg_name (i:=5) nd rfl (Or.inl rfl))
        (pss_cons (ps_set (i:=6) nd rfl (Or.inl rfl) (pe_dget hu (pv 0) (pe_cal cEnd hr rfl (pa_cons (pv 4) (pa_cons (pv 1) pa_nil))) (fun _ _=>rfl)))
        (pss_cons (ps_set (i:=7) nd rfl (Or.inl rfl) (pe_ix ix_list (pv 6) (pe_op op_mod (pe_ix ix_seq (pv 2) (pv 5) (fun _ _=>rfl)) (pe_callB call_len_seq (by rfl) B.len PySem.boot_len (pa_cons (pv 6) pa_nil))) (fun _ _=>rfl)))
        (pss_cons (ps_if (pt_cmpR op_eq (pv 7) pe_str (nomark _)) (pss_one (ps_ret (pe_tup (pa_cons (pv 4) (pa_cons (pe_op op_add (pv 5) pe_int) pa_nil))))) pss_nil)
        (pss_one (ps_set (i:=4) nd rfl (Or.inl rfl) (pe_op op_add_str (pv 4) (pv 7))))))))
      (pss_one (ps_raise ok rfl O (by rfl) (pa_cons pe_str pa_nil)))),?_⟩
    have hsq:SqL K H na (nuV ns)∨SqT K H na (nuV ns):=hna.elim (fun h=>.inl (.of h)) fun h=>.inr (.of h)
    refine ⟨_,rfl,_,rfl,na,nuV ns,rfl,hsq,(st:Int),((nuV ns).length:Int),rfl,⟨by omega,by omega,by omega,by rw [nums_len]; omega⟩,?_⟩
    have enn:(((nuV ns).length:Int) - (st:Int)).toNat=ns.length - st:=by rw [nums_len]; omega
    have hne:bk≠[]:=fun z=>by have:=hb.lo; rw [z] at this; simp at this
    refine for_known (known_range (st:Int) _) (fun i σ H'=>H'=H∧∃ (t:S) (x5 x6 x7:Option V),σ=[some (.ref d),some (.int o),some (.ref na),some (.int st),some (sv t),x5,x6,x7]∧t.length=i∧Alv o bk t∧dr (pairsB o bk) o [] (ns.drop st) st=dr (pairsB o bk) o t (ns.drop (st+i)) (st+i))
      ⟨rfl,[],_,_,_,rfl,rfl,Alv.nil hne,rfl⟩ (fun i σ H' _ h=>trivial) ?_ ?_
    · rintro i x σ H' Nx hN hx ⟨rfl,t,x5,x6,x7,rfl,htl,hal,hdr⟩
      rw [enn] at hx
      obtain ⟨j,hj,rfl⟩:=map_get hx
      have hi:i < ns.length - st:=by
        have:=(List.getElem?_eq_some_iff.mp hj).1
        rwa [List.length_range] at this
      rw [List.getElem?_range hi] at hj
      cases hj
      have hnx:ns[st+i]?=some (ns[st+i]'(by omega)):=List.getElem?_eq_getElem _
      generalize ns[st+i]'(by omega)=n at hnx
      have hdd:ns.drop (st+i)=n::ns.drop (st+i+1):=by
        rw [List.drop_eq_getElem_cons (by omega)]
        rw [(List.getElem?_eq_some_iff.mp hnx).2]
      rw [hdd,dr_cons] at hdr
      obtain ⟨pa,dg,hpa⟩:=hP.get hal
      obtain ⟨hpk,hpl⟩:=pick_lt hal n
      refine ⟨_,rfl,_,rfl,_,rfl,t,o,rfl,hb.o1,by omega,d,.ref pa,rfl,dg,?_⟩
      have hv0:(nuV ns)[st+i]?=some (V.int (n:Int)):=by unfold nuV; rw [List.getElem?_map,hnx]; rfl
      have ix0:atI (nuV ns) ((st:Int)+(i:Int))=some (V.int (n:Int)):=by
        have:((st:Int)+(i:Int))=((st+i:Nat):Int):=rfl
        rw [this]; exact atI_nat hv0
      have ixp:atI ((pot (pairsB o bk) (endOf t o)).map sv) ((n:Int) % (((pot (pairsB o bk) (endOf t o)).map sv).length:Int))=some (sv (pick (pairsB o bk) (endOf t o) n)):=by
        rw [List.length_map]
        have:(n:Int) % ((pot (pairsB o bk) (endOf t o)).length:Int)=((n % (pot (pairsB o bk) (endOf t o)).length:Nat):Int):=rfl
        rw [this]
        exact atI_nat (by rw [List.getElem?_map,hpk]; rfl)
      have hmod:(0:Int) < (((pot (pairsB o bk) (endOf t o)).map sv).length:Int):=by rw [List.length_map]; omega
      refine ⟨_,rfl,_,rfl,_,rfl,?_⟩
      have step:∀ (R:V→Hp→Prop),R (V.int (n:Int)) H'→rIx K (.ref na) (.int ((st:Int)+(i:Int))) H' R:=fun R hR=>by
        rcases hna with h | h
        · exact .inl ⟨na,nuV ns,_,_,rfl,rfl,.of h,ix0,hR⟩
        · exact .inr (.inl ⟨na,nuV ns,_,_,rfl,rfl,.of h,ix0,hR⟩)
      refine step _ ?_
      refine ⟨_,rfl,pa,_,rfl,.inl (.of hpa),_,_,rfl,rfl,hmod,pa,_,_,sv (pick (pairsB o bk) (endOf t o) n),rfl,rfl,.of hpa,ixp,?_⟩
      refine ⟨_,rfl,rfl,_,rfl,?_⟩
      rcases hal.pick n with e | ⟨c,e,hal2⟩
      · rw [if_pos e] at hdr
        refine iteD (by rw [e]; rfl) ?_
        refine ⟨_,rfl,_,rfl,_,_,rfl,rfl,by show 2≤sizeLine; decide,fun p hp=>?_⟩
        refine kQ _ _ hdr p _ (Same.upd1 hp) hp ?_
        rw [upd_same]; rfl
      · rw [if_neg (by rw [e]; simp),e] at hdr
        refine iteDF (by rw [e]; intro z; cases z) ?_
        rw [e]
        refine ⟨_,rfl,_,rfl,tx t,tx [c],rfl,rfl,by rw [tx_len,tx_len,sizeLine_eq]; show _+1≤_; omega,hN _ _ ⟨rfl,t++[c],_,_,_,by rw [tx_app]; rfl,by rw [List.length_append]; simp [htl],hal2,?_⟩⟩
        rw [hdr]; rfl
    · rintro σ H' ⟨rfl,t,x5,x6,x7,rfl,htl,hal,hdr⟩
      have e9:ns.drop (st+(ns.length - st))=[]:=List.drop_of_length_le (by omega)
      rw [List.length_map,List.length_range,enn,e9] at hdr
      exact ⟨by show 1≤sizeLine; decide,kE hdr⟩
end
end Kn.Dr
end
section
namespace Kn.Dr
open PySem L2 Kn
theorem once {C G R:Prop} (main:(C→R)→G) (cont:C→R):G:=main cont
theorem idx_first {l:List S}{x:S} (h:x∈l):(l.map tx)[l.idxOf x]?=some (tx x)∧∀ i,i < l.idxOf x→(l.map tx)[i]?≠some (tx x):=by
  have h2:=List.idxOf_lt_length_iff.mpr h
  refine ⟨?_,fun i hi z=>?_⟩
  · rw [List.getElem?_map,List.getElem?_eq_getElem h2,List.getElem_idxOf h2]; rfl
  · have hil:i < l.length:=by omega
    rw [List.getElem?_map,List.getElem?_eq_getElem hil] at z
    have e:=tx_inj (Option.some.inj z)
    have h3:l.findIdx (· == x)≤i:=by
      by_cases hc:i < l.findIdx (· == x)
      · have:=List.not_of_lt_findIdx hc
        rw [e] at this
        simp at this
      · omega
    have h4:l.idxOf x=l.findIdx (· == x):=rfl
    omega
section
variable {P:Program}{w:World}{K:PySem.W.Frag}{mg:Str→Option Value}{base:Heap}
theorem rp_elD {H:Hp}{qs:List (S × S)}{xs:List V}{i:Nat}{y:V} (rp:Reps K H (qs.map elD) xs) (hx:xs[i]?=some y):∃ (p:S × S) (a:Addr),qs[i]?=some p∧y=.ref a∧SqT K H a [sv p.1,sv p.2]:=by
  obtain ⟨dd,hdd,rx⟩:=rp.get hx
  obtain ⟨p,hp,rfl⟩:=map_get hdd
  obtain ⟨at',xs',rfl,hsq,y1,ys1',rfl,ry1,y2,ys2',rfl,ry2,hnil⟩:=rx
  have ey1:y1=sv p.1:=ry1
  have ey2:y2=sv p.2:=ry2
  have en:ys2'=[]:=hnil
  subst ey1 ey2 en
  exact ⟨p,at',hp,rfl,hsq⟩
abbrev sDrn:Stmt:=top 50
theorem scDrn:FnScope ["book", "order", "numbers"] ["book", "order", "numbers"] (defScope sDrn):=⟨rfl,rfl,rfl,by decide +kernel,rfl,by decide +kernel,by decide +kernel⟩
def spDrn (nb no nu ts:Addr):Sp:=fun vs H Q E=>∃ v u x d e g,vs=[v,u,x]∧Thg H d v∧Thg H e u∧Thg H g x∧sml d=true∧sml e=true∧sml g=true ∧
  (isBookD d=false→∀ H',Same H H'→E (.ref nb) none H')∧(isBookD d=true→isOrderD e=false→∀ H',Same H H'→E (.ref no) none H')∧(isBookD d=true→isOrderD e=true→isNumsD g=false→∀ H',Same H H'→E (.ref nu) none H') ∧
  (∀ bk o ns,Bk bk o→d=.tuple (bk.map fun x=>PyData.str (tx x))→u=.int (o:Nat)→NumsD g ns→ns.length≤99→(pairsB o bk).length < 64 ∧
    (dr (pairsB o bk) o [] ns 0=none→∀ H',Same H H'→E (.ref ts) none H') ∧
    (∀ x q,dr (pairsB o bk) o [] ns 0=some (x,q)→∀ (p:Addr) (H':Hp),Same H H'→H p=none→H' p=some (.tup [sv x,.int (q:Int)])→Q (.ref p) H'))
theorem ok_drn {f:Addr}{fd:FuncData}{nb no nu ts:Addr} (F:Fun K "drawn" "drawn" sDrn f fd) (cNB:CalR P w K mg base 3 "need_book" ["thing"] (spRef nb isBookD)) (cNO:CalR P w K mg base 3 "need_order" ["thing"] (spRef no isOrderD)) (cNu:CalR P w K mg base 3 "need_numbers" ["thing"] (spRef nu isNumsD))
    (cP:Cal P w K mg base 4 "pots_by_end" ["book", "order"] spPots) (cD:CalR P w K mg base 2 "drawn_from" ["pots", "order", "numbers", "start"] (spDF ts)):FnOk P w K mg base (CXr P w) 5 f fd ["book", "order", "numbers"] (spDrn nb no nu ts):=by
  refine F.okR scDrn (fun vs H Q E h=>?_) (fun cdv A outer s H vs Q E hr h ok=>?_)
  · obtain ⟨v,u,x,d,e,g,rfl,_⟩:=h; rfl
  · obtain ⟨v,u,x,d,e,g,rfl,hv,hu,hx,sd,se,sg,kb,ko,kn,kg⟩:=h
    have r2:=hr.mono (j:=2) (by decide)
    have r3:=hr.mono (j:=3) (by decide)
    refine ⟨_,pss_cons (ps_expr (pe_calR cNB ok.pass r3 rfl (pa_cons (pv 0) pa_nil))) (pss_cons (ps_expr (pe_calR cNO ok.pass r3 rfl (pa_cons (pv 1) pa_nil))) (pss_cons (ps_expr (pe_calR cNu ok.pass r3 rfl (pa_cons (pv 2) pa_nil)))
      (pss_one (ps_ret (pe_calR cD ok.pass r2 rfl (pa_cons (pe_cal cP hr rfl (pa_cons (pv 0) (pa_cons (pv 1) pa_nil))) (pa_cons (pv 1) (pa_cons (pv 2) (pa_cons pe_int pa_nil))))))))),?_⟩
    refine ⟨_,rfl,v,d,rfl,hv,sd,fun g1 H1 s1=>?_,fun b1 H1 s1=>kb b1 H1 s1⟩
    refine ⟨_,rfl,u,e,rfl,Thg.same s1 _ _ hu,se,fun g2 H2 s2'=>?_,fun b2 H2 s2'=>ko g1 b2 _ (s1.trans s2')⟩
    have s2:=s1.trans s2'
    refine ⟨_,rfl,x,g,rfl,Thg.same s2 _ _ hx,sg,fun g3 H3 s3'=>?_,fun b3 H3 s3'=>kn g1 g2 b3 _ (s2.trans s3')⟩
    have s3:=s2.trans s3'
    obtain ⟨c,bk,rfl,hc,hbk,rfl⟩:=thg_book hv g1
    obtain ⟨o,rfl,o1,o3⟩:=thg_order hu g2
    obtain ⟨ns,hns,h99⟩:=nums_inv g3
    have hb:Bk bk o:=⟨hbk,o1,o3⟩
    obtain ⟨h64,kE,kQ⟩:=kg bk o ns hb rfl rfl hns h99
    refine ⟨_,rfl,_,rfl,c,bk,o,rfl,s3 _ _ hc,hb,h64,fun pd H4 s4 hP=>?_⟩
    have s34:=s3.trans s4
    refine ⟨_,rfl,_,rfl,pd,x,bk,o,0,ns,rfl,hb,h64,hP,(hns.thg hx).same s34,h99,Nat.zero_le _,fun h=>kE h H4 s34,fun x q h p H5 s5 hp hq=>kQ x q h p H5 (s34.trans s5) (s34.free hp) hq⟩
abbrev sFD:Stmt:=top 51
theorem scFD:FnScope ["book", "order", "wish", "barred", "numbers", "pots", "pair"] ["book", "order", "wish", "barred", "numbers"] (defScope sFD):=⟨rfl,rfl,rfl,by decide +kernel,rfl,by decide +kernel,by decide +kernel⟩
def okW (lo hi:Int) (hd tl:S) (out:List S) (x:S):Bool:=formB lo hi hd tl x && !decide (x∈out)
def spFD (ts:Addr):Sp:=fun vs H Q E=>∃ (c wa ba:Addr) (nv:V) (bk:List S) (o:Nat) (lo hi:Int) (hd tl:S) (wb:List S) (to:Bool) (out:List S) (ns:List Nat),vs=[.ref c,.int o,.ref wa,.ref ba,nv]∧H c=some (.tup (bkV bk))∧Bk bk o∧(pairsB o bk).length < 64∧WishAt H wa lo hi hd tl wb to∧H ba=some (.lst (bkV out))∧NumsAt H nv ns∧ns.length≤99 ∧
  (fdr (pairsB o bk) o (okW lo hi hd tl out) ns (ns.length+1) 0=none→∀ H',Same H H'→E (.ref ts) none H') ∧
  (∀ x q,fdr (pairsB o bk) o (okW lo hi hd tl out) ns (ns.length+1) 0=some (x,q)→∀ (p:Addr) (H':Hp),Same H H'→H p=none→H' p=some (.tup [sv x,.int (q:Int)])→Q (.ref p) H')
theorem ok_FD {f:Addr}{fd:FuncData}{ts:Addr} (F:Fun K "first_drawn" "first_drawn" sFD f fd) (cP:Cal P w K mg base 4 "pots_by_end" ["book", "order"] spPots) (cD:CalR P w K mg base 2 "drawn_from" ["pots", "order", "numbers", "start"] (spDF ts))
    (cF:Cal P w K mg base 1 "has_form" ["wish", "name"] spForm):FnOk P w K mg base (CXr P w) 5 f fd ["book", "order", "wish", "barred", "numbers"] (spFD ts):=by
  refine F.okR scFD (fun vs H Q E h=>?_) (fun cdv A outer s H vs Q E hr h ok=>?_)
  · obtain ⟨c,wa,ba,nv,bk,o,lo,hi,hd,tl,wb,to,out,ns,rfl,_⟩:=h; rfl
  · obtain ⟨c,wa,ba,nv,bk,o,lo,hi,hd,tl,wb,to,out,ns,rfl,hc,hb,h64,hw,hba,hnv,h99,kE,kQ⟩:=h
    have nd:=scFD.nd
    have r2:=hr.mono (j:=2) (by decide)
    have r1:=hr.mono (j:=1) (by decide)
    refine ⟨_,pss_cons (ps_set (i:=5) nd rfl (Or.inl rfl) (pe_cal cP hr rfl (pa_cons (pv 0) (pa_cons (pv 1) pa_nil))))
      (pss_cons (ps_set (i:=6) nd rfl (Or.inl rfl) (pe_calR cD ok.pass r2 rfl (pa_cons (pv 5) (pa_cons (pv 1) (pa_cons (pv 4) (pa_cons pe_int pa_nil))))))
      (pss_cons (ps_while PassesOwn.leaving (PW.pt (pw_or (pt_not (pt_val (pe_cal cF r1 rfl (pa_cons (pv 2) (pa_cons (pe_ix ix_tup (pv 6) pe_int (fun _ _=>rfl)) pa_nil))))) (pw_or1 (pt_cmpR op_in_seq (pe_ix ix_tup (pv 6) pe_int (fun _ _=>rfl)) (pv 3) (by with_unfolding_all rfl)))))
        (pss_one (ps_set (i:=6) nd rfl (Or.inl rfl) (pe_calR cD ok.pass r2 rfl (pa_cons (pv 5) (pa_cons (pv 1) (pa_cons (pv 4) (pa_cons (pe_ix ix_tup (pv 6) pe_int (fun _ _=>rfl)) pa_nil))))))))
      (pss_one (ps_ret (pv 6))))),?_⟩
    have hne:bk≠[]:=fun z=>by have:=hb.lo; rw [z] at this; simp at this
    refine ⟨_,rfl,_,rfl,c,bk,o,rfl,hc,hb,h64,fun pd H1 s1 hP=>?_⟩
    generalize hfull:fdr (pairsB o bk) o (okW lo hi hd tl out) ns (ns.length+1) 0=full at kE kQ
    have hfull0:=hfull
    unfold fdr at hfull
    rw [List.drop_zero] at hfull
    refine ⟨_,rfl,_,rfl,_,rfl,pd,nv,bk,o,0,ns,rfl,hb,h64,hP,hnv.same s1,h99,Nat.zero_le _,fun h=>?_,fun x q h p H2 s2 hp hq=>?_⟩
    · rw [List.drop_zero] at h
      rw [h] at hfull
      exact kE hfull.symm H1 s1
    · rw [List.drop_zero] at h
      rw [h] at hfull
      have s12:=s1.trans s2
      have hdl:=dr_len ns [] 0 x q (Alv.nil hne) h
      have hxl:x.length≤99:=by have:=hdl.2.2; have:=hdl.2.1; simp only [List.length_nil] at *; omega
      have hst:full=if okW lo hi hd tl out x=true then some (x,q) else fdr (pairsB o bk) o (okW lo hi hd tl out) ns (ns.length+1) q:=by
        rw [← hfull]
        show (if _ then _ else _)=_
        rw [fdr_fuel _ _ _ ns ns.length (ns.length+1) q (by omega) (by omega)]
      refine ⟨fun m σ H'=>∃ (p:Addr) (x:S) (q:Nat),σ=[some (.ref c),some (.int o),some (.ref wa),some (.ref ba),some nv,some (.ref pd),some (.ref p)]∧H' p=some (.tup [sv x,.int (q:Int)])∧H p=none∧Same H1 H'∧m=ns.length - q∧q≤ns.length∧x.length≤99 ∧
          full=if okW lo hi hd tl out x=true then some (x,q) else fdr (pairsB o bk) o (okW lo hi hd tl out) ns (ns.length+1) q,⟨_,p,x,q,rfl,hq,s1.free hp,s2,rfl,by omega,hxl,hst⟩,?_⟩
      clear hst hxl hdl s12 hq hp s2 h hfull hfull0
      clear p x q H2
      rintro m σ H' ⟨p,x,q,rfl,hp,hpn,sm,rfl,hqn,hxl,hst⟩
      have s1m:=s1.trans sm
      refine ⟨_,rfl,_,rfl,p,_,0,sv x,rfl,rfl,.of hp,rfl,wa,lo,hi,hd,tl,wb,to,x,rfl,hw.same s1m,by omega,_,rfl,?_⟩
      have hend:okW lo hi hd tl out x=true→Q (.ref p) H':=fun ho=>by
        rw [if_pos ho] at hst
        exact kQ x q hst p H' s1m hpn hp
      apply once (C:=okW lo hi hd tl out x=false)
      case main =>
        intro cont
        cases e1:formB lo hi hd tl x with
        | false=>exact iteT (iteT (cont (by simp only [okW,e1,Bool.false_and])))
        | true =>
          refine iteF ?_
          refine ⟨_,rfl,p,_,0,sv x,rfl,rfl,.of hp,rfl,_,rfl,ba,bkV out,rfl,.inl (.of (s1m _ _ hba)),rfl,flat_bk _,_,rfl,?_⟩
          rw [inV_bk]
          by_cases hin:x∈out
          · exact iteD hin (cont (by simp only [okW,decide_eq_true hin,Bool.not_true,Bool.and_false]))
          · exact iteDF hin ⟨_,rfl,hend (by simp only [okW,e1,decide_eq_false hin,Bool.not_false,Bool.and_true])⟩
      case cont =>
        intro hno
        rw [if_neg (by rw [hno]; decide)] at hst
        have hst2:=hst
        unfold fdr at hst
        refine ⟨_,fun _ _ h=>h,?_⟩
        refine ⟨_,rfl,_,rfl,_,rfl,_,rfl,p,_,1,.int (q:Int),rfl,rfl,.of hp,rfl,pd,nv,bk,o,q,ns,rfl,hb,h64,hP.same sm,hnv.same s1m,h99,hqn,fun h=>?_,fun x2 q2 h p2 H3 s3 hp2 hq2=>?_⟩
        · rw [h] at hst
          exact kE hst H' s1m
        · rw [h] at hst
          have hdl:=dr_len _ [] q x2 q2 (Alv.nil hne) h
          rw [List.length_drop] at hdl
          have h9:x2.length≤99:=by have:=hdl.2.2; have:=hdl.2.1; simp only [List.length_nil] at *; omega
          refine ⟨ns.length - q2,by omega,p2,x2,q2,rfl,hq2,s1m.free hp2,sm.trans s3,rfl,by omega,h9,?_⟩
          rw [hst]
          show (if _ then _ else _)=_
          rw [fdr_fuel _ _ _ ns ns.length (ns.length+1) q2 (by omega) (by omega)]
abbrev sDFi:Stmt:=top 52
theorem scDFi:FnScope ["book", "order", "wish", "numbers"] ["book", "order", "wish", "numbers"] (defScope sDFi):=⟨rfl,rfl,rfl,by decide +kernel,rfl,by decide +kernel,by decide +kernel⟩
def spDFi (nb no nw nu ts:Addr):Sp:=fun vs H Q E=>∃ v u y x d e z g,vs=[v,u,y,x]∧Thg H d v∧Thg H e u∧Thg H z y∧Thg H g x∧sml d=true∧sml e=true∧sml z=true∧SeqAt.shaped z=true∧sml g=true ∧
  (isBookD d=false→∀ H',Same H H'→E (.ref nb) none H')∧(isBookD d=true→isOrderD e=false→∀ H',Same H H'→E (.ref no) none H')∧(isBookD d=true→isOrderD e=true→isWishD z=false→∀ H',Same H H'→E (.ref nw) none H')∧(isBookD d=true→isOrderD e=true→isWishD z=true→isNumsD g=false→∀ H',Same H H'→E (.ref nu) none H') ∧
  (∀ bk o lo hi hd tl ba to ns,Bk bk o→d=.tuple (bk.map fun x=>PyData.str (tx x))→u=.int (o:Nat)→GW lo hi hd tl ba→z=wishD lo hi hd tl ba to→NumsD g ns→ns.length≤99→(pairsB o bk).length < 64 ∧
    (fdr (pairsB o bk) o (fitsB bk lo hi hd tl ba to) ns (ns.length+1) 0=none→∀ H',Same H H'→E (.ref ts) none H') ∧
    (∀ x q,fdr (pairsB o bk) o (fitsB bk lo hi hd tl ba to) ns (ns.length+1) 0=some (x,q)→∀ (p:Addr) (H':Hp),Same H H'→H p=none→H' p=some (.tup [sv x,.int (q:Int)])→Q (.ref p) H'))
theorem ok_dfi {f:Addr}{fd:FuncData}{nb no nw nu ts:Addr} (F:Fun K "drawn_fitting" "drawn_fitting" sDFi f fd) (cNB:CalR P w K mg base 3 "need_book" ["thing"] (spRef nb isBookD)) (cNO:CalR P w K mg base 3 "need_order" ["thing"] (spRef no isOrderD)) (cNW:CalR P w K mg base 4 "need_wish" ["thing"] (spRefW nw)) (cNu:CalR P w K mg base 3 "need_numbers" ["thing"] (spRef nu isNumsD))
    (cO:Cal P w K mg base 1 "left_out" ["book", "wish"] spOut) (cD:CalR P w K mg base 5 "first_drawn" ["book", "order", "wish", "barred", "numbers"] (spFD ts)):FnOk P w K mg base (CXr P w) 6 f fd ["book", "order", "wish", "numbers"] (spDFi nb no nw nu ts):=by
  refine F.okR scDFi (fun vs H Q E h=>?_) (fun cdv A outer s H vs Q E hr h ok=>?_)
  · obtain ⟨v,u,y,x,d,e,z,g,rfl,_⟩:=h; rfl
  · obtain ⟨v,u,y,x,d,e,z,g,rfl,hv,hu,hy,hx,sd,se,sz,shz,sg,kb,ko,kw,kn,kg⟩:=h
    have r1:=hr.mono (j:=1) (by decide)
    have r3:=hr.mono (j:=3) (by decide)
    have r4:=hr.mono (j:=4) (by decide)
    refine ⟨_,pss_cons (ps_expr (pe_calR cNB ok.pass r3 rfl (pa_cons (pv 0) pa_nil))) (pss_cons (ps_expr (pe_calR cNO ok.pass r3 rfl (pa_cons (pv 1) pa_nil))) (pss_cons (ps_expr (pe_calR cNW ok.pass r4 rfl (pa_cons (pv 2) pa_nil))) (pss_cons (ps_expr (pe_calR cNu ok.pass r3 rfl (pa_cons (pv 3) pa_nil)))
      (pss_one (ps_ret (pe_calR cD ok.pass hr rfl (pa_cons (pv 0) (pa_cons (pv 1) (pa_cons (pv 2) (pa_cons (pe_cal cO r1 rfl (pa_cons (pv 0) (pa_cons (pv 2) pa_nil))) (pa_cons (pv 3) pa_nil))))))))))),?_⟩
    refine ⟨_,rfl,v,d,rfl,hv,sd,fun g1 H1 s1=>?_,fun b1 H1 s1=>kb b1 H1 s1⟩
    refine ⟨_,rfl,u,e,rfl,Thg.same s1 _ _ hu,se,fun g2 H2 s2'=>?_,fun b2 H2 s2'=>ko g1 b2 _ (s1.trans s2')⟩
    have s2:=s1.trans s2'
    refine ⟨_,rfl,y,z,rfl,Thg.same s2 _ _ hy,sz,shz,fun g4 H4 s4'=>?_,fun b4 H4 s4'=>kw g1 g2 b4 _ (s2.trans s4')⟩
    have s4:=s2.trans s4'
    refine ⟨_,rfl,x,g,rfl,Thg.same s4 _ _ hx,sg,fun g3 H3 s3'=>?_,fun b3 H3 s3'=>kn g1 g2 g4 b3 _ (s4.trans s3')⟩
    have s3:=s4.trans s3'
    obtain ⟨c,bk,rfl,hc,hbk,rfl⟩:=thg_book hv g1
    obtain ⟨o,rfl,o1,o3⟩:=thg_order hu g2
    obtain ⟨lo,hi,hd,tl,ba,to,rfl,gw⟩:=wish_inv g4
    obtain ⟨a,rfl,hw⟩:=thg_wish hy
    obtain ⟨ns,hns,h99⟩:=nums_inv g3
    have hb:Bk bk o:=⟨hbk,o1,o3⟩
    obtain ⟨h64,kE,kQ⟩:=kg bk o lo hi hd tl ba to ns hb rfl rfl gw rfl hns h99
    refine ⟨_,rfl,_,rfl,_,rfl,_,rfl,_,rfl,c,a,bk,lo,hi,hd,tl,ba,to,rfl,s3 _ _ hc,hb.hi,hw.same s3,gw.len,fun l out H5 s5 hl hout=>?_⟩
    have s35:=s3.trans s5
    have eok:okW lo hi hd tl out=fitsB bk lo hi hd tl ba to:=by
      funext x
      unfold okW fitsB
      rw [hout]
    refine ⟨_,rfl,c,a,l,x,bk,o,lo,hi,hd,tl,ba,to,out,ns,rfl,s35 _ _ hc,hb,h64,hw.same s35,hl,(hns.thg hx).same s35,h99,?_⟩
    rw [eok]
    exact ⟨fun h H6 s6=>kE h H6 (s35.trans s6),fun x q h p H6 s6 hp hq=>kQ x q h p H6 (s35.trans s6) (s35.free hp) hq⟩
abbrev sNF:Stmt:=top 53
theorem scNF:FnScope ["book", "order", "name", "pots", "found", "end", "letter"] ["book", "order", "name"] (defScope sNF):=⟨rfl,rfl,rfl,by decide +kernel,rfl,by decide +kernel,by decide +kernel⟩
def spNF (nb no nn nm:Addr):Sp:=fun vs H Q E=>∃ v u x d e g,vs=[v,u,x]∧Thg H d v∧Thg H e u∧Thg H g x∧sml d=true∧sml e=true∧sml g=true ∧
  (isBookD d=false→∀ H',Same H H'→E (.ref nb) none H')∧(isBookD d=true→isOrderD e=false→∀ H',Same H H'→E (.ref no) none H')∧(isBookD d=true→isOrderD e=true→isNameD g=false→∀ H',Same H H'→E (.ref nn) none H') ∧
  (∀ bk o nm',Bk bk o→d=.tuple (bk.map fun x=>PyData.str (tx x))→u=.int (o:Nat)→isNm nm'→g=.str (tx nm')→(pairsB o bk).length < 64 ∧
    (¬ (∀ q∈pairs1 o nm',q∈pairsB o bk)→∀ H',Same H H'→E (.ref nm) none H') ∧
    ((∀ q∈pairs1 o nm',q∈pairsB o bk)→∀ (l:Addr) (H':Hp),Same H H'→H l=none→H' l=some (.lst (nuV (numsFor (pairsB o bk) (pairs1 o nm'))))→Q (.ref l) H'))
theorem ok_NF {f:Addr}{fd:FuncData}{nb no nn nm:Addr} (F:Fun K "numbers_for" "numbers_for" sNF f fd) (O:XCls K mg "NotMade" nm) (cNB:CalR P w K mg base 3 "need_book" ["thing"] (spRef nb isBookD)) (cNO:CalR P w K mg base 3 "need_order" ["thing"] (spRef no isOrderD)) (cNN:CalR P w K mg base 2 "need_name" ["thing"] (spRef nn isNameD))
    (cP:Cal P w K mg base 4 "pots_by_end" ["book", "order"] spPots) (cE:Cal P w K mg base 2 "ends_and_letters" ["name", "order"] (spEnds K)):FnOk P w K mg base (CXr P w) 5 f fd ["book", "order", "name"] (spNF nb no nn nm):=by
  refine F.okR scNF (fun vs H Q E h=>?_) (fun cdv A outer s H vs Q E hr h ok=>?_)
  · obtain ⟨v,u,x,d,e,g,rfl,_⟩:=h; rfl
  · obtain ⟨v,u,x,d,e,g,rfl,hv,hu,hx,sd,se,sg,kb,ko,kn,kg⟩:=h
    have hu1:=hu_of hr
    have nd:=scNF.nd
    have r2:=hr.mono (j:=2) (by decide)
    have r3:=hr.mono (j:=3) (by decide)
    refine ⟨_,pss_cons (ps_expr (pe_calR cNB ok.pass r3 rfl (pa_cons (pv 0) pa_nil))) (pss_cons (ps_expr (pe_calR cNO ok.pass r3 rfl (pa_cons (pv 1) pa_nil))) (pss_cons (ps_expr (pe_calR cNN ok.pass r2 rfl (pa_cons (pv 2) pa_nil)))
      (pss_cons (ps_set (i:=3) nd rfl (Or.inl rfl) (pe_cal cP hr rfl (pa_cons (pv 0) (pa_cons (pv 1) pa_nil))))
      (pss_cons (ps_set (i:=4) nd rfl (Or.inl rfl) (pe_lst pa_nil))
      (pss_cons (ps_for PassesOwn.leaving rfl (pi_list (pe_cal cE r2 rfl (pa_cons (pv 2) (pa_cons (pv 1) pa_nil)))) (pg_tup rfl (pgs_cons (pg_name (i:=5) nd rfl (Or.inl rfl)) (pgs_cons (pg_name (i:=6) nd rfl (Or.inl rfl)) pgs_nil)))
        (pss_cons (ps_if (pt_cmpR op_notIn_seq (pv 6) (pe_dget hu1 (pv 3) (pv 5) (fun _ _=>rfl)) (by with_unfolding_all rfl)) (pss_one (ps_raise ok rfl O (by rfl) (pa_cons pe_str pa_nil))) pss_nil)
        (pss_one (ps_expr (pe_bm PySem.F.plainAttrs_list PySem.F.slot_list_append PySem.F.type_list_append mt_append (pv 4) (pa_cons (pe_bm PySem.F.plainAttrs_list PySem.F.slot_list_index PySem.F.type_list_index mt_indexT (pe_dget hu1 (pv 3) (pv 5) (fun _ _=>rfl)) (pa_cons (pv 6) pa_nil)) pa_nil))))))
      (pss_one (ps_ret (pv 4)))))))),?_⟩
    refine ⟨_,rfl,v,d,rfl,hv,sd,fun g1 H1 s1=>?_,fun b1 H1 s1=>kb b1 H1 s1⟩
    refine ⟨_,rfl,u,e,rfl,Thg.same s1 _ _ hu,se,fun g2 H2 s2'=>?_,fun b2 H2 s2'=>ko g1 b2 _ (s1.trans s2')⟩
    have s2:=s1.trans s2'
    refine ⟨_,rfl,x,g,rfl,Thg.same s2 _ _ hx,sg,fun g3 H3 s3'=>?_,fun b3 H3 s3'=>kn g1 g2 b3 _ (s2.trans s3')⟩
    have s3:=s2.trans s3'
    obtain ⟨c,bk,rfl,hc,hbk,rfl⟩:=thg_book hv g1
    obtain ⟨o,rfl,o1,o3⟩:=thg_order hu g2
    obtain ⟨y,rfl,hy,rfl⟩:=thg_name hx g3
    have hb:Bk bk o:=⟨hbk,o1,o3⟩
    obtain ⟨h64,kE,kQ⟩:=kg bk o y hb rfl rfl hy rfl
    have hne:bk≠[]:=fun z=>by have:=hb.lo; rw [z] at this; simp at this
    have hy8:=hy.2.1
    refine ⟨_,rfl,_,rfl,c,bk,o,rfl,s3 _ _ hc,hb,h64,fun pd H4 s4 hP=>?_⟩
    refine ⟨by show 0≤sizeLine; decide,fun lo hlo=>?_⟩
    have s5:Same H4 (upd H4 lo (.lst [])):=Same.upd1 hlo
    have hlo5:upd H4 lo (.lst []) lo=some (.lst []):=upd_same
    have hP5:=hP.same s5
    generalize upd H4 lo (.lst [])=H5 at s5 hlo5 hP5
    refine ⟨_,rfl,_,rfl,y,o,rfl,o1,by omega,fun l xs H6 s6 hl hll rp=>?_⟩
    refine ⟨l,rfl,⟨_,.of hll⟩,?_⟩
    have hlo6:=s6 _ _ hlo5
    have hllo:l≠lo:=fun z=>by rw [z,hlo5] at hl; cases hl
    have s36:Same H H6:=(s3.trans s4).trans (s5.trans s6)
    have hloH:H lo=none:=(s3.trans s4).free hlo
    have hP6:=hP5.same s6
    have hxl:xs.length=y.length+1:=by have:=rp.length; rw [← this,List.length_map,pairs1_len]
    have hpn:∀ ys,¬ Rd H6 lo (.tup ys):=fun ys z=>by rcases z with z | ⟨_,z⟩ <;> rw [hlo6] at z <;> cases z
    refine for_known (known_list K l xs) (fun i σ H'=>∃ x5 x6:Option V,σ=[some (.ref c),some (.int o),some (sv y),some (.ref pd),some (.ref lo),x5,x6]∧SameX lo H6 H'∧H' lo=some (.lst (nuV (numsFor (pairsB o bk) ((pairs1 o y).take i))))∧(∀ q∈(pairs1 o y).take i,q∈pairsB o bk)∧(i≤y.length→Alv o bk (y.take i)))
      ⟨_,_,rfl,SameX.refl _,hlo6,by simp,fun _=>Alv.nil hne⟩ (fun i σ H' _ h=>by obtain ⟨_,_,_,h,_⟩:=h; exact .of (h _ _ hllo hll)) ?_ ?_
    · rintro i z σ H' Nx hN hz ⟨x5,x6,rfl,sx,hlo',hall,hal⟩
      obtain ⟨p,at',ep,rfl,hsq⟩:=rp_elD rp hz
      have hi:i < y.length+1:=by have:=(List.getElem?_eq_some_iff.mp ep).1; rwa [pairs1_len] at this
      have hpe:p=(endOf (y.take i) o,(y.drop i).take 1):=by
        have h1:=ep
        unfold pairs1 at h1
        rw [List.getElem?_map,List.getElem?_range hi] at h1
        exact (Option.some.inj h1).symm
      have hsq':SqT K H' at' [sv p.1,sv p.2]:=by
        rcases hsq with h | h
        · have hb':at'≠lo:=fun z=>by subst z; exact hpn _ h
          rcases h with h | ⟨ob,h⟩
          · exact .inl (.inl (sx _ _ hb' h))
          · exact .inl (.inr ⟨ob,sx _ _ hb' h⟩)
        · exact .inr h
      have halp:∃ l,(p.1,l)∈pairsB o bk:=by rw [hpe]; exact hal (by omega)
      have hP':PotsAt H' pd (pairsB o bk):=by
        obtain ⟨pa,h1,h2,h3,h4⟩:=hP6
        have hd1:pd≠lo:=fun z=>by rw [z,hlo6] at h1; cases h1
        refine ⟨pa,sx _ _ hd1 h1,h2,h3,fun r hr=>?_⟩
        have h5:=h4 r hr
        have hr1:r.2≠lo:=fun z=>by
          rw [z,hlo6] at h5
          have h6:([]:List V)=(pot (pairsB o bk) r.1).map sv:=HO.lst.inj (Option.some.inj h5)
          obtain ⟨l',hl'⟩:=(h3 r.1).mp (List.mem_map.mpr ⟨r,hr,rfl⟩)
          have h7:=(pot_mem _ _ _).mpr hl'
          rw [List.map_eq_nil_iff.mp h6.symm] at h7
          cases h7
        exact sx _ _ hr1 h5
      obtain ⟨ra,dg,hra⟩:=hP'.get halp
      refine ⟨at',_,rfl,hsq',rfl,_,_,rfl,_,_,rfl,rfl,?_⟩
      refine ⟨_,rfl,_,rfl,_,rfl,pd,.ref ra,rfl,dg,ra,_,rfl,.inl (.of hra),rfl,flat_bk _,_,rfl,?_⟩
      rw [show (pot (pairsB o bk) p.1).map sv=bkV (pot (pairsB o bk) p.1) from rfl,inV_bk]
      by_cases hin:p.2∈pot (pairsB o bk) p.1
      · have hm:=(pot_mem _ _ _).mp hin
        refine iteNS hin ?_
        obtain ⟨j1,j2⟩:=idx_first hin
        have hjl:(pot (pairsB o bk) p.1).idxOf p.2 < 1000:=by
          have h1:=List.idxOf_lt_length_iff.mpr hin
          have h2:=pot_len (pairsB o bk) p.1
          have h3:=tot_le (pairsB o bk) p.1
          omega
        have hra2:H' ra=some (.lst (((pot (pairsB o bk) p.1).map tx).map V.str)):=by rw [hra,List.map_map]; rfl
        have hnl:(nuV (numsFor (pairsB o bk) ((pairs1 o y).take i))).length < sizeLine:=by
          rw [nums_len]
          unfold numsFor
          rw [List.length_map,List.length_take,sizeLine_eq]; omega
        refine ⟨_,rfl,.inl ⟨rfl,_,.of hlo'⟩,_,rfl,_,rfl,pd,.ref ra,rfl,dg,.inl ⟨rfl,_,.of hra⟩,_,rfl,ra,(pot (pairsB o bk) p.1).map tx,tx p.2,_,rfl,rfl,hra2,j1,j2,hjl,lo,_,_,rfl,rfl,hlo',hnl,hN _ _ ⟨_,_,rfl,sx.updf,?_,?_,fun hi'=>?_⟩⟩
        · rw [upd_same,take_snoc ep]
          unfold numsFor nuV
          rw [List.map_append,List.map_append]; rfl
        · intro q hq
          rw [take_snoc ep] at hq
          rcases List.mem_append.mp hq with z | z
          · exact hall q z
          · rw [List.mem_singleton.mp z]; exact hm
        · have hl2:p.2=[y[i]'(by omega)]:=by
            rw [hpe]
            show (y.drop i).take 1=_
            rw [List.drop_eq_getElem_cons (by omega)]; rfl
          have hm2:=hm
          have hp1:p.1=endOf (y.take i) o:=by rw [hpe]
          have hm3:(endOf (y.take i) o,[y[i]'(by omega)])∈pairsB o bk:=by rw [← hp1,← hl2]; exact hm
          rw [List.take_succ_eq_append_getElem (by omega)]
          exact Alv.next hm3
      · refine ite_nn hin ?_
        refine ⟨by show 1≤sizeLine; decide,kE (fun hq=>hin ((pot_mem _ _ _).mpr (hq p (List.mem_of_getElem? ep)))) H' (SameX.same s36 hloH sx)⟩
    · rintro σ H' ⟨x5,x6,rfl,sx,hlo',hall,hal⟩
      have e1:(pairs1 o y).take xs.length=pairs1 o y:=by rw [hxl,← pairs1_len o y,List.take_length]
      rw [e1] at hlo' hall
      exact ⟨_,rfl,kQ hall lo H' (SameX.same s36 hloH sx) hloH hlo'⟩
end
end Kn.Dr
end
section
namespace Kn
open PySem L2
theorem ris_iff:∀ l:List S,risT l=true↔l.Pairwise (· < ·)
  | []=>by simp [risT]
  | [x]=>by simp [risT]
  | x::y::l=>by
    have ih:=ris_iff (y::l)
    have e:risT (x::y::l)=(decide (x < y) && risT (y::l)):=by simp [risT]
    rw [e,Bool.and_eq_true,decide_eq_true_eq,ih]
    constructor
    · rintro ⟨h1,h2⟩
      refine List.pairwise_cons.mpr ⟨fun z hz=>?_,h2⟩
      rcases List.mem_cons.mp hz with rfl | hz
      · exact h1
      · exact List.lt_trans h1 ((List.pairwise_cons.mp h2).1 z hz)
    · intro h
      exact ⟨(List.pairwise_cons.mp h).1 y (List.mem_cons_self ..),(List.pairwise_cons.mp h).2⟩
def names6:List S:=[[97],[97,97],[97,98],[98],[98,97],[122]]
def ends7:List S:=[[],[],[97],[98],[97,98],[97,98,97],[122]]
theorem names6_V:[V.str "a",V.str "aa",V.str "ab",V.str "b",V.str "ba",V.str "z"]=bkV names6:=by
  have e1:("a" : Str)=tx [97]:=by decide +kernel
  have e2:("aa" : Str)=tx [97,97]:=by decide +kernel
  have e3:("ab" : Str)=tx [97,98]:=by decide +kernel
  have e4:("b" : Str)=tx [98]:=by decide +kernel
  have e5:("ba" : Str)=tx [98,97]:=by decide +kernel
  have e6:("z" : Str)=tx [122]:=by decide +kernel
  rw [e1,e2,e3,e4,e5,e6]; rfl
theorem ends7_V:[V.str "",V.str "",V.str "a",V.str "b",V.str "ab",V.str "aba",V.str "z"]=bkV ends7:=by
  have e0:("" : Str)=tx []:=by decide +kernel
  have e1:("a" : Str)=tx [97]:=by decide +kernel
  have e3:("ab" : Str)=tx [97,98]:=by decide +kernel
  have e4:("b" : Str)=tx [98]:=by decide +kernel
  have e5:("aba" : Str)=tx [97,98,97]:=by decide +kernel
  have e6:("z" : Str)=tx [122]:=by decide +kernel
  rw [e0,e1,e3,e4,e5,e6]; rfl
theorem names6_ok:names6.Pairwise (· < ·)∧∀ x∈names6,isNm x:=by
  refine ⟨(ris_iff _).mp (by decide),fun x hx=>?_⟩
  unfold names6 at hx
  simp only [List.mem_cons,List.not_mem_nil,or_false] at hx
  rcases hx with rfl | rfl | rfl | rfl | rfl | rfl <;> (refine ⟨by decide,by decide,?_⟩; decide)
theorem ends7_ok:∀ x∈ends7,x=[]∨(isNm x∧x.length≤3):=fun x hx=>by
  unfold ends7 at hx
  simp only [List.mem_cons,List.not_mem_nil,or_false] at hx
  rcases hx with rfl | rfl | rfl | rfl | rfl | rfl | rfl
  · exact .inl rfl
  · exact .inl rfl
  all_goals (refine .inr ⟨⟨by decide,by decide,?_⟩,by decide⟩; decide)
theorem sub_ok {l:List S} (h:l.Sublist names6):l.length≤6∧(∀ x∈l,isNm x)∧risT l=true :=
  ⟨h.length_le,fun x hx=>names6_ok.2 x (h.subset hx),(ris_iff _).mpr (names6_ok.1.sublist h)⟩
section
variable {P:Program}{w:World}{K:PySem.W.Frag}{mg:Str→Option Value}{base:Heap}
def spLW (K:PySem.W.Frag):Sp:=fun vs H Q _=>∃ (a:Addr) (ns:List Int) (at':Nat),vs=[.ref a,.int at']∧SqL K H a (ns.map V.int)∧ns.length≤63 ∧
  ∀ (p:Addr) (lo hi:Int) (hd tl:S) (ba:List S) (to:Bool) (H':Hp),Same H H'→GW lo hi hd tl ba→WishAt H' p lo hi hd tl ba to→Q (.ref p) H'
abbrev sLW:Stmt:=top 59
theorem scLW:FnScope ["_law_script", "_law_at", "_law_least", "_law_most", "_law_ends", "_law_barred", "_law_k", "_law_name_here", "_law_head"] ["_law_script", "_law_at"] (defScope sLW):=⟨rfl,rfl,rfl,by decide +kernel,rfl,by decide +kernel,by decide +kernel⟩
theorem ok_lw {f:Addr}{fd:FuncData} (F:Fun K "_law_wish" "_law_wish" sLW f fd) (B:Blt mg) (hen:mg "enumerate" = none) (cD:Cal P w K mg base 2 "_law_drawn" ["_law_script", "_law_k", "_law_many"] (spDrawn K)):FnOk P w K mg base CX0 3 f fd ["_law_script", "_law_at"] (spLW K):=by
  refine F.ok scLW (fun vs H Q E h=>?_) (fun cdv A outer s H vs Q E hr h=>?_)
  · obtain ⟨a,ns,at',rfl,_⟩:=h; rfl
  · obtain ⟨a,ns,at',rfl,hsc,h63,k⟩:=h
    have nd:=scLW.nd
    refine ⟨_,pss_cons (ps_set (i:=2) nd rfl (Or.inl rfl) (pe_op op_add pe_int (pe_cal cD hr rfl (pa_cons (pv 0) (pa_cons (pv 1) (pa_cons pe_int pa_nil))))))
      (pss_cons (ps_set (i:=3) nd rfl (Or.inl rfl) (pe_op op_add (pv 2) (pe_cal cD hr rfl (pa_cons (pv 0) (pa_cons (pe_op op_add (pv 1) pe_int) (pa_cons (pe_op op_sub pe_int (pv 2)) pa_nil))))))
      (pss_cons (ps_set (i:=4) nd rfl (Or.inl rfl) (pe_lst (pa_cons pe_str (pa_cons pe_str (pa_cons pe_str (pa_cons pe_str (pa_cons pe_str (pa_cons pe_str (pa_cons pe_str pa_nil)))))))))
      (pss_cons (ps_set (i:=5) nd rfl (Or.inl rfl) (pe_lst pa_nil))
      (pss_cons (ps_for PassesOwn.never rfl (pi_enum rfl hen (pa_cons (pe_lst (pa_cons pe_str (pa_cons pe_str (pa_cons pe_str (pa_cons pe_str (pa_cons pe_str (pa_cons pe_str pa_nil))))))) pa_nil)) (pg_tup rfl (pgs_cons (pg_name (i:=6) nd rfl (Or.inl rfl)) (pgs_cons (pg_name (i:=7) nd rfl (Or.inl rfl)) pgs_nil)))
        (pss_one (ps_if (pt_cmpR op_eq (pe_cal cD hr rfl (pa_cons (pv 0) (pa_cons (pe_op op_add (pe_op op_add (pv 1) pe_int) (pv 6)) (pa_cons pe_int pa_nil)))) pe_int (nomark _))
          (pss_one (ps_expr (pe_bm PySem.F.plainAttrs_list PySem.F.slot_list_append PySem.F.type_list_append mt_append (pv 5) (pa_cons (pv 7) pa_nil)))) pss_nil)))
      (pss_cons (ps_set (i:=8) nd rfl (Or.inl rfl) (pe_ix ix_list (pv 4) (pe_cal cD hr rfl (pa_cons (pv 0) (pa_cons (pe_op op_add (pv 1) pe_int) (pa_cons pe_int pa_nil)))) (fun _ _=>rfl)))
      (pss_one (ps_ret (pe_tup (pa_cons (pv 2) (pa_cons (pv 3) (pa_cons (pv 8) (pa_cons (pe_ix ix_list (pv 4) (pe_cal cD hr rfl (pa_cons (pv 0) (pa_cons (pe_op op_add (pv 1) pe_int) (pa_cons pe_int pa_nil)))) (fun _ _=>rfl))
        (pa_cons (pe_callTy call_tuple_of (by rfl) B.tuple PyProof.Rows.boot_tuple (pa_cons (pv 5) pa_nil)) (pa_cons (pe_cmpR op_eq (pe_cal cD hr rfl (pa_cons (pv 0) (pa_cons (pe_op op_add (pv 1) pe_int) (pa_cons pe_int pa_nil)))) pe_int (nomark _)) pa_nil)))))))))))))),?_⟩
    refine ⟨_,rfl,_,rfl,a,ns,at',3,rfl,hsc,h63,by decide,by decide,fun d0 H1 hd0 s1=>?_⟩
    refine ⟨_,_,rfl,rfl,_,rfl,_,rfl,_,rfl,_,_,rfl,rfl,_,rfl,_,_,rfl,rfl,a,ns,at'+1,4 - d0,?_,s1.seq hsc,h63,by omega,by omega,fun d1 H2 hd1 s2'=>?_⟩
    · have e1:((at'+1:Nat):Int)=(at':Int)+1:=by omega
      have e2:((4 - d0:Nat):Int)=5 - (1+(d0:Int)):=by omega
      rw [e1,e2]; rfl
    have s2:=s1.trans s2'
    refine ⟨_,_,rfl,rfl,?_⟩
    refine ⟨by show 7≤sizeLine; decide,fun pe hpe=>?_⟩
    have hpe1:(upd H2 pe (.lst [V.str "",V.str "",V.str "a",V.str "b",V.str "ab",V.str "aba",V.str "z"])) pe=some (.lst (bkV ends7)):=by rw [upd_same,ends7_V]
    have s3:=s2.trans (Same.upd1 (o:=.lst [V.str "",V.str "",V.str "a",V.str "b",V.str "ab",V.str "aba",V.str "z"]) hpe)
    generalize upd H2 pe (.lst [V.str "",V.str "",V.str "a",V.str "b",V.str "ab",V.str "aba",V.str "z"])=HA at s3 hpe1 ⊢
    refine ⟨by show 0≤sizeLine; decide,fun g hg=>?_⟩
    refine ⟨by show 6≤sizeLine; decide,fun en hen2=>⟨en,_,rfl,upd_same,?_⟩⟩
    have neg:en≠g:=fun z=>by subst z; rw [upd_same] at hen2; cases hen2
    refine for_enum (K:=K) (xs:=[V.str "a",V.str "aa",V.str "ab",V.str "b",V.str "ba",V.str "z"]) (fun i σ H'=>∃ (y z:Option V) (sl:List S),σ=[some (.ref a),some (.int (at':Int)),some (.int (1+(d0:Int))),some (.int (1+(d0:Int)+(d1:Int))),some (.ref pe),some (.ref g),y,z,none]∧Same HA H'∧H' g=some (.lst (bkV sl)) ∧
        H' en=some (.lst [V.str "a",V.str "aa",V.str "ab",V.str "b",V.str "ba",V.str "z"])∧sl.Sublist (names6.take i))
      ⟨_,_,[],rfl,(Same.upd1 hg).trans (Same.upd1 hen2),(Same.upd1 hen2) _ _ upd_same,upd_same,List.nil_sublist _⟩ (fun i σ H' _ h=>by obtain ⟨_,_,_,_,_,_,h,_⟩:=h; exact .of h) ?_ ?_
    · rintro i x T σ H' Nx hN hx ⟨y,z,sl,rfl,sm,hg',hen',hsub⟩ hT
      have t1:Same H' (upd H' T (.tup [.int i,x])):=Same.upd1 hT
      refine ⟨T,_,rfl,.of upd_same,rfl,_,_,rfl,_,_,rfl,rfl,?_⟩
      have sm1:=sm.trans t1
      have hg1:=t1 _ _ hg'
      have he1:=t1 _ _ hen'
      rw [names6_V] at hx
      obtain ⟨nm,hnm,rfl⟩:=bkV_get hx
      have hi:i < names6.length:=(List.getElem?_eq_some_iff.mp hnm).1
      have hi6:i < 6:=hi
      have etk:names6.take (i+1)=names6.take i++[nm]:=by rw [List.take_succ_eq_append_getElem hi,(List.getElem?_eq_some_iff.mp hnm).2]
      refine ⟨_,rfl,_,rfl,_,_,rfl,rfl,_,rfl,_,_,rfl,rfl,a,ns,at'+4+i,3,?_,(s3.trans sm1).seq hsc,h63,by decide,by decide,fun d H3 hd s4=>?_⟩
      · have e1:((at'+4+i:Nat):Int)=(at':Int)+4+(i:Int):=by omega
        rw [e1]; rfl
      have sm2:=sm1.trans s4
      have hg2:=s4 _ _ hg1
      have he2:=s4 _ _ he1
      refine ⟨rfl,_,rfl,?_⟩
      by_cases hz:(d:Int)=0
      · have e0:decide (V.int (d:Int)=V.int 0)=true:=decide_eq_true (by rw [hz])
        rw [e0]
        refine iteT ?_
        have hl6:sl.length≤6:=Nat.le_trans hsub.length_le (by rw [List.length_take]; omega)
        refine ⟨_,rfl,.inl ⟨rfl,_,.of hg2⟩,_,rfl,g,_,_,rfl,rfl,hg2,by unfold bkV; rw [List.length_map,sizeLine_eq]; omega,hN _ _ ⟨_,_,sl++[nm],rfl,sm2.upd_new hg,by rw [upd_same]; unfold bkV; rw [List.map_append]; rfl,by rw [upd_ne neg]; exact he2,?_⟩⟩
        rw [etk]
        exact hsub.append (List.Sublist.refl _)
      · have e0:decide (V.int (d:Int)=V.int 0)=false:=decide_eq_false (fun q=>hz (by injection q))
        rw [e0]
        refine iteF (hN _ _ ⟨_,_,sl,rfl,sm2,hg2,he2,?_⟩)
        rw [etk]
        exact hsub.trans (List.sublist_append_left _ _)
    · rintro σ H' ⟨y,z,sl,rfl,sm,hg',hen',hsub⟩
      have hsub':sl.Sublist names6:=hsub
      obtain ⟨b1,b2,b3⟩:=sub_ok hsub'
      have sH:=s3.trans sm
      refine ⟨_,rfl,_,rfl,_,rfl,_,_,rfl,rfl,a,ns,at'+2,7,?_,sH.seq hsc,h63,by decide,by decide,fun d2 H4 hd2 s4=>?_⟩
      · have e1:((at'+2:Nat):Int)=(at':Int)+2:=by omega
        rw [e1]; rfl
      have s4H:=sH.trans s4
      have hpe4:=s4 _ _ (sm _ _ hpe1)
      have hg4:=s4 _ _ hg'
      have ge7:∀ {d:Nat},d < 7→∃ x,ends7[d]?=some x∧(bkV ends7)[d]?=some (sv x)∧(x=[]∨(isNm x∧x.length≤3)):=fun {d} hd=>by
        have hd':d < ends7.length:=hd
        refine ⟨ends7[d],List.getElem?_eq_getElem hd',?_,ends7_ok _ (List.getElem_mem hd')⟩
        unfold bkV
        rw [List.getElem?_map,List.getElem?_eq_getElem hd']; rfl
      obtain ⟨hx,_,hx2,hx3⟩:=ge7 hd2
      refine ⟨pe,_,(d2:Int),sv hx,rfl,rfl,.of hpe4,atI_nat hx2,?_⟩
      refine ⟨_,rfl,_,rfl,_,rfl,_,rfl,_,rfl,_,rfl,_,_,rfl,rfl,a,ns,at'+3,7,?_,s4H.seq hsc,h63,by decide,by decide,fun d3 H5 hd3 s5=>?_⟩
      · have e1:((at'+3:Nat):Int)=(at':Int)+3:=by omega
        rw [e1]; rfl
      obtain ⟨tx',_,tx2,tx3⟩:=ge7 hd3
      have s5H:=s4H.trans s5
      have hg5:=s5 _ _ hg4
      refine ⟨pe,_,(d3:Int),sv tx',rfl,rfl,.of (s5 _ _ hpe4),atI_nat tx2,?_⟩
      refine ⟨_,rfl,g,_,rfl,.inl ⟨.of hg5,fun pt hpt=>?_⟩⟩
      have t6:=Same.upd1 (o:=.tup (bkV sl)) hpt
      have s6H:=s5H.trans t6
      refine ⟨_,rfl,_,rfl,_,_,rfl,rfl,a,ns,at'+10,2,?_,s6H.seq hsc,h63,by decide,by decide,fun d4 H7 hd4 s7=>?_⟩
      · have e1:((at'+10:Nat):Int)=(at':Int)+10:=by omega
        rw [e1]; rfl
      refine ⟨rfl,by show 6≤sizeLine; decide,fun p hp=>?_⟩
      have t8:=Same.upd1 (o:=.tup [.int (1+(d0:Int)),.int (1+(d0:Int)+(d1:Int)),sv hx,sv tx',.ref pt,.bl (decide (V.int (d4:Int)=V.int 0))]) hp
      refine k p (1+(d0:Int)) (1+(d0:Int)+(d1:Int)) hx tx' sl (decide (V.int (d4:Int)=V.int 0)) _ ((s6H.trans s7).trans t8) ⟨by omega,by omega,by omega,hx3,tx3,b1,b2,b3⟩ ⟨pt,upd_same,t8 _ _ (s7 _ _ upd_same)⟩
end
end Kn
end
section
namespace Kn
open PySem L2
def litL (f:Expr→Option PyData):List Expr→Option (List PyData)
  | []=>some []
  | e::es=>(f e).bind fun d=>(litL f es).map fun ds=>d::ds
def lit:Nat→Expr→Option PyData
  | 0,_=>none
  | n+1,e=>match e with
    | .Constant (.int i) _ _=>some (.int i)
    | .Constant (.bool b) _ _=>some (.bool b)
    | .Constant .none _ _=>some .none
    | .Constant (.str x) _ _=>some (.str x)
    | .Tuple es _ _=>if es.length≤900 then (litL (lit n) es).map .tuple else none
    | .List es _=>if es.length≤900 then (litL (lit n) es).map .list else none
    | _=>none
theorem litL_len {f:Expr→Option PyData}:∀ {es:List Expr}{ds:List PyData},litL f es=some ds→ds.length=es.length
  | [],ds,h=>by cases (show some []=some ds from h); rfl
  | e::es,ds,h=>by
    unfold litL at h
    cases h1:f e with
    | none=>rw [h1] at h; cases h
    | some d =>
      cases h2:litL f es with
      | none=>rw [h1,h2] at h; cases h
      | some ds' =>
        rw [h1,h2] at h
        cases h
        rw [List.length_cons,List.length_cons,litL_len h2]
def notStar:Expr→Bool
  | .Starred ..=>false
  | _=>true
theorem star_cons {e:Expr}{es:List Expr} (h:notStar e=true) (env):starEach (e::es) env=(false,eval e env)::starEach es env:=by
  cases e <;> first | rfl | (cases h)
section
variable {X:Cx}{e:Expr}{es:List Expr}{te:TE}{t:TA}{pos:Pos}
theorem pa_c (ha:PE X e te) (hr:PA X es t) (hs:notStar e=true:=by rfl):PA X (e::es) (tCons te t):=pa_cons ha hr (star_cons hs _)
end
def tThg (d:PyData):TE:=fun σ H Q=>∀ v H',Same H H'→Thg H' d v→Q v H'
def tThgs (ds:List PyData):TA:=fun σ H Q=>∀ vs H',Same H H'→Thgs H' ds vs→Q vs H'
theorem lit_notStar {n:Nat}{e:Expr}{d:PyData} (h:lit n e=some d):notStar e=true:=by
  cases n with
  | zero=>cases h
  | succ n=>cases e <;> first | rfl | (cases h)
theorem PE.mono {X:Cx}{e:Expr}{t t':TE} (h:PE X e t) (q:∀ σ H Q,t' σ H Q→t σ H Q):PE X e t':=fun pins s σ H Q I k=>h pins s σ H Q I (q σ H Q k)
theorem PA.mono {X:Cx}{es:List Expr}{t t':TA} (h:PA X es t) (q:∀ σ H Q,t' σ H Q→t σ H Q):PA X es t':=fun pos pins s σ H Q I k=>h pos pins s σ H Q I (q σ H Q k)
theorem pa_litL {X:Cx}{f:Expr→Option PyData} (hf:∀ e d,f e=some d→notStar e=true∧PE X e (tThg d)):∀ {es:List Expr}{ds:List PyData},litL f es=some ds→PA X es (tThgs ds)
  | [],ds,h=>by
    cases (show some []=some ds from h)
    exact PA.mono pa_nil fun σ H Q q=>q [] H (Same.refl H) rfl
  | e::es,ds,h=>by
    unfold litL at h
    cases h1:f e with
    | none=>rw [h1] at h; cases h
    | some d =>
      cases h2:litL f es with
      | none=>rw [h1,h2] at h; cases h
      | some ds' =>
        rw [h1,h2] at h
        cases h
        obtain ⟨ns,he⟩:=hf e d h1
        refine PA.mono (pa_c he (pa_litL hf h2) ns) fun σ H Q q=>?_
        intro v H1 s1 hv vs H2 s2 hvs
        exact q (v::vs) H2 (s1.trans s2) ⟨_,_,rfl,Thg.same s2 _ _ hv,hvs⟩
theorem pe_lit {X:Cx}:∀ (n:Nat) (e:Expr) (d:PyData),lit n e=some d→PE X e (tThg d)
  | 0,e,d,h=>by cases h
  | n+1,e,d,h=>by
    unfold lit at h
    split at h
    · cases h; exact PE.mono pe_int fun σ H Q q=>q _ H (Same.refl H) rfl
    · cases h; exact PE.mono pe_bl fun σ H Q q=>q _ H (Same.refl H) rfl
    · cases h; exact PE.mono pe_non fun σ H Q q=>q _ H (Same.refl H) rfl
    · cases h; exact PE.mono pe_str fun σ H Q q=>q _ H (Same.refl H) rfl
    · rename_i es _ _
      split at h
      · rename_i hl
        cases h2:litL (lit n) es with
        | none=>rw [h2] at h; cases h
        | some ds =>
          rw [h2] at h
          cases h
          refine PE.mono (pe_tup (pa_litL (fun e d q=>⟨lit_notStar q,pe_lit n e d q⟩) h2)) fun σ H Q q=>?_
          intro vs H1 s1 hvs
          have:=litL_len h2
          have:=hvs.length
          refine ⟨by rw [sizeLine_eq]; omega,fun p hp=>q _ _ (s1.trans (Same.upd1 hp)) ⟨p,vs,rfl,upd_same,Thgs.same (Same.upd1 hp) _ _ hvs⟩⟩
      · cases h
    · rename_i es _
      split at h
      · rename_i hl
        cases h2:litL (lit n) es with
        | none=>rw [h2] at h; cases h
        | some ds =>
          rw [h2] at h
          cases h
          refine PE.mono (pe_lst (pa_litL (fun e d q=>⟨lit_notStar q,pe_lit n e d q⟩) h2)) fun σ H Q q=>?_
          intro vs H1 s1 hvs
          have:=litL_len h2
          have:=hvs.length
          refine ⟨by rw [sizeLine_eq]; omega,fun p hp=>q _ _ (s1.trans (Same.upd1 hp)) ⟨p,vs,rfl,upd_same,Thgs.same (Same.upd1 hp) _ _ hvs⟩⟩
      · cases h
    · cases h
end Kn
end
section
namespace L2
open PySem PySem.Spec PyProof.Rows
section
variable {X:Cx}
theorem ps_setC {j:Nat}{y:Str}{py spos:Pos}{tg iter elt:Expr}{ifs:List Expr}{scope:Scope}{pos:Pos}{wi:TI}{g:TG}{tc:TT}{te:TE}{N:List Str}{caps:List Nat} (hN:X.N.Nodup) (hj:X.N[j]?=some y) (hy:Loc X.env.scope y) (hc:X.calm=true) (S:CompScope X.env.scope X.N N scope caps)
    (hi:PI X tg iter wi) (hg:∀ cl C s H ex,PG (cxComp X N scope cl C s H ex) tg g) (hf:∀ cl C s H ex,PF (cxComp X N scope cl C s H ex) ifs tc) (he:∀ cl C s H ex,PE (cxComp X N scope cl C s H ex) elt te)
    (hs:∀ x,foldedSetIterable iter X.env x=pure x:=by intro _; rfl) (hsw:swapsWith (.ListComp elt [⟨tg,iter,ifs,0⟩] scope pos) (some (.Name y py)) spos.line X.env=pure true:=by rfl)
    (hfn:X.fn y=true∨X.env.scope.names.lookup y=some .local:=by first | exact .inl rfl | exact .inr rfl | assumption):PS X (.Assign [.Name y py] (.ListComp elt [⟨tg,iter,ifs,0⟩] scope pos) spos) (tAsg (tComp wi g tc te caps N.length) (gName j)):=by
  intro pins s σ H D0 I h
  obtain ⟨cl,hcl,hcl1,hcl2⟩:=closure_of (env:=X.env) (scope:=scope) fun y hy e=>I.ok.has y.1 (S.free y hy e)
  rw [exec_Assign_Name_used _ _ _ _ hsw]
  refine wpAny_bind (wpAny_standAt (wpAny_bind ?_))
  show wpAny _ X.A (do let _ ← comprehension (.ListComp elt [⟨tg,iter,ifs,0⟩] scope pos) scope X.env _ (newList []) false (eval iter X.env) (some (assign (.Name y py) X.env))) _ _ s
  refine wpAny_bind (wpAny_mono (wpAny_comprehension_free (use:=some (assign (.Name y py) X.env)) (Q:=fun _ s'=>SP X pins D0 .next s') rfl hs hcl S.kind S.names (thn (hi pins s σ H _ I h) fun v s1 h1=>thn h1 fun itv s2 h2=>?_))
    (fun _ s' hq=>wpAny_pure (wpAny_pure hq)) fun _ _ e=>e)
  obtain ⟨it,fp,tn,J,H2,e,I2,T,st2,f2,W,⟨m0,w0⟩,turn⟩:=h2
  subst e
  refine wpAny_newObj_type (wpAny_newFunctionEnv S.nocell (by intro y hy; simp at hy) (fun h₁ hns hsb=>?_) S.kind)
  dsimp only at hns hsb ⊢
  generalize hG:s2.heap.push { cls:=.type "list",dict:=none,data:=.seq ([]:List Value).toArray }=G at hns hsb ⊢
  have hCs:G.objs.size=s2.heap.objs.size+1:=by rw [← hG,Heap.size_push]
  have hDC:s2.heap.objs.size≠G.objs.size:=by rw [hCs]; exact Nat.ne_of_lt (Nat.lt_succ_self _)
  have old:∀ b o,s2.heap.get? b=some o→h₁.get? b=some o:=fun b o e=>by
    have hb:=Heap.lt_size e
    refine hsb.extBut b o (by rw [hCs]; exact Nat.ne_of_lt (Nat.lt_succ_of_lt hb)) (Heap.get?_push_of_some _ ?_)
    rw [← hG]
    exact Heap.get?_push_of_some _ e
  have hD:h₁.get? s2.heap.objs.size=some { cls:=.type "list",dict:=none,data:=.seq ([]:List Value).toArray }:=by
    refine hsb.extBut _ _ hDC (Heap.get?_push_of_some _ ?_)
    rw [← hG]
    exact Heap.get?_push_size _ rfl
  have hfo:∀ b∈fp,b < s2.heap.objs.size:=fun b hb=>let ⟨o,e,_⟩:=T.obj 0 _ st2 b hb; Heap.lt_size e
  have hCle:s2.heap.objs.size≤G.objs.size:=by omega
  have ok:=comp_ok (C:=G.objs.size) I2 S hcl1 hcl2 hCle f2 hfo
  have I0:Inv (cxComp X N scope cl G.objs.size s2 H2 fp) [(s2.heap.objs.size,{ cls:=.type "list",dict:=none,data:=.seq ([]:List Value).toArray })] (capStart caps N.length σ) H2 { s2 with heap:=h₁,toks:=s2.toks+([]:List (Str × Value)).length } :=
    comp_start I2 ok S hcl1 hcl2 old hns hCle hD (Nat.le_refl _) hDC (fun v z=>by cases z)
  have st1:tn 0 h₁:=T.keep 0 _ _ st2 fun b _ o e=>old b o e
  generalize hX:cxComp X N scope cl G.objs.size s2 H2 fp=X' at I0
  generalize hDa:s2.heap.objs.size=D at I0 hD hDC
  have loop:codeAny (model X.prog X.w) X.A (.compLoop (.ListComp elt [⟨tg,iter,ifs,0⟩] scope pos) 0 (.ref it) (.ref D) (compEnvC scope cl G.objs.size X.env)) (compPost (model X.prog X.w) X.A X.xe (some (assign (.Name y py) X.env)) (fun _ s'=>SP X pins D0 .next s') (.ref D) G.objs.size)
      { s2 with heap:=h₁,toks:=s2.toks+([]:List (Str × Value)).length }:=by
    subst hX
    refine loop_comp (J:=fun n s'=>∃ i σ' H' acc its e,Inv (cxComp X N scope cl G.objs.size s2 H2 fp) [(D,{ cls:=.type "list",data:=.seq (List.toArray its) e })] σ' H' s'∧Vals acc its∧acc.length≤sizeLine∧tn i s'.heap∧(∀ b∈fp,H' b=none)∧W i n acc σ' H')
      ?_ m0 ⟨0,_,H2,[],[],0,I0,.nil,Nat.zero_le _,st1,fun b hb=>(f2 b hb).1,w0⟩
    rintro n s3 ⟨i,σ3,H3,acc,its,ep,I3,rv,hz,st3,fr3,w3⟩
    have stat:∀ {H':Hp} {pl:List (Addr × Obj)},(∀ b∈fp,H' b=none)→(∀ p∈pl,p.1=D)→∀ b∈fp,FpOk (cxComp X N scope cl G.objs.size s2 H2 fp) pl H' b:=fun {H' pl} hn hpl b hb=>by
      obtain ⟨a1,a2⟩:=ok.exf b hb
      exact ⟨hn b hb,a1,ok.exfs b hb,.inl hb,fun x c e=>a2 x c e,fun p hp=>by
        have hp':p∈pl:=hp
        rw [hpl p hp',← hDa]
        exact Nat.ne_of_gt (hfo b hb)⟩
    have one:∀ p∈[(D,({ cls:=.type "list",data:=.seq (List.toArray its) ep }:Obj))],p.1=D:=fun p hp=>by
      rcases List.mem_cons.mp hp with e | e
      · rw [e]
      · cases e
    have pinD:∀ {pl:List (Addr × Obj)} {σ':St} {H':Hp} {s':Shared} {o:Obj},Inv (cxComp X N scope cl G.objs.size s2 H2 fp) pl σ' H' s'→(D,o)∈pl→s'.heap.get? D=some o∧H' D=none:=fun {pl σ' H' s' o} I' hm=>by
      obtain ⟨a,b,_⟩:=I'.pin (D,o) (List.mem_append_right _ hm)
      exact ⟨a,b⟩
    rcases turn i n acc σ3 H3 w3 with ⟨stop,q⟩ | ⟨go,hlt,step⟩
    · refine wpAny_mono (T.done (cxComp X N scope cl G.objs.size s2 H2 fp) rfl rfl rfl hc i _ s3 σ3 H3 (fun _ _=>False) I3 (stat fr3 one) st3 stop) (fun r s4 ⟨hr,I4⟩=>?_) fun _ _ f=>f
      subst hr
      obtain ⟨hDo,hDn⟩:=pinD I4 (List.mem_cons_self ..)
      obtain ⟨m4,hm4,_⟩:=I4.loc
      have keepC:∀ b (u:Obj),b≠G.objs.size→s4.heap.get? b=some u→s4.heap.get? b=some u:=fun b u _ e=>e
      have un:Un (frs X.stack) fp H2 H3 s2.heap s4.heap:=I4.base
      have hDo':=hDo
      have hlow:∀ b (o:Obj),s2.heap.get? b=some o→b≠G.objs.size∧b≠D:=fun b o e=>by
        have h0:=Heap.lt_size e
        exact ⟨by rw [hCs]; exact Nat.ne_of_lt (Nat.lt_succ_of_lt h0),by rw [← hDa]; exact Nat.ne_of_lt h0⟩
      have un':Un (frs X.stack) fp H2 (upd H3 D (.lst acc)) s2.heap s4.heap :=
        ⟨fun b o e n' hb hx=>keepC b o (hlow b o e).1 (un.keep b o e n' hb hx),
         fun b o e n' hb hx=>let ⟨sl,q⟩:=un.slot b o e n' hb hx; ⟨sl,keepC b _ (hlow b o e).1 q⟩,
         fun b o e n' hx=>by rw [upd_ne (hlow b o e).2]; exact un.free b o e n' hx,
         fun b o e hx=>let ⟨o',q⟩:=un.there b o e hx; ⟨o',keepC b _ (hlow b o e).1 q⟩,
         fun b xs e=>by rw [upd_ne (ne_of_none (un.tups b xs e) hDn)]; exact un.tups b xs e,
         fun b o u e=>by rw [upd_ne (ne_of_none (un.frzs b o u e) hDn)]; exact un.frzs b o u e,
         fun b ps e=>let ⟨mo,q⟩:=un.tbls b ps e; ⟨mo,by rw [upd_ne (ne_of_none q hDn)]; exact q⟩⟩
      have hok:HOk X.prog X.w (upd H3 D (.lst acc)) s4.heap:=I4.hok.track hDn ⟨hz,its,ep,rv,hDo'⟩
      have IX:Inv X pins σ (upd H3 D (.lst acc)) s4:=I2.call' I4.os un' hok I4.bare (fun b hb=>by
        obtain ⟨_,f1,_,f3,f4,f5⟩:=f2 b hb
        exact ⟨f3,f1,f4,f5⟩)
      have hCn:upd H3 D (.lst acc) G.objs.size=none:=by
        rw [upd_ne (Ne.symm hDC)]; exact I4.free
      have fpC:FpOk X pins (upd H3 D (.lst acc)) G.objs.size:=I2.fpOk hCle hCn
      obtain ⟨oC,es,epC,hoC,hdC,hsk,hnf⟩:=hm4
      have IXp:=IX.pinned (fp:=[G.objs.size]) (fun b hb=>by
        have:b=G.objs.size:=by simpa using hb
        rw [this]; exact fpC) (fun b hb=>by
        have:b=G.objs.size:=by simpa using hb
        rw [this]; exact ⟨oC,hoC,fun v z=>by rw [hdC] at z; cases z⟩)
      refine wpAny_assign_Name (store_ok IXp hN hj hy (v:=.ref D) rfl (fun s5 I5=>?_) hfn)
      have pC:=(I5.pin (G.objs.size,oC) (List.mem_append_right _ (List.mem_append_right _ (mem_pinsAt (List.mem_cons_self ..) hoC)))).1
      refine ⟨m4,⟨oC,es,epC,pC,hdC,hsk,hnf⟩,fun h' hsb'=>?_⟩
      obtain ⟨c0,c1,c2,c3,c4,c5⟩:=fpC
      exact ⟨_,_,I5.unpinned.turned (t':=s5.toks) (fun b o hb e=>hsb'.extBut b o hb e) c0 c1 c3 c4 c5,q D hDn⟩
    · refine wpAny_mono (T.item (cxComp X N scope cl G.objs.size s2 H2 fp) rfl rfl rfl hc i _ s3 σ3 H3 (fun _ _=>False) I3 (stat fr3 one) st3 go) (fun r s4 ⟨u,hr,h4⟩=>?_) fun _ _ f=>f
      subst hr
      refine thn h4 fun _ s5 ⟨x,H5,I5,r5,y5,st5,fr5⟩=>?_
      have I5':=I5.pinned (stat fr5 one) (T.obj _ _ st5)
      refine thn (hg cl G.objs.size s2 H2 fp _ s5 σ3 H5 x u _ I5' r5 (step x H5 y5)) fun _ s6 ⟨σ6,H6,I6,q6⟩=>?_
      refine thn (hf cl G.objs.size s2 H2 fp _ s6 σ6 H6 _ I6 q6) fun b s7 ⟨H7,I7,q7⟩=>?_
      have fin:∀ {pl:List (Addr × Obj)} {σ':St} {H':Hp} {s':Shared},Inv (cxComp X N scope cl G.objs.size s2 H2 fp) (pl++pinsAt fp s5.heap) σ' H' s'→tn (i+1) s'.heap∧∀ b∈fp,H' b=none:=fun {pl σ' H' s'} I'=>by
        refine ⟨T.keep _ _ _ st5 fun b hb o e=>(I'.pin (b,o) (List.mem_append_right _ (List.mem_append_right _ (mem_pinsAt hb e)))).1,fun b hb=>?_⟩
        obtain ⟨o,e,_⟩:=T.obj _ _ st5 b hb
        exact (I'.pin (b,o) (List.mem_append_right _ (List.mem_append_right _ (mem_pinsAt hb e)))).2.1
      cases b with
      | false =>
        rw [if_neg Bool.false_ne_true] at q7 ⊢
        obtain ⟨m',hm,w7⟩:=q7
        obtain ⟨a1,a2⟩:=fin I7
        exact ⟨m',hm,i+1,σ6,H7,acc,its,ep,I7.unpinned,rv,hz,a1,a2,w7⟩
      | true =>
        rw [if_pos rfl] at q7 ⊢
        refine thn (he cl G.objs.size s2 H2 fp _ s7 σ6 H7 _ I7 q7) fun y s8 ⟨yv,H8,I8,r8,m',hm,w8⟩=>?_
        obtain ⟨a1,a2⟩:=fin I8
        obtain ⟨b1,b2⟩:=pinD I8 (List.mem_append_left _ (List.mem_cons_self ..))
        have hl:=rv.length
        refine call_meets F.slot_list_append ⟨_,b1,rfl⟩ F.entry_list_append (F.args_list_append_2 _ _) (PySem.list_append D its.toArray ep y (by rw [List.size_toArray]; omega)) ⟨b1,?_⟩
        have q9:=PySem.IsL.update b1 (·.push y)
        have kp:∀ b o,b≠D→s8.heap.get? b=some o→(s8.heap.update D (Obj.mapSeq (·.push y))).get? b=some o:=fun b o hb e=>(Heap.get?_update_other s8.heap (Obj.mapSeq (·.push y)) (Ne.symm hb)).trans e
        have I9:Inv (cxComp X N scope cl G.objs.size s2 H2 fp) [] σ6 H8 { s8 with heap:=s8.heap.update D (Obj.mapSeq (·.push y)) } :=
          (I8.pins_of (pins':=[]) fun p hp=>by cases hp).turned (t':=s8.toks) kp b2 hDC (.inr (by rw [← hDa]; exact Nat.le_refl _)) (fun x c e z=>by
            have e':X.env.cells.lookup x=some c:=hcl1 x c e
            obtain ⟨v',hv'⟩:=I2.cell x c e'
            have h0:=hv'.lt
            rw [z,← hDa] at h0
            exact Nat.lt_irrefl _ h0) fun p hp=>by
              have:p∈([]:List (Addr × Obj)):=hp
              cases this
        have hpu:its.toArray.push y=(its++[y]).toArray:=by simp
        rw [hpu] at q9
        obtain ⟨e9,q9⟩:∃ e9,(s8.heap.update D (Obj.mapSeq (·.push y))).get? D=some { cls:=.type "list",data:=.seq (its++[y]).toArray e9 }:=⟨_,q9⟩
        refine ⟨m',hm,i+1,σ6,H8,acc++[yv],its++[y],e9,I9.pins_of fun p hp=>?_,rv.append (.cons r8 .nil),?_,T.keep _ _ _ a1 fun b hb o e=>kp b o ?_ e,a2,w8⟩
        · obtain rfl:p=(D,{ cls:=.type "list",data:=.seq (its++[y]).toArray e9 }):=by
            rcases List.mem_cons.mp hp with e | e
            · exact e
            · cases e
          obtain ⟨_,_,c3,c4,_⟩:=I8.pin (D,_) (List.mem_append_right _ (List.mem_append_left _ (List.mem_cons_self ..)))
          exact ⟨q9,b2,c3,c4,fun v z=>by cases z⟩
        · rw [List.length_append,List.length_singleton]; omega
        · rintro rfl
          have h0:=hfo b hb
          rw [hDa] at h0
          exact Nat.lt_irrefl _ h0
  exact codeAny_compStart_list loop (T.self X.A 0 _ _ _ st1 loop)
end
end L2
end
section
namespace Kn
open PySem L2
def OKd (n:Nat) (d:PyData):Prop:=sml d=true∧d.canLay0=true∧d.depth≤n
theorem OKd.sh {n:Nat}{d:PyData} (h:OKd n d) (hn:n≤64):SeqAt.shaped d=true:=by
  unfold SeqAt.shaped
  rw [h.2.1,decide_eq_true (show d.depth≤64 by have:=h.2.2; omega)]; rfl
theorem OKd.mono {n m:Nat}{d:PyData} (h:OKd n d) (hm:n≤m):OKd m d:=⟨h.1,h.2.1,Nat.le_trans h.2.2 hm⟩
theorem ok_all {ds:List PyData}{n:Nat} (h:∀ d∈ds,OKd n d):smls ds=true∧PyData.canLayAll0 ds=true∧PyData.depthAll ds≤n:=by
  induction ds with
  | nil=>exact ⟨rfl,rfl,Nat.zero_le _⟩
  | cons d ds ih =>
    obtain ⟨a1,a2,a3⟩:=h d (List.mem_cons_self ..)
    obtain ⟨b1,b2,b3⟩:=ih fun e he=>h e (List.mem_cons_of_mem _ he)
    refine ⟨by simp only [smls,a1,b1,Bool.and_self],by simp only [PyData.canLayAll0,a2,b2,Bool.and_self],?_⟩
    simp only [PyData.depthAll]; omega
theorem okT {ds:List PyData}{n:Nat} (h:∀ d∈ds,OKd n d) (hl:ds.length≤900):OKd (n+1) (.tuple ds):=by
  obtain ⟨a,b,c⟩:=ok_all h
  refine ⟨by simp only [sml,a,Bool.and_true]; exact decide_eq_true hl,by simp only [PyData.canLay0]; exact b,?_⟩
  simp only [PyData.depth]; omega
theorem okL {ds:List PyData}{n:Nat} (h:∀ d∈ds,OKd n d) (hl:ds.length≤900):OKd (n+1) (.list ds):=by
  obtain ⟨a,b,c⟩:=ok_all h
  refine ⟨by simp only [sml,a,Bool.and_true]; exact decide_eq_true hl,by simp only [PyData.canLay0]; exact b,?_⟩
  simp only [PyData.depth]; omega
theorem ok_str {x:S} (h:∀ c∈x,c≤122) (hl:x.length≤900):OKd 5 (.str (tx x)):=by
  refine ⟨?_,by simp only [PyData.canLay0]; exact strOk_of h,by simp only [PyData.depth]; decide⟩
  simp only [sml,tx_len,tx_cps,Bool.and_eq_true,decide_eq_true_eq,List.all_eq_true]
  exact ⟨hl,fun c hc=>by have:=h c hc; omega⟩
theorem ok_nm {x:S} (h:isNm x):OKd 5 (.str (tx x)):=ok_str (fun c hc=>(h.2.2 c hc).2) (by have:=h.2.1; omega)
theorem edge_okd {x:S} (h:x=[]∨(isNm x∧x.length≤3)):OKd 5 (.str (tx x)):=by
  rcases h with rfl | h
  · exact ok_str (by simp) (by simp)
  · exact ok_nm h.1
theorem cutV_to (xs:List V) (n:Nat):cutV xs none (some (n:Int))=xs.take n:=by
  unfold cutV
  rw [HT.sIx_nat]
  show (xs.drop 0).take (min n xs.length - 0)=_
  rw [List.drop_zero,Nat.sub_zero,← List.take_eq_take_min]
theorem cutV_from (xs:List V) (n:Nat):cutV xs (some (n:Int)) none=xs.drop n:=by
  unfold cutV
  rw [HT.sIx_nat]
  show (xs.drop (min n xs.length)).take (xs.length - min n xs.length)=_
  by_cases h:n≤xs.length
  · rw [Nat.min_eq_left h,List.take_of_length_le (by rw [List.length_drop]; omega)]
  · rw [Nat.min_eq_right (by omega),List.drop_of_length_le (Nat.le_refl _),List.drop_of_length_le (by omega)]
    simp
def wishP (lo hi:Int) (hd tl:S) (ba:List S) (to:Bool):List PyData:=[.int lo,.int hi,.str (tx hd),.str (tx tl),.tuple (ba.map fun x=>PyData.str (tx x)),.bool to]
theorem wishP_ok {lo hi:Int}{hd tl:S}{ba:List S}{to:Bool} (g:GW lo hi hd tl ba):∀ d∈wishP lo hi hd tl ba to,OKd 6 d:=fun d h=>by
  unfold wishP at h
  simp only [List.mem_cons,List.not_mem_nil,or_false] at h
  rcases h with rfl | rfl | rfl | rfl | rfl | rfl
  · exact ⟨rfl,rfl,by simp only [PyData.depth]; decide⟩
  · exact ⟨rfl,rfl,by simp only [PyData.depth]; decide⟩
  · exact (edge_okd g.ghd).mono (by decide)
  · exact (edge_okd g.gtl).mono (by decide)
  · refine okT (n:=5) (fun d hd=>?_) (by rw [List.length_map]; have:=g.len; omega)
    obtain ⟨x,hx,rfl⟩:=List.mem_map.mp hd
    exact ok_nm (g.nm x hx)
  · exact ⟨rfl,rfl,by simp only [PyData.depth]; decide⟩
theorem thg_wishP {H:Hp}{a:Addr}{lo hi:Int}{hd tl:S}{ba:List S}{to:Bool} (h:WishAt H a lo hi hd tl ba to):∃ xs,H a=some (.tup xs)∧Thgs H (wishP lo hi hd tl ba to) xs∧xs.length=6:=by
  obtain ⟨b,h1,h2⟩:=h
  refine ⟨_,h1,⟨_,_,rfl,rfl,_,_,rfl,rfl,_,_,rfl,rfl,_,_,rfl,rfl,_,_,rfl,⟨b,_,rfl,h2,Thgs.strs ba⟩,_,_,rfl,rfl,rfl⟩,rfl⟩
theorem wish_is {lo hi:Int}{hd tl:S}{ba:List S}{to:Bool} (g:GW lo hi hd tl ba):isWishD (.tuple (wishP lo hi hd tl ba to))=true:=by
  have e0:isWholeD 1 8 (.int lo)=true:=by
    have:=g.glo; have:=g.gle; have:=g.ghi
    simp only [isWholeD,Bool.and_eq_true,decide_eq_true_eq]; omega
  have e1:isWholeD lo 8 (.int hi)=true:=by
    have:=g.gle; have:=g.ghi
    simp only [isWholeD,Bool.and_eq_true,decide_eq_true_eq]; omega
  have ed:∀ x:S,(x=[]∨(isNm x∧x.length≤3))→isEdgeD (.str (tx x))=true:=fun x h=>by
    rcases h with rfl | ⟨h,h3⟩
    · rfl
    · simp only [isEdgeD,isNameD_of h,tx_len,decide_eq_true h3,Bool.and_self,Bool.or_true]
  have e4:isBarredD (.tuple (ba.map fun x=>PyData.str (tx x)))=true:=by
    have e3:(ba.map fun x=>PyData.str (tx x)).map txtD=ba:=by
      rw [List.map_map]
      conv=>rhs; rw [← List.map_id ba]
      refine List.map_congr_left fun x _=>?_
      show (tx x).cps.toList=x
      rw [tx_cps]
    have ea:(ba.map fun x=>PyData.str (tx x)).all isNameD=true:=by
      rw [List.all_map,List.all_eq_true]
      exact fun x hx=>isNameD_of (g.nm x hx)
    simp only [isBarredD,e3,ea,g.ris,List.length_map,decide_eq_true g.len,Bool.and_self]
  simp only [isWishD,wishP,intD,e0,e1,ed _ g.ghd,ed _ g.gtl,e4,isBoolD,Bool.and_self]
end Kn
end
section
namespace L2
open PySem PySem.Spec PyProof.Rows
theorem FnOk.calm {P:Program}{w:World}{K:PySem.W.Frag}{mg:Str→Option Value}{base:Heap}{k:Nat}{f:Addr}{fd:FuncData}{ps:List Str}{sp sp':Sp} (F:FnOk P w K mg base (CXr P w) k f fd ps sp)
    (h:∀ vs H Q E,sp' vs H Q E→sp vs H Q (fun _ _ _=>False)):FnOk P w K mg base CX0 k f fd ps sp':=by
  refine ⟨fun vs H Q E q=>F.len vs H Q _ (h _ _ _ _ q),fun A outer s H args us vs Q E hr he hb hv hs=>?_⟩
  refine codeAny_mono (F.run A outer s H args us vs Q (fun _ _ _=>False) hr he hb hv (h _ _ _ _ hs)) fun res s' c=>?_
  cases res with
  | error e =>
    obtain ⟨_,_,_,_,_,_,_,z⟩:=c
    exact z.elim
  | ok fl=>cases fl <;> exact c
end L2
end
section
namespace Kn.Dr
open PySem L2 Kn
theorem xcls_topD {K:PySem.W.Frag}{x:Str}{c:Addr} (b:PySem.W.nsIn K mainGlobals x=some (some (.ref c))) (h:PySem.W.excIn K c veMro "ValueError.__new__" = true) (h2:subOf K c c=true):∃ C,subOf K C C=true∧∀ (h:Heap) (mg:Str→Option Value),K.In h→h.Ns mainGlobals mg→XCls K mg x C :=
  ⟨c,h2,fun hp mg X G=>⟨PySem.W.mg_of X G b,h⟩⟩
theorem strD_inj:∀ {l m:List S},(l.map fun x=>PyData.str (tx x))=(m.map fun x=>PyData.str (tx x))→l=m
  | [],[],_=>rfl
  | [],_::_,h=>nomatch h
  | _::_,[],h=>nomatch h
  | a::l,b::m,h=>by
    injection h with h1 h2
    rw [tx_inj (PyData.str.inj h1),strD_inj h2]
theorem nuD_inj:∀ {l m:List Nat},nuD l=nuD m→l=m
  | [],[],_=>rfl
  | [],_::_,h=>nomatch h
  | _::_,[],h=>nomatch h
  | a::l,b::m,h=>by
    have h':PyData.int (a:Int)::nuD l=PyData.int (b:Int)::nuD m:=h
    injection h' with h1 h2
    have:=PyData.int.inj h1
    rw [nuD_inj h2,show a=b by omega]
theorem wD_inj {lo hi lo' hi':Int}{hd tl hd' tl':S}{ba ba':List S}{to to':Bool} (h:wishD lo hi hd tl ba to=wishD lo' hi' hd' tl' ba' to'):lo=lo'∧hi=hi'∧hd=hd'∧tl=tl'∧ba=ba'∧to=to':=by
  have h:=PyData.tuple.inj h
  injection h with h1 h
  injection h with h2 h
  injection h with h3 h
  injection h with h4 h
  injection h with h5 h
  injection h with h6 h
  exact ⟨PyData.int.inj h1,PyData.int.inj h2,tx_inj (PyData.str.inj h3),tx_inj (PyData.str.inj h4),strD_inj (PyData.tuple.inj h5),PyData.bool.inj h6⟩
theorem thgB {H:Hp}{p:Addr}{bk:List S} (h:H p=some (.tup (bkV bk))):Thg H (.tuple (bk.map fun x=>PyData.str (tx x))) (.ref p):=⟨p,_,rfl,h,Thgs.strs bk⟩
theorem smlB {bk:List S} (h:isBk bk):sml (.tuple (bk.map fun x=>PyData.str (tx x)))=true :=
  (okT (n:=5) (fun d hd=>by obtain ⟨x,hx,rfl⟩:=List.mem_map.mp hd; exact ok_nm (h.nm x hx)) (by rw [List.length_map]; have:=h.hi; omega)).1
theorem nofalse {b:Bool}{A:Prop} (h:b=true):b=false→A:=fun z=>by rw [h] at z; cases z
theorem orderD {o:Nat} (h1:1≤o) (h3:o≤3):isOrderD (.int (o:Int))=true:=by simp only [isOrderD,Bool.and_eq_true,decide_eq_true_eq]; omega
theorem thgW {H:Hp}{a:Addr}{lo hi:Int}{hd tl:S}{ba:List S}{to:Bool} (h:WishAt H a lo hi hd tl ba to):Thg H (wishD lo hi hd tl ba to) (.ref a):=by
  obtain ⟨xs,h1,h2,_⟩:=thg_wishP h
  exact ⟨a,xs,rfl,h1,h2⟩
theorem okW7 {lo hi:Int}{hd tl:S}{ba:List S}{to:Bool} (g:GW lo hi hd tl ba):OKd 7 (wishD lo hi hd tl ba to):=okT (n:=6) (wishP_ok g) (by show 6≤900; omega)
theorem okN {ns:List Nat} (h:ns.length≤99):OKd 6 (.list (nuD ns))∧OKd 6 (.tuple (nuD ns)):=by
  have h1:∀ d∈nuD ns,OKd 5 d:=fun d hd=>by
    obtain ⟨n,_,rfl⟩:=List.mem_map.mp hd
    exact ⟨rfl,rfl,by simp only [PyData.depth]; decide⟩
  have h2:(nuD ns).length≤900:=by unfold nuD; rw [List.length_map]; omega
  exact ⟨okL h1 h2,okT h1 h2⟩
theorem isNums {ns:List Nat} (h:ns.length≤99) (h2:∀ n∈ns,n≤9999):isNumsD (.list (nuD ns))=true∧isNumsD (.tuple (nuD ns))=true:=by
  have h1:(nuD ns).all (isWholeD 0 9999)=true:=by
    rw [List.all_eq_true]
    intro d hd
    obtain ⟨n,hn,rfl⟩:=List.mem_map.mp hd
    have:=h2 n hn
    simp only [isWholeD,Bool.and_eq_true,decide_eq_true_eq]; omega
  have h3:(nuD ns).length≤99:=by unfold nuD; rw [List.length_map]; exact h
  constructor <;> simp only [isNumsD,h1,decide_eq_true h3,Bool.and_self]
theorem NumsAt.thg {H:Hp}{v:V}{ns:List Nat} (h:NumsAt H v ns):∃ g,Thg H g v∧NumsD g ns:=by
  obtain ⟨a,rfl,h | h⟩:=h
  · exact ⟨.list (nuD ns),⟨a,_,rfl,h,Thgs.nums ns⟩,.inl rfl⟩
  · exact ⟨.tuple (nuD ns),⟨a,_,rfl,h,Thgs.nums ns⟩,.inr rfl⟩
theorem NumsD.sml {g:PyData}{ns:List Nat} (h:NumsD g ns) (h9:ns.length≤99):Kn.sml g=true:=by
  rcases h with rfl | rfl
  · exact (okN h9).1.1
  · exact (okN h9).2.1
theorem NumsD.is {g:PyData}{ns:List Nat} (h:NumsD g ns) (h9:ns.length≤99) (h2:∀ n∈ns,n≤9999):isNumsD g=true:=by
  rcases h with rfl | rfl
  · exact (isNums h9 h2).1
  · exact (isNums h9 h2).2
theorem NumsD.uniq {g:PyData}{ns ms:List Nat} (h:NumsD g ns) (h':NumsD g ms):ms=ns:=by
  rcases h with rfl | rfl
  · rcases h' with z | z
    · exact (nuD_inj (PyData.list.inj z)).symm
    · cases z
  · rcases h' with z | z
    · cases z
    · exact (nuD_inj (PyData.tuple.inj z)).symm
def TupOr (H:Hp) (Q:VK) (r:Option (S × Nat)):Prop:=(r=none→∀ H',Same H H'→Q .non H')∧∀ x q,r=some (x,q)→∀ (p:Addr) (H':Hp),Same H H'→H p=none→H' p=some (.tup [sv x,.int (q:Int)])→Q (.ref p) H'
section
variable {P:Program}{w:World}{K:PySem.W.Frag}{mg:Str→Option Value}{base:Heap}
theorem CalR.calmD {k:Nat}{x:Str}{ps:List Str}{sp sp':Sp} (C:CalR P w K mg base k x ps sp) (h:∀ vs H Q E,sp' vs H Q E→sp vs H Q (fun _ _ _=>False)):Cal P w K mg base k x ps sp' :=
  let ⟨f,fd,F,r⟩:=C
  ⟨f,fd,F.calm h,r⟩
def spNFG:Sp:=fun vs H Q _=>∃ (c:Addr) (bk:List S) (o:Nat) (x:S),vs=[.ref c,.int o,sv x]∧H c=some (.tup (bkV bk))∧Bk bk o∧(pairsB o bk).length < 64∧isNm x∧(∀ q∈pairs1 o x,q∈pairsB o bk) ∧
  ∀ (l:Addr) (H':Hp),Same H H'→H l=none→H' l=some (.lst (nuV (numsFor (pairsB o bk) (pairs1 o x))))→Q (.ref l) H'
theorem nfG {nb no nn nm:Addr} (C:CalR P w K mg base 5 "numbers_for" ["book", "order", "name"] (spNF nb no nn nm)):Cal P w K mg base 5 "numbers_for" ["book", "order", "name"] spNFG:=by
  refine CalR.calmD C fun vs H Q E h=>?_
  obtain ⟨c,bk,o,x,rfl,hc,hb,h64,hx,hall,k⟩:=h
  refine ⟨_,_,_,_,.int o,.str (tx x),rfl,thgB hc,rfl,rfl,smlB hb.toisBk,rfl,(ok_nm hx).1,nofalse (isBookD_of hb.toisBk),fun _=>nofalse (orderD hb.o1 hb.o3),fun _ _=>nofalse (isNameD_of hx),fun bk' o' x' hb' e1 e2 hx' e3=>?_⟩
  have q1:=strD_inj (PyData.tuple.inj e1)
  have q2:=V.int.inj e2
  have q3:=tx_inj (PyData.str.inj e3)
  have q2':o=o':=by omega
  subst q1 q2' q3
  exact ⟨h64,fun z=>absurd hall z,fun _=>k⟩
def spFitsG:Sp:=fun vs H Q _=>∃ (c a:Addr) (bk:List S) (lo hi:Int) (hd tl:S) (ba:List S) (to:Bool) (x:S),vs=[.ref c,.ref a,sv x]∧H c=some (.tup (bkV bk))∧isBk bk∧WishAt H a lo hi hd tl ba to∧GW lo hi hd tl ba∧isNm x ∧
  ∀ H',Same H H'→Q (.bl (fitsB bk lo hi hd tl ba to x)) H'
theorem fitsG {nb nw nn:Addr} (C:CalR P w K mg base 5 "fits" ["book", "wish", "name"] (spFits nb nw nn)):Cal P w K mg base 5 "fits" ["book", "wish", "name"] spFitsG:=by
  refine CalR.calmD C fun vs H Q E h=>?_
  obtain ⟨c,a,bk,lo,hi,hd,tl,ba,to,x,rfl,hc,hb,hw,gw,hx,k⟩:=h
  refine ⟨_,_,_,_,_,.str (tx x),rfl,thgB hc,thgW hw,rfl,smlB hb,(okW7 gw).1,(ok_nm hx).1,(okW7 gw).sh (by decide),nofalse (isBookD_of hb),fun _=>nofalse (wish_is gw),fun _ _=>nofalse (isNameD_of hx),fun bk' lo' hi' hd' tl' ba' to' x' hb' e1 gw' e2 hx' e3=>?_⟩
  have q1:=strD_inj (PyData.tuple.inj e1)
  have q3:=tx_inj (PyData.str.inj e3)
  obtain ⟨w1,w2,w3,w4,w5,w6⟩:=wD_inj e2
  subst q1 q3 w1 w2 w3 w4 w5 w6
  exact k
def spDrnG:Sp:=fun vs H Q _=>∃ (c:Addr) (nv:V) (bk:List S) (o:Nat) (ns:List Nat) (x:S) (q:Nat),vs=[.ref c,.int o,nv]∧H c=some (.tup (bkV bk))∧Bk bk o∧(pairsB o bk).length < 64∧NumsAt H nv ns∧ns.length≤99∧(∀ n∈ns,n≤9999)∧dr (pairsB o bk) o [] ns 0=some (x,q) ∧
  ∀ (p:Addr) (H':Hp),Same H H'→H p=none→H' p=some (.tup [sv x,.int (q:Int)])→Q (.ref p) H'
theorem drnG {nb no nu ts:Addr} (C:CalR P w K mg base 5 "drawn" ["book", "order", "numbers"] (spDrn nb no nu ts)):Cal P w K mg base 5 "drawn" ["book", "order", "numbers"] spDrnG:=by
  refine CalR.calmD C fun vs H Q E h=>?_
  obtain ⟨c,nv,bk,o,ns,x,q,rfl,hc,hb,h64,hn,h99,h9,hdr,k⟩:=h
  obtain ⟨g,tg,ng⟩:=hn.thg
  refine ⟨_,_,_,_,.int o,g,rfl,thgB hc,rfl,tg,smlB hb.toisBk,rfl,ng.sml h99,nofalse (isBookD_of hb.toisBk),fun _=>nofalse (orderD hb.o1 hb.o3),fun _ _=>nofalse (ng.is h99 h9),fun bk' o' ns' hb' e1 e2 e3 h99'=>?_⟩
  have q1:=strD_inj (PyData.tuple.inj e1)
  have q2:=V.int.inj e2
  have q2':o=o':=by omega
  have q3:=ng.uniq e3
  subst q1 q2' q3
  refine ⟨h64,fun z=>by (rw [hdr] at z; cases z),fun x' q' z=>?_⟩
  rw [hdr] at z
  cases z
  exact k
abbrev sTd:Stmt:=top 60
theorem scTd:FnScope ["_law_way", "_law_book_here", "_law_order", "_law_wish_here", "_law_numbers"] ["_law_way", "_law_book_here", "_law_order", "_law_wish_here", "_law_numbers"] (defScope sTd):=⟨rfl,rfl,rfl,by decide +kernel,rfl,by decide +kernel,by decide +kernel⟩
def spTd:Sp:=fun vs H Q _=>∃ (wy:Nat) (c wa:Addr) (nv:V) (bk:List S) (o:Nat) (lo hi:Int) (hd tl:S) (ba:List S) (to:Bool) (ns:List Nat),vs=[.int wy,.ref c,.int o,.ref wa,nv]∧H c=some (.tup (bkV bk))∧Bk bk o∧(pairsB o bk).length < 64∧WishAt H wa lo hi hd tl ba to∧GW lo hi hd tl ba∧NumsAt H nv ns∧ns.length≤99∧(∀ n∈ns,n≤9999) ∧
  TupOr H Q (if wy=0 then dr (pairsB o bk) o [] ns 0 else fdr (pairsB o bk) o (fitsB bk lo hi hd tl ba to) ns (ns.length+1) 0)
theorem ok_td {f:Addr}{fd:FuncData}{nb no nw nu ts:Addr} (F:Fun K "_law_told" "_law_told" sTd f fd) (O:XCls K mg "TooShort" ts) (hsub:subOf K ts ts=true) (cD:CalR P w K mg base 5 "drawn" ["book", "order", "numbers"] (spDrn nb no nu ts)) (cF:CalR P w K mg base 6 "drawn_fitting" ["book", "order", "wish", "numbers"] (spDFi nb no nw nu ts)) :
    FnOk P w K mg base CX0 7 f fd ["_law_way", "_law_book_here", "_law_order", "_law_wish_here", "_law_numbers"] spTd:=by
  refine F.ok scTd (fun vs H Q E h=>?_) (fun cdv A outer s H vs Q E' hr h=>?_)
  · obtain ⟨wy,c,wa,nv,bk,o,lo,hi,hd,tl,ba,to,ns,rfl,_⟩:=h; rfl
  · obtain ⟨wy,c,wa,nv,bk,o,lo,hi,hd,tl,ba,to,ns,rfl,hc,hb,h64,hw,gw,hn,h99,h9,k0,k1⟩:=h
    have r5:=hr.mono (j:=5) (by decide)
    refine ⟨_,pss_one (ps_tryN rfl rfl rfl O (by rfl)
      (fun E1 ET pn ok=>pss_one (ps_ret (pe_ifExp (pt_cmpR op_eq (pv 0) pe_int (nomark _)) (pe_calR cD ok r5 rfl (pa_cons (pv 1) (pa_cons (pv 2) (pa_cons (pv 4) pa_nil)))) (pe_calR cF ok hr rfl (pa_cons (pv 1) (pa_cons (pv 2) (pa_cons (pv 3) (pa_cons (pv 4) pa_nil))))))))
      (fun e=>pss_one (ps_ret pe_non))),?_⟩
    obtain ⟨g,tg,ng⟩:=hn.thg
    refine ⟨_,rfl,rfl,_,rfl,?_⟩
    by_cases hwy:wy=0
    · subst hwy
      rw [if_pos rfl] at k0 k1
      refine iteD rfl ?_
      refine ⟨_,rfl,_,rfl,_,rfl,_,_,_,_,.int o,g,rfl,thgB hc,rfl,tg,smlB hb.toisBk,rfl,ng.sml h99,nofalse (isBookD_of hb.toisBk),fun _=>nofalse (orderD hb.o1 hb.o3),fun _ _=>nofalse (ng.is h99 h9),fun bk' o' ns' hb' e1 e2 e3 h99'=>?_⟩
      have q1:=strD_inj (PyData.tuple.inj e1)
      have q2:=V.int.inj e2
      have q2':o=o':=by omega
      have q3:=ng.uniq e3
      subst q1 q2' q3
      exact ⟨h64,fun z H' s'=>⟨ts,rfl,O.exc,hsub,fun e he=>k0 z _ (s'.upd_new (s'.free he))⟩,k1⟩
    · rw [if_neg hwy] at k0 k1
      refine iteDF (by intro z; injection z with z; omega) ?_
      refine ⟨_,rfl,_,rfl,_,rfl,_,rfl,_,_,_,_,_,.int o,_,g,rfl,thgB hc,rfl,thgW hw,tg,smlB hb.toisBk,rfl,(okW7 gw).1,(okW7 gw).sh (by decide),ng.sml h99,nofalse (isBookD_of hb.toisBk),fun _=>nofalse (orderD hb.o1 hb.o3),fun _ _=>nofalse (wish_is gw),fun _ _ _=>nofalse (ng.is h99 h9),fun bk' o' lo' hi' hd' tl' ba' to' ns' hb' e1 e2 gw' e4 e3 h99'=>?_⟩
      have q1:=strD_inj (PyData.tuple.inj e1)
      have q2:=V.int.inj e2
      have q2':o=o':=by omega
      have q3:=ng.uniq e3
      obtain ⟨w1,w2,w3,w4,w5,w6⟩:=wD_inj e4
      subst q1 q2' q3 w1 w2 w3 w4 w5 w6
      exact ⟨h64,fun z H' s'=>⟨ts,rfl,O.exc,hsub,fun e he=>k0 z _ (s'.upd_new (s'.free he))⟩,k1⟩
end
end Kn.Dr
end
section
namespace Kn.Dr
open PySem L2 Kn
theorem dr_chars {o:Nat}{bk:List S} (hb:isBk bk):∀ (ns:List Nat) (t:S) (p:Nat) (x:S) (q:Nat),Alv o bk t→(∀ c∈t,97≤c∧c≤122)→dr (pairsB o bk) o t ns p=some (x,q)→∀ c∈x,97≤c∧c≤122
  | [],t,p,x,q,_,_,h=>by cases h
  | n::ns,t,p,x,q,ha,ht,h=>by
    rw [dr_cons] at h
    have hm:=pick_mem ha n
    rcases ha.pick n with e | ⟨c,e,h2⟩
    · rw [if_pos e] at h
      have e1:=(Prod.mk.inj (Option.some.inj h)).1
      rw [← e1]; exact ht
    · rw [if_neg (by rw [e]; simp),e] at h
      refine dr_chars hb ns _ _ x q h2 (fun d hd=>?_) h
      rcases List.mem_append.mp hd with z | z
      · exact ht d z
      · rw [e] at hm
        exact (book_chars hb hm).2 d z
theorem fdr_dr (ps:List (S × S)) (o:Nat) (ok:S→Bool) (ns:List Nat):∀ (f p:Nat) (x:S) (q:Nat),fdr ps o ok ns f p=some (x,q)→∃ p',dr ps o [] (ns.drop p') p'=some (x,q)
  | 0,p,x,q,h=>by cases h
  | f+1,p,x,q,h=>by
    unfold fdr at h
    cases e:dr ps o [] (ns.drop p) p with
    | none=>rw [e] at h; cases h
    | some r =>
      rw [e] at h
      have h':(if ok r.1 then some r else fdr ps o ok ns f r.2)=some (x,q):=h
      by_cases hk:ok r.1=true
      · rw [if_pos hk] at h'
        exact ⟨p,by rw [e,h']⟩
      · rw [if_neg hk] at h'
        exact fdr_dr ps o ok ns f r.2 x q h'
theorem bk_ne {bk:List S} (h:isBk bk):bk≠[]:=fun z=>by have:=h.lo; rw [z] at this; simp at this
theorem fdr_chars {o:Nat}{bk:List S} (hb:isBk bk) {ok:S→Bool}{ns:List Nat}{f p:Nat}{x:S}{q:Nat} (h:fdr (pairsB o bk) o ok ns f p=some (x,q)):∀ c∈x,97≤c∧c≤122:=by
  obtain ⟨p',h⟩:=fdr_dr _ _ _ _ _ _ _ _ h
  exact dr_chars hb _ _ _ _ _ (Alv.nil (bk_ne hb)) (by simp) h
theorem fdr_step (ps:List (S × S)) (o:Nat) (ok:S→Bool) (ns:List Nat) (p:Nat):fdr ps o ok ns (ns.length+1) p=(match dr ps o [] (ns.drop p) p with | none=>none | some r=>if ok r.1 then some r else fdr ps o ok ns (ns.length+1) r.2):=by
  conv=>lhs; unfold fdr
  cases e:dr ps o [] (ns.drop p) p with
  | none=>rfl
  | some r =>
    have h3:=dr_lt ps o _ _ _ r.1 r.2 e
    show (if ok r.1 then some r else _)=(if ok r.1 then some r else _)
    rw [fdr_fuel ps o ok ns ns.length (ns.length+1) r.2 (by omega) (by omega)]
theorem dr_at (ps:List (S × S)) (o:Nat) (t:S) (ns:List Nat) (p:Nat):dr ps o t ns p=(dr ps o t ns 0).map fun q=>(q.1,q.2+p):=by
  have:=dr_shift ps o p ns t 0
  rwa [Nat.zero_add] at this
structure Walk (ps:List (S × S)) (o:Nat) (ok:S→Bool) (ns:List Nat) (i tk:Nat) (one:Option (S × Nat)):Prop where
  le:tk≤ns.length
  one_:one=dr ps o [] (ns.drop tk) 0
  full:fdr ps o ok ns (ns.length+1) 0=fdr ps o ok ns (ns.length+1) tk
  far:one=none∨(∃ x q,one=some (x,q)∧ok x=true)∨i≤tk
theorem Walk.start (ps:List (S × S)) (o:Nat) (ok:S→Bool) (ns:List Nat):Walk ps o ok ns 0 0 (dr ps o [] ns 0):=⟨Nat.zero_le _,rfl,rfl,.inr (.inr (Nat.zero_le _))⟩
theorem Walk.step {ps:List (S × S)}{o:Nat}{ok:S→Bool}{ns:List Nat}{i tk:Nat}{x:S}{q:Nat} (w:Walk ps o ok ns i tk (some (x,q))) (h:ok x=false):tk+q≤ns.length∧Walk ps o ok ns (i+1) (tk+q) (dr ps o [] (ns.drop (tk+q)) 0):=by
  have h0:=dr_lt ps o _ _ _ x q w.one_.symm
  rw [List.length_drop] at h0
  have h1:tk+q≤ns.length:=by have:=w.le; omega
  refine ⟨h1,h1,rfl,?_,?_⟩
  · rw [w.full,fdr_step,dr_at,← w.one_]
    show (if ok x then _ else fdr ps o ok ns (ns.length+1) (q+tk))=_
    rw [if_neg (by rw [h]; decide),Nat.add_comm q tk]
  · rcases w.far with z | ⟨x',q',z,z2⟩ | z
    · cases z
    · cases z; rw [h] at z2; cases z2
    · exact .inr (.inr (by omega))
theorem Walk.stay {ps:List (S × S)}{o:Nat}{ok:S→Bool}{ns:List Nat}{i tk:Nat}{one:Option (S × Nat)} (w:Walk ps o ok ns i tk one) (h:one=none∨∃ x q,one=some (x,q)∧ok x=true):Walk ps o ok ns (i+1) tk one :=
  ⟨w.le,w.one_,w.full,h.elim .inl fun h=>.inr (.inl h)⟩
theorem Walk.fin {ps:List (S × S)}{o:Nat}{ok:S→Bool}{ns:List Nat}{tk:Nat}{one:Option (S × Nat)} (w:Walk ps o ok ns ns.length tk one):fdr ps o ok ns (ns.length+1) 0=one.map fun q=>(q.1,tk+q.2):=by
  rw [w.full,fdr_step,dr_at,← w.one_]
  cases e:one with
  | none=>rfl
  | some r =>
    have hk:ok r.1=true:=by
      rcases w.far with z | ⟨x',q',z,z2⟩ | z
      · rw [e] at z; cases z
      · rw [e] at z; cases z; exact z2
      · exfalso
        have h2:=w.one_
        rw [e,List.drop_of_length_le z] at h2
        cases h2
    show (if ok r.1 then _ else _)=_
    rw [if_pos hk]
    show some (r.1,r.2+tk)=some (r.1,tk+r.2)
    rw [Nat.add_comm]
theorem fits_len {bk:List S}{lo hi:Int}{hd tl:S}{ba:List S}{to:Bool}{x:S} (g:GW lo hi hd tl ba) (h:¬ (1≤x.length∧x.length≤8)):fitsB bk lo hi hd tl ba to x=false:=by
  have:=g.glo; have:=g.ghi
  have e:(decide (lo≤(x.length:Int)) && decide ((x.length:Int)≤hi))=false:=by
    rw [Bool.and_eq_false_iff,decide_eq_false_iff_not,decide_eq_false_iff_not]
    by_cases h1:lo≤(x.length:Int)
    · right; omega
    · left; exact h1
  simp only [fitsB,formB,e,Bool.false_and]
theorem fits_all {bk:List S}{x:S} (h:isNm x):fitsB bk 1 8 [] [] [] true x=true:=by
  have h1:=h.1; have h2:=h.2.1
  have e1:Txt.startswith (tx x) (tx [])=true:=by
    unfold Txt.startswith
    rw [show (tx ([]:S)).length=0 from rfl]
    simp [Builtin.Str.subAt,Str.length,tx]
  have e2:Txt.endswith (tx x) (tx [])=true:=by
    unfold Txt.endswith
    rw [show (tx ([]:S)).length=0 from rfl]
    simp [Builtin.Str.subAt,Str.length,tx]
  simp only [fitsB,formB,outB,e1,e2,decide_eq_true (show (1:Int)≤(x.length:Int) by omega),decide_eq_true (show (x.length:Int)≤8 by omega)]
  simp
def OptAt (H:Hp) (v:V) (r:Option (S × Nat)):Prop:=match r with
  | none=>v=.non
  | some (x,q)=>∃ p,v=.ref p∧H p=some (.tup [sv x,.int (q:Int)])
def optD:Option (S × Nat)→PyData
  | none=>.none
  | some (x,q)=>.tuple [.str (tx x),.int (q:Int)]
theorem OptAt.same {H H':Hp}{v:V}{r:Option (S × Nat)} (h:OptAt H v r) (s:Same H H'):OptAt H' v r:=by
  cases r with
  | none=>exact h
  | some p=>obtain ⟨a,e,h⟩:=h; exact ⟨a,e,s _ _ h⟩
theorem OptAt.rep {K:PySem.W.Frag}{H:Hp}{v:V}{r:Option (S × Nat)} (h:OptAt H v r):Rep K H (optD r) v:=by
  cases r with
  | none=>exact h
  | some p=>obtain ⟨a,rfl,h⟩:=h; exact ⟨a,_,rfl,.of h,_,_,rfl,rfl,_,_,rfl,rfl,rfl⟩
theorem TupOr.of {H:Hp}{Q:VK}{r:Option (S × Nat)} (h:∀ v H',Same H H'→OptAt H' v r→Q v H'):TupOr H Q r :=
  ⟨fun e H' s=>h _ _ s (by rw [e]; exact rfl),fun x q e p H' s _ hp=>h _ _ s (by rw [e]; exact ⟨p,rfl,hp⟩)⟩
theorem optD_lay {r:Option (S × Nat)} (h:∀ x q,r=some (x,q)→∀ c∈x,97≤c∧c≤122):(optD r).canLay0=true∧SeqAt.shaped (optD r)=true:=by
  cases r with
  | none=>exact ⟨rfl,by decide +kernel⟩
  | some p =>
    have h1:PyData.strOk (tx p.1)=true:=strOk_of fun c hc=>(h p.1 p.2 rfl c hc).2
    have h2:(optD (some p)).canLay0=true:=by
      show (PyData.tuple [.str (tx p.1),.int (p.2:Int)]).canLay0=true
      simp only [PyData.canLay0,PyData.canLayAll0,h1,Bool.and_self]
    refine ⟨h2,?_⟩
    unfold SeqAt.shaped
    rw [h2]
    show (true && decide ((PyData.tuple [.str (tx p.1),.int (p.2:Int)]).depth≤64))=true
    simp only [PyData.depth,PyData.depthAll]
    rfl
theorem nums_small {ps:List (S × S)} (h:ps.length < 64) (qs:List (S × S)) (hq:∀ q∈qs,q∈ps):∀ n∈numsFor ps qs,n≤9999:=fun n hn=>by
  obtain ⟨q,hq',rfl⟩:=List.mem_map.mp hn
  have h1:=List.idxOf_lt_length_iff.mpr ((pot_mem ps q.1 q.2).mpr (hq q hq'))
  have h2:=pot_len ps q.1
  have h3:=tot_le ps q.1
  omega
theorem nuV_app (a b:List Nat):nuV a++nuV b=nuV (a++b):=by unfold nuV; rw [List.map_append]
theorem nuV_drop (a:List Nat) (k:Nat):cutV (nuV a) (some (k:Int)) none=nuV (a.drop k):=by rw [cutV_from]; unfold nuV; rw [List.map_drop]
theorem nuV_take (a:List Nat) (k:Nat):cutV (nuV a) none (some (k:Int))=nuV (a.take k):=by rw [cutV_to]; unfold nuV; rw [List.map_take]
theorem told_all {o:Nat}{bk:List S}{x:S} (h:x∈bk):∀ q∈pairs1 o x,q∈pairsB o bk:=fun q hq=>List.mem_flatMap.mpr ⟨x,h,hq⟩
theorem once1 {A:Prop}{C R:Hp→Prop} (main:(∀ G,C G→R G)→A) (cont:∀ G,C G→R G):A:=main cont
theorem tSeq_absD {t u:TS}{D:Ends}{σ:St}{H:Hp} (R:St→Hp→Prop) (h2:∀ σ' H',R σ' H'→u D σ' H') (h1:∀ N:St→Hp→Prop,(∀ σ' H',R σ' H'→N σ' H')→t { D with nx:=N } σ H):tSeq t u D σ H:=h1 (u D) h2
end Kn.Dr
end
section
namespace Kn.Dr
open PySem L2 Kn
section
variable {P:Program}{w:World}{K:PySem.W.Frag}{mg:Str→Option Value}{base:Heap}
structure LawC (P:Program) (w:World) (K:PySem.W.Frag) (mg:Str→Option Value) (base:Heap):Prop where
  dr:Cal P w K mg base 2 "_law_drawn" ["_law_script", "_law_k", "_law_many"] (spDrawn K)
  bk:Cal P w K mg base 4 "_law_book" ["_law_script", "_law_at", "_law_many", "_law_most"] (spBook K)
  ws:Cal P w K mg base 3 "_law_wish" ["_law_script", "_law_at"] (spLW K)
  td:Cal P w K mg base 7 "_law_told" ["_law_way", "_law_book_here", "_law_order", "_law_wish_here", "_law_numbers"] spTd
  nf:Cal P w K mg base 5 "numbers_for" ["book", "order", "name"] spNFG
  ft:Cal P w K mg base 5 "fits" ["book", "wish", "name"] spFitsG
  dn:Cal P w K mg base 5 "drawn" ["book", "order", "numbers"] spDrnG
def spLaw (K:PySem.W.Frag):Sp:=fun vs H Q _=>∃ (a:Addr) (ns:List Int),vs=[.ref a]∧SqL K H a (ns.map V.int)∧ns.length≤63∧∀ H',Q (.bl true) H'
abbrev sLaw:Stmt:=top 61
theorem scLaw:FnScope ["_law_script", "_law_book_here", "_law_order", "_law_wish_here", "_law_numbers", "_law_name_here", "_law_taken", "_law_one", "_law_turn", "_law_due", "_law_everything"] ["_law_script"] (defScope sLaw):=⟨rfl,rfl,rfl,by decide +kernel,rfl,by decide +kernel,by decide +kernel⟩
theorem ndLa:(["_law_script", "_law_k"]:List Str).Nodup:=by decide +kernel
theorem ok_law {f:Addr}{fd:FuncData} (F:Fun K "law" "law" sLaw f fd) (B:Blt mg) (C:LawC P w K mg base):FnOk P w K mg base CX0 9 f fd ["_law_script"] (spLaw K):=by
  refine F.ok scLaw (fun vs H Q E h=>?_) (fun cdv A outer s H vs Q E hr h=>?_)
  · obtain ⟨a,ns,rfl,_⟩:=h; rfl
  · obtain ⟨a,ns,rfl,ha,hl,k⟩:=h
    have nd:=scLaw.nd
    have hu:=hr.units
    have r7:=hr.mono (j:=7) (by decide)
    have r5:=hr.mono (j:=5) (by decide)
    have r4:=hr.mono (j:=4) (by decide)
    have r3:=hr.mono (j:=3) (by decide)
    have r2:=hr.mono (j:=2) (by decide)
    refine ⟨_,pss_cons (ps_set (i:=1) nd rfl (Or.inl rfl) (pe_cal C.bk r4 rfl (pa_c (pv 0) (pa_c pe_int (pa_c pe_int (pa_c pe_int pa_nil))))))
      (pss_cons (ps_set (i:=2) nd rfl (Or.inl rfl) (pe_op op_add pe_int (pe_cal C.dr r2 rfl (pa_c (pv 0) (pa_c pe_int (pa_c pe_int pa_nil))))))
      (pss_cons (ps_set (i:=3) nd rfl (Or.inl rfl) (pe_cal C.ws r3 rfl (pa_c (pv 0) (pa_c pe_int pa_nil))))
      (pss_cons (ps_setC (j:=4) (N:=["_law_script", "_law_k"]) (caps:=[0]) nd rfl (Or.inl rfl) rfl (compScope_of (by kernel_rfl)) (pi_range1 rfl B.range (pa_c (pe_cal C.dr r2 rfl (pa_c (pv 0) (pa_c pe_int (pa_c pe_int pa_nil)))) pa_nil))
          (fun cl X s H ex=>pg_name (i:=1) ndLa rfl (Or.inl rfl)) (fun cl X s H ex=>pf_nil)
          (fun cl X s H ex=>pe_cal C.dr r2 rfl (pa_c (pv 0) (pa_c (pe_op op_add pe_int (pv 1)) (pa_c pe_int pa_nil)))))
      (pss_cons (ps_for PassesOwn.never rfl (pi_tup (pe_revT (pv 1) (pe_un un_neg pe_int))) (pg_name (i:=5) nd rfl (Or.inl rfl))
          (pss_one (ps_set (i:=4) nd rfl (Or.inl rfl) (pe_op op_cat (pv 4) (pe_cal C.nf r5 rfl (pa_c (pv 1) (pa_c (pv 2) (pa_c (pv 5) pa_nil))))))))
      (pss_cons (ps_set (i:=4) nd rfl (Or.inl rfl) (pe_op op_cat (pe_cal C.nf r5 rfl (pa_c (pv 1) (pa_c (pv 2) (pa_c (pe_ix ix_tup (pv 1) pe_int (fun _ _=>rfl)) pa_nil)))) (pv 4)))
      (pss_cons (ps_if (pt_cmpR (op_neD hu) (pe_cal C.dn r5 rfl (pa_c (pv 1) (pa_c (pv 2) (pa_c (pv 4) pa_nil)))) (pe_tup (pa_c (pe_ix ix_tup (pv 1) pe_int (fun _ _=>rfl)) (pa_c (pe_op op_add (pe_callB call_len_str (by rfl) B.len PySem.boot_len (pa_c (pe_ix ix_tup (pv 1) pe_int (fun _ _=>rfl)) pa_nil)) pe_int) pa_nil))) (nomark _)) (pss_one (ps_ret pe_bl)) pss_nil)
      (pss_cons (ps_set (i:=6) nd rfl (Or.inl rfl) pe_int)
      (pss_cons (ps_set (i:=7) nd rfl (Or.inl rfl) (pe_cal C.td r7 rfl (pa_c pe_int (pa_c (pv 1) (pa_c (pv 2) (pa_c (pv 3) (pa_c (pv 4) pa_nil)))))))
      (pss_cons (ps_for PassesOwn.never rfl (pi_range1 rfl B.range (pa_c (pe_callB call_len_seq (by rfl) B.len PySem.boot_len (pa_c (pv 4) pa_nil)) pa_nil)) (pg_name (i:=8) nd rfl (Or.inl rfl))
          (pss_one (ps_if (PW.pt (pw_and (pt_cmpR op_notN (pv 7) pe_non (nomark _)) (pw_and1 (pt_not (PW.pt (pw_and (pt_chain op_lt op_lt pe_int (pe_callB call_len_str (by rfl) B.len PySem.boot_len (pa_c (pe_ix ix_tup (pv 7) pe_int (fun _ _=>rfl)) pa_nil)) pe_int)
              (pw_and1 (pt_val (pe_cal C.ft r5 rfl (pa_c (pv 1) (pa_c (pv 3) (pa_c (pe_ix ix_tup (pv 7) pe_int (fun _ _=>rfl)) pa_nil))))))))))))
            (pss_cons (ps_set (i:=6) nd rfl (Or.inl rfl) (pe_op op_add (pv 6) (pe_ix ix_tup (pv 7) pe_int (fun _ _=>rfl))))
            (pss_one (ps_set (i:=7) nd rfl (Or.inl rfl) (pe_cal C.td r7 rfl (pa_c pe_int (pa_c (pv 1) (pa_c (pv 2) (pa_c (pv 3) (pa_c (pe_slice sl_list (pv 4) (po_some (pv 6)) po_none) pa_nil)))))))))
            pss_nil)))
      (pss_cons (ps_set (i:=9) nd rfl (Or.inl rfl) (pe_ifExp (pt_cmpR op_isN (pv 7) pe_non (nomark _)) pe_non (pe_tup (pa_c (pe_ix ix_tup (pv 7) pe_int (fun _ _=>rfl)) (pa_c (pe_op op_add (pv 6) (pe_ix ix_tup (pv 7) pe_int (fun _ _=>rfl))) pa_nil)))))
      (pss_cons (ps_if (pt_cmpR (op_neD hu) (pe_cal C.td r7 rfl (pa_c pe_int (pa_c (pv 1) (pa_c (pv 2) (pa_c (pv 3) (pa_c (pv 4) pa_nil)))))) (pv 9) (nomark _)) (pss_one (ps_ret pe_bl)) pss_nil)
      (pss_cons (ps_if (pt_cmpR (op_neD hu) (pe_cal C.td r7 rfl (pa_c pe_int (pa_c (pv 1) (pa_c (pv 2) (pa_c (pv 3) (pa_c (pe_callTy call_tuple_of (by rfl) B.tuple PyProof.Rows.boot_tuple (pa_c (pv 4) pa_nil)) pa_nil)))))) (pv 9) (nomark _)) (pss_one (ps_ret pe_bl)) pss_nil)
      (pss_cons (ps_if (pt_cmpR op_notN (pv 9) pe_non (nomark _))
          (pss_cons (ps_if (pt_cmpR (op_neD hu) (pe_cal C.td r7 rfl (pa_c pe_int (pa_c (pv 1) (pa_c (pv 2) (pa_c (pv 3) (pa_c (pe_op op_cat (pv 4) (pe_lst (pa_c pe_int (pa_c pe_int pa_nil)))) pa_nil)))))) (pv 9) (nomark _)) (pss_one (ps_ret pe_bl)) pss_nil)
          (pss_cons (ps_if (pt_cmpR (op_neD hu) (pe_cal C.td r7 rfl (pa_c pe_int (pa_c (pv 1) (pa_c (pv 2) (pa_c (pv 3) (pa_c (pe_slice sl_list (pv 4) po_none (po_some (pe_ix ix_tup (pv 9) pe_int (fun _ _=>rfl)))) pa_nil)))))) (pv 9) (nomark _)) (pss_one (ps_ret pe_bl)) pss_nil)
          (pss_one (ps_if (pt_cmpR op_notN (pe_cal C.td r7 rfl (pa_c pe_int (pa_c (pv 1) (pa_c (pv 2) (pa_c (pv 3) (pa_c (pe_slice sl_list (pv 4) po_none (po_some (pe_op op_sub (pe_ix ix_tup (pv 9) pe_int (fun _ _=>rfl)) pe_int))) pa_nil)))))) pe_non (nomark _)) (pss_one (ps_ret pe_bl)) pss_nil))))
          pss_nil)
      (pss_cons (ps_set (i:=10) nd rfl (Or.inl rfl) (pe_lit 3 _ (wishD 1 8 [] [] [] true) (by kernel_rfl)))
      (pss_one (ps_ret (pe_cmpR (op_eqD hu) (pe_cal C.td r7 rfl (pa_c pe_int (pa_c (pv 1) (pa_c (pv 2) (pa_c (pv 10) (pa_c (pv 4) pa_nil)))))) (pe_tup (pa_c (pe_ix ix_tup (pv 1) pe_int (fun _ _=>rfl)) (pa_c (pe_op op_add (pe_callB call_len_str (by rfl) B.len PySem.boot_len (pa_c (pe_ix ix_tup (pv 1) pe_int (fun _ _=>rfl)) pa_nil)) pe_int) pa_nil))) (nomark _)))))))))))))))))),?_⟩
    refine ⟨_,rfl,a,ns,0,3,3,rfl,ha,hl,by decide,by decide,by decide,by decide,fun b bk H1 s1 hb1 bl1 bl2 bn=>?_⟩
    refine ⟨_,rfl,a,ns,50,3,rfl,s1.seq ha,hl,by decide,by decide,fun d2 H2 hd2 s2'=>⟨_,_,rfl,rfl,?_⟩⟩
    have s2:=s1.trans s2'
    obtain ⟨o,ho,o1,o3⟩:∃ o:Nat,(1:Int)+(d2:Int)=(o:Int)∧1≤o∧o≤3:=⟨1+d2,by omega,by omega,by omega⟩
    dsimp only
    rw [ho]
    refine ⟨_,rfl,a,ns,60,rfl,s2.seq ha,hl,fun pw lo hi hd tl ba to H3 s3' gw hw=>?_⟩
    have s3:=s2.trans s3'
    have isb:isBk bk:=⟨bl1,by omega,fun x hx=>(bn x hx).1⟩
    have hB:Bk bk o:=⟨isb,o1,o3⟩
    have p64:(pairsB o bk).length < 64:=by
      have:=plen_le4 (o:=o) (bk:=bk) fun x hx=>by have:=(bn x hx).2; omega
      omega
    have hb3:=s3' _ _ (s2' _ _ hb1)
    refine ⟨_,rfl,a,ns,79,12,rfl,s3.seq ha,hl,by decide,by decide,fun m H4 hm s4'=>?_⟩
    refine ⟨(m:Int),rfl,by omega,by omega,?_⟩
    have s4:=s3.trans s4'
    have hb4:=s4' _ _ hb3
    have hw4:=hw.same s4'
    have ha4:=s4.seq ha
    clear s1 s2' s2 s3' s3 s4' s4 hb1 hb3 hw ha
    refine comp_known0 (known_range 0 _) [some (.ref a)] 1 (by rw [List.length_map,List.length_range]; omega) (fun i acc H'=>Same H4 H'∧∃ n0:List Nat,acc=nuV n0∧n0.length=i∧∀ n∈n0,n≤9999)
      ⟨Same.refl _,[],rfl,rfl,by simp⟩ (fun i acc H' _ h=>⟨trivial,by obtain ⟨_,n0,rfl,h,_⟩:=h; rw [nums_len]; omega⟩) ?_ ?_
    · rintro i x acc H' ys Nx hN hx hy ⟨sm,n0,rfl,hn0,hnn⟩
      obtain ⟨y,rfl⟩:=ys1 hy
      obtain ⟨hi',rfl⟩:=range_item hx
      refine ⟨_,rfl,_,rfl,_,_,rfl,rfl,a,ns,80+i,9,rfl,sm.seq ha4,hl,by decide,by decide,fun d H5 hd5 s5=>hN _ _ [some (.int i)] rfl ⟨sm.trans s5,n0++[d],?_,by rw [List.length_append,hn0]; rfl,fun n hn=>?_⟩⟩
      · unfold nuV; rw [List.map_append]; rfl
      · rcases List.mem_append.mp hn with z | z
        · exact hnn n z
        · have:=List.mem_singleton.mp z; omega
    rintro acc H' ⟨sm,n0,rfl,hn0,hnn⟩ D hD
    have hn12:n0.length≤11:=by rw [List.length_map,List.length_range] at hn0; omega
    have t5:=sm.trans (Same.upd1 (o:=.lst (nuV n0)) hD)
    have hD5:upd H' D (.lst (nuV n0)) D=some (.lst (nuV n0)):=upd_same
    generalize upd H' D (.lst (nuV n0))=H5 at t5 hD5
    have hb5:=t5 _ _ hb4
    have hw5:=hw4.same t5
    clear hD sm hn0 t5 hb4 hw4 ha4
    refine ⟨_,rfl,_,rfl,b,bkV bk,rfl,rfl,.of hb5,fun pr hpr=>?_⟩
    have t6:Same H5 (upd H5 pr (.tup (bkV bk).reverse)):=Same.upd1 hpr
    have hpr6:upd H5 pr (.tup (bkV bk).reverse) pr=some (.tup (bkV bk).reverse):=upd_same
    have hD6:=t6 _ _ hD5
    have hb6:=t6 _ _ hb5
    have hw6:=hw5.same t6
    generalize upd H5 pr (.tup (bkV bk).reverse)=H6 at t6 hpr6 hD6 hb6 hw6
    refine ⟨pr,rfl,⟨_,.of hpr6⟩,?_⟩
    refine for_known (known_tup K pr (bkV bk).reverse) (fun i σ G=>∃ (nl:Addr) (nu:List Nat) (x5:Option V),σ=[some (.ref a),some (.ref b),some (.int (o:Int)),some (.ref pw),some (.ref nl),x5,none,none,none,none,none]∧Same H6 G∧G nl=some (.lst (nuV nu))∧nu.length≤11+4 * i∧∀ n∈nu,n≤9999)
      ⟨D,n0,_,rfl,Same.refl _,hD6,by omega,hnn⟩ (fun i σ G _ h=>by obtain ⟨_,_,_,_,h,_⟩:=h; exact .of (h _ _ hpr6)) ?_ ?_
    · rintro i x σ G Nx hN hx ⟨nl,nu,x5,rfl,sm,hnl,hnul,hnu⟩
      have hxm:x∈bkV bk:=List.mem_reverse.mp (List.mem_of_getElem? hx)
      obtain ⟨y,hy,rfl⟩:=List.mem_map.mp hxm
      obtain ⟨y1,y3⟩:=bn y hy
      refine ⟨_,rfl,_,rfl,_,rfl,_,rfl,b,bk,o,y,rfl,sm _ _ hb6,hB,p64,y1,told_all hy,fun l G2 s2 hl2 hll=>?_⟩
      have hnn2:=nums_small p64 (pairs1 o y) (told_all hy)
      have hlen2:(numsFor (pairsB o bk) (pairs1 o y)).length≤4:=by unfold numsFor; rw [List.length_map,pairs1_len]; omega
      generalize numsFor (pairsB o bk) (pairs1 o y)=n2 at hll hnn2 hlen2
      have hi9:i < 3:=by
        have:=(List.getElem?_eq_some_iff.mp hx).1
        rw [List.length_reverse] at this
        unfold bkV at this
        rw [List.length_map] at this
        omega
      refine ⟨nl,l,_,_,rfl,rfl,s2 _ _ hnl,hll,by rw [nums_len,nums_len,sizeLine_eq]; omega,fun p hp=>hN _ _ ⟨p,nu++n2,_,rfl,(sm.trans s2).trans (Same.upd1 hp),by rw [upd_same,nuV_app],by rw [List.length_append]; omega,fun n hn=>?_⟩⟩
      rcases List.mem_append.mp hn with z | z
      · exact hnu n z
      · exact hnn2 n z
    rintro σ G ⟨nl,nu,x5,rfl,sm,hnl,hnul,hnu⟩
    have hnul2:nu.length≤23:=by
      rw [List.length_reverse] at hnul
      unfold bkV at hnul
      rw [List.length_map] at hnul
      omega
    have hbG:=sm _ _ hb6
    have hwG:=hw6.same sm
    clear hnul sm hpr6 hD6 hb6 hw6 t6 hpr hb5 hw5 hD5
    obtain ⟨x0,hx0⟩:∃ x,bk[0]?=some x:=⟨_,List.getElem?_eq_getElem (by omega)⟩
    have hx0m:=List.mem_of_getElem? hx0
    obtain ⟨x01,x03⟩:=bn x0 hx0m
    have hb0:(bkV bk)[0]?=some (sv x0):=by unfold bkV; rw [List.getElem?_map,hx0]; rfl
    refine ⟨_,rfl,_,rfl,_,rfl,b,_,0,sv x0,rfl,rfl,.of hbG,atI_nat hb0,b,bk,o,x0,rfl,hbG,hB,p64,x01,told_all hx0m,fun l G2 s2 hl2 hll=>?_⟩
    have hnn2:=nums_small p64 (pairs1 o x0) (told_all hx0m)
    have hlen2:(numsFor (pairsB o bk) (pairs1 o x0)).length≤4:=by unfold numsFor; rw [List.length_map,pairs1_len]; omega
    have hdr0:=dr_nums nu (told_all (o:=o) hx0m)
    generalize numsFor (pairsB o bk) (pairs1 o x0)=n2 at hll hnn2 hlen2 hdr0
    refine ⟨_,rfl,l,nl,_,_,rfl,rfl,hll,s2 _ _ hnl,by rw [nums_len,nums_len,sizeLine_eq]; omega,fun q hq=>?_⟩
    have hq7:upd G2 q (.lst (nuV n2++nuV nu)) q=some (.lst (nuV (n2++nu))):=by rw [upd_same,nuV_app]
    have t7:=s2.trans (Same.upd1 (o:=.lst (nuV n2++nuV nu)) hq)
    generalize upd G2 q (.lst (nuV n2++nuV nu))=G7 at hq7 t7
    have hb7:=t7 _ _ hbG
    have hw7:=hwG.same t7
    have hM9:∀ n∈n2++nu,n≤9999:=fun n hn=>by
      rcases List.mem_append.mp hn with z | z
      · exact hnn2 n z
      · exact hnu n z
    have hMl:(n2++nu).length≤27:=by rw [List.length_append]; omega
    generalize n2++nu=M at hq7 hdr0 hM9 hMl
    clear hnn2 hlen2 hll hl2 s2 hnl hnu hnul2 hbG hwG t7 hq
    have full_chars:∀ {ok:S→Bool} {N:List Nat} {f p:Nat} (x:S) (q:Nat),fdr (pairsB o bk) o ok N f p=some (x,q)→∀ c∈x,97≤c∧c≤122:=fun x q h=>fdr_chars isb h
    have lay0:=optD_lay (r:=some (x0,x0.length+1)) fun x q e=>by cases e; exact x01.2.2
    have x08:=x01.2.1
    refine ⟨_,rfl,_,rfl,_,rfl,b,.ref q,bk,o,M,x0,x0.length+1,rfl,hb7,hB,p64,⟨q,rfl,.inl hq7⟩,by omega,hM9,hdr0,fun p1 G8 s8 hp1n hp1=>?_⟩
    have hb8:=s8 _ _ hb7
    refine ⟨_,rfl,b,_,0,sv x0,rfl,rfl,.of hb8,atI_nat hb0,_,rfl,b,_,0,sv x0,rfl,rfl,.of hb8,atI_nat hb0,tx x0,rfl,by rw [tx_len,sizeLine_eq]; omega,_,_,rfl,rfl,by show 2≤sizeLine; decide,fun p2 hp2=>?_⟩
    have t9:=Same.upd1 (o:=.tup [sv x0,.int (((tx x0).length:Int)+1)]) hp2
    have hp29:upd G8 p2 (.tup [sv x0,.int (((tx x0).length:Int)+1)]) p2=some (.tup [sv x0,.int ((x0.length+1:Nat):Int)]):=by rw [upd_same,tx_len]; rfl
    refine ⟨optD (some (x0,x0.length+1)),optD (some (x0,x0.length+1)),OptAt.rep ⟨p1,rfl,t9 _ _ hp1⟩,OptAt.rep ⟨p2,rfl,hp29⟩,lay0.2,lay0.2,_,rfl,ite_ne lay0.1 ?_⟩
    have s79:=s8.trans t9
    have hb9:=s79 _ _ hb7
    have hq9:=s79 _ _ hq7
    have hw9:=hw7.same s79
    generalize upd G8 p2 (.tup [sv x0,.int (((tx x0).length:Int)+1)])=G9 at hb9 hq9 hw9
    clear s79 hp29 t9 hp2 hb8 hp1 hp1n s8 hb7 hq7 hw7
    refine ⟨_,rfl,_,rfl,_,rfl,_,rfl,0,b,pw,.ref q,bk,o,lo,hi,hd,tl,ba,to,M,rfl,hb9,hB,p64,hw9,gw,⟨q,rfl,.inl hq9⟩,by omega,hM9,TupOr.of fun ov0 G10 s10 hov0=>?_⟩
    rw [if_pos rfl] at hov0
    have hq10:=s10 _ _ hq9
    have hb10:=s10 _ _ hb9
    have hw10:=hw9.same s10
    clear hq9 hb9 hw9 s10
    refine ⟨_,rfl,q,_,rfl,.inl (.of hq10),((nuV M).length:Int),rfl,by omega,by rw [nums_len]; omega,?_⟩
    refine for_known (known_range 0 _) (fun i σ G=>∃ (tk:Nat) (one:Option (S × Nat)) (ov:V) (x8:Option V),σ=[some (.ref a),some (.ref b),some (.int (o:Int)),some (.ref pw),some (.ref q),x5,some (.int (tk:Int)),some ov,x8,none,none]∧Same G10 G∧OptAt G ov one∧Walk (pairsB o bk) o (fitsB bk lo hi hd tl ba to) M i tk one)
      ⟨0,_,ov0,_,rfl,Same.refl _,hov0,Walk.start _ _ _ _⟩ (fun i σ G _ h=>trivial) ?_ ?_
    · rintro i x σ G Nx hN hx ⟨tk,one,ov,x8,rfl,sm,hov,wk⟩
      refine ⟨_,rfl,rfl,_,rfl,?_⟩
      cases one with
      | none =>
        cases (show ov=.non from hov)
        refine iteNS rfl (iteF (hN _ _ ⟨tk,none,.non,_,rfl,sm,rfl,wk.stay (.inl rfl)⟩))
      | some r =>
        obtain ⟨x1,q1⟩:=r
        obtain ⟨p,rfl,hp⟩:=hov
        refine ite_nn (by intro z; cases z) ?_
        have hdrl:=dr_len _ _ _ _ _ (Alv.nil (bk_ne isb)) wk.one_.symm
        have hch:=dr_chars isb _ _ _ _ _ (Alv.nil (bk_ne isb)) (by simp) wk.one_.symm
        rw [List.length_drop] at hdrl
        simp only [List.length_nil] at hdrl
        refine ⟨_,rfl,p,_,0,sv x1,rfl,rfl,.of hp,rfl,tx x1,rfl,by rw [tx_len,sizeLine_eq]; omega,_,_,rfl,rfl,_,rfl,?_⟩
        apply once1 (C:=fun G2=>Same G G2∧fitsB bk lo hi hd tl ba to x1=false)
        case main =>
          intro cont
          by_cases h0:0 < x1.length
          · refine iteD (by rw [tx_len]; omega) ⟨_,_,rfl,rfl,_,rfl,?_⟩
            by_cases h9:x1.length < 9
            · refine iteD (by rw [tx_len]; omega) ?_
              refine ⟨_,rfl,_,rfl,_,rfl,p,_,0,sv x1,rfl,rfl,.of hp,rfl,b,pw,bk,lo,hi,hd,tl,ba,to,x1,rfl,sm _ _ hb10,isb,hw10.same sm,gw,⟨by omega,by omega,hch⟩,fun G2 s2=>⟨_,rfl,?_⟩⟩
              cases e:fitsB bk lo hi hd tl ba to x1 with
              | true=>exact iteF (hN _ _ ⟨tk,some (x1,q1),.ref p,_,rfl,sm.trans s2,⟨p,rfl,s2 _ _ hp⟩,wk.stay (.inr ⟨x1,q1,rfl,e⟩)⟩)
              | false=>exact iteT (cont G2 ⟨s2,e⟩)
            · refine iteDF (by rw [tx_len]; omega) ?_
              exact iteT (cont G ⟨Same.refl _,fits_len gw (by omega)⟩)
          · exact iteDF (by rw [tx_len]; omega) ⟨_,rfl,iteF (iteT (cont G ⟨Same.refl _,fits_len gw (by omega)⟩))⟩
        case cont =>
          rintro G2 ⟨s2,hno⟩
          have hp2:=s2 _ _ hp
          have sm2:=sm.trans s2
          obtain ⟨hle,wk2⟩:=wk.step hno
          refine ⟨_,rfl,_,rfl,p,_,1,.int (q1:Int),rfl,rfl,.of hp2,rfl,_,_,rfl,rfl,?_⟩
          refine ⟨_,rfl,_,rfl,_,rfl,_,rfl,_,rfl,_,rfl,q,_,rfl,.of (sm2 _ _ hq10),fun cu hcu=>?_⟩
          have ecu:cutV (nuV M) (some ((tk:Int)+(q1:Int))) none=nuV (M.drop (tk+q1)):=nuV_drop M (tk+q1)
          have t3:=Same.upd1 (o:=.lst (cutV (nuV M) (some ((tk:Int)+(q1:Int))) none)) hcu
          have hcu1:upd G2 cu (.lst (cutV (nuV M) (some ((tk:Int)+(q1:Int))) none)) cu=some (.lst (nuV (M.drop (tk+q1)))):=by rw [upd_same,ecu]
          have sm3:=sm2.trans t3
          refine ⟨0,b,pw,.ref cu,bk,o,lo,hi,hd,tl,ba,to,M.drop (tk+q1),rfl,sm3 _ _ hb10,hB,p64,hw10.same sm3,gw,⟨cu,rfl,.inl hcu1⟩,by rw [List.length_drop]; omega,fun n hn=>hM9 n (List.mem_of_mem_drop hn),TupOr.of fun ov2 G4 s4 hov2=>?_⟩
          rw [if_pos rfl] at hov2
          exact hN _ _ ⟨tk+q1,_,ov2,_,rfl,sm3.trans s4,hov2,wk2⟩
    rintro σ G ⟨tk,one,ov,x8,rfl,sm,hov,wk⟩
    have enn:((nuV M).length:Int).toNat=M.length:=by rw [nums_len]; omega
    rw [List.length_map,List.length_range,enn] at wk
    have hfin:=wk.fin
    have hfl:=fun x q (h:fdr (pairsB o bk) o (fitsB bk lo hi hd tl ba to) M (M.length+1) 0=some (x,q))=>fdr_lt _ _ _ _ _ _ x q h
    generalize hfe:fdr (pairsB o bk) o (fitsB bk lo hi hd tl ba to) M (M.length+1) 0=full at hfin hfl
    have layF:=optD_lay (r:=full) fun x q e=>full_chars x q (hfe.trans e)
    have hqG:=sm _ _ hq10
    have hbG:=sm _ _ hb10
    have hwG:=hw10.same sm
    clear wk enn sm hq10 hb10 hw10 hov0
    dsimp only
    refine tSeq_absD (fun σ' G2=>∃ dv,σ'=[some (.ref a),some (.ref b),some (.int (o:Int)),some (.ref pw),some (.ref q),x5,some (.int (tk:Int)),some ov,x8,some dv,none]∧Same G G2∧OptAt G2 dv full) ?cont fun N hN=>?main
    case main =>
      refine ⟨_,rfl,rfl,_,rfl,?_⟩
      cases one with
      | none =>
        cases (show ov=.non from hov)
        exact iteD rfl (hN _ _ ⟨.non,rfl,Same.refl _,by rw [hfin]; exact rfl⟩)
      | some r =>
        obtain ⟨x1,q1⟩:=r
        obtain ⟨p,rfl,hp⟩:=hov
        refine iteDF (by intro z; cases z) ?_
        refine ⟨_,rfl,p,_,0,sv x1,rfl,rfl,.of hp,rfl,_,rfl,_,rfl,p,_,1,.int (q1:Int),rfl,rfl,.of hp,rfl,_,_,rfl,rfl,by show 2≤sizeLine; decide,fun p2 hp2=>hN _ _ ⟨.ref p2,rfl,Same.upd1 hp2,?_⟩⟩
        rw [hfin]
        exact ⟨p2,rfl,by rw [upd_same]; rfl⟩
    case cont =>
      rintro _ G2 ⟨dv,rfl,s2,hdv⟩
      have hqA:=s2 _ _ hqG
      have hbA:=s2 _ _ hbG
      have hwA:=hwG.same s2
      clear s2 hqG hbG hwG hov hfin
      refine ⟨_,rfl,_,rfl,_,rfl,_,rfl,1,b,pw,.ref q,bk,o,lo,hi,hd,tl,ba,to,M,rfl,hbA,hB,p64,hwA,gw,⟨q,rfl,.inl hqA⟩,by omega,hM9,TupOr.of fun v1 G3 s3 hv1=>?_⟩
      rw [if_neg (by decide),hfe] at hv1
      refine ⟨_,rfl,optD full,optD full,hv1.rep,(hdv.same s3).rep,layF.2,layF.2,_,rfl,ite_ne layF.1 ?_⟩
      refine ⟨_,rfl,_,rfl,_,rfl,_,rfl,q,_,rfl,.inl ⟨.of (s3 _ _ hqA),fun pt hpt=>?_⟩⟩
      have t4:=s3.trans (Same.upd1 (o:=.tup (nuV M)) hpt)
      refine ⟨1,b,pw,.ref pt,bk,o,lo,hi,hd,tl,ba,to,M,rfl,t4 _ _ hbA,hB,p64,hwA.same t4,gw,⟨pt,rfl,.inr upd_same⟩,by omega,hM9,TupOr.of fun v2 G5 s5 hv2=>?_⟩
      rw [if_neg (by decide),hfe] at hv2
      have s25:=t4.trans s5
      refine ⟨_,rfl,optD full,optD full,hv2.rep,(hdv.same s25).rep,layF.2,layF.2,_,rfl,ite_ne layF.1 ?_⟩
      have hqB:=s25 _ _ hqA
      have hbB:=s25 _ _ hbA
      have hwB:=hwA.same s25
      have hdB:=hdv.same s25
      clear s25 hv2 s5 t4 hpt hv1 s3 hqA hbA hwA hdv
      refine ⟨_,rfl,rfl,_,rfl,?_⟩
      apply once1 (C:=fun G2=>Same G5 G2)
      case main =>
        intro cont
        cases hf:full with
        | none =>
          rw [hf] at hdB
          cases (show dv=.non from hdB)
          exact iteNS rfl (cont G5 (Same.refl _))
        | some r =>
          obtain ⟨xf,qf⟩:=r
          have hf2:=hf
          rw [hf] at hdB hfe layF
          obtain ⟨pd,rfl,hpd⟩:=hdB
          obtain ⟨hlt,hqM,hokf⟩:=hfl xf qf hf
          have hdB:∀ {G},Same G5 G→OptAt G (.ref pd) (some (xf,qf)):=fun s=>⟨pd,rfl,s _ _ hpd⟩
          refine ite_nn (by intro z; cases z) ?_
          refine ⟨_,rfl,_,rfl,_,rfl,_,rfl,by show 2≤sizeLine; decide,fun l7 hl7=>?_⟩
          have u1:=Same.upd1 (o:=.lst [V.int 7,V.int 7]) hl7
          refine ⟨q,l7,_,_,rfl,rfl,u1 _ _ hqB,upd_same,by rw [nums_len,sizeLine_eq]; show _+2≤_; omega,fun l8 hl8=>?_⟩
          have u2:=u1.trans (Same.upd1 (o:=.lst (nuV M++[V.int 7,V.int 7])) hl8)
          have e77:nuV M++[V.int 7,V.int 7]=nuV (M++[7,7]):=by rw [← nuV_app]; rfl
          have hl8':upd (upd G5 l7 (.lst [V.int 7,V.int 7])) l8 (.lst (nuV M++[V.int 7,V.int 7])) l8=some (.lst (nuV (M++[7,7]))):=by rw [upd_same,e77]
          refine ⟨1,b,pw,.ref l8,bk,o,lo,hi,hd,tl,ba,to,M++[7,7],rfl,u2 _ _ hbB,hB,p64,hwB.same u2,gw,⟨l8,rfl,.inl hl8'⟩,by rw [List.length_append]; show _+2≤_; omega,fun n hn=>?_,TupOr.of fun v1 G6 s6 hv1=>?_⟩
          · rcases List.mem_append.mp hn with z | z
            · exact hM9 n z
            · have:n=7:=by simpa using z
              omega
          have e1:fdr (pairsB o bk) o (fitsB bk lo hi hd tl ba to) (M++[7,7]) ((M++[7,7]).length+1) 0=some (xf,qf):=by
            rw [fdr_fuel _ _ _ _ _ (M.length+3) 0 (by omega) (by rw [List.length_append]; show _+2 < _; omega)]
            refine fdr_more _ _ _ _ _ _ _ _ (Nat.zero_le _) ?_
            rw [fdr_fuel _ _ _ _ _ (M.length+1) 0 (by omega) (by omega)]
            exact hfe
          rw [if_neg (by decide),e1] at hv1
          have u3:=u2.trans s6
          refine ⟨_,rfl,optD (some (xf,qf)),optD (some (xf,qf)),hv1.rep,(hdB u3).rep,layF.2,layF.2,_,rfl,ite_ne layF.1 ?_⟩
          refine ⟨_,rfl,_,rfl,_,rfl,_,rfl,_,rfl,pd,_,1,.int (qf:Int),rfl,rfl,.of (u3 _ _ hpd),rfl,_,rfl,q,_,rfl,.of (u3 _ _ hqB),fun cu hcu=>?_⟩
          have u4:=u3.trans (Same.upd1 (o:=.lst (cutV (nuV M) none (some (qf:Int)))) hcu)
          have hcu1:upd G6 cu (.lst (cutV (nuV M) none (some (qf:Int)))) cu=some (.lst (nuV (M.take qf))):=by rw [upd_same,nuV_take]
          refine ⟨1,b,pw,.ref cu,bk,o,lo,hi,hd,tl,ba,to,M.take qf,rfl,u4 _ _ hbB,hB,p64,hwB.same u4,gw,⟨cu,rfl,.inl hcu1⟩,by rw [List.length_take]; omega,fun n hn=>hM9 n (List.mem_of_mem_take hn),TupOr.of fun v2 G7 s7 hv2=>?_⟩
          have e2:fdr (pairsB o bk) o (fitsB bk lo hi hd tl ba to) (M.take qf) ((M.take qf).length+1) 0=some (xf,qf):=by
            rw [fdr_fuel _ _ _ _ _ (M.length+1) 0 (by omega) (by rw [List.length_take]; omega)]
            exact fdr_take _ _ _ _ _ _ _ _ _ hfe (Nat.le_refl _)
          rw [if_neg (by decide),e2] at hv2
          have u5:=u4.trans s7
          refine ⟨_,rfl,optD (some (xf,qf)),optD (some (xf,qf)),hv2.rep,(hdB u5).rep,layF.2,layF.2,_,rfl,ite_ne layF.1 ?_⟩
          refine ⟨_,rfl,_,rfl,_,rfl,_,rfl,_,rfl,pd,_,1,.int (qf:Int),rfl,rfl,.of (u5 _ _ hpd),rfl,_,_,rfl,rfl,_,rfl,q,_,rfl,.of (u5 _ _ hqB),fun cv hcv=>?_⟩
          have e3:(qf:Int) - 1=((qf - 1:Nat):Int):=by omega
          have u6:=u5.trans (Same.upd1 (o:=.lst (cutV (nuV M) none (some ((qf:Int) - 1)))) hcv)
          have hcv1:upd G7 cv (.lst (cutV (nuV M) none (some ((qf:Int) - 1)))) cv=some (.lst (nuV (M.take (qf - 1)))):=by rw [upd_same,e3,nuV_take]
          refine ⟨1,b,pw,.ref cv,bk,o,lo,hi,hd,tl,ba,to,M.take (qf - 1),rfl,u6 _ _ hbB,hB,p64,hwB.same u6,gw,⟨cv,rfl,.inl hcv1⟩,by rw [List.length_take]; omega,fun n hn=>hM9 n (List.mem_of_mem_take hn),TupOr.of fun v3 G8 s8 hv3=>?_⟩
          have e4:fdr (pairsB o bk) o (fitsB bk lo hi hd tl ba to) (M.take (qf - 1)) ((M.take (qf - 1)).length+1) 0=none:=by
            rw [fdr_fuel _ _ _ _ _ (M.length+1) 0 (by omega) (by rw [List.length_take]; omega)]
            exact fdr_short _ _ _ _ _ _ _ _ _ hfe (by omega)
          rw [if_neg (by decide),e4] at hv3
          cases (show v3=.non from hv3)
          exact ⟨rfl,_,rfl,iteNS rfl (cont G8 (u6.trans s8))⟩
      case cont =>
        intro G6 s6
        intro v7 G7 s7 hv7
        obtain ⟨pe,rfl,hw7⟩:=thg_wish hv7
        have t7:=s6.trans s7
        have gw8:GW 1 8 [] [] []:=⟨by decide,by decide,by decide,.inl rfl,.inl rfl,by decide,by simp,rfl⟩
        refine ⟨_,rfl,_,rfl,_,rfl,_,rfl,1,b,pe,.ref q,bk,o,1,8,[],[],[],true,M,rfl,t7 _ _ hbB,hB,p64,hw7,gw8,⟨q,rfl,.inl (t7 _ _ hqB)⟩,by omega,hM9,TupOr.of fun v8 G8 s8 hv8=>?_⟩
        have e1:fdr (pairsB o bk) o (fitsB bk 1 8 [] [] [] true) M (M.length+1) 0=some (x0,x0.length+1):=by
          unfold fdr
          rw [List.drop_zero,hdr0]
          show (if fitsB bk 1 8 [] [] [] true x0 then _ else _)=_
          rw [if_pos (fits_all x01)]
        rw [if_neg (by decide),e1] at hv8
        have t8:=t7.trans s8
        have hb8:=t8 _ _ hbB
        refine ⟨_,rfl,b,_,0,sv x0,rfl,rfl,.of hb8,atI_nat hb0,_,rfl,b,_,0,sv x0,rfl,rfl,.of hb8,atI_nat hb0,tx x0,rfl,by rw [tx_len,sizeLine_eq]; omega,_,_,rfl,rfl,by show 2≤sizeLine; decide,fun p2 hp2=>?_⟩
        have t9:=Same.upd1 (o:=.tup [sv x0,.int (((tx x0).length:Int)+1)]) hp2
        have hp29:upd G8 p2 (.tup [sv x0,.int (((tx x0).length:Int)+1)]) p2=some (.tup [sv x0,.int ((x0.length+1:Nat):Int)]):=by rw [upd_same,tx_len]; rfl
        refine ⟨optD (some (x0,x0.length+1)),optD (some (x0,x0.length+1)),(hv8.same t9).rep,OptAt.rep ⟨p2,rfl,hp29⟩,lay0.2,lay0.2,?_⟩
        rw [eqv_refl _ lay0.1]
        exact k _
end
end Kn.Dr
end
section
namespace Kn
open PySem L2 Dr
def Has (K:PySem.W.Frag) (x:Str) (st:Stmt) (ps:List Str):Prop :=
  ∃ (f:Addr) (fd:FuncData),PySem.W.nsIn K mainGlobals x=some (some (.ref f))∧Fun K x x st f fd∧PySem.W.keepIn K (.ref f)=true∧Binds K fd ps []
theorem has_mk {K:PySem.W.Frag}{x:Str}{st:Stmt}{f:Addr}{oc kV dc pm cd ct:Value}{od an:Option Addr}{sl:Array (Option Value)} (ps:List Str)
    (hb:∀ (fd:FuncData),Fun K x x st f fd→Binds K fd ps [])
    (a:PySem.W.nsIn K mainGlobals x=some (some (.ref f))) (l:K.lookup f=some ⟨oc,od,.func (PySem.W.fnOf x x (defArgs st) (defBody st) (defScope st) .none kV dc pm an cd ct),sl⟩) (c:PySem.W.codeIn K cd x=true) (k:PySem.W.keepIn K (.ref f)=true):Has K x st ps :=
  ⟨f,_,a,fun_mk (st:=st) l c k,k,hb _ (fun_mk (st:=st) l c k)⟩
structure Top (K:PySem.W.Frag):Prop where
  is_name:Has K "is_name" sIsName ["thing"]
  is_book:Has K "is_book" sIsBook ["thing"]
  is_whole:Has K "is_whole" sIsWhole ["thing", "least", "most"]
  is_order:Has K "is_order" sIsOrder ["thing"]
  is_rising:Has K "is_rising" sRising ["things"]
  need_book:Has K "need_book" sNeedBook ["thing"]
  need_order:Has K "need_order" sNeedOrder ["thing"]
  need_name:Has K "need_name" sNeedName ["thing"]
  end_of:Has K "end_of" sEnd ["text", "order"]
  ends:Has K "ends_and_letters" sEnds ["name", "order"]
  rows:Has K "counted_rows" sRows ["book", "order"]
  is_edge:Has K "is_edge" sEdge ["thing"]
  is_barred:Has K "is_barred" sBarred ["thing"]
  is_wish:Has K "is_wish" sWish ["thing"]
  need_wish:Has K "need_wish" sNeedWish ["thing"]
  form:Has K "has_form" sForm ["wish", "name"]
  out:Has K "left_out" sOut ["book", "wish"]
  fits:Has K "fits" sFits ["book", "wish", "name"]
  are:Has K "are_numbers" sAre ["thing"]
  neednu:Has K "need_numbers" sNeedNu ["thing"]
  pot:Has K "pot_of" sPot ["row"]
  pots:Has K "pots_by_end" sPots ["book", "order"]
  df:Has K "drawn_from" sDF ["pots", "order", "numbers", "start"]
  drn:Has K "drawn" sDrn ["book", "order", "numbers"]
  fd:Has K "first_drawn" sFD ["book", "order", "wish", "barred", "numbers"]
  dfi:Has K "drawn_fitting" sDFi ["book", "order", "wish", "numbers"]
  nf:Has K "numbers_for" sNF ["book", "order", "name"]
  cell:Has K "_law_cell" sCell ["_law_script", "_law_k"]
  drawn:Has K "_law_drawn" sDrawn ["_law_script", "_law_k", "_law_many"]
  lname:Has K "_law_name" sName ["_law_script", "_law_at", "_law_most"]
  lbook:Has K "_law_book" sBook ["_law_script", "_law_at", "_law_many", "_law_most"]
  lwish:Has K "_law_wish" sLW ["_law_script", "_law_at"]
  ltold:Has K "_law_told" sTd ["_law_way", "_law_book_here", "_law_order", "_law_wish_here", "_law_numbers"]
  letters:∃ t,PySem.W.nsIn K mainGlobals "LETTERS" = some (some (.str letters t))
  ml:∃ t,PySem.W.nsIn K mainGlobals "MOST_LETTERS" = some (some (.int 8 t))
  mn:∃ t,PySem.W.nsIn K mainGlobals "MOST_NAMES" = some (some (.int 8 t))
  mo:∃ t,PySem.W.nsIn K mainGlobals "MOST_ORDER" = some (some (.int 3 t))
  w0:∃ t,PySem.W.nsIn K mainGlobals "LEAST" = some (some (.int 0 t))
  w1:∃ t,PySem.W.nsIn K mainGlobals "MOST" = some (some (.int 1 t))
  w2:∃ t,PySem.W.nsIn K mainGlobals "HEAD" = some (some (.int 2 t))
  w3:∃ t,PySem.W.nsIn K mainGlobals "TAIL" = some (some (.int 3 t))
  w4:∃ t,PySem.W.nsIn K mainGlobals "BARRED" = some (some (.int 4 t))
  w5:∃ t,PySem.W.nsIn K mainGlobals "TOLD" = some (some (.int 5 t))
  w6:∃ t,PySem.W.nsIn K mainGlobals "MANY_PARTS" = some (some (.int 6 t))
  w7:∃ t,PySem.W.nsIn K mainGlobals "MOST_EDGE" = some (some (.int 3 t))
  w8:∃ t,PySem.W.nsIn K mainGlobals "MOST_BARRED" = some (some (.int 6 t))
  d0:∃ t,PySem.W.nsIn K mainGlobals "MOST_NUMBERS" = some (some (.int 99 t))
  d1:∃ t,PySem.W.nsIn K mainGlobals "GREATEST_NUMBER" = some (some (.int 9999 t))
  ib:PySem.W.kitOne K (.type "int") (.type "bool")=some false
  xb:∃ C,subOf K C C=true∧∀ (h:Heap) (mg:Str→Option Value),K.In h→h.Ns mainGlobals mg→XCls K mg "NoBook" C
  xo:∃ C,subOf K C C=true∧∀ (h:Heap) (mg:Str→Option Value),K.In h→h.Ns mainGlobals mg→XCls K mg "NoOrder" C
  xn:∃ C,subOf K C C=true∧∀ (h:Heap) (mg:Str→Option Value),K.In h→h.Ns mainGlobals mg→XCls K mg "NoName" C
  xw:∃ C,subOf K C C=true∧∀ (h:Heap) (mg:Str→Option Value),K.In h→h.Ns mainGlobals mg→XCls K mg "NoWish" C
  xu:∃ C,subOf K C C=true∧∀ (h:Heap) (mg:Str→Option Value),K.In h→h.Ns mainGlobals mg→XCls K mg "NoNumber" C
  xm:∃ C,subOf K C C=true∧∀ (h:Heap) (mg:Str→Option Value),K.In h→h.Ns mainGlobals mg→XCls K mg "NotMade" C
  xs:∃ C,subOf K C C=true∧∀ (h:Heap) (mg:Str→Option Value),K.In h→h.Ns mainGlobals mg→XCls K mg "TooShort" C
  kitf:KitF K
  kitb:KitB K
  kitl:KitL K
  zlen:PySem.W.nsIn K mainGlobals "len" = some none
  zrange:PySem.W.nsIn K mainGlobals "range" = some none
  zall:PySem.W.nsIn K mainGlobals "all" = some none
  zisinstance:PySem.W.nsIn K mainGlobals "isinstance" = some none
  zstr:PySem.W.nsIn K mainGlobals "str" = some none
  ztuple:PySem.W.nsIn K mainGlobals "tuple" = some none
  zint:PySem.W.nsIn K mainGlobals "int" = some none
  zbool:PySem.W.nsIn K mainGlobals "bool" = some none
  zsorted:PySem.W.nsIn K mainGlobals "sorted" = some none
  zsum:PySem.W.nsIn K mainGlobals "sum" = some none
  zmin:PySem.W.nsIn K mainGlobals "min" = some none
  zlist:PySem.W.nsIn K mainGlobals "list" = some none
  zset:PySem.W.nsIn K mainGlobals "set" = some none
  zzip:PySem.W.nsIn K mainGlobals "zip" = some none
  zenumerate:PySem.W.nsIn K mainGlobals "enumerate" = some none
  zdict:PySem.W.nsIn K mainGlobals "dict" = some none
theorem letters_eq:(Str.ofString "abcdefghijklmnopqrstuvwxyz")=letters:=by decide +kernel
theorem lets_mk {K:PySem.W.Frag}{t:Tok} (h:PySem.W.nsIn K mainGlobals "LETTERS" = some (some (.str (Str.ofString "abcdefghijklmnopqrstuvwxyz") t))):∃ t,PySem.W.nsIn K mainGlobals "LETTERS" = some (some (.str letters t)):=by
  rw [letters_eq] at h; exact ⟨t,h⟩
theorem int_mk {K:PySem.W.Frag}{x:Str}{i:Int}{t:Tok} (h:PySem.W.nsIn K mainGlobals x=some (some (.int i t))):∃ t,PySem.W.nsIn K mainGlobals x=some (some (.int i t)):=⟨t,h⟩
section
variable {P:Program}{w:World}{K:PySem.W.Frag}{mg:Str→Option Value}{base:Heap}{h:Heap}
theorem cal_of {x:Str}{st:Stmt}{ps:List Str}{k:Nat}{sp:Sp} (X:K.In h) (G:h.Ns mainGlobals mg) (H:Has K x st ps) (ok:∀ (f:Addr) (fd:FuncData),Fun K x x st f fd→FnOk P w K mg base CX0 k f fd ps sp):Cal P w K mg base k x ps sp:=by
  obtain ⟨f,fd,a,F,kp,b⟩:=H
  exact ⟨f,fd,ok f fd F,PySem.W.mg_of X G a,kp,b⟩
theorem cal_ofR {x:Str}{st:Stmt}{ps:List Str}{k:Nat}{sp:Sp} (X:K.In h) (G:h.Ns mainGlobals mg) (H:Has K x st ps) (ok:∀ (f:Addr) (fd:FuncData),Fun K x x st f fd→FnOk P w K mg base (CXr P w) k f fd ps sp):CalR P w K mg base k x ps sp:=by
  obtain ⟨f,fd,a,F,kp,b⟩:=H
  exact ⟨f,fd,ok f fd F,PySem.W.mg_of X G a,kp,b⟩
theorem law_mk (X:K.In h) (G:h.Ns mainGlobals mg) (T:Top K) {f:Addr}{fd:FuncData} (F:Fun K "law" "law" sLaw f fd):FnOk P w K mg base CX0 9 f fd ["_law_script"] (spLaw K):=by
  have B:Blt mg:=⟨PySem.W.mg_none_of X G T.zlen,PySem.W.mg_none_of X G T.zrange,PySem.W.mg_none_of X G T.zall,PySem.W.mg_none_of X G T.zisinstance,PySem.W.mg_none_of X G T.zstr,PySem.W.mg_none_of X G T.ztuple,PySem.W.mg_none_of X G T.zint,PySem.W.mg_none_of X G T.zbool,PySem.W.mg_none_of X G T.zsorted,PySem.W.mg_none_of X G T.zsum,PySem.W.mg_none_of X G T.zmin⟩
  have C:Cst K mg:=⟨let ⟨t,e⟩:=T.letters; ⟨t,PySem.W.mg_of X G e⟩,let ⟨t,e⟩:=T.ml; ⟨t,PySem.W.mg_of X G e⟩,let ⟨t,e⟩:=T.mn; ⟨t,PySem.W.mg_of X G e⟩,let ⟨t,e⟩:=T.mo; ⟨t,PySem.W.mg_of X G e⟩,T.ib⟩
  have hli:=PySem.W.mg_none_of X G T.zlist
  have hse:=PySem.W.mg_none_of X G T.zset
  have hzi:=PySem.W.mg_none_of X G T.zzip
  have hen:=PySem.W.mg_none_of X G T.zenumerate
  have hdi:=PySem.W.mg_none_of X G T.zdict
  have W:CstW mg:=⟨let ⟨t,e⟩:=T.w0; ⟨t,PySem.W.mg_of X G e⟩,let ⟨t,e⟩:=T.w1; ⟨t,PySem.W.mg_of X G e⟩,let ⟨t,e⟩:=T.w2; ⟨t,PySem.W.mg_of X G e⟩,let ⟨t,e⟩:=T.w3; ⟨t,PySem.W.mg_of X G e⟩,let ⟨t,e⟩:=T.w4; ⟨t,PySem.W.mg_of X G e⟩,let ⟨t,e⟩:=T.w5; ⟨t,PySem.W.mg_of X G e⟩,let ⟨t,e⟩:=T.w6; ⟨t,PySem.W.mg_of X G e⟩,let ⟨t,e⟩:=T.w7; ⟨t,PySem.W.mg_of X G e⟩,let ⟨t,e⟩:=T.w8; ⟨t,PySem.W.mg_of X G e⟩⟩
  have DD:CstD mg:=⟨let ⟨t,e⟩:=T.d0; ⟨t,PySem.W.mg_of X G e⟩,let ⟨t,e⟩:=T.d1; ⟨t,PySem.W.mg_of X G e⟩⟩
  obtain ⟨nb,_,hb⟩:=T.xb
  obtain ⟨no,_,ho⟩:=T.xo
  obtain ⟨nn,_,hn⟩:=T.xn
  obtain ⟨nw,_,hw⟩:=T.xw
  obtain ⟨nu,_,hu⟩:=T.xu
  obtain ⟨nm,_,hm⟩:=T.xm
  obtain ⟨ts,hts,hs⟩:=T.xs
  have Ob:=hb h mg X G
  have Oo:=ho h mg X G
  have On:=hn h mg X G
  have Ow:=hw h mg X G
  have Ou:=hu h mg X G
  have Om:=hm h mg X G
  have Os:=hs h mg X G
  have KF:=T.kitf
  have KB:=T.kitb
  have KL:=T.kitl
  have cEnd:=cal_of (P:=P) (w:=w) (base:=base) X G T.end_of fun f fd F=>ok_end F
  have cEndB:=cal_of (P:=P) (w:=w) (base:=base) X G T.end_of fun f fd F=>ok_endB F
  have cEnds:=cal_of (P:=P) (w:=w) (base:=base) X G T.ends fun f fd F=>ok_ends F B cEnd
  have cRows:=cal_of (P:=P) (w:=w) (base:=base) X G T.rows fun f fd F=>ok_rows F cEnds
  have cIsName:=cal_of (P:=P) (w:=w) (base:=base) X G T.is_name fun f fd F=>ok_isnameT F B C KF
  have cIsBook:=cal_of (P:=P) (w:=w) (base:=base) X G T.is_book fun f fd F=>ok_isbookT F B C KF cIsName
  have cIsWhole:=cal_of (P:=P) (w:=w) (base:=base) X G T.is_whole fun f fd F=>ok_iswholeT F B C KF
  have cIsOrder:=cal_of (P:=P) (w:=w) (base:=base) X G T.is_order fun f fd F=>ok_isorderT F C cIsWhole
  have cRis:=cal_of (P:=P) (w:=w) (base:=base) X G T.is_rising fun f fd F=>ok_rising F B hzi
  have cNB:=cal_ofR (P:=P) (w:=w) (base:=base) X G T.need_book fun f fd F=>ok_needbookR F Ob cIsBook
  have cNO:=cal_ofR (P:=P) (w:=w) (base:=base) X G T.need_order fun f fd F=>ok_needorderR F Oo cIsOrder
  have cNN:=cal_ofR (P:=P) (w:=w) (base:=base) X G T.need_name fun f fd F=>ok_neednameR F On cIsName
  have cEd:=cal_of (P:=P) (w:=w) (base:=base) X G T.is_edge fun f fd F=>ok_edge F B W cIsName
  have cBa:=cal_of (P:=P) (w:=w) (base:=base) X G T.is_barred fun f fd F=>ok_barred F B KF W cIsName cRis
  have cWi:=cal_of (P:=P) (w:=w) (base:=base) X G T.is_wish fun f fd F=>ok_wish F B C KF KB W cIsWhole cEd cBa
  have cNW:=cal_ofR (P:=P) (w:=w) (base:=base) X G T.need_wish fun f fd F=>ok_needwish F Ow cWi
  have cFo:=cal_of (P:=P) (w:=w) (base:=base) X G T.form fun f fd F=>ok_form F B W
  have cOu:=cal_of (P:=P) (w:=w) (base:=base) X G T.out fun f fd F=>ok_out F B W hli hse
  have cFi:=cal_ofR (P:=P) (w:=w) (base:=base) X G T.fits fun f fd F=>ok_fits F cNB cNW cNN cFo cOu
  have cAre:=cal_of (P:=P) (w:=w) (base:=base) X G T.are fun f fd F=>ok_are F B hli DD KF KL cIsWhole
  have cNu:=cal_ofR (P:=P) (w:=w) (base:=base) X G T.neednu fun f fd F=>ok_needNu F Ou cAre
  have cPot:=cal_of (P:=P) (w:=w) (base:=base) X G T.pot fun f fd F=>ok_pot F B
  have cPots:=cal_of (P:=P) (w:=w) (base:=base) X G T.pots fun f fd F=>ok_pots F hdi cRows cPot
  have cDF:=cal_ofR (P:=P) (w:=w) (base:=base) X G T.df fun f fd F=>ok_DF F B Os cEndB
  have cDrn:=cal_ofR (P:=P) (w:=w) (base:=base) X G T.drn fun f fd F=>ok_drn F cNB cNO cNu cPots cDF
  have cFD:=cal_ofR (P:=P) (w:=w) (base:=base) X G T.fd fun f fd F=>ok_FD F cPots cDF cFo
  have cDfi:=cal_ofR (P:=P) (w:=w) (base:=base) X G T.dfi fun f fd F=>ok_dfi F cNB cNO cNW cNu cOu cFD
  have cNF:=cal_ofR (P:=P) (w:=w) (base:=base) X G T.nf fun f fd F=>ok_NF F Om cNB cNO cNN cPots cEnds
  have cCell:=cal_of (P:=P) (w:=w) (base:=base) X G T.cell fun f fd F=>ok_cell F B
  have cDrawn:=cal_of (P:=P) (w:=w) (base:=base) X G T.drawn fun f fd F=>ok_drawn F cCell
  have cName:=cal_of (P:=P) (w:=w) (base:=base) X G T.lname fun f fd F=>ok_name F B cDrawn
  have cBook:=cal_of (P:=P) (w:=w) (base:=base) X G T.lbook fun f fd F=>ok_book F B cDrawn cName
  have cLW:=cal_of (P:=P) (w:=w) (base:=base) X G T.lwish fun f fd F=>ok_lw F B hen cDrawn
  have cTd:=cal_of (P:=P) (w:=w) (base:=base) X G T.ltold fun f fd F=>ok_td F Os hts cDrn cDfi
  exact ok_law F B ⟨cDrawn,cBook,cLW,cTd,nfG cNF,fitsG cFi,drnG cDrn⟩
end
theorem all_mk {l:PySem.W.OpenLaw}{w:World}{K:PySem.W.Frag}{h:Heap}{mg:Str→Option Value}{fa f4:Addr} (X:K.In h) (G:h.Ns mainGlobals mg) (hfa:mg "law" = some (.ref fa))
    {od4 an4:Option Addr} {sl4:Array (Option Value)} {oc4 kV4 dc4 pm4 cd4 ct4:Value} (T:Top K)
    (a4:PySem.W.nsIn K mainGlobals "law" = some (some (.ref f4))) (l4:K.lookup f4=some ⟨oc4,od4,.func (PySem.W.fnOf "law" "law" (defArgs sLaw) (defBody sLaw) (defScope sLaw) .none kV4 dc4 pm4 an4 cd4 ct4),sl4⟩) (c4:PySem.W.codeIn K cd4 "law" = true) (k4:PySem.W.keepIn K (.ref f4)=true) :
    ∃ fd:FuncData,(∀ (s:Shared) (v:Value),BindsTo s fd ⟨[v],[]⟩ [("_law_script",v)])∧∀ base:Heap,K.In base→base.Ns mainGlobals mg→FnOk l.prog w K mg base CX0 9 fa fd ["_law_script"] (spLaw K):=by
  have e:=hfa.symm.trans (PySem.W.mg_of X G a4)
  cases e
  have F4:=fun_mk (st:=sLaw) l4 c4 k4
  exact ⟨PySem.W.fnOf "law" "law" (defArgs sLaw) (defBody sLaw) (defScope sLaw) .none kV4 dc4 pm4 an4 cd4 ct4,fun s v=>.of_eq rfl,fun base _ _=>law_mk X G T F4⟩
theorem walk {l:PySem.W.OpenLaw}{q:Program}{loose:List Str}{XP:(Str→Option Value)→Heap→Prop}{YP:World→Heap→Prop}{d:DefRec}{K:Params→PySem.W.Frag} (hn:l.most=some 63) (hdf:d.params.defaults=[])
    (hY:∀ (w:World) (h:Heap),YP w h→(K w.params).In h)
    (F:∀ (w:World) (mg:Str→Option Value) (fa:Addr) (h:Heap),(K w.params).In h→h.Ns mainGlobals mg→mg d.name=some (.ref fa) →
      ∃ fd:FuncData,(∀ (s:Shared) (u:Value),BindsTo s fd ⟨[u],[]⟩ [("_law_script",u)])∧∀ base:Heap,(K w.params).In base→base.Ns mainGlobals mg→FnOk l.prog w (K w.params) mg base CX0 9 fa fd ["_law_script"] (spLaw (K w.params))) :
    PySem.W.WalkO q loose XP YP l.row.toRowW d [] (fun f vs=>PySem.call f vs) :=
  L2.walk_of (n:=63) (k:=9) (x := "_law_script") (CX:=fun _=>CX0) (sp:=fun w=>spLaw (K w.params)) hn (by decide) hdf ⟨rfl,by decide,by decide⟩ hY F (fun _ _ a ns hl _ hS=>⟨a,ns,rfl,hS,hl,fun _=>rfl⟩) fun _ _ _ _ _ z=>z
end Kn
end
section
open PySem PySem.W PyProof.Rows
set_option maxRecDepth 100000 in
set_option maxHeartbeats 0 in
theorem PySem.Challenge.cw_kinnames_k42_whole_fitting_holds : PySem.Challenge.rw_kinnames_k42_whole_fitting.Holds := by
  w_on; o_law
  refine PySem.W.holds_open (q:=Kn.kq) (loose:=Kn.klo) (Xt:=fun s=>xlAt Kn.kq [] s && recOk [] s) (XP:=XL Kn.kq []) (Yf:=Hook.obs (kHook Kn.kfr Kn.kas Kn.kas_e)) (Ya:=Hook.val (kHook Kn.kfr Kn.kas Kn.kas_e)) (YP:=Hook.says (kHook Kn.kfr Kn.kas Kn.kas_e)) (N:=5878) Kn.hl (Hook.of (kHook Kn.kfr Kn.kas Kn.kas_e)) (Hook.keeps (kHook Kn.kfr Kn.kas Kn.kas_e)) (fun s e=>xl_of s (Bool.and_eq_true_iff.mp e).1) XL.keeps (by rfl) (by rfl) (by rfl) (fun s e=>recFacts_of (Bool.and_eq_true_iff.mp e).2) (by rfl) (by first | assumption | decide +kernel) (by decide +kernel) ⟨rfl,rfl,rfl,rfl,rfl,by decide +kernel⟩ ?hw ?hc
  (case hw=>w_witness2)
  k_fill
  refine Kn.walk (l:=PySem.Challenge.rw_kinnames_k42_whole_fitting) rfl rfl (fun w h Y=>PySem.W.kIn_of Y) ?F
  case F =>
    intro w mg fa h KX G hmg
    refine' Kn.all_mk KX G hmg ?T ?a4 ?l4 ?c4 ?k4
    (case T =>
      refine' ⟨?is_name,?is_book,?is_whole,?is_order,?is_rising,?need_book,?need_order,?need_name,?end_of,?ends,?rows,?is_edge,?is_barred,?is_wish,?need_wish,?form,?out,?fits,?are,?neednu,?pot,?pots,?df,?drn,?fd,?dfi,?nf,?cell,?drawn,?lname,?lbook,?lwish,?ltold,?letters,?ml,?mn,?mo,?w0,?w1,?w2,?w3,?w4,?w5,?w6,?w7,?w8,?d0,?d1,?ib,?xb,?xo,?xn,?xw,?xu,?xm,?xs,?kitf,?kitb,?kitl,?zlen,?zrange,?zall,?zisinstance,?zstr,?ztuple,?zint,?zbool,?zsorted,?zsum,?zmin,?zlist,?zset,?zzip,?zenumerate,?zdict⟩
      (case is_name=>refine' Kn.has_mk _ (fun fd F=>F.binds fun _ _ _ _ _ _ us hl=>match us,hl with | [_],_=>rfl) ?kna ?knl ?knc ?knk; (case kna=>k_is); (case knl=>k_is); (case knc=>k_is); (case knk=>k_is))
      (case is_book=>refine' Kn.has_mk _ (fun fd F=>F.binds fun _ _ _ _ _ _ us hl=>match us,hl with | [_],_=>rfl) ?kna ?knl ?knc ?knk; (case kna=>k_is); (case knl=>k_is); (case knc=>k_is); (case knk=>k_is))
      (case is_whole=>refine' Kn.has_mk _ (fun fd F=>F.binds fun _ _ _ _ _ _ us hl=>match us,hl with | [_,_,_],_=>rfl) ?kna ?knl ?knc ?knk; (case kna=>k_is); (case knl=>k_is); (case knc=>k_is); (case knk=>k_is))
      (case is_order=>refine' Kn.has_mk _ (fun fd F=>F.binds fun _ _ _ _ _ _ us hl=>match us,hl with | [_],_=>rfl) ?kna ?knl ?knc ?knk; (case kna=>k_is); (case knl=>k_is); (case knc=>k_is); (case knk=>k_is))
      (case is_rising=>refine' Kn.has_mk _ (fun fd F=>F.binds fun _ _ _ _ _ _ us hl=>match us,hl with | [_],_=>rfl) ?kna ?knl ?knc ?knk; (case kna=>k_is); (case knl=>k_is); (case knc=>k_is); (case knk=>k_is))
      (case need_book=>refine' Kn.has_mk _ (fun fd F=>F.binds fun _ _ _ _ _ _ us hl=>match us,hl with | [_],_=>rfl) ?kna ?knl ?knc ?knk; (case kna=>k_is); (case knl=>k_is); (case knc=>k_is); (case knk=>k_is))
      (case need_order=>refine' Kn.has_mk _ (fun fd F=>F.binds fun _ _ _ _ _ _ us hl=>match us,hl with | [_],_=>rfl) ?kna ?knl ?knc ?knk; (case kna=>k_is); (case knl=>k_is); (case knc=>k_is); (case knk=>k_is))
      (case need_name=>refine' Kn.has_mk _ (fun fd F=>F.binds fun _ _ _ _ _ _ us hl=>match us,hl with | [_],_=>rfl) ?kna ?knl ?knc ?knk; (case kna=>k_is); (case knl=>k_is); (case knc=>k_is); (case knk=>k_is))
      (case end_of=>refine' Kn.has_mk _ (fun fd F=>F.binds fun _ _ _ _ _ _ us hl=>match us,hl with | [_,_],_=>rfl) ?kna ?knl ?knc ?knk; (case kna=>k_is); (case knl=>k_is); (case knc=>k_is); (case knk=>k_is))
      (case ends=>refine' Kn.has_mk _ (fun fd F=>F.binds fun _ _ _ _ _ _ us hl=>match us,hl with | [_,_],_=>rfl) ?kna ?knl ?knc ?knk; (case kna=>k_is); (case knl=>k_is); (case knc=>k_is); (case knk=>k_is))
      (case rows=>refine' Kn.has_mk _ (fun fd F=>F.binds fun _ _ _ _ _ _ us hl=>match us,hl with | [_,_],_=>rfl) ?kna ?knl ?knc ?knk; (case kna=>k_is); (case knl=>k_is); (case knc=>k_is); (case knk=>k_is))
      (case is_edge=>refine' Kn.has_mk _ (fun fd F=>F.binds fun _ _ _ _ _ _ us hl=>match us,hl with | [_],_=>rfl) ?kna ?knl ?knc ?knk; (case kna=>k_is); (case knl=>k_is); (case knc=>k_is); (case knk=>k_is))
      (case is_barred=>refine' Kn.has_mk _ (fun fd F=>F.binds fun _ _ _ _ _ _ us hl=>match us,hl with | [_],_=>rfl) ?kna ?knl ?knc ?knk; (case kna=>k_is); (case knl=>k_is); (case knc=>k_is); (case knk=>k_is))
      (case is_wish=>refine' Kn.has_mk _ (fun fd F=>F.binds fun _ _ _ _ _ _ us hl=>match us,hl with | [_],_=>rfl) ?kna ?knl ?knc ?knk; (case kna=>k_is); (case knl=>k_is); (case knc=>k_is); (case knk=>k_is))
      (case need_wish=>refine' Kn.has_mk _ (fun fd F=>F.binds fun _ _ _ _ _ _ us hl=>match us,hl with | [_],_=>rfl) ?kna ?knl ?knc ?knk; (case kna=>k_is); (case knl=>k_is); (case knc=>k_is); (case knk=>k_is))
      (case form=>refine' Kn.has_mk _ (fun fd F=>F.binds fun _ _ _ _ _ _ us hl=>match us,hl with | [_,_],_=>rfl) ?kna ?knl ?knc ?knk; (case kna=>k_is); (case knl=>k_is); (case knc=>k_is); (case knk=>k_is))
      (case out=>refine' Kn.has_mk _ (fun fd F=>F.binds fun _ _ _ _ _ _ us hl=>match us,hl with | [_,_],_=>rfl) ?kna ?knl ?knc ?knk; (case kna=>k_is); (case knl=>k_is); (case knc=>k_is); (case knk=>k_is))
      (case fits=>refine' Kn.has_mk _ (fun fd F=>F.binds fun _ _ _ _ _ _ us hl=>match us,hl with | [_,_,_],_=>rfl) ?kna ?knl ?knc ?knk; (case kna=>k_is); (case knl=>k_is); (case knc=>k_is); (case knk=>k_is))
      (case are=>refine' Kn.has_mk _ (fun fd F=>F.binds fun _ _ _ _ _ _ us hl=>match us,hl with | [_],_=>rfl) ?kna ?knl ?knc ?knk; (case kna=>k_is); (case knl=>k_is); (case knc=>k_is); (case knk=>k_is))
      (case neednu=>refine' Kn.has_mk _ (fun fd F=>F.binds fun _ _ _ _ _ _ us hl=>match us,hl with | [_],_=>rfl) ?kna ?knl ?knc ?knk; (case kna=>k_is); (case knl=>k_is); (case knc=>k_is); (case knk=>k_is))
      (case pot=>refine' Kn.has_mk _ (fun fd F=>F.binds fun _ _ _ _ _ _ us hl=>match us,hl with | [_],_=>rfl) ?kna ?knl ?knc ?knk; (case kna=>k_is); (case knl=>k_is); (case knc=>k_is); (case knk=>k_is))
      (case pots=>refine' Kn.has_mk _ (fun fd F=>F.binds fun _ _ _ _ _ _ us hl=>match us,hl with | [_,_],_=>rfl) ?kna ?knl ?knc ?knk; (case kna=>k_is); (case knl=>k_is); (case knc=>k_is); (case knk=>k_is))
      (case df=>refine' Kn.has_mk _ (fun fd F=>F.binds fun _ _ _ _ _ _ us hl=>match us,hl with | [_,_,_,_],_=>rfl) ?kna ?knl ?knc ?knk; (case kna=>k_is); (case knl=>k_is); (case knc=>k_is); (case knk=>k_is))
      (case drn=>refine' Kn.has_mk _ (fun fd F=>F.binds fun _ _ _ _ _ _ us hl=>match us,hl with | [_,_,_],_=>rfl) ?kna ?knl ?knc ?knk; (case kna=>k_is); (case knl=>k_is); (case knc=>k_is); (case knk=>k_is))
      (case fd=>refine' Kn.has_mk _ (fun fd F=>F.binds fun _ _ _ _ _ _ us hl=>match us,hl with | [_,_,_,_,_],_=>rfl) ?kna ?knl ?knc ?knk; (case kna=>k_is); (case knl=>k_is); (case knc=>k_is); (case knk=>k_is))
      (case dfi=>refine' Kn.has_mk _ (fun fd F=>F.binds fun _ _ _ _ _ _ us hl=>match us,hl with | [_,_,_,_],_=>rfl) ?kna ?knl ?knc ?knk; (case kna=>k_is); (case knl=>k_is); (case knc=>k_is); (case knk=>k_is))
      (case nf=>refine' Kn.has_mk _ (fun fd F=>F.binds fun _ _ _ _ _ _ us hl=>match us,hl with | [_,_,_],_=>rfl) ?kna ?knl ?knc ?knk; (case kna=>k_is); (case knl=>k_is); (case knc=>k_is); (case knk=>k_is))
      (case cell=>refine' Kn.has_mk _ (fun fd F=>F.binds fun _ _ _ _ _ _ us hl=>match us,hl with | [_,_],_=>rfl) ?kna ?knl ?knc ?knk; (case kna=>k_is); (case knl=>k_is); (case knc=>k_is); (case knk=>k_is))
      (case drawn=>refine' Kn.has_mk _ (fun fd F=>F.binds fun _ _ _ _ _ _ us hl=>match us,hl with | [_,_,_],_=>rfl) ?kna ?knl ?knc ?knk; (case kna=>k_is); (case knl=>k_is); (case knc=>k_is); (case knk=>k_is))
      (case lname=>refine' Kn.has_mk _ (fun fd F=>F.binds fun _ _ _ _ _ _ us hl=>match us,hl with | [_,_,_],_=>rfl) ?kna ?knl ?knc ?knk; (case kna=>k_is); (case knl=>k_is); (case knc=>k_is); (case knk=>k_is))
      (case lbook=>refine' Kn.has_mk _ (fun fd F=>F.binds fun _ _ _ _ _ _ us hl=>match us,hl with | [_,_,_,_],_=>rfl) ?kna ?knl ?knc ?knk; (case kna=>k_is); (case knl=>k_is); (case knc=>k_is); (case knk=>k_is))
      (case lwish=>refine' Kn.has_mk _ (fun fd F=>F.binds fun _ _ _ _ _ _ us hl=>match us,hl with | [_,_],_=>rfl) ?kna ?knl ?knc ?knk; (case kna=>k_is); (case knl=>k_is); (case knc=>k_is); (case knk=>k_is))
      (case ltold=>refine' Kn.has_mk _ (fun fd F=>F.binds fun _ _ _ _ _ _ us hl=>match us,hl with | [_,_,_,_,_],_=>rfl) ?kna ?knl ?knc ?knk; (case kna=>k_is); (case knl=>k_is); (case knc=>k_is); (case knk=>k_is))
      (case letters=>refine' Kn.lets_mk ?knq; (case knq=>k_is))
      (case ml=>refine' Kn.int_mk ?knq; (case knq=>k_is))
      (case mn=>refine' Kn.int_mk ?knq; (case knq=>k_is))
      (case mo=>refine' Kn.int_mk ?knq; (case knq=>k_is))
      (case w0=>refine' Kn.int_mk ?knq; (case knq=>k_is))
      (case w1=>refine' Kn.int_mk ?knq; (case knq=>k_is))
      (case w2=>refine' Kn.int_mk ?knq; (case knq=>k_is))
      (case w3=>refine' Kn.int_mk ?knq; (case knq=>k_is))
      (case w4=>refine' Kn.int_mk ?knq; (case knq=>k_is))
      (case w5=>refine' Kn.int_mk ?knq; (case knq=>k_is))
      (case w6=>refine' Kn.int_mk ?knq; (case knq=>k_is))
      (case w7=>refine' Kn.int_mk ?knq; (case knq=>k_is))
      (case w8=>refine' Kn.int_mk ?knq; (case knq=>k_is))
      (case d0=>refine' Kn.int_mk ?knq; (case knq=>k_is))
      (case d1=>refine' Kn.int_mk ?knq; (case knq=>k_is))
      (case ib=>first | rfl | kernel_rfl | decide +kernel)
      (case xb=>refine' Kn.Dr.xcls_topD ?e0 ?e1 ?e2; (case e0=>k_is); (case e1=>first | rfl | kernel_rfl | decide +kernel); (case e2=>first | rfl | kernel_rfl | decide +kernel))
      (case xo=>refine' Kn.Dr.xcls_topD ?e0 ?e1 ?e2; (case e0=>k_is); (case e1=>first | rfl | kernel_rfl | decide +kernel); (case e2=>first | rfl | kernel_rfl | decide +kernel))
      (case xn=>refine' Kn.Dr.xcls_topD ?e0 ?e1 ?e2; (case e0=>k_is); (case e1=>first | rfl | kernel_rfl | decide +kernel); (case e2=>first | rfl | kernel_rfl | decide +kernel))
      (case xw=>refine' Kn.Dr.xcls_topD ?e0 ?e1 ?e2; (case e0=>k_is); (case e1=>first | rfl | kernel_rfl | decide +kernel); (case e2=>first | rfl | kernel_rfl | decide +kernel))
      (case xu=>refine' Kn.Dr.xcls_topD ?e0 ?e1 ?e2; (case e0=>k_is); (case e1=>first | rfl | kernel_rfl | decide +kernel); (case e2=>first | rfl | kernel_rfl | decide +kernel))
      (case xm=>refine' Kn.Dr.xcls_topD ?e0 ?e1 ?e2; (case e0=>k_is); (case e1=>first | rfl | kernel_rfl | decide +kernel); (case e2=>first | rfl | kernel_rfl | decide +kernel))
      (case xs=>refine' Kn.Dr.xcls_topD ?e0 ?e1 ?e2; (case e0=>k_is); (case e1=>first | rfl | kernel_rfl | decide +kernel); (case e2=>first | rfl | kernel_rfl | decide +kernel))
      (case kitf=>constructor <;> first | rfl | kernel_rfl | decide +kernel)
      (case kitb=>constructor <;> first | rfl | kernel_rfl | decide +kernel)
      (case kitl=>constructor <;> first | rfl | kernel_rfl | decide +kernel)
      (case zlen=>k_is)
      (case zrange=>k_is)
      (case zall=>k_is)
      (case zisinstance=>k_is)
      (case zstr=>k_is)
      (case ztuple=>k_is)
      (case zint=>k_is)
      (case zbool=>k_is)
      (case zsorted=>k_is)
      (case zsum=>k_is)
      (case zmin=>k_is)
      (case zlist=>k_is)
      (case zset=>k_is)
      (case zzip=>k_is)
      (case zenumerate=>k_is)
      (case zdict=>k_is))
    (case a4=>k_is); (case l4=>k_is); (case c4=>k_is); (case k4=>k_is)
end
