import PyProof.Rows.All
import Wide.All
import OpenK.AllK
import Wide.FinOn
import Lean
import PyProof.EqAt
import PyProof.EqKinds
import PyProof.TupleCall
import PyProof.CompFree
import KE.KSortAsk
import KE.KSortTup
import KE.KRevSl
import PyProof.AttrMissSeq
import KE.KDictOf
import KE.KxText
import PyProof.ZipIter
import PyProof.Draws
import PyProof.TupleIter
import PyProof.Rows.ZipGen
import PyProof.WalksMore
import PyProof.Rows.InDataRows
import PyProof.StationsW
import PyProof.Rows.Catch
import PyProof.ExcClass3
import PyProof.ExcBaseAll.ValueError
import OpenK.KOwn
import KE.KIsAll
import PyProof.ListMulRoad
import PyProof.StrOps2
import PyProof.FactsAll.tuple_2
import PyProof.FitsBits
import PyProof.Rows.Range3
import PyProof.ListRange
import PySem.Challenge.RW_kinnames_k51_whole_makers
set_option Elab.async false
set_option linter.all false
set_option maxRecDepth 100000
set_option maxHeartbeats 4000000
section
namespace L2
open PySem
def inClass (s:Stmt) (j:Nat):Stmt:=match s with
  | .ClassDef _ _ _ body _ _ _ _ _ _ _=>body.getD j (.Pass ⟨0,0,0,0⟩)
  | _=>.Pass ⟨0,0,0,0⟩
def defArgs (s:Stmt):Arguments:=match s with
  | .FunctionDef _ a _ _ _ _ _ _ _ _=>a
  | _=>{ posonlyargs:=[],args:=[],vararg:=none,kwonlyargs:=[],kw_defaults:=[],kwarg:=none,defaults:=[] }
def defBody (s:Stmt):List Stmt:=match s with
  | .FunctionDef _ _ b _ _ _ _ _ _ _=>b
  | _=>[]
def defScope (s:Stmt):Scope:=match s with
  | .FunctionDef _ _ _ _ _ _ sc _ _ _=>sc
  | _=>{ kind:=.function,names:=[],isGenerator:=false,isCoroutine:=false }
end L2
namespace Kn
open PySem
def top (i:Nat):Stmt:=PySem.Challenge.pw_kinnames_k51_whole_makers.main.body.getD i (.Pass ⟨0,0,0,0⟩)
end Kn
namespace Kn
open PySem PySem.W PyProof.Rows
def topRunT (tb:String→Option Builtin) (p:Program) (w:World) (n₀:Nat) (ann:Option Value):Nat→SharedT→Thread→Option SharedT
  | 0,_,_=>none
  | n+1,s,t=>match through t with
    | true=>some s
    | false=>match stepOk n₀ ann t with
      | false=>none
      | true=>match stepT (denote tb) p w s t with
        | some (s',t')=>topRunT tb p w n₀ ann n s' t'
        | none=>none
theorem topRun_of {tb:String→Option Builtin}{p:Program}{w:World}{n₀:Nat}{ann:Option Value}:∀ {n:Nat}{s s':SharedT}{t:Thread},topRunT tb p w n₀ ann n s t=some s'→topRun tb p w n₀ ann n s.abs t=some s'.abs
  | 0,_,_,_,h=>by cases h
  | n+1,s,s',t,h=>by
    unfold topRunT at h
    unfold topRun
    cases he:through t with
    | true=>rw [he] at h; cases h; rfl
    | false =>
      rw [he] at h
      cases hk:stepOk n₀ ann t with
      | false=>rw [hk] at h; cases h
      | true =>
        rw [hk] at h
        cases hs:stepT (denote tb) p w s t with
        | none=>rw [hs] at h; cases h
        | some r=>obtain ⟨s₂,t₂⟩:=r; rw [hs] at h; rw [stepT_spec hs]; exact topRun_of h
def insAll:List Obj→Nat→BT→Option BT
  | [],_,T=>some T
  | o::os,n,T=>match ((T.ins n o).get n).isSome with
    | true=>insAll os (n+1) (T.ins n o)
    | false=>none
theorem insAll_abs {life:Life}:∀ {os:List Obj}{n:Nat}{T T':BT},insAll os n T=some T'→(absHeap T' (n+os.length) life).objs.toList=(absHeap T n life).objs.toList++os
  | [],n,T,T',h=>by cases h; simp
  | o::os,n,T,T',h=>by
    unfold insAll at h
    cases hi:((T.ins n o).get n).isSome with
    | false=>rw [hi] at h; cases h
    | true =>
      rw [hi] at h
      have h1:=insAll_abs (life:=life) h
      have h2:=absHeap_ins (life:=life) hi
      have e:n+1+os.length=n+(o::os).length:=by rw [List.length_cons]; omega
      rw [← e,h1,h2]
      show ((absHeap T n life).objs.push o).toList++os=_
      rw [Array.toList_push,List.append_assoc]; rfl
theorem insAll_of {s:Shared}{T:BT} (h:insAll s.heap.objs.toList 0 .nil=some T):(SharedT.mk T s.heap.objs.size s.heap.life s.gens s.drawn s.toks s.os).abs=s:=by
  have h1:=insAll_abs (life:=s.heap.life) h
  have e0:(absHeap .nil 0 s.heap.life).objs.toList=[]:=rfl
  have e1:0+s.heap.objs.toList.length=s.heap.objs.size:=by rw [Nat.zero_add]; rfl
  rw [e0,List.nil_append,e1] at h1
  have h2:absHeap T s.heap.objs.size s.heap.life=s.heap:=by
    have h3:(absHeap T s.heap.objs.size s.heap.life).objs=s.heap.objs:=Array.toList_inj.mp h1
    have h4:(absHeap T s.heap.objs.size s.heap.life).life=s.heap.life:=rfl
    generalize absHeap T s.heap.objs.size s.heap.life=A at h3 h4
    cases A
    obtain ⟨⟨o,l⟩,_,_,_,_⟩:=s
    subst h3 h4
    rfl
  unfold SharedT.abs
  dsimp only
  rw [h2]
def topFromT (tb:String→Option Builtin) (p:Program) (w:World) (N:Nat) (s₀:Shared) (T₀:SharedT):Option Shared :=
  match s₀.heap.isNs mainGlobals && s₀.gens.size == 0 with
  | true=>(topRunT tb p w s₀.heap.objs.size (s₀.heap.nsMap mainGlobals "__annotations__") N T₀ (topStub p)).bind fun t₁=>match staticsOk (importedModules p.main.body) s₀.heap t₁.abs.heap && namesBound p t₁.abs.heap && gensDone t₁.abs && laidKept s₀.heap t₁.abs.heap with
      | true=>some t₁.abs
      | false=>none
  | false=>none
theorem topFrom_of {tb:String→Option Builtin}{p:Program}{w:World}{N:Nat}{s₀:Shared}{T₀:SharedT}{s₁:Shared} (e:T₀.abs=s₀) (h:topFromT tb p w N s₀ T₀=some s₁):topFrom tb p w N s₀=some s₁:=by
  unfold topFromT at h
  unfold topFrom
  cases hb:s₀.heap.isNs mainGlobals && s₀.gens.size == 0 with
  | false=>rw [hb] at h; cases h
  | true =>
    rw [hb] at h
    dsimp only at h ⊢
    obtain ⟨t₁,h1,h2⟩:=Option.bind_eq_some_iff.mp h
    have h3:=topRun_of h1
    rw [e] at h3
    rw [h3]
    exact h2
def openEndsT (tb:String→Option Builtin) (p:Program) (w:World) (N:Nat):Option Shared:=(fencedOpening tb p w N).bind fun s₀=>(insAll s₀.heap.objs.toList 0 .nil).bind fun T=>topFromT tb p w N s₀ ⟨T,s₀.heap.objs.size,s₀.heap.life,s₀.gens,s₀.drawn,s₀.toks,s₀.os⟩
theorem openEnds_of {tb:String→Option Builtin}{p:Program}{w:World}{N:Nat}{s₁:Shared} (h:openEndsT tb p w N=some s₁):openEnds tb p w N=some s₁:=by
  obtain ⟨s₀,h1,h2⟩:=Option.bind_eq_some_iff.mp h
  obtain ⟨T,h3,h4⟩:=Option.bind_eq_some_iff.mp h2
  unfold openEnds
  rw [h1]
  exact topFrom_of (insAll_of h3) h4
theorem openMap_of {tb:String→Option Builtin}{p:Program}{w:World}{N:Nat}{α:Type}{F:Shared→α}{r:α} (h:(openEndsT tb p w N).map F=some r):(openEnds tb p w N).map F=some r:=by
  obtain ⟨s₁,h1,h2⟩:=Option.map_eq_some_iff.mp h
  rw [openEnds_of h1,Option.map_some,h2]
end Kn
open PySem PySem.W PyProof.Rows
namespace Kn
open L2
def kE (P:Params) (x:Str) (t:Nat) (v:Value):DictEntry:=⟨PyData.keyHash P x,.str x t,v⟩
def kF (s:Stmt) (nm qn:Str) (df kd doc pm:Value) (an:Option Addr) (cd ct:Value) (c:Value) (d:Option Addr) (sl:Array (Option Value)):Obj :=
  ⟨c,d,.func (PySem.W.fnOf nm qn (defArgs s) (defBody s) (defScope s) df kd doc pm an cd ct),sl⟩
noncomputable def kfr:Params→Frag:=fun P=>(nat_lit 2,⟨.none,none,.dict #[] 0,#[]⟩) ::
  (nat_lit 3,⟨(.type "dict"),none,.dict #[kE P (.ofString "__name__") 165 (.str (.ofString "law_kinnames_k51_whole_makers") 659),kE P (.ofString "__doc__") 166 .none,kE P (.ofString "__package__") 167 .none,kE P (.ofString "__loader__") 168 (.builtin "__main__.__loader__#opaque"),kE P (.ofString "__spec__") 169 .none,kE P (.ofString "__annotations__") 170 (.ref 6),kE P (.ofString "__builtins__") 171 (.ref 4),kE P (.ofString "__file__") 173 (.str (.ofString "/claim/cut.py") 172),kE P (.ofString "__cached__") 174 .none,kE P (.ofString "LikeError") 206 (.ref 24),kE P (.ofString "NoBook") 222 (.ref 37),kE P (.ofString "NoOrder") 238 (.ref 49),kE P (.ofString "NoName") 254 (.ref 61),kE P (.ofString "NoNumber") 270 (.ref 73),kE P (.ofString "LETTERS") 274 (.str (.ofString "abcdefghijklmnopqrstuvwxyz") 273),kE P (.ofString "MOST_LETTERS") 276 (.int (8) 275),kE P (.ofString "MOST_NAMES") 278 (.int (8) 277),kE P (.ofString "MOST_ORDER") 280 (.int (3) 279),kE P (.ofString "is_name") 286 (.ref 80),kE P (.ofString "is_book") 292 (.ref 85),kE P (.ofString "is_whole") 301 (.ref 92),kE P (.ofString "is_order") 308 (.ref 99),kE P (.ofString "is_rising") 314 (.ref 104),kE P (.ofString "need_book") 321 (.ref 111),kE P (.ofString "need_books") 329 (.ref 118),kE P (.ofString "need_order") 336 (.ref 125),kE P (.ofString "need_whole") 345 (.ref 132),kE P (.ofString "need_name") 352 (.ref 139),kE P (.ofString "end_of") 360 (.ref 146),kE P (.ofString "ends_and_letters") 366 (.ref 151),kE P (.ofString "counted_rows") 379 (.ref 158),kE P (.ofString "NOUGHT") 384 (.ref 159),kE P (.ofString "WHOLE") 387 (.ref 160),kE P (.ofString "greatest_divisor") 396 (.ref 167),kE P (.ofString "lowest") 405 (.ref 174),kE P (.ofString "times") 413 (.ref 181),kE P (.ofString "is_less") 421 (.ref 188),kE P (.ofString "place_of_greatest") 432 (.ref 195),kE P (.ofString "part_in") 440 (.ref 202),kE P (.ofString "steps_by_rows") 446 (.ref 207),kE P (.ofString "share_by_rows") 457 (.ref 214),kE P (.ofString "share") 466 (.ref 221),kE P (.ofString "makes") 475 (.ref 228),kE P (.ofString "makers") 483 (.ref 233),kE P (.ofString "best_maker") 489 (.ref 238),kE P (.ofString "greatest_order") 498 (.ref 245),kE P (.ofString "places_with") 504 (.ref 250),kE P (.ofString "places_by_step") 510 (.ref 255),kE P (.ofString "any_has") 516 (.ref 260),kE P (.ofString "alone_make") 522 (.ref 265),kE P (.ofString "longer_lists") 528 (.ref 270),kE P (.ofString "needed") 540 (.ref 277),kE P (.ofString "is_list_of_places") 546 (.ref 282),kE P (.ofString "shows") 552 (.ref 287),kE P (.ofString "ANY") 556 (.str (.ofString "") 555),kE P (.ofString "even_parts") 562 (.ref 292),kE P (.ofString "left_of") 570 (.ref 299),kE P (.ofString "may_follow") 578 (.ref 306),kE P (.ofString "next_sums") 594 (.ref 313),kE P (.ofString "sum_along") 600 (.ref 318),kE P (.ofString "need_length") 609 (.ref 325),kE P (.ofString "how_many_by_rows") 618 (.ref 332),kE P (.ofString "how_many") 627 (.ref 339),kE P (.ofString "letters_towards") 633 (.ref 344),kE P (.ofString "closing_ends") 639 (.ref 349),kE P (.ofString "lengthened") 645 (.ref 354),kE P (.ofString "all_made") 658 (.ref 361),kE P (.ofString "_law_cell") 668 (.ref 368),kE P (.ofString "_law_drawn") 678 (.ref 375),kE P (.ofString "_law_name") 684 (.ref 380),kE P (.ofString "_law_book") 696 (.ref 387),kE P (.ofString "law") 702 (.ref 392)] 72,#[]⟩) ::
  (nat_lit 23,⟨(.type "dict"),none,.dict #[kE P (.ofString "__module__") 196 (.str (.ofString "kinnames.errors") 187),kE P (.ofString "__firstlineno__") 200 (.int (2) 199),kE P (.ofString "__static_attributes__") 201 (.ref 22),kE P (.ofString "__weakref__") 203 (.ref 25),kE P (.ofString "__doc__") 204 .none] 3,#[]⟩) ::
  (nat_lit 24,⟨(.type "type"),none,.cls ⟨(.ofString "LikeError"),[(.type "ValueError")],[(.ref 24),(.type "ValueError"),(.type "Exception"),(.type "BaseException"),(.type "object")],23,(.ofString "LikeError"),true,[],[(.ref 37),(.ref 49),(.ref 61),(.ref 73)],false,none,false⟩,#[(some (.ref 15)),none,(some (.str (.ofString "LikeError") 189)),(some (.str (.ofString "LikeError") 197)),(some (.builtin "ValueError.__new__")),(some (.bool true))]⟩) ::
  (nat_lit 25,⟨(.type "getset_descriptor"),none,.fields #[(.str (.ofString "__weakref__") 202),(.ref 24),(.builtin "ExceptionGroup.__weakref__"),.none],#[]⟩) ::
  (nat_lit 36,⟨(.type "dict"),none,.dict #[kE P (.ofString "__module__") 214 (.str (.ofString "kinnames.errors") 187),kE P (.ofString "__firstlineno__") 218 (.int (4) 217),kE P (.ofString "__static_attributes__") 219 (.ref 35),kE P (.ofString "__doc__") 220 .none] 2,#[]⟩) ::
  (nat_lit 37,⟨(.type "type"),none,.cls ⟨(.ofString "NoBook"),[(.ref 24)],[(.ref 37),(.ref 24),(.type "ValueError"),(.type "Exception"),(.type "BaseException"),(.type "object")],36,(.ofString "NoBook"),true,[],[],false,none,false⟩,#[(some (.ref 28)),none,(some (.str (.ofString "NoBook") 207)),(some (.str (.ofString "NoBook") 215)),(some (.builtin "ValueError.__new__")),(some (.bool true))]⟩) ::
  (nat_lit 48,⟨(.type "dict"),none,.dict #[kE P (.ofString "__module__") 230 (.str (.ofString "kinnames.errors") 187),kE P (.ofString "__firstlineno__") 234 (.int (6) 233),kE P (.ofString "__static_attributes__") 235 (.ref 47),kE P (.ofString "__doc__") 236 .none] 2,#[]⟩) ::
  (nat_lit 49,⟨(.type "type"),none,.cls ⟨(.ofString "NoOrder"),[(.ref 24)],[(.ref 49),(.ref 24),(.type "ValueError"),(.type "Exception"),(.type "BaseException"),(.type "object")],48,(.ofString "NoOrder"),true,[],[],false,none,false⟩,#[(some (.ref 40)),none,(some (.str (.ofString "NoOrder") 223)),(some (.str (.ofString "NoOrder") 231)),(some (.builtin "ValueError.__new__")),(some (.bool true))]⟩) ::
  (nat_lit 60,⟨(.type "dict"),none,.dict #[kE P (.ofString "__module__") 246 (.str (.ofString "kinnames.errors") 187),kE P (.ofString "__firstlineno__") 250 (.int (8) 249),kE P (.ofString "__static_attributes__") 251 (.ref 59),kE P (.ofString "__doc__") 252 .none] 2,#[]⟩) ::
  (nat_lit 61,⟨(.type "type"),none,.cls ⟨(.ofString "NoName"),[(.ref 24)],[(.ref 61),(.ref 24),(.type "ValueError"),(.type "Exception"),(.type "BaseException"),(.type "object")],60,(.ofString "NoName"),true,[],[],false,none,false⟩,#[(some (.ref 52)),none,(some (.str (.ofString "NoName") 239)),(some (.str (.ofString "NoName") 247)),(some (.builtin "ValueError.__new__")),(some (.bool true))]⟩) ::
  (nat_lit 72,⟨(.type "dict"),none,.dict #[kE P (.ofString "__module__") 262 (.str (.ofString "kinnames.errors") 187),kE P (.ofString "__firstlineno__") 266 (.int (10) 265),kE P (.ofString "__static_attributes__") 267 (.ref 71),kE P (.ofString "__doc__") 268 .none] 2,#[]⟩) ::
  (nat_lit 73,⟨(.type "type"),none,.cls ⟨(.ofString "NoNumber"),[(.ref 24)],[(.ref 73),(.ref 24),(.type "ValueError"),(.type "Exception"),(.type "BaseException"),(.type "object")],72,(.ofString "NoNumber"),true,[],[],false,none,false⟩,#[(some (.ref 64)),none,(some (.str (.ofString "NoNumber") 255)),(some (.str (.ofString "NoNumber") 263)),(some (.builtin "ValueError.__new__")),(some (.bool true))]⟩) ::
  (nat_lit 79,⟨(.type "code"),none,.fields #[(.str (.ofString "is_name") 281),(.str (.ofString "is_name") 282),(.str (.ofString "/claim/cut.py") 283),(.int (17) 0),(.int (1) 0),(.int (0) 0),(.int (0) 0),(.int (3) 0),(.ref 76),(.bool true),(.int (181) 0),(.ref 77),.none,.none,.none,(.ref 78),(.int (284) 0),(.int (17) 0),(.str (.ofString "/claim/cut.py") 285)],#[]⟩) ::
  (nat_lit 80,kF (top 11) (.ofString "is_name") (.ofString "is_name") .none .none .none (.str (.ofString "kinnames.books") 271) none (.ref 79) .none (.type "function") none #[]) ::
  (nat_lit 84,⟨(.type "code"),none,.fields #[(.str (.ofString "is_book") 287),(.str (.ofString "is_book") 288),(.str (.ofString "/claim/cut.py") 289),(.int (21) 0),(.int (1) 0),(.int (0) 0),(.int (0) 0),(.int (3) 0),(.ref 81),(.bool true),(.int (181) 0),(.ref 82),.none,.none,.none,(.ref 83),(.int (290) 0),(.int (21) 0),(.str (.ofString "/claim/cut.py") 291)],#[]⟩) ::
  (nat_lit 85,kF (top 12) (.ofString "is_book") (.ofString "is_book") .none .none .none (.str (.ofString "kinnames.books") 271) none (.ref 84) .none (.type "function") none #[]) ::
  (nat_lit 91,⟨(.type "code"),none,.fields #[(.str (.ofString "is_whole") 293),(.str (.ofString "is_whole") 294),(.str (.ofString "/claim/cut.py") 295),(.int (25) 0),(.int (3) 0),(.int (0) 0),(.int (0) 0),(.int (3) 0),(.ref 86),(.bool true),(.int (181) 0),(.ref 87),.none,(.ref 88),(.ref 89),(.ref 90),(.int (299) 0),(.int (25) 0),(.str (.ofString "/claim/cut.py") 300)],#[]⟩) ::
  (nat_lit 92,kF (top 13) (.ofString "is_whole") (.ofString "is_whole") .none .none .none (.str (.ofString "kinnames.books") 271) none (.ref 91) .none (.type "function") none #[]) ::
  (nat_lit 98,⟨(.type "code"),none,.fields #[(.str (.ofString "is_order") 302),(.str (.ofString "is_order") 303),(.str (.ofString "/claim/cut.py") 304),(.int (29) 0),(.int (1) 0),(.int (0) 0),(.int (0) 0),(.int (3) 0),(.ref 93),(.bool true),(.int (181) 0),(.ref 94),.none,(.ref 95),(.ref 96),(.ref 97),(.int (306) 0),(.int (29) 0),(.str (.ofString "/claim/cut.py") 307)],#[]⟩) ::
  (nat_lit 99,kF (top 14) (.ofString "is_order") (.ofString "is_order") .none .none .none (.str (.ofString "kinnames.books") 271) none (.ref 98) .none (.type "function") none #[]) ::
  (nat_lit 103,⟨(.type "code"),none,.fields #[(.str (.ofString "is_rising") 309),(.str (.ofString "is_rising") 310),(.str (.ofString "/claim/cut.py") 311),(.int (31) 0),(.int (1) 0),(.int (0) 0),(.int (0) 0),(.int (3) 0),(.ref 100),(.bool true),(.int (181) 0),(.ref 101),.none,.none,.none,(.ref 102),(.int (312) 0),(.int (31) 0),(.str (.ofString "/claim/cut.py") 313)],#[]⟩) ::
  (nat_lit 104,kF (top 15) (.ofString "is_rising") (.ofString "is_rising") .none .none .none (.str (.ofString "kinnames.books") 271) none (.ref 103) .none (.type "function") none #[]) ::
  (nat_lit 110,⟨(.type "code"),none,.fields #[(.str (.ofString "need_book") 315),(.str (.ofString "need_book") 316),(.str (.ofString "/claim/cut.py") 317),(.int (33) 0),(.int (1) 0),(.int (0) 0),(.int (0) 0),(.int (3) 0),(.ref 105),(.bool true),(.int (181) 0),(.ref 106),.none,(.ref 107),(.ref 108),(.ref 109),(.int (319) 0),(.int (33) 0),(.str (.ofString "/claim/cut.py") 320)],#[]⟩) ::
  (nat_lit 111,kF (top 16) (.ofString "need_book") (.ofString "need_book") .none .none .none (.str (.ofString "kinnames.books") 271) none (.ref 110) .none (.type "function") none #[]) ::
  (nat_lit 117,⟨(.type "code"),none,.fields #[(.str (.ofString "need_books") 322),(.str (.ofString "need_books") 323),(.str (.ofString "/claim/cut.py") 324),(.int (36) 0),(.int (1) 0),(.int (0) 0),(.int (0) 0),(.int (3) 0),(.ref 112),(.bool true),(.int (181) 0),(.ref 113),.none,(.ref 114),(.ref 115),(.ref 116),(.int (327) 0),(.int (36) 0),(.str (.ofString "/claim/cut.py") 328)],#[]⟩) ::
  (nat_lit 118,kF (top 17) (.ofString "need_books") (.ofString "need_books") .none .none .none (.str (.ofString "kinnames.books") 271) none (.ref 117) .none (.type "function") none #[]) ::
  (nat_lit 124,⟨(.type "code"),none,.fields #[(.str (.ofString "need_order") 330),(.str (.ofString "need_order") 331),(.str (.ofString "/claim/cut.py") 332),(.int (41) 0),(.int (1) 0),(.int (0) 0),(.int (0) 0),(.int (3) 0),(.ref 119),(.bool true),(.int (181) 0),(.ref 120),.none,(.ref 121),(.ref 122),(.ref 123),(.int (334) 0),(.int (41) 0),(.str (.ofString "/claim/cut.py") 335)],#[]⟩) ::
  (nat_lit 125,kF (top 18) (.ofString "need_order") (.ofString "need_order") .none .none .none (.str (.ofString "kinnames.books") 271) none (.ref 124) .none (.type "function") none #[]) ::
  (nat_lit 131,⟨(.type "code"),none,.fields #[(.str (.ofString "need_whole") 337),(.str (.ofString "need_whole") 338),(.str (.ofString "/claim/cut.py") 339),(.int (44) 0),(.int (3) 0),(.int (0) 0),(.int (0) 0),(.int (3) 0),(.ref 126),(.bool true),(.int (181) 0),(.ref 127),.none,(.ref 128),(.ref 129),(.ref 130),(.int (343) 0),(.int (44) 0),(.str (.ofString "/claim/cut.py") 344)],#[]⟩) ::
  (nat_lit 132,kF (top 19) (.ofString "need_whole") (.ofString "need_whole") .none .none .none (.str (.ofString "kinnames.books") 271) none (.ref 131) .none (.type "function") none #[]) ::
  (nat_lit 138,⟨(.type "code"),none,.fields #[(.str (.ofString "need_name") 346),(.str (.ofString "need_name") 347),(.str (.ofString "/claim/cut.py") 348),(.int (47) 0),(.int (1) 0),(.int (0) 0),(.int (0) 0),(.int (3) 0),(.ref 133),(.bool true),(.int (181) 0),(.ref 134),.none,(.ref 135),(.ref 136),(.ref 137),(.int (350) 0),(.int (47) 0),(.str (.ofString "/claim/cut.py") 351)],#[]⟩) ::
  (nat_lit 139,kF (top 20) (.ofString "need_name") (.ofString "need_name") .none .none .none (.str (.ofString "kinnames.books") 271) none (.ref 138) .none (.type "function") none #[]) ::
  (nat_lit 145,⟨(.type "code"),none,.fields #[(.str (.ofString "end_of") 353),(.str (.ofString "end_of") 354),(.str (.ofString "/claim/cut.py") 355),(.int (50) 0),(.int (2) 0),(.int (0) 0),(.int (0) 0),(.int (3) 0),(.ref 140),(.bool true),(.int (181) 0),(.ref 141),.none,(.ref 142),(.ref 143),(.ref 144),(.int (358) 0),(.int (50) 0),(.str (.ofString "/claim/cut.py") 359)],#[]⟩) ::
  (nat_lit 146,kF (top 21) (.ofString "end_of") (.ofString "end_of") .none .none .none (.str (.ofString "kinnames.books") 271) none (.ref 145) .none (.type "function") none #[]) ::
  (nat_lit 150,⟨(.type "code"),none,.fields #[(.str (.ofString "ends_and_letters") 361),(.str (.ofString "ends_and_letters") 362),(.str (.ofString "/claim/cut.py") 363),(.int (52) 0),(.int (2) 0),(.int (0) 0),(.int (0) 0),(.int (3) 0),(.ref 147),(.bool true),(.int (181) 0),(.ref 148),.none,.none,.none,(.ref 149),(.int (364) 0),(.int (52) 0),(.str (.ofString "/claim/cut.py") 365)],#[]⟩) ::
  (nat_lit 151,kF (top 22) (.ofString "ends_and_letters") (.ofString "ends_and_letters") .none .none .none (.str (.ofString "kinnames.books") 271) none (.ref 150) .none (.type "function") none #[]) ::
  (nat_lit 157,⟨(.type "code"),none,.fields #[(.str (.ofString "counted_rows") 367),(.str (.ofString "counted_rows") 368),(.str (.ofString "/claim/cut.py") 369),(.int (54) 0),(.int (2) 0),(.int (0) 0),(.int (0) 0),(.int (3) 0),(.ref 152),(.bool true),(.int (181) 0),(.ref 153),.none,(.ref 154),(.ref 155),(.ref 156),(.int (377) 0),(.int (54) 0),(.str (.ofString "/claim/cut.py") 378)],#[]⟩) ::
  (nat_lit 158,kF (top 23) (.ofString "counted_rows") (.ofString "counted_rows") .none .none .none (.str (.ofString "kinnames.books") 271) none (.ref 157) .none (.type "function") none #[]) ::
  (nat_lit 159,⟨(.type "tuple"),none,.seq #[(.int (0) 382),(.int (1) 383)] 0,#[]⟩) ::
  (nat_lit 160,⟨(.type "tuple"),none,.seq #[(.int (1) 385),(.int (1) 386)] 0,#[]⟩) ::
  (nat_lit 166,⟨(.type "code"),none,.fields #[(.str (.ofString "greatest_divisor") 388),(.str (.ofString "greatest_divisor") 389),(.str (.ofString "/claim/cut.py") 390),(.int (64) 0),(.int (2) 0),(.int (0) 0),(.int (0) 0),(.int (3) 0),(.ref 161),(.bool true),(.int (181) 0),(.ref 162),.none,(.ref 163),(.ref 164),(.ref 165),(.int (394) 0),(.int (64) 0),(.str (.ofString "/claim/cut.py") 395)],#[]⟩) ::
  (nat_lit 167,kF (top 27) (.ofString "greatest_divisor") (.ofString "greatest_divisor") .none .none .none (.str (.ofString "kinnames.shares") 380) none (.ref 166) .none (.type "function") none #[]) ::
  (nat_lit 173,⟨(.type "code"),none,.fields #[(.str (.ofString "lowest") 397),(.str (.ofString "lowest") 398),(.str (.ofString "/claim/cut.py") 399),(.int (70) 0),(.int (2) 0),(.int (0) 0),(.int (0) 0),(.int (3) 0),(.ref 168),(.bool true),(.int (181) 0),(.ref 169),.none,(.ref 170),(.ref 171),(.ref 172),(.int (403) 0),(.int (70) 0),(.str (.ofString "/claim/cut.py") 404)],#[]⟩) ::
  (nat_lit 174,kF (top 28) (.ofString "lowest") (.ofString "lowest") .none .none .none (.str (.ofString "kinnames.shares") 380) none (.ref 173) .none (.type "function") none #[]) ::
  (nat_lit 180,⟨(.type "code"),none,.fields #[(.str (.ofString "times") 406),(.str (.ofString "times") 407),(.str (.ofString "/claim/cut.py") 408),(.int (73) 0),(.int (2) 0),(.int (0) 0),(.int (0) 0),(.int (3) 0),(.ref 175),(.bool true),(.int (181) 0),(.ref 176),.none,(.ref 177),(.ref 178),(.ref 179),(.int (411) 0),(.int (73) 0),(.str (.ofString "/claim/cut.py") 412)],#[]⟩) ::
  (nat_lit 181,kF (top 29) (.ofString "times") (.ofString "times") .none .none .none (.str (.ofString "kinnames.shares") 380) none (.ref 180) .none (.type "function") none #[]) ::
  (nat_lit 187,⟨(.type "code"),none,.fields #[(.str (.ofString "is_less") 414),(.str (.ofString "is_less") 415),(.str (.ofString "/claim/cut.py") 416),(.int (75) 0),(.int (2) 0),(.int (0) 0),(.int (0) 0),(.int (3) 0),(.ref 182),(.bool true),(.int (181) 0),(.ref 183),.none,(.ref 184),(.ref 185),(.ref 186),(.int (419) 0),(.int (75) 0),(.str (.ofString "/claim/cut.py") 420)],#[]⟩) ::
  (nat_lit 188,kF (top 30) (.ofString "is_less") (.ofString "is_less") .none .none .none (.str (.ofString "kinnames.shares") 380) none (.ref 187) .none (.type "function") none #[]) ::
  (nat_lit 194,⟨(.type "code"),none,.fields #[(.str (.ofString "place_of_greatest") 422),(.str (.ofString "place_of_greatest") 423),(.str (.ofString "/claim/cut.py") 424),(.int (77) 0),(.int (1) 0),(.int (0) 0),(.int (0) 0),(.int (3) 0),(.ref 189),(.bool true),(.int (181) 0),(.ref 190),.none,(.ref 191),(.ref 192),(.ref 193),(.int (430) 0),(.int (77) 0),(.str (.ofString "/claim/cut.py") 431)],#[]⟩) ::
  (nat_lit 195,kF (top 31) (.ofString "place_of_greatest") (.ofString "place_of_greatest") .none .none .none (.str (.ofString "kinnames.shares") 380) none (.ref 194) .none (.type "function") none #[]) ::
  (nat_lit 201,⟨(.type "code"),none,.fields #[(.str (.ofString "part_in") 433),(.str (.ofString "part_in") 434),(.str (.ofString "/claim/cut.py") 435),(.int (85) 0),(.int (2) 0),(.int (0) 0),(.int (0) 0),(.int (3) 0),(.ref 196),(.bool true),(.int (181) 0),(.ref 197),.none,(.ref 198),(.ref 199),(.ref 200),(.int (438) 0),(.int (85) 0),(.str (.ofString "/claim/cut.py") 439)],#[]⟩) ::
  (nat_lit 202,kF (top 32) (.ofString "part_in") (.ofString "part_in") .none .none .none (.str (.ofString "kinnames.shares") 380) none (.ref 201) .none (.type "function") none #[]) ::
  (nat_lit 206,⟨(.type "code"),none,.fields #[(.str (.ofString "steps_by_rows") 441),(.str (.ofString "steps_by_rows") 442),(.str (.ofString "/claim/cut.py") 443),(.int (89) 0),(.int (3) 0),(.int (0) 0),(.int (0) 0),(.int (3) 0),(.ref 203),(.bool true),(.int (181) 0),(.ref 204),.none,.none,.none,(.ref 205),(.int (444) 0),(.int (89) 0),(.str (.ofString "/claim/cut.py") 445)],#[]⟩) ::
  (nat_lit 207,kF (top 33) (.ofString "steps_by_rows") (.ofString "steps_by_rows") .none .none .none (.str (.ofString "kinnames.shares") 380) none (.ref 206) .none (.type "function") none #[]) ::
  (nat_lit 213,⟨(.type "code"),none,.fields #[(.str (.ofString "share_by_rows") 447),(.str (.ofString "share_by_rows") 448),(.str (.ofString "/claim/cut.py") 449),(.int (91) 0),(.int (3) 0),(.int (0) 0),(.int (0) 0),(.int (3) 0),(.ref 208),(.bool true),(.int (181) 0),(.ref 209),.none,(.ref 210),(.ref 211),(.ref 212),(.int (455) 0),(.int (91) 0),(.str (.ofString "/claim/cut.py") 456)],#[]⟩) ::
  (nat_lit 214,kF (top 34) (.ofString "share_by_rows") (.ofString "share_by_rows") .none .none .none (.str (.ofString "kinnames.shares") 380) none (.ref 213) .none (.type "function") none #[]) ::
  (nat_lit 220,⟨(.type "code"),none,.fields #[(.str (.ofString "share") 458),(.str (.ofString "share") 459),(.str (.ofString "/claim/cut.py") 460),(.int (96) 0),(.int (3) 0),(.int (0) 0),(.int (0) 0),(.int (3) 0),(.ref 215),(.bool true),(.int (181) 0),(.ref 216),.none,(.ref 217),(.ref 218),(.ref 219),(.int (464) 0),(.int (96) 0),(.str (.ofString "/claim/cut.py") 465)],#[]⟩) ::
  (nat_lit 221,kF (top 35) (.ofString "share") (.ofString "share") .none .none .none (.str (.ofString "kinnames.shares") 380) none (.ref 220) .none (.type "function") none #[]) ::
  (nat_lit 227,⟨(.type "code"),none,.fields #[(.str (.ofString "makes") 467),(.str (.ofString "makes") 468),(.str (.ofString "/claim/cut.py") 469),(.int (101) 0),(.int (3) 0),(.int (0) 0),(.int (0) 0),(.int (3) 0),(.ref 222),(.bool true),(.int (181) 0),(.ref 223),.none,(.ref 224),(.ref 225),(.ref 226),(.int (473) 0),(.int (101) 0),(.str (.ofString "/claim/cut.py") 474)],#[]⟩) ::
  (nat_lit 228,kF (top 36) (.ofString "makes") (.ofString "makes") .none .none .none (.str (.ofString "kinnames.shares") 380) none (.ref 227) .none (.type "function") none #[]) ::
  (nat_lit 232,⟨(.type "code"),none,.fields #[(.str (.ofString "makers") 478),(.str (.ofString "makers") 479),(.str (.ofString "/claim/cut.py") 480),(.int (104) 0),(.int (3) 0),(.int (0) 0),(.int (0) 0),(.int (3) 0),(.ref 229),(.bool true),(.int (181) 0),(.ref 230),.none,.none,.none,(.ref 231),(.int (481) 0),(.int (104) 0),(.str (.ofString "/claim/cut.py") 482)],#[]⟩) ::
  (nat_lit 233,kF (top 38) (.ofString "makers") (.ofString "makers") .none .none .none (.str (.ofString "kinnames.supports") 476) none (.ref 232) .none (.type "function") none #[]) ::
  (nat_lit 237,⟨(.type "code"),none,.fields #[(.str (.ofString "best_maker") 484),(.str (.ofString "best_maker") 485),(.str (.ofString "/claim/cut.py") 486),(.int (109) 0),(.int (3) 0),(.int (0) 0),(.int (0) 0),(.int (3) 0),(.ref 234),(.bool true),(.int (181) 0),(.ref 235),.none,.none,.none,(.ref 236),(.int (487) 0),(.int (109) 0),(.str (.ofString "/claim/cut.py") 488)],#[]⟩) ::
  (nat_lit 238,kF (top 39) (.ofString "best_maker") (.ofString "best_maker") .none .none .none (.str (.ofString "kinnames.supports") 476) none (.ref 237) .none (.type "function") none #[]) ::
  (nat_lit 244,⟨(.type "code"),none,.fields #[(.str (.ofString "greatest_order") 490),(.str (.ofString "greatest_order") 491),(.str (.ofString "/claim/cut.py") 492),(.int (114) 0),(.int (2) 0),(.int (0) 0),(.int (0) 0),(.int (3) 0),(.ref 239),(.bool true),(.int (181) 0),(.ref 240),.none,(.ref 241),(.ref 242),(.ref 243),(.int (496) 0),(.int (114) 0),(.str (.ofString "/claim/cut.py") 497)],#[]⟩) ::
  (nat_lit 245,kF (top 40) (.ofString "greatest_order") (.ofString "greatest_order") .none .none .none (.str (.ofString "kinnames.supports") 476) none (.ref 244) .none (.type "function") none #[]) ::
  (nat_lit 249,⟨(.type "code"),none,.fields #[(.str (.ofString "places_with") 499),(.str (.ofString "places_with") 500),(.str (.ofString "/claim/cut.py") 501),(.int (121) 0),(.int (3) 0),(.int (0) 0),(.int (0) 0),(.int (3) 0),(.ref 246),(.bool true),(.int (181) 0),(.ref 247),.none,.none,.none,(.ref 248),(.int (502) 0),(.int (121) 0),(.str (.ofString "/claim/cut.py") 503)],#[]⟩) ::
  (nat_lit 250,kF (top 41) (.ofString "places_with") (.ofString "places_with") .none .none .none (.str (.ofString "kinnames.supports") 476) none (.ref 249) .none (.type "function") none #[]) ::
  (nat_lit 254,⟨(.type "code"),none,.fields #[(.str (.ofString "places_by_step") 505),(.str (.ofString "places_by_step") 506),(.str (.ofString "/claim/cut.py") 507),(.int (123) 0),(.int (3) 0),(.int (0) 0),(.int (0) 0),(.int (3) 0),(.ref 251),(.bool true),(.int (181) 0),(.ref 252),.none,.none,.none,(.ref 253),(.int (508) 0),(.int (123) 0),(.str (.ofString "/claim/cut.py") 509)],#[]⟩) ::
  (nat_lit 255,kF (top 42) (.ofString "places_by_step") (.ofString "places_by_step") .none .none .none (.str (.ofString "kinnames.supports") 476) none (.ref 254) .none (.type "function") none #[]) ::
  (nat_lit 259,⟨(.type "code"),none,.fields #[(.str (.ofString "any_has") 511),(.str (.ofString "any_has") 512),(.str (.ofString "/claim/cut.py") 513),(.int (125) 0),(.int (2) 0),(.int (0) 0),(.int (0) 0),(.int (3) 0),(.ref 256),(.bool true),(.int (181) 0),(.ref 257),.none,.none,.none,(.ref 258),(.int (514) 0),(.int (125) 0),(.str (.ofString "/claim/cut.py") 515)],#[]⟩) ::
  (nat_lit 260,kF (top 43) (.ofString "any_has") (.ofString "any_has") .none .none .none (.str (.ofString "kinnames.supports") 476) none (.ref 259) .none (.type "function") none #[]) ::
  (nat_lit 264,⟨(.type "code"),none,.fields #[(.str (.ofString "alone_make") 517),(.str (.ofString "alone_make") 518),(.str (.ofString "/claim/cut.py") 519),(.int (127) 0),(.int (2) 0),(.int (0) 0),(.int (0) 0),(.int (3) 0),(.ref 261),(.bool true),(.int (181) 0),(.ref 262),.none,.none,.none,(.ref 263),(.int (520) 0),(.int (127) 0),(.str (.ofString "/claim/cut.py") 521)],#[]⟩) ::
  (nat_lit 265,kF (top 44) (.ofString "alone_make") (.ofString "alone_make") .none .none .none (.str (.ofString "kinnames.supports") 476) none (.ref 264) .none (.type "function") none #[]) ::
  (nat_lit 269,⟨(.type "code"),none,.fields #[(.str (.ofString "longer_lists") 523),(.str (.ofString "longer_lists") 524),(.str (.ofString "/claim/cut.py") 525),(.int (129) 0),(.int (2) 0),(.int (0) 0),(.int (0) 0),(.int (3) 0),(.ref 266),(.bool true),(.int (181) 0),(.ref 267),.none,.none,.none,(.ref 268),(.int (526) 0),(.int (129) 0),(.str (.ofString "/claim/cut.py") 527)],#[]⟩) ::
  (nat_lit 270,kF (top 45) (.ofString "longer_lists") (.ofString "longer_lists") .none .none .none (.str (.ofString "kinnames.supports") 476) none (.ref 269) .none (.type "function") none #[]) ::
  (nat_lit 276,⟨(.type "code"),none,.fields #[(.str (.ofString "needed") 529),(.str (.ofString "needed") 530),(.str (.ofString "/claim/cut.py") 531),(.int (135) 0),(.int (3) 0),(.int (0) 0),(.int (0) 0),(.int (3) 0),(.ref 271),(.bool true),(.int (181) 0),(.ref 272),.none,(.ref 273),(.ref 274),(.ref 275),(.int (538) 0),(.int (135) 0),(.str (.ofString "/claim/cut.py") 539)],#[]⟩) ::
  (nat_lit 277,kF (top 46) (.ofString "needed") (.ofString "needed") .none .none .none (.str (.ofString "kinnames.supports") 476) none (.ref 276) .none (.type "function") none #[]) ::
  (nat_lit 281,⟨(.type "code"),none,.fields #[(.str (.ofString "is_list_of_places") 541),(.str (.ofString "is_list_of_places") 542),(.str (.ofString "/claim/cut.py") 543),(.int (147) 0),(.int (2) 0),(.int (0) 0),(.int (0) 0),(.int (3) 0),(.ref 278),(.bool true),(.int (181) 0),(.ref 279),.none,.none,.none,(.ref 280),(.int (544) 0),(.int (147) 0),(.str (.ofString "/claim/cut.py") 545)],#[]⟩) ::
  (nat_lit 282,kF (top 47) (.ofString "is_list_of_places") (.ofString "is_list_of_places") .none .none .none (.str (.ofString "kinnames.supports") 476) none (.ref 281) .none (.type "function") none #[]) ::
  (nat_lit 286,⟨(.type "code"),none,.fields #[(.str (.ofString "shows") 547),(.str (.ofString "shows") 548),(.str (.ofString "/claim/cut.py") 549),(.int (151) 0),(.int (4) 0),(.int (0) 0),(.int (0) 0),(.int (3) 0),(.ref 283),(.bool true),(.int (181) 0),(.ref 284),.none,.none,.none,(.ref 285),(.int (550) 0),(.int (151) 0),(.str (.ofString "/claim/cut.py") 551)],#[]⟩) ::
  (nat_lit 287,kF (top 48) (.ofString "shows") (.ofString "shows") .none .none .none (.str (.ofString "kinnames.supports") 476) none (.ref 286) .none (.type "function") none #[]) ::
  (nat_lit 291,⟨(.type "code"),none,.fields #[(.str (.ofString "even_parts") 557),(.str (.ofString "even_parts") 558),(.str (.ofString "/claim/cut.py") 559),(.int (164) 0),(.int (1) 0),(.int (0) 0),(.int (0) 0),(.int (3) 0),(.ref 288),(.bool true),(.int (181) 0),(.ref 289),.none,.none,.none,(.ref 290),(.int (560) 0),(.int (164) 0),(.str (.ofString "/claim/cut.py") 561)],#[]⟩) ::
  (nat_lit 292,kF (top 51) (.ofString "even_parts") (.ofString "even_parts") .none .none .none (.str (.ofString "kinnames.ways") 553) none (.ref 291) .none (.type "function") none #[]) ::
  (nat_lit 298,⟨(.type "code"),none,.fields #[(.str (.ofString "left_of") 563),(.str (.ofString "left_of") 564),(.str (.ofString "/claim/cut.py") 565),(.int (169) 0),(.int (2) 0),(.int (0) 0),(.int (0) 0),(.int (3) 0),(.ref 293),(.bool true),(.int (181) 0),(.ref 294),.none,(.ref 295),(.ref 296),(.ref 297),(.int (568) 0),(.int (169) 0),(.str (.ofString "/claim/cut.py") 569)],#[]⟩) ::
  (nat_lit 299,kF (top 52) (.ofString "left_of") (.ofString "left_of") .none .none .none (.str (.ofString "kinnames.ways") 553) none (.ref 298) .none (.type "function") none #[]) ::
  (nat_lit 305,⟨(.type "code"),none,.fields #[(.str (.ofString "may_follow") 571),(.str (.ofString "may_follow") 572),(.str (.ofString "/claim/cut.py") 573),(.int (171) 0),(.int (2) 0),(.int (0) 0),(.int (0) 0),(.int (3) 0),(.ref 300),(.bool true),(.int (181) 0),(.ref 301),.none,(.ref 302),(.ref 303),(.ref 304),(.int (576) 0),(.int (171) 0),(.str (.ofString "/claim/cut.py") 577)],#[]⟩) ::
  (nat_lit 306,kF (top 53) (.ofString "may_follow") (.ofString "may_follow") .none .none .none (.str (.ofString "kinnames.ways") 553) none (.ref 305) .none (.type "function") none #[]) ::
  (nat_lit 312,⟨(.type "code"),none,.fields #[(.str (.ofString "next_sums") 579),(.str (.ofString "next_sums") 580),(.str (.ofString "/claim/cut.py") 581),(.int (173) 0),(.int (4) 0),(.int (0) 0),(.int (0) 0),(.int (3) 0),(.ref 307),(.bool true),(.int (181) 0),(.ref 308),.none,(.ref 309),(.ref 310),(.ref 311),(.int (592) 0),(.int (173) 0),(.str (.ofString "/claim/cut.py") 593)],#[]⟩) ::
  (nat_lit 313,kF (top 54) (.ofString "next_sums") (.ofString "next_sums") .none .none .none (.str (.ofString "kinnames.ways") 553) none (.ref 312) .none (.type "function") none #[]) ::
  (nat_lit 317,⟨(.type "code"),none,.fields #[(.str (.ofString "sum_along") 595),(.str (.ofString "sum_along") 596),(.str (.ofString "/claim/cut.py") 597),(.int (181) 0),(.int (4) 0),(.int (0) 0),(.int (0) 0),(.int (3) 0),(.ref 314),(.bool true),(.int (181) 0),(.ref 315),.none,.none,.none,(.ref 316),(.int (598) 0),(.int (181) 0),(.str (.ofString "/claim/cut.py") 599)],#[]⟩) ::
  (nat_lit 318,kF (top 55) (.ofString "sum_along") (.ofString "sum_along") .none .none .none (.str (.ofString "kinnames.ways") 553) none (.ref 317) .none (.type "function") none #[]) ::
  (nat_lit 324,⟨(.type "code"),none,.fields #[(.str (.ofString "need_length") 603),(.str (.ofString "need_length") 604),(.str (.ofString "/claim/cut.py") 605),(.int (187) 0),(.int (1) 0),(.int (0) 0),(.int (0) 0),(.int (3) 0),(.ref 319),(.bool true),(.int (181) 0),(.ref 320),.none,(.ref 321),(.ref 322),(.ref 323),(.int (607) 0),(.int (187) 0),(.str (.ofString "/claim/cut.py") 608)],#[]⟩) ::
  (nat_lit 325,kF (top 57) (.ofString "need_length") (.ofString "need_length") .none .none .none (.str (.ofString "kinnames.lengths") 601) none (.ref 324) .none (.type "function") none #[]) ::
  (nat_lit 331,⟨(.type "code"),none,.fields #[(.str (.ofString "how_many_by_rows") 610),(.str (.ofString "how_many_by_rows") 611),(.str (.ofString "/claim/cut.py") 612),(.int (189) 0),(.int (3) 0),(.int (0) 0),(.int (0) 0),(.int (3) 0),(.ref 326),(.bool true),(.int (181) 0),(.ref 327),.none,(.ref 328),(.ref 329),(.ref 330),(.int (616) 0),(.int (189) 0),(.str (.ofString "/claim/cut.py") 617)],#[]⟩) ::
  (nat_lit 332,kF (top 58) (.ofString "how_many_by_rows") (.ofString "how_many_by_rows") .none .none .none (.str (.ofString "kinnames.lengths") 601) none (.ref 331) .none (.type "function") none #[]) ::
  (nat_lit 338,⟨(.type "code"),none,.fields #[(.str (.ofString "how_many") 619),(.str (.ofString "how_many") 620),(.str (.ofString "/claim/cut.py") 621),(.int (191) 0),(.int (3) 0),(.int (0) 0),(.int (0) 0),(.int (3) 0),(.ref 333),(.bool true),(.int (181) 0),(.ref 334),.none,(.ref 335),(.ref 336),(.ref 337),(.int (625) 0),(.int (191) 0),(.str (.ofString "/claim/cut.py") 626)],#[]⟩) ::
  (nat_lit 339,kF (top 59) (.ofString "how_many") (.ofString "how_many") .none .none .none (.str (.ofString "kinnames.lengths") 601) none (.ref 338) .none (.type "function") none #[]) ::
  (nat_lit 343,⟨(.type "code"),none,.fields #[(.str (.ofString "letters_towards") 628),(.str (.ofString "letters_towards") 629),(.str (.ofString "/claim/cut.py") 630),(.int (196) 0),(.int (4) 0),(.int (0) 0),(.int (0) 0),(.int (3) 0),(.ref 340),(.bool true),(.int (181) 0),(.ref 341),.none,.none,.none,(.ref 342),(.int (631) 0),(.int (196) 0),(.str (.ofString "/claim/cut.py") 632)],#[]⟩) ::
  (nat_lit 344,kF (top 60) (.ofString "letters_towards") (.ofString "letters_towards") .none .none .none (.str (.ofString "kinnames.lengths") 601) none (.ref 343) .none (.type "function") none #[]) ::
  (nat_lit 348,⟨(.type "code"),none,.fields #[(.str (.ofString "closing_ends") 634),(.str (.ofString "closing_ends") 635),(.str (.ofString "/claim/cut.py") 636),(.int (198) 0),(.int (3) 0),(.int (0) 0),(.int (0) 0),(.int (3) 0),(.ref 345),(.bool true),(.int (181) 0),(.ref 346),.none,.none,.none,(.ref 347),(.int (637) 0),(.int (198) 0),(.str (.ofString "/claim/cut.py") 638)],#[]⟩) ::
  (nat_lit 349,kF (top 61) (.ofString "closing_ends") (.ofString "closing_ends") .none .none .none (.str (.ofString "kinnames.lengths") 601) none (.ref 348) .none (.type "function") none #[]) ::
  (nat_lit 353,⟨(.type "code"),none,.fields #[(.str (.ofString "lengthened") 640),(.str (.ofString "lengthened") 641),(.str (.ofString "/claim/cut.py") 642),(.int (204) 0),(.int (4) 0),(.int (0) 0),(.int (0) 0),(.int (3) 0),(.ref 350),(.bool true),(.int (181) 0),(.ref 351),.none,.none,.none,(.ref 352),(.int (643) 0),(.int (204) 0),(.str (.ofString "/claim/cut.py") 644)],#[]⟩) ::
  (nat_lit 354,kF (top 62) (.ofString "lengthened") (.ofString "lengthened") .none .none .none (.str (.ofString "kinnames.lengths") 601) none (.ref 353) .none (.type "function") none #[]) ::
  (nat_lit 360,⟨(.type "code"),none,.fields #[(.str (.ofString "all_made") 646),(.str (.ofString "all_made") 647),(.str (.ofString "/claim/cut.py") 648),(.int (212) 0),(.int (3) 0),(.int (0) 0),(.int (0) 0),(.int (3) 0),(.ref 355),(.bool true),(.int (181) 0),(.ref 356),.none,(.ref 357),(.ref 358),(.ref 359),(.int (656) 0),(.int (212) 0),(.str (.ofString "/claim/cut.py") 657)],#[]⟩) ::
  (nat_lit 361,kF (top 63) (.ofString "all_made") (.ofString "all_made") .none .none .none (.str (.ofString "kinnames.lengths") 601) none (.ref 360) .none (.type "function") none #[]) ::
  (nat_lit 367,⟨(.type "code"),none,.fields #[(.str (.ofString "_law_cell") 661),(.str (.ofString "_law_cell") 662),(.str (.ofString "/claim/cut.py") 663),(.int (223) 0),(.int (2) 0),(.int (0) 0),(.int (0) 0),(.int (3) 0),(.ref 362),(.bool true),(.int (181) 0),(.ref 363),.none,(.ref 364),(.ref 365),(.ref 366),(.int (666) 0),(.int (223) 0),(.str (.ofString "/claim/cut.py") 667)],#[]⟩) ::
  (nat_lit 368,kF (top 65) (.ofString "_law_cell") (.ofString "_law_cell") .none .none .none (.str (.ofString "law_kinnames_k51_whole_makers") 659) none (.ref 367) .none (.type "function") none #[]) ::
  (nat_lit 374,⟨(.type "code"),none,.fields #[(.str (.ofString "_law_drawn") 669),(.str (.ofString "_law_drawn") 670),(.str (.ofString "/claim/cut.py") 671),(.int (227) 0),(.int (3) 0),(.int (0) 0),(.int (0) 0),(.int (3) 0),(.ref 369),(.bool true),(.int (181) 0),(.ref 370),.none,(.ref 371),(.ref 372),(.ref 373),(.int (676) 0),(.int (227) 0),(.str (.ofString "/claim/cut.py") 677)],#[]⟩) ::
  (nat_lit 375,kF (top 66) (.ofString "_law_drawn") (.ofString "_law_drawn") .none .none .none (.str (.ofString "law_kinnames_k51_whole_makers") 659) none (.ref 374) .none (.type "function") none #[]) ::
  (nat_lit 379,⟨(.type "code"),none,.fields #[(.str (.ofString "_law_name") 679),(.str (.ofString "_law_name") 680),(.str (.ofString "/claim/cut.py") 681),(.int (231) 0),(.int (3) 0),(.int (0) 0),(.int (0) 0),(.int (3) 0),(.ref 376),(.bool true),(.int (181) 0),(.ref 377),.none,.none,.none,(.ref 378),(.int (682) 0),(.int (231) 0),(.str (.ofString "/claim/cut.py") 683)],#[]⟩) ::
  (nat_lit 380,kF (top 67) (.ofString "_law_name") (.ofString "_law_name") .none .none .none (.str (.ofString "law_kinnames_k51_whole_makers") 659) none (.ref 379) .none (.type "function") none #[]) ::
  (nat_lit 386,⟨(.type "code"),none,.fields #[(.str (.ofString "_law_book") 685),(.str (.ofString "_law_book") 686),(.str (.ofString "/claim/cut.py") 687),(.int (235) 0),(.int (4) 0),(.int (0) 0),(.int (0) 0),(.int (3) 0),(.ref 381),(.bool true),(.int (181) 0),(.ref 382),.none,(.ref 383),(.ref 384),(.ref 385),(.int (694) 0),(.int (235) 0),(.str (.ofString "/claim/cut.py") 695)],#[]⟩) ::
  (nat_lit 387,kF (top 68) (.ofString "_law_book") (.ofString "_law_book") .none .none .none (.str (.ofString "law_kinnames_k51_whole_makers") 659) none (.ref 386) .none (.type "function") none #[]) ::
  (nat_lit 391,⟨(.type "code"),none,.fields #[(.str (.ofString "law") 697),(.str (.ofString "law") 698),(.str (.ofString "/claim/cut.py") 699),(.int (240) 0),(.int (1) 0),(.int (0) 0),(.int (0) 0),(.int (3) 0),(.ref 388),(.bool true),(.int (181) 0),(.ref 389),.none,.none,.none,(.ref 390),(.int (700) 0),(.int (240) 0),(.str (.ofString "/claim/cut.py") 701)],#[]⟩) ::
  (nat_lit 392,kF (top 69) (.ofString "law") (.ofString "law") .none .none .none (.str (.ofString "law_kinnames_k51_whole_makers") 659) none (.ref 391) .none (.type "function") none #[])::[]
def kas:List Addr:=[2,3,23,24,25,36,37,48,49,60,61,72,73,79,80,84,85,91,92,98,99,103,104,110,111,117,118,124,125,131,132,138,139,145,146,150,151,157,158,159,160,166,167,173,174,180,181,187,188,194,195,201,202,206,207,213,214,220,221,227,228,232,233,237,238,244,245,249,250,254,255,259,260,264,265,269,270,276,277,281,282,286,287,291,292,298,299,305,306,312,313,317,318,324,325,331,332,338,339,343,344,348,349,353,354,360,361,367,368,374,375,379,380,386,387,391,392]
def kq:Program:=view PySem.Challenge.pw_kinnames_k51_whole_makers [1,2,3,4,5,7,8,9,10,11,12,13,14,15,16,17,18,19,20,21,22,23,25,26,27,28,29,30,31,32,33,34,35,36,38,39,40,41,42,43,44,45,46,47,48,50,51,52,53,54,55,57,58,59,60,61,62,63,65,66,67,68,69]
def klo:List Str:=[]
theorem kas_e:∀ P,kas=(kfr P).map (·.1):=fun _=>by kernel_rfl
noncomputable def hl0 (w:World):=(openEndsT treeTable PySem.Challenge.pw_kinnames_k51_whole_makers w 5434).map (fun s=>(seen ((recsOf kq).map (·.name)) (ownsOf kq) [] { s with gens:=#[] },s.heap.bltView,(s.heap.keysOk (looseW kq klo) ((recsOf kq).map (·.name)) ((litsOf kq).map (·.1)) ((clssOf kq (looseW kq klo)).map (·.name)) && s.heap.accountedOkI (importedModules PySem.Challenge.pw_kinnames_k51_whole_makers.main.body) && s.heap.isNs mainGlobals && s.heap.isNs builtinsNs && tablesOk kq s.heap && (xlAt kq [] s && recOk [] s) && (if true=true then s.gens.size == 0 else !leftWithCleanup s.gens))))
noncomputable def hr0 (w:World):=some (expectedOf kq,bltViewBooted,true)
theorem hl0_e:hl0=hl0:=rfl
theorem hr0_e:hr0=hr0:=rfl
noncomputable def hl1 (w:World):=(openEndsT treeTable PySem.Challenge.pw_kinnames_k51_whole_makers w 5434).map (fun s=>(tabsOk kq s,pinSeenD kq (drecsOf kq) s,plainSeenE kq (looseW kq klo) s,plainSeenD kq klo s,wideSeen kq s,clsSeenW kq klo s))
noncomputable def hr1 (w:World):=some (true,pinGoodD (drecsOf kq),plainGoodE kq (looseW kq klo),plainGoodD kq klo,wideGood kq,clsGoodW kq klo)
theorem hl1_e:hl1=hl1:=rfl
theorem hr1_e:hr1=hr1:=rfl
noncomputable def hl2 (w:World):=(openEndsT treeTable PySem.Challenge.pw_kinnames_k51_whole_makers w 5434).map (fun s=>(kas.map s.heap.get?))
noncomputable def hr2 (w:World):=some ((kfr w.params).map fun p=>some p.2)
theorem hl2_e:hl2=hl2:=rfl
theorem hr2_e:hr2=hr2:=rfl
end Kn
name_quick hl0Q for Kn.hl0 by Kn.hl0_e
name_quick hr0Q for Kn.hr0 by Kn.hr0_e
theorem Kn.hq0 (w:World):PySem.W.Fast.hl0Q w=PySem.W.Fast.hr0Q w:=by kernel_rfl
theorem Kn.hx0 (w:World):Kn.hl0 w=Kn.hr0 w:=((congrFun PySem.W.Fast.hl0Q_eq w).trans (Kn.hq0 w)).trans (congrFun PySem.W.Fast.hr0Q_eq w).symm
name_quick hl1Q for Kn.hl1 by Kn.hl1_e
name_quick hr1Q for Kn.hr1 by Kn.hr1_e
theorem Kn.hq1 (w:World):PySem.W.Fast.hl1Q w=PySem.W.Fast.hr1Q w:=by kernel_rfl
theorem Kn.hx1 (w:World):Kn.hl1 w=Kn.hr1 w:=((congrFun PySem.W.Fast.hl1Q_eq w).trans (Kn.hq1 w)).trans (congrFun PySem.W.Fast.hr1Q_eq w).symm
name_quick hl2Q for Kn.hl2 by Kn.hl2_e
name_quick hr2Q for Kn.hr2 by Kn.hr2_e
theorem Kn.hq2 (w:World):PySem.W.Fast.hl2Q w=PySem.W.Fast.hr2Q w:=by kernel_rfl
theorem Kn.hx2 (w:World):Kn.hl2 w=Kn.hr2 w:=((congrFun PySem.W.Fast.hl2Q_eq w).trans (Kn.hq2 w)).trans (congrFun PySem.W.Fast.hr2Q_eq w).symm
theorem Kn.hl:LeftO PySem.Challenge.pw_kinnames_k51_whole_makers Kn.kq Kn.klo (fun s=>xlAt Kn.kq [] s && recOk [] s) (Hook.obs (kHook Kn.kfr Kn.kas Kn.kas_e)) (Hook.val (kHook Kn.kfr Kn.kas Kn.kas_e)) 5434:=fun w=>by
  refine Kn.openMap_of ?_
  obtain ⟨s,e,x0⟩:=Option.map_eq_some_iff.mp (Kn.hx0 w)
  have y1:=Kn.hx1 w
  unfold Kn.hl1 at y1
  rw [e] at y1
  have x1:=Option.some.inj y1
  have y2:=Kn.hx2 w
  unfold Kn.hl2 at y2
  rw [e] at y2
  have x2:=Option.some.inj y2
  obtain ⟨a1,z0_0⟩:=Prod.mk.inj x0
  obtain ⟨a2,z0_1⟩:=Prod.mk.inj z0_0
  have a3:=z0_1
  obtain ⟨a4,z1_0⟩:=Prod.mk.inj x1
  obtain ⟨a5,z1_1⟩:=Prod.mk.inj z1_0
  obtain ⟨a6,z1_2⟩:=Prod.mk.inj z1_1
  obtain ⟨a7,z1_3⟩:=Prod.mk.inj z1_2
  obtain ⟨a8,z1_4⟩:=Prod.mk.inj z1_3
  have a9:=z1_4
  have aK:=x2
  rw [e]
  exact congrArg some (looks_pair (looks_pair a1 (looks_pair a2 (looks_pair a3 (looks_pair a4 (looks_pair a5 (looks_pair a6 (looks_pair a7 (looks_pair a8 a9)))))))) aK)
end
section
namespace L2
open PySem PySem.Spec PyProof.Rows
abbrev Key:=Sum Int Str
def keyIs:Key→Value→Bool
  | .inl k,v=>Value.isInt k v
  | .inr x,v=>Value.isStrOf x v
def keyH (w:World):Key→Int
  | .inl k=>hashInt k
  | .inr x=>hashStr w x
theorem keyIs_shape:∀ {k:Key}{v:Value},keyIs k v=true→(∃ i t,k=Sum.inl i∧v=Value.int i t)∨(∃ x t,k=Sum.inr x∧v=Value.str x t)
  | .inl i,v,h=>by
    obtain ⟨t,e⟩:=Value.isInt_shape (k:=i) (v:=v) h
    exact .inl ⟨i,t,rfl,e⟩
  | .inr x,v,h=>by
    obtain ⟨t,e⟩:=Value.isStrOf_shape (x:=x) (v:=v) h
    exact .inr ⟨x,t,rfl,e⟩
theorem keyIs_int (i:Int) (t:Tok):keyIs (.inl i) (.int i t)=true:=by simp [keyIs,Value.isInt]
theorem keyIs_str (x:Str) (t:Tok):keyIs (.inr x) (.str x t)=true:=by simp [keyIs,Value.isStrOf]
theorem key_ll (a b:Int):decide ((Sum.inl a:Key)=Sum.inl b)=(a == b):=by
  by_cases e:a=b
  · subst e; simp
  · have h:¬ (Sum.inl a:Key)=Sum.inl b:=fun q=>e (Sum.inl.inj q)
    rw [decide_eq_false h]
    exact (beq_eq_false_iff_ne.mpr e).symm
theorem key_rr (a b:Str):decide ((Sum.inr a:Key)=Sum.inr b)=decide (a=b):=by
  by_cases e:a=b
  · subst e; simp
  · have h:¬ (Sum.inr a:Key)=Sum.inr b:=fun q=>e (Sum.inr.inj q)
    rw [decide_eq_false h,decide_eq_false e]
theorem key_lr (a:Int) (b:Str):decide ((Sum.inl a:Key)=Sum.inr b)=false:=decide_eq_false (fun q=>nomatch q)
theorem key_rl (a:Str) (b:Int):decide ((Sum.inr a:Key)=Sum.inl b)=false:=decide_eq_false (fun q=>nomatch q)
def mixKind (prog:Program) (w:World):PySem.KeyKind prog w Key where
  is:=keyIs
  hash:=keyH w
  inj:=fun v a b ha hb=>by
    rcases keyIs_shape ha with ⟨i,t,rfl,rfl⟩ | ⟨x,t,rfl,rfl⟩
    · rcases keyIs_shape hb with ⟨j,u,rfl,e⟩ | ⟨y,u,rfl,e⟩
      · injection e with e1 _; rw [e1]
      · exact nomatch e
    · rcases keyIs_shape hb with ⟨j,u,rfl,e⟩ | ⟨y,u,rfl,e⟩
      · exact nomatch e
      · injection e with e1 _; rw [e1]
  byValue:=fun k v h=>by
    rcases keyIs_shape h with ⟨i,t,rfl,rfl⟩ | ⟨x,t,rfl,rfl⟩ <;> rfl
  pyHash:=fun hv h=>by
    rcases keyIs_shape hv with ⟨i,t,rfl,rfl⟩ | ⟨x,t,rfl,rfl⟩
    · exact wpAny_pyHash_int h
    · exact wpAny_pyHash_str h
  eqBool:=fun hu hv h=>by
    rcases keyIs_shape hu with ⟨i,t,rfl,rfl⟩ | ⟨x,t,rfl,rfl⟩
    · rcases keyIs_shape hv with ⟨j,u,rfl,rfl⟩ | ⟨y,u,rfl,rfl⟩
      · rw [key_ll] at h; exact wpAny_eqBool_int h
      · rw [key_lr] at h; exact SeqAt.EqAt.int_str i t y u _ _ _ _ h
    · rcases keyIs_shape hv with ⟨j,u,rfl,rfl⟩ | ⟨y,u,rfl,rfl⟩
      · rw [key_rl] at h; exact SeqAt.EqAt.str_int x t j u _ _ _ _ h
      · rw [key_rr] at h; exact wpAny_eqBool_str h
  «strs»:=fun k x t v h=>by
    rcases keyIs_shape h with ⟨i,u,rfl,e⟩ | ⟨y,u,rfl,e⟩
    · exact nomatch e
    · injection e with e1 _
      subst e1
      cases v <;> rfl
abbrev TKey:=Sum Str Bool
def tkIs:TKey→Value→Bool
  | .inl x,v=>Value.isStrOf x v
  | .inr b,v=>v == Value.bool b
theorem tkIs_shape:∀ {k:TKey}{v:Value},tkIs k v=true→(∃ x t,k=Sum.inl x∧v=Value.str x t)∨(∃ b,k=Sum.inr b∧v=Value.bool b)
  | .inl x,v,h=>by
    obtain ⟨t,e⟩:=Value.isStrOf_shape (x:=x) (v:=v) h
    exact .inl ⟨x,t,rfl,e⟩
  | .inr b,v,h=>.inr ⟨b,rfl,eq_of_beq h⟩
def tkH (w:World):TKey→Int
  | .inl x=>hashStr w x
  | .inr b=>reduceHash (if b then 1 else 0)
theorem tk_hash {prog:Program}{w:World}{A:Around}{E:Value→Shared→Prop}{s:Shared}{b:Bool}{Q:Int→Shared→Prop} (h:Q (reduceHash (if b then 1 else 0)) { s with toks:=s.toks+1 }) :
    wpAny (model prog w) A (pyHash (.bool b)) Q E s:=by
  refine PySem.W.pyHash_slot (T := "bool") rfl F.slot_bool_hash F.entry_int_hash (F.args_int_hash_1 _) (by decide) (.inl (by cases b <;> rfl)) ?_
  unfold Builtin.«int.__hash__»
  cases b
  · wp_walk
    exact ⟨_,_,rfl,h⟩
  · wp_walk
    exact ⟨_,_,rfl,h⟩
def tkKind (prog:Program) (w:World):PySem.KeyKind prog w TKey where
  is:=tkIs
  hash:=tkH w
  inj:=fun v a b ha hb=>by
    rcases tkIs_shape ha with ⟨x,t,rfl,rfl⟩ | ⟨c,rfl,rfl⟩
    · rcases tkIs_shape hb with ⟨y,u,rfl,e⟩ | ⟨d,rfl,e⟩
      · injection e with e1 _; rw [e1]
      · exact nomatch e
    · rcases tkIs_shape hb with ⟨y,u,rfl,e⟩ | ⟨d,rfl,e⟩
      · exact nomatch e
      · injection e with e1; rw [e1]
  byValue:=fun k v h=>by
    rcases tkIs_shape h with ⟨x,t,rfl,rfl⟩ | ⟨c,rfl,rfl⟩ <;> rfl
  pyHash:=fun hv h=>by
    rcases tkIs_shape hv with ⟨x,t,rfl,rfl⟩ | ⟨c,rfl,rfl⟩
    · exact wpAny_pyHash_str h
    · exact tk_hash h
  eqBool:=fun hu hv h=>by
    rcases tkIs_shape hu with ⟨x,t,rfl,rfl⟩ | ⟨c,rfl,rfl⟩
    · rcases tkIs_shape hv with ⟨y,u,rfl,rfl⟩ | ⟨d,rfl,rfl⟩
      · have e:decide ((Sum.inl x:TKey)=Sum.inl y)=decide (x=y):=by
          by_cases q:x=y
          · subst q; simp
          · rw [decide_eq_false q,decide_eq_false fun z=>q (Sum.inl.inj z)]
        rw [e] at h; exact wpAny_eqBool_str h
      · rw [decide_eq_false (fun q=>nomatch q)] at h; exact SeqAt.EqAt.str_bool x t d _ _ _ _ h
    · rcases tkIs_shape hv with ⟨y,u,rfl,rfl⟩ | ⟨d,rfl,rfl⟩
      · rw [decide_eq_false (fun q=>nomatch q)] at h; exact SeqAt.EqAt.bool_str c y u _ _ _ _ h
      · refine SeqAt.EqAt.bool_bool c d _ _ _ _ ?_
        have e:decide ((Sum.inr c:TKey)=Sum.inr d)=(c == d):=by cases c <;> cases d <;> rfl
        rw [← e]; exact h
  «strs»:=fun k x t v h=>by
    rcases tkIs_shape h with ⟨y,u,rfl,e⟩ | ⟨d,rfl,e⟩
    · injection e with e1 _
      subst e1
      cases v <;> rfl
    · exact nomatch e
theorem mixKind_is (prog:Program) (w:World) (k:Key) (v:Value):(mixKind prog w).is k v=keyIs k v:=rfl
theorem mixKind_int (prog:Program) (w:World) (i:Int) (t:Tok):(mixKind prog w).is (.inl i) (.int i t)=true:=keyIs_int i t
theorem mixKind_str (prog:Program) (w:World) (x:Str) (t:Tok):(mixKind prog w).is (.inr x) (.str x t)=true:=keyIs_str x t
end L2
namespace L2
open PySem PySem.Spec PyProof.Rows
inductive V where
  | non | bl (b:Bool) | int (i:Int) | str (x:Str) | byt (b:Array UInt8) | flt (b:UInt64) | ref (a:Addr) | ty (n:String)
  deriving DecidableEq
def RelV:V→Value→Prop
  | .non,u=>u=Value.none
  | .bl b,u=>u=Value.bool b
  | .int i,u=>∃ t,u=Value.int i t
  | .str x,u=>∃ t,u=Value.str x t
  | .byt b,u=>∃ t,u=Value.bytes b t
  | .flt b,u=>∃ t,u=Value.float b t
  | .ref a,u=>u=Value.ref a
  | .ty n,u=>u=Value.type n
abbrev Vals:List V→List Value→Prop:=Paired RelV
theorem Vals.length {xs:List V}{us:List Value} (r:Vals xs us):xs.length=us.length:=Paired.length r
theorem Vals.get:∀ {xs:List V}{us:List Value}{i:Nat}{x:V},Vals xs us→xs[i]?=some x→∃ u,us[i]?=some u∧RelV x u
  | _,_,_,_,.nil,e=>by simp at e
  | _,_,0,_,.cons r _,e=>by simp at e; subst e; exact ⟨_,rfl,r⟩
  | _,_,i+1,x,.cons _ t,e=>by
    obtain ⟨u,h1,h2⟩:=Vals.get (i:=i) (x:=x) t (by simpa using e)
    exact ⟨u,by simpa using h1,h2⟩
theorem Vals.set {x:V}{u:Value} (r:RelV x u):∀ {xs:List V}{us:List Value} (i:Nat),Vals xs us→Vals (xs.set i x) (us.set i u)
  | _,_,_,.nil=>.nil
  | _,_,0,.cons _ t=>.cons r t
  | _,_,i+1,.cons q t=>.cons q (Vals.set r i t)
theorem Vals.append:∀ {xs ys:List V}{us ws:List Value},Vals xs us→Vals ys ws→Vals (xs++ys) (us++ws)
  | _,_,_,_,.nil,s=>s
  | _,_,_,_,.cons r t,s=>.cons r (Vals.append t s)
theorem Vals.take:∀ {xs:List V}{us:List Value} (n:Nat),Vals xs us→Vals (xs.take n) (us.take n)
  | _,_,0,_=>.nil
  | _,_,_+1,.nil=>.nil
  | _,_,n+1,.cons r t=>.cons r (Vals.take n t)
theorem Vals.drop:∀ {xs:List V}{us:List Value} (n:Nat),Vals xs us→Vals (xs.drop n) (us.drop n)
  | _,_,0,r=>r
  | _,_,_+1,.nil=>.nil
  | _,_,n+1,.cons _ t=>Vals.drop n t
def RelO:Option V→Option Value→Prop
  | some v,some u=>RelV v u
  | none,none=>True
  | _,_=>False
def KV {κ:Type}:List (κ × V)→List (κ × Value)→Prop:=Paired fun (p:κ × V) (q:κ × Value)=>p.1=q.1∧RelV p.2 q.2
def kV:Key→V
  | .inl i=>.int i
  | .inr x=>.str x
def tkV:TKey→V
  | .inl x=>.str x
  | .inr b=>.bl b
inductive HO where
  | lst (xs:List V)
  | tup (xs:List V)
  | dK (kvs:List (Key × V)) | dT (kvs:List (List TKey × V))
  | set (S:Int→Bool) (n:Nat)
  | ins (C dx:Addr) (fs:List (Str × V))
  | own (x:Addr)
  | xd (fs:List (Str × V))
  | met (f x:Addr)
  | rng (lo hi:Int)
  | frz (o:Obj) (u:HO)
  | tbl (ps:Array Value)
  | ext (φ:Heap→Prop)
abbrev Hp:=Addr→Option HO
def upd (H:Hp) (a:Addr) (o:HO):Hp:=fun b=>if b=a then some o else H b
theorem upd_same {H:Hp}{a:Addr}{o:HO}:upd H a o a=some o:=by unfold upd; rw [if_pos rfl]
theorem upd_ne {H:Hp}{a b:Addr}{o:HO} (h:b≠a):upd H a o b=H b:=by unfold upd; rw [if_neg h]
theorem ne_of {H:Hp}{a b:Addr}{o u:HO} (h:H a=some o) (h':H b=some u) (d:o≠u):a≠b:=by
  intro e; subst e; rw [h] at h'; exact d (Option.some.inj h')
theorem ne_of_none {H:Hp}{a b:Addr}{o:HO} (h:H a=some o) (h':H b=none):a≠b:=by
  intro e; subst e; rw [h] at h'; cases h'
section
variable (P:Program) (w:World)
def ObjOk (H:Hp) (h:Heap) (a:Addr):HO→Prop
  | .lst xs=>xs.length≤sizeLine∧∃ (its:List Value) (n:Nat),Vals xs its∧h.get? a=some { cls:=.type "list",data:=.seq its.toArray n }
  | .tup xs=>xs.length≤sizeLine∧∃ its:List Value,Vals xs its∧IsTup h a its.toArray
  | .dK kvs=>kvs.length≤sizeLine∧(a == sysModules)=false∧∃ vs,KV kvs vs∧h.DictOf (mixKind P w) a vs
  | .dT kvs=>kvs.length≤sizeLine∧(a == sysModules)=false∧∃ xs:List (List TKey × Addr × Value),
      Paired (fun (p:List TKey × V) (q:List TKey × Addr × Value)=>p.1=q.1∧H q.2.1=some (.tup (p.1.map tkV))∧RelV p.2 q.2.2) kvs xs ∧
      ∃ o es ep,h.get? a=some o∧o.ExactDict∧o.data=.dict es ep∧es.toList=xs.map (entryOfKey (tupleKind (tkKind P w)))∧(xs.map (·.1)).Nodup
  | .set S n=>h.SetOf (intKind P w) a S n
  | .ins C dx fs=>H dx=some (.own a)∧fs.length≤1000∧dx≠a∧h.get? a=some (PySem.W.instObj C dx) ∧
      ∃ mA,h.Ns1 dx mA∧(∀ f,RelO (fs.lookup f) (mA f))∧PySem.Within mA (fs.map (·.1))
  | .own _=>∃ o,h.get? a=some o
  | .xd fs=>∃ mA,h.Ns1 a mA∧∀ f,RelO (fs.lookup f) (mA f)
  | .rng lo hi=>∃ t u v,h.get? a=some { cls:=.type "range",data:=.fields #[.int lo t,.int hi u,.int 1 v] }
  | .frz o u=>h.get? a=some o∧ObjOk H h a u
  | .tbl ps=>h.get? a=some { cls:=.none,data:=.fields ps }
  | .met f x=>h.get? a=some (PySem.W.methodObj (.ref f) (.ref x))
  | .ext φ=>φ h∧(∃ o,h.get? a=some o)∧∀ h1 h2:Heap,φ h1→(∀ o,h1.get? a=some o→h2.get? a=some o)→φ h2
def HOk (H:Hp) (h:Heap):Prop:=∀ a o,H a=some o→ObjOk P w H h a o
end
section
variable {P:Program}{w:World}{H H':Hp}{h h':Heap}{a:Addr}{o:HO}
theorem ObjOk.lt (x:ObjOk P w H h a o):a < h.objs.size:=by
  cases o with
  | lst xs=>obtain ⟨_,_,_,_,e⟩:=x; exact Heap.lt_size e
  | tup xs=>obtain ⟨_,_,_,p⟩:=x; exact p.lt
  | dK kvs=>obtain ⟨_,_,_,_,o,_,_,e,_⟩:=x; exact Heap.lt_size e
  | dT kvs=>obtain ⟨_,_,_,_,o,_,_,e,_⟩:=x; exact Heap.lt_size e
  | set S n=>obtain ⟨o,_,_,_,e,_⟩:=x; exact Heap.lt_size e
  | ins C dx fs=>obtain ⟨_,_,_,e,_⟩:=x; exact Heap.lt_size e
  | own y=>obtain ⟨_,e⟩:=x; exact Heap.lt_size e
  | xd fs=>obtain ⟨_,⟨_,_,_,e,_⟩,_⟩:=x; exact Heap.lt_size e
  | rng lo hi=>obtain ⟨_,_,_,e⟩:=x; exact Heap.lt_size e
  | frz ob u=>obtain ⟨e,_⟩:=x; exact Heap.lt_size e
  | tbl ps=>exact Heap.lt_size (show h.get? a=some _ from x)
  | met f y=>exact Heap.lt_size (show h.get? a=some _ from x)
  | ext φ=>obtain ⟨_,⟨_,e⟩,_⟩:=x; exact Heap.lt_size e
theorem Paired.mapP {α β:Type}{F G:α→β→Prop}:∀ {l₁:List α}{l₂:List β},Paired F l₁ l₂→(∀ a b,F a b→G a b)→Paired G l₁ l₂
  | _,_,.nil,_=>.nil
  | _,_,.cons r t,f=>.cons (f _ _ r) (Paired.mapP t f)
theorem ObjOk.stay (x:ObjOk P w H h a o) (k:∀ b u,(b=a∨H b=some (.own a))→h.get? b=some u→h'.get? b=some u)
    (ho:∀ b,H b=some (.own a)→H' b=some (.own a)) (ht:∀ b xs,H b=some (.tup xs)→H' b=some (.tup xs)):ObjOk P w H' h' a o:=by
  induction o with
  | lst xs=>obtain ⟨z,its,n,r,e⟩:=x; exact ⟨z,its,n,r,k _ _ (.inl rfl) e⟩
  | tup xs=>obtain ⟨z,its,r,ob,e,c⟩:=x; exact ⟨z,its,r,ob,k _ _ (.inl rfl) e,c⟩
  | dK kvs=>obtain ⟨z,y,vs,r,ob,es,ep,e,c⟩:=x; exact ⟨z,y,vs,r,ob,es,ep,k _ _ (.inl rfl) e,c⟩
  | dT kvs =>
    obtain ⟨z,y,xs,r,ob,es,ep,e,c⟩:=x
    exact ⟨z,y,xs,Paired.mapP r fun p q z=>⟨z.1,ht _ _ z.2.1,z.2.2⟩,ob,es,ep,k _ _ (.inl rfl) e,c⟩
  | set S n=>obtain ⟨ob,es,ep,t,e,c⟩:=x; exact ⟨ob,es,ep,t,k _ _ (.inl rfl) e,c⟩
  | ins C dx fs =>
    obtain ⟨d,z,ne,e,mA,⟨od,es,ep,e2,c⟩,r⟩:=x
    exact ⟨ho _ d,z,ne,k _ _ (.inl rfl) e,mA,⟨od,es,ep,k _ _ (.inr d) e2,c⟩,r⟩
  | own y=>obtain ⟨ob,e⟩:=x; exact ⟨ob,k _ _ (.inl rfl) e⟩
  | xd fs=>obtain ⟨mA,⟨od,es,ep,e,c⟩,r⟩:=x; exact ⟨mA,⟨od,es,ep,k _ _ (.inl rfl) e,c⟩,r⟩
  | rng lo hi=>obtain ⟨t,u,v,e⟩:=x; exact ⟨t,u,v,k _ _ (.inl rfl) e⟩
  | frz ob u ih=>obtain ⟨e,q⟩:=x; exact ⟨k _ _ (.inl rfl) e,ih q⟩
  | tbl ps =>
    have e:h.get? a=some { cls:=.none,data:=.fields ps }:=x
    show h'.get? a=some { cls:=.none,data:=.fields ps }
    exact k a _ (.inl rfl) e
  | met f y =>
    have e:h.get? a=some (PySem.W.methodObj (.ref f) (.ref y)):=x
    show h'.get? a=some (PySem.W.methodObj (.ref f) (.ref y))
    exact k a _ (.inl rfl) e
  | ext φ=>obtain ⟨p,⟨o,e⟩,st⟩:=x; exact ⟨st _ _ p fun o q=>k _ _ (.inl rfl) q,⟨o,k _ _ (.inl rfl) e⟩,st⟩
theorem HOk.lt (x:HOk P w H h) (e:H a=some o):a < h.objs.size:=(x a o e).lt
theorem HOk.fresh (x:HOk P w H h) (e:h.objs.size≤a):H a=none:=by
  cases q:H a with
  | none=>rfl
  | some u=>exact absurd (Nat.lt_of_lt_of_le (x.lt q) e) (Nat.lt_irrefl _)
theorem HOk.kept (x:HOk P w H h) (k:∀ b u,h.get? b=some u→h'.get? b=some u):HOk P w H h':=fun a o e =>
  (x a o e).stay (fun b u _ q=>k b u q) (fun _ q=>q) fun _ _ q=>q
theorem HOk.laid (x:HOk P w H h) (k:∀ b u,h.get? b=some u→h'.get? b=some u) (hp:h.objs.size≤a) (new:ObjOk P w (upd H a o) h' a o):HOk P w (upd H a o) h':=fun b u e=>by
  have hn:=x.fresh hp
  by_cases hb:b=a
  · subst hb; rw [upd_same] at e; cases e; exact new
  · rw [upd_ne hb] at e
    exact (x b u e).stay (fun c v _ q=>k c v q) (fun c q=>by rw [upd_ne (ne_of_none q hn)]; exact q) fun c xs q=>by rw [upd_ne (ne_of_none q hn)]; exact q
end
def Rd (H:Hp) (a:Addr) (u:HO):Prop:=H a=some u∨∃ o,H a=some (.frz o u)
theorem Rd.ok {P:Program}{w:World}{H:Hp}{h:Heap}{a:Addr}{u:HO} (r:Rd H a u) (x:HOk P w H h):ObjOk P w H h a u:=by
  rcases r with r | ⟨o,r⟩
  · exact x a u r
  · obtain ⟨_,q⟩:=x a _ r
    exact q
def Mut:Option HO→Prop
  | some (.lst _)=>True
  | some (.dK _)=>True
  | some (.dT _)=>True
  | some (.set _ _)=>True
  | some (.ins _ _ _)=>True
  | some (.ext _)=>True
  | _=>False
section
variable {P:Program}{w:World}{H:Hp}{h h':Heap}{x e:Addr}{o':HO}
theorem HOk.write (ok:HOk P w H h) (mu:Mut (H x)) (he:e=x∨H e=some (.own x)) (k:∀ b u,b≠e→h.get? b=some u→h'.get? b=some u) (heo:∃ u,h'.get? e=some u)
    (new:ObjOk P w (upd H x o') h' x o'):HOk P w (upd H x o') h':=fun b u q=>by
  have nown:∀ c y,H c=some (.own y)→c≠x:=fun c y r z=>by subst z; rw [r] at mu; exact mu
  have ntup:∀ c xs,H c=some (.tup xs)→c≠x:=fun c xs r z=>by subst z; rw [r] at mu; exact mu
  by_cases hb:b=x
  · subst hb; rw [upd_same] at q; cases q; exact new
  · rw [upd_ne hb] at q
    by_cases hbe:b=e
    · have q':H b=some (.own x):=by
        rcases he with z | z
        · exact absurd (hbe.trans z) hb
        · rw [hbe]; exact z
      rw [q] at q'; cases q'
      obtain ⟨v,hv⟩:=heo
      exact ⟨v,by rw [hbe]; exact hv⟩
    · refine (ok b u q).stay (fun c v hc r=>k c v ?_ r) (fun c r=>by rw [upd_ne (nown c b r)]; exact r) fun c xs r=>by rw [upd_ne (ntup c xs r)]; exact r
      rcases hc with rfl | hc
      · exact hbe
      · rintro rfl
        rcases he with z | z
        · exact nown c b hc z
        · rw [hc] at z; cases z; exact hb rfl
end
structure Un (fs ex:List Addr) (H H':Hp) (h h':Heap):Prop where
  keep:∀ b o,h.get? b=some o→H b=none→b ∉ fs→b ∉ ex→h'.get? b=some o
  slot:∀ b o,h.get? b=some o→H b=none→b∈fs→b ∉ ex→∃ sl,h'.get? b=some { o with slots:=sl }
  free:∀ b o,h.get? b=some o→H b=none→b ∉ ex→H' b=none
  there:∀ b o,h.get? b=some o→b ∉ ex→∃ o',h'.get? b=some o'
  tups:∀ b xs,H b=some (.tup xs)→H' b=some (.tup xs)
  frzs:∀ b o u,H b=some (.frz o u)→H' b=some (.frz o u)
  tbls:∀ b ps,H b=some (.tbl ps)→∃ more,H' b=some (.tbl (ps++more))
section
variable {fs fs' ex ex':List Addr}{H H1 H2:Hp}{h h1 h2 h':Heap}{a x e:Addr}{o:HO}
theorem Un.any (u:Un fs ex H H1 h h1) {b:Addr}{ob:Obj} (q:h.get? b=some ob) (n:H b=none) (hx:b ∉ ex):∃ sl,h1.get? b=some { ob with slots:=sl }:=by
  by_cases hb:b∈fs
  · exact u.slot b ob q n hb hx
  · exact ⟨ob.slots,u.keep b ob q n hb hx⟩
theorem Un.kept (k:∀ b u,h.get? b=some u→h'.get? b=some u):Un fs ex H H h h' :=
  ⟨fun b ob q _ _ _=>k b ob q,fun b ob q _ _ _=>⟨ob.slots,k b ob q⟩,fun _ _ _ n _=>n,fun b ob q _=>⟨ob,k b ob q⟩,fun _ _ q=>q,fun _ _ _ q=>q,fun _ ps q=>⟨#[],by rw [q]; simp⟩⟩
theorem Un.refl:Un fs ex H H h h:=Un.kept fun _ _ q=>q
theorem Un.laid (k:∀ b u,h.get? b=some u→h'.get? b=some u) (hp:h.objs.size≤a) (hn:H a=none):Un fs ex H (upd H a o) h h' where
  keep:=fun b u q _ _ _=>k b u q
  slot:=fun b u q _ _ _=>⟨u.slots,k b u q⟩
  free:=fun b u q n _=>by rw [upd_ne (Nat.ne_of_lt (Nat.lt_of_lt_of_le (Heap.lt_size q) hp))]; exact n
  there:=fun b u q _=>⟨u,k b u q⟩
  tups:=fun b xs q=>by rw [upd_ne (ne_of_none q hn)]; exact q
  frzs:=fun b u xs q=>by rw [upd_ne (ne_of_none q hn)]; exact q
  tbls:=fun b ps q=>⟨#[],by rw [upd_ne (ne_of_none q hn),q]; simp⟩
theorem Un.write (mu:Mut (H x)) (he:e=x∨H e=some (.own x)) (k:∀ b u,b≠e→h.get? b=some u→h'.get? b=some u) (heo:∃ u,h'.get? e=some u):Un fs ex H (upd H x o) h h':=by
  have hx:∀ b,H b=none→b≠x:=fun b n z=>by subst z; rw [n] at mu; exact mu
  have hb:∀ b,H b=none→b≠e:=fun b n z=>by
    subst z
    rcases he with r | r
    · exact hx b n r
    · rw [n] at r; cases r
  have hm:∀ b u,H b=some u→¬ Mut (some u)→b≠x:=fun b u q nm z=>by subst z; rw [q] at mu; exact nm mu
  refine ⟨fun b u q n _ _=>k b u (hb b n) q,fun b u q n _ _=>⟨u.slots,k b u (hb b n) q⟩,fun b u q n _=>by rw [upd_ne (hx b n)]; exact n,fun b u q _=>?_,
    fun b xs q=>by rw [upd_ne (hm b _ q fun z=>z)]; exact q,fun b u xs q=>by rw [upd_ne (hm b _ q fun z=>z)]; exact q,fun b ps q=>⟨#[],by rw [upd_ne (hm b _ q fun z=>z),q]; simp⟩⟩
  by_cases hbe:b=e
  · subst hbe; exact heo
  · exact ⟨u,k b u hbe q⟩
end
def trk (h:Heap) (H:Hp):List Addr:=(List.range h.objs.size).filter fun a=>(H a).isSome
def hidT (h:Heap) (H:Hp):Heap:=PySem.W.hideAll h (trk h H)
theorem hidT_size (h:Heap) (H:Hp):(hidT h H).objs.size=h.objs.size:=PySem.W.hideAll_size _ _
theorem hidT_get {h:Heap}{H:Hp}{b:Addr}{o:Obj} (e:h.get? b=some o) (n:H b=none):(hidT h H).get? b=some o :=
  PySem.W.hideAll_get _ e fun hm=>by
    have q:(H b).isSome=true:=(List.mem_filter.mp hm).2
    rw [n] at q; simp at q
theorem of_hidT {h:Heap}{H:Hp}{b:Addr}{o:Obj} (e:(hidT h H).get? b=some o):h.get? b=some o∧H b=none:=by
  have e':h.get? b=some o:=PySem.W.of_hideAll (trk h H) e
  refine ⟨e',?_⟩
  cases q:H b with
  | none=>rfl
  | some x =>
    have hm:b∈trk h H:=List.mem_filter.mpr ⟨List.mem_range.mpr (Heap.lt_size e'),by simp [q]⟩
    have z:(hidT h H).get? b=none:=PySem.W.hideAll_none (trk h H) hm
    rw [z] at e; cases e
def allNews (g h:Heap) (L:Addr):List (Addr × Obj):=(List.range h.objs.size).filterMap fun a=>if a=L∨(g.get? a).isSome=true then none else (h.get? a).map fun o=>(a,o)
def rest (g h:Heap) (L d:Addr):List (Addr × Obj):=(allNews g h L).filter fun p=>decide (p.1≠d)
end L2
namespace L2
open PySem PySem.Spec PyProof.Rows
structure Mod (K:PySem.W.Frag) (mg:Str→Option Value) (base:Heap):Prop where
  kin:K.In base
  glob:base.Ns mainGlobals mg
  blt:∃ mb,base.Ns builtinsNs mb∧∀ x:Str,x ≠ "__name__" → mb x=bootBuiltins x
  nolimit:base.NoLimit
structure Cx where
  prog:Program
  w:World
  K:PySem.W.Frag
  mg:Str→Option Value
  base:Heap
  A:Around
  N:List Str
  s₀:Shared
  H₀:Hp
  env:Env
  outer:List Env
  stack:List Env
  ex:List Addr
  fn:Str→Bool
  calm:Bool
  pn:List (Addr × Obj)
  xe:Value→Shared→Prop
def frs (l:List Env):List Addr:=l.filterMap (·.frame)
abbrev Cx.fs (X:Cx):List Addr:=frs X.outer
def Vis (sc:Scope) (x:Str):Prop:=sc.names.lookup x=some .local∨sc.names.lookup x=some .cell∨sc.names.lookup x=some .free
def Loc (sc:Scope) (x:Str):Prop:=sc.names.lookup x=some .local∨sc.names.lookup x=some .cell
def Look (env:Env) (h:Heap) (m:Str→Option Value) (x:Str) (u:Value):Prop :=
  (env.kindOf x=some .local∧m x=some u)∨((env.kindOf x=some .cell∨env.kindOf x=some .free)∧∃ c,env.cells.lookup x=some c∧h.IsCell c (some u))
structure Cx.Ok (X:Cx):Prop where
  mod:Mod X.K X.mg X.base
  kind:X.env.scope.kind=.function
  glob:X.env.globals=mainGlobals
  blt:X.env.builtins=builtinsNs
  above:X.s₀.heap.objs.size≤X.env.locals
  inj:∀ x y c,X.env.cells.lookup x=some c→X.env.cells.lookup y=some c→x=y
  has:∀ x,(X.env.kindOf x=some .cell∨X.env.kindOf x=some .free)→∃ c,X.env.cells.lookup x=some c
  cab:∀ x c,X.fn x=true→X.env.cells.lookup x=some c→X.s₀.heap.objs.size≤c
  hd:X.calm=true→X.A.handled=none
  frames:X.A.frames=some X.stack
  stk:X.stack=X.outer∨(X.stack=X.env::X.outer∧X.env.frame=some X.env.locals)
  exf:∀ b∈X.ex,b≠X.env.locals∧∀ x c,X.env.cells.lookup x=some c→c≠b
  bs:∀ b o,X.base.get? b=some o→X.s₀.heap.get? b=some o∧X.H₀ b=none
  bsz:X.base.objs.size≤X.s₀.heap.objs.size
  noex:∀ b o,X.base.get? b=some o→b ∉ X.ex
  exfs:∀ b∈X.ex,b ∉ X.fs
  funs:X.s₀.heap.FunFrames X.base X.outer
  frf:∀ b∈X.fs,X.H₀ b=none
structure Inv (X:Cx) (pins:List (Addr × Obj)) (σ:List (Option V)) (H:Hp) (s:Shared):Prop where
  ok:X.Ok
  os:s.os=X.s₀.os
  bare:AllBare s.gens
  base:Un X.fs X.ex X.H₀ H X.s₀.heap s.heap
  loc:∃ m,s.heap.Ns X.env.locals m∧∀ (i:Nat) (x:Str) (v:V),X.N[i]?=some x→σ[i]?=some (some v)→Vis X.env.scope x→∃ u,RelV v u∧Look X.env s.heap m x u
  cell:∀ x c,X.env.cells.lookup x=some c→∃ v,s.heap.IsCell c v
  free:H X.env.locals=none
  freeC:∀ x c,X.env.cells.lookup x=some c→H c=none
  pin:∀ p∈X.pn++pins,s.heap.get? p.1=some p.2∧H p.1=none∧p.1≠X.env.locals∧p.1 ∉ X.fs∧∀ v,p.2.data≠.cell v
  hok:HOk X.prog X.w H s.heap
  len:σ.length=X.N.length
section
variable {X:Cx}{pins:List (Addr × Obj)}{σ:List (Option V)}{H H':Hp}{s:Shared}{h':Heap}
theorem Cx.Ok.nofr (ok:X.Ok) {b:Addr}{o:Obj} (e:X.base.get? b=some o):b ∉ X.fs:=fun hb=>by
  have:=(ok.funs.mem hb).1
  rw [e] at this; cases this
theorem Inv.bs (I:Inv X pins σ H s):∀ b o,X.base.get? b=some o→s.heap.get? b=some o∧H b=none:=fun b o e =>
  ⟨I.base.keep b o (I.ok.bs b o e).1 (I.ok.bs b o e).2 (I.ok.nofr e) (I.ok.noex b o e),I.base.free b o (I.ok.bs b o e).1 (I.ok.bs b o e).2 (I.ok.noex b o e)⟩
theorem Inv.bk (I:Inv X pins σ H s):∀ b o,X.base.get? b=some o→s.heap.get? b=some o:=fun b o e=>(I.bs b o e).1
theorem Inv.mod (I:Inv X pins σ H s):Mod X.K X.mg X.base:=I.ok.mod
theorem Inv.kIn (I:Inv X pins σ H s):X.K.In s.heap:=I.ok.mod.kin.keeps I.bk
theorem Inv.nolimit (I:Inv X pins σ H s):s.heap.NoLimit:=I.ok.mod.nolimit.keeps I.bk
theorem Inv.lt (I:Inv X pins σ H s):X.env.locals < s.heap.objs.size:=let ⟨_,hn,_⟩:=I.loc; hn.lt
theorem Inv.sz (I:Inv X pins σ H s):X.s₀.heap.objs.size≤s.heap.objs.size:=Nat.le_trans I.ok.above (Nat.le_of_lt I.lt)
theorem Inv.nofs (I:Inv X pins σ H s) {a:Addr} (h:s.heap.objs.size≤a):a ∉ X.fs:=fun hb=>by
  obtain ⟨_,o,ho,_⟩:=I.ok.funs.mem hb
  exact absurd (Nat.lt_of_lt_of_le (Heap.lt_size ho) (Nat.le_trans I.sz h)) (Nat.lt_irrefl _)
theorem Inv.cne (I:Inv X pins σ H s):∀ x c,X.env.cells.lookup x=some c→c≠X.env.locals:=fun x c e z=>by
  obtain ⟨v,o,ho,hd⟩:=I.cell x c e
  obtain ⟨m,⟨o',es,ep,ho',hd',_⟩,_⟩:=I.loc
  rw [z,ho'] at ho; cases ho; rw [hd'] at hd; cases hd
theorem Inv.funs (I:Inv X pins σ H s):s.heap.FunFrames X.base X.outer:=by
  have all:∀ (l:List Env),(∀ b∈frs l,b∈X.fs)→X.s₀.heap.FunFrames X.base l→s.heap.FunFrames X.base l:=by
    intro l
    induction l with
    | nil=>intro _ _; trivial
    | cons env r ih =>
      intro hs hl
      obtain ⟨hk,⟨L,o,hf,hn,ho,hd⟩,hr⟩:=hl
      have hL:L∈X.fs:=hs L (by unfold frs; rw [List.filterMap_cons,hf]; exact List.mem_cons_self)
      obtain ⟨sl,e⟩:=I.base.slot L o ho (I.ok.frf L hL) hL fun z=>I.ok.exfs L z hL
      exact ⟨hk,⟨L,_,hf,hn,e,hd⟩,ih (fun b hb=>hs b (by unfold frs; rw [List.filterMap_cons,hf]; exact List.mem_cons_of_mem _ hb)) hr⟩
  exact all X.outer (fun _ hb=>hb) I.ok.funs
theorem Inv.stack (I:Inv X pins σ H s):s.heap.FunFrames X.base X.stack:=by
  rcases I.ok.stk with e | ⟨e,hf⟩
  · rw [e]; exact I.funs
  · rw [e]
    obtain ⟨m,hn,_⟩:=I.loc
    refine .cons (by rw [I.ok.kind]; decide) hf hn ?_ I.funs
    exact Heap.get?_none_of_le (Nat.le_trans I.ok.bsz I.ok.above)
theorem Inv.stkSub (I:Inv X pins σ H s):∀ b∈frs X.stack,b∈X.env.locals::X.fs:=fun b hb=>by
  rcases I.ok.stk with e | ⟨e,hf⟩
  · rw [e] at hb; exact List.mem_cons_of_mem _ hb
  · rw [e] at hb
    unfold frs at hb
    rw [List.filterMap_cons,hf] at hb
    exact hb
theorem Inv.stkFree (I:Inv X pins σ H s):∀ b∈frs X.stack,H b=none:=fun b hb=>by
  rcases List.mem_cons.mp (I.stkSub b hb) with e | hb
  · rw [e]; exact I.free
  · obtain ⟨_,o,ho,_⟩:=I.ok.funs.mem hb
    exact I.base.free b o ho (I.ok.frf b hb) fun z=>I.ok.exfs b z hb
theorem Inv.step {g':Array GenState}{t':Nat}{d':Drawn}{ch:List Addr} (I:Inv X pins σ H s)
    (hch:∀ b∈ch,(b∈X.ex∨X.s₀.heap.objs.size≤b)∧b≠X.env.locals∧(∀ x c,X.env.cells.lookup x=some c→c≠b)∧∀ p∈X.pn++pins,p.1≠b)
    (keep:∀ b o,b≠X.env.locals→b ∉ X.fs→b ∉ ch→s.heap.get? b=some o→H b=none→h'.get? b=some o)
    (slot:∀ b o,b≠X.env.locals→b∈X.fs→b ∉ ch→s.heap.get? b=some o→H b=none→∃ sl,h'.get? b=some { o with slots:=sl }) (free:∀ b o,b ∉ ch→s.heap.get? b=some o→H b=none→H' b=none)
    (there:∀ b o,b ∉ ch→s.heap.get? b=some o→∃ o',h'.get? b=some o')
    (tups:∀ b xs,H b=some (.tup xs)→H' b=some (.tup xs)) (frzs:∀ b o u,H b=some (.frz o u)→H' b=some (.frz o u)) (tbls:∀ b ps,H b=some (.tbl ps)→∃ more,H' b=some (.tbl (ps++more)))
    (ns:∀ m,s.heap.Ns X.env.locals m→h'.Ns X.env.locals m) (hok:HOk X.prog X.w H' h') (hg:AllBare g') :
    Inv X pins σ H' { s with heap:=h',gens:=g',drawn:=d',toks:=t' }:=by
  have neL:∀ b o,X.s₀.heap.get? b=some o→b≠X.env.locals:=fun b o e=>Nat.ne_of_lt (Nat.lt_of_lt_of_le (Heap.lt_size e) I.ok.above)
  have neC:∀ b o,X.s₀.heap.get? b=some o→b ∉ X.ex→b ∉ ch:=fun b o e hx hb=>by
    rcases (hch b hb).1 with z | z
    · exact hx z
    · exact absurd (Nat.lt_of_lt_of_le (Heap.lt_size e) z) (Nat.lt_irrefl _)
  have cellK:∀ x c,X.env.cells.lookup x=some c→∀ v,s.heap.IsCell c v→h'.IsCell c v:=fun x c e v ⟨o,ho,hd⟩=>by
    have nch:c ∉ ch:=fun z=>(hch c z).2.2.1 x c e rfl
    by_cases hc:c∈X.fs
    · obtain ⟨sl,q⟩:=slot c o (I.cne x c e) hc nch ho (I.freeC x c e)
      exact ⟨_,q,hd⟩
    · exact ⟨o,keep c o (I.cne x c e) hc nch ho (I.freeC x c e),hd⟩
  refine ⟨I.ok,I.os,hg,⟨fun b o e n hb hx=>?_,fun b o e n hb hx=>?_,fun b o e n hx=>?_,fun b o e hx=>?_,fun b xs e=>tups b xs (I.base.tups b xs e),fun b o xs e=>frzs b o xs (I.base.frzs b o xs e),fun b ps e=>?_⟩,?_,fun x c e=>?_,?_,fun x c e=>?_,fun p hp=>?_,hok,I.len⟩
  · exact keep b o (neL b o e) hb (neC b o e hx) (I.base.keep b o e n hb hx) (I.base.free b o e n hx)
  · obtain ⟨sl,e1⟩:=I.base.slot b o e n hb hx
    obtain ⟨sl',e2⟩:=slot b _ (neL b o e) hb (neC b o e hx) e1 (I.base.free b o e n hx)
    exact ⟨sl',e2⟩
  · obtain ⟨o',e1⟩:=I.base.there b o e hx
    exact free b o' (neC b o e hx) e1 (I.base.free b o e n hx)
  · obtain ⟨o',e1⟩:=I.base.there b o e hx
    exact there b o' (neC b o e hx) e1
  · obtain ⟨m1,e1⟩:=I.base.tbls b ps e
    obtain ⟨m2,e2⟩:=tbls b _ e1
    exact ⟨m1++m2,by rw [e2,Array.append_assoc]⟩
  · obtain ⟨m,hn,hl⟩:=I.loc
    refine ⟨m,ns m hn,fun i x v e1 e2 e3=>?_⟩
    obtain ⟨u,r,l⟩:=hl i x v e1 e2 e3
    refine ⟨u,r,?_⟩
    rcases l with l | ⟨k,c,e,z⟩
    · exact .inl l
    · exact .inr ⟨k,c,e,cellK x c e _ z⟩
  · obtain ⟨v,z⟩:=I.cell x c e
    exact ⟨v,cellK x c e v z⟩
  · obtain ⟨m,⟨o,_,_,ho,_⟩,_⟩:=I.loc
    exact free _ o (fun z=>(hch _ z).2.1 rfl) ho I.free
  · obtain ⟨v,o,ho,hd⟩:=I.cell x c e
    exact free c o (fun z=>(hch c z).2.2.1 x c e rfl) ho (I.freeC x c e)
  · obtain ⟨e,n,ne,nf,d⟩:=I.pin p hp
    have nch:p.1 ∉ ch:=fun z=>(hch p.1 z).2.2.2 p hp rfl
    exact ⟨keep p.1 p.2 ne nf nch e n,free p.1 p.2 nch e n,ne,nf,d⟩
theorem Inv.un {t':Nat} (I:Inv X pins σ H s) (u:Un X.fs [] H H' s.heap h') (hok:HOk X.prog X.w H' h'):Inv X pins σ H' { s with heap:=h',toks:=t' }:=by
  obtain ⟨m,⟨o,es,ep,ho,r⟩,_⟩:=id I.loc
  obtain ⟨sl,hL⟩:=u.any ho I.free (by simp)
  exact I.step (g':=s.gens) (d':=s.drawn) (ch:=[]) (fun _ z=>nomatch z) (fun b o _ hb _ e n=>u.keep b o e n hb (by simp)) (fun b o _ hb _ e n=>u.slot b o e n hb (by simp)) (fun b o _ e n=>u.free b o e n (by simp)) (fun b o _ e=>u.there b o e (by simp)) u.tups u.frzs u.tbls (fun m' hm=>by
    obtain ⟨o',es',ep',ho',r'⟩:=hm
    rw [ho] at ho'; cases ho'
    exact ⟨_,es',ep',hL,r'⟩) hok I.bare
theorem Inv.call {g':Array GenState}{t':Nat}{d':Drawn}{ch:List Addr} (I:Inv X pins σ H s) (u:Un (frs X.stack) ch H H' s.heap h') (hok:HOk X.prog X.w H' h') (hg:AllBare g')
    (hch:∀ b∈ch,(b∈X.ex∨X.s₀.heap.objs.size≤b)∧b≠X.env.locals∧(∀ x c,X.env.cells.lookup x=some c→c≠b)∧∀ p∈X.pn++pins,p.1≠b) :
    Inv X pins σ H' { s with heap:=h',gens:=g',drawn:=d',toks:=t' }:=by
  obtain ⟨m,⟨o,es,ep,ho,r⟩,_⟩:=id I.loc
  obtain ⟨sl,hL⟩:=u.any ho I.free fun z=>(hch _ z).2.1 rfl
  exact I.step (ch:=ch) hch (fun b o hL hb hc e n=>u.keep b o e n (fun z=>(List.mem_cons.mp (I.stkSub b z)).elim hL hb) hc) (fun b o _ _ hc e n=>u.any e n hc) (fun b o hc e n=>u.free b o e n hc) (fun b o hc e=>u.there b o e hc) u.tups u.frzs u.tbls (fun m' hm=>by
    obtain ⟨o',es',ep',ho',r'⟩:=hm
    rw [ho] at ho'; cases ho'
    exact ⟨_,es',ep',hL,r'⟩) hok hg
theorem Inv.turned {t':Nat}{it:Addr} (I:Inv X pins σ H s) (k:∀ b o,b≠it→s.heap.get? b=some o→h'.get? b=some o) (hn:H it=none) (hL:it≠X.env.locals)
    (h1:it∈X.ex∨X.s₀.heap.objs.size≤it) (h2:∀ x c,X.env.cells.lookup x=some c→c≠it) (h3:∀ p∈X.pn++pins,p.1≠it):Inv X pins σ H { s with heap:=h',toks:=t' }:=by
  have nit:∀ b u,H b=some u→b≠it:=fun b u e z=>by rw [z,hn] at e; cases e
  refine I.step (g':=s.gens) (d':=s.drawn) (ch:=[it]) (fun b hb=>?_) (fun b o _ _ hc e _=>k b o (fun z=>hc (by simp [z])) e) (fun b o _ _ hc e _=>⟨o.slots,k b o (fun z=>hc (by simp [z])) e⟩) (fun _ _ _ _ n=>n)
    (fun b o hc e=>⟨o,k b o (fun z=>hc (by simp [z])) e⟩) (fun _ _ e=>e) (fun _ _ _ e=>e) (fun b ps e=>⟨#[],by rw [e]; simp⟩) (fun m hm=>?_) (fun b u e=>?_) I.bare
  · have e:b=it:=by simpa using hb
    subst e
    exact ⟨h1,hL,h2,h3⟩
  · obtain ⟨o,es,ep,ho,r⟩:=hm
    exact ⟨o,es,ep,k _ o (Ne.symm hL) ho,r⟩
  · refine (I.hok b u e).stay (fun c v hc q=>k c v ?_ q) (fun _ q=>q) fun _ _ q=>q
    rcases hc with z | z
    · rw [z]; exact nit b u e
    · exact nit c _ z
theorem Inv.tok (I:Inv X pins σ H s) (t:Nat):Inv X pins σ H { s with toks:=t }:=I.un (h':=s.heap) (t':=t) Un.refl I.hok
theorem Inv.kept {t':Nat} (I:Inv X pins σ H s) (k:∀ b u,s.heap.get? b=some u→h'.get? b=some u):Inv X pins σ H { s with heap:=h',toks:=t' }:=I.un (Un.kept k) (I.hok.kept k)
theorem Inv.laid {a:Addr}{o:HO}{t':Nat} (I:Inv X pins σ H s) (k:∀ b u,s.heap.get? b=some u→h'.get? b=some u) (hp:s.heap.objs.size≤a) (new:ObjOk X.prog X.w (upd H a o) h' a o) :
    Inv X pins σ (upd H a o) { s with heap:=h',toks:=t' }:=I.un (Un.laid k hp (I.hok.fresh hp)) (I.hok.laid k hp new)
theorem Inv.write {x e:Addr}{o:HO}{t':Nat} (I:Inv X pins σ H s) (mu:Mut (H x)) (he:e=x∨H e=some (.own x)) (k:∀ b u,b≠e→s.heap.get? b=some u→h'.get? b=some u) (heo:∃ u,h'.get? e=some u)
    (new:ObjOk X.prog X.w (upd H x o) h' x o):Inv X pins σ (upd H x o) { s with heap:=h',toks:=t' }:=I.un (Un.write mu he k heo) (I.hok.write mu he k heo new)
theorem Inv.pins_of {pins':List (Addr × Obj)} (I:Inv X pins σ H s) (h:∀ p∈pins',s.heap.get? p.1=some p.2∧H p.1=none∧p.1≠X.env.locals∧p.1 ∉ X.fs∧∀ v,p.2.data≠.cell v):Inv X pins' σ H s :=
  ⟨I.ok,I.os,I.bare,I.base,I.loc,I.cell,I.free,I.freeC,fun p hp=>(List.mem_append.mp hp).elim (fun z=>I.pin p (List.mem_append_left _ z)) (h p),I.hok,I.len⟩
theorem nodup_ix {N:List Str} (hN:N.Nodup) {i j:Nat}{x:Str} (a:N[i]?=some x) (b:N[j]?=some x):i=j:=by
  obtain ⟨h1,e1⟩:=List.getElem?_eq_some_iff.mp a
  obtain ⟨h2,e2⟩:=List.getElem?_eq_some_iff.mp b
  exact (List.getElem_inj hN).mp (e1.trans e2.symm)
theorem store_ok2 {M:Model}{A:Around}{E:Value→Shared→Prop}{i:Nat}{x:Str}{v:V}{u:Value}{Q:Unit→Shared→Prop} (I:Inv X pins σ H s) (hN:X.N.Nodup) (hi:X.N[i]?=some x) (hx:Loc X.env.scope x) (r:RelV v u)
    (h:∀ s',Inv X pins (σ.set i (some v)) H s'→(∃ a,Heap.SameBut a s.heap s'.heap∧(a=X.env.locals∨X.env.cells.lookup x=some a))→Q () s') (hf:X.fn x=true∨X.env.scope.names.lookup x=some .local:=by first | exact .inl rfl | exact .inr rfl | assumption):wpAny M A (storeName X.env x u) Q E s:=by
  obtain ⟨m,hn,hl⟩:=id I.loc
  have hcls:(X.env.scope.kind == .class || (X.env.scope.kind == .module && X.env.locals != X.env.globals))=false:=by rw [I.ok.kind]; rfl
  have hiσ:i < σ.length:=by rw [I.len]; exact (List.getElem?_eq_some_iff.mp hi).1
  have cne:=I.cne
  have tracked:∀ {a:Addr} {h':Heap},(∃ o,s.heap.get? a=some o∧H a=none)→Heap.SameBut a s.heap h'→HOk X.prog X.w H h':=fun {a h'} ha hs b ob e=>by
    obtain ⟨_,_,hfree⟩:=ha
    refine (I.hok b ob e).stay (fun c w' hc q=>(hs.2 c ?_).trans q) (fun _ q=>q) fun _ _ q=>q
    rintro rfl
    rcases hc with rfl | hc
    · rw [hfree] at e; cases e
    · rw [hfree] at hc; cases hc
  rcases hx with hk | hk
  · refine wpAny_storeName_local hk hn (fun h' hn' hs=>?_) hcls
    obtain ⟨oL,_,_,hoL,_⟩:=id hn
    refine h _ ⟨I.ok,I.os,I.bare,⟨fun b o e n hb hx=>?_,fun b o e n hb hx=>?_,I.base.free,fun b o e hx=>?_,I.base.tups,I.base.frzs,I.base.tbls⟩,⟨_,hn',fun j y v' e1 e2 e3=>?_⟩,fun y c e=>?_,I.free,I.freeC,fun p hp=>?_,tracked ⟨oL,hoL,I.free⟩ hs,by simpa using I.len⟩ ⟨_,hs,.inl rfl⟩
    · exact (hs.2 b (Nat.ne_of_lt (Nat.lt_of_lt_of_le (Heap.lt_size e) I.ok.above))).trans (I.base.keep b o e n hb hx)
    · obtain ⟨sl,e1⟩:=I.base.slot b o e n hb hx
      exact ⟨sl,(hs.2 b (Nat.ne_of_lt (Nat.lt_of_lt_of_le (Heap.lt_size e) I.ok.above))).trans e1⟩
    · obtain ⟨o',e1⟩:=I.base.there b o e hx
      exact ⟨o',(hs.2 b (Nat.ne_of_lt (Nat.lt_of_lt_of_le (Heap.lt_size e) I.ok.above))).trans e1⟩
    · by_cases hj:j=i
      · subst hj
        rw [hi] at e1; cases e1
        rw [List.getElem?_set_self hiσ] at e2
        cases e2
        exact ⟨u,r,.inl ⟨hk,by simp⟩⟩
      · rw [List.getElem?_set_ne (Ne.symm hj)] at e2
        obtain ⟨u',r',q⟩:=hl j y v' e1 e2 e3
        refine ⟨u',r',?_⟩
        rcases q with ⟨k,e⟩ | ⟨k,c,e,z⟩
        · refine .inl ⟨k,?_⟩
          have:y≠x:=fun e=>hj (nodup_ix hN e1 (e ▸ hi))
          simp [this,e]
        · exact .inr ⟨k,c,e,z.sameBut hs (cne y c e)⟩
    · obtain ⟨w',z⟩:=I.cell y c e
      exact ⟨w',z.sameBut hs (cne y c e)⟩
    · obtain ⟨e,n,ne,nf,d⟩:=I.pin p hp
      exact ⟨(hs.2 p.1 ne).trans e,n,ne,nf,d⟩
  · have hfn:X.fn x=true:=by
      rcases hf with z | z
      · exact z
      · rw [z] at hk; cases hk
    obtain ⟨c,hc⟩:=I.ok.has x (.inl hk)
    obtain ⟨w',z⟩:=I.cell x c hc
    refine wpAny_storeName_cell I.ok.kind hk hc z (fun h' hc' hs=>?_)
    obtain ⟨oc,hoc,hocd⟩:=id z
    refine h { s with heap:=h' } ⟨I.ok,I.os,I.bare,⟨fun b o e n hb hx=>?_,fun b o e n hb hx=>?_,I.base.free,fun b o e hx=>?_,I.base.tups,I.base.frzs,I.base.tbls⟩,⟨m,hn.sameBut hs (Ne.symm (cne x c hc)),fun j y v' e1 e2 e3=>?_⟩,fun y c' e=>?_,I.free,I.freeC,fun p hp=>?_,tracked ⟨oc,hoc,I.freeC x c hc⟩ hs,by simpa using I.len⟩ ⟨c,hs,.inr hc⟩
    · exact (hs.2 b (Nat.ne_of_lt (Nat.lt_of_lt_of_le (Heap.lt_size e) (I.ok.cab x c hfn hc)))).trans (I.base.keep b o e n hb hx)
    · obtain ⟨sl,e1⟩:=I.base.slot b o e n hb hx
      exact ⟨sl,(hs.2 b (Nat.ne_of_lt (Nat.lt_of_lt_of_le (Heap.lt_size e) (I.ok.cab x c hfn hc)))).trans e1⟩
    · obtain ⟨o',e1⟩:=I.base.there b o e hx
      exact ⟨o',(hs.2 b (Nat.ne_of_lt (Nat.lt_of_lt_of_le (Heap.lt_size e) (I.ok.cab x c hfn hc)))).trans e1⟩
    · by_cases hj:j=i
      · subst hj
        rw [hi] at e1; cases e1
        rw [List.getElem?_set_self hiσ] at e2
        cases e2
        exact ⟨u,r,.inr ⟨.inl hk,c,hc,hc'⟩⟩
      · rw [List.getElem?_set_ne (Ne.symm hj)] at e2
        obtain ⟨u',r',q⟩:=hl j y v' e1 e2 e3
        refine ⟨u',r',?_⟩
        rcases q with q | ⟨k,c',e,z'⟩
        · exact .inl q
        · refine .inr ⟨k,c',e,z'.sameBut hs ?_⟩
          rintro rfl
          exact hj (nodup_ix hN e1 (I.ok.inj _ _ _ e hc ▸ hi))
    · by_cases hcc:c'=c
      · subst hcc; exact ⟨_,hc'⟩
      · obtain ⟨w2,z2⟩:=I.cell y c' e
        exact ⟨w2,z2.sameBut hs hcc⟩
    · obtain ⟨e,n,ne,nf,d⟩:=I.pin p hp
      refine ⟨(hs.2 p.1 ?_).trans e,n,ne,nf,d⟩
      intro q
      rw [q,hoc] at e
      have q':oc=p.2:=Option.some.inj e
      exact d w' (by rw [← q']; exact hocd)
theorem store_ok {M:Model}{A:Around}{E:Value→Shared→Prop}{i:Nat}{x:Str}{v:V}{u:Value}{Q:Unit→Shared→Prop} (I:Inv X pins σ H s) (hN:X.N.Nodup) (hi:X.N[i]?=some x) (hx:Loc X.env.scope x) (r:RelV v u)
    (h:∀ s',Inv X pins (σ.set i (some v)) H s'→Q () s') (hf:X.fn x=true∨X.env.scope.names.lookup x=some .local:=by first | exact .inl rfl | exact .inr rfl | assumption):wpAny M A (storeName X.env x u) Q E s :=
  store_ok2 I hN hi hx r (fun s' I' _=>h s' I') hf
theorem Inv.call' {s':Shared}{ch:List Addr} (I:Inv X pins σ H s) (ho:s'.os=s.os) (u:Un (frs X.stack) ch H H' s.heap s'.heap) (hok:HOk X.prog X.w H' s'.heap) (hg:AllBare s'.gens)
    (hch:∀ b∈ch,(b∈X.ex∨X.s₀.heap.objs.size≤b)∧b≠X.env.locals∧(∀ x c,X.env.cells.lookup x=some c→c≠b)∧∀ p∈X.pn++pins,p.1≠b):Inv X pins σ H' s':=by
  obtain ⟨h',g',d',t',o'⟩:=s'
  have e:o'=s.os:=ho
  subst e
  exact I.call (g':=g') (t':=t') (d':=d') u hok hg hch
end
abbrev XK:=Value→Option Addr→Hp→Prop
abbrev St:=List (Option V)
abbrev VK:=V→Hp→Prop
abbrev TE:=St→Hp→VK→Prop
abbrev TT:=St→Hp→(Bool→Hp→Prop)→Prop
abbrev TA:=St→Hp→(List V→Hp→Prop)→Prop
structure Ends where
  nx:St→Hp→Prop
  rt:VK
  bk:St→Hp→Prop:=fun _ _=>False
  ct:St→Hp→Prop:=fun _ _=>False
abbrev TS:=Ends→St→Hp→Prop
def EP (X:Cx) (pins:List (Addr × Obj)) (σ:St) (Q:VK) (u:Value) (s':Shared):Prop:=∃ v H',Inv X pins σ H' s'∧RelV v u∧Q v H'
def TP (X:Cx) (pins:List (Addr × Obj)) (σ:St) (Q:Bool→Hp→Prop) (b:Bool) (s':Shared):Prop:=∃ H',Inv X pins σ H' s'∧Q b H'
def AP (X:Cx) (pins:List (Addr × Obj)) (σ:St) (Q:List V→Hp→Prop) (us:List Value) (s':Shared):Prop:=∃ vs H',Inv X pins σ H' s'∧Vals vs us∧Q vs H'
def SP (X:Cx) (pins:List (Addr × Obj)) (D:Ends) (f:Flow) (s':Shared):Prop :=
  match f with
  | .next=>∃ σ' H',Inv X pins σ' H' s'∧D.nx σ' H'
  | .brk=>∃ σ' H',Inv X pins σ' H' s'∧D.bk σ' H'
  | .cont=>∃ σ' H',Inv X pins σ' H' s'∧D.ct σ' H'
  | .ret u=>∃ v σ' H',Inv X pins σ' H' s'∧RelV v u∧D.rt v H'
def PE (X:Cx) (e:Expr) (t:TE):Prop :=
  ∀ (pins:List (Addr × Obj)) (s:Shared) (σ:St) (H:Hp) (Q:VK),Inv X pins σ H s→t σ H Q→wpAny (model X.prog X.w) X.A (eval e X.env) (EP X pins σ Q) X.xe s
def PT (X:Cx) (e:Expr) (t:TT):Prop :=
  ∀ (pins:List (Addr × Obj)) (s:Shared) (σ:St) (H:Hp) (Q:Bool→Hp→Prop),Inv X pins σ H s→t σ H Q→wpAny (model X.prog X.w) X.A (isTrue e X.env (eval e X.env)) (TP X pins σ Q) X.xe s
def PW (X:Cx) (e:Expr) (t:TT):Prop :=
  ∀ (whole:Sem Value) (pins:List (Addr × Obj)) (s:Shared) (σ:St) (H:Hp) (Q:Bool→Hp→Prop),Inv X pins σ H s→t σ H Q→wpAny (model X.prog X.w) X.A (isTrue e X.env whole) (TP X pins σ Q) X.xe s
theorem PW.pt {X:Cx}{e:Expr}{t:TT} (h:PW X e t):PT X e t:=h _
def PA (X:Cx) (es:List Expr) (t:TA):Prop :=
  ∀ (pos:Pos) (pins:List (Addr × Obj)) (s:Shared) (σ:St) (H:Hp) (Q:List V→Hp→Prop),Inv X pins σ H s→t σ H Q→wpAny (model X.prog X.w) X.A (spliced (backTo pos (starEach es X.env))) (AP X pins σ Q) X.xe s
def PS (X:Cx) (st:Stmt) (t:TS):Prop :=
  ∀ (pins:List (Addr × Obj)) (s:Shared) (σ:St) (H:Hp) (D:Ends),Inv X pins σ H s→t D σ H→wpAny (model X.prog X.w) X.A (exec st X.env) (SP X pins D) X.xe s
def PSs (X:Cx) (st:List Stmt) (t:TS):Prop :=
  ∀ (pins:List (Addr × Obj)) (s:Shared) (σ:St) (H:Hp) (D:Ends),Inv X pins σ H s→t D σ H→wpAny (model X.prog X.w) X.A (execs st X.env) (SP X pins D) X.xe s
theorem thn {α:Type}{t:Sem α}{Q Q':α→Shared→Prop}{M:Model}{A:Around}{E:Value→Shared→Prop}{s:Shared} (h:wpAny M A t Q E s) (hQ:∀ a s,Q a s→Q' a s):wpAny M A t Q' E s:=wpAny_mono h hQ fun _ _ x=>x
end L2
namespace L2
open PySem PySem.Spec PyProof.Rows
section
variable {X:Cx}
def tVar (i:Nat):TE:=fun σ H Q=>∃ v,σ[i]?=some (some v)∧Q v H
def tC (v:V):TE:=fun _ H Q=>Q v H
theorem pe_var {i:Nat}{x:Str}{pos:Pos} (hN:X.N[i]?=some x) (hv:Vis X.env.scope x) (hd:(x == ("__debug__" : Str))=false:=by decide) (hcd:(x == ("__classdict__" : Str))=false:=by decide):PE X (.Name x pos) (tVar i):=by
  intro pins s σ H Q I h
  obtain ⟨v,e,h⟩:=h
  obtain ⟨m,hn,hl⟩:=I.loc
  obtain ⟨u,r,l⟩:=hl i x v hN e hv
  have fin:EP X pins σ Q u s:=⟨v,H,I,r,h⟩
  rcases l with ⟨hk,hm⟩ | ⟨hk,c,hc,hcell⟩
  · exact wpAny_Name (wpAny_loadName_local I.ok.kind hk hn hm fin) hd
  · rcases hk with hk | hk
    · exact wpAny_Name (wpAny_loadName_cell I.ok.kind hk hc hcell fin) hd
    · exact wpAny_Name (wpAny_loadName_free I.ok.kind hk hc hcell fin hcd) hd
theorem pe_int {i j pos}:PE X (.Constant (.int i) j pos) (tC (.int i)):=fun _ _ _ H _ I h=>wpAny_Constant_int ⟨.int i,H,I.tok _,⟨_,rfl⟩,h⟩
theorem pe_bl {b j pos}:PE X (.Constant (.bool b) j pos) (tC (.bl b)):=fun _ _ _ H _ I h=>Constant_bool ⟨.bl b,H,I,rfl,h⟩
theorem pe_non {j pos}:PE X (.Constant .none j pos) (tC .non):=fun _ _ _ H _ I h=>Constant_none ⟨.non,H,I,rfl,h⟩
theorem pe_str {x j pos}:PE X (.Constant (.str x) j pos) (tC (.str x)):=fun _ _ _ H _ I h=>Calls.Constant_str ⟨.str x,H,I.tok _,⟨_,rfl⟩,h⟩
def Gl (X:Cx) (x:Str):Prop:=X.env.kindOf x=some .globalImplicit
theorem ld_glob {E:Value→Shared→Prop}{pins:List (Addr × Obj)}{s:Shared}{σ:St}{H:Hp}{x:Str}{u:Value}{pos:Pos}{Q:Value→Shared→Prop} (I:Inv X pins σ H s) (hg:Gl X x) (hm:X.mg x=some u) (h:Q u s)
    (hd:(x == ("__debug__" : Str))=false:=by decide):wpAny (model X.prog X.w) X.A (eval (.Name x pos) X.env) Q E s :=
  Calls.Name_function_global I.ok.kind hg (Calls.loadGlobal_global (by rw [I.ok.glob]; exact I.mod.glob.keeps I.bk) hm h) hd
theorem ld_blt {E:Value→Shared→Prop}{pins:List (Addr × Obj)}{s:Shared}{σ:St}{H:Hp}{x:Str}{u:Value}{pos:Pos}{Q:Value→Shared→Prop} (I:Inv X pins σ H s) (hg:Gl X x) (hm:X.mg x=none) (hv:bootBuiltins x=some u) (h:Q u s)
    (hn:x ≠ "__name__" := by decide) (hd:(x == ("__debug__" : Str))=false:=by decide):wpAny (model X.prog X.w) X.A (eval (.Name x pos) X.env) Q E s:=by
  obtain ⟨mb,h1,h2⟩:=I.mod.blt
  exact Calls.Name_function_global I.ok.kind hg (Calls.loadGlobal_builtin (by rw [I.ok.glob]; exact I.mod.glob.keeps I.bk) hm (by rw [I.ok.blt]; exact h1.keeps I.bk) ((h2 x hn).trans hv) h) hd
theorem pe_glob {x:Str}{v:V}{u:Value}{pos:Pos} (hg:Gl X x) (hm:X.mg x=some u) (r:RelV v u) (hd:(x == ("__debug__" : Str))=false:=by decide):PE X (.Name x pos) (tC v) :=
  fun _ _ _ H _ I h=>ld_glob I hg hm ⟨v,H,I,r,h⟩ hd
theorem pe_bltn {x:Str}{v:V}{u:Value}{pos:Pos} (hg:Gl X x) (hm:X.mg x=none) (hv:bootBuiltins x=some u) (r:RelV v u) (hn:x ≠ "__name__" := by decide) (hd:(x == ("__debug__" : Str))=false:=by decide):PE X (.Name x pos) (tC v) :=
  fun _ _ _ H _ I h=>ld_blt I hg hm hv ⟨v,H,I,r,h⟩ hn hd
variable {a b:Expr}{ta tb:TE}{pos:Pos}
def PC (X:Cx) (op:CmpOp) (a b:Expr) (t:TE):Prop :=
  ∀ (pins:List (Addr × Obj)) (s:Shared) (σ:St) (H:Hp) (Q:VK),Inv X pins σ H s→t σ H Q →
    wpAny (model X.prog X.w) X.A (eval a X.env) (fun v s₁=>wpAny (model X.prog X.w) X.A (eval b X.env) (fun u s₂=>wpAny (model X.prog X.w) X.A (compareOp op v u) (EP X pins σ Q) X.xe s₂) X.xe s₁) X.xe s
theorem nobehind (b:Expr) {op:CmpOp} (h:op≠.In) (h2:op≠.NotIn):behindInMarks op b=false:=by
  have e1:(op == CmpOp.In)=false:=by cases op <;> first | rfl | exact absurd rfl h
  have e2:(op == CmpOp.NotIn)=false:=by cases op <;> first | rfl | exact absurd rfl h2
  cases b <;> simp [behindInMarks,e1,e2]
def tIsN (ta:TE):TE:=fun σ H Q=>ta σ H fun x H1=>Q (.bl (decide (x=.non))) H1
def tNotN (ta:TE):TE:=fun σ H Q=>ta σ H fun x H1=>Q (.bl (!decide (x=.non))) H1
theorem RelV.none_iff {x:V}{v:Value} (r:RelV x v):(v == Value.none)=decide (x=.non):=by
  cases x with
  | non=>cases r; rfl
  | bl _=>cases r; rfl
  | int _=>obtain ⟨t,rfl⟩:=r; rfl
  | str _=>obtain ⟨t,rfl⟩:=r; rfl
  | byt _=>obtain ⟨t,rfl⟩:=r; rfl
  | flt _=>obtain ⟨t,rfl⟩:=r; rfl
  | ref _=>cases r; rfl
  | ty _=>cases r; rfl
theorem pc_isN {j pos'} (ha:PE X a ta):PC X .Is a (.Constant .none j pos') (tIsN ta):=by
  intro pins s σ H Q I h
  refine thn (ha pins s σ H _ I h) fun v s1 ⟨x,H1,I1,r1,q1⟩=>?_
  exact Constant_none (is_none_gen ⟨.bl _,H1,I1,by rw [r1.none_iff]; rfl,q1⟩)
theorem pc_notN {j pos'} (ha:PE X a ta):PC X .IsNot a (.Constant .none j pos') (tNotN ta):=by
  intro pins s σ H Q I h
  refine thn (ha pins s σ H _ I h) fun v s1 ⟨x,H1,I1,r1,q1⟩=>?_
  exact Constant_none (isnot_none_gen ⟨.bl _,H1,I1,by rw [r1.none_iff]; rfl,q1⟩)
def tB (t:TE):TT:=fun σ H Q=>t σ H fun x H1=>∃ c,x=.bl c∧Q c H1
theorem pe_cmp {op:CmpOp}{t:TE} (h:PC X op a b t) (h1:behindInMarks op b=false:=by first | exact nobehind _ (by decide) (by decide) | rfl):PE X (.Compare a [op] [b] pos) t:=fun pins s σ H Q I hw=>wpAny_Compare1 (h pins s σ H Q I hw) h1
theorem pt_cmp {op:CmpOp}{t:TE} (h:PC X op a b t) (h1:behindInMarks op b=false:=by first | exact nobehind _ (by decide) (by decide) | rfl):PT X (.Compare a [op] [b] pos) (tB t):=by
  intro pins s σ H Q I hw
  refine wpAny_isTrue_Compare1 (thn (h pins s σ H _ I hw) fun v s1 h1=>thn h1 fun u s2 h2=>thn h2 fun c s3 ⟨x,H1,I1,r1,q1⟩=>?_) h1
  obtain ⟨d,rfl,q⟩:=q1
  cases r1
  exact wpAny_truthy_bool ⟨H1,I1,q⟩
theorem pt_val {e:Expr}{t:TE} (h:PE X e t) (he:∀ whole,isTrue e X.env whole=(do let v ← whole; standAt e.pos; holding [v] (truthy v)):=by intro _; rfl):PT X e (tB t):=by
  intro pins s σ H Q I hw
  refine isTrue_plain (thn (h pins s σ H _ I hw) fun v s1 ⟨x,H1,I1,r1,q1⟩=>?_) (he _)
  obtain ⟨d,rfl,q⟩:=q1
  cases r1
  exact wpAny_truthy_bool ⟨H1,I1,q⟩
variable {tA tB':TT}{rest:List Expr}
def tAnd (t u:TT):TT:=fun σ H Q=>t σ H fun c H1=>if c=true then u σ H1 Q else Q false H1
def tOr (t u:TT):TT:=fun σ H Q=>t σ H fun c H1=>if c=true then Q true H1 else u σ H1 Q
def tNot (t:TT):TT:=fun σ H Q=>t σ H fun c H1=>Q (!c) H1
theorem pw_and1 (ha:PT X a tA):PW X (.BoolOp .And [a] pos) tA:=by
  intro wh pins s σ H Q I h
  refine isTrue_and (thn (ha pins s σ H Q I h) fun c s1 e=>?_)
  cases c with
  | true=>exact isTrue_and_nil e
  | false=>exact e
theorem pw_or1 (ha:PT X a tA):PW X (.BoolOp .Or [a] pos) tA:=by
  intro wh pins s σ H Q I h
  refine isTrue_or (thn (ha pins s σ H Q I h) fun c s1 e=>?_)
  cases c with
  | false=>exact isTrue_or_nil e
  | true=>exact e
theorem pw_and (ha:PT X a tA) (hb:PW X (.BoolOp .And (b::rest) pos) tB'):PW X (.BoolOp .And (a::b::rest) pos) (tAnd tA tB'):=by
  intro wh pins s σ H Q I h
  refine isTrue_and (thn (ha pins s σ H _ I h) fun c s1 ⟨H1,I1,q1⟩=>?_)
  cases c with
  | true=>exact hb wh pins s1 σ H1 Q I1 q1
  | false=>exact ⟨H1,I1,q1⟩
theorem pw_or (ha:PT X a tA) (hb:PW X (.BoolOp .Or (b::rest) pos) tB'):PW X (.BoolOp .Or (a::b::rest) pos) (tOr tA tB'):=by
  intro wh pins s σ H Q I h
  refine isTrue_or (thn (ha pins s σ H _ I h) fun c s1 ⟨H1,I1,q1⟩=>?_)
  cases c with
  | true=>exact ⟨H1,I1,q1⟩
  | false=>exact hb wh pins s1 σ H1 Q I1 q1
theorem pt_not (ha:PT X a tA):PT X (.UnaryOp .Not a pos) (tNot tA):=by
  intro pins s σ H Q I h
  exact isTrue_not (ha pins s σ H (fun c H1=>Q (!c) H1) I h)
def tAndV (ta tb:TE):TE:=fun σ H Q=>ta σ H fun x H1=>∃ c,x=.bl c∧if c=true then tb σ H1 Q else Q (.bl false) H1
def tNotV (ta:TE):TE:=fun σ H Q=>ta σ H fun x H1=>∃ c,x=.bl c∧Q (.bl (!c)) H1
theorem pe_one {op}{t:TE} (h:PE X a t):PE X (.BoolOp op [a] pos) t:=fun pins s σ H Q I hw=>BoolOp_one (h pins s σ H Q I hw)
theorem pe_and (ha:PE X a ta) (hb:PE X (.BoolOp .And (b::rest) pos) tb):PE X (.BoolOp .And (a::b::rest) pos) (tAndV ta tb):=by
  intro pins s σ H Q I h
  refine BoolOp_and (thn (ha pins s σ H _ I h) fun v s1 ⟨x,H1,I1,r1,q1⟩=>?_)
  obtain ⟨c,rfl,q1⟩:=q1
  cases r1
  refine wpAny_truthy_bool ?_
  cases c with
  | true=>exact hb pins s1 σ H1 Q I1 q1
  | false=>exact ⟨.bl false,H1,I1,rfl,q1⟩
theorem pe_not (ha:PE X a ta):PE X (.UnaryOp .Not a pos) (tNotV ta):=by
  intro pins s σ H Q I h
  refine UnaryOp_ (thn (ha pins s σ H _ I h) fun v s1 ⟨x,H1,I1,r1,q1⟩=>?_)
  obtain ⟨c,rfl,q1⟩:=q1
  cases r1
  exact not_of (wpAny_truthy_bool ⟨.bl (!c),H1,I1,rfl,q1⟩)
def tIf (t:TT) (ta tb:TE):TE:=fun σ H Q=>t σ H fun c H1=>if c=true then ta σ H1 Q else tb σ H1 Q
theorem pe_ifExp {c:Expr} (hc:PT X c tA) (ha:PE X a ta) (hb:PE X b tb):PE X (.IfExp c a b pos) (tIf tA ta tb):=by
  intro pins s σ H Q I h
  refine wpAny_IfExp (thn (hc pins s σ H _ I h) fun d s1 ⟨H1,I1,q1⟩=>?_)
  cases d with
  | true=>exact ha pins s1 σ H1 Q I1 q1
  | false=>exact hb pins s1 σ H1 Q I1 q1
end
end L2
namespace L2
open PySem PySem.Spec PyProof.Rows
def SqL (K:PySem.W.Frag) (H:Hp) (a:Addr) (xs:List V):Prop :=
  Rd H a (.lst xs) ∨
    ∃ (o:Obj) (its:Array Value) (n:Nat),K.lookup a=some o∧o.cls=.type "list" ∧ o.dict=none∧o.data=.seq its n∧its.size≤sizeLine∧Vals xs its.toList
def SqT (K:PySem.W.Frag) (H:Hp) (a:Addr) (xs:List V):Prop :=
  Rd H a (.tup xs) ∨
    ∃ (o:Obj) (its:Array Value) (n:Nat),K.lookup a=some o∧o.cls=.type "tuple" ∧ o.data=.seq its n∧its.size≤sizeLine∧Vals xs its.toList
def absV:Value→Option V
  | .none=>some .non
  | .bool b=>some (.bl b)
  | .int i _=>some (.int i)
  | .str x _=>some (.str x)
  | .bytes b _=>some (.byt b)
  | .float b _=>some (.flt b)
  | .ref a=>some (.ref a)
  | .type n=>some (.ty n)
  | _=>none
theorem RelV.abs {x:V}{u:Value} (r:RelV x u):absV u=some x:=by
  cases x with
  | non=>cases r; rfl
  | bl _=>cases r; rfl
  | int _=>obtain ⟨t,rfl⟩:=r; rfl
  | str _=>obtain ⟨t,rfl⟩:=r; rfl
  | byt _=>obtain ⟨t,rfl⟩:=r; rfl
  | flt _=>obtain ⟨t,rfl⟩:=r; rfl
  | ref _=>cases r; rfl
  | ty _=>cases r; rfl
theorem RelV.inj {x y:V}{u:Value} (r:RelV x u) (q:RelV y u):x=y:=Option.some.inj (r.abs.symm.trans q.abs)
theorem Vals.inj:∀ {xs ys:List V}{us:List Value},Vals xs us→Vals ys us→xs=ys
  | _,_,_,.nil,.nil=>rfl
  | _,_,_,.cons r t,.cons r' t'=>by rw [r.inj r',Vals.inj t t']
section
variable {X:Cx}{pins:List (Addr × Obj)}{σ:St}{H:Hp}{s:Shared}{a:Addr}{xs ys:List V}
theorem SqL.of {K:PySem.W.Frag} (h:H a=some (.lst xs)):SqL K H a xs:=.inl (.inl h)
theorem SqT.of {K:PySem.W.Frag} (h:H a=some (.tup xs)):SqT K H a xs:=.inl (.inl h)
theorem Inv.list (I:Inv X pins σ H s) (h:SqL X.K H a xs):∃ its:List Value,Vals xs its∧PlainL s.heap a its.toArray∧xs.length≤sizeLine:=by
  rcases h with h | ⟨o,its,n,hk,hc,hd,hs,hz,r⟩
  · obtain ⟨z,its,n,r,e⟩:=h.ok I.hok
    exact ⟨its,r,⟨_,n,e,rfl,rfl,rfl⟩,z⟩
  · refine ⟨its.toList,r,⟨o,n,I.kIn a o hk,hc,hd,by simpa using hs⟩,?_⟩
    have e:=r.length
    simp only [Array.length_toList] at e
    omega
theorem Inv.tuple (I:Inv X pins σ H s) (h:SqT X.K H a xs):∃ its:List Value,Vals xs its∧IsTup s.heap a its.toArray∧xs.length≤sizeLine:=by
  rcases h with h | ⟨o,its,n,hk,hc,hs,hz,r⟩
  · obtain ⟨z,its,r,p⟩:=h.ok I.hok
    exact ⟨its,r,p,z⟩
  · refine ⟨its.toList,r,⟨o,I.kIn a o hk,hc,n,by simpa using hs⟩,?_⟩
    have e:=r.length
    simp only [Array.length_toList] at e
    omega
theorem Inv.list_inj (I:Inv X pins σ H s) (h:SqL X.K H a xs) (h':SqL X.K H a ys):xs=ys:=by
  obtain ⟨its,r,⟨o,n,e,_,_,d⟩,_⟩:=I.list h
  obtain ⟨its',r',⟨o',n',e',_,_,d'⟩,_⟩:=I.list h'
  rw [e] at e'; cases e'
  rw [d] at d'
  injection d' with d1 _
  have:its=its':=by simpa using congrArg Array.toList d1
  subst this
  exact r.inj r'
theorem Inv.tuple_inj (I:Inv X pins σ H s) (h:SqT X.K H a xs) (h':SqT X.K H a ys):xs=ys:=by
  obtain ⟨its,r,⟨o,e,_,n,d⟩,_⟩:=I.tuple h
  obtain ⟨its',r',⟨o',e',_,n',d'⟩,_⟩:=I.tuple h'
  rw [e] at e'; cases e'
  rw [d] at d'
  injection d' with d1 _
  have:its=its':=by simpa using congrArg Array.toList d1
  subst this
  exact r.inj r'
end
abbrev Cx.wish (X:Cx) (E:Value→Shared→Prop):Cx:={ X with xe:=E }
abbrev Cx.nox (X:Cx):Cx:=X.wish fun _ _=>False
theorem Cx.Ok.wish {X:Cx} (ok:X.Ok) (E:Value→Shared→Prop):(X.wish E).Ok :=
  ⟨ok.mod,ok.kind,ok.glob,ok.blt,ok.above,ok.inj,ok.has,ok.cab,ok.hd,ok.frames,ok.stk,ok.exf,ok.bs,ok.bsz,ok.noex,ok.exfs,ok.funs,ok.frf⟩
theorem Cx.Ok.unwish {X:Cx}{E:Value→Shared→Prop} (ok:(X.wish E).Ok):X.Ok :=
  ⟨ok.mod,ok.kind,ok.glob,ok.blt,ok.above,ok.inj,ok.has,ok.cab,ok.hd,ok.frames,ok.stk,ok.exf,ok.bs,ok.bsz,ok.noex,ok.exfs,ok.funs,ok.frf⟩
section
variable {X:Cx}{pins:List (Addr × Obj)}{σ:St}{H:Hp}{s:Shared}{E:Value→Shared→Prop}
theorem Inv.wish (I:Inv X pins σ H s) (E:Value→Shared→Prop):Inv (X.wish E) pins σ H s:=⟨I.ok.wish E,I.os,I.bare,I.base,I.loc,I.cell,I.free,I.freeC,I.pin,I.hok,I.len⟩
theorem Inv.unwish (I:Inv (X.wish E) pins σ H s):Inv X pins σ H s:=⟨I.ok.unwish,I.os,I.bare,I.base,I.loc,I.cell,I.free,I.freeC,I.pin,I.hok,I.len⟩
theorem SP.unwish {D:Ends}{f:Flow}{s':Shared} (h:SP (X.wish E) pins D f s'):SP X pins D f s':=by
  cases f with
  | next=>obtain ⟨σ',H',I,q⟩:=h; exact ⟨σ',H',I.unwish,q⟩
  | brk=>obtain ⟨σ',H',I,q⟩:=h; exact ⟨σ',H',I.unwish,q⟩
  | cont=>obtain ⟨σ',H',I,q⟩:=h; exact ⟨σ',H',I.unwish,q⟩
  | ret u=>obtain ⟨v,σ',H',I,r,q⟩:=h; exact ⟨v,σ',H',I.unwish,r,q⟩
theorem PSs.nox {st:List Stmt}{t:TS} (h:PSs X.nox st t):PSs X st t:=fun pins s σ H D I hw =>
  wpAny_mono (h pins s σ H D (I.wish _) hw) (fun _ _ q=>q.unwish) fun _ _ z=>False.elim z
end
section
variable {X:Cx}{st:Stmt}{rest:List Stmt}{t u:TS}{e:Expr}{te:TE}{pos:Pos}
def tNext:TS:=fun D σ H=>D.nx σ H
def tSeq (t u:TS):TS:=fun D σ H=>t { D with nx:=u D } σ H
theorem pss_nil:PSs X [] tNext:=fun _ _ σ H _ I h=>wpAny_execs_nil ⟨σ,H,I,h⟩
theorem pss_cons (h1:PS X st t) (h2:PSs X rest u):PSs X (st::rest) (tSeq t u):=by
  intro pins s σ H D I h
  refine wpAny_execs_cons (thn (h1 pins s σ H { D with nx:=u D } I h) fun f s1 q=>?_)
  cases f with
  | next =>
    obtain ⟨σ',H',I',q⟩:=q
    exact h2 pins s1 σ' H' D I' q
  | ret v=>exact q
  | brk=>exact q
  | cont=>exact q
theorem pss_one (h1:PS X st t):PSs X [st] t:=by
  intro pins s σ H D I h
  refine wpAny_execs_cons (thn (h1 pins s σ H D I h) fun f s1 q=>?_)
  cases f with
  | next=>exact wpAny_execs_nil q
  | ret v=>exact q
  | brk=>exact q
  | cont=>exact q
theorem Inv.quiet {pins:List (Addr × Obj)}{σ:St}{H:Hp}{s:Shared} (I:Inv X pins σ H s):interactive X.env=false:=by simp [interactive,I.ok.kind]
def tDrop (te:TE):TS:=fun D σ H=>te σ H fun _ H1=>D.nx σ H1
theorem ps_expr (he:PE X e te) (hs:swapsWith e none pos.line X.env=pure false:=by rfl):PS X (.Expr e pos) (tDrop te):=by
  intro pins s σ H D I h
  exact wpAny_Expr_any (thn (he pins s σ H _ I h) fun v s1 ⟨x,H1,I1,r1,q1⟩=>⟨σ,H1,I1,q1⟩) I.quiet hs
def tRet (te:TE):TS:=fun D σ H=>te σ H D.rt
theorem ps_ret (he:PE X e te):PS X (.Return (some e) pos) (tRet te):=by
  intro pins s σ H D I h
  exact wpAny_Return_some (thn (he pins s σ H _ I h) fun v s1 ⟨x,H1,I1,r1,q1⟩=>⟨x,σ,H1,I1,r1,q1⟩)
def tIfS (c:TT) (t u:TS):TS:=fun D σ H=>c σ H fun b H1=>if b=true then t D σ H1 else u D σ H1
theorem ps_if {c:Expr}{a b:List Stmt}{tc:TT} (hc:PT X c tc) (ha:PSs X a t) (hb:PSs X b u):PS X (.If c a b pos) (tIfS tc t u):=by
  intro pins s σ H D I h
  refine wpAny_If (thn (hc pins s σ H _ I h) fun d s1 ⟨H1,I1,q1⟩=>?_)
  cases d with
  | true=>exact ha pins s1 σ H1 D I1 q1
  | false=>exact hb pins s1 σ H1 D I1 q1
def tNever:TS:=fun _ _ _=>False
theorem ps_never:PS X st tNever:=fun _ _ _ _ _ _ h=>h.elim
end
abbrev TG:=V→St→Hp→(St→Hp→Prop)→Prop
abbrev TGs:=List V→St→Hp→(St→Hp→Prop)→Prop
def PG (X:Cx) (target:Expr) (t:TG):Prop :=
  ∀ (pins:List (Addr × Obj)) (s:Shared) (σ:St) (H:Hp) (v:V) (u:Value) (Q:St→Hp→Prop),Inv X pins σ H s→RelV v u→t v σ H Q →
    wpAny (model X.prog X.w) X.A (assign target X.env u) (fun _ s'=>∃ σ' H',Inv X pins σ' H' s'∧Q σ' H') X.xe s
def PGs (X:Cx) (ts:List Expr) (t:TGs):Prop :=
  ∀ (pins:List (Addr × Obj)) (s:Shared) (σ:St) (H:Hp) (vs:List V) (us:List Value) (Q:St→Hp→Prop),Inv X pins σ H s→Vals vs us→t vs σ H Q →
    wpAny (model X.prog X.w) X.A (assignInOrder ((assignEach ts X.env).map (·.2)) us) (fun _ s'=>∃ σ' H',Inv X pins σ' H' s'∧Q σ' H') X.xe s
section
variable {X:Cx}{pos:Pos}
def gName (i:Nat):TG:=fun v σ H Q=>Q (σ.set i (some v)) H
theorem pg_name {i:Nat}{x:Str} (hN:X.N.Nodup) (hi:X.N[i]?=some x) (hx:Loc X.env.scope x) (hf:X.fn x=true∨X.env.scope.names.lookup x=some .local:=by first | exact .inl rfl | exact .inr rfl | assumption):PG X (.Name x pos) (gName i):=by
  intro pins s σ H v u Q I r h
  exact wpAny_assign_Name (store_ok I hN hi hx r (fun s' I'=>⟨_,H,I',h⟩) hf)
def gNil:TGs:=fun vs σ H Q=>vs=[]∧Q σ H
def gCons (t:TG) (u:TGs):TGs:=fun vs σ H Q=>∃ v r,vs=v::r∧t v σ H fun σ' H'=>u r σ' H' Q
theorem pgs_nil:PGs X [] gNil:=by
  intro pins s σ H vs us Q I r h
  obtain ⟨e,h⟩:=h
  subst e
  cases r
  exact assignInOrder_nil ⟨σ,H,I,h⟩
theorem pgs_cons {e:Expr}{es:List Expr}{t:TG}{u:TGs} (h1:PG X e t) (h2:PGs X es u)
    (hs:(assignEach (e::es) X.env).map (·.2)=assign e X.env::(assignEach es X.env).map (·.2):=by rfl):PGs X (e::es) (gCons t u):=by
  intro pins s σ H vs us Q I r h
  obtain ⟨v,vr,e1,h⟩:=h
  subst e1
  cases r with
  | cons r rr =>
    rw [hs]
    refine assignInOrder_cons (thn (h1 pins s σ H _ _ _ I r h) fun _ s1 ⟨σ1,H1,I1,q1⟩=>?_)
    exact h2 pins s1 σ1 H1 _ _ Q I1 rr q1
def gTup (K:PySem.W.Frag) (n:Nat) (t:TGs):TG:=fun v σ H Q=>∃ a xs,v=.ref a∧SqT K H a xs∧xs.length=n∧t xs σ H Q
theorem pg_tup {es:List Expr}{k:Nat}{t:TGs}{n:Nat} (hc:X.calm=true) (h:PGs X es t)
    (hn:(assignEach es X.env).length=n:=by rfl) (hst:(assignEach es X.env).findIdx? (·.1)=none:=by rfl):PG X (.Tuple es k pos) (gTup X.K n t):=by
  intro pins s σ H v u Q I r hw
  obtain ⟨a,xs,e1,hq,hl,hw⟩:=hw
  subst e1
  cases r
  obtain ⟨its,rv,ht,hz⟩:=I.tuple hq
  refine assign_Tuple_tuple (I.ok.hd hc) ht (by simp [hn,← hl,rv.length]) hst fun h' hx=>?_
  have I1:Inv X pins σ H { s with heap:=h' }:=I.kept (t':=s.toks) fun b o e=>hx b o (Nat.ne_of_lt (Heap.lt_size e)) e
  exact h pins _ σ H xs _ Q I1 (by simpa using rv) hw
def tAsg (te:TE) (g:TG):TS:=fun D σ H=>te σ H fun x H1=>g x σ H1 D.nx
theorem ps_set {i:Nat}{x:Str}{e:Expr}{te:TE}{pos':Pos} (hN:X.N.Nodup) (hi:X.N[i]?=some x) (hx:Loc X.env.scope x) (he:PE X e te) (hs:swapsWith e (some (.Name x pos')) pos.line X.env=pure false:=by rfl) (hf:X.fn x=true∨X.env.scope.names.lookup x=some .local:=by first | exact .inl rfl | exact .inr rfl | assumption) :
    PS X (.Assign [.Name x pos'] e pos) (tAsg te (gName i)):=by
  intro pins s σ H D I h
  refine wpAny_Assign_Name (thn (he pins s σ H _ I h) fun v s1 ⟨y,H1,I1,r1,q1⟩=>?_) hs
  exact store_ok I1 hN hi hx r1 (fun s2 I2=>⟨_,H1,I2,q1⟩) hf
end
section
variable {X:Cx}{pos:Pos}
def tWhile (c:TT) (tb:TS):TS:=fun D σ H=>∃ W:Nat→St→Hp→Prop,(∃ m,W m σ H)∧∀ m σ H,W m σ H →
  c σ H fun b H1=>if b=true then ∃ N:St→Hp→Prop,(∀ σ' H',N σ' H'→∃ m',m' < m∧W m' σ' H')∧tb { D with nx:=N,ct:=N,bk:=D.nx } σ H1 else D.nx σ H1
theorem ps_while {c:Expr}{body:List Stmt}{tc:TT}{tb:TS} (hp:PassesOwn (model X.prog X.w) X.A X.env X.xe) (hc:PT X c tc) (hb:PSs X body tb):PS X (.While c body [] pos) (tWhile tc tb):=by
  intro pins s σ H D I h
  obtain ⟨W,⟨m0,w0⟩,turn⟩:=h
  refine wpAny_While (codeAny_whileLoop (fun n s'=>∃ σ' H',Inv X pins σ' H' s'∧W n σ' H') ?_ m0 ⟨σ,H,I,w0⟩)
  rintro n s1 ⟨σ1,H1,I1,w1⟩
  refine wpAny_passesOwn hp (thn (hc pins s1 σ1 H1 _ I1 (turn n σ1 H1 w1)) fun b s2 ⟨H2,I2,q2⟩=>?_)
  cases b with
  | true =>
    obtain ⟨N,hN,q2⟩:=q2
    rw [if_pos rfl]
    refine wpAny_passesOwn hp (thn (hb pins s2 σ1 H2 _ I2 q2) fun f s3 q3=>?_)
    cases f with
    | next =>
      obtain ⟨σ3,H3,I3,n3⟩:=q3
      obtain ⟨m',hm,w3⟩:=hN σ3 H3 n3
      exact ⟨m',hm,σ3,H3,I3,w3⟩
    | cont =>
      obtain ⟨σ3,H3,I3,n3⟩:=q3
      obtain ⟨m',hm,w3⟩:=hN σ3 H3 n3
      exact ⟨m',hm,σ3,H3,I3,w3⟩
    | brk=>exact q3
    | ret v=>exact q3
  | false =>
    rw [if_neg Bool.false_ne_true]
    exact wpAny_execs_nil ⟨σ1,H2,I2,q2⟩
end
structure It where
  go:Nat→Hp→Prop
  yld:Nat→Hp→V→Hp→Prop
  stop:Nat→Hp→Prop
def FpOk (X:Cx) (pins:List (Addr × Obj)) (H:Hp) (b:Addr):Prop :=
  H b=none∧b≠X.env.locals∧b ∉ X.fs∧(b∈X.ex∨X.s₀.heap.objs.size≤b)∧(∀ x c,X.env.cells.lookup x=some c→c≠b)∧∀ p∈X.pn++pins,p.1≠b
theorem Inv.fpOk {X:Cx}{pins:List (Addr × Obj)}{σ:St}{H H':Hp}{s:Shared}{b:Addr} (I:Inv X pins σ H s) (hb:s.heap.objs.size≤b) (hn:H' b=none):FpOk X pins H' b:=by
  refine ⟨hn,Nat.ne_of_gt (Nat.lt_of_lt_of_le I.lt hb),I.nofs hb,.inr (Nat.le_trans I.sz hb),fun x c e z=>?_,fun p hp z=>?_⟩
  · obtain ⟨v,q⟩:=I.cell x c e
    exact absurd (Nat.lt_of_lt_of_le q.lt (by rw [z]; exact hb)) (Nat.lt_irrefl _)
  · exact absurd (Nat.lt_of_lt_of_le (Heap.lt_size (I.pin p hp).1) (by rw [z]; exact hb)) (Nat.lt_irrefl _)
structure Turn (P:Program) (w:World) (K:PySem.W.Frag) (tg:Expr) (J:It) (fp:List Addr) (it:Addr) (tn:Nat→Heap→Prop):Prop where
  mem:it∈fp
  obj:∀ i h,tn i h→∀ b∈fp,∃ o,h.get? b=some o∧∀ v,o.data≠.cell v
  keep:∀ i h h',tn i h→(∀ b∈fp,∀ o,h.get? b=some o→h'.get? b=some o)→tn i h'
  item:∀ (X:Cx),X.prog=P→X.w=w→X.K=K→X.calm=true→∀ (i:Nat) (pins:List (Addr × Obj)) (s:Shared) (σ:St) (H:Hp) (E:Value→Shared→Prop),Inv X pins σ H s→(∀ b∈fp,FpOk X pins H b)→tn i s.heap→J.go i H →
    wpAny (model P w) X.A (pyNext (.ref it)) (fun r s1=>∃ u,r=some u ∧
      wpAny (model P w) X.A (letOwnedTupleGo tg (.ref it) u) (fun _ s2=>∃ x H',Inv X pins σ H' s2∧RelV x u∧J.yld i H x H'∧tn (i+1) s2.heap∧∀ b∈fp,H' b=none) E s1) E s
  done:∀ (X:Cx),X.prog=P→X.w=w→X.K=K→X.calm=true→∀ (i:Nat) (pins:List (Addr × Obj)) (s:Shared) (σ:St) (H:Hp) (E:Value→Shared→Prop),Inv X pins σ H s→(∀ b∈fp,FpOk X pins H b)→tn i s.heap→J.stop i H →
    wpAny (model P w) X.A (pyNext (.ref it)) (fun r s1=>r=none∧Inv X pins σ H s1) E s
  self:∀ (A:Around) (i:Nat) (s:Shared) (Q:Value→Shared→Prop) (E:Value→Shared→Prop),tn i s.heap→Q (.ref it) s→wpAny (model P w) A (pyIter (.ref it)) Q E s
abbrev TI:=St→Hp→(It→Hp→Prop)→Prop
def PIE (X:Cx) (pins:List (Addr × Obj)) (σ:St) (tg:Expr) (R:It→Hp→Prop) (itv:Value) (s2:Shared):Prop :=
  ∃ (it:Addr) (fp:List Addr) (tn:Nat→Heap→Prop) (J:It) (H':Hp),itv=.ref it∧Inv X pins σ H' s2∧Turn X.prog X.w X.K tg J fp it tn∧tn 0 s2.heap∧(∀ b∈fp,FpOk X pins H' b)∧R J H'
def PI (X:Cx) (tg iter:Expr) (wi:TI):Prop :=
  ∀ (pins:List (Addr × Obj)) (s:Shared) (σ:St) (H:Hp) (R:It→Hp→Prop),Inv X pins σ H s→wi σ H R →
    wpAny (model X.prog X.w) X.A (eval iter X.env) (fun v s1=>wpAny (model X.prog X.w) X.A (pyIter v) (PIE X pins σ tg R) X.xe s1) X.xe s
theorem go_of {M:Model}{A:Around}{E:Value→Shared→Prop}{s:Shared}{tg:Expr}{it:Addr}{u:Value}{o:Obj}{n:String}{vs:Array Value}{Q:Unit→Shared→Prop} (ho:s.heap.get? it=some o) (hc:o.cls=.type n) (hd:o.data=.fields vs)
    (hn:["enumerate", "zip", "dict_itemiterator", "dict_reverseitemiterator", "odict_iterator", "itertools.zip_longest", "itertools.pairwise"].contains n=false) (hQ:Q () s):wpAny M A (letOwnedTupleGo tg (.ref it) u) Q E s:=by
  unfold letOwnedTupleGo
  cases tg <;> first
    | exact wpAny_pure hQ
    | (cases u <;> first
        | exact wpAny_pure hQ
        | (refine wpAny_bind (wpAny_load ho ?_)
           rw [hc,hd]
           show wpAny M A (if (["enumerate", "zip", "dict_itemiterator", "dict_reverseitemiterator", "odict_iterator", "itertools.zip_longest", "itertools.pairwise"].contains n && vs[0]? == some (rawInt _))=true then _ else _) Q E s
           rw [if_neg (by intro h; rw [hn,Bool.false_and] at h; cases h)]
           exact wpAny_pure hQ))
def Itl (K:PySem.W.Frag) (a:Addr):It :=
  ⟨fun i H=>∃ xs x,SqL K H a xs∧xs[i]?=some x,fun i H x H'=>H'=H∧∀ xs,SqL K H a xs→xs[i]?=some x,fun i H=>∃ xs,SqL K H a xs∧xs.length≤i⟩
def Itt (K:PySem.W.Frag) (a:Addr):It :=
  ⟨fun i H=>∃ xs x,SqT K H a xs∧xs[i]?=some x,fun i H x H'=>H'=H∧∀ xs,SqT K H a xs→xs[i]?=some x,fun i H=>∃ xs,SqT K H a xs∧xs.length≤i⟩
def Itr (lo:Int) (n:Nat):It:=⟨fun i _=>i < n,fun i H x H'=>H'=H∧x=.int (lo+i),fun i _=>n≤i⟩
theorem turn_list {P:Program}{w:World}{K:PySem.W.Frag}{tg:Expr} (a it:Addr):Turn P w K tg (Itl K a) [it] it (fun i h=>h.IsListIter it a i) where
  mem:=by simp
  obj:=fun i h st b hb=>by
    have e:b=it:=by simpa using hb
    subst e
    obtain ⟨o,e,c,d⟩:=st
    exact ⟨o,e,fun v z=>by rw [d] at z; cases z⟩
  keep:=fun i h h' st k=>st.at fun o e=>k it (by simp) o e
  item:=by
    intro X hP hw hK hc i pins s σ H E I hf st hg
    subst hP hw hK
    obtain ⟨xs,x,hq,hx⟩:=hg
    obtain ⟨its,rv,p,hz⟩:=I.list hq
    obtain ⟨u,hu,ru⟩:=rv.get hx
    obtain ⟨f0,f1,f2,f3,f4,f5⟩:=hf it (by simp)
    refine wpAny_pyNext_list_item st p.isList (x:=u) (by simpa using hu) fun h' st' sb=>?_
    have I1:Inv X pins σ H { s with heap:=h' }:=I.turned (t':=s.toks) (fun b o hb e=>(sb.2 b hb).trans e) f0 f1 f3 f4 f5
    obtain ⟨o,e,c,d⟩:=id st'
    exact ⟨u,rfl,go_of (s:={ s with heap:=h' }) e c d (by decide) ⟨x,H,I1,ru,⟨rfl,fun ys hy=>by rw [I.list_inj hy hq]; exact hx⟩,st',fun b hb=>(hf b hb).1⟩⟩
  done:=by
    intro X hP hw hK hc i pins s σ H E I hf st hg
    subst hP hw hK
    obtain ⟨xs,hq,hx⟩:=hg
    obtain ⟨its,rv,p,hz⟩:=I.list hq
    obtain ⟨f0,f1,f2,f3,f4,f5⟩:=hf it (by simp)
    have hl:=rv.length
    exact wpAny_pyNext_list_end (I.ok.hd hc) st p.isList (by simp; omega) fun h' eb=>⟨rfl,I.turned (t':=s.toks) (fun b o hb e=>eb b o hb e) f0 f1 f3 f4 f5⟩
  self:=fun _ _ _ _ _ st h=>wpAny_pyIter_listiter st h
theorem turn_tuple {P:Program}{w:World}{K:PySem.W.Frag}{tg:Expr} (a it:Addr):Turn P w K tg (Itt K a) [it] it (fun i h=>h.IsTupleIter it a i) where
  mem:=by simp
  obj:=fun i h st b hb=>by
    have e:b=it:=by simpa using hb
    subst e
    obtain ⟨o,e,c,d⟩:=st
    exact ⟨o,e,fun v z=>by rw [d] at z; cases z⟩
  keep:=fun i h h' st k=>st.at fun o e=>k it (by simp) o e
  item:=by
    intro X hP hw hK hc i pins s σ H E I hf st hg
    subst hP hw hK
    obtain ⟨xs,x,hq,hx⟩:=hg
    obtain ⟨its,rv,p,hz⟩:=I.tuple hq
    obtain ⟨u,hu,ru⟩:=rv.get hx
    obtain ⟨f0,f1,f2,f3,f4,f5⟩:=hf it (by simp)
    refine wpAny_pyNext_tuple_item st (show s.heap.IsTuple a its.toArray from p) (x:=u) (by simpa using hu) fun h' st' sb=>?_
    have I1:Inv X pins σ H { s with heap:=h' }:=I.turned (t':=s.toks) (fun b o hb e=>(sb.2 b hb).trans e) f0 f1 f3 f4 f5
    obtain ⟨o,e,c,d⟩:=id st'
    exact ⟨u,rfl,go_of (s:={ s with heap:=h' }) e c d (by decide) ⟨x,H,I1,ru,⟨rfl,fun ys hy=>by rw [I.tuple_inj hy hq]; exact hx⟩,st',fun b hb=>(hf b hb).1⟩⟩
  done:=by
    intro X hP hw hK hc i pins s σ H E I hf st hg
    subst hP hw hK
    obtain ⟨xs,hq,hx⟩:=hg
    obtain ⟨its,rv,p,hz⟩:=I.tuple hq
    obtain ⟨f0,f1,f2,f3,f4,f5⟩:=hf it (by simp)
    have hl:=rv.length
    exact wpAny_pyNext_tuple_end (I.ok.hd hc) st (show s.heap.IsTuple a its.toArray from p) (by simp; omega) fun h' eb=>⟨rfl,I.turned (t':=s.toks) (fun b o hb e=>eb b o hb e) f0 f1 f3 f4 f5⟩
  self:=fun _ _ _ _ _ st h=>wpAny_pyIter_tupleiter st h
theorem turn_range {P:Program}{w:World}{K:PySem.W.Frag}{tg:Expr} (it:Addr) (lo:Int) (n:Nat):Turn P w K tg (Itr lo n) [it] it (fun i h=>IsRangeIter h it (lo+(i:Nat) * 1) ((n:Int) - (i:Nat)) 1) where
  mem:=by simp
  obj:=fun i h st b hb=>by
    have e:b=it:=by simpa using hb
    subst e
    exact ⟨_,st,fun v z=>by
      have z':Data.fields _=Data.cell v:=z
      cases z'⟩
  keep:=fun i h h' st k=>k it (by simp) _ st
  item:=by
    intro X hP hw hK hc i pins s σ H E I hf st hg
    subst hP hw hK
    obtain ⟨f0,f1,f2,f3,f4,f5⟩:=hf it (by simp)
    have W:=Walks.range (prog:=X.prog) (w:=X.w) (I.ok.hd hc) it lo 1 n
    refine W.item i s _ _ hg st fun v h' tk hv st' kk=>?_
    obtain ⟨t,rfl⟩:=hv
    have I1:Inv X pins σ H { s with heap:=h',toks:=tk }:=I.turned (fun b o hb e=>kk b o (by simpa using hb) e) f0 f1 f3 f4 f5
    refine ⟨_,rfl,go_of (s:={ s with heap:=h',toks:=tk }) (n := "range_iterator") st' rfl rfl (by decide) ⟨.int (lo+i),H,I1,⟨t,?_⟩,⟨rfl,rfl⟩,st',fun b hb=>(hf b hb).1⟩⟩
    rw [Int.mul_one]
  done:=by
    intro X hP hw hK hc i pins s σ H E I hf st hg
    subst hP hw hK
    obtain ⟨f0,f1,f2,f3,f4,f5⟩:=hf it (by simp)
    exact wpAny_pyNext_range_end (I.ok.hd hc) st (by have:n≤i:=hg; omega) fun h' eb=>⟨rfl,I.turned (t':=s.toks) (fun b o hb e=>eb b o hb e) f0 f1 f3 f4 f5⟩
  self:=fun _ _ _ _ _ st h=>wpAny_pyIter_rangeiter st h
end L2
namespace L2
open PySem PySem.Spec PyProof.Rows
section
variable {X:Cx}{tg:Expr}
def iList (K:PySem.W.Frag) (tl:TE):TI:=fun σ H R=>tl σ H fun x H1=>∃ a,x=.ref a∧(∃ xs,SqL K H1 a xs)∧R (Itl K a) H1
def iTup (K:PySem.W.Frag) (tl:TE):TI:=fun σ H R=>tl σ H fun x H1=>∃ a,x=.ref a∧(∃ xs,SqT K H1 a xs)∧R (Itt K a) H1
theorem pi_list {l:Expr}{tl:TE} (hl:PE X l tl):PI X tg l (iList X.K tl):=by
  intro pins s σ H R I h
  refine thn (hl pins s σ H _ I h) fun v s1 ⟨x,H1,I1,r1,q1⟩=>?_
  obtain ⟨a,e,⟨xs,hq⟩,q⟩:=q1
  subst e
  cases r1
  obtain ⟨its,rv,p,hz⟩:=I1.list hq
  refine wpAny_pyIter_list p.isList ?_
  refine ⟨s1.heap.objs.size,[s1.heap.objs.size],_,_,H1,rfl,I1.kept (t':=s1.toks) fun b o e=>Heap.get?_push_of_some _ e,turn_list a _,⟨_,Heap.get?_push_size _ rfl,rfl,rfl⟩,fun b hb=>?_,q⟩
  have e:b=s1.heap.objs.size:=by simpa using hb
  subst e
  exact I1.fpOk (Nat.le_refl _) (I1.hok.fresh (Nat.le_refl _))
theorem pi_tup {l:Expr}{tl:TE} (hl:PE X l tl):PI X tg l (iTup X.K tl):=by
  intro pins s σ H R I h
  refine thn (hl pins s σ H _ I h) fun v s1 ⟨x,H1,I1,r1,q1⟩=>?_
  obtain ⟨a,e,⟨xs,hq⟩,q⟩:=q1
  subst e
  cases r1
  obtain ⟨its,rv,p,hz⟩:=I1.tuple hq
  refine wpAny_pyIter_tuple (show s1.heap.IsTuple a its.toArray from p) ?_
  refine ⟨s1.heap.objs.size,[s1.heap.objs.size],_,_,H1,rfl,I1.kept (t':=s1.toks) fun b o e=>Heap.get?_push_of_some _ e,turn_tuple a _,⟨_,Heap.get?_push_size _ rfl,rfl,rfl⟩,fun b hb=>?_,q⟩
  have e:b=s1.heap.objs.size:=by simpa using hb
  subst e
  exact I1.fpOk (Nat.le_refl _) (I1.hok.fresh (Nat.le_refl _))
theorem range_it {pins:List (Addr × Obj)}{σ:St}{H:Hp}{s:Shared}{R:It→Hp→Prop}{E:Value→Shared→Prop}{lo hi:Int}{t u v:Tok}{tk:Nat} (I:Inv X pins σ H s) (h1:-(2 ^ 62)≤lo) (h2:lo < 2 ^ 62) (h3:-(2 ^ 62)≤hi) (h4:hi < 2 ^ 62)
    (q:R (Itr lo (hi - lo).toNat) H):wpAny (model X.prog X.w) X.A (pyIter (.ref s.heap.objs.size)) (PIE X pins σ tg R) E { s with heap:=s.heap.push { cls:=.type "range",data:=.fields #[.int lo t,.int hi u,.int 1 v] },toks:=tk }:=by
  refine wpAny_pyIter_range (IsRange.new ..) (small_one h1 h2 h3 h4) ?_
  have I1:Inv X pins σ H { s with heap:=s.heap.push { cls:=.type "range",data:=.fields #[.int lo t,.int hi u,.int 1 v] },toks:=tk }:=I.kept fun b o e=>Heap.get?_push_of_some _ e
  refine ⟨(s.heap.push { cls:=.type "range",data:=.fields #[.int lo t,.int hi u,.int 1 v] }).objs.size,[(s.heap.push { cls:=.type "range",data:=.fields #[.int lo t,.int hi u,.int 1 v] }).objs.size],_,_,H,rfl,
    I1.kept (t':=tk) fun b o e=>Heap.get?_push_of_some _ e,turn_range _ lo (hi - lo).toNat,?_,fun b hb=>?_,q⟩
  · have e1:lo+((0:Nat):Int) * 1=lo:=by simp
    have e2:(((hi - lo).toNat:Nat):Int) - ((0:Nat):Int)=Builtin.Range.rangeSize lo hi 1:=by rw [rangeSize_one]; split <;> omega
    show IsRangeIter _ _ (lo+((0:Nat):Int) * 1) ((((hi - lo).toNat:Nat):Int) - ((0:Nat):Int)) 1
    rw [e1,e2]
    exact Heap.get?_push_size _ rfl
  · have e:b=(s.heap.push { cls:=.type "range",data:=.fields #[.int lo t,.int hi u,.int 1 v] }).objs.size:=by simpa using hb
    subst e
    exact I1.fpOk (Nat.le_refl _) (I1.hok.fresh (Nat.le_refl _))
def iRng1 (ta:TA):TI:=fun σ H R=>ta σ H fun vs H1=>∃ j:Int,vs=[.int j]∧-(2 ^ 62)≤j∧j < 2 ^ 62∧R (Itr 0 j.toNat) H1
def iRng2 (ta:TA):TI:=fun σ H R=>ta σ H fun vs H1=>∃ i j:Int,vs=[.int i,.int j]∧(-(2 ^ 62)≤i∧i < 2 ^ 62∧-(2 ^ 62)≤j∧j < 2 ^ 62)∧R (Itr i (j - i).toNat) H1
theorem pi_range1 {a:Expr}{ta:TA}{p pos:Pos} (hg:Gl X "range") (hm:X.mg "range" = none) (ha:PA X [a] ta) (hs:starEach [a] X.env=[(false,eval a X.env)]:=by rfl):PI X tg (.Call (.Name "range" p) [a] [] pos) (iRng1 ta):=by
  intro pins s σ H R I h
  refine Call_ (ld_blt I hg hm boot_range (PyProof.Rows.callWith_type1 (thn (ha pos pins s σ H _ I h) fun us s1 ⟨vs,H1,I1,r1,q1⟩=>?_) hs rfl))
  obtain ⟨j,e,q1,q2,q⟩:=q1
  subst e
  cases r1 with
  | cons r rr =>
    cases rr
    obtain ⟨t,rfl⟩:=r
    exact call_range_1 (range_it I1 (by omega) (by omega) q1 q2 (by simpa using q))
theorem pi_range2 {a b:Expr}{ta:TA}{p pos:Pos} (hg:Gl X "range") (hm:X.mg "range" = none) (ha:PA X [a,b] ta) (hs:starEach [a,b] X.env=[(false,eval a X.env),(false,eval b X.env)]:=by rfl) (hs2:starEach [b] X.env=[(false,eval b X.env)]:=by rfl) :
    PI X tg (.Call (.Name "range" p) [a,b] [] pos) (iRng2 ta):=by
  intro pins s σ H R I h
  refine Call_ (ld_blt I hg hm boot_range (PyProof.Rows.callWith_type1 (thn (ha pos pins s σ H _ I h) fun us s1 ⟨vs,H1,I1,r1,q1⟩=>?_) (by rw [hs,hs2]) (by rw [hs2]; rfl)))
  obtain ⟨i,j,e,⟨q1,q2,q3,q4⟩,q⟩:=q1
  subst e
  cases r1 with
  | cons r rr =>
    cases rr with
    | cons r' rr =>
      cases rr
      obtain ⟨t,rfl⟩:=r
      obtain ⟨t',rfl⟩:=r'
      exact call_range_2 (range_it I1 q1 q2 q3 q4 q)
def tFor (wi:TI) (g:TG) (tb:TS):TS:=fun D σ H=>wi σ H fun J H1=>∃ W:Nat→Nat→St→Hp→Prop,(∃ m,W 0 m σ H1)∧∀ i m σ H,W i m σ H →
  (J.stop i H∧D.nx σ H)∨(J.go i H∧∃ N:St→Hp→Prop,(∀ σ' H',N σ' H'→∃ m',m' < m∧W (i+1) m' σ' H')∧∀ x H',J.yld i H x H'→g x σ H' fun σ2 H2=>tb { D with nx:=N,ct:=N,bk:=D.nx } σ2 H2)
def pinsAt (fp:List Addr) (h:Heap):List (Addr × Obj):=fp.filterMap fun b=>(h.get? b).map fun o=>(b,o)
theorem mem_pinsAt {fp:List Addr}{h:Heap}{b:Addr}{o:Obj} (hb:b∈fp) (e:h.get? b=some o):(b,o)∈pinsAt fp h:=List.mem_filterMap.mpr ⟨b,hb,by rw [e]; rfl⟩
theorem of_pinsAt {fp:List Addr}{h:Heap}{p:Addr × Obj} (hp:p∈pinsAt fp h):p.1∈fp∧h.get? p.1=some p.2:=by
  obtain ⟨b,hb,e⟩:=List.mem_filterMap.mp hp
  cases q:h.get? b with
  | none=>rw [q] at e; cases e
  | some o =>
    rw [q] at e
    have e':(b,o)=p:=Option.some.inj e
    subst e'
    exact ⟨hb,q⟩
theorem Inv.pinned {pins:List (Addr × Obj)}{σ:St}{H:Hp}{s:Shared}{fp:List Addr} (I:Inv X pins σ H s) (hf:∀ b∈fp,FpOk X pins H b) (ho:∀ b∈fp,∃ o,s.heap.get? b=some o∧∀ v,o.data≠.cell v):Inv X (pins++pinsAt fp s.heap) σ H s :=
  I.pins_of fun p hp=>(List.mem_append.mp hp).elim (fun z=>I.pin p (List.mem_append_right _ z)) fun z=>by
    obtain ⟨hb,e⟩:=of_pinsAt z
    obtain ⟨f0,f1,f2,_⟩:=hf p.1 hb
    obtain ⟨o,e',d⟩:=ho p.1 hb
    rw [e] at e'; cases e'
    exact ⟨e,f0,f1,f2,d⟩
theorem Inv.unpinned {pins pl:List (Addr × Obj)}{σ:St}{H:Hp}{s:Shared} (I:Inv X (pins++pl) σ H s):Inv X pins σ H s:=I.pins_of fun p hp=>I.pin p (List.mem_append_right _ (List.mem_append_left _ hp))
theorem ps_for {iter:Expr}{body:List Stmt}{wi:TI}{g:TG}{tb:TS}{pos:Pos} (hp:PassesOwn (model X.prog X.w) X.A X.env X.xe) (hc:X.calm=true) (hi:PI X tg iter wi) (hg:PG X tg g) (hb:PSs X body tb)
    (hs:∀ x,foldedSetIterable iter X.env x=pure x:=by intro _; rfl):PS X (.For tg iter body [] pos) (tFor wi g tb):=by
  intro pins s σ H D I h
  refine wpAny_For (thn (hi pins s σ H _ I h) fun v s1 h1=>thn h1 fun itv s2 h2=>?_) hs
  obtain ⟨it,fp,tn,J,H2,e,I2,T,st2,f2,W,⟨m0,w0⟩,turn⟩:=h2
  subst e
  have stat:∀ {H':Hp},(∀ b∈fp,H' b=none)→∀ b∈fp,FpOk X pins H' b:=fun hn b hb=>⟨hn b hb,(f2 b hb).2⟩
  refine codeAny_forLoop_any (fun n s'=>∃ i σ' H',Inv X pins σ' H' s'∧tn i s'.heap∧(∀ b∈fp,H' b=none)∧W i n σ' H') ?_ m0 ⟨0,σ,H2,I2,st2,fun b hb=>(f2 b hb).1,w0⟩
  rintro n s3 ⟨i,σ3,H3,I3,st3,fr3,w3⟩
  rcases turn i n σ3 H3 w3 with ⟨stop,qn⟩ | ⟨go,N,hN,step⟩
  · refine wpAny_passesOwn hp (thn (T.done X rfl rfl rfl hc i pins s3 σ3 H3 X.xe I3 (stat fr3) st3 stop) fun r s4 ⟨hr,I4⟩=>?_)
    subst hr
    exact wpAny_execs_nil ⟨σ3,H3,I4,qn⟩
  · refine wpAny_passesOwn hp (thn (T.item X rfl rfl rfl hc i pins s3 σ3 H3 X.xe I3 (stat fr3) st3 go) fun r s4 ⟨u,hr,h4⟩=>?_)
    subst hr
    refine wpAny_passesOwn hp (thn h4 fun _ s5 ⟨x,H5,I5,r5,y5,st5,fr5⟩=>?_)
    have I5':=I5.pinned (stat fr5) (T.obj _ _ st5)
    refine wpAny_passesOwn hp (thn (hg _ s5 σ3 H5 x u _ I5' r5 (step x H5 y5)) fun _ s6 ⟨σ6,H6,I6,q6⟩=>?_)
    refine wpAny_passesOwn hp (thn (hb _ s6 σ6 H6 _ I6 q6) fun f s7 q7=>?_)
    have again:∀ {σ7:St} {H7:Hp},Inv X (pins++pinsAt fp s5.heap) σ7 H7 s7→N σ7 H7→∃ m,m < n∧∃ i σ' H',Inv X pins σ' H' s7∧tn i s7.heap∧(∀ b∈fp,H' b=none)∧W i m σ' H':=fun {σ7 H7} I7 n7=>by
      obtain ⟨m',hm,w7⟩:=hN σ7 H7 n7
      refine ⟨m',hm,i+1,σ7,H7,I7.unpinned,T.keep _ _ _ st5 fun b hb o e=>(I7.pin (b,o) (List.mem_append_right _ (List.mem_append_right _ (mem_pinsAt hb e)))).1,fun b hb=>?_,w7⟩
      obtain ⟨o,e,d⟩:=T.obj _ _ st5 b hb
      exact (I7.pin (b,o) (List.mem_append_right _ (List.mem_append_right _ (mem_pinsAt hb e)))).2.1
    cases f with
    | next=>obtain ⟨σ7,H7,I7,n7⟩:=q7; exact again I7 n7
    | cont=>obtain ⟨σ7,H7,I7,n7⟩:=q7; exact again I7 n7
    | brk=>obtain ⟨σ7,H7,I7,q7⟩:=q7; exact ⟨σ7,H7,I7.unpinned,q7⟩
    | ret v=>obtain ⟨x7,σ7,H7,I7,r7,q7⟩:=q7; exact ⟨x7,σ7,H7,I7.unpinned,r7,q7⟩
end
end L2
namespace L2
open PySem PySem.Spec PyProof.Rows
abbrev R2:=V→V→Hp→VK→Prop
def OpR (X:Cx) (f:Value→Value→Sem Value) (r:R2):Prop :=
  ∀ (pins:List (Addr × Obj)) (s:Shared) (σ:St) (H:Hp) (x y:V) (v u:Value) (Q:VK),Inv X pins σ H s→RelV x v→RelV y u→r x y H Q →
    wpAny (model X.prog X.w) X.A (f v u) (EP X pins σ Q) X.xe s
def UnR (X:Cx) (f:Value→Sem Value) (r:V→Hp→VK→Prop):Prop :=
  ∀ (pins:List (Addr × Obj)) (s:Shared) (σ:St) (H:Hp) (x:V) (v:Value) (Q:VK),Inv X pins σ H s→RelV x v→r x H Q →
    wpAny (model X.prog X.w) X.A (f v) (EP X pins σ Q) X.xe s
def CallR (X:Cx) (f:Value) (r:List V→Hp→VK→Prop):Prop :=
  ∀ (pins:List (Addr × Obj)) (s:Shared) (σ:St) (H:Hp) (xs:List V) (us:List Value) (Q:VK),Inv X pins σ H s→Vals xs us→r xs H Q →
    wpAny (model X.prog X.w) X.A (call f us) (EP X pins σ Q) X.xe s
def tOp (r:R2) (ta tb:TE):TE:=fun σ H Q=>ta σ H fun x H1=>tb σ H1 fun y H2=>r x y H2 Q
def tUn (r:V→Hp→VK→Prop) (ta:TE):TE:=fun σ H Q=>ta σ H fun x H1=>r x H1 Q
def rI (C:Int→Int→Prop) (g:Int→Int→V):R2:=fun x y H Q=>∃ i j,x=.int i∧y=.int j∧C i j∧Q (g i j) H
def rI0 (g:Int→Int→V):R2:=fun x y H Q=>∃ i j,x=.int i∧y=.int j∧Q (g i j) H
def rU (g:Int→V):V→Hp→VK→Prop:=fun x H Q=>∃ i,x=.int i∧Q (g i) H
section
variable {X:Cx}{a b c:Expr}{ta tb tc:TE}{pos:Pos}
theorem binT (ha:PE X a ta) (hb:PE X b tb) {pins:List (Addr × Obj)}{s:Shared}{σ:St}{H:Hp}{R:V→V→Hp→Prop} (I:Inv X pins σ H s)
    (h:ta σ H fun x H1=>tb σ H1 fun y H2=>R x y H2) {Q:Value→Shared→Prop} {f:Value→Value→Sem Value}
    (hf:∀ v u s2 x y H2,Inv X pins σ H2 s2→RelV x v→RelV y u→R x y H2→wpAny (model X.prog X.w) X.A (f v u) Q X.xe s2) :
    wpAny (model X.prog X.w) X.A (eval a X.env) (fun v s₁=>wpAny (model X.prog X.w) X.A (eval b X.env) (fun u s₂=>wpAny (model X.prog X.w) X.A (f v u) Q X.xe s₂) X.xe s₁) X.xe s:=by
  refine thn (ha pins s σ H _ I h) fun v s1 ⟨x,H1,I1,r1,q1⟩=>?_
  refine thn (hb pins s1 σ H1 _ I1 q1) fun u s2 ⟨y,H2,I2,r2,q2⟩=>?_
  exact hf v u s2 x y H2 I2 r1 r2 q2
theorem pe_op {op:Operator}{r:R2} (ho:OpR X (binaryOp op) r) (ha:PE X a ta) (hb:PE X b tb):PE X (.BinOp a op b pos) (tOp r ta tb):=by
  intro pins s σ H Q I h
  exact wpAny_BinOp (binT ha hb I h fun v u s2 x y H2 I2 rx ry q=>ho pins s2 σ H2 x y v u Q I2 rx ry q)
theorem pe_un {op:UnaryOp}{r:V→Hp→VK→Prop} (ho:UnR X (unaryOp op) r) (ha:PE X a ta):PE X (.UnaryOp op a pos) (tUn r ta):=by
  intro pins s σ H Q I h
  exact UnaryOp_ (thn (ha pins s σ H _ I h) fun v s1 ⟨x,H1,I1,r1,q1⟩=>ho pins s1 σ H1 x v Q I1 r1 q1)
theorem opI {f:Value→Value→Sem Value}{C:Int→Int→Prop}{g:Int→Int→Int}
    (rule:∀ (i j:Int) (t u:Tok) (s:Shared) (Q:Value→Shared→Prop) (E:Value→Shared→Prop),C i j→Q (.int (g i j) s.toks) { s with toks:=s.toks+1 }→wpAny (model X.prog X.w) X.A (f (.int i t) (.int j u)) Q E s) :
    OpR X f (rI C fun i j=>.int (g i j)):=by
  intro pins s σ H x y v u Q I rx ry h
  obtain ⟨i,j,rfl,rfl,hc,q⟩:=h
  obtain ⟨t,rfl⟩:=rx
  obtain ⟨t',rfl⟩:=ry
  exact rule i j t t' s _ _ hc ⟨.int (g i j),H,I.tok _,⟨_,rfl⟩,q⟩
theorem opI0 {f:Value→Value→Sem Value}{g:Int→Int→Int}
    (rule:∀ (i j:Int) (t u:Tok) (s:Shared) (Q:Value→Shared→Prop) (E:Value→Shared→Prop),Q (.int (g i j) s.toks) { s with toks:=s.toks+1 }→wpAny (model X.prog X.w) X.A (f (.int i t) (.int j u)) Q E s) :
    OpR X f (rI0 fun i j=>.int (g i j)):=by
  intro pins s σ H x y v u Q I rx ry h
  obtain ⟨i,j,rfl,rfl,q⟩:=h
  obtain ⟨t,rfl⟩:=rx
  obtain ⟨t',rfl⟩:=ry
  exact rule i j t t' s _ _ ⟨.int (g i j),H,I.tok _,⟨_,rfl⟩,q⟩
theorem opB0 {f:Value→Value→Sem Value}{g:Int→Int→Bool}
    (rule:∀ (i j:Int) (t u:Tok) (s:Shared) (Q:Value→Shared→Prop) (E:Value→Shared→Prop),Q (.bool (g i j)) s→wpAny (model X.prog X.w) X.A (f (.int i t) (.int j u)) Q E s) :
    OpR X f (rI0 fun i j=>.bl (g i j)):=by
  intro pins s σ H x y v u Q I rx ry h
  obtain ⟨i,j,rfl,rfl,q⟩:=h
  obtain ⟨t,rfl⟩:=rx
  obtain ⟨t',rfl⟩:=ry
  exact rule i j t t' s _ _ ⟨.bl (g i j),H,I,rfl,q⟩
def CDiv (i j:Int):Prop:=0 < j∧j < 1073741824
def CMul (i j:Int):Prop:=(-(2 ^ 64) < i∧i < 2 ^ 64)∨(-(2 ^ 64) < j∧j < 2 ^ 64)
theorem CMul.ok {i j:Int} (h:CMul i j):IntMulOk i j:=by
  rcases h with ⟨h1,h2⟩ | ⟨h1,h2⟩
  · exact .of_left (intBits_le_64 h1 h2)
  · exact .of_right (intBits_le_64 h1 h2)
theorem op_add:OpR X (binaryOp .Add) (rI0 fun i j=>.int (i+j)):=opI0 fun _ _ _ _ _ _ _ q=>add_int q
theorem op_sub:OpR X (binaryOp .Sub) (rI0 fun i j=>.int (i - j)):=opI0 fun _ _ _ _ _ _ _ q=>sub_int q
theorem op_mul:OpR X (binaryOp .Mult) (rI CMul fun i j=>.int (i * j)):=opI fun _ _ _ _ _ _ _ hc q=>mul_int q hc.ok
theorem op_fdiv:OpR X (binaryOp .FloorDiv) (rI CDiv fun i j=>.int (i / j)):=opI fun i j _ _ _ _ _ hc q=>by
  have h1:(0:Int) < j:=hc.1
  have h2:j < 1073741824:=hc.2
  exact floordiv_int (by omega) (by rw [Int.fdiv_eq_ediv_of_nonneg i (by omega)]; exact q) (.inl (PyProof.noPylong_small (by omega)))
theorem op_mod:OpR X (binaryOp .Mod) (rI (fun _ j=>0 < j) fun i j=>.int (i % j)):=opI fun i j _ _ _ _ _ hc q=>by
  have h1:(0:Int) < j:=hc
  exact mod_int' (by omega) (by rw [Int.fmod_eq_emod_of_nonneg i (by omega)]; exact q)
theorem unI {f:Value→Sem Value}{g:Int→Int}
    (rule:∀ (i:Int) (t:Tok) (s:Shared) (Q:Value→Shared→Prop) (E:Value→Shared→Prop),Q (.int (g i) s.toks) { s with toks:=s.toks+1 }→wpAny (model X.prog X.w) X.A (f (.int i t)) Q E s) :
    UnR X f (rU fun i=>.int (g i)):=by
  intro pins s σ H x v Q I rx h
  obtain ⟨i,rfl,q⟩:=h
  obtain ⟨t,rfl⟩:=rx
  exact rule i t s _ _ ⟨.int (g i),H,I.tok _,⟨_,rfl⟩,q⟩
theorem un_neg:UnR X (unaryOp .USub) (rU fun i=>.int (-i)):=unI fun _ _ _ _ _ q=>neg_int q
end
def scal:V→V→Bool
  | .non,.non=>true | .non,.int _=>true | .int _,.non=>true | .non,.bl _=>true | .bl _,.non=>true | .non,.str _=>true | .str _,.non=>true
  | .int _,.int _=>true | .bl _,.bl _=>true | .str _,.str _=>true | .byt _,.byt _=>true
  | .int _,.str _=>true | .str _,.int _=>true | .bl _,.str _=>true | .str _,.bl _=>true
  | _,_=>false
def rEq:R2:=fun x y H Q=>scal x y=true∧Q (.bl (decide (x=y))) H
def rNe:R2:=fun x y H Q=>scal x y=true∧Q (.bl (!decide (x=y))) H
theorem dec_int {i j:Int}:decide (V.int i=V.int j)=(i == j):=by
  rw [Bool.eq_iff_iff]
  simp
theorem dec_bl {i j:Bool}:decide (V.bl i=V.bl j)=(i == j):=by
  rw [Bool.eq_iff_iff]
  simp
theorem dec_str {i j:Str}:decide (V.str i=V.str j)=(i == j):=by
  rw [Bool.eq_iff_iff]
  simp
theorem dec_byt {i j:Array UInt8}:decide (V.byt i=V.byt j)=(i.toList == j.toList):=by
  rw [Bool.eq_iff_iff]
  cases i
  cases j
  simp
section
variable {X:Cx}{a b c:Expr}{ta tb tc:TE}{pos:Pos}
theorem fin_bl {pins:List (Addr × Obj)}{σ:St}{H:Hp}{s:Shared}{Q:VK}{k k':Bool} (I:Inv X pins σ H s) (q:Q (.bl k) H) (e:k=k'):EP X pins σ Q (.bool k') s:=by
  subst e
  exact ⟨.bl k,H,I,rfl,q⟩
theorem op_eq:OpR X (compareOp .Eq) rEq:=by
  intro pins s σ H x y v u Q I rx ry h
  obtain ⟨hs,q⟩:=h
  cases x with
  | non =>
    cases rx
    cases y with
    | non=>cases ry; exact PySem.EqNone.eq_none_none (fin_bl I q (by simp))
    | bl j=>cases ry; exact PySem.EqNone.eq_none_bool (fin_bl I q (by simp))
    | int j=>obtain ⟨t',rfl⟩:=ry; exact PySem.EqNone.eq_none_int (fin_bl I q (by simp))
    | str j=>obtain ⟨t',rfl⟩:=ry; exact PySem.EqNone.eq_none_str (fin_bl I q (by simp))
    | _=>exact absurd (show false=true from hs) Bool.false_ne_true
  | bl i =>
    cases rx
    cases y with
    | non=>cases ry; exact PySem.EqNone.eq_bool_none (fin_bl I q (by simp))
    | bl j=>cases ry; exact eq_bool (fin_bl I q dec_bl)
    | str j=>obtain ⟨t',rfl⟩:=ry; exact PySem.EqMixed.eq_bool_str (fin_bl I q (by simp))
    | _=>exact absurd (show false=true from hs) Bool.false_ne_true
  | int i =>
    obtain ⟨t,rfl⟩:=rx
    cases y with
    | non=>cases ry; exact PySem.EqNone.eq_int_none (fin_bl I q (by simp))
    | int j=>obtain ⟨t',rfl⟩:=ry; exact eq_int (fin_bl I q dec_int)
    | str j=>obtain ⟨t',rfl⟩:=ry; exact PySem.EqMixed.eq_int_str (fin_bl I q (by simp))
    | _=>exact absurd (show false=true from hs) Bool.false_ne_true
  | str i =>
    obtain ⟨t,rfl⟩:=rx
    cases y with
    | non=>cases ry; exact PySem.EqNone.eq_str_none (fin_bl I q (by simp))
    | bl j=>cases ry; exact PySem.EqMixed.eq_str_bool (fin_bl I q (by simp))
    | int j=>obtain ⟨t',rfl⟩:=ry; exact PySem.EqMixed.eq_str_int (fin_bl I q (by simp))
    | str j=>obtain ⟨t',rfl⟩:=ry; exact eq_str (fin_bl I q dec_str)
    | _=>exact absurd (show false=true from hs) Bool.false_ne_true
  | byt i =>
    obtain ⟨t,rfl⟩:=rx
    cases y with
    | byt j=>obtain ⟨t',rfl⟩:=ry; exact PySem.W.eq_bytes (fin_bl I q dec_byt)
    | _=>exact absurd (show false=true from hs) Bool.false_ne_true
  | _=>cases y <;> exact absurd (show false=true from hs) Bool.false_ne_true
theorem op_ne:OpR X (compareOp .NotEq) rNe:=by
  intro pins s σ H x y v u Q I rx ry h
  obtain ⟨hs,q⟩:=h
  cases x with
  | non =>
    cases rx
    cases y with
    | non=>cases ry; exact PySem.EqNone.ne_none_none (fin_bl I q (by simp))
    | bl j=>cases ry; exact PySem.EqNone.ne_none_bool (fin_bl I q (by simp))
    | int j=>obtain ⟨t',rfl⟩:=ry; exact PySem.EqNone.ne_none_int (fin_bl I q (by simp))
    | str j=>obtain ⟨t',rfl⟩:=ry; exact PySem.EqNone.ne_none_str (fin_bl I q (by simp))
    | _=>exact absurd (show false=true from hs) Bool.false_ne_true
  | bl i =>
    cases rx
    cases y with
    | non=>cases ry; exact PySem.EqNone.ne_bool_none (fin_bl I q (by simp))
    | bl j=>cases ry; exact ne_bool (fin_bl I q (congrArg not dec_bl))
    | str j=>obtain ⟨t',rfl⟩:=ry; exact PySem.EqMixed.ne_bool_str (fin_bl I q (by simp))
    | _=>exact absurd (show false=true from hs) Bool.false_ne_true
  | int i =>
    obtain ⟨t,rfl⟩:=rx
    cases y with
    | non=>cases ry; exact PySem.EqNone.ne_int_none (fin_bl I q (by simp))
    | int j=>obtain ⟨t',rfl⟩:=ry; exact ne_int (fin_bl I q (congrArg not dec_int))
    | str j=>obtain ⟨t',rfl⟩:=ry; exact PySem.EqMixed.ne_int_str (fin_bl I q (by simp))
    | _=>exact absurd (show false=true from hs) Bool.false_ne_true
  | str i =>
    obtain ⟨t,rfl⟩:=rx
    cases y with
    | non=>cases ry; exact PySem.EqNone.ne_str_none (fin_bl I q (by simp))
    | bl j=>cases ry; exact PySem.EqMixed.ne_str_bool (fin_bl I q (by simp))
    | int j=>obtain ⟨t',rfl⟩:=ry; exact PySem.EqMixed.ne_str_int (fin_bl I q (by simp))
    | str j=>obtain ⟨t',rfl⟩:=ry; exact ne_str (fin_bl I q (congrArg not dec_str))
    | _=>exact absurd (show false=true from hs) Bool.false_ne_true
  | byt i =>
    obtain ⟨t,rfl⟩:=rx
    cases y with
    | byt j=>obtain ⟨t',rfl⟩:=ry; exact PySem.W.ne_bytes (fin_bl I q (congrArg not dec_byt))
    | _=>exact absurd (show false=true from hs) Bool.false_ne_true
  | _=>cases y <;> exact absurd (show false=true from hs) Bool.false_ne_true
theorem op_lt:OpR X (compareOp .Lt) (rI0 fun i j=>.bl (decide (i < j))):=opB0 fun _ _ _ _ _ _ _ q=>lt_int q
theorem op_le:OpR X (compareOp .LtE) (rI0 fun i j=>.bl (decide (i≤j))):=opB0 fun _ _ _ _ _ _ _ q=>le_int q
theorem op_in_str:OpR X (compareOp .In) (fun x y H Q=>∃ i j,x=.str i∧y=.str j∧Q (.bl (!(Builtin.Str.occurrences j i 0 j.length 1).isEmpty)) H):=by
  intro pins s σ H x y v u Q I rx ry h
  obtain ⟨i,j,rfl,rfl,q⟩:=h
  obtain ⟨t,rfl⟩:=rx
  obtain ⟨t',rfl⟩:=ry
  exact in_str (fin_bl I q rfl)
theorem OpR.or {f:Value→Value→Sem Value}{r r':R2} (h:OpR X f r) (h':OpR X f r'):OpR X f (fun x y H Q=>r x y H Q∨r' x y H Q):=by
  intro pins s σ H x y v u Q I rx ry q
  rcases q with q | q
  · exact h pins s σ H x y v u Q I rx ry q
  · exact h' pins s σ H x y v u Q I rx ry q
theorem nomark (b:Expr) {op:CmpOp} (h:op≠.In:=by decide) (h2:op≠.NotIn:=by decide):behindInMarks op b=false:=by
  have e1:(op == CmpOp.In)=false:=by cases op <;> first | rfl | exact absurd rfl h
  have e2:(op == CmpOp.NotIn)=false:=by cases op <;> first | rfl | exact absurd rfl h2
  cases b <;> simp [behindInMarks,e1,e2]
theorem pe_cmpR {op:CmpOp}{r:R2} (ho:OpR X (compareOp op) r) (ha:PE X a ta) (hb:PE X b tb) (hm:behindInMarks op b=false):PE X (.Compare a [op] [b] pos) (tOp r ta tb):=by
  intro pins s σ H Q I h
  exact wpAny_Compare1 (binT ha hb I h fun v u s2 x y H2 I2 rx ry q=>ho pins s2 σ H2 x y v u Q I2 rx ry q) hm
def tTest (t:TE):TT:=fun σ H Q=>t σ H fun x H'=>∃ k,x=.bl k∧Q k H'
theorem pt_cmpR {op:CmpOp}{r:R2} (ho:OpR X (compareOp op) r) (ha:PE X a ta) (hb:PE X b tb) (hm:behindInMarks op b=false):PT X (.Compare a [op] [b] pos) (tTest (tOp r ta tb)):=by
  intro pins s σ H Q I h
  refine wpAny_isTrue_Compare1 (thn (ha pins s σ H _ I h) fun v s1 ⟨x,H1,I1,r1,q1⟩=>thn (hb pins s1 σ H1 _ I1 q1) fun u s2 ⟨y,H2,I2,r2,q2⟩ =>
    thn (ho pins s2 σ H2 x y v u _ I2 r1 r2 q2) fun c s3 ⟨z,H3,I3,r3,k,e,q3⟩=>?_) hm
  subst e
  cases r3
  exact wpAny_truthy_bool ⟨H3,I3,q3⟩
def tChain (r r':R2) (ta tb tc:TE):TE:=fun σ H Q=>ta σ H fun x H1=>tb σ H1 fun y H2=>r x y H2 fun z H3=>∃ k,z=.bl k ∧
  (if k=true then tc σ H3 fun w' H4=>r' y w' H4 Q else Q (.bl false) H3)
theorem pe_chain {op op':CmpOp}{r r':R2} (ho:OpR X (compareOp op) r) (ho':OpR X (compareOp op') r') (ha:PE X a ta) (hb:PE X b tb) (hc:PE X c tc)
    (hm:lastMarks [op,op'] [b,c]=false:=by with_unfolding_all rfl):PE X (.Compare a [op,op'] [b,c] pos) (tChain r r' ta tb tc):=by
  intro pins s σ H Q I h
  refine Compare_chain (thn (ha pins s σ H _ I h) fun v s1 ⟨x,H1,I1,r1,q1⟩=>chain_link (thn (hb pins s1 σ H1 _ I1 q1) fun u s2 ⟨y,H2,I2,r2,q2⟩ =>
    thn (ho pins s2 σ H2 x y v u _ I2 r1 r2 q2) fun d s3 ⟨z,H3,I3,r3,k,e,q3⟩=>?_)) hm
  subst e
  cases r3
  refine wpAny_truthy_bool ?_
  cases k with
  | false=>exact ite_ff ⟨.bl false,H3,I3,rfl,q3⟩
  | true=>exact ite_tt (chain_last (thn (hc pins s3 σ H3 _ I3 q3) fun w' s4 ⟨z',H4,I4,r4,q4⟩=>ho' pins s4 σ H4 y z' u w' Q I4 r2 r4 q4))
theorem pt_chain {op op':CmpOp}{r r':R2} (ho:OpR X (compareOp op) r) (ho':OpR X (compareOp op') r') (ha:PE X a ta) (hb:PE X b tb) (hc:PE X c tc)
    (hm:lastMarks [op,op'] [b,c]=false:=by with_unfolding_all rfl):PT X (.Compare a [op,op'] [b,c] pos) (tTest (tChain r r' ta tb tc)):=by
  intro pins s σ H Q I h
  refine isTrue_chain (thn (ha pins s σ H _ I h) fun v s1 ⟨x,H1,I1,r1,q1⟩=>test_link (thn (hb pins s1 σ H1 _ I1 q1) fun u s2 ⟨y,H2,I2,r2,q2⟩ =>
    thn (ho pins s2 σ H2 x y v u _ I2 r1 r2 q2) fun d s3 ⟨z,H3,I3,r3,k,e,q3⟩=>?_)) hm
  subst e
  cases r3
  refine wpAny_truthy_bool ?_
  cases k with
  | false =>
    obtain ⟨k',e',q'⟩:=q3
    cases e'
    exact ite_ff ⟨H3,I3,q'⟩
  | true =>
    refine ite_tt (test_last (thn (hc pins s3 σ H3 _ I3 q3) fun w' s4 ⟨z',H4,I4,r4,q4⟩=>thn (ho' pins s4 σ H4 y z' u w' _ I4 r2 r4 q4) fun d' s5 ⟨z2,H5,I5,r5,k2,e2,q5⟩=>?_))
    subst e2
    cases r5
    exact wpAny_truthy_bool ⟨H5,I5,q5⟩
theorem line63:(sizeLine:Nat) < 2 ^ 63:=by rw [sizeLine_eq]; decide
theorem op_add_str:OpR X (binaryOp .Add) (fun x y H Q=>∃ i j,x=.str i∧y=.str j∧i.length+j.length≤sizeLine∧Q (.str (i++j)) H):=by
  intro pins s σ H x y v u Q I rx ry h
  obtain ⟨i,j,rfl,rfl,hz,q⟩:=h
  obtain ⟨t,rfl⟩:=rx
  obtain ⟨t',rfl⟩:=ry
  exact add_str (fun t' tk=>⟨.str (i++j),H,I.tok _,⟨_,rfl⟩,q⟩) hz
theorem vals1 {x:V}{us:List Value} (r:Vals [x] us):∃ u,us=[u]∧RelV x u:=by
  cases r with
  | cons r1 r2=>cases r2; exact ⟨_,rfl,r1⟩
theorem vals2 {x y:V}{us:List Value} (r:Vals [x,y] us):∃ u w',us=[u,w']∧RelV x u∧RelV y w':=by
  cases r with
  | cons r1 r2 =>
    cases r2 with
    | cons r3 r4=>cases r4; exact ⟨_,_,rfl,r1,r3⟩
end
end L2
namespace L2
open PySem PySem.Spec PyProof.Rows
structure ObjM (h:Heap) (x dx C:Addr) (mA:Str→Option Value):Prop where
  obj:h.get? x=some (PySem.W.instObj C dx)
  ns:h.Ns1 dx mA
  ne:dx≠x
theorem lookIn_ns {h:Heap}{dx:Addr}{mA:Str→Option Value} (n:h.Ns1 dx mA):∃ od,h.get? dx=some od∧∀ name,PySem.W.lookIn name od=some (mA name):=by
  obtain ⟨o,es,ep,ho,hd,hk,_,hm⟩:=n
  refine ⟨o,ho,fun name=>?_⟩
  have e:=hm name
  unfold nsFind findBy at e
  rw [← Array.find?_toList] at e
  unfold PySem.W.lookIn
  rw [hd]
  dsimp only
  split
  · rename_i y q
    rw [q] at e
    exact congrArg some e
  · rename_i q
    rw [q] at e
    have a:es.toList.any (·.refKey)=false:=by
      rw [List.any_eq_false]
      intro y hy
      obtain ⟨z,t,hkey⟩:=hk y (Array.mem_toList_iff.mp hy)
      simp [DictEntry.refKey,hkey]
    have a':¬ es.toList.any (·.refKey)=true:=by rw [a]; exact Bool.false_ne_true
    rw [if_neg a']
    exact congrArg some e
theorem ObjM.look {h:Heap}{x dx C:Addr}{mA:Str→Option Value} (I:ObjM h x dx C mA):∃ od,PySem.W.InstAt h x (PySem.W.instObj C dx) C (some od)∧∀ name,PySem.W.lookIn name od=some (mA name) :=
  let ⟨od,ho,hl⟩:=lookIn_ns I.ns
  ⟨od,⟨I.obj,rfl,rfl,ho⟩,hl⟩
section
variable {prog:Program}{w:World}{A:Around}{E:Value→Shared→Prop}{s:Shared}{K:PySem.W.Frag}{x dx C f:Addr}{mA:Str→Option Value}{name:Str}{v:Value}
end
theorem RelO.some_of {v:V}{o:Option Value} (r:RelO (some v) o):∃ u,o=some u∧RelV v u:=by
  cases o with
  | none=>exact (show False from r).elim
  | some u=>exact ⟨u,rfl,r⟩
section
variable {P:Program}{w:World}{H H':Hp}{h h':Heap}{a C dx:Addr}{fs fs':List (Str × V)}
theorem ins_get (hok:HOk P w H h) (e:H a=some (.ins C dx fs)):∃ mA,ObjM h a dx C mA∧(∀ f,RelO (fs.lookup f) (mA f))∧PySem.Within mA (fs.map (·.1))∧fs.length≤1000∧H dx=some (.own a):=by
  obtain ⟨d,z,ne,ob,mA,n,r,q⟩:=(show ObjOk P w H h a (.ins C dx fs) from hok a _ e)
  exact ⟨mA,⟨ob,n,ne⟩,r,q,z,d⟩
end
structure Cls (K:PySem.W.Frag) (C:Addr):Prop where
  pg:PySem.W.plainGet K C Str.empty=true
  hd:PySem.W.hasDictIn K C=true
  po:PySem.W.plainOver K C=true
  sa:PySem.W.findIn K (.ref C) "__setattr__" = some (some (.builtin "object.__setattr__"))
theorem Cls.get {K:PySem.W.Frag}{C:Addr} (c:Cls K C) (f:Str):PySem.W.plainGet K C f=true:=c.pg
section
variable {X:Cx}{pins:List (Addr × Obj)}{σ:St}{H:Hp}{s:Shared}{a C dx:Addr}{fs:List (Str × V)}{f:Str}{v:V}{A:Around}{E:Value→Shared→Prop}
end
section
variable {X:Cx}{o e value:Expr}{f:Str}{pos pos' tpos:Pos}{ta tv:TE}
end
section
variable {X:Cx}{pins:List (Addr × Obj)}{σ:St}{H:Hp}{s:Shared}{A:Around}{E:Value→Shared→Prop}{Q:Value→Shared→Prop}{c:Value}{b:Bool}
inductive TyOf (K:PySem.W.Frag) (H:Hp):V→Value→Prop where
  | non:TyOf K H .non (.type "NoneType")
  | bl (x:Bool):TyOf K H (.bl x) (.type "bool")
  | int (i:Int):TyOf K H (.int i) (.type "int")
  | str (x:Str):TyOf K H (.str x) (.type "str")
  | flt (x:UInt64):TyOf K H (.flt x) (.type "float")
  | lst {a:Addr} {xs:List V} (e:H a=some (.lst xs)):TyOf K H (.ref a) (.type "list")
  | frz {a:Addr} {o:Obj} {xs:List V} (e:H a=some (.frz o (.lst xs))):TyOf K H (.ref a) (.type "list")
  | tup {a:Addr} {xs:List V} (e:H a=some (.tup xs)):TyOf K H (.ref a) (.type "tuple")
  | dK {a:Addr} {kvs:List (Key × V)} (e:H a=some (.dK kvs)):TyOf K H (.ref a) (.type "dict")
  | dT {a:Addr} {kvs:List (List TKey × V)} (e:H a=some (.dT kvs)):TyOf K H (.ref a) (.type "dict")
  | ins {a C dx:Addr} {fs:List (Str × V)} (e:H a=some (.ins C dx fs)) (cl:Cls K C) (ha:PySem.W.findIn K (.ref C) "__class__" = some (some (.builtin "object.__class__")))
      (hn:PySem.W.specialIn K (.builtin "object.__class__") "__get__" = some (some (.builtin "getset_descriptor.__get__"))) (htk:PySem.W.takesIn K (.builtin "object.__class__")=some true)
      (hm:PySem.W.mroIn K C (.type "object")=some true):TyOf K H (.ref a) (.ref C)
theorem isinst_ok {x:V}{u t:Value} (I:Inv X pins σ H s) (rx:RelV x u) (ty:TyOf X.K H x t) (e:PySem.W.kitOne X.K t c=some b) (h:∀ tk,Q (.bool b) { s with toks:=tk }) :
    wpAny (model X.prog X.w) A (call (.builtin "isinstance") [u,c]) Q E s:=by
  cases ty with
  | non=>cases (show u=Value.none from rx); exact PySem.W.kia_one PySem.W.kitx_none I.kIn True.intro e (fun z=>nomatch z) h
  | bl y=>cases (show u=Value.bool y from rx); exact PySem.W.kia_one PySem.W.kitx_bool I.kIn True.intro e (fun z=>nomatch z) h
  | int i=>obtain ⟨t,q⟩:=(show ∃ t,u=Value.int i t from rx); cases q; exact PySem.W.kia_one PySem.W.kitx_int I.kIn True.intro e (fun z=>nomatch z) h
  | str y=>obtain ⟨t,q⟩:=(show ∃ t,u=Value.str y t from rx); cases q; exact PySem.W.kia_one PySem.W.kitx_str I.kIn True.intro e (fun z=>nomatch z) h
  | flt y=>obtain ⟨t,q⟩:=(show ∃ t,u=Value.float y t from rx); cases q; exact PySem.W.kia_one PySem.W.kitx_float I.kIn True.intro e (fun z=>nomatch z) h
  | @lst a xs ea =>
    cases (show u=Value.ref a from rx)
    obtain ⟨_,_,n,_,h1⟩:=(show ObjOk X.prog X.w H s.heap a (.lst xs) from I.hok a _ ea)
    exact PySem.W.kia_one PySem.W.kitx_list I.kIn ⟨_,h1,rfl⟩ e (fun z=>nomatch z) h
  | @frz a ob xs ea =>
    cases (show u=Value.ref a from rx)
    obtain ⟨_,_,_,n,_,h1⟩:=(show ObjOk X.prog X.w H s.heap a (.frz ob (.lst xs)) from I.hok a _ ea)
    exact PySem.W.kia_one PySem.W.kitx_list I.kIn ⟨_,h1,rfl⟩ e (fun z=>nomatch z) h
  | @tup a xs ea =>
    cases (show u=Value.ref a from rx)
    obtain ⟨_,_,_,p⟩:=(show ObjOk X.prog X.w H s.heap a (.tup xs) from I.hok a _ ea)
    obtain ⟨o,h1,h2,_⟩:=p
    exact PySem.W.kia_one PySem.W.kitx_tuple I.kIn ⟨o,h1,h2⟩ e (fun z=>nomatch z) h
  | @dK a kvs ea =>
    cases (show u=Value.ref a from rx)
    obtain ⟨_,_,vs,_,p⟩:=(show ObjOk X.prog X.w H s.heap a (.dK kvs) from I.hok a _ ea)
    obtain ⟨o,es,ep,h1,h2,_⟩:=p
    exact PySem.W.kia_one PySem.W.kitx_dict I.kIn ⟨o,h1,h2.1⟩ e (fun z=>nomatch z) h
  | @dT a kvs ea =>
    cases (show u=Value.ref a from rx)
    obtain ⟨_,_,xs,_,o,es,ep,h1,h2,_⟩:=(show ObjOk X.prog X.w H s.heap a (.dT kvs) from I.hok a _ ea)
    exact PySem.W.kia_one PySem.W.kitx_dict I.kIn ⟨o,h1,h2.1⟩ e (fun z=>nomatch z) h
  | @ins a C dx fs ea cl ha hn htk hm =>
    cases (show u=Value.ref a from rx)
    obtain ⟨mA,O,_⟩:=ins_get I.hok ea
    obtain ⟨od,J,_⟩:=O.look
    exact PySem.W.kia_one (PySem.W.kitx_own (cl.get _) cl.hd ha hn htk hm) I.kIn J e (fun z=>nomatch z) h
end
end L2
namespace L2
open PySem PySem.Spec PyProof.Rows
structure Room (k:Nat) (A:Around):Prop where
  hd:A.handled=none
  dp:A.depth+3 * k+5 < recursionLimit
  un:A.units+16 * k+200 < cLine
theorem Room.mono {j k:Nat}{A:Around} (r:Room k A) (h:j≤k):Room j A:=⟨r.hd,by have:=r.dp; omega,by have:=r.un; omega⟩
theorem Room.deeper {k:Nat}{A:Around} (r:Room (k+1) A) (env:Env):Room k (A.deeper env) :=
  ⟨r.hd,by have:=r.dp; show A.depth+1+3 * k+5 < _; omega,by have:=r.un; show A.units+3+16 * k+200 < _; omega⟩
theorem Room.in1 {k:Nat}{A:Around} (r:Room (k+1) A):Room k A.in1 :=
  ⟨r.hd,by have:=r.dp; show A.depth+3 * k+5 < _; omega,by have:=r.un; show A.units+1+16 * k+200 < _; omega⟩
theorem Room.depth {k:Nat}{A:Around} (r:Room k A):A.depth < recursionLimit:=by have:=r.dp; omega
theorem Room.units {k:Nat}{A:Around} (r:Room k A):A.units+64 < cLine:=by have:=r.un; omega
def tNil:TA:=fun _ H Q=>Q [] H
def tCons (ta:TE) (tr:TA):TA:=fun σ H Q=>ta σ H fun x H1=>tr σ H1 fun xs H2=>Q (x::xs) H2
section
variable {X:Cx}{e:Expr}{es:List Expr}{te:TE}{t:TA}{pos:Pos}
theorem pa_nil:PA X [] tNil:=fun _ _ _ _ H Q I h=>Calls.spliced_nil ⟨[],H,I,.nil,h⟩
theorem pa_cons (ha:PE X e te) (hr:PA X es t) (hs:starEach (e::es) X.env=(false,eval e X.env)::starEach es X.env:=by rfl):PA X (e::es) (tCons te t):=by
  intro pos pins s σ H Q I h
  rw [hs]
  show wpAny _ _ (spliced ((false,eval e X.env)::backTo pos (starEach es X.env))) _ _ s
  refine Calls.spliced_cons (thn (ha pins s σ H _ I h) fun u s1 ⟨x,H1,I1,r1,q1⟩=>?_)
  exact thn (hr pos pins s1 σ H1 _ I1 q1) fun us s2 ⟨xs,H2,I2,r2,q2⟩=>⟨x::xs,H2,I2,.cons r1 r2,q2⟩
def tTup (t:TA):TE:=fun σ H Q=>t σ H fun xs H1=>xs.length≤sizeLine∧∀ p,H1 p=none→Q (.ref p) (upd H1 p (.tup xs))
def tLst (t:TA):TE:=fun σ H Q=>t σ H fun xs H1=>xs.length≤sizeLine∧∀ p,H1 p=none→Q (.ref p) (upd H1 p (.lst xs))
theorem pe_tup {x1} (h:PA X es t):PE X (.Tuple es x1 pos) (tTup t):=by
  intro pins s σ H Q I hq
  refine wpAny_Tuple_spliced (thn (h pos pins s σ H _ I hq) fun us s1 ⟨xs,H1,I1,r,z,q⟩=>⟨by rw [← r.length]; exact z,?_⟩)
  have hf:H1 s1.heap.objs.size=none:=I1.hok.fresh (Nat.le_refl _)
  refine ⟨.ref s1.heap.objs.size,upd H1 s1.heap.objs.size (.tup xs),I1.laid (t':=s1.toks) (fun b u e=>Heap.get?_push_of_some _ e) (Nat.le_refl _) ?_,rfl,q _ hf⟩
  exact ⟨z,us,r,⟨_,Heap.get?_push_size _ rfl,rfl,_,rfl⟩⟩
theorem pe_lst (h:PA X es t):PE X (.List es pos) (tLst t):=by
  intro pins s σ H Q I hq
  refine wpAny_List_spliced (thn (h pos pins s σ H _ I hq) fun us s1 ⟨xs,H1,I1,r,z,q⟩=>⟨by rw [← r.length]; exact z,?_⟩)
  have hf:H1 s1.heap.objs.size=none:=I1.hok.fresh (Nat.le_refl _)
  refine ⟨.ref s1.heap.objs.size,upd H1 s1.heap.objs.size (.lst xs),I1.laid (t':=s1.toks) (fun b u e=>Heap.get?_push_of_some _ e) (Nat.le_refl _) ?_,rfl,q _ hf⟩
  exact ⟨z,us,0,r,Heap.get?_push_size _ rfl⟩
end
abbrev Sp:=List V→Hp→VK→XK→Prop
abbrev CXT:=List Env→Hp→Shared→XK→Value→Shared→Prop
structure Env0 (P:Program) (w:World) (K:PySem.W.Frag) (mg:Str→Option Value) (base:Heap) (A:Around) (outer:List Env) (s:Shared) (H:Hp):Prop where
  frames:A.frames=some outer
  mod:Mod K mg base
  bs:∀ b o,base.get? b=some o→s.heap.get? b=some o∧H b=none
  bsz:base.objs.size≤s.heap.objs.size
  funs:s.heap.FunFrames base outer
  frf:∀ b∈frs outer,H b=none
  hok:HOk P w H s.heap
  bare:AllBare s.gens
def CE (outer:List Env) (P:Program) (w:World) (H:Hp) (s:Shared) (Q:VK) (u:Value) (s':Shared):Prop :=
  ∃ v H',s'.os=s.os∧AllBare s'.gens∧Un (frs outer) [] H H' s.heap s'.heap∧HOk P w H' s'.heap∧RelV v u∧Q v H'
def CR (CX:CXT) (outer:List Env) (P:Program) (w:World) (H:Hp) (s:Shared) (Q:VK) (E:XK) (r:Result) (s':Shared):Prop :=
  match r with
  | .ok (.ret u)=>CE outer P w H s Q u s'
  | .ok _=>False
  | .error e=>CX outer H s E e s'
structure FnOk (P:Program) (w:World) (K:PySem.W.Frag) (mg:Str→Option Value) (base:Heap) (CX:CXT) (k:Nat) (f:Addr) (fd:FuncData) (ps:List Str) (sp:Sp):Prop where
  len:∀ vs H Q E,sp vs H Q E→vs.length=ps.length
  run:∀ (A:Around) (outer:List Env) (s:Shared) (H:Hp) (args:Args) (us:List Value) (vs:List V) (Q:VK) (E:XK),Room k A→Env0 P w K mg base A outer s H→BindsTo s fd args (ps.zip us)→Vals vs us→sp vs H Q E →
    codeAny (model P w) A (.call (.ref f) args) (CR CX outer P w H s Q E) s
theorem FnOk.imp {P:Program}{w:World}{K:PySem.W.Frag}{mg:Str→Option Value}{base:Heap}{CX:CXT}{k:Nat}{f:Addr}{fd:FuncData}{ps:List Str}{sp sp':Sp} (F:FnOk P w K mg base CX k f fd ps sp)
    (h:∀ vs H Q E,sp' vs H Q E→sp vs H Q E):FnOk P w K mg base CX k f fd ps sp' :=
  ⟨fun vs H Q E q=>F.len vs H Q E (h _ _ _ _ q),fun A outer s H args us vs Q E hr he hb hv hs=>F.run A outer s H args us vs Q E hr he hb hv (h _ _ _ _ hs)⟩
theorem Env0.in1 {P:Program}{w:World}{K:PySem.W.Frag}{mg:Str→Option Value}{base:Heap}{A:Around}{outer:List Env}{s:Shared}{H:Hp} (e:Env0 P w K mg base A outer s H) :
    Env0 P w K mg base A.in1 outer s H:=⟨e.frames,e.mod,e.bs,e.bsz,e.funs,e.frf,e.hok,e.bare⟩
section
variable {X:Cx}{pins:List (Addr × Obj)}{σ:St}{H:Hp}{s s':Shared}
theorem Inv.env0 (I:Inv X pins σ H s):Env0 X.prog X.w X.K X.mg X.base X.A X.stack s H :=
  ⟨I.ok.frames,I.ok.mod,I.bs,Nat.le_trans I.ok.bsz I.sz,I.stack,I.stkFree,I.hok,I.bare⟩
theorem Inv.after {Q:VK}{u:Value} (I:Inv X pins σ H s) (h:CE X.stack X.prog X.w H s Q u s'):EP X pins σ Q u s':=by
  obtain ⟨v,H',os,bare,un,hok,r,q⟩:=h
  obtain ⟨hh,g,d,t,os'⟩:=s'
  obtain rfl:os'=s.os:=os
  exact ⟨v,H',I.call (h':=hh) (g':=g) (d':=d) (t':=t) (ch:=[]) un hok bare (fun b z=>absurd z (by simp)),r,q⟩
end
def tCall (sp:Sp) (dvs:List V) (E:XK) (t:TA):TE:=fun σ H Q=>t σ H fun vs H1=>sp (vs++dvs) H1 Q E
def Binds (K:PySem.W.Frag) (fd:FuncData) (ps:List Str) (ds:List Value):Prop :=
  ∀ (s:Shared) (us:List Value),K.In s.heap→(us++ds).length=ps.length→BindsTo s fd ⟨us,[]⟩ (ps.zip (us++ds))
theorem Binds.all {K:PySem.W.Frag}{fd:FuncData}{ps:List Str} (h:∀ us:List Value,us.length=ps.length→bindArgs fd ⟨us,[]⟩=pure (ps.zip us)):Binds K fd ps []:=fun s us _ hl=>by
  rw [List.append_nil] at hl ⊢
  exact .of_eq (h us hl)
def Passes (CX:CXT) (X:Cx) (E:XK):Prop:=∀ (pins:List (Addr × Obj)) (σ:St) (H:Hp) (s:Shared) (e:Value) (s':Shared),Inv X pins σ H s→CX X.stack H s E e s'→X.xe e s'
section
variable {X:Cx}{CX:CXT}{k:Nat}{f C:Addr}{fd:FuncData}{ps:List Str}{sp:Sp}{dvs:List V}{ds:List Value}{E:XK}{x m:Str}{p pos apos:Pos}{e o:Expr}{es:List Expr}{ta:TE}{t:TA}
theorem run_fn {pins:List (Addr × Obj)}{σ:St}{H:Hp}{s:Shared}{Q:VK}{us:List Value}{vs:List V} (F:FnOk X.prog X.w X.K X.mg X.base CX k f fd ps sp) (hr:Room k X.A) (hb:Binds X.K fd ps ds) (hd:Vals dvs ds) (hx:Passes CX X E)
    (I:Inv X pins σ H s) (r:Vals vs us) (h:sp (vs++dvs) H Q E):wpAny (model X.prog X.w) X.A (call (.ref f) us) (EP X pins σ Q) X.xe s:=by
  have r2:Vals (vs++dvs) (us++ds):=r.append hd
  have hl:(us++ds).length=ps.length:=by rw [← r2.length]; exact F.len _ _ _ _ h
  refine wpAny_call (codeAny_mono (F.run X.A X.stack s H ⟨us,[]⟩ (us++ds) (vs++dvs) Q E hr I.env0 (hb s us I.kIn hl) r2 h) fun r s' hq=>?_)
  cases r with
  | error e=>exact hx pins σ H s e s' I hq
  | ok fl =>
    cases fl with
    | ret u=>exact I.after hq
    | next=>exact False.elim hq
    | brk=>exact False.elim hq
    | cont=>exact False.elim hq
theorem pe_call (F:FnOk X.prog X.w X.K X.mg X.base CX k f fd ps sp) (hr:Room k X.A) (hg:Gl X x) (hm:X.mg x=some (.ref f)) (hk:PySem.W.keepIn X.K (.ref f)=true) (hb:Binds X.K fd ps ds) (hd:Vals dvs ds) (hx:Passes CX X E)
    (ha:PA X (e::es) t) (hdb:(x == ("__debug__" : Str))=false:=by decide) (he:starEach (e::es) X.env=(false,eval e X.env)::starEach es X.env:=by rfl) (hpl:(backTo pos (starEach es X.env)).any (·.1)=false:=by rfl) :
    PE X (.Call (.Name x p) (e::es) [] pos) (tCall sp dvs E t):=by
  intro pins s σ H Q I h
  refine wpAny_Call_Name_kw (ld_glob I hg hm ?_ hdb)
  refine PySem.W.callWith_K (h₀:=X.base) I.ok.mod.kin hk (thn (ha pos pins s σ H _ I h) fun us s1 ⟨vs,H1,I1,r,q⟩=>⟨I1.kIn,?_⟩) he hpl
  exact run_fn F hr hb hd hx I1 r q
end
section
variable {X:Cx}{CX:CXT}{k:Nat}{f C:Addr}{fd:FuncData}{ps ks:List Str}{sp:Sp}{E:XK}{x m:Str}{p pos apos kpos:Pos}{e o:Expr}{es:List Expr}{kws:List Keyword}{te ta:TE}{t tk:TA}{nm:Option Str}
variable {g:List Value→List Value→List Value}{gV:List V→List V→List V}
end
structure FnScope (N P:List Str) (sc:Scope):Prop where
  kind:sc.kind=.function
  co:sc.isCoroutine=false
  gen:sc.isGenerator=false
  nd:N.Nodup
  pre:N.take P.length=P
  par:∀ x∈P,sc.names.lookup x=some .local∨sc.names.lookup x=some .cell
  nofree:∀ y∈sc.names,y.2≠.free
theorem bindL_out {kindOf:Str→Option NameKind}{x:Str}:∀ {binds:List (Str × Value)}{m:Str→Option Value},(∀ v,(x,v) ∉ binds)→bindL kindOf binds m x=m x
  | [],_,_=>rfl
  | (n,v)::r,m,h=>by
    unfold bindL
    rw [bindL_out fun w hw=>h w (List.mem_cons_of_mem _ hw)]
    split
    · have:x≠n:=by rintro rfl; exact h v List.mem_cons_self
      simp [this]
    · rfl
theorem bindC_out {kindOf:Str→Option NameKind}{x:Str}:∀ {binds:List (Str × Value)}{m:Str→Option Value},(∀ v,(x,v) ∉ binds)→bindC kindOf binds m x=m x
  | [],_,_=>rfl
  | (n,v)::r,m,h=>by
    unfold bindC
    rw [bindC_out fun w hw=>h w (List.mem_cons_of_mem _ hw)]
    split
    · rfl
    · have:x≠n:=by rintro rfl; exact h v List.mem_cons_self
      simp [this]
theorem bindL_get {kindOf:Str→Option NameKind}{x:Str}{v:Value}:∀ {P:List Str}{vs:List Value}{i:Nat}{m:Str→Option Value},P.Nodup→P[i]?=some x→vs[i]?=some v→kindOf x=some .local →
    bindL kindOf (P.zip vs) m x=some v
  | [],_,_,_,_,h,_,_=>by simp at h
  | _::_,[],_,_,_,_,h,_=>by simp at h
  | p::P,w::vs,0,m,nd,h1,h2,hk=>by
    simp at h1 h2; subst h1; subst h2
    show bindL kindOf ((p,w)::P.zip vs) m p=_
    unfold bindL
    rw [bindL_out fun v hv=>(List.nodup_cons.mp nd).1 (List.of_mem_zip hv).1,if_pos hk]
    simp
  | p::P,w::vs,i+1,m,nd,h1,h2,hk=>by
    show bindL kindOf ((p,w)::P.zip vs) m x=_
    unfold bindL
    exact bindL_get (i:=i) (List.nodup_cons.mp nd).2 (by simpa using h1) (by simpa using h2) hk
theorem bindC_get {kindOf:Str→Option NameKind}{x:Str}{v:Value}:∀ {P:List Str}{vs:List Value}{i:Nat}{m:Str→Option Value},P.Nodup→P[i]?=some x→vs[i]?=some v→kindOf x≠some .local →
    bindC kindOf (P.zip vs) m x=some v
  | [],_,_,_,_,h,_,_=>by simp at h
  | _::_,[],_,_,_,_,h,_=>by simp at h
  | p::P,w::vs,0,m,nd,h1,h2,hk=>by
    simp at h1 h2; subst h1; subst h2
    show bindC kindOf ((p,w)::P.zip vs) m p=_
    unfold bindC
    rw [bindC_out fun v hv=>(List.nodup_cons.mp nd).1 (List.of_mem_zip hv).1,if_neg hk]
    simp
  | p::P,w::vs,i+1,m,nd,h1,h2,hk=>by
    show bindC kindOf ((p,w)::P.zip vs) m x=_
    unfold bindC
    exact bindC_get (i:=i) (List.nodup_cons.mp nd).2 (by simpa using h1) (by simpa using h2) hk
def start (N:List Str) (vs:List V):St:=vs.map some++List.replicate (N.length - vs.length) none
def cxOf (CX:CXT) (P:Program) (w:World) (K:PySem.W.Frag) (mg:Str→Option Value) (base:Heap) (N:List Str) (qual:Str) (scope:Scope) (f:Addr) (cd:Value) (A:Around) (outer:List Env) (s:Shared) (H:Hp) (E:XK):Cx where
  prog:=P
  w:=w
  K:=K
  mg:=mg
  base:=base
  A:=A.deeper (envOfC qual scope s.heap.objs.size f cd)
  N:=N
  s₀:=s
  H₀:=H
  env:=envOfC qual scope s.heap.objs.size f cd
  outer:=outer
  stack:=envOfC qual scope s.heap.objs.size f cd::outer
  ex:=[]
  calm:=true
  fn:=fun _=>true
  pn:=[]
  xe:=fun e s'=>wpAny (model P w) (A.deeper (envOfC qual scope s.heap.objs.size f cd)) (leaving (envOfC qual scope s.heap.objs.size f cd) e) (fun _ s''=>CX outer H s E e s'') (fun e' s''=>CX outer H s E e' s'') s'
theorem cell_has {sc:Scope}{n:Nat}{x:Str} (h:sc.names.lookup x=some .cell):∃ c,(cellsFrom n sc.names []).lookup x=some c:=by
  have q:=PySem.W.cellsFrom_some sc.names n [] (.inl h)
  exact Option.isSome_iff_exists.mp q
theorem inv_start {CX:CXT}{P:Program}{w:World}{K:PySem.W.Frag}{mg:Str→Option Value}{base:Heap}{N ps:List Str}{qual:Str}{scope:Scope}{f:Addr}{cd:Value}{A:Around}{outer:List Env}{s s1:Shared}{H:Hp}{E:XK}{us:List Value}{vs:List V}
    (S:FnScope N ps scope) (hd:A.handled=none) (e0:Env0 P w K mg base A outer s H) (hl:vs.length=ps.length) (r:Vals vs us)
    (x:InCallC s s.heap.objs.size (bindL (envOfC qual scope s.heap.objs.size f cd).kindOf (ps.zip us) fun _=>none) (cellsFrom (s.heap.objs.size+1) scope.names []) (bindC (envOfC qual scope s.heap.objs.size f cd).kindOf (ps.zip us) fun _=>none) s1) :
    Inv (cxOf CX P w K mg base N qual scope f cd A outer s H E) [] (start N vs) H s1:=by
  have hpl:ps.length≤N.length:=by have:=congrArg List.length S.pre; rw [List.length_take] at this; omega
  obtain ⟨h1,tk,rfl,hk⟩:=x.done
  have noA:∀ b:Addr,b ∉ (cxOf CX P w K mg base N qual scope f cd A outer s H E).ex:=fun b z=>absurd (show b∈([]:List Addr) from z) (by simp)
  refine ⟨⟨e0.mod,S.kind,rfl,rfl,Nat.le_refl _,fun y z c h1 h2=>?_,fun y hy=>?_,fun y c _ h=>?_,fun _=>hd,Around.frames_deeper e0.frames,.inr ⟨rfl,rfl⟩,fun b z=>absurd z (noA b),e0.bs,e0.bsz,fun b _ _=>noA b,fun b z=>absurd z (noA b),e0.funs,e0.frf⟩,
    rfl,e0.bare,Un.kept hk,⟨_,x.toInCall.ns,fun i y v h1 h2 h3=>?_⟩,fun y c h=>⟨_,x.cell y c h⟩,e0.hok.fresh (Nat.le_refl _),fun y c h=>?_,fun p hp=>absurd (show p∈([]:List (Addr × Obj)) from hp) (by simp),e0.hok.kept hk,?_⟩
  · exact name_of_addr x.apart (PySem.mem_of_lookup h1) (PySem.mem_of_lookup h2)
  · have hy:scope.names.lookup y=some .cell∨scope.names.lookup y=some .free:=hy
    rcases hy with hy | hy
    · exact cell_has hy
    · exact absurd rfl (S.nofree _ (PySem.mem_of_lookup hy))
  · exact Nat.le_of_lt (x.above y c (PySem.mem_of_lookup h))
  · have hi:i < vs.length:=by
      unfold start at h2
      by_cases hi:i < vs.length
      · exact hi
      · rw [List.getElem?_append_right (by simpa using hi)] at h2
        rw [List.getElem?_replicate] at h2
        split at h2 <;> cases h2
    have ha:vs[i]?=some v:=by
      unfold start at h2
      rw [List.getElem?_append_left (by simpa using hi),List.getElem?_map] at h2
      cases e:vs[i]? with
      | none=>rw [e] at h2; cases h2
      | some a=>rw [e] at h2; cases h2; rfl
    obtain ⟨u,hu,rv⟩:=r.get ha
    have hp:ps[i]?=some y:=by
      rw [← S.pre,List.getElem?_take_of_lt (by omega)]; exact h1
    have ndP:ps.Nodup:=by rw [← S.pre]; exact S.nd.sublist (List.take_sublist _ _)
    refine ⟨u,rv,?_⟩
    rcases S.par y (List.mem_of_getElem? hp) with k | k
    · exact .inl ⟨k,bindL_get ndP hp hu k⟩
    · obtain ⟨c,e⟩:=cell_has (n:=s.heap.objs.size+1) k
      refine .inr ⟨.inl k,c,e,?_⟩
      have q:=x.cell y c e
      rw [bindC_get ndP hp hu (by show scope.names.lookup y≠_; rw [k]; decide)] at q
      exact q
  · exact e0.hok.fresh (Nat.le_of_lt (x.above y c (PySem.mem_of_lookup h)))
  · unfold start
    show _=N.length
    rw [List.length_append,List.length_map,List.length_replicate]
    omega
theorem fn_of {CX:CXT}{P:Program}{w:World}{K:PySem.W.Frag}{mg:Str→Option Value}{base:Heap}{k:Nat}{f:Addr}{name qual:Str}{params:Arguments}{body:List Stmt}{scope:Scope}{dV kV doc pm cdv ct oc:Value}{an od:Option Addr}
    {osl:Array (Option Value)} {N ps:List Str} {sp:Sp} (lk:K.lookup f=some ⟨oc,od,.func (PySem.W.fnOf name qual params body scope dV kV doc pm an cdv ct),osl⟩) (hcd:PySem.W.codeIn K cdv qual=true) (S:FnScope N ps scope)
    (len:∀ vs H Q E,sp vs H Q E→vs.length=ps.length)
    (hbody:∀ (A:Around) (outer:List Env) (s:Shared) (H:Hp) (vs:List V) (Q:VK) (E:XK),Room k (A.deeper (envOfC qual scope s.heap.objs.size f cdv))→sp vs H Q E →
      ∃ t,PSs (cxOf CX P w K mg base N qual scope f cdv A outer s H E) body t∧t { nx:=fun _ H'=>Q .non H',rt:=Q } (start N vs) H) :
    FnOk P w K mg base CX (k+1) f (PySem.W.fnOf name qual params body scope dV kV doc pm an cdv ct) ps sp:=by
  refine ⟨len,fun A outer s H args us vs Q E hr e0 hb r hsp=>?_⟩
  have hl:=len _ _ _ _ hsp
  have KX:K.In s.heap:=e0.mod.kin.keeps fun b o e=>(e0.bs b o e).1
  have lim:s.heap.NoLimit:=e0.mod.nolimit.keeps fun b o e=>(e0.bs b o e).1
  have hkind:∀ y∈ps.zip us,scope.names.lookup y.1=some .local∨(scope.names.lookup y.1=some .cell∧((cellsFrom (s.heap.objs.size+1) scope.names []).lookup y.1).isSome=true):=fun ⟨n,v⟩ hy=>by
    rcases S.par n (List.of_mem_zip hy).1 with q | q
    · exact .inl q
    · exact .inr ⟨q,PySem.W.cellsFrom_some _ _ _ (.inl q)⟩
  refine codeAny_call_function hr.depth (KX _ _ lk) rfl S.co S.gen rfl (PySem.W.codeRec_of KX hcd) (hb _ _ _ _ ?_)
  refine wpAny_newFunctionEnv_cells S.kind hkind fun env he s1 x=>?_
  subst he
  refine ⟨lim.keeps x.toInCall.keep,codeAny_func ?_⟩
  obtain ⟨t,ht,hq⟩:=hbody A outer s H vs Q E (hr.deeper _) hsp
  have I:Inv (cxOf CX P w K mg base N qual scope f cdv A outer s H E) [] (start N vs) H s1:=inv_start S hr.hd e0 hl r x
  refine wpAny_mono (ht [] s1 (start N vs) H _ I hq) (fun fl s' hs=>?_) fun e s' hs=>hs
  have fin:∀ {σ':St} {H':Hp} {v:V} {u:Value},Inv (cxOf CX P w K mg base N qual scope f cdv A outer s H E) [] σ' H' s'→RelV v u→Q v H'→CE outer P w H s Q u s' :=
    fun {σ' H' v u} J rv q=>⟨v,H',J.os,J.bare,J.base,J.hok,rv,q⟩
  cases fl with
  | ret u =>
    obtain ⟨v,σ',H',J,rv,q⟩:=hs
    exact fin J rv q
  | next =>
    obtain ⟨σ',H',J,q⟩:=hs
    exact fin (v:=V.non) (u:=Value.none) J rfl q
  | brk =>
    obtain ⟨_,_,_,q⟩:=hs
    exact False.elim q
  | cont =>
    obtain ⟨_,_,_,q⟩:=hs
    exact False.elim q
end L2
namespace L2
open PySem PySem.Spec PyProof.Rows
section
variable {X:Cx}{x:Str}{p pos:Pos}{e:Expr}{es:List Expr}{t:TA}{id T:String}{r:List V→Hp→VK→Prop}
def tCB (r:List V→Hp→VK→Prop) (t:TA):TE:=fun σ H Q=>t σ H fun vs H1=>r vs H1 Q
theorem pe_callB (hc:CallR X (.builtin id) r) (hg:Gl X x) (hm:X.mg x=none) (hv:bootBuiltins x=some (.builtin id)) (ha:PA X (e::es) t) (hn:x ≠ "__name__" := by decide) (hdb:(x == ("__debug__" : Str))=false:=by decide)
    (he:starEach (e::es) X.env=(false,eval e X.env)::starEach es X.env:=by rfl) (hpl:(backTo pos (starEach es X.env)).any (·.1)=false:=by rfl):PE X (.Call (.Name x p) (e::es) [] pos) (tCB r t):=by
  intro pins s σ H Q I h
  refine wpAny_Call_Name_kw (ld_blt I hg hm hv ?_ hn hdb)
  exact PyProof.Rows.callWith_builtin1 (thn (ha pos pins s σ H _ I h) fun us s1 ⟨vs,H1,I1,r1,q1⟩=>hc pins s1 σ H1 vs us Q I1 r1 q1) he hpl
theorem pe_callTy (hc:CallR X (.type T) r) (hg:Gl X x) (hm:X.mg x=none) (hv:bootBuiltins x=some (.type T)) (ha:PA X (e::es) t) (hn:x ≠ "__name__" := by decide) (hdb:(x == ("__debug__" : Str))=false:=by decide)
    (he:starEach (e::es) X.env=(false,eval e X.env)::starEach es X.env:=by rfl) (hpl:(backTo pos (starEach es X.env)).any (·.1)=false:=by rfl):PE X (.Call (.Name x p) (e::es) [] pos) (tCB r t):=by
  intro pins s σ H Q I h
  refine wpAny_Call_Name_kw (ld_blt I hg hm hv ?_ hn hdb)
  exact PyProof.Rows.callWith_type1 (thn (ha pos pins s σ H _ I h) fun us s1 ⟨vs,H1,I1,r1,q1⟩=>hc pins s1 σ H1 vs us Q I1 r1 q1) he hpl
end
end L2
namespace HT
open PySem PyProof.Rows
section
open PySem.SeqAt
open PySem.AutoSeq1 (wpAny_loadPart')
open PySem.MeetsSeq PySem.MeetsSeq2 PySem.MeetsSeq3
end
section
variable {prog:Program}{w:World}{A:Around}{E:Value→Shared→Prop}{s:Shared}
theorem cat_tup {t b:Addr}{vs ws:List Value}{Q:Value→Shared→Prop} (ht:IsTup s.heap t vs.toArray) (hb:IsTup s.heap b ws.toArray) (hv:vs≠[])
    (h1:ws=[]→Q (.ref t) s) (h2:ws≠[]→Q (.ref s.heap.objs.size) { s with heap:=s.heap.push { cls:=.type "tuple",data:=.seq (vs++ws).toArray } })
    (hsz:vs.length+ws.length≤sizeLine):wpAny (model prog w) A (binaryOp .Add (.ref t) (.ref b)) Q E s:=by
  obtain ⟨⟨cls,dd,data,sl⟩,ho,hc,n,hd⟩:=id ht
  obtain ⟨⟨cls2,dd2,data2,sl2⟩,ho2,hc2,n2,hd2⟩:=id hb
  simp only at hc hd hc2 hd2
  subst hc hd hc2 hd2
  have e:vs.toArray++ws.toArray=(vs++ws).toArray:=by simp
  by_cases hw:ws=[]
  · exact concat_meets ⟨_,ho,rfl⟩ ⟨_,ho2,rfl⟩ noFill_tuple_add seq_tuple_add PySem.F.slot_tuple_add PySem.F.entry_tuple_add (PySem.F.args_tuple_add_2 _ _)
      (tuple_addW1 t b vs.toArray ws.toArray n n2 dd dd2 sl sl2 (by simpa using hv) (by simp [hw])) ⟨ho,ho2,h1 hw⟩
  · refine concat_meets ⟨_,ho,rfl⟩ ⟨_,ho2,rfl⟩ noFill_tuple_add seq_tuple_add PySem.F.slot_tuple_add PySem.F.entry_tuple_add (PySem.F.args_tuple_add_2 _ _)
      (tuple_addW2 t b vs.toArray ws.toArray n n2 dd dd2 sl sl2 (by simpa using hv) (by simpa using hw) (by rw [List.size_toArray,List.size_toArray]; exact hsz)) ⟨ho,ho2,?_⟩
    rw [e]
    exact h2 hw
def sIx (n d:Nat):Option Int→Nat
  | none=>d
  | some v=>if v < 0 then (v+(n:Int)).toNat else min v.toNat n
theorem sIx_nat (n d k:Nat):sIx n d (some (k:Int))=min k n:=by
  show (if (k:Int) < 0 then ((k:Int)+(n:Int)).toNat else min (k:Int).toNat n)=min k n
  rw [if_neg (by omega),Int.toNat_natCast]
theorem sIx_le (n d:Nat) (hd:d≤n) (o:Option Int):sIx n d o≤n:=by
  cases o with
  | none=>exact hd
  | some v =>
    show (if v < 0 then (v+(n:Int)).toNat else min v.toNat n)≤n
    by_cases hv:v < 0
    · rw [if_pos hv]; omega
    · rw [if_neg hv]; exact Nat.min_le_right _ _
theorem clip_eq (v:Int) (n d:Nat):(if v < 0 then max (v+(n:Int)) 0 else min v (n:Int))=((sIx n d (some v):Nat):Int):=by
  show (if v < 0 then max (v+(n:Int)) 0 else min v (n:Int))=(((if v < 0 then (v+(n:Int)).toNat else min v.toNat n):Nat):Int)
  by_cases hv:v < 0
  · simp only [if_pos hv]; omega
  · simp only [if_neg hv]; omega
theorem adjust_gen (lo hi:Option Int) (n:Nat):Builtin.Slice.sliceAdjust lo hi 1 (n:Int)=(((sIx n 0 lo:Nat):Int),((sIx n n hi:Nat):Int)):=by
  have h1:¬ ((1:Int) < 0):=by omega
  unfold Builtin.Slice.sliceAdjust
  simp only [h1,if_false]
  refine Prod.ext ?_ ?_
  · cases lo with
    | none=>rfl
    | some v=>exact clip_eq v n 0
  · cases hi with
    | none=>rfl
    | some v=>exact clip_eq v n n
theorem places_gen (i j:Nat):Builtin.Slice.slicePlaces (i:Int) (j:Int) 1=j - i:=by
  unfold Builtin.Slice.slicePlaces
  have h1:(1:Int) > 0:=by omega
  simp only [h1,if_true,Int.ediv_one]
  split <;> omega
theorem slicePart_ {v:Value}{o:Option Int}{Q:Option Int→Shared→Prop} (p:IsPart v o) (h:Q o s):wpAny (model prog w) A (Builtin.Slice.slicePartIndex v) Q E s:=by
  cases p with
  | none=>exact slicePart_none h
  | int i t=>exact slicePart_int h
theorem sliceApplied_gen {sl:Addr}{vl vu:Value}{lo hi:Option Int}{n:Nat}{Q:Int × Int × Nat→Shared→Prop} (hs:s.heap.IsSliceOf sl vl vu .none) (pl:IsPart vl lo) (pu:IsPart vu hi)
    (h:Q (((sIx n 0 lo:Nat):Int),1,sIx n n hi - sIx n 0 lo) s):wpAny (model prog w) A (Builtin.Slice.sliceApplied (.ref sl) (pure (n:Int))) Q E s:=by
  obtain ⟨os,hos,hcs,hds⟩:=id hs
  unfold Builtin.Slice.sliceApplied Builtin.Slice.sliceFields
  refine wpAny_bind (wpAny_bind (wpAny_field hos hds (x:=vl) rfl (wpAny_bind (wpAny_field hos hds (x:=vu) rfl (wpAny_bind (wpAny_field hos hds (x:=.none) rfl (wpAny_pure ?_)))))))
  refine wpAny_bind (slicePart_none ?_)
  show wpAny _ _ (if ((1:Int) == 0)=true then _ else _) _ _ s
  rw [if_neg (by decide)]
  refine wpAny_bind (slicePart_ pl (wpAny_bind (slicePart_ pu (wpAny_bind (wpAny_pure ?_)))))
  show wpAny _ _ (match Builtin.Slice.sliceAdjust lo hi 1 (n:Int) with | (lo,hi)=>pure (lo,(1:Int),Builtin.Slice.slicePlaces lo hi 1)) _ _ s
  rw [adjust_gen lo hi n]
  show wpAny _ _ (pure (((sIx n 0 lo:Nat):Int),(1:Int),Builtin.Slice.slicePlaces ((sIx n 0 lo:Nat):Int) ((sIx n n hi:Nat):Int) 1)) _ _ s
  rw [places_gen]
  exact wpAny_pure h
theorem pick_gen (xs:Array Value) (i k:Nat):((List.range k).filterMap fun (m:Nat)=>xs[((i:Int)+(m:Int) * 1).toNat]?).toArray=((xs.toList.drop i).take k).toArray:=by
  have e:(fun (m:Nat)=>xs[((i:Int)+(m:Int) * 1).toNat]?)=fun m=>xs[i+m]?:=by
    funext m
    have:((i:Int)+(m:Int) * 1).toNat=i+m:=by omega
    rw [this]
  rw [e]
  have:=pick_run xs i k
  rw [List.filterMap_map] at this
  have e2:((fun x=>xs[x]?) ∘ fun x=>i+x)=fun m=>xs[i+m]?:=rfl
  rw [e2] at this
  rw [this]
theorem getItem_tuple_cut {t sl:Addr}{items:Array Value}{vl vu:Value}{lo hi:Option Int}{Q:Value→Shared→Prop} (ht:IsTup s.heap t items) (hs:s.heap.IsSliceOf sl vl vu .none) (pl:IsPart vl lo) (pu:IsPart vu hi)
    (hw:¬ (sIx items.size 0 lo=0∧sIx items.size items.size hi=items.size))
    (h:Q (.ref s.heap.objs.size) { s with heap:=s.heap.push { cls:=.type "tuple",data:=.seq ((items.toList.drop (sIx items.size 0 lo)).take (sIx items.size items.size hi - sIx items.size 0 lo)).toArray } })
    (hsz:items.size≤sizeLine):wpAny (model prog w) A (getItem (.ref t) (.ref sl)) Q E s:=by
  have htake:sizeOk (.seq ((items.toList.drop (sIx items.size 0 lo)).take (sIx items.size items.size hi - sIx items.size 0 lo)).toArray):=by
    show ((items.toList.drop (sIx items.size 0 lo)).take (sIx items.size items.size hi - sIx items.size 0 lo)).toArray.size≤sizeLine
    rw [List.size_toArray,List.length_take,List.length_drop,Array.length_toList]
    omega
  have hj:sIx items.size items.size hi≤items.size:=sIx_le _ _ (Nat.le_refl _) hi
  obtain ⟨os,hos,hcs,hds⟩:=id hs
  have hTs:s.TypeIs (.ref sl) "slice" := ⟨os,hos,hcs⟩
  unfold getItem
  try with_reducible refine wpAny_holding ?_
  first | refine wpAny_bind (wpAny_pure ?_) | skip
  refine wpAny_bind (wpAny_sequenceKey ht.typeIs (by decide) ?_)
  refine wpAny_bind (wpAny_callSpecial?_slot (name:=Str.ofString "__getitem__") ht.typeIs PyProof.Rows.slot_tuple_getitem
    (wpAny_call_entry PyProof.Rows.slot_tuple_getitem ht.typeIs entry_tuple_getitem ?_ (args_tuple_getitem _ _)))
  show wpAny _ _ (Builtin.Tuple.tupleItemsOf (.ref t) >>= _) _ _ s
  refine wpAny_bind (tupleItemsOf_ ht ?_)
  refine wpAny_bind (wpAny_typeOf hTs ?_)
  rw [if_pos (by decide)]
  refine wpAny_bind (sliceApplied_gen hs pl pu ?_)
  have hno:¬ ((((sIx items.size 0 lo:Nat):Int) == 0 && (1:Int) == 1 && (sIx items.size items.size hi - sIx items.size 0 lo) == items.size)=true):=by
    intro q
    rw [Bool.and_eq_true,Bool.and_eq_true] at q
    have q1:((sIx items.size 0 lo:Nat):Int)=0:=eq_of_beq q.1.1
    have q2:sIx items.size items.size hi - sIx items.size 0 lo=items.size:=eq_of_beq q.2
    exact hw ⟨by omega,by omega⟩
  show wpAny _ _ (if (((sIx items.size 0 lo:Nat):Int) == 0 && (1:Int) == 1 && (sIx items.size items.size hi - sIx items.size 0 lo) == items.size)=true then _ else _) _ _ s
  rw [if_neg hno,pick_gen]
  first
    | exact wpAny_bind (m:=Builtin.Tuple.tupleExact _) (wpAny_newObj_type (wpAny_pure ⟨_,rfl,wpAny_pure h⟩) htake)
    | exact wpAny_bind (m:=Builtin.Tuple.tupleExact _) (wpAny_newObj_type (wpAny_bind (wpAny_pure (wpAny_pure ⟨_,rfl,wpAny_pure h⟩))) htake)
    | exact wpAny_bind (wpAny_bind (m:=Builtin.Tuple.tupleExact _) (wpAny_newObj_type (wpAny_pure (wpAny_pure ⟨_,rfl,wpAny_pure h⟩)) htake))
    | exact wpAny_bind (wpAny_bind (m:=Builtin.Tuple.tupleExact _) (wpAny_newObj_type (wpAny_pure ⟨_,rfl,wpAny_pure h⟩) htake))
end
end HT
namespace L2
open PySem PySem.Spec PyProof.Rows
abbrev TO:=St→Hp→(Option Int→Hp→Prop)→Prop
def PO (X:Cx) (e:Option Expr) (t:TO):Prop :=
  ∀ (pins:List (Addr × Obj)) (s:Shared) (σ:St) (H:Hp) (Q:Option Int→Hp→Prop),Inv X pins σ H s→t σ H Q →
    wpAny (model X.prog X.w) X.A (evalPart e X.env) (fun u s'=>∃ o H',Inv X pins σ H' s'∧IsPart u o∧Q o H') X.xe s
def tNoPart:TO:=fun _ H Q=>Q none H
def tPart (t:TE):TO:=fun σ H Q=>t σ H fun x H1=>∃ i,x=.int i∧Q (some i) H1
theorem intsAre_of {ns:List Int}:∀ {us:List Value},Vals (ns.map V.int) us→IntsAre us ns:=by
  induction ns with
  | nil=>intro us r; rw [List.map_nil] at r; cases r; exact .nil
  | cons n ns ih =>
    intro us r
    rw [List.map_cons] at r
    cases r with
    | cons r1 r2 =>
      obtain ⟨t,e⟩:=r1
      subst e
      exact .cons n t (ih r2)
section
variable {X:Cx}{e:Expr}{te:TE}{lo hi:Option Expr}{tl th:TO}{pos p2:Pos}
theorem po_none:PO X none tNoPart:=by
  intro pins s σ H Q I h
  rw [evalPart_none]
  exact wpAny_pure ⟨none,H,I,.none,h⟩
theorem po_some (h:PE X e te):PO X (some e) (tPart te):=by
  intro pins s σ H Q I hw
  rw [evalPart_some]
  refine thn (h pins s σ H _ I hw) fun u s1 ⟨x,H1,I1,r1,q1⟩=>?_
  obtain ⟨i,rfl,q⟩:=q1
  obtain ⟨t,rfl⟩:=r1
  exact ⟨some i,H1,I1,.int i t,q⟩
def SlR (X:Cx) (r:V→Option Int→Option Int→Hp→VK→Prop):Prop :=
  ∀ (pins:List (Addr × Obj)) (s:Shared) (σ:St) (H:Hp) (x:V) (v vl vu:Value) (lo hi:Option Int) (sl:Addr) (Q:VK),Inv X pins σ H s→RelV x v→s.heap.IsSliceOf sl vl vu .none→IsPart vl lo→IsPart vu hi→r x lo hi H Q →
    ∃ T id,typeLookup (.type T) "__getitem__" = pure (some (.builtin id))∧s.TypeIs v T∧wpAny (model X.prog X.w) X.A (getItem v (.ref sl)) (EP X pins σ Q) X.xe s
def tSl (r:V→Option Int→Option Int→Hp→VK→Prop) (te:TE) (tl th:TO):TE:=fun σ H Q=>te σ H fun x H1=>tl σ H1 fun l H2=>th σ H2 fun u H3=>r x l u H3 Q
theorem pe_slice {r:V→Option Int→Option Int→Hp→VK→Prop} (hr:SlR X r) (he:PE X e te) (hl:PO X lo tl) (hu:PO X hi th):PE X (.Subscript e (.Slice lo hi none p2) pos) (tSl r te tl th):=by
  intro pins s σ H Q I h
  refine Subscript_ (thn (he pins s σ H _ I h) fun v s1 ⟨x,H1,I1,r1,q1⟩=>?_)
  refine wpAny_Slice (thn (hl pins s1 σ H1 _ I1 q1) fun vl s2 ⟨l,H2,I2,pl,q2⟩=>thn (hu pins s2 σ H2 _ I2 q2) fun vu s3 ⟨u,H3,I3,pu,q3⟩=>?_)
  rw [evalPart_none]
  refine wpAny_pure ?_
  have I4:Inv X pins σ H3 { s3 with heap:=s3.heap.push { cls:=.type "slice",data:=.fields #[vl,vu,.none] } }:=I3.kept (t':=s3.toks) fun b ob q=>Heap.get?_push_of_some _ q
  obtain ⟨T,id,hT,ht,hg⟩:=hr pins { s3 with heap:=s3.heap.push { cls:=.type "slice",data:=.fields #[vl,vu,.none] } } σ H3 x v vl vu l u s3.heap.objs.size Q I4 r1 (Heap.IsSliceOf.new ..) pl pu q3
  show wpAny (model X.prog X.w) X.A (subscriptTail e (.Slice lo hi none p2) v (.ref s3.heap.objs.size)) (EP X pins σ Q) X.xe { s3 with heap:=s3.heap.push { cls:=.type "slice",data:=.fields #[vl,vu,.none] } }
  exact tail_any (ops:=[.ref s3.heap.objs.size,v]) ht hT hg (by with_unfolding_all rfl)
def cutV (xs:List V) (lo hi:Option Int):List V:=(xs.drop (HT.sIx xs.length 0 lo)).take (HT.sIx xs.length xs.length hi - HT.sIx xs.length 0 lo)
theorem cutV_length (xs:List V) (lo hi:Option Int):(cutV xs lo hi).length≤xs.length:=by
  unfold cutV
  rw [List.length_take,List.length_drop]
  omega
def rSlT (K:PySem.W.Frag):V→Option Int→Option Int→Hp→VK→Prop:=fun x lo hi H Q=>∃ a xs,x=.ref a∧SqT K H a xs ∧
  ¬ (HT.sIx xs.length 0 lo=0∧HT.sIx xs.length xs.length hi=xs.length)∧∀ p,H p=none→Q (.ref p) (upd H p (.tup (cutV xs lo hi)))
theorem sl_tup:SlR X (rSlT X.K):=by
  intro pins s σ H x v vl vu lo hi sl Q I rx hs pl pu h
  obtain ⟨a,xs,rfl,hx,hw,q⟩:=h
  cases rx
  obtain ⟨its,r,ht,hz⟩:=I.tuple hx
  have hlen:its.toArray.size=xs.length:=by rw [List.size_toArray]; exact r.length.symm
  refine ⟨"tuple",_,PyProof.Rows.slot_tuple_getitem.lookup,ht.typeIs,?_⟩
  refine HT.getItem_tuple_cut ht hs pl pu (by rw [hlen]; exact hw) ?_ (by rw [hlen]; exact hz)
  rw [hlen]
  refine ⟨.ref s.heap.objs.size,_,I.laid (t':=s.toks) (o:=.tup (cutV xs lo hi)) (fun b ob q=>Heap.get?_push_of_some _ q) (Nat.le_refl _) ?_,rfl,q _ (I.hok.fresh (Nat.le_refl _))⟩
  exact ⟨Nat.le_trans (cutV_length xs lo hi) hz,_,(r.drop (HT.sIx xs.length 0 lo)).take (HT.sIx xs.length xs.length hi - HT.sIx xs.length 0 lo),IsTup.new _ _⟩
def rCatT (K:PySem.W.Frag):R2:=fun x y H Q=>∃ a b xs ys,x=.ref a∧y=.ref b∧SqT K H a xs∧SqT K H b ys∧xs≠[]∧xs.length+ys.length≤sizeLine ∧
  (ys=[]→Q (.ref a) H)∧(ys≠[]→∀ p,H p=none→Q (.ref p) (upd H p (.tup (xs++ys))))
theorem Vals.nil_iff {xs:List V}{us:List Value} (r:Vals xs us):us=[]↔xs=[]:=by
  cases r with
  | nil=>simp
  | cons _ _=>simp
theorem op_catT:OpR X (binaryOp .Add) (rCatT X.K):=by
  intro pins s σ H x y v u Q I rx ry h
  obtain ⟨a,b,xs,ys,rfl,rfl,ha,hb,hx,hz,q1,q2⟩:=h
  cases rx
  cases ry
  obtain ⟨its,r1,p1,_⟩:=I.tuple ha
  obtain ⟨its2,r2,p2,_⟩:=I.tuple hb
  refine HT.cat_tup p1 p2 (fun z=>hx (r1.nil_iff.mp z)) (fun z=>⟨.ref a,H,I,rfl,q1 (r2.nil_iff.mp z)⟩) (fun z=>?_) (by rw [← r1.length,← r2.length]; exact hz)
  refine ⟨.ref s.heap.objs.size,_,I.laid (t':=s.toks) (o:=.tup (xs++ys)) (fun b ob q=>Heap.get?_push_of_some _ q) (Nat.le_refl _) ?_,rfl,q2 (fun w=>z (r2.nil_iff.mpr w)) _ (I.hok.fresh (Nat.le_refl _))⟩
  exact ⟨by rw [List.length_append]; exact hz,_,r1.append r2,IsTup.new _ _⟩
end
end L2
namespace L2
open PySem PySem.Spec PyProof.Rows
def ixN (n:Nat) (i:Int):Option Nat:=if 0≤i then (if i < n then some i.toNat else none) else if -(n:Int)≤i then some (i+n).toNat else none
def atI {α:Type} (xs:List α) (i:Int):Option α:=(ixN xs.length i).bind fun j=>xs[j]?
theorem ixN_seq {n:Nat}{i:Int}{j:Nat} (h:ixN n i=some j):seqIndex? i n=some j∧j < n∧-(n:Int)≤i∧i < n:=by
  unfold ixN at h
  by_cases h0:0≤i
  · rw [if_pos h0] at h
    by_cases h1:i < n
    · rw [if_pos h1] at h
      have e:i.toNat=j:=Option.some.inj h
      exact ⟨by rw [seqIndex_of h0 h1,e],by omega,by omega,h1⟩
    · rw [if_neg h1] at h; cases h
  · rw [if_neg h0] at h
    by_cases h1:-(n:Int)≤i
    · rw [if_pos h1] at h
      have e:(i+n).toNat=j:=Option.some.inj h
      exact ⟨by rw [seqIndex_neg (by omega) h1,e],by omega,h1,by omega⟩
    · rw [if_neg h1] at h; cases h
theorem atI_get {α:Type}{xs:List α}{i:Int}{v:α} (h:atI xs i=some v):∃ j,seqIndex? i xs.length=some j∧xs[j]?=some v∧j < xs.length∧-(xs.length:Int)≤i∧i < xs.length:=by
  unfold atI at h
  cases e:ixN xs.length i with
  | none=>rw [e] at h; cases h
  | some j =>
    rw [e] at h
    obtain ⟨h1,h2,h3,h4⟩:=ixN_seq e
    exact ⟨j,h1,h,h2,h3,h4⟩
theorem atI_nat {α:Type}{xs:List α}{j:Nat}{v:α} (h:xs[j]?=some v):atI xs (j:Int)=some v:=by
  have hj:j < xs.length:=(List.getElem?_eq_some_iff.mp h).1
  have e:ixN xs.length (j:Int)=some j:=by
    unfold ixN
    rw [if_pos (by omega),if_pos (by omega)]; simp
  unfold atI; rw [e]; exact h
theorem atI_last {α:Type} (xs:List α) (v:α):atI (xs++[v]) (-1)=some v:=by
  have hl:(xs++[v]).length=xs.length+1:=by simp
  have e:ixN (xs++[v]).length (-1)=some xs.length:=by
    unfold ixN
    rw [hl,if_neg (by decide),if_pos (by omega)]
    congr 1
    omega
  unfold atI
  rw [e]
  show (xs++[v])[xs.length]?=some v
  simp
def PlainIx (b:Expr):Prop:=∀ o i,subscripted b false o i=operate [o,i] (getItem o i)
def IxR (X:Cx) (r:R2):Prop :=
  ∀ (value slice:Expr) (pins:List (Addr × Obj)) (s:Shared) (σ:St) (H:Hp) (x y:V) (v u:Value) (Q:VK),Inv X pins σ H s→RelV x v→RelV y u→r x y H Q →
    subscripted slice false v u=operate [v,u] (getItem v u)→wpAny (model X.prog X.w) X.A (subscriptTail value slice v u) (EP X pins σ Q) X.xe s
def MtR (X:Cx) (id:String) (r:V→List V→Hp→VK→Prop):Prop :=
  ∀ (pins:List (Addr × Obj)) (s:Shared) (σ:St) (H:Hp) (x:V) (xs:List V) (v:Value) (us:List Value) (Q:VK),Inv X pins σ H s→RelV x v→Vals xs us→r x xs H Q →
    wpAny (model X.prog X.w) X.A (call (.builtin id) (v::us)) (EP X pins σ Q) X.xe s
section
variable {X:Cx}{a b:Expr}{ta tb:TE}{pos:Pos}
theorem pe_ix {r:R2} (hr:IxR X r) (ha:PE X a ta) (hb:PE X b tb) (hs:PlainIx b):PE X (.Subscript a b pos) (tOp r ta tb):=by
  intro pins s σ H Q I h
  exact Subscript_ (binT ha hb I h fun v u s2 x y H2 I2 rx ry q=>hr a b pins s2 σ H2 x y v u Q I2 rx ry q (hs _ _))
def rIxL (K:PySem.W.Frag):R2:=fun x y H Q=>∃ p xs i v,x=.ref p∧y=.int i∧SqL K H p xs∧atI xs i=some v∧Q v H
def rIxT (K:PySem.W.Frag):R2:=fun x y H Q=>∃ p xs i v,x=.ref p∧y=.int i∧SqT K H p xs∧atI xs i=some v∧Q v H
def rIxS:R2:=fun x y H Q=>∃ z i c,x=.str z∧y=.int i∧z.length≤sizeLine∧atI z.cps.toList i=some c∧Q (.str ⟨#[c]⟩) H
theorem ix_list:IxR X (rIxL X.K):=by
  intro value slice pins s σ H x y v u Q I rx ry h hs
  obtain ⟨p,xs,i,z,rfl,rfl,hq,he,q⟩:=h
  cases rx
  obtain ⟨t,rfl⟩:=ry
  obtain ⟨its,r,pl,hz⟩:=I.list hq
  obtain ⟨j,h1,h2,h3,h4,h5⟩:=atI_get he
  obtain ⟨w,ew,rw'⟩:=r.get h2
  have hl:=r.length
  have hn:=line63
  have fin:EP X pins σ Q w s:=⟨z,H,I,rw',q⟩
  by_cases h0:0≤i
  · have hj:i.toNat=j:=by
      rw [seqIndex_of h0 h5] at h1
      exact Option.some.inj h1
    exact item_listR pl.isList h0 (by omega) (by rw [hj]; simpa using ew) fin hs
  · have hj:(i+(its.toArray.size:Int)).toNat=j:=by
      rw [seqIndex_neg (by omega) h4] at h1
      rw [List.size_toArray,← hl]
      exact Option.some.inj h1
    exact subscriptTail_builtinR (x:=w) pl.isList.typeIs slot_list_getitem.lookup
      (wpAny_getItem_list_neg (Q:=fun r s'=>r=w∧EP X pins σ Q r s') pl.isList (by omega) (by rw [List.size_toArray] <;> omega) (by omega) (by rw [hj]; simpa using ew) ⟨rfl,fin⟩) hs
theorem ix_tup:IxR X (rIxT X.K):=by
  intro value slice pins s σ H x y v u Q I rx ry h hs
  obtain ⟨p,xs,i,z,rfl,rfl,hq,he,q⟩:=h
  cases rx
  obtain ⟨t,rfl⟩:=ry
  obtain ⟨its,r,pl,hz⟩:=I.tuple hq
  obtain ⟨j,h1,h2,h3,h4,h5⟩:=atI_get he
  obtain ⟨w,ew,rw'⟩:=r.get h2
  have hl:=r.length
  have hn:=line63
  have fin:EP X pins σ Q w s:=⟨z,H,I,rw',q⟩
  exact subscriptTail_builtinR (x:=w) pl.typeIs slot_tuple_getitem.lookup
    (getItem_tuple (j:=j) (Q:=fun r s'=>r=w∧EP X pins σ Q r s') pl (by omega) (by omega) (by rw [List.size_toArray,← hl]; exact h1) (by simpa using ew) ⟨rfl,fin⟩) hs
theorem ix_str:IxR X rIxS:=by
  intro value slice pins s σ H x y v u Q I rx ry h hs
  obtain ⟨z,i,c,rfl,rfl,hz,he,q⟩:=h
  obtain ⟨t,rfl⟩:=rx
  obtain ⟨t',rfl⟩:=ry
  obtain ⟨j,h1,h2,h3,h4,h5⟩:=atI_get he
  have hl:z.cps.toList.length=z.length:=by simp [Str.length]
  rw [hl] at h1 h4 h5
  have hn:=line63
  exact tail_any (typeIs_str s z t) slot_str_getitem.lookup (getItem_str (c:=c) (by
    have e1:decide (i < -(2 ^ 63:Int))=false:=decide_eq_false (by omega)
    have e2:decide (i ≥ 2 ^ 63)=false:=decide_eq_false (by omega)
    rw [e1,e2,Bool.or_false]) (by rw [h1]; simpa using h2) ⟨.str ⟨#[c]⟩,H,I.tok _,⟨_,rfl⟩,q⟩) hs
theorem Inv.lst {pins:List (Addr × Obj)}{σ:St}{H:Hp}{s:Shared}{p:Addr}{xs:List V} (I:Inv X pins σ H s) (h:H p=some (.lst xs)) :
    ∃ (its:List Value) (n:Nat),Vals xs its∧s.heap.get? p=some { cls:=.type "list",data:=.seq its.toArray n }∧xs.length≤sizeLine:=by
  obtain ⟨z,its,n,r,e⟩:=I.hok p _ h
  exact ⟨its,n,r,e,z⟩
theorem slice_bounds (lo hi:Option Int) (n:Nat):(sliceBounds lo hi none n).1=((HT.sIx n 0 lo:Nat):Int)∧(sliceBounds lo hi none n).2.1=((HT.sIx n n hi:Nat):Int)∧(sliceBounds lo hi none n).2.2=1:=by
  refine ⟨?_,?_,rfl⟩
  · cases lo with
    | none=>simp [sliceBounds,HT.sIx]
    | some i =>
      simp only [sliceBounds,HT.sIx,Option.getD_none,show (1:Int) > 0 by decide,if_true]
      by_cases h:i < 0
      · simp only [h,if_true] <;> omega
      · simp only [h,if_false] <;> omega
  · cases hi with
    | none=>simp [sliceBounds,HT.sIx]
    | some i =>
      simp only [sliceBounds,HT.sIx,Option.getD_none,show (1:Int) > 0 by decide,if_true]
      by_cases h:i < 0
      · simp only [h,if_true] <;> omega
      · simp only [h,if_false] <;> omega
theorem slicePick_cut (its:List Value) (lo hi:Option Int):slicePick its.toArray lo hi none=((its.drop (HT.sIx its.length 0 lo)).take (HT.sIx its.length its.length hi - HT.sIx its.length 0 lo)).toArray:=by
  obtain ⟨h1,h2,h3⟩:=slice_bounds lo hi its.toArray.size
  unfold slicePick
  rw [h1,h2,h3]
  simp only [sliceRange_one,pick_run,List.size_toArray] <;> rfl
def rSlL (K:PySem.W.Frag):V→Option Int→Option Int→Hp→VK→Prop:=fun x lo hi H Q=>∃ a xs,x=.ref a∧SqL K H a xs∧∀ p,H p=none→Q (.ref p) (upd H p (.lst (cutV xs lo hi)))
theorem sl_list:SlR X (rSlL X.K):=by
  intro pins s σ H x v vl vu lo hi sl Q I rx hs pl pu h
  obtain ⟨a,xs,rfl,hx,q⟩:=h
  cases rx
  obtain ⟨its,r,ht,hz⟩:=I.list hx
  have hlen:=r.length
  refine ⟨"list",_,slot_list_getitem.lookup,ht.isList.typeIs,?_⟩
  refine wpAny_getItem_list_slice ht.isList hs pl pu .none (by simp) ?_ (by rw [List.size_toArray] <;> omega)
  rw [slicePick_cut,← hlen]
  refine ⟨.ref s.heap.objs.size,_,I.laid (t':=s.toks) (o:=.lst (cutV xs lo hi)) (fun b ob q=>Heap.get?_push_of_some _ q) (Nat.le_refl _) ?_,rfl,q _ (I.hok.fresh (Nat.le_refl _))⟩
  exact ⟨Nat.le_trans (cutV_length xs lo hi) hz,_,0,(r.drop (HT.sIx xs.length 0 lo)).take (HT.sIx xs.length xs.length hi - HT.sIx xs.length 0 lo),Heap.get?_push_size _ rfl⟩
def flatV:V→Bool
  | .non=>true
  | .bl _=>true
  | .int _=>true
  | .str _=>true
  | _=>false
def eqV:V→V→Bool
  | .non,.non=>true
  | .bl a,.bl b=>a == b
  | .bl a,.int b=>(if a then 1 else 0) == b
  | .int a,.bl b=>a == (if b then 1 else 0)
  | .int a,.int b=>a == b
  | .str a,.str b=>a == b
  | _,_=>false
theorem eqAt_V {A:Around}{s:Shared}{y x:V}{u v:Value} (ry:RelV y u) (rx:RelV x v) (fy:flatV y=true) (fx:flatV x=true):SeqAt.EqAt A s u v (eqV y x):=by
  cases y with
  | non =>
    cases ry
    cases x with
    | non=>cases rx; exact SeqAt.EqAt.same _
    | bl b=>cases rx; exact SeqAt.EqAt.none_bool b
    | int b=>obtain ⟨t,rfl⟩:=rx; exact SeqAt.EqAt.none_int b t
    | str b=>obtain ⟨t,rfl⟩:=rx; exact SeqAt.EqAt.none_str b t
    | _=>exact absurd (show false=true from fx) Bool.false_ne_true
  | bl a =>
    cases ry
    cases x with
    | non=>cases rx; exact SeqAt.EqAt.bool_none a
    | bl b=>cases rx; exact SeqAt.EqAt.bool_bool a b
    | int b=>obtain ⟨t,rfl⟩:=rx; exact SeqAt.EqAt.bool_int a b t
    | str b=>obtain ⟨t,rfl⟩:=rx; exact SeqAt.EqAt.bool_str a b t
    | _=>exact absurd (show false=true from fx) Bool.false_ne_true
  | int a =>
    obtain ⟨t',rfl⟩:=ry
    cases x with
    | non=>cases rx; exact SeqAt.EqAt.int_none a t'
    | bl b=>cases rx; exact SeqAt.EqAt.int_bool a t' b
    | int b=>obtain ⟨t,rfl⟩:=rx; exact SeqAt.EqAt.int_int a t' b t
    | str b=>obtain ⟨t,rfl⟩:=rx; exact SeqAt.EqAt.int_str a t' b t
    | _=>exact absurd (show false=true from fx) Bool.false_ne_true
  | str a =>
    obtain ⟨t',rfl⟩:=ry
    cases x with
    | non=>cases rx; exact SeqAt.EqAt.str_none a t'
    | bl b=>cases rx; exact SeqAt.EqAt.str_bool a t' b
    | int b=>obtain ⟨t,rfl⟩:=rx; exact SeqAt.EqAt.str_int a t' b t
    | str b=>obtain ⟨t,rfl⟩:=rx; exact SeqAt.EqAt.str_str a t' b t
    | _=>exact absurd (show false=true from fx) Bool.false_ne_true
  | _=>exact absurd (show false=true from fy) Bool.false_ne_true
def eqU (x:V) (u:Value):Bool:=match u with
  | .none=>eqV .non x
  | .bool b=>eqV (.bl b) x
  | .int i _=>eqV (.int i) x
  | .str z _=>eqV (.str z) x
  | _=>false
theorem eqU_of {x y:V}{u:Value} (r:RelV y u) (f:flatV y=true):eqU x u=eqV y x:=by
  cases y with
  | non=>cases r; rfl
  | bl b=>cases r; rfl
  | int i=>obtain ⟨t,rfl⟩:=r; rfl
  | str z=>obtain ⟨t,rfl⟩:=r; rfl
  | _=>exact absurd (show false=true from f) Bool.false_ne_true
theorem any_eqU {x:V}:∀ {xs:List V}{us:List Value},Vals xs us→xs.all flatV=true→us.any (eqU x)=xs.any fun y=>eqV y x
  | _,_,.nil,_=>rfl
  | y::xs,u::us,.cons r t,f=>by
    rw [List.all_cons,Bool.and_eq_true] at f
    rw [List.any_cons,List.any_cons,eqU_of r f.1,any_eqU t f.2]
theorem mem_eqAt {A:Around}{s:Shared}{x:V}{v:Value} (rx:RelV x v) (fx:flatV x=true):∀ {xs:List V}{us:List Value},Vals xs us→xs.all flatV=true→∀ u∈us,SeqAt.EqAt A s u v (eqU x u)
  | _,_,.nil,_=>fun u hu=>by cases hu
  | y::xs,u::us,.cons r t,f=>fun u' hu=>by
    rw [List.all_cons,Bool.and_eq_true] at f
    rcases List.mem_cons.mp hu with rfl | hu
    · rw [eqU_of r f.1]; exact eqAt_V r rx f.1 fx
    · exact mem_eqAt rx fx t f.2 u' hu
def inV (x:V) (xs:List V):Bool:=xs.any fun y=>eqV y x
def rIn (K:PySem.W.Frag) (neg:Bool):R2:=fun x y H Q=>∃ p xs,y=.ref p∧(SqL K H p xs∨SqT K H p xs)∧flatV x=true∧xs.all flatV=true∧Q (.bl (if neg then !inV x xs else inV x xs)) H
theorem op_in_seq:OpR X (compareOp .In) (rIn X.K false):=by
  intro pins s σ H x y v u Q I rx ry h
  obtain ⟨p,xs,rfl,hq,fx,fs,q⟩:=h
  cases ry
  rcases hq with hq | hq
  · obtain ⟨its,r,pl,hz⟩:=I.list hq
    refine SeqAt.in_listAt (eqU x) pl.isList (fun w hw=>mem_eqAt rx fx r fs w (by simpa using hw)) ⟨.bl _,H,I,rfl,?_⟩
    rw [show its.toArray.any (eqU x)=its.any (eqU x) by simp,any_eqU r fs]
    exact q
  · obtain ⟨its,r,pl,hz⟩:=I.tuple hq
    refine SeqAt.in_tupleAt (eqU x) pl (fun w hw=>mem_eqAt rx fx r fs w (by simpa using hw)) ⟨.bl _,H,I,rfl,?_⟩
    rw [show its.toArray.any (eqU x)=its.any (eqU x) by simp,any_eqU r fs]
    exact q
theorem op_notIn_seq:OpR X (compareOp .NotIn) (rIn X.K true):=by
  intro pins s σ H x y v u Q I rx ry h
  obtain ⟨p,xs,rfl,hq,fx,fs,q⟩:=h
  cases ry
  rcases hq with hq | hq
  · obtain ⟨its,r,pl,hz⟩:=I.list hq
    refine SeqAt.notIn_listAt (eqU x) pl.isList (fun w hw=>mem_eqAt rx fx r fs w (by simpa using hw)) ⟨.bl _,H,I,rfl,?_⟩
    rw [show its.toArray.any (eqU x)=its.any (eqU x) by simp,any_eqU r fs]
    exact q
  · obtain ⟨its,r,pl,hz⟩:=I.tuple hq
    refine SeqAt.notIn_tupleAt (eqU x) pl (fun w hw=>mem_eqAt rx fx r fs w (by simpa using hw)) ⟨.bl _,H,I,rfl,?_⟩
    rw [show its.toArray.any (eqU x)=its.any (eqU x) by simp,any_eqU r fs]
    exact q
theorem call_len_seq:CallR X (.builtin "len") (fun xs H Q=>∃ p ys,xs=[.ref p]∧(SqL X.K H p ys∨SqT X.K H p ys)∧Q (.int ys.length) H):=by
  intro pins s σ H xs us Q I r h
  obtain ⟨p,ys,rfl,hq,q⟩:=h
  obtain ⟨u,rfl,rx⟩:=vals1 r
  cases rx
  have hn:=line63
  rcases hq with hq | hq
  · obtain ⟨its,r',pl,hz⟩:=I.list hq
    have hlen:=r'.length
    exact Calls.call_len_list pl.isList (by simp only [List.size_toArray] <;> omega) ⟨.int ys.length,H,I.tok _,⟨s.toks+1,by rw [List.size_toArray,hlen]⟩,q⟩
  · obtain ⟨its,r',pl,hz⟩:=I.tuple hq
    have hlen:=r'.length
    exact len_tuple pl (by simp only [List.size_toArray] <;> omega) ⟨.int ys.length,H,I.tok _,⟨s.toks+1,by rw [List.size_toArray,hlen]⟩,q⟩
theorem call_len_str:CallR X (.builtin "len") (fun xs H Q=>∃ z,xs=[.str z]∧z.length≤sizeLine∧Q (.int z.length) H):=by
  intro pins s σ H xs us Q I r h
  obtain ⟨z,rfl,hz,q⟩:=h
  obtain ⟨u,rfl,t,rfl⟩:=vals1 r
  have hn:=line63
  exact len_str (by omega) ⟨.int z.length,H,I.tok _,⟨_,rfl⟩,q⟩
theorem call_tuple_of:CallR X (.type "tuple") (fun xs H Q=>∃ p ys,xs=[.ref p]∧((SqL X.K H p ys∧∀ l,H l=none→Q (.ref l) (upd H l (.tup ys)))∨(SqT X.K H p ys∧Q (.ref p) H))):=by
  intro pins s σ H xs us Q I r h
  obtain ⟨p,ys,rfl,h⟩:=h
  obtain ⟨u,rfl,rx⟩:=vals1 r
  cases rx
  rcases h with ⟨hq,q⟩ | ⟨hq,q⟩
  · obtain ⟨its,r',pl,hz⟩:=I.list hq
    have hlen:=r'.length
    refine call_tuple_list pl.isList (fun h' kp=>?_) (by simp only [List.size_toArray] <;> omega)
    have I1:Inv X pins σ H { s with heap:=h' }:=I.kept (t':=s.toks) kp
    have I2:Inv X pins σ (upd H h'.objs.size (.tup ys)) { s with heap:=h'.push { cls:=.type "tuple",data:=.seq its.toArray } } :=
      I1.laid (t':=s.toks) (fun b o e=>Heap.get?_push_of_some _ e) (Nat.le_refl _) (show ObjOk X.prog X.w _ _ _ (.tup ys) from ⟨hz,its,r',IsTup.new _ _⟩)
    exact ⟨.ref h'.objs.size,_,I2,rfl,q _ (I1.hok.fresh (Nat.le_refl _))⟩
  · obtain ⟨its,r',pl,hz⟩:=I.tuple hq
    exact call_tuple_same pl ⟨.ref p,H,I,rfl,q⟩
def tyV (K:PySem.W.Frag) (T:String) (x:V) (H:Hp):Prop:=match x with
  | .str _=>T = "str"
  | .int _=>T = "int"
  | .ref p=>(T = "list" ∧ ∃ xs,SqL K H p xs)∨(T = "tuple" ∧ ∃ o,K.lookup p=some o∧o.cls=.type "tuple" ∧ o.dict=none) ∨
      (T = "dict" ∧ ((∃ kvs,H p=some (.dK kvs))∨∃ kvs,H p=some (.dT kvs)))∨(T = "set" ∧ ∃ S n,H p=some (.set S n))
  | _=>False
theorem tyV_is {pins:List (Addr × Obj)}{σ:St}{H:Hp}{s:Shared}{T:String}{x:V}{v:Value} (I:Inv X pins σ H s) (r:RelV x v) (ty:tyV X.K T x H) :
    s.TypeIs v T∧∀ a,v=.ref a→∃ ob,s.heap.get? a=some ob∧ob.dict=none:=by
  cases x with
  | str z =>
    obtain ⟨t,rfl⟩:=r
    cases (show T = "str" from ty)
    exact ⟨typeIs_str s z t,fun _ e=>nomatch e⟩
  | int i =>
    obtain ⟨t,rfl⟩:=r
    cases (show T = "int" from ty)
    exact ⟨typeIs_int s i t,fun _ e=>nomatch e⟩
  | ref p =>
    cases r
    rcases ty with ⟨rfl,xs,hq⟩ | ⟨rfl,o,hk,hc,hd⟩ | ⟨rfl,hk⟩ | ⟨rfl,S,n,hk⟩
    · obtain ⟨its,_,pl,_⟩:=I.list hq
      refine ⟨pl.isList.typeIs,fun a e=>?_⟩
      cases e
      obtain ⟨o,n,e,c,hd,_⟩:=pl
      exact ⟨o,e,hd⟩
    · refine ⟨⟨o,I.kIn p o hk,hc⟩,fun a e=>?_⟩
      cases e
      exact ⟨o,I.kIn _ o hk,hd⟩
    · have z:∃ o,s.heap.get? p=some o∧o.ExactDict:=by
        rcases hk with ⟨kvs,hk⟩ | ⟨kvs,hk⟩
        · obtain ⟨_,_,_,_,o,_,_,e,ex,_⟩:=I.hok p _ hk
          exact ⟨o,e,ex⟩
        · obtain ⟨_,_,_,_,o,_,_,e,ex,_⟩:=I.hok p _ hk
          exact ⟨o,e,ex⟩
      obtain ⟨o,e,ex⟩:=z
      refine ⟨⟨o,e,ex.1⟩,fun a e2=>?_⟩
      cases e2
      exact ⟨o,e,ex.2.1⟩
    · obtain ⟨o,_,_,_,e,ex,_⟩:=I.hok p _ hk
      refine ⟨⟨o,e,ex.1⟩,fun a e2=>?_⟩
      cases e2
      exact ⟨o,e,ex.2.1⟩
  | _=>exact False.elim ty
def tBM0 (K:PySem.W.Frag) (T:String) (r:V→List V→Hp→VK→Prop) (to:TE):TE:=fun σ H Q=>to σ H fun x H1=>tyV K T x H1∧r x [] H1 Q
def tBM (K:PySem.W.Frag) (T:String) (r:V→List V→Hp→VK→Prop) (to:TE) (t:TA):TE:=fun σ H Q=>to σ H fun x H1=>tyV K T x H1∧t σ H1 fun xs H2=>r x xs H2 Q
variable {o e:Expr}{es:List Expr}{to:TE}{t:TA}{name:Str}{apos cpos:Pos}{T id:String}{r:V→List V→Hp→VK→Prop}
theorem pe_bm0 (pa:PlainAttrs T) (slot:Slot T name id) (hty:typeOf (.builtin id)=pure (.type "method_descriptor")) (hm:MtR X id r) (ho:PE X o to)
    (hbase:attributeBase o name X.env (eval o X.env)=eval o X.env:=by rfl) (hline:(apos.endLine == cpos.line)=true:=by rfl):PE X (.Call (.Attribute o name apos) [] [] cpos) (tBM0 X.K T r to):=by
  intro pins s σ H Q I h
  refine wpAny_Call_method0_late hbase hline (thn (ho pins s σ H _ I h) fun v s1 ⟨x,H1,I1,r1,ty,q1⟩=>?_)
  obtain ⟨h1,h2⟩:=tyV_is I1 r1 ty
  exact ⟨T,id,pa,slot,hty,h1,h2,Calls.callWith_builtin rfl (PySem.evalArgs_none (hm pins s1 σ H1 x [] v [] Q I1 r1 .nil q1))⟩
theorem pe_bm (pa:PlainAttrs T) (slot:Slot T name id) (hty:typeOf (.builtin id)=pure (.type "method_descriptor")) (hm:MtR X id r) (ho:PE X o to) (ha:PA X (e::es) t)
    (hbase:attributeBase o name X.env (eval o X.env)=eval o X.env:=by rfl)
    (hfew:((backTo cpos (starEach (e::es) X.env)).all (fun x=>!x.1) && (backToKw cpos (keywordEach [] X.env)).all (fun x=>x.1.isSome)
      && decide ((e::es).length+([]:List Keyword).length+(if ([]:List Keyword).isEmpty then 0 else 1) < 30))=true:=by rfl)
    (hline:(apos.endLine == cpos.line)=true:=by rfl) (hs:starEach (e::es) X.env=(false,eval e X.env)::starEach es X.env:=by rfl) (hplain:(backTo cpos (starEach es X.env)).any (·.1)=false:=by rfl) :
    PE X (.Call (.Attribute o name apos) (e::es) [] cpos) (tBM X.K T r to t):=by
  intro pins s σ H Q I h
  refine wpAny_Call_method_late hbase hfew hline rfl (thn (ho pins s σ H _ I h) fun v s1 ⟨x,H1,I1,r1,ty,q1⟩=>?_)
  obtain ⟨h1,h2⟩:=tyV_is I1 r1 ty
  refine ⟨T,id,pa,slot,hty,h1,h2,?_⟩
  have hA:=ha cpos pins s1 σ H1 _ I1 q1
  rw [hs] at hA ⊢
  refine Calls.callWith_builtin (by show (false || (backTo cpos (starEach es X.env)).any (·.1))=false; rw [hplain] <;> rfl) (Calls.evalArgs_plain ?_)
  exact thn hA fun us s2 ⟨vs,H2,I2,r2,q2⟩=>hm pins s2 σ H2 x vs v us Q I2 r1 r2 q2
end
end L2
namespace L2
open PySem PySem.Spec PyProof.Rows
def MtM (X:Cx) (id:String) (r:V→List V→Hp→VK→Prop):Prop :=
  ∀ (pins:List (Addr × Obj)) (s:Shared) (σ:St) (H:Hp) (x:V) (xs:List V) (v:Value) (us:List Value) (Q:VK),Inv X pins σ H s→RelV x v→Vals xs us→r x xs H Q →
    wpAny (model X.prog X.w) X.A (call (.builtin id) (v::us)) (EP X pins σ Q) X.xe s
theorem Vals.one:∀ {x:V}{us:List Value},Vals [x] us→∃ u,us=[u]∧RelV x u
  | _,_,.cons r .nil=>⟨_,rfl,r⟩
theorem Vals.zero:∀ {us:List Value},Vals [] us→us=[]
  | _,.nil=>rfl
theorem Vals.dropLast {xs:List V}{us:List Value} (h:Vals xs us):Vals xs.dropLast us.dropLast:=by
  induction h with
  | nil=>exact .nil
  | cons r t ih =>
    cases t with
    | nil=>exact .nil
    | cons q t'=>exact .cons r ih
theorem Vals.rep {xs:List V}{us:List Value} (h:Vals xs us):∀ k:Nat,Vals (List.replicate k xs).flatten (List.replicate k us).flatten
  | 0=>.nil
  | k+1=>by
    rw [List.replicate_succ,List.replicate_succ,List.flatten_cons,List.flatten_cons]
    exact Vals.append h (Vals.rep h k)
theorem foldl_rep (its:List Value):∀ (k:Nat) (acc:List Value),
    List.foldl (fun x1 x2=>x1++x2) acc.toArray (List.replicate k its.toArray)=(acc++(List.replicate k its).flatten).toArray
  | 0,acc=>by simp
  | k+1,acc=>by
    have e:acc.toArray++its.toArray=(acc++its).toArray:=by simp
    have e2:(acc++its)++(List.replicate k its).flatten=acc++(List.replicate (k+1) its).flatten:=by
      rw [List.replicate_succ,List.flatten_cons,List.append_assoc]
    rw [← e2,← foldl_rep its k (acc++its),← e,List.replicate_succ,List.foldl_cons]
section
variable {X:Cx}{pins:List (Addr × Obj)}{σ:St}{H:Hp}{s:Shared}{l b:Addr}{xs ys zs:List V}
theorem Inv.lset {its its':List Value}{n:Nat}{f:Array Value→Array Value}{t':Nat} (I:Inv X pins σ H s) (hH:H l=some (.lst xs))
    (e:s.heap.get? l=some { cls:=.type "list",data:=.seq its.toArray n }) (hf:f its.toArray=its'.toArray) (hv:Vals ys its') (hz:ys.length≤sizeLine) :
    Inv X pins σ (upd H l (.lst ys)) { s with heap:=s.heap.update l (Obj.mapSeq f),toks:=t' }:=by
  have q:=PySem.IsL.update e f
  rw [hf] at q
  refine I.write (x:=l) (e:=l) (by rw [hH]; exact trivial) (.inl rfl) (fun b' u hb hu=>(Heap.get?_update_other s.heap (Obj.mapSeq f) (Ne.symm hb)).trans hu) ⟨_,q⟩ ?_
  exact ⟨hz,its',_,hv,q⟩
theorem Inv.lnew {its:List Value}{t':Nat} (I:Inv X pins σ H s) (hv:Vals ys its) (hz:ys.length≤sizeLine) :
    Inv X pins σ (upd H s.heap.objs.size (.lst ys)) { s with heap:=s.heap.push { cls:=.type "list",data:=.seq its.toArray },toks:=t' } :=
  I.laid (fun _ _ q=>Heap.get?_push_of_some _ q) (Nat.le_refl _) ⟨hz,its,0,hv,Heap.get?_push_size _ rfl⟩
theorem Inv.fresh (I:Inv X pins σ H s):H s.heap.objs.size=none:=I.hok.fresh (Nat.le_refl _)
theorem Inv.lstM (I:Inv X pins σ H s) (hH:H l=some (.lst xs)):xs.length≤sizeLine∧∃ (its:List Value) (n:Nat),Vals xs its∧xs.length=its.length∧s.heap.get? l=some { cls:=.type "list",data:=.seq its.toArray n }:=by
  obtain ⟨z,its,n,r,e⟩:=I.hok l _ hH
  exact ⟨z,its,n,r,r.length,e⟩
theorem notLongL {n:Nat} (h:n≤sizeLine):Builtin.List.listTooLong n=false:=by
  unfold Builtin.List.listTooLong
  exact decide_eq_false (by omega)
end
section
variable {X:Cx}
def rAppend:V→List V→Hp→VK→Prop:=fun x vs H Q=>∃ l xs y,x=.ref l∧vs=[y]∧H l=some (.lst xs)∧xs.length < sizeLine∧Q .non (upd H l (.lst (xs++[y])))
theorem mt_append:MtM X "list.append" rAppend:=by
  intro pins s σ H x vs v us Q I rx rv h
  obtain ⟨l,xs,y,rfl,rfl,hH,hz,q⟩:=h
  cases rx
  obtain ⟨u,rfl,ru⟩:=rv.one
  obtain ⟨z,its,n,r,hl,e⟩:=I.lstM hH
  refine call_meets F.slot_list_append ⟨_,e,rfl⟩ F.entry_list_append (F.args_list_append_2 _ _) (PySem.list_append l its.toArray n u (by rw [List.size_toArray]; omega)) ⟨e,?_⟩
  refine ⟨.non,_,I.lset (its':=its++[u]) hH e (by simp) (r.append (.cons ru .nil)) ?_,rfl,q⟩
  rw [List.length_append,List.length_singleton]
  omega
def rExtend:V→List V→Hp→VK→Prop:=fun x vs H Q=>∃ l b xs zs,x=.ref l∧vs=[.ref b]∧H l=some (.lst xs)∧H b=some (.lst zs)∧xs.length+zs.length≤sizeLine∧Q .non (upd H l (.lst (xs++zs)))
theorem mt_extend:MtM X "list.extend" rExtend:=by
  intro pins s σ H x vs v us Q I rx rv h
  obtain ⟨l,b,xs,zs,rfl,rfl,hH,hB,hz,q⟩:=h
  cases rx
  obtain ⟨u,rfl,ru⟩:=rv.one
  cases ru
  obtain ⟨z,its,n,r,hl,e⟩:=I.lstM hH
  obtain ⟨z2,its2,n2,r2,hl2,e2⟩:=I.lstM hB
  have hsz:its.toArray.size+its2.toArray.size≤sizeLine:=by rw [List.size_toArray,List.size_toArray]; omega
  have hlong:¬ (!its.toArray.isEmpty && Builtin.List.listTooLong (its.toArray.size+its2.toArray.size))=true:=by
    rw [notLongL hsz,Bool.and_false]
    exact Bool.false_ne_true
  refine call_meets F.slot_list_extend ⟨_,e,rfl⟩ F.entry_list_extend (F.args_list_extend_2 _ _)
    (AutoSeq1.list_extend_list_list_0 l its.toArray n b its2.toArray n2 hlong (by rw [List.size_toArray]; omega) (by omega)) ⟨e,e2,?_⟩
  refine ⟨.non,_,I.lset (its':=its++its2) hH e (by simp) (r.append r2) ?_,rfl,q⟩
  rw [List.length_append]
  omega
def rCat:R2:=fun x y H Q=>∃ l b xs zs,x=.ref l∧y=.ref b∧H l=some (.lst xs)∧H b=some (.lst zs)∧xs.length+zs.length≤sizeLine∧∀ p,H p=none→Q (.ref p) (upd H p (.lst (xs++zs)))
theorem op_cat:OpR X (binaryOp .Add) rCat:=by
  intro pins s σ H x y v u Q I rx ry h
  obtain ⟨l,b,xs,zs,rfl,rfl,hH,hB,hz,q⟩:=h
  cases rx
  cases ry
  obtain ⟨z,its,n,r,hl,e⟩:=I.lstM hH
  obtain ⟨z2,its2,n2,r2,hl2,e2⟩:=I.lstM hB
  refine PySem.P.add_list e e2 ?_ (by rw [List.size_toArray,List.size_toArray]; omega)
  have ea:its.toArray++its2.toArray=(its++its2).toArray:=by simp
  rw [ea]
  exact ⟨.ref _,_,I.lnew (t':=s.toks) (r.append r2) (by rw [List.length_append]; omega),rfl,q _ I.fresh⟩
def rRep:R2:=fun x y H Q=>∃ l k xs,x=.ref l∧y=.int k∧H l=some (.lst xs)∧-(2 ^ 63)≤k∧k < 2 ^ 63∧xs.length * k.toNat≤sizeLine ∧
  ∀ p,H p=none→Q (.ref p) (upd H p (.lst (List.replicate k.toNat xs).flatten))
theorem len_rep {α:Type} (xs:List α) (k:Nat):(List.replicate k xs).flatten.length=k * xs.length:=by
  induction k with
  | zero=>simp
  | succ k ih=>rw [List.replicate_succ,List.flatten_cons,List.length_append,ih,Nat.succ_mul,Nat.add_comm]
theorem op_rep:OpR X (binaryOp .Mult) rRep:=by
  intro pins s σ H x y v u Q I rx ry h
  obtain ⟨l,k,xs,rfl,rfl,hH,h1,h2,hz,q⟩:=h
  cases rx
  obtain ⟨t,rfl⟩:=ry
  obtain ⟨z,its,n,r,hl,e⟩:=I.lstM hH
  have hlen:its.toArray.size * k.toNat≤sizeLine:=by rw [List.size_toArray,← hl]; exact hz
  have hcap:¬ its.toArray.size * k.toNat > (2 ^ 63 - 1) / 8:=by
    have:(sizeLine:Nat)≤(2 ^ 63 - 1) / 8:=by decide
    omega
  have hfit:¬ (!Builtin.List.listFitsIndex k)=true:=by
    rw [fitsIndex_both h1 h2]
    exact Bool.false_ne_true
  have hlong:¬ Builtin.List.listTooLong (its.toArray.size * k.toNat)=true:=by
    rw [notLongL hlen]
    exact Bool.false_ne_true
  have hnew:List.foldl (fun x1 x2=>x1++x2) #[] (List.replicate (if its.toArray.isEmpty=true then 0 else k.toNat) its.toArray)=(List.replicate k.toNat its).flatten.toArray:=by
    have f0:∀ m:Nat,List.foldl (fun x1 x2=>x1++x2) #[] (List.replicate m its.toArray)=(List.replicate m its).flatten.toArray:=fun m=>by
      have:=foldl_rep its m []
      rw [List.nil_append] at this
      exact this
    rw [f0]
    cases its with
    | nil=>simp
    | cons a r'=>rw [if_neg (by simp)]
  refine wpAny_binaryOp_repeat_ref (T := "list") (U := "int") (by decide) ⟨_,e,rfl⟩ (fun s'=>typeIs_int s' k t) noFill_list_mul F.fills_int_mul F.slot_int_rmul repeat_list F.slot_int_index.lookup
    (call_meets F.slot_int_rmul (typeIs_int s k t) F.entry_int_rmul (F.args_int_rmul_2 _ _) (int___rmul___int_list k t l its.toArray n)
      ⟨e,rfl,⟨_,e,rfl⟩,call_meets F.slot_list_mul ⟨_,e,rfl⟩ F.entry_list_mul (F.args_list_mul_2 _ _) (AutoListH.list___mul___list_int_3 l its.toArray n k t hfit hcap hlong) ⟨e,?_⟩⟩)
  rw [hnew]
  exact ⟨.ref _,_,I.lnew (t':=s.toks) (r.rep k.toNat) (by rw [len_rep,Nat.mul_comm]; exact hz),rfl,q _ I.fresh⟩
end
section
variable {prog:Program}{w:World}{A:Around}{E:Value→Shared→Prop}{s:Shared}
end
section
variable {X:Cx}
end
end L2
namespace L2
open PySem PySem.Spec PyProof.Rows
section
variable {κ:Type} [DecidableEq κ]
def valV (kvs:List (κ × V)) (k:κ):Option V:=(kvs.find? fun kv=>decide (kv.1=k)).map (·.2)
def putK (kvs:List (κ × V)) (k:κ) (v:V):List (κ × V) :=
  if (kvs.any fun kv=>decide (kv.1=k))=true then kvs.map (fun kv=>if kv.1=k then (kv.1,v) else kv) else kvs++[(k,v)]
theorem valV_pos {p:κ × V}{r:List (κ × V)}{k:κ} (e:p.1=k):valV (p::r) k=some p.2:=by simp [valV,List.find?_cons,e]
theorem valV_neg {p:κ × V}{r:List (κ × V)}{k:κ} (e:¬ p.1=k):valV (p::r) k=valV r k:=by simp [valV,List.find?_cons,e]
theorem valV_any (k:κ):∀ kvs:List (κ × V),(kvs.any fun kv=>decide (kv.1=k))=(valV kvs k).isSome
  | []=>rfl
  | p::r=>by
    rw [List.any_cons]
    by_cases e:p.1=k
    · simp only [valV_pos e,decide_eq_true e,Bool.true_or,Option.isSome_some]
    · rw [valV_neg e,decide_eq_false e,Bool.false_or]; exact valV_any k r
theorem length_putK (kvs:List (κ × V)) (k:κ) (v:V):(putK kvs k v).length≤kvs.length+1:=by
  unfold putK
  split
  · rw [List.length_map]; omega
  · rw [List.length_append,List.length_cons,List.length_nil]; omega
theorem RelO.isSome_eq {o:Option V}{u:Option Value} (r:RelO o u):o.isSome=u.isSome:=by
  cases o with
  | none=>cases u with
    | none=>rfl
    | some _=>exact (show False from r).elim
  | some _=>cases u with
    | none=>exact (show False from r).elim
    | some _=>rfl
theorem RelO.getD {o:Option V}{u:Option Value}{d:V}{d':Value} (r:RelO o u) (rd:RelV d d'):RelV (o.getD d) (u.getD d'):=by
  cases o with
  | none=>cases u with
    | none=>exact rd
    | some _=>exact (show False from r).elim
  | some _=>cases u with
    | none=>exact (show False from r).elim
    | some _=>exact r
theorem KV.val {kvs:List (κ × V)}{vs:List (κ × Value)} (r:KV kvs vs) (k:κ):RelO (valV kvs k) (valueAt vs k):=by
  unfold KV at r
  induction r with
  | nil=>exact True.intro
  | @cons p q ps qs h t ih =>
    obtain ⟨h1,h2⟩:=h
    by_cases e:p.1=k
    · have e':q.1=k:=h1.symm.trans e
      have b:valueAt (q::qs) k=some q.2:=by simp [valueAt,List.find?_cons,e']
      rw [valV_pos e,b]; exact h2
    · have e':¬ q.1=k:=fun z=>e (h1.trans z)
      have b:valueAt (q::qs) k=valueAt qs k:=by simp [valueAt,List.find?_cons,e']
      rw [valV_neg e,b]; exact ih
theorem KV.any {kvs:List (κ × V)}{vs:List (κ × Value)} (r:KV kvs vs) (k:κ):(kvs.any fun kv=>decide (kv.1=k))=vs.any fun kv=>decide (kv.1=k):=by
  unfold KV at r
  induction r with
  | nil=>rfl
  | cons h t ih=>rw [List.any_cons,List.any_cons,ih,h.1]
theorem KV.repl {kvs:List (κ × V)}{vs:List (κ × Value)} (r:KV kvs vs) (k:κ) {y:V}{u:Value} (ry:RelV y u) :
    KV (kvs.map fun kv=>if kv.1=k then (kv.1,y) else kv) (vs.map fun kv=>if kv.1=k then (kv.1,u) else kv):=by
  unfold KV at r ⊢
  induction r with
  | nil=>exact .nil
  | @cons p q ps qs h t ih =>
    rw [List.map_cons,List.map_cons]
    refine .cons ?_ ih
    obtain ⟨h1,h2⟩:=h
    by_cases e:p.1=k
    · rw [if_pos e,if_pos (h1.symm.trans e)]; exact ⟨h1,ry⟩
    · rw [if_neg e,if_neg (fun z=>e (h1.trans z))]; exact ⟨h1,h2⟩
theorem KV.put {kvs:List (κ × V)}{vs:List (κ × Value)} (r:KV kvs vs) (k:κ) {y:V}{u:Value} (ry:RelV y u):KV (putK kvs k y) (stored vs k u):=by
  unfold putK stored
  rw [r.any k]
  by_cases e:(vs.any fun kv=>decide (kv.1=k))=true
  · rw [if_pos e,if_pos e]; exact r.repl k ry
  · rw [if_neg e,if_neg e]; exact Paired.snoc r ⟨rfl,ry⟩
theorem KV.keys {kvs:List (κ × V)}{vs:List (κ × Value)} (r:KV kvs vs):kvs.map (·.1)=vs.map (·.1):=by
  unfold KV at r
  induction r with
  | nil=>rfl
  | cons h t ih=>rw [List.map_cons,List.map_cons,ih,h.1]
theorem KV.length {kvs:List (κ × V)}{vs:List (κ × Value)} (r:KV kvs vs):kvs.length=vs.length:=Paired.length r
end
theorem kV_is {P:Program}{w:World}{k:Key}{u:Value} (r:RelV (kV k) u):(mixKind P w).is k u=true:=by
  cases k with
  | inl i=>obtain ⟨t,e⟩:=(show ∃ t,u=Value.int i t from r); subst e; exact mixKind_int P w i t
  | inr x=>obtain ⟨t,e⟩:=(show ∃ t,u=Value.str x t from r); subst e; exact mixKind_str P w x t
theorem tkV_is {P:Program}{w:World}{k:TKey}{u:Value} (r:RelV (tkV k) u):(tkKind P w).is k u=true:=by
  cases k with
  | inl x=>obtain ⟨t,e⟩:=(show ∃ t,u=Value.str x t from r); subst e; show Value.isStrOf x (.str x t)=true; simp [Value.isStrOf]
  | inr b=>have e:u=Value.bool b:=r; subst e; exact beq_self_eq_true _
theorem items_are {P:Program}{w:World}:∀ {ks:List TKey}{us:List Value},Vals (ks.map tkV) us→ItemsAre (tkKind P w) ks us
  | [],_,r=>by rw [List.map_nil] at r; cases r; exact .nil
  | k::ks,_,r=>by
    rw [List.map_cons] at r
    cases r with
    | cons h t=>exact .cons (tkV_is h) (items_are t)
abbrev KT (H:Hp):List (List TKey × V)→List (List TKey × Addr × Value)→Prop:=Paired fun p q=>p.1=q.1∧H q.2.1=some (.tup (p.1.map tkV))∧RelV p.2 q.2.2
theorem KT.val {H:Hp}{kvs:List (List TKey × V)}{xs:List (List TKey × Addr × Value)} (r:KT H kvs xs) (k:List TKey):RelO (valV kvs k) ((atKey xs k).map (·.2)):=by
  induction r with
  | nil=>exact True.intro
  | @cons p q ps qs h t ih =>
    obtain ⟨h1,_,h2⟩:=h
    by_cases e:p.1=k
    · have e':q.1=k:=h1.symm.trans e
      have b:atKey (q::qs) k=some q.2:=by simp [atKey,List.find?_cons,e']
      rw [valV_pos e,b]; exact h2
    · have e':¬ q.1=k:=fun z=>e (h1.trans z)
      have b:atKey (q::qs) k=atKey qs k:=by simp [atKey,List.find?_cons,e']
      rw [valV_neg e,b]; exact ih
theorem KT.repl {H:Hp}{kvs:List (List TKey × V)}{xs:List (List TKey × Addr × Value)} (r:KT H kvs xs) (k:List TKey) {y:V}{u:Value} (ry:RelV y u) :
    KT H (kvs.map fun kv=>if kv.1=k then (kv.1,y) else kv) (xs.map (putAt k u)):=by
  induction r with
  | nil=>exact .nil
  | @cons p q ps qs h t ih =>
    rw [List.map_cons,List.map_cons]
    refine .cons ?_ ih
    obtain ⟨h1,h2,h3⟩:=h
    unfold putAt
    by_cases e:p.1=k
    · rw [if_pos e,if_pos (h1.symm.trans e)]; exact ⟨h1,h2,ry⟩
    · rw [if_neg e,if_neg (fun z=>e (h1.trans z))]; exact ⟨h1,h2,h3⟩
theorem KT.put {H:Hp}{kvs:List (List TKey × V)}{xs:List (List TKey × Addr × Value)} (r:KT H kvs xs) (k:List TKey) {b:Addr}{y:V}{u:Value} (hb:H b=some (.tup (k.map tkV))) (ry:RelV y u) :
    KT H (putK kvs k y) (storedH xs k b u):=by
  have e:(kvs.any fun kv=>decide (kv.1=k))=(atKey xs k).isSome:=by
    rw [valV_any,(r.val k).isSome_eq,Option.isSome_map]
  unfold putK storedH
  rw [e]
  by_cases q:(atKey xs k).isSome=true
  · rw [if_pos q,if_pos q]; exact r.repl k ry
  · rw [if_neg q,if_neg q]; exact Paired.snoc r ⟨rfl,hb,ry⟩
theorem KT.keeps {H H':Hp}{kvs:List (List TKey × V)}{xs:List (List TKey × Addr × Value)} (r:KT H kvs xs) (ht:∀ b ys,H b=some (.tup ys)→H' b=some (.tup ys)):KT H' kvs xs :=
  Paired.mapP r fun _ _ z=>⟨z.1,ht _ _ z.2.1,z.2.2⟩
section
variable {P:Program}{w:World}{H:Hp}{h:Heap}{a:Addr}
theorem rd_of {u:HO} (ok:HOk P w H h) (e:Rd H a u):ObjOk P w H h a u:=e.ok ok
theorem dk_rd {kvs:List (Key × V)} (ok:HOk P w H h) (e:Rd H a (.dK kvs)):kvs.length≤sizeLine∧(a == sysModules)=false∧∃ vs,KV kvs vs∧h.DictOf (mixKind P w) a vs :=
  show ObjOk P w H h a (.dK kvs) from rd_of ok e
theorem dk_of {kvs:List (Key × V)} (ok:HOk P w H h) (e:H a=some (.dK kvs)):kvs.length≤sizeLine∧(a == sysModules)=false∧∃ vs,KV kvs vs∧h.DictOf (mixKind P w) a vs:=dk_rd ok (.inl e)
theorem key_of {ks:List TKey} (ok:HOk P w H h) (e:H a=some (.tup (ks.map tkV))):(tupleKind (tkKind P w)).is h ks a:=by
  obtain ⟨_,its,r,o,h1,h2,n,h3⟩:=(show ObjOk P w H h a (.tup (ks.map tkV)) from ok a _ e)
  exact ⟨o,its.toArray,n,h1,h2,h3,by simpa using items_are r⟩
theorem dt_rd {kvs:List (List TKey × V)} (ok:HOk P w H h) (e:Rd H a (.dT kvs)):kvs.length≤sizeLine∧(a == sysModules)=false ∧
    ∃ xs,KT H kvs xs∧h.DictOfH (tupleKind (tkKind P w)) a xs:=by
  obtain ⟨z,y,xs,r,o,es,ep,h1,h2,h3,h4,h5⟩:=(show ObjOk P w H h a (.dT kvs) from rd_of ok e)
  refine ⟨z,y,xs,r,o,es,ep,h1,h2,h3,h4,fun x hx=>?_,h5⟩
  have all:∀ {l:List (List TKey × V)} {m:List (List TKey × Addr × Value)},KT H l m→∀ x∈m,(tupleKind (tkKind P w)).is h x.1 x.2.1:=by
    intro l m q
    induction q with
    | nil=>intro x hx; exact nomatch hx
    | @cons p q ps qs hq t ih =>
      intro x hx
      rcases List.mem_cons.mp hx with e | hx
      · subst e
        exact key_of ok (by rw [← hq.1]; exact hq.2.1)
      · exact ih x hx
  exact all r x hx
theorem dt_of {kvs:List (List TKey × V)} (ok:HOk P w H h) (e:H a=some (.dT kvs)):kvs.length≤sizeLine∧(a == sysModules)=false ∧
    ∃ xs,KT H kvs xs∧h.DictOfH (tupleKind (tkKind P w)) a xs:=dt_rd ok (.inl e)
end
def DGet (H:Hp) (a:Addr) (y:V) (r:Option V):Prop :=
  (∃ kvs k,Rd H a (.dK kvs)∧y=kV k∧r=valV kvs k)∨∃ kvs k b,Rd H a (.dT kvs)∧y=.ref b∧H b=some (.tup (k.map tkV))∧r=valV kvs k
def DPut (H:Hp) (a:Addr) (y v:V) (H':Hp):Prop :=
  (∃ kvs k,H a=some (.dK kvs)∧y=kV k∧kvs.length < sizeLine∧H'=upd H a (.dK (putK kvs k v))) ∨
  ∃ kvs k b,H a=some (.dT kvs)∧y=.ref b∧H b=some (.tup (k.map tkV))∧kvs.length < sizeLine∧H'=upd H a (.dT (putK kvs k v))
theorem DGet.k {H:Hp}{a:Addr}{kvs:List (Key × V)}{k:Key} (e:H a=some (.dK kvs)):DGet H a (kV k) (valV kvs k):=.inl ⟨kvs,k,.inl e,rfl,rfl⟩
theorem DPut.k {H:Hp}{a:Addr}{kvs:List (Key × V)}{k:Key}{v:V} (e:H a=some (.dK kvs)) (hl:kvs.length < sizeLine):DPut H a (kV k) v (upd H a (.dK (putK kvs k v))):=.inl ⟨kvs,k,e,rfl,hl,rfl⟩
section
variable {X:Cx}{pins:List (Addr × Obj)}{σ:St}{H:Hp}{s:Shared}{a:Addr}{y v:V}{u r:Value}{o:Option V}{A:Around}{E:Value→Shared→Prop}
theorem Inv.big (I:Inv X pins σ H s):sysModules < s.heap.objs.size:=by
  have h:mainGlobals < s.heap.objs.size:=(I.mod.glob.keeps I.bk).lt
  exact Nat.lt_trans (by decide) h
theorem d_getItem {Q:Value→Shared→Prop} (hu:A.units+1 < cLine) (I:Inv X pins σ H s) (g:DGet H a y (some v)) (ry:RelV y u) (h:∀ w' s',Inv X pins σ H s'→RelV v w'→Q w' s') :
    wpAny (model X.prog X.w) A (getItem (.ref a) u) Q E s:=by
  rcases g with ⟨kvs,k,e,ey,l⟩ | ⟨kvs,k,b,e,ey,eb,l⟩
  · subst ey
    obtain ⟨z,hd,vs,rel,dd⟩:=dk_rd I.hok e
    obtain ⟨w',hw,rw'⟩:=RelO.some_of (v:=v) (o:=valueAt vs k) (by rw [l]; exact rel.val k)
    exact wpAny_getItem_of (kV_is ry) dd.mapOf hw (h w' _ (I.tok _) rw')
  · subst ey
    cases (show u=Value.ref b from ry)
    obtain ⟨z,hd,xs,rel,dd⟩:=dt_rd I.hok e
    obtain ⟨w',hw,rw'⟩:=RelO.some_of (v:=v) (o:=(atKey xs k).map (·.2)) (by rw [l]; exact rel.val k)
    obtain ⟨p,hp,hp2⟩:=Option.map_eq_some_iff.mp hw
    refine wpAny_getItem_heap (tupleKind_room_in1 hu) (key_of I.hok eb) dd hp ?_
    rw [hp2]
    exact h w' _ (I.tok _) rw'
theorem d_in {Q:Value→Shared→Prop} (hu:A.units+1 < cLine) (I:Inv X pins σ H s) (g:DGet H a y o) (ry:RelV y u) (h:∀ s',Inv X pins σ H s'→Q (.bool o.isSome) s') :
    wpAny (model X.prog X.w) A (compareOp .In u (.ref a)) Q E s:=by
  rcases g with ⟨kvs,k,e,ey,l⟩ | ⟨kvs,k,b,e,ey,eb,l⟩
  · subst ey
    obtain ⟨z,hd,vs,rel,dd⟩:=dk_rd I.hok e
    refine wpAny_in_of (kV_is ry) hd dd.mapOf ?_
    rw [← (rel.val k).isSome_eq,← l]
    exact h _ (I.tok _)
  · subst ey
    cases (show u=Value.ref b from ry)
    obtain ⟨z,hd,xs,rel,dd⟩:=dt_rd I.hok e
    refine wpAny_in_heap (tupleKind_room_in1 hu) (key_of I.hok eb) hd dd ?_
    have q:=(rel.val k).isSome_eq
    rw [Option.isSome_map] at q
    rw [← q,← l]
    exact h _ (I.tok _)
theorem d_notIn {Q:Value→Shared→Prop} (hu:A.units+1 < cLine) (I:Inv X pins σ H s) (g:DGet H a y o) (ry:RelV y u) (h:∀ s',Inv X pins σ H s'→Q (.bool (!o.isSome)) s') :
    wpAny (model X.prog X.w) A (compareOp .NotIn u (.ref a)) Q E s:=by
  rcases g with ⟨kvs,k,e,ey,l⟩ | ⟨kvs,k,b,e,ey,eb,l⟩
  · subst ey
    obtain ⟨z,hd,vs,rel,dd⟩:=dk_rd I.hok e
    refine wpAny_notIn_of (kV_is ry) hd dd.mapOf ?_
    rw [← (rel.val k).isSome_eq,← l]
    exact h _ (I.tok _)
  · subst ey
    cases (show u=Value.ref b from ry)
    obtain ⟨z,hd,xs,rel,dd⟩:=dt_rd I.hok e
    refine wpAny_notIn_heap (tupleKind_room_in1 hu) (key_of I.hok eb) hd dd ?_
    have q:=(rel.val k).isSome_eq
    rw [Option.isSome_map] at q
    rw [← q,← l]
    exact h _ (I.tok _)
theorem d_write {h':Heap}{t':Nat}{ob:HO} (I:Inv X pins σ H s) (mu:Mut (H a)) (hs:Heap.SameBut a s.heap h') (he:∃ q,h'.get? a=some q) (new:ObjOk X.prog X.w (upd H a ob) h' a ob) :
    Inv X pins σ (upd H a ob) { s with heap:=h',toks:=t' } :=
  I.write (x:=a) (e:=a) mu (.inl rfl) (fun b q hb z=>(hs.2 b hb).trans z) he new
theorem dk_new {P:Program}{w:World}{H':Hp}{h':Heap}{kvs:List (Key × V)}{vs:List (Key × Value)} (z:kvs.length≤sizeLine) (hd:(a == sysModules)=false) (rel:KV kvs vs) (dd:h'.DictOf (mixKind P w) a vs) :
    ObjOk P w H' h' a (.dK kvs):=⟨z,hd,vs,rel,dd⟩
theorem d_setItem {H':Hp}{Q:Unit→Shared→Prop} (hu:A.units+1 < cLine) (I:Inv X pins σ H s) (g:DPut H a y v H') (ry:RelV y u) (rv:RelV v r) (h:∀ s',Inv X pins σ H' s'→Q () s') :
    wpAny (model X.prog X.w) A (setItem (.ref a) u r) Q E s:=by
  rcases g with ⟨kvs,k,e,ey,l,eH⟩ | ⟨kvs,k,b,e,ey,eb,l,eH⟩
  · subst ey eH
    obtain ⟨z,hd,vs,rel,dd⟩:=dk_of I.hok e
    have hz:vs.length≤sizeLine:=by rw [← rel.length]; exact z
    have hl:(putK kvs k v).length≤sizeLine:=by have:=length_putK kvs k v; omega
    refine wpAny_setItem_pairs (hsz:=hz) (kV_is ry) dd fun h' dd' hs=>h _ ?_
    have he:∃ q,h'.get? a=some q:=let ⟨q,_,_,hq,_⟩:=dd'; ⟨q,hq⟩
    exact d_write I (by rw [e]; exact True.intro) hs he (dk_new hl hd (rel.put k rv) dd')
  · subst ey eH
    cases (show u=Value.ref b from ry)
    obtain ⟨z,hd,xs,rel,dd⟩:=dt_of I.hok e
    have hz:xs.length≤sizeLine:=by rw [← Paired.length rel]; exact z
    have hl:(putK kvs k v).length≤sizeLine:=by have:=length_putK kvs k v; omega
    refine wpAny_setItem_heap (hsz:=hz) (tupleKind_room_in1 hu) (key_of I.hok eb) dd fun h' dd' hs=>h _ ?_
    obtain ⟨q,es,ep,hq,h2,h3,h4,_,h5⟩:=dd'
    refine d_write I (by rw [e]; exact True.intro) hs ⟨q,hq⟩ ⟨hl,hd,_,(rel.put k eb rv).keeps fun c ys ec=>?_,q,es,ep,hq,h2,h3,h4,h5⟩
    rw [upd_ne (ne_of ec e (fun z=>nomatch z))]
    exact ec
end
section
variable {X:Cx}{pins:List (Addr × Obj)}{σ:St}{H:Hp}{s:Shared}{a:Addr}{kvs:List (Key × V)}{k:Key}{u:Value}{A:Around}{E:Value→Shared→Prop}
end
def NoSl (i:Expr):Prop:=∀ ov iv,subscripted i false ov iv=operate [ov,iv] (getItem ov iv)
theorem subD_of {prog:Program}{w:World}{A:Around}{E:Value→Shared→Prop}{s:Shared}{env:Env}{value slice:Expr}{pos:Pos}{T id:String}{Q:Value→Shared→Prop}
    (hl:typeLookup (.type T) "__getitem__" = pure (some (.builtin id))) (hs:NoSl slice)
    (h:wpAny (model prog w) A (eval value env) (fun o s₁=>wpAny (model prog w) A (eval slice env) (fun i s₂=>s₂.TypeIs o T∧wpAny (model prog w) A (getItem o i) Q E s₂) E s₁) E s) :
    wpAny (model prog w) A (eval (.Subscript value slice pos) env) Q E s:=by
  refine Subscript_ (wpAny_mono h (fun o s₁ h₁=>wpAny_mono h₁ (fun i s₂ h₂=>?_) fun _ _ x=>x) fun _ _ x=>x)
  obtain ⟨hT,h₂⟩:=h₂
  unfold subscriptTail
  refine wpAny_bind ?_
  rw [getitemInPython_of_ne hT.not_modules]
  refine wpAny_bind (wpAny_specialOf hT hl ?_)
  have fin:wpAny (model prog w) A (subscripted slice false o i) (fun r s₃=>wpAny (model prog w) A (letTemporaryGo value o r >>= fun _=>pure r) Q E s₃) E s₂:=by
    rw [hs o i]
    exact wpAny_operating (wpAny_mono h₂ (fun r s₃ h₃=>wpAny_bind (wpAny_letTemporaryGo (wpAny_pure h₃))) fun _ _ x=>x)
  first
    | exact wpAny_pure (wpAny_bind fin)
    | exact wpAny_bind (wpAny_pure (wpAny_bind fin))
    | exact wpAny_bind fin
theorem dict_typeIs {X:Cx}{pins:List (Addr × Obj)}{σ:St}{H:Hp}{s:Shared}{a:Addr}{y:V}{o:Option V} (I:Inv X pins σ H s) (g:DGet H a y o):s.TypeIs (.ref a) "dict" := by
  rcases g with ⟨kvs,k,e,_,_⟩ | ⟨kvs,k,b,e,_,_,_⟩
  · obtain ⟨_,_,vs,_,dd⟩:=dk_rd I.hok e
    exact dd.typeIs
  · obtain ⟨_,_,xs,_,dd⟩:=dt_rd I.hok e
    exact dd.typeIs
def tDGet (td ty:TE):TE:=fun σ H Q=>td σ H fun x H1=>ty σ H1 fun y H2=>∃ a v,x=.ref a∧DGet H2 a y (some v)∧Q v H2
def tDIn (ty td:TE):TE:=fun σ H Q=>ty σ H fun y H1=>td σ H1 fun x H2=>∃ a o,x=.ref a∧DGet H2 a y o∧Q (.bl o.isSome) H2
def tDNotIn (ty td:TE):TE:=fun σ H Q=>ty σ H fun y H1=>td σ H1 fun x H2=>∃ a o,x=.ref a∧DGet H2 a y o∧Q (.bl (!o.isSome)) H2
def sDPut (td ty tv:TE):TS:=fun D σ H=>tv σ H fun v H1=>td σ H1 fun x H2=>ty σ H2 fun y H3=>∃ a H4,x=.ref a∧DPut H3 a y v H4∧D.nx σ H4
section
variable {X:Cx}{o i e value:Expr}{pos pos' tpos:Pos}{td ty tv:TE}
theorem pe_dget (hu:X.A.units+1 < cLine) (ho:PE X o td) (hi:PE X i ty) (hs:NoSl i):PE X (.Subscript o i pos) (tDGet td ty):=by
  intro pins s σ H Q I h
  refine subD_of PySem.F.slot_dict_getitem.lookup hs (thn (ho pins s σ H _ I h) fun u s1 ⟨x,H1,I1,rx,q1⟩=>thn (hi pins s1 σ H1 _ I1 q1) fun iv s2 ⟨y,H2,I2,ry,a,v,ex,g,q2⟩=>?_)
  subst ex
  obtain rfl:u=Value.ref a:=rx
  exact ⟨dict_typeIs I2 g,d_getItem hu I2 g ry fun w' s3 I3 rw'=>⟨v,H2,I3,rw',q2⟩⟩
theorem pc_din (hu:X.A.units+1 < cLine) (hi:PE X i ty) (ho:PE X o td):PC X .In i o (tDIn ty td):=by
  intro pins s σ H Q I h
  refine thn (hi pins s σ H _ I h) fun iv s1 ⟨y,H1,I1,ry,q1⟩=>thn (ho pins s1 σ H1 _ I1 q1) fun u s2 ⟨x,H2,I2,rx,a,ov,ex,g,q2⟩=>?_
  subst ex
  obtain rfl:u=Value.ref a:=rx
  exact d_in hu I2 g ry fun s3 I3=>⟨.bl ov.isSome,H2,I3,rfl,q2⟩
theorem pc_dnotin (hu:X.A.units+1 < cLine) (hi:PE X i ty) (ho:PE X o td):PC X .NotIn i o (tDNotIn ty td):=by
  intro pins s σ H Q I h
  refine thn (hi pins s σ H _ I h) fun iv s1 ⟨y,H1,I1,ry,q1⟩=>thn (ho pins s1 σ H1 _ I1 q1) fun u s2 ⟨x,H2,I2,rx,a,ov,ex,g,q2⟩=>?_
  subst ex
  obtain rfl:u=Value.ref a:=rx
  exact d_notIn hu I2 g ry fun s3 I3=>⟨.bl (!ov.isSome),H2,I3,rfl,q2⟩
theorem ps_dput (hu:X.A.units+1 < cLine) (ho:PE X o td) (hi:PE X i ty) (hv:PE X value tv) (hs:swapsWith value (some (.Subscript o i pos')) pos.line X.env=pure false) :
    PS X (.Assign [.Subscript o i pos'] value pos) (sDPut td ty tv):=by
  intro pins s σ H D I h
  refine wpAny_Assign_Subscript (thn (hv pins s σ H _ I h) fun r s1 ⟨v,H1,I1,rv,q1⟩=>thn (ho pins s1 σ H1 _ I1 q1) fun u s2 ⟨x,H2,I2,rx,q2⟩=>thn (hi pins s2 σ H2 _ I2 q2) fun iv s3 ⟨y,H3,I3,ry,a,H4,ex,g,q3⟩=>?_) hs
  subst ex
  obtain rfl:u=Value.ref a:=rx
  exact d_setItem hu I3 g ry rv fun s4 I4=>⟨σ,H4,I4,q3⟩
end
theorem dk_empty {P:Program}{w:World}{H:Hp} (h:Heap) (hb:sysModules < h.objs.size):ObjOk P w H (h.push { cls:=.type "dict",data:=.dict #[] }) h.objs.size (.dK []) :=
  ⟨Nat.zero_le _,beq_eq_false_iff_ne.mpr (Ne.symm (Nat.ne_of_lt hb)),[],.nil,Heap.DictOf.new h⟩
def tDNewK:TE:=fun _ H Q=>∀ p,H p=none→Q (.ref p) (upd H p (.dK []))
section
variable {X:Cx}{pos:Pos}
theorem pe_dnewK:PE X (.Dict [] [] pos) tDNewK:=fun pins s σ H Q I h =>
  wpAny_Dict_empty ⟨.ref s.heap.objs.size,_,I.laid (a:=s.heap.objs.size) (o:=.dK []) (t':=s.toks) (fun _ _ q=>Heap.get?_push_of_some _ q) (Nat.le_refl _) (dk_empty s.heap I.big),rfl,h _ (I.hok.fresh (Nat.le_refl _))⟩
end
def tPairs:List (TE × TE)→St→Hp→(List (V × V)→Hp→Prop)→Prop
  | [],_,H,Q=>Q [] H
  | (tk,tv)::r,σ,H,Q=>tk σ H fun x H1=>tv σ H1 fun y H2=>tPairs r σ H2 fun ps H3=>Q ((x,y)::ps) H3
abbrev VV:List (V × V)→List (Value × Value)→Prop:=Paired fun p q=>RelV p.1 q.1∧RelV p.2 q.2
def PPs (X:Cx) (pos:Pos) (keys:List (Option Expr)) (values:List Expr) (trs:List (TE × TE)):Prop :=
  ∀ (pins:List (Addr × Obj)) (s:Shared) (σ:St) (H:Hp) (Q:List (V × V)→Hp→Prop),Inv X pins σ H s→tPairs trs σ H Q →
    wpAny (model X.prog X.w) X.A (evalPairs (pairTrees keys values X.env pos)) (fun vs s'=>∃ ps H',Inv X pins σ H' s'∧VV ps vs∧Q ps H') X.xe s
theorem pps_nil {X:Cx}{pos:Pos}:PPs X pos [] [] []:=fun pins s σ H Q I h=>pairTrees_nil_walk ⟨[],H,I,.nil,h⟩
theorem pps_cons {X:Cx}{pos:Pos}{k v:Expr}{ks:List (Option Expr)}{vs:List Expr}{tk tv:TE}{trs:List (TE × TE)} (hk:PE X k tk) (hv:PE X v tv) (hr:PPs X pos ks vs trs) :
    PPs X pos (some k::ks) (v::vs) ((tk,tv)::trs):=fun pins s σ H Q I h =>
  pairTrees_cons_walk (thn (hk pins s σ H _ I h) fun u s1 ⟨x,H1,I1,rx,q1⟩=>thn (hv pins s1 σ H1 _ I1 q1) fun w2 s2 ⟨y,H2,I2,ry,q2⟩ =>
    thn (hr pins s2 σ H2 _ I2 q2) fun ws s3 ⟨ps,H3,I3,rel,q3⟩=>⟨(x,y)::ps,H3,I3,.cons ⟨rx,ry⟩ rel,q3⟩)
structure M1 (X:Cx) (o:Expr) (m:Str) (apos:Pos) (e:Expr) (cpos:Pos):Prop where
  base:attributeBase o m X.env (eval o X.env)=eval o X.env
  few:((backTo cpos (starEach [e] X.env)).all (fun x=>!x.1) && (backToKw cpos (keywordEach [] X.env)).all (fun x=>x.1.isSome)
    && decide (([e]:List Expr).length+([]:List Keyword).length+(if ([]:List Keyword).isEmpty then 0 else 1) < 30))=true
  line:(apos.endLine == cpos.line)=true
  trees:backTo cpos (starEach [e] X.env)=[(false,eval e X.env)]
structure M2 (X:Cx) (o:Expr) (m:Str) (apos:Pos) (e f:Expr) (cpos:Pos):Prop where
  base:attributeBase o m X.env (eval o X.env)=eval o X.env
  few:((backTo cpos (starEach [e,f] X.env)).all (fun x=>!x.1) && (backToKw cpos (keywordEach [] X.env)).all (fun x=>x.1.isSome)
    && decide (([e,f]:List Expr).length+([]:List Keyword).length+(if ([]:List Keyword).isEmpty then 0 else 1) < 30))=true
  line:(apos.endLine == cpos.line)=true
  trees:backTo cpos (starEach [e,f] X.env)=[(false,eval e X.env),(false,eval f X.env)]
def IsD (H:Hp) (a:Addr):Prop:=(∃ kvs,Rd H a (.dK kvs))∨∃ kvs,Rd H a (.dT kvs)
theorem isD_at {X:Cx}{pins:List (Addr × Obj)}{σ:St}{H:Hp}{s:Shared}{a:Addr} (I:Inv X pins σ H s) (d:IsD H a) :
    s.TypeIs (.ref a) "dict" ∧ (∀ b,Value.ref a=.ref b→∃ ob,s.heap.get? b=some ob∧ob.dict=none)∧(a == sysModules)=false:=by
  rcases d with ⟨kvs,e⟩ | ⟨kvs,e⟩
  · obtain ⟨_,hd,vs,_,dd⟩:=dk_rd I.hok e
    refine ⟨dd.typeIs,fun b q=>?_,hd⟩
    cases q
    obtain ⟨ob,_,_,h1,h2,_⟩:=dd
    exact ⟨ob,h1,h2.2.1⟩
  · obtain ⟨_,hd,xs,_,dd⟩:=dt_rd I.hok e
    refine ⟨dd.typeIs,fun b q=>?_,hd⟩
    cases q
    obtain ⟨ob,_,_,h1,h2,_⟩:=dd
    exact ⟨ob,h1,h2.2.1⟩
section
variable {X:Cx}{pins:List (Addr × Obj)}{σ:St}{H:Hp}{s:Shared}{a:Addr}{y d:V}{u r:Value}{o:Option V}{A:Around}{E:Value→Shared→Prop}
theorem d_get2 {Q:Value→Shared→Prop} (hu:A.units+1 < cLine) (I:Inv X pins σ H s) (g:DGet H a y o) (ry:RelV y u) (rd:RelV d r) (h:∀ w' s',Inv X pins σ H s'→RelV (o.getD d) w'→Q w' s') :
    wpAny (model X.prog X.w) A (call (.builtin "dict.get") [.ref a,u,r]) Q E s:=by
  rcases g with ⟨kvs,k,e,ey,l⟩ | ⟨kvs,k,b,e,ey,eb,l⟩
  · subst ey
    obtain ⟨z,hd,vs,rel,dd⟩:=dk_rd I.hok e
    refine call_meetsIn PySem.F.slot_dict_get dd.typeIs PySem.F.entry_dict_get (PySem.F.args_dict_get_3 _ _ _) (meets_dict_get_default (mixKind X.prog X.w) a (kV_is ry) hd r) ⟨_,dd.mapOf,h _ _ (I.tok _) ?_⟩
    rw [l]
    exact (rel.val k).getD rd
  · subst ey
    cases (show u=Value.ref b from ry)
    obtain ⟨z,hd,xs,rel,dd⟩:=dt_rd I.hok e
    refine call_meetsIn PySem.F.slot_dict_get dd.typeIs PySem.F.entry_dict_get (PySem.F.args_dict_get_3 _ _ _) (meetsH_dict_get_default (tupleKind (tkKind X.prog X.w)) a b hd r) ⟨tupleKind_room_in1 hu,k,xs,key_of I.hok eb,dd,h _ _ (I.tok _) ?_⟩
    rw [l]
    exact (rel.val k).getD rd
end
def tDGet2 (td ty tx:TE):TE:=fun σ H Q=>td σ H fun x H1=>∃ a,x=.ref a∧IsD H1 a∧ty σ H1 fun y H2=>tx σ H2 fun z H3=>∃ o,DGet H3 a y o∧Q (o.getD z) H3
section
variable {X:Cx}{o e f:Expr}{apos cpos:Pos}{td ty tx:TE}
theorem pe_dget2 (hu:X.A.units+1 < cLine) (ho:PE X o td) (he:PE X e ty) (hf:PE X f tx) (m:M2 X o "get" apos e f cpos):PE X (.Call (.Attribute o "get" apos) [e,f] [] cpos) (tDGet2 td ty tx):=by
  intro pins s σ H Q I h
  refine wpAny_Call_method m.base m.few m.line PySem.F.plainAttrs_dict PySem.F.slot_dict_get PySem.F.type_dict_get (thn (ho pins s σ H _ I h) fun u s1 ⟨x,H1,I1,rx,a,ex,d,q1⟩=>?_)
  subst ex
  obtain rfl:u=Value.ref a:=rx
  obtain ⟨t1,t2,_⟩:=isD_at I1 d
  refine ⟨t1,t2,?_⟩
  rw [m.trees]
  refine Calls.callWith_builtin rfl (Calls.evalArgs_plain (Calls.spliced_cons (thn (he pins s1 σ H1 _ I1 q1) fun iv s2 ⟨y,H2,I2,ry,q2⟩ =>
    Calls.spliced_cons (thn (hf pins s2 σ H2 _ I2 q2) fun fv s3 ⟨z,H3,I3,rz,ov,g,q3⟩=>Calls.spliced_nil ?_))))
  exact d_get2 hu I3 g ry rz fun w' s4 I4 rw'=>⟨_,H3,I4,rw',q3⟩
end
section
variable {X:Cx}{pins:List (Addr × Obj)}{σ:St}{H:Hp}{s:Shared}{a:Addr}{kvs:List (Key × V)}{A:Around}{E:Value→Shared→Prop}
end
section
variable {X:Cx}{pins:List (Addr × Obj)}{σ:St}{H:Hp}{s:Shared}{a:Addr}{y:V}{u:Value}{A:Around}{E:Value→Shared→Prop}
end
end L2
namespace Att
open PySem PySem.W PySem.Calls PyProof.Rows
theorem ints_of_wellAll {P:Params}{h:Heap}:∀ (ns:List Int) (vs:List Value),WellAll P h vs (ns.map WData.int)→IntsAre vs ns:=by
  intro ns
  induction ns with
  | nil =>
    intro vs w
    rw [List.map_nil] at w
    cases w
    exact .nil
  | cons n ns ih =>
    intro vs w
    rw [List.map_cons] at w
    cases w with
    | cons a b =>
      cases a
      exact .cons _ _ (ih _ b)
theorem script_of {l:OpenLaw}{n:Nat} (hn:l.most=some n) {P:Params}{h:Heap}{args:List WData}{vals:List Value}
    (hpre:l.row.toRowW.claim.pre args=true) (hwl:WellAll P h vals args) :
    ∃ a vs ns,vals=[Value.ref a]∧args=[WData.list (ns.map WData.int)]∧h.get? a=some { cls:=.type "list",data:=.seq vs.toArray }∧IntsAre vs ns∧ns.length≤n:=by
  have hsh:WShape.hasAll [] args [.list .int]=true:=(pre_splitW hpre).1
  have hc:l.pre.holds [] { args:=args }=true:=(pre_splitW hpre).2
  obtain ⟨d,r,rfl,h1,h2⟩:=hasAllW_cons hsh
  obtain rfl:=hasAllW_nil h2
  obtain ⟨xs,rfl,h3⟩:=hasW_list h1
  obtain ⟨ns,rfl⟩:=items_int h3
  have hlen:ns.length≤n:=by
    unfold OpenLaw.pre at hc
    have h4:(WTm.not (.lt (.lit (.int (n:Int))) (.len (.arg 0)))).holds [] { args:=[.list (ns.map .int)] }=true:=by
      have h4:=(holds_andW hc).1
      rw [hn] at h4
      exact h4
    have h5:=condW_of h4 (w_not (w_lt w_lit (w_len_list (w_arg rfl))))
    rw [List.length_map] at h5
    refine Nat.le_of_not_lt fun q=>?_
    have q':(n:Int) < ((ns.length:Nat):Int):=by omega
    first
      | (rw [decide_eq_true q'] at h5; exact absurd h5 (by decide))
      | (simp at h5; omega)
  cases hwl with
  | cons w1 w2 =>
    cases w2
    cases w1 with
    | list ho hall=>exact ⟨_,_,ns,rfl,rfl,ho,ints_of_wellAll ns _ hall,hlen⟩
theorem post_true (l:OpenLaw) (args:List WData):l.row.toRowW.claim.post args (.bool true) args=true :=
  postW_of (r:=l.row.toRowW) (X:=(true == true))
    (show WShape.has [] (.bool true) .bool=true by first | rfl | decide | simp [WShape.has,WShape.arms,WShape.armsAll])
    (show (WTm.eq .res (.lit (.bool true))).value [] { args:=args,res:=some (.bool true),after:=args }=some (.bool (true == true)) from w_eq_bool (w_res rfl) w_lit) rfl
theorem attach_call {l:OpenLaw}{n:Nat}{q:Program}{loose:List Str}{XP:(Str→Option Value)→Heap→Prop}{YP:World→Heap→Prop}{d:DefRec}
    (hn:l.most=some n) (hdf:d.params.defaults=[])
    (call:∀ (w:World) (s₀ s₁:Shared) (mg mb:Str→Option Value) (fa:Addr) (o:Obj) (pm cd doc:Value) (a:Addr) (vs:List Value) (ns:List Int),
      Ground q loose [] XP w s₀ mg mb s₁.heap→YP w s₁.heap →
      s₁.heap.get? fa=some o→o.data=.func (docDef d.name d.params d.body d.scope pm cd doc)→s₁.heap.CodeRec cd d.name→mg d.name=some (.ref fa) →
      s₁.heap.get? a=some { cls:=.type "list",data:=.seq vs.toArray }→IntsAre vs ns→ns.length≤n→s₁.gens=#[] →
      codeAny (model l.prog w) callerA (.call (.ref fa) ⟨[.ref a],[]⟩) (fun r s'=>r=.ok (.ret (.bool true))∧OldK s₁.heap s'.heap∧s'.os=s₁.os∧AllBare s'.gens) s₁) :
    WalkO q loose XP YP l.row.toRowW d [] (fun f vs=>PySem.call f vs):=by
  intro w s₀ s₁ mg mb G Y fa o pm cd doc dV kV ho hd hcd hD hmg hg args vals as hpre hlay hrd hwl hlo
  obtain rfl:dV=.none:=Dflts.none hD hdf
  obtain rfl:kV=.none:=Dflts.noKw hD
  obtain ⟨a,vs,ns,rfl,rfl,hobj,hints,hlen⟩:=script_of hn hpre hwl
  refine enter_call (codeAny_mono (call w s₀ s₁ mg mb fa o pm cd doc a vs ns G Y ho (fd_plain hd) hcd hmg hobj hints hlen hg) fun r s' hq=>?_)
  obtain ⟨rfl,h2,h3,h4⟩:=hq
  exact ⟨.inl ⟨.bool true,.bool true,[],rfl,fun _=>rfl,.bool true,post_true l _,fun _=>⟨List.Pairwise.nil,fun _ hm=>(nomatch hm)⟩⟩,h2,h3,h4⟩
section
variable {prog:Program}{w:World}{A:Around}{E:Value→Shared→Prop}{s:Shared}{K:Frag}
end
end Att
namespace L2
open PySem PySem.Spec PyProof.Rows
theorem vals_ints:∀ {vs:List Value}{ns:List Int},IntsAre vs ns→Vals (ns.map V.int) vs
  | _,_,.nil=>.nil
  | _,_,.cons n t h=>.cons ⟨t,rfl⟩ (vals_ints h)
def Only (H:Hp):Prop:=∀ b,H b=none∨∃ o xs,H b=some (.frz o (.lst xs))
theorem law_call {P:Program}{w:World}{K:PySem.W.Frag}{mg mb:Str→Option Value}{CX:CXT}{k:Nat}{fa a:Addr}{fd:FuncData}{x:Str}{sp:Sp}{s₁:Shared}{vs:List Value}{ns:List Int}
    (KX:K.In s₁.heap) (hns:s₁.heap.Ns mainGlobals mg) (hb:s₁.heap.Ns builtinsNs mb) (hbb:∀ x:Str,x ≠ "__name__" → mb x=bootBuiltins x) (hlim:s₁.heap.NoLimit) (hg:s₁.gens=#[])
    (ha:s₁.heap.get? a=some { cls:=.type "list",data:=.seq vs.toArray }) (hi:IntsAre vs ns) (hl:ns.length≤sizeLine) (hr:Room k callerA)
    (F:∀ base:Heap,K.In base→base.Ns mainGlobals mg→FnOk P w K mg base CX k fa fd [x] sp) (hbind:∀ (s:Shared) (u:Value),BindsTo s fd ⟨[u],[]⟩ [(x,u)])
    (hsp:∀ H:Hp,Only H→SqL K H a (ns.map V.int)→sp [.ref a] H (fun v _=>v=.bl true) fun _ _ _=>False)
    (hCX:∀ H e s',CX [] H s₁ (fun _ _ _=>False) e s'→False) :
    codeAny (model P w) callerA (.call (.ref fa) ⟨[.ref a],[]⟩) (fun r s'=>r=.ok (.ret (.bool true))∧OldK s₁.heap s'.heap∧s'.os=s₁.os∧AllBare s'.gens) s₁:=by
  have rv:=vals_ints hi
  have lenV:=hi.length
  have core:∀ H:Hp,Only H→SqL K H a (ns.map V.int)→HOk P w H s₁.heap→(∀ b,H b≠none→b=a)→(H a≠none→K.lookup a=none) →
      codeAny (model P w) callerA (.call (.ref fa) ⟨[.ref a],[]⟩) (fun r s'=>r=.ok (.ret (.bool true))∧OldK s₁.heap s'.heap∧s'.os=s₁.os∧AllBare s'.gens) s₁:=by
    intro H hO hS hok hA hK
    have base_of:∀ {b:Addr} {o:Obj},s₁.heap.get? b=some o→H b=none→(hidT s₁.heap H).get? b=some o:=fun e n=>hidT_get e n
    have noA:∀ {b:Addr} {o:Obj} {es:Array DictEntry} {ep:Nat},s₁.heap.get? b=some o→o.data=.dict es ep→H b=none:=fun {b o es ep} e d=>by
      cases q:H b with
      | none=>rfl
      | some u =>
        have e':b=a:=hA b (by rw [q]; simp)
        subst e'
        rw [ha] at e; cases e
        have d':Data.seq vs.toArray _=Data.dict es ep:=d
        cases d'
    have nsK:∀ {b:Addr} {m:Str→Option Value},s₁.heap.Ns b m→(hidT s₁.heap H).Ns b m:=fun {b m} ⟨o,es,ep,e,d,r⟩=>⟨o,es,ep,base_of e (noA e d),d,r⟩
    have hKb:K.In (hidT s₁.heap H):=fun b o e=>base_of (KX b o e) (by
      cases q:H b with
      | none=>rfl
      | some u =>
        have e':b=a:=hA b (by rw [q]; simp)
        subst e'
        rw [hK (by rw [q]; simp)] at e; cases e)
    have hM:Mod K mg (hidT s₁.heap H):=⟨hKb,nsK hns,⟨mb,nsK hb,hbb⟩,let ⟨mc,h1,h2⟩:=hlim; ⟨mc,nsK h1,h2⟩⟩
    have e0:Env0 P w K mg (hidT s₁.heap H) callerA [] s₁ H:=⟨rfl,hM,fun b o e=>of_hidT e,Nat.le_of_eq (hidT_size _ _),trivial,fun b hb=>absurd (show b∈([]:List Addr) from hb) (by simp),hok,.of_eq hg⟩
    refine codeAny_mono ((F _ hKb (nsK hns)).run callerA [] s₁ H ⟨[.ref a],[]⟩ [.ref a] [.ref a] _ _ hr e0 (hbind s₁ (.ref a)) (.cons rfl .nil) (hsp H hO hS)) fun r s' h=>?_
    cases r with
    | error e=>exact (hCX H e s' h).elim
    | ok fl =>
      cases fl with
      | next=>exact False.elim h
      | brk=>exact False.elim h
      | cont=>exact False.elim h
      | ret u =>
        obtain ⟨v,H',os,bare,un,hok',r',q⟩:=h
        have q':v=.bl true:=q
        subst q'
        obtain rfl:u=Value.bool true:=r'
        refine ⟨rfl,OldK.of_keep fun b o e=>?_,os,bare⟩
        cases q:H b with
        | none=>exact un.keep b o e q (by intro z; exact absurd (show b∈([]:List Addr) from z) (by simp)) (by simp)
        | some u =>
          rcases hO b with z | ⟨ob,xs,z⟩
          · rw [q] at z; cases z
          · have z2:=un.frzs b ob _ z
            obtain ⟨e1,_⟩:=hok b _ z
            obtain ⟨e2,_⟩:=hok' b _ z2
            rw [e] at e1; cases e1
            exact e2
  cases hk:K.lookup a with
  | some o =>
    have e:=KX a o hk
    rw [ha] at e
    cases e
    refine core (fun _=>none) (fun _=>.inl rfl) (.inr ⟨_,vs.toArray,_,hk,rfl,rfl,rfl,by rw [List.size_toArray,lenV]; exact hl,by simpa using rv⟩) (fun b u z=>by have z':(none:Option HO)=some u:=z; cases z') (fun b z=>absurd rfl z) fun z=>absurd rfl z
  | none =>
    refine core (fun b=>if b=a then some (.frz { cls:=.type "list",data:=.seq vs.toArray } (.lst (ns.map V.int))) else none) (fun b=>?_) (.inl (.inr ⟨{ cls:=.type "list",data:=.seq vs.toArray },if_pos rfl⟩)) (fun b u z=>?_) (fun b z=>?_) fun _=>hk
    · by_cases hb:b=a
      · exact .inr ⟨_,_,if_pos hb⟩
      · exact .inl (if_neg hb)
    · by_cases hb:b=a
      · have z':=(if_pos hb).symm.trans z
        cases z'
        subst hb
        exact ⟨ha,by rw [List.length_map]; exact hl,vs,_,rv,ha⟩
      · have z':=(if_neg hb).symm.trans z
        cases z'
    · by_cases hb:b=a
      · exact hb
      · exact absurd (if_neg hb) z
end L2
namespace L2
open PySem PySem.Spec PyProof.Rows
theorem walk_of {l:PySem.W.OpenLaw}{n k:Nat}{q:Program}{loose:List Str}{XP:(Str→Option Value)→Heap→Prop}{YP:World→Heap→Prop}{d:DefRec}{K:Params→PySem.W.Frag}{CX:World→CXT}{sp:World→Sp}{x:Str}
    (hn:l.most=some n) (hn2:n≤sizeLine) (hdf:d.params.defaults=[]) (hr:Room k callerA)
    (hY:∀ (w:World) (h:Heap),YP w h→(K w.params).In h)
    (F:∀ (w:World) (mg:Str→Option Value) (fa:Addr) (h:Heap),(K w.params).In h→h.Ns mainGlobals mg→mg d.name=some (.ref fa) →
      ∃ fd:FuncData,(∀ (s:Shared) (u:Value),BindsTo s fd ⟨[u],[]⟩ [(x,u)]) ∧
        ∀ base:Heap,(K w.params).In base→base.Ns mainGlobals mg→FnOk l.prog w (K w.params) mg base (CX w) k fa fd [x] (sp w))
    (hsp:∀ (w:World) (H:Hp) (a:Addr) (ns:List Int),ns.length≤n→Only H→SqL (K w.params) H a (ns.map V.int)→sp w [.ref a] H (fun v _=>v=.bl true) fun _ _ _=>False)
    (hCX:∀ (w:World) (H:Hp) (s:Shared) (e:Value) (s':Shared),CX w [] H s (fun _ _ _=>False) e s'→False) :
    PySem.W.WalkO q loose XP YP l.row.toRowW d [] (fun f vs=>PySem.call f vs):=by
  refine Att.attach_call hn hdf fun w s₀ s₁ mg mb fa o pm cd doc a vs ns G Y ho hd hcd hmg hobj hints hlen hg=>?_
  have KX:=hY w _ Y
  obtain ⟨fd,hb,hF⟩:=F w mg fa _ KX G.T.g hmg
  exact law_call KX G.T.g G.T.b G.T.builtins G.T.nolimit hg hobj hints (Nat.le_trans hlen hn2) hr hF hb (fun H hO hS=>hsp w H a ns hlen hO hS) fun H e s'=>hCX w H s₁ e s'
end L2
namespace L2
open PySem PySem.Spec PyProof.Rows
abbrev CX0:CXT:=fun _ _ _ _ _ _=>False
abbrev E0:XK:=fun _ _ _=>False
theorem pass0 {X:Cx}:Passes CX0 X E0:=fun _ _ _ _ _ _ _ h=>h.elim
structure Fun (K:PySem.W.Frag) (x qual:Str) (st:Stmt) (f:Addr) (fd:FuncData):Prop where
  ex:∃ (oc:Value) (od:Option Addr) (kV doc pm:Value) (an:Option Addr) (cdv ct:Value) (osl:Array (Option Value)),
    fd=PySem.W.fnOf x qual (defArgs st) (defBody st) (defScope st) .none kV doc pm an cdv ct∧K.lookup f=some ⟨oc,od,.func fd,osl⟩∧PySem.W.codeIn K cdv qual=true
  kp:PySem.W.keepIn K (.ref f)=true
section
variable {P:Program}{w:World}{K:PySem.W.Frag}{mg:Str→Option Value}{base:Heap}
theorem Fun.ok {x qual:Str}{st:Stmt}{f:Addr}{fd:FuncData}{N ps:List Str}{k:Nat}{sp:Sp} (F:Fun K x qual st f fd) (S:FnScope N ps (defScope st)) (len:∀ vs H Q E,sp vs H Q E→vs.length=ps.length)
    (hbody:∀ (cdv:Value) (A:Around) (outer:List Env) (s:Shared) (H:Hp) (vs:List V) (Q:VK) (E:XK),Room k (A.deeper (envOfC qual (defScope st) s.heap.objs.size f cdv))→sp vs H Q E →
      ∃ t,PSs (cxOf CX0 P w K mg base N qual (defScope st) f cdv A outer s H E).nox (defBody st) t∧t { nx:=fun _ H'=>Q .non H',rt:=Q } (start N vs) H):FnOk P w K mg base CX0 (k+1) f fd ps sp:=by
  obtain ⟨oc,od,kV,doc,pm,an,cdv,ct,osl,rfl,lk,hcd⟩:=F.ex
  refine fn_of lk hcd S len fun A outer s H vs Q E hr hsp=>?_
  obtain ⟨t,h,q⟩:=hbody cdv A outer s H vs Q E hr hsp
  exact ⟨t,h.nox,q⟩
theorem Fun.binds {x qual:Str}{st:Stmt}{f:Addr}{fd:FuncData}{ps:List Str} (F:Fun K x qual st f fd)
    (h:∀ (kV doc pm:Value) (an:Option Addr) (cdv ct:Value) (us:List Value),us.length=ps.length→bindArgs (PySem.W.fnOf x qual (defArgs st) (defBody st) (defScope st) .none kV doc pm an cdv ct) ⟨us,[]⟩=pure (ps.zip us)):Binds K fd ps []:=by
  obtain ⟨oc,od,kV,doc,pm,an,cdv,ct,osl,rfl,lk,hcd⟩:=F.ex
  exact .all (h kV doc pm an cdv ct)
theorem fun_mk {x qual:Str}{st:Stmt}{f:Addr}{oc:Value}{od an:Option Addr}{osl:Array (Option Value)}{kV doc pm cdv ct:Value} (l:K.lookup f=some ⟨oc,od,.func (PySem.W.fnOf x qual (defArgs st) (defBody st) (defScope st) .none kV doc pm an cdv ct),osl⟩)
    (c:PySem.W.codeIn K cdv qual=true) (k:PySem.W.keepIn K (.ref f)=true):Fun K x qual st f (PySem.W.fnOf x qual (defArgs st) (defBody st) (defScope st) .none kV doc pm an cdv ct):=⟨⟨oc,od,kV,doc,pm,an,cdv,ct,osl,rfl,l,c⟩,k⟩
end
theorem hu_of {A:Around}{k:Nat} (hr:Room k A):A.units+1 < cLine:=Nat.lt_of_le_of_lt (Nat.add_le_add_left (by decide:1≤64) _) hr.units
section
variable {X:Cx}
theorem pv (i:Nat) {x:Str}{pos:Pos} (hN:X.N[i]?=some x:=by rfl) (hv:Vis X.env.scope x:=by first | exact Or.inl rfl | exact Or.inr (Or.inl rfl) | exact Or.inr (Or.inr rfl)) (hd:(x == ("__debug__" : Str))=false:=by decide)
    (hcd:(x == ("__classdict__" : Str))=false:=by decide):PE X (.Name x pos) (tVar i):=pe_var hN hv hd hcd
end
theorem iteF {A B:Prop} (h:B):if false=true then A else B:=by
  rw [if_neg Bool.false_ne_true]
  exact h
theorem iteT {A B:Prop} (h:A):if true=true then A else B:=by
  rw [if_pos rfl]
  exact h
theorem ite2 {c A B:Prop} [Decidable c] (h1:c→A) (h2:¬ c→B):if c then A else B:=by
  by_cases h:c
  · rw [if_pos h]
    exact h1 h
  · rw [if_neg h]
    exact h2 h
theorem iteNS {c A B:Prop} [Decidable c] (hc:c) (h:B):if (!decide c)=true then A else B:=by
  rw [decide_eq_true hc]
  exact iteF h
def Same (H H':Hp):Prop:=∀ b o,H b=some o→H' b=some o
theorem Same.refl (H:Hp):Same H H:=fun _ _ h=>h
theorem Same.trans {H H1 H2:Hp} (a:Same H H1) (b:Same H1 H2):Same H H2:=fun c o h=>b c o (a c o h)
theorem Same.free {H H':Hp} (e:Same H H') {l:Addr} (h:H' l=Option.none):H l=Option.none:=by
  cases q:H l with
  | none=>rfl
  | some o =>
    rw [e l o q] at h
    cases h
theorem Same.seq {K:PySem.W.Frag}{H H':Hp}{a:Addr}{xs:List V} (e:Same H H') (h:SqL K H a xs):SqL K H' a xs:=by
  rcases h with (h | ⟨o,h⟩) | h
  · exact .inl (.inl (e _ _ h))
  · exact .inl (.inr ⟨o,e _ _ h⟩)
  · exact .inr h
section
variable {κ:Type} [DecidableEq κ]
end
end L2
end
section
namespace L2
open PySem
section
variable {env:Env}
theorem clos_go:∀ (l:List (Str × NameKind)) (cs:List (Str × Addr)),(∀ x∈l,x.2=.free→∃ c,env.cells.lookup x.1=some c)→(∀ x c,cs.lookup x=some c→env.cells.lookup x=some c) →
    ∃ cl,(forIn l cs (fun x r=>if (x.2 == NameKind.free)=true then do let a ← cellOf env x.1; pure (ForInStep.yield ((x.1,a)::r)) else pure (ForInStep.yield r)):Sem (List (Str × Addr)))=pure cl ∧
      (∀ x c,cl.lookup x=some c→env.cells.lookup x=some c)∧∀ x,((x,NameKind.free)∈l∨∃ c,cs.lookup x=some c)→∃ c,cl.lookup x=some c
  | [],cs,_,hs=>⟨cs,rfl,hs,fun x h=>h.elim (fun z=>by cases z) id⟩
  | (n,k)::l,cs,h,hs=>by
    have hl:∀ x∈l,x.2=.free→∃ c,env.cells.lookup x.1=some c:=fun x hx=>h x (List.mem_cons_of_mem _ hx)
    rw [List.forIn_cons]
    by_cases hk:k=.free
    · subst hk
      obtain ⟨c,hc⟩:=h (n,.free) (List.mem_cons_self ..) rfl
      obtain ⟨cl,e,h1,h2⟩:=clos_go l ((n,c)::cs) hl fun x c' z=>by
        by_cases hx:x=n
        · subst hx
          rw [List.lookup_cons_self] at z
          cases z; exact hc
        · have hx':(x == n)=false:=by simpa using hx
          rw [List.lookup_cons,hx'] at z
          exact hs x c' z
      refine ⟨cl,?_,h1,fun x hx=>h2 x ?_⟩
      · have e0:cellOf env n=pure c:=by unfold cellOf; rw [hc]
        simp only [beq_self_eq_true,if_true,e0,pure_bind]
        exact e
      · rcases hx with hx | ⟨c',hx⟩
        · rcases List.mem_cons.mp hx with hx | hx
          · have:x=n:=(Prod.mk.inj hx).1
            subst this
            exact .inr ⟨c,List.lookup_cons_self⟩
          · exact .inl hx
        · by_cases hxn:x=n
          · subst hxn; exact .inr ⟨c,List.lookup_cons_self⟩
          · have hx':(x == n)=false:=by simpa using hxn
            exact .inr ⟨c',by rw [List.lookup_cons,hx']; exact hx⟩
    · obtain ⟨cl,e,h1,h2⟩:=clos_go l cs hl hs
      have hb:(k == NameKind.free)=false:=by simpa using hk
      refine ⟨cl,?_,h1,fun x hx=>h2 x ?_⟩
      · simp only [hb,Bool.false_eq_true,if_false,pure_bind]
        exact e
      · rcases hx with hx | hx
        · rcases List.mem_cons.mp hx with hx | hx
          · exact absurd (Prod.mk.inj hx).2.symm hk
          · exact .inl hx
        · exact .inr hx
theorem closure_of {scope:Scope} (h:∀ x∈scope.names,x.2=.free→∃ c,env.cells.lookup x.1=some c) :
    ∃ cl,closureFor scope env=pure cl∧(∀ x c,cl.lookup x=some c→env.cells.lookup x=some c)∧∀ x,(x,NameKind.free)∈scope.names→∃ c,cl.lookup x=some c:=by
  obtain ⟨cl,e,h1,h2⟩:=clos_go scope.names [] h (fun x c z=>by simp at z)
  refine ⟨cl,?_,h1,fun x hx=>h2 x (.inl hx)⟩
  unfold closureFor
  dsimp only
  refine Eq.trans (congrArg (· >>= pure) ?_) (Eq.trans (congrArg (· >>= pure) e) (by simp))
  rfl
end
section
variable {prog:Program}{w:World}{A:Around}{R:Result→Shared→Prop}{s:Shared}
theorem loop_comp {elt target iter:Expr}{ifs:List Expr}{scope:Scope}{pos:Pos}{it acc:Value}{env:Env} (J:Nat→Shared→Prop)
    (turn:∀ n s,J n s→wpAny (model prog w) A (pyNext it) (fun r s1=>match r with
      | none=>R (.ok .next) s1
      | some v=>wpAny (model prog w) A (letOwnedTupleGo target it v) (fun _ s2=>wpAny (model prog w) A (assign target env v) (fun _ s3 =>
          wpAny (model prog w) A (forIn ifs true fun c r=>if r=true then do let ok ← isTrue c env (eval c env); pure (ForInStep.yield ok) else pure (ForInStep.yield r)) (fun ok s4 =>
            if ok=true then wpAny (model prog w) A (eval elt env) (fun x s5=>wpAny (model prog w) A (call (.builtin "list.append") [acc,x]) (fun _ s6=>∃ m,m < n∧J m s6) (fun _ _=>False) s5) (fun _ _=>False) s4
            else ∃ m,m < n∧J m s4) (fun _ _=>False) s3) (fun _ _=>False) s2) (fun _ _=>False) s1) (fun _ _=>False) s)
    (n:Nat) (h:J n s):codeAny (model prog w) A (.compLoop (.ListComp elt [⟨target,iter,ifs,0⟩] scope pos) 0 it acc env) R s:=by
  refine codeAny_loop rfl J (fun n s hJ=>?_) n h
  show wpAny _ A ((compTurn (.ListComp elt [⟨target,iter,ifs,0⟩] scope pos) 0 it acc env).onRaise (fun x=>noteFrame x env >>= fun _=>theTreesLotGoes x)) _ _ s
  refine wpAny_noted ?_
  have no:∀ {α:Type} {t:Sem α} {Q:α→Shared→Prop} {E:Value→Shared→Prop} {s:Shared},wpAny (model prog w) A t Q (fun _ _=>False) s→wpAny (model prog w) A t Q E s:=fun h=>wpAny_mono h (fun _ _ q=>q) fun _ _ f=>f.elim
  rw [compTurn_list]
  refine wpAny_bind (wpAny_standAt (wpAny_bind (no (wpAny_mono (turn n s hJ) (fun r s1 h1=>?_) fun _ _ f=>f))))
  cases r with
  | none=>exact wpAny_pure h1
  | some v =>
    refine wpAny_bind (no (wpAny_mono h1 (fun _ s2 h2=>?_) fun _ _ f=>f))
    refine wpAny_bind (no (wpAny_mono h2 (fun _ s3 h3=>?_) fun _ _ f=>f))
    refine wpAny_bind (no (wpAny_mono h3 (fun ok s4 h4=>?_) fun _ _ f=>f))
    cases ok with
    | false=>exact wpAny_pure ⟨rfl,h4⟩
    | true =>
      refine wpAny_bind (wpAny_bind (no (wpAny_mono h4 (fun x s5 h5=>?_) fun _ _ f=>f)))
      exact wpAny_bind (no (wpAny_mono h5 (fun _ s6 h6=>wpAny_pure (wpAny_pure ⟨rfl,h6⟩)) fun _ _ f=>f))
end
end L2
end
section
namespace L2
open PySem PySem.Spec PyProof.Rows
theorem HOk.track {P:Program}{w:World}{H:Hp}{h:Heap}{a:Addr}{o:HO} (x:HOk P w H h) (hn:H a=none) (new:ObjOk P w (upd H a o) h a o):HOk P w (upd H a o) h:=fun b u e=>by
  by_cases hb:b=a
  · subst hb; rw [upd_same] at e; cases e; exact new
  · rw [upd_ne hb] at e
    refine (x b u e).stay (fun c v _ q=>q) (fun c q=>?_) fun c xs q=>?_
    · rw [upd_ne (ne_of_none q hn)]; exact q
    · rw [upd_ne (ne_of_none q hn)]; exact q
theorem HOk.but {P:Program}{w:World}{H:Hp}{h h':Heap}{C:Addr} (x:HOk P w H h) (hn:H C=none) (k:∀ b u,b≠C→h.get? b=some u→h'.get? b=some u):HOk P w H h':=fun b u e=>by
  refine (x b u e).stay (fun c v hc q=>k c v ?_ q) (fun _ q=>q) fun _ _ q=>q
  rintro rfl
  rcases hc with z | z
  · rw [z,e] at hn; cases hn
  · rw [z] at hn; cases hn
theorem relabel_free {env:Env}:∀ {names:List (Str × NameKind)}{x:Str},names.lookup x=some .free →
    (names.map fun (n,k)=>if (k == NameKind.free && env.scope.kind == .function && env.kindOf n == some .cell) then (n,NameKind.cell) else (n,k)).lookup x=some .cell ∨
    (names.map fun (n,k)=>if (k == NameKind.free && env.scope.kind == .function && env.kindOf n == some .cell) then (n,NameKind.cell) else (n,k)).lookup x=some .free
  | [],_,h=>by simp at h
  | (n,k)::r,x,h=>by
    rw [List.map_cons]
    cases hx:x == n with
    | true =>
      rw [List.lookup_cons,hx] at h
      cases h
      dsimp only
      split
      · left; rw [List.lookup_cons,hx]
      · right; rw [List.lookup_cons,hx]
    | false =>
      rw [List.lookup_cons,hx] at h
      have ih:=relabel_free (env:=env) h
      dsimp only
      split
      · rw [List.lookup_cons,hx]; exact ih
      · rw [List.lookup_cons,hx]; exact ih
theorem relabel_inv {env:Env}:∀ {names:List (Str × NameKind)}{x:Str}{k':NameKind},(k'=.cell∨k'=.free) →
    (names.map fun (n,k)=>if (k == NameKind.free && env.scope.kind == .function && env.kindOf n == some .cell) then (n,NameKind.cell) else (n,k)).lookup x=some k'→∃ k,(x,k)∈names∧(k=.cell∨k=.free)
  | [],_,_,_,h=>by simp at h
  | (n,k)::r,x,k',hk,h=>by
    rw [List.map_cons] at h
    cases hx:x == n with
    | true =>
      have e:x=n:=by simpa using hx
      subst e
      dsimp only at h
      split at h
      · rename_i hc
        have:k=.free:=by
          rw [Bool.and_eq_true,Bool.and_eq_true] at hc
          simpa using hc.1.1
        exact ⟨k,List.mem_cons_self ..,.inr this⟩
      · rw [List.lookup_cons,hx] at h
        cases h
        exact ⟨k,List.mem_cons_self ..,hk⟩
    | false =>
      have h':(r.map fun (n,k)=>if (k == NameKind.free && env.scope.kind == .function && env.kindOf n == some .cell) then (n,NameKind.cell) else (n,k)).lookup x=some k':=by
        dsimp only at h
        split at h
        · rw [List.lookup_cons,hx] at h; exact h
        · rw [List.lookup_cons,hx] at h; exact h
      obtain ⟨k0,h0,h1⟩:=relabel_inv (env:=env) hk h'
      exact ⟨k0,List.mem_cons_of_mem _ h0,h1⟩
def cxComp (X:Cx) (N:List Str) (scope:Scope) (cl:List (Str × Addr)) (C:Addr) (s:Shared) (H:Hp) (ex:List Addr):Cx where
  prog:=X.prog
  w:=X.w
  K:=X.K
  mg:=X.mg
  base:=X.base
  A:=X.A
  N:=N
  s₀:=s
  H₀:=H
  env:=compEnvC scope cl C X.env
  outer:=X.stack
  stack:=X.stack
  ex:=ex
  fn:=fun _=>false
  calm:=X.calm
  pn:=[]
  xe:=fun _ _=>False
structure CompScope (sc:Scope) (XN N:List Str) (scope:Scope) (caps:List Nat):Prop where
  kind:scope.kind=.function
  nd:N.Nodup
  nocell:∀ y∈scope.names,y.2≠.cell
  names:∀ y∈scope.names,y.2=.local→scope.names.lookup y.1=some .local
  free:∀ y∈scope.names,y.2=.free→sc.names.lookup y.1=some .cell∨sc.names.lookup y.1=some .free
  cap:∀ (i:Nat),i < caps.length→∃ x,N[i]?=some x∧XN[caps.getD i 0]?=some x∧scope.names.lookup x=some .free∧(sc.names.lookup x=some .cell∨sc.names.lookup x=some .free)
  len:caps.length≤N.length
def capStart (caps:List Nat) (n:Nat) (σ:St):St:=caps.map (fun j=>(σ[j]?).join)++List.replicate (n - caps.length) none
def PF (X:Cx) (ifs:List Expr) (tc:TT):Prop :=
  ∀ (pins:List (Addr × Obj)) (s:Shared) (σ:St) (H:Hp) (Q:Bool→Hp→Prop),Inv X pins σ H s→tc σ H Q →
    wpAny (model X.prog X.w) X.A (forIn ifs true fun c r=>if r=true then do let ok ← isTrue c X.env (eval c X.env); pure (ForInStep.yield ok) else pure (ForInStep.yield r)) (TP X pins σ Q) X.xe s
def tYes:TT:=fun _ H Q=>Q true H
theorem pf_nil {X:Cx}:PF X [] tYes:=fun pins s σ H Q I h=>by
  rw [List.forIn_nil]
  exact wpAny_pure ⟨H,I,h⟩
theorem pf_one {X:Cx}{c:Expr}{tc:TT} (hc:PT X c tc):PF X [c] tc:=fun pins s σ H Q I h=>by
  rw [List.forIn_cons]
  refine wpAny_bind ?_
  rw [if_pos rfl]
  refine wpAny_bind (thn (hc pins s σ H Q I h) fun ok s1 q=>wpAny_pure ?_)
  show wpAny _ _ (forIn [] ok _) _ _ _
  rw [List.forIn_nil]
  exact wpAny_pure q
def tComp (wi:TI) (g:TG) (tc:TT) (te:TE) (caps:List Nat) (n:Nat):TE:=fun σ H Q=>wi σ H fun J H1=>∃ W:Nat→Nat→List V→St→Hp→Prop,(∃ m,W 0 m [] (capStart caps n σ) H1)∧∀ i m acc σ' H',W i m acc σ' H' →
  (J.stop i H'∧∀ D,H' D=none→Q (.ref D) (upd H' D (.lst acc))) ∨
  (J.go i H'∧acc.length < sizeLine∧∀ x H2,J.yld i H' x H2→g x σ' H2 fun σ2 H3=>tc σ2 H3 fun b H4=>if b=true then te σ2 H4 fun y H5=>∃ m',m' < m∧W (i+1) m' (acc++[y]) σ2 H5 else ∃ m',m' < m∧W (i+1) m' acc σ2 H4)
section
variable {X:Cx}{pins:List (Addr × Obj)}{σ:St}{H:Hp}{s:Shared}{N:List Str}{scope:Scope}{cl:List (Str × Addr)}{C:Addr}{fp:List Addr}{caps:List Nat}
theorem comp_ok (I:Inv X pins σ H s) (S:CompScope X.env.scope X.N N scope caps) (h1:∀ x c,cl.lookup x=some c→X.env.cells.lookup x=some c) (h2:∀ x,(x,NameKind.free)∈scope.names→∃ c,cl.lookup x=some c)
    (hC:s.heap.objs.size≤C) (hf:∀ b∈fp,FpOk X pins H b) (hfo:∀ b∈fp,b < s.heap.objs.size):(cxComp X N scope cl C s H fp).Ok where
  mod:=I.ok.mod
  kind:=S.kind
  glob:=I.ok.glob
  blt:=I.ok.blt
  above:=hC
  inj:=fun x y c a b=>I.ok.inj x y c (h1 x c a) (h1 y c b)
  has:=fun x hx=>by
    have hx':∃ k',(k'=NameKind.cell∨k'=.free)∧(relabel scope X.env).names.lookup x=some k':=by
      rcases hx with z | z
      · exact ⟨_,.inl rfl,z⟩
      · exact ⟨_,.inr rfl,z⟩
    obtain ⟨k',hk,z⟩:=hx'
    obtain ⟨k,m,e⟩:=relabel_inv hk z
    rcases e with e | e
    · exact absurd e (S.nocell _ m)
    · subst e; exact h2 x m
  cab:=fun x c z=>by cases z
  hd:=I.ok.hd
  frames:=I.ok.frames
  stk:=.inl rfl
  exf:=fun b hb=>by
    obtain ⟨_,_,_,_,f4,_⟩:=hf b hb
    exact ⟨Nat.ne_of_lt (Nat.lt_of_lt_of_le (hfo b hb) hC),fun x c e=>f4 x c (h1 x c e)⟩
  bs:=I.bs
  bsz:=Nat.le_trans I.ok.bsz I.sz
  noex:=fun b o e hb=>by
    obtain ⟨_,_,_,f3,_⟩:=hf b hb
    rcases f3 with z | z
    · exact I.ok.noex b o e z
    · exact absurd (Nat.lt_of_lt_of_le (Heap.lt_size e) (Nat.le_trans I.ok.bsz z)) (Nat.lt_irrefl _)
  exfs:=fun b hb z=>by
    obtain ⟨_,f1,f2,_⟩:=hf b hb
    rcases List.mem_cons.mp (I.stkSub b z) with e | e
    · exact f1 e
    · exact f2 e
  funs:=I.stack
  frf:=I.stkFree
theorem comp_start {h1:Heap}{D:Addr}{od:Obj}{t:Nat}{m:Str→Option Value} (I:Inv X pins σ H s) (ok:(cxComp X N scope cl C s H fp).Ok) (S:CompScope X.env.scope X.N N scope caps)
    (hcl:∀ x c,cl.lookup x=some c→X.env.cells.lookup x=some c) (hcl2:∀ x,(x,NameKind.free)∈scope.names→∃ c,cl.lookup x=some c)
    (keep:∀ b o,s.heap.get? b=some o→h1.get? b=some o) (hn:h1.Ns C m) (hC:s.heap.objs.size≤C) (hD:h1.get? D=some od) (hDs:s.heap.objs.size≤D) (hDC:D≠C) (hdc:∀ v,od.data≠.cell v) :
    Inv (cxComp X N scope cl C s H fp) [(D,od)] (capStart caps N.length σ) H { s with heap:=h1,toks:=t }:=by
  have cellK:∀ x c,cl.lookup x=some c→∀ v,s.heap.IsCell c v→h1.IsCell c v:=fun x c e v ⟨o,ho,hd⟩=>⟨o,keep c o ho,hd⟩
  refine ⟨ok,rfl,I.bare,Un.kept keep,⟨m,hn,fun i x v e1 e2 e3=>?_⟩,fun x c e=>?_,I.hok.fresh hC,fun x c e=>I.freeC x c (hcl x c e),fun p hp=>?_,I.hok.kept keep,?_⟩
  · have hi:i < caps.length:=by
      by_cases hi:i < caps.length
      · exact hi
      · exfalso
        unfold capStart at e2
        rw [List.getElem?_append_right (by simpa using hi),List.getElem?_replicate] at e2
        split at e2 <;> cases e2
    obtain ⟨y,y1,y2,y3,y4⟩:=S.cap i hi
    have exy:x=y:=by
      have e1':N[i]?=some x:=e1
      rw [y1] at e1'; exact (Option.some.inj e1').symm
    subst exy
    have e4:σ[caps.getD i 0]?=some (some v):=by
      unfold capStart at e2
      rw [List.getElem?_append_left (by simpa using hi),List.getElem?_map] at e2
      have:caps[i]?=some (caps.getD i 0):=by rw [List.getD_eq_getElem?_getD]; simp [hi]
      rw [this] at e2
      have e2':(σ[caps.getD i 0]?).join=some v:=by simpa using e2
      cases q:σ[caps.getD i 0]? with
      | none=>rw [q] at e2'; cases e2'
      | some z=>rw [q] at e2'; have:z=some v:=e2'; rw [this]
    obtain ⟨m',_,hl⟩:=I.loc
    obtain ⟨u,r,l⟩:=hl _ x v y2 e4 (y4.elim (fun z=>.inr (.inl z)) fun z=>.inr (.inr z))
    refine ⟨u,r,?_⟩
    have nl:X.env.kindOf x≠some .local:=by
      rcases y4 with z | z
      · show X.env.scope.names.lookup x≠_; rw [z]; decide
      · show X.env.scope.names.lookup x≠_; rw [z]; decide
    rcases l with ⟨k,_⟩ | ⟨_,c,hc,z⟩
    · exact absurd k nl
    · obtain ⟨c',hc'⟩:=hcl2 x (PySem.mem_of_lookup y3)
      have:c=c':=Option.some.inj (hc.symm.trans (hcl x c' hc'))
      subst this
      refine .inr ⟨?_,c,hc',cellK x c hc' _ z⟩
      exact relabel_free (env:=X.env) y3
  · obtain ⟨v,z⟩:=I.cell x c (hcl x c e)
    exact ⟨v,cellK x c e v z⟩
  · have:p=(D,od):=by
      have hp':p∈[(D,od)]:=hp
      simpa using hp'
    subst this
    refine ⟨hD,I.hok.fresh hDs,hDC,fun z=>?_,hdc⟩
    have z':D∈frs X.stack:=z
    obtain ⟨_,o,ho,_⟩:=I.stack.mem z'
    exact absurd (Nat.lt_of_lt_of_le (Heap.lt_size ho) hDs) (Nat.lt_irrefl _)
  · unfold capStart
    show _=N.length
    rw [List.length_append,List.length_map,List.length_replicate]
    have:=S.len
    omega
end
section
variable {X:Cx}
theorem pe_comp {tg iter elt:Expr}{ifs:List Expr}{scope:Scope}{pos:Pos}{wi:TI}{g:TG}{tc:TT}{te:TE}{N:List Str}{caps:List Nat} (hc:X.calm=true) (S:CompScope X.env.scope X.N N scope caps)
    (hi:PI X tg iter wi) (hg:∀ cl C s H ex,PG (cxComp X N scope cl C s H ex) tg g) (hf:∀ cl C s H ex,PF (cxComp X N scope cl C s H ex) ifs tc) (he:∀ cl C s H ex,PE (cxComp X N scope cl C s H ex) elt te)
    (hs:∀ x,foldedSetIterable iter X.env x=pure x:=by intro _; rfl):PE X (.ListComp elt [⟨tg,iter,ifs,0⟩] scope pos) (tComp wi g tc te caps N.length):=by
  intro pins s σ H Q I h
  obtain ⟨cl,hcl,hcl1,hcl2⟩:=closure_of (env:=X.env) (scope:=scope) fun y hy e=>I.ok.has y.1 (S.free y hy e)
  rw [eval_ListComp]
  refine wpAny_comprehension_free (use:=none) rfl hs hcl S.kind S.names (thn (hi pins s σ H _ I h) fun v s1 h1=>thn h1 fun itv s2 h2=>?_)
  obtain ⟨it,fp,tn,J,H2,e,I2,T,st2,f2,W,⟨m0,w0⟩,turn⟩:=h2
  subst e
  refine wpAny_newObj_type (wpAny_newFunctionEnv S.nocell (by intro y hy; simp at hy) (fun h₁ hns hsb=>?_) S.kind)
  dsimp only at hns hsb ⊢
  generalize hG:s2.heap.push { cls:=.type "list",dict:=none,data:=.seq ([]:List Value).toArray }=G at hns hsb ⊢
  have hCs:G.objs.size=s2.heap.objs.size+1:=by rw [← hG,Heap.size_push]
  have hDC:s2.heap.objs.size≠G.objs.size:=by rw [hCs]; exact Nat.ne_of_lt (Nat.lt_succ_self _)
  have old:∀ b o,s2.heap.get? b=some o→h₁.get? b=some o:=fun b o e=>by
    have hb:=Heap.lt_size e
    refine hsb.extBut b o (by rw [hCs]; exact Nat.ne_of_lt (Nat.lt_succ_of_lt hb)) (Heap.get?_push_of_some _ ?_)
    rw [← hG]
    exact Heap.get?_push_of_some _ e
  have hD:h₁.get? s2.heap.objs.size=some { cls:=.type "list",dict:=none,data:=.seq ([]:List Value).toArray }:=by
    refine hsb.extBut _ _ hDC (Heap.get?_push_of_some _ ?_)
    rw [← hG]
    exact Heap.get?_push_size _ rfl
  have hfo:∀ b∈fp,b < s2.heap.objs.size:=fun b hb=>let ⟨o,e,_⟩:=T.obj 0 _ st2 b hb; Heap.lt_size e
  have hCle:s2.heap.objs.size≤G.objs.size:=by omega
  have ok:=comp_ok (C:=G.objs.size) I2 S hcl1 hcl2 hCle f2 hfo
  have I0:Inv (cxComp X N scope cl G.objs.size s2 H2 fp) [(s2.heap.objs.size,{ cls:=.type "list",dict:=none,data:=.seq ([]:List Value).toArray })] (capStart caps N.length σ) H2 { s2 with heap:=h₁,toks:=s2.toks+([]:List (Str × Value)).length } :=
    comp_start I2 ok S hcl1 hcl2 old hns hCle hD (Nat.le_refl _) hDC (fun v z=>by cases z)
  have st1:tn 0 h₁:=T.keep 0 _ _ st2 fun b _ o e=>old b o e
  generalize hX:cxComp X N scope cl G.objs.size s2 H2 fp=X' at I0
  generalize hDa:s2.heap.objs.size=D at I0 hD hDC
  have loop:codeAny (model X.prog X.w) X.A (.compLoop (.ListComp elt [⟨tg,iter,ifs,0⟩] scope pos) 0 (.ref it) (.ref D) (compEnvC scope cl G.objs.size X.env)) (compPost (model X.prog X.w) X.A X.xe none (EP X pins σ Q) (.ref D) G.objs.size)
      { s2 with heap:=h₁,toks:=s2.toks+([]:List (Str × Value)).length }:=by
    subst hX
    refine loop_comp (J:=fun n s'=>∃ i σ' H' acc its e,Inv (cxComp X N scope cl G.objs.size s2 H2 fp) [(D,{ cls:=.type "list",data:=.seq (List.toArray its) e })] σ' H' s'∧Vals acc its∧acc.length≤sizeLine∧tn i s'.heap∧(∀ b∈fp,H' b=none)∧W i n acc σ' H')
      ?_ m0 ⟨0,_,H2,[],[],0,I0,.nil,Nat.zero_le _,st1,fun b hb=>(f2 b hb).1,w0⟩
    rintro n s3 ⟨i,σ3,H3,acc,its,ep,I3,rv,hz,st3,fr3,w3⟩
    have stat:∀ {H':Hp} {pl:List (Addr × Obj)},(∀ b∈fp,H' b=none)→(∀ p∈pl,p.1=D)→∀ b∈fp,FpOk (cxComp X N scope cl G.objs.size s2 H2 fp) pl H' b:=fun {H' pl} hn hpl b hb=>by
      obtain ⟨a1,a2⟩:=ok.exf b hb
      exact ⟨hn b hb,a1,ok.exfs b hb,.inl hb,fun x c e=>a2 x c e,fun p hp=>by
        have hp':p∈pl:=hp
        rw [hpl p hp',← hDa]
        exact Nat.ne_of_gt (hfo b hb)⟩
    have one:∀ p∈[(D,({ cls:=.type "list",data:=.seq (List.toArray its) ep }:Obj))],p.1=D:=fun p hp=>by
      rcases List.mem_cons.mp hp with e | e
      · rw [e]
      · cases e
    have pinD:∀ {pl:List (Addr × Obj)} {σ':St} {H':Hp} {s':Shared} {o:Obj},Inv (cxComp X N scope cl G.objs.size s2 H2 fp) pl σ' H' s'→(D,o)∈pl→s'.heap.get? D=some o∧H' D=none:=fun {pl σ' H' s' o} I' hm=>by
      obtain ⟨a,b,_⟩:=I'.pin (D,o) (List.mem_append_right _ hm)
      exact ⟨a,b⟩
    rcases turn i n acc σ3 H3 w3 with ⟨stop,q⟩ | ⟨go,hlt,step⟩
    · refine wpAny_mono (T.done (cxComp X N scope cl G.objs.size s2 H2 fp) rfl rfl rfl hc i _ s3 σ3 H3 (fun _ _=>False) I3 (stat fr3 one) st3 stop) (fun r s4 ⟨hr,I4⟩=>?_) fun _ _ f=>f
      subst hr
      obtain ⟨hDo,hDn⟩:=pinD I4 (List.mem_cons_self ..)
      obtain ⟨m4,hm4,_⟩:=I4.loc
      refine ⟨m4,hm4,fun h' hsb'=>?_⟩
      have keepC:∀ b u,b≠G.objs.size→s4.heap.get? b=some u→h'.get? b=some u:=fun b u hb e=>hsb'.extBut b u hb e
      have un:Un (frs X.stack) fp H2 H3 s2.heap s4.heap:=I4.base
      have hDo':h'.get? D=some { cls:=.type "list",data:=.seq (List.toArray its) ep }:=keepC D _ hDC hDo
      have hlow:∀ b (o:Obj),s2.heap.get? b=some o→b≠G.objs.size∧b≠D:=fun b o e=>by
        have h0:=Heap.lt_size e
        exact ⟨by rw [hCs]; exact Nat.ne_of_lt (Nat.lt_succ_of_lt h0),by rw [← hDa]; exact Nat.ne_of_lt h0⟩
      have un':Un (frs X.stack) fp H2 (upd H3 D (.lst acc)) s2.heap h' :=
        ⟨fun b o e n' hb hx=>keepC b o (hlow b o e).1 (un.keep b o e n' hb hx),
         fun b o e n' hb hx=>let ⟨sl,q⟩:=un.slot b o e n' hb hx; ⟨sl,keepC b _ (hlow b o e).1 q⟩,
         fun b o e n' hx=>by rw [upd_ne (hlow b o e).2]; exact un.free b o e n' hx,
         fun b o e hx=>let ⟨o',q⟩:=un.there b o e hx; ⟨o',keepC b _ (hlow b o e).1 q⟩,
         fun b xs e=>by rw [upd_ne (ne_of_none (un.tups b xs e) hDn)]; exact un.tups b xs e,
         fun b o u e=>by rw [upd_ne (ne_of_none (un.frzs b o u e) hDn)]; exact un.frzs b o u e,
         fun b ps e=>let ⟨mo,q⟩:=un.tbls b ps e; ⟨mo,by rw [upd_ne (ne_of_none q hDn)]; exact q⟩⟩
      have hok:HOk X.prog X.w (upd H3 D (.lst acc)) h':=(I4.hok.but I4.free keepC).track hDn ⟨hz,its,ep,rv,hDo'⟩
      refine ⟨.ref D,upd H3 D (.lst acc),I2.call' (s':={ s4 with heap:=h' }) I4.os un' hok I4.bare (fun b hb=>?_),rfl,q D hDn⟩
      obtain ⟨_,f1,_,f3,f4,f5⟩:=f2 b hb
      exact ⟨f3,f1,f4,f5⟩
    · refine wpAny_mono (T.item (cxComp X N scope cl G.objs.size s2 H2 fp) rfl rfl rfl hc i _ s3 σ3 H3 (fun _ _=>False) I3 (stat fr3 one) st3 go) (fun r s4 ⟨u,hr,h4⟩=>?_) fun _ _ f=>f
      subst hr
      refine thn h4 fun _ s5 ⟨x,H5,I5,r5,y5,st5,fr5⟩=>?_
      have I5':=I5.pinned (stat fr5 one) (T.obj _ _ st5)
      refine thn (hg cl G.objs.size s2 H2 fp _ s5 σ3 H5 x u _ I5' r5 (step x H5 y5)) fun _ s6 ⟨σ6,H6,I6,q6⟩=>?_
      refine thn (hf cl G.objs.size s2 H2 fp _ s6 σ6 H6 _ I6 q6) fun b s7 ⟨H7,I7,q7⟩=>?_
      have fin:∀ {pl:List (Addr × Obj)} {σ':St} {H':Hp} {s':Shared},Inv (cxComp X N scope cl G.objs.size s2 H2 fp) (pl++pinsAt fp s5.heap) σ' H' s'→tn (i+1) s'.heap∧∀ b∈fp,H' b=none:=fun {pl σ' H' s'} I'=>by
        refine ⟨T.keep _ _ _ st5 fun b hb o e=>(I'.pin (b,o) (List.mem_append_right _ (List.mem_append_right _ (mem_pinsAt hb e)))).1,fun b hb=>?_⟩
        obtain ⟨o,e,_⟩:=T.obj _ _ st5 b hb
        exact (I'.pin (b,o) (List.mem_append_right _ (List.mem_append_right _ (mem_pinsAt hb e)))).2.1
      cases b with
      | false =>
        rw [if_neg Bool.false_ne_true] at q7 ⊢
        obtain ⟨m',hm,w7⟩:=q7
        obtain ⟨a1,a2⟩:=fin I7
        exact ⟨m',hm,i+1,σ6,H7,acc,its,ep,I7.unpinned,rv,hz,a1,a2,w7⟩
      | true =>
        rw [if_pos rfl] at q7 ⊢
        refine thn (he cl G.objs.size s2 H2 fp _ s7 σ6 H7 _ I7 q7) fun y s8 ⟨yv,H8,I8,r8,m',hm,w8⟩=>?_
        obtain ⟨a1,a2⟩:=fin I8
        obtain ⟨b1,b2⟩:=pinD I8 (List.mem_append_left _ (List.mem_cons_self ..))
        have hl:=rv.length
        refine call_meets F.slot_list_append ⟨_,b1,rfl⟩ F.entry_list_append (F.args_list_append_2 _ _) (PySem.list_append D its.toArray ep y (by rw [List.size_toArray]; omega)) ⟨b1,?_⟩
        have q9:=PySem.IsL.update b1 (·.push y)
        have kp:∀ b o,b≠D→s8.heap.get? b=some o→(s8.heap.update D (Obj.mapSeq (·.push y))).get? b=some o:=fun b o hb e=>(Heap.get?_update_other s8.heap (Obj.mapSeq (·.push y)) (Ne.symm hb)).trans e
        have I9:Inv (cxComp X N scope cl G.objs.size s2 H2 fp) [] σ6 H8 { s8 with heap:=s8.heap.update D (Obj.mapSeq (·.push y)) } :=
          (I8.pins_of (pins':=[]) fun p hp=>by cases hp).turned (t':=s8.toks) kp b2 hDC (.inr (by rw [← hDa]; exact Nat.le_refl _)) (fun x c e z=>by
            have e':X.env.cells.lookup x=some c:=hcl1 x c e
            obtain ⟨v',hv'⟩:=I2.cell x c e'
            have h0:=hv'.lt
            rw [z,← hDa] at h0
            exact Nat.lt_irrefl _ h0) fun p hp=>by
              have:p∈([]:List (Addr × Obj)):=hp
              cases this
        have hpu:its.toArray.push y=(its++[y]).toArray:=by simp
        rw [hpu] at q9
        obtain ⟨e9,q9⟩:∃ e9,(s8.heap.update D (Obj.mapSeq (·.push y))).get? D=some { cls:=.type "list",data:=.seq (its++[y]).toArray e9 }:=⟨_,q9⟩
        refine ⟨m',hm,i+1,σ6,H8,acc++[yv],its++[y],e9,I9.pins_of fun p hp=>?_,rv.append (.cons r8 .nil),?_,T.keep _ _ _ a1 fun b hb o e=>kp b o ?_ e,a2,w8⟩
        · obtain rfl:p=(D,{ cls:=.type "list",data:=.seq (its++[y]).toArray e9 }):=by
            rcases List.mem_cons.mp hp with e | e
            · exact e
            · cases e
          obtain ⟨_,_,c3,c4,_⟩:=I8.pin (D,_) (List.mem_append_right _ (List.mem_append_left _ (List.mem_cons_self ..)))
          exact ⟨q9,b2,c3,c4,fun v z=>by cases z⟩
        · rw [List.length_append,List.length_singleton]; omega
        · rintro rfl
          have h0:=hfo b hb
          rw [hDa] at h0
          exact Nat.lt_irrefl _ h0
  exact codeAny_compStart_list loop (T.self X.A 0 _ _ _ st1 loop)
end
end L2
end
section
namespace L2
open PySem PySem.Spec PyProof.Rows
theorem Same.seqT {K:PySem.W.Frag}{H H':Hp}{a:Addr}{xs:List V} (e:Same H H') (h:SqT K H a xs):SqT K H' a xs:=by
  rcases h with (h | ⟨o,h⟩) | h
  · exact .inl (.inl (e _ _ h))
  · exact .inl (.inr ⟨o,e _ _ h⟩)
  · exact .inr h
mutual
def Rep (K:PySem.W.Frag) (H:Hp):PyData→V→Prop
  | .none,v=>v=.non
  | .bool b,v=>v=.bl b
  | .int i,v=>v=.int i
  | .str x,v=>v=.str x
  | .list ds,v=>∃ a xs,v=.ref a∧SqL K H a xs∧Reps K H ds xs
  | .tuple ds,v=>∃ a xs,v=.ref a∧SqT K H a xs∧Reps K H ds xs
  | .dict _,_=>False
def Reps (K:PySem.W.Frag) (H:Hp):List PyData→List V→Prop
  | [],xs=>xs=[]
  | d::ds,xs=>∃ y ys,xs=y::ys∧Rep K H d y∧Reps K H ds ys
end
mutual
theorem Rep.same {K:PySem.W.Frag}{H H':Hp} (e:Same H H'):∀ (d:PyData) (v:V),Rep K H d v→Rep K H' d v
  | .none,v,h=>h
  | .bool b,v,h=>h
  | .int i,v,h=>h
  | .str x,v,h=>h
  | .list ds,v,h=>by
    obtain ⟨a,xs,h1,h2,h3⟩:=h
    exact ⟨a,xs,h1,e.seq h2,Reps.same e ds xs h3⟩
  | .tuple ds,v,h=>by
    obtain ⟨a,xs,h1,h2,h3⟩:=h
    exact ⟨a,xs,h1,e.seqT h2,Reps.same e ds xs h3⟩
  | .dict _,v,h=>h
theorem Reps.same {K:PySem.W.Frag}{H H':Hp} (e:Same H H'):∀ (ds:List PyData) (xs:List V),Reps K H ds xs→Reps K H' ds xs
  | [],xs,h=>h
  | d::ds,xs,h=>by
    obtain ⟨y,ys,h1,h2,h3⟩:=h
    exact ⟨y,ys,h1,Rep.same e d y h2,Reps.same e ds ys h3⟩
end
theorem Reps.length {K:PySem.W.Frag}{H:Hp}:∀ {ds:List PyData}{xs:List V},Reps K H ds xs→ds.length=xs.length
  | [],xs,h=>by rw [show xs=[] from h]; rfl
  | d::ds,xs,h=>by
    obtain ⟨y,ys,h1,_,h3⟩:=h
    rw [h1,List.length_cons,List.length_cons,Reps.length h3]
theorem Reps.get {K:PySem.W.Frag}{H:Hp}:∀ {ds:List PyData}{xs:List V}{i:Nat}{y:V},Reps K H ds xs→xs[i]?=some y→∃ d,ds[i]?=some d∧Rep K H d y
  | [],xs,i,y,h,e=>by rw [show xs=[] from h] at e; simp at e
  | d::ds,xs,i,y,h,e=>by
    obtain ⟨z,zs,h1,h2,h3⟩:=h
    subst h1
    cases i with
    | zero =>
      have:z=y:=by simpa using e
      subst this
      exact ⟨d,rfl,h2⟩
    | succ i =>
      obtain ⟨d',e1,e2⟩:=Reps.get (i:=i) h3 (by simpa using e)
      exact ⟨d',by simpa using e1,e2⟩
theorem Reps.append {K:PySem.W.Frag}{H:Hp}:∀ {ds es:List PyData}{xs ys:List V},Reps K H ds xs→Reps K H es ys→Reps K H (ds++es) (xs++ys)
  | [],es,xs,ys,h,h'=>by rw [show xs=[] from h]; exact h'
  | d::ds,es,xs,ys,h,h'=>by
    obtain ⟨z,zs,h1,h2,h3⟩:=h
    subst h1
    exact ⟨z,zs++ys,rfl,h2,Reps.append h3 h'⟩
theorem Reps.one {K:PySem.W.Frag}{H:Hp}{d:PyData}{v:V} (h:Rep K H d v):Reps K H [d] [v]:=⟨v,[],rfl,h,rfl⟩
theorem Reps.strs {K:PySem.W.Frag}{H:Hp}:∀ {ss:List Str}{xs:List V},Reps K H (ss.map PyData.str) xs↔xs=ss.map V.str
  | [],xs=>Iff.rfl
  | s::ss,xs=>by
    constructor
    · rintro ⟨y,ys,h1,h2,h3⟩
      have h2':y=.str s:=h2
      rw [h1,h2',Reps.strs.mp h3]; rfl
    · intro e
      exact ⟨.str s,ss.map V.str,e,rfl,Reps.strs.mpr rfl⟩
section
variable {X:Cx}{pins:List (Addr × Obj)}{σ:St}{H:Hp}{s:Shared}
mutual
theorem Rep.reads (I:Inv X pins σ H s):∀ (d:PyData) (v:V) (u:Value),Rep X.K H d v→RelV v u→∃ as,Reads s.heap u d as
  | .none,v,u,h,r=>by
    have h':v=.non:=h
    subst h'
    cases r
    exact ⟨_,.none⟩
  | .bool b,v,u,h,r=>by
    have h':v=.bl b:=h
    subst h'
    cases r
    exact ⟨_,.bool b⟩
  | .int i,v,u,h,r=>by
    have h':v=.int i:=h
    subst h'
    obtain ⟨t,rfl⟩:=r
    exact ⟨_,.int i t⟩
  | .str x,v,u,h,r=>by
    have h':v=.str x:=h
    subst h'
    obtain ⟨t,rfl⟩:=r
    exact ⟨_,.str x t⟩
  | .list ds,v,u,h,r=>by
    obtain ⟨a,xs,h1,h2,h3⟩:=h
    subst h1
    cases r
    obtain ⟨its,rv,⟨o,n,e,hc,_,hd⟩,_⟩:=I.list h2
    obtain ⟨as,ra⟩:=Reps.reads I ds xs its h3 rv
    exact ⟨_,.list e hc hd (by simpa using ra)⟩
  | .tuple ds,v,u,h,r=>by
    obtain ⟨a,xs,h1,h2,h3⟩:=h
    subst h1
    cases r
    obtain ⟨its,rv,⟨o,e,hc,n,hd⟩,_⟩:=I.tuple h2
    obtain ⟨as,ra⟩:=Reps.reads I ds xs its h3 rv
    exact ⟨_,.tuple e hc hd (by simpa using ra)⟩
  | .dict _,v,u,h,r=>h.elim
theorem Reps.reads (I:Inv X pins σ H s):∀ (ds:List PyData) (xs:List V) (us:List Value),Reps X.K H ds xs→Vals xs us→∃ as,ReadsAll s.heap us ds as
  | [],xs,us,h,r=>by
    have h':xs=[]:=h
    subst h'
    cases r
    exact ⟨_,.nil⟩
  | d::ds,xs,us,h,r=>by
    obtain ⟨y,ys,h1,h2,h3⟩:=h
    subst h1
    cases r with
    | cons r1 r2 =>
      obtain ⟨as,ra⟩:=Rep.reads I d y _ h2 r1
      obtain ⟨bs,rb⟩:=Reps.reads I ds ys _ h3 r2
      exact ⟨_,.cons ra rb⟩
end
def rEqD (K:PySem.W.Frag) (neg:Bool):R2:=fun x y H Q=>∃ d e,Rep K H d x∧Rep K H e y∧SeqAt.shaped d=true∧SeqAt.shaped e=true∧Q (.bl (if neg=true then !PyData.eqv d e else PyData.eqv d e)) H
theorem op_eqD (hu:X.A.units+64 < cLine):OpR X (compareOp .Eq) (rEqD X.K false):=by
  intro pins s σ H x y v u Q I rx ry h
  obtain ⟨d,e,h1,h2,h3,h4,q⟩:=h
  obtain ⟨as,ra⟩:=Rep.reads I d x v h1 rx
  obtain ⟨bs,rb⟩:=Rep.reads I e y u h2 ry
  exact eq_dataH ra rb h3 h4 hu ⟨.bl _,H,I,rfl,q⟩
theorem op_neD (hu:X.A.units+64 < cLine):OpR X (compareOp .NotEq) (rEqD X.K true):=by
  intro pins s σ H x y v u Q I rx ry h
  obtain ⟨d,e,h1,h2,h3,h4,q⟩:=h
  obtain ⟨as,ra⟩:=Rep.reads I d x v h1 rx
  obtain ⟨bs,rb⟩:=Rep.reads I e y u h2 ry
  exact ne_dataH ra rb h3 h4 hu ⟨.bl _,H,I,rfl,q⟩
end
mutual
theorem eqv_refl:∀ d:PyData,d.canLay0=true→PyData.eqv d d=true
  | .none,_=>rfl
  | .bool b,_=>by simp [PyData.eqv]
  | .int i,_=>by simp [PyData.eqv]
  | .str x,_=>by simp [PyData.eqv]
  | .list ds,h=>by
    have h':PyData.canLayAll0 ds=true:=by simpa [PyData.canLay0] using h
    simp only [PyData.eqv]; exact eqvAll_refl ds h'
  | .tuple ds,h=>by
    have h':PyData.canLayAll0 ds=true:=by simpa [PyData.canLay0] using h
    simp only [PyData.eqv]; exact eqvAll_refl ds h'
  | .dict _,h=>by simp [PyData.canLay0] at h
theorem eqvAll_refl:∀ ds:List PyData,PyData.canLayAll0 ds=true→PyData.eqvAll ds ds=true
  | [],_=>rfl
  | d::ds,h=>by
    have h':d.canLay0=true∧PyData.canLayAll0 ds=true:=by simpa [PyData.canLayAll0] using h
    simp only [PyData.eqvAll,eqv_refl d h'.1,eqvAll_refl ds h'.2,Bool.and_self]
end
end L2
end
section
open PySem PySem.W PyProof.Rows
namespace MyS
def ev {α:Type} (lt:Nat→Nat→Bool):KasT α→α
  | .ret a=>a
  | .ask i j k=>ev lt (k (lt i j))
theorem ev_bind {α β:Type} (lt:Nat→Nat→Bool) (f:α→KasT β):∀ t:KasT α,ev lt (t.bind f)=ev lt (f (ev lt t))
  | .ret _=>rfl
  | .ask i j k=>ev_bind lt f (k (lt i j))
def okT {α:Type} (lt:Nat→Nat→Bool) (N:Nat):KasT α→Prop
  | .ret _=>True
  | .ask i j k=>i < N∧j < N∧i≠j∧okT lt N (k (lt i j))
theorem okT_bind {α β:Type}{lt:Nat→Nat→Bool}{N:Nat}{f:α→KasT β}:∀ (t:KasT α),okT lt N t→okT lt N (f (ev lt t))→okT lt N (t.bind f)
  | .ret _,_,h=>h
  | .ask i j k,h,h'=>⟨h.1,h.2.1,h.2.2.1,okT_bind (k (lt i j)) h.2.2.2 h'⟩
structure TotalOn (lt:Nat→Nat→Bool) (n:Nat):Prop where
  irr:∀ i,i < n→lt i i=false
  tr:∀ i j k,i < n→j < n→k < n→lt i j=true→lt j k=true→lt i k=true
  tot:∀ i j,i < n→j < n→i≠j→lt i j=true∨lt j i=true
abbrev gg (p:Array Nat) (i:Nat):Nat:=p.getD i 0
def Pm (p:Array Nat) (n:Nat):Prop:=p.toList.Perm (List.range n)
theorem Pm.size {p:Array Nat}{n:Nat} (h:Pm p n):p.size=n:=by
  have:=List.Perm.length_eq h
  simpa using this
theorem gg_eq {p:Array Nat}{i:Nat} (h:i < p.size):gg p i=p[i]:=by simp [gg,Array.getD,h]
theorem Pm.lt {p:Array Nat}{n i:Nat} (h:Pm p n) (hi:i < n):gg p i < n:=by
  have hs:i < p.size:=by rw [h.size]; exact hi
  have hm:p[i]∈List.range n:=(List.Perm.mem_iff h).mp (by simp)
  rw [gg_eq hs]
  exact List.mem_range.mp hm
theorem Pm.ne {p:Array Nat}{n i j:Nat} (h:Pm p n) (hi:i < n) (hj:j < n) (hij:i≠j):gg p i≠gg p j:=by
  have hsi:i < p.size:=by rw [h.size]; exact hi
  have hsj:j < p.size:=by rw [h.size]; exact hj
  have nd:p.toList.Nodup:=(List.Perm.nodup_iff h).mpr List.nodup_range
  rw [gg_eq hsi,gg_eq hsj]
  intro e
  apply hij
  have e':p.toList[i]'(by simpa using hsi)=p.toList[j]'(by simpa using hsj):=by simpa using e
  exact (List.getElem_inj nd).mp e'
theorem Pm.perm {p q:Array Nat}{n:Nat} (h:Pm p n) (e:q.Perm p):Pm q n:=(Array.perm_iff_toList_perm.mp e).trans h
def Up (lt:Nat→Nat→Bool) (p:Array Nat) (k:Nat):Prop:=∀ i j,i < j→j < k→lt (gg p i) (gg p j)=true
def Dn (lt:Nat→Nat→Bool) (p:Array Nat) (k:Nat):Prop:=∀ i j,i < j→j < k→lt (gg p j) (gg p i)=true
section
variable {lt:Nat→Nat→Bool}{N:Nat}{p:Array Nat}
theorem TotalOn.flip (O:TotalOn lt N) {i j:Nat} (hi:i < N) (hj:j < N) (hne:i≠j) (h:lt i j=false):lt j i=true:=by
  rcases O.tot i j hi hj hne with h' | h'
  · rw [h] at h'; cases h'
  · exact h'
theorem Up.more (O:TotalOn lt N) (P:Pm p N) {n:Nat} (h1:1≤n) (hn:n < N) (u:Up lt p n) (h:lt (gg p (n - 1)) (gg p n)=true):Up lt p (n+1):=by
  intro i j hij hj
  by_cases e:j=n
  · subst e
    by_cases e':i=j - 1
    · subst e'; exact h
    · exact O.tr _ _ _ (P.lt (by omega)) (P.lt (by omega)) (P.lt hn) (u i (j - 1) (by omega) (by omega)) h
  · exact u i j hij (by omega)
theorem Dn.more (O:TotalOn lt N) (P:Pm p N) {n:Nat} (h1:1≤n) (hn:n < N) (u:Dn lt p n) (h:lt (gg p n) (gg p (n - 1))=true):Dn lt p (n+1):=by
  intro i j hij hj
  by_cases e:j=n
  · subst e
    by_cases e':i=j - 1
    · subst e'; exact h
    · exact O.tr _ _ _ (P.lt hn) (P.lt (by omega)) (P.lt (by omega)) h (u i (j - 1) (by omega) (by omega))
  · exact u i j hij (by omega)
theorem up_one:Up lt p 1:=fun i j hij hj=>by omega
theorem asc_ok (O:TotalOn lt N) (P:Pm p N):∀ (f n:Nat),1≤n→n+f≤N→Up lt p n →
    n≤ev lt (kas_asc p f n)∧ev lt (kas_asc p f n)≤n+f∧Up lt p (ev lt (kas_asc p f n))∧(ev lt (kas_asc p f n) < n+f→lt (gg p (ev lt (kas_asc p f n))) (gg p (ev lt (kas_asc p f n) - 1))=true)
  | 0,n,_,_,u=>⟨Nat.le_refl _,Nat.le_refl _,u,fun h=>absurd h (Nat.lt_irrefl _)⟩
  | f+1,n,h1,hn,u=>by
    have e:ev lt (kas_asc p (f+1) n)=ev lt (if lt (gg p n) (gg p (n - 1))=true then KasT.ret n else kas_asc p f (n+1)):=rfl
    rw [e]
    cases c:lt (gg p n) (gg p (n - 1)) with
    | true =>
      rw [if_pos rfl]
      exact ⟨Nat.le_refl _,Nat.le_add_right _ _,u,fun _=>c⟩
    | false =>
      rw [if_neg (by simp)]
      have c':=O.flip (P.lt (by omega)) (P.lt (by omega)) (P.ne (by omega) (by omega) (by omega)) c
      obtain ⟨a1,a2,a3,a4⟩:=asc_ok O P f (n+1) (by omega) (by omega) (u.more O P h1 (by omega) c')
      exact ⟨by omega,by omega,a3,fun h=>a4 (by omega)⟩
theorem asc_t (P:Pm p N):∀ (f n:Nat),1≤n→n+f≤N→okT lt N (kas_asc p f n)
  | 0,n,_,_=>trivial
  | f+1,n,h1,hn=>by
    refine ⟨P.lt (by omega),P.lt (by omega),P.ne (by omega) (by omega) (by omega),?_⟩
    show okT lt N (if lt (gg p n) (gg p (n - 1))=true then KasT.ret n else kas_asc p f (n+1))
    split
    · trivial
    · exact asc_t P f (n+1) (by omega) (by omega)
theorem desc_t (O:TotalOn lt N) (P:Pm p N):∀ (f n:Nat),1≤n→n+f≤N→okT lt N (kas_desc f p n 0)
  | 0,n,_,_=>trivial
  | f+1,n,h1,hn=>by
    refine ⟨P.lt (by omega),P.lt (by omega),P.ne (by omega) (by omega) (by omega),?_⟩
    show okT lt N (if lt (gg p n) (gg p (n - 1))=true then (if 0 > 0 then kas_desc f (kas_rev p (n - (0+1)) n) (n+1) 0 else kas_desc f p (n+1) 0)
      else .ask (gg p (n - 1)) (gg p n) fun d=>if d=true then .ret (p,n,0) else kas_desc f p (n+1) (0+1))
    cases c:lt (gg p n) (gg p (n - 1)) with
    | true =>
      rw [if_pos rfl,if_neg (by omega)]
      exact desc_t O P f (n+1) (by omega) (by omega)
    | false =>
      rw [if_neg (by simp)]
      have c':=O.flip (P.lt (by omega)) (P.lt (by omega)) (P.ne (by omega) (by omega) (by omega)) c
      refine ⟨P.lt (by omega),P.lt (by omega),P.ne (by omega) (by omega) (by omega),?_⟩
      show okT lt N (if lt (gg p (n - 1)) (gg p n)=true then KasT.ret (p,n,0) else kas_desc f p (n+1) (0+1))
      rw [c',if_pos rfl]
      trivial
theorem desc_ok (O:TotalOn lt N) (P:Pm p N):∀ (f n:Nat),1≤n→n+f≤N→Dn lt p n →
    ∃ m,ev lt (kas_desc f p n 0)=(p,m,0)∧n≤m∧m≤n+f∧Dn lt p m
  | 0,n,_,_,u=>⟨n,rfl,Nat.le_refl _,Nat.le_refl _,u⟩
  | f+1,n,h1,hn,u=>by
    have e:ev lt (kas_desc (f+1) p n 0)=ev lt (if lt (gg p n) (gg p (n - 1))=true then (if 0 > 0 then kas_desc f (kas_rev p (n - (0+1)) n) (n+1) 0 else kas_desc f p (n+1) 0)
      else .ask (gg p (n - 1)) (gg p n) fun d=>if d=true then .ret (p,n,0) else kas_desc f p (n+1) (0+1)):=rfl
    rw [e]
    cases c:lt (gg p n) (gg p (n - 1)) with
    | true =>
      rw [if_pos rfl,if_neg (by omega)]
      obtain ⟨m,a1,a2,a3,a4⟩:=desc_ok O P f (n+1) (by omega) (by omega) (u.more O P h1 (by omega) c)
      exact ⟨m,a1,by omega,by omega,a4⟩
    | false =>
      rw [if_neg (by simp)]
      have c':=O.flip (P.lt (by omega)) (P.lt (by omega)) (P.ne (by omega) (by omega) (by omega)) c
      have e2:ev lt (.ask (gg p (n - 1)) (gg p n) fun d=>if d=true then KasT.ret (p,n,0) else kas_desc f p (n+1) (0+1))=ev lt (if lt (gg p (n - 1)) (gg p n)=true then KasT.ret (p,n,0) else kas_desc f p (n+1) (0+1)):=rfl
      rw [e2,c',if_pos rfl]
      exact ⟨n,rfl,Nat.le_refl _,by omega,u⟩
theorem gg_rev {m k:Nat} (hm:m≤p.size):gg (kas_rev p 0 m) k=if k < m then gg p (m - 1 - k) else gg p k:=by
  have e:=getElem?_mirror_all (i:=0) hm k
  have e0:∀ (q:Array Nat) (x:Nat),gg q x=(q[x]?).getD 0:=fun q x=>by simp [gg]
  rw [e0,e0,e0]
  show ((mirror p 0 m ((m - 0) / 2))[k]?).getD 0=_
  rw [e]
  by_cases h:k < m
  · rw [if_pos ⟨Nat.zero_le _,h⟩,if_pos h]
    simp
  · rw [if_neg (fun z=>h z.2),if_neg h]
theorem rev_up (P:Pm p N) {m:Nat} (hm:m≤N) (d:Dn lt p m):Up lt (kas_rev p 0 m) m:=by
  intro i j hij hj
  have hs:m≤p.size:=by rw [P.size]; exact hm
  rw [gg_rev hs,gg_rev hs,if_pos (by omega),if_pos hj]
  exact d _ _ (by omega) (by omega)
theorem rev_pm (P:Pm p N) (i j:Nat):Pm (kas_rev p i j) N:=P.perm (mirror_perm p i j _)
theorem count_ok (O:TotalOn lt N) (P:Pm p N) (h2:2≤N):∃ m q,ev lt (kas_count N p)=(m,q)∧1≤m∧m≤N∧Pm q N∧Up lt q m:=by
  obtain ⟨a1,a2,a3,a4⟩:=asc_ok O P (N - 1) 1 (Nat.le_refl _) (by omega) up_one
  unfold kas_count
  rw [ev_bind]
  generalize hn:ev lt (kas_asc p (N - 1) 1)=n at a1 a2 a3 a4
  by_cases e1:(n == N)=true
  · rw [if_pos e1]
    exact ⟨n,p,rfl,a1,by omega,P,a3⟩
  · rw [if_neg e1]
    have hne:n≠N:=by simpa using e1
    by_cases e2:n > 1
    · rw [if_pos e2]
      have c:lt (gg p 0) (gg p (n - 1))=true:=a3 0 (n - 1) (by omega) (by omega)
      have e3:ev lt (KasT.ask (p.getD 0 0) (p.getD (n - 1) 0) fun c=>if c=true then KasT.ret (n,p) else kas_descPart n N (kas_rev p 0 n))=ev lt (if lt (gg p 0) (gg p (n - 1))=true then KasT.ret (n,p) else kas_descPart n N (kas_rev p 0 n)):=rfl
      rw [e3,c,if_pos rfl]
      exact ⟨n,p,rfl,a1,by omega,P,a3⟩
    · rw [if_neg e2]
      have e:n=1:=by omega
      subst e
      have c:=a4 (by omega)
      have d2:Dn lt p 2:=fun i j hij hj=>by
        have:i=0:=by omega
        have:j=1:=by omega
        subst i; subst j; exact c
      obtain ⟨m,b1,b2,b3,b4⟩:=desc_ok O P (N - 2) 2 (by omega) (by omega) d2
      unfold kas_descPart
      rw [ev_bind]
      have b1':ev lt (kas_desc (N - (1+1)) p (1+1) 0)=(p,m,0):=b1
      rw [b1']
      dsimp only
      rw [if_neg (by omega)]
      unfold kas_tail3
      rw [ev_bind]
      obtain ⟨c1,c2,c3,_⟩:=asc_ok O (rev_pm P 0 m) (N - m) m (by omega) (by omega) (rev_up P (by omega) b4)
      exact ⟨_,_,rfl,by omega,by omega,rev_pm P 0 m,c3⟩
theorem count_t (O:TotalOn lt N) (P:Pm p N) (h2:2≤N):okT lt N (kas_count N p):=by
  obtain ⟨a1,a2,a3,a4⟩:=asc_ok O P (N - 1) 1 (Nat.le_refl _) (by omega) up_one
  unfold kas_count
  refine okT_bind _ (asc_t P _ _ (Nat.le_refl _) (by omega)) ?_
  generalize hn:ev lt (kas_asc p (N - 1) 1)=n at a1 a2 a3 a4
  by_cases e1:(n == N)=true
  · rw [if_pos e1]; trivial
  · rw [if_neg e1]
    have hne:n≠N:=by simpa using e1
    by_cases e2:n > 1
    · rw [if_pos e2]
      have c:lt (gg p 0) (gg p (n - 1))=true:=a3 0 (n - 1) (by omega) (by omega)
      refine ⟨P.lt (by omega),P.lt (by omega),P.ne (by omega) (by omega) (by omega),?_⟩
      show okT lt N (if lt (gg p 0) (gg p (n - 1))=true then KasT.ret (n,p) else kas_descPart n N (kas_rev p 0 n))
      rw [c,if_pos rfl]
      trivial
    · rw [if_neg e2]
      have e:n=1:=by omega
      subst e
      have c:=a4 (by omega)
      have d2:Dn lt p 2:=fun i j hij hj=>by
        have:i=0:=by omega
        have:j=1:=by omega
        subst i; subst j; exact c
      obtain ⟨m,b1,b2,b3,b4⟩:=desc_ok O P (N - 2) 2 (by omega) (by omega) d2
      unfold kas_descPart
      refine okT_bind _ (desc_t O P _ _ (by omega) (by omega)) ?_
      have b1':ev lt (kas_desc (N - (1+1)) p (1+1) 0)=(p,m,0):=b1
      rw [b1']
      dsimp only
      rw [if_neg (by omega)]
      unfold kas_tail3
      exact okT_bind _ (asc_t (rev_pm P 0 m) _ _ (by omega) (by omega)) trivial
theorem place_t (P:Pm p N) {k:Nat} (hk:k < N):∀ (f l r:Nat),r≤k→okT lt N (kas_place p k f l r)
  | 0,l,r,_=>trivial
  | f+1,l,r,h=>by
    show okT lt N (if l ≥ r then KasT.ret l else .ask (p.getD k 0) (p.getD ((l+r) / 2) 0) fun c=>if c=true then kas_place p k f l ((l+r) / 2) else kas_place p k f ((l+r) / 2+1) r)
    by_cases hlr:l ≥ r
    · rw [if_pos hlr]; trivial
    · rw [if_neg hlr]
      refine ⟨P.lt hk,P.lt (by omega),P.ne hk (by omega) (by omega),?_⟩
      show okT lt N (if lt (gg p k) (gg p ((l+r) / 2))=true then kas_place p k f l ((l+r) / 2) else kas_place p k f ((l+r) / 2+1) r)
      split
      · exact place_t P hk f l _ (by omega)
      · exact place_t P hk f _ r h
theorem place_ok (O:TotalOn lt N) (P:Pm p N) {k:Nat} (hk:k < N) (u:Up lt p k):∀ (f l r:Nat),l≤r→r≤k→r - l≤f→(∀ i,i < l→lt (gg p i) (gg p k)=true)→(∀ i,r≤i→i < k→lt (gg p k) (gg p i)=true) →
    ev lt (kas_place p k f l r)≤k∧(∀ i,i < ev lt (kas_place p k f l r)→lt (gg p i) (gg p k)=true)∧∀ i,ev lt (kas_place p k f l r)≤i→i < k→lt (gg p k) (gg p i)=true
  | 0,l,r,h1,h2,h3,a,b=>by
    have:l=r:=by omega
    subst this
    exact ⟨h2,a,b⟩
  | f+1,l,r,h1,h2,h3,a,b=>by
    have e:ev lt (kas_place p k (f+1) l r)=ev lt (if l ≥ r then KasT.ret l else .ask (p.getD k 0) (p.getD ((l+r) / 2) 0) fun c=>if c=true then kas_place p k f l ((l+r) / 2) else kas_place p k f ((l+r) / 2+1) r):=rfl
    rw [e]
    by_cases hlr:l ≥ r
    · rw [if_pos hlr]
      have:l=r:=by omega
      subst this
      exact ⟨h2,a,b⟩
    · rw [if_neg hlr]
      have e2:ev lt (KasT.ask (p.getD k 0) (p.getD ((l+r) / 2) 0) fun c=>if c=true then kas_place p k f l ((l+r) / 2) else kas_place p k f ((l+r) / 2+1) r)=ev lt (if lt (gg p k) (gg p ((l+r) / 2))=true then kas_place p k f l ((l+r) / 2) else kas_place p k f ((l+r) / 2+1) r):=rfl
      rw [e2]
      generalize hm:(l+r) / 2=m
      have m1:l≤m:=by omega
      have m2:m < r:=by omega
      cases c:lt (gg p k) (gg p m) with
      | true =>
        rw [if_pos rfl]
        refine place_ok O P hk u f l m m1 (by omega) (by omega) a fun i hi hik=>?_
        by_cases e3:i=m
        · subst e3; exact c
        · exact O.tr _ _ _ (P.lt hk) (P.lt (by omega)) (P.lt (by omega)) c (u m i (by omega) hik)
      | false =>
        rw [if_neg (by simp)]
        have c':=O.flip (P.lt hk) (P.lt (by omega)) (P.ne hk (by omega) (by omega)) c
        refine place_ok O P hk u f (m+1) r (by omega) h2 (by omega) (fun i hi=>?_) b
        by_cases e3:i=m
        · subst e3; exact c'
        · exact O.tr _ _ _ (P.lt (by omega)) (P.lt (by omega)) (P.lt hk) (u i m (by omega) (by omega)) c'
theorem gg_bubble {k d x:Nat} (hk:k < p.size) (hd:d≤k):gg (bubble p k d) x=if x=k - d then gg p k else if k - d < x∧x≤k then gg p (x - 1) else gg p x:=by
  have e:=getElem?_bubble hk d hd x
  have e0:∀ (q:Array Nat) (x:Nat),gg q x=(q[x]?).getD 0:=fun q x=>by simp [gg]
  rw [e0,e0,e0,e0,e]
  split
  · rfl
  · split <;> rfl
theorem bin_ok (O:TotalOn lt N):∀ (f:Nat) (p:Array Nat) (k:Nat),Pm p N→k+f=N→Up lt p k→Pm (ev lt (kas_bin f p k)) N∧Up lt (ev lt (kas_bin f p k)) N
  | 0,p,k,P,e,u=>by
    have:k=N:=by omega
    subst this
    exact ⟨P,u⟩
  | f+1,p,k,P,e,u=>by
    have e1:kas_bin (f+1) p k=(kas_place p k k 0 k).bind fun l=>kas_bin f (bubble p k (k - l)) (k+1):=rfl
    rw [e1,ev_bind]
    have hk:k < N:=by omega
    obtain ⟨a1,a2,a3⟩:=place_ok O P hk u k 0 k (Nat.zero_le _) (Nat.le_refl _) (by omega) (fun i hi=>by omega) (fun i h1 h2=>by omega)
    generalize ev lt (kas_place p k k 0 k)=l at a1 a2 a3
    have hs:k < p.size:=by rw [P.size]; exact hk
    refine bin_ok O f _ (k+1) (P.perm (bubble_perm p k _)) (by omega) fun i j hij hj=>?_
    rw [gg_bubble hs (by omega),gg_bubble hs (by omega)]
    have ekl:k - (k - l)=l:=by omega
    rw [ekl]
    by_cases h1:i=l
    · rw [if_pos h1,if_neg (by omega),if_pos (by omega)]
      exact a3 _ (by omega) (by omega)
    · rw [if_neg h1]
      by_cases h2:l < i∧i≤k
      · rw [if_pos h2,if_neg (by omega),if_pos (by omega)]
        exact u _ _ (by omega) (by omega)
      · rw [if_neg h2]
        by_cases h3:j=l
        · rw [if_pos h3]
          exact a2 i (by omega)
        · rw [if_neg h3]
          by_cases h4:l < j∧j≤k
          · rw [if_pos h4]
            by_cases h5:i=j - 1
            · omega
            · exact u _ _ (by omega) (by omega)
          · rw [if_neg h4]
            exact u _ _ hij (by omega)
theorem bin_t (O:TotalOn lt N):∀ (f:Nat) (p:Array Nat) (k:Nat),Pm p N→k+f=N→okT lt N (kas_bin f p k)
  | 0,p,k,P,e=>trivial
  | f+1,p,k,P,e=>by
    show okT lt N ((kas_place p k k 0 k).bind fun l=>kas_bin f (bubble p k (k - l)) (k+1))
    exact okT_bind _ (place_t P (by omega) _ _ _ (Nat.le_refl _)) (bin_t O f _ (k+1) (P.perm (bubble_perm p k _)) (by omega))
theorem sort_t (O:TotalOn lt N) (h2:2≤N):okT lt N (kas_sort N):=by
  have P0:Pm (List.toArray (List.range N)) N:=List.Perm.refl _
  obtain ⟨m,q,e,m1,m2,Pq,uq⟩:=count_ok O P0 h2
  unfold kas_sort
  refine okT_bind _ (count_t O P0 h2) ?_
  rw [e]
  dsimp only
  by_cases hm:m < N
  · rw [if_pos hm]
    have em:max m 1=m:=by omega
    rw [em]
    exact bin_t O (N - m) q m Pq (by omega)
  · rw [if_neg hm]; trivial
theorem sort_ok (O:TotalOn lt N) (h2:2≤N):Pm (ev lt (kas_sort N)) N∧Up lt (ev lt (kas_sort N)) N:=by
  have P0:Pm (List.toArray (List.range N)) N:=List.Perm.refl _
  obtain ⟨m,q,e,m1,m2,Pq,uq⟩:=count_ok O P0 h2
  unfold kas_sort
  rw [ev_bind,e]
  dsimp only
  by_cases hm:m < N
  · rw [if_pos hm]
    have em:max m 1=m:=by omega
    rw [em]
    exact bin_ok O (N - m) q m Pq (by omega) uq
  · rw [if_neg hm]
    have:m=N:=by omega
    subst this
    exact ⟨Pq,uq⟩
end
end MyS
end
section
namespace MyS
open PySem PySem.W PyProof.Rows PySem.Spec
theorem kas_of {α:Type}{N:Nat}{cmp:Nat→Nat→(Bool→Shared→Prop)→Shared→Prop}{lt:Nat→Nat→Bool}{s:Shared} (hc:∀ i j,i < N→j < N→i≠j→∀ C,C (lt i j) s→cmp i j C s) :
    ∀ (t:KasT α) (Q:α→Shared→Prop),okT lt N t→Q (ev lt t) s→t.kasWp cmp Q s
  | .ret a,Q,_,h=>h
  | .ask i j k,Q,o,h=>hc i j o.1 o.2.1 o.2.2.1 _ (kas_of hc (k (lt i j)) Q o.2.2.2 h)
def keyAt (ks:List Str) (i:Nat):List Nat:=(ks.getD i ⟨#[]⟩).cps.toList
def ltAt (ks:List Str) (i j:Nat):Bool:=decide (keyAt ks i < keyAt ks j)
theorem Str_ext {a b:Str} (h:a.cps.toList=b.cps.toList):a=b:=by
  cases a; cases b
  congr 1
  exact Array.toList_inj.mp h
theorem lt_tri (a b:List Nat) (h1:¬ a < b) (h2:¬ b < a):a=b:=by
  have h1':b≤a:=List.not_lt.mp h1
  have h2':a≤b:=List.not_lt.mp h2
  exact List.le_antisymm h2' h1'
theorem ltAt_total {ks:List Str} (nd:ks.Nodup):TotalOn (ltAt ks) ks.length where
  irr:=fun i _=>by simp [ltAt,List.lt_irrefl]
  tr:=fun i j k _ _ _ h1 h2=>by
    simp only [ltAt,decide_eq_true_eq] at *
    exact List.lt_trans h1 h2
  tot:=fun i j hi hj hne=>by
    simp only [ltAt,decide_eq_true_eq]
    by_cases h1:keyAt ks i < keyAt ks j
    · exact .inl h1
    · by_cases h2:keyAt ks j < keyAt ks i
      · exact .inr h2
      · exfalso
        have e:=lt_tri _ _ h1 h2
        unfold keyAt at e
        have e':=Str_ext e
        have e1:ks.getD i ⟨#[]⟩=ks[i]:=by simp [hi]
        have e2:ks.getD j ⟨#[]⟩=ks[j]:=by simp [hj]
        rw [e1,e2] at e'
        exact hne ((List.getElem_inj nd).mp e')
section
variable {prog:Program}{w:World}{A:Around}{E:Value→Shared→Prop}{s:Shared}
end
section
variable {prog:Program}{w:World}{A:Around}{E:Value→Shared→Prop}{s:Shared}
theorem sort_gen {κ:SortKind}{a:Addr}{vs:List Value}{ks:List Str}{n:Nat}{P:PySem.Fin→Shared→Prop} (ho:s.heap.get? a=some (seqObj "list" vs.toArray n)) (hl:ks.length=vs.length) (nd:ks.Nodup) (h64:vs.length < 64)
    (hK:∀ G,(∀ b o,b≠a→s.heap.get? b=some o→G.get? b=some o)→2≤vs.length→∀ (Q:SortKind→Shared→Prop) (E':Value→Shared→Prop),Q κ { s with heap:=G }→wpAny (model prog w) A (keyKind' vs.toArray) Q E' { s with heap:=G })
    (hC:∀ G,(∀ b o,b≠a→s.heap.get? b=some o→G.get? b=some o)→∀ i j,i < vs.length→j < vs.length→i≠j→∀ C,C (ltAt ks i j) { s with heap:=G }→kas_ask prog w A κ vs i j C { s with heap:=G })
    (h:∀ (p:List Nat) (h':Heap) (e:Nat),p.Perm (List.range vs.length)→(p.map (keyAt ks)).Pairwise (· < ·)→(∀ b o,b≠a→s.heap.get? b=some o→h'.get? b=some o) →
      h'.get? a=some (seqObj "list" (p.map fun i=>vs.getD i Value.none).toArray e)→P (.done (.ret .none)) { s with heap:=h' }) :
    wpAny (model prog w) A (Builtin.«list.sort» ⟨[.ref a],[]⟩) P E s:=by
  have ha:a < s.heap.objs.size:=Heap.lt_size ho
  rw [list_sort_plain]
  refine wpAny_bind (listItems_at ho rfl ?_)
  refine wpAny_bind (listUpdate_at ho rfl ?_ (by rw [List.size_toArray,sizeLine_eq]; omega) (Nat.zero_le _))
  obtain ⟨e1,ho1⟩:∃ e1,(s.heap.update a (Obj.mapSeq fun _=>(#[]:Array Value))).get? a=some (seqObj "list" #[] e1):=⟨_,get?_update_seq ho fun _=>#[]⟩
  refine wpAny_bind (seqEpoch_at ho1 rfl ?_)
  refine wpAny_bind (wpAny_newTuple ?_ (by rw [sizeLine_eq]; simp; omega))
  refine wpAny_bind (wpAny_newList ?_ (by simp))
  refine wpAny_holding ?_
  show wpAny (model prog w) A _ P E { s with heap:=((s.heap.update a (Obj.mapSeq fun _=>#[])).push (seqObj "tuple" vs.toArray 0)).push (seqObj "list" #[] 0) }
  generalize hG:((s.heap.update a (Obj.mapSeq fun _=>(#[]:Array Value))).push (seqObj "tuple" vs.toArray 0)).push (seqObj "list" #[] 0)=G
  have hG1:G.get? a=some (seqObj "list" #[] e1):=by
    rw [← hG]
    exact Heap.get?_push_of_some _ (Heap.get?_push_of_some _ ho1)
  have hG2:∀ b o,b≠a→s.heap.get? b=some o→G.get? b=some o:=fun b o hb e=>by
    rw [← hG]
    exact Heap.get?_push_of_some _ (Heap.get?_push_of_some _ ((Heap.get?_update_other _ _ (Ne.symm hb)).trans e))
  have hsz:vs.toArray.size=vs.length:=by simp
  have fin:∀ (p:List Nat) (out:Array Value) (hout:out=(p.map fun i=>vs.getD i Value.none).toArray),p.Perm (List.range vs.length)→(p.map (keyAt ks)).Pairwise (· < ·) →
      P (.done (.ret .none)) { s with heap:=G.update a (Obj.mapSeq fun _=>out) }:=fun p out hout h1 h2=>by
    subst hout
    have e3:=get?_update_seq hG1 fun _=>(p.map fun i=>vs.getD i Value.none).toArray
    exact h p _ _ h1 h2 (fun b o hb e=>(Heap.get?_update_other _ _ (Ne.symm hb)).trans (hG2 b o hb e)) e3
  dsimp only
  by_cases h2:vs.toArray.size < 2
  · rw [if_pos h2,if_pos h2]
    refine wpAny_bind (wpAny_pure ?_)
    rw [StateT.run_pure]
    refine wpAny_bind (wpAny_pure ?_)
    dsimp only
    refine wpAny_bind (seqEpoch_at hG1 rfl ?_)
    refine wpAny_bind (listUpdate_at hG1 rfl ?_ (by simp) (by
      show ((vs.toArray.zip vs.toArray).map (·.2)).size≤sizeLine+1
      rw [sizeLine_eq]; simp; omega))
    simp only [bne_self_eq_false,Bool.false_eq_true,if_false]
    refine wpAny_pure (fin (List.range vs.length) _ ?_ (List.Perm.refl _) ?_)
    · show (vs.toArray.zip vs.toArray).map (·.2)=_
      match vs,h2 with
      | [],_=>simp
      | [v],_=>simp [List.range_succ]
      | _::_::_,h2=>simp at h2; omega
    · have:vs.length < 2:=by simpa using h2
      match hv:vs.length,this with
      | 0,_=>simp
      | 1,_=>simp [List.range_succ]
  · rw [if_neg h2,if_neg h2]
    have h2':2≤vs.length:=by simpa using h2
    refine wpAny_bind (hK G hG2 h2' _ _ ?_)
    show wpAny _ _ (StateT.run sortRuns' (SortSt.mk' κ (vs.toArray.zip vs.toArray) #[] 7 none) >>= _) _ _ _
    have O:=ltAt_total nd
    rw [hl] at O
    obtain ⟨so1,so2⟩:=sort_ok O h2'
    refine wpAny_bind (wpAny_mono (kat_run (ks:=vs) (vs:=vs) (Q:=fun st' s'=>s'={ s with heap:=G }∧failedOf st'=none∧∃ p:Array Nat,Pm p vs.length∧Up (ltAt ks) p vs.length∧arrOf st'=p.map (kas_item (vs.toArray.zip vs.toArray)))
      (G:=fun p s'=>s'={ s with heap:=G }∧Pm p vs.length∧Up (ltAt ks) p vs.length) rfl h2' h64 (fun p st' s' _ q1 q2 q3=>⟨q3.1,q2,p,q3.2.1,q3.2.2,q1⟩) ?_) ?_ fun _ _ e=>e)
    · refine kas_of (N:=vs.length) (lt:=ltAt ks) (fun i j hi hj hij C hC'=>?_) _ _ (sort_t O h2') ⟨rfl,so1,so2⟩
      exact hC G hG2 i j hi hj hij C hC'
    · rintro ⟨⟨⟩,st'⟩ s' ⟨rfl,hf,p,q1,q2,q3⟩
      dsimp only
      have hout:=kat_snds (ks:=vs) (vs:=vs) rfl q3
      refine wpAny_bind (seqEpoch_at hG1 rfl ?_)
      refine wpAny_bind (listUpdate_at hG1 rfl ?_ (by simp) (by
        rw [hout,List.size_toArray,List.length_map,sizeLine_eq]
        have:=q1.size
        simp
        omega))
      rw [hf]
      simp only [bne_self_eq_false,Bool.false_eq_true,if_false]
      refine wpAny_pure (fin p.toList _ hout q1 ?_)
      rw [List.pairwise_map,List.pairwise_iff_getElem]
      intro i j hi hj hij
      have hi':i < p.size:=by simpa using hi
      have hj':j < p.size:=by simpa using hj
      have:=q2 i j hij (by rw [← q1.size]; exact hj')
      rw [gg_eq hi',gg_eq hj'] at this
      simpa [ltAt] using this
end
section
variable {prog:Program}{w:World}{A:Around}{E:Value→Shared→Prop}{s:Shared}
theorem sort_strs {a:Addr}{vs:List Value}{ks:List Str}{n:Nat}{P:PySem.Fin→Shared→Prop} (ho:s.heap.get? a=some (seqObj "list" vs.toArray n)) (hS:StrsAre vs ks) (nd:ks.Nodup) (h64:vs.length < 64)
    (h:∀ (p:List Nat) (h':Heap) (e:Nat),p.Perm (List.range vs.length)→(p.map (keyAt ks)).Pairwise (· < ·)→(∀ b o,b≠a→s.heap.get? b=some o→h'.get? b=some o) →
      h'.get? a=some (seqObj "list" (p.map fun i=>vs.getD i Value.none).toArray e)→P (.done (.ret .none)) { s with heap:=h' }) :
    wpAny (model prog w) A (Builtin.«list.sort» ⟨[.ref a],[]⟩) P E s:=by
  have hlen:ks.length=vs.length:=by rw [← hS.strs]; simp
  have hget:∀ i,i < vs.length→∃ t,vs.getD i Value.none=.str (ks.getD i ⟨#[]⟩) t:=fun i hi=>by
    obtain ⟨x,t,e⟩:=hS.all vs[i] (List.getElem_mem hi)
    refine ⟨t,?_⟩
    have e1:vs.getD i Value.none=vs[i]:=by simp [hi]
    have e2:ks.getD i ⟨#[]⟩=x:=by
      rw [← hS.strs,List.getD_eq_getElem?_getD,List.getElem?_map,List.getElem?_eq_getElem hi,e]; rfl
    rw [e1,e2,e]
  refine sort_gen (κ:=oneType') ho hlen nd h64 (fun G hG h2 Q E' hQ=>?_) (fun G hG i j hi hj hij C hC=>?_) h
  · obtain ⟨v₁,v₂,rest,rfl⟩:∃ v₁ v₂ rest,vs=v₁::v₂::rest:=by
      match vs,h2 with
      | v₁::v₂::rest,_=>exact ⟨v₁,v₂,rest,rfl⟩
    rw [keyKind_strs hS]
    exact wpAny_pure hQ
  · obtain ⟨t,e⟩:=hget i hi
    obtain ⟨t',e'⟩:=hget j hj
    unfold kas_ask
    rw [e,e',keyLt'_oneType]
    exact strKind_oneLt prog w A _ _ _ _ _ _ rfl rfl hC
end
end MyS
end
section
namespace L2
open PySem PySem.Spec PyProof.Rows
def updL (H:Hp) (news:List (Addr × HO)):Hp:=fun b=>match news.lookup b with
  | some o=>some o
  | none=>H b
theorem updL_old {H:Hp}{news:List (Addr × HO)}{b:Addr} (h:b ∉ news.map (·.1)):updL H news b=H b:=by
  unfold updL
  have:news.lookup b=none:=by
    induction news with
    | nil=>rfl
    | cons p r ih =>
      rw [List.map_cons,List.mem_cons,not_or] at h
      have hb:(b == p.1)=false:=by simpa using h.1
      obtain ⟨x,y⟩:=p
      rw [List.lookup_cons,hb]
      exact ih h.2
  rw [this]
theorem updL_inv {H:Hp}{news:List (Addr × HO)}{b:Addr}{o:HO} (h:updL H news b=some o):(b,o)∈news∨(b ∉ news.map (·.1)∧H b=some o):=by
  by_cases hb:b∈news.map (·.1)
  · left
    unfold updL at h
    cases e:news.lookup b with
    | some u =>
      rw [e] at h
      have:u=o:=Option.some.inj h
      subst this
      clear h hb
      induction news with
      | nil=>cases e
      | cons p r ih =>
        obtain ⟨x,y⟩:=p
        rw [List.lookup_cons] at e
        cases hx:b == x with
        | true =>
          rw [hx] at e
          have e1:b=x:=by simpa using hx
          have e2:y=u:=Option.some.inj e
          subst e1; subst e2
          exact List.mem_cons_self ..
        | false =>
          rw [hx] at e
          exact List.mem_cons_of_mem _ (ih e)
    | none =>
      exfalso
      clear h
      induction news with
      | nil=>cases hb
      | cons p r ih =>
        obtain ⟨x,y⟩:=p
        rw [List.lookup_cons] at e
        cases hx:b == x with
        | true=>rw [hx] at e; cases e
        | false =>
          rw [hx] at e
          rw [List.map_cons,List.mem_cons] at hb
          rcases hb with z | z
          · have:(b == x)=true:=by simpa using z
            rw [this] at hx; cases hx
          · exact ih z e
  · rw [updL_old hb] at h
    exact .inr ⟨hb,h⟩
theorem updL_same {H:Hp}{news:List (Addr × HO)} (hn:∀ p∈news,H p.1=none):Same H (updL H news):=fun b o e=>by
  rw [updL_old fun z=>?_]
  · exact e
  · obtain ⟨p,hp,rfl⟩:=List.mem_map.mp z
    rw [hn p hp] at e; cases e
theorem ObjOk.obj {P:Program}{w:World}{H:Hp}{h:Heap}{a:Addr}{o:HO} (x:ObjOk P w H h a o):∃ u,h.get? a=some u:=by
  cases o with
  | lst xs=>obtain ⟨_,_,_,_,e⟩:=x; exact ⟨_,e⟩
  | tup xs=>obtain ⟨_,_,_,_,e,_⟩:=x; exact ⟨_,e⟩
  | dK kvs=>obtain ⟨_,_,_,_,o,_,_,e,_⟩:=x; exact ⟨_,e⟩
  | dT kvs=>obtain ⟨_,_,_,_,o,_,_,e,_⟩:=x; exact ⟨_,e⟩
  | set S n=>obtain ⟨o,_,_,_,e,_⟩:=x; exact ⟨_,e⟩
  | ins C dx fs=>obtain ⟨_,_,_,e,_⟩:=x; exact ⟨_,e⟩
  | own y=>exact x
  | xd fs=>obtain ⟨_,⟨_,_,_,e,_⟩,_⟩:=x; exact ⟨_,e⟩
  | rng lo hi=>obtain ⟨_,_,_,e⟩:=x; exact ⟨_,e⟩
  | frz ob u=>obtain ⟨e,_⟩:=x; exact ⟨_,e⟩
  | tbl ps=>exact ⟨_,(show h.get? a=some _ from x)⟩
  | met f y=>exact ⟨_,(show h.get? a=some _ from x)⟩
  | ext φ=>obtain ⟨_,e,_⟩:=x; exact e
theorem HOk.free {P:Program}{w:World}{H:Hp}{h:Heap}{a:Addr} (x:HOk P w H h) (e:h.get? a=none):H a=none:=by
  cases q:H a with
  | none=>rfl
  | some u =>
    obtain ⟨v,hv⟩:=(x a u q).obj
    rw [hv] at e; cases e
section
variable {X:Cx}{pins:List (Addr × Obj)}{σ:St}{H:Hp}{s:Shared}
theorem Inv.many {h':Heap}{t':Nat}{news:List (Addr × HO)} (I:Inv X pins σ H s) (k:∀ b u,s.heap.get? b=some u→h'.get? b=some u) (hge:∀ p∈news,s.heap.get? p.1=none)
    (new:∀ p∈news,ObjOk X.prog X.w (updL H news) h' p.1 p.2):Inv X pins σ (updL H news) { s with heap:=h',toks:=t' }:=by
  have hn:∀ p∈news,H p.1=none:=fun p hp=>I.hok.free (hge p hp)
  have sm:=updL_same hn
  have hold:∀ b (o:Obj),s.heap.get? b=some o→updL H news b=H b:=fun b o e=>updL_old fun z=>by
    obtain ⟨p,hp,rfl⟩:=List.mem_map.mp z
    rw [hge p hp] at e; cases e
  refine I.un (H':=updL H news) ⟨fun b o e _ _ _=>k b o e,fun b o e _ _ _=>⟨o.slots,k b o e⟩,fun b o e n _=>by rw [hold b o e]; exact n,fun b o e _=>⟨o,k b o e⟩,fun b xs e=>sm b _ e,fun b o u e=>sm b _ e,fun b ps e=>⟨#[],by rw [sm b _ e]; simp⟩⟩ fun b u e=>?_
  rcases updL_inv e with z | ⟨_,z⟩
  · exact new (b,u) z
  · exact (I.hok b u z).stay (fun c v _ q=>k c v q) (fun c q=>sm c _ q) fun c xs q=>sm c _ q
end
def vwObj (d:Addr):Obj:={ cls:=.type "dict_items",data:=.fields #[.ref d] }
def VW (p d:Addr):HO:=.ext fun h=>h.get? p=some (vwObj d)
section
variable {X:Cx}
def rItems:V→List V→Hp→VK→Prop:=fun x vs H Q=>∃ d kvs,x=.ref d∧vs=[]∧H d=some (.dK kvs)∧∀ p,H p=none→Q (.ref p) (upd H p (VW p d))
theorem mt_items:MtM X "dict.items" rItems:=by
  intro pins s σ H x vs v us Q I rx rv h
  obtain ⟨d,kvs,rfl,rfl,hd,q⟩:=h
  cases rx
  have hus:=rv.zero
  subst hus
  obtain ⟨z,hm,ws,rel,dd⟩:=dk_of I.hok hd
  refine call_meetsIn PySem.F.slot_dict_items dd.typeIs PySem.F.entry_dict_items (PySem.F.args_dict_items_1 _) (meets_dict_items (mixKind X.prog X.w) d hm) ⟨⟨_,dd⟩,?_⟩
  refine ⟨.ref s.heap.objs.size,_,I.laid (t':=s.toks) (o:=VW s.heap.objs.size d) (fun b o e=>Heap.get?_push_of_some _ e) (Nat.le_refl _) ?_,rfl,q _ (I.hok.fresh (Nat.le_refl _))⟩
  exact ⟨Heap.get?_push_size _ rfl,⟨_,Heap.get?_push_size _ rfl⟩,fun h1 h2 e k=>k _ e⟩
abbrev encK (kvs:List (Str × V)):List (Key × V):=kvs.map fun q=>(Sum.inr q.1,q.2)
theorem KV.get {kvs:List (Key × V)}{vs:List (Key × Value)}:∀ {i:Nat}{k:Key}{x:Value},KV kvs vs→vs[i]?=some (k,x)→∃ v,kvs[i]?=some (k,v)∧RelV v x:=by
  intro i k x r
  induction r generalizing i with
  | nil=>intro e; simp at e
  | cons h t ih =>
    intro e
    cases i with
    | zero =>
      have e':=Option.some.inj (by simpa using e)
      rename_i p q _ _
      obtain ⟨p1,p2⟩:=p
      subst e'
      have h1:p1=k:=h.1
      subst h1
      exact ⟨p2,rfl,h.2⟩
    | succ i =>
      obtain ⟨v,e1,e2⟩:=ih (by simpa using e)
      exact ⟨v,by simpa using e1,e2⟩
end
end L2
end
section
namespace L2
open PySem PySem.Spec PyProof.Rows
def Its (z:Str):It:=⟨fun i _=>i < z.cps.size,fun i H x H'=>H'=H∧∃ c,z.cps[i]?=some c∧x=.str ⟨#[c]⟩,fun i _=>i=z.cps.size⟩
theorem turn_str {P:Program}{w:World}{K:PySem.W.Frag}{tg:Expr} (it:Addr) (z:Str) (t:Tok) (ty:String) (hno:["enumerate", "zip", "dict_itemiterator", "dict_reverseitemiterator", "odict_iterator", "itertools.zip_longest", "itertools.pairwise"].contains ty=false)
    (hW:∀ A:Around,A.handled=none→Walks P w A it [it] [it] z.cps.size (SignAt z) (fun i h=>h.IsStrIter it ty z t i))
    (hS:∀ (A:Around) (i:Nat) (s:Shared) (Q:Value→Shared→Prop) (E:Value→Shared→Prop),s.heap.IsStrIter it ty z t i→Q (.ref it) s→wpAny (model P w) A (pyIter (.ref it)) Q E s):Turn P w K tg (Its z) [it] it (fun i h=>h.IsStrIter it ty z t i) where
  mem:=by simp
  obj:=fun i h st b hb=>by
    have e:b=it:=by simpa using hb
    subst e
    obtain ⟨o,e,c,d⟩:=st
    exact ⟨o,e,fun v z=>by rw [d] at z; cases z⟩
  keep:=fun i h h' st k=>let ⟨o,e,r⟩:=st; ⟨o,k it (by simp) o e,r⟩
  item:=by
    intro X hP hw hK hc i pins s σ H E I hf st hg
    subst hP hw hK
    obtain ⟨f0,f1,f2,f3,f4,f5⟩:=hf it (by simp)
    refine (hW X.A (I.ok.hd hc)).item i s _ _ hg st fun v h' tk hv st' kk=>?_
    obtain ⟨c,u,hcu,rfl⟩:=hv
    have I1:Inv X pins σ H { s with heap:=h',toks:=tk }:=I.turned (fun b o hb e=>kk b o (by simpa using hb) e) f0 f1 f3 f4 f5
    obtain ⟨o,e,oc,od⟩:=id st'
    exact ⟨_,rfl,go_of (s:={ s with heap:=h',toks:=tk }) e oc od hno ⟨.str ⟨#[c]⟩,H,I1,⟨u,rfl⟩,⟨rfl,c,hcu,rfl⟩,st',fun b hb=>(hf b hb).1⟩⟩
  done:=by
    intro X hP hw hK hc i pins s σ H E I hf st hg
    subst hP hw hK
    obtain ⟨f0,f1,f2,f3,f4,f5⟩:=hf it (by simp)
    have hi:i=z.cps.size:=hg
    subst hi
    exact (hW X.A (I.ok.hd hc)).done s _ _ st fun h' tk kk=>⟨rfl,I.turned (fun b o hb e=>kk b o (by simpa using hb) e) f0 f1 f3 f4 f5⟩
  self:=hS
section
variable {X:Cx}{tg:Expr}
def iStr (tl:TE):TI:=fun σ H R=>tl σ H fun x H1=>∃ z,x=.str z∧R (Its z) H1
theorem pi_str {l:Expr}{tl:TE} (hl:PE X l tl):PI X tg l (iStr tl):=by
  intro pins s σ H R I h
  refine thn (hl pins s σ H _ I h) fun v s1 ⟨x,H1,I1,r1,z,ez,q⟩=>?_
  subst ez
  obtain ⟨t,rfl⟩:=r1
  have hn:∀ b∈[s1.heap.objs.size],FpOk X pins H1 b:=fun b hb=>by
    have e:b=s1.heap.objs.size:=by simpa using hb
    subst e
    exact I1.fpOk (Nat.le_refl _) (I1.hok.fresh (Nat.le_refl _))
  cases ha:z.cps.all (· < 128) with
  | false =>
    refine wpAny_pyIter_wide ha ⟨s1.heap.objs.size,[s1.heap.objs.size],_,_,H1,rfl,I1.kept (t':=s1.toks) fun b o e=>Heap.get?_push_of_some _ e,turn_str _ z t "str_iterator" (by decide) (fun A hA=>Walks.strWide hA _ z t) (fun A i s Q E st h=>wpAny_pyIter_striter_wide st h),⟨_,Heap.get?_push_size _ rfl,rfl,rfl⟩,hn,q⟩
  | true =>
    refine wpAny_pyIter_ascii ha ⟨s1.heap.objs.size,[s1.heap.objs.size],_,_,H1,rfl,I1.kept (t':=s1.toks) fun b o e=>Heap.get?_push_of_some _ e,turn_str _ z t "str_ascii_iterator" (by decide) (fun A hA=>Walks.strAscii hA _ z t) (fun A i s Q E st h=>wpAny_pyIter_striter_ascii st h),⟨_,Heap.get?_push_size _ rfl,rfl,rfl⟩,hn,q⟩
end
theorem idx_norm (lo hi:Option Int) (n:Nat):Builtin.Str.strSliceIndices lo hi 1 n=Builtin.Str.strSliceIndices (some ((HT.sIx n 0 lo:Nat):Int)) (some ((HT.sIx n n hi:Nat):Int)) 1 n:=by
  have hl:=HT.sIx_le n 0 (Nat.zero_le _) lo
  have hh:=HT.sIx_le n n (Nat.le_refl _) hi
  have key:∀ (o:Option Int) (d:Nat),d≤n→(match o with | none=>(d:Int) | some i=>(let i:=if i < 0 then i+(n:Int) else i; max 0 (min i (n:Int))))=((HT.sIx n d o:Nat):Int):=by
    intro o d hd
    cases o with
    | none=>rfl
    | some i =>
      show max 0 (min (if i < 0 then i+(n:Int) else i) (n:Int))=(((if i < 0 then (i+(n:Int)).toNat else min i.toNat n):Nat):Int)
      by_cases h:i < 0
      · rw [if_pos h,if_pos h]; omega
      · rw [if_neg h,if_neg h]; omega
  have e1:=key lo 0 (Nat.zero_le _)
  have e2:=key hi n (Nat.le_refl _)
  have k1:max (0:Int) (min ((HT.sIx n 0 lo:Nat):Int) (n:Int))=((HT.sIx n 0 lo:Nat):Int):=by omega
  have k2:max (0:Int) (min ((HT.sIx n n hi:Nat):Int) (n:Int))=((HT.sIx n n hi:Nat):Int):=by omega
  have n1:¬ (((HT.sIx n 0 lo:Nat):Int) < 0):=by omega
  have n2:¬ (((HT.sIx n n hi:Nat):Int) < 0):=by omega
  unfold Builtin.Str.strSliceIndices
  simp only [show ((1:Int) > 0)=True from by simp,if_true,n1,n2,if_false,k1,k2]
  have z1:∀ i:Int,(max 0 (min (if i < 0 then i+(n:Int) else i) (n:Int)))=((HT.sIx n 0 (some i):Nat):Int):=fun i=>key (some i) 0 (Nat.zero_le _)
  have z2:∀ i:Int,(max 0 (min (if i < 0 then i+(n:Int) else i) (n:Int)))=((HT.sIx n n (some i):Nat):Int):=fun i=>key (some i) n (Nat.le_refl _)
  have w1:((HT.sIx n 0 none:Nat):Int)=0:=rfl
  have w2:((HT.sIx n n none:Nat):Int)=n:=rfl
  cases lo with
  | none =>
    cases hi with
    | none=>rfl
    | some j=>dsimp only; rw [z2,w1]
  | some i =>
    cases hi with
    | none=>dsimp only; rw [z1,w2]
    | some j =>
      dsimp only
      have zz:=z1 i
      rw [zz]
      rw [z2]
theorem txt_slice (x:Str) (lo hi:Option Int):Txt.slice x lo hi=⟨((x.cps.toList.drop (HT.sIx x.length 0 lo)).take (HT.sIx x.length x.length hi - HT.sIx x.length 0 lo)).toArray⟩:=by
  have hl:=HT.sIx_le x.length 0 (Nat.zero_le _) lo
  have hh:=HT.sIx_le x.length x.length (Nat.le_refl _) hi
  unfold Txt.slice
  rw [idx_norm lo hi]
  generalize HT.sIx x.length 0 lo=a at *
  generalize HT.sIx x.length x.length hi=b at *
  have hlen:x.cps.toList.length=x.length:=by simp [Str.length]
  by_cases hab:a≤b
  · have sp:=StrLaws.sliced_plain x hab hh
    split
    · rename_i h
      rw [StrLaws.strSliceIndices_plain hab hh] at h
      have h':b - a=x.length:=by simpa using h
      have ha:a=0:=by omega
      have hb:b=x.cps.toList.length:=by omega
      subst ha
      apply MyS.Str_ext
      show x.cps.toList=((x.cps.toList.drop 0).take (b - 0)).toArray.toList
      rw [List.drop_zero,Nat.sub_zero,hb,List.take_length]
    · rw [sp]
  · have hb:b - a=0:=by omega
    have e:Builtin.Str.strSliceIndices (some (a:Int)) (some (b:Int)) 1 x.length=[]:=by
      have h1:¬ ((a:Int) < 0):=by omega
      have h2:¬ ((b:Int) < 0):=by omega
      have e1:max (0:Int) (min (a:Int) (x.length:Int))=a:=by omega
      have e2:max (0:Int) (min (b:Int) (x.length:Int))=b:=by omega
      simp only [Builtin.Str.strSliceIndices,sliceRange,h1,h2,if_false,e1,e2,show ((1:Int) > 0)=True from by simp,if_true]
      rw [if_neg (by omega)]
      rfl
    rw [e,hb]
    split
    · rename_i h
      have h':0=x.length:=by simpa using h
      omega
    · simp
section
variable {X:Cx}{e:Expr}{te:TE}{lo hi:Option Expr}{tl th:TO}{pos p2:Pos}
def cutS (z:Str) (lo hi:Option Int):Str:=⟨((z.cps.toList.drop (HT.sIx z.length 0 lo)).take (HT.sIx z.length z.length hi - HT.sIx z.length 0 lo)).toArray⟩
def tSlS (te:TE) (tl th:TO):TE:=fun σ H Q=>te σ H fun x H1=>tl σ H1 fun l H2=>th σ H2 fun u H3=>∃ z,x=.str z∧z.length≤sizeLine∧Q (.str (cutS z l u)) H3
theorem pe_sliceS (he:PE X e te) (hl:PO X lo tl) (hu:PO X hi th):PE X (.Subscript e (.Slice lo hi none p2) pos) (tSlS te tl th):=by
  intro pins s σ H Q I h
  refine Subscript_ (thn (he pins s σ H _ I h) fun v s1 ⟨x,H1,I1,r1,q1⟩=>?_)
  refine wpAny_Slice (thn (hl pins s1 σ H1 _ I1 q1) fun vl s2 ⟨l,H2,I2,pl,q2⟩=>thn (hu pins s2 σ H2 _ I2 q2) fun vu s3 ⟨u,H3,I3,pu,q3⟩=>?_)
  rw [evalPart_none]
  refine wpAny_pure ?_
  obtain ⟨z,rfl,hz,q⟩:=q3
  obtain ⟨t,rfl⟩:=r1
  have hk:KeptH (fun h=>∀ b o,s3.heap.get? b=some o→h.get? b=some o):=fun h ob hP b o q=>Heap.get?_push_of_some _ (hP b o q)
  have fin:∀ h' t' k,(∀ b o,s3.heap.get? b=some o→h'.get? b=some o)→EP X pins σ Q (.str (Txt.slice z l u) t') { s3 with heap:=h',toks:=k }:=fun h' t' k hP=>by
    refine ⟨.str (cutS z l u),H3,I3.kept hP,⟨t',?_⟩,q⟩
    rw [txt_slice]; rfl
  have go:ItemOn (model X.prog X.w) X.A X.xe (.str z t) (.ref s3.heap.objs.size) (EP X pins σ Q) { s3 with heap:=s3.heap.push { cls:=.type "slice",data:=.fields #[vl,vu,.none] } }:=by
    cases pl with
    | none =>
      cases pu with
      | none=>exact SBH.sliceItem_nn hk (fun _ _ q=>q) fin hz
      | int j uj=>exact SBH.sliceItem_ns hk (fun _ _ q=>q) fin hz
    | int i ui =>
      cases pu with
      | none=>exact SBH.sliceItem_sn hk (fun _ _ q=>q) fin hz
      | int j uj=>exact SBH.sliceItem_ss hk (fun _ _ q=>q) fin hz
  obtain ⟨T,id,hT,ht,hg⟩:=go
  exact tail_any (ops:=[.ref s3.heap.objs.size,.str z t]) ht hT hg (by with_unfolding_all rfl)
end
section
variable {X:Cx}
theorem call_all (hc:X.calm=true):CallR X (.builtin "all") (fun xs H Q=>∃ (p:Addr) (bs:List Bool),xs=[.ref p]∧SqL X.K H p (bs.map V.bl)∧Q (.bl (bs.all id)) H):=by
  intro pins s σ H xs us Q I r h
  obtain ⟨p,bs,rfl,hq,q⟩:=h
  obtain ⟨u,rfl,ru⟩:=vals1 r
  cases ru
  obtain ⟨its,rv,pl,hz⟩:=I.list hq
  have hp:p≠s.heap.objs.size:=by
    obtain ⟨o,n,e,_⟩:=pl
    exact Nat.ne_of_lt (Heap.lt_size e)
  have vget:∀ (i:Nat) (v:Value),its.toArray[i]?=some v→v=.bool (bs.getD i false):=fun i v e=>by
    have e':its[i]?=some v:=by simpa using e
    have hl:=rv.length
    have hi:i < bs.length:=by
      have:=(List.getElem?_eq_some_iff.mp e').1
      simp at hl; omega
    obtain ⟨u,e1,e2⟩:=rv.get (i:=i) (x:=.bl (bs.getD i false)) (by rw [List.getElem?_map]; simp [hi])
    rw [e'] at e1
    cases e1
    exact e2
  refine call_all_walk (wpAny_pyIter_list pl.isList ?_)
  refine ⟨s.heap.objs.size,_,_,its.toArray.size,_,_,fun i=>bs.getD i false,rfl,Walks.list (A:=X.A.in1) (I.ok.hd hc) _ p hp its.toArray,⟨⟨_,Heap.get?_push_size _ rfl,rfl,rfl⟩,?_⟩,fun i v s' Q' E' hv hQ=>?_,fun h' tk hk=>?_⟩
  · exact pl.isList.at fun o e=>Heap.get?_push_of_some _ e
  · rw [vget i v hv]; exact wpAny_truthy_bool hQ
  · refine ⟨.bl (bs.all id),H,I.kept (t':=tk) (h':=h') fun b o e=>hk b o (fun z=>?_) (Heap.get?_push_of_some _ e),?_,q⟩
    · have:b=s.heap.objs.size:=by simpa using z
      exact absurd (Heap.lt_size e) (by rw [this]; exact Nat.lt_irrefl _)
    · have hl:=rv.length
      have hsz:its.toArray.size=bs.length:=by simp at hl; simp [hl]
      have:(List.range its.toArray.size).all (fun i=>bs.getD i false)=bs.all id:=by
        rw [hsz]
        rw [Bool.eq_iff_iff]
        simp only [List.all_eq_true,List.mem_range,id]
        constructor
        · intro h b hb
          obtain ⟨i,hi,e⟩:=List.getElem_of_mem hb
          have:=h i hi
          simpa [hi,e] using this
        · intro h i hi
          have:=h bs[i] (List.getElem_mem hi)
          simpa [hi] using this
      rw [this]; rfl
theorem preSum_take (ns:List Int):∀ k,k≤ns.length→preSum (fun i=>ns.getD i 0) k=(ns.take k).sum
  | 0,_=>by simp [preSum]
  | k+1,h=>by
    show preSum (fun i=>ns.getD i 0) k+ns.getD k 0=_
    have hk:k < ns.length:=h
    rw [preSum_take ns k (by omega),List.take_succ_eq_append_getElem hk,List.sum_append]
    simp [hk]
theorem call_sum (hc:X.calm=true):CallR X (.builtin "sum") (fun xs H Q=>∃ (p:Addr) (ns:List Int),xs=[.ref p]∧SqL X.K H p (ns.map V.int)∧Q (.int ns.sum) H):=by
  intro pins s σ H xs us Q I r h
  obtain ⟨p,ns,rfl,hq,q⟩:=h
  obtain ⟨u,rfl,ru⟩:=vals1 r
  cases ru
  obtain ⟨its,rv,pl,hz⟩:=I.list hq
  have hpl:p < s.heap.objs.size:=by
    obtain ⟨o,n,e,_⟩:=pl
    exact Heap.lt_size e
  have hl:=rv.length
  have hsz:its.toArray.size=ns.length:=by simp at hl; simp [hl]
  have hia:=intsAre_of rv
  refine call_sum_walkAnyS (wpAny_pyIter_list pl.isList ?_)
  refine ⟨s.heap.objs.size,_,_,_,its.toArray.size,_,_,fun i=>ns.getD i 0,rfl,(Walks.list (A:=X.A.in1) (I.ok.hd hc) _ p (Nat.ne_of_lt hpl) its.toArray).toS,⟨⟨_,Heap.get?_push_size _ rfl,rfl,rfl⟩,?_⟩,fun b hb=>?_,fun i v hv=>?_,fun s' t' hm=>?_⟩
  · exact pl.isList.at fun o e=>Heap.get?_push_of_some _ e
  · show b < (s.heap.push _).objs.size
    rw [size_push']
    rcases List.mem_cons.mp hb with e | hb
    · rw [e]; exact Nat.lt_succ_self _
    · rw [List.mem_singleton.mp hb]; exact Nat.lt_succ_of_lt hpl
  · have e':its[i]?=some v:=by simpa using hv
    have hi:i < ns.length:=by
      have:=(List.getElem?_eq_some_iff.mp e').1
      simp at hl; omega
    obtain ⟨u,e1,e2⟩:=rv.get (i:=i) (x:=.int (ns.getD i 0)) (by rw [List.getElem?_map]; simp [hi])
    rw [e'] at e1
    cases e1
    exact e2
  · have hk:∀ b o,s.heap.get? b=some o→s'.heap.get? b=some o:=fun b o e =>
      hm.heap b o (fun hI=>absurd (Heap.lt_size e) (by rw [List.mem_singleton.mp hI]; exact Nat.lt_irrefl _)) (Heap.get?_push_of_some _ e)
    rw [Moved.eq_with hm]
    refine ⟨.int ns.sum,H,I.kept (h':=s'.heap) (t':=s'.toks) hk,⟨t',?_⟩,q⟩
    rw [hsz,preSum_take ns ns.length (Nat.le_refl _),List.take_length]
def vvObj (d:Addr):Obj:={ cls:=.type "dict_values",data:=.fields #[.ref d] }
def VLS (p d:Addr):HO:=.ext fun h=>h.get? p=some (vvObj d)
end
end L2
end
section
namespace L2
open PySem PySem.Spec PyProof.Rows
section
variable {X:Cx}
theorem call_isinst:CallR X (.builtin "isinstance") (fun xs H Q=>∃ x c t b,xs=[x,.ty c]∧TyOf X.K H x t∧PySem.W.kitOne X.K t (.type c)=some b∧Q (.bl b) H):=by
  intro pins s σ H xs us Q I r h
  obtain ⟨x,c,t,b,rfl,ty,e,q⟩:=h
  obtain ⟨u,w',rfl,rx,rc⟩:=vals2 r
  cases rc
  exact isinst_ok I rx ty e fun tk=>⟨.bl b,H,I.tok tk,rfl,q⟩
theorem strs_of {ss:List Str}:∀ {us:List Value},Vals (ss.map V.str) us→StrsAre us ss:=by
  induction ss with
  | nil=>intro us r; rw [List.map_nil] at r; cases r; exact .nil
  | cons x ss ih =>
    intro us r
    rw [List.map_cons] at r
    cases r with
    | cons r1 r2 =>
      obtain ⟨t,e⟩:=r1
      subst e
      exact .cons x t (ih r2)
def rJoin (K:PySem.W.Frag):V→List V→Hp→VK→Prop:=fun x vs H Q=>∃ (sep:Str) (l:Addr) (ss:List Str),x=.str sep∧vs=[.ref l]∧SqL K H l (ss.map V.str)∧(ss.map (·.length)).sum+ss.length * sep.length≤16777216∧Q (.str (Txt.join sep ss)) H
theorem mt_join:MtR X "str.join" (rJoin X.K):=by
  intro pins s σ H x vs v us Q I rx rv h
  obtain ⟨sep,l,ss,rfl,rfl,hq,hz,q⟩:=h
  obtain ⟨t,rfl⟩:=rx
  obtain ⟨u,rfl,ru⟩:=vals1 rv
  cases ru
  obtain ⟨its,r',pl,_⟩:=I.list hq
  exact join_list pl.isList (by simpa using strs_of r') hz fun t' k=>⟨.str (Txt.join sep ss),H,I.tok k,⟨t',rfl⟩,q⟩
theorem foldl_app (l:List Str):∀ a:Array Nat,(l.foldl (fun acc p=>acc++(⟨#[]⟩:Str).cps++p.cps) a).toList=a.toList++(l.map (·.cps.toList)).flatten:=by
  induction l with
  | nil=>intro a; simp
  | cons x r ih=>intro a; rw [List.foldl_cons,ih]; simp
theorem join_flat (ss:List Str):Txt.join ⟨#[]⟩ ss=⟨(ss.map (·.cps.toList)).flatten.toArray⟩:=by
  apply MyS.Str_ext
  show ((ss.drop 1).foldl (fun acc p=>acc++(⟨#[]⟩:Str).cps++p.cps) (ss.headD Str.empty).cps).toList=(ss.map (·.cps.toList)).flatten.toArray.toList
  rw [foldl_app]
  cases ss with
  | nil=>rfl
  | cons x r=>simp
def rSetD:V→List V→Hp→VK→Prop:=fun x vs H Q=>∃ d kvs k v,x=.ref d∧vs=[kV k,v]∧H d=some (.dK kvs)∧kvs.length < sizeLine∧(∀ y,valV kvs k=some y→Q y H)∧(valV kvs k=none→Q v (upd H d (.dK (putK kvs k v))))
theorem mt_setdefault:MtM X "dict.setdefault" rSetD:=by
  intro pins s σ H x vs v us Q I rx rv h
  obtain ⟨d,kvs,k,y,rfl,rfl,hd,hz,q1,q2⟩:=h
  cases rx
  obtain ⟨u,w',rfl,ru,rw'⟩:=vals2 rv
  obtain ⟨z,hm,ws,rel,dd⟩:=dk_of I.hok hd
  have hwz:ws.length≤sizeLine:=by rw [← rel.length]; exact z
  refine call_meetsIn PySem.F.slot_dict_setdefault dd.typeIs PySem.F.entry_dict_setdefault (PySem.F.args_dict_setdefault_3 _ _ _) (kt_meets_setdefault (mixKind X.prog X.w) d (kV_is ru) hm w') ⟨ws,dd,hwz,fun v' hv=>?_,fun hn h' dd' hs=>?_⟩
  · have rr:=rel.val k
    rw [hv] at rr
    cases e:valV kvs k with
    | none=>rw [e] at rr; exact rr.elim
    | some y' =>
      rw [e] at rr
      exact ⟨y',H,I.tok _,rr,q1 y' e⟩
  · have rr:=rel.val k
    rw [hn] at rr
    cases e:valV kvs k with
    | some y'=>rw [e] at rr; exact rr.elim
    | none =>
      have he:∃ q,h'.get? d=some q:=let ⟨q,_,_,hq,_⟩:=dd'; ⟨q,hq⟩
      have hl:(putK kvs k y).length≤sizeLine:=by have:=length_putK kvs k y; omega
      exact ⟨y,_,d_write I (by rw [hd]; exact True.intro) hs he (dk_new hl hm (rel.put k rw') dd'),rw',q2 e⟩
def rSortedD:List V→Hp→VK→Prop:=fun xs H Q=>∃ d kvs,xs=[.ref d]∧H d=some (.dK (encK kvs))∧(kvs.map (·.1)).Nodup∧kvs.length < 64 ∧
  ∀ (out:List Str) (l:Addr),out.Perm (kvs.map (·.1))→out.Pairwise (fun a b=>a.cps.toList < b.cps.toList)→H l=none→Q (.ref l) (upd H l (.lst (out.map V.str)))
theorem call_sortedD (hc:X.calm=true):CallR X (.builtin "sorted") rSortedD:=by
  intro pins s σ H xs us Q I rx h
  obtain ⟨d,kvs,rfl,hd,nd,h64,q⟩:=h
  obtain ⟨u,rfl,ru⟩:=vals1 rx
  cases ru
  obtain ⟨z,hm,ws,rel,dd⟩:=dk_of I.hok hd
  have hlen:ws.length=kvs.length:=by have:=rel.length; simpa using this.symm
  obtain ⟨ep,hat⟩:=dd.dictAt
  refine Calls.call_function_entry kind_sorted plain_sorted entry_sorted (args_sorted1 _) ?_
  unfold Builtin.«sorted»
  refine wpAny_bind (m:=checkCount "sorted" 1 1 _) (wpAny_pure ?_)
  refine wpAny_bind (PySem.W.kdu_collect (A:=X.A.in1) (PySem.W.kdl_dict (knd:=mixKind X.prog X.w) (kvs:=ws) (ep:=ep) hm) (I.ok.hd hc) hat (by rw [hlen,sizeLine_eq]; omega) fun h' tk acc hk hacc=>?_)
  have hal:acc.toList.length=kvs.length:=by rw [Array.length_toList]; exact hacc.1.trans hlen
  have hS:StrsAre acc.toList (kvs.map (·.1)):=by
    have hall:∀ v∈acc.toList,∃ x t,v=Value.str x t:=fun v hv=>by
      obtain ⟨i,hi,e⟩:=List.getElem_of_mem hv
      obtain ⟨k,x,e1,e2⟩:=hacc.2 i v (by rw [← Array.getElem?_toList,List.getElem?_eq_getElem hi,e])
      obtain ⟨y,f1,_⟩:=KV.get rel e1
      rw [List.getElem?_map] at f1
      cases g:kvs[i]? with
      | none=>rw [g] at f1; cases f1
      | some p =>
        rw [g] at f1
        have:(Sum.inr p.1:Key)=k:=(Prod.mk.inj (Option.some.inj f1)).1
        subst this
        have e2':keyIs (Sum.inr p.1) v=true:=e2
        rcases keyIs_shape e2' with ⟨j,t,z1,_⟩ | ⟨w,t,z1,z2⟩
        · cases z1
        · exact ⟨w,t,z2⟩
    have e0:=strsAre_map acc.toList hall
    have:acc.toList.map strOf=kvs.map (·.1):=by
      apply List.ext_getElem
      · simp only [List.length_map,hal]
      · intro i h1 h2
        have hi:i < acc.toList.length:=by simpa using h1
        have hi':i < kvs.length:=by simpa using h2
        obtain ⟨k,x,e1,e2⟩:=hacc.2 i acc.toList[i] (by rw [← Array.getElem?_toList,List.getElem?_eq_getElem hi])
        obtain ⟨y,f1,_⟩:=KV.get rel e1
        rw [List.getElem?_map,List.getElem?_eq_getElem hi'] at f1
        have:(Sum.inr kvs[i].1:Key)=k:=(Prod.mk.inj (Option.some.inj f1)).1
        subst this
        have e2':keyIs (Sum.inr kvs[i].1) acc.toList[i]=true:=e2
        rcases keyIs_shape e2' with ⟨j,t,z1,_⟩ | ⟨w,t,z1,z2⟩
        · cases z1
        · have:kvs[i].1=w:=Sum.inr.inj z1
          rw [List.getElem_map,List.getElem_map,z2,this]
          rfl
    rw [this] at e0
    exact e0
  refine wpAny_bind (wpAny_newList ?_ (by rw [hal,sizeLine_eq]; omega))
  generalize hB:h'.objs.size=B
  have hoL:(h'.push { cls:=.type "list",data:=.seq acc.toList.toArray }).get? B=some (seqObj "list" acc.toList.toArray 0):=by
    rw [← hB]; exact Heap.get?_push_size _ rfl
  refine wpAny_bind (wpAny_holding (wpAny_call_entry slot_list_sort ⟨_,hoL,rfl⟩ entry_list_sort (MyS.sort_strs (ks:=kvs.map (·.1)) hoL hS nd (by rw [hal]; exact h64) fun pm h2 e2 hp1 hp2 hk2 ho2=>⟨_,rfl,?_⟩) (args_list_sort _)))
  refine wpAny_pure ⟨_,rfl,?_⟩
  rw [hal] at hp1
  have pmlt:∀ i∈pm,i < kvs.length:=fun i hi=>List.mem_range.mp (hp1.mem_iff.mp hi)
  have hold:∀ b o,s.heap.get? b=some o→h2.get? b=some o:=fun b o e=>by
    have e1:=hk b o e
    refine hk2 b o ?_ (Heap.get?_push_of_some _ e1)
    rw [← hB]; exact Nat.ne_of_lt (Heap.lt_size e1)
  have hfB:s.heap.get? B=none:=by
    cases g:s.heap.get? B with
    | none=>rfl
    | some o =>
      have h0:=Heap.lt_size (hk B o g)
      rw [hB] at h0
      exact absurd h0 (Nat.lt_irrefl _)
  have eqU:upd H B (.lst ((pm.map fun i=>(kvs.map (·.1)).getD i ⟨#[]⟩).map V.str))=updL H [(B,.lst ((pm.map fun i=>(kvs.map (·.1)).getD i ⟨#[]⟩).map V.str))]:=by
    funext b
    unfold upd updL
    by_cases hb:b=B
    · subst hb; simp
    · have hb':(b == B)=false:=by simpa using hb
      rw [if_neg hb,List.lookup_cons,hb']
      rfl
  have IM:Inv X pins σ (updL H [(B,.lst ((pm.map fun i=>(kvs.map (·.1)).getD i ⟨#[]⟩).map V.str))]) { s with heap:=h2,toks:=tk }:=by
    refine I.many hold (fun p hp=>?_) fun p hp=>?_
    · rcases List.mem_cons.mp hp with e | e
      · rw [e]; exact hfB
      · cases e
    · rcases List.mem_cons.mp hp with e | e
      · subst e
        refine ⟨?_,(pm.map fun i=>acc.toList.getD i Value.none),_,?_,ho2⟩
        · show (List.map V.str (pm.map _)).length≤_
          rw [List.length_map,List.length_map,hp1.length_eq,List.length_range,sizeLine_eq]; omega
        · have go:∀ l:List Nat,(∀ i∈l,i < kvs.length)→Vals ((l.map fun i=>(kvs.map (·.1)).getD i ⟨#[]⟩).map V.str) (l.map fun i=>acc.toList.getD i Value.none):=by
            intro l
            induction l with
            | nil=>intro _; exact .nil
            | cons i l ih =>
              intro hl
              have hi:=hl i (List.mem_cons_self ..)
              have hi2:i < acc.toList.length:=by omega
              refine .cons ?_ (ih fun j hj=>hl j (List.mem_cons_of_mem _ hj))
              obtain ⟨x,t,e⟩:=hS.all acc.toList[i] (List.getElem_mem hi2)
              refine ⟨t,?_⟩
              have e1:acc.toList.getD i Value.none=acc.toList[i]:=by
                rw [List.getD_eq_getElem?_getD,List.getElem?_eq_getElem hi2]; rfl
              have e2:(kvs.map (·.1)).getD i ⟨#[]⟩=x:=by
                rw [← hS.strs,List.getD_eq_getElem?_getD,List.getElem?_map,List.getElem?_eq_getElem hi2,e]; rfl
              dsimp only
              rw [e1,e2,e]
          exact go pm pmlt
      · cases e
  refine ⟨.ref B,_,IM,rfl,?_⟩
  rw [← eqU]
  refine q _ B ?_ ?_ (I.hok.free hfB)
  · have e1:(List.range kvs.length).map (fun i=>(kvs.map (·.1)).getD i (⟨#[]⟩:Str))=kvs.map (·.1):=by
      apply List.ext_getElem
      · simp
      · intro i h1 h2
        have hi:i < kvs.length:=by simpa using h1
        simp [hi]
    have:=hp1.map (fun i=>(kvs.map (·.1)).getD i (⟨#[]⟩:Str))
    rw [e1] at this
    exact this
  · rw [List.pairwise_map]
    rw [List.pairwise_map] at hp2
    exact hp2
theorem op_catT0:OpR X (binaryOp .Add) (fun x y H Q=>∃ a b ys,x=.ref a∧y=.ref b∧SqT X.K H a []∧SqT X.K H b ys∧Q (.ref b) H):=by
  intro pins s σ H x y v u Q I rx ry h
  obtain ⟨a,b,ys,rfl,rfl,ha,hb,q⟩:=h
  cases rx
  cases ry
  obtain ⟨its,r1,p1,_⟩:=I.tuple ha
  obtain ⟨its2,r2,p2,_⟩:=I.tuple hb
  have e0:its=[]:=by cases r1; rfl
  subst e0
  obtain ⟨⟨cls,dd,data,sl⟩,ho,hc,n,hd⟩:=id p1
  obtain ⟨⟨cls2,dd2,data2,sl2⟩,ho2,hc2,n2,hd2⟩:=id p2
  simp only at hc hd hc2 hd2
  subst hc hd hc2 hd2
  exact concat_meets ⟨_,ho,rfl⟩ ⟨_,ho2,rfl⟩ noFill_tuple_add seq_tuple_add PySem.F.slot_tuple_add PySem.F.entry_tuple_add (PySem.F.args_tuple_add_2 _ _)
    (tuple_addW0 a b _ its2.toArray n n2 dd dd2 sl sl2 (by simp)) ⟨ho,ho2,⟨.ref b,H,I,rfl,q⟩⟩
end
section
variable {prog:Program}{w:World}{A:Around}{E:Value→Shared→Prop}{s:Shared}
end
section
variable {X:Cx}{e st:Expr}{te ts:TE}{pos p2:Pos}
end
end L2
end
section
namespace L2
open PySem PySem.Spec PyProof.Rows
structure Known (J:It) (items:List V) (Hk:Hp→Prop):Prop where
  go:∀ i H,Hk H→i < items.length→J.go i H
  yld:∀ i H x H',Hk H→J.yld i H x H'→H'=H∧(i < items.length→items[i]?=some x)
  stop:∀ H,Hk H→J.stop items.length H
theorem known_range (lo:Int) (n:Nat):Known (Itr lo n) ((List.range n).map fun (i:Nat)=>V.int (lo+(i:Int))) (fun _=>True) :=
  ⟨fun i H _ h=>by show i < n; simpa using h,fun i H x H' _ h=>⟨h.1,fun hi=>by
    have hi':i < n:=by simpa using hi
    rw [List.getElem?_map,List.getElem?_range hi',h.2]; rfl⟩,fun H _=>by show n≤_; simp⟩
theorem known_list (K:PySem.W.Frag) (a:Addr) (xs:List V):Known (Itl K a) xs (fun H=>SqL K H a xs) :=
  ⟨fun i H h hi=>⟨xs,xs[i],h,List.getElem?_eq_getElem hi⟩,fun i H x H' h y=>⟨y.1,fun _=>y.2 xs h⟩,fun H h=>⟨xs,h,Nat.le_refl _⟩⟩
theorem known_tup (K:PySem.W.Frag) (a:Addr) (xs:List V):Known (Itt K a) xs (fun H=>SqT K H a xs) :=
  ⟨fun i H h hi=>⟨xs,xs[i],h,List.getElem?_eq_getElem hi⟩,fun i H x H' h y=>⟨y.1,fun _=>y.2 xs h⟩,fun H h=>⟨xs,h,Nat.le_refl _⟩⟩
theorem known_str (z:Str):Known (Its z) (z.cps.toList.map fun c=>V.str ⟨#[c]⟩) (fun _=>True) :=
  ⟨fun i H _ h=>by show i < z.cps.size; simpa using h,fun i H x H' _ h=>⟨h.1,fun _=>by
    obtain ⟨c,e1,e2⟩:=h.2
    rw [List.getElem?_map,Array.getElem?_toList,e1,e2]; rfl⟩,fun H _=>by show _=z.cps.size; simp⟩
theorem comp_known {J:It}{items:List V}{Hk:Hp→Prop} (kn:Known J items Hk) {caps:List Nat}{n:Nat}{σ:St}{g:TG}{tc:TT}{te:TE}{F:List V→Hp→Prop}{H1:Hp} (cv:St) (k:Nat) (hn:items.length < 1000)
    (Pv:Nat→List V→Hp→Prop) (h0:Pv 0 [] H1) (hk:∀ i acc H,i≤items.length→Pv i acc H→Hk H∧acc.length≤i)
    (turn:∀ (i:Nat) (x:V) (acc:List V) (H:Hp) (ys:St) (Nx:List V→St→Hp→Prop),(∀ acc' H' zs,zs.length=k→Pv (i+1) acc' H'→Nx acc' (cv++zs) H')→items[i]?=some x→ys.length=k→Pv i acc H →
      g x (cv++ys) H fun σ2 H3=>tc σ2 H3 fun b H4=>if b=true then te σ2 H4 fun y H5=>Nx (acc++[y]) σ2 H5 else Nx acc σ2 H4)
    (fin:∀ acc H,Pv items.length acc H→F acc H) (hcv:capStart caps n σ=cv++List.replicate k none:=by rfl) :
    ∃ W:Nat→Nat→List V→St→Hp→Prop,(∃ m,W 0 m [] (capStart caps n σ) H1)∧∀ i m acc σ' H',W i m acc σ' H' →
      (J.stop i H'∧F acc H') ∨
      (J.go i H'∧acc.length < sizeLine∧∀ x H2,J.yld i H' x H2→g x σ' H2 fun σ2 H3=>tc σ2 H3 fun b H4=>if b=true then te σ2 H4 fun y H5=>∃ m',m' < m∧W (i+1) m' (acc++[y]) σ2 H5 else ∃ m',m' < m∧W (i+1) m' acc σ2 H4):=by
  refine ⟨fun i m acc σ' H'=>i≤items.length∧m=items.length - i∧(∃ ys,ys.length=k∧σ'=cv++ys)∧Pv i acc H',⟨items.length,Nat.zero_le _,rfl,⟨_,by simp,hcv⟩,h0⟩,?_⟩
  rintro i m acc σ' H' ⟨hi,rfl,⟨ys,hy,rfl⟩,pv⟩
  obtain ⟨hH,ha⟩:=hk i acc H' hi pv
  by_cases e:i=items.length
  · subst e
    exact .inl ⟨kn.stop H' hH,fin acc H' pv⟩
  · have hi':i < items.length:=by omega
    refine .inr ⟨kn.go i H' hH hi',by rw [sizeLine_eq]; omega,fun x H2 hy2=>?_⟩
    obtain ⟨e2,e3⟩:=kn.yld i H' x H2 hH hy2
    subst e2
    exact turn i x acc H2 ys (fun acc' σ2 H5=>∃ m',m' < items.length - i∧(i+1≤items.length∧m'=items.length - (i+1)∧(∃ ys,ys.length=k∧σ2=cv++ys)∧Pv (i+1) acc' H5)) (fun acc' H5 zs hz p=>⟨items.length - (i+1),by omega,by omega,rfl,⟨zs,hz,rfl⟩,p⟩) (e3 hi') hy pv
theorem comp_known0 {J:It}{items:List V}{Hk:Hp→Prop} (kn:Known J items Hk) {caps:List Nat}{n:Nat}{σ:St}{g:TG}{te:TE}{F:List V→Hp→Prop}{H1:Hp} (cv:St) (k:Nat) (hn:items.length < 1000)
    (Pv:Nat→List V→Hp→Prop) (h0:Pv 0 [] H1) (hk:∀ i acc H,i≤items.length→Pv i acc H→Hk H∧acc.length≤i)
    (turn:∀ (i:Nat) (x:V) (acc:List V) (H:Hp) (ys:St) (Nx:List V→St→Hp→Prop),(∀ acc' H' zs,zs.length=k→Pv (i+1) acc' H'→Nx acc' (cv++zs) H')→items[i]?=some x→ys.length=k→Pv i acc H →
      g x (cv++ys) H fun σ2 H3=>te σ2 H3 fun y H5=>Nx (acc++[y]) σ2 H5)
    (fin:∀ acc H,Pv items.length acc H→F acc H) (hcv:capStart caps n σ=cv++List.replicate k none:=by rfl) :
    ∃ W:Nat→Nat→List V→St→Hp→Prop,(∃ m,W 0 m [] (capStart caps n σ) H1)∧∀ i m acc σ' H',W i m acc σ' H' →
      (J.stop i H'∧F acc H') ∨
      (J.go i H'∧acc.length < sizeLine∧∀ x H2,J.yld i H' x H2→g x σ' H2 fun σ2 H3=>tYes σ2 H3 fun b H4=>if b=true then te σ2 H4 fun y H5=>∃ m',m' < m∧W (i+1) m' (acc++[y]) σ2 H5 else ∃ m',m' < m∧W (i+1) m' acc σ2 H4):=by
  refine comp_known kn cv k hn Pv h0 hk (fun i x acc H ys Nx hN hx hy p=>?_) fin hcv
  have:=turn i x acc H ys Nx hN hx hy p
  have e:(fun (σ2:St) (H3:Hp)=>tYes σ2 H3 fun b H4=>if b=true then te σ2 H4 fun y H5=>Nx (acc++[y]) σ2 H5 else Nx acc σ2 H4)=fun σ2 H3=>te σ2 H3 fun y H5=>Nx (acc++[y]) σ2 H5:=by
    funext σ2 H3
    unfold tYes
    exact if_pos rfl
  rw [e]
  exact this
theorem for_known {J:It}{items:List V}{Hk:Hp→Prop} (kn:Known J items Hk) {g:TG}{tb:TS}{D:Ends}{σ:St}{H:Hp} (Pv:Nat→St→Hp→Prop) (h0:Pv 0 σ H) (hk:∀ i σ H,i≤items.length→Pv i σ H→Hk H)
    (turn:∀ (i:Nat) (x:V) (σ:St) (H:Hp) (Nx:St→Hp→Prop),(∀ σ' H',Pv (i+1) σ' H'→Nx σ' H')→items[i]?=some x→Pv i σ H→g x σ H fun σ2 H2=>tb { D with nx:=Nx,ct:=Nx,bk:=D.nx } σ2 H2)
    (fin:∀ σ H,Pv items.length σ H→D.nx σ H) :
    ∃ W:Nat→Nat→St→Hp→Prop,(∃ m,W 0 m σ H)∧∀ i m σ H,W i m σ H →
      (J.stop i H∧D.nx σ H)∨(J.go i H∧∃ N:St→Hp→Prop,(∀ σ' H',N σ' H'→∃ m',m' < m∧W (i+1) m' σ' H')∧∀ x H',J.yld i H x H'→g x σ H' fun σ2 H2=>tb { D with nx:=N,ct:=N,bk:=D.nx } σ2 H2):=by
  refine ⟨fun i m σ H=>i≤items.length∧m=items.length - i∧Pv i σ H,⟨items.length,Nat.zero_le _,rfl,h0⟩,?_⟩
  rintro i m σ H ⟨hi,rfl,pv⟩
  have hH:=hk i σ H hi pv
  by_cases e:i=items.length
  · subst e
    exact .inl ⟨kn.stop H hH,fin σ H pv⟩
  · have hi':i < items.length:=by omega
    refine .inr ⟨kn.go i H hH hi',Pv (i+1),fun σ' H' p=>⟨items.length - (i+1),by omega,by omega,rfl,p⟩,fun x H2 hy2=>?_⟩
    obtain ⟨e2,e3⟩:=kn.yld i H x H2 hH hy2
    subst e2
    exact turn i x σ H2 (Pv (i+1)) (fun _ _ p=>p) (e3 hi') pv
theorem iteD {c A B:Prop} [Decidable c] (hc:c) (h:A):if decide c=true then A else B:=by
  rw [if_pos (decide_eq_true hc)]; exact h
theorem iteDF {c A B:Prop} [Decidable c] (hc:¬ c) (h:B):if decide c=true then A else B:=by
  rw [if_neg (fun z=>hc (of_decide_eq_true z))]; exact h
theorem Same.upd_new {H H':Hp}{a:Addr}{o:HO} (e:Same H H') (h:H a=none):Same H (upd H' a o):=fun b u q=>by
  rw [upd_ne (ne_of_none q h)]; exact e b u q
theorem Same.upd1 {H:Hp}{a:Addr}{o:HO} (h:H a=none):Same H (upd H a o):=(Same.refl H).upd_new h
def capOk (sc:Scope) (XN N:List Str) (scope:Scope):Nat→List Nat→Bool
  | _,[]=>true
  | i,c::cs=>(match N[i]? with
    | some x=>decide (XN[c]?=some x) && decide (scope.names.lookup x=some .free) && (decide (sc.names.lookup x=some .cell) || decide (sc.names.lookup x=some .free))
    | none=>false) && capOk sc XN N scope (i+1) cs
def compOk (sc:Scope) (XN N:List Str) (scope:Scope) (caps:List Nat):Bool :=
  decide (scope.kind=.function) && decide N.Nodup && scope.names.all (fun y=>decide (y.2≠.cell)) && scope.names.all (fun y=>decide (y.2=.local→scope.names.lookup y.1=some .local)) &&
  scope.names.all (fun y=>decide (y.2=.free→sc.names.lookup y.1=some .cell∨sc.names.lookup y.1=some .free)) && capOk sc XN N scope 0 caps && decide (caps.length≤N.length)
theorem capOk_get {sc:Scope}{XN N:List Str}{scope:Scope}:∀ {caps:List Nat}{j:Nat},capOk sc XN N scope j caps=true→∀ i,i < caps.length →
    ∃ x,N[j+i]?=some x∧XN[caps.getD i 0]?=some x∧scope.names.lookup x=some .free∧(sc.names.lookup x=some .cell∨sc.names.lookup x=some .free)
  | [],_,_,i,hi=>by simp at hi
  | c::cs,j,h,i,hi=>by
    unfold capOk at h
    rw [Bool.and_eq_true] at h
    obtain ⟨h1,h2⟩:=h
    cases i with
    | zero =>
      cases e:N[j]? with
      | none=>rw [e] at h1; cases h1
      | some x =>
        rw [e] at h1
        simp only [Bool.and_eq_true,Bool.or_eq_true,decide_eq_true_eq] at h1
        exact ⟨x,by simpa using e,by simpa using h1.1.1,h1.1.2,h1.2⟩
    | succ i =>
      obtain ⟨x,a,b,c',d⟩:=capOk_get h2 i (by simpa using hi)
      exact ⟨x,by rw [← a]; congr 1; omega,by simpa using b,c',d⟩
theorem compScope_of {sc:Scope}{XN N:List Str}{scope:Scope}{caps:List Nat} (h:compOk sc XN N scope caps=true):CompScope sc XN N scope caps:=by
  unfold compOk at h
  simp only [Bool.and_eq_true,decide_eq_true_eq,List.all_eq_true] at h
  obtain ⟨⟨⟨⟨⟨⟨a,b⟩,c⟩,d⟩,e⟩,f⟩,g⟩:=h
  exact ⟨a,b,c,d,e,fun i hi=>by simpa using capOk_get f i hi,g⟩
end L2
end
section
namespace L2
open PySem PySem.Spec PyProof.Rows
section
variable {X:Cx}{pins:List (Addr × Obj)}{σ:St}{H:Hp}{s:Shared}
theorem Inv.turnedT {fp:List Addr}{h':Heap}{t':Nat}{T:Addr}{o:HO} (I:Inv X pins σ H s) (k:∀ b u,b ∉ fp→s.heap.get? b=some u→h'.get? b=some u) (hf:∀ b∈fp,FpOk X pins H b) (hT:s.heap.get? T=none)
    (new:ObjOk X.prog X.w (upd H T o) h' T o):Inv X pins σ (upd H T o) { s with heap:=h',toks:=t' }:=by
  have hn:H T=none:=I.hok.free hT
  have nit:∀ b u,H b=some u→b ∉ fp:=fun b u e z=>by rw [(hf b z).1] at e; cases e
  have sm:Same H (upd H T o):=Same.upd1 hn
  have old:∀ b (u:Obj),s.heap.get? b=some u→upd H T o b=H b:=fun b u e=>by
    rw [upd_ne]
    rintro rfl
    rw [hT] at e; cases e
  refine I.step (g':=s.gens) (d':=s.drawn) (ch:=fp) (fun b hb=>?_) (fun b o _ _ hc e _=>k b o hc e) (fun b o _ _ hc e _=>⟨o.slots,k b o hc e⟩) (fun b u _ e n=>by rw [old b u e]; exact n)
    (fun b o hc e=>⟨o,k b o hc e⟩) (fun b xs e=>sm _ _ e) (fun b u v e=>sm _ _ e) (fun b ps e=>⟨#[],by rw [sm _ _ e]; simp⟩) (fun m hm=>?_) (fun b u e=>?_) I.bare
  · obtain ⟨f0,f1,f2,f3,f4,f5⟩:=hf b hb
    exact ⟨f3,f1,f4,f5⟩
  · obtain ⟨o,es,ep,ho,r⟩:=hm
    exact ⟨o,es,ep,k _ o (fun z=>(hf _ z).2.1 rfl) ho,r⟩
  · by_cases hb:b=T
    · subst hb; rw [upd_same] at e; cases e; exact new
    · rw [upd_ne hb] at e
      refine (I.hok b u e).stay (fun c v hc q=>k c v ?_ q) (fun c q=>?_) fun c xs q=>?_
      · rcases hc with z | z
        · rw [z]; exact nit b u e
        · exact nit c _ z
      · exact sm _ _ q
      · exact sm _ _ q
end
def Ite (K:PySem.W.Frag) (a:Addr):It :=
  ⟨fun i H=>∃ xs x,SqL K H a xs∧xs[i]?=some x,fun i H x H'=>∃ T y,x=.ref T∧H T=none∧H'=upd H T (.tup [.int i,y])∧∀ xs,SqL K H a xs→xs[i]?=some y,fun i H=>∃ xs,SqL K H a xs∧xs.length=i⟩
theorem turn_enum {P:Program}{w:World}{K:PySem.W.Frag}{elts:List Expr}{k:Nat}{pos:Pos} (a e it:Addr) (hei:e≠it):Turn P w K (.Tuple elts k pos) (Ite K a) [e,it] e (fun i h=>(∃ old,IsEnum h e it i old)∧h.IsListIter it a i) where
  mem:=by simp
  obj:=fun i h st b hb=>by
    obtain ⟨⟨old,he⟩,hit⟩:=st
    rcases List.mem_cons.mp hb with z | z
    · subst z; exact ⟨_,he,fun v z=>by cases z⟩
    · have z':b=it:=by simpa using z
      subst z'
      obtain ⟨o,e,c,d⟩:=hit
      exact ⟨o,e,fun v z=>by rw [d] at z; cases z⟩
  keep:=fun i h h' st kk=>⟨let ⟨old,he⟩:=st.1; ⟨old,kk e (by simp) _ he⟩,st.2.at fun o x=>kk it (by simp) o x⟩
  item:=by
    intro X hP hw hK hc i pins s σ H E I hf st hg
    subst hP hw hK
    obtain ⟨xs,x,hq,hx⟩:=hg
    obtain ⟨its,rv,p,hz⟩:=I.list hq
    obtain ⟨u,hu,ru⟩:=rv.get hx
    obtain ⟨⟨old,he⟩,hit⟩:=id st
    have hae:e≠a:=fun z=>by
      subst z
      obtain ⟨o,h1,h2,_⟩:=p.isList
      rw [he] at h1; cases h1
      have h2':Value.type "enumerate" = Value.type "list" := h2
      exact absurd h2' (by decide)
    have hai:a≠it:=fun z=>by
      subst z
      obtain ⟨o,h1,h2,_⟩:=p.isList
      obtain ⟨o',h3,h4,_⟩:=hit
      rw [h1] at h3; cases h3; rw [h2] at h4; exact absurd h4 (by decide)
    have D:=Draws.list (prog:=X.prog) (w:=X.w) (A:=X.A.in1) (show X.A.in1.handled=none from I.ok.hd hc) it a hai its.toArray
    have hlt:i < its.toArray.size:=by
      have:=(List.getElem?_eq_some_iff.mp hu).1
      simpa using this
    refine wpAny_pyNext_enum_itemD D he ⟨hit,p.isList⟩ hlt hei (by simp [hei,hae]) fun x' h' tk hP ho hs' hT hsz hk=>?_
    have hx':x'=u:=by
      have:its[i]?=some x':=by simpa using hP
      rw [hu] at this; exact (Option.some.inj this).symm
    subst hx'
    refine ⟨_,rfl,wpAny_letOwnedTupleGo_enum ho fun h2 he2 hs2=>?_⟩
    have hTn:s.heap.get? s.heap.objs.size=none:=by
      cases g:s.heap.get? s.heap.objs.size with
      | none=>rfl
      | some o=>exact absurd (Heap.lt_size g) (Nat.lt_irrefl _)
    have hel:e < s.heap.objs.size:=Heap.lt_size he
    have hT2:h2.get? s.heap.objs.size=some { cls:=.type "tuple",data:=.seq #[.int i tk,x'] }:=(hs2.2 _ (Nat.ne_of_gt hel)).trans hT
    refine ⟨.ref s.heap.objs.size,upd H s.heap.objs.size (.tup [.int i,x]),I.turnedT (fp:=[e,it]) (h':=h2) (t':=tk+1) (fun b o hb q=>?_) hf hTn ⟨by show 2≤sizeLine; decide,[.int i tk,x'],.cons ⟨tk,rfl⟩ (.cons ru .nil),⟨_,hT2,rfl,_,rfl⟩⟩,rfl,
      ⟨_,x,rfl,I.hok.free hTn,rfl,fun ys hy=>by rw [I.list_inj hy hq]; exact hx⟩,⟨⟨_,by simpa using he2⟩,hs'.1.at fun o q=>(hs2.2 it (Ne.symm hei)).trans q⟩,fun b hb=>?_⟩
    · have hbe:b≠e:=fun z=>hb (by simp [z])
      have hbi:b≠it:=fun z=>hb (by simp [z])
      exact (hs2.2 b hbe).trans (hk b o hbe hbi q)
    · rw [upd_ne]
      · exact (hf b hb).1
      · rintro rfl
        rcases List.mem_cons.mp hb with z | z
        · exact absurd hel (by rw [z]; exact Nat.lt_irrefl _)
        · have z':s.heap.objs.size=it:=by simpa using z
          obtain ⟨o,h3,_⟩:=hit
          rw [← z',hTn] at h3; cases h3
  done:=by
    intro X hP hw hK hc i pins s σ H E I hf st hg
    subst hP hw hK
    obtain ⟨xs,hq,hx⟩:=hg
    obtain ⟨its,rv,p,hz⟩:=I.list hq
    obtain ⟨⟨old,he⟩,hit⟩:=id st
    have hl:=rv.length
    have hai:a≠it:=fun z=>by
      subst z
      obtain ⟨o,h1,h2,_⟩:=p.isList
      obtain ⟨o',h3,h4,_⟩:=hit
      rw [h1] at h3; cases h3; rw [h2] at h4; exact absurd h4 (by decide)
    have D:=Draws.list (prog:=X.prog) (w:=X.w) (A:=X.A.in1) (show X.A.in1.handled=none from I.ok.hd hc) it a hai its.toArray
    obtain ⟨f0,f1,f2,f3,f4,f5⟩:=hf it (by simp)
    have hi:its.toArray.size=i:=by rw [List.size_toArray]; omega
    refine wpAny_pyNext_enum_endD D he ⟨by rw [hi]; exact hit,p.isList⟩ fun h' eb=>⟨rfl,I.turned (t':=s.toks) (fun b o hb e=>eb b o hb e) f0 f1 f3 f4 f5⟩
  self:=fun A i s Q E st h=>let ⟨old,he⟩:=st.1; wpAny_pyIter_enum he h
section
variable {X:Cx}{elts:List Expr}{k:Nat}{tpos:Pos}
def iEnum (K:PySem.W.Frag) (ta:TA):TI:=fun σ H R=>ta σ H fun vs H1=>∃ a xs,vs=[.ref a]∧H1 a=some (.lst xs)∧R (Ite K a) H1
theorem pi_enum {e:Expr}{ta:TA}{p pos:Pos} (hg:Gl X "enumerate") (hm:X.mg "enumerate" = none) (ha:PA X [e] ta) (hs:starEach [e] X.env=[(false,eval e X.env)]:=by rfl):PI X (.Tuple elts k tpos) (.Call (.Name "enumerate" p) [e] [] pos) (iEnum X.K ta):=by
  intro pins s σ H R I h
  refine Call_ (ld_blt I hg hm boot_enumerate (PyProof.Rows.callWith_type1 (thn (ha pos pins s σ H _ I h) fun us s1 ⟨vs,H1,I1,r1,q1⟩=>?_) hs rfl))
  obtain ⟨a,xs,rfl,hl,q⟩:=q1
  obtain ⟨u,rfl,ru⟩:=vals1 r1
  cases ru
  obtain ⟨z,its,n,r,e0⟩:=I1.hok a _ hl
  refine call_enumerate_1 e0 fun h' he hit hsz hk=>?_
  have I2:Inv X pins σ H1 { s1 with heap:=h' }:=I1.kept (t':=s1.toks) hk
  refine wpAny_pyIter_enum he ⟨_,[s1.heap.objs.size+1,s1.heap.objs.size],_,_,H1,rfl,I2,turn_enum a _ _ (Nat.succ_ne_self _),⟨⟨_,he⟩,hit⟩,fun b hb=>?_,q⟩
  have hb':s1.heap.objs.size≤b:=by
    rcases List.mem_cons.mp hb with z | z
    · rw [z]; exact Nat.le_succ _
    · have:b=s1.heap.objs.size:=by simpa using z
      rw [this]; exact Nat.le_refl _
  exact I1.fpOk hb' (I1.hok.fresh hb')
theorem for_enum {K:PySem.W.Frag}{a:Addr}{xs:List V}{g:TG}{tb:TS}{D:Ends}{σ:St}{H:Hp} (Pv:Nat→St→Hp→Prop) (h0:Pv 0 σ H) (hk:∀ i σ H,i≤xs.length→Pv i σ H→SqL K H a xs)
    (turn:∀ (i:Nat) (x:V) (T:Addr) (σ:St) (H:Hp) (Nx:St→Hp→Prop),(∀ σ' H',Pv (i+1) σ' H'→Nx σ' H')→xs[i]?=some x→Pv i σ H→H T=none→g (.ref T) σ (upd H T (.tup [.int i,x])) fun σ2 H2=>tb { D with nx:=Nx,ct:=Nx,bk:=D.nx } σ2 H2)
    (fin:∀ σ H,Pv xs.length σ H→D.nx σ H) :
    ∃ W:Nat→Nat→St→Hp→Prop,(∃ m,W 0 m σ H)∧∀ i m σ H,W i m σ H →
      ((Ite K a).stop i H∧D.nx σ H)∨((Ite K a).go i H∧∃ N:St→Hp→Prop,(∀ σ' H',N σ' H'→∃ m',m' < m∧W (i+1) m' σ' H')∧∀ x H',(Ite K a).yld i H x H'→g x σ H' fun σ2 H2=>tb { D with nx:=N,ct:=N,bk:=D.nx } σ2 H2):=by
  refine ⟨fun i m σ H=>i≤xs.length∧m=xs.length - i∧Pv i σ H,⟨xs.length,Nat.zero_le _,rfl,h0⟩,?_⟩
  rintro i m σ H ⟨hi,rfl,pv⟩
  have hH:=hk i σ H hi pv
  by_cases e:i=xs.length
  · subst e
    exact .inl ⟨⟨xs,hH,rfl⟩,fin σ H pv⟩
  · have hi':i < xs.length:=by omega
    refine .inr ⟨⟨xs,xs[i],hH,List.getElem?_eq_getElem hi'⟩,Pv (i+1),fun σ' H' p=>⟨xs.length - (i+1),by omega,by omega,rfl,p⟩,fun x H2 hy2=>?_⟩
    obtain ⟨T,y,rfl,hT,rfl,hy⟩:=hy2
    exact turn i y T σ H (Pv (i+1)) (fun _ _ p=>p) (hy xs hH) pv hT
end
section
variable {X:Cx}{e st:Expr}{te ts:TE}{pos p2:Pos}
end
end L2
end
section
namespace L2
open PySem PySem.Spec PyProof.Rows
theorem miss_list_keys:typeLookup (.type "list") "keys" = pure none:=am_miss_of_fast (by kernel_rfl)
theorem ga_miss_list {prog:Program}{w:World}{A:Around}{E:Value→Shared→Prop}{s:Shared}{a:Addr}{o:Obj}{xs:Array Value}{k:Nat}{name:Str}{Q:Option Value→Shared→Prop}
    (hx:s.heap.get? a=some o) (hc:o.cls=.type "list") (hdat:o.data=.seq xs k) (hd:o.dict=none) (hmiss:typeLookup (.type "list") name=pure none) (hname:(["__module__", "__name__", "__qualname__", "__doc__", "__annotations__"]:List Str).contains name=false) (hA:A.handled=none)
    (h:∀ h' tk,(∀ b ob,s.heap.get? b=some ob→h'.get? b=some ob)→Q none { s with heap:=h',toks:=tk }) (hsz:name.length+100≤sizeLine:=by size_fits) :
    wpAny (model prog w) A (getAttr? (.ref a) name) Q E s:=by
  obtain ⟨c,dct,dat,sl⟩:=o
  simp only at hc hdat hd
  subst hc hdat hd
  obtain ⟨hp,g,d,tk,os⟩:=s
  have hT:∀ tk',(⟨hp,g,d,tk',os⟩:Shared).TypeIs (.ref a) "list" := fun _=>⟨_,hx,rfl⟩
  have f1:=sub_AttributeError
  have f3:=PySem.F.slot_list_getattribute.lookup
  have f4:=PySem.F.slot_list_getattribute.bind (.ref a)
  have f5:=am_list_getattr_none
  unfold getAttr? getAttrBy? getAttrBy
  repeat (any_goals (first | assumption | exact hT _ | ((with_reducible show wpAny _ _ (call (Value.builtin "list.__getattribute__") _ _) _ _ _); refine call_meets PySem.F.slot_list_getattribute (hT _) am_entry_list_getattribute (PySem.F.args_list_getattribute_2 _ _) (meets_getattribute_miss_list a xs k sl name _ hmiss hname hsz) ⟨hx,hA,fun h' tk' e hx'=>?_⟩) | wp_step))
  obtain ⟨t',u',he⟩:=hx'.there
  show wpAny _ _ (getattributeRaised _ _ _ _ _ _ _) _ _ _
  unfold getattributeRaised
  repeat (any_goals (first | assumption | wp_step))
  exact h _ _ hx'.of.keeps
theorem entry_dict_loop:entryFor table "dict.update.loop" = some Builtin.«dict.update.loop»:=entryFor_of_tree (by kernel_rfl)
theorem plain_dict_loop:plainId "dict.update.loop" = true:=by decide +kernel
theorem stored_new {κ:Type} [DecidableEq κ] {kvs:List (κ × Value)}{k:κ}{v:Value} (h:k ∉ kvs.map (·.1)):stored kvs k v=kvs++[(k,v)]:=by
  unfold stored
  rw [if_neg]
  rw [List.any_eq_true]
  rintro ⟨kv,hkv,he⟩
  exact h (List.mem_map.mpr ⟨kv,hkv,of_decide_eq_true he⟩)
section
variable {prog:Program}{w:World}{A:Around}{R:Result→Shared→Prop}
theorem loop_dict {I ax D:Addr}{items:Array Value}{kvs:List (Str × Value)} (hh:A.in1.handled=none) (hIx:ax≠I) (hDI:D≠I) (hDx:D≠ax) (hlen:kvs.length=items.size) (hz:kvs.length≤1000) (nd:(kvs.map (·.1)).Nodup) :
    ∀ (m i:Nat) (s:Shared),items.size - i=m→i≤items.size→(s.heap.IsListIter I ax i∧s.heap.IsList ax items) →
      (∀ (j:Nat) (v:Value),items[j]?=some v→∃ q,kvs[j]?=some q∧∃ b o t n,v=Value.ref b∧b≠D∧b≠I∧s.heap.get? b=some o∧o.cls=.type "tuple" ∧ o.data=.seq #[.str q.1 t,q.2] n) →
      s.heap.DictOf (mixKind prog w) D ((kvs.take i).map fun q=>((Sum.inr q.1:Key),q.2)) →
      (∀ h' tk,(∀ b o,b≠D→b≠I→s.heap.get? b=some o→h'.get? b=some o)→h'.DictOf (mixKind prog w) D (kvs.map fun q=>((Sum.inr q.1:Key),q.2))→R (.ok (.ret .none)) { s with heap:=h',toks:=tk }) →
      ∀ n:Tok,codeAny (model prog w) A (.builtin "dict.update.loop" ⟨[.ref D,.ref I,.int (i:Int) n,.none],[]⟩) R s:=by
  have W:=Walks.list (prog:=prog) (w:=w) (A:=A.in1) hh I ax hIx items
  intro m
  induction m with
  | zero =>
    intro i s hm hi st hp hd hR n
    have hin:i=items.size:=by omega
    subst hin
    refine codeAny_builtin entry_dict_loop ?_
    rw [Around.under_plainId plain_dict_loop _]
    show wpAny _ A.in1 (pyNext (.ref I) >>= _) _ _ s
    refine wpAny_bind (W.done s _ _ st fun h' tk hk=>?_)
    show wpAny _ A.in1 (Builtin.Dict.addKeywords D [] >>= _) _ _ _
    refine wpAny_bind (wpAny_pure (wpAny_pure (hR h' tk (fun b o h1 h2 e=>hk b o (by simpa using h2) e) ?_)))
    rw [← hlen,List.take_length] at hd
    obtain ⟨o,es,ep,ho,rest⟩:=hd
    exact ⟨o,es,ep,hk D o (by simpa using hDI) ho,rest⟩
  | succ m ih =>
    intro i s hm hi st hp hd hR n
    have hlt:i < items.size:=by omega
    refine codeAny_builtin entry_dict_loop ?_
    rw [Around.under_plainId plain_dict_loop _]
    show wpAny _ A.in1 (pyNext (.ref I) >>= _) _ _ s
    refine wpAny_bind (W.item i s _ _ hlt st fun v h1 tk hv st1 hk=>?_)
    obtain ⟨q,hq,b,o,t,nn,rfl,hbD,hbI,ho,hoc,hod⟩:=hp i v hv
    have ho1:h1.get? b=some o:=hk b o (by simpa using hbI) ho
    have hd1:h1.DictOf (mixKind prog w) D ((kvs.take i).map fun q=>((Sum.inr q.1:Key),q.2)):=by
      obtain ⟨o',es,ep,ho',rest⟩:=hd
      exact ⟨o',es,ep,hk D o' (by simpa using hDI) ho',rest⟩
    show wpAny _ A.in1 (holding [Value.ref b] _ >>= _) _ _ _
    refine wpAny_bind (wpAny_holding ?_)
    have hT:Shared.TypeIs { s with heap:=h1,toks:=tk } (.ref b) "tuple" := ⟨o,ho1,hoc⟩
    refine wpAny_bind (wpAny_tryCatch ?_)
    unfold Builtin.Dict.pairItems
    refine wpAny_bind (wpAny_typeOf hT ?_)
    rw [if_pos (by decide)]
    refine wpAny_bind (wpAny_seqItems ho1 hod (wpAny_pure ?_))
    show wpAny _ A.in1 (holding [Value.str q.1 t,q.2] (dictSet D (.str q.1 t) q.2)) _ _ _
    have hqi:kvs[i]?=some q:=hq
    have hi':i < kvs.length:=(List.getElem?_eq_some_iff.mp hqi).1
    have eq1:kvs[i]=q:=(List.getElem?_eq_some_iff.mp hqi).2
    refine wpAny_holding (wpAny_dictSet_pairs (knd:=mixKind prog w) (k:=Sum.inr q.1) (s:={ s with heap:=h1,toks:=tk }) (mixKind_str prog w q.1 t) hd1 (fun h2 hd2 hs2=>?_) (by rw [List.length_map,List.length_take,sizeLine_eq]; omega))
    have hnew:(Sum.inr q.1:Key) ∉ (((kvs.take i).map fun q=>((Sum.inr q.1:Key),q.2)).map (·.1)):=by
      rw [List.map_map]
      intro hm
      obtain ⟨p,hp',e⟩:=List.mem_map.mp hm
      have e':p.1=q.1:=Sum.inr.inj e
      obtain ⟨j,hj,ej⟩:=List.getElem_of_mem hp'
      have hj1:j < i:=by rw [List.length_take] at hj; omega
      have hj2:j < kvs.length:=by omega
      rw [List.getElem_take] at ej
      have:=(List.getElem_inj (xs:=kvs.map (·.1)) (h₀:=by simpa using hj2) (h₁:=by simpa using hi') nd).mp (by rw [List.getElem_map,List.getElem_map,ej,eq1]; exact e')
      omega
    rw [stored_new hnew] at hd2
    have ed:((kvs.take i).map fun q=>((Sum.inr q.1:Key),q.2))++[((Sum.inr q.1:Key),q.2)]=(kvs.take (i+1)).map fun q=>((Sum.inr q.1:Key),q.2):=by
      rw [List.take_succ_eq_append_getElem hi',eq1,List.map_append]; rfl
    rw [ed] at hd2
    show wpAny _ A.in1 (again _) _ _ _
    refine wpAny_pure ⟨plainId_quiet plain_dict_loop _,?_⟩
    have keep:∀ b o,b≠D→b≠I→s.heap.get? b=some o→h2.get? b=some o:=fun b o e1 e2 e=>by
      rw [hs2.2 b e1]; exact hk b o (by simpa using e2) e
    refine ih (i+1) { s with heap:=h2,toks:=tk+1 } (by omega) hlt (W.frame _ h1 h2 st1 fun b hb o e=>?_) (fun j v hv=>?_) hd2 (fun h' tk' hk' hd'=>hR h' tk' (fun b o e1 e2 e=>hk' b o e1 e2 (keep b o e1 e2 e)) hd') _
    · rw [hs2.2 b]
      · exact e
      · rintro rfl
        rcases List.mem_cons.mp hb with z | z
        · exact hDI z
        · exact hDx (by simpa using z)
    · obtain ⟨q',hq',b',o',t',n',e1,e2,e3,e4,e5⟩:=hp j v hv
      exact ⟨q',hq',b',o',t',n',e1,e2,e3,keep b' o' e2 e3 e4,e5⟩
theorem call_dict_pairs {E:Value→Shared→Prop}{s:Shared}{l:Addr}{items:Array Value}{kvs:List (Str × Value)}{Q:Value→Shared→Prop} (hh:A.handled=none) (hl:PlainL s.heap l items) (hlen:kvs.length=items.size) (hz:kvs.length≤1000) (nd:(kvs.map (·.1)).Nodup)
    (hp:∀ (j:Nat) (v:Value),items[j]?=some v→∃ q,kvs[j]?=some q∧∃ b o t n,v=Value.ref b∧s.heap.get? b=some o∧o.cls=.type "tuple" ∧ o.data=.seq #[.str q.1 t,q.2] n)
    (h:∀ h' tk,(∀ b o,s.heap.get? b=some o→h'.get? b=some o)→h'.DictOf (mixKind prog w) s.heap.objs.size (kvs.map fun q=>((Sum.inr q.1:Key),q.2))→Q (.ref s.heap.objs.size) { s with heap:=h',toks:=tk }) :
    wpAny (model prog w) A (call (.type "dict") [.ref l]) Q E s:=by
  refine callType_codes (Q₁:=fun obj s₁=>obj=.ref s.heap.objs.size∧s₁={ s with heap:=s.heap.push { cls:=.type "dict",data:=.dict #[] } }) PySem.F.kt_called_dict (PySem.F.kt_typeCall_dict_1 _) PySem.F.entry_dict_init (kt_code_dict_new _ ⟨rfl,rfl⟩) ?_
  rintro obj s₁ ⟨rfl,rfl⟩
  have hnew:(s.heap.push { cls:=.type "dict",data:=.dict #[] }).DictOf (mixKind prog w) s.heap.objs.size []:=Heap.DictOf.new s.heap
  obtain ⟨o,n,ho,hc,hdn,hd⟩:=id hl
  have hlS:l < s.heap.objs.size:=Heap.lt_size ho
  have ho1:(s.heap.push { cls:=.type "dict",data:=.dict #[] }).get? l=some o:=Heap.get?_push_of_some _ ho
  refine ⟨hnew.typeIs,PySem.F.args_dict_init_2 _ _,?_⟩
  unfold Builtin.«dict.__init__»
  refine wpAny_bind ?_
  unfold Builtin.Dict.selfAndRest
  refine wpAny_bind (wpAny_notOrdered_dict hnew.typeIs ?_)
  show wpAny _ _ (pure (s.heap.objs.size,[Value.ref l])) _ _ _
  refine wpAny_pure ?_
  show wpAny _ _ (Builtin.Dict.updateFrom "dict.__init__" s.heap.objs.size (.ref l) [] .none) _ _ _
  unfold Builtin.Dict.updateFrom
  have hT:Shared.TypeIs { s with heap:=s.heap.push { cls:=.type "dict",data:=.dict #[] } } (.ref l) "list" := ⟨o,ho1,hc⟩
  refine wpAny_bind (wpAny_typeOf hT ?_)
  rw [if_pos (by decide)]
  refine wpAny_bind (ga_miss_list ho1 hc hd hdn miss_list_keys (by decide) (by simp [hh]) (fun h2 tk2 hk2=>?_))
  rw [if_pos (show (none:Option Value).isNone=true from rfl)]
  refine wpAny_bind (wpAny_rule (wpAny_bind ?_))
  have hl2:h2.IsList l items:=⟨o,hk2 _ _ ho1,hc,n,hd⟩
  refine wpAny_pyIter_list (s:={ s with heap:=h2,toks:=tk2 }) hl2 ?_
  have hDsz:s.heap.objs.size < h2.objs.size:=by
    obtain ⟨o',es,ep,ho',_⟩:=hnew
    exact Heap.lt_size (hk2 _ _ ho')
  have hlsz:l < h2.objs.size:=Nat.lt_trans hlS hDsz
  refine wpAny_pure ⟨plainId_quiet plain_dict_loop _,?_⟩
  have old:∀ b o,s.heap.get? b=some o→h2.get? b=some o:=fun b o e=>hk2 b o (Heap.get?_push_of_some _ e)
  refine loop_dict (I:=h2.objs.size) (ax:=l) (D:=s.heap.objs.size) (items:=items) (kvs:=kvs) (by simp [hh]) (Nat.ne_of_lt hlsz) (Nat.ne_of_lt hDsz) (Nat.ne_of_gt hlS) hlen hz nd items.size 0 _ rfl (Nat.zero_le _)
    ⟨⟨_,Heap.get?_push_size _ rfl,rfl,rfl⟩,hl2.push _⟩ (fun j v hv=>?_) ?_ (fun h' tk' hk' hd'=>⟨rfl,h h' tk' (fun b o e=>?_) hd'⟩) _
  · obtain ⟨q,hq,b,ob,t,nn,e1,e2,e3,e4⟩:=hp j v hv
    exact ⟨q,hq,b,ob,t,nn,e1,Nat.ne_of_lt (Heap.lt_size e2),Nat.ne_of_lt (Nat.lt_trans (Heap.lt_size e2) hDsz),Heap.get?_push_of_some _ (old _ _ e2),e3,e4⟩
  · rw [List.take_zero]
    obtain ⟨o',es,ep,ho',rest⟩:=hnew
    exact ⟨o',es,ep,Heap.get?_push_of_some _ (hk2 _ _ ho'),rest⟩
  · exact hk' b o (Nat.ne_of_lt (Heap.lt_size e)) (Nat.ne_of_lt (Nat.lt_trans (Heap.lt_size e) hDsz)) (Heap.get?_push_of_some _ (old _ _ e))
end
section
variable {X:Cx}
def PrsAt (K:PySem.W.Frag) (H:Hp) (ts:List V) (kvs:List (Str × V)):Prop:=ts.length=kvs.length∧∀ (i:Nat) (q:Str × V),kvs[i]?=some q→∃ a,ts[i]?=some (.ref a)∧SqT K H a [.str q.1,q.2]
theorem prs_vals {pins:List (Addr × Obj)}{σ:St}{H:Hp}{s:Shared} (I:Inv X pins σ H s) {ts:List V}{kvs:List (Str × V)}{its:List Value} (hp:PrsAt X.K H ts kvs) (rv:Vals ts its) :
    ∃ ws:List (Str × Value),KV kvs ws∧∀ (j:Nat) (v:Value),its[j]?=some v→∃ q,ws[j]?=some q∧∃ b o t n,v=Value.ref b∧s.heap.get? b=some o∧o.cls=.type "tuple" ∧ o.data=.seq #[.str q.1 t,q.2] n:=by
  have one:∀ (i:Nat) (q:Str × V) (u:Value),kvs[i]?=some q→its[i]?=some u→∃ x,RelV q.2 x∧∃ b o t n,u=Value.ref b∧s.heap.get? b=some o∧o.cls=.type "tuple" ∧ o.data=.seq #[.str q.1 t,x] n:=fun i q u hq hu=>by
    obtain ⟨a,ha,hs⟩:=hp.2 i q hq
    obtain ⟨u',e1,e2⟩:=rv.get ha
    rw [hu] at e1
    cases e1
    cases e2
    obtain ⟨its2,r2,⟨o,ho,hc,n,hd⟩,_⟩:=I.tuple hs
    obtain ⟨x1,x2,rfl,rx1,rx2⟩:=vals2 r2
    obtain ⟨t,rfl⟩:=rx1
    exact ⟨x2,rx2,a,o,t,n,rfl,ho,hc,hd⟩
  have hl:its.length=kvs.length:=by rw [← rv.length]; exact hp.1
  clear hp rv
  induction kvs generalizing its with
  | nil =>
    refine ⟨[],.nil,fun j v hv=>?_⟩
    have:its=[]:=by simpa using hl
    rw [this] at hv; simp at hv
  | cons q kvs ih =>
    cases its with
    | nil=>simp at hl
    | cons u its =>
      obtain ⟨x,rx,hx⟩:=one 0 q u rfl rfl
      obtain ⟨ws,kv,hws⟩:=ih (its:=its) (fun i q' u' h1 h2=>one (i+1) q' u' (by simpa using h1) (by simpa using h2)) (by simpa using hl)
      refine ⟨(q.1,x)::ws,.cons ⟨rfl,rx⟩ kv,fun j v hv=>?_⟩
      cases j with
      | zero =>
        have:u=v:=by simpa using hv
        subst this
        exact ⟨_,rfl,hx⟩
      | succ j =>
        obtain ⟨q',e1,e2⟩:=hws j v (by simpa using hv)
        exact ⟨q',by simpa using e1,e2⟩
theorem KV.enc {kvs:List (Str × V)}{ws:List (Str × Value)} (h:KV kvs ws):KV (encK kvs) (ws.map fun q=>((Sum.inr q.1:Key),q.2)):=by
  induction h with
  | nil=>exact .nil
  | cons h t ih=>exact .cons ⟨congrArg Sum.inr h.1,h.2⟩ ih
def rDictL (K:PySem.W.Frag):List V→Hp→VK→Prop:=fun xs H Q=>∃ p ts kvs,xs=[.ref p]∧SqL K H p ts∧PrsAt K H ts kvs∧(kvs.map (·.1)).Nodup∧kvs.length≤1000∧∀ d,H d=none→Q (.ref d) (upd H d (.dK (encK kvs)))
theorem call_dictL (hc:X.calm=true):CallR X (.type "dict") (rDictL X.K):=by
  intro pins s σ H xs us Q I rx h
  obtain ⟨p,ts,kvs,rfl,hp,hprs,nd,hz,q⟩:=h
  obtain ⟨u,rfl,ru⟩:=vals1 rx
  cases ru
  obtain ⟨its,rv,pl,_⟩:=I.list hp
  obtain ⟨ws,kv,hws⟩:=prs_vals I hprs rv
  have hl:ws.length=kvs.length:=(Paired.length kv).symm
  have hits:its.length=kvs.length:=by rw [← rv.length]; exact hprs.1
  refine call_dict_pairs (kvs:=ws) (I.ok.hd hc) pl (by rw [hl]; simp [hits]) (by omega) (by rw [← kv.keys]; exact nd) (fun j v hv=>hws j v (by simpa using hv)) fun h' tk hk hd=>?_
  have hlo:(s.heap.objs.size == sysModules)=false:=by
    have h0:=I.big
    have h1:s.heap.objs.size≠sysModules:=Nat.ne_of_gt h0
    simpa using h1
  exact ⟨.ref s.heap.objs.size,_,I.laid (t':=tk) (o:=.dK (encK kvs)) hk (Nat.le_refl _) (dk_new (by simp [encK]; rw [sizeLine_eq]; omega) hlo kv.enc hd),rfl,q _ (I.hok.fresh (Nat.le_refl _))⟩
end
end L2
end
section
set_option autoImplicit false
namespace Kn
abbrev S:=List Nat
section
variable {κ α:Type} [DecidableEq κ]
def putA:List (κ × α)→κ→α→List (κ × α)
  | [],k,v=>[(k,v)]
  | (k',v')::r,k,v=>if k'=k then (k',v)::r else (k',v')::putA r k v
def getA:List (κ × α)→κ→Option α
  | [],_=>none
  | (k',v')::r,k=>if k'=k then some v' else getA r k
theorem getA_putA (l:List (κ × α)) (k k':κ) (v:α):getA (putA l k v) k'=if k=k' then some v else getA l k':=by
  induction l with
  | nil=>simp [putA,getA]
  | cons p r ih =>
    obtain ⟨k0,v0⟩:=p
    by_cases h:k0=k
    · subst h
      by_cases h':k0=k' <;> simp [putA,getA,h']
    · simp only [putA,if_neg h,getA,ih]
      by_cases h1:k0=k'
      · subst h1
        rw [if_pos rfl,if_pos rfl,if_neg (fun e=>h e.symm)]
      · rw [if_neg h1,if_neg h1]
theorem putA_keys (l:List (κ × α)) (k:κ) (v:α):(putA l k v).map (·.1)=if k∈l.map (·.1) then l.map (·.1) else l.map (·.1)++[k]:=by
  induction l with
  | nil=>simp [putA]
  | cons p r ih =>
    obtain ⟨k0,v0⟩:=p
    by_cases h:k0=k
    · subst h; simp [putA]
    · have h':¬ k=k0:=fun e=>h e.symm
      simp only [putA,if_neg h,List.map_cons,ih,List.mem_cons,h',false_or]
      split <;> simp
theorem putA_nodup {l:List (κ × α)}{k:κ}{v:α} (h:(l.map (·.1)).Nodup):((putA l k v).map (·.1)).Nodup:=by
  rw [putA_keys]
  split
  · exact h
  · rename_i hk
    exact List.nodup_append.mpr ⟨h,by simp,fun a ha b hb e=>by
      have:b=k:=by simpa using hb
      subst this; subst e; exact hk ha⟩
theorem getA_mem {l:List (κ × α)} (h:(l.map (·.1)).Nodup) (k:κ) (v:α):(k,v)∈l↔getA l k=some v:=by
  induction l with
  | nil=>simp [getA]
  | cons p r ih =>
    obtain ⟨k0,v0⟩:=p
    have h1:k0 ∉ r.map (·.1):=(List.nodup_cons.mp h).1
    have h2:=ih (List.nodup_cons.mp h).2
    by_cases e:k0=k
    · subst e
      have g:getA ((k0,v0)::r) k0=some v0:=by simp [getA]
      rw [g,List.mem_cons]
      constructor
      · rintro (z | z)
        · rw [(Prod.mk.inj z).2]
        · exact absurd (List.mem_map_of_mem (f:=(·.1)) z) h1
      · intro z; rw [Option.some.inj z]; exact .inl rfl
    · simp only [getA,if_neg e,List.mem_cons,Prod.mk.injEq]
      rw [← h2]
      constructor
      · rintro (z | z)
        · exact absurd z.1.symm e
        · exact z
      · intro z; exact .inr z
theorem getA_none {l:List (κ × α)}{k:κ}:getA l k=none↔k ∉ l.map (·.1):=by
  induction l with
  | nil=>simp [getA]
  | cons p r ih =>
    obtain ⟨k0,v0⟩:=p
    by_cases e:k0=k
    · subst e; simp [getA]
    · have e':¬ k=k0:=fun z=>e z.symm
      simp only [getA,if_neg e,ih,List.map_cons,List.mem_cons,e',false_or]
end
def bump (row:List (S × Int)) (l:S):List (S × Int):=putA row l ((getA row l).getD 0+1)
def addP (rows:List (S × List (S × Int))) (p:S × S):List (S × List (S × Int)):=putA rows p.1 (bump ((getA rows p.1).getD []) p.2)
def rowsOf (ps:List (S × S)):List (S × List (S × Int)):=ps.foldl addP []
theorem rowsOf_snoc (ps:List (S × S)) (p:S × S):rowsOf (ps++[p])=addP (rowsOf ps) p:=by
  unfold rowsOf; rw [List.foldl_append]; rfl
def endOf (t:S) (o:Nat):S:=t.drop (t.length - o)
def pairs1 (o:Nat) (nm:S):List (S × S):=(List.range (nm.length+1)).map fun p=>(endOf (nm.take p) o,(nm.drop p).take 1)
def pairsB (o:Nat) (bk:List S):List (S × S):=bk.flatMap (pairs1 o)
structure RowsOk (ps:List (S × S)) (rows:List (S × List (S × Int))):Prop where
  nd:(rows.map (·.1)).Nodup
  ndr:∀ e row,(e,row)∈rows→(row.map (·.1)).Nodup
  val:∀ e l,getA ((getA rows e).getD []) l=if 0 < ps.count (e,l) then some (ps.count (e,l):Int) else none
  has:∀ e,(∃ row,getA rows e=some row)↔∃ l,(e,l)∈ps
theorem rows_ok (ps:List (S × S)):RowsOk ps (rowsOf ps):=by
  suffices h:∀ (qs ps:List (S × S)) rows,RowsOk ps rows→RowsOk (ps++qs) (qs.foldl addP rows) by
    have:=h ps [] [] ⟨by simp,by simp,by simp [getA],by simp [getA]⟩
    simpa [rowsOf] using this
  intro qs
  induction qs with
  | nil=>intro ps rows h; simpa using h
  | cons q qs ih =>
    intro ps rows h
    obtain ⟨e0,l0⟩:=q
    have step:RowsOk (ps++[(e0,l0)]) (addP rows (e0,l0)):=by
      have hrow:((((getA rows e0).getD []).map (·.1))).Nodup:=by
        cases g:getA rows e0 with
        | none=>simp
        | some row=>exact h.ndr e0 row ((getA_mem h.nd e0 row).mpr g)
      refine ⟨putA_nodup h.nd,fun e row hm=>?_,fun e l=>?_,fun e=>?_⟩
      · have hm':=(getA_mem (putA_nodup h.nd) e row).mp hm
        unfold addP at hm'
        rw [getA_putA] at hm'
        split at hm'
        · have:=Option.some.inj hm'
          rw [← this]
          exact putA_nodup hrow
        · exact h.ndr e row ((getA_mem h.nd e row).mpr hm')
      · unfold addP
        rw [getA_putA]
        by_cases he:e0=e
        · subst he
          rw [if_pos rfl]
          show getA (bump ((getA rows e0).getD []) l0) l=_
          unfold bump
          rw [getA_putA,h.val e0 l0]
          by_cases hl:l0=l
          · subst hl
            rw [if_pos rfl,List.count_append]
            have e1:List.count (e0,l0) [(e0,l0)]=1:=by simp
            rw [e1]
            by_cases hc:0 < List.count (e0,l0) ps
            · simp [hc]
            · have:List.count (e0,l0) ps=0:=by omega
              simp [this]
          · rw [if_neg hl,h.val e0 l,List.count_append]
            have e1:List.count (e0,l) [(e0,l0)]=0:=by
              simp [List.count_cons,hl]
            rw [e1,Nat.add_zero]
        · rw [if_neg he]
          rw [h.val e l,List.count_append]
          have e1:List.count (e,l) [(e0,l0)]=0:=by
            simp [List.count_cons,he]
          rw [e1,Nat.add_zero]
      · unfold addP
        rw [getA_putA]
        by_cases he:e0=e
        · subst he
          rw [if_pos rfl]
          exact ⟨fun _=>⟨l0,by simp⟩,fun _=>⟨_,rfl⟩⟩
        · rw [if_neg he,h.has e]
          constructor
          · rintro ⟨l,hl⟩; exact ⟨l,List.mem_append_left _ hl⟩
          · rintro ⟨l,hl⟩
            rcases List.mem_append.mp hl with z | z
            · exact ⟨l,z⟩
            · have:(e,l)=(e0,l0):=by simpa using z
              exact absurd (congrArg Prod.fst this).symm he
    have:=ih (ps++[(e0,l0)]) (addP rows (e0,l0)) step
    simpa using this
theorem s_irr (a:S):¬ a < a:=List.lt_irrefl a
theorem sum_counts {β:Type} [BEq β] [LawfulBEq β]:∀ (ps ks:List β),ks.Nodup→(∀ x∈ps,x∈ks)→(ks.map fun k=>(ps.count k:Int)).sum=(ps.length:Int)
  | [],ks,_,_=>by
    have:(ks.map fun k=>(([]:List β).count k:Int))=ks.map fun _=>(0:Int):=by simp
    rw [this]
    induction ks with
    | nil=>rfl
    | cons k r ih=>simp_all
  | x::ps,ks,nd,h=>by
    have ih:=sum_counts ps ks nd fun y hy=>h y (List.mem_cons_of_mem _ hy)
    have no:∀ (ks:List β),x ∉ ks→(ks.map fun k=>((x::ps).count k:Int)).sum=(ks.map fun k=>(ps.count k:Int)).sum:=by
      intro ks
      induction ks with
      | nil=>intro _; rfl
      | cons k r ih =>
        intro hx
        have hx1:¬ x=k:=fun e=>hx (e ▸ List.mem_cons_self ..)
        have hx2:x ∉ r:=fun e=>hx (List.mem_cons_of_mem _ e)
        simp only [List.map_cons,List.sum_cons,ih hx2,List.count_cons_of_ne hx1]
    have one:∀ (ks:List β),ks.Nodup→x∈ks→(ks.map fun k=>((x::ps).count k:Int)).sum=(ks.map fun k=>(ps.count k:Int)).sum+1:=by
      intro ks
      induction ks with
      | nil=>intro _ hx; cases hx
      | cons k r ih =>
        intro nd hx
        have hk:=(List.nodup_cons.mp nd).1
        by_cases e:x=k
        · subst e
          simp only [List.map_cons,List.sum_cons,no r hk,List.count_cons_self]
          omega
        · have hx':x∈r:=(List.mem_cons.mp hx).elim (fun z=>absurd z e) id
          simp only [List.map_cons,List.sum_cons,ih (List.nodup_cons.mp nd).2 hx',List.count_cons_of_ne e]
          omega
    rw [one ks nd (h x (List.mem_cons_self ..)),ih,List.length_cons]
    omega
theorem pairsB_append (o:Nat) (a b:List S):pairsB o (a++b)=pairsB o a++pairsB o b:=by
  unfold pairsB; rw [List.flatMap_append]
theorem pairsB_length (o:Nat) (a:List S):((pairsB o a).length:Int)=(a.map fun x=>(x.length:Int)+1).sum:=by
  induction a with
  | nil=>rfl
  | cons x r ih =>
    have e1:pairsB o (x::r)=pairs1 o x++pairsB o r:=rfl
    rw [e1,List.length_append,List.map_cons,List.sum_cons,← ih]
    simp [pairs1]
theorem endOf_length (t:S) (o:Nat):(endOf t o).length≤o:=by unfold endOf; rw [List.length_drop]; omega
end Kn
end
section
set_option autoImplicit false
namespace Kn
def gcdI (a b:Int):Int:=(Int.gcd a b:Int)
def low (u d:Int):Int × Int:=(u / gcdI u d,d / gcdI u d)
structure Fq (q:Int × Int):Prop where
  up:0≤q.1
  dn:0 < q.2
  co:Int.gcd q.1 q.2=1
theorem gcdI_pos {u d:Int} (hd:0 < d):0 < gcdI u d:=by
  have:0 < Int.gcd u d:=Int.gcd_pos_iff.mpr (.inr (by omega))
  unfold gcdI; omega
theorem gcdI_u (u d:Int):u=gcdI u d * (u / gcdI u d):=(Int.mul_ediv_cancel' (by unfold gcdI; exact Int.gcd_dvd_left ..)).symm
theorem gcdI_d (u d:Int):d=gcdI u d * (d / gcdI u d):=(Int.mul_ediv_cancel' (by unfold gcdI; exact Int.gcd_dvd_right ..)).symm
theorem low_cross {u d:Int} (hd:0 < d):(low u d).1 * d=u * (low u d).2:=by
  have h1:=gcdI_u u d
  have h2:=gcdI_d u d
  show u / gcdI u d * d=u * (d / gcdI u d)
  generalize gcdI u d=g at *
  generalize u / g=a at *
  generalize d / g=b at *
  rw [h1,h2,← Int.mul_assoc,Int.mul_comm a g]
theorem low_fq {u d:Int} (hu:0≤u) (hd:0 < d):Fq (low u d):=by
  have hg:=gcdI_pos (u:=u) hd
  refine ⟨Int.ediv_nonneg hu (Int.le_of_lt hg),?_,?_⟩
  · have h2:=gcdI_d u d
    show 0 < d / gcdI u d
    rcases Int.lt_trichotomy (d / gcdI u d) 0 with h | h | h
    · have:=Int.mul_neg_of_pos_of_neg hg h
      omega
    · rw [h,Int.mul_zero] at h2; omega
    · exact h
  · show Int.gcd (u / gcdI u d) (d / gcdI u d)=1
    unfold gcdI at *
    have hg':0 < Int.gcd u d:=by omega
    rw [Int.gcd_ediv (Int.gcd_dvd_left ..) (Int.gcd_dvd_right ..)]
    simp
    exact Nat.div_self hg'
theorem Fq.ext {p q:Int × Int} (a:Fq p) (b:Fq q) (h:p.1 * q.2=q.1 * p.2):p=q:=by
  obtain ⟨p1,p2⟩:=p
  obtain ⟨q1,q2⟩:=q
  obtain ⟨a1,a2,a3⟩:=a
  obtain ⟨b1,b2,b3⟩:=b
  dsimp only at *
  obtain ⟨x,rfl⟩:=Int.eq_ofNat_of_zero_le a1
  obtain ⟨y,rfl⟩:=Int.eq_ofNat_of_zero_le (Int.le_of_lt a2)
  obtain ⟨z,rfl⟩:=Int.eq_ofNat_of_zero_le b1
  obtain ⟨w,rfl⟩:=Int.eq_ofNat_of_zero_le (Int.le_of_lt b2)
  have h':x * w=z * y:=by exact_mod_cast h
  have a3':Nat.gcd x y=1:=by simpa [Int.gcd] using a3
  have b3':Nat.gcd z w=1:=by simpa [Int.gcd] using b3
  have hy:0 < y:=by omega
  have hw:0 < w:=by omega
  have d1:y ∣ w:=Nat.Coprime.dvd_of_dvd_mul_left (m:=x) (by rw [Nat.Coprime,Nat.gcd_comm]; exact a3') (by rw [h']; exact Nat.dvd_mul_left ..)
  have d2:w ∣ y:=Nat.Coprime.dvd_of_dvd_mul_left (m:=z) (by rw [Nat.Coprime,Nat.gcd_comm]; exact b3') (by rw [← h']; exact Nat.dvd_mul_left ..)
  have e:y=w:=Nat.dvd_antisymm d1 d2
  subst e
  have:x=z:=Nat.eq_of_mul_eq_mul_right hy h'
  rw [this]
theorem low_le {u d:Int} (hu:0≤u) (hd:0 < d):(low u d).2≤d∧(low u d).1≤u:=by
  have hg:=gcdI_pos (u:=u) hd
  exact ⟨Int.ediv_le_self _ (by omega),Int.ediv_le_self _ hu⟩
def tms (p q:Int × Int):Int × Int:=low (p.1 * q.1) (p.2 * q.2)
def lss (p q:Int × Int):Bool:=decide (p.1 * q.2 < q.1 * p.2)
theorem tms_fq {p q:Int × Int} (a:Fq p) (b:Fq q):Fq (tms p q):=low_fq (Int.mul_nonneg a.up b.up) (Int.mul_pos a.dn b.dn)
theorem fq01:Fq (0,1):=⟨by decide,by decide,by decide⟩
theorem fq11:Fq (1,1):=⟨by decide,by decide,by decide⟩
theorem low_zero {d:Int} (hd:0 < d):low 0 d=(0,1):=by
  refine Fq.ext (low_fq (Int.le_refl _) hd) fq01 ?_
  have:=low_cross (u:=0) hd
  rw [Int.zero_mul] at this
  have h0:(low 0 d).1=0:=by
    rcases Int.mul_eq_zero.mp this with h | h
    · exact h
    · omega
  rw [h0]; simp
theorem tms_zero_left {q:Int × Int} (b:Fq q):tms (0,1) q=(0,1):=by
  unfold tms
  have:((0:Int),(1:Int)).1 * q.1=0:=Int.zero_mul _
  rw [this]
  exact low_zero (Int.mul_pos (by decide) b.dn)
theorem tms_zero_right {p:Int × Int} (a:Fq p):tms p (0,1)=(0,1):=by
  unfold tms
  have:p.1 * ((0:Int),(1:Int)).1=0:=Int.mul_zero _
  rw [this]
  exact low_zero (Int.mul_pos a.dn (by decide))
theorem tms_pos {p q:Int × Int} (a:Fq p) (b:Fq q) (hp:0 < p.1) (hq:0 < q.1):0 < (tms p q).1:=by
  have f:=tms_fq a b
  have c:(tms p q).1 * (p.2 * q.2)=(p.1 * q.1) * (tms p q).2:=low_cross (Int.mul_pos a.dn b.dn)
  rcases Int.lt_or_eq_of_le f.up with h | h
  · exact h
  · rw [← h,Int.zero_mul] at c
    have h1:0 < p.1 * q.1:=Int.mul_pos hp hq
    have h2:0 < (p.1 * q.1) * (tms p q).2:=Int.mul_pos h1 f.dn
    omega
theorem low_pos {u d:Int} (hu:0 < u) (hd:0 < d):0 < (low u d).1:=by
  have f:=low_fq (Int.le_of_lt hu) hd
  have c:=low_cross (u:=u) hd
  rcases Int.lt_or_eq_of_le f.up with h | h
  · exact h
  · rw [← h,Int.zero_mul] at c
    have:=Int.mul_pos hu f.dn
    omega
theorem low_le1 {u d:Int} (hu:0≤u) (hd:0 < d) (h:u≤d):(low u d).1≤(low u d).2:=by
  have f:=low_fq hu hd
  have c:=low_cross (u:=u) hd
  by_cases hh:(low u d).1≤(low u d).2
  · exact hh
  · exfalso
    have h1:(low u d).2+1≤(low u d).1:=by omega
    have h2:((low u d).2+1) * d≤(low u d).1 * d:=Int.mul_le_mul_of_nonneg_right h1 (Int.le_of_lt hd)
    have h3:u * (low u d).2≤d * (low u d).2:=Int.mul_le_mul_of_nonneg_right h (Int.le_of_lt f.dn)
    rw [Int.add_mul,Int.one_mul,Int.mul_comm (low u d).2 d] at h2
    omega
theorem tms_le1 {p q:Int × Int} (a:Fq p) (b:Fq q) (hp:p.1≤p.2) (hq:q.1≤q.2):(tms p q).1≤(tms p q).2 :=
  low_le1 (Int.mul_nonneg a.up b.up) (Int.mul_pos a.dn b.dn) (Int.mul_le_mul hp hq b.up (Int.le_of_lt a.dn))
theorem lss_irr (p:Int × Int):lss p p=false:=by simp [lss]
end Kn
end
section
set_option autoImplicit false
namespace Kn
def tot (ps:List (S × S)) (e:S):Nat:=(ps.filter fun p=>p.1=e).length
def part (ps:List (S × S)) (e l:S):Int × Int:=if ps.count (e,l)=0 then (0,1) else low (ps.count (e,l):Int) (tot ps e:Int)
def shareG (ps:List (S × S)) (qs:List (S × S)):Int × Int:=qs.foldl (fun w p=>tms w (part ps p.1 p.2)) (1,1)
def shareOf (ps:List (S × S)) (o:Nat) (nm:S):Int × Int:=shareG ps (pairs1 o nm)
theorem count_le_tot (ps:List (S × S)) (e l:S):ps.count (e,l)≤tot ps e:=by
  unfold tot
  rw [← List.count_filter (l:=ps) (p:=fun p=>decide (p.1=e)) (a:=(e,l)) (by simp)]
  exact List.count_le_length
theorem part_fq (ps:List (S × S)) (e l:S):Fq (part ps e l):=by
  unfold part
  split
  · exact fq01
  · have:=count_le_tot ps e l
    exact low_fq (by omega) (by omega)
theorem part_le1 (ps:List (S × S)) (e l:S):(part ps e l).1≤(part ps e l).2:=by
  unfold part
  split
  · decide
  · have:=count_le_tot ps e l
    exact low_le1 (by omega) (by omega) (by omega)
theorem part_pos {ps:List (S × S)}{e l:S} (h:(e,l)∈ps):0 < (part ps e l).1:=by
  have hc:=List.count_pos_iff.mpr h
  have:=count_le_tot ps e l
  unfold part
  rw [if_neg (by omega)]
  exact low_pos (by omega) (by omega)
theorem part_none {ps:List (S × S)}{e l:S} (h:(e,l) ∉ ps):part ps e l=(0,1):=by
  unfold part
  rw [if_pos (List.count_eq_zero.mpr h)]
theorem part_dn {ps:List (S × S)} (e l:S) (h:1≤ps.length):(part ps e l).2≤(ps.length:Int):=by
  unfold part
  split
  · show (1:Int)≤_; omega
  · have h1:=count_le_tot ps e l
    have h2:tot ps e≤ps.length:=List.length_filter_le _ _
    have:=(low_le (u:=(ps.count (e,l):Int)) (d:=(tot ps e:Int)) (by omega) (by omega)).1
    omega
theorem foldG_fq (ps:List (S × S)):∀ (qs:List (S × S)) (w:Int × Int),Fq w→Fq (qs.foldl (fun w p=>tms w (part ps p.1 p.2)) w)
  | [],w,h=>h
  | q::qs,w,h=>foldG_fq ps qs _ (tms_fq h (part_fq ps q.1 q.2))
theorem foldG_le1 (ps:List (S × S)):∀ (qs:List (S × S)) (w:Int × Int),Fq w→w.1≤w.2→(qs.foldl (fun w p=>tms w (part ps p.1 p.2)) w).1≤(qs.foldl (fun w p=>tms w (part ps p.1 p.2)) w).2
  | [],w,_,h=>h
  | q::qs,w,f,h=>foldG_le1 ps qs _ (tms_fq f (part_fq ps q.1 q.2)) (tms_le1 f (part_fq ps q.1 q.2) h (part_le1 ps q.1 q.2))
theorem foldG_pos (ps:List (S × S)):∀ (qs:List (S × S)) (w:Int × Int),Fq w→0 < w.1→(∀ q∈qs,q∈ps)→0 < (qs.foldl (fun w p=>tms w (part ps p.1 p.2)) w).1
  | [],w,_,h,_=>h
  | q::qs,w,f,h,hq=>foldG_pos ps qs _ (tms_fq f (part_fq ps q.1 q.2)) (tms_pos f (part_fq ps q.1 q.2) h (part_pos (hq q (List.mem_cons_self ..)))) fun r hr=>hq r (List.mem_cons_of_mem _ hr)
theorem foldG_zero (ps:List (S × S)):∀ (qs:List (S × S)),qs.foldl (fun w p=>tms w (part ps p.1 p.2)) (0,1)=(0,1)
  | []=>rfl
  | q::qs=>by
    rw [List.foldl_cons,tms_zero_left (part_fq ps q.1 q.2)]
    exact foldG_zero ps qs
theorem foldG_dn {ps:List (S × S)} (h1:1≤ps.length):∀ (qs:List (S × S)) (w:Int × Int) (k:Nat),Fq w→w.2≤(ps.length:Int) ^ k→(qs.foldl (fun w p=>tms w (part ps p.1 p.2)) w).2≤(ps.length:Int) ^ (k+qs.length)
  | [],w,k,_,h=>h
  | q::qs,w,k,f,h=>by
    have g:=part_fq ps q.1 q.2
    have e:k+(q::qs).length=(k+1)+qs.length:=by simp; omega
    rw [e,List.foldl_cons]
    refine foldG_dn h1 qs _ (k+1) (tms_fq f g) ?_
    have a1:(tms w (part ps q.1 q.2)).2≤w.2 * (part ps q.1 q.2).2:=(low_le (Int.mul_nonneg f.up g.up) (Int.mul_pos f.dn g.dn)).1
    have a2:w.2 * (part ps q.1 q.2).2≤(ps.length:Int) ^ k * (ps.length:Int):=Int.mul_le_mul h (part_dn q.1 q.2 h1) (Int.le_of_lt g.dn) (by have:=f.dn; omega)
    rw [Int.pow_succ]
    omega
theorem share_fq (ps:List (S × S)) (o:Nat) (nm:S):Fq (shareOf ps o nm):=foldG_fq ps _ _ fq11
theorem share_le1 (ps:List (S × S)) (o:Nat) (nm:S):(shareOf ps o nm).1≤(shareOf ps o nm).2:=foldG_le1 ps _ _ fq11 (by decide)
theorem pairs1_head (o:Nat) (nm:S):∃ r,pairs1 o nm=(([]:S),nm.take 1)::r:=by
  unfold pairs1
  rw [List.range_succ_eq_map,List.map_cons]
  have e:(endOf (List.take 0 nm) o,List.take 1 (List.drop 0 nm))=(([]:S),nm.take 1):=by simp [endOf]
  rw [e]
  exact ⟨_,rfl⟩
theorem lss_zero {p:Int × Int}:lss (0,1) p=decide (0 < p.1):=by
  simp only [lss]
  congr 1
  simp
end Kn
end
section
namespace Kn
open PySem L2
def Cal (P:Program) (w:World) (K:PySem.W.Frag) (mg:Str→Option Value) (base:Heap) (k:Nat) (x:Str) (ps:List Str) (sp:Sp):Prop :=
  ∃ (f:Addr) (fd:FuncData),FnOk P w K mg base CX0 k f fd ps sp∧mg x=some (.ref f)∧PySem.W.keepIn K (.ref f)=true∧Binds K fd ps []
theorem pe_cal {X:Cx}{k:Nat}{x:Str}{ps:List Str}{sp:Sp}{p pos:Pos}{e:Expr}{es:List Expr}{t:TA} (C:Cal X.prog X.w X.K X.mg X.base k x ps sp) (hr:Room k X.A) (hg:Gl X x) (ha:PA X (e::es) t)
    (hs:starEach (e::es) X.env=(false,eval e X.env)::starEach es X.env:=by rfl) (hplain:(backTo pos (starEach es X.env)).any (·.1)=false:=by rfl)
    (hdb:(x == ("__debug__" : Str))=false:=by decide):PE X (.Call (.Name x p) (e::es) [] pos) (tCall sp [] E0 t):=by
  obtain ⟨f,fd,G,hm,kp,b⟩:=C
  exact pe_call G hr hg hm kp b .nil pass0 ha hdb hs hplain
abbrev tx (x:S):Str:=⟨x.toArray⟩
abbrev sv (x:S):V:=.str (tx x)
theorem tx_cps (x:S):(tx x).cps.toList=x:=by simp [tx]
theorem tx_len (x:S):(tx x).length=x.length:=by simp [tx,Str.length]
theorem range_item {n i:Nat}{x:V} (h:((List.range n).map fun (i:Nat)=>V.int (0+(i:Int)))[i]?=some x):i < n∧x=.int i:=by
  have hi:i < n:=by
    have:=(List.getElem?_eq_some_iff.mp h).1
    simpa using this
  refine ⟨hi,?_⟩
  rw [List.getElem?_map,List.getElem?_range hi] at h
  have:=Option.some.inj h
  rw [← this]
  show V.int (0+(i:Int))=V.int i
  rw [Int.zero_add]
theorem ys1 {ys:St} (h:ys.length=1):∃ y,ys=[y]:=by
  match ys,h with
  | [y],_=>exact ⟨y,rfl⟩
theorem ys2 {ys:St} (h:ys.length=2):∃ y z,ys=[y,z]:=by
  match ys,h with
  | [y,z],_=>exact ⟨y,z,rfl⟩
structure Blt (mg:Str→Option Value):Prop where
  len:mg "len" = none
  range:mg "range" = none
  all:mg "all" = none
  isinstance:mg "isinstance" = none
  str:mg "str" = none
  tuple:mg "tuple" = none
  int:mg "int" = none
  bool:mg "bool" = none
  sorted:mg "sorted" = none
  sum:mg "sum" = none
  min:mg "min" = none
section
variable {P:Program}{w:World}{K:PySem.W.Frag}{mg:Str→Option Value}{base:Heap}
theorem cut_end (t:S) (o:Nat) (ho:1≤o):cutS (tx t) (some (-(o:Int))) none=tx (endOf t o):=by
  unfold cutS
  rw [tx_len,tx_cps]
  have e1:HT.sIx t.length 0 (some (-(o:Int)))=t.length - o:=by
    show (if -(o:Int) < 0 then (-(o:Int)+(t.length:Int)).toNat else _)=_
    rw [if_pos (by omega)]; omega
  have e2:HT.sIx t.length t.length none=t.length:=rfl
  rw [e1,e2]
  unfold endOf
  rw [List.take_of_length_le (by rw [List.length_drop]; omega)]
theorem cut_to (t:S) (p:Nat):cutS (tx t) none (some (p:Int))=tx (t.take p):=by
  unfold cutS
  rw [tx_len,tx_cps,HT.sIx_nat]
  show tx ((t.drop 0).take (min p t.length - 0))=_
  rw [List.drop_zero,Nat.sub_zero,← List.take_eq_take_min]
theorem cut_one (t:S) (p:Nat):cutS (tx t) (some (p:Int)) (some ((p:Int)+1))=tx ((t.drop p).take 1):=by
  unfold cutS
  rw [tx_len,tx_cps,HT.sIx_nat,show ((p:Int)+1)=((p+1:Nat):Int) from rfl,HT.sIx_nat]
  congr 1
  by_cases h:p < t.length
  · have e1:min p t.length=p:=by omega
    have e2:min (p+1) t.length - p=1:=by omega
    rw [e1,e2]
  · have e1:min p t.length=t.length:=by omega
    rw [e1,List.drop_of_length_le (Nat.le_refl _),List.drop_of_length_le (by omega)]
    simp
def spEnd:Sp:=fun vs H Q _=>∃ (t:S) (o:Nat),vs=[sv t,.int o]∧1≤o∧t.length≤64∧Q (sv (endOf t o)) H
abbrev sEnd:Stmt:=top 21
theorem scEnd:FnScope ["text", "order"] ["text", "order"] (defScope sEnd):=⟨rfl,rfl,rfl,by decide +kernel,rfl,by decide +kernel,by decide +kernel⟩
theorem ok_end {f:Addr}{fd:FuncData} (F:Fun K "end_of" "end_of" sEnd f fd):FnOk P w K mg base CX0 1 f fd ["text", "order"] spEnd:=by
  refine F.ok scEnd (fun vs H Q E h=>?_) (fun cdv A outer s H vs Q E hr h=>?_)
  · obtain ⟨t,o,rfl,_⟩:=h; rfl
  · obtain ⟨t,o,rfl,ho,hl,k⟩:=h
    refine ⟨_,pss_one (ps_ret (pe_sliceS (pv 0) (po_some (pe_un un_neg (pv 1))) po_none)),?_⟩
    refine ⟨_,rfl,_,rfl,_,rfl,_,rfl,_,rfl,?_,?_⟩
    · rw [tx_len,sizeLine_eq]; omega
    · rw [cut_end t o ho]; exact k
def pr (o:Nat) (t:S) (p:Nat):S × S:=(endOf (t.take p) o,(t.drop p).take 1)
def elD (p:S × S):PyData:=.tuple [.str (tx p.1),.str (tx p.2)]
def spEnds (K:PySem.W.Frag):Sp:=fun vs H Q _=>∃ (t:S) (o:Nat),vs=[sv t,.int o]∧1≤o∧t.length≤64∧∀ a xs H',Same H H'→H a=none→H' a=some (.lst xs)→Reps K H' ((pairs1 o t).map elD) xs→Q (.ref a) H'
abbrev sEnds:Stmt:=top 22
theorem scEnds:FnScope ["name", "order"] ["name", "order"] (defScope sEnds):=⟨rfl,rfl,rfl,by decide +kernel,rfl,by decide +kernel,by decide +kernel⟩
theorem ndEnds:(["name", "order", "place"]:List Str).Nodup:=by decide +kernel
theorem ok_ends {f:Addr}{fd:FuncData} (F:Fun K "ends_and_letters" "ends_and_letters" sEnds f fd) (B:Blt mg) (cEnd:Cal P w K mg base 1 "end_of" ["text", "order"] spEnd):FnOk P w K mg base CX0 2 f fd ["name", "order"] (spEnds K):=by
  refine F.ok scEnds (fun vs H Q E h=>?_) (fun cdv A outer s H vs Q E hr h=>?_)
  · obtain ⟨t,o,rfl,_⟩:=h; rfl
  · obtain ⟨t,o,rfl,ho,hl,k⟩:=h
    refine ⟨_,pss_one (ps_ret (pe_comp (N:=["name", "order", "place"]) (caps:=[0,1]) rfl (compScope_of (by kernel_rfl))
      (pi_range1 rfl B.range (pa_cons (pe_op op_add (pe_callB call_len_str (by rfl) B.len PySem.boot_len (pa_cons (pv 0) pa_nil)) pe_int) pa_nil))
      (fun cl C s H ex=>pg_name (i:=2) ndEnds rfl (Or.inl rfl))
      (fun cl C s H ex=>pf_nil)
      (fun cl C s H ex=>pe_tup (pa_cons (pe_cal cEnd hr rfl (pa_cons (pe_sliceS (pv 0) po_none (po_some (pv 2))) (pa_cons (pv 1) pa_nil)))
        (pa_cons (pe_sliceS (pv 0) (po_some (pv 2)) (po_some (pe_op op_add (pv 2) pe_int))) pa_nil))))),?_⟩
    refine ⟨_,rfl,_,rfl,?_,_,_,rfl,rfl,_,rfl,?_,?_,?_⟩
    · rw [tx_len,sizeLine_eq]; omega
    · rw [tx_len]; omega
    · rw [tx_len]; omega
    have hn:((tx t).length:Int)+1=((t.length+1:Nat):Int):=by rw [tx_len]; rfl
    have hnn:(((tx t).length:Int)+1).toNat=t.length+1:=by rw [hn]; rfl
    refine comp_known0 (known_range 0 _) [some (sv t),some (.int o)] 1 (by rw [List.length_map,List.length_range,hnn]; omega) (fun i acc H'=>Same H H'∧acc.length=i∧Reps K H' (((List.range i).map (pr o t)).map elD) acc)
      ⟨Same.refl H,rfl,rfl⟩ (fun i acc H' _ h=>⟨trivial,Nat.le_of_eq h.2.1⟩) ?_ ?_
    · rintro i x acc H' ys Nx hN hx hy ⟨sm,hal,rp⟩
      obtain ⟨y,rfl⟩:=ys1 hy
      rw [hnn] at hx
      obtain ⟨hi,rfl⟩:=range_item hx
      refine ⟨_,rfl,_,rfl,_,rfl,_,rfl,(by rw [tx_len,sizeLine_eq]; omega),_,rfl,t.take i,o,(by rw [cut_to]; rfl),ho,(by rw [List.length_take]; omega),?_⟩
      refine ⟨_,rfl,_,rfl,_,rfl,_,rfl,_,_,rfl,rfl,_,rfl,_,rfl,(by rw [tx_len,sizeLine_eq]; omega),?_⟩
      refine ⟨by show 2≤sizeLine; decide,fun p hp=>hN _ _ [some (.int i)] rfl ⟨sm.upd_new (sm.free hp),by rw [List.length_append,hal]; rfl,?_⟩⟩
      rw [List.range_succ,List.map_append,List.map_append]
      refine Reps.append (Reps.same (Same.upd1 hp) _ _ rp) (Reps.one ⟨p,_,rfl,.of upd_same,?_⟩)
      rw [cut_one]
      exact ⟨_,_,rfl,rfl,_,_,rfl,rfl,rfl⟩
    · rintro acc H' ⟨sm,hal,rp⟩ D hD
      refine k D acc _ (sm.upd_new (sm.free hD)) (sm.free hD) upd_same (Reps.same (Same.upd1 hD) _ _ ?_)
      rw [List.length_map,List.length_range,hnn] at rp
      exact rp
def isNm (x:S):Prop:=1≤x.length∧x.length≤8∧∀ c∈x,97≤c∧c≤122
def letters:Str:=⟨#[97,98,99,100,101,102,103,104,105,106,107,108,109,110,111,112,113,114,115,116,117,118,119,120,121,122]⟩
theorem in_letters {c:Nat} (h:97≤c∧c≤122):(Builtin.Str.occurrences letters ⟨#[c]⟩ 0 letters.length 1).isEmpty=false:=by
  have all:∀ d:_root_.Fin 26,(Builtin.Str.occurrences letters ⟨#[97+d.val]⟩ 0 letters.length 1).isEmpty=false:=by decide +kernel
  have:=all ⟨c - 97,by omega⟩
  have e:97+(c - 97)=c:=by omega
  simpa [e] using this
structure Cst (K:PySem.W.Frag) (mg:Str→Option Value):Prop where
  letters:∃ t,mg "LETTERS" = some (.str letters t)
  ml:∃ t,mg "MOST_LETTERS" = some (.int 8 t)
  mn:∃ t,mg "MOST_NAMES" = some (.int 8 t)
  mo:∃ t,mg "MOST_ORDER" = some (.int 3 t)
  ib:PySem.W.kitOne K (.type "int") (.type "bool")=some false
def spIsName:Sp:=fun vs H Q _=>∃ x:S,vs=[sv x]∧isNm x∧∀ H',Same H H'→Q (.bl true) H'
abbrev sIsName:Stmt:=top 11
theorem scIsName:FnScope ["thing"] ["thing"] (defScope sIsName):=⟨rfl,rfl,rfl,by decide +kernel,rfl,by decide +kernel,by decide +kernel⟩
theorem nd1:(["letter"]:List Str).Nodup:=by decide +kernel
theorem ok_isname {f:Addr}{fd:FuncData} (F:Fun K "is_name" "is_name" sIsName f fd) (B:Blt mg) (C:Cst K mg):FnOk P w K mg base CX0 1 f fd ["thing"] spIsName:=by
  obtain ⟨tl,hl⟩:=C.letters
  obtain ⟨t8,h8⟩:=C.ml
  refine F.ok scIsName (fun vs H Q E h=>?_) (fun cdv A outer s H vs Q E hr h=>?_)
  · obtain ⟨t,rfl,_⟩:=h; rfl
  · obtain ⟨x,rfl,⟨n1,n2,n3⟩,k⟩:=h
    refine ⟨_,pss_cons (ps_if (PW.pt (pw_or (pt_not (pt_val (pe_callB call_isinst (by rfl) B.isinstance PyProof.Rows.boot_isinstance (pa_cons (pv 0) (pa_cons (pe_bltn (v:=.ty "str") (by rfl) B.str PyProof.Rows.boot_str rfl) pa_nil)))))
        (pw_or1 (pt_not (pt_chain op_le op_le pe_int (pe_callB call_len_str (by rfl) B.len PySem.boot_len (pa_cons (pv 0) pa_nil)) (pe_glob (v:=.int 8) (by rfl) h8 ⟨_,rfl⟩))))))
        (pss_one (ps_ret pe_bl)) pss_nil)
      (pss_one (ps_ret (pe_callB (call_all rfl) (by rfl) B.all PyProof.Rows.boot_all (pa_cons (pe_comp (N:=["letter"]) (caps:=[]) rfl (compScope_of (by kernel_rfl)) (pi_str (pv 0))
        (fun cl C s H ex=>pg_name (i:=0) nd1 rfl (Or.inl rfl)) (fun cl C s H ex=>pf_nil)
        (fun cl C s H ex=>pe_cmpR op_in_str (pv 0) (pe_glob (v:=.str letters) (by rfl) hl ⟨_,rfl⟩) (by with_unfolding_all rfl))) pa_nil)))),?_⟩
    refine ⟨_,rfl,_,_,_,true,rfl,.str _,(by rfl),_,rfl,?_⟩
    refine iteF ?_
    refine ⟨_,rfl,_,rfl,(by rw [tx_len,sizeLine_eq]; omega),_,_,rfl,rfl,_,rfl,?_⟩
    refine iteD (by rw [tx_len]; omega) ⟨_,_,rfl,rfl,_,rfl,iteNS (by rw [tx_len]; omega) ?_⟩
    refine ⟨_,rfl,_,rfl,?_⟩
    refine comp_known0 (known_str (tx x)) [] 1 (by rw [List.length_map,tx_cps]; omega) (fun i acc H'=>Same H H'∧acc=List.replicate i (.bl true)) ⟨Same.refl H,rfl⟩ (fun i acc H' _ h=>⟨trivial,by rw [h.2]; simp⟩) ?_ ?_
    · rintro i y acc H' ys Nx hN hx hy ⟨sm,rfl⟩
      obtain ⟨y',rfl⟩:=ys1 hy
      rw [List.getElem?_map,tx_cps] at hx
      cases e:x[i]? with
      | none=>rw [e] at hx; cases hx
      | some c =>
        rw [e] at hx
        have hy2:y=.str ⟨#[c]⟩:=(Option.some.inj hx).symm
        subst hy2
        refine ⟨_,rfl,_,_,rfl,rfl,?_⟩
        rw [in_letters (n3 c (List.mem_of_getElem? e))]
        exact hN _ _ [some (.str ⟨#[c]⟩)] rfl ⟨sm,by rw [List.replicate_succ']; rfl⟩
    · rintro acc H' ⟨sm,rfl⟩ D hD
      refine ⟨D,List.replicate _ true,rfl,.of (by rw [upd_same,List.map_replicate]),?_⟩
      have:(List.replicate ((tx x).cps.toList.map fun c=>V.str ⟨#[c]⟩).length true).all id=true:=by simp
      rw [this]
      exact k _ (sm.upd_new (sm.free hD))
def bkV (bk:List S):List V:=bk.map sv
structure isBk (bk:List S):Prop where
  lo:1≤bk.length
  hi:bk.length≤8
  nm:∀ x∈bk,isNm x
def spIsBook:Sp:=fun vs H Q _=>∃ (a:Addr) (bk:List S),vs=[.ref a]∧H a=some (.tup (bkV bk))∧isBk bk∧∀ H',Same H H'→Q (.bl true) H'
abbrev sIsBook:Stmt:=top 12
theorem scIsBook:FnScope ["thing"] ["thing"] (defScope sIsBook):=⟨rfl,rfl,rfl,by decide +kernel,rfl,by decide +kernel,by decide +kernel⟩
theorem nd2:(["name"]:List Str).Nodup:=by decide +kernel
theorem ok_isbook {f:Addr}{fd:FuncData} (F:Fun K "is_book" "is_book" sIsBook f fd) (B:Blt mg) (C:Cst K mg) (cName:Cal P w K mg base 1 "is_name" ["thing"] spIsName):FnOk P w K mg base CX0 2 f fd ["thing"] spIsBook:=by
  obtain ⟨t8,h8⟩:=C.mn
  refine F.ok scIsBook (fun vs H Q E h=>?_) (fun cdv A outer s H vs Q E hr h=>?_)
  · obtain ⟨a,bk,rfl,_⟩:=h; rfl
  · obtain ⟨a,bk,rfl,ha,⟨n1,n2,n3⟩,k⟩:=h
    refine ⟨_,pss_cons (ps_if (PW.pt (pw_or (pt_not (pt_val (pe_callB call_isinst (by rfl) B.isinstance PyProof.Rows.boot_isinstance (pa_cons (pv 0) (pa_cons (pe_bltn (v:=.ty "tuple") (by rfl) B.tuple PyProof.Rows.boot_tuple rfl) pa_nil)))))
        (pw_or1 (pt_not (pt_chain op_le op_le pe_int (pe_callB call_len_seq (by rfl) B.len PySem.boot_len (pa_cons (pv 0) pa_nil)) (pe_glob (v:=.int 8) (by rfl) h8 ⟨_,rfl⟩))))))
        (pss_one (ps_ret pe_bl)) pss_nil)
      (pss_one (ps_ret (pe_callB (call_all rfl) (by rfl) B.all PyProof.Rows.boot_all (pa_cons (pe_comp (N:=["name"]) (caps:=[]) rfl (compScope_of (by kernel_rfl)) (pi_tup (pv 0))
        (fun cl C s H ex=>pg_name (i:=0) nd2 rfl (Or.inl rfl)) (fun cl C s H ex=>pf_nil)
        (fun cl C s H ex=>pe_cal cName hr rfl (pa_cons (pv 0) pa_nil))) pa_nil)))),?_⟩
    refine ⟨_,rfl,_,_,_,true,rfl,.tup ha,(by rfl),_,rfl,?_⟩
    refine iteF ?_
    refine ⟨_,rfl,_,_,rfl,.inr (.of ha),_,_,rfl,rfl,_,rfl,?_⟩
    have hl:(bkV bk).length=bk.length:=by simp [bkV]
    refine iteD (by rw [hl]; omega) ⟨_,_,rfl,rfl,_,rfl,iteNS (by rw [hl]; omega) ?_⟩
    refine ⟨_,rfl,_,rfl,⟨_,.of ha⟩,?_⟩
    refine comp_known0 (known_tup _ a (bkV bk)) [] 1 (by rw [hl]; omega) (fun i acc H'=>Same H H'∧acc=List.replicate i (.bl true)) ⟨Same.refl H,rfl⟩ (fun i acc H' _ h=>⟨.of (h.1 _ _ ha),by rw [h.2]; simp⟩) ?_ ?_
    · rintro i y acc H' ys Nx hN hx hy ⟨sm,rfl⟩
      obtain ⟨y',rfl⟩:=ys1 hy
      rw [bkV,List.getElem?_map] at hx
      cases e:bk[i]? with
      | none=>rw [e] at hx; cases hx
      | some c =>
        rw [e] at hx
        have hy2:y=sv c:=(Option.some.inj hx).symm
        subst hy2
        exact ⟨_,rfl,c,rfl,n3 c (List.mem_of_getElem? e),fun H5 sm5=>hN _ _ [some (sv c)] rfl ⟨sm.trans sm5,by rw [List.replicate_succ']⟩⟩
    · rintro acc H' ⟨sm,rfl⟩ D hD
      refine ⟨D,List.replicate _ true,rfl,.of (by rw [upd_same,List.map_replicate]),?_⟩
      have:(List.replicate (bkV bk).length true).all id=true:=by simp
      rw [this]
      exact k _ (sm.upd_new (sm.free hD))
def spIsWhole:Sp:=fun vs H Q _=>∃ o a b:Nat,vs=[.int o,.int a,.int b]∧a≤o∧o≤b∧Q (.bl true) H
abbrev sIsWhole:Stmt:=top 13
theorem scIsWhole:FnScope ["thing", "least", "most"] ["thing", "least", "most"] (defScope sIsWhole):=⟨rfl,rfl,rfl,by decide +kernel,rfl,by decide +kernel,by decide +kernel⟩
theorem ok_iswhole {f:Addr}{fd:FuncData} (F:Fun K "is_whole" "is_whole" sIsWhole f fd) (B:Blt mg) (C:Cst K mg):FnOk P w K mg base CX0 1 f fd ["thing", "least", "most"] spIsWhole:=by
  refine F.ok scIsWhole (fun vs H Q E h=>?_) (fun cdv A outer s H vs Q E hr h=>?_)
  · obtain ⟨o,a,b,rfl,_⟩:=h; rfl
  · obtain ⟨o,a,b,rfl,n1,n2,k⟩:=h
    refine ⟨_,pss_cons (ps_if (PW.pt (pw_or (pt_not (pt_val (pe_callB call_isinst (by rfl) B.isinstance PyProof.Rows.boot_isinstance (pa_cons (pv 0) (pa_cons (pe_bltn (v:=.ty "int") (by rfl) B.int PyProof.Rows.boot_int rfl) pa_nil)))))
        (pw_or1 (pt_val (pe_callB call_isinst (by rfl) B.isinstance PyProof.Rows.boot_isinstance (pa_cons (pv 0) (pa_cons (pe_bltn (v:=.ty "bool") (by rfl) B.bool PyProof.Rows.boot_bool rfl) pa_nil)))))))
        (pss_one (ps_ret pe_bl)) pss_nil)
      (pss_one (ps_ret (pe_chain op_le op_le (pv 1) (pv 0) (pv 2)))),?_⟩
    refine ⟨_,rfl,_,_,_,true,rfl,.int _,(by rfl),_,rfl,?_⟩
    refine iteF ?_
    refine ⟨_,rfl,_,_,_,false,rfl,.int _,C.ib,_,rfl,?_⟩
    refine iteF ?_
    refine ⟨_,rfl,_,rfl,_,_,rfl,rfl,_,rfl,?_⟩
    refine iteD (by omega) ⟨_,rfl,_,_,rfl,rfl,?_⟩
    have e:decide ((o:Int)≤b)=true:=decide_eq_true (by omega)
    show Q (.bl (decide ((o:Int)≤b))) H
    rw [e]
    exact k
def spIsOrder:Sp:=fun vs H Q _=>∃ o:Nat,vs=[.int o]∧1≤o∧o≤3∧Q (.bl true) H
abbrev sIsOrder:Stmt:=top 14
theorem scIsOrder:FnScope ["thing"] ["thing"] (defScope sIsOrder):=⟨rfl,rfl,rfl,by decide +kernel,rfl,by decide +kernel,by decide +kernel⟩
theorem ok_isorder {f:Addr}{fd:FuncData} (F:Fun K "is_order" "is_order" sIsOrder f fd) (C:Cst K mg) (cW:Cal P w K mg base 1 "is_whole" ["thing", "least", "most"] spIsWhole):FnOk P w K mg base CX0 2 f fd ["thing"] spIsOrder:=by
  obtain ⟨t3,h3⟩:=C.mo
  refine F.ok scIsOrder (fun vs H Q E h=>?_) (fun cdv A outer s H vs Q E hr h=>?_)
  · obtain ⟨o,rfl,_⟩:=h; rfl
  · obtain ⟨o,rfl,n1,n2,k⟩:=h
    refine ⟨_,pss_one (ps_ret (pe_cal cW hr rfl (pa_cons (pv 0) (pa_cons pe_int (pa_cons (pe_glob (v:=.int 3) (by rfl) h3 ⟨_,rfl⟩) pa_nil))))),?_⟩
    exact ⟨_,rfl,o,1,3,rfl,n1,n2,k⟩
def spNeedBook:Sp:=fun vs H Q _=>∃ (a:Addr) (bk:List S),vs=[.ref a]∧H a=some (.tup (bkV bk))∧isBk bk∧∀ H',Same H H'→Q .non H'
abbrev sNeedBook:Stmt:=top 16
theorem scNeedBook:FnScope ["thing"] ["thing"] (defScope sNeedBook):=⟨rfl,rfl,rfl,by decide +kernel,rfl,by decide +kernel,by decide +kernel⟩
theorem ok_needbook {f:Addr}{fd:FuncData} (F:Fun K "need_book" "need_book" sNeedBook f fd) (c1:Cal P w K mg base 2 "is_book" ["thing"] spIsBook):FnOk P w K mg base CX0 3 f fd ["thing"] spNeedBook:=by
  refine F.ok scNeedBook (fun vs H Q E h=>?_) (fun cdv A outer s H vs Q E hr h=>?_)
  · obtain ⟨a,bk,rfl,_⟩:=h; rfl
  · obtain ⟨a,bk,rfl,ha,hb,k⟩:=h
    refine ⟨_,pss_one (ps_if (pt_not (pt_val (pe_cal c1 hr rfl (pa_cons (pv 0) pa_nil)))) (pss_one ps_never) pss_nil),?_⟩
    exact ⟨_,rfl,a,bk,rfl,ha,hb,fun H' sm=>⟨true,rfl,iteF (k H' sm)⟩⟩
def spNeedOrder:Sp:=fun vs H Q _=>∃ o:Nat,vs=[.int o]∧1≤o∧o≤3∧Q .non H
abbrev sNeedOrder:Stmt:=top 18
theorem scNeedOrder:FnScope ["thing"] ["thing"] (defScope sNeedOrder):=⟨rfl,rfl,rfl,by decide +kernel,rfl,by decide +kernel,by decide +kernel⟩
theorem ok_needorder {f:Addr}{fd:FuncData} (F:Fun K "need_order" "need_order" sNeedOrder f fd) (c1:Cal P w K mg base 2 "is_order" ["thing"] spIsOrder):FnOk P w K mg base CX0 3 f fd ["thing"] spNeedOrder:=by
  refine F.ok scNeedOrder (fun vs H Q E h=>?_) (fun cdv A outer s H vs Q E hr h=>?_)
  · obtain ⟨o,rfl,_⟩:=h; rfl
  · obtain ⟨o,rfl,n1,n2,k⟩:=h
    refine ⟨_,pss_one (ps_if (pt_not (pt_val (pe_cal c1 hr rfl (pa_cons (pv 0) pa_nil)))) (pss_one ps_never) pss_nil),?_⟩
    exact ⟨_,rfl,o,rfl,n1,n2,true,rfl,iteF k⟩
def spNeedName:Sp:=fun vs H Q _=>∃ x:S,vs=[sv x]∧isNm x∧∀ H',Same H H'→Q .non H'
abbrev sNeedName:Stmt:=top 20
theorem scNeedName:FnScope ["thing"] ["thing"] (defScope sNeedName):=⟨rfl,rfl,rfl,by decide +kernel,rfl,by decide +kernel,by decide +kernel⟩
theorem ok_needname {f:Addr}{fd:FuncData} (F:Fun K "need_name" "need_name" sNeedName f fd) (c1:Cal P w K mg base 1 "is_name" ["thing"] spIsName):FnOk P w K mg base CX0 2 f fd ["thing"] spNeedName:=by
  refine F.ok scNeedName (fun vs H Q E h=>?_) (fun cdv A outer s H vs Q E hr h=>?_)
  · obtain ⟨x,rfl,_⟩:=h; rfl
  · obtain ⟨x,rfl,hx,k⟩:=h
    refine ⟨_,pss_one (ps_if (pt_not (pt_val (pe_cal c1 hr rfl (pa_cons (pv 0) pa_nil)))) (pss_one ps_never) pss_nil),?_⟩
    exact ⟨_,rfl,x,rfl,hx,fun H' sm=>⟨true,rfl,iteF (k H' sm)⟩⟩
end
end Kn
end
section
namespace Kn
open PySem L2
theorem tx_inj {a b:S} (h:tx a=tx b):a=b:=by
  have:=congrArg (fun z:Str=>z.cps.toList) h
  simpa [tx] using this
section
variable {α:Type}
def encD (f:α→V) (l:List (S × α)):List (Key × V):=encK (l.map fun p=>(tx p.1,f p.2))
theorem encD_cons (f:α→V) (p:S × α) (l:List (S × α)):encD f (p::l)=((Sum.inr (tx p.1):Key),f p.2)::encD f l:=rfl
theorem encD_len (f:α→V) (l:List (S × α)):(encD f l).length=l.length:=by simp [encD,encK]
theorem key_eq {a b:S}:((Sum.inr (tx a):Key)=Sum.inr (tx b))↔a=b:=⟨fun h=>tx_inj (Sum.inr.inj h),fun h=>by rw [h]⟩
theorem val_enc (f:α→V) (l:List (S × α)) (k:S):valV (encD f l) (Sum.inr (tx k))=(getA l k).map f:=by
  induction l with
  | nil=>rfl
  | cons p r ih =>
    rw [encD_cons]
    by_cases e:p.1=k
    · rw [valV_pos (key_eq.mpr e)]
      obtain ⟨a,b⟩:=p
      have e':a=k:=e
      subst e'
      simp [getA]
    · rw [valV_neg (fun z=>e (key_eq.mp z)),ih]
      obtain ⟨a,b⟩:=p
      have e':¬ a=k:=e
      simp [getA,e']
theorem any_enc (f:α→V) (l:List (S × α)) (k:S):((encD f l).any fun kv=>decide (kv.1=(Sum.inr (tx k):Key)))=decide (k∈l.map (·.1)):=by
  induction l with
  | nil=>rfl
  | cons p r ih =>
    rw [encD_cons,List.any_cons,ih]
    by_cases e:p.1=k
    · have:decide ((Sum.inr (tx p.1):Key)=Sum.inr (tx k))=true:=decide_eq_true (key_eq.mpr e)
      rw [this,Bool.true_or]
      exact (decide_eq_true (by rw [← e]; exact List.mem_cons_self ..)).symm
    · have:decide ((Sum.inr (tx p.1):Key)=Sum.inr (tx k))=false:=decide_eq_false (fun z=>e (key_eq.mp z))
      rw [this,Bool.false_or]
      congr 1
      have e':¬ k=p.1:=fun z=>e z.symm
      simp [e']
theorem put_enc (f:α→V) (l:List (S × α)) (k:S) (v:α) (nd:(l.map (·.1)).Nodup):putK (encD f l) (Sum.inr (tx k)) (f v)=encD f (putA l k v):=by
  unfold putK
  rw [any_enc]
  by_cases hk:k∈l.map (·.1)
  · rw [if_pos (decide_eq_true hk)]
    induction l with
    | nil=>cases hk
    | cons p r ih =>
      obtain ⟨a,b⟩:=p
      have nd':=List.nodup_cons.mp nd
      rw [encD_cons,List.map_cons]
      by_cases e:a=k
      · subst e
        have e1:putA ((a,b)::r) a v=(a,v)::r:=by simp [putA]
        rw [e1,encD_cons]
        congr 1
        · simp
        · have:∀ q∈encD f r,(if q.1=(Sum.inr (tx a):Key) then (q.1,f v) else q)=q:=fun q hq=>by
            rw [if_neg]
            intro z
            obtain ⟨s,hs,e2⟩:=List.mem_map.mp hq
            obtain ⟨s',hs',e3⟩:=List.mem_map.mp hs
            have:s.1=tx s'.1:=by rw [← e3]
            have h4:q.1=(Sum.inr (tx s'.1):Key):=by rw [← e2,this]
            rw [h4] at z
            exact nd'.1 (List.mem_map.mpr ⟨s',hs',key_eq.mp z⟩)
          have h5:=List.map_congr_left this
          rw [h5]; simp
      · have e1:putA ((a,b)::r) k v=(a,b)::putA r k v:=by simp [putA,e]
        rw [e1,encD_cons]
        congr 1
        · rw [if_neg (fun z=>e (key_eq.mp z))]
        · exact ih nd'.2 (by
            rcases List.mem_cons.mp hk with z | z
            · exact absurd z.symm e
            · exact z)
  · rw [if_neg (by simpa using hk)]
    clear nd
    induction l with
    | nil=>rfl
    | cons p r ih =>
      obtain ⟨a,b⟩:=p
      have e:¬ a=k:=fun z=>hk (by rw [← z]; exact List.mem_cons_self ..)
      have e1:putA ((a,b)::r) k v=(a,b)::putA r k v:=by simp [putA,e]
      rw [e1,encD_cons,encD_cons,List.cons_append,ih fun z=>hk (List.mem_cons_of_mem _ z)]
theorem putA_len {β:Type} (l:List (S × β)) (k:S) (v:β):(putA l k v).length≤l.length+1:=by
  induction l with
  | nil=>simp [putA]
  | cons p r ih =>
    obtain ⟨a,b⟩:=p
    by_cases e:a=k
    · simp [putA,e]
    · simp [putA,e]; omega
theorem putA_map {β γ:Type} (g:β→γ) (l:List (S × β)) (k:S) (v:β):(putA l k v).map (fun p=>(p.1,g p.2))=putA (l.map fun p=>(p.1,g p.2)) k (g v):=by
  induction l with
  | nil=>rfl
  | cons p r ih =>
    obtain ⟨a,b⟩:=p
    by_cases e:a=k
    · simp [putA,e]
    · simp [putA,e,ih]
theorem getA_map {β γ:Type} (g:β→γ) (l:List (S × β)) (k:S):getA (l.map fun p=>(p.1,g p.2)) k=(getA l k).map g:=by
  induction l with
  | nil=>rfl
  | cons p r ih =>
    obtain ⟨a,b⟩:=p
    by_cases e:a=k
    · simp [getA,e]
    · simp [getA,e,ih]
theorem putA_mem {β:Type}{l:List (S × β)}{k:S}{v:β}{q:S × β} (h:q∈putA l k v):q=(k,v)∨(q∈l∧(q.1≠k∨(l.map (·.1)).Nodup→q.1≠k)):=by
  induction l with
  | nil=>simp [putA] at h; exact .inl h
  | cons p r ih =>
    obtain ⟨a,b⟩:=p
    by_cases e:a=k
    · subst e
      have e1:putA ((a,b)::r) a v=(a,v)::r:=by simp [putA]
      rw [e1] at h
      rcases List.mem_cons.mp h with z | z
      · exact .inl z
      · refine .inr ⟨List.mem_cons_of_mem _ z,?_⟩
        rintro (w | w)
        · exact w
        · intro e2
          exact (List.nodup_cons.mp w).1 (by rw [← e2]; exact List.mem_map_of_mem (f:=(·.1)) z)
    · have e1:putA ((a,b)::r) k v=(a,b)::putA r k v:=by simp [putA,e]
      rw [e1] at h
      rcases List.mem_cons.mp h with z | z
      · subst z
        exact .inr ⟨List.mem_cons_self ..,fun _=>e⟩
      · rcases ih z with w | ⟨w1,w2⟩
        · exact .inl w
        · refine .inr ⟨List.mem_cons_of_mem _ w1,?_⟩
          rintro (u | u)
          · exact u
          · exact w2 (.inr (List.nodup_cons.mp u).2)
theorem putA_new {β:Type} (l:List (S × β)) (k:S) (v:β) (h:k ∉ l.map (·.1)):putA l k v=l++[(k,v)]:=by
  induction l with
  | nil=>rfl
  | cons q r ih =>
    obtain ⟨a,b⟩:=q
    have e:¬ a=k:=fun z=>h (by rw [← z]; exact List.mem_cons_self ..)
    have e1:putA ((a,b)::r) k v=(a,b)::putA r k v:=by simp [putA,e]
    rw [e1,ih fun z=>h (List.mem_cons_of_mem _ z)]; rfl
theorem putA_same {β γ:Type} (g:β→γ) (l:List (S × β)) (k:S) (v u:β) (h:getA l k=some u) (e:g v=g u):(putA l k v).map (fun p=>(p.1,g p.2))=l.map fun p=>(p.1,g p.2):=by
  induction l with
  | nil=>cases h
  | cons p r ih =>
    obtain ⟨a,b⟩:=p
    by_cases ea:a=k
    · have:b=u:=by simpa [getA,ea] using h
      subst this
      simp [putA,ea,e]
    · have h':getA r k=some u:=by simpa [getA,ea] using h
      simp [putA,ea,ih h']
theorem rows_len (ps:List (S × S)):(rowsOf ps).length≤ps.length∧∀ r∈rowsOf ps,r.2.length≤ps.length:=by
  have key:∀ (qs:List (S × S)) (rows:List (S × List (S × Int))) (n:Nat),(rows.length≤n∧∀ r∈rows,r.2.length≤n)→(qs.foldl addP rows).length≤n+qs.length∧∀ r∈qs.foldl addP rows,r.2.length≤n+qs.length:=by
    intro qs
    induction qs with
    | nil=>intro rows n h; simpa using h
    | cons q qs ih =>
      intro rows n h
      have:=ih (addP rows q) (n+1) ⟨?_,fun r hr=>?_⟩
      · rw [List.foldl_cons,List.length_cons]
        have e:n+(qs.length+1)=n+1+qs.length:=by omega
        rw [e]; exact this
      · have:=putA_len rows q.1 (bump ((getA rows q.1).getD []) q.2)
        unfold addP; omega
      · rcases putA_mem hr with e | ⟨e,_⟩
        · rw [e]
          have h1:=putA_len ((getA rows q.1).getD []) q.2 ((getA ((getA rows q.1).getD []) q.2).getD 0+1)
          have h2:((getA rows q.1).getD []).length≤n:=by
            cases g:getA rows q.1 with
            | none=>simp
            | some row =>
              have hm:(q.1,row)∈rows:=by
                clear h hr e h1
                induction rows with
                | nil=>cases g
                | cons p r ih2 =>
                  obtain ⟨a,b⟩:=p
                  by_cases ea:a=q.1
                  · have:b=row:=by simpa [getA,ea] using g
                    subst this; subst ea
                    exact List.mem_cons_self ..
                  · exact List.mem_cons_of_mem _ (ih2 (by simpa [getA,ea] using g))
              exact h.2 _ hm
          show (bump _ _).length≤_
          unfold bump; omega
        · have:=h.2 r e; omega
  have:=key ps [] 0 ⟨Nat.le_refl _,by simp⟩
  simpa [rowsOf] using this
end
abbrev rowV (row:List (S × Int)):List (Key × V):=encD V.int row
structure RA (H0 H:Hp) (d:Addr) (ps:List (S × S)) (ra:List (S × Addr × List (S × Int))):Prop where
  rows:ra.map (fun r=>(r.1,r.2.2))=rowsOf ps
  top:H d=some (.dK (encD (fun v:Addr × List (S × Int)=>V.ref v.1) ra))
  row:∀ r∈ra,H r.2.1=some (.dK (rowV r.2.2))
  new:∀ r∈ra,H0 r.2.1=none∧r.2.1≠d
  nda:(ra.map fun r=>r.2.1).Nodup
def RowsAt (H:Hp) (d:Addr) (ps:List (S × S)):Prop:=∃ ra:List (S × Addr × List (S × Int)),ra.map (fun r=>(r.1,r.2.2))=rowsOf ps∧H d=some (.dK (encD (fun v:Addr × List (S × Int)=>V.ref v.1) ra))∧∀ r∈ra,H r.2.1=some (.dK (rowV r.2.2))
theorem RowsAt.same {H H':Hp}{d:Addr}{ps:List (S × S)} (h:RowsAt H d ps) (e:Same H H'):RowsAt H' d ps:=by
  obtain ⟨ra,h1,h2,h3⟩:=h
  exact ⟨ra,h1,e _ _ h2,fun r hr=>e _ _ (h3 r hr)⟩
section
variable {P:Program}{w:World}{K:PySem.W.Frag}{mg:Str→Option Value}{base:Heap}
def spRows:Sp:=fun vs H Q _=>∃ (a:Addr) (bk:List S) (o:Nat),vs=[.ref a,.int o]∧H a=some (.tup (bkV bk))∧bk.length≤8∧(∀ x∈bk,x.length≤8)∧1≤o∧∀ d H',Same H H'→H d=none→RowsAt H' d (pairsB o bk)→Q (.ref d) H'
abbrev sRows:Stmt:=top 23
theorem scRows:FnScope ["book", "order", "rows", "name", "end", "letter", "row"] ["book", "order"] (defScope sRows):=⟨rfl,rfl,rfl,by decide +kernel,rfl,by decide +kernel,by decide +kernel⟩
theorem keys_nd {H0 H:Hp}{d:Addr}{ps:List (S × S)}{ra:List (S × Addr × List (S × Int))} (R:RA H0 H d ps ra):(ra.map (·.1)).Nodup:=by
  have h:=(rows_ok ps).nd
  rw [← R.rows,List.map_map] at h
  exact h
theorem RA.step {H0 H H2:Hp}{d ad:Addr}{ps:List (S × S)}{ra:List (S × Addr × List (S × Int))} (R:RA H0 H d ps ra) (p:S × S) (row:List (S × Int)) (hrow:row=((getA ra p.1).map (·.2)).getD [])
    (had:∀ v,getA ra p.1=some v→v.1=ad) (hnew:getA ra p.1=none→H0 ad=none∧ad≠d∧ad ∉ ra.map fun r=>r.2.1)
    (h1:H2 ad=some (.dK (rowV (bump row p.2)))) (h2:H2 d=some (.dK (encD (fun v:Addr × List (S × Int)=>V.ref v.1) (putA ra p.1 (ad,bump row p.2))))) (h3:∀ r∈ra,r.2.1≠ad→H2 r.2.1=some (.dK (rowV r.2.2))) :
    RA H0 H2 d (ps++[p]) (putA ra p.1 (ad,bump row p.2)):=by
  have nd:=keys_nd R
  have isin:∀ v,getA ra p.1=some v→(p.1,v)∈ra:=fun v hv=>(getA_mem nd p.1 v).mpr hv
  have adr:∀ r∈ra,r.1≠p.1→r.2.1≠ad:=fun r hr hne e=>by
    cases g:getA ra p.1 with
    | none=>exact (hnew g).2.2 (List.mem_map.mpr ⟨r,hr,e⟩)
    | some v =>
      have hv:=isin v g
      have ev:=had v g
      have:r=(p.1,v):=by
        obtain ⟨i,hi,ei⟩:=List.getElem_of_mem hr
        obtain ⟨j,hj,ej⟩:=List.getElem_of_mem hv
        have hij:i=j:=by
          refine (List.getElem_inj (xs:=ra.map fun r=>r.2.1) (h₀:=by simpa using hi) (h₁:=by simpa using hj) R.nda).mp ?_
          rw [List.getElem_map,List.getElem_map,ei,ej]
          show r.2.1=v.1
          rw [e,ev]
        subst hij
        rw [← ei,← ej]
      exact hne (by rw [this])
  refine ⟨?_,h2,fun r hr=>?_,fun r hr=>?_,?_⟩
  · rw [rowsOf_snoc,← R.rows]
    unfold addP
    have e:=putA_map (fun v:Addr × List (S × Int)=>v.2) ra p.1 (ad,bump row p.2)
    rw [e]
    have e2:=getA_map (fun v:Addr × List (S × Int)=>v.2) ra p.1
    rw [e2,← hrow]
  · rcases putA_mem hr with e | ⟨e,e'⟩
    · rw [e]; exact h1
    · exact h3 r e (adr r e (e' (.inr nd)))
  · rcases putA_mem hr with e | ⟨e,_⟩
    · rw [e]
      cases g:getA ra p.1 with
      | none=>exact ⟨(hnew g).1,(hnew g).2.1⟩
      | some v =>
        have:=R.new _ (isin v g)
        rw [← had v g]; exact this
    · exact R.new r e
  · cases g:getA ra p.1 with
    | none =>
      have hk:p.1 ∉ ra.map (·.1):=getA_none.mp g
      have e:=putA_new ra p.1 (ad,bump row p.2) hk
      rw [e,List.map_append]
      refine List.nodup_append.mpr ⟨R.nda,by simp,fun a ha b hb e2=>?_⟩
      have:b=ad:=by simpa using hb
      exact (hnew g).2.2 (by rw [← this,← e2]; exact ha)
    | some v =>
      have e:=putA_same (fun v:Addr × List (S × Int)=>v.1) ra p.1 (ad,bump row p.2) v g (had v g).symm
      have e2:(putA ra p.1 (ad,bump row p.2)).map (fun r=>r.2.1)=ra.map fun r=>r.2.1:=by
        have:=congrArg (List.map Prod.snd) e
        rw [List.map_map,List.map_map] at this
        exact this
      rw [e2]; exact R.nda
def SameQ (H H':Hp):Prop:=∀ b o,H b=some o→(∀ kvs,o≠.dK kvs)→H' b=some o
theorem SameQ.upd {H:Hp}{a:Addr}{kvs:List (Key × V)}{u:HO} (h:H a=some (.dK kvs)):SameQ H (upd H a u):=fun b o e hn=>by
  rw [upd_ne]
  · exact e
  · rintro rfl; rw [h] at e; exact hn kvs (Option.some.inj e).symm
theorem SameQ.sqL {H H':Hp} (e:SameQ H H') {a:Addr}{xs:List V} (h:SqL K H a xs):SqL K H' a xs:=by
  rcases h with (h | ⟨o,h⟩) | h
  · exact .inl (.inl (e _ _ h (by intro z w; cases w)))
  · exact .inl (.inr ⟨o,e _ _ h (by intro z w; cases w)⟩)
  · exact .inr h
theorem SameQ.sqT {H H':Hp} (e:SameQ H H') {a:Addr}{xs:List V} (h:SqT K H a xs):SqT K H' a xs:=by
  rcases h with (h | ⟨o,h⟩) | h
  · exact .inl (.inl (e _ _ h (by intro z w; cases w)))
  · exact .inl (.inr ⟨o,e _ _ h (by intro z w; cases w)⟩)
  · exact .inr h
mutual
theorem Rep.sameQ {H H':Hp} (e:SameQ H H'):∀ (d:PyData) (v:V),Rep K H d v→Rep K H' d v
  | .none,v,h=>h
  | .bool b,v,h=>h
  | .int i,v,h=>h
  | .str x,v,h=>h
  | .list ds,v,h=>by
    obtain ⟨a,xs,h1,h2,h3⟩:=h
    exact ⟨a,xs,h1,e.sqL h2,Reps.sameQ e ds xs h3⟩
  | .tuple ds,v,h=>by
    obtain ⟨a,xs,h1,h2,h3⟩:=h
    exact ⟨a,xs,h1,e.sqT h2,Reps.sameQ e ds xs h3⟩
  | .dict _,v,h=>h
theorem Reps.sameQ {H H':Hp} (e:SameQ H H'):∀ (ds:List PyData) (xs:List V),Reps K H ds xs→Reps K H' ds xs
  | [],xs,h=>h
  | d::ds,xs,h=>by
    obtain ⟨y,ys,h1,h2,h3⟩:=h
    exact ⟨y,ys,h1,Rep.sameQ e d y h2,Reps.sameQ e ds ys h3⟩
end
theorem encD_same {β:Type} (g:β→V) (l:List (S × β)) (k:S) (v u:β) (h:getA l k=some u) (e:g v=g u):encD g (putA l k v)=encD g l:=by
  have:=putA_same g l k v u h e
  unfold encD
  have e2:∀ m:List (S × β),m.map (fun p=>(tx p.1,g p.2))=(m.map fun p=>(p.1,g p.2)).map fun q=>(tx q.1,q.2):=fun m=>by rw [List.map_map]; rfl
  rw [e2,e2,this]
theorem row_of {H0 H:Hp}{d:Addr}{ps:List (S × S)}{ra:List (S × Addr × List (S × Int))} (R:RA H0 H d ps ra) {e:S}{v:Addr × List (S × Int)} (h:getA ra e=some v) :
    H v.1=some (.dK (rowV v.2))∧(v.2.map (·.1)).Nodup∧v.2.length≤ps.length∧H0 v.1=none∧v.1≠d:=by
  have hm:=(getA_mem (keys_nd R) e v).mpr h
  have hm2:(e,v.2)∈rowsOf ps:=by rw [← R.rows]; exact List.mem_map.mpr ⟨(e,v),hm,rfl⟩
  exact ⟨R.row _ hm,(rows_ok ps).ndr e v.2 hm2,(rows_len ps).2 _ hm2,(R.new _ hm).1,(R.new _ hm).2⟩
theorem ok_rows {f:Addr}{fd:FuncData} (F:Fun K "counted_rows" "counted_rows" sRows f fd) (cEnds:Cal P w K mg base 2 "ends_and_letters" ["name", "order"] (spEnds K)):FnOk P w K mg base CX0 3 f fd ["book", "order"] spRows:=by
  refine F.ok scRows (fun vs H Q E h=>?_) (fun cdv A outer s H vs Q E hr h=>?_)
  · obtain ⟨a,bk,o,rfl,_⟩:=h; rfl
  · obtain ⟨a,bk,o,rfl,ha,hb1,hb2,ho,k⟩:=h
    have hu:=hu_of hr
    have nd:=scRows.nd
    refine ⟨_,pss_cons (ps_set (i:=2) nd rfl (Or.inl rfl) pe_dnewK)
      (pss_cons (ps_for PassesOwn.never rfl (pi_tup (pv 0)) (pg_name (i:=3) nd rfl (Or.inl rfl))
        (pss_one (ps_for PassesOwn.never rfl (pi_list (pe_cal cEnds hr rfl (pa_cons (pv 3) (pa_cons (pv 1) pa_nil))))
          (pg_tup rfl (pgs_cons (pg_name (i:=4) nd rfl (Or.inl rfl)) (pgs_cons (pg_name (i:=5) nd rfl (Or.inl rfl)) pgs_nil)))
          (pss_cons (ps_set (i:=6) nd rfl (Or.inl rfl) (pe_bm PySem.F.plainAttrs_dict PySem.F.slot_dict_setdefault PySem.F.type_dict_setdefault mt_setdefault (pv 2) (pa_cons (pv 4) (pa_cons pe_dnewK pa_nil))))
            (pss_one (ps_dput hu (pv 6) (pv 5) (pe_op op_add (pe_dget2 hu (pv 6) (pv 5) pe_int ⟨rfl,rfl,rfl,rfl⟩) pe_int) rfl))))))
      (pss_one (ps_ret (pv 2)))),?_⟩
    intro d hd
    have s1:Same H (upd H d (.dK [])):=Same.upd1 hd
    refine ⟨_,rfl,a,rfl,⟨_,.of (s1 _ _ ha)⟩,?_⟩
    refine for_known (known_tup K a (bkV bk)) (fun i σ H'=>(∃ x y z u:Option V,σ=[some (.ref a),some (.int o),some (.ref d),x,y,z,u])∧Same H H'∧∃ ra,RA H H' d (pairsB o (bk.take i)) ra)
      ⟨⟨_,_,_,_,rfl⟩,s1,[],⟨rfl,upd_same,by simp,by simp,by simp⟩⟩ (fun i σ H' _ h=>.of (h.2.1 _ _ ha)) ?_ ?_
    · rintro i x σ H' Nx hN hx ⟨⟨x1,x2,x3,x4,rfl⟩,sm,ra,R⟩
      rw [bkV,List.getElem?_map] at hx
      cases e:bk[i]? with
      | none=>rw [e] at hx; cases hx
      | some nm =>
      rw [e] at hx
      have hy2:x=sv nm:=(Option.some.inj hx).symm
      subst hy2
      have hnm:=hb2 nm (List.mem_of_getElem? e)
      have hi:i < bk.length:=(List.getElem?_eq_some_iff.mp e).1
      have etake:bk.take (i+1)=bk.take i++[nm]:=by
        rw [List.take_succ_eq_append_getElem hi]
        have:=(List.getElem?_eq_some_iff.mp e).2
        rw [this]
      have epairs:pairsB o (bk.take (i+1))=pairsB o (bk.take i)++pairs1 o nm:=by
        rw [etake,pairsB_append]; simp [pairsB]
      have hplen:((pairsB o (bk.take (i+1))).length:Int)≤100:=by
        rw [pairsB_length]
        have go:∀ l:List S,(∀ x∈l,x.length≤8)→(l.map fun x=>(x.length:Int)+1).sum≤9 * (l.length:Int):=by
          intro l
          induction l with
          | nil=>intro _; simp
          | cons x r ih =>
            intro hl
            have h1:=hl x (List.mem_cons_self ..)
            have h2:=ih fun y hy=>hl y (List.mem_cons_of_mem _ hy)
            rw [List.map_cons,List.sum_cons,List.length_cons]
            have:((r.length+1:Nat):Int)=(r.length:Int)+1:=rfl
            omega
        have:=go (bk.take (i+1)) fun x hx=>hb2 x (List.mem_of_mem_take hx)
        have h3:(bk.take (i+1)).length≤8:=by rw [List.length_take]; omega
        omega
      refine ⟨_,rfl,_,rfl,nm,o,rfl,ho,by omega,fun l xs Hl sml hln hll rp=>?_⟩
      refine ⟨l,rfl,⟨_,.of hll⟩,?_⟩
      have R1:RA H Hl d (pairsB o (bk.take i)) ra:=⟨R.rows,sml _ _ R.top,fun r hr=>sml _ _ (R.row r hr),R.new,R.nda⟩
      have hld:H l=none:=sm.free hln
      have hdl:l≠d:=ne_of hll (sml _ _ R.top) (by intro z; cases z)
      refine for_known (known_list K l xs) (fun j σ H2=>(∃ y z u:Option V,σ=[some (.ref a),some (.int o),some (.ref d),some (sv nm),y,z,u])∧Same H H2∧H2 l=some (.lst xs)∧Reps K H2 ((pairs1 o nm).map elD) xs∧∃ ra,RA H H2 d (pairsB o (bk.take i)++(pairs1 o nm).take j) ra∧∀ r∈ra,r.2.1≠l)
        ⟨⟨_,_,_,rfl⟩,sm.trans sml,hll,rp,ra,by simpa using R1,fun r hr=>ne_of (R1.row r hr) hll (by intro z; cases z)⟩ (fun j σ H2 _ h=>.of h.2.2.1) ?_ ?_
      · rintro j x σ H2 Nx2 hN2 hx2 ⟨⟨y,z,u,rfl⟩,sm2,hl2,rp2,ra2,R2,hal⟩
        obtain ⟨dd,hdd,rx⟩:=rp2.get hx2
        rw [List.getElem?_map] at hdd
        cases ep:(pairs1 o nm)[j]? with
        | none=>rw [ep] at hdd; cases hdd
        | some p =>
        rw [ep] at hdd
        have hd2:dd=elD p:=(Option.some.inj hdd).symm
        subst hd2
        obtain ⟨at',xs',rfl,hsq,y1,ys1',rfl,ry1,y2,ys2',rfl,ry2,hnil⟩:=rx
        have ey1:y1=sv p.1:=ry1
        have ey2:y2=sv p.2:=ry2
        have en:ys2'=[]:=hnil
        subst ey1 ey2 en
        have hj:j < (pairs1 o nm).length:=(List.getElem?_eq_some_iff.mp ep).1
        have etk:pairsB o (bk.take i)++(pairs1 o nm).take (j+1)=(pairsB o (bk.take i)++(pairs1 o nm).take j)++[p]:=by
          rw [List.take_succ_eq_append_getElem hj,(List.getElem?_eq_some_iff.mp ep).2,List.append_assoc]
        generalize hps:pairsB o (bk.take i)++(pairs1 o nm).take j=ps at R2 etk
        have hpl:ps.length≤100:=by
          have h1:ps.length≤(pairsB o (bk.take (i+1))).length:=by
            rw [← hps,epairs,List.length_append,List.length_append,List.length_take]; omega
          omega
        have hral:ra2.length≤100:=by
          have h1:=(rows_len ps).1
          rw [← R2.rows,List.length_map] at h1
          omega
        refine ⟨at',[sv p.1,sv p.2],rfl,hsq,rfl,_,_,rfl,_,_,rfl,rfl,?_⟩
        refine ⟨_,rfl,.inr (.inr (.inl ⟨rfl,.inl ⟨_,R2.top⟩⟩)),_,rfl,fun e0 he0=>?_⟩
        have he0H:H e0=none:=sm2.free he0
        have hde:d≠e0:=ne_of_none R2.top he0
        have s3:Same H2 (upd H2 e0 (.dK [])):=Same.upd1 he0
        have fin:∀ (ad:Addr) (row:List (S × Int)) (Hx:Hp),Hx ad=some (.dK (rowV row))→(row.map (·.1)).Nodup→row.length≤100→(∀ H4,H4=upd Hx ad (.dK (rowV (bump row p.2)))→Nx2 [some (.ref a),some (.int o),some (.ref d),some (sv nm),some (sv p.1),some (sv p.2),some (.ref ad)] H4) →
            sDPut (tVar 6) (tVar 5) (tOp (rI0 fun i j=>V.int (i+j)) (tDGet2 (tVar 6) (tVar 5) (tC (.int 0))) (tC (.int 1))) { nx:=Nx2,rt:=Q,bk:=fun _ _=>False,ct:=fun _ _=>False } [some (.ref a),some (.int o),some (.ref d),some (sv nm),some (sv p.1),some (sv p.2),some (.ref ad)] Hx:=by
          intro ad row Hx hrow hnd hrl hq
          refine ⟨_,rfl,ad,rfl,.inl ⟨_,.inl hrow⟩,_,rfl,_,DGet.k (k:=Sum.inr (tx p.2)) hrow,(getA row p.2).getD 0,1,?_,rfl,?_⟩
          · rw [val_enc]
            cases getA row p.2 <;> rfl
          · refine ⟨_,rfl,_,rfl,ad,_,rfl,DPut.k (k:=Sum.inr (tx p.2)) hrow (by rw [encD_len,sizeLine_eq]; omega),hq _ ?_⟩
            rw [put_enc V.int row p.2 _ hnd]
            rfl
        have common:∀ (ad:Addr) (row:List (S × Int)) (Hx H4:Hp),Same H Hx→H ad=none→Hx l=some (.lst xs)→Reps K Hx ((pairs1 o nm).map elD) xs→H4=upd Hx ad (.dK (rowV (bump row p.2)))→Hx ad=some (.dK (rowV row))→RA H H4 d (ps++[p]) (putA ra2 p.1 (ad,bump row p.2)) →
            Nx2 [some (.ref a),some (.int o),some (.ref d),some (sv nm),some (sv p.1),some (sv p.2),some (.ref ad)] H4:=by
          intro ad row Hx H4 sx had hxl hxr e4 hrow RR
          have hadl:ad≠l:=ne_of hrow hxl (by intro z; cases z)
          subst e4
          refine hN2 _ _ ⟨⟨_,_,_,rfl⟩,sx.upd_new had,by rw [upd_ne hadl.symm]; exact hxl,Reps.sameQ (SameQ.upd hrow) _ _ hxr,_,by rw [etk]; exact RR,fun r hr=>?_⟩
          rcases putA_mem hr with e | ⟨e,_⟩
          · rw [e]; exact hadl
          · exact hal r e
        have hx3:upd H2 e0 (.dK []) d=some (.dK (encD (fun v:Addr × List (S × Int)=>V.ref v.1) ra2)):=by rw [upd_ne hde]; exact R2.top
        have hl3:upd H2 e0 (.dK []) l=some (.lst xs):=s3 _ _ hl2
        have hr3:∀ r∈ra2,upd H2 e0 (.dK []) r.2.1=some (.dK (rowV r.2.2)):=fun r hr=>s3 _ _ (R2.row r hr)
        have hre:∀ r∈ra2,r.2.1≠e0:=fun r hr=>ne_of_none (R2.row r hr) he0
        refine ⟨d,_,Sum.inr (tx p.1),_,rfl,rfl,hx3,by rw [encD_len,sizeLine_eq]; omega,fun yv hyv=>?_,fun hnv=>?_⟩
        ·
          rw [val_enc] at hyv
          cases g:getA ra2 p.1 with
          | none=>rw [g] at hyv; cases hyv
          | some v =>
          rw [g] at hyv
          have ev:yv=.ref v.1:=(Option.some.inj hyv).symm
          subst ev
          obtain ⟨r1,r2,r3,r4,r5⟩:=row_of R2 g
          have hrow3:upd H2 e0 (.dK []) v.1=some (.dK (rowV v.2)):=s3 _ _ r1
          refine fin v.1 v.2 _ hrow3 r2 (by omega) fun H4 e4=>common v.1 v.2 _ H4 (sm2.trans s3) r4 hl3 (Reps.same s3 _ _ rp2) e4 hrow3 ?_
          refine R2.step p v.2 (by rw [g]; rfl) (fun v' hv'=>by rw [g] at hv'; rw [Option.some.inj hv']) (fun hn=>by rw [g] at hn; cases hn) (by rw [e4,upd_same]) ?_ fun r hr hne=>?_
          · rw [e4,upd_ne r5.symm,hx3]
            have:=encD_same (fun v:Addr × List (S × Int)=>V.ref v.1) ra2 p.1 (v.1,bump v.2 p.2) v g rfl
            rw [this]
          · rw [e4,upd_ne hne]; exact hr3 r hr
        ·
          rw [val_enc] at hnv
          have g:getA ra2 p.1=none:=by
            cases g:getA ra2 p.1 with
            | none=>rfl
            | some v=>rw [g] at hnv; cases hnv
          have hp2:=put_enc (fun v:Addr × List (S × Int)=>V.ref v.1) ra2 p.1 (e0,[]) (keys_nd R2)
          have hHx:upd (upd H2 e0 (.dK [])) d (.dK (putK (encD (fun v:Addr × List (S × Int)=>V.ref v.1) ra2) (Sum.inr (tx p.1)) (.ref e0))) e0=some (.dK (rowV [])):=by
            rw [upd_ne hde.symm,upd_same]; rfl
          refine fin e0 [] _ hHx (by simp) (by simp) fun H4 e4=>common e0 [] _ H4 ((sm2.trans s3).upd_new hd) he0H (by rw [upd_ne hdl]; exact hl3) (Reps.sameQ (SameQ.upd hx3) _ _ (Reps.same s3 _ _ rp2)) e4 hHx ?_
          refine R2.step p [] (by rw [g]; rfl) (fun v' hv'=>by rw [g] at hv'; cases hv') (fun _=>⟨he0H,hde.symm,fun hm=>?_⟩) (by rw [e4,upd_same]) ?_ fun r hr hne=>?_
          · obtain ⟨r,hr,e⟩:=List.mem_map.mp hm
            exact hre r hr e
          · rw [e4,upd_ne hde,upd_same,hp2]
            congr 2
            have hk:p.1 ∉ ra2.map (·.1):=getA_none.mp g
            rw [putA_new _ _ _ hk,putA_new _ _ _ hk]
            unfold encD encK
            rw [List.map_append,List.map_append,List.map_append,List.map_append]
            rfl
          · rw [e4,upd_ne hne,upd_ne (R2.new r hr).2]; exact hr3 r hr
      · rintro σ H2 ⟨⟨y,z,u,rfl⟩,sm2,hl2,rp2,ra2,R2,_⟩
        refine hN _ _ ⟨⟨_,_,_,_,rfl⟩,sm2,ra2,?_⟩
        rw [epairs]
        have hxl:xs.length=(pairs1 o nm).length:=by have:=rp2.length; simpa using this.symm
        rw [hxl,List.take_length] at R2
        exact R2
    · rintro σ H' ⟨⟨x1,x2,x3,x4,rfl⟩,sm,ra,R⟩
      refine ⟨_,rfl,k d H' sm hd ⟨ra,?_,R.top,R.row⟩⟩
      rw [R.rows]
      have:(bkV bk).length=bk.length:=by simp [bkV]
      rw [this,List.take_length]
end
end Kn
end
section
namespace Kn
open PySem L2
section
variable {P:Program}{w:World}{K:PySem.W.Frag}{mg:Str→Option Value}{base:Heap}
theorem gcd_step {a b:Int} (ha:0≤a) (hb:0 < b):Int.gcd b (a % b)=Int.gcd a b:=by
  obtain ⟨x,rfl⟩:=Int.eq_ofNat_of_zero_le ha
  obtain ⟨y,rfl⟩:=Int.eq_ofNat_of_zero_le (Int.le_of_lt hb)
  have e:((x:Int) % (y:Int))=((x % y:Nat):Int):=rfl
  rw [e]
  show Nat.gcd y (x % y)=Nat.gcd x y
  rw [Nat.gcd_comm y (x % y),← Nat.gcd_rec,Nat.gcd_comm]
def spGcd:Sp:=fun vs H Q _=>∃ u d:Int,vs=[.int u,.int d]∧0≤u∧0 < d∧d < 1073741824∧Q (.int (gcdI u d)) H
abbrev sGcd:Stmt:=top 27
theorem scGcd:FnScope ["one", "other", "rest"] ["one", "other"] (defScope sGcd):=⟨rfl,rfl,rfl,by decide +kernel,rfl,by decide +kernel,by decide +kernel⟩
abbrev frO (q:Int × Int):HO:=.tup [.int q.1,.int q.2]
def spLow:Sp:=fun vs H Q _=>∃ u d:Int,vs=[.int u,.int d]∧0≤u∧0 < d∧d < 1073741824∧∀ p,H p=none→Q (.ref p) (upd H p (frO (low u d)))
abbrev sLow:Stmt:=top 28
theorem scLow:FnScope ["up", "down", "divisor"] ["up", "down"] (defScope sLow):=⟨rfl,rfl,rfl,by decide +kernel,rfl,by decide +kernel,by decide +kernel⟩
structure Sm (q:Int × Int):Prop extends Fq q where
  u1:q.1 < 1073741824
  d1:q.2 < 1073741824
def FrA (K:PySem.W.Frag) (H:Hp) (v:V) (q:Int × Int):Prop:=∃ a,v=.ref a∧SqT K H a [.int q.1,.int q.2]
theorem FrA.same {H H':Hp}{v:V}{q:Int × Int} (h:FrA K H v q) (e:Same H H'):FrA K H' v q:=by
  obtain ⟨a,h1,h2⟩:=h
  exact ⟨a,h1,e.seqT h2⟩
theorem FrA.new {H:Hp}{p:Addr}{q:Int × Int}:FrA K (upd H p (frO q)) (.ref p) q:=⟨p,rfl,.of upd_same⟩
theorem FrA.rep {H:Hp}{v:V}{q:Int × Int} (h:FrA K H v q):Rep K H (.tuple [.int q.1,.int q.2]) v:=by
  obtain ⟨a,h1,h2⟩:=h
  exact ⟨a,_,h1,h2,_,_,rfl,rfl,_,_,rfl,rfl,rfl⟩
theorem FrA.of_rep {H:Hp}{v:V}{q:Int × Int} (h:Rep K H (.tuple [.int q.1,.int q.2]) v):FrA K H v q:=by
  obtain ⟨a,xs,h1,h2,y,ys,rfl,h3,z,zs,rfl,h4,h5⟩:=h
  have e1:y=.int q.1:=h3
  have e2:z=.int q.2:=h4
  have e3:zs=[]:=h5
  subst e1 e2 e3
  exact ⟨a,h1,h2⟩
def spTimes (K:PySem.W.Frag):Sp:=fun vs H Q _=>∃ (x y:V) (p q:Int × Int),vs=[x,y]∧FrA K H x p∧FrA K H y q∧Sm p∧Sm q∧p.2 * q.2 < 1073741824∧∀ a,H a=none→Q (.ref a) (upd H a (frO (tms p q)))
def spLess (K:PySem.W.Frag):Sp:=fun vs H Q _=>∃ (x y:V) (p q:Int × Int),vs=[x,y]∧FrA K H x p∧FrA K H y q∧Sm p∧Sm q∧Q (.bl (lss p q)) H
abbrev sTimes:Stmt:=top 29
abbrev sLess:Stmt:=top 30
theorem scTimes:FnScope ["one", "other"] ["one", "other"] (defScope sTimes):=⟨rfl,rfl,rfl,by decide +kernel,rfl,by decide +kernel,by decide +kernel⟩
theorem scLess:FnScope ["one", "other"] ["one", "other"] (defScope sLess):=⟨rfl,rfl,rfl,by decide +kernel,rfl,by decide +kernel,by decide +kernel⟩
theorem cm {p:Int} (a:0≤p) (b:p < 1073741824) (q:Int):CMul p q:=.inl ⟨by omega,by omega⟩
theorem ok_times {f:Addr}{fd:FuncData} (F:Fun K "times" "times" sTimes f fd) (c1:Cal P w K mg base 2 "lowest" ["up", "down"] spLow):FnOk P w K mg base CX0 3 f fd ["one", "other"] (spTimes K):=by
  refine F.ok scTimes (fun vs H Q E h=>?_) (fun cdv A outer s H vs Q E hr h=>?_)
  · obtain ⟨x,y,p,q,rfl,_⟩:=h; rfl
  · obtain ⟨x,y,p,q,rfl,⟨a,rfl,ha⟩,⟨b,rfl,hb⟩,sp,sq,hpq,k⟩:=h
    refine ⟨_,pss_one (ps_ret (pe_cal c1 hr rfl (pa_cons (pe_op op_mul (pe_ix ix_tup (pv 0) pe_int (fun _ _=>rfl)) (pe_ix ix_tup (pv 1) pe_int (fun _ _=>rfl)))
      (pa_cons (pe_op op_mul (pe_ix ix_tup (pv 0) pe_int (fun _ _=>rfl)) (pe_ix ix_tup (pv 1) pe_int (fun _ _=>rfl))) pa_nil)))),?_⟩
    have p0:=sp.up; have q0:=sq.up; have p1:=sp.dn; have q1:=sq.dn
    refine ⟨_,rfl,a,_,0,_,rfl,rfl,ha,rfl,_,rfl,b,_,0,_,rfl,rfl,hb,rfl,_,_,rfl,rfl,cm p0 sp.u1 _,?_⟩
    refine ⟨_,rfl,a,_,1,_,rfl,rfl,ha,rfl,_,rfl,b,_,1,_,rfl,rfl,hb,rfl,_,_,rfl,rfl,cm (Int.le_of_lt p1) sp.d1 _,?_⟩
    exact ⟨_,_,rfl,Int.mul_nonneg p0 q0,Int.mul_pos p1 q1,hpq,k⟩
theorem ok_less {f:Addr}{fd:FuncData} (F:Fun K "is_less" "is_less" sLess f fd):FnOk P w K mg base CX0 1 f fd ["one", "other"] (spLess K):=by
  refine F.ok scLess (fun vs H Q E h=>?_) (fun cdv A outer s H vs Q E hr h=>?_)
  · obtain ⟨x,y,p,q,rfl,_⟩:=h; rfl
  · obtain ⟨x,y,p,q,rfl,⟨a,rfl,ha⟩,⟨b,rfl,hb⟩,sp,sq,k⟩:=h
    refine ⟨_,pss_one (ps_ret (pe_cmpR op_lt (pe_op op_mul (pe_ix ix_tup (pv 0) pe_int (fun _ _=>rfl)) (pe_ix ix_tup (pv 1) pe_int (fun _ _=>rfl))) (pe_op op_mul (pe_ix ix_tup (pv 1) pe_int (fun _ _=>rfl)) (pe_ix ix_tup (pv 0) pe_int (fun _ _=>rfl))) (nomark _))),?_⟩
    have p0:=sp.up; have q0:=sq.up
    refine ⟨_,rfl,a,_,0,_,rfl,rfl,ha,rfl,_,rfl,b,_,1,_,rfl,rfl,hb,rfl,_,_,rfl,rfl,cm p0 sp.u1 _,?_⟩
    exact ⟨_,rfl,b,_,0,_,rfl,rfl,hb,rfl,_,rfl,a,_,1,_,rfl,rfl,ha,rfl,_,_,rfl,rfl,cm q0 sq.u1 _,_,_,rfl,rfl,k⟩
end
end Kn
end
section
namespace Kn
open PySem L2
theorem row_total {ps:List (S × S)}{e:S}{xs:List (S × Int)} (nd:(xs.map (·.1)).Nodup) (mem:∀ l n,(l,n)∈xs↔n=(ps.count (e,l):Int)∧0 < n):(xs.map (·.2)).sum=(tot ps e:Int):=by
  have h:=sum_counts (ps.filter fun p=>decide (p.1=e)) (xs.map fun p=>(e,p.1)) ?_ ?_
  · unfold tot
    rw [← h,List.map_map]
    congr 1
    apply List.map_congr_left
    rintro ⟨l,n⟩ hm
    have:=((mem l n).mp hm).1
    show n=(List.count (e,l) (ps.filter fun p=>decide (p.1=e)):Int)
    rw [List.count_filter (by simp)]
    exact this
  · have:=nd
    rw [List.Nodup,List.pairwise_map] at this ⊢
    exact this.imp fun {p q} hpq z=>hpq (congrArg Prod.snd z)
  · rintro ⟨e',l⟩ hm
    obtain ⟨h1,h2⟩:=List.mem_filter.mp hm
    have h2':e'=e:=by simpa using h2
    subst h2'
    exact List.mem_map.mpr ⟨(l,(ps.count (e',l):Int)),(mem l _).mpr ⟨rfl,by
      have:=List.count_pos_iff.mpr h1
      omega⟩,rfl⟩
def rowOf (ps:List (S × S)) (e:S):List (S × Int):=(getA (rowsOf ps) e).getD []
theorem rowOf_nd (ps:List (S × S)) (e:S):((rowOf ps e).map (·.1)).Nodup:=by
  unfold rowOf
  cases g:getA (rowsOf ps) e with
  | none=>simp
  | some row=>exact (rows_ok ps).ndr e row ((getA_mem (rows_ok ps).nd e row).mpr g)
theorem rowOf_get (ps:List (S × S)) (e l:S):getA (rowOf ps e) l=if 0 < ps.count (e,l) then some (ps.count (e,l):Int) else none:=(rows_ok ps).val e l
theorem rowOf_mem (ps:List (S × S)) (e l:S) (n:Int):(l,n)∈rowOf ps e↔n=(ps.count (e,l):Int)∧0 < n:=by
  rw [getA_mem (rowOf_nd ps e),rowOf_get]
  by_cases c:0 < ps.count (e,l)
  · rw [if_pos c]
    constructor
    · intro z
      have:=Option.some.inj z
      omega
    · rintro ⟨z,_⟩; rw [z]
  · rw [if_neg c]
    constructor
    · intro z; cases z
    · rintro ⟨z1,z2⟩; omega
theorem rowOf_total (ps:List (S × S)) (e:S):((rowOf ps e).map (·.2)).sum=(tot ps e:Int):=row_total (rowOf_nd ps e) (rowOf_mem ps e)
theorem tot_le (ps:List (S × S)) (e:S):tot ps e≤ps.length:=List.length_filter_le ..
structure Cst2 (K:PySem.W.Frag) (mg:Str→Option Value):Prop where
  nought:∃ a,mg "NOUGHT" = some (.ref a)∧∀ H,SqT K H a [.int 0,.int 1]
  whole:∃ a,mg "WHOLE" = some (.ref a)∧∀ H,SqT K H a [.int 1,.int 1]
section
variable {P:Program}{w:World}{K:PySem.W.Frag}{mg:Str→Option Value}{base:Heap}
def spPart (K:PySem.W.Frag):Sp:=fun vs H Q _=>∃ (d:Addr) (ps:List (S × S)) (e l:S),vs=[.ref d,sv l]∧H d=some (.dK (rowV (rowOf ps e)))∧ps.length < 1000∧∀ v H',Same H H'→FrA K H' v (part ps e l)→Q v H'
abbrev sPart:Stmt:=top 32
theorem scPart:FnScope ["row", "letter"] ["row", "letter"] (defScope sPart):=⟨rfl,rfl,rfl,by decide +kernel,rfl,by decide +kernel,by decide +kernel⟩
end
end Kn
end
section
namespace Kn
open PySem L2
section
variable {P:Program}{w:World}{K:PySem.W.Frag}{mg:Str→Option Value}{base:Heap}
theorem pg_tupK {X:Cx} (K':PySem.W.Frag) {pos:Pos}{es:List Expr}{k:Nat}{t:TGs} (n:Nat) (hK:X.K=K') (hc:X.calm=true) (h:PGs X es t)
    (hn:(assignEach es X.env).length=n) (hst:(assignEach es X.env).findIdx? (·.1)=none):PG X (.Tuple es k pos) (gTup K' n t):=by
  subst hK
  exact pg_tup hc h hn hst
def frD (q:Int × Int):PyData:=.tuple [.int q.1,.int q.2]
def stD (ps:List (S × S)) (p:S × S):PyData:=.tuple [.str (tx p.1),.str (tx p.2),frD (part ps p.1 p.2)]
def spStepsR (K:PySem.W.Frag):Sp:=fun vs H Q _=>∃ (d:Addr) (ps:List (S × S)) (o:Nat) (nm:S),vs=[.ref d,.int o,sv nm]∧RowsAt H d ps∧ps.length < 1000∧1≤o∧nm.length≤64 ∧
  ∀ a xs H',Same H H'→H a=none→H' a=some (.lst xs)→Reps K H' ((pairs1 o nm).map (stD ps)) xs→Q (.ref a) H'
abbrev sStepsR:Stmt:=top 33
theorem scStepsR:FnScope ["rows", "order", "name"] ["rows", "order", "name"] (defScope sStepsR):=⟨rfl,rfl,rfl,by decide +kernel,rfl,by decide +kernel,by decide +kernel⟩
theorem nd3:(["rows", "end", "letter"]:List Str).Nodup:=by decide +kernel
theorem RowsAt.get {H:Hp}{d:Addr}{ps:List (S × S)} (h:RowsAt H d ps) (e:S):∃ kvs:List (Key × V),H d=some (.dK kvs)∧((valV kvs (Sum.inr (tx e))=none∧rowOf ps e=[])∨∃ a,valV kvs (Sum.inr (tx e))=some (.ref a)∧H a=some (.dK (rowV (rowOf ps e)))):=by
  obtain ⟨ra,h1,h2,h3⟩:=h
  refine ⟨_,h2,?_⟩
  rw [val_enc]
  have nd:(ra.map (·.1)).Nodup:=by
    have h:=(rows_ok ps).nd
    rw [← h1,List.map_map] at h
    exact h
  have e2:getA (rowsOf ps) e=(getA ra e).map (·.2):=by
    rw [← h1]
    exact getA_map (fun v:Addr × List (S × Int)=>v.2) ra e
  cases g:getA ra e with
  | none=>exact .inl ⟨rfl,by unfold rowOf; rw [e2,g]; rfl⟩
  | some v =>
    refine .inr ⟨v.1,rfl,?_⟩
    have:=h3 _ ((getA_mem nd e v).mpr g)
    unfold rowOf
    rw [e2,g]
    exact this
theorem pairs1_len (o:Nat) (nm:S):(pairs1 o nm).length=nm.length+1:=by simp [pairs1]
theorem rp_el {H:Hp}{o:Nat}{nm:S}{xs:List V}{i:Nat}{x:V} (rp:Reps K H ((pairs1 o nm).map elD) xs) (hx:xs[i]?=some x):∃ (p:S × S) (a:Addr),(pairs1 o nm)[i]?=some p∧x=.ref a∧SqT K H a [sv p.1,sv p.2]:=by
  obtain ⟨dd,hdd,rx⟩:=rp.get hx
  rw [List.getElem?_map] at hdd
  cases ep:(pairs1 o nm)[i]? with
  | none=>rw [ep] at hdd; cases hdd
  | some p =>
  rw [ep] at hdd
  have hd2:dd=elD p:=(Option.some.inj hdd).symm
  subst hd2
  obtain ⟨at',xs',rfl,hsq,y1,ys1',rfl,ry1,y2,ys2',rfl,ry2,hnil⟩:=rx
  have ey1:y1=sv p.1:=ry1
  have ey2:y2=sv p.2:=ry2
  have en:ys2'=[]:=hnil
  subst ey1 ey2 en
  exact ⟨p,at',rfl,rfl,hsq⟩
theorem ok_stepsR {f:Addr}{fd:FuncData} (F:Fun K "steps_by_rows" "steps_by_rows" sStepsR f fd) (cEnds:Cal P w K mg base 2 "ends_and_letters" ["name", "order"] (spEnds K)) (cPart:Cal P w K mg base 3 "part_in" ["row", "letter"] (spPart K)) :
    FnOk P w K mg base CX0 4 f fd ["rows", "order", "name"] (spStepsR K):=by
  refine F.ok scStepsR (fun vs H Q E h=>?_) (fun cdv A outer s H vs Q E hr h=>?_)
  · obtain ⟨d,ps,o,nm,rfl,_⟩:=h; rfl
  · obtain ⟨d,ps,o,nm,rfl,hR,hps,ho,hl,k⟩:=h
    have hu:=hu_of hr
    have hr2:=hr.mono (j:=2) (by decide)
    refine ⟨_,pss_one (ps_ret (pe_comp (N:=["rows", "end", "letter"]) (caps:=[0]) rfl (compScope_of (by kernel_rfl))
      (pi_list (pe_cal cEnds hr2 rfl (pa_cons (pv 2) (pa_cons (pv 1) pa_nil))))
      (fun cl C s H ex=>pg_tupK K 2 rfl rfl (pgs_cons (pg_name (i:=1) nd3 rfl (Or.inl rfl)) (pgs_cons (pg_name (i:=2) nd3 rfl (Or.inl rfl)) pgs_nil)) rfl rfl)
      (fun cl C s H ex=>pf_nil)
      (fun cl C s H ex=>pe_tup (pa_cons (pv 1) (pa_cons (pv 2) (pa_cons (pe_cal cPart hr rfl (pa_cons (pe_dget2 hu (pv 0) (pv 1) pe_dnewK ⟨rfl,rfl,rfl,rfl⟩) (pa_cons (pv 2) pa_nil))) pa_nil)))))),?_⟩
    refine ⟨_,rfl,_,rfl,nm,o,rfl,ho,hl,fun l xs Hl sml hln hll rp=>?_⟩
    refine ⟨l,rfl,⟨_,.of hll⟩,?_⟩
    have hxl:xs.length=nm.length+1:=by have:=rp.length; rw [← this,List.length_map,pairs1_len]
    refine comp_known0 (known_list K l xs) [some (.ref d)] 2 (by omega) (fun i acc H'=>Same Hl H'∧acc.length=i∧Reps K H' (((pairs1 o nm).take i).map (stD ps)) acc)
      ⟨Same.refl _,rfl,rfl⟩ (fun i acc H' _ h=>⟨.of (h.1 _ _ hll),Nat.le_of_eq h.2.1⟩) ?_ ?_
    · rintro i x acc H' ys Nx hN hx hy ⟨sm,hal,rp'⟩
      obtain ⟨y,z,rfl⟩:=ys2 hy
      obtain ⟨p,at',ep,rfl,hsq⟩:=rp_el (Reps.same sm _ _ rp) hx
      have hj:i < (pairs1 o nm).length:=(List.getElem?_eq_some_iff.mp ep).1
      refine ⟨at',[sv p.1,sv p.2],rfl,hsq,rfl,_,_,rfl,_,_,rfl,rfl,?_⟩
      have R':RowsAt H' d ps:=(hR.same sml).same sm
      obtain ⟨kvs,hd,hv⟩:=R'.get p.1
      refine ⟨_,rfl,_,rfl,_,rfl,d,rfl,.inl ⟨_,.inl hd⟩,_,rfl,fun e0 he0=>?_⟩
      have s3:Same H' (upd H' e0 (.dK [])):=Same.upd1 he0
      have fin:∀ (ra:Addr),upd H' e0 (.dK []) ra=some (.dK (rowV (rowOf ps p.1)))→∀ v,v=V.ref ra→(∀ (ra2:V) (H5:Hp),Same (upd H' e0 (.dK [])) H5→FrA K H5 ra2 (part ps p.1 p.2)→∀ pp,H5 pp=none→Nx (acc++[.ref pp]) [some (.ref d),some (sv p.1),some (sv p.2)] (upd H5 pp (.tup [sv p.1,sv p.2,ra2]))):=by
        intro ra hra v hv' ra2 H5 s5 fr pp hpp
        refine hN _ _ [some (sv p.1),some (sv p.2)] rfl ⟨((sm.trans s3).trans s5).trans (Same.upd1 hpp),by rw [List.length_append,hal]; rfl,?_⟩
        rw [List.take_succ_eq_append_getElem hj,(List.getElem?_eq_some_iff.mp ep).2,List.map_append]
        refine Reps.append (Reps.same ((s3.trans s5).trans (Same.upd1 hpp)) _ _ rp') (Reps.one ⟨pp,_,rfl,.of upd_same,?_⟩)
        exact ⟨_,_,rfl,rfl,_,_,rfl,rfl,_,_,rfl,(fr.same (Same.upd1 hpp)).rep,rfl⟩
      have hd3:upd H' e0 (.dK []) d=some (.dK kvs):=s3 _ _ hd
      refine ⟨_,DGet.k (k:=Sum.inr (tx p.1)) hd3,_,rfl,?_⟩
      rcases hv with ⟨hv1,hv2⟩ | ⟨ra,hv1,hv2⟩
      · rw [hv1]
        have hra:upd H' e0 (.dK []) e0=some (.dK (rowV (rowOf ps p.1))):=by rw [upd_same,hv2]; rfl
        exact ⟨e0,ps,p.1,p.2,rfl,hra,hps,fun v H5 s5 fr=>⟨by show 3≤sizeLine; decide,fun pp hpp=>fin e0 hra _ rfl v H5 s5 fr pp hpp⟩⟩
      · rw [hv1]
        have hra:upd H' e0 (.dK []) ra=some (.dK (rowV (rowOf ps p.1))):=s3 _ _ hv2
        exact ⟨ra,ps,p.1,p.2,rfl,hra,hps,fun v H5 s5 fr=>⟨by show 3≤sizeLine; decide,fun pp hpp=>fin ra hra _ rfl v H5 s5 fr pp hpp⟩⟩
    · rintro acc H' ⟨sm,hal,rp'⟩ D hD
      have sml2:=sml.trans sm
      refine k D acc _ (sml2.upd_new (sml2.free hD)) (sml2.free hD) upd_same (Reps.same (Same.upd1 hD) _ _ ?_)
      have e1:(pairs1 o nm).take xs.length=pairs1 o nm:=by rw [hxl,← pairs1_len o nm,List.take_length]
      rw [e1] at rp'
      exact rp'
end
end Kn
end
section
namespace Kn
open PySem L2
theorem shareG_dn {ps:List (S × S)} (h1:1≤ps.length) (qs:List (S × S)):(shareG ps qs).2≤((ps.length ^ qs.length:Nat):Int):=by
  have:=foldG_dn h1 qs (1,1) 0 fq11 (by simp)
  rw [Nat.zero_add] at this
  rw [Int.natCast_pow]
  exact this
theorem shareG_fq (ps qs:List (S × S)):Fq (shareG ps qs):=foldG_fq ps qs _ fq11
theorem shareG_le1 (ps qs:List (S × S)):(shareG ps qs).1≤(shareG ps qs).2:=foldG_le1 ps qs _ fq11 (by decide)
theorem shareG_snoc (ps qs:List (S × S)) (p:S × S):shareG ps (qs++[p])=tms (shareG ps qs) (part ps p.1 p.2):=by
  unfold shareG; rw [List.foldl_append]; rfl
theorem Sm.of_le {q:Int × Int} (h:Fq q) (h1:q.1≤q.2) (h2:q.2 < 1073741824):Sm q:=⟨h,by omega,h2⟩
theorem share_sm {ps:List (S × S)}{o:Nat}{nm:S} (h1:1≤ps.length) (h:ps.length ^ (nm.length+1) < 1073741824):Sm (shareOf ps o nm):=by
  refine .of_le (share_fq ..) (share_le1 ..) ?_
  have:=shareG_dn h1 (pairs1 o nm)
  rw [pairs1_len] at this
  unfold shareOf
  omega
section
variable {P:Program}{w:World}{K:PySem.W.Frag}{mg:Str→Option Value}{base:Heap}
theorem rp_st {H:Hp}{ps:List (S × S)}{qs:List (S × S)}{xs:List V}{i:Nat}{x:V} (rp:Reps K H (qs.map (stD ps)) xs) (hx:xs[i]?=some x):∃ (p:S × S) (a:Addr) (v:V),qs[i]?=some p∧x=.ref a∧SqT K H a [sv p.1,sv p.2,v]∧FrA K H v (part ps p.1 p.2):=by
  obtain ⟨dd,hdd,rx⟩:=rp.get hx
  rw [List.getElem?_map] at hdd
  cases ep:qs[i]? with
  | none=>rw [ep] at hdd; cases hdd
  | some p =>
  rw [ep] at hdd
  have hd2:dd=stD ps p:=(Option.some.inj hdd).symm
  subst hd2
  obtain ⟨at',xs',rfl,hsq,y1,ys1',rfl,ry1,y2,ys2',rfl,ry2,y3,ys3',rfl,ry3,hnil⟩:=rx
  have ey1:y1=sv p.1:=ry1
  have ey2:y2=sv p.2:=ry2
  have en:ys3'=[]:=hnil
  subst ey1 ey2 en
  exact ⟨p,at',y3,rfl,rfl,hsq,FrA.of_rep ry3⟩
def spShareR (K:PySem.W.Frag):Sp:=fun vs H Q _=>∃ (d:Addr) (ps:List (S × S)) (o:Nat) (nm:S),vs=[.ref d,.int o,sv nm]∧RowsAt H d ps∧1≤ps.length∧ps.length < 1000∧ps.length ^ (nm.length+1) < 1073741824∧1≤o∧nm.length≤64 ∧
  ∀ v H',Same H H'→FrA K H' v (shareOf ps o nm)→Q v H'
abbrev sShareR:Stmt:=top 34
theorem scShareR:FnScope ["rows", "order", "name", "product", "step"] ["rows", "order", "name"] (defScope sShareR):=⟨rfl,rfl,rfl,by decide +kernel,rfl,by decide +kernel,by decide +kernel⟩
theorem ok_shareR {f:Addr}{fd:FuncData} (F:Fun K "share_by_rows" "share_by_rows" sShareR f fd) (C:Cst2 K mg) (cSt:Cal P w K mg base 4 "steps_by_rows" ["rows", "order", "name"] (spStepsR K)) (cT:Cal P w K mg base 3 "times" ["one", "other"] (spTimes K)) :
    FnOk P w K mg base CX0 5 f fd ["rows", "order", "name"] (spShareR K):=by
  obtain ⟨aW,hW,tW⟩:=C.whole
  refine F.ok scShareR (fun vs H Q E h=>?_) (fun cdv A outer s H vs Q E hr h=>?_)
  · obtain ⟨d,ps,o,nm,rfl,_⟩:=h; rfl
  · obtain ⟨d,ps,o,nm,rfl,hR,hp1,hps,hpow,ho,hl,k⟩:=h
    have hu:=hu_of hr
    have hr3:=hr.mono (j:=3) (by decide)
    have nd:=scShareR.nd
    refine ⟨_,pss_cons (ps_set (i:=3) nd rfl (Or.inl rfl) (pe_glob (v:=.ref aW) (by rfl) hW rfl))
      (pss_cons (ps_for PassesOwn.never rfl (pi_list (pe_cal cSt hr rfl (pa_cons (pv 0) (pa_cons (pv 1) (pa_cons (pv 2) pa_nil))))) (pg_name (i:=4) nd rfl (Or.inl rfl))
        (pss_one (ps_set (i:=3) nd rfl (Or.inl rfl) (pe_cal cT hr3 rfl (pa_cons (pv 3) (pa_cons (pe_ix ix_tup (pv 4) pe_int (fun _ _=>rfl)) pa_nil))))))
      (pss_one (ps_ret (pv 3)))),?_⟩
    refine ⟨_,rfl,_,rfl,_,rfl,d,ps,o,nm,rfl,hR,hps,ho,hl,fun l xs Hl sml hln hll rp=>?_⟩
    refine ⟨l,rfl,⟨_,.of hll⟩,?_⟩
    have hxl:xs.length=nm.length+1:=by have:=rp.length; rw [← this,List.length_map,pairs1_len]
    refine for_known (known_list K l xs) (fun i σ H2=>∃ (v:V) (y:Option V),σ=[some (.ref d),some (.int o),some (sv nm),some v,y]∧Same Hl H2∧FrA K H2 v (shareG ps ((pairs1 o nm).take i)))
      ⟨_,_,rfl,Same.refl _,⟨aW,rfl,tW _⟩⟩ (fun i σ H' _ h=>by obtain ⟨_,_,_,h,_⟩:=h; exact .of (h _ _ hll)) ?_ ?_
    · rintro i x σ H2 Nx hN hx ⟨v,y,rfl,sm,fr⟩
      obtain ⟨p,at',u,ep,rfl,hsq,fu⟩:=rp_st (Reps.same sm _ _ rp) hx
      have hj:i < (pairs1 o nm).length:=(List.getElem?_eq_some_iff.mp ep).1
      have hj2:i < nm.length+1:=by rw [pairs1_len] at hj; exact hj
      have hti:((pairs1 o nm).take i).length=i:=by rw [List.length_take]; omega
      have hdn:=shareG_dn hp1 ((pairs1 o nm).take i)
      rw [hti] at hdn
      have hpi:ps.length ^ i≤ps.length ^ (nm.length+1):=Nat.pow_le_pow_right hp1 (by omega)
      have hpi1:ps.length ^ (i+1)≤ps.length ^ (nm.length+1):=Nat.pow_le_pow_right hp1 (by omega)
      have hpd:=part_dn p.1 p.2 hp1
      have s1:Sm (shareG ps ((pairs1 o nm).take i)):=.of_le (shareG_fq ..) (shareG_le1 ..) (by omega)
      have s2:Sm (part ps p.1 p.2):=.of_le (part_fq ..) (part_le1 ..) (by omega)
      refine ⟨_,rfl,_,rfl,at',_,2,u,rfl,rfl,hsq,rfl,v,u,_,_,rfl,fr,fu,s1,s2,?_,fun b hb=>hN _ _ ⟨_,_,rfl,sm.trans (Same.upd1 hb),?_⟩⟩
      · have hm:(shareG ps ((pairs1 o nm).take i)).2 * (part ps p.1 p.2).2≤((ps.length ^ i:Nat):Int) * (ps.length:Int):=Int.mul_le_mul hdn hpd (Int.le_of_lt s2.dn) (Int.natCast_nonneg _)
        have e:((ps.length ^ i:Nat):Int) * (ps.length:Int)=((ps.length ^ (i+1):Nat):Int):=by rw [Nat.pow_succ]; rfl
        rw [e] at hm
        omega
      · rw [List.take_succ_eq_append_getElem hj,(List.getElem?_eq_some_iff.mp ep).2,shareG_snoc]
        exact FrA.new
    · rintro σ H2 ⟨v,y,rfl,sm,fr⟩
      refine ⟨_,rfl,k v H2 (sml.trans sm) ?_⟩
      have e1:(pairs1 o nm).take xs.length=pairs1 o nm:=by rw [hxl,← pairs1_len o nm,List.take_length]
      rw [e1] at fr
      exact fr
structure Bk (bk:List S) (o:Nat):Prop extends isBk bk where
  o1:1≤o
  o3:o≤3
structure Fit (bk:List S) (o:Nat) (x:S):Prop extends Bk bk o where
  nmn:isNm x
  pw:(pairsB o bk).length ^ (x.length+1) < 1073741824
theorem Bk.l8 {bk:List S}{o:Nat} (h:Bk bk o):∀ x∈bk,x.length≤8:=fun x hx=>(h.nm x hx).2.1
theorem pairs_len {bk:List S}{o:Nat} (h:Bk bk o):1≤(pairsB o bk).length∧(pairsB o bk).length < 1000:=by
  have e:=pairsB_length o bk
  have go:∀ l:List S,(∀ x∈l,x.length≤8)→(l.length:Int)≤(l.map fun x=>(x.length:Int)+1).sum∧(l.map fun x=>(x.length:Int)+1).sum≤9 * (l.length:Int):=by
    intro l
    induction l with
    | nil=>intro _; simp
    | cons x r ih =>
      intro hl
      have h1:=hl x (List.mem_cons_self ..)
      have h2:=ih fun y hy=>hl y (List.mem_cons_of_mem _ hy)
      rw [List.map_cons,List.sum_cons,List.length_cons]
      have:((r.length+1:Nat):Int)=(r.length:Int)+1:=rfl
      omega
  have:=go bk h.l8
  have h1:=h.lo
  have h2:=h.hi
  omega
abbrev sShare:Stmt:=top 35
abbrev sMakes:Stmt:=top 36
theorem scShare:FnScope ["book", "order", "name"] ["book", "order", "name"] (defScope sShare):=⟨rfl,rfl,rfl,by decide +kernel,rfl,by decide +kernel,by decide +kernel⟩
theorem scMakes:FnScope ["book", "order", "name"] ["book", "order", "name"] (defScope sMakes):=⟨rfl,rfl,rfl,by decide +kernel,rfl,by decide +kernel,by decide +kernel⟩
structure Needs (P:Program) (w:World) (K:PySem.W.Frag) (mg:Str→Option Value) (base:Heap):Prop where
  bk:Cal P w K mg base 3 "need_book" ["thing"] spNeedBook
  od:Cal P w K mg base 3 "need_order" ["thing"] spNeedOrder
  nm:Cal P w K mg base 2 "need_name" ["thing"] spNeedName
  rows:Cal P w K mg base 3 "counted_rows" ["book", "order"] spRows
def spShare (K:PySem.W.Frag):Sp:=fun vs H Q _=>∃ (a:Addr) (bk:List S) (o:Nat) (nm:S),vs=[.ref a,.int o,sv nm]∧H a=some (.tup (bkV bk))∧Fit bk o nm ∧
  ∀ v H',Same H H'→FrA K H' v (shareOf (pairsB o bk) o nm)→Q v H'
theorem ok_share {f:Addr}{fd:FuncData} (F:Fun K "share" "share" sShare f fd) (N:Needs P w K mg base) (cSh:Cal P w K mg base 5 "share_by_rows" ["rows", "order", "name"] (spShareR K)) :
    FnOk P w K mg base CX0 6 f fd ["book", "order", "name"] (spShare K):=by
  refine F.ok scShare (fun vs H Q E h=>?_) (fun cdv A outer s H vs Q E hr h=>?_)
  · obtain ⟨d,ps,o,nm,rfl,_⟩:=h; rfl
  · obtain ⟨a,bk,o,nm,rfl,ha,hb,k⟩:=h
    have hr3:=hr.mono (j:=3) (by decide)
    have hr2:=hr.mono (j:=2) (by decide)
    refine ⟨_,pss_cons (ps_expr (pe_cal N.bk hr3 rfl (pa_cons (pv 0) pa_nil))) (pss_cons (ps_expr (pe_cal N.od hr3 rfl (pa_cons (pv 1) pa_nil))) (pss_cons (ps_expr (pe_cal N.nm hr2 rfl (pa_cons (pv 2) pa_nil)))
      (pss_one (ps_ret (pe_cal cSh hr rfl (pa_cons (pe_cal N.rows hr3 rfl (pa_cons (pv 0) (pa_cons (pv 1) pa_nil))) (pa_cons (pv 1) (pa_cons (pv 2) pa_nil)))))))),?_⟩
    refine ⟨_,rfl,a,bk,rfl,ha,hb.toisBk,fun H1 s1=>?_⟩
    refine ⟨_,rfl,o,rfl,hb.o1,hb.o3,?_⟩
    refine ⟨_,rfl,nm,rfl,hb.nmn,fun H2 s2=>?_⟩
    have s12:=s1.trans s2
    have pl:=pairs_len hb.toBk
    refine ⟨_,rfl,_,rfl,a,bk,o,rfl,s12 _ _ ha,hb.hi,hb.toBk.l8,hb.o1,fun d H3 s3 hd R=>?_⟩
    exact ⟨_,rfl,_,rfl,d,_,o,nm,rfl,R,pl.1,pl.2,hb.pw,hb.o1,(by have:=hb.nmn.2.1; omega),fun v H4 s4 fr=>k v H4 ((s12.trans s3).trans s4) fr⟩
def spMakes:Sp:=fun vs H Q _=>∃ (a:Addr) (bk:List S) (o:Nat) (nm:S),vs=[.ref a,.int o,sv nm]∧H a=some (.tup (bkV bk))∧Fit bk o nm ∧
  ∀ H',Same H H'→Q (.bl (decide (0 < (shareOf (pairsB o bk) o nm).1))) H'
theorem ok_makes {f:Addr}{fd:FuncData} (F:Fun K "makes" "makes" sMakes f fd) (C:Cst2 K mg) (cSh:Cal P w K mg base 6 "share" ["book", "order", "name"] (spShare K)) (cL:Cal P w K mg base 1 "is_less" ["one", "other"] (spLess K)) :
    FnOk P w K mg base CX0 7 f fd ["book", "order", "name"] spMakes:=by
  obtain ⟨aN,hN,tN⟩:=C.nought
  refine F.ok scMakes (fun vs H Q E h=>?_) (fun cdv A outer s H vs Q E hr h=>?_)
  · obtain ⟨d,ps,o,nm,rfl,_⟩:=h; rfl
  · obtain ⟨a,bk,o,nm,rfl,ha,hb,k⟩:=h
    have hr1:=hr.mono (j:=1) (by decide)
    refine ⟨_,pss_one (ps_ret (pe_cal cL hr1 rfl (pa_cons (pe_glob (v:=.ref aN) (by rfl) hN rfl) (pa_cons (pe_cal cSh hr rfl (pa_cons (pv 0) (pa_cons (pv 1) (pa_cons (pv 2) pa_nil)))) pa_nil)))),?_⟩
    refine ⟨_,rfl,_,rfl,_,rfl,a,bk,o,nm,rfl,ha,hb,fun v H1 s1 fr=>?_⟩
    refine ⟨_,v,(0,1),_,rfl,⟨aN,rfl,tN _⟩,fr,⟨fq01,by decide,by decide⟩,share_sm (pairs_len hb.toBk).1 hb.pw,?_⟩
    rw [lss_zero]
    exact k H1 s1
end
end Kn
end
section
namespace Kn
open PySem L2
section
variable {P:Program}{w:World}{K:PySem.W.Frag}{mg:Str→Option Value}{base:Heap}
end
end Kn
end
section
namespace Kn
open PySem L2
theorem tx_eta (x:Str):tx x.cps.toList=x:=by
  apply MyS.Str_ext
  simp [tx]
theorem strs_eta (l:List Str):(l.map fun x=>x.cps.toList).map tx=l:=by
  rw [List.map_map]
  conv=>rhs; rw [← List.map_id l]
  apply List.map_congr_left
  intro x _
  exact tx_eta x
section
variable {P:Program}{w:World}{K:PySem.W.Frag}{mg:Str→Option Value}{base:Heap}
theorem pe_bm0K {X:Cx} (K':PySem.W.Frag) (hK:X.K=K') {o:Expr}{to:TE}{name:Str}{apos cpos:Pos}{T id:String}{r:V→List V→Hp→VK→Prop} (pa:PlainAttrs T) (slot:Slot T name id) (hty:typeOf (.builtin id)=pure (.type "method_descriptor")) (hm:MtR X id r) (ho:PE X o to)
    (hbase:attributeBase o name X.env (eval o X.env)=eval o X.env:=by rfl) (hline:(apos.endLine == cpos.line)=true:=by rfl):PE X (.Call (.Attribute o name apos) [] [] cpos) (tBM0 K' T r to):=by
  subst hK
  exact pe_bm0 pa slot hty hm ho hbase hline
end
theorem ite_nn {c A B:Prop} [Decidable c] (hc:¬ c) (h:A):if (!decide c)=true then A else B:=by
  rw [decide_eq_false hc]; exact h
end Kn
end
section
namespace Kn
open PySem L2
section
variable {P:Program}{w:World}{K:PySem.W.Frag}{mg:Str→Option Value}{base:Heap}
theorem reps_ints {H:Hp}:∀ ns:List Int,Reps K H (ns.map PyData.int) (ns.map V.int)
  | []=>rfl
  | n::ns=>⟨_,_,rfl,rfl,reps_ints ns⟩
theorem lay_ints:∀ ns:List Int,PyData.canLayAll0 (ns.map PyData.int)=true
  | []=>rfl
  | n::ns=>by rw [List.map_cons]; simp only [PyData.canLayAll0,PyData.canLay0,lay_ints ns,Bool.and_self]
def spCell (K:PySem.W.Frag):Sp:=fun vs H Q _=>∃ (a:Addr) (ns:List Int) (k:Nat),vs=[.ref a,.int k]∧SqL K H a (ns.map V.int)∧ns.length≤63∧∀ (i:Int) H',Same H H'→Q (.int i) H'
abbrev sCell:Stmt:=top 65
theorem scCell:FnScope ["_law_script", "_law_k"] ["_law_script", "_law_k"] (defScope sCell):=⟨rfl,rfl,rfl,by decide +kernel,rfl,by decide +kernel,by decide +kernel⟩
theorem shaped_ints (ns:List Int):SeqAt.shaped (.list (ns.map PyData.int))=true:=by
  unfold SeqAt.shaped
  have h1:(PyData.list (ns.map PyData.int)).canLay0=true:=by simp only [PyData.canLay0]; exact lay_ints ns
  have h2:(PyData.list (ns.map PyData.int)).depth≤64:=by
    have go:∀ ns:List Int,PyData.depthAll (ns.map PyData.int)≤1:=by
      intro ns
      induction ns with
      | nil=>decide
      | cons n ns ih=>rw [List.map_cons]; simp only [PyData.depthAll,PyData.depth]; omega
    have:=go ns
    simp only [PyData.depth]; omega
  rw [h1,decide_eq_true h2]; rfl
theorem ok_cell {f:Addr}{fd:FuncData} (F:Fun K "_law_cell" "_law_cell" sCell f fd) (B:Blt mg):FnOk P w K mg base CX0 1 f fd ["_law_script", "_law_k"] (spCell K):=by
  refine F.ok scCell (fun vs H Q E h=>?_) (fun cdv A outer s H vs Q E hr h=>?_)
  · obtain ⟨a,ns,k,rfl,_⟩:=h; rfl
  · obtain ⟨a,ns,n,rfl,ha,hl,k⟩:=h
    have hu:=hr.units
    refine ⟨_,pss_cons (ps_if (pt_cmpR (op_eqD hu) (pv 0) (pe_lst pa_nil) (nomark _)) (pss_one (ps_ret (pe_op op_mul pe_int (pv 1)))) pss_nil)
      (pss_one (ps_ret (pe_op op_add (pe_ix ix_list (pv 0) (pe_op op_mod (pv 1) (pe_callB call_len_seq (by rfl) B.len PySem.boot_len (pa_cons (pv 0) pa_nil))) (fun _ _=>rfl))
        (pe_op op_mul pe_int (pe_op op_fdiv (pv 1) (pe_callB call_len_seq (by rfl) B.len PySem.boot_len (pa_cons (pv 0) pa_nil))))))),?_⟩
    refine ⟨_,rfl,by show 0≤sizeLine; decide,fun p hp=>?_⟩
    have s1:Same H (upd H p (.lst [])):=Same.upd1 hp
    refine ⟨.list (ns.map PyData.int),.list [],⟨a,_,rfl,s1.seq ha,reps_ints ns⟩,⟨p,[],rfl,.of upd_same,rfl⟩,shaped_ints ns,rfl,_,rfl,?_⟩
    cases ns with
    | nil=>exact iteT ⟨_,rfl,7,n,rfl,rfl,.inl ⟨by decide,by decide⟩,k _ _ s1⟩
    | cons m ns =>
      refine iteF ?_
      have hlen:((m::ns).map V.int).length=ns.length+1:=by simp
      have hll:ns.length+1≤63:=by simpa using hl
      have hm:((n:Int) % (((m::ns).map V.int).length:Int))=((n % (ns.length+1):Nat):Int):=by rw [hlen]; rfl
      have hlt:n % (ns.length+1) < ((m::ns).map V.int).length:=by rw [hlen]; exact Nat.mod_lt _ (Nat.succ_pos _)
      refine ⟨_,rfl,_,rfl,_,rfl,a,_,rfl,.inl (s1.seq ha),_,_,rfl,rfl,by rw [hlen]; omega,?_⟩
      refine ⟨a,_,_,.int ((m::ns)[n % (ns.length+1)]'(by simpa using hlt)),rfl,rfl,s1.seq ha,?_,?_⟩
      · rw [hm]
        refine atI_nat ?_
        rw [List.getElem?_map,List.getElem?_eq_getElem (by simpa using hlt)]; rfl
      · exact ⟨_,rfl,_,rfl,a,_,rfl,.inl (s1.seq ha),_,_,rfl,rfl,⟨by rw [hlen]; omega,by rw [hlen]; omega⟩,_,_,rfl,rfl,.inl ⟨by decide,by decide⟩,_,_,rfl,rfl,k _ _ s1⟩
theorem lt0 {d:Int} (h:0 < d):0 < d:=h
theorem cmE {t d q:Int} (h:0 < d) (h2:d < 18446744073709551616):CMul (t % d) q:=by
  have h1:=Int.emod_nonneg t (show d≠0 by omega)
  have h3:=Int.emod_lt_of_pos t h
  exact .inl ⟨by omega,by omega⟩
def spDrawn (K:PySem.W.Frag):Sp:=fun vs H Q _=>∃ (a:Addr) (ns:List Int) (k m:Nat),vs=[.ref a,.int k,.int m]∧SqL K H a (ns.map V.int)∧ns.length≤63∧1≤m∧m < 1000∧∀ (i:Nat) H',i < m→Same H H'→Q (.int i) H'
abbrev sDrawn:Stmt:=top 66
theorem scDrawn:FnScope ["_law_script", "_law_k", "_law_many", "_law_cell_here"] ["_law_script", "_law_k", "_law_many"] (defScope sDrawn):=⟨rfl,rfl,rfl,by decide +kernel,rfl,by decide +kernel,by decide +kernel⟩
theorem ok_drawn {f:Addr}{fd:FuncData} (F:Fun K "_law_drawn" "_law_drawn" sDrawn f fd) (c1:Cal P w K mg base 1 "_law_cell" ["_law_script", "_law_k"] (spCell K)):FnOk P w K mg base CX0 2 f fd ["_law_script", "_law_k", "_law_many"] (spDrawn K):=by
  refine F.ok scDrawn (fun vs H Q E h=>?_) (fun cdv A outer s H vs Q E hr h=>?_)
  · obtain ⟨a,ns,k,m,rfl,_⟩:=h; rfl
  · obtain ⟨a,ns,n,m,rfl,ha,hl,hm1,hm2,k⟩:=h
    have nd:=scDrawn.nd
    refine ⟨_,pss_cons (ps_set (i:=3) nd rfl (Or.inl rfl) (pe_op op_mod (pe_op op_add (pe_op op_mul (pe_op op_mod (pe_cal c1 hr rfl (pa_cons (pv 0) (pa_cons (pv 1) pa_nil))) pe_int) pe_int) (pe_op op_mul pe_int (pe_op op_add (pv 1) pe_int))) pe_int))
      (pss_cons (ps_set (i:=3) nd rfl (Or.inl rfl) (pe_op op_mod (pe_op op_add (pe_op op_mul (pv 3) (pv 3)) (pe_op op_fdiv (pv 3) pe_int)) pe_int))
      (pss_one (ps_ret (pe_op op_mod (pe_op op_fdiv (pe_op op_mod (pe_op op_add (pe_op op_mul (pv 3) (pv 3)) (pe_op op_fdiv (pv 3) pe_int)) pe_int) pe_int) (pv 2))))),?_⟩
    refine ⟨_,rfl,_,rfl,a,ns,n,rfl,ha,hl,fun i H' s1=>?_⟩
    have fin:∀ z:Int,Q (.int (z % (m:Int))) H':=fun z=>by
      have z1:0≤z % (m:Int):=Int.emod_nonneg _ (by omega)
      have z2:z % (m:Int) < m:=Int.emod_lt_of_pos _ (by omega)
      have e:z % (m:Int)=((z % (m:Int)).toNat:Int):=(Int.toNat_of_nonneg z1).symm
      rw [e]
      exact k _ _ (by omega) s1
    refine ⟨_,_,rfl,rfl,lt0 (by decide),_,_,rfl,rfl,.inr ⟨by decide,by decide⟩,?_⟩
    refine ⟨_,rfl,_,_,rfl,rfl,_,_,rfl,rfl,.inl ⟨by decide,by decide⟩,_,_,rfl,rfl,_,_,rfl,rfl,lt0 (by decide),?_⟩
    refine ⟨_,rfl,_,rfl,_,_,rfl,rfl,cmE (by decide) (by decide),_,rfl,_,_,rfl,rfl,⟨by decide,by decide⟩,_,_,rfl,rfl,_,_,rfl,rfl,lt0 (by decide),?_⟩
    refine ⟨_,rfl,_,rfl,_,_,rfl,rfl,cmE (by decide) (by decide),_,rfl,_,_,rfl,rfl,⟨by decide,by decide⟩,_,_,rfl,rfl,_,_,rfl,rfl,lt0 (by decide),_,_,rfl,rfl,⟨by decide,by decide⟩,_,rfl,_,_,rfl,rfl,?_,fin _⟩
    show (0:Int) < (m:Int)
    omega
end
end Kn
end
section
namespace Kn
open PySem L2
section
variable {P:Program}{w:World}{K:PySem.W.Frag}{mg:Str→Option Value}{base:Heap}
def spName (K:PySem.W.Frag):Sp:=fun vs H Q _=>∃ (a:Addr) (ns:List Int) (at' most:Nat),vs=[.ref a,.int at',.int most]∧SqL K H a (ns.map V.int)∧ns.length≤63∧1≤most∧most≤8 ∧
  ∀ (x:S) H',Same H H'→isNm x→(x.length≤most∧∀ c∈x,(c=97∨c=98∨c=122))→Q (sv x) H'
abbrev sName:Stmt:=top 67
theorem scName:FnScope ["_law_script", "_law_at", "_law_most", "_law_size", "_law_letters"] ["_law_script", "_law_at", "_law_most"] (defScope sName):=⟨rfl,rfl,rfl,by decide +kernel,rfl,by decide +kernel,by decide +kernel⟩
theorem ndN:(["_law_letters", "_law_script", "_law_at", "_law_k"]:List Str).Nodup:=by decide +kernel
abbrev cDr (P:Program) (w:World) (K:PySem.W.Frag) (mg:Str→Option Value) (base:Heap):Prop:=Cal P w K mg base 2 "_law_drawn" ["_law_script", "_law_k", "_law_many"] (spDrawn K)
theorem ok_name {f:Addr}{fd:FuncData} (F:Fun K "_law_name" "_law_name" sName f fd) (B:Blt mg) (c1:cDr P w K mg base):FnOk P w K mg base CX0 3 f fd ["_law_script", "_law_at", "_law_most"] (spName K):=by
  refine F.ok scName (fun vs H Q E h=>?_) (fun cdv A outer s H vs Q E hr h=>?_)
  · obtain ⟨a,ns,k,m,rfl,_⟩:=h; rfl
  · obtain ⟨a,ns,n,m,rfl,ha,hl,hm1,hm2,k⟩:=h
    have nd:=scName.nd
    refine ⟨_,pss_cons (ps_set (i:=3) nd rfl (Or.inl rfl) (pe_op op_add pe_int (pe_cal c1 hr rfl (pa_cons (pv 0) (pa_cons (pv 1) (pa_cons (pv 2) pa_nil))))))
      (pss_cons (ps_set (i:=4) nd rfl (Or.inr rfl) (pe_ix ix_list (pe_lst (pa_cons pe_str (pa_cons pe_str (pa_cons pe_str pa_nil)))) (pe_cal c1 hr rfl (pa_cons (pv 0) (pa_cons (pe_op op_add (pv 1) pe_int) (pa_cons pe_int pa_nil)))) (fun _ _=>rfl)))
      (pss_one (ps_ret (pe_bm PySem.F.plainAttrs_str PySem.F.slot_str_join PySem.F.type_str_join mt_join pe_str (pa_cons
        (pe_comp (N:=["_law_letters", "_law_script", "_law_at", "_law_k"]) (caps:=[4,0,1]) rfl (compScope_of (by kernel_rfl)) (pi_range1 rfl B.range (pa_cons (pv 3) pa_nil))
          (fun cl C s H ex=>pg_name (i:=3) ndN rfl (Or.inl rfl)) (fun cl C s H ex=>pf_nil)
          (fun cl C s H ex=>pe_ix ix_str (pv 0) (pe_cal c1 hr rfl (pa_cons (pv 1) (pa_cons (pe_op op_add (pe_op op_add (pv 2) pe_int) (pv 3)) (pa_cons (pe_callB call_len_str (by rfl) B.len PySem.boot_len (pa_cons (pv 0) pa_nil)) pa_nil)))) (fun _ _=>rfl))) pa_nil))))),?_⟩
    refine ⟨_,rfl,_,rfl,_,rfl,a,ns,n,m,rfl,ha,hl,hm1,by omega,fun sz H1 hsz s1=>?_⟩
    refine ⟨_,_,rfl,rfl,?_⟩
    refine ⟨by show 3≤sizeLine; decide,fun p hp=>?_⟩
    have s2:Same H1 (upd H1 p (.lst [.str "ab",.str "ab",.str "abz"])):=Same.upd1 hp
    refine ⟨_,rfl,_,rfl,_,_,rfl,rfl,a,ns,n+9,3,rfl,s2.seq (s1.seq ha),hl,by decide,by decide,fun li H3 hli s3=>?_⟩
    have s123:=(s1.trans s2).trans s3
    obtain ⟨L,hL,e⟩:∃ L:S,(L=[97,98]∨L=[97,98,122])∧([.str "ab",.str "ab",.str "abz"]:List V)[li]?=some (sv L):=by
      match li,hli with
      | 0,_=>exact ⟨[97,98],.inl rfl,rfl⟩
      | 1,_=>exact ⟨[97,98],.inl rfl,rfl⟩
      | 2,_=>exact ⟨[97,98,122],.inr rfl,rfl⟩
    refine ⟨p,_,_,sv L,rfl,rfl,.of (s3 _ _ upd_same),atI_nat e,?_⟩
    refine ⟨rfl,_,rfl,_,rfl,by omega,by omega,?_⟩
    have hLl:L.length=2∨L.length=3:=by rcases hL with h | h <;> subst h <;> simp
    have hLc:∀ c∈L,(97≤c∧c≤122)∧(c=97∨c=98∨c=122):=by rcases hL with h | h <;> subst h <;> decide
    have hnn:(1+(sz:Int)).toNat=sz+1:=by omega
    refine comp_known0 (known_range 0 _) [some (sv L),some (.ref a),some (.int n)] 1 (by rw [List.length_map,List.length_range,hnn]; omega) (fun i acc H'=>Same H3 H'∧∃ cs:S,acc=cs.map (fun c=>V.str (tx [c]))∧cs.length=i∧∀ c∈cs,(97≤c∧c≤122)∧(c=97∨c=98∨c=122))
      ⟨Same.refl _,[],rfl,rfl,by simp⟩ (fun i acc H' _ h=>⟨trivial,by obtain ⟨_,cs,rfl,h,_⟩:=h; rw [List.length_map]; omega⟩) ?_ ?_
    · rintro i x acc H' ys Nx hN hx hy ⟨sm,cs,rfl,hcl,hcs⟩
      obtain ⟨y,rfl⟩:=ys1 hy
      rw [hnn] at hx
      obtain ⟨hi,rfl⟩:=range_item hx
      refine ⟨_,rfl,_,rfl,_,rfl,_,_,rfl,rfl,_,rfl,_,_,rfl,rfl,_,rfl,tx L,rfl,by rw [tx_len,sizeLine_eq]; omega,?_⟩
      rw [tx_len]
      refine ⟨a,ns,n+1+i,L.length,rfl,(s123.trans sm).seq ha,hl,by omega,by omega,fun j H5 hj s5=>?_⟩
      refine ⟨tx L,_,L[j],rfl,rfl,by rw [tx_len,sizeLine_eq]; omega,?_,?_⟩
      · rw [tx_cps]
        exact atI_nat (List.getElem?_eq_getElem hj)
      · refine hN _ _ [some (.int i)] rfl ⟨sm.trans s5,cs++[L[j]],by rw [List.map_append]; rfl,by rw [List.length_append,hcl]; rfl,fun c hc=>?_⟩
        rcases List.mem_append.mp hc with z | z
        · exact hcs c z
        · have:c=L[j]:=by simpa using z
          rw [this]
          exact hLc _ (List.getElem_mem hj)
    · rintro acc H' ⟨sm,cs,rfl,hcl,hcs⟩ D hD
      rw [List.length_map,List.length_range,hnn] at hcl
      have esum:((cs.map fun c=>tx [c]).map (·.length)).sum=cs.length:=by
        clear hcl hcs
        induction cs with
        | nil=>rfl
        | cons c cs ih=>rw [List.map_cons,List.map_cons,List.sum_cons,ih,List.length_cons,tx_len]; show 1+_=_; omega
      refine ⟨_,D,cs.map (fun c=>tx [c]),rfl,rfl,.of (by rw [upd_same,List.map_map]; rfl),?_,?_⟩
      · rw [esum]
        show _+_ * 0≤_
        omega
      · have ej:Txt.join ⟨#[]⟩ (cs.map fun c=>tx [c])=tx cs:=by
          rw [join_flat,List.map_map]
          congr 1
          clear hcl hcs esum
          congr 1
          induction cs with
          | nil=>rfl
          | cons c cs ih=>rw [List.map_cons,List.flatten_cons,ih]; rfl
        have kk:∀ Hx,Same H Hx→Q (.str (Txt.join ⟨#[]⟩ (cs.map fun c=>tx [c]))) Hx:=fun Hx sx=>by
          rw [ej]
          exact k cs Hx sx ⟨by omega,by omega,fun c hc=>(hcs c hc).1⟩ ⟨by omega,fun c hc=>(hcs c hc).2⟩
        exact kk _ ((s123.trans sm).trans (Same.upd1 hD))
end
end Kn
end
section
namespace Kn
open PySem L2
section
variable {P:Program}{w:World}{K:PySem.W.Frag}{mg:Str→Option Value}{base:Heap}
def spBook (K:PySem.W.Frag):Sp:=fun vs H Q _=>∃ (a:Addr) (ns:List Int) (at' many most:Nat),vs=[.ref a,.int at',.int many,.int most]∧SqL K H a (ns.map V.int)∧ns.length≤63∧1≤many∧many≤8∧1≤most∧most≤8 ∧
  ∀ (p:Addr) (bk:List S) H',Same H H'→H' p=some (.tup (bkV bk))→1≤bk.length→bk.length≤many→(∀ x∈bk,isNm x∧x.length≤most∧∀ c∈x,c=97∨c=98∨c=122)→Q (.ref p) H'
abbrev sBook:Stmt:=top 68
theorem scBook:FnScope ["_law_script", "_law_at", "_law_many", "_law_most", "_law_found", "_law_k"] ["_law_script", "_law_at", "_law_many", "_law_most"] (defScope sBook):=⟨rfl,rfl,rfl,by decide +kernel,rfl,by decide +kernel,by decide +kernel⟩
theorem ok_book {f:Addr}{fd:FuncData} (F:Fun K "_law_book" "_law_book" sBook f fd) (B:Blt mg) (c1:cDr P w K mg base) (c2:Cal P w K mg base 3 "_law_name" ["_law_script", "_law_at", "_law_most"] (spName K)):FnOk P w K mg base CX0 4 f fd ["_law_script", "_law_at", "_law_many", "_law_most"] (spBook K):=by
  refine F.ok scBook (fun vs H Q E h=>?_) (fun cdv A outer s H vs Q E hr h=>?_)
  · obtain ⟨a,ns,k,m,l,rfl,_⟩:=h; rfl
  · obtain ⟨a,ns,n,many,most,rfl,ha,hl,hm1,hm2,hs1,hs2,k⟩:=h
    have nd:=scBook.nd
    have hr2:=hr.mono (j:=2) (by decide)
    refine ⟨_,pss_cons (ps_set (i:=4) nd rfl (Or.inl rfl) (pe_tup pa_nil))
      (pss_cons (ps_for PassesOwn.never rfl (pi_range1 rfl B.range (pa_cons (pe_op op_add pe_int (pe_cal c1 hr2 rfl (pa_cons (pv 0) (pa_cons (pv 1) (pa_cons (pv 2) pa_nil))))) pa_nil)) (pg_name (i:=5) nd rfl (Or.inl rfl))
        (pss_one (ps_set (i:=4) nd rfl (Or.inl rfl) (pe_op (op_catT0.or op_catT) (pv 4) (pe_tup (pa_cons (pe_cal c2 hr rfl (pa_cons (pv 0) (pa_cons (pe_op op_add (pe_op op_add (pv 1) pe_int) (pe_op op_mul pe_int (pv 5))) (pa_cons (pv 3) pa_nil)))) pa_nil))))))
      (pss_one (ps_ret (pv 4)))),?_⟩
    refine ⟨by show 0≤sizeLine; decide,fun p0 hp0=>?_⟩
    have s0:Same H (upd H p0 (.tup [])):=Same.upd1 hp0
    refine ⟨_,rfl,_,rfl,_,rfl,a,ns,n,many,rfl,s0.seq ha,hl,hm1,by omega,fun sz H1 hsz s1=>?_⟩
    refine ⟨_,_,rfl,rfl,_,rfl,by omega,by omega,?_⟩
    have hnn:(1+(sz:Int)).toNat=sz+1:=by omega
    refine for_known (known_range 0 _) (fun i σ H2=>∃ (p:Addr) (bk:List S) (y:Option V),σ=[some (.ref a),some (.int n),some (.int many),some (.int most),some (.ref p),y]∧Same H H2∧H2 p=some (.tup (bkV bk))∧bk.length=i∧∀ x∈bk,isNm x∧x.length≤most∧∀ c∈x,c=97∨c=98∨c=122)
      ⟨p0,[],_,rfl,s0.trans s1,s1 _ _ upd_same,rfl,by simp⟩ (fun _ _ _ _ _=>trivial) ?_ ?_
    · rintro i x σ H2 Nx hN hx ⟨p,bk,y,rfl,sm,hp,hbl,hbn⟩
      rw [hnn] at hx
      obtain ⟨hi,rfl⟩:=range_item hx
      refine ⟨_,rfl,_,rfl,_,rfl,_,_,rfl,rfl,_,rfl,_,_,rfl,rfl,.inl ⟨by decide,by decide⟩,_,_,rfl,rfl,_,rfl,a,ns,n+1+10 * i,most,rfl,sm.seq ha,hl,hs1,hs2,fun x H3 s3 hx1 hx2=>?_⟩
      refine ⟨by show 1≤sizeLine; decide,fun q hq=>?_⟩
      have s4:Same H3 (upd H3 q (.tup [sv x])):=Same.upd1 hq
      have nx:∀ b∈bk++[x],isNm b∧b.length≤most∧∀ c∈b,c=97∨c=98∨c=122:=fun b hb=>by
        rcases List.mem_append.mp hb with z | z
        · exact hbn b z
        · have:b=x:=by simpa using z
          rw [this]; exact ⟨hx1,hx2⟩
      cases bk with
      | nil=>exact .inl ⟨p,q,_,rfl,rfl,.of (s4 _ _ (s3 _ _ hp)),.of upd_same,hN _ _ ⟨q,[x],_,rfl,(sm.trans s3).trans s4,upd_same,by rw [← hbl]; rfl,nx⟩⟩
      | cons c cs =>
        refine .inr ⟨p,q,_,_,rfl,rfl,.of (s4 _ _ (s3 _ _ hp)),.of upd_same,by simp [bkV],?_,fun z=>by simp at z,fun _ r hr'=>hN _ _ ⟨r,(c::cs)++[x],_,rfl,((sm.trans s3).trans s4).trans (Same.upd1 hr'),?_,by rw [List.length_append,hbl]; rfl,nx⟩⟩
        · have:(bkV (c::cs)).length=i:=by rw [← hbl]; simp [bkV]
          rw [this,sizeLine_eq]
          show i+1≤_
          omega
        · rw [upd_same]
          unfold bkV
          rw [List.map_append]; rfl
    · rintro σ H2 ⟨p,bk,y,rfl,sm,hp,hbl,hbn⟩
      rw [List.length_map,List.length_range,hnn] at hbl
      exact ⟨_,rfl,k p bk H2 sm hp (by omega) (by omega) hbn⟩
end
end Kn
end
section
namespace Kn
open PySem L2
section
variable {X:Cx}{tg:Expr}
end
theorem tx_app (a b:S):tx a++tx b=tx (a++b):=by
  apply MyS.Str_ext
  show ((tx a).cps++(tx b).cps).toList=_
  simp [tx]
theorem ite_ne {d:PyData}{A B:Prop} (hd:d.canLay0=true) (h:B):if (if true=true then !PyData.eqv d d else PyData.eqv d d)=true then A else B:=by
  rw [eqv_refl d hd]; exact h
theorem strOk_of {t:S} (h:∀ c∈t,c≤122):PyData.strOk (tx t)=true:=by
  unfold PyData.strOk
  rw [Array.all_eq_true']
  intro c hc
  have hc':c∈t:=by simpa [tx] using hc
  have:=h c hc'
  exact decide_eq_true (by omega)
theorem shaped_list {ds:List PyData} (h:∀ d∈ds,d.canLay0=true∧d.depth≤10):SeqAt.shaped (.list ds)=true∧(PyData.list ds).canLay0=true:=by
  have h1:PyData.canLayAll0 ds=true:=by
    induction ds with
    | nil=>rfl
    | cons d ds ih=>simp only [PyData.canLayAll0,(h d (List.mem_cons_self ..)).1,ih fun e he=>h e (List.mem_cons_of_mem _ he),Bool.and_self]
  have h2:PyData.depthAll ds≤10:=by
    clear h1
    induction ds with
    | nil=>decide
    | cons d ds ih =>
      have a:=(h d (List.mem_cons_self ..)).2
      have b:=ih (fun e he=>h e (List.mem_cons_of_mem _ he))
      simp only [PyData.depthAll]; omega
  have h3:(PyData.list ds).canLay0=true:=by simp only [PyData.canLay0]; exact h1
  have h4:(PyData.list ds).depth≤64:=by simp only [PyData.depth]; omega
  unfold SeqAt.shaped
  rw [h3,decide_eq_true h4]; exact ⟨rfl,rfl⟩
theorem pair_chars {o:Nat}{t:S} (h:isNm t) {p:S × S} (hp:p∈pairs1 o t):(∀ c∈p.1,97≤c∧c≤122)∧∀ c∈p.2,97≤c∧c≤122:=by
  obtain ⟨i,_,rfl⟩:=List.mem_map.mp hp
  refine ⟨fun c hc=>?_,fun c hc=>?_⟩
  · exact h.2.2 c (List.mem_of_mem_take (List.mem_of_mem_drop hc))
  · exact h.2.2 c (List.mem_of_mem_drop (List.mem_of_mem_take hc))
theorem plen_le4 {bk:List S}{o:Nat} (h:∀ x∈bk,x.length≤4):(pairsB o bk).length≤5 * bk.length:=by
  have e:=pairsB_length o bk
  have go:∀ l:List S,(∀ x∈l,x.length≤4)→(l.map fun x=>(x.length:Int)+1).sum≤5 * (l.length:Int):=by
    intro l
    induction l with
    | nil=>intro _; simp
    | cons x r ih =>
      intro hl
      have h1:=hl x (List.mem_cons_self ..)
      have h2:=ih fun y hy=>hl y (List.mem_cons_of_mem _ hy)
      rw [List.map_cons,List.sum_cons,List.length_cons]
      have:((r.length+1:Nat):Int)=(r.length:Int)+1:=rfl
      omega
  have:=go bk h
  omega
theorem nat_sorted_eq:∀ {l₁ l₂:List Nat},l₁.Pairwise (· < ·)→l₂.Pairwise (· < ·)→(∀ x,x∈l₁↔x∈l₂)→l₁=l₂
  | [],[],_,_,_=>rfl
  | [],y::ys,_,_,h=>absurd ((h y).mpr (List.mem_cons_self ..)) (by simp)
  | x::xs,[],_,_,h=>absurd ((h x).mp (List.mem_cons_self ..)) (by simp)
  | x::xs,y::ys,hx,hy,h=>by
    have hx1:=(List.pairwise_cons.mp hx).1
    have hy1:=(List.pairwise_cons.mp hy).1
    have exy:x=y:=by
      rcases List.mem_cons.mp ((h x).mp (List.mem_cons_self ..)) with e | e
      · exact e
      · rcases List.mem_cons.mp ((h y).mpr (List.mem_cons_self ..)) with e' | e'
        · exact e'.symm
        · have:=hy1 x e; have:=hx1 y e'; omega
    subst exy
    have:xs=ys:=nat_sorted_eq (List.pairwise_cons.mp hx).2 (List.pairwise_cons.mp hy).2 fun p=>by
      constructor
      · intro hp
        rcases List.mem_cons.mp ((h p).mp (List.mem_cons_of_mem _ hp)) with e | e
        · subst e; have:=hx1 p hp; omega
        · exact e
      · intro hp
        rcases List.mem_cons.mp ((h p).mpr (List.mem_cons_of_mem _ hp)) with e | e
        · subst e; have:=hy1 p hp; omega
        · exact e
    rw [this]
section
variable {K:PySem.W.Frag}
end
end Kn
end
section
namespace L2
open PySem PySem.Spec PyProof.Rows
section
variable {prog:Program}{w:World}{A:Around}{E:Value→Shared→Prop}{s:Shared}
theorem nextOf_tup_item {it t:Addr}{i:Nat}{items}{x:Value}{Q:Value→Shared→Prop} (hit:s.heap.IsTupleIter it t i) (ht:s.heap.IsTuple t items) (hx:items[i]?=some x)
    (hQ:∀ h',h'.IsTupleIter it t (i+1)→Heap.SameBut it s.heap h'→Q x { s with heap:=h' }):wpAny (model prog w) A (Builtin.SmallTypes.nextOf (.ref it)) Q E s:=by
  obtain ⟨o,ho,hc,hd⟩:=id hit
  obtain ⟨ol,hol,_,nl,hdl⟩:=ht
  unfold Builtin.SmallTypes.nextOf
  refine wpAny_bind (wpAny_callSpecial?_slot (name:=Str.ofString "__next__") hit.typeIs F.slot_tuple_iterator_next (wpAny_call_entry F.slot_tuple_iterator_next hit.typeIs F.entry_tuple_iterator_next ?_ (F.args_tuple_iterator_next_1 _)))
  show wpAny _ _ (field (.ref it) 0 >>= _) _ _ s
  refine wpAny_bind (wpAny_field ho hd (x:=.ref t) rfl ?_)
  show wpAny _ _ (if (Value.ref t == Value.none)=true then _ else _) _ _ s
  rw [if_neg (show ¬ ((Value.ref t == Value.none)=true) from Bool.false_ne_true)]
  show wpAny _ _ (field (.ref it) 1 >>= _) _ _ s
  refine wpAny_bind (wpAny_field ho hd (x:=.int i 0) rfl ?_)
  show wpAny _ _ (seqItems? (.ref t) >>= _) _ _ s
  refine wpAny_bind (wpAny_seqItems hol hdl ?_)
  simp only [Int.toNat_natCast,hx]
  refine wpAny_bind (wpAny_setField ho hd (by simp) (wpAny_pure ⟨x,rfl,wpAny_pure (hQ _ ?_ (Heap.SameBut.update ..))⟩))
  exact ⟨_,Heap.get?_update_self _ ho (Obj.isFreed_of_fields (Obj.data_mapFields hd _)),(Obj.cls_mapFields ..).trans hc,by rw [Obj.data_mapFields hd]; simp [rawInt]⟩
theorem nextOf_tup_end {it t:Addr}{i:Nat}{items}{Q:Value→Shared→Prop} (hh:A.handled=none) (hit:s.heap.IsTupleIter it t i) (ht:s.heap.IsTuple t items) (hx:items[i]?=none)
    (hE:∀ h' e,Heap.ExtBut it s.heap h'→(∃ o,h'.get? e=some o∧o.cls=.type "StopIteration")→E (.ref e) { s with heap:=h' }):wpAny (model prog w) A (Builtin.SmallTypes.nextOf (.ref it)) Q E s:=by
  obtain ⟨o,ho,hc,hd⟩:=id hit
  obtain ⟨ol,hol,_,nl,hdl⟩:=ht
  unfold Builtin.SmallTypes.nextOf
  refine wpAny_bind (wpAny_callSpecial?_slot (name:=Str.ofString "__next__") hit.typeIs F.slot_tuple_iterator_next (wpAny_call_entry F.slot_tuple_iterator_next hit.typeIs F.entry_tuple_iterator_next ?_ (F.args_tuple_iterator_next_1 _)))
  show wpAny _ _ (field (.ref it) 0 >>= _) _ _ s
  refine wpAny_bind (wpAny_field ho hd (x:=.ref t) rfl ?_)
  show wpAny _ _ (if (Value.ref t == Value.none)=true then _ else _) _ _ s
  rw [if_neg (show ¬ ((Value.ref t == Value.none)=true) from Bool.false_ne_true)]
  show wpAny _ _ (field (.ref it) 1 >>= _) _ _ s
  refine wpAny_bind (wpAny_field ho hd (x:=.int i 0) rfl ?_)
  show wpAny _ _ (seqItems? (.ref t) >>= _) _ _ s
  refine wpAny_bind (wpAny_seqItems hol hdl ?_)
  simp only [Int.toNat_natCast,hx]
  refine wpAny_bind (wpAny_rule (wpAny_bind (wpAny_setField ho hd (by simp) ?_)))
  show wpAny _ _ (newExc (.type "StopIteration") [] >>= _) _ _ _
  refine wpAny_bind ?_
  simp only [newExc,newTuple]
  refine wpAny_bind (wpAny_newObj_type ?_ (by size_fits))
  refine wpAny_bind (m:=firstArgMember _ _) (wpAny_of_eq (a:=Value.none) (by first | rfl | (simp only [firstArgMember]; rfl)) ?_)
  refine wpAny_newObj_type ?_ (by size_fits)
  simp only [raiseNew]
  refine wpAny_bind (wpAny_handled ?_)
  first | rw [show A.in1.handled=none from hh] | rw [hh]
  refine wpAny_bind (wpAny_pure (wpAny_throw ?_))
  exact hE _ _ (((Heap.SameBut.update ..).extBut.push _).push _) ⟨_,Heap.get?_push_size _ rfl,rfl⟩
end
theorem drawsTup {prog:Program}{w:World}{A:Around} (hh:A.handled=none) (it l:Addr) (hne:l≠it) (items:Array Value) :
    Draws prog w A it [it,l] items.size (fun i v=>items[i]?=some v) (fun i h=>h.IsTupleIter it l i∧h.IsTuple l items) where
  live:=fun _ _ st=>let ⟨o,ho,_⟩:=st.1; ⟨o,ho⟩
  frame:=fun _ _ _ st hk=>⟨st.1.at fun o e=>hk it (by simp) o e,let ⟨o,e,r⟩:=st.2; ⟨o,hk l (by simp) o e,r⟩⟩
  item:=fun i s Q E hi st hQ=>nextOf_tup_item st.1 st.2 (x:=items[i]) (by simp [hi]) fun h' hit' hs'=>hQ _ h' s.toks (by simp [hi]) ⟨hit',st.2.extBut hs'.extBut hne⟩ hs'
  done:=fun s Q E st hE=>nextOf_tup_end hh st.1 st.2 (by simp) hE
structure Side (z TI TO i1 i2:Addr) (fp1 fp2:List Addr):Prop where
  TIz:TI≠z
  TOz:TO≠z
  i1z:i1≠z
  i2z:i2≠z
  TITO:TI≠TO
  TIi1:TI≠i1
  TIi2:TI≠i2
  TOi1:TO≠i1
  TOi2:TO≠i2
  i12:i1≠i2
  f1:∀ c∈fp1,c≠z∧c≠TO∧c≠i2
  f2:∀ c∈fp2,c≠z∧c≠TO∧c≠i1
section
variable {prog:Program}{w:World}{A:Around}{E:Value→Shared→Prop}{s:Shared}{z TI TO i1 i2:Addr}{fp1 fp2:List Addr}{n1 n2:Nat}{P1 P2:Nat→Value→Prop}{T1 T2:Nat→Heap→Prop}{k:Nat}{a b:Value}
theorem zipD_item {Q:Value→Shared→Prop} (D1:Draws prog w A i1 fp1 n1 P1 T1) (D2:Draws prog w A i2 fp2 n2 P2 T2) (D:Side z TI TO i1 i2 fp1 fp2)
    (hz:IsZip s.heap z TI TO .none) (hTI:IsPair s.heap TI (.ref i1) (.ref i2)) (hTO:IsPair s.heap TO a b) (t1:T1 k s.heap) (t2:T2 k s.heap) (l1:k < n1) (l2:k < n2)
    (hQ:∀ x y h' tk,P1 k x→P2 k y→IsZip h' z TI TO (rawInt s.heap.objs.size)→IsPair h' TO x y→T1 (k+1) h'→T2 (k+1) h'→IsPair h' s.heap.objs.size x y→h'.objs.size=s.heap.objs.size+1 →
      (∀ c o,c≠z→c≠TO→c≠i1→c≠i2→s.heap.get? c=some o→h'.get? c=some o)→Q (.ref s.heap.objs.size) { s with heap:=h',toks:=tk }) :
    wpAny (model prog w) A (Builtin.«zip.__next__» ⟨[.ref z],[]⟩) (fun fin s'=>∃ v,fin=.done (.ret v)∧Q v s') E s:=by
  show wpAny _ _ (field (.ref z) 2 >>= _) _ _ _
  refine wpAny_bind (wpAny_field hz rfl (x:=.bool false) rfl ?_)
  show wpAny _ _ (field (.ref z) 3 >>= _) _ _ _
  refine wpAny_bind (wpAny_field hz rfl (x:=.ref TI) rfl ?_)
  refine wpAny_bind (wpAny_seqItems hTI rfl ?_)
  show wpAny _ _ (Builtin.SmallTypes.ownedTupleIsFree (.ref z) >>= _) _ _ _
  refine wpAny_bind ?_
  unfold Builtin.SmallTypes.ownedTupleIsFree
  refine wpAny_bind (wpAny_field hz rfl (x:=.none) rfl (wpAny_pure ?_))
  simp only [if_true]
  refine wpAny_bind (wpAny_rule ?_)
  refine wpAny_bind (wpAny_field hz rfl (x:=.ref TO) rfl ?_)
  refine wpAny_bind (wpAny_setField_rec hz (by simp) fun h₁ hz₁ hs₁=>?_)
  replace hz₁:IsZip h₁ z TI TO .ellipsis:=hz₁
  refine wpAny_bind ?_
  simp only [List.zipIdx_cons,List.zipIdx_nil,List.forIn_cons,List.forIn_nil]
  refine wpAny_bind (wpAny_bind (wpAny_onRaise ?_))
  show wpAny _ _ (Builtin.SmallTypes.nextOf (.ref i1) >>= _) _ _ _
  have t1₁:T1 k h₁:=D1.frame _ _ _ t1 fun c hc o e=>hs₁.extBut _ _ (D.f1 c hc).1 e
  have t2₁:T2 k h₁:=D2.frame _ _ _ t2 fun c hc o e=>hs₁.extBut _ _ (D.f2 c hc).1 e
  refine wpAny_bind (D1.item k _ _ _ l1 t1₁ fun x h₂ tk2 px t1₂ hs₂=>wpAny_pure ?_)
  have hTO₂:IsPair h₂ TO a b:=hs₂.extBut _ _ D.TOi1 (hs₁.extBut _ _ D.TOz hTO)
  refine wpAny_bind (wpAny_seqItems hTO₂ rfl ?_)
  refine wpAny_bind (wpAny_updateSeq_pair hTO₂ fun h₃ hTO₃ hs₃=>?_)
  replace hTO₃:IsPair h₃ TO x b:=hTO₃
  refine wpAny_bind (wpAny_letGo (wpAny_pure ?_))
  refine wpAny_bind (wpAny_bind (wpAny_onRaise ?_))
  show wpAny _ _ (Builtin.SmallTypes.nextOf (.ref i2) >>= _) _ _ _
  have t2₃:T2 k h₃:=D2.frame _ _ _ t2₁ fun c hc o e=>hs₃.extBut _ _ (D.f2 c hc).2.1 (hs₂.extBut _ _ (D.f2 c hc).2.2 e)
  refine wpAny_bind (D2.item k _ _ _ l2 t2₃ fun y h₄ tk4 py t2₄ hs₄=>wpAny_pure ?_)
  have hTO₄:IsPair h₄ TO x b:=hs₄.extBut _ _ D.TOi2 hTO₃
  refine wpAny_bind (wpAny_seqItems hTO₄ rfl ?_)
  refine wpAny_bind (wpAny_updateSeq_pair hTO₄ fun h₅ hTO₅ hs₅=>?_)
  replace hTO₅:IsPair h₅ TO x y:=hTO₅
  refine wpAny_bind (wpAny_letGo (wpAny_pure (wpAny_pure ?_)))
  refine wpAny_bind (wpAny_seqItems hTO₅ rfl ?_)
  refine wpAny_bind (wpAny_newTuple ?_)
  have hsz:h₅.objs.size=s.heap.objs.size:=by rw [hs₅.1,hs₄.1,hs₃.1,hs₂.1,hs₁.1]
  have hz₅:IsZip h₅ z TI TO .ellipsis:=hs₅.extBut _ _ D.TOz.symm (hs₄.extBut _ _ D.i2z.symm (hs₃.extBut _ _ D.TOz.symm (hs₂.extBut _ _ D.i1z.symm hz₁)))
  have hk₅:∀ c o,c≠z→c≠TO→c≠i1→c≠i2→s.heap.get? c=some o→h₅.get? c=some o:=fun c o c1 c2 c3 c4 e =>
    hs₅.extBut _ _ c2 (hs₄.extBut _ _ c4 (hs₃.extBut _ _ c2 (hs₂.extBut _ _ c3 (hs₁.extBut _ _ c1 e))))
  have t1₅:T1 (k+1) h₅:=D1.frame _ _ _ t1₂ fun c hc o e=>hs₅.extBut _ _ (D.f1 c hc).2.1 (hs₄.extBut _ _ (D.f1 c hc).2.2 (hs₃.extBut _ _ (D.f1 c hc).2.1 e))
  have t2₅:T2 (k+1) h₅:=D2.frame _ _ _ t2₄ fun c hc o e=>hs₅.extBut _ _ (D.f2 c hc).2.1 e
  have hzlt:z < h₅.objs.size:=Heap.lt_size hz₅
  show wpAny _ _ (Builtin.SmallTypes.ownedTupleHandOut (.ref z) (.ref h₅.objs.size) >>= _) _ _ _
  refine wpAny_bind ?_
  unfold Builtin.SmallTypes.ownedTupleHandOut
  have hz₆:IsZip (h₅.push { cls:=.type "tuple",data:=.seq #[x,y] }) z TI TO .ellipsis:=Heap.get?_push_of_some _ hz₅
  refine wpAny_bind (wpAny_setField_rec hz₆ (by simp) fun h₇ hz₇ hs₇=>?_)
  replace hz₇:IsZip h₇ z TI TO (rawInt h₅.objs.size):=hz₇
  refine wpAny_setField_rec hz₇ (by simp) fun h₈ hz₈ hs₈=>?_
  replace hz₈:IsZip h₈ z TI TO (rawInt h₅.objs.size):=hz₈
  have up:∀ c o,c≠z→h₅.get? c=some o→h₈.get? c=some o:=fun c o c1 e=>hs₈.extBut _ _ c1 (hs₇.extBut _ _ c1 (Heap.get?_push_of_some _ e))
  have hT₈:IsPair h₈ h₅.objs.size x y:=hs₈.extBut _ _ (Nat.ne_of_gt hzlt) (hs₇.extBut _ _ (Nat.ne_of_gt hzlt) (Heap.get?_push_size _ rfl))
  have hz8:h₈.objs.size=h₅.objs.size+1:=by rw [hs₈.1,hs₇.1,Heap.size_push]
  rw [hsz] at hz₈ hT₈ hz8
  refine wpAny_pure ⟨_,rfl,?_⟩
  show Q (.ref h₅.objs.size) _
  rw [hsz]
  exact hQ x y h₈ _ px py hz₈ (up _ _ D.TOz hTO₅) (D1.frame _ _ _ t1₅ fun c hc o e=>up c o (D.f1 c hc).1 e) (D2.frame _ _ _ t2₅ fun c hc o e=>up c o (D.f2 c hc).1 e) hT₈ hz8 fun c o c1 c2 c3 c4 e=>up c o c1 (hk₅ c o c1 c2 c3 c4 e)
theorem zipD_end {Q:Fin→Shared→Prop} (D1:Draws prog w A i1 fp1 n1 P1 T1) (D2:Draws prog w A i2 fp2 n2 P2 T2) (D:Side z TI TO i1 i2 fp1 fp2)
    (hz:IsZip s.heap z TI TO .none) (hTI:IsPair s.heap TI (.ref i1) (.ref i2)) (hTO:IsPair s.heap TO a b) (t1:T1 n1 s.heap)
    (hE:∀ h' e,(∀ c o,c≠z→c≠TO→c≠i1→c≠i2→s.heap.get? c=some o→h'.get? c=some o)→(∃ o,h'.get? e=some o∧o.cls=.type "StopIteration")→E (.ref e) { s with heap:=h' }) :
    wpAny (model prog w) A (Builtin.«zip.__next__» ⟨[.ref z],[]⟩) Q E s:=by
  show wpAny _ _ (field (.ref z) 2 >>= _) _ _ _
  refine wpAny_bind (wpAny_field hz rfl (x:=.bool false) rfl ?_)
  show wpAny _ _ (field (.ref z) 3 >>= _) _ _ _
  refine wpAny_bind (wpAny_field hz rfl (x:=.ref TI) rfl ?_)
  refine wpAny_bind (wpAny_seqItems hTI rfl ?_)
  show wpAny _ _ (Builtin.SmallTypes.ownedTupleIsFree (.ref z) >>= _) _ _ _
  refine wpAny_bind ?_
  unfold Builtin.SmallTypes.ownedTupleIsFree
  refine wpAny_bind (wpAny_field hz rfl (x:=.none) rfl (wpAny_pure ?_))
  simp only [if_true]
  refine wpAny_bind (wpAny_rule ?_)
  refine wpAny_bind (wpAny_field hz rfl (x:=.ref TO) rfl ?_)
  refine wpAny_bind (wpAny_setField_rec hz (by simp) fun h₁ hz₁ hs₁=>?_)
  replace hz₁:IsZip h₁ z TI TO .ellipsis:=hz₁
  refine wpAny_bind ?_
  simp only [List.zipIdx_cons,List.zipIdx_nil,List.forIn_cons,List.forIn_nil]
  refine wpAny_bind (wpAny_bind (wpAny_onRaise ?_))
  show wpAny _ _ (Builtin.SmallTypes.nextOf (.ref i1) >>= _) _ _ _
  have t1₁:T1 n1 h₁:=D1.frame _ _ _ t1 fun c hc o e=>hs₁.extBut _ _ (D.f1 c hc).1 e
  refine wpAny_bind (D1.done _ _ _ t1₁ fun h₂ e hs₂ he=>?_)
  obtain ⟨oe,hoe,hce⟩:=he
  have hz₂:IsZip h₂ z TI TO .ellipsis:=hs₂ _ _ D.i1z.symm hz₁
  have hez:e≠z:=fun x=>by subst x; rw [hz₂] at hoe; cases hoe; simp at hce
  refine wpAny_setField_rec hz₂ (by simp) fun h₃ _ hs₃=>hE h₃ e (fun c o c1 _ c3 _ x=>hs₃.extBut _ _ c1 (hs₂ _ _ c3 (hs₁.extBut _ _ c1 x))) ⟨oe,hs₃.extBut _ _ hez hoe,hce⟩
theorem zipD_end2 {Q:Fin→Shared→Prop} (D1:Draws prog w A i1 fp1 n1 P1 T1) (D2:Draws prog w A i2 fp2 n2 P2 T2) (D:Side z TI TO i1 i2 fp1 fp2)
    (hz:IsZip s.heap z TI TO .none) (hTI:IsPair s.heap TI (.ref i1) (.ref i2)) (hTO:IsPair s.heap TO a b) (t1:T1 n2 s.heap) (l1:n2 < n1) (t2:T2 n2 s.heap)
    (hE:∀ h' e tk,(∀ c o,c≠z→c≠TO→c≠i1→c≠i2→s.heap.get? c=some o→h'.get? c=some o)→(∃ o,h'.get? e=some o∧o.cls=.type "StopIteration")→E (.ref e) { s with heap:=h',toks:=tk }) :
    wpAny (model prog w) A (Builtin.«zip.__next__» ⟨[.ref z],[]⟩) Q E s:=by
  show wpAny _ _ (field (.ref z) 2 >>= _) _ _ _
  refine wpAny_bind (wpAny_field hz rfl (x:=.bool false) rfl ?_)
  show wpAny _ _ (field (.ref z) 3 >>= _) _ _ _
  refine wpAny_bind (wpAny_field hz rfl (x:=.ref TI) rfl ?_)
  refine wpAny_bind (wpAny_seqItems hTI rfl ?_)
  show wpAny _ _ (Builtin.SmallTypes.ownedTupleIsFree (.ref z) >>= _) _ _ _
  refine wpAny_bind ?_
  unfold Builtin.SmallTypes.ownedTupleIsFree
  refine wpAny_bind (wpAny_field hz rfl (x:=.none) rfl (wpAny_pure ?_))
  simp only [if_true]
  refine wpAny_bind (wpAny_rule ?_)
  refine wpAny_bind (wpAny_field hz rfl (x:=.ref TO) rfl ?_)
  refine wpAny_bind (wpAny_setField_rec hz (by simp) fun h₁ hz₁ hs₁=>?_)
  replace hz₁:IsZip h₁ z TI TO .ellipsis:=hz₁
  refine wpAny_bind ?_
  simp only [List.zipIdx_cons,List.zipIdx_nil,List.forIn_cons,List.forIn_nil]
  refine wpAny_bind (wpAny_bind (wpAny_onRaise ?_))
  show wpAny _ _ (Builtin.SmallTypes.nextOf (.ref i1) >>= _) _ _ _
  have t1₁:T1 n2 h₁:=D1.frame _ _ _ t1 fun c hc o e=>hs₁.extBut _ _ (D.f1 c hc).1 e
  have t2₁:T2 n2 h₁:=D2.frame _ _ _ t2 fun c hc o e=>hs₁.extBut _ _ (D.f2 c hc).1 e
  refine wpAny_bind (D1.item n2 _ _ _ l1 t1₁ fun x h₂ tk2 px t1₂ hs₂=>wpAny_pure ?_)
  have hTO₂:IsPair h₂ TO a b:=hs₂.extBut _ _ D.TOi1 (hs₁.extBut _ _ D.TOz hTO)
  refine wpAny_bind (wpAny_seqItems hTO₂ rfl ?_)
  refine wpAny_bind (wpAny_updateSeq_pair hTO₂ fun h₃ hTO₃ hs₃=>?_)
  refine wpAny_bind (wpAny_letGo (wpAny_pure ?_))
  refine wpAny_bind (wpAny_bind (wpAny_onRaise ?_))
  show wpAny _ _ (Builtin.SmallTypes.nextOf (.ref i2) >>= _) _ _ _
  have t2₃:T2 n2 h₃:=D2.frame _ _ _ t2₁ fun c hc o e=>hs₃.extBut _ _ (D.f2 c hc).2.1 (hs₂.extBut _ _ (D.f2 c hc).2.2 e)
  refine wpAny_bind (D2.done _ _ _ t2₃ fun h₄ e hs₄ he=>?_)
  obtain ⟨oe,hoe,hce⟩:=he
  have hz₄:IsZip h₄ z TI TO .ellipsis:=hs₄ _ _ D.i2z.symm (hs₃.extBut _ _ D.TOz.symm (hs₂.extBut _ _ D.i1z.symm hz₁))
  have hez:e≠z:=fun x=>by subst x; rw [hz₄] at hoe; cases hoe; simp at hce
  refine wpAny_setField_rec hz₄ (by simp) fun h₅ _ hs₅=>hE h₅ e _ (fun c o c1 c2 c3 c4 x=>hs₅.extBut _ _ c1 (hs₄ _ _ c4 (hs₃.extBut _ _ c2 (hs₂.extBut _ _ c3 (hs₁.extBut _ _ c1 x))))) ⟨oe,hs₅.extBut _ _ hez hoe,hce⟩
end
section
variable {prog:Program}{w:World}{A:Around}{E:Value→Shared→Prop}{s:Shared}{z TI TO i1 i2:Addr}{fp1 fp2:List Addr}{n1 n2:Nat}{P1 P2:Nat→Value→Prop}{T1 T2:Nat→Heap→Prop}{k:Nat}{a b:Value}
theorem pyNext_zipD_item {Q:Option Value→Shared→Prop} (D1:Draws prog w A.in1 i1 fp1 n1 P1 T1) (D2:Draws prog w A.in1 i2 fp2 n2 P2 T2) (D:Side z TI TO i1 i2 fp1 fp2)
    (hz:IsZip s.heap z TI TO .none) (hTI:IsPair s.heap TI (.ref i1) (.ref i2)) (hTO:IsPair s.heap TO a b) (t1:T1 k s.heap) (t2:T2 k s.heap) (l1:k < n1) (l2:k < n2)
    (hQ:∀ x y h' tk,P1 k x→P2 k y→IsZip h' z TI TO (rawInt s.heap.objs.size)→IsPair h' TO x y→T1 (k+1) h'→T2 (k+1) h'→IsPair h' s.heap.objs.size x y→h'.objs.size=s.heap.objs.size+1 →
      (∀ c o,c≠z→c≠TO→c≠i1→c≠i2→s.heap.get? c=some o→h'.get? c=some o)→Q (some (.ref s.heap.objs.size)) { s with heap:=h',toks:=tk }):wpAny (model prog w) A (pyNext (.ref z)) Q E s:=by
  have hT:s.TypeIs (.ref z) "zip" := ⟨_,hz,rfl⟩
  unfold pyNext
  exact wpAny_bind (wpAny_attempt (wpAny_callSpecial?_slot (name:=Str.ofString "__next__") hT F.slot_zip_next
    (wpAny_call_entry F.slot_zip_next hT F.entry_zip_next (zipD_item D1 D2 D hz hTI hTO t1 t2 l1 l2 fun x y h' tk p1 p2 a1 a2 a3 a4 a5 a6 a7=>wpAny_pure (hQ x y h' tk p1 p2 a1 a2 a3 a4 a5 a6 a7)) (F.args_zip_next_1 _))))
theorem pyNext_zipD_end {Q:Option Value→Shared→Prop} (D1:Draws prog w A.in1 i1 fp1 n1 P1 T1) (D2:Draws prog w A.in1 i2 fp2 n2 P2 T2) (D:Side z TI TO i1 i2 fp1 fp2)
    (hz:IsZip s.heap z TI TO .none) (hTI:IsPair s.heap TI (.ref i1) (.ref i2)) (hTO:IsPair s.heap TO a b) (t1:T1 k s.heap) (t2:T2 k s.heap) (hk:k=n1∨k < n1∧k=n2)
    (hQ:∀ h' tk,(∀ c o,c≠z→c≠TO→c≠i1→c≠i2→s.heap.get? c=some o→h'.get? c=some o)→Q none { s with heap:=h',toks:=tk }):wpAny (model prog w) A (pyNext (.ref z)) Q E s:=by
  have hT:s.TypeIs (.ref z) "zip" := ⟨_,hz,rfl⟩
  unfold pyNext
  rcases hk with rfl | ⟨h1,rfl⟩
  · refine wpAny_bind (wpAny_attempt (wpAny_callSpecial?_slot (name:=Str.ofString "__next__") hT F.slot_zip_next
      (wpAny_call_entry F.slot_zip_next hT F.entry_zip_next (zipD_end D1 D2 D hz hTI hTO t1 fun h' e hk he=>?_) (F.args_zip_next_1 _))))
    obtain ⟨o,ho,hc⟩:=he
    refine wpAny_bind (wpAny_isInstance (T := "StopIteration") (b:=true) ⟨o,ho,hc⟩ isSubtype_stop ?_)
    exact wpAny_pure (hQ _ s.toks hk)
  · refine wpAny_bind (wpAny_attempt (wpAny_callSpecial?_slot (name:=Str.ofString "__next__") hT F.slot_zip_next
      (wpAny_call_entry F.slot_zip_next hT F.entry_zip_next (zipD_end2 D1 D2 D hz hTI hTO t1 h1 t2 fun h' e tk hk he=>?_) (F.args_zip_next_1 _))))
    obtain ⟨o,ho,hc⟩:=he
    refine wpAny_bind (wpAny_isInstance (T := "StopIteration") (b:=true) ⟨o,ho,hc⟩ isSubtype_stop ?_)
    exact wpAny_pure (hQ _ tk hk)
end
theorem meets_zip_lt (l1 l2:Addr) (xs ys:Array Value) :
    Meets (Builtin.«zip.__new__» ⟨[.type "zip",.ref l1,.ref l2],[]⟩) (fun _ R s=>s.heap.IsList l1 xs∧s.heap.IsTuple l2 ys ∧
      R (.ok (.ret (.ref (s.heap.objs.size+4)))) { s with heap:=((((s.heap.push { cls:=.type "list_iterator",data:=.fields #[.ref l1,.int 0 0] }).push { cls:=.type "tuple_iterator",data:=.fields #[.ref l2,.int 0 0] }).push { cls:=.type "tuple",data:=.seq #[.ref s.heap.objs.size,.ref (s.heap.objs.size+1)] }).push { cls:=.type "tuple",data:=.seq #[.none,.none] }).push { cls:=.type "zip",data:=.fields #[.none,.bool false,.bool false,.ref (s.heap.objs.size+2),.ref (s.heap.objs.size+3)] } }) :=
  .of_wp fun prog w A R s h=>by
    obtain ⟨hp,g,d,tk,os⟩:=s; obtain ⟨hl1,hl2,h⟩:=h
    have hsub:=sub_zip
    have hL1:Heap.IsList (Shared.heap ⟨hp,g,d,tk,os⟩) l1 xs:=hl1
    have hL2:Heap.IsTuple (Shared.heap ⟨hp.push { cls:=.type "list_iterator",data:=.fields #[.ref l1,.int 0 0] },g,d,tk,os⟩) l2 ys:=Heap.IsTuple.push hl2 _
    wp_walk using wpAny_pyIter_list hL1,wpAny_pyIter_tuple hL2
    refine ⟨_,rfl,?_⟩
    simp only [Heap.size_push] at *
    exact h
section
variable {prog:Program}{w:World}{A:Around}{E:Value→Shared→Prop}{s:Shared}
theorem call_zip_lt {l1 l2:Addr}{xs ys:Array Value}{Q:Value→Shared→Prop} (hl1:s.heap.IsList l1 xs) (hl2:s.heap.IsTuple l2 ys)
    (h:∀ h',IsZip h' (s.heap.objs.size+4) (s.heap.objs.size+2) (s.heap.objs.size+3) .none→IsPair h' (s.heap.objs.size+2) (.ref s.heap.objs.size) (.ref (s.heap.objs.size+1)) →
      IsPair h' (s.heap.objs.size+3) .none .none→h'.IsListIter s.heap.objs.size l1 0→h'.IsTupleIter (s.heap.objs.size+1) l2 0 →
      (∀ c o,s.heap.get? c=some o→h'.get? c=some o)→Q (.ref (s.heap.objs.size+4)) { s with heap:=h' }) :
    wpAny (model prog w) A (call (.type "zip") [.ref l1,.ref l2]) Q E s:=by
  refine callType_new F.called_zip (by decide) (F.typeCall_zip_2 _ _) (F.newCall_zip_2 _ _) (fun obj=>F.args_object_init_3 obj _ _) F.entry_zip_new (meets_zip_lt l1 l2 xs ys) ⟨hl1,hl2,?_⟩
  have g5:∀ (h:Heap) (o:Obj) (n:Nat),h.objs.size=n→o.isFreed=false→(h.push o).get? n=some o:=fun h o n e f=>by subst e; exact Heap.get?_push_size _ f
  have z1:∀ (h:Heap) (o:Obj) (n:Nat),h.objs.size=n→(h.push o).objs.size=n+1:=fun h o n e=>by rw [Heap.size_push,e]
  have y1:=z1 s.heap { cls:=.type "list_iterator",data:=.fields #[.ref l1,.int 0 0] } _ rfl
  have y2:=z1 _ { cls:=.type "tuple_iterator",data:=.fields #[.ref l2,.int 0 0] } _ y1
  have y3:=z1 _ { cls:=.type "tuple",data:=.seq #[.ref s.heap.objs.size,.ref (s.heap.objs.size+1)] } _ y2
  have y4:=z1 _ { cls:=.type "tuple",data:=.seq #[.none,.none] } _ y3
  have e5:=g5 _ { cls:=.type "zip",data:=.fields #[.none,.bool false,.bool false,.ref (s.heap.objs.size+2),.ref (s.heap.objs.size+3)] } _ y4 rfl
  show _∧_
  exact ⟨⟨_,e5,rfl⟩,h _ e5 (Heap.get?_push_of_some _ (Heap.get?_push_of_some _ (g5 _ _ _ y2 rfl))) (Heap.get?_push_of_some _ (g5 _ _ _ y3 rfl))
    ⟨_,Heap.get?_push_of_some _ (Heap.get?_push_of_some _ (Heap.get?_push_of_some _ (Heap.get?_push_of_some _ (g5 _ _ _ rfl rfl)))),rfl,rfl⟩
    ⟨_,Heap.get?_push_of_some _ (Heap.get?_push_of_some _ (Heap.get?_push_of_some _ (g5 _ _ _ y1 rfl))),rfl,rfl⟩
    fun c o x=>Heap.get?_push_of_some _ (Heap.get?_push_of_some _ (Heap.get?_push_of_some _ (Heap.get?_push_of_some _ (Heap.get?_push_of_some _ x))))⟩
end
theorem Inv.turnedF {X:Cx}{pins:List (Addr × Obj)}{σ:St}{H:Hp}{s:Shared}{fp:List Addr}{h':Heap}{t':Nat} (I:Inv X pins σ H s) (k:∀ b u,b ∉ fp→s.heap.get? b=some u→h'.get? b=some u) (hf:∀ b∈fp,FpOk X pins H b):Inv X pins σ H { s with heap:=h',toks:=t' }:=by
  have nit:∀ b u,H b=some u→b ∉ fp:=fun b u e z=>by rw [(hf b z).1] at e; cases e
  refine I.step (g':=s.gens) (d':=s.drawn) (ch:=fp) (fun b hb=>?_) (fun b o _ _ hc e _=>k b o hc e) (fun b o _ _ hc e _=>⟨o.slots,k b o hc e⟩) (fun _ _ _ _ n=>n)
    (fun b o hc e=>⟨o,k b o hc e⟩) (fun _ _ e=>e) (fun _ _ _ e=>e) (fun b ps e=>⟨#[],by rw [e]; simp⟩) (fun m hm=>?_) (fun b u e=>?_) I.bare
  · obtain ⟨f0,f1,f2,f3,f4,f5⟩:=hf b hb
    exact ⟨f3,f1,f4,f5⟩
  · obtain ⟨o,es,ep,ho,r⟩:=hm
    exact ⟨o,es,ep,k _ o (fun z=>(hf _ z).2.1 rfl) ho,r⟩
  · refine (I.hok b u e).stay (fun c v hc q=>k c v ?_ q) (fun c q=>q) fun c xs q=>q
    rcases hc with z | z
    · rw [z]; exact nit b u e
    · exact nit c _ z
def SqB (tp:Bool) (K:PySem.W.Frag) (H:Hp) (b:Addr) (ys:List V):Prop:=if tp=true then SqT K H b ys else SqL K H b ys
def ItB (tp:Bool) (h:Heap) (it b:Addr) (i:Nat):Prop:=if tp=true then h.IsTupleIter it b i else h.IsListIter it b i
def Itz (K:PySem.W.Frag) (tp:Bool) (a b:Addr):It :=
  ⟨fun i H=>∃ xs ys x y,SqL K H a xs∧SqB tp K H b ys∧xs[i]?=some x∧ys[i]?=some y,
   fun i H x H'=>∃ T x1 y1,x=.ref T∧H T=none∧H'=upd H T (.tup [x1,y1])∧(∀ xs,SqL K H a xs→xs[i]?=some x1)∧(∀ ys,SqB tp K H b ys→ys[i]?=some y1),
   fun i H=>∃ xs ys,SqL K H a xs∧SqB tp K H b ys∧(i=xs.length∨i < xs.length∧i=ys.length)⟩
theorem ad_ne {n i j:Nat} (h:i≠j):n+i≠n+j:=by omega
theorem ad_lt {a n:Nat} (i:Nat) (h:a < n):a≠n+i:=by omega
theorem side_new {n a b:Nat} (ha:a < n) (hb:b < n):Side (n+4) (n+2) (n+3) n (n+1) [n,a] [n+1,b] where
  TIz:=ad_ne (by decide)
  TOz:=ad_ne (by decide)
  i1z:=ad_ne (n:=n) (i:=0) (by decide)
  i2z:=ad_ne (by decide)
  TITO:=ad_ne (by decide)
  TIi1:=ad_ne (n:=n) (j:=0) (by decide)
  TIi2:=ad_ne (by decide)
  TOi1:=ad_ne (n:=n) (j:=0) (by decide)
  TOi2:=ad_ne (by decide)
  i12:=ad_ne (n:=n) (i:=0) (by decide)
  f1:=fun c hc=>by
    rcases List.mem_cons.mp hc with z | z
    · subst z; exact ⟨ad_ne (i:=0) (by decide),ad_ne (i:=0) (by decide),ad_ne (i:=0) (by decide)⟩
    · have z':c=a:=by simpa using z
      subst z'; exact ⟨ad_lt 4 ha,ad_lt 3 ha,ad_lt 1 ha⟩
  f2:=fun c hc=>by
    rcases List.mem_cons.mp hc with z | z
    · subst z; exact ⟨ad_ne (by decide),ad_ne (by decide),ad_ne (j:=0) (by decide)⟩
    · have z':c=b:=by simpa using z
      subst z'; exact ⟨ad_lt 4 hb,ad_lt 3 hb,ad_lt 0 hb⟩
theorem draws2 {X:Cx}{pins:List (Addr × Obj)}{σ:St}{H:Hp}{s:Shared} (I:Inv X pins σ H s) (hc:X.calm=true) {tp:Bool}{b it:Addr}{ys:List V} (hq:SqB tp X.K H b ys) (hne:b≠it) :
    ∃ (its:List Value) (T2:Nat→Heap→Prop),Vals ys its∧Draws X.prog X.w X.A.in1 it [it,b] its.length (fun i v=>its[i]?=some v) T2∧(∀ i,ItB tp s.heap it b i→T2 i s.heap)∧∀ i h,T2 i h→ItB tp h it b i:=by
  cases tp with
  | true =>
    obtain ⟨its,rv,p,hz⟩:=I.tuple (show SqT X.K H b ys from hq)
    have D:=drawsTup (prog:=X.prog) (w:=X.w) (A:=X.A.in1) (show X.A.in1.handled=none from I.ok.hd hc) it b hne its.toArray
    refine ⟨its,fun i h=>h.IsTupleIter it b i∧h.IsTuple b its.toArray,rv,?_,fun i h=>⟨h,(show s.heap.IsTuple b its.toArray from p)⟩,fun i h t=>t.1⟩
    have e:its.toArray.size=its.length:=List.size_toArray
    rw [e] at D
    exact ⟨D.live,D.frame,fun i s Q E hi st hQ=>D.item i s Q E hi st fun x h' tk hp=>hQ x h' tk (by simpa using hp),D.done⟩
  | false =>
    obtain ⟨its,rv,p,hz⟩:=I.list (show SqL X.K H b ys from hq)
    have D:=Draws.list (prog:=X.prog) (w:=X.w) (A:=X.A.in1) (show X.A.in1.handled=none from I.ok.hd hc) it b hne its.toArray
    refine ⟨its,fun i h=>h.IsListIter it b i∧h.IsList b its.toArray,rv,?_,fun i h=>⟨h,p.isList⟩,fun i h t=>t.1⟩
    have e:its.toArray.size=its.length:=List.size_toArray
    rw [e] at D
    exact ⟨D.live,D.frame,fun i s Q E hi st hQ=>D.item i s Q E hi st fun x h' tk hp=>hQ x h' tk (by simpa using hp),D.done⟩
theorem SqB.inj {X:Cx}{pins:List (Addr × Obj)}{σ:St}{H:Hp}{s:Shared} (I:Inv X pins σ H s) {tp:Bool}{b:Addr}{ys zs:List V} (h1:SqB tp X.K H b ys) (h2:SqB tp X.K H b zs):ys=zs:=by
  cases tp with
  | true=>exact I.tuple_inj (show SqT X.K H b ys from h1) (show SqT X.K H b zs from h2)
  | false=>exact I.list_inj (show SqL X.K H b ys from h1) (show SqL X.K H b zs from h2)
theorem ItB.keep {tp:Bool}{h h':Heap}{it b:Addr}{i:Nat} (x:ItB tp h it b i) (e:∀ o,h.get? it=some o→h'.get? it=some o):ItB tp h' it b i:=by
  cases tp with
  | true=>exact (show h.IsTupleIter it b i from x).at e
  | false=>exact (show h.IsListIter it b i from x).at e
theorem ItB.obj {tp:Bool}{h:Heap}{it b:Addr}{i:Nat} (x:ItB tp h it b i):∃ o,h.get? it=some o∧∀ v,o.data≠.cell v:=by
  cases tp with
  | true=>obtain ⟨o,e,c,d⟩:=(show h.IsTupleIter it b i from x); exact ⟨o,e,fun v z=>by rw [d] at z; cases z⟩
  | false=>obtain ⟨o,e,c,d⟩:=(show h.IsListIter it b i from x); exact ⟨o,e,fun v z=>by rw [d] at z; cases z⟩
structure Zn (n a b:Nat) (tp:Bool) (i:Nat) (h:Heap):Prop where
  zz:IsZip h (n+4) (n+2) (n+3) .none
  ti:IsPair h (n+2) (.ref n) (.ref (n+1))
  to:∃ u v,IsPair h (n+3) u v
  i1:h.IsListIter n a i
  i2:ItB tp h (n+1) b i
theorem turn_zip {P:Program}{w:World}{K:PySem.W.Frag}{elts:List Expr}{kk:Nat}{pos:Pos}{n a b:Nat} (tp:Bool) (ha:a < n) (hb:b < n):Turn P w K (.Tuple elts kk pos) (Itz K tp a b) [n+4,n+2,n+3,n,n+1] (n+4) (Zn n a b tp) where
  mem:=by simp
  obj:=fun i h st c hc=>by
    have hc':c=n+4∨c=n+2∨c=n+3∨c=n∨c=n+1:=by simpa using hc
    rcases hc' with z | z | z | z | z
    · rw [z]; exact ⟨_,st.zz,fun v z=>by cases z⟩
    · rw [z]; exact ⟨_,st.ti,fun v z=>by cases z⟩
    · rw [z]; obtain ⟨u,v,e⟩:=st.to; exact ⟨_,e,fun v z=>by cases z⟩
    · rw [z]; obtain ⟨o,e,c,d⟩:=st.i1; exact ⟨o,e,fun v z=>by rw [d] at z; cases z⟩
    · rw [z]; exact st.i2.obj
  keep:=fun i h h' st k=>⟨k _ (by simp) _ st.zz,k _ (by simp) _ st.ti,let ⟨u,v,e⟩:=st.to; ⟨u,v,k _ (by simp) _ e⟩,st.i1.at fun o e=>k _ (by simp) o e,st.i2.keep fun o e=>k _ (by simp) o e⟩
  item:=by
    intro X hP hw hK hc i pins s σ H E I hf st hg
    subst hP hw hK
    obtain ⟨xs,ys,x,y,hq1,hq2,hx,hy⟩:=hg
    obtain ⟨its,rv,p,hz⟩:=I.list hq1
    obtain ⟨u,hu,ru⟩:=rv.get hx
    obtain ⟨jts,T2,rv2,D2,to2,of2⟩:=draws2 I hc hq2 (ad_lt 1 hb)
    obtain ⟨v,hv,rw2⟩:=rv2.get hy
    have D1:=Draws.list (prog:=X.prog) (w:=X.w) (A:=X.A.in1) (show X.A.in1.handled=none from I.ok.hd hc) n a (ad_lt 0 ha) its.toArray
    obtain ⟨t0,t00,hTO⟩:=st.to
    have l1:i < its.toArray.size:=by have:=(List.getElem?_eq_some_iff.mp hu).1; simpa using this
    have l2:i < jts.length:=(List.getElem?_eq_some_iff.mp hv).1
    refine pyNext_zipD_item D1 D2 (side_new ha hb) st.zz st.ti hTO ⟨st.i1,p.isList⟩ (to2 _ st.i2) l1 l2 fun x' y' h' tk px py a1 a2 a3 a4 a5 a6 hk=>?_
    have hx':x'=u:=by
      have:its[i]?=some x':=by simpa using px
      rw [hu] at this; exact (Option.some.inj this).symm
    have hy':y'=v:=by
      have:jts[i]?=some y':=py
      rw [hv] at this; exact (Option.some.inj this).symm
    subst hx' hy'
    refine ⟨_,rfl,wpAny_letOwnedTupleGo_zip a1 fun h2 hz2 hs2=>?_⟩
    have hTn:s.heap.get? s.heap.objs.size=none:=by
      cases g:s.heap.get? s.heap.objs.size with
      | none=>rfl
      | some o=>exact absurd (Heap.lt_size g) (Nat.lt_irrefl _)
    have hzl:n+4 < s.heap.objs.size:=Heap.lt_size st.zz
    have hT2:IsPair h2 s.heap.objs.size x' y':=(hs2.2 _ (Nat.ne_of_gt hzl)).trans a5
    have S:=side_new ha hb
    refine ⟨.ref s.heap.objs.size,upd H s.heap.objs.size (.tup [x,y]),I.turnedT (fp:=[n+4,n+2,n+3,n,n+1]) (h':=h2) (t':=tk) (fun c o hcf q=>?_) hf hTn ⟨by show 2≤sizeLine; decide,[x',y'],.cons ru (.cons rw2 .nil),⟨_,hT2,rfl,_,rfl⟩⟩,rfl,
      ⟨_,x,y,rfl,I.hok.free hTn,rfl,(fun zs hzs=>by rw [I.list_inj hzs hq1]; exact hx),(fun zs hzs=>by rw [SqB.inj I hzs hq2]; exact hy)⟩,
      ⟨hz2,(hs2.2 _ S.TIz).trans (hk _ _ S.TIz S.TITO S.TIi1 S.TIi2 st.ti),⟨_,_,(hs2.2 _ S.TOz).trans a2⟩,a3.1.at fun o q=>(hs2.2 n S.i1z).trans q,(of2 _ _ a4).keep fun o q=>(hs2.2 (n+1) S.i2z).trans q⟩,fun c hcf=>?_⟩
    · have c1:c≠n+4:=fun z=>hcf (by simp [z])
      have c2:c≠n+3:=fun z=>hcf (by simp [z])
      have c3:c≠n:=fun z=>hcf (by simp [z])
      have c4:c≠n+1:=fun z=>hcf (by simp [z])
      exact (hs2.2 c c1).trans (hk c o c1 c2 c3 c4 q)
    · rw [upd_ne]
      · exact (hf c hcf).1
      · rintro rfl
        have hc':s.heap.objs.size=n+4∨s.heap.objs.size=n+2∨s.heap.objs.size=n+3∨s.heap.objs.size=n∨s.heap.objs.size=n+1:=by simpa using hcf
        omega
  done:=by
    intro X hP hw hK hc i pins s σ H E I hf st hg
    subst hP hw hK
    obtain ⟨xs,ys,hq1,hq2,hx⟩:=hg
    obtain ⟨its,rv,p,hz⟩:=I.list hq1
    obtain ⟨jts,T2,rv2,D2,to2,of2⟩:=draws2 I hc hq2 (ad_lt 1 hb)
    have e1:=rv.length
    have e2:=rv2.length
    have D1:=Draws.list (prog:=X.prog) (w:=X.w) (A:=X.A.in1) (show X.A.in1.handled=none from I.ok.hd hc) n a (ad_lt 0 ha) its.toArray
    obtain ⟨t0,t00,hTO⟩:=st.to
    refine pyNext_zipD_end D1 D2 (side_new ha hb) st.zz st.ti hTO ⟨st.i1,p.isList⟩ (to2 _ st.i2) (by rw [List.size_toArray]; omega) fun h' tk hk=>⟨rfl,I.turnedF (fp:=[n+4,n+2,n+3,n,n+1]) (fun c o hcf q=>?_) hf⟩
    exact hk c o (fun z=>hcf (by simp [z])) (fun z=>hcf (by simp [z])) (fun z=>hcf (by simp [z])) (fun z=>hcf (by simp [z])) q
  self:=fun A i s Q E st h=>wpAny_pyIter_zip st.zz h
section
variable {X:Cx}{elts:List Expr}{k:Nat}{tpos:Pos}
def iZip (K:PySem.W.Frag) (tp:Bool) (ta:TA):TI:=fun σ H R=>ta σ H fun vs H1=>∃ a b xs ys,vs=[.ref a,.ref b]∧SqL K H1 a xs∧SqB tp K H1 b ys∧R (Itz K tp a b) H1
theorem pi_zip {e f:Expr}{ta:TA}{p pos:Pos} (tp:Bool) (hg:Gl X "zip") (hm:X.mg "zip" = none) (ha:PA X [e,f] ta) (hs:starEach [e,f] X.env=[(false,eval e X.env),(false,eval f X.env)]:=by rfl) (hs2:starEach [f] X.env=[(false,eval f X.env)]:=by rfl) :
    PI X (.Tuple elts k tpos) (.Call (.Name "zip" p) [e,f] [] pos) (iZip X.K tp ta):=by
  intro pins s σ H R I h
  refine Call_ (ld_blt I hg hm boot_zip (PyProof.Rows.callWith_type1 (thn (ha pos pins s σ H _ I h) fun us s1 ⟨vs,H1,I1,r1,q1⟩=>?_) (by rw [hs,hs2]) (by rw [hs2]; rfl)))
  obtain ⟨a,b,xs,ys,rfl,hl,hb,q⟩:=q1
  cases r1 with
  | cons ra rr =>
  cases rr with
  | cons rb rn =>
  cases rn
  cases ra
  cases rb
  obtain ⟨its,rv,pa,hz⟩:=I1.list hl
  have fresh:∀ (h':Heap),(∀ c o,s1.heap.get? c=some o→h'.get? c=some o)→∀ c∈[s1.heap.objs.size+4,s1.heap.objs.size+2,s1.heap.objs.size+3,s1.heap.objs.size,s1.heap.objs.size+1],FpOk X pins H1 c:=fun h' hk c hc=>by
    have hc':s1.heap.objs.size≤c:=by
      have:c=s1.heap.objs.size+4∨c=s1.heap.objs.size+2∨c=s1.heap.objs.size+3∨c=s1.heap.objs.size∨c=s1.heap.objs.size+1:=by simpa using hc
      omega
    exact I1.fpOk hc' (I1.hok.fresh hc')
  have la:a < s1.heap.objs.size:=let ⟨o,e,_⟩:=pa.isList; Heap.lt_size e
  cases tp with
  | true =>
    obtain ⟨jts,rv2,pb,hz2⟩:=I1.tuple (show SqT X.K H1 b ys from hb)
    have pb':s1.heap.IsTuple b jts.toArray:=pb
    have lb:b < s1.heap.objs.size:=let ⟨o,e,_⟩:=pb'; Heap.lt_size e
    refine call_zip_lt pa.isList pb' fun h' a1 a2 a3 a4 a5 hk=>?_
    exact wpAny_pyIter_zip a1 ⟨_,[s1.heap.objs.size+4,s1.heap.objs.size+2,s1.heap.objs.size+3,s1.heap.objs.size,s1.heap.objs.size+1],_,_,H1,rfl,I1.kept (t':=s1.toks) hk,turn_zip true la lb,⟨a1,a2,⟨_,_,a3⟩,a4,a5⟩,fresh h' hk,q⟩
  | false =>
    obtain ⟨jts,rv2,pb,hz2⟩:=I1.list (show SqL X.K H1 b ys from hb)
    have lb:b < s1.heap.objs.size:=let ⟨o,e,_⟩:=pb.isList; Heap.lt_size e
    refine call_zip_2 pa.isList pb.isList fun h' a1 a2 a3 a4 a5 _ hk=>?_
    exact wpAny_pyIter_zip a1 ⟨_,[s1.heap.objs.size+4,s1.heap.objs.size+2,s1.heap.objs.size+3,s1.heap.objs.size,s1.heap.objs.size+1],_,_,H1,rfl,I1.kept (t':=s1.toks) hk,turn_zip false la lb,⟨a1,a2,⟨_,_,a3⟩,a4,a5⟩,fresh h' hk,q⟩
end
end L2
end
section
namespace L2
open PySem PySem.Spec PyProof.Rows
open AutoSeq1 (wpAny_loadPart')
theorem meets_enum_tup (l:Addr) (items:Array Value) (n:Nat) (dd:Option Addr) (sl:Array (Option Value)) :
    Meets (Builtin.«enumerate.__new__» ⟨[.type "enumerate",.ref l],[]⟩) (fun _ R s=>s.heap.get? l=some { cls:=.type "tuple",dict:=dd,data:=.seq items n,slots:=sl } ∧
      R (.ok (.ret (.ref (s.heap.push { cls:=.type "tuple_iterator",data:=.fields #[.ref l,.int 0 0] }).objs.size)))
        { s with heap:=(s.heap.push { cls:=.type "tuple_iterator",data:=.fields #[.ref l,.int 0 0] }).push { cls:=.type "enumerate",data:=.fields #[.none,.bool false,.ref s.heap.objs.size,rawInt 0,.none,.none] } }) :=
  .of_wp fun prog w A R s h=>by
    obtain ⟨hp,g,d,tk,os⟩:=s; obtain ⟨hl,h⟩:=h
    have hsub:=sub_enumerate
    have hL:Heap.IsTuple (Shared.heap ⟨hp,g,d,tk,os⟩) l items:=⟨_,hl,rfl,n,rfl⟩
    wp_walk using wpAny_loadPart' hl
    refine wpAny_stack_any fun st=>wpAny_pure ?_
    split
    · rename_i c _ _ _ _ _
      cases (c == Value.type "enumerate")
      · wp_walk using wpAny_loadPart' hl,wpAny_pyIter_tuple hL
        exact ⟨_,rfl,h⟩
      · wp_walk using wpAny_loadPart' hl,wpAny_pyIter_tuple hL
        exact ⟨_,rfl,h⟩
    · wp_walk using wpAny_loadPart' hl,wpAny_pyIter_tuple hL
      exact ⟨_,rfl,h⟩
section
variable {prog:Program}{w:World}{A:Around}{E:Value→Shared→Prop}{s:Shared}
theorem call_enum_tup {l:Addr}{items:Array Value}{Q:Value→Shared→Prop} (hl:s.heap.IsTuple l items)
    (h:∀ h',IsEnum h' (s.heap.objs.size+1) s.heap.objs.size 0 .none→h'.IsTupleIter s.heap.objs.size l 0→(∀ b o,s.heap.get? b=some o→h'.get? b=some o)→Q (.ref (s.heap.objs.size+1)) { s with heap:=h' }) :
    wpAny (model prog w) A (call (.type "enumerate") [.ref l]) Q E s:=by
  obtain ⟨⟨cls,dd,data,sl⟩,ho,hc,n,hd⟩:=hl
  have hc':cls=.type "tuple" := hc
  have hd':data=.seq items n:=hd
  subst hc' hd'
  refine callType_new F.called_enumerate (by decide) (F.typeCall_enumerate_1 _) (F.newCall_enumerate_1 _) (fun obj=>F.args_object_init_2 obj _) F.entry_enumerate_new (meets_enum_tup l items n dd sl) ⟨ho,?_⟩
  have hz:(s.heap.push { cls:=.type "tuple_iterator",data:=.fields #[.ref l,.int 0 0] }).objs.size=s.heap.objs.size+1:=Heap.size_push ..
  show _∧_
  rw [hz]
  have he:IsEnum ((s.heap.push { cls:=.type "tuple_iterator",data:=.fields #[.ref l,.int 0 0] }).push { cls:=.type "enumerate",data:=.fields #[.none,.bool false,.ref s.heap.objs.size,rawInt 0,.none,.none] }) (s.heap.objs.size+1) s.heap.objs.size 0 .none:=by
    have:=Heap.get?_push_size (s.heap.push { cls:=.type "tuple_iterator",data:=.fields #[.ref l,.int 0 0] }) (o:={ cls:=.type "enumerate",data:=.fields #[.none,.bool false,.ref s.heap.objs.size,rawInt 0,.none,.none] }) rfl
    rw [hz] at this; exact this
  exact ⟨⟨_,he,rfl⟩,h _ he ⟨_,Heap.get?_push_of_some _ (Heap.get?_push_size _ rfl),rfl,rfl⟩ fun b o x=>Heap.get?_push_of_some _ (Heap.get?_push_of_some _ x)⟩
end
def IteT (K:PySem.W.Frag) (a:Addr):It :=
  ⟨fun i H=>∃ xs x,SqT K H a xs∧xs[i]?=some x,fun i H x H'=>∃ T y,x=.ref T∧H T=none∧H'=upd H T (.tup [.int i,y])∧∀ xs,SqT K H a xs→xs[i]?=some y,fun i H=>∃ xs,SqT K H a xs∧xs.length=i⟩
theorem turn_enumT {P:Program}{w:World}{K:PySem.W.Frag}{elts:List Expr}{k:Nat}{pos:Pos}{n a:Nat} (ha:a < n):Turn P w K (.Tuple elts k pos) (IteT K a) [n+1,n] (n+1) (fun i h=>(∃ old,IsEnum h (n+1) n i old)∧h.IsTupleIter n a i) where
  mem:=by simp
  obj:=fun i h st b hb=>by
    obtain ⟨⟨old,he⟩,hit⟩:=st
    rcases List.mem_cons.mp hb with z | z
    · subst z; exact ⟨_,he,fun v z=>by cases z⟩
    · have z':b=n:=by simpa using z
      subst z'
      obtain ⟨o,e,c,d⟩:=hit
      exact ⟨o,e,fun v z=>by rw [d] at z; cases z⟩
  keep:=fun i h h' st kk=>⟨let ⟨old,he⟩:=st.1; ⟨old,kk _ (by simp) _ he⟩,st.2.at fun o x=>kk n (by simp) o x⟩
  item:=by
    intro X hP hw hK hc i pins s σ H E I hf st hg
    subst hP hw hK
    obtain ⟨xs,x,hq,hx⟩:=hg
    obtain ⟨its,rv,p,hz⟩:=I.tuple hq
    obtain ⟨u,hu,ru⟩:=rv.get hx
    obtain ⟨⟨old,he⟩,hit⟩:=id st
    have hei:n+1≠n:=by omega
    have D:=drawsTup (prog:=X.prog) (w:=X.w) (A:=X.A.in1) (show X.A.in1.handled=none from I.ok.hd hc) n a (ad_lt 0 ha) its.toArray
    have hlt:i < its.toArray.size:=by
      have:=(List.getElem?_eq_some_iff.mp hu).1
      simpa using this
    refine wpAny_pyNext_enum_itemD D he ⟨hit,(show s.heap.IsTuple a its.toArray from p)⟩ hlt hei (fun z=>by
      rcases List.mem_cons.mp z with y | y
      · exact hei y
      · have y':n+1=a:=by simpa using y
        exact absurd ha (by rw [← y']; exact Nat.not_lt.mpr (Nat.le_succ n))) fun x' h' tk hP ho hs' hT hsz hk=>?_
    have hx':x'=u:=by
      have:its[i]?=some x':=by simpa using hP
      rw [hu] at this; exact (Option.some.inj this).symm
    subst hx'
    refine ⟨_,rfl,wpAny_letOwnedTupleGo_enum ho fun h2 he2 hs2=>?_⟩
    have hTn:s.heap.get? s.heap.objs.size=none:=by
      cases g:s.heap.get? s.heap.objs.size with
      | none=>rfl
      | some o=>exact absurd (Heap.lt_size g) (Nat.lt_irrefl _)
    have hel:n+1 < s.heap.objs.size:=Heap.lt_size he
    have hT2:h2.get? s.heap.objs.size=some { cls:=.type "tuple",data:=.seq #[.int i tk,x'] }:=(hs2.2 _ (Nat.ne_of_gt hel)).trans hT
    refine ⟨.ref s.heap.objs.size,upd H s.heap.objs.size (.tup [.int i,x]),I.turnedT (fp:=[n+1,n]) (h':=h2) (t':=tk+1) (fun b o hb q=>?_) hf hTn ⟨by show 2≤sizeLine; decide,[.int i tk,x'],.cons ⟨tk,rfl⟩ (.cons ru .nil),⟨_,hT2,rfl,_,rfl⟩⟩,rfl,
      ⟨_,x,rfl,I.hok.free hTn,rfl,fun ys hy=>by rw [I.tuple_inj hy hq]; exact hx⟩,⟨⟨_,by simpa using he2⟩,hs'.1.at fun o q=>(hs2.2 n (Ne.symm hei)).trans q⟩,fun b hb=>?_⟩
    · have hbe:b≠n+1:=fun z=>hb (by simp [z])
      have hbi:b≠n:=fun z=>hb (by simp [z])
      exact (hs2.2 b hbe).trans (hk b o hbe hbi q)
    · rw [upd_ne]
      · exact (hf b hb).1
      · rintro rfl
        have hc':s.heap.objs.size=n+1∨s.heap.objs.size=n:=by simpa using hb
        omega
  done:=by
    intro X hP hw hK hc i pins s σ H E I hf st hg
    subst hP hw hK
    obtain ⟨xs,hq,hx⟩:=hg
    obtain ⟨its,rv,p,hz⟩:=I.tuple hq
    obtain ⟨⟨old,he⟩,hit⟩:=id st
    have hl:=rv.length
    have D:=drawsTup (prog:=X.prog) (w:=X.w) (A:=X.A.in1) (show X.A.in1.handled=none from I.ok.hd hc) n a (ad_lt 0 ha) its.toArray
    obtain ⟨f0,f1,f2,f3,f4,f5⟩:=hf n (by simp)
    have hi:its.toArray.size=i:=by rw [List.size_toArray]; omega
    refine wpAny_pyNext_enum_endD D he ⟨by rw [hi]; exact hit,(show s.heap.IsTuple a its.toArray from p)⟩ fun h' eb=>⟨rfl,I.turned (t':=s.toks) (fun b o hb e=>eb b o hb e) f0 f1 f3 f4 f5⟩
  self:=fun A i s Q E st h=>let ⟨old,he⟩:=st.1; wpAny_pyIter_enum he h
section
variable {X:Cx}{elts:List Expr}{k:Nat}{tpos:Pos}
def iEnumT (K:PySem.W.Frag) (ta:TA):TI:=fun σ H R=>ta σ H fun vs H1=>∃ a xs,vs=[.ref a]∧SqT K H1 a xs∧R (IteT K a) H1
theorem pi_enumT {e:Expr}{ta:TA}{p pos:Pos} (hg:Gl X "enumerate") (hm:X.mg "enumerate" = none) (ha:PA X [e] ta) (hs:starEach [e] X.env=[(false,eval e X.env)]:=by rfl):PI X (.Tuple elts k tpos) (.Call (.Name "enumerate" p) [e] [] pos) (iEnumT X.K ta):=by
  intro pins s σ H R I h
  refine Call_ (ld_blt I hg hm boot_enumerate (PyProof.Rows.callWith_type1 (thn (ha pos pins s σ H _ I h) fun us s1 ⟨vs,H1,I1,r1,q1⟩=>?_) hs rfl))
  obtain ⟨a,xs,rfl,hl,q⟩:=q1
  obtain ⟨u,rfl,ru⟩:=vals1 r1
  cases ru
  obtain ⟨its,rv,p0,hz⟩:=I1.tuple hl
  have p1:s1.heap.IsTuple a its.toArray:=p0
  have la:a < s1.heap.objs.size:=let ⟨o,e,_⟩:=p1; Heap.lt_size e
  refine call_enum_tup p1 fun h' he hit hk=>?_
  have I2:Inv X pins σ H1 { s1 with heap:=h' }:=I1.kept (t':=s1.toks) hk
  refine wpAny_pyIter_enum he ⟨_,[s1.heap.objs.size+1,s1.heap.objs.size],_,_,H1,rfl,I2,turn_enumT la,⟨⟨_,he⟩,hit⟩,fun b hb=>?_,q⟩
  have hb':s1.heap.objs.size≤b:=by
    have:b=s1.heap.objs.size+1∨b=s1.heap.objs.size:=by simpa using hb
    rcases this with z | z
    · rw [z]; exact Nat.le_succ _
    · rw [z]; exact Nat.le_refl _
  exact I1.fpOk hb' (I1.hok.fresh hb')
end
theorem comp_pairs {J:It}{xs ys:List V}{len:Nat}{Hk:Hp→Prop} (hgo:∀ i H,Hk H→i < len→J.go i H) (hst:∀ i H,Hk H→i=len→J.stop i H) (hyl:∀ i H x H',Hk H→J.yld i H x H'→∃ T x1 y1,x=.ref T∧H T=none∧H'=upd H T (.tup [x1,y1])∧xs[i]?=some x1∧ys[i]?=some y1)
    {caps:List Nat} {n:Nat} {σ:St} {g:TG} {tc:TT} {te:TE} {F:List V→Hp→Prop} {H1:Hp} (cv:St) (k:Nat) (hn:len < 1000)
    (Pv:Nat→List V→Hp→Prop) (h0:Pv 0 [] H1) (hk:∀ i acc H,i≤len→Pv i acc H→Hk H∧acc.length≤i)
    (turn:∀ (i:Nat) (x y:V) (T:Addr) (acc:List V) (H:Hp) (zs:St) (Nx:List V→St→Hp→Prop),(∀ acc' H' zs,zs.length=k→Pv (i+1) acc' H'→Nx acc' (cv++zs) H')→xs[i]?=some x→ys[i]?=some y→zs.length=k→Pv i acc H→H T=none →
      g (.ref T) (cv++zs) (upd H T (.tup [x,y])) fun σ2 H3=>tc σ2 H3 fun b H4=>if b=true then te σ2 H4 fun y H5=>Nx (acc++[y]) σ2 H5 else Nx acc σ2 H4)
    (fin:∀ acc H,Pv len acc H→F acc H) (hcv:capStart caps n σ=cv++List.replicate k none:=by rfl) :
    ∃ W:Nat→Nat→List V→St→Hp→Prop,(∃ m,W 0 m [] (capStart caps n σ) H1)∧∀ i m acc σ' H',W i m acc σ' H' →
      (J.stop i H'∧F acc H') ∨
      (J.go i H'∧acc.length < sizeLine∧∀ x H2,J.yld i H' x H2→g x σ' H2 fun σ2 H3=>tc σ2 H3 fun b H4=>if b=true then te σ2 H4 fun y H5=>∃ m',m' < m∧W (i+1) m' (acc++[y]) σ2 H5 else ∃ m',m' < m∧W (i+1) m' acc σ2 H4):=by
  refine ⟨fun i m acc σ' H'=>i≤len∧m=len - i∧(∃ ys,ys.length=k∧σ'=cv++ys)∧Pv i acc H',⟨len,Nat.zero_le _,rfl,⟨_,by simp,hcv⟩,h0⟩,?_⟩
  rintro i m acc σ' H' ⟨hi,rfl,⟨zs,hy,rfl⟩,pv⟩
  obtain ⟨hH,ha⟩:=hk i acc H' hi pv
  by_cases e:i=len
  · subst e
    exact .inl ⟨hst _ _ hH rfl,fin acc H' pv⟩
  · have hi':i < len:=by omega
    refine .inr ⟨hgo _ _ hH hi',by rw [sizeLine_eq]; omega,fun x H2 hy2=>?_⟩
    obtain ⟨T,x1,y1,rfl,hT,rfl,e1,e2⟩:=hyl _ _ _ _ hH hy2
    exact turn i x1 y1 T acc H' zs (fun acc' σ2 H5=>∃ m',m' < len - i∧(i+1≤len∧m'=len - (i+1)∧(∃ ys,ys.length=k∧σ2=cv++ys)∧Pv (i+1) acc' H5)) (fun acc' H5 zs hz p=>⟨len - (i+1),by omega,by omega,rfl,⟨zs,hz,rfl⟩,p⟩) e1 e2 hy pv hT
section
variable {X:Cx}
theorem call_any (hc:X.calm=true):CallR X (.builtin "any") (fun xs H Q=>∃ (p:Addr) (bs:List Bool),xs=[.ref p]∧SqL X.K H p (bs.map V.bl)∧Q (.bl (bs.any id)) H):=by
  intro pins s σ H xs us Q I r h
  obtain ⟨p,bs,rfl,hq,q⟩:=h
  obtain ⟨u,rfl,ru⟩:=vals1 r
  cases ru
  obtain ⟨its,rv,pl,hz⟩:=I.list hq
  have hp:p≠s.heap.objs.size:=by
    obtain ⟨o,n,e,_⟩:=pl
    exact Nat.ne_of_lt (Heap.lt_size e)
  have vget:∀ (i:Nat) (v:Value),its.toArray[i]?=some v→v=.bool (bs.getD i false):=fun i v e=>by
    have e':its[i]?=some v:=by simpa using e
    have hl:=rv.length
    have hi:i < bs.length:=by
      have:=(List.getElem?_eq_some_iff.mp e').1
      simp at hl; omega
    obtain ⟨u,e1,e2⟩:=rv.get (i:=i) (x:=.bl (bs.getD i false)) (by rw [List.getElem?_map]; simp [hi])
    rw [e'] at e1
    cases e1
    exact e2
  refine call_any_walk (wpAny_pyIter_list pl.isList ?_)
  refine ⟨s.heap.objs.size,_,_,its.toArray.size,_,_,fun i=>bs.getD i false,rfl,Walks.list (A:=X.A.in1) (I.ok.hd hc) _ p hp its.toArray,⟨⟨_,Heap.get?_push_size _ rfl,rfl,rfl⟩,?_⟩,fun i v s' Q' E' hv hQ=>?_,fun h' tk hk=>?_⟩
  · exact pl.isList.at fun o e=>Heap.get?_push_of_some _ e
  · rw [vget i v hv]; exact wpAny_truthy_bool hQ
  · refine ⟨.bl (bs.any id),H,I.kept (t':=tk) (h':=h') fun b o e=>hk b o (fun z=>?_) (Heap.get?_push_of_some _ e),?_,q⟩
    · have:b=s.heap.objs.size:=by simpa using z
      exact absurd (Heap.lt_size e) (by rw [this]; exact Nat.lt_irrefl _)
    · have hl:=rv.length
      have hsz:its.toArray.size=bs.length:=by simp at hl; simp [hl]
      have:(List.range its.toArray.size).any (fun i=>bs.getD i false)=bs.any id:=by
        rw [hsz]
        rw [Bool.eq_iff_iff]
        simp only [List.any_eq_true,List.mem_range,id]
        constructor
        · rintro ⟨i,hi,h⟩
          exact ⟨bs[i],List.getElem_mem hi,by simpa [hi] using h⟩
        · rintro ⟨b,hb,h⟩
          obtain ⟨i,hi,e⟩:=List.getElem_of_mem hb
          exact ⟨i,hi,by simpa [hi,e] using h⟩
      rw [this]; rfl
end
def rInD (K:PySem.W.Frag):R2:=fun x y H Q=>∃ d ds,Rep K H d x∧Rep K H (.list ds) y∧SeqAt.shaped d=true∧SeqAt.shaped (.list ds)=true∧Q (.bl (ds.any fun e=>PyData.eqv e d)) H
section
variable {X:Cx}
theorem op_inD (hu:X.A.units+65 < cLine):OpR X (compareOp .In) (rInD X.K):=by
  intro pins s σ H x y v u Q I rx ry h
  obtain ⟨d,ds,h1,h2,h3,h4,q⟩:=h
  obtain ⟨as,ra⟩:=Rep.reads I d x v h1 rx
  obtain ⟨bs,rb⟩:=Rep.reads I (.list ds) y u h2 ry
  exact SeqAt.in_list_reads rb ra (SeqAt.canLay_of_shaped h4) (SeqAt.canLay_of_shaped h3) (room_in_shaped h3 hu) ⟨.bl _,H,I,rfl,q⟩
theorem op_inDK (K':PySem.W.Frag) (hK:X.K=K') (hu:X.A.units+65 < cLine):OpR X (compareOp .In) (rInD K'):=by
  subst hK; exact op_inD hu
end
theorem Room.units65 {k:Nat}{A:Around} (r:Room k A):A.units+65 < cLine:=by have:=r.un; omega
end L2
end
section
namespace L2
open PySem PySem.Spec PyProof.Rows
section
variable {P:Program}{w:World}{outer:List Env}{H H':Hp}{s s':Shared}{e:Addr}{cls a0:Value}{B h':Heap}
end
section
variable {X:Cx}{pins:List (Addr × Obj)}{σ:St}{H H':Hp}{s s':Shared}{e:Addr}{cls a0:Value}{B h':Heap}
end
section
variable {X:Cx}
end
section
variable {P:Program}{w:World}{K:PySem.W.Frag}{mg:Str→Option Value}{base:Heap}
end
section
variable {M:Model}{A:Around}{E:Value→Shared→Prop}{h:Heap}{g:Array GenState}{d:Drawn}{t:Nat}{os:OsState}
end
section
variable {X:Cx}{pins:List (Addr × Obj)}{σ:St}{H:Hp}{s:Shared}{e:Addr}
end
section
variable {P:Program}{w:World}{K:PySem.W.Frag}{mg:Str→Option Value}{base:Heap}
end
end L2
end
section
namespace L2
open PySem PySem.Spec PyProof.Rows
section
variable {X:Cx}{E:XK}{fe e:Expr}{es:List Expr}{tf:TE}{t:TA}{pos:Pos}
theorem ix_listK (K':PySem.W.Frag) (hK:X.K=K'):IxR X (rIxL K'):=by
  subst hK; exact ix_list
end
end L2
end
section
namespace L2
open PySem PySem.Spec PyProof.Rows
section
variable {X:Cx}
end
section
variable {prog:Program}{w:World}{A:Around}{E:Value→Shared→Prop}{s:Shared}
theorem getItem_tuple_all {t sl:Addr}{items:Array Value}{vl vu:Value}{lo hi:Option Int}{Q:Value→Shared→Prop} (ht:IsTup s.heap t items) (hs:s.heap.IsSliceOf sl vl vu .none) (pl:IsPart vl lo) (pu:IsPart vu hi)
    (hw:HT.sIx items.size 0 lo=0∧HT.sIx items.size items.size hi=items.size)
    (h:Q (.ref t) s)
    (hsz:items.size≤sizeLine):wpAny (model prog w) A (getItem (.ref t) (.ref sl)) Q E s:=by
  obtain ⟨os,hos,hcs,hds⟩:=id hs
  have hTs:s.TypeIs (.ref sl) "slice" := ⟨os,hos,hcs⟩
  unfold getItem
  try with_reducible refine wpAny_holding ?_
  first | refine wpAny_bind (wpAny_pure ?_) | skip
  refine wpAny_bind (wpAny_sequenceKey ht.typeIs (by decide) ?_)
  refine wpAny_bind (wpAny_callSpecial?_slot (name:=Str.ofString "__getitem__") ht.typeIs PyProof.Rows.slot_tuple_getitem
    (wpAny_call_entry PyProof.Rows.slot_tuple_getitem ht.typeIs entry_tuple_getitem ?_ (args_tuple_getitem _ _)))
  show wpAny _ _ (Builtin.Tuple.tupleItemsOf (.ref t) >>= _) _ _ s
  refine wpAny_bind (tupleItemsOf_ ht ?_)
  refine wpAny_bind (wpAny_typeOf hTs ?_)
  rw [if_pos (by decide)]
  refine wpAny_bind (HT.sliceApplied_gen hs pl pu ?_)
  rw [hw.1,hw.2]
  show wpAny _ _ (if (((0:Nat):Int) == 0 && (1:Int) == 1 && (items.size - 0) == items.size)=true then _ else _) _ _ s
  rw [if_pos (by simp)]
  unfold Builtin.Tuple.tupleIsExact
  refine wpAny_bind (wpAny_bind (wpAny_typeOf ht.typeIs (wpAny_pure ?_)))
  rw [if_pos (by decide)]
  exact wpAny_bind (wpAny_rule (wpAny_pure ⟨_,rfl,wpAny_pure h⟩))
end
section
variable {X:Cx}
def rSlTW (K:PySem.W.Frag):V→Option Int→Option Int→Hp→VK→Prop:=fun x lo hi H Q=>∃ a xs,x=.ref a∧SqT K H a xs∧(HT.sIx xs.length 0 lo=0∧HT.sIx xs.length xs.length hi=xs.length)∧Q (.ref a) H
theorem sl_tupW:SlR X (rSlTW X.K):=by
  intro pins s σ H x v vl vu lo hi sl Q I rx hs pl pu h
  obtain ⟨a,xs,rfl,hx,hw,q⟩:=h
  cases rx
  obtain ⟨its,r,ht,hz⟩:=I.tuple hx
  have hlen:its.toArray.size=xs.length:=by rw [List.size_toArray]; exact r.length.symm
  refine ⟨"tuple",_,PyProof.Rows.slot_tuple_getitem.lookup,ht.typeIs,?_⟩
  exact getItem_tuple_all ht hs pl pu (by rw [hlen]; exact hw) ⟨.ref a,H,I,rfl,q⟩ (by rw [hlen]; exact hz)
theorem op_catTT:OpR X (binaryOp .Add) (fun x y H Q=>∃ a b xs ys,x=.ref a∧y=.ref b∧H a=some (.tup xs)∧H b=some (.tup ys)∧xs.length+ys.length≤sizeLine∧∀ p H',Same H H'→H' p=some (.tup (xs++ys))→Q (.ref p) H'):=by
  intro pins s σ H x y v u Q I rx ry h
  obtain ⟨a,b,xs,ys,rfl,rfl,ha,hb,hz,q⟩:=h
  by_cases hx:xs=[]
  · subst hx
    exact op_catT0 pins s σ H _ _ v u Q I rx ry ⟨a,b,ys,rfl,rfl,.of ha,.of hb,q b H (Same.refl H) hb⟩
  · refine op_catT pins s σ H _ _ v u Q I rx ry ⟨a,b,xs,ys,rfl,rfl,.of ha,.of hb,hx,hz,fun hy=>q a H (Same.refl H) (by rw [hy,List.append_nil]; exact ha),fun _ p hp=>q p _ (Same.upd1 hp) upd_same⟩
theorem cutV_all {xs:List V}{lo hi:Option Int} (h:HT.sIx xs.length 0 lo=0∧HT.sIx xs.length xs.length hi=xs.length):cutV xs lo hi=xs:=by
  unfold cutV
  rw [h.1,h.2,List.drop_zero,Nat.sub_zero,List.take_length]
theorem sl_tupA:SlR X (fun x lo hi H Q=>∃ a xs,x=.ref a∧H a=some (.tup xs)∧∀ p H',Same H H'→H' p=some (.tup (cutV xs lo hi))→Q (.ref p) H'):=by
  intro pins s σ H x v vl vu lo hi sl Q I rx hs pl pu h
  obtain ⟨a,xs,rfl,ha,q⟩:=h
  by_cases hw:HT.sIx xs.length 0 lo=0∧HT.sIx xs.length xs.length hi=xs.length
  · exact sl_tupW pins s σ H _ v vl vu lo hi sl Q I rx hs pl pu ⟨a,xs,rfl,.of ha,hw,q a H (Same.refl H) (by rw [cutV_all hw]; exact ha)⟩
  · exact sl_tup pins s σ H _ v vl vu lo hi sl Q I rx hs pl pu ⟨a,xs,rfl,.of ha,hw,fun p hp=>q p _ (Same.upd1 hp) upd_same⟩
end
end L2
end
section
namespace Kn
open PySem L2
theorem eqv_strT (x y:S):PyData.eqv (.str (tx x)) (.str (tx y))=decide (x=y):=by
  by_cases h:x=y
  · subst h; simp [PyData.eqv]
  · have h2:¬ tx x=tx y:=fun z=>h (tx_inj z)
    rw [decide_eq_false h]
    simp [PyData.eqv,h2]
theorem eqv_el (p q:S × S):PyData.eqv (elD p) (elD q)=decide (p=q):=by
  unfold elD
  have e1:=eqv_strT p.1 q.1
  have e2:=eqv_strT p.2 q.2
  simp only [PyData.eqv,PyData.eqvAll,Bool.and_true] at e1 e2 ⊢
  rw [e1,e2]
  obtain ⟨p1,p2⟩:=p
  obtain ⟨q1,q2⟩:=q
  by_cases h1:p1=q1 <;> by_cases h2:p2=q2 <;> simp [h1,h2]
theorem any_el (l:List (S × S)) (q:S × S):((l.map elD).any fun e=>PyData.eqv e (elD q))=decide (q∈l):=by
  rw [List.any_map]
  induction l with
  | nil=>rfl
  | cons p l ih =>
    rw [List.any_cons,ih]
    show (PyData.eqv (elD p) (elD q) || _)=_
    rw [eqv_el]
    by_cases h1:p=q
    · subst h1; simp
    · by_cases h2:q∈l <;> simp [h1,h2,Ne.symm h1]
abbrev isLowT (x:S):Prop:=∀ c∈x,97≤c∧c≤122
def plW (bk:List S) (o:Nat) (q:S × S):List Nat:=(List.range bk.length).filter fun i=>match bk[i]? with | some t=>decide (q∈pairs1 o t) | none=>false
def ivs (l:List Nat):List V:=l.map fun (i:Nat)=>V.int (i:Int)
theorem plW_take (bk:List S) (o:Nat) (q:S × S) (i:Nat) {t:S} (e:bk[i]?=some t):((List.range (i+1)).filter fun i=>match bk[i]? with | some t=>decide (q∈pairs1 o t) | none=>false)=((List.range i).filter fun i=>match bk[i]? with | some t=>decide (q∈pairs1 o t) | none=>false)++(if q∈pairs1 o t then [i] else []):=by
  rw [List.range_succ,List.filter_append]
  congr 1
  by_cases h:q∈pairs1 o t
  · rw [if_pos h]; simp [List.filter,e,h]
  · rw [if_neg h]; simp [List.filter,e,h]
section
variable {P:Program}{w:World}{K:PySem.W.Frag}{mg:Str→Option Value}{base:Heap}
theorem el_lay {p:S × S} (h1:∀ c∈p.1,c≤122) (h2:∀ c∈p.2,c≤122):(elD p).canLay0=true∧(elD p).depth≤10:=by
  unfold elD
  simp only [PyData.canLay0,PyData.canLayAll0,PyData.depth,PyData.depthAll,strOk_of h1,strOk_of h2,Bool.and_self,true_and]
  decide
theorem el_shaped {p:S × S} (h1:∀ c∈p.1,c≤122) (h2:∀ c∈p.2,c≤122):SeqAt.shaped (elD p)=true:=by
  obtain ⟨a,b⟩:=el_lay h1 h2
  unfold SeqAt.shaped
  rw [a,decide_eq_true (show (elD p).depth≤64 by omega)]; rfl
def spPlW (K:PySem.W.Frag):Sp:=fun vs H Q _=>∃ (b:Addr) (bk:List S) (o:Nat) (v:V) (q:S × S),vs=[.ref b,.int o,v]∧H b=some (.tup (bkV bk))∧Bk bk o∧Rep K H (elD q) v∧isLowT q.1∧isLowT q.2∧∀ l H',Same H H'→H' l=some (.lst (ivs (plW bk o q)))→Q (.ref l) H'
abbrev sPlW:Stmt:=top 41
theorem scPlW:FnScope ["book", "order", "step"] ["book", "order", "step"] (defScope sPlW):=⟨rfl,rfl,rfl,by decide +kernel,rfl,by decide +kernel,by decide +kernel⟩
theorem ndPW:(["order", "step", "place", "told"]:List Str).Nodup:=by decide +kernel
theorem ok_plw {f:Addr}{fd:FuncData} (F:Fun K "places_with" "places_with" sPlW f fd) (hen:mg "enumerate" = none) (cE:Cal P w K mg base 2 "ends_and_letters" ["name", "order"] (spEnds K)):FnOk P w K mg base CX0 3 f fd ["book", "order", "step"] (spPlW K):=by
  refine F.ok scPlW (fun vs H Q E h=>?_) (fun cdv A outer s H vs Q E hr h=>?_)
  · obtain ⟨b,bk,o,v,q,rfl,_⟩:=h; rfl
  · obtain ⟨b,bk,o,v,q,rfl,hb,hB,rq,q1,q2,k⟩:=h
    refine ⟨_,pss_one (ps_ret (pe_comp (N:=["order", "step", "place", "told"]) (caps:=[1,2]) rfl (compScope_of (by kernel_rfl)) (pi_enumT rfl hen (pa_cons (pv 0) pa_nil))
        (fun cl C s H ex=>pg_tupK K 2 rfl rfl (pgs_cons (pg_name (i:=2) ndPW rfl (Or.inl rfl)) (pgs_cons (pg_name (i:=3) ndPW rfl (Or.inl rfl)) pgs_nil)) rfl rfl)
        (fun cl C s H ex=>pf_one (pt_cmpR (op_inDK K rfl hr.units65) (pv 1) (pe_cal cE hr rfl (pa_cons (pv 3) (pa_cons (pv 0) pa_nil))) (by with_unfolding_all rfl)))
        (fun cl C s H ex=>pv 2))),?_⟩
    refine ⟨_,rfl,b,_,rfl,.of hb,?_⟩
    have hlen:(bkV bk).length=bk.length:=List.length_map ..
    have h8:=hB.hi
    refine comp_pairs (J:=IteT K b) (xs:=ivs (List.range bk.length)) (ys:=bkV bk) (len:=bk.length) (Hk:=fun H'=>SqT K H' b (bkV bk))
      (fun i H' hk hi=>⟨bkV bk,(bkV bk)[i]'(by rw [hlen]; exact hi),hk,List.getElem?_eq_getElem _⟩) (fun i H' hk e=>⟨bkV bk,hk,by rw [hlen,e]⟩)
      (fun i H' x H'' hk ⟨T,y,e1,e2,e3,e4⟩=>⟨T,.int i,y,e1,e2,e3,by
        have hi:i < bk.length:=by
          have:=(List.getElem?_eq_some_iff.mp (e4 _ hk)).1
          rw [hlen] at this; exact this
        unfold ivs; rw [List.getElem?_map,List.getElem?_range hi]; rfl,e4 _ hk⟩)
      [some (.int o),some v] 2 (by omega) (fun i acc H'=>Same H H'∧acc=ivs ((List.range i).filter fun i=>match bk[i]? with | some t=>decide (q∈pairs1 o t) | none=>false))
      ⟨Same.refl H,rfl⟩ (fun i acc H' _ h=>⟨.of (h.1 _ _ hb),by rw [h.2]; unfold ivs; rw [List.length_map]; exact Nat.le_trans (List.length_filter_le ..) (by rw [List.length_range]; exact Nat.le_refl _)⟩) ?_ ?_
    · rintro i x y T acc H' zs Nx hN hx hy hz ⟨sm,rfl⟩ hT
      obtain ⟨z1,z2,rfl⟩:=ys2 hz
      rw [bkV,List.getElem?_map] at hy
      cases e:bk[i]? with
      | none=>rw [e] at hy; cases hy
      | some t =>
      rw [e] at hy
      have hy2:y=sv t:=(Option.some.inj hy).symm
      subst hy2
      have hi:i < bk.length:=(List.getElem?_eq_some_iff.mp e).1
      have hx2:x=.int i:=by
        unfold ivs at hx
        rw [List.getElem?_map,List.getElem?_range hi] at hx
        exact (Option.some.inj hx).symm
      subst hx2
      have ht:=List.mem_of_getElem? e
      have t1:Same H' (upd H' T (.tup [.int (i:Int),sv t])):=Same.upd1 hT
      have sm1:=sm.trans t1
      refine ⟨T,_,rfl,.of upd_same,rfl,_,_,rfl,_,_,rfl,rfl,?_⟩
      generalize upd H' T (.tup [.int (i:Int),sv t])=HA at sm1
      clear t1 hT sm H'
      have et:=plW_take bk o q i e
      have l8:=hB.l8 t ht
      refine ⟨_,rfl,_,rfl,_,rfl,t,o,rfl,hB.o1,by omega,fun l xs H5 s5 hl5 h5 rp5=>?_⟩
      have sm2:=sm1.trans s5
      refine ⟨elD q,(pairs1 o t).map elD,Rep.same sm2 _ _ rq,⟨l,xs,rfl,.of h5,rp5⟩,el_shaped (fun c hc=>(q1 c hc).2) (fun c hc=>(q2 c hc).2),?_,_,rfl,?_⟩
      · refine (shaped_list fun d hd=>?_).1
        obtain ⟨p,hp,rfl⟩:=List.mem_map.mp hd
        have pc:=pair_chars (hB.nm t ht) hp
        exact el_lay (fun c hc=>(pc.1 c hc).2) fun c hc=>(pc.2 c hc).2
      · rw [any_el]
        by_cases h:q∈pairs1 o t
        · rw [if_pos h] at et
          refine iteD h ⟨_,rfl,hN _ _ [some (.int (i:Int)),some (sv t)] rfl ⟨sm2,?_⟩⟩
          rw [et]; unfold ivs; rw [List.map_append]; rfl
        · rw [if_neg h,List.append_nil] at et
          exact iteDF h (hN _ _ [some (.int (i:Int)),some (sv t)] rfl ⟨sm2,by rw [et]⟩)
    · rintro acc H' ⟨sm,rfl⟩ D hD
      exact k D _ (sm.upd_new (sm.free hD)) upd_same
def rowsP (bk:List S) (o:Nat) (nm:S):List (List Nat):=(pairs1 o nm).map (plW bk o)
structure LsAt (H:Hp) (vs:List V) (ls:List (List Nat)):Prop where
  len:vs.length=ls.length
  at_:∀ (i:Nat) (v:V) (l:List Nat),vs[i]?=some v→ls[i]?=some l→∃ a,v=.ref a∧H a=some (.lst (ivs l))
theorem LsAt.same {H H':Hp}{vs:List V}{ls:List (List Nat)} (h:LsAt H vs ls) (e:Same H H'):LsAt H' vs ls:=⟨h.len,fun i v l h1 h2=>let ⟨a,e1,e2⟩:=h.at_ i v l h1 h2; ⟨a,e1,e _ _ e2⟩⟩
theorem LsAt.nil {H:Hp}:LsAt H [] []:=⟨rfl,fun i v l h=>by cases h⟩
theorem LsAt.snoc {H:Hp}{vs:List V}{ls:List (List Nat)}{a:Addr}{l:List Nat} (h:LsAt H vs ls) (f:H a=some (.lst (ivs l))):LsAt H (vs++[.ref a]) (ls++[l]):=by
  refine ⟨by rw [List.length_append,List.length_append,h.len]; rfl,fun i u r h1 h2=>?_⟩
  by_cases hi:i < vs.length
  · rw [List.getElem?_append_left hi] at h1
    rw [List.getElem?_append_left (by rw [← h.len]; exact hi)] at h2
    exact h.at_ i u r h1 h2
  · have e1:i=vs.length:=by
      have:=(List.getElem?_eq_some_iff.mp h1).1
      rw [List.length_append] at this
      have e:([V.ref a]:List V).length=1:=rfl
      omega
    subst e1
    rw [List.getElem?_append_right (Nat.le_refl _),Nat.sub_self] at h1
    rw [List.getElem?_append_right (by rw [h.len]; exact Nat.le_refl _),h.len,Nat.sub_self] at h2
    have h1':V.ref a=u:=Option.some.inj h1
    have h2':l=r:=Option.some.inj h2
    subst h1' h2'
    exact ⟨a,rfl,f⟩
theorem LsAt.get {H:Hp}{vs:List V}{ls:List (List Nat)}{i:Nat}{v:V} (h:LsAt H vs ls) (e:vs[i]?=some v):∃ a l,ls[i]?=some l∧v=.ref a∧H a=some (.lst (ivs l)):=by
  have hi:i < ls.length:=by rw [← h.len]; exact (List.getElem?_eq_some_iff.mp e).1
  obtain ⟨a,e1,e2⟩:=h.at_ i v ls[i] e (List.getElem?_eq_getElem hi)
  exact ⟨a,ls[i],List.getElem?_eq_getElem hi,e1,e2⟩
def spPbs:Sp:=fun vs H Q _=>∃ (b:Addr) (bk:List S) (o:Nat) (nm:S),vs=[.ref b,.int o,sv nm]∧H b=some (.tup (bkV bk))∧Bk bk o∧isNm nm∧∀ l xs H',Same H H'→H' l=some (.lst xs)→LsAt H' xs (rowsP bk o nm)→Q (.ref l) H'
abbrev sPbs:Stmt:=top 42
theorem scPbs:FnScope ["book", "order", "name"] ["book", "order", "name"] (defScope sPbs):=⟨rfl,rfl,rfl,by decide +kernel,rfl,by decide +kernel,by decide +kernel⟩
theorem ndPB:(["book", "order", "step"]:List Str).Nodup:=by decide +kernel
theorem ok_pbs {f:Addr}{fd:FuncData} (F:Fun K "places_by_step" "places_by_step" sPbs f fd) (cE:Cal P w K mg base 2 "ends_and_letters" ["name", "order"] (spEnds K)) (cW:Cal P w K mg base 3 "places_with" ["book", "order", "step"] (spPlW K)):FnOk P w K mg base CX0 4 f fd ["book", "order", "name"] spPbs:=by
  refine F.ok scPbs (fun vs H Q E h=>?_) (fun cdv A outer s H vs Q E hr h=>?_)
  · obtain ⟨b,bk,o,nm,rfl,_⟩:=h; rfl
  · obtain ⟨b,bk,o,nm,rfl,hb,hB,hn,k⟩:=h
    have hr2:=hr.mono (j:=2) (by decide)
    refine ⟨_,pss_one (ps_ret (pe_comp (N:=["book", "order", "step"]) (caps:=[0,1]) rfl (compScope_of (by kernel_rfl)) (pi_list (pe_cal cE hr2 rfl (pa_cons (pv 2) (pa_cons (pv 1) pa_nil))))
        (fun cl C s H ex=>pg_name (i:=2) ndPB rfl (Or.inl rfl)) (fun cl C s H ex=>pf_nil)
        (fun cl C s H ex=>pe_cal cW hr rfl (pa_cons (pv 0) (pa_cons (pv 1) (pa_cons (pv 2) pa_nil)))))),?_⟩
    have n8:=hn.2.1
    refine ⟨_,rfl,_,rfl,nm,o,rfl,hB.o1,by omega,fun l0 xs H1 s1 hl0 h1 rp1=>?_⟩
    refine ⟨l0,rfl,⟨_,.of h1⟩,?_⟩
    have xl:xs.length=(pairs1 o nm).length:=by have:=rp1.length; rw [← this,List.length_map]
    have pl:(pairs1 o nm).length=nm.length+1:=by unfold pairs1; rw [List.length_map,List.length_range]
    refine comp_known0 (known_list K l0 xs) [some (.ref b),some (.int o)] 1 (by omega) (fun i acc H'=>Same H1 H'∧acc.length=i∧LsAt H' acc (((pairs1 o nm).take i).map (plW bk o)))
      ⟨Same.refl _,rfl,LsAt.nil⟩ (fun i acc H' _ h=>⟨.of (h.1 _ _ h1),Nat.le_of_eq h.2.1⟩) ?_ ?_
    · rintro i y acc H' ys Nx hN hx hy ⟨sm,hal,ls⟩
      obtain ⟨y',rfl⟩:=ys1 hy
      obtain ⟨dd,hdd,rx⟩:=rp1.get hx
      rw [List.getElem?_map] at hdd
      cases e:(pairs1 o nm)[i]? with
      | none=>rw [e] at hdd; cases hdd
      | some q =>
      rw [e] at hdd
      have hd2:dd=elD q:=(Option.some.inj hdd).symm
      subst hd2
      have hi:i < (pairs1 o nm).length:=(List.getElem?_eq_some_iff.mp e).1
      have pc:=pair_chars hn (List.mem_of_getElem? e)
      refine ⟨_,rfl,_,rfl,_,rfl,b,bk,o,y,q,rfl,sm _ _ (s1 _ _ hb),hB,Rep.same sm _ _ rx,pc.1,pc.2,fun l H5 s5 h5=>hN _ _ [some y] rfl ⟨sm.trans s5,by rw [List.length_append,hal]; rfl,?_⟩⟩
      rw [List.take_succ_eq_append_getElem hi,(List.getElem?_eq_some_iff.mp e).2,List.map_append]
      exact (ls.same s5).snoc h5
    · rintro acc H' ⟨sm,hal,ls⟩ D hD
      rw [xl,List.take_length] at ls
      have u1:Same H' (upd H' D (.lst acc)):=Same.upd1 hD
      exact k D acc _ ((s1.trans sm).trans u1) upd_same (ls.same u1)
def anyHas (hv pl:List Nat):Bool:=pl.any fun p=>decide (p∈hv)
def aloneM (rows:List (List Nat)) (pl:List Nat):Bool:=rows.all fun hv=>anyHas hv pl
theorem in_ivs (p:Nat) (l:List Nat):inV (.int (p:Int)) (ivs l)=decide (p∈l):=by
  unfold inV ivs
  rw [List.any_map]
  induction l with
  | nil=>rfl
  | cons x l ih =>
    rw [List.any_cons,ih]
    show (eqV (V.int (x:Int)) (V.int (p:Int)) || _)=_
    by_cases h1:x=p
    · subst h1; simp [eqV]
    · have h1':¬ (x:Int)=(p:Int):=by omega
      by_cases h2:p∈l <;> simp [eqV,h1',h2,Ne.symm h1]
theorem flat_ivs (l:List Nat):(ivs l).all flatV=true:=by unfold ivs; rw [List.all_map,List.all_eq_true]; intro n _; rfl
theorem ivs_len (l:List Nat):(ivs l).length=l.length:=List.length_map ..
theorem ivs_get {l:List Nat}{i:Nat}{x:V} (h:(ivs l)[i]?=some x):∃ n,l[i]?=some n∧x=.int (n:Int):=by
  unfold ivs at h
  rw [List.getElem?_map] at h
  cases e:l[i]? with
  | none=>rw [e] at h; cases h
  | some n=>rw [e] at h; exact ⟨n,rfl,(Option.some.inj h).symm⟩
def spAnyHas:Sp:=fun vs H Q _=>∃ (a b:Addr) (hv pl:List Nat),vs=[.ref a,.ref b]∧H a=some (.lst (ivs hv))∧H b=some (.lst (ivs pl))∧pl.length≤100∧∀ H',Same H H'→Q (.bl (anyHas hv pl)) H'
abbrev sAnyHas:Stmt:=top 43
theorem scAnyHas:FnScope ["having", "places"] ["having", "places"] (defScope sAnyHas):=⟨rfl,rfl,rfl,by decide +kernel,rfl,by decide +kernel,by decide +kernel⟩
theorem ndAH:(["having", "place"]:List Str).Nodup:=by decide +kernel
theorem op_in_seqK {X:Cx} (K':PySem.W.Frag) (hK:X.K=K'):OpR X (compareOp .In) (rIn K' false):=by
  subst hK; exact op_in_seq
theorem ok_anyhas {f:Addr}{fd:FuncData} (F:Fun K "any_has" "any_has" sAnyHas f fd) (hany:mg "any" = none):FnOk P w K mg base CX0 1 f fd ["having", "places"] spAnyHas:=by
  refine F.ok scAnyHas (fun vs H Q E h=>?_) (fun cdv A outer s H vs Q E hr h=>?_)
  · obtain ⟨a,b,hv,pl,rfl,_⟩:=h; rfl
  · obtain ⟨a,b,hv,pl,rfl,ha,hb,h100,k⟩:=h
    refine ⟨_,pss_one (ps_ret (pe_callB (call_any rfl) (by rfl) hany PyProof.Rows.boot_any (pa_cons (pe_comp (N:=["having", "place"]) (caps:=[0]) rfl (compScope_of (by kernel_rfl)) (pi_list (pv 1))
        (fun cl C s H ex=>pg_name (i:=1) ndAH rfl (Or.inl rfl)) (fun cl C s H ex=>pf_nil)
        (fun cl C s H ex=>pe_cmpR (op_in_seqK K rfl) (pv 1) (pv 0) (by with_unfolding_all rfl))) pa_nil))),?_⟩
    refine ⟨_,rfl,b,rfl,⟨_,.of hb⟩,?_⟩
    refine comp_known0 (known_list K b (ivs pl)) [some (.ref a)] 1 (by rw [ivs_len]; omega) (fun i acc H'=>H'=H∧acc=((pl.take i).map fun p=>decide (p∈hv)).map V.bl) ⟨rfl,rfl⟩ (fun i acc H' _ h=>⟨by rw [h.1]; exact .of hb,by rw [h.2,List.length_map,List.length_map,List.length_take]; omega⟩) ?_ ?_
    · rintro i y acc H' ys Nx hN hx hy ⟨rfl,rfl⟩
      obtain ⟨y',rfl⟩:=ys1 hy
      obtain ⟨n,en,rfl⟩:=ivs_get hx
      refine ⟨_,rfl,_,rfl,a,ivs hv,rfl,.inl (.of ha),rfl,flat_ivs hv,hN _ _ [some (.int (n:Int))] rfl ⟨rfl,?_⟩⟩
      rw [List.take_succ_eq_append_getElem (List.getElem?_eq_some_iff.mp en).1,(List.getElem?_eq_some_iff.mp en).2,List.map_append,List.map_append]
      show _++[V.bl (inV _ _)]=_
      rw [in_ivs]; rfl
    · rintro acc H' ⟨rfl,rfl⟩ D hD
      rw [ivs_len,List.take_length]
      refine ⟨D,pl.map fun p=>decide (p∈hv),rfl,.of upd_same,?_⟩
      have e:(pl.map fun p=>decide (p∈hv)).any id=anyHas hv pl:=by unfold anyHas; rw [List.any_map]; rfl
      rw [e]
      exact k _ (Same.upd1 hD)
def spAlone:Sp:=fun vs H Q _=>∃ (a b:Addr) (xs:List V) (rows:List (List Nat)) (pl:List Nat),vs=[.ref a,.ref b]∧H a=some (.lst xs)∧LsAt H xs rows∧rows.length≤100∧H b=some (.lst (ivs pl))∧pl.length≤100∧∀ H',Same H H'→Q (.bl (aloneM rows pl)) H'
abbrev sAlone:Stmt:=top 44
theorem scAlone:FnScope ["by_step", "places"] ["by_step", "places"] (defScope sAlone):=⟨rfl,rfl,rfl,by decide +kernel,rfl,by decide +kernel,by decide +kernel⟩
theorem ndAM:(["places", "having"]:List Str).Nodup:=by decide +kernel
theorem ok_alone {f:Addr}{fd:FuncData} (F:Fun K "alone_make" "alone_make" sAlone f fd) (B:Blt mg) (cA:Cal P w K mg base 1 "any_has" ["having", "places"] spAnyHas):FnOk P w K mg base CX0 2 f fd ["by_step", "places"] spAlone:=by
  refine F.ok scAlone (fun vs H Q E h=>?_) (fun cdv A outer s H vs Q E hr h=>?_)
  · obtain ⟨a,b,xs,rows,pl,rfl,_⟩:=h; rfl
  · obtain ⟨a,b,xs,rows,pl,rfl,ha,ls,r100,hb,h100,k⟩:=h
    refine ⟨_,pss_one (ps_ret (pe_callB (call_all rfl) (by rfl) B.all PyProof.Rows.boot_all (pa_cons (pe_comp (N:=["places", "having"]) (caps:=[1]) rfl (compScope_of (by kernel_rfl)) (pi_list (pv 0))
        (fun cl C s H ex=>pg_name (i:=1) ndAM rfl (Or.inl rfl)) (fun cl C s H ex=>pf_nil)
        (fun cl C s H ex=>pe_cal cA hr rfl (pa_cons (pv 1) (pa_cons (pv 0) pa_nil)))) pa_nil))),?_⟩
    have xl:=ls.len
    refine ⟨_,rfl,a,rfl,⟨_,.of ha⟩,?_⟩
    refine comp_known0 (known_list K a xs) [some (.ref b)] 1 (by omega) (fun i acc H'=>Same H H'∧acc=((rows.take i).map fun hv=>anyHas hv pl).map V.bl) ⟨Same.refl H,rfl⟩ (fun i acc H' _ h=>⟨.of (h.1 _ _ ha),by rw [h.2,List.length_map,List.length_map,List.length_take]; omega⟩) ?_ ?_
    · rintro i y acc H' ys Nx hN hx hy ⟨sm,rfl⟩
      obtain ⟨y',rfl⟩:=ys1 hy
      obtain ⟨a1,hv,ehv,rfl,h1⟩:=ls.get hx
      refine ⟨_,rfl,_,rfl,a1,b,hv,pl,rfl,sm _ _ h1,sm _ _ hb,h100,fun H5 s5=>hN _ _ [some (.ref a1)] rfl ⟨sm.trans s5,?_⟩⟩
      rw [List.take_succ_eq_append_getElem (List.getElem?_eq_some_iff.mp ehv).1,(List.getElem?_eq_some_iff.mp ehv).2,List.map_append,List.map_append]; rfl
    · rintro acc H' ⟨sm,rfl⟩ D hD
      rw [xl,List.take_length]
      refine ⟨D,rows.map fun hv=>anyHas hv pl,rfl,.of upd_same,?_⟩
      have e:(rows.map fun hv=>anyHas hv pl).all id=aloneM rows pl:=by unfold aloneM; rw [List.all_map]; rfl
      rw [e]
      exact k _ (sm.upd_new (sm.free hD))
end
end Kn
end
section
namespace Kn
open PySem L2
def risingL (l:List Nat):Bool:=(l.zip (l.drop 1)).all fun p=>decide (p.1 < p.2)
def isPlL (n:Nat) (l:List Nat):Bool:=(l.all fun p=>decide (p < n)) && risingL l
def fewerL (l:List Nat):List (List Nat):=(List.range l.length).map fun i=>l.take i++l.drop (i+1)
def showsL (rows:List (List Nat)) (n:Nat) (l:List Nat):Bool:=isPlL n l && aloneM rows l && !((fewerL l).any fun m=>aloneM rows m)
section
variable {P:Program}{w:World}{K:PySem.W.Frag}{mg:Str→Option Value}{base:Heap}
def spWholeI:Sp:=fun vs H Q _=>∃ i a b:Int,vs=[.int i,.int a,.int b]∧Q (.bl (decide (a≤i) && decide (i≤b))) H
theorem ok_wholeI {f:Addr}{fd:FuncData} (F:Fun K "is_whole" "is_whole" sIsWhole f fd) (B:Blt mg) (C:Cst K mg):FnOk P w K mg base CX0 1 f fd ["thing", "least", "most"] spWholeI:=by
  refine F.ok scIsWhole (fun vs H Q E h=>?_) (fun cdv A outer s H vs Q E hr h=>?_)
  · obtain ⟨i,a,b,rfl,_⟩:=h; rfl
  · obtain ⟨i,a,b,rfl,k⟩:=h
    refine ⟨_,pss_cons (ps_if (PW.pt (pw_or (pt_not (pt_val (pe_callB call_isinst (by rfl) B.isinstance PyProof.Rows.boot_isinstance (pa_cons (pv 0) (pa_cons (pe_bltn (v:=.ty "int") (by rfl) B.int PyProof.Rows.boot_int rfl) pa_nil)))))
        (pw_or1 (pt_val (pe_callB call_isinst (by rfl) B.isinstance PyProof.Rows.boot_isinstance (pa_cons (pv 0) (pa_cons (pe_bltn (v:=.ty "bool") (by rfl) B.bool PyProof.Rows.boot_bool rfl) pa_nil)))))))
        (pss_one (ps_ret pe_bl)) pss_nil)
      (pss_one (ps_ret (pe_chain op_le op_le (pv 1) (pv 0) (pv 2)))),?_⟩
    refine ⟨_,rfl,_,_,_,true,rfl,.int _,(by rfl),_,rfl,?_⟩
    refine iteF ?_
    refine ⟨_,rfl,_,_,_,false,rfl,.int _,C.ib,_,rfl,?_⟩
    refine iteF ?_
    refine ⟨_,rfl,_,rfl,_,_,rfl,rfl,_,rfl,?_⟩
    by_cases h:a≤i
    · rw [decide_eq_true h] at k
      refine iteD h ⟨_,rfl,_,_,rfl,rfl,?_⟩
      exact k
    · rw [decide_eq_false h] at k
      exact iteDF h k
def spRising:Sp:=fun vs H Q _=>∃ (a:Addr) (l:List Nat),vs=[.ref a]∧H a=some (.lst (ivs l))∧l.length≤100∧∀ H',Same H H'→Q (.bl (risingL l)) H'
abbrev sRising:Stmt:=top 15
theorem scRising:FnScope ["things"] ["things"] (defScope sRising):=⟨rfl,rfl,rfl,by decide +kernel,rfl,by decide +kernel,by decide +kernel⟩
theorem ndRi:(["one", "other"]:List Str).Nodup:=by decide +kernel
theorem ivs_drop (l:List Nat):cutV (ivs l) (some 1) none=ivs (l.drop 1):=by
  unfold cutV
  have e:HT.sIx (ivs l).length 0 (some 1)=min 1 (ivs l).length:=HT.sIx_nat _ _ 1
  have e2:HT.sIx (ivs l).length (ivs l).length none=(ivs l).length:=rfl
  rw [e,e2]
  unfold ivs
  rw [List.map_drop,List.length_map]
  cases l with
  | nil=>rfl
  | cons x l =>
    rw [List.length_cons,Nat.min_eq_left (by omega)]
    rw [List.take_of_length_le (by rw [List.length_drop,List.length_map,List.length_cons]; omega)]
theorem ok_rising {f:Addr}{fd:FuncData} (F:Fun K "is_rising" "is_rising" sRising f fd) (B:Blt mg) (hz:mg "zip" = none):FnOk P w K mg base CX0 1 f fd ["things"] spRising:=by
  refine F.ok scRising (fun vs H Q E h=>?_) (fun cdv A outer s H vs Q E hr h=>?_)
  · obtain ⟨a,l,rfl,_⟩:=h; rfl
  · obtain ⟨a,l,rfl,ha,h100,k⟩:=h
    refine ⟨_,pss_one (ps_ret (pe_callB (call_all rfl) (by rfl) B.all PyProof.Rows.boot_all (pa_cons (pe_comp (N:=["one", "other"]) (caps:=[]) rfl (compScope_of (by kernel_rfl)) (pi_zip false rfl hz (pa_cons (pv 0) (pa_cons (pe_slice sl_list (pv 0) (po_some pe_int) po_none) pa_nil)))
        (fun cl C s H ex=>pg_tupK K 2 rfl rfl (pgs_cons (pg_name (i:=0) ndRi rfl (Or.inl rfl)) (pgs_cons (pg_name (i:=1) ndRi rfl (Or.inl rfl)) pgs_nil)) rfl rfl)
        (fun cl C s H ex=>pf_nil)
        (fun cl C s H ex=>pe_cmpR op_lt (pv 0) (pv 1) (nomark _))) pa_nil))),?_⟩
    refine ⟨_,rfl,_,rfl,_,rfl,a,_,rfl,.of ha,fun b hb=>?_⟩
    rw [ivs_drop]
    have t1:Same H (upd H b (.lst (ivs (l.drop 1)))):=Same.upd1 hb
    have ha1:=t1 _ _ ha
    have hb1:(upd H b (.lst (ivs (l.drop 1)))) b=some (.lst (ivs (l.drop 1))):=upd_same
    generalize upd H b (.lst (ivs (l.drop 1)))=H1 at t1 ha1 hb1
    refine ⟨a,b,_,_,rfl,.of ha1,(show SqB false K H1 b (ivs (l.drop 1)) from .of hb1),?_⟩
    have dl:(l.drop 1).length=l.length - 1:=by rw [List.length_drop]
    refine comp_pairs (J:=Itz K false a b) (xs:=ivs l) (ys:=ivs (l.drop 1)) (len:=(l.drop 1).length) (Hk:=fun H'=>SqL K H' a (ivs l)∧SqB false K H' b (ivs (l.drop 1)))
      (fun i H' hk hi=>⟨ivs l,ivs (l.drop 1),(ivs l)[i]'(by rw [ivs_len]; omega),(ivs (l.drop 1))[i]'(by rw [ivs_len]; exact hi),hk.1,hk.2,List.getElem?_eq_getElem _,List.getElem?_eq_getElem _⟩)
      (fun i H' hk e=>⟨ivs l,ivs (l.drop 1),hk.1,hk.2,by rw [ivs_len,ivs_len]; omega⟩)
      (fun i H' x H'' hk ⟨T,x1,y1,e1,e2,e3,e4,e5⟩=>⟨T,x1,y1,e1,e2,e3,e4 _ hk.1,e5 _ hk.2⟩)
      [] 2 (by omega) (fun i acc H'=>Same H1 H'∧acc=(((l.zip (l.drop 1)).take i).map fun p=>decide (p.1 < p.2)).map V.bl)
      ⟨Same.refl _,rfl⟩ (fun i acc H' hi h=>⟨⟨.of (h.1 _ _ ha1),(show SqB false K H' b (ivs (l.drop 1)) from .of (h.1 _ _ hb1))⟩,by rw [h.2,List.length_map,List.length_map,List.length_take]; omega⟩) ?_ ?_
    · rintro i x y T acc H' zs Nx hN hx hy hz' ⟨sm,rfl⟩ hT
      obtain ⟨z1,z2,rfl⟩:=ys2 hz'
      obtain ⟨n1,e1,rfl⟩:=ivs_get hx
      obtain ⟨n2,e2,rfl⟩:=ivs_get hy
      have t2:Same H' (upd H' T (.tup [.int (n1:Int),.int (n2:Int)])):=Same.upd1 hT
      refine ⟨T,_,rfl,.of upd_same,rfl,_,_,rfl,_,_,rfl,rfl,?_⟩
      unfold tYes
      dsimp only
      rw [if_pos rfl]
      refine ⟨_,rfl,_,rfl,_,_,rfl,rfl,hN _ _ [_,_] rfl ⟨sm.trans t2,?_⟩⟩
      have ez:(l.zip (l.drop 1))[i]?=some (n1,n2):=by
        rw [List.getElem?_zip_eq_some]; exact ⟨e1,e2⟩
      rw [List.take_succ_eq_append_getElem (List.getElem?_eq_some_iff.mp ez).1,(List.getElem?_eq_some_iff.mp ez).2,List.map_append,List.map_append]
      show _++[V.bl (decide ((n1:Int) < (n2:Int)))]=_
      have:decide ((n1:Int) < (n2:Int))=decide (n1 < n2):=decide_eq_decide.mpr (by omega)
      rw [this]; rfl
    · rintro acc H' ⟨sm,rfl⟩ D hD
      have e:(l.zip (l.drop 1)).take (l.drop 1).length=l.zip (l.drop 1):=List.take_of_length_le (by rw [List.length_zip]; omega)
      rw [e]
      refine ⟨D,(l.zip (l.drop 1)).map fun p=>decide (p.1 < p.2),rfl,.of upd_same,?_⟩
      have e3:((l.zip (l.drop 1)).map fun p=>decide (p.1 < p.2)).all id=risingL l:=by unfold risingL; rw [List.all_map]; rfl
      rw [e3]
      exact k _ ((t1.trans sm).upd_new ((t1.trans sm).free hD))
def spIsPl:Sp:=fun vs H Q _=>∃ (v:V) (n:Nat),vs=[v,.int (n:Int)]∧((v=.non∧Q (.bl false) H)∨∃ (a:Addr) (l:List Nat),v=.ref a∧H a=some (.lst (ivs l))∧l.length≤100∧∀ H',Same H H'→Q (.bl (isPlL n l)) H')
abbrev sIsPl:Stmt:=top 47
theorem scIsPl:FnScope ["thing", "many"] ["thing", "many"] (defScope sIsPl):=⟨rfl,rfl,rfl,by decide +kernel,rfl,by decide +kernel,by decide +kernel⟩
theorem ndIP:(["many", "place"]:List Str).Nodup:=by decide +kernel
theorem ok_ispl {f:Addr}{fd:FuncData} (F:Fun K "is_list_of_places" "is_list_of_places" sIsPl f fd) (B:Blt mg) (hli:mg "list" = none) (cW:Cal P w K mg base 1 "is_whole" ["thing", "least", "most"] spWholeI) (cR:Cal P w K mg base 1 "is_rising" ["things"] spRising):FnOk P w K mg base CX0 2 f fd ["thing", "many"] spIsPl:=by
  refine F.ok scIsPl (fun vs H Q E h=>?_) (fun cdv A outer s H vs Q E hr h=>?_)
  · obtain ⟨v,n,rfl,_⟩:=h; rfl
  · obtain ⟨v,n,rfl,h⟩:=h
    refine ⟨_,pss_cons (ps_if (pt_not (pt_val (pe_callB call_isinst (by rfl) B.isinstance PyProof.Rows.boot_isinstance (pa_cons (pv 0) (pa_cons (pe_bltn (v:=.ty "list") (by rfl) hli PyProof.Rows.boot_list rfl) pa_nil))))) (pss_one (ps_ret pe_bl)) pss_nil)
      (pss_one (ps_ret (pe_and (pe_callB (call_all rfl) (by rfl) B.all PyProof.Rows.boot_all (pa_cons (pe_comp (N:=["many", "place"]) (caps:=[1]) rfl (compScope_of (by kernel_rfl)) (pi_list (pv 0))
          (fun cl C s H ex=>pg_name (i:=1) ndIP rfl (Or.inl rfl)) (fun cl C s H ex=>pf_nil)
          (fun cl C s H ex=>pe_cal cW hr rfl (pa_cons (pv 1) (pa_cons pe_int (pa_cons (pe_op op_sub (pv 0) pe_int) pa_nil))))) pa_nil))
        (pe_one (pe_cal cR hr rfl (pa_cons (pv 0) pa_nil)))))),?_⟩
    rcases h with ⟨rfl,k⟩ | ⟨a,l,rfl,ha,h100,k⟩
    · exact ⟨_,rfl,_,_,_,false,rfl,.non,(by rfl),_,rfl,iteT k⟩
    · refine ⟨_,rfl,_,_,_,true,rfl,.lst ha,(by rfl),_,rfl,iteF ?_⟩
      refine ⟨_,rfl,a,rfl,⟨_,.of ha⟩,?_⟩
      refine comp_known0 (known_list K a (ivs l)) [some (.int (n:Int))] 1 (by rw [ivs_len]; omega) (fun i acc H'=>H'=H∧acc=((l.take i).map fun p=>decide (p < n)).map V.bl) ⟨rfl,rfl⟩ (fun i acc H' _ h=>⟨by rw [h.1]; exact .of ha,by rw [h.2,List.length_map,List.length_map,List.length_take]; omega⟩) ?_ ?_
      · rintro i y acc H' ys Nx hN hx hy ⟨rfl,rfl⟩
        obtain ⟨y',rfl⟩:=ys1 hy
        obtain ⟨p,ep,rfl⟩:=ivs_get hx
        refine ⟨_,rfl,_,rfl,_,_,rfl,rfl,(p:Int),0,(n:Int) - 1,rfl,hN _ _ [some (.int (p:Int))] rfl ⟨rfl,?_⟩⟩
        rw [List.take_succ_eq_append_getElem (List.getElem?_eq_some_iff.mp ep).1,(List.getElem?_eq_some_iff.mp ep).2,List.map_append,List.map_append]
        have e:(decide ((0:Int)≤(p:Int)) && decide ((p:Int)≤(n:Int) - 1))=decide (p < n):=by
          rw [decide_eq_true (by omega:(0:Int)≤(p:Int)),Bool.true_and]
          exact decide_eq_decide.mpr (by omega)
        rw [e]; rfl
      · rintro acc H' ⟨rfl,rfl⟩ D hD
        rw [ivs_len,List.take_length]
        refine ⟨D,l.map fun p=>decide (p < n),rfl,.of upd_same,?_⟩
        have e:(l.map fun p=>decide (p < n)).all id=l.all fun p=>decide (p < n):=by rw [List.all_map]; rfl
        rw [e]
        have t1:Same H' (upd H' D (.lst ((l.map fun p=>decide (p < n)).map V.bl))):=Same.upd1 hD
        cases eg:l.all fun p=>decide (p < n) with
        | true =>
          refine ⟨true,rfl,iteT ⟨_,rfl,a,l,rfl,t1 _ _ ha,h100,fun H5 s5=>?_⟩⟩
          have:=k H5 (t1.trans s5)
          unfold isPlL at this
          rw [eg,Bool.true_and] at this
          exact this
        | false =>
          refine ⟨false,rfl,iteF ?_⟩
          have:=k _ t1
          unfold isPlL at this
          rw [eg,Bool.false_and] at this
          exact this
end
end Kn
end
section
namespace L2
open PySem PySem.Spec PyProof.Rows
section
variable {X:Cx}
theorem ps_setC {j:Nat}{y:Str}{py spos:Pos}{tg iter elt:Expr}{ifs:List Expr}{scope:Scope}{pos:Pos}{wi:TI}{g:TG}{tc:TT}{te:TE}{N:List Str}{caps:List Nat} (hN:X.N.Nodup) (hj:X.N[j]?=some y) (hy:Loc X.env.scope y) (hc:X.calm=true) (S:CompScope X.env.scope X.N N scope caps)
    (hi:PI X tg iter wi) (hg:∀ cl C s H ex,PG (cxComp X N scope cl C s H ex) tg g) (hf:∀ cl C s H ex,PF (cxComp X N scope cl C s H ex) ifs tc) (he:∀ cl C s H ex,PE (cxComp X N scope cl C s H ex) elt te)
    (hs:∀ x,foldedSetIterable iter X.env x=pure x:=by intro _; rfl) (hsw:swapsWith (.ListComp elt [⟨tg,iter,ifs,0⟩] scope pos) (some (.Name y py)) spos.line X.env=pure true:=by rfl)
    (hfn:X.fn y=true∨X.env.scope.names.lookup y=some .local:=by first | exact .inl rfl | exact .inr rfl | assumption):PS X (.Assign [.Name y py] (.ListComp elt [⟨tg,iter,ifs,0⟩] scope pos) spos) (tAsg (tComp wi g tc te caps N.length) (gName j)):=by
  intro pins s σ H D0 I h
  obtain ⟨cl,hcl,hcl1,hcl2⟩:=closure_of (env:=X.env) (scope:=scope) fun y hy e=>I.ok.has y.1 (S.free y hy e)
  rw [exec_Assign_Name_used _ _ _ _ hsw]
  refine wpAny_bind (wpAny_standAt (wpAny_bind ?_))
  show wpAny _ X.A (do let _ ← comprehension (.ListComp elt [⟨tg,iter,ifs,0⟩] scope pos) scope X.env _ (newList []) false (eval iter X.env) (some (assign (.Name y py) X.env))) _ _ s
  refine wpAny_bind (wpAny_mono (wpAny_comprehension_free (use:=some (assign (.Name y py) X.env)) (Q:=fun _ s'=>SP X pins D0 .next s') rfl hs hcl S.kind S.names (thn (hi pins s σ H _ I h) fun v s1 h1=>thn h1 fun itv s2 h2=>?_))
    (fun _ s' hq=>wpAny_pure (wpAny_pure hq)) fun _ _ e=>e)
  obtain ⟨it,fp,tn,J,H2,e,I2,T,st2,f2,W,⟨m0,w0⟩,turn⟩:=h2
  subst e
  refine wpAny_newObj_type (wpAny_newFunctionEnv S.nocell (by intro y hy; simp at hy) (fun h₁ hns hsb=>?_) S.kind)
  dsimp only at hns hsb ⊢
  generalize hG:s2.heap.push { cls:=.type "list",dict:=none,data:=.seq ([]:List Value).toArray }=G at hns hsb ⊢
  have hCs:G.objs.size=s2.heap.objs.size+1:=by rw [← hG,Heap.size_push]
  have hDC:s2.heap.objs.size≠G.objs.size:=by rw [hCs]; exact Nat.ne_of_lt (Nat.lt_succ_self _)
  have old:∀ b o,s2.heap.get? b=some o→h₁.get? b=some o:=fun b o e=>by
    have hb:=Heap.lt_size e
    refine hsb.extBut b o (by rw [hCs]; exact Nat.ne_of_lt (Nat.lt_succ_of_lt hb)) (Heap.get?_push_of_some _ ?_)
    rw [← hG]
    exact Heap.get?_push_of_some _ e
  have hD:h₁.get? s2.heap.objs.size=some { cls:=.type "list",dict:=none,data:=.seq ([]:List Value).toArray }:=by
    refine hsb.extBut _ _ hDC (Heap.get?_push_of_some _ ?_)
    rw [← hG]
    exact Heap.get?_push_size _ rfl
  have hfo:∀ b∈fp,b < s2.heap.objs.size:=fun b hb=>let ⟨o,e,_⟩:=T.obj 0 _ st2 b hb; Heap.lt_size e
  have hCle:s2.heap.objs.size≤G.objs.size:=by omega
  have ok:=comp_ok (C:=G.objs.size) I2 S hcl1 hcl2 hCle f2 hfo
  have I0:Inv (cxComp X N scope cl G.objs.size s2 H2 fp) [(s2.heap.objs.size,{ cls:=.type "list",dict:=none,data:=.seq ([]:List Value).toArray })] (capStart caps N.length σ) H2 { s2 with heap:=h₁,toks:=s2.toks+([]:List (Str × Value)).length } :=
    comp_start I2 ok S hcl1 hcl2 old hns hCle hD (Nat.le_refl _) hDC (fun v z=>by cases z)
  have st1:tn 0 h₁:=T.keep 0 _ _ st2 fun b _ o e=>old b o e
  generalize hX:cxComp X N scope cl G.objs.size s2 H2 fp=X' at I0
  generalize hDa:s2.heap.objs.size=D at I0 hD hDC
  have loop:codeAny (model X.prog X.w) X.A (.compLoop (.ListComp elt [⟨tg,iter,ifs,0⟩] scope pos) 0 (.ref it) (.ref D) (compEnvC scope cl G.objs.size X.env)) (compPost (model X.prog X.w) X.A X.xe (some (assign (.Name y py) X.env)) (fun _ s'=>SP X pins D0 .next s') (.ref D) G.objs.size)
      { s2 with heap:=h₁,toks:=s2.toks+([]:List (Str × Value)).length }:=by
    subst hX
    refine loop_comp (J:=fun n s'=>∃ i σ' H' acc its e,Inv (cxComp X N scope cl G.objs.size s2 H2 fp) [(D,{ cls:=.type "list",data:=.seq (List.toArray its) e })] σ' H' s'∧Vals acc its∧acc.length≤sizeLine∧tn i s'.heap∧(∀ b∈fp,H' b=none)∧W i n acc σ' H')
      ?_ m0 ⟨0,_,H2,[],[],0,I0,.nil,Nat.zero_le _,st1,fun b hb=>(f2 b hb).1,w0⟩
    rintro n s3 ⟨i,σ3,H3,acc,its,ep,I3,rv,hz,st3,fr3,w3⟩
    have stat:∀ {H':Hp} {pl:List (Addr × Obj)},(∀ b∈fp,H' b=none)→(∀ p∈pl,p.1=D)→∀ b∈fp,FpOk (cxComp X N scope cl G.objs.size s2 H2 fp) pl H' b:=fun {H' pl} hn hpl b hb=>by
      obtain ⟨a1,a2⟩:=ok.exf b hb
      exact ⟨hn b hb,a1,ok.exfs b hb,.inl hb,fun x c e=>a2 x c e,fun p hp=>by
        have hp':p∈pl:=hp
        rw [hpl p hp',← hDa]
        exact Nat.ne_of_gt (hfo b hb)⟩
    have one:∀ p∈[(D,({ cls:=.type "list",data:=.seq (List.toArray its) ep }:Obj))],p.1=D:=fun p hp=>by
      rcases List.mem_cons.mp hp with e | e
      · rw [e]
      · cases e
    have pinD:∀ {pl:List (Addr × Obj)} {σ':St} {H':Hp} {s':Shared} {o:Obj},Inv (cxComp X N scope cl G.objs.size s2 H2 fp) pl σ' H' s'→(D,o)∈pl→s'.heap.get? D=some o∧H' D=none:=fun {pl σ' H' s' o} I' hm=>by
      obtain ⟨a,b,_⟩:=I'.pin (D,o) (List.mem_append_right _ hm)
      exact ⟨a,b⟩
    rcases turn i n acc σ3 H3 w3 with ⟨stop,q⟩ | ⟨go,hlt,step⟩
    · refine wpAny_mono (T.done (cxComp X N scope cl G.objs.size s2 H2 fp) rfl rfl rfl hc i _ s3 σ3 H3 (fun _ _=>False) I3 (stat fr3 one) st3 stop) (fun r s4 ⟨hr,I4⟩=>?_) fun _ _ f=>f
      subst hr
      obtain ⟨hDo,hDn⟩:=pinD I4 (List.mem_cons_self ..)
      obtain ⟨m4,hm4,_⟩:=I4.loc
      have keepC:∀ b (u:Obj),b≠G.objs.size→s4.heap.get? b=some u→s4.heap.get? b=some u:=fun b u _ e=>e
      have un:Un (frs X.stack) fp H2 H3 s2.heap s4.heap:=I4.base
      have hDo':=hDo
      have hlow:∀ b (o:Obj),s2.heap.get? b=some o→b≠G.objs.size∧b≠D:=fun b o e=>by
        have h0:=Heap.lt_size e
        exact ⟨by rw [hCs]; exact Nat.ne_of_lt (Nat.lt_succ_of_lt h0),by rw [← hDa]; exact Nat.ne_of_lt h0⟩
      have un':Un (frs X.stack) fp H2 (upd H3 D (.lst acc)) s2.heap s4.heap :=
        ⟨fun b o e n' hb hx=>keepC b o (hlow b o e).1 (un.keep b o e n' hb hx),
         fun b o e n' hb hx=>let ⟨sl,q⟩:=un.slot b o e n' hb hx; ⟨sl,keepC b _ (hlow b o e).1 q⟩,
         fun b o e n' hx=>by rw [upd_ne (hlow b o e).2]; exact un.free b o e n' hx,
         fun b o e hx=>let ⟨o',q⟩:=un.there b o e hx; ⟨o',keepC b _ (hlow b o e).1 q⟩,
         fun b xs e=>by rw [upd_ne (ne_of_none (un.tups b xs e) hDn)]; exact un.tups b xs e,
         fun b o u e=>by rw [upd_ne (ne_of_none (un.frzs b o u e) hDn)]; exact un.frzs b o u e,
         fun b ps e=>let ⟨mo,q⟩:=un.tbls b ps e; ⟨mo,by rw [upd_ne (ne_of_none q hDn)]; exact q⟩⟩
      have hok:HOk X.prog X.w (upd H3 D (.lst acc)) s4.heap:=I4.hok.track hDn ⟨hz,its,ep,rv,hDo'⟩
      have IX:Inv X pins σ (upd H3 D (.lst acc)) s4:=I2.call' I4.os un' hok I4.bare (fun b hb=>by
        obtain ⟨_,f1,_,f3,f4,f5⟩:=f2 b hb
        exact ⟨f3,f1,f4,f5⟩)
      have hCn:upd H3 D (.lst acc) G.objs.size=none:=by
        rw [upd_ne (Ne.symm hDC)]; exact I4.free
      have fpC:FpOk X pins (upd H3 D (.lst acc)) G.objs.size:=I2.fpOk hCle hCn
      obtain ⟨oC,es,epC,hoC,hdC,hsk,hnf⟩:=hm4
      have IXp:=IX.pinned (fp:=[G.objs.size]) (fun b hb=>by
        have:b=G.objs.size:=by simpa using hb
        rw [this]; exact fpC) (fun b hb=>by
        have:b=G.objs.size:=by simpa using hb
        rw [this]; exact ⟨oC,hoC,fun v z=>by rw [hdC] at z; cases z⟩)
      refine wpAny_assign_Name (store_ok IXp hN hj hy (v:=.ref D) rfl (fun s5 I5=>?_) hfn)
      have pC:=(I5.pin (G.objs.size,oC) (List.mem_append_right _ (List.mem_append_right _ (mem_pinsAt (List.mem_cons_self ..) hoC)))).1
      refine ⟨m4,⟨oC,es,epC,pC,hdC,hsk,hnf⟩,fun h' hsb'=>?_⟩
      obtain ⟨c0,c1,c2,c3,c4,c5⟩:=fpC
      exact ⟨_,_,I5.unpinned.turned (t':=s5.toks) (fun b o hb e=>hsb'.extBut b o hb e) c0 c1 c3 c4 c5,q D hDn⟩
    · refine wpAny_mono (T.item (cxComp X N scope cl G.objs.size s2 H2 fp) rfl rfl rfl hc i _ s3 σ3 H3 (fun _ _=>False) I3 (stat fr3 one) st3 go) (fun r s4 ⟨u,hr,h4⟩=>?_) fun _ _ f=>f
      subst hr
      refine thn h4 fun _ s5 ⟨x,H5,I5,r5,y5,st5,fr5⟩=>?_
      have I5':=I5.pinned (stat fr5 one) (T.obj _ _ st5)
      refine thn (hg cl G.objs.size s2 H2 fp _ s5 σ3 H5 x u _ I5' r5 (step x H5 y5)) fun _ s6 ⟨σ6,H6,I6,q6⟩=>?_
      refine thn (hf cl G.objs.size s2 H2 fp _ s6 σ6 H6 _ I6 q6) fun b s7 ⟨H7,I7,q7⟩=>?_
      have fin:∀ {pl:List (Addr × Obj)} {σ':St} {H':Hp} {s':Shared},Inv (cxComp X N scope cl G.objs.size s2 H2 fp) (pl++pinsAt fp s5.heap) σ' H' s'→tn (i+1) s'.heap∧∀ b∈fp,H' b=none:=fun {pl σ' H' s'} I'=>by
        refine ⟨T.keep _ _ _ st5 fun b hb o e=>(I'.pin (b,o) (List.mem_append_right _ (List.mem_append_right _ (mem_pinsAt hb e)))).1,fun b hb=>?_⟩
        obtain ⟨o,e,_⟩:=T.obj _ _ st5 b hb
        exact (I'.pin (b,o) (List.mem_append_right _ (List.mem_append_right _ (mem_pinsAt hb e)))).2.1
      cases b with
      | false =>
        rw [if_neg Bool.false_ne_true] at q7 ⊢
        obtain ⟨m',hm,w7⟩:=q7
        obtain ⟨a1,a2⟩:=fin I7
        exact ⟨m',hm,i+1,σ6,H7,acc,its,ep,I7.unpinned,rv,hz,a1,a2,w7⟩
      | true =>
        rw [if_pos rfl] at q7 ⊢
        refine thn (he cl G.objs.size s2 H2 fp _ s7 σ6 H7 _ I7 q7) fun y s8 ⟨yv,H8,I8,r8,m',hm,w8⟩=>?_
        obtain ⟨a1,a2⟩:=fin I8
        obtain ⟨b1,b2⟩:=pinD I8 (List.mem_append_left _ (List.mem_cons_self ..))
        have hl:=rv.length
        refine call_meets F.slot_list_append ⟨_,b1,rfl⟩ F.entry_list_append (F.args_list_append_2 _ _) (PySem.list_append D its.toArray ep y (by rw [List.size_toArray]; omega)) ⟨b1,?_⟩
        have q9:=PySem.IsL.update b1 (·.push y)
        have kp:∀ b o,b≠D→s8.heap.get? b=some o→(s8.heap.update D (Obj.mapSeq (·.push y))).get? b=some o:=fun b o hb e=>(Heap.get?_update_other s8.heap (Obj.mapSeq (·.push y)) (Ne.symm hb)).trans e
        have I9:Inv (cxComp X N scope cl G.objs.size s2 H2 fp) [] σ6 H8 { s8 with heap:=s8.heap.update D (Obj.mapSeq (·.push y)) } :=
          (I8.pins_of (pins':=[]) fun p hp=>by cases hp).turned (t':=s8.toks) kp b2 hDC (.inr (by rw [← hDa]; exact Nat.le_refl _)) (fun x c e z=>by
            have e':X.env.cells.lookup x=some c:=hcl1 x c e
            obtain ⟨v',hv'⟩:=I2.cell x c e'
            have h0:=hv'.lt
            rw [z,← hDa] at h0
            exact Nat.lt_irrefl _ h0) fun p hp=>by
              have:p∈([]:List (Addr × Obj)):=hp
              cases this
        have hpu:its.toArray.push y=(its++[y]).toArray:=by simp
        rw [hpu] at q9
        obtain ⟨e9,q9⟩:∃ e9,(s8.heap.update D (Obj.mapSeq (·.push y))).get? D=some { cls:=.type "list",data:=.seq (its++[y]).toArray e9 }:=⟨_,q9⟩
        refine ⟨m',hm,i+1,σ6,H8,acc++[yv],its++[y],e9,I9.pins_of fun p hp=>?_,rv.append (.cons r8 .nil),?_,T.keep _ _ _ a1 fun b hb o e=>kp b o ?_ e,a2,w8⟩
        · obtain rfl:p=(D,{ cls:=.type "list",data:=.seq (its++[y]).toArray e9 }):=by
            rcases List.mem_cons.mp hp with e | e
            · exact e
            · cases e
          obtain ⟨_,_,c3,c4,_⟩:=I8.pin (D,_) (List.mem_append_right _ (List.mem_append_left _ (List.mem_cons_self ..)))
          exact ⟨q9,b2,c3,c4,fun v z=>by cases z⟩
        · rw [List.length_append,List.length_singleton]; omega
        · rintro rfl
          have h0:=hfo b hb
          rw [hDa] at h0
          exact Nat.lt_irrefl _ h0
  exact codeAny_compStart_list loop (T.self X.A 0 _ _ _ st1 loop)
end
end L2
end
section
namespace Kn
open PySem L2
theorem cutV_to (l:List Nat) (k:Nat):cutV (ivs l) none (some (k:Int))=ivs (l.take k):=by
  unfold cutV
  rw [HT.sIx_nat]
  show ((ivs l).drop 0).take (min k (ivs l).length - 0)=_
  rw [List.drop_zero,Nat.sub_zero]
  unfold ivs
  rw [List.map_take,List.length_map]
  by_cases h:k≤l.length
  · rw [Nat.min_eq_left h]
  · rw [Nat.min_eq_right (by omega),List.take_of_length_le (by rw [List.length_map]; omega),List.take_of_length_le (by rw [List.length_map]; omega)]
theorem cutV_from (l:List Nat) (k:Nat):cutV (ivs l) (some (k:Int)) none=ivs (l.drop k):=by
  unfold cutV
  have e2:HT.sIx (ivs l).length (ivs l).length none=(ivs l).length:=rfl
  rw [HT.sIx_nat,e2]
  unfold ivs
  rw [List.map_drop,List.length_map]
  by_cases h:k≤l.length
  · rw [Nat.min_eq_left h,List.take_of_length_le (by rw [List.length_drop,List.length_map]; omega)]
  · rw [Nat.min_eq_right (by omega),List.drop_of_length_le (by rw [List.length_map]; omega),List.drop_of_length_le (by rw [List.length_map]; omega),List.take_nil]
section
variable {P:Program}{w:World}{K:PySem.W.Frag}{mg:Str→Option Value}{base:Heap}
theorem sl_listK {X:Cx} (K':PySem.W.Frag) (hK:X.K=K'):SlR X (rSlL K'):=by
  subst hK; exact sl_list
def spShows:Sp:=fun vs H Q _=>∃ (b:Addr) (bk:List S) (o:Nat) (nm:S) (v:V),vs=[.ref b,.int o,sv nm,v]∧H b=some (.tup (bkV bk))∧Bk bk o∧isNm nm ∧
  ((v=.non∧∀ H',Same H H'→Q (.bl false) H')∨∃ (a:Addr) (l:List Nat),v=.ref a∧H a=some (.lst (ivs l))∧l.length≤50∧∀ H',Same H H'→Q (.bl (showsL (rowsP bk o nm) bk.length l)) H')
abbrev sShows:Stmt:=top 48
theorem scShows:FnScope ["book", "order", "name", "thing", "by_step", "fewer"] ["book", "order", "name", "thing"] (defScope sShows):=⟨rfl,rfl,rfl,by decide +kernel,rfl,by decide +kernel,by decide +kernel⟩
theorem ndSh1:(["thing", "place"]:List Str).Nodup:=by decide +kernel
theorem ndSh2:(["by_step", "places"]:List Str).Nodup:=by decide +kernel
theorem ok_shows {f:Addr}{fd:FuncData} (F:Fun K "shows" "shows" sShows f fd) (B:Blt mg) (hany:mg "any" = none) (N:Needs P w K mg base) (cI:Cal P w K mg base 2 "is_list_of_places" ["thing", "many"] spIsPl) (cP:Cal P w K mg base 4 "places_by_step" ["book", "order", "name"] spPbs) (cA:Cal P w K mg base 2 "alone_make" ["by_step", "places"] spAlone) :
    FnOk P w K mg base CX0 5 f fd ["book", "order", "name", "thing"] spShows:=by
  refine F.ok scShows (fun vs H Q E h=>?_) (fun cdv A outer s H vs Q E hr h=>?_)
  · obtain ⟨b,bk,o,nm,v,rfl,_⟩:=h; rfl
  · obtain ⟨b,bk,o,nm,v,rfl,hb,hB,hn,h⟩:=h
    have nd:=scShows.nd
    have hr3:=hr.mono (j:=3) (by decide)
    have hr2:=hr.mono (j:=2) (by decide)
    refine ⟨_,pss_cons (ps_expr (pe_cal N.bk hr3 rfl (pa_cons (pv 0) pa_nil))) (pss_cons (ps_expr (pe_cal N.od hr3 rfl (pa_cons (pv 1) pa_nil))) (pss_cons (ps_expr (pe_cal N.nm hr2 rfl (pa_cons (pv 2) pa_nil)))
      (pss_cons (ps_if (pt_not (pt_val (pe_cal cI hr2 rfl (pa_cons (pv 3) (pa_cons (pe_callB call_len_seq (by rfl) B.len PySem.boot_len (pa_cons (pv 0) pa_nil)) pa_nil))))) (pss_one (ps_ret pe_bl)) pss_nil)
      (pss_cons (ps_set (i:=4) nd rfl (Or.inr rfl) (pe_cal cP hr rfl (pa_cons (pv 0) (pa_cons (pv 1) (pa_cons (pv 2) pa_nil)))))
      (pss_cons (ps_if (pt_not (pt_val (pe_cal cA hr2 rfl (pa_cons (pv 4) (pa_cons (pv 3) pa_nil))))) (pss_one (ps_ret pe_bl)) pss_nil)
      (pss_cons (ps_setC (j:=5) (N:=["thing", "place"]) (caps:=[3]) nd rfl (Or.inl rfl) rfl (compScope_of (by kernel_rfl)) (pi_range1 rfl B.range (pa_cons (pe_callB call_len_seq (by rfl) B.len PySem.boot_len (pa_cons (pv 3) pa_nil)) pa_nil))
          (fun cl X s H ex=>pg_name (i:=1) ndSh1 rfl (Or.inl rfl)) (fun cl X s H ex=>pf_nil)
          (fun cl X s H ex=>pe_op op_cat (pe_slice (sl_listK K rfl) (pv 0) po_none (po_some (pv 1))) (pe_slice (sl_listK K rfl) (pv 0) (po_some (pe_op op_add (pv 1) pe_int)) po_none)))
      (pss_one (ps_ret (pe_not (pe_callB (call_any rfl) (by rfl) hany PyProof.Rows.boot_any (pa_cons (pe_comp (N:=["by_step", "places"]) (caps:=[4]) rfl (compScope_of (by kernel_rfl)) (pi_list (pv 5))
          (fun cl X s H ex=>pg_name (i:=1) ndSh2 rfl (Or.inl rfl)) (fun cl X s H ex=>pf_nil)
          (fun cl X s H ex=>pe_cal cA hr2 rfl (pa_cons (pv 0) (pa_cons (pv 1) pa_nil)))) pa_nil))))))))))),?_⟩
    refine ⟨_,rfl,b,bk,rfl,hb,hB.toisBk,fun H1 s1=>?_⟩
    refine ⟨_,rfl,o,rfl,hB.o1,hB.o3,?_⟩
    refine ⟨_,rfl,nm,rfl,hn,fun H2 s2=>?_⟩
    have s02:=s1.trans s2
    have ebk:(bkV bk).length=bk.length:=List.length_map ..
    refine ⟨_,rfl,_,rfl,b,bkV bk,rfl,.inr (.of (s02 _ _ hb)),v,bk.length,by rw [ebk]; rfl,?_⟩
    rcases h with ⟨rfl,k⟩ | ⟨a,l,rfl,ha,h50,k⟩
    · exact .inl ⟨rfl,_,rfl,iteT (k _ s02)⟩
    refine .inr ⟨a,l,rfl,s02 _ _ ha,by omega,fun H3 s3=>⟨_,rfl,?_⟩⟩
    have s03:=s02.trans s3
    cases e1:isPlL bk.length l with
    | false =>
      refine iteT ?_
      have:=k _ s03
      unfold showsL at this
      rw [e1,Bool.false_and,Bool.false_and] at this
      exact this
    | true =>
    refine iteF ?_
    refine ⟨_,rfl,_,rfl,_,rfl,b,bk,o,nm,rfl,s03 _ _ hb,hB,hn,fun lr xr H4 s4 hlr lsr=>?_⟩
    have s04:=s03.trans s4
    have rl:(rowsP bk o nm).length≤100:=by
      unfold rowsP pairs1
      rw [List.length_map,List.length_map,List.length_range]
      have:=hn.2.1; omega
    refine ⟨_,rfl,_,rfl,lr,a,xr,rowsP bk o nm,l,rfl,hlr,lsr,rl,s04 _ _ ha,by omega,fun H5 s5=>⟨_,rfl,?_⟩⟩
    have s05:=s04.trans s5
    cases e2:aloneM (rowsP bk o nm) l with
    | false =>
      refine iteT ?_
      have:=k _ s05
      unfold showsL at this
      rw [e1,e2,Bool.and_false,Bool.false_and] at this
      exact this
    | true =>
    refine iteF ?_
    refine ⟨_,rfl,a,ivs l,rfl,.inl (.of (s05 _ _ ha)),_,rfl,by rw [ivs_len]; omega,by rw [ivs_len]; omega,?_⟩
    have enn:((ivs l).length:Int).toNat=l.length:=by rw [ivs_len]; omega
    refine comp_known0 (known_range 0 _) [some (.ref a)] 1 (by rw [List.length_map,List.length_range,enn]; omega) (fun i acc H'=>Same H5 H'∧acc.length=i∧LsAt H' acc ((fewerL l).take i))
      ⟨Same.refl _,rfl,LsAt.nil⟩ (fun i acc H' _ h=>⟨trivial,Nat.le_of_eq h.2.1⟩) ?_ ?_
    · rintro i y acc H' ys Nx hN hx hy ⟨sm,hal,ls⟩
      obtain ⟨y',rfl⟩:=ys1 hy
      rw [enn] at hx
      obtain ⟨hi,rfl⟩:=range_item hx
      have ha1:=(s05.trans sm) _ _ ha
      refine ⟨_,rfl,_,rfl,_,rfl,a,_,rfl,.of ha1,fun p1 hp1=>?_⟩
      rw [cutV_to]
      have t1:Same H' (upd H' p1 (.lst (ivs (l.take i)))):=Same.upd1 hp1
      refine ⟨_,rfl,_,rfl,_,_,rfl,rfl,_,rfl,a,_,rfl,.of (t1 _ _ ha1),fun p2 hp2=>?_⟩
      have ec:cutV (ivs l) (some ((i:Int)+1)) none=ivs (l.drop (i+1)):=cutV_from l (i+1)
      rw [ec]
      have t2:=Same.upd1 (o:=.lst (ivs (l.drop (i+1)))) hp2
      refine ⟨p1,p2,_,_,rfl,rfl,t2 _ _ upd_same,upd_same,by rw [ivs_len,ivs_len,List.length_take,List.length_drop,sizeLine_eq]; omega,fun p3 hp3=>hN _ _ [some (.int (i:Int))] rfl ⟨((sm.trans t1).trans t2).trans (Same.upd1 hp3),by rw [List.length_append,hal]; rfl,?_⟩⟩
      have ef:(fewerL l).take (i+1)=(fewerL l).take i++[l.take i++l.drop (i+1)]:=by
        unfold fewerL
        rw [← List.map_take,← List.map_take,List.take_range,List.take_range,Nat.min_eq_left (by omega),Nat.min_eq_left (by omega),List.range_succ,List.map_append]; rfl
      rw [ef]
      refine (ls.same ((t1.trans t2).trans (Same.upd1 hp3))).snoc ?_
      rw [upd_same]; unfold ivs; rw [List.map_append]
    rintro acc H6 ⟨s6,hal,ls⟩ D hD
    rw [List.length_map,List.length_range,enn] at hal ls
    have efl:(fewerL l).take l.length=fewerL l:=List.take_of_length_le (by unfold fewerL; rw [List.length_map,List.length_range]; exact Nat.le_refl _)
    rw [efl] at ls
    have u1:Same H6 (upd H6 D (.lst acc)):=Same.upd1 hD
    have s06:=(s05.trans s6).trans u1
    have lsr6:=lsr.same ((s5.trans s6).trans u1)
    have hlr6:=((s5.trans s6).trans u1) _ _ hlr
    have ls6:=ls.same u1
    have hD6:(upd H6 D (.lst acc)) D=some (.lst acc):=upd_same
    generalize upd H6 D (.lst acc)=H7 at s06 lsr6 hlr6 ls6 hD6
    refine ⟨_,rfl,D,rfl,⟨_,.of hD6⟩,?_⟩
    refine comp_known0 (known_list K D acc) [some (.ref lr)] 1 (by omega) (fun i acc' H'=>Same H7 H'∧acc'=(((fewerL l).take i).map fun m=>aloneM (rowsP bk o nm) m).map V.bl)
      ⟨Same.refl _,rfl⟩ (fun i acc' H' _ h=>⟨.of (h.1 _ _ hD6),by rw [h.2,List.length_map,List.length_map,List.length_take]; omega⟩) ?_ ?_
    · rintro i y acc' H' ys Nx hN hx hy ⟨sm,rfl⟩
      obtain ⟨y',rfl⟩:=ys1 hy
      obtain ⟨a1,m,em,rfl,h1⟩:=ls6.get hx
      have ml:m.length≤100:=by
        have hm:=List.mem_of_getElem? em
        unfold fewerL at hm
        obtain ⟨j,_,rfl⟩:=List.mem_map.mp hm
        rw [List.length_append,List.length_take,List.length_drop]; omega
      refine ⟨_,rfl,_,rfl,lr,a1,xr,rowsP bk o nm,m,rfl,sm _ _ hlr6,lsr6.same sm,rl,sm _ _ h1,ml,fun H8 s8=>hN _ _ [some (.ref a1)] rfl ⟨sm.trans s8,?_⟩⟩
      rw [List.take_succ_eq_append_getElem (List.getElem?_eq_some_iff.mp em).1,(List.getElem?_eq_some_iff.mp em).2,List.map_append,List.map_append]; rfl
    · rintro acc' H8 ⟨s8,rfl⟩ D2 hD2
      have efl2:(fewerL l).take acc.length=fewerL l:=by rw [hal]; exact efl
      rw [efl2]
      refine ⟨D2,(fewerL l).map fun m=>aloneM (rowsP bk o nm) m,rfl,.of upd_same,?_⟩
      have e3:((fewerL l).map fun m=>aloneM (rowsP bk o nm) m).any id=(fewerL l).any fun m=>aloneM (rowsP bk o nm) m:=by rw [List.any_map]; rfl
      rw [e3]
      refine ⟨_,rfl,?_⟩
      have:=k _ ((s06.trans s8).upd_new (o:=.lst (((fewerL l).map fun m=>aloneM (rowsP bk o nm) m).map V.bl)) ((s06.trans s8).free hD2))
      unfold showsL at this
      rw [e1,e2,Bool.true_and,Bool.true_and] at this
      exact this
end
end Kn
end
section
namespace Kn
open PySem L2
def leastOf (l:List Nat):Nat:=match l.getLast? with | some p=>p+1 | none=>0
def longer1 (l:List Nat) (n:Nat):List (List Nat):=(List.range (n - leastOf l)).map fun j=>l++[leastOf l+j]
def longerL (ls:List (List Nat)) (n:Nat):List (List Nat):=ls.flatMap fun l=>longer1 l n
def intsD (l:List Nat):PyData:=.list ((l.map fun (i:Nat)=>(i:Int)).map PyData.int)
theorem ivs_ints (l:List Nat):ivs l=(l.map fun (i:Nat)=>(i:Int)).map V.int:=by unfold ivs; rw [List.map_map]; rfl
section
variable {P:Program}{w:World}{K:PySem.W.Frag}{mg:Str→Option Value}{base:Heap}
theorem rep_ivs {H:Hp}{a:Addr}{l:List Nat} (h:H a=some (.lst (ivs l))):Rep K H (intsD l) (.ref a):=⟨a,_,rfl,.of h,by rw [ivs_ints]; exact reps_ints _⟩
theorem eqv_niL (ds:List PyData):PyData.eqv (.list ds) (.list [])=ds.isEmpty:=by cases ds <;> rfl
theorem tSeq_abs {t u:TS}{D:Ends}{σ:St}{H:Hp} (R:St→Hp→Prop) (h2:∀ σ' H',R σ' H'→u D σ' H') (h1:∀ N:St→Hp→Prop,(∀ σ' H',R σ' H'→N σ' H')→t { D with nx:=N } σ H):tSeq t u D σ H:=h1 (u D) h2
theorem gName_nx {j:Nat}{v:V}{σ:St}{H:Hp}{Q:St→Hp→Prop} (h:Q (σ.set j (some v)) H):gName j v σ H Q:=h
structure LsX (p:Addr) (H:Hp) (vs:List V) (ls:List (List Nat)):Prop where
  len:vs.length=ls.length
  at_:∀ (i:Nat) (v:V) (l:List Nat),vs[i]?=some v→ls[i]?=some l→∃ a,v=.ref a∧a≠p∧H a=some (.lst (ivs l))
theorem LsX.ls {p:Addr}{H:Hp}{vs:List V}{ls:List (List Nat)} (h:LsX p H vs ls):LsAt H vs ls:=⟨h.len,fun i v l h1 h2=>let ⟨a,e,_,f⟩:=h.at_ i v l h1 h2; ⟨a,e,f⟩⟩
theorem LsX.same {p:Addr}{H H':Hp}{vs:List V}{ls:List (List Nat)} (h:LsX p H vs ls) (e:Same H H'):LsX p H' vs ls:=⟨h.len,fun i v l h1 h2=>let ⟨a,e1,n,f⟩:=h.at_ i v l h1 h2; ⟨a,e1,n,e _ _ f⟩⟩
theorem LsX.upd {p:Addr}{H:Hp}{o:HO}{vs:List V}{ls:List (List Nat)} (h:LsX p H vs ls):LsX p (upd H p o) vs ls:=⟨h.len,fun i v l h1 h2=>let ⟨a,e1,n,f⟩:=h.at_ i v l h1 h2; ⟨a,e1,n,by rw [upd_ne n]; exact f⟩⟩
theorem LsX.append {p:Addr}{H:Hp}{vs us:List V}{ls ms:List (List Nat)} (h:LsX p H vs ls) (g:LsX p H us ms):LsX p H (vs++us) (ls++ms):=by
  refine ⟨by rw [List.length_append,List.length_append,h.len,g.len],fun i v l h1 h2=>?_⟩
  by_cases hi:i < vs.length
  · rw [List.getElem?_append_left hi] at h1
    rw [List.getElem?_append_left (by rw [← h.len]; exact hi)] at h2
    exact h.at_ i v l h1 h2
  · rw [List.getElem?_append_right (by omega)] at h1
    rw [List.getElem?_append_right (by rw [← h.len]; omega),← h.len] at h2
    exact g.at_ _ v l h1 h2
theorem LsX.one {p:Addr}{H:Hp}{a:Addr}{l:List Nat} (hn:a≠p) (f:H a=some (.lst (ivs l))):LsX p H [.ref a] [l]:=by
  refine ⟨rfl,fun i v m h1 h2=>?_⟩
  match i,h1,h2 with
  | 0,h1,h2 =>
    have h1':V.ref a=v:=Option.some.inj h1
    have h2':l=m:=Option.some.inj h2
    subst h1' h2'
    exact ⟨a,rfl,hn,f⟩
  | n+1,h1,_=>simp at h1
theorem LsX.nil {p:Addr}{H:Hp}:LsX p H [] []:=⟨rfl,fun i v l h=>by simp at h⟩
def spLonger:Sp:=fun vs H Q _=>∃ (a:Addr) (xs:List V) (ls:List (List Nat)) (n:Nat),vs=[.ref a,.int (n:Int)]∧H a=some (.lst xs)∧LsAt H xs ls∧ls.length≤1000∧n≤8∧(∀ l∈ls,l.length≤100∧leastOf l≤100)∧∀ p ys H',Same H H'→H' p=some (.lst ys)→LsAt H' ys (longerL ls n)→Q (.ref p) H'
abbrev sLonger:Stmt:=top 45
theorem scLonger:FnScope ["lists", "many", "longer", "places", "least"] ["lists", "many"] (defScope sLonger):=⟨rfl,rfl,rfl,by decide +kernel,rfl,by decide +kernel,by decide +kernel⟩
theorem ndLo:(["places", "place"]:List Str).Nodup:=by decide +kernel
theorem longer1_len (l:List Nat) (n:Nat):(longer1 l n).length≤n:=by unfold longer1; rw [List.length_map,List.length_range]; omega
theorem longerL_len (n:Nat):∀ ls:List (List Nat),(longerL ls n).length≤ls.length * n
  | []=>by simp [longerL]
  | l::ls=>by
    have ih:=longerL_len n ls
    have e:longerL (l::ls) n=longer1 l n++longerL ls n:=by unfold longerL; rw [List.flatMap_cons]
    rw [e,List.length_append,List.length_cons,Nat.succ_mul]
    have:=longer1_len l n
    omega
theorem ok_longer {f:Addr}{fd:FuncData} (F:Fun K "longer_lists" "longer_lists" sLonger f fd) (B:Blt mg):FnOk P w K mg base CX0 1 f fd ["lists", "many"] spLonger:=by
  refine F.ok scLonger (fun vs H Q E h=>?_) (fun cdv A outer s H vs Q E hr h=>?_)
  · obtain ⟨a,xs,ls,n,rfl,_⟩:=h; rfl
  · obtain ⟨a,xs,ls,n,rfl,ha,hls,hln,hn8,hb,k⟩:=h
    have nd:=scLonger.nd
    have hu:=hr.units
    refine ⟨_,pss_cons (ps_set (i:=2) nd rfl (Or.inl rfl) (pe_lst pa_nil))
      (pss_cons (ps_for PassesOwn.never rfl (pi_list (pv 0)) (pg_name (i:=3) nd rfl (Or.inr rfl))
        (pss_cons (ps_set (i:=4) nd rfl (Or.inl rfl) (pe_ifExp (pt_cmpR (op_neD hu) (pv 3) (pe_lst pa_nil) (nomark _)) (pe_op op_add (pe_ix ix_list (pv 3) (pe_un un_neg pe_int) (fun _ _=>rfl)) pe_int) pe_int))
        (pss_one (ps_expr (pe_bm PySem.F.plainAttrs_list PySem.F.slot_list_extend PySem.F.type_list_extend mt_extend (pv 2) (pa_cons
          (pe_comp (N:=["places", "place"]) (caps:=[3]) rfl (compScope_of (by kernel_rfl)) (pi_range2 rfl B.range (pa_cons (pv 4) (pa_cons (pv 1) pa_nil)))
            (fun cl X s H ex=>pg_name (i:=1) ndLo rfl (Or.inl rfl)) (fun cl X s H ex=>pf_nil)
            (fun cl X s H ex=>pe_op op_cat (pv 0) (pe_lst (pa_cons (pv 1) pa_nil)))) pa_nil))))))
      (pss_one (ps_ret (pv 2)))),?_⟩
    refine ⟨by show 0≤sizeLine; decide,fun p hp=>?_⟩
    refine ⟨_,rfl,a,rfl,⟨_,.of (Same.upd1 hp _ _ ha)⟩,?_⟩
    have xl:=hls.len
    refine for_known (known_list K a xs) (fun i σ H'=>(∃ (y z:Option V),σ=[some (.ref a),some (.int (n:Int)),some (.ref p),y,z])∧Same H H'∧∃ ys,H' p=some (.lst ys)∧LsX p H' ys (longerL (ls.take i) n))
      ⟨⟨_,_,rfl⟩,Same.upd1 hp,[],upd_same,LsX.nil⟩ (fun i σ H' _ h=>.of (h.2.1 _ _ ha)) ?_ ?_
    · rintro i x σ H' Nx hN hx ⟨⟨y,z,rfl⟩,sm,ys,hpy,lsx⟩
      obtain ⟨a1,l,el,rfl,h1⟩:=hls.get hx
      have hlm:=List.mem_of_getElem? el
      obtain ⟨l100,lo100⟩:=hb l hlm
      have h1':=sm _ _ h1
      have hap:a1≠p:=fun z=>by rw [z,hp] at h1; cases h1
      have elong:longerL (ls.take (i+1)) n=longerL (ls.take i) n++longer1 l n:=by
        unfold longerL
        rw [List.take_succ_eq_append_getElem (List.getElem?_eq_some_iff.mp el).1,(List.getElem?_eq_some_iff.mp el).2,List.flatMap_append]
        simp
      refine gName_nx ?_
      dsimp only
      refine tSeq_abs (fun σ' H''=>σ'=[some (.ref a),some (.int (n:Int)),some (.ref p),some (.ref a1),some (.int (leastOf l:Int))]∧Same H' H'') ?cont fun N hN'=>?main
      case main =>
        refine ⟨_,rfl,by show 0≤sizeLine; decide,fun e1 he1=>?_⟩
        have t1:Same H' (upd H' e1 (.lst [])):=Same.upd1 he1
        refine ⟨intsD l,.list [],rep_ivs (t1 _ _ h1'),⟨e1,[],rfl,.of upd_same,rfl⟩,shaped_ints _,rfl,_,rfl,?_⟩
        cases l with
        | nil=>exact iteF (hN' _ _ ⟨rfl,t1⟩)
        | cons x0 l0 =>
          obtain ⟨r,t,er⟩:∃ r t,x0::l0=r++[t]:=by
            rcases List.eq_nil_or_concat (x0::l0) with z | ⟨r,t,z⟩
            · cases z
            · exact ⟨r,t,by rw [z,List.concat_eq_append]⟩
          refine iteT ⟨_,rfl,_,rfl,a1,_,-1,.int (t:Int),rfl,rfl,.of (t1 _ _ h1'),by rw [er]; unfold ivs; rw [List.map_append]; exact atI_last _ _,_,_,rfl,rfl,hN' _ _ ⟨?_,t1⟩⟩
          have:leastOf (x0::l0)=t+1:=by rw [er]; unfold leastOf; rw [List.getLast?_append]; rfl
          rw [this]; rfl
      case cont =>
        rintro σ' H2 ⟨rfl,s2⟩
        have h2:=s2 _ _ h1'
        have hp2:=s2 _ _ hpy
        have lsx2:=lsx.same s2
        have sm2:=sm.trans s2
        refine ⟨_,rfl,.inl ⟨rfl,_,.of hp2⟩,_,rfl,_,rfl,_,_,rfl,⟨by omega,by omega,by omega,by omega⟩,?_⟩
        have enn:((n:Int) - (leastOf l:Int)).toNat=n - leastOf l:=by omega
        refine comp_known0 (known_range (leastOf l:Int) _) [some (.ref a1)] 1 (by rw [List.length_map,List.length_range,enn]; omega) (fun j acc H'=>Same H2 H'∧acc.length=j∧LsX p H' acc ((longer1 l n).take j))
          ⟨Same.refl _,rfl,LsX.nil⟩ (fun j acc H' _ h=>⟨trivial,Nat.le_of_eq h.2.1⟩) ?_ ?_
        · rintro j y acc H3 ys' Nx2 hN2 hx2 hy ⟨sm3,hal,ls3⟩
          obtain ⟨y',rfl⟩:=ys1 hy
          rw [enn,List.getElem?_map] at hx2
          have hj:j < n - leastOf l:=by
            cases ej:(List.range (n - leastOf l))[j]? with
            | none=>rw [ej] at hx2; cases hx2
            | some j'=>have:=(List.getElem?_eq_some_iff.mp ej).1; rw [List.length_range] at this; exact this
          rw [List.getElem?_range hj] at hx2
          have hy2:y=.int ((leastOf l+j:Nat):Int):=by
            have:=(Option.some.inj hx2).symm
            rw [this]; rfl
          subst hy2
          have h3:=sm3 _ _ h2
          refine ⟨_,rfl,_,rfl,by show 1≤sizeLine; decide,fun p1 hp1=>?_⟩
          have t1:Same H3 (upd H3 p1 (.lst [.int ((leastOf l+j:Nat):Int)])):=Same.upd1 hp1
          refine ⟨a1,p1,_,_,rfl,rfl,t1 _ _ h3,upd_same,by rw [ivs_len,sizeLine_eq]; show _+1≤16777216; omega,fun p3 hp3=>hN2 _ _ [some (.int ((leastOf l+j:Nat):Int))] rfl ⟨(sm3.trans t1).trans (Same.upd1 hp3),by rw [List.length_append,hal]; rfl,?_⟩⟩
          have et:(longer1 l n).take (j+1)=(longer1 l n).take j++[l++[leastOf l+j]]:=by
            unfold longer1
            rw [← List.map_take,← List.map_take,List.take_range,List.take_range,Nat.min_eq_left (by omega),Nat.min_eq_left (by omega),List.range_succ,List.map_append]; rfl
          rw [et]
          have hpp:p3≠p:=fun z=>by
            have:(upd H3 p1 (.lst [.int ((leastOf l+j:Nat):Int)])) p=some (.lst ys):=t1 _ _ (sm3 _ _ hp2)
            rw [z,this] at hp3; cases hp3
          refine (ls3.same (t1.trans (Same.upd1 hp3))).append (LsX.one hpp ?_)
          rw [upd_same]; unfold ivs; rw [List.map_append]; rfl
        · rintro acc H3 ⟨sm3,hal,ls3⟩ D hD
          rw [List.length_map,List.length_range,enn] at hal ls3
          have et:(longer1 l n).take (n - leastOf l)=longer1 l n:=List.take_of_length_le (by unfold longer1; rw [List.length_map,List.length_range]; exact Nat.le_refl _)
          rw [et] at ls3
          have t1:Same H3 (upd H3 D (.lst acc)):=Same.upd1 hD
          have hp3:=t1 _ _ (sm3 _ _ hp2)
          have b1:=longerL_len n (ls.take i)
          have b2:=lsx.len
          have b3:(ls.take i).length≤1000:=by rw [List.length_take]; omega
          have b4:(ls.take i).length * n≤1000 * 8:=Nat.mul_le_mul b3 hn8
          refine ⟨p,D,ys,acc,rfl,rfl,hp3,upd_same,by rw [sizeLine_eq]; omega,hN _ _ ⟨⟨_,_,rfl⟩,((sm2.trans sm3).trans t1).upd_new hp,ys++acc,upd_same,?_⟩⟩
          rw [elong]
          exact ((lsx2.same (sm3.trans t1)).append (ls3.same t1)).upd
    · rintro σ H' ⟨⟨y,z,rfl⟩,sm,ys,hpy,lsx⟩
      rw [xl,List.take_length] at lsx
      exact ⟨_,rfl,k p ys H' sm hpy lsx.ls⟩
end
end Kn
end
section
namespace Kn
open PySem L2
def lev (n:Nat):Nat→List (List Nat)
  | 0=>[[]]
  | k+1=>longerL (lev n k) n
def neededL (rows:List (List Nat)) (n:Nat):Option (List Nat):=((List.range n).flatMap fun k=>lev n (k+1)).find? (aloneM rows)
theorem least_snoc (l:List Nat) (x:Nat):leastOf (l++[x])=x+1:=by unfold leastOf; rw [List.getLast?_append]; rfl
theorem lev_mem {n:Nat}:∀ {k:Nat}{l:List Nat},l∈lev n k→l.length=k∧k≤leastOf l∧leastOf l≤n
  | 0,l,h=>by
    have:l=[]:=by simpa [lev] using h
    subst this
    exact ⟨rfl,Nat.le_refl _,Nat.zero_le _⟩
  | k+1,l,h=>by
    obtain ⟨m,hm,hl⟩:=List.mem_flatMap.mp (show l∈(lev n k).flatMap _ from h)
    obtain ⟨j,hj,rfl⟩:=List.mem_map.mp hl
    have hj':=List.mem_range.mp hj
    obtain ⟨e1,e2,e3⟩:=lev_mem hm
    refine ⟨by rw [List.length_append,e1]; rfl,?_,?_⟩
    · rw [least_snoc]; omega
    · rw [least_snoc]; omega
theorem lev_le {n k:Nat}{l:List Nat} (h:l∈lev n k):k≤n:=by obtain ⟨_,a,b⟩:=lev_mem h; omega
theorem lev_len (n:Nat):∀ k,(lev n k).length≤n ^ k
  | 0=>by simp [lev]
  | k+1=>by
    have:=longerL_len n (lev n k)
    have ih:=lev_len n k
    show (longerL (lev n k) n).length≤n ^ k * n
    exact Nat.le_trans this (Nat.mul_le_mul_right n ih)
theorem lev_nil {n k:Nat} (h:lev n k=[]):∀ j,lev n (k+j)=[]
  | 0=>h
  | j+1=>by
    show longerL (lev n (k+j)) n=[]
    rw [lev_nil h j]; rfl
theorem find_at {α:Type}{p:α→Bool}{l:List α}{i:Nat}{x:α} (e:l[i]?=some x) (hx:p x=true) (h:∀ y∈l.take i,p y=false):l.find? p=some x:=by
  have hi:=(List.getElem?_eq_some_iff.mp e).1
  have hd:l=l.take i++x::l.drop (i+1):=by
    have e1:l.take (i+1)=l.take i++[x]:=by rw [List.take_succ_eq_append_getElem hi,(List.getElem?_eq_some_iff.mp e).2]
    have:=(List.take_append_drop (i+1) l).symm
    rw [e1] at this
    simpa using this
  rw [hd,List.find?_append]
  have n1:(l.take i).find? p=none:=List.find?_eq_none.mpr fun y hy=>by rw [h y hy]; exact Bool.false_ne_true
  rw [n1]
  simp [List.find?_cons,hx]
theorem find_flat {α:Type}{p:α→Bool}{f:Nat→List α}{n k:Nat}{x:α} (hk:k < n) (h:∀ j,j < k→(f j).find? p=none) (hx:(f k).find? p=some x):((List.range n).flatMap f).find? p=some x:=by
  have e:List.range n=List.range k++k::(List.range (n - k - 1)).map (fun j=>k+1+j):=by
    have h1:n=k+(n - k):=by omega
    have h2:n - k=(n - k - 1)+1:=by omega
    rw [h1,List.range_add]
    congr 1
    have h3:k+(n - k) - k - 1=n - k - 1:=by omega
    rw [h3,h2,List.range_succ_eq_map,List.map_cons,List.map_map]
    congr 1
    have h4:n - k - 1+1 - 1=n - k - 1:=by omega
    rw [h4]
    refine List.map_congr_left fun a _=>?_
    show k+(a+1)=k+1+a
    omega
  rw [e,List.flatMap_append,List.find?_append]
  have n1:((List.range k).flatMap f).find? p=none:=by
    refine List.find?_eq_none.mpr fun y hy=>?_
    obtain ⟨j,hj,hm⟩:=List.mem_flatMap.mp hy
    exact List.find?_eq_none.mp (h j (List.mem_range.mp hj)) y hm
  rw [n1,List.flatMap_cons,List.find?_append,hx]; rfl
section
variable {P:Program}{w:World}{K:PySem.W.Frag}{mg:Str→Option Value}{base:Heap}
theorem reps_ls {H:Hp}:∀ {ls:List (List Nat)}{vs:List V},LsAt H vs ls→Reps K H (ls.map intsD) vs
  | [],vs,h=>by
    have:vs=[]:=List.length_eq_zero_iff.mp h.len
    exact this
  | l::ls,[],h=>by have:=h.len; simp at this
  | l::ls,v::vs,h=>by
    obtain ⟨a,e,f⟩:=h.at_ 0 v l rfl rfl
    refine ⟨v,vs,rfl,by rw [e]; exact rep_ivs f,reps_ls ⟨by have:=h.len; simpa using this,fun i u m h1 h2=>h.at_ (i+1) u m (by simpa using h1) (by simpa using h2)⟩⟩
theorem shaped_ls (ls:List (List Nat)):SeqAt.shaped (.list (ls.map intsD))=true:=by
  refine (shaped_list fun d hd=>?_).1
  obtain ⟨l,_,rfl⟩:=List.mem_map.mp hd
  unfold intsD
  have go:∀ ns:List Int,PyData.depthAll (ns.map PyData.int)≤1:=by
    intro ns
    induction ns with
    | nil=>decide
    | cons n ns ih=>rw [List.map_cons]; simp only [PyData.depthAll,PyData.depth]; omega
  have g:=go (l.map fun (i:Nat)=>(i:Int))
  simp only [PyData.canLay0,PyData.depth]
  exact ⟨lay_ints _,by omega⟩
def TellsN (H:Hp) (v:V):Option (List Nat)→Prop
  | none=>v=.non
  | some l=>∃ a,v=.ref a∧H a=some (.lst (ivs l))
def spNeeded:Sp:=fun vs H Q _=>∃ (b:Addr) (bk:List S) (o:Nat) (nm:S),vs=[.ref b,.int o,sv nm]∧H b=some (.tup (bkV bk))∧Bk bk o∧isNm nm∧bk.length≤4∧∀ v H',Same H H'→TellsN H' v (neededL (rowsP bk o nm) bk.length)→Q v H'
abbrev sNeeded:Stmt:=top 46
theorem scNeeded:FnScope ["book", "order", "name", "by_step", "lists", "places"] ["book", "order", "name"] (defScope sNeeded):=⟨rfl,rfl,rfl,by decide +kernel,rfl,by decide +kernel,by decide +kernel⟩
theorem ok_needed {f:Addr}{fd:FuncData} (F:Fun K "needed" "needed" sNeeded f fd) (B:Blt mg) (N:Needs P w K mg base) (cP:Cal P w K mg base 4 "places_by_step" ["book", "order", "name"] spPbs) (cA:Cal P w K mg base 2 "alone_make" ["by_step", "places"] spAlone) (cL:Cal P w K mg base 1 "longer_lists" ["lists", "many"] spLonger) :
    FnOk P w K mg base CX0 5 f fd ["book", "order", "name"] spNeeded:=by
  refine F.ok scNeeded (fun vs H Q E h=>?_) (fun cdv A outer s H vs Q E hr h=>?_)
  · obtain ⟨b,bk,o,nm,rfl,_⟩:=h; rfl
  · obtain ⟨b,bk,o,nm,rfl,hb,hB,hn,h4,k⟩:=h
    have nd:=scNeeded.nd
    have hu:=hr.units
    have hr3:=hr.mono (j:=3) (by decide)
    have hr2:=hr.mono (j:=2) (by decide)
    have hr1:=hr.mono (j:=1) (by decide)
    refine ⟨_,pss_cons (ps_expr (pe_cal N.bk hr3 rfl (pa_cons (pv 0) pa_nil))) (pss_cons (ps_expr (pe_cal N.od hr3 rfl (pa_cons (pv 1) pa_nil))) (pss_cons (ps_expr (pe_cal N.nm hr2 rfl (pa_cons (pv 2) pa_nil)))
      (pss_cons (ps_set (i:=3) nd rfl (Or.inl rfl) (pe_cal cP hr rfl (pa_cons (pv 0) (pa_cons (pv 1) (pa_cons (pv 2) pa_nil)))))
      (pss_cons (ps_set (i:=4) nd rfl (Or.inl rfl) (pe_lst (pa_cons (pe_lst pa_nil) pa_nil)))
      (pss_cons (ps_while PassesOwn.never (pt_cmpR (op_neD hu) (pv 4) (pe_lst pa_nil) (nomark _))
        (pss_cons (ps_set (i:=4) nd rfl (Or.inl rfl) (pe_cal cL hr1 rfl (pa_cons (pv 4) (pa_cons (pe_callB call_len_seq (by rfl) B.len PySem.boot_len (pa_cons (pv 0) pa_nil)) pa_nil))))
        (pss_one (ps_for PassesOwn.never rfl (pi_list (pv 4)) (pg_name (i:=5) nd rfl (Or.inl rfl))
          (pss_one (ps_if (pt_val (pe_cal cA hr2 rfl (pa_cons (pv 3) (pa_cons (pv 5) pa_nil)))) (pss_one (ps_ret (pv 5))) pss_nil))))))
      (pss_one (ps_ret pe_non))))))),?_⟩
    refine ⟨_,rfl,b,bk,rfl,hb,hB.toisBk,fun H1 s1=>?_⟩
    refine ⟨_,rfl,o,rfl,hB.o1,hB.o3,?_⟩
    refine ⟨_,rfl,nm,rfl,hn,fun H2 s2=>?_⟩
    have s02:=s1.trans s2
    refine ⟨_,rfl,_,rfl,_,rfl,b,bk,o,nm,rfl,s02 _ _ hb,hB,hn,fun lr xr H3 s3 hlr lsr=>?_⟩
    have s03:=s02.trans s3
    have rl:(rowsP bk o nm).length≤100:=by
      unfold rowsP pairs1
      rw [List.length_map,List.length_map,List.length_range]
      have:=hn.2.1; omega
    generalize hrows:rowsP bk o nm=rows at k lsr rl
    have ebk:(bkV bk).length=bk.length:=List.length_map ..
    obtain ⟨n,en⟩:∃ n,n=bk.length:=⟨_,rfl⟩
    rw [← en] at k h4 ebk
    refine ⟨by show 0≤sizeLine; decide,fun p0 hp0=>?_⟩
    have t0:Same H3 (upd H3 p0 (.lst [])):=Same.upd1 hp0
    refine ⟨by show 1≤sizeLine; decide,fun p1 hp1=>?_⟩
    have t1:=t0.trans (Same.upd1 (o:=.lst [.ref p0]) hp1)
    have ls0:LsAt (upd (upd H3 p0 (.lst [])) p1 (.lst [.ref p0])) [.ref p0] (lev n 0):=LsAt.snoc LsAt.nil (Same.upd1 hp1 _ _ upd_same)
    have hp11:(upd (upd H3 p0 (.lst [])) p1 (.lst [.ref p0])) p1=some (.lst [.ref p0]):=upd_same
    have hlr1:=t1 _ _ hlr
    have lsr1:=lsr.same t1
    have s04:=s03.trans t1
    generalize upd (upd H3 p0 (.lst [])) p1 (.lst [.ref p0])=H4 at t1 ls0 hp11 hlr1 lsr1 s04
    clear t1 t0 hp0 hp1 lsr hlr s03 s3 s02 s2 s1 H1 H2 H3
    refine ⟨fun m σ H'=>∃ (j:Nat) (lk:Addr) (xk:List V) (y:Option V),m=n+2 - j∧j≤n+1∧σ=[some (.ref b),some (.int (o:Int)),some (sv nm),some (.ref lr),some (.ref lk),y]∧Same H4 H'∧H' lk=some (.lst xk)∧LsAt H' xk (lev n j)∧∀ i,i < j→(lev n (i+1)).find? (aloneM rows)=none,
      ⟨n+2,0,p1,_,_,rfl,by omega,rfl,Same.refl _,hp11,ls0,fun i hi=>absurd hi (Nat.not_lt_zero _)⟩,?_⟩
    rintro m σ H' ⟨j,lk,xk,y,rfl,hj,rfl,sm,hlk,lsk,hno⟩
    refine ⟨_,rfl,by show 0≤sizeLine; decide,fun e1 he1=>?_⟩
    have t1:Same H' (upd H' e1 (.lst [])):=Same.upd1 he1
    refine ⟨.list ((lev n j).map intsD),.list [],⟨lk,_,rfl,.of (t1 _ _ hlk),reps_ls (lsk.same t1)⟩,⟨e1,[],rfl,.of upd_same,rfl⟩,shaped_ls _,rfl,_,rfl,?_⟩
    rw [eqv_niL,List.isEmpty_map]
    have hlk1:=t1 _ _ hlk
    have lsk1:=lsk.same t1
    have sm1:=sm.trans t1
    generalize upd H' e1 (.lst [])=HA at hlk1 lsk1 sm1
    clear t1 he1 hlk lsk sm H'
    cases hem:(lev n j).isEmpty with
    | true =>
      refine iteF ?_
      refine k .non HA (s04.trans sm1) ?_
      have hnil:lev n j=[]:=List.isEmpty_iff.mp hem
      have:neededL rows n=none:=by
        unfold neededL
        refine List.find?_eq_none.mpr fun x hx=>?_
        obtain ⟨i,_,hm⟩:=List.mem_flatMap.mp hx
        by_cases hi:i < j
        · exact List.find?_eq_none.mp (hno i hi) x hm
        · have e:i+1=j+(i+1 - j):=by omega
          rw [e,lev_nil hnil] at hm; cases hm
      rw [this]; exact rfl
    | false =>
      obtain ⟨l0,hl0⟩:∃ l,l∈lev n j:=by
        cases e:lev n j with
        | nil=>rw [e] at hem; cases hem
        | cons x r=>exact ⟨x,List.mem_cons_self ..⟩
      have hjn:j≤n:=lev_le hl0
      refine iteT ⟨fun σ' H''=>∃ (lk:Addr) (xk:List V) (y:Option V),σ'=[some (.ref b),some (.int (o:Int)),some (sv nm),some (.ref lr),some (.ref lk),y]∧Same H4 H''∧H'' lk=some (.lst xk)∧LsAt H'' xk (lev n (j+1))∧∀ i,i < j+1→(lev n (i+1)).find? (aloneM rows)=none,?_,?_⟩
      · rintro σ' H'' ⟨lk',xk',y',rfl,sm',h1,h2,h3⟩
        exact ⟨n+2 - (j+1),by omega,j+1,lk',xk',y',rfl,by omega,rfl,sm',h1,h2,h3⟩
      · have lim:(lev n j).length≤1000:=by
          have h1:=lev_len n j
          have h2:n ^ j≤4 ^ j:=Nat.pow_le_pow_left h4 _
          have h3:(4:Nat) ^ j≤4 ^ 4:=Nat.pow_le_pow_right (by decide) (by omega)
          have h5:(4:Nat) ^ 4=256:=by decide
          omega
        refine ⟨_,rfl,_,rfl,b,bkV bk,rfl,.inr (.of (s04.trans sm1 _ _ hb)),lk,xk,lev n j,n,by rw [ebk]; rfl,hlk1,lsk1,lim,by omega,fun l hl=>?_,fun p2 ys HB sB hp2 ls2=>?_⟩
        · obtain ⟨c1,c2,c3⟩:=lev_mem hl
          exact ⟨by omega,by omega⟩
        have sm2:=sm1.trans sB
        refine ⟨_,rfl,p2,rfl,⟨_,.of hp2⟩,?_⟩
        have yl:=ls2.len
        refine for_known (known_list K p2 ys) (fun i σ H'=>(∃ y:Option V,σ=[some (.ref b),some (.int (o:Int)),some (sv nm),some (.ref lr),some (.ref p2),y])∧Same HB H'∧∀ l∈(lev n (j+1)).take i,aloneM rows l=false)
          ⟨⟨_,rfl⟩,Same.refl _,fun l hl=>by cases hl⟩ (fun i σ H' _ h=>.of (h.2.1 _ _ hp2)) ?_ ?_
        · rintro i x σ H' Nx hN hx ⟨⟨y1,rfl⟩,sm,hal⟩
          obtain ⟨a1,l,el0,rfl,h1⟩:=ls2.get hx
          have el:(lev n (j+1))[i]?=some l:=el0
          have hlm:l∈lev n (j+1):=List.mem_of_getElem? el
          obtain ⟨c1,_,_⟩:=lev_mem hlm
          have hjn1:=lev_le hlm
          refine ⟨_,rfl,_,rfl,lr,a1,xr,rows,l,rfl,(sm2.trans sm) _ _ hlr1,lsr1.same (sm2.trans sm),rl,sm _ _ h1,by omega,fun HC sC=>⟨_,rfl,?_⟩⟩
          cases ea:aloneM rows l with
          | true =>
            refine iteT ⟨_,rfl,?_⟩
            refine k _ HC (((s04.trans sm2).trans sm).trans sC) ?_
            have:neededL rows n=some l:=find_flat (k:=j) (by omega) (fun i hi=>hno i hi) (find_at el ea hal)
            rw [this]
            exact ⟨a1,rfl,sC _ _ (sm _ _ h1)⟩
          | false =>
            refine iteF (hN _ _ ⟨⟨_,rfl⟩,sm.trans sC,fun l' hl'=>?_⟩)
            rw [List.take_succ_eq_append_getElem (List.getElem?_eq_some_iff.mp el).1,(List.getElem?_eq_some_iff.mp el).2] at hl'
            rcases List.mem_append.mp hl' with z | z
            · exact hal l' z
            · have:l'=l:=by simpa using z
              rw [this]; exact ea
        · rintro σ H' ⟨⟨y1,rfl⟩,sm,hal⟩
          have yl':ys.length=(lev n (j+1)).length:=yl
          rw [yl',List.take_length] at hal
          refine ⟨p2,ys,_,rfl,sm2.trans sm,sm _ _ hp2,ls2.same sm,fun i hi=>?_⟩
          by_cases hij:i < j
          · exact hno i hij
          · have:i=j:=by omega
            subst this
            exact List.find?_eq_none.mpr fun x hx=>by rw [hal x hx]; exact Bool.false_ne_true
end
end Kn
end
section
namespace Kn
theorem part_or (ps:List (S × S)) (e l:S):part ps e l=(0,1)∨0 < (part ps e l).1:=by
  by_cases h:(e,l)∈ps
  · exact .inr (part_pos h)
  · exact .inl (part_none h)
theorem foldG_zeroI (ps:List (S × S)):∀ (qs:List (S × S)) (w:Int × Int),Fq w→(∃ q∈qs,(part ps q.1 q.2).1=0)→qs.foldl (fun w p=>tms w (part ps p.1 p.2)) w=(0,1)
  | [],_,_,h=>by obtain ⟨q,hq,_⟩:=h; cases hq
  | q::qs,w,f,h=>by
    rw [List.foldl_cons]
    rcases part_or ps q.1 q.2 with e | e
    · rw [e,tms_zero_right f]; exact foldG_zero ps qs
    · refine foldG_zeroI ps qs _ (tms_fq f (part_fq ..)) ?_
      obtain ⟨r,hr,e2⟩:=h
      rcases List.mem_cons.mp hr with z | z
      · rw [z] at e2; omega
      · exact ⟨r,z,e2⟩
end Kn
end
section
namespace Kn
open PySem L2
def subs:Nat→List (List Nat)
  | 0=>[[]]
  | k+1=>subs k++(subs k).map fun l=>l++[k]
theorem rising_iff {l:List Nat}:risingL l=true↔l.Pairwise (· < ·):=by
  unfold risingL
  induction l with
  | nil=>simp
  | cons x l ih =>
    cases l with
    | nil=>simp
    | cons y r =>
      have e:(x::y::r).zip ((x::y::r).drop 1)=(x,y)::(y::r).zip ((y::r).drop 1):=rfl
      rw [e,List.all_cons,Bool.and_eq_true,ih]
      constructor
      · rintro ⟨h1,h2⟩
        have hxy:x < y:=of_decide_eq_true h1
        refine List.pairwise_cons.mpr ⟨fun z hz=>?_,h2⟩
        rcases List.mem_cons.mp hz with e | e
        · rw [e]; exact hxy
        · exact Nat.lt_trans hxy ((List.pairwise_cons.mp h2).1 z e)
      · intro h
        obtain ⟨h1,h2⟩:=List.pairwise_cons.mp h
        exact ⟨decide_eq_true (h1 y (List.mem_cons_self ..)),h2⟩
theorem isPl_iff {n:Nat}{l:List Nat}:isPlL n l=true↔(∀ p∈l,p < n)∧l.Pairwise (· < ·):=by
  unfold isPlL
  rw [Bool.and_eq_true,rising_iff,List.all_eq_true]
  constructor
  · rintro ⟨h1,h2⟩; exact ⟨fun p hp=>of_decide_eq_true (h1 p hp),h2⟩
  · rintro ⟨h1,h2⟩; exact ⟨fun p hp=>decide_eq_true (h1 p hp),h2⟩
theorem subs_mem:∀ {n:Nat}{l:List Nat},l∈subs n↔(∀ p∈l,p < n)∧l.Pairwise (· < ·)
  | 0,l=>by
    show l∈[[]]↔_
    constructor
    · intro h
      have:l=[]:=by simpa using h
      subst this; exact ⟨fun p hp=>(by cases hp),List.Pairwise.nil⟩
    · rintro ⟨h,_⟩
      cases l with
      | nil=>simp
      | cons x r=>exact absurd (h x (List.mem_cons_self ..)) (Nat.not_lt_zero _)
  | n+1,l=>by
    show l∈subs n++(subs n).map (fun l=>l++[n])↔_
    rw [List.mem_append,subs_mem,List.mem_map]
    constructor
    · rintro (⟨h1,h2⟩ | ⟨m,hm,rfl⟩)
      · exact ⟨fun p hp=>Nat.lt_succ_of_lt (h1 p hp),h2⟩
      · obtain ⟨h1,h2⟩:=subs_mem.mp hm
        refine ⟨fun p hp=>?_,List.pairwise_append.mpr ⟨h2,List.pairwise_singleton _ _,fun a ha b hb=>?_⟩⟩
        · rcases List.mem_append.mp hp with z | z
          · exact Nat.lt_succ_of_lt (h1 p z)
          · have:p=n:=by simpa using z
            omega
        · have:b=n:=by simpa using hb
          rw [this]; exact h1 a ha
    · rintro ⟨h1,h2⟩
      rcases List.eq_nil_or_concat l with rfl | ⟨m,x,rfl⟩
      · exact .inl ⟨fun p hp=>(by cases hp),List.Pairwise.nil⟩
      · rw [List.concat_eq_append] at *
        obtain ⟨g1,_,g3⟩:=List.pairwise_append.mp h2
        have hx:=h1 x (by simp)
        have below:∀ p∈m,p < x:=fun p hp=>g3 p hp x (by simp)
        by_cases e:x=n
        · subst e
          exact .inr ⟨m,subs_mem.mpr ⟨below,g1⟩,rfl⟩
        · refine .inl ⟨fun p hp=>?_,h2⟩
          rcases List.mem_append.mp hp with z | z
          · have:=below p z; omega
          · have:p=x:=by simpa using z
            omega
theorem anyHas_iff {hv l:List Nat}:anyHas hv l=true↔∃ p∈l,p∈hv:=by
  unfold anyHas
  rw [List.any_eq_true]
  constructor
  · rintro ⟨p,h1,h2⟩; exact ⟨p,h1,of_decide_eq_true h2⟩
  · rintro ⟨p,h1,h2⟩; exact ⟨p,h1,decide_eq_true h2⟩
theorem alone_iff {rows:List (List Nat)}{l:List Nat}:aloneM rows l=true↔∀ hv∈rows,∃ p∈l,p∈hv:=by
  unfold aloneM
  rw [List.all_eq_true]
  constructor
  · intro h hv hm; exact anyHas_iff.mp (h hv hm)
  · intro h hv hm; exact anyHas_iff.mpr (h hv hm)
theorem alone_mono {rows:List (List Nat)}{l m:List Nat} (h:∀ p∈l,p∈m) (a:aloneM rows l=true):aloneM rows m=true :=
  alone_iff.mpr fun hv hm=>let ⟨p,h1,h2⟩:=alone_iff.mp a hv hm; ⟨p,h p h1,h2⟩
theorem fewer_mem {l m:List Nat}:m∈fewerL l↔∃ i,i < l.length∧m=l.take i++l.drop (i+1):=by
  unfold fewerL
  rw [List.mem_map]
  constructor
  · rintro ⟨i,h,e⟩; exact ⟨i,List.mem_range.mp h,e.symm⟩
  · rintro ⟨i,h,e⟩; exact ⟨i,List.mem_range.mpr h,e.symm⟩
theorem split_at {l:List Nat}{i:Nat} (h:i < l.length):l=l.take i++l[i]::l.drop (i+1):=by
  have e1:l.take (i+1)=l.take i++[l[i]]:=List.take_succ_eq_append_getElem h
  have:=(List.take_append_drop (i+1) l).symm
  rw [e1] at this
  simpa using this
theorem fewer_sub {l m:List Nat} (h:m∈fewerL l):m.Sublist l∧m.length+1=l.length:=by
  obtain ⟨i,hi,rfl⟩:=fewer_mem.mp h
  refine ⟨?_,by rw [List.length_append,List.length_take,List.length_drop]; omega⟩
  have:=split_at hi
  conv=>rhs; rw [this]
  exact List.Sublist.append (List.Sublist.refl _) (List.sublist_cons_self _ _)
theorem fewer_drop {l:List Nat} (hr:l.Pairwise (· < ·)) {x:Nat} (hx:x∈l):∃ m∈fewerL l,∀ p∈l,p≠x→p∈m:=by
  obtain ⟨i,hi,e⟩:=List.getElem_of_mem hx
  refine ⟨_,fewer_mem.mpr ⟨i,hi,rfl⟩,fun p hp hne=>?_⟩
  rw [split_at hi] at hp
  rcases List.mem_append.mp hp with z | z
  · exact List.mem_append_left _ z
  · rcases List.mem_cons.mp z with y | y
    · exact absurd (y.trans e) hne
    · exact List.mem_append_right _ y
theorem shows_iff {rows:List (List Nat)}{n:Nat}{l:List Nat}:showsL rows n l=true↔l∈subs n∧aloneM rows l=true∧∀ m∈fewerL l,aloneM rows m=false:=by
  unfold showsL
  rw [Bool.and_eq_true,Bool.and_eq_true,isPl_iff,← subs_mem]
  constructor
  · rintro ⟨⟨h1,h2⟩,h3⟩
    refine ⟨h1,h2,fun m hm=>?_⟩
    cases e:aloneM rows m with
    | false=>rfl
    | true =>
      have:(fewerL l).any (fun m=>aloneM rows m)=true:=List.any_eq_true.mpr ⟨m,hm,e⟩
      rw [this] at h3; cases h3
  · rintro ⟨h1,h2,h3⟩
    refine ⟨⟨h1,h2⟩,?_⟩
    have:(fewerL l).any (fun m=>aloneM rows m)=false:=List.any_eq_false.mpr fun m hm=>by rw [h3 m hm]; exact Bool.false_ne_true
    rw [this]; rfl
theorem has_least {rows:List (List Nat)}{n:Nat}:∀ (k:Nat) {l:List Nat},l.length=k→l∈subs n→aloneM rows l=true→∃ m,showsL rows n m=true∧m.Sublist l
  | 0,l,hl,hs,ha=>by
    have:l=[]:=List.length_eq_zero_iff.mp hl
    subst this
    exact ⟨[],shows_iff.mpr ⟨hs,ha,fun m hm=>by
      obtain ⟨i,hi,_⟩:=fewer_mem.mp hm
      exact absurd hi (Nat.not_lt_zero _)⟩,List.Sublist.refl _⟩
  | k+1,l,hl,hs,ha=>by
    by_cases h:∃ m∈fewerL l,aloneM rows m=true
    · obtain ⟨m,hm,am⟩:=h
      obtain ⟨s1,s2⟩:=fewer_sub hm
      obtain ⟨h1,h2⟩:=subs_mem.mp hs
      obtain ⟨m',h3,h4⟩:=has_least k (l:=m) (by omega) (subs_mem.mpr ⟨fun p hp=>h1 p (s1.subset hp),h2.sublist s1⟩) am
      exact ⟨m',h3,h4.trans s1⟩
    · refine ⟨l,shows_iff.mpr ⟨hs,ha,fun m hm=>?_⟩,List.Sublist.refl _⟩
      cases e:aloneM rows m with
      | false=>rfl
      | true=>exact absurd ⟨m,hm,e⟩ h
theorem rising_ext:∀ {l m:List Nat},l.Pairwise (· < ·)→m.Pairwise (· < ·)→(∀ p,p∈l↔p∈m)→l=m:=fun h1 h2 h=>nat_sorted_eq h1 h2 h
theorem least_anti {rows:List (List Nat)}{n:Nat}{l m:List Nat} (hl:showsL rows n l=true) (hm:showsL rows n m=true) (hne:m≠l):∃ p∈m,p ∉ l:=by
  obtain ⟨l1,l2,l3⟩:=shows_iff.mp hl
  obtain ⟨m1,m2,m3⟩:=shows_iff.mp hm
  obtain ⟨a1,a2⟩:=subs_mem.mp l1
  obtain ⟨b1,b2⟩:=subs_mem.mp m1
  refine Classical.byContradiction fun h=>?_
  have hsub:∀ p∈m,p∈l:=fun p hp=>Classical.byContradiction fun z=>h ⟨p,hp,z⟩
  by_cases hx:∃ x∈l,x ∉ m
  · obtain ⟨x,hxl,hxm⟩:=hx
    obtain ⟨k,hk,hkk⟩:=fewer_drop a2 hxl
    have:=alone_mono (fun p hp=>hkk p (hsub p hp) (fun z=>hxm (by rw [← z]; exact hp))) m2
    rw [l3 k hk] at this; cases this
  · exact hne (rising_ext b2 a2 fun p=>⟨hsub p,fun hp=>Classical.byContradiction fun z=>hx ⟨p,hp,z⟩⟩)
theorem plW_mem {bk:List S}{o:Nat}{q:S × S}{p:Nat}:p∈plW bk o q↔∃ t,bk[p]?=some t∧q∈pairs1 o t:=by
  unfold plW
  rw [List.mem_filter,List.mem_range]
  constructor
  · rintro ⟨h1,h2⟩
    have e:bk[p]?=some bk[p]:=List.getElem?_eq_getElem h1
    rw [e] at h2
    exact ⟨bk[p],e,of_decide_eq_true h2⟩
  · rintro ⟨t,e,h⟩
    refine ⟨(List.getElem?_eq_some_iff.mp e).1,?_⟩
    rw [e]; exact decide_eq_true h
theorem rows_mem {bk:List S}{o:Nat}{nm:S}{hv:List Nat}:hv∈rowsP bk o nm↔∃ q∈pairs1 o nm,hv=plW bk o q:=by
  unfold rowsP
  rw [List.mem_map]
  constructor
  · rintro ⟨q,h,e⟩; exact ⟨q,h,e.symm⟩
  · rintro ⟨q,h,e⟩; exact ⟨q,h,e.symm⟩
theorem alone_pairs {bk:List S}{o:Nat}{nm:S}{l:List Nat}:aloneM (rowsP bk o nm) l=true↔∀ q∈pairs1 o nm,∃ p∈l,∃ t,bk[p]?=some t∧q∈pairs1 o t:=by
  rw [alone_iff]
  constructor
  · intro h q hq
    obtain ⟨p,h1,h2⟩:=h _ (rows_mem.mpr ⟨q,hq,rfl⟩)
    exact ⟨p,h1,plW_mem.mp h2⟩
  · intro h hv hm
    obtain ⟨q,hq,rfl⟩:=rows_mem.mp hm
    obtain ⟨p,h1,h2⟩:=h q hq
    exact ⟨p,h1,plW_mem.mpr h2⟩
end Kn
end
section
namespace Kn
open PySem L2
theorem share_pos_iff {ps:List (S × S)}{o:Nat}{nm:S}:0 < (shareOf ps o nm).1↔∀ q∈pairs1 o nm,q∈ps:=by
  constructor
  · intro h q hq
    refine Classical.byContradiction fun hn=>?_
    have e:shareOf ps o nm=(0,1):=foldG_zeroI ps (pairs1 o nm) (1,1) fq11 ⟨q,hq,by rw [part_none hn]⟩
    rw [e] at h; cases h
  · intro h; exact foldG_pos ps (pairs1 o nm) (1,1) fq11 (by decide) h
theorem pairsB_at {o:Nat}{bk:List S}{q:S × S}:q∈pairsB o bk↔∃ (p:Nat) (t:S),bk[p]?=some t∧q∈pairs1 o t:=by
  unfold pairsB
  rw [List.mem_flatMap]
  constructor
  · rintro ⟨t,ht,hq⟩
    obtain ⟨p,hp,e⟩:=List.getElem_of_mem ht
    exact ⟨p,t,by rw [List.getElem?_eq_getElem hp,e],hq⟩
  · rintro ⟨p,t,e,hq⟩
    exact ⟨t,List.mem_of_getElem? e,hq⟩
theorem range_subs (n:Nat):List.range n∈subs n:=subs_mem.mpr ⟨fun p hp=>List.mem_range.mp hp,List.pairwise_lt_range⟩
theorem good_iff {bk:List S}{o:Nat}{nm:S}:(∃ l∈subs bk.length,showsL (rowsP bk o nm) bk.length l=true)↔0 < (shareOf (pairsB o bk) o nm).1:=by
  rw [share_pos_iff]
  constructor
  · rintro ⟨l,_,h⟩ q hq
    obtain ⟨_,ha,_⟩:=shows_iff.mp h
    obtain ⟨p,_,t,e,hm⟩:=alone_pairs.mp ha q hq
    exact pairsB_at.mpr ⟨p,t,e,hm⟩
  · intro h
    have ha:aloneM (rowsP bk o nm) (List.range bk.length)=true:=alone_pairs.mpr fun q hq=>by
      obtain ⟨p,t,e,hm⟩:=pairsB_at.mp (h q hq)
      exact ⟨p,List.mem_range.mpr (List.getElem?_eq_some_iff.mp e).1,t,e,hm⟩
    obtain ⟨m,hm,_⟩:=has_least _ rfl (range_subs _) ha
    exact ⟨m,(shows_iff.mp hm).1,hm⟩
theorem sub_makes {bk sb:List S}{o:Nat}{nm:S}{l:List Nat} (h:aloneM (rowsP bk o nm) l=true) (hs:∀ p∈l,∀ t,bk[p]?=some t→t∈sb):0 < (shareOf (pairsB o sb) o nm).1:=by
  rw [share_pos_iff]
  intro q hq
  obtain ⟨p,hp,t,e,hm⟩:=alone_pairs.mp h q hq
  exact List.mem_flatMap.mpr ⟨t,hs p hp t e,hm⟩
theorem alone_nil {bk:List S}{o:Nat}{nm:S}:aloneM (rowsP bk o nm) []=false:=by
  cases e:aloneM (rowsP bk o nm) [] with
  | false=>rfl
  | true =>
    obtain ⟨r,hr⟩:=pairs1_head o nm
    obtain ⟨p,hp,_⟩:=alone_pairs.mp e _ (by rw [hr]; exact List.mem_cons_self ..)
    cases hp
theorem shows_nil {bk:List S}{o:Nat}{nm:S}{n:Nat}:showsL (rowsP bk o nm) n []=false:=by
  unfold showsL; rw [alone_nil,Bool.and_false,Bool.false_and]
theorem shows_ne {bk:List S}{o:Nat}{nm:S}{n:Nat}{l:List Nat} (h:showsL (rowsP bk o nm) n l=true):l≠[]:=fun z=>by rw [z,shows_nil] at h; cases h
end Kn
end
section
namespace Kn
open PySem L2
theorem below_least:∀ {l:List Nat},l.Pairwise (· < ·)→∀ p∈l,p < leastOf l:=by
  intro l hr p hp
  rcases List.eq_nil_or_concat l with rfl | ⟨m,x,rfl⟩
  · cases hp
  · rw [List.concat_eq_append] at *
    rw [least_snoc]
    rcases List.mem_append.mp hp with z | z
    · have:=(List.pairwise_append.mp hr).2.2 p z x (by simp)
      omega
    · have:p=x:=by simpa using z
      omega
theorem least_le {l:List Nat}{x:Nat} (h:∀ p∈l,p < x):leastOf l≤x:=by
  rcases List.eq_nil_or_concat l with rfl | ⟨m,y,rfl⟩
  · exact Nat.zero_le _
  · rw [List.concat_eq_append] at *
    rw [least_snoc]; exact h y (by simp)
theorem lev_iff {n:Nat}:∀ {k:Nat}{l:List Nat},l∈lev n k↔l∈subs n∧l.length=k
  | 0,l=>by
    show l∈[[]]↔_
    constructor
    · intro h
      have:l=[]:=by simpa using h
      subst this
      exact ⟨subs_mem.mpr ⟨fun p hp=>(by cases hp),List.Pairwise.nil⟩,rfl⟩
    · rintro ⟨_,h⟩
      rw [List.length_eq_zero_iff.mp h]; simp
  | k+1,l=>by
    show l∈(lev n k).flatMap (fun l=>longer1 l n)↔_
    rw [List.mem_flatMap]
    constructor
    · rintro ⟨m,hm,hl⟩
      obtain ⟨j,hj,rfl⟩:=List.mem_map.mp hl
      have hj':=List.mem_range.mp hj
      obtain ⟨h1,h2⟩:=lev_iff.mp hm
      obtain ⟨a1,a2⟩:=subs_mem.mp h1
      refine ⟨subs_mem.mpr ⟨fun p hp=>?_,List.pairwise_append.mpr ⟨a2,List.pairwise_singleton _ _,fun a ha b hb=>?_⟩⟩,by rw [List.length_append,h2]; rfl⟩
      · rcases List.mem_append.mp hp with z | z
        · exact a1 p z
        · have:p=leastOf m+j:=by simpa using z
          omega
      · have:b=leastOf m+j:=by simpa using hb
        have:=below_least a2 a ha
        omega
    · rintro ⟨h1,h2⟩
      obtain ⟨a1,a2⟩:=subs_mem.mp h1
      rcases List.eq_nil_or_concat l with rfl | ⟨m,x,rfl⟩
      · cases h2
      · rw [List.concat_eq_append] at *
        obtain ⟨g1,_,g3⟩:=List.pairwise_append.mp a2
        have hx:=a1 x (by simp)
        have hm:m∈lev n k:=lev_iff.mpr ⟨subs_mem.mpr ⟨fun p hp=>a1 p (by simp [hp]),g1⟩,by rw [List.length_append] at h2; exact Nat.succ.inj h2⟩
        have hle:=least_le (l:=m) (x:=x) fun p hp=>g3 p hp x (by simp)
        refine ⟨m,hm,List.mem_map.mpr ⟨x - leastOf m,List.mem_range.mpr (by omega),?_⟩⟩
        show m++[leastOf m+(x - leastOf m)]=m++[x]
        congr 2; omega
theorem lex_app:∀ {l m u v:List Nat},l.length=m.length→l < m→l++u < m++v
  | [],[],_,_,_,h=>absurd h (List.lt_irrefl _)
  | [],_::_,_,_,e,_=>by cases e
  | _::_,[],_,_,e,_=>by cases e
  | a::l,b::m,u,v,e,h=>by
    rw [List.cons_append,List.cons_append]
    rcases List.cons_lt_cons_iff.mp h with h1 | ⟨h1,h2⟩
    · exact List.cons_lt_cons_iff.mpr (.inl h1)
    · exact List.cons_lt_cons_iff.mpr (.inr ⟨h1,lex_app (Nat.succ.inj e) h2⟩)
theorem lex_last (l:List Nat) {a b:Nat} (h:a < b):l++[a] < l++[b]:=by
  induction l with
  | nil=>exact List.cons_lt_cons_iff.mpr (.inl h)
  | cons x l ih=>rw [List.cons_append,List.cons_append]; exact List.cons_lt_cons_iff.mpr (.inr ⟨rfl,ih⟩)
theorem lev_sorted (n:Nat):∀ k,(lev n k).Pairwise (· < ·)
  | 0=>List.pairwise_singleton _ _
  | k+1=>by
    show ((lev n k).flatMap fun l=>longer1 l n).Pairwise (· < ·)
    rw [List.pairwise_flatMap]
    refine ⟨fun l _=>?_,?_⟩
    · unfold longer1
      rw [List.pairwise_map]
      exact List.pairwise_lt_range.imp fun h=>lex_last l (by omega)
    · refine (lev_sorted n k).imp_of_mem fun {a b} ha hb hab x hx y hy=>?_
      obtain ⟨i,_,rfl⟩:=List.mem_map.mp hx
      obtain ⟨j,_,rfl⟩:=List.mem_map.mp hy
      exact lex_app ((lev_iff.mp ha).2.trans (lev_iff.mp hb).2.symm) hab
def ltK (a b:List Nat):Prop:=a.length < b.length∨(a.length=b.length∧a < b)
def allL (n:Nat):List (List Nat):=(List.range n).flatMap fun k=>lev n (k+1)
theorem allL_sorted (n:Nat):(allL n).Pairwise ltK:=by
  unfold allL
  rw [List.pairwise_flatMap]
  refine ⟨fun k _=>(lev_sorted n (k+1)).imp_of_mem fun {a b} ha hb hab=>.inr ⟨(lev_iff.mp ha).2.trans (lev_iff.mp hb).2.symm,hab⟩,?_⟩
  exact List.pairwise_lt_range.imp fun {i j} hij x hx y hy=>.inl (by rw [(lev_iff.mp hx).2,(lev_iff.mp hy).2]; omega)
theorem allL_mem {n:Nat}{l:List Nat}:l∈allL n↔l∈subs n∧l≠[]:=by
  unfold allL
  rw [List.mem_flatMap]
  constructor
  · rintro ⟨k,_,h⟩
    obtain ⟨h1,h2⟩:=lev_iff.mp h
    exact ⟨h1,fun z=>by rw [z] at h2; cases h2⟩
  · rintro ⟨h1,h2⟩
    have hl:0 < l.length:=List.length_pos_iff.mpr h2
    have hm:l∈lev n (l.length - 1+1):=lev_iff.mpr ⟨h1,by omega⟩
    exact ⟨l.length - 1,List.mem_range.mpr (by have:=lev_le hm; omega),hm⟩
theorem find_first {α:Type}{R:α→α→Prop}{p:α→Bool}:∀ {l:List α}{x:α},l.Pairwise R→l.find? p=some x→∀ y∈l,p y=true→y=x∨R x y
  | [],_,_,h,_,_,_=>by cases h
  | a::l,x,hr,h,y,hy,py=>by
    obtain ⟨h1,h2⟩:=List.pairwise_cons.mp hr
    rw [List.find?_cons] at h
    cases e:p a with
    | true =>
      rw [e] at h
      have:a=x:=Option.some.inj h
      subst this
      rcases List.mem_cons.mp hy with z | z
      · exact .inl z
      · exact .inr (h1 y z)
    | false =>
      rw [e] at h
      rcases List.mem_cons.mp hy with z | z
      · rw [z,e] at py; cases py
      · exact find_first h2 h y z py
theorem needed_some {bk:List S}{o:Nat}{nm:S}{l:List Nat} (h:neededL (rowsP bk o nm) bk.length=some l):showsL (rowsP bk o nm) bk.length l=true∧∀ m,showsL (rowsP bk o nm) bk.length m=true→m=l∨ltK l m:=by
  have h':(allL bk.length).find? (aloneM (rowsP bk o nm))=some l:=h
  have ha:aloneM (rowsP bk o nm) l=true:=List.find?_some h'
  have hl:=(allL_mem.mp (List.mem_of_find?_eq_some h')).1
  have first:=find_first (allL_sorted bk.length) h'
  have ne:∀ m,aloneM (rowsP bk o nm) m=true→m≠[]:=fun m hm z=>by rw [z,alone_nil] at hm; cases hm
  refine ⟨shows_iff.mpr ⟨hl,ha,fun m hm=>?_⟩,fun m hm=>?_⟩
  · cases e:aloneM (rowsP bk o nm) m with
    | false=>rfl
    | true =>
      obtain ⟨s1,s2⟩:=fewer_sub hm
      obtain ⟨b1,b2⟩:=subs_mem.mp hl
      have hms:m∈subs bk.length:=subs_mem.mpr ⟨fun p hp=>b1 p (s1.subset hp),b2.sublist s1⟩
      rcases first m (allL_mem.mpr ⟨hms,ne m e⟩) e with z | z | ⟨z,_⟩
      · rw [z] at s2; omega
      · omega
      · omega
  · obtain ⟨m1,m2,_⟩:=shows_iff.mp hm
    exact first m (allL_mem.mpr ⟨m1,ne m m2⟩) m2
theorem needed_none {bk:List S}{o:Nat}{nm:S} (h:neededL (rowsP bk o nm) bk.length=none):∀ m,showsL (rowsP bk o nm) bk.length m=false:=fun m=>by
  cases e:showsL (rowsP bk o nm) bk.length m with
  | false=>rfl
  | true =>
    obtain ⟨m1,m2,_⟩:=shows_iff.mp e
    have h':(allL bk.length).find? (aloneM (rowsP bk o nm))=none:=h
    have:=List.find?_eq_none.mp h' m (allL_mem.mpr ⟨m1,shows_ne e⟩)
    exact absurd m2 this
end Kn
end
section
namespace L2
open PySem PySem.Spec PyProof.Rows
def B200 (i:Int):Prop:=0≤i∧i < 1606938044258990275541962092341162602522202993782792835301376
theorem B200.bits {i:Int} (h:B200 i):Builtin.Int.intBits i≤2 ^ 20:=by
  unfold Builtin.Int.intBits
  split
  · exact Nat.zero_le _
  · rename_i hz
    have hz':¬ i=0:=fun z=>hz (by rw [z]; rfl)
    have h0:=h.1
    have h1:=h.2
    have h3 : i.natAbs.log2 < 200 := (Nat.log2_lt (by omega)).mpr (by have e : 2 ^ 200 = 1606938044258990275541962092341162602522202993782792835301376 := by decide
                                                                      rw [e]; omega)
    have e2:2 ^ 20=1048576:=by decide
    omega
theorem op_mulB {X:Cx}:OpR X (binaryOp .Mult) (rI (fun i j=>B200 i∧B200 j) fun i j=>.int (i * j)):=opI fun _ _ _ _ _ _ _ hc q=>mul_int q (IntMulOk.of_bits hc.1.bits hc.2.bits)
end L2
end
section
namespace Kn
open PySem L2
section
variable {P:Program}{w:World}{K:PySem.W.Frag}{mg:Str→Option Value}{base:Heap}
structure Vx (q:Int × Int):Prop extends Fq q where
  u1:q.1 < 1267650600228229401496703205376
  d1:q.2 < 1267650600228229401496703205376
theorem Sm.vx {q:Int × Int} (h:Sm q):Vx q:=⟨h.toFq,by have:=h.u1; omega,by have:=h.d1; omega⟩
theorem Vx.bu {p:Int × Int} (a:Vx p):B200 p.1:=⟨a.up,by have:=a.u1; omega⟩
theorem Vx.bd {p:Int × Int} (a:Vx p):B200 p.2:=⟨Int.le_of_lt a.dn,by have:=a.d1; omega⟩
def spLessX (K:PySem.W.Frag):Sp:=fun vs H Q _=>∃ (x y:V) (p q:Int × Int),vs=[x,y]∧FrA K H x p∧FrA K H y q∧Vx p∧Vx q∧Q (.bl (lss p q)) H
theorem ok_lessX {f:Addr}{fd:FuncData} (F:Fun K "is_less" "is_less" sLess f fd):FnOk P w K mg base CX0 1 f fd ["one", "other"] (spLessX K):=by
  refine F.ok scLess (fun vs H Q E h=>?_) (fun cdv A outer s H vs Q E hr h=>?_)
  · obtain ⟨x,y,p,q,rfl,_⟩:=h; rfl
  · obtain ⟨x,y,p,q,rfl,⟨a,rfl,ha⟩,⟨b,rfl,hb⟩,sp,sq,k⟩:=h
    refine ⟨_,pss_one (ps_ret (pe_cmpR op_lt (pe_op op_mulB (pe_ix ix_tup (pv 0) pe_int (fun _ _=>rfl)) (pe_ix ix_tup (pv 1) pe_int (fun _ _=>rfl))) (pe_op op_mulB (pe_ix ix_tup (pv 1) pe_int (fun _ _=>rfl)) (pe_ix ix_tup (pv 0) pe_int (fun _ _=>rfl))) (nomark _))),?_⟩
    have p0:=sp.up; have q0:=sq.up
    refine ⟨_,rfl,a,_,0,_,rfl,rfl,ha,rfl,_,rfl,b,_,1,_,rfl,rfl,hb,rfl,_,_,rfl,rfl,⟨sp.bu,sq.bd⟩,?_⟩
    exact ⟨_,rfl,b,_,0,_,rfl,rfl,hb,rfl,_,rfl,a,_,1,_,rfl,rfl,ha,rfl,_,_,rfl,rfl,⟨sq.bu,sp.bd⟩,_,_,rfl,rfl,k⟩
end
end Kn
end
section
namespace Kn
open PySem L2
def gstep (st:Option Nat × (Int × Int)) (i:Nat) (q:Int × Int):Option Nat × (Int × Int):=if lss st.2 q=true then (some i,q) else st
def gfold:List (Int × Int)→Nat→Option Nat × (Int × Int)→Option Nat × (Int × Int)
  | [],_,st=>st
  | q::qs,i,st=>gfold qs (i+1) (gstep st i q)
def placeG (qs:List (Int × Int)):Option Nat:=(gfold qs 0 (none,(0,1))).1
theorem gfold_snoc:∀ (qs:List (Int × Int)) (q:Int × Int) (i:Nat) (st:Option Nat × (Int × Int)),gfold (qs++[q]) i st=gstep (gfold qs i st) (i+qs.length) q
  | [],q,i,st=>rfl
  | r::qs,q,i,st=>by
    show gfold (qs++[q]) (i+1) (gstep st i r)=gstep (gfold qs (i+1) (gstep st i r)) (i+(qs.length+1)) q
    rw [gfold_snoc qs q (i+1)]
    congr 1; omega
def optV:Option Nat→V
  | none=>.non
  | some i=>.int i
section
variable {P:Program}{w:World}{K:PySem.W.Frag}{mg:Str→Option Value}{base:Heap}
structure FrsAt (K:PySem.W.Frag) (H:Hp) (vs:List V) (qs:List (Int × Int)):Prop where
  len:vs.length=qs.length
  at_:∀ (i:Nat) (v:V) (q:Int × Int),vs[i]?=some v→qs[i]?=some q→FrA K H v q
def spPlace (K:PySem.W.Frag):Sp:=fun vs H Q _=>∃ (l:Addr) (xs:List V) (qs:List (Int × Int)),vs=[.ref l]∧H l=some (.lst xs)∧FrsAt K H xs qs∧(∀ q∈qs,Vx q)∧∀ H',Same H H'→Q (optV (placeG qs)) H'
abbrev sPlace:Stmt:=top 31
theorem scPlace:FnScope ["fractions", "found", "greatest", "place", "fraction"] ["fractions"] (defScope sPlace):=⟨rfl,rfl,rfl,by decide +kernel,rfl,by decide +kernel,by decide +kernel⟩
theorem ok_place {f:Addr}{fd:FuncData} (F:Fun K "place_of_greatest" "place_of_greatest" sPlace f fd) (hen:mg "enumerate" = none) (C:Cst2 K mg) (cL:Cal P w K mg base 1 "is_less" ["one", "other"] (spLessX K)):FnOk P w K mg base CX0 2 f fd ["fractions"] (spPlace K):=by
  obtain ⟨aN,hN0,tN⟩:=C.nought
  refine F.ok scPlace (fun vs H Q E h=>?_) (fun cdv A outer s H vs Q E hr h=>?_)
  · obtain ⟨l,xs,qs,rfl,_⟩:=h; rfl
  · obtain ⟨l,xs,qs,rfl,hl,fr,hv,k⟩:=h
    have nd:=scPlace.nd
    refine ⟨_,pss_cons (ps_set (i:=1) nd rfl (Or.inl rfl) pe_non)
      (pss_cons (ps_set (i:=2) nd rfl (Or.inl rfl) (pe_glob (v:=.ref aN) (by rfl) hN0 rfl))
      (pss_cons (ps_for PassesOwn.never rfl (pi_enum rfl hen (pa_cons (pv 0) pa_nil)) (pg_tup rfl (pgs_cons (pg_name (i:=3) nd rfl (Or.inl rfl)) (pgs_cons (pg_name (i:=4) nd rfl (Or.inl rfl)) pgs_nil)))
        (pss_one (ps_if (pt_val (pe_cal cL hr rfl (pa_cons (pv 2) (pa_cons (pv 4) pa_nil)))) (pss_cons (ps_set (i:=1) nd rfl (Or.inl rfl) (pv 3)) (pss_one (ps_set (i:=2) nd rfl (Or.inl rfl) (pv 4)))) pss_nil)))
      (pss_one (ps_ret (pv 1))))),?_⟩
    refine ⟨_,rfl,l,xs,rfl,hl,?_⟩
    refine for_enum (K:=K) (xs:=xs) (fun i σ H'=>∃ (g:V) (y z:Option V),σ=[some (.ref l),some (optV (gfold (qs.take i) 0 (none,(0,1))).1),some g,y,z]∧Same H H'∧FrA K H' g (gfold (qs.take i) 0 (none,(0,1))).2∧Vx (gfold (qs.take i) 0 (none,(0,1))).2)
      ⟨_,_,_,rfl,Same.refl H,⟨aN,rfl,tN _⟩,⟨fq01,(by show (0:Int) < _; decide),(by show (1:Int) < _; decide)⟩⟩ (fun i σ H' _ h=>by obtain ⟨_,_,_,_,h,_⟩:=h; exact .of (h _ _ hl)) ?_ ?_
    · rintro i x T σ H' Nx hN hx ⟨g,y,z,rfl,sm,fg,vg⟩ hT
      have hi:i < xs.length:=(List.getElem?_eq_some_iff.mp hx).1
      have hiq:i < qs.length:=by rw [← fr.len]; exact hi
      have eq:qs[i]?=some qs[i]:=List.getElem?_eq_getElem hiq
      have t1:Same H' (upd H' T (.tup [.int i,x])):=Same.upd1 hT
      have vq:=hv qs[i] (List.getElem_mem hiq)
      have fx:FrA K (upd H' T (.tup [.int i,x])) x qs[i]:=(fr.at_ i x qs[i] hx eq).same (sm.trans t1)
      have est:gfold (qs.take (i+1)) 0 (none,(0,1))=gstep (gfold (qs.take i) 0 (none,(0,1))) i qs[i]:=by
        rw [List.take_succ_eq_append_getElem hiq,gfold_snoc]
        congr 1
        rw [List.length_take]; omega
      refine ⟨T,_,rfl,.of upd_same,rfl,_,_,rfl,_,_,rfl,rfl,?_⟩
      refine ⟨_,rfl,_,rfl,g,x,_,qs[i],rfl,fg.same t1,fx,vg,vq,?_⟩
      cases hlt:lss (gfold (qs.take i) 0 (none,(0,1))).2 qs[i] with
      | true =>
        have e2:gstep (gfold (qs.take i) 0 (none,(0,1))) i qs[i]=(some i,qs[i]):=by unfold gstep; rw [if_pos hlt]
        rw [e2] at est
        refine ⟨true,rfl,iteT ⟨_,rfl,_,rfl,hN _ _ ⟨x,some (.int (i:Int)),some x,?_,sm.trans t1,?_,?_⟩⟩⟩
        · rw [est]; rfl
        · rw [est]; exact fx
        · rw [est]; exact vq
      | false =>
        have e2:gstep (gfold (qs.take i) 0 (none,(0,1))) i qs[i]=gfold (qs.take i) 0 (none,(0,1)):=by unfold gstep; rw [if_neg (by rw [hlt]; exact Bool.false_ne_true)]
        rw [e2] at est
        refine ⟨false,rfl,iteF (hN _ _ ⟨g,some (.int (i:Int)),some x,?_,sm.trans t1,?_,?_⟩)⟩
        · rw [est]; rfl
        · rw [est]; exact fg.same t1
        · rw [est]; exact vg
    · rintro σ H' ⟨g,y,z,rfl,sm,fg,vg⟩
      rw [fr.len,List.take_length]
      exact ⟨_,rfl,k H' sm⟩
end
end Kn
end
section
namespace Kn
open PySem L2
structure BksAt (H:Hp) (l:Addr) (bks:List (Addr × List S)):Prop where
  lst:H l=some (.lst (bks.map fun p=>V.ref p.1))
  at_:∀ p∈bks,H p.1=some (.tup (bkV p.2))
theorem BksAt.same {H H':Hp}{l:Addr}{bks:List (Addr × List S)} (h:BksAt H l bks) (e:Same H H'):BksAt H' l bks:=⟨e _ _ h.lst,fun p hp=>e _ _ (h.at_ p hp)⟩
theorem bks_item {bks:List (Addr × List S)}{i:Nat}{x:V} (h:(bks.map fun p=>V.ref p.1)[i]?=some x):∃ p,bks[i]?=some p∧x=.ref p.1:=by
  rw [List.getElem?_map] at h
  cases e:bks[i]? with
  | none=>rw [e] at h; cases h
  | some p=>rw [e] at h; exact ⟨p,rfl,(Option.some.inj h).symm⟩
section
variable {P:Program}{w:World}{K:PySem.W.Frag}{mg:Str→Option Value}{base:Heap}
theorem FrsAt.same {H H':Hp}{vs:List V}{qs:List (Int × Int)} (h:FrsAt K H vs qs) (e:Same H H'):FrsAt K H' vs qs:=⟨h.len,fun i v q h1 h2=>(h.at_ i v q h1 h2).same e⟩
theorem FrsAt.snoc {H:Hp}{vs:List V}{qs:List (Int × Int)}{v:V}{q:Int × Int} (h:FrsAt K H vs qs) (f:FrA K H v q):FrsAt K H (vs++[v]) (qs++[q]):=by
  refine ⟨by rw [List.length_append,List.length_append,h.len]; rfl,fun i u r h1 h2=>?_⟩
  by_cases hi:i < vs.length
  · rw [List.getElem?_append_left hi] at h1
    rw [List.getElem?_append_left (by rw [← h.len]; exact hi)] at h2
    exact h.at_ i u r h1 h2
  · have e1:i=vs.length:=by
      have:=(List.getElem?_eq_some_iff.mp h1).1
      rw [List.length_append] at this
      have e:([v]:List V).length=1:=rfl
      omega
    subst e1
    rw [List.getElem?_append_right (Nat.le_refl _),Nat.sub_self] at h1
    rw [List.getElem?_append_right (by rw [h.len]; exact Nat.le_refl _),h.len,Nat.sub_self] at h2
    have h1':v=u:=Option.some.inj h1
    have h2':q=r:=Option.some.inj h2
    subst h1' h2'
    exact f
theorem FrsAt.nil {H:Hp}:FrsAt K H [] []:=⟨rfl,fun i v q h=>by cases h⟩
def spNeedBooks:Sp:=fun vs H Q _=>∃ (l:Addr) (bks:List (Addr × List S)),vs=[.ref l]∧BksAt H l bks∧(∀ p∈bks,isBk p.2)∧∀ H',Same H H'→Q .non H'
abbrev sNeedBooks:Stmt:=top 17
theorem scNeedBooks:FnScope ["thing", "book"] ["thing"] (defScope sNeedBooks):=⟨rfl,rfl,rfl,by decide +kernel,rfl,by decide +kernel,by decide +kernel⟩
theorem ok_needbooks {f:Addr}{fd:FuncData} (F:Fun K "need_books" "need_books" sNeedBooks f fd) (B:Blt mg) (hli:mg "list" = none) (c1:Cal P w K mg base 3 "need_book" ["thing"] spNeedBook):FnOk P w K mg base CX0 4 f fd ["thing"] spNeedBooks:=by
  refine F.ok scNeedBooks (fun vs H Q E h=>?_) (fun cdv A outer s H vs Q E hr h=>?_)
  · obtain ⟨l,bks,rfl,_⟩:=h; rfl
  · obtain ⟨l,bks,rfl,hb,hi,k⟩:=h
    have nd:=scNeedBooks.nd
    refine ⟨_,pss_cons (ps_if (pt_not (pt_val (pe_callB call_isinst (by rfl) B.isinstance PyProof.Rows.boot_isinstance (pa_cons (pv 0) (pa_cons (pe_bltn (v:=.ty "list") (by rfl) hli PyProof.Rows.boot_list rfl) pa_nil))))) (pss_one ps_never) pss_nil)
      (pss_one (ps_for PassesOwn.never rfl (pi_list (pv 0)) (pg_name (i:=1) nd rfl (Or.inl rfl)) (pss_one (ps_expr (pe_cal c1 hr rfl (pa_cons (pv 1) pa_nil)))))),?_⟩
    refine ⟨_,rfl,_,_,_,true,rfl,.lst hb.lst,(by rfl),true,rfl,iteF ?_⟩
    refine ⟨_,rfl,l,rfl,⟨_,.of hb.lst⟩,?_⟩
    refine for_known (known_list K l (bks.map fun p=>V.ref p.1)) (fun i σ H'=>(∃ y:Option V,σ=[some (.ref l),y])∧Same H H') ⟨⟨_,rfl⟩,Same.refl H⟩ (fun i σ H' _ h=>.of (h.2 _ _ hb.lst)) ?_ ?_
    · rintro i x σ H' Nx hN hx ⟨⟨y,rfl⟩,sm⟩
      obtain ⟨p,ep,rfl⟩:=bks_item hx
      have hp:=List.mem_of_getElem? ep
      exact ⟨_,rfl,p.1,p.2,rfl,sm _ _ (hb.at_ p hp),hi p hp,fun H3 s3=>hN _ _ ⟨⟨_,rfl⟩,sm.trans s3⟩⟩
    · rintro σ H' ⟨⟨y,rfl⟩,sm⟩
      exact k H' sm
end
end Kn
end
section
namespace Kn
open PySem L2
section
variable {P:Program}{w:World}{K:PySem.W.Frag}{mg:Str→Option Value}{base:Heap}
def spMaker (K:PySem.W.Frag):Sp:=fun vs H Q _=>∃ (l:Addr) (bks:List (Addr × List S)) (o:Nat) (nm:S),vs=[.ref l,.int o,sv nm]∧BksAt H l bks∧bks.length≤100∧1≤o∧o≤3∧isNm nm ∧
  (∀ p∈bks,Fit p.2 o nm)∧∀ H',Same H H'→Q (optV (placeG (bks.map fun p=>shareOf (pairsB o p.2) o nm))) H'
abbrev sMaker:Stmt:=top 39
theorem scMaker:FnScope ["books", "order", "name"] ["books", "order", "name"] (defScope sMaker):=⟨rfl,rfl,rfl,by decide +kernel,rfl,by decide +kernel,by decide +kernel⟩
theorem ndBM:(["order", "name", "book"]:List Str).Nodup:=by decide +kernel
theorem ok_maker {f:Addr}{fd:FuncData} (F:Fun K "best_maker" "best_maker" sMaker f fd) (cNB:Cal P w K mg base 4 "need_books" ["thing"] spNeedBooks) (cNO:Cal P w K mg base 3 "need_order" ["thing"] spNeedOrder) (cNN:Cal P w K mg base 2 "need_name" ["thing"] spNeedName)
    (cA:Cal P w K mg base 6 "share" ["book", "order", "name"] (spShare K)) (cP:Cal P w K mg base 2 "place_of_greatest" ["fractions"] (spPlace K)):FnOk P w K mg base CX0 7 f fd ["books", "order", "name"] (spMaker K):=by
  refine F.ok scMaker (fun vs H Q E h=>?_) (fun cdv A outer s H vs Q E hr h=>?_)
  · obtain ⟨l,bks,o,nm,rfl,_⟩:=h; rfl
  · obtain ⟨l,bks,o,nm,rfl,hb,h100,ho1,ho3,hn,hf,k⟩:=h
    have hr4:=hr.mono (j:=4) (by decide)
    have hr3:=hr.mono (j:=3) (by decide)
    have hr2:=hr.mono (j:=2) (by decide)
    refine ⟨_,pss_cons (ps_expr (pe_cal cNB hr4 rfl (pa_cons (pv 0) pa_nil))) (pss_cons (ps_expr (pe_cal cNO hr3 rfl (pa_cons (pv 1) pa_nil))) (pss_cons (ps_expr (pe_cal cNN hr2 rfl (pa_cons (pv 2) pa_nil)))
      (pss_one (ps_ret (pe_cal cP hr2 rfl (pa_cons (pe_comp (N:=["order", "name", "book"]) (caps:=[1,2]) rfl (compScope_of (by kernel_rfl)) (pi_list (pv 0))
          (fun cl C s H ex=>pg_name (i:=2) ndBM rfl (Or.inl rfl)) (fun cl C s H ex=>pf_nil)
          (fun cl C s H ex=>pe_cal cA hr rfl (pa_cons (pv 2) (pa_cons (pv 0) (pa_cons (pv 1) pa_nil))))) pa_nil)))))),?_⟩
    refine ⟨_,rfl,l,bks,rfl,hb,fun p hp=>(hf p hp).toBk.toisBk,fun H1 s1=>?_⟩
    refine ⟨_,rfl,o,rfl,ho1,ho3,?_⟩
    refine ⟨_,rfl,nm,rfl,hn,fun H2 s2=>?_⟩
    have s02:=s1.trans s2
    have hb2:=hb.same s02
    have hlm:(bks.map fun p=>V.ref p.1).length=bks.length:=List.length_map ..
    refine ⟨_,rfl,l,rfl,⟨_,.of hb2.lst⟩,?_⟩
    refine comp_known0 (known_list K l (bks.map fun p=>V.ref p.1)) [some (.int o),some (sv nm)] 1 (by rw [hlm]; omega) (fun i acc H'=>Same H2 H'∧acc.length=i∧FrsAt K H' acc ((bks.take i).map fun p=>shareOf (pairsB o p.2) o nm))
      ⟨Same.refl _,rfl,FrsAt.nil⟩ (fun i acc H' _ h=>⟨.of (h.1 _ _ hb2.lst),Nat.le_of_eq h.2.1⟩) ?_ ?_
    · rintro i y acc H' ys Nx hN hx hy ⟨sm,hal,fr⟩
      obtain ⟨y',rfl⟩:=ys1 hy
      obtain ⟨p,ep,rfl⟩:=bks_item hx
      have hp:=List.mem_of_getElem? ep
      have hj:i < bks.length:=(List.getElem?_eq_some_iff.mp ep).1
      refine ⟨_,rfl,_,rfl,_,rfl,p.1,p.2,o,nm,rfl,sm _ _ (hb2.at_ p hp),hf p hp,fun v H5 s5 fv=>hN _ _ [some (.ref p.1)] rfl ⟨sm.trans s5,by rw [List.length_append,hal]; rfl,?_⟩⟩
      rw [List.take_succ_eq_append_getElem hj,(List.getElem?_eq_some_iff.mp ep).2,List.map_append]
      exact (fr.same s5).snoc fv
    · rintro acc H' ⟨sm,hal,fr⟩ D hD
      rw [hlm,List.take_length] at fr
      have u1:Same H' (upd H' D (.lst acc)):=Same.upd1 hD
      refine ⟨D,acc,_,rfl,upd_same,fr.same u1,fun q hq=>?_,fun H6 s6=>k H6 (((s02.trans sm).trans u1).trans s6)⟩
      obtain ⟨p,hp,rfl⟩:=List.mem_map.mp hq
      exact (share_sm (pairs_len (hf p hp).toBk).1 (hf p hp).pw).vx
end
end Kn
end
section
namespace L2
open PySem PySem.Spec PyProof.Rows
theorem HOk.freeze {P:Program}{w:World}{H:Hp}{h:Heap}{a:Addr}{o:Obj}{kvs:List (Key × V)} (x:HOk P w H h) (e:H a=some (.dK kvs)) (ho:h.get? a=some o):HOk P w (upd H a (.frz o (.dK kvs))) h:=fun b u eb=>by
  by_cases hb:b=a
  · subst hb; rw [upd_same] at eb; cases eb
    exact ⟨ho,x b _ e⟩
  · rw [upd_ne hb] at eb
    refine (x b u eb).stay (fun c v _ q=>q) (fun c q=>?_) fun c xs q=>?_
    · rw [upd_ne (by rintro rfl; rw [e] at q; cases q)]; exact q
    · rw [upd_ne (by rintro rfl; rw [e] at q; cases q)]; exact q
theorem is_kV {P:Program}{w:World}{k:Key}{u:Value} (h:(mixKind P w).is k u=true):RelV (kV k) u:=by
  rw [mixKind_is] at h
  rcases keyIs_shape h with ⟨i,t,rfl,rfl⟩ | ⟨x,t,rfl,rfl⟩
  · exact ⟨_,rfl⟩
  · exact ⟨_,rfl⟩
theorem paired_get {α β:Type}{F:α→β→Prop}:∀ {l₁:List α}{l₂:List β}{i:Nat}{x:α},Paired F l₁ l₂→l₁[i]?=some x→∃ y,l₂[i]?=some y∧F x y
  | [],_,i,x,_,h=>by simp at h
  | a::l,[],i,x,p,_=>by cases p
  | a::l,b::m,0,x,p,h=>by
    cases p with
    | cons h1 h2=>cases h; exact ⟨b,rfl,h1⟩
  | a::l,b::m,i+1,x,p,h=>by
    cases p with
    | cons h1 h2 =>
      obtain ⟨y,e1,e2⟩:=paired_get (i:=i) (x:=x) h2 (by simpa using h)
      exact ⟨y,by simpa using e1,e2⟩
def Itd (a:Addr) (o:Obj) (kvs:List (Key × V)):It where
  go:=fun i H=>H a=some (.frz o (.dK kvs))∧i < kvs.length
  yld:=fun i H x H'=>H'=H∧(kvs.map fun p=>kV p.1)[i]?=some x
  stop:=fun i H=>H a=some (.frz o (.dK kvs))∧kvs.length≤i
theorem known_dict (a:Addr) (o:Obj) (kvs:List (Key × V)):Known (Itd a o kvs) (kvs.map fun p=>kV p.1) (fun H=>H a=some (.frz o (.dK kvs))) :=
  ⟨fun i H h hi=>⟨h,by simpa using hi⟩,fun i H x H' h y=>⟨y.1,fun _=>y.2⟩,fun H h=>⟨h,by simp⟩⟩
theorem turn_dict {P:Program}{w:World}{K:PySem.W.Frag}{tg:Expr} (a it:Addr) (o:Obj) (kvs:List (Key × V)) (n ep:Nat) (hn:n=kvs.length) (hep:∃ es,o.data=.dict es ep):Turn P w K tg (Itd a o kvs) [it] it (fun i h=>h.IsKeyIter it a i n ep) where
  mem:=by simp
  obj:=fun i h st b hb=>by
    have e:b=it:=by simpa using hb
    subst e
    obtain ⟨o,e,c,d⟩:=st
    exact ⟨o,e,fun v z=>by rw [d] at z; cases z⟩
  keep:=fun i h h' st k=>st.at fun o e=>k it (by simp) o e
  item:=by
    intro X hP hw hK hc i pins s σ H E I hf st hg
    subst hP hw hK
    obtain ⟨hfz,hi⟩:=hg
    obtain ⟨z,hS,vs,rel,dd⟩:=dk_rd I.hok (.inr ⟨o,hfz⟩)
    obtain ⟨hget,_⟩:=(show s.heap.get? a=some o∧_ from I.hok a _ hfz)
    obtain ⟨ep',dat⟩:=dd.dictAt
    have epe:ep'=ep:=by
      obtain ⟨o',es,h1,_,h2,_⟩:=id dat
      obtain ⟨es',h3⟩:=hep
      rw [hget] at h1; cases h1
      rw [h2] at h3; injection h3
    subst epe
    have hlen:vs.length=n:=by rw [hn]; exact (Paired.length rel).symm
    rw [← hlen] at st
    obtain ⟨f0,f1,f2,f3,f4,f5⟩:=hf it (by simp)
    obtain ⟨q,hq⟩:∃ q,vs[i]?=some q:=⟨_,List.getElem?_eq_getElem (by omega)⟩
    obtain ⟨k,v⟩:=q
    refine wpAny_pyNext_dict_item st dat hq fun key h' hkey st' sb=>?_
    have I1:Inv X pins σ H { s with heap:=h' }:=I.turned (t':=s.toks) (fun b o hb e=>(sb.2 b hb).trans e) f0 f1 f3 f4 f5
    obtain ⟨oi,e,c,d⟩:=id st'
    rw [hlen] at st'
    obtain ⟨p,hp,e1,e2⟩:∃ p,kvs[i]?=some p∧p.1=k∧RelV p.2 v:=by
      have hi':i < kvs.length:=hi
      obtain ⟨y,hy,hr⟩:=paired_get rel (List.getElem?_eq_getElem hi')
      rw [hq] at hy; cases hy
      exact ⟨_,List.getElem?_eq_getElem hi',hr.1,hr.2⟩
    refine ⟨key,rfl,go_of (s:={ s with heap:=h' }) e c d (by decide) ⟨kV k,H,I1,is_kV hkey,⟨rfl,?_⟩,st',fun b hb=>(hf b hb).1⟩⟩
    rw [List.getElem?_map,hp,← e1]; rfl
  done:=by
    intro X hP hw hK hc i pins s σ H E I hf st hg
    subst hP hw hK
    obtain ⟨hfz,hi⟩:=hg
    obtain ⟨z,hS,vs,rel,dd⟩:=dk_rd I.hok (.inr ⟨o,hfz⟩)
    obtain ⟨hget,_⟩:=(show s.heap.get? a=some o∧_ from I.hok a _ hfz)
    obtain ⟨ep',dat⟩:=dd.dictAt
    have epe:ep'=ep:=by
      obtain ⟨o',es,h1,_,h2,_⟩:=id dat
      obtain ⟨es',h3⟩:=hep
      rw [hget] at h1; cases h1
      rw [h2] at h3; injection h3
    subst epe
    have hlen:vs.length=n:=by rw [hn]; exact (Paired.length rel).symm
    rw [← hlen] at st
    obtain ⟨f0,f1,f2,f3,f4,f5⟩:=hf it (by simp)
    refine wpAny_pyNext_dict_end (I.ok.hd hc) st dat (by rw [List.getElem?_eq_none]; omega) fun h' he=>⟨rfl,?_⟩
    exact I.turned (t':=s.toks) (fun b o hb e=>he b o hb e) f0 f1 f3 f4 f5
  self:=fun A i s Q E st hq=>wpAny_pyIter_keyiter st hq
section
variable {X:Cx}{pins:List (Addr × Obj)}{σ:St}{H:Hp}{s:Shared}{tg:Expr}
theorem Inv.freeze {a:Addr}{o:Obj}{kvs:List (Key × V)} (I:Inv X pins σ H s) (e:H a=some (.dK kvs)) (ho:s.heap.get? a=some o):Inv X pins σ (upd H a (.frz o (.dK kvs))) s:=by
  have ne:∀ {b:Addr} {u:Option HO},H b=u→u≠some (.dK kvs)→b≠a:=fun {b u} q n z=>n (by rw [← q,z,e])
  refine ⟨I.ok,I.os,I.bare,⟨I.base.keep,I.base.slot,fun b ob q n hx=>?_,I.base.there,fun b xs q=>?_,fun b ob u q=>?_,fun b ps q=>?_⟩,I.loc,I.cell,?_,fun x c q=>?_,fun p q=>?_,I.hok.freeze e ho,I.len⟩
  · have:=I.base.free b ob q n hx
    rw [upd_ne (ne this (by simp))]; exact this
  · have:=I.base.tups b xs q
    rw [upd_ne (ne this (by simp))]; exact this
  · have:=I.base.frzs b ob u q
    rw [upd_ne (ne this (by simp))]; exact this
  · obtain ⟨m,z⟩:=I.base.tbls b ps q
    exact ⟨m,by rw [upd_ne (ne z (by simp))]; exact z⟩
  · have:=I.free
    rw [upd_ne (ne this (by simp))]; exact this
  · have:=I.freeC x c q
    rw [upd_ne (ne this (by simp))]; exact this
  · obtain ⟨a1,a2,a3⟩:=I.pin p q
    exact ⟨a1,by rw [upd_ne (ne a2 (by simp))]; exact a2,a3⟩
def iDict (tl:TE):TI:=fun σ H R=>tl σ H fun x H1=>∃ a kvs,x=.ref a∧H1 a=some (.dK kvs)∧∀ o,R (Itd a o kvs) (upd H1 a (.frz o (.dK kvs)))
theorem pi_dict {l:Expr}{tl:TE} (hl:PE X l tl):PI X tg l (iDict tl):=by
  intro pins s σ H R I h
  refine thn (hl pins s σ H _ I h) fun v s1 ⟨x,H1,I1,r1,q1⟩=>?_
  obtain ⟨a,kvs,e,hq,q⟩:=q1
  subst e
  cases r1
  obtain ⟨z,hS,vs,rel,dd⟩:=dk_of I1.hok hq
  obtain ⟨ep,dat⟩:=dd.dictAt
  obtain ⟨o,es,ho,_,hod,_⟩:=id dat
  refine wpAny_pyIter_dict hS dat ?_
  have I2:=(I1.freeze hq ho).kept (t':=s1.toks) (h':=s1.heap.push { cls:=.type "dict_keyiterator",data:=.fields #[.ref a,.int 0 0,.int vs.length 0,.int ep 0] }) fun b o e=>Heap.get?_push_of_some _ e
  refine ⟨s1.heap.objs.size,[s1.heap.objs.size],_,_,upd H1 a (.frz o (.dK kvs)),rfl,I2,turn_dict a _ o kvs vs.length ep (Paired.length rel).symm ⟨es,hod⟩,⟨_,Heap.get?_push_size _ rfl,rfl,rfl⟩,fun b hb=>?_,q o⟩
  have e:b=s1.heap.objs.size:=by simpa using hb
  subst e
  exact (I1.freeze hq ho).fpOk (Nat.le_refl _) ((I1.freeze hq ho).hok.fresh (Nat.le_refl _))
theorem HOk.thaw {P:Program}{w:World}{H:Hp}{h:Heap}{a:Addr}{o:Obj}{kvs:List (Key × V)} (x:HOk P w H h) (e:H a=some (.frz o (.dK kvs))):HOk P w (upd H a (.dK kvs)) h:=fun b u eb=>by
  by_cases hb:b=a
  · subst hb; rw [upd_same] at eb; cases eb
    exact (show h.get? b=some o∧ObjOk P w H h b (.dK kvs) from x b _ e).2
  · rw [upd_ne hb] at eb
    refine (x b u eb).stay (fun c v _ q=>q) (fun c q=>?_) fun c xs q=>?_
    · rw [upd_ne (by rintro rfl; rw [e] at q; cases q)]; exact q
    · rw [upd_ne (by rintro rfl; rw [e] at q; cases q)]; exact q
theorem Inv.thaw {a:Addr}{o:Obj}{kvs:List (Key × V)}{pins':List (Addr × Obj)}{σ':St}{H':Hp}{s':Shared} (I:Inv X pins σ H s) (I0:Inv X pins' σ' H' s') (h0:H' a=some (.dK kvs)) (e:H a=some (.frz o (.dK kvs))):Inv X pins σ (upd H a (.dK kvs)) s:=by
  have ne:∀ {b:Addr} {u:Option HO},H b=u→u≠some (.frz o (.dK kvs))→b≠a:=fun {b u} q n z=>n (by rw [← q,z,e])
  refine ⟨I.ok,I.os,I.bare,⟨I.base.keep,I.base.slot,fun b ob q n hx=>?_,I.base.there,fun b xs q=>?_,fun b ob u q=>?_,fun b ps q=>?_⟩,I.loc,I.cell,?_,fun x c q=>?_,fun p q=>?_,I.hok.thaw e,I.len⟩
  · have:=I.base.free b ob q n hx
    rw [upd_ne (ne this (by simp))]; exact this
  · have:=I.base.tups b xs q
    rw [upd_ne (ne this (by simp))]; exact this
  · have:=I.base.frzs b ob u q
    rw [upd_ne (by rintro rfl; have:=I0.base.frzs _ ob u q; rw [h0] at this; cases this)]; exact this
  · obtain ⟨m,z⟩:=I.base.tbls b ps q
    exact ⟨m,by rw [upd_ne (ne z (by simp))]; exact z⟩
  · have:=I.free
    rw [upd_ne (ne this (by simp))]; exact this
  · have:=I.freeC x c q
    rw [upd_ne (ne this (by simp))]; exact this
  · obtain ⟨a1,a2,a3⟩:=I.pin p q
    exact ⟨a1,by rw [upd_ne (ne a2 (by simp))]; exact a2,a3⟩
def tThaw (t:TE):TE:=fun σ H Q=>∃ a kvs,H a=some (.dK kvs)∧t σ H fun y H'=>∃ o,H' a=some (.frz o (.dK kvs))∧Q y (upd H' a (.dK kvs))
theorem pe_thaw {e:Expr}{t:TE} (he:PE X e t):PE X e (tThaw t):=by
  intro pins s σ H Q I h
  obtain ⟨a,kvs,h0,h⟩:=h
  exact thn (he pins s σ H _ I h) fun u s1 ⟨y,H',I',r,o,hf,q⟩=>⟨y,_,I'.thaw I h0 hf,r,q⟩
end
end L2
end
section
namespace L2
open PySem PySem.Spec PyProof.Rows
theorem entry_itemiter_iter:entryFor table "dict_itemiterator.__iter__" = some Builtin.«dict_keyiterator.__iter__» :=
  entryFor_alias (id' := "dict_keyiterator.__iter__") (by kernel_rfl) rfl (by decide +kernel) (by kernel_rfl)
def Iti (a:Addr) (o:Obj) (kvs:List (Key × V)):It where
  go:=fun i H=>H a=some (.frz o (.dK kvs))∧i < kvs.length
  yld:=fun i H x H'=>∃ T q,x=.ref T∧H T=none∧H'=upd H T (.tup [kV q.1,q.2])∧kvs[i]?=some q
  stop:=fun i H=>H a=some (.frz o (.dK kvs))∧kvs.length≤i
theorem turn_items {P:Program}{w:World}{K:PySem.W.Frag}{elts:List Expr}{k:Nat}{pos:Pos} (a it:Addr) (o:Obj) (kvs:List (Key × V)) (n ep:Nat) (hn:n=kvs.length) (hep:∃ es,o.data=.dict es ep) :
    Turn P w K (.Tuple elts k pos) (Iti a o kvs) [it] it (fun i h=>∃ ok ov,IsItemIter h it a i n ep ok ov) where
  mem:=by simp
  obj:=fun i h st b hb=>by
    have e:b=it:=by simpa using hb
    subst e
    obtain ⟨ok,ov,st⟩:=st
    exact ⟨_,st,fun v z=>by
      have z':Data.fields _=Data.cell v:=z
      cases z'⟩
  keep:=fun i h h' st kk=>let ⟨ok,ov,st⟩:=st; ⟨ok,ov,kk it (by simp) _ st⟩
  item:=by
    intro X hP hw hK hc i pins s σ H E I hf st hg
    subst hP hw hK
    obtain ⟨hfz,hi⟩:=hg
    obtain ⟨ok,ov,st⟩:=st
    obtain ⟨z,hS,vs,rel,dd⟩:=dk_rd I.hok (.inr ⟨o,hfz⟩)
    obtain ⟨hget,_⟩:=(show s.heap.get? a=some o∧_ from I.hok a _ hfz)
    obtain ⟨ep',dat⟩:=dd.dictAt
    have epe:ep'=ep:=by
      obtain ⟨o',es,h1,_,h2,_⟩:=id dat
      obtain ⟨es',h3⟩:=hep
      rw [hget] at h1; cases h1
      rw [h2] at h3; injection h3
    subst epe
    have hlen:vs.length=n:=by rw [hn]; exact (Paired.length rel).symm
    rw [← hlen] at st
    obtain ⟨q,hq⟩:∃ q,vs[i]?=some q:=⟨_,List.getElem?_eq_getElem (by omega)⟩
    obtain ⟨k,v⟩:=q
    obtain ⟨p,hp,e1,e2⟩:∃ p,kvs[i]?=some p∧p.1=k∧RelV p.2 v:=by
      have hi':i < kvs.length:=hi
      obtain ⟨y,hy,hr⟩:=paired_get rel (List.getElem?_eq_getElem hi')
      rw [hq] at hy; cases hy
      exact ⟨_,List.getElem?_eq_getElem hi',hr.1,hr.2⟩
    refine wpAny_pyNext_items_item st dat hq fun key h' hkey hout hT hsz hk=>?_
    refine ⟨_,rfl,wpAny_letOwnedTupleGo_items hout fun h2 he2 hs2=>?_⟩
    have hTn:s.heap.get? s.heap.objs.size=none:=by
      cases g:s.heap.get? s.heap.objs.size with
      | none=>rfl
      | some o=>exact absurd (Heap.lt_size g) (Nat.lt_irrefl _)
    have hel:it < s.heap.objs.size:=Heap.lt_size st
    have hT2:h2.get? s.heap.objs.size=some { cls:=.type "tuple",data:=.seq #[key,v] }:=(hs2.2 _ (Nat.ne_of_gt hel)).trans hT
    refine ⟨.ref s.heap.objs.size,upd H s.heap.objs.size (.tup [kV p.1,p.2]),I.turnedT (fp:=[it]) (h':=h2) (t':=s.toks) (fun b ob hb q=>?_) hf hTn ⟨by show 2≤sizeLine; decide,[key,v],.cons (by rw [e1]; exact is_kV hkey) (.cons e2 .nil),⟨_,hT2,rfl,_,rfl⟩⟩,rfl,
      ⟨_,p,rfl,I.hok.free hTn,rfl,hp⟩,⟨_,_,by rw [hlen] at he2; exact he2⟩,fun b hb=>?_⟩
    · have hbe:b≠it:=fun z=>hb (by simp [z])
      exact (hs2.2 b hbe).trans (hk b ob hbe q)
    · rw [upd_ne]
      · exact (hf b hb).1
      · rintro rfl
        have z':s.heap.objs.size=it:=by simpa using hb
        exact absurd hel (by rw [z']; exact Nat.lt_irrefl _)
  done:=by
    intro X hP hw hK hc i pins s σ H E I hf st hg
    subst hP hw hK
    obtain ⟨hfz,hi⟩:=hg
    obtain ⟨ok,ov,st⟩:=st
    obtain ⟨z,hS,vs,rel,dd⟩:=dk_rd I.hok (.inr ⟨o,hfz⟩)
    obtain ⟨hget,_⟩:=(show s.heap.get? a=some o∧_ from I.hok a _ hfz)
    obtain ⟨ep',dat⟩:=dd.dictAt
    have epe:ep'=ep:=by
      obtain ⟨o',es,h1,_,h2,_⟩:=id dat
      obtain ⟨es',h3⟩:=hep
      rw [hget] at h1; cases h1
      rw [h2] at h3; injection h3
    subst epe
    have hlen:vs.length=n:=by rw [hn]; exact (Paired.length rel).symm
    rw [← hlen] at st
    obtain ⟨f0,f1,f2,f3,f4,f5⟩:=hf it (by simp)
    refine wpAny_pyNext_items_end (I.ok.hd hc) st dat (by rw [List.getElem?_eq_none]; omega) fun h' he=>⟨rfl,?_⟩
    exact I.turned (t':=s.toks) (fun b o hb e=>he b o hb e) f0 f1 f3 f4 f5
  self:=fun A i s Q E st hq=>by
    obtain ⟨ok,ov,st⟩:=st
    have hT:s.TypeIs (.ref it) "dict_itemiterator" := ⟨_,st,rfl⟩
    refine wpAny_pyIter_slot hT F.slot_dict_itemiterator_iter (wpAny_call_entry F.slot_dict_itemiterator_iter hT entry_itemiter_iter ?_ (F.args_dict_itemiterator_iter_1 _))
    show wpAny _ _ (ret (.ref it)) _ _ s
    exact wpAny_pure ⟨_,rfl, "dict_itemiterator",_,hT,F.slot_dict_itemiterator_next.lookup,hq⟩
section
variable {X:Cx}{elts:List Expr}{kk:Nat}{tpos:Pos}{tg:Expr}
def iItems (tl:TE):TI:=fun σ H R=>tl σ H fun x H1=>∃ p a kvs,x=.ref p∧H1 p=some (VW p a)∧H1 a=some (.dK kvs)∧∀ o,R (Iti a o kvs) (upd H1 a (.frz o (.dK kvs)))
theorem pi_items {l:Expr}{tl:TE} (hl:PE X l tl):PI X (.Tuple elts kk tpos) l (iItems tl):=by
  intro pins s σ H R I h
  refine thn (hl pins s σ H _ I h) fun v s1 ⟨x,H1,I1,r1,q1⟩=>?_
  obtain ⟨p,a,kvs,e,hp,hq,q⟩:=q1
  subst e
  cases r1
  obtain ⟨z,hS,vs,rel,dd⟩:=dk_of I1.hok hq
  obtain ⟨ep,dat⟩:=dd.dictAt
  obtain ⟨o,es,ho,_,hod,_⟩:=id dat
  have hvw:s1.heap.get? p=some (vwObj a):=(I1.hok p _ hp).1
  refine wpAny_pyIter_items (v:=p) ⟨_,hvw,rfl,rfl⟩ dat ?_
  have I2:=(I1.freeze hq ho).kept (t':=s1.toks) (h':=s1.heap.push { cls:=.type "dict_itemiterator",data:=.fields #[.none,.bool false,.ref a,.int 0 0,.int vs.length 0,.int ep 0,.none,.none] }) fun b o e=>Heap.get?_push_of_some _ e
  refine ⟨s1.heap.objs.size,[s1.heap.objs.size],_,_,upd H1 a (.frz o (.dK kvs)),rfl,I2,turn_items a _ o kvs vs.length ep (Paired.length rel).symm ⟨es,hod⟩,⟨_,_,Heap.get?_push_size _ rfl⟩,fun b hb=>?_,q o⟩
  have e:b=s1.heap.objs.size:=by simpa using hb
  subst e
  exact (I1.freeze hq ho).fpOk (Nat.le_refl _) ((I1.freeze hq ho).hok.fresh (Nat.le_refl _))
theorem for_items {a:Addr}{o:Obj}{kvs:List (Key × V)}{g:TG}{tb:TS}{D:Ends}{σ:St}{H:Hp} (Pv:Nat→St→Hp→Prop) (h0:Pv 0 σ H) (hk:∀ i σ H,i≤kvs.length→Pv i σ H→H a=some (.frz o (.dK kvs)))
    (turn:∀ (i:Nat) (q:Key × V) (T:Addr) (σ:St) (H:Hp) (Nx:St→Hp→Prop),(∀ σ' H',Pv (i+1) σ' H'→Nx σ' H')→kvs[i]?=some q→Pv i σ H→H T=none→g (.ref T) σ (upd H T (.tup [kV q.1,q.2])) fun σ2 H2=>tb { D with nx:=Nx,ct:=Nx,bk:=D.nx } σ2 H2)
    (fin:∀ σ H,Pv kvs.length σ H→D.nx σ H) :
    ∃ W:Nat→Nat→St→Hp→Prop,(∃ m,W 0 m σ H)∧∀ i m σ H,W i m σ H →
      ((Iti a o kvs).stop i H∧D.nx σ H)∨((Iti a o kvs).go i H∧∃ N:St→Hp→Prop,(∀ σ' H',N σ' H'→∃ m',m' < m∧W (i+1) m' σ' H')∧∀ x H',(Iti a o kvs).yld i H x H'→g x σ H' fun σ2 H2=>tb { D with nx:=N,ct:=N,bk:=D.nx } σ2 H2):=by
  refine ⟨fun i m σ H=>i≤kvs.length∧m=kvs.length - i∧Pv i σ H,⟨kvs.length,Nat.zero_le _,rfl,h0⟩,?_⟩
  rintro i m σ H ⟨hi,rfl,pv⟩
  have hH:=hk i σ H hi pv
  by_cases e:i=kvs.length
  · subst e
    exact .inl ⟨⟨hH,Nat.le_refl _⟩,fin σ H pv⟩
  · have hi':i < kvs.length:=by omega
    refine .inr ⟨⟨hH,hi'⟩,Pv (i+1),fun σ' H' p=>⟨kvs.length - (i+1),by omega,by omega,rfl,p⟩,fun x H2 hy2=>?_⟩
    obtain ⟨T,q,rfl,hT,rfl,hy⟩:=hy2
    exact turn i q T σ H (Pv (i+1)) (fun _ _ p=>p) hy pv hT
theorem comp_items {a:Addr}{o:Obj}{kvs:List (Key × V)}{caps:List Nat}{n:Nat}{σ:St}{g:TG}{te:TE}{F:List V→Hp→Prop}{H1:Hp} (cv:St) (k:Nat) (hn:kvs.length < 1000)
    (Pv:Nat→List V→Hp→Prop) (h0:Pv 0 [] H1) (hk:∀ i acc H,i≤kvs.length→Pv i acc H→H a=some (.frz o (.dK kvs))∧acc.length≤i)
    (turn:∀ (i:Nat) (q:Key × V) (T:Addr) (acc:List V) (H:Hp) (ys:St) (Nx:List V→St→Hp→Prop),(∀ acc' H' zs,zs.length=k→Pv (i+1) acc' H'→Nx acc' (cv++zs) H')→kvs[i]?=some q→ys.length=k→Pv i acc H→H T=none →
      g (.ref T) (cv++ys) (upd H T (.tup [kV q.1,q.2])) fun σ2 H3=>te σ2 H3 fun y H5=>Nx (acc++[y]) σ2 H5)
    (fin:∀ acc H,Pv kvs.length acc H→F acc H) (hcv:capStart caps n σ=cv++List.replicate k none:=by rfl) :
    ∃ W:Nat→Nat→List V→St→Hp→Prop,(∃ m,W 0 m [] (capStart caps n σ) H1)∧∀ i m acc σ' H',W i m acc σ' H' →
      ((Iti a o kvs).stop i H'∧F acc H') ∨
      ((Iti a o kvs).go i H'∧acc.length < sizeLine∧∀ x H2,(Iti a o kvs).yld i H' x H2→g x σ' H2 fun σ2 H3=>tYes σ2 H3 fun b H4=>if b=true then te σ2 H4 fun y H5=>∃ m',m' < m∧W (i+1) m' (acc++[y]) σ2 H5 else ∃ m',m' < m∧W (i+1) m' acc σ2 H4):=by
  refine ⟨fun i m acc σ' H'=>i≤kvs.length∧m=kvs.length - i∧(∃ ys,ys.length=k∧σ'=cv++ys)∧Pv i acc H',⟨kvs.length,Nat.zero_le _,rfl,⟨_,by simp,hcv⟩,h0⟩,?_⟩
  rintro i m acc σ' H' ⟨hi,rfl,⟨ys,hy,rfl⟩,pv⟩
  obtain ⟨hH,ha⟩:=hk i acc H' hi pv
  by_cases e:i=kvs.length
  · subst e
    exact .inl ⟨⟨hH,Nat.le_refl _⟩,fin acc H' pv⟩
  · have hi':i < kvs.length:=by omega
    refine .inr ⟨⟨hH,hi'⟩,by rw [sizeLine_eq]; omega,fun x H2 hy2=>?_⟩
    obtain ⟨T,q,rfl,hT,rfl,hq⟩:=hy2
    have:=turn i q T acc H' ys (fun acc' σ2 H5=>∃ m',m' < kvs.length - i∧(i+1≤kvs.length∧m'=kvs.length - (i+1)∧(∃ ys,ys.length=k∧σ2=cv++ys)∧Pv (i+1) acc' H5)) (fun acc' H5 zs hz p=>⟨kvs.length - (i+1),by omega,by omega,rfl,⟨zs,hz,rfl⟩,p⟩) hq hy pv hT
    have e:(fun (σ2:St) (H3:Hp)=>tYes σ2 H3 fun b H4=>if b=true then te σ2 H4 fun y H5=>∃ m',m' < kvs.length - i∧(i+1≤kvs.length∧m'=kvs.length - (i+1)∧(∃ ys,ys.length=k∧σ2=cv++ys)∧Pv (i+1) (acc++[y]) H5) else ∃ m',m' < kvs.length - i∧(i+1≤kvs.length∧m'=kvs.length - (i+1)∧(∃ ys,ys.length=k∧σ2=cv++ys)∧Pv (i+1) acc H4))=fun σ2 H3=>te σ2 H3 fun y H5=>∃ m',m' < kvs.length - i∧(i+1≤kvs.length∧m'=kvs.length - (i+1)∧(∃ ys,ys.length=k∧σ2=cv++ys)∧Pv (i+1) (acc++[y]) H5):=by
      funext σ2 H3
      unfold tYes
      simp
    rw [e]
    exact this
def sThaw (t:TS):TS:=fun D σ H=>∃ a kvs,H a=some (.dK kvs)∧t { D with nx:=fun σ' H'=>∃ o,H' a=some (.frz o (.dK kvs))∧D.nx σ' (upd H' a (.dK kvs)) } σ H
theorem ps_thaw {st:Stmt}{t:TS} (h:PS X st t):PS X st (sThaw t):=by
  intro pins s σ H D I q
  obtain ⟨a,kvs,h0,q⟩:=q
  refine thn (h pins s σ H _ I q) fun f s1 h1=>?_
  cases f with
  | next =>
    obtain ⟨σ',H',I',o,hf,qn⟩:=h1
    exact ⟨σ',_,I'.thaw I h0 hf,qn⟩
  | brk=>exact h1
  | cont=>exact h1
  | ret u=>exact h1
theorem Same.thaw {H H':Hp}{a:Addr}{o:Obj}{kvs:List (Key × V)} (e:Same (upd H a (.frz o (.dK kvs))) H') (h:H a=some (.dK kvs)):Same H (upd H' a (.dK kvs)):=fun b u q=>by
  by_cases hb:b=a
  · subst hb; rw [upd_same,← q,h]
  · rw [upd_ne hb]; exact e b u (by rw [upd_ne hb]; exact q)
end
end L2
end
section
namespace Kn
theorem endOf_end (t l:S) (o:Nat):endOf (endOf t o++l) o=endOf (t++l) o:=by
  unfold endOf
  rw [List.length_append,List.length_append,List.length_drop]
  by_cases h:t.length≤o
  · rw [show t.length - o=0 by omega,List.drop_zero,Nat.sub_zero]
  · rw [List.drop_append,List.drop_append,List.drop_drop,List.length_drop]
    congr 1
    · congr 1; omega
    · congr 1; omega
theorem endOf_endOfW (t:S) (o:Nat):endOf (endOf t (o+1)) o=endOf t o:=by
  unfold endOf
  rw [List.length_drop,List.drop_drop]
  congr 1; omega
def pp (o:Nat) (t:S):List (S × S):=(List.range t.length).map fun p=>(endOf (t.take p) o,(t.drop p).take 1)
theorem pairs1_pp (o:Nat) (t:S):pairs1 o t=pp o t++[(endOf t o,[])]:=by
  unfold pairs1 pp
  rw [List.range_succ,List.map_append]
  simp
theorem pp_snoc (o:Nat) (t:S) (c:Nat):pp o (t++[c])=pp o t++[(endOf t o,[c])]:=by
  unfold pp
  rw [List.length_append,List.length_singleton,List.range_succ,List.map_append]
  congr 1
  · refine List.map_congr_left fun p hp=>?_
    have hp':p < t.length:=List.mem_range.mp hp
    rw [List.take_append_of_le_length (by omega),List.drop_append_of_le_length (by omega)]
    congr 1
    have:1≤(t.drop p).length:=by rw [List.length_drop]; omega
    rw [List.take_append_of_le_length this]
  · simp
theorem pair_next {o:Nat}{nm e:S}{c:Nat} (h:(e,[c])∈pairs1 o nm):∃ l,(endOf (e++[c]) o,l)∈pairs1 o nm:=by
  unfold pairs1 at h
  obtain ⟨p,hp,e1⟩:=List.mem_map.mp h
  have hp':p < nm.length+1:=List.mem_range.mp hp
  have e2:endOf (nm.take p) o=e:=congrArg Prod.fst e1
  have e3:(nm.drop p).take 1=[c]:=congrArg Prod.snd e1
  have hl:p < nm.length:=by
    by_cases h:p < nm.length
    · exact h
    · rw [List.drop_of_length_le (by omega)] at e3; cases e3
  have e4:nm.take (p+1)=nm.take p++[c]:=by
    rw [← e3,← List.take_add]
  refine ⟨(nm.drop (p+1)).take 1,?_⟩
  rw [← e2,endOf_end,← e4]
  exact List.mem_map.mpr ⟨p+1,List.mem_range.mpr (by omega),rfl⟩
theorem pairB_next {o:Nat}{bk:List S}{e:S}{c:Nat} (h:(e,[c])∈pairsB o bk):∃ l,(endOf (e++[c]) o,l)∈pairsB o bk:=by
  obtain ⟨nm,hn,hp⟩:=List.mem_flatMap.mp h
  obtain ⟨l,hl⟩:=pair_next hp
  exact ⟨l,List.mem_flatMap.mpr ⟨nm,hn,hl⟩⟩
theorem pair_one {o:Nat}{nm e l:S} (h:(e,l)∈pairs1 o nm):l.length≤1:=by
  unfold pairs1 at h
  obtain ⟨p,_,e1⟩:=List.mem_map.mp h
  have e3:(nm.drop p).take 1=l:=congrArg Prod.snd e1
  rw [← e3,List.length_take]; omega
theorem pairB_one {o:Nat}{bk:List S}{e l:S} (h:(e,l)∈pairsB o bk):l.length≤1:=by
  obtain ⟨nm,hn,hp⟩:=List.mem_flatMap.mp h
  exact pair_one hp
theorem one_of {l:S} (h:l.length≤1) (hn:l≠[]):∃ c,l=[c]:=by
  match l,h,hn with
  | [c],_,_=>exact ⟨c,rfl⟩
theorem pair_order {o:Nat}{bk:List S}{x:S} (h:∀ q∈pairs1 (o+1) x,q∈pairsB (o+1) bk):∀ q∈pairs1 o x,q∈pairsB o bk:=by
  intro q hq
  unfold pairs1 at hq
  obtain ⟨p,hp,e1⟩:=List.mem_map.mp hq
  have h1:=h (endOf (x.take p) (o+1),(x.drop p).take 1) (List.mem_map.mpr ⟨p,hp,rfl⟩)
  obtain ⟨nm,hn,h2⟩:=List.mem_flatMap.mp h1
  obtain ⟨j,hj,e2⟩:=List.mem_map.mp h2
  have e3:endOf (nm.take j) (o+1)=endOf (x.take p) (o+1):=congrArg Prod.fst e2
  have e4:(nm.drop j).take 1=(x.drop p).take 1:=congrArg Prod.snd e2
  refine List.mem_flatMap.mpr ⟨nm,hn,List.mem_map.mpr ⟨j,hj,?_⟩⟩
  rw [← e1]
  have e5:endOf (nm.take j) o=endOf (x.take p) o:=by rw [← endOf_endOfW,e3,endOf_endOfW]
  rw [e5,e4]
theorem pair_more {o:Nat}{bk bk':List S}{q:S × S} (h:q∈pairsB o bk) (hs:∀ x∈bk,x∈bk'):q∈pairsB o bk':=by
  obtain ⟨nm,hn,hp⟩:=List.mem_flatMap.mp h
  exact List.mem_flatMap.mpr ⟨nm,hs nm hn,hp⟩
def mf (w l:S):Bool:=decide (l≠[]) && (decide (w=[]) || decide (w=l))
def step1 (nx:S→List S) (o:Nat) (ts:List S) (w:S):List S:=ts.flatMap fun t=>((nx (endOf t o)).filter (mf w)).map (t++·)
def Tx (nx:S→List S) (o:Nat) (pat:List S):List S:=pat.foldl (step1 nx o) [[]]
def lft (w:Int) (q:Int × Int):Int:=w * q.1 / q.2
def wstep (nx:S→List S) (f:S→S→Int × Int) (o:Nat) (L:List (S × Int)) (w:S):List (S × Int):=L.flatMap fun p=>((nx (endOf p.1 o)).filter (mf w)).map fun l=>(p.1++l,lft p.2 (f (endOf p.1 o) l))
def Ws (nx:S→List S) (f:S→S→Int × Int) (o:Nat) (wt:Int) (pat:List S):List (S × Int):=pat.foldl (wstep nx f o) [([],wt)]
def addA (acc:List (S × Int)) (p:S × Int):List (S × Int):=putA acc p.1 ((getA acc p.1).getD 0+p.2)
def agg (L:List (S × Int)):List (S × Int):=L.foldl addA []
def outs (nx:S→List S) (f:S→S→Int × Int) (o:Nat) (w:S) (p:S × Int):List (S × Int):=((nx p.1).filter (mf w)).map fun l=>(endOf (p.1++l) o,lft p.2 (f p.1 l))
def sstep (nx:S→List S) (f:S→S→Int × Int) (o:Nat) (ss:List (S × Int)) (w:S):List (S × Int):=agg (ss.flatMap (outs nx f o w))
def Ss (nx:S→List S) (f:S→S→Int × Int) (o:Nat) (wt:Int) (pat:List S):List (S × Int):=pat.foldl (sstep nx f o) [([],wt)]
structure Addt (D:Int) (φ:S→Int→Int):Prop where
  zero:∀ e,φ e 0=0
  add:∀ e a b,D ∣ a→D ∣ b→φ e (a+b)=φ e a+φ e b
abbrev tots (φ:S→Int→Int) (L:List (S × Int)):Int:=(L.map fun p=>φ p.1 p.2).sum
theorem tots_putA (φ:S→Int→Int):∀ (acc:List (S × Int)) (e:S) (v:Int),tots φ (putA acc e v)=tots φ acc - ((getA acc e).map (φ e)).getD 0+φ e v
  | [],e,v=>by simp [tots,putA,getA]
  | (k,x)::r,e,v=>by
    have ih:=tots_putA φ r e v
    unfold tots at ih ⊢
    by_cases h:k=e
    · subst h
      simp only [putA,getA,if_true,List.map_cons,List.sum_cons,Option.map_some,Option.getD_some]
      omega
    · simp only [putA,getA,if_neg h,List.map_cons,List.sum_cons]
      rw [ih]; omega
theorem dvd_putA {D:Int}:∀ {acc:List (S × Int)}{e:S}{v:Int},(∀ p∈acc,D ∣ p.2)→D ∣ v→∀ p∈putA acc e v,D ∣ p.2
  | [],e,v,_,hv,p,hp=>by
    have:p=(e,v):=by simpa [putA] using hp
    rw [this]; exact hv
  | (k,x)::r,e,v,ha,hv,p,hp=>by
    by_cases h:k=e
    · simp only [putA,if_pos h] at hp
      rcases List.mem_cons.mp hp with z | z
      · rw [z]; exact hv
      · exact ha p (List.mem_cons_of_mem _ z)
    · simp only [putA,if_neg h] at hp
      rcases List.mem_cons.mp hp with z | z
      · rw [z]; exact ha _ (List.mem_cons_self ..)
      · exact dvd_putA (fun q hq=>ha q (List.mem_cons_of_mem _ hq)) hv p z
theorem dvd_get {D:Int}{acc:List (S × Int)} (ha:∀ p∈acc,D ∣ p.2) (e:S):D ∣ (getA acc e).getD 0:=by
  induction acc with
  | nil=>exact Int.dvd_zero _
  | cons p r ih =>
    obtain ⟨k,x⟩:=p
    by_cases h:k=e
    · simp only [getA,if_pos h,Option.getD_some]; exact ha _ (List.mem_cons_self ..)
    · simp only [getA,if_neg h]; exact ih fun q hq=>ha q (List.mem_cons_of_mem _ hq)
theorem agg_go {D:Int}{φ:S→Int→Int} (A:Addt D φ):∀ (L acc:List (S × Int)),(∀ p∈L,D ∣ p.2)→(∀ p∈acc,D ∣ p.2)→tots φ (L.foldl addA acc)=tots φ acc+tots φ L∧∀ p∈L.foldl addA acc,D ∣ p.2
  | [],acc,_,ha=>⟨by simp [tots],ha⟩
  | p::L,acc,hL,ha=>by
    have hp:=hL p (List.mem_cons_self ..)
    have hg:=dvd_get ha p.1
    have ha':∀ q∈addA acc p,D ∣ q.2:=dvd_putA ha (Int.dvd_add hg hp)
    obtain ⟨i1,i2⟩:=agg_go A L (addA acc p) (fun q hq=>hL q (List.mem_cons_of_mem _ hq)) ha'
    refine ⟨?_,i2⟩
    rw [List.foldl_cons,i1]
    unfold addA
    rw [tots_putA]
    have e1:φ p.1 ((getA acc p.1).getD 0+p.2)=φ p.1 ((getA acc p.1).getD 0)+φ p.1 p.2:=A.add _ _ _ hg hp
    have e2:φ p.1 ((getA acc p.1).getD 0)=((getA acc p.1).map (φ p.1)).getD 0:=by
      cases getA acc p.1 with
      | none=>exact A.zero _
      | some g=>rfl
    have e3:tots φ (p::L)=φ p.1 p.2+tots φ L:=by unfold tots; rw [List.map_cons,List.sum_cons]
    rw [e1,e2,e3]
    omega
theorem agg_sum {D:Int}{φ:S→Int→Int} (A:Addt D φ) {L:List (S × Int)} (hL:∀ p∈L,D ∣ p.2):tots φ (agg L)=tots φ L∧∀ p∈agg L,D ∣ p.2:=by
  obtain ⟨a,b⟩:=agg_go A L [] hL (fun p hp=>by cases hp)
  exact ⟨by rw [show agg L=L.foldl addA [] from rfl,a]; simp [tots],b⟩
theorem tots_flat {α:Type} (φ:S→Int→Int) (g:α→List (S × Int)):∀ L:List α,tots φ (L.flatMap g)=(L.map fun p=>tots φ (g p)).sum
  | []=>rfl
  | p::L=>by
    rw [List.flatMap_cons,List.map_cons,List.sum_cons,← tots_flat φ g L]
    unfold tots
    rw [List.map_append,List.sum_append]
theorem lft_add {D a b:Int}{q:Int × Int} (hq:q.2 ∣ D) (ha:D ∣ a):lft (a+b) q=lft a q+lft b q:=by
  unfold lft
  rw [Int.add_mul]
  exact Int.add_ediv_of_dvd_left (Int.dvd_trans (Int.dvd_trans hq ha) (Int.dvd_mul_right ..))
theorem lft_zero (q:Int × Int):lft 0 q=0:=by unfold lft; rw [Int.zero_mul,Int.zero_ediv]
theorem lft_dvd {U a:Int}{m:Nat}{q:Int × Int} (hq:q.2 ∣ U) (h0:0 < q.2) (ha:U ^ (m+1) ∣ a):U ^ m ∣ lft a q:=by
  obtain ⟨c,rfl⟩:=ha
  obtain ⟨d,hd⟩:=hq
  unfold lft
  refine ⟨d * c * q.1,?_⟩
  refine Int.ediv_eq_of_eq_mul_right (by omega) ?_
  rw [Int.pow_succ]
  conv=>lhs; rw [hd]
  conv=>rhs; rw [hd]
  grind
structure Rel (U:Int) (o m:Nat) (ss L:List (S × Int)):Prop where
  sum:∀ φ,Addt (U ^ m) φ→tots φ ss=tots (fun t w=>φ (endOf t o) w) L
  ds:∀ p∈ss,U ^ m ∣ p.2
  dl:∀ p∈L,U ^ m ∣ p.2
structure Exact (nx:S→List S) (f:S→S→Int × Int) (U:Int):Prop where
  dv:∀ e l,l∈nx e→(f e l).2 ∣ U
  pos:∀ e l,l∈nx e→0 < (f e l).2
theorem Rel.step {nx:S→List S}{f:S→S→Int × Int}{U:Int}{o m:Nat}{ss L:List (S × Int)} (X:Exact nx f U) (R:Rel U o (m+1) ss L) (w:S):Rel U o m (sstep nx f o ss w) (wstep nx f o L w):=by
  have inx:∀ {e l},l∈(nx e).filter (mf w)→l∈nx e:=fun h=>(List.mem_filter.mp h).1
  have d1:∀ p∈ss.flatMap (outs nx f o w),U ^ m ∣ p.2:=fun p hp=>by
    obtain ⟨q,hq,h2⟩:=List.mem_flatMap.mp hp
    obtain ⟨l,hl,rfl⟩:=List.mem_map.mp h2
    exact lft_dvd (X.dv _ _ (inx hl)) (X.pos _ _ (inx hl)) (R.ds q hq)
  have d2:∀ p∈wstep nx f o L w,U ^ m ∣ p.2:=fun p hp=>by
    obtain ⟨q,hq,h2⟩:=List.mem_flatMap.mp hp
    obtain ⟨l,hl,rfl⟩:=List.mem_map.mp h2
    exact lft_dvd (X.dv _ _ (inx hl)) (X.pos _ _ (inx hl)) (R.dl q hq)
  refine ⟨fun φ A=>?_,(agg_sum (φ:=fun _ _=>0) ⟨fun _=>rfl,fun _ _ _ _ _=>rfl⟩ d1).2,d2⟩
  unfold sstep
  rw [(agg_sum A d1).1,tots_flat]
  have hpsi:Addt (U ^ (m+1)) (fun e v=>tots φ (outs nx f o w (e,v))):=by
    constructor
    · intro e
      unfold outs tots
      rw [List.map_map]
      have:∀ l:List S,(l.map ((fun p:S × Int=>φ p.1 p.2) ∘ fun l=>(endOf (e++l) o,lft 0 (f e l)))).sum=0:=by
        intro l
        induction l with
        | nil=>rfl
        | cons x r ih =>
          rw [List.map_cons,List.sum_cons,ih]
          show φ _ (lft 0 _)+0=0
          rw [lft_zero,A.zero]; rfl
      exact this _
    · intro e a b ha hb
      unfold outs tots
      rw [List.map_map,List.map_map,List.map_map]
      have go:∀ ls:List S,(∀ l∈ls,l∈nx e)→(ls.map ((fun p:S × Int=>φ p.1 p.2) ∘ fun l=>(endOf (e++l) o,lft (a+b) (f e l)))).sum=(ls.map ((fun p:S × Int=>φ p.1 p.2) ∘ fun l=>(endOf (e++l) o,lft a (f e l)))).sum+(ls.map ((fun p:S × Int=>φ p.1 p.2) ∘ fun l=>(endOf (e++l) o,lft b (f e l)))).sum:=by
        intro ls
        induction ls with
        | nil=>intro _; rfl
        | cons x r ih =>
          intro hr
          have hx:=hr x (List.mem_cons_self ..)
          rw [List.map_cons,List.map_cons,List.map_cons,List.sum_cons,List.sum_cons,List.sum_cons,ih fun l hl=>hr l (List.mem_cons_of_mem _ hl)]
          have e1:φ (endOf (e++x) o) (lft (a+b) (f e x))=φ (endOf (e++x) o) (lft a (f e x))+φ (endOf (e++x) o) (lft b (f e x)):=by
            rw [lft_add (D:=U ^ (m+1)) (Int.dvd_trans (X.dv _ _ hx) ⟨U ^ m,by rw [Int.pow_succ,Int.mul_comm]⟩) ha]
            exact A.add _ _ _ (lft_dvd (X.dv _ _ hx) (X.pos _ _ hx) ha) (lft_dvd (X.dv _ _ hx) (X.pos _ _ hx) hb)
          show φ (endOf (e++x) o) (lft (a+b) (f e x))+_=φ (endOf (e++x) o) (lft a (f e x))+_+(φ (endOf (e++x) o) (lft b (f e x))+_)
          rw [e1]; omega
      exact go _ fun l hl=>inx hl
  have h1:=R.sum _ hpsi
  have e1:tots (fun e v=>tots φ (outs nx f o w (e,v))) ss=(ss.map fun p=>tots φ (outs nx f o w p)).sum:=rfl
  rw [← e1,h1]
  unfold wstep
  rw [tots_flat]
  show (L.map fun p=>tots φ (outs nx f o w (endOf p.1 o,p.2))).sum=_
  congr 1
  refine List.map_congr_left fun p hp=>?_
  unfold outs tots
  rw [List.map_map,List.map_map]
  congr 1
  refine List.map_congr_left fun l hl=>?_
  show φ (endOf (endOf p.1 o++l) o) _=φ (endOf (p.1++l) o) _
  rw [endOf_end]
theorem Rel.all {nx:S→List S}{f:S→S→Int × Int}{U:Int}{o:Nat} (X:Exact nx f U):∀ (pat:List S) (m:Nat) (ss L:List (S × Int)),Rel U o (m+pat.length) ss L→Rel U o m (pat.foldl (sstep nx f o) ss) (pat.foldl (wstep nx f o) L)
  | [],m,ss,L,R=>R
  | w::pat,m,ss,L,R=>by
    rw [List.foldl_cons,List.foldl_cons]
    exact Rel.all X pat m _ _ (R.step X w)
theorem Rel.start {U wt:Int}{o n:Nat} (h:U ^ n ∣ wt):Rel U o n [([],wt)] [([],wt)]:=by
  refine ⟨fun φ _=>?_,fun p hp=>?_,fun p hp=>?_⟩
  · simp [tots,endOf]
  · have:p=([],wt):=by simpa using hp
    rw [this]; exact h
  · have:p=([],wt):=by simpa using hp
    rw [this]; exact h
theorem Ss_Ws {nx:S→List S}{f:S→S→Int × Int}{U wt:Int}{o m:Nat} (X:Exact nx f U) (pat:List S) (h:U ^ (m+pat.length) ∣ wt):Rel U o m (Ss nx f o wt pat) (Ws nx f o wt pat):=Rel.all X pat m _ _ (Rel.start h)
theorem putA_sub {α:Type}{acc:List (S × α)}{e:S}{v:α}{k:S} (h:k∈(putA acc e v).map (·.1)):k∈acc.map (·.1)∨k=e:=by
  rw [putA_keys] at h
  split at h
  · exact .inl h
  · rcases List.mem_append.mp h with z | z
    · exact .inl z
    · exact .inr (by simpa using z)
theorem agg_keys_go:∀ (L acc:List (S × Int)),(acc.map (·.1)).Nodup→((L.foldl addA acc).map (·.1)).Nodup∧∀ k∈(L.foldl addA acc).map (·.1),k∈acc.map (·.1)∨k∈L.map (·.1)
  | [],acc,h=>⟨h,fun k hk=>.inl hk⟩
  | p::L,acc,h=>by
    obtain ⟨a,b⟩:=agg_keys_go L (addA acc p) (putA_nodup h)
    refine ⟨a,fun k hk=>?_⟩
    rcases b k hk with z | z
    · rcases putA_sub z with y | y
      · exact .inl y
      · exact .inr (by rw [List.map_cons,y]; exact List.mem_cons_self ..)
    · exact .inr (by rw [List.map_cons]; exact List.mem_cons_of_mem _ z)
theorem agg_keys (L:List (S × Int)):((agg L).map (·.1)).Nodup∧∀ k∈(agg L).map (·.1),k∈L.map (·.1):=by
  obtain ⟨a,b⟩:=agg_keys_go L [] (by simp)
  exact ⟨a,fun k hk=>(b k hk).elim (fun z=>by cases z) id⟩
end Kn
end
section
namespace Kn
theorem nd_le {α:Type} [DecidableEq α]:∀ (l L:List α),l.Nodup→(∀ x∈l,x∈L)→l.length≤L.length
  | [],L,_,_=>Nat.zero_le _
  | x::l,L,hn,hs=>by
    have hx:=hs x (List.mem_cons_self ..)
    have h1:=nd_le l (L.erase x) (List.nodup_cons.mp hn).2 fun y hy=>by
      have hne:y≠x:=fun z=>(List.nodup_cons.mp hn).1 (by rw [← z]; exact hy)
      exact (List.mem_erase_of_ne hne).mpr (hs y (List.mem_cons_of_mem _ hy))
    rw [List.length_erase_of_mem hx] at h1
    have h2:0 < L.length:=List.length_pos_of_mem hx
    rw [List.length_cons]; omega
theorem snoc_of {t:S} (h:t≠[]):∃ u c,t=u++[c]:=by
  rcases List.eq_nil_or_concat t with z | ⟨u,c,z⟩
  · exact absurd z h
  · exact ⟨u,c,by simpa using z⟩
theorem Tx_snoc (nx:S→List S) (o:Nat) (pat:List S) (w:S):Tx nx o (pat++[w])=step1 nx o (Tx nx o pat) w:=by
  unfold Tx; rw [List.foldl_append]; rfl
theorem Ws_snoc (nx:S→List S) (f:S→S→Int × Int) (o:Nat) (wt:Int) (pat:List S) (w:S):Ws nx f o wt (pat++[w])=wstep nx f o (Ws nx f o wt pat) w:=by
  unfold Ws; rw [List.foldl_append]; rfl
theorem Ss_snoc (nx:S→List S) (f:S→S→Int × Int) (o:Nat) (wt:Int) (pat:List S) (w:S):Ss nx f o wt (pat++[w])=sstep nx f o (Ss nx f o wt pat) w:=by
  unfold Ss; rw [List.foldl_append]; rfl
structure Lts (ps:List (S × S)) (nx:S→List S):Prop where
  nd:∀ e,(nx e).Nodup
  mem:∀ e l,l∈nx e↔(e,l)∈ps
def Ones (ps:List (S × S)):Prop:=∀ e l,(e,l)∈ps→l.length≤1
theorem mf_any {l:S}:mf [] l=true↔l≠[]:=by unfold mf; simp
theorem Tx_mem {ps:List (S × S)}{nx:S→List S} (N:Lts ps nx) (O1:Ones ps) (o:Nat):∀ (n:Nat) (t:S),t∈Tx nx o (List.replicate n [])↔t.length=n∧∀ q∈pp o t,q∈ps
  | 0,t=>by
    show t∈[[]]↔_
    constructor
    · intro h
      have:t=[]:=by simpa using h
      rw [this]; exact ⟨rfl,fun q hq=>by cases hq⟩
    · rintro ⟨h,_⟩
      rw [List.length_eq_zero_iff.mp h]; exact List.mem_singleton_self _
  | n+1,t=>by
    rw [List.replicate_succ',Tx_snoc]
    unfold step1
    rw [List.mem_flatMap]
    constructor
    · rintro ⟨u,hu,h⟩
      obtain ⟨l,hl,rfl⟩:=List.mem_map.mp h
      obtain ⟨h1,h2⟩:=(Tx_mem N O1 o n u).mp hu
      obtain ⟨h3,h4⟩:=List.mem_filter.mp hl
      have h5:=(N.mem _ _).mp h3
      obtain ⟨c,rfl⟩:=one_of (O1 _ _ h5) (mf_any.mp h4)
      refine ⟨by rw [List.length_append,h1]; rfl,fun q hq=>?_⟩
      rw [pp_snoc] at hq
      rcases List.mem_append.mp hq with z | z
      · exact h2 q z
      · have:q=(endOf u o,[c]):=by simpa using z
        rw [this]; exact h5
    · rintro ⟨h1,h2⟩
      have hne:t≠[]:=fun z=>by rw [z] at h1; cases h1
      obtain ⟨u,c,rfl⟩:∃ u c,t=u++[c]:=snoc_of hne
      rw [List.length_append,List.length_singleton] at h1
      rw [pp_snoc] at h2
      refine ⟨u,(Tx_mem N O1 o n u).mpr ⟨by omega,fun q hq=>h2 q (List.mem_append_left _ hq)⟩,List.mem_map.mpr ⟨[c],List.mem_filter.mpr ⟨(N.mem _ _).mpr (h2 _ (List.mem_append_right _ (List.mem_singleton_self _))),mf_any.mpr (by simp)⟩,rfl⟩⟩
theorem nodup_flat {α β:Type} (g:α→List β):∀ (L:List α),L.Nodup→(∀ a∈L,(g a).Nodup)→(∀ a∈L,∀ b∈L,∀ x,x∈g a→x∈g b→a=b)→(L.flatMap g).Nodup
  | [],_,_,_=>by simp
  | a::L,hn,h1,h2=>by
    rw [List.flatMap_cons]
    refine List.nodup_append.mpr ⟨h1 a (List.mem_cons_self ..),nodup_flat g L (List.nodup_cons.mp hn).2 (fun b hb=>h1 b (List.mem_cons_of_mem _ hb)) (fun b hb c hc=>h2 b (List.mem_cons_of_mem _ hb) c (List.mem_cons_of_mem _ hc)),fun x hx y hy e=>?_⟩
    subst e
    obtain ⟨b,hb,hxb⟩:=List.mem_flatMap.mp hy
    have:=h2 a (List.mem_cons_self ..) b (List.mem_cons_of_mem _ hb) x hx hxb
    rw [this] at hn
    exact (List.nodup_cons.mp hn).1 hb
theorem app_one {u v:S}{c d:Nat} (h:u++[c]=v++[d]):u=v∧c=d:=by
  have:=List.append_inj' h rfl
  exact ⟨this.1,by simpa using this.2⟩
theorem Tx_nodup {ps:List (S × S)}{nx:S→List S} (N:Lts ps nx) (O1:Ones ps) (o:Nat):∀ (n:Nat),(Tx nx o (List.replicate n [])).Nodup
  | 0=>by show ([[]]:List S).Nodup; simp
  | n+1=>by
    rw [List.replicate_succ',Tx_snoc]
    unfold step1
    have one:∀ (u l:S),l∈(nx (endOf u o)).filter (mf [])→∃ c,l=[c]:=fun u l hl=>by
      obtain ⟨h3,h4⟩:=List.mem_filter.mp hl
      exact one_of (O1 _ _ ((N.mem _ _).mp h3)) (mf_any.mp h4)
    refine nodup_flat _ _ (Tx_nodup N O1 o n) (fun u _=>?_) (fun u _ v _ x hx hy=>?_)
    · refine List.Pairwise.map _ (fun a b hab z=>hab (List.append_cancel_left z)) ((N.nd _).filter _)
    · obtain ⟨l,hl,rfl⟩:=List.mem_map.mp hx
      obtain ⟨l',hl',e⟩:=List.mem_map.mp hy
      obtain ⟨c,rfl⟩:=one u l hl
      obtain ⟨d,rfl⟩:=one v l' hl'
      exact (app_one e).1.symm
def Made (ps:List (S × S)) (o n:Nat) (x:S):Prop:=x.length=n∧∀ q∈pairs1 o x,q∈ps
theorem made_iff {ps:List (S × S)}{nx:S→List S} (N:Lts ps nx) (O1:Ones ps) (o n:Nat) (x:S):Made ps o n x↔x∈(Tx nx o (List.replicate n [])).filter fun t=>decide ((endOf t o,[])∈ps):=by
  rw [List.mem_filter,Tx_mem N O1]
  unfold Made
  rw [pairs1_pp]
  constructor
  · rintro ⟨h1,h2⟩
    exact ⟨⟨h1,fun q hq=>h2 q (List.mem_append_left _ hq)⟩,decide_eq_true (h2 _ (List.mem_append_right _ (List.mem_singleton_self _)))⟩
  · rintro ⟨⟨h1,h2⟩,h3⟩
    refine ⟨h1,fun q hq=>?_⟩
    rcases List.mem_append.mp hq with z | z
    · exact h2 q z
    · have:q=(endOf x o,[]):=by simpa using z
      rw [this]; exact of_decide_eq_true h3
def Wt (f:S→S→Int × Int) (o:Nat) (wt:Int) (t:S):Int:=(pp o t).foldl (fun w q=>lft w (f q.1 q.2)) wt
theorem Ws_eq {ps:List (S × S)}{nx:S→List S} (N:Lts ps nx) (O1:Ones ps) (f:S→S→Int × Int) (o:Nat) (wt:Int):∀ n,Ws nx f o wt (List.replicate n [])=(Tx nx o (List.replicate n [])).map fun t=>(t,Wt f o wt t)
  | 0=>rfl
  | n+1=>by
    rw [List.replicate_succ',Ws_snoc,Tx_snoc,Ws_eq N O1 f o wt n]
    unfold wstep step1
    rw [List.flatMap_map,List.map_flatMap]
    refine congrArg (fun g=>List.flatMap g (Tx nx o (List.replicate n []))) ?_
    funext t
    rw [List.map_map]
    refine List.map_congr_left fun l hl=>?_
    obtain ⟨h3,h4⟩:=List.mem_filter.mp hl
    obtain ⟨c,rfl⟩:=one_of (O1 _ _ ((N.mem _ _).mp h3)) (mf_any.mp h4)
    show (t++[c],_)=(t++[c],Wt f o wt (t++[c]))
    unfold Wt
    rw [pp_snoc,List.foldl_append]; rfl
theorem count_one {α:Type} [DecidableEq α] {l:List α}{a:α} (h:l.Nodup) (ha:a∈l):l.count a=1:=by
  have h1:=List.nodup_iff_count.mp h a
  have h2:=List.count_pos_iff.mpr ha
  omega
theorem perm_of {α:Type} [DecidableEq α] {l m:List α} (h1:l.Nodup) (h2:m.Nodup) (h:∀ x,x∈l↔x∈m):l.Perm m:=by
  refine (List.perm_iff_count).mpr fun a=>?_
  by_cases ha:a∈l
  · rw [count_one h1 ha,count_one h2 ((h a).mp ha)]
  · rw [List.count_eq_zero_of_not_mem ha,List.count_eq_zero_of_not_mem fun z=>ha ((h a).mpr z)]
theorem sum_filter {α:Type} (c:α→Bool) (g:α→Int):∀ L:List α,(∀ a∈L,c a=false→g a=0)→(L.map g).sum=((L.filter c).map g).sum
  | [],_=>rfl
  | a::L,h=>by
    have ih:=sum_filter c g L fun b hb=>h b (List.mem_cons_of_mem _ hb)
    rw [List.map_cons,List.sum_cons,ih]
    cases e:c a with
    | true=>rw [List.filter_cons_of_pos e,List.map_cons,List.sum_cons]
    | false=>rw [List.filter_cons_of_neg (by rw [e]; decide),h a (List.mem_cons_self ..) e]; omega
theorem Wt_one (o:Nat) (t:S):Wt (fun _ _=>(1,1)) o 1 t=1:=by
  unfold Wt
  have:∀ qs:List (S × S),qs.foldl (fun w q=>lft w ((fun _ _=>((1:Int),(1:Int))) q.1 q.2)) 1=1:=by
    intro qs
    induction qs with
    | nil=>rfl
    | cons q qs ih=>rw [List.foldl_cons]; exact ih
  exact this _
theorem all_count {ps:List (S × S)}{nx:S→List S} (N:Lts ps nx) (O1:Ones ps) {o n:Nat}{M:List S} (hM:M.Nodup) (hm:∀ x,x∈M↔Made ps o n x) :
    tots (fun e h=>lft h (if (e,[])∈ps then (1,1) else (0,1))) (Ss nx (fun _ _=>(1,1)) o 1 (List.replicate n []))=(M.length:Int):=by
  have X:Exact nx (fun _ _=>(1,1)) 1:=⟨fun e l _=>Int.dvd_refl _,fun e l _=>by decide⟩
  have R:Rel 1 o 0 (Ss nx (fun _ _=>(1,1)) o 1 (List.replicate n [])) (Ws nx (fun _ _=>(1,1)) o 1 (List.replicate n [])):=Ss_Ws X _ (by rw [Int.one_pow]; exact Int.dvd_refl _)
  have one:∀ (e:S),(if (e,[])∈ps then ((1:Int),(1:Int)) else (0,1)).2 ∣ (1:Int):=fun e=>by split <;> exact Int.dvd_refl _
  rw [R.sum _ ⟨fun e=>lft_zero _,fun e a b ha hb=>lft_add (D:=1 ^ 0) (by rw [Int.one_pow]; exact one e) ha⟩,Ws_eq N O1]
  show (((Tx nx o (List.replicate n [])).map fun t=>(t,Wt (fun _ _=>(1,1)) o 1 t)).map fun p=>lft p.2 (if (endOf p.1 o,[])∈ps then (1,1) else (0,1))).sum=_
  rw [List.map_map]
  have e1:((fun p:S × Int=>lft p.2 (if (endOf p.1 o,[])∈ps then (1,1) else (0,1))) ∘ fun t=>(t,Wt (fun _ _=>(1,1)) o 1 t))=fun t=>if (endOf t o,[])∈ps then (1:Int) else 0:=by
    funext t
    show lft (Wt (fun _ _=>(1,1)) o 1 t) (if (endOf t o,[])∈ps then (1,1) else (0,1))=_
    rw [Wt_one]
    split <;> rfl
  rw [e1,sum_filter (fun t=>decide ((endOf t o,[])∈ps)) _ _ fun t _ h=>if_neg (of_decide_eq_false h)]
  have e2:∀ L:List S,((L.filter fun t=>decide ((endOf t o,[])∈ps)).map fun t=>if (endOf t o,[])∈ps then (1:Int) else 0).sum=((L.filter fun t=>decide ((endOf t o,[])∈ps)).length:Int):=by
    intro L
    induction L with
    | nil=>rfl
    | cons t L ih =>
      by_cases c:(endOf t o,[])∈ps
      · rw [List.filter_cons_of_pos (by simpa using c),List.map_cons,List.sum_cons,ih,if_pos c,List.length_cons]
        have:∀ k:Nat,(1:Int)+(k:Int)=((k+1:Nat):Int):=fun k=>by omega
        exact this _
      · rw [List.filter_cons_of_neg (by simpa using c),ih]
  rw [e2]
  have:=(perm_of ((Tx_nodup N O1 o n).filter _) hM fun x=>by rw [← made_iff N O1,hm]).length_eq
  rw [this]
def Cl (ps:List (S × S)) (o:Nat):Nat→S→Prop
  | 0,e=>(e,[])∈ps
  | k+1,e=>∃ l,l≠[]∧(e,l)∈ps∧Cl ps o k (endOf (e++l) o)
structure AllT (ps:List (S × S)) (o n i:Nat) (A:List S):Prop where
  ris:A.Pairwise (· < ·)
  snd:∀ t∈A,t.length=i∧(∀ q∈pp o t,q∈ps)∧(0 < i→Cl ps o (n - i) (endOf t o))
  cmp:∀ t,t.length=i→(∀ q∈pp o t,q∈ps)→Cl ps o (n - i) (endOf t o)→t∈A
theorem lt_app:∀ {a b:S} (x y:S),a.length=b.length→a < b→a++x < b++y
  | [],[],x,y,_,h=>absurd h (List.lt_irrefl _)
  | c::a,d::b,x,y,hl,h=>by
    rw [List.cons_append,List.cons_append]
    rw [List.cons_lt_cons_iff] at h ⊢
    rcases h with h | ⟨h1,h2⟩
    · exact .inl h
    · exact .inr ⟨h1,lt_app x y (by simpa using hl) h2⟩
theorem app_lt:∀ (a:S) {x y:S},x < y→a++x < a++y
  | [],x,y,h=>h
  | c::a,x,y,h=>by
    rw [List.cons_append,List.cons_append,List.cons_lt_cons_iff]
    exact .inr ⟨rfl,app_lt a h⟩
theorem ris_flat (lt:S→List S):∀ (A:List S),A.Pairwise (· < ·)→(∀ a∈A,∀ b∈A,a.length=b.length)→(∀ a∈A,(lt a).Pairwise (· < ·))→(A.flatMap fun t=>(lt t).map (t++·)).Pairwise (· < ·)
  | [],_,_,_=>by simp
  | a::A,h1,h2,h3=>by
    rw [List.flatMap_cons,List.pairwise_append]
    refine ⟨List.Pairwise.map _ (fun x y h=>app_lt a h) (h3 a (List.mem_cons_self ..)),ris_flat lt A (List.pairwise_cons.mp h1).2 (fun x hx y hy=>h2 x (List.mem_cons_of_mem _ hx) y (List.mem_cons_of_mem _ hy)) (fun x hx=>h3 x (List.mem_cons_of_mem _ hx)),fun x hx y hy=>?_⟩
    obtain ⟨l,_,rfl⟩:=List.mem_map.mp hx
    obtain ⟨b,hb,hy2⟩:=List.mem_flatMap.mp hy
    obtain ⟨l',_,rfl⟩:=List.mem_map.mp hy2
    exact lt_app l l' (h2 a (List.mem_cons_self ..) b (List.mem_cons_of_mem _ hb)) ((List.pairwise_cons.mp h1).1 b hb)
theorem AllT.start (ps:List (S × S)) (o n:Nat):AllT ps o n 0 [[]]:=by
  refine ⟨by simp,fun t ht=>?_,fun t ht _ _=>?_⟩
  · have:t=[]:=by simpa using ht
    rw [this]; exact ⟨rfl,(fun q hq=>by cases hq),fun h=>absurd h (Nat.lt_irrefl _)⟩
  · rw [List.length_eq_zero_iff.mp ht]; exact List.mem_singleton_self _
theorem AllT.step {ps:List (S × S)}{o n i:Nat}{A:List S} (O1:Ones ps) (h:AllT ps o n i A) (hi:i < n) (lt:S→List S) (h1:∀ t∈A,(lt (endOf t o)).Pairwise (· < ·)) (h2:∀ t∈A,∀ l,l∈lt (endOf t o)↔l≠[]∧(endOf t o,l)∈ps∧Cl ps o (n - (i+1)) (endOf (endOf t o++l) o)) :
    AllT ps o n (i+1) (A.flatMap fun t=>(lt (endOf t o)).map (t++·)):=by
  refine ⟨ris_flat (fun t=>lt (endOf t o)) A h.ris (fun a ha b hb=>by rw [(h.snd a ha).1,(h.snd b hb).1]) h1,fun t ht=>?_,fun t g1 g2 g3=>?_⟩
  · obtain ⟨u,hu,hx⟩:=List.mem_flatMap.mp ht
    obtain ⟨l,hl,rfl⟩:=List.mem_map.mp hx
    obtain ⟨g1,g2,g3⟩:=h.snd u hu
    obtain ⟨k1,k2,k3⟩:=(h2 u hu l).mp hl
    obtain ⟨c,rfl⟩:=one_of (O1 _ _ k2) k1
    rw [endOf_end] at k3
    refine ⟨by rw [List.length_append,g1]; rfl,fun q hq=>?_,fun _=>k3⟩
    rw [pp_snoc] at hq
    rcases List.mem_append.mp hq with z | z
    · exact g2 q z
    · have:q=(endOf u o,[c]):=by simpa using z
      rw [this]; exact k2
  · have hne:t≠[]:=fun z=>by rw [z] at g1; cases g1
    obtain ⟨u,c,rfl⟩:∃ u c,t=u++[c]:=snoc_of hne
    rw [List.length_append,List.length_singleton] at g1
    rw [pp_snoc] at g2
    have hp:(endOf u o,[c])∈ps:=g2 _ (List.mem_append_right _ (List.mem_singleton_self _))
    have g4:Cl ps o (n - (i+1)) (endOf (endOf u o++[c]) o):=by rw [endOf_end]; exact g3
    have hu:u∈A:=h.cmp u (by omega) (fun q hq=>g2 q (List.mem_append_left _ hq)) (by
      rw [show n - i=(n - (i+1))+1 by omega]
      exact ⟨[c],by simp,hp,g4⟩)
    exact List.mem_flatMap.mpr ⟨u,hu,List.mem_map.mpr ⟨[c],(h2 u hu [c]).mpr ⟨by simp,hp,g4⟩,rfl⟩⟩
theorem AllT.made {ps:List (S × S)}{o n:Nat}{A:List S} (h:AllT ps o n n A) (hn:0 < n):A.Nodup∧∀ x,x∈A↔Made ps o n x:=by
  refine ⟨h.ris.imp fun {a b} z e=>by rw [e] at z; exact List.lt_irrefl _ z,fun x=>?_⟩
  unfold Made
  rw [pairs1_pp]
  constructor
  · intro hx
    obtain ⟨h1,h2,h3⟩:=h.snd x hx
    have h3:=h3 hn
    rw [Nat.sub_self] at h3
    refine ⟨h1,fun q hq=>?_⟩
    rcases List.mem_append.mp hq with z | z
    · exact h2 q z
    · have:q=(endOf x o,[]):=by simpa using z
      rw [this]; exact h3
  · rintro ⟨h1,h2⟩
    refine h.cmp x h1 (fun q hq=>h2 q (List.mem_append_left _ hq)) ?_
    rw [Nat.sub_self]
    exact h2 _ (List.mem_append_right _ (List.mem_singleton_self _))
end Kn
end
section
namespace Kn.Ln
open PySem L2 Kn
theorem str_mk {K:PySem.W.Frag}{x z:Str}{t:Tok} (h:PySem.W.nsIn K mainGlobals x=some (some (.str z t))):∃ t,PySem.W.nsIn K mainGlobals x=some (some (.str z t)):=⟨t,h⟩
def SameX (f:Addr) (H H':Hp):Prop:=∀ b u,b≠f→H b=some u→H' b=some u
theorem SameX.refl {f:Addr} (H:Hp):SameX f H H:=fun b u _ h=>h
theorem SameX.updf {f:Addr}{H H':Hp}{u:HO} (s:SameX f H H'):SameX f H (upd H' f u):=fun b v hb e=>by rw [upd_ne hb]; exact s b v hb e
theorem SameX.trans {f:Addr}{H H' H'':Hp} (s:SameX f H H') (t:SameX f H' H''):SameX f H H'':=fun b v hb e=>t b v hb (s b v hb e)
theorem SameX.of {f:Addr}{H H':Hp} (s:Same H H'):SameX f H H':=fun b v _ e=>s b v e
theorem SameX.seqT {K:PySem.W.Frag}{f:Addr}{H H':Hp}{a:Addr}{xs:List V} (s:SameX f H H') (hf:∀ ys,¬ Rd H f (.tup ys)) (h:SqT K H a xs):SqT K H' a xs:=by
  rcases h with h | h
  · have hb:a≠f:=fun z=>by subst z; exact hf _ h
    rcases h with h | ⟨o,h⟩
    · exact .inl (.inl (s _ _ hb h))
    · exact .inl (.inr ⟨o,s _ _ hb h⟩)
  · exact .inr h
theorem SameX.frA {K:PySem.W.Frag}{f:Addr}{H H':Hp}{v:V}{q:Int × Int} (s:SameX f H H') (hf:∀ ys,¬ Rd H f (.tup ys)) (h:FrA K H v q):FrA K H' v q:=by
  obtain ⟨a,rfl,h⟩:=h
  exact ⟨a,rfl,s.seqT hf h⟩
theorem notTup {H:Hp}{f:Addr}{kvs:List (Key × V)} (h:H f=some (.dK kvs)):∀ ys,¬ Rd H f (.tup ys):=fun ys z=>by
  rcases z with z | ⟨o,z⟩ <;> rw [h] at z <;> cases z
abbrev nxOf (ps:List (S × S)) (e:S):List S:=(rowOf ps e).map (·.1)
theorem nxOf_mem (ps:List (S × S)) (e l:S):l∈nxOf ps e↔(e,l)∈ps:=by
  constructor
  · intro h
    obtain ⟨⟨l',n⟩,h1,rfl⟩:=List.mem_map.mp h
    obtain ⟨h2,h3⟩:=(rowOf_mem ps e l' n).mp h1
    have h4:0 < ps.count (e,l'):=by rw [h2] at h3; omega
    exact List.count_pos_iff.mp h4
  · intro h
    exact List.mem_map.mpr ⟨(l,(ps.count (e,l):Int)),(rowOf_mem ps e l _).mpr ⟨rfl,by have:=List.count_pos_iff.mpr h; omega⟩,rfl⟩
theorem lts (ps:List (S × S)):Lts ps (nxOf ps):=⟨fun e=>rowOf_nd ps e,fun e l=>nxOf_mem ps e l⟩
theorem ones_B (o:Nat) (bk:List S):Ones (pairsB o bk):=fun e l h=>pairB_one h
theorem row_len (ps:List (S × S)) (e:S):(rowOf ps e).length≤ps.length:=by
  have h1:=nd_le (nxOf ps e) (ps.map (·.2)) (rowOf_nd _ _) fun l hl=>List.mem_map.mpr ⟨_,(nxOf_mem _ _ _).mp hl,rfl⟩
  rw [List.length_map,List.length_map] at h1
  exact h1
end Kn.Ln
end
section
namespace Kn.Ln
open PySem L2 Kn
theorem inV_bkL (x:S) (l:List S):inV (sv x) (bkV l)=decide (x∈l):=by
  unfold inV bkV
  rw [List.any_map]
  induction l with
  | nil=>simp
  | cons y l ih =>
    rw [List.any_cons,ih]
    have e:eqV (sv y) (sv x)=decide (x=y):=by
      show ((tx y) == (tx x))=_
      by_cases z:x=y
      · subst z; simp
      · rw [decide_eq_false z,beq_eq_false_iff_ne]
        exact fun q=>z (tx_inj q).symm
    show (eqV (sv y) (sv x) || _)=_
    rw [e]
    by_cases z:x=y
    · subst z; simp
    · simp [z]
theorem flat_bkL (l:List S):(bkV l).all flatV=true:=by
  unfold bkV
  rw [List.all_map]
  exact List.all_eq_true.mpr fun _ _=>rfl
theorem ys1L {ys:St} (h:ys.length=1):∃ y,ys=[y]:=by
  match ys,h with
  | [y],_=>exact ⟨y,rfl⟩
def PartRow (K:PySem.W.Frag) (H:Hp) (pd:Addr) (ps:List (S × S)) (f:S→S→Int × Int) (r:S × Addr × List (S × V)):Prop :=
  r.2.1≠pd∧H r.2.1=some (.dK (encD id r.2.2))∧r.2.2.map (·.1)=nxOf ps r.1∧∀ q∈r.2.2,FrA K H q.2 (f r.1 q.1)
def PartsAt (K:PySem.W.Frag) (H:Hp) (pd:Addr) (ps:List (S × S)) (f:S→S→Int × Int):Prop:=∃ pa:List (S × Addr × List (S × V)),pa.map (·.1)=(rowsOf ps).map (·.1)∧H pd=some (.dK (encD (fun v:Addr × List (S × V)=>V.ref v.1) pa))∧∀ r∈pa,PartRow K H pd ps f r
theorem PartRow.same {K:PySem.W.Frag}{H H':Hp}{pd:Addr}{ps:List (S × S)}{f:S→S→Int × Int}{r:S × Addr × List (S × V)} (h:PartRow K H pd ps f r) (e:Same H H'):PartRow K H' pd ps f r :=
  ⟨h.1,e _ _ h.2.1,h.2.2.1,fun q hq=>(h.2.2.2 q hq).same e⟩
theorem PartsAt.same {K:PySem.W.Frag}{H H':Hp}{pd:Addr}{ps:List (S × S)}{f:S→S→Int × Int} (h:PartsAt K H pd ps f) (e:Same H H'):PartsAt K H' pd ps f:=by
  obtain ⟨pa,h1,h2,h3⟩:=h
  exact ⟨pa,h1,e _ _ h2,fun r hr=>(h3 r hr).same e⟩
theorem PartRow.sameX {K:PySem.W.Frag}{H H':Hp}{pd:Addr}{ps:List (S × S)}{f:S→S→Int × Int}{r:S × Addr × List (S × V)} (h:PartRow K H pd ps f r) (hd:∀ ys,¬ Rd H pd (.tup ys)) (e:SameX pd H H'):PartRow K H' pd ps f r :=
  ⟨h.1,e _ _ h.1 h.2.1,h.2.2.1,fun q hq=>e.frA hd (h.2.2.2 q hq)⟩
theorem row_is {ps:List (S × S)}{ra:List (S × Addr × List (S × Int))} (h:ra.map (fun r=>(r.1,r.2.2))=rowsOf ps) {r:S × Addr × List (S × Int)} (hr:r∈ra):r.2.2=rowOf ps r.1:=by
  have h1:(r.1,r.2.2)∈rowsOf ps:=by rw [← h]; exact List.mem_map.mpr ⟨r,hr,rfl⟩
  have h2:=(getA_mem (rows_ok ps).nd _ _).mp h1
  unfold rowOf
  rw [h2]; rfl
theorem keys_len {ps:List (S × S)}:(rowsOf ps).length≤ps.length:=by
  have h1:=nd_le ((rowsOf ps).map (·.1)) (ps.map (·.1)) (rows_ok ps).nd fun e he=>by
    obtain ⟨⟨e',row⟩,h2,rfl⟩:=List.mem_map.mp he
    obtain ⟨l,hl⟩:=((rows_ok ps).has e').mp ⟨row,(getA_mem (rows_ok ps).nd _ _).mp h2⟩
    exact List.mem_map.mpr ⟨_,hl,rfl⟩
  rw [List.length_map,List.length_map] at h1
  exact h1
theorem enc_ne {ra:List (S × Addr × List (S × Int))}{row:List (S × Int)} (h:encD (fun v:Addr × List (S × Int)=>V.ref v.1) ra=rowV row):ra=[]:=by
  cases ra with
  | nil=>rfl
  | cons r ra =>
    cases row with
    | nil=>cases h
    | cons q row =>
      have h1:=(List.cons.inj h).1
      have h2:V.ref r.2.1=V.int q.2:=(Prod.mk.inj h1).2
      cases h2
theorem row_ne {H:Hp}{d:Addr}{ra:List (S × Addr × List (S × Int))} (hd:H d=some (.dK (encD (fun v:Addr × List (S × Int)=>V.ref v.1) ra))) (h3:∀ r∈ra,H r.2.1=some (.dK (rowV r.2.2))):∀ r∈ra,r.2.1≠d:=fun r hr z=>by
  have h:=h3 r hr
  rw [z,hd] at h
  have:=enc_ne (HO.dK.inj (Option.some.inj h))
  rw [this] at hr; cases hr
section
variable {P:Program}{w:World}{K:PySem.W.Frag}{mg:Str→Option Value}{base:Heap}
abbrev sLeft:Stmt:=top 52
theorem scLeft:FnScope ["weight", "part"] ["weight", "part"] (defScope sLeft):=⟨rfl,rfl,rfl,by decide +kernel,rfl,by decide +kernel,by decide +kernel⟩
def spLeft (K:PySem.W.Frag):Sp:=fun vs H Q _=>∃ (x:Int) (v:V) (q:Int × Int),vs=[.int x,v]∧FrA K H v q∧0≤q.1∧q.1 < 1000000∧0 < q.2∧q.2 < 1000000∧Q (.int (lft x q)) H
theorem ok_left {f:Addr}{fd:FuncData} (F:Fun K "left_of" "left_of" sLeft f fd):FnOk P w K mg base CX0 1 f fd ["weight", "part"] (spLeft K):=by
  refine F.ok scLeft (fun vs H Q E h=>?_) (fun cdv A outer s H vs Q E hr h=>?_)
  · obtain ⟨x,v,q,rfl,_⟩:=h; rfl
  · obtain ⟨x,v,q,rfl,⟨a,rfl,ha⟩,h1,h2,h3,h4,k⟩:=h
    refine ⟨_,pss_one (ps_ret (pe_op op_fdiv (pe_op op_mul (pv 0) (pe_ix ix_tup (pv 1) pe_int (fun _ _=>rfl))) (pe_ix ix_tup (pv 1) pe_int (fun _ _=>rfl)))),?_⟩
    exact ⟨_,rfl,_,rfl,a,_,0,_,rfl,rfl,ha,rfl,_,_,rfl,rfl,.inr ⟨by omega,by omega⟩,_,rfl,a,_,1,_,rfl,rfl,ha,rfl,_,_,rfl,rfl,⟨h3,by omega⟩,k⟩
abbrev sFollow:Stmt:=top 53
theorem scFollow:FnScope ["letter", "wanted"] ["letter", "wanted"] (defScope sFollow):=⟨rfl,rfl,rfl,by decide +kernel,rfl,by decide +kernel,by decide +kernel⟩
def spFollow:Sp:=fun vs H Q _=>∃ (l x:S),vs=[sv l,sv x]∧∀ H',Same H H'→Q (.bl (mf x l)) H'
theorem ok_follow {f:Addr}{fd:FuncData} (F:Fun K "may_follow" "may_follow" sFollow f fd) (hA:∃ t,mg "ANY" = some (.str "" t)):FnOk P w K mg base CX0 1 f fd ["letter", "wanted"] spFollow:=by
  obtain ⟨u,hA⟩:=hA
  refine F.ok scFollow (fun vs H Q E h=>?_) (fun cdv A outer s H vs Q E hr h=>?_)
  · obtain ⟨x,v,rfl,_⟩:=h; rfl
  · obtain ⟨l,x,rfl,k⟩:=h
    refine ⟨_,pss_one (ps_ret (pe_and (pe_cmpR op_ne (pv 0) pe_str (nomark _)) (pe_one (pe_cmpR op_in_seq (pv 1) (pe_tup (pa_cons (pe_glob (v:=.str "") (by rfl) hA ⟨_,rfl⟩) (pa_cons (pv 0) pa_nil))) (by with_unfolding_all rfl))))),?_⟩
    refine ⟨_,rfl,rfl,_,rfl,?_⟩
    by_cases hl:l=[]
    · subst hl
      refine iteNS rfl ?_
      have e:mf x []=false:=by unfold mf; simp
      have:=k H (Same.refl H)
      rw [e] at this
      exact this
    · have hne:¬ V.str (tx l)=V.str "" := fun z=>hl (tx_inj (V.str.inj z))
      refine ite_nn hne ⟨_,rfl,_,rfl,by show 2≤sizeLine; decide,fun p hp=>⟨p,bkV [[],l],rfl,.inr (.of upd_same),rfl,flat_bkL _,?_⟩⟩
      have e:(if false=true then !inV (sv x) (bkV [[],l]) else inV (sv x) (bkV [[],l]))=mf x l:=by
        rw [if_neg (by simp),inV_bkL]
        unfold mf
        rw [decide_eq_true hl,Bool.true_and]
        by_cases h1:x=[]
        · subst h1; simp
        · by_cases h2:x=l
          · subst h2; simp
          · simp [h1,h2]
      show Q (.bl (if false=true then !inV (sv x) (bkV [[],l]) else inV (sv x) (bkV [[],l]))) _
      rw [e]
      exact k _ (Same.upd1 hp)
abbrev sEven:Stmt:=top 51
theorem scEven:FnScope ["rows", "parts", "end", "row"] ["rows"] (defScope sEven):=⟨rfl,rfl,rfl,by decide +kernel,rfl,by decide +kernel,by decide +kernel⟩
theorem ndEv:(["letter"]:List Str).Nodup:=by decide +kernel
def spEven (K:PySem.W.Frag):Sp:=fun vs H Q _=>∃ (d:Addr) (ps:List (S × S)),vs=[.ref d]∧RowsAt H d ps∧ps.length < 900∧∀ pd H',Same H H'→H pd=none→PartsAt K H' pd ps (fun _ _=>(1,1))→Q (.ref pd) H'
theorem row_key {row:List (S × Int)}{i:Nat}{x:V} (h:((rowV row).map fun p=>kV p.1)[i]?=some x):∃ (hi:i < row.length),x=sv row[i].1:=by
  unfold rowV encD encK at h
  rw [List.getElem?_map,List.getElem?_map,List.getElem?_map] at h
  cases e:row[i]? with
  | none=>rw [e] at h; cases h
  | some q =>
    rw [e] at h
    obtain ⟨hi,e2⟩:=List.getElem?_eq_some_iff.mp e
    refine ⟨hi,?_⟩
    rw [e2]
    exact (Option.some.inj h).symm
theorem encD_id (kv:List (S × V)):encK (kv.map fun q=>(tx q.1,q.2))=encD id kv:=rfl
theorem ok_even {f:Addr}{fd:FuncData} (F:Fun K "even_parts" "even_parts" sEven f fd) (C:Cst2 K mg) (hdi:mg "dict" = none):FnOk P w K mg base CX0 1 f fd ["rows"] (spEven K):=by
  obtain ⟨aW,hW,tW⟩:=C.whole
  refine F.ok scEven (fun vs H Q E h=>?_) (fun cdv A outer s H vs Q E hr h=>?_)
  · obtain ⟨d,ps,rfl,_⟩:=h; rfl
  · obtain ⟨d,ps,rfl,⟨ra,r1,r2,r3⟩,hps,k⟩:=h
    have hu:=hu_of hr
    have nd:=scEven.nd
    refine ⟨_,pss_cons (ps_set (i:=1) nd rfl (Or.inl rfl) pe_dnewK)
      (pss_cons (ps_thaw (ps_for PassesOwn.never rfl (pi_items (pe_bm0K K rfl PySem.F.plainAttrs_dict PySem.F.slot_dict_items PySem.F.type_dict_items mt_items (pv 0)))
          (pg_tup rfl (pgs_cons (pg_name (i:=2) nd rfl (Or.inl rfl)) (pgs_cons (pg_name (i:=3) nd rfl (Or.inl rfl)) pgs_nil)))
          (pss_one (ps_dput hu (pv 1) (pv 2) (pe_callTy (call_dictL rfl) (by rfl) hdi PyProof.Rows.boot_dict (pa_cons
            (pe_thaw (pe_comp (N:=["letter"]) (caps:=[]) rfl (compScope_of (by kernel_rfl)) (pi_dict (pv 3)) (fun cl X s H ex=>pg_name (i:=0) ndEv rfl (Or.inl rfl)) (fun cl X s H ex=>pf_nil) (fun cl X s H ex=>pe_tup (pa_cons (pv 0) (pa_cons (pe_glob (v:=.ref aW) (by rfl) hW rfl) pa_nil))))) pa_nil)) rfl))))
      (pss_one (ps_ret (pv 1)))),?_⟩
    intro pd hpd
    have sH1:Same H (upd H pd (.dK [])):=Same.upd1 hpd
    have hd1:=sH1 _ _ r2
    have hdpd:pd≠d:=(ne_of_none r2 hpd).symm
    refine ⟨d,_,hd1,?_⟩
    refine ⟨_,rfl,.inr (.inr (.inl ⟨rfl,.inl ⟨_,hd1⟩⟩)),d,_,rfl,rfl,hd1,fun p hp=>?_⟩
    have hp0:H p=none:=sH1.free hp
    have hppd:p≠pd:=fun z=>by subst z; rw [upd_same] at hp; cases hp
    have sH2:Same (upd H pd (.dK [])) (upd (upd H pd (.dK [])) p (VW p d)):=Same.upd1 hp
    refine ⟨p,d,_,rfl,upd_same,sH2 _ _ hd1,fun ob=>?_⟩
    generalize hkv:encD (fun v:Addr × List (S × Int)=>V.ref v.1) ra=kvs at r2 hd1
    generalize hH3:upd (upd (upd H pd (.dK [])) p (VW p d)) d (.frz ob (.dK kvs))=H3
    have s3:Same (upd H d (.frz ob (.dK kvs))) H3:=fun b u e=>by
      rw [← hH3]
      by_cases hb:b=d
      · subst hb; rw [upd_same] at e ⊢; exact e
      · rw [upd_ne hb] at e ⊢
        exact sH2 _ _ (sH1 _ _ e)
    have hpd3:H3 pd=some (.dK (encD (fun v:Addr × List (S × V)=>V.ref v.1) [])):=by
      rw [← hH3,upd_ne hdpd,upd_ne hppd.symm,upd_same]; rfl
    have hpd0:upd H d (.frz ob (.dK kvs)) pd=none:=by rw [upd_ne hdpd]; exact hpd
    have rne:=row_ne (by rw [hkv]; exact r2) r3
    have ral:ra.length≤ps.length:=by
      have h1:=keys_len (ps:=ps)
      rw [← r1,List.length_map] at h1; exact h1
    refine for_items (fun i σ H'=>(∃ x2 x3:Option V,σ=[some (.ref d),some (.ref pd),x2,x3])∧Same (upd H d (.frz ob (.dK kvs))) H'∧∃ pa:List (S × Addr × List (S × V)),H' pd=some (.dK (encD (fun v:Addr × List (S × V)=>V.ref v.1) pa))∧pa.map (·.1)=(ra.take i).map (·.1)∧∀ r∈pa,PartRow K H' pd ps (fun _ _=>(1,1)) r)
      ⟨⟨_,_,rfl⟩,s3,[],hpd3,rfl,fun r hr=>by cases hr⟩ (fun i σ H' _ h=>h.2.1 _ _ upd_same) ?_ ?_
    · rintro i q T σ H' Nx hN hq ⟨⟨x2,x3,rfl⟩,sm,pa,hpa,hpk,hpr⟩ hT
      rw [← hkv] at hq
      unfold encD encK at hq
      rw [List.getElem?_map,List.getElem?_map] at hq
      cases ei:ra[i]? with
      | none=>rw [ei] at hq; cases hq
      | some r0 =>
      rw [ei] at hq
      have hq2:q=(Sum.inr (tx r0.1),V.ref r0.2.1):=(Option.some.inj hq).symm
      subst hq2
      have hmem:r0∈ra:=List.mem_of_getElem? ei
      have hi:i < ra.length:=(List.getElem?_eq_some_iff.mp ei).1
      have etk:ra.take (i+1)=ra.take i++[r0]:=by rw [List.take_succ_eq_append_getElem hi,(List.getElem?_eq_some_iff.mp ei).2]
      have hrow:=row_is r1 hmem
      have h0r:upd H d (.frz ob (.dK kvs)) r0.2.1=some (.dK (rowV r0.2.2)):=by rw [upd_ne (rne r0 hmem)]; exact r3 r0 hmem
      refine ⟨T,[sv r0.1,.ref r0.2.1],rfl,.of upd_same,rfl,_,_,rfl,_,_,rfl,rfl,?_⟩
      generalize hH4:upd H' T (HO.tup [kV ((Sum.inr (tx r0.1):Key),V.ref r0.2.1).1,((Sum.inr (tx r0.1):Key),V.ref r0.2.1).2])=H4
      have s4:Same H' H4:=by rw [← hH4]; exact Same.upd1 hT
      have hr4:H4 r0.2.1=some (.dK (rowV r0.2.2)):=s4 _ _ (sm _ _ h0r)
      have sm4:=sm.trans s4
      have hpa4:=s4 _ _ hpa
      have hpr4:∀ r∈pa,PartRow K H4 pd ps (fun _ _=>(1,1)) r:=fun r hr=>(hpr r hr).same s4
      have nrp:r0.2.1≠pd:=fun z=>by rw [z] at h0r; rw [hpd0] at h0r; cases h0r
      refine ⟨r0.2.1,rowV r0.2.2,hr4,_,rfl,r0.2.1,_,rfl,hr4,fun ob2=>?_⟩
      have hlen:((rowV r0.2.2).map fun p=>kV p.1).length=r0.2.2.length:=by rw [List.length_map]; exact encD_len _ _
      have hl2:r0.2.2.length≤ps.length:=by rw [hrow]; exact row_len ps r0.1
      refine comp_known0 (known_dict r0.2.1 ob2 (rowV r0.2.2)) [] 1 (by rw [hlen]; omega) (fun j acc H5=>Same (upd H4 r0.2.1 (.frz ob2 (.dK (rowV r0.2.2)))) H5∧acc.length=j∧∀ (m:Nat) (x:S × Int),(r0.2.2.take j)[m]?=some x→∃ a,acc[m]?=some (.ref a)∧H5 a=some (.tup [sv x.1,.ref aW]))
        ⟨Same.refl _,rfl,fun m x hm=>by simp at hm⟩ (fun j acc H5 _ h=>⟨h.1 _ _ upd_same,Nat.le_of_eq h.2.1⟩) ?_ ?_
      · rintro j x acc H5 ys Nx2 hN2 hx hy ⟨sj,hal,hac⟩
        obtain ⟨y',rfl⟩:=ys1L hy
        obtain ⟨hj,rfl⟩:=row_key hx
        refine ⟨_,rfl,by show 2≤sizeLine; decide,fun t ht=>?_⟩
        have s6:Same H5 (upd H5 t (.tup [sv r0.2.2[j].1,.ref aW])):=Same.upd1 ht
        refine hN2 _ _ [some (sv r0.2.2[j].1)] rfl ⟨sj.trans s6,by rw [List.length_append,hal]; rfl,fun m x hm=>?_⟩
        rw [List.take_succ_eq_append_getElem hj] at hm
        have hjl:(r0.2.2.take j).length=j:=by rw [List.length_take]; omega
        by_cases hmj:m < j
        · rw [List.getElem?_append_left (by omega)] at hm
          obtain ⟨a,h1,h2⟩:=hac m x hm
          exact ⟨a,by rw [List.getElem?_append_left (by omega)]; exact h1,s6 _ _ h2⟩
        · rw [List.getElem?_append_right (by omega),hjl] at hm
          have hm0:m - j=0:=by
            have:=(List.getElem?_eq_some_iff.mp hm).1
            simp at this; omega
          rw [hm0] at hm
          have hx2:r0.2.2[j]=x:=Option.some.inj hm
          subst hx2
          exact ⟨t,by rw [List.getElem?_append_right (by omega),hal,hm0]; rfl,upd_same⟩
      · rintro acc H5 ⟨sj,hal,hac⟩ D hD
        rw [hlen,List.take_length] at hac
        rw [hlen] at hal
        have hfz:H5 r0.2.1=some (.frz ob2 (.dK (rowV r0.2.2))):=sj _ _ upd_same
        have hneD:r0.2.1≠D:=ne_of_none hfz hD
        have sD:Same H5 (upd H5 D (.lst acc)):=Same.upd1 hD
        refine ⟨ob2,by rw [upd_ne hneD]; exact hfz,?_⟩
        have s7:Same H4 (upd (upd H5 D (.lst acc)) r0.2.1 (.dK (rowV r0.2.2))):=Same.thaw (sj.trans sD) hr4
        generalize hH7:upd (upd H5 D (.lst acc)) r0.2.1 (.dK (rowV r0.2.2))=H7 at s7
        have hD7:H7 D=some (.lst acc):=by rw [← hH7,upd_ne hneD.symm,upd_same]
        have hac7:PrsAt K H7 acc (r0.2.2.map fun x=>(tx x.1,V.ref aW)):=by
          refine ⟨by rw [List.length_map]; exact hal,fun m x hm=>?_⟩
          rw [List.getElem?_map] at hm
          cases em:r0.2.2[m]? with
          | none=>rw [em] at hm; cases hm
          | some x0 =>
            rw [em] at hm
            have hx:(tx x0.1,V.ref aW)=x:=Option.some.inj hm
            subst hx
            obtain ⟨a,h1,h2⟩:=hac m x0 em
            have hna:a≠r0.2.1:=fun z=>by rw [z,hfz] at h2; cases h2
            exact ⟨a,h1,.of (by rw [← hH7,upd_ne hna]; exact sD _ _ h2)⟩
        refine ⟨D,acc,_,rfl,.of hD7,hac7,?_,by rw [List.length_map]; omega,fun rd hrd=>?_⟩
        · have hnd:(r0.2.2.map (·.1)).Nodup:=by rw [hrow]; exact rowOf_nd ps r0.1
          have e:List.map (·.1) (r0.2.2.map fun x=>(tx x.1,V.ref aW))=(r0.2.2.map (·.1)).map tx:=by rw [List.map_map,List.map_map]; rfl
          rw [e]
          exact List.Pairwise.map tx (fun a b hab z=>hab (tx_inj z)) hnd
        have s8:Same H7 (upd H7 rd (.dK (encK (r0.2.2.map fun x=>(tx x.1,V.ref aW))))):=Same.upd1 hrd
        have hpa7:=s8 _ _ (s7 _ _ hpa4)
        refine ⟨_,rfl,_,rfl,pd,_,rfl,DPut.k (k:=Sum.inr (tx r0.1)) hpa7 (by rw [encD_len,← List.length_map (f:=(·.1)),hpk,List.length_map,List.length_take,sizeLine_eq]; omega),?_⟩
        have hnrd:pd≠rd:=ne_of_none (s7 _ _ hpa4) hrd
        have knd:(pa.map (·.1)).Nodup:=by
          rw [hpk,List.map_take]
          have h:=(rows_ok ps).nd
          rw [← r1,List.map_map] at h
          exact h.sublist (List.take_sublist _ _)
        have fresh:r0.1 ∉ pa.map (·.1):=fun h1=>by
          rw [hpk] at h1
          have h:=(rows_ok ps).nd
          rw [← r1,List.map_map] at h
          have h2:((ra.take (i+1)).map (·.1)).Nodup:=by rw [List.map_take]; exact h.sublist (List.take_sublist _ _)
          rw [etk,List.map_append] at h2
          exact (List.nodup_append.mp h2).2.2 _ h1 _ (by simp) rfl
        have eput:=put_enc (fun v:Addr × List (S × V)=>V.ref v.1) pa r0.1 (rd,r0.2.2.map fun x=>(x.1,V.ref aW)) knd
        have eputA:putA pa r0.1 (rd,r0.2.2.map fun x=>(x.1,V.ref aW))=pa++[(r0.1,rd,r0.2.2.map fun x=>(x.1,V.ref aW))]:=putA_new pa _ _ fresh
        rw [eputA] at eput
        have sx:SameX pd (upd H7 rd (.dK (encK (r0.2.2.map fun x=>(tx x.1,V.ref aW))))) (upd (upd H7 rd (.dK (encK (r0.2.2.map fun x=>(tx x.1,V.ref aW))))) pd (.dK (putK (encD (fun v:Addr × List (S × V)=>V.ref v.1) pa) (Sum.inr (tx r0.1)) (V.ref rd)))):=(SameX.refl _).updf
        refine hN _ _ ⟨⟨_,_,rfl⟩,fun b u e=>?_,pa++[(r0.1,rd,r0.2.2.map fun x=>(x.1,V.ref aW))],?_,?_,fun r hr=>?_⟩
        · have hb:b≠pd:=fun z=>by rw [z,hpd0] at e; cases e
          exact sx _ _ hb (s8 _ _ (s7 _ _ (sm4 _ _ e)))
        · rw [upd_same]
          exact congrArg (fun z=>some (HO.dK z)) eput
        · rw [List.map_append,hpk,etk,List.map_append]; rfl
        · rcases List.mem_append.mp hr with z | z
          · exact (((hpr4 r z).same s7).same s8).sameX (notTup hpa7) sx
          · have hr2:r=(r0.1,rd,r0.2.2.map fun x=>(x.1,V.ref aW)):=List.mem_singleton.mp z
            subst hr2
            refine ⟨hnrd.symm,?_,?_,fun q hq=>?_⟩
            · refine sx _ _ hnrd.symm ?_
              rw [upd_same,← encD_id,List.map_map]; rfl
            · show List.map (·.1) (r0.2.2.map fun x=>(x.1,V.ref aW))=_
              rw [List.map_map,hrow]; rfl
            · obtain ⟨x,_,rfl⟩:=List.mem_map.mp hq
              exact ⟨aW,rfl,tW _⟩
    · rintro σ H' ⟨⟨x2,x3,rfl⟩,sm,pa,hpa,hpk,hpr⟩
      refine ⟨ob,sm _ _ upd_same,_,rfl,?_⟩
      have sfin:Same H (upd H' d (.dK kvs)):=Same.thaw sm r2
      have hel:(encD (fun v:Addr × List (S × Int)=>V.ref v.1) ra).length=ra.length:=encD_len _ _
      rw [← hkv,hel,List.take_length] at hpk
      have tfz:∀ ys,¬ Rd H' d (.tup ys):=fun ys z=>by
        have:=sm _ _ upd_same
        rcases z with z | ⟨o,z⟩ <;> rw [this] at z <;> cases z
      refine k pd _ sfin hpd ⟨pa,?_,?_,fun r hr=>?_⟩
      · rw [hpk,← r1,List.map_map]; rfl
      · rw [upd_ne hdpd]; exact hpa
      · obtain ⟨h1,h2,h3,h4⟩:=hpr r hr
        have hrd:r.2.1≠d:=fun z=>by
          rw [z] at h2
          rw [sm _ _ upd_same] at h2; cases h2
        have sx:SameX d H' (upd H' d (.dK kvs)):=(SameX.refl _).updf
        exact ⟨h1,by rw [upd_ne hrd]; exact h2,h3,fun q hq=>sx.frA tfz (h4 q hq)⟩
end
end Kn.Ln
end
section
namespace L2
open PySem PySem.Spec PyProof.Rows
section
variable {X:Cx}
def rValuesR:V→List V→Hp→VK→Prop:=fun x vs H Q=>∃ d kvs,x=.ref d∧vs=[]∧Rd H d (.dK kvs)∧∀ p,H p=none→Q (.ref p) (upd H p (VLS p d))
theorem mt_valuesR:MtM X "dict.values" rValuesR:=by
  intro pins s σ H x vs v us Q I rx rv h
  obtain ⟨d,kvs,rfl,rfl,hd,q⟩:=h
  cases rx
  have hus:=rv.zero
  subst hus
  obtain ⟨z,hm,ws,rel,dd⟩:=dk_rd I.hok hd
  refine call_meetsIn PySem.F.slot_dict_values dd.typeIs PySem.F.entry_dict_values (PySem.F.args_dict_values_1 _) (meets_dict_values (mixKind X.prog X.w) d hm) ⟨⟨_,dd⟩,?_⟩
  refine ⟨.ref s.heap.objs.size,_,I.laid (t':=s.toks) (o:=VLS s.heap.objs.size d) (fun b o e=>Heap.get?_push_of_some _ e) (Nat.le_refl _) ?_,rfl,q _ (I.hok.fresh (Nat.le_refl _))⟩
  exact ⟨Heap.get?_push_size _ rfl,⟨_,Heap.get?_push_size _ rfl⟩,fun h1 h2 e k=>k _ e⟩
theorem call_sumValsR (hc:X.calm=true):CallR X (.builtin "sum") (fun xs H Q=>∃ (p d:Addr) (kns:List (Key × Int)),xs=[.ref p]∧H p=some (VLS p d)∧Rd H d (.dK (kns.map fun q=>(q.1,V.int q.2)))∧Q (.int (kns.map (·.2)).sum) H):=by
  intro pins s σ H xs us Q I r h
  obtain ⟨p,d,kns,rfl,hp,hd,q⟩:=h
  obtain ⟨u,rfl,ru⟩:=vals1 r
  cases ru
  obtain ⟨z,hm,ws,rel,dd⟩:=dk_rd I.hok hd
  obtain ⟨hv,_,_⟩:=I.hok p _ hp
  obtain ⟨ep,hat⟩:=dd.dictAt
  have hlen:ws.length=kns.length:=by have:=rel.length; simpa using this.symm
  have hwi:∀ (i:Nat) (v:Value),(∃ k,ws[i]?=some (k,v))→∃ t,v=Value.int ((kns.map (·.2)).getD i 0) t:=fun i v ⟨k,e⟩=>by
    obtain ⟨x,e1,e2⟩:=KV.get rel e
    rw [List.getElem?_map] at e1
    cases g:kns[i]? with
    | none=>rw [g] at e1; cases e1
    | some q' =>
      rw [g] at e1
      have e1':(q'.1,V.int q'.2)=(k,x):=Option.some.inj e1
      have:x=V.int q'.2:=(Prod.mk.inj e1').2.symm
      subst this
      obtain ⟨t,rfl⟩:=e2
      refine ⟨t,?_⟩
      have:(kns.map (·.2)).getD i 0=q'.2:=by rw [List.getD_eq_getElem?_getD,List.getElem?_map,g]; rfl
      rw [this]
  have Ks:=PySem.W.kdl_values (knd:=mixKind X.prog X.w) (kvs:=ws) (ep:=ep) (r:=p) (d:=d)
  obtain ⟨oI,St,hit,W,st⟩:=Ks.iter X.A.in1 s (I.ok.hd hc) ⟨⟨_,hv,rfl,rfl⟩,hat⟩
  have hth:=Ks.there s.heap ⟨⟨_,hv,rfl,rfl⟩,hat⟩
  refine call_sum_walkAnyS (hit _ _ ⟨s.heap.objs.size,_,_,_,ws.length,_,_,fun i=>(kns.map (·.2)).getD i 0,rfl,W.toS,st,fun b hb=>?_,hwi,fun s' t' hm=>?_⟩)
  · show b < (s.heap.push oI).objs.size
    rw [size_push']
    rcases List.mem_cons.mp hb with e | hb
    · rw [e]; exact Nat.lt_succ_self _
    · rw [List.mem_singleton.mp hb]; exact Nat.lt_succ_of_lt hth.2
  have hk:∀ b o,s.heap.get? b=some o→s'.heap.get? b=some o:=fun b o e =>
    hm.heap b o (fun hI=>absurd (Heap.lt_size e) (by rw [List.mem_singleton.mp hI]; exact Nat.lt_irrefl _)) (Heap.get?_push_of_some _ e)
  rw [Moved.eq_with hm]
  refine ⟨.int (kns.map (·.2)).sum,H,I.kept (h':=s'.heap) (t':=s'.toks) hk,⟨t',?_⟩,q⟩
  rw [hlen,← List.length_map (f:=(·.2)) (as:=kns),preSum_take _ _ (Nat.le_refl _),List.take_length]
def tBMD (r:V→List V→Hp→VK→Prop) (to:TE):TE:=fun σ H Q=>to σ H fun x H1=>∃ a,x=.ref a∧IsD H1 a∧r x [] H1 Q
theorem pe_bmD {o:Expr}{to:TE}{name:Str}{apos cpos:Pos}{id:String}{r:V→List V→Hp→VK→Prop} (slot:Slot "dict" name id) (hty:typeOf (.builtin id)=pure (.type "method_descriptor")) (hm:MtR X id r) (ho:PE X o to)
    (hbase:attributeBase o name X.env (eval o X.env)=eval o X.env:=by rfl) (hline:(apos.endLine == cpos.line)=true:=by rfl):PE X (.Call (.Attribute o name apos) [] [] cpos) (tBMD r to):=by
  intro pins s σ H Q I h
  refine wpAny_Call_method0_late hbase hline (thn (ho pins s σ H _ I h) fun v s1 ⟨x,H1,I1,r1,a,ex,d,q1⟩=>?_)
  subst ex
  cases r1
  obtain ⟨h1,h2,_⟩:=isD_at I1 d
  exact ⟨"dict",id,PySem.F.plainAttrs_dict,slot,hty,h1,h2,Calls.callWith_builtin rfl (PySem.evalArgs_none (hm pins s1 σ H1 (.ref a) [] _ [] Q I1 (show RelV (.ref a) (.ref a) from rfl) .nil q1))⟩
def tDispK (tk tv:TE):TE:=fun σ H Q=>∀ p,H p=none→tk σ (upd H p (.dK [])) fun x H1=>tv σ H1 fun y H2=>H2 p=some (.dK [])∧∃ k:Key,x=kV k∧Q (.ref p) (upd H2 p (.dK [(k,y)]))
theorem pe_dispK {k v:Expr}{pos:Pos}{tk tv:TE} (hk:PE X k tk) (hv:PE X v tv):PE X (.Dict [some k] [v] pos) (tDispK tk tv):=by
  intro pins s σ H Q I q
  have hn:=I.hok.fresh (Nat.le_refl s.heap.objs.size)
  have I1:=I.laid (a:=s.heap.objs.size) (o:=.dK []) (h':=s.heap.push { cls:=.type "dict",data:=.dict #[] }) (t':=s.toks) (fun _ _ q=>Heap.get?_push_of_some _ q) (Nat.le_refl _) (dk_empty s.heap I.big)
  have hp:PPs X pos [some k] [v] [(tk,tv)]:=pps_cons hk hv pps_nil
  refine wpAny_Dict_any rfl rfl (by simp) (by simp) (thn (hp pins _ σ _ (fun ps H2=>match ps with | [(x,y)]=>H2 s.heap.objs.size=some (.dK [])∧∃ kk:Key,x=kV kk∧Q (.ref s.heap.objs.size) (upd H2 s.heap.objs.size (.dK [(kk,y)])) | _=>False) I1 (q _ hn)) fun ws s2 ⟨ps,H2,I2,rel,q2⟩=>?_)
  match ps,rel,q2 with
  | [(x,y)],rel,q2 =>
    obtain ⟨e0,kk,ex,q2⟩:=q2
    cases rel with
    | @cons _ wv _ ws' r1 r2 =>
    cases r2
    obtain ⟨wk,wv⟩:=wv
    obtain ⟨r1,r3⟩:=r1
    subst ex
    obtain ⟨z,hd,vs,rel,dd⟩:=dk_of I2.hok e0
    cases rel
    unfold storeAll
    rw [List.forIn_cons]
    refine wpAny_bind (wpAny_bind (wpAny_dictSet_pairs (knd:=mixKind X.prog X.w) (hsz:=Nat.zero_le _) (kV_is r1) dd (fun h' dd' hs=>wpAny_pure ?_)))
    show wpAny _ _ (forIn [] _ _) _ _ _
    rw [List.forIn_nil]
    refine wpAny_pure ⟨.ref s.heap.objs.size,_,?_,rfl,q2⟩
    have he:∃ q,h'.get? s.heap.objs.size=some q:=let ⟨q,_,_,hq,_⟩:=dd'; ⟨q,hq⟩
    exact d_write I2 (by rw [e0]; exact True.intro) hs he (dk_new (by show 1≤sizeLine; decide) hd (KV.put .nil kk r3) dd')
end
end L2
end
section
namespace Kn.Ln
open PySem L2 Kn
section
variable {P:Program}{w:World}{K:PySem.W.Frag}{mg:Str→Option Value}{base:Heap}
theorem Cal.imp {k:Nat}{x:Str}{ps:List Str}{sp sp':Sp} (C:Cal P w K mg base k x ps sp) (h:∀ {vs H Q E},sp' vs H Q E→sp vs H Q E):Cal P w K mg base k x ps sp' :=
  let ⟨f,fd,F,r⟩:=C; ⟨f,fd,F.imp fun _ _ _ _=>h,r⟩
def spPartR (K:PySem.W.Frag):Sp:=fun vs H Q _=>∃ (d:Addr) (ps:List (S × S)) (e l:S),vs=[.ref d,sv l]∧Rd H d (.dK (rowV (rowOf ps e)))∧ps.length < 1000∧∀ v H',Same H H'→FrA K H' v (part ps e l)→Q v H'
theorem partR_imp {vs:List V}{H:Hp}{Q:VK}{E:XK} (h:spPart K vs H Q E):spPartR K vs H Q E:=by
  obtain ⟨d,ps,e,l,rfl,hd,hl,k⟩:=h
  exact ⟨d,ps,e,l,rfl,.inl hd,hl,k⟩
theorem ok_partR {f:Addr}{fd:FuncData} (F:Fun K "part_in" "part_in" sPart f fd) (B:Blt mg) (C:Cst2 K mg) (c1:Cal P w K mg base 2 "lowest" ["up", "down"] spLow):FnOk P w K mg base CX0 3 f fd ["row", "letter"] (spPartR K):=by
  obtain ⟨aN,hN,tN⟩:=C.nought
  refine F.ok scPart (fun vs H Q E h=>?_) (fun cdv A outer s H vs Q E hr h=>?_)
  · obtain ⟨d,ps,e,l,rfl,_⟩:=h; rfl
  · obtain ⟨d,ps,e,l,rfl,hd,hl,k⟩:=h
    have hu:=hu_of hr
    refine ⟨_,pss_cons (ps_if (pt_cmp (pc_dnotin hu (pv 1) (pv 0))) (pss_one (ps_ret (pe_glob (v:=.ref aN) (by rfl) hN rfl))) pss_nil)
      (pss_one (ps_ret (pe_cal c1 hr rfl (pa_cons (pe_dget hu (pv 0) (pv 1) (fun _ _=>rfl)) (pa_cons (pe_callB (call_sumValsR rfl) (by rfl) B.sum PyProof.Rows.boot_sum (pa_cons (pe_bmD PySem.F.slot_dict_values PySem.F.type_dict_values mt_valuesR (pv 0)) pa_nil)) pa_nil))))),?_⟩
    have dg:DGet H d (sv l) (valV (rowV (rowOf ps e)) (Sum.inr (tx l))):=.inl ⟨_,Sum.inr (tx l),hd,rfl,rfl⟩
    refine ⟨_,rfl,_,rfl,d,_,rfl,dg,_,rfl,?_⟩
    rw [val_enc,rowOf_get]
    by_cases c:0 < ps.count (e,l)
    · rw [if_pos c]
      refine iteF ?_
      rw [val_enc,rowOf_get,if_pos c] at dg
      refine ⟨_,rfl,_,rfl,d,.int (ps.count (e,l):Int),rfl,dg,?_⟩
      refine ⟨_,rfl,d,rfl,.inl ⟨_,hd⟩,d,_,rfl,rfl,hd,fun p hp=>?_⟩
      have s1:Same H (upd H p (VLS p d)):=Same.upd1 hp
      have hd1:Rd (upd H p (VLS p d)) d (.dK (rowV (rowOf ps e))):=by
        rcases hd with z | ⟨o,z⟩
        · exact .inl (s1 _ _ z)
        · exact .inr ⟨o,s1 _ _ z⟩
      refine ⟨p,d,(rowOf ps e).map (fun q=>((Sum.inr (tx q.1):Key),q.2)),rfl,upd_same,?_,?_⟩
      · have e1:((rowOf ps e).map (fun q=>((Sum.inr (tx q.1):Key),q.2))).map (fun q=>(q.1,V.int q.2))=rowV (rowOf ps e):=by
          unfold rowV encD encK
          rw [List.map_map,List.map_map]; rfl
        rw [e1]; exact hd1
      · have e1:(((rowOf ps e).map fun q=>((Sum.inr (tx q.1):Key),q.2)).map (·.2)).sum=(tot ps e:Int):=by
          rw [List.map_map]; exact rowOf_total ps e
        rw [e1]
        have h1:=count_le_tot ps e l
        have h2:=tot_le ps e
        refine ⟨_,_,rfl,by omega,by omega,by omega,fun p2 hp2=>k _ _ (s1.trans (Same.upd1 hp2)) ?_⟩
        have:part ps e l=low (ps.count (e,l):Int) (tot ps e:Int):=by unfold part; rw [if_neg (by omega)]
        rw [this]
        exact FrA.new
    · rw [if_neg c]
      refine iteT ?_
      have:part ps e l=(0,1):=by unfold part; rw [if_pos (by omega)]
      exact k _ _ (Same.refl H) (by rw [this]; exact ⟨aN,rfl,tN _⟩)
end
end Kn.Ln
end
section
namespace Kn.Ln
open PySem L2 Kn
section
variable {P:Program}{w:World}{K:PySem.W.Frag}{mg:Str→Option Value}{base:Heap}
end
end Kn.Ln
end
section
namespace Kn.Ln
open PySem L2 Kn
theorem pairs72L {bk:List S}{o:Nat} (hb:Bk bk o):(pairsB o bk).length≤72:=by
  have h2:((pairsB o bk).length:Int)≤72:=by
    rw [pairsB_length]
    have go:∀ l:List S,(∀ x∈l,x.length≤8)→(l.map fun x=>(x.length:Int)+1).sum≤9 * (l.length:Int):=by
      intro l
      induction l with
      | nil=>intro _; simp
      | cons x r ih =>
        intro hl
        have h1:=hl x (List.mem_cons_self ..)
        have h2:=ih fun y hy=>hl y (List.mem_cons_of_mem _ hy)
        rw [List.map_cons,List.sum_cons,List.length_cons]
        have:((r.length+1:Nat):Int)=(r.length:Int)+1:=rfl
        omega
    have:=go bk hb.l8
    have:=hb.hi
    omega
  omega
theorem pair_end {o:Nat}{bk:List S}{e l:S} (h:(e,l)∈pairsB o bk):e.length≤o:=by
  obtain ⟨x,_,h⟩:=List.mem_flatMap.mp h
  obtain ⟨p,_,h⟩:=List.mem_map.mp h
  rw [← (Prod.mk.inj h).1]
  exact endOf_length _ _
structure SumsOk (ps:List (S × S)) (ss:List (S × Int)):Prop where
  nd:(ss.map (·.1)).Nodup
  rows:∀ p∈ss,∃ l,(p.1,l)∈ps
theorem out_row {o:Nat}{bk:List S}{f:S→S→Int × Int}{x:S}{p q:S × Int} (hq:q∈outs (nxOf (pairsB o bk)) f o x p):∃ l,(q.1,l)∈pairsB o bk:=by
  obtain ⟨l,hl,rfl⟩:=List.mem_map.mp hq
  obtain ⟨h1,h2⟩:=List.mem_filter.mp hl
  have hm:=(nxOf_mem _ _ _).mp h1
  have hn:l≠[]:=fun z=>by
    unfold mf at h2
    rw [z] at h2; simp at h2
  obtain ⟨c,rfl⟩:=one_of (pairB_one hm) hn
  exact pairB_next hm
theorem SumsOk.step {o:Nat}{bk:List S}{f:S→S→Int × Int}{ss:List (S × Int)}{x:S} (h:SumsOk (pairsB o bk) ss):SumsOk (pairsB o bk) (sstep (nxOf (pairsB o bk)) f o ss x):=by
  obtain ⟨h1,h2⟩:=agg_keys (ss.flatMap (outs (nxOf (pairsB o bk)) f o x))
  refine ⟨h1,fun p hp=>?_⟩
  obtain ⟨q,hq,e⟩:=List.mem_map.mp (h2 p.1 (List.mem_map.mpr ⟨p,hp,rfl⟩))
  obtain ⟨p0,_,hq⟩:=List.mem_flatMap.mp hq
  rw [← e]
  exact out_row hq
theorem SumsOk.len {ps:List (S × S)}{ss:List (S × Int)} (h:SumsOk ps ss):ss.length≤ps.length:=by
  have h1:=nd_le (ss.map (·.1)) (ps.map (·.1)) h.nd fun e he=>by
    obtain ⟨p,hp,rfl⟩:=List.mem_map.mp he
    obtain ⟨l,hl⟩:=h.rows p hp
    exact List.mem_map.mpr ⟨_,hl,rfl⟩
  rw [List.length_map,List.length_map] at h1
  exact h1
def Smf (f:S→S→Int × Int):Prop:=∀ e l,0≤(f e l).1∧(f e l).1 < 1000000∧0 < (f e l).2∧(f e l).2 < 1000000
theorem PartsAt.row {K:PySem.W.Frag}{H:Hp}{pd:Addr}{ps:List (S × S)}{f:S→S→Int × Int} (h:PartsAt K H pd ps f) {e l:S} (hl:(e,l)∈ps) :
    ∃ (ra:Addr) (kv:List (S × V)),DGet H pd (sv e) (some (.ref ra))∧ra≠pd∧H ra=some (.dK (encD id kv))∧kv.map (·.1)=nxOf ps e∧∀ q∈kv,FrA K H q.2 (f e q.1):=by
  obtain ⟨pa,h1,h2,h3⟩:=h
  have knd:(pa.map (·.1)).Nodup:=by rw [h1]; exact (rows_ok ps).nd
  obtain ⟨row,hrw⟩:=((rows_ok ps).has e).mpr ⟨l,hl⟩
  have h4:e∈pa.map (·.1):=by rw [h1]; exact List.mem_map.mpr ⟨_,(getA_mem (rows_ok ps).nd _ _).mpr hrw,rfl⟩
  obtain ⟨r,hr,rfl⟩:=List.mem_map.mp h4
  obtain ⟨g1,g2,g3,g4⟩:=h3 r hr
  refine ⟨r.2.1,r.2.2,?_,g1,g2,g3,g4⟩
  have:=DGet.k (k:=Sum.inr (tx r.1)) h2
  rw [val_enc,(getA_mem knd r.1 r.2).mp hr] at this
  exact this
theorem ref_int {ss:List (S × Int)}{α:Type}{g:α→V} (hg:∀ a,∃ x,g a=V.ref x) {pa:List (S × α)} (h:rowV ss=encD g pa) (hs:ss≠[]):False:=by
  cases ss with
  | nil=>exact hs rfl
  | cons p ss =>
    cases pa with
    | nil=>cases h
    | cons r pa =>
      have h1:=(List.cons.inj h).1
      have h2:V.int p.2=g r.2:=(Prod.mk.inj h1).2
      obtain ⟨x,hx⟩:=hg r.2
      rw [hx] at h2; cases h2
section
variable {P:Program}{w:World}{K:PySem.W.Frag}{mg:Str→Option Value}{base:Heap}
abbrev sNextS:Stmt:=top 54
theorem scNextS:FnScope ["parts", "order", "sums", "wanted", "found", "end", "weight", "letter", "part", "reached"] ["parts", "order", "sums", "wanted"] (defScope sNextS):=⟨rfl,rfl,rfl,by decide +kernel,rfl,by decide +kernel,by decide +kernel⟩
def spNextS (K:PySem.W.Frag):Sp:=fun vs H Q _=>∃ (pd sd:Addr) (o:Nat) (bk:List S) (f:S→S→Int × Int) (ss:List (S × Int)) (x:S),vs=[.ref pd,.int o,.ref sd,sv x]∧Bk bk o∧PartsAt K H pd (pairsB o bk) f∧Smf f∧H sd=some (.dK (rowV ss))∧SumsOk (pairsB o bk) ss ∧
  ∀ fo H',Same H H'→H fo=none→H' fo=some (.dK (rowV (sstep (nxOf (pairsB o bk)) f o ss x)))→Q (.ref fo) H'
theorem ok_nextS {f:Addr}{fd:FuncData} (F:Fun K "next_sums" "next_sums" sNextS f fd) (cF:Cal P w K mg base 1 "may_follow" ["letter", "wanted"] spFollow) (cEnd:Cal P w K mg base 1 "end_of" ["text", "order"] spEnd) (cL:Cal P w K mg base 1 "left_of" ["weight", "part"] (spLeft K)) :
    FnOk P w K mg base CX0 2 f fd ["parts", "order", "sums", "wanted"] (spNextS K):=by
  refine F.ok scNextS (fun vs H Q E h=>?_) (fun cdv A outer s H vs Q E hr h=>?_)
  · obtain ⟨pd,sd,o,bk,f,ss,x,rfl,_⟩:=h; rfl
  · obtain ⟨pd,sd,o,bk,ff,ss,x,rfl,hb,hP,hS,hsd,hss,k⟩:=h
    have hu:=hu_of hr
    have nd:=scNextS.nd
    refine ⟨_,pss_cons (ps_set (i:=4) nd rfl (Or.inl rfl) pe_dnewK)
      (pss_cons (ps_thaw (ps_for PassesOwn.never rfl (pi_items (pe_bm0K K rfl PySem.F.plainAttrs_dict PySem.F.slot_dict_items PySem.F.type_dict_items mt_items (pv 2)))
          (pg_tup rfl (pgs_cons (pg_name (i:=5) nd rfl (Or.inl rfl)) (pgs_cons (pg_name (i:=6) nd rfl (Or.inl rfl)) pgs_nil)))
          (pss_one (ps_thaw (ps_for PassesOwn.never rfl (pi_items (pe_bm0K K rfl PySem.F.plainAttrs_dict PySem.F.slot_dict_items PySem.F.type_dict_items mt_items (pe_dget hu (pv 0) (pv 5) (fun _ _=>rfl))))
            (pg_tup rfl (pgs_cons (pg_name (i:=7) nd rfl (Or.inl rfl)) (pgs_cons (pg_name (i:=8) nd rfl (Or.inl rfl)) pgs_nil)))
            (pss_one (ps_if (pt_val (pe_cal cF hr rfl (pa_cons (pv 7) (pa_cons (pv 3) pa_nil))))
              (pss_cons (ps_set (i:=9) nd rfl (Or.inl rfl) (pe_cal cEnd hr rfl (pa_cons (pe_op op_add_str (pv 5) (pv 7)) (pa_cons (pv 1) pa_nil))))
              (pss_one (ps_dput hu (pv 4) (pv 9) (pe_op op_add (pe_dget2 hu (pv 4) (pv 9) pe_int ⟨rfl,rfl,rfl,rfl⟩) (pe_cal cL hr rfl (pa_cons (pv 6) (pa_cons (pv 8) pa_nil)))) rfl)))
              pss_nil)))))))
      (pss_one (ps_ret (pv 4)))),?_⟩
    intro fo hfo
    have sH1:Same H (upd H fo (.dK [])):=Same.upd1 hfo
    have hd1:=sH1 _ _ hsd
    have hsfo:fo≠sd:=(ne_of_none hsd hfo).symm
    refine ⟨sd,_,hd1,?_⟩
    refine ⟨_,rfl,.inr (.inr (.inl ⟨rfl,.inl ⟨_,hd1⟩⟩)),sd,_,rfl,rfl,hd1,fun p hp=>?_⟩
    have hpfo:p≠fo:=fun z=>by subst z; rw [upd_same] at hp; cases hp
    have sH2:Same (upd H fo (.dK [])) (upd (upd H fo (.dK [])) p (VW p sd)):=Same.upd1 hp
    refine ⟨p,sd,_,rfl,upd_same,sH2 _ _ hd1,fun ob=>?_⟩
    generalize hH3:upd (upd (upd H fo (.dK [])) p (VW p sd)) sd (.frz ob (.dK (rowV ss)))=H3
    have s3:Same (upd H sd (.frz ob (.dK (rowV ss)))) H3:=fun b u e=>by
      rw [← hH3]
      by_cases hb:b=sd
      · subst hb; rw [upd_same] at e ⊢; exact e
      · rw [upd_ne hb] at e ⊢
        exact sH2 _ _ (sH1 _ _ e)
    have hfo3:H3 fo=some (.dK (rowV [])):=by
      rw [← hH3,upd_ne hsfo,upd_ne hpfo.symm,upd_same]; rfl
    have hfo0:upd H sd (.frz ob (.dK (rowV ss))) fo=none:=by rw [upd_ne hsfo]; exact hfo
    have h72:=pairs72L hb
    have hsl:=hss.len
    refine for_items (fun i σ H'=>(∃ x5 x6 x7 x8 x9:Option V,σ=[some (.ref pd),some (.int o),some (.ref sd),some (sv x),some (.ref fo),x5,x6,x7,x8,x9])∧Same (upd H sd (.frz ob (.dK (rowV ss)))) H'∧H' fo=some (.dK (rowV (agg ((ss.take i).flatMap (outs (nxOf (pairsB o bk)) ff o x))))))
      ⟨⟨_,_,_,_,_,rfl⟩,s3,hfo3⟩ (fun i σ H' _ h=>h.2.1 _ _ upd_same) ?_ ?_
    · rintro i q T σ H' Nx hN hq ⟨⟨x5,x6,x7,x8,x9,rfl⟩,sm,hR⟩ hT
      unfold rowV encD encK at hq
      rw [List.getElem?_map,List.getElem?_map] at hq
      cases ei:ss[i]? with
      | none=>rw [ei] at hq; cases hq
      | some p0 =>
      rw [ei] at hq
      have hq2:q=(Sum.inr (tx p0.1),V.int p0.2):=(Option.some.inj hq).symm
      subst hq2
      have hmem:p0∈ss:=List.mem_of_getElem? ei
      have hi:i < ss.length:=(List.getElem?_eq_some_iff.mp ei).1
      have sne:ss≠[]:=fun z=>by rw [z] at hmem; cases hmem
      have etk:(ss.take (i+1)).flatMap (outs (nxOf (pairsB o bk)) ff o x)=(ss.take i).flatMap (outs (nxOf (pairsB o bk)) ff o x)++outs (nxOf (pairsB o bk)) ff o x p0:=by
        rw [List.take_succ_eq_append_getElem hi,(List.getElem?_eq_some_iff.mp ei).2,List.flatMap_append]; simp
      have hCr:∀ c∈(ss.take i).flatMap (outs (nxOf (pairsB o bk)) ff o x),∃ l,(c.1,l)∈pairsB o bk:=fun c hc=>by
        obtain ⟨p1,_,hc1⟩:=List.mem_flatMap.mp hc
        exact out_row hc1
      generalize (ss.take i).flatMap (outs (nxOf (pairsB o bk)) ff o x)=C0 at hR etk hCr
      obtain ⟨l0,hl0⟩:=hss.rows p0 hmem
      have hel:p0.1.length≤3:=by have:=pair_end hl0; have:=hb.o3; omega
      have pne:pd≠sd:=fun z=>by
        obtain ⟨pa,_,h2,_⟩:=hP
        rw [z,hsd] at h2
        exact ref_int (fun a=>⟨_,rfl⟩) (HO.dK.inj (Option.some.inj h2)) sne
      obtain ⟨ra,kv,g1,g2,g3,g4,g5⟩:=hP.row hl0
      have rne:ra≠sd:=fun z=>by
        rw [z,hsd] at g3
        have h2:=HO.dK.inj (Option.some.inj g3)
        cases kv with
        | nil=>exact sne (List.map_eq_nil_iff.mp (List.map_eq_nil_iff.mp h2))
        | cons q kv =>
          cases ss with
          | nil=>exact sne rfl
          | cons p ss =>
            have h3:=(Prod.mk.inj (List.cons.inj h2).1).2
            obtain ⟨a,ha,_⟩:=g5 q (List.mem_cons_self ..)
            have h4:V.int p.2=q.2:=h3
            rw [ha] at h4; cases h4
      refine ⟨T,[sv p0.1,.int p0.2],rfl,.of upd_same,rfl,_,_,rfl,_,_,rfl,rfl,?_⟩
      generalize hH4:upd H' T (HO.tup [kV ((Sum.inr (tx p0.1):Key),V.int p0.2).1,((Sum.inr (tx p0.1):Key),V.int p0.2).2])=H4
      have s4:Same H' H4:=by rw [← hH4]; exact Same.upd1 hT
      have sm4:=sm.trans s4
      have at4:∀ b u,b≠sd→H b=some u→H4 b=some u:=fun b u hb' e=>sm4 _ _ (by rw [upd_ne hb']; exact e)
      have hra4:=at4 _ _ rne g3
      have hR4:=s4 _ _ hR
      have dg4:DGet H4 pd (sv p0.1) (some (.ref ra)):=by
        rcases g1 with ⟨kvs,kk,e1,e2,e3⟩ | ⟨kvs,kk,b,e1,e2,_⟩
        · refine .inl ⟨kvs,kk,?_,e2,e3⟩
          rcases e1 with e1 | ⟨o',e1⟩
          · exact .inl (at4 _ _ pne e1)
          · exact .inr ⟨o',at4 _ _ pne e1⟩
        · cases e2
      have sx4:SameX sd H H4:=fun b u hb' e=>at4 b u hb' e
      have fr4:∀ q∈kv,FrA K H4 q.2 (ff p0.1 q.1):=fun q hq=>sx4.frA (notTup hsd) (g5 q hq)
      have rafo:ra≠fo:=fun z=>by rw [z,hfo] at g3; cases g3
      refine ⟨ra,_,hra4,?_⟩
      refine ⟨_,rfl,_,rfl,pd,.ref ra,rfl,dg4,.inr (.inr (.inl ⟨rfl,.inl ⟨_,hra4⟩⟩)),ra,_,rfl,rfl,hra4,fun p2 hp2=>?_⟩
      have s5:Same H4 (upd H4 p2 (VW p2 ra)):=Same.upd1 hp2
      refine ⟨p2,ra,_,rfl,upd_same,s5 _ _ hra4,fun ob2=>?_⟩
      generalize hH5:upd (upd H4 p2 (VW p2 ra)) ra (.frz ob2 (.dK (encD id kv)))=H5
      have h5ra:H5 ra=some (.frz ob2 (.dK (encD id kv))):=by rw [← hH5,upd_same]
      have sx5:SameX ra H4 H5:=fun b u hb' e=>by rw [← hH5,upd_ne hb']; exact s5 _ _ e
      have hR5:H5 fo=some (.dK (rowV (agg C0))):=sx5 _ _ rafo.symm hR4
      have fr5:∀ q∈kv,FrA K H5 q.2 (ff p0.1 q.1):=fun q hq=>sx5.frA (notTup hra4) (fr4 q hq)
      have hkl:kv.length≤(pairsB o bk).length:=by
        have h1:=row_len (pairsB o bk) p0.1
        have h2:(kv.map (·.1)).length=((rowOf (pairsB o bk) p0.1).map (·.1)).length:=by rw [g4]
        rw [List.length_map,List.length_map] at h2
        omega
      refine for_items (fun j σ H6=>(∃ x7 x8 x9:Option V,σ=[some (.ref pd),some (.int o),some (.ref sd),some (sv x),some (.ref fo),some (sv p0.1),some (.int p0.2),x7,x8,x9])∧SameX fo H5 H6 ∧
          H6 fo=some (.dK (rowV (agg (C0++(((nxOf (pairsB o bk) p0.1).take j).filter (mf x)).map fun l=>(endOf (p0.1++l) o,lft p0.2 (ff p0.1 l)))))))
        ⟨⟨_,_,_,rfl⟩,SameX.refl _,by simpa using hR5⟩ (fun j σ H6 _ h=>h.2.1 _ _ rafo h5ra) ?_ ?_
      · rintro j q T2 σ H6 Nx2 hN2 hq ⟨⟨x7,x8,x9,rfl⟩,sx,hR6⟩ hT2
        unfold encD encK at hq
        rw [List.getElem?_map,List.getElem?_map] at hq
        cases el:kv[j]? with
        | none=>rw [el] at hq; cases hq
        | some q0 =>
        rw [el] at hq
        have hq2:q=(Sum.inr (tx q0.1),q0.2):=(Option.some.inj hq).symm
        subst hq2
        have hqm:q0∈kv:=List.mem_of_getElem? el
        have hnx:(nxOf (pairsB o bk) p0.1)[j]?=some q0.1:=by rw [← g4,List.getElem?_map,el]; rfl
        have hj:j < (nxOf (pairsB o bk) p0.1).length:=(List.getElem?_eq_some_iff.mp hnx).1
        have hlm:q0.1∈nxOf (pairsB o bk) p0.1:=List.mem_of_getElem? hnx
        have hl1:q0.1.length≤1:=pairB_one ((nxOf_mem _ _ _).mp hlm)
        have etk2:(nxOf (pairsB o bk) p0.1).take (j+1)=(nxOf (pairsB o bk) p0.1).take j++[q0.1]:=by
          rw [List.take_succ_eq_append_getElem hj,(List.getElem?_eq_some_iff.mp hnx).2]
        refine ⟨T2,[sv q0.1,q0.2],rfl,.of upd_same,rfl,_,_,rfl,_,_,rfl,rfl,?_⟩
        generalize hH7:upd H6 T2 (HO.tup [kV ((Sum.inr (tx q0.1):Key),q0.2).1,((Sum.inr (tx q0.1):Key),q0.2).2])=H7
        have s7:Same H6 H7:=by rw [← hH7]; exact Same.upd1 hT2
        refine ⟨_,rfl,_,rfl,q0.1,x,rfl,fun H8 s8=>⟨mf x q0.1,rfl,?_⟩⟩
        have s78:=s7.trans s8
        have hR8:=s78 _ _ hR6
        have sx8:SameX fo H5 H8:=sx.trans (SameX.of s78)
        refine ite2 (fun hm=>?_) (fun hm=>?_)
        · have hcl:(tx p0.1).length+(tx q0.1).length≤sizeLine:=by rw [tx_len,tx_len,sizeLine_eq]; omega
          have hll:(p0.1++q0.1).length≤64:=by rw [List.length_append]; omega
          refine ⟨_,rfl,_,rfl,tx p0.1,tx q0.1,rfl,rfl,hcl,_,rfl,p0.1++q0.1,o,by rw [tx_app]; rfl,hb.o1,hll,?_⟩
          generalize hLL:C0++(((nxOf (pairsB o bk) p0.1).take j).filter (mf x)).map (fun l=>(endOf (p0.1++l) o,lft p0.2 (ff p0.1 l)))=LL at hR8
          have hLr:∀ c∈LL,∃ l,(c.1,l)∈pairsB o bk:=fun c hc=>by
            rw [← hLL] at hc
            rcases List.mem_append.mp hc with z | z
            · exact hCr c z
            · obtain ⟨l,hl,rfl⟩:=List.mem_map.mp z
              obtain ⟨z1,z2⟩:=List.mem_filter.mp hl
              exact out_row (f:=ff) (x:=x) (p:=p0) (List.mem_map.mpr ⟨l,List.mem_filter.mpr ⟨List.mem_of_mem_take z1,z2⟩,rfl⟩)
          obtain ⟨knd,ksub⟩:=agg_keys LL
          have hal:(agg LL).length≤(pairsB o bk).length:=by
            have h1:=nd_le ((agg LL).map (·.1)) ((pairsB o bk).map (·.1)) knd fun e he=>by
              obtain ⟨c,hc,rfl⟩:=List.mem_map.mp (ksub e he)
              obtain ⟨l,hl⟩:=hLr c hc
              exact List.mem_map.mpr ⟨_,hl,rfl⟩
            rw [List.length_map,List.length_map] at h1
            exact h1
          have fr8:FrA K H8 q0.2 (ff p0.1 q0.1):=sx8.frA (notTup hR5) (fr5 q0 hqm)
          obtain ⟨b1,b2,b3,b4⟩:=hS p0.1 q0.1
          refine ⟨_,rfl,fo,rfl,.inl ⟨_,.inl hR8⟩,_,rfl,_,DGet.k (k:=Sum.inr (tx (endOf (p0.1++q0.1) o))) hR8,_,rfl,_,rfl,p0.2,q0.2,ff p0.1 q0.1,rfl,fr8,b1,b2,b3,b4,?_⟩
          refine ⟨(getA (agg LL) (endOf (p0.1++q0.1) o)).getD 0,_,?_,rfl,?_⟩
          · show (valV (encD V.int (agg LL)) _).getD (V.int 0)=_
            rw [val_enc]
            cases getA (agg LL) (endOf (p0.1++q0.1) o) <;> rfl
          refine ⟨_,rfl,_,rfl,fo,_,rfl,DPut.k (k:=Sum.inr (tx (endOf (p0.1++q0.1) o))) hR8 (by show (encD V.int (agg LL)).length < _; rw [encD_len,sizeLine_eq]; omega),hN2 _ _ ⟨⟨_,_,_,rfl⟩,sx8.updf,?_⟩⟩
          rw [upd_same]
          have e1:=put_enc V.int (agg LL) (endOf (p0.1++q0.1) o) ((getA (agg LL) (endOf (p0.1++q0.1) o)).getD 0+lft p0.2 (ff p0.1 q0.1)) knd
          refine congrArg (fun z=>some (HO.dK z)) (e1.trans ?_)
          have e2:C0++(((nxOf (pairsB o bk) p0.1).take (j+1)).filter (mf x)).map (fun l=>(endOf (p0.1++l) o,lft p0.2 (ff p0.1 l)))=LL++[(endOf (p0.1++q0.1) o,lft p0.2 (ff p0.1 q0.1))]:=by
            rw [etk2,List.filter_append,List.map_append,← List.append_assoc,hLL]
            simp [hm]
          rw [e2]
          unfold agg
          rw [List.foldl_append]
          rfl
        · have hm':mf x q0.1=false:=by simpa using hm
          refine hN2 _ _ ⟨⟨_,_,_,rfl⟩,sx8,?_⟩
          rw [etk2,List.filter_append]
          simpa [hm'] using hR8
      · rintro σ H6 ⟨⟨x7,x8,x9,rfl⟩,sx,hR6⟩
        refine ⟨ob2,sx _ _ rafo h5ra,hN _ _ ⟨⟨_,_,_,_,_,rfl⟩,fun c u e=>?_,?_⟩⟩
        · have hcf:c≠fo:=fun z=>by rw [z,hfo0] at e; cases e
          have e4:=sm4 _ _ e
          by_cases hc:c=ra
          · subst hc
            rw [upd_same,← e4,hra4]
          · rw [upd_ne hc]
            exact sx _ _ hcf (sx5 _ _ hc e4)
        · rw [upd_ne rafo.symm]
          have e1:(encD id kv).length=(nxOf (pairsB o bk) p0.1).length:=by
            rw [encD_len,← g4,List.length_map]
          rw [e1,List.take_length] at hR6
          rw [etk]
          exact hR6
    · rintro σ H' ⟨⟨x5,x6,x7,x8,x9,rfl⟩,sm,hR⟩
      refine ⟨ob,sm _ _ upd_same,_,rfl,?_⟩
      have sfin:Same H (upd H' sd (.dK (rowV ss))):=Same.thaw sm hsd
      refine k fo _ sfin hfo ?_
      rw [upd_ne hsfo]
      have e1:(rowV ss).length=ss.length:=encD_len _ _
      rw [e1,List.take_length] at hR
      exact hR
end
end Kn.Ln
end
section
namespace Kn.Ln
open PySem L2 Kn
theorem ys2L {ys:St} (h:ys.length=2):∃ y z,ys=[y,z]:=by
  match ys,h with
  | [y,z],_=>exact ⟨y,z,rfl⟩
theorem start_row {o:Nat}{bk:List S} (hb:Bk bk o):∃ l,(([]:S),l)∈pairsB o bk:=by
  have h1:=hb.lo
  match bk,h1 with
  | x::bk,_ =>
    refine ⟨(x.drop 0).take 1,List.mem_flatMap.mpr ⟨x,List.mem_cons_self ..,List.mem_map.mpr ⟨0,List.mem_range.mpr (by omega),?_⟩⟩⟩
    rw [List.take_zero]
    have:endOf ([]:S) o=[]:=by unfold endOf; simp
    rw [this]
def lastQ (ps:List (S × S)) (f:S→S→Int × Int) (e:S):Int × Int:=if (e,[])∈ps then f e [] else (0,1)
theorem sums_start {o:Nat}{bk:List S} (hb:Bk bk o) (wt:Int):SumsOk (pairsB o bk) [([],wt)]:=by
  refine ⟨by simp,fun p hp=>?_⟩
  rw [List.mem_singleton.mp hp]
  exact start_row hb
section
variable {P:Program}{w:World}{K:PySem.W.Frag}{mg:Str→Option Value}{base:Heap}
abbrev sSumA:Stmt:=top 55
theorem scSumA:FnScope ["parts", "order", "weight", "pattern", "sums", "wanted"] ["parts", "order", "weight", "pattern"] (defScope sSumA):=⟨rfl,rfl,rfl,by decide +kernel,rfl,by decide +kernel,by decide +kernel⟩
theorem ndSA:(["parts", "end", "heavy"]:List Str).Nodup:=by decide +kernel
def spSumA (K:PySem.W.Frag):Sp:=fun vs H Q _=>∃ (pd pl:Addr) (o:Nat) (bk:List S) (f:S→S→Int × Int) (wt:Int) (pat:List S),vs=[.ref pd,.int o,.int wt,.ref pl]∧Bk bk o∧PartsAt K H pd (pairsB o bk) f∧Smf f∧H pl=some (.lst (pat.map sv))∧pat.length≤900 ∧
  ∀ H',Same H H'→Q (.int (tots (fun e h=>lft h (lastQ (pairsB o bk) f e)) (Ss (nxOf (pairsB o bk)) f o wt pat))) H'
theorem ok_sumA {f:Addr}{fd:FuncData} (F:Fun K "sum_along" "sum_along" sSumA f fd) (B:Blt mg) (C:Cst2 K mg) (cN:Cal P w K mg base 2 "next_sums" ["parts", "order", "sums", "wanted"] (spNextS K)) (cL:Cal P w K mg base 1 "left_of" ["weight", "part"] (spLeft K)) :
    FnOk P w K mg base CX0 3 f fd ["parts", "order", "weight", "pattern"] (spSumA K):=by
  obtain ⟨aN,hN,tN⟩:=C.nought
  refine F.ok scSumA (fun vs H Q E h=>?_) (fun cdv A outer s H vs Q E hr h=>?_)
  · obtain ⟨pd,pl,o,bk,f,wt,pat,rfl,_⟩:=h; rfl
  · obtain ⟨pd,pl,o,bk,ff,wt,pat,rfl,hb,hP,hS,hpl,hpn,k⟩:=h
    have hu:=hu_of hr
    have nd:=scSumA.nd
    have r1:=hr.mono (j:=1) (by decide)
    refine ⟨_,pss_cons (ps_set (i:=4) nd rfl (Or.inl rfl) (pe_dispK pe_str (pv 2)))
      (pss_cons (ps_for PassesOwn.never rfl (pi_list (pv 3)) (pg_name (i:=5) nd rfl (Or.inl rfl))
          (pss_one (ps_set (i:=4) nd rfl (Or.inl rfl) (pe_cal cN hr rfl (pa_cons (pv 0) (pa_cons (pv 1) (pa_cons (pv 4) (pa_cons (pv 5) pa_nil))))))))
      (pss_one (ps_ret (pe_callB (call_sum rfl) (by rfl) B.sum PyProof.Rows.boot_sum (pa_cons
        (pe_thaw (pe_comp (N:=["parts", "end", "heavy"]) (caps:=[0]) rfl (compScope_of (by kernel_rfl)) (pi_items (pe_bm0K K rfl PySem.F.plainAttrs_dict PySem.F.slot_dict_items PySem.F.type_dict_items mt_items (pv 4)))
          (fun cl X s H ex=>pg_tupK K 2 rfl rfl (pgs_cons (pg_name (i:=1) ndSA rfl (Or.inl rfl)) (pgs_cons (pg_name (i:=2) ndSA rfl (Or.inl rfl)) pgs_nil)) rfl rfl) (fun cl X s H ex=>pf_nil)
          (fun cl X s H ex=>pe_cal cL r1 rfl (pa_cons (pv 2) (pa_cons (pe_dget2 hu (pe_dget hu (pv 0) (pv 1) (fun _ _=>rfl)) pe_str (pe_glob (v:=.ref aN) (by rfl) hN rfl) ⟨rfl,rfl,rfl,rfl⟩) pa_nil))))) pa_nil))))),?_⟩
    intro sd0 hsd0
    have u0:Same H (upd H sd0 (.dK [])):=Same.upd1 hsd0
    refine ⟨_,rfl,upd_same,Sum.inr (tx []),rfl,?_⟩
    have hs0:upd (upd H sd0 (.dK [])) sd0 (.dK [((Sum.inr (tx []):Key),V.int wt)]) sd0=some (.dK (rowV [([],wt)])):=by rw [upd_same]; rfl
    have u1:Same H (upd (upd H sd0 (.dK [])) sd0 (.dK [((Sum.inr (tx []):Key),V.int wt)])):=fun b u e=>by
      rw [upd_ne (ne_of_none e hsd0)]; exact u0 _ _ e
    generalize upd (upd H sd0 (.dK [])) sd0 (.dK [((Sum.inr (tx []):Key),V.int wt)])=H1 at hs0 u1
    refine ⟨_,rfl,pl,rfl,⟨_,.of (u1 _ _ hpl)⟩,?_⟩
    refine for_known (known_list K pl (pat.map sv)) (fun i σ H'=>∃ (sd:Addr) (x5:Option V),σ=[some (.ref pd),some (.int o),some (.int wt),some (.ref pl),some (.ref sd),x5]∧H' sd=some (.dK (rowV (Ss (nxOf (pairsB o bk)) ff o wt (pat.take i))))∧SumsOk (pairsB o bk) (Ss (nxOf (pairsB o bk)) ff o wt (pat.take i))∧Same H H')
      ⟨sd0,_,rfl,hs0,sums_start hb wt,u1⟩ (fun i σ H' _ h=>.of (h.choose_spec.choose_spec.2.2.2 _ _ hpl)) ?_ ?_
    · rintro i y σ H' Nx hNx hy ⟨sd,x5,rfl,hsd,hok,sm⟩
      rw [List.getElem?_map] at hy
      cases ei:pat[i]? with
      | none=>rw [ei] at hy; cases hy
      | some wd =>
      rw [ei] at hy
      have hy2:y=sv wd:=(Option.some.inj hy).symm
      subst hy2
      have hi:i < pat.length:=(List.getElem?_eq_some_iff.mp ei).1
      have etk:pat.take (i+1)=pat.take i++[wd]:=by rw [List.take_succ_eq_append_getElem hi,(List.getElem?_eq_some_iff.mp ei).2]
      refine ⟨_,rfl,_,rfl,_,rfl,_,rfl,pd,sd,o,bk,ff,_,wd,rfl,hb,hP.same sm,hS,hsd,hok,fun fo H2 s2 hfo h2=>hNx _ _ ⟨fo,_,rfl,?_,?_,sm.trans s2⟩⟩
      · rw [etk,Ss_snoc]; exact h2
      · rw [etk,Ss_snoc]; exact hok.step
    · rintro σ H' ⟨sd,x5,rfl,hsd,hok,sm⟩
      rw [List.length_map,List.take_length] at hsd hok
      have hres:=fun H2 (s2:Same H' H2)=>k H2 (sm.trans s2)
      have hP':=hP.same sm
      generalize Ss (nxOf (pairsB o bk)) ff o wt pat=ss at hsd hok hres
      refine ⟨sd,_,hsd,?_⟩
      refine ⟨_,rfl,.inr (.inr (.inl ⟨rfl,.inl ⟨_,hsd⟩⟩)),sd,_,rfl,rfl,hsd,fun p hp=>?_⟩
      have s1:Same H' (upd H' p (VW p sd)):=Same.upd1 hp
      refine ⟨p,sd,_,rfl,upd_same,s1 _ _ hsd,fun ob=>?_⟩
      have h72:=pairs72L hb
      have hsl:=hok.len
      have hlen:(rowV ss).length=ss.length:=encD_len _ _
      generalize hH2:upd (upd H' p (VW p sd)) sd (.frz ob (.dK (rowV ss)))=H2
      have s2:Same (upd H' sd (.frz ob (.dK (rowV ss)))) H2:=fun b u e=>by
        rw [← hH2]
        by_cases hb':b=sd
        · subst hb'; rw [upd_same] at e ⊢; exact e
        · rw [upd_ne hb'] at e ⊢
          exact s1 _ _ e
      refine comp_items [some (.ref pd)] 2 (by rw [hlen]; omega) (fun i acc H3=>Same (upd H' sd (.frz ob (.dK (rowV ss)))) H3∧acc=((ss.take i).map fun q=>lft q.2 (lastQ (pairsB o bk) ff q.1)).map V.int)
        ⟨s2,rfl⟩ (fun i acc H3 _ h=>⟨h.1 _ _ upd_same,by rw [h.2,List.length_map,List.length_map,List.length_take]; omega⟩) ?_ ?_
      · rintro i q T acc H3 ys Nx2 hN2 hq hy ⟨sm3,rfl⟩ hT
        obtain ⟨y1,y2,rfl⟩:=ys2L hy
        unfold rowV encD encK at hq
        rw [List.getElem?_map,List.getElem?_map] at hq
        cases ei:ss[i]? with
        | none=>rw [ei] at hq; cases hq
        | some p0 =>
        rw [ei] at hq
        have hq2:q=(Sum.inr (tx p0.1),V.int p0.2):=(Option.some.inj hq).symm
        subst hq2
        have hmem:p0∈ss:=List.mem_of_getElem? ei
        have hi:i < ss.length:=(List.getElem?_eq_some_iff.mp ei).1
        have etk:ss.take (i+1)=ss.take i++[p0]:=by rw [List.take_succ_eq_append_getElem hi,(List.getElem?_eq_some_iff.mp ei).2]
        have sne:ss≠[]:=fun z=>by rw [z] at hmem; cases hmem
        obtain ⟨l0,hl0⟩:=hok.rows p0 hmem
        have pne:pd≠sd:=fun z=>by
          obtain ⟨pa,_,h2,_⟩:=hP'
          rw [z,hsd] at h2
          exact ref_int (fun a=>⟨_,rfl⟩) (HO.dK.inj (Option.some.inj h2)) sne
        obtain ⟨ra,kv,g1,g2,g3,g4,g5⟩:=hP'.row hl0
        have rne:ra≠sd:=fun z=>by
          rw [z,hsd] at g3
          have h2:=HO.dK.inj (Option.some.inj g3)
          cases kv with
          | nil=>exact sne (List.map_eq_nil_iff.mp (List.map_eq_nil_iff.mp h2))
          | cons q kv =>
            cases ss with
            | nil=>exact sne rfl
            | cons p ss =>
              have h3:=(Prod.mk.inj (List.cons.inj h2).1).2
              obtain ⟨a,ha,_⟩:=g5 q (List.mem_cons_self ..)
              have h4:V.int p.2=q.2:=h3
              rw [ha] at h4; cases h4
        refine ⟨T,[sv p0.1,.int p0.2],rfl,.of upd_same,rfl,_,_,rfl,_,_,rfl,rfl,?_⟩
        generalize hH4:upd H3 T (HO.tup [kV ((Sum.inr (tx p0.1):Key),V.int p0.2).1,((Sum.inr (tx p0.1):Key),V.int p0.2).2])=H4
        have s4:Same H3 H4:=by rw [← hH4]; exact Same.upd1 hT
        have sm4:=sm3.trans s4
        have at4:∀ b u,b≠sd→H' b=some u→H4 b=some u:=fun b u hb' e=>sm4 _ _ (by rw [upd_ne hb']; exact e)
        have hra4:=at4 _ _ rne g3
        have dg4:DGet H4 pd (sv p0.1) (some (.ref ra)):=by
          rcases g1 with ⟨kvs,kk,e1,e2,e3⟩ | ⟨kvs,kk,b,e1,e2,_⟩
          · refine .inl ⟨kvs,kk,?_,e2,e3⟩
            rcases e1 with e1 | ⟨o',e1⟩
            · exact .inl (at4 _ _ pne e1)
            · exact .inr ⟨o',at4 _ _ pne e1⟩
          · cases e2
        have sx4:SameX sd H' H4:=fun b u hb' e=>at4 b u hb' e
        have knd:(kv.map (·.1)).Nodup:=by rw [g4]; exact rowOf_nd _ _
        obtain ⟨v,hv,fv,bv⟩:∃ v,(valV (encD id kv) (Sum.inr (tx []))).getD (.ref aN)=v∧FrA K H4 v (lastQ (pairsB o bk) ff p0.1)∧(0≤(lastQ (pairsB o bk) ff p0.1).1∧(lastQ (pairsB o bk) ff p0.1).1 < 1000000∧0 < (lastQ (pairsB o bk) ff p0.1).2∧(lastQ (pairsB o bk) ff p0.1).2 < 1000000):=by
          refine ⟨_,rfl,?_,?_⟩
          · rw [val_enc]
            unfold lastQ
            by_cases c:(p0.1,[])∈pairsB o bk
            · rw [if_pos c]
              have h1:([]:S)∈kv.map (·.1):=by rw [g4]; exact (nxOf_mem _ _ _).mpr c
              obtain ⟨q,hq,e⟩:=List.mem_map.mp h1
              have h2:getA kv []=some q.2:=(getA_mem knd _ _).mp (by rw [← e]; exact hq)
              rw [h2]
              have h3:=g5 q hq
              rw [e] at h3
              exact sx4.frA (notTup hsd) h3
            · rw [if_neg c]
              have h2:getA kv []=none:=by
                cases e:getA kv [] with
                | none=>rfl
                | some v =>
                  exfalso
                  have h3:=(getA_mem knd _ _).mpr e
                  exact c ((nxOf_mem _ _ _).mp (by rw [← g4]; exact List.mem_map.mpr ⟨_,h3,rfl⟩))
              rw [h2]
              exact ⟨aN,rfl,tN _⟩
          · unfold lastQ
            split
            · exact hS _ _
            · decide
        refine ⟨_,rfl,_,rfl,_,rfl,pd,.ref ra,rfl,dg4,ra,rfl,.inl ⟨_,.inl hra4⟩,_,DGet.k (k:=Sum.inr (tx [])) hra4,p0.2,v,lastQ (pairsB o bk) ff p0.1,?_,fv,bv.1,bv.2.1,bv.2.2.1,bv.2.2.2,?_⟩
        · rw [← hv]; rfl
        · refine hN2 _ _ [some (sv p0.1),some (.int p0.2)] rfl ⟨sm4,?_⟩
          rw [etk,List.map_append,List.map_append]; rfl
      · rintro acc H3 ⟨sm3,rfl⟩ D hD
        rw [hlen,List.take_length]
        have hfz:=sm3 _ _ upd_same
        have hneD:sd≠D:=ne_of_none hfz hD
        have sD:Same H3 (upd H3 D (.lst ((ss.map fun q=>lft q.2 (lastQ (pairsB o bk) ff q.1)).map V.int))):=Same.upd1 hD
        refine ⟨ob,by rw [upd_ne hneD]; exact hfz,?_⟩
        have s7:Same H' (upd (upd H3 D (.lst ((ss.map fun q=>lft q.2 (lastQ (pairsB o bk) ff q.1)).map V.int))) sd (.dK (rowV ss))):=Same.thaw (sm3.trans sD) hsd
        refine ⟨D,_,rfl,.of (by rw [upd_ne hneD.symm,upd_same]),?_⟩
        exact hres _ s7
end
end Kn.Ln
end
section
namespace L2
open PySem PySem.Spec PyProof.Rows
def Itrs (lo c:Int) (n:Nat):It:=⟨fun i _=>i < n,fun i H x H'=>H'=H∧x=.int (lo+(i:Int) * c),fun i _=>n≤i⟩
theorem known_rangeS (lo c:Int) (n:Nat):Known (Itrs lo c n) ((List.range n).map fun (i:Nat)=>V.int (lo+(i:Int) * c)) (fun _=>True) :=
  ⟨fun i H _ hi=>by show i < n; simpa using hi,fun i H x H' _ y=>⟨y.1,fun hi=>by
    have hi':i < n:=by simpa using hi
    rw [List.getElem?_map,List.getElem?_range hi',y.2]; rfl⟩,fun H _=>by show n≤_; simp⟩
theorem turn_rangeS {P:Program}{w:World}{K:PySem.W.Frag}{tg:Expr} (it:Addr) (lo c:Int) (n:Nat):Turn P w K tg (Itrs lo c n) [it] it (fun i h=>IsRangeIter h it (lo+(i:Nat) * c) ((n:Int) - (i:Nat)) c) where
  mem:=by simp
  obj:=fun i h st b hb=>by
    have e:b=it:=by simpa using hb
    subst e
    exact ⟨_,st,fun v z=>by
      have z':Data.fields _=Data.cell v:=z
      cases z'⟩
  keep:=fun i h h' st k=>k it (by simp) _ st
  item:=by
    intro X hP hw hK hc i pins s σ H E I hf st hg
    subst hP hw hK
    obtain ⟨f0,f1,f2,f3,f4,f5⟩:=hf it (by simp)
    have W:=Walks.range (prog:=X.prog) (w:=X.w) (I.ok.hd hc) it lo c n
    refine W.item i s _ _ hg st fun v h' tk hv st' kk=>?_
    obtain ⟨t,rfl⟩:=hv
    have I1:Inv X pins σ H { s with heap:=h',toks:=tk }:=I.turned (fun b o hb e=>kk b o (by simpa using hb) e) f0 f1 f3 f4 f5
    exact ⟨_,rfl,go_of (s:={ s with heap:=h',toks:=tk }) (n := "range_iterator") st' rfl rfl (by decide) ⟨.int (lo+i * c),H,I1,⟨t,rfl⟩,⟨rfl,rfl⟩,st',fun b hb=>(hf b hb).1⟩⟩
  done:=by
    intro X hP hw hK hc i pins s σ H E I hf st hg
    subst hP hw hK
    obtain ⟨f0,f1,f2,f3,f4,f5⟩:=hf it (by simp)
    exact wpAny_pyNext_range_end (I.ok.hd hc) st (by have:n≤i:=hg; omega) fun h' eb=>⟨rfl,I.turned (t':=s.toks) (fun b o hb e=>eb b o hb e) f0 f1 f3 f4 f5⟩
  self:=fun _ _ _ _ _ st h=>wpAny_pyIter_rangeiter st h
section
variable {X:Cx}{tg:Expr}
theorem size_down (a b:Int):Builtin.Range.rangeSize a b (-1)=((a - b).toNat:Int):=by
  unfold Builtin.Range.rangeSize
  rw [if_neg (by decide)]
  split
  · have:(a - b - 1) / (-(-1:Int))=a - b - 1:=by show (a - b - 1) / 1=_; exact Int.ediv_one _
    rw [this]; omega
  · omega
theorem small_down {a b:Int} (ha:-1000≤a) (ha':a < 1000) (hb:-1000≤b) (hb':b < 1000):Builtin.Range.small a b (-1)=true:=by
  unfold Builtin.Range.small
  rw [size_down]
  simp only [Builtin.Range.rangeFitsLong,Bool.and_eq_true,Bool.or_eq_true,decide_eq_true_eq,beq_iff_eq]
  refine ⟨by omega,.inr ?_⟩
  rw [if_neg (by decide)]
  simp only [Bool.and_eq_true,decide_eq_true_eq]
  omega
def iRngD (ta:TA):TI:=fun σ H R=>ta σ H fun vs H1=>∃ i j:Int,vs=[.int i,.int j,.int (-1)]∧(-1000≤i∧i < 1000∧-1000≤j∧j < 1000)∧R (Itrs i (-1) (i - j).toNat) H1
theorem pi_rangeD {a b c:Expr}{ta:TA}{p pos:Pos} (hg:Gl X "range") (hm:X.mg "range" = none) (ha:PA X [a,b,c] ta) (hs:starEach [a,b,c] X.env=[(false,eval a X.env),(false,eval b X.env),(false,eval c X.env)]:=by rfl) (hs2:starEach [b,c] X.env=[(false,eval b X.env),(false,eval c X.env)]:=by rfl) :
    PI X tg (.Call (.Name "range" p) [a,b,c] [] pos) (iRngD ta):=by
  intro pins s σ H R I h
  refine Call_ (ld_blt I hg hm boot_range (PyProof.Rows.callWith_type1 (thn (ha pos pins s σ H _ I h) fun us s1 ⟨vs,H1,I1,r1,q1⟩=>?_) (by rw [hs,hs2]) (by rw [hs2]; rfl)))
  obtain ⟨i,j,e,⟨q1,q2,q3,q4⟩,q⟩:=q1
  subst e
  cases r1 with
  | cons r rr =>
    cases rr with
    | cons r' rr =>
      cases rr with
      | cons r'' rr =>
      cases rr
      obtain ⟨t,rfl⟩:=r
      obtain ⟨t',rfl⟩:=r'
      obtain ⟨t'',rfl⟩:=r''
      refine call_range_3 (by decide) ?_ (.inl (PyProof.noPylong_small (by decide)))
      refine wpAny_pyIter_range (IsRange.new ..) (small_down q1 q2 q3 q4) ?_
      have I2:Inv X pins σ H1 { s1 with heap:=s1.heap.push { cls:=.type "range",data:=.fields #[.int i t,.int j t',.int (-1) t''] },toks:=s1.toks }:=I1.kept fun b o e=>Heap.get?_push_of_some _ e
      refine ⟨(s1.heap.push { cls:=.type "range",data:=.fields #[.int i t,.int j t',.int (-1) t''] }).objs.size,[(s1.heap.push { cls:=.type "range",data:=.fields #[.int i t,.int j t',.int (-1) t''] }).objs.size],_,_,H1,rfl,
        I2.kept (t':=s1.toks) fun b o e=>Heap.get?_push_of_some _ e,turn_rangeS _ i (-1) (i - j).toNat,?_,fun b hb=>?_,q⟩
      · have e1:i+((0:Nat):Int) * (-1)=i:=by simp
        have e2:(((i - j).toNat:Nat):Int) - ((0:Nat):Int)=Builtin.Range.rangeSize i j (-1):=by rw [size_down]; omega
        show IsRangeIter _ _ (i+((0:Nat):Int) * (-1)) ((((i - j).toNat:Nat):Int) - ((0:Nat):Int)) (-1)
        rw [e1,e2]
        exact Heap.get?_push_size _ rfl
      · have e:b=(s1.heap.push { cls:=.type "range",data:=.fields #[.int i t,.int j t',.int (-1) t''] }).objs.size:=by simpa using hb
        subst e
        exact I2.fpOk (Nat.le_refl _) (I2.hok.fresh (Nat.le_refl _))
end
end L2
end
section
namespace Kn.Ln
open PySem L2 Kn
theorem op_in_seqK {X:Cx} (K':PySem.W.Frag) (hK:X.K=K'):OpR X (compareOp .In) (rIn K' false):=by
  subst hK
  exact op_in_seq
theorem filter_snocT {α:Type} (p:α→Bool) (l:List α) (a:α) (h:p a=true):(l++[a]).filter p=l.filter p++[a]:=by
  rw [List.filter_append]; simp [h]
theorem filter_snocF {α:Type} (p:α→Bool) (l:List α) (a:α) (h:p a=false):(l++[a]).filter p=l.filter p:=by
  rw [List.filter_append]; simp [h]
section
variable {P:Program}{w:World}{K:PySem.W.Frag}{mg:Str→Option Value}{base:Heap}
abbrev sLT:Stmt:=top 60
theorem scLT:FnScope ["row", "end", "order", "targets"] ["row", "end", "order", "targets"] (defScope sLT):=⟨rfl,rfl,rfl,by decide +kernel,rfl,by decide +kernel,by decide +kernel⟩
theorem ndLT:(["end", "order", "targets", "letter"]:List Str).Nodup:=by decide +kernel
abbrev towB (o:Nat) (e:S) (T:List S) (l:S):Bool:=decide (l≠[]) && decide (endOf (e++l) o∈T)
def spLT:Sp:=fun vs H Q _=>∃ (ra tl:Addr) (e:S) (o:Nat) (bk T:List S),vs=[.ref ra,sv e,.int o,.ref tl]∧Bk bk o∧(pairsB o bk).length < 64∧H ra=some (.dK (rowV (rowOf (pairsB o bk) e)))∧e.length≤3∧H tl=some (.lst (T.map sv)) ∧
  ∀ (l:Addr) (out:List S) (H':Hp),Same H H'→H l=none→H' l=some (.lst (out.map sv))→out.Pairwise (· < ·)→(∀ x,x∈out↔x≠[]∧(e,x)∈pairsB o bk∧endOf (e++x) o∈T)→Q (.ref l) H'
theorem ok_LT {f:Addr}{fd:FuncData} (F:Fun K "letters_towards" "letters_towards" sLT f fd) (B:Blt mg) (cEnd:Cal P w K mg base 1 "end_of" ["text", "order"] spEnd):FnOk P w K mg base CX0 2 f fd ["row", "end", "order", "targets"] spLT:=by
  refine F.ok scLT (fun vs H Q E h=>?_) (fun cdv A outer s H vs Q E hr h=>?_)
  · obtain ⟨ra,tl,e,o,bk,T,rfl,_⟩:=h; rfl
  · obtain ⟨ra,tl,e,o,bk,T,rfl,hb,h64,hra,hel,htl,k⟩:=h
    have hu:=hu_of hr
    refine ⟨_,pss_one (ps_ret (pe_comp (N:=["end", "order", "targets", "letter"]) (caps:=[1,2,3]) rfl (compScope_of (by kernel_rfl)) (pi_list (pe_callB (call_sortedD rfl) (by rfl) B.sorted PyProof.Rows.boot_sorted (pa_cons (pv 0) pa_nil)))
      (fun cl X s H ex=>pg_name (i:=3) ndLT rfl (Or.inl rfl)) (fun cl X s H ex=>pf_one (PW.pt (pw_and (pt_cmpR op_ne (pv 3) pe_str (nomark _)) (pw_and1 (pt_cmpR (op_in_seqK K rfl) (pe_cal cEnd hr rfl (pa_cons (pe_op op_add_str (pv 0) (pv 3)) (pa_cons (pv 1) pa_nil))) (pv 2) (by with_unfolding_all rfl))))))
      (fun cl X s H ex=>pv 3))),?_⟩
    have ekeys:(((rowOf (pairsB o bk) e).map fun p=>(tx p.1,V.int p.2)).map (·.1))=(nxOf (pairsB o bk) e).map tx:=by rw [List.map_map,List.map_map]; rfl
    have ndt:(((rowOf (pairsB o bk) e).map fun p=>(tx p.1,V.int p.2)).map (·.1)).Nodup:=by
      rw [ekeys]
      exact List.Pairwise.map tx (fun a b hab z=>hab (tx_inj z)) (rowOf_nd _ _)
    have hrl:(rowOf (pairsB o bk) e).length < 64:=by have:=row_len (pairsB o bk) e; omega
    refine ⟨_,rfl,ra,(rowOf (pairsB o bk) e).map (fun p:S × Int=>(tx p.1,V.int p.2)),rfl,hra,ndt,by rw [List.length_map]; exact hrl,fun out l hperm hsrt hl=>?_⟩
    rw [ekeys] at hperm
    have hperm2:(out.map fun x=>x.cps.toList).Perm (nxOf (pairsB o bk) e):=by
      have:=hperm.map fun x:Str=>x.cps.toList
      rw [List.map_map] at this
      have e1:(nxOf (pairsB o bk) e).map ((fun x:Str=>x.cps.toList) ∘ tx)=nxOf (pairsB o bk) e:=by
        conv=>rhs; rw [← List.map_id (nxOf (pairsB o bk) e)]
        apply List.map_congr_left
        intro x _
        exact tx_cps x
      rw [e1] at this
      exact this
    have hsrt2:(out.map fun x=>x.cps.toList).Pairwise (· < ·):=List.pairwise_map.mpr hsrt
    have eout:out=(out.map fun x=>x.cps.toList).map tx:=(strs_eta out).symm
    generalize (out.map fun x=>x.cps.toList)=os at hperm2 hsrt2 eout
    subst eout
    have hol:os.length < 64:=by have:=hperm2.length_eq; rw [List.length_map] at this; omega
    have sl:Same H (upd H l (.lst ((os.map tx).map V.str))):=Same.upd1 hl
    refine ⟨l,rfl,⟨_,.of upd_same⟩,?_⟩
    have hl6:upd H l (.lst ((os.map tx).map V.str)) l=some (.lst ((os.map tx).map V.str)):=upd_same
    have htl6:=sl _ _ htl
    generalize upd H l (.lst ((os.map tx).map V.str))=H6 at hl6 htl6 sl
    refine comp_known (known_list K l ((os.map tx).map V.str)) [some (sv e),some (.int o),some (.ref tl)] 1 (by rw [List.length_map,List.length_map]; omega) (fun i acc H'=>H'=H6∧acc=((os.take i).filter (towB o e T)).map sv)
      ⟨rfl,rfl⟩ (fun i acc H' _ h=>⟨.of (by rw [h.1]; exact hl6),by
        rw [h.2,List.length_map]
        have h1:=List.length_filter_le (towB o e T) (os.take i)
        rw [List.length_take] at h1
        omega⟩) ?_ ?_
    · rintro i y acc H' ys Nx hN hx hy ⟨rfl,rfl⟩
      obtain ⟨y',rfl⟩:=ys1L hy
      rw [List.getElem?_map,List.getElem?_map] at hx
      cases ep:os[i]? with
      | none=>rw [ep] at hx; cases hx
      | some c =>
      rw [ep] at hx
      have hx2:y=sv c:=(Option.some.inj hx).symm
      subst hx2
      have hc1:c.length≤1:=pairB_one ((nxOf_mem _ _ _).mp (hperm2.mem_iff.mp (List.mem_of_getElem? ep)))
      have etk2:os.take (i+1)=os.take i++[c]:=by
        rw [List.take_succ_eq_append_getElem (List.getElem?_eq_some_iff.mp ep).1,(List.getElem?_eq_some_iff.mp ep).2]
      refine ⟨_,rfl,rfl,_,rfl,?_⟩
      by_cases hz:c=[]
      · subst hz
        refine iteNS rfl (iteF (hN _ _ [some (sv [])] rfl ⟨rfl,?_⟩))
        rw [etk2,filter_snocF _ _ _ (by simp [towB])]
      · have hne:¬ V.str (tx c)=V.str "" := fun z=>hz (tx_inj (V.str.inj z))
        have hcl:(tx e).length+(tx c).length≤sizeLine:=by rw [tx_len,tx_len,sizeLine_eq]; omega
        have hll:(e++c).length≤64:=by rw [List.length_append]; omega
        refine ite_nn hne ⟨_,rfl,_,rfl,tx e,tx c,rfl,rfl,hcl,_,rfl,e++c,o,by rw [tx_app]; rfl,hb.o1,hll,_,rfl,tl,bkV T,rfl,.inl (.of htl6),rfl,flat_bkL _,_,rfl,?_⟩
        have e1:(if false=true then !inV (sv (endOf (e++c) o)) (bkV T) else inV (sv (endOf (e++c) o)) (bkV T))=decide (endOf (e++c) o∈T):=by
          rw [if_neg (by simp),inV_bkL]
        rw [e1]
        by_cases hm:endOf (e++c) o∈T
        · refine iteD hm ⟨_,rfl,hN _ _ [some (sv c)] rfl ⟨rfl,?_⟩⟩
          rw [etk2,filter_snocT _ _ _ (by simp [towB,hz,hm]),List.map_append]; rfl
        · refine iteDF hm (hN _ _ [some (sv c)] rfl ⟨rfl,?_⟩)
          rw [etk2,filter_snocF _ _ _ (by simp [towB,hm])]
    · rintro acc H' ⟨rfl,rfl⟩ D hD
      rw [List.length_map,List.length_map,List.take_length]
      have sD:Same H' (upd H' D (.lst ((os.filter (towB o e T)).map sv))):=Same.upd1 hD
      refine k D _ _ (sl.trans sD) (sl.free hD) upd_same (List.Pairwise.filter _ hsrt2) fun x=>?_
      rw [List.mem_filter,hperm2.mem_iff,nxOf_mem,Bool.and_eq_true,decide_eq_true_eq,decide_eq_true_eq]
      exact ⟨fun ⟨a,b,c⟩=>⟨b,a,c⟩,fun ⟨a,b,c⟩=>⟨b,a,c⟩⟩
end
end Kn.Ln
end
section
namespace Kn.Ln
open PySem L2 Kn
theorem op_neDK {X:Cx} (K':PySem.W.Frag) (hK:X.K=K') (hu:X.A.units+64 < cLine):OpR X (compareOp .NotEq) (rEqD K' true):=by
  subst hK
  exact op_neD hu
theorem eqv_nilL (ds:List PyData):PyData.eqv (.list ds) (.list [])=ds.isEmpty:=by
  cases ds with
  | nil=>rfl
  | cons d ds=>rfl
theorem set_last {cv:St}{y x:Option V}{m:Nat} (h:cv.length=m):(cv++[y]).set m x=cv++[x]:=by
  subst h
  rw [List.set_append_right _ _ (Nat.le_refl _),Nat.sub_self]; rfl
theorem get_last {cv:St}{x:Option V}{m:Nat} (h:cv.length=m):(cv++[x])[m]?=some x:=by
  subst h
  rw [List.getElem?_append_right (Nat.le_refl _),Nat.sub_self]; rfl
theorem thaw_ends {σ:St}{H:Hp}{Q:V→Hp→Prop}{d:Addr}{ra:List (S × Addr × List (S × Int))}{tc:TT}{caps:List Nat}{m n:Nat}{cv:St} (hσ:σ[0]?=some (some (.ref d)))
    (r2:H d=some (.dK (encD (fun v:Addr × List (S × Int)=>V.ref v.1) ra))) (hlen:ra.length < 1000) (hcv:capStart caps n σ=cv++List.replicate 1 none) (hm:cv.length=m) (b:S→Bool)
    (test:∀ (r0:S × Addr × List (S × Int)) (ob:Obj) (H5:Hp) (Z:Bool→Hp→Prop),r0∈ra→Same (upd H d (.frz ob (.dK (encD (fun v:Addr × List (S × Int)=>V.ref v.1) ra)))) H5→(∀ H6,Same H5 H6→Z (b r0.1) H6)→tc (cv++[some (sv r0.1)]) H5 Z)
    (k:∀ D H',Same H H'→H D=none→H' D=some (.lst (((ra.map (·.1)).filter b).map sv))→Q (.ref D) H'):tThaw (tComp (iDict (tVar 0)) (gName m) tc (tVar m) caps n) σ H Q:=by
  refine ⟨d,_,r2,_,hσ,d,_,rfl,r2,fun o=>?_⟩
  generalize hkv:encD (fun v:Addr × List (S × Int)=>V.ref v.1) ra=kvs at r2 test
  have hl2:(kvs.map fun p=>kV p.1).length=ra.length:=by rw [List.length_map,← hkv]; exact encD_len _ _
  refine comp_known (known_dict d o kvs) cv 1 (by rw [hl2]; exact hlen) (fun i acc H'=>Same (upd H d (.frz o (.dK kvs))) H'∧acc=(((ra.take i).map (·.1)).filter b).map sv) ⟨Same.refl _,rfl⟩
    (fun i acc H' _ h=>⟨h.1 _ _ upd_same,by
      rw [h.2,List.length_map]
      have h1:=List.length_filter_le b ((ra.take i).map (·.1))
      rw [List.length_map,List.length_take] at h1
      omega⟩) ?_ ?_ hcv
  · rintro i x acc H' ys Nx hN hx hy ⟨sm,rfl⟩
    obtain ⟨y',rfl⟩:=ys1L hy
    rw [← hkv] at hx
    unfold encD encK at hx
    rw [List.getElem?_map,List.getElem?_map,List.getElem?_map] at hx
    cases ei:ra[i]? with
    | none=>rw [ei] at hx; cases hx
    | some r0 =>
    rw [ei] at hx
    have hx2:x=sv r0.1:=(Option.some.inj hx).symm
    subst hx2
    have hi:i < ra.length:=(List.getElem?_eq_some_iff.mp ei).1
    have etk:(ra.take (i+1)).map (·.1)=(ra.take i).map (·.1)++[r0.1]:=by rw [List.take_succ_eq_append_getElem hi,(List.getElem?_eq_some_iff.mp ei).2,List.map_append]; rfl
    show tc ((cv++[y']).set m (some (sv r0.1))) H' _
    rw [set_last hm]
    refine test r0 o H' _ (List.mem_of_getElem? ei) sm fun H6 s6=>?_
    cases hbr:b r0.1 with
    | true =>
      refine iteT ⟨_,get_last hm,hN _ _ [some (sv r0.1)] rfl ⟨sm.trans s6,?_⟩⟩
      rw [etk,filter_snocT _ _ _ hbr,List.map_append]; rfl
    | false =>
      refine iteF (hN _ _ [some (sv r0.1)] rfl ⟨sm.trans s6,?_⟩)
      rw [etk,filter_snocF _ _ _ hbr]
  · rintro acc H' ⟨sm,rfl⟩ D hD
    rw [hl2,List.take_length]
    have hfz:=sm _ _ upd_same
    have hne:d≠D:=ne_of_none hfz hD
    have sD:Same H' (upd H' D (.lst (((ra.map (·.1)).filter b).map sv))):=Same.upd1 hD
    have hDH:H D=none:=by
      have h1:=sm.free hD
      rw [upd_ne hne.symm] at h1; exact h1
    exact ⟨o,by rw [upd_ne hne]; exact hfz,k D _ (Same.thaw (sm.trans sD) r2) hDH (by rw [upd_ne hne.symm,upd_same])⟩
theorem end_row {ps:List (S × S)}{ra:List (S × Addr × List (S × Int))} (r1:ra.map (fun r=>(r.1,r.2.2))=rowsOf ps) (e:S):e∈ra.map (·.1)↔∃ l,(e,l)∈ps:=by
  rw [← (rows_ok ps).has e]
  have hk:ra.map (·.1)=(rowsOf ps).map (·.1):=by rw [← r1,List.map_map]; rfl
  rw [hk]
  constructor
  · intro h
    obtain ⟨q,hq,rfl⟩:=List.mem_map.mp h
    exact ⟨q.2,(getA_mem (rows_ok ps).nd _ _).mp hq⟩
  · rintro ⟨row,h⟩
    exact List.mem_map.mpr ⟨_,(getA_mem (rows_ok ps).nd _ _).mpr h,rfl⟩
theorem dget_row {ps:List (S × S)}{ra:List (S × Addr × List (S × Int))} (r1:ra.map (fun r=>(r.1,r.2.2))=rowsOf ps) {r:S × Addr × List (S × Int)} (hr:r∈ra):valV (encD (fun v:Addr × List (S × Int)=>V.ref v.1) ra) (Sum.inr (tx r.1))=some (.ref r.2.1):=by
  have knd:(ra.map (·.1)).Nodup:=by
    have h:=(rows_ok ps).nd
    rw [← r1,List.map_map] at h
    exact h
  rw [val_enc,(getA_mem knd r.1 r.2).mp hr]; rfl
theorem cl_row {ps:List (S × S)}{o:Nat}:∀ {k:Nat}{e:S},Cl ps o k e→∃ l,(e,l)∈ps
  | 0,e,h=>⟨[],h⟩
  | k+1,e,⟨l,_,h,_⟩=>⟨l,h⟩
theorem let_ok {bk:List S}{o:Nat} (hb:Bk bk o) {e l:S} (h:(e,l)∈pairsB o bk):∀ c∈l,c≤122:=fun c hc=>by
  obtain ⟨nm,hn,hp⟩:=List.mem_flatMap.mp h
  obtain ⟨p,_,e1⟩:=List.mem_map.mp hp
  have e3:(nm.drop p).take 1=l:=congrArg Prod.snd e1
  rw [← e3] at hc
  exact ((hb.nm nm hn).2.2 c (List.mem_of_mem_drop (List.mem_of_mem_take hc))).2
theorem strs_lay {L:List S} (h:∀ x∈L,∀ c∈x,c≤122):SeqAt.shaped (.list (L.map fun x=>PyData.str (tx x)))=true :=
  (shaped_list fun d hd=>by
    obtain ⟨x,hx,rfl⟩:=List.mem_map.mp hd
    exact ⟨strOk_of (h x hx),by show 0≤10; decide⟩).1
theorem strs_rep {K:PySem.W.Frag}{H:Hp}{l:Addr}{L:List S} (h:H l=some (.lst (L.map sv))):Rep K H (.list (L.map fun x=>PyData.str (tx x))) (.ref l):=by
  refine ⟨l,L.map sv,rfl,.of h,?_⟩
  have:=(Reps.strs (K:=K) (H:=H) (ss:=L.map tx) (xs:=L.map sv)).mpr (by rw [List.map_map]; rfl)
  rw [List.map_map] at this
  exact this
theorem row_has (ps:List (S × S)) (e l:S):(valV (rowV (rowOf ps e)) (Sum.inr (tx l))).isSome=decide ((e,l)∈ps):=by
  show (valV (encD V.int (rowOf ps e)) _).isSome=_
  rw [val_enc,rowOf_get]
  by_cases c:0 < ps.count (e,l)
  · rw [if_pos c,decide_eq_true (List.count_pos_iff.mp c)]; rfl
  · rw [if_neg c,decide_eq_false (fun z=>c (List.count_pos_iff.mpr z))]; rfl
abbrev leadB (ps:List (S × S)) (o:Nat) (T:List S) (e:S):Bool:=!((nxOf ps e).filter (towB o e T)).isEmpty
theorem lead_iff {ps:List (S × S)}{o:Nat}{T:List S}{e:S}:leadB ps o T e=true↔∃ l,l≠[]∧(e,l)∈ps∧endOf (e++l) o∈T:=by
  unfold leadB
  rw [Bool.not_eq_true',List.isEmpty_eq_false_iff_exists_mem]
  constructor
  · rintro ⟨l,hl⟩
    obtain ⟨h1,h2⟩:=List.mem_filter.mp hl
    rw [Bool.and_eq_true,decide_eq_true_eq,decide_eq_true_eq] at h2
    exact ⟨l,h2.1,(nxOf_mem _ _ _).mp h1,h2.2⟩
  · rintro ⟨l,h1,h2,h3⟩
    exact ⟨l,List.mem_filter.mpr ⟨(nxOf_mem _ _ _).mpr h2,by rw [Bool.and_eq_true,decide_eq_true_eq,decide_eq_true_eq]; exact ⟨h1,h3⟩⟩⟩
theorem lead_eq {ps:List (S × S)}{o:Nat}{T:List S}{e:S}{out:List S} (h:∀ x,x∈out↔x≠[]∧(e,x)∈ps∧endOf (e++x) o∈T):(!out.isEmpty)=leadB ps o T e:=by
  rw [Bool.eq_iff_iff,lead_iff,Bool.not_eq_true',List.isEmpty_eq_false_iff_exists_mem]
  exact ⟨fun ⟨l,hl⟩=>⟨l,(h l).mp hl⟩,fun ⟨l,hl⟩=>⟨l,(h l).mpr hl⟩⟩
def ClAt (H:Hp) (c:Addr) (ps:List (S × S)) (o:Nat) (cl:List (Addr × List S)):Prop:=H c=some (.lst (cl.map fun q=>V.ref q.1))∧∀ (k:Nat) (q:Addr × List S),cl[k]?=some q→q.1≠c∧H q.1=some (.lst (q.2.map sv))∧∀ e,e∈q.2↔Cl ps o k e
section
variable {P:Program}{w:World}{K:PySem.W.Frag}{mg:Str→Option Value}{base:Heap}
abbrev sCE:Stmt:=top 61
theorem scCE:FnScope ["rows", "order", "length", "closing", "targets"] ["rows", "order", "length"] (defScope sCE):=⟨rfl,rfl,rfl,by decide +kernel,rfl,by decide +kernel,by decide +kernel⟩
theorem ndCE:(["rows", "end"]:List Str).Nodup:=by decide +kernel
theorem ndCF:(["rows", "order", "targets", "end"]:List Str).Nodup:=by decide +kernel
def spCE:Sp:=fun vs H Q _=>∃ (d:Addr) (o n:Nat) (bk:List S),vs=[.ref d,.int o,.int n]∧Bk bk o∧(pairsB o bk).length < 64∧RowsAt H d (pairsB o bk)∧1≤n∧n≤8 ∧
  ∀ (c:Addr) (cl:List (Addr × List S)) (H':Hp),Same H H'→H c=none→ClAt H' c (pairsB o bk) o cl→cl.length=n→Q (.ref c) H'
theorem ok_CE {f:Addr}{fd:FuncData} (F:Fun K "closing_ends" "closing_ends" sCE f fd) (B:Blt mg) (cLT:Cal P w K mg base 2 "letters_towards" ["row", "end", "order", "targets"] spLT):FnOk P w K mg base CX0 3 f fd ["rows", "order", "length"] spCE:=by
  refine F.ok scCE (fun vs H Q E h=>?_) (fun cdv A outer s H vs Q E hr h=>?_)
  · obtain ⟨d,o,n,bk,rfl,_⟩:=h; rfl
  · obtain ⟨d,o,n,bk,rfl,hb,h64,⟨ra,r1,r2,r3⟩,hn1,hn8,k⟩:=h
    have hu:=hu_of hr
    have hun:=hr.units
    have nd:=scCE.nd
    refine ⟨_,pss_cons (ps_set (i:=3) nd rfl (Or.inl rfl) (pe_lst (pa_cons (pe_thaw (pe_comp (N:=["rows", "end"]) (caps:=[0]) rfl (compScope_of (by kernel_rfl)) (pi_dict (pv 0)) (fun cl X s H ex=>pg_name (i:=1) ndCE rfl (Or.inl rfl))
        (fun cl X s H ex=>pf_one (pt_cmp (pc_din hu pe_str (pe_dget hu (pv 0) (pv 1) (fun _ _=>rfl))))) (fun cl X s H ex=>pv 1))) pa_nil)))
      (pss_cons (ps_while PassesOwn.never (pt_cmpR op_lt (pe_callB call_len_seq (by rfl) B.len PySem.boot_len (pa_cons (pv 3) pa_nil)) (pv 2) (nomark _))
        (pss_cons (ps_set (i:=4) nd rfl (Or.inr rfl) (pe_ix ix_list (pv 3) (pe_un un_neg pe_int) (fun _ _=>rfl)))
        (pss_one (ps_expr (pe_bm PySem.F.plainAttrs_list PySem.F.slot_list_append PySem.F.type_list_append mt_append (pv 3) (pa_cons
          (pe_thaw (pe_comp (N:=["rows", "order", "targets", "end"]) (caps:=[0,1,4]) rfl (compScope_of (by kernel_rfl)) (pi_dict (pv 0)) (fun cl X s H ex=>pg_name (i:=3) ndCF rfl (Or.inl rfl))
            (fun cl X s H ex=>pf_one (pt_cmpR (op_neDK K rfl hun) (pe_cal cLT hr rfl (pa_cons (pe_dget hu (pv 0) (pv 3) (fun _ _=>rfl)) (pa_cons (pv 3) (pa_cons (pv 1) (pa_cons (pv 2) pa_nil))))) (pe_lst pa_nil) (nomark _))) (fun cl X s H ex=>pv 3))) pa_nil))))))
      (pss_one (ps_ret (pv 3)))),?_⟩
    have ral:ra.length < 64:=by
      have h1:=keys_len (ps:=pairsB o bk)
      rw [← r1,List.length_map] at h1; omega
    have rne:=row_ne r2 r3
    have dgr:∀ {H0 H5:Hp} {ob:Obj} {r0:S × Addr × List (S × Int)},r0∈ra→H0 d=some (.dK (encD (fun v:Addr × List (S × Int)=>V.ref v.1) ra))→Same (upd H0 d (.frz ob (.dK (encD (fun v:Addr × List (S × Int)=>V.ref v.1) ra)))) H5→DGet H5 d (sv r0.1) (some (.ref r0.2.1)):=fun {H0 H5 ob r0} hr0 _ sm =>
      .inl ⟨_,Sum.inr (tx r0.1),.inr ⟨ob,sm _ _ upd_same⟩,rfl,(dget_row r1 hr0).symm⟩
    refine thaw_ends (d:=d) (ra:=ra) (cv:=[some (.ref d)]) (m:=1) rfl r2 (by omega) rfl rfl (fun e=>decide ((e,[])∈pairsB o bk)) (fun r0 ob H5 Z hr0 sm z=>?_) (fun D H1 s1 hD hD1=>?_)
    · have hrw:H5 r0.2.1=some (.dK (rowV (rowOf (pairsB o bk) r0.1))):=by
        rw [← row_is r1 hr0]
        exact sm _ _ (by rw [upd_ne (rne r0 hr0)]; exact r3 r0 hr0)
      refine ⟨_,rfl,_,rfl,d,.ref r0.2.1,rfl,dgr hr0 r2 sm,r0.2.1,_,rfl,DGet.k (k:=Sum.inr (tx [])) hrw,_,rfl,?_⟩
      rw [row_has]
      exact z _ (Same.refl _)
    refine ⟨by show 1≤sizeLine; decide,fun c hc=>?_⟩
    have s2:Same H1 (upd H1 c (.lst [V.ref D])):=Same.upd1 hc
    have hcH:H c=none:=s1.free hc
    have hDc:D≠c:=ne_of_none hD1 hc
    have mem0:∀ e,e∈(ra.map (·.1)).filter (fun e=>decide ((e,[])∈pairsB o bk))↔Cl (pairsB o bk) o 0 e:=fun e=>by
      rw [List.mem_filter,end_row r1,decide_eq_true_eq]
      exact ⟨fun h=>h.2,fun h=>⟨⟨[],h⟩,h⟩⟩
    refine ⟨fun m σ H'=>∃ (cl:List (Addr × List S)) (x4:Option V),σ=[some (.ref d),some (.int o),some (.int n),some (.ref c),x4]∧ClAt H' c (pairsB o bk) o cl∧1≤cl.length∧cl.length≤n∧m=n - cl.length∧Same H H',
      ⟨n - 1,[(D,(ra.map (·.1)).filter (fun e=>decide ((e,[])∈pairsB o bk)))],_,rfl,⟨upd_same,fun k q hk=>?_⟩,Nat.le_refl _,hn1,rfl,s1.trans s2⟩,?_⟩
    · cases k with
      | zero =>
        have hq:(D,(ra.map (·.1)).filter (fun e=>decide ((e,[])∈pairsB o bk)))=q:=Option.some.inj hk
        subst hq
        exact ⟨hDc,s2 _ _ hD1,mem0⟩
      | succ k=>simp at hk
    rintro m σ H' ⟨cl,x4,rfl,⟨hcl,hck⟩,hc1,hc2,rfl,sm⟩
    refine ⟨_,rfl,c,_,rfl,.inl (.of hcl),_,rfl,_,_,rfl,rfl,_,rfl,?_⟩
    by_cases hlt:cl.length < n
    · refine iteD (by rw [List.length_map]; omega) ⟨fun σ' H''=>∃ (cl':List (Addr × List S)) (x4:Option V),σ'=[some (.ref d),some (.int o),some (.int n),some (.ref c),x4]∧ClAt H'' c (pairsB o bk) o cl'∧cl'.length=cl.length+1∧Same H H'',?_,?_⟩
      · rintro σ' H'' ⟨cl',x4',rfl,h1,h2,h3⟩
        exact ⟨n - (cl.length+1),by omega,cl',_,rfl,h1,by omega,by omega,by omega,h3⟩
      · obtain ⟨cl0,q,rfl⟩:∃ cl0 q,cl=cl0++[q]:=by
          have hne:cl≠[]:=fun z=>by rw [z] at hc1; cases hc1
          exact ⟨cl.dropLast,cl.getLast hne,(List.dropLast_concat_getLast hne).symm⟩
        have hq:(cl0++[q])[cl0.length]?=some q:=by rw [List.getElem?_append_right (Nat.le_refl _),Nat.sub_self]; rfl
        obtain ⟨q1,q2,q3⟩:=hck _ _ hq
        have eat:atI (List.map (fun q:Addr × List S=>V.ref q.1) (cl0++[q])) (-1)=some (V.ref q.1):=by
          rw [List.map_append]
          exact atI_last _ _
        refine ⟨_,rfl,_,rfl,c,_,-1,V.ref q.1,rfl,rfl,.of hcl,eat,?_⟩
        have r2':=sm _ _ r2
        refine ⟨_,rfl,.inl ⟨rfl,_,.of hcl⟩,thaw_ends (d:=d) (ra:=ra) (cv:=[some (.ref d),some (.int o),some (.ref q.1)]) (m:=3) rfl r2' (by omega) rfl rfl (leadB (pairsB o bk) o q.2) (fun r0 ob H5 Z hr0 sm5 z=>?_) (fun D2 H3 s3 hD2 hD3=>?_)⟩
        · have hnd:q.1≠d:=fun z=>by rw [z,r2'] at q2; cases q2
          have hrw:H5 r0.2.1=some (.dK (rowV (rowOf (pairsB o bk) r0.1))):=by
            rw [← row_is r1 hr0]
            exact sm5 _ _ (by rw [upd_ne (rne r0 hr0)]; exact sm _ _ (r3 r0 hr0))
          obtain ⟨l0,hl0⟩:=(end_row r1 r0.1).mp (List.mem_map.mpr ⟨r0,hr0,rfl⟩)
          have hel:r0.1.length≤3:=by have:=pair_end hl0; have:=hb.o3; omega
          refine ⟨_,rfl,_,rfl,d,.ref r0.2.1,rfl,dgr hr0 r2' sm5,_,rfl,_,rfl,_,rfl,r0.2.1,q.1,r0.1,o,bk,q.2,rfl,hb,h64,hrw,hel,sm5 _ _ (by rw [upd_ne hnd]; exact q2),fun l out H6 s6 hl6 hout hris hmem=>?_⟩
          refine ⟨by show 0≤sizeLine; decide,fun e0 he0=>?_⟩
          have s7:Same H6 (upd H6 e0 (.lst [])):=Same.upd1 he0
          refine ⟨.list (out.map fun x=>PyData.str (tx x)),.list [],strs_rep (s7 _ _ hout),⟨e0,[],rfl,.of upd_same,rfl⟩,strs_lay fun x hx=>let_ok hb ((hmem x).mp hx).2.1,rfl,_,rfl,?_⟩
          have e1:(if true=true then !PyData.eqv (.list (out.map fun x=>PyData.str (tx x))) (.list []) else PyData.eqv (.list (out.map fun x=>PyData.str (tx x))) (.list []))=leadB (pairsB o bk) o q.2 r0.1:=by
            rw [if_pos rfl,eqv_nilL,List.isEmpty_map]
            exact lead_eq hmem
          rw [e1]
          exact z _ (s6.trans s7)
        · have hcl3:=s3 _ _ hcl
          have hD2c:D2≠c:=fun z=>by rw [z,hcl] at hD2; cases hD2
          refine ⟨c,_,_,rfl,rfl,hcl3,by rw [List.length_map,sizeLine_eq]; omega,(cl0++[q])++[(D2,(ra.map (·.1)).filter (leadB (pairsB o bk) o q.2))],_,rfl,⟨?_,fun k p hk=>?_⟩,by simp,(sm.trans s3).upd_new hcH⟩
          · rw [upd_same,List.map_append (l₁:=cl0++[q])]; rfl
          · by_cases hkl:k < (cl0++[q]).length
            · rw [List.getElem?_append_left hkl] at hk
              obtain ⟨h1,h2,h3⟩:=hck k p hk
              exact ⟨h1,by rw [upd_ne h1]; exact s3 _ _ h2,h3⟩
            · rw [List.getElem?_append_right (by omega)] at hk
              have hk0:k - (cl0++[q]).length=0:=by
                have:=(List.getElem?_eq_some_iff.mp hk).1
                simp at this
                simp; omega
              rw [hk0] at hk
              have hp:(D2,(ra.map (·.1)).filter (leadB (pairsB o bk) o q.2))=p:=Option.some.inj hk
              subst hp
              refine ⟨hD2c,by rw [upd_ne hD2c]; exact hD3,fun e=>?_⟩
              have ek:k=cl0.length+1:=by simp at hk0 hkl; omega
              rw [ek,List.mem_filter,end_row r1,lead_iff]
              show _↔∃ l,l≠[]∧(e,l)∈pairsB o bk∧Cl (pairsB o bk) o cl0.length (endOf (e++l) o)
              constructor
              · rintro ⟨_,l,g1,g2,g3⟩
                exact ⟨l,g1,g2,(q3 _).mp g3⟩
              · rintro ⟨l,g1,g2,g3⟩
                exact ⟨⟨l,g2⟩,l,g1,g2,(q3 _).mpr g3⟩
    · refine iteDF (by rw [List.length_map]; omega) ⟨_,rfl,k c cl H' sm hcH ⟨hcl,hck⟩ (by omega)⟩
end
end Kn.Ln
end
section
namespace Kn.Ln
open PySem L2 Kn
def Abz (bk:List S):Prop:=∀ nm∈bk,∀ c∈nm,c=97∨c=98∨c=122
theorem lets_3 {o:Nat}{bk:List S} (ha:Abz bk) {L:List S}{e:S} (hr:L.Pairwise (· < ·)) (hm:∀ l∈L,l≠[]∧(e,l)∈pairsB o bk):L.length≤3:=by
  refine nd_le L [[97],[98],[122]] (hr.imp fun {a b} h z=>by rw [z] at h; exact s_irr _ h) fun l hl=>?_
  obtain ⟨h1,h2⟩:=hm l hl
  obtain ⟨c,rfl⟩:=one_of (pairB_one h2) h1
  obtain ⟨nm,hn,hp⟩:=List.mem_flatMap.mp h2
  obtain ⟨p,_,e1⟩:=List.mem_map.mp hp
  have e3:(nm.drop p).take 1=[c]:=congrArg Prod.snd e1
  have hc:c∈nm:=List.mem_of_mem_drop (i:=p) (List.mem_of_mem_take (i:=1) (by rw [e3]; exact List.mem_singleton_self _))
  rcases ha nm hn c hc with rfl | rfl | rfl <;> simp
theorem flat_3 (A:List S) (g:S→List S) (h:∀ t∈A,(g t).length≤3):(A.flatMap g).length≤3 * A.length:=by
  induction A with
  | nil=>simp
  | cons t A ih =>
    rw [List.flatMap_cons,List.length_append,List.length_cons]
    have h1:=h t (List.mem_cons_self ..)
    have h2:=ih fun u hu=>h u (List.mem_cons_of_mem _ hu)
    omega
def LeadL (ps:List (S × S)) (o:Nat) (T:List S) (e:S) (L:List S):Prop:=L.Pairwise (· < ·)∧∀ x,x∈L↔x≠[]∧(e,x)∈ps∧endOf (e++x) o∈T
section
variable {P:Program}{w:World}{K:PySem.W.Frag}{mg:Str→Option Value}{base:Heap}
abbrev sLng:Stmt:=top 62
theorem scLng:FnScope ["rows", "order", "texts", "targets", "leading", "end", "row", "longer", "text"] ["rows", "order", "texts", "targets"] (defScope sLng):=⟨rfl,rfl,rfl,by decide +kernel,rfl,by decide +kernel,by decide +kernel⟩
theorem ndLng:(["text", "letter"]:List Str).Nodup:=by decide +kernel
def spLng:Sp:=fun vs H Q _=>∃ (d ta tl:Addr) (o:Nat) (bk A T:List S),vs=[.ref d,.int o,.ref ta,.ref tl]∧Bk bk o∧Abz bk∧(pairsB o bk).length < 64∧RowsAt H d (pairsB o bk)∧H ta=some (.lst (A.map sv))∧H tl=some (.lst (T.map sv))∧A.length≤100000 ∧
  (∀ t∈A,t.length≤8∧∃ l,(endOf t o,l)∈pairsB o bk) ∧
  ∀ (l:Addr) (lt:S→List S) (H':Hp),Same H H'→H l=none→(∀ e,(∃ l,(e,l)∈pairsB o bk)→LeadL (pairsB o bk) o T e (lt e))→H' l=some (.lst ((A.flatMap fun t=>(lt (endOf t o)).map (t++·)).map sv))→Q (.ref l) H'
theorem ok_Lng {f:Addr}{fd:FuncData} (F:Fun K "lengthened" "lengthened" sLng f fd) (cLT:Cal P w K mg base 2 "letters_towards" ["row", "end", "order", "targets"] spLT) (cEnd:Cal P w K mg base 1 "end_of" ["text", "order"] spEnd):FnOk P w K mg base CX0 3 f fd ["rows", "order", "texts", "targets"] spLng:=by
  refine F.ok scLng (fun vs H Q E h=>?_) (fun cdv A outer s H vs Q E hr h=>?_)
  · obtain ⟨d,ta,tl,o,bk,A,T,rfl,_⟩:=h; rfl
  · obtain ⟨d,ta,tl,o,bk,A,T,rfl,hb,habz,h64,⟨ra,r1,r2,r3⟩,hta,htl,hAl,hAr,k⟩:=h
    have hu:=hu_of hr
    have hr1:=hr.mono (j:=1) (by decide)
    have nd:=scLng.nd
    refine ⟨_,pss_cons (ps_set (i:=4) nd rfl (Or.inl rfl) pe_dnewK)
      (pss_cons (ps_thaw (ps_for PassesOwn.never rfl (pi_items (pe_bm0K K rfl PySem.F.plainAttrs_dict PySem.F.slot_dict_items PySem.F.type_dict_items mt_items (pv 0)))
          (pg_tup rfl (pgs_cons (pg_name (i:=5) nd rfl (Or.inl rfl)) (pgs_cons (pg_name (i:=6) nd rfl (Or.inl rfl)) pgs_nil)))
          (pss_one (ps_dput hu (pv 4) (pv 5) (pe_cal cLT hr rfl (pa_cons (pv 6) (pa_cons (pv 5) (pa_cons (pv 1) (pa_cons (pv 3) pa_nil))))) rfl))))
      (pss_cons (ps_set (i:=7) nd rfl (Or.inl rfl) (pe_lst pa_nil))
      (pss_cons (ps_for PassesOwn.never rfl (pi_list (pv 2)) (pg_name (i:=8) nd rfl (Or.inr rfl))
          (pss_one (ps_expr (pe_bm PySem.F.plainAttrs_list PySem.F.slot_list_extend PySem.F.type_list_extend mt_extend (pv 7) (pa_cons
            (pe_comp (N:=["text", "letter"]) (caps:=[8]) rfl (compScope_of (by kernel_rfl)) (pi_list (pe_dget hu (pv 4) (pe_cal cEnd hr1 rfl (pa_cons (pv 8) (pa_cons (pv 1) pa_nil))) (fun _ _=>rfl)))
              (fun cl X s H ex=>pg_name (i:=1) ndLng rfl (Or.inl rfl)) (fun cl X s H ex=>pf_nil) (fun cl X s H ex=>pe_op op_add_str (pv 0) (pv 1))) pa_nil)))))
      (pss_one (ps_ret (pv 7)))))),?_⟩
    intro ld hld
    have sH1:Same H (upd H ld (.dK [])):=Same.upd1 hld
    have hd1:=sH1 _ _ r2
    have hdld:ld≠d:=(ne_of_none r2 hld).symm
    refine ⟨d,_,hd1,?_⟩
    refine ⟨_,rfl,.inr (.inr (.inl ⟨rfl,.inl ⟨_,hd1⟩⟩)),d,_,rfl,rfl,hd1,fun p hp=>?_⟩
    have hppd:p≠ld:=fun z=>by subst z; rw [upd_same] at hp; cases hp
    have sH2:Same (upd H ld (.dK [])) (upd (upd H ld (.dK [])) p (VW p d)):=Same.upd1 hp
    refine ⟨p,d,_,rfl,upd_same,sH2 _ _ hd1,fun ob=>?_⟩
    have rne:=row_ne r2 r3
    generalize hkv:encD (fun v:Addr × List (S × Int)=>V.ref v.1) ra=kvs at r2 hd1
    generalize hH3:upd (upd (upd H ld (.dK [])) p (VW p d)) d (.frz ob (.dK kvs))=H3
    have s3:Same (upd H d (.frz ob (.dK kvs))) H3:=fun b u e=>by
      rw [← hH3]
      by_cases hb':b=d
      · subst hb'; rw [upd_same] at e ⊢; exact e
      · rw [upd_ne hb'] at e ⊢
        exact sH2 _ _ (sH1 _ _ e)
    have hld3:H3 ld=some (.dK (encD (fun v:Addr × List S=>V.ref v.1) [])):=by
      rw [← hH3,upd_ne hdld,upd_ne hppd.symm,upd_same]; rfl
    have hld0:upd H d (.frz ob (.dK kvs)) ld=none:=by rw [upd_ne hdld]; exact hld
    have ral:ra.length < 64:=by
      have h1:=keys_len (ps:=pairsB o bk)
      rw [← r1,List.length_map] at h1; omega
    have htld:tl≠d:=fun z=>by rw [z,r2] at htl; cases htl
    have knd0:(ra.map (·.1)).Nodup:=by
      have h:=(rows_ok (pairsB o bk)).nd
      rw [← r1,List.map_map] at h
      exact h
    refine for_items (fun i σ H'=>(∃ x5 x6 x7 x8:Option V,σ=[some (.ref d),some (.int o),some (.ref ta),some (.ref tl),some (.ref ld),x5,x6,x7,x8])∧Same (upd H d (.frz ob (.dK kvs))) H'∧∃ pa:List (S × Addr × List S),H' ld=some (.dK (encD (fun v:Addr × List S=>V.ref v.1) pa))∧pa.map (·.1)=(ra.take i).map (·.1)∧∀ r∈pa,H' r.2.1=some (.lst (r.2.2.map sv))∧LeadL (pairsB o bk) o T r.1 r.2.2)
      ⟨⟨_,_,_,_,rfl⟩,s3,[],hld3,rfl,fun r hr=>by cases hr⟩ (fun i σ H' _ h=>h.2.1 _ _ upd_same) ?_ ?_
    · rintro i q T0 σ H' Nx hN hq ⟨⟨x5,x6,x7,x8,rfl⟩,sm,pa,hpa,hpk,hpr⟩ hT0
      rw [← hkv] at hq
      unfold encD encK at hq
      rw [List.getElem?_map,List.getElem?_map] at hq
      cases ei:ra[i]? with
      | none=>rw [ei] at hq; cases hq
      | some r0 =>
      rw [ei] at hq
      have hq2:q=(Sum.inr (tx r0.1),V.ref r0.2.1):=(Option.some.inj hq).symm
      subst hq2
      have hmem:r0∈ra:=List.mem_of_getElem? ei
      have hi:i < ra.length:=(List.getElem?_eq_some_iff.mp ei).1
      have etk:ra.take (i+1)=ra.take i++[r0]:=by rw [List.take_succ_eq_append_getElem hi,(List.getElem?_eq_some_iff.mp ei).2]
      have h0r:upd H d (.frz ob (.dK kvs)) r0.2.1=some (.dK (rowV r0.2.2)):=by rw [upd_ne (rne r0 hmem)]; exact r3 r0 hmem
      refine ⟨T0,[sv r0.1,.ref r0.2.1],rfl,.of upd_same,rfl,_,_,rfl,_,_,rfl,rfl,?_⟩
      generalize hH4:upd H' T0 (HO.tup [kV ((Sum.inr (tx r0.1):Key),V.ref r0.2.1).1,((Sum.inr (tx r0.1):Key),V.ref r0.2.1).2])=H4
      have s4:Same H' H4:=by rw [← hH4]; exact Same.upd1 hT0
      have sm4:=sm.trans s4
      have hrw:H4 r0.2.1=some (.dK (rowV (rowOf (pairsB o bk) r0.1))):=by rw [← row_is r1 hmem]; exact sm4 _ _ h0r
      obtain ⟨l0,hl0⟩:=(end_row r1 r0.1).mp (List.mem_map.mpr ⟨r0,hmem,rfl⟩)
      have hel:r0.1.length≤3:=by have:=pair_end hl0; have:=hb.o3; omega
      refine ⟨_,rfl,_,rfl,_,rfl,_,rfl,r0.2.1,tl,r0.1,o,bk,T,rfl,hb,h64,hrw,hel,sm4 _ _ (by rw [upd_ne htld]; exact htl),fun l out H5 s5 hl5 hout hris hmem2=>?_⟩
      have s45:=s4.trans s5
      have hpa5:=s45 _ _ hpa
      have hlld:l≠ld:=fun z=>by rw [z] at hl5; rw [s4 _ _ hpa] at hl5; cases hl5
      have knd:(pa.map (·.1)).Nodup:=by
        rw [hpk,List.map_take]
        exact knd0.sublist (List.take_sublist _ _)
      have fresh:r0.1 ∉ pa.map (·.1):=fun h1=>by
        rw [hpk] at h1
        have h2:((ra.take (i+1)).map (·.1)).Nodup:=by rw [List.map_take]; exact knd0.sublist (List.take_sublist _ _)
        rw [etk,List.map_append] at h2
        exact (List.nodup_append.mp h2).2.2 _ h1 _ (by simp) rfl
      refine ⟨_,rfl,_,rfl,ld,_,rfl,DPut.k (k:=Sum.inr (tx r0.1)) hpa5 (by rw [encD_len,← List.length_map (f:=(·.1)),hpk,List.length_map,List.length_take,sizeLine_eq]; omega),?_⟩
      have eput:=put_enc (fun v:Addr × List S=>V.ref v.1) pa r0.1 (l,out) knd
      rw [putA_new pa _ _ fresh] at eput
      have sx:SameX ld H5 (upd H5 ld (.dK (putK (encD (fun v:Addr × List S=>V.ref v.1) pa) (Sum.inr (tx r0.1)) (V.ref l)))):=(SameX.refl _).updf
      refine hN _ _ ⟨⟨_,_,_,_,rfl⟩,fun b u e=>?_,pa++[(r0.1,l,out)],?_,?_,fun r hr=>?_⟩
      · have hb':b≠ld:=fun z=>by rw [z,hld0] at e; cases e
        exact sx _ _ hb' (s5 _ _ (sm4 _ _ e))
      · rw [upd_same]
        exact congrArg (fun z=>some (HO.dK z)) eput
      · rw [List.map_append,hpk,etk,List.map_append]; rfl
      · rcases List.mem_append.mp hr with z | z
        · obtain ⟨g1,g2⟩:=hpr r z
          have g3:=s45 _ _ g1
          have hne:r.2.1≠ld:=fun z=>by rw [z,hpa5] at g3; cases g3
          exact ⟨sx _ _ hne g3,g2⟩
        · have hr2:r=(r0.1,l,out):=List.mem_singleton.mp z
          subst hr2
          exact ⟨sx _ _ hlld hout,hris,hmem2⟩
    · rintro σ H' ⟨⟨x5,x6,x7,x8,rfl⟩,sm,pa,hpa,hpk,hpr⟩
      refine ⟨ob,sm _ _ upd_same,?_⟩
      have sfin:Same H (upd H' d (.dK kvs)):=Same.thaw sm r2
      have hpa':upd H' d (.dK kvs) ld=some (.dK (encD (fun v:Addr × List S=>V.ref v.1) pa)):=by rw [upd_ne hdld]; exact hpa
      have hpr':∀ r∈pa,upd H' d (.dK kvs) r.2.1=some (.lst (r.2.2.map sv))∧LeadL (pairsB o bk) o T r.1 r.2.2:=fun r hr=>by
        obtain ⟨g1,g2⟩:=hpr r hr
        have hne:r.2.1≠d:=fun z=>by rw [z,sm _ _ upd_same] at g1; cases g1
        exact ⟨by rw [upd_ne hne]; exact g1,g2⟩
      have hel:(encD (fun v:Addr × List (S × Int)=>V.ref v.1) ra).length=ra.length:=encD_len _ _
      rw [← hkv,hel,List.take_length] at hpk
      clear hpr hpa sm
      generalize upd H' d (.dK kvs)=H4 at sfin hpa' hpr'
      clear H'
      have knd:(pa.map (·.1)).Nodup:=by rw [hpk]; exact knd0
      have hlt:∀ e,(∃ l,(e,l)∈pairsB o bk)→∃ r∈pa,r.1=e∧getA pa e=some r.2:=fun e he=>by
        have h1:=(end_row r1 e).mpr he
        rw [← hpk] at h1
        obtain ⟨r,hr,rfl⟩:=List.mem_map.mp h1
        exact ⟨r,hr,rfl,(getA_mem knd _ _).mp hr⟩
      have hlead:∀ e,(∃ l,(e,l)∈pairsB o bk)→LeadL (pairsB o bk) o T e (((getA pa e).map (·.2)).getD []):=fun e he=>by
        obtain ⟨r,hr,rfl,hg⟩:=hlt e he
        rw [hg]
        exact (hpr' r hr).2
      refine ⟨by show 0≤sizeLine; decide,fun lo hlo=>?_⟩
      have s5:Same H4 (upd H4 lo (.lst [])):=Same.upd1 hlo
      have hloH:H lo=none:=sfin.free hlo
      have hlold:lo≠ld:=fun z=>by rw [z,hpa'] at hlo; cases hlo
      refine ⟨_,rfl,ta,rfl,⟨_,.of (s5 _ _ (sfin _ _ hta))⟩,?_⟩
      have htaH4:=sfin _ _ hta
      have htalo:ta≠lo:=ne_of_none htaH4 hlo
      refine for_known (known_list K ta (A.map sv)) (fun i σ H'=>(∃ x5 x6 x8:Option V,σ=[some (.ref d),some (.int o),some (.ref ta),some (.ref tl),some (.ref ld),x5,x6,some (.ref lo),x8])∧SameX lo (upd H4 lo (.lst [])) H'∧H' lo=some (.lst (((A.take i).flatMap fun t=>(((getA pa (endOf t o)).map (·.2)).getD []).map (t++·)).map sv)))
        ⟨⟨_,_,_,rfl⟩,SameX.refl _,upd_same⟩ (fun i σ H' _ h=>.of (h.2.1 _ _ htalo (s5 _ _ htaH4))) ?_ ?_
      · rintro i x σ H' Nx hN hx ⟨⟨x5,x6,x8,rfl⟩,sx,hlo'⟩
        rw [List.getElem?_map] at hx
        cases ei:A[i]? with
        | none=>rw [ei] at hx; cases hx
        | some t =>
        rw [ei] at hx
        have hx2:x=sv t:=(Option.some.inj hx).symm
        subst hx2
        have hi:i < A.length:=(List.getElem?_eq_some_iff.mp ei).1
        have etk:A.take (i+1)=A.take i++[t]:=by rw [List.take_succ_eq_append_getElem hi,(List.getElem?_eq_some_iff.mp ei).2]
        obtain ⟨ht8,hrow⟩:=hAr t (List.mem_of_getElem? ei)
        obtain ⟨r,hr,hre,hg⟩:=hlt _ hrow
        obtain ⟨g1,g2⟩:=hpr' r hr
        have hr1lo:r.2.1≠lo:=ne_of_none g1 hlo
        have g1':=sx _ _ hr1lo (s5 _ _ g1)
        have hpaH:=sx _ _ hlold.symm (s5 _ _ hpa')
        have dg:DGet H' ld (sv (endOf t o)) (some (.ref r.2.1)):=by
          have:=DGet.k (k:=Sum.inr (tx (endOf t o))) hpaH
          rw [val_enc,hg] at this
          exact this
        refine ⟨_,rfl,.inl ⟨rfl,_,.of hlo'⟩,_,rfl,_,rfl,_,rfl,t,o,rfl,hb.o1,by omega,ld,.ref r.2.1,rfl,dg,r.2.1,rfl,⟨_,.of g1'⟩,?_⟩
        have h3:r.2.2.length≤3:=lets_3 habz (e:=r.1) g2.1 fun l hl=>⟨((g2.2 l).mp hl).1,((g2.2 l).mp hl).2.1⟩
        refine comp_known0 (known_list K r.2.1 (r.2.2.map sv)) [some (sv t)] 1 (by rw [List.length_map]; omega) (fun j acc H6=>H6=H'∧acc=((r.2.2.take j).map (t++·)).map sv)
          ⟨rfl,rfl⟩ (fun j acc H6 _ h=>⟨.of (by rw [h.1]; exact g1'),by rw [h.2,List.length_map,List.length_map,List.length_take]; omega⟩) ?_ ?_
        · rintro j y acc H6 ys Nx2 hN2 hy hys ⟨rfl,rfl⟩
          obtain ⟨y',rfl⟩:=ys1L hys
          rw [List.getElem?_map] at hy
          cases ej:r.2.2[j]? with
          | none=>rw [ej] at hy; cases hy
          | some c =>
          rw [ej] at hy
          have hy2:y=sv c:=(Option.some.inj hy).symm
          subst hy2
          have hj:j < r.2.2.length:=(List.getElem?_eq_some_iff.mp ej).1
          have hc1:c.length≤1:=pairB_one ((g2.2 c).mp (List.mem_of_getElem? ej)).2.1
          refine ⟨_,rfl,_,rfl,tx t,tx c,rfl,rfl,by rw [tx_len,tx_len,sizeLine_eq]; omega,hN2 _ _ [some (sv c)] rfl ⟨rfl,?_⟩⟩
          rw [List.take_succ_eq_append_getElem hj,(List.getElem?_eq_some_iff.mp ej).2,List.map_append,List.map_append,tx_app]; rfl
        · rintro acc H6 ⟨rfl,rfl⟩ D hD
          rw [List.length_map,List.take_length]
          have sD:Same H6 (upd H6 D (.lst ((r.2.2.map (t++·)).map sv))):=Same.upd1 hD
          have hlen:(((A.take i).flatMap fun t=>(((getA pa (endOf t o)).map (·.2)).getD []).map (t++·)).map sv).length+((r.2.2.map (t++·)).map sv).length≤sizeLine:=by
            have h4:=flat_3 (A.take i) (fun t=>(((getA pa (endOf t o)).map (·.2)).getD []).map (t++·)) fun u hu=>by
              obtain ⟨_,hrow2⟩:=hAr u (List.mem_of_mem_take hu)
              have g3:=hlead _ hrow2
              rw [List.length_map]
              exact lets_3 habz (e:=endOf u o) g3.1 fun l hl=>⟨((g3.2 l).mp hl).1,((g3.2 l).mp hl).2.1⟩
            rw [List.length_take] at h4
            rw [List.length_map,List.length_map,List.length_map,sizeLine_eq]; omega
          refine ⟨lo,D,_,_,rfl,rfl,sD _ _ hlo',upd_same,hlen,hN _ _ ⟨⟨_,_,_,rfl⟩,(sx.trans (SameX.of sD)).updf,?_⟩⟩
          rw [upd_same,etk,List.flatMap_append,← List.map_append]
          have e1:((getA pa (endOf t o)).map (·.2)).getD []=r.2.2:=by rw [hg]; rfl
          simp [e1]
      · rintro σ H' ⟨⟨x5,x6,x8,rfl⟩,sx,hlo'⟩
        rw [List.length_map,List.take_length] at hlo'
        refine ⟨_,rfl,k lo (fun e=>((getA pa e).map (·.2)).getD []) H' (fun b u e=>?_) hloH hlead hlo'⟩
        have hbl:b≠lo:=ne_of_none e hloH
        exact sx _ _ hbl (s5 _ _ (sfin _ _ e))
end
end Kn.Ln
end
section
namespace L2
open PySem PySem.Spec PyProof.Rows
theorem log2_lt_of {i:Int}{n:Nat} (h0:0 < i) (h:i < 2 ^ n):i.natAbs.log2 < n:=by
  refine (Nat.log2_lt (by omega)).mpr ?_
  have e:((2 ^ n:Nat):Int)=(2:Int) ^ n:=by simp
  have:(i.natAbs:Int) < ((2 ^ n:Nat):Int):=by rw [e]; omega
  omega
theorem op_fdivG {X:Cx}:OpR X (binaryOp .FloorDiv) (rI (fun _ j=>0 < j∧j < 2 ^ 8000) fun i j=>.int (i / j)):=opI fun i j _ _ _ _ _ hc q=>by
  have h1:(0:Int) < j:=hc.1
  exact floordiv_int (by omega) (by rw [Int.fdiv_eq_ediv_of_nonneg i (by omega)]; exact q) (.inl (PyProof.noPylong_of_log2 (Nat.lt_of_lt_of_le (log2_lt_of h1 hc.2) (by decide))))
end L2
end
section
namespace Kn.Ln
open PySem L2 Kn
theorem pow_mono2 {a b:Nat} (h:a≤b):(2:Int) ^ a≤2 ^ b:=by
  have h3:2 ^ a≤2 ^ b:=Nat.pow_le_pow_right (by decide) h
  have h4:((2 ^ a:Nat):Int)=(2:Int) ^ a:=by simp
  have h5:((2 ^ b:Nat):Int)=(2:Int) ^ b:=by simp
  rw [← h4,← h5]; exact Int.ofNat_le.mpr h3
section
variable {P:Program}{w:World}{K:PySem.W.Frag}{mg:Str→Option Value}{base:Heap}
def spGcdG:Sp:=fun vs H Q _=>∃ u d:Int,vs=[.int u,.int d]∧0≤u∧0 < d∧Q (.int (gcdI u d)) H
def spLowG:Sp:=fun vs H Q _=>∃ u d:Int,vs=[.int u,.int d]∧0≤u∧0 < d∧d < 2 ^ 8000∧∀ p,H p=none→Q (.ref p) (upd H p (frO (low u d)))
theorem gcdG_imp {vs:List V}{H:Hp}{Q:VK}{E:XK} (h:spGcd vs H Q E):spGcdG vs H Q E:=by
  obtain ⟨u,d,rfl,h1,h2,h3,k⟩:=h
  exact ⟨u,d,rfl,h1,h2,k⟩
theorem lowG_imp {vs:List V}{H:Hp}{Q:VK}{E:XK} (h:spLow vs H Q E):spLowG vs H Q E:=by
  obtain ⟨u,d,rfl,h1,h2,h3,k⟩:=h
  refine ⟨u,d,rfl,h1,h2,?_,k⟩
  have h4:=pow_mono2 (a:=30) (b:=8000) (by decide)
  have h5:(2:Int) ^ 30=1073741824:=by decide
  omega
theorem ok_gcdG {f:Addr}{fd:FuncData} (F:Fun K "greatest_divisor" "greatest_divisor" sGcd f fd):FnOk P w K mg base CX0 1 f fd ["one", "other"] spGcdG:=by
  refine F.ok scGcd (fun vs H Q E h=>?_) (fun cdv A outer s H vs Q E hr h=>?_)
  · obtain ⟨a,b,rfl,_⟩:=h; rfl
  · obtain ⟨u,d,rfl,hu0,hd0,k⟩:=h
    have nd:=scGcd.nd
    refine ⟨_,pss_cons (ps_while PassesOwn.never (pt_cmpR op_ne (pv 1) pe_int (nomark _))
        (pss_cons (ps_set (i:=2) nd rfl (Or.inl rfl) (pe_op op_mod (pv 0) (pv 1))) (pss_cons (ps_set (i:=0) nd rfl (Or.inl rfl) (pv 1)) (pss_one (ps_set (i:=1) nd rfl (Or.inl rfl) (pv 2))))))
      (pss_one (ps_ret (pv 0))),?_⟩
    refine ⟨fun m σ H'=>H'=H∧∃ (a b:Int) (r:Option V),σ=[some (.int a),some (.int b),r]∧m=b.toNat∧0≤a∧0≤b∧Int.gcd a b=Int.gcd u d,⟨_,rfl,u,d,none,rfl,rfl,hu0,Int.le_of_lt hd0,rfl⟩,?_⟩
    rintro m σ H' ⟨rfl,a,b,r,rfl,rfl,ha,hb,hg⟩
    refine ⟨_,rfl,rfl,_,rfl,?_⟩
    by_cases hz:b=0
    · subst hz
      refine iteNS rfl ⟨_,rfl,?_⟩
      have e:a=gcdI u d:=by
        unfold gcdI
        rw [← hg]
        obtain ⟨x,rfl⟩:=Int.eq_ofNat_of_zero_le ha
        simp
      show Q (.int a) H'
      rw [e]
      exact k
    · have hb0:0 < b:=by omega
      have hne:¬ (V.int b=V.int 0):=fun z=>hz (V.int.inj z)
      have et:(!decide (V.int b=V.int 0))=true:=by rw [decide_eq_false hne]; rfl
      show if (!decide (V.int b=V.int 0))=true then _ else _
      rw [if_pos et]
      refine ⟨fun σ' H''=>H''=H'∧σ'=[some (.int b),some (.int (a % b)),some (.int (a % b))],?_,?_⟩
      · rintro σ' H'' ⟨rfl,rfl⟩
        have h1:=Int.emod_nonneg a hz
        have h2:=Int.emod_lt_of_pos a hb0
        exact ⟨(a % b).toNat,by omega,rfl,b,a % b,_,rfl,rfl,hb,h1,by rw [gcd_step ha hb0]; exact hg⟩
      · exact ⟨_,rfl,_,rfl,_,_,rfl,rfl,hb0,_,rfl,_,rfl,rfl,rfl⟩
theorem ok_lowG {f:Addr}{fd:FuncData} (F:Fun K "lowest" "lowest" sLow f fd) (c1:Cal P w K mg base 1 "greatest_divisor" ["one", "other"] spGcdG):FnOk P w K mg base CX0 2 f fd ["up", "down"] spLowG:=by
  refine F.ok scLow (fun vs H Q E h=>?_) (fun cdv A outer s H vs Q E hr h=>?_)
  · obtain ⟨a,b,rfl,_⟩:=h; rfl
  · obtain ⟨u,d,rfl,hu0,hd0,hd1,k⟩:=h
    have nd:=scLow.nd
    refine ⟨_,pss_cons (ps_set (i:=2) nd rfl (Or.inl rfl) (pe_cal c1 hr rfl (pa_cons (pv 0) (pa_cons (pv 1) pa_nil))))
      (pss_one (ps_ret (pe_tup (pa_cons (pe_op op_fdivG (pv 0) (pv 2)) (pa_cons (pe_op op_fdivG (pv 1) (pv 2)) pa_nil))))),?_⟩
    have g1:=gcdI_pos (u:=u) hd0
    have g2:gcdI u d≤d:=Int.le_of_dvd hd0 (Int.gcd_dvd_right ..)
    refine ⟨_,rfl,_,rfl,u,d,rfl,hu0,hd0,?_⟩
    exact ⟨_,rfl,_,rfl,_,_,rfl,rfl,⟨g1,by omega⟩,_,rfl,_,rfl,_,_,rfl,rfl,⟨g1,by omega⟩,by show 2≤sizeLine; decide,k⟩
def spNeedWhole:Sp:=fun vs H Q _=>∃ o a b:Nat,vs=[.int o,.int a,.int b]∧a≤o∧o≤b∧Q .non H
abbrev sNeedWhole:Stmt:=top 19
theorem scNeedWhole:FnScope ["thing", "least", "most"] ["thing", "least", "most"] (defScope sNeedWhole):=⟨rfl,rfl,rfl,by decide +kernel,rfl,by decide +kernel,by decide +kernel⟩
theorem ok_needwhole {f:Addr}{fd:FuncData} (F:Fun K "need_whole" "need_whole" sNeedWhole f fd) (c1:Cal P w K mg base 1 "is_whole" ["thing", "least", "most"] spIsWhole):FnOk P w K mg base CX0 2 f fd ["thing", "least", "most"] spNeedWhole:=by
  refine F.ok scNeedWhole (fun vs H Q E h=>?_) (fun cdv A outer s H vs Q E hr h=>?_)
  · obtain ⟨o,a,b,rfl,_⟩:=h; rfl
  · obtain ⟨o,a,b,rfl,n1,n2,k⟩:=h
    refine ⟨_,pss_one (ps_if (pt_not (pt_val (pe_cal c1 hr rfl (pa_cons (pv 0) (pa_cons (pv 1) (pa_cons (pv 2) pa_nil)))))) (pss_one ps_never) pss_nil),?_⟩
    exact ⟨_,rfl,_,rfl,_,rfl,o,a,b,rfl,n1,n2,true,rfl,iteF k⟩
def spNeedLen:Sp:=fun vs H Q _=>∃ n:Nat,vs=[.int n]∧1≤n∧n≤8∧Q .non H
abbrev sNeedLen:Stmt:=top 57
theorem scNeedLen:FnScope ["thing"] ["thing"] (defScope sNeedLen):=⟨rfl,rfl,rfl,by decide +kernel,rfl,by decide +kernel,by decide +kernel⟩
theorem ok_needlen {f:Addr}{fd:FuncData} (F:Fun K "need_length" "need_length" sNeedLen f fd) (C:Cst K mg) (c1:Cal P w K mg base 2 "need_whole" ["thing", "least", "most"] spNeedWhole):FnOk P w K mg base CX0 3 f fd ["thing"] spNeedLen:=by
  obtain ⟨t8,h8⟩:=C.ml
  refine F.ok scNeedLen (fun vs H Q E h=>?_) (fun cdv A outer s H vs Q E hr h=>?_)
  · obtain ⟨n,rfl,_⟩:=h; rfl
  · obtain ⟨n,rfl,n1,n2,k⟩:=h
    refine ⟨_,pss_one (ps_expr (pe_cal c1 hr rfl (pa_cons (pv 0) (pa_cons pe_int (pa_cons (pe_glob (v:=.int 8) (by rfl) h8 ⟨_,rfl⟩) pa_nil))))),?_⟩
    exact ⟨_,rfl,n,1,8,rfl,n1,n2,k⟩
theorem made_list (ps:List (S × S)) (O1:Ones ps) (o n:Nat):∃ M:List S,M.Nodup∧∀ x,x∈M↔Made ps o n x :=
  ⟨_,(Tx_nodup (lts ps) O1 o n).filter _,fun x=>(made_iff (lts ps) O1 o n x).symm⟩
theorem made_len {ps:List (S × S)}{o n:Nat}{M M':List S} (h1:M.Nodup) (h2:∀ x,x∈M↔Made ps o n x) (h3:M'.Nodup) (h4:∀ x,x∈M'↔Made ps o n x):M.length=M'.length :=
  (perm_of h1 h3 fun x=>by rw [h2,h4]).length_eq
theorem rep_flat (n:Nat):(List.replicate n [V.str ""]).flatten=(List.replicate n ([]:S)).map sv:=by
  induction n with
  | zero=>rfl
  | succ n ih=>rw [List.replicate_succ,List.flatten_cons,ih,List.replicate_succ,List.map_cons]; rfl
abbrev sHMR:Stmt:=top 58
theorem scHMR:FnScope ["rows", "order", "length"] ["rows", "order", "length"] (defScope sHMR):=⟨rfl,rfl,rfl,by decide +kernel,rfl,by decide +kernel,by decide +kernel⟩
def IsMany (ps:List (S × S)) (o n N:Nat):Prop:=∀ M:List S,M.Nodup→(∀ x,x∈M↔Made ps o n x)→N=M.length
def spHMR:Sp:=fun vs H Q _=>∃ (d:Addr) (o n:Nat) (bk:List S),vs=[.ref d,.int o,.int n]∧Bk bk o∧RowsAt H d (pairsB o bk)∧n≤8∧∀ (N:Nat) (H':Hp),Same H H'→IsMany (pairsB o bk) o n N→Q (.int N) H'
theorem ok_HMR {f:Addr}{fd:FuncData} (F:Fun K "how_many_by_rows" "how_many_by_rows" sHMR f fd) (hA:∃ t,mg "ANY" = some (.str "" t)) (cE:Cal P w K mg base 1 "even_parts" ["rows"] (spEven K)) (cS:Cal P w K mg base 3 "sum_along" ["parts", "order", "weight", "pattern"] (spSumA K)):FnOk P w K mg base CX0 4 f fd ["rows", "order", "length"] spHMR:=by
  obtain ⟨u,hA⟩:=hA
  refine F.ok scHMR (fun vs H Q E h=>?_) (fun cdv A outer s H vs Q E hr h=>?_)
  · obtain ⟨d,o,n,bk,rfl,_⟩:=h; rfl
  · obtain ⟨d,o,n,bk,rfl,hb,R,hn8,k⟩:=h
    have r1:=hr.mono (j:=1) (by decide)
    have h72:=pairs72L hb
    refine ⟨_,pss_one (ps_ret (pe_cal cS hr rfl (pa_cons (pe_cal cE r1 rfl (pa_cons (pv 0) pa_nil)) (pa_cons (pv 1) (pa_cons pe_int (pa_cons (pe_op op_rep (pe_lst (pa_cons (pe_glob (v:=.str "") (by rfl) hA ⟨_,rfl⟩) pa_nil)) (pv 2)) pa_nil)))))),?_⟩
    refine ⟨_,rfl,d,pairsB o bk,rfl,R,by omega,fun pd H1 s1 hpd hP=>?_⟩
    refine ⟨_,rfl,by show 1≤sizeLine; decide,fun l0 hl0=>?_⟩
    have s2:Same H1 (upd H1 l0 (.lst [V.str ""])):=Same.upd1 hl0
    refine ⟨_,rfl,l0,n,[V.str ""],rfl,rfl,upd_same,by omega,by omega,by rw [sizeLine_eq]; show 1 * (n:Int).toNat≤_; omega,fun pl hpl=>?_⟩
    have s3:Same (upd H1 l0 (.lst [V.str ""])) (upd (upd H1 l0 (.lst [V.str ""])) pl (.lst (List.replicate (n:Int).toNat [V.str ""]).flatten)):=Same.upd1 hpl
    refine ⟨pd,pl,o,bk,fun _ _=>(1,1),1,List.replicate n [],rfl,hb,(hP.same s2).same s3,fun _ _=>(by decide:(0:Int)≤1∧(1:Int) < 1000000∧(0:Int) < 1∧(1:Int) < 1000000),?_,by rw [List.length_replicate]; omega,fun H4 s4=>?_⟩
    · rw [upd_same]
      have:(n:Int).toNat=n:=by omega
      rw [this,rep_flat]
    · obtain ⟨M,hM1,hM2⟩:=made_list (pairsB o bk) (ones_B o bk) o n
      have e:tots (fun e h=>lft h (lastQ (pairsB o bk) (fun _ _=>(1,1)) e)) (Ss (nxOf (pairsB o bk)) (fun _ _=>(1,1)) o 1 (List.replicate n []))=(M.length:Int):=all_count (lts _) (ones_B o bk) hM1 hM2
      rw [e]
      exact k M.length H4 ((s1.trans s2).trans (s3.trans s4)) fun M' h1 h2=>made_len hM1 hM2 h1 h2
abbrev sHM:Stmt:=top 59
theorem scHM:FnScope ["book", "order", "length"] ["book", "order", "length"] (defScope sHM):=⟨rfl,rfl,rfl,by decide +kernel,rfl,by decide +kernel,by decide +kernel⟩
def spHM:Sp:=fun vs H Q _=>∃ (a:Addr) (bk:List S) (o n:Nat),vs=[.ref a,.int o,.int n]∧H a=some (.tup (bkV bk))∧Bk bk o∧1≤n∧n≤8∧∀ (N:Nat) (H':Hp),Same H H'→IsMany (pairsB o bk) o n N→Q (.int N) H'
structure NeedL (P:Program) (w:World) (K:PySem.W.Frag) (mg:Str→Option Value) (base:Heap):Prop where
  bk:Cal P w K mg base 3 "need_book" ["thing"] spNeedBook
  od:Cal P w K mg base 3 "need_order" ["thing"] spNeedOrder
  ln:Cal P w K mg base 3 "need_length" ["thing"] spNeedLen
  rows:Cal P w K mg base 3 "counted_rows" ["book", "order"] spRows
theorem ok_HM {f:Addr}{fd:FuncData} (F:Fun K "how_many" "how_many" sHM f fd) (N:NeedL P w K mg base) (cH:Cal P w K mg base 4 "how_many_by_rows" ["rows", "order", "length"] spHMR):FnOk P w K mg base CX0 5 f fd ["book", "order", "length"] spHM:=by
  refine F.ok scHM (fun vs H Q E h=>?_) (fun cdv A outer s H vs Q E hr h=>?_)
  · obtain ⟨a,bk,o,n,rfl,_⟩:=h; rfl
  · obtain ⟨a,bk,o,n,rfl,ha,hb,hn1,hn8,k⟩:=h
    have r3:=hr.mono (j:=3) (by decide)
    refine ⟨_,pss_cons (ps_expr (pe_cal N.bk r3 rfl (pa_cons (pv 0) pa_nil))) (pss_cons (ps_expr (pe_cal N.od r3 rfl (pa_cons (pv 1) pa_nil))) (pss_cons (ps_expr (pe_cal N.ln r3 rfl (pa_cons (pv 2) pa_nil)))
      (pss_one (ps_ret (pe_cal cH hr rfl (pa_cons (pe_cal N.rows r3 rfl (pa_cons (pv 0) (pa_cons (pv 1) pa_nil))) (pa_cons (pv 1) (pa_cons (pv 2) pa_nil)))))))),?_⟩
    refine ⟨_,rfl,a,bk,rfl,ha,hb.toisBk,fun H1 s1=>?_⟩
    refine ⟨_,rfl,o,rfl,hb.o1,hb.o3,?_⟩
    refine ⟨_,rfl,n,rfl,hn1,hn8,?_⟩
    refine ⟨_,rfl,_,rfl,a,bk,o,rfl,s1 _ _ ha,hb.hi,hb.l8,hb.o1,fun d H2 s2 hd R=>?_⟩
    exact ⟨_,rfl,_,rfl,d,o,n,bk,rfl,hb,R,hn8,fun N H3 s3 hN=>k N H3 ((s1.trans s2).trans s3) hN⟩
abbrev sAM:Stmt:=top 63
theorem scAM:FnScope ["book", "order", "length", "rows", "closing", "texts", "left"] ["book", "order", "length"] (defScope sAM):=⟨rfl,rfl,rfl,by decide +kernel,rfl,by decide +kernel,by decide +kernel⟩
def spAM:Sp:=fun vs H Q _=>∃ (a:Addr) (bk:List S) (o n:Nat),vs=[.ref a,.int o,.int n]∧H a=some (.tup (bkV bk))∧Bk bk o∧Abz bk∧(pairsB o bk).length < 64∧1≤n∧n≤8 ∧
  ∀ (l:Addr) (A:List S) (H':Hp),Same H H'→H l=none→H' l=some (.lst (A.map sv))→AllT (pairsB o bk) o n n A→A.length≤3 ^ n→Q (.ref l) H'
theorem ok_AM {f:Addr}{fd:FuncData} (F:Fun K "all_made" "all_made" sAM f fd) (B:Blt mg) (N:NeedL P w K mg base) (cC:Cal P w K mg base 3 "closing_ends" ["rows", "order", "length"] spCE) (cL:Cal P w K mg base 3 "lengthened" ["rows", "order", "texts", "targets"] spLng):FnOk P w K mg base CX0 4 f fd ["book", "order", "length"] spAM:=by
  refine F.ok scAM (fun vs H Q E h=>?_) (fun cdv A outer s H vs Q E hr h=>?_)
  · obtain ⟨a,bk,o,n,rfl,_⟩:=h; rfl
  · obtain ⟨a,bk,o,n,rfl,ha,hb,habz,h64,hn1,hn8,k⟩:=h
    have nd:=scAM.nd
    refine ⟨_,pss_cons (ps_expr (pe_cal N.bk hr rfl (pa_cons (pv 0) pa_nil))) (pss_cons (ps_expr (pe_cal N.od hr rfl (pa_cons (pv 1) pa_nil))) (pss_cons (ps_expr (pe_cal N.ln hr rfl (pa_cons (pv 2) pa_nil)))
      (pss_cons (ps_set (i:=3) nd rfl (Or.inl rfl) (pe_cal N.rows hr rfl (pa_cons (pv 0) (pa_cons (pv 1) pa_nil))))
      (pss_cons (ps_set (i:=4) nd rfl (Or.inl rfl) (pe_cal cC hr rfl (pa_cons (pv 3) (pa_cons (pv 1) (pa_cons (pv 2) pa_nil)))))
      (pss_cons (ps_set (i:=5) nd rfl (Or.inl rfl) (pe_lst (pa_cons pe_str pa_nil)))
      (pss_cons (ps_for PassesOwn.never rfl (pi_rangeD rfl B.range (pa_cons (pe_op op_sub (pv 2) pe_int) (pa_cons (pe_un un_neg pe_int) (pa_cons (pe_un un_neg pe_int) pa_nil)))) (pg_name (i:=6) nd rfl (Or.inl rfl))
          (pss_one (ps_set (i:=5) nd rfl (Or.inl rfl) (pe_cal cL hr rfl (pa_cons (pv 3) (pa_cons (pv 1) (pa_cons (pv 5) (pa_cons (pe_ix ix_list (pv 4) (pv 6) (fun _ _=>rfl)) pa_nil))))))))
      (pss_one (ps_ret (pv 5))))))))),?_⟩
    refine ⟨_,rfl,a,bk,rfl,ha,hb.toisBk,fun H1 s1=>?_⟩
    refine ⟨_,rfl,o,rfl,hb.o1,hb.o3,?_⟩
    refine ⟨_,rfl,n,rfl,hn1,hn8,?_⟩
    refine ⟨_,rfl,_,rfl,a,bk,o,rfl,s1 _ _ ha,hb.hi,hb.l8,hb.o1,fun d H2 s2 hd R=>?_⟩
    refine ⟨_,rfl,_,rfl,_,rfl,d,o,n,bk,rfl,hb,h64,R,hn1,hn8,fun c cl H3 s3 hc hcl hcn=>?_⟩
    have s13:=(s1.trans s2).trans s3
    refine ⟨by show 1≤sizeLine; decide,fun t0 ht0=>?_⟩
    have s4:Same H3 (upd H3 t0 (.lst [V.str ""])):=Same.upd1 ht0
    refine ⟨_,rfl,_,_,rfl,rfl,_,rfl,_,rfl,(n:Int) - 1,-1,rfl,⟨by omega,by omega,by decide,by decide⟩,?_⟩
    have enn:((n:Int) - 1 - -1).toNat=n:=by omega
    have t0H:H t0=none:=s13.free ht0
    obtain ⟨hc1,hc2⟩:=hcl
    refine for_known (known_rangeS _ _ _) (fun i σ H'=>∃ (tt:Addr) (x6:Option V) (A:List S),σ=[some (.ref a),some (.int o),some (.int n),some (.ref d),some (.ref c),some (.ref tt),x6]∧H tt=none∧H' tt=some (.lst (A.map sv))∧AllT (pairsB o bk) o n i A∧A.length≤3 ^ i∧Same H3 H')
      ⟨t0,_,[[]],rfl,t0H,upd_same,AllT.start _ _ _,by simp,s4⟩ (fun _ _ _ _ _=>trivial) ?_ ?_
    · rintro i x σ H' Nx hN hx ⟨tt,x6,A,rfl,htt,hA,hAT,hAl,sm⟩
      rw [enn] at hx
      have hi:i < n:=by
        have:=(List.getElem?_eq_some_iff.mp hx).1
        simpa using this
      rw [List.getElem?_map,List.getElem?_range hi] at hx
      have hx2:x=V.int ((n - 1 - i:Nat):Int):=by
        have h1:V.int ((n:Int) - 1+(i:Int) * -1)=x:=Option.some.inj hx
        rw [← h1]
        congr 1
        omega
      subst hx2
      obtain ⟨q,hq⟩:∃ q,cl[n - 1 - i]?=some q:=⟨_,List.getElem?_eq_getElem (by omega)⟩
      obtain ⟨_,q2,q3⟩:=hc2 _ _ hq
      have hat:atI (cl.map fun q=>V.ref q.1) ((n - 1 - i:Nat):Int)=some (V.ref q.1):=atI_nat (by rw [List.getElem?_map,hq]; rfl)
      have hl3:A.length≤6561:=by
        have h1:3 ^ i≤3 ^ 8:=Nat.pow_le_pow_right (by decide) (by omega)
        have h2:3 ^ 8=6561:=by decide
        omega
      have hArow:∀ t∈A,t.length≤8∧∃ l,(endOf t o,l)∈pairsB o bk:=fun t ht=>by
        obtain ⟨g1,g2,g3⟩:=hAT.snd t ht
        refine ⟨by omega,?_⟩
        by_cases hi0:0 < i
        · exact cl_row (g3 hi0)
        · have:t=[]:=List.length_eq_zero_iff.mp (by omega)
          rw [this]
          have e0:endOf ([]:S) o=[]:=by unfold endOf; simp
          rw [e0]
          exact start_row hb
      refine ⟨_,rfl,_,rfl,_,rfl,_,rfl,_,rfl,c,_,((n - 1 - i:Nat):Int),V.ref q.1,rfl,rfl,.of (sm _ _ hc1),hat,d,tt,q.1,o,bk,A,q.2,rfl,hb,habz,h64,(R.same s3).same sm,hA,sm _ _ q2,by omega,hArow,fun l lt H5 s5 hl hlead hres=>?_⟩
      have hlt:∀ t∈A,LeadL (pairsB o bk) o q.2 (endOf t o) (lt (endOf t o)):=fun t ht=>hlead _ (hArow t ht).2
      refine hN _ _ ⟨l,_,_,rfl,(s13.trans sm).free hl,hres,hAT.step (ones_B o bk) hi lt (fun t ht=>(hlt t ht).1) (fun t ht x=>?_),?_,sm.trans s5⟩
      · rw [(hlt t ht).2,q3,show n - (i+1)=n - 1 - i by omega]
      · have h1:=flat_3 A (fun t=>(lt (endOf t o)).map (t++·)) fun t ht=>by
          rw [List.length_map]
          exact lets_3 habz (e:=endOf t o) (hlt t ht).1 fun x hx=>⟨(((hlt t ht).2 x).mp hx).1,(((hlt t ht).2 x).mp hx).2.1⟩
        rw [Nat.pow_succ]; omega
    · rintro σ H' ⟨tt,x6,A,rfl,htt,hA,hAT,hAl,sm⟩
      rw [List.length_map,List.length_range,enn] at hAT hAl
      exact ⟨_,rfl,k tt A H' (s13.trans sm) htt hA hAT hAl⟩
end
end Kn.Ln
end
section
namespace Kn.Ln
open PySem L2 Kn
theorem comp_nilK {J:It}{items:List V}{Hk:Hp→Prop} (kn:Known J items Hk) {caps:List Nat}{m n:Nat}{σ:St}{tc:TT}{H1:Hp}{F:List V→Hp→Prop} (cv:St) (hn:items.length < 1000)
    (hk:∀ H',Same H1 H'→Hk H') (test:∀ (i:Nat) (x:V) (H5:Hp) (Z:Bool→Hp→Prop),items[i]?=some x→Same H1 H5→(∀ H6,Same H5 H6→Z false H6)→tc (cv++[some x]) H5 Z)
    (k:∀ H',Same H1 H'→F [] H') (hcv:capStart caps n σ=cv++List.replicate 1 none:=by rfl) (hm:cv.length=m:=by rfl) :
    ∃ W:Nat→Nat→List V→St→Hp→Prop,(∃ m,W 0 m [] (capStart caps n σ) H1)∧∀ i m' acc σ' H',W i m' acc σ' H' →
      (J.stop i H'∧F acc H') ∨
      (J.go i H'∧acc.length < sizeLine∧∀ x H2,J.yld i H' x H2→gName m x σ' H2 fun σ2 H3=>tc σ2 H3 fun b H4=>if b=true then tVar m σ2 H4 fun y H5=>∃ m'',m'' < m'∧W (i+1) m'' (acc++[y]) σ2 H5 else ∃ m'',m'' < m'∧W (i+1) m'' acc σ2 H4):=by
  refine comp_known kn cv 1 hn (fun i acc H'=>Same H1 H'∧acc=[]) ⟨Same.refl _,rfl⟩ (fun i acc H' _ h=>⟨hk H' h.1,by rw [h.2]; exact Nat.zero_le _⟩) ?_ ?_ hcv
  · rintro i x acc H' ys Nx hN hx hy ⟨sm,rfl⟩
    obtain ⟨y',rfl⟩:=ys1L hy
    show tc ((cv++[y']).set m (some x)) H' _
    rw [set_last hm]
    exact test i x H' _ hx sm fun H6 s6=>iteF (hN _ _ [some x] rfl ⟨sm.trans s6,rfl⟩)
  · rintro acc H' ⟨sm,rfl⟩
    exact k H' sm
end Kn.Ln
end
section
namespace Kn.Ln
open PySem L2 Kn
def Mks (bk:List S) (o:Nat) (nm:S):Prop:=0 < (shareOf (pairsB o bk) o nm).1
instance (bk:List S) (o:Nat) (nm:S):Decidable (Mks bk o nm):=by unfold Mks; infer_instance
def IsTop (bk:List S) (nm:S):Option Nat→Prop
  | none=>∀ o,1≤o→o≤3→¬ Mks bk o nm
  | some o=>1≤o∧o≤3∧Mks bk o nm∧∀ p,o < p→p≤3→¬ Mks bk p nm
def mkrs (bks:List (List S)) (o:Nat) (nm:S):List Nat:=(List.range bks.length).filter fun i=>match bks[i]? with | some t=>decide (Mks t o nm) | none=>false
def mkrsTo (bks:List (List S)) (o:Nat) (nm:S) (i:Nat):List Nat:=(List.range i).filter fun i=>match bks[i]? with | some t=>decide (Mks t o nm) | none=>false
theorem mkrs_step {bks:List (List S)}{o:Nat}{nm:S}{i:Nat}{t:List S} (e:bks[i]?=some t):mkrsTo bks o nm (i+1)=mkrsTo bks o nm i++if Mks t o nm then [i] else []:=by
  unfold mkrsTo
  rw [List.range_succ,List.filter_append]
  congr 1
  by_cases h:Mks t o nm
  · rw [if_pos h]; simp [List.filter,e,h]
  · rw [if_neg h]; simp [List.filter,e,h]
section
variable {P:Program}{w:World}{K:PySem.W.Frag}{mg:Str→Option Value}{base:Heap}
def spGO:Sp:=fun vs H Q _=>∃ (a:Addr) (bk:List S) (nm:S),vs=[.ref a,sv nm]∧H a=some (.tup (bkV bk))∧isBk bk∧isNm nm∧(∀ o,1≤o→o≤3→Fit bk o nm)∧∀ r H',Same H H'→IsTop bk nm r→Q (optV r) H'
abbrev sGO:Stmt:=top 40
theorem scGO:FnScope ["book", "name", "order"] ["book", "name"] (defScope sGO):=⟨rfl,rfl,rfl,by decide +kernel,rfl,by decide +kernel,by decide +kernel⟩
theorem ok_GO {f:Addr}{fd:FuncData} (F:Fun K "greatest_order" "greatest_order" sGO f fd) (B:Blt mg) (C:Cst K mg) (cNB:Cal P w K mg base 3 "need_book" ["thing"] spNeedBook) (cNN:Cal P w K mg base 2 "need_name" ["thing"] spNeedName) (cM:Cal P w K mg base 7 "makes" ["book", "order", "name"] spMakes) :
    FnOk P w K mg base CX0 8 f fd ["book", "name"] spGO:=by
  obtain ⟨t3,h3⟩:=C.mo
  refine F.ok scGO (fun vs H Q E h=>?_) (fun cdv A outer s H vs Q E hr h=>?_)
  · obtain ⟨a,bk,nm,rfl,_⟩:=h; rfl
  · obtain ⟨a,bk,nm,rfl,ha,hb,hn,hf,k⟩:=h
    have nd:=scGO.nd
    have hr3:=hr.mono (j:=3) (by decide)
    have hr2:=hr.mono (j:=2) (by decide)
    refine ⟨_,pss_cons (ps_expr (pe_cal cNB hr3 rfl (pa_cons (pv 0) pa_nil))) (pss_cons (ps_expr (pe_cal cNN hr2 rfl (pa_cons (pv 1) pa_nil)))
      (pss_cons (ps_for PassesOwn.never rfl (pi_rangeD rfl B.range (pa_cons (pe_glob (v:=.int 3) (by rfl) h3 ⟨_,rfl⟩) (pa_cons pe_int (pa_cons (pe_un un_neg pe_int) pa_nil)))) (pg_name (i:=2) nd rfl (Or.inl rfl))
        (pss_one (ps_if (pt_val (pe_cal cM hr rfl (pa_cons (pv 0) (pa_cons (pv 2) (pa_cons (pv 1) pa_nil))))) (pss_one (ps_ret (pv 2))) pss_nil)))
      (pss_one (ps_ret pe_non)))),?_⟩
    refine ⟨_,rfl,a,bk,rfl,ha,hb,fun H1 s1=>?_⟩
    refine ⟨_,rfl,nm,rfl,hn,fun H2 s2=>?_⟩
    have s12:=s1.trans s2
    refine ⟨_,rfl,3,0,rfl,⟨by decide,by decide,by decide,by decide⟩,?_⟩
    refine for_known (known_rangeS _ _ _) (fun i σ H'=>(∃ x2:Option V,σ=[some (.ref a),some (sv nm),x2])∧Same H2 H'∧∀ p,3 < p+i→p≤3→¬ Mks bk p nm)
      ⟨⟨_,rfl⟩,Same.refl _,fun p h1 h2=>by omega⟩ (fun _ _ _ _ _=>trivial) ?_ ?_
    · rintro i x σ H' Nx hN hx ⟨⟨x2,rfl⟩,sm,hno⟩
      have hi:i < 3:=by
        have:=(List.getElem?_eq_some_iff.mp hx).1
        simpa using this
      have hx2:x=.int ((3 - i:Nat):Int):=by
        rcases (by omega:i=0∨i=1∨i=2) with rfl | rfl | rfl <;> exact (Option.some.inj hx).symm
      subst hx2
      refine ⟨_,rfl,_,rfl,_,rfl,a,bk,3 - i,nm,rfl,(s12.trans sm) _ _ ha,hf (3 - i) (by omega) (by omega),fun H3 s3=>⟨_,rfl,?_⟩⟩
      by_cases hm:Mks bk (3 - i) nm
      · exact iteD hm ⟨_,rfl,k (some (3 - i)) H3 (s12.trans (sm.trans s3)) ⟨by omega,by omega,hm,fun p h1 h2=>hno p (by omega) h2⟩⟩
      · refine iteDF hm (hN _ _ ⟨⟨_,rfl⟩,sm.trans s3,fun p h1 h2=>?_⟩)
        by_cases e:p=3 - i
        · rw [e]; exact hm
        · exact hno p (by omega) h2
    · rintro σ H' ⟨⟨x2,rfl⟩,sm,hno⟩
      exact k none H' (s12.trans sm) fun p h1 h2=>hno p (by show 3 < p+3; omega) h2
def spMkrs:Sp:=fun vs H Q _=>∃ (l:Addr) (bks:List (Addr × List S)) (o:Nat) (nm:S),vs=[.ref l,.int o,sv nm]∧BksAt H l bks∧bks.length≤100∧1≤o∧o≤3∧isNm nm∧(∀ p∈bks,Fit p.2 o nm) ∧
  ∀ a H',Same H H'→H' a=some (.lst (ivs (mkrsTo (bks.map (·.2)) o nm bks.length)))→Q (.ref a) H'
abbrev sMkrs:Stmt:=top 38
theorem scMkrs:FnScope ["books", "order", "name"] ["books", "order", "name"] (defScope sMkrs):=⟨rfl,rfl,rfl,by decide +kernel,rfl,by decide +kernel,by decide +kernel⟩
theorem ndMk:(["order", "name", "place", "book"]:List Str).Nodup:=by decide +kernel
theorem ok_mkrs {f:Addr}{fd:FuncData} (F:Fun K "makers" "makers" sMkrs f fd) (hen:mg "enumerate" = none) (cNB:Cal P w K mg base 4 "need_books" ["thing"] spNeedBooks) (cNO:Cal P w K mg base 3 "need_order" ["thing"] spNeedOrder) (cNN:Cal P w K mg base 2 "need_name" ["thing"] spNeedName)
    (cM:Cal P w K mg base 7 "makes" ["book", "order", "name"] spMakes):FnOk P w K mg base CX0 8 f fd ["books", "order", "name"] spMkrs:=by
  refine F.ok scMkrs (fun vs H Q E h=>?_) (fun cdv A outer s H vs Q E hr h=>?_)
  · obtain ⟨l,bks,o,nm,rfl,_⟩:=h; rfl
  · obtain ⟨l,bks,o,nm,rfl,hb,h100,ho1,ho3,hn,hf,k⟩:=h
    have hr4:=hr.mono (j:=4) (by decide)
    have hr3:=hr.mono (j:=3) (by decide)
    have hr2:=hr.mono (j:=2) (by decide)
    refine ⟨_,pss_cons (ps_expr (pe_cal cNB hr4 rfl (pa_cons (pv 0) pa_nil))) (pss_cons (ps_expr (pe_cal cNO hr3 rfl (pa_cons (pv 1) pa_nil))) (pss_cons (ps_expr (pe_cal cNN hr2 rfl (pa_cons (pv 2) pa_nil)))
      (pss_one (ps_ret (pe_comp (N:=["order", "name", "place", "book"]) (caps:=[1,2]) rfl (compScope_of (by kernel_rfl)) (pi_enum rfl hen (pa_cons (pv 0) pa_nil))
          (fun cl C s H ex=>pg_tupK K 2 rfl rfl (pgs_cons (pg_name (i:=2) ndMk rfl (Or.inl rfl)) (pgs_cons (pg_name (i:=3) ndMk rfl (Or.inl rfl)) pgs_nil)) rfl rfl)
          (fun cl C s H ex=>pf_one (pt_val (pe_cal cM hr rfl (pa_cons (pv 3) (pa_cons (pv 0) (pa_cons (pv 1) pa_nil))))))
          (fun cl C s H ex=>pv 2)))))),?_⟩
    refine ⟨_,rfl,l,bks,rfl,hb,fun p hp=>(hf p hp).toBk.toisBk,fun H1 s1=>?_⟩
    refine ⟨_,rfl,o,rfl,ho1,ho3,?_⟩
    refine ⟨_,rfl,nm,rfl,hn,fun H2 s2=>?_⟩
    have s02:=s1.trans s2
    have hb2:=hb.same s02
    have hlen:(bks.map fun p=>V.ref p.1).length=bks.length:=List.length_map ..
    refine ⟨_,rfl,l,_,rfl,hb2.lst,?_⟩
    refine comp_pairs (J:=Ite K l) (xs:=ivs (List.range bks.length)) (ys:=bks.map fun p=>V.ref p.1) (len:=bks.length) (Hk:=fun H'=>SqL K H' l (bks.map fun p=>V.ref p.1))
      (fun i H' hk hi=>⟨_,(bks.map fun p=>V.ref p.1)[i]'(by rw [hlen]; exact hi),hk,List.getElem?_eq_getElem _⟩) (fun i H' hk e=>⟨_,hk,by rw [hlen,e]⟩)
      (fun i H' x H'' hk ⟨T,y,e1,e2,e3,e4⟩=>⟨T,.int i,y,e1,e2,e3,by
        have hi:i < bks.length:=by
          have:=(List.getElem?_eq_some_iff.mp (e4 _ hk)).1
          rw [hlen] at this; exact this
        unfold ivs; rw [List.getElem?_map,List.getElem?_range hi]; rfl,e4 _ hk⟩)
      [some (.int o),some (sv nm)] 2 (by omega) (fun i acc H'=>Same H2 H'∧acc=ivs (mkrsTo (bks.map (·.2)) o nm i))
      ⟨Same.refl _,rfl⟩ (fun i acc H' _ h=>⟨.of (h.1 _ _ hb2.lst),by rw [h.2]; unfold ivs mkrsTo; rw [List.length_map]; exact Nat.le_trans (List.length_filter_le ..) (by rw [List.length_range]; exact Nat.le_refl _)⟩) ?_ ?_
    · rintro i x y T acc H' zs Nx hN hx hy hz ⟨sm,rfl⟩ hT
      obtain ⟨z1,z2,rfl⟩:=ys2 hz
      obtain ⟨p,ep,rfl⟩:=bks_item hy
      have hi:i < bks.length:=(List.getElem?_eq_some_iff.mp ep).1
      have hx2:x=.int i:=by
        unfold ivs at hx
        rw [List.getElem?_map,List.getElem?_range hi] at hx
        exact (Option.some.inj hx).symm
      subst hx2
      have hp:=List.mem_of_getElem? ep
      have t1:Same H' (upd H' T (.tup [.int (i:Int),.ref p.1])):=Same.upd1 hT
      have sm1:=sm.trans t1
      refine ⟨T,_,rfl,.of upd_same,rfl,_,_,rfl,_,_,rfl,rfl,?_⟩
      generalize upd H' T (.tup [.int (i:Int),.ref p.1])=HA at sm1
      clear t1 hT sm H'
      have et:=mkrs_step (bks:=bks.map (·.2)) (o:=o) (nm:=nm) (i:=i) (t:=p.2) (by rw [List.getElem?_map,ep]; rfl)
      refine ⟨_,rfl,_,rfl,_,rfl,p.1,p.2,o,nm,rfl,sm1 _ _ (hb2.at_ p hp),hf p hp,fun H5 s5=>⟨_,rfl,?_⟩⟩
      by_cases h:Mks p.2 o nm
      · rw [if_pos h] at et
        refine iteD h ⟨_,rfl,hN _ _ [some (.int (i:Int)),some (.ref p.1)] rfl ⟨sm1.trans s5,?_⟩⟩
        rw [et]; unfold ivs; rw [List.map_append]; rfl
      · rw [if_neg h,List.append_nil] at et
        exact iteDF h (hN _ _ [some (.int (i:Int)),some (.ref p.1)] rfl ⟨sm1.trans s5,by rw [et]⟩)
    · rintro acc H' ⟨sm,rfl⟩ D hD
      exact k D _ ((s02.trans sm).upd_new ((s02.trans sm).free hD)) upd_same
end
end Kn.Ln
end
section
namespace Kn
open PySem L2
theorem lss_iff {p q:Int × Int}:lss p q=true↔p.1 * q.2 < q.1 * p.2:=by unfold lss; exact decide_eq_true_iff
theorem lss_trans {p q r:Int × Int} (hp:0 < p.2) (hq:0 < q.2) (hr:0 < r.2) (h1:lss p q=true) (h2:lss q r=true):lss p r=true:=by
  rw [lss_iff] at *
  have a:=Int.mul_lt_mul_of_pos_right h1 hr
  have b:=Int.mul_lt_mul_of_pos_right h2 hp
  have e1:p.1 * q.2 * r.2=p.1 * r.2 * q.2:=by rw [Int.mul_assoc,Int.mul_comm q.2,← Int.mul_assoc]
  have e2:q.1 * p.2 * r.2=q.1 * r.2 * p.2:=by rw [Int.mul_assoc,Int.mul_comm p.2,← Int.mul_assoc]
  have e3:r.1 * q.2 * p.2=r.1 * p.2 * q.2:=by rw [Int.mul_assoc,Int.mul_comm q.2,← Int.mul_assoc]
  rw [e1,e2] at a
  rw [e3] at b
  exact Int.lt_of_mul_lt_mul_right (Int.lt_trans a b) (Int.le_of_lt hq)
theorem nls_trans {p q r:Int × Int} (hp:0 < p.2) (hq:0 < q.2) (hr:0 < r.2) (h1:lss p q=false) (h2:lss q r=false):lss p r=false:=by
  have i1:¬ p.1 * q.2 < q.1 * p.2:=fun z=>by rw [lss_iff.mpr z] at h1; cases h1
  have i2:¬ q.1 * r.2 < r.1 * q.2:=fun z=>by rw [lss_iff.mpr z] at h2; cases h2
  cases h:lss p r with
  | false=>rfl
  | true =>
    have h3:=lss_iff.mp h
    have a:=Int.mul_le_mul_of_nonneg_right (Int.not_lt.mp i1) (Int.le_of_lt hr)
    have b:=Int.mul_le_mul_of_nonneg_right (Int.not_lt.mp i2) (Int.le_of_lt hp)
    have c:=Int.mul_lt_mul_of_pos_right h3 hq
    have e1:p.1 * q.2 * r.2=p.1 * r.2 * q.2:=by rw [Int.mul_assoc,Int.mul_comm q.2,← Int.mul_assoc]
    have e2:q.1 * p.2 * r.2=q.1 * r.2 * p.2:=by rw [Int.mul_assoc,Int.mul_comm p.2,← Int.mul_assoc]
    have e3:r.1 * q.2 * p.2=r.1 * p.2 * q.2:=by rw [Int.mul_assoc,Int.mul_comm q.2,← Int.mul_assoc]
    rw [e1,e2] at a
    rw [e3] at b
    omega
inductive IsPlace (qs:List (Int × Int)):Option Nat→Prop
  | no (h:∀ q∈qs,lss (0,1) q=false):IsPlace qs none
  | at_ (i:Nat) (q:Int × Int) (hi:qs[i]?=some q) (hp:lss (0,1) q=true) (hl:∀ (j:Nat) (r:Int × Int),j < i→qs[j]?=some r→lss r q=true) (hm:∀ r∈qs,lss q r=false):IsPlace qs (some i)
def Walk (qs:List (Int × Int)) (st:Option Nat × (Int × Int)):Prop:=IsPlace qs st.1∧(st.1=none→st.2=(0,1))∧∀ i,st.1=some i→qs[i]?=some st.2
theorem walk_step {qs:List (Int × Int)}{st:Option Nat × (Int × Int)}{q:Int × Int} (hq:∀ r∈qs++[q],0 < r.2) (h:Walk qs st):Walk (qs++[q]) (gstep st qs.length q):=by
  obtain ⟨fo,g0⟩:=st
  obtain ⟨hp,hn,hs⟩:=h
  have hp:IsPlace qs fo:=hp
  have hn:fo=none→g0=(0,1):=hn
  have hs:∀ i,fo=some i→qs[i]?=some g0:=hs
  have dq:0 < q.2:=hq q (by simp)
  have dr:∀ r∈qs,0 < r.2:=fun r hr=>hq r (List.mem_append_left _ hr)
  have lastq:(qs++[q])[qs.length]?=some q:=by simp
  have left:∀ {j:Nat} {r:Int × Int},j < qs.length→(qs++[q])[j]?=some r→qs[j]?=some r:=fun {j r} hj h=>by rw [List.getElem?_append_left hj] at h; exact h
  show Walk (qs++[q]) (if lss g0 q=true then (some qs.length,q) else (fo,g0))
  cases hlt:lss g0 q with
  | true =>
    rw [if_pos rfl]
    refine ⟨?_,(fun z=>by cases z),(fun i z=>by cases z; exact lastq)⟩
    cases hp with
    | no h =>
      have e:=hn rfl
      rw [e] at hlt
      refine .at_ _ q lastq hlt (fun j r hj hr=>?_) fun r hr=>?_
      · have hr':=left hj hr
        have m:=h r (List.mem_of_getElem? hr')
        cases hrq:lss r q with
        | true=>rfl
        | false =>
          have:=nls_trans (by decide) (dr r (List.mem_of_getElem? hr')) dq m hrq
          rw [hlt] at this; cases this
      · rcases List.mem_append.mp hr with z | z
        · cases hqr:lss q r with
          | false=>rfl
          | true=>have:=lss_trans (by decide) dq (dr r z) hlt hqr; rw [h r z] at this; cases this
        · have:r=q:=by simpa using z
          rw [this]; exact lss_irr q
    | at_ i g hi hp' hl hm =>
      have e:qs[i]?=some g0:=hs i rfl
      have eg:g0=g:=by rw [hi] at e; exact (Option.some.inj e).symm
      subst eg
      have dg:0 < g0.2:=dr _ (List.mem_of_getElem? hi)
      refine .at_ _ q lastq (lss_trans (by decide) dg dq hp' hlt) (fun j r hj hr=>?_) fun r hr=>?_
      · have hr':=left hj hr
        have m:=hm r (List.mem_of_getElem? hr')
        cases hrq:lss r q with
        | true=>rfl
        | false =>
          have:=nls_trans dg (dr r (List.mem_of_getElem? hr')) dq m hrq
          rw [hlt] at this; cases this
      · rcases List.mem_append.mp hr with z | z
        · cases hqr:lss q r with
          | false=>rfl
          | true=>have:=lss_trans dg dq (dr r z) hlt hqr; rw [hm r z] at this; cases this
        · have:r=q:=by simpa using z
          rw [this]; exact lss_irr q
  | false =>
    rw [if_neg Bool.false_ne_true]
    refine ⟨?_,hn,fun i z=>?_⟩
    · cases hp with
      | no h =>
        refine .no fun r hr=>?_
        rcases List.mem_append.mp hr with z | z
        · exact h r z
        · have:r=q:=by simpa using z
          rw [this,← hn rfl]; exact hlt
      | at_ i g hi hp' hl hm =>
        have e:qs[i]?=some g0:=hs i rfl
        have eg:g0=g:=by rw [hi] at e; exact (Option.some.inj e).symm
        subst eg
        have hil:i < qs.length:=(List.getElem?_eq_some_iff.mp hi).1
        refine .at_ i g0 (by rw [List.getElem?_append_left hil]; exact hi) hp' (fun j r hj hr=>hl j r hj (left (Nat.lt_trans hj hil) hr)) fun r hr=>?_
        rcases List.mem_append.mp hr with z | z
        · exact hm r z
        · have:r=q:=by simpa using z
          rw [this]; exact hlt
    · have h1:=hs i z
      have hil:i < qs.length:=(List.getElem?_eq_some_iff.mp h1).1
      rw [List.getElem?_append_left hil]; exact h1
theorem placeG_is {qs:List (Int × Int)} (hq:∀ r∈qs,0 < r.2):IsPlace qs (placeG qs):=by
  have go:∀ n,n≤qs.length→Walk (qs.take n) (gfold (qs.take n) 0 (none,(0,1))):=by
    intro n
    induction n with
    | zero=>intro _; exact ⟨.no (fun q hq=>by cases hq),(fun _=>rfl),(fun i z=>by cases z)⟩
    | succ n ih =>
      intro hn
      have hj:n < qs.length:=by omega
      rw [List.take_succ_eq_append_getElem hj,gfold_snoc,Nat.zero_add]
      refine walk_step (fun r hr=>hq r ?_) (ih (by omega))
      rcases List.mem_append.mp hr with z | z
      · exact List.mem_of_mem_take z
      · have:r=qs[n]:=by simpa using z
        rw [this]; exact List.getElem_mem hj
  have:=go qs.length (Nat.le_refl _)
  rw [List.take_length] at this
  exact this.1
end Kn
end
section
namespace Kn.Ln
open PySem L2 Kn
theorem mks_iff {bk:List S}{o:Nat}{nm:S}:Mks bk o nm↔∀ q∈pairs1 o nm,q∈pairsB o bk:=share_pos_iff
theorem needed_made {bk:List S}{o:Nat}{nm:S}:(neededL (rowsP bk o nm) bk.length).isSome=true↔Mks bk o nm:=by
  unfold Mks
  rw [← good_iff]
  cases e:neededL (rowsP bk o nm) bk.length with
  | none =>
    constructor
    · intro h; cases h
    · rintro ⟨l,_,h⟩
      rw [needed_none e l] at h; cases h
  | some l =>
    constructor
    · intro _
      have:=(needed_some e).1
      exact ⟨l,(shows_iff.mp this).1,this⟩
    · intro _; rfl
def atPl (bk:List S) (l:List Nat):List S:=l.map fun p=>(bk[p]?).getD []
theorem atPl_get {bk:List S}{l:List Nat} (hl:∀ p∈l,p < bk.length) {i:Nat}{t:S}:(atPl bk l)[i]?=some t↔∃ p,l[i]?=some p∧bk[p]?=some t:=by
  unfold atPl
  rw [List.getElem?_map]
  cases e:l[i]? with
  | none=>simp
  | some p =>
    have hp:=hl p (List.mem_of_getElem? e)
    have e2:bk[p]?=some bk[p]:=List.getElem?_eq_getElem hp
    simp [e2]
theorem needed_alone {bk:List S}{o:Nat}{nm:S}{l:List Nat} (h:showsL (rowsP bk o nm) bk.length l=true):neededL (rowsP (atPl bk l) o nm) (atPl bk l).length=some (List.range l.length):=by
  obtain ⟨h1,h2,h3⟩:=shows_iff.mp h
  obtain ⟨a1,a2⟩:=subs_mem.mp h1
  have el:(atPl bk l).length=l.length:=List.length_map ..
  have key:∀ m:List Nat,(∀ i∈m,i < l.length)→(aloneM (rowsP (atPl bk l) o nm) m=true↔aloneM (rowsP bk o nm) (m.map fun i=>(l[i]?).getD 0)=true):=fun m hm=>by
    rw [alone_pairs,alone_pairs]
    constructor
    · intro hh q hq
      obtain ⟨i,hi,t,e,hmem⟩:=hh q hq
      obtain ⟨p,e1,e2⟩:=(atPl_get a1).mp e
      exact ⟨p,List.mem_map.mpr ⟨i,hi,by rw [e1]; rfl⟩,t,e2,hmem⟩
    · intro hh q hq
      obtain ⟨p,hp,t,e,hmem⟩:=hh q hq
      obtain ⟨i,hi,e1⟩:=List.mem_map.mp hp
      have hil:i < l.length:=hm i hi
      have e2:l[i]?=some l[i]:=List.getElem?_eq_getElem hil
      rw [e2] at e1
      have e3:l[i]=p:=e1
      exact ⟨i,hi,t,(atPl_get a1).mpr ⟨p,by rw [e2,e3],e⟩,hmem⟩
  have hs:showsL (rowsP (atPl bk l) o nm) (atPl bk l).length (List.range l.length)=true:=by
    rw [el]
    refine shows_iff.mpr ⟨range_subs _,(key _ fun i hi=>List.mem_range.mp hi).mpr ?_,fun m hm=>?_⟩
    · refine alone_mono (fun p hp=>?_) h2
      obtain ⟨i,hi⟩:=List.getElem?_of_mem hp
      exact List.mem_map.mpr ⟨i,List.mem_range.mpr (List.getElem?_eq_some_iff.mp hi).1,by rw [hi]; rfl⟩
    · cases e:aloneM (rowsP (atPl bk l) o nm) m with
      | false=>rfl
      | true =>
        obtain ⟨i,hi,rfl⟩:=fewer_mem.mp hm
        rw [List.length_range] at hi
        have hb:∀ j∈(List.range l.length).take i++(List.range l.length).drop (i+1),j < l.length∧j≠i:=fun j hj=>by
          rcases List.mem_append.mp hj with z | z
          · rw [List.take_range,Nat.min_eq_left (Nat.le_of_lt hi)] at z
            have:=List.mem_range.mp z
            omega
          · obtain ⟨k,hk⟩:=List.getElem?_of_mem z
            rw [List.getElem?_drop] at hk
            have hk2:=(List.getElem?_eq_some_iff.mp hk).1
            rw [List.length_range] at hk2
            rw [List.getElem?_range hk2] at hk
            have:=Option.some.inj hk
            omega
        have e2:=(key _ fun j hj=>(hb j hj).1).mp e
        have e3:aloneM (rowsP bk o nm) (l.take i++l.drop (i+1))=true:=alone_mono (fun p hp=>by
          obtain ⟨j,hj,rfl⟩:=List.mem_map.mp hp
          obtain ⟨g1,g2⟩:=hb j hj
          have ej:l[j]?=some l[j]:=List.getElem?_eq_getElem g1
          rw [ej]
          show l[j]∈_
          have hlt:j < i∨i < j:=by omega
          rcases hlt with z | z
          · exact List.mem_append_left _ (List.mem_of_getElem? (i:=j) (by rw [List.getElem?_take,if_pos z,ej]))
          · exact List.mem_append_right _ (List.mem_of_getElem? (i := j - (i + 1)) (by rw [List.getElem?_drop]; have : i + 1 + (j - (i + 1)) = j := by omega
                                                                                       rw [this,ej]))) e2
        rw [h3 _ (fewer_mem.mpr ⟨i,hi,rfl⟩)] at e3
        cases e3
  cases e:neededL (rowsP (atPl bk l) o nm) (atPl bk l).length with
  | none=>rw [needed_none e] at hs; cases hs
  | some m =>
    have hm:=(needed_some e).1
    by_cases hne:m=List.range l.length
    · rw [hne]
    · obtain ⟨p,hp,hn⟩:=least_anti hs hm hne
      have:=(subs_mem.mp (shows_iff.mp hm).1).1 p hp
      rw [el] at this
      exact absurd (List.mem_range.mpr this) hn
theorem needed_told {bk:List S}{o:Nat}{nm:S} (h:nm∈bk):∃ l,neededL (rowsP bk o nm) bk.length=some l∧l.length=1:=by
  obtain ⟨p,hp⟩:=List.getElem?_of_mem h
  have hpl:=(List.getElem?_eq_some_iff.mp hp).1
  have hs:showsL (rowsP bk o nm) bk.length [p]=true:=by
    refine shows_iff.mpr ⟨subs_mem.mpr ⟨fun q hq=>by rw [List.mem_singleton.mp hq]; exact hpl,List.pairwise_singleton _ _⟩,alone_pairs.mpr fun q hq=>⟨p,List.mem_singleton_self _,nm,hp,hq⟩,fun m hm=>?_⟩
    obtain ⟨i,hi,rfl⟩:=fewer_mem.mp hm
    have:i=0:=by
      have:i < 1:=hi
      omega
    subst this
    exact alone_nil
  cases e:neededL (rowsP bk o nm) bk.length with
  | none=>rw [needed_none e] at hs; cases hs
  | some l =>
    obtain ⟨n1,n2⟩:=needed_some e
    refine ⟨l,rfl,?_⟩
    have hne:=shows_ne n1
    have hl:1≤l.length:=List.length_pos_iff.mpr hne
    rcases n2 _ hs with z | z
    · rw [← z]; rfl
    · unfold ltK at z
      have:l.length≤1:=by
        rcases z with z | z
        · have:l.length < 1:=z
          omega
        · have:=z.1
          have:l.length=1:=this
          omega
      omega
theorem mks_down {bk:List S}{o:Nat}{nm:S} (h:Mks bk (o+1) nm):Mks bk o nm:=mks_iff.mpr (pair_order (mks_iff.mp h))
theorem mks_le {bk:List S}{nm:S}:∀ {o p:Nat},o≤p→Mks bk p nm→Mks bk o nm:=fun {o p} h hm=>by
  induction p with
  | zero => have : o = 0 := by omega
            subst this; exact hm
  | succ p ih =>
    by_cases e:o=p+1
    · rw [e]; exact hm
    · exact ih (by omega) (mks_down hm)
theorem top_iff {bk:List S}{nm:S}{r:Option Nat} (h:IsTop bk nm r) {o:Nat} (h1:1≤o) (h3:o≤3):Mks bk o nm↔∃ p,r=some p∧o≤p:=by
  cases r with
  | none=>exact ⟨fun z=>absurd z (h o h1 h3),fun ⟨p,z,_⟩=>by cases z⟩
  | some p =>
    obtain ⟨a,b,c,d⟩:=h
    constructor
    · intro z
      refine ⟨p,rfl,?_⟩
      exact Nat.le_of_not_lt fun q=>d o q h3 z
    · rintro ⟨q,e,hq⟩
      obtain rfl:=Option.some.inj e
      exact mks_le hq c
theorem mks_told {bk:List S}{o:Nat}{nm:S} (h:nm∈bk):Mks bk o nm:=mks_iff.mpr fun q hq=>List.mem_flatMap.mpr ⟨nm,h,hq⟩
theorem mks_more {bk bk':List S}{o:Nat}{nm:S} (hs:∀ x∈bk,x∈bk') (h:Mks bk o nm):Mks bk' o nm:=mks_iff.mpr fun q hq=>pair_more (mks_iff.mp h q hq) hs
theorem top_told {bk:List S}{nm:S} (h:nm∈bk) {r:Option Nat} (t:IsTop bk nm r):r=some 3:=by
  obtain ⟨p,e,hp⟩:=(top_iff t (o:=3) (by decide) (by decide)).mp (mks_told h)
  subst e
  have:=t.2.1
  have:p=3:=by omega
  rw [this]
end Kn.Ln
end
section
namespace L2
open PySem PySem.Spec PyProof.Rows
section
variable {X:Cx}
def rLR (x:V) (H:Hp) (Q:VK):Prop:=∃ n:Nat,x=.int (n:Int)∧n≤1000∧∀ l,H l=none→Q (.ref l) (upd H l (.lst ((List.range n).map fun (i:Nat)=>V.int (i:Int))))
def tLR (t:TE):TE:=fun σ H Q=>t σ H fun x H1=>rLR x H1 Q
theorem vals_intsL:∀ (n:Nat) (vs:List Value),vs.length=n→(∀ j v,vs[j]?=some v→∃ t,v=Value.int ((j:Nat):Int) t)→Vals ((List.range n).map fun (i:Nat)=>V.int (i:Int)) vs:=by
  intro n
  induction n with
  | zero =>
    intro vs hl _
    have:vs=[]:=List.length_eq_zero_iff.mp hl
    subst this
    exact .nil
  | succ n ih =>
    intro vs hl h
    obtain ⟨ws,u,rfl⟩:∃ ws u,vs=ws++[u]:=by
      rcases List.eq_nil_or_concat vs with rfl | ⟨ws,u,e⟩
      · cases hl
      · exact ⟨ws,u,by rw [e,List.concat_eq_append]⟩
    rw [List.length_append] at hl
    have hw:ws.length=n:=Nat.succ.inj hl
    rw [List.range_succ,List.map_append]
    refine Vals.append (ih ws hw fun j v hv=>h j v (by rw [List.getElem?_append_left (List.getElem?_eq_some_iff.mp hv).1]; exact hv)) ?_
    obtain ⟨t,rfl⟩:=h n u (by rw [List.getElem?_append_right (by omega),hw]; simp)
    exact .cons ⟨t,rfl⟩ .nil
theorem pe_lrange {x y:Str}{e:Expr}{te:TE}{p p2 pos pos2:Pos} (hc:X.calm=true) (he:PE X e te) (hg:Gl X x) (hm:X.mg x=none) (hv:bootBuiltins x=some (.type "list")) (hg2:Gl X y) (hm2:X.mg y=none) (hv2:bootBuiltins y=some (.type "range"))
    (hn:x ≠ "__name__" := by decide) (hdb:(x == ("__debug__" : Str))=false:=by decide) (hn2:y ≠ "__name__" := by decide) (hdb2:(y == ("__debug__" : Str))=false:=by decide)
    (hs:starEach [e] X.env=(false,eval e X.env)::starEach [] X.env:=by rfl)
    (hs2:starEach [Expr.Call (.Name y p2) [e] [] pos2] X.env=(false,eval (Expr.Call (.Name y p2) [e] [] pos2) X.env)::starEach [] X.env:=by rfl) :
    PE X (.Call (.Name x p) [.Call (.Name y p2) [e] [] pos2] [] pos) (tLR te):=by
  intro pins s σ H Q I h
  refine wpAny_Call_Name_kw (ld_blt I hg hm hv ?_ hn hdb)
  refine PyProof.Rows.callWith_type1 ?_ hs2 rfl
  rw [hs2]
  show wpAny _ _ (spliced ((false,eval (Expr.Call (.Name y p2) [e] [] pos2) X.env)::backTo pos (starEach [] X.env))) _ _ s
  refine Calls.spliced_cons ?_
  refine wpAny_Call_Name_kw (ld_blt I hg2 hm2 hv2 ?_ hn2 hdb2)
  refine PyProof.Rows.callWith_type1 (thn (pa_cons he pa_nil hs pos2 pins s σ H (fun xs H1=>match xs with | [x]=>rLR x H1 Q | _=>False) I ?_) fun us s1 ⟨vs,H1,I1,r1,q1⟩=>?_) hs rfl
  · exact h
  · obtain ⟨x,rfl,q1⟩:∃ x,vs=[x]∧rLR x H1 Q:=by
      match vs,q1 with
      | [x],q1=>exact ⟨x,rfl,q1⟩
      | [],q1=>exact q1.elim
      | _::_::_,q1=>exact q1.elim
    obtain ⟨n,rfl,hn1,q⟩:=q1
    obtain ⟨u,rfl,ru⟩:=vals1 r1
    obtain ⟨t,rfl⟩:=ru
    refine call_range_1 ?_
    refine Calls.spliced_nil ?_
    refine call_list_range (n:=n) (I.ok.hd hc) (IsRange.new ..) (small_one (by omega) (by omega) (by omega) (by omega)) (by rw [rangeSize_one]; split <;> omega) (by omega) fun h' tk acc' c' hk hS' hacc=>?_
    have hv:Vals ((List.range n).map fun (i:Nat)=>V.int (i:Int)) acc'.toList:=vals_intsL n _ (by simp [hacc.1]) fun j v hv=>by
      obtain ⟨t',rfl⟩:=hacc.2 j v (by simpa using hv)
      exact ⟨t',by simp⟩
    have I2:=I1.kept (h':=s1.heap.push { cls:=.type "range",data:=.fields #[.int 0 s1.toks,.int n t,.int 1 (s1.toks+1)] }) (t':=s1.toks+1+1) fun b o e=>Heap.get?_push_of_some _ e
    exact ⟨.ref _,_,Inv.laid (t':=tk) I2 hk (Nat.le_refl _) (show ObjOk X.prog X.w _ h' _ (.lst _) from ⟨by rw [List.length_map,List.length_range,sizeLine_eq]; omega,acc'.toList,c',hv,by simpa using hS'⟩),rfl,q _ (I2.hok.fresh (Nat.le_refl _))⟩
end
end L2
end
section
namespace Kn.Ln
open PySem L2 Kn
theorem ix_tupK {X:Cx} (K':PySem.W.Frag) (hK:X.K=K'):IxR X (rIxT K'):=by
  subst hK; exact ix_tup
theorem tSeq_absL {t u:TS}{D:Ends}{σ:St}{H:Hp} (R:St→Hp→Prop) (h2:∀ σ' H',R σ' H'→u D σ' H') (h1:∀ N:St→Hp→Prop,(∀ σ' H',R σ' H'→N σ' H')→t { D with nx:=N } σ H):tSeq t u D σ H:=h1 (u D) h2
theorem next_of {D:Ends}{σ:St}{H:Hp} (h:D.nx σ H):tNext D σ H:=h
theorem gName_nxL {j:Nat}{v:V}{σ:St}{H:Hp}{Q:St→Hp→Prop} (h:Q (σ.set j (some v)) H):gName j v σ H Q:=h
theorem sub_len:∀ {A M:List S},A.Nodup→(∀ x∈A,x∈M)→A.length≤M.length
  | [],_,_,_=>Nat.zero_le _
  | a::A,M,nd,h=>by
    obtain ⟨n1,n2⟩:=List.nodup_cons.mp nd
    have hm:=h a (List.mem_cons_self ..)
    have ih:=sub_len (A:=A) (M:=M.erase a) n2 fun x hx=>(List.mem_erase_of_ne fun e=>n1 (by rw [← e]; exact hx)).mpr (h x (List.mem_cons_of_mem _ hx))
    rw [List.length_erase_of_mem hm] at ih
    have:0 < M.length:=List.length_pos_of_mem hm
    rw [List.length_cons]
    omega
theorem many_le {bk1 bk2:List S}{o n N1 N2:Nat} (h:∀ x,Made (pairsB o bk2) o n x→Made (pairsB o bk1) o n x) (h1:IsMany (pairsB o bk1) o n N1) (h2:IsMany (pairsB o bk2) o n N2):N2≤N1:=by
  obtain ⟨M,m1,m2⟩:=made_list (pairsB o bk1) (ones_B o bk1) o n
  obtain ⟨A,a1,a2⟩:=made_list (pairsB o bk2) (ones_B o bk2) o n
  rw [h1 M m1 m2,h2 A a1 a2]
  exact sub_len a1 fun x hx=>(m2 x).mpr (h x ((a2 x).mp hx))
theorem made_nm {bk:List S}{o n:Nat}{x:S} (hb:∀ y∈bk,isNm y) (h:Made (pairsB o bk) o n x) (h1:1≤n) (h8:n≤8):isNm x:=by
  refine ⟨by rw [h.1]; exact h1,by rw [h.1]; exact h8,fun c hc=>?_⟩
  obtain ⟨i,hi⟩:=List.getElem?_of_mem hc
  have hil:i < x.length:=(List.getElem?_eq_some_iff.mp hi).1
  have hp:(endOf (x.take i) o,(x.drop i).take 1)∈pairs1 o x:=List.mem_map.mpr ⟨i,List.mem_range.mpr (by omega),rfl⟩
  have h4:=h.2 _ hp
  have hc2:c∈(x.drop i).take 1:=by
    rw [List.drop_eq_getElem_cons hil,(List.getElem?_eq_some_iff.mp hi).2]
    simp
  obtain ⟨nm,hn,hp2⟩:=List.mem_flatMap.mp h4
  obtain ⟨p,_,e1⟩:=List.mem_map.mp hp2
  have e3:(nm.drop p).take 1=(x.drop i).take 1:=congrArg Prod.snd e1
  rw [← e3] at hc2
  exact (hb nm hn).2.2 c (List.mem_of_mem_drop (List.mem_of_mem_take hc2))
theorem can_intsL (l:List Nat):(intsD l).canLay0=true:=by
  unfold intsD
  simp only [PyData.canLay0]
  exact lay_ints _
theorem cutV_toL (xs:List V) (n:Nat):cutV xs none (some (n:Int))=xs.take n:=by
  unfold cutV
  rw [HT.sIx_nat]
  show (xs.drop 0).take (min n xs.length - 0)=_
  rw [List.drop_zero,Nat.sub_zero]
  by_cases h:n≤xs.length
  · rw [Nat.min_eq_left h]
  · rw [Nat.min_eq_right (by omega),List.take_length,List.take_of_length_le (by omega)]
theorem inV_nats (n:Nat) (L:List Nat):inV (V.int (n:Int)) (ivs L)=decide (n∈L):=by
  unfold inV ivs
  rw [List.any_map]
  induction L with
  | nil=>simp
  | cons y l ih =>
    rw [List.any_cons,ih]
    have e:((fun y=>eqV y (V.int (n:Int))) ∘ fun (k:Nat)=>V.int (k:Int)) y=decide (n=y):=by
      show ((y:Int) == (n:Int))=_
      by_cases z:n=y
      · subst z; simp
      · rw [decide_eq_false z,beq_eq_false_iff_ne]
        omega
    rw [e]
    by_cases z:n=y
    · subst z; simp
    · simp [z]
theorem flat_nats (L:List Nat):(ivs L).all flatV=true:=by
  unfold ivs
  rw [List.all_map]
  exact List.all_eq_true.mpr fun _ _=>rfl
def N4 (x:S):Prop:=isNm x∧x.length≤4
structure B5 (bk:List S):Prop where
  lo:1≤bk.length
  hi:bk.length≤5
  nm:∀ x∈bk,N4 x
theorem B5.isb {bk:List S} (h:B5 bk):isBk bk:=⟨h.lo,by have:=h.hi; omega,fun x hx=>(h.nm x hx).1⟩
theorem B5.bk {bk:List S} (h:B5 bk) {o:Nat} (h1:1≤o) (h3:o≤3):Bk bk o:=⟨h.isb,h1,h3⟩
theorem B5.len {bk:List S} (h:B5 bk) (o:Nat):(pairsB o bk).length≤25:=by
  have:=plen_le4 (bk:=bk) (o:=o) fun x hx=>(h.nm x hx).2
  have:=h.hi
  omega
theorem B5.fit {bk:List S} (h:B5 bk) {o:Nat} (h1:1≤o) (h3:o≤3) {x:S} (hx:N4 x):Fit bk o x:=by
  refine ⟨h.bk h1 h3,hx.1,?_⟩
  have h5:(pairsB o bk).length ^ (x.length+1)≤25 ^ (x.length+1):=Nat.pow_le_pow_left (h.len o) _
  have h6:25 ^ (x.length+1)≤25 ^ 5:=Nat.pow_le_pow_right (by decide) (by have:=hx.2; omega)
  have h7:25 ^ 5=9765625:=by decide
  omega
section
variable {P:Program}{w:World}{K:PySem.W.Frag}{mg:Str→Option Value}{base:Heap}
structure LawC (P:Program) (w:World) (K:PySem.W.Frag) (mg:Str→Option Value) (base:Heap):Prop where
  dr:cDr P w K mg base
  nm:Cal P w K mg base 3 "_law_name" ["_law_script", "_law_at", "_law_most"] (spName K)
  bk:Cal P w K mg base 4 "_law_book" ["_law_script", "_law_at", "_law_many", "_law_most"] (spBook K)
  am:Cal P w K mg base 4 "all_made" ["book", "order", "length"] spAM
  hm:Cal P w K mg base 5 "how_many" ["book", "order", "length"] spHM
  ne:Cal P w K mg base 5 "needed" ["book", "order", "name"] spNeeded
  sw:Cal P w K mg base 5 "shows" ["book", "order", "name", "thing"] spShows
  sh:Cal P w K mg base 6 "share" ["book", "order", "name"] (spShare K)
  ls:Cal P w K mg base 1 "is_less" ["one", "other"] (spLess K)
  mks:Cal P w K mg base 7 "makes" ["book", "order", "name"] spMakes
  go:Cal P w K mg base 8 "greatest_order" ["book", "name"] spGO
  mr:Cal P w K mg base 8 "makers" ["books", "order", "name"] spMkrs
  bm:Cal P w K mg base 7 "best_maker" ["books", "order", "name"] (spMaker K)
structure Bl3 (mg:Str→Option Value):Prop where
  list:mg "list" = none
  enum:mg "enumerate" = none
abbrev sLaw:Stmt:=top 69
theorem scLaw:FnScope ["_law_script", "_law_book_here", "_law_order", "_law_length", "_law_some", "_law_name_here", "_law_places", "_law_alone", "_law_more", "_law_top", "_law_books", "_law_rows", "_law_best", "_law_due", "_law_told"] ["_law_script"] (defScope sLaw):=⟨rfl,rfl,rfl,by decide +kernel,rfl,by decide +kernel,by decide +kernel⟩
theorem ndP:(["_law_book_here", "_law_place"]:List Str).Nodup:=by decide +kernel
theorem ndO:(["_law_book_here", "_law_name_here", "_law_top", "_law_one"]:List Str).Nodup:=by decide +kernel
theorem ndD:(["_law_order", "_law_name_here", "_law_at", "_law_one"]:List Str).Nodup:=by decide +kernel
theorem ndL:(["_law_books", "_law_best", "_law_order", "_law_name_here", "_law_at"]:List Str).Nodup:=by decide +kernel
def spLaw (K:PySem.W.Frag):Sp:=fun vs H Q _=>∃ (a:Addr) (ns:List Int),vs=[.ref a]∧SqL K H a (ns.map V.int)∧ns.length≤63∧∀ H',Q (.bl true) H'
theorem ok_law {f:Addr}{fd:FuncData} (F:Fun K "law" "law" sLaw f fd) (B:Blt mg) (B3:Bl3 mg) (C:LawC P w K mg base):FnOk P w K mg base CX0 9 f fd ["_law_script"] (spLaw K):=by
  refine F.ok scLaw (fun vs H Q E h=>?_) (fun cdv A outer s H vs Q E hr h=>?_)
  · obtain ⟨a,ns,rfl,_⟩:=h; rfl
  · obtain ⟨a,ns,rfl,ha,hl,k⟩:=h
    have nd:=scLaw.nd
    have hu:=hr.units
    have r7:=hr.mono (j:=7) (by decide)
    have r6:=hr.mono (j:=6) (by decide)
    have r5:=hr.mono (j:=5) (by decide)
    have r4:=hr.mono (j:=4) (by decide)
    have r3:=hr.mono (j:=3) (by decide)
    have r2:=hr.mono (j:=2) (by decide)
    have r1:=hr.mono (j:=1) (by decide)
    refine ⟨_,pss_cons (ps_set (i:=1) nd rfl (Or.inr rfl) (pe_cal C.bk r4 rfl (pa_cons (pv 0) (pa_cons pe_int (pa_cons pe_int (pa_cons pe_int pa_nil))))))
      (pss_cons (ps_set (i:=2) nd rfl (Or.inr rfl) (pe_op op_add pe_int (pe_cal C.dr r2 rfl (pa_cons (pv 0) (pa_cons pe_int (pa_cons pe_int pa_nil))))))
      (pss_cons (ps_set (i:=3) nd rfl (Or.inl rfl) (pe_op op_add pe_int (pe_cal C.dr r2 rfl (pa_cons (pv 0) (pa_cons pe_int (pa_cons pe_int pa_nil))))))
      (pss_cons (ps_set (i:=4) nd rfl (Or.inl rfl) (pe_ifExp (pt_cmpR op_lt (pe_cal C.hm r5 rfl (pa_cons (pv 1) (pa_cons (pv 2) (pa_cons (pv 3) pa_nil)))) pe_int (nomark _)) (pe_cal C.am r4 rfl (pa_cons (pv 1) (pa_cons (pv 2) (pa_cons (pv 3) pa_nil)))) (pe_lst pa_nil)))
      (pss_cons (ps_set (i:=5) nd rfl (Or.inr rfl) (pe_ix ix_list (pe_op op_cat (pv 4) (pe_lst (pa_cons (pe_cal C.nm r3 rfl (pa_cons (pv 0) (pa_cons pe_int (pa_cons pe_int pa_nil)))) pa_nil))) (pe_cal C.dr r2 rfl (pa_cons (pv 0) (pa_cons pe_int (pa_cons (pe_op op_add (pe_callB call_len_seq (by rfl) B.len PySem.boot_len (pa_cons (pv 4) pa_nil)) pe_int) pa_nil)))) (fun _ _=>rfl)))
      (pss_cons (ps_set (i:=6) nd rfl (Or.inl rfl) (pe_cal C.ne r5 rfl (pa_cons (pv 1) (pa_cons (pv 2) (pa_cons (pv 5) pa_nil)))))
      (pss_cons (ps_if (pt_cmpR op_ne (pe_cmp (pc_isN (pv 6))) (pe_not (pe_cal C.mks r7 rfl (pa_cons (pv 1) (pa_cons (pv 2) (pa_cons (pv 5) pa_nil))))) (nomark _)) (pss_one (ps_ret pe_bl)) pss_nil)
      (pss_cons (ps_if (pt_cmp (pc_notN (pv 6)))
          (pss_cons (ps_set (i:=7) nd rfl (Or.inl rfl) (pe_callTy call_tuple_of (by rfl) B.tuple PyProof.Rows.boot_tuple (pa_cons (pe_comp (N:=["_law_book_here", "_law_place"]) (caps:=[1]) rfl (compScope_of (by kernel_rfl)) (pi_list (pv 6)) (fun cl X s H ex=>pg_name (i:=1) ndP rfl (Or.inl rfl)) (fun cl X s H ex=>pf_nil)
              (fun cl X s H ex=>pe_ix (ix_tupK K rfl) (pv 0) (pv 1) (fun _ _=>rfl))) pa_nil)))
          (pss_cons (ps_if (PW.pt (pw_or (pt_not (pt_val (pe_cal C.sw r5 rfl (pa_cons (pv 1) (pa_cons (pv 2) (pa_cons (pv 5) (pa_cons (pv 6) pa_nil))))))) (pw_or1 (pt_not (pt_val (pe_cal C.mks r7 rfl (pa_cons (pv 7) (pa_cons (pv 2) (pa_cons (pv 5) pa_nil))))))))) (pss_one (ps_ret pe_bl)) pss_nil)
          (pss_one (ps_if (PW.pt (pw_or (pt_cmpR (op_neD hu) (pe_cal C.ne r5 rfl (pa_cons (pv 7) (pa_cons (pv 2) (pa_cons (pv 5) pa_nil)))) (pe_lrange rfl (pe_callB call_len_seq (by rfl) B.len PySem.boot_len (pa_cons (pv 6) pa_nil)) (by rfl) B3.list PyProof.Rows.boot_list (by rfl) B.range PyProof.Rows.boot_range) (nomark _))
              (pw_or1 (PW.pt (pw_and (pt_cmpR op_in_seq (pv 5) (pv 1) (by with_unfolding_all rfl)) (pw_and1 (pt_cmpR op_ne (pe_callB call_len_seq (by rfl) B.len PySem.boot_len (pa_cons (pv 6) pa_nil)) pe_int (nomark _)))))))) (pss_one (ps_ret pe_bl)) pss_nil)))) pss_nil)
      (pss_cons (ps_set (i:=8) nd rfl (Or.inl rfl) (pe_op op_catTT (pv 1) (pe_tup (pa_cons (pe_cal C.nm r3 rfl (pa_cons (pv 0) (pa_cons pe_int (pa_cons pe_int pa_nil)))) pa_nil))))
      (pss_cons (ps_if (PW.pt (pw_and (pt_val (pe_cal C.mks r7 rfl (pa_cons (pv 1) (pa_cons (pv 2) (pa_cons (pv 5) pa_nil))))) (pw_and1 (pt_not (pt_val (pe_cal C.mks r7 rfl (pa_cons (pv 8) (pa_cons (pv 2) (pa_cons (pv 5) pa_nil))))))))) (pss_one (ps_ret pe_bl)) pss_nil)
      (pss_cons (ps_if (pt_cmpR op_lt (pe_cal C.hm r5 rfl (pa_cons (pv 8) (pa_cons (pv 2) (pa_cons (pv 3) pa_nil)))) (pe_cal C.hm r5 rfl (pa_cons (pv 1) (pa_cons (pv 2) (pa_cons (pv 3) pa_nil)))) (nomark _)) (pss_one (ps_ret pe_bl)) pss_nil)
      (pss_cons (ps_set (i:=9) nd rfl (Or.inr rfl) (pe_cal C.go hr rfl (pa_cons (pv 1) (pa_cons (pv 5) pa_nil))))
      (pss_cons (ps_if (pt_cmpR (op_neD hu) (pe_comp (N:=["_law_book_here", "_law_name_here", "_law_top", "_law_one"]) (caps:=[1,5,9]) rfl (compScope_of (by kernel_rfl)) (pi_tup (pe_tup (pa_cons pe_int (pa_cons pe_int (pa_cons pe_int pa_nil))))) (fun cl X s H ex=>pg_name (i:=3) ndO rfl (Or.inl rfl))
          (fun cl X s H ex=>pf_one (pt_cmpR op_ne (pe_cal C.mks r7 rfl (pa_cons (pv 0) (pa_cons (pv 3) (pa_cons (pv 1) pa_nil)))) (pe_and (pe_cmp (pc_notN (pv 2))) (pe_one (pe_cmpR op_le (pv 3) (pv 2) (nomark _)))) (nomark _))) (fun cl X s H ex=>pv 3)) (pe_lst pa_nil) (nomark _)) (pss_one (ps_ret pe_bl)) pss_nil)
      (pss_cons (ps_set (i:=10) nd rfl (Or.inr rfl) (pe_lst (pa_cons (pv 1) (pa_cons (pv 8) (pa_cons (pe_slice sl_tupA (pv 1) po_none (po_some pe_int)) (pa_cons (pe_tup (pa_cons (pv 5) pa_nil)) pa_nil))))))
      (pss_cons (ps_set (i:=11) nd rfl (Or.inl rfl) (pe_cal C.mr hr rfl (pa_cons (pv 10) (pa_cons (pv 2) (pa_cons (pv 5) pa_nil)))))
      (pss_cons (ps_set (i:=12) nd rfl (Or.inr rfl) (pe_cal C.bm r7 rfl (pa_cons (pv 10) (pa_cons (pv 2) (pa_cons (pv 5) pa_nil)))))
      (pss_cons (ps_setC (j:=13) (N:=["_law_order", "_law_name_here", "_law_at", "_law_one"]) (caps:=[2,5]) nd rfl (Or.inl rfl) rfl (compScope_of (by kernel_rfl)) (pi_enum rfl B3.enum (pa_cons (pv 10) pa_nil))
          (fun cl X s H ex=>pg_tupK K 2 rfl rfl (pgs_cons (pg_name (i:=2) ndD rfl (Or.inl rfl)) (pgs_cons (pg_name (i:=3) ndD rfl (Or.inl rfl)) pgs_nil)) rfl rfl)
          (fun cl X s H ex=>pf_one (pt_val (pe_cal C.mks r7 rfl (pa_cons (pv 3) (pa_cons (pv 0) (pa_cons (pv 1) pa_nil)))))) (fun cl X s H ex=>pv 2))
      (pss_cons (ps_if (PW.pt (pw_or (pt_cmpR op_notIn_seq pe_int (pv 11) (by with_unfolding_all rfl)) (pw_or (pt_cmpR op_notIn_seq (pv 12) (pv 11) (by with_unfolding_all rfl)) (pw_or1 (pt_cmpR (op_neD hu) (pv 11) (pv 13) (nomark _)))))) (pss_one (ps_ret pe_bl)) pss_nil)
      (pss_cons (ps_if (pt_cmpR (op_neD hu) (pe_comp (N:=["_law_books", "_law_best", "_law_order", "_law_name_here", "_law_at"]) (caps:=[10,12,2,5]) rfl (compScope_of (by kernel_rfl)) (pi_list (pv 11)) (fun cl X s H ex=>pg_name (i:=4) ndL rfl (Or.inl rfl))
          (fun cl X s H ex=>pf_one (pt_val (pe_cal C.ls r1 rfl (pa_cons (pe_cal C.sh r6 rfl (pa_cons (pe_ix (ix_listK K rfl) (pv 0) (pv 1) (fun _ _=>rfl)) (pa_cons (pv 2) (pa_cons (pv 3) pa_nil)))) (pa_cons (pe_cal C.sh r6 rfl (pa_cons (pe_ix (ix_listK K rfl) (pv 0) (pv 4) (fun _ _=>rfl)) (pa_cons (pv 2) (pa_cons (pv 3) pa_nil)))) pa_nil)))))
          (fun cl X s H ex=>pv 4)) (pe_lst pa_nil) (nomark _)) (pss_one (ps_ret pe_bl)) pss_nil)
      (pss_cons (ps_set (i:=14) nd rfl (Or.inl rfl) (pe_ix ix_tup (pv 1) (pe_cal C.dr r2 rfl (pa_cons (pv 0) (pa_cons pe_int (pa_cons (pe_callB call_len_seq (by rfl) B.len PySem.boot_len (pa_cons (pv 1) pa_nil)) pa_nil)))) (fun _ _=>rfl)))
      (pss_one (ps_ret (pe_and (pe_cmpR op_eq (pe_callB call_len_seq (by rfl) B.len PySem.boot_len (pa_cons (pe_cal C.ne r5 rfl (pa_cons (pv 1) (pa_cons (pv 2) (pa_cons (pv 14) pa_nil)))) pa_nil)) pe_int (nomark _)) (pe_one (pe_cmpR op_eq (pe_cal C.go hr rfl (pa_cons (pv 1) (pa_cons (pv 14) pa_nil))) pe_int (nomark _))))))))))))))))))))))))),?_⟩
    refine ⟨_,rfl,a,ns,0,4,4,rfl,ha,hl,by decide,by decide,by decide,by decide,fun b bk H1 s1 hb1 bl1 bl2 bn=>?_⟩
    refine ⟨_,rfl,a,ns,50,3,rfl,s1.seq ha,hl,by decide,by decide,fun od H2 hod s2=>⟨_,_,rfl,rfl,?_⟩⟩
    refine ⟨_,rfl,a,ns,51,4,rfl,(s1.trans s2).seq ha,hl,by decide,by decide,fun ln H3 hln s3=>⟨_,_,rfl,rfl,?_⟩⟩
    have ha3:=(s1.trans (s2.trans s3)).seq ha
    have hb3:=(s2.trans s3) _ _ hb1
    have b5:B5 bk:=⟨bl1,by omega,fun x hx=>⟨(bn x hx).1,(bn x hx).2.1⟩⟩
    have abz:Abz bk:=fun x hx c hc=>(bn x hx).2.2 c hc
    have ho1:1≤1+od:=by omega
    have ho3:1+od≤3:=by omega
    have hn1:1≤1+ln:=by omega
    have hn4:1+ln≤4:=by omega
    refine gName_nxL ?_
    dsimp only
    refine tSeq_absL (fun σ' H'=>∃ (sl:Addr) (L:List S),σ'=[some (.ref a),some (.ref b),some (.int ((1+od:Nat):Int)),some (.int ((1+ln:Nat):Int)),some (.ref sl),none,none,none,none,none,none,none,none,none,none]∧Same H3 H'∧H' sl=some (.lst (L.map sv))∧L.length≤81∧∀ x∈L,N4 x) ?cont fun N hN=>?main
    case main =>
      refine ⟨_,rfl,_,rfl,_,rfl,b,bk,1+od,1+ln,rfl,hb3,b5.bk ho1 ho3,hn1,by omega,fun M H4 s4 hM=>?_⟩
      refine ⟨_,_,rfl,rfl,_,rfl,?_⟩
      by_cases hc:(M:Int) < 90
      · refine iteD hc ?_
        refine ⟨_,rfl,_,rfl,_,rfl,b,bk,1+od,1+ln,rfl,s4 _ _ hb3,b5.bk ho1 ho3,abz,by have:=b5.len (1+od); omega,hn1,by omega,fun sl L H5 s5 _ hsl aL hLl=>hN _ _ ⟨sl,L,rfl,s4.trans s5,hsl,Nat.le_trans hLl (Nat.le_trans (Nat.pow_le_pow_right (by decide) hn4) (by decide)),fun x hx=>?_⟩⟩
        have hm:=((aL.made hn1).2 x).mp hx
        exact ⟨made_nm (fun y hy=>(bn y hy).1) hm hn1 (by omega),by rw [hm.1]; exact hn4⟩
      · refine iteDF hc ⟨by show 0≤sizeLine; decide,fun sl hsl=>hN _ _ ⟨sl,[],rfl,s4.trans (Same.upd1 hsl),upd_same,by decide,by simp⟩⟩
    case cont =>
      rintro σ' H4 ⟨sl,L,rfl,s4,hsl,hLl,hLn⟩
      have ha4:=s4.seq ha3
      have hb4:=s4 _ _ hb3
      clear s4 ha3 hb3 s3 s2 s1 hb1 ha
      generalize 1+od=o at ho1 ho3
      generalize 1+ln=n at hn1 hn4
      clear hod hln H3 H2 H1 od ln
      refine ⟨_,rfl,_,rfl,a,ns,60,4,rfl,ha4,hl,by decide,by decide,fun x0 H5 s5 hx0 hx0l=>?_⟩
      refine ⟨by show 1≤sizeLine; decide,fun e0 he0=>?_⟩
      have u1:Same H5 (upd H5 e0 (.lst [sv x0])):=Same.upd1 he0
      refine ⟨sl,e0,L.map sv,[sv x0],rfl,rfl,u1 _ _ (s5 _ _ hsl),upd_same,by rw [List.length_map,sizeLine_eq]; show _+1≤_; omega,fun c hc=>?_⟩
      have u2:Same (upd H5 e0 (.lst [sv x0])) (upd (upd H5 e0 (.lst [sv x0])) c (.lst (L.map sv++[sv x0]))):=Same.upd1 hc
      have hc1:upd (upd H5 e0 (.lst [sv x0])) c (.lst (L.map sv++[sv x0])) c=some (.lst ((L++[x0]).map sv)):=by rw [upd_same,List.map_append]; rfl
      have t6:=s5.trans (u1.trans u2)
      generalize upd (upd H5 e0 (.lst [sv x0])) c (.lst (L.map sv++[sv x0]))=H6 at u2 hc1 t6
      refine ⟨_,rfl,_,rfl,sl,_,rfl,.inl (.of (t6 _ _ hsl)),_,_,rfl,rfl,a,ns,52,L.length+1,by rw [List.length_map]; rfl,t6.seq ha4,hl,by omega,by omega,fun i H7 hi s7=>?_⟩
      obtain ⟨nm,hnm⟩:∃ x,(L++[x0])[i]?=some x:=⟨_,List.getElem?_eq_getElem (by rw [List.length_append]; exact hi)⟩
      have n4:N4 nm:=by
        rcases List.mem_append.mp (List.mem_of_getElem? hnm) with z | z
        · exact hLn nm z
        · rw [List.mem_singleton.mp z]; exact ⟨hx0,hx0l.1⟩
      refine ⟨c,_,(i:Int),sv nm,rfl,rfl,.of (s7 _ _ hc1),atI_nat (by rw [List.getElem?_map,hnm]; rfl),?_⟩
      have t7:=t6.trans s7
      have ha7:=t7.seq ha4
      have hb7:=t7 _ _ hb4
      clear t7 t6 s7 hc1 u2 u1 hc he0 s5 hsl hLl hLn hb4 ha4 hi hnm
      refine ⟨_,rfl,_,rfl,_,rfl,b,bk,o,nm,rfl,hb7,b5.bk ho1 ho3,n4.1,bl2,fun v H8 s8 tn=>?_⟩
      refine ⟨_,rfl,_,rfl,_,rfl,_,rfl,b,bk,o,nm,rfl,s8 _ _ hb7,b5.fit ho1 ho3 n4,fun H9 s9=>⟨_,rfl,rfl,_,rfl,iteNS ?_ ?_⟩⟩
      · have hmk:=needed_made (bk:=bk) (o:=o) (nm:=nm)
        cases e:neededL (rowsP bk o nm) bk.length with
        | none =>
          rw [e] at tn hmk
          have ev:v=.non:=tn
          rw [ev,decide_eq_true rfl,decide_eq_false (fun z=>by have:=hmk.mpr z; cases this)]; rfl
        | some l =>
          rw [e] at tn hmk
          obtain ⟨pa,ev,_⟩:=tn
          rw [ev,decide_eq_false (by intro z; cases z),decide_eq_true (show 0 < (shareOf (pairsB o bk) o nm).1 from hmk.mp rfl)]; rfl
      have t9:=s8.trans s9
      have tn9:TellsN H9 v (neededL (rowsP bk o nm) bk.length):=by
        cases e:neededL (rowsP bk o nm) bk.length with
        | none=>rw [e] at tn; exact tn
        | some l=>rw [e] at tn; obtain ⟨pa,e1,e2⟩:=tn; exact ⟨pa,e1,s9 _ _ e2⟩
      have ha9:=t9.seq ha7
      have hb9:=t9 _ _ hb7
      clear tn t9 s9 s8 ha7 hb7 H8
      refine next_of ?_
      dsimp only
      refine tSeq_absL (fun σ' H'=>(∃ x7:Option V,σ'=[some (.ref a),some (.ref b),some (.int (o:Int)),some (.int (n:Int)),some (.ref sl),some (sv nm),some v,x7,none,none,none,none,none,none,none])∧Same H9 H') ?cont2 fun N2 hN2=>?main2
      case main2 =>
        cases e:neededL (rowsP bk o nm) bk.length with
        | none =>
          rw [e] at tn9
          have ev:v=.non:=tn9
          subst ev
          exact ⟨_,rfl,_,rfl,iteF (hN2 _ _ ⟨⟨_,rfl⟩,Same.refl _⟩)⟩
        | some l =>
          rw [e] at tn9
          obtain ⟨pa,rfl,hpa⟩:=tn9
          have hsh:=(needed_some e).1
          obtain ⟨q1,q2,q3⟩:=shows_iff.mp hsh
          obtain ⟨a1,a2⟩:=subs_mem.mp q1
          have hl0:=shows_ne hsh
          have hl4:l.length≤4:=by
            have:=(lev_iff.mpr ⟨q1,rfl⟩:l∈lev bk.length l.length)
            obtain ⟨_,g2,g3⟩:=lev_mem this
            omega
          have hil:(ivs l).length=l.length:=by unfold ivs; exact List.length_map ..
          refine ⟨_,rfl,_,rfl,iteT ?_⟩
          refine ⟨_,rfl,pa,rfl,⟨_,.of hpa⟩,?_⟩
          refine comp_known0 (known_list K pa (ivs l)) [some (.ref b)] 1 (by rw [hil]; omega) (fun i acc G=>Same H9 G∧acc=(atPl bk (l.take i)).map sv) ⟨Same.refl _,rfl⟩ (fun i acc G _ h=>⟨.of (h.1 _ _ hpa),by rw [h.2,List.length_map]; unfold atPl; rw [List.length_map,List.length_take]; omega⟩) ?_ ?_
          · rintro i x acc G ys Nx hNx hx hy ⟨sm,rfl⟩
            obtain ⟨y',rfl⟩:=ys1L hy
            unfold ivs at hx
            rw [List.getElem?_map] at hx
            cases ep:l[i]? with
            | none=>rw [ep] at hx; cases hx
            | some p =>
            rw [ep] at hx
            have hx2:x=.int (p:Int):=(Option.some.inj hx).symm
            subst hx2
            have hp:=a1 p (List.mem_of_getElem? ep)
            have et:bk[p]?=some bk[p]:=List.getElem?_eq_getElem hp
            refine ⟨_,rfl,_,rfl,b,bkV bk,(p:Int),sv bk[p],rfl,rfl,.of (sm _ _ hb9),atI_nat (by unfold bkV; rw [List.getElem?_map,et]; rfl),hNx _ _ [_] rfl ⟨sm,?_⟩⟩
            rw [List.take_succ_eq_append_getElem (List.getElem?_eq_some_iff.mp ep).1,(List.getElem?_eq_some_iff.mp ep).2]
            unfold atPl
            rw [List.map_append,List.map_append,List.map_singleton,List.map_singleton,et]; rfl
          rintro acc G ⟨sG,rfl⟩ D hD
          rw [hil,List.take_length]
          have u1:Same G (upd G D (.lst ((atPl bk l).map sv))):=Same.upd1 hD
          refine ⟨D,_,rfl,.inl ⟨.of upd_same,fun T hT=>?_⟩⟩
          have u2:Same (upd G D (.lst ((atPl bk l).map sv))) (upd (upd G D (.lst ((atPl bk l).map sv))) T (.tup ((atPl bk l).map sv))):=Same.upd1 hT
          have hT1:upd (upd G D (.lst ((atPl bk l).map sv))) T (.tup ((atPl bk l).map sv)) T=some (.tup (bkV (atPl bk l))):=upd_same
          have tA:=sG.trans (u1.trans u2)
          generalize upd (upd G D (.lst ((atPl bk l).map sv))) T (.tup ((atPl bk l).map sv))=GA at u2 hT1 tA
          clear u2 u1 hD hT sG
          have hal:(atPl bk l).length=l.length:=List.length_map ..
          have inb:∀ x∈atPl bk l,x∈bk:=fun x hx=>by
            obtain ⟨i,hi⟩:=List.getElem?_of_mem hx
            obtain ⟨p,_,e2⟩:=(atPl_get a1).mp hi
            exact List.mem_of_getElem? e2
          have b5a:B5 (atPl bk l):=⟨by rw [hal]; exact List.length_pos_iff.mpr hl0,by rw [hal]; omega,fun x hx=>b5.nm x (inb x hx)⟩
          refine ⟨_,rfl,_,rfl,_,rfl,_,rfl,b,bk,o,nm,.ref pa,rfl,tA _ _ hb9,b5.bk ho1 ho3,n4.1,.inr ⟨pa,l,rfl,tA _ _ hpa,by omega,fun GB sB=>⟨_,rfl,?_⟩⟩⟩
          rw [hsh]
          refine iteF ?_
          refine ⟨_,rfl,_,rfl,_,rfl,T,atPl bk l,o,nm,rfl,sB _ _ hT1,b5a.fit ho1 ho3 n4,fun GC sC=>⟨_,rfl,?_⟩⟩
          have hmka:0 < (shareOf (pairsB o (atPl bk l)) o nm).1:=sub_makes q2 fun p hp t et=>List.mem_map.mpr ⟨p,hp,by rw [et]; rfl⟩
          rw [decide_eq_true hmka]
          refine iteF ?_
          have tC:=tA.trans (sB.trans sC)
          refine ⟨_,rfl,_,rfl,_,rfl,T,atPl bk l,o,nm,rfl,(sB.trans sC) _ _ hT1,b5a.bk ho1 ho3,n4.1,by rw [hal]; exact hl4,fun v2 GD sD tn2=>?_⟩
          rw [needed_alone hsh] at tn2
          obtain ⟨q',rfl,hq'⟩:=tn2
          refine ⟨_,rfl,pa,_,rfl,.inl (.of ((tC.trans sD) _ _ hpa)),l.length,by rw [hil],by omega,fun l2 hl2=>?_⟩
          have u3:=Same.upd1 (o:=.lst ((List.range l.length).map fun (i:Nat)=>V.int (i:Int))) hl2
          refine ⟨_,_,rep_ivs (l:=List.range l.length) (u3 _ _ hq'),rep_ivs (l:=List.range l.length) (by rw [upd_same]; rfl),shaped_ints _,shaped_ints _,_,rfl,ite_ne (can_intsL _) ?_⟩
          have tD:=tC.trans (sD.trans u3)
          generalize upd GD l2 (.lst ((List.range l.length).map fun (i:Nat)=>V.int (i:Int)))=GE at tD
          refine ⟨_,rfl,_,rfl,b,bkV bk,rfl,.inr (.of (tD _ _ hb9)),rfl,flat_bkL _,_,rfl,?_⟩
          show if (inV (sv nm) (bkV bk))=true then _ else _
          rw [inV_bkL]
          by_cases hin:nm∈bk
          · refine iteD hin ?_
            obtain ⟨l',e',hl'⟩:=needed_told (o:=o) hin
            have:l'=l:=by rw [e] at e'; exact (Option.some.inj e').symm
            subst this
            exact ⟨_,rfl,pa,_,rfl,.inl (.of (tD _ _ hpa)),rfl,_,rfl,iteNS (by rw [hil,hl']; rfl) (hN2 _ _ ⟨⟨_,rfl⟩,tD⟩)⟩
          · exact iteDF hin (iteF (hN2 _ _ ⟨⟨_,rfl⟩,tD⟩))
      case cont2 =>
        rintro σ' HA ⟨⟨x7,rfl⟩,sA⟩
        have haA:=sA.seq ha9
        have hbA:=sA _ _ hb9
        clear sA ha9 hb9 tn9
        refine ⟨_,rfl,_,rfl,a,ns,70,4,rfl,haA,hl,by decide,by decide,fun x1 HB sB hx1 hx1l=>?_⟩
        refine ⟨by show 1≤sizeLine; decide,fun t1 ht1=>?_⟩
        have u1:Same HB (upd HB t1 (.tup [sv x1])):=Same.upd1 ht1
        refine ⟨b,t1,_,_,rfl,rfl,u1 _ _ (sB _ _ hbA),upd_same,by rw [sizeLine_eq]; unfold bkV; rw [List.length_map]; show _+1≤_; omega,fun m HC u2 hm=>?_⟩
        have hmC:HC m=some (.tup (bkV (bk++[x1]))):=by rw [hm]; unfold bkV; rw [List.map_append]; rfl
        have tC:=sB.trans (u1.trans u2)
        have haC:=tC.seq haA
        have hbC:=tC _ _ hbA
        clear tC u2 u1 hm ht1 sB haA hbA
        have b5m:B5 (bk++[x1]):=⟨by rw [List.length_append]; have:=b5.lo; omega,by rw [List.length_append]; show _+1≤5; omega,fun x hx=>by
          rcases List.mem_append.mp hx with z | z
          · exact b5.nm x z
          · rw [List.mem_singleton.mp z]; exact ⟨hx1,hx1l.1⟩⟩
        have inm:∀ x∈bk,x∈bk++[x1]:=fun x hx=>List.mem_append_left _ hx
        refine gName_nxL ?_
        dsimp only
        refine tSeq_absL (fun σ' H'=>σ'=[some (.ref a),some (.ref b),some (.int (o:Int)),some (.int (n:Int)),some (.ref sl),some (sv nm),some v,x7,some (.ref m),none,none,none,none,none,none]∧Same HC H') ?cont3 fun N3 hN3=>?main3
        case main3 =>
          refine ⟨_,rfl,_,rfl,_,rfl,b,bk,o,nm,rfl,hbC,b5.fit ho1 ho3 n4,fun HD sD=>⟨_,rfl,?_⟩⟩
          by_cases hmk:Mks bk o nm
          · refine iteD hmk ?_
            refine ⟨_,rfl,_,rfl,_,rfl,m,bk++[x1],o,nm,rfl,sD _ _ hmC,b5m.fit ho1 ho3 n4,fun HE sE=>⟨_,rfl,?_⟩⟩
            rw [decide_eq_true (show 0 < (shareOf (pairsB o (bk++[x1])) o nm).1 from mks_more inm hmk)]
            exact iteF (hN3 _ _ ⟨rfl,sD.trans sE⟩)
          · exact iteDF hmk (iteF (hN3 _ _ ⟨rfl,sD⟩))
        case cont3 =>
          rintro σ' HD ⟨rfl,sD⟩
          have haD:=sD.seq haC
          have hbD:=sD _ _ hbC
          have hmD:=sD _ _ hmC
          clear sD haC hbC hmC
          refine ⟨_,rfl,_,rfl,_,rfl,m,bk++[x1],o,n,rfl,hmD,b5m.bk ho1 ho3,hn1,by omega,fun M1 HE sE hM1=>?_⟩
          refine ⟨_,rfl,_,rfl,_,rfl,b,bk,o,n,rfl,sE _ _ hbD,b5.bk ho1 ho3,hn1,by omega,fun M2 HF sF hM2=>?_⟩
          have hle:=many_le (fun x hx=>⟨hx.1,fun q hq=>pair_more (hx.2 q hq) inm⟩) hM1 hM2
          refine ⟨_,_,rfl,rfl,_,rfl,iteDF (by omega) ?_⟩
          have tF:=sE.trans sF
          have haF:=tF.seq haD
          have hbF:=tF _ _ hbD
          have hmF:=tF _ _ hmD
          clear tF sE sF haD hbD hmD hM1 hM2 hle M1 M2
          refine ⟨_,rfl,_,rfl,b,bk,nm,rfl,hbF,b5.isb,n4.1,fun o' h1 h3=>b5.fit h1 h3 n4,fun r HG sG htop=>?_⟩
          refine ⟨by show 3≤sizeLine; decide,fun tp htp=>?_⟩
          have u1:Same HG (upd HG tp (.tup [V.int 1,V.int 2,V.int 3])):=Same.upd1 htp
          have htp1:upd HG tp (.tup [V.int 1,V.int 2,V.int 3]) tp=some (.tup [V.int 1,V.int 2,V.int 3]):=upd_same
          have tH:=sG.trans u1
          generalize upd HG tp (.tup [V.int 1,V.int 2,V.int 3])=HH at u1 htp1 tH
          refine ⟨tp,rfl,⟨_,.of htp1⟩,?_⟩
          refine comp_nilK (known_tup K tp [V.int 1,V.int 2,V.int 3]) [some (.ref b),some (sv nm),some (optV r)] (by decide) (fun G5 s5=>.of (s5 _ _ htp1)) (fun k0 z G5 Z hz s5 hZ=>?_) (fun G5 s5 D2 hD2=>?_)
          · have hk3:k0 < 3:=(List.getElem?_eq_some_iff.mp hz).1
            have hz2:z=V.int ((k0+1:Nat):Int):=by
              rcases (by omega:k0=0∨k0=1∨k0=2) with rfl | rfl | rfl <;> exact (Option.some.inj hz).symm
            subst hz2
            have hti:=top_iff htop (o:=k0+1) (by omega) (by omega)
            refine ⟨_,rfl,_,rfl,_,rfl,b,bk,k0+1,nm,rfl,(tH.trans s5) _ _ hbF,b5.fit (by omega) (by omega) n4,fun G6 s6=>?_⟩
            cases r with
            | none =>
              refine ⟨_,rfl,_,rfl,iteF ⟨rfl,_,rfl,?_⟩⟩
              have hno:¬ 0 < (shareOf (pairsB (k0+1) bk) (k0+1) nm).1:=fun z=>by obtain ⟨p,e,_⟩:=hti.mp z; cases e
              rw [decide_eq_false hno]
              exact hZ _ s6
            | some p =>
              refine ⟨_,rfl,_,rfl,iteT ⟨_,rfl,_,rfl,_,_,rfl,rfl,rfl,_,rfl,?_⟩⟩
              have he:decide (0 < (shareOf (pairsB (k0+1) bk) (k0+1) nm).1)=decide (((k0+1:Nat):Int)≤(p:Int)):=by
                rw [decide_eq_decide]
                constructor
                · intro z
                  obtain ⟨q,e,hq⟩:=hti.mp z
                  obtain rfl:=Option.some.inj e
                  omega
                · intro z
                  exact hti.mpr ⟨p,rfl,by omega⟩
              rw [he,decide_eq_true rfl]
              exact hZ _ s6
          have w0:Same G5 (upd G5 D2 (.lst [])):=Same.upd1 hD2
          refine ⟨by show 0≤sizeLine; decide,fun e1' he1'=>?_⟩
          have w1:Same (upd G5 D2 (.lst [])) (upd (upd G5 D2 (.lst [])) e1' (.lst [])):=Same.upd1 he1'
          refine ⟨.list [],.list [],⟨D2,[],rfl,.of (w1 _ _ upd_same),rfl⟩,⟨e1',[],rfl,.of upd_same,rfl⟩,rfl,rfl,_,rfl,ite_ne rfl ?_⟩
          have tI:=tH.trans (s5.trans (w0.trans w1))
          generalize upd (upd G5 D2 (.lst [])) e1' (.lst [])=HI at tI
          have haI:=tI.seq haF
          have hbI:=tI _ _ hbF
          have hmI:=tI _ _ hmF
          clear w0 w1 he1' hD2 s5 tI tH u1 htp1 htp sG haF hbF hmF
          refine ⟨_,rfl,_,rfl,_,rfl,_,rfl,b,bkV bk,rfl,hbI,fun c HJ sJ hcJ=>?_⟩
          have hcJ':HJ c=some (.tup (bkV (bk.take 1))):=by
            rw [hcJ]
            have:=cutV_toL (bkV bk) 1
            unfold bkV at this ⊢
            rw [← List.map_take] at this
            exact congrArg (fun z=>some (HO.tup z)) this
          refine ⟨_,rfl,by show 1≤sizeLine; decide,fun t2 ht2=>?_⟩
          have u1:Same HJ (upd HJ t2 (.tup [sv nm])):=Same.upd1 ht2
          have ht21:upd HJ t2 (.tup [sv nm]) t2=some (.tup (bkV [nm])):=upd_same
          refine ⟨by show 4≤sizeLine; decide,fun lb hlb=>?_⟩
          have u2:Same (upd HJ t2 (.tup [sv nm])) (upd (upd HJ t2 (.tup [sv nm])) lb (.lst [.ref b,.ref m,.ref c,.ref t2])):=Same.upd1 hlb
          obtain ⟨bks,ebks⟩:∃ bks:List (Addr × List S),bks=[(b,bk),(m,bk++[x1]),(c,bk.take 1),(t2,[nm])]:=⟨_,rfl⟩
          have hBK:BksAt (upd (upd HJ t2 (.tup [sv nm])) lb (.lst [.ref b,.ref m,.ref c,.ref t2])) lb bks:=by
            rw [ebks]
            refine ⟨upd_same,fun p hp=>?_⟩
            simp only [List.mem_cons,List.not_mem_nil,or_false] at hp
            rcases hp with rfl | rfl | rfl | rfl
            · exact (sJ.trans (u1.trans u2)) _ _ hbI
            · exact (sJ.trans (u1.trans u2)) _ _ hmI
            · exact (u1.trans u2) _ _ hcJ'
            · exact u2 _ _ ht21
          have tK:=sJ.trans (u1.trans u2)
          have haK:=tK.seq haI
          have hbK:=tK _ _ hbI
          generalize upd (upd HJ t2 (.tup [sv nm])) lb (.lst [.ref b,.ref m,.ref c,.ref t2])=HK at u2 hBK tK haK hbK
          clear u2 u1 tK hlb ht21 ht2 hcJ hcJ' sJ haI hbI hmI
          have hfit:∀ p∈bks,Fit p.2 o nm:=fun p hp=>by
            rw [ebks] at hp
            simp only [List.mem_cons,List.not_mem_nil,or_false] at hp
            rcases hp with rfl | rfl | rfl | rfl
            · exact b5.fit ho1 ho3 n4
            · exact b5m.fit ho1 ho3 n4
            · exact B5.fit ⟨by rw [List.length_take]; omega,by rw [List.length_take]; omega,fun x hx=>b5.nm x (List.mem_of_mem_take hx)⟩ ho1 ho3 n4
            · exact B5.fit (bk:=[nm]) ⟨Nat.le_refl 1,by show 1≤5; decide,fun x hx=>by rw [List.mem_singleton.mp hx]; exact n4⟩ ho1 ho3 n4
          have hbl:bks.length=4:=by rw [ebks]; rfl
          have h3b:bks[3]?=some (t2,[nm]):=by rw [ebks]; rfl
          refine ⟨_,rfl,_,rfl,_,rfl,lb,bks,o,nm,rfl,hBK,by omega,ho1,ho3,n4.1,hfit,fun ra HL sL hra=>?_⟩
          refine ⟨_,rfl,_,rfl,_,rfl,lb,bks,o,nm,rfl,hBK.same sL,by omega,ho1,ho3,n4.1,hfit,fun HM sM=>?_⟩
          have hpos:∀ r∈bks.map (fun p=>shareOf (pairsB o p.2) o nm),0 < r.2:=fun r hr=>by
            obtain ⟨p,_,rfl⟩:=List.mem_map.mp hr
            exact (share_fq ..).dn
          have hpl:=placeG_is hpos
          obtain ⟨i,q,epl,hi,hp,hmx⟩:∃ (i:Nat) (q:Int × Int),placeG (bks.map fun p=>shareOf (pairsB o p.2) o nm)=some i∧(bks.map fun p=>shareOf (pairsB o p.2) o nm)[i]?=some q∧lss (0,1) q=true∧∀ r∈bks.map (fun p=>shareOf (pairsB o p.2) o nm),lss q r=false:=by
            cases hpl':placeG (bks.map fun p=>shareOf (pairsB o p.2) o nm) with
            | none =>
              rw [hpl'] at hpl
              cases hpl with
              | no h =>
                have:=h (shareOf (pairsB o [nm]) o nm) (List.mem_map.mpr ⟨(t2,[nm]),List.mem_of_getElem? h3b,rfl⟩)
                have hm3:Mks [nm] o nm:=mks_told (List.mem_singleton_self _)
                unfold Mks at hm3
                have:lss (0,1) (shareOf (pairsB o [nm]) o nm)=true:=lss_iff.mpr (by show 0 * _ < _ * 1; omega)
                simp_all
            | some i =>
              rw [hpl'] at hpl
              cases hpl with
              | at_ _ q hi hp hl hm=>exact ⟨i,q,rfl,hi,hp,hm⟩
          rw [epl]
          have hiL:i < bks.length:=by
            have:=(List.getElem?_eq_some_iff.mp hi).1
            rwa [List.length_map] at this
          have hei:bks[i]?=some bks[i]:=List.getElem?_eq_getElem hiL
          have eq:shareOf (pairsB o bks[i].2) o nm=q:=by
            rw [List.getElem?_map,hei] at hi
            exact Option.some.inj hi
          have hBM:=hBK.same (sL.trans sM)
          have hraM:=sM _ _ hra
          have haM:=(sL.trans sM).seq haK
          have hbM:=(sL.trans sM) _ _ hbK
          clear hra sL sM hBK haK hbK
          generalize hRR:mkrsTo (bks.map (·.2)) o nm bks.length=RR at hraM
          have memR:∀ j,j∈RR↔∃ p,bks[j]?=some p∧Mks p.2 o nm:=fun j=>by
            rw [← hRR]
            unfold mkrsTo
            rw [List.mem_filter,List.mem_range,List.getElem?_map]
            cases e:bks[j]? with
            | none =>
              have:¬ j < bks.length:=fun z=>by rw [List.getElem?_eq_getElem z] at e; cases e
              simp [this]
            | some p =>
              have:j < bks.length:=(List.getElem?_eq_some_iff.mp e).1
              simp [this]
          have h3R:3∈RR:=(memR 3).mpr ⟨_,h3b,mks_told (List.mem_singleton_self _)⟩
          have hiR:i∈RR:=(memR i).mpr ⟨_,hei,by
            unfold Mks
            rw [eq]
            have:=lss_iff.mp hp
            have e0:(0:Int) * q.2 < q.1 * 1:=this
            omega⟩
          have hRl:RR.length≤4:=by
            rw [← hRR]; unfold mkrsTo
            exact Nat.le_trans (List.length_filter_le ..) (by rw [List.length_range]; omega)
          have hlen:(bks.map fun p=>V.ref p.1).length=bks.length:=List.length_map ..
          refine ⟨_,rfl,lb,_,rfl,hBM.lst,?_⟩
          refine comp_pairs (J:=Ite K lb) (xs:=ivs (List.range bks.length)) (ys:=bks.map fun p=>V.ref p.1) (len:=bks.length) (Hk:=fun H'=>SqL K H' lb (bks.map fun p=>V.ref p.1))
            (fun i H' hk hi=>⟨_,(bks.map fun p=>V.ref p.1)[i]'(by rw [hlen]; exact hi),hk,List.getElem?_eq_getElem _⟩) (fun i H' hk e=>⟨_,hk,by rw [hlen,e]⟩)
            (fun i H' x H'' hk ⟨T,y,e1,e2,e3,e4⟩=>⟨T,.int i,y,e1,e2,e3,by
              have hi:i < bks.length:=by
                have:=(List.getElem?_eq_some_iff.mp (e4 _ hk)).1
                rw [hlen] at this; exact this
              unfold ivs; rw [List.getElem?_map,List.getElem?_range hi]; rfl,e4 _ hk⟩)
            [some (.int o),some (sv nm)] 2 (by omega) (fun i acc H'=>Same HM H'∧acc=ivs (mkrsTo (bks.map (·.2)) o nm i))
            ⟨Same.refl _,rfl⟩ (fun i acc H' _ h=>⟨.of (h.1 _ _ hBM.lst),by rw [h.2]; unfold ivs mkrsTo; rw [List.length_map]; exact Nat.le_trans (List.length_filter_le ..) (by rw [List.length_range]; exact Nat.le_refl _)⟩) ?_ ?_
          · rintro j x y T acc H' zs Nx hNx hx hy hz ⟨sm,rfl⟩ hT
            obtain ⟨z1,z2,rfl⟩:=ys2 hz
            obtain ⟨p,ep,rfl⟩:=bks_item hy
            have hj:j < bks.length:=(List.getElem?_eq_some_iff.mp ep).1
            have hx2:x=.int j:=by
              unfold ivs at hx
              rw [List.getElem?_map,List.getElem?_range hj] at hx
              exact (Option.some.inj hx).symm
            subst hx2
            have hpm:=List.mem_of_getElem? ep
            have v1:Same H' (upd H' T (.tup [.int (j:Int),.ref p.1])):=Same.upd1 hT
            have sm1:=sm.trans v1
            refine ⟨T,_,rfl,.of upd_same,rfl,_,_,rfl,_,_,rfl,rfl,?_⟩
            generalize upd H' T (.tup [.int (j:Int),.ref p.1])=HX at sm1
            clear v1 hT sm H'
            have et:=mkrs_step (bks:=bks.map (·.2)) (o:=o) (nm:=nm) (i:=j) (t:=p.2) (by rw [List.getElem?_map,ep]; rfl)
            refine ⟨_,rfl,_,rfl,_,rfl,p.1,p.2,o,nm,rfl,sm1 _ _ (hBM.at_ p hpm),hfit p hpm,fun H5 s5=>⟨_,rfl,?_⟩⟩
            by_cases h:Mks p.2 o nm
            · rw [if_pos h] at et
              refine iteD h ⟨_,rfl,hNx _ _ [some (.int (j:Int)),some (.ref p.1)] rfl ⟨sm1.trans s5,?_⟩⟩
              rw [et]; unfold ivs; rw [List.map_append]; rfl
            · rw [if_neg h,List.append_nil] at et
              exact iteDF h (hNx _ _ [some (.int (j:Int)),some (.ref p.1)] rfl ⟨sm1.trans s5,by rw [et]⟩)
          rintro acc HN' ⟨sN,rfl⟩ D hD
          rw [hRR]
          have u1:Same HN' (upd HN' D (.lst (ivs RR))):=Same.upd1 hD
          have hD1:upd HN' D (.lst (ivs RR)) D=some (.lst (ivs RR)):=upd_same
          have tO:=sN.trans u1
          generalize upd HN' D (.lst (ivs RR))=HO' at u1 hD1 tO
          have hraO:=tO _ _ hraM
          have hBO:=hBM.same tO
          have haO:=tO.seq haM
          have hbO:=tO _ _ hbM
          clear u1 tO sN hD hraM hBM haM hbM
          refine ⟨_,rfl,ra,ivs RR,rfl,.inl (.of hraO),rfl,flat_nats _,_,rfl,?_⟩
          show if (!inV (V.int ((3:Nat):Int)) (ivs RR))=true then _ else _
          rw [inV_nats,decide_eq_true h3R]
          refine iteF ?_
          refine ⟨_,rfl,_,rfl,ra,ivs RR,rfl,.inl (.of hraO),rfl,flat_nats _,_,rfl,?_⟩
          show if (!inV (V.int ((i:Nat):Int)) (ivs RR))=true then _ else _
          rw [inV_nats,decide_eq_true hiR]
          refine iteF ?_
          refine ⟨_,rfl,_,rfl,_,_,rep_ivs hraO,rep_ivs hD1,shaped_ints _,shaped_ints _,_,rfl,ite_ne (can_intsL _) ?_⟩
          have hil:(ivs RR).length=RR.length:=by unfold ivs; exact List.length_map ..
          refine ⟨_,rfl,ra,rfl,⟨_,.of hraO⟩,?_⟩
          refine comp_nilK (known_list K ra (ivs RR)) [some (.ref lb),some (.int (i:Int)),some (.int (o:Int)),some (sv nm)] (by rw [hil]; omega) (fun G5 s5=>.of (s5 _ _ hraO)) (fun k0 z G5 Z hz s5 hZ=>?_) (fun G5 s5 D2 hD2=>?_)
          · unfold ivs at hz
            rw [List.getElem?_map] at hz
            cases ej:RR[k0]? with
            | none=>rw [ej] at hz; cases hz
            | some j =>
            rw [ej] at hz
            have hz2:z=.int (j:Int):=(Option.some.inj hz).symm
            subst hz2
            obtain ⟨pj,epj,_⟩:=(memR j).mp (List.mem_of_getElem? ej)
            have hB5:=hBO.same s5
            refine ⟨_,rfl,_,rfl,lb,_,(i:Int),.ref bks[i].1,rfl,rfl,.of hB5.lst,atI_nat (by rw [List.getElem?_map,hei]; rfl),_,rfl,_,rfl,bks[i].1,bks[i].2,o,nm,rfl,hB5.at_ _ (List.mem_of_getElem? hei),hfit _ (List.mem_of_getElem? hei),fun v1 G6 s6 hv1=>?_⟩
            have hB6:=hB5.same s6
            refine ⟨_,rfl,_,rfl,lb,_,(j:Int),.ref pj.1,rfl,rfl,.of hB6.lst,atI_nat (by rw [List.getElem?_map,epj]; rfl),_,rfl,_,rfl,pj.1,pj.2,o,nm,rfl,hB6.at_ _ (List.mem_of_getElem? epj),hfit _ (List.mem_of_getElem? epj),fun v2 G7 s7 hv2=>?_⟩
            have f1:=hfit _ (List.mem_of_getElem? hei)
            have f2:=hfit _ (List.mem_of_getElem? epj)
            refine ⟨v1,v2,_,_,rfl,hv1.same s7,hv2,share_sm (pairs_len f1.toBk).1 f1.pw,share_sm (pairs_len f2.toBk).1 f2.pw,_,rfl,?_⟩
            rw [eq,hmx _ (List.mem_map.mpr ⟨pj,List.mem_of_getElem? epj,rfl⟩)]
            exact hZ _ (s6.trans s7)
          have w0:Same G5 (upd G5 D2 (.lst [])):=Same.upd1 hD2
          refine ⟨by show 0≤sizeLine; decide,fun e1' he1'=>?_⟩
          have w1:Same (upd G5 D2 (.lst [])) (upd (upd G5 D2 (.lst [])) e1' (.lst [])):=Same.upd1 he1'
          refine ⟨.list [],.list [],⟨D2,[],rfl,.of (w1 _ _ upd_same),rfl⟩,⟨e1',[],rfl,.of upd_same,rfl⟩,rfl,rfl,_,rfl,ite_ne rfl ?_⟩
          have tP:=s5.trans (w0.trans w1)
          generalize upd (upd G5 D2 (.lst [])) e1' (.lst [])=HP at tP
          have haP:=tP.seq haO
          have hbP:=tP _ _ hbO
          refine ⟨_,rfl,_,rfl,_,rfl,b,bkV bk,rfl,.inr (.of hbP),a,ns,53,bk.length,by unfold bkV; rw [List.length_map]; rfl,haP,hl,bl1,by omega,fun i2 HQ hi2 sQ=>?_⟩
          have et2:bk[i2]?=some bk[i2]:=List.getElem?_eq_getElem hi2
          have hin2:bk[i2]∈bk:=List.mem_of_getElem? et2
          have n42:=b5.nm _ hin2
          refine ⟨b,bkV bk,(i2:Int),sv bk[i2],rfl,rfl,.of (sQ _ _ hbP),atI_nat (by unfold bkV; rw [List.getElem?_map,et2]; rfl),?_⟩
          obtain ⟨l2,el2,hl2⟩:=needed_told (o:=o) hin2
          refine ⟨_,rfl,_,rfl,_,rfl,b,bk,o,bk[i2],rfl,sQ _ _ hbP,b5.bk ho1 ho3,n42.1,bl2,fun v2 HR sR tn2=>?_⟩
          rw [el2] at tn2
          obtain ⟨p2,rfl,hp2⟩:=tn2
          refine ⟨p2,_,rfl,.inl (.of hp2),rfl,_,rfl,?_⟩
          have e1:(V.int ((ivs l2).length:Int)=V.int 1):=by unfold ivs; rw [List.length_map,hl2]; rfl
          refine iteD e1 ?_
          refine ⟨_,rfl,_,rfl,b,bk,bk[i2],rfl,(sQ.trans sR) _ _ hbP,b5.isb,n42.1,fun o' h1 h3=>b5.fit h1 h3 n42,fun r2 HS sS ht=>?_⟩
          rw [top_told hin2 ht]
          exact ⟨rfl,k _⟩
end
end Kn.Ln
end
section
namespace Kn
open PySem L2 Ln
def Has (K:PySem.W.Frag) (x:Str) (st:Stmt) (ps:List Str):Prop :=
  ∃ (f:Addr) (fd:FuncData),PySem.W.nsIn K mainGlobals x=some (some (.ref f))∧Fun K x x st f fd∧PySem.W.keepIn K (.ref f)=true∧Binds K fd ps []
theorem has_mk {K:PySem.W.Frag}{x:Str}{st:Stmt}{f:Addr}{oc kV dc pm cd ct:Value}{od an:Option Addr}{sl:Array (Option Value)} (ps:List Str)
    (hb:∀ (fd:FuncData),Fun K x x st f fd→Binds K fd ps [])
    (a:PySem.W.nsIn K mainGlobals x=some (some (.ref f))) (l:K.lookup f=some ⟨oc,od,.func (PySem.W.fnOf x x (defArgs st) (defBody st) (defScope st) .none kV dc pm an cd ct),sl⟩) (c:PySem.W.codeIn K cd x=true) (k:PySem.W.keepIn K (.ref f)=true):Has K x st ps :=
  ⟨f,_,a,fun_mk (st:=st) l c k,k,hb _ (fun_mk (st:=st) l c k)⟩
structure Top (K:PySem.W.Frag):Prop where
  is_name:Has K "is_name" sIsName ["thing"]
  is_book:Has K "is_book" sIsBook ["thing"]
  is_whole:Has K "is_whole" sIsWhole ["thing", "least", "most"]
  is_order:Has K "is_order" sIsOrder ["thing"]
  is_rising:Has K "is_rising" sRising ["things"]
  need_book:Has K "need_book" sNeedBook ["thing"]
  need_books:Has K "need_books" sNeedBooks ["thing"]
  need_order:Has K "need_order" sNeedOrder ["thing"]
  need_whole:Has K "need_whole" sNeedWhole ["thing", "least", "most"]
  need_name:Has K "need_name" sNeedName ["thing"]
  end_of:Has K "end_of" sEnd ["text", "order"]
  ends:Has K "ends_and_letters" sEnds ["name", "order"]
  rows:Has K "counted_rows" sRows ["book", "order"]
  gcd:Has K "greatest_divisor" sGcd ["one", "other"]
  low:Has K "lowest" sLow ["up", "down"]
  times:Has K "times" sTimes ["one", "other"]
  is_less:Has K "is_less" sLess ["one", "other"]
  place:Has K "place_of_greatest" sPlace ["fractions"]
  part_in:Has K "part_in" sPart ["row", "letter"]
  stepsR:Has K "steps_by_rows" sStepsR ["rows", "order", "name"]
  shareR:Has K "share_by_rows" sShareR ["rows", "order", "name"]
  share:Has K "share" sShare ["book", "order", "name"]
  makes:Has K "makes" sMakes ["book", "order", "name"]
  even:Has K "even_parts" sEven ["rows"]
  left:Has K "left_of" sLeft ["weight", "part"]
  follow:Has K "may_follow" sFollow ["letter", "wanted"]
  nexts:Has K "next_sums" sNextS ["parts", "order", "sums", "wanted"]
  suma:Has K "sum_along" sSumA ["parts", "order", "weight", "pattern"]
  needlen:Has K "need_length" sNeedLen ["thing"]
  hmr:Has K "how_many_by_rows" sHMR ["rows", "order", "length"]
  hm:Has K "how_many" sHM ["book", "order", "length"]
  lt:Has K "letters_towards" sLT ["row", "end", "order", "targets"]
  ce:Has K "closing_ends" sCE ["rows", "order", "length"]
  lng:Has K "lengthened" sLng ["rows", "order", "texts", "targets"]
  am:Has K "all_made" sAM ["book", "order", "length"]
  mkrs:Has K "makers" sMkrs ["books", "order", "name"]
  maker:Has K "best_maker" sMaker ["books", "order", "name"]
  go:Has K "greatest_order" sGO ["book", "name"]
  plw:Has K "places_with" sPlW ["book", "order", "step"]
  pbs:Has K "places_by_step" sPbs ["book", "order", "name"]
  anyhas:Has K "any_has" sAnyHas ["having", "places"]
  alone:Has K "alone_make" sAlone ["by_step", "places"]
  longer:Has K "longer_lists" sLonger ["lists", "many"]
  needed:Has K "needed" sNeeded ["book", "order", "name"]
  ispl:Has K "is_list_of_places" sIsPl ["thing", "many"]
  shows:Has K "shows" sShows ["book", "order", "name", "thing"]
  cell:Has K "_law_cell" sCell ["_law_script", "_law_k"]
  drawn:Has K "_law_drawn" sDrawn ["_law_script", "_law_k", "_law_many"]
  lname:Has K "_law_name" sName ["_law_script", "_law_at", "_law_most"]
  lbook:Has K "_law_book" sBook ["_law_script", "_law_at", "_law_many", "_law_most"]
  letters:∃ t,PySem.W.nsIn K mainGlobals "LETTERS" = some (some (.str letters t))
  ml:∃ t,PySem.W.nsIn K mainGlobals "MOST_LETTERS" = some (some (.int 8 t))
  mn:∃ t,PySem.W.nsIn K mainGlobals "MOST_NAMES" = some (some (.int 8 t))
  mo:∃ t,PySem.W.nsIn K mainGlobals "MOST_ORDER" = some (some (.int 3 t))
  ib:PySem.W.kitOne K (.type "int") (.type "bool")=some false
  nought:∃ a,PySem.W.nsIn K mainGlobals "NOUGHT" = some (some (.ref a))∧∀ H,SqT K H a [.int 0,.int 1]
  whole:∃ a,PySem.W.nsIn K mainGlobals "WHOLE" = some (some (.ref a))∧∀ H,SqT K H a [.int 1,.int 1]
  anyC:∃ t,PySem.W.nsIn K mainGlobals "ANY" = some (some (.str "" t))
  zlen:PySem.W.nsIn K mainGlobals "len" = some none
  zrange:PySem.W.nsIn K mainGlobals "range" = some none
  zall:PySem.W.nsIn K mainGlobals "all" = some none
  zisinstance:PySem.W.nsIn K mainGlobals "isinstance" = some none
  zstr:PySem.W.nsIn K mainGlobals "str" = some none
  ztuple:PySem.W.nsIn K mainGlobals "tuple" = some none
  zint:PySem.W.nsIn K mainGlobals "int" = some none
  zbool:PySem.W.nsIn K mainGlobals "bool" = some none
  zsorted:PySem.W.nsIn K mainGlobals "sorted" = some none
  zsum:PySem.W.nsIn K mainGlobals "sum" = some none
  zmin:PySem.W.nsIn K mainGlobals "min" = some none
  zdict:PySem.W.nsIn K mainGlobals "dict" = some none
  zlist:PySem.W.nsIn K mainGlobals "list" = some none
  zenumerate:PySem.W.nsIn K mainGlobals "enumerate" = some none
  zany:PySem.W.nsIn K mainGlobals "any" = some none
  zzip:PySem.W.nsIn K mainGlobals "zip" = some none
theorem letters_eq:(Str.ofString "abcdefghijklmnopqrstuvwxyz")=letters:=by decide +kernel
theorem lets_mk {K:PySem.W.Frag}{t:Tok} (h:PySem.W.nsIn K mainGlobals "LETTERS" = some (some (.str (Str.ofString "abcdefghijklmnopqrstuvwxyz") t))):∃ t,PySem.W.nsIn K mainGlobals "LETTERS" = some (some (.str letters t)):=by
  rw [letters_eq] at h; exact ⟨t,h⟩
theorem int_mk {K:PySem.W.Frag}{x:Str}{i:Int}{t:Tok} (h:PySem.W.nsIn K mainGlobals x=some (some (.int i t))):∃ t,PySem.W.nsIn K mainGlobals x=some (some (.int i t)):=⟨t,h⟩
theorem two_mk {K:PySem.W.Frag}{x:Str}{a:Addr}{i j:Int}{t t':Tok}{n:Nat}{dd:Option Addr}{sl:Array (Option Value)} (h:PySem.W.nsIn K mainGlobals x=some (some (.ref a)))
    (l:K.lookup a=some ⟨.type "tuple",dd,.seq #[.int i t,.int j t'] n,sl⟩):∃ a,PySem.W.nsIn K mainGlobals x=some (some (.ref a))∧∀ H,SqT K H a [.int i,.int j] :=
  ⟨a,h,fun H=>.inr ⟨_,_,_,l,rfl,rfl,by show 2≤sizeLine; decide,.cons ⟨t,rfl⟩ (.cons ⟨t',rfl⟩ .nil)⟩⟩
section
variable {P:Program}{w:World}{K:PySem.W.Frag}{mg:Str→Option Value}{base:Heap}{h:Heap}
theorem cal_of {x:Str}{st:Stmt}{ps:List Str}{k:Nat}{sp:Sp} (X:K.In h) (G:h.Ns mainGlobals mg) (H:Has K x st ps) (ok:∀ (f:Addr) (fd:FuncData),Fun K x x st f fd→FnOk P w K mg base CX0 k f fd ps sp):Cal P w K mg base k x ps sp:=by
  obtain ⟨f,fd,a,F,kp,b⟩:=H
  exact ⟨f,fd,ok f fd F,PySem.W.mg_of X G a,kp,b⟩
theorem law_mk (X:K.In h) (G:h.Ns mainGlobals mg) (T:Top K) {f:Addr}{fd:FuncData} (F:Fun K "law" "law" sLaw f fd):FnOk P w K mg base CX0 9 f fd ["_law_script"] (spLaw K):=by
  have B:Blt mg:=⟨PySem.W.mg_none_of X G T.zlen,PySem.W.mg_none_of X G T.zrange,PySem.W.mg_none_of X G T.zall,PySem.W.mg_none_of X G T.zisinstance,PySem.W.mg_none_of X G T.zstr,PySem.W.mg_none_of X G T.ztuple,PySem.W.mg_none_of X G T.zint,PySem.W.mg_none_of X G T.zbool,PySem.W.mg_none_of X G T.zsorted,PySem.W.mg_none_of X G T.zsum,PySem.W.mg_none_of X G T.zmin⟩
  have C:Cst K mg:=⟨let ⟨t,e⟩:=T.letters; ⟨t,PySem.W.mg_of X G e⟩,let ⟨t,e⟩:=T.ml; ⟨t,PySem.W.mg_of X G e⟩,let ⟨t,e⟩:=T.mn; ⟨t,PySem.W.mg_of X G e⟩,let ⟨t,e⟩:=T.mo; ⟨t,PySem.W.mg_of X G e⟩,T.ib⟩
  have C2:Cst2 K mg:=⟨let ⟨a,e,q⟩:=T.nought; ⟨a,PySem.W.mg_of X G e,q⟩,let ⟨a,e,q⟩:=T.whole; ⟨a,PySem.W.mg_of X G e,q⟩⟩
  have hA:∃ t,mg "ANY" = some (.str "" t):=let ⟨t,e⟩:=T.anyC; ⟨t,PySem.W.mg_of X G e⟩
  have hdi:=PySem.W.mg_none_of X G T.zdict
  have hli:=PySem.W.mg_none_of X G T.zlist
  have hen:=PySem.W.mg_none_of X G T.zenumerate
  have hany:=PySem.W.mg_none_of X G T.zany
  have hz:=PySem.W.mg_none_of X G T.zzip
  have cEnd:=cal_of (P:=P) (w:=w) (base:=base) X G T.end_of fun f fd F=>ok_end F
  have cEnds:=cal_of (P:=P) (w:=w) (base:=base) X G T.ends fun f fd F=>ok_ends F B cEnd
  have cIsName:=cal_of (P:=P) (w:=w) (base:=base) X G T.is_name fun f fd F=>ok_isname F B C
  have cIsBook:=cal_of (P:=P) (w:=w) (base:=base) X G T.is_book fun f fd F=>ok_isbook F B C cIsName
  have cIsWholeI:=cal_of (P:=P) (w:=w) (base:=base) X G T.is_whole fun f fd F=>ok_wholeI F B C
  have cIsWhole:=cal_of (P:=P) (w:=w) (base:=base) X G T.is_whole fun f fd F=>ok_iswhole F B C
  have cIsOrder:=cal_of (P:=P) (w:=w) (base:=base) X G T.is_order fun f fd F=>ok_isorder F C cIsWhole
  have cRise:=cal_of (P:=P) (w:=w) (base:=base) X G T.is_rising fun f fd F=>ok_rising F B hz
  have cNB:=cal_of (P:=P) (w:=w) (base:=base) X G T.need_book fun f fd F=>ok_needbook F cIsBook
  have cNBs:=cal_of (P:=P) (w:=w) (base:=base) X G T.need_books fun f fd F=>ok_needbooks F B hli cNB
  have cNO:=cal_of (P:=P) (w:=w) (base:=base) X G T.need_order fun f fd F=>ok_needorder F cIsOrder
  have cNW:=cal_of (P:=P) (w:=w) (base:=base) X G T.need_whole fun f fd F=>ok_needwhole F cIsWhole
  have cNN:=cal_of (P:=P) (w:=w) (base:=base) X G T.need_name fun f fd F=>ok_needname F cIsName
  have cRows:=cal_of (P:=P) (w:=w) (base:=base) X G T.rows fun f fd F=>ok_rows F cEnds
  have N:Needs P w K mg base:=⟨cNB,cNO,cNN,cRows⟩
  have cGcdG:=cal_of (P:=P) (w:=w) (base:=base) X G T.gcd fun f fd F=>ok_gcdG F
  have cGcd:=Ln.Cal.imp (sp':=spGcd) cGcdG fun h=>gcdG_imp h
  have cLowG:=cal_of (P:=P) (w:=w) (base:=base) X G T.low fun f fd F=>ok_lowG F cGcdG
  have cLow:=Ln.Cal.imp (sp':=spLow) cLowG fun h=>lowG_imp h
  have cTimes:=cal_of (P:=P) (w:=w) (base:=base) X G T.times fun f fd F=>ok_times F cLow
  have cLess:=cal_of (P:=P) (w:=w) (base:=base) X G T.is_less fun f fd F=>ok_less F
  have cLessX:=cal_of (P:=P) (w:=w) (base:=base) X G T.is_less fun f fd F=>ok_lessX F
  have cPartR:=cal_of (P:=P) (w:=w) (base:=base) X G T.part_in fun f fd F=>ok_partR F B C2 cLow
  have cPart:=Ln.Cal.imp (sp':=spPart K) cPartR fun h=>partR_imp h
  have cStR:=cal_of (P:=P) (w:=w) (base:=base) X G T.stepsR fun f fd F=>ok_stepsR F cEnds cPart
  have cShR:=cal_of (P:=P) (w:=w) (base:=base) X G T.shareR fun f fd F=>ok_shareR F C2 cStR cTimes
  have cSh:=cal_of (P:=P) (w:=w) (base:=base) X G T.share fun f fd F=>ok_share F N cShR
  have cMk:=cal_of (P:=P) (w:=w) (base:=base) X G T.makes fun f fd F=>ok_makes F C2 cSh cLess
  have cPl:=cal_of (P:=P) (w:=w) (base:=base) X G T.place fun f fd F=>ok_place F hen C2 cLessX
  have cMaker:=cal_of (P:=P) (w:=w) (base:=base) X G T.maker fun f fd F=>ok_maker F cNBs cNO cNN cSh cPl
  have cMkrs:=cal_of (P:=P) (w:=w) (base:=base) X G T.mkrs fun f fd F=>ok_mkrs F hen cNBs cNO cNN cMk
  have cGO:=cal_of (P:=P) (w:=w) (base:=base) X G T.go fun f fd F=>ok_GO F B C cNB cNN cMk
  have cEv:=cal_of (P:=P) (w:=w) (base:=base) X G T.even fun f fd F=>ok_even F C2 hdi
  have cLe:=cal_of (P:=P) (w:=w) (base:=base) X G T.left fun f fd F=>ok_left F
  have cFo:=cal_of (P:=P) (w:=w) (base:=base) X G T.follow fun f fd F=>ok_follow F hA
  have cNx:=cal_of (P:=P) (w:=w) (base:=base) X G T.nexts fun f fd F=>ok_nextS F cFo cEnd cLe
  have cSu:=cal_of (P:=P) (w:=w) (base:=base) X G T.suma fun f fd F=>ok_sumA F B C2 cNx cLe
  have cNL:=cal_of (P:=P) (w:=w) (base:=base) X G T.needlen fun f fd F=>ok_needlen F C cNW
  have NL:NeedL P w K mg base:=⟨cNB,cNO,cNL,cRows⟩
  have cHMR:=cal_of (P:=P) (w:=w) (base:=base) X G T.hmr fun f fd F=>ok_HMR F hA cEv cSu
  have cHM:=cal_of (P:=P) (w:=w) (base:=base) X G T.hm fun f fd F=>ok_HM F NL cHMR
  have cLT:=cal_of (P:=P) (w:=w) (base:=base) X G T.lt fun f fd F=>ok_LT F B cEnd
  have cCE:=cal_of (P:=P) (w:=w) (base:=base) X G T.ce fun f fd F=>ok_CE F B cLT
  have cLng:=cal_of (P:=P) (w:=w) (base:=base) X G T.lng fun f fd F=>ok_Lng F cLT cEnd
  have cAM:=cal_of (P:=P) (w:=w) (base:=base) X G T.am fun f fd F=>ok_AM F B NL cCE cLng
  have cPlW:=cal_of (P:=P) (w:=w) (base:=base) X G T.plw fun f fd F=>ok_plw F hen cEnds
  have cPbs:=cal_of (P:=P) (w:=w) (base:=base) X G T.pbs fun f fd F=>ok_pbs F cEnds cPlW
  have cAny:=cal_of (P:=P) (w:=w) (base:=base) X G T.anyhas fun f fd F=>ok_anyhas F hany
  have cAlone:=cal_of (P:=P) (w:=w) (base:=base) X G T.alone fun f fd F=>ok_alone F B cAny
  have cLong:=cal_of (P:=P) (w:=w) (base:=base) X G T.longer fun f fd F=>ok_longer F B
  have cNeed:=cal_of (P:=P) (w:=w) (base:=base) X G T.needed fun f fd F=>ok_needed F B N cPbs cAlone cLong
  have cIsPl:=cal_of (P:=P) (w:=w) (base:=base) X G T.ispl fun f fd F=>ok_ispl F B hli cIsWholeI cRise
  have cShow:=cal_of (P:=P) (w:=w) (base:=base) X G T.shows fun f fd F=>ok_shows F B hany N cIsPl cPbs cAlone
  have cCell:=cal_of (P:=P) (w:=w) (base:=base) X G T.cell fun f fd F=>ok_cell F B
  have cDrawn:=cal_of (P:=P) (w:=w) (base:=base) X G T.drawn fun f fd F=>ok_drawn F cCell
  have cName:=cal_of (P:=P) (w:=w) (base:=base) X G T.lname fun f fd F=>ok_name F B cDrawn
  have cBook:=cal_of (P:=P) (w:=w) (base:=base) X G T.lbook fun f fd F=>ok_book F B cDrawn cName
  exact ok_law F B ⟨hli,hen⟩ ⟨cDrawn,cName,cBook,cAM,cHM,cNeed,cShow,cSh,cLess,cMk,cGO,cMkrs,cMaker⟩
end
theorem all_mk {l:PySem.W.OpenLaw}{w:World}{K:PySem.W.Frag}{h:Heap}{mg:Str→Option Value}{fa f4:Addr} (X:K.In h) (G:h.Ns mainGlobals mg) (hfa:mg "law" = some (.ref fa))
    {od4 an4:Option Addr} {sl4:Array (Option Value)} {oc4 kV4 dc4 pm4 cd4 ct4:Value} (T:Top K)
    (a4:PySem.W.nsIn K mainGlobals "law" = some (some (.ref f4))) (l4:K.lookup f4=some ⟨oc4,od4,.func (PySem.W.fnOf "law" "law" (defArgs sLaw) (defBody sLaw) (defScope sLaw) .none kV4 dc4 pm4 an4 cd4 ct4),sl4⟩) (c4:PySem.W.codeIn K cd4 "law" = true) (k4:PySem.W.keepIn K (.ref f4)=true) :
    ∃ fd:FuncData,(∀ (s:Shared) (v:Value),BindsTo s fd ⟨[v],[]⟩ [("_law_script",v)])∧∀ base:Heap,K.In base→base.Ns mainGlobals mg→FnOk l.prog w K mg base CX0 9 fa fd ["_law_script"] (spLaw K):=by
  have e:=hfa.symm.trans (PySem.W.mg_of X G a4)
  cases e
  have F4:=fun_mk (st:=sLaw) l4 c4 k4
  exact ⟨PySem.W.fnOf "law" "law" (defArgs sLaw) (defBody sLaw) (defScope sLaw) .none kV4 dc4 pm4 an4 cd4 ct4,fun s v=>.of_eq rfl,fun base _ _=>law_mk X G T F4⟩
theorem walk {l:PySem.W.OpenLaw}{q:Program}{loose:List Str}{XP:(Str→Option Value)→Heap→Prop}{YP:World→Heap→Prop}{d:DefRec}{K:Params→PySem.W.Frag} (hn:l.most=some 63) (hdf:d.params.defaults=[])
    (hY:∀ (w:World) (h:Heap),YP w h→(K w.params).In h)
    (F:∀ (w:World) (mg:Str→Option Value) (fa:Addr) (h:Heap),(K w.params).In h→h.Ns mainGlobals mg→mg d.name=some (.ref fa) →
      ∃ fd:FuncData,(∀ (s:Shared) (u:Value),BindsTo s fd ⟨[u],[]⟩ [("_law_script",u)])∧∀ base:Heap,(K w.params).In base→base.Ns mainGlobals mg→FnOk l.prog w (K w.params) mg base CX0 9 fa fd ["_law_script"] (spLaw (K w.params))) :
    PySem.W.WalkO q loose XP YP l.row.toRowW d [] (fun f vs=>PySem.call f vs) :=
  L2.walk_of (n:=63) (k:=9) (x := "_law_script") (CX:=fun _=>CX0) (sp:=fun w=>spLaw (K w.params)) hn (by decide) hdf ⟨rfl,by decide,by decide⟩ hY F (fun _ _ a ns hl _ hS=>⟨a,ns,rfl,hS,hl,fun _=>rfl⟩) fun _ _ _ _ _ z=>z
end Kn
end
section
open PySem PySem.W PyProof.Rows
set_option maxRecDepth 100000 in
set_option maxHeartbeats 0 in
theorem PySem.Challenge.cw_kinnames_k51_whole_makers_holds : PySem.Challenge.rw_kinnames_k51_whole_makers.Holds := by
  w_on; o_law
  refine PySem.W.holds_open (q:=Kn.kq) (loose:=Kn.klo) (Xt:=fun s=>xlAt Kn.kq [] s && recOk [] s) (XP:=XL Kn.kq []) (Yf:=Hook.obs (kHook Kn.kfr Kn.kas Kn.kas_e)) (Ya:=Hook.val (kHook Kn.kfr Kn.kas Kn.kas_e)) (YP:=Hook.says (kHook Kn.kfr Kn.kas Kn.kas_e)) (N:=5434) Kn.hl (Hook.of (kHook Kn.kfr Kn.kas Kn.kas_e)) (Hook.keeps (kHook Kn.kfr Kn.kas Kn.kas_e)) (fun s e=>xl_of s (Bool.and_eq_true_iff.mp e).1) XL.keeps (by rfl) (by rfl) (by rfl) (fun s e=>recFacts_of (Bool.and_eq_true_iff.mp e).2) (by rfl) (by first | assumption | decide +kernel) (by decide +kernel) ⟨rfl,rfl,rfl,rfl,rfl,by decide +kernel⟩ ?hw ?hc
  (case hw=>w_witness2)
  k_fill
  refine Kn.walk (l:=PySem.Challenge.rw_kinnames_k51_whole_makers) rfl rfl (fun w h Y=>PySem.W.kIn_of Y) ?F
  case F =>
    intro w mg fa h KX G hmg
    refine' Kn.all_mk KX G hmg ?T ?a4 ?l4 ?c4 ?k4
    (case T =>
      refine' ⟨?is_name,?is_book,?is_whole,?is_order,?is_rising,?need_book,?need_books,?need_order,?need_whole,?need_name,?end_of,?ends,?rows,?gcd,?low,?times,?is_less,?place,?part_in,?stepsR,?shareR,?share,?makes,?even,?left,?follow,?nexts,?suma,?needlen,?hmr,?hm,?lt,?ce,?lng,?am,?mkrs,?maker,?go,?plw,?pbs,?anyhas,?alone,?longer,?needed,?ispl,?shows,?cell,?drawn,?lname,?lbook,?letters,?ml,?mn,?mo,?ib,?nought,?whole,?anyC,?zlen,?zrange,?zall,?zisinstance,?zstr,?ztuple,?zint,?zbool,?zsorted,?zsum,?zmin,?zdict,?zlist,?zenumerate,?zany,?zzip⟩
      (case is_name=>refine' Kn.has_mk _ (fun fd F=>F.binds fun _ _ _ _ _ _ us hl=>match us,hl with | [_],_=>rfl) ?kna ?knl ?knc ?knk; (case kna=>k_is); (case knl=>k_is); (case knc=>k_is); (case knk=>k_is))
      (case is_book=>refine' Kn.has_mk _ (fun fd F=>F.binds fun _ _ _ _ _ _ us hl=>match us,hl with | [_],_=>rfl) ?kna ?knl ?knc ?knk; (case kna=>k_is); (case knl=>k_is); (case knc=>k_is); (case knk=>k_is))
      (case is_whole=>refine' Kn.has_mk _ (fun fd F=>F.binds fun _ _ _ _ _ _ us hl=>match us,hl with | [_,_,_],_=>rfl) ?kna ?knl ?knc ?knk; (case kna=>k_is); (case knl=>k_is); (case knc=>k_is); (case knk=>k_is))
      (case is_order=>refine' Kn.has_mk _ (fun fd F=>F.binds fun _ _ _ _ _ _ us hl=>match us,hl with | [_],_=>rfl) ?kna ?knl ?knc ?knk; (case kna=>k_is); (case knl=>k_is); (case knc=>k_is); (case knk=>k_is))
      (case is_rising=>refine' Kn.has_mk _ (fun fd F=>F.binds fun _ _ _ _ _ _ us hl=>match us,hl with | [_],_=>rfl) ?kna ?knl ?knc ?knk; (case kna=>k_is); (case knl=>k_is); (case knc=>k_is); (case knk=>k_is))
      (case need_book=>refine' Kn.has_mk _ (fun fd F=>F.binds fun _ _ _ _ _ _ us hl=>match us,hl with | [_],_=>rfl) ?kna ?knl ?knc ?knk; (case kna=>k_is); (case knl=>k_is); (case knc=>k_is); (case knk=>k_is))
      (case need_books=>refine' Kn.has_mk _ (fun fd F=>F.binds fun _ _ _ _ _ _ us hl=>match us,hl with | [_],_=>rfl) ?kna ?knl ?knc ?knk; (case kna=>k_is); (case knl=>k_is); (case knc=>k_is); (case knk=>k_is))
      (case need_order=>refine' Kn.has_mk _ (fun fd F=>F.binds fun _ _ _ _ _ _ us hl=>match us,hl with | [_],_=>rfl) ?kna ?knl ?knc ?knk; (case kna=>k_is); (case knl=>k_is); (case knc=>k_is); (case knk=>k_is))
      (case need_whole=>refine' Kn.has_mk _ (fun fd F=>F.binds fun _ _ _ _ _ _ us hl=>match us,hl with | [_,_,_],_=>rfl) ?kna ?knl ?knc ?knk; (case kna=>k_is); (case knl=>k_is); (case knc=>k_is); (case knk=>k_is))
      (case need_name=>refine' Kn.has_mk _ (fun fd F=>F.binds fun _ _ _ _ _ _ us hl=>match us,hl with | [_],_=>rfl) ?kna ?knl ?knc ?knk; (case kna=>k_is); (case knl=>k_is); (case knc=>k_is); (case knk=>k_is))
      (case end_of=>refine' Kn.has_mk _ (fun fd F=>F.binds fun _ _ _ _ _ _ us hl=>match us,hl with | [_,_],_=>rfl) ?kna ?knl ?knc ?knk; (case kna=>k_is); (case knl=>k_is); (case knc=>k_is); (case knk=>k_is))
      (case ends=>refine' Kn.has_mk _ (fun fd F=>F.binds fun _ _ _ _ _ _ us hl=>match us,hl with | [_,_],_=>rfl) ?kna ?knl ?knc ?knk; (case kna=>k_is); (case knl=>k_is); (case knc=>k_is); (case knk=>k_is))
      (case rows=>refine' Kn.has_mk _ (fun fd F=>F.binds fun _ _ _ _ _ _ us hl=>match us,hl with | [_,_],_=>rfl) ?kna ?knl ?knc ?knk; (case kna=>k_is); (case knl=>k_is); (case knc=>k_is); (case knk=>k_is))
      (case gcd=>refine' Kn.has_mk _ (fun fd F=>F.binds fun _ _ _ _ _ _ us hl=>match us,hl with | [_,_],_=>rfl) ?kna ?knl ?knc ?knk; (case kna=>k_is); (case knl=>k_is); (case knc=>k_is); (case knk=>k_is))
      (case low=>refine' Kn.has_mk _ (fun fd F=>F.binds fun _ _ _ _ _ _ us hl=>match us,hl with | [_,_],_=>rfl) ?kna ?knl ?knc ?knk; (case kna=>k_is); (case knl=>k_is); (case knc=>k_is); (case knk=>k_is))
      (case times=>refine' Kn.has_mk _ (fun fd F=>F.binds fun _ _ _ _ _ _ us hl=>match us,hl with | [_,_],_=>rfl) ?kna ?knl ?knc ?knk; (case kna=>k_is); (case knl=>k_is); (case knc=>k_is); (case knk=>k_is))
      (case is_less=>refine' Kn.has_mk _ (fun fd F=>F.binds fun _ _ _ _ _ _ us hl=>match us,hl with | [_,_],_=>rfl) ?kna ?knl ?knc ?knk; (case kna=>k_is); (case knl=>k_is); (case knc=>k_is); (case knk=>k_is))
      (case place=>refine' Kn.has_mk _ (fun fd F=>F.binds fun _ _ _ _ _ _ us hl=>match us,hl with | [_],_=>rfl) ?kna ?knl ?knc ?knk; (case kna=>k_is); (case knl=>k_is); (case knc=>k_is); (case knk=>k_is))
      (case part_in=>refine' Kn.has_mk _ (fun fd F=>F.binds fun _ _ _ _ _ _ us hl=>match us,hl with | [_,_],_=>rfl) ?kna ?knl ?knc ?knk; (case kna=>k_is); (case knl=>k_is); (case knc=>k_is); (case knk=>k_is))
      (case stepsR=>refine' Kn.has_mk _ (fun fd F=>F.binds fun _ _ _ _ _ _ us hl=>match us,hl with | [_,_,_],_=>rfl) ?kna ?knl ?knc ?knk; (case kna=>k_is); (case knl=>k_is); (case knc=>k_is); (case knk=>k_is))
      (case shareR=>refine' Kn.has_mk _ (fun fd F=>F.binds fun _ _ _ _ _ _ us hl=>match us,hl with | [_,_,_],_=>rfl) ?kna ?knl ?knc ?knk; (case kna=>k_is); (case knl=>k_is); (case knc=>k_is); (case knk=>k_is))
      (case share=>refine' Kn.has_mk _ (fun fd F=>F.binds fun _ _ _ _ _ _ us hl=>match us,hl with | [_,_,_],_=>rfl) ?kna ?knl ?knc ?knk; (case kna=>k_is); (case knl=>k_is); (case knc=>k_is); (case knk=>k_is))
      (case makes=>refine' Kn.has_mk _ (fun fd F=>F.binds fun _ _ _ _ _ _ us hl=>match us,hl with | [_,_,_],_=>rfl) ?kna ?knl ?knc ?knk; (case kna=>k_is); (case knl=>k_is); (case knc=>k_is); (case knk=>k_is))
      (case even=>refine' Kn.has_mk _ (fun fd F=>F.binds fun _ _ _ _ _ _ us hl=>match us,hl with | [_],_=>rfl) ?kna ?knl ?knc ?knk; (case kna=>k_is); (case knl=>k_is); (case knc=>k_is); (case knk=>k_is))
      (case left=>refine' Kn.has_mk _ (fun fd F=>F.binds fun _ _ _ _ _ _ us hl=>match us,hl with | [_,_],_=>rfl) ?kna ?knl ?knc ?knk; (case kna=>k_is); (case knl=>k_is); (case knc=>k_is); (case knk=>k_is))
      (case follow=>refine' Kn.has_mk _ (fun fd F=>F.binds fun _ _ _ _ _ _ us hl=>match us,hl with | [_,_],_=>rfl) ?kna ?knl ?knc ?knk; (case kna=>k_is); (case knl=>k_is); (case knc=>k_is); (case knk=>k_is))
      (case nexts=>refine' Kn.has_mk _ (fun fd F=>F.binds fun _ _ _ _ _ _ us hl=>match us,hl with | [_,_,_,_],_=>rfl) ?kna ?knl ?knc ?knk; (case kna=>k_is); (case knl=>k_is); (case knc=>k_is); (case knk=>k_is))
      (case suma=>refine' Kn.has_mk _ (fun fd F=>F.binds fun _ _ _ _ _ _ us hl=>match us,hl with | [_,_,_,_],_=>rfl) ?kna ?knl ?knc ?knk; (case kna=>k_is); (case knl=>k_is); (case knc=>k_is); (case knk=>k_is))
      (case needlen=>refine' Kn.has_mk _ (fun fd F=>F.binds fun _ _ _ _ _ _ us hl=>match us,hl with | [_],_=>rfl) ?kna ?knl ?knc ?knk; (case kna=>k_is); (case knl=>k_is); (case knc=>k_is); (case knk=>k_is))
      (case hmr=>refine' Kn.has_mk _ (fun fd F=>F.binds fun _ _ _ _ _ _ us hl=>match us,hl with | [_,_,_],_=>rfl) ?kna ?knl ?knc ?knk; (case kna=>k_is); (case knl=>k_is); (case knc=>k_is); (case knk=>k_is))
      (case hm=>refine' Kn.has_mk _ (fun fd F=>F.binds fun _ _ _ _ _ _ us hl=>match us,hl with | [_,_,_],_=>rfl) ?kna ?knl ?knc ?knk; (case kna=>k_is); (case knl=>k_is); (case knc=>k_is); (case knk=>k_is))
      (case lt=>refine' Kn.has_mk _ (fun fd F=>F.binds fun _ _ _ _ _ _ us hl=>match us,hl with | [_,_,_,_],_=>rfl) ?kna ?knl ?knc ?knk; (case kna=>k_is); (case knl=>k_is); (case knc=>k_is); (case knk=>k_is))
      (case ce=>refine' Kn.has_mk _ (fun fd F=>F.binds fun _ _ _ _ _ _ us hl=>match us,hl with | [_,_,_],_=>rfl) ?kna ?knl ?knc ?knk; (case kna=>k_is); (case knl=>k_is); (case knc=>k_is); (case knk=>k_is))
      (case lng=>refine' Kn.has_mk _ (fun fd F=>F.binds fun _ _ _ _ _ _ us hl=>match us,hl with | [_,_,_,_],_=>rfl) ?kna ?knl ?knc ?knk; (case kna=>k_is); (case knl=>k_is); (case knc=>k_is); (case knk=>k_is))
      (case am=>refine' Kn.has_mk _ (fun fd F=>F.binds fun _ _ _ _ _ _ us hl=>match us,hl with | [_,_,_],_=>rfl) ?kna ?knl ?knc ?knk; (case kna=>k_is); (case knl=>k_is); (case knc=>k_is); (case knk=>k_is))
      (case mkrs=>refine' Kn.has_mk _ (fun fd F=>F.binds fun _ _ _ _ _ _ us hl=>match us,hl with | [_,_,_],_=>rfl) ?kna ?knl ?knc ?knk; (case kna=>k_is); (case knl=>k_is); (case knc=>k_is); (case knk=>k_is))
      (case maker=>refine' Kn.has_mk _ (fun fd F=>F.binds fun _ _ _ _ _ _ us hl=>match us,hl with | [_,_,_],_=>rfl) ?kna ?knl ?knc ?knk; (case kna=>k_is); (case knl=>k_is); (case knc=>k_is); (case knk=>k_is))
      (case go=>refine' Kn.has_mk _ (fun fd F=>F.binds fun _ _ _ _ _ _ us hl=>match us,hl with | [_,_],_=>rfl) ?kna ?knl ?knc ?knk; (case kna=>k_is); (case knl=>k_is); (case knc=>k_is); (case knk=>k_is))
      (case plw=>refine' Kn.has_mk _ (fun fd F=>F.binds fun _ _ _ _ _ _ us hl=>match us,hl with | [_,_,_],_=>rfl) ?kna ?knl ?knc ?knk; (case kna=>k_is); (case knl=>k_is); (case knc=>k_is); (case knk=>k_is))
      (case pbs=>refine' Kn.has_mk _ (fun fd F=>F.binds fun _ _ _ _ _ _ us hl=>match us,hl with | [_,_,_],_=>rfl) ?kna ?knl ?knc ?knk; (case kna=>k_is); (case knl=>k_is); (case knc=>k_is); (case knk=>k_is))
      (case anyhas=>refine' Kn.has_mk _ (fun fd F=>F.binds fun _ _ _ _ _ _ us hl=>match us,hl with | [_,_],_=>rfl) ?kna ?knl ?knc ?knk; (case kna=>k_is); (case knl=>k_is); (case knc=>k_is); (case knk=>k_is))
      (case alone=>refine' Kn.has_mk _ (fun fd F=>F.binds fun _ _ _ _ _ _ us hl=>match us,hl with | [_,_],_=>rfl) ?kna ?knl ?knc ?knk; (case kna=>k_is); (case knl=>k_is); (case knc=>k_is); (case knk=>k_is))
      (case longer=>refine' Kn.has_mk _ (fun fd F=>F.binds fun _ _ _ _ _ _ us hl=>match us,hl with | [_,_],_=>rfl) ?kna ?knl ?knc ?knk; (case kna=>k_is); (case knl=>k_is); (case knc=>k_is); (case knk=>k_is))
      (case needed=>refine' Kn.has_mk _ (fun fd F=>F.binds fun _ _ _ _ _ _ us hl=>match us,hl with | [_,_,_],_=>rfl) ?kna ?knl ?knc ?knk; (case kna=>k_is); (case knl=>k_is); (case knc=>k_is); (case knk=>k_is))
      (case ispl=>refine' Kn.has_mk _ (fun fd F=>F.binds fun _ _ _ _ _ _ us hl=>match us,hl with | [_,_],_=>rfl) ?kna ?knl ?knc ?knk; (case kna=>k_is); (case knl=>k_is); (case knc=>k_is); (case knk=>k_is))
      (case shows=>refine' Kn.has_mk _ (fun fd F=>F.binds fun _ _ _ _ _ _ us hl=>match us,hl with | [_,_,_,_],_=>rfl) ?kna ?knl ?knc ?knk; (case kna=>k_is); (case knl=>k_is); (case knc=>k_is); (case knk=>k_is))
      (case cell=>refine' Kn.has_mk _ (fun fd F=>F.binds fun _ _ _ _ _ _ us hl=>match us,hl with | [_,_],_=>rfl) ?kna ?knl ?knc ?knk; (case kna=>k_is); (case knl=>k_is); (case knc=>k_is); (case knk=>k_is))
      (case drawn=>refine' Kn.has_mk _ (fun fd F=>F.binds fun _ _ _ _ _ _ us hl=>match us,hl with | [_,_,_],_=>rfl) ?kna ?knl ?knc ?knk; (case kna=>k_is); (case knl=>k_is); (case knc=>k_is); (case knk=>k_is))
      (case lname=>refine' Kn.has_mk _ (fun fd F=>F.binds fun _ _ _ _ _ _ us hl=>match us,hl with | [_,_,_],_=>rfl) ?kna ?knl ?knc ?knk; (case kna=>k_is); (case knl=>k_is); (case knc=>k_is); (case knk=>k_is))
      (case lbook=>refine' Kn.has_mk _ (fun fd F=>F.binds fun _ _ _ _ _ _ us hl=>match us,hl with | [_,_,_,_],_=>rfl) ?kna ?knl ?knc ?knk; (case kna=>k_is); (case knl=>k_is); (case knc=>k_is); (case knk=>k_is))
      (case letters=>refine' Kn.lets_mk ?knq; (case knq=>k_is))
      (case ml=>refine' Kn.int_mk ?knq; (case knq=>k_is))
      (case mn=>refine' Kn.int_mk ?knq; (case knq=>k_is))
      (case mo=>refine' Kn.int_mk ?knq; (case knq=>k_is))
      (case ib=>first | rfl | kernel_rfl | decide +kernel)
      (case nought=>refine' Kn.two_mk ?knq ?knr; (case knq=>k_is); (case knr=>k_is))
      (case whole=>refine' Kn.two_mk ?knq ?knr; (case knq=>k_is); (case knr=>k_is))
      (case anyC=>refine' Kn.Ln.str_mk ?knq; (case knq=>k_is))
      (case zlen=>k_is)
      (case zrange=>k_is)
      (case zall=>k_is)
      (case zisinstance=>k_is)
      (case zstr=>k_is)
      (case ztuple=>k_is)
      (case zint=>k_is)
      (case zbool=>k_is)
      (case zsorted=>k_is)
      (case zsum=>k_is)
      (case zmin=>k_is)
      (case zdict=>k_is)
      (case zlist=>k_is)
      (case zenumerate=>k_is)
      (case zany=>k_is)
      (case zzip=>k_is))
    (case a4=>k_is); (case l4=>k_is); (case c4=>k_is); (case k4=>k_is)
end
